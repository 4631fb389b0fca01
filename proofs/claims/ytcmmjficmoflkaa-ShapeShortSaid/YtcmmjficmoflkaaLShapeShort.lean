/-
  The statement ShapeShort is proved: at every input the law answers true, and its input reads as it did. No conditions.
-/
import Derived.Test.YtcmmjficmoflkaaP
import Derived.Test.YtcmmjficmoflkaaRows
import Derived.ProofKit
import Derived.SizedLaws
namespace Go.Proofs.Ytcmmjficmoflkaa
open Go Go.Sy Go.RowKit Go.ChangeShapes Go.WideShapes Go.ChangeAt
set_option linter.unusedVariables false
set_option linter.unusedSimpArgs false
set_option maxRecDepth 100000
set_option maxHeartbeats 4000000

theorem Try.own : ownKnob Try.prog.godebug = none := by kernel_rfl
theorem Try.laidOut : laidOutB Try.prog = true := by kernel_rfl

theorem listN2 {α : Type} {l : List α} (h : l.length = 2) : ∃ a0 a1, l = [a0, a1] := by
  match l, h with
  | [a0, a1], _ => exact ⟨a0, a1, rfl⟩
theorem listN3 {α : Type} {l : List α} (h : l.length = 3) : ∃ a0 a1 a2, l = [a0, a1, a2] := by
  match l, h with
  | [a0, a1, a2], _ => exact ⟨a0, a1, a2, rfl⟩
theorem listN17 {α : Type} {l : List α} (h : l.length = 17) : ∃ a0 a1 a2 a3 a4 a5 a6 a7 a8 a9 a10 a11 a12 a13 a14 a15 a16, l = [a0, a1, a2, a3, a4, a5, a6, a7, a8, a9, a10, a11, a12, a13, a14, a15, a16] := by
  match l, h with
  | [a0, a1, a2, a3, a4, a5, a6, a7, a8, a9, a10, a11, a12, a13, a14, a15, a16], _ => exact ⟨a0, a1, a2, a3, a4, a5, a6, a7, a8, a9, a10, a11, a12, a13, a14, a15, a16, rfl⟩
/-- Its numbers are numbers of their kinds, its lists no longer than memory. -/
def WfSt108 (x : St108) : Prop := (WfI .i64) x.Kind_ ∧ (WfI .i32) x.R_
theorem tells_T109 {n : Nat} : Tells Try.prog (n + 2) 109 encSt108 WfSt108 := fun d cs h hs => by
  have hl : cs.length = 2 := (shows_len Try.underlying109 h).trans (by kernel_rfl)
  obtain ⟨c0, c1, rfl⟩ := listN2 hl
  obtain ⟨p0, h0, z0⟩ := shows_field Try.underlying109 h hs 0 3 [c0] (by kernel_rfl)
  obtain ⟨x0, e0, w0⟩ : ∃ x : Int, [c0] = (encI .i64) x ∧ (WfI .i64) x := (tells_int Try.underlying3) p0 _ h0 z0
  obtain ⟨p1, h1, z1⟩ := shows_field Try.underlying109 h hs 1 21 [c1] (by kernel_rfl)
  obtain ⟨x1, e1, w1⟩ : ∃ x : Int, [c1] = (encI .i32) x ∧ (WfI .i32) x := (tells_int Try.underlying21) p1 _ h1 z1
  refine ⟨⟨x0, x1⟩, ?_, ⟨w0, w1⟩⟩
  show [c0] ++ [c1] = ((encI .i64) x0 ++ (encI .i32) x1)
  rw [e0, e1]
/-- Its numbers are numbers of their kinds, its lists no longer than memory. -/
def WfSt25 (x : St25) : Prop := (WfL WfSt108) x.Pre_ ∧ (WfL WfSt108) x.Suf_ ∧ (WfL WfSt108) x.NPre_ ∧ (WfL WfSt108) x.NSuf_ ∧ WfB x.Neg_ ∧ (WfI .i64) x.Hash_ ∧ (WfI .i64) x.MinInt_ ∧ (WfI .i64) x.MinFrac_ ∧ (WfI .i64) x.MaxFrac_ ∧ (WfI .i64) x.G1_ ∧ (WfI .i64) x.G2_ ∧ (WfI .i64) x.MinSig_ ∧ (WfI .i64) x.MaxSig_ ∧ (WfI .i64) x.Exp_ ∧ WfB x.ExpPlus_ ∧ (WfI .i32) x.Pad_ ∧ (WfI .i64) x.PadAt_
theorem tells_T26 {n : Nat} : Tells Try.prog (n + 4) 26 encSt25 WfSt25 := fun d cs h hs => by
  have hl : cs.length = 17 := (shows_len Try.underlying26 h).trans (by kernel_rfl)
  obtain ⟨c0, c1, c2, c3, c4, c5, c6, c7, c8, c9, c10, c11, c12, c13, c14, c15, c16, rfl⟩ := listN17 hl
  obtain ⟨p0, h0, z0⟩ := shows_field Try.underlying26 h hs 0 24 [c0] (by kernel_rfl)
  obtain ⟨x0, e0, w0⟩ : ∃ x : List St108, [c0] = (encL encSt108 2) x ∧ (WfL WfSt108) x := (tells_list (enc := encSt108) (Wf := WfSt108) Try.underlying24 (k := 2) (by kernel_rfl) (by kernel_rfl) tells_T109) p0 _ h0 z0
  obtain ⟨p1, h1, z1⟩ := shows_field Try.underlying26 h hs 1 24 [c1] (by kernel_rfl)
  obtain ⟨x1, e1, w1⟩ : ∃ x : List St108, [c1] = (encL encSt108 2) x ∧ (WfL WfSt108) x := (tells_list (enc := encSt108) (Wf := WfSt108) Try.underlying24 (k := 2) (by kernel_rfl) (by kernel_rfl) tells_T109) p1 _ h1 z1
  obtain ⟨p2, h2, z2⟩ := shows_field Try.underlying26 h hs 2 24 [c2] (by kernel_rfl)
  obtain ⟨x2, e2, w2⟩ : ∃ x : List St108, [c2] = (encL encSt108 2) x ∧ (WfL WfSt108) x := (tells_list (enc := encSt108) (Wf := WfSt108) Try.underlying24 (k := 2) (by kernel_rfl) (by kernel_rfl) tells_T109) p2 _ h2 z2
  obtain ⟨p3, h3, z3⟩ := shows_field Try.underlying26 h hs 3 24 [c3] (by kernel_rfl)
  obtain ⟨x3, e3, w3⟩ : ∃ x : List St108, [c3] = (encL encSt108 2) x ∧ (WfL WfSt108) x := (tells_list (enc := encSt108) (Wf := WfSt108) Try.underlying24 (k := 2) (by kernel_rfl) (by kernel_rfl) tells_T109) p3 _ h3 z3
  obtain ⟨p4, h4, z4⟩ := shows_field Try.underlying26 h hs 4 4 [c4] (by kernel_rfl)
  obtain ⟨x4, e4, w4⟩ : ∃ x : Bool, [c4] = encB x ∧ WfB x := (tells_bool Try.underlying4) p4 _ h4 z4
  obtain ⟨p5, h5, z5⟩ := shows_field Try.underlying26 h hs 5 3 [c5] (by kernel_rfl)
  obtain ⟨x5, e5, w5⟩ : ∃ x : Int, [c5] = (encI .i64) x ∧ (WfI .i64) x := (tells_int Try.underlying3) p5 _ h5 z5
  obtain ⟨p6, h6, z6⟩ := shows_field Try.underlying26 h hs 6 3 [c6] (by kernel_rfl)
  obtain ⟨x6, e6, w6⟩ : ∃ x : Int, [c6] = (encI .i64) x ∧ (WfI .i64) x := (tells_int Try.underlying3) p6 _ h6 z6
  obtain ⟨p7, h7, z7⟩ := shows_field Try.underlying26 h hs 7 3 [c7] (by kernel_rfl)
  obtain ⟨x7, e7, w7⟩ : ∃ x : Int, [c7] = (encI .i64) x ∧ (WfI .i64) x := (tells_int Try.underlying3) p7 _ h7 z7
  obtain ⟨p8, h8, z8⟩ := shows_field Try.underlying26 h hs 8 3 [c8] (by kernel_rfl)
  obtain ⟨x8, e8, w8⟩ : ∃ x : Int, [c8] = (encI .i64) x ∧ (WfI .i64) x := (tells_int Try.underlying3) p8 _ h8 z8
  obtain ⟨p9, h9, z9⟩ := shows_field Try.underlying26 h hs 9 3 [c9] (by kernel_rfl)
  obtain ⟨x9, e9, w9⟩ : ∃ x : Int, [c9] = (encI .i64) x ∧ (WfI .i64) x := (tells_int Try.underlying3) p9 _ h9 z9
  obtain ⟨p10, h10, z10⟩ := shows_field Try.underlying26 h hs 10 3 [c10] (by kernel_rfl)
  obtain ⟨x10, e10, w10⟩ : ∃ x : Int, [c10] = (encI .i64) x ∧ (WfI .i64) x := (tells_int Try.underlying3) p10 _ h10 z10
  obtain ⟨p11, h11, z11⟩ := shows_field Try.underlying26 h hs 11 3 [c11] (by kernel_rfl)
  obtain ⟨x11, e11, w11⟩ : ∃ x : Int, [c11] = (encI .i64) x ∧ (WfI .i64) x := (tells_int Try.underlying3) p11 _ h11 z11
  obtain ⟨p12, h12, z12⟩ := shows_field Try.underlying26 h hs 12 3 [c12] (by kernel_rfl)
  obtain ⟨x12, e12, w12⟩ : ∃ x : Int, [c12] = (encI .i64) x ∧ (WfI .i64) x := (tells_int Try.underlying3) p12 _ h12 z12
  obtain ⟨p13, h13, z13⟩ := shows_field Try.underlying26 h hs 13 3 [c13] (by kernel_rfl)
  obtain ⟨x13, e13, w13⟩ : ∃ x : Int, [c13] = (encI .i64) x ∧ (WfI .i64) x := (tells_int Try.underlying3) p13 _ h13 z13
  obtain ⟨p14, h14, z14⟩ := shows_field Try.underlying26 h hs 14 4 [c14] (by kernel_rfl)
  obtain ⟨x14, e14, w14⟩ : ∃ x : Bool, [c14] = encB x ∧ WfB x := (tells_bool Try.underlying4) p14 _ h14 z14
  obtain ⟨p15, h15, z15⟩ := shows_field Try.underlying26 h hs 15 21 [c15] (by kernel_rfl)
  obtain ⟨x15, e15, w15⟩ : ∃ x : Int, [c15] = (encI .i32) x ∧ (WfI .i32) x := (tells_int Try.underlying21) p15 _ h15 z15
  obtain ⟨p16, h16, z16⟩ := shows_field Try.underlying26 h hs 16 3 [c16] (by kernel_rfl)
  obtain ⟨x16, e16, w16⟩ : ∃ x : Int, [c16] = (encI .i64) x ∧ (WfI .i64) x := (tells_int Try.underlying3) p16 _ h16 z16
  refine ⟨⟨x0, x1, x2, x3, x4, x5, x6, x7, x8, x9, x10, x11, x12, x13, x14, x15, x16⟩, ?_, ⟨w0, w1, w2, w3, w4, w5, w6, w7, w8, w9, w10, w11, w12, w13, w14, w15, w16⟩⟩
  show [c0] ++ [c1] ++ [c2] ++ [c3] ++ [c4] ++ [c5] ++ [c6] ++ [c7] ++ [c8] ++ [c9] ++ [c10] ++ [c11] ++ [c12] ++ [c13] ++ [c14] ++ [c15] ++ [c16] = ((encL encSt108 2) x0 ++ (encL encSt108 2) x1 ++ (encL encSt108 2) x2 ++ (encL encSt108 2) x3 ++ encB x4 ++ (encI .i64) x5 ++ (encI .i64) x6 ++ (encI .i64) x7 ++ (encI .i64) x8 ++ (encI .i64) x9 ++ (encI .i64) x10 ++ (encI .i64) x11 ++ (encI .i64) x12 ++ (encI .i64) x13 ++ encB x14 ++ (encI .i32) x15 ++ (encI .i64) x16)
  rw [e0, e1, e2, e3, e4, e5, e6, e7, e8, e9, e10, e11, e12, e13, e14, e15, e16]
/-- Its numbers are numbers of their kinds, its lists no longer than memory. -/
def WfSt28 (x : St28) : Prop := WfB x.Neg_ ∧ (WfL (WfI .u8)) x.D_ ∧ (WfI .i64) x.E_
theorem tells_T29 {n : Nat} : Tells Try.prog (n + 3) 29 encSt28 WfSt28 := fun d cs h hs => by
  have hl : cs.length = 3 := (shows_len Try.underlying29 h).trans (by kernel_rfl)
  obtain ⟨c0, c1, c2, rfl⟩ := listN3 hl
  obtain ⟨p0, h0, z0⟩ := shows_field Try.underlying29 h hs 0 4 [c0] (by kernel_rfl)
  obtain ⟨x0, e0, w0⟩ : ∃ x : Bool, [c0] = encB x ∧ WfB x := (tells_bool Try.underlying4) p0 _ h0 z0
  obtain ⟨p1, h1, z1⟩ := shows_field Try.underlying29 h hs 1 27 [c1] (by kernel_rfl)
  obtain ⟨x1, e1, w1⟩ : ∃ x : List Int, [c1] = (encL (encI .u8) 1) x ∧ (WfL (WfI .u8)) x := (tells_list (enc := (encI .u8)) (Wf := (WfI .u8)) Try.underlying27 (k := 1) (by kernel_rfl) (by kernel_rfl) (tells_int Try.underlying5)) p1 _ h1 z1
  obtain ⟨p2, h2, z2⟩ := shows_field Try.underlying29 h hs 2 3 [c2] (by kernel_rfl)
  obtain ⟨x2, e2, w2⟩ : ∃ x : Int, [c2] = (encI .i64) x ∧ (WfI .i64) x := (tells_int Try.underlying3) p2 _ h2 z2
  refine ⟨⟨x0, x1, x2⟩, ?_, ⟨w0, w1, w2⟩⟩
  show [c0] ++ [c1] ++ [c2] = (encB x0 ++ (encL (encI .u8) 1) x1 ++ (encI .i64) x2)
  rw [e0, e1, e2]
theorem of_dec {x : St28} (w : WfSt28 x) : ∃ neg l E, x = ⟨neg, up l, E⟩ ∧ l.length ≤ 140737488355328 := by
  obtain ⟨neg, D, E⟩ := x
  obtain ⟨_, w2, _⟩ := w
  obtain ⟨l, rfl, _, hl⟩ := up_of w2
  exact ⟨neg, l, E, rfl, by rw [hl]; exact w2.1⟩
theorem of_pat {p : St25} (w : WfSt25 p) (n : Int) : ∃ b, exerguelaw17_of p n = some b ∧ (b = true → cntP p ∧ pfP p ∧ n ≤ 40) := by
  obtain ⟨w1, w2, w3, w4, _⟩ := w
  exact of_tot w1.1 w2.1 w3.1 w4.1

theorem Short_true (p : St25) (wp : WfSt25 p) (n : Int) (wn : WfI .i64 n) (d : St28) (wd : WfSt28 d) : exerguelaw17_ShapeShort p n d = some true := by
  obtain ⟨b1, e1, f1⟩ := of_pat wp n
  obtain ⟨neg, l, E, rfl, hl⟩ := of_dec wd
  obtain ⟨b2, e2, f2⟩ := rnear_eq (neg := neg) (E := E) hl
  unfold exerguelaw17_ShapeShort
  rw [shown_eq, e1, e2]
  simp only [Option.bind_some]
  cases b1 with
  | false => rfl
  | true =>
  cases b2 with
  | false => rfl
  | true =>
  by_cases hx : p.Exp_ > 0
  · rw [dT hx]; rfl
  by_cases hs : p.MaxSig_ > 0
  · rw [dF hx, dT hs]; rfl
  rw [dF hx, dF hs]
  obtain ⟨hc, hpf, hn⟩ := f1 rfl
  have hnr := f2.1 rfl
  obtain ⟨a, b, hfig, hr, ha, hb, ha7, hb11⟩ := figures_val (n := n) neg hc hn hnr.1 (near_E hnr) (near_600 hnr)
  obtain ⟨c1, c2, c3, c4, c5, c6, c7, c8, c9⟩ := hc
  have hE0 : bareE p l E = E := by unfold bareE; rw [if_pos (by omega)]
  rw [hE0] at hfig hr ha hb
  have hle : leastA p = p.MinInt_ := by unfold leastA; rw [if_neg (fun h => hs h.2)]
  have hlb : leastB p n l E = if n ≥ 0 then n else p.MinFrac_ := by unfold leastB; rw [if_neg hx, if_neg hs]
  have hlow := right_low hr
  have hsel : (bif (decide (n ≥ 0)) then (some n) else (some p.MinFrac_)) = some (leastB p n l E) := by
    rw [hlb]
    by_cases h : n ≥ 0
    · rw [dT h, if_pos h]; rfl
    · rw [dF h, if_neg h]; rfl
  have hs0 : 0 ≤ leastB p n l E := by rw [hlb]; split <;> omega
  simp only [cond_false, Bool.not_true, Option.bind_some, joinX]
  rw [hfig]
  simp only [Option.bind_some]
  rw [hsel]
  unfold behindV at hb
  generalize leastB p n l E = s at *
  simp only [Option.bind_some, up_len, figs_len, cond_true]
  have hbs : (b : Int) ≥ s := by omega
  have haa : (a : Int) ≥ p.MinInt_ := by
    unfold aheadV at ha; rw [hle] at ha; split at ha <;> omega
  have hT : (bif (decide ((b : Int) ≥ s)) then (some ((decide ((a : Int) ≥ p.MinInt_)))) else (some false)) = some true := by rw [dT hbs, dT haa]; rfl
  simp only [hT]
  have hW : (bif (decide ((a : Int) = 0)) then (some true) else (bif inR 0 a then (bif (decide ((nth (up (figs (magN l E) ((a : Int) - 1) a)) 0) > 0)) then (some true) else (bif (decide ((a : Int) ≤ p.MinInt_)) then (some true) else (some false))) else none)) = some true := by
    by_cases h0 : (a : Int) = 0
    · rw [dT h0]; rfl
    · rw [dF h0, inR_int (by omega) (by omega)]
      by_cases hm : (a : Int) ≤ p.MinInt_
      · rw [dT hm]; cases decide (nth (up (figs (magN l E) ((a : Int) - 1) a)) 0 > 0) <;> rfl
      · have hl0 : l ≠ [] := by
          intro h; unfold aheadV at ha; rw [if_pos h, hle] at ha; omega
        have hae : (a : Int) = E + l.length := by
          unfold aheadV magE at ha; rw [if_neg hl0, if_neg hl0, hle] at ha; omega
        have hfi := first_fig hr hl0
        have hnth := fig_up (A := magN l E) (M := (a : Int) - 1) (n := a) (j := 0) (by omega)
        have e : (a : Int) - 1 - ((0 : Nat) : Int) = E + l.length - 1 := by omega
        rw [e] at hnth
        rw [dT (show nth (up (figs (magN l E) ((a : Int) - 1) a)) 0 > 0 by
          have : nth (up (figs (magN l E) ((a : Int) - 1) a)) ((0 : Nat) : Int) = nth (up (figs (magN l E) ((a : Int) - 1) a)) 0 := rfl
          rw [← this, hnth]; omega)]
        rfl
  simp only [hW]
  by_cases h0 : (b : Int) = 0
  · rw [dT h0]; rfl
  · rw [dF h0, w64 (by omega) (by omega), inR_int (by omega) (by omega)]
    by_cases hm : (b : Int) ≤ s
    · rw [dT hm]; cases decide (nth (up (figs (magN l E) (-1) b)) ((b : Int) - 1) > 0) <;> rfl
    · have hbe : (b : Int) = -E := by omega
      have hl0 : l ≠ [] := by
        intro h; have := hr.2.1 h; omega
      have hla := last_fig hr hl0
      have hnth := fig_up (A := magN l E) (M := -1) (n := b) (j := b - 1) (by omega)
      have e : (-1 : Int) - ((b - 1 : Nat) : Int) = E := by omega
      have e2 : ((b - 1 : Nat) : Int) = (b : Int) - 1 := by omega
      rw [e, e2] at hnth
      rw [hnth, dT (by omega)]; rfl

set_option maxRecDepth 100000 in
theorem ShapeShort_lifted (os : Os) (started : os.Started) (H : Type) (enc : TypeId × Value → H) :
    ReturnsInHanded {} Try.checked os 7 .any (Rows.shapeShortSpec.pre6 enc Try.prog Try.f7 Rows.shapeShortRow.domain false) (Rows.shapeShortSpec.post enc Try.prog Try.f7 false true false false) := by
  refine returnsInHanded_of_change_sized (C := Try.checked) Try.own started (by kernel_rfl) Try.func7
    (ChangeSpec.witness6 (enc := enc) (C := Try.checked) false ⟨#[], #[.agg #[.slice none 0 0, .slice none 0 0, .slice none 0 0, .slice none 0 0, .bool false, .int .i64 0, .int .i64 0, .int .i64 0, .int .i64 0, .int .i64 0, .int .i64 0, .int .i64 0, .int .i64 0, .int .i64 0, .bool false, .int .i32 0, .int .i64 0], .int .i64 0, .agg #[.bool false, .slice none 0 0, .int .i64 0]], []⟩ 8 (by kernel_rfl) (by kernel_rfl) (by kernel_rfl) (by kernel_rfl)) ?_
  intro W base args ds gs before hval0 hW _ hsz0 _
  have hsz : (DataW.weightsEach Try.prog (Try.f7.params.toList ++ Rows.shapeShortSpec.plain.varTypes Try.prog) (ds ++ gs)).all (· ≤ reachBytes) = true := hsz0
  clear hsz0
  refine law_post (P := Try.prog) (n := 4) (tb := 4) Try.laidOut Try.underlying4 rfl rfl (by kernel_rfl) (fun h => ?_) hval0 hW ?_
  · rw [Try.params7] at h
    obtain ⟨d0, d1, d2, rfl⟩ := l3 h
    exact ⟨rfl, rfl, rfl⟩
  · intro ss hg hl1 hl2 hs
    subst hg
    rw [Try.params7] at hl1 hl2 hs hsz
    obtain ⟨d0, d1, d2, rfl⟩ := l3 hl1
    obtain ⟨s0, s1, s2, rfl⟩ := l3 hl2
    obtain ⟨cs0, rfl, hc0⟩ := showsV_struct Try.underlying26 (hs 0 26 _ _ rfl rfl rfl)
    obtain ⟨a0, rfl, w0⟩ := tells_T26 (n := 0) _ _ hc0 (sized_param hsz (j := 0) rfl rfl)
    obtain ⟨a1, e1, w1⟩ := (show Tells Try.prog 4 3 (encI .i64) (WfI .i64) from (tells_int Try.underlying3)) _ _ (showsV_scalar Try.underlying3 (fun _ => by simp) (fun _ _ => by simp) (hs 1 3 _ _ rfl rfl rfl)) (sized_param hsz (j := 1) rfl rfl)
    obtain rfl : s1 = .int .i64 a1 := (List.cons.inj e1).1
    obtain ⟨cs2, rfl, hc2⟩ := showsV_struct Try.underlying29 (hs 2 29 _ _ rfl rfl rfl)
    obtain ⟨a2, rfl, w2⟩ := tells_T29 (n := 1) _ _ hc2 (sized_param hsz (j := 2) rfl rfl)
    exact ⟨[], exerguelaw17_ShapeShort_ok (Short_true a0 w0 a1 w1 a2 w2)⟩
theorem ShapeShort_holds : Rows.ShapeShortSaid :=
  OpenClaim.holds_of_wide 7 Try.f7 rfl rfl rfl rfl rfl rfl rfl ⟨rfl, rfl, rfl, rfl, rfl⟩ rfl rfl rfl rfl rfl (by kernel_rfl) Try.func7 (by kernel_rfl)
    (of_decide_eq_true (by kernel_rfl)) (by unfold Func.isWrapper; first | (rw [if_pos (by decide +kernel)]; kernel_rfl) | (rw [if_neg (by decide +kernel)]; exact ⟨rfl, rfl⟩))
    (fun os started H enc _ => ShapeShort_lifted os started H enc)

end Go.Proofs.Ytcmmjficmoflkaa
