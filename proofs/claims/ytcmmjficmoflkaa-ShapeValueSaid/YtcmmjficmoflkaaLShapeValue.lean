/-
  The statement ShapeValue is proved: at every input the law answers true, and its input reads as it did. No conditions.
-/
import Derived.Test.YtcmmjficmoflkaaP
import Derived.Test.YtcmmjficmoflkaaRows
import Derived.ProofKit
import Derived.SizedLaws
namespace Go.Proofs.Ytcmmjficmoflkaa
open Go Go.Sy Go.RowKit Go.ChangeShapes Go.WideShapes Go.ChangeAt
set_option linter.unusedVariables false
set_option linter.unusedSimpArgs false
set_option maxRecDepth 100000
set_option maxHeartbeats 4000000

theorem Try.own : ownKnob Try.prog.godebug = none := by kernel_rfl
theorem Try.laidOut : laidOutB Try.prog = true := by kernel_rfl

theorem listN2 {α : Type} {l : List α} (h : l.length = 2) : ∃ a0 a1, l = [a0, a1] := by
  match l, h with
  | [a0, a1], _ => exact ⟨a0, a1, rfl⟩
theorem listN3 {α : Type} {l : List α} (h : l.length = 3) : ∃ a0 a1 a2, l = [a0, a1, a2] := by
  match l, h with
  | [a0, a1, a2], _ => exact ⟨a0, a1, a2, rfl⟩
theorem listN17 {α : Type} {l : List α} (h : l.length = 17) : ∃ a0 a1 a2 a3 a4 a5 a6 a7 a8 a9 a10 a11 a12 a13 a14 a15 a16, l = [a0, a1, a2, a3, a4, a5, a6, a7, a8, a9, a10, a11, a12, a13, a14, a15, a16] := by
  match l, h with
  | [a0, a1, a2, a3, a4, a5, a6, a7, a8, a9, a10, a11, a12, a13, a14, a15, a16], _ => exact ⟨a0, a1, a2, a3, a4, a5, a6, a7, a8, a9, a10, a11, a12, a13, a14, a15, a16, rfl⟩
/-- Its numbers are numbers of their kinds, its lists no longer than memory. -/
def WfSt108 (x : St108) : Prop := (WfI .i64) x.Kind_ ∧ (WfI .i32) x.R_
theorem tells_T109 {n : Nat} : Tells Try.prog (n + 2) 109 encSt108 WfSt108 := fun d cs h hs => by
  have hl : cs.length = 2 := (shows_len Try.underlying109 h).trans (by kernel_rfl)
  obtain ⟨c0, c1, rfl⟩ := listN2 hl
  obtain ⟨p0, h0, z0⟩ := shows_field Try.underlying109 h hs 0 3 [c0] (by kernel_rfl)
  obtain ⟨x0, e0, w0⟩ : ∃ x : Int, [c0] = (encI .i64) x ∧ (WfI .i64) x := (tells_int Try.underlying3) p0 _ h0 z0
  obtain ⟨p1, h1, z1⟩ := shows_field Try.underlying109 h hs 1 21 [c1] (by kernel_rfl)
  obtain ⟨x1, e1, w1⟩ : ∃ x : Int, [c1] = (encI .i32) x ∧ (WfI .i32) x := (tells_int Try.underlying21) p1 _ h1 z1
  refine ⟨⟨x0, x1⟩, ?_, ⟨w0, w1⟩⟩
  show [c0] ++ [c1] = ((encI .i64) x0 ++ (encI .i32) x1)
  rw [e0, e1]
/-- Its numbers are numbers of their kinds, its lists no longer than memory. -/
def WfSt25 (x : St25) : Prop := (WfL WfSt108) x.Pre_ ∧ (WfL WfSt108) x.Suf_ ∧ (WfL WfSt108) x.NPre_ ∧ (WfL WfSt108) x.NSuf_ ∧ WfB x.Neg_ ∧ (WfI .i64) x.Hash_ ∧ (WfI .i64) x.MinInt_ ∧ (WfI .i64) x.MinFrac_ ∧ (WfI .i64) x.MaxFrac_ ∧ (WfI .i64) x.G1_ ∧ (WfI .i64) x.G2_ ∧ (WfI .i64) x.MinSig_ ∧ (WfI .i64) x.MaxSig_ ∧ (WfI .i64) x.Exp_ ∧ WfB x.ExpPlus_ ∧ (WfI .i32) x.Pad_ ∧ (WfI .i64) x.PadAt_
theorem tells_T26 {n : Nat} : Tells Try.prog (n + 4) 26 encSt25 WfSt25 := fun d cs h hs => by
  have hl : cs.length = 17 := (shows_len Try.underlying26 h).trans (by kernel_rfl)
  obtain ⟨c0, c1, c2, c3, c4, c5, c6, c7, c8, c9, c10, c11, c12, c13, c14, c15, c16, rfl⟩ := listN17 hl
  obtain ⟨p0, h0, z0⟩ := shows_field Try.underlying26 h hs 0 24 [c0] (by kernel_rfl)
  obtain ⟨x0, e0, w0⟩ : ∃ x : List St108, [c0] = (encL encSt108 2) x ∧ (WfL WfSt108) x := (tells_list (enc := encSt108) (Wf := WfSt108) Try.underlying24 (k := 2) (by kernel_rfl) (by kernel_rfl) tells_T109) p0 _ h0 z0
  obtain ⟨p1, h1, z1⟩ := shows_field Try.underlying26 h hs 1 24 [c1] (by kernel_rfl)
  obtain ⟨x1, e1, w1⟩ : ∃ x : List St108, [c1] = (encL encSt108 2) x ∧ (WfL WfSt108) x := (tells_list (enc := encSt108) (Wf := WfSt108) Try.underlying24 (k := 2) (by kernel_rfl) (by kernel_rfl) tells_T109) p1 _ h1 z1
  obtain ⟨p2, h2, z2⟩ := shows_field Try.underlying26 h hs 2 24 [c2] (by kernel_rfl)
  obtain ⟨x2, e2, w2⟩ : ∃ x : List St108, [c2] = (encL encSt108 2) x ∧ (WfL WfSt108) x := (tells_list (enc := encSt108) (Wf := WfSt108) Try.underlying24 (k := 2) (by kernel_rfl) (by kernel_rfl) tells_T109) p2 _ h2 z2
  obtain ⟨p3, h3, z3⟩ := shows_field Try.underlying26 h hs 3 24 [c3] (by kernel_rfl)
  obtain ⟨x3, e3, w3⟩ : ∃ x : List St108, [c3] = (encL encSt108 2) x ∧ (WfL WfSt108) x := (tells_list (enc := encSt108) (Wf := WfSt108) Try.underlying24 (k := 2) (by kernel_rfl) (by kernel_rfl) tells_T109) p3 _ h3 z3
  obtain ⟨p4, h4, z4⟩ := shows_field Try.underlying26 h hs 4 4 [c4] (by kernel_rfl)
  obtain ⟨x4, e4, w4⟩ : ∃ x : Bool, [c4] = encB x ∧ WfB x := (tells_bool Try.underlying4) p4 _ h4 z4
  obtain ⟨p5, h5, z5⟩ := shows_field Try.underlying26 h hs 5 3 [c5] (by kernel_rfl)
  obtain ⟨x5, e5, w5⟩ : ∃ x : Int, [c5] = (encI .i64) x ∧ (WfI .i64) x := (tells_int Try.underlying3) p5 _ h5 z5
  obtain ⟨p6, h6, z6⟩ := shows_field Try.underlying26 h hs 6 3 [c6] (by kernel_rfl)
  obtain ⟨x6, e6, w6⟩ : ∃ x : Int, [c6] = (encI .i64) x ∧ (WfI .i64) x := (tells_int Try.underlying3) p6 _ h6 z6
  obtain ⟨p7, h7, z7⟩ := shows_field Try.underlying26 h hs 7 3 [c7] (by kernel_rfl)
  obtain ⟨x7, e7, w7⟩ : ∃ x : Int, [c7] = (encI .i64) x ∧ (WfI .i64) x := (tells_int Try.underlying3) p7 _ h7 z7
  obtain ⟨p8, h8, z8⟩ := shows_field Try.underlying26 h hs 8 3 [c8] (by kernel_rfl)
  obtain ⟨x8, e8, w8⟩ : ∃ x : Int, [c8] = (encI .i64) x ∧ (WfI .i64) x := (tells_int Try.underlying3) p8 _ h8 z8
  obtain ⟨p9, h9, z9⟩ := shows_field Try.underlying26 h hs 9 3 [c9] (by kernel_rfl)
  obtain ⟨x9, e9, w9⟩ : ∃ x : Int, [c9] = (encI .i64) x ∧ (WfI .i64) x := (tells_int Try.underlying3) p9 _ h9 z9
  obtain ⟨p10, h10, z10⟩ := shows_field Try.underlying26 h hs 10 3 [c10] (by kernel_rfl)
  obtain ⟨x10, e10, w10⟩ : ∃ x : Int, [c10] = (encI .i64) x ∧ (WfI .i64) x := (tells_int Try.underlying3) p10 _ h10 z10
  obtain ⟨p11, h11, z11⟩ := shows_field Try.underlying26 h hs 11 3 [c11] (by kernel_rfl)
  obtain ⟨x11, e11, w11⟩ : ∃ x : Int, [c11] = (encI .i64) x ∧ (WfI .i64) x := (tells_int Try.underlying3) p11 _ h11 z11
  obtain ⟨p12, h12, z12⟩ := shows_field Try.underlying26 h hs 12 3 [c12] (by kernel_rfl)
  obtain ⟨x12, e12, w12⟩ : ∃ x : Int, [c12] = (encI .i64) x ∧ (WfI .i64) x := (tells_int Try.underlying3) p12 _ h12 z12
  obtain ⟨p13, h13, z13⟩ := shows_field Try.underlying26 h hs 13 3 [c13] (by kernel_rfl)
  obtain ⟨x13, e13, w13⟩ : ∃ x : Int, [c13] = (encI .i64) x ∧ (WfI .i64) x := (tells_int Try.underlying3) p13 _ h13 z13
  obtain ⟨p14, h14, z14⟩ := shows_field Try.underlying26 h hs 14 4 [c14] (by kernel_rfl)
  obtain ⟨x14, e14, w14⟩ : ∃ x : Bool, [c14] = encB x ∧ WfB x := (tells_bool Try.underlying4) p14 _ h14 z14
  obtain ⟨p15, h15, z15⟩ := shows_field Try.underlying26 h hs 15 21 [c15] (by kernel_rfl)
  obtain ⟨x15, e15, w15⟩ : ∃ x : Int, [c15] = (encI .i32) x ∧ (WfI .i32) x := (tells_int Try.underlying21) p15 _ h15 z15
  obtain ⟨p16, h16, z16⟩ := shows_field Try.underlying26 h hs 16 3 [c16] (by kernel_rfl)
  obtain ⟨x16, e16, w16⟩ : ∃ x : Int, [c16] = (encI .i64) x ∧ (WfI .i64) x := (tells_int Try.underlying3) p16 _ h16 z16
  refine ⟨⟨x0, x1, x2, x3, x4, x5, x6, x7, x8, x9, x10, x11, x12, x13, x14, x15, x16⟩, ?_, ⟨w0, w1, w2, w3, w4, w5, w6, w7, w8, w9, w10, w11, w12, w13, w14, w15, w16⟩⟩
  show [c0] ++ [c1] ++ [c2] ++ [c3] ++ [c4] ++ [c5] ++ [c6] ++ [c7] ++ [c8] ++ [c9] ++ [c10] ++ [c11] ++ [c12] ++ [c13] ++ [c14] ++ [c15] ++ [c16] = ((encL encSt108 2) x0 ++ (encL encSt108 2) x1 ++ (encL encSt108 2) x2 ++ (encL encSt108 2) x3 ++ encB x4 ++ (encI .i64) x5 ++ (encI .i64) x6 ++ (encI .i64) x7 ++ (encI .i64) x8 ++ (encI .i64) x9 ++ (encI .i64) x10 ++ (encI .i64) x11 ++ (encI .i64) x12 ++ (encI .i64) x13 ++ encB x14 ++ (encI .i32) x15 ++ (encI .i64) x16)
  rw [e0, e1, e2, e3, e4, e5, e6, e7, e8, e9, e10, e11, e12, e13, e14, e15, e16]
/-- Its numbers are numbers of their kinds, its lists no longer than memory. -/
def WfSt28 (x : St28) : Prop := WfB x.Neg_ ∧ (WfL (WfI .u8)) x.D_ ∧ (WfI .i64) x.E_
theorem tells_T29 {n : Nat} : Tells Try.prog (n + 3) 29 encSt28 WfSt28 := fun d cs h hs => by
  have hl : cs.length = 3 := (shows_len Try.underlying29 h).trans (by kernel_rfl)
  obtain ⟨c0, c1, c2, rfl⟩ := listN3 hl
  obtain ⟨p0, h0, z0⟩ := shows_field Try.underlying29 h hs 0 4 [c0] (by kernel_rfl)
  obtain ⟨x0, e0, w0⟩ : ∃ x : Bool, [c0] = encB x ∧ WfB x := (tells_bool Try.underlying4) p0 _ h0 z0
  obtain ⟨p1, h1, z1⟩ := shows_field Try.underlying29 h hs 1 27 [c1] (by kernel_rfl)
  obtain ⟨x1, e1, w1⟩ : ∃ x : List Int, [c1] = (encL (encI .u8) 1) x ∧ (WfL (WfI .u8)) x := (tells_list (enc := (encI .u8)) (Wf := (WfI .u8)) Try.underlying27 (k := 1) (by kernel_rfl) (by kernel_rfl) (tells_int Try.underlying5)) p1 _ h1 z1
  obtain ⟨p2, h2, z2⟩ := shows_field Try.underlying29 h hs 2 3 [c2] (by kernel_rfl)
  obtain ⟨x2, e2, w2⟩ : ∃ x : Int, [c2] = (encI .i64) x ∧ (WfI .i64) x := (tells_int Try.underlying3) p2 _ h2 z2
  refine ⟨⟨x0, x1, x2⟩, ?_, ⟨w0, w1, w2⟩⟩
  show [c0] ++ [c1] ++ [c2] = (encB x0 ++ (encL (encI .u8) 1) x1 ++ (encI .i64) x2)
  rw [e0, e1, e2]
theorem of_dec {x : St28} (w : WfSt28 x) : ∃ neg l E, x = ⟨neg, up l, E⟩ ∧ l.length ≤ 140737488355328 := by
  obtain ⟨neg, D, E⟩ := x
  obtain ⟨_, w2, _⟩ := w
  obtain ⟨l, rfl, _, hl⟩ := up_of w2
  exact ⟨neg, l, E, rfl, by rw [hl]; exact w2.1⟩
theorem of_pat {p : St25} (w : WfSt25 p) (n : Int) : ∃ b, exerguelaw17_of p n = some b ∧ (b = true → cntP p ∧ pfP p ∧ n ≤ 40) := by
  obtain ⟨w1, w2, w3, w4, _⟩ := w
  exact of_tot w1.1 w2.1 w3.1 w4.1

theorem rfigs_eq {l : List Nat} (hd : digP l) (hl : l.length ≤ 100000) : exergueref07_Figures (up l) = some true := by
  unfold exergueref07_Figures
  rw [all_loop (fun c => decide (c > 9)) (up l) (by rw [up_len]; omega), if_pos]
  · rfl
  · rw [List.all_eq_true]
    intro c hc
    obtain ⟨x, hx, rfl⟩ := List.mem_map.1 hc
    have := hd x hx
    simp; omega
theorem Value_true (p : St25) (wp : WfSt25 p) (n : Int) (wn : WfI .i64 n) (d : St28) (wd : WfSt28 d) : exerguelaw17_ShapeValue p n d = some true := by
  obtain ⟨b1, e1, f1⟩ := of_pat wp n
  obtain ⟨neg, l, E, rfl, hl⟩ := of_dec wd
  obtain ⟨b2, e2, f2⟩ := rnear_eq (neg := neg) (E := E) hl
  unfold exerguelaw17_ShapeValue
  rw [shown_eq, e1, e2]
  simp only [Option.bind_some]
  cases b1 with
  | false => rfl
  | true =>
  cases b2 with
  | false => rfl
  | true =>
  obtain ⟨hc, hpf, hn⟩ := f1 rfl
  have hnr := f2.1 rfl
  obtain ⟨a, b, hfig, hr, ha, hb, ha7, hb11⟩ := figures_val (n := n) neg hc hn hnr.1 (near_E hnr) (near_600 hnr)
  have hc' := hc
  obtain ⟨c1, c2, c3, c4, c5, c6, c7, c8, c9⟩ := hc
  have hlow := right_low hr
  have hlow2 := right_low hnr.1
  simp only [cond_false, Bool.not_true, Option.bind_some, joinX]
  rw [hfig]
  simp only [Option.bind_some]
  rw [← up_append, figs_split]
  simp only [up_len, figs_len]
  rw [room_of (by omega), room_of (by omega)]
  have hE0 : bareE p l E + bareP p l E = E := by
    unfold bareE bareP
    by_cases hx : p.Exp_ < 1
    · rw [if_pos hx, if_pos hx]; omega
    · rw [if_neg hx, if_neg hx]
      by_cases h0 : l = []
      · rw [if_pos h0, if_pos h0]; omega
      · rw [if_neg h0, if_neg h0]; omega
  have hP : -200 ≤ bareP p l E ∧ bareP p l E ≤ 200 := by
    have := hnr.2
    unfold bareP; split
    · omega
    · split <;> omega
  have hB : -60 ≤ bareE p l E ∧ bareE p l E ≤ 60 := by
    have := hnr.2
    unfold bareE; split
    · omega
    · split
      · omega
      · rename_i h0
        have hpos : 0 < l.length := List.length_pos_iff.2 h0
        omega
  have hMg : -60 ≤ magE l (bareE p l E) ∧ magE l (bareE p l E) ≤ 100 := by
    have := hnr.2
    unfold magE; split
    · omega
    · rename_i h0
      have hpos : 0 < l.length := List.length_pos_iff.2 h0
      omega
  have ha2 : a ≤ 200 := by
    have hla : leastA p ≤ 40 := by unfold leastA; split <;> omega
    unfold aheadV at ha; split at ha <;> omega
  have hb2 : b ≤ 200 := by
    have hlb : leastB p n l (bareE p l E) ≤ 150 := by unfold leastB; repeat' split
                                                      all_goals omega
    unfold behindV at hb; omega
  have hmg : l = [] ∨ magE l (bareE p l E) < a := by
    by_cases h0 : l = []
    · exact .inl h0
    · unfold aheadV at ha
      rw [if_neg h0] at ha
      right; omega
  have hbE : -(b : Int) ≤ bareE p l E := by unfold behindV at hb; omega
  have hv := shown_val hr hmg hbE ha7 hb11
  generalize hz : figs (magN l (bareE p l E)) ((a : Int) - 1) (a + b) = z at *
  have hzl : z.length = a + b := by rw [← hz, figs_len]
  have hzd : digP z := by rw [← hz]; exact figs_dig _ _ _
  obtain ⟨x, y, core, hzz, hcb, hh, ht⟩ := strip z
  have hlen : z.length = x + core.length + y := by rw [hzz]; simp [Nat.add_assoc]
  have hdc : digP core := by rw [hzz] at hzd; exact dig_right (dig_left hzd)
  have hvz : vN z = vN core * 10 ^ y := by
    rw [hzz, List.append_assoc, vN_append, vN_zeros, vN_append, vN_zeros, List.length_replicate]; omega
  have hmag : magN core (-(b : Int) + y) = magN l (bareE p l E) := by
    rw [← hv, hvz]
    unfold magN
    rw [pw_add y (by omega), Nat.mul_comm (pw (-(b : Int))), Nat.mul_assoc]
  have hmag2 : magN core (-(b : Int) + y + bareP p l E) = magN l E := by
    have := shift_mag (P := bareP p l E) hmag (by omega) (by omega) (by omega)
    rwa [hE0] at this
  have hbig : bareP p l E + (a : Int) ≤ 1000 := by
    omega
  have hrc : core ≠ [] → rightP core (-(b : Int) + y + bareP p l E) := fun h0 => ⟨hdc, fun e => absurd e h0, fun _ => ⟨by omega, by omega, by omega, hh, ht⟩⟩
  have hnorm := rnorm_is (e := bareP p l E - b) (neg := neg) hzz hcb hh ht hzd (by omega) (by omega) (by omega) (fun h0 => by
    have := hrc h0
    rwa [show bareP p l E - (b : Int) + y = -(b : Int) + y + bareP p l E by omega])
  simp only [cond_true]
  rw [w64 (by omega) (by omega), hnorm]
  simp only [Option.bind_some]
  have hsame : exergueref05_Same ⟨neg, up core, if core = [] then 0 else bareP p l E - b + y⟩ ⟨neg, up l, E⟩ = some true := by
    by_cases h0 : core = []
    · rw [if_pos h0]
      subst h0
      have hm0 : magN l E = 0 := by rw [← hmag2]; simp [magN, vN]
      have hl0 := (mag_zero hnr.1).1 hm0
      subst hl0
      have hE := hnr.1.2.1 rfl
      subst hE
      rw [rsame_eq hnr.1 hnr.1]; simp
    · rw [if_neg h0, show bareP p l E - (b : Int) + y = -(b : Int) + y + bareP p l E by omega, rsame_eq (hrc h0) hnr.1, hmag2]; simp
  rw [hsame, rfigs_eq hzd (by omega)]
  simp only [Option.bind_some, cond_true]
  by_cases hx : p.Exp_ > 0
  · rw [dT hx]; rfl
  · rw [dF hx, dT (show bareP p l E = 0 by unfold bareP; rw [if_pos (by omega)])]; rfl

set_option maxRecDepth 100000 in
theorem ShapeValue_lifted (os : Os) (started : os.Started) (H : Type) (enc : TypeId × Value → H) :
    ReturnsInHanded {} Try.checked os 5 .any (Rows.shapeValueSpec.pre6 enc Try.prog Try.f5 Rows.shapeValueRow.domain false) (Rows.shapeValueSpec.post enc Try.prog Try.f5 false true false false) := by
  refine returnsInHanded_of_change_sized (C := Try.checked) Try.own started (by kernel_rfl) Try.func5
    (ChangeSpec.witness6 (enc := enc) (C := Try.checked) false ⟨#[], #[.agg #[.slice none 0 0, .slice none 0 0, .slice none 0 0, .slice none 0 0, .bool false, .int .i64 0, .int .i64 0, .int .i64 0, .int .i64 0, .int .i64 0, .int .i64 0, .int .i64 0, .int .i64 0, .int .i64 0, .bool false, .int .i32 0, .int .i64 0], .int .i64 0, .agg #[.bool false, .slice none 0 0, .int .i64 0]], []⟩ 8 (by kernel_rfl) (by kernel_rfl) (by kernel_rfl) (by kernel_rfl)) ?_
  intro W base args ds gs before hval0 hW _ hsz0 _
  have hsz : (DataW.weightsEach Try.prog (Try.f5.params.toList ++ Rows.shapeValueSpec.plain.varTypes Try.prog) (ds ++ gs)).all (· ≤ reachBytes) = true := hsz0
  clear hsz0
  refine law_post (P := Try.prog) (n := 4) (tb := 4) Try.laidOut Try.underlying4 rfl rfl (by kernel_rfl) (fun h => ?_) hval0 hW ?_
  · rw [Try.params5] at h
    obtain ⟨d0, d1, d2, rfl⟩ := l3 h
    exact ⟨rfl, rfl, rfl⟩
  · intro ss hg hl1 hl2 hs
    subst hg
    rw [Try.params5] at hl1 hl2 hs hsz
    obtain ⟨d0, d1, d2, rfl⟩ := l3 hl1
    obtain ⟨s0, s1, s2, rfl⟩ := l3 hl2
    obtain ⟨cs0, rfl, hc0⟩ := showsV_struct Try.underlying26 (hs 0 26 _ _ rfl rfl rfl)
    obtain ⟨a0, rfl, w0⟩ := tells_T26 (n := 0) _ _ hc0 (sized_param hsz (j := 0) rfl rfl)
    obtain ⟨a1, e1, w1⟩ := (show Tells Try.prog 4 3 (encI .i64) (WfI .i64) from (tells_int Try.underlying3)) _ _ (showsV_scalar Try.underlying3 (fun _ => by simp) (fun _ _ => by simp) (hs 1 3 _ _ rfl rfl rfl)) (sized_param hsz (j := 1) rfl rfl)
    obtain rfl : s1 = .int .i64 a1 := (List.cons.inj e1).1
    obtain ⟨cs2, rfl, hc2⟩ := showsV_struct Try.underlying29 (hs 2 29 _ _ rfl rfl rfl)
    obtain ⟨a2, rfl, w2⟩ := tells_T29 (n := 1) _ _ hc2 (sized_param hsz (j := 2) rfl rfl)
    exact ⟨[], exerguelaw17_ShapeValue_ok (Value_true a0 w0 a1 w1 a2 w2)⟩
theorem ShapeValue_holds : Rows.ShapeValueSaid :=
  OpenClaim.holds_of_wide 5 Try.f5 rfl rfl rfl rfl rfl rfl rfl ⟨rfl, rfl, rfl, rfl, rfl⟩ rfl rfl rfl rfl rfl (by kernel_rfl) Try.func5 (by kernel_rfl)
    (of_decide_eq_true (by kernel_rfl)) (by unfold Func.isWrapper; first | (rw [if_pos (by decide +kernel)]; kernel_rfl) | (rw [if_neg (by decide +kernel)]; exact ⟨rfl, rfl⟩))
    (fun os started H enc _ => ShapeValue_lifted os started H enc)

end Go.Proofs.Ytcmmjficmoflkaa
