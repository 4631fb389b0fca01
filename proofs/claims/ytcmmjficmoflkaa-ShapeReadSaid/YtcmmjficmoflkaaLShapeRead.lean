/-
  The statement ShapeRead is proved: at every input the law answers true, and its input reads as it did. No conditions.
-/
import Derived.Test.YtcmmjficmoflkaaP
import Derived.Test.YtcmmjficmoflkaaRows
import Derived.ProofKit
import Derived.SizedLaws
namespace Go.Proofs.Ytcmmjficmoflkaa
open Go Go.Sy Go.RowKit Go.ChangeShapes Go.WideShapes Go.ChangeAt
set_option linter.unusedVariables false
set_option linter.unusedSimpArgs false
set_option maxRecDepth 100000
set_option maxHeartbeats 4000000

theorem Try.own : ownKnob Try.prog.godebug = none := by kernel_rfl
theorem Try.laidOut : laidOutB Try.prog = true := by kernel_rfl

theorem listN2 {α : Type} {l : List α} (h : l.length = 2) : ∃ a0 a1, l = [a0, a1] := by
  match l, h with
  | [a0, a1], _ => exact ⟨a0, a1, rfl⟩
theorem listN7 {α : Type} {l : List α} (h : l.length = 7) : ∃ a0 a1 a2 a3 a4 a5 a6, l = [a0, a1, a2, a3, a4, a5, a6] := by
  match l, h with
  | [a0, a1, a2, a3, a4, a5, a6], _ => exact ⟨a0, a1, a2, a3, a4, a5, a6, rfl⟩
theorem listN17 {α : Type} {l : List α} (h : l.length = 17) : ∃ a0 a1 a2 a3 a4 a5 a6 a7 a8 a9 a10 a11 a12 a13 a14 a15 a16, l = [a0, a1, a2, a3, a4, a5, a6, a7, a8, a9, a10, a11, a12, a13, a14, a15, a16] := by
  match l, h with
  | [a0, a1, a2, a3, a4, a5, a6, a7, a8, a9, a10, a11, a12, a13, a14, a15, a16], _ => exact ⟨a0, a1, a2, a3, a4, a5, a6, a7, a8, a9, a10, a11, a12, a13, a14, a15, a16, rfl⟩
/-- Its numbers are numbers of their kinds, its lists no longer than memory. -/
def WfSt22 (x : St22) : Prop := (WfI .i32) x.Zero_ ∧ (WfI .i32) x.Dec_ ∧ (WfI .i32) x.Group_ ∧ (WfI .i32) x.Minus_ ∧ (WfI .i32) x.Plus_ ∧ (WfI .i32) x.Percent_ ∧ (WfI .i32) x.Exp_
theorem tells_T23 {n : Nat} : Tells Try.prog (n + 2) 23 encSt22 WfSt22 := fun d cs h hs => by
  have hl : cs.length = 7 := (shows_len Try.underlying23 h).trans (by kernel_rfl)
  obtain ⟨c0, c1, c2, c3, c4, c5, c6, rfl⟩ := listN7 hl
  obtain ⟨p0, h0, z0⟩ := shows_field Try.underlying23 h hs 0 21 [c0] (by kernel_rfl)
  obtain ⟨x0, e0, w0⟩ : ∃ x : Int, [c0] = (encI .i32) x ∧ (WfI .i32) x := (tells_int Try.underlying21) p0 _ h0 z0
  obtain ⟨p1, h1, z1⟩ := shows_field Try.underlying23 h hs 1 21 [c1] (by kernel_rfl)
  obtain ⟨x1, e1, w1⟩ : ∃ x : Int, [c1] = (encI .i32) x ∧ (WfI .i32) x := (tells_int Try.underlying21) p1 _ h1 z1
  obtain ⟨p2, h2, z2⟩ := shows_field Try.underlying23 h hs 2 21 [c2] (by kernel_rfl)
  obtain ⟨x2, e2, w2⟩ : ∃ x : Int, [c2] = (encI .i32) x ∧ (WfI .i32) x := (tells_int Try.underlying21) p2 _ h2 z2
  obtain ⟨p3, h3, z3⟩ := shows_field Try.underlying23 h hs 3 21 [c3] (by kernel_rfl)
  obtain ⟨x3, e3, w3⟩ : ∃ x : Int, [c3] = (encI .i32) x ∧ (WfI .i32) x := (tells_int Try.underlying21) p3 _ h3 z3
  obtain ⟨p4, h4, z4⟩ := shows_field Try.underlying23 h hs 4 21 [c4] (by kernel_rfl)
  obtain ⟨x4, e4, w4⟩ : ∃ x : Int, [c4] = (encI .i32) x ∧ (WfI .i32) x := (tells_int Try.underlying21) p4 _ h4 z4
  obtain ⟨p5, h5, z5⟩ := shows_field Try.underlying23 h hs 5 21 [c5] (by kernel_rfl)
  obtain ⟨x5, e5, w5⟩ : ∃ x : Int, [c5] = (encI .i32) x ∧ (WfI .i32) x := (tells_int Try.underlying21) p5 _ h5 z5
  obtain ⟨p6, h6, z6⟩ := shows_field Try.underlying23 h hs 6 21 [c6] (by kernel_rfl)
  obtain ⟨x6, e6, w6⟩ : ∃ x : Int, [c6] = (encI .i32) x ∧ (WfI .i32) x := (tells_int Try.underlying21) p6 _ h6 z6
  refine ⟨⟨x0, x1, x2, x3, x4, x5, x6⟩, ?_, ⟨w0, w1, w2, w3, w4, w5, w6⟩⟩
  show [c0] ++ [c1] ++ [c2] ++ [c3] ++ [c4] ++ [c5] ++ [c6] = ((encI .i32) x0 ++ (encI .i32) x1 ++ (encI .i32) x2 ++ (encI .i32) x3 ++ (encI .i32) x4 ++ (encI .i32) x5 ++ (encI .i32) x6)
  rw [e0, e1, e2, e3, e4, e5, e6]
/-- Its numbers are numbers of their kinds, its lists no longer than memory. -/
def WfSt108 (x : St108) : Prop := (WfI .i64) x.Kind_ ∧ (WfI .i32) x.R_
theorem tells_T109 {n : Nat} : Tells Try.prog (n + 2) 109 encSt108 WfSt108 := fun d cs h hs => by
  have hl : cs.length = 2 := (shows_len Try.underlying109 h).trans (by kernel_rfl)
  obtain ⟨c0, c1, rfl⟩ := listN2 hl
  obtain ⟨p0, h0, z0⟩ := shows_field Try.underlying109 h hs 0 3 [c0] (by kernel_rfl)
  obtain ⟨x0, e0, w0⟩ : ∃ x : Int, [c0] = (encI .i64) x ∧ (WfI .i64) x := (tells_int Try.underlying3) p0 _ h0 z0
  obtain ⟨p1, h1, z1⟩ := shows_field Try.underlying109 h hs 1 21 [c1] (by kernel_rfl)
  obtain ⟨x1, e1, w1⟩ : ∃ x : Int, [c1] = (encI .i32) x ∧ (WfI .i32) x := (tells_int Try.underlying21) p1 _ h1 z1
  refine ⟨⟨x0, x1⟩, ?_, ⟨w0, w1⟩⟩
  show [c0] ++ [c1] = ((encI .i64) x0 ++ (encI .i32) x1)
  rw [e0, e1]
/-- Its numbers are numbers of their kinds, its lists no longer than memory. -/
def WfSt25 (x : St25) : Prop := (WfL WfSt108) x.Pre_ ∧ (WfL WfSt108) x.Suf_ ∧ (WfL WfSt108) x.NPre_ ∧ (WfL WfSt108) x.NSuf_ ∧ WfB x.Neg_ ∧ (WfI .i64) x.Hash_ ∧ (WfI .i64) x.MinInt_ ∧ (WfI .i64) x.MinFrac_ ∧ (WfI .i64) x.MaxFrac_ ∧ (WfI .i64) x.G1_ ∧ (WfI .i64) x.G2_ ∧ (WfI .i64) x.MinSig_ ∧ (WfI .i64) x.MaxSig_ ∧ (WfI .i64) x.Exp_ ∧ WfB x.ExpPlus_ ∧ (WfI .i32) x.Pad_ ∧ (WfI .i64) x.PadAt_
theorem tells_T26 {n : Nat} : Tells Try.prog (n + 4) 26 encSt25 WfSt25 := fun d cs h hs => by
  have hl : cs.length = 17 := (shows_len Try.underlying26 h).trans (by kernel_rfl)
  obtain ⟨c0, c1, c2, c3, c4, c5, c6, c7, c8, c9, c10, c11, c12, c13, c14, c15, c16, rfl⟩ := listN17 hl
  obtain ⟨p0, h0, z0⟩ := shows_field Try.underlying26 h hs 0 24 [c0] (by kernel_rfl)
  obtain ⟨x0, e0, w0⟩ : ∃ x : List St108, [c0] = (encL encSt108 2) x ∧ (WfL WfSt108) x := (tells_list (enc := encSt108) (Wf := WfSt108) Try.underlying24 (k := 2) (by kernel_rfl) (by kernel_rfl) tells_T109) p0 _ h0 z0
  obtain ⟨p1, h1, z1⟩ := shows_field Try.underlying26 h hs 1 24 [c1] (by kernel_rfl)
  obtain ⟨x1, e1, w1⟩ : ∃ x : List St108, [c1] = (encL encSt108 2) x ∧ (WfL WfSt108) x := (tells_list (enc := encSt108) (Wf := WfSt108) Try.underlying24 (k := 2) (by kernel_rfl) (by kernel_rfl) tells_T109) p1 _ h1 z1
  obtain ⟨p2, h2, z2⟩ := shows_field Try.underlying26 h hs 2 24 [c2] (by kernel_rfl)
  obtain ⟨x2, e2, w2⟩ : ∃ x : List St108, [c2] = (encL encSt108 2) x ∧ (WfL WfSt108) x := (tells_list (enc := encSt108) (Wf := WfSt108) Try.underlying24 (k := 2) (by kernel_rfl) (by kernel_rfl) tells_T109) p2 _ h2 z2
  obtain ⟨p3, h3, z3⟩ := shows_field Try.underlying26 h hs 3 24 [c3] (by kernel_rfl)
  obtain ⟨x3, e3, w3⟩ : ∃ x : List St108, [c3] = (encL encSt108 2) x ∧ (WfL WfSt108) x := (tells_list (enc := encSt108) (Wf := WfSt108) Try.underlying24 (k := 2) (by kernel_rfl) (by kernel_rfl) tells_T109) p3 _ h3 z3
  obtain ⟨p4, h4, z4⟩ := shows_field Try.underlying26 h hs 4 4 [c4] (by kernel_rfl)
  obtain ⟨x4, e4, w4⟩ : ∃ x : Bool, [c4] = encB x ∧ WfB x := (tells_bool Try.underlying4) p4 _ h4 z4
  obtain ⟨p5, h5, z5⟩ := shows_field Try.underlying26 h hs 5 3 [c5] (by kernel_rfl)
  obtain ⟨x5, e5, w5⟩ : ∃ x : Int, [c5] = (encI .i64) x ∧ (WfI .i64) x := (tells_int Try.underlying3) p5 _ h5 z5
  obtain ⟨p6, h6, z6⟩ := shows_field Try.underlying26 h hs 6 3 [c6] (by kernel_rfl)
  obtain ⟨x6, e6, w6⟩ : ∃ x : Int, [c6] = (encI .i64) x ∧ (WfI .i64) x := (tells_int Try.underlying3) p6 _ h6 z6
  obtain ⟨p7, h7, z7⟩ := shows_field Try.underlying26 h hs 7 3 [c7] (by kernel_rfl)
  obtain ⟨x7, e7, w7⟩ : ∃ x : Int, [c7] = (encI .i64) x ∧ (WfI .i64) x := (tells_int Try.underlying3) p7 _ h7 z7
  obtain ⟨p8, h8, z8⟩ := shows_field Try.underlying26 h hs 8 3 [c8] (by kernel_rfl)
  obtain ⟨x8, e8, w8⟩ : ∃ x : Int, [c8] = (encI .i64) x ∧ (WfI .i64) x := (tells_int Try.underlying3) p8 _ h8 z8
  obtain ⟨p9, h9, z9⟩ := shows_field Try.underlying26 h hs 9 3 [c9] (by kernel_rfl)
  obtain ⟨x9, e9, w9⟩ : ∃ x : Int, [c9] = (encI .i64) x ∧ (WfI .i64) x := (tells_int Try.underlying3) p9 _ h9 z9
  obtain ⟨p10, h10, z10⟩ := shows_field Try.underlying26 h hs 10 3 [c10] (by kernel_rfl)
  obtain ⟨x10, e10, w10⟩ : ∃ x : Int, [c10] = (encI .i64) x ∧ (WfI .i64) x := (tells_int Try.underlying3) p10 _ h10 z10
  obtain ⟨p11, h11, z11⟩ := shows_field Try.underlying26 h hs 11 3 [c11] (by kernel_rfl)
  obtain ⟨x11, e11, w11⟩ : ∃ x : Int, [c11] = (encI .i64) x ∧ (WfI .i64) x := (tells_int Try.underlying3) p11 _ h11 z11
  obtain ⟨p12, h12, z12⟩ := shows_field Try.underlying26 h hs 12 3 [c12] (by kernel_rfl)
  obtain ⟨x12, e12, w12⟩ : ∃ x : Int, [c12] = (encI .i64) x ∧ (WfI .i64) x := (tells_int Try.underlying3) p12 _ h12 z12
  obtain ⟨p13, h13, z13⟩ := shows_field Try.underlying26 h hs 13 3 [c13] (by kernel_rfl)
  obtain ⟨x13, e13, w13⟩ : ∃ x : Int, [c13] = (encI .i64) x ∧ (WfI .i64) x := (tells_int Try.underlying3) p13 _ h13 z13
  obtain ⟨p14, h14, z14⟩ := shows_field Try.underlying26 h hs 14 4 [c14] (by kernel_rfl)
  obtain ⟨x14, e14, w14⟩ : ∃ x : Bool, [c14] = encB x ∧ WfB x := (tells_bool Try.underlying4) p14 _ h14 z14
  obtain ⟨p15, h15, z15⟩ := shows_field Try.underlying26 h hs 15 21 [c15] (by kernel_rfl)
  obtain ⟨x15, e15, w15⟩ : ∃ x : Int, [c15] = (encI .i32) x ∧ (WfI .i32) x := (tells_int Try.underlying21) p15 _ h15 z15
  obtain ⟨p16, h16, z16⟩ := shows_field Try.underlying26 h hs 16 3 [c16] (by kernel_rfl)
  obtain ⟨x16, e16, w16⟩ : ∃ x : Int, [c16] = (encI .i64) x ∧ (WfI .i64) x := (tells_int Try.underlying3) p16 _ h16 z16
  refine ⟨⟨x0, x1, x2, x3, x4, x5, x6, x7, x8, x9, x10, x11, x12, x13, x14, x15, x16⟩, ?_, ⟨w0, w1, w2, w3, w4, w5, w6, w7, w8, w9, w10, w11, w12, w13, w14, w15, w16⟩⟩
  show [c0] ++ [c1] ++ [c2] ++ [c3] ++ [c4] ++ [c5] ++ [c6] ++ [c7] ++ [c8] ++ [c9] ++ [c10] ++ [c11] ++ [c12] ++ [c13] ++ [c14] ++ [c15] ++ [c16] = ((encL encSt108 2) x0 ++ (encL encSt108 2) x1 ++ (encL encSt108 2) x2 ++ (encL encSt108 2) x3 ++ encB x4 ++ (encI .i64) x5 ++ (encI .i64) x6 ++ (encI .i64) x7 ++ (encI .i64) x8 ++ (encI .i64) x9 ++ (encI .i64) x10 ++ (encI .i64) x11 ++ (encI .i64) x12 ++ (encI .i64) x13 ++ encB x14 ++ (encI .i32) x15 ++ (encI .i64) x16)
  rw [e0, e1, e2, e3, e4, e5, e6, e7, e8, e9, e10, e11, e12, e13, e14, e15, e16]
theorem of_pat {p : St25} (w : WfSt25 p) (n : Int) : ∃ b, exerguelaw17_of p n = some b ∧ (b = true → cntP p ∧ pfP p ∧ n ≤ 40) := by
  obtain ⟨w1, w2, w3, w4, _⟩ := w
  exact of_tot w1.1 w2.1 w3.1 w4.1


theorem Read_true (s : St22) (ws : WfSt22 s) (p : St25) (wp : WfSt25 p) (l : List Int) (wl : (WfL (WfI .i32)) l) : exerguelaw17_ShapeRead s p l = some true := by
  obtain ⟨b1, e1, f1⟩ := of_pat wp (-1)
  obtain ⟨b3, e3, f3⟩ := good_tot s
  unfold exerguelaw17_ShapeRead
  rw [shown_eq, e1, e3]
  simp only [Option.bind_some]
  cases b1 with
  | false => rfl
  | true =>
  cases b3 with
  | false => rfl
  | true =>
  by_cases hlen : (l.length : Int) > 300
  · rw [dT hlen]; rfl
  rw [dF hlen]
  obtain ⟨hc, hpf, hn⟩ := f1 rfl
  have hg := f3 rfl
  have hz := zs_ok hg.1
  have hi : i32P l := fun r hr => by
    have : -2147483648 ≤ r ∧ r < 2147483648 := wf_i32 (wl.2 r hr)
    omega
  obtain ⟨y, hy, hyp⟩ := read_tot (p := p) hz hc hi (by omega)
  simp only [cond_false, Bool.not_true, Option.bind_some, joinX]
  rw [hy]
  simp only [Option.bind_some]
  obtain ⟨y1, y2⟩ := y
  rcases hyp with ⟨h1, h2⟩ | ⟨h1, c, E, h2, hr, hok⟩
  · have h1 : y2 = 10 := h1
    have h2 : y1 = ⟨false, [], 0⟩ := h2
    subst h1; subst h2
    rfl
  have h1 : y2 = 0 := h1
  have h2 : y1 = ⟨false, up c, E⟩ := h2
  subst h1; subst h2
  have hGr : -2147483648 ≤ s.Group_ ∧ s.Group_ ≤ 2147483647 := by
    obtain ⟨w0, w1, w2, w3, w4, w5, w6⟩ := ws
    have h2 : -2147483648 ≤ s.Group_ ∧ s.Group_ < 2147483648 := wf_i32 w2
    omega
  obtain ⟨X, hX1, hX2⟩ := back_gen (n := -1) (neg := false) hg hc (by omega) hr hGr
  have hsame : exergueref05_Same ⟨false, up c, E⟩ ⟨false, up c, E⟩ = some true := by rw [rsame_eq hr hr]; simp
  simp only
  rw [dF (show ¬ ¬ True by simp)]
  simp only [cond_false]
  refine bind_of (fun o => o = .inl ()) ?_ (fun o ho => ?_)
  · refine loop_count l.length (fun i => (i : Int)) (fun _ => True) _ rfl trivial (fun i hi2 _ => ?_) (fun _ => ?_) (by omega)
    · left
      refine ⟨?_, trivial⟩
      have hx : nth l (i : Int) = l[i] := nth_nat hi2
      have hxo := hok l[i] (List.getElem_mem hi2)
      have hxi := hi l[i] (List.getElem_mem hi2)
      rw [hx, dT (show (i : Int) < l.length by omega), inR_nat hi2]
      generalize l[i] = x at *
      have hs : (bif (decide (p.Exp_ > 0)) then (bif true then (bif (decide (x = s.Minus_)) then (some true) else (bif true then (some ((decide (x = s.Plus_)))) else none)) else none) else (some false) : Option Bool) = some (decide (p.Exp_ > 0) && (decide (x = s.Minus_) || decide (x = s.Plus_))) := by
        by_cases a1 : p.Exp_ > 0 <;> by_cases a2 : x = s.Minus_ <;> by_cases a3 : x = s.Plus_ <;> simp [a1, a2, a3]
      have hIn : exergueref13_InNumber s x = some (decide (s.Zero_ ≤ x ∧ x ≤ s.Zero_ + 9) || (decide (x = s.Dec_) || (decide (x = s.Group_) || decide (x = s.Exp_)))) := by
        unfold exergueref13_InNumber
        rw [rvalue_eq hz hxi]
        by_cases a0 : s.Zero_ ≤ x ∧ x ≤ s.Zero_ + 9
        · rw [if_pos a0, dT a0]; rfl
        · rw [if_neg a0, dF a0]
          by_cases a1 : x = s.Dec_ <;> by_cases a2 : x = s.Group_ <;> simp [a1, a2]
      rw [hs]
      simp only [Option.bind_some, cond_true]
      rw [hIn]
      simp only [Option.bind_some]
      have hno : (bif !(decide (s.Zero_ ≤ x ∧ x ≤ s.Zero_ + 9) || (decide (x = s.Dec_) || (decide (x = s.Group_) || decide (x = s.Exp_)))) then (some (!(decide (p.Exp_ > 0) && (decide (x = s.Minus_) || decide (x = s.Plus_))))) else (some false) : Option Bool) = some false := by
        unfold okR isD at hxo
        rcases hxo with a | a | a | a | ⟨a, b | b⟩
        · simp [a]
        · simp [a]
        · simp [a]
        · simp [a]
        · simp [a, b]
        · simp [a, b]
      rw [hno]
      simp only [Option.bind_some, cond_false, joinX]
      rw [w64 (by omega) (by omega)]; rfl
    · exact ⟨_, by rw [dF (by omega)]; rfl, rfl⟩
  · subst ho
    simp only [joinX]
    rw [hX1]
    simp only [Option.bind_some]
    rw [hX2]
    simp only [Option.bind_some, cond_true]
    rw [rright_true hr]
    simp only [Option.bind_some, cond_true]
    unfold exergueref17_Abs
    simp only [Option.bind_some]
    rw [hsame]
    rfl

set_option maxRecDepth 100000 in
theorem ShapeRead_lifted (os : Os) (started : os.Started) (H : Type) (enc : TypeId × Value → H) :
    ReturnsInHanded {} Try.checked os 8 .any (Rows.shapeReadSpec.pre6 enc Try.prog Try.f8 Rows.shapeReadRow.domain false) (Rows.shapeReadSpec.post enc Try.prog Try.f8 false true false false) := by
  refine returnsInHanded_of_change_sized (C := Try.checked) Try.own started (by kernel_rfl) Try.func8
    (ChangeSpec.witness6 (enc := enc) (C := Try.checked) false ⟨#[], #[.agg #[.int .i32 0, .int .i32 0, .int .i32 0, .int .i32 0, .int .i32 0, .int .i32 0, .int .i32 0], .agg #[.slice none 0 0, .slice none 0 0, .slice none 0 0, .slice none 0 0, .bool false, .int .i64 0, .int .i64 0, .int .i64 0, .int .i64 0, .int .i64 0, .int .i64 0, .int .i64 0, .int .i64 0, .int .i64 0, .bool false, .int .i32 0, .int .i64 0], .slice none 0 0], []⟩ 8 (by kernel_rfl) (by kernel_rfl) (by kernel_rfl) (by kernel_rfl)) ?_
  intro W base args ds gs before hval0 hW _ hsz0 _
  have hsz : (DataW.weightsEach Try.prog (Try.f8.params.toList ++ Rows.shapeReadSpec.plain.varTypes Try.prog) (ds ++ gs)).all (· ≤ reachBytes) = true := hsz0
  clear hsz0
  refine law_post (P := Try.prog) (n := 4) (tb := 4) Try.laidOut Try.underlying4 rfl rfl (by kernel_rfl) (fun h => ?_) hval0 hW ?_
  · rw [Try.params8] at h
    obtain ⟨d0, d1, d2, rfl⟩ := l3 h
    exact ⟨rfl, rfl, rfl⟩
  · intro ss hg hl1 hl2 hs
    subst hg
    rw [Try.params8] at hl1 hl2 hs hsz
    obtain ⟨d0, d1, d2, rfl⟩ := l3 hl1
    obtain ⟨s0, s1, s2, rfl⟩ := l3 hl2
    obtain ⟨cs0, rfl, hc0⟩ := showsV_struct Try.underlying23 (hs 0 23 _ _ rfl rfl rfl)
    obtain ⟨a0, rfl, w0⟩ := tells_T23 (n := 2) _ _ hc0 (sized_param hsz (j := 0) rfl rfl)
    obtain ⟨cs1, rfl, hc1⟩ := showsV_struct Try.underlying26 (hs 1 26 _ _ rfl rfl rfl)
    obtain ⟨a1, rfl, w1⟩ := tells_T26 (n := 0) _ _ hc1 (sized_param hsz (j := 1) rfl rfl)
    obtain ⟨a2, e2, w2⟩ := (show Tells Try.prog 4 36 (encL (encI .i32) 1) (WfL (WfI .i32)) from (tells_list (enc := (encI .i32)) (Wf := (WfI .i32)) Try.underlying36 (k := 1) (by kernel_rfl) (by kernel_rfl) (tells_int Try.underlying21))) _ _ (showsV_scalar Try.underlying36 (fun _ => by simp) (fun _ _ => by simp) (hs 2 36 _ _ rfl rfl rfl)) (sized_param hsz (j := 2) rfl rfl)
    obtain rfl : s2 = lsv (encI .i32) 1 a2 := (List.cons.inj e2).1
    exact ⟨[], exerguelaw17_ShapeRead_ok (Read_true a0 w0 a1 w1 a2 w2)⟩
theorem ShapeRead_holds : Rows.ShapeReadSaid :=
  OpenClaim.holds_of_wide 8 Try.f8 rfl rfl rfl rfl rfl rfl rfl ⟨rfl, rfl, rfl, rfl, rfl⟩ rfl rfl rfl rfl rfl (by kernel_rfl) Try.func8 (by kernel_rfl)
    (of_decide_eq_true (by kernel_rfl)) (by unfold Func.isWrapper; first | (rw [if_pos (by decide +kernel)]; kernel_rfl) | (rw [if_neg (by decide +kernel)]; exact ⟨rfl, rfl⟩))
    (fun os started H enc _ => ShapeRead_lifted os started H enc)

end Go.Proofs.Ytcmmjficmoflkaa
