/-
  The statement ShapeFew is proved: at every input the law answers true, and its input reads as it did. No conditions.
-/
import Derived.Test.YtcmmjficmoflkaaP
import Derived.Test.YtcmmjficmoflkaaRows
import Derived.ProofKit
import Derived.SizedLaws
namespace Go.Proofs.Ytcmmjficmoflkaa
open Go Go.Sy Go.RowKit Go.ChangeShapes Go.WideShapes Go.ChangeAt
set_option linter.unusedVariables false
set_option linter.unusedSimpArgs false
set_option maxRecDepth 100000
set_option maxHeartbeats 4000000

theorem Try.own : ownKnob Try.prog.godebug = none := by kernel_rfl
theorem Try.laidOut : laidOutB Try.prog = true := by kernel_rfl

theorem listN2 {α : Type} {l : List α} (h : l.length = 2) : ∃ a0 a1, l = [a0, a1] := by
  match l, h with
  | [a0, a1], _ => exact ⟨a0, a1, rfl⟩
theorem listN3 {α : Type} {l : List α} (h : l.length = 3) : ∃ a0 a1 a2, l = [a0, a1, a2] := by
  match l, h with
  | [a0, a1, a2], _ => exact ⟨a0, a1, a2, rfl⟩
theorem listN17 {α : Type} {l : List α} (h : l.length = 17) : ∃ a0 a1 a2 a3 a4 a5 a6 a7 a8 a9 a10 a11 a12 a13 a14 a15 a16, l = [a0, a1, a2, a3, a4, a5, a6, a7, a8, a9, a10, a11, a12, a13, a14, a15, a16] := by
  match l, h with
  | [a0, a1, a2, a3, a4, a5, a6, a7, a8, a9, a10, a11, a12, a13, a14, a15, a16], _ => exact ⟨a0, a1, a2, a3, a4, a5, a6, a7, a8, a9, a10, a11, a12, a13, a14, a15, a16, rfl⟩
theorem listN23 {α : Type} {l : List α} (h : l.length = 23) : ∃ a0 a1 a2 a3 a4 a5 a6 a7 a8 a9 a10 a11 a12 a13 a14 a15 a16 a17 a18 a19 a20 a21 a22, l = [a0, a1, a2, a3, a4, a5, a6, a7, a8, a9, a10, a11, a12, a13, a14, a15, a16, a17, a18, a19, a20, a21, a22] := by
  match l, h with
  | [a0, a1, a2, a3, a4, a5, a6, a7, a8, a9, a10, a11, a12, a13, a14, a15, a16, a17, a18, a19, a20, a21, a22], _ => exact ⟨a0, a1, a2, a3, a4, a5, a6, a7, a8, a9, a10, a11, a12, a13, a14, a15, a16, a17, a18, a19, a20, a21, a22, rfl⟩
/-- Its numbers are numbers of their kinds, its lists no longer than memory. -/
def WfSt108 (x : St108) : Prop := (WfI .i64) x.Kind_ ∧ (WfI .i32) x.R_
theorem tells_T109 {n : Nat} : Tells Try.prog (n + 2) 109 encSt108 WfSt108 := fun d cs h hs => by
  have hl : cs.length = 2 := (shows_len Try.underlying109 h).trans (by kernel_rfl)
  obtain ⟨c0, c1, rfl⟩ := listN2 hl
  obtain ⟨p0, h0, z0⟩ := shows_field Try.underlying109 h hs 0 3 [c0] (by kernel_rfl)
  obtain ⟨x0, e0, w0⟩ : ∃ x : Int, [c0] = (encI .i64) x ∧ (WfI .i64) x := (tells_int Try.underlying3) p0 _ h0 z0
  obtain ⟨p1, h1, z1⟩ := shows_field Try.underlying109 h hs 1 21 [c1] (by kernel_rfl)
  obtain ⟨x1, e1, w1⟩ : ∃ x : Int, [c1] = (encI .i32) x ∧ (WfI .i32) x := (tells_int Try.underlying21) p1 _ h1 z1
  refine ⟨⟨x0, x1⟩, ?_, ⟨w0, w1⟩⟩
  show [c0] ++ [c1] = ((encI .i64) x0 ++ (encI .i32) x1)
  rw [e0, e1]
/-- Its numbers are numbers of their kinds, its lists no longer than memory. -/
def WfSt25 (x : St25) : Prop := (WfL WfSt108) x.Pre_ ∧ (WfL WfSt108) x.Suf_ ∧ (WfL WfSt108) x.NPre_ ∧ (WfL WfSt108) x.NSuf_ ∧ WfB x.Neg_ ∧ (WfI .i64) x.Hash_ ∧ (WfI .i64) x.MinInt_ ∧ (WfI .i64) x.MinFrac_ ∧ (WfI .i64) x.MaxFrac_ ∧ (WfI .i64) x.G1_ ∧ (WfI .i64) x.G2_ ∧ (WfI .i64) x.MinSig_ ∧ (WfI .i64) x.MaxSig_ ∧ (WfI .i64) x.Exp_ ∧ WfB x.ExpPlus_ ∧ (WfI .i32) x.Pad_ ∧ (WfI .i64) x.PadAt_
theorem tells_T26 {n : Nat} : Tells Try.prog (n + 4) 26 encSt25 WfSt25 := fun d cs h hs => by
  have hl : cs.length = 17 := (shows_len Try.underlying26 h).trans (by kernel_rfl)
  obtain ⟨c0, c1, c2, c3, c4, c5, c6, c7, c8, c9, c10, c11, c12, c13, c14, c15, c16, rfl⟩ := listN17 hl
  obtain ⟨p0, h0, z0⟩ := shows_field Try.underlying26 h hs 0 24 [c0] (by kernel_rfl)
  obtain ⟨x0, e0, w0⟩ : ∃ x : List St108, [c0] = (encL encSt108 2) x ∧ (WfL WfSt108) x := (tells_list (enc := encSt108) (Wf := WfSt108) Try.underlying24 (k := 2) (by kernel_rfl) (by kernel_rfl) tells_T109) p0 _ h0 z0
  obtain ⟨p1, h1, z1⟩ := shows_field Try.underlying26 h hs 1 24 [c1] (by kernel_rfl)
  obtain ⟨x1, e1, w1⟩ : ∃ x : List St108, [c1] = (encL encSt108 2) x ∧ (WfL WfSt108) x := (tells_list (enc := encSt108) (Wf := WfSt108) Try.underlying24 (k := 2) (by kernel_rfl) (by kernel_rfl) tells_T109) p1 _ h1 z1
  obtain ⟨p2, h2, z2⟩ := shows_field Try.underlying26 h hs 2 24 [c2] (by kernel_rfl)
  obtain ⟨x2, e2, w2⟩ : ∃ x : List St108, [c2] = (encL encSt108 2) x ∧ (WfL WfSt108) x := (tells_list (enc := encSt108) (Wf := WfSt108) Try.underlying24 (k := 2) (by kernel_rfl) (by kernel_rfl) tells_T109) p2 _ h2 z2
  obtain ⟨p3, h3, z3⟩ := shows_field Try.underlying26 h hs 3 24 [c3] (by kernel_rfl)
  obtain ⟨x3, e3, w3⟩ : ∃ x : List St108, [c3] = (encL encSt108 2) x ∧ (WfL WfSt108) x := (tells_list (enc := encSt108) (Wf := WfSt108) Try.underlying24 (k := 2) (by kernel_rfl) (by kernel_rfl) tells_T109) p3 _ h3 z3
  obtain ⟨p4, h4, z4⟩ := shows_field Try.underlying26 h hs 4 4 [c4] (by kernel_rfl)
  obtain ⟨x4, e4, w4⟩ : ∃ x : Bool, [c4] = encB x ∧ WfB x := (tells_bool Try.underlying4) p4 _ h4 z4
  obtain ⟨p5, h5, z5⟩ := shows_field Try.underlying26 h hs 5 3 [c5] (by kernel_rfl)
  obtain ⟨x5, e5, w5⟩ : ∃ x : Int, [c5] = (encI .i64) x ∧ (WfI .i64) x := (tells_int Try.underlying3) p5 _ h5 z5
  obtain ⟨p6, h6, z6⟩ := shows_field Try.underlying26 h hs 6 3 [c6] (by kernel_rfl)
  obtain ⟨x6, e6, w6⟩ : ∃ x : Int, [c6] = (encI .i64) x ∧ (WfI .i64) x := (tells_int Try.underlying3) p6 _ h6 z6
  obtain ⟨p7, h7, z7⟩ := shows_field Try.underlying26 h hs 7 3 [c7] (by kernel_rfl)
  obtain ⟨x7, e7, w7⟩ : ∃ x : Int, [c7] = (encI .i64) x ∧ (WfI .i64) x := (tells_int Try.underlying3) p7 _ h7 z7
  obtain ⟨p8, h8, z8⟩ := shows_field Try.underlying26 h hs 8 3 [c8] (by kernel_rfl)
  obtain ⟨x8, e8, w8⟩ : ∃ x : Int, [c8] = (encI .i64) x ∧ (WfI .i64) x := (tells_int Try.underlying3) p8 _ h8 z8
  obtain ⟨p9, h9, z9⟩ := shows_field Try.underlying26 h hs 9 3 [c9] (by kernel_rfl)
  obtain ⟨x9, e9, w9⟩ : ∃ x : Int, [c9] = (encI .i64) x ∧ (WfI .i64) x := (tells_int Try.underlying3) p9 _ h9 z9
  obtain ⟨p10, h10, z10⟩ := shows_field Try.underlying26 h hs 10 3 [c10] (by kernel_rfl)
  obtain ⟨x10, e10, w10⟩ : ∃ x : Int, [c10] = (encI .i64) x ∧ (WfI .i64) x := (tells_int Try.underlying3) p10 _ h10 z10
  obtain ⟨p11, h11, z11⟩ := shows_field Try.underlying26 h hs 11 3 [c11] (by kernel_rfl)
  obtain ⟨x11, e11, w11⟩ : ∃ x : Int, [c11] = (encI .i64) x ∧ (WfI .i64) x := (tells_int Try.underlying3) p11 _ h11 z11
  obtain ⟨p12, h12, z12⟩ := shows_field Try.underlying26 h hs 12 3 [c12] (by kernel_rfl)
  obtain ⟨x12, e12, w12⟩ : ∃ x : Int, [c12] = (encI .i64) x ∧ (WfI .i64) x := (tells_int Try.underlying3) p12 _ h12 z12
  obtain ⟨p13, h13, z13⟩ := shows_field Try.underlying26 h hs 13 3 [c13] (by kernel_rfl)
  obtain ⟨x13, e13, w13⟩ : ∃ x : Int, [c13] = (encI .i64) x ∧ (WfI .i64) x := (tells_int Try.underlying3) p13 _ h13 z13
  obtain ⟨p14, h14, z14⟩ := shows_field Try.underlying26 h hs 14 4 [c14] (by kernel_rfl)
  obtain ⟨x14, e14, w14⟩ : ∃ x : Bool, [c14] = encB x ∧ WfB x := (tells_bool Try.underlying4) p14 _ h14 z14
  obtain ⟨p15, h15, z15⟩ := shows_field Try.underlying26 h hs 15 21 [c15] (by kernel_rfl)
  obtain ⟨x15, e15, w15⟩ : ∃ x : Int, [c15] = (encI .i32) x ∧ (WfI .i32) x := (tells_int Try.underlying21) p15 _ h15 z15
  obtain ⟨p16, h16, z16⟩ := shows_field Try.underlying26 h hs 16 3 [c16] (by kernel_rfl)
  obtain ⟨x16, e16, w16⟩ : ∃ x : Int, [c16] = (encI .i64) x ∧ (WfI .i64) x := (tells_int Try.underlying3) p16 _ h16 z16
  refine ⟨⟨x0, x1, x2, x3, x4, x5, x6, x7, x8, x9, x10, x11, x12, x13, x14, x15, x16⟩, ?_, ⟨w0, w1, w2, w3, w4, w5, w6, w7, w8, w9, w10, w11, w12, w13, w14, w15, w16⟩⟩
  show [c0] ++ [c1] ++ [c2] ++ [c3] ++ [c4] ++ [c5] ++ [c6] ++ [c7] ++ [c8] ++ [c9] ++ [c10] ++ [c11] ++ [c12] ++ [c13] ++ [c14] ++ [c15] ++ [c16] = ((encL encSt108 2) x0 ++ (encL encSt108 2) x1 ++ (encL encSt108 2) x2 ++ (encL encSt108 2) x3 ++ encB x4 ++ (encI .i64) x5 ++ (encI .i64) x6 ++ (encI .i64) x7 ++ (encI .i64) x8 ++ (encI .i64) x9 ++ (encI .i64) x10 ++ (encI .i64) x11 ++ (encI .i64) x12 ++ (encI .i64) x13 ++ encB x14 ++ (encI .i32) x15 ++ (encI .i64) x16)
  rw [e0, e1, e2, e3, e4, e5, e6, e7, e8, e9, e10, e11, e12, e13, e14, e15, e16]
/-- Its numbers are numbers of their kinds, its lists no longer than memory. -/
def WfSt28 (x : St28) : Prop := WfB x.Neg_ ∧ (WfL (WfI .u8)) x.D_ ∧ (WfI .i64) x.E_
theorem tells_T29 {n : Nat} : Tells Try.prog (n + 3) 29 encSt28 WfSt28 := fun d cs h hs => by
  have hl : cs.length = 3 := (shows_len Try.underlying29 h).trans (by kernel_rfl)
  obtain ⟨c0, c1, c2, rfl⟩ := listN3 hl
  obtain ⟨p0, h0, z0⟩ := shows_field Try.underlying29 h hs 0 4 [c0] (by kernel_rfl)
  obtain ⟨x0, e0, w0⟩ : ∃ x : Bool, [c0] = encB x ∧ WfB x := (tells_bool Try.underlying4) p0 _ h0 z0
  obtain ⟨p1, h1, z1⟩ := shows_field Try.underlying29 h hs 1 27 [c1] (by kernel_rfl)
  obtain ⟨x1, e1, w1⟩ : ∃ x : List Int, [c1] = (encL (encI .u8) 1) x ∧ (WfL (WfI .u8)) x := (tells_list (enc := (encI .u8)) (Wf := (WfI .u8)) Try.underlying27 (k := 1) (by kernel_rfl) (by kernel_rfl) (tells_int Try.underlying5)) p1 _ h1 z1
  obtain ⟨p2, h2, z2⟩ := shows_field Try.underlying29 h hs 2 3 [c2] (by kernel_rfl)
  obtain ⟨x2, e2, w2⟩ : ∃ x : Int, [c2] = (encI .i64) x ∧ (WfI .i64) x := (tells_int Try.underlying3) p2 _ h2 z2
  refine ⟨⟨x0, x1, x2⟩, ?_, ⟨w0, w1, w2⟩⟩
  show [c0] ++ [c1] ++ [c2] = (encB x0 ++ (encL (encI .u8) 1) x1 ++ (encI .i64) x2)
  rw [e0, e1, e2]
/-- Its numbers are numbers of their kinds, its lists no longer than memory. -/
def WfSt44 (x : St44) : Prop := WfSt25 x.P_ ∧ (WfI .i64) x.Digits_ ∧ WfSt28 x.D_ ∧ (WfI .i64) x.Mode_ ∧ (WfI .i64) x.Other_
theorem tells_T45 {n : Nat} : Tells Try.prog (n + 5) 45 encSt44 WfSt44 := fun d cs h hs => by
  have hl : cs.length = 23 := (shows_len Try.underlying45 h).trans (by kernel_rfl)
  obtain ⟨c0, c1, c2, c3, c4, c5, c6, c7, c8, c9, c10, c11, c12, c13, c14, c15, c16, c17, c18, c19, c20, c21, c22, rfl⟩ := listN23 hl
  obtain ⟨p0, h0, z0⟩ := shows_field Try.underlying45 h hs 0 26 [c0, c1, c2, c3, c4, c5, c6, c7, c8, c9, c10, c11, c12, c13, c14, c15, c16] (by kernel_rfl)
  obtain ⟨x0, e0, w0⟩ : ∃ x : St25, [c0, c1, c2, c3, c4, c5, c6, c7, c8, c9, c10, c11, c12, c13, c14, c15, c16] = encSt25 x ∧ WfSt25 x := tells_T26 p0 _ h0 z0
  obtain ⟨p1, h1, z1⟩ := shows_field Try.underlying45 h hs 1 3 [c17] (by kernel_rfl)
  obtain ⟨x1, e1, w1⟩ : ∃ x : Int, [c17] = (encI .i64) x ∧ (WfI .i64) x := (tells_int Try.underlying3) p1 _ h1 z1
  obtain ⟨p2, h2, z2⟩ := shows_field Try.underlying45 h hs 2 29 [c18, c19, c20] (by kernel_rfl)
  obtain ⟨x2, e2, w2⟩ : ∃ x : St28, [c18, c19, c20] = encSt28 x ∧ WfSt28 x := tells_T29 p2 _ h2 z2
  obtain ⟨p3, h3, z3⟩ := shows_field Try.underlying45 h hs 3 3 [c21] (by kernel_rfl)
  obtain ⟨x3, e3, w3⟩ : ∃ x : Int, [c21] = (encI .i64) x ∧ (WfI .i64) x := (tells_int Try.underlying3) p3 _ h3 z3
  obtain ⟨p4, h4, z4⟩ := shows_field Try.underlying45 h hs 4 3 [c22] (by kernel_rfl)
  obtain ⟨x4, e4, w4⟩ : ∃ x : Int, [c22] = (encI .i64) x ∧ (WfI .i64) x := (tells_int Try.underlying3) p4 _ h4 z4
  refine ⟨⟨x0, x1, x2, x3, x4⟩, ?_, ⟨w0, w1, w2, w3, w4⟩⟩
  show [c0, c1, c2, c3, c4, c5, c6, c7, c8, c9, c10, c11, c12, c13, c14, c15, c16] ++ [c17] ++ [c18, c19, c20] ++ [c21] ++ [c22] = (encSt25 x0 ++ (encI .i64) x1 ++ encSt28 x2 ++ (encI .i64) x3 ++ (encI .i64) x4)
  rw [e0, e1, e2, e3, e4]
theorem of_dec {x : St28} (w : WfSt28 x) : ∃ neg l E, x = ⟨neg, up l, E⟩ ∧ l.length ≤ 140737488355328 := by
  obtain ⟨neg, D, E⟩ := x
  obtain ⟨_, w2, _⟩ := w
  obtain ⟨l, rfl, _, hl⟩ := up_of w2
  exact ⟨neg, l, E, rfl, by rw [hl]; exact w2.1⟩
theorem of_pat {p : St25} (w : WfSt25 p) (n : Int) : ∃ b, exerguelaw17_of p n = some b ∧ (b = true → cntP p ∧ pfP p ∧ n ≤ 40) := by
  obtain ⟨w1, w2, w3, w4, _⟩ := w
  exact of_tot w1.1 w2.1 w3.1 w4.1

/-- Rounded to a place. -/
theorem to_val {l : List Nat} {E q mode : Int} {neg : Bool} (h : nearP l E) (hq : -60 ≤ q) (hq2 : q ≤ 60) (hm : 0 ≤ mode ∧ mode ≤ 7) :
    ∃ l' E', round_To ⟨neg, up l, E⟩ q mode = some (⟨neg, up l', E'⟩, 0) ∧ rightP l' E' ∧ magN l' E' < pw 600 ∧ magN l' E' % pw q = 0 ∧ -200 ≤ E' := by
  obtain ⟨l', E', g1, g2, g3, g4⟩ := inc_eq (neg := neg) (p := q) (k := 1) h.1 (near_600 h) (near_E h) (by omega) (by omega) (by omega) (by omega) hm.1 hm.2
  refine ⟨l', E', ?_, g2, ?_, ?_, g4⟩
  · unfold round_To
    have g1' : round_Inc ⟨neg, up l, E⟩ 1 q mode = some (⟨neg, up l', E'⟩, 0) := g1
    rw [g1']; rfl
  · rw [g3]; exact near_inc h (by omega) (by omega) (by omega)
  · have := inc_mod (neg := neg) (A := magN l E) (U := 1 * pw q) (mode := mode)
    rw [← g3, Nat.one_mul] at this; exact this
theorem inc_stays {l : List Nat} {E q mode : Int} {neg : Bool} (h : rightP l E) (hA : magN l E < pw 600) (hE : -200 ≤ E) (hq : -200 ≤ q) (hq2 : q ≤ 200) (hm : 0 ≤ mode ∧ mode ≤ 7) (hz : magN l E % pw q = 0) :
    round_Inc ⟨neg, up l, E⟩ 1 q mode = some (⟨neg, up l, E⟩, 0) := by
  obtain ⟨l', E', g1, g2, g3, g4⟩ := inc_eq (neg := neg) (p := q) (k := 1) h hA hE (by omega) (by omega) (by omega) (by omega) hm.1 hm.2
  rw [inc_self (by rw [Nat.one_mul]; exact hz)] at g3
  obtain ⟨rfl, rfl⟩ := right_same g2 h g3
  exact g1

theorem mag_le {l : List Nat} {E T : Int} (h : rightP l E) (h0 : l ≠ []) (hA : magN l E < pw T) (hT : -3000 ≤ T) : E + l.length ≤ T := by
  have hl := right_low h
  have hpos : 0 < l.length := List.length_pos_iff.2 h0
  have := mag_low h h0
  apply Decidable.byContradiction
  intro hc
  have := pw_le (m := T) (n := E + l.length - 1) (by omega) (by omega)
  omega
theorem sig_stays {l : List Nat} {E mode : Int} {K : Nat} {neg : Bool} (h : rightP l E) (hA : magN l E < pw 150) (hE : l ≠ [] → -110 ≤ E) (hK : 1 ≤ K) (hK2 : K ≤ 41) (hm : 0 ≤ mode ∧ mode ≤ 7) (hlen : l.length ≤ K) :
    round_Sig ⟨neg, up l, E⟩ K mode = some (⟨neg, up l, E⟩, 0) := by
  unfold round_Sig
  rw [is_eq hm.1 hm.2, right_eq h, mag_eq h, dF (show ¬ (K : Int) < 1 by omega)]
  simp only [Bool.not_true, cond_false, Option.bind_some, joinX, up_len]
  by_cases h0 : l = []
  · subst h0
    have hE := h.2.1 rfl
    subst hE
    rfl
  · have hpos : 0 < l.length := List.length_pos_iff.2 h0
    have hT := mag_le h h0 hA (by omega)
    have hE := hE h0
    rw [if_neg h0, dF (show ¬ (l.length : Int) = 0 by omega)]
    have e1 : IntKind.wrap .i64 (IntKind.wrap .i64 (E + l.length - 1 + 1000) + 1) = E + l.length + 1000 := by
      rw [w64 (n := E + (l.length : Int) - 1 + 1000) (by omega) (by omega), w64 (by omega) (by omega)]; omega
    have e2 : IntKind.wrap .i64 (IntKind.wrap .i64 (E + l.length - 1 - K) + 1) = E + l.length - K := by
      rw [w64 (n := E + (l.length : Int) - 1 - K) (by omega) (by omega), w64 (by omega) (by omega)]; omega
    simp only [cond_false, Option.bind_some]
    rw [e1, e2, dF (show ¬ (K : Int) > E + l.length + 1000 by omega), inc_stays h (pw_big hA (by omega) (by omega)) (by omega) (by omega) (by omega) hm (mag_mod h (by omega) (by omega))]
    rfl
theorem sig_val {l : List Nat} {E mode : Int} {K : Nat} {neg : Bool} (h : nearP l E) (hK : 1 ≤ K) (hK2 : K ≤ 41) (hm : 0 ≤ mode ∧ mode ≤ 7) :
    ∃ l' E', round_Sig ⟨neg, up l, E⟩ K mode = some (⟨neg, up l', E'⟩, 0) ∧ rightP l' E' ∧ magN l' E' < pw 150 ∧ (l' ≠ [] → -110 ≤ E') ∧ l'.length ≤ K := by
  have hr := h.1
  have hnl := near_lt h
  by_cases h0 : l = []
  · subst h0
    have hE := hr.2.1 rfl
    subst hE
    exact ⟨[], 0, sig_stays hr (pw_big hnl (by omega) (by omega)) (fun e => absurd rfl e) hK hK2 hm (by simp), hr, pw_big hnl (by omega) (by omega), fun e => absurd rfl e, by simp⟩
  · have hpos : 0 < l.length := List.length_pos_iff.2 h0
    have hn2 := h.2
    obtain ⟨M, hM⟩ : ∃ M : Int, M = E + l.length - 1 := ⟨_, rfl⟩
    obtain ⟨l1, E1, i1, i2, i3, i4⟩ := inc_eq (neg := neg) (p := M - K + 1) (k := 1) (mode := mode) hr (near_600 h) (near_E h) (by omega) (by omega) (by omega) (by omega) hm.1 hm.2
    have i1' : round_Inc ⟨neg, up l, E⟩ 1 (M - K + 1) mode = some (⟨neg, up l1, E1⟩, 0) := i1
    rw [Nat.one_mul] at i3
    have hU := pw_pos (M - K + 1)
    have hmod : magN l1 E1 % pw (M - K + 1) = 0 := by rw [i3]; exact inc_mod
    refine ⟨l1, E1, ?_, i2, ?_, fun h1 => ?_, ?_⟩
    · unfold round_Sig
      rw [is_eq hm.1 hm.2, right_eq hr, mag_eq hr, if_neg h0, ← hM, dF (show ¬ (K : Int) < 1 by omega)]
      simp only [Bool.not_true, cond_false, Option.bind_some, joinX, up_len]
      rw [dF (show ¬ (l.length : Int) = 0 by omega), w64 (n := M + 1000) (by omega) (by omega), w64 (n := M + 1000 + 1) (by omega) (by omega), dF (show ¬ (K : Int) > M + 1000 + 1 by omega), w64 (n := M - (K : Int)) (by omega) (by omega), w64 (by omega) (by omega), i1']
      rfl
    · rw [i3]
      have h1 := inc_le (neg := neg) (A := magN l E) (U := pw (M - K + 1)) (mode := mode)
      have h2 := pw_two (m := 100) (by omega) hnl (pw_le (m := M - K + 1) (n := 100) (by omega) (by omega))
      have h3 := pw_le (m := 101) (n := 150) (by omega) (by omega)
      have h4 : pw (100 + 1) = pw 101 := rfl
      omega
    · have := low_of_mod i2 h1 (by omega) hmod
      omega
    · have hlt : magN l E / pw (M - K + 1) < 10 ^ K := by
        have ht := mag_top hr
        rw [if_neg h0, ← hM] at ht
        have h1 := Nat.div_eq_zero_iff.1 ht
        have h2 := pw_pos (M + 1)
        have h3 := pw_add (m := M - K + 1) K (by omega)
        have e : M - (K : Int) + 1 + (K : Nat) = M + 1 := by omega
        rw [e] at h3
        rw [Nat.div_lt_iff_lt_mul (pw_pos _), Nat.mul_comm, ← h3]
        omega
      refine sig_len (t := incN neg (magN l E) (pw (M - K + 1)) mode / pw (M - K + 1)) i2 (p := M - K + 1) (by omega) hK ?_ ?_
      · generalize pw (M - K + 1) = U at *
        unfold incN
        split
        · omega
        · rw [Nat.mul_div_cancel _ hU]; split <;> omega
      · rw [i3, Nat.div_mul_cancel]
        rw [i3] at hmod
        exact Nat.dvd_of_mod_eq_zero hmod
/-- What rounding by a pattern comes to. -/
theorem round_val {p : St25} {n mode : Int} {l : List Nat} {E : Int} {neg : Bool} (hc : cntP p) (hn : n ≤ 40) (h : nearP l E) (hm : 0 ≤ mode ∧ mode ≤ 7) :
    ∃ l' E', shape_Round p n ⟨neg, up l, E⟩ mode = some (⟨neg, up l', E'⟩, 0) ∧ rightP l' E' ∧ magN l' E' < pw 600 ∧ -200 ≤ E' ∧
      (∀ other, 0 ≤ other ∧ other ≤ 7 → shape_Round p n ⟨neg, up l', E'⟩ other = some (⟨neg, up l', E'⟩, 0)) ∧
      (if p.Exp_ > 0 then (l'.length : Int) ≤ p.MaxFrac_ + 1 else if p.MaxSig_ > 0 then (l'.length : Int) ≤ p.MaxSig_ else if n ≥ 0 then -n ≤ E' else -p.MaxFrac_ ≤ E') := by
  obtain ⟨c1, c2, c3, c4, c5, c6, c7, c8, c9⟩ := hc
  have rtot : ∀ (l : List Nat) (E q mode : Int), round_To ⟨neg, up l, E⟩ q mode = Option.bind (round_Inc ⟨neg, up l, E⟩ 1 q mode) fun y1 => some (y1.1, y1.2) := fun _ _ _ _ => rfl
  have hto : ∀ q : Int, -40 ≤ q → q ≤ 0 → ∃ l' E', round_To ⟨neg, up l, E⟩ q mode = some (⟨neg, up l', E'⟩, 0) ∧ rightP l' E' ∧ magN l' E' < pw 600 ∧ -200 ≤ E' ∧ (∀ other, 0 ≤ other ∧ other ≤ 7 → round_To ⟨neg, up l', E'⟩ q other = some (⟨neg, up l', E'⟩, 0)) ∧ q ≤ E' := by
    intro q h1 h2
    obtain ⟨l', E', g1, g2, g3, g4, g5⟩ := to_val (neg := neg) h (q := q) (by omega) (by omega) hm
    refine ⟨l', E', g1, g2, g3, g5, fun other ho => ?_, ?_⟩
    · rw [rtot, inc_stays g2 g3 g5 (by omega) (by omega) ho g4]; rfl
    · by_cases h0 : l' = []
      · have := g2.2.1 h0; omega
      · exact low_of_mod g2 h0 (by omega) g4
  unfold shape_Round
  by_cases hx : p.Exp_ > 0
  · rw [dT hx, count_eq c4.1 (by omega)]
    obtain ⟨K, hK⟩ : ∃ K : Nat, p.MaxFrac_ + 1 = K := ⟨(p.MaxFrac_ + 1).toNat, by omega⟩
    obtain ⟨l', E', g1, g2, g3, g4, g5⟩ := sig_val (neg := neg) (K := K) h (by omega) (by omega) hm
    have hE : -200 ≤ E' := by
      by_cases h0 : l' = []
      · have := g2.2.1 h0; omega
      · have := g4 h0; omega
    refine ⟨l', E', ?_, g2, pw_big g3 (by omega) (by omega), hE, fun other ho => ?_, by rw [if_pos hx]; omega⟩
    · simp only [cond_true, Option.bind_some]
      rw [hK, w64 (by omega) (by omega), g1]; rfl
    · simp only [cond_true, Option.bind_some]
      rw [hK, w64 (by omega) (by omega), sig_stays g2 g3 g4 (by omega) (by omega) ho g5]; rfl
  · rw [dF hx]
    by_cases hs : p.MaxSig_ > 0
    · rw [dT hs]
      obtain ⟨K, hK⟩ : ∃ K : Nat, p.MaxSig_ = K := ⟨p.MaxSig_.toNat, by omega⟩
      obtain ⟨l', E', g1, g2, g3, g4, g5⟩ := sig_val (neg := neg) (K := K) h (by omega) (by omega) hm
      have hE : -200 ≤ E' := by
        by_cases h0 : l' = []
        · have := g2.2.1 h0; omega
        · have := g4 h0; omega
      refine ⟨l', E', ?_, g2, pw_big g3 (by omega) (by omega), hE, fun other ho => ?_, by rw [if_neg hx, if_pos hs]; omega⟩
      · simp only [cond_true, cond_false, Option.bind_some]
        rw [hK, g1]; rfl
      · simp only [cond_true, cond_false, Option.bind_some]
        rw [hK, sig_stays g2 g3 g4 (by omega) (by omega) ho g5]; rfl
    · rw [dF hs]
      by_cases hd : n ≥ 0
      · rw [dT hd]
        obtain ⟨l', E', g1, g2, g3, g4, g5, g6⟩ := hto (-n) (by omega) (by omega)
        have ew : IntKind.wrap .i64 (0 - n) = -n := by rw [w64 (by omega) (by omega)]; omega
        refine ⟨l', E', ?_, g2, g3, g4, fun other ho => ?_, by rw [if_neg hx, if_neg hs, if_pos hd]; exact g6⟩
        · simp only [cond_true, cond_false, Option.bind_some]
          rw [ew, g1]; rfl
        · simp only [cond_true, cond_false, Option.bind_some]
          rw [ew, g5 other ho]; rfl
      · rw [dF hd]
        obtain ⟨l', E', g1, g2, g3, g4, g5, g6⟩ := hto (-p.MaxFrac_) (by omega) (by omega)
        have ew : IntKind.wrap .i64 (0 - p.MaxFrac_) = -p.MaxFrac_ := by rw [w64 (by omega) (by omega)]; omega
        refine ⟨l', E', ?_, g2, g3, g4, fun other ho => ?_, by rw [if_neg hx, if_neg hs, if_neg hd]; exact g6⟩
        · simp only [cond_true, cond_false, Option.bind_some]
          rw [ew, g1]; rfl
        · simp only [cond_true, cond_false, Option.bind_some]
          rw [ew, g5 other ho]; rfl
theorem Few_true (x : St44) (w : WfSt44 x) : exerguelaw17_ShapeFew x = some true := by
  obtain ⟨p, n, d, mode, other⟩ := x
  obtain ⟨wp, wn, wd, wm, wo⟩ := w
  have wp : WfSt25 p := wp
  have wd : WfSt28 d := wd
  obtain ⟨b1, e1, f1⟩ := of_pat wp n
  obtain ⟨neg, l, E, hd, hl⟩ := of_dec wd
  subst hd
  obtain ⟨b2, e2, f2⟩ := rnear_eq (neg := neg) (E := E) hl
  obtain ⟨b3, e3, f3⟩ := ris_eq (mode := mode)
  obtain ⟨b4, e4, f4⟩ := ris_eq (mode := other)
  unfold exerguelaw17_ShapeFew
  simp only at e1 ⊢
  rw [shown_eq, e1, e2, e3, e4]
  simp only [Option.bind_some]
  cases b1 with
  | false => rfl
  | true =>
  cases b2 with
  | false => rfl
  | true =>
  cases b3 with
  | false => rfl
  | true =>
  cases b4 with
  | false => rfl
  | true =>
  obtain ⟨hc, hpf, hn⟩ := f1 rfl
  have hnr := f2.1 rfl
  obtain ⟨l', E', r1, r2, r3, r4, r5, r6⟩ := round_val (neg := neg) hc hn hnr (f3.1 rfl)
  have r7 := r5 other (f4.1 rfl)
  obtain ⟨a, b, hfig, hr, ha, hb, ha7, hb11⟩ := figures_val (n := n) neg hc hn r2 r4 r3
  obtain ⟨c1, c2, c3, c4, c5, c6, c7, c8, c9⟩ := hc
  have hlow := right_low hr
  have hlow2 := right_low r2
  simp only [cond_false, Bool.not_true, Option.bind_some, joinX]
  rw [r1]
  simp only [Option.bind_some]
  rw [r7]
  simp only [Option.bind_some]
  rw [rsame_eq r2 r2, hfig, rmag_eq r2]
  rw [dF (show ¬ ¬ True by simp), dT (show neg = neg from rfl), dT (show magN l' E' = magN l' E' from rfl)]
  simp only [cond_false, cond_true, Bool.and_self, Bool.not_true, Option.bind_some, bne_self_eq_false, joinX, up_len, figs_len]
  unfold pfP at hpf
  by_cases hx : p.Exp_ > 0
  · rw [dT hx]
    rw [if_pos hx] at r6
    have hB : behindV p n l' (bareE p l' E') = max p.MinFrac_ (-(bareE p l' E')) := by
      unfold behindV leastB; rw [if_pos hx]; omega
    have hbe : bareE p l' E' = if l' = [] then E' else -((l'.length : Int) - 1) := by unfold bareE; rw [if_neg (by omega)]
    have h1 : (b : Int) ≤ p.MaxFrac_ ∧ (b : Int) ≥ p.MinFrac_ := by
      rw [hB, hbe] at hb
      by_cases h0 : l' = []
      · rw [if_pos h0] at hb
        have := r2.2.1 h0
        omega
      · rw [if_neg h0] at hb
        have hpos : 0 < l'.length := List.length_pos_iff.2 h0
        omega
    have h2 : bareP p l' E' = if l' = [] then 0 else E' + (l'.length : Int) - 1 := by unfold bareP; rw [if_neg (by omega)]
    rw [dT h1.1, dT h1.2, dT h2]; rfl
  · rw [dF hx]
    rw [if_neg hx] at r6
    have hP : bareP p l' E' = 0 := by unfold bareP; rw [if_pos (by omega)]
    have hE0 : bareE p l' E' = E' := by unfold bareE; rw [if_pos (by omega)]
    rw [hE0] at ha hb hr
    rw [dT hP]
    by_cases hs : p.MaxSig_ > 0
    · rw [dT hs]
      rw [if_pos hs] at r6
      have hla : leastA p = 1 := by unfold leastA; rw [if_pos ⟨by omega, hs⟩]
      have h1 : (a : Int) ≥ 1 := by unfold aheadV at ha; rw [hla] at ha; split at ha <;> omega
      rw [dT r6, dT h1]; rfl
    · rw [dF hs]
      rw [if_neg hs] at r6
      have hla : leastA p = p.MinInt_ := by unfold leastA; rw [if_neg (fun h => hs h.2)]
      have h1 : (a : Int) ≥ p.MinInt_ := by unfold aheadV at ha; rw [hla] at ha; split at ha <;> omega
      rw [dT h1]
      by_cases hd : n ≥ 0
      · rw [dT hd]
        rw [if_pos hd] at r6
        have hB : (b : Int) = n := by
          unfold behindV leastB at hb; rw [if_neg hx, if_neg hs, if_pos hd] at hb; omega
        rw [dT hB]; rfl
      · rw [dF hd]
        rw [if_neg hd] at r6
        have hB : (b : Int) ≤ p.MaxFrac_ ∧ (b : Int) ≥ p.MinFrac_ := by
          unfold behindV leastB at hb; rw [if_neg hx, if_neg hs, if_neg hd] at hb; omega
        rw [dT hB.1, dT hB.2]; rfl

set_option maxRecDepth 100000 in
theorem ShapeFew_lifted (os : Os) (started : os.Started) (H : Type) (enc : TypeId × Value → H) :
    ReturnsInHanded {} Try.checked os 4 .any (Rows.shapeFewSpec.pre6 enc Try.prog Try.f4 Rows.shapeFewRow.domain false) (Rows.shapeFewSpec.post enc Try.prog Try.f4 false true false false) := by
  refine returnsInHanded_of_change_sized (C := Try.checked) Try.own started (by kernel_rfl) Try.func4
    (ChangeSpec.witness6 (enc := enc) (C := Try.checked) false ⟨#[], #[.agg #[.slice none 0 0, .slice none 0 0, .slice none 0 0, .slice none 0 0, .bool false, .int .i64 0, .int .i64 0, .int .i64 0, .int .i64 0, .int .i64 0, .int .i64 0, .int .i64 0, .int .i64 0, .int .i64 0, .bool false, .int .i32 0, .int .i64 0, .int .i64 0, .bool false, .slice none 0 0, .int .i64 0, .int .i64 0, .int .i64 0]], []⟩ 8 (by kernel_rfl) (by kernel_rfl) (by kernel_rfl) (by kernel_rfl)) ?_
  intro W base args ds gs before hval0 hW _ hsz0 _
  have hsz : (DataW.weightsEach Try.prog (Try.f4.params.toList ++ Rows.shapeFewSpec.plain.varTypes Try.prog) (ds ++ gs)).all (· ≤ reachBytes) = true := hsz0
  clear hsz0
  refine law_post (P := Try.prog) (n := 5) (tb := 4) Try.laidOut Try.underlying4 rfl rfl (by kernel_rfl) (fun h => ?_) hval0 hW ?_
  · rw [Try.params4] at h
    obtain ⟨d0, rfl⟩ := l1 h
    exact ⟨rfl, rfl, rfl⟩
  · intro ss hg hl1 hl2 hs
    subst hg
    rw [Try.params4] at hl1 hl2 hs hsz
    obtain ⟨d0, rfl⟩ := l1 hl1
    obtain ⟨s0, rfl⟩ := l1 hl2
    obtain ⟨cs0, rfl, hc0⟩ := showsV_struct Try.underlying45 (hs 0 45 _ _ rfl rfl rfl)
    obtain ⟨a0, rfl, w0⟩ := tells_T45 (n := 0) _ _ hc0 (sized_param hsz (j := 0) rfl rfl)
    exact ⟨[], exerguelaw17_ShapeFew_ok (Few_true a0 w0)⟩
theorem ShapeFew_holds : Rows.ShapeFewSaid :=
  OpenClaim.holds_of_wide 4 Try.f4 rfl rfl rfl rfl rfl rfl rfl ⟨rfl, rfl, rfl, rfl, rfl⟩ rfl rfl rfl rfl rfl (by kernel_rfl) Try.func4 (by kernel_rfl)
    (of_decide_eq_true (by kernel_rfl)) (by unfold Func.isWrapper; first | (rw [if_pos (by decide +kernel)]; kernel_rfl) | (rw [if_neg (by decide +kernel)]; exact ⟨rfl, rfl⟩))
    (fun os started H enc _ => ShapeFew_lifted os started H enc)

end Go.Proofs.Ytcmmjficmoflkaa
