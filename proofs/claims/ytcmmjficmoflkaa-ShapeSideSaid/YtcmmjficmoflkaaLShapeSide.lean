/-
  The statement ShapeSide is proved: at every input the law answers true, and its input reads as it did. No conditions.
-/
import Derived.Test.YtcmmjficmoflkaaP
import Derived.Test.YtcmmjficmoflkaaRows
import Derived.ProofKit
import Derived.SizedLaws
namespace Go.Proofs.Ytcmmjficmoflkaa
open Go Go.Sy Go.RowKit Go.ChangeShapes Go.WideShapes Go.ChangeAt
set_option linter.unusedVariables false
set_option linter.unusedSimpArgs false
set_option maxRecDepth 100000
set_option maxHeartbeats 4000000

theorem Try.own : ownKnob Try.prog.godebug = none := by kernel_rfl
theorem Try.laidOut : laidOutB Try.prog = true := by kernel_rfl

theorem listN2 {α : Type} {l : List α} (h : l.length = 2) : ∃ a0 a1, l = [a0, a1] := by
  match l, h with
  | [a0, a1], _ => exact ⟨a0, a1, rfl⟩
theorem listN3 {α : Type} {l : List α} (h : l.length = 3) : ∃ a0 a1 a2, l = [a0, a1, a2] := by
  match l, h with
  | [a0, a1, a2], _ => exact ⟨a0, a1, a2, rfl⟩
theorem listN7 {α : Type} {l : List α} (h : l.length = 7) : ∃ a0 a1 a2 a3 a4 a5 a6, l = [a0, a1, a2, a3, a4, a5, a6] := by
  match l, h with
  | [a0, a1, a2, a3, a4, a5, a6], _ => exact ⟨a0, a1, a2, a3, a4, a5, a6, rfl⟩
theorem listN17 {α : Type} {l : List α} (h : l.length = 17) : ∃ a0 a1 a2 a3 a4 a5 a6 a7 a8 a9 a10 a11 a12 a13 a14 a15 a16, l = [a0, a1, a2, a3, a4, a5, a6, a7, a8, a9, a10, a11, a12, a13, a14, a15, a16] := by
  match l, h with
  | [a0, a1, a2, a3, a4, a5, a6, a7, a8, a9, a10, a11, a12, a13, a14, a15, a16], _ => exact ⟨a0, a1, a2, a3, a4, a5, a6, a7, a8, a9, a10, a11, a12, a13, a14, a15, a16, rfl⟩
theorem listN28 {α : Type} {l : List α} (h : l.length = 28) : ∃ a0 a1 a2 a3 a4 a5 a6 a7 a8 a9 a10 a11 a12 a13 a14 a15 a16 a17 a18 a19 a20 a21 a22 a23 a24 a25 a26 a27, l = [a0, a1, a2, a3, a4, a5, a6, a7, a8, a9, a10, a11, a12, a13, a14, a15, a16, a17, a18, a19, a20, a21, a22, a23, a24, a25, a26, a27] := by
  match l, h with
  | [a0, a1, a2, a3, a4, a5, a6, a7, a8, a9, a10, a11, a12, a13, a14, a15, a16, a17, a18, a19, a20, a21, a22, a23, a24, a25, a26, a27], _ => exact ⟨a0, a1, a2, a3, a4, a5, a6, a7, a8, a9, a10, a11, a12, a13, a14, a15, a16, a17, a18, a19, a20, a21, a22, a23, a24, a25, a26, a27, rfl⟩
/-- Its numbers are numbers of their kinds, its lists no longer than memory. -/
def WfSt22 (x : St22) : Prop := (WfI .i32) x.Zero_ ∧ (WfI .i32) x.Dec_ ∧ (WfI .i32) x.Group_ ∧ (WfI .i32) x.Minus_ ∧ (WfI .i32) x.Plus_ ∧ (WfI .i32) x.Percent_ ∧ (WfI .i32) x.Exp_
theorem tells_T23 {n : Nat} : Tells Try.prog (n + 2) 23 encSt22 WfSt22 := fun d cs h hs => by
  have hl : cs.length = 7 := (shows_len Try.underlying23 h).trans (by kernel_rfl)
  obtain ⟨c0, c1, c2, c3, c4, c5, c6, rfl⟩ := listN7 hl
  obtain ⟨p0, h0, z0⟩ := shows_field Try.underlying23 h hs 0 21 [c0] (by kernel_rfl)
  obtain ⟨x0, e0, w0⟩ : ∃ x : Int, [c0] = (encI .i32) x ∧ (WfI .i32) x := (tells_int Try.underlying21) p0 _ h0 z0
  obtain ⟨p1, h1, z1⟩ := shows_field Try.underlying23 h hs 1 21 [c1] (by kernel_rfl)
  obtain ⟨x1, e1, w1⟩ : ∃ x : Int, [c1] = (encI .i32) x ∧ (WfI .i32) x := (tells_int Try.underlying21) p1 _ h1 z1
  obtain ⟨p2, h2, z2⟩ := shows_field Try.underlying23 h hs 2 21 [c2] (by kernel_rfl)
  obtain ⟨x2, e2, w2⟩ : ∃ x : Int, [c2] = (encI .i32) x ∧ (WfI .i32) x := (tells_int Try.underlying21) p2 _ h2 z2
  obtain ⟨p3, h3, z3⟩ := shows_field Try.underlying23 h hs 3 21 [c3] (by kernel_rfl)
  obtain ⟨x3, e3, w3⟩ : ∃ x : Int, [c3] = (encI .i32) x ∧ (WfI .i32) x := (tells_int Try.underlying21) p3 _ h3 z3
  obtain ⟨p4, h4, z4⟩ := shows_field Try.underlying23 h hs 4 21 [c4] (by kernel_rfl)
  obtain ⟨x4, e4, w4⟩ : ∃ x : Int, [c4] = (encI .i32) x ∧ (WfI .i32) x := (tells_int Try.underlying21) p4 _ h4 z4
  obtain ⟨p5, h5, z5⟩ := shows_field Try.underlying23 h hs 5 21 [c5] (by kernel_rfl)
  obtain ⟨x5, e5, w5⟩ : ∃ x : Int, [c5] = (encI .i32) x ∧ (WfI .i32) x := (tells_int Try.underlying21) p5 _ h5 z5
  obtain ⟨p6, h6, z6⟩ := shows_field Try.underlying23 h hs 6 21 [c6] (by kernel_rfl)
  obtain ⟨x6, e6, w6⟩ : ∃ x : Int, [c6] = (encI .i32) x ∧ (WfI .i32) x := (tells_int Try.underlying21) p6 _ h6 z6
  refine ⟨⟨x0, x1, x2, x3, x4, x5, x6⟩, ?_, ⟨w0, w1, w2, w3, w4, w5, w6⟩⟩
  show [c0] ++ [c1] ++ [c2] ++ [c3] ++ [c4] ++ [c5] ++ [c6] = ((encI .i32) x0 ++ (encI .i32) x1 ++ (encI .i32) x2 ++ (encI .i32) x3 ++ (encI .i32) x4 ++ (encI .i32) x5 ++ (encI .i32) x6)
  rw [e0, e1, e2, e3, e4, e5, e6]
/-- Its numbers are numbers of their kinds, its lists no longer than memory. -/
def WfSt108 (x : St108) : Prop := (WfI .i64) x.Kind_ ∧ (WfI .i32) x.R_
theorem tells_T109 {n : Nat} : Tells Try.prog (n + 2) 109 encSt108 WfSt108 := fun d cs h hs => by
  have hl : cs.length = 2 := (shows_len Try.underlying109 h).trans (by kernel_rfl)
  obtain ⟨c0, c1, rfl⟩ := listN2 hl
  obtain ⟨p0, h0, z0⟩ := shows_field Try.underlying109 h hs 0 3 [c0] (by kernel_rfl)
  obtain ⟨x0, e0, w0⟩ : ∃ x : Int, [c0] = (encI .i64) x ∧ (WfI .i64) x := (tells_int Try.underlying3) p0 _ h0 z0
  obtain ⟨p1, h1, z1⟩ := shows_field Try.underlying109 h hs 1 21 [c1] (by kernel_rfl)
  obtain ⟨x1, e1, w1⟩ : ∃ x : Int, [c1] = (encI .i32) x ∧ (WfI .i32) x := (tells_int Try.underlying21) p1 _ h1 z1
  refine ⟨⟨x0, x1⟩, ?_, ⟨w0, w1⟩⟩
  show [c0] ++ [c1] = ((encI .i64) x0 ++ (encI .i32) x1)
  rw [e0, e1]
/-- Its numbers are numbers of their kinds, its lists no longer than memory. -/
def WfSt25 (x : St25) : Prop := (WfL WfSt108) x.Pre_ ∧ (WfL WfSt108) x.Suf_ ∧ (WfL WfSt108) x.NPre_ ∧ (WfL WfSt108) x.NSuf_ ∧ WfB x.Neg_ ∧ (WfI .i64) x.Hash_ ∧ (WfI .i64) x.MinInt_ ∧ (WfI .i64) x.MinFrac_ ∧ (WfI .i64) x.MaxFrac_ ∧ (WfI .i64) x.G1_ ∧ (WfI .i64) x.G2_ ∧ (WfI .i64) x.MinSig_ ∧ (WfI .i64) x.MaxSig_ ∧ (WfI .i64) x.Exp_ ∧ WfB x.ExpPlus_ ∧ (WfI .i32) x.Pad_ ∧ (WfI .i64) x.PadAt_
theorem tells_T26 {n : Nat} : Tells Try.prog (n + 4) 26 encSt25 WfSt25 := fun d cs h hs => by
  have hl : cs.length = 17 := (shows_len Try.underlying26 h).trans (by kernel_rfl)
  obtain ⟨c0, c1, c2, c3, c4, c5, c6, c7, c8, c9, c10, c11, c12, c13, c14, c15, c16, rfl⟩ := listN17 hl
  obtain ⟨p0, h0, z0⟩ := shows_field Try.underlying26 h hs 0 24 [c0] (by kernel_rfl)
  obtain ⟨x0, e0, w0⟩ : ∃ x : List St108, [c0] = (encL encSt108 2) x ∧ (WfL WfSt108) x := (tells_list (enc := encSt108) (Wf := WfSt108) Try.underlying24 (k := 2) (by kernel_rfl) (by kernel_rfl) tells_T109) p0 _ h0 z0
  obtain ⟨p1, h1, z1⟩ := shows_field Try.underlying26 h hs 1 24 [c1] (by kernel_rfl)
  obtain ⟨x1, e1, w1⟩ : ∃ x : List St108, [c1] = (encL encSt108 2) x ∧ (WfL WfSt108) x := (tells_list (enc := encSt108) (Wf := WfSt108) Try.underlying24 (k := 2) (by kernel_rfl) (by kernel_rfl) tells_T109) p1 _ h1 z1
  obtain ⟨p2, h2, z2⟩ := shows_field Try.underlying26 h hs 2 24 [c2] (by kernel_rfl)
  obtain ⟨x2, e2, w2⟩ : ∃ x : List St108, [c2] = (encL encSt108 2) x ∧ (WfL WfSt108) x := (tells_list (enc := encSt108) (Wf := WfSt108) Try.underlying24 (k := 2) (by kernel_rfl) (by kernel_rfl) tells_T109) p2 _ h2 z2
  obtain ⟨p3, h3, z3⟩ := shows_field Try.underlying26 h hs 3 24 [c3] (by kernel_rfl)
  obtain ⟨x3, e3, w3⟩ : ∃ x : List St108, [c3] = (encL encSt108 2) x ∧ (WfL WfSt108) x := (tells_list (enc := encSt108) (Wf := WfSt108) Try.underlying24 (k := 2) (by kernel_rfl) (by kernel_rfl) tells_T109) p3 _ h3 z3
  obtain ⟨p4, h4, z4⟩ := shows_field Try.underlying26 h hs 4 4 [c4] (by kernel_rfl)
  obtain ⟨x4, e4, w4⟩ : ∃ x : Bool, [c4] = encB x ∧ WfB x := (tells_bool Try.underlying4) p4 _ h4 z4
  obtain ⟨p5, h5, z5⟩ := shows_field Try.underlying26 h hs 5 3 [c5] (by kernel_rfl)
  obtain ⟨x5, e5, w5⟩ : ∃ x : Int, [c5] = (encI .i64) x ∧ (WfI .i64) x := (tells_int Try.underlying3) p5 _ h5 z5
  obtain ⟨p6, h6, z6⟩ := shows_field Try.underlying26 h hs 6 3 [c6] (by kernel_rfl)
  obtain ⟨x6, e6, w6⟩ : ∃ x : Int, [c6] = (encI .i64) x ∧ (WfI .i64) x := (tells_int Try.underlying3) p6 _ h6 z6
  obtain ⟨p7, h7, z7⟩ := shows_field Try.underlying26 h hs 7 3 [c7] (by kernel_rfl)
  obtain ⟨x7, e7, w7⟩ : ∃ x : Int, [c7] = (encI .i64) x ∧ (WfI .i64) x := (tells_int Try.underlying3) p7 _ h7 z7
  obtain ⟨p8, h8, z8⟩ := shows_field Try.underlying26 h hs 8 3 [c8] (by kernel_rfl)
  obtain ⟨x8, e8, w8⟩ : ∃ x : Int, [c8] = (encI .i64) x ∧ (WfI .i64) x := (tells_int Try.underlying3) p8 _ h8 z8
  obtain ⟨p9, h9, z9⟩ := shows_field Try.underlying26 h hs 9 3 [c9] (by kernel_rfl)
  obtain ⟨x9, e9, w9⟩ : ∃ x : Int, [c9] = (encI .i64) x ∧ (WfI .i64) x := (tells_int Try.underlying3) p9 _ h9 z9
  obtain ⟨p10, h10, z10⟩ := shows_field Try.underlying26 h hs 10 3 [c10] (by kernel_rfl)
  obtain ⟨x10, e10, w10⟩ : ∃ x : Int, [c10] = (encI .i64) x ∧ (WfI .i64) x := (tells_int Try.underlying3) p10 _ h10 z10
  obtain ⟨p11, h11, z11⟩ := shows_field Try.underlying26 h hs 11 3 [c11] (by kernel_rfl)
  obtain ⟨x11, e11, w11⟩ : ∃ x : Int, [c11] = (encI .i64) x ∧ (WfI .i64) x := (tells_int Try.underlying3) p11 _ h11 z11
  obtain ⟨p12, h12, z12⟩ := shows_field Try.underlying26 h hs 12 3 [c12] (by kernel_rfl)
  obtain ⟨x12, e12, w12⟩ : ∃ x : Int, [c12] = (encI .i64) x ∧ (WfI .i64) x := (tells_int Try.underlying3) p12 _ h12 z12
  obtain ⟨p13, h13, z13⟩ := shows_field Try.underlying26 h hs 13 3 [c13] (by kernel_rfl)
  obtain ⟨x13, e13, w13⟩ : ∃ x : Int, [c13] = (encI .i64) x ∧ (WfI .i64) x := (tells_int Try.underlying3) p13 _ h13 z13
  obtain ⟨p14, h14, z14⟩ := shows_field Try.underlying26 h hs 14 4 [c14] (by kernel_rfl)
  obtain ⟨x14, e14, w14⟩ : ∃ x : Bool, [c14] = encB x ∧ WfB x := (tells_bool Try.underlying4) p14 _ h14 z14
  obtain ⟨p15, h15, z15⟩ := shows_field Try.underlying26 h hs 15 21 [c15] (by kernel_rfl)
  obtain ⟨x15, e15, w15⟩ : ∃ x : Int, [c15] = (encI .i32) x ∧ (WfI .i32) x := (tells_int Try.underlying21) p15 _ h15 z15
  obtain ⟨p16, h16, z16⟩ := shows_field Try.underlying26 h hs 16 3 [c16] (by kernel_rfl)
  obtain ⟨x16, e16, w16⟩ : ∃ x : Int, [c16] = (encI .i64) x ∧ (WfI .i64) x := (tells_int Try.underlying3) p16 _ h16 z16
  refine ⟨⟨x0, x1, x2, x3, x4, x5, x6, x7, x8, x9, x10, x11, x12, x13, x14, x15, x16⟩, ?_, ⟨w0, w1, w2, w3, w4, w5, w6, w7, w8, w9, w10, w11, w12, w13, w14, w15, w16⟩⟩
  show [c0] ++ [c1] ++ [c2] ++ [c3] ++ [c4] ++ [c5] ++ [c6] ++ [c7] ++ [c8] ++ [c9] ++ [c10] ++ [c11] ++ [c12] ++ [c13] ++ [c14] ++ [c15] ++ [c16] = ((encL encSt108 2) x0 ++ (encL encSt108 2) x1 ++ (encL encSt108 2) x2 ++ (encL encSt108 2) x3 ++ encB x4 ++ (encI .i64) x5 ++ (encI .i64) x6 ++ (encI .i64) x7 ++ (encI .i64) x8 ++ (encI .i64) x9 ++ (encI .i64) x10 ++ (encI .i64) x11 ++ (encI .i64) x12 ++ (encI .i64) x13 ++ encB x14 ++ (encI .i32) x15 ++ (encI .i64) x16)
  rw [e0, e1, e2, e3, e4, e5, e6, e7, e8, e9, e10, e11, e12, e13, e14, e15, e16]
/-- Its numbers are numbers of their kinds, its lists no longer than memory. -/
def WfSt28 (x : St28) : Prop := WfB x.Neg_ ∧ (WfL (WfI .u8)) x.D_ ∧ (WfI .i64) x.E_
theorem tells_T29 {n : Nat} : Tells Try.prog (n + 3) 29 encSt28 WfSt28 := fun d cs h hs => by
  have hl : cs.length = 3 := (shows_len Try.underlying29 h).trans (by kernel_rfl)
  obtain ⟨c0, c1, c2, rfl⟩ := listN3 hl
  obtain ⟨p0, h0, z0⟩ := shows_field Try.underlying29 h hs 0 4 [c0] (by kernel_rfl)
  obtain ⟨x0, e0, w0⟩ : ∃ x : Bool, [c0] = encB x ∧ WfB x := (tells_bool Try.underlying4) p0 _ h0 z0
  obtain ⟨p1, h1, z1⟩ := shows_field Try.underlying29 h hs 1 27 [c1] (by kernel_rfl)
  obtain ⟨x1, e1, w1⟩ : ∃ x : List Int, [c1] = (encL (encI .u8) 1) x ∧ (WfL (WfI .u8)) x := (tells_list (enc := (encI .u8)) (Wf := (WfI .u8)) Try.underlying27 (k := 1) (by kernel_rfl) (by kernel_rfl) (tells_int Try.underlying5)) p1 _ h1 z1
  obtain ⟨p2, h2, z2⟩ := shows_field Try.underlying29 h hs 2 3 [c2] (by kernel_rfl)
  obtain ⟨x2, e2, w2⟩ : ∃ x : Int, [c2] = (encI .i64) x ∧ (WfI .i64) x := (tells_int Try.underlying3) p2 _ h2 z2
  refine ⟨⟨x0, x1, x2⟩, ?_, ⟨w0, w1, w2⟩⟩
  show [c0] ++ [c1] ++ [c2] = (encB x0 ++ (encL (encI .u8) 1) x1 ++ (encI .i64) x2)
  rw [e0, e1, e2]
/-- Its numbers are numbers of their kinds, its lists no longer than memory. -/
def WfSt30 (x : St30) : Prop := WfSt22 x.S_ ∧ WfSt25 x.P_ ∧ (WfI .i64) x.Digits_ ∧ WfSt28 x.D_
theorem tells_T56 {n : Nat} : Tells Try.prog (n + 5) 56 encSt30 WfSt30 := fun d cs h hs => by
  have hl : cs.length = 28 := (shows_len Try.underlying56 h).trans (by kernel_rfl)
  obtain ⟨c0, c1, c2, c3, c4, c5, c6, c7, c8, c9, c10, c11, c12, c13, c14, c15, c16, c17, c18, c19, c20, c21, c22, c23, c24, c25, c26, c27, rfl⟩ := listN28 hl
  obtain ⟨p0, h0, z0⟩ := shows_field Try.underlying56 h hs 0 23 [c0, c1, c2, c3, c4, c5, c6] (by kernel_rfl)
  obtain ⟨x0, e0, w0⟩ : ∃ x : St22, [c0, c1, c2, c3, c4, c5, c6] = encSt22 x ∧ WfSt22 x := tells_T23 p0 _ h0 z0
  obtain ⟨p1, h1, z1⟩ := shows_field Try.underlying56 h hs 1 26 [c7, c8, c9, c10, c11, c12, c13, c14, c15, c16, c17, c18, c19, c20, c21, c22, c23] (by kernel_rfl)
  obtain ⟨x1, e1, w1⟩ : ∃ x : St25, [c7, c8, c9, c10, c11, c12, c13, c14, c15, c16, c17, c18, c19, c20, c21, c22, c23] = encSt25 x ∧ WfSt25 x := tells_T26 p1 _ h1 z1
  obtain ⟨p2, h2, z2⟩ := shows_field Try.underlying56 h hs 2 3 [c24] (by kernel_rfl)
  obtain ⟨x2, e2, w2⟩ : ∃ x : Int, [c24] = (encI .i64) x ∧ (WfI .i64) x := (tells_int Try.underlying3) p2 _ h2 z2
  obtain ⟨p3, h3, z3⟩ := shows_field Try.underlying56 h hs 3 29 [c25, c26, c27] (by kernel_rfl)
  obtain ⟨x3, e3, w3⟩ : ∃ x : St28, [c25, c26, c27] = encSt28 x ∧ WfSt28 x := tells_T29 p3 _ h3 z3
  refine ⟨⟨x0, x1, x2, x3⟩, ?_, ⟨w0, w1, w2, w3⟩⟩
  show [c0, c1, c2, c3, c4, c5, c6] ++ [c7, c8, c9, c10, c11, c12, c13, c14, c15, c16, c17, c18, c19, c20, c21, c22, c23] ++ [c24] ++ [c25, c26, c27] = (encSt22 x0 ++ encSt25 x1 ++ (encI .i64) x2 ++ encSt28 x3)
  rw [e0, e1, e2, e3]
theorem of_dec {x : St28} (w : WfSt28 x) : ∃ neg l E, x = ⟨neg, up l, E⟩ ∧ l.length ≤ 140737488355328 := by
  obtain ⟨neg, D, E⟩ := x
  obtain ⟨_, w2, _⟩ := w
  obtain ⟨l, rfl, _, hl⟩ := up_of w2
  exact ⟨neg, l, E, rfl, by rw [hl]; exact w2.1⟩
theorem of_pat {p : St25} (w : WfSt25 p) (n : Int) : ∃ b, exerguelaw17_of p n = some b ∧ (b = true → cntP p ∧ pfP p ∧ n ≤ 40) := by
  obtain ⟨w1, w2, w3, w4, _⟩ := w
  exact of_tot w1.1 w2.1 w3.1 w4.1

/-! Signs that are good. -/
def ZS : List Int := [48, 1632, 1776, 1984, 2406, 2534, 2662, 2790, 2918, 3046, 3174, 3302, 3430, 3664, 3792, 3872, 6112, 6160, 65296, 120782]
theorem digits_of : (ZS.all fun z => (List.range 10).all fun k => decide (exergueref02_Of (z + k) = some 5)) = true := by kernel_rfl
theorem digit_of {z r : Int} (hz : z ∈ ZS) (h1 : z ≤ r) (h2 : r ≤ z + 9) : exergueref02_Of r = some 5 := by
  have h := List.all_eq_true.1 (List.all_eq_true.1 digits_of z hz) (r - z).toNat (List.mem_range.2 (by omega))
  have := of_decide_eq_true h
  rwa [show z + ((r - z).toNat : Int) = r by omega] at this
theorem zs_ok {z : Int} (h : z ∈ ZS) : okZ z := by
  have : (ZS.all fun z => decide (0 ≤ z) && decide (z ≤ 200000)) = true := by decide
  have := List.all_eq_true.1 this z h
  simp at this
  exact this
def plainP (r : Int) : Prop := exergueref02_Of r = some 0 ∨ exergueref02_Of r = some 4
theorem plain_apart {z r : Int} (hz : z ∈ ZS) (h : plainP r) : ¬ (z ≤ r ∧ r ≤ z + 9) := fun ⟨h1, h2⟩ => by
  have := digit_of hz h1 h2
  rcases h with h | h <;> rw [this] at h <;> simp at h
def six (s : St22) : List Int := [s.Dec_, s.Group_, s.Minus_, s.Plus_, s.Percent_, s.Exp_]
def goodP (s : St22) : Prop := s.Zero_ ∈ ZS ∧ (∀ j : Nat, j < 6 → plainP (nth (six s) j)) ∧ ∀ i j : Nat, j < i → i < 6 → nth (six s) j ≠ nth (six s) i
theorem of2_tot (r : Int) : Tot (exergueref02_Of r) (fun _ => True) := by
  unfold exergueref02_Of
  refine Tot.bind (is_tot _) (fun a _ => Tot.bind (p := fun _ => True) ?_ (fun b _ => Tot.bind (p := fun _ => True) ?_ (fun c _ => Tot.bind (p := fun _ => True) ?_ (fun d _ => ?_))))
  · unfold exergueref02_turning
    refine Tot.bind (p := fun _ => True) ?_ (fun _ _ => Tot.ret trivial)
    repeat' (first | exact Tot.ret trivial | refine Tot.ite (fun _ => ?_) (fun _ => ?_))
  · unfold exergueref02_blank
    refine Tot.bind (p := fun _ => True) ?_ (fun _ _ => Tot.ret trivial)
    repeat' (first | exact Tot.ret trivial | refine Tot.ite (fun _ => ?_) (fun _ => ?_))
  · unfold exergueref02_Value exergueref02_noughts
    refine Tot.bind (p := fun y => y.length = 20) (Tot.ret rfl) (fun y hy => ?_)
    refine Tot.join (Tot.loop (fun s : Int => 0 ≤ s ∧ s ≤ 20) (fun s => (20 - s).toNat) ⟨by omega, by omega⟩ (by omega) (fun s hs => ?_))
    rw [hy]
    refine Tot.ite (fun hq => ?_) (fun _ => Tot.ret (Tot.ret trivial))
    have hq := dTT hq
    refine Tot.join (Tot.mono (p := fun x => x = .inl () ∨ ∃ z, x = .inr (.inr (.inr z))) (Tot.loop (fun t : Int => 0 ≤ t ∧ t ≤ 10) (fun t => (10 - t).toNat) ⟨by omega, by omega⟩ (by omega) (fun t ht => ?_)) (fun x hx => ?_))
    · refine Tot.ite (fun hh => ?_) (fun _ => Tot.ret (.inl rfl))
      have hh := dTT hh
      refine Tot.yes (inR_int hs.1 (by omega)) (Tot.ite (fun _ => Tot.ret (.inr ⟨_, rfl⟩)) (fun _ => Tot.ret ?_))
      rw [w64 (n := t + 1) (by omega) (by omega)]
      exact ⟨⟨by omega, by omega⟩, by omega⟩
    · rcases hx with rfl | ⟨z, rfl⟩
      · refine Tot.ret ?_
        rw [w64 (n := s + 1) (by omega) (by omega)]
        exact ⟨⟨by omega, by omega⟩, by omega⟩
      · exact trivial
  · repeat' (first | exact Tot.ret trivial | refine Tot.ite (fun _ => ?_) (fun _ => ?_) | refine Tot.join (Tot.bind (p := fun _ => True) ?_ (fun _ _ => ?_)) | refine Tot.ret (show Tot _ _ from ?_))
theorem zero_tot (z : Int) : Tot (exergueref02_Zero z) (fun b => b = true → z ∈ ZS) := by
  unfold exergueref02_Zero exergueref02_noughts
  refine Tot.bind (p := fun y => y = ZS) (Tot.ret rfl) (fun y hy => ?_)
  subst hy
  have hlen : ZS.length = 20 := rfl
  refine Tot.join (Tot.loop (fun s : Int => 0 ≤ s ∧ s ≤ 20) (fun s => (20 - s).toNat) ⟨by omega, by omega⟩ (by omega) (fun s hs => ?_))
  rw [hlen]
  refine Tot.ite (fun hq => ?_) (fun _ => Tot.ret (Tot.ret (fun h => by cases h)))
  have hq := dTT hq
  refine Tot.yes (inR_int hs.1 (by omega)) (Tot.ite (fun he => Tot.ret (fun _ => ?_)) (fun _ => Tot.ret ?_))
  · have he := dTT he
    rw [← he]
    obtain ⟨j, rfl⟩ : ∃ j : Nat, s = j := ⟨s.toNat, by omega⟩
    rw [nth_nat (by rw [hlen]; omega)]
    exact List.getElem_mem _
  · rw [w64 (by omega) (by omega)]
    exact ⟨⟨by omega, by omega⟩, by omega⟩
theorem good_tot (s : St22) : Tot (exergueref13_Good s) (fun b => b = true → goodP s) := by
  unfold exergueref13_Good
  have hL : ([s.Dec_, s.Group_, s.Minus_, s.Plus_, s.Percent_, s.Exp_] : List Int) = six s := rfl
  rw [hL]
  have hlen : (six s).length = 6 := rfl
  refine Tot.join (Tot.loop (fun i : Int => 0 ≤ i ∧ i ≤ 6 ∧ ∀ q : Nat, (q : Int) < i → plainP (nth (six s) q) ∧ ∀ j : Nat, j < q → nth (six s) j ≠ nth (six s) q) (fun i => (6 - i).toNat) ⟨by omega, by omega, fun q hq => by omega⟩ (by omega) (fun i hi => ?_))
  rw [hlen]
  refine Tot.ite (fun hq => ?_) (fun hq => Tot.ret (show Tot _ _ from ?_))
  · have hq := dTT hq
    obtain ⟨n, rfl⟩ : ∃ n : Nat, i = n := ⟨i.toNat, by omega⟩
    refine Tot.join (Tot.yes (inR_int hi.1 (by omega)) (Tot.yes (inR_int hi.1 (by omega)) ?_))
    obtain ⟨v, hv, _⟩ := of2_tot (nth (six s) n)
    rw [hv]
    show Tot (Option.bind (Option.bind _ _) _) _
    refine Tot.join (Tot.bind (p := fun b => b = false → plainP (nth (six s) n)) ?_ (fun b hb => ?_))
    · refine Tot.ite (fun h1 => Tot.ret (fun h2 => .inr ?_)) (fun h1 => Tot.ret (fun _ => .inl ?_))
      · have := dFF h2
        rw [hv]; congr 1; omega
      · have := dFF h1
        rw [hv]; congr 1; omega
    · cases b with
      | true => exact Tot.ret (show _ from fun h => by cases h)
      | false =>
        have hp := hb rfl
        refine Tot.ret (show Tot _ _ from Tot.mono (p := fun x => (x = .inl () ∧ ∀ j : Nat, j < n → nth (six s) j ≠ nth (six s) n) ∨ x = .inr (.inr (.inr false))) (Tot.loop (fun t : Int => 0 ≤ t ∧ t ≤ n ∧ ∀ j : Nat, (j : Int) < t → nth (six s) j ≠ nth (six s) n) (fun t => ((n : Int) - t).toNat) ⟨by omega, by omega, fun j hj => by omega⟩ (by omega) (fun t ht => ?_)) (fun x hx => ?_))
        · refine Tot.ite (fun hh => ?_) (fun hh => Tot.ret (.inl ⟨rfl, fun j hj => ht.2.2 j (by have := dFF hh; omega)⟩))
          have hh := dTT hh
          refine Tot.yes (inR_int ht.1 (by omega)) (Tot.yes (inR_int ht.1 (by omega)) (Tot.yes (inR_int hi.1 (by omega)) (Tot.yes (inR_int hi.1 (by omega)) (Tot.ite (fun _ => Tot.ret (.inr rfl)) (fun he => Tot.ret ?_)))))
          have he := dFF he
          rw [w64 (n := t + 1) (by omega) (by omega)]
          refine ⟨⟨by omega, by omega, fun j hj => ?_⟩, by omega⟩
          by_cases hjt : (j : Int) < t
          · exact ht.2.2 j hjt
          · have : (j : Int) = t := by omega
            rw [this]; exact he
        · rcases hx with ⟨rfl, hx⟩ | rfl
          · refine Tot.ret ?_
            rw [w64 (n := (n : Int) + 1) (by omega) (by omega)]
            refine ⟨⟨by omega, by omega, fun q hq2 => ?_⟩, by omega⟩
            by_cases hqn : (q : Int) < n
            · exact hi.2.2 q hqn
            · have : q = n := by omega
              subst this; exact ⟨hp, hx⟩
          · exact (fun h => by cases h)
  · have hq := dFF hq
    refine Tot.bind (zero_tot _) (fun b hb => Tot.ret (fun h => ⟨hb h, fun j hj => (hi.2.2 j (by omega)).1, fun i2 j hji hi6 => (hi.2.2 i2 (by omega)).2 j hji⟩))
theorem good_in {s : St22} (h : goodP s) {r : Int} (hr : r ∈ six s) : plainP r := by
  obtain ⟨j, hj, rfl⟩ := List.mem_iff_getElem.1 hr
  have := h.2.1 j hj
  rwa [nth_nat hj] at this
/-- The worth of a digit, as the document has it. -/
theorem rvalue_eq {s : St22} {r : Int} (hz : okZ s.Zero_) (hr : -2147483648 ≤ r ∧ r ≤ 2147483647) : exergueref13_Value s r = some (if s.Zero_ ≤ r ∧ r ≤ s.Zero_ + 9 then (r - s.Zero_, true) else (0, false)) := by
  obtain ⟨z1, z2⟩ := hz
  unfold exergueref13_Value
  rw [w64 (n := s.Zero_) (by omega) (by omega), w64 (n := r) (by omega) (by omega)]
  refine bind_of (fun o => joinX (fun (s37 : Unit) => (some ((0 : Int), false))) o = some (if s.Zero_ ≤ r ∧ r ≤ s.Zero_ + 9 then (r - s.Zero_, true) else (0, false))) ?_ (fun o ho => ho)
  refine loop_count 10 (fun i => (i : Int)) (fun i => ¬ (s.Zero_ ≤ r ∧ r < s.Zero_ + i)) _ rfl (by omega) (fun i hi hI => ?_) (fun hI => ?_) (by omega)
  · rw [dT (show (i : Int) < 10 by omega), w64 (n := s.Zero_ + i) (by omega) (by omega)]
    by_cases he : s.Zero_ + i = r
    · right
      refine ⟨_, by rw [dT he]; rfl, ?_⟩
      rw [if_pos (by omega), u8m]
      show some _ = some _
      congr 2
      omega
    · left
      refine ⟨by rw [dF he, w64 (by omega) (by omega)]; rfl, by omega⟩
  · refine ⟨_, by rw [dF (show ¬ ((10 : Nat) : Int) < 10 by omega)]; rfl, ?_⟩
    rw [if_neg (by omega)]; rfl
theorem same_eq {a b : List Int} (ha : a.length ≤ 100000) : exergueref01_Same a b = some (decide (a = b)) := by
  unfold exergueref01_Same
  exact row_eq (by omega)
theorem ren_get {z : Int} {l : List It} {i : Nat} (h : i < l.length) : nth (ren z l) (i : Int) = (l[i]).at z := by
  rw [nth_nat (by rw [ren_len]; exact h)]; simp [ren]
theorem Side_true (x : St30) (w : WfSt30 x) : exerguelaw17_ShapeSide x = some true := by
  obtain ⟨s, p, n, d⟩ := x
  obtain ⟨ws, wp, wn, wd⟩ := w
  have wp : WfSt25 p := wp
  have wd : WfSt28 d := wd
  have ws : WfSt22 s := ws
  obtain ⟨b1, e1, f1⟩ := of_pat wp n
  obtain ⟨neg, l, E, hd, hl⟩ := of_dec wd
  subst hd
  obtain ⟨b2, e2, f2⟩ := rnear_eq (neg := neg) (E := E) hl
  obtain ⟨b3, e3, f3⟩ := good_tot s
  unfold exerguelaw17_ShapeSide
  simp only
  rw [shown_eq, e1, e2, e3]
  simp only [Option.bind_some]
  cases b1 with
  | false => rfl
  | true =>
  cases b3 with
  | false => rfl
  | true =>
  cases b2 with
  | false => rfl
  | true =>
  obtain ⟨hc, hpf, hn⟩ := f1 rfl
  have hnr := f2.1 rfl
  have hg := f3 rfl
  obtain ⟨a, b, e, eneg, ha, hb, ha7, hb11, hr, g1, g2, g3, g4, g5, g6, hw⟩ := write_val (n := n) hc hn hnr.1 (near_E hnr) (near_600 hnr)
  have hz := zs_ok hg.1
  have hw1 := hw neg s hz
  have hw2 := hw (!neg) s hz
  obtain ⟨t, ht, htz⟩ : ∃ t : Int, (bif (decide (s.Zero_ = 48)) then (some 1632) else (some 48)) = some t ∧ t ∈ ZS := by
    by_cases h : s.Zero_ = 48
    · exact ⟨1632, by rw [dT h]; rfl, by decide⟩
    · exact ⟨48, by rw [dF h]; rfl, by decide⟩
  have htk := zs_ok htz
  have hw3 := hw neg ⟨t, s.Dec_, s.Group_, s.Minus_, s.Plus_, s.Percent_, s.Exp_⟩ htk
  simp only at hw3
  simp only [cond_false, Bool.not_true, Option.bind_some, joinX]
  rw [hw1]
  simp only [Option.bind_some]
  rw [hw2]
  simp only [Option.bind_some]
  rw [ht]
  simp only [Option.bind_some]
  rw [hw3]
  simp only [Option.bind_some]
  have hdW := figs_dig (magN l (bareE p l E)) (a - 1) a
  have hlW := figs_len (magN l (bareE p l E)) (a - 1) a
  have hok : ∀ x ∈ (gpre (figs (magN l (bareE p l E)) (a - 1) a) s.Group_ p.G1_ p.G2_ a ++
        (if b = 0 then [] else It.g s.Dec_ :: (figs (magN l (bareE p l E)) (-1) b).map It.d) ++
        (if p.Exp_ > 0 then It.g s.Exp_ :: ((if eneg = true then [It.g s.Minus_] else if p.ExpPlus_ = true then [It.g s.Plus_] else []) ++ e.map It.d) else [])), okI (six s) x := by
    intro x hx
    have mD : ∀ {m : List Nat}, digP m → ∀ x ∈ m.map It.d, okI (six s) x := fun hm x hx => by
      obtain ⟨y, hy, rfl⟩ := List.mem_map.1 hx
      exact hm y hy
    rcases List.mem_append.1 hx with hx | hx
    · rcases List.mem_append.1 hx with hx | hx
      · exact gpre_ok hdW (by simp [six]) a (by omega) x hx
      · split at hx
        · cases hx
        · rcases List.mem_cons.1 hx with rfl | hx
          · simp [okI, six]
          · exact mD (figs_dig _ _ _) x hx
    · split at hx
      · rcases List.mem_cons.1 hx with rfl | hx
        · simp [okI, six]
        · rcases List.mem_append.1 hx with hx | hx
          · split at hx
            · simp at hx; subst hx; simp [okI, six]
            · split at hx
              · simp at hx; subst hx; simp [okI, six]
              · cases hx
          · exact mD g1 x hx
      · cases hx
  have hlen : (gpre (figs (magN l (bareE p l E)) (a - 1) a) s.Group_ p.G1_ p.G2_ a ++
        (if b = 0 then [] else It.g s.Dec_ :: (figs (magN l (bareE p l E)) (-1) b).map It.d) ++
        (if p.Exp_ > 0 then It.g s.Exp_ :: ((if eneg = true then [It.g s.Minus_] else if p.ExpPlus_ = true then [It.g s.Plus_] else []) ++ e.map It.d) else [])).length ≤ 10000 := by
    have h1 := gpre_len (figs (magN l (bareE p l E)) (a - 1) a) s.Group_ p.G1_ p.G2_ a
    simp only [List.length_append]
    have h2 : (if b = 0 then [] else It.g s.Dec_ :: (figs (magN l (bareE p l E)) (-1) b).map It.d).length ≤ 1 + b := by
      split <;> simp [figs_len]; omega
    have h3 : (if p.Exp_ > 0 then It.g s.Exp_ :: ((if eneg = true then [It.g s.Minus_] else if p.ExpPlus_ = true then [It.g s.Plus_] else []) ++ e.map It.d) else []).length ≤ 100 := by
      split
      · simp only [List.length_cons, List.length_append, List.length_map]
        repeat' split
        all_goals simp
        all_goals omega
      · simp
    omega
  generalize (gpre (figs (magN l (bareE p l E)) (a - 1) a) s.Group_ p.G1_ p.G2_ a ++
        (if b = 0 then [] else It.g s.Dec_ :: (figs (magN l (bareE p l E)) (-1) b).map It.d) ++
        (if p.Exp_ > 0 then It.g s.Exp_ :: ((if eneg = true then [It.g s.Minus_] else if p.ExpPlus_ = true then [It.g s.Plus_] else []) ++ e.map It.d) else [])) = X at *
  rw [same_eq (by rw [ren_len]; omega), dT (show ren s.Zero_ X = ren s.Zero_ X from rfl)]
  simp only [Option.bind_some, Bool.not_true, cond_false, ren_len]
  rw [dF (show ¬ ¬ True by simp)]
  simp only [Option.bind_some, cond_false, joinX]
  refine bind_of (fun o => joinX (fun (s439 : Unit) => (some true)) o = some true) ?_ (fun o ho => ho)
  refine loop_count X.length (fun i => (i : Int)) (fun _ => True) _ rfl trivial (fun i hi _ => ?_) (fun _ => ?_) (by omega)
  · left
    refine ⟨?_, trivial⟩
    rw [dT (by omega), inR_nat hi, ren_get hi, ren_get hi]
    have hxi := hok X[i] (List.getElem_mem hi)
    obtain ⟨z1, z2⟩ := hz
    obtain ⟨t1, t2⟩ := htk
    cases hX : X[i] with
    | d m =>
      rw [hX] at hxi
      have hm : m ≤ 9 := hxi
      simp only [It.at, cond_true]
      rw [rvalue_eq ⟨z1, z2⟩ (by omega), rvalue_eq (s := ⟨t, s.Dec_, s.Group_, s.Minus_, s.Plus_, s.Percent_, s.Exp_⟩) ⟨t1, t2⟩ (by omega)]
      simp only
      rw [if_pos (by omega), if_pos (by omega)]
      simp only [Option.bind_some, cond_true]
      rw [show s.Zero_ + (m : Int) - s.Zero_ = m by omega, show t + (m : Int) - t = m by omega, dF (show ¬ ¬ (m : Int) = m by simp), w64 (by omega) (by omega)]
      rfl
    | g r =>
      rw [hX] at hxi
      have hr6 : r ∈ six s := hxi
      have hpl := good_in hg hr6
      have hrr : -2147483648 ≤ r ∧ r ≤ 2147483647 := by
        obtain ⟨w0, w1, w2, w3, w4, w5, w6⟩ := ws
        have h1 : -2147483648 ≤ s.Dec_ ∧ s.Dec_ < 2147483648 := wf_i32 w1
        have h2 : -2147483648 ≤ s.Group_ ∧ s.Group_ < 2147483648 := wf_i32 w2
        have h3 : -2147483648 ≤ s.Minus_ ∧ s.Minus_ < 2147483648 := wf_i32 w3
        have h4 : -2147483648 ≤ s.Plus_ ∧ s.Plus_ < 2147483648 := wf_i32 w4
        have h5 : -2147483648 ≤ s.Percent_ ∧ s.Percent_ < 2147483648 := wf_i32 w5
        have h6 : -2147483648 ≤ s.Exp_ ∧ s.Exp_ < 2147483648 := wf_i32 w6
        simp [six] at hr6
        rcases hr6 with rfl | rfl | rfl | rfl | rfl | rfl <;> omega
      simp only [It.at, cond_true]
      rw [rvalue_eq ⟨z1, z2⟩ hrr, rvalue_eq (s := ⟨t, s.Dec_, s.Group_, s.Minus_, s.Plus_, s.Percent_, s.Exp_⟩) ⟨t1, t2⟩ hrr]
      simp only
      rw [if_neg (plain_apart hg.1 hpl), if_neg (plain_apart htz hpl)]
      simp only [Option.bind_some, cond_true]
      rw [dF (show ¬ ¬ True by simp), w64 (by omega) (by omega)]
      rfl
  · refine ⟨.inl (), ?_, rfl⟩
    rw [dF (by omega)]; rfl

set_option maxRecDepth 100000 in
theorem ShapeSide_lifted (os : Os) (started : os.Started) (H : Type) (enc : TypeId × Value → H) :
    ReturnsInHanded {} Try.checked os 6 .any (Rows.shapeSideSpec.pre6 enc Try.prog Try.f6 Rows.shapeSideRow.domain false) (Rows.shapeSideSpec.post enc Try.prog Try.f6 false true false false) := by
  refine returnsInHanded_of_change_sized (C := Try.checked) Try.own started (by kernel_rfl) Try.func6
    (ChangeSpec.witness6 (enc := enc) (C := Try.checked) false ⟨#[], #[.agg #[.int .i32 0, .int .i32 0, .int .i32 0, .int .i32 0, .int .i32 0, .int .i32 0, .int .i32 0, .slice none 0 0, .slice none 0 0, .slice none 0 0, .slice none 0 0, .bool false, .int .i64 0, .int .i64 0, .int .i64 0, .int .i64 0, .int .i64 0, .int .i64 0, .int .i64 0, .int .i64 0, .int .i64 0, .bool false, .int .i32 0, .int .i64 0, .int .i64 0, .bool false, .slice none 0 0, .int .i64 0]], []⟩ 8 (by kernel_rfl) (by kernel_rfl) (by kernel_rfl) (by kernel_rfl)) ?_
  intro W base args ds gs before hval0 hW _ hsz0 _
  have hsz : (DataW.weightsEach Try.prog (Try.f6.params.toList ++ Rows.shapeSideSpec.plain.varTypes Try.prog) (ds ++ gs)).all (· ≤ reachBytes) = true := hsz0
  clear hsz0
  refine law_post (P := Try.prog) (n := 5) (tb := 4) Try.laidOut Try.underlying4 rfl rfl (by kernel_rfl) (fun h => ?_) hval0 hW ?_
  · rw [Try.params6] at h
    obtain ⟨d0, rfl⟩ := l1 h
    exact ⟨rfl, rfl, rfl⟩
  · intro ss hg hl1 hl2 hs
    subst hg
    rw [Try.params6] at hl1 hl2 hs hsz
    obtain ⟨d0, rfl⟩ := l1 hl1
    obtain ⟨s0, rfl⟩ := l1 hl2
    obtain ⟨cs0, rfl, hc0⟩ := showsV_struct Try.underlying56 (hs 0 56 _ _ rfl rfl rfl)
    obtain ⟨a0, rfl, w0⟩ := tells_T56 (n := 0) _ _ hc0 (sized_param hsz (j := 0) rfl rfl)
    exact ⟨[], exerguelaw17_ShapeSide_ok (Side_true a0 w0)⟩
theorem ShapeSide_holds : Rows.ShapeSideSaid :=
  OpenClaim.holds_of_wide 6 Try.f6 rfl rfl rfl rfl rfl rfl rfl ⟨rfl, rfl, rfl, rfl, rfl⟩ rfl rfl rfl rfl rfl (by kernel_rfl) Try.func6 (by kernel_rfl)
    (of_decide_eq_true (by kernel_rfl)) (by unfold Func.isWrapper; first | (rw [if_pos (by decide +kernel)]; kernel_rfl) | (rw [if_neg (by decide +kernel)]; exact ⟨rfl, rfl⟩))
    (fun os started H enc _ => ShapeSide_lifted os started H enc)

end Go.Proofs.Ytcmmjficmoflkaa
