/-
  The statement ShapeWrites is proved: at every input the law answers true, and its input reads as it did. No conditions.
-/
import Derived.Test.YtcmmjficmoflkaaGreatP
import Derived.Test.YtcmmjficmoflkaaGreatRows
import Derived.ProofKit
import Derived.SizedLaws
namespace Go.Proofs.YtcmmjficmoflkaaGreat
open Go Go.Sy Go.RowKit Go.ChangeShapes Go.WideShapes Go.ChangeAt
set_option linter.unusedVariables false
set_option linter.unusedSimpArgs false
set_option maxRecDepth 100000
set_option maxHeartbeats 4000000

theorem glob_none {w : World} {K : Nat → Nat} {D : DM} : GlobOk w K D := fun g cs h => by
  have h2 : (none : Option (List SV)) = some cs := h
  cases h2
theorem Tryz.own : ownKnob Tryz.prog.godebug = none := by kernel_rfl
theorem Tryz.laidOut : laidOutB Tryz.prog = true := by kernel_rfl

theorem listN2 {α : Type} {l : List α} (h : l.length = 2) : ∃ a0 a1, l = [a0, a1] := by
  match l, h with
  | [a0, a1], _ => exact ⟨a0, a1, rfl⟩
theorem listN3 {α : Type} {l : List α} (h : l.length = 3) : ∃ a0 a1 a2, l = [a0, a1, a2] := by
  match l, h with
  | [a0, a1, a2], _ => exact ⟨a0, a1, a2, rfl⟩
theorem listN7 {α : Type} {l : List α} (h : l.length = 7) : ∃ a0 a1 a2 a3 a4 a5 a6, l = [a0, a1, a2, a3, a4, a5, a6] := by
  match l, h with
  | [a0, a1, a2, a3, a4, a5, a6], _ => exact ⟨a0, a1, a2, a3, a4, a5, a6, rfl⟩
theorem listN17 {α : Type} {l : List α} (h : l.length = 17) : ∃ a0 a1 a2 a3 a4 a5 a6 a7 a8 a9 a10 a11 a12 a13 a14 a15 a16, l = [a0, a1, a2, a3, a4, a5, a6, a7, a8, a9, a10, a11, a12, a13, a14, a15, a16] := by
  match l, h with
  | [a0, a1, a2, a3, a4, a5, a6, a7, a8, a9, a10, a11, a12, a13, a14, a15, a16], _ => exact ⟨a0, a1, a2, a3, a4, a5, a6, a7, a8, a9, a10, a11, a12, a13, a14, a15, a16, rfl⟩
theorem listN29 {α : Type} {l : List α} (h : l.length = 29) : ∃ a0 a1 a2 a3 a4 a5 a6 a7 a8 a9 a10 a11 a12 a13 a14 a15 a16 a17 a18 a19 a20 a21 a22 a23 a24 a25 a26 a27 a28, l = [a0, a1, a2, a3, a4, a5, a6, a7, a8, a9, a10, a11, a12, a13, a14, a15, a16, a17, a18, a19, a20, a21, a22, a23, a24, a25, a26, a27, a28] := by
  match l, h with
  | [a0, a1, a2, a3, a4, a5, a6, a7, a8, a9, a10, a11, a12, a13, a14, a15, a16, a17, a18, a19, a20, a21, a22, a23, a24, a25, a26, a27, a28], _ => exact ⟨a0, a1, a2, a3, a4, a5, a6, a7, a8, a9, a10, a11, a12, a13, a14, a15, a16, a17, a18, a19, a20, a21, a22, a23, a24, a25, a26, a27, a28, rfl⟩
/-- Its numbers are numbers of their kinds, its lists no longer than memory. -/
def WfSt22 (x : St22) : Prop := (WfI .i32) x.Zero_ ∧ (WfI .i32) x.Dec_ ∧ (WfI .i32) x.Group_ ∧ (WfI .i32) x.Minus_ ∧ (WfI .i32) x.Plus_ ∧ (WfI .i32) x.Percent_ ∧ (WfI .i32) x.Exp_
theorem tells_T23 {n : Nat} : Tells Tryz.prog (n + 2) 23 encSt22 WfSt22 := fun d cs h hs => by
  have hl : cs.length = 7 := (shows_len Tryz.underlying23 h).trans (by kernel_rfl)
  obtain ⟨c0, c1, c2, c3, c4, c5, c6, rfl⟩ := listN7 hl
  obtain ⟨p0, h0, z0⟩ := shows_field Tryz.underlying23 h hs 0 21 [c0] (by kernel_rfl)
  obtain ⟨x0, e0, w0⟩ : ∃ x : Int, [c0] = (encI .i32) x ∧ (WfI .i32) x := (tells_int Tryz.underlying21) p0 _ h0 z0
  obtain ⟨p1, h1, z1⟩ := shows_field Tryz.underlying23 h hs 1 21 [c1] (by kernel_rfl)
  obtain ⟨x1, e1, w1⟩ : ∃ x : Int, [c1] = (encI .i32) x ∧ (WfI .i32) x := (tells_int Tryz.underlying21) p1 _ h1 z1
  obtain ⟨p2, h2, z2⟩ := shows_field Tryz.underlying23 h hs 2 21 [c2] (by kernel_rfl)
  obtain ⟨x2, e2, w2⟩ : ∃ x : Int, [c2] = (encI .i32) x ∧ (WfI .i32) x := (tells_int Tryz.underlying21) p2 _ h2 z2
  obtain ⟨p3, h3, z3⟩ := shows_field Tryz.underlying23 h hs 3 21 [c3] (by kernel_rfl)
  obtain ⟨x3, e3, w3⟩ : ∃ x : Int, [c3] = (encI .i32) x ∧ (WfI .i32) x := (tells_int Tryz.underlying21) p3 _ h3 z3
  obtain ⟨p4, h4, z4⟩ := shows_field Tryz.underlying23 h hs 4 21 [c4] (by kernel_rfl)
  obtain ⟨x4, e4, w4⟩ : ∃ x : Int, [c4] = (encI .i32) x ∧ (WfI .i32) x := (tells_int Tryz.underlying21) p4 _ h4 z4
  obtain ⟨p5, h5, z5⟩ := shows_field Tryz.underlying23 h hs 5 21 [c5] (by kernel_rfl)
  obtain ⟨x5, e5, w5⟩ : ∃ x : Int, [c5] = (encI .i32) x ∧ (WfI .i32) x := (tells_int Tryz.underlying21) p5 _ h5 z5
  obtain ⟨p6, h6, z6⟩ := shows_field Tryz.underlying23 h hs 6 21 [c6] (by kernel_rfl)
  obtain ⟨x6, e6, w6⟩ : ∃ x : Int, [c6] = (encI .i32) x ∧ (WfI .i32) x := (tells_int Tryz.underlying21) p6 _ h6 z6
  refine ⟨⟨x0, x1, x2, x3, x4, x5, x6⟩, ?_, ⟨w0, w1, w2, w3, w4, w5, w6⟩⟩
  show [c0] ++ [c1] ++ [c2] ++ [c3] ++ [c4] ++ [c5] ++ [c6] = ((encI .i32) x0 ++ (encI .i32) x1 ++ (encI .i32) x2 ++ (encI .i32) x3 ++ (encI .i32) x4 ++ (encI .i32) x5 ++ (encI .i32) x6)
  rw [e0, e1, e2, e3, e4, e5, e6]
/-- Its numbers are numbers of their kinds, its lists no longer than memory. -/
def WfSt106 (x : St106) : Prop := (WfI .i64) x.Kind_ ∧ (WfI .i32) x.R_
theorem tells_T107 {n : Nat} : Tells Tryz.prog (n + 2) 107 encSt106 WfSt106 := fun d cs h hs => by
  have hl : cs.length = 2 := (shows_len Tryz.underlying107 h).trans (by kernel_rfl)
  obtain ⟨c0, c1, rfl⟩ := listN2 hl
  obtain ⟨p0, h0, z0⟩ := shows_field Tryz.underlying107 h hs 0 3 [c0] (by kernel_rfl)
  obtain ⟨x0, e0, w0⟩ : ∃ x : Int, [c0] = (encI .i64) x ∧ (WfI .i64) x := (tells_int Tryz.underlying3) p0 _ h0 z0
  obtain ⟨p1, h1, z1⟩ := shows_field Tryz.underlying107 h hs 1 21 [c1] (by kernel_rfl)
  obtain ⟨x1, e1, w1⟩ : ∃ x : Int, [c1] = (encI .i32) x ∧ (WfI .i32) x := (tells_int Tryz.underlying21) p1 _ h1 z1
  refine ⟨⟨x0, x1⟩, ?_, ⟨w0, w1⟩⟩
  show [c0] ++ [c1] = ((encI .i64) x0 ++ (encI .i32) x1)
  rw [e0, e1]
/-- Its numbers are numbers of their kinds, its lists no longer than memory. -/
def WfSt25 (x : St25) : Prop := (WfL WfSt106) x.Pre_ ∧ (WfL WfSt106) x.Suf_ ∧ (WfL WfSt106) x.NPre_ ∧ (WfL WfSt106) x.NSuf_ ∧ WfB x.Neg_ ∧ (WfI .i64) x.Hash_ ∧ (WfI .i64) x.MinInt_ ∧ (WfI .i64) x.MinFrac_ ∧ (WfI .i64) x.MaxFrac_ ∧ (WfI .i64) x.G1_ ∧ (WfI .i64) x.G2_ ∧ (WfI .i64) x.MinSig_ ∧ (WfI .i64) x.MaxSig_ ∧ (WfI .i64) x.Exp_ ∧ WfB x.ExpPlus_ ∧ (WfI .i32) x.Pad_ ∧ (WfI .i64) x.PadAt_
theorem tells_T26 {n : Nat} : Tells Tryz.prog (n + 4) 26 encSt25 WfSt25 := fun d cs h hs => by
  have hl : cs.length = 17 := (shows_len Tryz.underlying26 h).trans (by kernel_rfl)
  obtain ⟨c0, c1, c2, c3, c4, c5, c6, c7, c8, c9, c10, c11, c12, c13, c14, c15, c16, rfl⟩ := listN17 hl
  obtain ⟨p0, h0, z0⟩ := shows_field Tryz.underlying26 h hs 0 24 [c0] (by kernel_rfl)
  obtain ⟨x0, e0, w0⟩ : ∃ x : List St106, [c0] = (encL encSt106 2) x ∧ (WfL WfSt106) x := (tells_list (enc := encSt106) (Wf := WfSt106) Tryz.underlying24 (k := 2) (by kernel_rfl) (by kernel_rfl) tells_T107) p0 _ h0 z0
  obtain ⟨p1, h1, z1⟩ := shows_field Tryz.underlying26 h hs 1 24 [c1] (by kernel_rfl)
  obtain ⟨x1, e1, w1⟩ : ∃ x : List St106, [c1] = (encL encSt106 2) x ∧ (WfL WfSt106) x := (tells_list (enc := encSt106) (Wf := WfSt106) Tryz.underlying24 (k := 2) (by kernel_rfl) (by kernel_rfl) tells_T107) p1 _ h1 z1
  obtain ⟨p2, h2, z2⟩ := shows_field Tryz.underlying26 h hs 2 24 [c2] (by kernel_rfl)
  obtain ⟨x2, e2, w2⟩ : ∃ x : List St106, [c2] = (encL encSt106 2) x ∧ (WfL WfSt106) x := (tells_list (enc := encSt106) (Wf := WfSt106) Tryz.underlying24 (k := 2) (by kernel_rfl) (by kernel_rfl) tells_T107) p2 _ h2 z2
  obtain ⟨p3, h3, z3⟩ := shows_field Tryz.underlying26 h hs 3 24 [c3] (by kernel_rfl)
  obtain ⟨x3, e3, w3⟩ : ∃ x : List St106, [c3] = (encL encSt106 2) x ∧ (WfL WfSt106) x := (tells_list (enc := encSt106) (Wf := WfSt106) Tryz.underlying24 (k := 2) (by kernel_rfl) (by kernel_rfl) tells_T107) p3 _ h3 z3
  obtain ⟨p4, h4, z4⟩ := shows_field Tryz.underlying26 h hs 4 4 [c4] (by kernel_rfl)
  obtain ⟨x4, e4, w4⟩ : ∃ x : Bool, [c4] = encB x ∧ WfB x := (tells_bool Tryz.underlying4) p4 _ h4 z4
  obtain ⟨p5, h5, z5⟩ := shows_field Tryz.underlying26 h hs 5 3 [c5] (by kernel_rfl)
  obtain ⟨x5, e5, w5⟩ : ∃ x : Int, [c5] = (encI .i64) x ∧ (WfI .i64) x := (tells_int Tryz.underlying3) p5 _ h5 z5
  obtain ⟨p6, h6, z6⟩ := shows_field Tryz.underlying26 h hs 6 3 [c6] (by kernel_rfl)
  obtain ⟨x6, e6, w6⟩ : ∃ x : Int, [c6] = (encI .i64) x ∧ (WfI .i64) x := (tells_int Tryz.underlying3) p6 _ h6 z6
  obtain ⟨p7, h7, z7⟩ := shows_field Tryz.underlying26 h hs 7 3 [c7] (by kernel_rfl)
  obtain ⟨x7, e7, w7⟩ : ∃ x : Int, [c7] = (encI .i64) x ∧ (WfI .i64) x := (tells_int Tryz.underlying3) p7 _ h7 z7
  obtain ⟨p8, h8, z8⟩ := shows_field Tryz.underlying26 h hs 8 3 [c8] (by kernel_rfl)
  obtain ⟨x8, e8, w8⟩ : ∃ x : Int, [c8] = (encI .i64) x ∧ (WfI .i64) x := (tells_int Tryz.underlying3) p8 _ h8 z8
  obtain ⟨p9, h9, z9⟩ := shows_field Tryz.underlying26 h hs 9 3 [c9] (by kernel_rfl)
  obtain ⟨x9, e9, w9⟩ : ∃ x : Int, [c9] = (encI .i64) x ∧ (WfI .i64) x := (tells_int Tryz.underlying3) p9 _ h9 z9
  obtain ⟨p10, h10, z10⟩ := shows_field Tryz.underlying26 h hs 10 3 [c10] (by kernel_rfl)
  obtain ⟨x10, e10, w10⟩ : ∃ x : Int, [c10] = (encI .i64) x ∧ (WfI .i64) x := (tells_int Tryz.underlying3) p10 _ h10 z10
  obtain ⟨p11, h11, z11⟩ := shows_field Tryz.underlying26 h hs 11 3 [c11] (by kernel_rfl)
  obtain ⟨x11, e11, w11⟩ : ∃ x : Int, [c11] = (encI .i64) x ∧ (WfI .i64) x := (tells_int Tryz.underlying3) p11 _ h11 z11
  obtain ⟨p12, h12, z12⟩ := shows_field Tryz.underlying26 h hs 12 3 [c12] (by kernel_rfl)
  obtain ⟨x12, e12, w12⟩ : ∃ x : Int, [c12] = (encI .i64) x ∧ (WfI .i64) x := (tells_int Tryz.underlying3) p12 _ h12 z12
  obtain ⟨p13, h13, z13⟩ := shows_field Tryz.underlying26 h hs 13 3 [c13] (by kernel_rfl)
  obtain ⟨x13, e13, w13⟩ : ∃ x : Int, [c13] = (encI .i64) x ∧ (WfI .i64) x := (tells_int Tryz.underlying3) p13 _ h13 z13
  obtain ⟨p14, h14, z14⟩ := shows_field Tryz.underlying26 h hs 14 4 [c14] (by kernel_rfl)
  obtain ⟨x14, e14, w14⟩ : ∃ x : Bool, [c14] = encB x ∧ WfB x := (tells_bool Tryz.underlying4) p14 _ h14 z14
  obtain ⟨p15, h15, z15⟩ := shows_field Tryz.underlying26 h hs 15 21 [c15] (by kernel_rfl)
  obtain ⟨x15, e15, w15⟩ : ∃ x : Int, [c15] = (encI .i32) x ∧ (WfI .i32) x := (tells_int Tryz.underlying21) p15 _ h15 z15
  obtain ⟨p16, h16, z16⟩ := shows_field Tryz.underlying26 h hs 16 3 [c16] (by kernel_rfl)
  obtain ⟨x16, e16, w16⟩ : ∃ x : Int, [c16] = (encI .i64) x ∧ (WfI .i64) x := (tells_int Tryz.underlying3) p16 _ h16 z16
  refine ⟨⟨x0, x1, x2, x3, x4, x5, x6, x7, x8, x9, x10, x11, x12, x13, x14, x15, x16⟩, ?_, ⟨w0, w1, w2, w3, w4, w5, w6, w7, w8, w9, w10, w11, w12, w13, w14, w15, w16⟩⟩
  show [c0] ++ [c1] ++ [c2] ++ [c3] ++ [c4] ++ [c5] ++ [c6] ++ [c7] ++ [c8] ++ [c9] ++ [c10] ++ [c11] ++ [c12] ++ [c13] ++ [c14] ++ [c15] ++ [c16] = ((encL encSt106 2) x0 ++ (encL encSt106 2) x1 ++ (encL encSt106 2) x2 ++ (encL encSt106 2) x3 ++ encB x4 ++ (encI .i64) x5 ++ (encI .i64) x6 ++ (encI .i64) x7 ++ (encI .i64) x8 ++ (encI .i64) x9 ++ (encI .i64) x10 ++ (encI .i64) x11 ++ (encI .i64) x12 ++ (encI .i64) x13 ++ encB x14 ++ (encI .i32) x15 ++ (encI .i64) x16)
  rw [e0, e1, e2, e3, e4, e5, e6, e7, e8, e9, e10, e11, e12, e13, e14, e15, e16]
/-- Its numbers are numbers of their kinds, its lists no longer than memory. -/
def WfSt28 (x : St28) : Prop := WfB x.Neg_ ∧ (WfL (WfI .u8)) x.D_ ∧ (WfI .i64) x.E_
theorem tells_T29 {n : Nat} : Tells Tryz.prog (n + 3) 29 encSt28 WfSt28 := fun d cs h hs => by
  have hl : cs.length = 3 := (shows_len Tryz.underlying29 h).trans (by kernel_rfl)
  obtain ⟨c0, c1, c2, rfl⟩ := listN3 hl
  obtain ⟨p0, h0, z0⟩ := shows_field Tryz.underlying29 h hs 0 4 [c0] (by kernel_rfl)
  obtain ⟨x0, e0, w0⟩ : ∃ x : Bool, [c0] = encB x ∧ WfB x := (tells_bool Tryz.underlying4) p0 _ h0 z0
  obtain ⟨p1, h1, z1⟩ := shows_field Tryz.underlying29 h hs 1 27 [c1] (by kernel_rfl)
  obtain ⟨x1, e1, w1⟩ : ∃ x : List Int, [c1] = (encL (encI .u8) 1) x ∧ (WfL (WfI .u8)) x := (tells_list (enc := (encI .u8)) (Wf := (WfI .u8)) Tryz.underlying27 (k := 1) (by kernel_rfl) (by kernel_rfl) (tells_int Tryz.underlying5)) p1 _ h1 z1
  obtain ⟨p2, h2, z2⟩ := shows_field Tryz.underlying29 h hs 2 3 [c2] (by kernel_rfl)
  obtain ⟨x2, e2, w2⟩ : ∃ x : Int, [c2] = (encI .i64) x ∧ (WfI .i64) x := (tells_int Tryz.underlying3) p2 _ h2 z2
  refine ⟨⟨x0, x1, x2⟩, ?_, ⟨w0, w1, w2⟩⟩
  show [c0] ++ [c1] ++ [c2] = (encB x0 ++ (encL (encI .u8) 1) x1 ++ (encI .i64) x2)
  rw [e0, e1, e2]
/-- Its numbers are numbers of their kinds, its lists no longer than memory. -/
def WfSt30 (x : St30) : Prop := WfSt22 x.S_ ∧ WfSt25 x.P_ ∧ (WfI .i64) x.Digits_ ∧ WfSt28 x.D_ ∧ (WfI .i64) x.Mode_
theorem tells_T31 {n : Nat} : Tells Tryz.prog (n + 5) 31 encSt30 WfSt30 := fun d cs h hs => by
  have hl : cs.length = 29 := (shows_len Tryz.underlying31 h).trans (by kernel_rfl)
  obtain ⟨c0, c1, c2, c3, c4, c5, c6, c7, c8, c9, c10, c11, c12, c13, c14, c15, c16, c17, c18, c19, c20, c21, c22, c23, c24, c25, c26, c27, c28, rfl⟩ := listN29 hl
  obtain ⟨p0, h0, z0⟩ := shows_field Tryz.underlying31 h hs 0 23 [c0, c1, c2, c3, c4, c5, c6] (by kernel_rfl)
  obtain ⟨x0, e0, w0⟩ : ∃ x : St22, [c0, c1, c2, c3, c4, c5, c6] = encSt22 x ∧ WfSt22 x := tells_T23 p0 _ h0 z0
  obtain ⟨p1, h1, z1⟩ := shows_field Tryz.underlying31 h hs 1 26 [c7, c8, c9, c10, c11, c12, c13, c14, c15, c16, c17, c18, c19, c20, c21, c22, c23] (by kernel_rfl)
  obtain ⟨x1, e1, w1⟩ : ∃ x : St25, [c7, c8, c9, c10, c11, c12, c13, c14, c15, c16, c17, c18, c19, c20, c21, c22, c23] = encSt25 x ∧ WfSt25 x := tells_T26 p1 _ h1 z1
  obtain ⟨p2, h2, z2⟩ := shows_field Tryz.underlying31 h hs 2 3 [c24] (by kernel_rfl)
  obtain ⟨x2, e2, w2⟩ : ∃ x : Int, [c24] = (encI .i64) x ∧ (WfI .i64) x := (tells_int Tryz.underlying3) p2 _ h2 z2
  obtain ⟨p3, h3, z3⟩ := shows_field Tryz.underlying31 h hs 3 29 [c25, c26, c27] (by kernel_rfl)
  obtain ⟨x3, e3, w3⟩ : ∃ x : St28, [c25, c26, c27] = encSt28 x ∧ WfSt28 x := tells_T29 p3 _ h3 z3
  obtain ⟨p4, h4, z4⟩ := shows_field Tryz.underlying31 h hs 4 3 [c28] (by kernel_rfl)
  obtain ⟨x4, e4, w4⟩ : ∃ x : Int, [c28] = (encI .i64) x ∧ (WfI .i64) x := (tells_int Tryz.underlying3) p4 _ h4 z4
  refine ⟨⟨x0, x1, x2, x3, x4⟩, ?_, ⟨w0, w1, w2, w3, w4⟩⟩
  show [c0, c1, c2, c3, c4, c5, c6] ++ [c7, c8, c9, c10, c11, c12, c13, c14, c15, c16, c17, c18, c19, c20, c21, c22, c23] ++ [c24] ++ [c25, c26, c27] ++ [c28] = (encSt22 x0 ++ encSt25 x1 ++ (encI .i64) x2 ++ encSt28 x3 ++ (encI .i64) x4)
  rw [e0, e1, e2, e3, e4]
theorem of_dec {x : St28} (w : WfSt28 x) : ∃ neg l E, x = ⟨neg, up l, E⟩ ∧ l.length ≤ 140737488355328 := by
  obtain ⟨neg, D, E⟩ := x
  obtain ⟨_, w2, _⟩ := w
  obtain ⟨l, rfl, _, hl⟩ := up_of w2
  exact ⟨neg, l, E, rfl, by rw [hl]; exact w2.1⟩
theorem of_pat {p : St25} (w : WfSt25 p) (n : Int) : ∃ b, exerguelaw17_of p n = some b ∧ (b = true → cntP p ∧ pfP p ∧ n ≤ 40) := by
  obtain ⟨w1, w2, w3, w4, _⟩ := w
  exact of_tot w1.1 w2.1 w3.1 w4.1


theorem row_refl {l : List Int} (hl : l.length ≤ 1000000) : exergueref01_Row l l = some true := by
  unfold exergueref01_Row
  rw [dF (fun h => h rfl), cond_false]
  obtain ⟨o, h1, h2⟩ := loop_count (step := (fun (s51 : Int) => ((bif (decide (s51 < (l.length : Int))) then (bif inR s51 l.length then (bif inR s51 l.length then (bif (decide (¬ (nth l s51) = (nth l s51))) then (some (.inr (.inr false))) else (some (.inl (IntKind.wrap .i64 (s51 + 1))))) else none) else none) else (some (.inr (.inl ())))) : Option (Int ⊕ (Unit ⊕ Bool))))) l.length (fun i => (i : Int)) (fun _ => True) (fun o => o = .inl ()) (s0 := 0) rfl trivial (fun i hi _ => by
    left
    refine ⟨?_, trivial⟩
    rw [dT (by omega), inR_nat hi, dF (fun h => h rfl), w64 (n := (i : Int) + 1) (by omega) (by omega)]
    simp) (fun _ => ⟨.inl (), by rw [dF (by omega)]; rfl, rfl⟩) (by omega)
  have h1' : loopN (fun (s51 : Int) => ((bif (decide (s51 < (l.length : Int))) then (bif inR s51 l.length then (bif inR s51 l.length then (bif (decide (¬ (nth l s51) = (nth l s51))) then (some (.inr (.inr false))) else (some (.inl (IntKind.wrap .i64 (s51 + 1))))) else none) else none) else (some (.inr (.inl ())))) : Option (Int ⊕ (Unit ⊕ Bool)))) big 0 = some o := h1
  rw [h1', h2]; rfl
theorem same_refl {l : List Int} (hl : l.length ≤ 1000000) : exergueref01_Same l l = some true := row_refl hl
theorem Writes_true (x : St30) (w : WfSt30 x) : exerguelaw17_ShapeWrites x = some true := by
  obtain ⟨s, p, n, d, mode⟩ := x
  obtain ⟨ws, wp, wn, wd, wm⟩ := w
  have wp : WfSt25 p := wp
  have wd : WfSt28 d := wd
  have ws : WfSt22 s := ws
  obtain ⟨b1, e1, f1⟩ := of_pat wp n
  obtain ⟨neg, l, E, hd, hl⟩ := of_dec wd
  subst hd
  obtain ⟨b2, e2, f2⟩ := rnear_eq (neg := neg) (E := E) hl
  obtain ⟨b3, e3, f3⟩ := good_tot s
  unfold exerguelaw17_ShapeWrites
  simp only
  rw [shown_eq, e1, e2, e3]
  simp only [Option.bind_some]
  cases b1 with
  | false => rfl
  | true =>
  cases b3 with
  | false => rfl
  | true =>
  cases b2 with
  | false => rfl
  | true =>
  obtain ⟨hc, hpf, hn⟩ := f1 rfl
  have hnr := f2.1 rfl
  have hg := f3 rfl
  have hz := zs_ok hg.1
  obtain ⟨neg', l', E', e, r1, r2, r3⟩ := round_same (mode := mode) (neg := neg) hc hn hnr
  obtain ⟨a, b, g1, hr, ha, hb, ha2, hb2⟩ := figures_gen (n := n) neg hc hn hnr.1
  have g2 := rfigures17 (neg := neg) hc hn hnr hr ha hb ha2 hb2
  obtain ⟨t, t1, t2, t3⟩ := write_same (s := s) (neg := neg) hz hc hn hnr
  simp only [cond_false, Bool.not_true, Option.bind_some, joinX]
  rw [r1, r2, g1, g2, t1, t2]
  simp only [Option.bind_some]
  rw [rsame_eq r3 r3, row_refl (by rw [up_len, figs_len]; omega), row_refl (by rw [up_len, figs_len]; omega), same_refl (by omega)]
  simp
  rfl

set_option maxRecDepth 100000 in
theorem ShapeWrites_lifted (os : Os) (started : os.Started) (H : Type) (enc : TypeId × Value → H) :
    ReturnsInHanded {} Tryz.checked os 3 .any (Rows.shapeWritesSpec.pre6 enc Tryz.prog Tryz.f3 Rows.shapeWritesRow.domain false) (Rows.shapeWritesSpec.post enc Tryz.prog Tryz.f3 false true false false) := by
  refine returnsInHanded_of_change_sized (C := Tryz.checked) Tryz.own started (by kernel_rfl) Tryz.func3
    (ChangeSpec.witness6 (enc := enc) (C := Tryz.checked) false ⟨#[], #[.agg #[.int .i32 0, .int .i32 0, .int .i32 0, .int .i32 0, .int .i32 0, .int .i32 0, .int .i32 0, .slice none 0 0, .slice none 0 0, .slice none 0 0, .slice none 0 0, .bool false, .int .i64 0, .int .i64 0, .int .i64 0, .int .i64 0, .int .i64 0, .int .i64 0, .int .i64 0, .int .i64 0, .int .i64 0, .bool false, .int .i32 0, .int .i64 0, .int .i64 0, .bool false, .slice none 0 0, .int .i64 0, .int .i64 0]], []⟩ 8 (by kernel_rfl) (by kernel_rfl) (by kernel_rfl) (by kernel_rfl)) ?_
  intro W base args ds gs before hval0 hW _ hsz0 _
  have hsz : (DataW.weightsEach Tryz.prog (Tryz.f3.params.toList ++ Rows.shapeWritesSpec.plain.varTypes Tryz.prog) (ds ++ gs)).all (· ≤ reachBytes) = true := hsz0
  clear hsz0
  refine law_post (P := Tryz.prog) (n := 5) (tb := 4) Tryz.laidOut Tryz.underlying4 rfl rfl (by kernel_rfl) (fun h => ?_) hval0 hW ?_ glob_none
  · rw [Tryz.params3] at h
    obtain ⟨d0, rfl⟩ := l1 h
    exact ⟨rfl, rfl, rfl⟩
  · intro ss hg hl1 hl2 hs
    subst hg
    rw [Tryz.params3] at hl1 hl2 hs hsz
    obtain ⟨d0, rfl⟩ := l1 hl1
    obtain ⟨s0, rfl⟩ := l1 hl2
    obtain ⟨cs0, rfl, hc0⟩ := showsV_struct Tryz.underlying31 (hs 0 31 _ _ rfl rfl rfl)
    obtain ⟨a0, rfl, w0⟩ := tells_T31 (n := 0) _ _ hc0 (sized_param hsz (j := 0) rfl rfl)
    exact ⟨[], exerguelaw17_ShapeWrites_ok (Writes_true a0 w0)⟩
theorem ShapeWrites_holds : Rows.ShapeWritesSaid :=
  OpenClaim.holds_of_wide 3 Tryz.f3 rfl rfl rfl rfl rfl rfl rfl ⟨rfl, rfl, rfl, rfl, rfl⟩ rfl rfl rfl rfl rfl (by kernel_rfl) Tryz.func3 (by kernel_rfl)
    (of_decide_eq_true (by kernel_rfl)) (by unfold Func.isWrapper; first | (rw [if_pos (by decide +kernel)]; kernel_rfl) | (rw [if_neg (by decide +kernel)]; exact ⟨rfl, rfl⟩))
    (fun os started H enc _ => ShapeWrites_lifted os started H enc)

end Go.Proofs.YtcmmjficmoflkaaGreat
