/-
  The statement BundFinds is proved: at every input the law answers true, and its input reads as it did. No conditions.
-/
import Derived.Test.YthhabncebpaheaaP
import Derived.Test.YthhabncebpaheaaRows
import Derived.ProofKit
import Derived.SizedLaws
namespace Go.Proofs.Ythhabncebpaheaa
open Go Go.Sy Go.RowKit Go.ChangeShapes Go.WideShapes Go.ChangeAt
set_option linter.unusedVariables false
set_option linter.unusedSimpArgs false
set_option maxRecDepth 100000
set_option maxHeartbeats 4000000

theorem glob_none {w : World} {K : Nat → Nat} {D : DM} : GlobOk w K D := fun g cs h => by
  have h2 : (none : Option (List SV)) = some cs := h
  cases h2
theorem Try.own : ownKnob Try.prog.godebug = none := by kernel_rfl
theorem Try.laidOut : laidOutB Try.prog = true := by kernel_rfl

theorem listN2 {α : Type} {l : List α} (h : l.length = 2) : ∃ a0 a1, l = [a0, a1] := by
  match l, h with
  | [a0, a1], _ => exact ⟨a0, a1, rfl⟩
theorem listN3 {α : Type} {l : List α} (h : l.length = 3) : ∃ a0 a1 a2, l = [a0, a1, a2] := by
  match l, h with
  | [a0, a1, a2], _ => exact ⟨a0, a1, a2, rfl⟩
theorem listN4 {α : Type} {l : List α} (h : l.length = 4) : ∃ a0 a1 a2 a3, l = [a0, a1, a2, a3] := by
  match l, h with
  | [a0, a1, a2, a3], _ => exact ⟨a0, a1, a2, a3, rfl⟩
theorem listN7 {α : Type} {l : List α} (h : l.length = 7) : ∃ a0 a1 a2 a3 a4 a5 a6, l = [a0, a1, a2, a3, a4, a5, a6] := by
  match l, h with
  | [a0, a1, a2, a3, a4, a5, a6], _ => exact ⟨a0, a1, a2, a3, a4, a5, a6, rfl⟩
theorem listN15 {α : Type} {l : List α} (h : l.length = 15) : ∃ a0 a1 a2 a3 a4 a5 a6 a7 a8 a9 a10 a11 a12 a13 a14, l = [a0, a1, a2, a3, a4, a5, a6, a7, a8, a9, a10, a11, a12, a13, a14] := by
  match l, h with
  | [a0, a1, a2, a3, a4, a5, a6, a7, a8, a9, a10, a11, a12, a13, a14], _ => exact ⟨a0, a1, a2, a3, a4, a5, a6, a7, a8, a9, a10, a11, a12, a13, a14, rfl⟩
theorem listN21 {α : Type} {l : List α} (h : l.length = 21) : ∃ a0 a1 a2 a3 a4 a5 a6 a7 a8 a9 a10 a11 a12 a13 a14 a15 a16 a17 a18 a19 a20, l = [a0, a1, a2, a3, a4, a5, a6, a7, a8, a9, a10, a11, a12, a13, a14, a15, a16, a17, a18, a19, a20] := by
  match l, h with
  | [a0, a1, a2, a3, a4, a5, a6, a7, a8, a9, a10, a11, a12, a13, a14, a15, a16, a17, a18, a19, a20], _ => exact ⟨a0, a1, a2, a3, a4, a5, a6, a7, a8, a9, a10, a11, a12, a13, a14, a15, a16, a17, a18, a19, a20, rfl⟩
/-- Its numbers are numbers of their kinds, its lists no longer than memory. -/
def WfSt22 (x : St22) : Prop := (WfI .i32) x.Zero_ ∧ (WfI .i32) x.Dec_ ∧ (WfI .i32) x.Group_ ∧ (WfI .i32) x.Minus_ ∧ (WfI .i32) x.Plus_ ∧ (WfI .i32) x.Percent_ ∧ (WfI .i32) x.Exp_
theorem tells_T23 {n : Nat} : Tells Try.prog (n + 2) 23 encSt22 WfSt22 := fun d cs h hs => by
  have hl : cs.length = 7 := (shows_len Try.underlying23 h).trans (by kernel_rfl)
  obtain ⟨c0, c1, c2, c3, c4, c5, c6, rfl⟩ := listN7 hl
  obtain ⟨p0, h0, z0⟩ := shows_field Try.underlying23 h hs 0 21 [c0] (by kernel_rfl)
  obtain ⟨x0, e0, w0⟩ : ∃ x : Int, [c0] = (encI .i32) x ∧ (WfI .i32) x := (tells_int Try.underlying21) p0 _ h0 z0
  obtain ⟨p1, h1, z1⟩ := shows_field Try.underlying23 h hs 1 21 [c1] (by kernel_rfl)
  obtain ⟨x1, e1, w1⟩ : ∃ x : Int, [c1] = (encI .i32) x ∧ (WfI .i32) x := (tells_int Try.underlying21) p1 _ h1 z1
  obtain ⟨p2, h2, z2⟩ := shows_field Try.underlying23 h hs 2 21 [c2] (by kernel_rfl)
  obtain ⟨x2, e2, w2⟩ : ∃ x : Int, [c2] = (encI .i32) x ∧ (WfI .i32) x := (tells_int Try.underlying21) p2 _ h2 z2
  obtain ⟨p3, h3, z3⟩ := shows_field Try.underlying23 h hs 3 21 [c3] (by kernel_rfl)
  obtain ⟨x3, e3, w3⟩ : ∃ x : Int, [c3] = (encI .i32) x ∧ (WfI .i32) x := (tells_int Try.underlying21) p3 _ h3 z3
  obtain ⟨p4, h4, z4⟩ := shows_field Try.underlying23 h hs 4 21 [c4] (by kernel_rfl)
  obtain ⟨x4, e4, w4⟩ : ∃ x : Int, [c4] = (encI .i32) x ∧ (WfI .i32) x := (tells_int Try.underlying21) p4 _ h4 z4
  obtain ⟨p5, h5, z5⟩ := shows_field Try.underlying23 h hs 5 21 [c5] (by kernel_rfl)
  obtain ⟨x5, e5, w5⟩ : ∃ x : Int, [c5] = (encI .i32) x ∧ (WfI .i32) x := (tells_int Try.underlying21) p5 _ h5 z5
  obtain ⟨p6, h6, z6⟩ := shows_field Try.underlying23 h hs 6 21 [c6] (by kernel_rfl)
  obtain ⟨x6, e6, w6⟩ : ∃ x : Int, [c6] = (encI .i32) x ∧ (WfI .i32) x := (tells_int Try.underlying21) p6 _ h6 z6
  refine ⟨⟨x0, x1, x2, x3, x4, x5, x6⟩, ?_, ⟨w0, w1, w2, w3, w4, w5, w6⟩⟩
  show [c0] ++ [c1] ++ [c2] ++ [c3] ++ [c4] ++ [c5] ++ [c6] = ((encI .i32) x0 ++ (encI .i32) x1 ++ (encI .i32) x2 ++ (encI .i32) x3 ++ (encI .i32) x4 ++ (encI .i32) x5 ++ (encI .i32) x6)
  rw [e0, e1, e2, e3, e4, e5, e6]
/-- Its numbers are numbers of their kinds, its lists no longer than memory. -/
def WfSt24 (x : St24) : Prop := WfT x.a0_ ∧ WfT x.a1_ ∧ WfT x.a2_ ∧ WfT x.a3_
theorem tells_T24 {n : Nat} : Tells Try.prog (n + 2) 24 encSt24 WfSt24 := fun d cs h hs => by
  have hl : cs.length = 4 := (shows_alen Try.underlying24 h).trans (by kernel_rfl)
  obtain ⟨c0, c1, c2, c3, rfl⟩ := listN4 hl
  obtain ⟨p0, h0, z0⟩ := shows_elem Try.underlying24 h hs 0 [c0] (by kernel_rfl) (by kernel_rfl)
  obtain ⟨x0, e0, w0⟩ : ∃ x : List UInt8, [c0] = encT x ∧ WfT x := (tells_str Try.underlying9) p0 _ h0 z0
  obtain ⟨p1, h1, z1⟩ := shows_elem Try.underlying24 h hs 1 [c1] (by kernel_rfl) (by kernel_rfl)
  obtain ⟨x1, e1, w1⟩ : ∃ x : List UInt8, [c1] = encT x ∧ WfT x := (tells_str Try.underlying9) p1 _ h1 z1
  obtain ⟨p2, h2, z2⟩ := shows_elem Try.underlying24 h hs 2 [c2] (by kernel_rfl) (by kernel_rfl)
  obtain ⟨x2, e2, w2⟩ : ∃ x : List UInt8, [c2] = encT x ∧ WfT x := (tells_str Try.underlying9) p2 _ h2 z2
  obtain ⟨p3, h3, z3⟩ := shows_elem Try.underlying24 h hs 3 [c3] (by kernel_rfl) (by kernel_rfl)
  obtain ⟨x3, e3, w3⟩ : ∃ x : List UInt8, [c3] = encT x ∧ WfT x := (tells_str Try.underlying9) p3 _ h3 z3
  refine ⟨⟨x0, x1, x2, x3⟩, ?_, ⟨w0, w1, w2, w3⟩⟩
  show [c0] ++ [c1] ++ [c2] ++ [c3] = (encT x0 ++ encT x1 ++ encT x2 ++ encT x3)
  rw [e0, e1, e2, e3]
/-- Its numbers are numbers of their kinds, its lists no longer than memory. -/
def WfSt57 (x : St57) : Prop := (WfI .i64) x.Cat_ ∧ WfT x.Text_
theorem tells_T58 {n : Nat} : Tells Try.prog (n + 2) 58 encSt57 WfSt57 := fun d cs h hs => by
  have hl : cs.length = 2 := (shows_len Try.underlying58 h).trans (by kernel_rfl)
  obtain ⟨c0, c1, rfl⟩ := listN2 hl
  obtain ⟨p0, h0, z0⟩ := shows_field Try.underlying58 h hs 0 3 [c0] (by kernel_rfl)
  obtain ⟨x0, e0, w0⟩ : ∃ x : Int, [c0] = (encI .i64) x ∧ (WfI .i64) x := (tells_int Try.underlying3) p0 _ h0 z0
  obtain ⟨p1, h1, z1⟩ := shows_field Try.underlying58 h hs 1 9 [c1] (by kernel_rfl)
  obtain ⟨x1, e1, w1⟩ : ∃ x : List UInt8, [c1] = encT x ∧ WfT x := (tells_str Try.underlying9) p1 _ h1 z1
  refine ⟨⟨x0, x1⟩, ?_, ⟨w0, w1⟩⟩
  show [c0] ++ [c1] = ((encI .i64) x0 ++ encT x1)
  rw [e0, e1]
/-- Its numbers are numbers of their kinds, its lists no longer than memory. -/
def WfSt59 (x : St59) : Prop := WfT x.Code_ ∧ WfT x.Sign_ ∧ (WfI .i64) x.Digits_
theorem tells_T60 {n : Nat} : Tells Try.prog (n + 2) 60 encSt59 WfSt59 := fun d cs h hs => by
  have hl : cs.length = 3 := (shows_len Try.underlying60 h).trans (by kernel_rfl)
  obtain ⟨c0, c1, c2, rfl⟩ := listN3 hl
  obtain ⟨p0, h0, z0⟩ := shows_field Try.underlying60 h hs 0 9 [c0] (by kernel_rfl)
  obtain ⟨x0, e0, w0⟩ : ∃ x : List UInt8, [c0] = encT x ∧ WfT x := (tells_str Try.underlying9) p0 _ h0 z0
  obtain ⟨p1, h1, z1⟩ := shows_field Try.underlying60 h hs 1 9 [c1] (by kernel_rfl)
  obtain ⟨x1, e1, w1⟩ : ∃ x : List UInt8, [c1] = encT x ∧ WfT x := (tells_str Try.underlying9) p1 _ h1 z1
  obtain ⟨p2, h2, z2⟩ := shows_field Try.underlying60 h hs 2 3 [c2] (by kernel_rfl)
  obtain ⟨x2, e2, w2⟩ : ∃ x : Int, [c2] = (encI .i64) x ∧ (WfI .i64) x := (tells_int Try.underlying3) p2 _ h2 z2
  refine ⟨⟨x0, x1, x2⟩, ?_, ⟨w0, w1, w2⟩⟩
  show [c0] ++ [c1] ++ [c2] = (encT x0 ++ encT x1 ++ (encI .i64) x2)
  rw [e0, e1, e2]
/-- Its numbers are numbers of their kinds, its lists no longer than memory. -/
def WfSt61 (x : St61) : Prop := (WfI .i64) x.Mag_ ∧ (WfI .i64) x.Cat_ ∧ WfT x.Pat_
theorem tells_T62 {n : Nat} : Tells Try.prog (n + 2) 62 encSt61 WfSt61 := fun d cs h hs => by
  have hl : cs.length = 3 := (shows_len Try.underlying62 h).trans (by kernel_rfl)
  obtain ⟨c0, c1, c2, rfl⟩ := listN3 hl
  obtain ⟨p0, h0, z0⟩ := shows_field Try.underlying62 h hs 0 3 [c0] (by kernel_rfl)
  obtain ⟨x0, e0, w0⟩ : ∃ x : Int, [c0] = (encI .i64) x ∧ (WfI .i64) x := (tells_int Try.underlying3) p0 _ h0 z0
  obtain ⟨p1, h1, z1⟩ := shows_field Try.underlying62 h hs 1 3 [c1] (by kernel_rfl)
  obtain ⟨x1, e1, w1⟩ : ∃ x : Int, [c1] = (encI .i64) x ∧ (WfI .i64) x := (tells_int Try.underlying3) p1 _ h1 z1
  obtain ⟨p2, h2, z2⟩ := shows_field Try.underlying62 h hs 2 9 [c2] (by kernel_rfl)
  obtain ⟨x2, e2, w2⟩ : ∃ x : List UInt8, [c2] = encT x ∧ WfT x := (tells_str Try.underlying9) p2 _ h2 z2
  refine ⟨⟨x0, x1, x2⟩, ?_, ⟨w0, w1, w2⟩⟩
  show [c0] ++ [c1] ++ [c2] = ((encI .i64) x0 ++ (encI .i64) x1 ++ encT x2)
  rw [e0, e1, e2]
/-- Its numbers are numbers of their kinds, its lists no longer than memory. -/
def WfSt28 (x : St28) : Prop := WfT x.Tag_ ∧ WfSt22 x.S_ ∧ WfSt24 x.Pats_ ∧ (WfL WfSt57) x.Rules_ ∧ (WfL WfSt59) x.Curs_ ∧ (WfL WfSt61) x.Comps_
theorem tells_T29 {n : Nat} : Tells Try.prog (n + 4) 29 encSt28 WfSt28 := fun d cs h hs => by
  have hl : cs.length = 15 := (shows_len Try.underlying29 h).trans (by kernel_rfl)
  obtain ⟨c0, c1, c2, c3, c4, c5, c6, c7, c8, c9, c10, c11, c12, c13, c14, rfl⟩ := listN15 hl
  obtain ⟨p0, h0, z0⟩ := shows_field Try.underlying29 h hs 0 9 [c0] (by kernel_rfl)
  obtain ⟨x0, e0, w0⟩ : ∃ x : List UInt8, [c0] = encT x ∧ WfT x := (tells_str Try.underlying9) p0 _ h0 z0
  obtain ⟨p1, h1, z1⟩ := shows_field Try.underlying29 h hs 1 23 [c1, c2, c3, c4, c5, c6, c7] (by kernel_rfl)
  obtain ⟨x1, e1, w1⟩ : ∃ x : St22, [c1, c2, c3, c4, c5, c6, c7] = encSt22 x ∧ WfSt22 x := tells_T23 p1 _ h1 z1
  obtain ⟨p2, h2, z2⟩ := shows_field Try.underlying29 h hs 2 24 [c8, c9, c10, c11] (by kernel_rfl)
  obtain ⟨x2, e2, w2⟩ : ∃ x : St24, [c8, c9, c10, c11] = encSt24 x ∧ WfSt24 x := tells_T24 p2 _ h2 z2
  obtain ⟨p3, h3, z3⟩ := shows_field Try.underlying29 h hs 3 25 [c12] (by kernel_rfl)
  obtain ⟨x3, e3, w3⟩ : ∃ x : List St57, [c12] = (encL encSt57 2) x ∧ (WfL WfSt57) x := (tells_list (enc := encSt57) (Wf := WfSt57) Try.underlying25 (k := 2) (by kernel_rfl) (by kernel_rfl) tells_T58) p3 _ h3 z3
  obtain ⟨p4, h4, z4⟩ := shows_field Try.underlying29 h hs 4 26 [c13] (by kernel_rfl)
  obtain ⟨x4, e4, w4⟩ : ∃ x : List St59, [c13] = (encL encSt59 3) x ∧ (WfL WfSt59) x := (tells_list (enc := encSt59) (Wf := WfSt59) Try.underlying26 (k := 3) (by kernel_rfl) (by kernel_rfl) tells_T60) p4 _ h4 z4
  obtain ⟨p5, h5, z5⟩ := shows_field Try.underlying29 h hs 5 27 [c14] (by kernel_rfl)
  obtain ⟨x5, e5, w5⟩ : ∃ x : List St61, [c14] = (encL encSt61 3) x ∧ (WfL WfSt61) x := (tells_list (enc := encSt61) (Wf := WfSt61) Try.underlying27 (k := 3) (by kernel_rfl) (by kernel_rfl) tells_T62) p5 _ h5 z5
  refine ⟨⟨x0, x1, x2, x3, x4, x5⟩, ?_, ⟨w0, w1, w2, w3, w4, w5⟩⟩
  show [c0] ++ [c1, c2, c3, c4, c5, c6, c7] ++ [c8, c9, c10, c11] ++ [c12] ++ [c13] ++ [c14] = (encT x0 ++ encSt22 x1 ++ encSt24 x2 ++ (encL encSt57 2) x3 ++ (encL encSt59 3) x4 ++ (encL encSt61 3) x5)
  rw [e0, e1, e2, e3, e4, e5]
/-- Its numbers are numbers of their kinds, its lists no longer than memory. -/
def WfSt48 (x : St48) : Prop := (WfI .u8) x.a0_ ∧ (WfI .u8) x.a1_ ∧ (WfI .u8) x.a2_ ∧ (WfI .u8) x.a3_
theorem tells_T48 {n : Nat} : Tells Try.prog (n + 2) 48 encSt48 WfSt48 := fun d cs h hs => by
  have hl : cs.length = 4 := (shows_alen Try.underlying48 h).trans (by kernel_rfl)
  obtain ⟨c0, c1, c2, c3, rfl⟩ := listN4 hl
  obtain ⟨p0, h0, z0⟩ := shows_elem Try.underlying48 h hs 0 [c0] (by kernel_rfl) (by kernel_rfl)
  obtain ⟨x0, e0, w0⟩ : ∃ x : Int, [c0] = (encI .u8) x ∧ (WfI .u8) x := (tells_int Try.underlying5) p0 _ h0 z0
  obtain ⟨p1, h1, z1⟩ := shows_elem Try.underlying48 h hs 1 [c1] (by kernel_rfl) (by kernel_rfl)
  obtain ⟨x1, e1, w1⟩ : ∃ x : Int, [c1] = (encI .u8) x ∧ (WfI .u8) x := (tells_int Try.underlying5) p1 _ h1 z1
  obtain ⟨p2, h2, z2⟩ := shows_elem Try.underlying48 h hs 2 [c2] (by kernel_rfl) (by kernel_rfl)
  obtain ⟨x2, e2, w2⟩ : ∃ x : Int, [c2] = (encI .u8) x ∧ (WfI .u8) x := (tells_int Try.underlying5) p2 _ h2 z2
  obtain ⟨p3, h3, z3⟩ := shows_elem Try.underlying48 h hs 3 [c3] (by kernel_rfl) (by kernel_rfl)
  obtain ⟨x3, e3, w3⟩ : ∃ x : Int, [c3] = (encI .u8) x ∧ (WfI .u8) x := (tells_int Try.underlying5) p3 _ h3 z3
  refine ⟨⟨x0, x1, x2, x3⟩, ?_, ⟨w0, w1, w2, w3⟩⟩
  show [c0] ++ [c1] ++ [c2] ++ [c3] = ((encI .u8) x0 ++ (encI .u8) x1 ++ (encI .u8) x2 ++ (encI .u8) x3)
  rw [e0, e1, e2, e3]
/-- Its numbers are numbers of their kinds, its lists no longer than memory. -/
def WfSt49 (x : St49) : Prop := WfSt28 x.L_ ∧ (WfI .i64) x.At_ ∧ WfSt48 x.By_ ∧ (WfI .i64) x.Cut_
theorem tells_T50 {n : Nat} : Tells Try.prog (n + 5) 50 encSt49 WfSt49 := fun d cs h hs => by
  have hl : cs.length = 21 := (shows_len Try.underlying50 h).trans (by kernel_rfl)
  obtain ⟨c0, c1, c2, c3, c4, c5, c6, c7, c8, c9, c10, c11, c12, c13, c14, c15, c16, c17, c18, c19, c20, rfl⟩ := listN21 hl
  obtain ⟨p0, h0, z0⟩ := shows_field Try.underlying50 h hs 0 29 [c0, c1, c2, c3, c4, c5, c6, c7, c8, c9, c10, c11, c12, c13, c14] (by kernel_rfl)
  obtain ⟨x0, e0, w0⟩ : ∃ x : St28, [c0, c1, c2, c3, c4, c5, c6, c7, c8, c9, c10, c11, c12, c13, c14] = encSt28 x ∧ WfSt28 x := tells_T29 p0 _ h0 z0
  obtain ⟨p1, h1, z1⟩ := shows_field Try.underlying50 h hs 1 3 [c15] (by kernel_rfl)
  obtain ⟨x1, e1, w1⟩ : ∃ x : Int, [c15] = (encI .i64) x ∧ (WfI .i64) x := (tells_int Try.underlying3) p1 _ h1 z1
  obtain ⟨p2, h2, z2⟩ := shows_field Try.underlying50 h hs 2 48 [c16, c17, c18, c19] (by kernel_rfl)
  obtain ⟨x2, e2, w2⟩ : ∃ x : St48, [c16, c17, c18, c19] = encSt48 x ∧ WfSt48 x := tells_T48 p2 _ h2 z2
  obtain ⟨p3, h3, z3⟩ := shows_field Try.underlying50 h hs 3 3 [c20] (by kernel_rfl)
  obtain ⟨x3, e3, w3⟩ : ∃ x : Int, [c20] = (encI .i64) x ∧ (WfI .i64) x := (tells_int Try.underlying3) p3 _ h3 z3
  refine ⟨⟨x0, x1, x2, x3⟩, ?_, ⟨w0, w1, w2, w3⟩⟩
  show [c0, c1, c2, c3, c4, c5, c6, c7, c8, c9, c10, c11, c12, c13, c14] ++ [c15] ++ [c16, c17, c18, c19] ++ [c20] = (encSt28 x0 ++ (encI .i64) x1 ++ encSt48 x2 ++ (encI .i64) x3)
  rw [e0, e1, e2, e3]
theorem med_of {l : St28} (w : WfSt28 l) (h : l.Rules_.length ≤ 8 ∧ l.Curs_.length ≤ 105 ∧ l.Comps_.length ≤ 95) : Med l := by
  obtain ⟨-, ws, -, wr, wc, wk⟩ := w
  obtain ⟨z0, z1, z2, z3, z4, z5, z6⟩ := ws
  refine ⟨fun n hn => ?_, ⟨by omega, fun r hr => wf_i64 (wr.2 r hr).1⟩, ⟨by omega, fun c hc => wf_i64 (wc.2 c hc).2.2⟩, ⟨by omega, fun c hc => ⟨wf_i64 (wk.2 c hc).1, wf_i64 (wk.2 c hc).2.1⟩⟩⟩
  simp only [List.mem_cons, List.not_mem_nil, or_false] at hn
  rcases hn with rfl | rfl | rfl | rfl | rfl | rfl | rfl <;> exact wf_i32 (by assumption)
theorem small_med (l : St28) (w : WfSt28 l) : ∃ b, exergueref15_Small l = some b ∧ (b = true → Med l ∧ l.Rules_.length ≤ 8 ∧ l.Curs_.length ≤ 105 ∧ l.Comps_.length ≤ 95) := by
  have w' := w
  obtain ⟨-, -, -, wr, wc, wk⟩ := w'
  obtain ⟨b, h1, h2⟩ := small_eq l ⟨by have := wr.1; omega, by have := wc.1; omega, by have := wk.1; omega⟩
  exact ⟨b, h1, fun hb => ⟨med_of w (h2 hb), h2 hb⟩⟩

theorem four_of {x : St48} (w : WfSt48 x) : ∃ a b c d : Nat, x = ⟨a, b, c, d⟩ ∧ a < 256 ∧ b < 256 ∧ c < 256 ∧ d < 256 := by
  obtain ⟨w1, w2, w3, w4⟩ := w
  have w1 := wf_u8 w1
  have w2 := wf_u8 w2
  have w3 := wf_u8 w3
  have w4 := wf_u8 w4
  obtain ⟨a, b, c, d⟩ := x
  simp only at w1 w2 w3 w4
  refine ⟨a.toNat, b.toNat, c.toNat, d.toNat, ?_, by omega, by omega, by omega, by omega⟩
  simp only [St48.mk.injEq]
  omega
theorem Finds_true (a : St49) (wa : WfSt49 a) : exerguelaw16_BundFinds a = some true := by
  obtain ⟨l, i, by_, cu⟩ := a
  obtain ⟨w, wi, wx, wc⟩ := wa
  simp only at w wi wx wc
  obtain ⟨a, b, c, d, rfl, ha, hb, hc, hd⟩ := four_of wx
  have wi := wf_i64 wi
  have wc := wf_i64 wc
  unfold exerguelaw16_BundFinds
  rw [shown_eq]
  simp only [Option.bind_some]
  obtain ⟨sb, hs, hsm⟩ := small_med l w
  rw [hs]
  cases sb with
  | false => rfl
  | true =>
    obtain ⟨hm, hr, hcl, hk⟩ := hsm rfl
    simp only [Bool.not_true, cond_false, Option.bind_some]
    rw [encode_eq hm]
    simp only [Option.bind_some]
    rcases encV_two hm with ho | he
    rotate_left
    · rw [he]; rfl
    have hbl := bytesL_small ho hr hcl hk
    have h56 := bytesL_56 ho
    have hB := bytesL_bytes l
    rw [encV_ok ho]
    simp only [not_true_eq_false, decide_false, cond_false]
    have hv : onN 4294967295 (summed (bytesL l)) = resC := put_valid hB
    have hy := summed_bytes l
    have hyl := summed_len (bytesL l)
    have hcutP : ∀ n : Nat, (summed (bytesL l)).take n = (summed (bytesL l)).take n := fun _ => rfl
    rw [up_len, w64 (n := ((summed (bytesL l)).length : Int) - 4) (by omega) (by omega), dF (show ¬ (((summed (bytesL l)).length : Int) < 4) by omega)]
    simp only [cond_false]
    by_cases h1 : i < 0
    · rw [dT h1]; rfl
    by_cases h2 : i > ((summed (bytesL l)).length : Int) - 4
    · rw [dF h1, dT h2]; rfl
    rw [dF h1, dF h2]
    by_cases h0 : a = 0 ∧ b = 0 ∧ c = 0 ∧ d = 0
    · obtain ⟨rfl, rfl, rfl, rfl⟩ := h0; rfl
    have hd0 : ((decide ((a : Int) = 0)) && ((decide ((b : Int) = 0)) && ((decide ((c : Int) = 0)) && ((decide ((d : Int) = 0)) && true)))) = false := by
      rw [Bool.eq_false_iff]
      intro hx
      simp only [Bool.and_eq_true, decide_eq_true_eq, Bool.and_true] at hx
      exact h0 (by omega)
    simp only [hd0, cond_false, Option.bind_some, joinX]
    rw [room_of (by omega)]
    simp only [cond_true]
    obtain ⟨pre, p, q, r, s, suf, hsum, hpre⟩ := part4 (l := summed (bytesL l)) (i := i.toNat) (by omega)
    have hi : i = (pre.length : Int) := by omega
    subst hi
    have hyl2 := hyl
    rw [hsum] at hy hv hyl2
    have hbur := burst_loop hy ha hb hc hd (by simp at hyl2; omega)
    have hn := burst_on (t := 4294967295) (by decide) hy ha hb hc hd h0
    rw [hv] at hn
    have hy' : bytesP (pre ++ (p ^^^ a) :: (q ^^^ b) :: (r ^^^ c) :: (s ^^^ d) :: suf) := fun z hz => by
      simp at hz
      rcases hz with hz | rfl | rfl | rfl | rfl | hz
      · exact hy z (by simp [hz])
      · exact x8 (hy p (by simp)) ha
      · exact x8 (hy q (by simp)) hb
      · exact x8 (hy r (by simp)) hc
      · exact x8 (hy s (by simp)) hd
      · exact hy z (by simp [hz])
    have hlen' : (pre ++ (p ^^^ a) :: (q ^^^ b) :: (r ^^^ c) :: (s ^^^ d) :: suf).length ≤ 140004 ∧ 4 ≤ (pre ++ (p ^^^ a) :: (q ^^^ b) :: (r ^^^ c) :: (s ^^^ d) :: suf).length := by
      simp at hyl2 ⊢; omega
    rw [← hsum] at hbur
    refine bind_of (fun o => o = up (pre ++ (p ^^^ a) :: (q ^^^ b) :: (r ^^^ c) :: (s ^^^ d) :: suf)) ⟨_, hbur, rfl⟩ (fun o h => ?_)
    subst h
    have hbad := cut_bad hy' hlen'.2 (by omega) hn
    have hce := cutV_eq hy' (by omega)
    rw [hbad] at hce
    have h6 : (cutV (pre ++ (p ^^^ a) :: (q ^^^ b) :: (r ^^^ c) :: (s ^^^ d) :: suf)).2 = 6 := (Prod.mk.inj (Option.some.inj hce)).2.symm
    rw [decode_eq hy' (by omega)]
    have hdv : decV (pre ++ (p ^^^ a) :: (q ^^^ b) :: (r ^^^ c) :: (s ^^^ d) :: suf) = (zeroL, 6) := by unfold decV; rw [if_neg (by omega), h6]
    rw [hdv]
    simp only [Option.bind_some, not_true_eq_false, decide_false, cond_false]
    by_cases c1 : cu < 0
    · rw [dT c1]; rfl
    by_cases c2 : cu ≥ ((summed (bytesL l)).length : Int)
    · rw [dF c1, dT c2]; rfl
    rw [dF c1, dF c2]
    simp only [cond_false, Option.bind_some, joinX]
    rw [inS_of (by omega) (by omega) (by omega)]
    obtain ⟨n, rfl⟩ := Int.eq_ofNat_of_zero_le (show 0 ≤ cu by omega)
    have hyy := summed_bytes l
    rw [show cut (up (summed (bytesL l))) 0 (n : Int) = up ((summed (bytesL l)).take n) from by rw [show (0 : Int) = ((0 : Nat) : Int) from rfl, cut_up]; rfl]
    have hnl : ((summed (bytesL l)).take n).length = n := by rw [List.length_take]; omega
    rw [decode_eq (bytes_take hyy n) (by omega)]
    have hne : (decV ((summed (bytesL l)).take n)).2 ≠ 0 := by
      by_cases h60 : n < 60
      · intro h9
        have he := dec_enc h9
        have hmm := decV_med (bytes_take hyy n) (by omega) (c := (summed (bytesL l)).take n)
        rcases encV_two hmm with ho2 | hb2
        · rw [encV_ok ho2] at he
          have hx := congrArg List.length (Prod.mk.inj he).1
          rw [summed_len, hnl] at hx
          have := bytesL_56 ho2
          omega
        · rw [hb2] at he
          have := (Prod.mk.inj he).2
          omega
      · refine other_bad ho (bytes_take hyy n) (by omega) ?_ (by omega)
        rw [List.take_take, show min 56 n = 56 by omega]
        unfold summed
        rw [List.take_append_of_le_length (by omega)]
    simp only [cond_true, Option.bind_some]
    rw [dec_zero hne, dT hne]
    simp only [cond_true]
    rw [same_eq (a := zeroL) (by simp [zeroL]) (by simp [zeroL]) (by simp [zeroL])]
    rw [show decide (zeroL = (⟨[], ⟨0, 0, 0, 0, 0, 0, 0⟩, ⟨[], [], [], []⟩, [], [], []⟩ : St28)) = true from dT rfl]
    rfl

set_option maxRecDepth 100000 in
theorem BundFinds_lifted (os : Os) (started : os.Started) (H : Type) (enc : TypeId × Value → H) :
    ReturnsInHanded {} Try.checked os 5 .any (Rows.bundFindsSpec.pre6 enc Try.prog Try.f5 Rows.bundFindsRow.domain false) (Rows.bundFindsSpec.post enc Try.prog Try.f5 false true false false) := by
  refine returnsInHanded_of_change_sized (C := Try.checked) Try.own started (by kernel_rfl) Try.func5
    (ChangeSpec.witness6 (enc := enc) (C := Try.checked) false ⟨#[], #[.agg #[.string ⟨#[]⟩, .int .i32 0, .int .i32 0, .int .i32 0, .int .i32 0, .int .i32 0, .int .i32 0, .int .i32 0, .string ⟨#[]⟩, .string ⟨#[]⟩, .string ⟨#[]⟩, .string ⟨#[]⟩, .slice none 0 0, .slice none 0 0, .slice none 0 0, .int .i64 0, .int .u8 0, .int .u8 0, .int .u8 0, .int .u8 0, .int .i64 0]], []⟩ 8 (by kernel_rfl) (by kernel_rfl) (by kernel_rfl) (by kernel_rfl)) ?_
  intro W base args ds gs before hval0 hW _ hsz0 _
  have hsz : (DataW.weightsEach Try.prog (Try.f5.params.toList ++ Rows.bundFindsSpec.plain.varTypes Try.prog) (ds ++ gs)).all (· ≤ reachBytes) = true := hsz0
  clear hsz0
  refine law_post (P := Try.prog) (n := 5) (tb := 4) Try.laidOut Try.underlying4 rfl rfl (by kernel_rfl) (fun h => ?_) hval0 hW ?_ glob_none
  · rw [Try.params5] at h
    obtain ⟨d0, rfl⟩ := l1 h
    exact ⟨rfl, rfl, rfl⟩
  · intro ss hg hl1 hl2 hs
    subst hg
    rw [Try.params5] at hl1 hl2 hs hsz
    obtain ⟨d0, rfl⟩ := l1 hl1
    obtain ⟨s0, rfl⟩ := l1 hl2
    obtain ⟨cs0, rfl, hc0⟩ := showsV_struct Try.underlying50 (hs 0 50 _ _ rfl rfl rfl)
    obtain ⟨a0, rfl, w0⟩ := tells_T50 (n := 0) _ _ hc0 (sized_param hsz (j := 0) rfl rfl)
    exact ⟨[], exerguelaw16_BundFinds_ok (Finds_true a0 w0)⟩
theorem BundFinds_holds : Rows.BundFindsSaid :=
  OpenClaim.holds_of_wide 5 Try.f5 rfl rfl rfl rfl rfl rfl rfl ⟨rfl, rfl, rfl, rfl, rfl⟩ rfl rfl rfl rfl rfl (by kernel_rfl) Try.func5 (by kernel_rfl)
    (of_decide_eq_true (by kernel_rfl)) (by unfold Func.isWrapper; first | (rw [if_pos (by decide +kernel)]; kernel_rfl) | (rw [if_neg (by decide +kernel)]; exact ⟨rfl, rfl⟩))
    (fun os started H enc _ => BundFinds_lifted os started H enc)

end Go.Proofs.Ythhabncebpaheaa
