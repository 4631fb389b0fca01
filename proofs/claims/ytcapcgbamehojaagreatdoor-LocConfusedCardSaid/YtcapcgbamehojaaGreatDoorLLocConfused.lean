/-
  The statement LocConfusedCard is proved: at every input the law answers true, and its input reads as it did. Conditions: those of the card (package variables are as the program text lays them).
-/
import Derived.Test.YtcapcgbamehojaaGreatDoorP
import Derived.Test.YtcapcgbamehojaaGreatDoorSyGL
import Derived.Test.YtcapcgbamehojaaGreatDoorCards
import Derived.Test.YtcapcgbamehojaaGreatDoorTie
import Derived.ProofKit
import Derived.SizedLaws
import Derived.LaidMore
import Derived.SevenTiedAt
namespace Go.Proofs.YtcapcgbamehojaaGreatDoor
open Go Go.Sy Go.RowKit Go.ChangeShapes Go.WideShapes Go.ChangeAt
set_option linter.unusedVariables false
set_option linter.unusedSimpArgs false
set_option maxRecDepth 100000
set_option maxHeartbeats 4000000

theorem Tryz.own : ownKnob Tryz.prog.godebug = none := by kernel_rfl
theorem Tryz.laidOut : laidOutB Tryz.prog = true := by kernel_rfl

theorem listN2 {α : Type} {l : List α} (h : l.length = 2) : ∃ a0 a1, l = [a0, a1] := by
  match l, h with
  | [a0, a1], _ => exact ⟨a0, a1, rfl⟩
theorem listN3 {α : Type} {l : List α} (h : l.length = 3) : ∃ a0 a1 a2, l = [a0, a1, a2] := by
  match l, h with
  | [a0, a1, a2], _ => exact ⟨a0, a1, a2, rfl⟩
theorem listN4 {α : Type} {l : List α} (h : l.length = 4) : ∃ a0 a1 a2 a3, l = [a0, a1, a2, a3] := by
  match l, h with
  | [a0, a1, a2, a3], _ => exact ⟨a0, a1, a2, a3, rfl⟩
theorem listN7 {α : Type} {l : List α} (h : l.length = 7) : ∃ a0 a1 a2 a3 a4 a5 a6, l = [a0, a1, a2, a3, a4, a5, a6] := by
  match l, h with
  | [a0, a1, a2, a3, a4, a5, a6], _ => exact ⟨a0, a1, a2, a3, a4, a5, a6, rfl⟩
theorem listN15 {α : Type} {l : List α} (h : l.length = 15) : ∃ a0 a1 a2 a3 a4 a5 a6 a7 a8 a9 a10 a11 a12 a13 a14, l = [a0, a1, a2, a3, a4, a5, a6, a7, a8, a9, a10, a11, a12, a13, a14] := by
  match l, h with
  | [a0, a1, a2, a3, a4, a5, a6, a7, a8, a9, a10, a11, a12, a13, a14], _ => exact ⟨a0, a1, a2, a3, a4, a5, a6, a7, a8, a9, a10, a11, a12, a13, a14, rfl⟩
theorem listN19 {α : Type} {l : List α} (h : l.length = 19) : ∃ a0 a1 a2 a3 a4 a5 a6 a7 a8 a9 a10 a11 a12 a13 a14 a15 a16 a17 a18, l = [a0, a1, a2, a3, a4, a5, a6, a7, a8, a9, a10, a11, a12, a13, a14, a15, a16, a17, a18] := by
  match l, h with
  | [a0, a1, a2, a3, a4, a5, a6, a7, a8, a9, a10, a11, a12, a13, a14, a15, a16, a17, a18], _ => exact ⟨a0, a1, a2, a3, a4, a5, a6, a7, a8, a9, a10, a11, a12, a13, a14, a15, a16, a17, a18, rfl⟩
/-- Its numbers are numbers of their kinds, its lists no longer than memory. -/
def WfSt22 (x : St22) : Prop := (WfI .i32) x.Zero_ ∧ (WfI .i32) x.Dec_ ∧ (WfI .i32) x.Group_ ∧ (WfI .i32) x.Minus_ ∧ (WfI .i32) x.Plus_ ∧ (WfI .i32) x.Percent_ ∧ (WfI .i32) x.Exp_
theorem tells_T23 {n : Nat} : Tells Tryz.prog (n + 2) 23 encSt22 WfSt22 := fun d cs h hs => by
  have hl : cs.length = 7 := (shows_len Tryz.underlying23 h).trans (by kernel_rfl)
  obtain ⟨c0, c1, c2, c3, c4, c5, c6, rfl⟩ := listN7 hl
  obtain ⟨p0, h0, z0⟩ := shows_field Tryz.underlying23 h hs 0 21 [c0] (by kernel_rfl)
  obtain ⟨x0, e0, w0⟩ : ∃ x : Int, [c0] = (encI .i32) x ∧ (WfI .i32) x := (tells_int Tryz.underlying21) p0 _ h0 z0
  obtain ⟨p1, h1, z1⟩ := shows_field Tryz.underlying23 h hs 1 21 [c1] (by kernel_rfl)
  obtain ⟨x1, e1, w1⟩ : ∃ x : Int, [c1] = (encI .i32) x ∧ (WfI .i32) x := (tells_int Tryz.underlying21) p1 _ h1 z1
  obtain ⟨p2, h2, z2⟩ := shows_field Tryz.underlying23 h hs 2 21 [c2] (by kernel_rfl)
  obtain ⟨x2, e2, w2⟩ : ∃ x : Int, [c2] = (encI .i32) x ∧ (WfI .i32) x := (tells_int Tryz.underlying21) p2 _ h2 z2
  obtain ⟨p3, h3, z3⟩ := shows_field Tryz.underlying23 h hs 3 21 [c3] (by kernel_rfl)
  obtain ⟨x3, e3, w3⟩ : ∃ x : Int, [c3] = (encI .i32) x ∧ (WfI .i32) x := (tells_int Tryz.underlying21) p3 _ h3 z3
  obtain ⟨p4, h4, z4⟩ := shows_field Tryz.underlying23 h hs 4 21 [c4] (by kernel_rfl)
  obtain ⟨x4, e4, w4⟩ : ∃ x : Int, [c4] = (encI .i32) x ∧ (WfI .i32) x := (tells_int Tryz.underlying21) p4 _ h4 z4
  obtain ⟨p5, h5, z5⟩ := shows_field Tryz.underlying23 h hs 5 21 [c5] (by kernel_rfl)
  obtain ⟨x5, e5, w5⟩ : ∃ x : Int, [c5] = (encI .i32) x ∧ (WfI .i32) x := (tells_int Tryz.underlying21) p5 _ h5 z5
  obtain ⟨p6, h6, z6⟩ := shows_field Tryz.underlying23 h hs 6 21 [c6] (by kernel_rfl)
  obtain ⟨x6, e6, w6⟩ : ∃ x : Int, [c6] = (encI .i32) x ∧ (WfI .i32) x := (tells_int Tryz.underlying21) p6 _ h6 z6
  refine ⟨⟨x0, x1, x2, x3, x4, x5, x6⟩, ?_, ⟨w0, w1, w2, w3, w4, w5, w6⟩⟩
  show [c0] ++ [c1] ++ [c2] ++ [c3] ++ [c4] ++ [c5] ++ [c6] = ((encI .i32) x0 ++ (encI .i32) x1 ++ (encI .i32) x2 ++ (encI .i32) x3 ++ (encI .i32) x4 ++ (encI .i32) x5 ++ (encI .i32) x6)
  rw [e0, e1, e2, e3, e4, e5, e6]
/-- Its numbers are numbers of their kinds, its lists no longer than memory. -/
def WfSt42 (x : St42) : Prop := WfT x.a0_ ∧ WfT x.a1_ ∧ WfT x.a2_ ∧ WfT x.a3_
theorem tells_T42 {n : Nat} : Tells Tryz.prog (n + 2) 42 encSt42 WfSt42 := fun d cs h hs => by
  have hl : cs.length = 4 := (shows_alen Tryz.underlying42 h).trans (by kernel_rfl)
  obtain ⟨c0, c1, c2, c3, rfl⟩ := listN4 hl
  obtain ⟨p0, h0, z0⟩ := shows_elem Tryz.underlying42 h hs 0 [c0] (by kernel_rfl) (by kernel_rfl)
  obtain ⟨x0, e0, w0⟩ : ∃ x : List UInt8, [c0] = encT x ∧ WfT x := (tells_str Tryz.underlying9) p0 _ h0 z0
  obtain ⟨p1, h1, z1⟩ := shows_elem Tryz.underlying42 h hs 1 [c1] (by kernel_rfl) (by kernel_rfl)
  obtain ⟨x1, e1, w1⟩ : ∃ x : List UInt8, [c1] = encT x ∧ WfT x := (tells_str Tryz.underlying9) p1 _ h1 z1
  obtain ⟨p2, h2, z2⟩ := shows_elem Tryz.underlying42 h hs 2 [c2] (by kernel_rfl) (by kernel_rfl)
  obtain ⟨x2, e2, w2⟩ : ∃ x : List UInt8, [c2] = encT x ∧ WfT x := (tells_str Tryz.underlying9) p2 _ h2 z2
  obtain ⟨p3, h3, z3⟩ := shows_elem Tryz.underlying42 h hs 3 [c3] (by kernel_rfl) (by kernel_rfl)
  obtain ⟨x3, e3, w3⟩ : ∃ x : List UInt8, [c3] = encT x ∧ WfT x := (tells_str Tryz.underlying9) p3 _ h3 z3
  refine ⟨⟨x0, x1, x2, x3⟩, ?_, ⟨w0, w1, w2, w3⟩⟩
  show [c0] ++ [c1] ++ [c2] ++ [c3] = (encT x0 ++ encT x1 ++ encT x2 ++ encT x3)
  rw [e0, e1, e2, e3]
/-- Its numbers are numbers of their kinds, its lists no longer than memory. -/
def WfSt91 (x : St91) : Prop := (WfI .i64) x.Cat_ ∧ WfT x.Text_
theorem tells_T92 {n : Nat} : Tells Tryz.prog (n + 2) 92 encSt91 WfSt91 := fun d cs h hs => by
  have hl : cs.length = 2 := (shows_len Tryz.underlying92 h).trans (by kernel_rfl)
  obtain ⟨c0, c1, rfl⟩ := listN2 hl
  obtain ⟨p0, h0, z0⟩ := shows_field Tryz.underlying92 h hs 0 3 [c0] (by kernel_rfl)
  obtain ⟨x0, e0, w0⟩ : ∃ x : Int, [c0] = (encI .i64) x ∧ (WfI .i64) x := (tells_int Tryz.underlying3) p0 _ h0 z0
  obtain ⟨p1, h1, z1⟩ := shows_field Tryz.underlying92 h hs 1 9 [c1] (by kernel_rfl)
  obtain ⟨x1, e1, w1⟩ : ∃ x : List UInt8, [c1] = encT x ∧ WfT x := (tells_str Tryz.underlying9) p1 _ h1 z1
  refine ⟨⟨x0, x1⟩, ?_, ⟨w0, w1⟩⟩
  show [c0] ++ [c1] = ((encI .i64) x0 ++ encT x1)
  rw [e0, e1]
/-- Its numbers are numbers of their kinds, its lists no longer than memory. -/
def WfSt58 (x : St58) : Prop := WfT x.Code_ ∧ WfT x.Sign_ ∧ (WfI .i64) x.Digits_
theorem tells_T59 {n : Nat} : Tells Tryz.prog (n + 2) 59 encSt58 WfSt58 := fun d cs h hs => by
  have hl : cs.length = 3 := (shows_len Tryz.underlying59 h).trans (by kernel_rfl)
  obtain ⟨c0, c1, c2, rfl⟩ := listN3 hl
  obtain ⟨p0, h0, z0⟩ := shows_field Tryz.underlying59 h hs 0 9 [c0] (by kernel_rfl)
  obtain ⟨x0, e0, w0⟩ : ∃ x : List UInt8, [c0] = encT x ∧ WfT x := (tells_str Tryz.underlying9) p0 _ h0 z0
  obtain ⟨p1, h1, z1⟩ := shows_field Tryz.underlying59 h hs 1 9 [c1] (by kernel_rfl)
  obtain ⟨x1, e1, w1⟩ : ∃ x : List UInt8, [c1] = encT x ∧ WfT x := (tells_str Tryz.underlying9) p1 _ h1 z1
  obtain ⟨p2, h2, z2⟩ := shows_field Tryz.underlying59 h hs 2 3 [c2] (by kernel_rfl)
  obtain ⟨x2, e2, w2⟩ : ∃ x : Int, [c2] = (encI .i64) x ∧ (WfI .i64) x := (tells_int Tryz.underlying3) p2 _ h2 z2
  refine ⟨⟨x0, x1, x2⟩, ?_, ⟨w0, w1, w2⟩⟩
  show [c0] ++ [c1] ++ [c2] = (encT x0 ++ encT x1 ++ (encI .i64) x2)
  rw [e0, e1, e2]
/-- Its numbers are numbers of their kinds, its lists no longer than memory. -/
def WfSt25 (x : St25) : Prop := (WfI .i64) x.Mag_ ∧ (WfI .i64) x.Cat_ ∧ WfT x.Pat_
theorem tells_T26 {n : Nat} : Tells Tryz.prog (n + 2) 26 encSt25 WfSt25 := fun d cs h hs => by
  have hl : cs.length = 3 := (shows_len Tryz.underlying26 h).trans (by kernel_rfl)
  obtain ⟨c0, c1, c2, rfl⟩ := listN3 hl
  obtain ⟨p0, h0, z0⟩ := shows_field Tryz.underlying26 h hs 0 3 [c0] (by kernel_rfl)
  obtain ⟨x0, e0, w0⟩ : ∃ x : Int, [c0] = (encI .i64) x ∧ (WfI .i64) x := (tells_int Tryz.underlying3) p0 _ h0 z0
  obtain ⟨p1, h1, z1⟩ := shows_field Tryz.underlying26 h hs 1 3 [c1] (by kernel_rfl)
  obtain ⟨x1, e1, w1⟩ : ∃ x : Int, [c1] = (encI .i64) x ∧ (WfI .i64) x := (tells_int Tryz.underlying3) p1 _ h1 z1
  obtain ⟨p2, h2, z2⟩ := shows_field Tryz.underlying26 h hs 2 9 [c2] (by kernel_rfl)
  obtain ⟨x2, e2, w2⟩ : ∃ x : List UInt8, [c2] = encT x ∧ WfT x := (tells_str Tryz.underlying9) p2 _ h2 z2
  refine ⟨⟨x0, x1, x2⟩, ?_, ⟨w0, w1, w2⟩⟩
  show [c0] ++ [c1] ++ [c2] = ((encI .i64) x0 ++ (encI .i64) x1 ++ encT x2)
  rw [e0, e1, e2]
/-- Its numbers are numbers of their kinds, its lists no longer than memory. -/
def WfSt46 (x : St46) : Prop := WfT x.Tag_ ∧ WfSt22 x.S_ ∧ WfSt42 x.Pats_ ∧ (WfL WfSt91) x.Rules_ ∧ (WfL WfSt58) x.Curs_ ∧ (WfL WfSt25) x.Comps_
theorem tells_T47 {n : Nat} : Tells Tryz.prog (n + 4) 47 encSt46 WfSt46 := fun d cs h hs => by
  have hl : cs.length = 15 := (shows_len Tryz.underlying47 h).trans (by kernel_rfl)
  obtain ⟨c0, c1, c2, c3, c4, c5, c6, c7, c8, c9, c10, c11, c12, c13, c14, rfl⟩ := listN15 hl
  obtain ⟨p0, h0, z0⟩ := shows_field Tryz.underlying47 h hs 0 9 [c0] (by kernel_rfl)
  obtain ⟨x0, e0, w0⟩ : ∃ x : List UInt8, [c0] = encT x ∧ WfT x := (tells_str Tryz.underlying9) p0 _ h0 z0
  obtain ⟨p1, h1, z1⟩ := shows_field Tryz.underlying47 h hs 1 23 [c1, c2, c3, c4, c5, c6, c7] (by kernel_rfl)
  obtain ⟨x1, e1, w1⟩ : ∃ x : St22, [c1, c2, c3, c4, c5, c6, c7] = encSt22 x ∧ WfSt22 x := tells_T23 p1 _ h1 z1
  obtain ⟨p2, h2, z2⟩ := shows_field Tryz.underlying47 h hs 2 42 [c8, c9, c10, c11] (by kernel_rfl)
  obtain ⟨x2, e2, w2⟩ : ∃ x : St42, [c8, c9, c10, c11] = encSt42 x ∧ WfSt42 x := tells_T42 p2 _ h2 z2
  obtain ⟨p3, h3, z3⟩ := shows_field Tryz.underlying47 h hs 3 43 [c12] (by kernel_rfl)
  obtain ⟨x3, e3, w3⟩ : ∃ x : List St91, [c12] = (encL encSt91 2) x ∧ (WfL WfSt91) x := (tells_list (enc := encSt91) (Wf := WfSt91) Tryz.underlying43 (k := 2) (by kernel_rfl) (by kernel_rfl) tells_T92) p3 _ h3 z3
  obtain ⟨p4, h4, z4⟩ := shows_field Tryz.underlying47 h hs 4 44 [c13] (by kernel_rfl)
  obtain ⟨x4, e4, w4⟩ : ∃ x : List St58, [c13] = (encL encSt58 3) x ∧ (WfL WfSt58) x := (tells_list (enc := encSt58) (Wf := WfSt58) Tryz.underlying44 (k := 3) (by kernel_rfl) (by kernel_rfl) tells_T59) p4 _ h4 z4
  obtain ⟨p5, h5, z5⟩ := shows_field Tryz.underlying47 h hs 5 45 [c14] (by kernel_rfl)
  obtain ⟨x5, e5, w5⟩ : ∃ x : List St25, [c14] = (encL encSt25 3) x ∧ (WfL WfSt25) x := (tells_list (enc := encSt25) (Wf := WfSt25) Tryz.underlying45 (k := 3) (by kernel_rfl) (by kernel_rfl) tells_T26) p5 _ h5 z5
  refine ⟨⟨x0, x1, x2, x3, x4, x5⟩, ?_, ⟨w0, w1, w2, w3, w4, w5⟩⟩
  show [c0] ++ [c1, c2, c3, c4, c5, c6, c7] ++ [c8, c9, c10, c11] ++ [c12] ++ [c13] ++ [c14] = (encT x0 ++ encSt22 x1 ++ encSt42 x2 ++ (encL encSt91 2) x3 ++ (encL encSt58 3) x4 ++ (encL encSt25 3) x5)
  rw [e0, e1, e2, e3, e4, e5]
/-- Its numbers are numbers of their kinds, its lists no longer than memory. -/
def WfSt70 (x : St70) : Prop := WfSt46 x.L_ ∧ (WfI .i64) x.I_ ∧ (WfI .i64) x.K_ ∧ (WfI .u8) x.A_ ∧ (WfI .u8) x.B_
theorem tells_T71 {n : Nat} : Tells Tryz.prog (n + 5) 71 encSt70 WfSt70 := fun d cs h hs => by
  have hl : cs.length = 19 := (shows_len Tryz.underlying71 h).trans (by kernel_rfl)
  obtain ⟨c0, c1, c2, c3, c4, c5, c6, c7, c8, c9, c10, c11, c12, c13, c14, c15, c16, c17, c18, rfl⟩ := listN19 hl
  obtain ⟨p0, h0, z0⟩ := shows_field Tryz.underlying71 h hs 0 47 [c0, c1, c2, c3, c4, c5, c6, c7, c8, c9, c10, c11, c12, c13, c14] (by kernel_rfl)
  obtain ⟨x0, e0, w0⟩ : ∃ x : St46, [c0, c1, c2, c3, c4, c5, c6, c7, c8, c9, c10, c11, c12, c13, c14] = encSt46 x ∧ WfSt46 x := tells_T47 p0 _ h0 z0
  obtain ⟨p1, h1, z1⟩ := shows_field Tryz.underlying71 h hs 1 3 [c15] (by kernel_rfl)
  obtain ⟨x1, e1, w1⟩ : ∃ x : Int, [c15] = (encI .i64) x ∧ (WfI .i64) x := (tells_int Tryz.underlying3) p1 _ h1 z1
  obtain ⟨p2, h2, z2⟩ := shows_field Tryz.underlying71 h hs 2 3 [c16] (by kernel_rfl)
  obtain ⟨x2, e2, w2⟩ : ∃ x : Int, [c16] = (encI .i64) x ∧ (WfI .i64) x := (tells_int Tryz.underlying3) p2 _ h2 z2
  obtain ⟨p3, h3, z3⟩ := shows_field Tryz.underlying71 h hs 3 5 [c17] (by kernel_rfl)
  obtain ⟨x3, e3, w3⟩ : ∃ x : Int, [c17] = (encI .u8) x ∧ (WfI .u8) x := (tells_int Tryz.underlying5) p3 _ h3 z3
  obtain ⟨p4, h4, z4⟩ := shows_field Tryz.underlying71 h hs 4 5 [c18] (by kernel_rfl)
  obtain ⟨x4, e4, w4⟩ : ∃ x : Int, [c18] = (encI .u8) x ∧ (WfI .u8) x := (tells_int Tryz.underlying5) p4 _ h4 z4
  refine ⟨⟨x0, x1, x2, x3, x4⟩, ?_, ⟨w0, w1, w2, w3, w4⟩⟩
  show [c0, c1, c2, c3, c4, c5, c6, c7, c8, c9, c10, c11, c12, c13, c14] ++ [c15] ++ [c16] ++ [c17] ++ [c18] = (encSt46 x0 ++ (encI .i64) x1 ++ (encI .i64) x2 ++ (encI .u8) x3 ++ (encI .u8) x4)
  rw [e0, e1, e2, e3, e4]
def tot {T : Type} (f : T → Nat) (l : List T) : Nat := (l.map f).sum
theorem tot_snoc {T : Type} (f : T → Nat) (l : List T) (x : T) : tot f (l ++ [x]) = tot f l + f x := by simp [tot]
theorem tot_le {T : Type} {f : T → Nat} {B : Nat} : ∀ {l : List T}, (∀ x ∈ l, f x ≤ B) → tot f l ≤ l.length * B
  | [], _ => by simp [tot]
  | x :: l, h => by
    have h1 := h x (List.mem_cons_self ..)
    have h2 := tot_le (l := l) fun y hy => h y (List.mem_cons_of_mem _ hy)
    simp only [tot, List.map_cons, List.sum_cons, List.length_cons, Nat.succ_mul] at h2 ⊢
    omega
theorem tot_mem {T : Type} (f : T → Nat) : ∀ {l : List T} {x : T}, x ∈ l → f x ≤ tot f l
  | y :: l, x, h => by
    simp only [tot, List.map_cons, List.sum_cons]
    rcases List.mem_cons.1 h with rfl | h
    · omega
    · have := tot_mem f h; simp only [tot] at this; omega
theorem tot_pre {T : Type} (f : T → Nat) (a b : List T) : tot f (a ++ b) = tot f a + tot f b := by simp [tot]
def pS (x0 : St46) (s0 : Int × Int) : Option ((Int × Int) ⊕ Int) :=
  (bif (decide (s0.2 < 4)) then (bif (decide (s0.2 = 0)) then (some (.inl ((IntKind.wrap .i64 (s0.1 + (x0.Pats_.a0_.length : Int))), (IntKind.wrap .i64 (0 + 1))))) else (bif (decide (s0.2 = 1)) then (some (.inl ((IntKind.wrap .i64 (s0.1 + (x0.Pats_.a1_.length : Int))), (IntKind.wrap .i64 (1 + 1))))) else (bif (decide (s0.2 = 2)) then (some (.inl ((IntKind.wrap .i64 (s0.1 + (x0.Pats_.a2_.length : Int))), (IntKind.wrap .i64 (2 + 1))))) else (bif (decide (s0.2 = 3)) then (some (.inl ((IntKind.wrap .i64 (s0.1 + (x0.Pats_.a3_.length : Int))), (IntKind.wrap .i64 (3 + 1))))) else none)))) else (some (.inr s0.1)))
def rS (xs : List St91) (s2 : Int × Int) : Option ((Int × Int) ⊕ Int) :=
  (bif (decide (s2.2 < (xs.length : Int))) then (bif inR s2.2 xs.length then (some (.inl ((IntKind.wrap .i64 (s2.1 + ((((nth xs s2.2).Text_).length : Int)))), (IntKind.wrap .i64 (s2.2 + 1))))) else none) else (some (.inr s2.1)))
def cS (xs : List St58) (s1 : Int × Int) : Option ((Int × Int) ⊕ Int) :=
  (bif (decide (s1.2 < (xs.length : Int))) then (bif inR s1.2 xs.length then (bif inR s1.2 xs.length then (some (.inl ((IntKind.wrap .i64 (((IntKind.wrap .i64 (s1.1 + ((((nth xs s1.2).Code_).length : Int))))) + ((((nth xs s1.2).Sign_).length : Int)))), (IntKind.wrap .i64 (s1.2 + 1))))) else none) else none) else (some (.inr s1.1)))
def kS15 (xs : List St25) (s3 : Int × Int) : Option ((Int × Int) ⊕ Int) :=
  (bif (decide (s3.2 < (xs.length : Int))) then (bif inR s3.2 xs.length then (some (.inl ((IntKind.wrap .i64 (s3.1 + ((((nth xs s3.2).Pat_).length : Int)))), (IntKind.wrap .i64 (s3.2 + 1))))) else none) else (some (.inr s3.1)))
theorem small_is (x0 : St46) : exergueref15_Small x0 = (Option.bind (loopN (pS x0) big ((x0.Tag_.length : Int), 0)) fun (s4 : Int) => (Option.bind (Option.bind (bif (decide ((x0.Rules_.length : Int) > 8)) then (some true) else (bif (decide ((x0.Curs_.length : Int) > 105)) then (some true) else (some ((decide ((x0.Comps_.length : Int) > 95)))))) fun (s5 : Bool) => (bif s5 then (some (.inr false)) else (some (.inl ())))) (joinX fun (s9 : Unit) => (Option.bind (loopN (rS x0.Rules_) big (s4, 0)) fun (s6 : Int) => (Option.bind (loopN (cS x0.Curs_) big (s6, 0)) fun (s7 : Int) => (Option.bind (loopN (kS15 x0.Comps_) big (s7, 0)) fun (s8 : Int) => (some (decide (s8 ≤ 6000))))))))) := rfl
def patL (l : St46) : Nat := l.Tag_.length + l.Pats_.a0_.length + l.Pats_.a1_.length + l.Pats_.a2_.length + l.Pats_.a3_.length
theorem p_eq {l : St46} (w : WfSt46 l) : loopN (pS l) big ((l.Tag_.length : Int), 0) = some ((patL l : Nat) : Int) := by
  obtain ⟨w0, _, ⟨w1, w2, w3, w4⟩, _⟩ := w
  unfold WfT at w0 w1 w2 w3 w4
  have hb : big = 18446744073709551611 + 1 + 1 + 1 + 1 + 1 := rfl
  rw [hb]
  refine (loopN_next (s' := ((l.Tag_.length : Int) + l.Pats_.a0_.length, 1)) ?_).trans ?_
  · show some (Sum.inl (_, _)) = _
    rw [w64 (n := (l.Tag_.length : Int) + l.Pats_.a0_.length) (by omega) (by omega)]; rfl
  refine (loopN_next (s' := ((l.Tag_.length : Int) + l.Pats_.a0_.length + l.Pats_.a1_.length, 2)) ?_).trans ?_
  · show some (Sum.inl (_, _)) = _
    rw [w64 (n := (l.Tag_.length : Int) + l.Pats_.a0_.length + l.Pats_.a1_.length) (by omega) (by omega)]; rfl
  refine (loopN_next (s' := ((l.Tag_.length : Int) + l.Pats_.a0_.length + l.Pats_.a1_.length + l.Pats_.a2_.length, 3)) ?_).trans ?_
  · show some (Sum.inl (_, _)) = _
    rw [w64 (n := (l.Tag_.length : Int) + l.Pats_.a0_.length + l.Pats_.a1_.length + l.Pats_.a2_.length) (by omega) (by omega)]; rfl
  refine (loopN_next (s' := ((l.Tag_.length : Int) + l.Pats_.a0_.length + l.Pats_.a1_.length + l.Pats_.a2_.length + l.Pats_.a3_.length, 4)) ?_).trans ?_
  · show some (Sum.inl (_, _)) = _
    rw [w64 (n := (l.Tag_.length : Int) + l.Pats_.a0_.length + l.Pats_.a1_.length + l.Pats_.a2_.length + l.Pats_.a3_.length) (by omega) (by omega)]; rfl
  refine loopN_out ?_
  show some (Sum.inr _) = _
  unfold patL
  simp
theorem r_eq {xs : List St91} {a : Nat} (ha : a ≤ 9007199254740992) (hx : xs.length ≤ 8) (w : ∀ x ∈ xs, WfSt91 x) : loopN (rS xs) big ((a : Int), 0) = some ((a + tot (fun x => x.Text_.length) xs : Nat) : Int) := by
  refine loop_fold xs (fun pre => (((a + tot (fun x : St91 => x.Text_.length) pre : Nat) : Int), (pre.length : Int))) _ (by simp [tot]) (fun pre x suf h => ?_) ?_ (by omega)
  · have hb := tot_le (f := fun x : St91 => x.Text_.length) (l := pre) (B := 140737488355328) fun y hy => (w y (by rw [h]; simp [hy])).2
    have hxw : x.Text_.length ≤ 140737488355328 := (w x (by rw [h]; simp)).2
    have hl : pre.length ≤ 8 := by rw [h] at hx; simp at hx; omega
    simp only [rS]
    rw [h, lt_mid, inR_mid, nth_mid, tot_snoc, w_mid (by rw [← h]; omega)]
    simp only [cond_true]
    rw [w64 (by omega) (by omega)]
    simp only [Option.some.injEq, Sum.inl.injEq, Prod.mk.injEq, and_true]
    omega
  · simp only [rS]; rw [lt_end]; rfl
theorem k_eq {xs : List St25} {a : Nat} (ha : a ≤ 90071992547409920) (hx : xs.length ≤ 95) (w : ∀ x ∈ xs, WfSt25 x) : loopN (kS15 xs) big ((a : Int), 0) = some ((a + tot (fun x => x.Pat_.length) xs : Nat) : Int) := by
  refine loop_fold xs (fun pre => (((a + tot (fun x : St25 => x.Pat_.length) pre : Nat) : Int), (pre.length : Int))) _ (by simp [tot]) (fun pre x suf h => ?_) ?_ (by omega)
  · have hb := tot_le (f := fun x : St25 => x.Pat_.length) (l := pre) (B := 140737488355328) fun y hy => (w y (by rw [h]; simp [hy])).2.2
    have hxw : x.Pat_.length ≤ 140737488355328 := (w x (by rw [h]; simp)).2.2
    have hl : pre.length ≤ 95 := by rw [h] at hx; simp at hx; omega
    simp only [kS15]
    rw [h, lt_mid, inR_mid, nth_mid, tot_snoc, w_mid (by rw [← h]; omega)]
    simp only [cond_true]
    rw [w64 (by omega) (by omega)]
    simp only [Option.some.injEq, Sum.inl.injEq, Prod.mk.injEq, and_true]
    omega
  · simp only [kS15]; rw [lt_end]; rfl
theorem c_eq {xs : List St58} {a : Nat} (ha : a ≤ 18014398509481984) (hx : xs.length ≤ 105) (w : ∀ x ∈ xs, WfSt58 x) : loopN (cS xs) big ((a : Int), 0) = some ((a + tot (fun x => x.Code_.length + x.Sign_.length) xs : Nat) : Int) := by
  refine loop_fold xs (fun pre => (((a + tot (fun x : St58 => x.Code_.length + x.Sign_.length) pre : Nat) : Int), (pre.length : Int))) _ (by simp [tot]) (fun pre x suf h => ?_) ?_ (by omega)
  · have hb := tot_le (f := fun x : St58 => x.Code_.length + x.Sign_.length) (l := pre) (B := 281474976710656) fun y hy => by
      have h1 : y.Code_.length ≤ 140737488355328 := (w y (by rw [h]; simp [hy])).1
      have h2 : y.Sign_.length ≤ 140737488355328 := (w y (by rw [h]; simp [hy])).2.1
      omega
    have h1 : x.Code_.length ≤ 140737488355328 := (w x (by rw [h]; simp)).1
    have h2 : x.Sign_.length ≤ 140737488355328 := (w x (by rw [h]; simp)).2.1
    have hl : pre.length ≤ 105 := by rw [h] at hx; simp at hx; omega
    simp only [cS]
    rw [h, lt_mid, inR_mid, nth_mid, tot_snoc, w_mid (by rw [← h]; omega)]
    simp only [cond_true]
    rw [w64 (n := ((a + tot (fun x : St58 => x.Code_.length + x.Sign_.length) pre : Nat) : Int) + (x.Code_.length : Int)) (by omega) (by omega), w64 (by omega) (by omega)]
    simp only [Option.some.injEq, Sum.inl.injEq, Prod.mk.injEq, and_true]
    omega
  · simp only [cS]; rw [lt_end]; rfl
theorem small_eq {l : St46} (w : WfSt46 l) : ∃ b, exergueref15_Small l = some b ∧ (b = true → l.Rules_.length ≤ 8 ∧ l.Curs_.length ≤ 105 ∧ l.Comps_.length ≤ 95 ∧
    patL l + tot (fun x => x.Text_.length) l.Rules_ + tot (fun x => x.Code_.length + x.Sign_.length) l.Curs_ + tot (fun x => x.Pat_.length) l.Comps_ ≤ 6000) := by
  rw [small_is, p_eq w, Option.bind_some]
  obtain ⟨w0, _, ⟨w1, w2, w3, w4⟩, wr, wc, wk⟩ := w
  unfold WfT at w0 w1 w2 w3 w4
  by_cases h1 : l.Rules_.length ≤ 8
  · rw [dF (show ¬ (l.Rules_.length : Int) > 8 by omega)]
    by_cases h2 : l.Curs_.length ≤ 105
    · rw [dF (show ¬ (l.Curs_.length : Int) > 105 by omega)]
      by_cases h3 : l.Comps_.length ≤ 95
      · rw [dF (show ¬ (l.Comps_.length : Int) > 95 by omega)]
        simp only [cond_false, Option.bind_some, joinX]
        have hp : patL l ≤ 703687441776640 := by unfold patL; omega
        have b1 := tot_le (f := fun x : St91 => x.Text_.length) (l := l.Rules_) (B := 140737488355328) fun y hy => (wr.2 y hy).2
        have b2 := tot_le (f := fun x : St58 => x.Code_.length + x.Sign_.length) (l := l.Curs_) (B := 281474976710656) fun y hy => by
          have q1 : y.Code_.length ≤ 140737488355328 := (wc.2 y hy).1
          have q2 : y.Sign_.length ≤ 140737488355328 := (wc.2 y hy).2.1
          omega
        rw [r_eq (by omega) h1 wr.2, Option.bind_some, c_eq (by omega) h2 wc.2, Option.bind_some, k_eq (by omega) h3 wk.2, Option.bind_some]
        refine ⟨_, rfl, fun h => ⟨h1, h2, h3, ?_⟩⟩
        have := of_decide_eq_true h
        omega
      · rw [dT (show (l.Comps_.length : Int) > 95 by omega)]
        exact ⟨false, rfl, fun h => by cases h⟩
    · rw [dT (show (l.Curs_.length : Int) > 105 by omega)]
      exact ⟨false, rfl, fun h => by cases h⟩
  · rw [dT (show (l.Rules_.length : Int) > 8 by omega)]
    exact ⟨false, rfl, fun h => by cases h⟩
theorem shown_true : exerguelaw15_shown = some true := by kernel_rfl
theorem locP_of {l : St46} (h2 : l.Rules_.length ≤ 8 ∧ l.Curs_.length ≤ 105 ∧ l.Comps_.length ≤ 95 ∧
    patL l + tot (fun x => x.Text_.length) l.Rules_ + tot (fun x => x.Code_.length + x.Sign_.length) l.Curs_ + tot (fun x => x.Pat_.length) l.Comps_ ≤ 6000) : locP l := by
  obtain ⟨h1, h2, h3, h4⟩ := h2
  unfold patL at h4
  refine ⟨⟨by omega, by omega, by omega, by omega⟩, by omega, ⟨by omega, fun c hc => ?_⟩, by omega, fun c hc => ?_⟩
  · have := tot_mem (fun x : St58 => x.Code_.length + x.Sign_.length) hc
    omega
  · have := tot_mem (fun x : St25 => x.Pat_.length) hc
    omega
theorem around_sg {S : St22} {p : St32} {A : St124} (h : loc_around S p [] = some A) {g : Int} (hg : g = 0 ∨ g = 1) : affix_Of p S g [] = some (sg A g) := by
  unfold loc_around at h
  obtain ⟨a0, h0, h⟩ := bindS h
  obtain ⟨a1, h1, h⟩ := bindS h
  obtain ⟨a2, h2, h⟩ := bindS h
  obtain rfl := oi h
  rcases hg with rfl | rfl
  · exact h0
  · exact h1
theorem half (a : Int) (w : WfI .u8 a) : IntKind.wrap .i64 (Int.tmod a 2) = 0 ∨ IntKind.wrap .i64 (Int.tmod a 2) = 1 := by
  obtain ⟨h0, h1⟩ := wf_u8 w
  rw [Int.tmod_eq_emod_of_nonneg h0, w64 (by omega) (by omega)]
  omega
theorem Conf_true (x : St70) (w : WfSt70 x) : exerguelaw15_LocConfused x = some true := by
  obtain ⟨b, hb, hs⟩ := small_eq w.1
  unfold exerguelaw15_LocConfused
  rw [shown_true, Option.bind_some, hb, Option.bind_some]
  cases b with
  | false => rfl
  | true =>
    have hs := hs rfl
    simp only [Bool.not_true, cond_false]
    by_cases i0 : x.I_ < 0
    · rw [dT i0]; rfl
    by_cases i1 : x.I_ ≥ (x.L_.Comps_.length : Int)
    · rw [dF i0, dT i1]; rfl
    by_cases k0 : x.K_ < 0
    · rw [dF i0, dF i1, dT k0]; rfl
    by_cases k1 : x.K_ ≥ (x.L_.Comps_.length : Int)
    · rw [dF i0, dF i1, dF k0, dT k1]; rfl
    have hP := locP_of hs
    have hn : x.L_.Comps_.length ≤ 1000 := by have := hs.2.2.1; omega
    obtain ⟨r, hr⟩ := check_t hP
    rw [dF i0, dF i1, dF k0, dF k1]
    simp only [cond_false, Option.bind_some, joinX]
    rw [hr, Option.bind_some]
    by_cases h0 : r.2.2 = 0
    · have hc := hr
      rw [check_is, big8] at hc
      obtain ⟨_, _, _, _, _, ⟨w5, q5⟩, ⟨w6, q6⟩⟩ := (chk_ok _ _ _ _ _ _ _ _).1 ⟨r, hc, h0⟩
      obtain ⟨p, ep⟩ := comps_all (x := ⟨x.L_⟩) hn q5 x.I_ (by omega) (show x.I_ < (x.L_.Comps_.length : Int) by omega)
      obtain ⟨q, eq⟩ := comps_all (x := ⟨x.L_⟩) hn q5 x.K_ (by omega) (show x.K_ < (x.L_.Comps_.length : Int) by omega)
      obtain ⟨ls, _, _, hall⟩ := conf_all (x := ⟨x.L_⟩) hn q6
      obtain ⟨p', A, v, b1, b2, b3, b4, b5⟩ := hall x.I_ (by omega) (show x.I_ < (x.L_.Comps_.length : Int) by omega)
      obtain ⟨q', B, u, c1, c2, c3, c4, c5⟩ := hall x.K_ (by omega) (show x.K_ < (x.L_.Comps_.length : Int) by omega)
      obtain rfl := oi (ep.symm.trans b1)
      obtain rfl := oi (eq.symm.trans c1)
      simp only at ep eq b2 b3 c2 c3
      have aP : ∀ {y : St25} {f : St32} {D : St124}, y ∈ x.L_.Comps_ → loc_Short x.L_.S_ y = some (f, true) → loc_around x.L_.S_ f [] = some D → aroP D := fun hy e1 e2 => by
        obtain ⟨z, z1, z2⟩ := short_t (s := x.L_.S_) (hP.2.2.2.2 _ hy)
        obtain rfl := oi (e1.symm.trans z1)
        obtain ⟨z', z3, z4⟩ := around_t (s := x.L_.S_) (cur := []) z2 (by simp)
        obtain rfl := oi (e2.symm.trans z3)
        exact z4
      have hA := aP (nth_mem (by omega) (by omega)) ep b2
      have hB := aP (nth_mem (by omega) (by omega)) eq c2
      have hi : inR x.I_ x.L_.Comps_.length = true := inR_int (by omega) (by omega)
      have hk : inR x.K_ x.L_.Comps_.length = true := inR_int (by omega) (by omega)
      have ga := half x.A_ w.2.2.2.1
      have gb := half x.B_ w.2.2.2.2
      rw [dF (not_not_intro h0), hi, hk, ep, eq]
      simp only [cond_true, cond_false, Option.bind_some, Bool.not_true, joinX]
      rw [b3, c3]
      simp only [Option.bind_some]
      revert ga gb
      generalize IntKind.wrap .i64 (Int.tmod x.A_ 2) = g
      generalize IntKind.wrap .i64 (Int.tmod x.B_ 2) = f
      intro ga gb
      rw [of_imp ga (around_sg b2 ga), of_imp gb (around_sg c2 gb)]
      simp only [Option.bind_some]
      have sA : affP (sg A g) := by unfold sg; split <;> first | exact hA.1 | exact hA.2.1
      rw [rsame_eq sA]
      simp only [Option.bind_some]
      have main : (v ≠ u ∨ g ≠ f) → sg A g ≠ sg B f := fun ho => by
        by_cases hle : x.K_ ≤ x.I_
        · have := b5 (x.K_ + 1) (by omega) (by omega)
          simp only at b4 c4
          rw [b4, c4] at this
          exact (alike_no (a := ⟨B, u⟩) (c := ⟨A, v⟩) hB this gb ga (ho.imp Ne.symm Ne.symm)).symm
        · have := c5 (x.I_ + 1) (by omega) (by omega)
          simp only at b4 c4
          rw [b4, c4] at this
          exact alike_no (a := ⟨A, v⟩) (c := ⟨B, u⟩) hA this ga gb ho
      by_cases h1 : v = u
      · rw [dF (not_not_intro h1)]
        by_cases h2 : g = f
        · rw [dF (not_not_intro h2)]; rfl
        · rw [dT h2, dF (main (.inr h2))]; rfl
      · rw [dT h1, dF (main (.inl h1))]; rfl
    · rw [dT h0]; rfl

def laidD {H : Type} : List (String × DataW H) := [("math/bits.deBruijn32tab", Rows.laid_math_bits_deBruijn32tab), ("math/bits.deBruijn64tab", Rows.laid_math_bits_deBruijn64tab), ("internal/strconv.uint64pow10", Rows.laid_internal_strconv_uint64pow10), ("exergue/class.noughts", Rows.laid_exergue_class_noughts)]
theorem door_met (os : Os) (args : Array Value) : laidMetH Tryz.prog laidD ((World.doorLaid Tryz.prog 4000 os).forCall (fun _ _ => 0) ⟨#[], args, []⟩).memory :=
  laidMetH_of_parts3 (fuel := 8) (laidMet_of_run' 8 (by kernel_rfl) (by kernel_rfl)) (by kernel_rfl) (by kernel_rfl)

/-- Package variables hold what they are said to. -/
theorem globs_ok {W : World} (hL : laidMetH Tryz.prog laidD W) : GlobOk W (KW W) fun _ => none := fun g cs h => by
  have hh : (laidD (H := Unit)).all (fun x => x.2.handleName?.isNone) = true := by kernel_rfl
  by_cases h0 : g = 0
  · subst h0
    obtain rfl := Option.some.inj (show some [.int .i32 48, .int .i32 1632, .int .i32 1776, .int .i32 1984, .int .i32 2406, .int .i32 2534, .int .i32 2662, .int .i32 2790, .int .i32 2918, .int .i32 3046, .int .i32 3174, .int .i32 3302, .int .i32 3430, .int .i32 3664, .int .i32 3792, .int .i32 3872, .int .i32 6112, .int .i32 6160, .int .i32 65296, .int .i32 120782] = some cs from h)
    exact glob_ints hh hL (nm := "exergue/class.noughts") (t := 172) (e := 21) (n := 20) (k := .i32) [48, 1632, 1776, 1984, 2406, 2534, 2662, 2790, 2918, 3046, 3174, 3302, 3430, 3664, 3792, 3872, 6112, 6160, 65296, 120782] (by unfold laidD; simp only [List.mem_cons, List.not_mem_nil, or_false]; first | exact Or.inl rfl | exact Or.inr (Or.inl rfl) | exact Or.inr (Or.inr (Or.inl rfl)) | exact Or.inr rfl | exact Or.inr (Or.inr rfl) | exact Or.inr (Or.inr (Or.inr rfl)) | rfl) (by kernel_rfl) (by kernel_rfl) Tryz.underlying172 Tryz.underlying21 (by kernel_rfl) (by kernel_rfl)
  by_cases h2 : g = 2
  · subst h2
    obtain rfl := Option.some.inj (show some [.int .u64 1, .int .u64 10, .int .u64 100, .int .u64 1000, .int .u64 10000, .int .u64 100000, .int .u64 1000000, .int .u64 10000000, .int .u64 100000000, .int .u64 1000000000, .int .u64 10000000000, .int .u64 100000000000, .int .u64 1000000000000, .int .u64 10000000000000, .int .u64 100000000000000, .int .u64 1000000000000000, .int .u64 10000000000000000, .int .u64 100000000000000000, .int .u64 1000000000000000000, .int .u64 10000000000000000000] = some cs from h)
    exact glob_ints hh hL (nm := "internal/strconv.uint64pow10") (t := 250) (e := 241) (n := 20) (k := .u64) [1, 10, 100, 1000, 10000, 100000, 1000000, 10000000, 100000000, 1000000000, 10000000000, 100000000000, 1000000000000, 10000000000000, 100000000000000, 1000000000000000, 10000000000000000, 100000000000000000, 1000000000000000000, 10000000000000000000] (by unfold laidD; simp only [List.mem_cons, List.not_mem_nil, or_false]; first | exact Or.inl rfl | exact Or.inr (Or.inl rfl) | exact Or.inr (Or.inr (Or.inl rfl)) | exact Or.inr rfl | exact Or.inr (Or.inr rfl) | exact Or.inr (Or.inr (Or.inr rfl)) | rfl) (by kernel_rfl) (by kernel_rfl) Tryz.underlying250 Tryz.underlying241 (by kernel_rfl) (by kernel_rfl)
  by_cases h3 : g = 3
  · subst h3
    obtain rfl := Option.some.inj (show some [.int .u8 0, .int .u8 1, .int .u8 28, .int .u8 2, .int .u8 29, .int .u8 14, .int .u8 24, .int .u8 3, .int .u8 30, .int .u8 22, .int .u8 20, .int .u8 15, .int .u8 25, .int .u8 17, .int .u8 4, .int .u8 8, .int .u8 31, .int .u8 27, .int .u8 13, .int .u8 23, .int .u8 21, .int .u8 19, .int .u8 16, .int .u8 7, .int .u8 26, .int .u8 12, .int .u8 18, .int .u8 6, .int .u8 11, .int .u8 5, .int .u8 10, .int .u8 9] = some cs from h)
    exact glob_ints hh hL (nm := "math/bits.deBruijn32tab") (t := 257) (e := 5) (n := 32) (k := .u8) [0, 1, 28, 2, 29, 14, 24, 3, 30, 22, 20, 15, 25, 17, 4, 8, 31, 27, 13, 23, 21, 19, 16, 7, 26, 12, 18, 6, 11, 5, 10, 9] (by unfold laidD; simp only [List.mem_cons, List.not_mem_nil, or_false]; first | exact Or.inl rfl | exact Or.inr (Or.inl rfl) | exact Or.inr (Or.inr (Or.inl rfl)) | exact Or.inr rfl | exact Or.inr (Or.inr rfl) | exact Or.inr (Or.inr (Or.inr rfl)) | rfl) (by kernel_rfl) (by kernel_rfl) Tryz.underlying257 Tryz.underlying5 (by kernel_rfl) (by kernel_rfl)
  by_cases h4 : g = 4
  · subst h4
    obtain rfl := Option.some.inj (show some [.int .u8 0, .int .u8 1, .int .u8 56, .int .u8 2, .int .u8 57, .int .u8 49, .int .u8 28, .int .u8 3, .int .u8 61, .int .u8 58, .int .u8 42, .int .u8 50, .int .u8 38, .int .u8 29, .int .u8 17, .int .u8 4, .int .u8 62, .int .u8 47, .int .u8 59, .int .u8 36, .int .u8 45, .int .u8 43, .int .u8 51, .int .u8 22, .int .u8 53, .int .u8 39, .int .u8 33, .int .u8 30, .int .u8 24, .int .u8 18, .int .u8 12, .int .u8 5, .int .u8 63, .int .u8 55, .int .u8 48, .int .u8 27, .int .u8 60, .int .u8 41, .int .u8 37, .int .u8 16, .int .u8 46, .int .u8 35, .int .u8 44, .int .u8 21, .int .u8 52, .int .u8 32, .int .u8 23, .int .u8 11, .int .u8 54, .int .u8 26, .int .u8 40, .int .u8 15, .int .u8 34, .int .u8 20, .int .u8 31, .int .u8 10, .int .u8 25, .int .u8 14, .int .u8 19, .int .u8 9, .int .u8 13, .int .u8 8, .int .u8 7, .int .u8 6] = some cs from h)
    exact glob_ints hh hL (nm := "math/bits.deBruijn64tab") (t := 258) (e := 5) (n := 64) (k := .u8) [0, 1, 56, 2, 57, 49, 28, 3, 61, 58, 42, 50, 38, 29, 17, 4, 62, 47, 59, 36, 45, 43, 51, 22, 53, 39, 33, 30, 24, 18, 12, 5, 63, 55, 48, 27, 60, 41, 37, 16, 46, 35, 44, 21, 52, 32, 23, 11, 54, 26, 40, 15, 34, 20, 31, 10, 25, 14, 19, 9, 13, 8, 7, 6] (by unfold laidD; simp only [List.mem_cons, List.not_mem_nil, or_false]; first | exact Or.inl rfl | exact Or.inr (Or.inl rfl) | exact Or.inr (Or.inr (Or.inl rfl)) | exact Or.inr rfl | exact Or.inr (Or.inr rfl) | exact Or.inr (Or.inr (Or.inr rfl)) | rfl) (by kernel_rfl) (by kernel_rfl) Tryz.underlying258 Tryz.underlying5 (by kernel_rfl) (by kernel_rfl)
  exfalso
  have : gtabs g = none := by
    unfold gtabs
    split <;> first | rfl | (exfalso; simp_all)
  rw [show gtab g = gtabs g from rfl, this] at h
  cases h

set_option maxRecDepth 100000 in
theorem LocConfused_lifted (os : Os) (started : os.Started) (H : Type) (enc : TypeId × Value → H) :
    ReturnsInHanded {} Tryz.checked os 8 .any (fun w args => (Rows.locConfusedSpec.pre enc Tryz.prog Tryz.f8 [] false w args ∧ laidMetH Tryz.prog laidD w) ∧ sizedMet enc Tryz.prog Tryz.f8 (OpenSpec.ofChange Rows.locConfusedSpec) false w args) (Rows.locConfusedSpec.post enc Tryz.prog Tryz.f8 false true false false) := by
  refine returnsInHanded_of_change_and (C := Tryz.checked) (X := fun w _ => laidMetH Tryz.prog laidD w) (fun _ _ _ hh h => h.of_heap hh) Tryz.own started (by kernel_rfl) Tryz.func8
    (ChangeSpec.witness_shaped (enc := enc) (C := Tryz.checked) (os := os) (X := fun w _ => laidMetH Tryz.prog laidD w) false (World.doorLaid Tryz.prog 4000 os) #[.agg #[.string ⟨#[]⟩, .int .i32 0, .int .i32 0, .int .i32 0, .int .i32 0, .int .i32 0, .int .i32 0, .int .i32 0, .string ⟨#[]⟩, .string ⟨#[]⟩, .string ⟨#[]⟩, .string ⟨#[]⟩, .slice none 0 0, .slice none 0 0, .slice none 0 0, .int .i64 0, .int .i64 0, .int .u8 0, .int .u8 0]] 8 rfl (World.shaped_of_RefB (by kernel_rfl) (by kernel_rfl)) (by kernel_rfl) (by kernel_rfl) (by kernel_rfl) (door_met os _)) ?_
  intro W base args ds gs before hval0 hW _ hsz0 hL _
  have hsz : (DataW.weightsEach Tryz.prog (Tryz.f8.params.toList ++ Rows.locConfusedSpec.plain.varTypes Tryz.prog) (ds ++ gs)).all (· ≤ reachBytes) = true := hsz0
  clear hsz0
  refine law_post (P := Tryz.prog) (n := 5) (tb := 4) Tryz.laidOut Tryz.underlying4 rfl rfl (by kernel_rfl) (fun h => ?_) hval0 hW ?_ (globs_ok hL)
  · rw [Tryz.params8] at h
    obtain ⟨d0, rfl⟩ := l1 h
    exact ⟨rfl, rfl, rfl⟩
  · intro ss hg hl1 hl2 hs
    subst hg
    rw [Tryz.params8] at hl1 hl2 hs hsz
    obtain ⟨d0, rfl⟩ := l1 hl1
    obtain ⟨s0, rfl⟩ := l1 hl2
    obtain ⟨cs0, rfl, hc0⟩ := showsV_struct Tryz.underlying71 (hs 0 71 _ _ rfl rfl rfl)
    obtain ⟨a0, rfl, w0⟩ := tells_T71 (n := 0) _ _ hc0 (sized_param hsz (j := 0) rfl rfl)
    exact ⟨[], exerguelaw15_LocConfused_ok (Conf_true a0 w0)⟩
theorem LocConfused_row : Rows.LocConfusedSaid :=
  OpenClaim.holds_of_wide 8 Tryz.f8 rfl rfl rfl rfl rfl rfl rfl ⟨rfl, rfl, rfl, rfl, rfl⟩ rfl rfl rfl rfl rfl (by kernel_rfl) Tryz.func8 (by kernel_rfl)
    (of_decide_eq_true (by kernel_rfl)) (by unfold Func.isWrapper; first | (rw [if_pos (by decide +kernel)]; kernel_rfl) | (rw [if_neg (by decide +kernel)]; exact ⟨rfl, rfl⟩))
    (fun os started H enc _ => LocConfused_lifted os started H enc)

theorem LocConfused_holds : Rows.LocConfusedCardSaid :=
  Claim7.holds_tied_plain_at .later [] [.data, .data, .data, .data] true (true, "de599d8f743361fb38ba7e693bad57f7b00ee969443c7958de219e14c746c2b3") false
    LocConfused_row (fun _ h => by cases h) (by kernel_rfl) (fun _ h => by cases h) locConfused_row_tie rfl ⟨rfl, rfl⟩ (by kernel_rfl) rfl
    (fun f fn hf hfn => by
      obtain rfl : f = 8 := Option.some.inj ((show Tryz.prog.funcNamed "exergue/exerguelaw15.LocConfused" = some 8 by kernel_rfl).symm.trans hf) |>.symm
      obtain rfl : fn = Tryz.f8 := (Option.some.inj (Tryz.func8.symm.trans hfn)).symm
      exact ⟨by kernel_rfl, fun j t ht => by
        rw [Tryz.params8] at ht
        have hm : t ∈ [71] := by simpa using Array.mem_of_getElem? ht
        have hall : ([71].all fun u => !Tryz.prog.wantsStandIn u) = true := by kernel_rfl
        exact (show Tryz.prog.wantsStandIn t = false by simpa using List.all_eq_true.1 hall t hm)⟩)
    (by kernel_rfl)

end Go.Proofs.YtcapcgbamehojaaGreatDoor
