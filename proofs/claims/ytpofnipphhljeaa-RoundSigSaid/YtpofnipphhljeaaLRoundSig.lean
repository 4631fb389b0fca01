/-
  The statement RoundSig is proved: at every input the law answers true, and its input reads as it did. No conditions.
-/
import Derived.Test.YtpofnipphhljeaaP
import Derived.Test.YtpofnipphhljeaaRows
import Derived.ProofKit
import Derived.SizedLaws
namespace Go.Proofs.Ytpofnipphhljeaa
open Go Go.Sy Go.RowKit Go.ChangeShapes Go.WideShapes Go.ChangeAt
set_option linter.unusedVariables false
set_option linter.unusedSimpArgs false
set_option maxRecDepth 100000

theorem Try.own : ownKnob Try.prog.godebug = none := by kernel_rfl
theorem Try.laidOut : laidOutB Try.prog = true := by kernel_rfl

theorem listN3 {α : Type} {l : List α} (h : l.length = 3) : ∃ a0 a1 a2, l = [a0, a1, a2] := by
  match l, h with
  | [a0, a1, a2], _ => exact ⟨a0, a1, a2, rfl⟩
theorem listN6 {α : Type} {l : List α} (h : l.length = 6) : ∃ a0 a1 a2 a3 a4 a5, l = [a0, a1, a2, a3, a4, a5] := by
  match l, h with
  | [a0, a1, a2, a3, a4, a5], _ => exact ⟨a0, a1, a2, a3, a4, a5, rfl⟩
theorem listN7 {α : Type} {l : List α} (h : l.length = 7) : ∃ a0 a1 a2 a3 a4 a5 a6, l = [a0, a1, a2, a3, a4, a5, a6] := by
  match l, h with
  | [a0, a1, a2, a3, a4, a5, a6], _ => exact ⟨a0, a1, a2, a3, a4, a5, a6, rfl⟩
theorem listN9 {α : Type} {l : List α} (h : l.length = 9) : ∃ a0 a1 a2 a3 a4 a5 a6 a7 a8, l = [a0, a1, a2, a3, a4, a5, a6, a7, a8] := by
  match l, h with
  | [a0, a1, a2, a3, a4, a5, a6, a7, a8], _ => exact ⟨a0, a1, a2, a3, a4, a5, a6, a7, a8, rfl⟩
/-- Its numbers are numbers of their kinds, its lists no longer than memory. -/
def WfSt23 (x : St23) : Prop := WfB x.Neg_ ∧ (WfL (WfI .u8)) x.D_ ∧ (WfI .i64) x.E_
theorem tells_T24 {n : Nat} : Tells Try.prog (n + 3) 24 encSt23 WfSt23 := fun d cs h hs => by
  have hl : cs.length = 3 := (shows_len Try.underlying24 h).trans (by kernel_rfl)
  obtain ⟨c0, c1, c2, rfl⟩ := listN3 hl
  obtain ⟨p0, h0, z0⟩ := shows_field Try.underlying24 h hs 0 4 [c0] (by kernel_rfl)
  obtain ⟨x0, e0, w0⟩ : ∃ x : Bool, [c0] = encB x ∧ WfB x := (tells_bool Try.underlying4) p0 _ h0 z0
  obtain ⟨p1, h1, z1⟩ := shows_field Try.underlying24 h hs 1 22 [c1] (by kernel_rfl)
  obtain ⟨x1, e1, w1⟩ : ∃ x : List Int, [c1] = (encL (encI .u8) 1) x ∧ (WfL (WfI .u8)) x := (tells_list (enc := (encI .u8)) (Wf := (WfI .u8)) Try.underlying22 (k := 1) (by kernel_rfl) (by kernel_rfl) (tells_int Try.underlying5)) p1 _ h1 z1
  obtain ⟨p2, h2, z2⟩ := shows_field Try.underlying24 h hs 2 3 [c2] (by kernel_rfl)
  obtain ⟨x2, e2, w2⟩ : ∃ x : Int, [c2] = (encI .i64) x ∧ (WfI .i64) x := (tells_int Try.underlying3) p2 _ h2 z2
  refine ⟨⟨x0, x1, x2⟩, ?_, ⟨w0, w1, w2⟩⟩
  show [c0] ++ [c1] ++ [c2] = (encB x0 ++ (encL (encI .u8) 1) x1 ++ (encI .i64) x2)
  rw [e0, e1, e2]
/-- Its numbers are numbers of their kinds, its lists no longer than memory. -/
def WfSt25 (x : St25) : Prop := WfSt23 x.D_ ∧ (WfI .i64) x.K_ ∧ (WfI .i64) x.Place_ ∧ (WfI .i64) x.Mode_ ∧ (WfI .i64) x.Other_
theorem tells_T26 {n : Nat} : Tells Try.prog (n + 4) 26 encSt25 WfSt25 := fun d cs h hs => by
  have hl : cs.length = 7 := (shows_len Try.underlying26 h).trans (by kernel_rfl)
  obtain ⟨c0, c1, c2, c3, c4, c5, c6, rfl⟩ := listN7 hl
  obtain ⟨p0, h0, z0⟩ := shows_field Try.underlying26 h hs 0 24 [c0, c1, c2] (by kernel_rfl)
  obtain ⟨x0, e0, w0⟩ : ∃ x : St23, [c0, c1, c2] = encSt23 x ∧ WfSt23 x := tells_T24 p0 _ h0 z0
  obtain ⟨p1, h1, z1⟩ := shows_field Try.underlying26 h hs 1 3 [c3] (by kernel_rfl)
  obtain ⟨x1, e1, w1⟩ : ∃ x : Int, [c3] = (encI .i64) x ∧ (WfI .i64) x := (tells_int Try.underlying3) p1 _ h1 z1
  obtain ⟨p2, h2, z2⟩ := shows_field Try.underlying26 h hs 2 3 [c4] (by kernel_rfl)
  obtain ⟨x2, e2, w2⟩ : ∃ x : Int, [c4] = (encI .i64) x ∧ (WfI .i64) x := (tells_int Try.underlying3) p2 _ h2 z2
  obtain ⟨p3, h3, z3⟩ := shows_field Try.underlying26 h hs 3 3 [c5] (by kernel_rfl)
  obtain ⟨x3, e3, w3⟩ : ∃ x : Int, [c5] = (encI .i64) x ∧ (WfI .i64) x := (tells_int Try.underlying3) p3 _ h3 z3
  obtain ⟨p4, h4, z4⟩ := shows_field Try.underlying26 h hs 4 3 [c6] (by kernel_rfl)
  obtain ⟨x4, e4, w4⟩ : ∃ x : Int, [c6] = (encI .i64) x ∧ (WfI .i64) x := (tells_int Try.underlying3) p4 _ h4 z4
  refine ⟨⟨x0, x1, x2, x3, x4⟩, ?_, ⟨w0, w1, w2, w3, w4⟩⟩
  show [c0, c1, c2] ++ [c3] ++ [c4] ++ [c5] ++ [c6] = (encSt23 x0 ++ (encI .i64) x1 ++ (encI .i64) x2 ++ (encI .i64) x3 ++ (encI .i64) x4)
  rw [e0, e1, e2, e3, e4]
/-- Its numbers are numbers of their kinds, its lists no longer than memory. -/
def WfSt37 (x : St37) : Prop := WfSt23 x.D_ ∧ (WfI .i64) x.K_ ∧ (WfI .i64) x.Place_ ∧ (WfI .i64) x.Mode_
theorem tells_T38 {n : Nat} : Tells Try.prog (n + 4) 38 encSt37 WfSt37 := fun d cs h hs => by
  have hl : cs.length = 6 := (shows_len Try.underlying38 h).trans (by kernel_rfl)
  obtain ⟨c0, c1, c2, c3, c4, c5, rfl⟩ := listN6 hl
  obtain ⟨p0, h0, z0⟩ := shows_field Try.underlying38 h hs 0 24 [c0, c1, c2] (by kernel_rfl)
  obtain ⟨x0, e0, w0⟩ : ∃ x : St23, [c0, c1, c2] = encSt23 x ∧ WfSt23 x := tells_T24 p0 _ h0 z0
  obtain ⟨p1, h1, z1⟩ := shows_field Try.underlying38 h hs 1 3 [c3] (by kernel_rfl)
  obtain ⟨x1, e1, w1⟩ : ∃ x : Int, [c3] = (encI .i64) x ∧ (WfI .i64) x := (tells_int Try.underlying3) p1 _ h1 z1
  obtain ⟨p2, h2, z2⟩ := shows_field Try.underlying38 h hs 2 3 [c4] (by kernel_rfl)
  obtain ⟨x2, e2, w2⟩ : ∃ x : Int, [c4] = (encI .i64) x ∧ (WfI .i64) x := (tells_int Try.underlying3) p2 _ h2 z2
  obtain ⟨p3, h3, z3⟩ := shows_field Try.underlying38 h hs 3 3 [c5] (by kernel_rfl)
  obtain ⟨x3, e3, w3⟩ : ∃ x : Int, [c5] = (encI .i64) x ∧ (WfI .i64) x := (tells_int Try.underlying3) p3 _ h3 z3
  refine ⟨⟨x0, x1, x2, x3⟩, ?_, ⟨w0, w1, w2, w3⟩⟩
  show [c0, c1, c2] ++ [c3] ++ [c4] ++ [c5] = (encSt23 x0 ++ (encI .i64) x1 ++ (encI .i64) x2 ++ (encI .i64) x3)
  rw [e0, e1, e2, e3]
/-- Its numbers are numbers of their kinds, its lists no longer than memory. -/
def WfSt41 (x : St41) : Prop := WfSt23 x.A_ ∧ WfSt23 x.B_ ∧ (WfI .i64) x.K_ ∧ (WfI .i64) x.Place_ ∧ (WfI .i64) x.Mode_
theorem tells_T42 {n : Nat} : Tells Try.prog (n + 4) 42 encSt41 WfSt41 := fun d cs h hs => by
  have hl : cs.length = 9 := (shows_len Try.underlying42 h).trans (by kernel_rfl)
  obtain ⟨c0, c1, c2, c3, c4, c5, c6, c7, c8, rfl⟩ := listN9 hl
  obtain ⟨p0, h0, z0⟩ := shows_field Try.underlying42 h hs 0 24 [c0, c1, c2] (by kernel_rfl)
  obtain ⟨x0, e0, w0⟩ : ∃ x : St23, [c0, c1, c2] = encSt23 x ∧ WfSt23 x := tells_T24 p0 _ h0 z0
  obtain ⟨p1, h1, z1⟩ := shows_field Try.underlying42 h hs 1 24 [c3, c4, c5] (by kernel_rfl)
  obtain ⟨x1, e1, w1⟩ : ∃ x : St23, [c3, c4, c5] = encSt23 x ∧ WfSt23 x := tells_T24 p1 _ h1 z1
  obtain ⟨p2, h2, z2⟩ := shows_field Try.underlying42 h hs 2 3 [c6] (by kernel_rfl)
  obtain ⟨x2, e2, w2⟩ : ∃ x : Int, [c6] = (encI .i64) x ∧ (WfI .i64) x := (tells_int Try.underlying3) p2 _ h2 z2
  obtain ⟨p3, h3, z3⟩ := shows_field Try.underlying42 h hs 3 3 [c7] (by kernel_rfl)
  obtain ⟨x3, e3, w3⟩ : ∃ x : Int, [c7] = (encI .i64) x ∧ (WfI .i64) x := (tells_int Try.underlying3) p3 _ h3 z3
  obtain ⟨p4, h4, z4⟩ := shows_field Try.underlying42 h hs 4 3 [c8] (by kernel_rfl)
  obtain ⟨x4, e4, w4⟩ : ∃ x : Int, [c8] = (encI .i64) x ∧ (WfI .i64) x := (tells_int Try.underlying3) p4 _ h4 z4
  refine ⟨⟨x0, x1, x2, x3, x4⟩, ?_, ⟨w0, w1, w2, w3, w4⟩⟩
  show [c0, c1, c2] ++ [c3, c4, c5] ++ [c6] ++ [c7] ++ [c8] = (encSt23 x0 ++ encSt23 x1 ++ (encI .i64) x2 ++ (encI .i64) x3 ++ (encI .i64) x4)
  rw [e0, e1, e2, e3, e4]
/-- Its numbers are numbers of their kinds, its lists no longer than memory. -/
def WfSt47 (x : St47) : Prop := WfSt23 x.D_ ∧ (WfI .i64) x.K_ ∧ (WfI .i64) x.Place_ ∧ (WfI .u8) x.M_ ∧ (WfI .i64) x.Mode_
theorem tells_T48 {n : Nat} : Tells Try.prog (n + 4) 48 encSt47 WfSt47 := fun d cs h hs => by
  have hl : cs.length = 7 := (shows_len Try.underlying48 h).trans (by kernel_rfl)
  obtain ⟨c0, c1, c2, c3, c4, c5, c6, rfl⟩ := listN7 hl
  obtain ⟨p0, h0, z0⟩ := shows_field Try.underlying48 h hs 0 24 [c0, c1, c2] (by kernel_rfl)
  obtain ⟨x0, e0, w0⟩ : ∃ x : St23, [c0, c1, c2] = encSt23 x ∧ WfSt23 x := tells_T24 p0 _ h0 z0
  obtain ⟨p1, h1, z1⟩ := shows_field Try.underlying48 h hs 1 3 [c3] (by kernel_rfl)
  obtain ⟨x1, e1, w1⟩ : ∃ x : Int, [c3] = (encI .i64) x ∧ (WfI .i64) x := (tells_int Try.underlying3) p1 _ h1 z1
  obtain ⟨p2, h2, z2⟩ := shows_field Try.underlying48 h hs 2 3 [c4] (by kernel_rfl)
  obtain ⟨x2, e2, w2⟩ : ∃ x : Int, [c4] = (encI .i64) x ∧ (WfI .i64) x := (tells_int Try.underlying3) p2 _ h2 z2
  obtain ⟨p3, h3, z3⟩ := shows_field Try.underlying48 h hs 3 5 [c5] (by kernel_rfl)
  obtain ⟨x3, e3, w3⟩ : ∃ x : Int, [c5] = (encI .u8) x ∧ (WfI .u8) x := (tells_int Try.underlying5) p3 _ h3 z3
  obtain ⟨p4, h4, z4⟩ := shows_field Try.underlying48 h hs 4 3 [c6] (by kernel_rfl)
  obtain ⟨x4, e4, w4⟩ : ∃ x : Int, [c6] = (encI .i64) x ∧ (WfI .i64) x := (tells_int Try.underlying3) p4 _ h4 z4
  refine ⟨⟨x0, x1, x2, x3, x4⟩, ?_, ⟨w0, w1, w2, w3, w4⟩⟩
  show [c0, c1, c2] ++ [c3] ++ [c4] ++ [c5] ++ [c6] = (encSt23 x0 ++ (encI .i64) x1 ++ (encI .i64) x2 ++ (encI .u8) x3 ++ (encI .i64) x4)
  rw [e0, e1, e2, e3, e4]
theorem of_dec {x : St23} (w : WfSt23 x) : ∃ neg l E, x = ⟨neg, up l, E⟩ ∧ l.length ≤ 140737488355328 := by
  obtain ⟨neg, D, E⟩ := x
  obtain ⟨_, w2, _⟩ := w
  obtain ⟨l, rfl, _, hl⟩ := up_of w2
  exact ⟨neg, l, E, rfl, by rw [hl]; exact w2.1⟩
theorem beq_dec {a b : Bool} : (a == b) = decide (a = b) := by cases a <;> cases b <;> rfl

theorem Stays_true (x : St25) (w : WfSt25 x) : exerguelaw06_RoundStays x = some true := by
  obtain ⟨D, K, p, mode, other⟩ := x
  obtain ⟨wD, _⟩ := w
  obtain ⟨neg, l, E, hD, hl⟩ := of_dec wD
  simp only at hD
  subst hD
  unfold exerguelaw06_RoundStays
  obtain ⟨b, hb, hb2⟩ := near_eq (neg := neg) (E := E) (k := K) (p := p) (mode := mode) hl
  obtain ⟨c, hc, hc2⟩ := ris_eq (mode := other)
  rw [shown_eq, hb, hc]
  simp only [Option.bind_some]
  cases b with
  | false => rfl
  | true =>
    cases c with
    | false => rfl
    | true =>
      obtain ⟨hn, ⟨m1, m2⟩, ⟨k1, k2⟩, p1, p2⟩ := hb2.1 rfl
      obtain ⟨o1, o2⟩ := hc2.1 rfl
      obtain ⟨k, rfl⟩ : ∃ k : Nat, K = k := ⟨K.toNat, by omega⟩
      obtain ⟨l1, E1, i1, i2, i3, i4⟩ := inc_eq (neg := neg) (p := p) (k := k) (mode := mode) hn.1 (near_600 hn) (near_E hn) (by omega) (by omega) (by omega) (by omega) m1 m2
      have hA1 : magN l1 E1 < pw 600 := by rw [i3]; exact near_inc hn (by omega) (by omega) (by omega)
      obtain ⟨l2, E2, j1, j2, j3, j4⟩ := inc_eq (neg := neg) (p := p) (k := k) (mode := other) i2 hA1 i4 (by omega) (by omega) (by omega) (by omega) o1 o2
      have hmod : magN l1 E1 % (k * pw p) = 0 := by rw [i3]; exact inc_mod
      rw [inc_self hmod] at j3
      rw [i1]
      simp only [Bool.not_true, cond_false, Option.bind_some, joinX]
      rw [j1]
      simp only [Option.bind_some]
      rw [rright_true i2, fits_eq i2 (by omega) (by omega) (by omega) (by omega), rsame_eq i2 j2, fits_eq hn.1 (by omega) (by omega) (by omega) (by omega), rsame_eq i2 hn.1, dT hmod, dT j3.symm]
      by_cases hz : magN l E % (k * pw p) = 0
      · rw [dT hz]
        rw [inc_self hz] at i3
        rw [dT i3]
        cases neg <;> rfl
      · rw [dF hz]
        cases neg <;> rfl

theorem Between_true (x : St37) (w : WfSt37 x) : exerguelaw06_RoundBetween x = some true := by
  obtain ⟨D, K, p, mode⟩ := x
  obtain ⟨wD, _⟩ := w
  obtain ⟨neg, l, E, hD, hl⟩ := of_dec wD
  simp only at hD
  subst hD
  unfold exerguelaw06_RoundBetween
  obtain ⟨b, hb, hb2⟩ := near_eq (neg := neg) (E := E) (k := K) (p := p) (mode := mode) hl
  rw [shown_eq, hb]
  simp only [Option.bind_some]
  cases b with
  | false => rfl
  | true =>
    obtain ⟨hn, ⟨m1, m2⟩, ⟨k1, k2⟩, p1, p2⟩ := hb2.1 rfl
    obtain ⟨k, rfl⟩ : ∃ k : Nat, K = k := ⟨K.toNat, by omega⟩
    have go := fun (md : Int) (h1 : 0 ≤ md) (h2 : md ≤ 7) => inc_eq (neg := neg) (p := p) (k := k) (mode := md) hn.1 (near_600 hn) (near_E hn) (by omega) (by omega) (by omega) (by omega) h1 h2
    obtain ⟨l3, E3, a1, a2, a3, -⟩ := go 3 (by omega) (by omega)
    obtain ⟨l2, E2, b1, b2, b3, -⟩ := go 2 (by omega) (by omega)
    obtain ⟨lm, Em, c1, c2, c3, -⟩ := go mode m1 m2
    obtain ⟨l0, E0, d1, d2, d3, -⟩ := go 0 (by omega) (by omega)
    obtain ⟨l9, E9, e1, e2, e3, -⟩ := go 1 (by omega) (by omega)
    obtain ⟨q2, q3⟩ := inc_ceil (neg := neg) (A := magN l E) (U := k * pw p)
    obtain ⟨q1, q0⟩ := inc_ends (neg := neg) (A := magN l E) (unit_pos (p := p) (show 1 ≤ k by omega))
    have qm := inc_two (neg := neg) (A := magN l E) (U := k * pw p) (mode := mode)
    rw [q3] at a3
    rw [q2] at b3
    rw [a1, b1, c1, d1, e1]
    simp only [Bool.not_true, cond_false, Option.bind_some, joinX]
    rw [rcmp_eq a2 hn.1, rcmp_eq hn.1 b2, rcmp_eq c2 a2, rcmp_eq c2 b2, rcmp_eq d2 a2, rcmp_eq e2 b2, rcmp_eq d2 b2, rcmp_eq e2 a2]
    rw [a3, b3, c3, d3, e3]
    generalize magN l E = A at *
    generalize incN neg A (k * pw p) mode = vm at *
    cases neg
    · simp only [Bool.false_eq_true, if_false] at *
      generalize incN false A (k * pw p) 0 = v0 at *
      generalize incN false A (k * pw p) 1 = v1 at *
      have g1 : decide (cmpV false v1 false A > 0) = false := dF (cmp_le.2 (by simpa using q1))
      have g2 : decide (cmpV false A false v0 > 0) = false := dF (cmp_le.2 (by simpa using q0))
      have g3 : decide (cmpV false v0 false v0 = 0) = true := dT (cmp_zero.2 rfl)
      have g4 : decide (cmpV false v1 false v1 = 0) = true := dT (cmp_zero.2 rfl)
      simp only [Option.bind_some, g1, g2, g3, g4, cond_true, cond_false]
      rcases qm with rfl | rfl
      · have g5 : decide (¬ cmpV false vm false vm = 0) = false := dF (fun h => h (cmp_zero.2 rfl))
        simp only [g5]
        cases decide (¬ cmpV false vm false v1 = 0) <;> rfl
      · have g5 : decide (¬ cmpV false vm false vm = 0) = false := dF (fun h => h (cmp_zero.2 rfl))
        simp only [g5]
        rfl
    · simp only [if_true] at *
      generalize incN true A (k * pw p) 0 = v0 at *
      generalize incN true A (k * pw p) 1 = v1 at *
      have g1 : decide (cmpV true v0 true A > 0) = false := dF (cmp_le.2 (by simpa using q0))
      have g2 : decide (cmpV true A true v1 > 0) = false := dF (cmp_le.2 (by simpa using q1))
      have g3 : decide (cmpV true v0 true v0 = 0) = true := dT (cmp_zero.2 rfl)
      have g4 : decide (cmpV true v1 true v1 = 0) = true := dT (cmp_zero.2 rfl)
      simp only [Option.bind_some, g1, g2, g3, g4, cond_true, cond_false]
      rcases qm with rfl | rfl
      · have g5 : decide (¬ cmpV true vm true vm = 0) = false := dF (fun h => h (cmp_zero.2 rfl))
        simp only [g5]
        rfl
      · have g5 : decide (¬ cmpV true vm true vm = 0) = false := dF (fun h => h (cmp_zero.2 rfl))
        simp only [g5]
        cases decide (¬ cmpV true vm true v0 = 0) <;> rfl

theorem Order_true (x : St41) (w : WfSt41 x) : exerguelaw06_RoundOrder x = some true := by
  obtain ⟨DA, DB, K, p, mode⟩ := x
  obtain ⟨wA, wB, _⟩ := w
  obtain ⟨n1, l, E, hA, hl⟩ := of_dec wA
  obtain ⟨n2, m, G, hB, hl2⟩ := of_dec wB
  simp only at hA hB
  subst hA
  subst hB
  unfold exerguelaw06_RoundOrder
  obtain ⟨b, hb, hb2⟩ := near_eq (neg := n1) (E := E) (k := K) (p := p) (mode := mode) hl
  obtain ⟨c, hc, hc2⟩ := near_eq (neg := n2) (E := G) (k := K) (p := p) (mode := mode) hl2
  rw [shown_eq, hb, hc]
  simp only [Option.bind_some]
  cases b with
  | false => rfl
  | true =>
    cases c with
    | false => rfl
    | true =>
      obtain ⟨hn, ⟨m1, m2⟩, ⟨k1, k2⟩, p1, p2⟩ := hb2.1 rfl
      obtain ⟨hn2, -⟩ := hc2.1 rfl
      obtain ⟨k, rfl⟩ : ∃ k : Nat, K = k := ⟨K.toNat, by omega⟩
      have ht : ∃ md : Int, md = (if mode = 3 then 2 else if mode = 2 then 3 else mode) ∧ 0 ≤ md ∧ md ≤ 7 := ⟨_, rfl, by split <;> (try split) <;> omega, by split <;> (try split) <;> omega⟩
      obtain ⟨md, hmd, md1, md2⟩ := ht
      obtain ⟨l1, E1, a1, a2, a3, -⟩ := inc_eq (neg := n1) (p := p) (k := k) (mode := mode) hn.1 (near_600 hn) (near_E hn) (by omega) (by omega) (by omega) (by omega) m1 m2
      obtain ⟨l2, E2, b1, b2, b3, -⟩ := inc_eq (neg := n2) (p := p) (k := k) (mode := mode) hn2.1 (near_600 hn2) (near_E hn2) (by omega) (by omega) (by omega) (by omega) m1 m2
      obtain ⟨l3, E3, c1, c2, c3, -⟩ := inc_eq (neg := !n1) (p := p) (k := k) (mode := md) hn.1 (near_600 hn) (near_E hn) (by omega) (by omega) (by omega) (by omega) md1 md2
      rw [hmd, inc_turned] at c3
      rw [a1, b1]
      simp only [Bool.not_true, cond_false, Option.bind_some, joinX]
      have htt : (Option.bind (bif decide (mode = 2) then some (3 : Int) else some mode) fun s72 => Option.bind (bif decide (mode = 3) then some (2 : Int) else some s72) fun s83 => some s83) = some md := by
        rw [hmd]
        by_cases h3 : mode = 3
        · subst h3; rfl
        · rw [dF h3, if_neg h3]
          by_cases h2 : mode = 2
          · subst h2; rfl
          · rw [dF h2, if_neg h2]; rfl
      have hstep : ∀ {α : Type} (f : Int → Option α), (Option.bind (bif decide (mode = 2) then some (3 : Int) else some mode) fun s72 => Option.bind (bif decide (mode = 3) then some (2 : Int) else some s72) f) = f md := fun f => by
        rw [hmd]
        by_cases h3 : mode = 3
        · subst h3; rfl
        · rw [dF h3, if_neg h3]
          by_cases h2 : mode = 2
          · subst h2; rfl
          · rw [dF h2, if_neg h2]; rfl
      rw [hstep, c1]
      simp only [Option.bind_some, Bool.not_not]
      have hU := unit_pos (p := p) (show 1 ≤ k by omega)
      rw [rsame_eq a2 c2, rcmp_eq hn.1 hn2.1, rcmp_eq a2 b2, dT (show magN l1 E1 = magN l3 E3 by rw [a3, c3]), dT rfl, a3, b3]
      simp only [Bool.and_true, cond_true, Option.bind_some]
      have hz : ∀ {neg : Bool} {A : Nat}, A = 0 → incN neg A (k * pw p) mode = 0 := fun {neg A} h => by
        subst h; exact inc_self (Nat.zero_mod _)
      have hmono : ¬ cmpV n1 (magN l E) n2 (magN m G) > 0 → cmpV n1 (incN n1 (magN l E) (k * pw p) mode) n2 (incN n2 (magN m G) (k * pw p) mode) ≤ 0 := fun h => by
        by_cases hnn : n1 = n2
        · subst hnn
          have h' := cmp_le.1 h
          have : ¬ cmpV n1 (incN n1 (magN l E) (k * pw p) mode) n1 (incN n1 (magN m G) (k * pw p) mode) > 0 := by
            apply cmp_le.2
            cases n1
            · simp at h' ⊢; exact inc_mono hU h'
            · simp at h' ⊢; exact inc_mono hU h'
          omega
        · cases n1 with
          | true =>
            unfold cmpV
            split
            · omega
            · simp
          | false =>
            unfold cmpV at h
            rw [if_pos hnn] at h
            by_cases h0 : magN l E = 0 ∧ magN m G = 0
            · rw [hz h0.1, hz h0.2]; exact Int.le_refl _
            · rw [if_neg h0] at h; simp at h
      by_cases hc : cmpV n1 (magN l E) n2 (magN m G) > 0
      · rw [dT hc]; rfl
      · rw [dF hc, dT (hmono hc)]; rfl

theorem Nearer_true (D : St23) (w : WfSt23 D) (K : Int) (_ : WfI .i64 K) (p : Int) (_ : WfI .i64 p) : exerguelaw06_RoundNearer D K p = some true := by
  obtain ⟨neg, l, E, hD, hl⟩ := of_dec w
  subst hD
  unfold exerguelaw06_RoundNearer
  obtain ⟨b, hb, hb2⟩ := near_eq (neg := neg) (E := E) (k := K) (p := p) (mode := 0) hl
  rw [shown_eq, hb]
  simp only [Option.bind_some]
  cases b with
  | false => rfl
  | true =>
    obtain ⟨hn, ⟨m1, m2⟩, ⟨k1, k2⟩, p1, p2⟩ := hb2.1 rfl
    obtain ⟨k, rfl⟩ : ∃ k : Nat, K = k := ⟨K.toNat, by omega⟩
    have go := fun (md : Int) (h1 : 0 ≤ md) (h2 : md ≤ 7) => inc_eq (neg := neg) (p := p) (k := k) (mode := md) hn.1 (near_600 hn) (near_E hn) (by omega) (by omega) (by omega) (by omega) h1 h2
    obtain ⟨l4, E4, a1, a2, a3, -⟩ := go 4 (by omega) (by omega)
    obtain ⟨l5, E5, b1, b2, b3, -⟩ := go 5 (by omega) (by omega)
    obtain ⟨l6, E6, c1, c2, c3, -⟩ := go 6 (by omega) (by omega)
    obtain ⟨l7, E7, d1, d2, d3, -⟩ := go 7 (by omega) (by omega)
    obtain ⟨l0, E0, e1, e2, e3, -⟩ := go 0 (by omega) (by omega)
    obtain ⟨l9, E9, f1, f2, f3, -⟩ := go 1 (by omega) (by omega)
    have hnr := inc_nearer (neg := neg) (A := magN l E) (unit_pos (p := p) (show 1 ≤ k by omega))
    rw [a1, b1, c1, d1, e1, f1]
    simp only [Bool.not_true, cond_false, Option.bind_some]
    rw [rsame_eq a2 b2, rsame_eq c2 a2, rsame_eq d2 a2, rsame_eq d2 b2, rsame_eq c2 b2, rsame_eq a2 e2, rsame_eq b2 f2]
    rw [a3, b3, c3, d3, e3, f3, dT (show neg = neg from rfl)]
    simp only [Bool.true_and, Option.bind_some]
    rcases hnr with ⟨h1, h2, h3⟩ | ⟨h1, h2, h3, ⟨h4, h5⟩ | ⟨h4, h5⟩⟩
    · rw [dT h1, dT h2, dT h3]; rfl
    · rw [dF h1, dT h2, dT h3, dT h4, dT h5]; rfl
    · rw [dF h1, dT h2, dT h3, h4, h5, dF (fun e => h1 e.symm), dT rfl]
      simp

theorem Fits_true (x : St47) (w : WfSt47 x) : exerguelaw06_RoundFits x = some true := by
  obtain ⟨D, K, p, M, mode⟩ := x
  obtain ⟨wD, wK, _, wM, _⟩ := w
  obtain ⟨neg, l, E, hD, hl⟩ := of_dec wD
  simp only at hD
  subst hD
  have hM : 0 ≤ M ∧ M < 256 := wf_u8 wM
  unfold exerguelaw06_RoundFits
  obtain ⟨b, hb, hb2⟩ := near_eq (neg := neg) (E := E) (k := K) (p := p) (mode := mode) hl
  simp only
  obtain ⟨m, rfl⟩ : ∃ m : Nat, M = m := ⟨M.toNat, by omega⟩
  have hn9 : IntKind.wrap .i64 (IntKind.wrap .i64 (Int.tmod (m : Int) 9) + 1) = ((m % 9 + 1 : Nat) : Int) := by
    have : Int.tmod (m : Int) 9 = ((m % 9 : Nat) : Int) := (Int.ofNat_tmod _ _).symm
    rw [this, w64 (n := ((m % 9 : Nat) : Int)) (by omega) (by omega), w64 (by omega) (by omega)]; omega
  rw [hn9]
  generalize hn : m % 9 + 1 = n at *
  have hnr : 1 ≤ n ∧ n ≤ 9 := by omega
  rw [shown_eq, hb]
  simp only [Option.bind_some]
  cases b with
  | false => rfl
  | true =>
    obtain ⟨hn, ⟨m1, m2⟩, ⟨k1, k2⟩, p1, p2⟩ := hb2.1 rfl
    obtain ⟨k, rfl⟩ : ∃ k : Nat, K = k := ⟨K.toNat, by omega⟩
    have hkn9 : k * n ≤ k * 9 := Nat.mul_le_mul_left _ hnr.2
    have hkn1 : k * 1 ≤ k * n := Nat.mul_le_mul_left _ hnr.1
    have hkn : IntKind.wrap .i64 ((k : Int) * (n : Int)) = ((k * n : Nat) : Int) := by
      have e : (k : Int) * (n : Int) = ((k * n : Nat) : Int) := by simp
      rw [e, w64 (by omega) (by omega)]
    rw [hkn]
    obtain ⟨c, hc, hc2⟩ := runit_eq (k := ((k * n : Nat) : Int)) (p := p)
    rw [hc]
    simp only [Bool.not_true, cond_false, Option.bind_some]
    cases c with
    | false => rfl
    | true =>
      obtain ⟨u1, u2, -⟩ := hc2.1 rfl
      obtain ⟨l1, E1, i1, i2, i3, i4⟩ := inc_eq (neg := neg) (p := p) (k := k) (mode := mode) hn.1 (near_600 hn) (near_E hn) (by omega) (by omega) (by omega) (by omega) m1 m2
      rw [i1, w64 (n := p + 1) (by omega) (by omega), fits_eq hn.1 (by omega) (by omega) (by omega) (by omega), fits_eq hn.1 (by omega) (by omega) (by omega) (by omega), fits_eq hn.1 (by omega) (by omega) (by omega) (by omega)]
      simp only [Bool.not_true, cond_false, Option.bind_some, joinX]
      rw [rsame_eq i2 hn.1, i3, dT (show neg = neg from rfl)]
      generalize magN l E = A at *
      have d1 : A % (k * n * pw p) = 0 → A % (k * pw p) = 0 := fun h => by
        apply Nat.mod_eq_zero_of_dvd
        refine Nat.dvd_trans ⟨n, ?_⟩ (Nat.dvd_of_mod_eq_zero h)
        rw [Nat.mul_right_comm]
      have d2 : A % (k * pw (p + 1)) = 0 → A % (k * pw p) = 0 := fun h => by
        apply Nat.mod_eq_zero_of_dvd
        refine Nat.dvd_trans ⟨10, ?_⟩ (Nat.dvd_of_mod_eq_zero h)
        rw [pw_succ (by omega), Nat.mul_assoc]
      by_cases hz : A % (k * pw p) = 0
      · rw [dT hz, dT (inc_self hz)]
        cases decide (A % (k * n * pw p) = 0) <;> cases decide (A % (k * pw (p + 1)) = 0) <;> rfl
      · have hne : ¬ incN neg A (k * pw p) mode = A := fun e => by
          have := inc_mod (neg := neg) (A := A) (U := k * pw p) (mode := mode)
          rw [e] at this; exact hz this
        rw [dF hz, dF hne, dF (fun e => hz (d1 e)), dF (fun e => hz (d2 e))]
        rfl

theorem Sig_true (D : St23) (w : WfSt23 D) (nn : Int) (w1 : WfI .u8 nn) (mode : Int) (_ : WfI .i64 mode) : exerguelaw06_RoundSig D nn mode = some true := by
  obtain ⟨neg, l, E, hD, hl⟩ := of_dec w
  subst hD
  have hM : 0 ≤ nn ∧ nn < 256 := wf_u8 w1
  unfold exerguelaw06_RoundSig
  obtain ⟨b, hb, hb2⟩ := rnear_eq (neg := neg) (E := E) hl
  obtain ⟨c, hc, hc2⟩ := ris_eq (mode := mode)
  obtain ⟨m, rfl⟩ : ∃ m : Nat, nn = m := ⟨nn.toNat, by omega⟩
  have hn9 : IntKind.wrap .i64 (IntKind.wrap .i64 (Int.tmod (m : Int) 60) + 1) = ((m % 60 + 1 : Nat) : Int) := by
    have : Int.tmod (m : Int) 60 = ((m % 60 : Nat) : Int) := (Int.ofNat_tmod _ _).symm
    rw [this, w64 (n := ((m % 60 : Nat) : Int)) (by omega) (by omega), w64 (by omega) (by omega)]; omega
  rw [hn9]
  generalize hn : m % 60 + 1 = K at *
  have hK : 1 ≤ K ∧ K ≤ 60 := by omega
  rw [shown_eq, hb, hc]
  simp only [Option.bind_some]
  cases b with
  | false => rfl
  | true =>
    cases c with
    | false => rfl
    | true =>
      have hn := hb2.1 rfl
      obtain ⟨m1, m2⟩ := hc2.1 rfl
      have hr := hn.1
      have hMag : ∃ M : Int, M = (if l = [] then 0 else E + (l.length : Int) - 1) ∧ -60 ≤ M ∧ M ≤ 100 := by
        refine ⟨_, rfl, ?_⟩
        have := hn.2
        split
        · omega
        · rename_i h0
          have : l.length ≠ 0 := fun e => h0 (List.eq_nil_of_length_eq_zero e)
          omega
      obtain ⟨M, hM0, hM1, hM2⟩ := hMag
      have hto : ∀ q : Int, round_To ⟨neg, up l, E⟩ q mode = Option.bind (round_Inc ⟨neg, up l, E⟩ 1 q mode) fun y1 => some (y1.1, y1.2) := fun q => rfl
      have hpl : IntKind.wrap .i64 (IntKind.wrap .i64 (M - (K : Int)) + 1) = M - K + 1 := by
        rw [w64 (n := M - (K : Int)) (by omega) (by omega), w64 (by omega) (by omega)]
      obtain ⟨l1, E1, i1, i2, i3, i4⟩ := inc_eq (neg := neg) (p := M - K + 1) (k := 1) (mode := mode) hr (near_600 hn) (near_E hn) (by omega) (by omega) (by omega) (by omega) m1 m2
      have i1' : round_Inc ⟨neg, up l, E⟩ 1 (M - K + 1) mode = some (⟨neg, up l1, E1⟩, 0) := i1
      rw [rmag_eq hr, ← hM0]
      simp only [Bool.not_true, cond_false, Option.bind_some, joinX]
      rw [hpl, hto, i1']
      simp only [Option.bind_some]
      have hsg : ∀ y, (if l = [] then y = ((⟨neg, [], 0⟩ : St23), (0 : Int)) else y = (⟨neg, up l1, E1⟩, 0)) → round_Sig ⟨neg, up l, E⟩ K mode = some y := fun y hy => by
        unfold round_Sig
        rw [is_eq m1 m2, right_eq hr, mag_eq hr, ← hM0, dF (show ¬ (K : Int) < 1 by omega)]
        simp only [Bool.not_true, cond_false, Option.bind_some, joinX, up_len]
        by_cases h0 : l = []
        · rw [if_pos h0] at hy
          subst hy
          subst h0
          have hE := hr.2.1 rfl
          subst hE
          rfl
        · rw [if_neg h0] at hy
          subst hy
          have : l.length ≠ 0 := fun e => h0 (List.eq_nil_of_length_eq_zero e)
          rw [dF (show ¬ (l.length : Int) = 0 by omega), w64 (n := M + 1000) (by omega) (by omega), w64 (n := M + 1000 + 1) (by omega) (by omega), dF (show ¬ (K : Int) > M + 1000 + 1 by omega), hpl, i1']
          rfl
      by_cases h0 : l = []
      · rw [hsg (⟨neg, [], 0⟩, 0) (by rw [if_pos h0])]
        subst h0
        have hE := hr.2.1 rfl
        subst hE
        have hs := rsame_eq (n1 := neg) (n2 := neg) hr hr
        rw [dT rfl, dT rfl] at hs
        simp only [Option.bind_some, up_len]
        rw [dT (show (([] : List Int).length : Int) ≤ K by simp), dF (show ¬ (([] : List Nat).length : Int) > K by simp), dT (show (([] : List Nat).length : Int) = 0 from rfl)]
        have hs' : exergueref05_Same ⟨neg, [], 0⟩ ⟨neg, up [], 0⟩ = some (true && true) := hs
        rw [hs']
        rfl
      · rw [hsg (⟨neg, up l1, E1⟩, 0) (by rw [if_neg h0])]
        rw [if_neg h0] at hM0
        simp only [Option.bind_some, up_len]
        rw [rsame_eq i2 i2, rsame_eq i2 hr, dT (show neg = neg from rfl), dT (show magN l1 E1 = magN l1 E1 from rfl)]
        have hlt : magN l E / (1 * pw (M - K + 1)) < 10 ^ K := by
          rw [Nat.one_mul]
          have ht := mag_top hr
          rw [if_neg h0, ← hM0] at ht
          have h1 := Nat.div_eq_zero_iff.1 ht
          have h2 := pw_pos (M + 1)
          have h3 := pw_add (m := M - K + 1) K (by omega)
          have e : M - (K : Int) + 1 + (K : Nat) = M + 1 := by omega
          rw [e] at h3
          rw [Nat.div_lt_iff_lt_mul (pw_pos _), Nat.mul_comm, ← h3]
          omega
        have hlen : l1.length ≤ K := by
          refine sig_len (t := incN neg (magN l E) (1 * pw (M - K + 1)) mode / (1 * pw (M - K + 1))) i2 (p := M - K + 1) (by omega) hK.1 ?_ ?_
          · have hU := unit_pos (p := M - K + 1) (Nat.le_refl 1)
            generalize 1 * pw (M - K + 1) = U at *
            unfold incN
            split
            · omega
            · rw [Nat.mul_div_cancel _ hU]; split <;> omega
          · rw [i3, Nat.one_mul, Nat.div_mul_cancel]
            have := inc_mod (neg := neg) (A := magN l E) (U := 1 * pw (M - K + 1)) (mode := mode)
            rw [Nat.one_mul] at this
            exact Nat.dvd_of_mod_eq_zero this
        rw [dT (show (l1.length : Int) ≤ K by omega)]
        have hl0 : l.length ≠ 0 := fun e => h0 (List.eq_nil_of_length_eq_zero e)
        rw [dF (show ¬ (l.length : Int) = 0 by omega)]
        by_cases hgt : (l.length : Int) > K
        · rw [dT hgt]; rfl
        · rw [dF hgt]
          have hz : magN l E % (1 * pw (M - K + 1)) = 0 := by
            rw [Nat.one_mul]
            unfold magN
            obtain ⟨j, hj⟩ : ∃ j : Nat, E = M - K + 1 + j := ⟨(E - (M - K + 1)).toNat, by omega⟩
            apply Nat.mod_eq_zero_of_dvd
            rw [hj, pw_add j (by omega), ← Nat.mul_assoc, Nat.mul_right_comm]
            exact Nat.dvd_mul_left _ _
          rw [inc_self hz] at i3
          rw [dT i3]; rfl

set_option maxRecDepth 100000 in
theorem RoundSig_lifted (os : Os) (started : os.Started) (H : Type) (enc : TypeId × Value → H) :
    ReturnsInHanded {} Try.checked os 7 .any (Rows.roundSigSpec.pre6 enc Try.prog Try.f7 Rows.roundSigRow.domain false) (Rows.roundSigSpec.post enc Try.prog Try.f7 false true false false) := by
  refine returnsInHanded_of_change_sized (C := Try.checked) Try.own started (by kernel_rfl) Try.func7
    (ChangeSpec.witness6 (enc := enc) (C := Try.checked) false ⟨#[], #[.agg #[.bool false, .slice none 0 0, .int .i64 0], .int .u8 0, .int .i64 0], []⟩ 8 (by kernel_rfl) (by kernel_rfl) (by kernel_rfl) (by kernel_rfl)) ?_
  intro W base args ds gs before hval0 hW _ hsz0 _
  have hsz : (DataW.weightsEach Try.prog (Try.f7.params.toList ++ Rows.roundSigSpec.plain.varTypes Try.prog) (ds ++ gs)).all (· ≤ reachBytes) = true := hsz0
  clear hsz0
  refine law_post (P := Try.prog) (n := 3) (tb := 4) Try.laidOut Try.underlying4 rfl rfl (by kernel_rfl) (fun h => ?_) hval0 hW ?_
  · rw [Try.params7] at h
    obtain ⟨d0, d1, d2, rfl⟩ := l3 h
    exact ⟨rfl, rfl, rfl⟩
  · intro ss hg hl1 hl2 hs
    subst hg
    rw [Try.params7] at hl1 hl2 hs hsz
    obtain ⟨d0, d1, d2, rfl⟩ := l3 hl1
    obtain ⟨s0, s1, s2, rfl⟩ := l3 hl2
    obtain ⟨cs0, rfl, hc0⟩ := showsV_struct Try.underlying24 (hs 0 24 _ _ rfl rfl rfl)
    obtain ⟨a0, rfl, w0⟩ := tells_T24 (n := 0) _ _ hc0 (sized_param hsz (j := 0) rfl rfl)
    obtain ⟨a1, e1, w1⟩ := (show Tells Try.prog 3 5 (encI .u8) (WfI .u8) from (tells_int Try.underlying5)) _ _ (showsV_scalar Try.underlying5 (fun _ => by simp) (fun _ _ => by simp) (hs 1 5 _ _ rfl rfl rfl)) (sized_param hsz (j := 1) rfl rfl)
    obtain rfl : s1 = .int .u8 a1 := (List.cons.inj e1).1
    obtain ⟨a2, e2, w2⟩ := (show Tells Try.prog 3 3 (encI .i64) (WfI .i64) from (tells_int Try.underlying3)) _ _ (showsV_scalar Try.underlying3 (fun _ => by simp) (fun _ _ => by simp) (hs 2 3 _ _ rfl rfl rfl)) (sized_param hsz (j := 2) rfl rfl)
    obtain rfl : s2 = .int .i64 a2 := (List.cons.inj e2).1
    exact ⟨[], exerguelaw06_RoundSig_ok (Sig_true a0 w0 a1 w1 a2 w2)⟩
theorem RoundSig_holds : Rows.RoundSigSaid :=
  OpenClaim.holds_of_wide 7 Try.f7 rfl rfl rfl rfl rfl rfl rfl ⟨rfl, rfl, rfl, rfl, rfl⟩ rfl rfl rfl rfl rfl (by kernel_rfl) Try.func7 (by kernel_rfl)
    (of_decide_eq_true (by kernel_rfl)) (by unfold Func.isWrapper; first | (rw [if_pos (by decide +kernel)]; kernel_rfl) | (rw [if_neg (by decide +kernel)]; exact ⟨rfl, rfl⟩))
    (fun os started H enc _ => RoundSig_lifted os started H enc)

end Go.Proofs.Ytpofnipphhljeaa
