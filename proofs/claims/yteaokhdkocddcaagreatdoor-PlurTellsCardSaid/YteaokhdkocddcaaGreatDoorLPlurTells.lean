/-
  The statement PlurTellsCard is proved: at every input the law answers true, and its input reads as it did. Conditions: those of the card (package variables are as the program text lays them).
-/
import Derived.Test.YteaokhdkocddcaaGreatDoorP
import Derived.Test.YteaokhdkocddcaaGreatDoorSyGL
import Derived.Test.YteaokhdkocddcaaGreatDoorCards
import Derived.Test.YteaokhdkocddcaaGreatDoorTie
import Derived.ProofKit
import Derived.SizedLaws
import Derived.LaidMore
import Derived.SevenTiedAt
namespace Go.Proofs.YteaokhdkocddcaaGreatDoor
open Go Go.Sy Go.RowKit Go.ChangeShapes Go.WideShapes Go.ChangeAt
set_option linter.unusedVariables false
set_option linter.unusedSimpArgs false
set_option maxRecDepth 100000
set_option maxHeartbeats 4000000

theorem Tryz.own : ownKnob Tryz.prog.godebug = none := by kernel_rfl
theorem Tryz.laidOut : laidOutB Tryz.prog = true := by kernel_rfl

theorem listN2 {α : Type} {l : List α} (h : l.length = 2) : ∃ a0 a1, l = [a0, a1] := by
  match l, h with
  | [a0, a1], _ => exact ⟨a0, a1, rfl⟩
theorem listN4 {α : Type} {l : List α} (h : l.length = 4) : ∃ a0 a1 a2 a3, l = [a0, a1, a2, a3] := by
  match l, h with
  | [a0, a1, a2, a3], _ => exact ⟨a0, a1, a2, a3, rfl⟩
theorem listN8 {α : Type} {l : List α} (h : l.length = 8) : ∃ a0 a1 a2 a3 a4 a5 a6 a7, l = [a0, a1, a2, a3, a4, a5, a6, a7] := by
  match l, h with
  | [a0, a1, a2, a3, a4, a5, a6, a7], _ => exact ⟨a0, a1, a2, a3, a4, a5, a6, a7, rfl⟩
/-- Its numbers are numbers of their kinds, its lists no longer than memory. -/
def WfSt80 (x : St80) : Prop := (WfI .i64) x.a0_ ∧ (WfI .i64) x.a1_
theorem tells_T80 {n : Nat} : Tells Tryz.prog (n + 2) 80 encSt80 WfSt80 := fun d cs h hs => by
  have hl : cs.length = 2 := (shows_alen Tryz.underlying80 h).trans (by kernel_rfl)
  obtain ⟨c0, c1, rfl⟩ := listN2 hl
  obtain ⟨p0, h0, z0⟩ := shows_elem Tryz.underlying80 h hs 0 [c0] (by kernel_rfl) (by kernel_rfl)
  obtain ⟨x0, e0, w0⟩ : ∃ x : Int, [c0] = (encI .i64) x ∧ (WfI .i64) x := (tells_int Tryz.underlying3) p0 _ h0 z0
  obtain ⟨p1, h1, z1⟩ := shows_elem Tryz.underlying80 h hs 1 [c1] (by kernel_rfl) (by kernel_rfl)
  obtain ⟨x1, e1, w1⟩ : ∃ x : Int, [c1] = (encI .i64) x ∧ (WfI .i64) x := (tells_int Tryz.underlying3) p1 _ h1 z1
  refine ⟨⟨x0, x1⟩, ?_, ⟨w0, w1⟩⟩
  show [c0] ++ [c1] = ((encI .i64) x0 ++ (encI .i64) x1)
  rw [e0, e1]
/-- Its numbers are numbers of their kinds, its lists no longer than memory. -/
def WfSt75 (x : St75) : Prop := (WfI .u8) x.Op_ ∧ (WfI .i64) x.Mod_ ∧ WfB x.Not_ ∧ (WfL WfSt80) x.R_
theorem tells_T76 {n : Nat} : Tells Tryz.prog (n + 4) 76 encSt75 WfSt75 := fun d cs h hs => by
  have hl : cs.length = 4 := (shows_len Tryz.underlying76 h).trans (by kernel_rfl)
  obtain ⟨c0, c1, c2, c3, rfl⟩ := listN4 hl
  obtain ⟨p0, h0, z0⟩ := shows_field Tryz.underlying76 h hs 0 5 [c0] (by kernel_rfl)
  obtain ⟨x0, e0, w0⟩ : ∃ x : Int, [c0] = (encI .u8) x ∧ (WfI .u8) x := (tells_int Tryz.underlying5) p0 _ h0 z0
  obtain ⟨p1, h1, z1⟩ := shows_field Tryz.underlying76 h hs 1 3 [c1] (by kernel_rfl)
  obtain ⟨x1, e1, w1⟩ : ∃ x : Int, [c1] = (encI .i64) x ∧ (WfI .i64) x := (tells_int Tryz.underlying3) p1 _ h1 z1
  obtain ⟨p2, h2, z2⟩ := shows_field Tryz.underlying76 h hs 2 4 [c2] (by kernel_rfl)
  obtain ⟨x2, e2, w2⟩ : ∃ x : Bool, [c2] = encB x ∧ WfB x := (tells_bool Tryz.underlying4) p2 _ h2 z2
  obtain ⟨p3, h3, z3⟩ := shows_field Tryz.underlying76 h hs 3 74 [c3] (by kernel_rfl)
  obtain ⟨x3, e3, w3⟩ : ∃ x : List St80, [c3] = (encL encSt80 2) x ∧ (WfL WfSt80) x := (tells_list (enc := encSt80) (Wf := WfSt80) Tryz.underlying74 (k := 2) (by kernel_rfl) (by kernel_rfl) tells_T80) p3 _ h3 z3
  refine ⟨⟨x0, x1, x2, x3⟩, ?_, ⟨w0, w1, w2, w3⟩⟩
  show [c0] ++ [c1] ++ [c2] ++ [c3] = ((encI .u8) x0 ++ (encI .i64) x1 ++ encB x2 ++ (encL encSt80 2) x3)
  rw [e0, e1, e2, e3]
/-- Its numbers are numbers of their kinds, its lists no longer than memory. -/
def WfSt46 (x : St46) : Prop := (WfI .i64) x.Cat_ ∧ (WfL (WfL WfSt75)) x.C_
theorem tells_T47 {n : Nat} : Tells Tryz.prog (n + 7) 47 encSt46 WfSt46 := fun d cs h hs => by
  have hl : cs.length = 2 := (shows_len Tryz.underlying47 h).trans (by kernel_rfl)
  obtain ⟨c0, c1, rfl⟩ := listN2 hl
  obtain ⟨p0, h0, z0⟩ := shows_field Tryz.underlying47 h hs 0 3 [c0] (by kernel_rfl)
  obtain ⟨x0, e0, w0⟩ : ∃ x : Int, [c0] = (encI .i64) x ∧ (WfI .i64) x := (tells_int Tryz.underlying3) p0 _ h0 z0
  obtain ⟨p1, h1, z1⟩ := shows_field Tryz.underlying47 h hs 1 45 [c1] (by kernel_rfl)
  obtain ⟨x1, e1, w1⟩ : ∃ x : List (List St75), [c1] = (encL (encL encSt75 4) 1) x ∧ (WfL (WfL WfSt75)) x := (tells_list (enc := (encL encSt75 4)) (Wf := (WfL WfSt75)) Tryz.underlying45 (k := 1) (by kernel_rfl) (by kernel_rfl) (tells_list (enc := encSt75) (Wf := WfSt75) Tryz.underlying73 (k := 4) (by kernel_rfl) (by kernel_rfl) tells_T76)) p1 _ h1 z1
  refine ⟨⟨x0, x1⟩, ?_, ⟨w0, w1⟩⟩
  show [c0] ++ [c1] = ((encI .i64) x0 ++ (encL (encL encSt75 4) 1) x1)
  rw [e0, e1]
/-- Its numbers are numbers of their kinds, its lists no longer than memory. -/
def WfSt33 (x : St33) : Prop := (WfL (WfI .u8)) x.I_ ∧ (WfL (WfI .u8)) x.F_ ∧ (WfI .i64) x.W_ ∧ (WfI .i64) x.C_
theorem tells_T34 {n : Nat} : Tells Tryz.prog (n + 3) 34 encSt33 WfSt33 := fun d cs h hs => by
  have hl : cs.length = 4 := (shows_len Tryz.underlying34 h).trans (by kernel_rfl)
  obtain ⟨c0, c1, c2, c3, rfl⟩ := listN4 hl
  obtain ⟨p0, h0, z0⟩ := shows_field Tryz.underlying34 h hs 0 32 [c0] (by kernel_rfl)
  obtain ⟨x0, e0, w0⟩ : ∃ x : List Int, [c0] = (encL (encI .u8) 1) x ∧ (WfL (WfI .u8)) x := (tells_list (enc := (encI .u8)) (Wf := (WfI .u8)) Tryz.underlying32 (k := 1) (by kernel_rfl) (by kernel_rfl) (tells_int Tryz.underlying5)) p0 _ h0 z0
  obtain ⟨p1, h1, z1⟩ := shows_field Tryz.underlying34 h hs 1 32 [c1] (by kernel_rfl)
  obtain ⟨x1, e1, w1⟩ : ∃ x : List Int, [c1] = (encL (encI .u8) 1) x ∧ (WfL (WfI .u8)) x := (tells_list (enc := (encI .u8)) (Wf := (WfI .u8)) Tryz.underlying32 (k := 1) (by kernel_rfl) (by kernel_rfl) (tells_int Tryz.underlying5)) p1 _ h1 z1
  obtain ⟨p2, h2, z2⟩ := shows_field Tryz.underlying34 h hs 2 3 [c2] (by kernel_rfl)
  obtain ⟨x2, e2, w2⟩ : ∃ x : Int, [c2] = (encI .i64) x ∧ (WfI .i64) x := (tells_int Tryz.underlying3) p2 _ h2 z2
  obtain ⟨p3, h3, z3⟩ := shows_field Tryz.underlying34 h hs 3 3 [c3] (by kernel_rfl)
  obtain ⟨x3, e3, w3⟩ : ∃ x : Int, [c3] = (encI .i64) x ∧ (WfI .i64) x := (tells_int Tryz.underlying3) p3 _ h3 z3
  refine ⟨⟨x0, x1, x2, x3⟩, ?_, ⟨w0, w1, w2, w3⟩⟩
  show [c0] ++ [c1] ++ [c2] ++ [c3] = ((encL (encI .u8) 1) x0 ++ (encL (encI .u8) 1) x1 ++ (encI .i64) x2 ++ (encI .i64) x3)
  rw [e0, e1, e2, e3]
/-- Its numbers are numbers of their kinds, its lists no longer than memory. -/
def WfSt35 (x : St35) : Prop := (WfL WfSt46) x.L_ ∧ (WfL WfSt46) x.M_ ∧ WfSt33 x.O_ ∧ (WfI .i64) x.Cat_ ∧ WfT x.Name_
theorem tells_T36 {n : Nat} : Tells Tryz.prog (n + 9) 36 encSt35 WfSt35 := fun d cs h hs => by
  have hl : cs.length = 8 := (shows_len Tryz.underlying36 h).trans (by kernel_rfl)
  obtain ⟨c0, c1, c2, c3, c4, c5, c6, c7, rfl⟩ := listN8 hl
  obtain ⟨p0, h0, z0⟩ := shows_field Tryz.underlying36 h hs 0 25 [c0] (by kernel_rfl)
  obtain ⟨x0, e0, w0⟩ : ∃ x : List St46, [c0] = (encL encSt46 2) x ∧ (WfL WfSt46) x := (tells_list (enc := encSt46) (Wf := WfSt46) Tryz.underlying25 (k := 2) (by kernel_rfl) (by kernel_rfl) tells_T47) p0 _ h0 z0
  obtain ⟨p1, h1, z1⟩ := shows_field Tryz.underlying36 h hs 1 25 [c1] (by kernel_rfl)
  obtain ⟨x1, e1, w1⟩ : ∃ x : List St46, [c1] = (encL encSt46 2) x ∧ (WfL WfSt46) x := (tells_list (enc := encSt46) (Wf := WfSt46) Tryz.underlying25 (k := 2) (by kernel_rfl) (by kernel_rfl) tells_T47) p1 _ h1 z1
  obtain ⟨p2, h2, z2⟩ := shows_field Tryz.underlying36 h hs 2 34 [c2, c3, c4, c5] (by kernel_rfl)
  obtain ⟨x2, e2, w2⟩ : ∃ x : St33, [c2, c3, c4, c5] = encSt33 x ∧ WfSt33 x := tells_T34 p2 _ h2 z2
  obtain ⟨p3, h3, z3⟩ := shows_field Tryz.underlying36 h hs 3 3 [c6] (by kernel_rfl)
  obtain ⟨x3, e3, w3⟩ : ∃ x : Int, [c6] = (encI .i64) x ∧ (WfI .i64) x := (tells_int Tryz.underlying3) p3 _ h3 z3
  obtain ⟨p4, h4, z4⟩ := shows_field Tryz.underlying36 h hs 4 9 [c7] (by kernel_rfl)
  obtain ⟨x4, e4, w4⟩ : ∃ x : List UInt8, [c7] = encT x ∧ WfT x := (tells_str Tryz.underlying9) p4 _ h4 z4
  refine ⟨⟨x0, x1, x2, x3, x4⟩, ?_, ⟨w0, w1, w2, w3, w4⟩⟩
  show [c0] ++ [c1] ++ [c2, c3, c4, c5] ++ [c6] ++ [c7] = ((encL encSt46 2) x0 ++ (encL encSt46 2) x1 ++ encSt33 x2 ++ (encI .i64) x3 ++ encT x4)
  rw [e0, e1, e2, e3, e4]
theorem wf_i64' {x : Int} (h : (Lit.int .i64 x).wf = true) : -9223372036854775808 ≤ x ∧ x ≤ 9223372036854775807 := by
  simp [Lit.wf, IntKind.min, IntKind.max, IntKind.signed, IntKind.bits] at h; omega
theorem rulesWf {a : List St46} (w : WfL WfSt46 a) : a.length ≤ 140737488355328 ∧ ∀ r ∈ a, (r.C_.length ≤ 140737488355328 ∧ ∀ row ∈ r.C_, row.length ≤ 140737488355328 ∧ ∀ y ∈ row, y.R_.length ≤ 140737488355328) ∧ (∀ row ∈ r.C_, ∀ y ∈ row, y.Mod_ ≤ 9223372036854775807 ∧ ∀ q ∈ y.R_, q.a0_ ≤ 9223372036854775807 ∧ q.a1_ ≤ 9223372036854775807) := by
  refine ⟨w.1, fun r hr => ?_⟩
  obtain ⟨_, w⟩ := w.2 r hr
  refine ⟨⟨w.1, fun row hr => ⟨(w.2 row hr).1, fun x hx => ?_⟩⟩, fun row hr x hx => ?_⟩
  · obtain ⟨_, _, _, h⟩ := (w.2 row hr).2 x hx
    exact h.1
  · obtain ⟨_, h2, _, h⟩ := (w.2 row hr).2 x hx
    refine ⟨(wf_i64' h2).2, fun r hrr => ?_⟩
    obtain ⟨g1, g2⟩ := h.2 r hrr
    exact ⟨(wf_i64' g1).2, (wf_i64' g2).2⟩
theorem shown_eq : exerguelaw12_shown = some true := by kernel_rfl
theorem Tells_true (x : St35) (w : WfSt35 x) : exerguelaw12_PlurTells x = some true := by
  obtain ⟨L, M, o, cat, name⟩ := x
  obtain ⟨wL, wM, ⟨wI, wF, _, _⟩, _, _⟩ := w
  obtain ⟨w1, w2⟩ := rulesWf wL
  obtain ⟨v1, v2⟩ := rulesWf wM
  have lI := wI.1
  have lF := wF.1
  simp only at w1 w2 v1 v2 lI lF wI wF
  unfold exerguelaw12_PlurTells
  rw [shown_eq]
  simp only
  obtain ⟨b, hb, hs⟩ := refshort12 w1 w2
  rw [hb]
  simp only [Option.bind_some]
  cases b with
  | false => rfl
  | true =>
    have hok := hs rfl
    obtain ⟨b2, hb2, hs2⟩ := refshort12 v1 v2
    rw [hb2]
    simp only [Bool.not_true, cond_false, Option.bind_some]
    cases b2 with
    | false => rfl
    | true =>
      have hok2 := hs2 rfl
      simp only [Bool.not_true, cond_false]
      by_cases hlen : (o.I_.length : Int) + (o.F_.length : Int) > 1000
      · rw [w64 (n := (o.I_.length : Int) + (o.F_.length : Int)) (by omega) (by omega), dT hlen]; rfl
      · rw [w64 (n := (o.I_.length : Int) + (o.F_.length : Int)) (by omega) (by omega), dF hlen]
        simp only [cond_false]
        by_cases hnm : (name.length : Int) > 50
        · rw [dT hnm]; rfl
        · rw [dF hnm, pcat_eq, rcat_eq, ref12right hok, pright12 hok, psame_eq hok.1 (fun r hr => (hok.2 r hr).2), rsame12_eq hok.1 (fun r hr => (hok.2 r hr).2), name_eq, rname_eq, rright_eq (by omega) (by omega)]
          simp only [cond_false, Option.bind_some, joinX, bne_self_eq_false, cond_true]
          rw [dF (show ¬ ¬ True from fun h => h trivial)]
          simp only [cond_false, Option.bind_some]
          cases hr : rr 0 L with
          | false => rfl
          | true =>
            obtain ⟨hch, hall⟩ := rr_chain L 0 hr
            have hco := rr_conds hok hall
            simp only [Bool.not_true, cond_false]
            cases hro : rightB o with
            | false => rfl
            | true =>
              have ho := operOk wI wF hro (by omega)
              simp only [Bool.not_true, cond_false]
              rw [of_eq ho hok.1 hco, rof_eq ho hok.1 hco]
              simp [joinX]

def laidD {H : Type} : List (String × DataW H) := [("math/bits.deBruijn32tab", Rows.laid_math_bits_deBruijn32tab), ("math/bits.deBruijn64tab", Rows.laid_math_bits_deBruijn64tab), ("internal/strconv.uint64pow10", Rows.laid_internal_strconv_uint64pow10)]
theorem door_met (os : Os) (args : Array Value) : laidMetH Tryz.prog laidD ((World.doorLaid Tryz.prog 4000 os).forCall (fun _ _ => 0) ⟨#[], args, []⟩).memory :=
  laidMetH_of_parts3 (fuel := 8) (laidMet_of_run' 8 (by kernel_rfl) (by kernel_rfl)) (by kernel_rfl) (by kernel_rfl)

/-- Package variables hold what they are said to. -/
theorem globs_ok {W : World} (hL : laidMetH Tryz.prog laidD W) : GlobOk W (KW W) fun _ => none := fun g cs h => by
  have hh : (laidD (H := Unit)).all (fun x => x.2.handleName?.isNone) = true := by kernel_rfl
  by_cases h1 : g = 1
  · subst h1
    obtain rfl := Option.some.inj (show some [.int .u64 1, .int .u64 10, .int .u64 100, .int .u64 1000, .int .u64 10000, .int .u64 100000, .int .u64 1000000, .int .u64 10000000, .int .u64 100000000, .int .u64 1000000000, .int .u64 10000000000, .int .u64 100000000000, .int .u64 1000000000000, .int .u64 10000000000000, .int .u64 100000000000000, .int .u64 1000000000000000, .int .u64 10000000000000000, .int .u64 100000000000000000, .int .u64 1000000000000000000, .int .u64 10000000000000000000] = some cs from h)
    exact glob_ints hh hL (nm := "internal/strconv.uint64pow10") (t := 135) (e := 113) (n := 20) (k := .u64) [1, 10, 100, 1000, 10000, 100000, 1000000, 10000000, 100000000, 1000000000, 10000000000, 100000000000, 1000000000000, 10000000000000, 100000000000000, 1000000000000000, 10000000000000000, 100000000000000000, 1000000000000000000, 10000000000000000000] (by unfold laidD; simp only [List.mem_cons, List.not_mem_nil, or_false]; first | exact Or.inl rfl | exact Or.inr (Or.inl rfl) | exact Or.inr (Or.inr (Or.inl rfl)) | exact Or.inr rfl | exact Or.inr (Or.inr rfl) | exact Or.inr (Or.inr (Or.inr rfl)) | rfl) (by kernel_rfl) (by kernel_rfl) Tryz.underlying135 Tryz.underlying113 (by kernel_rfl) (by kernel_rfl)
  by_cases h2 : g = 2
  · subst h2
    obtain rfl := Option.some.inj (show some [.int .u8 0, .int .u8 1, .int .u8 28, .int .u8 2, .int .u8 29, .int .u8 14, .int .u8 24, .int .u8 3, .int .u8 30, .int .u8 22, .int .u8 20, .int .u8 15, .int .u8 25, .int .u8 17, .int .u8 4, .int .u8 8, .int .u8 31, .int .u8 27, .int .u8 13, .int .u8 23, .int .u8 21, .int .u8 19, .int .u8 16, .int .u8 7, .int .u8 26, .int .u8 12, .int .u8 18, .int .u8 6, .int .u8 11, .int .u8 5, .int .u8 10, .int .u8 9] = some cs from h)
    exact glob_ints hh hL (nm := "math/bits.deBruijn32tab") (t := 144) (e := 5) (n := 32) (k := .u8) [0, 1, 28, 2, 29, 14, 24, 3, 30, 22, 20, 15, 25, 17, 4, 8, 31, 27, 13, 23, 21, 19, 16, 7, 26, 12, 18, 6, 11, 5, 10, 9] (by unfold laidD; simp only [List.mem_cons, List.not_mem_nil, or_false]; first | exact Or.inl rfl | exact Or.inr (Or.inl rfl) | exact Or.inr (Or.inr (Or.inl rfl)) | exact Or.inr rfl | exact Or.inr (Or.inr rfl) | exact Or.inr (Or.inr (Or.inr rfl)) | rfl) (by kernel_rfl) (by kernel_rfl) Tryz.underlying144 Tryz.underlying5 (by kernel_rfl) (by kernel_rfl)
  by_cases h3 : g = 3
  · subst h3
    obtain rfl := Option.some.inj (show some [.int .u8 0, .int .u8 1, .int .u8 56, .int .u8 2, .int .u8 57, .int .u8 49, .int .u8 28, .int .u8 3, .int .u8 61, .int .u8 58, .int .u8 42, .int .u8 50, .int .u8 38, .int .u8 29, .int .u8 17, .int .u8 4, .int .u8 62, .int .u8 47, .int .u8 59, .int .u8 36, .int .u8 45, .int .u8 43, .int .u8 51, .int .u8 22, .int .u8 53, .int .u8 39, .int .u8 33, .int .u8 30, .int .u8 24, .int .u8 18, .int .u8 12, .int .u8 5, .int .u8 63, .int .u8 55, .int .u8 48, .int .u8 27, .int .u8 60, .int .u8 41, .int .u8 37, .int .u8 16, .int .u8 46, .int .u8 35, .int .u8 44, .int .u8 21, .int .u8 52, .int .u8 32, .int .u8 23, .int .u8 11, .int .u8 54, .int .u8 26, .int .u8 40, .int .u8 15, .int .u8 34, .int .u8 20, .int .u8 31, .int .u8 10, .int .u8 25, .int .u8 14, .int .u8 19, .int .u8 9, .int .u8 13, .int .u8 8, .int .u8 7, .int .u8 6] = some cs from h)
    exact glob_ints hh hL (nm := "math/bits.deBruijn64tab") (t := 145) (e := 5) (n := 64) (k := .u8) [0, 1, 56, 2, 57, 49, 28, 3, 61, 58, 42, 50, 38, 29, 17, 4, 62, 47, 59, 36, 45, 43, 51, 22, 53, 39, 33, 30, 24, 18, 12, 5, 63, 55, 48, 27, 60, 41, 37, 16, 46, 35, 44, 21, 52, 32, 23, 11, 54, 26, 40, 15, 34, 20, 31, 10, 25, 14, 19, 9, 13, 8, 7, 6] (by unfold laidD; simp only [List.mem_cons, List.not_mem_nil, or_false]; first | exact Or.inl rfl | exact Or.inr (Or.inl rfl) | exact Or.inr (Or.inr (Or.inl rfl)) | exact Or.inr rfl | exact Or.inr (Or.inr rfl) | exact Or.inr (Or.inr (Or.inr rfl)) | rfl) (by kernel_rfl) (by kernel_rfl) Tryz.underlying145 Tryz.underlying5 (by kernel_rfl) (by kernel_rfl)
  exfalso
  have : gtabs g = none := by
    unfold gtabs
    split <;> first | rfl | (exfalso; simp_all)
  rw [show gtab g = gtabs g from rfl, this] at h
  cases h

set_option maxRecDepth 100000 in
theorem PlurTells_lifted (os : Os) (started : os.Started) (H : Type) (enc : TypeId × Value → H) :
    ReturnsInHanded {} Tryz.checked os 4 .any (fun w args => (Rows.plurTellsSpec.pre enc Tryz.prog Tryz.f4 [] false w args ∧ laidMetH Tryz.prog laidD w) ∧ sizedMet enc Tryz.prog Tryz.f4 (OpenSpec.ofChange Rows.plurTellsSpec) false w args) (Rows.plurTellsSpec.post enc Tryz.prog Tryz.f4 false true false false) := by
  refine returnsInHanded_of_change_and (C := Tryz.checked) (X := fun w _ => laidMetH Tryz.prog laidD w) (fun _ _ _ hh h => h.of_heap hh) Tryz.own started (by kernel_rfl) Tryz.func4
    (ChangeSpec.witness_shaped (enc := enc) (C := Tryz.checked) (os := os) (X := fun w _ => laidMetH Tryz.prog laidD w) false (World.doorLaid Tryz.prog 4000 os) #[.agg #[.slice none 0 0, .slice none 0 0, .slice none 0 0, .slice none 0 0, .int .i64 0, .int .i64 0, .int .i64 0, .string ⟨#[]⟩]] 8 rfl (World.shaped_of_RefB (by kernel_rfl) (by kernel_rfl)) (by kernel_rfl) (by kernel_rfl) (by kernel_rfl) (door_met os _)) ?_
  intro W base args ds gs before hval0 hW _ hsz0 hL _
  have hsz : (DataW.weightsEach Tryz.prog (Tryz.f4.params.toList ++ Rows.plurTellsSpec.plain.varTypes Tryz.prog) (ds ++ gs)).all (· ≤ reachBytes) = true := hsz0
  clear hsz0
  refine law_post (P := Tryz.prog) (n := 9) (tb := 4) Tryz.laidOut Tryz.underlying4 rfl rfl (by kernel_rfl) (fun h => ?_) hval0 hW ?_ (globs_ok hL)
  · rw [Tryz.params4] at h
    obtain ⟨d0, rfl⟩ := l1 h
    exact ⟨rfl, rfl, rfl⟩
  · intro ss hg hl1 hl2 hs
    subst hg
    rw [Tryz.params4] at hl1 hl2 hs hsz
    obtain ⟨d0, rfl⟩ := l1 hl1
    obtain ⟨s0, rfl⟩ := l1 hl2
    obtain ⟨cs0, rfl, hc0⟩ := showsV_struct Tryz.underlying36 (hs 0 36 _ _ rfl rfl rfl)
    obtain ⟨a0, rfl, w0⟩ := tells_T36 (n := 0) _ _ hc0 (sized_param hsz (j := 0) rfl rfl)
    exact ⟨[], exerguelaw12_PlurTells_ok (Tells_true a0 w0)⟩
theorem PlurTells_row : Rows.PlurTellsSaid :=
  OpenClaim.holds_of_wide 4 Tryz.f4 rfl rfl rfl rfl rfl rfl rfl ⟨rfl, rfl, rfl, rfl, rfl⟩ rfl rfl rfl rfl rfl (by kernel_rfl) Tryz.func4 (by kernel_rfl)
    (of_decide_eq_true (by kernel_rfl)) (by unfold Func.isWrapper; first | (rw [if_pos (by decide +kernel)]; kernel_rfl) | (rw [if_neg (by decide +kernel)]; exact ⟨rfl, rfl⟩))
    (fun os started H enc _ => PlurTells_lifted os started H enc)

theorem PlurTells_holds : Rows.PlurTellsCardSaid :=
  Claim7.holds_tied_plain_at .later [] [.data, .data, .data] true (true, "1df901756edcb7090dca3586d182771b87d59cff0259e4c5cc235352d138d1ff") false
    PlurTells_row (fun _ h => by cases h) (by kernel_rfl) (fun _ h => by cases h) plurTells_row_tie rfl ⟨rfl, rfl⟩ (by kernel_rfl) rfl
    (fun f fn hf hfn => by
      obtain rfl : f = 4 := Option.some.inj ((show Tryz.prog.funcNamed "exergue/exerguelaw12.PlurTells" = some 4 by kernel_rfl).symm.trans hf) |>.symm
      obtain rfl : fn = Tryz.f4 := (Option.some.inj (Tryz.func4.symm.trans hfn)).symm
      exact ⟨by kernel_rfl, fun j t ht => by
        rw [Tryz.params4] at ht
        have hm : t ∈ [36] := by simpa using Array.mem_of_getElem? ht
        have hall : ([36].all fun u => !Tryz.prog.wantsStandIn u) = true := by kernel_rfl
        exact (show Tryz.prog.wantsStandIn t = false by simpa using List.all_eq_true.1 hall t hm)⟩)
    (by kernel_rfl)

end Go.Proofs.YteaokhdkocddcaaGreatDoor
