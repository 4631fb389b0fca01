/-
  The statement PlurSamesCard is proved: at every input the law answers true, and its input reads as it did. Conditions: those of the card (package variables are as the program text lays them).
-/
import Derived.Test.YteaokhdkocddcaaDoorP
import Derived.Test.YteaokhdkocddcaaDoorSyGL
import Derived.Test.YteaokhdkocddcaaDoorCards
import Derived.Test.YteaokhdkocddcaaDoorTie
import Derived.ProofKit
import Derived.SizedLaws
import Derived.LaidMore
import Derived.SevenTiedAt
namespace Go.Proofs.YteaokhdkocddcaaDoor
open Go Go.Sy Go.RowKit Go.ChangeShapes Go.WideShapes Go.ChangeAt
set_option linter.unusedVariables false
set_option linter.unusedSimpArgs false
set_option maxRecDepth 100000
set_option maxHeartbeats 4000000

theorem Tryd.own : ownKnob Tryd.prog.godebug = none := by kernel_rfl
theorem Tryd.laidOut : laidOutB Tryd.prog = true := by kernel_rfl

theorem listN2 {α : Type} {l : List α} (h : l.length = 2) : ∃ a0 a1, l = [a0, a1] := by
  match l, h with
  | [a0, a1], _ => exact ⟨a0, a1, rfl⟩
theorem listN4 {α : Type} {l : List α} (h : l.length = 4) : ∃ a0 a1 a2 a3, l = [a0, a1, a2, a3] := by
  match l, h with
  | [a0, a1, a2, a3], _ => exact ⟨a0, a1, a2, a3, rfl⟩
/-- Its numbers are numbers of their kinds, its lists no longer than memory. -/
def WfSt73 (x : St73) : Prop := (WfI .i64) x.a0_ ∧ (WfI .i64) x.a1_
theorem tells_T73 {n : Nat} : Tells Tryd.prog (n + 2) 73 encSt73 WfSt73 := fun d cs h hs => by
  have hl : cs.length = 2 := (shows_alen Tryd.underlying73 h).trans (by kernel_rfl)
  obtain ⟨c0, c1, rfl⟩ := listN2 hl
  obtain ⟨p0, h0, z0⟩ := shows_elem Tryd.underlying73 h hs 0 [c0] (by kernel_rfl) (by kernel_rfl)
  obtain ⟨x0, e0, w0⟩ : ∃ x : Int, [c0] = (encI .i64) x ∧ (WfI .i64) x := (tells_int Tryd.underlying3) p0 _ h0 z0
  obtain ⟨p1, h1, z1⟩ := shows_elem Tryd.underlying73 h hs 1 [c1] (by kernel_rfl) (by kernel_rfl)
  obtain ⟨x1, e1, w1⟩ : ∃ x : Int, [c1] = (encI .i64) x ∧ (WfI .i64) x := (tells_int Tryd.underlying3) p1 _ h1 z1
  refine ⟨⟨x0, x1⟩, ?_, ⟨w0, w1⟩⟩
  show [c0] ++ [c1] = ((encI .i64) x0 ++ (encI .i64) x1)
  rw [e0, e1]
/-- Its numbers are numbers of their kinds, its lists no longer than memory. -/
def WfSt71 (x : St71) : Prop := (WfI .u8) x.Op_ ∧ (WfI .i64) x.Mod_ ∧ WfB x.Not_ ∧ (WfL WfSt73) x.R_
theorem tells_T72 {n : Nat} : Tells Tryd.prog (n + 4) 72 encSt71 WfSt71 := fun d cs h hs => by
  have hl : cs.length = 4 := (shows_len Tryd.underlying72 h).trans (by kernel_rfl)
  obtain ⟨c0, c1, c2, c3, rfl⟩ := listN4 hl
  obtain ⟨p0, h0, z0⟩ := shows_field Tryd.underlying72 h hs 0 5 [c0] (by kernel_rfl)
  obtain ⟨x0, e0, w0⟩ : ∃ x : Int, [c0] = (encI .u8) x ∧ (WfI .u8) x := (tells_int Tryd.underlying5) p0 _ h0 z0
  obtain ⟨p1, h1, z1⟩ := shows_field Tryd.underlying72 h hs 1 3 [c1] (by kernel_rfl)
  obtain ⟨x1, e1, w1⟩ : ∃ x : Int, [c1] = (encI .i64) x ∧ (WfI .i64) x := (tells_int Tryd.underlying3) p1 _ h1 z1
  obtain ⟨p2, h2, z2⟩ := shows_field Tryd.underlying72 h hs 2 4 [c2] (by kernel_rfl)
  obtain ⟨x2, e2, w2⟩ : ∃ x : Bool, [c2] = encB x ∧ WfB x := (tells_bool Tryd.underlying4) p2 _ h2 z2
  obtain ⟨p3, h3, z3⟩ := shows_field Tryd.underlying72 h hs 3 70 [c3] (by kernel_rfl)
  obtain ⟨x3, e3, w3⟩ : ∃ x : List St73, [c3] = (encL encSt73 2) x ∧ (WfL WfSt73) x := (tells_list (enc := encSt73) (Wf := WfSt73) Tryd.underlying70 (k := 2) (by kernel_rfl) (by kernel_rfl) tells_T73) p3 _ h3 z3
  refine ⟨⟨x0, x1, x2, x3⟩, ?_, ⟨w0, w1, w2, w3⟩⟩
  show [c0] ++ [c1] ++ [c2] ++ [c3] = ((encI .u8) x0 ++ (encI .i64) x1 ++ encB x2 ++ (encL encSt73 2) x3)
  rw [e0, e1, e2, e3]
/-- Its numbers are numbers of their kinds, its lists no longer than memory. -/
def WfSt36 (x : St36) : Prop := (WfI .i64) x.Cat_ ∧ (WfL (WfL WfSt71)) x.C_
theorem tells_T37 {n : Nat} : Tells Tryd.prog (n + 7) 37 encSt36 WfSt36 := fun d cs h hs => by
  have hl : cs.length = 2 := (shows_len Tryd.underlying37 h).trans (by kernel_rfl)
  obtain ⟨c0, c1, rfl⟩ := listN2 hl
  obtain ⟨p0, h0, z0⟩ := shows_field Tryd.underlying37 h hs 0 3 [c0] (by kernel_rfl)
  obtain ⟨x0, e0, w0⟩ : ∃ x : Int, [c0] = (encI .i64) x ∧ (WfI .i64) x := (tells_int Tryd.underlying3) p0 _ h0 z0
  obtain ⟨p1, h1, z1⟩ := shows_field Tryd.underlying37 h hs 1 35 [c1] (by kernel_rfl)
  obtain ⟨x1, e1, w1⟩ : ∃ x : List (List St71), [c1] = (encL (encL encSt71 4) 1) x ∧ (WfL (WfL WfSt71)) x := (tells_list (enc := (encL encSt71 4)) (Wf := (WfL WfSt71)) Tryd.underlying35 (k := 1) (by kernel_rfl) (by kernel_rfl) (tells_list (enc := encSt71) (Wf := WfSt71) Tryd.underlying69 (k := 4) (by kernel_rfl) (by kernel_rfl) tells_T72)) p1 _ h1 z1
  refine ⟨⟨x0, x1⟩, ?_, ⟨w0, w1⟩⟩
  show [c0] ++ [c1] = ((encI .i64) x0 ++ (encL (encL encSt71 4) 1) x1)
  rw [e0, e1]
theorem wf_i64' {x : Int} (h : (Lit.int .i64 x).wf = true) : -9223372036854775808 ≤ x ∧ x ≤ 9223372036854775807 := by
  simp [Lit.wf, IntKind.min, IntKind.max, IntKind.signed, IntKind.bits] at h; omega
theorem rulesWf {a : List St36} (w : WfL WfSt36 a) : a.length ≤ 140737488355328 ∧ ∀ r ∈ a, (r.C_.length ≤ 140737488355328 ∧ ∀ row ∈ r.C_, row.length ≤ 140737488355328 ∧ ∀ y ∈ row, y.R_.length ≤ 140737488355328) ∧ (∀ row ∈ r.C_, ∀ y ∈ row, y.Mod_ ≤ 9223372036854775807 ∧ ∀ q ∈ y.R_, q.a0_ ≤ 9223372036854775807 ∧ q.a1_ ≤ 9223372036854775807) := by
  refine ⟨w.1, fun r hr => ?_⟩
  obtain ⟨_, w⟩ := w.2 r hr
  refine ⟨⟨w.1, fun row hr => ⟨(w.2 row hr).1, fun x hx => ?_⟩⟩, fun row hr x hx => ?_⟩
  · obtain ⟨_, _, _, h⟩ := (w.2 row hr).2 x hx
    exact h.1
  · obtain ⟨_, h2, _, h⟩ := (w.2 row hr).2 x hx
    refine ⟨(wf_i64' h2).2, fun r hrr => ?_⟩
    obtain ⟨g1, g2⟩ := h.2 r hrr
    exact ⟨(wf_i64' g1).2, (wf_i64' g2).2⟩
theorem shown_eq : exerguelaw12_shown = some true := by kernel_rfl
theorem Sames_true (a : List St36) (w : WfL WfSt36 a) (k : Int) (wk : WfI .i64 k) (c : Int) (wc : WfI .i64 c) : exerguelaw12_PlurSames a k c = some true := by
  obtain ⟨w1, w2⟩ := rulesWf w
  unfold exerguelaw12_PlurSames
  rw [shown_eq]
  obtain ⟨b, hb, hs⟩ := refshort12 w1 w2
  rw [hb]
  simp only [Option.bind_some]
  cases b with
  | false => rfl
  | true =>
    have hok := hs rfl
    have hl := hok.1
    have hle : ∀ r ∈ a, lenOk r.C_ := fun r hr => (hok.2 r hr).2
    by_cases h1 : k < 0
    · rw [dT h1]; rfl
    · rw [dF h1]
      by_cases h2 : k ≥ (a.length : Int)
      · rw [dT h2]; rfl
      · rw [dF h2]
        obtain ⟨i, rfl⟩ : ∃ i : Nat, k = i := ⟨k.toNat, by omega⟩
        have hi : i < a.length := by omega
        simp only [Bool.not_true, cond_false, Option.bind_some, joinX, cond_true]
        have hset : setAt a (i : Int) ({ (nth a (i : Int)) with Cat_ := c } : St36) = a.set i ({ a[i] with Cat_ := c } : St36) := by
          unfold setAt
          rw [nth_nat hi]; simp
        have hsl : (a.set i ({ a[i] with Cat_ := c } : St36)).length = a.length := by simp
        have hcut : cut a 0 ((a.length : Int) - 1) = a.take (a.length - 1) := by
          unfold cut
          rw [show ((a.length : Int) - 1).toNat = a.length - 1 by omega]; simp
        rw [room_of (by omega), inR_nat hi, psame_eq (x := a) (y := a) (by omega) hle, w64 (by omega) (by omega), inS_of (by omega) (by omega) (by omega), hcut]
        simp only [cond_true, Option.bind_some]
        simp only [decide_true, cond_true]
        rw [psame_eq (by omega) hle, dF (show ¬ a = a.take (a.length - 1) from fun h => by
          have := congrArg List.length h
          rw [List.length_take] at this
          omega)]
        simp only [Option.bind_some, Bool.not_false, cond_true]
        rw [hset, psame_eq (by omega) hle, nth_nat hi]
        simp only [Option.bind_some]
        congr 1
        rw [beq_iff_eq, decide_eq_decide]
        constructor
        · intro h
          have h3 := congrArg (fun l => l[i]?) h
          simp only [List.getElem?_eq_getElem hi, List.getElem?_set_self hi, Option.some.injEq] at h3
          rw [h3]
        · intro h
          rw [← h]
          exact (List.set_getElem_self hi).symm

def laidD {H : Type} : List (String × DataW H) := [("math/bits.deBruijn32tab", Rows.laid_math_bits_deBruijn32tab), ("math/bits.deBruijn64tab", Rows.laid_math_bits_deBruijn64tab), ("internal/strconv.uint64pow10", Rows.laid_internal_strconv_uint64pow10)]
theorem door_met (os : Os) (args : Array Value) : laidMetH Tryd.prog laidD ((World.doorLaid Tryd.prog 4000 os).forCall (fun _ _ => 0) ⟨#[], args, []⟩).memory :=
  laidMetH_of_parts3 (fuel := 8) (laidMet_of_run' 8 (by kernel_rfl) (by kernel_rfl)) (by kernel_rfl) (by kernel_rfl)

/-- Package variables hold what they are said to. -/
theorem globs_ok {W : World} (hL : laidMetH Tryd.prog laidD W) : GlobOk W (KW W) fun _ => none := fun g cs h => by
  have hh : (laidD (H := Unit)).all (fun x => x.2.handleName?.isNone) = true := by kernel_rfl
  by_cases h1 : g = 1
  · subst h1
    obtain rfl := Option.some.inj (show some [.int .u64 1, .int .u64 10, .int .u64 100, .int .u64 1000, .int .u64 10000, .int .u64 100000, .int .u64 1000000, .int .u64 10000000, .int .u64 100000000, .int .u64 1000000000, .int .u64 10000000000, .int .u64 100000000000, .int .u64 1000000000000, .int .u64 10000000000000, .int .u64 100000000000000, .int .u64 1000000000000000, .int .u64 10000000000000000, .int .u64 100000000000000000, .int .u64 1000000000000000000, .int .u64 10000000000000000000] = some cs from h)
    exact glob_ints hh hL (nm := "internal/strconv.uint64pow10") (t := 131) (e := 118) (n := 20) (k := .u64) [1, 10, 100, 1000, 10000, 100000, 1000000, 10000000, 100000000, 1000000000, 10000000000, 100000000000, 1000000000000, 10000000000000, 100000000000000, 1000000000000000, 10000000000000000, 100000000000000000, 1000000000000000000, 10000000000000000000] (by unfold laidD; simp only [List.mem_cons, List.not_mem_nil, or_false]; first | exact Or.inl rfl | exact Or.inr (Or.inl rfl) | exact Or.inr (Or.inr (Or.inl rfl)) | exact Or.inr rfl | exact Or.inr (Or.inr rfl) | exact Or.inr (Or.inr (Or.inr rfl)) | rfl) (by kernel_rfl) (by kernel_rfl) Tryd.underlying131 Tryd.underlying118 (by kernel_rfl) (by kernel_rfl)
  by_cases h2 : g = 2
  · subst h2
    obtain rfl := Option.some.inj (show some [.int .u8 0, .int .u8 1, .int .u8 28, .int .u8 2, .int .u8 29, .int .u8 14, .int .u8 24, .int .u8 3, .int .u8 30, .int .u8 22, .int .u8 20, .int .u8 15, .int .u8 25, .int .u8 17, .int .u8 4, .int .u8 8, .int .u8 31, .int .u8 27, .int .u8 13, .int .u8 23, .int .u8 21, .int .u8 19, .int .u8 16, .int .u8 7, .int .u8 26, .int .u8 12, .int .u8 18, .int .u8 6, .int .u8 11, .int .u8 5, .int .u8 10, .int .u8 9] = some cs from h)
    exact glob_ints hh hL (nm := "math/bits.deBruijn32tab") (t := 140) (e := 5) (n := 32) (k := .u8) [0, 1, 28, 2, 29, 14, 24, 3, 30, 22, 20, 15, 25, 17, 4, 8, 31, 27, 13, 23, 21, 19, 16, 7, 26, 12, 18, 6, 11, 5, 10, 9] (by unfold laidD; simp only [List.mem_cons, List.not_mem_nil, or_false]; first | exact Or.inl rfl | exact Or.inr (Or.inl rfl) | exact Or.inr (Or.inr (Or.inl rfl)) | exact Or.inr rfl | exact Or.inr (Or.inr rfl) | exact Or.inr (Or.inr (Or.inr rfl)) | rfl) (by kernel_rfl) (by kernel_rfl) Tryd.underlying140 Tryd.underlying5 (by kernel_rfl) (by kernel_rfl)
  by_cases h3 : g = 3
  · subst h3
    obtain rfl := Option.some.inj (show some [.int .u8 0, .int .u8 1, .int .u8 56, .int .u8 2, .int .u8 57, .int .u8 49, .int .u8 28, .int .u8 3, .int .u8 61, .int .u8 58, .int .u8 42, .int .u8 50, .int .u8 38, .int .u8 29, .int .u8 17, .int .u8 4, .int .u8 62, .int .u8 47, .int .u8 59, .int .u8 36, .int .u8 45, .int .u8 43, .int .u8 51, .int .u8 22, .int .u8 53, .int .u8 39, .int .u8 33, .int .u8 30, .int .u8 24, .int .u8 18, .int .u8 12, .int .u8 5, .int .u8 63, .int .u8 55, .int .u8 48, .int .u8 27, .int .u8 60, .int .u8 41, .int .u8 37, .int .u8 16, .int .u8 46, .int .u8 35, .int .u8 44, .int .u8 21, .int .u8 52, .int .u8 32, .int .u8 23, .int .u8 11, .int .u8 54, .int .u8 26, .int .u8 40, .int .u8 15, .int .u8 34, .int .u8 20, .int .u8 31, .int .u8 10, .int .u8 25, .int .u8 14, .int .u8 19, .int .u8 9, .int .u8 13, .int .u8 8, .int .u8 7, .int .u8 6] = some cs from h)
    exact glob_ints hh hL (nm := "math/bits.deBruijn64tab") (t := 141) (e := 5) (n := 64) (k := .u8) [0, 1, 56, 2, 57, 49, 28, 3, 61, 58, 42, 50, 38, 29, 17, 4, 62, 47, 59, 36, 45, 43, 51, 22, 53, 39, 33, 30, 24, 18, 12, 5, 63, 55, 48, 27, 60, 41, 37, 16, 46, 35, 44, 21, 52, 32, 23, 11, 54, 26, 40, 15, 34, 20, 31, 10, 25, 14, 19, 9, 13, 8, 7, 6] (by unfold laidD; simp only [List.mem_cons, List.not_mem_nil, or_false]; first | exact Or.inl rfl | exact Or.inr (Or.inl rfl) | exact Or.inr (Or.inr (Or.inl rfl)) | exact Or.inr rfl | exact Or.inr (Or.inr rfl) | exact Or.inr (Or.inr (Or.inr rfl)) | rfl) (by kernel_rfl) (by kernel_rfl) Tryd.underlying141 Tryd.underlying5 (by kernel_rfl) (by kernel_rfl)
  exfalso
  have : gtabs g = none := by
    unfold gtabs
    split <;> first | rfl | (exfalso; simp_all)
  rw [show gtab g = gtabs g from rfl, this] at h
  cases h

set_option maxRecDepth 100000 in
theorem PlurSames_lifted (os : Os) (started : os.Started) (H : Type) (enc : TypeId × Value → H) :
    ReturnsInHanded {} Tryd.checked os 4 .any (fun w args => (Rows.plurSamesSpec.pre enc Tryd.prog Tryd.f4 [] false w args ∧ laidMetH Tryd.prog laidD w) ∧ sizedMet enc Tryd.prog Tryd.f4 (OpenSpec.ofChange Rows.plurSamesSpec) false w args) (Rows.plurSamesSpec.post enc Tryd.prog Tryd.f4 false true false false) := by
  refine returnsInHanded_of_change_and (C := Tryd.checked) (X := fun w _ => laidMetH Tryd.prog laidD w) (fun _ _ _ hh h => h.of_heap hh) Tryd.own started (by kernel_rfl) Tryd.func4
    (ChangeSpec.witness_shaped (enc := enc) (C := Tryd.checked) (os := os) (X := fun w _ => laidMetH Tryd.prog laidD w) false (World.doorLaid Tryd.prog 4000 os) #[.slice none 0 0, .int .i64 0, .int .i64 0] 8 rfl (World.shaped_of_RefB (by kernel_rfl) (by kernel_rfl)) (by kernel_rfl) (by kernel_rfl) (by kernel_rfl) (door_met os _)) ?_
  intro W base args ds gs before hval0 hW _ hsz0 hL _
  have hsz : (DataW.weightsEach Tryd.prog (Tryd.f4.params.toList ++ Rows.plurSamesSpec.plain.varTypes Tryd.prog) (ds ++ gs)).all (· ≤ reachBytes) = true := hsz0
  clear hsz0
  refine law_post (P := Tryd.prog) (n := 8) (tb := 4) Tryd.laidOut Tryd.underlying4 rfl rfl (by kernel_rfl) (fun h => ?_) hval0 hW ?_ (globs_ok hL)
  · rw [Tryd.params4] at h
    obtain ⟨d0, d1, d2, rfl⟩ := l3 h
    exact ⟨rfl, rfl, rfl⟩
  · intro ss hg hl1 hl2 hs
    subst hg
    rw [Tryd.params4] at hl1 hl2 hs hsz
    obtain ⟨d0, d1, d2, rfl⟩ := l3 hl1
    obtain ⟨s0, s1, s2, rfl⟩ := l3 hl2
    obtain ⟨a0, e0, w0⟩ := (show Tells Tryd.prog 8 28 (encL encSt36 2) (WfL WfSt36) from (tells_list (enc := encSt36) (Wf := WfSt36) Tryd.underlying28 (k := 2) (by kernel_rfl) (by kernel_rfl) tells_T37)) _ _ (showsV_scalar Tryd.underlying28 (fun _ => by simp) (fun _ _ => by simp) (hs 0 28 _ _ rfl rfl rfl)) (sized_param hsz (j := 0) rfl rfl)
    obtain rfl : s0 = lsv encSt36 2 a0 := (List.cons.inj e0).1
    obtain ⟨a1, e1, w1⟩ := (show Tells Tryd.prog 8 3 (encI .i64) (WfI .i64) from (tells_int Tryd.underlying3)) _ _ (showsV_scalar Tryd.underlying3 (fun _ => by simp) (fun _ _ => by simp) (hs 1 3 _ _ rfl rfl rfl)) (sized_param hsz (j := 1) rfl rfl)
    obtain rfl : s1 = .int .i64 a1 := (List.cons.inj e1).1
    obtain ⟨a2, e2, w2⟩ := (show Tells Tryd.prog 8 3 (encI .i64) (WfI .i64) from (tells_int Tryd.underlying3)) _ _ (showsV_scalar Tryd.underlying3 (fun _ => by simp) (fun _ _ => by simp) (hs 2 3 _ _ rfl rfl rfl)) (sized_param hsz (j := 2) rfl rfl)
    obtain rfl : s2 = .int .i64 a2 := (List.cons.inj e2).1
    exact ⟨[], exerguelaw12_PlurSames_ok (Sames_true a0 w0 a1 w1 a2 w2)⟩
theorem PlurSames_row : Rows.PlurSamesSaid :=
  OpenClaim.holds_of_wide 4 Tryd.f4 rfl rfl rfl rfl rfl rfl rfl ⟨rfl, rfl, rfl, rfl, rfl⟩ rfl rfl rfl rfl rfl (by kernel_rfl) Tryd.func4 (by kernel_rfl)
    (of_decide_eq_true (by kernel_rfl)) (by unfold Func.isWrapper; first | (rw [if_pos (by decide +kernel)]; kernel_rfl) | (rw [if_neg (by decide +kernel)]; exact ⟨rfl, rfl⟩))
    (fun os started H enc _ => PlurSames_lifted os started H enc)

theorem PlurSames_holds : Rows.PlurSamesCardSaid :=
  Claim7.holds_tied_plain_at .later [] [.data, .data, .data] true (true, "603a443b9f164538e0739a3ea5e8106252434e29fdafd7d40ff0f4cd6fa4a95a") false
    PlurSames_row (fun _ h => by cases h) (by kernel_rfl) (fun _ h => by cases h) plurSames_row_tie rfl ⟨rfl, rfl⟩ (by kernel_rfl) rfl
    (fun f fn hf hfn => by
      obtain rfl : f = 4 := Option.some.inj ((show Tryd.prog.funcNamed "exergue/exerguelaw12.PlurSames" = some 4 by kernel_rfl).symm.trans hf) |>.symm
      obtain rfl : fn = Tryd.f4 := (Option.some.inj (Tryd.func4.symm.trans hfn)).symm
      exact ⟨by kernel_rfl, fun j t ht => by
        rw [Tryd.params4] at ht
        have hm : t ∈ [28, 3, 3] := by simpa using Array.mem_of_getElem? ht
        have hall : ([28, 3, 3].all fun u => !Tryd.prog.wantsStandIn u) = true := by kernel_rfl
        exact (show Tryd.prog.wantsStandIn t = false by simpa using List.all_eq_true.1 hall t hm)⟩)
    (by kernel_rfl)

end Go.Proofs.YteaokhdkocddcaaDoor
