/-
  The statement RuleTellsCard is proved: at every input the law answers true, and its input reads as it did. Conditions: those of the card (package variables are as the program text lays them).
-/
import Derived.Test.YthpnbgbignjlpaaGreatDoorP
import Derived.Test.YthpnbgbignjlpaaGreatDoorSyGL
import Derived.Test.YthpnbgbignjlpaaGreatDoorCards
import Derived.Test.YthpnbgbignjlpaaGreatDoorTie
import Derived.ProofKit
import Derived.SizedLaws
import Derived.LaidMore
import Derived.SevenTiedAt
namespace Go.Proofs.YthpnbgbignjlpaaGreatDoor
open Go Go.Sy Go.RowKit Go.ChangeShapes Go.WideShapes Go.ChangeAt
set_option linter.unusedVariables false
set_option linter.unusedSimpArgs false
set_option maxRecDepth 100000
set_option maxHeartbeats 4000000

theorem Tryz.own : ownKnob Tryz.prog.godebug = none := by kernel_rfl
theorem Tryz.laidOut : laidOutB Tryz.prog = true := by kernel_rfl

theorem listN2 {α : Type} {l : List α} (h : l.length = 2) : ∃ a0 a1, l = [a0, a1] := by
  match l, h with
  | [a0, a1], _ => exact ⟨a0, a1, rfl⟩
theorem listN4 {α : Type} {l : List α} (h : l.length = 4) : ∃ a0 a1 a2 a3, l = [a0, a1, a2, a3] := by
  match l, h with
  | [a0, a1, a2, a3], _ => exact ⟨a0, a1, a2, a3, rfl⟩
/-- Its numbers are numbers of their kinds, its lists no longer than memory. -/
def WfSt41 (x : St41) : Prop := (WfI .i64) x.a0_ ∧ (WfI .i64) x.a1_
theorem tells_T41 {n : Nat} : Tells Tryz.prog (n + 2) 41 encSt41 WfSt41 := fun d cs h hs => by
  have hl : cs.length = 2 := (shows_alen Tryz.underlying41 h).trans (by kernel_rfl)
  obtain ⟨c0, c1, rfl⟩ := listN2 hl
  obtain ⟨p0, h0, z0⟩ := shows_elem Tryz.underlying41 h hs 0 [c0] (by kernel_rfl) (by kernel_rfl)
  obtain ⟨x0, e0, w0⟩ : ∃ x : Int, [c0] = (encI .i64) x ∧ (WfI .i64) x := (tells_int Tryz.underlying3) p0 _ h0 z0
  obtain ⟨p1, h1, z1⟩ := shows_elem Tryz.underlying41 h hs 1 [c1] (by kernel_rfl) (by kernel_rfl)
  obtain ⟨x1, e1, w1⟩ : ∃ x : Int, [c1] = (encI .i64) x ∧ (WfI .i64) x := (tells_int Tryz.underlying3) p1 _ h1 z1
  refine ⟨⟨x0, x1⟩, ?_, ⟨w0, w1⟩⟩
  show [c0] ++ [c1] = ((encI .i64) x0 ++ (encI .i64) x1)
  rw [e0, e1]
/-- Its numbers are numbers of their kinds, its lists no longer than memory. -/
def WfSt39 (x : St39) : Prop := (WfI .u8) x.Op_ ∧ (WfI .i64) x.Mod_ ∧ WfB x.Not_ ∧ (WfL WfSt41) x.R_
theorem tells_T40 {n : Nat} : Tells Tryz.prog (n + 4) 40 encSt39 WfSt39 := fun d cs h hs => by
  have hl : cs.length = 4 := (shows_len Tryz.underlying40 h).trans (by kernel_rfl)
  obtain ⟨c0, c1, c2, c3, rfl⟩ := listN4 hl
  obtain ⟨p0, h0, z0⟩ := shows_field Tryz.underlying40 h hs 0 5 [c0] (by kernel_rfl)
  obtain ⟨x0, e0, w0⟩ : ∃ x : Int, [c0] = (encI .u8) x ∧ (WfI .u8) x := (tells_int Tryz.underlying5) p0 _ h0 z0
  obtain ⟨p1, h1, z1⟩ := shows_field Tryz.underlying40 h hs 1 3 [c1] (by kernel_rfl)
  obtain ⟨x1, e1, w1⟩ : ∃ x : Int, [c1] = (encI .i64) x ∧ (WfI .i64) x := (tells_int Tryz.underlying3) p1 _ h1 z1
  obtain ⟨p2, h2, z2⟩ := shows_field Tryz.underlying40 h hs 2 4 [c2] (by kernel_rfl)
  obtain ⟨x2, e2, w2⟩ : ∃ x : Bool, [c2] = encB x ∧ WfB x := (tells_bool Tryz.underlying4) p2 _ h2 z2
  obtain ⟨p3, h3, z3⟩ := shows_field Tryz.underlying40 h hs 3 38 [c3] (by kernel_rfl)
  obtain ⟨x3, e3, w3⟩ : ∃ x : List St41, [c3] = (encL encSt41 2) x ∧ (WfL WfSt41) x := (tells_list (enc := encSt41) (Wf := WfSt41) Tryz.underlying38 (k := 2) (by kernel_rfl) (by kernel_rfl) tells_T41) p3 _ h3 z3
  refine ⟨⟨x0, x1, x2, x3⟩, ?_, ⟨w0, w1, w2, w3⟩⟩
  show [c0] ++ [c1] ++ [c2] ++ [c3] = ((encI .u8) x0 ++ (encI .i64) x1 ++ encB x2 ++ (encL encSt41 2) x3)
  rw [e0, e1, e2, e3]
/-- Its numbers are numbers of their kinds, its lists no longer than memory. -/
def WfSt25 (x : St25) : Prop := (WfL (WfI .u8)) x.I_ ∧ (WfL (WfI .u8)) x.F_ ∧ (WfI .i64) x.W_ ∧ (WfI .i64) x.C_
theorem tells_T26 {n : Nat} : Tells Tryz.prog (n + 3) 26 encSt25 WfSt25 := fun d cs h hs => by
  have hl : cs.length = 4 := (shows_len Tryz.underlying26 h).trans (by kernel_rfl)
  obtain ⟨c0, c1, c2, c3, rfl⟩ := listN4 hl
  obtain ⟨p0, h0, z0⟩ := shows_field Tryz.underlying26 h hs 0 24 [c0] (by kernel_rfl)
  obtain ⟨x0, e0, w0⟩ : ∃ x : List Int, [c0] = (encL (encI .u8) 1) x ∧ (WfL (WfI .u8)) x := (tells_list (enc := (encI .u8)) (Wf := (WfI .u8)) Tryz.underlying24 (k := 1) (by kernel_rfl) (by kernel_rfl) (tells_int Tryz.underlying5)) p0 _ h0 z0
  obtain ⟨p1, h1, z1⟩ := shows_field Tryz.underlying26 h hs 1 24 [c1] (by kernel_rfl)
  obtain ⟨x1, e1, w1⟩ : ∃ x : List Int, [c1] = (encL (encI .u8) 1) x ∧ (WfL (WfI .u8)) x := (tells_list (enc := (encI .u8)) (Wf := (WfI .u8)) Tryz.underlying24 (k := 1) (by kernel_rfl) (by kernel_rfl) (tells_int Tryz.underlying5)) p1 _ h1 z1
  obtain ⟨p2, h2, z2⟩ := shows_field Tryz.underlying26 h hs 2 3 [c2] (by kernel_rfl)
  obtain ⟨x2, e2, w2⟩ : ∃ x : Int, [c2] = (encI .i64) x ∧ (WfI .i64) x := (tells_int Tryz.underlying3) p2 _ h2 z2
  obtain ⟨p3, h3, z3⟩ := shows_field Tryz.underlying26 h hs 3 3 [c3] (by kernel_rfl)
  obtain ⟨x3, e3, w3⟩ : ∃ x : Int, [c3] = (encI .i64) x ∧ (WfI .i64) x := (tells_int Tryz.underlying3) p3 _ h3 z3
  refine ⟨⟨x0, x1, x2, x3⟩, ?_, ⟨w0, w1, w2, w3⟩⟩
  show [c0] ++ [c1] ++ [c2] ++ [c3] = ((encL (encI .u8) 1) x0 ++ (encL (encI .u8) 1) x1 ++ (encI .i64) x2 ++ (encI .i64) x3)
  rw [e0, e1, e2, e3]
theorem wf_i64' {x : Int} (h : (Lit.int .i64 x).wf = true) : -9223372036854775808 ≤ x ∧ x ≤ 9223372036854775807 := by
  simp [Lit.wf, IntKind.min, IntKind.max, IntKind.signed, IntKind.bits] at h; omega
theorem condWf {a : List (List St39)} (w : WfL (WfL WfSt39) a) : (a.length ≤ 140737488355328 ∧ ∀ row ∈ a, row.length ≤ 140737488355328 ∧ ∀ x ∈ row, x.R_.length ≤ 140737488355328) ∧ (∀ row ∈ a, ∀ x ∈ row, x.Mod_ ≤ 9223372036854775807 ∧ ∀ r ∈ x.R_, r.a0_ ≤ 9223372036854775807 ∧ r.a1_ ≤ 9223372036854775807) := by
  refine ⟨⟨w.1, fun row hr => ⟨(w.2 row hr).1, fun x hx => ?_⟩⟩, fun row hr x hx => ?_⟩
  · obtain ⟨_, _, _, h⟩ := (w.2 row hr).2 x hx
    exact h.1
  · obtain ⟨_, h2, _, h⟩ := (w.2 row hr).2 x hx
    refine ⟨(wf_i64' h2).2, fun r hrr => ?_⟩
    obtain ⟨g1, g2⟩ := h.2 r hrr
    exact ⟨(wf_i64' g1).2, (wf_i64' g2).2⟩
theorem shown_eq : exerguelaw11_shown = some true := by kernel_rfl
theorem Tells_true (a : List (List St39)) (w : WfL (WfL WfSt39) a) (b : List (List St39)) (v : WfL (WfL WfSt39) b) (o : St25) (wo : WfSt25 o) : exerguelaw11_RuleTells a b o = some true := by
  obtain ⟨w1, w2⟩ := condWf w
  obtain ⟨v1, v2⟩ := condWf v
  obtain ⟨wI, wF, _, _⟩ := wo
  have lI := wI.1
  have lF := wF.1
  unfold exerguelaw11_RuleTells
  rw [shown_eq]
  obtain ⟨b1, hb1, hs1⟩ := short_ex w1.1 w1.2
  rw [hb1]
  simp only [Option.bind_some]
  cases b1 with
  | false => rfl
  | true =>
    obtain ⟨b2, hb2, hs2⟩ := short_ex v1.1 v1.2
    rw [hb2]
    simp only [Option.bind_some, Bool.not_true, cond_false]
    cases b2 with
    | false => rfl
    | true =>
      obtain ⟨t1, t2⟩ := shortP_ok (hs1 rfl) w2
      obtain ⟨u1, u2⟩ := shortP_ok (hs2 rfl) v2
      simp only [Bool.not_true, cond_false, Option.bind_some]
      by_cases hlen : (o.I_.length : Int) + (o.F_.length : Int) > 1000
      · rw [w64 (by omega) (by omega), dT hlen]; rfl
      · rw [w64 (by omega) (by omega), dF hlen, rright_eq11 t1 t2, right_any t1 t2, same_eq t2, rsame_eq t2]
        simp only [cond_false, Option.bind_some, bne_self_eq_false, joinX]
        cases hr : rightC a with
        | false => rfl
        | true =>
          have hne := rightC_ne hr
          have hp := of_decide_eq_true hr
          have nA := condG_range 1000 (parseC_spec hp).2.1
          simp only [Bool.not_true, cond_false, cond_true]
          rw [text_eq t1 hne.2, rtext_eq t1, rright_eq (by omega) (by omega)]
          simp only [Option.bind_some, beq_self_eq_true, cond_true]
          cases hro : rightB o with
          | false => rfl
          | true =>
            have ho := operOk wI wF hro (by omega)
            simp only [Bool.not_true, cond_false]
            rw [holds_eq ho nA t2, rholds_eq ho nA t2]
            simp only [Option.bind_some, beq_self_eq_true]

def laidD {H : Type} : List (String × DataW H) := [("math/bits.deBruijn32tab", Rows.laid_math_bits_deBruijn32tab), ("math/bits.deBruijn64tab", Rows.laid_math_bits_deBruijn64tab), ("internal/strconv.uint64pow10", Rows.laid_internal_strconv_uint64pow10)]
theorem door_met (os : Os) (args : Array Value) : laidMetH Tryz.prog laidD ((World.doorLaid Tryz.prog 4000 os).forCall (fun _ _ => 0) ⟨#[], args, []⟩).memory :=
  laidMetH_of_parts3 (fuel := 8) (laidMet_of_run' 8 (by kernel_rfl) (by kernel_rfl)) (by kernel_rfl) (by kernel_rfl)

/-- Package variables hold what they are said to. -/
theorem globs_ok {W : World} (hL : laidMetH Tryz.prog laidD W) : GlobOk W (KW W) fun _ => none := fun g cs h => by
  have hh : (laidD (H := Unit)).all (fun x => x.2.handleName?.isNone) = true := by kernel_rfl
  by_cases h0 : g = 0
  · subst h0
    obtain rfl := Option.some.inj (show some [.int .u64 1, .int .u64 10, .int .u64 100, .int .u64 1000, .int .u64 10000, .int .u64 100000, .int .u64 1000000, .int .u64 10000000, .int .u64 100000000, .int .u64 1000000000, .int .u64 10000000000, .int .u64 100000000000, .int .u64 1000000000000, .int .u64 10000000000000, .int .u64 100000000000000, .int .u64 1000000000000000, .int .u64 10000000000000000, .int .u64 100000000000000000, .int .u64 1000000000000000000, .int .u64 10000000000000000000] = some cs from h)
    exact glob_ints hh hL (nm := "internal/strconv.uint64pow10") (t := 107) (e := 90) (n := 20) (k := .u64) [1, 10, 100, 1000, 10000, 100000, 1000000, 10000000, 100000000, 1000000000, 10000000000, 100000000000, 1000000000000, 10000000000000, 100000000000000, 1000000000000000, 10000000000000000, 100000000000000000, 1000000000000000000, 10000000000000000000] (by unfold laidD; simp only [List.mem_cons, List.not_mem_nil, or_false]; first | exact Or.inl rfl | exact Or.inr (Or.inl rfl) | exact Or.inr (Or.inr (Or.inl rfl)) | exact Or.inr rfl | exact Or.inr (Or.inr rfl) | exact Or.inr (Or.inr (Or.inr rfl)) | rfl) (by kernel_rfl) (by kernel_rfl) Tryz.underlying107 Tryz.underlying90 (by kernel_rfl) (by kernel_rfl)
  by_cases h2 : g = 2
  · subst h2
    obtain rfl := Option.some.inj (show some [.int .u8 0, .int .u8 1, .int .u8 28, .int .u8 2, .int .u8 29, .int .u8 14, .int .u8 24, .int .u8 3, .int .u8 30, .int .u8 22, .int .u8 20, .int .u8 15, .int .u8 25, .int .u8 17, .int .u8 4, .int .u8 8, .int .u8 31, .int .u8 27, .int .u8 13, .int .u8 23, .int .u8 21, .int .u8 19, .int .u8 16, .int .u8 7, .int .u8 26, .int .u8 12, .int .u8 18, .int .u8 6, .int .u8 11, .int .u8 5, .int .u8 10, .int .u8 9] = some cs from h)
    exact glob_ints hh hL (nm := "math/bits.deBruijn32tab") (t := 116) (e := 5) (n := 32) (k := .u8) [0, 1, 28, 2, 29, 14, 24, 3, 30, 22, 20, 15, 25, 17, 4, 8, 31, 27, 13, 23, 21, 19, 16, 7, 26, 12, 18, 6, 11, 5, 10, 9] (by unfold laidD; simp only [List.mem_cons, List.not_mem_nil, or_false]; first | exact Or.inl rfl | exact Or.inr (Or.inl rfl) | exact Or.inr (Or.inr (Or.inl rfl)) | exact Or.inr rfl | exact Or.inr (Or.inr rfl) | exact Or.inr (Or.inr (Or.inr rfl)) | rfl) (by kernel_rfl) (by kernel_rfl) Tryz.underlying116 Tryz.underlying5 (by kernel_rfl) (by kernel_rfl)
  by_cases h3 : g = 3
  · subst h3
    obtain rfl := Option.some.inj (show some [.int .u8 0, .int .u8 1, .int .u8 56, .int .u8 2, .int .u8 57, .int .u8 49, .int .u8 28, .int .u8 3, .int .u8 61, .int .u8 58, .int .u8 42, .int .u8 50, .int .u8 38, .int .u8 29, .int .u8 17, .int .u8 4, .int .u8 62, .int .u8 47, .int .u8 59, .int .u8 36, .int .u8 45, .int .u8 43, .int .u8 51, .int .u8 22, .int .u8 53, .int .u8 39, .int .u8 33, .int .u8 30, .int .u8 24, .int .u8 18, .int .u8 12, .int .u8 5, .int .u8 63, .int .u8 55, .int .u8 48, .int .u8 27, .int .u8 60, .int .u8 41, .int .u8 37, .int .u8 16, .int .u8 46, .int .u8 35, .int .u8 44, .int .u8 21, .int .u8 52, .int .u8 32, .int .u8 23, .int .u8 11, .int .u8 54, .int .u8 26, .int .u8 40, .int .u8 15, .int .u8 34, .int .u8 20, .int .u8 31, .int .u8 10, .int .u8 25, .int .u8 14, .int .u8 19, .int .u8 9, .int .u8 13, .int .u8 8, .int .u8 7, .int .u8 6] = some cs from h)
    exact glob_ints hh hL (nm := "math/bits.deBruijn64tab") (t := 117) (e := 5) (n := 64) (k := .u8) [0, 1, 56, 2, 57, 49, 28, 3, 61, 58, 42, 50, 38, 29, 17, 4, 62, 47, 59, 36, 45, 43, 51, 22, 53, 39, 33, 30, 24, 18, 12, 5, 63, 55, 48, 27, 60, 41, 37, 16, 46, 35, 44, 21, 52, 32, 23, 11, 54, 26, 40, 15, 34, 20, 31, 10, 25, 14, 19, 9, 13, 8, 7, 6] (by unfold laidD; simp only [List.mem_cons, List.not_mem_nil, or_false]; first | exact Or.inl rfl | exact Or.inr (Or.inl rfl) | exact Or.inr (Or.inr (Or.inl rfl)) | exact Or.inr rfl | exact Or.inr (Or.inr rfl) | exact Or.inr (Or.inr (Or.inr rfl)) | rfl) (by kernel_rfl) (by kernel_rfl) Tryz.underlying117 Tryz.underlying5 (by kernel_rfl) (by kernel_rfl)
  exfalso
  have : gtabs g = none := by
    unfold gtabs
    split <;> first | rfl | (exfalso; simp_all)
  rw [show gtab g = gtabs g from rfl, this] at h
  cases h

set_option maxRecDepth 100000 in
theorem RuleTells_lifted (os : Os) (started : os.Started) (H : Type) (enc : TypeId × Value → H) :
    ReturnsInHanded {} Tryz.checked os 3 .any (fun w args => (Rows.ruleTellsSpec.pre enc Tryz.prog Tryz.f3 [] false w args ∧ laidMetH Tryz.prog laidD w) ∧ sizedMet enc Tryz.prog Tryz.f3 (OpenSpec.ofChange Rows.ruleTellsSpec) false w args) (Rows.ruleTellsSpec.post enc Tryz.prog Tryz.f3 false true false false) := by
  refine returnsInHanded_of_change_and (C := Tryz.checked) (X := fun w _ => laidMetH Tryz.prog laidD w) (fun _ _ _ hh h => h.of_heap hh) Tryz.own started (by kernel_rfl) Tryz.func3
    (ChangeSpec.witness_shaped (enc := enc) (C := Tryz.checked) (os := os) (X := fun w _ => laidMetH Tryz.prog laidD w) false (World.doorLaid Tryz.prog 4000 os) #[.slice none 0 0, .slice none 0 0, .agg #[.slice none 0 0, .slice none 0 0, .int .i64 0, .int .i64 0]] 8 rfl (World.shaped_of_RefB (by kernel_rfl) (by kernel_rfl)) (by kernel_rfl) (by kernel_rfl) (by kernel_rfl) (door_met os _)) ?_
  intro W base args ds gs before hval0 hW _ hsz0 hL _
  have hsz : (DataW.weightsEach Tryz.prog (Tryz.f3.params.toList ++ Rows.ruleTellsSpec.plain.varTypes Tryz.prog) (ds ++ gs)).all (· ≤ reachBytes) = true := hsz0
  clear hsz0
  refine law_post (P := Tryz.prog) (n := 6) (tb := 4) Tryz.laidOut Tryz.underlying4 rfl rfl (by kernel_rfl) (fun h => ?_) hval0 hW ?_ (globs_ok hL)
  · rw [Tryz.params3] at h
    obtain ⟨d0, d1, d2, rfl⟩ := l3 h
    exact ⟨rfl, rfl, rfl⟩
  · intro ss hg hl1 hl2 hs
    subst hg
    rw [Tryz.params3] at hl1 hl2 hs hsz
    obtain ⟨d0, d1, d2, rfl⟩ := l3 hl1
    obtain ⟨s0, s1, s2, rfl⟩ := l3 hl2
    obtain ⟨a0, e0, w0⟩ := (show Tells Tryz.prog 6 23 (encL (encL encSt39 4) 1) (WfL (WfL WfSt39)) from (tells_list (enc := (encL encSt39 4)) (Wf := (WfL WfSt39)) Tryz.underlying23 (k := 1) (by kernel_rfl) (by kernel_rfl) (tells_list (enc := encSt39) (Wf := WfSt39) Tryz.underlying37 (k := 4) (by kernel_rfl) (by kernel_rfl) tells_T40))) _ _ (showsV_scalar Tryz.underlying23 (fun _ => by simp) (fun _ _ => by simp) (hs 0 23 _ _ rfl rfl rfl)) (sized_param hsz (j := 0) rfl rfl)
    obtain rfl : s0 = lsv (encL encSt39 4) 1 a0 := (List.cons.inj e0).1
    obtain ⟨a1, e1, w1⟩ := (show Tells Tryz.prog 6 23 (encL (encL encSt39 4) 1) (WfL (WfL WfSt39)) from (tells_list (enc := (encL encSt39 4)) (Wf := (WfL WfSt39)) Tryz.underlying23 (k := 1) (by kernel_rfl) (by kernel_rfl) (tells_list (enc := encSt39) (Wf := WfSt39) Tryz.underlying37 (k := 4) (by kernel_rfl) (by kernel_rfl) tells_T40))) _ _ (showsV_scalar Tryz.underlying23 (fun _ => by simp) (fun _ _ => by simp) (hs 1 23 _ _ rfl rfl rfl)) (sized_param hsz (j := 1) rfl rfl)
    obtain rfl : s1 = lsv (encL encSt39 4) 1 a1 := (List.cons.inj e1).1
    obtain ⟨cs2, rfl, hc2⟩ := showsV_struct Tryz.underlying26 (hs 2 26 _ _ rfl rfl rfl)
    obtain ⟨a2, rfl, w2⟩ := tells_T26 (n := 3) _ _ hc2 (sized_param hsz (j := 2) rfl rfl)
    exact ⟨[], exerguelaw11_RuleTells_ok (Tells_true a0 w0 a1 w1 a2 w2)⟩
theorem RuleTells_row : Rows.RuleTellsSaid :=
  OpenClaim.holds_of_wide 3 Tryz.f3 rfl rfl rfl rfl rfl rfl rfl ⟨rfl, rfl, rfl, rfl, rfl⟩ rfl rfl rfl rfl rfl (by kernel_rfl) Tryz.func3 (by kernel_rfl)
    (of_decide_eq_true (by kernel_rfl)) (by unfold Func.isWrapper; first | (rw [if_pos (by decide +kernel)]; kernel_rfl) | (rw [if_neg (by decide +kernel)]; exact ⟨rfl, rfl⟩))
    (fun os started H enc _ => RuleTells_lifted os started H enc)

theorem RuleTells_holds : Rows.RuleTellsCardSaid :=
  Claim7.holds_tied_plain_at .later [] [.data, .data, .data] true (true, "526c7aad55bd1d202ef0a54f2d7eb78b9c59ca12546045e1e34dff79a2678d81") false
    RuleTells_row (fun _ h => by cases h) (by kernel_rfl) (fun _ h => by cases h) ruleTells_row_tie rfl ⟨rfl, rfl⟩ (by kernel_rfl) rfl
    (fun f fn hf hfn => by
      obtain rfl : f = 3 := Option.some.inj ((show Tryz.prog.funcNamed "exergue/exerguelaw11.RuleTells" = some 3 by kernel_rfl).symm.trans hf) |>.symm
      obtain rfl : fn = Tryz.f3 := (Option.some.inj (Tryz.func3.symm.trans hfn)).symm
      exact ⟨by kernel_rfl, fun j t ht => by
        rw [Tryz.params3] at ht
        have hm : t ∈ [23, 23, 26] := by simpa using Array.mem_of_getElem? ht
        have hall : ([23, 23, 26].all fun u => !Tryz.prog.wantsStandIn u) = true := by kernel_rfl
        exact (show Tryz.prog.wantsStandIn t = false by simpa using List.all_eq_true.1 hall t hm)⟩)
    (by kernel_rfl)

end Go.Proofs.YthpnbgbignjlpaaGreatDoor
