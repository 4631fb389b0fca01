/-
  The statement PlurNamesCard is proved: at every input the law answers true, and its input reads as it did. Conditions: those of the card (package variables are as the program text lays them).
-/
import Derived.Test.YteaokhdkocddcaaDoorP
import Derived.Test.YteaokhdkocddcaaDoorSyGL
import Derived.Test.YteaokhdkocddcaaDoorCards
import Derived.Test.YteaokhdkocddcaaDoorTie
import Derived.ProofKit
import Derived.SizedLaws
import Derived.LaidMore
import Derived.SevenTiedAt
namespace Go.Proofs.YteaokhdkocddcaaDoor
open Go Go.Sy Go.RowKit Go.ChangeShapes Go.WideShapes Go.ChangeAt
set_option linter.unusedVariables false
set_option linter.unusedSimpArgs false
set_option maxRecDepth 100000
set_option maxHeartbeats 4000000

theorem Tryd.own : ownKnob Tryd.prog.godebug = none := by kernel_rfl
theorem Tryd.laidOut : laidOutB Tryd.prog = true := by kernel_rfl

theorem listN2 {α : Type} {l : List α} (h : l.length = 2) : ∃ a0 a1, l = [a0, a1] := by
  match l, h with
  | [a0, a1], _ => exact ⟨a0, a1, rfl⟩
/-- Its numbers are numbers of their kinds, its lists no longer than memory. -/
def WfSt45 (x : St45) : Prop := (WfI .i64) x.Cat_ ∧ WfT x.Text_
theorem tells_T46 {n : Nat} : Tells Tryd.prog (n + 2) 46 encSt45 WfSt45 := fun d cs h hs => by
  have hl : cs.length = 2 := (shows_len Tryd.underlying46 h).trans (by kernel_rfl)
  obtain ⟨c0, c1, rfl⟩ := listN2 hl
  obtain ⟨p0, h0, z0⟩ := shows_field Tryd.underlying46 h hs 0 3 [c0] (by kernel_rfl)
  obtain ⟨x0, e0, w0⟩ : ∃ x : Int, [c0] = (encI .i64) x ∧ (WfI .i64) x := (tells_int Tryd.underlying3) p0 _ h0 z0
  obtain ⟨p1, h1, z1⟩ := shows_field Tryd.underlying46 h hs 1 9 [c1] (by kernel_rfl)
  obtain ⟨x1, e1, w1⟩ : ∃ x : List UInt8, [c1] = encT x ∧ WfT x := (tells_str Tryd.underlying9) p1 _ h1 z1
  refine ⟨⟨x0, x1⟩, ?_, ⟨w0, w1⟩⟩
  show [c0] ++ [c1] = ((encI .i64) x0 ++ encT x1)
  rw [e0, e1]
theorem shown_eq : exerguelaw12_shown = some true := by kernel_rfl
theorem Names_true (x : Int) (wx : WfI .i64 x) (a : List St45) (w : WfL WfSt45 a) : exerguelaw12_PlurNames x a = some true := by
  unfold exerguelaw12_PlurNames
  rw [shown_eq]
  obtain ⟨b, hb, hs⟩ := short12 w.1
  rw [hb]
  simp only [Option.bind_some]
  cases b with
  | false => rfl
  | true =>
    obtain ⟨h8, h500⟩ := hs rfl
    simp only [Bool.not_true, cond_false]
    rw [name_eq]
    simp only [Option.bind_some]
    rw [cat_eq]
    simp only [Option.bind_some]
    have hfirst : (Option.bind (bif (decide (x ≥ 0)) then (some (decide (x ≤ 5))) else (some false)) fun (s19 : Bool) => (Option.bind (bif ((if 0 ≤ x ∧ x ≤ 5 then (x, true) else ((0 : Int), false)).2 != s19) then (some true) else (bif s19 then (bif (decide (¬ (if 0 ≤ x ∧ x ≤ 5 then (x, true) else ((0 : Int), false)).1 = x)) then (some true) else (bif (!s19) then (some (nameP x != ([] : List UInt8))) else (some false))) else (bif (!s19) then (some (nameP x != ([] : List UInt8))) else (some false)))) fun (s104 : Bool) => (bif s104 then (some (.inr false : Unit ⊕ Bool)) else (some (.inl ()))))) = some (.inl ()) := by
      by_cases h : 0 ≤ x ∧ x ≤ 5
      · rw [if_pos h, dT (show x ≥ 0 by omega), decide_eq_true h.2]
        simp
      · rw [if_neg h, name_none h]
        by_cases h1 : x ≥ 0
        · rw [dT h1, decide_eq_false (show ¬ x ≤ 5 by omega)]
          simp
        · rw [dF h1]
          simp
    have hrest : (Option.bind (plur_Read a) fun y134 => (bif (decide (¬ y134.2.2 = 0)) then (bif inS 0 ((maxI (minI y134.2.1 (a.length : Int)) 0)) a.length then (Option.bind (plur_Read ((cut a 0 ((maxI (minI y134.2.1 (a.length : Int)) 0))))) fun y141 => (Option.bind (bif true then (bif (decide (y134.2.1 ≥ 0)) then (bif (decide (y134.2.1 < (a.length : Int))) then (bif (decide (y141.2.2 = 0)) then (bif (decide ((y141.1.length : Int) = y134.2.1)) then (some ((decide ((y134.1.length : Int) = 0)))) else (some false)) else (some false)) else (some false)) else (some false)) else (some false)) fun (s159 : Bool) => (some s159))) else none) else (Option.bind (bif true then (Option.bind (exergueref12_Right y134.1) fun y199 => (bif y199 then (bif (decide ((y134.1.length : Int) = (a.length : Int))) then (some (decide (y134.2.1 = 0))) else (some false)) else (some false))) else (some false)) fun (s191 : Bool) => (some s191)))) = some true := by
      rw [read_eq (by omega) (fun r hr => (by have := h500 r hr; omega))]
      simp only [Option.bind_some]
      obtain ⟨s, h1, h2⟩ := rd_spec a 0 0 []
      have hch := rd_chain a 0 0 []
      rw [h1] at hch ⊢
      rcases h2 with ⟨a1, a2, a3, new, b1, b2, b3⟩ | ⟨a1, a2, a3, a4, l, a5, a6⟩
      · obtain ⟨new2, c1, c2⟩ := hch a1
        have hlen2 : (s.1.length : Int) = (a.length : Int) := by rw [a3]; simp
        have e1 : s.1 = new := by simpa using b1
        have e2 : s.1 = new2 := by simpa using c1
        rw [dF (show ¬ ¬ s.2.2 = 0 by omega)]
        simp only [cond_false, cond_true]
        rw [ref12right_eq (by omega) (fun r hr => by
          rw [e1] at hr
          obtain ⟨q0, t, ht⟩ := b3 r hr
          obtain ⟨q1, q2, _, _⟩ := parse_ok ht
          exact ⟨q0, q1, q2⟩) (by rw [e2]; exact c2)]
        simp only [Option.bind_some, cond_true]
        rw [dT hlen2, decide_eq_true a2]; rfl
      · rw [dT a1]
        have hm : maxI (minI s.2.1 (a.length : Int)) 0 = s.2.1 := by unfold maxI minI; repeat' split
                                                                     all_goals omega
        have ht : cut a 0 s.2.1 = a.take s.2.1.toNat := by simp [cut]
        simp only [cond_true]
        rw [hm, inS_of (l := 0) (h := s.2.1) (by omega) (by omega) (by omega), ht, read_eq (by rw [List.length_take]; omega) (fun r hr => (by have := h500 r (List.mem_of_mem_take hr); omega))]
        rw [show (s.2.1 - 0).toNat = s.2.1.toNat by omega] at a5
        rw [a5]
        simp only [Option.bind_some, cond_true]
        have a6' : (l.length : Int) = s.2.1 := by rw [a6]; simp
        rw [dT (show s.2.1 ≥ 0 by omega), dT (show s.2.1 < (a.length : Int) by omega), dT a6', a2]
        rfl
    refine (Option.bind_assoc _ _ _).symm.trans ?_
    refine Eq.trans (congrArg (fun z => Option.bind z _) hfirst) ?_
    exact hrest

def laidD {H : Type} : List (String × DataW H) := [("math/bits.deBruijn32tab", Rows.laid_math_bits_deBruijn32tab), ("math/bits.deBruijn64tab", Rows.laid_math_bits_deBruijn64tab), ("internal/strconv.uint64pow10", Rows.laid_internal_strconv_uint64pow10)]
theorem door_met (os : Os) (args : Array Value) : laidMetH Tryd.prog laidD ((World.doorLaid Tryd.prog 4000 os).forCall (fun _ _ => 0) ⟨#[], args, []⟩).memory :=
  laidMetH_of_parts3 (fuel := 8) (laidMet_of_run' 8 (by kernel_rfl) (by kernel_rfl)) (by kernel_rfl) (by kernel_rfl)

/-- Package variables hold what they are said to. -/
theorem globs_ok {W : World} (hL : laidMetH Tryd.prog laidD W) : GlobOk W (KW W) fun _ => none := fun g cs h => by
  have hh : (laidD (H := Unit)).all (fun x => x.2.handleName?.isNone) = true := by kernel_rfl
  by_cases h1 : g = 1
  · subst h1
    obtain rfl := Option.some.inj (show some [.int .u64 1, .int .u64 10, .int .u64 100, .int .u64 1000, .int .u64 10000, .int .u64 100000, .int .u64 1000000, .int .u64 10000000, .int .u64 100000000, .int .u64 1000000000, .int .u64 10000000000, .int .u64 100000000000, .int .u64 1000000000000, .int .u64 10000000000000, .int .u64 100000000000000, .int .u64 1000000000000000, .int .u64 10000000000000000, .int .u64 100000000000000000, .int .u64 1000000000000000000, .int .u64 10000000000000000000] = some cs from h)
    exact glob_ints hh hL (nm := "internal/strconv.uint64pow10") (t := 131) (e := 118) (n := 20) (k := .u64) [1, 10, 100, 1000, 10000, 100000, 1000000, 10000000, 100000000, 1000000000, 10000000000, 100000000000, 1000000000000, 10000000000000, 100000000000000, 1000000000000000, 10000000000000000, 100000000000000000, 1000000000000000000, 10000000000000000000] (by unfold laidD; simp only [List.mem_cons, List.not_mem_nil, or_false]; first | exact Or.inl rfl | exact Or.inr (Or.inl rfl) | exact Or.inr (Or.inr (Or.inl rfl)) | exact Or.inr rfl | exact Or.inr (Or.inr rfl) | exact Or.inr (Or.inr (Or.inr rfl)) | rfl) (by kernel_rfl) (by kernel_rfl) Tryd.underlying131 Tryd.underlying118 (by kernel_rfl) (by kernel_rfl)
  by_cases h2 : g = 2
  · subst h2
    obtain rfl := Option.some.inj (show some [.int .u8 0, .int .u8 1, .int .u8 28, .int .u8 2, .int .u8 29, .int .u8 14, .int .u8 24, .int .u8 3, .int .u8 30, .int .u8 22, .int .u8 20, .int .u8 15, .int .u8 25, .int .u8 17, .int .u8 4, .int .u8 8, .int .u8 31, .int .u8 27, .int .u8 13, .int .u8 23, .int .u8 21, .int .u8 19, .int .u8 16, .int .u8 7, .int .u8 26, .int .u8 12, .int .u8 18, .int .u8 6, .int .u8 11, .int .u8 5, .int .u8 10, .int .u8 9] = some cs from h)
    exact glob_ints hh hL (nm := "math/bits.deBruijn32tab") (t := 140) (e := 5) (n := 32) (k := .u8) [0, 1, 28, 2, 29, 14, 24, 3, 30, 22, 20, 15, 25, 17, 4, 8, 31, 27, 13, 23, 21, 19, 16, 7, 26, 12, 18, 6, 11, 5, 10, 9] (by unfold laidD; simp only [List.mem_cons, List.not_mem_nil, or_false]; first | exact Or.inl rfl | exact Or.inr (Or.inl rfl) | exact Or.inr (Or.inr (Or.inl rfl)) | exact Or.inr rfl | exact Or.inr (Or.inr rfl) | exact Or.inr (Or.inr (Or.inr rfl)) | rfl) (by kernel_rfl) (by kernel_rfl) Tryd.underlying140 Tryd.underlying5 (by kernel_rfl) (by kernel_rfl)
  by_cases h3 : g = 3
  · subst h3
    obtain rfl := Option.some.inj (show some [.int .u8 0, .int .u8 1, .int .u8 56, .int .u8 2, .int .u8 57, .int .u8 49, .int .u8 28, .int .u8 3, .int .u8 61, .int .u8 58, .int .u8 42, .int .u8 50, .int .u8 38, .int .u8 29, .int .u8 17, .int .u8 4, .int .u8 62, .int .u8 47, .int .u8 59, .int .u8 36, .int .u8 45, .int .u8 43, .int .u8 51, .int .u8 22, .int .u8 53, .int .u8 39, .int .u8 33, .int .u8 30, .int .u8 24, .int .u8 18, .int .u8 12, .int .u8 5, .int .u8 63, .int .u8 55, .int .u8 48, .int .u8 27, .int .u8 60, .int .u8 41, .int .u8 37, .int .u8 16, .int .u8 46, .int .u8 35, .int .u8 44, .int .u8 21, .int .u8 52, .int .u8 32, .int .u8 23, .int .u8 11, .int .u8 54, .int .u8 26, .int .u8 40, .int .u8 15, .int .u8 34, .int .u8 20, .int .u8 31, .int .u8 10, .int .u8 25, .int .u8 14, .int .u8 19, .int .u8 9, .int .u8 13, .int .u8 8, .int .u8 7, .int .u8 6] = some cs from h)
    exact glob_ints hh hL (nm := "math/bits.deBruijn64tab") (t := 141) (e := 5) (n := 64) (k := .u8) [0, 1, 56, 2, 57, 49, 28, 3, 61, 58, 42, 50, 38, 29, 17, 4, 62, 47, 59, 36, 45, 43, 51, 22, 53, 39, 33, 30, 24, 18, 12, 5, 63, 55, 48, 27, 60, 41, 37, 16, 46, 35, 44, 21, 52, 32, 23, 11, 54, 26, 40, 15, 34, 20, 31, 10, 25, 14, 19, 9, 13, 8, 7, 6] (by unfold laidD; simp only [List.mem_cons, List.not_mem_nil, or_false]; first | exact Or.inl rfl | exact Or.inr (Or.inl rfl) | exact Or.inr (Or.inr (Or.inl rfl)) | exact Or.inr rfl | exact Or.inr (Or.inr rfl) | exact Or.inr (Or.inr (Or.inr rfl)) | rfl) (by kernel_rfl) (by kernel_rfl) Tryd.underlying141 Tryd.underlying5 (by kernel_rfl) (by kernel_rfl)
  exfalso
  have : gtabs g = none := by
    unfold gtabs
    split <;> first | rfl | (exfalso; simp_all)
  rw [show gtab g = gtabs g from rfl, this] at h
  cases h

set_option maxRecDepth 100000 in
theorem PlurNames_lifted (os : Os) (started : os.Started) (H : Type) (enc : TypeId × Value → H) :
    ReturnsInHanded {} Tryd.checked os 3 .any (fun w args => (Rows.plurNamesSpec.pre enc Tryd.prog Tryd.f3 [] false w args ∧ laidMetH Tryd.prog laidD w) ∧ sizedMet enc Tryd.prog Tryd.f3 (OpenSpec.ofChange Rows.plurNamesSpec) false w args) (Rows.plurNamesSpec.post enc Tryd.prog Tryd.f3 false true false false) := by
  refine returnsInHanded_of_change_and (C := Tryd.checked) (X := fun w _ => laidMetH Tryd.prog laidD w) (fun _ _ _ hh h => h.of_heap hh) Tryd.own started (by kernel_rfl) Tryd.func3
    (ChangeSpec.witness_shaped (enc := enc) (C := Tryd.checked) (os := os) (X := fun w _ => laidMetH Tryd.prog laidD w) false (World.doorLaid Tryd.prog 4000 os) #[.int .i64 0, .slice none 0 0] 8 rfl (World.shaped_of_RefB (by kernel_rfl) (by kernel_rfl)) (by kernel_rfl) (by kernel_rfl) (by kernel_rfl) (door_met os _)) ?_
  intro W base args ds gs before hval0 hW _ hsz0 hL _
  have hsz : (DataW.weightsEach Tryd.prog (Tryd.f3.params.toList ++ Rows.plurNamesSpec.plain.varTypes Tryd.prog) (ds ++ gs)).all (· ≤ reachBytes) = true := hsz0
  clear hsz0
  refine law_post (P := Tryd.prog) (n := 3) (tb := 4) Tryd.laidOut Tryd.underlying4 rfl rfl (by kernel_rfl) (fun h => ?_) hval0 hW ?_ (globs_ok hL)
  · rw [Tryd.params3] at h
    obtain ⟨d0, d1, rfl⟩ := l2 h
    exact ⟨rfl, rfl, rfl⟩
  · intro ss hg hl1 hl2 hs
    subst hg
    rw [Tryd.params3] at hl1 hl2 hs hsz
    obtain ⟨d0, d1, rfl⟩ := l2 hl1
    obtain ⟨s0, s1, rfl⟩ := l2 hl2
    obtain ⟨a0, e0, w0⟩ := (show Tells Tryd.prog 3 3 (encI .i64) (WfI .i64) from (tells_int Tryd.underlying3)) _ _ (showsV_scalar Tryd.underlying3 (fun _ => by simp) (fun _ _ => by simp) (hs 0 3 _ _ rfl rfl rfl)) (sized_param hsz (j := 0) rfl rfl)
    obtain rfl : s0 = .int .i64 a0 := (List.cons.inj e0).1
    obtain ⟨a1, e1, w1⟩ := (show Tells Tryd.prog 3 22 (encL encSt45 2) (WfL WfSt45) from (tells_list (enc := encSt45) (Wf := WfSt45) Tryd.underlying22 (k := 2) (by kernel_rfl) (by kernel_rfl) tells_T46)) _ _ (showsV_scalar Tryd.underlying22 (fun _ => by simp) (fun _ _ => by simp) (hs 1 22 _ _ rfl rfl rfl)) (sized_param hsz (j := 1) rfl rfl)
    obtain rfl : s1 = lsv encSt45 2 a1 := (List.cons.inj e1).1
    exact ⟨[], exerguelaw12_PlurNames_ok (Names_true a0 w0 a1 w1)⟩
theorem PlurNames_row : Rows.PlurNamesSaid :=
  OpenClaim.holds_of_wide 3 Tryd.f3 rfl rfl rfl rfl rfl rfl rfl ⟨rfl, rfl, rfl, rfl, rfl⟩ rfl rfl rfl rfl rfl (by kernel_rfl) Tryd.func3 (by kernel_rfl)
    (of_decide_eq_true (by kernel_rfl)) (by unfold Func.isWrapper; first | (rw [if_pos (by decide +kernel)]; kernel_rfl) | (rw [if_neg (by decide +kernel)]; exact ⟨rfl, rfl⟩))
    (fun os started H enc _ => PlurNames_lifted os started H enc)

theorem PlurNames_holds : Rows.PlurNamesCardSaid :=
  Claim7.holds_tied_plain_at .later [] [.data, .data, .data] true (true, "603a443b9f164538e0739a3ea5e8106252434e29fdafd7d40ff0f4cd6fa4a95a") false
    PlurNames_row (fun _ h => by cases h) (by kernel_rfl) (fun _ h => by cases h) plurNames_row_tie rfl ⟨rfl, rfl⟩ (by kernel_rfl) rfl
    (fun f fn hf hfn => by
      obtain rfl : f = 3 := Option.some.inj ((show Tryd.prog.funcNamed "exergue/exerguelaw12.PlurNames" = some 3 by kernel_rfl).symm.trans hf) |>.symm
      obtain rfl : fn = Tryd.f3 := (Option.some.inj (Tryd.func3.symm.trans hfn)).symm
      exact ⟨by kernel_rfl, fun j t ht => by
        rw [Tryd.params3] at ht
        have hm : t ∈ [3, 22] := by simpa using Array.mem_of_getElem? ht
        have hall : ([3, 22].all fun u => !Tryd.prog.wantsStandIn u) = true := by kernel_rfl
        exact (show Tryd.prog.wantsStandIn t = false by simpa using List.all_eq_true.1 hall t hm)⟩)
    (by kernel_rfl)

end Go.Proofs.YteaokhdkocddcaaDoor
