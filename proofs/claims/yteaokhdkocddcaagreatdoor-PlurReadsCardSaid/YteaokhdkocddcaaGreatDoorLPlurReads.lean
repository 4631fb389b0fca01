/-
  The statement PlurReadsCard is proved: at every input the law answers true, and its input reads as it did. Conditions: those of the card (package variables are as the program text lays them).
-/
import Derived.Test.YteaokhdkocddcaaGreatDoorP
import Derived.Test.YteaokhdkocddcaaGreatDoorSyGL
import Derived.Test.YteaokhdkocddcaaGreatDoorCards
import Derived.Test.YteaokhdkocddcaaGreatDoorTie
import Derived.ProofKit
import Derived.SizedLaws
import Derived.LaidMore
import Derived.SevenTiedAt
namespace Go.Proofs.YteaokhdkocddcaaGreatDoor
open Go Go.Sy Go.RowKit Go.ChangeShapes Go.WideShapes Go.ChangeAt
set_option linter.unusedVariables false
set_option linter.unusedSimpArgs false
set_option maxRecDepth 100000
set_option maxHeartbeats 4000000

theorem Tryz.own : ownKnob Tryz.prog.godebug = none := by kernel_rfl
theorem Tryz.laidOut : laidOutB Tryz.prog = true := by kernel_rfl

theorem listN2 {α : Type} {l : List α} (h : l.length = 2) : ∃ a0 a1, l = [a0, a1] := by
  match l, h with
  | [a0, a1], _ => exact ⟨a0, a1, rfl⟩
/-- Its numbers are numbers of their kinds, its lists no longer than memory. -/
def WfSt49 (x : St49) : Prop := (WfI .i64) x.Cat_ ∧ WfT x.Text_
theorem tells_T50 {n : Nat} : Tells Tryz.prog (n + 2) 50 encSt49 WfSt49 := fun d cs h hs => by
  have hl : cs.length = 2 := (shows_len Tryz.underlying50 h).trans (by kernel_rfl)
  obtain ⟨c0, c1, rfl⟩ := listN2 hl
  obtain ⟨p0, h0, z0⟩ := shows_field Tryz.underlying50 h hs 0 3 [c0] (by kernel_rfl)
  obtain ⟨x0, e0, w0⟩ : ∃ x : Int, [c0] = (encI .i64) x ∧ (WfI .i64) x := (tells_int Tryz.underlying3) p0 _ h0 z0
  obtain ⟨p1, h1, z1⟩ := shows_field Tryz.underlying50 h hs 1 9 [c1] (by kernel_rfl)
  obtain ⟨x1, e1, w1⟩ : ∃ x : List UInt8, [c1] = encT x ∧ WfT x := (tells_str Tryz.underlying9) p1 _ h1 z1
  refine ⟨⟨x0, x1⟩, ?_, ⟨w0, w1⟩⟩
  show [c0] ++ [c1] = ((encI .i64) x0 ++ encT x1)
  rw [e0, e1]
theorem shown_eq : exerguelaw12_shown = some true := by kernel_rfl
theorem Reads_true (a : List St49) (w : WfL WfSt49 a) : exerguelaw12_PlurReads a = some true := by
  unfold exerguelaw12_PlurReads
  rw [shown_eq]
  obtain ⟨b, hb, hs⟩ := short12 w.1
  rw [hb]
  simp only [Option.bind_some]
  cases b with
  | false => rfl
  | true =>
    obtain ⟨h8, h500⟩ := hs rfl
    simp only [Bool.not_true, cond_false]
    rw [read_eq (by omega) (fun r hr => (by have := h500 r hr; omega)), refread_eq (by omega)]
    simp only [Option.bind_some]
    obtain ⟨s, h1, h2⟩ := rd_spec a 0 0 []
    rw [h1]
    have hok : s.1.length ≤ 1000 ∧ ∀ r ∈ s.1, lenOk r.C_ := by
      rcases h2 with ⟨a1, a2, a3, new, b1, b2, b3⟩ | ⟨a1, a2, a3, a4, l, a5, a6⟩
      · refine ⟨by rw [a3]; simp; omega, fun r hr => ?_⟩
        rw [b1] at hr
        obtain ⟨_, t, ht⟩ := b3 r (by simpa using hr)
        exact (parse_ok ht).2.1
      · rw [a2]; exact ⟨by simp, fun r hr => by cases hr⟩
    rw [rsame12_eq hok.1 hok.2, psame_eq hok.1 hok.2]
    simp

def laidD {H : Type} : List (String × DataW H) := [("math/bits.deBruijn32tab", Rows.laid_math_bits_deBruijn32tab), ("math/bits.deBruijn64tab", Rows.laid_math_bits_deBruijn64tab), ("internal/strconv.uint64pow10", Rows.laid_internal_strconv_uint64pow10)]
theorem door_met (os : Os) (args : Array Value) : laidMetH Tryz.prog laidD ((World.doorLaid Tryz.prog 4000 os).forCall (fun _ _ => 0) ⟨#[], args, []⟩).memory :=
  laidMetH_of_parts3 (fuel := 8) (laidMet_of_run' 8 (by kernel_rfl) (by kernel_rfl)) (by kernel_rfl) (by kernel_rfl)

/-- Package variables hold what they are said to. -/
theorem globs_ok {W : World} (hL : laidMetH Tryz.prog laidD W) : GlobOk W (KW W) fun _ => none := fun g cs h => by
  have hh : (laidD (H := Unit)).all (fun x => x.2.handleName?.isNone) = true := by kernel_rfl
  by_cases h1 : g = 1
  · subst h1
    obtain rfl := Option.some.inj (show some [.int .u64 1, .int .u64 10, .int .u64 100, .int .u64 1000, .int .u64 10000, .int .u64 100000, .int .u64 1000000, .int .u64 10000000, .int .u64 100000000, .int .u64 1000000000, .int .u64 10000000000, .int .u64 100000000000, .int .u64 1000000000000, .int .u64 10000000000000, .int .u64 100000000000000, .int .u64 1000000000000000, .int .u64 10000000000000000, .int .u64 100000000000000000, .int .u64 1000000000000000000, .int .u64 10000000000000000000] = some cs from h)
    exact glob_ints hh hL (nm := "internal/strconv.uint64pow10") (t := 135) (e := 113) (n := 20) (k := .u64) [1, 10, 100, 1000, 10000, 100000, 1000000, 10000000, 100000000, 1000000000, 10000000000, 100000000000, 1000000000000, 10000000000000, 100000000000000, 1000000000000000, 10000000000000000, 100000000000000000, 1000000000000000000, 10000000000000000000] (by unfold laidD; simp only [List.mem_cons, List.not_mem_nil, or_false]; first | exact Or.inl rfl | exact Or.inr (Or.inl rfl) | exact Or.inr (Or.inr (Or.inl rfl)) | exact Or.inr rfl | exact Or.inr (Or.inr rfl) | exact Or.inr (Or.inr (Or.inr rfl)) | rfl) (by kernel_rfl) (by kernel_rfl) Tryz.underlying135 Tryz.underlying113 (by kernel_rfl) (by kernel_rfl)
  by_cases h2 : g = 2
  · subst h2
    obtain rfl := Option.some.inj (show some [.int .u8 0, .int .u8 1, .int .u8 28, .int .u8 2, .int .u8 29, .int .u8 14, .int .u8 24, .int .u8 3, .int .u8 30, .int .u8 22, .int .u8 20, .int .u8 15, .int .u8 25, .int .u8 17, .int .u8 4, .int .u8 8, .int .u8 31, .int .u8 27, .int .u8 13, .int .u8 23, .int .u8 21, .int .u8 19, .int .u8 16, .int .u8 7, .int .u8 26, .int .u8 12, .int .u8 18, .int .u8 6, .int .u8 11, .int .u8 5, .int .u8 10, .int .u8 9] = some cs from h)
    exact glob_ints hh hL (nm := "math/bits.deBruijn32tab") (t := 144) (e := 5) (n := 32) (k := .u8) [0, 1, 28, 2, 29, 14, 24, 3, 30, 22, 20, 15, 25, 17, 4, 8, 31, 27, 13, 23, 21, 19, 16, 7, 26, 12, 18, 6, 11, 5, 10, 9] (by unfold laidD; simp only [List.mem_cons, List.not_mem_nil, or_false]; first | exact Or.inl rfl | exact Or.inr (Or.inl rfl) | exact Or.inr (Or.inr (Or.inl rfl)) | exact Or.inr rfl | exact Or.inr (Or.inr rfl) | exact Or.inr (Or.inr (Or.inr rfl)) | rfl) (by kernel_rfl) (by kernel_rfl) Tryz.underlying144 Tryz.underlying5 (by kernel_rfl) (by kernel_rfl)
  by_cases h3 : g = 3
  · subst h3
    obtain rfl := Option.some.inj (show some [.int .u8 0, .int .u8 1, .int .u8 56, .int .u8 2, .int .u8 57, .int .u8 49, .int .u8 28, .int .u8 3, .int .u8 61, .int .u8 58, .int .u8 42, .int .u8 50, .int .u8 38, .int .u8 29, .int .u8 17, .int .u8 4, .int .u8 62, .int .u8 47, .int .u8 59, .int .u8 36, .int .u8 45, .int .u8 43, .int .u8 51, .int .u8 22, .int .u8 53, .int .u8 39, .int .u8 33, .int .u8 30, .int .u8 24, .int .u8 18, .int .u8 12, .int .u8 5, .int .u8 63, .int .u8 55, .int .u8 48, .int .u8 27, .int .u8 60, .int .u8 41, .int .u8 37, .int .u8 16, .int .u8 46, .int .u8 35, .int .u8 44, .int .u8 21, .int .u8 52, .int .u8 32, .int .u8 23, .int .u8 11, .int .u8 54, .int .u8 26, .int .u8 40, .int .u8 15, .int .u8 34, .int .u8 20, .int .u8 31, .int .u8 10, .int .u8 25, .int .u8 14, .int .u8 19, .int .u8 9, .int .u8 13, .int .u8 8, .int .u8 7, .int .u8 6] = some cs from h)
    exact glob_ints hh hL (nm := "math/bits.deBruijn64tab") (t := 145) (e := 5) (n := 64) (k := .u8) [0, 1, 56, 2, 57, 49, 28, 3, 61, 58, 42, 50, 38, 29, 17, 4, 62, 47, 59, 36, 45, 43, 51, 22, 53, 39, 33, 30, 24, 18, 12, 5, 63, 55, 48, 27, 60, 41, 37, 16, 46, 35, 44, 21, 52, 32, 23, 11, 54, 26, 40, 15, 34, 20, 31, 10, 25, 14, 19, 9, 13, 8, 7, 6] (by unfold laidD; simp only [List.mem_cons, List.not_mem_nil, or_false]; first | exact Or.inl rfl | exact Or.inr (Or.inl rfl) | exact Or.inr (Or.inr (Or.inl rfl)) | exact Or.inr rfl | exact Or.inr (Or.inr rfl) | exact Or.inr (Or.inr (Or.inr rfl)) | rfl) (by kernel_rfl) (by kernel_rfl) Tryz.underlying145 Tryz.underlying5 (by kernel_rfl) (by kernel_rfl)
  exfalso
  have : gtabs g = none := by
    unfold gtabs
    split <;> first | rfl | (exfalso; simp_all)
  rw [show gtab g = gtabs g from rfl, this] at h
  cases h

set_option maxRecDepth 100000 in
theorem PlurReads_lifted (os : Os) (started : os.Started) (H : Type) (enc : TypeId × Value → H) :
    ReturnsInHanded {} Tryz.checked os 3 .any (fun w args => (Rows.plurReadsSpec.pre enc Tryz.prog Tryz.f3 [] false w args ∧ laidMetH Tryz.prog laidD w) ∧ sizedMet enc Tryz.prog Tryz.f3 (OpenSpec.ofChange Rows.plurReadsSpec) false w args) (Rows.plurReadsSpec.post enc Tryz.prog Tryz.f3 false true false false) := by
  refine returnsInHanded_of_change_and (C := Tryz.checked) (X := fun w _ => laidMetH Tryz.prog laidD w) (fun _ _ _ hh h => h.of_heap hh) Tryz.own started (by kernel_rfl) Tryz.func3
    (ChangeSpec.witness_shaped (enc := enc) (C := Tryz.checked) (os := os) (X := fun w _ => laidMetH Tryz.prog laidD w) false (World.doorLaid Tryz.prog 4000 os) #[.slice none 0 0] 8 rfl (World.shaped_of_RefB (by kernel_rfl) (by kernel_rfl)) (by kernel_rfl) (by kernel_rfl) (by kernel_rfl) (door_met os _)) ?_
  intro W base args ds gs before hval0 hW _ hsz0 hL _
  have hsz : (DataW.weightsEach Tryz.prog (Tryz.f3.params.toList ++ Rows.plurReadsSpec.plain.varTypes Tryz.prog) (ds ++ gs)).all (· ≤ reachBytes) = true := hsz0
  clear hsz0
  refine law_post (P := Tryz.prog) (n := 3) (tb := 4) Tryz.laidOut Tryz.underlying4 rfl rfl (by kernel_rfl) (fun h => ?_) hval0 hW ?_ (globs_ok hL)
  · rw [Tryz.params3] at h
    obtain ⟨d0, rfl⟩ := l1 h
    exact ⟨rfl, rfl, rfl⟩
  · intro ss hg hl1 hl2 hs
    subst hg
    rw [Tryz.params3] at hl1 hl2 hs hsz
    obtain ⟨d0, rfl⟩ := l1 hl1
    obtain ⟨s0, rfl⟩ := l1 hl2
    obtain ⟨a0, e0, w0⟩ := (show Tells Tryz.prog 3 22 (encL encSt49 2) (WfL WfSt49) from (tells_list (enc := encSt49) (Wf := WfSt49) Tryz.underlying22 (k := 2) (by kernel_rfl) (by kernel_rfl) tells_T50)) _ _ (showsV_scalar Tryz.underlying22 (fun _ => by simp) (fun _ _ => by simp) (hs 0 22 _ _ rfl rfl rfl)) (sized_param hsz (j := 0) rfl rfl)
    obtain rfl : s0 = lsv encSt49 2 a0 := (List.cons.inj e0).1
    exact ⟨[], exerguelaw12_PlurReads_ok (Reads_true a0 w0)⟩
theorem PlurReads_row : Rows.PlurReadsSaid :=
  OpenClaim.holds_of_wide 3 Tryz.f3 rfl rfl rfl rfl rfl rfl rfl ⟨rfl, rfl, rfl, rfl, rfl⟩ rfl rfl rfl rfl rfl (by kernel_rfl) Tryz.func3 (by kernel_rfl)
    (of_decide_eq_true (by kernel_rfl)) (by unfold Func.isWrapper; first | (rw [if_pos (by decide +kernel)]; kernel_rfl) | (rw [if_neg (by decide +kernel)]; exact ⟨rfl, rfl⟩))
    (fun os started H enc _ => PlurReads_lifted os started H enc)

theorem PlurReads_holds : Rows.PlurReadsCardSaid :=
  Claim7.holds_tied_plain_at .later [] [.data, .data, .data] true (true, "1df901756edcb7090dca3586d182771b87d59cff0259e4c5cc235352d138d1ff") false
    PlurReads_row (fun _ h => by cases h) (by kernel_rfl) (fun _ h => by cases h) plurReads_row_tie rfl ⟨rfl, rfl⟩ (by kernel_rfl) rfl
    (fun f fn hf hfn => by
      obtain rfl : f = 3 := Option.some.inj ((show Tryz.prog.funcNamed "exergue/exerguelaw12.PlurReads" = some 3 by kernel_rfl).symm.trans hf) |>.symm
      obtain rfl : fn = Tryz.f3 := (Option.some.inj (Tryz.func3.symm.trans hfn)).symm
      exact ⟨by kernel_rfl, fun j t ht => by
        rw [Tryz.params3] at ht
        have hm : t ∈ [22] := by simpa using Array.mem_of_getElem? ht
        have hall : ([22].all fun u => !Tryz.prog.wantsStandIn u) = true := by kernel_rfl
        exact (show Tryz.prog.wantsStandIn t = false by simpa using List.all_eq_true.1 hall t hm)⟩)
    (by kernel_rfl)

end Go.Proofs.YteaokhdkocddcaaGreatDoor
