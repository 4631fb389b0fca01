/-
  The statement LocTagCard is proved: at every input the law answers true, and its input reads as it did. Conditions: those of the card (package variables are as the program text lays them).
-/
import Derived.Test.YtcapcgbamehojaaGreatDoorP
import Derived.Test.YtcapcgbamehojaaGreatDoorSyGL
import Derived.Test.YtcapcgbamehojaaGreatDoorCards
import Derived.Test.YtcapcgbamehojaaGreatDoorTie
import Derived.ProofKit
import Derived.SizedLaws
import Derived.LaidMore
import Derived.SevenTiedAt
namespace Go.Proofs.YtcapcgbamehojaaGreatDoor
open Go Go.Sy Go.RowKit Go.ChangeShapes Go.WideShapes Go.ChangeAt
set_option linter.unusedVariables false
set_option linter.unusedSimpArgs false
set_option maxRecDepth 100000
set_option maxHeartbeats 4000000

theorem Tryz.own : ownKnob Tryz.prog.godebug = none := by kernel_rfl
theorem Tryz.laidOut : laidOutB Tryz.prog = true := by kernel_rfl

def lt15 (c : Int) : Bool := (decide (97 ≤ c) && decide (c ≤ 122)) || (decide (65 ≤ c) && decide (c ≤ 90))
def tg15 (c : Int) : Bool := lt15 c || (decide (c = 45) || (decide (48 ≤ c) && decide (c ≤ 57)))
theorem letter_eq (c : Int) : loc_letter c = some (lt15 c) := by
  unfold loc_letter loc_capital lt15
  cases decide (97 ≤ c) <;> cases decide (c ≤ 122) <;> cases decide (65 ≤ c) <;> cases decide (c ≤ 90) <;> rfl
theorem step15 (c : Int) : (Option.bind (loc_letter c) fun y0 => (bif (!y0) then (bif (decide (¬ c = 45)) then (bif (decide (c < 48)) then (some true) else (some ((decide (c > 57))))) else (some false)) else (some false))) = some (!tg15 c) := by
  rw [letter_eq]
  unfold tg15
  simp only [Option.bind_some]
  cases lt15 c with
  | true => rfl
  | false =>
    simp only [Bool.not_false, cond_true, Bool.false_or]
    by_cases h1 : c = 45
    · subst h1; rfl
    · rw [dT h1, dF h1]
      by_cases h2 : c < 48
      · rw [dT h2, dF (show ¬ 48 ≤ c by omega)]; rfl
      · rw [dF h2, dT (show 48 ≤ c by omega)]
        by_cases h3 : c > 57
        · rw [dT h3, dF (show ¬ c ≤ 57 by omega)]; rfl
        · rw [dF h3, dT (show c ≤ 57 by omega)]; rfl
def tag15 (s : List UInt8) : Bool := !decide (s.length = 0) && (decide (s.length ≤ 20) && (bytesI s).all tg15)
theorem tag_eq (s : List UInt8) : loc_Tag s = some (tag15 s) := by
  unfold loc_Tag tag15
  by_cases h0 : s.length = 0
  · rw [dT (show (s.length : Int) = 0 by omega), dT h0]; rfl
  rw [dF (show ¬ (s.length : Int) = 0 by omega), dF h0]
  by_cases h1 : s.length ≤ 20
  · rw [dF (show ¬ (s.length : Int) > 20 by omega), dT h1]
    simp only [cond_false, Option.bind_some, joinX, Bool.not_false, Bool.true_and]
    have hL : (bytesI s).length = s.length := bytesI_len s
    refine bind_of (fun o => o = if (bytesI s).all tg15 = true then .inl () else .inr false) ⟨_, loop_all tg15 (bytesI s) (fun pre => (pre.length : Int)) (.inl ()) (.inr false) rfl (fun pre r suf h => ?_) ?_ (by omega), rfl⟩ ?_
    · have hl' : (pre ++ r :: suf).length ≤ 4611686018427387904 := by rw [← h]; omega
      rw [h, lt_mid, inR_mid, nth_mid, step15]
      simp only [cond_true, Option.bind_some]
      rw [w_mid hl']
      cases tg15 r <;> simp [joinX]
    · rw [lt_end]; rfl
    · rintro o rfl
      cases (bytesI s).all tg15 <;> rfl
  · rw [dT (show (s.length : Int) > 20 by omega), dF h1]; rfl
theorem Tag_true (s : List UInt8) (ws : WfT s) (c : Int) (wc : WfI .u8 c) : exerguelaw15_LocTag s c = some true := by
  unfold exerguelaw15_LocTag
  rw [shown_true]
  simp only [Option.bind_some]
  obtain ⟨c0, c1⟩ := wf_u8 wc
  by_cases h50 : (s.length : Int) > 50
  · rw [dT h50]; rfl
  rw [dF h50]
  have hm : (bif (decide (c ≥ 97)) then (bif (decide (c ≤ 122)) then (some true) else (bif (decide (c ≥ 65)) then (bif (decide (c ≤ 90)) then (some true) else (bif (decide (c ≥ 48)) then (bif (decide (c ≤ 57)) then (some true) else (some (decide (c = 45)))) else (some (decide (c = 45))))) else (bif (decide (c ≥ 48)) then (bif (decide (c ≤ 57)) then (some true) else (some (decide (c = 45)))) else (some (decide (c = 45)))))) else (bif (decide (c ≥ 65)) then (bif (decide (c ≤ 90)) then (some true) else (bif (decide (c ≥ 48)) then (bif (decide (c ≤ 57)) then (some true) else (some (decide (c = 45)))) else (some (decide (c = 45))))) else (bif (decide (c ≥ 48)) then (bif (decide (c ≤ 57)) then (some true) else (some (decide (c = 45)))) else (some (decide (c = 45)))))) = some (tg15 c) := by
    unfold tg15 lt15
    simp only [ge_iff_le]
    cases decide (97 ≤ c) <;> cases decide (c ≤ 122) <;> cases decide (65 ≤ c) <;> cases decide (c ≤ 90) <;> cases decide (48 ≤ c) <;> cases decide (c ≤ 57) <;> cases decide (c = 45) <;> rfl
  have hb : bytesS ([c] : List Int) = [UInt8.ofNat c.toNat] := rfl
  have hbI : bytesI (s ++ [UInt8.ofNat c.toNat]) = bytesI s ++ [c] := by
    have : ((UInt8.ofNat c.toNat).toNat : Int) = c := by simp; omega
    unfold bytesI
    rw [List.map_append]
    show _ ++ [((UInt8.ofNat c.toNat).toNat : Int)] = _
    rw [this]
  rw [hm, hb, room_of (by simp; omega)]
  simp only [cond_false, cond_true, Option.bind_some, tag_eq]
  have ht : tag15 (s ++ [UInt8.ofNat c.toNat]) = (decide (s.length < 20) && ((bytesI s).all tg15 && tg15 c)) := by
    unfold tag15
    rw [hbI, List.all_append, List.length_append, dF (show ¬ s.length + [UInt8.ofNat c.toNat].length = 0 by simp)]
    simp only [List.length_cons, List.length_nil, Bool.not_false, Bool.true_and, List.all_cons, List.all_nil, Bool.and_true]
    by_cases h : s.length < 20
    · rw [dT h, dT (show s.length + (0 + 1) ≤ 20 by omega)]
    · rw [dF h, dF (show ¬ s.length + (0 + 1) ≤ 20 by omega)]
  rw [ht]
  unfold tag15
  by_cases h0 : s.length = 0
  · rw [dT h0, dT (show (s.length : Int) = 0 by omega)]; rfl
  rw [dF h0, dF (show ¬ (s.length : Int) = 0 by omega), dT (show (s.length : Int) ≥ 1 by omega)]
  by_cases h20 : s.length ≤ 20
  · rw [dT h20, dT (show (s.length : Int) ≤ 20 by omega)]
    by_cases h19 : s.length < 20
    · rw [dT h19, dT (show (s.length : Int) < 20 by omega)]
      cases (bytesI s).all tg15 <;> cases tg15 c <;> rfl
    · rw [dF h19, dF (show ¬ (s.length : Int) < 20 by omega)]
      cases (bytesI s).all tg15 <;> cases tg15 c <;> rfl
  · rw [dF h20, dF (show ¬ s.length < 20 by omega)]
    cases (bytesI s).all tg15 <;> cases tg15 c <;> rfl

def laidD {H : Type} : List (String × DataW H) := [("math/bits.deBruijn32tab", Rows.laid_math_bits_deBruijn32tab), ("math/bits.deBruijn64tab", Rows.laid_math_bits_deBruijn64tab), ("internal/strconv.uint64pow10", Rows.laid_internal_strconv_uint64pow10), ("exergue/class.noughts", Rows.laid_exergue_class_noughts)]
theorem door_met (os : Os) (args : Array Value) : laidMetH Tryz.prog laidD ((World.doorLaid Tryz.prog 4000 os).forCall (fun _ _ => 0) ⟨#[], args, []⟩).memory :=
  laidMetH_of_parts3 (fuel := 8) (laidMet_of_run' 8 (by kernel_rfl) (by kernel_rfl)) (by kernel_rfl) (by kernel_rfl)

/-- Package variables hold what they are said to. -/
theorem globs_ok {W : World} (hL : laidMetH Tryz.prog laidD W) : GlobOk W (KW W) fun _ => none := fun g cs h => by
  have hh : (laidD (H := Unit)).all (fun x => x.2.handleName?.isNone) = true := by kernel_rfl
  by_cases h0 : g = 0
  · subst h0
    obtain rfl := Option.some.inj (show some [.int .i32 48, .int .i32 1632, .int .i32 1776, .int .i32 1984, .int .i32 2406, .int .i32 2534, .int .i32 2662, .int .i32 2790, .int .i32 2918, .int .i32 3046, .int .i32 3174, .int .i32 3302, .int .i32 3430, .int .i32 3664, .int .i32 3792, .int .i32 3872, .int .i32 6112, .int .i32 6160, .int .i32 65296, .int .i32 120782] = some cs from h)
    exact glob_ints hh hL (nm := "exergue/class.noughts") (t := 172) (e := 21) (n := 20) (k := .i32) [48, 1632, 1776, 1984, 2406, 2534, 2662, 2790, 2918, 3046, 3174, 3302, 3430, 3664, 3792, 3872, 6112, 6160, 65296, 120782] (by unfold laidD; simp only [List.mem_cons, List.not_mem_nil, or_false]; first | exact Or.inl rfl | exact Or.inr (Or.inl rfl) | exact Or.inr (Or.inr (Or.inl rfl)) | exact Or.inr rfl | exact Or.inr (Or.inr rfl) | exact Or.inr (Or.inr (Or.inr rfl)) | rfl) (by kernel_rfl) (by kernel_rfl) Tryz.underlying172 Tryz.underlying21 (by kernel_rfl) (by kernel_rfl)
  by_cases h2 : g = 2
  · subst h2
    obtain rfl := Option.some.inj (show some [.int .u64 1, .int .u64 10, .int .u64 100, .int .u64 1000, .int .u64 10000, .int .u64 100000, .int .u64 1000000, .int .u64 10000000, .int .u64 100000000, .int .u64 1000000000, .int .u64 10000000000, .int .u64 100000000000, .int .u64 1000000000000, .int .u64 10000000000000, .int .u64 100000000000000, .int .u64 1000000000000000, .int .u64 10000000000000000, .int .u64 100000000000000000, .int .u64 1000000000000000000, .int .u64 10000000000000000000] = some cs from h)
    exact glob_ints hh hL (nm := "internal/strconv.uint64pow10") (t := 250) (e := 241) (n := 20) (k := .u64) [1, 10, 100, 1000, 10000, 100000, 1000000, 10000000, 100000000, 1000000000, 10000000000, 100000000000, 1000000000000, 10000000000000, 100000000000000, 1000000000000000, 10000000000000000, 100000000000000000, 1000000000000000000, 10000000000000000000] (by unfold laidD; simp only [List.mem_cons, List.not_mem_nil, or_false]; first | exact Or.inl rfl | exact Or.inr (Or.inl rfl) | exact Or.inr (Or.inr (Or.inl rfl)) | exact Or.inr rfl | exact Or.inr (Or.inr rfl) | exact Or.inr (Or.inr (Or.inr rfl)) | rfl) (by kernel_rfl) (by kernel_rfl) Tryz.underlying250 Tryz.underlying241 (by kernel_rfl) (by kernel_rfl)
  by_cases h3 : g = 3
  · subst h3
    obtain rfl := Option.some.inj (show some [.int .u8 0, .int .u8 1, .int .u8 28, .int .u8 2, .int .u8 29, .int .u8 14, .int .u8 24, .int .u8 3, .int .u8 30, .int .u8 22, .int .u8 20, .int .u8 15, .int .u8 25, .int .u8 17, .int .u8 4, .int .u8 8, .int .u8 31, .int .u8 27, .int .u8 13, .int .u8 23, .int .u8 21, .int .u8 19, .int .u8 16, .int .u8 7, .int .u8 26, .int .u8 12, .int .u8 18, .int .u8 6, .int .u8 11, .int .u8 5, .int .u8 10, .int .u8 9] = some cs from h)
    exact glob_ints hh hL (nm := "math/bits.deBruijn32tab") (t := 257) (e := 5) (n := 32) (k := .u8) [0, 1, 28, 2, 29, 14, 24, 3, 30, 22, 20, 15, 25, 17, 4, 8, 31, 27, 13, 23, 21, 19, 16, 7, 26, 12, 18, 6, 11, 5, 10, 9] (by unfold laidD; simp only [List.mem_cons, List.not_mem_nil, or_false]; first | exact Or.inl rfl | exact Or.inr (Or.inl rfl) | exact Or.inr (Or.inr (Or.inl rfl)) | exact Or.inr rfl | exact Or.inr (Or.inr rfl) | exact Or.inr (Or.inr (Or.inr rfl)) | rfl) (by kernel_rfl) (by kernel_rfl) Tryz.underlying257 Tryz.underlying5 (by kernel_rfl) (by kernel_rfl)
  by_cases h4 : g = 4
  · subst h4
    obtain rfl := Option.some.inj (show some [.int .u8 0, .int .u8 1, .int .u8 56, .int .u8 2, .int .u8 57, .int .u8 49, .int .u8 28, .int .u8 3, .int .u8 61, .int .u8 58, .int .u8 42, .int .u8 50, .int .u8 38, .int .u8 29, .int .u8 17, .int .u8 4, .int .u8 62, .int .u8 47, .int .u8 59, .int .u8 36, .int .u8 45, .int .u8 43, .int .u8 51, .int .u8 22, .int .u8 53, .int .u8 39, .int .u8 33, .int .u8 30, .int .u8 24, .int .u8 18, .int .u8 12, .int .u8 5, .int .u8 63, .int .u8 55, .int .u8 48, .int .u8 27, .int .u8 60, .int .u8 41, .int .u8 37, .int .u8 16, .int .u8 46, .int .u8 35, .int .u8 44, .int .u8 21, .int .u8 52, .int .u8 32, .int .u8 23, .int .u8 11, .int .u8 54, .int .u8 26, .int .u8 40, .int .u8 15, .int .u8 34, .int .u8 20, .int .u8 31, .int .u8 10, .int .u8 25, .int .u8 14, .int .u8 19, .int .u8 9, .int .u8 13, .int .u8 8, .int .u8 7, .int .u8 6] = some cs from h)
    exact glob_ints hh hL (nm := "math/bits.deBruijn64tab") (t := 258) (e := 5) (n := 64) (k := .u8) [0, 1, 56, 2, 57, 49, 28, 3, 61, 58, 42, 50, 38, 29, 17, 4, 62, 47, 59, 36, 45, 43, 51, 22, 53, 39, 33, 30, 24, 18, 12, 5, 63, 55, 48, 27, 60, 41, 37, 16, 46, 35, 44, 21, 52, 32, 23, 11, 54, 26, 40, 15, 34, 20, 31, 10, 25, 14, 19, 9, 13, 8, 7, 6] (by unfold laidD; simp only [List.mem_cons, List.not_mem_nil, or_false]; first | exact Or.inl rfl | exact Or.inr (Or.inl rfl) | exact Or.inr (Or.inr (Or.inl rfl)) | exact Or.inr rfl | exact Or.inr (Or.inr rfl) | exact Or.inr (Or.inr (Or.inr rfl)) | rfl) (by kernel_rfl) (by kernel_rfl) Tryz.underlying258 Tryz.underlying5 (by kernel_rfl) (by kernel_rfl)
  exfalso
  have : gtabs g = none := by
    unfold gtabs
    split <;> first | rfl | (exfalso; simp_all)
  rw [show gtab g = gtabs g from rfl, this] at h
  cases h

set_option maxRecDepth 100000 in
theorem LocTag_lifted (os : Os) (started : os.Started) (H : Type) (enc : TypeId × Value → H) :
    ReturnsInHanded {} Tryz.checked os 7 .any (fun w args => (Rows.locTagSpec.pre enc Tryz.prog Tryz.f7 [] false w args ∧ laidMetH Tryz.prog laidD w) ∧ sizedMet enc Tryz.prog Tryz.f7 (OpenSpec.ofChange Rows.locTagSpec) false w args) (Rows.locTagSpec.post enc Tryz.prog Tryz.f7 false true false false) := by
  refine returnsInHanded_of_change_and (C := Tryz.checked) (X := fun w _ => laidMetH Tryz.prog laidD w) (fun _ _ _ hh h => h.of_heap hh) Tryz.own started (by kernel_rfl) Tryz.func7
    (ChangeSpec.witness_shaped (enc := enc) (C := Tryz.checked) (os := os) (X := fun w _ => laidMetH Tryz.prog laidD w) false (World.doorLaid Tryz.prog 4000 os) #[.string ⟨#[]⟩, .int .u8 0] 8 rfl (World.shaped_of_RefB (by kernel_rfl) (by kernel_rfl)) (by kernel_rfl) (by kernel_rfl) (by kernel_rfl) (door_met os _)) ?_
  intro W base args ds gs before hval0 hW _ hsz0 hL _
  have hsz : (DataW.weightsEach Tryz.prog (Tryz.f7.params.toList ++ Rows.locTagSpec.plain.varTypes Tryz.prog) (ds ++ gs)).all (· ≤ reachBytes) = true := hsz0
  clear hsz0
  refine law_post (P := Tryz.prog) (n := 1) (tb := 4) Tryz.laidOut Tryz.underlying4 rfl rfl (by kernel_rfl) (fun h => ?_) hval0 hW ?_ (globs_ok hL)
  · rw [Tryz.params7] at h
    obtain ⟨d0, d1, rfl⟩ := l2 h
    exact ⟨rfl, rfl, rfl⟩
  · intro ss hg hl1 hl2 hs
    subst hg
    rw [Tryz.params7] at hl1 hl2 hs hsz
    obtain ⟨d0, d1, rfl⟩ := l2 hl1
    obtain ⟨s0, s1, rfl⟩ := l2 hl2
    obtain ⟨a0, e0, w0⟩ := (show Tells Tryz.prog 1 9 encT WfT from (tells_str Tryz.underlying9)) _ _ (showsV_scalar Tryz.underlying9 (fun _ => by simp) (fun _ _ => by simp) (hs 0 9 _ _ rfl rfl rfl)) (sized_param hsz (j := 0) rfl rfl)
    obtain rfl : s0 = .str a0 := (List.cons.inj e0).1
    obtain ⟨a1, e1, w1⟩ := (show Tells Tryz.prog 1 5 (encI .u8) (WfI .u8) from (tells_int Tryz.underlying5)) _ _ (showsV_scalar Tryz.underlying5 (fun _ => by simp) (fun _ _ => by simp) (hs 1 5 _ _ rfl rfl rfl)) (sized_param hsz (j := 1) rfl rfl)
    obtain rfl : s1 = .int .u8 a1 := (List.cons.inj e1).1
    exact ⟨[], exerguelaw15_LocTag_ok (Tag_true a0 w0 a1 w1)⟩
theorem LocTag_row : Rows.LocTagSaid :=
  OpenClaim.holds_of_wide 7 Tryz.f7 rfl rfl rfl rfl rfl rfl rfl ⟨rfl, rfl, rfl, rfl, rfl⟩ rfl rfl rfl rfl rfl (by kernel_rfl) Tryz.func7 (by kernel_rfl)
    (of_decide_eq_true (by kernel_rfl)) (by unfold Func.isWrapper; first | (rw [if_pos (by decide +kernel)]; kernel_rfl) | (rw [if_neg (by decide +kernel)]; exact ⟨rfl, rfl⟩))
    (fun os started H enc _ => LocTag_lifted os started H enc)

theorem LocTag_holds : Rows.LocTagCardSaid :=
  Claim7.holds_tied_plain_at .later [] [.data, .data, .data, .data] true (true, "de599d8f743361fb38ba7e693bad57f7b00ee969443c7958de219e14c746c2b3") false
    LocTag_row (fun _ h => by cases h) (by kernel_rfl) (fun _ h => by cases h) locTag_row_tie rfl ⟨rfl, rfl⟩ (by kernel_rfl) rfl
    (fun f fn hf hfn => by
      obtain rfl : f = 7 := Option.some.inj ((show Tryz.prog.funcNamed "exergue/exerguelaw15.LocTag" = some 7 by kernel_rfl).symm.trans hf) |>.symm
      obtain rfl : fn = Tryz.f7 := (Option.some.inj (Tryz.func7.symm.trans hfn)).symm
      exact ⟨by kernel_rfl, fun j t ht => by
        rw [Tryz.params7] at ht
        have hm : t ∈ [9, 5] := by simpa using Array.mem_of_getElem? ht
        have hall : ([9, 5].all fun u => !Tryz.prog.wantsStandIn u) = true := by kernel_rfl
        exact (show Tryz.prog.wantsStandIn t = false by simpa using List.all_eq_true.1 hall t hm)⟩)
    (by kernel_rfl)

end Go.Proofs.YtcapcgbamehojaaGreatDoor
