/-
  The statement RuleWideCard is proved: at every input the law answers true, and its input reads as it did. Conditions: those of the card (package variables are as the program text lays them).
-/
import Derived.Test.YthpnbgbignjlpaaDoorP
import Derived.Test.YthpnbgbignjlpaaDoorSyGL
import Derived.Test.YthpnbgbignjlpaaDoorCards
import Derived.Test.YthpnbgbignjlpaaDoorTie
import Derived.ProofKit
import Derived.SizedLaws
import Derived.LaidMore
import Derived.SevenTiedAt
namespace Go.Proofs.YthpnbgbignjlpaaDoor
open Go Go.Sy Go.RowKit Go.ChangeShapes Go.WideShapes Go.ChangeAt
set_option linter.unusedVariables false
set_option linter.unusedSimpArgs false
set_option maxRecDepth 100000
set_option maxHeartbeats 4000000

theorem Tryd.own : ownKnob Tryd.prog.godebug = none := by kernel_rfl
theorem Tryd.laidOut : laidOutB Tryd.prog = true := by kernel_rfl

theorem listN4 {α : Type} {l : List α} (h : l.length = 4) : ∃ a0 a1 a2 a3, l = [a0, a1, a2, a3] := by
  match l, h with
  | [a0, a1, a2, a3], _ => exact ⟨a0, a1, a2, a3, rfl⟩
theorem listN9 {α : Type} {l : List α} (h : l.length = 9) : ∃ a0 a1 a2 a3 a4 a5 a6 a7 a8, l = [a0, a1, a2, a3, a4, a5, a6, a7, a8] := by
  match l, h with
  | [a0, a1, a2, a3, a4, a5, a6, a7, a8], _ => exact ⟨a0, a1, a2, a3, a4, a5, a6, a7, a8, rfl⟩
/-- Its numbers are numbers of their kinds, its lists no longer than memory. -/
def WfSt25 (x : St25) : Prop := (WfL (WfI .u8)) x.I_ ∧ (WfL (WfI .u8)) x.F_ ∧ (WfI .i64) x.W_ ∧ (WfI .i64) x.C_
theorem tells_T26 {n : Nat} : Tells Tryd.prog (n + 3) 26 encSt25 WfSt25 := fun d cs h hs => by
  have hl : cs.length = 4 := (shows_len Tryd.underlying26 h).trans (by kernel_rfl)
  obtain ⟨c0, c1, c2, c3, rfl⟩ := listN4 hl
  obtain ⟨p0, h0, z0⟩ := shows_field Tryd.underlying26 h hs 0 24 [c0] (by kernel_rfl)
  obtain ⟨x0, e0, w0⟩ : ∃ x : List Int, [c0] = (encL (encI .u8) 1) x ∧ (WfL (WfI .u8)) x := (tells_list (enc := (encI .u8)) (Wf := (WfI .u8)) Tryd.underlying24 (k := 1) (by kernel_rfl) (by kernel_rfl) (tells_int Tryd.underlying5)) p0 _ h0 z0
  obtain ⟨p1, h1, z1⟩ := shows_field Tryd.underlying26 h hs 1 24 [c1] (by kernel_rfl)
  obtain ⟨x1, e1, w1⟩ : ∃ x : List Int, [c1] = (encL (encI .u8) 1) x ∧ (WfL (WfI .u8)) x := (tells_list (enc := (encI .u8)) (Wf := (WfI .u8)) Tryd.underlying24 (k := 1) (by kernel_rfl) (by kernel_rfl) (tells_int Tryd.underlying5)) p1 _ h1 z1
  obtain ⟨p2, h2, z2⟩ := shows_field Tryd.underlying26 h hs 2 3 [c2] (by kernel_rfl)
  obtain ⟨x2, e2, w2⟩ : ∃ x : Int, [c2] = (encI .i64) x ∧ (WfI .i64) x := (tells_int Tryd.underlying3) p2 _ h2 z2
  obtain ⟨p3, h3, z3⟩ := shows_field Tryd.underlying26 h hs 3 3 [c3] (by kernel_rfl)
  obtain ⟨x3, e3, w3⟩ : ∃ x : Int, [c3] = (encI .i64) x ∧ (WfI .i64) x := (tells_int Tryd.underlying3) p3 _ h3 z3
  refine ⟨⟨x0, x1, x2, x3⟩, ?_, ⟨w0, w1, w2, w3⟩⟩
  show [c0] ++ [c1] ++ [c2] ++ [c3] = ((encL (encI .u8) 1) x0 ++ (encL (encI .u8) 1) x1 ++ (encI .i64) x2 ++ (encI .i64) x3)
  rw [e0, e1, e2, e3]
/-- Its numbers are numbers of their kinds, its lists no longer than memory. -/
def WfSt38 (x : St38) : Prop := (WfI .u8) x.Op_ ∧ (WfI .u16) x.Mod_ ∧ (WfI .u8) x.From_ ∧ (WfI .u8) x.To_ ∧ (WfI .u8) x.More_ ∧ WfSt25 x.O_
theorem tells_T39 {n : Nat} : Tells Tryd.prog (n + 4) 39 encSt38 WfSt38 := fun d cs h hs => by
  have hl : cs.length = 9 := (shows_len Tryd.underlying39 h).trans (by kernel_rfl)
  obtain ⟨c0, c1, c2, c3, c4, c5, c6, c7, c8, rfl⟩ := listN9 hl
  obtain ⟨p0, h0, z0⟩ := shows_field Tryd.underlying39 h hs 0 5 [c0] (by kernel_rfl)
  obtain ⟨x0, e0, w0⟩ : ∃ x : Int, [c0] = (encI .u8) x ∧ (WfI .u8) x := (tells_int Tryd.underlying5) p0 _ h0 z0
  obtain ⟨p1, h1, z1⟩ := shows_field Tryd.underlying39 h hs 1 37 [c1] (by kernel_rfl)
  obtain ⟨x1, e1, w1⟩ : ∃ x : Int, [c1] = (encI .u16) x ∧ (WfI .u16) x := (tells_int Tryd.underlying37) p1 _ h1 z1
  obtain ⟨p2, h2, z2⟩ := shows_field Tryd.underlying39 h hs 2 5 [c2] (by kernel_rfl)
  obtain ⟨x2, e2, w2⟩ : ∃ x : Int, [c2] = (encI .u8) x ∧ (WfI .u8) x := (tells_int Tryd.underlying5) p2 _ h2 z2
  obtain ⟨p3, h3, z3⟩ := shows_field Tryd.underlying39 h hs 3 5 [c3] (by kernel_rfl)
  obtain ⟨x3, e3, w3⟩ : ∃ x : Int, [c3] = (encI .u8) x ∧ (WfI .u8) x := (tells_int Tryd.underlying5) p3 _ h3 z3
  obtain ⟨p4, h4, z4⟩ := shows_field Tryd.underlying39 h hs 4 5 [c4] (by kernel_rfl)
  obtain ⟨x4, e4, w4⟩ : ∃ x : Int, [c4] = (encI .u8) x ∧ (WfI .u8) x := (tells_int Tryd.underlying5) p4 _ h4 z4
  obtain ⟨p5, h5, z5⟩ := shows_field Tryd.underlying39 h hs 5 26 [c5, c6, c7, c8] (by kernel_rfl)
  obtain ⟨x5, e5, w5⟩ : ∃ x : St25, [c5, c6, c7, c8] = encSt25 x ∧ WfSt25 x := tells_T26 p5 _ h5 z5
  refine ⟨⟨x0, x1, x2, x3, x4, x5⟩, ?_, ⟨w0, w1, w2, w3, w4, w5⟩⟩
  show [c0] ++ [c1] ++ [c2] ++ [c3] ++ [c4] ++ [c5, c6, c7, c8] = ((encI .u8) x0 ++ (encI .u16) x1 ++ (encI .u8) x2 ++ (encI .u8) x3 ++ (encI .u8) x4 ++ encSt25 x5)
  rw [e0, e1, e2, e3, e4, e5]
theorem shown_eq : exerguelaw11_shown = some true := by kernel_rfl
theorem figsP_digs (n : Nat) : figsP (digsN n) := by
  induction n using Nat.strongRecOn with
  | _ n ih =>
    by_cases h : n = 0
    · subst h; rw [digsN_zero]; intro x hx; cases hx
    · rw [digsN_pos h]
      intro x hx
      rcases List.mem_append.1 hx with hx | hx
      · exact ih (n / 10) (by omega) x hx
      · simp at hx; omega
theorem opnd_figs {o : St25} {x : Int} (hI : figsP o.I_) (hF : figsP o.F_) : figsP (opnd o x).1 := by
  have ht : figsP (o.F_.take o.W_.toNat) := fun y hy => hF y (List.mem_of_mem_take hy)
  have h0 : figsP [] := fun y hy => by cases hy
  unfold opnd
  repeat' split
  all_goals first | exact h0 | exact hI | exact figsP_digs _ | exact figsP_bare hF | exact figsP_bare ht
theorem opnd_short {o : St25} {x : Int} (hr : rightB o = true) (h1 : o.I_.length ≤ 1000) (h2 : o.F_.length ≤ 1000) : (opnd o x).1.length ≤ 2000 := by
  obtain ⟨_, _, _, hw, hc0, hc⟩ := rightB_iff.1 hr
  have hfl := full_le o.F_
  have d1 := digs_short (n := o.F_.length) (by omega)
  have d2 := digs_short (n := o.W_.toNat) (by omega)
  have d3 := digs_short (n := o.C_.toNat) (by omega)
  have b1 := bare_len o.F_
  have b2 := bare_len (o.F_.take o.W_.toNat)
  have b3 : (o.F_.take o.W_.toNat).length ≤ 1000 := by rw [List.length_take]; omega
  unfold opnd
  repeat' split
  all_goals simp only [List.length_nil]
  all_goals omega
theorem Wide_true (x : St38) (w : WfSt38 x) : exerguelaw11_RuleWide x = some true := by
  obtain ⟨w1, w2, w3, w4, w5, w6, w7, w8, w9⟩ := w
  have w2 := wf_u16 w2
  have w3 := wf_u8 w3
  have w4 := wf_u8 w4
  have w5 := wf_u8 w5
  have lI : x.O_.I_.length ≤ 140737488355328 := w6.1
  have lF : x.O_.F_.length ≤ 140737488355328 := w7.1
  unfold exerguelaw11_RuleWide
  have h105 : exergueref07_Operand x.O_ 105 = some (x.O_.I_, true) := by
    unfold exergueref07_Operand
    simp [joinX]
  rw [shown_eq, h105]
  simp only [Option.bind_some, Bool.not_true, cond_false]
  rw [w64 (n := (x.O_.I_.length : Int) + (x.O_.F_.length : Int)) (by omega) (by omega), w64 (n := x.Mod_) (by omega) (by omega), w64 (n := x.From_) (by omega) (by omega), w64 (n := x.To_) (by omega) (by omega), w64 (n := x.More_) (by omega) (by omega), w64 (n := x.Mod_ + 1) (by omega) (by omega), w64 (n := x.To_ + x.More_) (by omega) (by omega)]
  by_cases hlen : (x.O_.I_.length : Int) + (x.O_.F_.length : Int) > 1000
  · rw [dT hlen]; rfl
  · rw [dF hlen, rright_eq (by omega) (by omega)]
    cases hr : rightB x.O_ with
    | false => rfl
    | true =>
      by_cases hft : x.From_ > x.To_
      · rw [dT hft]; rfl
      · rw [dF hft]
        simp only [Option.bind_some, Bool.not_true, cond_false, joinX]
        obtain ⟨b, hb, -⟩ := rright11_tot (op := x.Op_) (m := x.Mod_) (f := x.From_) (t := x.To_) (by omega) (by omega) (by omega)
        rw [hb]
        cases b with
        | false => rfl
        | true =>
          have hrr := rightB_iff.1 hr
          have fI := figsP_of hrr.1 (figs_nonneg w6)
          have fF := figsP_of hrr.2.1 (figs_nonneg w7)
          have fo := opnd_figs (o := x.O_) (x := x.Op_) fI fF
          have lo := opnd_short (x := x.Op_) hr (by omega) (by omega)
          have o105 : opnd x.O_ 105 = (x.O_.I_, true) := by simp [opnd]
          have ec := asks_eq (op := 105) (m := x.Mod_ + 1) (a := x.From_) (b := x.From_) (o := x.O_) (by omega) (by omega) hr (by rw [o105]; exact fI) (by rw [o105]; simp only; omega) (by omega) (by omega) (by omega)
          rw [o105] at ec
          have ea := asks_eq (op := x.Op_) (m := x.Mod_) (a := x.From_) (b := x.To_) (o := x.O_) (by omega) (by omega) hr fo lo (by omega) (by omega) (by omega)
          have eb := asks_eq (op := x.Op_) (m := x.Mod_) (a := x.From_) (b := x.To_ + x.More_) (o := x.O_) (by omega) (by omega) hr fo lo (by omega) (by omega) (by omega)
          simp only [Option.bind_some, Bool.not_true, cond_false, cond_true]
          rw [rmod_eq fI (by omega) (by omega) (by omega)]
          simp only [Option.bind_some]
          rw [ea, eb, ec]
          have hc : inV x.O_.I_ (x.Mod_ + 1) x.From_ x.From_ = decide (val x.O_.I_ % (x.Mod_ + 1) = x.From_) := by
            unfold inV
            rw [if_neg (by omega)]
            exact decide_eq_decide.2 (by omega)
          rw [hc]
          have hmono : inV (opnd x.O_ x.Op_).1 x.Mod_ x.From_ x.To_ = true → inV (opnd x.O_ x.Op_).1 x.Mod_ x.From_ (x.To_ + x.More_) = true := by
            unfold inV
            intro h
            have h := of_decide_eq_true h
            exact decide_eq_true ⟨h.1, by have := h.2; omega⟩
          generalize (decide (val x.O_.I_ % (x.Mod_ + 1) = x.From_)) = c
          cases h1 : (opnd x.O_ x.Op_).2 with
          | false => cases c <;> rfl
          | true =>
            cases h2 : inV (opnd x.O_ x.Op_).1 x.Mod_ x.From_ x.To_ with
            | false => cases c <;> rfl
            | true => rw [hmono h2]; cases c <;> rfl

def laidD {H : Type} : List (String × DataW H) := [("math/bits.deBruijn32tab", Rows.laid_math_bits_deBruijn32tab), ("math/bits.deBruijn64tab", Rows.laid_math_bits_deBruijn64tab), ("internal/strconv.uint64pow10", Rows.laid_internal_strconv_uint64pow10)]
theorem door_met (os : Os) (args : Array Value) : laidMetH Tryd.prog laidD ((World.doorLaid Tryd.prog 4000 os).forCall (fun _ _ => 0) ⟨#[], args, []⟩).memory :=
  laidMetH_of_parts3 (fuel := 8) (laidMet_of_run' 8 (by kernel_rfl) (by kernel_rfl)) (by kernel_rfl) (by kernel_rfl)

/-- Package variables hold what they are said to. -/
theorem globs_ok {W : World} (hL : laidMetH Tryd.prog laidD W) : GlobOk W (KW W) fun _ => none := fun g cs h => by
  have hh : (laidD (H := Unit)).all (fun x => x.2.handleName?.isNone) = true := by kernel_rfl
  by_cases h0 : g = 0
  · subst h0
    obtain rfl := Option.some.inj (show some [.int .u64 1, .int .u64 10, .int .u64 100, .int .u64 1000, .int .u64 10000, .int .u64 100000, .int .u64 1000000, .int .u64 10000000, .int .u64 100000000, .int .u64 1000000000, .int .u64 10000000000, .int .u64 100000000000, .int .u64 1000000000000, .int .u64 10000000000000, .int .u64 100000000000000, .int .u64 1000000000000000, .int .u64 10000000000000000, .int .u64 100000000000000000, .int .u64 1000000000000000000, .int .u64 10000000000000000000] = some cs from h)
    exact glob_ints hh hL (nm := "internal/strconv.uint64pow10") (t := 110) (e := 100) (n := 20) (k := .u64) [1, 10, 100, 1000, 10000, 100000, 1000000, 10000000, 100000000, 1000000000, 10000000000, 100000000000, 1000000000000, 10000000000000, 100000000000000, 1000000000000000, 10000000000000000, 100000000000000000, 1000000000000000000, 10000000000000000000] (by unfold laidD; simp only [List.mem_cons, List.not_mem_nil, or_false]; first | exact Or.inl rfl | exact Or.inr (Or.inl rfl) | exact Or.inr (Or.inr (Or.inl rfl)) | exact Or.inr rfl | exact Or.inr (Or.inr rfl) | exact Or.inr (Or.inr (Or.inr rfl)) | rfl) (by kernel_rfl) (by kernel_rfl) Tryd.underlying110 Tryd.underlying100 (by kernel_rfl) (by kernel_rfl)
  by_cases h2 : g = 2
  · subst h2
    obtain rfl := Option.some.inj (show some [.int .u8 0, .int .u8 1, .int .u8 28, .int .u8 2, .int .u8 29, .int .u8 14, .int .u8 24, .int .u8 3, .int .u8 30, .int .u8 22, .int .u8 20, .int .u8 15, .int .u8 25, .int .u8 17, .int .u8 4, .int .u8 8, .int .u8 31, .int .u8 27, .int .u8 13, .int .u8 23, .int .u8 21, .int .u8 19, .int .u8 16, .int .u8 7, .int .u8 26, .int .u8 12, .int .u8 18, .int .u8 6, .int .u8 11, .int .u8 5, .int .u8 10, .int .u8 9] = some cs from h)
    exact glob_ints hh hL (nm := "math/bits.deBruijn32tab") (t := 121) (e := 5) (n := 32) (k := .u8) [0, 1, 28, 2, 29, 14, 24, 3, 30, 22, 20, 15, 25, 17, 4, 8, 31, 27, 13, 23, 21, 19, 16, 7, 26, 12, 18, 6, 11, 5, 10, 9] (by unfold laidD; simp only [List.mem_cons, List.not_mem_nil, or_false]; first | exact Or.inl rfl | exact Or.inr (Or.inl rfl) | exact Or.inr (Or.inr (Or.inl rfl)) | exact Or.inr rfl | exact Or.inr (Or.inr rfl) | exact Or.inr (Or.inr (Or.inr rfl)) | rfl) (by kernel_rfl) (by kernel_rfl) Tryd.underlying121 Tryd.underlying5 (by kernel_rfl) (by kernel_rfl)
  by_cases h3 : g = 3
  · subst h3
    obtain rfl := Option.some.inj (show some [.int .u8 0, .int .u8 1, .int .u8 56, .int .u8 2, .int .u8 57, .int .u8 49, .int .u8 28, .int .u8 3, .int .u8 61, .int .u8 58, .int .u8 42, .int .u8 50, .int .u8 38, .int .u8 29, .int .u8 17, .int .u8 4, .int .u8 62, .int .u8 47, .int .u8 59, .int .u8 36, .int .u8 45, .int .u8 43, .int .u8 51, .int .u8 22, .int .u8 53, .int .u8 39, .int .u8 33, .int .u8 30, .int .u8 24, .int .u8 18, .int .u8 12, .int .u8 5, .int .u8 63, .int .u8 55, .int .u8 48, .int .u8 27, .int .u8 60, .int .u8 41, .int .u8 37, .int .u8 16, .int .u8 46, .int .u8 35, .int .u8 44, .int .u8 21, .int .u8 52, .int .u8 32, .int .u8 23, .int .u8 11, .int .u8 54, .int .u8 26, .int .u8 40, .int .u8 15, .int .u8 34, .int .u8 20, .int .u8 31, .int .u8 10, .int .u8 25, .int .u8 14, .int .u8 19, .int .u8 9, .int .u8 13, .int .u8 8, .int .u8 7, .int .u8 6] = some cs from h)
    exact glob_ints hh hL (nm := "math/bits.deBruijn64tab") (t := 122) (e := 5) (n := 64) (k := .u8) [0, 1, 56, 2, 57, 49, 28, 3, 61, 58, 42, 50, 38, 29, 17, 4, 62, 47, 59, 36, 45, 43, 51, 22, 53, 39, 33, 30, 24, 18, 12, 5, 63, 55, 48, 27, 60, 41, 37, 16, 46, 35, 44, 21, 52, 32, 23, 11, 54, 26, 40, 15, 34, 20, 31, 10, 25, 14, 19, 9, 13, 8, 7, 6] (by unfold laidD; simp only [List.mem_cons, List.not_mem_nil, or_false]; first | exact Or.inl rfl | exact Or.inr (Or.inl rfl) | exact Or.inr (Or.inr (Or.inl rfl)) | exact Or.inr rfl | exact Or.inr (Or.inr rfl) | exact Or.inr (Or.inr (Or.inr rfl)) | rfl) (by kernel_rfl) (by kernel_rfl) Tryd.underlying122 Tryd.underlying5 (by kernel_rfl) (by kernel_rfl)
  exfalso
  have : gtabs g = none := by
    unfold gtabs
    split <;> first | rfl | (exfalso; simp_all)
  rw [show gtab g = gtabs g from rfl, this] at h
  cases h

set_option maxRecDepth 100000 in
theorem RuleWide_lifted (os : Os) (started : os.Started) (H : Type) (enc : TypeId × Value → H) :
    ReturnsInHanded {} Tryd.checked os 5 .any (fun w args => (Rows.ruleWideSpec.pre enc Tryd.prog Tryd.f5 [] false w args ∧ laidMetH Tryd.prog laidD w) ∧ sizedMet enc Tryd.prog Tryd.f5 (OpenSpec.ofChange Rows.ruleWideSpec) false w args) (Rows.ruleWideSpec.post enc Tryd.prog Tryd.f5 false true false false) := by
  refine returnsInHanded_of_change_and (C := Tryd.checked) (X := fun w _ => laidMetH Tryd.prog laidD w) (fun _ _ _ hh h => h.of_heap hh) Tryd.own started (by kernel_rfl) Tryd.func5
    (ChangeSpec.witness_shaped (enc := enc) (C := Tryd.checked) (os := os) (X := fun w _ => laidMetH Tryd.prog laidD w) false (World.doorLaid Tryd.prog 4000 os) #[.agg #[.int .u8 0, .int .u16 0, .int .u8 0, .int .u8 0, .int .u8 0, .slice none 0 0, .slice none 0 0, .int .i64 0, .int .i64 0]] 8 rfl (World.shaped_of_RefB (by kernel_rfl) (by kernel_rfl)) (by kernel_rfl) (by kernel_rfl) (by kernel_rfl) (door_met os _)) ?_
  intro W base args ds gs before hval0 hW _ hsz0 hL _
  have hsz : (DataW.weightsEach Tryd.prog (Tryd.f5.params.toList ++ Rows.ruleWideSpec.plain.varTypes Tryd.prog) (ds ++ gs)).all (· ≤ reachBytes) = true := hsz0
  clear hsz0
  refine law_post (P := Tryd.prog) (n := 4) (tb := 4) Tryd.laidOut Tryd.underlying4 rfl rfl (by kernel_rfl) (fun h => ?_) hval0 hW ?_ (globs_ok hL)
  · rw [Tryd.params5] at h
    obtain ⟨d0, rfl⟩ := l1 h
    exact ⟨rfl, rfl, rfl⟩
  · intro ss hg hl1 hl2 hs
    subst hg
    rw [Tryd.params5] at hl1 hl2 hs hsz
    obtain ⟨d0, rfl⟩ := l1 hl1
    obtain ⟨s0, rfl⟩ := l1 hl2
    obtain ⟨cs0, rfl, hc0⟩ := showsV_struct Tryd.underlying39 (hs 0 39 _ _ rfl rfl rfl)
    obtain ⟨a0, rfl, w0⟩ := tells_T39 (n := 0) _ _ hc0 (sized_param hsz (j := 0) rfl rfl)
    exact ⟨[], exerguelaw11_RuleWide_ok (Wide_true a0 w0)⟩
theorem RuleWide_row : Rows.RuleWideSaid :=
  OpenClaim.holds_of_wide 5 Tryd.f5 rfl rfl rfl rfl rfl rfl rfl ⟨rfl, rfl, rfl, rfl, rfl⟩ rfl rfl rfl rfl rfl (by kernel_rfl) Tryd.func5 (by kernel_rfl)
    (of_decide_eq_true (by kernel_rfl)) (by unfold Func.isWrapper; first | (rw [if_pos (by decide +kernel)]; kernel_rfl) | (rw [if_neg (by decide +kernel)]; exact ⟨rfl, rfl⟩))
    (fun os started H enc _ => RuleWide_lifted os started H enc)

theorem RuleWide_holds : Rows.RuleWideCardSaid :=
  Claim7.holds_tied_plain_at .later [] [.data, .data, .data] true (true, "685418db3fef076df66257e9506a1da9694b679f0b5ed40a25cd41672c9bff8e") false
    RuleWide_row (fun _ h => by cases h) (by kernel_rfl) (fun _ h => by cases h) ruleWide_row_tie rfl ⟨rfl, rfl⟩ (by kernel_rfl) rfl
    (fun f fn hf hfn => by
      obtain rfl : f = 5 := Option.some.inj ((show Tryd.prog.funcNamed "exergue/exerguelaw11.RuleWide" = some 5 by kernel_rfl).symm.trans hf) |>.symm
      obtain rfl : fn = Tryd.f5 := (Option.some.inj (Tryd.func5.symm.trans hfn)).symm
      exact ⟨by kernel_rfl, fun j t ht => by
        rw [Tryd.params5] at ht
        have hm : t ∈ [39] := by simpa using Array.mem_of_getElem? ht
        have hall : ([39].all fun u => !Tryd.prog.wantsStandIn u) = true := by kernel_rfl
        exact (show Tryd.prog.wantsStandIn t = false by simpa using List.all_eq_true.1 hall t hm)⟩)
    (by kernel_rfl)

end Go.Proofs.YthpnbgbignjlpaaDoor
