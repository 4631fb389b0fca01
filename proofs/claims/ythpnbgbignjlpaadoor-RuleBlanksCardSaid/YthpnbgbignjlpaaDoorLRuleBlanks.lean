/-
  The statement RuleBlanksCard is proved: at every input the law answers true, and its input reads as it did. Conditions: those of the card (package variables are as the program text lays them).
-/
import Derived.Test.YthpnbgbignjlpaaDoorP
import Derived.Test.YthpnbgbignjlpaaDoorSyGL
import Derived.Test.YthpnbgbignjlpaaDoorCards
import Derived.Test.YthpnbgbignjlpaaDoorTie
import Derived.ProofKit
import Derived.SizedLaws
import Derived.LaidMore
import Derived.SevenTiedAt
namespace Go.Proofs.YthpnbgbignjlpaaDoor
open Go Go.Sy Go.RowKit Go.ChangeShapes Go.WideShapes Go.ChangeAt
set_option linter.unusedVariables false
set_option linter.unusedSimpArgs false
set_option maxRecDepth 100000
set_option maxHeartbeats 4000000

theorem Tryd.own : ownKnob Tryd.prog.godebug = none := by kernel_rfl
theorem Tryd.laidOut : laidOutB Tryd.prog = true := by kernel_rfl

theorem listN2 {α : Type} {l : List α} (h : l.length = 2) : ∃ a0 a1, l = [a0, a1] := by
  match l, h with
  | [a0, a1], _ => exact ⟨a0, a1, rfl⟩
theorem listN4 {α : Type} {l : List α} (h : l.length = 4) : ∃ a0 a1 a2 a3, l = [a0, a1, a2, a3] := by
  match l, h with
  | [a0, a1, a2, a3], _ => exact ⟨a0, a1, a2, a3, rfl⟩
/-- Its numbers are numbers of their kinds, its lists no longer than memory. -/
def WfSt42 (x : St42) : Prop := (WfI .i64) x.a0_ ∧ (WfI .i64) x.a1_
theorem tells_T42 {n : Nat} : Tells Tryd.prog (n + 2) 42 encSt42 WfSt42 := fun d cs h hs => by
  have hl : cs.length = 2 := (shows_alen Tryd.underlying42 h).trans (by kernel_rfl)
  obtain ⟨c0, c1, rfl⟩ := listN2 hl
  obtain ⟨p0, h0, z0⟩ := shows_elem Tryd.underlying42 h hs 0 [c0] (by kernel_rfl) (by kernel_rfl)
  obtain ⟨x0, e0, w0⟩ : ∃ x : Int, [c0] = (encI .i64) x ∧ (WfI .i64) x := (tells_int Tryd.underlying3) p0 _ h0 z0
  obtain ⟨p1, h1, z1⟩ := shows_elem Tryd.underlying42 h hs 1 [c1] (by kernel_rfl) (by kernel_rfl)
  obtain ⟨x1, e1, w1⟩ : ∃ x : Int, [c1] = (encI .i64) x ∧ (WfI .i64) x := (tells_int Tryd.underlying3) p1 _ h1 z1
  refine ⟨⟨x0, x1⟩, ?_, ⟨w0, w1⟩⟩
  show [c0] ++ [c1] = ((encI .i64) x0 ++ (encI .i64) x1)
  rw [e0, e1]
/-- Its numbers are numbers of their kinds, its lists no longer than memory. -/
def WfSt44 (x : St44) : Prop := (WfI .u8) x.Op_ ∧ (WfI .i64) x.Mod_ ∧ WfB x.Not_ ∧ (WfL WfSt42) x.R_
theorem tells_T45 {n : Nat} : Tells Tryd.prog (n + 4) 45 encSt44 WfSt44 := fun d cs h hs => by
  have hl : cs.length = 4 := (shows_len Tryd.underlying45 h).trans (by kernel_rfl)
  obtain ⟨c0, c1, c2, c3, rfl⟩ := listN4 hl
  obtain ⟨p0, h0, z0⟩ := shows_field Tryd.underlying45 h hs 0 5 [c0] (by kernel_rfl)
  obtain ⟨x0, e0, w0⟩ : ∃ x : Int, [c0] = (encI .u8) x ∧ (WfI .u8) x := (tells_int Tryd.underlying5) p0 _ h0 z0
  obtain ⟨p1, h1, z1⟩ := shows_field Tryd.underlying45 h hs 1 3 [c1] (by kernel_rfl)
  obtain ⟨x1, e1, w1⟩ : ∃ x : Int, [c1] = (encI .i64) x ∧ (WfI .i64) x := (tells_int Tryd.underlying3) p1 _ h1 z1
  obtain ⟨p2, h2, z2⟩ := shows_field Tryd.underlying45 h hs 2 4 [c2] (by kernel_rfl)
  obtain ⟨x2, e2, w2⟩ : ∃ x : Bool, [c2] = encB x ∧ WfB x := (tells_bool Tryd.underlying4) p2 _ h2 z2
  obtain ⟨p3, h3, z3⟩ := shows_field Tryd.underlying45 h hs 3 43 [c3] (by kernel_rfl)
  obtain ⟨x3, e3, w3⟩ : ∃ x : List St42, [c3] = (encL encSt42 2) x ∧ (WfL WfSt42) x := (tells_list (enc := encSt42) (Wf := WfSt42) Tryd.underlying43 (k := 2) (by kernel_rfl) (by kernel_rfl) tells_T42) p3 _ h3 z3
  refine ⟨⟨x0, x1, x2, x3⟩, ?_, ⟨w0, w1, w2, w3⟩⟩
  show [c0] ++ [c1] ++ [c2] ++ [c3] = ((encI .u8) x0 ++ (encI .i64) x1 ++ encB x2 ++ (encL encSt42 2) x3)
  rw [e0, e1, e2, e3]
theorem wf_i64' {x : Int} (h : (Lit.int .i64 x).wf = true) : -9223372036854775808 ≤ x ∧ x ≤ 9223372036854775807 := by
  simp [Lit.wf, IntKind.min, IntKind.max, IntKind.signed, IntKind.bits] at h; omega
theorem condWf {a : List (List St44)} (w : WfL (WfL WfSt44) a) : (a.length ≤ 140737488355328 ∧ ∀ row ∈ a, row.length ≤ 140737488355328 ∧ ∀ x ∈ row, x.R_.length ≤ 140737488355328) ∧ (∀ row ∈ a, ∀ x ∈ row, x.Mod_ ≤ 9223372036854775807 ∧ ∀ r ∈ x.R_, r.a0_ ≤ 9223372036854775807 ∧ r.a1_ ≤ 9223372036854775807) := by
  refine ⟨⟨w.1, fun row hr => ⟨(w.2 row hr).1, fun x hx => ?_⟩⟩, fun row hr x hx => ?_⟩
  · obtain ⟨_, _, _, h⟩ := (w.2 row hr).2 x hx
    exact h.1
  · obtain ⟨_, h2, _, h⟩ := (w.2 row hr).2 x hx
    refine ⟨(wf_i64' h2).2, fun r hrr => ?_⟩
    obtain ⟨g1, g2⟩ := h.2 r hrr
    exact ⟨(wf_i64' g1).2, (wf_i64' g2).2⟩
theorem shown_eq : exerguelaw11_shown = some true := by kernel_rfl
theorem dblS_snoc (s : List UInt8) (c : UInt8) : dblS (s ++ [c]) = dblS s ++ (if isB c = true then [32, 32] else [c]) := by
  unfold dblS; rw [List.flatMap_append]; simp
theorem dblS_len (s : List UInt8) : (dblS s).length ≤ 2 * s.length := by
  induction s with
  | nil => simp [dblS]
  | cons c s ih => rw [dblS_cons, List.length_append, List.length_cons]; split <;> simp <;> omega
theorem Blanks_true (a : List (List St44)) (w : WfL (WfL WfSt44) a) : exerguelaw11_RuleBlanks a = some true := by
  obtain ⟨w1, w2⟩ := condWf w
  unfold exerguelaw11_RuleBlanks
  rw [shown_eq]
  obtain ⟨b, hb, hs⟩ := short_ex w1.1 w1.2
  rw [hb]
  simp only [Option.bind_some]
  cases b with
  | false => rfl
  | true =>
    obtain ⟨t1, t2⟩ := shortP_ok (hs rfl) w2
    rw [rright_eq11 t1 t2]
    simp only [Bool.not_true, cond_false, Option.bind_some]
    cases hr : rightC a with
    | false => rfl
    | true =>
      have hne := rightC_ne hr
      have hp := of_decide_eq_true hr
      obtain ⟨p1, p2, p3⟩ := parseC_spec hp
      simp only [Bool.not_true, cond_false, Option.bind_some, joinX]
      rw [text_eq t1 hne.2]
      simp only [Option.bind_some]
      generalize hS : condT a = s at *
      have hloop : loopN (fun (s146 : (List UInt8) × Int) => (bif (decide (s146.2 < (s.length : Int))) then (Option.bind (bif inS s146.2 (IntKind.wrap .i64 (s146.2 + 1)) s.length then (bif room (s146.1.length + ((cut s s146.2 (IntKind.wrap .i64 (s146.2 + 1)))).length) then (bif inR s146.2 s.length then (bif (decide (((((s.getD (s146.2 : Int).toNat 0).toNat : Nat) : Int)) = 32)) then (bif room (((s146.1 ++ ((cut s s146.2 (IntKind.wrap .i64 (s146.2 + 1)))))).length + ([32] : List UInt8).length) then (some ((((s146.1 ++ ((cut s s146.2 (IntKind.wrap .i64 (s146.2 + 1)))))) ++ ([32] : List UInt8)))) else none) else (some ((s146.1 ++ ((cut s s146.2 (IntKind.wrap .i64 (s146.2 + 1)))))))) else none) else none) else none) fun (s207 : (List UInt8)) => (some (.inl (s207, (IntKind.wrap .i64 (s146.2 + 1)))))) else (some (.inr s146.1)))) big (([32, 32] : List UInt8), 0) = some ([32, 32] ++ dblS s) := by
        rw [loop_fold s (fun pre => ([32, 32] ++ dblS pre, (pre.length : Int))) ([32, 32] ++ dblS s)]
        · rfl
        · intro pre c suf h
          have hb : (pre ++ c :: suf).length ≤ 4611686018427387904 := by rw [← h]; omega
          have hpl : pre.length < s.length := by rw [h]; simp
          have hd := dblS_len pre
          simp only
          rw [h, lt_mid, inR_mid, getD_mid, w_mid hb]
          have hcut : cut (pre ++ c :: suf) (pre.length : Int) (((pre ++ [c]).length : Nat) : Int) = [c] := by
            have := cut_mid (pre := pre) (a := [c]) (t := suf)
            simpa using this
          rw [hcut, inS_of (by omega) (by simp only [List.length_append, List.length_cons, List.length_nil]; omega) (by simp only [List.length_append, List.length_cons, List.length_nil]; omega), room_of (by simp; omega)]
          simp only [cond_true]
          rw [blank_eq, dblS_snoc]
          cases hc : isB c with
          | true =>
            rw [room_of (by simp; omega), isB_32 hc]
            simp
          | false => simp
        · simp only
          rw [lt_end]; rfl
        · omega
      rw [hloop]
      simp only [Option.bind_some]
      have hd := dblS_len s
      rw [room_of (by simp; omega)]
      simp only [cond_true]
      obtain ⟨o, o1, o2⟩ := iparse_of (s := ([32, 32] ++ dblS s) ++ [32]) (by simp; omega)
      rw [o1]
      have hG := blanks_G p2
      rw [← List.append_assoc] at hG
      simp only [Option.bind_some]
      cases hq : parseC (([32, 32] ++ dblS s) ++ [32]) with
      | some d =>
        have := pOut_some o2 hq
        subst this
        obtain ⟨q1, q2, q3⟩ := parseC_spec hq
        rw [hG] at q2
        cases q2
        rw [rsame_eq t2]
        simp
      | none =>
        obtain ⟨_, h2⟩ := pOut_none o2 hq
        rcases h2 with ⟨h2, h3, h4⟩ | ⟨h2, h3⟩
        · rw [hG] at h4; cases h4
        · rw [h2]
          rcases h3 with h3 | ⟨c, h3, h4⟩
          · have e : decide (IntKind.wrap .i64 ((([32, 32] ++ dblS s).length : Int) + 1) > 400) = true := by
              rw [w64 (by simp; omega) (by simp; omega)]
              simp at h3
              exact dT (by simp; omega)
            rw [e]; rfl
          · rw [hG] at h3
            cases h3
            rw [p3] at h4; cases h4

def laidD {H : Type} : List (String × DataW H) := [("math/bits.deBruijn32tab", Rows.laid_math_bits_deBruijn32tab), ("math/bits.deBruijn64tab", Rows.laid_math_bits_deBruijn64tab), ("internal/strconv.uint64pow10", Rows.laid_internal_strconv_uint64pow10)]
theorem door_met (os : Os) (args : Array Value) : laidMetH Tryd.prog laidD ((World.doorLaid Tryd.prog 4000 os).forCall (fun _ _ => 0) ⟨#[], args, []⟩).memory :=
  laidMetH_of_parts3 (fuel := 8) (laidMet_of_run' 8 (by kernel_rfl) (by kernel_rfl)) (by kernel_rfl) (by kernel_rfl)

/-- Package variables hold what they are said to. -/
theorem globs_ok {W : World} (hL : laidMetH Tryd.prog laidD W) : GlobOk W (KW W) fun _ => none := fun g cs h => by
  have hh : (laidD (H := Unit)).all (fun x => x.2.handleName?.isNone) = true := by kernel_rfl
  by_cases h0 : g = 0
  · subst h0
    obtain rfl := Option.some.inj (show some [.int .u64 1, .int .u64 10, .int .u64 100, .int .u64 1000, .int .u64 10000, .int .u64 100000, .int .u64 1000000, .int .u64 10000000, .int .u64 100000000, .int .u64 1000000000, .int .u64 10000000000, .int .u64 100000000000, .int .u64 1000000000000, .int .u64 10000000000000, .int .u64 100000000000000, .int .u64 1000000000000000, .int .u64 10000000000000000, .int .u64 100000000000000000, .int .u64 1000000000000000000, .int .u64 10000000000000000000] = some cs from h)
    exact glob_ints hh hL (nm := "internal/strconv.uint64pow10") (t := 110) (e := 100) (n := 20) (k := .u64) [1, 10, 100, 1000, 10000, 100000, 1000000, 10000000, 100000000, 1000000000, 10000000000, 100000000000, 1000000000000, 10000000000000, 100000000000000, 1000000000000000, 10000000000000000, 100000000000000000, 1000000000000000000, 10000000000000000000] (by unfold laidD; simp only [List.mem_cons, List.not_mem_nil, or_false]; first | exact Or.inl rfl | exact Or.inr (Or.inl rfl) | exact Or.inr (Or.inr (Or.inl rfl)) | exact Or.inr rfl | exact Or.inr (Or.inr rfl) | exact Or.inr (Or.inr (Or.inr rfl)) | rfl) (by kernel_rfl) (by kernel_rfl) Tryd.underlying110 Tryd.underlying100 (by kernel_rfl) (by kernel_rfl)
  by_cases h2 : g = 2
  · subst h2
    obtain rfl := Option.some.inj (show some [.int .u8 0, .int .u8 1, .int .u8 28, .int .u8 2, .int .u8 29, .int .u8 14, .int .u8 24, .int .u8 3, .int .u8 30, .int .u8 22, .int .u8 20, .int .u8 15, .int .u8 25, .int .u8 17, .int .u8 4, .int .u8 8, .int .u8 31, .int .u8 27, .int .u8 13, .int .u8 23, .int .u8 21, .int .u8 19, .int .u8 16, .int .u8 7, .int .u8 26, .int .u8 12, .int .u8 18, .int .u8 6, .int .u8 11, .int .u8 5, .int .u8 10, .int .u8 9] = some cs from h)
    exact glob_ints hh hL (nm := "math/bits.deBruijn32tab") (t := 121) (e := 5) (n := 32) (k := .u8) [0, 1, 28, 2, 29, 14, 24, 3, 30, 22, 20, 15, 25, 17, 4, 8, 31, 27, 13, 23, 21, 19, 16, 7, 26, 12, 18, 6, 11, 5, 10, 9] (by unfold laidD; simp only [List.mem_cons, List.not_mem_nil, or_false]; first | exact Or.inl rfl | exact Or.inr (Or.inl rfl) | exact Or.inr (Or.inr (Or.inl rfl)) | exact Or.inr rfl | exact Or.inr (Or.inr rfl) | exact Or.inr (Or.inr (Or.inr rfl)) | rfl) (by kernel_rfl) (by kernel_rfl) Tryd.underlying121 Tryd.underlying5 (by kernel_rfl) (by kernel_rfl)
  by_cases h3 : g = 3
  · subst h3
    obtain rfl := Option.some.inj (show some [.int .u8 0, .int .u8 1, .int .u8 56, .int .u8 2, .int .u8 57, .int .u8 49, .int .u8 28, .int .u8 3, .int .u8 61, .int .u8 58, .int .u8 42, .int .u8 50, .int .u8 38, .int .u8 29, .int .u8 17, .int .u8 4, .int .u8 62, .int .u8 47, .int .u8 59, .int .u8 36, .int .u8 45, .int .u8 43, .int .u8 51, .int .u8 22, .int .u8 53, .int .u8 39, .int .u8 33, .int .u8 30, .int .u8 24, .int .u8 18, .int .u8 12, .int .u8 5, .int .u8 63, .int .u8 55, .int .u8 48, .int .u8 27, .int .u8 60, .int .u8 41, .int .u8 37, .int .u8 16, .int .u8 46, .int .u8 35, .int .u8 44, .int .u8 21, .int .u8 52, .int .u8 32, .int .u8 23, .int .u8 11, .int .u8 54, .int .u8 26, .int .u8 40, .int .u8 15, .int .u8 34, .int .u8 20, .int .u8 31, .int .u8 10, .int .u8 25, .int .u8 14, .int .u8 19, .int .u8 9, .int .u8 13, .int .u8 8, .int .u8 7, .int .u8 6] = some cs from h)
    exact glob_ints hh hL (nm := "math/bits.deBruijn64tab") (t := 122) (e := 5) (n := 64) (k := .u8) [0, 1, 56, 2, 57, 49, 28, 3, 61, 58, 42, 50, 38, 29, 17, 4, 62, 47, 59, 36, 45, 43, 51, 22, 53, 39, 33, 30, 24, 18, 12, 5, 63, 55, 48, 27, 60, 41, 37, 16, 46, 35, 44, 21, 52, 32, 23, 11, 54, 26, 40, 15, 34, 20, 31, 10, 25, 14, 19, 9, 13, 8, 7, 6] (by unfold laidD; simp only [List.mem_cons, List.not_mem_nil, or_false]; first | exact Or.inl rfl | exact Or.inr (Or.inl rfl) | exact Or.inr (Or.inr (Or.inl rfl)) | exact Or.inr rfl | exact Or.inr (Or.inr rfl) | exact Or.inr (Or.inr (Or.inr rfl)) | rfl) (by kernel_rfl) (by kernel_rfl) Tryd.underlying122 Tryd.underlying5 (by kernel_rfl) (by kernel_rfl)
  exfalso
  have : gtabs g = none := by
    unfold gtabs
    split <;> first | rfl | (exfalso; simp_all)
  rw [show gtab g = gtabs g from rfl, this] at h
  cases h

set_option maxRecDepth 100000 in
theorem RuleBlanks_lifted (os : Os) (started : os.Started) (H : Type) (enc : TypeId × Value → H) :
    ReturnsInHanded {} Tryd.checked os 4 .any (fun w args => (Rows.ruleBlanksSpec.pre enc Tryd.prog Tryd.f4 [] false w args ∧ laidMetH Tryd.prog laidD w) ∧ sizedMet enc Tryd.prog Tryd.f4 (OpenSpec.ofChange Rows.ruleBlanksSpec) false w args) (Rows.ruleBlanksSpec.post enc Tryd.prog Tryd.f4 false true false false) := by
  refine returnsInHanded_of_change_and (C := Tryd.checked) (X := fun w _ => laidMetH Tryd.prog laidD w) (fun _ _ _ hh h => h.of_heap hh) Tryd.own started (by kernel_rfl) Tryd.func4
    (ChangeSpec.witness_shaped (enc := enc) (C := Tryd.checked) (os := os) (X := fun w _ => laidMetH Tryd.prog laidD w) false (World.doorLaid Tryd.prog 4000 os) #[.slice none 0 0] 8 rfl (World.shaped_of_RefB (by kernel_rfl) (by kernel_rfl)) (by kernel_rfl) (by kernel_rfl) (by kernel_rfl) (door_met os _)) ?_
  intro W base args ds gs before hval0 hW _ hsz0 hL _
  have hsz : (DataW.weightsEach Tryd.prog (Tryd.f4.params.toList ++ Rows.ruleBlanksSpec.plain.varTypes Tryd.prog) (ds ++ gs)).all (· ≤ reachBytes) = true := hsz0
  clear hsz0
  refine law_post (P := Tryd.prog) (n := 6) (tb := 4) Tryd.laidOut Tryd.underlying4 rfl rfl (by kernel_rfl) (fun h => ?_) hval0 hW ?_ (globs_ok hL)
  · rw [Tryd.params4] at h
    obtain ⟨d0, rfl⟩ := l1 h
    exact ⟨rfl, rfl, rfl⟩
  · intro ss hg hl1 hl2 hs
    subst hg
    rw [Tryd.params4] at hl1 hl2 hs hsz
    obtain ⟨d0, rfl⟩ := l1 hl1
    obtain ⟨s0, rfl⟩ := l1 hl2
    obtain ⟨a0, e0, w0⟩ := (show Tells Tryd.prog 6 23 (encL (encL encSt44 4) 1) (WfL (WfL WfSt44)) from (tells_list (enc := (encL encSt44 4)) (Wf := (WfL WfSt44)) Tryd.underlying23 (k := 1) (by kernel_rfl) (by kernel_rfl) (tells_list (enc := encSt44) (Wf := WfSt44) Tryd.underlying46 (k := 4) (by kernel_rfl) (by kernel_rfl) tells_T45))) _ _ (showsV_scalar Tryd.underlying23 (fun _ => by simp) (fun _ _ => by simp) (hs 0 23 _ _ rfl rfl rfl)) (sized_param hsz (j := 0) rfl rfl)
    obtain rfl : s0 = lsv (encL encSt44 4) 1 a0 := (List.cons.inj e0).1
    exact ⟨[], exerguelaw11_RuleBlanks_ok (Blanks_true a0 w0)⟩
theorem RuleBlanks_row : Rows.RuleBlanksSaid :=
  OpenClaim.holds_of_wide 4 Tryd.f4 rfl rfl rfl rfl rfl rfl rfl ⟨rfl, rfl, rfl, rfl, rfl⟩ rfl rfl rfl rfl rfl (by kernel_rfl) Tryd.func4 (by kernel_rfl)
    (of_decide_eq_true (by kernel_rfl)) (by unfold Func.isWrapper; first | (rw [if_pos (by decide +kernel)]; kernel_rfl) | (rw [if_neg (by decide +kernel)]; exact ⟨rfl, rfl⟩))
    (fun os started H enc _ => RuleBlanks_lifted os started H enc)

theorem RuleBlanks_holds : Rows.RuleBlanksCardSaid :=
  Claim7.holds_tied_plain_at .later [] [.data, .data, .data] true (true, "685418db3fef076df66257e9506a1da9694b679f0b5ed40a25cd41672c9bff8e") false
    RuleBlanks_row (fun _ h => by cases h) (by kernel_rfl) (fun _ h => by cases h) ruleBlanks_row_tie rfl ⟨rfl, rfl⟩ (by kernel_rfl) rfl
    (fun f fn hf hfn => by
      obtain rfl : f = 4 := Option.some.inj ((show Tryd.prog.funcNamed "exergue/exerguelaw11.RuleBlanks" = some 4 by kernel_rfl).symm.trans hf) |>.symm
      obtain rfl : fn = Tryd.f4 := (Option.some.inj (Tryd.func4.symm.trans hfn)).symm
      exact ⟨by kernel_rfl, fun j t ht => by
        rw [Tryd.params4] at ht
        have hm : t ∈ [23] := by simpa using Array.mem_of_getElem? ht
        have hall : ([23].all fun u => !Tryd.prog.wantsStandIn u) = true := by kernel_rfl
        exact (show Tryd.prog.wantsStandIn t = false by simpa using List.all_eq_true.1 hall t hm)⟩)
    (by kernel_rfl)

end Go.Proofs.YthpnbgbignjlpaaDoor
