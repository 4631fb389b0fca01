/-
  The statement DecBackCard is proved: at every input the law answers true, and its input reads as it did. Conditions: those of the card (package variables are as the program text lays them).
-/
import Derived.Test.YtcldeecdhdcjdaaDoorP
import Derived.Test.YtcldeecdhdcjdaaDoorSyGL
import Derived.Test.YtcldeecdhdcjdaaDoorCards
import Derived.Test.YtcldeecdhdcjdaaDoorTie
import Derived.ProofKit
import Derived.SizedLaws
import Derived.LaidMore
import Derived.SevenTiedAt
namespace Go.Proofs.YtcldeecdhdcjdaaDoor
open Go Go.Sy Go.RowKit Go.ChangeShapes Go.WideShapes Go.ChangeAt
set_option linter.unusedVariables false
set_option linter.unusedSimpArgs false
set_option maxRecDepth 100000
set_option maxHeartbeats 4000000

theorem Tryd.own : ownKnob Tryd.prog.godebug = none := by kernel_rfl
theorem Tryd.laidOut : laidOutB Tryd.prog = true := by kernel_rfl

theorem listN3 {α : Type} {l : List α} (h : l.length = 3) : ∃ a0 a1 a2, l = [a0, a1, a2] := by
  match l, h with
  | [a0, a1, a2], _ => exact ⟨a0, a1, a2, rfl⟩
/-- Its numbers are numbers of their kinds, its lists no longer than memory. -/
def WfSt23 (x : St23) : Prop := WfB x.Neg_ ∧ (WfL (WfI .u8)) x.D_ ∧ (WfI .i64) x.E_
theorem tells_T24 {n : Nat} : Tells Tryd.prog (n + 3) 24 encSt23 WfSt23 := fun d cs h hs => by
  have hl : cs.length = 3 := (shows_len Tryd.underlying24 h).trans (by kernel_rfl)
  obtain ⟨c0, c1, c2, rfl⟩ := listN3 hl
  obtain ⟨p0, h0, z0⟩ := shows_field Tryd.underlying24 h hs 0 4 [c0] (by kernel_rfl)
  obtain ⟨x0, e0, w0⟩ : ∃ x : Bool, [c0] = encB x ∧ WfB x := (tells_bool Tryd.underlying4) p0 _ h0 z0
  obtain ⟨p1, h1, z1⟩ := shows_field Tryd.underlying24 h hs 1 22 [c1] (by kernel_rfl)
  obtain ⟨x1, e1, w1⟩ : ∃ x : List Int, [c1] = (encL (encI .u8) 1) x ∧ (WfL (WfI .u8)) x := (tells_list (enc := (encI .u8)) (Wf := (WfI .u8)) Tryd.underlying22 (k := 1) (by kernel_rfl) (by kernel_rfl) (tells_int Tryd.underlying5)) p1 _ h1 z1
  obtain ⟨p2, h2, z2⟩ := shows_field Tryd.underlying24 h hs 2 3 [c2] (by kernel_rfl)
  obtain ⟨x2, e2, w2⟩ : ∃ x : Int, [c2] = (encI .i64) x ∧ (WfI .i64) x := (tells_int Tryd.underlying3) p2 _ h2 z2
  refine ⟨⟨x0, x1, x2⟩, ?_, ⟨w0, w1, w2⟩⟩
  show [c0] ++ [c1] ++ [c2] = (encB x0 ++ (encL (encI .u8) 1) x1 ++ (encI .i64) x2)
  rw [e0, e1, e2]
theorem shown_eq : exerguelaw05_shown = some true := by kernel_rfl
theorem of_dec {x : St23} (w : WfSt23 x) : ∃ neg l E, x = ⟨neg, up l, E⟩ ∧ l.length ≤ 140737488355328 := by
  obtain ⟨neg, D, E⟩ := x
  obtain ⟨_, w2, _⟩ := w
  obtain ⟨l, rfl, _, hl⟩ := up_of w2
  exact ⟨neg, l, E, rfl, by rw [hl]; exact w2.1⟩
theorem rsame_nil : exergueref05_Same ⟨false, [], 0⟩ ⟨false, [], 0⟩ = some true := by
  have := rsame_eq (n1 := false) (n2 := false) right0 right0
  rw [show up [] = [] from rfl] at this
  rw [this]; simp
theorem rsame_self {n : Bool} {ds : List Nat} {e : Int} (h : rightP ds e) : exergueref05_Same ⟨n, up ds, e⟩ ⟨n, up ds, e⟩ = some true := by
  rw [rsame_eq h h]; simp
theorem Reads_true (a : St23) (wa : WfSt23 a) (s : List UInt8) (ws : WfT s) : exerguelaw05_DecReads a s = some true := by
  obtain ⟨n, ds, e, rfl, hd⟩ := of_dec wa
  unfold exerguelaw05_DecReads
  rw [shown_eq]
  simp only [Option.bind_some]
  by_cases hl : (s.length : Int) > 100
  · rw [dT hl]; rfl
  · rw [dF hl]
    simp only [cond_false]
    have hlast : (Option.bind (exergueref05_Right ⟨n, up ds, e⟩) fun y95 => (bif (!y95) then (some true) else (Option.bind (dec_Text ⟨n, up ds, e⟩) fun y101 => (Option.bind (exergueref05_Text ⟨n, up ds, e⟩) fun y104 => (some (y101 == y104)))))) = some true := by
      obtain ⟨b, h1, h2⟩ := rright_eq (neg := n) (E := e) hd
      rw [h1]
      cases b with
      | false => rfl
      | true =>
        simp only [Option.bind_some, Bool.not_true, cond_false]
        rw [dtext_eq (h2.1 rfl), ltext_eq (h2.1 rfl)]
        simp
    obtain ⟨p, r, st, h1, h2, h3, h4⟩ := dread_eq s (by omega)
    obtain ⟨r1, r2⟩ := rread_eq (by omega) h1 h2 h3
    rcases h4 with ⟨n2, ds2, e2, h5, h6, h7⟩ | ⟨h5, h7⟩
    · have hi := run_ok _ (st := .A) trivial h2
      rw [h7, r1 _ _ _ h5 h6]
      simp only [Option.bind_some]
      rw [rsame_self (acc_ok hi.1 h6).1]
      simp only [Option.bind_some, Bool.not_true, cond_false, not_true_eq_false, decide_false, joinX, cond_true]
      rw [hlast]; rfl
    · rw [h7, r2 h5]
      simp only [Option.bind_some]
      rw [rsame_nil]
      simp only [Option.bind_some, Bool.not_true, cond_false, not_true_eq_false, decide_false, joinX, cond_true]
      rw [hlast]; rfl
theorem Back_true (a : St23) (wa : WfSt23 a) (s : List UInt8) (ws : WfT s) : exerguelaw05_DecBack a s = some true := by
  obtain ⟨n, ds, e, rfl, hd⟩ := of_dec wa
  unfold exerguelaw05_DecBack
  rw [shown_eq]
  simp only [Option.bind_some]
  by_cases hl : (s.length : Int) > 2000
  · rw [dT hl]; rfl
  · rw [dF hl]
    simp only [cond_false]
    have hlast : (Option.bind (exergueref05_Right ⟨n, up ds, e⟩) fun y177 => (bif (!y177) then (some true) else (Option.bind (dec_Text ⟨n, up ds, e⟩) fun y183 => (Option.bind (dec_Read y183) fun y186 => (Option.bind (bif true then (bif (decide (y186.2.2 = 0)) then (Option.bind (exergueref05_Same ⟨n, up ds, e⟩ y186.1) fun y209 => (some y209)) else (some false)) else (some false)) fun (s198 : Bool) => (some s198)))))) = some true := by
      obtain ⟨b, h1, h2⟩ := rright_eq (neg := n) (E := e) hd
      rw [h1]
      cases b with
      | false => rfl
      | true =>
        have hrt := h2.1 rfl
        simp only [Option.bind_some, Bool.not_true, cond_false]
        rw [dtext_eq hrt]
        simp only [Option.bind_some]
        have htl := tx_len (n := n) hrt
        obtain ⟨p, r, st, g1, g2, g3, g4⟩ := dread_eq (ub (txN n ds e)) (by rw [ub_len]; omega)
        obtain ⟨st2, g5, g6⟩ := run_tx (n := n) hrt
        have g7 : txN n ds e = nat p ++ nat r := by rw [← nat_app, ← g1, nat_ub (tx_bytes hrt)]
        rw [g7, run_append, g2] at g5
        have hrn : r = [] := by
          cases r with
          | nil => rfl
          | cons c r =>
            exfalso
            have g5' : ((stp st c.toNat).bind fun st => run st (nat r)) = some st2 := g5
            rw [g3 c r rfl] at g5'
            cases g5'
        subst hrn
        have : st = st2 := Option.some.inj g5
        subst this
        rcases g4 with ⟨n2, ds2, e2, g8, g9, g10⟩ | ⟨g8, -⟩
        · rw [g6] at g9
          simp only [Option.some.injEq, Prod.mk.injEq] at g9
          obtain ⟨rfl, rfl, rfl⟩ := g9
          rw [g10]
          simp only [Option.bind_some]
          simp only [decide_true, cond_true]
          rw [rsame_self hrt]; rfl
        · exfalso
          rcases g8 with h | h
          · exact h rfl
          · rw [h] at g6; cases g6
    obtain ⟨p, r, st, h1, h2, h3, h4⟩ := dread_eq s (by omega)
    rcases h4 with ⟨n2, ds2, e2, h5, h6, h7⟩ | ⟨h5, h7⟩
    · have hi := run_ok _ (st := .A) trivial h2
      obtain ⟨k1, k2⟩ := acc_ok hi.1 h6
      have hst : ub (txN n2 ds2 e2) = s := by
        have : tx st = nat p := hi.2
        rw [k2, this, ub_nat, h1, h5, List.append_nil]
      rw [h7]
      simp only [Option.bind_some]
      simp only [decide_true, cond_true]
      rw [rright_true k1]
      simp only [cond_true, Option.bind_some, Bool.not_true, cond_false]
      rw [dtext_eq k1, hst]
      simp only [Option.bind_some, bne_self_eq_false, cond_false, not_true_eq_false, decide_false, joinX]
      exact hlast
    · have hpl := congrArg List.length h1
      simp at hpl
      rw [h7]
      simp only [Option.bind_some]
      rw [dF (show ¬ (2 : Int) = 0 by omega), dT (show ¬ (2 : Int) = 0 by omega)]
      simp only [cond_false, cond_true]
      rw [dF (by omega), dF (by omega)]
      simp only [cond_false, Option.bind_some, List.length_nil]
      exact hlast

def laidD {H : Type} : List (String × DataW H) := [("math/bits.deBruijn32tab", Rows.laid_math_bits_deBruijn32tab), ("math/bits.deBruijn64tab", Rows.laid_math_bits_deBruijn64tab), ("internal/strconv.uint64pow10", Rows.laid_internal_strconv_uint64pow10)]
theorem door_met (os : Os) (args : Array Value) : laidMetH Tryd.prog laidD ((World.doorLaid Tryd.prog 4000 os).forCall (fun _ _ => 0) ⟨#[], args, []⟩).memory :=
  laidMetH_of_parts3 (fuel := 8) (laidMet_of_run' 8 (by kernel_rfl) (by kernel_rfl)) (by kernel_rfl) (by kernel_rfl)

/-- Package variables hold what they are said to. -/
theorem globs_ok {W : World} (hL : laidMetH Tryd.prog laidD W) : GlobOk W (KW W) fun _ => none := fun g cs h => by
  have hh : (laidD (H := Unit)).all (fun x => x.2.handleName?.isNone) = true := by kernel_rfl
  by_cases h0 : g = 0
  · subst h0
    obtain rfl := Option.some.inj (show some [.int .u64 1, .int .u64 10, .int .u64 100, .int .u64 1000, .int .u64 10000, .int .u64 100000, .int .u64 1000000, .int .u64 10000000, .int .u64 100000000, .int .u64 1000000000, .int .u64 10000000000, .int .u64 100000000000, .int .u64 1000000000000, .int .u64 10000000000000, .int .u64 100000000000000, .int .u64 1000000000000000, .int .u64 10000000000000000, .int .u64 100000000000000000, .int .u64 1000000000000000000, .int .u64 10000000000000000000] = some cs from h)
    exact glob_ints hh hL (nm := "internal/strconv.uint64pow10") (t := 83) (e := 77) (n := 20) (k := .u64) [1, 10, 100, 1000, 10000, 100000, 1000000, 10000000, 100000000, 1000000000, 10000000000, 100000000000, 1000000000000, 10000000000000, 100000000000000, 1000000000000000, 10000000000000000, 100000000000000000, 1000000000000000000, 10000000000000000000] (by unfold laidD; simp only [List.mem_cons, List.not_mem_nil, or_false]; first | exact Or.inl rfl | exact Or.inr (Or.inl rfl) | exact Or.inr (Or.inr (Or.inl rfl)) | exact Or.inr rfl | exact Or.inr (Or.inr rfl) | exact Or.inr (Or.inr (Or.inr rfl)) | rfl) (by kernel_rfl) (by kernel_rfl) Tryd.underlying83 Tryd.underlying77 (by kernel_rfl) (by kernel_rfl)
  exfalso
  have : gtabs g = none := by
    unfold gtabs
    split <;> first | rfl | (exfalso; simp_all)
  rw [show gtab g = gtabs g from rfl, this] at h
  cases h

set_option maxRecDepth 100000 in
theorem DecBack_lifted (os : Os) (started : os.Started) (H : Type) (enc : TypeId × Value → H) :
    ReturnsInHanded {} Tryd.checked os 4 .any (fun w args => (Rows.decBackSpec.pre enc Tryd.prog Tryd.f4 [] false w args ∧ laidMetH Tryd.prog laidD w) ∧ sizedMet enc Tryd.prog Tryd.f4 (OpenSpec.ofChange Rows.decBackSpec) false w args) (Rows.decBackSpec.post enc Tryd.prog Tryd.f4 false true false false) := by
  refine returnsInHanded_of_change_and (C := Tryd.checked) (X := fun w _ => laidMetH Tryd.prog laidD w) (fun _ _ _ hh h => h.of_heap hh) Tryd.own started (by kernel_rfl) Tryd.func4
    (ChangeSpec.witness_shaped (enc := enc) (C := Tryd.checked) (os := os) (X := fun w _ => laidMetH Tryd.prog laidD w) false (World.doorLaid Tryd.prog 4000 os) #[.agg #[.bool false, .slice none 0 0, .int .i64 0], .string ⟨#[]⟩] 8 rfl (World.shaped_of_RefB (by kernel_rfl) (by kernel_rfl)) (by kernel_rfl) (by kernel_rfl) (by kernel_rfl) (door_met os _)) ?_
  intro W base args ds gs before hval0 hW _ hsz0 hL _
  have hsz : (DataW.weightsEach Tryd.prog (Tryd.f4.params.toList ++ Rows.decBackSpec.plain.varTypes Tryd.prog) (ds ++ gs)).all (· ≤ reachBytes) = true := hsz0
  clear hsz0
  refine law_post (P := Tryd.prog) (n := 3) (tb := 4) Tryd.laidOut Tryd.underlying4 rfl rfl (by kernel_rfl) (fun h => ?_) hval0 hW ?_ (globs_ok hL)
  · rw [Tryd.params4] at h
    obtain ⟨d0, d1, rfl⟩ := l2 h
    exact ⟨rfl, rfl, rfl⟩
  · intro ss hg hl1 hl2 hs
    subst hg
    rw [Tryd.params4] at hl1 hl2 hs hsz
    obtain ⟨d0, d1, rfl⟩ := l2 hl1
    obtain ⟨s0, s1, rfl⟩ := l2 hl2
    obtain ⟨cs0, rfl, hc0⟩ := showsV_struct Tryd.underlying24 (hs 0 24 _ _ rfl rfl rfl)
    obtain ⟨a0, rfl, w0⟩ := tells_T24 (n := 0) _ _ hc0 (sized_param hsz (j := 0) rfl rfl)
    obtain ⟨a1, e1, w1⟩ := (show Tells Tryd.prog 3 9 encT WfT from (tells_str Tryd.underlying9)) _ _ (showsV_scalar Tryd.underlying9 (fun _ => by simp) (fun _ _ => by simp) (hs 1 9 _ _ rfl rfl rfl)) (sized_param hsz (j := 1) rfl rfl)
    obtain rfl : s1 = .str a1 := (List.cons.inj e1).1
    exact ⟨[], exerguelaw05_DecBack_ok (Back_true a0 w0 a1 w1)⟩
theorem DecBack_row : Rows.DecBackSaid :=
  OpenClaim.holds_of_wide 4 Tryd.f4 rfl rfl rfl rfl rfl rfl rfl ⟨rfl, rfl, rfl, rfl, rfl⟩ rfl rfl rfl rfl rfl (by kernel_rfl) Tryd.func4 (by kernel_rfl)
    (of_decide_eq_true (by kernel_rfl)) (by unfold Func.isWrapper; first | (rw [if_pos (by decide +kernel)]; kernel_rfl) | (rw [if_neg (by decide +kernel)]; exact ⟨rfl, rfl⟩))
    (fun os started H enc _ => DecBack_lifted os started H enc)

theorem DecBack_holds : Rows.DecBackCardSaid :=
  Claim7.holds_tied_plain_at .later [] [.data, .data, .data] true (true, "3e2925e46801c1751acadd99fa372b49543fdc724f41349b785ce6263b5b29b1") false
    DecBack_row (fun _ h => by cases h) (by kernel_rfl) (fun _ h => by cases h) decBack_row_tie rfl ⟨rfl, rfl⟩ (by kernel_rfl) rfl
    (fun f fn hf hfn => by
      obtain rfl : f = 4 := Option.some.inj ((show Tryd.prog.funcNamed "exergue/exerguelaw05.DecBack" = some 4 by kernel_rfl).symm.trans hf) |>.symm
      obtain rfl : fn = Tryd.f4 := (Option.some.inj (Tryd.func4.symm.trans hfn)).symm
      exact ⟨by kernel_rfl, fun j t ht => by
        rw [Tryd.params4] at ht
        have hm : t ∈ [24, 9] := by simpa using Array.mem_of_getElem? ht
        have hall : ([24, 9].all fun u => !Tryd.prog.wantsStandIn u) = true := by kernel_rfl
        exact (show Tryd.prog.wantsStandIn t = false by simpa using List.all_eq_true.1 hall t hm)⟩)
    (by kernel_rfl)

end Go.Proofs.YtcldeecdhdcjdaaDoor
