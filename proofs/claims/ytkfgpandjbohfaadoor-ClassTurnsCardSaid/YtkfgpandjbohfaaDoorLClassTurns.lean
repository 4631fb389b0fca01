/-
  The statement ClassTurnsCard is proved: at every input the law answers true, and its input reads as it did. Conditions: those of the card (package variables are as the program text lays them).
-/
import Derived.Test.YtkfgpandjbohfaaDoorP
import Derived.Test.YtkfgpandjbohfaaDoorSyGL
import Derived.Test.YtkfgpandjbohfaaDoorCards
import Derived.Test.YtkfgpandjbohfaaDoorTie
import Derived.ProofKit
import Derived.SizedLaws
import Derived.LaidMore
import Derived.SevenTiedAt
namespace Go.Proofs.YtkfgpandjbohfaaDoor
open Go Go.Sy Go.RowKit Go.ChangeShapes Go.WideShapes Go.ChangeAt
set_option linter.unusedVariables false
set_option linter.unusedSimpArgs false
set_option maxRecDepth 100000
set_option maxHeartbeats 4000000

theorem Tryd.own : ownKnob Tryd.prog.godebug = none := by kernel_rfl
theorem Tryd.laidOut : laidOutB Tryd.prog = true := by kernel_rfl


theorem of_eq' {r : Int} (h1 : -2147483648 ≤ r) (h2 : r < 2147483648) : class_Of r = some (rcls r) := by rw [of_eq h1 h2, cls_eq h1 h2]

theorem shown_eq : exerguelaw02_shown = some true := by
  unfold exerguelaw02_shown
  rw [value_eq (r := 51) (by decide) (by decide), of_eq' (r := 65) (by decide) (by decide), of_eq' (r := 32) (by decide) (by decide), of_eq' (r := 7) (by decide) (by decide), zero_eq (r := 48) (by decide) (by decide), calm_eq (l := [65]) (by decide) (by intro r hr; simp at hr; subst hr; decide), turns_eq (l := []) (by decide)]
  rw [show dig 51 = (3, true) by decide +kernel, show rcls 65 = 0 by decide +kernel, show rcls 32 = 4 by decide +kernel, show rcls 7 = 1 by decide +kernel, show isZ 48 = true by decide +kernel, show calm [65] = true by decide +kernel, show turns 0 [] = true by decide +kernel]
  rfl

theorem Tells_true (r : Int) (w : WfI .i32 r) : exerguelaw02_ClassTells r = some true := by
  obtain ⟨h1, h2⟩ := wf_i32 w
  unfold exerguelaw02_ClassTells
  rw [shown_eq, value_eq h1 h2, rvalue_eq h1 h2, of_eq' h1 h2, rof_eq h1 h2, zero_eq h1 h2, rzero_eq]
  simp

theorem Rows_true (l : List Int) (w : WfL (WfI .i32) l) : exerguelaw02_ClassRows l = some true := by
  unfold exerguelaw02_ClassRows
  rw [shown_eq]
  simp only [Option.bind_some]
  by_cases hl : (l.length : Int) > 1000
  · rw [dT hl]; rfl
  · rw [dF hl, calm_eq (by omega) (i32_of w), rcalm_eq (by omega) (i32_of w), turns_eq (by omega), rturns_eq (by omega) (i32_of w)]
    simp

theorem rcls_five {r : Int} : decide (rcls r = 5) = (dig r).2 := by
  cases hd : (dig r).2 with
  | false =>
    rw [dF]
    unfold rcls
    rw [hd]
    cases isR r <;> cases ctrl r <;> cases turning r <;> cases nonch r <;> cases blank r <;> decide
  | true =>
    obtain ⟨z, hz, k0, k1, he⟩ := dig_spec hd
    have : nol.all (fun z => (List.range 10).all fun k => decide (rcls (z + (k : Int)) = 5)) = true := by decide +kernel
    have h2 := List.all_eq_true.1 (List.all_eq_true.1 this z hz) (dig r).1.toNat (List.mem_range.2 (by omega))
    rw [Int.toNat_of_nonneg k0, ← he] at h2
    exact h2

theorem dig_range (r : Int) : 0 ≤ (dig r).1 ∧ (dig r).1 ≤ 9 := by
  cases hd : (dig r).2 with
  | false => rw [dig_no hd]; decide
  | true => obtain ⟨z, hz, k0, k1, he⟩ := dig_spec hd; exact ⟨k0, k1⟩

theorem dig_back {r : Int} (h : (dig r).2 = true) : isZ (r - (dig r).1) = true := by
  obtain ⟨z, hz, k0, k1, he⟩ := dig_spec h
  rw [show r - (dig r).1 = z by omega]
  exact isZ_mem.2 hz

theorem Blocks_true (r : Int) (w : WfI .i32 r) : exerguelaw02_ClassBlocks r = some true := by
  obtain ⟨h1, h2⟩ := wf_i32 w
  obtain ⟨d0, d1⟩ := dig_range r
  unfold exerguelaw02_ClassBlocks
  rw [shown_eq, value_eq h1 h2, of_eq' h1 h2, zero_eq h1 h2]
  simp only [Option.bind_some, rcls_five]
  rw [dF (show ¬ (dig r).1 < 0 by omega), dF (show ¬ (dig r).1 > 9 by omega)]
  cases hd : (dig r).2 with
  | false =>
    have hz : isZ r = false := by unfold isZ; rw [hd]; rfl
    rw [dig_no hd, hz]; rfl
  | true =>
    obtain ⟨z, hz, _, _, he⟩ := dig_spec hd
    have hzs := nol_small hz
    rw [w32 (n := (dig r).1) (by omega) (by omega), w32 (n := r - (dig r).1) (by omega) (by omega), zero_eq (r := r - (dig r).1) (by omega) (by omega), dig_back hd]
    simp only [bne_self_eq_false, cond_false, Bool.not_true, cond_true, Option.bind_some, joinX]
    cases hzr : isZ r with
    | false =>
      have : ¬ (dig r).1 = 0 := fun h => by unfold isZ at hzr; rw [hd, dT h] at hzr; cases hzr
      rw [dT (show (dig r).1 > 0 by omega)]; rfl
    | true =>
      have hm := isZ_mem.1 hzr
      have h0 : (dig r).1 = 0 := by unfold isZ at hzr; rw [hd] at hzr; simpa using hzr
      have hrs := nol_small hm
      simp only [Bool.not_true, cond_false]
      refine bind_of (fun o => o = .inl ()) (loop_count 10 (fun i => (i : Int)) (fun _ => True) _ rfl trivial (fun i hi _ => ?_) (fun _ => ?_) (by omega)) ?_
      · left
        rw [dT (show (i : Int) < 10 by omega), w32 (n := (i : Int)) (by omega) (by omega), w32 (n := r + (i : Int)) (by omega) (by omega), value_eq (r := r + (i : Int)) (by omega) (by omega), dig_at hm hi, w64 (n := (i : Int) + 1) (by omega) (by omega)]
        simp [joinX]
      · exact ⟨.inl (), by rw [dF (show ¬ (((10 : Nat) : Int) < 10) by decide)]; rfl, rfl⟩
      · rintro o rfl
        rw [dT h0]; rfl

theorem calm_append (a b : List Int) : calm (a ++ b) = (calm a && calm b) := by unfold calm; exact List.all_append
theorem calm_iso {k : Int} (h1 : 8294 ≤ k) (h2 : k ≤ 8297) : okC (rcls k) = true := by rw [turning_two (.inr ⟨h1, h2⟩)]; rfl

theorem Joins_true (a : List Int) (wa : WfL (WfI .i32) a) (b : List Int) (wb : WfL (WfI .i32) b) (k : Int) (wk : WfI .u8 k) : exerguelaw02_ClassJoins a b k = some true := by
  have ha := i32_of wa
  have hb := i32_of wb
  obtain ⟨k0, k1⟩ := wf_u8 wk
  have la := wa.1
  have lb := wb.1
  unfold exerguelaw02_ClassJoins
  rw [shown_eq]
  simp only [Option.bind_some]
  rw [w64 (n := (a.length : Int) + (b.length : Int)) (by omega) (by omega)]
  by_cases hl : (a.length : Int) + (b.length : Int) > 1000
  · rw [dT hl]; rfl
  · rw [dF hl]
    have hk : Int.tmod k 3 = k % 3 := Int.tmod_eq_emod_of_nonneg k0
    rw [hk, w32 (n := k % 3) (by omega) (by omega), w32 (n := 8294 + k % 3) (by omega) (by omega)]
    generalize hi : 8294 + k % 3 = i
    have i0 : 8294 ≤ i ∧ i ≤ 8296 := by omega
    have hp : i32P (([i] ++ a) ++ [8297]) := fun r hr => by
      simp only [List.mem_append, List.mem_singleton] at hr
      rcases hr with (h | h) | h
      · subst h; omega
      · exact ha r h
      · subst h; decide
    have hab : i32P (a ++ b) := fun r hr => (List.mem_append.1 hr).elim (ha r) (hb r)
    have ll : (([i] ++ a) ++ [8297]).length ≤ 4294967296 := by simp; omega
    rw [room_of (by omega), room_of (by omega), room_of (by simp; omega), room_of (by simp; omega)]
    simp only [cond_true, cond_false]
    rw [calm_eq (l := a ++ b) (by simp; omega) hab, calm_eq (l := a) (by omega) ha, calm_eq (l := b) (by omega) hb, turns_eq (l := a) (by omega), turns_eq (l := a ++ b) (by simp; omega), turns_eq (l := b) (by omega), turns_eq ll, calm_eq ll hp]
    have hc : calm (([i] ++ a) ++ [8297]) = calm a := by
      rw [calm_append, calm_append]
      simp [calm, calm_iso i0.1 (by omega), calm_iso (k := 8297) (by decide) (by decide)]
    have ht : turns 0 a = true → turns 0 (([i] ++ a) ++ [8297]) = true := fun h => by
      have := turns_wrap a 0 (Int.le_refl _) h
      show turns 0 (i :: (a ++ [8297])) = true
      simp only [turns]
      rw [if_neg (by omega), if_pos i0]
      exact this
    have hj : turns 0 a = true → turns 0 (a ++ b) = turns 0 b := fun h => turns_append a b 0 h
    rw [hc, calm_append]
    cases hta : turns 0 a with
    | false => cases calm a <;> cases calm b <;> cases turns 0 (([i] ++ a) ++ [8297]) <;> rfl
    | true => rw [ht hta, hj hta]; cases calm a <;> cases calm b <;> cases turns 0 b <;> rfl

theorem Whole_true (r : Int) (wr : WfI .i32 r) (l : List Int) (wl : WfL (WfI .i32) l) (k : Int) (wk : WfI .i64 k) : exerguelaw02_ClassWhole r l k = some true := by
  obtain ⟨h1, h2⟩ := wf_i32 wr
  obtain ⟨c0, c1⟩ := rcls_in r
  unfold exerguelaw02_ClassWhole
  rw [shown_eq]
  simp only [Option.bind_some]
  by_cases hl : (l.length : Int) > 500
  · rw [dT hl]; rfl
  · rw [dF hl, of_eq' h1 h2, calm_eq (l := [r]) (by simp) (by intro x hx; simp at hx; subst hx; exact ⟨h1, h2⟩), calm_eq (l := l) (by omega) (i32_of wl)]
    simp only [cond_false, Option.bind_some]
    rw [dF (show ¬ rcls r < 0 by omega), dF (show ¬ rcls r > 6 by omega)]
    have ho : (bif decide (rcls r = 6) then some true else bif decide (rcls r = 1) then some true else some (decide (rcls r = 3))) = some (!okC (rcls r)) := by
      unfold okC
      generalize rcls r = c at c0 c1
      obtain rfl | rfl | rfl | rfl | rfl | rfl | rfl : c = 0 ∨ c = 1 ∨ c = 2 ∨ c = 3 ∨ c = 4 ∨ c = 5 ∨ c = 6 := by omega
      all_goals rfl
    have hc : calm [r] = okC (rcls r) := by simp [calm]
    rw [ho, hc]
    simp only [Option.bind_some, cond_false, show (okC (rcls r) == !okC (rcls r)) = false by cases okC (rcls r) <;> rfl]
    by_cases k0 : k < 0
    · rw [dT k0]; cases okC (rcls r) <;> rfl
    · rw [dF k0]
      by_cases k1 : k ≥ (l.length : Int)
      · rw [dT k1]; cases okC (rcls r) <;> rfl
      · rw [dF k1]
        obtain ⟨n, rfl⟩ := Int.eq_ofNat_of_zero_le (show 0 ≤ k by omega)
        rw [inR_nat (by omega)]
        by_cases he : nth l (n : Int) = r
        · rw [dF (show ¬ ¬ nth l (n : Int) = r from fun h => h he)]
          cases ho2 : okC (rcls r) with
          | true => rfl
          | false =>
            have : calm l = false := by
              cases hcl : calm l with
              | false => rfl
              | true =>
                have hmem : r ∈ l := by
                  have := nth_nat (xs := l) (show n < l.length by omega)
                  rw [he] at this
                  rw [this]; exact List.getElem_mem _
                have := List.all_eq_true.1 hcl r hmem
                rw [ho2] at this; cases this
            rw [this]; rfl
        · rw [dT he]; cases okC (rcls r) <;> rfl

theorem still_of {l : List Int} (h : l.all (fun r => decide (¬ rcls r = 2)) = true) : still l := fun r hr => by
  have := List.all_eq_true.1 h r hr
  simp only [decide_eq_true_eq] at this
  exact ⟨fun h1 => this (turning_two (.inl h1)), fun h1 => this (turning_two (.inr h1))⟩

theorem none_loop {l : List Int} (hl : l.length ≤ 4294967296) (hp : i32P l) :
    loopN (fun (s81 : Bool × Int) => (bif (decide (s81.2 < (l.length : Int))) then (Option.bind (bif s81.1 then (bif inR s81.2 l.length then (Option.bind (class_Of (nth l s81.2)) fun y145 => (some (decide (¬ y145 = 2)))) else none) else (some false)) fun (s136 : Bool) => (some (.inl (s136, (IntKind.wrap .i64 (s81.2 + 1)))))) else (some (.inr s81.1)))) big (true, 0) = some (l.all fun r => decide (¬ rcls r = 2)) := by
  refine loop_fold l (fun pre => (pre.all (fun r => decide (¬ rcls r = 2)), (pre.length : Int))) _ rfl (fun pre r suf h => ?_) ?_ (by omega)
  · have hr := hp r (by rw [h]; simp)
    have hl' : (pre ++ r :: suf).length ≤ 4611686018427387904 := by rw [← h]; omega
    simp only []
    rw [h, lt_mid, inR_mid, nth_mid, of_eq' hr.1 hr.2, w_mid hl', List.all_append]
    cases pre.all (fun r => decide (¬ rcls r = 2)) <;> simp
  · simp only []
    rw [lt_end]; rfl

theorem Turns_true (l : List Int) (wl : WfL (WfI .i32) l) (k : Int) (wk : WfI .i64 k) (r : Int) (wr : WfI .i32 r) : exerguelaw02_ClassTurns l k r = some true := by
  have hp := i32_of wl
  unfold exerguelaw02_ClassTurns
  rw [shown_eq]
  simp only [Option.bind_some]
  by_cases hl : (l.length : Int) > 500
  · rw [dT hl]; rfl
  · rw [dF hl, none_loop (by omega) hp]
    simp only [cond_false, Option.bind_some]
    cases hn : l.all (fun r => decide (¬ rcls r = 2)) with
    | false => rfl
    | true =>
      have hs := still_of hn
      rw [turns_eq (l := l) (by omega), still_turns 0 hs]
      simp only [cond_true, Option.bind_some, joinX, Bool.not_true, cond_false, decide_true]
      by_cases k0 : k < 0
      · rw [dT k0]; rfl
      · rw [dF k0]
        by_cases k1 : k > (l.length : Int)
        · rw [dT k1]; rfl
        · rw [dF k1]
          obtain ⟨n, rfl⟩ := Int.eq_ofNat_of_zero_le (show 0 ≤ k by omega)
          have c1 : cut l 0 (n : Int) = l.take n := by simp [cut]
          have c2 : cut l (n : Int) (l.length : Int) = l.drop n := by simp [cut]
          rw [inS_of (by omega) (by omega) (by omega), inS_of (by omega) (by omega) (by omega), c1, c2, room_of (by simp; omega), room_of (by simp; omega), room_of (by simp; omega)]
          simp only [cond_true, cond_false, Option.bind_some]
          have hlen : (l.take n ++ [r] ++ l.drop n).length ≤ 4294967296 := by simp; omega
          have s1 : still (l.take n) := fun x hx => hs x (List.mem_of_mem_take hx)
          have s2 : still (l.drop n) := fun x hx => hs x (List.mem_of_mem_drop hx)
          have ht : turns 0 (l.take n ++ [r] ++ l.drop n) = !((decide (8234 ≤ r) && decide (r ≤ 8238)) || (decide (8294 ≤ r) && decide (r ≤ 8297))) := by
            rw [List.append_assoc, still_append _ _ _ s1]
            simp only [List.singleton_append, turns]
            by_cases a : 8234 ≤ r ∧ r ≤ 8238
            · rw [if_pos a, dT a.1, dT a.2]; rfl
            · rw [if_neg a]
              by_cases b : 8294 ≤ r ∧ r ≤ 8296
              · rw [if_pos b, still_turns _ s2, dT b.1, dT (show r ≤ 8297 by omega)]; simp
              · rw [if_neg b]
                by_cases c : r = 8297
                · subst c; rfl
                · rw [if_neg c, still_turns _ s2]
                  have : ((decide (8234 ≤ r) && decide (r ≤ 8238)) || (decide (8294 ≤ r) && decide (r ≤ 8297))) = false := by
                    simp only [Bool.or_eq_false_iff, Bool.and_eq_false_iff, decide_eq_false_iff_not]
                    omega
                  rw [this]; rfl
          rw [turns_eq hlen, ht]
          simp only [ge_iff_le]
          cases decide (8234 ≤ r) <;> cases decide (r ≤ 8238) <;> cases decide (8294 ≤ r) <;> cases decide (r ≤ 8297) <;> rfl

def laidD {H : Type} : List (String × DataW H) := [("exergue/class.noughts", Rows.laid_exergue_class_noughts)]
theorem door_met (os : Os) (args : Array Value) : laidMetH Tryd.prog laidD ((World.doorLaid Tryd.prog 4000 os).forCall (fun _ _ => 0) ⟨#[], args, []⟩).memory :=
  laidMetH_of_parts3 (fuel := 8) (laidMet_of_run' 8 (by kernel_rfl) (by kernel_rfl)) (by kernel_rfl) (by kernel_rfl)

/-- Package variables hold what they are said to. -/
theorem globs_ok {W : World} (hL : laidMetH Tryd.prog laidD W) : GlobOk W (KW W) fun _ => none := fun g cs h => by
  have hh : (laidD (H := Unit)).all (fun x => x.2.handleName?.isNone) = true := by kernel_rfl
  by_cases h0 : g = 0
  · subst h0
    obtain rfl := Option.some.inj (show some [.int .i32 48, .int .i32 1632, .int .i32 1776, .int .i32 1984, .int .i32 2406, .int .i32 2534, .int .i32 2662, .int .i32 2790, .int .i32 2918, .int .i32 3046, .int .i32 3174, .int .i32 3302, .int .i32 3430, .int .i32 3664, .int .i32 3792, .int .i32 3872, .int .i32 6112, .int .i32 6160, .int .i32 65296, .int .i32 120782] = some cs from h)
    exact glob_ints hh hL (nm := "exergue/class.noughts") (t := 32) (e := 21) (n := 20) (k := .i32) [48, 1632, 1776, 1984, 2406, 2534, 2662, 2790, 2918, 3046, 3174, 3302, 3430, 3664, 3792, 3872, 6112, 6160, 65296, 120782] (by unfold laidD; simp only [List.mem_cons, List.not_mem_nil, or_false]; first | exact Or.inl rfl | exact Or.inr (Or.inl rfl) | exact Or.inr (Or.inr (Or.inl rfl)) | exact Or.inr (Or.inr (Or.inr rfl)) | rfl) (by kernel_rfl) (by kernel_rfl) Tryd.underlying32 Tryd.underlying21 (by kernel_rfl) (by kernel_rfl)
  exfalso
  have : gtabs g = none := by
    unfold gtabs
    split <;> first | rfl | (exfalso; simp_all)
  rw [show gtab g = gtabs g from rfl, this] at h
  cases h

set_option maxRecDepth 100000 in
theorem ClassTurns_lifted (os : Os) (started : os.Started) (H : Type) (enc : TypeId × Value → H) :
    ReturnsInHanded {} Tryd.checked os 8 .any (fun w args => (Rows.classTurnsSpec.pre enc Tryd.prog Tryd.f8 [] false w args ∧ laidMetH Tryd.prog laidD w) ∧ sizedMet enc Tryd.prog Tryd.f8 (OpenSpec.ofChange Rows.classTurnsSpec) false w args) (Rows.classTurnsSpec.post enc Tryd.prog Tryd.f8 false true false false) := by
  refine returnsInHanded_of_change_and (C := Tryd.checked) (X := fun w _ => laidMetH Tryd.prog laidD w) (fun _ _ _ hh h => h.of_heap hh) Tryd.own started (by kernel_rfl) Tryd.func8
    (ChangeSpec.witness_shaped (enc := enc) (C := Tryd.checked) (os := os) (X := fun w _ => laidMetH Tryd.prog laidD w) false (World.doorLaid Tryd.prog 4000 os) #[.slice none 0 0, .int .i64 0, .int .i32 0] 8 rfl (World.shaped_of_RefB (by kernel_rfl) (by kernel_rfl)) (by kernel_rfl) (by kernel_rfl) (by kernel_rfl) (door_met os _)) ?_
  intro W base args ds gs before hval0 hW _ hsz0 hL _
  have hsz : (DataW.weightsEach Tryd.prog (Tryd.f8.params.toList ++ Rows.classTurnsSpec.plain.varTypes Tryd.prog) (ds ++ gs)).all (· ≤ reachBytes) = true := hsz0
  clear hsz0
  refine law_post (P := Tryd.prog) (n := 2) (tb := 4) Tryd.laidOut Tryd.underlying4 rfl rfl (by kernel_rfl) (fun h => ?_) hval0 hW ?_ (globs_ok hL)
  · rw [Tryd.params8] at h
    obtain ⟨d0, d1, d2, rfl⟩ := l3 h
    exact ⟨rfl, rfl, rfl⟩
  · intro ss hg hl1 hl2 hs
    subst hg
    rw [Tryd.params8] at hl1 hl2 hs hsz
    obtain ⟨d0, d1, d2, rfl⟩ := l3 hl1
    obtain ⟨s0, s1, s2, rfl⟩ := l3 hl2
    obtain ⟨a0, e0, w0⟩ := (show Tells Tryd.prog 2 27 (encL (encI .i32) 1) (WfL (WfI .i32)) from (tells_list (enc := (encI .i32)) (Wf := (WfI .i32)) Tryd.underlying27 (k := 1) (by kernel_rfl) (by kernel_rfl) (tells_int Tryd.underlying21))) _ _ (showsV_scalar Tryd.underlying27 (fun _ => by simp) (fun _ _ => by simp) (hs 0 27 _ _ rfl rfl rfl)) (sized_param hsz (j := 0) rfl rfl)
    obtain rfl : s0 = lsv (encI .i32) 1 a0 := (List.cons.inj e0).1
    obtain ⟨a1, e1, w1⟩ := (show Tells Tryd.prog 2 3 (encI .i64) (WfI .i64) from (tells_int Tryd.underlying3)) _ _ (showsV_scalar Tryd.underlying3 (fun _ => by simp) (fun _ _ => by simp) (hs 1 3 _ _ rfl rfl rfl)) (sized_param hsz (j := 1) rfl rfl)
    obtain rfl : s1 = .int .i64 a1 := (List.cons.inj e1).1
    obtain ⟨a2, e2, w2⟩ := (show Tells Tryd.prog 2 21 (encI .i32) (WfI .i32) from (tells_int Tryd.underlying21)) _ _ (showsV_scalar Tryd.underlying21 (fun _ => by simp) (fun _ _ => by simp) (hs 2 21 _ _ rfl rfl rfl)) (sized_param hsz (j := 2) rfl rfl)
    obtain rfl : s2 = .int .i32 a2 := (List.cons.inj e2).1
    exact ⟨[], exerguelaw02_ClassTurns_ok (Turns_true a0 w0 a1 w1 a2 w2)⟩
theorem ClassTurns_row : Rows.ClassTurnsSaid :=
  OpenClaim.holds_of_wide 8 Tryd.f8 rfl rfl rfl rfl rfl rfl rfl ⟨rfl, rfl, rfl, rfl, rfl⟩ rfl rfl rfl rfl rfl (by kernel_rfl) Tryd.func8 (by kernel_rfl)
    (of_decide_eq_true (by kernel_rfl)) (by unfold Func.isWrapper; first | (rw [if_pos (by decide +kernel)]; kernel_rfl) | (rw [if_neg (by decide +kernel)]; exact ⟨rfl, rfl⟩))
    (fun os started H enc _ => ClassTurns_lifted os started H enc)

theorem ClassTurns_holds : Rows.ClassTurnsCardSaid :=
  Claim7.holds_tied_plain_at .later [] [.data] true (true, "a133e539a428a76a80148d35644e63306282038f6d62e7d6125e3b0fe46df40a") false
    ClassTurns_row (fun _ h => by cases h) (by kernel_rfl) (fun _ h => by cases h) classTurns_row_tie rfl ⟨rfl, rfl⟩ (by kernel_rfl) rfl
    (fun f fn hf hfn => by
      obtain rfl : f = 8 := Option.some.inj ((show Tryd.prog.funcNamed "exergue/exerguelaw02.ClassTurns" = some 8 by kernel_rfl).symm.trans hf) |>.symm
      obtain rfl : fn = Tryd.f8 := (Option.some.inj (Tryd.func8.symm.trans hfn)).symm
      exact ⟨by kernel_rfl, fun j t ht => by
        rw [Tryd.params8] at ht
        have hm : t ∈ [27, 3, 21] := by simpa using Array.mem_of_getElem? ht
        have hall : ([27, 3, 21].all fun u => !Tryd.prog.wantsStandIn u) = true := by kernel_rfl
        exact (show Tryd.prog.wantsStandIn t = false by simpa using List.all_eq_true.1 hall t hm)⟩)
    (by kernel_rfl)

end Go.Proofs.YtkfgpandjbohfaaDoor
