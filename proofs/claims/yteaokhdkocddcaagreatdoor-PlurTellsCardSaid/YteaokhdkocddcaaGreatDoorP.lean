/-
 What those functions come to, told by plain functions of lists and numbers. Conditions: as each theorem says.
-/
import Derived.Test.YteaokhdkocddcaaGreatDoorGc
import Derived.Test.YteaokhdkocddcaaGreatDoorSyZ
namespace Go.Proofs.YteaokhdkocddcaaGreatDoor
open Go Go.Sy Go.RowKit Go.ChangeShapes Go.WideShapes Go.ChangeAt
set_option linter.unusedVariables false
set_option linter.unusedSimpArgs false
set_option maxRecDepth 100000
set_option maxHeartbeats 4000000
def figs (xs : List Int) : Bool := xs.all (fun c => !decide (c > 9))
theorem figures_eq {xs : List Int} (hl : xs.length ≤ 4611686018427387904) : oper_figures xs = some (figs xs) := by
 unfold oper_figures
 rw [all_loop (fun c => decide (c > 9)) xs hl]
 unfold figs
 cases xs.all (fun c => !decide (c > 9)) <;> rfl
theorem rfigures_eq {xs : List Int} (hl : xs.length ≤ 4611686018427387904) : exergueref07_Figures xs = some (figs xs) := figures_eq hl
theorem clone_eq {xs : List Int} (hl : xs.length ≤ 4294967296) : slices_Clone xs = some xs := by
 unfold slices_Clone; exact clone_id hl
theorem bare_len (xs : List Int) : (bare xs).length ≤ xs.length := List.Sublist.length_le (List.dropWhile_sublist _)
theorem strip_eq {xs : List Int} (hl : xs.length ≤ 4294967296) : oper_strip xs = some (bare xs) := by
 unfold oper_strip
 rw [bare_loop xs (by omega)]
 have := bare_len xs
 simp only [Option.bind_some]
 rw [clone_eq (by omega)]; rfl
theorem bare_append_nz (pre : List Int) (x : Int) (suf : List Int) (hp : pre.all (fun c => decide (c = 0)) = true) (hx : ¬ x = 0) : bare (pre ++ x :: suf) = x :: suf := by
 induction pre with
 | nil => simp [bare, hx]
 | cons y pre ih =>
  simp only [List.all_cons, Bool.and_eq_true, decide_eq_true_eq] at hp
  have := ih hp.2
  simp only [bare] at this ⊢
  simp [hp.1, this]
theorem bare_zeros (pre : List Int) (hp : pre.all (fun c => decide (c = 0)) = true) : bare pre = [] := by
 induction pre with
 | nil => rfl
 | cons y pre ih =>
  simp only [List.all_cons, Bool.and_eq_true, decide_eq_true_eq] at hp
  have := ih hp.2
  simp only [bare] at this ⊢
  simp [hp.1, this]
theorem rbare_eq {xs : List Int} (hl : xs.length ≤ 4294967296) : exergueref07_Bare xs = some (bare xs) := by
 unfold exergueref07_Bare
 refine bind_of (fun o => ∃ n : Nat, o = n ∧ n ≤ xs.length ∧ xs.drop n = bare xs) (loop_row xs (fun pre => (pre.length : Int)) (fun pre => pre.all (fun c => decide (c = 0)) = true) _ rfl rfl (fun pre x suf h hi => ?_) (fun hi => ?_) (by omega)) ?_
 ·have hl' : (pre ++ x :: suf).length ≤ 4611686018427387904 := by rw [← h]; omega
  rw [h, lt_mid, inR_mid, nth_mid, w_mid hl']
  by_cases hx : x = 0
  ·left
   simp [hx, joinX]
   simpa using hi
  ·right
   refine ⟨(pre.length : Int), by simp [hx, joinX], pre.length, rfl, by simp, ?_⟩
   rw [bare_append_nz pre x suf hi hx]; simp
 ·refine ⟨(xs.length : Int), by rw [lt_end]; rfl, xs.length, rfl, by omega, ?_⟩
  rw [bare_zeros xs hi]; simp
 ·rintro o ⟨n, rfl, hn, hd⟩
  rw [inS_of (by omega) (by omega) (by omega)]
  simp only [cond_true, cut, Int.toNat_natCast, List.take_length, hd]
theorem shown_of {xs : List Int} (hl : xs.length ≤ 4294967296) : oper_shown xs = some (full xs : Int) := by
 unfold oper_shown
 rw [full_loop_back xs (by omega)]; rfl
theorem rfull_eq {xs : List Int} (hl : xs.length ≤ 4294967296) : exergueref07_Full xs = some (full xs : Int) := by
 unfold exergueref07_Full
 rw [loop_fold xs (fun pre => ((full pre : Int), (pre.length : Int))) (full xs : Int)]
 ·rfl
 ·rfl
 ·intro pre x suf h
  have hl' : (pre ++ x :: suf).length ≤ 4611686018427387904 := by rw [← h]; omega
  subst h
  simp only
  rw [lt_mid, inR_mid, nth_mid, w_mid hl', full_snoc]
  by_cases hx : x = 0 <;> simp [hx]
 ·simp only; rw [lt_end]; rfl
 ·omega
def digsN (n : Nat) : List Int := if h : n = 0 then [] else digsN (n / 10) ++ [((n % 10 : Nat) : Int)]
termination_by n
decreasing_by omega
theorem digsN_zero : digsN 0 = [] := by rw [digsN]; rfl
theorem digsN_pos {n : Nat} (h : n ≠ 0) : digsN n = digsN (n / 10) ++ [((n % 10 : Nat) : Int)] := by rw [digsN, dif_neg h]
theorem digsN_len (k : Nat) : ∀ n, n < 10 ^ k → (digsN n).length ≤ k := by
 induction k with
 | zero => intro n h; obtain rfl : n = 0 := by simpa using h
           rw [digsN_zero]; simp
 | succ k ih =>
  intro n h
  by_cases h0 : n = 0
  ·subst h0; rw [digsN_zero]; simp
  ·rw [digsN_pos h0]
   have := ih (n / 10) (by rw [Nat.pow_succ] at h; omega)
   simp; exact this
theorem digit_step {n : Nat} (hn : n < 9223372036854775808) : IntKind.wrap .u8 (Int.tmod (n : Int) 10) = ((n % 10 : Nat) : Int) ∧ IntKind.wrap .i64 (Int.tdiv (n : Int) 10) = ((n / 10 : Nat) : Int) := by
 have e1 : Int.tmod (n : Int) 10 = ((n % 10 : Nat) : Int) := by
  rw [Int.tmod_eq_emod_of_nonneg (by omega)]; omega
 have e2 : Int.tdiv (n : Int) 10 = ((n / 10 : Nat) : Int) := by
  rw [Int.tdiv_eq_ediv_of_nonneg (by omega)]; omega
 rw [e1, e2]
 exact ⟨w8 (by omega) (by omega), w64 (by omega) (by omega)⟩
theorem number_loop : ∀ (n : Nat) (out : List Int) (m : Nat), n < 9223372036854775808 → n < m → out.length + (digsN n).length ≤ 1000 →
  loopN (fun (s27 : Int × (List Int)) => (bif (decide (s27.1 > 0)) then (bif room ((([(IntKind.wrap .u8 (Int.tmod s27.1 10))] : List Int)).length + s27.2.length) then (some (.inl ((IntKind.wrap .i64 (Int.tdiv s27.1 10)), ((([(IntKind.wrap .u8 (Int.tmod s27.1 10))] : List Int)) ++ s27.2)))) else none) else (some (.inr s27.2)))) m ((n : Int), out) = some (digsN n ++ out) := by
 intro n
 induction n using Nat.strongRecOn with
 | _ n ih =>
  intro out m h1 h2 h3
  obtain ⟨m, rfl⟩ : ∃ q, m = q + 1 := ⟨m - 1, by omega⟩
  by_cases h0 : n = 0
  ·subst h0
   rw [loopN_out (o := out)]
   ·rw [digsN_zero]; rfl
   ·simp
  ·obtain ⟨e1, e2⟩ := digit_step h1
   rw [digsN_pos h0] at h3 ⊢
   simp at h3
   rw [loopN_next (s' := (((n / 10 : Nat) : Int), ((n % 10 : Nat) : Int) :: out))]
   ·rw [ih (n / 10) (by omega) _ m (by omega) (by omega) (by simp; omega)]; simp
   ·simp only [e1, e2]
    rw [dT (by omega), room_of (by simp; omega)]; rfl
theorem spell_loop : ∀ (n : Nat) (out : List Int) (m : Nat), n < 9223372036854775808 → n < m → out.length + (digsN n).length ≤ 1000 →
  loopN (fun (s27 : Int × (List Int)) => (bif (decide (s27.1 > 0)) then (bif room (s27.2.length + (([(IntKind.wrap .u8 (Int.tmod s27.1 10))] : List Int)).length) then (some (.inl ((IntKind.wrap .i64 (Int.tdiv s27.1 10)), (s27.2 ++ (([(IntKind.wrap .u8 (Int.tmod s27.1 10))] : List Int)))))) else none) else (some (.inr s27.2)))) m ((n : Int), out) = some (out ++ (digsN n).reverse) := by
 intro n
 induction n using Nat.strongRecOn with
 | _ n ih =>
  intro out m h1 h2 h3
  obtain ⟨m, rfl⟩ : ∃ q, m = q + 1 := ⟨m - 1, by omega⟩
  by_cases h0 : n = 0
  ·subst h0
   rw [loopN_out (o := out)]
   ·rw [digsN_zero]; simp
   ·simp
  ·obtain ⟨e1, e2⟩ := digit_step h1
   rw [digsN_pos h0] at h3 ⊢
   simp at h3
   rw [loopN_next (s' := (((n / 10 : Nat) : Int), out ++ [((n % 10 : Nat) : Int)]))]
   ·rw [ih (n / 10) (by omega) _ m (by omega) (by omega) (by simp; omega)]; simp
   ·simp only [e1, e2]
    rw [dT (by omega), room_of (by simp; omega)]; rfl
theorem digs_short {n : Nat} (h : n < 9223372036854775808) : (digsN n).length ≤ 19 := digsN_len 19 n (by omega)
theorem number_eq {n : Nat} (h : n < 9223372036854775808) : exergueref07_number (n : Int) = some (digsN n) := by
 unfold exergueref07_number
 rw [number_loop n [] big h (by unfold big; omega) (by have := digs_short h; simp; omega)]; simp
theorem spell_eq {n : Nat} (h : n < 9223372036854775808) : oper_spell (n : Int) = some (digsN n) := by
 unfold oper_spell
 have hd := digs_short h
 rw [spell_loop n [] big h (by unfold big; omega) (by simp; omega)]
 simp only [Option.bind_some, List.nil_append]
 have : slices_Reverse_s0 (digsN n).reverse = some (digsN n) := by
  unfold slices_Reverse_s0
  rw [reverse_loop _ (by simp; omega)]; simp
 rw [this]; rfl
def figsP (xs : List Int) : Prop := ∀ x ∈ xs, 0 ≤ x ∧ x ≤ 9
theorem figsP_of {xs : List Int} (h : figs xs = true) (h0 : ∀ x ∈ xs, 0 ≤ x) : figsP xs := fun x hx => by
 have := List.all_eq_true.1 h x hx
 simp at this
 exact ⟨h0 x hx, this⟩
def val (xs : List Int) : Int := xs.foldl (fun a x => a * 10 + x) 0
theorem val_snoc (xs : List Int) (x : Int) : val (xs ++ [x]) = val xs * 10 + x := by simp [val]
theorem foldl_val : ∀ (xs : List Int) (a : Int), xs.foldl (fun a x => a * 10 + x) a = a * ((10 ^ xs.length : Nat) : Int) + val xs := by
 intro xs
 induction xs with
 | nil => intro a; simp [val]
 | cons x xs ih =>
  intro a
  have e2 : val (x :: xs) = List.foldl (fun a x => a * 10 + x) (0 * 10 + x) xs := rfl
  rw [e2, ih, List.foldl_cons, ih]
  rw [List.length_cons, Nat.pow_succ]
  push_cast
  generalize ((10 : Int) ^ xs.length) = p
  rw [Int.add_mul, Int.add_mul, Int.mul_assoc, Int.mul_comm 10 p]; simp; rw [Int.add_assoc]
theorem val_cons (x : Int) (xs : List Int) : val (x :: xs) = x * ((10 ^ xs.length : Nat) : Int) + val xs := by
 have e2 : val (x :: xs) = List.foldl (fun a x => a * 10 + x) (0 * 10 + x) xs := rfl
 rw [e2, foldl_val]; simp
theorem val_nonneg {xs : List Int} (h : figsP xs) : 0 ≤ val xs := by
 induction xs with
 | nil => simp [val]
 | cons x xs ih =>
  rw [val_cons]
  have h1 := ih (fun y hy => h y (List.mem_cons_of_mem _ hy))
  have h2 := Int.mul_nonneg (h x (List.mem_cons_self ..)).1 (Int.natCast_nonneg (10 ^ xs.length))
  omega
theorem val_lt {xs : List Int} (h : figsP xs) : val xs < ((10 ^ xs.length : Nat) : Int) := by
 induction xs with
 | nil => simp [val]
 | cons x xs ih =>
  rw [val_cons]
  have h1 := ih (fun y hy => h y (List.mem_cons_of_mem _ hy))
  have h2 := Int.mul_le_mul_of_nonneg_right (h x (List.mem_cons_self ..)).2 (Int.natCast_nonneg (10 ^ xs.length))
  rw [List.length_cons, Nat.pow_succ]
  omega
theorem val_ge {x : Int} {xs : List Int} (h : figsP (x :: xs)) (hx : ¬ x = 0) : ((10 ^ xs.length : Nat) : Int) ≤ val (x :: xs) := by
 rw [val_cons]
 have h1 := val_nonneg (xs := xs) (fun y hy => h y (List.mem_cons_of_mem _ hy))
 have h0 := (h x (List.mem_cons_self ..)).1
 have h2 := Int.mul_le_mul_of_nonneg_right (show (1 : Int) ≤ x by omega) (Int.natCast_nonneg (10 ^ xs.length))
 omega
theorem val_bare (xs : List Int) : val (bare xs) = val xs := by
 induction xs with
 | nil => rfl
 | cons x xs ih =>
  by_cases hx : x = 0
  ·have : bare (x :: xs) = bare xs := by simp [bare, hx]
   rw [this, ih, val_cons, hx]; simp
  ·have : bare (x :: xs) = x :: xs := by simp [bare, hx]
   rw [this]
theorem bare_head {xs l : List Int} {x : Int} (h : bare xs = x :: l) : ¬ x = 0 := by
 induction xs with
 | nil => cases h
 | cons y xs ih =>
  by_cases hy : y = 0
  ·have : bare (y :: xs) = bare xs := by simp [bare, hy]
   rw [this] at h; exact ih h
  ·have : bare (y :: xs) = y :: xs := by simp [bare, hy]
   rw [this] at h
   cases h; exact hy
theorem bare_sub (xs : List Int) : ∀ x ∈ bare xs, x ∈ xs := fun x hx => (List.dropWhile_sublist _).subset hx
theorem figsP_bare {xs : List Int} (h : figsP xs) : figsP (bare xs) := fun x hx => h x (bare_sub xs x hx)
theorem emod_step (v x m : Int) : ((v % m) * 10 + x) % m = (v * 10 + x) % m := by
 rw [Int.add_emod, Int.mul_emod, Int.emod_emod, ← Int.mul_emod, ← Int.add_emod]
theorem emod_two (a x p m : Int) : (a % m + x * (p % m)) % m = (x * p + a) % m := by
 rw [Int.add_emod, Int.mul_emod, Int.emod_emod, Int.emod_emod, ← Int.mul_emod, ← Int.add_emod, Int.add_comm]
theorem emod_ten (p m : Int) : (p % m * 10) % m = (p * 10) % m := by
 rw [Int.mul_emod, Int.emod_emod, ← Int.mul_emod]
theorem mod_eq {xs : List Int} {m : Int} (hf : figsP xs) (hl : xs.length ≤ 4294967296) (h1 : 1 ≤ m) (h2 : m ≤ 1000000000) : oper_Mod xs m = some (val xs % m) := by
 unfold oper_Mod
 rw [dF (show ¬ m < 1 by omega), dF (show ¬ m > 1000000000 by omega)]
 simp only [cond_false, Option.bind_some, joinX]
 rw [loop_fold xs (fun pre => (val pre % m, (pre.length : Int))) (val xs % m)]
 ·rfl
 ·simp [val]
 ·intro pre x suf h
  have hl' : (pre ++ x :: suf).length ≤ 4611686018427387904 := by rw [← h]; omega
  have hx := hf x (by rw [h]; simp)
  simp only
  rw [h, lt_mid, inR_mid, nth_mid, w_mid hl', val_snoc]
  have g1 := Int.emod_nonneg (val pre) (show m ≠ 0 by omega)
  have g2 := Int.emod_lt_of_pos (val pre) (show 0 < m by omega)
  have hn : nz m = true := by simp [nz]; omega
  rw [w64 (n := val pre % m * 10) (by omega) (by omega), w64 (n := x) (by omega) (by omega), w64 (by omega) (by omega), Int.tmod_eq_emod_of_nonneg (by omega), emod_step, hn]
  rfl
 ·simp only; rw [lt_end]; rfl
 ·omega
theorem mul_le_nine {x p : Int} (h0 : 0 ≤ x) (h : x ≤ 9) (hp : 0 ≤ p) : 0 ≤ x * p ∧ x * p ≤ 9 * p := ⟨Int.mul_nonneg h0 hp, Int.mul_le_mul_of_nonneg_right h hp⟩
theorem rmod_eq {xs : List Int} {m : Int} (hf : figsP xs) (hl : xs.length ≤ 4294967296) (h1 : 1 ≤ m) (h2 : m ≤ 1000000000) : exergueref07_Mod xs m = some (val xs % m) := by
 unfold exergueref07_Mod
 have hn : nz m = true := by simp [nz]; omega
 rw [hn]
 simp only [cond_true]
 rw [loop_fold_back xs (fun suf => (val suf % m, ((10 ^ suf.length : Nat) : Int) % m, (xs.length : Int) - 1 - suf.length)) (val xs % m)]
 ·rfl
 ·rw [Int.tmod_eq_emod_of_nonneg (by omega), w64 (by omega) (by omega)]; simp [val]
 ·intro pre x suf h
  have hx := hf x (by rw [h]; simp)
  have e0 : (xs.length : Int) - 1 - suf.length = (pre.length : Int) := by rw [h]; simp; omega
  have e1 : (xs.length : Int) - 1 - (x :: suf).length = (pre.length : Int) - 1 := by rw [h]; simp; omega
  have hpl : pre.length ≤ xs.length := by rw [h]; simp
  simp only
  rw [e0, e1, dT (show (pre.length : Int) ≥ 0 by omega), h, inR_mid, nth_mid, val_cons]
  have g1 := Int.emod_nonneg (val suf) (show m ≠ 0 by omega)
  have g2 := Int.emod_lt_of_pos (val suf) (show 0 < m by omega)
  generalize hp : ((10 ^ suf.length : Nat) : Int) = p
  have g3 := Int.emod_nonneg p (show m ≠ 0 by omega)
  have g4 := Int.emod_lt_of_pos p (show 0 < m by omega)
  have g5 := mul_le_nine hx.1 hx.2 g3
  have hp' : ((10 ^ (x :: suf).length : Nat) : Int) = p * 10 := by rw [List.length_cons, Nat.pow_succ, ← hp]; push_cast; rfl
  rw [w64 (n := x) (by omega) (by omega), w64 (n := x * (p % m)) (by omega) (by omega), w64 (n := val suf % m + x * (p % m)) (by omega) (by omega), w64 (n := p % m * 10) (by omega) (by omega), w64 (n := (pre.length : Int) - 1) (by omega) (by omega),
   Int.tmod_eq_emod_of_nonneg (by omega), Int.tmod_eq_emod_of_nonneg (by omega), emod_two, emod_ten, hp']
  rfl
 ·have e0 : (xs.length : Int) - 1 - xs.length = -1 := by omega
  simp only
  rw [e0]; rfl
 ·omega
theorem pow19 {n : Nat} (h : n ≤ 19) : 10 ^ n ≤ 10000000000000000000 := Nat.pow_le_pow_right (by decide) h
theorem val_loop {ys : List Int} (hf : figsP ys) (hl : ys.length ≤ 19) :
  loopN (fun (s65 : Int × Int) => (bif (decide (s65.2 < (ys.length : Int))) then (bif inR s65.2 ys.length then (some (.inl ((IntKind.wrap .u64 ((IntKind.wrap .u64 (s65.1 * 10)) + (IntKind.wrap .u64 (nth ys s65.2)))), (IntKind.wrap .i64 (s65.2 + 1))))) else none) else (some (.inr s65.1)))) big (0, 0) = some (val ys) := by
 rw [loop_fold ys (fun pre => (val pre, (pre.length : Int))) (val ys)]
 ·simp [val]
 ·intro pre x suf h
  have hl' : (pre ++ x :: suf).length ≤ 4611686018427387904 := by rw [← h]; omega
  have hx := hf x (by rw [h]; simp)
  have hfp : figsP (pre ++ [x]) := fun y hy => hf y (by rw [h]; simp at hy ⊢; rcases hy with hy | hy <;> simp [hy])
  have hfp0 : figsP pre := fun y hy => hf y (by rw [h]; simp [hy])
  have b1 := val_lt hfp
  have b2 := pow19 (n := (pre ++ [x]).length) (by rw [h] at hl; simp at hl ⊢; omega)
  have b3 := val_nonneg hfp0
  rw [val_snoc] at b1
  simp only
  rw [h, lt_mid, inR_mid, nth_mid, w_mid hl', val_snoc]
  rw [wu64 (n := val pre * 10) (by omega) (by omega), wu64 (n := x) (by omega) (by omega), wu64 (by omega) (by omega)]
  rfl
 ·simp only; rw [lt_end]; rfl
 ·omega
theorem in_eq {xs : List Int} {a b : Int} (hf : figsP xs) (hl : xs.length ≤ 4294967296) (ha : -9223372036854775808 ≤ a ∧ a < 9223372036854775808) (hb : -9223372036854775808 ≤ b ∧ b < 9223372036854775808) :
  oper_In xs a b = some (decide (a ≤ val xs ∧ val xs ≤ b)) := by
 have hv := val_nonneg hf
 unfold oper_In
 rw [strip_eq hl]
 simp only [Option.bind_some]
 by_cases h19 : (bare xs).length > 19
 ·rw [dT (by omega)]
  simp only [cond_true, Option.bind_some, joinX]
  rw [dF]
  obtain ⟨x, l, hxl⟩ : ∃ x l, bare xs = x :: l := by
   cases hb : bare xs with
   | nil => rw [hb] at h19; simp at h19
   | cons x l => exact ⟨x, l, rfl⟩
  have hfb := figsP_bare hf
  rw [hxl] at hfb h19
  have := val_ge hfb (bare_head hxl)
  have h2 : 10 ^ 19 ≤ 10 ^ l.length := Nat.pow_le_pow_right (by decide) (by simp at h19; omega)
  rw [← hxl, val_bare] at this
  omega
 ·rw [dF (by omega)]
  simp only [cond_false, Option.bind_some]
  by_cases hb0 : b < 0
  ·rw [dT hb0]
   simp only [cond_true, Option.bind_some, joinX]
   rw [dF (by omega)]
  ·rw [dF hb0]
   simp only [cond_false, Option.bind_some, joinX]
   rw [val_loop (figsP_bare hf) (by omega), val_bare]
   simp only [Option.bind_some]
   rw [wu64 (n := b) (by omega) (by omega)]
   have e : IntKind.wrap .u64 (maxI a 0) = maxI a 0 := by
    unfold maxI; split
    ·exact wu64 (by omega) (by omega)
    ·exact wu64 (by omega) (by omega)
   rw [e]
   have em : val xs ≥ maxI a 0 ↔ a ≤ val xs := by
    unfold maxI; split <;> omega
   by_cases c1 : val xs ≤ b <;> by_cases c2 : a ≤ val xs <;> simp [c1, c2, em]
def lead0 (xs : List Int) : Bool := decide (xs.head? = some 0)
theorem lead_loop {xs : List Int} : (bif (decide ((xs.length : Int) > 0)) then (bif inR 0 xs.length then (some ((decide ((nth xs 0) = 0)))) else none) else (some false)) = some (lead0 xs) := by
 cases xs with
 | nil => rfl
 | cons x l =>
  have e1 : decide (((x :: l).length : Int) > 0) = true := dT (by simp)
  have e2 : inR 0 (x :: l).length = true := inR_int (by omega) (by simp)
  rw [e1, e2]; simp [lead0, nth]
def rightB (o : St33) : Bool := figs o.I_ && figs o.F_ && !lead0 o.I_ && decide (o.W_ = full o.F_) && decide (0 ≤ o.C_) && decide (o.C_ ≤ 1000)
theorem right_eq {o : St33} (h1 : o.I_.length ≤ 4294967296) (h2 : o.F_.length ≤ 4294967296) : oper_Right o = some (rightB o) := by
 unfold oper_Right rightB
 rw [figures_eq (by omega), figures_eq (by omega), lead_loop, shown_of h2]
 cases figs o.I_ <;> cases figs o.F_ <;> cases lead0 o.I_ <;> by_cases g2 : o.W_ = full o.F_ <;> by_cases g3 : 0 ≤ o.C_ <;> by_cases g4 : o.C_ ≤ 1000 <;> simp [g2, g3, g4, joinX]
theorem rright_eq {o : St33} (h1 : o.I_.length ≤ 4294967296) (h2 : o.F_.length ≤ 4294967296) : exergueref07_Right o = some (rightB o) := by
 unfold exergueref07_Right rightB
 rw [rfigures_eq (by omega), rfigures_eq (by omega), lead_loop, rfull_eq h2]
 cases figs o.I_ <;> cases figs o.F_ <;> cases lead0 o.I_ <;> by_cases g2 : o.W_ = full o.F_ <;> by_cases g3 : 0 ≤ o.C_ <;> by_cases g4 : o.C_ ≤ 1000 <;> simp [g2, g3, g4, joinX]
theorem rightB_iff {o : St33} : rightB o = true ↔ figs o.I_ = true ∧ figs o.F_ = true ∧ lead0 o.I_ = false ∧ o.W_ = full o.F_ ∧ 0 ≤ o.C_ ∧ o.C_ ≤ 1000 := by
 unfold rightB
 simp only [Bool.and_eq_true, decide_eq_true_eq, Bool.not_eq_true']
 constructor
 ·rintro ⟨⟨⟨⟨⟨a, b⟩, c⟩, d⟩, e⟩, f⟩; exact ⟨a, b, c, d, e, f⟩
 ·rintro ⟨a, b, c, d, e, f⟩; exact ⟨⟨⟨⟨⟨a, b⟩, c⟩, d⟩, e⟩, f⟩
def opnd (o : St33) (x : Int) : List Int × Bool :=
 if x = 110 then (if o.W_ > 0 then ([], false) else (o.I_, true)) else if x = 105 then (o.I_, true) else if x = 118 then (digsN o.F_.length, true) else if x = 119 then (digsN o.W_.toNat, true)
 else if x = 102 then (bare o.F_, true) else if x = 116 then (bare (o.F_.take o.W_.toNat), true) else if x = 99 ∨ x = 101 then (digsN o.C_.toNat, true) else ([], false)
theorem spell_int {n : Int} (h0 : 0 ≤ n) (h : n < 9223372036854775808) : oper_spell n = some (digsN n.toNat) := by
 obtain ⟨k, rfl⟩ := Int.eq_ofNat_of_zero_le h0
 rw [Int.toNat_natCast]; exact spell_eq (by omega)
theorem number_int {n : Int} (h0 : 0 ≤ n) (h : n < 9223372036854775808) : exergueref07_number n = some (digsN n.toNat) := by
 obtain ⟨k, rfl⟩ := Int.eq_ofNat_of_zero_le h0
 rw [Int.toNat_natCast]; exact number_eq (by omega)
theorem cut0 {xs : List Int} {n : Int} : cut xs 0 n = xs.take n.toNat := by simp [cut]
theorem operand_eq {o : St33} {x : Int} (h1 : o.I_.length ≤ 4294967296) (h2 : o.F_.length ≤ 4294967296) : oper_Operand o x = some (if rightB o = true then opnd o x else ([], false)) := by
 unfold oper_Operand
 rw [right_eq h1 h2]
 simp only [Option.bind_some]
 cases hr : rightB o with
 | false => rfl
 | true =>
  obtain ⟨_, _, _, hw, hc0, hc⟩ := rightB_iff.1 hr
  have hfl := full_le o.F_
  have t1 : (o.F_.take o.W_.toNat).length ≤ 4294967296 := by rw [List.length_take]; omega
  unfold oper_asked__operands_s0 oper_asked__number oper_asked__whole oper_asked__long oper_asked__short oper_asked__part oper_asked__cut oper_asked__power opnd
  simp only
  rw [clone_eq h1, spell_int (n := (o.F_.length : Int)) (by omega) (by omega), spell_int (n := o.W_) (by omega) (by omega), strip_eq h2, cut0, strip_eq t1, spell_int (n := o.C_) (by omega) (by omega), inS_of (l := 0) (h := o.W_) (by omega) (by omega) (by omega)]
  by_cases k1 : x = 110
  ·by_cases k2 : o.W_ > 0 <;> simp [k1, k2]
  ·by_cases k2 : x = 105 <;> by_cases k3 : x = 118 <;> by_cases k4 : x = 119 <;> by_cases k5 : x = 102 <;> by_cases k6 : x = 116 <;> by_cases k7 : x = 99 <;> by_cases k8 : x = 101 <;> first | (exfalso; omega) | simp [k1, k2, k3, k4, k5, k6, k7, k8]
theorem roperand_eq {o : St33} {x : Int} (h1 : o.I_.length ≤ 4294967296) (h2 : o.F_.length ≤ 4294967296) (hr : rightB o = true) : exergueref07_Operand o x = some (opnd o x) := by
 unfold exergueref07_Operand
 obtain ⟨_, _, _, hw, hc0, hc⟩ := rightB_iff.1 hr
 have hfl := full_le o.F_
 have t1 : (o.F_.take o.W_.toNat).length ≤ 4294967296 := by rw [List.length_take]; omega
 unfold opnd
 rw [number_int (n := (o.F_.length : Int)) (by omega) (by omega), number_int (n := o.W_) (by omega) (by omega), rbare_eq h2, cut0, rbare_eq t1, number_int (n := o.C_) (by omega) (by omega), inS_of (l := 0) (h := o.W_) (by omega) (by omega) (by omega)]
 by_cases k1 : x = 110
 ·by_cases k2 : o.W_ > 0 <;> simp [k1, k2, joinX]
 ·by_cases k2 : x = 105 <;> by_cases k3 : x = 118 <;> by_cases k4 : x = 119 <;> by_cases k5 : x = 102 <;> by_cases k6 : x = 116 <;> by_cases k7 : x = 99 <;> by_cases k8 : x = 101 <;> first | (exfalso; omega) | simp [k1, k2, k3, k4, k5, k6, k7, k8, joinX]
theorem figs_nonneg {xs : List Int} (h : WfL (WfI .u8) xs) : ∀ x ∈ xs, 0 ≤ x := fun x hx => (wf_u8 (h.2 x hx)).1
/-! Decimal numerals: what the library's functions lay. -/
def dgs (u : Nat) : Nat → List Int
 | 0 => []
 | n + 1 => dgs (u / 10) n ++ [((48 + u % 10 : Nat) : Int)]
theorem dgs_len : ∀ (n u : Nat), (dgs u n).length = n
 | 0, u => rfl
 | n + 1, u => by simp [dgs, dgs_len n]
theorem dgs2 (u n : Nat) : dgs u (n + 2) = dgs (u / 100) n ++ [((48 + u / 10 % 10 : Nat) : Int), ((48 + u % 10 : Nat) : Int)] := by
 show dgs (u / 10) (n + 1) ++ _ = _
 show (dgs (u / 10 / 10) n ++ _) ++ _ = _
 rw [Nat.div_div_eq_div_mul, List.append_assoc]; rfl
theorem dgs_eq : ∀ (u : Nat), dgs u (Lib.nDigits u) = bytesI (Lib.decDigits u) := by
 intro u
 induction u using Nat.strongRecOn with
 | _ u ih =>
  by_cases h : u < 10
  ·rw [Lib.nDigits_small h, Lib.decDigits, dif_pos h]
   simp only [dgs, bytesI, List.map_cons, List.map_nil, List.nil_append]
   rw [UInt8.toNat_ofNat_of_lt' (by simp only [UInt8.size]; omega), Nat.mod_eq_of_lt h]
  ·rw [Lib.nDigits_big h, Lib.decDigits, dif_neg h]
   show dgs (u / 10) (Lib.nDigits (u / 10)) ++ _ = _
   rw [ih (u / 10) (by omega)]
   simp only [bytesI, List.map_append, List.map_cons, List.map_nil]
   rw [UInt8.toNat_ofNat_of_lt' (by simp only [UInt8.size]; omega)]
theorem k0_hi (p : Nat) (h : p < 100) : (k0_.getD (p * 2) 0).toNat = 48 + p / 10 := by
 have : ∀ q : Fin 100, (k0_.getD (q.val * 2) 0).toNat = 48 + q.val / 10 := by decide +kernel
 exact this ⟨p, h⟩
theorem k0_lo (p : Nat) (h : p < 100) : (k0_.getD (p * 2 + 1) 0).toNat = 48 + p % 10 := by
 have : ∀ q : Fin 100, (k0_.getD (q.val * 2 + 1) 0).toNat = 48 + q.val % 10 := by decide +kernel
 exact this ⟨p, h⟩
theorem tm8 (a : Nat) : Int.tmod (a : Int) 100000000 = ((a % 100000000 : Nat) : Int) := by rw [Int.tmod_eq_emod_of_nonneg (by omega)]; omega
theorem tm4 (a : Nat) : Int.tmod (a : Int) 10000 = ((a % 10000 : Nat) : Int) := by rw [Int.tmod_eq_emod_of_nonneg (by omega)]; omega
theorem tm2 (a : Nat) : Int.tmod (a : Int) 100 = ((a % 100 : Nat) : Int) := by rw [Int.tmod_eq_emod_of_nonneg (by omega)]; omega
theorem td8 (a : Nat) : Int.tdiv (a : Int) 100000000 = ((a / 100000000 : Nat) : Int) := by rw [Int.tdiv_eq_ediv_of_nonneg (by omega)]; omega
theorem td4 (a : Nat) : Int.tdiv (a : Int) 10000 = ((a / 10000 : Nat) : Int) := by rw [Int.tdiv_eq_ediv_of_nonneg (by omega)]; omega
theorem td2 (a : Nat) : Int.tdiv (a : Int) 100 = ((a / 100 : Nat) : Int) := by rw [Int.tdiv_eq_ediv_of_nonneg (by omega)]; omega
theorem wu32n {a : Nat} (h : a < 4294967296) : IntKind.u32.wrap (a : Int) = (a : Int) := wu32 (by omega) (by omega)
theorem wu64n {a : Nat} (h : a < 18446744073709551616) : IntKind.u64.wrap (a : Int) = (a : Int) := wu64 (by omega) (by omega)
theorem mul2n (a : Nat) : (a : Int) * 2 = ((a * 2 : Nat) : Int) := by omega
theorem k0_len : k0_.length = 200 := by kernel_rfl
theorem inRk {a : Nat} (h : a < 200) : inR (a : Int) k0_.length = true := inR_nat (by rw [k0_len]; exact h)
theorem setAt_len {T : Type} (xs : List T) (j : Int) (y : T) : (setAt xs j y).length = xs.length := by simp [setAt]
theorem zcast (x : Int) : ((0 : Nat) : Int) + x = x := by simp
theorem set_at {T : Type} (p l : List T) (k : Nat) (v : T) : setAt (p ++ l) (((p.length + k : Nat) : Int)) v = p ++ l.set k v := by
 unfold setAt
 rw [Int.toNat_natCast, List.set_append_right _ _ (by omega)]
 congr 2; omega
theorem inPn {o j n : Nat} (h : o + j < n) : inP o (j : Int) n = true := by simp [inP]; omega
theorem wsubn {a b : Nat} (h : b ≤ a) (h2 : a < 1000) : IntKind.wrap .i64 ((a : Int) - (b : Int)) = ((a - b : Nat) : Int) := by rw [w64 (by omega) (by omega)]; omega
theorem wsub1 {a : Nat} (h : 1 ≤ a) (h2 : a < 1000) : IntKind.wrap .i64 ((a : Int) - 1) = ((a - 1 : Nat) : Int) := wsubn h h2
theorem wsub2 {a : Nat} (h : 2 ≤ a) (h2 : a < 1000) : IntKind.wrap .i64 ((a : Int) - 2) = ((a - 2 : Nat) : Int) := wsubn h h2
theorem wsub3 {a : Nat} (h : 3 ≤ a) (h2 : a < 1000) : IntKind.wrap .i64 ((a : Int) - 3) = ((a - 3 : Nat) : Int) := wsubn h h2
theorem wsub4 {a : Nat} (h : 4 ≤ a) (h2 : a < 1000) : IntKind.wrap .i64 ((a : Int) - 4) = ((a - 4 : Nat) : Int) := wsubn h h2
theorem wsub5 {a : Nat} (h : 5 ≤ a) (h2 : a < 1000) : IntKind.wrap .i64 ((a : Int) - 5) = ((a - 5 : Nat) : Int) := wsubn h h2
theorem wsub6 {a : Nat} (h : 6 ≤ a) (h2 : a < 1000) : IntKind.wrap .i64 ((a : Int) - 6) = ((a - 6 : Nat) : Int) := wsubn h h2
theorem wsub7 {a : Nat} (h : 7 ≤ a) (h2 : a < 1000) : IntKind.wrap .i64 ((a : Int) - 7) = ((a - 7 : Nat) : Int) := wsubn h h2
theorem wsub8 {a : Nat} (h : 8 ≤ a) (h2 : a < 1000) : IntKind.wrap .i64 ((a : Int) - 8) = ((a - 8 : Nat) : Int) := wsubn h h2
def FB (R : List Int) (x0 : Nat) (s : Int × Int × List Int) : Prop := ∃ (v n : Nat) (p q : List Int), s = ((v : Int), (n : Int), p ++ q) ∧ p.length = n ∧ v < 10 ^ n ∧ v < 18446744073709551616 ∧ p.length + q.length = 24 ∧ n ≤ x0 ∧ dgs v n ++ q = R
theorem last8 {p : List Int} {k : Nat} (h : p.length = k + 8) : ∃ p' a b c d e f g i, p = p' ++ [a, b, c, d, e, f, g, i] ∧ p'.length = k := by
 refine ⟨p.take k, ?_⟩
 have h2 : (p.drop k).length = 8 := by simp; omega
 match hd : p.drop k, h2 with
 | [a, b, c, d, e, f, g, i], _ => exact ⟨a, b, c, d, e, f, g, i, by rw [← hd, List.take_append_drop], by simp; omega⟩
theorem dgs8 (u n : Nat) : dgs u (n + 8) = dgs (u / 100000000) n ++ [((48 + u % 100000000 / 10000 / 100 / 10 : Nat) : Int), ((48 + u % 100000000 / 10000 / 100 % 10 : Nat) : Int), ((48 + u % 100000000 / 10000 % 100 / 10 : Nat) : Int), ((48 + u % 100000000 / 10000 % 100 % 10 : Nat) : Int),
  ((48 + u % 100000000 % 10000 / 100 / 10 : Nat) : Int), ((48 + u % 100000000 % 10000 / 100 % 10 : Nat) : Int), ((48 + u % 100000000 % 10000 % 100 / 10 : Nat) : Int), ((48 + u % 100000000 % 10000 % 100 % 10 : Nat) : Int)] := by
 rw [dgs2, dgs2, dgs2, dgs2]
 simp only [List.append_assoc, List.cons_append, List.nil_append, Nat.div_div_eq_div_mul]
 congr 1
 congr 1
 ·omega
 congr 1
 ·omega
 congr 1
 ·omega
 congr 1
 ·omega
 congr 1
 ·omega
 congr 1
 ·omega
 congr 1
 ·omega
 congr 1
 ·omega
theorem add1n (a : Nat) : (a : Int) + 1 = ((a + 1 : Nat) : Int) := by omega
theorem k0_hi' (p : Nat) (h : p < 100) : (((k0_.getD (((p * 2 : Nat) : Int)).toNat 0).toNat : Nat) : Int) = ((48 + p / 10 : Nat) : Int) := by rw [Int.toNat_natCast, k0_hi p h]
theorem k0_lo' (p : Nat) (h : p < 100) : (((k0_.getD (((p * 2 + 1 : Nat) : Int)).toNat 0).toNat : Nat) : Int) = ((48 + p % 10 : Nat) : Int) := by rw [Int.toNat_natCast, k0_lo p h]
theorem w8c {a : Nat} (h : a < 256) : IntKind.u8.wrap (a : Int) = (a : Int) := w8 (by omega) (by omega)
theorem add48 (a : Nat) : (48 : Int) + (a : Int) = ((48 + a : Nat) : Int) := by omega
theorem zcast0 : ((0 : Nat) : Int) + 0 = ((0 : Nat) : Int) := rfl
theorem inP00 {n : Nat} (h : 0 < n) : inP 0 0 n = true := by simp [inP]; omega
theorem inR0x {n : Nat} {x : Int} (hx : x.toNat = n) (h : 0 < n) : inR 0 x.toNat = true := inR_int (by omega) (by omega)
theorem set_atN {T : Type} (p : List T) (k : Nat) (v : T) : setAt p ((k : Nat) : Int) v = p.set k v := by simp [setAt]
def FA (R : List Int) (x0 b : Nat) (s : Int × Int × List Int) : Prop := ∃ (v n : Nat) (p q : List Int), s = ((n : Int), (v : Int), p ++ q) ∧ p.length = n ∧ v < 4294967296 ∧ v < 10 ^ n ∧ n < b ∧ p.length + q.length = 24 ∧ n ≤ x0 ∧ dgs v n ++ q = R
theorem last4 {p : List Int} {k : Nat} (h : p.length = k + 4) : ∃ p' a b c d, p = p' ++ [a, b, c, d] ∧ p'.length = k := by
 refine ⟨p.take k, ?_⟩
 have h2 : (p.drop k).length = 4 := by simp; omega
 match hd : p.drop k, h2 with
 | [a, b, c, d], _ => exact ⟨a, b, c, d, by rw [← hd, List.take_append_drop], by simp; omega⟩
theorem last2 {p : List Int} {k : Nat} (h : p.length = k + 2) : ∃ p' a b, p = p' ++ [a, b] ∧ p'.length = k := by
 refine ⟨p.take k, ?_⟩
 have h2 : (p.drop k).length = 2 := by simp; omega
 match hd : p.drop k, h2 with
 | [a, b], _ => exact ⟨a, b, by rw [← hd, List.take_append_drop], by simp; omega⟩
theorem dgs4 (u n : Nat) : dgs u (n + 4) = dgs (u / 10000) n ++ [((48 + u % 10000 / 100 / 10 : Nat) : Int), ((48 + u % 10000 / 100 % 10 : Nat) : Int), ((48 + u % 10000 % 100 / 10 : Nat) : Int), ((48 + u % 10000 % 100 % 10 : Nat) : Int)] := by
 rw [dgs2, dgs2]
 simp only [List.append_assoc, List.cons_append, List.nil_append, Nat.div_div_eq_div_mul]
 congr 1
 congr 1
 ·omega
 congr 1
 ·omega
 congr 1
 ·omega
 congr 1
 ·omega
set_option maxHeartbeats 4000000 in
theorem fb_eq {v n : Nat} {a : List Int} (hn : n ≤ 24) (ha : a.length = 24) (hv : v < 10 ^ n) (hv2 : v < 18446744073709551616) : strconv_formatBase10_s0 (n : Int) (v : Int) a = some (dgs v n ++ a.drop n) := by
 unfold strconv_formatBase10_s0
 have tn : ((n : Int)).toNat = n := by omega
 refine bind_of (fun s => FB (dgs v n ++ a.drop n) n s ∧ s.2.1 < 8) (loopN_run (FB (dgs v n ++ a.drop n) n) (fun s => s.2.1.toNat) _ (fun s hs => ?_) _ _ ?_ ?_) ?_
 ·obtain ⟨w, k, p, q, rfl, hp, hw, hw2, hl, hk, hR⟩ := hs
  by_cases h8 : 8 ≤ k
  ·left
   obtain ⟨j, rfl⟩ : ∃ j, k = j + 8 := ⟨k - 8, by omega⟩
   obtain ⟨p, a0, a1, a2, a3, a4, a5, a6, a7, rfl, hp'⟩ := last8 hp
   have hpl : p.length + 8 + q.length = 24 := by simp at hl; omega
   refine ⟨(((w / 100000000 : Nat) : Int), ((j : Nat) : Int), p ++ ([((48 + w % 100000000 / 10000 / 100 / 10 : Nat) : Int), ((48 + w % 100000000 / 10000 / 100 % 10 : Nat) : Int), ((48 + w % 100000000 / 10000 % 100 / 10 : Nat) : Int), ((48 + w % 100000000 / 10000 % 100 % 10 : Nat) : Int),
  ((48 + w % 100000000 % 10000 / 100 / 10 : Nat) : Int), ((48 + w % 100000000 % 10000 / 100 % 10 : Nat) : Int), ((48 + w % 100000000 % 10000 % 100 / 10 : Nat) : Int), ((48 + w % 100000000 % 10000 % 100 % 10 : Nat) : Int)] ++ q)), ?_, ⟨w / 100000000, j, p, _, rfl, hp', ?_, by omega, ?_, by omega, ?_⟩, by simp only [Int.toNat_natCast]; omega⟩
   ·simp only []
    have d8 : decide (((j + 8 : Nat) : Int) ≥ 8) = true := dT (by omega)
    rw [d8]
    have hlen0 : (p ++ [a0, a1, a2, a3, a4, a5, a6, a7] ++ q).length = 24 := by simp; omega
    have e1 : j + 8 - 1 = p.length + 7 := by omega
    have e2 : j + 8 - 2 = p.length + 6 := by omega
    have e3 : j + 8 - 3 = p.length + 5 := by omega
    have e4 : j + 8 - 4 = p.length + 4 := by omega
    have e5 : j + 8 - 5 = p.length + 3 := by omega
    have e6 : j + 8 - 6 = p.length + 2 := by omega
    have e7 : j + 8 - 7 = p.length + 1 := by omega
    have e8 : j + 8 - 8 = p.length + 0 := by omega
    simp (disch := omega) only [tm8, tm4, tm2, td8, td4, td2, wu32n, wu64n, mul2n, add1n, inRk, wsub1, wsub2, wsub3, wsub4, wsub5, wsub6, wsub7, wsub8, e1, e2, e3, e4, e5, e6, e7, e8, tn, inR_nat, cond_true]
    simp (disch := omega) only [setAt_len, hlen0, inPn, cond_true, k0_hi', k0_lo', zcast]
    simp only [List.append_assoc, set_at, List.cons_append, List.nil_append, List.set_cons_succ, List.set_cons_zero]
    try simp only [Nat.add_zero, hp']
   ·rw [Nat.pow_add] at hw
    exact Nat.div_lt_of_lt_mul (by rw [Nat.mul_comm]; exact hw)
   ·simp; omega
   ·rw [← hR, dgs8, List.append_assoc]
  ·right
   refine ⟨((w : Int), (k : Int), p ++ q), ?_, ⟨w, k, p, q, rfl, hp, hw, hw2, hl, hk, hR⟩, by simp only; omega⟩
   rw [dF (by simp only; omega)]; rfl
 ·exact ⟨v, n, a.take n, a.drop n, by rw [List.take_append_drop, tn], by simp; omega, hv, hv2, by simp; omega, Nat.le_refl _, rfl⟩
 ·simp only [Int.toNat_natCast]; exact big_pos (by omega)
 ·rintro s ⟨⟨w, k, p, q, rfl, hp, hw, hw2, hl, hk, hR⟩, h8⟩
  simp only at h8
  have hk8 : k < 8 := by omega
  have hw7 : w < 10000000 := Nat.lt_of_lt_of_le hw (Nat.le_trans (Nat.pow_le_pow_right (by decide) (show k ≤ 7 by omega)) (by decide))
  simp only
  refine bind_of (FA (dgs v n ++ a.drop n) n 4) ?_ (fun s hs => ?_)
  ·by_cases h4 : 4 ≤ k
   ·obtain ⟨j, rfl⟩ : ∃ j, k = j + 4 := ⟨k - 4, by omega⟩
    obtain ⟨p, a0, a1, a2, a3, rfl, hp'⟩ := last4 hp
    have hpl : p.length + 4 + q.length = 24 := by simp at hl; omega
    refine ⟨((j : Int), ((w / 10000 : Nat) : Int), p ++ ([((48 + w % 10000 / 100 / 10 : Nat) : Int), ((48 + w % 10000 / 100 % 10 : Nat) : Int), ((48 + w % 10000 % 100 / 10 : Nat) : Int), ((48 + w % 10000 % 100 % 10 : Nat) : Int)] ++ q)), ?_, ⟨w / 10000, j, p, _, rfl, hp', by omega, ?_, by omega, ?_, by omega, ?_⟩⟩
    ·rw [dT (show ((j + 4 : Nat) : Int) ≥ 4 by omega)]
     have hlen0 : (p ++ [a0, a1, a2, a3] ++ q).length = 24 := by simp; omega
     have e1 : j + 4 - 1 = p.length + 3 := by omega
     have e2 : j + 4 - 2 = p.length + 2 := by omega
     have e3 : j + 4 - 3 = p.length + 1 := by omega
     have e4 : j + 4 - 4 = p.length + 0 := by omega
     simp (disch := omega) only [tm4, tm2, td4, td2, wu32n, mul2n, add1n, inRk, wsub1, wsub2, wsub3, wsub4, e1, e2, e3, e4, tn, inR_nat, cond_true]
     simp (disch := omega) only [setAt_len, hlen0, inPn, cond_true, k0_hi', k0_lo', zcast]
     simp only [List.append_assoc, set_at, List.cons_append, List.nil_append, List.set_cons_succ, List.set_cons_zero]
     try simp only [Nat.add_zero, hp']
    ·rw [Nat.pow_add] at hw
     exact Nat.div_lt_of_lt_mul (by rw [Nat.mul_comm]; exact hw)
    ·simp; omega
    ·rw [← hR, dgs4, List.append_assoc]
   ·refine ⟨((k : Int), (w : Int), p ++ q), ?_, ⟨w, k, p, q, rfl, hp, by omega, hw, by omega, hl, hk, hR⟩⟩
    rw [dF (by omega), wu32n (by omega)]; rfl
  ·obtain ⟨w, k, p, q, rfl, hp, hw7, hw, hk4, hl, hk, hR⟩ := hs
   simp only
   refine bind_of (FA (dgs v n ++ a.drop n) n 2) ?_ (fun s hs => ?_)
   ·by_cases h2 : 2 ≤ k
    ·obtain ⟨j, rfl⟩ : ∃ j, k = j + 2 := ⟨k - 2, by omega⟩
     obtain ⟨p, a0, a1, rfl, hp'⟩ := last2 hp
     have hpl : p.length + 2 + q.length = 24 := by simp at hl; omega
     refine ⟨((j : Int), ((w / 100 : Nat) : Int), p ++ ([((48 + w % 100 / 10 : Nat) : Int), ((48 + w % 100 % 10 : Nat) : Int)] ++ q)), ?_, ⟨w / 100, j, p, _, rfl, hp', by omega, ?_, by omega, ?_, by omega, ?_⟩⟩
     ·rw [dT (show ((j + 2 : Nat) : Int) ≥ 2 by omega)]
      have hlen0 : (p ++ [a0, a1] ++ q).length = 24 := by simp; omega
      have e1 : j + 2 - 1 = p.length + 1 := by omega
      have e2 : j + 2 - 2 = p.length + 0 := by omega
      simp (disch := omega) only [tm2, td2, wu32n, mul2n, add1n, inRk, wsub1, wsub2, e1, e2, tn, inR_nat, cond_true]
      simp (disch := omega) only [setAt_len, hlen0, inPn, cond_true, k0_hi', k0_lo', zcast]
      simp only [List.append_assoc, set_at, List.cons_append, List.nil_append, List.set_cons_succ, List.set_cons_zero]
      try simp only [Nat.add_zero, hp']
     ·rw [Nat.pow_add] at hw
      exact Nat.div_lt_of_lt_mul (by rw [Nat.mul_comm]; exact hw)
     ·simp; omega
     ·rw [← hR, dgs2, List.append_assoc]
      congr 2
      congr 1
      ·omega
      congr 1
      omega
    ·refine ⟨((k : Int), (w : Int), p ++ q), ?_, ⟨w, k, p, q, rfl, hp, by omega, hw, by omega, hl, hk, hR⟩⟩
     rw [dF (by omega)]; rfl
   ·obtain ⟨w, k, p, q, rfl, hp, hw7, hw, hk2, hl, hk, hR⟩ := hs
    simp only
    rw [← hR]
    by_cases h1 : 1 ≤ k
    ·obtain rfl : k = 1 := by omega
     obtain ⟨a0, rfl⟩ := List.length_eq_one_iff.1 hp
     have hw10 : w < 10 := by simpa using hw
     rw [dT (by omega), inR0x tn (by omega), inP00 (by simp)]
     simp only [cond_true, zcast0, set_atN, List.cons_append, List.nil_append, List.set_cons_zero, dgs, add48]
     rw [wu32n (by omega), w8c (by omega), Nat.mod_eq_of_lt hw10]
    ·obtain rfl : k = 0 := by omega
     obtain rfl := List.eq_nil_of_length_eq_zero hp
     rw [dF (by omega)]; rfl
theorem k1_at : ∀ q : Fin 256, (k1_.getD q.val 0).toNat = Lib.bitLen q.val := by decide +kernel
theorem k1_len : k1_.length = 256 := by kernel_rfl
def LenI (u b m : Nat) (s : Int × Int) : Prop := ∃ x k : Nat, s = ((x : Int), (k : Int)) ∧ x < b ∧ x < 18446744073709551616 ∧ Lib.bitLen u = k + Lib.bitLen x ∧ k ≤ m
theorem fd (a b : Nat) : Int.fdiv (a : Int) (b : Int) = ((a / b : Nat) : Int) := by rw [Int.fdiv_eq_ediv_of_nonneg _ (by omega)]; rfl
theorem len64_eq {u : Nat} (h : u < 18446744073709551616) : bits_Len64 (u : Int) = some (Lib.bitLen u : Int) := by
 unfold bits_Len64
 refine bind_of (LenI u 4294967296 32) ?_ (fun s hs => ?_)
 ·by_cases c : 4294967296 ≤ u
  ·refine ⟨_, by rw [dT (by omega)]; rfl, u / 4294967296, 32, ?_, by omega, by omega, Lib.bitLen_shift32 u c h, by omega⟩
   rw [show (4294967296 : Int) = ((4294967296 : Nat) : Int) from rfl, fd]; rfl
  ·exact ⟨((u : Int), 0), by rw [dF (by omega)]; rfl, u, 0, rfl, by omega, h, by omega, by omega⟩
 ·obtain ⟨x, k, rfl, hx, hx2, hb, hk⟩ := hs
  simp only
  refine bind_of (LenI u 65536 48) ?_ (fun s hs => ?_)
  ·by_cases c : 65536 ≤ x
   ·refine ⟨_, by rw [dT (by omega)]; rfl, x / 65536, k + 16, ?_, by omega, by omega, by rw [hb, Lib.bitLen_shift16 x c hx2]; omega, by omega⟩
    rw [show (65536 : Int) = ((65536 : Nat) : Int) from rfl, fd, w64 (by omega) (by omega)]; rfl
   ·exact ⟨((x : Int), (k : Int)), by rw [dF (by omega)]; rfl, x, k, rfl, by omega, hx2, hb, by omega⟩
  ·obtain ⟨x, k, rfl, hx, hx2, hb, hk⟩ := hs
   simp only
   refine bind_of (LenI u 256 56) ?_ (fun s hs => ?_)
   ·by_cases c : 256 ≤ x
    ·refine ⟨_, by rw [dT (by omega)]; rfl, x / 256, k + 8, ?_, by omega, by omega, by rw [hb, Lib.bitLen_shift8 x c hx2]; omega, by omega⟩
     rw [show (256 : Int) = ((256 : Nat) : Int) from rfl, fd, w64 (by omega) (by omega)]; rfl
    ·exact ⟨((x : Int), (k : Int)), by rw [dF (by omega)]; rfl, x, k, rfl, by omega, hx2, hb, by omega⟩
   ·obtain ⟨x, k, rfl, hx, hx2, hb, hk⟩ := hs
    simp only
    have h8 := Lib.bitLen_le8 ⟨x, hx⟩
    simp only at h8
    rw [w8c hx, inR_nat (by rw [k1_len]; omega), Int.toNat_natCast, k1_at ⟨x, hx⟩]
    simp only [cond_true]
    rw [w64 (n := (Lib.bitLen x : Int)) (by omega) (by omega), w64 (by omega) (by omega), hb]
    rfl
theorem k2_at : ∀ q : Fin 20, nth k2_ (q.val : Int) = ((10 ^ q.val : Nat) : Int) := by decide +kernel
theorem numDigits_eq {u : Nat} (h1 : 1 ≤ u) (h : u < 18446744073709551616) : strconv_numDigits (u : Int) = some (Lib.nDigits u : Int) := by
 unfold strconv_numDigits
 rw [len64_eq h]
 have hb : Lib.bitLen u ≤ 64 := Lib.bitLen_le u 64 (by omega) h
 obtain ⟨e1, e2⟩ := Lib.numDigits_eq u h1 h
 simp only [Option.bind_some]
 unfold strconv_log10Pow2
 have e3 : Int.fdiv (IntKind.wrap .i64 ((Lib.bitLen u : Int) * 78913)) 262144 = (Lib.l10 (Lib.bitLen u) : Int) := by
  rw [w64 (by omega) (by omega), show (262144 : Int) = ((262144 : Nat) : Int) from rfl, show (Lib.bitLen u : Int) * 78913 = ((Lib.bitLen u * 78913 : Nat) : Int) by omega, fd]; rfl
 rw [e3]
 simp only [Option.bind_some]
 rw [inR_nat (by omega), k2_at ⟨Lib.l10 (Lib.bitLen u), by omega⟩]
 simp only [cond_true]
 rw [← e1]
 unfold strconv_bool2
 by_cases c : 10 ^ Lib.l10 (Lib.bitLen u) ≤ u
 ·rw [dT (by omega), if_pos c]
  simp only [cond_true, Option.bind_some]
  rw [w64 (by omega) (by omega)]; rfl
 ·rw [dF (by omega), if_neg c]
  simp only [cond_false, Option.bind_some]
  rw [w64 (by omega) (by omega)]; rfl
theorem small_eq {u : Nat} (h : u < 100) : strconv_small (u : Int) = some (Lib.decDigits u) := by
 have : ∀ q : Fin 100, strconv_small (q.val : Int) = some (Lib.decDigits q.val) := by
  intro q
  have e : ∀ q : Fin 100, strconv_small (q.val : Int) = some (if q.val < 10 then [UInt8.ofNat (48 + q.val)] else [UInt8.ofNat (48 + q.val / 10), UInt8.ofNat (48 + q.val % 10)]) := by decide +kernel
  rw [e q]
  split
  ·rename_i c; rw [Lib.decDigits_one c]
  ·rename_i c; rw [Lib.decDigits_two c q.isLt]
 exact this ⟨u, h⟩
theorem appendU_eq {x0 : List Int} {u : Nat} (hu : u < 18446744073709551616) (hl : x0.length ≤ 4000000000) : strconv_AppendUint x0 (u : Int) 10 = some (x0 ++ bytesI (Lib.decDigits u)) := by
 have hd := Lib.nDigits_le20 u hu
 unfold strconv_AppendUint
 rw [dT rfl]
 simp only [cond_true]
 by_cases c : u < 100
 ·rw [dT (by omega), w64 (by omega) (by omega), small_eq c]
  simp only [cond_true, Option.bind_some]
  rw [room_of (by rw [Lib.decDigits_length]; omega)]; rfl
 ·rw [dF (by omega), numDigits_eq (by omega) hu]
  simp only [cond_false, Option.bind_some]
  rw [inS_of (by omega) (by omega) (by omega)]
  simp only [cond_true]
  rw [fb_eq (by omega) rfl (Lib.lt_pow_nDigits u) hu]
  simp only [Option.bind_some]
  rw [inS_of (by omega) (by omega) (by simp [dgs_len, rep]; omega), roomB_of (by omega)]
  simp only [Bool.and_self, cond_true]
  congr 2
  rw [zcast, cut, dgs_eq]
  simp only [Int.toNat_natCast, Int.toNat_zero, List.drop_zero]
  rw [List.take_append_of_le_length (by simp [bytesI, Lib.decDigits_length])]
  exact List.take_of_length_le (by simp [bytesI, Lib.decDigits_length])
theorem append_int {x0 : List Int} {n : Int} (h0 : -9223372036854775808 ≤ n) (h1 : n ≤ 9223372036854775807) (hl : x0.length ≤ 3000000000) : strconv_AppendInt x0 n 10 = some (x0 ++ bytesI (Lib.itoa n)) := by
 unfold strconv_AppendInt strconv_AppendInt_82
 by_cases c : n < 0
 ·rw [dT c, room_of (by simp; omega)]
  simp only [cond_true, Option.bind_some]
  have e : IntKind.wrap .u64 (0 - IntKind.wrap .u64 n) = ((n.natAbs : Nat) : Int) := by
   unfold IntKind.wrap
   simp only [IntKind.signed, IntKind.bits, Bool.false_and, Bool.false_eq_true, if_false]
   omega
  rw [e, appendU_eq (by omega) (by simp; omega)]
  simp only [Option.bind_some]
  unfold Lib.itoa
  rw [if_pos c, List.append_assoc]; rfl
 ·rw [dF c]
  simp only [cond_false, Option.bind_some]
  have e : IntKind.wrap .u64 n = ((n.toNat : Nat) : Int) := by rw [wu64 (by omega) (by omega)]; omega
  rw [e, appendU_eq (by omega) (by omega)]
  simp only [Option.bind_some]
  unfold Lib.itoa
  rw [if_neg c]
theorem dec_last {m : Nat} : (Lib.decDigits m).dropLast ++ [UInt8.ofNat (48 + m % 10)] = Lib.decDigits m := by
 by_cases h : m < 10
 ·rw [Lib.decDigits, dif_pos h, Nat.mod_eq_of_lt h]; rfl
 ·rw [Lib.decDigits, dif_neg h]; simp
theorem dec_drop {m : Nat} (h : ¬ m < 10) : (Lib.decDigits m).dropLast = Lib.decDigits (m / 10) := by
 rw [Lib.decDigits, dif_neg h]; simp
theorem dec_drop0 {m : Nat} (h : m < 10) : (Lib.decDigits m).dropLast = [] := by
 rw [Lib.decDigits, dif_pos h]; rfl
theorem tm10 (a : Nat) : Int.tmod (a : Int) 10 = ((a % 10 : Nat) : Int) := by rw [Int.tmod_eq_emod_of_nonneg (by omega)]; omega
theorem td10 (a : Nat) : Int.tdiv (a : Int) 10 = ((a / 10 : Nat) : Int) := by rw [Int.tdiv_eq_ediv_of_nonneg (by omega)]; omega
theorem num05_nat {f n : Nat} (h : n < 9223372036854775808) : exergueref05_Number (f + 1) (n : Int) = some (Lib.decDigits n) := by
 rw [exergueref05_Number.eq_2, dF (by omega)]
 simp only [cond_false]
 generalize hst : (fun (s34 : Int × (List UInt8)) => (bif (decide (s34.1 ≥ 10)) then (bif room (((bytesS (([(IntKind.wrap .u8 ((IntKind.wrap .i64 (48 + ((Int.tmod (IntKind.wrap .i64 (Int.tdiv s34.1 10)) 10))))))] : List Int)))).length + s34.2.length) then (some (.inl ((IntKind.wrap .i64 (Int.tdiv s34.1 10)), (((bytesS (([(IntKind.wrap .u8 ((IntKind.wrap .i64 (48 + ((Int.tmod (IntKind.wrap .i64 (Int.tdiv s34.1 10)) 10))))))] : List Int)))) ++ s34.2)))) else none) else (some (.inr s34.2)) : Option ((Int × List UInt8) ⊕ (List UInt8)))) = step
 have key : ∀ (m : Nat) (s : List UInt8) (f : Nat), m < f → m < 9223372036854775808 → s.length + Lib.nDigits m ≤ 1000 → loopN step f ((m : Int), s) = some ((Lib.decDigits m).dropLast ++ s) := by
  intro m
  induction m using Nat.strongRecOn with
  | _ m ih =>
   intro s f hf hm hs
   obtain ⟨f, rfl⟩ : ∃ g, f = g + 1 := ⟨f - 1, by omega⟩
   by_cases h10 : m < 10
   ·rw [loopN_out (o := s)]
    ·rw [dec_drop0 h10]; rfl
    ·subst hst; simp only; rw [dF (by omega)]; rfl
   ·rw [Lib.nDigits_big h10] at hs
    rw [loopN_next (s' := (((m / 10 : Nat) : Int), UInt8.ofNat (48 + m / 10 % 10) :: s)), ih (m / 10) (by omega) _ _ (by omega) (by omega) (by simp; omega)]
    ·rw [dec_drop h10]
     conv => rhs; rw [← dec_last (m := m / 10)]
     simp
    ·subst hst
     simp only
     rw [dT (by omega), td10, w64 (n := ((m / 10 : Nat) : Int)) (by omega) (by omega), tm10, w64 (by omega) (by omega), add48, w8c (by omega)]
     simp only [bytesS, List.map_cons, List.map_nil, Int.toNat_natCast]
     rw [room_of (by simp; omega)]; rfl
 rw [tm10, w64 (by omega) (by omega), add48, w8c (by omega)]
 have h20 := Lib.nDigits_le20 n (by omega)
 rw [key n _ big (by unfold big; omega) h (by simp [bytesS]; omega)]
 simp only [bytesS, List.map_cons, List.map_nil, Int.toNat_natCast, Option.bind_some, dec_last]
theorem num05_int {n : Int} (h0 : -9223372036854775807 ≤ n) (h1 : n ≤ 9223372036854775807) : exergueref05_Number big n = some (Lib.itoa n) := by
 unfold Lib.itoa
 by_cases c : n < 0
 ·rw [show big = 18446744073709551614 + 1 + 1 from rfl, exergueref05_Number.eq_2, dT c, if_pos c]
  simp only [cond_true]
  rw [w64 (by omega) (by omega), show (0 - n : Int) = ((n.natAbs : Nat) : Int) by omega, num05_nat (by omega)]
  have h20 := Lib.nDigits_le20 n.natAbs (by omega)
  simp only [Option.bind_some]
  rw [room_of (by simp [Lib.decDigits_length]; omega)]; rfl
 ·rw [if_neg c, show n = ((n.toNat : Nat) : Int) by omega, show big = 18446744073709551615 + 1 from rfl, num05_nat (by omega)]; rfl
/-! Conditions as texts: what both readers come to. -/
def isB (c : UInt8) : Bool := decide (c.toNat = 32)
def isD (c : UInt8) : Bool := decide (48 ≤ c.toNat ∧ c.toNat ≤ 57)
def isL (c : UInt8) : Bool := decide (97 ≤ c.toNat ∧ c.toNat ≤ 122)
def isW (c : UInt8) : Bool := decide (97 ≤ c.toNat ∧ c.toNat ≤ 122 ∨ 65 ≤ c.toNat ∧ c.toNat ≤ 90)
def sk (t : List UInt8) : List UInt8 := t.dropWhile isB
def valB (d : List UInt8) : Int := d.foldl (fun a c => a * 10 + ((c.toNat : Int) - 48)) 0
def badNum (least : Int) (d : List UInt8) : Bool := decide (d.length = 0) || (decide (d.length > 9) || ((decide (d.length > 1) && decide (d.head? = some 48)) || decide (valB d < least)))
def numG (least : Int) (t : List UInt8) : Option (Int × List UInt8) := if badNum least (t.takeWhile isD) = true then none else some (valB (t.takeWhile isD), sk (t.dropWhile isD))
def sgn (x t : List UInt8) : Option (List UInt8) := if x.isPrefixOf t = true then some (sk (t.drop x.length)) else none
def rng (t : List UInt8) : Option (St80 × List UInt8) := (numG 0 t).bind fun a => match sgn [46, 46] a.2 with
 | some t2 => (numG (a.1 + 1) t2).map fun b => (⟨a.1, b.1⟩, b.2)
 | none => some (⟨a.1, a.1⟩, a.2)
def rngs : Nat → List UInt8 → Option (List St80 × List UInt8)
 | 0, _ => none
 | n + 1, t => (rng t).bind fun r => match sgn [44] r.2 with
  | some t2 => (rngs n t2).map fun l => (r.1 :: l.1, l.2)
  | none => some ([r.1], r.2)
def isOp (c : UInt8) : Bool := [110, 105, 118, 119, 102, 116, 99, 101].contains c
def opG (t : List UInt8) : Option (UInt8 × List UInt8) := match t with
 | c :: u => if isL c = true ∧ (u.takeWhile isL) = [] ∧ isOp c = true then some (c, sk u) else none
 | [] => none
def modG (t : List UInt8) : Option (Int × List UInt8) := match sgn [37] t with
 | some t2 => numG 1 t2
 | none => some (0, t)
def signG (t : List UInt8) : Option (Bool × List UInt8) := match sgn [61] t with
 | some t2 => some (false, t2)
 | none => (sgn [33, 61] t).map fun t2 => (true, t2)
def relG (t : List UInt8) : Option (St75 × List UInt8) :=
 (opG t).bind fun c => (modG c.2).bind fun m => (signG m.2).bind fun s => (rngs 1000 s.2).map fun r => (⟨(c.1.toNat : Int), m.1, s.1, r.1⟩, r.2)
def condG : Nat → List UInt8 → Option (List (List St75))
 | 0, _ => none
 | n + 1, t => (relG t).bind fun x => if x.2 = [] then some [[x.1]] else
   if x.2.takeWhile isL = [97, 110, 100] then (condG n (sk (x.2.dropWhile isL))).bind fun c => match c with
    | r :: l => some ((x.1 :: r) :: l)
    | [] => none
   else if x.2.takeWhile isL = [111, 114] then (condG n (sk (x.2.dropWhile isL))).map fun c => [x.1] :: c
   else none
def fl (l : List St75) : Bool := l.any (fun x => decide (x.R_.length > 20)) || decide (l.length > 20)
def many (c : List (List St75)) : Bool := fl c.flatten
/-! Places in a text. -/
structure At (s : List UInt8) (p : Int) (t : List UInt8) : Prop where
 ex : ∃ pre bl : List UInt8, s = pre ++ (bl ++ t) ∧ (∀ c ∈ bl, isB c = true) ∧ p = pre.length
 nb : sk t = t
theorem tw_bl : ∀ (bl t : List UInt8), (∀ c ∈ bl, isB c = true) → sk t = t → (bl ++ t).takeWhile isB = bl
 | [], [], _, _ => rfl
 | [], c :: t, _, h => by
  cases hb : isB c with
  | false => simp [List.takeWhile_cons, hb]
  | true =>
   unfold sk at h
   rw [List.dropWhile_cons, if_pos hb] at h
   have h2 := List.Sublist.length_le (List.dropWhile_sublist isB (l := t))
   have h3 := congrArg List.length h
   simp at h3; omega
 | c :: bl, t, h, h2 => by
  have h1 := h c (List.mem_cons_self ..)
  rw [List.cons_append, List.takeWhile_cons, if_pos h1, tw_bl bl t (fun x hx => h x (List.mem_cons_of_mem _ hx)) h2]
theorem sk_sk (t : List UInt8) : sk (sk t) = sk t := by
 unfold sk
 induction t with
 | nil => rfl
 | cons c t ih =>
  cases hb : isB c with
  | true => rw [List.dropWhile_cons, if_pos hb]; exact ih
  | false => rw [List.dropWhile_cons, if_neg (by simp [hb]), List.dropWhile_cons, if_neg (by simp [hb])]
theorem sk_split (t : List UInt8) : ∃ bl, t = bl ++ sk t ∧ ∀ c ∈ bl, isB c = true := by
 refine ⟨t.takeWhile isB, (List.takeWhile_append_dropWhile ..).symm, fun c hc => ?_⟩
 induction t with
 | nil => cases hc
 | cons a t ih =>
  rw [List.takeWhile_cons] at hc
  split at hc
  ·rename_i ha
   rcases List.mem_cons.1 hc with rfl | h
   ·exact ha
   ·exact ih h
  ·cases hc
theorem At.of {s pre t : List UInt8} (h : s = pre ++ t) : At s (pre.length : Int) (sk t) := by
 obtain ⟨bl, h1, h2⟩ := sk_split t
 exact ⟨⟨pre, bl, by rw [h]; exact congrArg _ h1, h2, rfl⟩, sk_sk t⟩
theorem At.len {s : List UInt8} {p : Int} {t : List UInt8} (h : At s p t) : 0 ≤ p ∧ p + t.length ≤ s.length := by
 obtain ⟨⟨pre, bl, rfl, _, rfl⟩, _⟩ := h
 simp; omega
theorem scan_loop {s : List UInt8} (test : UInt8 → Bool) {step : Int → Option (Int ⊕ Int)} (hs : ∀ pre c suf, s = pre ++ c :: suf → step (pre.length : Int) = some (if test c = true then .inl (((pre ++ [c]).length : Int)) else .inr (pre.length : Int)))
  (he : step (s.length : Int) = some (.inr (s.length : Int))) (hl : s.length ≤ 1000000) {pre t : List UInt8} (h : s = pre ++ t) : loopN step big (pre.length : Int) = some (((pre ++ t.takeWhile test).length : Nat) : Int) := by
 have key : ∀ (t pre : List UInt8) (n : Nat), s = pre ++ t → t.length < n → loopN step n (pre.length : Int) = some (((pre ++ t.takeWhile test).length : Nat) : Int) := by
  intro t
  induction t with
  | nil =>
   intro pre n hx hn
   obtain ⟨n, rfl⟩ : ∃ m, n = m + 1 := ⟨n - 1, by simp at hn; omega⟩
   rw [List.append_nil] at hx; subst hx
   rw [loopN_out he]; simp
  | cons c t ih =>
   intro pre n hx hn
   obtain ⟨n, rfl⟩ : ∃ m, n = m + 1 := ⟨n - 1, by simp at hn; omega⟩
   have := hs pre c t hx
   cases hc : test c with
   | true =>
    rw [hc] at this
    rw [loopN_next this, ih (pre ++ [c]) n (by rw [hx]; simp) (by simp at hn; omega), List.takeWhile_cons, if_pos hc]
    simp
   | false =>
    rw [hc] at this
    rw [loopN_out this, List.takeWhile_cons, if_neg (by simp [hc])]; simp
 refine key t pre big h ?_
 have : t.length ≤ s.length := by rw [h]; simp
 unfold big; omega
theorem getD_mid {pre suf : List UInt8} {c : UInt8} : (pre ++ c :: suf).getD ((pre.length : Int)).toNat 0 = c := by
 rw [Int.toNat_natCast]; simp [List.getD]
theorem w_mid6 {pre suf : List UInt8} {c : UInt8} (h : (pre ++ c :: suf).length ≤ 1000000) : IntKind.wrap .i64 ((pre.length : Int) + 1) = ((pre ++ [c]).length : Int) := w_mid (by omega : (pre ++ c :: suf).length ≤ 4611686018427387904)
theorem tw_split (p : UInt8 → Bool) (t : List UInt8) : t = t.takeWhile p ++ t.dropWhile p := (List.takeWhile_append_dropWhile ..).symm
theorem cut_mid {pre a t : List UInt8} : cut (pre ++ (a ++ t)) (pre.length : Int) (((pre ++ a).length : Nat) : Int) = a := by
 simp only [cut, Int.toNat_natCast]
 rw [← List.append_assoc, List.take_left']
 ·simp
 ·rfl
theorem cut_end {pre t : List UInt8} : cut (pre ++ t) (pre.length : Int) ((pre ++ t).length : Int) = t := by
 unfold cut
 rw [Int.toNat_natCast, Int.toNat_natCast, List.take_length]; simp
theorem pre_take {x t : List UInt8} : x.isPrefixOf t = true ↔ t.take x.length = x := by
 rw [List.isPrefixOf_iff_prefix, List.prefix_iff_eq_take]
 exact eq_comm
/-! The document's own reader. -/
theorem rover_of {s pre t : List UInt8} (hl : s.length ≤ 1000000) (h : s = pre ++ t) : exergueref11_over s (pre.length : Int) = some (((pre ++ t.takeWhile isB).length : Nat) : Int) := by
 unfold exergueref11_over
 rw [scan_loop isB (s := s) (fun pre c suf hx => ?_) ?_ hl h]
 ·rfl
 ·rw [lt_end]; rfl
 ·have hl2 := hl
  rw [hx] at hl2
  rw [hx, lt_mid, inR_mid, getD_mid, w_mid6 hl2]
  unfold isB
  by_cases hc : c.toNat = 32
  ·have : ((c.toNat : Nat) : Int) = 32 := by omega
   simp [hc, joinX]
  ·have : ¬ ((c.toNat : Nat) : Int) = 32 := by omega
   simp [hc, this, joinX]
theorem At.over {s t : List UInt8} {p : Int} (hl : s.length ≤ 1000000) (h : At s p t) : ∃ pre, s = pre ++ t ∧ exergueref11_over s p = some (pre.length : Int) := by
 obtain ⟨⟨pre, bl, h1, h2, rfl⟩, h3⟩ := h
 refine ⟨pre ++ bl, by rw [h1]; simp, ?_⟩
 rw [rover_of hl h1, tw_bl bl t h2 h3]
theorem rword_of {s pre t : List UInt8} (hl : s.length ≤ 1000000) (h : s = pre ++ t) : exergueref11_word s (pre.length : Int) = some (((pre ++ t.takeWhile isL).length : Nat) : Int) := by
 unfold exergueref11_word
 rw [scan_loop isL (s := s) (fun pre c suf hx => ?_) ?_ hl h]
 ·rfl
 ·rw [lt_end]; rfl
 ·have hl2 := hl
  rw [hx] at hl2
  rw [hx, lt_mid, inR_mid, getD_mid, w_mid6 hl2]
  unfold isL
  by_cases h1 : 97 ≤ c.toNat
  ·by_cases h2 : c.toNat ≤ 122
   ·rw [dT (show ((c.toNat : Nat) : Int) ≥ 97 by omega), dT (show ((c.toNat : Nat) : Int) ≤ 122 by omega), dT ⟨h1, h2⟩]; rfl
   ·rw [dT (show ((c.toNat : Nat) : Int) ≥ 97 by omega), dF (show ¬ ((c.toNat : Nat) : Int) ≤ 122 by omega), dF (show ¬ (97 ≤ c.toNat ∧ c.toNat ≤ 122) from fun h => h2 h.2)]; rfl
  ·rw [dF (show ¬ ((c.toNat : Nat) : Int) ≥ 97 by omega), dF (show ¬ (97 ≤ c.toNat ∧ c.toNat ≤ 122) from fun h => h1 h.1)]; rfl
theorem rsign_of {s pre t x : List UInt8} (hl : s.length ≤ 1000000) (hx : x.length ≤ 100) (h : s = pre ++ t) : exergueref11_sign s (pre.length : Int) x = some (x.isPrefixOf t) := by
 unfold exergueref11_sign
 have hlen : pre.length + t.length = s.length := by rw [h]; simp
 rw [w64 (by omega) (by omega)]
 by_cases c : x.length ≤ t.length
 ·rw [dT (by omega), inS_of (by omega) (by omega) (by omega)]
  simp only [cond_true, Option.bind_some]
  have e : cut s (pre.length : Int) ((pre.length : Int) + (x.length : Int)) = t.take x.length := by
   subst h
   unfold cut
   rw [show ((pre.length : Int) + (x.length : Int)).toNat = pre.length + x.length by omega, Int.toNat_natCast, List.take_length_add_append]
   simp
  rw [e]
  congr 1
  rw [Bool.eq_iff_iff, beq_iff_eq, pre_take]
 ·rw [dF (by omega)]
  simp only [cond_false, Option.bind_some]
  congr 1
  symm
  rw [Bool.eq_false_iff]
  intro h2
  have h3 := congrArg List.length (pre_take.1 h2)
  rw [List.length_take] at h3; omega
theorem valB_snoc (d : List UInt8) (c : UInt8) : valB (d ++ [c]) = valB d * 10 + ((c.toNat : Int) - 48) := by simp [valB]
theorem valB_bound : ∀ (d : List UInt8), (∀ c ∈ d, isD c = true) → 0 ≤ valB d ∧ valB d < ((10 ^ d.length : Nat) : Int) := by
 intro d
 have key : ∀ (r d : List UInt8), r = d.reverse → (∀ c ∈ d, isD c = true) → 0 ≤ valB d ∧ valB d < ((10 ^ d.length : Nat) : Int) := by
  intro r
  induction r with
  | nil =>
   intro d hd _
   have : d = [] := by simpa using hd.symm
   subst this; simp [valB]
  | cons c r ih =>
   intro d hd h
   have e : d = r.reverse ++ [c] := by
    have := congrArg List.reverse hd
    simpa using this.symm
   have hc := h c (by rw [e]; simp)
   simp only [isD, decide_eq_true_eq] at hc
   have := ih r.reverse (by simp) (fun x hx => h x (by rw [e]; simp at hx ⊢; exact .inl hx))
   rw [e, valB_snoc, List.length_append, Nat.pow_add]
   simp only [List.length_cons, List.length_nil, Nat.pow_one, Nat.zero_add]
   omega
 exact key _ d rfl
theorem tw_all (p : UInt8 → Bool) (t : List UInt8) : ∀ c ∈ t.takeWhile p, p c = true := by
 intro c hc
 induction t with
 | nil => cases hc
 | cons a t ih =>
  rw [List.takeWhile_cons] at hc
  split at hc
  ·rename_i ha
   rcases List.mem_cons.1 hc with rfl | h
   ·exact ha
   ·exact ih h
  ·cases hc
theorem pow9 {n : Nat} (h : n ≤ 9) : 10 ^ n ≤ 1000000000 := Nat.pow_le_pow_right (by decide) h
theorem rnum_of {s t : List UInt8} {p least : Int} (hl : s.length ≤ 1000000) (h : At s p t) :
  ∃ o, exergueref11_number s p least = some o ∧ (match numG least t with | some r => o.1 = r.1 ∧ 0 ≤ r.1 ∧ r.1 < 1000000000 ∧ At s o.2 r.2 ∧ r.2.length < t.length | none => o.1 = -1) := by
 obtain ⟨pre, h1, h2⟩ := h.over hl
 unfold exergueref11_number
 rw [h2]
 simp only [Option.bind_some]
 have hlen : pre.length + t.length = s.length := by rw [h1]; simp
 have hd := tw_all isD t
 have hsp := tw_split isD t
 have hdl : (t.takeWhile isD).length ≤ t.length := List.Sublist.length_le (List.takeWhile_sublist isD)
 have hloop : ∀ {O : Type} (k : Int × Int → Option O) {step : Int × Int → Option ((Int × Int) ⊕ (Int × Int))}, (∀ q : Int × Int, step q = (Option.bind (Option.bind (bif (decide (q.1 < (s.length : Int))) then (bif inR q.1 s.length then (bif (decide (((((s.getD (q.1 : Int).toNat 0).toNat : Nat) : Int)) ≥ 48)) then (bif inR q.1 s.length then (some ((decide (((((s.getD (q.1 : Int).toNat 0).toNat : Nat) : Int)) ≤ 57)))) else none) else (some false)) else none) else (some false)) fun (s415 : Bool) => (bif s415 then (some (.inl ())) else (some (.inr (.inr (q.1, q.2)))))) (joinX fun (s402 : Unit) => (Option.bind (bif (decide ((IntKind.wrap .i64 (q.1 - pre.length)) < 9)) then (bif inR q.1 s.length then (some ((IntKind.wrap .i64 ((IntKind.wrap .i64 (q.2 * 10)) + ((IntKind.wrap .i64 ((IntKind.wrap .u8 (((((s.getD (q.1 : Int).toNat 0).toNat : Nat) : Int)) - 48))))))))) else none) else (some q.2)) fun (s438 : Int) => (some (.inl ((IntKind.wrap .i64 (q.1 + 1)), s438))))))) →
   loopN step big ((pre.length : Int), 0) = some ((((pre ++ t.takeWhile isD).length : Nat) : Int), valB ((t.takeWhile isD).take 9)) := by
  intro O k step hst
  have key : ∀ (u a : List UInt8) (n : Nat), t = a ++ u → (∀ c ∈ a, isD c = true) → u.length < n → loopN step n (((pre ++ a).length : Nat), valB (a.take 9)) = some ((((pre ++ (a ++ u.takeWhile isD)).length : Nat) : Int), valB ((a ++ u.takeWhile isD).take 9)) := by
   intro u
   induction u with
   | nil =>
    intro a n ha had hn
    obtain ⟨n, rfl⟩ : ∃ m, n = m + 1 := ⟨n - 1, by simp at hn; omega⟩
    rw [loopN_out (o := ((((pre ++ a).length : Nat) : Int), valB (a.take 9)))]
    ·simp
    ·rw [hst]
     simp only
     rw [dF (by rw [h1, ha]; simp)]; rfl
   | cons c u ih =>
    intro a n ha had hn
    obtain ⟨n, rfl⟩ : ∃ m, n = m + 1 := ⟨n - 1, by simp at hn; omega⟩
    have hs2 : s = (pre ++ a) ++ c :: u := by rw [h1, ha]; simp
    have hl2 := hl
    rw [hs2] at hl2
    cases hc : isD c with
    | false =>
     rw [loopN_out (o := ((((pre ++ a).length : Nat) : Int), valB (a.take 9))), List.takeWhile_cons, if_neg (by simp [hc])]
     ·simp
     ·rw [hst]
      simp only
      rw [hs2, lt_mid, inR_mid, getD_mid]
      simp only [isD, decide_eq_false_iff_not] at hc
      by_cases g1 : 48 ≤ c.toNat
      ·rw [dT (show ((c.toNat : Nat) : Int) ≥ 48 by omega), dF (show ¬ ((c.toNat : Nat) : Int) ≤ 57 by omega)]; rfl
      ·rw [dF (show ¬ ((c.toNat : Nat) : Int) ≥ 48 by omega)]; rfl
    | true =>
     have had2 : ∀ x ∈ a ++ [c], isD x = true := by
      intro x hx
      rcases List.mem_append.1 hx with h | h
      ·exact had x h
      ·rw [List.mem_singleton.1 h]; exact hc
     rw [loopN_next (s' := ((((pre ++ (a ++ [c])).length : Nat) : Int), valB ((a ++ [c]).take 9))), ih (a ++ [c]) n (by rw [ha]; simp) had2 (by simp at hn; omega), List.takeWhile_cons, if_pos hc]
     ·simp
     ·have hb := valB_bound (a.take 9) (fun x hx => had x (List.mem_of_mem_take hx))
      have hp9 := pow9 (n := (a.take 9).length) (by simp; omega)
      rw [hst]
      simp only
      rw [hs2, lt_mid, inR_mid, getD_mid, w_mid6 hl2]
      simp only [isD, decide_eq_true_eq] at hc
      rw [dT (show ((c.toNat : Nat) : Int) ≥ 48 by omega), dT (show ((c.toNat : Nat) : Int) ≤ 57 by omega)]
      simp only [cond_true, Option.bind_some, joinX]
      have e0 : IntKind.wrap .i64 ((((pre ++ a).length : Nat) : Int) - pre.length) = (a.length : Int) := by
       simp at hl2
       rw [w64 (by simp; omega) (by simp; omega)]; simp; omega
      rw [e0]
      by_cases g : a.length < 9
      ·rw [dT (by omega), w8 (n := (c.toNat : Int) - 48) (by omega) (by omega), w64 (n := (c.toNat : Int) - 48) (by omega) (by omega), w64 (n := valB (List.take 9 a) * 10) (by omega) (by omega), w64 (by omega) (by omega)]
       simp only [cond_true, Option.bind_some]
       rw [List.take_of_length_le (by omega : a.length ≤ 9), List.take_of_length_le (by simp; omega : (a ++ [c]).length ≤ 9), valB_snoc]
       simp [List.append_assoc]
      ·rw [dF (by omega)]
       simp only [cond_false, Option.bind_some]
       rw [List.take_append_of_le_length (by omega)]
       simp [List.append_assoc]
  have := key t [] big rfl (by simp) (by unfold big; omega)
  simpa [valB] using this
 rw [hloop (fun _ => some ()) (fun q => rfl)]
 simp only [Option.bind_some]
 have e1 : IntKind.wrap .i64 ((((pre ++ t.takeWhile isD).length : Nat) : Int) - pre.length) = ((t.takeWhile isD).length : Int) := by
  rw [List.length_append, w64 (by omega) (by omega)]; omega
 rw [e1]
 have e2 : decide (((((pre ++ t.takeWhile isD).length : Nat) : Int)) = (pre.length : Int)) = decide ((t.takeWhile isD).length = 0) := decide_eq_decide.2 (by rw [List.length_append]; omega)
 rw [e2]
 have hfin : ∀ b : Bool, b = badNum least (t.takeWhile isD) → (b = false → ((t.takeWhile isD).length ≤ 9 ∧ 0 < (t.takeWhile isD).length)) → ∃ o, Option.bind (Option.bind (some b) fun (s500 : Bool) => (bif s500 then (some (.inr ((-1), (pre.length : Int)))) else (some (.inl ())))) (joinX fun (s482 : Unit) => (some (valB ((t.takeWhile isD).take 9), (((pre ++ t.takeWhile isD).length : Nat) : Int)))) = some o ∧
   (match numG least t with | some r => o.1 = r.1 ∧ 0 ≤ r.1 ∧ r.1 < 1000000000 ∧ At s o.2 r.2 ∧ r.2.length < t.length | none => o.1 = -1) := by
  rintro b hb hb2
  unfold numG
  rw [← hb]
  cases b with
  | true => exact ⟨_, rfl, rfl⟩
  | false =>
   obtain ⟨g1, g2⟩ := hb2 rfl
   refine ⟨_, rfl, ?_⟩
   rw [if_neg (by simp)]
   have hbd := valB_bound _ hd
   have hp9 := pow9 g1
   rw [List.take_of_length_le g1]
   refine ⟨rfl, hbd.1, by omega, At.of (by rw [h1, List.append_assoc, List.takeWhile_append_dropWhile]), ?_⟩
   have g3 := List.Sublist.length_le (List.dropWhile_sublist isB (l := t.dropWhile isD))
   have g4 := congrArg List.length hsp
   rw [List.length_append] at g4
   show (sk (t.dropWhile isD)).length < t.length
   unfold sk
   omega
 have hin : 0 < t.length → inR (pre.length : Int) s.length = true := fun h => inR_nat (by omega)
 by_cases c1 : (t.takeWhile isD).length = 0
 ·rw [dT c1]
  exact hfin true (by simp [badNum, c1]) (by simp)
 ·rw [dF c1]
  simp only [cond_false]
  by_cases c2 : (t.takeWhile isD).length > 9
  ·rw [dT (show ((t.takeWhile isD).length : Int) > 9 by omega)]
   exact hfin true (by simp [badNum, c2]) (by simp)
  ·rw [dF (show ¬ ((t.takeWhile isD).length : Int) > 9 by omega), hin (by omega)]
   simp only [cond_false, cond_true]
   obtain ⟨x, u, hxu⟩ : ∃ x u, t = x :: u := by
    cases t with
    | nil => simp at c1
    | cons x u => exact ⟨x, u, rfl⟩
   have hgx : s.getD ((pre.length : Int)).toNat 0 = x := by rw [h1, hxu]; exact getD_mid
   rw [hgx]
   have hhd : (t.takeWhile isD).head? = some x := by
    rw [hxu, List.takeWhile_cons] at c1 ⊢
    split
    ·rfl
    ·rename_i hx; rw [if_neg hx] at c1; simp at c1
   have hv : valB ((t.takeWhile isD).take 9) = valB (t.takeWhile isD) := by rw [List.take_of_length_le (by omega)]
   by_cases c3 : x = 48
   ·have e3 : decide (((x.toNat : Nat) : Int) = 48) = true := by subst c3; rfl
    rw [e3]
    simp only [cond_true]
    by_cases c4 : (t.takeWhile isD).length > 1
    ·rw [dT (show ((t.takeWhile isD).length : Int) > 1 by omega)]
     exact hfin true (by simp [badNum, c1, c2, c4, hhd, c3]) (by simp)
    ·rw [dF (show ¬ ((t.takeWhile isD).length : Int) > 1 by omega)]
     simp only [cond_false]
     exact hfin _ (by rw [hv]; simp [badNum, c1, c2, c4, hhd, c3]) (fun _ => ⟨by omega, by omega⟩)
   ·have e3 : decide (((x.toNat : Nat) : Int) = 48) = false := dF (fun h => c3 (by
     have h48 : (48 : UInt8).toNat = 48 := rfl
     exact UInt8.toNat_inj.1 (by omega)))
    rw [e3]
    simp only [cond_false]
    exact hfin _ (by rw [hv]; simp [badNum, c1, c2, hhd, c3]) (fun _ => ⟨by omega, by omega⟩)
theorem pre_split {x t : List UInt8} (h : x.isPrefixOf t = true) : t = x ++ t.drop x.length := by
 have := pre_take.1 h
 conv => lhs; rw [← List.take_append_drop x.length t, this]
theorem At.sgn {s pre t x : List UInt8} (h : s = pre ++ t) (hx : x.isPrefixOf t = true) : At s ((pre.length : Int) + (x.length : Int)) (sk (t.drop x.length)) := by
 have h2 : s = (pre ++ x) ++ t.drop x.length := by rw [h, List.append_assoc, ← pre_split hx]
 have := At.of h2
 rw [List.length_append] at this
 rwa [show (((pre.length + x.length : Nat) : Nat) : Int) = (pre.length : Int) + (x.length : Int) by omega] at this
theorem sk_le (t : List UInt8) : (sk t).length ≤ t.length := List.Sublist.length_le (List.dropWhile_sublist isB)
theorem rsgn_of {s t : List UInt8} {p : Int} (hl : s.length ≤ 400) (h : At s p t) : ∃ pos : Int, exergueref11_over s p = some pos ∧ 0 ≤ pos ∧ pos ≤ s.length ∧ At s pos t ∧ (∀ x : List UInt8, x.length ≤ 100 → 0 < x.length → ∃ b, exergueref11_sign s pos x = some b ∧
  (match sgn x t with | some t2 => b = true ∧ At s (pos + (x.length : Int)) t2 ∧ t2.length < t.length ∧ pos + (x.length : Int) ≤ s.length | none => b = false)) := by
 obtain ⟨pre, h1, h2⟩ := h.over (by omega)
 have hlen : pre.length + t.length = s.length := by rw [h1]; simp
 refine ⟨pre.length, h2, by omega, by omega, ⟨⟨pre, [], by simpa using h1, by simp, rfl⟩, h.nb⟩, fun x hx hx0 => ⟨x.isPrefixOf t, rsign_of (by omega) hx h1, ?_⟩⟩
 unfold sgn
 by_cases c : x.isPrefixOf t = true
 ·rw [if_pos c]
  have h3 := congrArg List.length (pre_split c)
  have h4 := sk_le (t.drop x.length)
  rw [List.length_append] at h3
  exact ⟨c, At.sgn h1 c, by omega, by omega⟩
 ·rw [if_neg c]
  exact Bool.eq_false_iff.2 c
theorem rngs_succ (n : Nat) (t : List UInt8) : rngs (n + 1) t = (rng t).bind fun r => match sgn [44] r.2 with
  | some t2 => (rngs n t2).map fun l => (r.1 :: l.1, l.2)
  | none => some ([r.1], r.2) := rfl
def okR {α : Type} (s : List UInt8) (n : Nat) (R : Option (α × List UInt8)) (o : α × Int × Bool) : Prop := match R with
 | some r => o.1 = r.1 ∧ o.2.2 = true ∧ At s o.2.1 r.2 ∧ r.2.length < n
 | none => o.2.2 = false
def rkJ (s : List UInt8) (a1 : Int) (out : List St80) (s146 : Int × Int) : Option ((Int × List St80) ⊕ (List St80 × Int × Bool)) := (bif room (out.length + ([(⟨a1, s146.2⟩ : St80)] : List St80).length) then (Option.bind (exergueref11_over s s146.1) fun y167 => (Option.bind (exergueref11_sign s y167 ([44] : List UInt8)) fun y170 => (bif (!y170) then (some (.inr ((out ++ ([(⟨a1, s146.2⟩ : St80)] : List St80)), s146.1, true))) else (some (.inl ((IntKind.wrap .i64 (y167 + 1)), (out ++ ([(⟨a1, s146.2⟩ : St80)] : List St80)))))))) else none)
theorem rrngs_of {s t : List UInt8} {p : Int} (hl : s.length ≤ 400) (h : At s p t) : ∃ o, exergueref11_ranges s p = some o ∧
  okR s t.length (rngs 1000 t) o := by
 unfold exergueref11_ranges
 obtain ⟨RR, hRR⟩ : ∃ RR, rngs 1000 t = RR := ⟨_, rfl⟩
 rw [hRR]
 refine loopN_run (fun q : Int × List St80 => ∃ t', At s q.1 t' ∧ q.2.length + t'.length ≤ t.length ∧ RR = (rngs (1000 - q.2.length) t').map (fun l => (q.2 ++ l.1, l.2))) (fun q => 1000 - q.2.length)
  (fun o : List St80 × Int × Bool => okR s t.length RR o) ?_ big (p, []) ⟨t, h, by simp, by simp only [List.length_nil, Nat.sub_zero]; rw [hRR]; cases RR <;> rfl⟩ (by simp only; unfold big; omega)
 rintro ⟨q, out⟩ ⟨t', hq, hlen, hI⟩
 simp only at hq hlen hI ⊢
 have htl := h.len
 rw [show 1000 - out.length = (999 - out.length) + 1 by omega] at hI
 rw [rngs_succ] at hI
 simp only [rng] at hI
 obtain ⟨a, ha, ha2⟩ := rnum_of (least := 0) (by omega) hq
 rw [ha]
 simp only [Option.bind_some]
 cases hn : numG 0 t' with
 | none =>
  rw [hn] at ha2 hI
  simp only at ha2
  right
  rw [dT (by omega)]
  refine ⟨_, rfl, ?_⟩
  rw [hI]; rfl
 | some r =>
  rw [hn] at ha2 hI
  simp only at ha2
  obtain ⟨e1, e2, e3, e4, e5⟩ := ha2
  simp only [Option.bind_some] at hI
  rw [dF (by omega)]
  simp only [cond_false]
  obtain ⟨pos, g1, g2, g3, g4, g5⟩ := rsgn_of hl e4
  rw [g1]
  simp only [Option.bind_some]
  obtain ⟨b, b1, b2⟩ := g5 [46, 46] (by decide) (by decide)
  rw [b1]
  simp only [Option.bind_some]
  -- what comes behind the two ends
  have fin : ∀ (nx bb : Int) (t3 : List UInt8), At s nx t3 → t3.length < t'.length → RR = (match sgn [44] t3 with | some t2 => (rngs (999 - out.length) t2).map (fun l : List St80 × List UInt8 => ((⟨a.1, bb⟩ : St80) :: l.1, l.2)) | none => some ([⟨a.1, bb⟩], t3)).map (fun l : List St80 × List UInt8 => (out ++ l.1, l.2)) →
    (∃ s', rkJ s a.1 out (nx, bb) = some (.inl s') ∧
     (∃ t', At s s'.1 t' ∧ s'.2.length + t'.length ≤ t.length ∧ RR = (rngs (1000 - s'.2.length) t').map (fun l => (s'.2 ++ l.1, l.2))) ∧ 1000 - s'.2.length < 1000 - out.length) ∨
    (∃ o, rkJ s a.1 out (nx, bb) = some (.inr o) ∧
     okR s t.length RR o) := by
   intro nx bb t3 hA ht3 hI
   unfold rkJ
   simp only
   rw [room_of (by simp; omega)]
   simp only [cond_true]
   obtain ⟨pos, g1, g2, g3, g4, g5⟩ := rsgn_of hl hA
   rw [g1]
   simp only [Option.bind_some]
   obtain ⟨c, c1, c2⟩ := g5 [44] (by decide) (by decide)
   rw [c1]
   simp only [Option.bind_some]
   cases hs : sgn [44] t3 with
   | none =>
    rw [hs] at c2 hI
    simp only at c2
    subst c2
    right
    refine ⟨_, rfl, ?_⟩
    rw [hI]
    exact ⟨rfl, rfl, hA, by simp only; omega⟩
   | some t4 =>
    rw [hs] at c2 hI
    simp only at c2
    obtain ⟨rfl, c3, c4, c5⟩ := c2
    left
    simp at c3 c5
    refine ⟨_, rfl, ⟨t4, ?_, by simp; omega, ?_⟩, by simp; omega⟩
    ·simp only
     rw [w64 (by omega) (by omega)]; exact c3
    ·simp only
     rw [hI, show 1000 - (out ++ [(⟨a.1, bb⟩ : St80)]).length = 999 - out.length by simp only [List.length_append, List.length_cons, List.length_nil]; omega]
     rw [Option.map_map]
     refine congrArg (fun f => Option.map f (rngs (999 - out.length) t4)) (funext fun l => ?_)
     simp [Function.comp]
  cases hs : sgn [46, 46] r.2 with
  | none =>
   rw [hs] at b2 hI
   simp only at b2 hI
   subst b2
   simp only [Option.bind_some] at hI
   exact fin a.2 a.1 r.2 e4 e5 (by rw [hI, e1])
  | some t2 =>
   rw [hs] at b2 hI
   simp only at b2 hI
   obtain ⟨rfl, c3, c4, c5⟩ := b2
   simp at c3 c5
   simp only [cond_true]
   rw [w64 (n := pos + 2) (by omega) (by omega), w64 (n := a.1 + 1) (by omega) (by omega)]
   obtain ⟨a', ha', ha2'⟩ := rnum_of (least := a.1 + 1) (by omega) c3
   rw [ha']
   simp only [Option.bind_some]
   rw [← e1] at hI
   cases hn2 : numG (a.1 + 1) t2 with
   | none =>
    rw [hn2] at ha2' hI
    simp only at ha2'
    right
    rw [dT (by omega)]
    refine ⟨_, rfl, ?_⟩
    rw [hI]; rfl
   | some r2 =>
    rw [hn2] at ha2' hI
    simp only at ha2'
    obtain ⟨f1, f2, f3, f4, f5⟩ := ha2'
    rw [dF (by omega)]
    simp only [cond_false, Option.bind_some, Option.map_some] at hI ⊢
    exact fin a'.2 a'.1 r2.2 f4 (by omega) (by rw [hI, f1])
theorem rop_eq (c : UInt8) : exergueref11_op ((c.toNat : Nat) : Int) = some (isOp c) := by
 have : ∀ q : Fin 256, exergueref11_op (((UInt8.ofNat q.val).toNat : Nat) : Int) = some (isOp (UInt8.ofNat q.val)) := by decide +kernel
 have h := this ⟨c.toNat, UInt8.toNat_lt c⟩
 simpa using h
theorem opG_none {t : List UInt8} (h : (t.takeWhile isL).length ≠ 1) : opG t = none := by
 unfold opG
 cases t with
 | nil => rfl
 | cons c u =>
  simp only
  split
  ·rename_i h2
   exfalso
   rw [List.takeWhile_cons, if_pos h2.1, h2.2.1] at h
   exact h rfl
  ·rfl
theorem opG_one {t : List UInt8} (h : (t.takeWhile isL).length = 1) : ∃ c u, t = c :: u ∧ opG t = if isOp c = true then some (c, sk u) else none := by
 cases t with
 | nil => simp at h
 | cons c u =>
  refine ⟨c, u, rfl, ?_⟩
  rw [List.takeWhile_cons] at h
  split at h
  ·rename_i hc
   have hu : u.takeWhile isL = [] := by
    apply List.eq_nil_of_length_eq_zero
    rw [List.length_cons] at h; omega
   unfold opG
   simp only [hc, hu, true_and]
  ·simp at h
theorem rrel_of {s t : List UInt8} {p : Int} (hl : s.length ≤ 400) (h : At s p t) : ∃ o, exergueref11_rel s p = some o ∧ okR s t.length (relG t) o := by
 unfold exergueref11_rel
 obtain ⟨pre, h1, h2⟩ := h.over (by omega)
 rw [h2]
 have hlen : pre.length + t.length = s.length := by rw [h1]; simp
 simp only [Option.bind_some]
 rw [rword_of (by omega) h1]
 have htw : (t.takeWhile isL).length ≤ t.length := List.Sublist.length_le (List.takeWhile_sublist isL)
 simp only [Option.bind_some]
 rw [w64 (n := (pre.length : Int) + 1) (by omega) (by omega)]
 unfold relG
 by_cases c1 : (t.takeWhile isL).length = 1
 ·obtain ⟨c, u, hcu, hop⟩ := opG_one c1
  rw [dF (show ¬ ¬ ((((pre ++ t.takeWhile isL).length : Nat) : Int) = (pre.length : Int) + 1) by rw [List.length_append]; omega)]
  have hgx : s.getD ((pre.length : Int)).toNat 0 = c := by rw [h1, hcu]; exact getD_mid
  rw [inR_nat (by rw [hcu] at hlen; simp at hlen; omega), hgx, rop_eq, hop]
  simp only [cond_false, cond_true, Option.bind_some]
  cases ho : isOp c with
  | false => exact ⟨_, rfl, rfl⟩
  | true =>
   simp only [if_true, Option.bind_some, Bool.not_true, cond_false, joinX]
   have hA : At s ((pre.length : Int) + 1) (sk u) := by
    have := At.of (s := s) (pre := pre ++ [c]) (t := u) (by rw [h1, hcu]; simp)
    rwa [show (((pre ++ [c]).length : Nat) : Int) = (pre.length : Int) + 1 by simp] at this
   have hu : (sk u).length < t.length := by have := sk_le u; rw [hcu]; simp; omega
   obtain ⟨pos, g1, g2, g3, g4, g5⟩ := rsgn_of hl hA
   rw [g1]
   simp only [Option.bind_some]
   obtain ⟨b, b1, b2⟩ := g5 [37] (by decide) (by decide)
   rw [b1]
   simp only [Option.bind_some]
   -- behind what is divided by
   have fin : ∀ (nx m : Int) (t3 : List UInt8), (∃ pre3, s = pre3 ++ t3 ∧ nx = pre3.length) → sk t3 = t3 → t3.length < t.length → ∃ o, (Option.bind (Option.bind (exergueref11_sign s nx ([33, 61] : List UInt8)) fun y119 => (bif y119 then (some ((IntKind.wrap .i64 (nx + 1)), true)) else (some (nx, false)))) fun (s114 : Int × Bool) => (Option.bind (exergueref11_sign s s114.1 ([61] : List UInt8)) fun y125 => (bif (!y125) then (some ((⟨((c.toNat : Nat) : Int), m, s114.2, ([] : List St80)⟩ : St75), s114.1, false)) else (Option.bind (exergueref11_ranges s (IntKind.wrap .i64 (s114.1 + 1))) fun y131 => (some ((⟨((c.toNat : Nat) : Int), m, s114.2, y131.1⟩ : St75), y131.2.1, y131.2.2)))))) = some o ∧
     okR s t.length ((signG t3).bind fun sg => (rngs 1000 sg.2).map fun r => ((⟨((c.toNat : Nat) : Int), m, sg.1, r.1⟩ : St75), r.2)) o := by
    rintro nx m t3 ⟨pre3, k1, rfl⟩ hnb hlt
    have hlen3 : pre3.length + t3.length = s.length := by rw [k1]; simp
    rw [rsign_of (by omega) (by simp) k1]
    -- behind the sign
    have last : ∀ (nt : Bool) (t4 : List UInt8) (q : Int), At s q t4 → t4.length < t3.length → ∃ o, (Option.bind (exergueref11_ranges s q) fun y131 => (some ((⟨((c.toNat : Nat) : Int), m, nt, y131.1⟩ : St75), y131.2.1, y131.2.2))) = some o ∧
      okR s t.length ((rngs 1000 t4).map fun r => ((⟨((c.toNat : Nat) : Int), m, nt, r.1⟩ : St75), r.2)) o := by
     intro nt t4 q hq h4
     obtain ⟨o, o1, o2⟩ := rrngs_of hl hq
     rw [o1]
     refine ⟨_, rfl, ?_⟩
     cases hr : rngs 1000 t4 with
     | none => rw [hr] at o2; exact o2
     | some r =>
      rw [hr] at o2
      obtain ⟨q1, q2, q3, q4⟩ := o2
      exact ⟨by simp only [q1], q2, q3, by simp only; omega⟩
    by_cases c2 : ([33, 61] : List UInt8).isPrefixOf t3 = true
    ·have e3 := pre_split c2
     have hlt3 := congrArg List.length e3
     simp at hlt3
     have hs61 : sgn [61] t3 = none := by
      unfold sgn
      rw [if_neg]
      rw [e3]; simp
     have hs33 : sgn [33, 61] t3 = some (sk (t3.drop 2)) := by unfold sgn; rw [if_pos c2]; rfl
     unfold signG
     rw [hs61, hs33, c2]
     simp only [cond_true, Option.bind_some, Option.map_some]
     rw [w64 (n := (pre3.length : Int) + 1) (by omega) (by omega)]
     have k2 : s = (pre3 ++ [33]) ++ ([61] ++ t3.drop 2) := by
      rw [k1]
      conv => lhs; rw [e3]
      simp
     have := rsign_of (s := s) (x := [61]) (by omega) (by simp) k2
     rw [show (((pre3 ++ ([33] : List UInt8)).length : Nat) : Int) = (pre3.length : Int) + 1 by simp] at this
     rw [this]
     simp only [Option.bind_some]
     rw [show ([61] : List UInt8).isPrefixOf ([61] ++ t3.drop 2) = true by simp]
     simp only [Bool.not_true, cond_false]
     rw [w64 (by omega) (by omega)]
     refine last true _ _ ?_ ?_
     ·have := At.sgn (s := s) k1 c2
      simpa [Int.add_assoc] using this
     ·have := sk_le (t3.drop 2); simp at this; omega
    ·have hs33 : sgn [33, 61] t3 = none := by unfold sgn; rw [if_neg c2]
     rw [Bool.eq_false_iff.2 c2]
     simp only [cond_false, Option.bind_some]
     rw [rsign_of (by omega) (by simp) k1]
     simp only [Option.bind_some]
     unfold signG
     by_cases c3 : ([61] : List UInt8).isPrefixOf t3 = true
     ·have hs61 : sgn [61] t3 = some (sk (t3.drop 1)) := by unfold sgn; rw [if_pos c3]; rfl
      have hlt3 := congrArg List.length (pre_split c3)
      simp at hlt3
      rw [hs61, c3]
      simp only [Bool.not_true, cond_false, Option.bind_some]
      rw [w64 (by omega) (by omega)]
      refine last false _ _ ?_ ?_
      ·have := At.sgn (s := s) k1 c3
       simpa using this
      ·have := sk_le (t3.drop 1); rw [List.length_drop] at this; omega
     ·have hs61 : sgn [61] t3 = none := by unfold sgn; rw [if_neg c3]
      rw [hs61, hs33, Bool.eq_false_iff.2 c3]
      exact ⟨_, rfl, rfl⟩
   unfold modG
   cases hs : sgn [37] (sk u) with
   | none =>
    rw [hs] at b2
    simp only at b2
    subst b2
    simp only [cond_false, Option.bind_some, joinX]
    have ⟨pre3, k1, k2⟩ := g4.over (by omega)
    refine fin pos 0 (sk u) ⟨pre3, k1, ?_⟩ (sk_sk u) hu
    have hA2 := hA.over (by omega)
    obtain ⟨p5, k5, k6⟩ := hA2
    rw [g1] at k6
    have e5 : pre3 = p5 := List.append_cancel_right (k1.symm.trans k5)
    rw [e5]; exact Option.some.inj k6
   | some t2 =>
    rw [hs] at b2
    simp only at b2
    obtain ⟨rfl, c3, c4, c5⟩ := b2
    simp at c3 c5
    simp only [cond_true]
    rw [w64 (n := pos + 1) (by omega) (by omega)]
    obtain ⟨a', ha', ha2'⟩ := rnum_of (least := 1) (by omega) c3
    rw [ha']
    simp only [Option.bind_some]
    cases hn2 : numG 1 t2 with
    | none =>
     rw [hn2] at ha2'
     simp only at ha2'
     rw [dT (by omega)]
     exact ⟨_, rfl, rfl⟩
    | some r2 =>
     rw [hn2] at ha2'
     simp only at ha2'
     obtain ⟨f1, f2, f3, f4, f5⟩ := ha2'
     rw [dF (by omega)]
     simp only [cond_false, Option.bind_some, joinX]
     obtain ⟨pre3, k1, k2⟩ := f4.over (by omega)
     rw [k2]
     simp only [Option.bind_some, joinX]
     rw [f1]
     exact fin pre3.length r2.1 r2.2 ⟨pre3, k1, rfl⟩ f4.nb (by omega)
 ·rw [dT (show ¬ ((((pre ++ t.takeWhile isL).length : Nat) : Int) = (pre.length : Int) + 1) by rw [List.length_append]; omega), opG_none c1]
  exact ⟨_, rfl, rfl⟩
theorem condG_succ (n : Nat) (t : List UInt8) : condG (n + 1) t = (relG t).bind fun x => if x.2 = [] then some [[x.1]] else
   if x.2.takeWhile isL = [97, 110, 100] then (condG n (sk (x.2.dropWhile isL))).bind fun c => match c with
    | r :: l => some ((x.1 :: r) :: l)
    | [] => none
   else if x.2.takeWhile isL = [111, 114] then (condG n (sk (x.2.dropWhile isL))).map fun c => [x.1] :: c
   else none := rfl
theorem condG_ne : ∀ (n : Nat) (t : List UInt8) (c : List (List St75)), condG n t = some c → c ≠ [] ∧ ∀ row ∈ c, row ≠ []
 | 0, _, _, h => by cases h
 | n + 1, t, c, h => by
  rw [condG_succ] at h
  cases hr : relG t with
  | none => rw [hr] at h; cases h
  | some x =>
   rw [hr] at h
   simp only [Option.bind_some] at h
   split at h
   ·cases h; exact ⟨by simp, by simp⟩
   ·split at h
    ·cases hc : condG n (sk (x.2.dropWhile isL)) with
     | none => rw [hc] at h; cases h
     | some d =>
      rw [hc] at h
      have := condG_ne n _ d hc
      cases d with
      | nil => cases h
      | cons r l =>
       cases h
       refine ⟨by simp, fun row hrow => ?_⟩
       rcases List.mem_cons.1 hrow with rfl | h2
       ·simp
       ·exact this.2 row (List.mem_cons_of_mem _ h2)
    ·split at h
     ·cases hc : condG n (sk (x.2.dropWhile isL)) with
      | none => rw [hc] at h; cases h
      | some d =>
       rw [hc] at h
       have := condG_ne n _ d hc
       cases h
       refine ⟨by simp, fun row hrow => ?_⟩
       rcases List.mem_cons.1 hrow with rfl | h2
       ·simp
       ·exact this.2 row h2
     ·cases h
def glue (c : List (List St75)) (row : List St75) : List (List St75) → List (List St75)
 | r :: l => c ++ ((row ++ r) :: l)
 | [] => c
theorem glue_nil (d : List (List St75)) : glue [] [] d = d := by cases d <;> rfl
theorem fl_snoc (l : List St75) (x : St75) : fl (l ++ [x]) = (fl l || (decide (x.R_.length > 20) || decide (l.length + 1 > 20))) := by
 unfold fl
 rw [List.any_append, List.length_append]
 simp only [List.any_cons, List.any_nil, Bool.or_false, List.length_cons, List.length_nil]
 by_cases h : l.length > 20
 ·have : l.length + (0 + 1) > 20 := by omega
  simp [h]; omega
 ·by_cases h2 : l.length + 1 > 20
  ·simp [h2]
  ·have e1 : decide (l.length > 20) = false := dF h
   have e2 : decide (l.length + (0 + 1) > 20) = false := dF (by omega)
   have e3 : decide (l.length + 1 > 20) = false := dF h2
   rw [e1, e2]
   try rw [e3]
   cases l.any (fun x => decide (x.R_.length > 20)) <;> cases decide (x.R_.length > 20) <;> rfl
def pOut (s : List UInt8) (o : List (List St75) × Int × Int) : Prop :=
 if s.length > 400 then o = ([], 0, 11) else match condG 1000 (sk s) with
  | none => o.1 = [] ∧ o.2.2 = 2
  | some c => o = if many c = true then ([], 0, 11) else (c, 0, 0)
def loopQ' (CC : Option (List (List St75))) : (Bool × List (List St75) × List St75) ⊕ (List (List St75) × Int × Int) → Prop
 | .inl x => CC = some (x.2.1 ++ [x.2.2]) ∧ x.1 = fl (x.2.1.flatten ++ x.2.2) ∧ x.2.1.length ≤ 400
 | .inr r => CC = none ∧ r.1 = [] ∧ r.2.2 = 2
theorem rparse_of {s : List UInt8} : ∃ o, exergueref11_Parse s = some o ∧ pOut s o := by
 unfold exergueref11_Parse pOut
 by_cases hl : s.length > 400
 ·rw [dT (show (s.length : Int) > 400 by omega)]
  simp only [if_pos hl]
  exact ⟨_, rfl, rfl⟩
 ·rw [dF (show ¬ (s.length : Int) > 400 by omega)]
  simp only [cond_false, if_neg hl]
  have hl : s.length ≤ 400 := by omega
  obtain ⟨CC, hCC⟩ : ∃ CC, condG 1000 (sk s) = CC := ⟨_, rfl⟩
  rw [hCC]
  have hbind : ∀ {A B : Type} {x : Option A} {k : A → Option B} {p : A → Prop} {q : B → Prop}, (∃ o, x = some o ∧ p o) → (∀ o, p o → ∃ r, k o = some r ∧ q r) → ∃ r, Option.bind x k = some r ∧ q r := by
   rintro A B x k p q ⟨o, rfl, h⟩ hk
   exact hk o h
  refine hbind (p := loopQ' CC) (loopN_run (fun q : Int × Bool × Int × (List (List St75)) × (List St75) => ∃ t', At s q.2.2.1 t' ∧ q.1 = ((q.2.2.2.1.flatten ++ q.2.2.2.2).length : Int) ∧ q.2.1 = fl (q.2.2.2.1.flatten ++ q.2.2.2.2) ∧ (q.2.2.2.1.flatten ++ q.2.2.2.2).length + t'.length ≤ s.length ∧ q.2.2.2.1.length ≤ q.2.2.2.1.flatten.length ∧
    CC = (condG (1000 - (q.2.2.2.1.flatten ++ q.2.2.2.2).length) t').map (glue q.2.2.2.1 q.2.2.2.2)) (fun q => 1000 - (q.2.2.2.1.flatten ++ q.2.2.2.2).length) _ ?_ big _ ?_ ?_) ?_
  ·rintro ⟨cnt, full, p, c, row⟩ ⟨t', hp, hcnt, hfull, hlen, hcl, hI⟩
   simp only at hp hcnt hfull hlen hcl hI ⊢
   obtain ⟨o, o1, o2⟩ := rrel_of hl hp
   rw [o1]
   simp only [Option.bind_some]
   rw [show 1000 - (c.flatten ++ row).length = (999 - (c.flatten ++ row).length) + 1 by omega, condG_succ] at hI
   cases hr : relG t' with
   | none =>
    rw [hr] at o2 hI
    have o2 : o.2.2 = false := o2
    right
    rw [o2]
    exact ⟨_, rfl, hI, rfl, rfl⟩
   | some x =>
    rw [hr] at o2 hI
    obtain ⟨e1, e2, e3, e4⟩ : o.1 = x.1 ∧ o.2.2 = true ∧ At s o.2.1 x.2 ∧ x.2.length < t'.length := o2
    rw [e2, e1]
    simp only [Bool.not_true, cond_false, Option.bind_some] at hI ⊢
    have hf : (bif full then (some true) else (bif (decide ((x.1.R_.length : Int) > 20)) then (some true) else (some ((decide ((IntKind.wrap .i64 (cnt + 1)) > 20)))))) = some (fl (c.flatten ++ (row ++ [x.1]))) := by
     rw [← List.append_assoc, fl_snoc, hfull, w64 (by omega) (by omega), hcnt]
     cases fl (c.flatten ++ row) with
     | true => rfl
     | false =>
      simp only [cond_false, Bool.false_or]
      by_cases g : x.1.R_.length > 20
      ·rw [dT (show (x.1.R_.length : Int) > 20 by omega), dT g]; rfl
      ·rw [dF (show ¬ (x.1.R_.length : Int) > 20 by omega), dF g]
       simp only [cond_false, Bool.false_or]
       congr 1
       exact decide_eq_decide.2 (by omega)
    rw [hf]
    simp only [Option.bind_some]
    have hrl : row.length ≤ 400 := by simp at hlen; omega
    have hcl2 : c.length ≤ 400 := by simp at hlen; simp at hcl; omega
    rw [room_of (by simp; omega)]
    simp only [cond_true]
    obtain ⟨pre, h1, h2⟩ := e3.over (by omega)
    have hpl : pre.length + x.2.length = s.length := by rw [h1]; simp
    rw [h2]
    simp only [Option.bind_some]
    by_cases hx : x.2 = []
    ·rw [if_pos hx] at hI
     right
     have : x.2.length = 0 := by rw [hx]; rfl
     rw [dT (show (pre.length : Int) = (s.length : Int) by omega)]
     exact ⟨_, rfl, hI, rfl, hcl2⟩
    ·rw [if_neg hx] at hI
     have : x.2.length ≠ 0 := fun h => hx (List.eq_nil_of_length_eq_zero h)
     rw [dF (show ¬ (pre.length : Int) = (s.length : Int) by omega), rword_of (by omega) h1]
     simp only [cond_false, Option.bind_some]
     have htw : (x.2.takeWhile isL).length ≤ x.2.length := List.Sublist.length_le (List.takeWhile_sublist isL)
     rw [inS_of (by omega) (by rw [List.length_append]; omega) (by rw [List.length_append]; omega)]
     have hcut : cut s (pre.length : Int) (((pre ++ x.2.takeWhile isL).length : Nat) : Int) = x.2.takeWhile isL := by
      have h1' : s = pre ++ (x.2.takeWhile isL ++ x.2.dropWhile isL) := by rw [h1, ← tw_split]
      rw [h1']
      exact cut_mid
     rw [hcut]
     have hnx : At s (((pre ++ x.2.takeWhile isL).length : Nat) : Int) (sk (x.2.dropWhile isL)) := At.of (by rw [h1, List.append_assoc, ← tw_split])
     have hsl := sk_le (x.2.dropWhile isL)
     have hsum : (x.2.takeWhile isL).length + (x.2.dropWhile isL).length = x.2.length := by
      conv => rhs; rw [tw_split isL x.2]
      rw [List.length_append]
     simp only [cond_true]
     by_cases ha : x.2.takeWhile isL = [97, 110, 100]
     ·rw [if_pos ha] at hI
      rw [ha]
      left
      refine ⟨_, rfl, ⟨sk (x.2.dropWhile isL), by rw [← ha]; exact hnx, ?_, rfl, ?_, hcl, ?_⟩, ?_⟩
      ·simp only
       rw [w64 (by omega) (by omega), hcnt]; simp [Int.add_assoc]
      ·simp only
       rw [← List.append_assoc, List.length_append]
       simp; simp at hlen; omega
      ·simp only
       rw [hI, show 1000 - (c.flatten ++ (row ++ [x.1])).length = 999 - (c.flatten ++ row).length by simp; omega]
       cases hd : condG (999 - (c.flatten ++ row).length) (sk (x.2.dropWhile isL)) with
       | none => rfl
       | some d =>
        have := (condG_ne _ _ d hd).1
        cases d with
        | nil => exact absurd rfl this
        | cons r l => simp [glue]
      ·simp only
       simp; simp at hlen; omega
     ·rw [if_neg ha] at hI
      by_cases hb : x.2.takeWhile isL = [111, 114]
      ·rw [if_pos hb] at hI
       rw [hb]
       left
       rw [show (([111, 114] : List UInt8) != [97, 110, 100]) = true from rfl, show (([111, 114] : List UInt8) != [111, 114]) = false from rfl, show (([111, 114] : List UInt8) == [111, 114]) = true from rfl, room_of (by simp; omega)]
       refine ⟨_, rfl, ⟨sk (x.2.dropWhile isL), by rw [← hb]; exact hnx, ?_, ?_, ?_, ?_, ?_⟩, ?_⟩
       ·simp only
        rw [w64 (by omega) (by omega), hcnt]; simp [Int.add_assoc]
       ·simp only [List.flatten_append, List.flatten_cons, List.flatten_nil, List.append_nil]
       ·simp only [List.flatten_append, List.flatten_cons, List.flatten_nil, List.append_nil]
        rw [← List.append_assoc, List.length_append]
        simp; simp at hlen; omega
       ·simp at hcl ⊢; omega
       ·simp only [List.flatten_append, List.flatten_cons, List.flatten_nil, List.append_nil]
        rw [hI, show 1000 - (c.flatten ++ (row ++ [x.1])).length = 999 - (c.flatten ++ row).length by simp; omega]
        cases hd : condG (999 - (c.flatten ++ row).length) (sk (x.2.dropWhile isL)) with
        | none => rfl
        | some d =>
         have := (condG_ne _ _ d hd).1
         cases d with
         | nil => exact absurd rfl this
         | cons r l => simp [glue]
       ·simp only [List.flatten_append, List.flatten_cons, List.flatten_nil, List.append_nil]
        simp; simp at hlen; omega
      ·rw [if_neg hb] at hI
       right
       have e5 : (x.2.takeWhile isL != [97, 110, 100]) = true := by simpa using ha
       have e6 : (x.2.takeWhile isL != [111, 114]) = true := by simpa using hb
       rw [e5, e6]
       exact ⟨_, rfl, hI, rfl, rfl⟩
  ·refine ⟨sk s, At.of (s := s) (pre := []) rfl, rfl, rfl, by simpa using sk_le s, by simp, ?_⟩
   simp only [List.flatten_nil, List.append_nil, List.length_nil, Nat.sub_zero]
   rw [hCC]
   cases CC with
   | none => rfl
   | some d => simp [glue_nil]
  ·simp only [List.flatten_nil, List.append_nil, List.length_nil]; unfold big; omega
  ·rintro o ho
   cases o with
   | inr r =>
    obtain ⟨h1, h2, h3⟩ : CC = none ∧ r.1 = [] ∧ r.2.2 = 2 := ho
    subst h1
    exact ⟨r, rfl, h2, h3⟩
   | inl x =>
    obtain ⟨h1, h2, h3⟩ : CC = some (x.2.1 ++ [x.2.2]) ∧ x.1 = fl (x.2.1.flatten ++ x.2.2) ∧ x.2.1.length ≤ 400 := ho
    subst h1
    have hm : many (x.2.1 ++ [x.2.2]) = x.1 := by rw [h2]; unfold many; simp
    simp only [joinX]
    rw [hm]
    cases x.1 with
    | true => exact ⟨_, rfl, rfl⟩
    | false =>
     rw [room_of (by simp; omega)]
     exact ⟨_, rfl, rfl⟩
/-! The program's reader. -/
theorem isW_of_isL {c : UInt8} (h : isL c = true) : isW c = true := by simp only [isL, isW, decide_eq_true_eq] at h ⊢; exact .inl h
theorem word1_eq (c : UInt8) : rule_reader__word_1 ((c.toNat : Nat) : Int) = some (isW c) := by
 have : ∀ q : Fin 256, rule_reader__word_1 (((UInt8.ofNat q.val).toNat : Nat) : Int) = some (isW (UInt8.ofNat q.val)) := by decide +kernel
 have h := this ⟨c.toNat, UInt8.toNat_lt c⟩
 simpa using h
theorem number1_eq (c : UInt8) : rule_reader__number_1 ((c.toNat : Nat) : Int) = some (isD c) := by
 have : ∀ q : Fin 256, rule_reader__number_1 (((UInt8.ofNat q.val).toNat : Nat) : Int) = some (isD (UInt8.ofNat q.val)) := by decide +kernel
 have h := this ⟨c.toNat, UInt8.toNat_lt c⟩
 simpa using h
theorem blank_eq (c : UInt8) : decide (((c.toNat : Nat) : Int) = 32) = isB c := by
 unfold isB
 exact decide_eq_decide.2 (by omega)
theorem run_of {s t : List UInt8} {p : Int} (hl : s.length ≤ 400) (h : At s p t) (test : UInt8 → Bool) {f1 : Int → Option Bool} (hf : ∀ c : UInt8, f1 ((c.toNat : Nat) : Int) = some (test c)) :
  ∃ pre, s = pre ++ t ∧ (Option.bind (loopN (fun (s138 : Int) => (Option.bind (Option.bind (bif (decide (s138 < (s.length : Int))) then (bif inR s138 s.length then (some ((decide (((((s.getD (s138 : Int).toNat 0).toNat : Nat) : Int)) = 32)))) else none) else (some false)) fun (s255 : Bool) => (bif s255 then (some (.inl ())) else (some (.inr (.inr s138))))) (joinX fun (s246 : Unit) => (some (.inl (IntKind.wrap .i64 (s138 + 1))))))) big p) fun (s133 : Int) => (Option.bind (loopN (fun (s443 : Int) => (Option.bind (Option.bind (bif (decide (s443 < (s.length : Int))) then (bif inR s443 s.length then (Option.bind (f1 ((((s.getD (s443 : Int).toNat 0).toNat : Nat) : Int))) fun y602 => (some y602)) else none) else (some false)) fun (s593 : Bool) => (bif s593 then (some (.inl ())) else (some (.inr (.inr s443))))) (joinX fun (s581 : Unit) => (some (.inl (IntKind.wrap .i64 (s443 + 1))))))) big s133) fun (s438 : Int) => (bif inS s133 s438 s.length then (some ((cut s s133 s438), s133)) else none))) = some (t.takeWhile test, (pre.length : Int)) := by
 obtain ⟨⟨pre, bl, h1, h2, rfl⟩, h3⟩ := h
 refine ⟨pre ++ bl, by rw [h1]; simp, ?_⟩
 rw [scan_loop isB (s := s) (fun pre c suf hx => ?_) ?_ (by omega) h1, tw_bl bl t h2 h3]
 ·simp only [Option.bind_some]
  have h1' : s = (pre ++ bl) ++ t := by rw [h1]; simp
  rw [scan_loop test (s := s) (fun pre c suf hx => ?_) ?_ (by omega) h1']
  ·simp only [Option.bind_some]
   have htw : (t.takeWhile test).length ≤ t.length := List.Sublist.length_le (List.takeWhile_sublist test)
   have hlen := congrArg List.length h1'
   rw [List.length_append] at hlen
   rw [inS_of (by omega) (by simp only [List.length_append]; omega) (by simp only [List.length_append] at hlen ⊢; omega)]
   simp only [cond_true]
   congr 2
   have h4 : s = (pre ++ bl) ++ (t.takeWhile test ++ t.dropWhile test) := by rw [h1', ← tw_split]
   rw [h4]
   exact cut_mid
  ·rw [lt_end]; rfl
  ·have hl2 := hl
   rw [hx] at hl2
   rw [hx, lt_mid, inR_mid, getD_mid, w_mid6 (pre := pre) (c := c) (suf := suf) (by omega), hf]
   cases test c <;> rfl
 ·rw [lt_end]; rfl
 ·have hl2 := hl
  rw [hx] at hl2
  rw [hx, lt_mid, inR_mid, getD_mid, w_mid6 (pre := pre) (c := c) (suf := suf) (by omega), blank_eq]
  cases isB c <;> rfl
theorem prefix_eq {x t : List UInt8} (hl : t.length ≤ 1000000) (hx : x.length ≤ 1000000) : strings_HasPrefix t x = some (x.isPrefixOf t) := by
 unfold strings_HasPrefix stringslite_HasPrefix
 by_cases c : x.length ≤ t.length
 ·rw [dT (by omega), inS_of (by omega) (by omega) (by omega)]
  simp only [cond_true, Option.bind_some]
  congr 1
  rw [Bool.eq_iff_iff, beq_iff_eq, pre_take]
  simp [cut]
 ·rw [dF (by omega)]
  simp only [cond_false, Option.bind_some]
  congr 1
  symm
  rw [Bool.eq_false_iff]
  intro h2
  have h3 := congrArg List.length (pre_take.1 h2)
  rw [List.length_take] at h3; omega
theorem eat_of {s t x : List UInt8} {p : Int} (hl : s.length ≤ 400) (hx : x.length ≤ 100) (hx0 : 0 < x.length) (h : At s p t) : ∃ o, rule_reader__eat_s0 x s p = some o ∧
  (match sgn x t with | some t2 => o.1 = true ∧ At s o.2 t2 ∧ t2.length < t.length | none => o.1 = false ∧ At s o.2 t) := by
 unfold rule_reader__eat_s0 rule_reader__run_s1
 obtain ⟨pre, h1, h2⟩ := run_of hl h (fun _ => false) (f1 := rule_reader__eat_1) (fun c => rfl)
 have hlen := congrArg List.length h1
 rw [List.length_append] at hlen
 rw [h2]
 simp only [Option.bind_some]
 rw [inS_of (by omega) (by omega) (by omega)]
 have hc : cut s (pre.length : Int) (s.length : Int) = t := by rw [h1]; exact cut_end
 rw [hc, prefix_eq (by omega) (by omega)]
 simp only [cond_true, Option.bind_some]
 unfold sgn
 by_cases c : x.isPrefixOf t = true
 ·rw [c]
  simp only [if_true, Bool.not_true, cond_false]
  have h3 := congrArg List.length (pre_split c)
  have h4 := sk_le (t.drop x.length)
  rw [List.length_append] at h3
  rw [w64 (by omega) (by omega)]
  exact ⟨_, rfl, rfl, At.sgn h1 c, by omega⟩
 ·rw [Bool.eq_false_iff.2 c]
  exact ⟨_, rfl, rfl, ⟨⟨pre, [], by simpa using h1, by simp, rfl⟩, h.nb⟩⟩
theorem num_of {s t : List UInt8} {p least : Int} (hl : s.length ≤ 400) (h : At s p t) : ∃ o, rule_reader__number_s0 least s p = some o ∧
  (match numG least t with | some r => o.1 = r.1 ∧ o.2.1 = true ∧ 0 ≤ r.1 ∧ r.1 < 1000000000 ∧ At s o.2.2 r.2 ∧ r.2.length < t.length | none => o.2.1 = false) := by
 unfold rule_reader__number_s0 rule_reader__run_s2
 obtain ⟨pre, h1, h2⟩ := run_of hl h isD (f1 := rule_reader__number_1) number1_eq
 have hlen := congrArg List.length h1
 rw [List.length_append] at hlen
 rw [h2]
 simp only [Option.bind_some]
 have hdl : (t.takeWhile isD).length ≤ t.length := List.Sublist.length_le (List.takeWhile_sublist isD)
 have hd := tw_all isD t
 unfold numG
 generalize hD : t.takeWhile isD = d at *
 by_cases c1 : d.length = 0
 ·rw [dT (show (d.length : Int) = 0 by omega), if_pos (by simp [badNum, c1])]
  exact ⟨_, rfl, rfl⟩
 ·rw [dF (show ¬ (d.length : Int) = 0 by omega)]
  by_cases c2 : d.length > 9
  ·rw [dT (show (d.length : Int) > 9 by omega), if_pos (by simp [badNum, c2])]
   exact ⟨_, rfl, rfl⟩
  ·rw [dF (show ¬ (d.length : Int) > 9 by omega)]
   obtain ⟨x, u, hxu⟩ : ∃ x u, d = x :: u := by
    cases d with
    | nil => simp at c1
    | cons x u => exact ⟨x, u, rfl⟩
   have hgx : d.getD ((0 : Int)).toNat 0 = x := by rw [hxu]; rfl
   have hhd : d.head? = some x := by rw [hxu]; rfl
   have hbd := valB_bound d hd
   have hp9 := pow9 (n := d.length) (by omega)
   have hloop : loopN (fun (s93 : Int × Int) => (bif (decide (s93.2 < ((bytesI d).length : Int))) then (bif inR s93.2 (bytesI d).length then (some (.inl ((IntKind.wrap .i64 ((IntKind.wrap .i64 (s93.1 * 10)) + ((IntKind.wrap .i64 ((IntKind.wrap .u8 ((nth (bytesI d) s93.2) - 48))))))), (IntKind.wrap .i64 (s93.2 + 1))))) else none) else (some (.inr s93.1)))) big (0, 0) = some (valB d) := by
    rw [loop_fold (bytesI d) (fun pre => (valB (d.take pre.length), (pre.length : Int))) (valB d)]
    ·simp [valB]
    ·intro pre y suf hy
     have hl2 : (pre ++ y :: suf).length ≤ 4611686018427387904 := by rw [← hy]; simp [bytesI]; omega
     have hpl : pre.length < d.length := by have := congrArg List.length hy; simp [bytesI] at this; omega
     have hyc : y = ((d[pre.length].toNat : Nat) : Int) := by
      have := congrArg (fun l => l[pre.length]?) hy
      simp [bytesI, hpl] at this
      exact this.symm
     have hcd := hd d[pre.length] (List.getElem_mem hpl)
     simp only [isD, decide_eq_true_eq] at hcd
     have hb := valB_bound (d.take pre.length) (fun c hc => hd c (List.mem_of_mem_take hc))
     have hp8 := pow9 (n := (d.take pre.length).length) (by simp; omega)
     simp only
     rw [hy, lt_mid, inR_mid, nth_mid, w_mid hl2]
     rw [hyc, w8 (n := ((d[pre.length].toNat : Nat) : Int) - 48) (by omega) (by omega), w64 (n := ((d[pre.length].toNat : Nat) : Int) - 48) (by omega) (by omega), w64 (n := valB (d.take pre.length) * 10) (by omega) (by omega), w64 (by omega) (by omega)]
     simp only [cond_true]
     rw [List.length_append, List.length_singleton, List.take_add_one, List.getElem?_eq_getElem hpl]
     simp only [Option.toList, valB_snoc]
    ·simp only
     rw [lt_end]
     simp only [cond_false]
     rw [show (bytesI d).length = d.length by simp [bytesI], List.take_length]
    ·simp [bytesI]; omega
   have rest : ∀ b : Bool, b = (decide (d.length > 1) && decide (d.head? = some 48)) → ∃ o, (Option.bind (Option.bind (some b) fun (s48 : Bool) => (bif s48 then (some (.inr ((0 : Int), false, (pre.length : Int)))) else (some (.inl ())))) (joinX fun (s33 : Unit) => (Option.bind (loopN (fun (s93 : Int × Int) => (bif (decide (s93.2 < ((bytesI d).length : Int))) then (bif inR s93.2 (bytesI d).length then (some (.inl ((IntKind.wrap .i64 ((IntKind.wrap .i64 (s93.1 * 10)) + ((IntKind.wrap .i64 ((IntKind.wrap .u8 ((nth (bytesI d) s93.2) - 48))))))), (IntKind.wrap .i64 (s93.2 + 1))))) else none) else (some (.inr s93.1)))) big (0, 0)) fun (s88 : Int) => (bif (decide (s88 < least)) then (some (0, false, (pre.length : Int))) else (some (s88, true, (IntKind.wrap .i64 ((pre.length : Int) + (d.length : Int))))))))) = some o ∧
     (match (if badNum least d = true then none else some (valB d, sk (t.dropWhile isD))) with | some r => o.1 = r.1 ∧ o.2.1 = true ∧ 0 ≤ r.1 ∧ r.1 < 1000000000 ∧ At s o.2.2 r.2 ∧ r.2.length < t.length | none => o.2.1 = false) := by
    intro b hb
    cases b with
    | true =>
     rw [if_pos (by simp only [badNum]; rw [← hb]; simp)]
     exact ⟨_, rfl, rfl⟩
    | false =>
     simp only [Option.bind_some, cond_false, joinX]
     rw [hloop]
     simp only [Option.bind_some]
     by_cases c3 : valB d < least
     ·rw [dT c3, if_pos (by simp [badNum, c3])]
      exact ⟨_, rfl, rfl⟩
     ·rw [dF c3, if_neg (by simp only [badNum]; rw [← hb]; simp [c3]; exact ⟨fun h => c1 (by rw [h]; rfl), by omega⟩)]
      refine ⟨_, rfl, rfl, rfl, hbd.1, by simp only; omega, ?_, ?_⟩
      ·simp only
       rw [w64 (by omega) (by omega), show (pre.length : Int) + (d.length : Int) = (((pre ++ d).length : Nat) : Int) by simp]
       exact At.of (by rw [h1, List.append_assoc, ← hD, ← tw_split])
      ·have g3 := List.Sublist.length_le (List.dropWhile_sublist isB (l := t.dropWhile isD))
       have g4 := congrArg List.length (tw_split isD t)
       rw [List.length_append, hD] at g4
       show (sk (t.dropWhile isD)).length < t.length
       unfold sk
       omega
   simp only [cond_false]
   by_cases c4 : d.length > 1
   ·rw [dT (show (d.length : Int) > 1 by omega), inR_int (by omega) (by omega), hgx]
    simp only [cond_true]
    refine rest _ ?_
    rw [dT c4, hhd, Bool.true_and]
    refine decide_eq_decide.2 ⟨fun h => ?_, fun h => ?_⟩
    ·congr 1
     have : x.toNat = (48 : UInt8).toNat := by
      have : (48 : UInt8).toNat = 48 := rfl
      omega
     exact UInt8.toNat_inj.1 this
    ·have := Option.some.inj h
     subst this; rfl
   ·rw [dF (show ¬ (d.length : Int) > 1 by omega)]
    simp only [cond_false]
    exact rest false (by rw [dF c4]; rfl)
def okI {α : Type} (s : List UInt8) (n : Nat) (R : Option (α × List UInt8)) (v : α) (ok : Bool) (p : Int) : Prop := match R with
 | some r => v = r.1 ∧ ok = true ∧ At s p r.2 ∧ r.2.length < n
 | none => ok = false
theorem irngs_of {s t : List UInt8} {p a b : Int} {c : Bool} (hl : s.length ≤ 400) (h : At s p t) : ∃ o, rule_reader__ranges_s0 s p a b c = some o ∧ okI s t.length (rngs 1000 t) o.2.2 o.1 o.2.1 := by
 unfold rule_reader__ranges_s0
 obtain ⟨RR, hRR⟩ : ∃ RR, rngs 1000 t = RR := ⟨_, rfl⟩
 rw [hRR]
 refine loopN_run (fun q : Int × List St80 => ∃ t', At s q.1 t' ∧ q.2.length + t'.length ≤ t.length ∧ RR = (rngs (1000 - q.2.length) t').map (fun l => (q.2 ++ l.1, l.2))) (fun q => 1000 - q.2.length)
  (fun o : Bool × Int × List St80 => okI s t.length RR o.2.2 o.1 o.2.1) ?_ big (p, []) ⟨t, h, by simp, by simp only [List.length_nil, Nat.sub_zero]; rw [hRR]; cases RR <;> rfl⟩ (by simp only; unfold big; omega)
 rintro ⟨q, out⟩ ⟨t', hq, hlen, hI⟩
 simp only at hq hlen hI ⊢
 have htl := h.len
 rw [show 1000 - out.length = (999 - out.length) + 1 by omega] at hI
 rw [rngs_succ] at hI
 simp only [rng] at hI
 obtain ⟨y, hy, hy2⟩ := num_of (least := 0) hl hq
 rw [hy]
 simp only [Option.bind_some]
 cases hn : numG 0 t' with
 | none =>
  rw [hn] at hy2 hI
  simp only at hy2
  right
  rw [hy2]
  exact ⟨_, rfl, by rw [hI]; rfl⟩
 | some r =>
  rw [hn] at hy2 hI
  simp only at hy2
  obtain ⟨e1, e2, e3, e4, e5, e6⟩ := hy2
  simp only [Option.bind_some] at hI
  rw [e2]
  simp only [cond_true]
  obtain ⟨z, hz, hz2⟩ := eat_of (x := [46, 46]) hl (by decide) (by decide) e5
  rw [hz]
  simp only [Option.bind_some]
  have fin : ∀ (nx bb : Int) (t3 : List UInt8), At s nx t3 → t3.length < t'.length → RR = (match sgn [44] t3 with | some t2 => (rngs (999 - out.length) t2).map (fun l : List St80 × List UInt8 => ((⟨y.1, bb⟩ : St80) :: l.1, l.2)) | none => some ([⟨y.1, bb⟩], t3)).map (fun l : List St80 × List UInt8 => (out ++ l.1, l.2)) →
    (∃ s', (bif room (out.length + ([(⟨y.1, bb⟩ : St80)] : List St80).length) then (Option.bind (rule_reader__eat_s0 ([44] : List UInt8) s nx) fun y200 => (bif (!y200.1) then (some (.inr (true, y200.2, (out ++ ([(⟨y.1, bb⟩ : St80)] : List St80))))) else (some (.inl (y200.2, (out ++ ([(⟨y.1, bb⟩ : St80)] : List St80))))))) else none : Option ((Int × List St80) ⊕ (Bool × Int × List St80))) = some (.inl s') ∧
     (∃ t', At s s'.1 t' ∧ s'.2.length + t'.length ≤ t.length ∧ RR = (rngs (1000 - s'.2.length) t').map (fun l => (s'.2 ++ l.1, l.2))) ∧ 1000 - s'.2.length < 1000 - out.length) ∨
    (∃ o, (bif room (out.length + ([(⟨y.1, bb⟩ : St80)] : List St80).length) then (Option.bind (rule_reader__eat_s0 ([44] : List UInt8) s nx) fun y200 => (bif (!y200.1) then (some (.inr (true, y200.2, (out ++ ([(⟨y.1, bb⟩ : St80)] : List St80))))) else (some (.inl (y200.2, (out ++ ([(⟨y.1, bb⟩ : St80)] : List St80))))))) else none : Option ((Int × List St80) ⊕ (Bool × Int × List St80))) = some (.inr o) ∧ okI s t.length RR o.2.2 o.1 o.2.1) := by
   intro nx bb t3 hA ht3 hI
   rw [room_of (by simp; omega)]
   simp only [cond_true]
   obtain ⟨w, hw, hw2⟩ := eat_of (x := [44]) hl (by decide) (by decide) hA
   rw [hw]
   simp only [Option.bind_some]
   cases hs : sgn [44] t3 with
   | none =>
    rw [hs] at hw2 hI
    simp only at hw2
    rw [hw2.1]
    right
    refine ⟨_, rfl, ?_⟩
    rw [hI]
    exact ⟨rfl, rfl, hw2.2, by simp only; omega⟩
   | some t4 =>
    rw [hs] at hw2 hI
    simp only at hw2
    obtain ⟨w1, w2, w3⟩ := hw2
    rw [w1]
    left
    refine ⟨_, rfl, ⟨t4, w2, by simp; omega, ?_⟩, by simp; omega⟩
    simp only
    rw [hI, show 1000 - (out ++ [(⟨y.1, bb⟩ : St80)]).length = 999 - out.length by simp only [List.length_append, List.length_cons, List.length_nil]; omega]
    simp only []
    rw [Option.map_map]
    refine congrArg (fun f => Option.map f (rngs (999 - out.length) t4)) (funext fun l => ?_)
    simp [Function.comp]
  cases hs : sgn [46, 46] r.2 with
  | none =>
   rw [hs] at hz2 hI
   simp only at hz2 hI
   simp only [Option.bind_some] at hI
   rw [hz2.1]
   simp only [cond_false, Option.bind_some, Bool.not_true]
   exact fin z.2 y.1 r.2 hz2.2 e6 (by rw [hI, e1] <;> rfl)
  | some t2 =>
   rw [hs] at hz2 hI
   simp only at hz2 hI
   obtain ⟨z1, z2, z3⟩ := hz2
   rw [z1]
   simp only [cond_true]
   rw [w64 (n := y.1 + 1) (by omega) (by omega)]
   obtain ⟨a', ha', ha2'⟩ := num_of (least := y.1 + 1) hl z2
   rw [ha']
   simp only [Option.bind_some]
   rw [← e1] at hI
   cases hn2 : numG (y.1 + 1) t2 with
   | none =>
    rw [hn2] at ha2' hI
    simp only at ha2'
    right
    rw [ha2']
    exact ⟨_, rfl, by rw [hI]; rfl⟩
   | some r2 =>
    rw [hn2] at ha2' hI
    simp only at ha2'
    obtain ⟨f1, f2, f3, f4, f5, f6⟩ := ha2'
    rw [f2]
    simp only [Bool.not_true, cond_false, Option.bind_some, Option.map_some] at hI ⊢
    exact fin a'.2.2 a'.1 r2.2 f5 (by omega) (by rw [hI, f1] <;> rfl)
theorem relG_up {c : UInt8} {u : List UInt8} (h : isL c = false) : relG (c :: u) = none := by
 unfold relG
 rw [opG_none (by rw [List.takeWhile_cons, if_neg (by simp [h])]; simp)]; rfl
theorem up_sk {c : UInt8} {u : List UInt8} (h : isW c = true) : sk (c :: u) = c :: u := by
 unfold sk
 rw [List.dropWhile_cons, if_neg]
 intro hb
 simp only [isB, decide_eq_true_eq] at hb
 simp only [isW, decide_eq_true_eq] at h
 omega
theorem relG_up2 {c : UInt8} {v u : List UInt8} {x : UInt8} (hx : isL x = true) (hc : isW c = true) (hc2 : isL c = false) (hu : u = c :: v) : relG (x :: u) = none := by
 subst hu
 unfold relG
 have h1 : ((x :: c :: v).takeWhile isL).length = 1 := by rw [List.takeWhile_cons, if_pos hx, List.takeWhile_cons, if_neg (by simp [hc2])]; rfl
 obtain ⟨c', u', e1, e2⟩ := opG_one h1
 cases e1
 rw [e2]
 split
 ·simp only [Option.bind_some]
  rw [up_sk hc]
  have hs : ∀ y l, isW y = false → sgn (y :: l) (c :: v) = none := by
   intro y l hy
   unfold sgn
   rw [if_neg]
   intro hp
   simp only [List.isPrefixOf, Bool.and_eq_true, beq_iff_eq] at hp
   rw [hp.1, hc] at hy; cases hy
  unfold modG signG
  rw [hs 37 [] (by decide)]
  simp only [Option.bind_some]
  rw [hs 61 [] (by decide), hs 33 [61] (by decide)]
  rfl
 ·rfl
theorem contains_eq (c : UInt8) : strings_Contains ([110, 105, 118, 119, 102, 116, 99, 101] : List UInt8) [c] = some (isOp c) := by
 have : ∀ q : Fin 256, strings_Contains ([110, 105, 118, 119, 102, 116, 99, 101] : List UInt8) [UInt8.ofNat q.val] = some (isOp (UInt8.ofNat q.val)) := by decide +kernel
 have h := this ⟨c.toNat, UInt8.toNat_lt c⟩
 simpa using h
theorem isOp_L (c : UInt8) (h : isOp c = true) : isL c = true := by
 have : ∀ q : Fin 256, isOp (UInt8.ofNat q.val) = true → isL (UInt8.ofNat q.val) = true := by decide +kernel
 have h := this ⟨c.toNat, UInt8.toNat_lt c⟩ (by simpa using h)
 simpa using h
theorem tw_WL {u : List UInt8} (h : u.takeWhile isW = []) : u.takeWhile isL = [] := by
 cases u with
 | nil => rfl
 | cons c v =>
  rw [List.takeWhile_cons] at h ⊢
  split at h
  ·cases h
  ·rename_i hc
   rw [if_neg (fun h2 => hc (isW_of_isL h2))]
theorem word_of {s t : List UInt8} {p : Int} (hl : s.length ≤ 400) (h : At s p t) : ∃ pre, s = pre ++ t ∧ rule_reader__word_s0 s p = some (t.takeWhile isW, (pre.length : Int)) := by
 unfold rule_reader__word_s0 rule_reader__run_s0
 obtain ⟨pre, h1, h2⟩ := run_of hl h isW (f1 := rule_reader__word_1) word1_eq
 exact ⟨pre, h1, by rw [h2]; rfl⟩
theorem irel_of {s t : List UInt8} {p : Int} (hl : s.length ≤ 400) (h : At s p t) : ∃ o, rule_reader__relation_s0 s p = some o ∧ okI s t.length (relG t) o.1 o.2.1 o.2.2 := by
 unfold rule_reader__relation_s0 rule_reader__operand_s0
 obtain ⟨pre, h1, h2⟩ := word_of hl h
 have hlen := congrArg List.length h1
 rw [List.length_append] at hlen
 rw [h2]
 simp only [Option.bind_some]
 by_cases c1 : (t.takeWhile isW).length = 1
 ·obtain ⟨c, u, rfl⟩ : ∃ c u, t = c :: u := by
   cases t with
   | nil => simp at c1
   | cons c u => exact ⟨c, u, rfl⟩
  have hc : isW c = true := by
   rw [List.takeWhile_cons] at c1
   split at c1
   ·assumption
   ·simp at c1
  have hu : u.takeWhile isW = [] := by
   rw [List.takeWhile_cons, if_pos hc] at c1
   exact List.eq_nil_of_length_eq_zero (by simpa using c1)
  have htw : (c :: u).takeWhile isW = [c] := by rw [List.takeWhile_cons, if_pos hc, hu]
  rw [htw]
  rw [dF (show ¬ ¬ ((([c] : List UInt8).length : Nat) : Int) = 1 by simp), contains_eq]
  simp only [cond_false, Option.bind_some]
  cases ho : isOp c with
  | false =>
   have : relG (c :: u) = none := by
    unfold relG opG
    simp only
    rw [if_neg (by rw [ho]; simp)]; rfl
   rw [this]
   exact ⟨_, rfl, rfl⟩
  | true =>
   have hop : opG (c :: u) = some (c, sk u) := by
    unfold opG
    simp only
    rw [if_pos ⟨isOp_L c ho, tw_WL hu, ho⟩]
   unfold relG
   rw [hop, inR_int (by omega) (by simp)]
   simp only [Bool.not_true, cond_false, cond_true, Option.bind_some, joinX]
   simp only [List.length_cons] at hlen
   rw [w64 (n := (pre.length : Int) + 1) (by omega) (by omega)]
   have hg : ([c] : List UInt8).getD ((0 : Int)).toNat 0 = c := rfl
   rw [hg]
   have hA : At s ((pre.length : Int) + 1) (sk u) := by
    have := At.of (s := s) (pre := pre ++ [c]) (t := u) (by rw [h1]; simp)
    rwa [show (((pre ++ [c]).length : Nat) : Int) = (pre.length : Int) + 1 by simp] at this
   have hu2 := sk_le u
   -- what is divided by
   have hmod : ∃ o, rule_reader__mod_s0 s ((pre.length : Int) + 1) ((c.toNat : Nat) : Int) 0 false = some o ∧ (match modG (sk u) with | some r => o.1 = true ∧ o.2.2 = r.1 ∧ At s o.2.1 r.2 ∧ r.2.length ≤ u.length | none => o.1 = false) := by
    unfold rule_reader__mod_s0 modG
    obtain ⟨z, hz, hz2⟩ := eat_of (x := [37]) hl (by decide) (by decide) hA
    rw [hz]
    simp only [Option.bind_some]
    cases hs : sgn [37] (sk u) with
    | none =>
     rw [hs] at hz2
     simp only at hz2
     rw [hz2.1]
     exact ⟨_, rfl, rfl, rfl, hz2.2, hu2⟩
    | some t2 =>
     rw [hs] at hz2
     simp only at hz2
     obtain ⟨z1, z2, z3⟩ := hz2
     rw [z1]
     simp only [Bool.not_true, cond_false]
     obtain ⟨a', ha', ha2'⟩ := num_of (least := 1) hl z2
     rw [ha']
     simp only [Option.bind_some]
     cases hn : numG 1 t2 with
     | none => rw [hn] at ha2'; exact ⟨_, rfl, ha2'⟩
     | some r =>
      rw [hn] at ha2'
      obtain ⟨f1, f2, f3, f4, f5, f6⟩ : a'.1 = r.1 ∧ a'.2.1 = true ∧ 0 ≤ r.1 ∧ r.1 < 1000000000 ∧ At s a'.2.2 r.2 ∧ r.2.length < t2.length := ha2'
      exact ⟨_, rfl, f2, f1, f5, by omega⟩
   obtain ⟨m, m1, m2⟩ := hmod
   rw [m1]
   simp only [Option.bind_some]
   cases hmg : modG (sk u) with
   | none =>
    rw [hmg] at m2
    simp only at m2
    rw [m2]
    exact ⟨_, rfl, rfl⟩
   | some r =>
    rw [hmg] at m2
    simp only at m2
    obtain ⟨k1, k2, k3, k4⟩ := m2
    rw [k1]
    simp only [cond_true, Option.bind_some]
    have hsign : ∃ o, rule_reader__sign_s0 s m.2.1 ((c.toNat : Nat) : Int) m.2.2 false = some o ∧ (match signG r.2 with | some q => o.1 = true ∧ o.2.2 = q.1 ∧ At s o.2.1 q.2 ∧ q.2.length ≤ u.length | none => o.1 = false) := by
     unfold rule_reader__sign_s0 signG
     obtain ⟨z, hz, hz2⟩ := eat_of (x := [61]) hl (by decide) (by decide) k3
     rw [hz]
     simp only [Option.bind_some]
     cases hs : sgn [61] r.2 with
     | some t2 =>
      rw [hs] at hz2
      simp only at hz2
      obtain ⟨z1, z2, z3⟩ := hz2
      rw [z1]
      exact ⟨_, rfl, rfl, rfl, z2, by simp only; omega⟩
     | none =>
      rw [hs] at hz2
      simp only at hz2
      rw [hz2.1]
      simp only [cond_false]
      obtain ⟨w, hw, hw2⟩ := eat_of (x := [33, 61]) hl (by decide) (by decide) hz2.2
      rw [hw]
      simp only [Option.bind_some]
      cases hs2 : sgn [33, 61] r.2 with
      | none =>
       rw [hs2] at hw2
       exact ⟨_, rfl, hw2.1⟩
      | some t2 =>
       rw [hs2] at hw2
       obtain ⟨w1, w2, w3⟩ : w.1 = true ∧ At s w.2 t2 ∧ t2.length < r.2.length := hw2
       exact ⟨_, rfl, w1, w1, w2, by simp only; omega⟩
    obtain ⟨g, g1, g2⟩ := hsign
    rw [g1]
    simp only [Option.bind_some]
    cases hsg : signG r.2 with
    | none =>
     rw [hsg] at g2
     simp only at g2
     rw [g2]
     exact ⟨_, rfl, rfl⟩
    | some q =>
     rw [hsg] at g2
     simp only at g2
     obtain ⟨l1, l2, l3, l4⟩ := g2
     rw [l1]
     simp only [cond_true, Option.bind_some]
     obtain ⟨o, o1, o2⟩ := irngs_of (a := ((c.toNat : Nat) : Int)) (b := m.2.2) (c := g.2.2) hl l3
     rw [o1]
     simp only [Option.bind_some]
     cases hr : rngs 1000 q.2 with
     | none =>
      rw [hr] at o2
      have o2 : o.1 = false := o2
      rw [o2]
      exact ⟨_, rfl, rfl⟩
     | some w =>
      rw [hr] at o2
      obtain ⟨q1, q2, q3, q4⟩ : o.2.2 = w.1 ∧ o.1 = true ∧ At s o.2.1 w.2 ∧ w.2.length < q.2.length := o2
      rw [q2]
      refine ⟨_, rfl, ?_, rfl, q3, ?_⟩
      ·simp only [k2, l2, q1]
      ·simp only [List.length_cons]; omega
 ·have : relG t = none := by
   cases t with
   | nil => rfl
   | cons c u =>
    cases hc : isL c with
    | false => exact relG_up hc
    | true =>
     rw [List.takeWhile_cons, if_pos (isW_of_isL hc)] at c1
     cases u with
     | nil => simp at c1
     | cons d v =>
      cases hd : isL d with
      | true =>
       unfold relG
       rw [opG_none (by rw [List.takeWhile_cons, if_pos hc, List.takeWhile_cons, if_pos hd]; simp)]; rfl
      | false =>
       have hd2 : isW d = true := by
        rw [List.takeWhile_cons] at c1
        split at c1
        ·assumption
        ·simp at c1
       exact relG_up2 hc hd2 hd rfl
  rw [this, dT (show ¬ ((t.takeWhile isW).length : Int) = 1 by omega)]
  exact ⟨_, rfl, rfl⟩
theorem tw_W_split {u w : List UInt8} (h : u.takeWhile isW = w) (hw : ∀ c ∈ w, isL c = true) : u.takeWhile isL = w ∧ u.dropWhile isL = u.dropWhile isW := by
 induction u generalizing w with
 | nil => simp at h; subst h; exact ⟨rfl, rfl⟩
 | cons c u ih =>
  rw [List.takeWhile_cons] at h
  split at h
  ·rename_i hc
   subst h
   have h1 := hw c (List.mem_cons_self ..)
   obtain ⟨e1, e2⟩ := ih rfl (fun x hx => hw x (List.mem_cons_of_mem _ hx))
   rw [List.takeWhile_cons, if_pos h1, List.dropWhile_cons, if_pos h1, List.dropWhile_cons, if_pos hc, e1, e2]
   exact ⟨rfl, rfl⟩
  ·rename_i hc
   subst h
   have h1 : ¬ isL c = true := fun h2 => hc (isW_of_isL h2)
   rw [List.takeWhile_cons, if_neg h1, List.dropWhile_cons, if_neg h1, List.dropWhile_cons, if_neg hc]
   exact ⟨rfl, rfl⟩
theorem tw_up : ∀ {u : List UInt8}, u.takeWhile isW ≠ u.takeWhile isL → ∃ c v, u.dropWhile isL = c :: v ∧ isW c = true ∧ isL c = false
 | [], h => absurd rfl h
 | c :: u, h => by
  cases hc : isL c with
  | true =>
   rw [List.takeWhile_cons, if_pos (isW_of_isL hc), List.takeWhile_cons, if_pos hc] at h
   rw [List.dropWhile_cons, if_pos hc]
   exact tw_up (fun e => h (by rw [e]))
  | false =>
   rw [List.dropWhile_cons, if_neg (by simp [hc])]
   refine ⟨c, u, rfl, ?_, hc⟩
   cases hw : isW c with
   | true => rfl
   | false =>
    rw [List.takeWhile_cons, List.takeWhile_cons, if_neg (by simp [hw]), if_neg (by simp [hc])] at h
    exact absurd rfl h
theorem condG_up {n : Nat} {c : UInt8} {v : List UInt8} (h : isW c = true) (h2 : isL c = false) : condG n (sk (c :: v)) = none := by
 cases n with
 | zero => rfl
 | succ n => rw [condG_succ, up_sk h, relG_up h2]; rfl
def loopI (s : List UInt8) (CC : Option (List (List St75))) : (Int × List (List St75) × List St75) ⊕ (List (List St75) × Bool × Int) → Prop
 | .inl x => (if x.1 = (s.length : Int) then CC = some (x.2.1 ++ [x.2.2]) else CC = none) ∧ (x.2.1.flatten ++ x.2.2).length ≤ 400 ∧ x.2.1.length ≤ 400
 | .inr r => CC = none ∧ r.2.1 = false
theorem hbind {A B : Type} {x : Option A} {k : A → Option B} {p : A → Prop} {q : B → Prop} (h : ∃ o, x = some o ∧ p o) (hk : ∀ o, p o → ∃ r, k o = some r ∧ q r) : ∃ r, Option.bind x k = some r ∧ q r := by
 obtain ⟨o, rfl, h⟩ := h
 exact hk o h
theorem irows_of {s : List UInt8} (hl : s.length ≤ 400) : ∃ o, rule_reader__rows_s0 s 0 = some o ∧ (match condG 1000 (sk s) with | some d => o.1 = d ∧ o.2.1 = true ∧ d.flatten.length ≤ 400 ∧ d.length ≤ 401 | none => o.2.1 = false) := by
 unfold rule_reader__rows_s0
 obtain ⟨CC, hCC⟩ : ∃ CC, condG 1000 (sk s) = CC := ⟨_, rfl⟩
 rw [hCC]
 refine hbind (p := loopI s CC) (loopN_run (fun q : Int × (List (List St75)) × (List St75) => ∃ t', At s q.1 t' ∧ (q.2.1.flatten ++ q.2.2).length + t'.length ≤ s.length ∧ q.2.1.length ≤ q.2.1.flatten.length ∧
    CC = (condG (1000 - (q.2.1.flatten ++ q.2.2).length) t').map (glue q.2.1 q.2.2)) (fun q => 1000 - (q.2.1.flatten ++ q.2.2).length) _ ?_ big _ ?_ ?_) ?_
 ·rintro ⟨p, c, row⟩ ⟨t', hp, hlen, hcl, hI⟩
  simp only at hp hlen hcl hI ⊢
  obtain ⟨o, o1, o2⟩ := irel_of hl hp
  rw [o1]
  simp only [Option.bind_some]
  rw [show 1000 - (c.flatten ++ row).length = (999 - (c.flatten ++ row).length) + 1 by omega, condG_succ] at hI
  cases hr : relG t' with
  | none =>
   rw [hr] at o2 hI
   have o2 : o.2.1 = false := o2
   right
   rw [o2]
   exact ⟨_, rfl, hI, rfl⟩
  | some x =>
   rw [hr] at o2 hI
   obtain ⟨e1, e2, e3, e4⟩ : o.1 = x.1 ∧ o.2.1 = true ∧ At s o.2.2 x.2 ∧ x.2.length < t'.length := o2
   rw [e2, e1]
   simp only [Bool.not_true, cond_false, Option.bind_some] at hI ⊢
   have hrl : row.length ≤ 400 := by simp at hlen; omega
   have hcl2 : c.length ≤ 400 := by simp at hlen; simp at hcl; omega
   rw [room_of (by simp; omega)]
   simp only [cond_true]
   obtain ⟨pre, h1, h2⟩ := word_of hl e3
   have hpl : pre.length + x.2.length = s.length := by rw [h1]; simp
   rw [h2]
   simp only [Option.bind_some]
   have htw : (x.2.takeWhile isW).length ≤ x.2.length := List.Sublist.length_le (List.takeWhile_sublist isW)
   have hnx : At s (((pre ++ x.2.takeWhile isW).length : Nat) : Int) (sk (x.2.dropWhile isW)) := At.of (by rw [h1, List.append_assoc, ← tw_split])
   have hsl := sk_le (x.2.dropWhile isW)
   have hsum : (x.2.takeWhile isW).length + (x.2.dropWhile isW).length = x.2.length := by
    conv => rhs; rw [tw_split isW x.2]
    rw [List.length_append]
   rw [w64 (n := (pre.length : Int) + ((x.2.takeWhile isW).length : Int)) (by omega) (by omega), show (pre.length : Int) + ((x.2.takeWhile isW).length : Int) = (((pre ++ x.2.takeWhile isW).length : Nat) : Int) by simp]
   by_cases ha : x.2.takeWhile isW = [97, 110, 100]
   ·obtain ⟨a1, a2⟩ := tw_W_split ha (by decide)
    have hx : x.2 ≠ [] := by rintro e; rw [e] at ha; cases ha
    rw [if_neg hx, if_pos a1, a2] at hI
    rw [ha] at hnx ⊢
    left
    refine ⟨_, rfl, ⟨sk (x.2.dropWhile isW), hnx, ?_, hcl, ?_⟩, ?_⟩
    ·simp only
     rw [← List.append_assoc, List.length_append]
     simp; simp at hlen; omega
    ·simp only
     rw [hI, show 1000 - (c.flatten ++ (row ++ [x.1])).length = 999 - (c.flatten ++ row).length by simp; omega]
     cases hd : condG (999 - (c.flatten ++ row).length) (sk (x.2.dropWhile isW)) with
     | none => rfl
     | some d =>
      have := (condG_ne _ _ d hd).1
      cases d with
      | nil => exact absurd rfl this
      | cons r l => simp [glue]
    ·simp only
     simp; simp at hlen; omega
   ·have ha2 : (x.2.takeWhile isW == [97, 110, 100]) = false := by simpa using ha
    rw [ha2]
    by_cases hb : x.2.takeWhile isW = [111, 114]
    ·obtain ⟨a1, a2⟩ := tw_W_split hb (by decide)
     have hx : x.2 ≠ [] := by rintro e; rw [e] at hb; cases hb
     rw [if_neg hx, if_neg (by rw [a1]; decide), if_pos a1, a2] at hI
     rw [hb] at hnx ⊢
     left
     rw [show (([111, 114] : List UInt8) == [111, 114]) = true from rfl, room_of (by simp; omega)]
     refine ⟨_, rfl, ⟨sk (x.2.dropWhile isW), hnx, ?_, ?_, ?_⟩, ?_⟩
     ·simp only [List.flatten_append, List.flatten_cons, List.flatten_nil, List.append_nil]
      rw [← List.append_assoc, List.length_append]
      simp; simp at hlen; omega
     ·simp at hcl ⊢; omega
     ·simp only [List.flatten_append, List.flatten_cons, List.flatten_nil, List.append_nil]
      rw [hI, show 1000 - (c.flatten ++ (row ++ [x.1])).length = 999 - (c.flatten ++ row).length by simp; omega]
      cases hd : condG (999 - (c.flatten ++ row).length) (sk (x.2.dropWhile isW)) with
      | none => rfl
      | some d =>
       have := (condG_ne _ _ d hd).1
       cases d with
       | nil => exact absurd rfl this
       | cons r l => simp [glue]
     ·simp only [List.flatten_append, List.flatten_cons, List.flatten_nil, List.append_nil]
      simp; simp at hlen; omega
    ·have hb2 : (x.2.takeWhile isW == [111, 114]) = false := by simpa using hb
     rw [hb2]
     right
     refine ⟨_, rfl, ?_, ?_, hcl2⟩
     ·simp only
      by_cases hx : x.2 = []
      ·have : x.2.length = 0 := by rw [hx]; rfl
       rw [if_pos hx] at hI
       rw [if_pos (by omega)]
       exact hI
      ·have : x.2.length ≠ 0 := fun h => hx (List.eq_nil_of_length_eq_zero h)
       rw [if_neg hx] at hI
       rw [if_neg (by omega), hI]
       by_cases g : x.2.takeWhile isW = x.2.takeWhile isL
       ·rw [if_neg (by rw [← g]; exact ha), if_neg (by rw [← g]; exact hb)]; rfl
       ·obtain ⟨d, v, d1, d2, d3⟩ := tw_up g
        rw [d1, condG_up d2 d3]
        split
        ·rfl
        ·split <;> rfl
     ·simp only
      rw [← List.append_assoc, List.length_append]
      simp; simp at hlen; omega
 ·refine ⟨sk s, At.of (s := s) (pre := []) rfl, by simpa using sk_le s, by simp, ?_⟩
  simp only [List.flatten_nil, List.append_nil, List.length_nil, Nat.sub_zero]
  rw [hCC]
  cases CC with
  | none => rfl
  | some d => simp [glue_nil]
 ·simp only [List.flatten_nil, List.append_nil, List.length_nil]; unfold big; omega
 ·rintro o ho
  cases o with
  | inr r =>
   obtain ⟨h1, h2⟩ : CC = none ∧ r.2.1 = false := ho
   subst h1
   exact ⟨r, rfl, h2⟩
  | inl x =>
   obtain ⟨h1, h2, h3⟩ : (if x.1 = (s.length : Int) then CC = some (x.2.1 ++ [x.2.2]) else CC = none) ∧ (x.2.1.flatten ++ x.2.2).length ≤ 400 ∧ x.2.1.length ≤ 400 := ho
   simp only [joinX]
   rw [room_of (by simp; omega)]
   simp only [cond_true]
   by_cases hx : x.1 = (s.length : Int)
   ·rw [if_pos hx] at h1
    subst h1
    exact ⟨_, rfl, rfl, dT hx, by simpa using h2, by simp; omega⟩
   ·rw [if_neg hx] at h1
    subst h1
    exact ⟨_, rfl, dF hx⟩
theorem tooMany_eq {c : List (List St75)} (h1 : c.flatten.length ≤ 1000000) (h2 : c.length ≤ 1000000) : rule_tooMany c = some (many c) := by
 unfold rule_tooMany
 refine bind_of (fun o : Int ⊕ Bool => o = if c.flatten.any (fun x => decide (x.R_.length > 20)) = true then .inr true else .inl (c.flatten.length : Int)) (loop_row c (fun pre => ((pre.flatten.length : Int), (pre.length : Int))) (fun pre => pre.flatten.any (fun x => decide (x.R_.length > 20)) = false) _ rfl rfl (fun pre row suf h hi => ?_) (fun hi => ?_) (by omega)) ?_
 ·have hl' : (pre ++ row :: suf).length ≤ 4611686018427387904 := by rw [← h]; omega
  have hfl : pre.flatten.length + row.length ≤ c.flatten.length := by rw [h]; simp
  simp only
  rw [h, lt_mid, inR_mid, nth_mid, w_mid hl', w64 (by omega) (by omega)]
  simp only [cond_true]
  have hin : loopN (fun (s610 : Int) => (bif (decide (s610 < (row.length : Int))) then (bif inR s610 row.length then (bif (decide (((((nth row s610).R_).length : Int)) > 20)) then (some (.inr (.inr (.inr (.inr true))))) else (some (.inl (IntKind.wrap .i64 (s610 + 1))))) else none) else (some (.inr (.inl ()))))) big 0 = some (if row.all (fun x => !decide (x.R_.length > 20)) = true then (.inl () : Unit ⊕ (((Int × Int) ⊕ (Int ⊕ Bool)))) else .inr (.inr (.inr true))) := by
   rw [loop_all (fun x => !decide (x.R_.length > 20)) row (fun pre => (pre.length : Int)) (.inl ()) (.inr (.inr (.inr true)))]
   ·rfl
   ·intro pre x suf h
    have hl2 : (pre ++ x :: suf).length ≤ 4611686018427387904 := by rw [← h]; omega
    rw [h, lt_mid, inR_mid, nth_mid, w_mid hl2]
    by_cases g : x.R_.length > 20
    ·rw [dT (show (x.R_.length : Int) > 20 by omega), dT g]; rfl
    ·rw [dF (show ¬ (x.R_.length : Int) > 20 by omega), dF g]; rfl
   ·rw [lt_end]; rfl
   ·omega
  rw [hin]
  have hneg : ∀ l : List St75, l.all (fun x => !decide (x.R_.length > 20)) = !l.any (fun x => decide (x.R_.length > 20)) := fun l => by rw [List.not_any_eq_all_not]
  rw [hneg]
  cases hr : row.any (fun x => decide (x.R_.length > 20)) with
  | false =>
   left
   refine ⟨by simp [joinX], by simp [List.any_append, hi, hr]⟩
  | true =>
   right
   refine ⟨.inr true, rfl, ?_⟩
   rw [if_pos]
   simp [List.any_append, hr]
 ·refine ⟨.inl (c.flatten.length : Int), by simp only; rw [lt_end]; rfl, ?_⟩
  rw [if_neg (by rw [hi]; simp)]
 ·rintro o rfl
  unfold many fl
  cases c.flatten.any (fun x => decide (x.R_.length > 20)) with
  | true => rfl
  | false =>
   simp only [Bool.false_eq_true, if_false, joinX, Bool.false_or]
   congr 1
   exact decide_eq_decide.2 (by omega)
theorem iparse_of {s : List UInt8} (hb : s.length ≤ 4611686018427387904) : ∃ o, rule_Parse s = some o ∧ pOut s o := by
 unfold rule_Parse pOut
 by_cases hl : s.length > 400
 ·rw [dT (show (s.length : Int) > 400 by omega)]
  simp only [if_pos hl]
  exact ⟨_, rfl, rfl⟩
 ·rw [dF (show ¬ (s.length : Int) > 400 by omega)]
  simp only [cond_false, if_neg hl]
  obtain ⟨o, o1, o2⟩ := irows_of (s := s) (by omega)
  rw [o1]
  simp only [Option.bind_some]
  cases hc : condG 1000 (sk s) with
  | none =>
   rw [hc] at o2
   simp only at o2
   rw [o2]
   exact ⟨_, rfl, rfl, rfl⟩
  | some d =>
   rw [hc] at o2
   simp only at o2
   obtain ⟨d1, d2, d3, d4⟩ := o2
   rw [d2, d1, tooMany_eq (by omega) (by omega)]
   simp only [Bool.not_true, cond_false, Option.bind_some]
   cases many d with
   | true => exact ⟨_, rfl, rfl⟩
   | false => exact ⟨_, rfl, rfl⟩
/-! Are two the same? -/
theorem eq_row {T S O : Type} [Inhabited T] [DecidableEq T] {xs ys : List T} (hlen : xs.length = ys.length) (hb : xs.length ≤ 4611686018427387904) (ok bad : O) {step : Int → Option (Int ⊕ O)}
  (hs : ∀ i : Nat, i < xs.length → step (i : Int) = some (if nth xs (i : Int) = nth ys (i : Int) then .inl ((i : Int) + 1) else .inr bad)) (he : step (xs.length : Int) = some (.inr ok)) :
  loopN step big 0 = some (if xs = ys then ok else bad) := by
 obtain ⟨o, h1, h2⟩ := loop_count (step := step) xs.length (fun i => (i : Int)) (fun i => ∀ j, j < i → nth xs (j : Int) = nth ys (j : Int)) (fun o => o = if xs = ys then ok else bad) rfl (fun j hj => by omega) (fun i hi hI => by
  rw [hs i hi]
  by_cases c : nth xs (i : Int) = nth ys (i : Int)
  ·left
   rw [if_pos c]
   refine ⟨by simp, fun j hj => ?_⟩
   by_cases e : j = i
   ·subst e; exact c
   ·exact hI j (by omega)
  ·right
   rw [if_neg c]
   refine ⟨bad, rfl, ?_⟩
   rw [if_neg (fun e => c (by rw [e]))]) (fun hI => ⟨ok, he, by
  rw [if_pos]
  apply List.ext_getElem hlen
  intro i h1 h2
  have := hI i h1
  rwa [nth_nat h1, nth_nat h2] at this⟩) (by omega)
 have h1' : loopN step big 0 = some o := h1
 rw [h1', h2]
theorem w_succ {i n : Nat} (h : i < n) (hb : n ≤ 4611686018427387904) : IntKind.wrap .i64 ((i : Int) + 1) = (i : Int) + 1 := w64 (by omega) (by omega)
theorem st42_eq (x y : St80) : (!((decide (x.a0_ = y.a0_)) && ((decide (x.a1_ = y.a1_)) && true))) = !decide (x = y) := by
 obtain ⟨a, b⟩ := x
 obtain ⟨c, d⟩ := y
 by_cases h1 : a = c <;> by_cases h2 : b = d <;> simp [h1, h2]
theorem equal42 {x y : List St80} (hb : x.length ≤ 4611686018427387904) : slices_Equal x y = some (decide (x = y)) := by
 unfold slices_Equal
 by_cases h : x.length = y.length
 ·rw [dF (by omega)]
  simp only [cond_false]
  rw [eq_row (S := Unit) h hb (.inl () : Unit ⊕ Bool) (.inr false)]
  ·by_cases e : x = y
   ·rw [if_pos e, dT e]; rfl
   ·rw [if_neg e, dF e]; rfl
  ·intro i hi
   rw [dT (by omega), inR_nat hi, inR_nat (by omega), st42_eq, w_succ hi hb]
   by_cases e : nth x (i : Int) = nth y (i : Int)
   ·rw [if_pos e, dT e]; rfl
   ·rw [if_neg e, dF e]; rfl
  ·rw [lt_end]; rfl
 ·rw [dT (by omega), dF (by rintro rfl; exact h rfl)]; rfl
def lenOk (c : List (List St75)) : Prop := c.length ≤ 4611686018427387904 ∧ ∀ row ∈ c, row.length ≤ 4611686018427387904 ∧ ∀ x ∈ row, x.R_.length ≤ 4611686018427387904
theorem sameRel_eq {x y : St75} (hb : x.R_.length ≤ 4611686018427387904) : rule_sameRel x y = some (decide (x = y)) := by
 unfold rule_sameRel
 rw [equal42 hb]
 obtain ⟨a, b, c, d⟩ := x
 obtain ⟨a', b', c', d'⟩ := y
 by_cases h1 : a = a' <;> by_cases h2 : b = b' <;> cases c <;> cases c' <;> by_cases h4 : d = d' <;> simp [h1, h2, h4]
theorem sameRow_eq {x y : List St75} (hb : x.length ≤ 4611686018427387904) (hx : ∀ r ∈ x, r.R_.length ≤ 4611686018427387904) : rule_Same_1 x y = some (decide (x = y)) := by
 unfold rule_Same_1 api_Rel__47_s0
 by_cases h : x.length = y.length
 ·rw [dF (by omega)]
  simp only [cond_false]
  rw [eq_row (S := Unit) h hb (.inl () : Unit ⊕ Bool) (.inr false)]
  ·by_cases e : x = y
   ·rw [if_pos e, dT e]; rfl
   ·rw [if_neg e, dF e]; rfl
  ·intro i hi
   have hm : (nth x (i : Int)).R_.length ≤ 4611686018427387904 := hx _ (by rw [nth_nat hi]; exact List.getElem_mem hi)
   rw [dT (by omega), inR_nat hi, inR_nat (by omega), sameRel_eq hm, w_succ hi hb]
   by_cases e : nth x (i : Int) = nth y (i : Int)
   ·rw [if_pos e, dT e]; rfl
   ·rw [if_neg e, dF e]; rfl
  ·rw [lt_end]; rfl
 ·rw [dT (by omega), dF (by rintro rfl; exact h rfl)]; rfl
theorem same_eq {x y : List (List St75)} (hx : lenOk x) : rule_Same x y = some (decide (x = y)) := by
 unfold rule_Same api_Rel__s0
 by_cases h : x.length = y.length
 ·rw [dF (by omega)]
  simp only [cond_false]
  rw [eq_row (S := Unit) h hx.1 (.inl () : Unit ⊕ Bool) (.inr false)]
  ·by_cases e : x = y
   ·rw [if_pos e, dT e]; rfl
   ·rw [if_neg e, dF e]; rfl
  ·intro i hi
   have hm := hx.2 (nth x (i : Int)) (by rw [nth_nat hi]; exact List.getElem_mem hi)
   rw [dT (by omega), inR_nat hi, inR_nat (by omega), sameRow_eq hm.1 (fun r hr => hm.2 r hr), w_succ hi hx.1]
   by_cases e : nth x (i : Int) = nth y (i : Int)
   ·rw [if_pos e, dT e]; rfl
   ·rw [if_neg e, dF e]; rfl
  ·rw [lt_end]; rfl
 ·rw [dT (by omega), dF (by rintro rfl; exact h rfl)]; rfl
theorem lenD (a b : Nat) : decide (¬ ((a : Int)) = (b : Int)) = !decide (a = b) := by
 by_cases k : a = b
 ·rw [dF (by omega), dT k]; rfl
 ·rw [dT (by omega), dF k]; rfl
theorem rsame_eq {x y : List (List St75)} (hx : lenOk x) : exergueref11_Same x y = some (decide (x = y)) := by
 unfold exergueref11_Same
 by_cases h : x.length = y.length
 ·rw [dF (by omega)]
  simp only [cond_false]
  rw [eq_row (S := Unit) h hx.1 (.inl () : Unit ⊕ Bool) (.inr false)]
  ·by_cases e : x = y
   ·rw [if_pos e, dT e]; rfl
   ·rw [if_neg e, dF e]; rfl
  ·intro i hi
   have hm := hx.2 (nth x (i : Int)) (by rw [nth_nat hi]; exact List.getElem_mem hi)
   rw [dT (by omega), inR_nat hi, inR_nat (show i < y.length by omega), w_succ hi hx.1]
   generalize nth x (i : Int) = a at hm ⊢
   generalize nth y (i : Int) = b
   simp only [cond_true]
   by_cases hab : a.length = b.length
   ·rw [dF (show ¬ ¬ (a.length : Int) = (b.length : Int) by omega)]
    simp only [cond_false]
    rw [eq_row (S := Unit) hab hm.1 (.inl () : Unit ⊕ (Int ⊕ (Unit ⊕ Bool))) (.inr (.inr (.inr false)))]
    ·by_cases e : a = b
     ·rw [if_pos e, if_pos e]; rfl
     ·rw [if_neg e, if_neg e]; rfl
    ·intro j hj
     have hr := hm.2 (nth a (j : Int)) (by rw [nth_nat hj]; exact List.getElem_mem hj)
     rw [dT (by omega), inR_nat hj, inR_nat (show j < b.length by omega), w_succ hj hm.1]
     generalize nth a (j : Int) = r at hr ⊢
     generalize nth b (j : Int) = u
     simp only [cond_true]
     have key : ∀ bad : Bool, bad = (!(decide (r.Op_ = u.Op_) && (decide (r.Mod_ = u.Mod_) && (decide (r.Not_ = u.Not_) && decide (r.R_.length = u.R_.length))))) → (bif (decide (¬ (r.Op_) = (u.Op_))) then (some true) else (bif (decide (¬ (r.Mod_) = (u.Mod_))) then (some true) else (bif ((r.Not_) != (u.Not_)) then (some true) else (some ((decide (¬ (((r.R_).length : Int)) = (((u.R_).length : Int)))))))) : Option Bool) = some bad := by
      rintro bad rfl
      rw [lenD]
      generalize r.Not_ = n1
      generalize u.Not_ = n2
      by_cases k1 : r.Op_ = u.Op_ <;> by_cases k2 : r.Mod_ = u.Mod_ <;> cases n1 <;> cases n2 <;> by_cases k4 : r.R_.length = u.R_.length <;> simp [k1, k2, k4]
     rw [key _ rfl]
     simp only [Option.bind_some]
     cases hk : (decide (r.Op_ = u.Op_) && (decide (r.Mod_ = u.Mod_) && (decide (r.Not_ = u.Not_) && decide (r.R_.length = u.R_.length)))) with
     | false =>
      rw [if_neg]
      ·rfl
      ·rintro rfl; simp at hk
     | true =>
      simp only [Bool.and_eq_true, decide_eq_true_eq] at hk
      obtain ⟨k1, k2, k3, k4⟩ := hk
      simp only [Bool.not_true, cond_false, Option.bind_some, joinX]
      rw [eq_row (S := Unit) k4 hr (.inl () : Unit ⊕ (Int ⊕ (Unit ⊕ (Int ⊕ (Unit ⊕ Bool))))) (.inr (.inr (.inr (.inr (.inr false)))))]
      ·have e : (r = u) ↔ r.R_ = u.R_ := by
        obtain ⟨a1, a2, a3, a4⟩ := r
        obtain ⟨b1, b2, b3, b4⟩ := u
        simp only at k1 k2 k3
        subst k1; subst k2; subst k3
        simp
       by_cases e2 : r.R_ = u.R_
       ·rw [if_pos e2, if_pos (e.2 e2)]; rfl
       ·rw [if_neg e2, if_neg (fun h => e2 (e.1 h))]; rfl
      ·intro m hm2
       rw [dT (by omega), inR_nat hm2, inR_nat (by omega), st42_eq, w_succ hm2 hr]
       by_cases e : nth r.R_ (m : Int) = nth u.R_ (m : Int)
       ·rw [if_pos e, dT e]; rfl
       ·rw [if_neg e, dF e]; rfl
      ·rw [lt_end]; rfl
    ·rw [lt_end]; rfl
   ·rw [dT (show ¬ (a.length : Int) = (b.length : Int) by omega), if_neg (by rintro rfl; exact hab rfl)]; rfl
  ·rw [lt_end]; rfl
 ·rw [dT (by omega), dF (by rintro rfl; exact h rfl)]; rfl
/-! Conditions' own texts. -/
def joinT {T : Type} (sep : List UInt8) (f : T → List UInt8) : List T → List UInt8
 | [] => []
 | x :: l => f x ++ l.flatMap (fun y => sep ++ f y)
theorem joinT_snoc {T : Type} (sep : List UInt8) (f : T → List UInt8) (pre : List T) (x : T) : joinT sep f (pre ++ [x]) = if pre = [] then f x else joinT sep f pre ++ (sep ++ f x) := by
 cases pre with
 | nil => simp [joinT]
 | cons a l => simp [joinT, List.flatMap_append]
theorem flatMap_len {T : Type} (f : T → List UInt8) (B : Nat) : ∀ (l : List T), (∀ x ∈ l, (f x).length ≤ B) → (l.flatMap f).length ≤ l.length * B
 | [], _ => by simp
 | x :: l, h => by
  have h1 := h x (List.mem_cons_self ..)
  have h2 := flatMap_len f B l (fun y hy => h y (List.mem_cons_of_mem _ hy))
  rw [List.flatMap_cons, List.length_append, List.length_cons, Nat.succ_mul]; omega
theorem joinT_len {T : Type} (sep : List UInt8) (f : T → List UInt8) (B : Nat) (l : List T) (h : ∀ x ∈ l, (f x).length ≤ B) : (joinT sep f l).length ≤ l.length * (sep.length + B) := by
 cases l with
 | nil => simp [joinT]
 | cons x l =>
  have h1 := h x (List.mem_cons_self ..)
  have h2 := flatMap_len (fun y => sep ++ f y) (sep.length + B) l (fun y hy => by have := h y (List.mem_cons_of_mem _ hy); rw [List.length_append]; omega)
  simp only [joinT]
  rw [List.length_append, List.length_cons, Nat.succ_mul]; omega
def rngT (r : St80) : List UInt8 := Lib.itoa r.a0_ ++ (if r.a0_ = r.a1_ then [] else [46, 46] ++ Lib.itoa r.a1_)
def relT (x : St75) : List UInt8 := (UInt8.ofNat x.Op_.toNat :: (if x.Mod_ = 0 then [] else [32, 37, 32] ++ Lib.itoa x.Mod_)) ++ ((if x.Not_ = true then [32, 33, 61, 32] else [32, 61, 32]) ++ joinT [44] rngT x.R_)
def rowT (row : List St75) : List UInt8 := joinT [32, 97, 110, 100, 32] relT row
def condT (c : List (List St75)) : List UInt8 := joinT [32, 111, 114, 32] rowT c
def inN (n : Int) : Prop := -9223372036854775807 ≤ n ∧ n ≤ 9223372036854775807
def relOk (x : St75) : Prop := x.R_.length ≤ 300 ∧ inN x.Mod_ ∧ ∀ r ∈ x.R_, inN r.a0_ ∧ inN r.a1_
def txtOk (c : List (List St75)) : Prop := c.length ≤ 300 ∧ ∀ row ∈ c, row.length ≤ 300 ∧ ∀ x ∈ row, relOk x
theorem itoa_len {n : Int} (h : inN n) : (Lib.itoa n).length ≤ 21 := Lib.itoa_length_le n (by have := h.1; omega) h.2
theorem rngT_len {r : St80} (h : inN r.a0_ ∧ inN r.a1_) : (rngT r).length ≤ 44 := by
 have h1 := itoa_len h.1
 have h2 := itoa_len h.2
 unfold rngT
 split <;> simp <;> omega
theorem relT_len {x : St75} (h : relOk x) : (relT x).length ≤ 14000 := by
 have h1 := itoa_len h.2.1
 have h2 := joinT_len [44] rngT 44 x.R_ (fun r hr => rngT_len (h.2.2 r hr))
 have h3 := h.1
 have h4 := Nat.mul_le_mul_right (([44] : List UInt8).length + 44) h3
 simp at h4 h2
 unfold relT
 split <;> split <;> simp <;> omega
theorem rowT_len {row : List St75} (hl : row.length ≤ 300) (h : ∀ x ∈ row, relOk x) : (rowT row).length ≤ 4300000 := by
 have h2 := joinT_len [32, 97, 110, 100, 32] relT 14000 row (fun x hx => relT_len (h x hx))
 have h4 := Nat.mul_le_mul_right (([32, 97, 110, 100, 32] : List UInt8).length + 14000) hl
 simp at h4 h2
 unfold rowT; omega
theorem condT_len {c : List (List St75)} (h : txtOk c) : (condT c).length ≤ 1300000000 := by
 have h2 := joinT_len [32, 111, 114, 32] rowT 4300000 c (fun x hx => rowT_len (h.2 x hx).1 (h.2 x hx).2)
 have h4 := Nat.mul_le_mul_right (([32, 111, 114, 32] : List UInt8).length + 4300000) h.1
 simp at h4 h2
 unfold condT; omega
theorem bytesS_append (a b : List Int) : bytesS (a ++ b) = bytesS a ++ bytesS b := by simp [bytesS]
theorem bytesS_bytesI (s : List UInt8) : bytesS (bytesI s) = s := by
 unfold bytesS bytesI
 rw [List.map_map]
 conv => rhs; rw [← List.map_id s]
 refine List.map_congr_left fun c _ => ?_
 simp
theorem bytesS_len (a : List Int) : (bytesS a).length = a.length := by simp [bytesS]
theorem join_loop {T : Type} [Inhabited T] {sep : List UInt8} {f : T → List UInt8} {xs : List T} {M B : Nat} (hl : xs.length ≤ 1000) {base : List Int} {step : Int × List Int → Option ((Int × List Int) ⊕ List Int)} (hb : (bytesS base).length + xs.length * (sep.length + B) ≤ M) (hf : ∀ x ∈ xs, (f x).length ≤ B)
  (hs : ∀ pre x suf (out : List Int), xs = pre ++ x :: suf → out.length + (sep.length + B) ≤ M → ∃ out2, step ((pre.length : Int), out) = some (.inl (((pre ++ [x]).length : Int), out2)) ∧ bytesS out2 = bytesS out ++ ((if pre = [] then [] else sep) ++ f x))
  (he : ∀ out, step ((xs.length : Int), out) = some (.inr out)) : ∃ out2, loopN step big (0, base) = some out2 ∧ bytesS out2 = bytesS base ++ joinT sep f xs := by
 have key : ∀ (suf pre : List T) (n : Nat) (out : List Int), xs = pre ++ suf → suf.length < n → bytesS out = bytesS base ++ joinT sep f pre → ∃ out2, loopN step n ((pre.length : Int), out) = some out2 ∧ bytesS out2 = bytesS base ++ joinT sep f xs := by
  intro suf
  induction suf with
  | nil =>
   intro pre n out hx hn ho
   obtain ⟨n, rfl⟩ : ∃ m, n = m + 1 := ⟨n - 1, by simp at hn; omega⟩
   rw [List.append_nil] at hx; subst hx
   exact ⟨out, loopN_out (he out), ho⟩
  | cons x suf ih =>
   intro pre n out hx hn ho
   obtain ⟨n, rfl⟩ : ∃ m, n = m + 1 := ⟨n - 1, by simp at hn; omega⟩
   have hj := joinT_len sep f B pre (fun y hy => hf y (by rw [hx]; simp [hy]))
   have hol : out.length = (bytesS base).length + (joinT sep f pre).length := by rw [← bytesS_len out, ho, List.length_append]
   have hm : (pre.length + 1) * (sep.length + B) ≤ xs.length * (sep.length + B) := Nat.mul_le_mul_right _ (by rw [hx]; simp)
   rw [Nat.succ_mul] at hm
   obtain ⟨out2, h1, h2⟩ := hs pre x suf out hx (by omega)
   rw [loopN_next h1]
   refine ih (pre ++ [x]) n out2 (by rw [hx]; simp) (by simp at hn; omega) ?_
   rw [h2, ho, joinT_snoc]
   by_cases hp : pre = []
   ·subst hp; simp [joinT]
   ·rw [if_neg hp, if_neg hp]; simp
 exact key xs [] big base rfl (by unfold big; omega) (by simp [joinT])
theorem pre_pos {T : Type} (pre : List T) : decide ((pre.length : Int) > 0) = !decide (pre = []) := by
 cases pre with
 | nil => rfl
 | cons a l => rw [dT (by simp), dF (by simp)]; rfl
theorem relation_eq {out : List Int} {x : St75} (hx : relOk x) (hl : out.length ≤ 2000000000) : ∃ out2, rule_relation out x = some out2 ∧ bytesS out2 = bytesS out ++ relT x := by
 obtain ⟨h1, h2, h3⟩ := hx
 unfold rule_relation relT
 rw [room_of (by simp; omega)]
 simp only [cond_true]
 have hm := itoa_len h2
 refine hbind (p := fun o : List Int => bytesS o = bytesS out ++ (UInt8.ofNat x.Op_.toNat :: (if x.Mod_ = 0 then [] else [32, 37, 32] ++ Lib.itoa x.Mod_)) ∧ o.length ≤ out.length + 30) ?_ (fun o ho => ?_)
 ·by_cases c : x.Mod_ = 0
  ·rw [dF (fun h => h c), if_pos c]
   exact ⟨_, rfl, by rw [bytesS_append]; rfl, by simp⟩
  ·rw [dT c, if_neg c, room_of (by simp; omega), append_int (by have := h2.1; omega) h2.2 (by simp [bytesI]; omega)]
   refine ⟨_, rfl, ?_, by simp [bytesI]; omega⟩
   simp only [bytesS_append, bytesS_bytesI, List.append_assoc]; rfl
 ·obtain ⟨ho, hol⟩ := ho
  refine hbind (p := fun o2 : List Int => bytesS o2 = bytesS out ++ ((UInt8.ofNat x.Op_.toNat :: (if x.Mod_ = 0 then [] else [32, 37, 32] ++ Lib.itoa x.Mod_)) ++ (if x.Not_ = true then [32, 33, 61, 32] else [32, 61, 32])) ∧ o2.length ≤ out.length + 40) ?_ (fun o2 ho2 => ?_)
  ·cases x.Not_ with
   | true =>
    rw [room_of (by simp; omega)]
    refine ⟨o ++ bytesI [32, 33, 61, 32], rfl, ?_, by simp [bytesI]; omega⟩
    simp only [bytesS_append, bytesS_bytesI, ho, List.append_assoc, if_true]
   | false =>
    rw [room_of (n := o.length + ([32, 61, 32] : List UInt8).length) (by simp; omega)]
    refine ⟨o ++ bytesI [32, 61, 32], rfl, ?_, by simp [bytesI]; omega⟩
    simp only [bytesS_append, bytesS_bytesI, ho, List.append_assoc, Bool.false_eq_true, if_false]
  ·obtain ⟨ho2, hol2⟩ := ho2
   refine hbind (p := fun o3 : List Int => bytesS o3 = bytesS o2 ++ joinT [44] rngT x.R_) (join_loop (sep := [44]) (f := rngT) (xs := x.R_) (B := 44) (M := 2500000000) (by omega) ?_ (fun r hr => rngT_len (h3 r hr)) (fun pre r suf o4 hx4 hl4 => ?_) (fun o4 => ?_)) (fun o3 ho3 => ⟨o3, rfl, by rw [ho3, ho2]; simp⟩)
   ·rw [bytesS_len]
    have h4 := Nat.mul_le_mul_right (([44] : List UInt8).length + 44) h1
    simp at h4 ⊢; omega
   ·have hb : (pre ++ r :: suf).length ≤ 4611686018427387904 := by rw [← hx4]; omega
    have hr := h3 r (by rw [hx4]; simp)
    have l0 := itoa_len hr.1
    have l1 := itoa_len hr.2
    simp at hl4
    simp only
    rw [hx4, lt_mid, inR_mid, nth_mid, w_mid hb, pre_pos]
    simp only [cond_true]
    have hk : ∃ o5, (bif (!decide (pre = [])) then (bif room (o4.length + ([44] : List Int).length) then (some (o4 ++ ([44] : List Int))) else none) else (some o4)) = some o5 ∧ (bytesS o5 = bytesS o4 ++ (if pre = [] then [] else [44]) ∧ o5.length ≤ o4.length + 1) := by
     by_cases hp : pre = []
     ·rw [dT hp, if_pos hp]; exact ⟨o4, rfl, by simp, by omega⟩
     ·rw [dF hp, if_neg hp, room_of (by simp; omega)]; exact ⟨_, rfl, by rw [bytesS_append]; rfl, by simp⟩
    obtain ⟨o5, k1, k2, k3⟩ := hk
    rw [k1]
    simp only [Option.bind_some]
    rw [append_int (by have := hr.1.1; omega) hr.1.2 (by omega)]
    simp only [Option.bind_some]
    unfold rngT
    by_cases e : r.a0_ = r.a1_
    ·rw [dF (fun h => h e), if_pos e]
     refine ⟨_, rfl, ?_⟩
     rw [bytesS_append, bytesS_bytesI, k2]; simp
    ·have lb : (bytesI (Lib.itoa r.a0_)).length ≤ 21 := by simpa [bytesI] using l0
     rw [dT e, if_neg e, room_of (by simp only [List.length_append, List.length_cons, List.length_nil]; omega)]
     simp only [cond_true]
     rw [append_int (by have := hr.2.1; omega) hr.2.2 (by simp only [List.length_append]; simp [bytesI] at lb ⊢; omega)]
     refine ⟨_, rfl, ?_⟩
     simp only [bytesS_append, bytesS_bytesI, k2, List.append_assoc]
   ·simp only; rw [lt_end]; rfl
theorem relT_ne (x : St75) : relT x ≠ [] := by unfold relT; simp
theorem joinT_ne {T : Type} {sep : List UInt8} {f : T → List UInt8} (hf : ∀ x, f x ≠ []) {l : List T} (h : l ≠ []) : joinT sep f l ≠ [] := by
 cases l with
 | nil => exact absurd rfl h
 | cons x l => simp [joinT, hf x]
def nE (c : List (List St75)) : List (List St75) := c.filter (fun r => !decide (r = []))
theorem nE_snoc (pre : List (List St75)) (row : List St75) : nE (pre ++ [row]) = if row = [] then nE pre else nE pre ++ [row] := by
 unfold nE
 rw [List.filter_append]
 by_cases h : row = [] <;> simp [h]
theorem nE_id {c : List (List St75)} (h : ∀ row ∈ c, row ≠ []) : nE c = c := by
 unfold nE
 rw [List.filter_eq_self]
 intro row hr
 simp [h row hr]
theorem text_gen {c : List (List St75)} (h : txtOk c) : rule_Text c = some (condT (nE c)) := by
 unfold rule_Text
 obtain ⟨h1, h2⟩ := h
 have key : ∃ out2, loopN (fun (s1143 : Int × (List Int)) => (bif (decide (s1143.1 < (c.length : Int))) then (Option.bind (bif inR s1143.1 c.length then (loopN (fun (s2095 : Int × (List Int)) => (bif (decide (s2095.1 < ((nth c s1143.1).length : Int))) then (Option.bind (bif inR s2095.1 (nth c s1143.1).length then (Option.bind (bif (decide ((s2095.2.length : Int) = 0)) then (some s2095.2) else (bif (decide (s2095.1 = 0)) then (bif room (s2095.2.length + ([32, 111, 114, 32] : List UInt8).length) then (some ((s2095.2 ++ (bytesI ([32, 111, 114, 32] : List UInt8))))) else none) else (bif room (s2095.2.length + ([32, 97, 110, 100, 32] : List UInt8).length) then (some ((s2095.2 ++ (bytesI ([32, 97, 110, 100, 32] : List UInt8))))) else none))) fun (s2260 : (List Int)) => (Option.bind (rule_relation s2260 (nth (nth c s1143.1) s2095.1)) fun y2273 => (some y2273))) else none) fun (s2246 : (List Int)) => (some (.inl ((IntKind.wrap .i64 (s2095.1 + 1)), s2246)))) else (some (.inr s2095.2)))) big (0, s1143.2)) else none) fun (s2089 : (List Int)) => (some (.inl ((IntKind.wrap .i64 (s1143.1 + 1)), s2089)))) else (some (.inr s1143.2)))) big (0, ([] : List Int)) = some out2 ∧ bytesS out2 = bytesS ([] : List Int) ++ condT (nE c) := by
  have key2 : ∀ (suf pre : List (List St75)) (n : Nat) (out : List Int), c = pre ++ suf → suf.length < n → bytesS out = condT (nE pre) → ∃ out2, loopN (fun (s1143 : Int × (List Int)) => (bif (decide (s1143.1 < (c.length : Int))) then (Option.bind (bif inR s1143.1 c.length then (loopN (fun (s2095 : Int × (List Int)) => (bif (decide (s2095.1 < ((nth c s1143.1).length : Int))) then (Option.bind (bif inR s2095.1 (nth c s1143.1).length then (Option.bind (bif (decide ((s2095.2.length : Int) = 0)) then (some s2095.2) else (bif (decide (s2095.1 = 0)) then (bif room (s2095.2.length + ([32, 111, 114, 32] : List UInt8).length) then (some ((s2095.2 ++ (bytesI ([32, 111, 114, 32] : List UInt8))))) else none) else (bif room (s2095.2.length + ([32, 97, 110, 100, 32] : List UInt8).length) then (some ((s2095.2 ++ (bytesI ([32, 97, 110, 100, 32] : List UInt8))))) else none))) fun (s2260 : (List Int)) => (Option.bind (rule_relation s2260 (nth (nth c s1143.1) s2095.1)) fun y2273 => (some y2273))) else none) fun (s2246 : (List Int)) => (some (.inl ((IntKind.wrap .i64 (s2095.1 + 1)), s2246)))) else (some (.inr s2095.2)))) big (0, s1143.2)) else none) fun (s2089 : (List Int)) => (some (.inl ((IntKind.wrap .i64 (s1143.1 + 1)), s2089)))) else (some (.inr s1143.2)))) n ((pre.length : Int), out) = some out2 ∧ bytesS out2 = condT (nE c) := by
   intro suf
   induction suf with
   | nil =>
    intro pre n out hx hn ho
    obtain ⟨n, rfl⟩ : ∃ m, n = m + 1 := ⟨n - 1, by simp at hn; omega⟩
    rw [List.append_nil] at hx; subst hx
    exact ⟨out, loopN_out (by simp only; rw [lt_end]; rfl), ho⟩
   | cons row suf ih =>
    intro pre n out hx hn ho
    obtain ⟨n, rfl⟩ : ∃ m, n = m + 1 := ⟨n - 1, by simp at hn; omega⟩
    have hb : (pre ++ row :: suf).length ≤ 4611686018427387904 := by rw [← hx]; omega
    have hrow := h2 row (by rw [hx]; simp)
    have hpl : pre.length ≤ 300 := by have := congrArg List.length hx; simp at this; omega
    have hsub : ∀ r ∈ nE pre, r ∈ pre ∧ r ≠ [] := fun r hr => by simpa [nE] using hr
    have hpl2 : (nE pre).length ≤ pre.length := List.length_filter_le _ _
    have hpT : (condT (nE pre)).length ≤ 1300000000 := condT_len ⟨by omega, fun r hr => h2 r (by rw [hx]; simp [(hsub r hr).1])⟩
    have hol : out.length ≤ 1300000000 := by rw [← bytesS_len, ho]; exact hpT
    have hpne : nE pre ≠ [] → condT (nE pre) ≠ [] := fun hp => by
     cases hq : nE pre with
     | nil => exact absurd hq hp
     | cons a l =>
      unfold condT joinT
      have := joinT_ne (sep := [32, 97, 110, 100, 32]) relT_ne ((hsub a (by rw [hq]; simp)).2)
      simp only [rowT]
      intro e
      exact this (List.append_eq_nil_iff.1 e).1
    generalize hNE : nE pre = np at *
    -- the row
    have hin : ∃ out2, loopN (fun (s2095 : Int × (List Int)) => (bif (decide (s2095.1 < (row.length : Int))) then (Option.bind (bif inR s2095.1 row.length then (Option.bind (bif (decide ((s2095.2.length : Int) = 0)) then (some s2095.2) else (bif (decide (s2095.1 = 0)) then (bif room (s2095.2.length + ([32, 111, 114, 32] : List UInt8).length) then (some ((s2095.2 ++ (bytesI ([32, 111, 114, 32] : List UInt8))))) else none) else (bif room (s2095.2.length + ([32, 97, 110, 100, 32] : List UInt8).length) then (some ((s2095.2 ++ (bytesI ([32, 97, 110, 100, 32] : List UInt8))))) else none))) fun (s2260 : (List Int)) => (Option.bind (rule_relation s2260 (nth row s2095.1)) fun y2273 => (some y2273))) else none) fun (s2246 : (List Int)) => (some (.inl ((IntKind.wrap .i64 (s2095.1 + 1)), s2246)))) else (some (.inr s2095.2)))) big (0, out) = some out2 ∧ bytesS out2 = condT np ++ (if row = [] then [] else ((if np = [] then [] else [32, 111, 114, 32]) ++ rowT row)) := by
     have key3 : ∀ (sf pr : List St75) (m : Nat) (o : List Int), row = pr ++ sf → sf.length < m → bytesS o = condT np ++ (if pr = [] then [] else ((if np = [] then [] else [32, 111, 114, 32]) ++ rowT pr)) → ∃ out2, loopN (fun (s2095 : Int × (List Int)) => (bif (decide (s2095.1 < (row.length : Int))) then (Option.bind (bif inR s2095.1 row.length then (Option.bind (bif (decide ((s2095.2.length : Int) = 0)) then (some s2095.2) else (bif (decide (s2095.1 = 0)) then (bif room (s2095.2.length + ([32, 111, 114, 32] : List UInt8).length) then (some ((s2095.2 ++ (bytesI ([32, 111, 114, 32] : List UInt8))))) else none) else (bif room (s2095.2.length + ([32, 97, 110, 100, 32] : List UInt8).length) then (some ((s2095.2 ++ (bytesI ([32, 97, 110, 100, 32] : List UInt8))))) else none))) fun (s2260 : (List Int)) => (Option.bind (rule_relation s2260 (nth row s2095.1)) fun y2273 => (some y2273))) else none) fun (s2246 : (List Int)) => (some (.inl ((IntKind.wrap .i64 (s2095.1 + 1)), s2246)))) else (some (.inr s2095.2)))) m ((pr.length : Int), o) = some out2 ∧ bytesS out2 = condT np ++ (if row = [] then [] else ((if np = [] then [] else [32, 111, 114, 32]) ++ rowT row)) := by
      intro sf
      induction sf with
      | nil =>
       intro pr m o hr hm ho2
       obtain ⟨m, rfl⟩ : ∃ q, m = q + 1 := ⟨m - 1, by simp at hm; omega⟩
       rw [List.append_nil] at hr; subst hr
       exact ⟨o, loopN_out (by simp only; rw [lt_end]; rfl), ho2⟩
      | cons x sf ih2 =>
       intro pr m o hr hm ho2
       obtain ⟨m, rfl⟩ : ∃ q, m = q + 1 := ⟨m - 1, by simp at hm; omega⟩
       have hb2 : (pr ++ x :: sf).length ≤ 4611686018427387904 := by rw [← hr]; omega
       have hprT := rowT_len (row := pr) (by have := congrArg List.length hr; simp at this; omega) (fun y hy => hrow.2 y (by rw [hr]; simp [hy]))
       have hxok := hrow.2 x (by rw [hr]; simp)
       have hol2 : o.length ≤ 1400000000 := by
        rw [← bytesS_len, ho2]
        by_cases hp : pr = []
        ·rw [if_pos hp]; simp; omega
        ·rw [if_neg hp]
         by_cases hq : np = []
         ·rw [if_pos hq]; simp; omega
         ·rw [if_neg hq]; simp; omega
       have hsep : ∃ o3, (bif (decide ((o.length : Int) = 0)) then (some o) else (bif (decide ((pr.length : Int) = 0)) then (bif room (o.length + ([32, 111, 114, 32] : List UInt8).length) then (some ((o ++ (bytesI ([32, 111, 114, 32] : List UInt8))))) else none) else (bif room (o.length + ([32, 97, 110, 100, 32] : List UInt8).length) then (some ((o ++ (bytesI ([32, 97, 110, 100, 32] : List UInt8))))) else none))) = some o3 ∧ (bytesS o3 = bytesS o ++ (if pr = [] then (if np = [] then [] else [32, 111, 114, 32]) else [32, 97, 110, 100, 32]) ∧ o3.length ≤ o.length + 5) := by
        by_cases hp : pr = []
        ·subst hp
         simp only [if_true, List.append_nil] at ho2 ⊢
         by_cases hq : np = []
         ·subst hq
          have : o.length = 0 := by rw [← bytesS_len, ho2]; rfl
          rw [dT (show (o.length : Int) = 0 by omega)]
          exact ⟨o, rfl, by simp, by omega⟩
         ·have : o.length ≠ 0 := fun e => hpne hq (List.eq_nil_of_length_eq_zero (by rw [← ho2, bytesS_len]; exact e))
          rw [dF (show ¬ (o.length : Int) = 0 by omega), if_neg hq, room_of (by simp; omega)]
          exact ⟨o ++ bytesI [32, 111, 114, 32], rfl, by rw [bytesS_append, bytesS_bytesI], by simp [bytesI]⟩
        ·rw [if_neg hp] at ho2
         have hrT := joinT_ne (sep := [32, 97, 110, 100, 32]) relT_ne hp
         have : o.length ≠ 0 := fun e => by
          have e2 := List.eq_nil_of_length_eq_zero (by rw [bytesS_len]; exact e : (bytesS o).length = 0)
          rw [ho2] at e2
          exact hrT (List.append_eq_nil_iff.1 (List.append_eq_nil_iff.1 e2).2).2
         have hp0 : pr.length ≠ 0 := fun e => hp (List.eq_nil_of_length_eq_zero e)
         rw [dF (show ¬ (o.length : Int) = 0 by omega), dF (show ¬ (pr.length : Int) = 0 by omega), if_neg hp, room_of (n := o.length + ([32, 97, 110, 100, 32] : List UInt8).length) (by simp; omega)]
         exact ⟨o ++ bytesI [32, 97, 110, 100, 32], rfl, by rw [bytesS_append, bytesS_bytesI], by simp [bytesI]⟩
       obtain ⟨o3, q1, q2, q3⟩ := hsep
       obtain ⟨o4, q4, q5⟩ := relation_eq (out := o3) hxok (by omega)
       rw [loopN_next (s' := (((pr ++ [x]).length : Int), o4))]
       ·refine ih2 (pr ++ [x]) m o4 (by rw [hr]; simp) (by simp at hm; omega) ?_
        rw [q5, q2, ho2, if_neg (show ¬ (pr ++ [x] = []) by simp)]
        unfold rowT
        rw [joinT_snoc]
        by_cases hp : pr = []
        ·subst hp; simp [joinT]
        ·simp [hp]
       ·simp only
        rw [hr, lt_mid, inR_mid, nth_mid, w_mid hb2, q1]
        simp only [cond_true, Option.bind_some]
        rw [q4]; rfl
     have := key3 row [] big out rfl (by unfold big; omega) (by simp [ho])
     exact this
    obtain ⟨out2, g1, g2⟩ := hin
    rw [loopN_next (s' := (((pre ++ [row]).length : Int), out2))]
    ·refine ih (pre ++ [row]) n out2 (by rw [hx]; simp) (by simp at hn; omega) ?_
     rw [g2, nE_snoc, hNE]
     by_cases hrn : row = []
     ·rw [if_pos hrn, if_pos hrn]; simp
     ·rw [if_neg hrn, if_neg hrn]
      unfold condT
      rw [joinT_snoc]
      by_cases hp : np = []
      ·subst hp; simp [joinT]
      ·simp [hp]
    ·simp only
     rw [hx, lt_mid, inR_mid, nth_mid, w_mid hb]
     simp only [cond_true]
     rw [g1]; rfl
  have := key2 c [] big [] rfl (by unfold big; omega) (by rfl)
  simpa [bytesS] using this
 obtain ⟨out2, k1, k2⟩ := key
 rw [k1]
 simp only [Option.bind_some, k2]; rfl
theorem text_eq {c : List (List St75)} (h : txtOk c) (hne : ∀ row ∈ c, row ≠ []) : rule_Text c = some (condT c) := by
 have := text_gen h
 rwa [nE_id hne] at this
theorem join_loopB {T : Type} [Inhabited T] {sep : List UInt8} {f : T → List UInt8} {xs : List T} {M B : Nat} (hl : xs.length ≤ 1000) {base : List UInt8} {step : List UInt8 × Int → Option ((List UInt8 × Int) ⊕ List UInt8)} (hb : base.length + xs.length * (sep.length + B) ≤ M) (hf : ∀ x ∈ xs, (f x).length ≤ B)
  (hs : ∀ pre x suf (out : List UInt8), xs = pre ++ x :: suf → out.length + (sep.length + B) ≤ M → step (out, (pre.length : Int)) = some (.inl (out ++ ((if pre = [] then [] else sep) ++ f x), ((pre ++ [x]).length : Int))))
  (he : ∀ out, step (out, (xs.length : Int)) = some (.inr out)) : loopN step big (base, 0) = some (base ++ joinT sep f xs) := by
 have key : ∀ (suf pre : List T) (n : Nat), xs = pre ++ suf → suf.length < n → loopN step n (base ++ joinT sep f pre, (pre.length : Int)) = some (base ++ joinT sep f xs) := by
  intro suf
  induction suf with
  | nil =>
   intro pre n hx hn
   obtain ⟨n, rfl⟩ : ∃ m, n = m + 1 := ⟨n - 1, by simp at hn; omega⟩
   rw [List.append_nil] at hx; subst hx
   exact loopN_out (he _)
  | cons x suf ih =>
   intro pre n hx hn
   obtain ⟨n, rfl⟩ : ∃ m, n = m + 1 := ⟨n - 1, by simp at hn; omega⟩
   have hj := joinT_len sep f B pre (fun y hy => hf y (by rw [hx]; simp [hy]))
   have hm : (pre.length + 1) * (sep.length + B) ≤ xs.length * (sep.length + B) := Nat.mul_le_mul_right _ (by rw [hx]; simp)
   rw [Nat.succ_mul] at hm
   rw [loopN_next (hs pre x suf _ hx (by rw [List.length_append]; omega))]
   have := ih (pre ++ [x]) n (by rw [hx]; simp) (by simp at hn; omega)
   rw [joinT_snoc] at this
   by_cases hp : pre = []
   ·subst hp; simpa [joinT] using this
   ·simpa [hp] using this
 have := key xs [] big rfl (by unfold big; omega)
 simpa [joinT] using this
theorem sep_eq {T : Type} {pre : List T} {out sep : List UInt8} (h : out.length + sep.length ≤ 4294967296) : (bif (!decide (pre = [])) then (bif room (out.length + sep.length) then (some (out ++ sep)) else none) else (some out)) = some (out ++ (if pre = [] then [] else sep)) := by
 by_cases hp : pre = []
 ·rw [dT hp, if_pos hp]; simp
 ·rw [dF hp, if_neg hp, room_of h]; rfl
theorem rtext_eq {c : List (List St75)} (h : txtOk c) : exergueref11_Text c = some (condT c) := by
 unfold exergueref11_Text
 obtain ⟨h1, h2⟩ := h
 obtain ⟨B, hB⟩ : ∃ B : Nat, B = 4300000 := ⟨_, rfl⟩
 obtain ⟨B2, hB2⟩ : ∃ B : Nat, B = 14000 := ⟨_, rfl⟩
 obtain ⟨M, hM⟩ : ∃ B : Nat, B = 1400000000 := ⟨_, rfl⟩
 obtain ⟨M2, hM2⟩ : ∃ B : Nat, B = 1500000000 := ⟨_, rfl⟩
 obtain ⟨M3, hM3⟩ : ∃ B : Nat, B = 1600000000 := ⟨_, rfl⟩
 rw [join_loopB (sep := [32, 111, 114, 32]) (f := rowT) (xs := c) (B := B) (M := M) (by omega) ?_ (fun x hx => by have := rowT_len (h2 x hx).1 (h2 x hx).2; omega) (fun pre row suf out hx hol => ?_) (fun out => ?_)]
 ·simp [condT]
 ·have h4 := Nat.mul_le_mul_right (4 + B) h1
  show 0 + c.length * (4 + B) ≤ M
  omega
 ·have hb : (pre ++ row :: suf).length ≤ 4611686018427387904 := by rw [← hx]; omega
  have hrow := h2 row (by rw [hx]; simp)
  have hol : out.length + (4 + B) ≤ M := hol
  simp only
  rw [hx, lt_mid, inR_mid, nth_mid, w_mid hb, pre_pos, sep_eq (by simp; omega)]
  rw [cond_true, Option.bind_some]
  generalize hO : out ++ (if pre = [] then [] else [32, 111, 114, 32]) = O
  have hOl : O.length ≤ out.length + 4 := by rw [← hO]; split <;> simp
  rw [join_loopB (sep := [32, 97, 110, 100, 32]) (f := relT) (xs := row) (B := B2) (M := M2) (by omega) ?_ (fun x hx => by have := relT_len (hrow.2 x hx); omega) (fun pr x sf o hr hol2 => ?_) (fun o => ?_)]
  ·rw [Option.bind_some]
   rw [← hO, List.append_assoc]; rfl
  ·have h4 := Nat.mul_le_mul_right (5 + B2) hrow.1
   show O.length + row.length * (5 + B2) ≤ M2
   omega
  ·have hb2 : (pr ++ x :: sf).length ≤ 4611686018427387904 := by rw [← hr]; omega
   have hxok := hrow.2 x (by rw [hr]; simp)
   have hol2 : o.length + (5 + B2) ≤ M2 := hol2
   simp only
   rw [hr, lt_mid, inR_mid, nth_mid, w_mid hb2, pre_pos, sep_eq (by simp; omega)]
   rw [cond_true, Option.bind_some]
   generalize hP : o ++ (if pr = [] then [] else [32, 97, 110, 100, 32]) = P
   have hPl : P.length ≤ o.length + 5 := by rw [← hP]; split <;> simp
   obtain ⟨g1, g2, g3⟩ := hxok
   have hm := itoa_len g2
   have e1 : bytesS ([x.Op_] : List Int) = [UInt8.ofNat x.Op_.toNat] := rfl
   rw [e1, room_of (by simp; omega)]
   rw [cond_true]
   have hmod : (bif (decide (¬ (x.Mod_) = 0)) then (bif room ((P ++ [UInt8.ofNat x.Op_.toNat]).length + ([32, 37, 32] : List UInt8).length) then (Option.bind (exergueref05_Number big (x.Mod_)) fun y19078 => (bif room (((P ++ [UInt8.ofNat x.Op_.toNat]) ++ ([32, 37, 32] : List UInt8)).length + y19078.length) then (some (((P ++ [UInt8.ofNat x.Op_.toNat]) ++ ([32, 37, 32] : List UInt8)) ++ y19078)) else none)) else none) else (some (P ++ [UInt8.ofNat x.Op_.toNat]))) = some (P ++ (UInt8.ofNat x.Op_.toNat :: (if x.Mod_ = 0 then [] else [32, 37, 32] ++ Lib.itoa x.Mod_))) := by
    by_cases c0 : x.Mod_ = 0
    ·rw [dF (show ¬ ¬ (x.Mod_ = 0) from fun h => h c0), if_pos c0]; rfl
    ·rw [dT c0, if_neg c0, room_of (by simp; omega), num05_int g2.1 g2.2]
     simp only [cond_true, Option.bind_some]
     rw [room_of (by simp; omega)]
     simp
   rw [hmod, Option.bind_some]
   have hml : (UInt8.ofNat x.Op_.toNat :: (if x.Mod_ = 0 then [] else [32, 37, 32] ++ Lib.itoa x.Mod_)).length ≤ 30 := by
    split <;> simp; omega
   generalize hQ : P ++ (UInt8.ofNat x.Op_.toNat :: (if x.Mod_ = 0 then [] else [32, 37, 32] ++ Lib.itoa x.Mod_)) = Q
   have hQl : Q.length ≤ P.length + 30 := by rw [← hQ, List.length_append]; omega
   have hnot : (bif x.Not_ then (bif room (Q.length + ([32, 33, 61, 32] : List UInt8).length) then (some (Q ++ ([32, 33, 61, 32] : List UInt8))) else none) else (bif room (Q.length + ([32, 61, 32] : List UInt8).length) then (some (Q ++ ([32, 61, 32] : List UInt8))) else none)) = some (Q ++ (if x.Not_ = true then [32, 33, 61, 32] else [32, 61, 32])) := by
    cases x.Not_ with
    | true => rw [room_of (by simp; omega)]; rfl
    | false => rw [room_of (n := Q.length + ([32, 61, 32] : List UInt8).length) (by simp; omega)]; rfl
   rw [hnot, Option.bind_some]
   generalize hR : Q ++ (if x.Not_ = true then [32, 33, 61, 32] else [32, 61, 32]) = R
   have hRl : R.length ≤ Q.length + 4 := by rw [← hR]; split <;> simp
   rw [join_loopB (sep := [44]) (f := rngT) (xs := x.R_) (B := 44) (M := M3) (by omega) ?_ (fun r hr => rngT_len (g3 r hr)) (fun pe r se o4 hx4 hl4 => ?_) (fun o4 => ?_)]
   ·rw [cond_true, cond_true, cond_true, Option.bind_some]
    rw [← hR, ← hQ, ← hP]
    unfold relT
    simp only [List.append_assoc]
   ·have h4 := Nat.mul_le_mul_right (1 + 44) g1
    show R.length + x.R_.length * (1 + 44) ≤ M3
    omega
   ·have hb4 : (pe ++ r :: se).length ≤ 4611686018427387904 := by rw [← hx4]; omega
    have hr4 := g3 r (by rw [hx4]; simp)
    have l0 := itoa_len hr4.1
    have l1 := itoa_len hr4.2
    have hl4 : o4.length + (1 + 44) ≤ M3 := hl4
    simp only
    rw [hx4, lt_mid, inR_mid, nth_mid, w_mid hb4, pre_pos, sep_eq (by simp; omega)]
    rw [cond_true, Option.bind_some]
    generalize hU : o4 ++ (if pe = [] then [] else [44]) = U
    have hUl : U.length ≤ o4.length + 1 := by rw [← hU]; split <;> simp
    rw [num05_int hr4.1.1 hr4.1.2]
    simp only [Option.bind_some]
    rw [room_of (by omega)]
    simp only [cond_true]
    unfold rngT
    by_cases e : r.a0_ = r.a1_
    ·rw [dF (show ¬ ¬ (r.a1_ = r.a0_) from fun h => h e.symm), if_pos e]
     simp only [cond_false, Option.bind_some]
     rw [← hU]; simp
    ·rw [dT (show ¬ (r.a1_ = r.a0_) from fun h => e h.symm), if_neg e, room_of (by simp; omega), num05_int hr4.2.1 hr4.2.2]
     simp only [cond_true, Option.bind_some]
     rw [room_of (by simp; omega)]
     simp only [cond_true, Option.bind_some]
     rw [← hU]; simp
   ·simp only; rw [lt_end]; rfl
  ·simp only; rw [lt_end]; rfl
 ·simp only; rw [lt_end]; rfl
/-! Are there few relations, of few ranges? -/
def rngS (r : St80) : Bool := !(decide (r.a0_ < -1000000000000) || decide (r.a1_ < -1000000000000))
def relS (x : St75) : Prop := x.R_.length ≤ 200 ∧ -1000000000000 ≤ x.Mod_ ∧ ∀ r ∈ x.R_, -1000000000000 ≤ r.a0_ ∧ -1000000000000 ≤ r.a1_
def rowS (row : List St75) : Prop := row.length ≤ 200 ∧ ∀ x ∈ row, relS x
def shortP (c : List (List St75)) : Prop := c.length ≤ 200 ∧ ∀ row ∈ c, rowS row
def cntR (l : List St75) : Int := (l.map fun x => 1 + (x.R_.length : Int)).sum
def sumN (l : List (List St75)) : Int := (l.map fun row => 1 + cntR row).sum
theorem cntR_snoc (l : List St75) (x : St75) : cntR (l ++ [x]) = cntR l + (1 + (x.R_.length : Int)) := by simp [cntR]
theorem sumN_snoc (l : List (List St75)) (x : List St75) : sumN (l ++ [x]) = sumN l + (1 + cntR x) := by simp [sumN]
theorem cntR_ge (l : List St75) : (l.length : Int) ≤ cntR l := by
 induction l with
 | nil => simp [cntR]
 | cons x l ih =>
  have : cntR (x :: l) = 1 + (x.R_.length : Int) + cntR l := by simp [cntR]
  rw [this, List.length_cons]; omega
theorem sumN_ge (l : List (List St75)) : (l.length : Int) ≤ sumN l := by
 induction l with
 | nil => simp [sumN]
 | cons x l ih =>
  have : sumN (x :: l) = 1 + cntR x + sumN l := by simp [sumN]
  have h := cntR_ge x
  rw [this, List.length_cons]; omega
theorem short_ex {c : List (List St75)} (hc : c.length ≤ 140737488355328) (hr : ∀ row ∈ c, row.length ≤ 140737488355328 ∧ ∀ x ∈ row, x.R_.length ≤ 140737488355328) : ∃ b, exergueref11_Short c = some b ∧ (b = true → shortP c) := by
 unfold exergueref11_Short
 refine hbind (p := fun o : Unit ⊕ Bool => match o with | .inl _ => shortP c | .inr b => b = false) (loop_row c (fun pre => (sumN pre, (pre.length : Int))) (fun pre => sumN pre ≤ 200 ∧ ∀ row ∈ pre, rowS row) _ rfl ⟨by simp [sumN], by simp⟩ (fun pre row suf hx hI => ?_) (fun hI => ?_) (by omega)) (fun o ho => ?_)
 ·obtain ⟨hI1, hI2⟩ := hI
  have hb : (pre ++ row :: suf).length ≤ 4611686018427387904 := by rw [← hx]; omega
  obtain ⟨hrl, hrx⟩ := hr row (by rw [hx]; simp)
  have hsg := sumN_ge pre
  simp only
  rw [hx, lt_mid, inR_mid, nth_mid, w_mid hb, w64 (n := sumN pre + 1) (by omega) (by omega)]
  have hin : ∃ o : Int ⊕ Bool, (loopN (fun (s79281 : Int × Int) => (bif true then (bif (decide (s79281.2 < (row.length : Int))) then (Option.bind (bif true then (bif inR s79281.2 row.length then (Option.bind (loopN (fun (s82424 : Int) => (bif true then (bif inR s79281.2 row.length then (bif (decide (s82424 < ((((nth row s79281.2).R_).length : Int)))) then (Option.bind (Option.bind (bif true then (bif inR s79281.2 row.length then (bif inR s82424 ((nth row s79281.2).R_).length then (bif (decide (((nth ((nth row s79281.2).R_) s82424).a0_) < (-1000000000000))) then (some true) else (bif true then (bif inR s79281.2 row.length then (bif inR s82424 ((nth row s79281.2).R_).length then (some ((decide (((nth ((nth row s79281.2).R_) s82424).a1_) < (-1000000000000))))) else none) else none) else none)) else none) else none) else none) fun (s82660 : Bool) => (bif s82660 then (some (.inr (.inr (.inr (.inr (.inr (.inr (.inr (.inr (.inr false)))))))))) else (some (.inl ())))) (joinX fun (s82646 : Unit) => (some (.inl (IntKind.wrap .i64 (s82424 + 1)))))) else (some (.inr (.inl ())))) else none) else none)) big 0) (joinX fun (s82419 : Unit) => (Option.bind (bif true then (bif inR s79281.2 row.length then (bif (decide (((nth row s79281.2).Mod_) < (-1000000000000))) then (some true) else (some ((decide (((IntKind.wrap .i64 ((IntKind.wrap .i64 (s79281.1 + 1)) + ((((nth row s79281.2).R_).length : Int))))) > 200))))) else none) else none) fun (s82696 : Bool) => (bif s82696 then (some (.inr (.inr (.inr (.inr (.inr (.inr false))))))) else (some (.inl ())))))) else none) else none) (joinX fun (s82145 : Unit) => (some (.inl ((IntKind.wrap .i64 ((IntKind.wrap .i64 (s79281.1 + 1)) + ((((nth row s79281.2).R_).length : Int)))), (IntKind.wrap .i64 (s79281.2 + 1))))))) else (some (.inr (.inl s79281.1)))) else none)) big (sumN pre + 1, 0) : Option (Int ⊕ (Int ⊕ ((Int × Int) ⊕ (Unit ⊕ Bool))))) = some (match o with | .inl n => .inl n | .inr b => .inr (.inr (.inr (.inr b)))) ∧ (match o with | .inl n => n = sumN pre + 1 + cntR row ∧ (row ≠ [] → n ≤ 200) ∧ rowS row | .inr b => b = false) := by
   have hl : ∃ o, (loopN _ big (sumN pre + 1, (0 : Int)) : Option (Int ⊕ (Int ⊕ ((Int × Int) ⊕ (Unit ⊕ Bool))))) = some o ∧ (match o with | .inl n => n = sumN pre + 1 + cntR row ∧ (row ≠ [] → n ≤ 200) ∧ rowS row | .inr q => q = .inr (.inr (.inr false))) := loop_row row (fun pr => (sumN pre + 1 + cntR pr, (pr.length : Int))) (fun pr => (pr ≠ [] → sumN pre + 1 + cntR pr ≤ 200) ∧ ∀ x ∈ pr, relS x) (fun o : Int ⊕ (Int ⊕ ((Int × Int) ⊕ (Unit ⊕ Bool))) => match o with | .inl n => n = sumN pre + 1 + cntR row ∧ (row ≠ [] → n ≤ 200) ∧ rowS row | .inr q => q = .inr (.inr (.inr false))) (step := (fun (s79281 : Int × Int) => (bif true then (bif (decide (s79281.2 < (row.length : Int))) then (Option.bind (bif true then (bif inR s79281.2 row.length then (Option.bind (loopN (fun (s82424 : Int) => (bif true then (bif inR s79281.2 row.length then (bif (decide (s82424 < ((((nth row s79281.2).R_).length : Int)))) then (Option.bind (Option.bind (bif true then (bif inR s79281.2 row.length then (bif inR s82424 ((nth row s79281.2).R_).length then (bif (decide (((nth ((nth row s79281.2).R_) s82424).a0_) < (-1000000000000))) then (some true) else (bif true then (bif inR s79281.2 row.length then (bif inR s82424 ((nth row s79281.2).R_).length then (some ((decide (((nth ((nth row s79281.2).R_) s82424).a1_) < (-1000000000000))))) else none) else none) else none)) else none) else none) else none) fun (s82660 : Bool) => (bif s82660 then (some (.inr (.inr (.inr (.inr (.inr (.inr (.inr (.inr (.inr false)))))))))) else (some (.inl ())))) (joinX fun (s82646 : Unit) => (some (.inl (IntKind.wrap .i64 (s82424 + 1)))))) else (some (.inr (.inl ())))) else none) else none)) big 0) (joinX fun (s82419 : Unit) => (Option.bind (bif true then (bif inR s79281.2 row.length then (bif (decide (((nth row s79281.2).Mod_) < (-1000000000000))) then (some true) else (some ((decide (((IntKind.wrap .i64 ((IntKind.wrap .i64 (s79281.1 + 1)) + ((((nth row s79281.2).R_).length : Int))))) > 200))))) else none) else none) fun (s82696 : Bool) => (bif s82696 then (some (.inr (.inr (.inr (.inr (.inr (.inr false))))))) else (some (.inl ())))))) else none) else none) (joinX fun (s82145 : Unit) => (some (.inl ((IntKind.wrap .i64 ((IntKind.wrap .i64 (s79281.1 + 1)) + ((((nth row s79281.2).R_).length : Int)))), (IntKind.wrap .i64 (s79281.2 + 1))))))) else (some (.inr (.inl s79281.1)))) else none))) (by simp [cntR]) ⟨by simp, by simp⟩ (fun pr x sf hy hJ => by
    obtain ⟨hJ1, hJ2⟩ := hJ
    have hb2 : (pr ++ x :: sf).length ≤ 4611686018427387904 := by rw [← hy]; omega
    have hxl := hrx x (by rw [hy]; simp)
    have hcg := cntR_ge pr
    have hcu : cntR pr ≤ 200 := by
     by_cases hp : pr = []
     ·subst hp; simp [cntR]
     ·have := hJ1 hp; omega
    simp only
    rw [hy, lt_mid, inR_mid, nth_mid, w_mid hb2]
    rw [w64 (n := sumN pre + 1 + cntR pr + 1) (by omega) (by omega), w64 (by omega) (by omega)]
    have hrg : ∀ {O : Type} (bad : O), loopN (fun (s82424 : Int) => (bif true then (bif true then (bif (decide (s82424 < (((x.R_).length : Int)))) then (Option.bind (Option.bind (bif true then (bif true then (bif inR s82424 (x.R_).length then (bif (decide (((nth (x.R_) s82424).a0_) < (-1000000000000))) then (some true) else (bif true then (bif true then (bif inR s82424 (x.R_).length then (some ((decide (((nth (x.R_) s82424).a1_) < (-1000000000000))))) else none) else none) else none)) else none) else none) else none) fun (s82660 : Bool) => (bif s82660 then (some (.inr (.inr (.inr bad)))) else (some (.inl ())))) (joinX fun (s82646 : Unit) => (some (.inl (IntKind.wrap .i64 (s82424 + 1)))))) else (some (.inr (.inl ())))) else none) else none)) big 0 = some (if x.R_.all rngS = true then (.inl () : Unit ⊕ O) else .inr bad) := by
     intro O bad
     rw [loop_all rngS x.R_ (fun pe => (pe.length : Int)) (.inl ()) (.inr bad)]
     ·rfl
     ·intro pe r se h
      have hl2 : (pe ++ r :: se).length ≤ 4611686018427387904 := by rw [← h]; omega
      rw [h, lt_mid, inR_mid, nth_mid, w_mid hl2]
      unfold rngS
      by_cases g : r.a0_ < -1000000000000
      ·rw [dT g]; rfl
      ·rw [dF g]
       by_cases g2 : r.a1_ < -1000000000000
       ·rw [dT g2]; rfl
       ·rw [dF g2]; rfl
     ·rw [lt_end]; rfl
     ·omega
    rw [hrg]
    cases hall : x.R_.all rngS with
    | false => exact .inr ⟨_, rfl, rfl⟩
    | true =>
     by_cases g3 : x.Mod_ < -1000000000000
     ·right
      rw [dT g3]
      exact ⟨_, rfl, rfl⟩
     ·by_cases g4 : sumN pre + 1 + cntR pr + 1 + (x.R_.length : Int) > 200
      ·right
       rw [dF g3, dT g4]
       exact ⟨_, rfl, rfl⟩
      ·left
       rw [dF g3, dF g4]
       refine ⟨by rw [cntR_snoc, show sumN pre + 1 + (cntR pr + (1 + (x.R_.length : Int))) = sumN pre + 1 + cntR pr + 1 + (x.R_.length : Int) by omega]; rfl, fun _ => by rw [cntR_snoc]; omega, fun z hz => ?_⟩
       rcases List.mem_append.1 hz with hz | hz
       ·exact hJ2 z hz
       ·rw [List.mem_singleton.1 hz]
        refine ⟨by omega, by omega, fun r hr2 => ?_⟩
        have := List.all_eq_true.1 hall r hr2
        unfold rngS at this
        simp at this
        omega) (fun hJ => by
    refine ⟨.inl (sumN pre + 1 + cntR row), by simp only; rw [lt_end]; rfl, rfl, hJ.1, ?_, hJ.2⟩
    have := cntR_ge row
    by_cases hp : row = []
    ·subst hp; simp
    ·have := hJ.1 hp; omega) (by omega)
   obtain ⟨o, o1, o2⟩ := hl
   cases o with
   | inl n => exact ⟨.inl n, o1, o2⟩
   | inr q =>
    simp only at o2
    subst o2
    exact ⟨.inr false, o1, rfl⟩
  obtain ⟨o, o1, o2⟩ := hin
  rw [o1]
  cases o with
  | inr b =>
   simp only at o2
   subst o2
   exact .inr ⟨.inr false, rfl, rfl⟩
  | inl n =>
   simp only at o2
   obtain ⟨e1, e2, e3⟩ := o2
   by_cases g : n > 200
   ·right
    refine ⟨.inr false, ?_, rfl⟩
    simp only [cond_true, Option.bind_some, joinX]
    rw [dT g]; rfl
   ·left
    simp only [cond_true, Option.bind_some, joinX]
    rw [dF g]
    refine ⟨by rw [sumN_snoc, ← Int.add_assoc, ← e1]; rfl, by rw [sumN_snoc]; omega, fun z hz => ?_⟩
    rcases List.mem_append.1 hz with hz | hz
    ·exact hI2 z hz
    ·rw [List.mem_singleton.1 hz]; exact e3
 ·refine ⟨.inl (), by simp only; rw [lt_end]; rfl, ?_, hI.2⟩
  have := sumN_ge c
  omega
 ·cases o with
  | inl u => exact ⟨true, rfl, fun _ => ho⟩
  | inr b =>
   have ho : b = false := ho
   subst ho
   exact ⟨false, rfl, fun h => by cases h⟩
/-! A text with more blanks, or with something behind. -/
def parseC (s : List UInt8) : Option (List (List St75)) := if s.length > 400 then none else match condG 1000 (sk s) with
 | none => none
 | some c => if many c = true then none else some c
theorem pOut_some {s : List UInt8} {o : List (List St75) × Int × Int} (h : pOut s o) {c : List (List St75)} (hc : parseC s = some c) : o = (c, 0, 0) := by
 unfold pOut at h
 unfold parseC at hc
 split at hc
 ·cases hc
 ·rename_i hl
  rw [if_neg hl] at h
  cases hg : condG 1000 (sk s) with
  | none => rw [hg] at hc; cases hc
  | some d =>
   rw [hg] at hc h
   simp only at hc h
   split at hc
   ·cases hc
   ·rename_i hm
    rw [if_neg hm] at h
    cases hc; exact h
theorem pOut_none {s : List UInt8} {o : List (List St75) × Int × Int} (h : pOut s o) (hc : parseC s = none) : o.1 = [] ∧ ((o.2.2 = 2 ∧ s.length ≤ 400 ∧ condG 1000 (sk s) = none) ∨ (o.2.2 = 11 ∧ (s.length > 400 ∨ ∃ c, condG 1000 (sk s) = some c ∧ many c = true))) := by
 unfold pOut at h
 unfold parseC at hc
 split at hc
 ·rename_i hl
  rw [if_pos hl] at h
  subst h
  exact ⟨rfl, .inr ⟨rfl, .inl hl⟩⟩
 ·rename_i hl
  rw [if_neg hl] at h
  cases hg : condG 1000 (sk s) with
  | none =>
   rw [hg] at h
   exact ⟨h.1, .inl ⟨h.2, by omega, rfl⟩⟩
  | some d =>
   rw [hg] at hc h
   simp only at hc h
   split at hc
   ·rename_i hm
    rw [if_pos hm] at h
    subst h
    exact ⟨rfl, .inr ⟨rfl, .inr ⟨d, rfl, hm⟩⟩⟩
   ·cases hc
theorem parseC_spec {s : List UInt8} {c : List (List St75)} (hc : parseC s = some c) : s.length ≤ 400 ∧ condG 1000 (sk s) = some c ∧ many c = false := by
 unfold parseC at hc
 split at hc
 ·cases hc
 ·rename_i hl
  cases hg : condG 1000 (sk s) with
  | none => rw [hg] at hc; cases hc
  | some d =>
   rw [hg] at hc
   simp only at hc
   split at hc
   ·cases hc
   ·rename_i hm
    cases hc
    exact ⟨by omega, rfl, by simpa using hm⟩
def rightC (c : List (List St75)) : Bool := decide (parseC (condT c) = some c)
theorem rright_eq11 {c : List (List St75)} (h : txtOk c) (hl : lenOk c) : exergueref11_Right c = some (rightC c) := by
 unfold exergueref11_Right rightC
 rw [rtext_eq h]
 obtain ⟨o, o1, o2⟩ := rparse_of (s := condT c)
 simp only [Option.bind_some]
 rw [o1]
 simp only [Option.bind_some]
 cases hp : parseC (condT c) with
 | some d =>
  have := pOut_some o2 hp
  subst this
  simp only [decide_true, cond_true]
  rw [rsame_eq hl]
  simp only [Option.bind_some]
  congr 1
  exact decide_eq_decide.2 ⟨fun h => by rw [h], fun h => (Option.some.inj h).symm⟩
 | none =>
  obtain ⟨_, h2⟩ := pOut_none o2 hp
  have : ¬ o.2.2 = 0 := by rcases h2 with h2 | h2 <;> omega
  rw [dF this]
  simp
theorem right_eq11 {c : List (List St75)} (h : txtOk c) (hl : lenOk c) (hne : ∀ row ∈ c, row ≠ []) : rule_Right c = some (rightC c) := by
 unfold rule_Right rightC
 have hT := condT_len h
 rw [text_eq h hne]
 obtain ⟨o, o1, o2⟩ := iparse_of (s := condT c) (by omega)
 simp only [Option.bind_some]
 rw [o1]
 simp only [Option.bind_some]
 cases hp : parseC (condT c) with
 | some d =>
  have := pOut_some o2 hp
  subst this
  simp only [decide_true, cond_true]
  rw [same_eq hl]
  simp only [Option.bind_some]
  congr 1
  exact decide_eq_decide.2 ⟨fun h => by rw [h], fun h => (Option.some.inj h).symm⟩
 | none =>
  obtain ⟨_, h2⟩ := pOut_none o2 hp
  have : ¬ o.2.2 = 0 := by rcases h2 with h2 | h2 <;> omega
  rw [dF this]
  simp
theorem rightC_ne {c : List (List St75)} (h : rightC c = true) : c ≠ [] ∧ ∀ row ∈ c, row ≠ [] := by
 have h := of_decide_eq_true h
 exact condG_ne 1000 _ c (parseC_spec h).2.1
theorem shortP_ok {c : List (List St75)} (h : shortP c) (hw : ∀ row ∈ c, ∀ x ∈ row, x.Mod_ ≤ 9223372036854775807 ∧ ∀ r ∈ x.R_, r.a0_ ≤ 9223372036854775807 ∧ r.a1_ ≤ 9223372036854775807) : txtOk c ∧ lenOk c := by
 obtain ⟨h1, h2⟩ := h
 refine ⟨⟨by omega, fun row hrow => ⟨by have := (h2 row hrow).1; omega, fun x hx => ?_⟩⟩, by omega, fun row hrow => ⟨by have := (h2 row hrow).1; omega, fun x hx => by have := ((h2 row hrow).2 x hx).1; omega⟩⟩
 obtain ⟨g1, g2, g3⟩ := (h2 row hrow).2 x hx
 obtain ⟨w1, w2⟩ := hw row hrow x hx
 exact ⟨by omega, ⟨by omega, w1⟩, fun r hr => ⟨⟨by have := (g3 r hr).1; omega, (w2 r hr).1⟩, ⟨by have := (g3 r hr).2; omega, (w2 r hr).2⟩⟩⟩
theorem numG_range {l : Int} {t : List UInt8} {r : Int × List UInt8} (h : numG l t = some r) : 0 ≤ r.1 ∧ r.1 < 1000000000 ∧ l ≤ r.1 := by
 unfold numG at h
 split at h
 ·cases h
 ·rename_i hb
  cases h
  simp only [badNum, Bool.or_eq_true, decide_eq_true_eq, not_or] at hb
  have h1 := valB_bound _ (tw_all isD t)
  have h2 := pow9 (n := (t.takeWhile isD).length) (by omega)
  exact ⟨h1.1, by simp only; omega, by simp only; omega⟩
def numP (x : St75) : Prop := (0 ≤ x.Mod_ ∧ x.Mod_ < 1000000000) ∧ ∀ r ∈ x.R_, (0 ≤ r.a0_ ∧ r.a0_ < 1000000000) ∧ (0 ≤ r.a1_ ∧ r.a1_ < 1000000000)
theorem rng_range {t : List UInt8} {r : St80 × List UInt8} (h : rng t = some r) : (0 ≤ r.1.a0_ ∧ r.1.a0_ < 1000000000) ∧ (0 ≤ r.1.a1_ ∧ r.1.a1_ < 1000000000) := by
 unfold rng at h
 cases hn : numG 0 t with
 | none => rw [hn] at h; cases h
 | some a =>
  rw [hn] at h
  have h1 := numG_range hn
  simp only [Option.bind_some] at h
  cases hs : sgn [46, 46] a.2 with
  | none => rw [hs] at h; cases h; exact ⟨⟨h1.1, h1.2.1⟩, ⟨h1.1, h1.2.1⟩⟩
  | some t2 =>
   rw [hs] at h
   simp only at h
   cases hn2 : numG (a.1 + 1) t2 with
   | none => rw [hn2] at h; cases h
   | some b =>
    rw [hn2] at h
    have h2 := numG_range hn2
    cases h
    exact ⟨⟨h1.1, h1.2.1⟩, ⟨h2.1, h2.2.1⟩⟩
theorem rngs_range : ∀ (n : Nat) {t : List UInt8} {r : List St80 × List UInt8}, rngs n t = some r → ∀ q ∈ r.1, (0 ≤ q.a0_ ∧ q.a0_ < 1000000000) ∧ (0 ≤ q.a1_ ∧ q.a1_ < 1000000000)
 | 0, _, _, h => by cases h
 | n + 1, t, r, h => by
  rw [rngs_succ] at h
  cases hn : rng t with
  | none => rw [hn] at h; cases h
  | some a =>
   rw [hn] at h
   have h1 := rng_range hn
   simp only [Option.bind_some] at h
   cases hs : sgn [44] a.2 with
   | none =>
    rw [hs] at h; cases h
    intro q hq
    rw [List.mem_singleton.1 hq]; exact h1
   | some t2 =>
    rw [hs] at h
    simp only at h
    cases hn2 : rngs n t2 with
    | none => rw [hn2] at h; cases h
    | some b =>
     rw [hn2] at h
     cases h
     intro q hq
     rcases List.mem_cons.1 hq with rfl | hq
     ·exact h1
     ·exact rngs_range n hn2 q hq
theorem relG_range {t : List UInt8} {r : St75 × List UInt8} (h : relG t = some r) : numP r.1 := by
 unfold relG at h
 cases h1 : opG t with
 | none => rw [h1] at h; cases h
 | some c =>
  rw [h1] at h
  simp only [Option.bind_some] at h
  cases h2 : modG c.2 with
  | none => rw [h2] at h; cases h
  | some m =>
   rw [h2] at h
   simp only [Option.bind_some] at h
   cases h3 : signG m.2 with
   | none => rw [h3] at h; cases h
   | some s =>
    rw [h3] at h
    simp only [Option.bind_some] at h
    cases h4 : rngs 1000 s.2 with
    | none => rw [h4] at h; cases h
    | some q =>
     rw [h4] at h
     cases h
     refine ⟨?_, rngs_range 1000 h4⟩
     unfold modG at h2
     cases hs : sgn [37] c.2 with
     | none => rw [hs] at h2; cases h2; exact ⟨Int.le_refl 0, show (0 : Int) < 1000000000 by decide⟩
     | some t2 =>
      rw [hs] at h2
      have := numG_range h2
      exact ⟨this.1, this.2.1⟩
theorem condG_range : ∀ (n : Nat) {t : List UInt8} {c : List (List St75)}, condG n t = some c → ∀ row ∈ c, ∀ x ∈ row, numP x
 | 0, _, _, h => by cases h
 | n + 1, t, c, h => by
  rw [condG_succ] at h
  cases hr : relG t with
  | none => rw [hr] at h; cases h
  | some x =>
   rw [hr] at h
   have hx := relG_range hr
   simp only [Option.bind_some] at h
   split at h
   ·cases h
    intro row hrow y hy
    rw [List.mem_singleton.1 hrow] at hy
    rw [List.mem_singleton.1 hy]; exact hx
   ·split at h
    ·cases hd : condG n (sk (x.2.dropWhile isL)) with
     | none => rw [hd] at h; cases h
     | some d =>
      rw [hd] at h
      have ih := condG_range n hd
      cases d with
      | nil => cases h
      | cons r l =>
       cases h
       intro row hrow y hy
       rcases List.mem_cons.1 hrow with rfl | hrow
       ·rcases List.mem_cons.1 hy with rfl | hy
        ·exact hx
        ·exact ih r (List.mem_cons_self ..) y hy
       ·exact ih row (List.mem_cons_of_mem _ hrow) y hy
    ·split at h
     ·cases hd : condG n (sk (x.2.dropWhile isL)) with
      | none => rw [hd] at h; cases h
      | some d =>
       rw [hd] at h
       have ih := condG_range n hd
       cases h
       intro row hrow y hy
       rcases List.mem_cons.1 hrow with rfl | hrow
       ·rw [List.mem_singleton.1 hy]; exact hx
       ·exact ih row hrow y hy
     ·cases h
theorem figsP_digs (n : Nat) : figsP (digsN n) := by
 induction n using Nat.strongRecOn with
 | _ n ih =>
  by_cases h : n = 0
  ·subst h; rw [digsN_zero]; intro x hx; cases hx
  ·rw [digsN_pos h]
   intro x hx
   rcases List.mem_append.1 hx with hx | hx
   ·exact ih (n / 10) (by omega) x hx
   ·simp at hx; omega
theorem opnd_figs {o : St33} {x : Int} (hI : figsP o.I_) (hF : figsP o.F_) : figsP (opnd o x).1 := by
 have ht : figsP (o.F_.take o.W_.toNat) := fun y hy => hF y (List.mem_of_mem_take hy)
 have h0 : figsP [] := fun y hy => by cases hy
 unfold opnd
 repeat' split
 all_goals first | exact h0 | exact hI | exact figsP_digs _ | exact figsP_bare hF | exact figsP_bare ht
theorem opnd_short {o : St33} {x : Int} (hr : rightB o = true) (h1 : o.I_.length ≤ 1000) (h2 : o.F_.length ≤ 1000) : (opnd o x).1.length ≤ 2000 := by
 obtain ⟨_, _, _, hw, hc0, hc⟩ := rightB_iff.1 hr
 have hfl := full_le o.F_
 have d1 := digs_short (n := o.F_.length) (by omega)
 have d2 := digs_short (n := o.W_.toNat) (by omega)
 have d3 := digs_short (n := o.C_.toNat) (by omega)
 have b1 := bare_len o.F_
 have b2 := bare_len (o.F_.take o.W_.toNat)
 have b3 : (o.F_.take o.W_.toNat).length ≤ 1000 := by rw [List.length_take]; omega
 unfold opnd
 repeat' split
 all_goals simp only [List.length_nil]
 all_goals omega
/-! Of what a condition holds. -/
def inV (l : List Int) (m a b : Int) : Bool := decide (a ≤ (if m = 0 then val l else val l % m) ∧ (if m = 0 then val l else val l % m) ≤ b)
def askB (o : St33) (x : St75) : Bool := ((opnd o x.Op_).2 && x.R_.any (fun r => inV (opnd o x.Op_).1 x.Mod_ r.a0_ r.a1_)) != x.Not_
def holdsB (c : List (List St75)) (o : St33) : Bool := c.any (fun row => row.all (askB o))
theorem any_loop {T : Type} [Inhabited T] {xs : List T} (f : T → Bool) (hb : xs.length ≤ 4611686018427387904) {step : Int → Option (Int ⊕ (Unit ⊕ Int))}
  (hs : ∀ pre x suf, xs = pre ++ x :: suf → step (pre.length : Int) = some (if f x = true then .inr (.inr (pre.length : Int)) else .inl (((pre ++ [x]).length : Nat) : Int))) (he : step (xs.length : Int) = some (.inr (.inl ()))) :
  ∃ o, loopN step big 0 = some o ∧ (match o with | .inl _ => xs.any f = false | .inr n => 0 ≤ n ∧ xs.any f = true) := by
 refine loop_row xs (fun pre => (pre.length : Int)) (fun pre => pre.any f = false) (fun o : Unit ⊕ Int => match o with | .inl _ => xs.any f = false | .inr n => 0 ≤ n ∧ xs.any f = true) rfl rfl (fun pre x suf h hi => ?_) (fun hi => ⟨.inl (), he, hi⟩) (by omega)
 rw [hs pre x suf h]
 cases hf : f x with
 | true =>
  right
  refine ⟨.inr (pre.length : Int), rfl, by omega, ?_⟩
  rw [h]; simp [hf]
 | false =>
  left
  exact ⟨rfl, by simp [List.any_append, hf] at hi ⊢; exact hi⟩
theorem idxA {xs : List St80} {l : List Int} {f : St80 → Bool} (hb : xs.length ≤ 4611686018427387904) (hf : ∀ x ∈ xs, rule_holding_1_s0 x l = some (f x)) : slices_ContainsFunc_s0 xs l = some (xs.any f) := by
 unfold slices_ContainsFunc_s0 slices_IndexFunc_s0
 obtain ⟨o, h1, h2⟩ := any_loop f hb (xs := xs) (step := (fun (s54 : Int) => (bif (decide (s54 < (xs.length : Int))) then (bif inR s54 xs.length then (Option.bind (rule_holding_1_s0 (nth xs s54) l) fun y80 => (bif y80 then (some (.inr (.inr s54))) else (some (.inl (IntKind.wrap .i64 (s54 + 1)))))) else none) else (some (.inr (.inl ())))))) (fun pre x suf h => by
  have hb2 : (pre ++ x :: suf).length ≤ 4611686018427387904 := by rw [← h]; exact hb
  have hx := hf x (by rw [h]; simp)
  rw [h, lt_mid, inR_mid, nth_mid, w_mid hb2, hx]
  cases f x <;> rfl) (by rw [lt_end]; rfl)
 rw [h1]
 cases o with
 | inl u => have h2 : xs.any f = false := h2
            rw [h2]; rfl
 | inr n =>
  obtain ⟨g1, g2⟩ : 0 ≤ n ∧ xs.any f = true := h2
  rw [g2]
  simp only [Option.bind_some, joinX]
  rw [dT (show n ≥ 0 by omega)]
theorem idxB {xs : List St80} {l : Int} {f : St80 → Bool} (hb : xs.length ≤ 4611686018427387904) (hf : ∀ x ∈ xs, rule_holding_2_s0 x l = some (f x)) : slices_ContainsFunc_s1 xs l = some (xs.any f) := by
 unfold slices_ContainsFunc_s1 slices_IndexFunc_s1
 obtain ⟨o, h1, h2⟩ := any_loop f hb (xs := xs) (step := (fun (s54 : Int) => (bif (decide (s54 < (xs.length : Int))) then (bif inR s54 xs.length then (Option.bind (rule_holding_2_s0 (nth xs s54) l) fun y80 => (bif y80 then (some (.inr (.inr s54))) else (some (.inl (IntKind.wrap .i64 (s54 + 1)))))) else none) else (some (.inr (.inl ())))))) (fun pre x suf h => by
  have hb2 : (pre ++ x :: suf).length ≤ 4611686018427387904 := by rw [← h]; exact hb
  have hx := hf x (by rw [h]; simp)
  rw [h, lt_mid, inR_mid, nth_mid, w_mid hb2, hx]
  cases f x <;> rfl) (by rw [lt_end]; rfl)
 rw [h1]
 cases o with
 | inl u => have h2 : xs.any f = false := h2
            rw [h2]; rfl
 | inr n =>
  obtain ⟨g1, g2⟩ : 0 ≤ n ∧ xs.any f = true := h2
  rw [g2]
  simp only [Option.bind_some, joinX]
  rw [dT (show n ≥ 0 by omega)]
theorem asksB {x : St75} {o : St33} (h1 : o.I_.length ≤ 1000) (h2 : o.F_.length ≤ 1000) (hr : rightB o = true) (hf : figsP (opnd o x.Op_).1) (hl : (opnd o x.Op_).1.length ≤ 2000) (hx : numP x) (hb : x.R_.length ≤ 4611686018427387904) : rule_asks_1_s0 x o.I_ o.F_ o.W_ o.C_ = some (askB o x) := by
 unfold rule_asks_1_s0 askB
 have ho : oper_Operand (⟨o.I_, o.F_, o.W_, o.C_⟩ : St33) x.Op_ = some (opnd o x.Op_) := by
  have := operand_eq (o := o) (x := x.Op_) (by omega) (by omega)
  rw [if_pos hr] at this
  exact this
 rw [ho]
 simp only [Option.bind_some]
 cases h3 : (opnd o x.Op_).2 with
 | false => rfl
 | true =>
  simp only [cond_true]
  unfold rule_holding_s0 inV
  by_cases h0 : x.Mod_ = 0
  ·rw [dT h0]
   simp only [cond_true, Option.bind_some, Sum.elim_inl]
   rw [idxA (f := fun r => decide (r.a0_ ≤ val (opnd o x.Op_).1 ∧ val (opnd o x.Op_).1 ≤ r.a1_)) hb]
   ·simp only [if_pos h0]
    simp
   ·intro r hrr
    have := hx.2 r hrr
    unfold rule_holding_1_s0
    rw [in_eq hf (by omega) (by omega) (by omega)]; rfl
  ·have hm := hx.1
   rw [dF h0, mod_eq hf (by omega) (by omega) (by omega)]
   simp only [cond_false, Option.bind_some, Sum.elim_inr]
   rw [idxB (f := fun r => decide (r.a0_ ≤ val (opnd o x.Op_).1 % x.Mod_ ∧ val (opnd o x.Op_).1 % x.Mod_ ≤ r.a1_)) hb]
   ·simp only [if_neg h0]
    simp
   ·intro r hrr
    unfold rule_holding_2_s0
    by_cases g1 : r.a0_ ≤ val (opnd o x.Op_).1 % x.Mod_ <;> by_cases g2 : val (opnd o x.Op_).1 % x.Mod_ ≤ r.a1_ <;> simp [g1, g2]
def numPs (c : List (List St75)) : Prop := ∀ row ∈ c, ∀ x ∈ row, numP x
structure OperOk (o : St33) : Prop where
 i : o.I_.length ≤ 1000
 f : o.F_.length ≤ 1000
 r : rightB o = true
 figs : ∀ x, figsP (opnd o x).1
 len : ∀ x, (opnd o x).1.length ≤ 2000
theorem operOk {o : St33} (w : WfL (WfI .u8) o.I_) (w2 : WfL (WfI .u8) o.F_) (hr : rightB o = true) (hl : o.I_.length + o.F_.length ≤ 1000) : OperOk o := by
 have hrr := rightB_iff.1 hr
 have fI := figsP_of hrr.1 (figs_nonneg w)
 have fF := figsP_of hrr.2.1 (figs_nonneg w2)
 exact ⟨by omega, by omega, hr, fun x => opnd_figs fI fF, fun x => opnd_short hr (by omega) (by omega)⟩
theorem holds_eq {c : List (List St75)} {o : St33} (ho : OperOk o) (hc : numPs c) (hl : lenOk c) : rule_Holds c o = some (holdsB c o) := by
 unfold rule_Holds holdsB
 rw [show rule_asks_s0 o = some () from rfl]
 simp only [Option.bind_some]
 refine bind_of (fun q : Unit ⊕ Bool => match q with | .inl _ => c.any (fun row => row.all (askB o)) = false | .inr b => b = true ∧ c.any (fun row => row.all (askB o)) = true) (loop_row c (fun pre => (pre.length : Int)) (fun pre => pre.any (fun row => row.all (askB o)) = false) _ rfl rfl (fun pre row suf h hi => ?_) (fun hi => ⟨.inl (), by rw [lt_end]; rfl, hi⟩) (by have := hl.1; omega)) (fun q hq => ?_)
 ·have hb2 : (pre ++ row :: suf).length ≤ 4611686018427387904 := by rw [← h]; exact hl.1
  have hrow : row ∈ c := by rw [h]; simp
  obtain ⟨hrl, hrx⟩ := hl.2 row hrow
  rw [h, lt_mid, inR_mid, nth_mid, w_mid hb2]
  simp only [cond_true]
  have hin : loopN (fun (s1293 : Int) => (bif (decide (s1293 < (row.length : Int))) then (bif inR s1293 row.length then (Option.bind (rule_asks_1_s0 (nth row s1293) o.I_ o.F_ o.W_ o.C_) fun y1330 => (bif (!y1330) then (some (.inr (.inr (.inl ())))) else (some (.inl (IntKind.wrap .i64 (s1293 + 1)))))) else none) else (some (.inr (.inl ()))))) big 0 = some (if row.all (askB o) = true then (.inl () : Unit ⊕ (Unit ⊕ (Int ⊕ (Unit ⊕ Bool)))) else .inr (.inl ())) := by
   rw [loop_all (askB o) row (fun pre => (pre.length : Int)) (.inl ()) (.inr (.inl ()))]
   ·rfl
   ·intro pr x sf h2
    have hb3 : (pr ++ x :: sf).length ≤ 4611686018427387904 := by rw [← h2]; exact hrl
    have hxr : x ∈ row := by rw [h2]; simp
    rw [h2, lt_mid, inR_mid, nth_mid, w_mid hb3, asksB ho.i ho.f ho.r (ho.figs _) (ho.len _) (hc row hrow x hxr) (hrx x hxr)]
    cases askB o x <;> rfl
   ·rw [lt_end]; rfl
   ·omega
  rw [hin]
  cases hall : row.all (askB o) with
  | true =>
   right
   refine ⟨.inr true, rfl, rfl, ?_⟩
   rw [List.any_append, List.any_cons, hall]; simp
  | false =>
   left
   refine ⟨rfl, ?_⟩
   rw [List.any_append, hi, List.any_cons, hall]; rfl
 ·cases q with
  | inl u => have hq : c.any (fun row => row.all (askB o)) = false := hq
             rw [hq]; rfl
  | inr b =>
   obtain ⟨q1, q2⟩ : b = true ∧ c.any (fun row => row.all (askB o)) = true := hq
   rw [q1, q2]; rfl
/-! Of what a condition holds, by the other way. -/
theorem rin_eq {xs : List Int} {a b : Int} (hf : figsP xs) (hl : xs.length ≤ 4294967296) (ha : -9223372036854775808 ≤ a ∧ a < 9223372036854775808) (hb : -9223372036854775808 ≤ b ∧ b < 9223372036854775808) :
  exergueref07_In xs a b = some (decide (a ≤ val xs ∧ val xs ≤ b)) := by
 have hv := val_nonneg hf
 unfold exergueref07_In
 rw [rbare_eq hl]
 simp only [Option.bind_some]
 by_cases h19 : (bare xs).length > 19
 ·rw [dT (by omega)]
  simp only [cond_true]
  congr 1
  symm
  refine decide_eq_false ?_
  obtain ⟨x, l, hxl⟩ : ∃ x l, bare xs = x :: l := by
   cases hb : bare xs with
   | nil => rw [hb] at h19; simp at h19
   | cons x l => exact ⟨x, l, rfl⟩
  have hfb := figsP_bare hf
  rw [hxl] at hfb h19
  have := val_ge hfb (bare_head hxl)
  have h2 : 10 ^ 19 ≤ 10 ^ l.length := Nat.pow_le_pow_right (by decide) (by simp at h19; omega)
  rw [← hxl, val_bare] at this
  omega
 ·rw [dF (by omega)]
  simp only [cond_false]
  rw [val_loop (figsP_bare hf) (by omega), val_bare]
  simp only [Option.bind_some]
  by_cases hb0 : b < 0
  ·rw [dF (show ¬ b ≥ 0 by omega)]
   simp only [cond_false, Option.bind_some]
   congr 1
   exact (decide_eq_false (by omega)).symm
  ·rw [dT (show b ≥ 0 by omega), wu64 (n := b) (by omega) (by omega)]
   simp only [cond_true]
   by_cases c1 : val xs ≤ b
   ·rw [dT c1]
    simp only [cond_true]
    by_cases ha0 : a < 0
    ·rw [dT ha0]
     simp only [cond_true, Option.bind_some]
     congr 1
     exact (decide_eq_true (by omega)).symm
    ·rw [dF ha0, wu64 (n := a) (by omega) (by omega)]
     simp only [cond_false, Option.bind_some]
     congr 1
     exact decide_eq_decide.2 (by omega)
   ·rw [dF c1]
    simp only [cond_false, Option.bind_some]
    congr 1
    exact (decide_eq_false (by omega)).symm
def figB (l : List UInt8) : List Int := l.map (fun b => IntKind.wrap .u8 ((b.toNat : Int) - 48))
theorem figB_digit {n : Nat} (h : n < 10) : IntKind.wrap .u8 (((UInt8.ofNat (48 + n)).toNat : Int) - 48) = (n : Int) := by
 have : ∀ k : Fin 10, IntKind.wrap .u8 (((UInt8.ofNat (48 + k.val)).toNat : Int) - 48) = (k.val : Int) := by decide
 exact this ⟨n, h⟩
theorem figB_dec (n : Nat) : figsP (figB (Lib.decDigits n)) ∧ val (figB (Lib.decDigits n)) = (n : Int) := by
 induction n using Nat.strongRecOn with
 | _ n ih =>
  by_cases h : n < 10
  ·rw [Lib.decDigits, dif_pos h]
   refine ⟨fun x hx => ?_, ?_⟩
   ·have hx : x ∈ [IntKind.wrap .u8 (((UInt8.ofNat (48 + n)).toNat : Int) - 48)] := hx
    rw [figB_digit h, List.mem_singleton] at hx
    omega
   ·show val [IntKind.wrap .u8 (((UInt8.ofNat (48 + n)).toNat : Int) - 48)] = _
    rw [figB_digit h]; simp [val]
  ·obtain ⟨h1, h2⟩ := ih (n / 10) (by omega)
   rw [Lib.decDigits, dif_neg h]
   have e : figB (Lib.decDigits (n / 10) ++ [UInt8.ofNat (48 + n % 10)]) = figB (Lib.decDigits (n / 10)) ++ [((n % 10 : Nat) : Int)] := by
    unfold figB
    rw [List.map_append, List.map_cons, List.map_nil, figB_digit (by omega)]
   rw [e]
   refine ⟨fun x hx => ?_, ?_⟩
   ·rcases List.mem_append.1 hx with hx | hx
    ·exact h1 x hx
    ·rw [List.mem_singleton] at hx; omega
   ·rw [val_snoc, h2]; omega
theorem bget_mid {pre suf : List UInt8} {x : UInt8} : (pre ++ x :: suf).getD (pre.length : Int).toNat 0 = x := by
 rw [Int.toNat_natCast]; simp
theorem rfigs_eq {v : Int} (h0 : 0 ≤ v) (h1 : v ≤ 9223372036854775807) : ∃ ys, exergueref11_figures v = some ys ∧ figsP ys ∧ val ys = v ∧ ys.length ≤ 20 := by
 obtain ⟨n, rfl⟩ := Int.eq_ofNat_of_zero_le h0
 have h20 := Lib.nDigits_le20 n (by omega)
 obtain ⟨g1, g2⟩ := figB_dec n
 refine ⟨figB (Lib.decDigits n), ?_, g1, g2, by unfold figB; rw [List.length_map, Lib.decDigits_length]; exact h20⟩
 unfold exergueref11_figures
 rw [num05_int (by omega) h1, show Lib.itoa (n : Int) = Lib.decDigits n by unfold Lib.itoa; rw [if_neg (by omega)]; rfl]
 have hlen : (Lib.decDigits n).length ≤ 20 := by rw [Lib.decDigits_length]; exact h20
 simp only [Option.bind_some]
 rw [loop_fold (Lib.decDigits n) (fun pre => ((pre.length : Int), figB pre)) (figB (Lib.decDigits n))]
 ·rfl
 ·rfl
 ·intro pre x suf h
  have hb2 : (pre ++ x :: suf).length ≤ 4611686018427387904 := by rw [← h]; omega
  have hp : pre.length ≤ 20 := by rw [h] at hlen; simp at hlen; omega
  simp only
  rw [h, lt_mid, inR_mid, bget_mid, w_mid hb2, room_of (by unfold figB; simp; omega)]
  simp only [cond_true, figB, List.map_append, List.map_cons, List.map_nil]
 ·simp only; rw [lt_end]; rfl
 ·omega
theorem rask_eq {x : St75} {o : St33} (ho : OperOk o) (hx : numP x) (hb : x.R_.length ≤ 4611686018427387904) : exergueref11_holds x o = some (askB o x) := by
 unfold exergueref11_holds askB
 have f1 := ho.i
 have f2 := ho.f
 have f3 := ho.len x.Op_
 have f4 := ho.figs x.Op_
 rw [roperand_eq (by omega) (by omega) ho.r]
 simp only [Option.bind_some]
 cases h3 : (opnd o x.Op_).2 with
 | false => simp
 | true =>
  simp only [Bool.not_true, cond_false, Bool.true_and]
  have hv : ∃ ys, (bif (decide (x.Mod_ > 0)) then (Option.bind (exergueref07_Mod (opnd o x.Op_).1 x.Mod_) fun y24 => (Option.bind (exergueref11_figures y24) fun y27 => (some y27))) else (some (opnd o x.Op_).1)) = some ys ∧ figsP ys ∧ ys.length ≤ 2000 ∧ val ys = (if x.Mod_ = 0 then val (opnd o x.Op_).1 else val (opnd o x.Op_).1 % x.Mod_) := by
   have hm := hx.1
   by_cases h0 : x.Mod_ = 0
   ·rw [dF (by omega), if_pos h0]
    exact ⟨_, rfl, f4, f3, rfl⟩
   ·rw [dT (by omega), if_neg h0, rmod_eq f4 (by omega) (by omega) (by omega)]
    have g1 := Int.emod_nonneg (val (opnd o x.Op_).1) h0
    have g2 := Int.emod_lt_of_pos (val (opnd o x.Op_).1) (show 0 < x.Mod_ by omega)
    obtain ⟨ys, y1, y2, y3, y4⟩ := rfigs_eq g1 (by omega)
    exact ⟨ys, by simp only [cond_true, Option.bind_some, y1], y2, by omega, y3⟩
  obtain ⟨ys, y1, y2, y3, y4⟩ := hv
  rw [y1]
  simp only [Option.bind_some]
  have hloop : ∀ f : St80 → Bool, (∀ r ∈ x.R_, exergueref07_In ys r.a0_ r.a1_ = some (f r)) →
    (Option.bind (loopN (fun (s86 : Int) => (bif (decide (s86 < (x.R_.length : Int))) then (bif inR s86 x.R_.length then (bif inR s86 x.R_.length then (Option.bind (exergueref07_In ys ((nth x.R_ s86).a0_) ((nth x.R_ s86).a1_)) fun y126 => (bif y126 then (some (.inr (.inr (!x.Not_)))) else (some (.inl (IntKind.wrap .i64 (s86 + 1)))))) else none) else none) else (some (.inr (.inl ()))))) big 0) (joinX fun (s81 : Unit) => (some x.Not_))) = some (x.R_.any f != x.Not_) := by
   intro f hf
   refine bind_of (fun q : Unit ⊕ Bool => match q with | .inl _ => x.R_.any f = false | .inr b => b = (!x.Not_) ∧ x.R_.any f = true) (loop_row x.R_ (fun pre => (pre.length : Int)) (fun pre => pre.any f = false) _ rfl rfl (fun pre r suf h hi => ?_) (fun hi => ⟨.inl (), by rw [lt_end]; rfl, hi⟩) (by omega)) (fun q hq => ?_)
   ·have hb2 : (pre ++ r :: suf).length ≤ 4611686018427387904 := by rw [← h]; exact hb
    have hr := hf r (by rw [h]; simp)
    rw [h, lt_mid, inR_mid, nth_mid, w_mid hb2, hr]
    simp only [cond_true, Option.bind_some]
    cases hfr : f r with
    | true =>
     right
     exact ⟨.inr (!x.Not_), rfl, rfl, by simp [hfr]⟩
    | false =>
     left
     exact ⟨rfl, by simp [List.any_append, hfr] at hi ⊢; exact hi⟩
   ·cases q with
    | inl u =>
     have hq : x.R_.any f = false := hq
     rw [hq]; simp [joinX]
    | inr b =>
     obtain ⟨q1, q2⟩ : b = (!x.Not_) ∧ x.R_.any f = true := hq
     rw [q1, q2]; simp [joinX]
  rw [hloop (fun r => inV (opnd o x.Op_).1 x.Mod_ r.a0_ r.a1_)]
  intro r hrr
  have := hx.2 r hrr
  rw [rin_eq y2 (by omega) (by omega) (by omega), y4]; rfl
theorem rholds_eq {c : List (List St75)} {o : St33} (ho : OperOk o) (hc : numPs c) (hl : lenOk c) : exergueref11_Holds c o = some (holdsB c o) := by
 unfold exergueref11_Holds holdsB
 refine bind_of (fun q : Unit ⊕ Bool => match q with | .inl _ => c.any (fun row => row.all (askB o)) = false | .inr b => b = true ∧ c.any (fun row => row.all (askB o)) = true) (loop_row c (fun pre => (pre.length : Int)) (fun pre => pre.any (fun row => row.all (askB o)) = false) _ rfl rfl (fun pre row suf h hi => ?_) (fun hi => ⟨.inl (), by rw [lt_end]; rfl, hi⟩) (by have := hl.1; omega)) (fun q hq => ?_)
 ·have hb2 : (pre ++ row :: suf).length ≤ 4611686018427387904 := by rw [← h]; exact hl.1
  have hrow : row ∈ c := by rw [h]; simp
  obtain ⟨hrl, hrx⟩ := hl.2 row hrow
  rw [h, lt_mid, w_mid hb2]
  simp only [inR_mid, nth_mid, cond_true]
  rw [loop_fold row (fun pr => (pr.all (askB o), (pr.length : Int))) (row.all (askB o))]
  ·simp only [Option.bind_some]
   cases hall : row.all (askB o) with
   | true =>
    right
    refine ⟨.inr true, rfl, rfl, ?_⟩
    rw [List.any_append, List.any_cons, hall]; simp
   | false =>
    left
    refine ⟨rfl, ?_⟩
    rw [List.any_append, hi, List.any_cons, hall]; rfl
  ·rfl
  ·intro pr x sf h2
   have hb3 : (pr ++ x :: sf).length ≤ 4611686018427387904 := by rw [← h2]; exact hrl
   have hxr : x ∈ row := by rw [h2]; simp
   simp only
   rw [h2, lt_mid, inR_mid, nth_mid, w_mid hb3, rask_eq ho (hc row hrow x hxr) (hrx x hxr)]
   simp only [cond_true, Option.bind_some, List.all_append, List.all_cons, List.all_nil, Bool.and_true]
   cases pr.all (askB o) <;> rfl
  ·simp only; rw [lt_end]; rfl
  ·omega
 ·cases q with
  | inl u => have hq : c.any (fun row => row.all (askB o)) = false := hq
             rw [hq]; rfl
  | inr b =>
   obtain ⟨q1, q2⟩ : b = true ∧ c.any (fun row => row.all (askB o)) = true := hq
   rw [q1, q2]; rfl
theorem right_any {c : List (List St75)} (h : txtOk c) (hl : lenOk c) : rule_Right c = some (rightC c) := by
 by_cases hne : ∀ row ∈ c, row ≠ []
 ·exact right_eq11 h hl hne
 ·have hR : rightC c = false := by
   cases hr : rightC c with
   | false => rfl
   | true => exact absurd (rightC_ne hr).2 hne
  rw [hR]
  unfold rule_Right
  rw [text_gen h]
  have hT : (condT (nE c)).length ≤ 1300000000 := condT_len ⟨by have := List.length_filter_le (fun r => !decide (r = [])) c; have := h.1; unfold nE; omega, fun r hr => h.2 r (List.mem_filter.1 hr).1⟩
  obtain ⟨o, o1, o2⟩ := iparse_of (s := condT (nE c)) (by omega)
  simp only [Option.bind_some]
  rw [o1]
  simp only [Option.bind_some]
  cases hp : parseC (condT (nE c)) with
  | some d =>
   have := pOut_some o2 hp
   subst this
   simp only [decide_true, cond_true]
   rw [same_eq hl]
   simp only [Option.bind_some]
   congr 1
   refine decide_eq_false (fun e => hne ?_)
   rw [e]
   exact (condG_ne 1000 _ d (parseC_spec hp).2.1).2
  | none =>
   obtain ⟨_, h2⟩ := pOut_none o2 hp
   have : ¬ o.2.2 = 0 := by rcases h2 with h2 | h2 <;> omega
   rw [dF this]
   simp
/-! Layer 12: rules as they are read. -/
theorem rises_eq (a c : Int) : plur_rises a c = some (decide (a < c ∧ c < 6)) := by
 unfold plur_rises plur_names
 by_cases h1 : c > a
 ·rw [dT h1]
  by_cases h2 : c < 6
  ·have : a < c := h1
   simp [h2, this]
  ·simp [h2]
 ·rw [dF h1]
  have : ¬ a < c := h1
  simp [this]
def ofP (l : List St46) (o : St33) : Int := match l with
 | [] => 0
 | r :: rest => if holdsB r.C_ o = true then r.Cat_ else ofP rest o
theorem ofP_skip {o : St33} : ∀ (pre : List St46), pre.any (fun r => holdsB r.C_ o) = false → ∀ suf, ofP (pre ++ suf) o = ofP suf o
 | [], _, _ => rfl
 | r :: pre, h, suf => by
  simp only [List.any_cons, Bool.or_eq_false_iff] at h
  rw [List.cons_append, ofP, if_neg (by rw [h.1]; simp)]
  exact ofP_skip pre h.2 suf
def condsOk (l : List St46) : Prop := ∀ r ∈ l, numPs r.C_ ∧ lenOk r.C_
theorem of_eq {l : List St46} {o : St33} (ho : OperOk o) (hl : l.length ≤ 1000) (hc : condsOk l) : plur_Of l o = some (ofP l o) := by
 unfold plur_Of
 refine bind_of (fun q : Unit ⊕ Int => match q with | .inl _ => ofP l o = 0 | .inr c => c = ofP l o) (loop_row l (fun pre => (pre.length : Int)) (fun pre => pre.any (fun r => holdsB r.C_ o) = false) _ rfl rfl (fun pre r suf h hi => ?_) (fun hi => ⟨.inl (), by rw [lt_end]; rfl, by have := ofP_skip l hi []; simpa [ofP] using this⟩) (by omega)) (fun q hq => ?_)
 ·have hb2 : (pre ++ r :: suf).length ≤ 4611686018427387904 := by rw [← h]; omega
  obtain ⟨g1, g2⟩ := hc r (by rw [h]; simp)
  have hskip := ofP_skip pre hi (r :: suf)
  rw [h, lt_mid, inR_mid, nth_mid, w_mid hb2, holds_eq ho g1 g2]
  simp only [cond_true, Option.bind_some]
  cases hh : holdsB r.C_ o with
  | true =>
   right
   exact ⟨.inr r.Cat_, rfl, by rw [hskip, ofP, if_pos hh]⟩
  | false =>
   left
   refine ⟨rfl, ?_⟩
   rw [List.any_append, hi]; simp [hh]
 ·cases q with
  | inl u => have hq : ofP l o = 0 := hq
             rw [hq]; rfl
  | inr c => have hq : c = ofP l o := hq
             rw [hq]; rfl
/-! Categories rise; names. -/
def chainP (a : Int) : List St46 → Prop
 | [] => True
 | r :: l => a < r.Cat_ ∧ r.Cat_ < 6 ∧ chainP r.Cat_ l
def nameP (x : Int) : List UInt8 := if x = 0 then [111, 116, 104, 101, 114] else if x = 1 then [122, 101, 114, 111] else if x = 2 then [111, 110, 101] else if x = 3 then [116, 119, 111] else if x = 4 then [102, 101, 119] else if x = 5 then [109, 97, 110, 121] else []
theorem name_none {x : Int} (h : ¬ (0 ≤ x ∧ x ≤ 5)) : nameP x = [] := by
 unfold nameP
 repeat' split
 all_goals first | rfl | (exfalso; omega)
theorem name_eq (x : Int) : plur_Name x = some (nameP x) := by
 unfold plur_Name plur_names
 by_cases h : 0 ≤ x ∧ x ≤ 5
 ·have : x = 0 ∨ x = 1 ∨ x = 2 ∨ x = 3 ∨ x = 4 ∨ x = 5 := by omega
  rcases this with rfl | rfl | rfl | rfl | rfl | rfl <;> rfl
 ·rw [name_none h]
  by_cases h1 : x < 0
  ·rw [dT h1]; rfl
  ·rw [dF h1, dT (show x ≥ 6 by omega)]; rfl
/-! Which rules are right, and which the same. -/
def rr (a : Int) : List St46 → Bool
 | [] => true
 | r :: l => (rightC r.C_ && decide (a < r.Cat_ ∧ r.Cat_ < 6)) && rr r.Cat_ l
theorem rr_chain : ∀ (l : List St46) (a : Int), rr a l = true → chainP a l ∧ ∀ r ∈ l, rightC r.C_ = true
 | [], _, _ => ⟨trivial, fun r hr => by cases hr⟩
 | r :: l, a, h => by
  simp only [rr, Bool.and_eq_true, decide_eq_true_eq] at h
  obtain ⟨h1, h2⟩ := rr_chain l r.Cat_ h.2
  exact ⟨⟨h.1.2.1, h.1.2.2, h1⟩, fun y hy => by
   rcases List.mem_cons.1 hy with rfl | hy
   ·exact h.1.1
   ·exact h2 y hy⟩
def rulesOk (l : List St46) : Prop := l.length ≤ 1000 ∧ ∀ r ∈ l, txtOk r.C_ ∧ lenOk r.C_
theorem ref12right {l : List St46} (hl : rulesOk l) : exergueref12_Right l = some (rr 0 l) := by
 unfold exergueref12_Right
 generalize hst : (fun (s327 : Int) => ((bif (decide (s327 < (l.length : Int))) then (Option.bind (bif inR s327 l.length then (Option.bind (exergueref11_Right ((nth l s327).C_)) fun y599 => (Option.bind (bif (!y599) then (some true) else (bif inR s327 l.length then (bif (decide (((nth l s327).Cat_) < 1)) then (some true) else (bif inR s327 l.length then (bif (decide (((nth l s327).Cat_) > 5)) then (some true) else (bif (decide (s327 > 0)) then (bif inR s327 l.length then (bif inR (IntKind.wrap .i64 (s327 - 1)) l.length then (some ((decide (((nth l s327).Cat_) ≤ ((nth l (IntKind.wrap .i64 (s327 - 1))).Cat_))))) else none) else none) else (some false))) else none)) else none)) fun (s618 : Bool) => (bif s618 then (some (.inr (.inr (.inr false)))) else (some (.inl ()))))) else none) (joinX fun (s593 : Unit) => (some (.inl (IntKind.wrap .i64 (s327 + 1)))))) else (some (.inr (.inl ())))) : Option (Int ⊕ (Unit ⊕ Bool)))) = step
 have key : ∀ (suf pre : List St46) (n : Nat) (a : Int), l = pre ++ suf → suf.length < n → ((pre = [] ∧ a = 0) ∨ ∃ pre' p, pre = pre' ++ [p] ∧ a = p.Cat_ ∧ 1 ≤ a) → Option.bind (loopN step n (pre.length : Int)) (joinX fun (s322 : Unit) => (some true)) = some (rr a suf) := by
  intro suf
  induction suf with
  | nil =>
   intro pre n a hx hn _
   obtain ⟨m, rfl⟩ : ∃ m, n = m + 1 := ⟨n - 1, by simp at hn; omega⟩
   rw [List.append_nil] at hx
   rw [loopN_out (o := .inl ())]
   ·rfl
   ·subst hst; subst hx
    simp only
    rw [lt_end]; rfl
  | cons r suf ih =>
   intro pre n a hx hn ha
   obtain ⟨m, rfl⟩ : ∃ m, n = m + 1 := ⟨n - 1, by simp at hn; omega⟩
   have hb : (pre ++ r :: suf).length ≤ 4611686018427387904 := by rw [← hx]; have := hl.1; omega
   have hpl : pre.length < 1000 := by have := hl.1; rw [hx] at this; simp at this; omega
   obtain ⟨q2, q3⟩ := hl.2 r (by rw [hx]; simp)
   have hprev : (bif (decide ((pre.length : Int) > 0)) then (bif inR (pre.length : Int) l.length then (bif inR (IntKind.wrap .i64 ((pre.length : Int) - 1)) l.length then (some ((decide ((r.Cat_) ≤ ((nth l (IntKind.wrap .i64 ((pre.length : Int) - 1))).Cat_))))) else none) else none) else (some false)) = some (if pre = [] then false else decide (r.Cat_ ≤ a)) := by
    rcases ha with ⟨rfl, rfl⟩ | ⟨pre', p, rfl, rfl, _⟩
    ·rfl
    ·have hlen : ((pre' ++ [p]).length : Int) = (pre'.length : Int) + 1 := by simp
     rw [dT (show ((pre' ++ [p]).length : Int) > 0 by omega), w64 (n := ((pre' ++ [p]).length : Int) - 1) (by omega) (by omega), if_neg (by simp), show inR ((pre' ++ [p]).length : Int) l.length = true by rw [hx, inR_mid]]
     rw [show ((pre' ++ [p]).length : Int) - 1 = (pre'.length : Int) by omega, hx, show (pre' ++ [p]) ++ r :: suf = pre' ++ p :: (r :: suf) by simp, inR_mid, nth_mid]
     rfl
   have ha0 : 0 ≤ a := by rcases ha with ⟨_, h⟩ | ⟨_, _, _, _, h⟩ <;> omega
   have hstep : step (pre.length : Int) = some (if rightC r.C_ = true ∧ a < r.Cat_ ∧ r.Cat_ < 6 then .inl ((pre ++ [r]).length : Int) else .inr (.inr false)) := by
    subst hst
    simp only
    have hn1 : nth l (pre.length : Int) = r := by rw [hx, nth_mid]
    rw [hn1, hprev, show inR (pre.length : Int) l.length = true by rw [hx, inR_mid], dT (show (pre.length : Int) < (l.length : Int) by rw [hx]; simp; omega), ← w_mid hb, rright_eq11 q2 q3]
    simp only [cond_true, Option.bind_some]
    by_cases h1 : rightC r.C_ = true
    ·rw [h1]
     simp only [Bool.not_true, cond_false]
     by_cases h2 : r.Cat_ < 1
     ·rw [dT h2, if_neg (show ¬ (True ∧ a < r.Cat_ ∧ r.Cat_ < 6) from fun h => (show ¬ (a < r.Cat_ ∧ r.Cat_ < 6) by omega) h.2)]; rfl
     ·rw [dF h2]
      simp only [cond_false]
      by_cases h3 : r.Cat_ > 5
      ·rw [dT h3, if_neg (show ¬ (True ∧ a < r.Cat_ ∧ r.Cat_ < 6) from fun h => (show ¬ (a < r.Cat_ ∧ r.Cat_ < 6) by omega) h.2)]; rfl
      ·rw [dF h3]
       simp only [cond_false, Option.bind_some]
       rcases ha with ⟨rfl, rfl⟩ | ⟨pre', p, rfl, rfl, _⟩
       ·rw [if_pos rfl, if_pos ⟨trivial, by omega, by omega⟩]; rfl
       ·rw [if_neg (by simp)]
        by_cases h4 : r.Cat_ ≤ p.Cat_
        ·rw [decide_eq_true h4, if_neg (show ¬ (True ∧ p.Cat_ < r.Cat_ ∧ r.Cat_ < 6) from fun h => (show ¬ (p.Cat_ < r.Cat_ ∧ r.Cat_ < 6) by omega) h.2)]; rfl
        ·rw [decide_eq_false h4, if_pos ⟨trivial, by omega, by omega⟩]; rfl
    ·rw [if_neg (show ¬ (rightC r.C_ = true ∧ a < r.Cat_ ∧ r.Cat_ < 6) from fun h => h1 h.1)]
     have : rightC r.C_ = false := by simpa using h1
     rw [this]; rfl
   unfold rr
   by_cases hc : rightC r.C_ = true ∧ a < r.Cat_ ∧ r.Cat_ < 6
   ·rw [if_pos hc] at hstep
    rw [loopN_next hstep, ih (pre ++ [r]) m r.Cat_ (by rw [hx]; simp) (by simp at hn; omega) (.inr ⟨pre, r, rfl, rfl, by rcases ha with ⟨_, h⟩ | ⟨_, _, _, _, h⟩ <;> omega⟩), hc.1, decide_eq_true hc.2]
    rfl
   ·rw [if_neg hc] at hstep
    rw [loopN_out hstep]
    have : (rightC r.C_ && decide (a < r.Cat_ ∧ r.Cat_ < 6)) = false := by
     cases h : (rightC r.C_ && decide (a < r.Cat_ ∧ r.Cat_ < 6)) with
     | false => rfl
     | true => rw [Bool.and_eq_true, decide_eq_true_eq] at h; exact absurd h hc
    rw [this]; rfl
 exact key l [] big 0 rfl (by have := hl.1; unfold big; omega) (.inl ⟨rfl, rfl⟩)
theorem rr_conds {l : List St46} (hl : rulesOk l) (h : ∀ r ∈ l, rightC r.C_ = true) : condsOk l := fun r hr => ⟨condG_range 1000 (parseC_spec (of_decide_eq_true (h r hr))).2.1, (hl.2 r hr).2⟩
theorem refshort12 {x : List St46} (hx : x.length ≤ 140737488355328) (hw : ∀ r ∈ x, (r.C_.length ≤ 140737488355328 ∧ ∀ row ∈ r.C_, row.length ≤ 140737488355328 ∧ ∀ y ∈ row, y.R_.length ≤ 140737488355328) ∧ (∀ row ∈ r.C_, ∀ y ∈ row, y.Mod_ ≤ 9223372036854775807 ∧ ∀ q ∈ y.R_, q.a0_ ≤ 9223372036854775807 ∧ q.a1_ ≤ 9223372036854775807)) :
  ∃ b, exergueref12_Short x = some b ∧ (b = true → rulesOk x) := by
 unfold exergueref12_Short
 obtain ⟨q, h1, h2⟩ := loop_row x (s0 := (0 : Int)) (step := (fun (s171 : Int) => (bif (decide (s171 < (x.length : Int))) then (Option.bind (bif inR s171 x.length then (Option.bind (exergueref11_Short ((nth x s171).C_)) fun y313 => (Option.bind (bif (decide (s171 ≥ 8)) then (some true) else (some (!y313))) fun (s319 : Bool) => (bif s319 then (some (.inr (.inr (.inr false)))) else (some (.inl ()))))) else none) (joinX fun (s307 : Unit) => (some (.inl (IntKind.wrap .i64 (s171 + 1)))))) else (some (.inr (.inl ())))))) (fun pre => (pre.length : Int)) (fun pre => pre.length ≤ 8 ∧ ∀ r ∈ pre, txtOk r.C_ ∧ lenOk r.C_) (fun q : Unit ⊕ Bool => match q with | .inl _ => rulesOk x | .inr b => b = false) rfl ⟨by simp, fun r hr => by cases hr⟩ (fun pre r suf h hi => by
  have hb2 : (pre ++ r :: suf).length ≤ 4611686018427387904 := by rw [← h]; omega
  obtain ⟨w1, w2⟩ := hw r (by rw [h]; simp)
  obtain ⟨b1, hb1, hs1⟩ := short_ex w1.1 w1.2
  rw [h, lt_mid, inR_mid, nth_mid, w_mid hb2, hb1]
  simp only [cond_true, Option.bind_some]
  by_cases c1 : (pre.length : Int) ≥ 8
  ·rw [dT c1]; exact .inr ⟨.inr false, rfl, rfl⟩
  ·rw [dF c1]
   cases b1 with
   | false => exact .inr ⟨.inr false, rfl, rfl⟩
   | true =>
    refine .inl ⟨rfl, by simp; omega, fun y hy => ?_⟩
    rcases List.mem_append.1 hy with hy | hy
    ·exact hi.2 y hy
    ·rw [List.mem_singleton] at hy; subst hy; exact shortP_ok (hs1 rfl) w2) (fun hi => ⟨.inl (), by rw [lt_end]; rfl, ⟨by have := hi.1; omega, hi.2⟩⟩) (by omega)
 rw [h1]
 cases q with
 | inl u => exact ⟨true, rfl, fun _ => h2⟩
 | inr b => have h2 : b = false := h2
            subst h2; exact ⟨false, rfl, fun h => by cases h⟩
/-! The same rules; what the other way reads. -/
theorem psame1_eq {x y : St46} (hx : lenOk x.C_) : plur_Same_1 x y = some (decide (x = y)) := by
 unfold plur_Same_1
 rw [same_eq hx]
 obtain ⟨a, b⟩ := x
 obtain ⟨c, d⟩ := y
 by_cases h1 : a = c <;> by_cases h2 : b = d <;> simp [h1, h2]
theorem psame_eq {x y : List St46} (hl : x.length ≤ 1000) (hx : ∀ r ∈ x, lenOk r.C_) : plur_Same x y = some (decide (x = y)) := by
 unfold plur_Same api_Ruled__s0
 by_cases h : x.length = y.length
 ·rw [dF (by omega)]
  simp only [cond_false]
  rw [eq_row (S := Unit) h (by omega) (.inl () : Unit ⊕ Bool) (.inr false)]
  ·by_cases e : x = y
   ·rw [if_pos e, dT e]; rfl
   ·rw [if_neg e, dF e]; rfl
  ·intro i hi
   have hm := hx (nth x (i : Int)) (by rw [nth_nat hi]; exact List.getElem_mem hi)
   rw [dT (by omega), inR_nat hi, inR_nat (by omega), psame1_eq hm, w_succ hi (by omega)]
   by_cases e : nth x (i : Int) = nth y (i : Int)
   ·rw [if_pos e, dT e]; rfl
   ·rw [if_neg e, dF e]; rfl
  ·rw [lt_end]; rfl
 ·rw [dT (by omega), dF (by rintro rfl; exact h rfl)]; rfl
theorem rsame12_eq {x y : List St46} (hl : x.length ≤ 1000) (hx : ∀ r ∈ x, lenOk r.C_) : exergueref12_Same x y = some (decide (x = y)) := by
 unfold exergueref12_Same
 by_cases h : x.length = y.length
 ·rw [dF (by omega)]
  simp only [cond_false]
  rw [eq_row (S := Unit) h (by omega) (.inl () : Unit ⊕ Bool) (.inr false)]
  ·by_cases e : x = y
   ·rw [if_pos e, dT e]; rfl
   ·rw [if_neg e, dF e]; rfl
  ·intro i hi
   have hm := hx (nth x (i : Int)) (by rw [nth_nat hi]; exact List.getElem_mem hi)
   rw [dT (by omega), inR_nat hi, inR_nat (by omega), rsame_eq hm, w_succ hi (by omega)]
   generalize nth x (i : Int) = a at hm ⊢
   generalize nth y (i : Int) = b
   obtain ⟨a1, a2⟩ := a
   obtain ⟨b1, b2⟩ := b
   by_cases h1 : a1 = b1 <;> by_cases h2 : a2 = b2 <;> simp [h1, h2, joinX]
  ·rw [lt_end]; rfl
 ·rw [dT (by omega), dF (by rintro rfl; exact h rfl)]; rfl
/-! Names and categories by the other way. -/
theorem rname_eq (x : Int) : exergueref12_Name x = some (nameP x) := by
 unfold exergueref12_Name
 by_cases h : 0 ≤ x ∧ x ≤ 5
 ·have : x = 0 ∨ x = 1 ∨ x = 2 ∨ x = 3 ∨ x = 4 ∨ x = 5 := by omega
  rcases this with rfl | rfl | rfl | rfl | rfl | rfl <;> rfl
 ·rw [name_none h, dF (show ¬ x = 0 by omega), dF (show ¬ x = 1 by omega), dF (show ¬ x = 2 by omega), dF (show ¬ x = 3 by omega), dF (show ¬ x = 4 by omega), dF (show ¬ x = 5 by omega)]; rfl
def catP (s : List UInt8) : Int × Bool := if nameP 0 = s then (0, true) else if nameP 1 = s then (1, true) else if nameP 2 = s then (2, true) else if nameP 3 = s then (3, true) else if nameP 4 = s then (4, true) else if nameP 5 = s then (5, true) else (0, false)
theorem cat_loop {s : List UInt8} {step : Int → Option (Int ⊕ (Unit ⊕ (Int × Bool)))} (hs : ∀ i : Int, 0 ≤ i → i ≤ 5 → step i = some (if nameP i = s then .inr (.inr (i, true)) else .inl (i + 1))) (he : step 6 = some (.inr (.inl ()))) :
  Option.bind (loopN step big 0) (joinX fun (_ : Unit) => some (0, false)) = some (catP s) := by
 rw [show big = 18446744073709551609 + 1 + 1 + 1 + 1 + 1 + 1 + 1 from rfl]
 unfold catP
 have stepc : ∀ (n : Nat) (i : Int), 0 ≤ i → i ≤ 5 → loopN step (n + 1) i = if nameP i = s then some (.inr (i, true)) else loopN step n (i + 1) := fun n i h1 h2 => by
  have := hs i h1 h2
  by_cases c : nameP i = s
  ·rw [if_pos c] at this ⊢; exact loopN_out this
  ·rw [if_neg c] at this ⊢; exact loopN_next this
 have step6 : ∀ n : Nat, loopN step (n + 1) 6 = some (.inl ()) := fun n => loopN_out he
 rw [stepc _ 0 (by omega) (by omega)]
 by_cases c0 : nameP 0 = s
 ·rw [if_pos c0, if_pos c0]; rfl
 rw [if_neg c0, if_neg c0, show (0 : Int) + 1 = 1 from rfl, stepc _ 1 (by omega) (by omega)]
 by_cases c1 : nameP 1 = s
 ·rw [if_pos c1, if_pos c1]; rfl
 rw [if_neg c1, if_neg c1, show (1 : Int) + 1 = 2 from rfl, stepc _ 2 (by omega) (by omega)]
 by_cases c2 : nameP 2 = s
 ·rw [if_pos c2, if_pos c2]; rfl
 rw [if_neg c2, if_neg c2, show (2 : Int) + 1 = 3 from rfl, stepc _ 3 (by omega) (by omega)]
 by_cases c3 : nameP 3 = s
 ·rw [if_pos c3, if_pos c3]; rfl
 rw [if_neg c3, if_neg c3, show (3 : Int) + 1 = 4 from rfl, stepc _ 4 (by omega) (by omega)]
 by_cases c4 : nameP 4 = s
 ·rw [if_pos c4, if_pos c4]; rfl
 rw [if_neg c4, if_neg c4, show (4 : Int) + 1 = 5 from rfl, stepc _ 5 (by omega) (by omega)]
 by_cases c5 : nameP 5 = s
 ·rw [if_pos c5, if_pos c5]; rfl
 rw [if_neg c5, if_neg c5, show (5 : Int) + 1 = 6 from rfl, step6]; rfl
theorem ite_some {α : Type} (p : Prop) [Decidable p] (X Y : α) : (if p then some X else some Y) = some (if p then X else Y) := by split <;> rfl
theorem pcat_eq (s : List UInt8) : plur_Cat s = some (catP s) := by
 unfold plur_Cat plur_names
 rw [Option.bind_some]
 refine cat_loop (fun i h0 h5 => ?_) rfl
 have : i = 0 ∨ i = 1 ∨ i = 2 ∨ i = 3 ∨ i = 4 ∨ i = 5 := by omega
 have hb : ∀ (l : List UInt8) (X Y : Option (Int ⊕ (Unit ⊕ (Int × Bool)))), (bif (l == s) then X else Y) = if l = s then X else Y := fun l X Y => by
  by_cases h : l = s
  ·rw [if_pos h, h]; simp
  ·rw [if_neg h, beq_eq_false_iff_ne.2 h]; rfl
 rcases this with rfl | rfl | rfl | rfl | rfl | rfl
 all_goals (simp only [decide_true, decide_false, cond_true, cond_false, hb]; exact ite_some _ _ _)
theorem rcat_eq (s : List UInt8) : exergueref12_Cat s = some (catP s) := by
 unfold exergueref12_Cat
 refine cat_loop (fun i h0 h5 => ?_) rfl
 rw [dT (show i < 6 by omega), rname_eq, w64 (by omega) (by omega)]
 simp only [cond_true, Option.bind_some]
 by_cases h : nameP i = s
 ·rw [if_pos h, h]; simp
 ·rw [if_neg h, beq_eq_false_iff_ne.2 h]; rfl
theorem rof_eq {l : List St46} {o : St33} (ho : OperOk o) (hl : l.length ≤ 1000) (hc : condsOk l) : exergueref12_Of l o = some (ofP l o) := by
 unfold exergueref12_Of
 refine bind_of (fun q : Unit ⊕ Int => match q with | .inl _ => ofP l o = 0 | .inr c => c = ofP l o) (loop_row l (fun pre => (pre.length : Int)) (fun pre => pre.any (fun r => holdsB r.C_ o) = false) _ rfl rfl (fun pre r suf h hi => ?_) (fun hi => ⟨.inl (), by rw [lt_end]; rfl, by have := ofP_skip l hi []; simpa [ofP] using this⟩) (by omega)) (fun q hq => ?_)
 ·have hb2 : (pre ++ r :: suf).length ≤ 4611686018427387904 := by rw [← h]; omega
  obtain ⟨g1, g2⟩ := hc r (by rw [h]; simp)
  have hskip := ofP_skip pre hi (r :: suf)
  rw [h, lt_mid, inR_mid, nth_mid, w_mid hb2, rholds_eq ho g1 g2]
  simp only [cond_true, Option.bind_some]
  cases hh : holdsB r.C_ o with
  | true =>
   right
   exact ⟨.inr r.Cat_, rfl, by rw [hskip, ofP, if_pos hh]⟩
  | false =>
   left
   refine ⟨rfl, ?_⟩
   rw [List.any_append, hi]; simp [hh]
 ·cases q with
  | inl u => have hq : ofP l o = 0 := hq
             rw [hq]; rfl
  | inr c => have hq : c = ofP l o := hq
             rw [hq]; rfl
theorem pright12 {l : List St46} (hl : rulesOk l) : plur_Right l = some (rr 0 l) := by
 unfold plur_Right
 generalize hst : (fun (s447 : Int × Int) => ((bif (decide (s447.2 < (l.length : Int))) then (Option.bind (bif inR s447.2 l.length then (Option.bind (Option.bind (Option.bind (plur_rises s447.1 ((nth l s447.2).Cat_)) fun y869 => (bif (!y869) then (some true) else (Option.bind (rule_Right ((nth l s447.2).C_)) fun y875 => (some (!y875))))) fun (s864 : Bool) => (bif s864 then (some (.inr (.inr (.inr (.inr false))))) else (some (.inl ())))) (joinX fun (s850 : Unit) => (some (.inl ())))) else none) (joinX fun (s813 : Unit) => (some (.inl ((nth l s447.2).Cat_, (IntKind.wrap .i64 (s447.2 + 1))))))) else (some (.inr (.inl ())))) : Option ((Int × Int) ⊕ (Unit ⊕ Bool)))) = step
 have key : ∀ (suf pre : List St46) (n : Nat) (a : Int), l = pre ++ suf → suf.length < n → Option.bind (loopN step n (a, (pre.length : Int))) (joinX fun (s442 : Unit) => (some true)) = some (rr a suf) := by
  intro suf
  induction suf with
  | nil =>
   intro pre n a hx hn
   obtain ⟨m, rfl⟩ : ∃ m, n = m + 1 := ⟨n - 1, by simp at hn; omega⟩
   rw [List.append_nil] at hx
   rw [loopN_out (o := .inl ())]
   ·rfl
   ·subst hst; subst hx
    simp only
    rw [lt_end]; rfl
  | cons r suf ih =>
   intro pre n a hx hn
   obtain ⟨m, rfl⟩ : ∃ m, n = m + 1 := ⟨n - 1, by simp at hn; omega⟩
   have hb : (pre ++ r :: suf).length ≤ 4611686018427387904 := by rw [← hx]; have := hl.1; omega
   obtain ⟨q2, q3⟩ := hl.2 r (by rw [hx]; simp)
   have hstep : step (a, (pre.length : Int)) = some (if (rightC r.C_ && decide (a < r.Cat_ ∧ r.Cat_ < 6)) = true then .inl (r.Cat_, ((pre ++ [r]).length : Int)) else .inr (.inr false)) := by
    subst hst
    simp only
    rw [hx, lt_mid, inR_mid, nth_mid, w_mid hb, rises_eq, right_any q2 q3]
    simp only [cond_true, Option.bind_some]
    cases rightC r.C_ <;> cases decide (a < r.Cat_ ∧ r.Cat_ < 6) <;> rfl
   unfold rr
   cases hc : (rightC r.C_ && decide (a < r.Cat_ ∧ r.Cat_ < 6)) with
   | true =>
    rw [hc, if_pos rfl] at hstep
    rw [loopN_next hstep, ih (pre ++ [r]) m r.Cat_ (by rw [hx]; simp) (by simp at hn; omega)]
    rfl
   | false =>
    rw [hc, if_neg (by simp)] at hstep
    rw [loopN_out hstep]; rfl
 exact key l [] big 0 rfl (by have := hl.1; unfold big; omega)
end Go.Proofs.YteaokhdkocddcaaGreatDoor
