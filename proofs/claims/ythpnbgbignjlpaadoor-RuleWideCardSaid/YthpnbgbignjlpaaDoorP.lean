/-
  What those functions come to, told by plain functions of lists and numbers. Conditions: as each theorem says.
-/
import Derived.Test.YthpnbgbignjlpaaDoorGc
import Derived.Test.YthpnbgbignjlpaaDoorSyZ
namespace Go.Proofs.YthpnbgbignjlpaaDoor
open Go Go.Sy Go.RowKit Go.ChangeShapes Go.WideShapes Go.ChangeAt
set_option linter.unusedVariables false
set_option linter.unusedSimpArgs false
set_option maxRecDepth 100000
set_option maxHeartbeats 4000000

def figs (xs : List Int) : Bool := xs.all (fun c => !decide (c > 9))
theorem figures_eq {xs : List Int} (hl : xs.length ≤ 4611686018427387904) : oper_figures xs = some (figs xs) := by
  unfold oper_figures
  rw [all_loop (fun c => decide (c > 9)) xs hl]
  unfold figs
  cases xs.all (fun c => !decide (c > 9)) <;> rfl
theorem rfigures_eq {xs : List Int} (hl : xs.length ≤ 4611686018427387904) : exergueref07_Figures xs = some (figs xs) := figures_eq hl

theorem clone_eq {xs : List Int} (hl : xs.length ≤ 4294967296) : slices_Clone xs = some xs := by
  unfold slices_Clone; exact clone_id hl

theorem bare_len (xs : List Int) : (bare xs).length ≤ xs.length := List.Sublist.length_le (List.dropWhile_sublist _)

theorem strip_eq {xs : List Int} (hl : xs.length ≤ 4294967296) : oper_strip xs = some (bare xs) := by
  unfold oper_strip
  rw [bare_loop xs (by omega)]
  have := bare_len xs
  simp only [Option.bind_some]
  rw [clone_eq (by omega)]; rfl

theorem bare_append_nz (pre : List Int) (x : Int) (suf : List Int) (hp : pre.all (fun c => decide (c = 0)) = true) (hx : ¬ x = 0) : bare (pre ++ x :: suf) = x :: suf := by
  induction pre with
  | nil => simp [bare, hx]
  | cons y pre ih =>
    simp only [List.all_cons, Bool.and_eq_true, decide_eq_true_eq] at hp
    have := ih hp.2
    simp only [bare] at this ⊢
    simp [hp.1, this]
theorem bare_zeros (pre : List Int) (hp : pre.all (fun c => decide (c = 0)) = true) : bare pre = [] := by
  induction pre with
  | nil => rfl
  | cons y pre ih =>
    simp only [List.all_cons, Bool.and_eq_true, decide_eq_true_eq] at hp
    have := ih hp.2
    simp only [bare] at this ⊢
    simp [hp.1, this]

theorem rbare_eq {xs : List Int} (hl : xs.length ≤ 4294967296) : exergueref07_Bare xs = some (bare xs) := by
  unfold exergueref07_Bare
  refine bind_of (fun o => ∃ n : Nat, o = n ∧ n ≤ xs.length ∧ xs.drop n = bare xs) (loop_row xs (fun pre => (pre.length : Int)) (fun pre => pre.all (fun c => decide (c = 0)) = true) _ rfl rfl (fun pre x suf h hi => ?_) (fun hi => ?_) (by omega)) ?_
  · have hl' : (pre ++ x :: suf).length ≤ 4611686018427387904 := by rw [← h]; omega
    rw [h, lt_mid, inR_mid, nth_mid, w_mid hl']
    by_cases hx : x = 0
    · left
      simp [hx, joinX]
      simpa using hi
    · right
      refine ⟨(pre.length : Int), by simp [hx, joinX], pre.length, rfl, by simp, ?_⟩
      rw [bare_append_nz pre x suf hi hx]; simp
  · refine ⟨(xs.length : Int), by rw [lt_end]; rfl, xs.length, rfl, by omega, ?_⟩
    rw [bare_zeros xs hi]; simp
  · rintro o ⟨n, rfl, hn, hd⟩
    rw [inS_of (by omega) (by omega) (by omega)]
    simp only [cond_true, cut, Int.toNat_natCast, List.take_length, hd]

theorem shown_of {xs : List Int} (hl : xs.length ≤ 4294967296) : oper_shown xs = some (full xs : Int) := by
  unfold oper_shown
  rw [full_loop_back xs (by omega)]; rfl
theorem rfull_eq {xs : List Int} (hl : xs.length ≤ 4294967296) : exergueref07_Full xs = some (full xs : Int) := by
  unfold exergueref07_Full
  rw [loop_fold xs (fun pre => ((full pre : Int), (pre.length : Int))) (full xs : Int)]
  · rfl
  · rfl
  · intro pre x suf h
    have hl' : (pre ++ x :: suf).length ≤ 4611686018427387904 := by rw [← h]; omega
    subst h
    simp only
    rw [lt_mid, inR_mid, nth_mid, w_mid hl', full_snoc]
    by_cases hx : x = 0 <;> simp [hx]
  · simp only; rw [lt_end]; rfl
  · omega

/-- Figures of a number. -/
def digsN (n : Nat) : List Int := if h : n = 0 then [] else digsN (n / 10) ++ [((n % 10 : Nat) : Int)]
termination_by n
decreasing_by omega
theorem digsN_zero : digsN 0 = [] := by rw [digsN]; rfl
theorem digsN_pos {n : Nat} (h : n ≠ 0) : digsN n = digsN (n / 10) ++ [((n % 10 : Nat) : Int)] := by rw [digsN, dif_neg h]
theorem digsN_len (k : Nat) : ∀ n, n < 10 ^ k → (digsN n).length ≤ k := by
  induction k with
  | zero => intro n h; obtain rfl : n = 0 := by simpa using h
            rw [digsN_zero]; simp
  | succ k ih =>
    intro n h
    by_cases h0 : n = 0
    · subst h0; rw [digsN_zero]; simp
    · rw [digsN_pos h0]
      have := ih (n / 10) (by rw [Nat.pow_succ] at h; omega)
      simp; exact this

theorem digit_step {n : Nat} (hn : n < 9223372036854775808) : IntKind.wrap .u8 (Int.tmod (n : Int) 10) = ((n % 10 : Nat) : Int) ∧ IntKind.wrap .i64 (Int.tdiv (n : Int) 10) = ((n / 10 : Nat) : Int) := by
  have e1 : Int.tmod (n : Int) 10 = ((n % 10 : Nat) : Int) := by
    rw [Int.tmod_eq_emod_of_nonneg (by omega)]; omega
  have e2 : Int.tdiv (n : Int) 10 = ((n / 10 : Nat) : Int) := by
    rw [Int.tdiv_eq_ediv_of_nonneg (by omega)]; omega
  rw [e1, e2]
  exact ⟨w8 (by omega) (by omega), w64 (by omega) (by omega)⟩

theorem number_loop : ∀ (n : Nat) (out : List Int) (m : Nat), n < 9223372036854775808 → n < m → out.length + (digsN n).length ≤ 1000 →
    loopN (fun (s27 : Int × (List Int)) => (bif (decide (s27.1 > 0)) then (bif room ((([(IntKind.wrap .u8 (Int.tmod s27.1 10))] : List Int)).length + s27.2.length) then (some (.inl ((IntKind.wrap .i64 (Int.tdiv s27.1 10)), ((([(IntKind.wrap .u8 (Int.tmod s27.1 10))] : List Int)) ++ s27.2)))) else none) else (some (.inr s27.2)))) m ((n : Int), out) = some (digsN n ++ out) := by
  intro n
  induction n using Nat.strongRecOn with
  | _ n ih =>
    intro out m h1 h2 h3
    obtain ⟨m, rfl⟩ : ∃ q, m = q + 1 := ⟨m - 1, by omega⟩
    by_cases h0 : n = 0
    · subst h0
      rw [loopN_out (o := out)]
      · rw [digsN_zero]; rfl
      · simp
    · obtain ⟨e1, e2⟩ := digit_step h1
      rw [digsN_pos h0] at h3 ⊢
      simp at h3
      rw [loopN_next (s' := (((n / 10 : Nat) : Int), ((n % 10 : Nat) : Int) :: out))]
      · rw [ih (n / 10) (by omega) _ m (by omega) (by omega) (by simp; omega)]; simp
      · simp only [e1, e2]
        rw [dT (by omega), room_of (by simp; omega)]; rfl
theorem spell_loop : ∀ (n : Nat) (out : List Int) (m : Nat), n < 9223372036854775808 → n < m → out.length + (digsN n).length ≤ 1000 →
    loopN (fun (s27 : Int × (List Int)) => (bif (decide (s27.1 > 0)) then (bif room (s27.2.length + (([(IntKind.wrap .u8 (Int.tmod s27.1 10))] : List Int)).length) then (some (.inl ((IntKind.wrap .i64 (Int.tdiv s27.1 10)), (s27.2 ++ (([(IntKind.wrap .u8 (Int.tmod s27.1 10))] : List Int)))))) else none) else (some (.inr s27.2)))) m ((n : Int), out) = some (out ++ (digsN n).reverse) := by
  intro n
  induction n using Nat.strongRecOn with
  | _ n ih =>
    intro out m h1 h2 h3
    obtain ⟨m, rfl⟩ : ∃ q, m = q + 1 := ⟨m - 1, by omega⟩
    by_cases h0 : n = 0
    · subst h0
      rw [loopN_out (o := out)]
      · rw [digsN_zero]; simp
      · simp
    · obtain ⟨e1, e2⟩ := digit_step h1
      rw [digsN_pos h0] at h3 ⊢
      simp at h3
      rw [loopN_next (s' := (((n / 10 : Nat) : Int), out ++ [((n % 10 : Nat) : Int)]))]
      · rw [ih (n / 10) (by omega) _ m (by omega) (by omega) (by simp; omega)]; simp
      · simp only [e1, e2]
        rw [dT (by omega), room_of (by simp; omega)]; rfl

theorem digs_short {n : Nat} (h : n < 9223372036854775808) : (digsN n).length ≤ 19 := digsN_len 19 n (by omega)
theorem number_eq {n : Nat} (h : n < 9223372036854775808) : exergueref07_number (n : Int) = some (digsN n) := by
  unfold exergueref07_number
  rw [number_loop n [] big h (by unfold big; omega) (by have := digs_short h; simp; omega)]; simp
theorem spell_eq {n : Nat} (h : n < 9223372036854775808) : oper_spell (n : Int) = some (digsN n) := by
  unfold oper_spell
  have hd := digs_short h
  rw [spell_loop n [] big h (by unfold big; omega) (by simp; omega)]
  simp only [Option.bind_some, List.nil_append]
  have : slices_Reverse_s0 (digsN n).reverse = some (digsN n) := by
    unfold slices_Reverse_s0
    rw [reverse_loop _ (by simp; omega)]; simp
  rw [this]; rfl

def figsP (xs : List Int) : Prop := ∀ x ∈ xs, 0 ≤ x ∧ x ≤ 9
theorem figsP_of {xs : List Int} (h : figs xs = true) (h0 : ∀ x ∈ xs, 0 ≤ x) : figsP xs := fun x hx => by
  have := List.all_eq_true.1 h x hx
  simp at this
  exact ⟨h0 x hx, this⟩

def val (xs : List Int) : Int := xs.foldl (fun a x => a * 10 + x) 0
theorem val_snoc (xs : List Int) (x : Int) : val (xs ++ [x]) = val xs * 10 + x := by simp [val]
theorem foldl_val : ∀ (xs : List Int) (a : Int), xs.foldl (fun a x => a * 10 + x) a = a * ((10 ^ xs.length : Nat) : Int) + val xs := by
  intro xs
  induction xs with
  | nil => intro a; simp [val]
  | cons x xs ih =>
    intro a
    have e2 : val (x :: xs) = List.foldl (fun a x => a * 10 + x) (0 * 10 + x) xs := rfl
    rw [e2, ih, List.foldl_cons, ih]
    rw [List.length_cons, Nat.pow_succ]
    push_cast
    generalize ((10 : Int) ^ xs.length) = p
    rw [Int.add_mul, Int.add_mul, Int.mul_assoc, Int.mul_comm 10 p]; simp; rw [Int.add_assoc]
theorem val_cons (x : Int) (xs : List Int) : val (x :: xs) = x * ((10 ^ xs.length : Nat) : Int) + val xs := by
  have e2 : val (x :: xs) = List.foldl (fun a x => a * 10 + x) (0 * 10 + x) xs := rfl
  rw [e2, foldl_val]; simp
theorem val_nonneg {xs : List Int} (h : figsP xs) : 0 ≤ val xs := by
  induction xs with
  | nil => simp [val]
  | cons x xs ih =>
    rw [val_cons]
    have h1 := ih (fun y hy => h y (List.mem_cons_of_mem _ hy))
    have h2 := Int.mul_nonneg (h x (List.mem_cons_self ..)).1 (Int.natCast_nonneg (10 ^ xs.length))
    omega
theorem val_lt {xs : List Int} (h : figsP xs) : val xs < ((10 ^ xs.length : Nat) : Int) := by
  induction xs with
  | nil => simp [val]
  | cons x xs ih =>
    rw [val_cons]
    have h1 := ih (fun y hy => h y (List.mem_cons_of_mem _ hy))
    have h2 := Int.mul_le_mul_of_nonneg_right (h x (List.mem_cons_self ..)).2 (Int.natCast_nonneg (10 ^ xs.length))
    rw [List.length_cons, Nat.pow_succ]
    omega
theorem val_ge {x : Int} {xs : List Int} (h : figsP (x :: xs)) (hx : ¬ x = 0) : ((10 ^ xs.length : Nat) : Int) ≤ val (x :: xs) := by
  rw [val_cons]
  have h1 := val_nonneg (xs := xs) (fun y hy => h y (List.mem_cons_of_mem _ hy))
  have h0 := (h x (List.mem_cons_self ..)).1
  have h2 := Int.mul_le_mul_of_nonneg_right (show (1 : Int) ≤ x by omega) (Int.natCast_nonneg (10 ^ xs.length))
  omega
theorem val_bare (xs : List Int) : val (bare xs) = val xs := by
  induction xs with
  | nil => rfl
  | cons x xs ih =>
    by_cases hx : x = 0
    · have : bare (x :: xs) = bare xs := by simp [bare, hx]
      rw [this, ih, val_cons, hx]; simp
    · have : bare (x :: xs) = x :: xs := by simp [bare, hx]
      rw [this]
theorem bare_head {xs l : List Int} {x : Int} (h : bare xs = x :: l) : ¬ x = 0 := by
  induction xs with
  | nil => cases h
  | cons y xs ih =>
    by_cases hy : y = 0
    · have : bare (y :: xs) = bare xs := by simp [bare, hy]
      rw [this] at h; exact ih h
    · have : bare (y :: xs) = y :: xs := by simp [bare, hy]
      rw [this] at h
      cases h; exact hy
theorem bare_sub (xs : List Int) : ∀ x ∈ bare xs, x ∈ xs := fun x hx => (List.dropWhile_sublist _).subset hx
theorem figsP_bare {xs : List Int} (h : figsP xs) : figsP (bare xs) := fun x hx => h x (bare_sub xs x hx)

theorem emod_step (v x m : Int) : ((v % m) * 10 + x) % m = (v * 10 + x) % m := by
  rw [Int.add_emod, Int.mul_emod, Int.emod_emod, ← Int.mul_emod, ← Int.add_emod]
theorem emod_two (a x p m : Int) : (a % m + x * (p % m)) % m = (x * p + a) % m := by
  rw [Int.add_emod, Int.mul_emod, Int.emod_emod, Int.emod_emod, ← Int.mul_emod, ← Int.add_emod, Int.add_comm]
theorem emod_ten (p m : Int) : (p % m * 10) % m = (p * 10) % m := by
  rw [Int.mul_emod, Int.emod_emod, ← Int.mul_emod]

theorem mod_eq {xs : List Int} {m : Int} (hf : figsP xs) (hl : xs.length ≤ 4294967296) (h1 : 1 ≤ m) (h2 : m ≤ 1000000000) : oper_Mod xs m = some (val xs % m) := by
  unfold oper_Mod
  rw [dF (show ¬ m < 1 by omega), dF (show ¬ m > 1000000000 by omega)]
  simp only [cond_false, Option.bind_some, joinX]
  rw [loop_fold xs (fun pre => (val pre % m, (pre.length : Int))) (val xs % m)]
  · rfl
  · simp [val]
  · intro pre x suf h
    have hl' : (pre ++ x :: suf).length ≤ 4611686018427387904 := by rw [← h]; omega
    have hx := hf x (by rw [h]; simp)
    simp only
    rw [h, lt_mid, inR_mid, nth_mid, w_mid hl', val_snoc]
    have g1 := Int.emod_nonneg (val pre) (show m ≠ 0 by omega)
    have g2 := Int.emod_lt_of_pos (val pre) (show 0 < m by omega)
    have hn : nz m = true := by simp [nz]; omega
    rw [w64 (n := val pre % m * 10) (by omega) (by omega), w64 (n := x) (by omega) (by omega), w64 (by omega) (by omega), Int.tmod_eq_emod_of_nonneg (by omega), emod_step, hn]
    rfl
  · simp only; rw [lt_end]; rfl
  · omega
theorem mul_le_nine {x p : Int} (h0 : 0 ≤ x) (h : x ≤ 9) (hp : 0 ≤ p) : 0 ≤ x * p ∧ x * p ≤ 9 * p := ⟨Int.mul_nonneg h0 hp, Int.mul_le_mul_of_nonneg_right h hp⟩
theorem rmod_eq {xs : List Int} {m : Int} (hf : figsP xs) (hl : xs.length ≤ 4294967296) (h1 : 1 ≤ m) (h2 : m ≤ 1000000000) : exergueref07_Mod xs m = some (val xs % m) := by
  unfold exergueref07_Mod
  have hn : nz m = true := by simp [nz]; omega
  rw [hn]
  simp only [cond_true]
  rw [loop_fold_back xs (fun suf => (val suf % m, ((10 ^ suf.length : Nat) : Int) % m, (xs.length : Int) - 1 - suf.length)) (val xs % m)]
  · rfl
  · rw [Int.tmod_eq_emod_of_nonneg (by omega), w64 (by omega) (by omega)]; simp [val]
  · intro pre x suf h
    have hx := hf x (by rw [h]; simp)
    have e0 : (xs.length : Int) - 1 - suf.length = (pre.length : Int) := by rw [h]; simp; omega
    have e1 : (xs.length : Int) - 1 - (x :: suf).length = (pre.length : Int) - 1 := by rw [h]; simp; omega
    have hpl : pre.length ≤ xs.length := by rw [h]; simp
    simp only
    rw [e0, e1, dT (show (pre.length : Int) ≥ 0 by omega), h, inR_mid, nth_mid, val_cons]
    have g1 := Int.emod_nonneg (val suf) (show m ≠ 0 by omega)
    have g2 := Int.emod_lt_of_pos (val suf) (show 0 < m by omega)
    generalize hp : ((10 ^ suf.length : Nat) : Int) = p
    have g3 := Int.emod_nonneg p (show m ≠ 0 by omega)
    have g4 := Int.emod_lt_of_pos p (show 0 < m by omega)
    have g5 := mul_le_nine hx.1 hx.2 g3
    have hp' : ((10 ^ (x :: suf).length : Nat) : Int) = p * 10 := by rw [List.length_cons, Nat.pow_succ, ← hp]; push_cast; rfl
    rw [w64 (n := x) (by omega) (by omega), w64 (n := x * (p % m)) (by omega) (by omega), w64 (n := val suf % m + x * (p % m)) (by omega) (by omega), w64 (n := p % m * 10) (by omega) (by omega), w64 (n := (pre.length : Int) - 1) (by omega) (by omega),
      Int.tmod_eq_emod_of_nonneg (by omega), Int.tmod_eq_emod_of_nonneg (by omega), emod_two, emod_ten, hp']
    rfl
  · have e0 : (xs.length : Int) - 1 - xs.length = -1 := by omega
    simp only
    rw [e0]; rfl
  · omega

theorem pow19 {n : Nat} (h : n ≤ 19) : 10 ^ n ≤ 10000000000000000000 := Nat.pow_le_pow_right (by decide) h
theorem val_loop {ys : List Int} (hf : figsP ys) (hl : ys.length ≤ 19) :
    loopN (fun (s65 : Int × Int) => (bif (decide (s65.2 < (ys.length : Int))) then (bif inR s65.2 ys.length then (some (.inl ((IntKind.wrap .u64 ((IntKind.wrap .u64 (s65.1 * 10)) + (IntKind.wrap .u64 (nth ys s65.2)))), (IntKind.wrap .i64 (s65.2 + 1))))) else none) else (some (.inr s65.1)))) big (0, 0) = some (val ys) := by
  rw [loop_fold ys (fun pre => (val pre, (pre.length : Int))) (val ys)]
  · simp [val]
  · intro pre x suf h
    have hl' : (pre ++ x :: suf).length ≤ 4611686018427387904 := by rw [← h]; omega
    have hx := hf x (by rw [h]; simp)
    have hfp : figsP (pre ++ [x]) := fun y hy => hf y (by rw [h]; simp at hy ⊢; rcases hy with hy | hy <;> simp [hy])
    have hfp0 : figsP pre := fun y hy => hf y (by rw [h]; simp [hy])
    have b1 := val_lt hfp
    have b2 := pow19 (n := (pre ++ [x]).length) (by rw [h] at hl; simp at hl ⊢; omega)
    have b3 := val_nonneg hfp0
    rw [val_snoc] at b1
    simp only
    rw [h, lt_mid, inR_mid, nth_mid, w_mid hl', val_snoc]
    rw [wu64 (n := val pre * 10) (by omega) (by omega), wu64 (n := x) (by omega) (by omega), wu64 (by omega) (by omega)]
    rfl
  · simp only; rw [lt_end]; rfl
  · omega

theorem in_eq {xs : List Int} {a b : Int} (hf : figsP xs) (hl : xs.length ≤ 4294967296) (ha : -9223372036854775808 ≤ a ∧ a < 9223372036854775808) (hb : -9223372036854775808 ≤ b ∧ b < 9223372036854775808) :
    oper_In xs a b = some (decide (a ≤ val xs ∧ val xs ≤ b)) := by
  have hv := val_nonneg hf
  unfold oper_In
  rw [strip_eq hl]
  simp only [Option.bind_some]
  by_cases h19 : (bare xs).length > 19
  · rw [dT (by omega)]
    simp only [cond_true, Option.bind_some, joinX]
    rw [dF]
    obtain ⟨x, l, hxl⟩ : ∃ x l, bare xs = x :: l := by
      cases hb : bare xs with
      | nil => rw [hb] at h19; simp at h19
      | cons x l => exact ⟨x, l, rfl⟩
    have hfb := figsP_bare hf
    rw [hxl] at hfb h19
    have := val_ge hfb (bare_head hxl)
    have h2 : 10 ^ 19 ≤ 10 ^ l.length := Nat.pow_le_pow_right (by decide) (by simp at h19; omega)
    rw [← hxl, val_bare] at this
    omega
  · rw [dF (by omega)]
    simp only [cond_false, Option.bind_some]
    by_cases hb0 : b < 0
    · rw [dT hb0]
      simp only [cond_true, Option.bind_some, joinX]
      rw [dF (by omega)]
    · rw [dF hb0]
      simp only [cond_false, Option.bind_some, joinX]
      rw [val_loop (figsP_bare hf) (by omega), val_bare]
      simp only [Option.bind_some]
      rw [wu64 (n := b) (by omega) (by omega)]
      have e : IntKind.wrap .u64 (maxI a 0) = maxI a 0 := by
        unfold maxI; split
        · exact wu64 (by omega) (by omega)
        · exact wu64 (by omega) (by omega)
      rw [e]
      have em : val xs ≥ maxI a 0 ↔ a ≤ val xs := by
        unfold maxI; split <;> omega
      by_cases c1 : val xs ≤ b <;> by_cases c2 : a ≤ val xs <;> simp [c1, c2, em]
def ofV (w p : List Int) (c : Int) : St25 × Int := if figs w = true ∧ figs p = true ∧ 0 ≤ c ∧ c ≤ 1000 then (⟨bare w, p, full p, c⟩, 0) else (⟨[], [], 0, 0⟩, 1)
def lead0 (xs : List Int) : Bool := decide (xs.head? = some 0)
theorem lead_loop {xs : List Int} : (bif (decide ((xs.length : Int) > 0)) then (bif inR 0 xs.length then (some ((decide ((nth xs 0) = 0)))) else none) else (some false)) = some (lead0 xs) := by
  cases xs with
  | nil => rfl
  | cons x l =>
    have e1 : decide (((x :: l).length : Int) > 0) = true := dT (by simp)
    have e2 : inR 0 (x :: l).length = true := inR_int (by omega) (by simp)
    rw [e1, e2]; simp [lead0, nth]
def rightB (o : St25) : Bool := figs o.I_ && figs o.F_ && !lead0 o.I_ && decide (o.W_ = full o.F_) && decide (0 ≤ o.C_) && decide (o.C_ ≤ 1000)
theorem right_eq {o : St25} (h1 : o.I_.length ≤ 4294967296) (h2 : o.F_.length ≤ 4294967296) : oper_Right o = some (rightB o) := by
  unfold oper_Right rightB
  rw [figures_eq (by omega), figures_eq (by omega), lead_loop, shown_of h2]
  cases figs o.I_ <;> cases figs o.F_ <;> cases lead0 o.I_ <;> by_cases g2 : o.W_ = full o.F_ <;> by_cases g3 : 0 ≤ o.C_ <;> by_cases g4 : o.C_ ≤ 1000 <;> simp [g2, g3, g4, joinX]
theorem rright_eq {o : St25} (h1 : o.I_.length ≤ 4294967296) (h2 : o.F_.length ≤ 4294967296) : exergueref07_Right o = some (rightB o) := by
  unfold exergueref07_Right rightB
  rw [rfigures_eq (by omega), rfigures_eq (by omega), lead_loop, rfull_eq h2]
  cases figs o.I_ <;> cases figs o.F_ <;> cases lead0 o.I_ <;> by_cases g2 : o.W_ = full o.F_ <;> by_cases g3 : 0 ≤ o.C_ <;> by_cases g4 : o.C_ ≤ 1000 <;> simp [g2, g3, g4, joinX]
theorem rightB_iff {o : St25} : rightB o = true ↔ figs o.I_ = true ∧ figs o.F_ = true ∧ lead0 o.I_ = false ∧ o.W_ = full o.F_ ∧ 0 ≤ o.C_ ∧ o.C_ ≤ 1000 := by
  unfold rightB
  simp only [Bool.and_eq_true, decide_eq_true_eq, Bool.not_eq_true']
  constructor
  · rintro ⟨⟨⟨⟨⟨a, b⟩, c⟩, d⟩, e⟩, f⟩; exact ⟨a, b, c, d, e, f⟩
  · rintro ⟨a, b, c, d, e, f⟩; exact ⟨⟨⟨⟨⟨a, b⟩, c⟩, d⟩, e⟩, f⟩

def opnd (o : St25) (x : Int) : List Int × Bool :=
  if x = 110 then (if o.W_ > 0 then ([], false) else (o.I_, true)) else if x = 105 then (o.I_, true) else if x = 118 then (digsN o.F_.length, true) else if x = 119 then (digsN o.W_.toNat, true)
  else if x = 102 then (bare o.F_, true) else if x = 116 then (bare (o.F_.take o.W_.toNat), true) else if x = 99 ∨ x = 101 then (digsN o.C_.toNat, true) else ([], false)

theorem spell_int {n : Int} (h0 : 0 ≤ n) (h : n < 9223372036854775808) : oper_spell n = some (digsN n.toNat) := by
  obtain ⟨k, rfl⟩ := Int.eq_ofNat_of_zero_le h0
  rw [Int.toNat_natCast]; exact spell_eq (by omega)
theorem number_int {n : Int} (h0 : 0 ≤ n) (h : n < 9223372036854775808) : exergueref07_number n = some (digsN n.toNat) := by
  obtain ⟨k, rfl⟩ := Int.eq_ofNat_of_zero_le h0
  rw [Int.toNat_natCast]; exact number_eq (by omega)
theorem cut0 {xs : List Int} {n : Int} : cut xs 0 n = xs.take n.toNat := by simp [cut]

theorem operand_eq {o : St25} {x : Int} (h1 : o.I_.length ≤ 4294967296) (h2 : o.F_.length ≤ 4294967296) : oper_Operand o x = some (if rightB o = true then opnd o x else ([], false)) := by
  unfold oper_Operand
  rw [right_eq h1 h2]
  simp only [Option.bind_some]
  cases hr : rightB o with
  | false => rfl
  | true =>
    obtain ⟨_, _, _, hw, hc0, hc⟩ := rightB_iff.1 hr
    have hfl := full_le o.F_
    have t1 : (o.F_.take o.W_.toNat).length ≤ 4294967296 := by rw [List.length_take]; omega
    unfold oper_asked__operands_s0 oper_asked__number oper_asked__whole oper_asked__long oper_asked__short oper_asked__part oper_asked__cut oper_asked__power opnd
    simp only
    rw [clone_eq h1, spell_int (n := (o.F_.length : Int)) (by omega) (by omega), spell_int (n := o.W_) (by omega) (by omega), strip_eq h2, cut0, strip_eq t1, spell_int (n := o.C_) (by omega) (by omega), inS_of (l := 0) (h := o.W_) (by omega) (by omega) (by omega)]
    by_cases k1 : x = 110
    · by_cases k2 : o.W_ > 0 <;> simp [k1, k2]
    · by_cases k2 : x = 105 <;> by_cases k3 : x = 118 <;> by_cases k4 : x = 119 <;> by_cases k5 : x = 102 <;> by_cases k6 : x = 116 <;> by_cases k7 : x = 99 <;> by_cases k8 : x = 101 <;> first | (exfalso; omega) | simp [k1, k2, k3, k4, k5, k6, k7, k8]
theorem roperand_eq {o : St25} {x : Int} (h1 : o.I_.length ≤ 4294967296) (h2 : o.F_.length ≤ 4294967296) (hr : rightB o = true) : exergueref07_Operand o x = some (opnd o x) := by
  unfold exergueref07_Operand
  obtain ⟨_, _, _, hw, hc0, hc⟩ := rightB_iff.1 hr
  have hfl := full_le o.F_
  have t1 : (o.F_.take o.W_.toNat).length ≤ 4294967296 := by rw [List.length_take]; omega
  unfold opnd
  rw [number_int (n := (o.F_.length : Int)) (by omega) (by omega), number_int (n := o.W_) (by omega) (by omega), rbare_eq h2, cut0, rbare_eq t1, number_int (n := o.C_) (by omega) (by omega), inS_of (l := 0) (h := o.W_) (by omega) (by omega) (by omega)]
  by_cases k1 : x = 110
  · by_cases k2 : o.W_ > 0 <;> simp [k1, k2, joinX]
  · by_cases k2 : x = 105 <;> by_cases k3 : x = 118 <;> by_cases k4 : x = 119 <;> by_cases k5 : x = 102 <;> by_cases k6 : x = 116 <;> by_cases k7 : x = 99 <;> by_cases k8 : x = 101 <;> first | (exfalso; omega) | simp [k1, k2, k3, k4, k5, k6, k7, k8, joinX]

theorem figs_nonneg {xs : List Int} (h : WfL (WfI .u8) xs) : ∀ x ∈ xs, 0 ≤ x := fun x hx => (wf_u8 (h.2 x hx)).1

theorem bare_id {xs : List Int} (h : lead0 xs = false) : bare xs = xs := by
  cases xs with
  | nil => rfl
  | cons x l =>
    have hx : ¬ x = 0 := by simpa [lead0] using h
    simp [bare, hx]
theorem lead0_bare (xs : List Int) : lead0 (bare xs) = false := by
  cases h : bare xs with
  | nil => rfl
  | cons x l =>
    have := bare_head h
    simpa [lead0] using this
theorem figs_sub {xs ys : List Int} (h : ∀ x ∈ ys, x ∈ xs) (hf : figs xs = true) : figs ys = true := List.all_eq_true.2 fun x hx => List.all_eq_true.1 hf x (h x hx)
theorem lead0_digs (n : Nat) : lead0 (digsN n) = false := by
  induction n using Nat.strongRecOn with
  | _ n ih =>
    by_cases h0 : n = 0
    · subst h0; rw [digsN_zero]; rfl
    · rw [digsN_pos h0]
      have := ih (n / 10) (by omega)
      cases hd : digsN (n / 10) with
      | cons y l => rw [hd] at this; simpa [lead0] using this
      | nil =>
        have : n / 10 = 0 := by
          apply Decidable.byContradiction
          intro hne
          rw [digsN_pos hne] at hd; simp at hd
        simp [lead0]; omega
theorem bare_snoc0 (xs : List Int) : bare (xs ++ [0]) = if bare xs = [] then [] else bare xs ++ [0] := by
  induction xs with
  | nil => rfl
  | cons x xs ih =>
    by_cases hx : x = 0
    · have e1 : bare (x :: xs) = bare xs := by simp [bare, hx]
      have e2 : bare (x :: xs ++ [0]) = bare (xs ++ [0]) := by simp [bare, hx]
      rw [e1, e2, ih]
    · have e1 : bare (x :: xs) = x :: xs := by simp [bare, hx]
      have e2 : bare (x :: xs ++ [0]) = x :: xs ++ [0] := by simp [bare, hx]
      rw [e1, e2]; simp
theorem full_snoc0 (xs : List Int) : full (xs ++ [0]) = full xs := by rw [full_snoc]; simp
theorem ofV_len (w p : List Int) (c : Int) : (ofV w p c).1.I_.length ≤ w.length ∧ (ofV w p c).1.F_.length ≤ p.length := by
  unfold ofV
  have := bare_len w
  split <;> simp <;> omega
theorem ofV_right {w p : List Int} {c : Int} (h : (ofV w p c).2 = 0) : rightB (ofV w p c).1 = true ∧ figs w = true ∧ figs p = true ∧ 0 ≤ c ∧ c ≤ 1000 ∧ (ofV w p c).1 = ⟨bare w, p, full p, c⟩ := by
  unfold ofV at h ⊢
  split at h
  · rename_i hc
    rw [if_pos hc]
    exact ⟨rightB_iff.2 ⟨figs_sub (bare_sub w) hc.1, hc.2.1, lead0_bare w, rfl, hc.2.2.1, hc.2.2.2⟩, hc.1, hc.2.1, hc.2.2.1, hc.2.2.2, rfl⟩
  · cases h

theorem loop_var {S O : Type} {step : S → Option (S ⊕ O)} (I : S → Prop) (μ : S → Nat) (post : O → Prop) {s0 : S} (h0 : I s0) (hb : μ s0 < 18446744073709551616)
    (hs : ∀ s, I s → (∃ s', step s = some (.inl s') ∧ I s' ∧ μ s' < μ s) ∨ ∃ o, step s = some (.inr o) ∧ post o) : ∃ o, loopN step big s0 = some o ∧ post o := by
  have key : ∀ m s, I s → μ s < m → ∃ o, loopN step m s = some o ∧ post o := by
    intro m
    induction m with
    | zero => intro s _ h; omega
    | succ m ih =>
      intro s hi hm
      rcases hs s hi with ⟨s', h1, h2, h3⟩ | ⟨o, h1, h2⟩
      · rw [loopN_next h1]; exact ih s' h2 (by omega)
      · exact ⟨o, loopN_out h1, h2⟩
  exact key big s0 h0 hb
def Tot {α : Type} (x : Option α) (p : α → Prop) : Prop := ∃ o, x = some o ∧ p o
theorem Tot.ret {α : Type} {a : α} {p : α → Prop} (h : p a) : Tot (some a) p := ⟨a, rfl, h⟩
theorem Tot.bind {α β : Type} {x : Option α} {k : α → Option β} {p : α → Prop} {q : β → Prop} (h : Tot x p) (hk : ∀ o, p o → Tot (k o) q) : Tot (Option.bind x k) q := by
  obtain ⟨o, rfl, h⟩ := h; exact hk o h
theorem Tot.ite {α : Type} {b : Bool} {t e : Option α} {p : α → Prop} (ht : b = true → Tot t p) (he : b = false → Tot e p) : Tot (bif b then t else e) p := by
  cases b with
  | true => exact ht rfl
  | false => exact he rfl
theorem Tot.yes {α : Type} {b : Bool} {t e : Option α} {p : α → Prop} (h : b = true) (ht : Tot t p) : Tot (bif b then t else e) p := by subst h; exact ht
theorem Tot.mono {α : Type} {x : Option α} {p q : α → Prop} (h : Tot x p) (hq : ∀ o, p o → q o) : Tot x q := by obtain ⟨o, h1, h2⟩ := h; exact ⟨o, h1, hq o h2⟩
def joinP {S X : Type} (k : S → Option X) (p : X → Prop) : S ⊕ X → Prop
  | .inl s => Tot (k s) p
  | .inr r => p r
theorem Tot.join {S X : Type} {x : Option (S ⊕ X)} {k : S → Option X} {p : X → Prop} (h : Tot x (joinP k p)) : Tot (Option.bind x (joinX k)) p := by
  obtain ⟨o, rfl, h⟩ := h
  cases o with
  | inl s => exact h
  | inr r => exact ⟨r, rfl, h⟩
/-- A loop as long as a measure falls. -/
theorem Tot.loop {S O : Type} {step : S → Option (S ⊕ O)} (I : S → Prop) (μ : S → Nat) {post : O → Prop} {s0 : S} (h0 : I s0) (hb : μ s0 < 18446744073709551616)
    (hs : ∀ s, I s → Tot (step s) (fun x => match x with | .inl s' => I s' ∧ μ s' < μ s | .inr o => post o)) : Tot (loopN step big s0) post := by
  refine loop_var I μ post h0 hb (fun s hi => ?_)
  obtain ⟨x, h1, h2⟩ := hs s hi
  cases x with
  | inl s' => exact .inl ⟨s', h1, h2⟩
  | inr o => exact .inr ⟨o, h1, h2⟩
theorem Tot.any {α : Type} {x : Option α} {p : α → Prop} (h : Tot x p) : Tot x (fun _ => True) := h.mono (fun _ _ => trivial)
theorem dTT {p : Prop} [Decidable p] (h : decide p = true) : p := of_decide_eq_true h
theorem dFF {p : Prop} [Decidable p] (h : decide p = false) : ¬ p := of_decide_eq_false h
def txt (s : List UInt8) (i : Int) : Prop := 0 ≤ i ∧ i ≤ s.length
def joinP2 (s : List UInt8) (i a : Int) (l : List St42) : (Int × Int) ⊕ ((Int × List St42) ⊕ (List St42 × Int × Bool)) → Prop
  | .inl w => a < w.1 ∧ w.1 ≤ s.length
  | .inr (.inl _) => False
  | .inr (.inr o) => txt s o.2.1 ∧ i ≤ o.2.1 ∧ o.1.length ≤ s.length
theorem rover_tot {s : List UInt8} {i : Int} (hl : s.length ≤ 1000000) (h : txt s i) : Tot (exergueref11_over s i) (fun o => i ≤ o ∧ o ≤ s.length) := by
  obtain ⟨h0, h1⟩ := h
  unfold exergueref11_over
  refine Tot.bind (Tot.loop (fun q => i ≤ q ∧ q ≤ s.length) (fun q => (s.length - q).toNat) ⟨by omega, by omega⟩ (by omega) (fun q hq => ?_)) (fun o ho => Tot.ret ho)
  refine Tot.join (Tot.bind (p := fun b => b = true → q < s.length) ?_ (fun b hb => ?_))
  · refine Tot.ite (fun h => ?_) (fun _ => Tot.ret (by simp))
    have h := dTT h
    exact Tot.yes (inR_int (by omega) h) (Tot.ret fun _ => h)
  · refine Tot.ite (fun h => Tot.ret ?_) (fun _ => Tot.ret hq)
    have := hb h
    refine Tot.ret ?_
    simp only
    rw [w64 (by omega) (by omega)]; omega
theorem rword_tot {s : List UInt8} {i : Int} (hl : s.length ≤ 1000000) (h : txt s i) : Tot (exergueref11_word s i) (fun o => i ≤ o ∧ o ≤ s.length) := by
  obtain ⟨h0, h1⟩ := h
  unfold exergueref11_word
  refine Tot.bind (Tot.loop (fun q => i ≤ q ∧ q ≤ s.length) (fun q => (s.length - q).toNat) ⟨by omega, by omega⟩ (by omega) (fun q hq => ?_)) (fun o ho => Tot.ret ho)
  refine Tot.join (Tot.bind (p := fun b => b = true → q < s.length) ?_ (fun b hb => ?_))
  · refine Tot.ite (fun h => ?_) (fun _ => Tot.ret (by simp))
    have h := dTT h
    refine Tot.yes (inR_int (by omega) h) (Tot.ite (fun _ => ?_) (fun _ => Tot.ret fun _ => h))
    exact Tot.yes (inR_int (by omega) h) (Tot.ret fun _ => h)
  · refine Tot.ite (fun h => Tot.ret ?_) (fun _ => Tot.ret hq)
    have := hb h
    refine Tot.ret ?_
    simp only
    rw [w64 (by omega) (by omega)]; omega
theorem rsign_tot {s : List UInt8} {i : Int} {x : List UInt8} (hl : s.length ≤ 1000000) (h : txt s i) (hx : x.length ≤ 10) : Tot (exergueref11_sign s i x) (fun b => b = true → i + x.length ≤ s.length) := by
  obtain ⟨h0, h1⟩ := h
  unfold exergueref11_sign
  rw [w64 (n := i + (x.length : Int)) (by omega) (by omega)]
  refine Tot.bind (p := fun b => b = true → i + x.length ≤ s.length) ?_ (fun b hb => Tot.ret hb)
  refine Tot.ite (fun h => ?_) (fun _ => Tot.ret (by simp))
  have h := dTT h
  exact Tot.yes (inS_of (by omega) (by omega) (by omega)) (Tot.ret fun _ => h)
theorem rnumber_tot {s : List UInt8} {i l : Int} (hl : s.length ≤ 1000000) (h : txt s i) : Tot (exergueref11_number s i l) (fun o => txt s o.2 ∧ i ≤ o.2 ∧ (0 ≤ o.1 → i < o.2)) := by
  unfold exergueref11_number
  refine Tot.bind (rover_tot hl h) (fun y hy => ?_)
  obtain ⟨h0, h1⟩ := h
  refine Tot.bind (Tot.loop (fun q : Int × Int => y ≤ q.1 ∧ q.1 ≤ s.length) (fun q : Int × Int => ((s.length : Int) - q.1).toNat) (post := fun q : Int × Int => y ≤ q.1 ∧ q.1 ≤ s.length) ⟨by simp only; omega, by simp only; omega⟩ (by simp only; omega) (fun q hq => ?_)) (fun o ho => ?_)
  · refine Tot.join (Tot.bind (p := fun b => b = true → q.1 < s.length) ?_ (fun b hb => ?_))
    · refine Tot.ite (fun h => ?_) (fun _ => Tot.ret (by simp))
      have h := dTT h
      refine Tot.yes (inR_int (by omega) h) (Tot.ite (fun _ => ?_) (fun _ => Tot.ret fun _ => h))
      exact Tot.yes (inR_int (by omega) h) (Tot.ret fun _ => h)
    · refine Tot.ite (fun h => Tot.ret ?_) (fun _ => Tot.ret hq)
      have := hb h
      refine Tot.bind (p := fun _ => True) ?_ (fun v _ => Tot.ret ?_)
      · refine Tot.ite (fun _ => ?_) (fun _ => Tot.ret trivial)
        exact Tot.yes (inR_int (by omega) this) (Tot.ret trivial)
      · simp only
        rw [w64 (n := q.1 + 1) (by omega) (by omega)]; omega
  · refine Tot.join (Tot.bind (p := fun b => b = false → y < o.1) ?_ (fun b hb => ?_))
    · refine Tot.ite (fun _ => Tot.ret (by simp)) (fun h => ?_)
      have h := dFF h
      have hlt : y < o.1 := by omega
      refine Tot.ite (fun _ => Tot.ret (by simp)) (fun _ => ?_)
      refine Tot.yes (inR_int (by omega) (by omega)) (Tot.ite (fun _ => ?_) (fun _ => Tot.ret fun _ => hlt))
      exact Tot.ite (fun _ => Tot.ret (by simp)) (fun _ => Tot.ret fun _ => hlt)
    · refine Tot.ite (fun _ => Tot.ret ?_) (fun h => Tot.ret ?_)
      · exact ⟨⟨by simp only; omega, by simp only; omega⟩, by simp only; omega, by simp only; omega⟩
      · have := hb h
        exact Tot.ret ⟨⟨by simp only; omega, by simp only; omega⟩, by simp only; omega, fun _ => by simp only; omega⟩
theorem rranges_tot {s : List UInt8} {i : Int} (hl : s.length ≤ 1000000) (h : txt s i) : Tot (exergueref11_ranges s i) (fun o => txt s o.2.1 ∧ i ≤ o.2.1 ∧ o.1.length ≤ s.length) := by
  unfold exergueref11_ranges
  obtain ⟨h0, h1⟩ := h
  refine Tot.loop (fun q : Int × List St42 => i ≤ q.1 ∧ q.1 ≤ s.length ∧ (q.2.length : Int) ≤ q.1) (fun q : Int × List St42 => ((s.length : Int) - q.1).toNat) ⟨by simp only; omega, by simp only; omega, by simp; omega⟩ (by simp only; omega) (fun q hq => ?_)
  have tq : txt s q.1 := ⟨by omega, by omega⟩
  refine Tot.bind (rnumber_tot hl tq) (fun y hy => ?_)
  obtain ⟨⟨y1, y2⟩, y3, y4⟩ := hy
  refine Tot.ite (fun _ => Tot.ret ?_) (fun hn => ?_)
  · exact ⟨⟨y1, y2⟩, by simp only; omega, by simp⟩
  · have hn := dFF hn
    have y4 := y4 (by omega)
    refine Tot.bind (rover_tot hl ⟨y1, y2⟩) (fun z hz => ?_)
    refine Tot.join (Tot.mono (p := joinP2 s i q.1 q.2) ?_ (fun w hw => ?_))
    · refine Tot.bind (rsign_tot (x := [46, 46]) hl ⟨by omega, hz.2⟩ (by simp)) (fun b hb => ?_)
      refine Tot.ite (fun h => ?_) (fun _ => Tot.ret ⟨by simp only; omega, by simp only; omega⟩)
      have hb := hb h
      simp at hb
      rw [w64 (n := z + 2) (by omega) (by omega)]
      refine Tot.bind (rnumber_tot hl ⟨by omega, by omega⟩) (fun v hv => ?_)
      obtain ⟨⟨v1, v2⟩, v3, v4⟩ := hv
      refine Tot.ite (fun _ => Tot.ret ⟨⟨v1, v2⟩, by simp only; omega, by simp⟩) (fun hn => Tot.ret ⟨by simp only; omega, by simp only; omega⟩)
    · cases w with
      | inr r =>
        cases r with
        | inl x => exact hw.elim
        | inr o => exact hw
      | inl w =>
        obtain ⟨w1, w2⟩ := hw
        refine Tot.yes (room_of (by simp; omega)) ?_
        refine Tot.bind (rover_tot hl ⟨by omega, w2⟩) (fun c hc => ?_)
        refine Tot.bind (rsign_tot (x := [44]) hl ⟨by omega, hc.2⟩ (by simp)) (fun b hb => ?_)
        refine Tot.ite (fun _ => Tot.ret ?_) (fun h => Tot.ret ?_)
        · exact ⟨⟨by simp only; omega, by simp only; omega⟩, by simp only; omega, by simp; omega⟩
        · have hb := hb (by simpa using h)
          simp at hb
          simp only
          rw [w64 (n := c + 1) (by omega) (by omega)]
          simp; omega


theorem rop_tot (x : Int) : Tot (exergueref11_op x) (fun _ => True) := by
  unfold exergueref11_op
  refine Tot.bind (p := fun _ => True) ?_ (fun _ _ => Tot.ret trivial)
  repeat' (first | exact Tot.ret trivial | refine Tot.ite (fun _ => ?_) (fun _ => ?_))
def relP (s : List UInt8) (i : Int) (o : St44 × Int × Bool) : Prop := txt s o.2.1 ∧ (o.2.2 = true → i < o.2.1) ∧ o.1.R_.length ≤ s.length
theorem rrel_tot {s : List UInt8} {i : Int} (hl : s.length ≤ 1000000) (h : txt s i) : Tot (exergueref11_rel s i) (relP s i) := by
  unfold exergueref11_rel
  obtain ⟨h0, h1⟩ := h
  refine Tot.bind (rover_tot hl ⟨h0, h1⟩) (fun y hy => ?_)
  refine Tot.join (Tot.bind (p := fun b => b = false → y < s.length) ?_ (fun b hb => ?_))
  · refine Tot.bind (rword_tot hl ⟨by omega, hy.2⟩) (fun w hw => ?_)
    refine Tot.ite (fun _ => Tot.ret (by simp)) (fun h => ?_)
    have h := dFF h
    rw [w64 (n := y + 1) (by omega) (by omega)] at h
    have hlt : y < s.length := by omega
    refine Tot.yes (inR_int (by omega) hlt) ?_
    exact Tot.bind (rop_tot _) (fun _ _ => Tot.ret fun _ => hlt)
  · refine Tot.ite (fun _ => Tot.ret ?_) (fun h => Tot.ret ?_)
    · exact ⟨⟨by simp only; omega, hy.2⟩, by simp, by simp⟩
    · have hlt := hb h
      refine Tot.yes (inR_int (by omega) hlt) ?_
      rw [w64 (n := y + 1) (by omega) (by omega)]
      refine Tot.bind (rover_tot hl ⟨by omega, by omega⟩) (fun z hz => ?_)
      refine Tot.join (Tot.mono (p := fun x : (Int × Int) ⊕ (St44 × Int × Bool) => match x with | .inl w => y < w.1 ∧ w.1 ≤ s.length | .inr o => relP s i o) ?_ (fun w hw => ?_))
      · refine Tot.bind (rsign_tot (x := [37]) hl ⟨by omega, hz.2⟩ (by simp)) (fun b2 hb2 => ?_)
        refine Tot.ite (fun h => ?_) (fun _ => Tot.ret ⟨by simp only; omega, hz.2⟩)
        have hb2 := hb2 h
        simp at hb2
        rw [w64 (n := z + 1) (by omega) (by omega)]
        refine Tot.bind (rnumber_tot hl ⟨by omega, by omega⟩) (fun v hv => ?_)
        obtain ⟨⟨v1, v2⟩, v3, v4⟩ := hv
        refine Tot.ite (fun _ => Tot.ret ⟨⟨v1, v2⟩, by simp, by simp⟩) (fun _ => ?_)
        exact Tot.bind (rover_tot hl ⟨v1, v2⟩) (fun u hu => Tot.ret ⟨by simp only; omega, hu.2⟩)
      · cases w with
        | inr o => exact hw
        | inl w =>
          obtain ⟨w1, w2⟩ := hw
          refine Tot.bind (p := fun u : Int × Bool => y < u.1 ∧ u.1 ≤ s.length) ?_ (fun u hu => ?_)
          · refine Tot.bind (rsign_tot (x := [33, 61]) hl ⟨by omega, w2⟩ (by simp)) (fun b3 hb3 => ?_)
            refine Tot.ite (fun h => Tot.ret ?_) (fun _ => Tot.ret ⟨w1, w2⟩)
            have hb3 := hb3 h
            simp at hb3
            rw [w64 (n := w.1 + 1) (by omega) (by omega)]
            exact ⟨by simp only; omega, by simp only; omega⟩
          · refine Tot.bind (rsign_tot (x := [61]) hl ⟨by omega, hu.2⟩ (by simp)) (fun b4 hb4 => ?_)
            refine Tot.ite (fun _ => Tot.ret ⟨⟨by simp only; omega, hu.2⟩, by simp, by simp⟩) (fun h => ?_)
            have hb4 := hb4 (by simpa using h)
            simp at hb4
            rw [w64 (n := u.1 + 1) (by omega) (by omega)]
            refine Tot.bind (rranges_tot hl ⟨by omega, by omega⟩) (fun o ho => Tot.ret ?_)
            obtain ⟨⟨o1, o2⟩, o3, o4⟩ := ho
            exact ⟨⟨o1, o2⟩, fun _ => by simp only; omega, o4⟩
theorem rparse_tot {s : List UInt8} (hl : s.length ≤ 1000000) : Tot (exergueref11_Parse s) (fun o => o.1.length ≤ 1000001) := by
  unfold exergueref11_Parse
  refine Tot.ite (fun _ => Tot.ret (by simp)) (fun _ => ?_)
  refine Tot.join (Tot.loop (fun q : Int × Bool × Int × List (List St44) × List St44 => txt s q.2.2.1 ∧ (q.2.2.2.1.length : Int) ≤ q.2.2.1 ∧ (q.2.2.2.2.length : Int) ≤ q.2.2.1) (fun q : Int × Bool × Int × List (List St44) × List St44 => ((s.length : Int) - q.2.2.1).toNat) ⟨⟨by simp, by simp⟩, by simp, by simp⟩ (by simp only; omega) (fun q hq => ?_))
  obtain ⟨⟨q1, q2⟩, q3, q4⟩ := hq
  refine Tot.bind (rrel_tot hl ⟨q1, q2⟩) (fun y hy => ?_)
  obtain ⟨⟨y1, y2⟩, y3, y4⟩ := hy
  refine Tot.ite (fun _ => Tot.ret (by show _ ≤ _; simp)) (fun hok => ?_)
  have y3 := y3 (by simpa using hok)
  refine Tot.bind (p := fun _ => True) ?_ (fun f _ => ?_)
  · repeat' (first | exact Tot.ret trivial | refine Tot.ite (fun _ => ?_) (fun _ => ?_))
  refine Tot.yes (room_of (by simp; omega)) ?_
  refine Tot.bind (rover_tot hl ⟨y1, y2⟩) (fun z hz => ?_)
  refine Tot.ite (fun _ => Tot.ret ?_) (fun hne => ?_)
  · show Tot (bif f then _ else _) _
    refine Tot.ite (fun _ => Tot.ret (by simp)) (fun _ => ?_)
    exact Tot.yes (room_of (by simp; omega)) (Tot.ret (by simp; omega))
  · refine Tot.bind (rword_tot hl ⟨by omega, hz.2⟩) (fun w hw => ?_)
    have hin : inS z w s.length = true := inS_of (by omega) (by omega) (by omega)
    rw [hin]
    simp only [cond_true]
    refine Tot.join (Tot.bind (p := fun _ => True) ?_ (fun b _ => ?_))
    · repeat' (first | exact Tot.ret trivial | refine Tot.ite (fun _ => ?_) (fun _ => ?_))
    · refine Tot.ite (fun _ => Tot.ret (by show _ ≤ _; simp)) (fun _ => Tot.ret ?_)
      refine Tot.bind (p := fun u : List (List St44) × List St44 => (u.1.length : Int) ≤ z ∧ (u.2.length : Int) ≤ z) ?_ (fun u hu => Tot.ret ?_)
      · refine Tot.ite (fun _ => Tot.yes (room_of (by simp; omega)) (Tot.ret ⟨by simp; omega, by simp; omega⟩)) (fun _ => Tot.ret ⟨by simp; omega, by simp; omega⟩)
      · refine ⟨⟨⟨by simp only; omega, by simp only; omega⟩, by simp only; omega, by simp only; omega⟩, by simp only; omega⟩


theorem rnum_tot {x : Int} (h0 : 0 ≤ x) (h1 : x ≤ 70000) : Tot (exergueref05_Number big x) (fun l => l.length ≤ 70001) := by
  rw [show big = 18446744073709551615 + 1 from rfl, exergueref05_Number.eq_2]
  refine Tot.ite (fun h => by have := dTT h; omega) (fun _ => ?_)
  refine Tot.bind (Tot.loop (fun q : Int × List UInt8 => 0 ≤ q.1 ∧ q.1 ≤ x ∧ (q.2.length : Int) ≤ 1 + x - q.1) (fun q : Int × List UInt8 => q.1.toNat) (post := fun l : List UInt8 => l.length ≤ 70001) ⟨h0, by simp only; omega, by simp [bytesS]⟩ (by simp only; omega) (fun q hq => ?_)) (fun o ho => Tot.ret ho)
  refine Tot.ite (fun h => ?_) (fun _ => Tot.ret (by omega))
  have h := dTT h
  refine Tot.yes (room_of (by simp [bytesS]; omega)) (Tot.ret ?_)
  have e : Int.tdiv q.1 10 = q.1 / 10 := Int.tdiv_eq_ediv_of_nonneg (by omega)
  simp only [e]
  rw [w64 (n := q.1 / 10) (by omega) (by omega)]
  refine ⟨⟨by omega, by omega, ?_⟩, by omega⟩
  simp [bytesS]; omega
theorem nth1 {T : Type} [Inhabited T] (a : T) : nth [a] 0 = a := rfl
theorem inR1 {T : Type} (a : T) : inR 0 [a].length = true := rfl
theorem one_loop {O : Type} {step : List UInt8 × Int → Option ((List UInt8 × Int) ⊕ List UInt8)} {l : List UInt8} {b n : Nat} (hl : l.length ≤ b)
    (hs : ∀ l, l.length ≤ b → Tot (step (l, 0)) (fun x => ∃ l2 : List UInt8, x = .inl (l2, 1) ∧ l2.length ≤ n)) (he : ∀ l, step (l, 1) = some (.inr l)) : Tot (loopN step big (l, 0)) (fun o => o.length ≤ n) := by
  obtain ⟨x, h1, l2, rfl, h2⟩ := hs l hl
  refine ⟨l2, ?_, h2⟩
  rw [show big = 18446744073709551614 + 1 + 1 from rfl, loopN_next h1, loopN_out (he l2)]
theorem rtext_tot {op m f t : Int} (hm : 0 ≤ m ∧ m ≤ 65535) (hf : 0 ≤ f ∧ f ≤ 255) (ht : 0 ≤ t ∧ t ≤ 255) : Tot (exergueref11_Text [[⟨op, m, false, [⟨f, t⟩]⟩]]) (fun l => l.length ≤ 300000) := by
  unfold exergueref11_Text
  refine Tot.bind (one_loop (O := Unit) (b := 0) (n := 300000) (Nat.le_refl _) (fun l hl => ?_) (fun l => rfl)) (fun o ho => Tot.ret ho)
  simp only [nth1, inR1, cond_true]
  refine Tot.ite (fun _ => ?_) (fun h => absurd (dFF h) (by simp))
  refine Tot.bind (p := fun l2 : List UInt8 => l2.length ≤ 300000) ?_ (fun o ho => Tot.ret ⟨o, rfl, ho⟩)
  refine Tot.bind (p := fun l1 : List UInt8 => l1.length ≤ 0) (Tot.ret hl) (fun l1 h1 => ?_)
  refine one_loop (O := Unit) (b := 0) (n := 300000) h1 (fun l hl => ?_) (fun l => rfl)
  simp only [nth1, inR1, cond_true, cond_false]
  refine Tot.ite (fun _ => ?_) (fun h => absurd (dFF h) (by simp))
  refine Tot.bind (p := fun l2 : List UInt8 => l2.length ≤ 300000) ?_ (fun o ho => Tot.ret ⟨o, rfl, ho⟩)
  refine Tot.bind (p := fun l1 : List UInt8 => l1.length ≤ 0) (Tot.ret hl) (fun l1 h1 => ?_)
  refine Tot.yes (room_of (by simp [bytesS]; omega)) ?_
  refine Tot.bind (p := fun l2 : List UInt8 => l2.length ≤ 71000) ?_ (fun l2 h2 => ?_)
  · refine Tot.ite (fun _ => ?_) (fun _ => Tot.ret (by simp [bytesS]; omega))
    refine Tot.yes (room_of (by simp [bytesS]; omega)) ?_
    refine Tot.bind (rnum_tot (by omega) (by omega)) (fun y hy => ?_)
    exact Tot.yes (room_of (by simp [bytesS]; omega)) (Tot.ret (by simp [bytesS]; omega))
  · refine Tot.bind (p := fun l3 : List UInt8 => l3.length ≤ 71010) ?_ (fun l3 h3 => ?_)
    · exact Tot.yes (room_of (by simp; omega)) (Tot.ret (by simp; omega))
    · refine one_loop (O := Unit) (b := 71010) (n := 300000) h3 (fun l hl => ?_) (fun l => rfl)
      refine Tot.ite (fun _ => ?_) (fun h => absurd (dFF h) (by simp))
      refine Tot.bind (p := fun l2 : List UInt8 => l2.length ≤ 300000) ?_ (fun o ho => Tot.ret ⟨o, rfl, ho⟩)
      refine Tot.bind (p := fun l1 : List UInt8 => l1.length ≤ 71010) (Tot.ret hl) (fun l1 h1 => ?_)
      try simp only [nth1, inR1, cond_true, cond_false]
      refine Tot.bind (rnum_tot (by omega) (by omega)) (fun y hy => ?_)
      refine Tot.yes (room_of (by omega)) ?_
      refine Tot.ite (fun _ => ?_) (fun _ => Tot.ret (by simp; omega))
      refine Tot.yes (room_of (by simp; omega)) ?_
      refine Tot.bind (rnum_tot (by omega) (by omega)) (fun z hz => ?_)
      exact Tot.yes (room_of (by simp; omega)) (Tot.ret (by simp; omega))


/-- Are they the same: it answers. -/
theorem rsame_tot {r : St44} {d : List (List St44)} (hr : r.R_.length ≤ 10) (hd : d.length ≤ 2000000) : Tot (exergueref11_Same [[r]] d) (fun _ => True) := by
  unfold exergueref11_Same
  refine Tot.ite (fun _ => Tot.ret trivial) (fun h => ?_)
  have h := dFF h
  obtain ⟨e, rfl⟩ : ∃ e, d = [e] := by
    refine List.length_eq_one_iff.1 ?_
    simp at h; omega
  refine Tot.join (Tot.loop (fun q : Int => q = 0 ∨ q = 1) (fun q : Int => (1 - q).toNat) (.inl rfl) (by omega) (fun q hq => ?_))
  rcases hq with rfl | rfl
  · simp only [nth1, inR1, cond_true, cond_false]
    refine Tot.ite (fun _ => ?_) (fun h => absurd (dFF h) (by simp))
    refine Tot.join (Tot.ite (fun _ => Tot.ret trivial) (fun h2 => ?_))
    have h2 := dFF h2
    obtain ⟨u, rfl⟩ : ∃ u, e = [u] := by
      refine List.length_eq_one_iff.1 ?_
      simp at h2; omega
    refine Tot.loop (fun q : Int => q = 0 ∨ q = 1) (fun q : Int => (1 - q).toNat) (.inl rfl) (by omega) (fun q hq => ?_)
    rcases hq with rfl | rfl
    · simp only [nth1, inR1, cond_true, cond_false]
      refine Tot.ite (fun _ => ?_) (fun h => absurd (dFF h) (by simp))
      refine Tot.join (Tot.join (Tot.bind (p := fun b => b = false → r.R_.length = u.R_.length) ?_ (fun b hb => ?_)))
      · refine Tot.ite (fun _ => Tot.ret (by simp)) (fun _ => Tot.ite (fun _ => Tot.ret (by simp)) (fun _ => Tot.ite (fun _ => Tot.ret (by simp)) (fun _ => Tot.ret (fun hf => ?_))))
        have := dFF hf; omega
      · refine Tot.ite (fun _ => Tot.ret trivial) (fun hf => Tot.ret ?_)
        have hlen := hb hf
        refine Tot.loop (fun q : Int => 0 ≤ q ∧ q ≤ 10) (fun q : Int => (10 - q).toNat) ⟨by omega, by omega⟩ (by omega) (fun q hq => ?_)
        refine Tot.ite (fun hlt => ?_) (fun _ => Tot.ret ?_)
        · have hlt := dTT hlt
          refine Tot.yes (inR_int (by omega) hlt) (Tot.yes (inR_int (by omega) (by omega)) (Tot.ite (fun _ => Tot.ret trivial) (fun _ => Tot.ret ?_)))
          rw [w64 (n := q + 1) (by omega) (by omega)]; omega
        · refine Tot.ret ?_
          rw [w64 (n := 0 + 1) (by omega) (by omega)]; omega
    · refine Tot.ite (fun h => absurd (dTT h) (by simp)) (fun _ => Tot.ret ?_)
      refine Tot.ret ?_
      rw [w64 (n := 0 + 1) (by omega) (by omega)]; omega
  · exact Tot.ite (fun h => absurd (dTT h) (by simp)) (fun _ => Tot.ret (Tot.ret trivial))
theorem rright11_tot {op m f t : Int} (hm : 0 ≤ m ∧ m ≤ 65535) (hf : 0 ≤ f ∧ f ≤ 255) (ht : 0 ≤ t ∧ t ≤ 255) : Tot (exergueref11_Right [[⟨op, m, false, [⟨f, t⟩]⟩]]) (fun _ => True) := by
  unfold exergueref11_Right
  refine Tot.bind (rtext_tot hm hf ht) (fun s hs => ?_)
  refine Tot.bind (rparse_tot (by omega)) (fun d hd => ?_)
  refine Tot.bind (p := fun _ => True) ?_ (fun _ _ => Tot.ret trivial)
  exact Tot.ite (fun _ => Tot.bind (rsame_tot (by simp) (by omega)) (fun _ _ => Tot.ret trivial)) (fun _ => Tot.ret trivial)


/-! Of what one relation holds. -/
theorem idx0 {x : St42} {l : List Int} {b : Bool} (h : rule_holding_1_s0 x l = some b) : slices_ContainsFunc_s0 [x] l = some b := by
  unfold slices_ContainsFunc_s0 slices_IndexFunc_s0
  rw [show big = 18446744073709551614 + 1 + 1 from rfl]
  cases b with
  | true =>
    rw [loopN_out (o := .inr 0) (by simp only [nth1, inR1, h]; rfl)]; rfl
  | false =>
    rw [loopN_next (s' := 1) (by simp only [nth1, inR1, h]; rfl), loopN_out (o := .inl ()) (by rfl)]; rfl
theorem idx1 {x : St42} {l : Int} {b : Bool} (h : rule_holding_2_s0 x l = some b) : slices_ContainsFunc_s1 [x] l = some b := by
  unfold slices_ContainsFunc_s1 slices_IndexFunc_s1
  rw [show big = 18446744073709551614 + 1 + 1 from rfl]
  cases b with
  | true =>
    rw [loopN_out (o := .inr 0) (by simp only [nth1, inR1, h]; rfl)]; rfl
  | false =>
    rw [loopN_next (s' := 1) (by simp only [nth1, inR1, h]; rfl), loopN_out (o := .inl ()) (by rfl)]; rfl
theorem holds_one {r : St44} {o : St25} {b : Bool} (h : rule_asks_1_s0 r o.I_ o.F_ o.W_ o.C_ = some b) : rule_Holds [[r]] o = some b := by
  unfold rule_Holds
  rw [show rule_asks_s0 o = some () from rfl, show big = 18446744073709551614 + 1 + 1 from rfl]
  simp only [Option.bind_some]
  cases b with
  | true =>
    rw [loopN_out (o := .inr true)]
    · rfl
    · simp only [nth1, inR1]
      rw [loopN_next (s' := 1) (by simp only [nth1, inR1, h]; rfl), loopN_out (o := .inl ()) (by rfl)]; rfl
  | false =>
    rw [loopN_next (s' := 1), loopN_out (o := .inl ()) (by rfl)]
    · rfl
    · simp only [nth1, inR1]
      rw [loopN_out (o := .inr (.inl ())) (by simp only [nth1, inR1, h]; rfl)]; rfl
def inV (l : List Int) (m a b : Int) : Bool := decide (a ≤ (if m = 0 then val l else val l % m) ∧ (if m = 0 then val l else val l % m) ≤ b)
theorem asks_eq {op m a b : Int} {o : St25} (h1 : o.I_.length ≤ 1000) (h2 : o.F_.length ≤ 1000) (hr : rightB o = true) (hf : figsP (opnd o op).1) (hl : (opnd o op).1.length ≤ 2000) (hm : 0 ≤ m ∧ m ≤ 70000) (ha : 0 ≤ a ∧ a ≤ 1000) (hb : 0 ≤ b ∧ b ≤ 1000) :
    rule_Holds [[⟨op, m, false, [⟨a, b⟩]⟩]] o = some ((opnd o op).2 && inV (opnd o op).1 m a b) := by
  refine holds_one ?_
  unfold rule_asks_1_s0
  have ho : oper_Operand (⟨o.I_, o.F_, o.W_, o.C_⟩ : St25) op = some (opnd o op) := by
    have := operand_eq (o := o) (x := op) (by omega) (by omega)
    rw [if_pos hr] at this
    exact this
  rw [ho]
  simp only [Option.bind_some]
  cases h2 : (opnd o op).2 with
  | false => rfl
  | true =>
    simp only [cond_true]
    unfold rule_holding_s0 inV
    by_cases h0 : m = 0
    · rw [dT h0, if_pos h0]
      simp only [cond_true, Option.bind_some, Sum.elim_inl]
      rw [idx0 (b := decide (a ≤ val (opnd o op).1 ∧ val (opnd o op).1 ≤ b))]
      · simp
      · unfold rule_holding_1_s0
        show Option.bind (oper_In (opnd o op).1 a b) _ = _
        rw [in_eq hf (by omega) (by omega) (by omega)]; rfl
    · rw [dF h0, if_neg h0, mod_eq hf (by omega) (by omega) (by omega)]
      simp only [cond_false, Option.bind_some, Sum.elim_inr]
      rw [idx1 (b := decide (a ≤ val (opnd o op).1 % m ∧ val (opnd o op).1 % m ≤ b))]
      · simp
      · unfold rule_holding_2_s0
        by_cases h1 : a ≤ val (opnd o op).1 % m <;> by_cases h2 : val (opnd o op).1 % m ≤ b <;> simp [h1, h2]

end Go.Proofs.YthpnbgbignjlpaaDoor
