/-
  What those functions come to, told by plain functions of lists and numbers. Conditions: as each theorem says.
-/
import Derived.Test.YtcldeecdhdcjdaaDoorGb
import Derived.Test.YtcldeecdhdcjdaaDoorSyZ
namespace Go.Proofs.YtcldeecdhdcjdaaDoor
open Go Go.Sy Go.RowKit Go.ChangeShapes Go.WideShapes Go.ChangeAt
set_option linter.unusedVariables false
set_option linter.unusedSimpArgs false
set_option maxRecDepth 100000

/-! Figures and their worth. -/
def vN (l : List Nat) : Nat := l.foldl (fun a x => a * 10 + x) 0
theorem vN_snoc (l : List Nat) (x : Nat) : vN (l ++ [x]) = vN l * 10 + x := by simp [vN]
theorem nsnoc_ind {P : List Nat → Prop} (h0 : P []) (hs : ∀ l t, P l → P (l ++ [t])) : ∀ l, P l := by
  have key : ∀ (n : Nat) (l : List Nat), l.length = n → P l := by
    intro n
    induction n with
    | zero => intro l h; rw [List.eq_nil_of_length_eq_zero h]; exact h0
    | succ n ih =>
      intro l h
      rcases List.eq_nil_or_concat l with h1 | ⟨p, c, h1⟩
      · subst h1; simp at h
      · rw [List.concat_eq_append] at h1
        subst h1
        exact hs p c (ih p (by simp at h; omega))
  exact fun l => key _ l rfl
theorem vN_append (a : List Nat) : ∀ b, vN (a ++ b) = vN a * 10 ^ b.length + vN b := by
  refine nsnoc_ind (by simp [vN]) (fun b x ih => ?_)
  rw [← List.append_assoc, vN_snoc, ih, vN_snoc, List.length_append, List.length_singleton, Nat.pow_succ, Nat.add_mul, Nat.mul_assoc]; omega
theorem vN_cons (x : Nat) (l : List Nat) : vN (x :: l) = x * 10 ^ l.length + vN l := by
  have := vN_append [x] l
  simpa [vN] using this
def digP (l : List Nat) : Prop := ∀ x ∈ l, x ≤ 9
theorem dig_left {l m : List Nat} (h : digP (l ++ m)) : digP l := fun x hx => h x (List.mem_append_left _ hx)
theorem dig_right {l m : List Nat} (h : digP (l ++ m)) : digP m := fun x hx => h x (List.mem_append_right _ hx)
theorem dig_append {l m : List Nat} (h1 : digP l) (h2 : digP m) : digP (l ++ m) := fun x hx => by
  rcases List.mem_append.1 hx with h | h
  · exact h1 x h
  · exact h2 x h
theorem vN_lt : ∀ {l : List Nat}, digP l → vN l < 10 ^ l.length := by
  intro l
  induction l with
  | nil => intro _; simp [vN]
  | cons x l ih =>
    intro h
    have h1 := ih (fun y hy => h y (List.mem_cons_of_mem _ hy))
    have h2 := h x (List.mem_cons_self ..)
    have h3 : x * 10 ^ l.length ≤ 9 * 10 ^ l.length := Nat.mul_le_mul_right _ h2
    rw [vN_cons, List.length_cons, Nat.pow_succ]; omega
theorem vN_ge {x : Nat} {l : List Nat} (h : x ≠ 0) : 10 ^ l.length ≤ vN (x :: l) := by
  have : 1 * 10 ^ l.length ≤ x * 10 ^ l.length := Nat.mul_le_mul_right _ (by omega)
  rw [vN_cons]; omega
theorem vN_zeros (n : Nat) : vN (List.replicate n 0) = 0 := by
  induction n with
  | zero => rfl
  | succ n ih => rw [List.replicate_succ, vN_cons, ih]; simp
theorem vN_nines (n : Nat) : vN (List.replicate n 9) + 1 = 10 ^ n := by
  induction n with
  | zero => rfl
  | succ n ih => rw [List.replicate_succ, vN_cons, Nat.pow_succ, List.length_replicate]; omega
/-- The figure so far from the last one. -/
theorem vN_digit : ∀ (l : List Nat), digP l → ∀ j, vN l / 10 ^ j % 10 = if j < l.length then l.getD (l.length - 1 - j) 0 else 0 := by
  refine nsnoc_ind (fun _ j => by simp [vN]) (fun l x ih h j => ?_)
  have hx := h x (by simp)
  rw [vN_snoc]
  cases j with
  | zero =>
    simp
    omega
  | succ j =>
    have e : (vN l * 10 + x) / 10 ^ (j + 1) = vN l / 10 ^ j := by
      rw [Nat.pow_succ, Nat.mul_comm (10 ^ j), ← Nat.div_div_eq_div_mul]
      congr 1; omega
    rw [e, ih (dig_left h) j]
    by_cases hj : j < l.length
    · rw [if_pos hj, if_pos (by simp; omega)]
      have e2 : (l ++ [x]).length - 1 - (j + 1) = l.length - 1 - j := by simp; omega
      rw [e2, List.getD_eq_getElem?_getD, List.getD_eq_getElem?_getD, List.getElem?_append_left (by omega)]
    · rw [if_neg hj, if_neg (by simp; omega)]

/-- Figures of a number. -/
def digsN (n : Nat) : List Nat := if h : n = 0 then [] else digsN (n / 10) ++ [n % 10]
termination_by n
decreasing_by omega
theorem digsN_zero : digsN 0 = [] := by rw [digsN]; rfl
theorem digsN_pos {n : Nat} (h : n ≠ 0) : digsN n = digsN (n / 10) ++ [n % 10] := by rw [digsN, dif_neg h]
theorem vN_digs (n : Nat) : vN (digsN n) = n := by
  induction n using Nat.strongRecOn with
  | _ n ih =>
    by_cases h : n = 0
    · subst h; rw [digsN_zero]; rfl
    · rw [digsN_pos h, vN_snoc, ih (n / 10) (by omega)]; omega
theorem digs_dig (n : Nat) : digP (digsN n) := by
  induction n using Nat.strongRecOn with
  | _ n ih =>
    by_cases h : n = 0
    · subst h; rw [digsN_zero]; intro x hx; cases hx
    · rw [digsN_pos h]
      exact dig_append (ih (n / 10) (by omega)) (fun x hx => by simp at hx; omega)
theorem digs_len {n : Nat} : ∀ k, n < 10 ^ k → (digsN n).length ≤ k := by
  intro k
  induction k generalizing n with
  | zero => intro h; obtain rfl : n = 0 := by simpa using h
            rw [digsN_zero]; simp
  | succ k ih =>
    intro h
    by_cases h0 : n = 0
    · subst h0; rw [digsN_zero]; simp
    · rw [digsN_pos h0]
      have := ih (n := n / 10) (by rw [Nat.pow_succ] at h; omega)
      simp; exact this
theorem vN_zero {l : List Nat} (h : vN l = 0) (hh : l.head? ≠ some 0) : l = [] := by
  cases l with
  | nil => rfl
  | cons x l =>
    have hx : x ≠ 0 := fun e => hh (by rw [e]; rfl)
    have := vN_ge (l := l) hx
    have := Nat.pow_pos (n := l.length) (show 0 < 10 by decide)
    omega
theorem digs_vN : ∀ l, digP l → l.head? ≠ some 0 → digsN (vN l) = l := by
  refine nsnoc_ind (fun _ _ => by rw [show vN [] = 0 from rfl, digsN_zero]) (fun l x ih h hh => ?_)
  have hx := h x (by simp)
  have hl : l.head? ≠ some 0 := by
    cases l with
    | nil => simp
    | cons y l => simpa using hh
  rw [vN_snoc]
  have hne : vN l * 10 + x ≠ 0 := by
    intro e
    have h1 : vN l = 0 := by omega
    have h2 : x = 0 := by omega
    have := vN_zero h1 hl
    subst this; subst h2
    exact hh rfl
  rw [digsN_pos hne]
  have e1 : (vN l * 10 + x) / 10 = vN l := by omega
  have e2 : (vN l * 10 + x) % 10 = x := by omega
  rw [e1, e2, ih (dig_left h) hl]
theorem vN_last {l : List Nat} (h : digP l) (hne : l ≠ []) (hl : l.getLast? ≠ some 0) : vN l % 10 ≠ 0 := by
  rcases List.eq_nil_or_concat l with h1 | ⟨p, c, h1⟩
  · exact absurd h1 hne
  · rw [List.concat_eq_append] at h1
    subst h1
    have := h c (by simp)
    have hc : c ≠ 0 := fun e => hl (by simp [e])
    rw [vN_snoc]; omega

/-- A power of ten, told from one that is far below. -/
def pw (m : Int) : Nat := 10 ^ (m + 3000).toNat
theorem pw_pos (m : Int) : 0 < pw m := Nat.pow_pos (by decide)
theorem pw_add {m : Int} (n : Nat) (h : -3000 ≤ m) : pw (m + n) = pw m * 10 ^ n := by
  unfold pw; rw [← Nat.pow_add]; congr 1; omega
theorem pw_le {m n : Int} (h1 : -3000 ≤ m) (h : m ≤ n) : pw m ≤ pw n := by
  unfold pw; exact Nat.pow_le_pow_right (by decide) (by omega)
theorem pw_succ {m : Int} (h : -3000 ≤ m) : pw (m + 1) = pw m * 10 := by
  have := pw_add (m := m) 1 h; simpa using this

/-- Is it right? -/
def rightP (l : List Nat) (E : Int) : Prop := digP l ∧ (l = [] → E = 0) ∧ (l ≠ [] → l.length ≤ 1000 ∧ -1000 ≤ E ∧ E ≤ 1000 ∧ l.head? ≠ some 0 ∧ l.getLast? ≠ some 0)
def magN (l : List Nat) (E : Int) : Nat := vN l * pw E
theorem right_low {l : List Nat} {E : Int} (h : rightP l E) : -1000 ≤ E ∧ E ≤ 1000 ∧ l.length ≤ 1000 := by
  by_cases hl : l = []
  · have := h.2.1 hl; subst hl; simp; omega
  · have := h.2.2 hl; omega
theorem right_head {l : List Nat} {E : Int} (h : rightP l E) : l.head? ≠ some 0 := by
  by_cases hl : l = []
  · subst hl; simp
  · exact (h.2.2 hl).2.2.2.1
/-- Right figures that are worth as much are the same. -/
theorem right_same {l m : List Nat} {E G : Int} (h1 : rightP l E) (h2 : rightP m G) (h : magN l E = magN m G) : l = m ∧ E = G := by
  have key : ∀ {l m : List Nat} {E G : Int}, rightP l E → rightP m G → magN l E = magN m G → E ≤ G → l = m ∧ E = G := by
    intro l m E G h1 h2 h hle
    have l1 := right_low h1
    have l2 := right_low h2
    unfold magN at h
    obtain ⟨n, hn⟩ : ∃ n : Nat, G = E + n := ⟨(G - E).toNat, by omega⟩
    have hp := pw_add (m := E) n (by omega)
    rw [← hn] at hp
    rw [hp, Nat.mul_comm (pw E), ← Nat.mul_assoc] at h
    have hv : vN l = vN m * 10 ^ n := Nat.eq_of_mul_eq_mul_right (pw_pos E) h
    by_cases hl : l = []
    · subst hl
      have h0 : vN m * 10 ^ n = 0 := by rw [← hv]; rfl
      have hm0 : vN m = 0 := by
        rcases Nat.mul_eq_zero.1 h0 with g | g
        · exact g
        · exact absurd g (by have := Nat.pow_pos (n := n) (show 0 < 10 by decide); omega)
      have hm := vN_zero hm0 (right_head h2)
      subst hm
      exact ⟨rfl, by rw [h1.2.1 rfl, h2.2.1 rfl]⟩
    · have hlast := vN_last h1.1 hl (h1.2.2 hl).2.2.2.2
      have hn0 : n = 0 := by
        apply Decidable.byContradiction
        intro hne
        obtain ⟨q, rfl⟩ : ∃ q, n = q + 1 := ⟨n - 1, by omega⟩
        rw [Nat.pow_succ, ← Nat.mul_assoc] at hv
        omega
      subst hn0
      simp at hv hn
      refine ⟨?_, hn.symm⟩
      rw [← digs_vN l h1.1 (right_head h1), ← digs_vN m h2.1 (right_head h2), hv]
  rcases Int.le_total E G with hle | hle
  · exact key h1 h2 h hle
  · obtain ⟨a, b⟩ := key h2 h1 h.symm hle
    exact ⟨a.symm, b.symm⟩

theorem up_get {l : List Nat} {i : Nat} (h : i < l.length) : nth (up l) (i : Int) = ((l.getD i 0 : Nat) : Int) := by
  rw [nth_nat (by rw [up_len]; exact h)]
  simp [up, List.getD_eq_getElem?_getD, List.getElem?_eq_getElem h]
/-- The figure at a place. -/
theorem fig_at {l : List Nat} {E p : Int} (h : rightP l E) (hp : -2900 ≤ p) (hp2 : p ≤ 100000) : magN l E / pw p % 10 = if E ≤ p ∧ p < E + l.length then l.getD (E + l.length - 1 - p).toNat 0 else 0 := by
  have hl := right_low h
  unfold magN
  by_cases h1 : E ≤ p
  · obtain ⟨n, rfl⟩ : ∃ n : Nat, p = E + n := ⟨(p - E).toNat, by omega⟩
    rw [pw_add n (by omega), Nat.mul_comm (pw E), Nat.mul_div_mul_right _ _ (pw_pos E), vN_digit l h.1 n]
    by_cases h2 : n < l.length
    · rw [if_pos h2, if_pos (by omega)]
      congr 1; omega
    · rw [if_neg h2, if_neg (by omega)]
  · rw [if_neg (by omega)]
    obtain ⟨n, hn⟩ : ∃ n : Nat, E = p + (n + 1 : Nat) := ⟨(E - p - 1).toNat, by omega⟩
    rw [hn, pw_add (n + 1) (by omega), Nat.pow_succ, ← Nat.mul_assoc, ← Nat.mul_assoc, Nat.mul_right_comm, Nat.mul_comm (vN l), Nat.mul_assoc, Nat.mul_assoc, Nat.mul_div_cancel_left _ (pw_pos p), ← Nat.mul_assoc, Nat.mul_right_comm]
    exact Nat.mul_mod_left _ _
theorem mag_eq {l : List Nat} {E : Int} {neg : Bool} (h : rightP l E) : dec_Mag ⟨neg, up l, E⟩ = some (if l = [] then 0 else E + l.length - 1) := by
  have hl := right_low h
  unfold dec_Mag dec_work__mag
  simp only [up_len]
  by_cases h0 : l = []
  · subst h0; simp
  · have : l.length ≠ 0 := fun e => h0 (List.eq_nil_of_length_eq_zero e)
    rw [dF (by omega), if_neg h0, w64 (n := E + (l.length : Int)) (by omega) (by omega), w64 (by omega) (by omega)]; rfl
theorem wmag_eq {l : List Nat} {E : Int} {neg : Bool} (h : rightP l E) : dec_work__mag ⟨⟨neg, up l, E⟩⟩ = some (if l = [] then 0 else E + l.length - 1) := by
  have := mag_eq (neg := neg) h
  unfold dec_Mag at this
  cases hm : dec_work__mag ⟨⟨neg, up l, E⟩⟩ with
  | none => rw [hm] at this; cases this
  | some v => rw [hm] at this; exact this
theorem at_eq {l : List Nat} {E p : Int} {neg : Bool} (h : rightP l E) (hp : -2900 ≤ p) (hp2 : p ≤ 100000) : dec_At ⟨neg, up l, E⟩ p = some ((magN l E / pw p % 10 : Nat) : Int) := by
  have hl := right_low h
  rw [fig_at h hp hp2]
  unfold dec_At
  rw [wmag_eq h]
  simp only
  by_cases h1 : p < E
  · rw [dT h1, if_neg (show ¬ (E ≤ p ∧ p < E + l.length) by omega)]; rfl
  · rw [dF h1]
    simp only [cond_false, Option.bind_some]
    by_cases h0 : l = []
    · have hE := h.2.1 h0
      subst h0
      rw [if_pos rfl, if_neg (show ¬ (E ≤ p ∧ p < E + (([] : List Nat).length : Nat)) by simp)]
      by_cases hp0 : p > 0
      · rw [dT hp0]; rfl
      · rw [dF hp0]
        have : p = 0 := by omega
        subst this
        rfl
    · rw [if_neg h0]
      by_cases h2 : p > E + l.length - 1
      · rw [dT h2, if_neg (show ¬ (E ≤ p ∧ p < E + l.length) by omega)]; rfl
      · have hpos : 0 < l.length := List.length_pos_iff.2 h0
        rw [dF h2, if_pos (show E ≤ p ∧ p < E + l.length by omega), w64 (by omega) (by omega)]
        simp only [cond_false, Option.bind_some, joinX]
        unfold dec_work__figure
        simp only [up_len]
        obtain ⟨i, hi⟩ : ∃ i : Nat, E + l.length - 1 - p = i := ⟨(E + l.length - 1 - p).toNat, by omega⟩
        have hil : i < l.length := by omega
        rw [hi, dF (by omega), dF (by omega), ← up_len l, inR_nat (by rw [up_len]; exact hil), up_get hil]
        simp [joinX]

theorem t_step {A : Nat} {p : Int} (hp : -3000 ≤ p) : A / pw p = 10 * (A / pw (p + 1)) + A / pw p % 10 := by
  rw [pw_succ hp, ← Nat.div_div_eq_div_mul]; omega
theorem mag_top {l : List Nat} {E : Int} (h : rightP l E) : magN l E / pw ((if l = [] then 0 else E + l.length - 1) + 1) = 0 := by
  have hl := right_low h
  apply Nat.div_eq_of_lt
  unfold magN
  by_cases h0 : l = []
  · subst h0; simp [vN]; exact pw_pos _
  · rw [if_neg h0]
    have e : E + (l.length : Int) - 1 + 1 = E + l.length := by omega
    rw [e, pw_add l.length (by omega), Nat.mul_comm (pw E)]
    exact (Nat.mul_lt_mul_right (pw_pos E)).2 (vN_lt h.1)
theorem up_head {x : Nat} {l : List Nat} : nth (up (x :: l)) 0 = x := rfl
theorem up_last {x : Nat} {l : List Nat} : nth (up (l ++ [x])) (l.length : Int) = x := by
  rw [up_append]; have := nth_mid (pre := up l) (suf := []) (x := (x : Int)); rw [up_len] at this; exact this
theorem rright_eq {l : List Nat} {E : Int} {neg : Bool} (hl : l.length ≤ 140737488355328) : ∃ b, exergueref05_Right ⟨neg, up l, E⟩ = some b ∧ (b = true ↔ rightP l E) := by
  unfold exergueref05_Right
  rw [all_loop (fun c => decide (c > 9)) (up l) (by rw [up_len]; omega)]
  simp only [up_len]
  have hall : (up l).all (fun c => !decide (c > 9)) = true ↔ digP l := by
    rw [List.all_eq_true]
    constructor
    · intro h x hx
      have := h (x : Int) (List.mem_map.2 ⟨x, hx, rfl⟩)
      simp at this; omega
    · intro h c hc
      obtain ⟨x, hx, rfl⟩ := List.mem_map.1 hc
      have := h x hx
      simp; omega
  by_cases hd : digP l
  · rw [if_pos (hall.2 hd)]
    simp only [Option.bind_some, joinX]
    by_cases h0 : l = []
    · subst h0
      refine ⟨decide (E = 0), rfl, ?_⟩
      rw [decide_eq_true_eq]
      exact ⟨fun h => ⟨hd, fun _ => h, fun h => absurd rfl h⟩, fun h => h.2.1 rfl⟩
    · have hpos : 0 < l.length := List.length_pos_iff.2 h0
      have hin : inR 0 l.length = true := inR_int (by omega) (by omega)
      have hin2 : inR ((l.length : Int) - 1) l.length = true := inR_int (by omega) (by omega)
      have hh : nth (up l) 0 > 0 ↔ l.head? ≠ some 0 := by
        cases l with
        | nil => exact absurd rfl h0
        | cons x l => rw [up_head]; simp; omega
      have hll : nth (up l) ((l.length : Int) - 1) > 0 ↔ l.getLast? ≠ some 0 := by
        rcases List.eq_nil_or_concat l with h1 | ⟨p, c, h1⟩
        · exact absurd h1 h0
        · rw [List.concat_eq_append] at h1
          subst h1
          have e : (((p ++ [c]).length : Nat) : Int) - 1 = (p.length : Int) := by simp
          rw [e, up_last]; simp; omega
      rw [dF (show ¬ (l.length : Int) = 0 by omega), hin, w64 (by omega) (by omega), hin2]
      simp only [cond_false, cond_true]
      by_cases c1 : (l.length : Int) ≤ 1000
      · by_cases c2 : nth (up l) 0 > 0
        · by_cases c3 : nth (up l) ((l.length : Int) - 1) > 0
          · by_cases c4 : E ≥ -1000
            · refine ⟨decide (E ≤ 1000), by rw [dT c1, dT c2, dT c3, dT c4]; rfl, ?_⟩
              rw [decide_eq_true_eq]
              exact ⟨fun h => ⟨hd, fun h => absurd h h0, fun _ => ⟨by omega, c4, h, hh.1 c2, hll.1 c3⟩⟩, fun h => (h.2.2 h0).2.2.1⟩
            · exact ⟨false, by rw [dT c1, dT c2, dT c3, dF c4]; rfl, ⟨fun h => (by cases h), fun h => absurd (h.2.2 h0).2.1 c4⟩⟩
          · exact ⟨false, by rw [dT c1, dT c2, dF c3]; rfl, ⟨fun h => (by cases h), fun h => absurd (hll.2 (h.2.2 h0).2.2.2.2) c3⟩⟩
        · exact ⟨false, by rw [dT c1, dF c2]; rfl, ⟨fun h => (by cases h), fun h => absurd (hh.2 (h.2.2 h0).2.2.2.1) c2⟩⟩
      · exact ⟨false, by rw [dF c1]; rfl, ⟨fun h => (by cases h), fun h => absurd (h.2.2 h0).1 (by omega)⟩⟩
  · rw [if_neg (fun h => hd (hall.1 h))]
    exact ⟨false, rfl, ⟨fun h => (by cases h), fun h => absurd h.1 hd⟩⟩
theorem rright_true {l : List Nat} {E : Int} {neg : Bool} (h : rightP l E) : exergueref05_Right ⟨neg, up l, E⟩ = some true := by
  have hl := right_low h
  obtain ⟨b, h1, h2⟩ := rright_eq (neg := neg) (E := E) (l := l) (by omega)
  rw [h1, h2.2 h]
/-- Are they the same? -/
theorem rsame_eq {l m : List Nat} {E G : Int} {n1 n2 : Bool} (h1 : rightP l E) (h2 : rightP m G) : exergueref05_Same ⟨n1, up l, E⟩ ⟨n2, up m, G⟩ = some (decide (n1 = n2) && decide (magN l E = magN m G)) := by
  have hl := right_low h1
  have hrow : exergueref01_Row (up l) (up m) = some (decide (up l = up m)) := row_eq (by rw [up_len]; omega)
  unfold exergueref05_Same
  rw [hrow]
  simp only [Option.bind_some]
  by_cases hm : magN l E = magN m G
  · obtain ⟨rfl, rfl⟩ := right_same h1 h2 hm
    rw [dT rfl, dT hm, dT rfl]
    cases n1 <;> cases n2 <;> rfl
  · rw [dF hm]
    by_cases he : l = m
    · subst he
      have hE : ¬ E = G := by rintro rfl; exact hm rfl
      rw [dF hE, dT rfl]
      cases n1 <;> cases n2 <;> rfl
    · rw [dF (fun e => he (up_inj e))]
      cases n1 <;> cases n2 <;> rfl

def cmpV (n1 : Bool) (A : Nat) (n2 : Bool) (B : Nat) : Int :=
  if A = 0 ∧ B = 0 then 0 else if n1 ≠ n2 then (if n1 = true then -1 else 1) else if A = B then 0 else if (decide (A < B) != n1) = true then -1 else 1
theorem mag_zero {l : List Nat} {E : Int} (h : rightP l E) : magN l E = 0 ↔ l = [] := by
  constructor
  · intro h0
    unfold magN at h0
    rcases Nat.mul_eq_zero.1 h0 with g | g
    · exact vN_zero g (right_head h)
    · have := pw_pos E; omega
  · rintro rfl; simp [magN, vN]


def svN (n : Bool) (A : Nat) : Int := if n = true then -(A : Int) else A
theorem cmpV_sv {n1 n2 : Bool} {A B : Nat} : cmpV n1 A n2 B = if svN n1 A = svN n2 B then 0 else if svN n1 A < svN n2 B then -1 else 1 := by
  unfold cmpV svN
  by_cases h0 : A = 0 ∧ B = 0
  · rw [if_pos h0]
    obtain ⟨rfl, rfl⟩ := h0
    cases n1 <;> cases n2 <;> rfl
  · rw [if_neg h0]
    cases n1 <;> cases n2
    · simp only [Bool.false_eq_true, if_false, ne_eq, not_true_eq_false]
      by_cases h1 : A = B
      · rw [if_pos h1, if_pos (by omega)]
      · rw [if_neg h1, if_neg (show ¬ (A : Int) = B by omega)]
        by_cases h2 : A < B
        · rw [dT h2, if_pos (show (A : Int) < B by omega)]; rfl
        · rw [dF h2, if_neg (show ¬ (A : Int) < B by omega)]; rfl
    · simp only [Bool.false_eq_true, if_false, if_true]
      rw [if_pos (by simp), if_neg (by omega), if_neg (by omega)]
    · simp only [Bool.false_eq_true, if_false, if_true]
      rw [if_pos (by simp), if_neg (by omega), if_pos (by omega)]
    · simp only [if_true, ne_eq, not_true_eq_false, if_false]
      by_cases h1 : A = B
      · rw [if_pos h1, if_pos (by omega)]
      · rw [if_neg h1, if_neg (show ¬ (-(A : Int)) = -(B : Int) by omega)]
        by_cases h2 : A < B
        · rw [dT h2, if_neg (show ¬ (-(A : Int)) < -(B : Int) by omega)]; rfl
        · rw [dF h2, if_pos (show (-(A : Int)) < -(B : Int) by omega)]; rfl
theorem side_eq {l : List Nat} {E : Int} {neg : Bool} : dec_work__side ⟨⟨neg, up l, E⟩⟩ = some (if l = [] then 0 else if neg = true then -1 else 1) := by
  unfold dec_work__side
  simp only [up_len]
  by_cases h : l = []
  · subst h; rfl
  · have : l.length ≠ 0 := fun e => h (List.eq_nil_of_length_eq_zero e)
    rw [dF (by omega), if_neg h]
    cases neg <;> rfl
theorem sign_eq (n : Int) : dec_sign n = some (if n < 0 then -1 else if n > 0 then 1 else 0) := by
  unfold dec_sign
  by_cases h : n < 0
  · rw [dT h, if_pos h]; rfl
  · rw [dF h, if_neg h]
    by_cases h2 : n > 0
    · rw [dT h2, if_pos h2]; rfl
    · rw [dF h2, if_neg h2]; rfl
theorem fgr_eq {l : List Nat} {E : Int} {neg : Bool} {i : Nat} (h : rightP l E) (h0 : l ≠ []) (hi : i ≤ 1500) : dec_work__figure ⟨⟨neg, up l, E⟩⟩ (i : Int) = some ((magN l E / pw (E + l.length - 1 - i) % 10 : Nat) : Int) := by
  have hl := right_low h
  have hpos : 0 < l.length := List.length_pos_iff.2 h0
  rw [fig_at h (by omega) (by omega)]
  unfold dec_work__figure
  simp only [up_len]
  rw [dF (show ¬ (i : Int) < 0 by omega)]
  by_cases hil : i < l.length
  · rw [dF (by omega), inR_nat hil, up_get hil, if_pos (show E ≤ E + (l.length : Int) - 1 - i ∧ E + (l.length : Int) - 1 - i < E + l.length by omega)]
    have e : (E + (l.length : Int) - 1 - (E + (l.length : Int) - 1 - i)).toNat = i := by omega
    rw [e]; simp [joinX]
  · rw [dT (by omega), if_neg (show ¬ (E ≤ E + (l.length : Int) - 1 - i ∧ E + (l.length : Int) - 1 - i < E + l.length) by omega)]; rfl
theorem mag_low {m : List Nat} {G : Int} (h : rightP m G) (h0 : m ≠ []) : pw (G + m.length - 1) ≤ magN m G := by
  have hl := right_low h
  cases m with
  | nil => exact absurd rfl h0
  | cons x c =>
    have hx : x ≠ 0 := fun e => right_head h (by rw [e]; rfl)
    have g1 := vN_ge (l := c) hx
    have g2 : 10 ^ c.length * pw G ≤ vN (x :: c) * pw G := Nat.mul_le_mul_right _ g1
    have g3 := pw_add (m := G) c.length (by omega)
    have e : G + ((x :: c).length : Int) - 1 = G + c.length := by simp; omega
    rw [e, g3, Nat.mul_comm]; exact g2
theorem mag_back {l : List Nat} {E low : Int} (hl : -3000 ≤ low) (hE : low ≤ E) : magN l E = magN l E / pw low * pw low := by
  rw [Nat.div_mul_cancel]
  unfold magN
  obtain ⟨j, hj⟩ : ∃ j : Nat, E = low + j := ⟨(E - low).toNat, by omega⟩
  rw [hj, pw_add j (by omega), ← Nat.mul_assoc, Nat.mul_right_comm]
  exact Nat.dvd_mul_left _ _
theorem against_eq {l m : List Nat} {E G : Int} {n1 n2 : Bool} (h1 : rightP l E) (h2 : rightP m G) (hl0 : l ≠ []) (hm0 : m ≠ []) :
    dec_work__against ⟨⟨n1, up l, E⟩⟩ ⟨⟨n2, up m, G⟩⟩ = some (if magN l E = magN m G then 0 else if magN l E < magN m G then -1 else 1) := by
  have l1 := right_low h1
  have l2 := right_low h2
  have p1 : 0 < l.length := List.length_pos_iff.2 hl0
  have p2 : 0 < m.length := List.length_pos_iff.2 hm0
  have t1 := mag_top h1
  have t2 := mag_top h2
  rw [if_neg hl0] at t1
  rw [if_neg hm0] at t2
  have w1 := mag_low h1 hl0
  have w2 := mag_low h2 hm0
  have u1 := (Nat.div_eq_zero_iff.1 t1).resolve_left (by have := pw_pos (E + l.length - 1 + 1); omega)
  have u2 := (Nat.div_eq_zero_iff.1 t2).resolve_left (by have := pw_pos (G + m.length - 1 + 1); omega)
  unfold dec_work__against
  rw [wmag_eq h1, wmag_eq h2, if_neg hl0, if_neg hm0]
  simp only [Option.bind_some]
  rw [w64 (by omega) (by omega), sign_eq]
  simp only [Option.bind_some]
  rcases Int.lt_trichotomy (E + (l.length : Int) - 1) (G + (m.length : Int) - 1) with hlt | heq | hgt
  · have := pw_le (m := E + (l.length : Int) - 1 + 1) (n := G + (m.length : Int) - 1) (by omega) (by omega)
    rw [if_pos (by omega), if_neg (by omega), if_pos (by omega)]; rfl
  · rw [if_neg (by omega), if_neg (by omega), dF (by simp)]
    simp only [cond_false]
    refine bind_of (fun o => joinX (fun (s76 : Unit) => (some (0 : Int))) o = some (if magN l E = magN m G then 0 else if magN l E < magN m G then -1 else 1)) ?_ (fun o ho => ho)
    have hn : ∃ n : Nat, n = max l.length m.length := ⟨_, rfl⟩
    obtain ⟨n, hn⟩ := hn
    have hmx : maxI (l.length : Int) (m.length : Int) = n := by unfold maxI; split <;> omega
    obtain ⟨M, hM⟩ : ∃ M, M = E + (l.length : Int) - 1 := ⟨_, rfl⟩
    rw [← heq, ← hM] at t2
    rw [← hM] at t1
    simp only [up_len]
    rw [hmx]
    refine loop_count n (fun i => (i : Int)) (fun i => magN l E / pw (M - i + 1) = magN m G / pw (M - i + 1)) _ rfl ?_ (fun i hi hI => ?_) (fun hI => ?_) (by omega)
    · have e : M - ((0 : Nat) : Int) + 1 = M + 1 := by omega
      rw [e, t1, t2]
    · have a1 := fgr_eq (neg := n1) (i := i) h1 hl0 (by omega)
      have a2 := fgr_eq (neg := n2) (i := i) h2 hm0 (by omega)
      rw [← hM] at a1
      rw [← heq, ← hM] at a2
      rw [dT (by omega), a1, a2]
      have s1 := t_step (A := magN l E) (p := M - i) (by omega)
      have s2 := t_step (A := magN m G) (p := M - i) (by omega)
      have hx := Nat.mod_lt (magN l E / pw (M - i)) (show 0 < 10 by decide)
      have hy := Nat.mod_lt (magN m G / pw (M - i)) (show 0 < 10 by decide)
      have cmpd : ∀ {A B : Nat}, A / pw (M - i) < B / pw (M - i) → A < B := fun {A B} h => by
        apply Decidable.byContradiction
        intro hc
        have := Nat.div_le_div_right (c := pw (M - i)) (show B ≤ A by omega)
        omega
      simp only [Option.bind_some, cond_true]
      generalize hX : magN l E / pw (M - i) % 10 = X at *
      generalize hY : magN m G / pw (M - i) % 10 = Y at *
      rw [w64 (n := (X : Int)) (by omega) (by omega), w64 (n := (Y : Int)) (by omega) (by omega), w64 (n := (X : Int) - (Y : Int)) (by omega) (by omega), sign_eq]
      simp only [Option.bind_some]
      rcases Nat.lt_trichotomy X Y with hlt | he | hgt
      · right
        have hAB := cmpd (A := magN l E) (B := magN m G) (by omega)
        refine ⟨.inr (-1), ?_, ?_⟩
        · rw [if_pos (by omega)]; rfl
        · rw [if_neg (by omega), if_pos hAB]; rfl
      · left
        refine ⟨?_, ?_⟩
        · rw [if_neg (by omega), if_neg (by omega), dF (by simp), w64 (by omega) (by omega)]; rfl
        · have e : M - ((i + 1 : Nat) : Int) + 1 = M - i := by omega
          rw [e]; omega
      · right
        have hAB := cmpd (A := magN m G) (B := magN l E) (by omega)
        refine ⟨.inr 1, ?_, ?_⟩
        · rw [if_neg (by omega), if_pos (by omega)]; rfl
        · rw [if_neg (by omega), if_neg (by omega)]; rfl
    · refine ⟨.inl (), by rw [dF (by omega)]; rfl, ?_⟩
      have b1 := mag_back (l := l) (E := E) (low := M - n + 1) (by omega) (by omega)
      have b2 := mag_back (l := m) (E := G) (low := M - n + 1) (by omega) (by omega)
      rw [if_pos (by rw [b1, b2, hI])]; rfl
  · have := pw_le (m := G + (m.length : Int) - 1 + 1) (n := E + (l.length : Int) - 1) (by omega) (by omega)
    rw [if_neg (by omega), if_pos (by omega), if_neg (by omega), if_neg (by omega)]; rfl
theorem cmp_eq {l m : List Nat} {E G : Int} {n1 n2 : Bool} (h1 : rightP l E) (h2 : rightP m G) : dec_Cmp ⟨n1, up l, E⟩ ⟨n2, up m, G⟩ = some (cmpV n1 (magN l E) n2 (magN m G)) := by
  have z1 := mag_zero h1
  have z2 := mag_zero h2
  unfold dec_Cmp
  rw [side_eq, side_eq]
  simp only [Option.bind_some]
  unfold cmpV
  by_cases hl : l = []
  · by_cases hm : m = []
    · rw [if_pos hl, if_pos hm, if_pos ⟨z1.2 hl, z2.2 hm⟩]; rfl
    · have b0 : 0 < magN m G := Nat.pos_of_ne_zero (fun e => hm (z2.1 e))
      have a0 := z1.2 hl
      rw [if_pos hl, if_neg hm, if_neg (show ¬ (magN l E = 0 ∧ magN m G = 0) by omega), a0, dT b0, if_neg (show ¬ 0 = magN m G by omega)]
      cases n1 <;> cases n2 <;> rfl
  · have a0 : 0 < magN l E := Nat.pos_of_ne_zero (fun e => hl (z1.1 e))
    by_cases hm : m = []
    · have b0 := z2.2 hm
      rw [if_neg hl, if_pos hm, if_neg (show ¬ (magN l E = 0 ∧ magN m G = 0) by omega), b0, dF (show ¬ magN l E < 0 by omega), if_neg (show ¬ magN l E = 0 by omega)]
      cases n1 <;> cases n2 <;> rfl
    · rw [if_neg hl, if_neg hm, if_neg (show ¬ (magN l E = 0 ∧ magN m G = 0) by omega)]
      cases n1 <;> cases n2
      · simp only [Bool.false_eq_true, if_false, ne_eq, not_true_eq_false, decide_false, cond_false, Option.bind_some, Int.one_ne_zero, joinX, not_false_eq_true]
        rw [against_eq h1 h2 hl hm]
        by_cases e : magN l E = magN m G
        · rw [if_pos e, if_pos e]; rfl
        · rw [if_neg e, if_neg e]
          by_cases e2 : magN l E < magN m G
          · rw [if_pos e2, dT e2]; rfl
          · rw [if_neg e2, dF e2]; rfl
      · rfl
      · rfl
      · have hs : (decide ((-1 : Int) = 0)) = false := rfl
        simp only [if_true, ne_eq, not_true_eq_false, decide_false, cond_false, Option.bind_some, hs, joinX, if_false]
        rw [against_eq h1 h2 hl hm]
        by_cases e : magN l E = magN m G
        · rw [if_pos e, if_pos e]; rfl
        · rw [if_neg e, if_neg e]
          by_cases e2 : magN l E < magN m G
          · rw [if_pos e2, dT e2]; rfl
          · rw [if_neg e2, dF e2]; rfl
theorem shown_eq : exerguelaw05_shown = some true := by kernel_rfl

end Go.Proofs.YtcldeecdhdcjdaaDoor
