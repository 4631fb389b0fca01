/-
  What those functions come to, told by plain functions of lists and numbers. Conditions: as each theorem says.
-/
import Derived.Test.YtcldeecdhdcjdaaDoorGb
import Derived.Test.YtcldeecdhdcjdaaDoorSyZ
namespace Go.Proofs.YtcldeecdhdcjdaaDoor
open Go Go.Sy Go.RowKit Go.ChangeShapes Go.WideShapes Go.ChangeAt
set_option linter.unusedVariables false
set_option linter.unusedSimpArgs false
set_option maxRecDepth 100000
set_option maxHeartbeats 4000000

/-! Figures and their worth. -/
def vN (l : List Nat) : Nat := l.foldl (fun a x => a * 10 + x) 0
theorem vN_snoc (l : List Nat) (x : Nat) : vN (l ++ [x]) = vN l * 10 + x := by simp [vN]
theorem nsnoc_ind {P : List Nat → Prop} (h0 : P []) (hs : ∀ l t, P l → P (l ++ [t])) : ∀ l, P l := by
  have key : ∀ (n : Nat) (l : List Nat), l.length = n → P l := by
    intro n
    induction n with
    | zero => intro l h; rw [List.eq_nil_of_length_eq_zero h]; exact h0
    | succ n ih =>
      intro l h
      rcases List.eq_nil_or_concat l with h1 | ⟨p, c, h1⟩
      · subst h1; simp at h
      · rw [List.concat_eq_append] at h1
        subst h1
        exact hs p c (ih p (by simp at h; omega))
  exact fun l => key _ l rfl
theorem vN_append (a : List Nat) : ∀ b, vN (a ++ b) = vN a * 10 ^ b.length + vN b := by
  refine nsnoc_ind (by simp [vN]) (fun b x ih => ?_)
  rw [← List.append_assoc, vN_snoc, ih, vN_snoc, List.length_append, List.length_singleton, Nat.pow_succ, Nat.add_mul, Nat.mul_assoc]; omega
theorem vN_cons (x : Nat) (l : List Nat) : vN (x :: l) = x * 10 ^ l.length + vN l := by
  have := vN_append [x] l
  simpa [vN] using this
def digP (l : List Nat) : Prop := ∀ x ∈ l, x ≤ 9
theorem dig_left {l m : List Nat} (h : digP (l ++ m)) : digP l := fun x hx => h x (List.mem_append_left _ hx)
theorem dig_right {l m : List Nat} (h : digP (l ++ m)) : digP m := fun x hx => h x (List.mem_append_right _ hx)
theorem dig_append {l m : List Nat} (h1 : digP l) (h2 : digP m) : digP (l ++ m) := fun x hx => by
  rcases List.mem_append.1 hx with h | h
  · exact h1 x h
  · exact h2 x h
theorem vN_lt : ∀ {l : List Nat}, digP l → vN l < 10 ^ l.length := by
  intro l
  induction l with
  | nil => intro _; simp [vN]
  | cons x l ih =>
    intro h
    have h1 := ih (fun y hy => h y (List.mem_cons_of_mem _ hy))
    have h2 := h x (List.mem_cons_self ..)
    have h3 : x * 10 ^ l.length ≤ 9 * 10 ^ l.length := Nat.mul_le_mul_right _ h2
    rw [vN_cons, List.length_cons, Nat.pow_succ]; omega
theorem vN_ge {x : Nat} {l : List Nat} (h : x ≠ 0) : 10 ^ l.length ≤ vN (x :: l) := by
  have : 1 * 10 ^ l.length ≤ x * 10 ^ l.length := Nat.mul_le_mul_right _ (by omega)
  rw [vN_cons]; omega
theorem vN_zeros (n : Nat) : vN (List.replicate n 0) = 0 := by
  induction n with
  | zero => rfl
  | succ n ih => rw [List.replicate_succ, vN_cons, ih]; simp
theorem vN_nines (n : Nat) : vN (List.replicate n 9) + 1 = 10 ^ n := by
  induction n with
  | zero => rfl
  | succ n ih => rw [List.replicate_succ, vN_cons, Nat.pow_succ, List.length_replicate]; omega
/-- The figure so far from the last one. -/
theorem vN_digit : ∀ (l : List Nat), digP l → ∀ j, vN l / 10 ^ j % 10 = if j < l.length then l.getD (l.length - 1 - j) 0 else 0 := by
  refine nsnoc_ind (fun _ j => by simp [vN]) (fun l x ih h j => ?_)
  have hx := h x (by simp)
  rw [vN_snoc]
  cases j with
  | zero =>
    simp
    omega
  | succ j =>
    have e : (vN l * 10 + x) / 10 ^ (j + 1) = vN l / 10 ^ j := by
      rw [Nat.pow_succ, Nat.mul_comm (10 ^ j), ← Nat.div_div_eq_div_mul]
      congr 1; omega
    rw [e, ih (dig_left h) j]
    by_cases hj : j < l.length
    · rw [if_pos hj, if_pos (by simp; omega)]
      have e2 : (l ++ [x]).length - 1 - (j + 1) = l.length - 1 - j := by simp; omega
      rw [e2, List.getD_eq_getElem?_getD, List.getD_eq_getElem?_getD, List.getElem?_append_left (by omega)]
    · rw [if_neg hj, if_neg (by simp; omega)]

/-- Figures of a number. -/
def digsN (n : Nat) : List Nat := if h : n = 0 then [] else digsN (n / 10) ++ [n % 10]
termination_by n
decreasing_by omega
theorem digsN_zero : digsN 0 = [] := by rw [digsN]; rfl
theorem digsN_pos {n : Nat} (h : n ≠ 0) : digsN n = digsN (n / 10) ++ [n % 10] := by rw [digsN, dif_neg h]
theorem vN_digs (n : Nat) : vN (digsN n) = n := by
  induction n using Nat.strongRecOn with
  | _ n ih =>
    by_cases h : n = 0
    · subst h; rw [digsN_zero]; rfl
    · rw [digsN_pos h, vN_snoc, ih (n / 10) (by omega)]; omega
theorem digs_dig (n : Nat) : digP (digsN n) := by
  induction n using Nat.strongRecOn with
  | _ n ih =>
    by_cases h : n = 0
    · subst h; rw [digsN_zero]; intro x hx; cases hx
    · rw [digsN_pos h]
      exact dig_append (ih (n / 10) (by omega)) (fun x hx => by simp at hx; omega)
theorem digs_len {n : Nat} : ∀ k, n < 10 ^ k → (digsN n).length ≤ k := by
  intro k
  induction k generalizing n with
  | zero => intro h; obtain rfl : n = 0 := by simpa using h
            rw [digsN_zero]; simp
  | succ k ih =>
    intro h
    by_cases h0 : n = 0
    · subst h0; rw [digsN_zero]; simp
    · rw [digsN_pos h0]
      have := ih (n := n / 10) (by rw [Nat.pow_succ] at h; omega)
      simp; exact this
theorem vN_zero {l : List Nat} (h : vN l = 0) (hh : l.head? ≠ some 0) : l = [] := by
  cases l with
  | nil => rfl
  | cons x l =>
    have hx : x ≠ 0 := fun e => hh (by rw [e]; rfl)
    have := vN_ge (l := l) hx
    have := Nat.pow_pos (n := l.length) (show 0 < 10 by decide)
    omega
theorem digs_vN : ∀ l, digP l → l.head? ≠ some 0 → digsN (vN l) = l := by
  refine nsnoc_ind (fun _ _ => by rw [show vN [] = 0 from rfl, digsN_zero]) (fun l x ih h hh => ?_)
  have hx := h x (by simp)
  have hl : l.head? ≠ some 0 := by
    cases l with
    | nil => simp
    | cons y l => simpa using hh
  rw [vN_snoc]
  have hne : vN l * 10 + x ≠ 0 := by
    intro e
    have h1 : vN l = 0 := by omega
    have h2 : x = 0 := by omega
    have := vN_zero h1 hl
    subst this; subst h2
    exact hh rfl
  rw [digsN_pos hne]
  have e1 : (vN l * 10 + x) / 10 = vN l := by omega
  have e2 : (vN l * 10 + x) % 10 = x := by omega
  rw [e1, e2, ih (dig_left h) hl]
theorem vN_last {l : List Nat} (h : digP l) (hne : l ≠ []) (hl : l.getLast? ≠ some 0) : vN l % 10 ≠ 0 := by
  rcases List.eq_nil_or_concat l with h1 | ⟨p, c, h1⟩
  · exact absurd h1 hne
  · rw [List.concat_eq_append] at h1
    subst h1
    have := h c (by simp)
    have hc : c ≠ 0 := fun e => hl (by simp [e])
    rw [vN_snoc]; omega

/-- A power of ten, told from one that is far below. -/
def pw (m : Int) : Nat := 10 ^ (m + 3000).toNat
theorem pw_pos (m : Int) : 0 < pw m := Nat.pow_pos (by decide)
theorem pw_add {m : Int} (n : Nat) (h : -3000 ≤ m) : pw (m + n) = pw m * 10 ^ n := by
  unfold pw; rw [← Nat.pow_add]; congr 1; omega
theorem pw_le {m n : Int} (h1 : -3000 ≤ m) (h : m ≤ n) : pw m ≤ pw n := by
  unfold pw; exact Nat.pow_le_pow_right (by decide) (by omega)
theorem pw_succ {m : Int} (h : -3000 ≤ m) : pw (m + 1) = pw m * 10 := by
  have := pw_add (m := m) 1 h; simpa using this

/-- Is it right? -/
def rightP (l : List Nat) (E : Int) : Prop := digP l ∧ (l = [] → E = 0) ∧ (l ≠ [] → l.length ≤ 1000 ∧ -1000 ≤ E ∧ E ≤ 1000 ∧ l.head? ≠ some 0 ∧ l.getLast? ≠ some 0)
def magN (l : List Nat) (E : Int) : Nat := vN l * pw E
theorem right_low {l : List Nat} {E : Int} (h : rightP l E) : -1000 ≤ E ∧ E ≤ 1000 ∧ l.length ≤ 1000 := by
  by_cases hl : l = []
  · have := h.2.1 hl; subst hl; simp; omega
  · have := h.2.2 hl; omega
theorem right_head {l : List Nat} {E : Int} (h : rightP l E) : l.head? ≠ some 0 := by
  by_cases hl : l = []
  · subst hl; simp
  · exact (h.2.2 hl).2.2.2.1
/-- Right figures that are worth as much are the same. -/
theorem right_same {l m : List Nat} {E G : Int} (h1 : rightP l E) (h2 : rightP m G) (h : magN l E = magN m G) : l = m ∧ E = G := by
  have key : ∀ {l m : List Nat} {E G : Int}, rightP l E → rightP m G → magN l E = magN m G → E ≤ G → l = m ∧ E = G := by
    intro l m E G h1 h2 h hle
    have l1 := right_low h1
    have l2 := right_low h2
    unfold magN at h
    obtain ⟨n, hn⟩ : ∃ n : Nat, G = E + n := ⟨(G - E).toNat, by omega⟩
    have hp := pw_add (m := E) n (by omega)
    rw [← hn] at hp
    rw [hp, Nat.mul_comm (pw E), ← Nat.mul_assoc] at h
    have hv : vN l = vN m * 10 ^ n := Nat.eq_of_mul_eq_mul_right (pw_pos E) h
    by_cases hl : l = []
    · subst hl
      have h0 : vN m * 10 ^ n = 0 := by rw [← hv]; rfl
      have hm0 : vN m = 0 := by
        rcases Nat.mul_eq_zero.1 h0 with g | g
        · exact g
        · exact absurd g (by have := Nat.pow_pos (n := n) (show 0 < 10 by decide); omega)
      have hm := vN_zero hm0 (right_head h2)
      subst hm
      exact ⟨rfl, by rw [h1.2.1 rfl, h2.2.1 rfl]⟩
    · have hlast := vN_last h1.1 hl (h1.2.2 hl).2.2.2.2
      have hn0 : n = 0 := by
        apply Decidable.byContradiction
        intro hne
        obtain ⟨q, rfl⟩ : ∃ q, n = q + 1 := ⟨n - 1, by omega⟩
        rw [Nat.pow_succ, ← Nat.mul_assoc] at hv
        omega
      subst hn0
      simp at hv hn
      refine ⟨?_, hn.symm⟩
      rw [← digs_vN l h1.1 (right_head h1), ← digs_vN m h2.1 (right_head h2), hv]
  rcases Int.le_total E G with hle | hle
  · exact key h1 h2 h hle
  · obtain ⟨a, b⟩ := key h2 h1 h.symm hle
    exact ⟨a.symm, b.symm⟩

theorem up_get {l : List Nat} {i : Nat} (h : i < l.length) : nth (up l) (i : Int) = ((l.getD i 0 : Nat) : Int) := by
  rw [nth_nat (by rw [up_len]; exact h)]
  simp [up, List.getD_eq_getElem?_getD, List.getElem?_eq_getElem h]
/-- The figure at a place. -/
theorem fig_at {l : List Nat} {E p : Int} (h : rightP l E) (hp : -2900 ≤ p) (hp2 : p ≤ 100000) : magN l E / pw p % 10 = if E ≤ p ∧ p < E + l.length then l.getD (E + l.length - 1 - p).toNat 0 else 0 := by
  have hl := right_low h
  unfold magN
  by_cases h1 : E ≤ p
  · obtain ⟨n, rfl⟩ : ∃ n : Nat, p = E + n := ⟨(p - E).toNat, by omega⟩
    rw [pw_add n (by omega), Nat.mul_comm (pw E), Nat.mul_div_mul_right _ _ (pw_pos E), vN_digit l h.1 n]
    by_cases h2 : n < l.length
    · rw [if_pos h2, if_pos (by omega)]
      congr 1; omega
    · rw [if_neg h2, if_neg (by omega)]
  · rw [if_neg (by omega)]
    obtain ⟨n, hn⟩ : ∃ n : Nat, E = p + (n + 1 : Nat) := ⟨(E - p - 1).toNat, by omega⟩
    rw [hn, pw_add (n + 1) (by omega), Nat.pow_succ, ← Nat.mul_assoc, ← Nat.mul_assoc, Nat.mul_right_comm, Nat.mul_comm (vN l), Nat.mul_assoc, Nat.mul_assoc, Nat.mul_div_cancel_left _ (pw_pos p), ← Nat.mul_assoc, Nat.mul_right_comm]
    exact Nat.mul_mod_left _ _
theorem mag_eq {l : List Nat} {E : Int} {neg : Bool} (h : rightP l E) : dec_Mag ⟨neg, up l, E⟩ = some (if l = [] then 0 else E + l.length - 1) := by
  have hl := right_low h
  unfold dec_Mag dec_work__mag
  simp only [up_len]
  by_cases h0 : l = []
  · subst h0; simp
  · have : l.length ≠ 0 := fun e => h0 (List.eq_nil_of_length_eq_zero e)
    rw [dF (by omega), if_neg h0, w64 (n := E + (l.length : Int)) (by omega) (by omega), w64 (by omega) (by omega)]; rfl
theorem wmag_eq {l : List Nat} {E : Int} {neg : Bool} (h : rightP l E) : dec_work__mag ⟨⟨neg, up l, E⟩⟩ = some (if l = [] then 0 else E + l.length - 1) := by
  have := mag_eq (neg := neg) h
  unfold dec_Mag at this
  cases hm : dec_work__mag ⟨⟨neg, up l, E⟩⟩ with
  | none => rw [hm] at this; cases this
  | some v => rw [hm] at this; exact this
theorem at_eq {l : List Nat} {E p : Int} {neg : Bool} (h : rightP l E) (hp : -2900 ≤ p) (hp2 : p ≤ 100000) : dec_At ⟨neg, up l, E⟩ p = some ((magN l E / pw p % 10 : Nat) : Int) := by
  have hl := right_low h
  rw [fig_at h hp hp2]
  unfold dec_At
  rw [wmag_eq h]
  simp only
  by_cases h1 : p < E
  · rw [dT h1, if_neg (show ¬ (E ≤ p ∧ p < E + l.length) by omega)]; rfl
  · rw [dF h1]
    simp only [cond_false, Option.bind_some]
    by_cases h0 : l = []
    · have hE := h.2.1 h0
      subst h0
      rw [if_pos rfl, if_neg (show ¬ (E ≤ p ∧ p < E + (([] : List Nat).length : Nat)) by simp)]
      by_cases hp0 : p > 0
      · rw [dT hp0]; rfl
      · rw [dF hp0]
        have : p = 0 := by omega
        subst this
        rfl
    · rw [if_neg h0]
      by_cases h2 : p > E + l.length - 1
      · rw [dT h2, if_neg (show ¬ (E ≤ p ∧ p < E + l.length) by omega)]; rfl
      · have hpos : 0 < l.length := List.length_pos_iff.2 h0
        rw [dF h2, if_pos (show E ≤ p ∧ p < E + l.length by omega), w64 (by omega) (by omega)]
        simp only [cond_false, Option.bind_some, joinX]
        unfold dec_work__figure
        simp only [up_len]
        obtain ⟨i, hi⟩ : ∃ i : Nat, E + l.length - 1 - p = i := ⟨(E + l.length - 1 - p).toNat, by omega⟩
        have hil : i < l.length := by omega
        rw [hi, dF (by omega), dF (by omega), ← up_len l, inR_nat (by rw [up_len]; exact hil), up_get hil]
        simp [joinX]

theorem t_step {A : Nat} {p : Int} (hp : -3000 ≤ p) : A / pw p = 10 * (A / pw (p + 1)) + A / pw p % 10 := by
  rw [pw_succ hp, ← Nat.div_div_eq_div_mul]; omega
theorem mag_top {l : List Nat} {E : Int} (h : rightP l E) : magN l E / pw ((if l = [] then 0 else E + l.length - 1) + 1) = 0 := by
  have hl := right_low h
  apply Nat.div_eq_of_lt
  unfold magN
  by_cases h0 : l = []
  · subst h0; simp [vN]; exact pw_pos _
  · rw [if_neg h0]
    have e : E + (l.length : Int) - 1 + 1 = E + l.length := by omega
    rw [e, pw_add l.length (by omega), Nat.mul_comm (pw E)]
    exact (Nat.mul_lt_mul_right (pw_pos E)).2 (vN_lt h.1)
theorem up_head {x : Nat} {l : List Nat} : nth (up (x :: l)) 0 = x := rfl
theorem up_last {x : Nat} {l : List Nat} : nth (up (l ++ [x])) (l.length : Int) = x := by
  rw [up_append]; have := nth_mid (pre := up l) (suf := []) (x := (x : Int)); rw [up_len] at this; exact this
theorem rright_eq {l : List Nat} {E : Int} {neg : Bool} (hl : l.length ≤ 140737488355328) : ∃ b, exergueref05_Right ⟨neg, up l, E⟩ = some b ∧ (b = true ↔ rightP l E) := by
  unfold exergueref05_Right
  rw [all_loop (fun c => decide (c > 9)) (up l) (by rw [up_len]; omega)]
  simp only [up_len]
  have hall : (up l).all (fun c => !decide (c > 9)) = true ↔ digP l := by
    rw [List.all_eq_true]
    constructor
    · intro h x hx
      have := h (x : Int) (List.mem_map.2 ⟨x, hx, rfl⟩)
      simp at this; omega
    · intro h c hc
      obtain ⟨x, hx, rfl⟩ := List.mem_map.1 hc
      have := h x hx
      simp; omega
  by_cases hd : digP l
  · rw [if_pos (hall.2 hd)]
    simp only [Option.bind_some, joinX]
    by_cases h0 : l = []
    · subst h0
      refine ⟨decide (E = 0), rfl, ?_⟩
      rw [decide_eq_true_eq]
      exact ⟨fun h => ⟨hd, fun _ => h, fun h => absurd rfl h⟩, fun h => h.2.1 rfl⟩
    · have hpos : 0 < l.length := List.length_pos_iff.2 h0
      have hin : inR 0 l.length = true := inR_int (by omega) (by omega)
      have hin2 : inR ((l.length : Int) - 1) l.length = true := inR_int (by omega) (by omega)
      have hh : nth (up l) 0 > 0 ↔ l.head? ≠ some 0 := by
        cases l with
        | nil => exact absurd rfl h0
        | cons x l => rw [up_head]; simp; omega
      have hll : nth (up l) ((l.length : Int) - 1) > 0 ↔ l.getLast? ≠ some 0 := by
        rcases List.eq_nil_or_concat l with h1 | ⟨p, c, h1⟩
        · exact absurd h1 h0
        · rw [List.concat_eq_append] at h1
          subst h1
          have e : (((p ++ [c]).length : Nat) : Int) - 1 = (p.length : Int) := by simp
          rw [e, up_last]; simp; omega
      rw [dF (show ¬ (l.length : Int) = 0 by omega), hin, w64 (by omega) (by omega), hin2]
      simp only [cond_false, cond_true]
      by_cases c1 : (l.length : Int) ≤ 1000
      · by_cases c2 : nth (up l) 0 > 0
        · by_cases c3 : nth (up l) ((l.length : Int) - 1) > 0
          · by_cases c4 : E ≥ -1000
            · refine ⟨decide (E ≤ 1000), by rw [dT c1, dT c2, dT c3, dT c4]; rfl, ?_⟩
              rw [decide_eq_true_eq]
              exact ⟨fun h => ⟨hd, fun h => absurd h h0, fun _ => ⟨by omega, c4, h, hh.1 c2, hll.1 c3⟩⟩, fun h => (h.2.2 h0).2.2.1⟩
            · exact ⟨false, by rw [dT c1, dT c2, dT c3, dF c4]; rfl, ⟨fun h => (by cases h), fun h => absurd (h.2.2 h0).2.1 c4⟩⟩
          · exact ⟨false, by rw [dT c1, dT c2, dF c3]; rfl, ⟨fun h => (by cases h), fun h => absurd (hll.2 (h.2.2 h0).2.2.2.2) c3⟩⟩
        · exact ⟨false, by rw [dT c1, dF c2]; rfl, ⟨fun h => (by cases h), fun h => absurd (hh.2 (h.2.2 h0).2.2.2.1) c2⟩⟩
      · exact ⟨false, by rw [dF c1]; rfl, ⟨fun h => (by cases h), fun h => absurd (h.2.2 h0).1 (by omega)⟩⟩
  · rw [if_neg (fun h => hd (hall.1 h))]
    exact ⟨false, rfl, ⟨fun h => (by cases h), fun h => absurd h.1 hd⟩⟩
theorem rright_true {l : List Nat} {E : Int} {neg : Bool} (h : rightP l E) : exergueref05_Right ⟨neg, up l, E⟩ = some true := by
  have hl := right_low h
  obtain ⟨b, h1, h2⟩ := rright_eq (neg := neg) (E := E) (l := l) (by omega)
  rw [h1, h2.2 h]
/-- Are they the same? -/
theorem rsame_eq {l m : List Nat} {E G : Int} {n1 n2 : Bool} (h1 : rightP l E) (h2 : rightP m G) : exergueref05_Same ⟨n1, up l, E⟩ ⟨n2, up m, G⟩ = some (decide (n1 = n2) && decide (magN l E = magN m G)) := by
  have hl := right_low h1
  have hrow : exergueref01_Row (up l) (up m) = some (decide (up l = up m)) := row_eq (by rw [up_len]; omega)
  unfold exergueref05_Same
  rw [hrow]
  simp only [Option.bind_some]
  by_cases hm : magN l E = magN m G
  · obtain ⟨rfl, rfl⟩ := right_same h1 h2 hm
    rw [dT rfl, dT hm, dT rfl]
    cases n1 <;> cases n2 <;> rfl
  · rw [dF hm]
    by_cases he : l = m
    · subst he
      have hE : ¬ E = G := by rintro rfl; exact hm rfl
      rw [dF hE, dT rfl]
      cases n1 <;> cases n2 <;> rfl
    · rw [dF (fun e => he (up_inj e))]
      cases n1 <;> cases n2 <;> rfl

def cmpV (n1 : Bool) (A : Nat) (n2 : Bool) (B : Nat) : Int :=
  if A = 0 ∧ B = 0 then 0 else if n1 ≠ n2 then (if n1 = true then -1 else 1) else if A = B then 0 else if (decide (A < B) != n1) = true then -1 else 1
theorem mag_zero {l : List Nat} {E : Int} (h : rightP l E) : magN l E = 0 ↔ l = [] := by
  constructor
  · intro h0
    unfold magN at h0
    rcases Nat.mul_eq_zero.1 h0 with g | g
    · exact vN_zero g (right_head h)
    · have := pw_pos E; omega
  · rintro rfl; simp [magN, vN]


/-! A machine that reads: what has been read begins the text of a right number. -/
inductive Stt where
  | A
  | S (n : Bool)
  | Z (n : Bool)
  | D (n : Bool) (ds : List Nat)
  | E (n : Bool) (ds : List Nat)
  | O (n : Bool) (ds : List Nat)
  | M (n : Bool) (ds : List Nat)
  | X (n : Bool) (ds : List Nat) (sd : Bool) (k : Nat)
def stpS (n : Bool) (c : Nat) : Option Stt := if c = 48 then some (.Z n) else if 49 ≤ c ∧ c ≤ 57 then some (.D n [c - 48]) else none
def stp : Stt → Nat → Option Stt
  | .A, c => if c = 45 then some (.S true) else stpS false c
  | .S n, c => stpS n c
  | .Z n, c => if c = 101 then some (.E n []) else none
  | .D n ds, c => if c = 101 ∧ ds.getLast? ≠ some 0 then some (.E n ds) else if 48 ≤ c ∧ c ≤ 57 ∧ ds.length < 1000 ∧ ¬ (c = 48 ∧ ds.length = 999) then some (.D n (ds ++ [c - 48])) else none
  | .E n ds, c => if c = 48 then some (.O n ds) else if ds = [] then none else if c = 45 then some (.M n ds) else if 49 ≤ c ∧ c ≤ 57 then some (.X n ds false (c - 48)) else none
  | .O _ _, _ => none
  | .M n ds, c => if 49 ≤ c ∧ c ≤ 57 then some (.X n ds true (c - 48)) else none
  | .X n ds sd k, c => if 48 ≤ c ∧ c ≤ 57 ∧ k * 10 + (c - 48) ≤ 1000 then some (.X n ds sd (k * 10 + (c - 48))) else none
def run : Stt → List Nat → Option Stt
  | st, [] => some st
  | st, c :: r => (stp st c).bind fun st => run st r
theorem run_append (p q : List Nat) : ∀ st, run st (p ++ q) = (run st p).bind fun st => run st q := by
  induction p with
  | nil => intro st; rfl
  | cons c p ih =>
    intro st
    simp only [List.cons_append, run]
    cases stp st c with
    | none => rfl
    | some st => exact ih st
theorem run_one (st : Stt) (c : Nat) : run st [c] = stp st c := by
  simp only [run]
  cases stp st c <;> rfl
def sg (n : Bool) : List Nat := if n = true then [45] else []
def fg (ds : List Nat) : List Nat := ds.map fun x => x + 48
def f0 (ds : List Nat) : List Nat := if ds = [] then [48] else fg ds
def dt (k : Nat) : List Nat := fg (digsN k)
def it (e : Int) : List Nat := if e < 0 then 45 :: dt e.natAbs else if e = 0 then [48] else dt e.natAbs
def txN (n : Bool) (ds : List Nat) (e : Int) : List Nat := sg n ++ f0 ds ++ [101] ++ it e
theorem fg_app (a b : List Nat) : fg (a ++ b) = fg a ++ fg b := by simp [fg]
def tx : Stt → List Nat
  | .A => []
  | .S n => sg n
  | .Z n => sg n ++ [48]
  | .D n ds => sg n ++ fg ds
  | .E n ds => sg n ++ f0 ds ++ [101]
  | .O n ds => sg n ++ f0 ds ++ [101, 48]
  | .M n ds => sg n ++ f0 ds ++ [101, 45]
  | .X n ds sd k => sg n ++ f0 ds ++ [101] ++ sg sd ++ dt k
def acc : Stt → Option (Bool × List Nat × Int)
  | .O n ds => some (n, ds, 0)
  | .X n ds sd k => some (n, ds, if sd = true then -(k : Int) else k)
  | _ => none
def inv : Stt → Prop
  | .A => True
  | .S _ => True
  | .Z _ => True
  | .D _ ds => ds ≠ [] ∧ digP ds ∧ ds.length ≤ 1000 ∧ ds.head? ≠ some 0 ∧ (ds.length = 1000 → ds.getLast? ≠ some 0)
  | .E _ ds => rightP ds 0
  | .O _ ds => rightP ds 0
  | .M _ ds => rightP ds 0 ∧ ds ≠ []
  | .X _ ds _ k => rightP ds 0 ∧ ds ≠ [] ∧ 1 ≤ k ∧ k ≤ 1000
theorem right0 : rightP [] 0 := ⟨(fun x hx => by cases hx), fun _ => rfl, fun h => absurd rfl h⟩
theorem right_e {ds : List Nat} (h : rightP ds 0) (h0 : ds ≠ []) {e : Int} (h1 : -1000 ≤ e) (h2 : e ≤ 1000) : rightP ds e :=
  ⟨h.1, fun h => absurd h h0, fun _ => ⟨(h.2.2 h0).1, h1, h2, (h.2.2 h0).2.2.2⟩⟩
theorem right_zero {ds : List Nat} {e : Int} (h : rightP ds e) : rightP ds 0 :=
  ⟨h.1, fun _ => rfl, fun h0 => ⟨(h.2.2 h0).1, by decide, by decide, (h.2.2 h0).2.2.2⟩⟩
theorem fg_ne {ds : List Nat} (h : ds ≠ []) : f0 ds = fg ds := if_neg h
theorem dt_small {k : Nat} (h : k ≠ 0) (h2 : k < 10) : dt k = [k + 48] := by
  unfold dt
  rw [digsN_pos h, show k / 10 = 0 by omega, digsN_zero, show k % 10 = k by omega]; rfl
theorem dt_next {k : Nat} (h : k ≠ 0) {c : Nat} (h1 : 48 ≤ c) (h2 : c ≤ 57) : dt (k * 10 + (c - 48)) = dt k ++ [c] := by
  unfold dt
  rw [digsN_pos (by omega), show (k * 10 + (c - 48)) / 10 = k by omega, show (k * 10 + (c - 48)) % 10 = c - 48 by omega, fg_app]
  simp [fg]; omega
theorem stpS_ok {n : Bool} {c : Nat} {st : Stt} (h : stpS n c = some st) : inv st ∧ tx st = sg n ++ [c] := by
  unfold stpS at h
  split at h
  · cases h; rename_i hc; subst hc; exact ⟨trivial, rfl⟩
  · split at h
    · cases h
      rename_i h0 h1
      refine ⟨⟨by simp, fun x hx => by simp at hx; omega, by simp, by simp; omega, by simp⟩, ?_⟩
      simp [tx, fg]; omega
    · cases h
theorem stp_ok {st st' : Stt} {c : Nat} (hi : inv st) (h : stp st c = some st') : inv st' ∧ tx st' = tx st ++ [c] := by
  cases st with
  | A =>
    simp only [stp] at h
    split at h
    · cases h; rename_i hc; subst hc; exact ⟨trivial, rfl⟩
    · exact stpS_ok h
  | S n => exact stpS_ok h
  | Z n =>
    simp only [stp] at h
    split at h
    · cases h; rename_i hc; subst hc; exact ⟨right0, by simp [tx, f0]⟩
    · cases h
  | D n ds =>
    simp only [stp] at h
    obtain ⟨h0, hd, hl, hh, ht⟩ := hi
    split at h
    · cases h
      rename_i hc
      obtain ⟨rfl, hc⟩ := hc
      exact ⟨⟨hd, fun h => absurd h h0, fun _ => ⟨hl, by decide, by decide, hh, hc⟩⟩, by simp [tx, fg_ne h0]⟩
    · split at h
      · cases h
        rename_i hc
        obtain ⟨c1, c2, c3, c4⟩ := hc
        refine ⟨⟨by simp, dig_append hd (fun x hx => by simp at hx; omega), by simp; omega, ?_, ?_⟩, ?_⟩
        · cases ds with
          | nil => exact absurd rfl h0
          | cons x ds => simpa using hh
        · simp; omega
        · simp [tx, fg]; omega
      · cases h
  | E n ds =>
    simp only [stp] at h
    split at h
    · cases h; rename_i hc; subst hc; exact ⟨hi, by simp [tx]⟩
    · split at h
      · cases h
      · rename_i h0
        split at h
        · cases h; rename_i hc; subst hc; exact ⟨⟨hi, h0⟩, by simp [tx]⟩
        · split at h
          · cases h
            rename_i hc
            refine ⟨⟨hi, h0, by omega, by omega⟩, ?_⟩
            simp only [tx]
            rw [dt_small (by omega) (by omega), show c - 48 + 48 = c by omega]; simp [sg]
          · cases h
  | O n ds => cases h
  | M n ds =>
    simp only [stp] at h
    split at h
    · cases h
      rename_i hc
      refine ⟨⟨hi.1, hi.2, by omega, by omega⟩, ?_⟩
      simp only [tx]
      rw [dt_small (by omega) (by omega), show c - 48 + 48 = c by omega]; simp [sg]
    · cases h
  | X n ds sd k =>
    simp only [stp] at h
    obtain ⟨hi1, hi2, hi3, hi4⟩ := hi
    split at h
    · cases h
      rename_i hc
      refine ⟨⟨hi1, hi2, by omega, by omega⟩, ?_⟩
      simp only [tx]
      rw [dt_next (by omega) hc.1 hc.2.1]; simp
    · cases h
theorem run_ok : ∀ (p : List Nat) {st st' : Stt}, inv st → run st p = some st' → inv st' ∧ tx st' = tx st ++ p := by
  intro p
  induction p with
  | nil => intro st st' hi h; cases h; exact ⟨hi, by simp⟩
  | cons c p ih =>
    intro st st' hi h
    simp only [run] at h
    cases hs : stp st c with
    | none => rw [hs] at h; cases h
    | some s1 =>
      rw [hs] at h
      obtain ⟨h1, h2⟩ := stp_ok hi hs
      obtain ⟨h3, h4⟩ := ih h1 h
      exact ⟨h3, by rw [h4, h2]; simp⟩
theorem acc_ok {st : Stt} {n : Bool} {ds : List Nat} {e : Int} (hi : inv st) (h : acc st = some (n, ds, e)) : rightP ds e ∧ txN n ds e = tx st := by
  cases st with
  | O n' ds' =>
    simp only [acc, Option.some.injEq, Prod.mk.injEq] at h
    obtain ⟨rfl, rfl, rfl⟩ := h
    exact ⟨hi, by simp [txN, tx, it]⟩
  | X n' ds' sd k =>
    simp only [acc, Option.some.injEq, Prod.mk.injEq] at h
    obtain ⟨rfl, rfl, rfl⟩ := h
    obtain ⟨h1, h2, h3, h4⟩ := hi
    cases sd with
    | true =>
      refine ⟨right_e h1 h2 (by rw [if_pos rfl]; omega) (by rw [if_pos rfl]; omega), ?_⟩
      simp only [txN, tx, it, if_true]
      rw [if_pos (by omega), show (-(k : Int)).natAbs = k by omega]; simp [sg]
    | false =>
      refine ⟨right_e h1 h2 (by rw [if_neg (by decide)]; omega) (by rw [if_neg (by decide)]; omega), ?_⟩
      simp only [txN, tx, it, Bool.false_eq_true, if_false]
      rw [if_neg (by omega), if_neg (by omega), show ((k : Int)).natAbs = k by omega]; simp [sg]
  | _ => cases h
/-- What has been read goes on with one of five tails. -/
theorem live {st : Stt} (hi : inv st) : ∃ t ∈ [[], [49, 101, 48], [101, 48], [48], [49]], ∃ n ds e, rightP ds e ∧ txN n ds e = tx st ++ t := by
  have r1 : rightP [1] 0 := ⟨fun x hx => by simp at hx; omega, fun h => (by cases h), fun _ => by simp⟩
  cases st with
  | A => exact ⟨[49, 101, 48], by simp, false, [1], 0, r1, by simp [txN, tx, f0, fg, it, sg]⟩
  | S n => exact ⟨[49, 101, 48], by simp, n, [1], 0, r1, by simp [txN, tx, f0, fg, it]⟩
  | Z n => exact ⟨[101, 48], by simp, n, [], 0, right0, by simp [txN, tx, f0, it]⟩
  | D n ds =>
    obtain ⟨h0, hd, hl, hh, ht⟩ := hi
    by_cases hz : ds.getLast? = some 0
    · have hlt : ds.length < 1000 := by
        apply Decidable.byContradiction
        intro hc
        exact ht (by omega) hz
      refine ⟨[49, 101, 48], by simp, n, ds ++ [1], 0, ⟨dig_append hd (fun x hx => by simp at hx; omega), fun h => by simp at h, fun _ => ⟨by simp; omega, by decide, by decide, ?_, by simp⟩⟩, ?_⟩
      · cases ds with
        | nil => exact absurd rfl h0
        | cons x ds => simpa using hh
      · simp [txN, tx, f0, fg, it]
    · exact ⟨[101, 48], by simp, n, ds, 0, ⟨hd, fun _ => rfl, fun _ => ⟨hl, by decide, by decide, hh, hz⟩⟩, by simp [txN, tx, fg_ne h0, it]⟩
  | E n ds => exact ⟨[48], by simp, n, ds, 0, hi, by simp [txN, tx, it]⟩
  | O n ds => exact ⟨[], by simp, n, ds, 0, hi, by simp [txN, tx, it]⟩
  | M n ds => exact ⟨[49], by simp, n, ds, -1, right_e hi.1 hi.2 (by decide) (by decide), by simp [txN, tx, it]; exact dt_small (k := 1) (by omega) (by omega)⟩
  | X n ds sd k =>
    have h2 := acc_ok (st := .X n ds sd k) (n := n) (ds := ds) (e := if sd = true then -(k : Int) else k) hi rfl
    exact ⟨[], by simp, _, _, _, h2.1, by rw [h2.2]; simp⟩
theorem run_fg {n : Bool} {m : List Nat} (hd : digP m) (hl : m.length ≤ 1000) (ht : m.length = 1000 → m.getLast? ≠ some 0) (hh : m.head? ≠ some 0) (h0 : m ≠ []) : run (.S n) (fg m) = some (.D n m) := by
  have key : ∀ p, ∀ q, m = p ++ q → p ≠ [] → run (.S n) (fg p) = some (.D n p) := by
    refine nsnoc_ind (fun q h h0 => absurd rfl h0) (fun p x ih q h _ => ?_)
    have hx : x ≤ 9 := hd x (by rw [h]; simp)
    rw [fg_app, run_append]
    by_cases hp : p = []
    · subst hp
      have hx0 : x ≠ 0 := by
        intro e
        subst e
        rw [h] at hh
        exact hh rfl
      show run (.S n) [x + 48] = _
      rw [run_one]
      simp only [stp, stpS]
      rw [if_neg (by omega), if_pos (by omega)]; simp
    · rw [ih (x :: q) (by rw [h]; simp) hp]
      show run (.D n p) [x + 48] = _
      rw [run_one]
      simp only [stp]
      have hlen := congrArg List.length h
      simp at hlen
      rw [if_neg (by omega), if_pos]
      · simp
      · refine ⟨by omega, by omega, by omega, fun hc => ?_⟩
        obtain ⟨c1, c2⟩ := hc
        have hq : q = [] := List.eq_nil_of_length_eq_zero (by omega)
        subst hq
        obtain rfl : x = 0 := by omega
        refine ht (by omega) ?_
        rw [h]; simp
  exact key m [] (by simp) h0
theorem run_dt {n sd : Bool} {ds : List Nat} (h0 : ds ≠ []) : ∀ k, 1 ≤ k → k ≤ 1000 → run (if sd = true then .M n ds else .E n ds) (dt k) = some (.X n ds sd k) := by
  intro k
  induction k using Nat.strongRecOn with
  | _ k ih =>
    intro h1 h2
    by_cases hk : k < 10
    · rw [dt_small (by omega) hk, run_one]
      cases sd with
      | true =>
        simp only [if_true, stp]
        rw [if_pos (by omega)]; simp
      | false =>
        simp only [Bool.false_eq_true, if_false, stp]
        rw [if_neg (by omega), if_neg h0, if_neg (by omega), if_pos (by omega)]; simp
    · have e : k = k / 10 * 10 + (k % 10 + 48 - 48) := by omega
      have hd := dt_next (k := k / 10) (by omega) (c := k % 10 + 48) (by omega) (by omega)
      rw [← e] at hd
      rw [hd, run_append, ih (k / 10) (by omega) (by omega) (by omega)]
      show run (.X n ds sd (k / 10)) [k % 10 + 48] = _
      rw [run_one]
      simp only [stp]
      rw [if_pos (by omega)]
      congr 2; omega
/-- The text of a right number is read. -/
theorem run_tx {n : Bool} {ds : List Nat} {e : Int} (h : rightP ds e) : ∃ st, run .A (txN n ds e) = some st ∧ acc st = some (n, ds, e) := by
  have hl := right_low h
  have hE : run .A (sg n ++ f0 ds ++ [101]) = some (.E n ds) := by
    have hs : ∀ x r, x ≠ 45 → run .A (sg n ++ (x :: r)) = run (.S n) (x :: r) := by
      intro x r hx
      cases n with
      | true => rfl
      | false =>
        show run .A (x :: r) = _
        simp only [run, stp]
        rw [if_neg hx]
    by_cases h0 : ds = []
    · subst h0
      rw [show f0 [] = [48] from rfl, List.append_assoc]
      show run .A (sg n ++ (48 :: [101])) = _
      rw [hs _ _ (by decide)]; rfl
    · rw [fg_ne h0]
      obtain ⟨hr1, hr2, hr3, hr4, hr5⟩ := h.2.2 h0
      have hf := run_fg (n := n) h.1 hr1 (fun _ => hr5) hr4 h0
      rw [List.append_assoc]
      have hne : ∃ x r, fg ds ++ [101] = x :: r ∧ x ≠ 45 := by
        cases ds with
        | nil => exact absurd rfl h0
        | cons x ds => exact ⟨x + 48, fg ds ++ [101], rfl, by omega⟩
      obtain ⟨x, r, hx1, hx2⟩ := hne
      rw [hx1, hs _ _ hx2, ← hx1, run_append, hf]
      show run (.D n ds) [101] = _
      rw [run_one]
      simp only [stp]
      rw [if_pos (And.intro trivial hr5)]
  unfold txN
  rw [run_append, hE]
  show ∃ st, run (.E n ds) (it e) = some st ∧ _
  unfold it
  by_cases h1 : e < 0
  · have h0 : ds ≠ [] := fun h0 => by have := h.2.1 h0; omega
    rw [if_pos h1]
    refine ⟨.X n ds true e.natAbs, ?_, by simp only [acc, if_true]; rw [show -((e.natAbs : Nat) : Int) = e by omega]⟩
    have := run_dt (n := n) (sd := true) h0 e.natAbs (by omega) (by omega)
    simp only [run, stp]
    rw [if_neg (by omega), if_neg h0, if_pos trivial]
    exact this
  · rw [if_neg h1]
    by_cases h2 : e = 0
    · subst h2
      exact ⟨.O n ds, rfl, rfl⟩
    · have h0 : ds ≠ [] := fun h0 => by have := h.2.1 h0; omega
      rw [if_neg h2]
      refine ⟨.X n ds false e.natAbs, run_dt (n := n) (sd := false) h0 e.natAbs (by omega) (by omega), by simp only [acc, Bool.false_eq_true, if_false]; rw [show ((e.natAbs : Nat) : Int) = e by omega]⟩

/-! Bytes. -/
def nat (s : List UInt8) : List Nat := s.map UInt8.toNat
def ub (l : List Nat) : List UInt8 := l.map UInt8.ofNat
theorem nat_app (a b : List UInt8) : nat (a ++ b) = nat a ++ nat b := by simp [nat]
theorem nat_len (a : List UInt8) : (nat a).length = a.length := by simp [nat]
theorem nat_ub {l : List Nat} (h : bytesP l) : nat (ub l) = l := by
  unfold nat ub
  rw [List.map_map]
  conv => rhs; rw [← List.map_id l]
  apply List.map_congr_left
  intro x hx
  have := h x hx
  simp; omega
theorem ub_nat (s : List UInt8) : ub (nat s) = s := by
  unfold nat ub
  rw [List.map_map]
  conv => rhs; rw [← List.map_id s]
  apply List.map_congr_left
  intro x hx
  simp
theorem nat_inj {a b : List UInt8} (h : nat a = nat b) : a = b := by rw [← ub_nat a, h, ub_nat]
theorem ub_app (a b : List Nat) : ub (a ++ b) = ub a ++ ub b := by simp [ub]
theorem ub_len (a : List Nat) : (ub a).length = a.length := by simp [ub]
theorem bytesS_up (l : List Nat) : bytesS (up l) = ub l := by simp [bytesS, up, ub, List.map_map, Function.comp_def]
theorem fg_bytes {ds : List Nat} (h : digP ds) : bytesP (fg ds) := fun x hx => by
  obtain ⟨y, hy, rfl⟩ := List.mem_map.1 hx
  have := h y hy; omega
theorem dt_bytes (k : Nat) : bytesP (dt k) := fg_bytes (digs_dig k)
theorem it_bytes (e : Int) : bytesP (it e) := by
  unfold it
  split
  · intro x hx
    rcases List.mem_cons.1 hx with h | h
    · omega
    · exact dt_bytes _ x h
  · split
    · intro x hx; simp at hx; omega
    · exact dt_bytes _
theorem sg_bytes (n : Bool) : bytesP (sg n) := by cases n <;> intro x hx <;> simp [sg] at hx <;> omega
theorem f0_bytes {ds : List Nat} (h : digP ds) : bytesP (f0 ds) := by
  unfold f0
  split
  · intro x hx; simp at hx; omega
  · exact fg_bytes h
theorem tx_bytes {n : Bool} {ds : List Nat} {e : Int} (h : rightP ds e) : bytesP (txN n ds e) :=
  bytes_append (bytes_append (bytes_append (sg_bytes n) (f0_bytes h.1)) (fun x hx => by simp at hx; omega)) (it_bytes e)
theorem it_len {e : Int} (h1 : -1000 ≤ e) (h2 : e ≤ 1000) : (it e).length ≤ 5 := by
  have := digs_len (n := e.natAbs) 4 (by omega)
  unfold it
  split
  · simp [dt, fg]; exact this
  · split
    · simp
    · simp [dt, fg]; omega
theorem it_pos {e : Int} : 1 ≤ (it e).length := by
  unfold it
  split
  · simp
  · split
    · simp
    · unfold dt
      rw [digsN_pos (by omega)]; simp [fg]
theorem tx_len {n : Bool} {ds : List Nat} {e : Int} (h : rightP ds e) : (txN n ds e).length ≤ 1010 := by
  have h1 := right_low h
  have h2 := it_len h1.1 h1.2.1
  have h3 : (f0 ds).length ≤ 1000 := by
    unfold f0
    split
    · simp
    · simp [fg]; exact h1.2.2
  have h4 : (sg n).length ≤ 1 := by cases n <;> simp [sg]
  simp [txN] at *; omega


/-! Texts of numbers: what program and document write. -/
def dgF : Nat → Nat → List Nat
  | 0, _ => []
  | f + 1, k => if k = 0 then [] else dgF f (k / 10) ++ [k % 10]
theorem dgF_eq : ∀ f k, k < 10 ^ f → dgF f k = digsN k := by
  intro f
  induction f with
  | zero => intro k h; obtain rfl : k = 0 := by simpa using h
            rw [digsN_zero]; rfl
  | succ f ih =>
    intro k h
    by_cases h0 : k = 0
    · subst h0; rw [digsN_zero]; rfl
    · rw [digsN_pos h0]
      show (if k = 0 then [] else dgF f (k / 10) ++ [k % 10]) = _
      rw [if_neg h0, ih (k / 10) (by rw [Nat.pow_succ] at h; omega)]
def itF (e : Int) : List Nat := if e < 0 then 45 :: fg (dgF 4 e.natAbs) else if e = 0 then [48] else fg (dgF 4 e.natAbs)
theorem itF_eq {e : Int} (h1 : -1000 ≤ e) (h2 : e ≤ 1000) : itF e = it e := by
  unfold itF it dt
  rw [dgF_eq 4 e.natAbs (by omega)]
def both (k : Nat) : Bool := (strconv_Itoa ((k : Int) - 1000) == some (ub (itF ((k : Int) - 1000)))) && (exergueref05_Number big ((k : Int) - 1000) == some (ub (itF ((k : Int) - 1000))))
def allB (o : Nat) : Nat → Bool
  | 0 => true
  | k + 1 => both (o + k) && allB o k
theorem allB_of {o : Nat} : ∀ {n : Nat}, allB o n = true → ∀ k, o ≤ k → k < o + n → both k = true := by
  intro n
  induction n with
  | zero => intro _ k hk hk2; omega
  | succ n ih =>
    intro h k hk hk2
    simp only [allB, Bool.and_eq_true] at h
    by_cases hk3 : k = o + n
    · subst hk3; exact h.1
    · exact ih h.2 k hk (by omega)
theorem all_both0 : allB 0 167 = true := by kernel_rfl
theorem all_both1 : allB 167 167 = true := by kernel_rfl
theorem all_both2 : allB 334 167 = true := by kernel_rfl
theorem all_both3 : allB 501 167 = true := by kernel_rfl
theorem all_both4 : allB 668 167 = true := by kernel_rfl
theorem all_both5 : allB 835 167 = true := by kernel_rfl
theorem all_both6 : allB 1002 167 = true := by kernel_rfl
theorem all_both7 : allB 1169 167 = true := by kernel_rfl
theorem all_both8 : allB 1336 167 = true := by kernel_rfl
theorem all_both9 : allB 1503 167 = true := by kernel_rfl
theorem all_both10 : allB 1670 167 = true := by kernel_rfl
theorem all_both11 : allB 1837 167 = true := by kernel_rfl
theorem all_both {k : Nat} (h : k < 2001) : both k = true := by
  by_cases h0 : k < 167
  · exact allB_of all_both0 k (by omega) (by omega)
  by_cases h1 : k < 334
  · exact allB_of all_both1 k (by omega) (by omega)
  by_cases h2 : k < 501
  · exact allB_of all_both2 k (by omega) (by omega)
  by_cases h3 : k < 668
  · exact allB_of all_both3 k (by omega) (by omega)
  by_cases h4 : k < 835
  · exact allB_of all_both4 k (by omega) (by omega)
  by_cases h5 : k < 1002
  · exact allB_of all_both5 k (by omega) (by omega)
  by_cases h6 : k < 1169
  · exact allB_of all_both6 k (by omega) (by omega)
  by_cases h7 : k < 1336
  · exact allB_of all_both7 k (by omega) (by omega)
  by_cases h8 : k < 1503
  · exact allB_of all_both8 k (by omega) (by omega)
  by_cases h9 : k < 1670
  · exact allB_of all_both9 k (by omega) (by omega)
  by_cases h10 : k < 1837
  · exact allB_of all_both10 k (by omega) (by omega)
  exact allB_of all_both11 k (by omega) (by omega)
theorem nums {e : Int} (h1 : -1000 ≤ e) (h2 : e ≤ 1000) : strconv_Itoa e = some (ub (it e)) ∧ exergueref05_Number big e = some (ub (it e)) := by
  have := all_both (k := (e + 1000).toNat) (by omega)
  unfold both at this
  rw [show (((e + 1000).toNat : Nat) : Int) - 1000 = e by omega, itF_eq h1 h2] at this
  simpa using this


theorem ub_fg {ds : List Nat} (h : digP ds) (pre : List Nat) (x : Nat) (suf : List Nat) (hx : ds = pre ++ x :: suf) : IntKind.wrap .u8 (48 + nth (up ds) (pre.length : Int)) = ((x + 48 : Nat) : Int) := by
  have h9 := h x (by rw [hx]; simp)
  rw [hx, up_append, up_cons]
  have := nth_mid (pre := up pre) (suf := up suf) (x := (x : Int))
  rw [up_len] at this
  rw [this, w8 (by omega) (by omega)]; omega
theorem ub_one (x : Nat) : bytesS [(x : Int)] = ub [x] := by simp [bytesS, ub]
theorem ltext_eq {n : Bool} {ds : List Nat} {e : Int} (h : rightP ds e) : exergueref05_Text ⟨n, up ds, e⟩ = some (ub (txN n ds e)) := by
  have hl := right_low h
  have hn := (nums hl.1 hl.2.1).2
  have il := it_len hl.1 hl.2.1
  have tl := tx_len (n := n) h
  have sl : (sg n).length ≤ 1 := by cases n <;> simp [sg]
  unfold exergueref05_Text
  rw [show (bif n then some ([45] : List UInt8) else some ([] : List UInt8)) = some (ub (sg n)) by cases n <;> rfl]
  simp only [Option.bind_some, up_len]
  rw [loop_fold ds (fun pre => (ub (sg n ++ fg pre), (pre.length : Int))) (ub (sg n ++ fg ds))]
  · simp only [Option.bind_some]
    have h3 : (bif decide ((ds.length : Int) = 0) then bif room ((ub (sg n ++ fg ds)).length + ([48] : List UInt8).length) then some (ub (sg n ++ fg ds) ++ [48]) else none else some (ub (sg n ++ fg ds))) = some (ub (sg n ++ f0 ds)) := by
      by_cases h0 : ds = []
      · subst h0
        rw [dT (by rfl), room_of (by simp [ub_len, fg]; omega)]
        simp [f0, fg, ub]
      · rw [dF (by have := List.length_pos_iff.2 h0; omega), fg_ne h0]; rfl
    rw [h3]
    have fl : (f0 ds).length ≤ 1000 := by
      unfold f0
      split
      · simp
      · simp [fg]; exact hl.2.2
    simp only [Option.bind_some, hn]
    rw [room_of (by simp [ub_len]; omega), room_of (by simp [ub_len]; omega)]
    simp [txN, ub]
  · simp [fg]
  · intro pre x suf hx
    have hw := ub_fg h.1 pre x suf hx
    have hlen := congrArg List.length hx
    simp at hlen
    rw [dT (by omega), inR_nat (by omega)]
    simp only [hw, ub_one]
    rw [room_of (by simp [ub_len, fg]; omega), w64 (by omega) (by omega)]
    simp only [cond_true]
    congr 2
    simp [fg, ub]
  · rw [lt_end]; rfl
  · omega
theorem dtext_eq {n : Bool} {ds : List Nat} {e : Int} (h : rightP ds e) : dec_Text ⟨n, up ds, e⟩ = some (ub (txN n ds e)) := by
  have hl := right_low h
  have hn := (nums hl.1 hl.2.1).1
  have il := it_len hl.1 hl.2.1
  have tl := tx_len (n := n) h
  have sl : (sg n).length ≤ 1 := by cases n <;> simp [sg]
  unfold dec_Text
  rw [show (bif n then (bif room ([45] : List Int).length then (some ([45] : List Int)) else none) else (some ([] : List Int))) = some (up (sg n)) by cases n <;> rfl]
  simp only [Option.bind_some, up_len]
  have h3 : (bif decide ((ds.length : Int) = 0) then bif room ((sg n).length + ([48] : List Int).length) then some (up (sg n) ++ [48]) else none else some (up (sg n))) = some (up (sg n ++ if ds = [] then [48] else [])) := by
    by_cases h0 : ds = []
    · subst h0
      rw [dT (by rfl), room_of (by simp; omega)]
      simp [up]
    · rw [dF (by have := List.length_pos_iff.2 h0; omega), if_neg h0, List.append_nil]; rfl
  rw [h3]
  simp only [Option.bind_some]
  have al : (if ds = [] then [48] else [] : List Nat).length ≤ 1 := by split <;> simp
  rw [loop_fold ds (fun pre => ((pre.length : Int), up ((sg n ++ if ds = [] then [48] else []) ++ fg pre))) (up ((sg n ++ if ds = [] then [48] else []) ++ fg ds))]
  · simp only [Option.bind_some, hn, bytesS_up]
    have h4 : (sg n ++ if ds = [] then [48] else []) ++ fg ds = sg n ++ f0 ds := by
      by_cases h0 : ds = []
      · subst h0; simp [f0, fg]
      · rw [if_neg h0, fg_ne h0]; simp
    have fl : (f0 ds).length ≤ 1000 := by
      unfold f0
      split
      · simp
      · simp [fg]; exact hl.2.2
    rw [h4, room_of (by simp [ub_len]; omega), room_of (by simp [ub_len]; omega)]
    simp [txN, ub]
  · simp [fg]
  · intro pre x suf hx
    have hw := ub_fg h.1 pre x suf hx
    have hlen := congrArg List.length hx
    simp at hlen
    rw [dT (by omega), inR_nat (by omega)]
    simp only [hw]
    rw [room_of (by simp [up_len, fg]; omega), w64 (by omega) (by omega)]
    simp only [cond_true]
    congr 2
    simp [fg, up]
  · rw [lt_end]; rfl
  · omega


/-! What the program reads. -/
theorem getD_mid {p r : List UInt8} {b : UInt8} : (p ++ b :: r).getD ((p.length : Int)).toNat 0 = b := by simp
def eatV (c : Int) (n : Nat) : List UInt8 → Bool × Int
  | [] => (false, (n : Int))
  | b :: _ => if (b.toNat : Int) = c then (true, ((n + 1 : Nat) : Int)) else (false, (n : Int))
def nextV : List UInt8 → Int × Bool
  | [] => (0, false)
  | b :: _ => if 48 ≤ b.toNat ∧ b.toNat ≤ 57 then (((b.toNat - 48 : Nat) : Int), true) else (0, false)
theorem eat_eq (c : Int) (p r : List UInt8) (hl : (p ++ r).length ≤ 100000) : dec_reader__eat_s0 c (p ++ r) (p.length : Int) = some (eatV c p.length r) := by
  unfold dec_reader__eat_s0 eatV
  cases r with
  | nil => rw [dT (by simp)]; rfl
  | cons b r =>
    simp at hl
    rw [dF (by simp; omega), inR_mid]
    simp only [getD_mid, cond_true, cond_false]
    by_cases hc : (b.toNat : Int) = c
    · rw [dF (not_not_intro hc), if_pos hc]
      simp only [Option.bind_some, cond_false, joinX]
      rw [w64 (by omega) (by omega)]; rfl
    · rw [dT hc, if_neg hc]; rfl
theorem eatV_yes {c : Int} {n : Nat} {b : UInt8} {r : List UInt8} (h : (b.toNat : Int) = c) : eatV c n (b :: r) = (true, ((n + 1 : Nat) : Int)) := by
  show (if (b.toNat : Int) = c then _ else _) = _
  rw [if_pos h]
theorem eatV_no {c : Int} {n : Nat} {r : List UInt8} (h : ∀ b r', r = b :: r' → (b.toNat : Int) ≠ c) : eatV c n r = (false, (n : Int)) := by
  cases r with
  | nil => rfl
  | cons b r =>
    show (if (b.toNat : Int) = c then _ else _) = _
    rw [if_neg (h b r rfl)]
theorem eatV_or (c : Int) (n : Nat) (r : List UInt8) : (∃ b r', r = b :: r' ∧ (b.toNat : Int) = c ∧ eatV c n r = (true, ((n + 1 : Nat) : Int))) ∨ ((∀ b r', r = b :: r' → (b.toNat : Int) ≠ c) ∧ eatV c n r = (false, (n : Int))) := by
  by_cases h : ∃ b r', r = b :: r' ∧ (b.toNat : Int) = c
  · obtain ⟨b, r', rfl, hb⟩ := h
    exact .inl ⟨b, r', rfl, hb, eatV_yes hb⟩
  · have h2 : ∀ b r', r = b :: r' → (b.toNat : Int) ≠ c := fun b r' e hb => h ⟨b, r', e, hb⟩
    exact .inr ⟨h2, eatV_no h2⟩
theorem next_eq (p r : List UInt8) (hl : (p ++ r).length ≤ 100000) : dec_reader__next_s0 (p ++ r) (p.length : Int) = some (nextV r) := by
  unfold dec_reader__next_s0 nextV
  cases r with
  | nil => rw [dT (by simp)]; rfl
  | cons b r =>
    simp at hl
    rw [dF (by simp; omega), inR_mid]
    simp only [getD_mid, cond_true, cond_false]
    by_cases c1 : (b.toNat : Int) < 48
    · rw [dT c1, if_neg (by omega)]; rfl
    · rw [dF c1]
      by_cases c2 : (b.toNat : Int) > 57
      · rw [dT c2, if_neg (by omega)]; rfl
      · rw [dF c2, if_pos (by omega)]
        simp only [Option.bind_some, cond_false, joinX]
        rw [w8 (by omega) (by omega)]
        congr 2; omega
theorem nextV_yes {b : UInt8} {r : List UInt8} (h : 48 ≤ b.toNat ∧ b.toNat ≤ 57) : nextV (b :: r) = (((b.toNat - 48 : Nat) : Int), true) := by
  show (if 48 ≤ b.toNat ∧ b.toNat ≤ 57 then _ else _) = _
  rw [if_pos h]
theorem nextV_no {b : UInt8} {r : List UInt8} (h : ¬ (48 ≤ b.toNat ∧ b.toNat ≤ 57)) : nextV (b :: r) = (0, false) := by
  show (if 48 ≤ b.toNat ∧ b.toNat ≤ 57 then _ else _) = _
  rw [if_neg h]
def sd (n : Bool) (ds : List Nat) : Stt := if ds = [] then .S n else .D n ds
/-- May this figure follow? -/
def may (ds : List Nat) (b : Nat) : Prop := 48 ≤ b ∧ b ≤ 57 ∧ ds.length < 1000 ∧ ¬ (b = 48 ∧ ds.length = 999)
theorem sd_step {n : Bool} {ds : List Nat} {b : Nat} (h : may ds b) (h0 : ds = [] → b ≠ 48) : stp (sd n ds) b = some (sd n (ds ++ [b - 48])) := by
  obtain ⟨h1, h2, h3, h4⟩ := h
  have e : sd n (ds ++ [b - 48]) = .D n (ds ++ [b - 48]) := by unfold sd; rw [if_neg (by simp)]
  rw [e]
  by_cases hd : ds = []
  · subst hd
    have := h0 rfl
    show stpS n b = _
    unfold stpS
    rw [if_neg this, if_pos (by omega)]; rfl
  · unfold sd
    rw [if_neg hd]
    simp only [stp]
    rw [if_neg (by omega), if_pos ⟨h1, h2, h3, h4⟩]
theorem fig_loop {s : List UInt8} (hl : s.length ≤ 100000) (F : Int × List Int → Option ((Int × List Int) ⊕ (Int × List Int)))
    (hgo : ∀ p b r ds, s = p ++ b :: r → may ds b.toNat → F ((p.length : Int), up ds) = some (.inl (((p.length + 1 : Nat) : Int), up (ds ++ [b.toNat - 48]))))
    (hend : ∀ p r ds, s = p ++ r → ds.length ≤ 1000 → (∀ b r', r = b :: r' → ¬ may ds b.toNat) → F ((p.length : Int), up ds) = some (.inr ((p.length : Int), up ds))) (n : Bool) :
    ∀ (r p : List UInt8) (ds : List Nat) (m : Nat), s = p ++ r → ds.length ≤ 1000 → r.length < m → (ds = [] → ∀ b r', r = b :: r' → b.toNat ≠ 48) →
      ∃ q r' ds', r = q ++ r' ∧ ds'.length ≤ 1000 ∧ (∀ b r'', r' = b :: r'' → ¬ may ds' b.toNat) ∧ run (sd n ds) (nat q) = some (sd n ds') ∧ loopN F m ((p.length : Int), up ds) = some ((((p ++ q).length : Nat) : Int), up ds') := by
  intro r
  induction r with
  | nil =>
    intro p ds m hs hd hm h0
    obtain ⟨m, rfl⟩ : ∃ q, m = q + 1 := ⟨m - 1, by omega⟩
    exact ⟨[], [], ds, rfl, hd, fun b r' h => (by cases h), rfl, by rw [loopN_out (hend p [] ds hs hd (fun b r' h => (by cases h)))]; simp⟩
  | cons b r ih =>
    intro p ds m hs hd hm h0
    obtain ⟨m, rfl⟩ : ∃ q, m = q + 1 := ⟨m - 1, by omega⟩
    by_cases hb : may ds b.toNat
    · have h1 : (ds ++ [b.toNat - 48]).length ≤ 1000 := by have := hb.2.2.1; simp; omega
      obtain ⟨q, r', ds', e1, e2, e3, e4, e5⟩ := ih (p ++ [b]) (ds ++ [b.toNat - 48]) m (by rw [hs]; simp) h1 (by simp at hm; omega) (fun h => by simp at h)
      refine ⟨b :: q, r', ds', by rw [e1]; rfl, e2, e3, ?_, ?_⟩
      · show run (sd n ds) (b.toNat :: nat q) = _
        simp only [run]
        rw [sd_step hb (fun h => h0 h b r rfl)]
        exact e4
      · rw [loopN_next (hgo p b r ds hs hb)]
        have hp : ((p.length + 1 : Nat) : Int) = (((p ++ [b]).length : Nat) : Int) := by simp
        rw [hp, e5]
        simp
    · have hne : ∀ b' r', b :: r = b' :: r' → ¬ may ds b'.toNat := fun b' r' h => by
        cases h; exact hb
      exact ⟨[], b :: r, ds, rfl, hd, hne, rfl, by rw [loopN_out (hend p (b :: r) ds hs hd hne)]; simp⟩
theorem up_len0 {ds : List Nat} : decide ((ds.length : Int) = 0) = decide (ds = []) := by
  by_cases h : ds = []
  · subst h; rfl
  · rw [dF h, dF (by have := List.length_pos_iff.2 h; omega)]
/-- The figures. -/
theorem figs_read (n : Bool) (p r : List UInt8) (hl : (p ++ r).length ≤ 100000) : ∃ q r' ds, r = q ++ r' ∧
    ((dec_reader__figures_s0 (p ++ r) (p.length : Int) = some ([], true, (((p ++ q).length : Nat) : Int)) ∧ ds = [] ∧ run (.S n) (nat q) = some (.Z n)) ∨
     (dec_reader__figures_s0 (p ++ r) (p.length : Int) = some (up ds, decide (ds ≠ [] ∧ ds.getLast? ≠ some 0), (((p ++ q).length : Nat) : Int)) ∧ run (.S n) (nat q) = some (sd n ds) ∧
        (∀ b r'', r' = b :: r'' → ¬ may ds b.toNat ∧ (ds = [] → b.toNat ≠ 48)))) := by
  unfold dec_reader__figures_s0
  rw [eat_eq 48 p r hl]
  simp only [Option.bind_some]
  by_cases h48 : ∃ b r1, r = b :: r1 ∧ b.toNat = 48
  · obtain ⟨b, r1, rfl, hb⟩ := h48
    refine ⟨[b], r1, [], rfl, .inl ⟨?_, rfl, ?_⟩⟩
    · rw [eatV_yes (by omega)]
      simp
    · show run (.S n) [b.toNat] = _
      rw [hb]; rfl
  · have hne : ∀ b r', r = b :: r' → b.toNat ≠ 48 := fun b r' h hb => h48 ⟨b, r', h, hb⟩
    have he : eatV 48 p.length r = (false, (p.length : Int)) := eatV_no fun b r' h hb => hne b r' h (by omega)
    rw [he]
    simp only [cond_false]
    generalize hF : (fun (s195 : Int × (List Int)) => (bif (decide ((s195.2.length : Int) < 1000)) then (Option.bind (dec_reader__next_s0 (p ++ r) s195.1) fun y321 => (Option.bind (Option.bind (bif (!y321.2) then (some true) else (bif (decide (y321.1 = 0)) then (some ((decide ((s195.2.length : Int) = 999)))) else (some false))) fun (s358 : Bool) => (bif s358 then (some (.inr (.inr (s195.1, s195.2)))) else (some (.inl ())))) (joinX fun (s347 : Unit) => (bif room (s195.2.length + ([y321.1] : List Int).length) then (some (.inl ((IntKind.wrap .i64 (s195.1 + 1)), (s195.2 ++ ([y321.1] : List Int))))) else none)))) else (some (.inr (s195.1, s195.2))) : Option ((Int × List Int) ⊕ (Int × List Int)))) = F
    obtain ⟨q, r', ds, e1, e2, e3, e4, e5⟩ := fig_loop (s := p ++ r) hl F (by
      intro p1 b r1 ds hs hm
      obtain ⟨m1, m2, m3, m4⟩ := hm
      subst hF
      rw [hs] at hl ⊢
      have hl' := hl
      simp at hl'
      simp only [up_len]
      rw [dT (by omega), next_eq p1 (b :: r1) hl, nextV_yes ⟨m1, m2⟩]
      simp only [Option.bind_some, cond_true, Bool.not_true, cond_false]
      have hc : (bif decide (((b.toNat - 48 : Nat) : Int) = 0) then some (decide ((ds.length : Int) = 999)) else some false) = some false := by
        by_cases h : ((b.toNat - 48 : Nat) : Int) = 0
        · rw [dT h, dF (by omega)]; rfl
        · rw [dF h]; rfl
      rw [hc]
      simp only [Option.bind_some, cond_false, joinX]
      rw [room_of (by simp; omega), w64 (by omega) (by omega), up_append]; rfl) (by
      intro p1 r1 ds hs hd hm
      subst hF
      rw [hs] at hl ⊢
      simp only [up_len]
      by_cases hlt : (ds.length : Int) < 1000
      · rw [dT hlt, next_eq p1 r1 hl]
        cases r1 with
        | nil => rfl
        | cons b r1 =>
          have hb := hm b r1 rfl
          by_cases hd2 : 48 ≤ b.toNat ∧ b.toNat ≤ 57
          · rw [nextV_yes hd2]
            simp only [Option.bind_some, cond_true]
            have h4 : b.toNat = 48 ∧ ds.length = 999 := Decidable.byContradiction fun h => hb ⟨hd2.1, hd2.2, by omega, h⟩
            simp only [Bool.not_true, cond_false]
            rw [dT (by omega), dT (by omega)]; rfl
          · rw [nextV_no hd2]; rfl
      · rw [dF hlt]; rfl) n r p [] big rfl (by simp) (by simp at hl; unfold big; omega) (fun _ => hne)
    refine ⟨q, r', ds, e1, .inr ⟨?_, e4, fun b r'' h => ⟨e3 b r'' h, fun h0 => ?_⟩⟩⟩
    · have e5' : loopN F big ((p.length : Int), []) = some ((((p ++ q).length : Nat) : Int), up ds) := e5
      rw [e5']
      simp only [Option.bind_some, up_len]
      by_cases h0 : ds = []
      · subst h0; rfl
      · have hpos := List.length_pos_iff.2 h0
        rw [dT (by omega), w64 (by omega) (by omega), inR_int (by omega) (by omega)]
        simp only [cond_true, Option.bind_some]
        rcases List.eq_nil_or_concat ds with h1 | ⟨a, c, h1⟩
        · exact absurd h1 h0
        · rw [List.concat_eq_append] at h1
          subst h1
          have e : (((a ++ [c]).length : Nat) : Int) - 1 = (a.length : Int) := by simp
          rw [e, up_last]
          congr 3
          simp
    · subst h0
      have hq : q = [] := by
        cases q with
        | nil => rfl
        | cons x q =>
          exfalso
          have hi := run_ok _ (st := sd n []) trivial e4
          have h2 := congrArg List.length hi.2
          simp [sd, tx, nat] at h2
      subst hq
      rw [h] at e1
      exact hne b r'' e1


def xs (n : Bool) (ds : List Nat) (d : Bool) (k : Nat) : Stt := if k = 0 then (if d = true then .M n ds else .E n ds) else .X n ds d k
def mayP (k b : Nat) : Prop := 48 ≤ b ∧ b ≤ 57 ∧ k * 10 + (b - 48) ≤ 1000 ∧ ¬ (k = 0 ∧ b = 48)
theorem xs_step {n d : Bool} {ds : List Nat} {k b : Nat} (h : mayP k b) (h0 : ds ≠ []) : stp (xs n ds d k) b = some (xs n ds d (k * 10 + (b - 48))) := by
  obtain ⟨h1, h2, h3, h4⟩ := h
  have e : xs n ds d (k * 10 + (b - 48)) = .X n ds d (k * 10 + (b - 48)) := by unfold xs; rw [if_neg (by omega)]
  rw [e]
  by_cases hk : k = 0
  · subst hk
    cases d with
    | true =>
      show (if 49 ≤ b ∧ b ≤ 57 then some (Stt.X n ds true (b - 48)) else none) = _
      rw [if_pos (by omega)]; simp
    | false =>
      show (if b = 48 then some (Stt.O n ds) else if ds = [] then none else if b = 45 then some (Stt.M n ds) else if 49 ≤ b ∧ b ≤ 57 then some (Stt.X n ds false (b - 48)) else none) = _
      rw [if_neg (by omega), if_neg h0, if_neg (by omega), if_pos (by omega)]; simp
  · unfold xs
    rw [if_neg hk]
    simp only [stp]
    rw [if_pos ⟨h1, h2, h3⟩]
theorem xs_stop {n d : Bool} {ds : List Nat} {k b : Nat} (h : ¬ mayP k b) (h1 : d = false → k = 0 → b ≠ 48 ∧ b ≠ 45) : stp (xs n ds d k) b = none := by
  by_cases hk : k = 0
  · subst hk
    cases d with
    | true =>
      show (if 49 ≤ b ∧ b ≤ 57 then some (Stt.X n ds true (b - 48)) else none) = _
      rw [if_neg]
      intro hc
      exact h ⟨by omega, by omega, by omega, by omega⟩
    | false =>
      obtain ⟨h2, h3⟩ := h1 rfl rfl
      show (if b = 48 then some (Stt.O n ds) else if ds = [] then none else if b = 45 then some (Stt.M n ds) else if 49 ≤ b ∧ b ≤ 57 then some (Stt.X n ds false (b - 48)) else none) = _
      rw [if_neg h2]
      split
      · rfl
      · rw [if_neg (fun hc => h ⟨by omega, by omega, by omega, by omega⟩)]
  · unfold xs
    rw [if_neg hk]
    simp only [stp]
    rw [if_neg]
    intro hc
    exact h ⟨hc.1, hc.2.1, hc.2.2, by omega⟩
theorem pow_loop {s : List UInt8} (hl : s.length ≤ 100000) {v : Nat → Int} (F : Int × Int → Option ((Int × Int) ⊕ (Int × Bool × Int)))
    (hgo : ∀ p b r k, s = p ++ b :: r → k ≤ 1000 → mayP k b.toNat → F ((k : Int), (p.length : Int)) = some (.inl (((k * 10 + (b.toNat - 48) : Nat) : Int), ((p.length + 1 : Nat) : Int))))
    (hend : ∀ p r k, s = p ++ r → k ≤ 1000 → (∀ b r', r = b :: r' → ¬ mayP k b.toNat) → F ((k : Int), (p.length : Int)) = some (.inr (v k, decide (0 < k), (p.length : Int)))) (n d : Bool) {ds : List Nat} (h0 : ds ≠ []) :
    ∀ (r p : List UInt8) (k : Nat) (m : Nat), s = p ++ r → k ≤ 1000 → r.length < m →
      ∃ q r' k', r = q ++ r' ∧ k' ≤ 1000 ∧ (∀ b r'', r' = b :: r'' → ¬ mayP k' b.toNat) ∧ (k' = 0 → q = []) ∧ run (xs n ds d k) (nat q) = some (xs n ds d k') ∧ loopN F m ((k : Int), (p.length : Int)) = some (v k', decide (0 < k'), (((p ++ q).length : Nat) : Int)) := by
  intro r
  induction r with
  | nil =>
    intro p k m hs hk hm
    obtain ⟨m, rfl⟩ : ∃ q, m = q + 1 := ⟨m - 1, by omega⟩
    exact ⟨[], [], k, rfl, hk, fun b r' h => (by cases h), fun _ => rfl, rfl, by rw [loopN_out (hend p [] k hs hk (fun b r' h => (by cases h)))]; simp⟩
  | cons b r ih =>
    intro p k m hs hk hm
    obtain ⟨m, rfl⟩ : ∃ q, m = q + 1 := ⟨m - 1, by omega⟩
    by_cases hb : mayP k b.toNat
    · obtain ⟨q, r', k', e1, e2, e3, e6, e4, e5⟩ := ih (p ++ [b]) (k * 10 + (b.toNat - 48)) m (by rw [hs]; simp) hb.2.2.1 (by simp at hm; omega)
      refine ⟨b :: q, r', k', by rw [e1]; rfl, e2, e3, ?_, ?_, ?_⟩
      · intro hk0
        have hq := e6 hk0
        subst hq
        cases e4' : run (xs n ds d (k * 10 + (b.toNat - 48))) (nat []) with
        | none => rw [e4'] at e4; cases e4
        | some st =>
          exfalso
          have e7 : xs n ds d (k * 10 + (b.toNat - 48)) = xs n ds d k' := Option.some.inj e4
          obtain ⟨b1, b2, b3, b4⟩ := hb
          unfold xs at e7
          rw [if_neg (by omega), if_pos hk0] at e7
          cases d <;> cases e7
      · show run (xs n ds d k) (b.toNat :: nat q) = _
        simp only [run]
        rw [xs_step hb h0]
        exact e4
      · rw [loopN_next (hgo p b r k hs hk hb)]
        have hp : ((p.length + 1 : Nat) : Int) = (((p ++ [b]).length : Nat) : Int) := by simp
        rw [hp, e5]
        simp
    · have hne : ∀ b' r', b :: r = b' :: r' → ¬ mayP k b'.toNat := fun b' r' h => by
        cases h; exact hb
      exact ⟨[], b :: r, k, rfl, hk, hne, fun _ => rfl, rfl, by rw [loopN_out (hend p (b :: r) k hs hk hne)]; simp⟩
theorem side_yes (f : Int × Int → Option (Int × Bool × Int)) (y : Int) (z : Option (Int × Bool × Int)) (h : f (-1, y) = z) : Option.bind (bif (true, y).1 then (some (((-1) : Int), (true, y).2)) else (some (1, (true, y).2))) f = z := h
theorem side_no (f : Int × Int → Option (Int × Bool × Int)) (y : Int) (z : Option (Int × Bool × Int)) (h : f (1, y) = z) : Option.bind (bif (false, y).1 then (some (((-1) : Int), (false, y).2)) else (some (1, (false, y).2))) f = z := h
/-- The power. What it hands back is what has been read accepts. -/
theorem pow_read (n : Bool) (ds : List Nat) (p r : List UInt8) (hl : (p ++ r).length ≤ 100000) : ∃ q r' st e ok, r = q ++ r' ∧ run (.E n ds) (nat q) = some st ∧ (∀ b r'', r' = b :: r'' → stp st b.toNat = none) ∧
    dec_reader__power_s0 (decide (ds = [])) (p ++ r) (p.length : Int) = some (e, ok, (((p ++ q).length : Nat) : Int)) ∧ (ok = true → acc st = some (n, ds, e)) ∧ (ok = false → acc st = none) := by
  unfold dec_reader__power_s0
  rw [eat_eq 48 p r hl]
  simp only [Option.bind_some]
  rcases eatV_or 48 p.length r with ⟨b, r1, rfl, hb, he⟩ | ⟨hne, he⟩
  · rw [he]
    refine ⟨[b], r1, .O n ds, 0, true, rfl, ?_, fun _ _ _ => rfl, by simp, fun _ => rfl, fun h => (by cases h)⟩
    show run (.E n ds) [b.toNat] = _
    rw [run_one]
    simp only [stp]
    rw [if_pos (by omega)]
  · rw [he]
    simp only [cond_false]
    by_cases h0 : ds = []
    · refine ⟨[], r, .E n ds, 0, false, rfl, rfl, ?_, by rw [dT h0]; simp, fun h => (by cases h), fun _ => rfl⟩
      intro b r'' h
      have := hne b r'' h
      simp only [stp]
      rw [if_neg (by omega), if_pos h0]
    · rw [dF h0]
      simp only [cond_false]
      have main : ∀ (d : Bool) (v : Int) (p1 r1 : List UInt8), v = (if d = true then (-1 : Int) else 1) → p ++ r = p1 ++ r1 → (d = false → ∀ b r', r1 = b :: r' → b.toNat ≠ 48 ∧ b.toNat ≠ 45) → ∃ q r' st e ok, r1 = q ++ r' ∧ run (xs n ds d 0) (nat q) = some st ∧ (∀ b r'', r' = b :: r'' → stp st b.toNat = none) ∧
          loopN (fun (s27 : Int × Int) => (Option.bind (dec_reader__next_s0 (p ++ r) s27.2) fun y162 => (Option.bind (Option.bind (bif (!y162.2) then (some true) else (bif (decide (s27.1 = 0)) then (bif (decide (y162.1 = 0)) then (some true) else (some ((decide (((IntKind.wrap .i64 ((IntKind.wrap .i64 (s27.1 * 10)) + (IntKind.wrap .i64 y162.1)))) > 1000))))) else (some ((decide (((IntKind.wrap .i64 ((IntKind.wrap .i64 (s27.1 * 10)) + (IntKind.wrap .i64 y162.1)))) > 1000)))))) fun (s208 : Bool) => (bif s208 then (some (.inr (.inr ((IntKind.wrap .i64 (v * s27.1)), (decide (s27.1 > 0)), s27.2)))) else (some (.inl ())))) (joinX fun (s194 : Unit) => (some (.inl ((IntKind.wrap .i64 ((IntKind.wrap .i64 (s27.1 * 10)) + (IntKind.wrap .i64 y162.1))), (IntKind.wrap .i64 (s27.2 + 1)))))))) : Int × Int → Option ((Int × Int) ⊕ (Int × Bool × Int))) big (0, (p1.length : Int)) = some (e, ok, (((p1 ++ q).length : Nat) : Int)) ∧ (ok = true → acc st = some (n, ds, e)) ∧ (ok = false → acc st = none) := by
        intro d v p1 r1 hv0 hs hc
        generalize hF : (fun (s27 : Int × Int) => (Option.bind (dec_reader__next_s0 (p ++ r) s27.2) fun y162 => (Option.bind (Option.bind (bif (!y162.2) then (some true) else (bif (decide (s27.1 = 0)) then (bif (decide (y162.1 = 0)) then (some true) else (some ((decide (((IntKind.wrap .i64 ((IntKind.wrap .i64 (s27.1 * 10)) + (IntKind.wrap .i64 y162.1)))) > 1000))))) else (some ((decide (((IntKind.wrap .i64 ((IntKind.wrap .i64 (s27.1 * 10)) + (IntKind.wrap .i64 y162.1)))) > 1000)))))) fun (s208 : Bool) => (bif s208 then (some (.inr (.inr ((IntKind.wrap .i64 (v * s27.1)), (decide (s27.1 > 0)), s27.2)))) else (some (.inl ())))) (joinX fun (s194 : Unit) => (some (.inl ((IntKind.wrap .i64 ((IntKind.wrap .i64 (s27.1 * 10)) + (IntKind.wrap .i64 y162.1))), (IntKind.wrap .i64 (s27.2 + 1)))))))) : Int × Int → Option ((Int × Int) ⊕ (Int × Bool × Int))) = F
        obtain ⟨q, r', k, e1, e2, e3, e6, e4, e5⟩ := pow_loop (s := p ++ r) hl (v := fun k => if d = true then -(k : Int) else k) F (by
          intro p2 b r2 k hs hk hm
          subst hF
          obtain ⟨m1, m2, m3, m4⟩ := hm
          rw [hs] at hl ⊢
          have hl' := hl
          simp at hl'
          simp only
          rw [next_eq p2 (b :: r2) hl, nextV_yes ⟨m1, m2⟩]
          simp only [Option.bind_some, Bool.not_true, cond_false]
          rw [w64 (n := (k : Int) * 10) (by omega) (by omega), w64 (n := ((b.toNat - 48 : Nat) : Int)) (by omega) (by omega), w64 (n := (k : Int) * 10 + ((b.toNat - 48 : Nat) : Int)) (by omega) (by omega), w64 (n := (p2.length : Int) + 1) (by omega) (by omega)]
          have hcc : (bif decide ((k : Int) = 0) then (bif decide (((b.toNat - 48 : Nat) : Int) = 0) then some true else some (decide ((k : Int) * 10 + ((b.toNat - 48 : Nat) : Int) > 1000))) else some (decide ((k : Int) * 10 + ((b.toNat - 48 : Nat) : Int) > 1000))) = some false := by
            rw [dF (show ¬ ((k : Int) * 10 + ((b.toNat - 48 : Nat) : Int) > 1000) by omega)]
            by_cases h1 : (k : Int) = 0
            · rw [dT h1, dF (by omega)]; rfl
            · rw [dF h1]; rfl
          rw [hcc]
          simp only [Option.bind_some, cond_false, joinX]
          rw [show (k : Int) * 10 + ((b.toNat - 48 : Nat) : Int) = ((k * 10 + (b.toNat - 48) : Nat) : Int) by omega, show (p2.length : Int) + 1 = ((p2.length + 1 : Nat) : Int) by omega]) (by
          intro p2 r2 k hs hk hm
          subst hF
          rw [hs] at hl ⊢
          simp only
          rw [next_eq p2 r2 hl]
          have hv : IntKind.wrap .i64 (v * (k : Int)) = if d = true then -(k : Int) else k := by
            rw [hv0]
            cases d with
            | true => simp; exact w64 (by omega) (by omega)
            | false => simp; exact w64 (by omega) (by omega)
          rw [hv]
          have hgt : decide ((k : Int) > 0) = decide (0 < k) := by
            by_cases h : 0 < k
            · rw [dT h, dT (by omega)]
            · rw [dF h, dF (by omega)]
          rw [hgt]
          cases r2 with
          | nil => rfl
          | cons b r2 =>
            have hb := hm b r2 rfl
            by_cases hd2 : 48 ≤ b.toNat ∧ b.toNat ≤ 57
            · rw [nextV_yes hd2]
              simp only [Option.bind_some, Bool.not_true, cond_false]
              rw [w64 (n := (k : Int) * 10) (by omega) (by omega), w64 (n := ((b.toNat - 48 : Nat) : Int)) (by omega) (by omega), w64 (n := (k : Int) * 10 + ((b.toNat - 48 : Nat) : Int)) (by omega) (by omega)]
              by_cases h1 : (k : Int) = 0
              · rw [dT h1]
                by_cases h2 : ((b.toNat - 48 : Nat) : Int) = 0
                · rw [dT h2]; rfl
                · exfalso; exact hb ⟨hd2.1, hd2.2, by omega, by omega⟩
              · rw [dF h1, dT (show (k : Int) * 10 + ((b.toNat - 48 : Nat) : Int) > 1000 by
                  apply Decidable.byContradiction
                  intro hc
                  exact hb ⟨hd2.1, hd2.2, by omega, by omega⟩)]; rfl
            · rw [nextV_no hd2]; rfl) n d h0 r1 p1 0 big hs (by omega) (by have := congrArg List.length hs; simp at this hl; unfold big; omega)
        refine ⟨q, r', xs n ds d k, _, _, e1, e4, ?_, e5, ?_, ?_⟩
        · intro b r'' h
          refine xs_stop (e3 b r'' h) (fun hd hk => ?_)
          have hq := e6 hk
          subst hq
          exact hc hd b r'' (by rw [e1, h]; rfl)
        · intro hk
          have hk := of_decide_eq_true hk
          unfold xs
          rw [if_neg (by omega)]; rfl
        · intro hk
          have hk := of_decide_eq_false hk
          unfold xs
          rw [if_pos (by omega)]
          cases d <;> rfl
      rw [eat_eq 45 p r hl]
      simp only [Option.bind_some]
      rcases eatV_or 45 p.length r with ⟨b, r1, rfl, hb, he⟩ | ⟨hne2, he⟩
      · rw [he]
        obtain ⟨q, r', st, e, ok, e1, e2, e3, e4, e5, e6⟩ := main true (-1) (p ++ [b]) r1 rfl (by simp) (fun h => (by cases h))
        refine ⟨b :: q, r', st, e, ok, by rw [e1]; rfl, ?_, e3, ?_, e5, e6⟩
        · show run (.E n ds) (b.toNat :: nat q) = _
          simp only [run, stp]
          rw [if_neg (by omega), if_neg h0, if_pos (by omega)]
          exact e2
        · have hp : ((p.length + 1 : Nat) : Int) = (((p ++ [b]).length : Nat) : Int) := by simp
          have hq : (((p ++ b :: q).length : Nat) : Int) = (((p ++ [b] ++ q).length : Nat) : Int) := by simp
          rw [hq, hp]
          exact side_yes _ _ _ e4
      · rw [he]
        obtain ⟨q, r', st, e, ok, e1, e2, e3, e4, e5, e6⟩ := main false 1 p r rfl rfl (fun _ b r' h => ⟨by have := hne b r' h; omega, by have := hne2 b r' h; omega⟩)
        refine ⟨q, r', st, e, ok, e1, e2, e3, ?_, e5, e6⟩
        exact side_no _ _ _ e4


def halts (st : Stt) (r : List UInt8) : Prop := ∀ b r', r = b :: r' → stp st b.toNat = none
/-- What follows a side, or none. -/
theorem lift {s : List UInt8} (n : Bool) (p0 r0 : List UInt8) (hs : s = p0 ++ r0) (h : (n = true ∧ nat p0 = [45]) ∨ (n = false ∧ p0 = [] ∧ ∀ b r', r0 = b :: r' → b.toNat ≠ 45)) {q r' : List UInt8} {st1 : Stt}
    (hq : r0 = q ++ r') (hr : run (.S n) (nat q) = some st1) (hh : halts st1 r') : ∃ st, run .A (nat (p0 ++ q)) = some st ∧ halts st r' ∧ acc st = acc st1 := by
  rcases h with ⟨rfl, hp⟩ | ⟨rfl, rfl, hb⟩
  · refine ⟨st1, ?_, hh, rfl⟩
    rw [nat_app, run_append, hp]
    exact hr
  · cases q with
    | nil =>
      cases hr
      refine ⟨.A, rfl, ?_, rfl⟩
      intro b r'' h
      have h1 := hh b r'' h
      have h2 := hb b r'' (by rw [hq, h]; rfl)
      simp only [stp] at h1 ⊢
      rw [if_neg h2]; exact h1
    | cons b q =>
      refine ⟨st1, ?_, hh, rfl⟩
      have h2 := hb b (q ++ r') (by rw [hq]; rfl)
      have hr' : run (.S false) (b.toNat :: nat q) = some st1 := hr
      show run .A (b.toNat :: nat q) = some st1
      simp only [run, stp] at hr' ⊢
      rw [if_neg h2]; exact hr'
/-- What comes of a number's text from behind the side on. -/
def restV (n : Bool) (s : List UInt8) (at_ : Int) : Option (St23 × Bool × Int) :=
  (Option.bind (dec_reader__figures_s0 s at_) fun y4 => (Option.bind (Option.bind (bif (!y4.2.1) then (some (true, y4.2.2)) else (Option.bind (dec_reader__eat_s0 101 s y4.2.2) fun y47 => (some ((!y47.1), y47.2)))) fun (s39 : Bool × Int) => (bif s39.1 then (some (.inr ((⟨false, ([] : List Int), 0⟩ : St23), false, s39.2))) else (some (.inl s39.2)))) (joinX fun (s28 : Int) => (Option.bind (dec_reader__power_s0 ((decide ((y4.1.length : Int) = 0))) s s28) fun y54 => (Option.bind (Option.bind (bif (!y54.2.1) then (some true) else (some ((decide (y54.2.2 < (s.length : Int)))))) fun (s80 : Bool) => (bif s80 then (some (.inr ((⟨false, ([] : List Int), 0⟩ : St23), false, y54.2.2))) else (some (.inl ())))) (joinX fun (s72 : Unit) => (some ((⟨n, y4.1, y54.1⟩ : St23), true, y54.2.2))))))))
theorem num_rest (s : List UInt8) : dec_reader__number_s0 s 0 = Option.bind (dec_reader__eat_s0 45 s 0) fun y1 => restV y1.1 s y1.2 := rfl
def outV (st : Stt) (p r : List UInt8) : St23 × Bool × Int :=
  match acc st, r with
  | some (n, ds, e), [] => (⟨n, up ds, e⟩, true, (p.length : Int))
  | _, _ => (⟨false, [], 0⟩, false, (p.length : Int))
theorem outV_none {st : Stt} {p r : List UInt8} (h : acc st = none) : outV st p r = (⟨false, [], 0⟩, false, (p.length : Int)) := by
  unfold outV; rw [h]
theorem rest_read (n : Bool) (p r : List UInt8) (hl : (p ++ r).length ≤ 100000) : ∃ q r' st, r = q ++ r' ∧ run (.S n) (nat q) = some st ∧ halts st r' ∧ restV n (p ++ r) (p.length : Int) = some (outV st (p ++ q) r') := by
  obtain ⟨q, r1, ds, rfl, hor⟩ := figs_read n p r hl
  -- behind the figures, where an e may follow
  have main : ∀ (st : Stt), run (.S n) (nat q) = some st → stp st 101 = some (.E n ds) → (∀ b r'', r1 = b :: r'' → b.toNat ≠ 101 → stp st b.toNat = none) → acc st = none →
      dec_reader__figures_s0 (p ++ (q ++ r1)) (p.length : Int) = some (up ds, true, (((p ++ q).length : Nat) : Int)) →
      ∃ q' r' st, q ++ r1 = q' ++ r' ∧ run (.S n) (nat q') = some st ∧ halts st r' ∧ restV n (p ++ (q ++ r1)) (p.length : Int) = some (outV st (p ++ q') r') := by
    intro st hr hE hno hacc hf
    unfold restV
    rw [hf]
    simp only [Option.bind_some, Bool.not_true, cond_false, up_len]
    have hl2 : ((p ++ q) ++ r1).length ≤ 100000 := by rw [List.append_assoc]; exact hl
    rw [show p ++ (q ++ r1) = (p ++ q) ++ r1 by rw [List.append_assoc], eat_eq 101 (p ++ q) r1 hl2]
    rcases eatV_or 101 (p ++ q).length r1 with ⟨b, r2, rfl, hb, he⟩ | ⟨hne, he⟩
    · rw [he]
      have hl3 : ((p ++ q ++ [b]) ++ r2).length ≤ 100000 := by simpa using hl2
      obtain ⟨q2, r3, st2, e, ok, e1, e2, e3, e4, e5, e6⟩ := pow_read n ds (p ++ q ++ [b]) r2 hl3
      have hp : (((p ++ q).length + 1 : Nat) : Int) = (((p ++ q ++ [b]).length : Nat) : Int) := by simp; omega
      have hs : (p ++ q) ++ b :: r2 = (p ++ q ++ [b]) ++ r2 := by simp
      have h101 : b.toNat = 101 := by omega
      refine ⟨q ++ [b] ++ q2, r3, st2, by rw [e1]; simp, ?_, e3, ?_⟩
      · rw [nat_app, nat_app, run_append, run_append, hr]
        show ((run st [b.toNat]).bind fun st => run st (nat q2)) = _
        rw [run_one, h101, hE]
        exact e2
      · rw [hp, hs]
        simp only [Option.bind_some, Bool.not_true, cond_false, joinX]
        rw [up_len0, e4]
        simp only [Option.bind_some]
        rw [show p ++ (q ++ [b] ++ q2) = p ++ q ++ [b] ++ q2 by simp]
        cases ok with
        | false =>
          rw [outV_none (e6 rfl)]; rfl
        | true =>
          have ha := e5 rfl
          unfold outV
          rw [ha]
          cases r3 with
          | nil =>
            rw [dF (by rw [e1]; simp)]; rfl
          | cons c r3 =>
            rw [dT (by rw [e1]; simp; omega)]; rfl
    · rw [he]
      refine ⟨q, r1, st, rfl, hr, ?_, by rw [outV_none hacc]; rfl⟩
      intro b r'' h
      exact hno b r'' h (by have := hne b r'' h; omega)
  rcases hor with ⟨hf, rfl, hr⟩ | ⟨hf, hr, hno⟩
  · exact main (.Z n) hr rfl (fun b r'' _ hb => if_neg hb) rfl hf
  · by_cases hok : ds ≠ [] ∧ ds.getLast? ≠ some 0
    · rw [dT hok] at hf
      have e : sd n ds = .D n ds := if_neg hok.1
      rw [e] at hr
      refine main (.D n ds) hr (if_pos ⟨rfl, hok.2⟩) (fun b r'' h hb => ?_) rfl hf
      have := (hno b r'' h).1
      simp only [stp]
      rw [if_neg (fun hc => hb hc.1), if_neg (show ¬ (48 ≤ b.toNat ∧ b.toNat ≤ 57 ∧ ds.length < 1000 ∧ ¬ (b.toNat = 48 ∧ ds.length = 999)) from this)]
    · rw [dF hok] at hf
      refine ⟨q, r1, sd n ds, rfl, hr, ?_, ?_⟩
      · intro b r'' h
        obtain ⟨h1, h2⟩ := hno b r'' h
        by_cases h0 : ds = []
        · subst h0
          show stpS n b.toNat = none
          unfold stpS
          rw [if_neg (h2 rfl), if_neg (fun hc => h1 ⟨by omega, hc.2, by simp, by simp⟩)]
        · unfold sd
          rw [if_neg h0]
          simp only [stp]
          rw [if_neg (fun hc => hok ⟨h0, hc.2⟩), if_neg (show ¬ (48 ≤ b.toNat ∧ b.toNat ≤ 57 ∧ ds.length < 1000 ∧ ¬ (b.toNat = 48 ∧ ds.length = 999)) from h1)]
      · unfold restV
        rw [hf, outV_none (by unfold sd; split <;> rfl)]; rfl
/-- What the program reads of a text. -/
theorem dread_eq (s : List UInt8) (hl : s.length ≤ 100000) : ∃ p r st, s = p ++ r ∧ run .A (nat p) = some st ∧ halts st r ∧
    ((∃ n ds e, r = [] ∧ acc st = some (n, ds, e) ∧ dec_Read s = some (⟨n, up ds, e⟩, 0, 0)) ∨ ((r ≠ [] ∨ acc st = none) ∧ dec_Read s = some (⟨false, [], 0⟩, (p.length : Int), 2))) := by
  have hnum : ∃ p r st, s = p ++ r ∧ run .A (nat p) = some st ∧ halts st r ∧ ∃ st1, acc st = acc st1 ∧ dec_reader__number_s0 s 0 = some (outV st1 p r) := by
    rw [num_rest]
    have he0 := eat_eq 45 [] s hl
    have he0' : dec_reader__eat_s0 45 s 0 = some (eatV 45 0 s) := he0
    rw [he0']
    rcases eatV_or 45 0 s with ⟨b, r1, rfl, hb, he⟩ | ⟨hne, he⟩
    · rw [he]
      obtain ⟨q, r', st1, e1, e2, e3, e4⟩ := rest_read true [b] r1 hl
      obtain ⟨st, a1, a2, a3⟩ := lift true [b] r1 (s := b :: r1) rfl (.inl ⟨rfl, by show [b.toNat] = [45]; congr 1; omega⟩) e1 e2 e3
      exact ⟨[b] ++ q, r', st, by rw [e1]; rfl, a1, a2, st1, a3, e4⟩
    · rw [he]
      obtain ⟨q, r', st1, e1, e2, e3, e4⟩ := rest_read false [] s hl
      obtain ⟨st, a1, a2, a3⟩ := lift false [] s (s := s) rfl (.inr ⟨rfl, rfl, fun b r' h => by have := hne b r' h; omega⟩) e1 e2 e3
      exact ⟨[] ++ q, r', st, by rw [e1]; rfl, a1, a2, st1, a3, e4⟩
  obtain ⟨p, r, st, h1, h2, h3, st1, h4, h5⟩ := hnum
  refine ⟨p, r, st, h1, h2, h3, ?_⟩
  unfold dec_Read
  rw [h5]
  unfold outV
  cases ha : acc st with
  | none =>
    rw [ha] at h4
    rw [← h4]
    exact .inr ⟨.inr rfl, rfl⟩
  | some x =>
    obtain ⟨n, ds, e⟩ := x
    rw [ha] at h4
    rw [← h4]
    cases r with
    | nil => exact .inl ⟨n, ds, e, rfl, rfl, rfl⟩
    | cons b r => exact .inr ⟨.inl (by simp), rfl⟩


/-! What the document's answer reads. -/
def isD (b : UInt8) : Prop := 48 ≤ b.toNat ∧ b.toNat ≤ 57
instance (b : UInt8) : Decidable (isD b) := inferInstanceAs (Decidable (_ ∧ _))
def dg (q : List UInt8) : List Nat := q.map fun b => b.toNat - 48
def gF (a : Nat) (b : UInt8) : Nat := if isD b then a * 10 + (b.toNat - 48) else a
def foldV (x : List UInt8) : Nat := x.foldl gF 0
def dsV (q : List UInt8) : List Nat := if dg q = [0] then [] else dg q
def eV (x : List UInt8) : Int := if x.head? = some 45 then -(foldV x : Int) else foldV x
theorem fold_snoc (x : List UInt8) (b : UInt8) : foldV (x ++ [b]) = gF (foldV x) b := by simp [foldV]
theorem fold_lt (x : List UInt8) : ∀ k, x.length ≤ k → foldV x < 10 ^ k := by
  have key : ∀ (n : Nat) (x : List UInt8), x.length = n → ∀ k, n ≤ k → foldV x < 10 ^ k := by
    intro n
    induction n with
    | zero => intro x h k _; rw [List.eq_nil_of_length_eq_zero h]; exact Nat.pow_pos (by decide)
    | succ n ih =>
      intro x h k hk
      rcases List.eq_nil_or_concat x with h1 | ⟨p, c, h1⟩
      · subst h1; simp at h
      · rw [List.concat_eq_append] at h1
        subst h1
        have h2 := ih p (by simp at h; omega) (k - 1) (by omega)
        have h3 : (10 : Nat) ^ k = 10 ^ (k - 1) * 10 := by rw [← Nat.pow_succ]; congr 1; omega
        rw [fold_snoc, h3]
        unfold gF
        split
        · rename_i hd
          obtain ⟨d1, d2⟩ := hd
          omega
        · omega
  intro k h
  exact key x.length x rfl k h
theorem dg_len (q : List UInt8) : (dg q).length = q.length := by simp [dg]
theorem getD_at {p r : List UInt8} {b : UInt8} {n : Nat} (h : p.length = n) : (p ++ b :: r).getD ((n : Int)).toNat 0 = b := by subst h; simp
theorem all_run {n : Bool} {p q r : List UInt8} (hp : p = if n = true then [45] else []) (hn : n = false → ∀ b r', q ++ r = b :: r' → b.toNat ≠ 45)
    (hq : ∀ b ∈ q, isD b) (hr : ∀ b r', r = b :: r' → ¬ isD b) (hl : (p ++ (q ++ r)).length ≤ 300) :
    ((∀ b x, r = b :: x → b.toNat ≠ 101 ∨ 6 < r.length) → exergueref05_all (p ++ (q ++ r)) = some (⟨false, [], 0⟩, false)) ∧
    (∀ c x, r = c :: x → c.toNat = 101 → r.length ≤ 6 → ∃ b, exergueref05_all (p ++ (q ++ r)) = some (⟨n, up (dsV q), eV x⟩, b) ∧ (b = true ↔ rightP (dsV q) (eV x) ∧ nat (p ++ (q ++ r)) = txN n (dsV q) (eV x))) := by
  have hsign : (Option.bind (bif (decide (((p ++ (q ++ r)).length : Int) > 0)) then (bif inR 0 (p ++ (q ++ r)).length then (some ((decide ((((((p ++ (q ++ r)).getD (0 : Int).toNat 0).toNat : Nat) : Int)) = 45)))) else none) else (some false)) fun (s26 : Bool) => (bif s26 then (some ((1 : Int), true)) else (some (0, false)))) = some ((p.length : Int), n) := by
    cases n with
    | true =>
      subst hp
      simp only [if_true]
      rw [dT (by simp; omega), inR_int (by omega) (by simp; omega)]
      rfl
    | false =>
      subst hp
      simp only [Bool.false_eq_true, if_false, List.nil_append]
      cases hqr : q ++ r with
      | nil => rfl
      | cons b t =>
        have hb := hn rfl b t hqr
        rw [dT (by simp <;> omega), inR_int (by omega) (by simp <;> omega)]
        simp only [cond_true]
        rw [dF (show ¬ (((((b :: t).getD (0 : Int).toNat 0).toNat : Nat) : Int)) = 45 by show ¬ ((b.toNat : Nat) : Int) = 45; omega)]
        rfl
  have hll := hl
  simp only [List.length_append] at hll
  have hloop : ∀ (F : Int × List Int → Option ((Int × List Int) ⊕ (Int × List Int))),
      (∀ pre b suf, q = pre ++ b :: suf → F (((p ++ pre).length : Nat), up (dg pre)) = some (.inl (((p ++ (pre ++ [b])).length : Nat), up (dg (pre ++ [b]))))) →
      F (((p ++ q).length : Nat), up (dg q)) = some (.inr (((p ++ q).length : Nat), up (dg q))) →
      loopN F big ((p.length : Int), []) = some ((((p ++ q).length : Nat) : Int), up (dg q)) := fun F h1 h2 =>
    loop_fold q (fun pre => ((((p ++ pre).length : Nat) : Int), up (dg pre))) _ (by simp [dg, up]) h1 h2 (by omega)
  have hhead : ∀ (F : Int × List Int → Option ((Int × List Int) ⊕ (Int × List Int))), (F = fun (s229 : Int × (List Int)) => (Option.bind (Option.bind (bif (decide (s229.1 < ((p ++ (q ++ r)).length : Int))) then (bif inR s229.1 (p ++ (q ++ r)).length then (bif (decide ((((((p ++ (q ++ r)).getD (s229.1 : Int).toNat 0).toNat : Nat) : Int)) ≥ 48)) then (bif inR s229.1 (p ++ (q ++ r)).length then (some ((decide ((((((p ++ (q ++ r)).getD (s229.1 : Int).toNat 0).toNat : Nat) : Int)) ≤ 57)))) else none) else (some false)) else none) else (some false)) fun (s394 : Bool) => (bif s394 then (some (.inl ())) else (some (.inr (.inr (s229.1, s229.2)))))) (joinX fun (s381 : Unit) => (bif inR s229.1 (p ++ (q ++ r)).length then (bif room (s229.2.length + (([(IntKind.wrap .u8 ((((((p ++ (q ++ r)).getD (s229.1 : Int).toNat 0).toNat : Nat) : Int)) - 48))] : List Int)).length) then (some (.inl ((IntKind.wrap .i64 (s229.1 + 1)), (s229.2 ++ (([(IntKind.wrap .u8 ((((((p ++ (q ++ r)).getD (s229.1 : Int).toNat 0).toNat : Nat) : Int)) - 48))] : List Int)))))) else none) else none)))) →
      loopN F big ((p.length : Int), []) = some ((((p ++ q).length : Nat) : Int), up (dg q)) := by
    intro F hF
    refine hloop F ?_ ?_
    · intro pre b suf hx
      subst hF
      have hb : isD b := hq b (by rw [hx]; simp)
      obtain ⟨b1, b2⟩ := hb
      have hs : p ++ (q ++ r) = (p ++ pre) ++ b :: (suf ++ r) := by rw [hx]; simp
      have hlx := congrArg List.length hs
      simp only [List.length_append, List.length_cons] at hlx
      have hql := congrArg List.length hx
      simp at hql
      simp only [hs]
      rw [dT (by simp; omega), inR_mid]
      simp only [getD_mid, cond_true, up_len]
      rw [dT (show ((b.toNat : Nat) : Int) ≥ 48 by omega), dT (show ((b.toNat : Nat) : Int) ≤ 57 by omega)]
      simp only [cond_true, Option.bind_some, joinX]
      rw [room_of (by simp [dg]; omega), w8 (by omega) (by omega), w64 (by omega) (by simp only [List.length_append]; omega)]
      simp only [cond_true]
      have e1 : (((p ++ pre).length : Nat) : Int) + 1 = (((p ++ (pre ++ [b])).length : Nat) : Int) := by simp; omega
      have e2 : up (dg pre) ++ [((b.toNat : Nat) : Int) - 48] = up (dg (pre ++ [b])) := by
        simp [dg, up]; omega
      rw [e1, e2]
    · subst hF
      cases r with
      | nil =>
        simp only [List.append_nil]
        rw [dF (by omega)]; rfl
      | cons b t =>
        have hb := hr b t rfl
        have hs : p ++ (q ++ b :: t) = (p ++ q) ++ b :: t := by simp
        simp only [hs]
        rw [dT (by simp; omega), inR_mid]
        simp only [getD_mid, cond_true]
        by_cases h1 : ((b.toNat : Nat) : Int) ≥ 48
        · rw [dT h1, dF (show ¬ ((b.toNat : Nat) : Int) ≤ 57 from fun h2 => hb ⟨by omega, by omega⟩)]; rfl
        · rw [dF h1]; rfl
  constructor
  · intro hbad
    unfold exergueref05_all
    rw [hsign]
    simp only [Option.bind_some]
    rw [hhead _ rfl]
    simp only [Option.bind_some]
    cases r with
    | nil => rw [dT (by simp)]; rfl
    | cons b t =>
      have hb := hbad b t rfl
      have hs : p ++ (q ++ b :: t) = (p ++ q) ++ b :: t := by simp
      simp only [hs]
      rw [dF (by simp; omega), inR_mid]
      simp only [getD_mid, cond_true, cond_false]
      by_cases h1 : b.toNat = 101
      · have h2 : 6 < (b :: t).length := by rcases hb with h | h; exact absurd h1 h; exact h
        rw [dF (by omega), w64 (by simp; omega) (by simp at hll ⊢; omega), dT (by simp at h2 ⊢; omega)]; rfl
      · rw [dT (by omega)]; rfl
  · intro c x hrc hc hl6
    subst hrc
    have hfx := fold_lt x 5 (by simp at hl6; omega)
    have hel : -100000 ≤ eV x ∧ eV x ≤ 100000 := by unfold eV; split <;> omega
    have hxl : x.length ≤ 5 := by simp at hl6; omega
    have hds : (dsV q).length ≤ 300 := by unfold dsV; split <;> simp [dg]; omega
    have hs : p ++ (q ++ c :: x) = (p ++ q) ++ c :: x := by simp
    have hs2 : p ++ (q ++ c :: x) = (p ++ q ++ [c]) ++ x := by simp
    obtain ⟨y, hy1, hy2⟩ := rright_eq (neg := n) (E := eV x) (l := dsV q) (by omega)
    unfold exergueref05_all
    rw [hsign]
    simp only [Option.bind_some]
    rw [hhead _ rfl]
    simp only [Option.bind_some, up_len]
    have hc1 : (bif (decide ((((p ++ q).length : Nat) : Int) ≥ ((p ++ (q ++ c :: x)).length : Int))) then (some true) else (bif inR (((p ++ q).length : Nat) : Int) (p ++ (q ++ c :: x)).length then (bif (decide (¬ (((((p ++ (q ++ c :: x)).getD ((((p ++ q).length : Nat) : Int)).toNat 0).toNat : Nat) : Int)) = 101)) then (some true) else (some ((decide (((IntKind.wrap .i64 (((p ++ (q ++ c :: x)).length : Int) - (((p ++ q).length : Nat) : Int)))) > 6))))) else none)) = some false := by
      rw [hs, dF (by simp; omega), inR_mid, getD_mid, dF (by omega), w64 (by simp; omega) (by simp at hll ⊢; omega), dF (by simp; omega)]; rfl
    rw [hc1]
    simp only [Option.bind_some, cond_false, joinX]
    have hc2 : (Option.bind (bif (decide (((dg q).length : Int) = 1)) then (bif inR 0 (dg q).length then (bif inR 0 (dg q).length then (some ((decide ((nth (up (dg q)) 0) = 0)))) else none) else none) else (some false)) fun (s494 : Bool) => (bif s494 then (some ([] : List Int)) else (some (up (dg q))))) = some (up (dsV q)) := by
      unfold dsV
      by_cases h1 : (dg q).length = 1
      · obtain ⟨a, ha⟩ : ∃ a, dg q = [a] := List.length_eq_one_iff.1 h1
        rw [ha]
        by_cases h0 : a = 0
        · subst h0; rfl
        · rw [if_neg (by simpa using h0), dT (by rfl)]
          simp only [show inR 0 [a].length = true from rfl, cond_true]
          rw [dF (show ¬ nth (up [a]) 0 = 0 by show ¬ (a : Int) = 0; omega)]; rfl
      · rw [dF (by omega), if_neg (by intro h; rw [h] at h1; exact h1 rfl)]; rfl
    rw [hc2]
    simp only [Option.bind_some]
    have hat : IntKind.wrap .i64 ((((p ++ q).length : Nat) : Int) + 1) = (((p ++ q ++ [c]).length : Nat) : Int) := by
      rw [w64 (by omega) (by simp only [List.length_append]; omega)]; simp; omega
    rw [hat]
    have hc3 : (bif (decide ((((p ++ q ++ [c]).length : Nat) : Int) < ((p ++ (q ++ c :: x)).length : Int))) then (bif inR (((p ++ q ++ [c]).length : Nat) : Int) (p ++ (q ++ c :: x)).length then (some ((decide (((((p ++ (q ++ c :: x)).getD ((((p ++ q ++ [c]).length : Nat) : Int)).toNat 0).toNat : Nat) : Int) = 45)))) else none) else (some false)) = some (decide (x.head? = some 45)) := by
      rw [hs2]
      cases x with
      | nil => rw [dF (by simp)]; rfl
      | cons b t =>
        rw [dT (by simp; omega), inR_mid, getD_mid]
        simp only [cond_true, List.head?_cons, Option.some.injEq]
        by_cases hb : b = 45
        · subst hb; rw [dT (show ((UInt8.toNat 45 : Nat) : Int) = 45 from rfl), dT rfl]
        · rw [dF hb, dF]
          intro h
          exact hb (UInt8.toNat_inj.1 (by show b.toNat = 45; omega))
    rw [hc3]
    simp only [Option.bind_some]
    rw [loop_fold x (fun pre => ((((p ++ q ++ [c] ++ pre).length : Nat) : Int), (foldV pre : Int))) (foldV x : Int)]
    · simp only [Option.bind_some]
      have hc4 : (bif decide (x.head? = some 45) then some (IntKind.wrap .i64 (0 - (foldV x : Int))) else some (foldV x : Int)) = some (eV x) := by
        unfold eV
        by_cases h : x.head? = some 45
        · rw [dT h, if_pos h, w64 (by omega) (by omega)]; simp
        · rw [dF h, if_neg h]; rfl
      rw [hc4]
      simp only [Option.bind_some, hy1]
      cases y with
      | false => exact ⟨false, rfl, ⟨fun h => (by cases h), fun h => absurd (hy2.2 h.1) (by simp)⟩⟩
      | true =>
        have hrt := hy2.1 rfl
        rw [ltext_eq hrt]
        refine ⟨ub (txN n (dsV q) (eV x)) == (p ++ (q ++ c :: x)), rfl, ?_⟩
        rw [beq_iff_eq]
        constructor
        · intro h
          refine ⟨hrt, ?_⟩
          rw [← h, nat_ub (tx_bytes hrt)]
        · intro h
          rw [← h.2, ub_nat]
    · simp [foldV]
    · intro pre b suf hx
      have hs3 : p ++ (q ++ c :: x) = (p ++ q ++ [c] ++ pre) ++ b :: suf := by rw [hx]; simp
      have hql := congrArg List.length hx
      simp at hql
      have hfp := fold_lt pre 5 (by omega)
      simp only [hs3]
      rw [dT (by simp; omega), inR_mid]
      simp only [getD_mid, cond_true]
      rw [fold_snoc]
      have e1 : IntKind.wrap .i64 ((((p ++ q ++ [c] ++ pre).length : Nat) : Int) + 1) = (((p ++ q ++ [c] ++ (pre ++ [b])).length : Nat) : Int) := by
        rw [w64 (by omega) (by simp only [List.length_append, List.length_singleton]; omega)]; simp; omega
      rw [e1]
      by_cases hd : isD b
      · obtain ⟨d1, d2⟩ := id hd
        rw [dT (show ((b.toNat : Nat) : Int) ≥ 48 by omega), dT (show ((b.toNat : Nat) : Int) ≤ 57 by omega)]
        simp only [cond_true, Option.bind_some]
        rw [w8 (by omega) (by omega), w64 (n := (foldV pre : Int) * 10) (by omega) (by omega), w64 (n := ((b.toNat : Nat) : Int) - 48) (by omega) (by omega), w64 (n := (foldV pre : Int) * 10 + (((b.toNat : Nat) : Int) - 48)) (by omega) (by omega)]
        unfold gF
        rw [if_pos hd, show (foldV pre : Int) * 10 + (((b.toNat : Nat) : Int) - 48) = ((foldV pre * 10 + (b.toNat - 48) : Nat) : Int) by omega]
      · unfold gF
        rw [if_neg hd]
        by_cases h1 : ((b.toNat : Nat) : Int) ≥ 48
        · rw [dT h1, dF (show ¬ ((b.toNat : Nat) : Int) ≤ 57 from fun h2 => hd ⟨by omega, by omega⟩)]; rfl
        · rw [dF h1]; rfl
    · simp only [hs2]
      rw [lt_end]; rfl
    · omega


def good (s : List UInt8) : Prop := ∃ n ds e, rightP ds e ∧ nat s = txN n ds e
theorem ub_mem {l : List Nat} (h : bytesP l) {b : UInt8} (hb : b ∈ ub l) : b.toNat ∈ l := by
  obtain ⟨x, hx, rfl⟩ := List.mem_map.1 hb
  have := h x hx
  rw [UInt8.toNat_ofNat']
  rw [show x % 2 ^ 8 = x by omega]; exact hx
theorem dg_ub {ds : List Nat} (h : digP ds) : dg (ub (fg ds)) = ds := by
  unfold dg ub fg
  rw [List.map_map, List.map_map]
  conv => rhs; rw [← List.map_id ds]
  apply List.map_congr_left
  intro x hx
  have := h x hx
  simp; omega
theorem fold_fg : ∀ (m : List Nat), digP m → foldV (ub (fg m)) = vN m := by
  refine nsnoc_ind (fun _ => rfl) (fun m x ih h => ?_)
  have hx := h x (by simp)
  have hb : (UInt8.ofNat (x + 48)).toNat = x + 48 := by rw [UInt8.toNat_ofNat']; omega
  rw [fg_app, ub_app]
  show foldV (ub (fg m) ++ [UInt8.ofNat (x + 48)]) = _
  rw [fold_snoc, ih (dig_left h), vN_snoc]
  unfold gF
  rw [if_pos (show isD _ from ⟨by omega, by omega⟩), hb]; omega
theorem fold_45 (x : List UInt8) : foldV (45 :: x) = foldV x := rfl
theorem eV_it (e : Int) : eV (ub (it e)) = e := by
  have hd : foldV (ub (dt e.natAbs)) = e.natAbs := by
    unfold dt
    rw [fold_fg _ (digs_dig _), vN_digs]
  unfold it
  by_cases h1 : e < 0
  · rw [if_pos h1]
    show eV (45 :: ub (dt e.natAbs)) = e
    unfold eV
    rw [if_pos (show (45 :: ub (dt e.natAbs)).head? = some 45 from rfl), fold_45, hd]; omega
  · rw [if_neg h1]
    by_cases h2 : e = 0
    · subst h2; rfl
    · rw [if_neg h2]
      unfold eV
      rw [if_neg, hd]
      · omega
      · intro hh
        have hm : (45 : UInt8) ∈ ub (dt e.natAbs) := List.mem_of_mem_head? hh
        have := ub_mem (dt_bytes _) hm
        obtain ⟨y, hy, hyy⟩ := List.mem_map.1 this
        have : y + 48 = 45 := hyy
        omega
theorem all_of {s : List UInt8} {n : Bool} {ds : List Nat} {e : Int} (h : rightP ds e) (hs : nat s = txN n ds e) (hl : s.length ≤ 300) : exergueref05_all s = some (⟨n, up ds, e⟩, true) := by
  have hr := right_low h
  have hs2 : s = ub (sg n) ++ (ub (f0 ds) ++ (101 :: ub (it e))) := by
    rw [← ub_nat s, hs]
    simp [txN, ub]
  have hil := it_len hr.1 hr.2.1
  have f48 : ∀ x ∈ f0 ds, 48 ≤ x ∧ x ≤ 57 := by
    intro x hx
    unfold f0 at hx
    split at hx
    · simp at hx; omega
    · obtain ⟨y, hy, rfl⟩ := List.mem_map.1 hx
      have := h.1 y hy
      exact ⟨by omega, by omega⟩
  have fne : ∃ x t, f0 ds = x :: t := by
    unfold f0
    split
    · exact ⟨_, _, rfl⟩
    · rename_i h0
      cases ds with
      | nil => exact absurd rfl h0
      | cons x t => exact ⟨_, _, rfl⟩
  have hdsv : dsV (ub (f0 ds)) = ds := by
    unfold dsV
    by_cases h0 : ds = []
    · subst h0; rfl
    · rw [fg_ne h0, dg_ub h.1, if_neg]
      intro hh
      have := (h.2.2 h0).2.2.2.1
      rw [hh] at this
      exact this rfl
  obtain ⟨-, ha⟩ := all_run (n := n) (p := ub (sg n)) (q := ub (f0 ds)) (r := 101 :: ub (it e)) (by cases n <;> rfl) (fun hn b r' hb hc => by
      obtain ⟨x, t, hx⟩ := fne
      rw [hx] at hb
      have hb0 : UInt8.ofNat x = b := (List.cons.inj hb).1
      have hx2 := f48 x (by rw [hx]; simp)
      rw [← hb0, UInt8.toNat_ofNat'] at hc
      omega) (fun b hb => f48 _ (ub_mem (f0_bytes h.1) hb)) (fun b r' hb => by
      have : b = 101 := (List.cons.inj hb).1.symm
      subst this
      decide) (by rw [← hs2]; exact hl)
  obtain ⟨b, h1, h2⟩ := ha 101 (ub (it e)) rfl rfl (by simp [ub_len]; exact hil)
  rw [← hs2, hdsv, eV_it] at h1 h2
  rw [h1, h2.2 ⟨h, hs⟩]
theorem all_is {s : List UInt8} (hl : s.length ≤ 300) : ∃ d b, exergueref05_all s = some (d, b) ∧ (b = true → good s) := by
  have hdec : ∃ (n : Bool) (p rest : List UInt8), s = p ++ rest ∧ p = (if n = true then [45] else []) ∧ (n = false → ∀ b r', rest = b :: r' → b.toNat ≠ 45) := by
    cases s with
    | nil => exact ⟨false, [], [], rfl, rfl, fun _ b r' h => (by cases h)⟩
    | cons b t =>
      by_cases hb : b = 45
      · subst hb; exact ⟨true, [45], t, rfl, rfl, fun h => (by cases h)⟩
      · refine ⟨false, [], b :: t, rfl, rfl, fun _ c r' h hc => ?_⟩
        cases h
        exact hb (UInt8.toNat_inj.1 hc)
  obtain ⟨n, p, rest, hs, hp, hn⟩ := hdec
  have hqr : rest = rest.takeWhile (fun b => decide (isD b)) ++ rest.dropWhile (fun b => decide (isD b)) := List.takeWhile_append_dropWhile.symm
  generalize hq : rest.takeWhile (fun b => decide (isD b)) = q at hqr
  generalize hr : rest.dropWhile (fun b => decide (isD b)) = r at hqr
  have hq2 : ∀ b ∈ q, isD b := fun b hb => by
    rw [← hq] at hb
    have hall := List.all_takeWhile (l := rest) (p := fun b => decide (isD b))
    have := List.all_eq_true.1 hall b hb
    exact of_decide_eq_true this
  have hr2 : ∀ b r', r = b :: r' → ¬ isD b := fun b r' h hb => by
    have h1 : (rest.dropWhile (fun b => decide (isD b))).head? = some b := by rw [hr, h]; rfl
    have := List.head?_dropWhile_not (fun b => decide (isD b)) rest
    rw [h1] at this
    simp at this
    exact this hb
  obtain ⟨ha, hb⟩ := all_run hp (q := q) (r := r) (by rw [← hqr]; exact hn) hq2 hr2 (by rw [← hqr, ← hs]; exact hl)
  rw [← hqr, ← hs] at ha hb
  by_cases hgo : ∃ c x, r = c :: x ∧ c.toNat = 101 ∧ r.length ≤ 6
  · obtain ⟨c, x, h1, h2, h3⟩ := hgo
    obtain ⟨b, h4, h5⟩ := hb c x h1 h2 h3
    exact ⟨_, b, h4, fun h => ⟨n, _, _, (h5.1 h).1, (h5.1 h).2⟩⟩
  · refine ⟨_, false, ha (fun b x h => ?_), fun h => (by cases h)⟩
    by_cases hc : b.toNat = 101
    · exact .inr (by apply Decidable.byContradiction; intro h6; exact hgo ⟨b, x, h, hc, by omega⟩)
    · exact .inl hc
def tailsU : List (List UInt8) := [[], [49, 101, 48], [101, 48], [48], [49]]
theorem begins_eq {u : List UInt8} (hl : u.length ≤ 200) : ∃ b, exergueref05_begins u = some b ∧ (b = true ↔ ∃ t ∈ tailsU, good (u ++ t)) := by
  have ht3 : ∀ t ∈ tailsU, t.length ≤ 3 := by decide
  unfold exergueref05_begins
  rw [show ([([] : List UInt8), ([49, 101, 48] : List UInt8), ([101, 48] : List UInt8), ([48] : List UInt8), ([49] : List UInt8)] : List (List UInt8)) = tailsU from rfl]
  generalize hF : (fun (s60 : Int) => _) = F
  obtain ⟨o, h1, h2⟩ := loop_row (step := F) tailsU (fun pre => (pre.length : Int)) (fun pre => ∀ t ∈ pre, ¬ good (u ++ t)) (fun o => (o = .inr true ∧ ∃ t ∈ tailsU, good (u ++ t)) ∨ (o = .inl () ∧ ∀ t ∈ tailsU, ¬ good (u ++ t))) (s0 := 0) rfl (fun t ht => by cases ht) (by
    intro pre x suf hx hI
    subst hF
    have hxl : x.length ≤ 3 := ht3 x (by rw [hx]; simp)
    have hxm : x ∈ tailsU := by rw [hx]; simp
    have hlen : tailsU.length = 5 := rfl
    obtain ⟨d, b, ha, hb⟩ := all_is (s := u ++ x) (by simp; omega)
    simp only
    rw [hx] at hlen ⊢
    rw [lt_mid, inR_mid, nth_mid, room_of (by omega), ha]
    simp only [cond_true, Option.bind_some]
    cases b with
    | true => exact .inr ⟨_, rfl, .inl ⟨rfl, x, by simp, hb rfl⟩⟩
    | false =>
      refine .inl ⟨?_, ?_⟩
      · rw [cond_false, w_mid (x := x) (suf := suf) (by omega)]
      · intro t ht hg
        rcases List.mem_append.1 ht with h | h
        · exact hI t h hg
        · obtain rfl : t = x := by simpa using h
          obtain ⟨n, ds, e, r1, r2⟩ := hg
          have := all_of r1 r2 (by simp; omega)
          rw [ha] at this
          cases this) (fun hI => by
    subst hF
    refine ⟨.inl (), ?_, .inr ⟨rfl, hI⟩⟩
    simp only
    rw [lt_end]; rfl) (by decide)
  rw [h1]
  rcases h2 with ⟨rfl, h3⟩ | ⟨rfl, h3⟩
  · exact ⟨true, rfl, fun _ => h3, fun _ => rfl⟩
  · exact ⟨false, rfl, fun h => (by cases h), fun ⟨t, ht, hg⟩ => absurd hg (h3 t ht)⟩
theorem live_iff (u : List UInt8) : (∃ t ∈ tailsU, good (u ++ t)) ↔ ∃ st, run .A (nat u) = some st := by
  constructor
  · rintro ⟨t, -, n, ds, e, h1, h2⟩
    obtain ⟨st, h3, -⟩ := run_tx (n := n) h1
    rw [← h2, nat_app, run_append] at h3
    cases hr : run .A (nat u) with
    | none => rw [hr] at h3; cases h3
    | some st => exact ⟨st, rfl⟩
  · rintro ⟨st, h⟩
    obtain ⟨h1, h2⟩ := run_ok _ (st := .A) trivial h
    obtain ⟨t, ht, n, ds, e, h3, h4⟩ := live h1
    have h2 : tx st = nat u := h2
    rw [h2] at h4
    have hm : ∃ t' ∈ tailsU, nat t' = t := by
      simp only [List.mem_cons, List.not_mem_nil, or_false] at ht
      rcases ht with rfl | rfl | rfl | rfl | rfl
      · exact ⟨[], by decide, rfl⟩
      · exact ⟨[49, 101, 48], by decide, rfl⟩
      · exact ⟨[101, 48], by decide, rfl⟩
      · exact ⟨[48], by decide, rfl⟩
      · exact ⟨[49], by decide, rfl⟩
    obtain ⟨t', ht', rfl⟩ := hm
    exact ⟨t', ht', n, ds, e, h3, by rw [nat_app]; exact h4.symm⟩
/-- What the document's answer reads of a text. -/
theorem rread_eq {s p r : List UInt8} {st : Stt} (hl : s.length ≤ 100) (hs : s = p ++ r) (hr : run .A (nat p) = some st) (hh : halts st r) :
    (∀ n ds e, r = [] → acc st = some (n, ds, e) → exergueref05_Read s = some (⟨n, up ds, e⟩, 0, 0)) ∧ ((r ≠ [] ∨ acc st = none) → exergueref05_Read s = some (⟨false, [], 0⟩, (p.length : Int), 2)) := by
  have hi := run_ok _ (st := .A) trivial hr
  have hit : tx st = nat p := hi.2
  constructor
  · intro n ds e h0 ha
    subst h0
    obtain ⟨h1, h2⟩ := acc_ok hi.1 ha
    rw [List.append_nil] at hs
    subst hs
    unfold exergueref05_Read
    rw [all_of h1 (by rw [h2, hit]) (by omega)]; rfl
  · intro hno
    obtain ⟨d, b, ha, hb⟩ := all_is (s := s) (by omega)
    have hbf : b = false := by
      cases b with
      | false => rfl
      | true =>
        exfalso
        obtain ⟨n, ds, e, h1, h2⟩ := hb rfl
        obtain ⟨st2, h3, h4⟩ := run_tx (n := n) h1
        rw [← h2, hs, nat_app, run_append, hr] at h3
        cases r with
        | nil =>
          have : st = st2 := Option.some.inj h3
          subst this
          rcases hno with h | h
          · exact h rfl
          · rw [h] at h4; cases h4
        | cons c r =>
          have h5 := hh c r rfl
          have h3' : ((stp st c.toNat).bind fun st => run st (nat r)) = some st2 := h3
          rw [h5] at h3'
          cases h3'
    subst hbf
    unfold exergueref05_Read
    rw [ha]
    simp only [Option.bind_some, cond_false]
    have hsl := congrArg List.length hs
    simp at hsl
    rw [loop_fold p (fun pre => (pre.length : Int)) (p.length : Int) (s0 := 0) rfl]
    · rfl
    · intro pre x suf hx
      have hpl := congrArg List.length hx
      simp at hpl
      have hcut : cut s 0 ((pre.length : Int) + 1) = pre ++ [x] := by
        rw [hs, hx, show (pre.length : Int) + 1 = (((pre ++ [x]).length : Nat) : Int) by simp]
        simp only [cut, Int.toNat_natCast]
        rw [show pre ++ x :: suf ++ r = (pre ++ [x]) ++ (suf ++ r) by simp, List.take_left]; rfl
      obtain ⟨b, hb1, hb2⟩ := begins_eq (u := pre ++ [x]) (by simp; omega)
      have hbt : b = true := by
        refine hb2.2 ((live_iff _).2 ?_)
        have hr' := hr
        rw [hx, show pre ++ x :: suf = (pre ++ [x]) ++ suf by simp, nat_app, run_append] at hr'
        cases hq : run .A (nat (pre ++ [x])) with
        | none => rw [hq] at hr'; cases hr'
        | some st => exact ⟨st, rfl⟩
      subst hbt
      rw [dT (by omega), w64 (by omega) (by omega), inS_of (by omega) (by omega) (by omega), hcut, hb1]
      simp [joinX]
    · cases r with
      | nil => rw [dF (by simp at hsl; omega)]; rfl
      | cons c r =>
        simp at hsl
        have hcut : cut s 0 ((p.length : Int) + 1) = p ++ [c] := by
          rw [hs, show (p.length : Int) + 1 = (((p ++ [c]).length : Nat) : Int) by simp]
          simp only [cut, Int.toNat_natCast]
          rw [show p ++ c :: r = (p ++ [c]) ++ r by simp, List.take_left]; rfl
        obtain ⟨b, hb1, hb2⟩ := begins_eq (u := p ++ [c]) (by simp; omega)
        have hbf : b = false := by
          cases b with
          | false => rfl
          | true =>
            exfalso
            obtain ⟨st2, h⟩ := (live_iff _).1 (hb2.1 rfl)
            rw [nat_app, run_append, hr] at h
            have h' : run st [c.toNat] = some st2 := h
            rw [run_one, hh c r rfl] at h'
            cases h'
        subst hbf
        rw [dT (by omega), w64 (by omega) (by omega), inS_of (by omega) (by omega) (by omega), hcut, hb1]
        rfl
    · omega


end Go.Proofs.YtcldeecdhdcjdaaDoor
