/-
 What those functions come to, told by plain functions of lists and numbers. Conditions: as each theorem says.
-/
import Derived.Test.YtcmmjficmoflkaaGreatGc
import Derived.Test.YtcmmjficmoflkaaGreatSyZ
namespace Go.Proofs.YtcmmjficmoflkaaGreat
open Go Go.Sy Go.RowKit Go.ChangeShapes Go.WideShapes Go.ChangeAt
set_option linter.unusedVariables false
set_option linter.unusedSimpArgs false
set_option maxRecDepth 100000
set_option maxHeartbeats 4000000
/-! Figures and their worth. -/
def vN (l : List Nat) : Nat := l.foldl (fun a x => a * 10 + x) 0
theorem vN_snoc (l : List Nat) (x : Nat) : vN (l ++ [x]) = vN l * 10 + x := by simp [vN]
theorem nsnoc_ind {P : List Nat → Prop} (h0 : P []) (hs : ∀ l t, P l → P (l ++ [t])) : ∀ l, P l := by
 have key : ∀ (n : Nat) (l : List Nat), l.length = n → P l := by
  intro n
  induction n with
  | zero => intro l h; rw [List.eq_nil_of_length_eq_zero h]; exact h0
  | succ n ih =>
   intro l h
   rcases List.eq_nil_or_concat l with h1 | ⟨p, c, h1⟩
   ·subst h1; simp at h
   ·rw [List.concat_eq_append] at h1
    subst h1
    exact hs p c (ih p (by simp at h; omega))
 exact fun l => key _ l rfl
theorem vN_append (a : List Nat) : ∀ b, vN (a ++ b) = vN a * 10 ^ b.length + vN b := by
 refine nsnoc_ind (by simp [vN]) (fun b x ih => ?_)
 rw [← List.append_assoc, vN_snoc, ih, vN_snoc, List.length_append, List.length_singleton, Nat.pow_succ, Nat.add_mul, Nat.mul_assoc]; omega
theorem vN_cons (x : Nat) (l : List Nat) : vN (x :: l) = x * 10 ^ l.length + vN l := by
 have := vN_append [x] l
 simpa [vN] using this
def digP (l : List Nat) : Prop := ∀ x ∈ l, x ≤ 9
theorem dig_left {l m : List Nat} (h : digP (l ++ m)) : digP l := fun x hx => h x (List.mem_append_left _ hx)
theorem dig_right {l m : List Nat} (h : digP (l ++ m)) : digP m := fun x hx => h x (List.mem_append_right _ hx)
theorem dig_append {l m : List Nat} (h1 : digP l) (h2 : digP m) : digP (l ++ m) := fun x hx => by
 rcases List.mem_append.1 hx with h | h
 ·exact h1 x h
 ·exact h2 x h
theorem vN_lt : ∀ {l : List Nat}, digP l → vN l < 10 ^ l.length := by
 intro l
 induction l with
 | nil => intro _; simp [vN]
 | cons x l ih =>
  intro h
  have h1 := ih (fun y hy => h y (List.mem_cons_of_mem _ hy))
  have h2 := h x (List.mem_cons_self ..)
  have h3 : x * 10 ^ l.length ≤ 9 * 10 ^ l.length := Nat.mul_le_mul_right _ h2
  rw [vN_cons, List.length_cons, Nat.pow_succ]; omega
theorem vN_ge {x : Nat} {l : List Nat} (h : x ≠ 0) : 10 ^ l.length ≤ vN (x :: l) := by
 have : 1 * 10 ^ l.length ≤ x * 10 ^ l.length := Nat.mul_le_mul_right _ (by omega)
 rw [vN_cons]; omega
theorem vN_zeros (n : Nat) : vN (List.replicate n 0) = 0 := by
 induction n with
 | zero => rfl
 | succ n ih => rw [List.replicate_succ, vN_cons, ih]; simp
theorem vN_nines (n : Nat) : vN (List.replicate n 9) + 1 = 10 ^ n := by
 induction n with
 | zero => rfl
 | succ n ih => rw [List.replicate_succ, vN_cons, Nat.pow_succ, List.length_replicate]; omega
theorem vN_digit : ∀ (l : List Nat), digP l → ∀ j, vN l / 10 ^ j % 10 = if j < l.length then l.getD (l.length - 1 - j) 0 else 0 := by
 refine nsnoc_ind (fun _ j => by simp [vN]) (fun l x ih h j => ?_)
 have hx := h x (by simp)
 rw [vN_snoc]
 cases j with
 | zero =>
  simp
  omega
 | succ j =>
  have e : (vN l * 10 + x) / 10 ^ (j + 1) = vN l / 10 ^ j := by
   rw [Nat.pow_succ, Nat.mul_comm (10 ^ j), ← Nat.div_div_eq_div_mul]
   congr 1; omega
  rw [e, ih (dig_left h) j]
  by_cases hj : j < l.length
  ·rw [if_pos hj, if_pos (by simp; omega)]
   have e2 : (l ++ [x]).length - 1 - (j + 1) = l.length - 1 - j := by simp; omega
   rw [e2, List.getD_eq_getElem?_getD, List.getD_eq_getElem?_getD, List.getElem?_append_left (by omega)]
  ·rw [if_neg hj, if_neg (by simp; omega)]
def digsN (n : Nat) : List Nat := if h : n = 0 then [] else digsN (n / 10) ++ [n % 10]
termination_by n
decreasing_by omega
theorem digsN_zero : digsN 0 = [] := by rw [digsN]; rfl
theorem digsN_pos {n : Nat} (h : n ≠ 0) : digsN n = digsN (n / 10) ++ [n % 10] := by rw [digsN, dif_neg h]
theorem vN_digs (n : Nat) : vN (digsN n) = n := by
 induction n using Nat.strongRecOn with
 | _ n ih =>
  by_cases h : n = 0
  ·subst h; rw [digsN_zero]; rfl
  ·rw [digsN_pos h, vN_snoc, ih (n / 10) (by omega)]; omega
theorem digs_dig (n : Nat) : digP (digsN n) := by
 induction n using Nat.strongRecOn with
 | _ n ih =>
  by_cases h : n = 0
  ·subst h; rw [digsN_zero]; intro x hx; cases hx
  ·rw [digsN_pos h]
   exact dig_append (ih (n / 10) (by omega)) (fun x hx => by simp at hx; omega)
theorem digs_len {n : Nat} : ∀ k, n < 10 ^ k → (digsN n).length ≤ k := by
 intro k
 induction k generalizing n with
 | zero => intro h; obtain rfl : n = 0 := by simpa using h
           rw [digsN_zero]; simp
 | succ k ih =>
  intro h
  by_cases h0 : n = 0
  ·subst h0; rw [digsN_zero]; simp
  ·rw [digsN_pos h0]
   have := ih (n := n / 10) (by rw [Nat.pow_succ] at h; omega)
   simp; exact this
theorem vN_zero {l : List Nat} (h : vN l = 0) (hh : l.head? ≠ some 0) : l = [] := by
 cases l with
 | nil => rfl
 | cons x l =>
  have hx : x ≠ 0 := fun e => hh (by rw [e]; rfl)
  have := vN_ge (l := l) hx
  have := Nat.pow_pos (n := l.length) (show 0 < 10 by decide)
  omega
theorem digs_vN : ∀ l, digP l → l.head? ≠ some 0 → digsN (vN l) = l := by
 refine nsnoc_ind (fun _ _ => by rw [show vN [] = 0 from rfl, digsN_zero]) (fun l x ih h hh => ?_)
 have hx := h x (by simp)
 have hl : l.head? ≠ some 0 := by
  cases l with
  | nil => simp
  | cons y l => simpa using hh
 rw [vN_snoc]
 have hne : vN l * 10 + x ≠ 0 := by
  intro e
  have h1 : vN l = 0 := by omega
  have h2 : x = 0 := by omega
  have := vN_zero h1 hl
  subst this; subst h2
  exact hh rfl
 rw [digsN_pos hne]
 have e1 : (vN l * 10 + x) / 10 = vN l := by omega
 have e2 : (vN l * 10 + x) % 10 = x := by omega
 rw [e1, e2, ih (dig_left h) hl]
theorem vN_last {l : List Nat} (h : digP l) (hne : l ≠ []) (hl : l.getLast? ≠ some 0) : vN l % 10 ≠ 0 := by
 rcases List.eq_nil_or_concat l with h1 | ⟨p, c, h1⟩
 ·exact absurd h1 hne
 ·rw [List.concat_eq_append] at h1
  subst h1
  have := h c (by simp)
  have hc : c ≠ 0 := fun e => hl (by simp [e])
  rw [vN_snoc]; omega
def pw (m : Int) : Nat := 10 ^ (m + 3000).toNat
theorem pw_pos (m : Int) : 0 < pw m := Nat.pow_pos (by decide)
theorem pw_add {m : Int} (n : Nat) (h : -3000 ≤ m) : pw (m + n) = pw m * 10 ^ n := by
 unfold pw; rw [← Nat.pow_add]; congr 1; omega
theorem pw_le {m n : Int} (h1 : -3000 ≤ m) (h : m ≤ n) : pw m ≤ pw n := by
 unfold pw; exact Nat.pow_le_pow_right (by decide) (by omega)
theorem pw_succ {m : Int} (h : -3000 ≤ m) : pw (m + 1) = pw m * 10 := by
 have := pw_add (m := m) 1 h; simpa using this
def rightP (l : List Nat) (E : Int) : Prop := digP l ∧ (l = [] → E = 0) ∧ (l ≠ [] → l.length ≤ 1000 ∧ -1000 ≤ E ∧ E ≤ 1000 ∧ l.head? ≠ some 0 ∧ l.getLast? ≠ some 0)
def magN (l : List Nat) (E : Int) : Nat := vN l * pw E
theorem right_low {l : List Nat} {E : Int} (h : rightP l E) : -1000 ≤ E ∧ E ≤ 1000 ∧ l.length ≤ 1000 := by
 by_cases hl : l = []
 ·have := h.2.1 hl; subst hl; simp; omega
 ·have := h.2.2 hl; omega
theorem right_head {l : List Nat} {E : Int} (h : rightP l E) : l.head? ≠ some 0 := by
 by_cases hl : l = []
 ·subst hl; simp
 ·exact (h.2.2 hl).2.2.2.1
theorem right_same {l m : List Nat} {E G : Int} (h1 : rightP l E) (h2 : rightP m G) (h : magN l E = magN m G) : l = m ∧ E = G := by
 have key : ∀ {l m : List Nat} {E G : Int}, rightP l E → rightP m G → magN l E = magN m G → E ≤ G → l = m ∧ E = G := by
  intro l m E G h1 h2 h hle
  have l1 := right_low h1
  have l2 := right_low h2
  unfold magN at h
  obtain ⟨n, hn⟩ : ∃ n : Nat, G = E + n := ⟨(G - E).toNat, by omega⟩
  have hp := pw_add (m := E) n (by omega)
  rw [← hn] at hp
  rw [hp, Nat.mul_comm (pw E), ← Nat.mul_assoc] at h
  have hv : vN l = vN m * 10 ^ n := Nat.eq_of_mul_eq_mul_right (pw_pos E) h
  by_cases hl : l = []
  ·subst hl
   have h0 : vN m * 10 ^ n = 0 := by rw [← hv]; rfl
   have hm0 : vN m = 0 := by
    rcases Nat.mul_eq_zero.1 h0 with g | g
    ·exact g
    ·exact absurd g (by have := Nat.pow_pos (n := n) (show 0 < 10 by decide); omega)
   have hm := vN_zero hm0 (right_head h2)
   subst hm
   exact ⟨rfl, by rw [h1.2.1 rfl, h2.2.1 rfl]⟩
  ·have hlast := vN_last h1.1 hl (h1.2.2 hl).2.2.2.2
   have hn0 : n = 0 := by
    apply Decidable.byContradiction
    intro hne
    obtain ⟨q, rfl⟩ : ∃ q, n = q + 1 := ⟨n - 1, by omega⟩
    rw [Nat.pow_succ, ← Nat.mul_assoc] at hv
    omega
   subst hn0
   simp at hv hn
   refine ⟨?_, hn.symm⟩
   rw [← digs_vN l h1.1 (right_head h1), ← digs_vN m h2.1 (right_head h2), hv]
 rcases Int.le_total E G with hle | hle
 ·exact key h1 h2 h hle
 ·obtain ⟨a, b⟩ := key h2 h1 h.symm hle
  exact ⟨a.symm, b.symm⟩
/-! Parsers that always answer. -/
theorem loop_var {S O : Type} {step : S → Option (S ⊕ O)} (I : S → Prop) (μ : S → Nat) (post : O → Prop) {s0 : S} (h0 : I s0) (hb : μ s0 < 18446744073709551616)
  (hs : ∀ s, I s → (∃ s', step s = some (.inl s') ∧ I s' ∧ μ s' < μ s) ∨ ∃ o, step s = some (.inr o) ∧ post o) : ∃ o, loopN step big s0 = some o ∧ post o := by
 have key : ∀ m s, I s → μ s < m → ∃ o, loopN step m s = some o ∧ post o := by
  intro m
  induction m with
  | zero => intro s _ h; omega
  | succ m ih =>
   intro s hi hm
   rcases hs s hi with ⟨s', h1, h2, h3⟩ | ⟨o, h1, h2⟩
   ·rw [loopN_next h1]; exact ih s' h2 (by omega)
   ·exact ⟨o, loopN_out h1, h2⟩
 exact key big s0 h0 hb
def Tot {α : Type} (x : Option α) (p : α → Prop) : Prop := ∃ o, x = some o ∧ p o
theorem Tot.ret {α : Type} {a : α} {p : α → Prop} (h : p a) : Tot (some a) p := ⟨a, rfl, h⟩
theorem Tot.bind {α β : Type} {x : Option α} {k : α → Option β} {p : α → Prop} {q : β → Prop} (h : Tot x p) (hk : ∀ o, p o → Tot (k o) q) : Tot (Option.bind x k) q := by
 obtain ⟨o, rfl, h⟩ := h; exact hk o h
theorem Tot.ite {α : Type} {b : Bool} {t e : Option α} {p : α → Prop} (ht : b = true → Tot t p) (he : b = false → Tot e p) : Tot (bif b then t else e) p := by
 cases b with
 | true => exact ht rfl
 | false => exact he rfl
theorem Tot.yes {α : Type} {b : Bool} {t e : Option α} {p : α → Prop} (h : b = true) (ht : Tot t p) : Tot (bif b then t else e) p := by subst h; exact ht
theorem Tot.mono {α : Type} {x : Option α} {p q : α → Prop} (h : Tot x p) (hq : ∀ o, p o → q o) : Tot x q := by obtain ⟨o, h1, h2⟩ := h; exact ⟨o, h1, hq o h2⟩
def joinP {S X : Type} (k : S → Option X) (p : X → Prop) : S ⊕ X → Prop
 | .inl s => Tot (k s) p
 | .inr r => p r
theorem Tot.join {S X : Type} {x : Option (S ⊕ X)} {k : S → Option X} {p : X → Prop} (h : Tot x (joinP k p)) : Tot (Option.bind x (joinX k)) p := by
 obtain ⟨o, rfl, h⟩ := h
 cases o with
 | inl s => exact h
 | inr r => exact ⟨r, rfl, h⟩
theorem Tot.loop {S O : Type} {step : S → Option (S ⊕ O)} (I : S → Prop) (μ : S → Nat) {post : O → Prop} {s0 : S} (h0 : I s0) (hb : μ s0 < 18446744073709551616)
  (hs : ∀ s, I s → Tot (step s) (fun x => match x with | .inl s' => I s' ∧ μ s' < μ s | .inr o => post o)) : Tot (loopN step big s0) post := by
 refine loop_var I μ post h0 hb (fun s hi => ?_)
 obtain ⟨x, h1, h2⟩ := hs s hi
 cases x with
 | inl s' => exact .inl ⟨s', h1, h2⟩
 | inr o => exact .inr ⟨o, h1, h2⟩
theorem Tot.any {α : Type} {x : Option α} {p : α → Prop} (h : Tot x p) : Tot x (fun _ => True) := h.mono (fun _ _ => trivial)
theorem dTT {p : Prop} [Decidable p] (h : decide p = true) : p := of_decide_eq_true h
theorem dFF {p : Prop} [Decidable p] (h : decide p = false) : ¬ p := of_decide_eq_false h
theorem is_tot (x : Int) : Tot (exergueref01_Is x) (fun _ => True) := by
 unfold exergueref01_Is
 refine Tot.bind (p := fun _ => True) ?_ (fun _ _ => Tot.ret trivial)
 repeat' (first | exact Tot.ret trivial | refine Tot.ite (fun _ => ?_) (fun _ => ?_))
theorem size_tot (x : Int) : Tot (exergueref01_Size x) (fun n => 0 ≤ n ∧ n ≤ 4 ∧ (exergueref01_Is x = some true → 1 ≤ n)) := by
 unfold exergueref01_Size
 obtain ⟨b, hb, _⟩ := is_tot x
 rw [hb]
 cases b with
 | false => exact ⟨0, rfl, by omega, by omega, fun h => by cases h⟩
 | true =>
  show Tot (bif _ then _ else _) _
  repeat' (first | exact Tot.ret ⟨by omega, by omega, fun _ => by omega⟩ | refine Tot.ite (fun _ => ?_) (fun _ => ?_))
theorem bytes_tot (x : Int) : Tot (exergueref01_Bytes x) (fun l => l.length ≤ 4) := by
 unfold exergueref01_Bytes
 refine Tot.bind (size_tot x) (fun _ _ => ?_)
 repeat' (first | exact Tot.ret (by simp) | refine Tot.ite (fun _ => ?_) (fun _ => ?_))
theorem text_tot (x : Int) : Tot (exergueref10_text x) (fun l => l.length ≤ 4) := by
 unfold exergueref10_text
 exact Tot.bind (bytes_tot x) (fun o h => Tot.ret (by simpa [bytesS] using h))
theorem special_tot (x : Int) : Tot (exergueref10_Special x) (fun _ => True) := by
 unfold exergueref10_Special
 refine Tot.join (Tot.bind (p := fun _ => True) ?_ (fun b _ => ?_))
 ·repeat' (first | exact Tot.ret trivial | refine Tot.ite (fun _ => ?_) (fun _ => ?_))
 ·refine Tot.ite (fun _ => Tot.ret trivial) (fun _ => Tot.ret ?_)
  refine Tot.join (Tot.loop (fun s => 0 ≤ s ∧ s ≤ 11) (fun s => (11 - s).toNat) (by omega) (by omega) (fun s hs => ?_))
  refine Tot.ite (fun h => ?_) (fun _ => Tot.ret (Tot.ret trivial))
  have h := dTT h
  refine Tot.yes (inR_int (by omega) (by simpa using h)) (Tot.ite (fun _ => Tot.ret trivial) (fun _ => Tot.ret ?_))
  rw [w64 (by omega) (by omega)]; omega
theorem sign_tot (x : Int) : Tot (exergueref10_Sign x) (fun _ => True) := by
 unfold exergueref10_Sign
 repeat' (first | exact Tot.ret trivial | refine Tot.ite (fun _ => ?_) (fun _ => ?_))
def atV (l : List Int) (i : Int) : Int := if i < l.length then nth l i else -1
theorem at_eq2 {l : List Int} {i : Int} (h : 0 ≤ i) : exergueref10_at l i = some (atV l i) := by
 unfold exergueref10_at atV
 by_cases hi : i < l.length
 ·rw [dT hi, if_pos hi, inR_int h hi]; rfl
 ·rw [dF hi, if_neg hi]; rfl
theorem at_in {l : List Int} {i c : Int} (hc : atV l i = c) (h : c ≠ -1) : i < l.length := by
 unfold atV at hc
 split at hc
 ·assumption
 ·exact absurd hc.symm h
theorem many_tot {l : List Int} {i c : Int} (hl : l.length ≤ 10000) (h : 0 ≤ i) (hi : i ≤ l.length) (hc : c ≠ -1) : Tot (exergueref10_many l i c) (fun n => 0 ≤ n ∧ i + n ≤ l.length) := by
 unfold exergueref10_many
 refine Tot.bind (p := fun n => 0 ≤ n ∧ i + n ≤ l.length) ?_ (fun _ h => Tot.ret h)
 refine Tot.loop (fun s => 0 ≤ s ∧ i + s ≤ l.length) (fun s => (l.length - i - s).toNat) (by omega) (by omega) (fun s hs => ?_)
 rw [w64 (n := i + s) (by omega) (by omega), at_eq2 (by omega)]
 show Tot (bif _ then _ else _) _
 refine Tot.ite (fun hh => Tot.ret ?_) (fun _ => Tot.ret hs)
 have := at_in (dTT hh) hc
 rw [w64 (by omega) (by omega)]; omega
theorem pad_tot {p : St25} {l : List Int} {i w : Int} (hl : l.length ≤ 10000) (h : 0 ≤ i) (hi : i ≤ l.length) : Tot (exergueref10_pad p l i w) (fun o => 0 ≤ o.2.1 ∧ (o.2.2 = true → o.2.1 ≤ l.length) ∧ o.1.MinFrac_ = p.MinFrac_ ∧ o.1.MaxFrac_ = p.MaxFrac_) := by
 unfold exergueref10_pad
 refine Tot.join (Tot.bind (p := fun _ => True) ?_ (fun b _ => ?_))
 ·refine Tot.ite (fun _ => Tot.ret trivial) (fun _ => ?_)
  rw [at_eq2 h]; exact Tot.ret trivial
 ·refine Tot.ite (fun _ => Tot.ret ⟨h, fun _ => hi, rfl, rfl⟩) (fun _ => Tot.ret ?_)
  show Tot _ _
  rw [w64 (n := i + 1) (by omega) (by omega)]
  refine Tot.ite (fun _ => Tot.ret ⟨by simp only; omega, fun h => (by cases h), rfl, rfl⟩) (fun hh => ?_)
  have := dFF hh
  refine Tot.yes (inR_int (by omega) (by omega)) (Tot.ret ⟨?_, fun _ => ?_, rfl, rfl⟩)
  ·simp only; rw [w64 (by omega) (by omega)]; omega
  ·simp only; rw [w64 (by omega) (by omega)]; omega
theorem affix_tot {l : List Int} {i : Int} (hl : l.length ≤ 10000) (h : 0 ≤ i) (hi : i ≤ l.length) : Tot (exergueref10_affix l i) (fun o => 0 ≤ o.2.1 ∧ o.2.1 ≤ l.length) := by
 unfold exergueref10_affix
 refine Tot.join (Tot.loop (fun s : Int × List St106 => 0 ≤ s.1 ∧ s.1 ≤ (l.length : Int) ∧ (s.2.length : Int) ≤ s.1) (fun s => ((l.length : Int) - s.1).toNat) ⟨h, hi, by simpa using h⟩ (by simp only; omega) (fun s hs => ?_))
 refine Tot.ite (fun hh => ?_) (fun hh => Tot.ret (Tot.ret ⟨hs.1, hs.2.1⟩))
 have hlt := dTT hh
 refine Tot.yes (inR_int hs.1 hlt) (Tot.bind (sign_tot _) (fun y _ => Tot.bind (special_tot _) (fun y2 _ => ?_)))
 have e1 : IntKind.wrap .i64 (s.1 + 1) = s.1 + 1 := w64 (by omega) (by omega)
 rw [e1]
 refine Tot.ite (fun _ => Tot.yes (room_of (by simp; omega)) (Tot.ret ⟨⟨by simp only; omega, by simp only; omega, by simp; omega⟩, by simp only; omega⟩)) (fun _ => ?_)
 refine Tot.ite (fun _ => Tot.ite (fun _ => Tot.ret ⟨hs.1, hs.2.1⟩) (fun _ => Tot.yes (room_of (by simp; omega)) (Tot.ret ⟨⟨by simp only; omega, by simp only; omega, by simp; omega⟩, by simp only; omega⟩))) (fun _ => ?_)
 rw [at_eq2 (by omega)]
 show Tot (bif _ then _ else _) _
 refine Tot.ite (fun hq => ?_) (fun hq => ?_)
 ·have := at_in (dTT hq) (by omega)
  refine Tot.yes (room_of (by simp; omega)) (Tot.ret ?_)
  have e2 : IntKind.wrap .i64 (s.1 + 2) = s.1 + 2 := w64 (by omega) (by omega)
  rw [e2]
  exact ⟨⟨by simp only; omega, by simp only; omega, by simp; omega⟩, by simp only; omega⟩
 ·refine Tot.bind (p := fun o : Int × List St106 => s.1 + 1 ≤ o.1 ∧ o.1 ≤ (l.length : Int) ∧ (o.2.length : Int) ≤ o.1) ?_ (fun o ho => ?_)
  ·refine Tot.loop (fun t : Int × List St106 => s.1 + 1 ≤ t.1 ∧ t.1 ≤ (l.length : Int) ∧ (t.2.length : Int) ≤ t.1) (fun t => ((l.length : Int) - t.1).toNat) ⟨by simp only; omega, by simp only; omega, by simp only; omega⟩ (by simp only; omega) (fun t ht => ?_)
   have f1 : IntKind.wrap .i64 (t.1 + 1) = t.1 + 1 := w64 (by omega) (by omega)
   rw [f1]
   refine Tot.join (Tot.bind (p := fun b => b = true → t.1 < l.length ∧ (nth l t.1 = 39 → t.1 + 1 < l.length)) ?_ (fun b hb => ?_))
   ·refine Tot.ite (fun hh => ?_) (fun _ => Tot.ret (fun h => by cases h))
    have h3 := dTT hh
    refine Tot.yes (inR_int (by omega) h3) (Tot.ite (fun hn => Tot.ret (fun _ => ⟨h3, fun he => absurd he (dTT hn)⟩)) (fun _ => ?_))
    rw [at_eq2 (by omega)]
    exact Tot.ret (fun hb => ⟨h3, fun _ => at_in (dTT hb) (by omega)⟩)
   ·cases b with
    | false => exact Tot.ret ht
    | true =>
     obtain ⟨g1, g2⟩ := hb rfl
     refine Tot.ret (show Tot _ _ from ?_)
     refine Tot.yes (inR_int (by omega) g1) (Tot.yes (room_of (by simp; omega)) ?_)
     refine Tot.bind (p := fun v => t.1 ≤ v ∧ v < l.length) (Tot.yes (inR_int (by omega) g1) (Tot.ite (fun hh => Tot.ret ⟨by omega, g2 (dTT hh)⟩) (fun _ => Tot.ret ⟨by omega, g1⟩))) (fun v hv => Tot.ret ?_)
     have f2 : IntKind.wrap .i64 (v + 1) = v + 1 := w64 (by omega) (by omega)
     rw [f2]
     exact ⟨⟨by simp only; omega, by simp only; omega, by simp; omega⟩, by simp only; omega⟩
  ·refine Tot.ite (fun _ => Tot.ret ⟨hs.1, hs.2.1⟩) (fun hh => Tot.ret ?_)
   have h3 := dFF hh
   have f1 : IntKind.wrap .i64 (o.1 + 1) = o.1 + 1 := w64 (by omega) (by omega)
   rw [f1]
   exact ⟨⟨by simp only; omega, by simp only; omega, by simp only; omega⟩, by simp only; omega⟩
/-! Patterns that are read. -/
theorem places_tot {p : St25} {l : List Int} {i : Int} (hl : l.length ≤ 10000) (h : 0 ≤ i) (hi : i ≤ l.length) :
  Tot (exergueref10_places p l i) (fun o => 0 ≤ o.2.1 ∧ o.2.1 ≤ l.length ∧ o.1.MinFrac_ = p.MinFrac_ ∧ o.1.MaxFrac_ = p.MaxFrac_) := by
 unfold exergueref10_places
 refine Tot.loop (fun s : Int × Int × Int × Int × List Int => 0 ≤ s.1 ∧ s.1 ≤ (l.length : Int) ∧ (s.2.2.2.2.length : Int) ≤ s.1) (fun s => ((l.length : Int) - s.1).toNat) ⟨h, hi, by simpa using h⟩ (by simp only; omega) (fun s hs => ?_)
 have e1 : IntKind.wrap .i64 (s.1 + 1) = s.1 + 1 := w64 (by omega) (by omega)
 rw [e1, at_eq2 hs.1, at_eq2 (l := l) (i := s.1 + 1) (by omega)]
 show Tot (Option.bind _ _) _
 refine Tot.join (Tot.bind (p := fun b => b = true → s.1 < l.length) ?_ (fun b hb => ?_))
 ·refine Tot.ite (fun hq => Tot.ret (fun _ => at_in (dTT hq) (by omega))) (fun _ => Tot.ret (fun h => by cases h))
 ·cases b with
  | true =>
   have := hb rfl
   exact Tot.ret ⟨⟨by simp only; omega, by simp only; omega, by simp only; omega⟩, by simp only; omega⟩
  | false =>
   refine Tot.ret (show Tot _ _ from ?_)
   refine Tot.ite (fun hq => ?_) (fun _ => ?_)
   ·have := at_in (dTT hq) (by omega)
    exact Tot.ret ⟨⟨by simp only; omega, by simp only; omega, by simp only; omega⟩, by simp only; omega⟩
   ·refine Tot.join (Tot.bind (p := fun b => b = true → s.1 < l.length) ?_ (fun b hb => ?_))
    ·refine Tot.ite (fun hq => ?_) (fun _ => Tot.ret (fun h => by cases h))
     have := at_in (dTT hq) (by omega)
     repeat' (first | exact Tot.ret (fun _ => this) | refine Tot.ite (fun _ => ?_) (fun _ => ?_))
    ·cases b with
     | true =>
      have h2 := hb rfl
      refine Tot.join (Tot.bind (p := fun _ => True) ?_ (fun b _ => ?_))
      ·refine Tot.ite (fun hq => ?_) (fun _ => Tot.ret trivial)
       have hq := dTT hq
       exact Tot.yes (inR_int (by omega) (by omega)) (Tot.yes (inR_int (by omega) (by omega)) (Tot.ret trivial))
      ·cases b with
       | true => exact Tot.ret ⟨hs.1, hs.2.1, rfl, rfl⟩
       | false =>
        refine Tot.ret (show Tot _ _ from Tot.yes (room_of (by simp; omega)) (Tot.ret ?_))
        exact ⟨⟨by simp only; omega, by simp only; omega, by simp; omega⟩, by simp only; omega⟩
     | false =>
      refine Tot.ret (show Tot _ _ from ?_)
      refine Tot.bind (p := fun _ => True) ?_ (fun y _ => Tot.bind (p := fun _ => True) ?_ (fun z _ => Tot.ret ⟨hs.1, hs.2.1, rfl, rfl⟩))
      ·exact Tot.ite (fun _ => Tot.ret trivial) (fun _ => Tot.ret trivial)
      ·refine Tot.ite (fun hq => ?_) (fun _ => Tot.ret trivial)
       have hq := dTT hq
       exact Tot.yes (inR_int (by omega) (by omega)) (Tot.yes (inR_int (by omega) (by omega)) (Tot.ret trivial))
def pfP (p : St25) : Prop := p.MinFrac_ ≤ p.MaxFrac_
theorem number_tot {p : St25} {l : List Int} {i : Int} (hl : l.length ≤ 10000) (h : 0 ≤ i) (hi : i ≤ l.length) (hp : pfP p) :
  Tot (exergueref10_number p l i) (fun o => 0 ≤ o.2.1 ∧ o.2.1 ≤ l.length ∧ (o.2.2 = true → pfP o.1)) := by
 unfold exergueref10_number
 refine Tot.bind (many_tot hl h hi (by omega)) (fun n hn => ?_)
 have e1 : IntKind.wrap .i64 (i + n) = i + n := w64 (by omega) (by omega)
 rw [e1]
 refine Tot.join (Tot.mono (p := fun x => match x with | .inl s => 0 ≤ s.1 ∧ s.1 ≤ l.length ∧ s.2.2.2.2.2.2.2.2.1 ≤ s.2.2.2.2.2.2.2.2.2.1 | .inr r => 0 ≤ r.2.1 ∧ r.2.1 ≤ l.length ∧ (r.2.2 = true → pfP r.1)) ?_ (fun x hx => ?_))
 ·refine Tot.ite (fun _ => ?_) (fun _ => ?_)
  ·refine Tot.bind (many_tot hl (i := i + n) (by omega) (by omega) (by omega)) (fun m hm => Tot.ret ?_)
   rw [w64 (n := i + n + m) (by omega) (by omega)]
   exact ⟨by simp only; omega, by simp only; omega, hp⟩
  ·refine Tot.bind (places_tot hl h hi) (fun y hy => ?_)
   obtain ⟨y1, y2, y3, y4⟩ := hy
   refine Tot.ite (fun _ => Tot.ret ⟨y1, y2, fun h => (by cases h)⟩) (fun _ => ?_)
   rw [at_eq2 y1]
   show Tot (bif _ then _ else _) _
   refine Tot.ite (fun hq => ?_) (fun _ => Tot.ret ⟨y1, y2, by simp only [y3, y4]; exact hp⟩)
   have hin := at_in (dTT hq) (by omega)
   have f1 : IntKind.wrap .i64 (y.2.1 + 1) = y.2.1 + 1 := w64 (by omega) (by omega)
   rw [f1]
   refine Tot.bind (many_tot hl (i := y.2.1 + 1) (by omega) (by omega) (by omega)) (fun a ha => ?_)
   have f2 : IntKind.wrap .i64 (y.2.1 + 1 + a) = y.2.1 + 1 + a := w64 (by omega) (by omega)
   rw [f2]
   refine Tot.bind (many_tot hl (i := y.2.1 + 1 + a) (by omega) (by omega) (by omega)) (fun b hb => ?_)
   have f3 : IntKind.wrap .i64 (y.2.1 + 1 + a + b) = y.2.1 + 1 + a + b := w64 (by omega) (by omega)
   have f4 : IntKind.wrap .i64 (a + b) = a + b := w64 (by omega) (by omega)
   rw [f3, f4]
   refine Tot.ite (fun _ => Tot.ret ⟨by simp only; omega, by simp only; omega, fun h => (by cases h)⟩) (fun _ => Tot.ret ⟨by simp only; omega, by simp only; omega, by simp only; omega⟩)
 ·cases x with
  | inr r => exact hx
  | inl s =>
   obtain ⟨s1, s2, s3⟩ := hx
   show Tot (Option.bind _ _) _
   rw [at_eq2 s1]
   show Tot (bif _ then _ else _) _
   refine Tot.ite (fun _ => Tot.ret ⟨s1, s2, fun _ => s3⟩) (fun hq => ?_)
   have hq : atV l s.1 = 69 := by have := dFF hq; omega
   have hin := at_in hq (by omega)
   have f1 : IntKind.wrap .i64 (s.1 + 1) = s.1 + 1 := w64 (by omega) (by omega)
   rw [f1, at_eq2 (by omega)]
   refine Tot.bind (p := fun t : Int × Bool => 0 ≤ t.1 ∧ t.1 ≤ (l.length : Int)) ?_ (fun t ht => ?_)
   ·show Tot (bif _ then _ else _) _
    refine Tot.ite (fun hq => ?_) (fun _ => Tot.ret ⟨by simp only; omega, by simp only; omega⟩)
    have := at_in (dTT hq) (by omega)
    rw [w64 (n := s.1 + 1 + 1) (by omega) (by omega)]
    exact Tot.ret ⟨by simp only; omega, by simp only; omega⟩
   ·refine Tot.bind (many_tot hl ht.1 ht.2 (by omega)) (fun n hn => Tot.ret ?_)
    rw [w64 (n := t.1 + n) (by omega) (by omega)]
    exact ⟨by simp only; omega, by simp only; omega, fun _ => s3⟩
theorem first_tot {l : List Int} (hl : l.length ≤ 10000) : Tot (exergueref10_first l) (fun o => o.2.2.2.2 = true → pfP o.1 ∧ 0 ≤ o.2.1 ∧ o.2.2.1 ≤ l.length ∧ 0 ≤ o.2.2.2.1 ∧ o.2.2.2.1 ≤ l.length) := by
 unfold exergueref10_first
 refine Tot.bind (pad_tot hl (by omega) (by omega)) (fun a ha => Tot.ite (fun _ => Tot.ret (fun h => by cases h)) (fun h1 => ?_))
 have h1 : a.2.2 = true := by simpa using h1
 refine Tot.bind (affix_tot hl ha.1 (ha.2.1 h1)) (fun b hb => Tot.ite (fun _ => Tot.ret (fun h => by cases h)) (fun h2 => ?_))
 refine Tot.bind (pad_tot hl hb.1 hb.2) (fun c hc => Tot.ite (fun _ => Tot.ret (fun h => by cases h)) (fun h3 => ?_))
 have h3 : c.2.2 = true := by simpa using h3
 have hpc : pfP c.1 := by unfold pfP; rw [hc.2.2.1, hc.2.2.2]; simp only; rw [ha.2.2.1, ha.2.2.2]; exact Int.le_refl _
 refine Tot.bind (number_tot hl hc.1 (hc.2.1 h3) hpc) (fun d hd => Tot.ite (fun _ => Tot.ret (fun h => by cases h)) (fun h4 => ?_))
 have h4 : d.2.2 = true := by simpa using h4
 refine Tot.bind (pad_tot hl hd.1 hd.2.1) (fun e he => Tot.ite (fun _ => Tot.ret (fun h => by cases h)) (fun h5 => ?_))
 have h5 : e.2.2 = true := by simpa using h5
 refine Tot.bind (affix_tot hl he.1 (he.2.1 h5)) (fun f hf => Tot.ite (fun _ => Tot.ret (fun h => by cases h)) (fun h6 => ?_))
 refine Tot.bind (pad_tot hl hf.1 hf.2) (fun g hg => Tot.ret (fun h7 => ⟨?_, hc.1, hd.2.1, hg.1, hg.2.1 h7⟩))
 unfold pfP
 simp only
 rw [hg.2.2.1, hg.2.2.2]; simp only; rw [he.2.2.1, he.2.2.2]; exact hd.2.2 h4
theorem affix_any {l : List Int} {i : Int} (hl : l.length ≤ 10000) (h : 0 ≤ i) : Tot (exergueref10_affix l i) (fun _ => True) := by
 by_cases hi : i ≤ l.length
 ·exact (affix_tot hl h hi).any
 ·unfold exergueref10_affix
  refine Tot.join (Tot.loop (fun s : Int × List St106 => (l.length : Int) < s.1) (fun _ => 0) (by simp only; omega) (by decide) (fun s hs => ?_))
  rw [dF (show ¬ s.1 < (l.length : Int) by omega)]
  exact Tot.ret (Tot.ret trivial)
theorem second_tot {p : St25} {l : List Int} {i a b : Int} (hl : l.length ≤ 10000) (h : 0 ≤ i) (hi : i ≤ l.length) (ha : 0 ≤ a) (hb : b ≤ l.length) (hp : pfP p) :
  Tot (exergueref10_second p l i a b) (fun o => pfP o.1) := by
 unfold exergueref10_second
 refine Tot.bind (affix_tot hl h hi) (fun c hc => Tot.ite (fun _ => Tot.ret hp) (fun _ => ?_))
 refine Tot.join (Tot.mono (p := fun x => match x with | .inl s => 0 ≤ s | .inr r => pfP r.1) ?_ (fun x hx => ?_))
 ·refine Tot.loop (fun s : Int × Int => 0 ≤ s.1 ∧ s.1 ≤ (l.length : Int) + s.2 ∧ 0 ≤ s.2) (fun s => (b - s.2).toNat) ⟨hc.1, by simp only; omega, ha⟩ (by simp only; omega) (fun s hs => ?_)
  refine Tot.ite (fun hh => ?_) (fun _ => Tot.ret hs.1)
  have hh := dTT hh
  rw [at_eq2 hs.1]
  show Tot (bif _ then _ else _) _
  refine Tot.yes (inR_int hs.2.2 (by omega)) (Tot.ite (fun _ => Tot.ret hp) (fun hq => Tot.ret ?_))
  have e1 : IntKind.wrap .i64 (s.1 + 1) = s.1 + 1 := w64 (by omega) (by omega)
  have e2 : IntKind.wrap .i64 (s.2 + 1) = s.2 + 1 := w64 (by omega) (by omega)
  rw [e1, e2]
  exact ⟨⟨by simp only; omega, by simp only; omega, by simp only; omega⟩, by simp only; omega⟩
 ·cases x with
  | inr r => exact hx
  | inl s =>
   show Tot _ _
   exact Tot.bind (affix_any hl hx) (fun d hd => Tot.ret hp)
/-! Texts of patterns, read: there is an answer. -/
theorem tails_tot {b : List Int} {at' k n : Int} (hl : b.length ≤ 100000) (h : 0 ≤ at') (ha : at' ≤ b.length) (hk : 0 ≤ k) (hk2 : k ≤ 3) : Tot (exergueref01_tails b at' k n) (fun _ => True) := by
 unfold exergueref01_tails
 rw [w64 (n := at' + k) (by omega) (by omega)]
 refine Tot.ite (fun _ => Tot.ret trivial) (fun hh => ?_)
 have hh := dFF hh
 refine Tot.join (Tot.loop (fun s : Int × Int => 1 ≤ s.2 ∧ s.2 ≤ k + 1) (fun s => (k + 1 - s.2).toNat) ⟨by simp only; omega, by simp only; omega⟩ (by simp only; omega) (fun s hs => ?_))
 refine Tot.ite (fun hq => ?_) (fun _ => Tot.ret (Tot.ret trivial))
 have hq := dTT hq
 have e1 : IntKind.wrap .i64 (at' + s.2) = at' + s.2 := w64 (by omega) (by omega)
 have e2 : IntKind.wrap .i64 (s.2 + 1) = s.2 + 1 := w64 (by omega) (by omega)
 rw [e1, e2]
 refine Tot.join (Tot.yes (inR_int (by omega) (by omega)) ?_)
 refine Tot.join (Tot.bind (p := fun _ => True) ?_ (fun c _ => ?_))
 ·exact Tot.ite (fun _ => Tot.ret trivial) (fun _ => Tot.ret trivial)
 ·cases c with
  | true => exact Tot.ret trivial
  | false => exact Tot.ret (Tot.ret (Tot.ret ⟨⟨by simp only; omega, by simp only; omega⟩, by simp only; omega⟩))
theorem one_tot {b : List Int} {at' : Int} (hl : b.length ≤ 100000) (h : 0 ≤ at') (ha : at' < b.length) : Tot (exergueref01_one b at') (fun n => n < 0 ∨ exergueref01_Is (IntKind.wrap .i32 n) = some true) := by
 unfold exergueref01_one
 refine Tot.yes (inR_int h ha) ?_
 have ht : ∀ k n, 0 ≤ k → k ≤ 3 → Tot (exergueref01_tails b at' k n) (fun _ => True) := fun k n h1 h2 => tails_tot hl h (by omega) h1 h2
 refine Tot.bind (p := fun _ => True) (Tot.ite (fun _ => Tot.ret trivial) (fun _ => Tot.ret trivial)) (fun a _ => ?_)
 refine Tot.bind (p := fun _ => True) ?_ (fun a _ => Tot.bind (p := fun _ => True) ?_ (fun a _ => Tot.bind (p := fun _ => True) ?_ (fun a _ => ?_)))
 ·refine Tot.bind (p := fun _ => True) (Tot.ite (fun _ => Tot.ret trivial) (fun _ => Tot.ret trivial)) (fun _ _ => Tot.ite (fun _ => Tot.bind (ht 1 _ (by omega) (by omega)) (fun _ _ => Tot.ret trivial)) (fun _ => Tot.ret trivial))
 ·refine Tot.bind (p := fun _ => True) (Tot.ite (fun _ => Tot.ret trivial) (fun _ => Tot.ret trivial)) (fun _ _ => Tot.ite (fun _ => Tot.bind (ht 2 _ (by omega) (by omega)) (fun _ _ => Tot.ret trivial)) (fun _ => Tot.ret trivial))
 ·refine Tot.bind (p := fun _ => True) (Tot.ite (fun _ => Tot.ret trivial) (fun _ => Tot.ret trivial)) (fun _ _ => Tot.ite (fun _ => Tot.bind (ht 3 _ (by omega) (by omega)) (fun _ _ => Tot.ret trivial)) (fun _ => Tot.ret trivial))
 ·obtain ⟨v, hv, _⟩ := is_tot (IntKind.wrap .i32 a.1)
  rw [hv]
  show Tot (Option.bind _ _) _
  refine Tot.join (Tot.bind (p := fun c => c = false → v = true) (Tot.ite (fun _ => Tot.ret (fun h => by cases h)) (fun _ => Tot.ret (fun h => by simpa using h))) (fun c hc => ?_))
  cases c with
  | true => exact Tot.ret (.inl (by decide))
  | false => exact Tot.ret (Tot.ret (.inr (by rw [hv, hc rfl])))
theorem decode_tot {b : List Int} (hl : b.length ≤ 100000) : Tot (exergueref01_Decode b) (fun _ => True) := by
 unfold exergueref01_Decode
 refine Tot.join (Tot.loop (fun s : Int × List Int => 0 ≤ s.1 ∧ s.1 ≤ (b.length : Int) + 4 ∧ (s.2.length : Int) ≤ s.1) (fun s => ((b.length : Int) + 4 - s.1).toNat) ⟨by simp only; omega, by simp only; omega, by simp⟩ (by simp only; omega) (fun s hs => ?_))
 refine Tot.ite (fun hq => ?_) (fun _ => Tot.ret (Tot.ret trivial))
 have hq := dTT hq
 refine Tot.bind (one_tot hl hs.1 hq) (fun n hn => Tot.ite (fun _ => Tot.ret trivial) (fun hneg => ?_))
 have hneg := dFF hneg
 have his := hn.resolve_left hneg
 refine Tot.yes (room_of (by simp; omega)) (Tot.bind (size_tot _) (fun z hz => Tot.ret ?_))
 have h1 := hz.2.2 his
 have e1 : IntKind.wrap .i64 (s.1 + z) = s.1 + z := w64 (by omega) (by omega)
 rw [e1]
 exact ⟨⟨by simp only; omega, by simp only; omega, by simp; omega⟩, by simp only; omega⟩
theorem times_tot {t : List UInt8} {n : Int} (ht : t.length ≤ 1) (hn : n ≤ 1000) : Tot (exergueref10_times t n) (fun l => l.length ≤ 1000) := by
 unfold exergueref10_times
 refine Tot.bind (p := fun l => l.length ≤ 1000) ?_ (fun _ h => Tot.ret h)
 refine Tot.loop (fun s : List UInt8 × Int => 0 ≤ s.2 ∧ s.2 ≤ 1000 ∧ (s.1.length : Int) ≤ s.2) (fun s => (1000 - s.2).toNat) ⟨by simp only; omega, by simp only; omega, by simp⟩ (by simp only; omega) (fun s hs => ?_)
 refine Tot.ite (fun hq => ?_) (fun _ => Tot.ret (by simp only; omega))
 have hq := dTT hq
 refine Tot.yes (room_of (by omega)) (Tot.ret ?_)
 have e1 : IntKind.wrap .i64 (s.2 + 1) = s.2 + 1 := w64 (by omega) (by omega)
 rw [e1]
 exact ⟨⟨by simp only; omega, by simp only; omega, by simp; omega⟩, by simp only; omega⟩
def cntP (p : St25) : Prop := (0 ≤ p.Hash_ ∧ p.Hash_ ≤ 40) ∧ (0 ≤ p.MinInt_ ∧ p.MinInt_ ≤ 40) ∧ (0 ≤ p.MinFrac_ ∧ p.MinFrac_ ≤ 40) ∧ (0 ≤ p.MaxFrac_ ∧ p.MaxFrac_ ≤ 40) ∧ (0 ≤ p.G1_ ∧ p.G1_ ≤ 40) ∧ (0 ≤ p.G2_ ∧ p.G2_ ≤ 40) ∧ (0 ≤ p.MinSig_ ∧ p.MinSig_ ≤ 40) ∧ (0 ≤ p.MaxSig_ ∧ p.MaxSig_ ≤ 40) ∧ (0 ≤ p.Exp_ ∧ p.Exp_ ≤ 40)
theorem number_text {p : St25} (hp : cntP p) : Tot (exergueref10_Number p) (fun l => l.length ≤ 8000) := by
 obtain ⟨c1, c2, c3, c4, c5, c6, c7, c8, c9⟩ := hp
 unfold exergueref10_Number
 have e0 : IntKind.wrap .i64 (p.Hash_ + p.MinInt_) = p.Hash_ + p.MinInt_ := w64 (by omega) (by omega)
 have e1 : IntKind.wrap .i64 (p.MaxSig_ - p.MinSig_) = p.MaxSig_ - p.MinSig_ := w64 (by omega) (by omega)
 have e2 : IntKind.wrap .i64 (p.MaxFrac_ - p.MinFrac_) = p.MaxFrac_ - p.MinFrac_ := w64 (by omega) (by omega)
 rw [e0, e1, e2]
 refine Tot.bind (p := fun l => l.length ≤ 200) ?_ (fun a ha => ?_)
 ·refine Tot.loop (fun s : List UInt8 × Int => 0 ≤ s.2 ∧ s.2 ≤ 80 ∧ (s.1.length : Int) ≤ 2 * s.2) (fun s => (80 - s.2).toNat) ⟨by simp only; omega, by simp only; omega, by simp⟩ (by simp only; omega) (fun s hs => ?_)
  refine Tot.ite (fun hq => ?_) (fun _ => Tot.ret (by simp only; omega))
  have hq := dTT hq
  have f1 : IntKind.wrap .i64 (s.2 + 1) = s.2 + 1 := w64 (by omega) (by omega)
  rw [f1]
  refine Tot.bind (p := fun l => (l.length : Int) ≤ s.1.length + 2) ?_ (fun b hb => Tot.ret ⟨⟨by simp only; omega, by simp only; omega, by simp only; omega⟩, by simp only; omega⟩)
  refine Tot.bind (p := fun l => (l.length : Int) ≤ s.1.length + 1) ?_ (fun b hb => ?_)
  ·refine Tot.bind (p := fun _ => True) ?_ (fun g _ => Tot.ite (fun _ => Tot.yes (room_of (by simp; omega)) (Tot.ret (by simp))) (fun _ => Tot.ret (by omega)))
   refine Tot.ite (fun _ => Tot.ite (fun _ => Tot.ret trivial) (fun _ => Tot.ite (fun _ => Tot.ite (fun hg => ?_) (fun _ => Tot.ret trivial)) (fun _ => Tot.ret trivial))) (fun _ => Tot.ret trivial)
   have hg := dTT hg
   exact Tot.yes (by unfold nz; rw [dF (by omega)]; rfl) (Tot.ret trivial)
  ·exact Tot.ite (fun _ => Tot.yes (room_of (by simp; omega)) (Tot.ret (by simp; omega))) (fun _ => Tot.yes (room_of (by simp; omega)) (Tot.ret (by simp; omega)))
 ·refine Tot.bind (times_tot (by simp) (by omega)) (fun b hb => Tot.bind (times_tot (by simp) (by omega)) (fun c hc => ?_))
  refine Tot.yes (room_of (by omega)) (Tot.yes (room_of (by simp; omega)) ?_)
  refine Tot.bind (p := fun l => l.length ≤ 5000) ?_ (fun d hd => ?_)
  ·refine Tot.ite (fun _ => Tot.yes (room_of (by simp; omega)) (Tot.bind (times_tot (by simp) (by omega)) (fun e he => Tot.yes (room_of (by simp; omega)) (Tot.bind (times_tot (by simp) (by omega)) (fun f hf => Tot.yes (room_of (by simp; omega)) (Tot.ret (by simp; omega))))))) (fun _ => Tot.ret (by simp; omega))
  ·refine Tot.bind (p := fun l => l.length ≤ 8000) ?_ (fun d hd => Tot.ret hd)
   refine Tot.ite (fun _ => Tot.yes (room_of (by simp; omega)) (Tot.bind (p := fun l => l.length ≤ 5002) ?_ (fun e he => Tot.bind (times_tot (by simp) (by omega)) (fun f hf => Tot.yes (room_of (by omega)) (Tot.ret (by simp; omega)))))) (fun _ => Tot.ret (by omega))
   exact Tot.ite (fun _ => Tot.yes (room_of (by simp; omega)) (Tot.ret (by simp; omega))) (fun _ => Tot.ret (by simp; omega))
theorem written_tot {l : List St106} (hl : l.length ≤ 300) : Tot (exergueref10_written l) (fun t => t.length ≤ 3000) := by
 unfold exergueref10_written
 refine Tot.bind (p := fun s => s.1.length ≤ 2999) ?_ (fun s hs => Tot.bind (p := fun t => t.length ≤ 3000) (Tot.ite (fun _ => Tot.yes (room_of (by simp; omega)) (Tot.ret (by simp; omega))) (fun _ => Tot.ret (by omega))) (fun _ h => Tot.ret h))
 refine Tot.loop (fun s : List UInt8 × Bool × Int => 0 ≤ s.2.2 ∧ s.2.2 ≤ (l.length : Int) ∧ (s.1.length : Int) ≤ 8 * s.2.2) (fun s => ((l.length : Int) - s.2.2).toNat) ⟨by simp only; omega, by simp only; omega, by simp⟩ (by simp only; omega) (fun s hs => ?_)
 refine Tot.ite (fun hq => ?_) (fun _ => Tot.ret (by simp only; omega))
 have hq := dTT hq
 have hin := inR_int hs.1 hq
 have f1 : IntKind.wrap .i64 (s.2.2 + 1) = s.2.2 + 1 := w64 (by omega) (by omega)
 rw [f1]
 refine Tot.bind (p := fun t => (t.1.length : Int) ≤ s.1.length + 8) ?_ (fun t ht => Tot.ret ⟨⟨by simp only; omega, by simp only; omega, by simp only; omega⟩, by simp only; omega⟩)
 refine Tot.yes hin (Tot.bind (special_tot _) (fun sp _ => Tot.bind (p := fun _ => True) ?_ (fun ap _ => Tot.bind (p := fun _ => True) ?_ (fun qu _ => Tot.bind (p := fun t => (t.1.length : Int) ≤ s.1.length + 1) ?_ (fun t ht => ?_)))))
 ·exact Tot.yes hin (Tot.ite (fun _ => Tot.yes hin (Tot.ret trivial)) (fun _ => Tot.ret trivial))
 ·exact Tot.yes hin (Tot.ite (fun _ => Tot.ret trivial) (fun _ => Tot.ret trivial))
 ·exact Tot.bind (p := fun _ => True) (Tot.ite (fun _ => Tot.ret trivial) (fun _ => Tot.ret trivial)) (fun _ _ => Tot.ite (fun _ => Tot.yes (room_of (by simp; omega)) (Tot.ret (by simp))) (fun _ => Tot.ret (by simp only; omega)))
 ·have sgn : ∀ c : UInt8, Tot (bif room (t.1.length + ([c] : List UInt8).length) then (some ((t.1 ++ ([c] : List UInt8)), t.2)) else none) (fun u => (u.1.length : Int) ≤ s.1.length + 8) := fun c => Tot.yes (room_of (by simp; omega)) (Tot.ret (by simp; omega))
  refine Tot.yes hin (Tot.ite (fun _ => Tot.yes hin (Tot.bind (text_tot _) (fun x hx => Tot.yes (room_of (by omega)) (Tot.ite (fun _ => Tot.yes (room_of (by simp; omega)) (Tot.ret (by simp; omega))) (fun _ => Tot.ret (by simp; omega)))))) (fun _ => Tot.ite (fun _ => sgn _) (fun _ => Tot.ite (fun _ => sgn _) (fun _ => Tot.ite (fun _ => sgn _) (fun _ => Tot.ite (fun _ => ?_) (fun _ => Tot.ret (by simp only; omega)))))))
  exact Tot.bind (text_tot _) (fun x hx => Tot.yes (room_of (by omega)) (Tot.ret (by simp; omega)))
theorem padded_tot (p : St25) (w : Int) : Tot (exergueref10_padded p w) (fun t => t.length ≤ 5) := by
 unfold exergueref10_padded
 exact Tot.ite (fun _ => Tot.bind (text_tot _) (fun x hx => Tot.yes (room_of (by simp; omega)) (Tot.ret (by simp; omega)))) (fun _ => Tot.ret (by simp))
theorem ptext_tot {p : St25} (hp : cntP p) (h1 : p.Pre_.length ≤ 300) (h2 : p.Suf_.length ≤ 300) (h3 : p.NPre_.length ≤ 300) (h4 : p.NSuf_.length ≤ 300) : Tot (exergueref10_Text p) (fun t => t.length ≤ 50000) := by
 unfold exergueref10_Text
 refine Tot.bind (padded_tot p 1) (fun a ha => Tot.bind (written_tot h1) (fun b hb => Tot.yes (room_of (by omega)) ?_))
 refine Tot.bind (padded_tot p 2) (fun c hc => Tot.yes (room_of (by simp; omega)) (Tot.bind (number_text hp) (fun d hd => Tot.yes (room_of (by simp; omega)) ?_)))
 refine Tot.bind (padded_tot p 3) (fun e he => Tot.yes (room_of (by simp; omega)) (Tot.bind (written_tot h2) (fun f hf => Tot.yes (room_of (by simp; omega)) ?_)))
 refine Tot.bind (padded_tot p 4) (fun g hg => Tot.yes (room_of (by simp; omega)) ?_)
 refine Tot.bind (p := fun t => t.length ≤ 50000) ?_ (fun _ h => Tot.ret h)
 refine Tot.ite (fun _ => ?_) (fun _ => Tot.ret (by simp; omega))
 refine Tot.yes (room_of (by simp; omega)) (Tot.bind (written_tot h3) (fun i hi => Tot.yes (room_of (by simp; omega)) (Tot.bind (number_text hp) (fun j hj => Tot.yes (room_of (by simp; omega)) (Tot.bind (written_tot h4) (fun k hk => Tot.yes (room_of (by simp; omega)) (Tot.ret (by simp; omega))))))))
theorem parse_tot {t : List UInt8} (ht : t.length ≤ 100000) : Tot (exergueref10_Parse t) (fun o => o.2.2 = 0 → pfP o.1) := by
 unfold exergueref10_Parse
 refine Tot.bind (decode_tot (by rw [bytesI_len]; exact ht)) (fun d _ => Tot.ite (fun _ => Tot.ret (fun h => by cases h)) (fun _ => Tot.ite (fun _ => Tot.ret (fun h => by cases h)) (fun h1 => ?_)))
 have h1 := dFF h1
 have hl : d.1.length ≤ 10000 := by omega
 refine Tot.bind (first_tot hl) (fun f hf => ?_)
 refine Tot.bind (p := fun s => s.2.1 = true → s.2.2.2.2.2.2.2.2.2.1 ≤ s.2.2.2.2.2.2.2.2.2.2.1) ?_ (fun s hs => ?_)
 ·refine Tot.bind (p := fun b => b = true → f.2.2.2.2 = true ∧ f.2.2.2.1 < d.1.length) ?_ (fun b hb => ?_)
  ·refine Tot.ite (fun hq => ?_) (fun _ => Tot.ret (fun h => by cases h))
   rw [at_eq2 (hf hq).2.2.2.1]
   exact Tot.ret (fun h => ⟨hq, at_in (dTT h) (by omega)⟩)
  ·refine Tot.ite (fun hq => ?_) (fun _ => Tot.ret (fun h => (hf h).1))
   obtain ⟨g1, g2⟩ := hb hq
   have g := hf g1
   have f1 : IntKind.wrap .i64 (f.2.2.2.1 + 1) = f.2.2.2.1 + 1 := w64 (by omega) (by omega)
   rw [f1]
   exact Tot.bind (second_tot hl (by omega) (by omega) g.2.1 g.2.2.1 g.1) (fun o ho => Tot.ret (fun _ => ho))
 ·refine Tot.join (Tot.bind (p := fun b => b = false → s.2.1 = true) (Tot.ite (fun _ => Tot.ret (fun h => by cases h)) (fun h => Tot.ret (fun _ => by simpa using h))) (fun b hb => ?_))
  cases b with
  | true => exact Tot.ret (fun h => by cases h)
  | false =>
   have hs := hs (hb rfl)
   refine Tot.ret (show Tot _ _ from Tot.join (Tot.bind (p := fun _ => True) ?_ (fun b _ => ?_)))
   ·repeat' (first | exact Tot.ret trivial | refine Tot.ite (fun _ => ?_) (fun _ => ?_))
   ·cases b with
    | true => exact Tot.ret (fun h => by cases h)
    | false => exact Tot.ret (Tot.ret (fun _ => hs))
theorem toks_tot {a b : List St106} (ha : a.length ≤ 1000) : Tot (exergueref10_Toks a b) (fun _ => True) := by
 unfold exergueref10_Toks
 refine Tot.ite (fun _ => Tot.ret trivial) (fun hh => ?_)
 have hh : (a.length : Int) = b.length := by have := dFF hh; omega
 refine Tot.join (Tot.loop (fun s : Int => 0 ≤ s ∧ s ≤ (a.length : Int)) (fun s => ((a.length : Int) - s).toNat) ⟨by omega, by omega⟩ (by omega) (fun s hs => ?_))
 refine Tot.ite (fun hq => ?_) (fun _ => Tot.ret (Tot.ret trivial))
 have hq := dTT hq
 have f1 : IntKind.wrap .i64 (s + 1) = s + 1 := w64 (by omega) (by omega)
 rw [f1]
 exact Tot.yes (inR_int hs.1 hq) (Tot.yes (inR_int hs.1 (by omega)) (Tot.ite (fun _ => Tot.ret trivial) (fun _ => Tot.ret ⟨⟨by omega, by omega⟩, by omega⟩)))
theorem psame_tot {p q : St25} (h1 : p.Pre_.length ≤ 300) (h2 : p.Suf_.length ≤ 300) (h3 : p.NPre_.length ≤ 300) (h4 : p.NSuf_.length ≤ 300) : Tot (exergueref10_Same p q) (fun b => b = true → p.MinFrac_ = q.MinFrac_ ∧ p.MaxFrac_ = q.MaxFrac_) := by
 unfold exergueref10_Same
 refine Tot.bind (p := fun _ => True) (Tot.bind (toks_tot (by omega)) (fun _ _ => Tot.ite (fun _ => Tot.bind (toks_tot (by omega)) (fun _ _ => Tot.ret trivial)) (fun _ => Tot.ret trivial))) (fun x _ => ?_)
 refine Tot.bind (p := fun _ => True) (Tot.bind (toks_tot (by omega)) (fun _ _ => Tot.ite (fun _ => Tot.bind (toks_tot (by omega)) (fun _ _ => Tot.ret trivial)) (fun _ => Tot.ret trivial))) (fun y _ => ?_)
 refine Tot.join (Tot.bind (p := fun _ => True) ?_ (fun b _ => ?_))
 ·repeat' (first | exact Tot.ret trivial | refine Tot.ite (fun _ => ?_) (fun _ => ?_))
 ·cases b with
  | true => exact Tot.ret (fun h => by cases h)
  | false =>
   refine Tot.ret (show Tot _ _ from Tot.bind (p := fun _ => True) ?_ (fun z _ => Tot.bind (p := fun b => b = true → p.MinFrac_ = q.MinFrac_ ∧ p.MaxFrac_ = q.MaxFrac_) ?_ (fun _ h => Tot.ret h)))
   ·repeat' (first | exact Tot.ret trivial | refine Tot.ite (fun _ => ?_) (fun _ => ?_))
   ·refine Tot.ite (fun _ => Tot.ite (fun e1 => Tot.ite (fun e2 => ?_) (fun _ => Tot.ret (fun h => by cases h))) (fun _ => Tot.ret (fun h => by cases h))) (fun _ => Tot.ret (fun h => by cases h))
    have g1 := dTT e1
    have g2 := dTT e2
    repeat' (first | exact Tot.ret (fun _ => ⟨g1, g2⟩) | refine Tot.ite (fun _ => ?_) (fun _ => ?_))
theorem runes_tot {l : List St106} (hl : l.length ≤ 1000) : Tot (exergueref10_runes l) (fun _ => True) := by
 unfold exergueref10_runes
 refine Tot.join (Tot.loop (fun s : Int => 0 ≤ s ∧ s ≤ (l.length : Int)) (fun s => ((l.length : Int) - s).toNat) ⟨by omega, by omega⟩ (by omega) (fun s hs => ?_))
 refine Tot.ite (fun hq => ?_) (fun _ => Tot.ret (Tot.ret trivial))
 have hq := dTT hq
 have f1 : IntKind.wrap .i64 (s + 1) = s + 1 := w64 (by omega) (by omega)
 rw [f1]
 exact Tot.yes (inR_int hs.1 hq) (Tot.bind (is_tot _) (fun _ _ => Tot.ite (fun _ => Tot.ret trivial) (fun _ => Tot.ret ⟨⟨by omega, by omega⟩, by omega⟩)))
theorem pright_tot {p : St25} (h1 : p.Pre_.length ≤ 300) (h2 : p.Suf_.length ≤ 300) (h3 : p.NPre_.length ≤ 300) (h4 : p.NSuf_.length ≤ 300) : Tot (exergueref10_Right p) (fun b => b = true → cntP p ∧ pfP p) := by
 unfold exergueref10_Right
 generalize hL : ([p.Hash_, p.MinInt_, p.MinFrac_, p.MaxFrac_, p.G1_, p.G2_, p.MinSig_, p.MaxSig_, p.Exp_] : List Int) = L
 have hlen : L.length = 9 := by rw [← hL]; rfl
 refine Tot.join (Tot.loop (fun s : Int => 0 ≤ s ∧ s ≤ (L.length : Int) ∧ ∀ j : Nat, (j : Int) < s → 0 ≤ nth L j ∧ nth L j ≤ 40) (fun s => ((L.length : Int) - s).toNat) ⟨by omega, by omega, fun j hj => by omega⟩ (by omega) (fun s hs => ?_))
 refine Tot.ite (fun hq => ?_) (fun hq => Tot.ret (show Tot _ _ from ?_))
 ·have hq := dTT hq
  have hin := inR_int hs.1 hq
  refine Tot.join (Tot.bind (p := fun b => b = false → 0 ≤ nth L s ∧ nth L s ≤ 40) ?_ (fun b hb => ?_))
  ·refine Tot.yes hin (Tot.yes hin (Tot.ite (fun _ => Tot.ret (fun h => by cases h)) (fun g1 => Tot.yes hin (Tot.yes hin (Tot.ret (fun g2 => ?_))))))
   have g1 := dFF g1
   have g2 := dFF g2
   omega
  ·cases b with
   | true => exact Tot.ret (fun h => by cases h)
   | false =>
    have hb := hb rfl
    refine Tot.ret (show Tot _ _ from Tot.ret ?_)
    have f1 : IntKind.wrap .i64 (s + 1) = s + 1 := w64 (by omega) (by omega)
    rw [f1]
    refine ⟨⟨by omega, by omega, fun j hj => ?_⟩, by omega⟩
    by_cases hjs : (j : Int) < s
    ·exact hs.2.2 j hjs
    ·have : (j : Int) = s := by omega
     rw [this]; exact hb
 ·have hq := dFF hq
  have hall := hs.2.2
  have hs9 : s = 9 := by omega
  subst hs9
  subst hL
  have hc : cntP p := ⟨hall 0 (by omega), hall 1 (by omega), hall 2 (by omega), hall 3 (by omega), hall 4 (by omega), hall 5 (by omega), hall 6 (by omega), hall 7 (by omega), hall 8 (by omega)⟩
  have r1 := runes_tot (l := p.Pre_) (by omega)
  have r2 := runes_tot (l := p.Suf_) (by omega)
  have r3 := runes_tot (l := p.NPre_) (by omega)
  have r4 := runes_tot (l := p.NSuf_) (by omega)
  refine Tot.bind (is_tot _) (fun _ _ => ?_)
  refine Tot.bind (p := fun _ => True) (Tot.bind r1 (fun _ _ => Tot.ite (fun _ => Tot.bind r2 (fun _ _ => Tot.ret trivial)) (fun _ => Tot.ret trivial))) (fun _ _ => ?_)
  refine Tot.bind (p := fun _ => True) (Tot.bind r3 (fun _ _ => Tot.ite (fun _ => Tot.bind r4 (fun _ _ => Tot.ret trivial)) (fun _ => Tot.ret trivial))) (fun _ _ => ?_)
  refine Tot.join (Tot.bind (p := fun _ => True) ?_ (fun b _ => ?_))
  ·repeat' (first | exact Tot.ret trivial | refine Tot.ite (fun _ => ?_) (fun _ => ?_))
  ·cases b with
   | true => exact Tot.ret (fun h => by cases h)
   | false =>
    refine Tot.ret (show Tot _ _ from Tot.bind (ptext_tot hc h1 h2 h3 h4) (fun t ht => Tot.bind (parse_tot (by omega)) (fun o ho => ?_)))
    refine Tot.bind (p := fun b => b = true → cntP p ∧ pfP p) (Tot.ite (fun g => Tot.bind (psame_tot h1 h2 h3 h4) (fun b hb => Tot.ret (fun e => ⟨hc, ?_⟩))) (fun _ => Tot.ret (fun h => by cases h))) (fun _ h => Tot.ret h)
    have := ho (dTT g)
    obtain ⟨e1, e2⟩ := hb e
    unfold pfP at *
    rw [e1, e2]; exact this
theorem of_tot {p : St25} {n : Int} (h1 : p.Pre_.length ≤ 140737488355328) (h2 : p.Suf_.length ≤ 140737488355328) (h3 : p.NPre_.length ≤ 140737488355328) (h4 : p.NSuf_.length ≤ 140737488355328) : Tot (exerguelaw17_of p n) (fun b => b = true → cntP p ∧ pfP p ∧ n ≤ 40) := by
 unfold exerguelaw17_of exergueref10_Few
 have e1 : IntKind.wrap .i64 ((p.Pre_.length : Int) + (p.Suf_.length : Int)) = p.Pre_.length + p.Suf_.length := w64 (by omega) (by omega)
 have e2 : IntKind.wrap .i64 ((p.Pre_.length : Int) + (p.Suf_.length : Int) + (p.NPre_.length : Int)) = p.Pre_.length + p.Suf_.length + p.NPre_.length := w64 (by omega) (by omega)
 have e3 : IntKind.wrap .i64 ((p.Pre_.length : Int) + (p.Suf_.length : Int) + (p.NPre_.length : Int) + (p.NSuf_.length : Int)) = p.Pre_.length + p.Suf_.length + p.NPre_.length + p.NSuf_.length := w64 (by omega) (by omega)
 rw [e1, e2, e3]
 refine Tot.bind (p := fun b => b = true → cntP p ∧ pfP p ∧ n ≤ 40) (Tot.bind (p := fun b => b = decide ((p.Pre_.length : Int) + p.Suf_.length + p.NPre_.length + p.NSuf_.length ≤ 300)) (Tot.ret rfl) (fun b hb => ?_)) (fun _ h => Tot.ret h)
 subst hb
 refine Tot.ite (fun hq => ?_) (fun _ => Tot.ret (fun h => by cases h))
 have hq := dTT hq
 exact Tot.bind (pright_tot (by omega) (by omega) (by omega) (by omega)) (fun b hb => Tot.ite (fun g => Tot.ret (fun e => ⟨(hb g).1, (hb g).2, dTT e⟩)) (fun _ => Tot.ret (fun h => by cases h)))
theorem up_get {l : List Nat} {i : Nat} (h : i < l.length) : nth (up l) (i : Int) = ((l.getD i 0 : Nat) : Int) := by
 rw [nth_nat (by rw [up_len]; exact h)]
 simp [up, List.getD_eq_getElem?_getD, List.getElem?_eq_getElem h]
theorem fig_at {l : List Nat} {E p : Int} (h : rightP l E) (hp : -2900 ≤ p) (hp2 : p ≤ 100000) : magN l E / pw p % 10 = if E ≤ p ∧ p < E + l.length then l.getD (E + l.length - 1 - p).toNat 0 else 0 := by
 have hl := right_low h
 unfold magN
 by_cases h1 : E ≤ p
 ·obtain ⟨n, rfl⟩ : ∃ n : Nat, p = E + n := ⟨(p - E).toNat, by omega⟩
  rw [pw_add n (by omega), Nat.mul_comm (pw E), Nat.mul_div_mul_right _ _ (pw_pos E), vN_digit l h.1 n]
  by_cases h2 : n < l.length
  ·rw [if_pos h2, if_pos (by omega)]
   congr 1; omega
  ·rw [if_neg h2, if_neg (by omega)]
 ·rw [if_neg (by omega)]
  obtain ⟨n, hn⟩ : ∃ n : Nat, E = p + (n + 1 : Nat) := ⟨(E - p - 1).toNat, by omega⟩
  rw [hn, pw_add (n + 1) (by omega), Nat.pow_succ, ← Nat.mul_assoc, ← Nat.mul_assoc, Nat.mul_right_comm, Nat.mul_comm (vN l), Nat.mul_assoc, Nat.mul_assoc, Nat.mul_div_cancel_left _ (pw_pos p), ← Nat.mul_assoc, Nat.mul_right_comm]
  exact Nat.mul_mod_left _ _
theorem mag_eq {l : List Nat} {E : Int} {neg : Bool} (h : rightP l E) : dec_Mag ⟨neg, up l, E⟩ = some (if l = [] then 0 else E + l.length - 1) := by
 have hl := right_low h
 unfold dec_Mag dec_work__mag
 simp only [up_len]
 by_cases h0 : l = []
 ·subst h0; simp
 ·have : l.length ≠ 0 := fun e => h0 (List.eq_nil_of_length_eq_zero e)
  rw [dF (by omega), if_neg h0, w64 (n := E + (l.length : Int)) (by omega) (by omega), w64 (by omega) (by omega)]; rfl
theorem wmag_eq {l : List Nat} {E : Int} {neg : Bool} (h : rightP l E) : dec_work__mag ⟨⟨neg, up l, E⟩⟩ = some (if l = [] then 0 else E + l.length - 1) := by
 have := mag_eq (neg := neg) h
 unfold dec_Mag at this
 cases hm : dec_work__mag ⟨⟨neg, up l, E⟩⟩ with
 | none => rw [hm] at this; cases this
 | some v => rw [hm] at this; exact this
theorem at_eq {l : List Nat} {E p : Int} {neg : Bool} (h : rightP l E) (hp : -2900 ≤ p) (hp2 : p ≤ 100000) : dec_At ⟨neg, up l, E⟩ p = some ((magN l E / pw p % 10 : Nat) : Int) := by
 have hl := right_low h
 rw [fig_at h hp hp2]
 unfold dec_At
 rw [wmag_eq h]
 simp only
 by_cases h1 : p < E
 ·rw [dT h1, if_neg (show ¬ (E ≤ p ∧ p < E + l.length) by omega)]; rfl
 ·rw [dF h1]
  simp only [cond_false, Option.bind_some]
  by_cases h0 : l = []
  ·have hE := h.2.1 h0
   subst h0
   rw [if_pos rfl, if_neg (show ¬ (E ≤ p ∧ p < E + (([] : List Nat).length : Nat)) by simp)]
   by_cases hp0 : p > 0
   ·rw [dT hp0]; rfl
   ·rw [dF hp0]
    have : p = 0 := by omega
    subst this
    rfl
  ·rw [if_neg h0]
   by_cases h2 : p > E + l.length - 1
   ·rw [dT h2, if_neg (show ¬ (E ≤ p ∧ p < E + l.length) by omega)]; rfl
   ·have hpos : 0 < l.length := List.length_pos_iff.2 h0
    rw [dF h2, if_pos (show E ≤ p ∧ p < E + l.length by omega), w64 (by omega) (by omega)]
    simp only [cond_false, Option.bind_some, joinX]
    unfold dec_work__figure
    simp only [up_len]
    obtain ⟨i, hi⟩ : ∃ i : Nat, E + l.length - 1 - p = i := ⟨(E + l.length - 1 - p).toNat, by omega⟩
    have hil : i < l.length := by omega
    rw [hi, dF (by omega), dF (by omega), ← up_len l, inR_nat (by rw [up_len]; exact hil), up_get hil]
    simp [joinX]
theorem below_eq {l : List Nat} {E p : Int} {neg : Bool} (h : rightP l E) (hp : -2900 ≤ p) (hp2 : p ≤ 100000) : round_below ⟨neg, up l, E⟩ p = some (decide (magN l E % pw p ≠ 0)) := by
 have hl := right_low h
 unfold round_below magN
 simp only [up_len]
 by_cases h0 : l = []
 ·subst h0; simp [vN]
 ·have hpos : 0 < l.length := List.length_pos_iff.2 h0
  rw [dT (by omega)]
  simp only [cond_true, Option.bind_some]
  congr 1
  by_cases h1 : E < p
  ·rw [dT h1, eq_comm, decide_eq_true_eq]
   obtain ⟨n, hn⟩ : ∃ n : Nat, p = E + (n + 1 : Nat) := ⟨(p - E - 1).toNat, by omega⟩
   rw [hn, pw_add (n + 1) (by omega), Nat.mul_comm (pw E), Nat.mul_mod_mul_right]
   intro e
   have hlast := vN_last h.1 h0 (h.2.2 h0).2.2.2.2
   rcases Nat.mul_eq_zero.1 e with e | e
   ·apply hlast
    have hd : 10 ∣ 10 ^ (n + 1) := by rw [Nat.pow_succ]; exact Nat.dvd_mul_left _ _
    have h2 : vN l % 10 ^ (n + 1) % 10 = vN l % 10 := Nat.mod_mod_of_dvd _ hd
    rw [e] at h2; omega
   ·have := pw_pos E; omega
  ·rw [dF h1, eq_comm, decide_eq_false_iff_not, ne_eq, Decidable.not_not]
   obtain ⟨n, hn⟩ : ∃ n : Nat, E = p + n := ⟨(E - p).toNat, by omega⟩
   rw [hn, pw_add n (by omega), ← Nat.mul_assoc, Nat.mul_right_comm]
   exact Nat.mul_mod_left _ _
def mny (A k : Nat) (M : Int) : Nat → List Nat
 | 0 => []
 | i + 1 => mny A k M i ++ [((A / pw (M - i + 1) % k) * 10 + A / pw (M - i) % 10) / k]
theorem t_step {A : Nat} {p : Int} (hp : -3000 ≤ p) : A / pw p = 10 * (A / pw (p + 1)) + A / pw p % 10 := by
 rw [pw_succ hp, ← Nat.div_div_eq_div_mul]; omega
theorem div_step {t k d : Nat} : (10 * t + d) / k = 10 * (t / k) + ((t % k) * 10 + d) / k ∧ (10 * t + d) % k = ((t % k) * 10 + d) % k := by
 rcases Nat.eq_zero_or_pos k with h | h
 ·subst h; simp; omega
 ·have e : 10 * t + d = ((t % k) * 10 + d) + k * (10 * (t / k)) := by
   have := Nat.div_add_mod t k
   have e2 : k * (10 * (t / k)) = 10 * (k * (t / k)) := by rw [Nat.mul_left_comm]
   rw [e2]; omega
  rw [e]
  exact ⟨by rw [Nat.add_mul_div_left _ _ h, Nat.add_comm], by rw [Nat.add_mul_mod_self_left]⟩
theorem mny_facts {A k : Nat} {M : Int} (hk : 0 < k) : ∀ i : Nat, -3000 ≤ M - i → A / pw (M + 1) = 0 → vN (mny A k M i) = A / pw (M - i + 1) / k ∧ digP (mny A k M i) ∧ (mny A k M i).length = i
 | 0, _, h0 => by
  have e : M - ((0 : Nat) : Int) + 1 = M + 1 := by omega
  rw [e, h0]; exact ⟨by simp [mny, vN], (fun x hx => by cases hx), rfl⟩
 | i + 1, hM, h0 => by
  obtain ⟨f1, f2, f3⟩ := mny_facts (A := A) (k := k) (M := M) hk i (by omega) h0
  have e : M - ((i + 1 : Nat) : Int) + 1 = M - i := by omega
  have ht := t_step (A := A) (p := M - i) (by omega)
  have hd := div_step (t := A / pw (M - i + 1)) (k := k) (d := A / pw (M - i) % 10)
  refine ⟨?_, dig_append f2 (fun x hx => ?_), by simp [mny, f3]⟩
  ·show vN (mny A k M i ++ [_]) = _
   rw [vN_snoc, f1, e]
   generalize A / pw (M - i) = T at *
   rw [← ht] at hd
   have := hd.1
   omega
  ·simp at hx
   subst hx
   have h1 := Nat.mod_lt (A / pw (M - i + 1)) hk
   have h2 := Nat.mod_lt (A / pw (M - i)) (show 0 < 10 by decide)
   have : (A / pw (M - i + 1) % k) * 10 + A / pw (M - i) % 10 < 10 * k := by omega
   have := Nat.div_lt_of_lt_mul (m := (A / pw (M - i + 1) % k) * 10 + A / pw (M - i) % 10) (n := k) (k := 10) (by omega)
   omega
theorem mag_top {l : List Nat} {E : Int} (h : rightP l E) : magN l E / pw ((if l = [] then 0 else E + l.length - 1) + 1) = 0 := by
 have hl := right_low h
 apply Nat.div_eq_of_lt
 unfold magN
 by_cases h0 : l = []
 ·subst h0; simp [vN]; exact pw_pos _
 ·rw [if_neg h0]
  have e : E + (l.length : Int) - 1 + 1 = E + l.length := by omega
  rw [e, pw_add l.length (by omega), Nat.mul_comm (pw E)]
  exact (Nat.mul_lt_mul_right (pw_pos E)).2 (vN_lt h.1)
theorem split_eq {l : List Nat} {E p : Int} {k : Nat} {neg : Bool} (h : rightP l E) (hp : -1000 ≤ p) (hp2 : p ≤ 1000) (hk : 1 ≤ k) (hk2 : k ≤ 1000000000) :
  ∃ many : List Nat, round_split ⟨neg, up l, E⟩ k p = some (up many, ((magN l E / pw p % k : Nat) : Int)) ∧ vN many = magN l E / pw p / k ∧ digP many ∧ many.length ≤ 4000 := by
 have hl := right_low h
 have htop := mag_top h
 generalize hM : (if l = [] then 0 else E + (l.length : Int) - 1) = M at htop
 have hMr : -1001 ≤ M ∧ M ≤ 2000 := by rw [← hM]; split <;> omega
 generalize hA : magN l E = A at htop
 have hn : ∃ n : Nat, (n : Int) = max (M - p + 1) 0 := ⟨(max (M - p + 1) 0).toNat, by omega⟩
 obtain ⟨n, hn⟩ := hn
 have hT : A / pw (M - n + 1) = A / pw p := by
  by_cases hc : p ≤ M
  ·have : M - (n : Int) + 1 = p := by omega
   rw [this]
  ·have : n = 0 := by omega
   subst this
   have e : M - ((0 : Nat) : Int) + 1 = M + 1 := by omega
   rw [e, htop, eq_comm]
   apply Nat.div_eq_of_lt
   have h1 := Nat.div_eq_zero_iff.1 htop
   have h2 := pw_pos (M + 1)
   have h3 := pw_le (m := M + 1) (n := p) (by omega) (by omega)
   omega
 have hf := mny_facts (A := A) (k := k) (M := M) (by omega) n (by omega) htop
 rw [hT] at hf
 refine ⟨mny A k M n, ?_, hf.1, hf.2.1, by rw [hf.2.2]; omega⟩
 unfold round_split
 rw [mag_eq h, hM]
 simp only [Option.bind_some]
 refine bind_of (fun o => o = ((((A / pw p % k : Nat)) : Int), up (mny A k M n))) (loop_count n (fun i => ((((A / pw (M - i + 1) % k : Nat)) : Int), M - i, up (mny A k M i))) (fun _ => True) _ ?_ trivial (fun i hi _ => .inl ⟨?_, trivial⟩) (fun _ => ⟨_, ?_, rfl⟩) (by omega)) (fun o ho => by rw [ho])
 ·have e : M - ((0 : Nat) : Int) + 1 = M + 1 := by omega
  rw [e, htop]
  simp [mny, up]
 ·have hfi := mny_facts (A := A) (k := k) (M := M) (by omega) i (by omega) htop
  have hdig := (mny_facts (A := A) (k := k) (M := M) (by omega) (i + 1) (by omega) htop).2.1
  have e : M - ((i + 1 : Nat) : Int) + 1 = M - i := by omega
  have e1 : M - ((i + 1 : Nat) : Int) = M - i - 1 := by omega
  have ht := t_step (A := A) (p := M - i) (by omega)
  have hd := div_step (t := A / pw (M - i + 1)) (k := k) (d := A / pw (M - i) % 10)
  have h1 := Nat.mod_lt (A / pw (M - i + 1)) (show 0 < k by omega)
  have h2 := Nat.mod_lt (A / pw (M - i)) (show 0 < 10 by decide)
  have hq : ((A / pw (M - i + 1) % k) * 10 + A / pw (M - i) % 10) / k ≤ 9 := hdig _ (by simp [mny])
  simp only [mny, up_append]
  rw [dT (by omega), at_eq h (by omega) (by omega), hA, e, e1]
  have hz : nz (k : Int) = true := by simp [nz]; omega
  rw [hz]
  simp only [cond_true, Option.bind_some]
  show (bif room _ then _ else none) = _
  generalize A / pw (M - i + 1) % k = r at *
  generalize hT2 : A / pw (M - i) = T at *
  have hx : IntKind.wrap .i64 (IntKind.wrap .i64 ((r : Int) * 10) + IntKind.wrap .i64 ((T % 10 : Nat) : Int)) = ((r * 10 + T % 10 : Nat) : Int) := by
   rw [w64 (n := (r : Int) * 10) (by omega) (by omega), w64 (n := ((T % 10 : Nat) : Int)) (by omega) (by omega), w64 (by omega) (by omega)]; omega
  rw [hx]
  have hq1 : Int.tdiv ((r * 10 + T % 10 : Nat) : Int) (k : Int) = (((r * 10 + T % 10) / k : Nat) : Int) := (Int.ofNat_tdiv _ _).symm
  have hq2 : Int.tmod ((r * 10 + T % 10 : Nat) : Int) (k : Int) = (((r * 10 + T % 10) % k : Nat) : Int) := (Int.ofNat_tmod _ _).symm
  have hT2 : T % k = (r * 10 + T % 10) % k := by rw [← hd.2, ← ht]
  rw [hq1, hq2, hT2, room_of (by rw [up_len, hfi.2.2]; simp; omega), w64 (n := M - (i : Int) - 1) (by omega) (by omega)]
  clear hq1 hq2 hd
  generalize (r * 10 + T % 10) / k = q at *
  rw [w64 (n := (q : Int)) (by omega) (by omega), w8 (by omega) (by omega)]
  rfl
 ·simp only
  rw [hT, dF (by omega)]; rfl
/-! How a number lies to the middle. -/
def halfI (r U : Nat) : Int := if 2 * r < U then -1 else if 2 * r > U then 1 else 0
theorem mod_unit {A k : Nat} {p : Int} : A % (k * pw p) = A % pw p + pw p * (A / pw p % k) := by
 rw [Nat.mul_comm, Nat.mod_mul]
theorem div_unit {A k : Nat} {p : Int} : A / (k * pw p) = A / pw p / k := by
 rw [Nat.mul_comm, Nat.div_div_eq_div_mul]
theorem mod_zero {A k : Nat} {p : Int} : A % (k * pw p) = 0 ↔ A / pw p % k = 0 ∧ A % pw p = 0 := by
 have := pw_pos p
 rw [mod_unit, Nat.add_eq_zero_iff, Nat.mul_eq_zero]
 constructor
 ·rintro ⟨h1, h2⟩; exact ⟨by rcases h2 with h2 | h2; omega; exact h2, h1⟩
 ·rintro ⟨h1, h2⟩; exact ⟨h2, .inr h1⟩
theorem middle_num {Q f w left k : Nat} (hw : w < Q) (hf : f ≤ 9) (P r U : Nat) (hP : P = Q * 10) (hr : r = (w + Q * f) + P * left) (hU : U = k * P) :
  ((2 * left + if f ≥ 5 then 1 else 0) < k → 2 * r < U) ∧ ((2 * left + if f ≥ 5 then 1 else 0) > k → 2 * r > U) ∧
  ((2 * left + if f ≥ 5 then 1 else 0) = k → f % 5 ≠ 0 → 2 * r > U) ∧
  ((2 * left + if f ≥ 5 then 1 else 0) = k → f % 5 = 0 → w ≠ 0 → 2 * r > U) ∧
  ((2 * left + if f ≥ 5 then 1 else 0) = k → f % 5 = 0 → w = 0 → 2 * r = U) := by
 have e1 : 2 * r = Q * (20 * left + 2 * f) + 2 * w := by
  rw [hr, hP, Nat.mul_add Q, Nat.mul_assoc Q 10 left, Nat.mul_left_comm Q 20 left, Nat.mul_left_comm Q 10 left, Nat.mul_left_comm Q 2 f]
  generalize left * 10 = a
  have : Q * (10 * left) = 10 * (Q * left) := Nat.mul_left_comm ..
  have : Q * (20 * left) = 20 * (Q * left) := Nat.mul_left_comm ..
  simp only [Nat.mul_left_comm Q 10 left, Nat.mul_left_comm Q 20 left] at *
  omega
 have e2 : U = Q * (10 * k) := by rw [hU, hP, Nat.mul_comm k, Nat.mul_assoc]
 have less : 20 * left + 2 * f + 2 ≤ 10 * k → 2 * r < U := fun h => by
  have := Nat.mul_le_mul_left Q h
  rw [Nat.mul_add Q _ 2] at this
  omega
 have more : 10 * k + 2 ≤ 20 * left + 2 * f → 2 * r > U := fun h => by
  have := Nat.mul_le_mul_left Q h
  rw [Nat.mul_add Q _ 2] at this
  omega
 have same : 10 * k = 20 * left + 2 * f → 2 * r = U + 2 * w := fun h => by
  rw [e1, e2, h]
 refine ⟨fun h => less ?_, fun h => more ?_, fun h h2 => more ?_, fun h h2 h3 => ?_, fun h h2 h3 => ?_⟩
 ·split at h <;> omega
 ·split at h <;> omega
 ·split at h <;> omega
 ·have := same (by split at h <;> omega)
  omega
 ·have := same (by split at h <;> omega)
  omega
theorem middle_eq {l : List Nat} {E p : Int} {k : Nat} {neg : Bool} (h : rightP l E) (hp : -1000 ≤ p) (hp2 : p ≤ 1000) (hk : 1 ≤ k) (hk2 : k ≤ 1000000000) :
  round_middle ⟨neg, up l, E⟩ ((magN l E / pw p % k : Nat) : Int) k p = some (halfI (magN l E % (k * pw p)) (k * pw p)) := by
 have hpw : pw p = pw (p - 1) * 10 := by have := pw_succ (m := p - 1) (by omega); rw [show p - 1 + 1 = p by omega] at this; exact this
 have ef : magN l E % pw p = magN l E % pw (p - 1) + pw (p - 1) * (magN l E / pw (p - 1) % 10) := by rw [hpw, Nat.mod_mul]
 unfold round_middle
 rw [w64 (n := p - 1) (by omega) (by omega), at_eq h (by omega) (by omega), below_eq h (by omega) (by omega)]
 have hm := mod_unit (A := magN l E) (k := k) (p := p)
 rw [ef] at hm
 generalize magN l E % (k * pw p) = r at *
 have hleft := Nat.mod_lt (magN l E / pw p) (show 0 < k by omega)
 generalize magN l E / pw p % k = left at *
 have hf := Nat.mod_lt (magN l E / pw (p - 1)) (show 0 < 10 by omega)
 generalize magN l E / pw (p - 1) % 10 = f at *
 have hw := Nat.mod_lt (magN l E) (pw_pos (p - 1))
 generalize magN l E % pw (p - 1) = w at *
 obtain ⟨c1, c2, c3, c4, c5⟩ := middle_num (k := k) (left := left) hw (show f ≤ 9 by omega) (pw p) r (k * pw p) hpw hm rfl
 generalize k * pw p = U at *
 simp only [Option.bind_some]
 have ht : (bif decide ((f : Int) ≥ 5) then some (IntKind.wrap .i64 (IntKind.wrap .i64 (2 * (left : Int)) + 1)) else some (IntKind.wrap .i64 (2 * (left : Int)))) = some (((2 * left + if f ≥ 5 then 1 else 0 : Nat) : Int)) := by
  rw [w64 (n := 2 * (left : Int)) (by omega) (by omega)]
  by_cases h5 : f ≥ 5
  ·rw [dT (by omega), if_pos h5, w64 (by omega) (by omega)]; rfl
  ·rw [dF (by omega), if_neg h5]; rfl
 rw [ht]
 generalize (2 * left + if f ≥ 5 then 1 else 0) = t at *
 have hf5 : Int.tmod (f : Int) 5 = ((f % 5 : Nat) : Int) := (Int.ofNat_tmod _ _).symm
 rw [hf5]
 simp only [Option.bind_some]
 unfold halfI
 rcases Nat.lt_trichotomy t k with hlt | heq | hgt
 ·rw [dT (by omega), if_pos (c1 hlt)]; rfl
 ·rw [dF (show ¬ (t : Int) < k by omega), dF (show ¬ (t : Int) > k by omega)]
  by_cases h5 : f % 5 = 0
  ·rw [dF (show ¬ ¬ ((f % 5 : Nat) : Int) = 0 by omega)]
   by_cases hw0 : w = 0
   ·have := c5 heq h5 hw0
    rw [if_neg (by omega), if_neg (by omega), dF (show ¬ w ≠ 0 by omega)]; rfl
   ·have := c4 heq h5 hw0
    rw [if_neg (by omega), if_pos (by omega), dT (show w ≠ 0 from hw0)]; rfl
  ·have := c3 heq h5
   rw [dT (show ¬ ((f % 5 : Nat) : Int) = 0 by omega), if_neg (by omega), if_pos (by omega)]; rfl
 ·have := c2 hgt
  rw [dF (show ¬ (t : Int) < k by omega), dT (show (t : Int) > k by omega), if_neg (by omega), if_pos (by omega)]; rfl
theorem next_eq {l : List Nat} (hd : digP l) (hl : l.length ≤ 4000) : ∃ m, round_next (up l) = some (up m) ∧ vN m = vN l + 1 ∧ digP m ∧ m.length ≤ l.length + 1 := by
 let st : List Nat → Int × List Int := fun suf => ((l.length : Int) - 1 - suf.length, up (l.take (l.length - suf.length)) ++ up (List.replicate suf.length 0))
 let post : (List Int ⊕ List Int) → Prop := fun o => ∃ m, joinX (fun (s61 : (List Int)) => (bif room (([1] : List Int).length + s61.length) then (some (([1] : List Int) ++ s61)) else none)) o = some (up m) ∧ vN m = vN l + 1 ∧ digP m ∧ m.length ≤ l.length + 1
 suffices hmain : ∃ o, loopN (fun (s66 : Int × (List Int)) => (bif (decide (s66.1 ≥ 0)) then (bif inR s66.1 s66.2.length then (bif inR s66.1 s66.2.length then (bif (decide ((nth s66.2 s66.1) < 9)) then (bif inR s66.1 s66.2.length then (bif inR s66.1 s66.2.length then (bif inR s66.1 s66.2.length then (bif inR s66.1 s66.2.length then (some (.inr (.inr (setAt s66.2 s66.1 ((IntKind.wrap .u8 ((nth s66.2 s66.1) + 1))))))) else none) else none) else none) else none) else (bif inR s66.1 s66.2.length then (bif inR s66.1 s66.2.length then (some (.inl ((IntKind.wrap .i64 (s66.1 - 1)), (setAt s66.2 s66.1 0)))) else none) else none)) else none) else none) else (some (.inr (.inl s66.2))))) big ((IntKind.wrap .i64 (((up l).length : Int) - 1)), up l) = some o ∧ post o by
  obtain ⟨o, h1, m, h2, h3⟩ := hmain
  exact ⟨m, by unfold round_next; rw [h1]; exact h2, h3⟩
 refine loop_back l st (fun suf => suf = List.replicate suf.length 9) post ?_ rfl (fun pre x suf hx hi => ?_) (fun hi => ?_) (by omega)
 ·rw [up_len, w64 (by omega) (by omega)]
  simp [st, up]
  rw [← List.map_take, List.take_length]
 ·have hst : st suf = ((pre.length : Int), up pre ++ (x : Int) :: up (List.replicate suf.length 0)) := by
   have e : l.take (l.length - suf.length) = pre ++ [x] := by
    rw [hx, show (pre ++ x :: suf).length - suf.length = (pre ++ [x]).length by simp; omega, show pre ++ x :: suf = (pre ++ [x]) ++ suf by simp, List.take_left]
   simp only [st, e, up_append]
   rw [hx]
   simp [up]; omega
  have hx9 : x ≤ 9 := hd x (by rw [hx]; simp)
  have hlen : l.length = pre.length + 1 + suf.length := by rw [hx]; simp; omega
  have hin : inR (pre.length : Int) (up pre ++ (x : Int) :: up (List.replicate suf.length 0)).length = true := by have := inR_mid (pre := up pre) (suf := up (List.replicate suf.length 0)) (x := (x : Int)); rw [up_len] at this; exact this
  have hnth : nth (up pre ++ (x : Int) :: up (List.replicate suf.length 0)) (pre.length : Int) = x := by have := nth_mid (pre := up pre) (suf := up (List.replicate suf.length 0)) (x := (x : Int)); rw [up_len] at this; exact this
  have hset : ∀ v, setAt (up pre ++ (x : Int) :: up (List.replicate suf.length 0)) (pre.length : Int) v = up pre ++ v :: up (List.replicate suf.length 0) := fun v => by have := setAt_mid (pre := up pre) (suf := up (List.replicate suf.length 0)) (x := (x : Int)) (v := v); rw [up_len] at this; exact this
  rw [hst]
  simp only [hin, hnth, hset, dT (show (pre.length : Int) ≥ 0 by omega), cond_true]
  by_cases hlt : x < 9
  ·refine .inr ⟨.inr (up (pre ++ (x + 1) :: List.replicate suf.length 0)), ?_, pre ++ (x + 1) :: List.replicate suf.length 0, rfl, ?_, ?_, by simp [hlen]; omega⟩
   ·rw [dT (show (x : Int) < 9 by omega), w8 (by omega) (by omega)]
    simp [up]
   ·have h9 := vN_nines suf.length
    rw [← hi] at h9
    rw [hx, vN_append, vN_append, vN_cons, vN_cons, vN_zeros]
    simp only [List.length_cons, List.length_replicate]
    rw [Nat.add_mul]; omega
   ·exact dig_append (fun y hy => hd y (by rw [hx]; exact List.mem_append_left _ hy)) (fun y hy => by
     rcases List.mem_cons.1 hy with rfl | hy
     ·omega
     ·have := List.eq_of_mem_replicate hy; omega)
  ·obtain rfl : x = 9 := by omega
   refine .inl ⟨?_, ?_⟩
   ·rw [dF (show ¬ ((9 : Nat) : Int) < 9 by omega), w64 (by omega) (by omega)]
    have e : l.take (l.length - (9 :: suf).length) = pre := by
     rw [hx, show (pre ++ 9 :: suf).length - (9 :: suf).length = pre.length by simp, List.take_left]
    simp only [st, e, cond_false]
    congr 3
    ·simp; omega
   ·rw [List.length_cons, List.replicate_succ, ← hi]
 ·have hst : st l = (-1, up (List.replicate l.length 0)) := by
   simp only [st]
   congr 1
   ·omega
   ·simp [up]
  rw [hst]
  refine ⟨.inl (up (List.replicate l.length 0)), rfl, 1 :: List.replicate l.length 0, ?_, ?_, ?_, by simp⟩
  ·rw [joinX, room_of (by simp [up]; omega)]; rfl
  ·have h9 := vN_nines l.length
   rw [← hi] at h9
   rw [vN_cons, vN_zeros, List.length_replicate]; omega
  ·intro y hy
   rcases List.mem_cons.1 hy with rfl | hy
   ·omega
   ·have := List.eq_of_mem_replicate hy; omega
def tm (k : Nat) : List Nat → Nat × List Nat
 | [] => (0, [])
 | x :: suf => (((tm k suf).1 + x * k) / 10, (tm k suf).2 ++ [((tm k suf).1 + x * k) % 10])
theorem tm_facts {k : Nat} (hk : 1 ≤ k) : ∀ l, digP l → (tm k l).1 * 10 ^ l.length + vN (tm k l).2.reverse = vN l * k ∧ (tm k l).1 < k ∧ digP (tm k l).2 ∧ (tm k l).2.length = l.length
 | [], _ => ⟨by simp [tm, vN], by simp [tm]; omega, (fun x hx => by cases hx), rfl⟩
 | x :: suf, h => by
  obtain ⟨f1, f2, f3, f4⟩ := tm_facts hk suf (fun y hy => h y (List.mem_cons_of_mem _ hy))
  have hx := h x (List.mem_cons_self ..)
  have hxk : x * k ≤ 9 * k := Nat.mul_le_mul_right _ hx
  refine ⟨?_, ?_, dig_append f3 (fun y hy => by simp at hy; omega), by simp [tm, f4]⟩
  ·simp only [tm, List.reverse_append, List.reverse_cons, List.reverse_nil, List.nil_append, List.singleton_append]
   rw [vN_cons, List.length_reverse, f4, List.length_cons, vN_cons, Nat.add_mul, ← f1]
   generalize hc : (tm k suf).1 + x * k = c
   have e1 : c / 10 * 10 ^ (suf.length + 1) = (c / 10 * 10) * 10 ^ suf.length := by rw [Nat.pow_succ, Nat.mul_comm (10 ^ _) 10, Nat.mul_assoc]
   have e2 : (c / 10 * 10) * 10 ^ suf.length + c % 10 * 10 ^ suf.length = c * 10 ^ suf.length := by rw [← Nat.add_mul]; congr 1; omega
   have e3 : c * 10 ^ suf.length = (tm k suf).1 * 10 ^ suf.length + x * 10 ^ suf.length * k := by rw [← hc, Nat.add_mul, Nat.mul_right_comm]
   omega
  ·show ((tm k suf).1 + x * k) / 10 < k
   omega
theorem carry_loop : ∀ (n c : Nat) (out : List Nat), c ≤ n → c ≤ 4611686018427387904 → out.length + (digsN c).length ≤ 10000 → ∀ fuel, c < fuel →
  loopN (fun (s80 : Int × (List Int)) => (bif (decide (s80.1 > 0)) then (bif room (s80.2.length + (([(IntKind.wrap .u8 (Int.tmod s80.1 10))] : List Int)).length) then (some (.inl ((IntKind.wrap .i64 (Int.tdiv s80.1 10)), (s80.2 ++ (([(IntKind.wrap .u8 (Int.tmod s80.1 10))] : List Int)))))) else none) else (some (.inr s80.2)))) fuel ((c : Int), up out) = some (up (out ++ (digsN c).reverse)) := by
 intro n
 induction n with
 | zero =>
  intro c out hc _ _ fuel hf
  obtain rfl : c = 0 := by omega
  obtain ⟨m, rfl⟩ : ∃ m, fuel = m + 1 := ⟨fuel - 1, by omega⟩
  rw [digsN_zero]
  exact loopN_out (by simp)
 | succ n ih =>
  intro c out hc hbig hlen fuel hf
  obtain ⟨m, rfl⟩ : ∃ m, fuel = m + 1 := ⟨fuel - 1, by omega⟩
  by_cases h0 : c = 0
  ·subst h0
   rw [digsN_zero]
   exact loopN_out (by simp)
  ·rw [digsN_pos h0] at hlen ⊢
   have h1 : Int.tmod (c : Int) 10 = ((c % 10 : Nat) : Int) := (Int.ofNat_tmod _ _).symm
   have h2 : Int.tdiv (c : Int) 10 = ((c / 10 : Nat) : Int) := (Int.ofNat_tdiv _ _).symm
   rw [loopN_next (s' := (((c / 10 : Nat) : Int), up (out ++ [c % 10])))]
   ·rw [ih (c / 10) (out ++ [c % 10]) (by omega) (by omega) (by simp at hlen ⊢; omega) m (by omega)]
    simp
   ·simp only [dT (show (c : Int) > 0 by omega), h1, h2, cond_true]
    rw [room_of (by rw [up_len]; simp at hlen ⊢; omega), w8 (by omega) (by omega), w64 (n := ((c / 10 : Nat) : Int)) (by omega) (by omega), up_append]
    rfl
theorem times_eq {l : List Nat} {k : Nat} (hd : digP l) (hl : l.length ≤ 4001) (hk : 1 ≤ k) (hk2 : k ≤ 1000000000) : ∃ m, round_times (up l) k = some (up m) ∧ vN m = vN l * k ∧ digP m ∧ m.length ≤ 4100 := by
 obtain ⟨f1, f2, f3, f4⟩ := tm_facts hk l hd
 have hdl := digs_len (n := (tm k l).1) 10 (by omega)
 refine ⟨digsN (tm k l).1 ++ (tm k l).2.reverse, ?_, ?_, dig_append (digs_dig _) (fun x hx => f3 x (List.mem_reverse.1 hx)), by simp [f4]; omega⟩
 ·unfold round_times
  rw [up_len]
  rw [loop_fold_back l (fun suf => (((tm k suf).1 : Int), (l.length : Int) - 1 - suf.length, up (tm k suf).2)) (((tm k l).1 : Int), up (tm k l).2)]
  ·simp only [Option.bind_some]
   rw [carry_loop _ _ _ (Nat.le_refl _) (by omega) (by rw [f4]; omega) big (by unfold big; omega)]
   simp only [Option.bind_some]
   unfold slices_Reverse_s0
   rw [reverse_loop _ (by rw [up_len]; simp [f4]; omega)]
   simp [up, List.map_reverse]
  ·rw [w64 (by omega) (by omega)]; simp [tm, up]
  ·intro pre x suf hx
   have hlen : l.length = pre.length + 1 + suf.length := by rw [hx]; simp; omega
   obtain ⟨g1, g2, g3, g4⟩ := tm_facts hk suf (fun y hy => hd y (by rw [hx]; simp [hy]))
   have hx9 : x ≤ 9 := hd x (by rw [hx]; simp)
   have hxk : x * k ≤ 9 * k := Nat.mul_le_mul_right _ hx9
   have ei : (l.length : Int) - 1 - suf.length = pre.length := by omega
   have hin : inR (pre.length : Int) l.length = true := inR_nat (by omega)
   have hnth : nth (up l) (pre.length : Int) = x := by rw [hx, up_append, up_cons]; have := nth_mid (pre := up pre) (suf := up suf) (x := (x : Int)); rw [up_len] at this; exact this
   simp only [ei, hin, hnth, cond_true]
   rw [dT (by omega)]
   generalize hc0 : (tm k suf).1 = c0 at *
   have hw : IntKind.wrap .i64 ((c0 : Int) + IntKind.wrap .i64 (IntKind.wrap .i64 (x : Int) * (k : Int))) = ((c0 + x * k : Nat) : Int) := by
    have e : (x : Int) * (k : Int) = ((x * k : Nat) : Int) := by simp
    rw [w64 (n := (x : Int)) (by omega) (by omega), e, w64 (n := ((x * k : Nat) : Int)) (by omega) (by omega), w64 (by omega) (by omega)]; omega
   rw [hw]
   have h1 : Int.tmod ((c0 + x * k : Nat) : Int) 10 = (((c0 + x * k) % 10 : Nat) : Int) := (Int.ofNat_tmod _ _).symm
   have h2 : Int.tdiv ((c0 + x * k : Nat) : Int) 10 = (((c0 + x * k) / 10 : Nat) : Int) := (Int.ofNat_tdiv _ _).symm
   rw [h1, h2, room_of (by rw [up_len, g4]; simp; omega), w8 (by omega) (by omega), w64 (n := (((c0 + x * k) / 10 : Nat) : Int)) (by omega) (by omega), w64 (n := (pre.length : Int) - 1) (by omega) (by omega)]
   simp only [tm, hc0, cond_true, up_append]
   congr 4
   simp; omega
  ·simp only
   rw [dF (by omega)]; rfl
  ·omega
 ·rw [vN_append, List.length_reverse, f4, vN_digs, f1]
/-! What is right, found out. -/
theorem figures_eq {l : List Nat} (hd : digP l) (hl : l.length ≤ 100000) : dec_figures (up l) = some true := by
 unfold dec_figures
 rw [all_loop (fun c => decide (c > 9)) (up l) (by rw [up_len]; omega), if_pos]
 ·rfl
 ·rw [List.all_eq_true]
  intro c hc
  obtain ⟨x, hx, rfl⟩ := List.mem_map.1 hc
  have := hd x hx
  simp; omega
theorem up_head {x : Nat} {l : List Nat} : nth (up (x :: l)) 0 = x := rfl
theorem up_last {x : Nat} {l : List Nat} : nth (up (l ++ [x])) (l.length : Int) = x := by
 rw [up_append]; have := nth_mid (pre := up l) (suf := []) (x := (x : Int)); rw [up_len] at this; exact this
theorem right_eq {l : List Nat} {E : Int} {neg : Bool} (h : rightP l E) : dec_Right ⟨neg, up l, E⟩ = some true := by
 unfold dec_Right
 simp only [up_len]
 by_cases h0 : l = []
 ·subst h0
  rw [dT (by simp)]
  simp [h.2.1 rfl]
 ·obtain ⟨b1, b2, b3, b4, b5⟩ := h.2.2 h0
  have hpos : 0 < l.length := List.length_pos_iff.2 h0
  rw [dF (show ¬ (l.length : Int) = 0 by omega), dF (show ¬ (l.length : Int) > 1000 by omega), dF (show ¬ E < -1000 by omega), dF (show ¬ E > 1000 by omega)]
  have hin : inR 0 l.length = true := inR_int (by omega) (by omega)
  rw [hin, w64 (by omega) (by omega)]
  have hin2 : inR ((l.length : Int) - 1) l.length = true := inR_int (by omega) (by omega)
  rw [hin2]
  have hh : ¬ nth (up l) 0 = 0 := by
   cases l with
   | nil => exact absurd rfl h0
   | cons x l => rw [up_head]; intro e; apply b4; simp; omega
  have hll : ¬ nth (up l) ((l.length : Int) - 1) = 0 := by
   rcases List.eq_nil_or_concat l with h1 | ⟨p, c, h1⟩
   ·exact absurd h1 h0
   ·rw [List.concat_eq_append] at h1
    subst h1
    have e : (((p ++ [c]).length : Nat) : Int) - 1 = (p.length : Int) := by simp
    rw [e, up_last]
    intro e; apply b5; simp; omega
  rw [dT hh, dT hll, figures_eq h.1 (by omega)]
  rfl
theorem strip : ∀ z : List Nat, ∃ a b core, z = List.replicate a 0 ++ core ++ List.replicate b 0 ∧ (core = [] → b = 0) ∧ core.head? ≠ some 0 ∧ core.getLast? ≠ some 0 := by
 have lead : ∀ z : List Nat, ∃ a c, z = List.replicate a 0 ++ c ∧ c.head? ≠ some 0 := by
  intro z
  induction z with
  | nil => exact ⟨0, [], rfl, by simp⟩
  | cons x z ih =>
   by_cases hx : x = 0
   ·obtain ⟨a, c, h1, h2⟩ := ih
    exact ⟨a + 1, c, by rw [hx, h1, List.replicate_succ]; rfl, h2⟩
   ·exact ⟨0, x :: z, rfl, by simpa using hx⟩
 have trail : ∀ c : List Nat, c.head? ≠ some 0 → ∃ b core, c = core ++ List.replicate b 0 ∧ (core = [] → b = 0) ∧ core.head? ≠ some 0 ∧ core.getLast? ≠ some 0 := by
  refine nsnoc_ind (fun h => ⟨0, [], rfl, fun _ => rfl, h, by simp⟩) (fun l x ih h => ?_)
  by_cases hx : x = 0
  ·subst hx
   have hl : l ≠ [] := fun e => h (by rw [e]; rfl)
   obtain ⟨b, core, h1, h2, h3, h4⟩ := ih (by cases l with | nil => exact absurd rfl hl | cons y l => simpa using h)
   refine ⟨b + 1, core, by rw [h1, List.append_assoc]; congr 1; rw [List.replicate_succ'], fun e => ?_, h3, h4⟩
   have := h2 e
   subst this; subst e
   exact absurd h1 hl
  ·exact ⟨0, l ++ [x], by simp, by simp, h, by simpa using hx⟩
 intro z
 obtain ⟨a, c, h1, h2⟩ := lead z
 obtain ⟨b, core, h3, h4, h5, h6⟩ := trail c h2
 exact ⟨a, b, core, by rw [h1, h3, List.append_assoc], h4, h5, h6⟩
theorem norm_from {z : List Nat} {a : Nat} {c : List Nat} (hz : z = List.replicate a 0 ++ c) (hc : c.head? ≠ some 0) (hl : z.length ≤ 100000) :
  loopN (fun (s179 : Int) => (Option.bind (Option.bind (bif (decide (s179 < ((up z).length : Int))) then (bif inR s179 (up z).length then (some ((decide ((nth (up z) s179) = 0)))) else none) else (some false)) fun (s296 : Bool) => (bif s296 then (some (.inl ())) else (some (.inr (.inr s179))))) (joinX fun (s287 : Unit) => (some (.inl (IntKind.wrap .i64 (s179 + 1))))))) big 0 = some (a : Int) := by
 have hza : z.length = a + c.length := by rw [hz]; simp
 obtain ⟨o, h1, h2⟩ := loop_count (step := (fun (s179 : Int) => (Option.bind (Option.bind (bif (decide (s179 < ((up z).length : Int))) then (bif inR s179 (up z).length then (some ((decide ((nth (up z) s179) = 0)))) else none) else (some false)) fun (s296 : Bool) => (bif s296 then (some (.inl ())) else (some (.inr (.inr s179))))) (joinX fun (s287 : Unit) => (some (.inl (IntKind.wrap .i64 (s179 + 1)))))))) a (fun i => (i : Int)) (fun _ => True) (fun o => o = (a : Int)) (s0 := 0) rfl trivial (fun i hi _ => by
   left
   refine ⟨?_, trivial⟩
   have hn : nth (up z) (i : Int) = 0 := by
    rw [up_get (by omega), hz, List.getD_eq_getElem?_getD, List.getElem?_append_left (by simpa using hi)]
    simp [hi]
   simp only [up_len]
   rw [dT (by omega), inR_nat (by omega), hn, w64 (by omega) (by omega)]; rfl) (fun _ => by
   refine ⟨_, ?_, rfl⟩
   simp only [up_len]
   cases c with
   | nil => rw [dF (by simp at hza; omega)]; rfl
   | cons x c =>
    have hx : x ≠ 0 := fun e => hc (by rw [e]; rfl)
    have hn : nth (up z) (a : Int) = x := by
     rw [up_get (by simp at hza; omega), hz, List.getD_eq_getElem?_getD, List.getElem?_append_right (by simp)]
     simp
    rw [dT (by simp at hza; omega), inR_nat (by simp at hza; omega), hn]
    simp [hx, joinX]) (by omega)
 rw [h1, h2]
theorem norm_to {z : List Nat} {b f : Nat} {c : List Nat} (hz : z = c ++ List.replicate b 0) (hf : f ≤ c.length) (hc : f < c.length → c.getLast? ≠ some 0) (hb : c.length = f → b = 0) (hl : z.length ≤ 100000) :
  loopN (fun (s448 : Int) => (Option.bind (Option.bind (bif (decide ((f : Int) < s448)) then (bif inR (IntKind.wrap .i64 (s448 - 1)) (up z).length then (some ((decide (((nth (up z) (IntKind.wrap .i64 (s448 - 1)))) = 0)))) else none) else (some false)) fun (s565 : Bool) => (bif s565 then (some (.inl ())) else (some (.inr (.inr s448))))) (joinX fun (s556 : Unit) => (some (.inl (IntKind.wrap .i64 (s448 - 1))))))) big ((up z).length : Int) = some (c.length : Int) := by
 have hza : z.length = c.length + b := by rw [hz]; simp
 obtain ⟨o, h1, h2⟩ := loop_count (step := (fun (s448 : Int) => (Option.bind (Option.bind (bif (decide ((f : Int) < s448)) then (bif inR (IntKind.wrap .i64 (s448 - 1)) (up z).length then (some ((decide (((nth (up z) (IntKind.wrap .i64 (s448 - 1)))) = 0)))) else none) else (some false)) fun (s565 : Bool) => (bif s565 then (some (.inl ())) else (some (.inr (.inr s448))))) (joinX fun (s556 : Unit) => (some (.inl (IntKind.wrap .i64 (s448 - 1)))))))) b (fun i => (z.length : Int) - i) (fun _ => True) (fun o => o = (c.length : Int)) (s0 := ((up z).length : Int)) (by rw [up_len]; simp) trivial (fun i hi _ => by
   left
   refine ⟨?_, trivial⟩
   simp only [up_len]
   have hfc : f < c.length := by have := hb; omega
   obtain ⟨j, hj⟩ : ∃ j : Nat, (z.length : Int) - i - 1 = j := ⟨z.length - i - 1, by omega⟩
   have hn : nth (up z) (j : Int) = 0 := by
    rw [up_get (by omega), hz, List.getD_eq_getElem?_getD, List.getElem?_append_right (by omega)]
    rw [List.getElem?_replicate, if_pos (by omega)]; rfl
   rw [dT (by omega), w64 (by omega) (by omega), hj, inR_nat (by omega), hn]
   simp [joinX]; omega) (fun _ => by
   refine ⟨_, ?_, rfl⟩
   simp only [up_len]
   have e : (z.length : Int) - b = c.length := by omega
   rw [e]
   by_cases hfc : f < c.length
   ·have hne := hc hfc
    rcases List.eq_nil_or_concat c with g | ⟨p, x, g⟩
    ·subst g; simp at hfc
    ·rw [List.concat_eq_append] at g
     subst g
     have hx : x ≠ 0 := fun e => hne (by simp [e])
     have hn : nth (up z) (p.length : Int) = x := by
      rw [up_get (by simp at hza; omega), hz, List.getD_eq_getElem?_getD, List.append_assoc, List.getElem?_append_right (by simp)]
      simp
     have e2 : (((p ++ [x]).length : Nat) : Int) - 1 = p.length := by simp
     rw [dT (by omega), w64 (by omega) (by omega), e2, inR_nat (by simp at hza; omega), hn]
     simp [hx, joinX]
   ·rw [dF (by omega)]; rfl) (by omega)
 rw [h1, h2]
theorem norm_eq {z : List Nat} {e : Int} {neg : Bool} (hd : digP z) (hl : z.length ≤ 5000) (he : -200 ≤ e) (he2 : e ≤ 1000) (hm : vN z * pw e < pw 700) :
  ∃ l' E', dec_Norm neg (up z) e = some (⟨neg, up l', E'⟩, 0) ∧ rightP l' E' ∧ magN l' E' = vN z * pw e ∧ -200 ≤ E' := by
 obtain ⟨a, b, core, hz, hcb, hh, ht⟩ := strip z
 have hdc : digP core := by rw [hz] at hd; exact dig_right (dig_left hd)
 have hv : vN z = vN core * 10 ^ b := by
  rw [hz, List.append_assoc, vN_append, vN_zeros, vN_append, vN_zeros, List.length_replicate]; omega
 have hlen : z.length = a + core.length + b := by rw [hz]; simp [Nat.add_assoc]
 have hf := norm_from (z := z) (a := a) (c := core ++ List.replicate b 0) (by rw [hz, List.append_assoc]) (by
  cases core with
  | nil => rw [hcb rfl]; simp
  | cons x c => simpa using hh) (by omega)
 have hto := norm_to (z := z) (b := b) (f := a) (c := List.replicate a 0 ++ core) hz (by simp) (fun hlt => by
  have : core ≠ [] := by rintro rfl; simp at hlt
  rw [List.getLast?_append]
  cases hg : core.getLast? with
  | none => exact absurd (List.getLast?_eq_none_iff.1 hg) this
  | some v => rw [hg] at ht; simpa using ht) (fun h => hcb (by simpa using h)) (by omega)
 have hal : (List.replicate a 0 ++ core).length = a + core.length := by simp
 rw [hal] at hto
 unfold dec_Norm
 rw [figures_eq hd (by omega), dF (show ¬ e < -1099511627776 by omega), dF (show ¬ e > 1099511627776 by omega), hf]
 simp only [Option.bind_some, Bool.not_true, cond_false, joinX]
 rw [hto]
 simp only [Option.bind_some]
 by_cases h0 : core = []
 ·subst h0
  rw [dT (by simp)]
  refine ⟨[], 0, rfl, ⟨(fun x hx => by cases hx), fun _ => rfl, fun h => absurd rfl h⟩, ?_, by omega⟩
  rw [hv]; simp [magN, vN]
 ·have hpos : 0 < core.length := List.length_pos_iff.2 h0
  have hmag : magN core (e + b) = vN z * pw e := by
   unfold magN
   rw [pw_add b (by omega), hv, Nat.mul_comm (pw e), Nat.mul_assoc]
  have htop : e + b + core.length ≤ 700 := by
   apply Decidable.byContradiction
   intro hc
   cases core with
   | nil => exact h0 rfl
   | cons x c =>
    have hx : x ≠ 0 := fun e => hh (by rw [e]; rfl)
    have g1 := vN_ge (l := c) hx
    have g2 : 10 ^ c.length * pw (e + b) ≤ vN (x :: c) * pw (e + b) := Nat.mul_le_mul_right _ g1
    have g3 := pw_add (m := e + b) c.length (by omega)
    have g4 := pw_le (m := 700) (n := e + b + c.length) (by omega) (by simp at hc; omega)
    unfold magN at hmag
    rw [Nat.mul_comm] at g3
    omega
  have hr : rightP core (e + b) := ⟨hdc, fun h => absurd h h0, fun _ => ⟨by omega, by omega, by omega, hh, ht⟩⟩
  have hcut : cut (up z) (a : Int) ((a + core.length : Nat) : Int) = up core := by
   rw [cut_up]; congr 1
   rw [hz, ← hal, List.take_left, List.drop_left' (by simp)]
  have hin : inS (a : Int) ((a + core.length : Nat) : Int) (up z).length = true := inS_of (by omega) (by omega) (by rw [up_len]; omega)
  have hE : IntKind.wrap .i64 (IntKind.wrap .i64 (e + ((up z).length : Int)) - ((a + core.length : Nat) : Int)) = e + b := by
   rw [up_len, w64 (n := e + (z.length : Int)) (by omega) (by omega), w64 (by omega) (by omega)]; omega
  rw [dF (by omega), hin, hcut, hE]
  have hcl : slices_Clone (up core) = some (up core) := clone_id (by rw [up_len]; omega)
  rw [hcl]
  simp only [Option.bind_some, cond_true, cond_false]
  rw [right_eq hr]
  exact ⟨core, e + b, rfl, hr, hmag, by omega⟩
/-! To round. -/
def half3 (tie : Bool) (h : Int) : Bool := decide (h > 0) || (decide (h = 0) && tie)
def awayN (neg odd : Bool) (h mode : Int) : Bool :=
 if mode = 0 then true else if mode = 1 then false else if mode = 2 then !neg else if mode = 3 then neg else
 if mode = 4 then half3 true h else if mode = 5 then half3 false h else if mode = 6 then half3 odd h else half3 (!odd) h
def incN (neg : Bool) (A U : Nat) (mode : Int) : Nat :=
 if A % U = 0 then A else (A / U + if awayN neg (decide (A / U % 2 = 1)) (halfI (A % U) U) mode = true then 1 else 0) * U
theorem half_way {tie : Bool} {neg odd : Bool} {h : Int} : round_ways_1_s0 tie neg odd h = some (half3 tie h) := by
 unfold round_ways_1_s0 half3
 by_cases h1 : h > 0
 ·rw [dT h1]; rfl
 ·rw [dF h1]
  by_cases h2 : h = 0
  ·rw [dT h2]; cases tie <;> rfl
  ·rw [dF h2]; rfl
theorem is_eq {mode : Int} (h : 0 ≤ mode) (h2 : mode ≤ 7) : round_Is mode = some true := by
 unfold round_Is; rw [dT (show mode ≥ 0 from h), dT h2]; rfl
theorem unit_eq {k : Nat} {p : Int} (hp : -1000 ≤ p) (hp2 : p ≤ 1000) (hk : 1 ≤ k) (hk2 : k ≤ 1000000000) : round_unit (k : Int) p = some true := by
 unfold round_unit; rw [dT (show (k : Int) ≥ 1 by omega), dT (show (k : Int) ≤ 1000000000 by omega), dT (show p ≥ -1000 from hp), dT hp2]; rfl
theorem odd_eq {m : List Nat} (hl : m.length ≤ 100000) : (bif (decide (((up m).length : Int) > 0)) then (bif inR ((IntKind.wrap .i64 (((up m).length : Int) - 1))) (up m).length then (bif inR ((IntKind.wrap .i64 (((up m).length : Int) - 1))) (up m).length then (some ((decide (((Int.tmod ((nth (up m) ((IntKind.wrap .i64 (((up m).length : Int) - 1))))) 2)) = 1)))) else none) else none) else (some false)) = some (decide (vN m % 2 = 1)) := by
 rcases List.eq_nil_or_concat m with h1 | ⟨p, c, h1⟩
 ·subst h1; rfl
 ·rw [List.concat_eq_append] at h1
  subst h1
  have e : (((up (p ++ [c])).length : Nat) : Int) - 1 = (p.length : Int) := by rw [up_len]; simp
  simp at hl
  have hin : inR (p.length : Int) (up (p ++ [c])).length = true := inR_nat (by rw [up_len]; simp)
  have ht : Int.tmod (c : Int) 2 = ((c % 2 : Nat) : Int) := (Int.ofNat_tmod _ _).symm
  rw [e, w64 (by omega) (by omega), hin, up_last, dT (by rw [up_len]; simp <;> omega), ht, vN_snoc]
  simp only [cond_true]
  congr 1
  rw [decide_eq_decide]; omega
theorem inc_le {neg : Bool} {A U : Nat} {mode : Int} : incN neg A U mode ≤ A + U := by
 unfold incN
 split
 ·omega
 ·have := Nat.div_mul_le_self A U
  rw [Nat.add_mul]
  split <;> omega
theorem pw_big {A : Nat} {m n : Int} (h : A < pw m) (h1 : -3000 ≤ m) (h2 : m ≤ n) : A < pw n := Nat.lt_of_lt_of_le h (pw_le h1 h2)
theorem unit_lt {k : Nat} {p : Int} (hp : -1000 ≤ p) (hk2 : k ≤ 1000000000) : k * pw p ≤ pw (p + 9) := by
 have := pw_add (m := p) 9 (by omega)
 have e : ((9 : Nat) : Int) = 9 := rfl
 rw [e] at this
 rw [this, Nat.mul_comm]
 exact Nat.mul_le_mul_left _ (by omega)
theorem pw_two {A B : Nat} {m : Int} (hm : -3000 ≤ m) (hA : A < pw m) (hB : B ≤ pw m) : A + B < pw (m + 1) := by
 rw [pw_succ hm]; omega
theorem inc_eq {l : List Nat} {E p mode : Int} {k : Nat} {neg : Bool} (h : rightP l E) (hA : magN l E < pw 600) (hE : -200 ≤ E) (hp : -200 ≤ p) (hp2 : p ≤ 200) (hk : 1 ≤ k) (hk2 : k ≤ 1000000000) (hm : 0 ≤ mode) (hm2 : mode ≤ 7) :
  ∃ l' E', round_Inc ⟨neg, up l, E⟩ k p mode = some (⟨neg, up l', E'⟩, 0) ∧ rightP l' E' ∧ magN l' E' = incN neg (magN l E) (k * pw p) mode ∧ -200 ≤ E' := by
 have hl := right_low h
 obtain ⟨many, hs, hv, hd, hl2⟩ := split_eq (p := p) (k := k) (neg := neg) h (by omega) (by omega) hk hk2
 by_cases hz : magN l E % (k * pw p) = 0
 ·obtain ⟨z1, z2⟩ := mod_zero.1 hz
  obtain ⟨l', E', n1, n2, n3, n4⟩ := norm_eq (neg := neg) h.1 (by omega) hE (by omega) (pw_big (n := 700) hA (by omega) (by omega))
  refine ⟨l', E', ?_, n2, ?_, n4⟩
  ·unfold round_Inc
   rw [is_eq hm hm2, unit_eq (by omega) (by omega) hk hk2, right_eq h, hs, below_eq h (by omega) (by omega), z1]
   rw [dF (show ¬ magN l E % pw p ≠ 0 by omega)]
   dsimp only
   rw [n1]; rfl
  ·rw [n3, incN, if_pos hz]; rfl
 ·have hfar : ∃ far, far = awayN neg (decide (magN l E / (k * pw p) % 2 = 1)) (halfI (magN l E % (k * pw p)) (k * pw p)) mode := ⟨_, rfl⟩
  obtain ⟨far, hfar⟩ := hfar
  have hsel : ∃ sel : List Nat, (∃ nx, round_next (up many) = some (up nx) ∧ sel = bif far then nx else many) ∧ vN sel = vN many + (if far = true then 1 else 0) ∧ digP sel ∧ sel.length ≤ 4001 := by
   obtain ⟨nx, hn1, hn2, hn3, hn4⟩ := next_eq hd hl2
   cases far with
   | true => exact ⟨nx, ⟨nx, hn1, rfl⟩, by rw [if_pos rfl, hn2], hn3, by omega⟩
   | false => exact ⟨many, ⟨nx, hn1, rfl⟩, by simp, hd, by omega⟩
  obtain ⟨sel, ⟨nx, hn1, hsel⟩, hv2, hd2, hl3⟩ := hsel
  obtain ⟨tms, ht1, ht2, ht3, ht4⟩ := times_eq hd2 hl3 hk hk2
  have hval : vN tms * pw p = incN neg (magN l E) (k * pw p) mode := by
   rw [ht2, hv2, hv, incN, if_neg hz, ← hfar, div_unit, Nat.mul_assoc]
  have hbig : vN tms * pw p < pw 700 := by
   rw [hval]
   have h1 := inc_le (neg := neg) (A := magN l E) (U := k * pw p) (mode := mode)
   have h2 := unit_lt (k := k) (p := p) (by omega) hk2
   have h3 := pw_le (m := p + 9) (n := 600) (by omega) (by omega)
   have h4 := pw_two (by omega) hA (Nat.le_trans h2 h3)
   have h5 := pw_le (m := 600 + 1) (n := 700) (by omega) (by omega)
   omega
  obtain ⟨l', E', n1, n2, n3, n4⟩ := norm_eq (neg := neg) ht3 (by omega) hp (by omega) hbig
  refine ⟨l', E', ?_, n2, by rw [n3, hval], n4⟩
  have hmid := middle_eq (neg := neg) h (p := p) (by omega) (by omega) hk hk2
  have hodd := odd_eq (m := many) (by omega)
  rw [hv, ← div_unit] at hodd
  unfold round_Inc
  rw [is_eq hm hm2, unit_eq (by omega) (by omega) hk hk2, right_eq h, hs, below_eq h (by omega) (by omega)]
  have hcond : (bif decide (((magN l E / pw p % k : Nat) : Int) = 0) then some (!decide (magN l E % pw p ≠ 0)) else some false) = some false := by
   by_cases z1 : magN l E / pw p % k = 0
   ·have z2 : magN l E % pw p ≠ 0 := fun e => hz (mod_zero.2 ⟨z1, e⟩)
    rw [dT (by omega), dT z2]; rfl
   ·rw [dF (by omega)]; rfl
  simp only [Option.bind_some, Bool.not_true, cond_false, joinX]
  rw [hcond]
  simp only [Option.bind_some, cond_false]
  rw [hodd, hmid]
  simp only [Option.bind_some]
  refine bind_of (fun o => o = up sel) ⟨_, ?_, rfl⟩ (fun o ho => ?_)
  ·rw [hsel]
   generalize decide (magN l E / (k * pw p) % 2 = 1) = odd at *
   generalize halfI (magN l E % (k * pw p)) (k * pw p) = hf at *
   have hu : ∀ b : Bool, (bif b then Option.bind (some (up nx)) fun y => some y else some (up many)) = some (up (bif b then nx else many)) := fun b => by cases b <;> rfl
   have hmode : mode = 0 ∨ mode = 1 ∨ mode = 2 ∨ mode = 3 ∨ mode = 4 ∨ mode = 5 ∨ mode = 6 ∨ mode = 7 := by omega
   rw [hfar, hn1]
   unfold round_ways_s0 round_ways_2 round_ways_3 round_ways_4_s0 round_ways_5_s0 round_ways_6_s0 round_ways_7_s0 round_ways_8_s0 round_ways_9_s0
   simp only [half_way, Option.bind_some] at hu ⊢
   simp only [hu]
   rcases hmode with rfl | rfl | rfl | rfl | rfl | rfl | rfl | rfl <;> rfl
  ·rw [ho, ht1]
   simp only [Option.bind_some]
   rw [n1]; rfl
theorem shown_eq : exerguelaw17_shown = some true := by kernel_rfl
theorem rright_eq {l : List Nat} {E : Int} {neg : Bool} (hl : l.length ≤ 140737488355328) : ∃ b, exergueref05_Right ⟨neg, up l, E⟩ = some b ∧ (b = true ↔ rightP l E) := by
 unfold exergueref05_Right
 rw [all_loop (fun c => decide (c > 9)) (up l) (by rw [up_len]; omega)]
 simp only [up_len]
 have hall : (up l).all (fun c => !decide (c > 9)) = true ↔ digP l := by
  rw [List.all_eq_true]
  constructor
  ·intro h x hx
   have := h (x : Int) (List.mem_map.2 ⟨x, hx, rfl⟩)
   simp at this; omega
  ·intro h c hc
   obtain ⟨x, hx, rfl⟩ := List.mem_map.1 hc
   have := h x hx
   simp; omega
 by_cases hd : digP l
 ·rw [if_pos (hall.2 hd)]
  simp only [Option.bind_some, joinX]
  by_cases h0 : l = []
  ·subst h0
   refine ⟨decide (E = 0), rfl, ?_⟩
   rw [decide_eq_true_eq]
   exact ⟨fun h => ⟨hd, fun _ => h, fun h => absurd rfl h⟩, fun h => h.2.1 rfl⟩
  ·have hpos : 0 < l.length := List.length_pos_iff.2 h0
   have hin : inR 0 l.length = true := inR_int (by omega) (by omega)
   have hin2 : inR ((l.length : Int) - 1) l.length = true := inR_int (by omega) (by omega)
   have hh : nth (up l) 0 > 0 ↔ l.head? ≠ some 0 := by
    cases l with
    | nil => exact absurd rfl h0
    | cons x l => rw [up_head]; simp; omega
   have hll : nth (up l) ((l.length : Int) - 1) > 0 ↔ l.getLast? ≠ some 0 := by
    rcases List.eq_nil_or_concat l with h1 | ⟨p, c, h1⟩
    ·exact absurd h1 h0
    ·rw [List.concat_eq_append] at h1
     subst h1
     have e : (((p ++ [c]).length : Nat) : Int) - 1 = (p.length : Int) := by simp
     rw [e, up_last]; simp; omega
   rw [dF (show ¬ (l.length : Int) = 0 by omega), hin, w64 (by omega) (by omega), hin2]
   simp only [cond_false, cond_true]
   by_cases c1 : (l.length : Int) ≤ 1000
   ·by_cases c2 : nth (up l) 0 > 0
    ·by_cases c3 : nth (up l) ((l.length : Int) - 1) > 0
     ·by_cases c4 : E ≥ -1000
      ·refine ⟨decide (E ≤ 1000), by rw [dT c1, dT c2, dT c3, dT c4]; rfl, ?_⟩
       rw [decide_eq_true_eq]
       exact ⟨fun h => ⟨hd, fun h => absurd h h0, fun _ => ⟨by omega, c4, h, hh.1 c2, hll.1 c3⟩⟩, fun h => (h.2.2 h0).2.2.1⟩
      ·exact ⟨false, by rw [dT c1, dT c2, dT c3, dF c4]; rfl, ⟨fun h => (by cases h), fun h => absurd (h.2.2 h0).2.1 c4⟩⟩
     ·exact ⟨false, by rw [dT c1, dT c2, dF c3]; rfl, ⟨fun h => (by cases h), fun h => absurd (hll.2 (h.2.2 h0).2.2.2.2) c3⟩⟩
    ·exact ⟨false, by rw [dT c1, dF c2]; rfl, ⟨fun h => (by cases h), fun h => absurd (hh.2 (h.2.2 h0).2.2.2.1) c2⟩⟩
   ·exact ⟨false, by rw [dF c1]; rfl, ⟨fun h => (by cases h), fun h => absurd (h.2.2 h0).1 (by omega)⟩⟩
 ·rw [if_neg (fun h => hd (hall.1 h))]
  exact ⟨false, rfl, ⟨fun h => (by cases h), fun h => absurd h.1 hd⟩⟩
theorem rright_true {l : List Nat} {E : Int} {neg : Bool} (h : rightP l E) : exergueref05_Right ⟨neg, up l, E⟩ = some true := by
 have hl := right_low h
 obtain ⟨b, h1, h2⟩ := rright_eq (neg := neg) (E := E) (l := l) (by omega)
 rw [h1, h2.2 h]
def nearP (l : List Nat) (E : Int) : Prop := rightP l E ∧ l.length ≤ 40 ∧ -60 ≤ E ∧ E ≤ 60
theorem rnear_eq {l : List Nat} {E : Int} {neg : Bool} (hl : l.length ≤ 140737488355328) : ∃ b, exergueref06_Near ⟨neg, up l, E⟩ = some b ∧ (b = true ↔ nearP l E) := by
 obtain ⟨b, h1, h2⟩ := rright_eq (neg := neg) (E := E) hl
 unfold exergueref06_Near nearP
 rw [h1]
 simp only [Option.bind_some, up_len]
 cases b with
 | false => exact ⟨false, rfl, ⟨fun h => (by cases h), fun h => (by have := h2.2 h.1; cases this)⟩⟩
 | true =>
  have hr := h2.1 rfl
  by_cases c1 : (l.length : Int) ≤ 40
  ·by_cases c2 : E ≥ -60
   ·exact ⟨decide (E ≤ 60), by rw [dT c1, dT c2]; rfl, by rw [decide_eq_true_eq]; exact ⟨fun h => ⟨hr, by omega, c2, h⟩, fun h => h.2.2.2⟩⟩
   ·exact ⟨false, by rw [dT c1, dF c2]; rfl, ⟨fun h => (by cases h), fun h' => absurd h'.2.2.1 c2⟩⟩
  ·exact ⟨false, by rw [dF c1]; rfl, ⟨fun h => (by cases h), fun h' => absurd h'.2.1 (by omega)⟩⟩
theorem near_lt {l : List Nat} {E : Int} (h : nearP l E) : magN l E < pw 100 := by
 obtain ⟨h1, h2, h3, h4⟩ := h
 unfold magN
 have g1 := vN_lt h1.1
 have g2 : vN l * pw E < 10 ^ l.length * pw E := (Nat.mul_lt_mul_right (pw_pos E)).2 g1
 have g3 := pw_add (m := E) l.length (by omega)
 have g4 := pw_le (m := E + l.length) (n := 100) (by omega) (by omega)
 rw [Nat.mul_comm] at g3
 omega
theorem rsame_eq {l m : List Nat} {E G : Int} {n1 n2 : Bool} (h1 : rightP l E) (h2 : rightP m G) : exergueref05_Same ⟨n1, up l, E⟩ ⟨n2, up m, G⟩ = some (decide (n1 = n2) && decide (magN l E = magN m G)) := by
 have hl := right_low h1
 have hrow : exergueref01_Row (up l) (up m) = some (decide (up l = up m)) := row_eq (by rw [up_len]; omega)
 unfold exergueref05_Same
 rw [hrow]
 simp only [Option.bind_some]
 by_cases hm : magN l E = magN m G
 ·obtain ⟨rfl, rfl⟩ := right_same h1 h2 hm
  rw [dT rfl, dT hm, dT rfl]
  cases n1 <;> cases n2 <;> rfl
 ·rw [dF hm]
  by_cases he : l = m
  ·subst he
   have hE : ¬ E = G := by rintro rfl; exact hm rfl
   rw [dF hE, dT rfl]
   cases n1 <;> cases n2 <;> rfl
  ·rw [dF (fun e => he (up_inj e))]
   cases n1 <;> cases n2 <;> rfl
theorem rmag_eq {l : List Nat} {E : Int} {neg : Bool} (h : rightP l E) : exergueref05_Mag ⟨neg, up l, E⟩ = some (if l = [] then 0 else E + l.length - 1) := by
 have hl := right_low h
 unfold exergueref05_Mag
 simp only [up_len]
 by_cases h0 : l = []
 ·subst h0; simp
 ·have : l.length ≠ 0 := fun e => h0 (List.eq_nil_of_length_eq_zero e)
  rw [dF (by omega), if_neg h0, w64 (n := E + (l.length : Int)) (by omega) (by omega), w64 (by omega) (by omega)]; rfl
theorem mag_zero {l : List Nat} {E : Int} (h : rightP l E) : magN l E = 0 ↔ l = [] := by
 constructor
 ·intro h0
  unfold magN at h0
  rcases Nat.mul_eq_zero.1 h0 with g | g
  ·exact vN_zero g (right_head h)
  ·have := pw_pos E; omega
 ·rintro rfl; simp [magN, vN]
/-! What rounding keeps. -/
theorem inc_self {neg : Bool} {A U : Nat} {mode : Int} (h : A % U = 0) : incN neg A U mode = A := by unfold incN; rw [if_pos h]
theorem near_600 {l : List Nat} {E : Int} (h : nearP l E) : magN l E < pw 600 := pw_big (near_lt h) (by omega) (by omega)
theorem near_E {l : List Nat} {E : Int} (h : nearP l E) : -200 ≤ E := by have := h.2.2.1; omega
theorem mag_low {m : List Nat} {G : Int} (h : rightP m G) (h0 : m ≠ []) : pw (G + m.length - 1) ≤ magN m G := by
 have hl := right_low h
 cases m with
 | nil => exact absurd rfl h0
 | cons x c =>
  have hx : x ≠ 0 := fun e => right_head h (by rw [e]; rfl)
  have g1 := vN_ge (l := c) hx
  have g2 : 10 ^ c.length * pw G ≤ vN (x :: c) * pw G := Nat.mul_le_mul_right _ g1
  have g3 := pw_add (m := G) c.length (by omega)
  have e : G + ((x :: c).length : Int) - 1 = G + c.length := by simp; omega
  rw [e, g3, Nat.mul_comm]; exact g2
/-! Figures ahead of the point and behind. -/
def figs (A : Nat) (M : Int) : Nat → List Nat
 | 0 => []
 | i + 1 => figs A M i ++ [A / pw (M - i) % 10]
theorem figs_len (A : Nat) (M : Int) : ∀ n, (figs A M n).length = n
 | 0 => rfl
 | n + 1 => by simp [figs, figs_len A M n]
theorem figs_dig (A : Nat) (M : Int) : ∀ n, digP (figs A M n)
 | 0 => fun x hx => by cases hx
 | n + 1 => dig_append (figs_dig A M n) (fun x hx => by simp at hx; subst hx; omega)
theorem down_eq {l : List Nat} {E : Int} {neg : Bool} {M : Int} {n : Nat} (h : rightP l E) (hM : -10 ≤ M) (hM2 : M ≤ 2000) (hn : n ≤ 2000) :
  shape_Figures_1_s0 M n neg (up l) E = some (up (figs (magN l E) M n)) := by
 unfold shape_Figures_1_s0
 refine bind_of (fun o => o = up (figs (magN l E) M n)) ?_ (fun o ho => by rw [ho])
 refine loop_count n (fun i => ((i : Int), up (figs (magN l E) M i))) (fun _ => True) _ rfl trivial (fun i hi _ => ?_) (fun _ => ?_) (by omega)
 ·left
  refine ⟨?_, trivial⟩
  simp only
  rw [dT (by omega), w64 (n := M - i) (by omega) (by omega), at_eq h (by omega) (by omega), up_len, figs_len]
  simp only [Option.bind_some, cond_true]
  rw [room_of (by simp; omega), w64 (by omega) (by omega)]
  simp [figs, up]
 ·refine ⟨_, ?_, rfl⟩
  simp only
  rw [dF (by omega)]; rfl
theorem count_eq {n : Int} (h : 0 ≤ n) (h2 : n ≤ 1000) : shape_count n = some n := by
 unfold shape_count maxI minI
 repeat' split
 all_goals (first | rfl | (congr 1; omega))
def bareE (p : St25) (l : List Nat) (E : Int) : Int := if p.Exp_ < 1 then E else if l = [] then E else -((l.length : Int) - 1)
def bareP (p : St25) (l : List Nat) (E : Int) : Int := if p.Exp_ < 1 then 0 else if l = [] then 0 else E + l.length - 1
def magE (l : List Nat) (E : Int) : Int := if l = [] then 0 else E + l.length - 1
def leastA (p : St25) : Int := if p.Exp_ < 1 ∧ p.MaxSig_ > 0 then 1 else p.MinInt_
def aheadV (p : St25) (l : List Nat) (E : Int) : Int := if l = [] then leastA p else max (leastA p) (magE l E + 1)
def leastB (p : St25) (n : Int) (l : List Nat) (E : Int) : Int := if p.Exp_ > 0 then p.MinFrac_ else if p.MaxSig_ > 0 then p.MinSig_ - 1 - magE l E else if n ≥ 0 then n else p.MinFrac_
def behindV (p : St25) (n : Int) (l : List Nat) (E : Int) : Int := max (max 0 (leastB p n l E)) (-E)
theorem ahead_eq {p : St25} {l : List Nat} {E : Int} {neg : Bool} (hp : cntP p) (h : rightP l E) : shape_ahead p ⟨neg, up l, E⟩ = some (aheadV p l E) := by
 have hl := right_low h
 obtain ⟨c1, c2, c3, c4, c5, c6, c7, c8, c9⟩ := hp
 unfold shape_ahead
 rw [count_eq c2.1 (by omega)]
 have hs : (Option.bind (Option.bind (bif (decide (p.Exp_ < 1)) then (some (decide (p.MaxSig_ > 0))) else (some false)) fun (s26 : Bool) => (bif s26 then (some 1) else (some p.MinInt_))) fun (s18 : Int) => (bif (decide (((up l).length : Int) = 0)) then (some s18) else (Option.bind (dec_Mag ⟨neg, up l, E⟩) fun y40 => (some (maxI s18 (IntKind.wrap .i64 (y40 + 1))))))) = (bif (decide (((up l).length : Int) = 0)) then (some (leastA p)) else (Option.bind (dec_Mag ⟨neg, up l, E⟩) fun y40 => (some (maxI (leastA p) (IntKind.wrap .i64 (y40 + 1)))))) := by
  unfold leastA
  by_cases h1 : p.Exp_ < 1
  ·rw [dT h1]
   by_cases h2 : p.MaxSig_ > 0
   ·rw [dT h2, if_pos ⟨h1, h2⟩]; rfl
   ·rw [dF h2, if_neg (fun h => h2 h.2)]; rfl
  ·rw [dF h1, if_neg (fun h => h1 h.1)]; rfl
 simp only [Option.bind_some]
 rw [hs, up_len, mag_eq h]
 unfold aheadV magE
 by_cases h0 : l = []
 ·subst h0; simp
 ·have : l.length ≠ 0 := fun e => h0 (List.eq_nil_of_length_eq_zero e)
  rw [dF (by omega), if_neg h0, if_neg h0]
  simp only [cond_false, Option.bind_some]
  rw [w64 (by omega) (by omega)]
  congr 1
  unfold maxI; split <;> omega
theorem behind_eq {p : St25} {n : Int} {l : List Nat} {E : Int} {neg : Bool} (hp : cntP p) (hn : n ≤ 40) (h : rightP l E) : shape_behind p n ⟨neg, up l, E⟩ = some (behindV p n l E) := by
 have hl := right_low h
 obtain ⟨c1, c2, c3, c4, c5, c6, c7, c8, c9⟩ := hp
 have hm : -3000 ≤ magE l E ∧ magE l E ≤ 3000 := by unfold magE; split <;> omega
 unfold shape_behind
 rw [count_eq c3.1 (by omega), count_eq c7.1 (by omega), mag_eq h]
 simp only [Option.bind_some]
 have hfin : ∀ s : Int, -5000 ≤ s → s ≤ 5000 → (some (maxI (maxI 0 s) (IntKind.wrap .i64 (0 - E))) : Option Int) = some (max (max 0 s) (-E)) := fun s h1 h2 => by
  rw [w64 (by omega) (by omega)]
  congr 1
  unfold maxI; repeat' split
  all_goals omega
 unfold behindV leastB
 by_cases h1 : p.Exp_ > 0
 ·rw [dT h1, if_pos h1]
  exact hfin _ (by omega) (by omega)
 ·rw [dF h1, if_neg h1]
  by_cases h2 : p.MaxSig_ > 0
  ·rw [dT h2, if_pos h2]
   have e : IntKind.wrap .i64 (IntKind.wrap .i64 (p.MinSig_ - 1) - (if l = [] then 0 else E + l.length - 1)) = p.MinSig_ - 1 - magE l E := by
    show IntKind.wrap .i64 (IntKind.wrap .i64 (p.MinSig_ - 1) - magE l E) = _
    rw [w64 (n := p.MinSig_ - 1) (by omega) (by omega), w64 (by omega) (by omega)]
   simp only [cond_true, cond_false, Option.bind_some]
   rw [e]
   exact hfin _ (by omega) (by omega)
  ·rw [dF h2, if_neg h2]
   by_cases h3 : n ≥ 0
   ·rw [dT h3, if_pos h3, count_eq h3 (by omega)]
    exact hfin _ (by omega) (by omega)
   ·rw [dF h3, if_neg h3]
    exact hfin _ (by omega) (by omega)
/-! Figures that tell a number. -/
theorem mag_mod {l : List Nat} {E q : Int} (h : rightP l E) (hq : -2900 ≤ q) (hE : q ≤ E) : magN l E % pw q = 0 := by
 have hl := right_low h
 obtain ⟨n, hn⟩ : ∃ n : Nat, E = q + n := ⟨(E - q).toNat, by omega⟩
 unfold magN
 rw [hn, pw_add n (by omega), Nat.mul_comm (pw q), ← Nat.mul_assoc]
 exact Nat.mul_mod_left _ _
theorem mag_zero' {l : List Nat} {E : Int} (h : l = []) : magN l E = 0 := by subst h; simp [magN, vN]
theorem first_fig {l : List Nat} {E : Int} (h : rightP l E) (h0 : l ≠ []) : magN l E / pw (E + l.length - 1) % 10 ≠ 0 := by
 have hl := right_low h
 have hpos : 0 < l.length := List.length_pos_iff.2 h0
 rw [fig_at h (by omega) (by omega), if_pos (by omega)]
 have e : (E + (l.length : Int) - 1 - (E + l.length - 1)).toNat = 0 := by omega
 rw [e]
 cases l with
 | nil => exact absurd rfl h0
 | cons x c => intro e; exact right_head h (by simp at e; simp [e])
def fzN (z : List Nat) : Nat → Int
 | 0 => -1
 | i + 1 => if fzN z i < 0 ∧ z.getD i 0 > 0 then i else fzN z i
def lzN (z : List Nat) : Nat → Int
 | 0 => -1
 | i + 1 => if z.getD i 0 > 0 then i else lzN z i
theorem rnorm_is {z core : List Nat} {a b : Nat} {e : Int} {neg : Bool} (hz : z = List.replicate a 0 ++ core ++ List.replicate b 0) (hcb : core = [] → b = 0) (hh : core.head? ≠ some 0) (ht : core.getLast? ≠ some 0)
  (hd : digP z) (hl : z.length ≤ 5000) (he : -3000000 ≤ e) (he2 : e ≤ 3000000) (hr : core ≠ [] → rightP core (e + b)) :
  exergueref05_Norm neg (up z) e = some (⟨neg, up core, if core = [] then 0 else e + b⟩, 0) := by
 have hlen : z.length = a + core.length + b := by rw [hz]; simp [Nat.add_assoc]
 have g1 : ∀ i, i < a → z.getD i 0 = 0 := fun i hi => by
  rw [hz, List.append_assoc, List.getD_eq_getElem?_getD, List.getElem?_append_left (by simpa using hi)]; simp [hi]
 have g2 : ∀ i, a + core.length ≤ i → z.getD i 0 = 0 := fun i hi => by
  rw [hz, List.getD_eq_getElem?_getD, List.getElem?_append_right (by simp; omega), List.getElem?_replicate]
  split <;> rfl
 have g3 : ∀ i, i < core.length → z.getD (a + i) 0 = core.getD i 0 := fun i hi => by
  rw [hz, List.append_assoc, List.getD_eq_getElem?_getD, List.getElem?_append_right (by simp), List.getElem?_append_left (by simp; omega)]
  simp
 have f1 : ∀ i, i ≤ a → fzN z i = -1 := by
  intro i
  induction i with
  | zero => intro _; rfl
  | succ i ih => intro hi; rw [fzN, ih (by omega), if_neg (by rw [g1 i (by omega)]; omega)]
 have f2 : ∀ i, i ≤ a → lzN z i = -1 := by
  intro i
  induction i with
  | zero => intro _; rfl
  | succ i ih => intro hi; rw [lzN, ih (by omega), if_neg (by rw [g1 i (by omega)]; omega)]
 have f3 : core ≠ [] → ∀ i, a < i → fzN z i = a := by
  intro h0 i
  have hx : core.getD 0 0 > 0 := by
   cases core with
   | nil => exact absurd rfl h0
   | cons x c => simp at hh ⊢; omega
  have hpos : 0 < core.length := List.length_pos_iff.2 h0
  induction i with
  | zero => intro h; omega
  | succ i ih =>
   intro hi
   by_cases hia : i = a
   ·subst hia
    have := g3 0 hpos
    simp only [Nat.add_zero] at this
    rw [fzN, f1 i (by omega), if_pos ⟨by omega, by rw [this]; exact hx⟩]
   ·rw [fzN, ih (by omega), if_neg (by omega)]
 have f4 : core ≠ [] → ∀ j, lzN z (a + core.length + j) = a + core.length - 1 := by
  intro h0 j
  have hpos : 0 < core.length := List.length_pos_iff.2 h0
  have hx : core.getD (core.length - 1) 0 > 0 := by
   rw [List.getLast?_eq_getElem?] at ht
   rw [List.getD_eq_getElem?_getD]
   rw [List.getElem?_eq_getElem (by omega)] at ht ⊢
   simp at ht ⊢; omega
  induction j with
  | zero =>
   have e1 : a + core.length + 0 = (a + (core.length - 1)) + 1 := by omega
   rw [e1, lzN, if_pos (by rw [g3 _ (by omega)]; exact hx)]
   omega
  | succ j ih =>
   rw [show a + core.length + (j + 1) = (a + core.length + j) + 1 by omega, lzN, if_neg (by rw [g2 _ (by omega)]; omega)]
   exact ih
 unfold exergueref05_Norm
 obtain ⟨o, h1, h2⟩ := loop_count (step := (fun (s129 : Int × Int × Int) => (bif (decide (s129.2.2 < ((up z).length : Int))) then (Option.bind (bif inR s129.2.2 (up z).length then (bif (decide ((nth (up z) s129.2.2) > 9)) then (some (.inr (.inr (.inr ((⟨false, ([] : List Int), 0⟩ : St28), 1))))) else (bif inR s129.2.2 (up z).length then (bif (decide ((nth (up z) s129.2.2) > 0)) then (bif (decide (s129.1 < 0)) then (some (.inl (s129.2.2, s129.2.2))) else (some (.inl (s129.1, s129.2.2)))) else (some (.inl (s129.1, s129.2.1)))) else none)) else none) (joinX fun (s230 : Int × Int) => (some (.inl (s230.1, s230.2, (IntKind.wrap .i64 (s129.2.2 + 1))))))) else (some (.inr (.inl (s129.1, s129.2.1)))))))
  z.length (fun i => (fzN z i, lzN z i, (i : Int))) (fun _ => True) (fun o => o = (.inl (fzN z z.length, lzN z z.length) : (Int × Int) ⊕ (St28 × Int))) (s0 := ((-1), (-1), 0)) rfl trivial (fun i hi _ => by
   left
   refine ⟨?_, trivial⟩
   have hg : nth (up z) (i : Int) = ((z.getD i 0 : Nat) : Int) := up_get hi
   have h9 : z.getD i 0 ≤ 9 := by
    rw [List.getD_eq_getElem?_getD, List.getElem?_eq_getElem hi]
    exact hd _ (List.getElem_mem hi)
   simp only [up_len]
   rw [dT (by omega), inR_nat hi, hg, dF (by omega), w64 (by omega) (by omega)]
   simp only [cond_true, cond_false]
   by_cases hx : z.getD i 0 > 0
   ·rw [dT (by omega)]
    by_cases hy : fzN z i < 0
    ·rw [dT hy]
     simp only [fzN, lzN, if_pos hx, if_pos (show fzN z i < 0 ∧ z.getD i 0 > 0 from ⟨hy, hx⟩)]
     rfl
    ·rw [dF hy]
     simp only [fzN, lzN, if_pos hx, if_neg (show ¬ (fzN z i < 0 ∧ z.getD i 0 > 0) from fun h => hy h.1)]
     rfl
   ·rw [dF (by omega)]
    simp only [fzN, lzN, if_neg hx, if_neg (show ¬ (fzN z i < 0 ∧ z.getD i 0 > 0) from fun h => hx h.2)]
    rfl) (fun _ => by
   refine ⟨_, ?_, rfl⟩
   simp only [up_len]
   rw [dF (by omega)]; rfl) (by omega)
 rw [h1, h2]
 simp only [Option.bind_some, joinX]
 rw [dF (show ¬ e < -1099511627776 by omega), dF (show ¬ e > 1099511627776 by omega)]
 simp only [cond_false, Option.bind_some, joinX]
 by_cases h0 : core = []
 ·have hb := hcb h0
  subst h0; subst hb
  have : z.length = a := by simpa using hlen
  rw [this, f1 a (by omega), dT (by omega)]; rfl
 ·have hpos : 0 < core.length := List.length_pos_iff.2 h0
  have e1 := f3 h0 z.length (by omega)
  have e2 : lzN z z.length = a + core.length - 1 := by rw [hlen]; exact f4 h0 b
  have hcut : cut (up z) (a : Int) ((a + core.length : Nat) : Int) = up core := by
   have hal : (List.replicate a 0 ++ core).length = a + core.length := by simp
   rw [cut_up]; congr 1
   rw [hz, ← hal, List.take_left, List.drop_left' (by simp)]
  rw [e1, e2, dF (by omega)]
  have e3 : IntKind.wrap .i64 ((a : Int) + core.length - 1 + 1) = ((a + core.length : Nat) : Int) := by rw [w64 (by omega) (by omega)]; omega
  have e4 : IntKind.wrap .i64 (IntKind.wrap .i64 (IntKind.wrap .i64 (e + ((up z).length : Int)) - 1) - ((a : Int) + core.length - 1)) = e + b := by
   rw [up_len, w64 (n := e + (z.length : Int)) (by omega) (by omega), w64 (n := e + (z.length : Int) - 1) (by omega) (by omega), w64 (by omega) (by omega)]; omega
  rw [e3, e4, hcut, rright_true (hr h0), if_neg h0]
  have hin : inS (a : Int) ((a + core.length : Nat) : Int) (up z).length = true := inS_of (by omega) (by omega) (by rw [up_len]; omega)
  rw [hin]; rfl
/-! What is written, piece by piece. -/
inductive It where
 | d (n : Nat)
 | g (r : Int)
def It.at (z : Int) : It → Int
 | .d n => z + n
 | .g r => r
def ren (z : Int) (l : List It) : List Int := l.map (It.at z)
theorem ren_len (z : Int) (l : List It) : (ren z l).length = l.length := by simp [ren]
theorem ren_append (z : Int) (l m : List It) : ren z (l ++ m) = ren z l ++ ren z m := by simp [ren]
def cutB (n g1 g2 : Int) : Bool := !(decide (g1 < 1) || decide (n < g1)) && (decide (n = g1) || (decide (g2 > 0) && decide (Int.tmod (n - g1) g2 = 0)))
theorem cut_eq {n g1 g2 : Int} (hn : 0 ≤ n) (hn2 : n ≤ 100000) (h1 : 0 ≤ g1 ∧ g1 ≤ 40) (h2 : 0 ≤ g2 ∧ g2 ≤ 40) : sym_cut n g1 g2 = some (cutB n g1 g2) := by
 unfold sym_cut cutB
 by_cases c1 : g1 < 1
 ·rw [dT c1]; rfl
 ·rw [dF c1]
  by_cases c2 : n < g1
  ·rw [dT c2]; rfl
  ·rw [dF c2]
   by_cases c3 : n = g1
   ·rw [dT c3]; rfl
   ·rw [dF c3]
    by_cases c4 : g2 > 0
    ·have hz : nz g2 = true := by unfold nz; rw [dF (by omega)]; rfl
     rw [dT c4, hz, w64 (by omega) (by omega)]
     simp [joinX]
    ·rw [dF c4]; rfl
def gpre (W : List Nat) (G g1 g2 : Int) : Nat → List It
 | 0 => []
 | i + 1 => gpre W G g1 g2 i ++ (if decide (i > 0) && cutB ((W.length : Int) - i) g1 g2 then [It.g G] else []) ++ [It.d (W.getD i 0)]
theorem gpre_len (W : List Nat) (G g1 g2 : Int) : ∀ i, (gpre W G g1 g2 i).length ≤ 2 * i
 | 0 => by simp [gpre]
 | i + 1 => by
  have := gpre_len W G g1 g2 i
  simp only [gpre, List.length_append, List.length_singleton]
  split <;> simp <;> omega
def okZ (z : Int) : Prop := 0 ≤ z ∧ z ≤ 200000
theorem w32 {n : Int} (h1 : -2147483648 ≤ n) (h2 : n ≤ 2147483647) : IntKind.i32.wrap n = n := by
 unfold IntKind.wrap
 simp only [IntKind.signed, IntKind.bits, Bool.true_and, Bool.false_and, Bool.false_eq_true, if_false, decide_eq_true_eq]
 first | omega | (split <;> rename_i hc <;> simp at hc <;> omega)
theorem grouped_eq {s : St22} {W : List Nat} {g1 g2 : Int} (hz : okZ s.Zero_) (hd : digP W) (hl : W.length ≤ 20000) (h1 : 0 ≤ g1 ∧ g1 ≤ 40) (h2 : 0 ≤ g2 ∧ g2 ≤ 40) :
  sym_Grouped s (up W) g1 g2 = some (ren s.Zero_ (gpre W s.Group_ g1 g2 W.length)) := by
 unfold sym_Grouped
 refine bind_of (fun o => o = ren s.Zero_ (gpre W s.Group_ g1 g2 W.length)) ?_ (fun o ho => by rw [ho])
 refine loop_count W.length (fun i => ((i : Int), ren s.Zero_ (gpre W s.Group_ g1 g2 i))) (fun _ => True) _ rfl trivial (fun i hi _ => ?_) (fun _ => ?_) (by omega)
 ·left
  refine ⟨?_, trivial⟩
  have hlen := gpre_len W s.Group_ g1 g2 i
  have hg : nth (up W) (i : Int) = ((W.getD i 0 : Nat) : Int) := up_get hi
  have h9 : W.getD i 0 ≤ 9 := by
   rw [List.getD_eq_getElem?_getD, List.getElem?_eq_getElem hi]
   exact hd _ (List.getElem_mem hi)
  obtain ⟨z1, z2⟩ := hz
  simp only [up_len]
  rw [dT (by omega), w64 (n := (W.length : Int) - i) (by omega) (by omega), cut_eq (by omega) (by omega) h1 h2, inR_nat hi, hg, w32 (n := ((W.getD i 0 : Nat) : Int)) (by omega) (by omega), w32 (by omega) (by omega), w64 (by omega) (by omega)]
  simp only [cond_true, Option.bind_some, ren_len]
  have e1 : (bif decide ((i : Int) > 0) then some (cutB ((W.length : Int) - i) g1 g2) else some false) = some (decide (i > 0) && cutB ((W.length : Int) - i) g1 g2) := by
   by_cases h : i > 0
   ·rw [dT (show (i : Int) > 0 by omega), dT h]; rfl
   ·rw [dF (show ¬ (i : Int) > 0 by omega), dF h]; rfl
  rw [e1]
  simp only [Option.bind_some]
  cases hc : (decide (i > 0) && cutB ((W.length : Int) - i) g1 g2) with
  | true =>
   simp only [cond_true]
   rw [room_of (by simp; omega)]
   simp only [cond_true, Option.bind_some]
   rw [room_of (by simp [ren_len]; omega)]
   simp [gpre, hc, ren, It.at]
  | false =>
   simp only [cond_false, Option.bind_some]
   rw [room_of (by simp [ren_len]; omega)]
   simp [gpre, hc, ren, It.at]
 ·refine ⟨_, ?_, rfl⟩
  simp only [up_len]
  rw [dF (by omega)]; rfl
theorem digits_eq {s : St22} {W : List Nat} (hz : okZ s.Zero_) (hd : digP W) (hl : W.length ≤ 20000) : sym_Digits s (up W) = some (ren s.Zero_ (W.map It.d)) := by
 unfold sym_Digits
 refine bind_of (fun o => o = ren s.Zero_ (W.map It.d)) ?_ (fun o ho => by rw [ho])
 refine loop_count W.length (fun i => ((i : Int), ren s.Zero_ ((W.take i).map It.d))) (fun _ => True) _ rfl trivial (fun i hi _ => ?_) (fun _ => ?_) (by omega)
 ·left
  refine ⟨?_, trivial⟩
  have hg : nth (up W) (i : Int) = ((W.getD i 0 : Nat) : Int) := up_get hi
  have h9 : W.getD i 0 ≤ 9 := by
   rw [List.getD_eq_getElem?_getD, List.getElem?_eq_getElem hi]
   exact hd _ (List.getElem_mem hi)
  obtain ⟨z1, z2⟩ := hz
  simp only [up_len]
  rw [dT (by omega), inR_nat hi, hg, w32 (n := ((W.getD i 0 : Nat) : Int)) (by omega) (by omega), w32 (by omega) (by omega), w64 (by omega) (by omega)]
  simp only [cond_true, ren_len]
  rw [room_of (by simp; omega)]
  simp only [cond_true, Option.some.injEq, Sum.inl.injEq, Prod.mk.injEq]
  refine ⟨by omega, ?_⟩
  rw [List.take_succ_eq_append_getElem hi, List.map_append, ren_append]
  congr 1
  simp [ren, It.at, List.getD_eq_getElem?_getD, List.getElem?_eq_getElem hi]
 ·refine ⟨_, ?_, rfl⟩
  simp only [up_len]
  rw [dF (by omega), List.take_length]; rfl
/-! Signs that are good. -/
def ZS : List Int := [48, 1632, 1776, 1984, 2406, 2534, 2662, 2790, 2918, 3046, 3174, 3302, 3430, 3664, 3792, 3872, 6112, 6160, 65296, 120782]
theorem zs_ok {z : Int} (h : z ∈ ZS) : okZ z := by
 have : (ZS.all fun z => decide (0 ≤ z) && decide (z ≤ 200000)) = true := by decide
 have := List.all_eq_true.1 this z h
 simp at this
 exact this
def plainP (r : Int) : Prop := exergueref02_Of r = some 0 ∨ exergueref02_Of r = some 4
def six (s : St22) : List Int := [s.Dec_, s.Group_, s.Minus_, s.Plus_, s.Percent_, s.Exp_]
def goodP (s : St22) : Prop := s.Zero_ ∈ ZS ∧ (∀ j : Nat, j < 6 → plainP (nth (six s) j)) ∧ ∀ i j : Nat, j < i → i < 6 → nth (six s) j ≠ nth (six s) i
theorem of2_tot (r : Int) : Tot (exergueref02_Of r) (fun _ => True) := by
 unfold exergueref02_Of
 refine Tot.bind (is_tot _) (fun a _ => Tot.bind (p := fun _ => True) ?_ (fun b _ => Tot.bind (p := fun _ => True) ?_ (fun c _ => Tot.bind (p := fun _ => True) ?_ (fun d _ => ?_))))
 ·unfold exergueref02_turning
  refine Tot.bind (p := fun _ => True) ?_ (fun _ _ => Tot.ret trivial)
  repeat' (first | exact Tot.ret trivial | refine Tot.ite (fun _ => ?_) (fun _ => ?_))
 ·unfold exergueref02_blank
  refine Tot.bind (p := fun _ => True) ?_ (fun _ _ => Tot.ret trivial)
  repeat' (first | exact Tot.ret trivial | refine Tot.ite (fun _ => ?_) (fun _ => ?_))
 ·unfold exergueref02_Value exergueref02_noughts
  refine Tot.bind (p := fun y => y.length = 20) (Tot.ret rfl) (fun y hy => ?_)
  refine Tot.join (Tot.loop (fun s : Int => 0 ≤ s ∧ s ≤ 20) (fun s => (20 - s).toNat) ⟨by omega, by omega⟩ (by omega) (fun s hs => ?_))
  rw [hy]
  refine Tot.ite (fun hq => ?_) (fun _ => Tot.ret (Tot.ret trivial))
  have hq := dTT hq
  refine Tot.join (Tot.mono (p := fun x => x = .inl () ∨ ∃ z, x = .inr (.inr (.inr z))) (Tot.loop (fun t : Int => 0 ≤ t ∧ t ≤ 10) (fun t => (10 - t).toNat) ⟨by omega, by omega⟩ (by omega) (fun t ht => ?_)) (fun x hx => ?_))
  ·refine Tot.ite (fun hh => ?_) (fun _ => Tot.ret (.inl rfl))
   have hh := dTT hh
   refine Tot.yes (inR_int hs.1 (by omega)) (Tot.ite (fun _ => Tot.ret (.inr ⟨_, rfl⟩)) (fun _ => Tot.ret ?_))
   rw [w64 (n := t + 1) (by omega) (by omega)]
   exact ⟨⟨by omega, by omega⟩, by omega⟩
  ·rcases hx with rfl | ⟨z, rfl⟩
   ·refine Tot.ret ?_
    rw [w64 (n := s + 1) (by omega) (by omega)]
    exact ⟨⟨by omega, by omega⟩, by omega⟩
   ·exact trivial
 ·repeat' (first | exact Tot.ret trivial | refine Tot.ite (fun _ => ?_) (fun _ => ?_) | refine Tot.join (Tot.bind (p := fun _ => True) ?_ (fun _ _ => ?_)) | refine Tot.ret (show Tot _ _ from ?_))
theorem zero_tot (z : Int) : Tot (exergueref02_Zero z) (fun b => b = true → z ∈ ZS) := by
 unfold exergueref02_Zero exergueref02_noughts
 refine Tot.bind (p := fun y => y = ZS) (Tot.ret rfl) (fun y hy => ?_)
 subst hy
 have hlen : ZS.length = 20 := rfl
 refine Tot.join (Tot.loop (fun s : Int => 0 ≤ s ∧ s ≤ 20) (fun s => (20 - s).toNat) ⟨by omega, by omega⟩ (by omega) (fun s hs => ?_))
 rw [hlen]
 refine Tot.ite (fun hq => ?_) (fun _ => Tot.ret (Tot.ret (fun h => by cases h)))
 have hq := dTT hq
 refine Tot.yes (inR_int hs.1 (by omega)) (Tot.ite (fun he => Tot.ret (fun _ => ?_)) (fun _ => Tot.ret ?_))
 ·have he := dTT he
  rw [← he]
  obtain ⟨j, rfl⟩ : ∃ j : Nat, s = j := ⟨s.toNat, by omega⟩
  rw [nth_nat (by rw [hlen]; omega)]
  exact List.getElem_mem _
 ·rw [w64 (by omega) (by omega)]
  exact ⟨⟨by omega, by omega⟩, by omega⟩
theorem good_tot (s : St22) : Tot (exergueref13_Good s) (fun b => b = true → goodP s) := by
 unfold exergueref13_Good
 have hL : ([s.Dec_, s.Group_, s.Minus_, s.Plus_, s.Percent_, s.Exp_] : List Int) = six s := rfl
 rw [hL]
 have hlen : (six s).length = 6 := rfl
 refine Tot.join (Tot.loop (fun i : Int => 0 ≤ i ∧ i ≤ 6 ∧ ∀ q : Nat, (q : Int) < i → plainP (nth (six s) q) ∧ ∀ j : Nat, j < q → nth (six s) j ≠ nth (six s) q) (fun i => (6 - i).toNat) ⟨by omega, by omega, fun q hq => by omega⟩ (by omega) (fun i hi => ?_))
 rw [hlen]
 refine Tot.ite (fun hq => ?_) (fun hq => Tot.ret (show Tot _ _ from ?_))
 ·have hq := dTT hq
  obtain ⟨n, rfl⟩ : ∃ n : Nat, i = n := ⟨i.toNat, by omega⟩
  refine Tot.join (Tot.yes (inR_int hi.1 (by omega)) (Tot.yes (inR_int hi.1 (by omega)) ?_))
  obtain ⟨v, hv, _⟩ := of2_tot (nth (six s) n)
  rw [hv]
  show Tot (Option.bind (Option.bind _ _) _) _
  refine Tot.join (Tot.bind (p := fun b => b = false → plainP (nth (six s) n)) ?_ (fun b hb => ?_))
  ·refine Tot.ite (fun h1 => Tot.ret (fun h2 => .inr ?_)) (fun h1 => Tot.ret (fun _ => .inl ?_))
   ·have := dFF h2
    rw [hv]; congr 1; omega
   ·have := dFF h1
    rw [hv]; congr 1; omega
  ·cases b with
   | true => exact Tot.ret (show _ from fun h => by cases h)
   | false =>
    have hp := hb rfl
    refine Tot.ret (show Tot _ _ from Tot.mono (p := fun x => (x = .inl () ∧ ∀ j : Nat, j < n → nth (six s) j ≠ nth (six s) n) ∨ x = .inr (.inr (.inr false))) (Tot.loop (fun t : Int => 0 ≤ t ∧ t ≤ n ∧ ∀ j : Nat, (j : Int) < t → nth (six s) j ≠ nth (six s) n) (fun t => ((n : Int) - t).toNat) ⟨by omega, by omega, fun j hj => by omega⟩ (by omega) (fun t ht => ?_)) (fun x hx => ?_))
    ·refine Tot.ite (fun hh => ?_) (fun hh => Tot.ret (.inl ⟨rfl, fun j hj => ht.2.2 j (by have := dFF hh; omega)⟩))
     have hh := dTT hh
     refine Tot.yes (inR_int ht.1 (by omega)) (Tot.yes (inR_int ht.1 (by omega)) (Tot.yes (inR_int hi.1 (by omega)) (Tot.yes (inR_int hi.1 (by omega)) (Tot.ite (fun _ => Tot.ret (.inr rfl)) (fun he => Tot.ret ?_)))))
     have he := dFF he
     rw [w64 (n := t + 1) (by omega) (by omega)]
     refine ⟨⟨by omega, by omega, fun j hj => ?_⟩, by omega⟩
     by_cases hjt : (j : Int) < t
     ·exact ht.2.2 j hjt
     ·have : (j : Int) = t := by omega
      rw [this]; exact he
    ·rcases hx with ⟨rfl, hx⟩ | rfl
     ·refine Tot.ret ?_
      rw [w64 (n := (n : Int) + 1) (by omega) (by omega)]
      refine ⟨⟨by omega, by omega, fun q hq2 => ?_⟩, by omega⟩
      by_cases hqn : (q : Int) < n
      ·exact hi.2.2 q hqn
      ·have : q = n := by omega
       subst this; exact ⟨hp, hx⟩
     ·exact (fun h => by cases h)
 ·have hq := dFF hq
  refine Tot.bind (zero_tot _) (fun b hb => Tot.ret (fun h => ⟨hb h, fun j hj => (hi.2.2 j (by omega)).1, fun i2 j hji hi6 => (hi.2.2 i2 (by omega)).2 j hji⟩))
/-! What is written is read. -/
/-! Any right number, written and read. -/
theorem bare_gen {p : St25} {l : List Nat} {E : Int} {neg : Bool} (h : rightP l E) :
  shape_bare p ⟨neg, up l, E⟩ = some (⟨neg, up l, bareE p l E⟩, bareP p l E) ∧ rightP l (bareE p l E) ∧ -1000 ≤ bareE p l E ∧ (l ≠ [] → bareE p l E + l.length ≤ 2000) := by
 have hl := right_low h
 unfold shape_bare bareE bareP
 by_cases hx : p.Exp_ < 1
 ·rw [dT hx, if_pos hx, if_pos hx]
  exact ⟨rfl, h, by omega, fun h0 => by omega⟩
 ·rw [dF hx, if_neg hx, if_neg hx, mag_eq h]
  simp only [cond_false, Option.bind_some]
  have hcl : slices_Clone (up l) = some (up l) := clone_id (by rw [up_len]; omega)
  by_cases h0 : l = []
  ·have hE0 := h.2.1 h0
   subst h0; subst hE0
   simp only [if_true]
   rw [w64 (n := 0 - 0) (by omega) (by omega)]
   refine ⟨?_, h, by omega, fun h => absurd rfl h⟩
   unfold dec_Shift
   simp only
   rw [hcl]; rfl
  ·have hm : E + l.length ≤ 2000 := by omega
   have hpos : 0 < l.length := List.length_pos_iff.2 h0
   obtain ⟨b1, b2, b3, b4, b5⟩ := h.2.2 h0
   simp only [if_neg h0]
   have ew : IntKind.wrap .i64 (0 - (E + l.length - 1)) = -(E + l.length - 1) := by rw [w64 (by omega) (by omega)]; omega
   refine ⟨?_, ⟨h.1, fun e => absurd e h0, fun _ => ⟨b1, by omega, by omega, b4, b5⟩⟩, by omega, fun _ => by omega⟩
   rw [ew]
   unfold dec_Shift
   simp only
   rw [hcl, dF (show ¬ -(E + (l.length : Int) - 1) < -1099511627776 by omega), dF (show ¬ -(E + (l.length : Int) - 1) > 1099511627776 by omega)]
   simp only [cond_false, Option.bind_some, joinX, up_len]
   rw [dF (by omega), w64 (n := E + -(E + (l.length : Int) - 1)) (by omega) (by omega), dF (by omega), dF (by omega)]
   simp only [cond_false, Option.bind_some, joinX, Option.some.injEq, Prod.mk.injEq, St28.mk.injEq, and_true, true_and]
   omega
theorem figures_gen {p : St25} {n : Int} {l : List Nat} {E : Int} (neg : Bool) (hp : cntP p) (hn : n ≤ 40) (h : rightP l E) :
  ∃ a b : Nat, shape_Figures p n ⟨neg, up l, E⟩ = some (up (figs (magN l (bareE p l E)) (a - 1) a), up (figs (magN l (bareE p l E)) (-1) b), bareP p l E) ∧
   rightP l (bareE p l E) ∧ (a : Int) = aheadV p l (bareE p l E) ∧ (b : Int) = behindV p n l (bareE p l E) ∧ a ≤ 2000 ∧ b ≤ 1100 := by
 obtain ⟨hb1, hb2, hb3, hb4⟩ := bare_gen (p := p) (neg := neg) h
 obtain ⟨c1, c2, c3, c4, c5, c6, c7, c8, c9⟩ := hp
 have hp : cntP p := ⟨c1, c2, c3, c4, c5, c6, c7, c8, c9⟩
 have hl := right_low hb2
 generalize bareE p l E = E0 at *
 have ha : 0 ≤ aheadV p l E0 ∧ aheadV p l E0 ≤ 2000 := by
  unfold aheadV leastA magE
  by_cases h0 : l = []
  ·rw [if_pos h0]; split <;> omega
  ·have := hb4 h0
   rw [if_neg h0, if_neg h0]; split <;> omega
 have hbb : 0 ≤ behindV p n l E0 ∧ behindV p n l E0 ≤ 1100 := by
  unfold behindV leastB magE
  by_cases h0 : l = []
  ·rw [if_pos h0]; repeat' split
   all_goals omega
  ·have := hb4 h0
   have hpos : 0 < l.length := List.length_pos_iff.2 h0
   rw [if_neg h0]; repeat' split
   all_goals omega
 obtain ⟨a, ea⟩ : ∃ a : Nat, aheadV p l E0 = a := ⟨(aheadV p l E0).toNat, by omega⟩
 obtain ⟨b, eb⟩ : ∃ b : Nat, behindV p n l E0 = b := ⟨(behindV p n l E0).toNat, by omega⟩
 refine ⟨a, b, ?_, hb2, ea.symm, eb.symm, by omega, by omega⟩
 unfold shape_Figures
 rw [right_eq h, hb1]
 simp only [Option.bind_some, Bool.not_true, cond_false]
 rw [ahead_eq hp hb2, ea]
 simp only [Option.bind_some]
 rw [w64 (n := (a : Int) - 1) (by omega) (by omega), down_eq hb2 (by omega) (by omega) (by omega), behind_eq hp hn hb2, eb]
 simp only [Option.bind_some]
 rw [down_eq hb2 (by omega) (by omega) (by omega)]
 rfl
theorem same_core {l m : List Nat} {E G : Int} (d1 : digP l) (d2 : digP m) (h1 : l.head? ≠ some 0) (t1 : l.getLast? ≠ some 0) (h2 : m.head? ≠ some 0) (t2 : m.getLast? ≠ some 0) (l0 : l ≠ []) (m0 : m ≠ [])
  (hE : -3000 ≤ E) (hG : -3000 ≤ G) (h : magN l E = magN m G) : l = m ∧ E = G := by
 have key : ∀ {l m : List Nat} {E G : Int}, digP l → digP m → l.head? ≠ some 0 → l.getLast? ≠ some 0 → m.head? ≠ some 0 → l ≠ [] → -3000 ≤ E → magN l E = magN m G → E ≤ G → l = m ∧ E = G := by
  intro l m E G d1 d2 h1 t1 h2 l0 hE h hle
  unfold magN at h
  obtain ⟨n, hn⟩ : ∃ n : Nat, G = E + n := ⟨(G - E).toNat, by omega⟩
  have hp := pw_add (m := E) n (by omega)
  rw [← hn] at hp
  rw [hp, Nat.mul_comm (pw E), ← Nat.mul_assoc] at h
  have hv : vN l = vN m * 10 ^ n := Nat.eq_of_mul_eq_mul_right (pw_pos E) h
  have hlast := vN_last d1 l0 t1
  have hn0 : n = 0 := by
   apply Decidable.byContradiction
   intro hne
   obtain ⟨q, rfl⟩ : ∃ q, n = q + 1 := ⟨n - 1, by omega⟩
   rw [Nat.pow_succ, ← Nat.mul_assoc] at hv
   omega
  subst hn0
  simp at hv hn
  refine ⟨?_, hn.symm⟩
  rw [← digs_vN l d1 h1, ← digs_vN m d2 h2, hv]
 rcases Int.le_total E G with hle | hle
 ·exact key d1 d2 h1 t1 h2 l0 hE h hle
 ·obtain ⟨a, b⟩ := key d2 d1 h2 t2 h1 m0 hG h.symm hle
  exact ⟨a.symm, b.symm⟩
instance (l : List Nat) : Decidable (digP l) := inferInstanceAs (Decidable (∀ x ∈ l, x ≤ 9))
instance (l : List Nat) (E : Int) : Decidable (rightP l E) := by unfold rightP; exact inferInstance
/-! Whatever is read. -/
/-! The document's groups, from behind. -/
def gsuf (W : List Nat) (G g1 g2 : Int) : Nat → List It
 | 0 => []
 | n + 1 => It.d (W.getD (W.length - 1 - n) 0) :: ((if cutB (n : Int) g1 g2 = true then [It.g G] else []) ++ gsuf W G g1 g2 n)
theorem cutB_zero {g1 g2 : Int} : cutB 0 g1 g2 = false := by
 unfold cutB
 by_cases h : g1 < 1
 ·simp [h]
 ·simp [show (0 : Int) < g1 by omega]
theorem gpre_suf (W : List Nat) (G g1 g2 : Int) : ∀ n, n ≤ W.length → gpre W G g1 g2 W.length = gpre W G g1 g2 (W.length - n) ++ ((if decide (W.length - n > 0) && cutB (n : Int) g1 g2 then [It.g G] else []) ++ gsuf W G g1 g2 n)
 | 0, _ => by
  have := @cutB_zero g1 g2
  simp [gsuf, this]
 | n + 1, hn => by
  rw [gpre_suf W G g1 g2 n (by omega)]
  obtain ⟨i, hi⟩ : ∃ i, W.length - n = i + 1 := ⟨W.length - n - 1, by omega⟩
  have e1 : W.length - (n + 1) = i := by omega
  have e2 : (W.length : Int) - (i : Int) = ((n + 1 : Nat) : Int) := by omega
  have e3 : W.length - 1 - n = i := by omega
  rw [hi, e1]
  simp only [gpre, gsuf, e2, e3]
  rw [show decide (i + 1 > 0) = true by simp, Bool.true_and]
  simp [List.append_assoc]
theorem gpre_gsuf (W : List Nat) (G g1 g2 : Int) : gpre W G g1 g2 W.length = gsuf W G g1 g2 W.length := by
 have := gpre_suf W G g1 g2 W.length (by omega)
 rw [this]; simp [gpre]
theorem gsuf_len (W : List Nat) (G g1 g2 : Int) : ∀ n, (gsuf W G g1 g2 n).length ≤ 2 * n
 | 0 => by simp [gsuf]
 | n + 1 => by
  have := gsuf_len W G g1 g2 n
  simp only [gsuf, List.length_cons, List.length_append]
  split <;> simp <;> omega
theorem mod_next {a b : Nat} (hb : 0 < b) : (a + 1) % b = if a % b + 1 = b then 0 else a % b + 1 := by
 have h := Nat.mod_lt a hb
 have e : (a + 1) % b = (a % b + 1) % b := by rw [Nat.mod_add_mod]
 rw [e]
 split
 ·rename_i h2; rw [h2, Nat.mod_self]
 ·exact Nat.mod_eq_of_lt (by omega)
def inG (g1 g2 n : Nat) : Nat := if g1 = 0 ∨ n ≤ g1 then n else if g2 = 0 then n - g1 else (n - g1 - 1) % g2 + 1
def sizeG (g1 g2 n : Nat) : Nat := if g1 = 0 ∨ n ≤ g1 then g1 else g2
theorem in_a {g1 g2 n : Nat} (h : g1 = 0 ∨ n ≤ g1) : inG g1 g2 n = n ∧ sizeG g1 g2 n = g1 := by unfold inG sizeG; rw [if_pos h, if_pos h]; exact ⟨rfl, rfl⟩
theorem in_b {g1 g2 n : Nat} (h : ¬ (g1 = 0 ∨ n ≤ g1)) (h4 : g2 = 0) : inG g1 g2 n = n - g1 ∧ sizeG g1 g2 n = 0 := by unfold inG sizeG; rw [if_neg h, if_neg h, if_pos h4]; exact ⟨rfl, h4⟩
theorem in_c {g1 g2 n : Nat} (h : ¬ (g1 = 0 ∨ n ≤ g1)) (h4 : ¬ g2 = 0) : inG g1 g2 n = (n - g1 - 1) % g2 + 1 ∧ sizeG g1 g2 n = g2 := by unfold inG sizeG; rw [if_neg h, if_neg h, if_neg h4]; exact ⟨rfl, rfl⟩
theorem cut_in (g1 g2 n : Nat) : cutB (n : Int) g1 g2 = (decide (sizeG g1 g2 n > 0) && decide (inG g1 g2 n = sizeG g1 g2 n)) := by
 unfold cutB
 by_cases h : g1 = 0 ∨ n ≤ g1
 ·obtain ⟨e1, e2⟩ := in_a (g2 := g2) h
  rw [e1, e2]
  by_cases h1 : g1 = 0
  ·subst h1; simp
  ·by_cases h3 : n = g1
   ·subst h3
    simp [show ¬ (n : Int) < 1 by omega, show 0 < n by omega]
   ·simp [show (n : Int) < g1 by omega, h3]
 ·have h1 : ¬ (g1 : Int) < 1 := by omega
  have h2 : ¬ (n : Int) < g1 := by omega
  have h3 : ¬ (n : Int) = g1 := by omega
  by_cases h4 : g2 = 0
  ·obtain ⟨e1, e2⟩ := in_b h h4
   rw [e1, e2]; subst h4
   simp [h1, h2, h3]
  ·obtain ⟨e1, e2⟩ := in_c h h4
   have hm : Int.tmod ((n : Int) - g1) g2 = (((n - g1) % g2 : Nat) : Int) := by
    rw [show (n : Int) - (g1 : Int) = ((n - g1 : Nat) : Int) by omega]; rfl
   have hs := mod_next (a := n - g1 - 1) (b := g2) (by omega)
   rw [show n - g1 - 1 + 1 = n - g1 by omega] at hs
   rw [e1, e2, hm, hs]
   by_cases h6 : (n - g1 - 1) % g2 + 1 = g2
   ·rw [if_pos h6, h6]
    simp [h1, h2, h3, show 0 < g2 by omega]
   ·rw [if_neg h6]
    have h7 : ¬ (((n - g1 - 1) % g2 + 1 : Nat) : Int) = 0 := by omega
    rw [dF h1, dF h2, dF h3, dF h7, dF h6]
    simp
theorem in_next (g1 g2 n : Nat) : (inG g1 g2 (n + 1), sizeG g1 g2 (n + 1)) = (if cutB (n : Int) g1 g2 = true then (1, g2) else (inG g1 g2 n + 1, sizeG g1 g2 n)) := by
 rw [cut_in]
 by_cases h : g1 = 0 ∨ n ≤ g1
 ·obtain ⟨e1, e2⟩ := in_a (g2 := g2) h
  rw [e1, e2]
  by_cases h1 : g1 = 0
  ·obtain ⟨f1, f2⟩ := in_a (g1 := g1) (g2 := g2) (n := n + 1) (.inl h1)
   rw [f1, f2, h1]; simp
  ·by_cases h3 : n = g1
   ·have h5 : ¬ (g1 = 0 ∨ n + 1 ≤ g1) := by omega
    rw [dT (show g1 > 0 by omega), dT h3]
    by_cases h4 : g2 = 0
    ·obtain ⟨f1, f2⟩ := in_b h5 h4
     rw [f1, f2, h4, show n + 1 - g1 = 1 by omega]; rfl
    ·obtain ⟨f1, f2⟩ := in_c h5 h4
     rw [f1, f2, show n + 1 - g1 - 1 = 0 by omega, Nat.zero_mod]; rfl
   ·obtain ⟨f1, f2⟩ := in_a (g1 := g1) (g2 := g2) (n := n + 1) (.inr (by omega))
    rw [f1, f2, dF h3]; simp
 ·have h5 : ¬ (g1 = 0 ∨ n + 1 ≤ g1) := by omega
  by_cases h4 : g2 = 0
  ·obtain ⟨e1, e2⟩ := in_b h h4
   obtain ⟨f1, f2⟩ := in_b h5 h4
   rw [e1, e2, f1, f2, dF (show ¬ 0 > 0 by omega), show n + 1 - g1 = n - g1 + 1 by omega]; rfl
  ·obtain ⟨e1, e2⟩ := in_c h h4
   obtain ⟨f1, f2⟩ := in_c h5 h4
   have hs := mod_next (a := n - g1 - 1) (b := g2) (by omega)
   rw [show n - g1 - 1 + 1 = n - g1 by omega] at hs
   rw [e1, e2, f1, f2, show n + 1 - g1 - 1 = n - g1 by omega, hs, dT (show g2 > 0 by omega)]
   by_cases h7 : (n - g1 - 1) % g2 + 1 = g2
   ·rw [if_pos h7, dT h7]; rfl
   ·rw [if_neg h7, dF h7]; rfl
theorem rgrouped_eq {s : St22} {W : List Nat} {g1 g2 : Int} (hz : okZ s.Zero_) (hd : digP W) (hl : W.length ≤ 20000) (h1 : 0 ≤ g1 ∧ g1 ≤ 40) (h2 : 0 ≤ g2 ∧ g2 ≤ 40) :
  exergueref13_Grouped s (up W) g1 g2 = some (ren s.Zero_ (gpre W s.Group_ g1 g2 W.length)) := by
 obtain ⟨a, rfl⟩ : ∃ a : Nat, g1 = a := ⟨g1.toNat, by omega⟩
 obtain ⟨b, rfl⟩ : ∃ b : Nat, g2 = b := ⟨g2.toNat, by omega⟩
 obtain ⟨z1, z2⟩ := hz
 rw [gpre_gsuf]
 unfold exergueref13_Grouped
 refine bind_of (fun o => o = ren s.Zero_ (gsuf W s.Group_ a b W.length)) ?_ (fun o ho => by rw [ho])
 refine loop_count W.length (fun n => ((inG a b n : Int), (sizeG a b n : Int), (W.length : Int) - 1 - (n : Int), ren s.Zero_ (gsuf W s.Group_ a b n))) (fun _ => True) _ ?_ trivial (fun n hn _ => ?_) (fun _ => ?_) (by omega)
 ·simp only [up_len]
  rw [w64 (by omega) (by omega)]
  simp [inG, sizeG, gsuf, ren]
 ·left
  refine ⟨?_, trivial⟩
  have hgl := gsuf_len W s.Group_ a b n
  have hlt : W.length - 1 - n < W.length := by omega
  have hidx : (W.length : Int) - 1 - (n : Int) = ((W.length - 1 - n : Nat) : Int) := by omega
  have hdd : W.getD (W.length - 1 - n) 0 ≤ 9 := by
   rw [List.getD_eq_getElem?_getD, List.getElem?_eq_getElem hlt]
   exact hd _ (List.getElem_mem hlt)
  have hc := cut_in a b n
  have hnx := in_next a b n
  have hib : inG a b n ≤ 100000 := by
   unfold inG
   split
   ·omega
   ·split
    ·omega
    ·have := Nat.mod_lt (n - a - 1) (show 0 < b by omega); omega
  simp only
  rw [dT (by omega), hidx, inR_nat (by rw [up_len]; exact hlt), up_get hlt]
  have hch : (IntKind.wrap .i32 (IntKind.wrap .i64 (IntKind.wrap .i64 s.Zero_ + IntKind.wrap .i64 ((W.getD (W.length - 1 - n) 0 : Nat) : Int)))) = s.Zero_ + ((W.getD (W.length - 1 - n) 0 : Nat) : Int) := by
   rw [w64 (n := s.Zero_) (by omega) (by omega), w64 (n := ((W.getD (W.length - 1 - n) 0 : Nat) : Int)) (by omega) (by omega), w64 (by omega) (by omega), w32 (by omega) (by omega)]
  rw [hch]
  cases hcut : cutB (n : Int) a b with
  | true =>
   rw [hcut] at hc hnx
   have hc' := hc.symm
   simp only [Bool.and_eq_true, decide_eq_true_eq] at hc'
   rw [if_pos rfl] at hnx
   have e1 := congrArg Prod.fst hnx
   have e2 := congrArg Prod.snd hnx
   simp only at e1 e2
   rw [dT (by omega), dT (by omega), e1, e2]
   simp only [cond_true, Option.bind_some]
   rw [room_of (by simp [ren_len]; omega)]
   simp only [cond_true, Option.bind_some]
   rw [room_of (by simp [ren_len]; omega), w64 (by omega) (by omega), w64 (by omega) (by omega)]
   simp [gsuf, hcut, ren, It.at]
   omega
  | false =>
   rw [hcut] at hc hnx
   rw [if_neg (by simp)] at hnx
   have e1 := congrArg Prod.fst hnx
   have e2 := congrArg Prod.snd hnx
   simp only at e1 e2
   have hb : (bif decide ((sizeG a b n : Int) > 0) then some (decide ((inG a b n : Int) = (sizeG a b n : Int))) else some false) = some false := by
    by_cases h5 : (sizeG a b n : Int) > 0
    ·rw [dT h5]
     by_cases h6 : (inG a b n : Int) = (sizeG a b n : Int)
     ·have h7 : inG a b n = sizeG a b n := by omega
      rw [dT (show sizeG a b n > 0 by omega), dT h7] at hc
      cases hc
     ·rw [dF h6]; rfl
    ·rw [dF h5]; rfl
   rw [hb, e1, e2]
   simp only [cond_true, cond_false, Option.bind_some]
   rw [room_of (by simp [ren_len]; omega), w64 (by omega) (by omega), w64 (by omega) (by omega)]
   simp [gsuf, hcut, ren, It.at]
   omega
 ·refine ⟨_, ?_, rfl⟩
  simp only
  rw [dF (by omega)]; rfl
/-! Both sides of reading. -/
theorem inc_stays {l : List Nat} {E q mode : Int} {neg : Bool} (h : rightP l E) (hA : magN l E < pw 600) (hE : -200 ≤ E) (hq : -200 ≤ q) (hq2 : q ≤ 200) (hm : 0 ≤ mode ∧ mode ≤ 7) (hz : magN l E % pw q = 0) :
  round_Inc ⟨neg, up l, E⟩ 1 q mode = some (⟨neg, up l, E⟩, 0) := by
 obtain ⟨l', E', g1, g2, g3, g4⟩ := inc_eq (neg := neg) (p := q) (k := 1) h hA hE (by omega) (by omega) (by omega) (by omega) hm.1 hm.2
 rw [inc_self (by rw [Nat.one_mul]; exact hz)] at g3
 obtain ⟨rfl, rfl⟩ := right_same g2 h g3
 exact g1
theorem mag_le {l : List Nat} {E T : Int} (h : rightP l E) (h0 : l ≠ []) (hA : magN l E < pw T) (hT : -3000 ≤ T) : E + l.length ≤ T := by
 have hl := right_low h
 have hpos : 0 < l.length := List.length_pos_iff.2 h0
 have := mag_low h h0
 apply Decidable.byContradiction
 intro hc
 have := pw_le (m := T) (n := E + l.length - 1) (by omega) (by omega)
 omega
theorem sig_stays {l : List Nat} {E mode : Int} {K : Nat} {neg : Bool} (h : rightP l E) (hA : magN l E < pw 150) (hE : l ≠ [] → -110 ≤ E) (hK : 1 ≤ K) (hK2 : K ≤ 41) (hm : 0 ≤ mode ∧ mode ≤ 7) (hlen : l.length ≤ K) :
  round_Sig ⟨neg, up l, E⟩ K mode = some (⟨neg, up l, E⟩, 0) := by
 unfold round_Sig
 rw [is_eq hm.1 hm.2, right_eq h, mag_eq h, dF (show ¬ (K : Int) < 1 by omega)]
 simp only [Bool.not_true, cond_false, Option.bind_some, joinX, up_len]
 by_cases h0 : l = []
 ·subst h0
  have hE := h.2.1 rfl
  subst hE
  rfl
 ·have hpos : 0 < l.length := List.length_pos_iff.2 h0
  have hT := mag_le h h0 hA (by omega)
  have hE := hE h0
  rw [if_neg h0, dF (show ¬ (l.length : Int) = 0 by omega)]
  have e1 : IntKind.wrap .i64 (IntKind.wrap .i64 (E + l.length - 1 + 1000) + 1) = E + l.length + 1000 := by
   rw [w64 (n := E + (l.length : Int) - 1 + 1000) (by omega) (by omega), w64 (by omega) (by omega)]; omega
  have e2 : IntKind.wrap .i64 (IntKind.wrap .i64 (E + l.length - 1 - K) + 1) = E + l.length - K := by
   rw [w64 (n := E + (l.length : Int) - 1 - K) (by omega) (by omega), w64 (by omega) (by omega)]; omega
  simp only [cond_false, Option.bind_some]
  rw [e1, e2, dF (show ¬ (K : Int) > E + l.length + 1000 by omega), inc_stays h (pw_big hA (by omega) (by omega)) (by omega) (by omega) (by omega) hm (mag_mod h (by omega) (by omega))]
  rfl
/-! Rows of figures, the last one first. -/
def vL : List Nat → Nat
 | [] => 0
 | x :: r => x + 10 * vL r
theorem vL_rev (l : List Nat) : vL l.reverse = vN l := by
 refine nsnoc_ind (P := fun l => vL l.reverse = vN l) rfl (fun l t ih => ?_) l
 rw [List.reverse_append, vN_snoc, ← ih]
 show t + 10 * vL l.reverse = _
 omega
theorem vL_zeros (n : Nat) : vL (List.replicate n 0) = 0 := by
 induction n with
 | zero => rfl
 | succ n ih => rw [List.replicate_succ]; show 0 + 10 * _ = 0; rw [ih]
theorem vL_append (a b : List Nat) : vL (a ++ b) = vL a + 10 ^ a.length * vL b := by
 induction a with
 | nil => simp [vL]
 | cons x a ih =>
  rw [List.cons_append]
  show x + 10 * vL (a ++ b) = x + 10 * vL a + 10 ^ (a.length + 1) * vL b
  rw [ih, Nat.pow_succ, Nat.mul_add, ← Nat.mul_assoc, Nat.mul_comm 10 (10 ^ a.length)]
  omega
def hiL (l : List Nat) (i : Nat) : Nat := vL (l.drop i)
def loL (l : List Nat) : Nat → Nat
 | 0 => 0
 | i + 1 => loL l i + l.getD i 0 * 10 ^ i
theorem hi_zero (l : List Nat) : hiL l 0 = vL l := rfl
theorem hi_end {l : List Nat} {i : Nat} (h : l.length ≤ i) : hiL l i = 0 := by unfold hiL; rw [List.drop_eq_nil_of_le h]; rfl
theorem hi_step (l : List Nat) (i : Nat) : hiL l i = l.getD i 0 + 10 * hiL l (i + 1) := by
 unfold hiL
 by_cases h : i < l.length
 ·rw [List.drop_eq_getElem_cons h, List.getD_eq_getElem?_getD, List.getElem?_eq_getElem h]; rfl
 ·rw [List.drop_eq_nil_of_le (by omega), List.drop_eq_nil_of_le (by omega), List.getD_eq_getElem?_getD, List.getElem?_eq_none (by omega)]; rfl
theorem lo_hi (l : List Nat) : ∀ i, loL l i + 10 ^ i * hiL l i = vL l
 | 0 => by simp [loL, hi_zero]
 | i + 1 => by
  have ih := lo_hi l i
  rw [hi_step l i, Nat.mul_add] at ih
  unfold loL
  rw [Nat.pow_succ, Nat.mul_assoc]
  have : l.getD i 0 * 10 ^ i = 10 ^ i * l.getD i 0 := Nat.mul_comm ..
  omega
theorem lo_end {l : List Nat} {i : Nat} (h : l.length ≤ i) : loL l i = vL l := by
 have := lo_hi l i
 rw [hi_end h] at this
 omega
theorem getD_dig {l : List Nat} (h : digP l) (i : Nat) : l.getD i 0 ≤ 9 := by
 rw [List.getD_eq_getElem?_getD]
 by_cases hi : i < l.length
 ·rw [List.getElem?_eq_getElem hi]; exact h _ (List.getElem_mem hi)
 ·rw [List.getElem?_eq_none (by omega)]; simp
theorem lo_lt {l : List Nat} (h : digP l) : ∀ i, loL l i < 10 ^ i
 | 0 => by simp [loL]
 | i + 1 => by
  have ih := lo_lt h i
  have hd := getD_dig h i
  unfold loL
  rw [Nat.pow_succ]
  have : l.getD i 0 * 10 ^ i ≤ 9 * 10 ^ i := Nat.mul_le_mul_right _ hd
  omega
theorem vL_lt {l : List Nat} (h : digP l) {n : Nat} (hn : l.length ≤ n) : vL l < 10 ^ n := by
 rw [← lo_end hn]; exact lo_lt h n
theorem vL_snoc (l : List Nat) (x : Nat) : vL (l ++ [x]) = vL l + x * 10 ^ l.length := by
 rw [vL_append]
 show vL l + 10 ^ l.length * (x + 10 * 0) = _
 rw [Nat.mul_comm]; simp
theorem hi_less {a b : List Nat} (ha : digP a) (hb : digP b) {i : Nat} (he : hiL a (i + 1) = hiL b (i + 1)) (hn : a.getD i 0 ≠ b.getD i 0) : vL a < vL b ↔ a.getD i 0 < b.getD i 0 := by
 have h1 := lo_hi a i
 have h2 := lo_hi b i
 rw [hi_step a i, he] at h1
 rw [hi_step b i] at h2
 have l1 := lo_lt ha i
 have l2 := lo_lt hb i
 rw [Nat.mul_add] at h1 h2
 generalize 10 ^ i * (10 * hiL b (i + 1)) = T at *
 generalize a.getD i 0 = x at *
 generalize b.getD i 0 = y at *
 generalize 10 ^ i = P at *
 constructor
 ·intro h
  apply Decidable.byContradiction
  intro hc
  have : P * (y + 1) ≤ P * x := Nat.mul_le_mul_left P (by omega)
  rw [Nat.mul_add] at this
  omega
 ·intro h
  have : P * (x + 1) ≤ P * y := Nat.mul_le_mul_left P (by omega)
  rw [Nat.mul_add] at this
  omega
theorem at06 {l : List Nat} (i : Nat) : exergueref06_at (up l) (i : Int) = some ((l.getD i 0 : Nat) : Int) := by
 unfold exergueref06_at
 by_cases h : i < l.length
 ·rw [up_len, dT (by omega), inR_nat h, up_get h]; rfl
 ·rw [up_len, dF (by omega), List.getD_eq_getElem?_getD, List.getElem?_eq_none (by omega)]; rfl
theorem less_eq {a b : List Nat} (ha : digP a) (hb : digP b) (la : a.length ≤ 100000) (lb : b.length ≤ 100000) : exergueref06_Less (up a) (up b) = some (decide (vL a < vL b)) := by
 unfold exergueref06_Less
 have hm : maxI ((up a).length : Int) ((up b).length : Int) = ((max a.length b.length : Nat) : Int) := by rw [up_len, up_len]; unfold maxI; split <;> omega
 rw [hm]
 obtain ⟨n, hn⟩ : ∃ n, n = max a.length b.length := ⟨_, rfl⟩
 rw [← hn, w64 (by omega) (by omega)]
 obtain ⟨o, h1, h2⟩ := loop_count (step := (fun (s78 : Int) => ((bif (decide (s78 ≥ 0)) then (Option.bind (exergueref06_at (up a) s78) fun y130 => (Option.bind (exergueref06_at (up b) s78) fun y133 => (bif (decide (¬ y130 = y133)) then (Option.bind (exergueref06_at (up a) s78) fun y139 => (Option.bind (exergueref06_at (up b) s78) fun y142 => (some (.inr (.inr (decide (y139 < y142))))))) else (some (.inl (IntKind.wrap .i64 (s78 - 1))))))) else (some (.inr (.inl ())))) : Option (Int ⊕ (Unit ⊕ Bool))))) n (fun i => (n : Int) - 1 - i) (fun i => i ≤ n → hiL a (n - i) = hiL b (n - i)) (fun o => o = .inr (decide (vL a < vL b)) ∨ (o = .inl () ∧ vL a = vL b)) (s0 := (n : Int) - 1) (by simp) (fun _ => by rw [hi_end (by omega), hi_end (by omega)]) (fun i hi hI => by
  have hI := hI (by omega)
  obtain ⟨j, hj⟩ : ∃ j : Nat, j = n - 1 - i := ⟨_, rfl⟩
  have hji : (n : Int) - 1 - i = (j : Int) := by omega
  rw [show n - i = j + 1 by omega] at hI
  rw [hji, dT (by omega), at06, at06]
  simp only [cond_true, Option.bind_some]
  by_cases c : a.getD j 0 = b.getD j 0
  ·left
   rw [c]
   have hd : decide (¬ (((b.getD j 0 : Nat) : Int) = ((b.getD j 0 : Nat) : Int))) = false := by simp
   rw [hd]
   refine ⟨?_, fun _ => ?_⟩
   ·simp only [cond_false]
    rw [w64 (by omega) (by omega), show (n : Int) - 1 - ((i + 1 : Nat) : Int) = (j : Int) - 1 by omega]
   ·rw [show n - (i + 1) = j by omega, hi_step a, hi_step b, c, hI]
  ·right
   rw [dT (show ¬ (((a.getD j 0 : Nat) : Int) = ((b.getD j 0 : Nat) : Int)) from fun h => c (by omega))]
   refine ⟨_, rfl, .inl ?_⟩
   have := hi_less ha hb hI c
   have e : (((a.getD j 0 : Nat) : Int) < ((b.getD j 0 : Nat) : Int)) ↔ vL a < vL b := by rw [this]; omega
   exact congrArg Sum.inr (decide_eq_decide.2 e)) (fun hI => ⟨.inl (), by rw [dF (by omega)]; rfl, .inr ⟨rfl, by
   have := hI (Nat.le_refl _)
   rwa [Nat.sub_self, hi_zero, hi_zero] at this⟩⟩) (by omega)
 have h1' : loopN (fun (s78 : Int) => ((bif (decide (s78 ≥ 0)) then (Option.bind (exergueref06_at (up a) s78) fun y130 => (Option.bind (exergueref06_at (up b) s78) fun y133 => (bif (decide (¬ y130 = y133)) then (Option.bind (exergueref06_at (up a) s78) fun y139 => (Option.bind (exergueref06_at (up b) s78) fun y142 => (some (.inr (.inr (decide (y139 < y142))))))) else (some (.inl (IntKind.wrap .i64 (s78 - 1))))))) else (some (.inr (.inl ())))) : Option (Int ⊕ (Unit ⊕ Bool)))) big ((n : Int) - 1) = some o := h1
 rw [h1']
 rcases h2 with rfl | ⟨rfl, h2⟩
 ·rfl
 ·rw [dF (by omega)]; rfl
theorem sum_eq {a b : List Nat} (minus : Bool) (ha : digP a) (hb : digP b) (la : a.length ≤ 100000) (lb : b.length ≤ 100000) (hm : minus = true → vL b ≤ vL a) :
  ∃ c, exergueref06_Sum (up a) (up b) minus = some (up c) ∧ digP c ∧ c.length = max a.length b.length + 1 ∧ vL c = if minus = true then vL a - vL b else vL a + vL b := by
 unfold exergueref06_Sum
 have hmx : maxI ((up a).length : Int) ((up b).length : Int) = ((max a.length b.length : Nat) : Int) := by rw [up_len, up_len]; unfold maxI; split <;> omega
 rw [hmx]
 obtain ⟨n, hn⟩ : ∃ n, n = max a.length b.length := ⟨_, rfl⟩
 rw [← hn, w64 (n := (n : Int) + 1) (by omega) (by omega)]
 generalize hst : (fun (s279 : Int × Int × (List Int)) => ((bif (decide (s279.2.1 < (n : Int) + 1)) then (Option.bind (Option.bind (exergueref06_at (up a) s279.2.1) fun y510 => (Option.bind (exergueref06_at (up b) s279.2.1) fun y513 => (Option.bind (bif minus then (some ((IntKind.wrap .i64 (0 - (IntKind.wrap .i64 y513))))) else (some (IntKind.wrap .i64 y513))) fun (s519 : Int) => (Option.bind (bif (decide (((IntKind.wrap .i64 (((IntKind.wrap .i64 ((IntKind.wrap .i64 y510) + s279.1))) + s519))) > 9)) then (some (1, (IntKind.wrap .i64 (((IntKind.wrap .i64 (((IntKind.wrap .i64 ((IntKind.wrap .i64 y510) + s279.1))) + s519))) - 10)))) else (some (0, (IntKind.wrap .i64 (((IntKind.wrap .i64 ((IntKind.wrap .i64 y510) + s279.1))) + s519))))) fun (s530 : Int × Int) => (Option.bind (bif (decide (s530.2 < 0)) then (some ((-1), (IntKind.wrap .i64 (s530.2 + 10)))) else (some (s530.1, s530.2))) fun (s541 : Int × Int) => (bif room (s279.2.2.length + ([(IntKind.wrap .u8 s541.2)] : List Int).length) then (some (s541.1, (s279.2.2 ++ ([(IntKind.wrap .u8 s541.2)] : List Int)))) else none)))))) fun (s505 : Int × (List Int)) => (some (.inl (s505.1, (IntKind.wrap .i64 (s279.2.1 + 1)), s505.2)))) else (some (.inr s279.2.2))) : Option ((Int × Int × (List Int)) ⊕ (List Int)))) = step
 have hrun := loop_var (step := step) (fun s => ∃ (c : List Nat) (cy : Int), s = (cy, (c.length : Int), up c) ∧ digP c ∧ c.length ≤ n + 1 ∧ (-1 ≤ cy ∧ cy ≤ 1) ∧ (minus = true → cy ≤ 0) ∧ (minus = false → 0 ≤ cy) ∧ (vL c : Int) + ((10 ^ c.length : Nat) : Int) * cy = if minus = true then (loL a c.length : Int) - loL b c.length else (loL a c.length : Int) + loL b c.length)
  (fun s => ((n : Int) + 1 - s.2.1).toNat) (fun o => ∃ c, o = up c ∧ digP c ∧ c.length = n + 1 ∧ vL c = if minus = true then vL a - vL b else vL a + vL b) (s0 := (0, 0, []))
  ⟨[], 0, rfl, (fun x hx => by cases hx), by simp, by omega, by omega, by omega, by cases minus <;> simp [loL, vL]⟩ (by simp only; omega) (fun s hs => ?_)
 ·obtain ⟨o, h1, c, rfl, h2, h3, h4⟩ := hrun
  rw [h1]
  exact ⟨c, rfl, h2, h3, h4⟩
 ·obtain ⟨c, cy, rfl, hc, hcl, hcy, hc1, hc2, hv⟩ := hs
  subst hst
  simp only
  by_cases hi : (c.length : Int) < (n : Int) + 1
  ·left
   have da := getD_dig ha c.length
   have db := getD_dig hb c.length
   rw [dT hi, at06, at06]
   simp only [cond_true, Option.bind_some]
   have la1 : loL a (c.length + 1) = loL a c.length + a.getD c.length 0 * 10 ^ c.length := rfl
   have lb1 : loL b (c.length + 1) = loL b c.length + b.getD c.length 0 * 10 ^ c.length := rfl
   generalize a.getD c.length 0 = x at *
   generalize b.getD c.length 0 = y at *
   obtain ⟨t, ht⟩ : ∃ t : Int, t = (x : Int) + cy + (if minus = true then -(y : Int) else y) := ⟨_, rfl⟩
   have htb : -10 ≤ t ∧ t ≤ 19 := by cases minus <;> simp at ht hc1 hc2 <;> omega
   have htp : minus = true → t ≤ 9 := fun h => by rw [h] at ht; simp at ht; have := hc1 h; omega
   have htq : minus = false → 0 ≤ t := fun h => by rw [h] at ht; simp at ht; have := hc2 h; omega
   have e1 : (bif minus then (some ((IntKind.wrap .i64 (0 - (IntKind.wrap .i64 (y : Int)))))) else (some (IntKind.wrap .i64 (y : Int)))) = some (if minus = true then -(y : Int) else y) := by
    rw [w64 (n := (y : Int)) (by omega) (by omega), w64 (n := 0 - (y : Int)) (by omega) (by omega)]
    cases minus <;> simp
   rw [e1, w64 (n := (x : Int)) (by omega) (by omega), w64 (n := (x : Int) + cy) (by omega) (by omega)]
   simp only [Option.bind_some]
   rw [← ht, w64 (n := t) (by omega) (by omega)]
   -- the new figure, and the new carry
   obtain ⟨d, cy', hd, hdc, hst2⟩ : ∃ (d : Nat) (cy' : Int), d ≤ 9 ∧ ((d : Int) + 10 * cy' = t ∧ (-1 ≤ cy' ∧ cy' ≤ 1) ∧ (minus = true → cy' ≤ 0) ∧ (minus = false → 0 ≤ cy')) ∧ (Option.bind (bif (decide (t > 9)) then (some ((1 : Int), (IntKind.wrap .i64 (t - 10)))) else (some (0, t))) fun (s530 : Int × Int) => (Option.bind (bif (decide (s530.2 < 0)) then (some ((-1), (IntKind.wrap .i64 (s530.2 + 10)))) else (some (s530.1, s530.2))) fun (s541 : Int × Int) => (bif room ((up c).length + ([(IntKind.wrap .u8 s541.2)] : List Int).length) then (some (s541.1, ((up c) ++ ([(IntKind.wrap .u8 s541.2)] : List Int)))) else none))) = some (cy', up (c ++ [d])) := by
    have hrm : ∀ z : Int, room ((up c).length + ([z] : List Int).length) = true := fun z => room_of (by rw [up_len]; simp; omega)
    by_cases t9 : t > 9
    ·refine ⟨(t - 10).toNat, 1, by omega, ⟨by omega, by omega, fun h => by have := htp h; omega, fun _ => by omega⟩, ?_⟩
     rw [dT t9, w64 (n := t - 10) (by omega) (by omega)]
     simp only [cond_true, Option.bind_some]
     rw [dF (show ¬ t - 10 < 0 by omega)]
     simp only [cond_false, Option.bind_some]
     rw [hrm, u8m, up_append, show (t - 10) % 256 = (((t - 10).toNat : Nat) : Int) by omega]; rfl
    ·rw [dF t9]
     simp only [cond_false, Option.bind_some]
     by_cases t0 : t < 0
     ·refine ⟨(t + 10).toNat, -1, by omega, ⟨by omega, by omega, fun h => by omega, fun h => by have := htq h; omega⟩, ?_⟩
      rw [dT t0, w64 (n := t + 10) (by omega) (by omega)]
      simp only [cond_true, Option.bind_some]
      rw [hrm, u8m, up_append, show (t + 10) % 256 = (((t + 10).toNat : Nat) : Int) by omega]; rfl
     ·refine ⟨t.toNat, 0, by omega, ⟨by omega, by omega, fun h => by omega, fun h => by omega⟩, ?_⟩
      rw [dF t0]
      simp only [cond_false, Option.bind_some]
      rw [hrm, u8m, up_append, show t % 256 = ((t.toNat : Nat) : Int) by omega]; rfl
   rw [hst2]
   simp only [Option.bind_some]
   rw [w64 (n := (c.length : Int) + 1) (by omega) (by omega)]
   obtain ⟨h5, h6, h7, h8⟩ := hdc
   refine ⟨_, rfl, ⟨c ++ [d], cy', by simp, dig_append hc (fun z hz => by simp at hz; omega), by simp; omega, h6, h7, h8, ?_⟩, by simp only; omega⟩
   rw [List.length_append, List.length_singleton, la1, lb1, vL_snoc, Nat.pow_succ]
   generalize 10 ^ c.length = P at *
   have e5 : (P : Int) * ((d : Int) + 10 * cy') = (P : Int) * t := by rw [h5]
   rw [ht, Int.mul_add, Int.mul_add, Int.mul_add] at e5
   have e6 : (P : Int) * (10 * cy') = ((P * 10 : Nat) : Int) * cy' := by rw [Int.natCast_mul, Int.mul_assoc]; rfl
   have e7 : ((d * P : Nat) : Int) = (P : Int) * d := by rw [Int.natCast_mul, Int.mul_comm]
   have e8 : ((x * P : Nat) : Int) = (P : Int) * x := by rw [Int.natCast_mul, Int.mul_comm]
   have e9 : ((y * P : Nat) : Int) = (P : Int) * y := by rw [Int.natCast_mul, Int.mul_comm]
   cases minus with
   | true =>
    simp only [if_true] at hv e5 ⊢
    rw [Int.mul_neg] at e5
    omega
   | false =>
    simp only [Bool.false_eq_true, if_false] at hv e5 ⊢
    omega
  ·right
   rw [dF hi]
   refine ⟨_, rfl, c, rfl, hc, by omega, ?_⟩
   have hce : c.length = n + 1 := by omega
   rw [hce, lo_end (by omega), lo_end (by omega)] at hv
   have b1 := vL_lt hc (Nat.le_of_eq hce)
   have b2 := vL_lt ha (n := n) (by omega)
   have b3 := vL_lt hb (n := n) (by omega)
   rw [Nat.pow_succ] at b1 hv
   generalize 10 ^ n = P at *
   have hcy0 : cy = 0 := by
    rcases (show cy = -1 ∨ cy = 0 ∨ cy = 1 by omega) with h | h | h
    ·rw [h] at hv
     cases minus with
     | true => have := hm rfl; simp only [if_true] at hv; omega
     | false => simp only [Bool.false_eq_true, if_false] at hv; omega
    ·exact h
    ·rw [h] at hv
     cases minus with
     | true => simp only [if_true] at hv; omega
     | false => simp only [Bool.false_eq_true, if_false] at hv; omega
   rw [hcy0] at hv
   cases minus with
   | true => have := hm rfl; simp only [if_true] at hv ⊢; omega
   | false => simp only [Bool.false_eq_true, if_false] at hv ⊢; omega
/-! Long division, and what is rounded, as the document has it. -/
theorem split6_eq {a b : List Nat} (ha : digP a) (hb : digP b) (la : a.length ≤ 500) (lb : b.length ≤ 500) (hB : 0 < vL b) :
  ∃ near left, exergueref06_split (up a) (up b) = some (decide (vL a / vL b % 2 = 1), up near, up left) ∧ digP near ∧ digP left ∧ near.length ≤ b.length + 12 * a.length + 1 ∧ left.length ≤ b.length + 11 * a.length ∧ vL left = vL a % vL b ∧ vL near = vL a - vL a % vL b := by
 unfold exergueref06_split
 rw [up_len, w64 (n := (a.length : Int) - 1) (by omega) (by omega)]
 -- ten times at most
 have hten : ∀ (l : List Nat), digP l → l.length ≤ 9000 → vL l < 10 * vL b → ∃ m, (loopN (fun (s1051 : (List Int) × Bool × Int) => (bif (decide (s1051.2.2 < 10)) then (Option.bind (Option.bind (exergueref06_Less s1051.1 (up b)) fun y1127 => (bif (!y1127) then (Option.bind (exergueref06_Sum s1051.1 (up b) true) fun y1133 => (some (y1133, (!s1051.2.1)))) else (some (s1051.1, s1051.2.1)))) fun (s1122 : (List Int) × Bool) => (some (.inl (s1122.1, s1122.2, (IntKind.wrap .i64 (s1051.2.2 + 1)))))) else (some (.inr (s1051.1, s1051.2.1))))) big (up l, false, 0) : Option ((List Int) × Bool)) = some (up m, decide (vL l / vL b % 2 = 1)) ∧ digP m ∧ m.length ≤ max l.length b.length + 10 ∧ vL m = vL l % vL b := by
  intro l hl hll hlt
  generalize hst : (fun (s1051 : (List Int) × Bool × Int) => ((bif (decide (s1051.2.2 < 10)) then (Option.bind (Option.bind (exergueref06_Less s1051.1 (up b)) fun y1127 => (bif (!y1127) then (Option.bind (exergueref06_Sum s1051.1 (up b) true) fun y1133 => (some (y1133, (!s1051.2.1)))) else (some (s1051.1, s1051.2.1)))) fun (s1122 : (List Int) × Bool) => (some (.inl (s1122.1, s1122.2, (IntKind.wrap .i64 (s1051.2.2 + 1)))))) else (some (.inr (s1051.1, s1051.2.1)))) : Option (((List Int) × Bool × Int) ⊕ ((List Int) × Bool)))) = step
  have hq9 : vL l / vL b ≤ 9 := by
   have := (Nat.div_lt_iff_lt_mul hB).2 hlt; omega
  have hdm := Nat.div_add_mod (vL l) (vL b)
  have hml := Nat.mod_lt (vL l) hB
  generalize vL l / vL b = q at *
  generalize hr : vL l % vL b = r at *
  generalize hBB : vL b = B at *
  have hrun := loop_var (step := step) (fun s => ∃ (m : List Nat) (k : Nat), s = (up m, decide (min k q % 2 = 1), (k : Int)) ∧ k ≤ 10 ∧ digP m ∧ m.length ≤ max l.length b.length + k ∧ vL m + B * min k q = vL l) (fun s => ((10 : Int) - s.2.2).toNat)
   (fun o => ∃ m, o = (up m, decide (q % 2 = 1)) ∧ digP m ∧ m.length ≤ max l.length b.length + 10 ∧ vL m = r) (s0 := (up l, false, 0)) ⟨l, 0, by simp, by omega, hl, by omega, by simp⟩ (by simp only; omega) (fun s hs => ?_)
  ·obtain ⟨o, h1, m, rfl, h2, h3, h4⟩ := hrun
   rw [h1]
   exact ⟨m, rfl, h2, h3, h4⟩
  ·obtain ⟨m, k, rfl, hk, hm, hml2, hv⟩ := hs
   subst hst
   simp only
   by_cases hk10 : k < 10
   ·left
    rw [dT (show (k : Int) < 10 by omega), less_eq hm hb (by omega) (by omega), hBB]
    simp only [cond_true, Option.bind_some]
    rw [w64 (n := (k : Int) + 1) (by omega) (by omega)]
    by_cases hkq : k < q
    ·have h5 : B * min k q + B ≤ B * q := by
      rw [show min k q = k by omega, ← Nat.mul_succ]
      exact Nat.mul_le_mul_left B hkq
     obtain ⟨c, g1, g2, g3, g4⟩ := sum_eq (a := m) (b := b) true hm hb (by omega) (by omega) (fun _ => by omega)
     rw [dF (show ¬ vL m < B by omega)]
     simp only [Bool.not_false, cond_true]
     rw [g1]
     refine ⟨_, rfl, ⟨c, k + 1, ?_, by omega, g2, by omega, ?_⟩, by simp only; omega⟩
     ·rw [show min (k + 1) q = k + 1 by omega, show min k q = k by omega]
      congr 2
      rcases Nat.mod_two_eq_zero_or_one k with h | h
      ·rw [dF (by omega), dT (by omega)]; rfl
      ·rw [dT h, dF (by omega)]; rfl
     ·simp only [if_true] at g4
      rw [g4, show min (k + 1) q = k + 1 by omega, Nat.mul_succ]
      rw [show min k q = k by omega] at hv h5
      omega
    ·have h5 : min k q = q := by omega
     rw [h5] at hv
     rw [dT (show vL m < B by omega)]
     exact ⟨_, rfl, ⟨m, k + 1, by rw [h5, show min (k + 1) q = q by omega]; rfl, by omega, hm, by omega, by rw [show min (k + 1) q = q by omega]; exact hv⟩, by simp only; omega⟩
   ·right
    rw [dF (show ¬ (k : Int) < 10 by omega)]
    have h5 : min k q = q := by omega
    rw [h5] at hv ⊢
    exact ⟨_, rfl, m, rfl, hm, by omega, by omega⟩
 generalize hst : (fun (s573 : (List Int) × Bool × Int) => ((bif (decide (s573.2.2 ≥ 0)) then (Option.bind (bif inR s573.2.2 a.length then (bif room (([(nth (up a) s573.2.2)] : List Int).length + s573.1.length) then (loopN (fun (s1051 : (List Int) × Bool × Int) => (bif (decide (s1051.2.2 < 10)) then (Option.bind (Option.bind (exergueref06_Less s1051.1 (up b)) fun y1127 => (bif (!y1127) then (Option.bind (exergueref06_Sum s1051.1 (up b) true) fun y1133 => (some (y1133, (!s1051.2.1)))) else (some (s1051.1, s1051.2.1)))) fun (s1122 : (List Int) × Bool) => (some (.inl (s1122.1, s1122.2, (IntKind.wrap .i64 (s1051.2.2 + 1)))))) else (some (.inr (s1051.1, s1051.2.1))))) big ((([(nth (up a) s573.2.2)] : List Int) ++ s573.1), false, 0)) else none) else none) fun (s1044 : (List Int) × Bool) => (some (.inl (s1044.1, s1044.2, (IntKind.wrap .i64 (s573.2.2 - 1)))))) else (some (.inr (s573.1, s573.2.1)))) : Option (((List Int) × Bool × Int) ⊕ ((List Int) × Bool)))) = step
 have hrun := loop_var (step := step) (fun s => ∃ (m : List Nat) (t : Nat), s = (up m, decide (hiL a (a.length - t) / vL b % 2 = 1), (a.length : Int) - 1 - t) ∧ t ≤ a.length ∧ digP m ∧ m.length ≤ b.length + 11 * t ∧ vL m = hiL a (a.length - t) % vL b) (fun s => (s.2.2 + 1).toNat)
  (fun o => ∃ m, o = (up m, decide (vL a / vL b % 2 = 1)) ∧ digP m ∧ m.length ≤ b.length + 11 * a.length ∧ vL m = vL a % vL b) (s0 := ([], false, (a.length : Int) - 1)) ⟨[], 0, by rw [hi_end (by omega), Nat.zero_div]; simp [up], by omega, (fun x hx => by cases hx), by simp, by rw [hi_end (by omega)]; simp [vL]⟩ (by simp only; omega) (fun s hs => ?_)
 ·obtain ⟨o, h1, m, rfl, h2, h3, h4⟩ := hrun
  rw [h1]
  simp only [Option.bind_some]
  obtain ⟨c, g1, g2, g3, g4⟩ := sum_eq (a := a) (b := m) true ha h2 (by omega) (by omega) (fun _ => by rw [h4]; exact Nat.mod_le _ _)
  rw [g1]
  exact ⟨c, m, rfl, g2, h2, by omega, by omega, h4, by rw [g4, h4]; rfl⟩
 ·obtain ⟨m, t, rfl, ht, hm, hml, hv⟩ := hs
  subst hst
  simp only
  by_cases hta : t < a.length
  ·left
   obtain ⟨j, hj⟩ : ∃ j : Nat, j = a.length - 1 - t := ⟨_, rfl⟩
   have hji : (a.length : Int) - 1 - t = (j : Int) := by omega
   have hh := hi_step a j
   rw [show a.length - t = j + 1 by omega] at hv
   have hjd := getD_dig ha j
   have hds := div_step (t := hiL a (j + 1)) (k := vL b) (d := a.getD j 0)
   have hhe : hiL a j = 10 * hiL a (j + 1) + a.getD j 0 := by omega
   have hmod := Nat.mod_lt (hiL a (j + 1)) hB
   rw [hji, dT (by omega), inR_nat (by omega), up_get (by omega)]
   rw [room_of (by rw [up_len]; simp; omega)]
   simp only [cond_true]
   have hvc : vL (a.getD j 0 :: m) = hiL a (j + 1) % vL b * 10 + a.getD j 0 := by
    show a.getD j 0 + 10 * vL m = _
    rw [hv]; omega
   obtain ⟨c, g1, g2, g3, g4⟩ := hten (a.getD j 0 :: m) (fun x hx => by
    rcases List.mem_cons.1 hx with h | h
    ·rw [h]; exact hjd
    ·exact hm x h) (by simp; omega) (by rw [hvc]; omega)
   have e1 : ([((a.getD j 0 : Nat) : Int)] : List Int) ++ up m = up (a.getD j 0 :: m) := rfl
   rw [e1, g1]
   simp only [Option.bind_some]
   rw [w64 (n := (j : Int) - 1) (by omega) (by omega)]
   refine ⟨_, rfl, ⟨c, t + 1, ?_, by omega, g2, by simp at g3; omega, ?_⟩, by simp only; omega⟩
   ·rw [show a.length - (t + 1) = j by omega, hhe, hds.1, hvc]
    have e2 : (a.length : Int) - 1 - ((t + 1 : Nat) : Int) = (j : Int) - 1 := by omega
    rw [e2]
    congr 2
    rw [decide_eq_decide]
    generalize hiL a (j + 1) / vL b = Q
    generalize (hiL a (j + 1) % vL b * 10 + a.getD j 0) / vL b = R
    omega
   ·rw [g4, hvc, show a.length - (t + 1) = j by omega, hhe, hds.2]
  ·right
   have hta2 : t = a.length := by omega
   subst hta2
   rw [Nat.sub_self, hi_zero] at hv ⊢
   rw [dF (by omega)]
   exact ⟨_, rfl, m, rfl, hm, by omega, hv⟩
theorem nought_eq {l : List Nat} (hl : l.length ≤ 100000) : exergueref06_nought (up l) = some (decide (vL l = 0)) := by
 unfold exergueref06_nought
 rw [up_len]
 have hz : ∀ l : List Nat, vL l = 0 ↔ ∀ i, i < l.length → l.getD i 0 = 0 := by
  intro l
  induction l with
  | nil => simp [vL]
  | cons x l ih =>
   show x + 10 * vL l = 0 ↔ _
   constructor
   ·intro h i hi
    cases i with
    | zero => simp; omega
    | succ i => simpa using ih.1 (by omega) i (by simpa using hi)
   ·intro h
    have h0 := h 0 (by simp)
    have h1 := ih.2 (fun i hi => by simpa using h (i + 1) (by simpa using hi))
    simp at h0
    omega
 obtain ⟨o, h1, h2⟩ := loop_count (step := (fun (s45 : Int) => ((bif (decide (s45 < (l.length : Int))) then (bif inR s45 l.length then (bif (decide ((nth (up l) s45) > 0)) then (some (.inr (.inr false))) else (some (.inl (IntKind.wrap .i64 (s45 + 1))))) else none) else (some (.inr (.inl ())))) : Option (Int ⊕ (Unit ⊕ Bool))))) l.length (fun i => (i : Int)) (fun i => ∀ j, j < i → l.getD j 0 = 0) (fun o => o = if vL l = 0 then .inl () else .inr false) (s0 := 0) rfl (fun j hj => by omega) (fun i hi hI => by
  rw [dT (by omega), inR_nat hi, up_get hi, w64 (n := (i : Int) + 1) (by omega) (by omega)]
  simp only [cond_true]
  by_cases c : l.getD i 0 = 0
  ·left
   rw [c, dF (by omega)]
   refine ⟨by simp, fun j hj => ?_⟩
   by_cases e : j = i
   ·subst e; exact c
   ·exact hI j (by omega)
  ·right
   rw [dT (by omega)]
   exact ⟨_, rfl, by rw [if_neg (fun h => c ((hz l).1 h i hi))]⟩) (fun hI => ⟨.inl (), by rw [dF (by omega)]; rfl, by rw [if_pos ((hz l).2 hI)]⟩) (by omega)
 have h1' : loopN (fun (s45 : Int) => ((bif (decide (s45 < (l.length : Int))) then (bif inR s45 l.length then (bif (decide ((nth (up l) s45) > 0)) then (some (.inr (.inr false))) else (some (.inl (IntKind.wrap .i64 (s45 + 1))))) else none) else (some (.inr (.inl ())))) : Option (Int ⊕ (Unit ⊕ Bool)))) big 0 = some o := h1
 rw [h1', h2]
 by_cases c : vL l = 0
 ·rw [if_pos c, dT c]; rfl
 ·rw [if_neg c, dF c]; rfl
theorem farther_eq {mode : Int} {neg odd : Bool} {r U : Nat} : exergueref06_farther mode neg odd (decide (2 * r < U)) (decide (U < 2 * r)) = some (awayN neg odd (halfI r U) mode) := by
 unfold exergueref06_farther awayN halfI half3
 by_cases m0 : mode = 0
 ·rw [dT m0, if_pos m0]; rfl
 ·rw [dF m0, if_neg m0]
  by_cases m1 : mode = 1
  ·rw [dT m1, if_pos m1]; rfl
  ·rw [dF m1, if_neg m1]
   by_cases m2 : mode = 2
   ·rw [dT m2, if_pos m2]; rfl
   ·rw [dF m2, if_neg m2]
    by_cases m3 : mode = 3
    ·rw [dT m3, if_pos m3]; rfl
    ·rw [dF m3, if_neg m3]
     rcases Nat.lt_trichotomy (2 * r) U with h | h | h
     ·rw [dT h, dF (show ¬ U < 2 * r by omega), if_pos h]
      by_cases m4 : mode = 4 <;> by_cases m5 : mode = 5 <;> by_cases m6 : mode = 6 <;> simp [m4, m5, m6]
     ·rw [dF (show ¬ 2 * r < U by omega), dF (show ¬ U < 2 * r by omega), if_neg (show ¬ 2 * r < U by omega), if_neg (show ¬ 2 * r > U by omega)]
      by_cases m4 : mode = 4 <;> by_cases m5 : mode = 5 <;> by_cases m6 : mode = 6 <;> cases odd <;> simp [m4, m5, m6]
     ·rw [dF (show ¬ 2 * r < U by omega), dT h, if_neg (show ¬ 2 * r < U by omega), if_pos (show 2 * r > U from h)]
      by_cases m4 : mode = 4 <;> by_cases m5 : mode = 5 <;> by_cases m6 : mode = 6 <;> simp [m4, m5, m6]
theorem rep_up (n : Nat) : rep (n : Int) (0 : Int) = up (List.replicate n 0) := by simp [rep, up]
theorem least_eq {l : List Nat} {E : Int} {neg : Bool} {n : Nat} (hn : n ≤ 100000) (hl : l.length ≤ 100000) : exergueref06_least ⟨neg, up l, E⟩ (n : Int) = some (up (List.replicate n 0 ++ l.reverse)) := by
 unfold exergueref06_least
 rw [mk_of (by omega) (by omega) (by omega), rep_up]
 simp only [cond_true]
 rw [up_len, w64 (n := (l.length : Int) - 1) (by omega) (by omega)]
 obtain ⟨o, h1, h2⟩ := loop_count (step := (fun (s31 : Int × (List Int)) => ((bif (decide (s31.1 ≥ 0)) then (bif inR s31.1 l.length then (bif room (s31.2.length + ([(nth (up l) s31.1)] : List Int).length) then (some (.inl ((IntKind.wrap .i64 (s31.1 - 1)), (s31.2 ++ ([(nth (up l) s31.1)] : List Int))))) else none) else none) else (some (.inr s31.2))) : Option ((Int × (List Int)) ⊕ (List Int))))) l.length (fun i => ((l.length : Int) - 1 - i, up (List.replicate n 0 ++ l.reverse.take i))) (fun _ => True) (fun o => o = up (List.replicate n 0 ++ l.reverse)) (s0 := ((l.length : Int) - 1, up (List.replicate n 0))) (by simp) trivial (fun i hi _ => by
  left
  refine ⟨?_, trivial⟩
  obtain ⟨j, hj⟩ : ∃ j : Nat, j = l.length - 1 - i := ⟨_, rfl⟩
  simp only
  rw [show (l.length : Int) - 1 - i = (j : Int) by omega, dT (by omega), inR_nat (by omega), up_get (by omega), room_of (by rw [up_len]; simp; omega), w64 (n := (j : Int) - 1) (by omega) (by omega)]
  simp only [cond_true]
  have e1 : l.reverse.take (i + 1) = l.reverse.take i ++ [l.getD j 0] := by
   rw [List.take_succ_eq_append_getElem (by simpa using hi), List.getElem_reverse, List.getD_eq_getElem?_getD]
   subst hj
   rw [List.getElem?_eq_getElem (by omega)]; rfl
  rw [e1, ← List.append_assoc, up_append (List.replicate n 0 ++ l.reverse.take i), show (l.length : Int) - 1 - ((i + 1 : Nat) : Int) = (j : Int) - 1 by omega]
  rfl) (fun _ => ⟨_, by simp only; rw [dF (by omega)]; rfl, by rw [← List.length_reverse, List.take_length]⟩) (by omega)
 rw [h1, h2]; rfl
theorem from_eq {n : Nat} (hn : n ≤ 100000) : exergueref06_from 1 (n : Int) = some (up (List.replicate n 0 ++ [1])) := by
 unfold exergueref06_from
 rw [mk_of (by omega) (by omega) (by omega), rep_up]
 simp only [cond_true]
 have e1 : IntKind.wrap .u8 (Int.tmod 1 10) = 1 := by decide
 have e2 : IntKind.wrap .i64 (Int.tdiv 1 10) = 0 := by decide
 rw [show big = (big - 2) + 1 + 1 from rfl, loopN_next (s' := (0, up (List.replicate n 0 ++ [1]))) (by
  simp only
  rw [e1, e2, dT (by omega), room_of (by rw [up_len]; simp; omega), up_append]; rfl), loopN_out (o := up (List.replicate n 0 ++ [1])) (by simp only; rw [dF (by omega)]; rfl)]
 rfl
theorem whole_eq {z : List Nat} {e : Int} {neg : Bool} (hl : z.length ≤ 100000) : exergueref06_whole neg (up z) e = Option.bind (exergueref05_Norm neg (up z.reverse) e) fun y54 => some (y54.1, y54.2) := by
 unfold exergueref06_whole
 rw [up_len, w64 (n := (z.length : Int) - 1) (by omega) (by omega)]
 obtain ⟨o, h1, h2⟩ := loop_count (step := (fun (s30 : Int × (List Int)) => ((bif (decide (s30.1 ≥ 0)) then (bif inR s30.1 z.length then (bif room (s30.2.length + ([(nth (up z) s30.1)] : List Int).length) then (some (.inl ((IntKind.wrap .i64 (s30.1 - 1)), (s30.2 ++ ([(nth (up z) s30.1)] : List Int))))) else none) else none) else (some (.inr s30.2))) : Option ((Int × (List Int)) ⊕ (List Int))))) z.length (fun i => ((z.length : Int) - 1 - i, up (z.reverse.take i))) (fun _ => True) (fun o => o = up z.reverse) (s0 := ((z.length : Int) - 1, [])) (by simp [up]) trivial (fun i hi _ => by
  left
  refine ⟨?_, trivial⟩
  obtain ⟨j, hj⟩ : ∃ j : Nat, j = z.length - 1 - i := ⟨_, rfl⟩
  simp only
  rw [show (z.length : Int) - 1 - i = (j : Int) by omega, dT (by omega), inR_nat (by omega), up_get (by omega), room_of (by rw [up_len]; simp; omega), w64 (n := (j : Int) - 1) (by omega) (by omega)]
  simp only [cond_true]
  have e1 : z.reverse.take (i + 1) = z.reverse.take i ++ [z.getD j 0] := by
   rw [List.take_succ_eq_append_getElem (by simpa using hi), List.getElem_reverse, List.getD_eq_getElem?_getD]
   subst hj
   rw [List.getElem?_eq_getElem (by omega)]; rfl
  rw [e1, up_append, show (z.length : Int) - 1 - ((i + 1 : Nat) : Int) = (j : Int) - 1 by omega]
  rfl) (fun _ => ⟨_, by simp only; rw [dF (by omega)]; rfl, by rw [← List.length_reverse, List.take_length]⟩) (by omega)
 rw [h1, h2]; rfl
theorem rnorm_of {z l : List Nat} {e E : Int} {neg : Bool} (hd : digP z) (hl : z.length ≤ 5000) (he : -3000 ≤ e) (he2 : e ≤ 100000) (hm : vN z * pw e = magN l E) (h : rightP l E) : exergueref05_Norm neg (up z) e = some (⟨neg, up l, E⟩, 0) := by
 obtain ⟨a, b, core, hz, hcb, hh, ht⟩ := strip z
 have hdc : digP core := by rw [hz] at hd; exact dig_right (dig_left hd)
 have hv : vN z = vN core * 10 ^ b := by
  rw [hz, List.append_assoc, vN_append, vN_zeros, vN_append, vN_zeros, List.length_replicate]; omega
 have hmag : magN core (e + b) = magN l E := by
  rw [← hm]
  unfold magN
  rw [pw_add b (by omega), hv, Nat.mul_comm (pw e), Nat.mul_assoc]
 by_cases h0 : core = []
 ·have hm0 : magN l E = 0 := by rw [← hmag, h0]; simp [magN, vN]
  have hl0 := (mag_zero h).1 hm0
  rw [rnorm_is hz hcb hh ht hd hl (by omega) (by omega) (fun hc => absurd h0 hc), if_pos h0, h0]
  subst hl0
  rw [h.2.1 rfl]
 ·have l0 : l ≠ [] := fun hl0 => by
   rw [mag_zero' hl0] at hmag
   unfold magN at hmag
   rcases Nat.mul_eq_zero.1 hmag with g | g
   ·exact h0 (vN_zero g hh)
   ·have := pw_pos (e + b); omega
  obtain ⟨b1, b2, b3, b4, b5⟩ := h.2.2 l0
  obtain ⟨e1, e2⟩ := same_core hdc h.1 hh ht b4 b5 h0 l0 (by omega) (by omega) hmag
  rw [rnorm_is hz hcb hh ht hd hl (by omega) (by omega) (fun _ => by rw [e1, e2]; exact h), if_neg h0, e1, e2]
/-! To round, by either hand. -/
theorem half_scale {r U u : Nat} (hu : 0 < u) : halfI (r * u) (U * u) = halfI r U := by
 unfold halfI
 have e : 2 * (r * u) = 2 * r * u := (Nat.mul_assoc ..).symm
 rw [e]
 by_cases h1 : 2 * r < U
 ·rw [if_pos h1, if_pos (Nat.mul_lt_mul_of_pos_right h1 hu)]
 ·rw [if_neg h1, if_neg (fun h => h1 (Nat.lt_of_mul_lt_mul_right h))]
  by_cases h2 : 2 * r > U
  ·rw [if_pos h2, if_pos (Nat.mul_lt_mul_of_pos_right h2 hu)]
  ·rw [if_neg h2, if_neg (fun h => h2 (Nat.lt_of_mul_lt_mul_right h))]
theorem inc_scale {neg : Bool} {A B u : Nat} {mode : Int} (hu : 0 < u) : incN neg (A * u) (B * u) mode = incN neg A B mode * u := by
 unfold incN
 rw [Nat.mul_mod_mul_right, Nat.mul_div_mul_right _ _ hu, half_scale hu]
 by_cases h : A % B = 0
 ·rw [if_pos h, if_pos (by rw [h, Nat.zero_mul])]
 ·rw [if_neg h, if_neg (fun hh => by
   rcases Nat.mul_eq_zero.1 hh with g | g
   ·exact h g
   ·omega), Nat.mul_assoc]
theorem rinc_same {l : List Nat} {E q mode : Int} {neg : Bool} (h : nearP l E) (hq : -150 ≤ q) (hq2 : q ≤ 150) (hm : 0 ≤ mode ∧ mode ≤ 7) :
  ∃ l' E', round_Inc ⟨neg, up l, E⟩ 1 q mode = some (⟨neg, up l', E'⟩, 0) ∧ exergueref06_Inc ⟨neg, up l, E⟩ 1 q mode = some (⟨neg, up l', E'⟩, 0) ∧ rightP l' E' := by
 obtain ⟨l', E', g1, g2, g3, g4⟩ := inc_eq (neg := neg) (p := q) (k := 1) h.1 (near_600 h) (near_E h) (by omega) (by omega) (by omega) (by omega) hm.1 hm.2
 have g1' : round_Inc ⟨neg, up l, E⟩ 1 q mode = some (⟨neg, up l', E'⟩, 0) := g1
 refine ⟨l', E', g1', ?_, g2⟩
 obtain ⟨hr, h40, hE1, hE2⟩ := h
 obtain ⟨P, hP⟩ : ∃ P : Int, P = min E q := ⟨_, rfl⟩
 obtain ⟨n1, hn1⟩ : ∃ n : Nat, (n : Int) = E - P := ⟨(E - P).toNat, by omega⟩
 obtain ⟨n2, hn2⟩ : ∃ n : Nat, (n : Int) = q - P := ⟨(q - P).toNat, by omega⟩
 have hmin : minI E q = P := by unfold minI; split <;> omega
 obtain ⟨a, ha⟩ : ∃ a, a = List.replicate n1 0 ++ l.reverse := ⟨_, rfl⟩
 obtain ⟨b, hb⟩ : ∃ b, b = List.replicate n2 0 ++ [1] := ⟨_, rfl⟩
 have da : digP a := by
  rw [ha]
  exact dig_append (fun x hx => by rw [List.eq_of_mem_replicate hx]; omega) (fun x hx => hr.1 x (List.mem_reverse.1 hx))
 have db : digP b := by
  rw [hb]
  exact dig_append (fun x hx => by rw [List.eq_of_mem_replicate hx]; omega) (fun x hx => by simp at hx; omega)
 have hA : vL a = vN l * 10 ^ n1 := by rw [ha, vL_append, vL_zeros, vL_rev, List.length_replicate, Nat.mul_comm]; omega
 have hB : vL b = 10 ^ n2 := by
  rw [hb, vL_append, vL_zeros, List.length_replicate]
  show 0 + 10 ^ n2 * (1 + 10 * 0) = _
  omega
 have la : a.length ≤ 260 := by rw [ha]; simp; omega
 have lb : b.length ≤ 260 := by rw [hb]; simp; omega
 have hBp : 0 < vL b := by rw [hB]; exact Nat.pow_pos (by decide)
 have hmA : magN l E = vL a * pw P := by
  unfold magN
  have := pw_add (m := P) n1 (by omega)
  rw [show P + (n1 : Int) = E by omega] at this
  rw [this, hA, Nat.mul_assoc, Nat.mul_comm (pw P)]
 have hmB : pw q = vL b * pw P := by
  have := pw_add (m := P) n2 (by omega)
  rw [show P + (n2 : Int) = q by omega] at this
  rw [this, hB, Nat.mul_comm]
 rw [Nat.one_mul, hmA, hmB, inc_scale (pw_pos P)] at g3
 obtain ⟨near, left, s1, s2, s3, s4, s5, s6, s7⟩ := split6_eq da db (by omega) (by omega) hBp
 unfold exergueref06_Inc
 have hU : exergueref06_Unit 1 q = some true := by
  unfold exergueref06_Unit
  rw [dT (show q ≥ -1000 by omega), dT (show q ≤ 1000 by omega)]; rfl
 rw [hU]
 simp only [Option.bind_some]
 rw [dF (show ¬ mode < 0 by omega), dF (show ¬ mode > 7 by omega), hmin, w64 (n := E - P) (by omega) (by omega), w64 (n := q - P) (by omega) (by omega), ← hn1, ← hn2]
 simp only [cond_false, Bool.not_true, Option.bind_some, joinX]
 rw [least_eq (by omega) (by omega), from_eq (by omega), ← ha, ← hb]
 simp only [Option.bind_some]
 rw [s1]
 simp only [Option.bind_some]
 rw [nought_eq (by omega), s6]
 simp only [Option.bind_some]
 have hnd := Nat.div_add_mod (vL a) (vL b)
 have hmul : vL b * (vL a / vL b) = vL a / vL b * vL b := Nat.mul_comm ..
 by_cases hz : vL a % vL b = 0
 ·rw [dT hz]
  have hi : incN neg (vL a) (vL b) mode = vL a := inc_self hz
  rw [hi, ← hmA] at g3
  obtain ⟨rfl, rfl⟩ := right_same g2 hr g3
  rfl
 ·rw [dF hz]
  simp only [cond_false]
  obtain ⟨tw, t1, t2, t3, t4⟩ := sum_eq (a := left) (b := left) false s3 s3 (by omega) (by omega) (fun hh => by cases hh)
  have t4' : vL tw = 2 * (vL a % vL b) := by rw [t4, s6]; simp; omega
  rw [t1]
  simp only [Option.bind_some]
  rw [less_eq t2 db (by omega) (by omega), less_eq db t2 (by omega) (by omega), t4']
  simp only [Option.bind_some]
  rw [farther_eq]
  simp only [Option.bind_some]
  unfold incN at g3
  rw [if_neg hz] at g3
  cases hw : awayN neg (decide (vL a / vL b % 2 = 1)) (halfI (vL a % vL b) (vL b)) mode with
  | true =>
   rw [hw] at g3
   simp only [if_true] at g3
   obtain ⟨c, c1, c2, c3, c4⟩ := sum_eq (a := near) (b := b) false s2 db (by omega) (by omega) (fun hh => by cases hh)
   simp only [cond_true]
   rw [c1]
   simp only [Option.bind_some]
   have c4' : vL c = (vL a / vL b + 1) * vL b := by rw [c4, s7, Nat.add_mul]; simp; omega
   have hsz : c.length ≤ 100000 := by omega
   rw [whole_eq hsz]
   have hrv : vN c.reverse = vL c := by have := vL_rev c.reverse; rw [List.reverse_reverse] at this; exact this.symm
   have hno := rnorm_of (z := c.reverse) (l := l') (e := P) (E := E') (neg := neg) (fun x hx => c2 x (List.mem_reverse.1 hx)) (by rw [List.length_reverse]; omega) (by omega) (by omega) (by rw [hrv, c4', g3]) g2
   rw [hno]; rfl
  | false =>
   rw [hw] at g3
   simp only [Bool.false_eq_true, if_false, Nat.add_zero] at g3
   simp only [cond_false]
   rw [whole_eq (by omega)]
   have s7' : vL near = vL a / vL b * vL b := by omega
   have hrv : vN near.reverse = vL near := by have := vL_rev near.reverse; rw [List.reverse_reverse] at this; exact this.symm
   have hno := rnorm_of (z := near.reverse) (l := l') (e := P) (E := E') (neg := neg) (fun x hx => s2 x (List.mem_reverse.1 hx)) (by rw [List.length_reverse]; omega) (by omega) (by omega) (by rw [hrv, s7', g3]) g2
   rw [hno]; rfl
theorem is_bad {mode : Int} (hm : ¬ (0 ≤ mode ∧ mode ≤ 7)) : round_Is mode = some false := by
 unfold round_Is
 by_cases h : mode ≥ 0
 ·rw [dT h, dF (show ¬ mode ≤ 7 by omega)]; rfl
 ·rw [dF h]; rfl
theorem mode_bad {mode : Int} {b : Bool} (hm : ¬ (0 ≤ mode ∧ mode ≤ 7)) : (bif (decide (mode < 0)) then (some true) else (bif (decide (mode > 7)) then (some true) else (some b))) = some true := by
 by_cases h : mode < 0
 ·rw [dT h]; rfl
 ·rw [dF h, dT (show mode > 7 by omega)]; rfl
theorem round_same {p : St25} {n mode : Int} {l : List Nat} {E : Int} {neg : Bool} (hc : cntP p) (hn : n ≤ 40) (h : nearP l E) :
  ∃ neg' l' E' e, shape_Round p n ⟨neg, up l, E⟩ mode = some (⟨neg', up l', E'⟩, e) ∧ exergueref17_Round p n ⟨neg, up l, E⟩ mode = some (⟨neg', up l', E'⟩, e) ∧ rightP l' E' := by
 obtain ⟨c1, c2, c3, c4, c5, c6, c7, c8, c9⟩ := hc
 have hr := h.1
 have hn2 := h.2
 have r0 : rightP [] 0 := ⟨(fun x hx => by cases hx), fun _ => rfl, fun hh => absurd rfl hh⟩
 have hto : ∀ q : Int, -40 ≤ q → q ≤ 0 → ∃ neg' l' E' e, round_To ⟨neg, up l, E⟩ q mode = some (⟨neg', up l', E'⟩, e) ∧ exergueref06_To ⟨neg, up l, E⟩ q mode = some (⟨neg', up l', E'⟩, e) ∧ rightP l' E' := by
  intro q h1 h2
  unfold round_To exergueref06_To
  by_cases hm : 0 ≤ mode ∧ mode ≤ 7
  ·obtain ⟨l', E', g1, g2, g3⟩ := rinc_same (neg := neg) (q := q) h (by omega) (by omega) hm
   rw [g1, g2]
   exact ⟨neg, l', E', 0, rfl, rfl, g3⟩
  ·refine ⟨false, [], 0, 1, ?_, ?_, r0⟩
   ·unfold round_Inc
    rw [is_bad hm]; rfl
   ·unfold exergueref06_Inc
    obtain ⟨u, hu⟩ : ∃ u, exergueref06_Unit 1 q = some u := by
     unfold exergueref06_Unit
     rw [dT (show q ≥ -1000 by omega)]
     exact ⟨_, rfl⟩
    rw [hu]
    simp only [Option.bind_some]
    rw [mode_bad hm]; rfl
 have hsig : ∀ K : Nat, 1 ≤ K → K ≤ 41 → ∃ neg' l' E' e, round_Sig ⟨neg, up l, E⟩ K mode = some (⟨neg', up l', E'⟩, e) ∧ exergueref06_Sig ⟨neg, up l, E⟩ K mode = some (⟨neg', up l', E'⟩, e) ∧ rightP l' E' := by
  intro K hK hK2
  by_cases hm : 0 ≤ mode ∧ mode ≤ 7
  ·by_cases h0 : l = []
   ·have hE := hr.2.1 h0
    subst h0; subst hE
    refine ⟨neg, [], 0, 0, sig_stays hr (pw_big (near_lt h) (by omega) (by omega)) (fun e => absurd rfl e) hK hK2 hm (by simp), ?_, r0⟩
    unfold exergueref06_Sig
    rw [dF (show ¬ mode < 0 by omega), dF (show ¬ mode > 7 by omega), dF (show ¬ (K : Int) < 1 by omega)]
    rfl
   ·have hpos : 0 < l.length := List.length_pos_iff.2 h0
    obtain ⟨M, hM⟩ : ∃ M : Int, M = E + l.length - 1 := ⟨_, rfl⟩
    obtain ⟨l', E', g1, g2, g3⟩ := rinc_same (neg := neg) (q := M - K + 1) h (by omega) (by omega) hm
    refine ⟨neg, l', E', 0, ?_, ?_, g3⟩
    ·unfold round_Sig
     rw [is_eq hm.1 hm.2, right_eq hr, mag_eq hr, if_neg h0, ← hM, dF (show ¬ (K : Int) < 1 by omega)]
     simp only [Bool.not_true, cond_false, Option.bind_some, joinX, up_len]
     rw [dF (show ¬ (l.length : Int) = 0 by omega), w64 (n := M + 1000) (by omega) (by omega), w64 (n := M + 1000 + 1) (by omega) (by omega), dF (show ¬ (K : Int) > M + 1000 + 1 by omega), w64 (n := M - (K : Int)) (by omega) (by omega), w64 (n := M - (K : Int) + 1) (by omega) (by omega), g1]
     rfl
    ·unfold exergueref06_Sig
     rw [dF (show ¬ mode < 0 by omega), dF (show ¬ mode > 7 by omega), dF (show ¬ (K : Int) < 1 by omega), rmag_eq hr, if_neg h0, ← hM]
     simp only [cond_false, Option.bind_some, joinX, up_len]
     rw [dF (show ¬ (l.length : Int) = 0 by omega), w64 (n := M - (K : Int)) (by omega) (by omega), w64 (n := M - (K : Int) + 1) (by omega) (by omega), dF (show ¬ M - (K : Int) + 1 < -1000 by omega), g2]
     rfl
  ·refine ⟨false, [], 0, 1, ?_, ?_, r0⟩
   ·unfold round_Sig
    rw [dF (show ¬ (K : Int) < 1 by omega), is_bad hm]; rfl
   ·unfold exergueref06_Sig
    rw [mode_bad hm]; rfl
 unfold shape_Round exergueref17_Round
 by_cases hx : p.Exp_ > 0
 ·rw [dT hx, count_eq c4.1 (by omega)]
  obtain ⟨K, hK⟩ : ∃ K : Nat, p.MaxFrac_ + 1 = K := ⟨(p.MaxFrac_ + 1).toNat, by omega⟩
  obtain ⟨neg', l', E', e, g1, g2, g3⟩ := hsig K (by omega) (by omega)
  simp only [cond_true, Option.bind_some]
  rw [hK, w64 (n := (K : Int)) (by omega) (by omega), g1, g2]
  exact ⟨neg', l', E', e, rfl, rfl, g3⟩
 ·rw [dF hx]
  by_cases hs : p.MaxSig_ > 0
  ·rw [dT hs]
   obtain ⟨K, hK⟩ : ∃ K : Nat, p.MaxSig_ = K := ⟨p.MaxSig_.toNat, by omega⟩
   obtain ⟨neg', l', E', e, g1, g2, g3⟩ := hsig K (by omega) (by omega)
   simp only [cond_true, cond_false]
   rw [hK, g1, g2]
   exact ⟨neg', l', E', e, rfl, rfl, g3⟩
  ·rw [dF hs]
   by_cases hd : n ≥ 0
   ·rw [dT hd]
    obtain ⟨neg', l', E', e, g1, g2, g3⟩ := hto (-n) (by omega) (by omega)
    have ew : IntKind.wrap .i64 (0 - n) = -n := by rw [w64 (by omega) (by omega)]; omega
    simp only [cond_true, cond_false]
    rw [ew, g1, g2]
    exact ⟨neg', l', E', e, rfl, rfl, g3⟩
   ·rw [dF hd]
    obtain ⟨neg', l', E', e, g1, g2, g3⟩ := hto (-p.MaxFrac_) (by omega) (by omega)
    have ew : IntKind.wrap .i64 (0 - p.MaxFrac_) = -p.MaxFrac_ := by rw [w64 (by omega) (by omega)]; omega
    simp only [cond_false]
    rw [ew, g1, g2]
    exact ⟨neg', l', E', e, rfl, rfl, g3⟩
/-! Figures, as the document has them. -/
theorem rat_eq {l : List Nat} {E p : Int} {neg : Bool} (h : rightP l E) (hp : -2900 ≤ p) (hp2 : p ≤ 100000) : exergueref05_At ⟨neg, up l, E⟩ p = some ((magN l E / pw p % 10 : Nat) : Int) := by
 have hl := right_low h
 rw [fig_at h hp hp2]
 unfold exergueref05_At
 simp only [up_len]
 refine bind_of (fun o => joinX (fun (s40 : Unit) => (some (0 : Int))) o = some ((if E ≤ p ∧ p < E + l.length then l.getD (E + l.length - 1 - p).toNat 0 else 0 : Nat) : Int)) ?_ (fun o ho => ho)
 have hn : ∃ n : Nat, n = if E ≤ p ∧ p < E + l.length then (E + l.length - 1 - p).toNat else l.length := ⟨_, rfl⟩
 obtain ⟨n, hn⟩ := hn
 refine loop_count n (fun i => (i : Int)) (fun _ => True) _ rfl trivial (fun i hi _ => .inl ⟨?_, trivial⟩) (fun _ => ?_) (by split at hn <;> omega)
 ·have hil : i < l.length := by split at hn <;> omega
  rw [w64 (n := E + (l.length : Int)) (by omega) (by omega), w64 (n := E + (l.length : Int) - 1) (by omega) (by omega), w64 (n := E + (l.length : Int) - 1 - i) (by omega) (by omega), w64 (n := (i : Int) + 1) (by omega) (by omega)]
  rw [dT (by omega), dF (by split at hn <;> omega)]
  simp
 ·by_cases hc : E ≤ p ∧ p < E + l.length
  ·rw [if_pos hc] at hn ⊢
   have hil : n < l.length := by omega
   refine ⟨.inr ((l.getD n 0 : Nat) : Int), ?_, by rw [hn]; rfl⟩
   rw [w64 (n := E + (l.length : Int)) (by omega) (by omega), w64 (n := E + (l.length : Int) - 1) (by omega) (by omega), w64 (n := E + (l.length : Int) - 1 - n) (by omega) (by omega)]
   rw [dT (by omega), dT (by omega), inR_nat hil, up_get hil]; rfl
  ·rw [if_neg hc] at hn ⊢
   subst hn
   exact ⟨.inl (), by rw [dF (by omega)]; rfl, rfl⟩
theorem bind_inv {α β : Type} {x : Option α} {k : α → Option β} {r : β} (h : Option.bind x k = some r) : ∃ a, x = some a ∧ k a = some r := by
 cases x with
 | none => cases h
 | some a => exact ⟨a, rfl, h⟩
theorem figs_succ (A : Nat) (M : Int) (i : Nat) : figs A M (i + 1) = figs A M i ++ [A / pw (M - i) % 10] := rfl
theorem bare_dig {p : St25} {l : List Nat} {E q : Int} (h : nearP l E) (hr : rightP l (bareE p l E)) (hq : -2100 ≤ q) (hq2 : q ≤ 2100) : magN l E / pw (q + bareP p l E) % 10 = magN l (bareE p l E) / pw q % 10 := by
 obtain ⟨h1, h2, h3, h4⟩ := h
 have hb : bareE p l E + bareP p l E = E ∨ l = [] := by
  unfold bareE bareP
  by_cases c : p.Exp_ < 1
  ·rw [if_pos c, if_pos c]; left; omega
  ·rw [if_neg c, if_neg c]
   by_cases c2 : l = []
   ·exact .inr c2
   ·rw [if_neg c2, if_neg c2]; left; omega
 rcases hb with hb | hb
 ·have hp : -200 ≤ bareP p l E ∧ bareP p l E ≤ 200 := by
   unfold bareP
   split
   ·omega
   ·split <;> omega
  rw [fig_at h1 (by omega) (by omega), fig_at hr (by omega) (by omega)]
  by_cases c : E ≤ q + bareP p l E ∧ q + bareP p l E < E + l.length
  ·rw [if_pos c, if_pos (by omega)]
   congr 1; omega
  ·rw [if_neg c, if_neg (by omega)]
 ·subst hb
  simp [magN, vN]
theorem rfigures17 {p : St25} {n : Int} {l : List Nat} {E : Int} {neg : Bool} {a b : Nat} (hc : cntP p) (hn : n ≤ 40) (h : nearP l E) (hr : rightP l (bareE p l E)) (ha : (a : Int) = aheadV p l (bareE p l E)) (hb : (b : Int) = behindV p n l (bareE p l E)) (ha2 : a ≤ 2000) (hb2 : b ≤ 1100) :
  exergueref17_Figures p n ⟨neg, up l, E⟩ = some (up (figs (magN l (bareE p l E)) (a - 1) a), up (figs (magN l (bareE p l E)) (-1) b), bareP p l E) := by
 obtain ⟨c1, c2, c3, c4, c5, c6, c7, c8, c9⟩ := hc
 have hnear := h
 obtain ⟨h1, h2, h3, h4⟩ := h
 have hPb : -200 ≤ bareP p l E ∧ bareP p l E ≤ 200 := by
  unfold bareP
  split
  ·omega
  ·split <;> omega
 unfold exergueref17_Figures
 rw [rmag_eq h1]
 simp only [Option.bind_some]
 have e1 : (bif (decide (p.Exp_ > 0)) then (some (if l = [] then 0 else E + l.length - 1)) else (some 0) : Option Int) = some (bareP p l E) := by
  unfold bareP
  by_cases c : p.Exp_ > 0
  ·rw [dT c, if_neg (c := p.Exp_ < 1) (by omega)]; rfl
  ·rw [dF c, if_pos (c := p.Exp_ < 1) (by omega)]; rfl
 rw [e1]
 simp only [Option.bind_some]
 have hmg : magE l (bareE p l E) = (if l = [] then 0 else E + l.length - 1) ∨ p.Exp_ > 0 := by
  by_cases c : p.Exp_ > 0
  ·exact .inr c
  ·left; unfold magE bareE; rw [if_pos (c := p.Exp_ < 1) (by omega)]
 have hmb : -200 ≤ (if l = [] then 0 else E + l.length - 1) ∧ (if l = [] then 0 else E + l.length - 1) ≤ 200 := by split <;> omega
 obtain ⟨AH, BH, e2, hAH, hBH⟩ : ∃ AH BH : Int, (Option.bind (Option.bind (bif (decide (p.Exp_ = 0)) then (some (decide (p.MaxSig_ > 0))) else (some false)) fun (s37 : Bool) => (bif s37 then (some (1, (IntKind.wrap .i64 ((IntKind.wrap .i64 (p.MinSig_ - 1)) - (if l = [] then 0 else E + l.length - 1))))) else (some (p.MinInt_, p.MinFrac_)))) fun (s29 : Int × Int) => (Option.bind (Option.bind (bif (decide (p.Exp_ = 0)) then (bif (decide (p.MaxSig_ = 0)) then (some (decide (n ≥ 0))) else (some false)) else (some false)) fun (s79 : Bool) => (bif s79 then (some n) else (some s29.2))) fun (s68 : Int) => some (s29.1, s68))) = some (AH, BH) ∧ AH = leastA p ∧ BH = leastB p n l (bareE p l E) := by
  unfold leastA leastB
  rw [w64 (n := p.MinSig_ - 1) (by omega) (by omega), w64 (n := p.MinSig_ - 1 - (if l = [] then 0 else E + (l.length : Int) - 1)) (by omega) (by omega)]
  by_cases x0 : p.Exp_ = 0
  ·rw [dT x0]
   by_cases s0 : p.MaxSig_ > 0
   ·rw [dT s0, dF (show ¬ p.MaxSig_ = 0 by omega)]
    refine ⟨_, _, rfl, ?_, ?_⟩
    ·rw [if_pos (c := p.Exp_ < 1 ∧ p.MaxSig_ > 0) ⟨by omega, s0⟩]
    ·rw [if_neg (c := p.Exp_ > 0) (by omega), if_pos (c := p.MaxSig_ > 0) s0]
     rcases hmg with g | g
     ·rw [g]
     ·omega
   ·rw [dF s0, dT (show p.MaxSig_ = 0 by omega)]
    by_cases n0 : n ≥ 0
    ·rw [dT n0]
     exact ⟨_, _, rfl, by rw [if_neg (c := p.Exp_ < 1 ∧ p.MaxSig_ > 0) (by omega)], by rw [if_neg (c := p.Exp_ > 0) (by omega), if_neg (c := p.MaxSig_ > 0) s0, if_pos (c := n ≥ 0) n0]⟩
    ·rw [dF n0]
     exact ⟨_, _, rfl, by rw [if_neg (c := p.Exp_ < 1 ∧ p.MaxSig_ > 0) (by omega)], by rw [if_neg (c := p.Exp_ > 0) (by omega), if_neg (c := p.MaxSig_ > 0) s0, if_neg (c := n ≥ 0) n0]⟩
  ·rw [dF x0]
   exact ⟨_, _, rfl, by rw [if_neg (c := p.Exp_ < 1 ∧ p.MaxSig_ > 0) (by omega)], by rw [if_pos (c := p.Exp_ > 0) (by omega)]⟩
 obtain ⟨s29, hs29, hk⟩ := bind_inv e2
 obtain ⟨s68, hs68, hk2⟩ := bind_inv hk
 simp only [Option.some.injEq, Prod.mk.injEq] at hk2
 obtain ⟨k1, k2⟩ := hk2
 rw [hs29]
 simp only [Option.bind_some]
 rw [hs68]
 simp only [Option.bind_some]
 subst k2
 rw [k1, hAH, hBH]
 clear hk hs68 hs29 e2 k1 hAH hBH AH s29 s68
 have hEe : l ≠ [] → IntKind.wrap .i64 (E - bareP p l E) = bareE p l E := fun h0 => by
  rw [w64 (by omega) (by omega)]
  unfold bareE bareP
  by_cases c : p.Exp_ < 1
  ·rw [if_pos c, if_pos c]; omega
  ·rw [if_neg c, if_neg c, if_neg h0, if_neg h0]; omega
 have hBB : -300 ≤ leastB p n l (bareE p l E) ∧ leastB p n l (bareE p l E) ≤ 300 := by
  unfold leastB
  rcases hmg with g | g
  ·rw [g]
   split
   ·omega
   ·split
    ·omega
    ·split <;> omega
  ·rw [if_pos g]; omega
 rw [w64 (n := 0 - leastB p n l (bareE p l E)) (by omega) (by omega)]
 obtain ⟨A, hA⟩ : ∃ A, A = magN l (bareE p l E) := ⟨_, rfl⟩
 have hdig : ∀ q : Int, -2100 ≤ q → q ≤ 2100 → exergueref05_At ⟨neg, up l, E⟩ (IntKind.wrap .i64 (q + bareP p l E)) = some ((A / pw q % 10 : Nat) : Int) := fun q q1 q2 => by
  rw [w64 (by omega) (by omega), rat_eq h1 (by omega) (by omega), bare_dig hnear hr q1 q2, hA]
 -- where whole figures end
 have htop : ∀ q : Int, (a : Int) ≤ q → q ≤ 2100 → A / pw q % 10 = 0 := by
  intro q q1 q2
  rw [hA, fig_at hr (by omega) (by omega)]
  split
  ·rename_i hh
   exfalso
   have h0 : l ≠ [] := fun h0 => by subst h0; simp at hh; omega
   unfold aheadV magE at ha
   rw [if_neg h0, if_neg h0] at ha
   omega
  ·rfl
 have hlead : 0 < a → ((a : Int) - 1 < leastA p ∨ A / pw ((a : Int) - 1) % 10 > 0) := by
  intro hp
  by_cases h0 : l = []
  ·left
   unfold aheadV at ha
   rw [if_pos h0] at ha
   omega
  ·by_cases hc : (a : Int) ≤ leastA p
   ·left; omega
   ·right
    unfold aheadV magE at ha
    rw [if_neg h0, if_neg h0] at ha
    have he : (a : Int) - 1 = bareE p l E + l.length - 1 := by omega
    have := first_fig hr h0
    rw [he, hA]
    omega
 have hla : leastA p ≤ a := by
  unfold aheadV at ha
  split at ha <;> omega
 generalize hst : (fun (s665 : Int × (List Int) × (List Int)) => ((bif (decide (s665.1 ≥ (-2100))) then (Option.bind (Option.bind (exergueref05_At ⟨neg, up l, E⟩ (IntKind.wrap .i64 (s665.1 + bareP p l E))) fun y1141 => (Option.bind (Option.bind (bif (decide (s665.1 ≥ 0)) then (bif (decide ((s665.2.1.length : Int) > 0)) then (some true) else (bif (decide (y1141 > 0)) then (some true) else (some (decide (s665.1 < leastA p))))) else (some false)) fun (s1185 : Bool) => (bif s1185 then (bif room (s665.2.1.length + ([y1141] : List Int).length) then (some (s665.2.1 ++ ([y1141] : List Int))) else none) else (some s665.2.1))) fun (s1171 : (List Int)) => (Option.bind (bif (decide (s665.1 < 0)) then (bif (decide (s665.1 ≥ (IntKind.wrap .i64 (E - bareP p l E)))) then (bif (decide (((up l).length : Int) > 0)) then (some true) else (some ((decide (s665.1 ≥ 0 - leastB p n l (bareE p l E)))))) else (some ((decide (s665.1 ≥ 0 - leastB p n l (bareE p l E)))))) else (some false)) fun (s1212 : Bool) => (bif s1212 then (bif room (s665.2.2.length + ([y1141] : List Int).length) then (some (s1171, (s665.2.2 ++ ([y1141] : List Int)))) else none) else (some (s1171, s665.2.2)))))) fun (s1136 : (List Int) × (List Int)) => (some (.inl ((IntKind.wrap .i64 (s665.1 - 1)), s1136.1, s1136.2)))) else (some (.inr (s665.2.1, s665.2.2)))) : Option ((Int × (List Int) × (List Int)) ⊕ ((List Int) × (List Int))))) = step
 obtain ⟨o, g1, g2⟩ := loop_count (step := step) 4201 (fun i => ((2100 : Int) - i, up (figs A ((a : Int) - 1) (min a (a + i - 2101))), up (figs A (-1) (min b (i - 2101))))) (fun _ => True) (fun o => o = (up (figs A ((a : Int) - 1) a), up (figs A (-1) b))) (s0 := (2100, [], [])) (by
   rw [show min a (a + 0 - 2101) = 0 by omega, show min b (0 - 2101) = 0 by omega]; rfl) trivial (fun i hi _ => by
  left
  refine ⟨?_, trivial⟩
  subst hst
  simp only
  rw [dT (show (2100 : Int) - i ≥ -2100 by omega), hdig _ (by omega) (by omega), w64 (n := (2100 : Int) - i - 1) (by omega) (by omega)]
  simp only [cond_true, Option.bind_some]
  have hl1 : (up (figs A ((a : Int) - 1) (min a (a + i - 2101)))).length = min a (a + i - 2101) := by rw [up_len, figs_len]
  have hl2 : (up (figs A (-1) (min b (i - 2101)))).length = min b (i - 2101) := by rw [up_len, figs_len]
  rw [hl1, hl2]
  by_cases hq : (2100 : Int) - i ≥ 0
  ·rw [dT hq, dF (show ¬ (2100 : Int) - i < 0 by omega)]
   simp only [cond_true, cond_false, Option.bind_some]
   have hz2 : min b (i - 2101) = 0 := by omega
   have hz3 : min b (i + 1 - 2101) = 0 := by omega
   rw [hz2, hz3]
   by_cases hin : (2100 : Int) - i < a
   ·-- it is shown
    have hsh : (bif (decide (((min a (a + i - 2101) : Nat) : Int) > 0)) then (some true) else (bif (decide (((A / pw ((2100 : Int) - i) % 10 : Nat) : Int) > 0)) then (some true) else (some (decide ((2100 : Int) - i < leastA p))))) = some true := by
     by_cases w0 : ((min a (a + i - 2101) : Nat) : Int) > 0
     ·rw [dT w0]; rfl
     ·have he : (2100 : Int) - i = (a : Int) - 1 := by omega
      rw [dF w0, he]
      rcases hlead (by omega) with g | g
      ·rw [dT g]; cases decide (((A / pw ((a : Int) - 1) % 10 : Nat) : Int) > 0) <;> rfl
      ·rw [dT (show ((A / pw ((a : Int) - 1) % 10 : Nat) : Int) > 0 by omega)]; rfl
    rw [hsh]
    simp only [cond_true, Option.bind_some]
    rw [room_of (by simp; omega)]
    simp only [cond_true, Option.bind_some]
    have ew : min a (a + (i + 1) - 2101) = min a (a + i - 2101) + 1 := by omega
    rw [ew, figs_succ, up_append, show (a : Int) - 1 - ((min a (a + i - 2101) : Nat) : Int) = (2100 : Int) - i by omega, show (2100 : Int) - ((i + 1 : Nat) : Int) = (2100 : Int) - i - 1 by omega]
    rfl
   ·have w0 : min a (a + i - 2101) = 0 := by omega
    have w1 : min a (a + (i + 1) - 2101) = 0 := by omega
    rw [w0, w1, htop _ (by omega) (by omega), dF (show ¬ ((0 : Nat) : Int) > 0 by omega), dF (show ¬ (2100 : Int) - i < leastA p by omega)]
    simp only [cond_false, Option.bind_some]
    rw [show (2100 : Int) - ((i + 1 : Nat) : Int) = (2100 : Int) - i - 1 by omega]
  ·rw [dF hq, dT (show (2100 : Int) - i < 0 by omega)]
   simp only [cond_true, cond_false, Option.bind_some]
   have w0 : min a (a + i - 2101) = a := by omega
   have w1 : min a (a + (i + 1) - 2101) = a := by omega
   rw [w0, w1]
   have hsh : (bif (decide ((2100 : Int) - i ≥ (IntKind.wrap .i64 (E - bareP p l E)))) then (bif (decide (((up l).length : Int) > 0)) then (some true) else (some ((decide ((2100 : Int) - i ≥ 0 - leastB p n l (bareE p l E)))))) else (some ((decide ((2100 : Int) - i ≥ 0 - leastB p n l (bareE p l E)))))) = some (decide (i - 2101 < b)) := by
    rw [up_len]
    by_cases h0 : l = []
    ·subst h0
     rw [dF (show ¬ ((([] : List Nat).length : Nat) : Int) > 0 by simp)]
     have hbz : bareE p [] E = 0 := by
      have := hr.2.1 rfl
      exact this
     have he : ((2100 : Int) - i ≥ 0 - leastB p n [] (bareE p [] E)) ↔ i - 2101 < b := by
      unfold behindV at hb
      rw [hbz] at hb ⊢
      omega
     have hd2 : decide ((2100 : Int) - i ≥ 0 - leastB p n [] (bareE p [] E)) = decide (i - 2101 < b) := decide_eq_decide.2 he
     rw [hd2]
     cases decide ((2100 : Int) - i ≥ IntKind.wrap .i64 (E - bareP p [] E)) <;> rfl
    ·have hpos : 0 < l.length := List.length_pos_iff.2 h0
     rw [hEe h0, dT (show ((l.length : Nat) : Int) > 0 by omega)]
     unfold behindV at hb
     by_cases c : (2100 : Int) - i ≥ bareE p l E
     ·rw [dT c, dT (show i - 2101 < b by omega)]; rfl
     ·rw [dF c]
      simp only [cond_false]
      congr 1
      rw [decide_eq_decide]
      omega
   rw [hsh]
   by_cases hin : i - 2101 < b
   ·rw [dT hin]
    simp only [cond_true, Option.bind_some]
    rw [room_of (by simp; omega)]
    simp only [cond_true, Option.bind_some]
    have ew : min b (i + 1 - 2101) = min b (i - 2101) + 1 := by omega
    rw [ew, figs_succ, up_append, show (-1 : Int) - ((min b (i - 2101) : Nat) : Int) = (2100 : Int) - i by omega, show (2100 : Int) - ((i + 1 : Nat) : Int) = (2100 : Int) - i - 1 by omega]
    rfl
   ·rw [dF hin]
    simp only [cond_false, Option.bind_some]
    have ew : min b (i + 1 - 2101) = min b (i - 2101) := by omega
    rw [ew, show (2100 : Int) - ((i + 1 : Nat) : Int) = (2100 : Int) - i - 1 by omega]) (fun _ => ⟨_, by
   subst hst
   simp only
   rw [dF (show ¬ (2100 : Int) - (4201 : Nat) ≥ -2100 by omega)]; rfl, by
   rw [show min a (a + 4201 - 2101) = a by omega, show min b (4201 - 2101) = b by omega]⟩) (by omega)
 rw [g1, g2, hA]
 rfl
/-! What is written, by either hand. -/
theorem spell_exact : ∀ (k f n : Nat) (least : Int), n < 10 ^ k → least ≤ k → k < f → k ≤ 1000 → n ≤ 1000000 → -5000 ≤ least - k → shape_spell f (n : Int) least = some (up (List.replicate (least - (digsN n).length).toNat 0 ++ digsN n)) ∧ (digsN n).length ≤ k
 | 0, f + 1, n, least, hn, hl, _, _, _, _ => by
  have h0 : n = 0 := by simpa using hn
  subst h0
  rw [shape_spell.eq_2, digsN_zero]
  refine ⟨?_, by simp⟩
  rw [dT (show ((0 : Nat) : Int) = 0 from rfl), dT (show least < 1 by simp at hl; omega)]
  have : (least - (([] : List Nat).length : Int)).toNat = 0 := by simp at hl ⊢; omega
  rw [this]; rfl
 | k + 1, f + 1, n, least, hn, hl, hf, hk, hn2, hl2 => by
  rw [shape_spell.eq_2]
  by_cases hz : n = 0 ∧ least < 1
  ·obtain ⟨h0, h1⟩ := hz
   subst h0
   rw [digsN_zero]
   refine ⟨?_, by simp⟩
   rw [dT (show ((0 : Nat) : Int) = 0 from rfl), dT h1]
   have : (least - (([] : List Nat).length : Int)).toNat = 0 := by simp; omega
   rw [this]; rfl
  ·obtain ⟨g1, g2⟩ := spell_exact k f (n / 10) (least - 1) (by rw [Nat.pow_succ] at hn; omega) (by omega) (by omega) (by omega) (by omega) (by omega)
   have e1 : IntKind.wrap .i64 (Int.tdiv (n : Int) 10) = ((n / 10 : Nat) : Int) := by
    have : Int.tdiv (n : Int) 10 = ((n / 10 : Nat) : Int) := (Int.ofNat_tdiv _ _).symm
    rw [this, w64 (by omega) (by omega)]
   have e2 : IntKind.wrap .u8 (Int.tmod (n : Int) 10) = ((n % 10 : Nat) : Int) := by
    have : Int.tmod (n : Int) 10 = ((n % 10 : Nat) : Int) := (Int.ofNat_tmod _ _).symm
    rw [this, u8m]; omega
   have hb : (Option.bind (bif (decide ((n : Int) = 0)) then (some (decide (least < 1))) else (some false)) fun (s24 : Bool) => (bif s24 then (some (.inr ([] : List Int))) else (some (.inl ())))) = (some (.inl ()) : Option (Unit ⊕ List Int)) := by
    by_cases h0 : n = 0
    ·rw [dT (show (n : Int) = 0 by omega), dF (show ¬ least < 1 from fun h => hz ⟨h0, h⟩)]; rfl
    ·rw [dF (show ¬ (n : Int) = 0 by omega)]; rfl
   rw [hb]
   simp only [Option.bind_some, joinX]
   rw [e1, w64 (by omega) (by omega), g1, e2]
   simp only [Option.bind_some]
   have hr : room ((up (List.replicate (least - 1 - ((digsN (n / 10)).length : Int)).toNat 0 ++ digsN (n / 10))).length + ([((n % 10 : Nat) : Int)] : List Int).length) = true := room_of (by rw [up_len]; simp; omega)
   rw [hr]
   simp only [cond_true]
   have ea : ∀ l : List Nat, up l ++ [((n % 10 : Nat) : Int)] = up (l ++ [n % 10]) := fun l => by rw [up_append]; rfl
   rw [ea]
   by_cases h0 : n = 0
   ·subst h0
    have hl1 : 1 ≤ least := by
     apply Decidable.byContradiction
     intro hc
     exact hz ⟨rfl, by omega⟩
    rw [Nat.zero_div, digsN_zero]
    refine ⟨?_, by simp⟩
    congr 2
    simp only [List.append_nil, List.length_nil]
    rw [show (least - ((0 : Nat) : Int)).toNat = (least - 1 - ((0 : Nat) : Int)).toNat + 1 by omega, List.replicate_succ']
   ·rw [digsN_pos h0]
    refine ⟨?_, by simp; omega⟩
    congr 2
    rw [List.append_assoc, List.length_append, List.length_singleton]
    congr 2
    omega
def nd (k : Nat) : List Nat := if k = 0 then [0] else digsN k
def ndU (k : Nat) : List UInt8 := bytesS ((nd k).map fun (d : Nat) => (48 : Int) + (d : Int))
def nd3 (k : Nat) : List Nat := if k < 10 then [k] else if k < 100 then [k / 10, k % 10] else [k / 100, k / 10 % 10, k % 10]
theorem nd_eq {k : Nat} (hk : k < 1000) : nd k = nd3 k := by
 unfold nd nd3
 by_cases h0 : k = 0
 ·rw [if_pos h0, h0]; rfl
 ·rw [if_neg h0]
  by_cases h1 : k < 10
  ·rw [if_pos h1, digsN_pos h0, show k / 10 = 0 by omega, digsN_zero, show k % 10 = k by omega]; rfl
  ·rw [if_neg h1]
   by_cases h2 : k < 100
   ·rw [if_pos h2, digsN_pos h0, digsN_pos (show k / 10 ≠ 0 by omega), show k / 10 / 10 = 0 by omega, digsN_zero, show k / 10 % 10 = k / 10 by omega]; rfl
   ·rw [if_neg h2, digsN_pos h0, digsN_pos (show k / 10 ≠ 0 by omega), digsN_pos (show k / 10 / 10 ≠ 0 by omega), show k / 10 / 10 / 10 = 0 by omega, digsN_zero, show k / 10 / 10 % 10 = k / 100 by omega]; rfl
theorem rdigits_eq {s : St22} {W : List Nat} (hz : okZ s.Zero_) (hd : digP W) (hl : W.length ≤ 20000) : exergueref13_Digits s (up W) = some (ren s.Zero_ (W.map It.d)) := by
 unfold exergueref13_Digits
 refine bind_of (fun o => o = ren s.Zero_ (W.map It.d)) ?_ (fun o ho => by rw [ho])
 refine loop_count W.length (fun i => ((i : Int), ren s.Zero_ ((W.take i).map It.d))) (fun _ => True) _ rfl trivial (fun i hi _ => ?_) (fun _ => ?_) (by omega)
 ·left
  refine ⟨?_, trivial⟩
  have hg : nth (up W) (i : Int) = ((W.getD i 0 : Nat) : Int) := up_get hi
  have h9 : W.getD i 0 ≤ 9 := by
   rw [List.getD_eq_getElem?_getD, List.getElem?_eq_getElem hi]
   exact hd _ (List.getElem_mem hi)
  obtain ⟨z1, z2⟩ := hz
  simp only [up_len]
  rw [dT (by omega), inR_nat hi, hg, w64 (n := s.Zero_) (by omega) (by omega), w64 (n := ((W.getD i 0 : Nat) : Int)) (by omega) (by omega), w64 (n := s.Zero_ + ((W.getD i 0 : Nat) : Int)) (by omega) (by omega), w32 (n := s.Zero_ + ((W.getD i 0 : Nat) : Int)) (by omega) (by omega), w64 (n := (i : Int) + 1) (by omega) (by omega)]
  simp only [cond_true, ren_len]
  rw [room_of (by simp; omega)]
  simp only [cond_true, Option.some.injEq, Sum.inl.injEq, Prod.mk.injEq]
  refine ⟨by omega, ?_⟩
  rw [List.take_succ_eq_append_getElem hi, List.map_append, ren_append]
  congr 1
  simp [ren, It.at, List.getD_eq_getElem?_getD, List.getElem?_eq_getElem hi]
 ·refine ⟨_, ?_, rfl⟩
  simp only [up_len]
  rw [dF (by omega), List.take_length]; rfl
theorem number05 {k : Nat} (hk : k ≤ 300) : exergueref05_Number big (k : Int) = some (ndU k) := by
 have key : ∀ k : Fin 301, exergueref05_Number big (k.val : Int) = some (bytesS ((nd3 k.val).map fun (d : Nat) => (48 : Int) + (d : Int))) := by decide +kernel
 unfold ndU
 rw [nd_eq (by omega)]
 exact key ⟨k, by omega⟩
theorem nd_dig (k : Nat) : digP (nd k) := by
 unfold nd
 split
 ·intro x hx; simp at hx; omega
 ·exact digs_dig k
theorem exponent_exact {p : St25} {pw' : Int} (hc : cntP p) (h1 : -300 ≤ pw') (h2 : pw' ≤ 300) (s : St22) (hs : okZ s.Zero_) : shape_exponent s p pw' = some (ren s.Zero_ ((if pw' < 0 then [It.g s.Minus_] else if p.ExpPlus_ = true then [It.g s.Plus_] else []) ++ (List.replicate (p.Exp_ - (digsN pw'.natAbs).length).toNat 0 ++ digsN pw'.natAbs).map It.d)) := by
 have c9 : 0 ≤ p.Exp_ ∧ p.Exp_ ≤ 40 := hc.2.2.2.2.2.2.2.2
 obtain ⟨k, hk⟩ : ∃ k : Nat, k = pw'.natAbs := ⟨_, rfl⟩
 have hk40 : k < 10 ^ 40 := by
  have h : (100001 : Nat) < 10 ^ 40 := by decide
  omega
 rw [← hk]
 obtain ⟨g1, g2⟩ := spell_exact 40 big k p.Exp_ hk40 (by omega) (by decide) (by omega) (by omega) (by omega)
 obtain ⟨m, hm⟩ : ∃ m, m = List.replicate (p.Exp_ - (digsN k).length).toNat 0 ++ digsN k := ⟨_, rfl⟩
 rw [← hm] at g1 ⊢
 have gd : digP m := by
  rw [hm]
  exact dig_append (fun x hx => by rw [List.eq_of_mem_replicate hx]; omega) (digs_dig k)
 have gl : m.length ≤ 100 := by rw [hm]; simp; omega
 have hdig := digits_eq (s := s) hs gd (by omega)
 unfold shape_exponent
 rw [count_eq c9.1 (by omega)]
 have fin : ∀ (o : List It), o.length ≤ 1 → (Option.bind (some ((k : Int), ren s.Zero_ o)) fun (s9 : Int × (List Int)) => (Option.bind (some p.Exp_) fun y22 => (Option.bind (shape_spell big s9.1 y22) fun y25 => (Option.bind (sym_Digits s y25) fun y28 => (bif room (s9.2.length + y28.length) then (some (s9.2 ++ y28)) else none))))) = some (ren s.Zero_ (o ++ m.map It.d)) := fun o ho => by
  simp only [Option.bind_some]
  rw [g1]
  simp only [Option.bind_some]
  rw [hdig]
  simp only [Option.bind_some, ren_len, List.length_map]
  rw [room_of (by omega), ren_append]; rfl
 by_cases hn : pw' < 0
 ·rw [dT hn, if_pos hn]
  have e : IntKind.wrap .i64 (0 - pw') = (k : Int) := by rw [w64 (by omega) (by omega)]; omega
  rw [e, room_of (by simp)]
  exact fin [It.g s.Minus_] (by simp)
 ·rw [dF hn, if_neg hn]
  have e : pw' = (k : Int) := by omega
  rw [← e] at fin
  cases hp : p.ExpPlus_ with
  | true =>
   rw [room_of (by simp)]
   exact fin [It.g s.Plus_] (by simp)
  | false => exact fin [] (by simp)
theorem zeros_loop {z : Int} {n : Int} {k : Nat} {out : List Int} (hk : k ≤ 1000) (hn : n ≤ 1000) (ho : out.length ≤ 100000) : loopN (fun (s82 : Int × (List Int)) => ((bif (decide (s82.1 < n)) then (bif room (s82.2.length + ([z] : List Int).length) then (some (.inl ((IntKind.wrap .i64 (s82.1 + 1)), (s82.2 ++ ([z] : List Int))))) else none) else (some (.inr s82.2))) : Option ((Int × (List Int)) ⊕ (List Int)))) big ((k : Int), out) = some (out ++ List.replicate (n - k).toNat z) := by
 obtain ⟨o, h1, h2⟩ := loop_count (step := (fun (s82 : Int × (List Int)) => ((bif (decide (s82.1 < n)) then (bif room (s82.2.length + ([z] : List Int).length) then (some (.inl ((IntKind.wrap .i64 (s82.1 + 1)), (s82.2 ++ ([z] : List Int))))) else none) else (some (.inr s82.2))) : Option ((Int × (List Int)) ⊕ (List Int))))) (n - k).toNat (fun i => ((k : Int) + i, out ++ List.replicate i z)) (fun _ => True) (fun o => o = out ++ List.replicate (n - k).toNat z) (s0 := ((k : Int), out)) (by simp) trivial (fun i hi _ => by
  left
  refine ⟨?_, trivial⟩
  simp only
  rw [dT (by omega), room_of (by simp; omega), w64 (by omega) (by omega)]
  simp only [cond_true]
  rw [List.replicate_succ', List.append_assoc, show (k : Int) + ((i + 1 : Nat) : Int) = (k : Int) + i + 1 by omega]) (fun _ => ⟨_, by simp only; rw [dF (by omega)]; rfl, rfl⟩) (by omega)
 rw [h1, h2]
theorem figs_loop {z : Int} {m : List Nat} {t : List UInt8} {out : List Int} (hz : okZ z) (hm : digP m) (hml : m.length ≤ 1000) (ht : t = bytesS (m.map fun (d : Nat) => (48 : Int) + (d : Int))) (ho : out.length ≤ 100000) : loopN (fun (s132 : Int × (List Int)) => ((bif (decide (s132.1 < (t.length : Int))) then (bif inR s132.1 t.length then (bif room (s132.2.length + (([(IntKind.wrap .i32 ((IntKind.wrap .i64 ((IntKind.wrap .i64 z) + ((IntKind.wrap .i64 ((IntKind.wrap .u8 (((((t.getD (s132.1 : Int).toNat 0).toNat : Nat) : Int)) - 48)))))))))] : List Int)).length) then (some (.inl ((IntKind.wrap .i64 (s132.1 + 1)), (s132.2 ++ (([(IntKind.wrap .i32 ((IntKind.wrap .i64 ((IntKind.wrap .i64 z) + ((IntKind.wrap .i64 ((IntKind.wrap .u8 (((((t.getD (s132.1 : Int).toNat 0).toNat : Nat) : Int)) - 48)))))))))] : List Int)))))) else none) else none) else (some (.inr s132.2))) : Option ((Int × (List Int)) ⊕ (List Int)))) big (0, out) = some (out ++ ren z (m.map It.d)) := by
 have htl : t.length = m.length := by rw [ht]; simp [bytesS]
 rw [htl]
 obtain ⟨o, h1, h2⟩ := loop_count (step := (fun (s132 : Int × (List Int)) => ((bif (decide (s132.1 < (m.length : Int))) then (bif inR s132.1 m.length then (bif room (s132.2.length + (([(IntKind.wrap .i32 ((IntKind.wrap .i64 ((IntKind.wrap .i64 z) + ((IntKind.wrap .i64 ((IntKind.wrap .u8 (((((t.getD (s132.1 : Int).toNat 0).toNat : Nat) : Int)) - 48)))))))))] : List Int)).length) then (some (.inl ((IntKind.wrap .i64 (s132.1 + 1)), (s132.2 ++ (([(IntKind.wrap .i32 ((IntKind.wrap .i64 ((IntKind.wrap .i64 z) + ((IntKind.wrap .i64 ((IntKind.wrap .u8 (((((t.getD (s132.1 : Int).toNat 0).toNat : Nat) : Int)) - 48)))))))))] : List Int)))))) else none) else none) else (some (.inr s132.2))) : Option ((Int × (List Int)) ⊕ (List Int))))) m.length (fun i => ((i : Int), out ++ ren z ((m.take i).map It.d))) (fun _ => True) (fun o => o = out ++ ren z (m.map It.d)) (s0 := (0, out)) (by simp [ren]) trivial (fun i hi _ => by
  left
  refine ⟨?_, trivial⟩
  have h9 : m[i] ≤ 9 := hm _ (List.getElem_mem hi)
  have hg : (t.getD (i : Int).toNat 0).toNat = 48 + m[i] := by
   rw [ht, Int.toNat_natCast, List.getD_eq_getElem?_getD]
   unfold bytesS
   rw [List.getElem?_eq_getElem (by simpa using hi)]
   simp only [List.getElem_map, Option.getD_some]
   have e3 : (UInt8.ofNat ((48 : Int) + (m[i] : Int)).toNat).toNat = ((48 : Int) + (m[i] : Int)).toNat % 256 := UInt8.toNat_ofNat'
   rw [e3]; omega
  obtain ⟨z1, z2⟩ := hz
  simp only
  rw [hg, dT (by omega), inR_nat hi, u8m, show (((48 + m[i] : Nat) : Int) - 48) % 256 = (m[i] : Int) by omega, w64 (n := (m[i] : Int)) (by omega) (by omega), w64 (n := z) (by omega) (by omega), w64 (n := z + (m[i] : Int)) (by omega) (by omega), w32 (n := z + (m[i] : Int)) (by omega) (by omega), w64 (n := (i : Int) + 1) (by omega) (by omega)]
  rw [room_of (by rw [List.length_append, ren_len]; simp; omega)]
  simp only [cond_true]
  rw [List.take_succ_eq_append_getElem hi, List.map_append, ren_append, List.append_assoc]
  rfl) (fun _ => ⟨_, by simp only; rw [dF (by omega)]; rfl, by rw [List.take_length]⟩) (by omega)
 rw [h1, h2]
theorem write_same {s : St22} {p : St25} {n : Int} {l : List Nat} {E : Int} {neg : Bool} (hs : okZ s.Zero_) (hc : cntP p) (hn : n ≤ 40) (h : nearP l E) : ∃ x, shape_Write s p n ⟨neg, up l, E⟩ = some x ∧ exergueref17_Write s p n ⟨neg, up l, E⟩ = some x ∧ x.length ≤ 100000 := by
 obtain ⟨a, b, f1, hr, ha, hb, ha2, hb2⟩ := figures_gen (n := n) neg hc hn h.1
 have f2 := rfigures17 (neg := neg) hc hn h hr ha hb ha2 hb2
 obtain ⟨c1, c2, c3, c4, c5, c6, c7, c8, c9⟩ := id hc
 have hPb : -200 ≤ bareP p l E ∧ bareP p l E ≤ 200 := by
  have := h.2
  unfold bareP
  split
  ·omega
  ·split <;> omega
 unfold shape_Write exergueref17_Write
 rw [f1, f2]
 simp only [Option.bind_some]
 have dW := figs_dig (magN l (bareE p l E)) ((a : Int) - 1) a
 have lW := figs_len (magN l (bareE p l E)) ((a : Int) - 1) a
 have dQ := figs_dig (magN l (bareE p l E)) (-1) b
 have lQ := figs_len (magN l (bareE p l E)) (-1) b
 generalize figs (magN l (bareE p l E)) ((a : Int) - 1) a = W at *
 generalize figs (magN l (bareE p l E)) (-1) b = Q at *
 rw [grouped_eq hs dW (by omega) c5 c6, rgrouped_eq hs dW (by omega) c5 c6]
 simp only [Option.bind_some]
 have lG := gpre_len W s.Group_ p.G1_ p.G2_ W.length
 have lG2 : (ren s.Zero_ (gpre W s.Group_ p.G1_ p.G2_ W.length)).length ≤ 4000 := by rw [ren_len]; omega
 generalize ren s.Zero_ (gpre W s.Group_ p.G1_ p.G2_ W.length) = G at *
 rw [digits_eq hs dQ (by omega), rdigits_eq hs dQ (by omega)]
 simp only [Option.bind_some]
 obtain ⟨x, hx, hxl⟩ : ∃ x, (bif (decide (((up Q).length : Int) > 0)) then (bif room (G.length + ([s.Dec_] : List Int).length) then (bif room ((G ++ ([s.Dec_] : List Int)).length + (ren s.Zero_ (Q.map It.d)).length) then (some (((G ++ ([s.Dec_] : List Int)) ++ ren s.Zero_ (Q.map It.d)))) else none) else none) else (some G)) = some x ∧ x.length ≤ 6000 := by
  rw [room_of (by simp; omega), room_of (by rw [ren_len]; simp; omega)]
  by_cases c : ((up Q).length : Int) > 0
  ·rw [dT c]; exact ⟨_, rfl, by rw [List.length_append, ren_len]; simp; omega⟩
  ·rw [dF c]; exact ⟨_, rfl, by omega⟩
 rw [hx]
 simp only [Option.bind_some]
 by_cases x0 : p.Exp_ = 0
 ·rw [dF (show ¬ p.Exp_ > 0 by omega), dT x0]
  exact ⟨x, rfl, rfl, by omega⟩
 ·rw [dT (show p.Exp_ > 0 by omega), dF x0, room_of (by simp; omega)]
  simp only [cond_true, cond_false]
  rw [exponent_exact hc (by omega) (by omega) s hs]
  simp only [Option.bind_some]
  obtain ⟨k, hk⟩ : ∃ k : Nat, k = (bareP p l E).natAbs := ⟨_, rfl⟩
  obtain ⟨sg, hsg⟩ : ∃ sg : List It, sg = if bareP p l E < 0 then [It.g s.Minus_] else if p.ExpPlus_ = true then [It.g s.Plus_] else [] := ⟨_, rfl⟩
  have hsl : sg.length ≤ 1 := by rw [hsg]; split; simp; split <;> simp
  have h40 : (Option.bind (bif (decide (bareP p l E < 0)) then (bif room ((x ++ ([s.Exp_] : List Int)).length + ([s.Minus_] : List Int).length) then (some ((IntKind.wrap .i64 (0 - bareP p l E)), ((x ++ ([s.Exp_] : List Int)) ++ ([s.Minus_] : List Int)))) else none) else (bif p.ExpPlus_ then (bif room ((x ++ ([s.Exp_] : List Int)).length + ([s.Plus_] : List Int).length) then (some (bareP p l E, ((x ++ ([s.Exp_] : List Int)) ++ ([s.Plus_] : List Int)))) else none) else (some (bareP p l E, (x ++ ([s.Exp_] : List Int)))))) some) = some ((k : Int), (x ++ ([s.Exp_] : List Int)) ++ ren s.Zero_ sg) := by
   rw [room_of (by simp; omega), room_of (by simp; omega), hsg]
   by_cases cn : bareP p l E < 0
   ·rw [dT cn, if_pos cn, w64 (by omega) (by omega), show 0 - bareP p l E = (k : Int) by omega]; rfl
   ·rw [dF cn, if_neg cn, show bareP p l E = (k : Int) by omega]
    cases p.ExpPlus_ with
    | true => rfl
    | false => simp [ren]
  have hid : ∀ y : Option (Int × List Int), Option.bind y some = y := fun y => by cases y <;> rfl
  rw [hid] at h40
  rw [h40]
  simp only [Option.bind_some]
  rw [number05 (by omega)]
  simp only [Option.bind_some]
  have hnl : (ndU k).length = (nd k).length := by unfold ndU; simp [bytesS]
  have hn3 : 1 ≤ (nd k).length ∧ (nd k).length ≤ 3 := by
   rw [nd_eq (by omega)]
   unfold nd3
   split
   ·simp
   ·split <;> simp
  rw [hnl, zeros_loop (by omega) (by omega) (by rw [List.length_append, List.length_append, ren_len]; simp; omega)]
  simp only [Option.bind_some]
  have hfl := figs_loop (z := s.Zero_) (m := nd k) (t := ndU k) (out := (x ++ ([s.Exp_] : List Int)) ++ ren s.Zero_ sg ++ List.replicate (p.Exp_ - ((nd k).length : Int)).toNat s.Zero_) hs (nd_dig k) (by omega) rfl (by rw [List.length_append, List.length_append, List.length_append, ren_len]; simp; omega)
  rw [hnl] at hfl
  rw [hfl]
  simp only [Option.bind_some]
  -- both rows of figures are the same
  have hrow : List.replicate (p.Exp_ - (digsN k).length).toNat 0 ++ digsN k = List.replicate (p.Exp_ - (nd k).length).toNat 0 ++ nd k := by
   unfold nd
   by_cases k0 : k = 0
   ·subst k0
    rw [if_pos rfl, digsN_zero, List.append_nil, List.length_nil, List.length_singleton]
    rw [show (p.Exp_ - ((0 : Nat) : Int)).toNat = (p.Exp_ - ((1 : Nat) : Int)).toNat + 1 by omega, List.replicate_succ']
   ·rw [if_neg k0]
  rw [← hk, ← hsg, hrow]
  have hren : ren s.Zero_ (sg ++ (List.replicate (p.Exp_ - (nd k).length).toNat 0 ++ nd k).map It.d) = ren s.Zero_ sg ++ (List.replicate (p.Exp_ - ((nd k).length : Int)).toNat s.Zero_ ++ ren s.Zero_ ((nd k).map It.d)) := by
   rw [ren_append, List.map_append, ren_append]
   congr 2
   simp [ren, It.at]
  rw [hren, room_of (by simp only [List.length_append, ren_len, List.length_replicate, List.length_map, List.length_singleton]; omega)]
  refine ⟨_, rfl, ?_, ?_⟩
  ·simp [List.append_assoc]
  ·simp only [List.length_append, ren_len, List.length_replicate, List.length_map, List.length_singleton]
   omega
end Go.Proofs.YtcmmjficmoflkaaGreat
