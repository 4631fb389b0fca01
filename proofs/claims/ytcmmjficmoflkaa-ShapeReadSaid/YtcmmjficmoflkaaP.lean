/-
  What those functions come to, told by plain functions of lists and numbers. Conditions: as each theorem says.
-/
import Derived.Test.YtcmmjficmoflkaaGc
import Derived.Test.YtcmmjficmoflkaaSyZ
namespace Go.Proofs.Ytcmmjficmoflkaa
open Go Go.Sy Go.RowKit Go.ChangeShapes Go.WideShapes Go.ChangeAt
set_option linter.unusedVariables false
set_option linter.unusedSimpArgs false
set_option maxRecDepth 100000
set_option maxHeartbeats 4000000

/-! Figures and their worth. -/
def vN (l : List Nat) : Nat := l.foldl (fun a x => a * 10 + x) 0
theorem vN_snoc (l : List Nat) (x : Nat) : vN (l ++ [x]) = vN l * 10 + x := by simp [vN]
theorem nsnoc_ind {P : List Nat → Prop} (h0 : P []) (hs : ∀ l t, P l → P (l ++ [t])) : ∀ l, P l := by
  have key : ∀ (n : Nat) (l : List Nat), l.length = n → P l := by
    intro n
    induction n with
    | zero => intro l h; rw [List.eq_nil_of_length_eq_zero h]; exact h0
    | succ n ih =>
      intro l h
      rcases List.eq_nil_or_concat l with h1 | ⟨p, c, h1⟩
      · subst h1; simp at h
      · rw [List.concat_eq_append] at h1
        subst h1
        exact hs p c (ih p (by simp at h; omega))
  exact fun l => key _ l rfl
theorem vN_append (a : List Nat) : ∀ b, vN (a ++ b) = vN a * 10 ^ b.length + vN b := by
  refine nsnoc_ind (by simp [vN]) (fun b x ih => ?_)
  rw [← List.append_assoc, vN_snoc, ih, vN_snoc, List.length_append, List.length_singleton, Nat.pow_succ, Nat.add_mul, Nat.mul_assoc]; omega
theorem vN_cons (x : Nat) (l : List Nat) : vN (x :: l) = x * 10 ^ l.length + vN l := by
  have := vN_append [x] l
  simpa [vN] using this
def digP (l : List Nat) : Prop := ∀ x ∈ l, x ≤ 9
theorem dig_left {l m : List Nat} (h : digP (l ++ m)) : digP l := fun x hx => h x (List.mem_append_left _ hx)
theorem dig_right {l m : List Nat} (h : digP (l ++ m)) : digP m := fun x hx => h x (List.mem_append_right _ hx)
theorem dig_append {l m : List Nat} (h1 : digP l) (h2 : digP m) : digP (l ++ m) := fun x hx => by
  rcases List.mem_append.1 hx with h | h
  · exact h1 x h
  · exact h2 x h
theorem vN_lt : ∀ {l : List Nat}, digP l → vN l < 10 ^ l.length := by
  intro l
  induction l with
  | nil => intro _; simp [vN]
  | cons x l ih =>
    intro h
    have h1 := ih (fun y hy => h y (List.mem_cons_of_mem _ hy))
    have h2 := h x (List.mem_cons_self ..)
    have h3 : x * 10 ^ l.length ≤ 9 * 10 ^ l.length := Nat.mul_le_mul_right _ h2
    rw [vN_cons, List.length_cons, Nat.pow_succ]; omega
theorem vN_ge {x : Nat} {l : List Nat} (h : x ≠ 0) : 10 ^ l.length ≤ vN (x :: l) := by
  have : 1 * 10 ^ l.length ≤ x * 10 ^ l.length := Nat.mul_le_mul_right _ (by omega)
  rw [vN_cons]; omega
theorem vN_zeros (n : Nat) : vN (List.replicate n 0) = 0 := by
  induction n with
  | zero => rfl
  | succ n ih => rw [List.replicate_succ, vN_cons, ih]; simp
/-- The figure so far from the last one. -/
theorem vN_digit : ∀ (l : List Nat), digP l → ∀ j, vN l / 10 ^ j % 10 = if j < l.length then l.getD (l.length - 1 - j) 0 else 0 := by
  refine nsnoc_ind (fun _ j => by simp [vN]) (fun l x ih h j => ?_)
  have hx := h x (by simp)
  rw [vN_snoc]
  cases j with
  | zero =>
    simp
    omega
  | succ j =>
    have e : (vN l * 10 + x) / 10 ^ (j + 1) = vN l / 10 ^ j := by
      rw [Nat.pow_succ, Nat.mul_comm (10 ^ j), ← Nat.div_div_eq_div_mul]
      congr 1; omega
    rw [e, ih (dig_left h) j]
    by_cases hj : j < l.length
    · rw [if_pos hj, if_pos (by simp; omega)]
      have e2 : (l ++ [x]).length - 1 - (j + 1) = l.length - 1 - j := by simp; omega
      rw [e2, List.getD_eq_getElem?_getD, List.getD_eq_getElem?_getD, List.getElem?_append_left (by omega)]
    · rw [if_neg hj, if_neg (by simp; omega)]

/-- Figures of a number. -/
def digsN (n : Nat) : List Nat := if h : n = 0 then [] else digsN (n / 10) ++ [n % 10]
termination_by n
decreasing_by omega
theorem digsN_zero : digsN 0 = [] := by rw [digsN]; rfl
theorem digsN_pos {n : Nat} (h : n ≠ 0) : digsN n = digsN (n / 10) ++ [n % 10] := by rw [digsN, dif_neg h]
theorem vN_zero {l : List Nat} (h : vN l = 0) (hh : l.head? ≠ some 0) : l = [] := by
  cases l with
  | nil => rfl
  | cons x l =>
    have hx : x ≠ 0 := fun e => hh (by rw [e]; rfl)
    have := vN_ge (l := l) hx
    have := Nat.pow_pos (n := l.length) (show 0 < 10 by decide)
    omega
theorem digs_vN : ∀ l, digP l → l.head? ≠ some 0 → digsN (vN l) = l := by
  refine nsnoc_ind (fun _ _ => by rw [show vN [] = 0 from rfl, digsN_zero]) (fun l x ih h hh => ?_)
  have hx := h x (by simp)
  have hl : l.head? ≠ some 0 := by
    cases l with
    | nil => simp
    | cons y l => simpa using hh
  rw [vN_snoc]
  have hne : vN l * 10 + x ≠ 0 := by
    intro e
    have h1 : vN l = 0 := by omega
    have h2 : x = 0 := by omega
    have := vN_zero h1 hl
    subst this; subst h2
    exact hh rfl
  rw [digsN_pos hne]
  have e1 : (vN l * 10 + x) / 10 = vN l := by omega
  have e2 : (vN l * 10 + x) % 10 = x := by omega
  rw [e1, e2, ih (dig_left h) hl]
theorem vN_last {l : List Nat} (h : digP l) (hne : l ≠ []) (hl : l.getLast? ≠ some 0) : vN l % 10 ≠ 0 := by
  rcases List.eq_nil_or_concat l with h1 | ⟨p, c, h1⟩
  · exact absurd h1 hne
  · rw [List.concat_eq_append] at h1
    subst h1
    have := h c (by simp)
    have hc : c ≠ 0 := fun e => hl (by simp [e])
    rw [vN_snoc]; omega

/-- A power of ten, told from one that is far below. -/
def pw (m : Int) : Nat := 10 ^ (m + 3000).toNat
theorem pw_pos (m : Int) : 0 < pw m := Nat.pow_pos (by decide)
theorem pw_add {m : Int} (n : Nat) (h : -3000 ≤ m) : pw (m + n) = pw m * 10 ^ n := by
  unfold pw; rw [← Nat.pow_add]; congr 1; omega
theorem pw_le {m n : Int} (h1 : -3000 ≤ m) (h : m ≤ n) : pw m ≤ pw n := by
  unfold pw; exact Nat.pow_le_pow_right (by decide) (by omega)
theorem pw_succ {m : Int} (h : -3000 ≤ m) : pw (m + 1) = pw m * 10 := by
  have := pw_add (m := m) 1 h; simpa using this

/-- Is it right? -/
def rightP (l : List Nat) (E : Int) : Prop := digP l ∧ (l = [] → E = 0) ∧ (l ≠ [] → l.length ≤ 1000 ∧ -1000 ≤ E ∧ E ≤ 1000 ∧ l.head? ≠ some 0 ∧ l.getLast? ≠ some 0)
def magN (l : List Nat) (E : Int) : Nat := vN l * pw E
theorem right_low {l : List Nat} {E : Int} (h : rightP l E) : -1000 ≤ E ∧ E ≤ 1000 ∧ l.length ≤ 1000 := by
  by_cases hl : l = []
  · have := h.2.1 hl; subst hl; simp; omega
  · have := h.2.2 hl; omega
theorem right_head {l : List Nat} {E : Int} (h : rightP l E) : l.head? ≠ some 0 := by
  by_cases hl : l = []
  · subst hl; simp
  · exact (h.2.2 hl).2.2.2.1
/-- Right figures that are worth as much are the same. -/
theorem right_same {l m : List Nat} {E G : Int} (h1 : rightP l E) (h2 : rightP m G) (h : magN l E = magN m G) : l = m ∧ E = G := by
  have key : ∀ {l m : List Nat} {E G : Int}, rightP l E → rightP m G → magN l E = magN m G → E ≤ G → l = m ∧ E = G := by
    intro l m E G h1 h2 h hle
    have l1 := right_low h1
    have l2 := right_low h2
    unfold magN at h
    obtain ⟨n, hn⟩ : ∃ n : Nat, G = E + n := ⟨(G - E).toNat, by omega⟩
    have hp := pw_add (m := E) n (by omega)
    rw [← hn] at hp
    rw [hp, Nat.mul_comm (pw E), ← Nat.mul_assoc] at h
    have hv : vN l = vN m * 10 ^ n := Nat.eq_of_mul_eq_mul_right (pw_pos E) h
    by_cases hl : l = []
    · subst hl
      have h0 : vN m * 10 ^ n = 0 := by rw [← hv]; rfl
      have hm0 : vN m = 0 := by
        rcases Nat.mul_eq_zero.1 h0 with g | g
        · exact g
        · exact absurd g (by have := Nat.pow_pos (n := n) (show 0 < 10 by decide); omega)
      have hm := vN_zero hm0 (right_head h2)
      subst hm
      exact ⟨rfl, by rw [h1.2.1 rfl, h2.2.1 rfl]⟩
    · have hlast := vN_last h1.1 hl (h1.2.2 hl).2.2.2.2
      have hn0 : n = 0 := by
        apply Decidable.byContradiction
        intro hne
        obtain ⟨q, rfl⟩ : ∃ q, n = q + 1 := ⟨n - 1, by omega⟩
        rw [Nat.pow_succ, ← Nat.mul_assoc] at hv
        omega
      subst hn0
      simp at hv hn
      refine ⟨?_, hn.symm⟩
      rw [← digs_vN l h1.1 (right_head h1), ← digs_vN m h2.1 (right_head h2), hv]
  rcases Int.le_total E G with hle | hle
  · exact key h1 h2 h hle
  · obtain ⟨a, b⟩ := key h2 h1 h.symm hle
    exact ⟨a.symm, b.symm⟩

/-! Parsers that always answer. -/
theorem loop_var {S O : Type} {step : S → Option (S ⊕ O)} (I : S → Prop) (μ : S → Nat) (post : O → Prop) {s0 : S} (h0 : I s0) (hb : μ s0 < 18446744073709551616)
    (hs : ∀ s, I s → (∃ s', step s = some (.inl s') ∧ I s' ∧ μ s' < μ s) ∨ ∃ o, step s = some (.inr o) ∧ post o) : ∃ o, loopN step big s0 = some o ∧ post o := by
  have key : ∀ m s, I s → μ s < m → ∃ o, loopN step m s = some o ∧ post o := by
    intro m
    induction m with
    | zero => intro s _ h; omega
    | succ m ih =>
      intro s hi hm
      rcases hs s hi with ⟨s', h1, h2, h3⟩ | ⟨o, h1, h2⟩
      · rw [loopN_next h1]; exact ih s' h2 (by omega)
      · exact ⟨o, loopN_out h1, h2⟩
  exact key big s0 h0 hb
def Tot {α : Type} (x : Option α) (p : α → Prop) : Prop := ∃ o, x = some o ∧ p o
theorem Tot.ret {α : Type} {a : α} {p : α → Prop} (h : p a) : Tot (some a) p := ⟨a, rfl, h⟩
theorem Tot.bind {α β : Type} {x : Option α} {k : α → Option β} {p : α → Prop} {q : β → Prop} (h : Tot x p) (hk : ∀ o, p o → Tot (k o) q) : Tot (Option.bind x k) q := by
  obtain ⟨o, rfl, h⟩ := h; exact hk o h
theorem Tot.ite {α : Type} {b : Bool} {t e : Option α} {p : α → Prop} (ht : b = true → Tot t p) (he : b = false → Tot e p) : Tot (bif b then t else e) p := by
  cases b with
  | true => exact ht rfl
  | false => exact he rfl
theorem Tot.yes {α : Type} {b : Bool} {t e : Option α} {p : α → Prop} (h : b = true) (ht : Tot t p) : Tot (bif b then t else e) p := by subst h; exact ht
theorem Tot.mono {α : Type} {x : Option α} {p q : α → Prop} (h : Tot x p) (hq : ∀ o, p o → q o) : Tot x q := by obtain ⟨o, h1, h2⟩ := h; exact ⟨o, h1, hq o h2⟩
def joinP {S X : Type} (k : S → Option X) (p : X → Prop) : S ⊕ X → Prop
  | .inl s => Tot (k s) p
  | .inr r => p r
theorem Tot.join {S X : Type} {x : Option (S ⊕ X)} {k : S → Option X} {p : X → Prop} (h : Tot x (joinP k p)) : Tot (Option.bind x (joinX k)) p := by
  obtain ⟨o, rfl, h⟩ := h
  cases o with
  | inl s => exact h
  | inr r => exact ⟨r, rfl, h⟩
/-- A loop as long as a measure falls. -/
theorem Tot.loop {S O : Type} {step : S → Option (S ⊕ O)} (I : S → Prop) (μ : S → Nat) {post : O → Prop} {s0 : S} (h0 : I s0) (hb : μ s0 < 18446744073709551616)
    (hs : ∀ s, I s → Tot (step s) (fun x => match x with | .inl s' => I s' ∧ μ s' < μ s | .inr o => post o)) : Tot (loopN step big s0) post := by
  refine loop_var I μ post h0 hb (fun s hi => ?_)
  obtain ⟨x, h1, h2⟩ := hs s hi
  cases x with
  | inl s' => exact .inl ⟨s', h1, h2⟩
  | inr o => exact .inr ⟨o, h1, h2⟩
theorem Tot.any {α : Type} {x : Option α} {p : α → Prop} (h : Tot x p) : Tot x (fun _ => True) := h.mono (fun _ _ => trivial)
theorem dTT {p : Prop} [Decidable p] (h : decide p = true) : p := of_decide_eq_true h
theorem dFF {p : Prop} [Decidable p] (h : decide p = false) : ¬ p := of_decide_eq_false h

theorem is_tot (x : Int) : Tot (exergueref01_Is x) (fun _ => True) := by
  unfold exergueref01_Is
  refine Tot.bind (p := fun _ => True) ?_ (fun _ _ => Tot.ret trivial)
  repeat' (first | exact Tot.ret trivial | refine Tot.ite (fun _ => ?_) (fun _ => ?_))
theorem size_tot (x : Int) : Tot (exergueref01_Size x) (fun n => 0 ≤ n ∧ n ≤ 4 ∧ (exergueref01_Is x = some true → 1 ≤ n)) := by
  unfold exergueref01_Size
  obtain ⟨b, hb, _⟩ := is_tot x
  rw [hb]
  cases b with
  | false => exact ⟨0, rfl, by omega, by omega, fun h => by cases h⟩
  | true =>
    show Tot (bif _ then _ else _) _
    repeat' (first | exact Tot.ret ⟨by omega, by omega, fun _ => by omega⟩ | refine Tot.ite (fun _ => ?_) (fun _ => ?_))
theorem bytes_tot (x : Int) : Tot (exergueref01_Bytes x) (fun l => l.length ≤ 4) := by
  unfold exergueref01_Bytes
  refine Tot.bind (size_tot x) (fun _ _ => ?_)
  repeat' (first | exact Tot.ret (by simp) | refine Tot.ite (fun _ => ?_) (fun _ => ?_))
theorem text_tot (x : Int) : Tot (exergueref10_text x) (fun l => l.length ≤ 4) := by
  unfold exergueref10_text
  exact Tot.bind (bytes_tot x) (fun o h => Tot.ret (by simpa [bytesS] using h))
theorem special_tot (x : Int) : Tot (exergueref10_Special x) (fun _ => True) := by
  unfold exergueref10_Special
  refine Tot.join (Tot.bind (p := fun _ => True) ?_ (fun b _ => ?_))
  · repeat' (first | exact Tot.ret trivial | refine Tot.ite (fun _ => ?_) (fun _ => ?_))
  · refine Tot.ite (fun _ => Tot.ret trivial) (fun _ => Tot.ret ?_)
    refine Tot.join (Tot.loop (fun s => 0 ≤ s ∧ s ≤ 11) (fun s => (11 - s).toNat) (by omega) (by omega) (fun s hs => ?_))
    refine Tot.ite (fun h => ?_) (fun _ => Tot.ret (Tot.ret trivial))
    have h := dTT h
    refine Tot.yes (inR_int (by omega) (by simpa using h)) (Tot.ite (fun _ => Tot.ret trivial) (fun _ => Tot.ret ?_))
    rw [w64 (by omega) (by omega)]; omega
theorem sign_tot (x : Int) : Tot (exergueref10_Sign x) (fun _ => True) := by
  unfold exergueref10_Sign
  repeat' (first | exact Tot.ret trivial | refine Tot.ite (fun _ => ?_) (fun _ => ?_))
def atV (l : List Int) (i : Int) : Int := if i < l.length then nth l i else -1
theorem at_eq2 {l : List Int} {i : Int} (h : 0 ≤ i) : exergueref10_at l i = some (atV l i) := by
  unfold exergueref10_at atV
  by_cases hi : i < l.length
  · rw [dT hi, if_pos hi, inR_int h hi]; rfl
  · rw [dF hi, if_neg hi]; rfl
theorem at_in {l : List Int} {i c : Int} (hc : atV l i = c) (h : c ≠ -1) : i < l.length := by
  unfold atV at hc
  split at hc
  · assumption
  · exact absurd hc.symm h
theorem many_tot {l : List Int} {i c : Int} (hl : l.length ≤ 10000) (h : 0 ≤ i) (hi : i ≤ l.length) (hc : c ≠ -1) : Tot (exergueref10_many l i c) (fun n => 0 ≤ n ∧ i + n ≤ l.length) := by
  unfold exergueref10_many
  refine Tot.bind (p := fun n => 0 ≤ n ∧ i + n ≤ l.length) ?_ (fun _ h => Tot.ret h)
  refine Tot.loop (fun s => 0 ≤ s ∧ i + s ≤ l.length) (fun s => (l.length - i - s).toNat) (by omega) (by omega) (fun s hs => ?_)
  rw [w64 (n := i + s) (by omega) (by omega), at_eq2 (by omega)]
  show Tot (bif _ then _ else _) _
  refine Tot.ite (fun hh => Tot.ret ?_) (fun _ => Tot.ret hs)
  have := at_in (dTT hh) hc
  rw [w64 (by omega) (by omega)]; omega
theorem pad_tot {p : St25} {l : List Int} {i w : Int} (hl : l.length ≤ 10000) (h : 0 ≤ i) (hi : i ≤ l.length) : Tot (exergueref10_pad p l i w) (fun o => 0 ≤ o.2.1 ∧ (o.2.2 = true → o.2.1 ≤ l.length) ∧ o.1.MinFrac_ = p.MinFrac_ ∧ o.1.MaxFrac_ = p.MaxFrac_) := by
  unfold exergueref10_pad
  refine Tot.join (Tot.bind (p := fun _ => True) ?_ (fun b _ => ?_))
  · refine Tot.ite (fun _ => Tot.ret trivial) (fun _ => ?_)
    rw [at_eq2 h]; exact Tot.ret trivial
  · refine Tot.ite (fun _ => Tot.ret ⟨h, fun _ => hi, rfl, rfl⟩) (fun _ => Tot.ret ?_)
    show Tot _ _
    rw [w64 (n := i + 1) (by omega) (by omega)]
    refine Tot.ite (fun _ => Tot.ret ⟨by simp only; omega, fun h => (by cases h), rfl, rfl⟩) (fun hh => ?_)
    have := dFF hh
    refine Tot.yes (inR_int (by omega) (by omega)) (Tot.ret ⟨?_, fun _ => ?_, rfl, rfl⟩)
    · simp only; rw [w64 (by omega) (by omega)]; omega
    · simp only; rw [w64 (by omega) (by omega)]; omega
theorem affix_tot {l : List Int} {i : Int} (hl : l.length ≤ 10000) (h : 0 ≤ i) (hi : i ≤ l.length) : Tot (exergueref10_affix l i) (fun o => 0 ≤ o.2.1 ∧ o.2.1 ≤ l.length) := by
  unfold exergueref10_affix
  refine Tot.join (Tot.loop (fun s : Int × List St108 => 0 ≤ s.1 ∧ s.1 ≤ (l.length : Int) ∧ (s.2.length : Int) ≤ s.1) (fun s => ((l.length : Int) - s.1).toNat) ⟨h, hi, by simpa using h⟩ (by simp only; omega) (fun s hs => ?_))
  refine Tot.ite (fun hh => ?_) (fun hh => Tot.ret (Tot.ret ⟨hs.1, hs.2.1⟩))
  have hlt := dTT hh
  refine Tot.yes (inR_int hs.1 hlt) (Tot.bind (sign_tot _) (fun y _ => Tot.bind (special_tot _) (fun y2 _ => ?_)))
  have e1 : IntKind.wrap .i64 (s.1 + 1) = s.1 + 1 := w64 (by omega) (by omega)
  rw [e1]
  refine Tot.ite (fun _ => Tot.yes (room_of (by simp; omega)) (Tot.ret ⟨⟨by simp only; omega, by simp only; omega, by simp; omega⟩, by simp only; omega⟩)) (fun _ => ?_)
  refine Tot.ite (fun _ => Tot.ite (fun _ => Tot.ret ⟨hs.1, hs.2.1⟩) (fun _ => Tot.yes (room_of (by simp; omega)) (Tot.ret ⟨⟨by simp only; omega, by simp only; omega, by simp; omega⟩, by simp only; omega⟩))) (fun _ => ?_)
  rw [at_eq2 (by omega)]
  show Tot (bif _ then _ else _) _
  refine Tot.ite (fun hq => ?_) (fun hq => ?_)
  · have := at_in (dTT hq) (by omega)
    refine Tot.yes (room_of (by simp; omega)) (Tot.ret ?_)
    have e2 : IntKind.wrap .i64 (s.1 + 2) = s.1 + 2 := w64 (by omega) (by omega)
    rw [e2]
    exact ⟨⟨by simp only; omega, by simp only; omega, by simp; omega⟩, by simp only; omega⟩
  · refine Tot.bind (p := fun o : Int × List St108 => s.1 + 1 ≤ o.1 ∧ o.1 ≤ (l.length : Int) ∧ (o.2.length : Int) ≤ o.1) ?_ (fun o ho => ?_)
    · refine Tot.loop (fun t : Int × List St108 => s.1 + 1 ≤ t.1 ∧ t.1 ≤ (l.length : Int) ∧ (t.2.length : Int) ≤ t.1) (fun t => ((l.length : Int) - t.1).toNat) ⟨by simp only; omega, by simp only; omega, by simp only; omega⟩ (by simp only; omega) (fun t ht => ?_)
      have f1 : IntKind.wrap .i64 (t.1 + 1) = t.1 + 1 := w64 (by omega) (by omega)
      rw [f1]
      refine Tot.join (Tot.bind (p := fun b => b = true → t.1 < l.length ∧ (nth l t.1 = 39 → t.1 + 1 < l.length)) ?_ (fun b hb => ?_))
      · refine Tot.ite (fun hh => ?_) (fun _ => Tot.ret (fun h => by cases h))
        have h3 := dTT hh
        refine Tot.yes (inR_int (by omega) h3) (Tot.ite (fun hn => Tot.ret (fun _ => ⟨h3, fun he => absurd he (dTT hn)⟩)) (fun _ => ?_))
        rw [at_eq2 (by omega)]
        exact Tot.ret (fun hb => ⟨h3, fun _ => at_in (dTT hb) (by omega)⟩)
      · cases b with
        | false => exact Tot.ret ht
        | true =>
          obtain ⟨g1, g2⟩ := hb rfl
          refine Tot.ret (show Tot _ _ from ?_)
          refine Tot.yes (inR_int (by omega) g1) (Tot.yes (room_of (by simp; omega)) ?_)
          refine Tot.bind (p := fun v => t.1 ≤ v ∧ v < l.length) (Tot.yes (inR_int (by omega) g1) (Tot.ite (fun hh => Tot.ret ⟨by omega, g2 (dTT hh)⟩) (fun _ => Tot.ret ⟨by omega, g1⟩))) (fun v hv => Tot.ret ?_)
          have f2 : IntKind.wrap .i64 (v + 1) = v + 1 := w64 (by omega) (by omega)
          rw [f2]
          exact ⟨⟨by simp only; omega, by simp only; omega, by simp; omega⟩, by simp only; omega⟩
    · refine Tot.ite (fun _ => Tot.ret ⟨hs.1, hs.2.1⟩) (fun hh => Tot.ret ?_)
      have h3 := dFF hh
      have f1 : IntKind.wrap .i64 (o.1 + 1) = o.1 + 1 := w64 (by omega) (by omega)
      rw [f1]
      exact ⟨⟨by simp only; omega, by simp only; omega, by simp only; omega⟩, by simp only; omega⟩

/-! Patterns that are read. -/
theorem places_tot {p : St25} {l : List Int} {i : Int} (hl : l.length ≤ 10000) (h : 0 ≤ i) (hi : i ≤ l.length) :
    Tot (exergueref10_places p l i) (fun o => 0 ≤ o.2.1 ∧ o.2.1 ≤ l.length ∧ o.1.MinFrac_ = p.MinFrac_ ∧ o.1.MaxFrac_ = p.MaxFrac_) := by
  unfold exergueref10_places
  refine Tot.loop (fun s : Int × Int × Int × Int × List Int => 0 ≤ s.1 ∧ s.1 ≤ (l.length : Int) ∧ (s.2.2.2.2.length : Int) ≤ s.1) (fun s => ((l.length : Int) - s.1).toNat) ⟨h, hi, by simpa using h⟩ (by simp only; omega) (fun s hs => ?_)
  have e1 : IntKind.wrap .i64 (s.1 + 1) = s.1 + 1 := w64 (by omega) (by omega)
  rw [e1, at_eq2 hs.1, at_eq2 (l := l) (i := s.1 + 1) (by omega)]
  show Tot (Option.bind _ _) _
  refine Tot.join (Tot.bind (p := fun b => b = true → s.1 < l.length) ?_ (fun b hb => ?_))
  · refine Tot.ite (fun hq => Tot.ret (fun _ => at_in (dTT hq) (by omega))) (fun _ => Tot.ret (fun h => by cases h))
  · cases b with
    | true =>
      have := hb rfl
      exact Tot.ret ⟨⟨by simp only; omega, by simp only; omega, by simp only; omega⟩, by simp only; omega⟩
    | false =>
      refine Tot.ret (show Tot _ _ from ?_)
      refine Tot.ite (fun hq => ?_) (fun _ => ?_)
      · have := at_in (dTT hq) (by omega)
        exact Tot.ret ⟨⟨by simp only; omega, by simp only; omega, by simp only; omega⟩, by simp only; omega⟩
      · refine Tot.join (Tot.bind (p := fun b => b = true → s.1 < l.length) ?_ (fun b hb => ?_))
        · refine Tot.ite (fun hq => ?_) (fun _ => Tot.ret (fun h => by cases h))
          have := at_in (dTT hq) (by omega)
          repeat' (first | exact Tot.ret (fun _ => this) | refine Tot.ite (fun _ => ?_) (fun _ => ?_))
        · cases b with
          | true =>
            have h2 := hb rfl
            refine Tot.join (Tot.bind (p := fun _ => True) ?_ (fun b _ => ?_))
            · refine Tot.ite (fun hq => ?_) (fun _ => Tot.ret trivial)
              have hq := dTT hq
              exact Tot.yes (inR_int (by omega) (by omega)) (Tot.yes (inR_int (by omega) (by omega)) (Tot.ret trivial))
            · cases b with
              | true => exact Tot.ret ⟨hs.1, hs.2.1, rfl, rfl⟩
              | false =>
                refine Tot.ret (show Tot _ _ from Tot.yes (room_of (by simp; omega)) (Tot.ret ?_))
                exact ⟨⟨by simp only; omega, by simp only; omega, by simp; omega⟩, by simp only; omega⟩
          | false =>
            refine Tot.ret (show Tot _ _ from ?_)
            refine Tot.bind (p := fun _ => True) ?_ (fun y _ => Tot.bind (p := fun _ => True) ?_ (fun z _ => Tot.ret ⟨hs.1, hs.2.1, rfl, rfl⟩))
            · exact Tot.ite (fun _ => Tot.ret trivial) (fun _ => Tot.ret trivial)
            · refine Tot.ite (fun hq => ?_) (fun _ => Tot.ret trivial)
              have hq := dTT hq
              exact Tot.yes (inR_int (by omega) (by omega)) (Tot.yes (inR_int (by omega) (by omega)) (Tot.ret trivial))
def pfP (p : St25) : Prop := p.MinFrac_ ≤ p.MaxFrac_
theorem number_tot {p : St25} {l : List Int} {i : Int} (hl : l.length ≤ 10000) (h : 0 ≤ i) (hi : i ≤ l.length) (hp : pfP p) :
    Tot (exergueref10_number p l i) (fun o => 0 ≤ o.2.1 ∧ o.2.1 ≤ l.length ∧ (o.2.2 = true → pfP o.1)) := by
  unfold exergueref10_number
  refine Tot.bind (many_tot hl h hi (by omega)) (fun n hn => ?_)
  have e1 : IntKind.wrap .i64 (i + n) = i + n := w64 (by omega) (by omega)
  rw [e1]
  refine Tot.join (Tot.mono (p := fun x => match x with | .inl s => 0 ≤ s.1 ∧ s.1 ≤ l.length ∧ s.2.2.2.2.2.2.2.2.1 ≤ s.2.2.2.2.2.2.2.2.2.1 | .inr r => 0 ≤ r.2.1 ∧ r.2.1 ≤ l.length ∧ (r.2.2 = true → pfP r.1)) ?_ (fun x hx => ?_))
  · refine Tot.ite (fun _ => ?_) (fun _ => ?_)
    · refine Tot.bind (many_tot hl (i := i + n) (by omega) (by omega) (by omega)) (fun m hm => Tot.ret ?_)
      rw [w64 (n := i + n + m) (by omega) (by omega)]
      exact ⟨by simp only; omega, by simp only; omega, hp⟩
    · refine Tot.bind (places_tot hl h hi) (fun y hy => ?_)
      obtain ⟨y1, y2, y3, y4⟩ := hy
      refine Tot.ite (fun _ => Tot.ret ⟨y1, y2, fun h => (by cases h)⟩) (fun _ => ?_)
      rw [at_eq2 y1]
      show Tot (bif _ then _ else _) _
      refine Tot.ite (fun hq => ?_) (fun _ => Tot.ret ⟨y1, y2, by simp only [y3, y4]; exact hp⟩)
      have hin := at_in (dTT hq) (by omega)
      have f1 : IntKind.wrap .i64 (y.2.1 + 1) = y.2.1 + 1 := w64 (by omega) (by omega)
      rw [f1]
      refine Tot.bind (many_tot hl (i := y.2.1 + 1) (by omega) (by omega) (by omega)) (fun a ha => ?_)
      have f2 : IntKind.wrap .i64 (y.2.1 + 1 + a) = y.2.1 + 1 + a := w64 (by omega) (by omega)
      rw [f2]
      refine Tot.bind (many_tot hl (i := y.2.1 + 1 + a) (by omega) (by omega) (by omega)) (fun b hb => ?_)
      have f3 : IntKind.wrap .i64 (y.2.1 + 1 + a + b) = y.2.1 + 1 + a + b := w64 (by omega) (by omega)
      have f4 : IntKind.wrap .i64 (a + b) = a + b := w64 (by omega) (by omega)
      rw [f3, f4]
      refine Tot.ite (fun _ => Tot.ret ⟨by simp only; omega, by simp only; omega, fun h => (by cases h)⟩) (fun _ => Tot.ret ⟨by simp only; omega, by simp only; omega, by simp only; omega⟩)
  · cases x with
    | inr r => exact hx
    | inl s =>
      obtain ⟨s1, s2, s3⟩ := hx
      show Tot (Option.bind _ _) _
      rw [at_eq2 s1]
      show Tot (bif _ then _ else _) _
      refine Tot.ite (fun _ => Tot.ret ⟨s1, s2, fun _ => s3⟩) (fun hq => ?_)
      have hq : atV l s.1 = 69 := by have := dFF hq; omega
      have hin := at_in hq (by omega)
      have f1 : IntKind.wrap .i64 (s.1 + 1) = s.1 + 1 := w64 (by omega) (by omega)
      rw [f1, at_eq2 (by omega)]
      refine Tot.bind (p := fun t : Int × Bool => 0 ≤ t.1 ∧ t.1 ≤ (l.length : Int)) ?_ (fun t ht => ?_)
      · show Tot (bif _ then _ else _) _
        refine Tot.ite (fun hq => ?_) (fun _ => Tot.ret ⟨by simp only; omega, by simp only; omega⟩)
        have := at_in (dTT hq) (by omega)
        rw [w64 (n := s.1 + 1 + 1) (by omega) (by omega)]
        exact Tot.ret ⟨by simp only; omega, by simp only; omega⟩
      · refine Tot.bind (many_tot hl ht.1 ht.2 (by omega)) (fun n hn => Tot.ret ?_)
        rw [w64 (n := t.1 + n) (by omega) (by omega)]
        exact ⟨by simp only; omega, by simp only; omega, fun _ => s3⟩
theorem first_tot {l : List Int} (hl : l.length ≤ 10000) : Tot (exergueref10_first l) (fun o => o.2.2.2.2 = true → pfP o.1 ∧ 0 ≤ o.2.1 ∧ o.2.2.1 ≤ l.length ∧ 0 ≤ o.2.2.2.1 ∧ o.2.2.2.1 ≤ l.length) := by
  unfold exergueref10_first
  refine Tot.bind (pad_tot hl (by omega) (by omega)) (fun a ha => Tot.ite (fun _ => Tot.ret (fun h => by cases h)) (fun h1 => ?_))
  have h1 : a.2.2 = true := by simpa using h1
  refine Tot.bind (affix_tot hl ha.1 (ha.2.1 h1)) (fun b hb => Tot.ite (fun _ => Tot.ret (fun h => by cases h)) (fun h2 => ?_))
  refine Tot.bind (pad_tot hl hb.1 hb.2) (fun c hc => Tot.ite (fun _ => Tot.ret (fun h => by cases h)) (fun h3 => ?_))
  have h3 : c.2.2 = true := by simpa using h3
  have hpc : pfP c.1 := by unfold pfP; rw [hc.2.2.1, hc.2.2.2]; simp only; rw [ha.2.2.1, ha.2.2.2]; exact Int.le_refl _
  refine Tot.bind (number_tot hl hc.1 (hc.2.1 h3) hpc) (fun d hd => Tot.ite (fun _ => Tot.ret (fun h => by cases h)) (fun h4 => ?_))
  have h4 : d.2.2 = true := by simpa using h4
  refine Tot.bind (pad_tot hl hd.1 hd.2.1) (fun e he => Tot.ite (fun _ => Tot.ret (fun h => by cases h)) (fun h5 => ?_))
  have h5 : e.2.2 = true := by simpa using h5
  refine Tot.bind (affix_tot hl he.1 (he.2.1 h5)) (fun f hf => Tot.ite (fun _ => Tot.ret (fun h => by cases h)) (fun h6 => ?_))
  refine Tot.bind (pad_tot hl hf.1 hf.2) (fun g hg => Tot.ret (fun h7 => ⟨?_, hc.1, hd.2.1, hg.1, hg.2.1 h7⟩))
  unfold pfP
  simp only
  rw [hg.2.2.1, hg.2.2.2]; simp only; rw [he.2.2.1, he.2.2.2]; exact hd.2.2 h4
theorem affix_any {l : List Int} {i : Int} (hl : l.length ≤ 10000) (h : 0 ≤ i) : Tot (exergueref10_affix l i) (fun _ => True) := by
  by_cases hi : i ≤ l.length
  · exact (affix_tot hl h hi).any
  · unfold exergueref10_affix
    refine Tot.join (Tot.loop (fun s : Int × List St108 => (l.length : Int) < s.1) (fun _ => 0) (by simp only; omega) (by decide) (fun s hs => ?_))
    rw [dF (show ¬ s.1 < (l.length : Int) by omega)]
    exact Tot.ret (Tot.ret trivial)
theorem second_tot {p : St25} {l : List Int} {i a b : Int} (hl : l.length ≤ 10000) (h : 0 ≤ i) (hi : i ≤ l.length) (ha : 0 ≤ a) (hb : b ≤ l.length) (hp : pfP p) :
    Tot (exergueref10_second p l i a b) (fun o => pfP o.1) := by
  unfold exergueref10_second
  refine Tot.bind (affix_tot hl h hi) (fun c hc => Tot.ite (fun _ => Tot.ret hp) (fun _ => ?_))
  refine Tot.join (Tot.mono (p := fun x => match x with | .inl s => 0 ≤ s | .inr r => pfP r.1) ?_ (fun x hx => ?_))
  · refine Tot.loop (fun s : Int × Int => 0 ≤ s.1 ∧ s.1 ≤ (l.length : Int) + s.2 ∧ 0 ≤ s.2) (fun s => (b - s.2).toNat) ⟨hc.1, by simp only; omega, ha⟩ (by simp only; omega) (fun s hs => ?_)
    refine Tot.ite (fun hh => ?_) (fun _ => Tot.ret hs.1)
    have hh := dTT hh
    rw [at_eq2 hs.1]
    show Tot (bif _ then _ else _) _
    refine Tot.yes (inR_int hs.2.2 (by omega)) (Tot.ite (fun _ => Tot.ret hp) (fun hq => Tot.ret ?_))
    have e1 : IntKind.wrap .i64 (s.1 + 1) = s.1 + 1 := w64 (by omega) (by omega)
    have e2 : IntKind.wrap .i64 (s.2 + 1) = s.2 + 1 := w64 (by omega) (by omega)
    rw [e1, e2]
    exact ⟨⟨by simp only; omega, by simp only; omega, by simp only; omega⟩, by simp only; omega⟩
  · cases x with
    | inr r => exact hx
    | inl s =>
      show Tot _ _
      exact Tot.bind (affix_any hl hx) (fun d hd => Tot.ret hp)

/-! Texts of patterns, read: there is an answer. -/
theorem tails_tot {b : List Int} {at' k n : Int} (hl : b.length ≤ 100000) (h : 0 ≤ at') (ha : at' ≤ b.length) (hk : 0 ≤ k) (hk2 : k ≤ 3) : Tot (exergueref01_tails b at' k n) (fun _ => True) := by
  unfold exergueref01_tails
  rw [w64 (n := at' + k) (by omega) (by omega)]
  refine Tot.ite (fun _ => Tot.ret trivial) (fun hh => ?_)
  have hh := dFF hh
  refine Tot.join (Tot.loop (fun s : Int × Int => 1 ≤ s.2 ∧ s.2 ≤ k + 1) (fun s => (k + 1 - s.2).toNat) ⟨by simp only; omega, by simp only; omega⟩ (by simp only; omega) (fun s hs => ?_))
  refine Tot.ite (fun hq => ?_) (fun _ => Tot.ret (Tot.ret trivial))
  have hq := dTT hq
  have e1 : IntKind.wrap .i64 (at' + s.2) = at' + s.2 := w64 (by omega) (by omega)
  have e2 : IntKind.wrap .i64 (s.2 + 1) = s.2 + 1 := w64 (by omega) (by omega)
  rw [e1, e2]
  refine Tot.join (Tot.yes (inR_int (by omega) (by omega)) ?_)
  refine Tot.join (Tot.bind (p := fun _ => True) ?_ (fun c _ => ?_))
  · exact Tot.ite (fun _ => Tot.ret trivial) (fun _ => Tot.ret trivial)
  · cases c with
    | true => exact Tot.ret trivial
    | false => exact Tot.ret (Tot.ret (Tot.ret ⟨⟨by simp only; omega, by simp only; omega⟩, by simp only; omega⟩))
theorem one_tot {b : List Int} {at' : Int} (hl : b.length ≤ 100000) (h : 0 ≤ at') (ha : at' < b.length) : Tot (exergueref01_one b at') (fun n => n < 0 ∨ exergueref01_Is (IntKind.wrap .i32 n) = some true) := by
  unfold exergueref01_one
  refine Tot.yes (inR_int h ha) ?_
  have ht : ∀ k n, 0 ≤ k → k ≤ 3 → Tot (exergueref01_tails b at' k n) (fun _ => True) := fun k n h1 h2 => tails_tot hl h (by omega) h1 h2
  refine Tot.bind (p := fun _ => True) (Tot.ite (fun _ => Tot.ret trivial) (fun _ => Tot.ret trivial)) (fun a _ => ?_)
  refine Tot.bind (p := fun _ => True) ?_ (fun a _ => Tot.bind (p := fun _ => True) ?_ (fun a _ => Tot.bind (p := fun _ => True) ?_ (fun a _ => ?_)))
  · refine Tot.bind (p := fun _ => True) (Tot.ite (fun _ => Tot.ret trivial) (fun _ => Tot.ret trivial)) (fun _ _ => Tot.ite (fun _ => Tot.bind (ht 1 _ (by omega) (by omega)) (fun _ _ => Tot.ret trivial)) (fun _ => Tot.ret trivial))
  · refine Tot.bind (p := fun _ => True) (Tot.ite (fun _ => Tot.ret trivial) (fun _ => Tot.ret trivial)) (fun _ _ => Tot.ite (fun _ => Tot.bind (ht 2 _ (by omega) (by omega)) (fun _ _ => Tot.ret trivial)) (fun _ => Tot.ret trivial))
  · refine Tot.bind (p := fun _ => True) (Tot.ite (fun _ => Tot.ret trivial) (fun _ => Tot.ret trivial)) (fun _ _ => Tot.ite (fun _ => Tot.bind (ht 3 _ (by omega) (by omega)) (fun _ _ => Tot.ret trivial)) (fun _ => Tot.ret trivial))
  · obtain ⟨v, hv, _⟩ := is_tot (IntKind.wrap .i32 a.1)
    rw [hv]
    show Tot (Option.bind _ _) _
    refine Tot.join (Tot.bind (p := fun c => c = false → v = true) (Tot.ite (fun _ => Tot.ret (fun h => by cases h)) (fun _ => Tot.ret (fun h => by simpa using h))) (fun c hc => ?_))
    cases c with
    | true => exact Tot.ret (.inl (by decide))
    | false => exact Tot.ret (Tot.ret (.inr (by rw [hv, hc rfl])))
theorem decode_tot {b : List Int} (hl : b.length ≤ 100000) : Tot (exergueref01_Decode b) (fun _ => True) := by
  unfold exergueref01_Decode
  refine Tot.join (Tot.loop (fun s : Int × List Int => 0 ≤ s.1 ∧ s.1 ≤ (b.length : Int) + 4 ∧ (s.2.length : Int) ≤ s.1) (fun s => ((b.length : Int) + 4 - s.1).toNat) ⟨by simp only; omega, by simp only; omega, by simp⟩ (by simp only; omega) (fun s hs => ?_))
  refine Tot.ite (fun hq => ?_) (fun _ => Tot.ret (Tot.ret trivial))
  have hq := dTT hq
  refine Tot.bind (one_tot hl hs.1 hq) (fun n hn => Tot.ite (fun _ => Tot.ret trivial) (fun hneg => ?_))
  have hneg := dFF hneg
  have his := hn.resolve_left hneg
  refine Tot.yes (room_of (by simp; omega)) (Tot.bind (size_tot _) (fun z hz => Tot.ret ?_))
  have h1 := hz.2.2 his
  have e1 : IntKind.wrap .i64 (s.1 + z) = s.1 + z := w64 (by omega) (by omega)
  rw [e1]
  exact ⟨⟨by simp only; omega, by simp only; omega, by simp; omega⟩, by simp only; omega⟩
theorem times_tot {t : List UInt8} {n : Int} (ht : t.length ≤ 1) (hn : n ≤ 1000) : Tot (exergueref10_times t n) (fun l => l.length ≤ 1000) := by
  unfold exergueref10_times
  refine Tot.bind (p := fun l => l.length ≤ 1000) ?_ (fun _ h => Tot.ret h)
  refine Tot.loop (fun s : List UInt8 × Int => 0 ≤ s.2 ∧ s.2 ≤ 1000 ∧ (s.1.length : Int) ≤ s.2) (fun s => (1000 - s.2).toNat) ⟨by simp only; omega, by simp only; omega, by simp⟩ (by simp only; omega) (fun s hs => ?_)
  refine Tot.ite (fun hq => ?_) (fun _ => Tot.ret (by simp only; omega))
  have hq := dTT hq
  refine Tot.yes (room_of (by omega)) (Tot.ret ?_)
  have e1 : IntKind.wrap .i64 (s.2 + 1) = s.2 + 1 := w64 (by omega) (by omega)
  rw [e1]
  exact ⟨⟨by simp only; omega, by simp only; omega, by simp; omega⟩, by simp only; omega⟩
/-- All counts are in bounds. -/
def cntP (p : St25) : Prop := (0 ≤ p.Hash_ ∧ p.Hash_ ≤ 40) ∧ (0 ≤ p.MinInt_ ∧ p.MinInt_ ≤ 40) ∧ (0 ≤ p.MinFrac_ ∧ p.MinFrac_ ≤ 40) ∧ (0 ≤ p.MaxFrac_ ∧ p.MaxFrac_ ≤ 40) ∧ (0 ≤ p.G1_ ∧ p.G1_ ≤ 40) ∧ (0 ≤ p.G2_ ∧ p.G2_ ≤ 40) ∧ (0 ≤ p.MinSig_ ∧ p.MinSig_ ≤ 40) ∧ (0 ≤ p.MaxSig_ ∧ p.MaxSig_ ≤ 40) ∧ (0 ≤ p.Exp_ ∧ p.Exp_ ≤ 40)
theorem number_text {p : St25} (hp : cntP p) : Tot (exergueref10_Number p) (fun l => l.length ≤ 8000) := by
  obtain ⟨c1, c2, c3, c4, c5, c6, c7, c8, c9⟩ := hp
  unfold exergueref10_Number
  have e0 : IntKind.wrap .i64 (p.Hash_ + p.MinInt_) = p.Hash_ + p.MinInt_ := w64 (by omega) (by omega)
  have e1 : IntKind.wrap .i64 (p.MaxSig_ - p.MinSig_) = p.MaxSig_ - p.MinSig_ := w64 (by omega) (by omega)
  have e2 : IntKind.wrap .i64 (p.MaxFrac_ - p.MinFrac_) = p.MaxFrac_ - p.MinFrac_ := w64 (by omega) (by omega)
  rw [e0, e1, e2]
  refine Tot.bind (p := fun l => l.length ≤ 200) ?_ (fun a ha => ?_)
  · refine Tot.loop (fun s : List UInt8 × Int => 0 ≤ s.2 ∧ s.2 ≤ 80 ∧ (s.1.length : Int) ≤ 2 * s.2) (fun s => (80 - s.2).toNat) ⟨by simp only; omega, by simp only; omega, by simp⟩ (by simp only; omega) (fun s hs => ?_)
    refine Tot.ite (fun hq => ?_) (fun _ => Tot.ret (by simp only; omega))
    have hq := dTT hq
    have f1 : IntKind.wrap .i64 (s.2 + 1) = s.2 + 1 := w64 (by omega) (by omega)
    rw [f1]
    refine Tot.bind (p := fun l => (l.length : Int) ≤ s.1.length + 2) ?_ (fun b hb => Tot.ret ⟨⟨by simp only; omega, by simp only; omega, by simp only; omega⟩, by simp only; omega⟩)
    refine Tot.bind (p := fun l => (l.length : Int) ≤ s.1.length + 1) ?_ (fun b hb => ?_)
    · refine Tot.bind (p := fun _ => True) ?_ (fun g _ => Tot.ite (fun _ => Tot.yes (room_of (by simp; omega)) (Tot.ret (by simp))) (fun _ => Tot.ret (by omega)))
      refine Tot.ite (fun _ => Tot.ite (fun _ => Tot.ret trivial) (fun _ => Tot.ite (fun _ => Tot.ite (fun hg => ?_) (fun _ => Tot.ret trivial)) (fun _ => Tot.ret trivial))) (fun _ => Tot.ret trivial)
      have hg := dTT hg
      exact Tot.yes (by unfold nz; rw [dF (by omega)]; rfl) (Tot.ret trivial)
    · exact Tot.ite (fun _ => Tot.yes (room_of (by simp; omega)) (Tot.ret (by simp; omega))) (fun _ => Tot.yes (room_of (by simp; omega)) (Tot.ret (by simp; omega)))
  · refine Tot.bind (times_tot (by simp) (by omega)) (fun b hb => Tot.bind (times_tot (by simp) (by omega)) (fun c hc => ?_))
    refine Tot.yes (room_of (by omega)) (Tot.yes (room_of (by simp; omega)) ?_)
    refine Tot.bind (p := fun l => l.length ≤ 5000) ?_ (fun d hd => ?_)
    · refine Tot.ite (fun _ => Tot.yes (room_of (by simp; omega)) (Tot.bind (times_tot (by simp) (by omega)) (fun e he => Tot.yes (room_of (by simp; omega)) (Tot.bind (times_tot (by simp) (by omega)) (fun f hf => Tot.yes (room_of (by simp; omega)) (Tot.ret (by simp; omega))))))) (fun _ => Tot.ret (by simp; omega))
    · refine Tot.bind (p := fun l => l.length ≤ 8000) ?_ (fun d hd => Tot.ret hd)
      refine Tot.ite (fun _ => Tot.yes (room_of (by simp; omega)) (Tot.bind (p := fun l => l.length ≤ 5002) ?_ (fun e he => Tot.bind (times_tot (by simp) (by omega)) (fun f hf => Tot.yes (room_of (by omega)) (Tot.ret (by simp; omega)))))) (fun _ => Tot.ret (by omega))
      exact Tot.ite (fun _ => Tot.yes (room_of (by simp; omega)) (Tot.ret (by simp; omega))) (fun _ => Tot.ret (by simp; omega))
theorem written_tot {l : List St108} (hl : l.length ≤ 300) : Tot (exergueref10_written l) (fun t => t.length ≤ 3000) := by
  unfold exergueref10_written
  refine Tot.bind (p := fun s => s.1.length ≤ 2999) ?_ (fun s hs => Tot.bind (p := fun t => t.length ≤ 3000) (Tot.ite (fun _ => Tot.yes (room_of (by simp; omega)) (Tot.ret (by simp; omega))) (fun _ => Tot.ret (by omega))) (fun _ h => Tot.ret h))
  refine Tot.loop (fun s : List UInt8 × Bool × Int => 0 ≤ s.2.2 ∧ s.2.2 ≤ (l.length : Int) ∧ (s.1.length : Int) ≤ 8 * s.2.2) (fun s => ((l.length : Int) - s.2.2).toNat) ⟨by simp only; omega, by simp only; omega, by simp⟩ (by simp only; omega) (fun s hs => ?_)
  refine Tot.ite (fun hq => ?_) (fun _ => Tot.ret (by simp only; omega))
  have hq := dTT hq
  have hin := inR_int hs.1 hq
  have f1 : IntKind.wrap .i64 (s.2.2 + 1) = s.2.2 + 1 := w64 (by omega) (by omega)
  rw [f1]
  refine Tot.bind (p := fun t => (t.1.length : Int) ≤ s.1.length + 8) ?_ (fun t ht => Tot.ret ⟨⟨by simp only; omega, by simp only; omega, by simp only; omega⟩, by simp only; omega⟩)
  refine Tot.yes hin (Tot.bind (special_tot _) (fun sp _ => Tot.bind (p := fun _ => True) ?_ (fun ap _ => Tot.bind (p := fun _ => True) ?_ (fun qu _ => Tot.bind (p := fun t => (t.1.length : Int) ≤ s.1.length + 1) ?_ (fun t ht => ?_)))))
  · exact Tot.yes hin (Tot.ite (fun _ => Tot.yes hin (Tot.ret trivial)) (fun _ => Tot.ret trivial))
  · exact Tot.yes hin (Tot.ite (fun _ => Tot.ret trivial) (fun _ => Tot.ret trivial))
  · exact Tot.bind (p := fun _ => True) (Tot.ite (fun _ => Tot.ret trivial) (fun _ => Tot.ret trivial)) (fun _ _ => Tot.ite (fun _ => Tot.yes (room_of (by simp; omega)) (Tot.ret (by simp))) (fun _ => Tot.ret (by simp only; omega)))
  · have sgn : ∀ c : UInt8, Tot (bif room (t.1.length + ([c] : List UInt8).length) then (some ((t.1 ++ ([c] : List UInt8)), t.2)) else none) (fun u => (u.1.length : Int) ≤ s.1.length + 8) := fun c => Tot.yes (room_of (by simp; omega)) (Tot.ret (by simp; omega))
    refine Tot.yes hin (Tot.ite (fun _ => Tot.yes hin (Tot.bind (text_tot _) (fun x hx => Tot.yes (room_of (by omega)) (Tot.ite (fun _ => Tot.yes (room_of (by simp; omega)) (Tot.ret (by simp; omega))) (fun _ => Tot.ret (by simp; omega)))))) (fun _ => Tot.ite (fun _ => sgn _) (fun _ => Tot.ite (fun _ => sgn _) (fun _ => Tot.ite (fun _ => sgn _) (fun _ => Tot.ite (fun _ => ?_) (fun _ => Tot.ret (by simp only; omega)))))))
    exact Tot.bind (text_tot _) (fun x hx => Tot.yes (room_of (by omega)) (Tot.ret (by simp; omega)))
theorem padded_tot (p : St25) (w : Int) : Tot (exergueref10_padded p w) (fun t => t.length ≤ 5) := by
  unfold exergueref10_padded
  exact Tot.ite (fun _ => Tot.bind (text_tot _) (fun x hx => Tot.yes (room_of (by simp; omega)) (Tot.ret (by simp; omega)))) (fun _ => Tot.ret (by simp))
theorem ptext_tot {p : St25} (hp : cntP p) (h1 : p.Pre_.length ≤ 300) (h2 : p.Suf_.length ≤ 300) (h3 : p.NPre_.length ≤ 300) (h4 : p.NSuf_.length ≤ 300) : Tot (exergueref10_Text p) (fun t => t.length ≤ 50000) := by
  unfold exergueref10_Text
  refine Tot.bind (padded_tot p 1) (fun a ha => Tot.bind (written_tot h1) (fun b hb => Tot.yes (room_of (by omega)) ?_))
  refine Tot.bind (padded_tot p 2) (fun c hc => Tot.yes (room_of (by simp; omega)) (Tot.bind (number_text hp) (fun d hd => Tot.yes (room_of (by simp; omega)) ?_)))
  refine Tot.bind (padded_tot p 3) (fun e he => Tot.yes (room_of (by simp; omega)) (Tot.bind (written_tot h2) (fun f hf => Tot.yes (room_of (by simp; omega)) ?_)))
  refine Tot.bind (padded_tot p 4) (fun g hg => Tot.yes (room_of (by simp; omega)) ?_)
  refine Tot.bind (p := fun t => t.length ≤ 50000) ?_ (fun _ h => Tot.ret h)
  refine Tot.ite (fun _ => ?_) (fun _ => Tot.ret (by simp; omega))
  refine Tot.yes (room_of (by simp; omega)) (Tot.bind (written_tot h3) (fun i hi => Tot.yes (room_of (by simp; omega)) (Tot.bind (number_text hp) (fun j hj => Tot.yes (room_of (by simp; omega)) (Tot.bind (written_tot h4) (fun k hk => Tot.yes (room_of (by simp; omega)) (Tot.ret (by simp; omega))))))))
theorem parse_tot {t : List UInt8} (ht : t.length ≤ 100000) : Tot (exergueref10_Parse t) (fun o => o.2.2 = 0 → pfP o.1) := by
  unfold exergueref10_Parse
  refine Tot.bind (decode_tot (by rw [bytesI_len]; exact ht)) (fun d _ => Tot.ite (fun _ => Tot.ret (fun h => by cases h)) (fun _ => Tot.ite (fun _ => Tot.ret (fun h => by cases h)) (fun h1 => ?_)))
  have h1 := dFF h1
  have hl : d.1.length ≤ 10000 := by omega
  refine Tot.bind (first_tot hl) (fun f hf => ?_)
  refine Tot.bind (p := fun s => s.2.1 = true → s.2.2.2.2.2.2.2.2.2.1 ≤ s.2.2.2.2.2.2.2.2.2.2.1) ?_ (fun s hs => ?_)
  · refine Tot.bind (p := fun b => b = true → f.2.2.2.2 = true ∧ f.2.2.2.1 < d.1.length) ?_ (fun b hb => ?_)
    · refine Tot.ite (fun hq => ?_) (fun _ => Tot.ret (fun h => by cases h))
      rw [at_eq2 (hf hq).2.2.2.1]
      exact Tot.ret (fun h => ⟨hq, at_in (dTT h) (by omega)⟩)
    · refine Tot.ite (fun hq => ?_) (fun _ => Tot.ret (fun h => (hf h).1))
      obtain ⟨g1, g2⟩ := hb hq
      have g := hf g1
      have f1 : IntKind.wrap .i64 (f.2.2.2.1 + 1) = f.2.2.2.1 + 1 := w64 (by omega) (by omega)
      rw [f1]
      exact Tot.bind (second_tot hl (by omega) (by omega) g.2.1 g.2.2.1 g.1) (fun o ho => Tot.ret (fun _ => ho))
  · refine Tot.join (Tot.bind (p := fun b => b = false → s.2.1 = true) (Tot.ite (fun _ => Tot.ret (fun h => by cases h)) (fun h => Tot.ret (fun _ => by simpa using h))) (fun b hb => ?_))
    cases b with
    | true => exact Tot.ret (fun h => by cases h)
    | false =>
      have hs := hs (hb rfl)
      refine Tot.ret (show Tot _ _ from Tot.join (Tot.bind (p := fun _ => True) ?_ (fun b _ => ?_)))
      · repeat' (first | exact Tot.ret trivial | refine Tot.ite (fun _ => ?_) (fun _ => ?_))
      · cases b with
        | true => exact Tot.ret (fun h => by cases h)
        | false => exact Tot.ret (Tot.ret (fun _ => hs))
theorem toks_tot {a b : List St108} (ha : a.length ≤ 1000) : Tot (exergueref10_Toks a b) (fun _ => True) := by
  unfold exergueref10_Toks
  refine Tot.ite (fun _ => Tot.ret trivial) (fun hh => ?_)
  have hh : (a.length : Int) = b.length := by have := dFF hh; omega
  refine Tot.join (Tot.loop (fun s : Int => 0 ≤ s ∧ s ≤ (a.length : Int)) (fun s => ((a.length : Int) - s).toNat) ⟨by omega, by omega⟩ (by omega) (fun s hs => ?_))
  refine Tot.ite (fun hq => ?_) (fun _ => Tot.ret (Tot.ret trivial))
  have hq := dTT hq
  have f1 : IntKind.wrap .i64 (s + 1) = s + 1 := w64 (by omega) (by omega)
  rw [f1]
  exact Tot.yes (inR_int hs.1 hq) (Tot.yes (inR_int hs.1 (by omega)) (Tot.ite (fun _ => Tot.ret trivial) (fun _ => Tot.ret ⟨⟨by omega, by omega⟩, by omega⟩)))
theorem psame_tot {p q : St25} (h1 : p.Pre_.length ≤ 300) (h2 : p.Suf_.length ≤ 300) (h3 : p.NPre_.length ≤ 300) (h4 : p.NSuf_.length ≤ 300) : Tot (exergueref10_Same p q) (fun b => b = true → p.MinFrac_ = q.MinFrac_ ∧ p.MaxFrac_ = q.MaxFrac_) := by
  unfold exergueref10_Same
  refine Tot.bind (p := fun _ => True) (Tot.bind (toks_tot (by omega)) (fun _ _ => Tot.ite (fun _ => Tot.bind (toks_tot (by omega)) (fun _ _ => Tot.ret trivial)) (fun _ => Tot.ret trivial))) (fun x _ => ?_)
  refine Tot.bind (p := fun _ => True) (Tot.bind (toks_tot (by omega)) (fun _ _ => Tot.ite (fun _ => Tot.bind (toks_tot (by omega)) (fun _ _ => Tot.ret trivial)) (fun _ => Tot.ret trivial))) (fun y _ => ?_)
  refine Tot.join (Tot.bind (p := fun _ => True) ?_ (fun b _ => ?_))
  · repeat' (first | exact Tot.ret trivial | refine Tot.ite (fun _ => ?_) (fun _ => ?_))
  · cases b with
    | true => exact Tot.ret (fun h => by cases h)
    | false =>
      refine Tot.ret (show Tot _ _ from Tot.bind (p := fun _ => True) ?_ (fun z _ => Tot.bind (p := fun b => b = true → p.MinFrac_ = q.MinFrac_ ∧ p.MaxFrac_ = q.MaxFrac_) ?_ (fun _ h => Tot.ret h)))
      · repeat' (first | exact Tot.ret trivial | refine Tot.ite (fun _ => ?_) (fun _ => ?_))
      · refine Tot.ite (fun _ => Tot.ite (fun e1 => Tot.ite (fun e2 => ?_) (fun _ => Tot.ret (fun h => by cases h))) (fun _ => Tot.ret (fun h => by cases h))) (fun _ => Tot.ret (fun h => by cases h))
        have g1 := dTT e1
        have g2 := dTT e2
        repeat' (first | exact Tot.ret (fun _ => ⟨g1, g2⟩) | refine Tot.ite (fun _ => ?_) (fun _ => ?_))
theorem runes_tot {l : List St108} (hl : l.length ≤ 1000) : Tot (exergueref10_runes l) (fun _ => True) := by
  unfold exergueref10_runes
  refine Tot.join (Tot.loop (fun s : Int => 0 ≤ s ∧ s ≤ (l.length : Int)) (fun s => ((l.length : Int) - s).toNat) ⟨by omega, by omega⟩ (by omega) (fun s hs => ?_))
  refine Tot.ite (fun hq => ?_) (fun _ => Tot.ret (Tot.ret trivial))
  have hq := dTT hq
  have f1 : IntKind.wrap .i64 (s + 1) = s + 1 := w64 (by omega) (by omega)
  rw [f1]
  exact Tot.yes (inR_int hs.1 hq) (Tot.bind (is_tot _) (fun _ _ => Tot.ite (fun _ => Tot.ret trivial) (fun _ => Tot.ret ⟨⟨by omega, by omega⟩, by omega⟩)))
theorem pright_tot {p : St25} (h1 : p.Pre_.length ≤ 300) (h2 : p.Suf_.length ≤ 300) (h3 : p.NPre_.length ≤ 300) (h4 : p.NSuf_.length ≤ 300) : Tot (exergueref10_Right p) (fun b => b = true → cntP p ∧ pfP p) := by
  unfold exergueref10_Right
  generalize hL : ([p.Hash_, p.MinInt_, p.MinFrac_, p.MaxFrac_, p.G1_, p.G2_, p.MinSig_, p.MaxSig_, p.Exp_] : List Int) = L
  have hlen : L.length = 9 := by rw [← hL]; rfl
  refine Tot.join (Tot.loop (fun s : Int => 0 ≤ s ∧ s ≤ (L.length : Int) ∧ ∀ j : Nat, (j : Int) < s → 0 ≤ nth L j ∧ nth L j ≤ 40) (fun s => ((L.length : Int) - s).toNat) ⟨by omega, by omega, fun j hj => by omega⟩ (by omega) (fun s hs => ?_))
  refine Tot.ite (fun hq => ?_) (fun hq => Tot.ret (show Tot _ _ from ?_))
  · have hq := dTT hq
    have hin := inR_int hs.1 hq
    refine Tot.join (Tot.bind (p := fun b => b = false → 0 ≤ nth L s ∧ nth L s ≤ 40) ?_ (fun b hb => ?_))
    · refine Tot.yes hin (Tot.yes hin (Tot.ite (fun _ => Tot.ret (fun h => by cases h)) (fun g1 => Tot.yes hin (Tot.yes hin (Tot.ret (fun g2 => ?_))))))
      have g1 := dFF g1
      have g2 := dFF g2
      omega
    · cases b with
      | true => exact Tot.ret (fun h => by cases h)
      | false =>
        have hb := hb rfl
        refine Tot.ret (show Tot _ _ from Tot.ret ?_)
        have f1 : IntKind.wrap .i64 (s + 1) = s + 1 := w64 (by omega) (by omega)
        rw [f1]
        refine ⟨⟨by omega, by omega, fun j hj => ?_⟩, by omega⟩
        by_cases hjs : (j : Int) < s
        · exact hs.2.2 j hjs
        · have : (j : Int) = s := by omega
          rw [this]; exact hb
  · have hq := dFF hq
    have hall := hs.2.2
    have hs9 : s = 9 := by omega
    subst hs9
    subst hL
    have hc : cntP p := ⟨hall 0 (by omega), hall 1 (by omega), hall 2 (by omega), hall 3 (by omega), hall 4 (by omega), hall 5 (by omega), hall 6 (by omega), hall 7 (by omega), hall 8 (by omega)⟩
    have r1 := runes_tot (l := p.Pre_) (by omega)
    have r2 := runes_tot (l := p.Suf_) (by omega)
    have r3 := runes_tot (l := p.NPre_) (by omega)
    have r4 := runes_tot (l := p.NSuf_) (by omega)
    refine Tot.bind (is_tot _) (fun _ _ => ?_)
    refine Tot.bind (p := fun _ => True) (Tot.bind r1 (fun _ _ => Tot.ite (fun _ => Tot.bind r2 (fun _ _ => Tot.ret trivial)) (fun _ => Tot.ret trivial))) (fun _ _ => ?_)
    refine Tot.bind (p := fun _ => True) (Tot.bind r3 (fun _ _ => Tot.ite (fun _ => Tot.bind r4 (fun _ _ => Tot.ret trivial)) (fun _ => Tot.ret trivial))) (fun _ _ => ?_)
    refine Tot.join (Tot.bind (p := fun _ => True) ?_ (fun b _ => ?_))
    · repeat' (first | exact Tot.ret trivial | refine Tot.ite (fun _ => ?_) (fun _ => ?_))
    · cases b with
      | true => exact Tot.ret (fun h => by cases h)
      | false =>
        refine Tot.ret (show Tot _ _ from Tot.bind (ptext_tot hc h1 h2 h3 h4) (fun t ht => Tot.bind (parse_tot (by omega)) (fun o ho => ?_)))
        refine Tot.bind (p := fun b => b = true → cntP p ∧ pfP p) (Tot.ite (fun g => Tot.bind (psame_tot h1 h2 h3 h4) (fun b hb => Tot.ret (fun e => ⟨hc, ?_⟩))) (fun _ => Tot.ret (fun h => by cases h))) (fun _ h => Tot.ret h)
        have := ho (dTT g)
        obtain ⟨e1, e2⟩ := hb e
        unfold pfP at *
        rw [e1, e2]; exact this
theorem of_tot {p : St25} {n : Int} (h1 : p.Pre_.length ≤ 140737488355328) (h2 : p.Suf_.length ≤ 140737488355328) (h3 : p.NPre_.length ≤ 140737488355328) (h4 : p.NSuf_.length ≤ 140737488355328) : Tot (exerguelaw17_of p n) (fun b => b = true → cntP p ∧ pfP p ∧ n ≤ 40) := by
  unfold exerguelaw17_of exergueref10_Few
  have e1 : IntKind.wrap .i64 ((p.Pre_.length : Int) + (p.Suf_.length : Int)) = p.Pre_.length + p.Suf_.length := w64 (by omega) (by omega)
  have e2 : IntKind.wrap .i64 ((p.Pre_.length : Int) + (p.Suf_.length : Int) + (p.NPre_.length : Int)) = p.Pre_.length + p.Suf_.length + p.NPre_.length := w64 (by omega) (by omega)
  have e3 : IntKind.wrap .i64 ((p.Pre_.length : Int) + (p.Suf_.length : Int) + (p.NPre_.length : Int) + (p.NSuf_.length : Int)) = p.Pre_.length + p.Suf_.length + p.NPre_.length + p.NSuf_.length := w64 (by omega) (by omega)
  rw [e1, e2, e3]
  refine Tot.bind (p := fun b => b = true → cntP p ∧ pfP p ∧ n ≤ 40) (Tot.bind (p := fun b => b = decide ((p.Pre_.length : Int) + p.Suf_.length + p.NPre_.length + p.NSuf_.length ≤ 300)) (Tot.ret rfl) (fun b hb => ?_)) (fun _ h => Tot.ret h)
  subst hb
  refine Tot.ite (fun hq => ?_) (fun _ => Tot.ret (fun h => by cases h))
  have hq := dTT hq
  exact Tot.bind (pright_tot (by omega) (by omega) (by omega) (by omega)) (fun b hb => Tot.ite (fun g => Tot.ret (fun e => ⟨(hb g).1, (hb g).2, dTT e⟩)) (fun _ => Tot.ret (fun h => by cases h)))

theorem up_get {l : List Nat} {i : Nat} (h : i < l.length) : nth (up l) (i : Int) = ((l.getD i 0 : Nat) : Int) := by
  rw [nth_nat (by rw [up_len]; exact h)]
  simp [up, List.getD_eq_getElem?_getD, List.getElem?_eq_getElem h]
/-- The figure at a place. -/
theorem fig_at {l : List Nat} {E p : Int} (h : rightP l E) (hp : -2900 ≤ p) (hp2 : p ≤ 100000) : magN l E / pw p % 10 = if E ≤ p ∧ p < E + l.length then l.getD (E + l.length - 1 - p).toNat 0 else 0 := by
  have hl := right_low h
  unfold magN
  by_cases h1 : E ≤ p
  · obtain ⟨n, rfl⟩ : ∃ n : Nat, p = E + n := ⟨(p - E).toNat, by omega⟩
    rw [pw_add n (by omega), Nat.mul_comm (pw E), Nat.mul_div_mul_right _ _ (pw_pos E), vN_digit l h.1 n]
    by_cases h2 : n < l.length
    · rw [if_pos h2, if_pos (by omega)]
      congr 1; omega
    · rw [if_neg h2, if_neg (by omega)]
  · rw [if_neg (by omega)]
    obtain ⟨n, hn⟩ : ∃ n : Nat, E = p + (n + 1 : Nat) := ⟨(E - p - 1).toNat, by omega⟩
    rw [hn, pw_add (n + 1) (by omega), Nat.pow_succ, ← Nat.mul_assoc, ← Nat.mul_assoc, Nat.mul_right_comm, Nat.mul_comm (vN l), Nat.mul_assoc, Nat.mul_assoc, Nat.mul_div_cancel_left _ (pw_pos p), ← Nat.mul_assoc, Nat.mul_right_comm]
    exact Nat.mul_mod_left _ _
theorem mag_eq {l : List Nat} {E : Int} {neg : Bool} (h : rightP l E) : dec_Mag ⟨neg, up l, E⟩ = some (if l = [] then 0 else E + l.length - 1) := by
  have hl := right_low h
  unfold dec_Mag dec_work__mag
  simp only [up_len]
  by_cases h0 : l = []
  · subst h0; simp
  · have : l.length ≠ 0 := fun e => h0 (List.eq_nil_of_length_eq_zero e)
    rw [dF (by omega), if_neg h0, w64 (n := E + (l.length : Int)) (by omega) (by omega), w64 (by omega) (by omega)]; rfl
theorem wmag_eq {l : List Nat} {E : Int} {neg : Bool} (h : rightP l E) : dec_work__mag ⟨⟨neg, up l, E⟩⟩ = some (if l = [] then 0 else E + l.length - 1) := by
  have := mag_eq (neg := neg) h
  unfold dec_Mag at this
  cases hm : dec_work__mag ⟨⟨neg, up l, E⟩⟩ with
  | none => rw [hm] at this; cases this
  | some v => rw [hm] at this; exact this
theorem at_eq {l : List Nat} {E p : Int} {neg : Bool} (h : rightP l E) (hp : -2900 ≤ p) (hp2 : p ≤ 100000) : dec_At ⟨neg, up l, E⟩ p = some ((magN l E / pw p % 10 : Nat) : Int) := by
  have hl := right_low h
  rw [fig_at h hp hp2]
  unfold dec_At
  rw [wmag_eq h]
  simp only
  by_cases h1 : p < E
  · rw [dT h1, if_neg (show ¬ (E ≤ p ∧ p < E + l.length) by omega)]; rfl
  · rw [dF h1]
    simp only [cond_false, Option.bind_some]
    by_cases h0 : l = []
    · have hE := h.2.1 h0
      subst h0
      rw [if_pos rfl, if_neg (show ¬ (E ≤ p ∧ p < E + (([] : List Nat).length : Nat)) by simp)]
      by_cases hp0 : p > 0
      · rw [dT hp0]; rfl
      · rw [dF hp0]
        have : p = 0 := by omega
        subst this
        rfl
    · rw [if_neg h0]
      by_cases h2 : p > E + l.length - 1
      · rw [dT h2, if_neg (show ¬ (E ≤ p ∧ p < E + l.length) by omega)]; rfl
      · have hpos : 0 < l.length := List.length_pos_iff.2 h0
        rw [dF h2, if_pos (show E ≤ p ∧ p < E + l.length by omega), w64 (by omega) (by omega)]
        simp only [cond_false, Option.bind_some, joinX]
        unfold dec_work__figure
        simp only [up_len]
        obtain ⟨i, hi⟩ : ∃ i : Nat, E + l.length - 1 - p = i := ⟨(E + l.length - 1 - p).toNat, by omega⟩
        have hil : i < l.length := by omega
        rw [hi, dF (by omega), dF (by omega), ← up_len l, inR_nat (by rw [up_len]; exact hil), up_get hil]
        simp [joinX]

theorem t_step {A : Nat} {p : Int} (hp : -3000 ≤ p) : A / pw p = 10 * (A / pw (p + 1)) + A / pw p % 10 := by
  rw [pw_succ hp, ← Nat.div_div_eq_div_mul]; omega
theorem mag_top {l : List Nat} {E : Int} (h : rightP l E) : magN l E / pw ((if l = [] then 0 else E + l.length - 1) + 1) = 0 := by
  have hl := right_low h
  apply Nat.div_eq_of_lt
  unfold magN
  by_cases h0 : l = []
  · subst h0; simp [vN]; exact pw_pos _
  · rw [if_neg h0]
    have e : E + (l.length : Int) - 1 + 1 = E + l.length := by omega
    rw [e, pw_add l.length (by omega), Nat.mul_comm (pw E)]
    exact (Nat.mul_lt_mul_right (pw_pos E)).2 (vN_lt h.1)
/-! How a number lies to the middle. -/
/-! What is right, found out. -/
theorem figures_eq {l : List Nat} (hd : digP l) (hl : l.length ≤ 100000) : dec_figures (up l) = some true := by
  unfold dec_figures
  rw [all_loop (fun c => decide (c > 9)) (up l) (by rw [up_len]; omega), if_pos]
  · rfl
  · rw [List.all_eq_true]
    intro c hc
    obtain ⟨x, hx, rfl⟩ := List.mem_map.1 hc
    have := hd x hx
    simp; omega
theorem up_head {x : Nat} {l : List Nat} : nth (up (x :: l)) 0 = x := rfl
theorem up_last {x : Nat} {l : List Nat} : nth (up (l ++ [x])) (l.length : Int) = x := by
  rw [up_append]; have := nth_mid (pre := up l) (suf := []) (x := (x : Int)); rw [up_len] at this; exact this
theorem right_eq {l : List Nat} {E : Int} {neg : Bool} (h : rightP l E) : dec_Right ⟨neg, up l, E⟩ = some true := by
  unfold dec_Right
  simp only [up_len]
  by_cases h0 : l = []
  · subst h0
    rw [dT (by simp)]
    simp [h.2.1 rfl]
  · obtain ⟨b1, b2, b3, b4, b5⟩ := h.2.2 h0
    have hpos : 0 < l.length := List.length_pos_iff.2 h0
    rw [dF (show ¬ (l.length : Int) = 0 by omega), dF (show ¬ (l.length : Int) > 1000 by omega), dF (show ¬ E < -1000 by omega), dF (show ¬ E > 1000 by omega)]
    have hin : inR 0 l.length = true := inR_int (by omega) (by omega)
    rw [hin, w64 (by omega) (by omega)]
    have hin2 : inR ((l.length : Int) - 1) l.length = true := inR_int (by omega) (by omega)
    rw [hin2]
    have hh : ¬ nth (up l) 0 = 0 := by
      cases l with
      | nil => exact absurd rfl h0
      | cons x l => rw [up_head]; intro e; apply b4; simp; omega
    have hll : ¬ nth (up l) ((l.length : Int) - 1) = 0 := by
      rcases List.eq_nil_or_concat l with h1 | ⟨p, c, h1⟩
      · exact absurd h1 h0
      · rw [List.concat_eq_append] at h1
        subst h1
        have e : (((p ++ [c]).length : Nat) : Int) - 1 = (p.length : Int) := by simp
        rw [e, up_last]
        intro e; apply b5; simp; omega
    rw [dT hh, dT hll, figures_eq h.1 (by omega)]
    rfl

/-- A whole number of figures, without the noughts around. -/
theorem strip : ∀ z : List Nat, ∃ a b core, z = List.replicate a 0 ++ core ++ List.replicate b 0 ∧ (core = [] → b = 0) ∧ core.head? ≠ some 0 ∧ core.getLast? ≠ some 0 := by
  have lead : ∀ z : List Nat, ∃ a c, z = List.replicate a 0 ++ c ∧ c.head? ≠ some 0 := by
    intro z
    induction z with
    | nil => exact ⟨0, [], rfl, by simp⟩
    | cons x z ih =>
      by_cases hx : x = 0
      · obtain ⟨a, c, h1, h2⟩ := ih
        exact ⟨a + 1, c, by rw [hx, h1, List.replicate_succ]; rfl, h2⟩
      · exact ⟨0, x :: z, rfl, by simpa using hx⟩
  have trail : ∀ c : List Nat, c.head? ≠ some 0 → ∃ b core, c = core ++ List.replicate b 0 ∧ (core = [] → b = 0) ∧ core.head? ≠ some 0 ∧ core.getLast? ≠ some 0 := by
    refine nsnoc_ind (fun h => ⟨0, [], rfl, fun _ => rfl, h, by simp⟩) (fun l x ih h => ?_)
    by_cases hx : x = 0
    · subst hx
      have hl : l ≠ [] := fun e => h (by rw [e]; rfl)
      obtain ⟨b, core, h1, h2, h3, h4⟩ := ih (by cases l with | nil => exact absurd rfl hl | cons y l => simpa using h)
      refine ⟨b + 1, core, by rw [h1, List.append_assoc]; congr 1; rw [List.replicate_succ'], fun e => ?_, h3, h4⟩
      have := h2 e
      subst this; subst e
      exact absurd h1 hl
    · exact ⟨0, l ++ [x], by simp, by simp, h, by simpa using hx⟩
  intro z
  obtain ⟨a, c, h1, h2⟩ := lead z
  obtain ⟨b, core, h3, h4, h5, h6⟩ := trail c h2
  exact ⟨a, b, core, by rw [h1, h3, List.append_assoc], h4, h5, h6⟩
theorem norm_from {z : List Nat} {a : Nat} {c : List Nat} (hz : z = List.replicate a 0 ++ c) (hc : c.head? ≠ some 0) (hl : z.length ≤ 100000) :
    loopN (fun (s179 : Int) => (Option.bind (Option.bind (bif (decide (s179 < ((up z).length : Int))) then (bif inR s179 (up z).length then (some ((decide ((nth (up z) s179) = 0)))) else none) else (some false)) fun (s296 : Bool) => (bif s296 then (some (.inl ())) else (some (.inr (.inr s179))))) (joinX fun (s287 : Unit) => (some (.inl (IntKind.wrap .i64 (s179 + 1))))))) big 0 = some (a : Int) := by
  have hza : z.length = a + c.length := by rw [hz]; simp
  obtain ⟨o, h1, h2⟩ := loop_count (step := (fun (s179 : Int) => (Option.bind (Option.bind (bif (decide (s179 < ((up z).length : Int))) then (bif inR s179 (up z).length then (some ((decide ((nth (up z) s179) = 0)))) else none) else (some false)) fun (s296 : Bool) => (bif s296 then (some (.inl ())) else (some (.inr (.inr s179))))) (joinX fun (s287 : Unit) => (some (.inl (IntKind.wrap .i64 (s179 + 1)))))))) a (fun i => (i : Int)) (fun _ => True) (fun o => o = (a : Int)) (s0 := 0) rfl trivial (fun i hi _ => by
      left
      refine ⟨?_, trivial⟩
      have hn : nth (up z) (i : Int) = 0 := by
        rw [up_get (by omega), hz, List.getD_eq_getElem?_getD, List.getElem?_append_left (by simpa using hi)]
        simp [hi]
      simp only [up_len]
      rw [dT (by omega), inR_nat (by omega), hn, w64 (by omega) (by omega)]; rfl) (fun _ => by
      refine ⟨_, ?_, rfl⟩
      simp only [up_len]
      cases c with
      | nil => rw [dF (by simp at hza; omega)]; rfl
      | cons x c =>
        have hx : x ≠ 0 := fun e => hc (by rw [e]; rfl)
        have hn : nth (up z) (a : Int) = x := by
          rw [up_get (by simp at hza; omega), hz, List.getD_eq_getElem?_getD, List.getElem?_append_right (by simp)]
          simp
        rw [dT (by simp at hza; omega), inR_nat (by simp at hza; omega), hn]
        simp [hx, joinX]) (by omega)
  rw [h1, h2]
theorem norm_to {z : List Nat} {b f : Nat} {c : List Nat} (hz : z = c ++ List.replicate b 0) (hf : f ≤ c.length) (hc : f < c.length → c.getLast? ≠ some 0) (hb : c.length = f → b = 0) (hl : z.length ≤ 100000) :
    loopN (fun (s448 : Int) => (Option.bind (Option.bind (bif (decide ((f : Int) < s448)) then (bif inR (IntKind.wrap .i64 (s448 - 1)) (up z).length then (some ((decide (((nth (up z) (IntKind.wrap .i64 (s448 - 1)))) = 0)))) else none) else (some false)) fun (s565 : Bool) => (bif s565 then (some (.inl ())) else (some (.inr (.inr s448))))) (joinX fun (s556 : Unit) => (some (.inl (IntKind.wrap .i64 (s448 - 1))))))) big ((up z).length : Int) = some (c.length : Int) := by
  have hza : z.length = c.length + b := by rw [hz]; simp
  obtain ⟨o, h1, h2⟩ := loop_count (step := (fun (s448 : Int) => (Option.bind (Option.bind (bif (decide ((f : Int) < s448)) then (bif inR (IntKind.wrap .i64 (s448 - 1)) (up z).length then (some ((decide (((nth (up z) (IntKind.wrap .i64 (s448 - 1)))) = 0)))) else none) else (some false)) fun (s565 : Bool) => (bif s565 then (some (.inl ())) else (some (.inr (.inr s448))))) (joinX fun (s556 : Unit) => (some (.inl (IntKind.wrap .i64 (s448 - 1)))))))) b (fun i => (z.length : Int) - i) (fun _ => True) (fun o => o = (c.length : Int)) (s0 := ((up z).length : Int)) (by rw [up_len]; simp) trivial (fun i hi _ => by
      left
      refine ⟨?_, trivial⟩
      simp only [up_len]
      have hfc : f < c.length := by have := hb; omega
      obtain ⟨j, hj⟩ : ∃ j : Nat, (z.length : Int) - i - 1 = j := ⟨z.length - i - 1, by omega⟩
      have hn : nth (up z) (j : Int) = 0 := by
        rw [up_get (by omega), hz, List.getD_eq_getElem?_getD, List.getElem?_append_right (by omega)]
        rw [List.getElem?_replicate, if_pos (by omega)]; rfl
      rw [dT (by omega), w64 (by omega) (by omega), hj, inR_nat (by omega), hn]
      simp [joinX]; omega) (fun _ => by
      refine ⟨_, ?_, rfl⟩
      simp only [up_len]
      have e : (z.length : Int) - b = c.length := by omega
      rw [e]
      by_cases hfc : f < c.length
      · have hne := hc hfc
        rcases List.eq_nil_or_concat c with g | ⟨p, x, g⟩
        · subst g; simp at hfc
        · rw [List.concat_eq_append] at g
          subst g
          have hx : x ≠ 0 := fun e => hne (by simp [e])
          have hn : nth (up z) (p.length : Int) = x := by
            rw [up_get (by simp at hza; omega), hz, List.getD_eq_getElem?_getD, List.append_assoc, List.getElem?_append_right (by simp)]
            simp
          have e2 : (((p ++ [x]).length : Nat) : Int) - 1 = p.length := by simp
          rw [dT (by omega), w64 (by omega) (by omega), e2, inR_nat (by simp at hza; omega), hn]
          simp [hx, joinX]
      · rw [dF (by omega)]; rfl) (by omega)
  rw [h1, h2]
/-! To round. -/
theorem shown_eq : exerguelaw17_shown = some true := by kernel_rfl

theorem rright_eq {l : List Nat} {E : Int} {neg : Bool} (hl : l.length ≤ 140737488355328) : ∃ b, exergueref05_Right ⟨neg, up l, E⟩ = some b ∧ (b = true ↔ rightP l E) := by
  unfold exergueref05_Right
  rw [all_loop (fun c => decide (c > 9)) (up l) (by rw [up_len]; omega)]
  simp only [up_len]
  have hall : (up l).all (fun c => !decide (c > 9)) = true ↔ digP l := by
    rw [List.all_eq_true]
    constructor
    · intro h x hx
      have := h (x : Int) (List.mem_map.2 ⟨x, hx, rfl⟩)
      simp at this; omega
    · intro h c hc
      obtain ⟨x, hx, rfl⟩ := List.mem_map.1 hc
      have := h x hx
      simp; omega
  by_cases hd : digP l
  · rw [if_pos (hall.2 hd)]
    simp only [Option.bind_some, joinX]
    by_cases h0 : l = []
    · subst h0
      refine ⟨decide (E = 0), rfl, ?_⟩
      rw [decide_eq_true_eq]
      exact ⟨fun h => ⟨hd, fun _ => h, fun h => absurd rfl h⟩, fun h => h.2.1 rfl⟩
    · have hpos : 0 < l.length := List.length_pos_iff.2 h0
      have hin : inR 0 l.length = true := inR_int (by omega) (by omega)
      have hin2 : inR ((l.length : Int) - 1) l.length = true := inR_int (by omega) (by omega)
      have hh : nth (up l) 0 > 0 ↔ l.head? ≠ some 0 := by
        cases l with
        | nil => exact absurd rfl h0
        | cons x l => rw [up_head]; simp; omega
      have hll : nth (up l) ((l.length : Int) - 1) > 0 ↔ l.getLast? ≠ some 0 := by
        rcases List.eq_nil_or_concat l with h1 | ⟨p, c, h1⟩
        · exact absurd h1 h0
        · rw [List.concat_eq_append] at h1
          subst h1
          have e : (((p ++ [c]).length : Nat) : Int) - 1 = (p.length : Int) := by simp
          rw [e, up_last]; simp; omega
      rw [dF (show ¬ (l.length : Int) = 0 by omega), hin, w64 (by omega) (by omega), hin2]
      simp only [cond_false, cond_true]
      by_cases c1 : (l.length : Int) ≤ 1000
      · by_cases c2 : nth (up l) 0 > 0
        · by_cases c3 : nth (up l) ((l.length : Int) - 1) > 0
          · by_cases c4 : E ≥ -1000
            · refine ⟨decide (E ≤ 1000), by rw [dT c1, dT c2, dT c3, dT c4]; rfl, ?_⟩
              rw [decide_eq_true_eq]
              exact ⟨fun h => ⟨hd, fun h => absurd h h0, fun _ => ⟨by omega, c4, h, hh.1 c2, hll.1 c3⟩⟩, fun h => (h.2.2 h0).2.2.1⟩
            · exact ⟨false, by rw [dT c1, dT c2, dT c3, dF c4]; rfl, ⟨fun h => (by cases h), fun h => absurd (h.2.2 h0).2.1 c4⟩⟩
          · exact ⟨false, by rw [dT c1, dT c2, dF c3]; rfl, ⟨fun h => (by cases h), fun h => absurd (hll.2 (h.2.2 h0).2.2.2.2) c3⟩⟩
        · exact ⟨false, by rw [dT c1, dF c2]; rfl, ⟨fun h => (by cases h), fun h => absurd (hh.2 (h.2.2 h0).2.2.2.1) c2⟩⟩
      · exact ⟨false, by rw [dF c1]; rfl, ⟨fun h => (by cases h), fun h => absurd (h.2.2 h0).1 (by omega)⟩⟩
  · rw [if_neg (fun h => hd (hall.1 h))]
    exact ⟨false, rfl, ⟨fun h => (by cases h), fun h => absurd h.1 hd⟩⟩
theorem rright_true {l : List Nat} {E : Int} {neg : Bool} (h : rightP l E) : exergueref05_Right ⟨neg, up l, E⟩ = some true := by
  have hl := right_low h
  obtain ⟨b, h1, h2⟩ := rright_eq (neg := neg) (E := E) (l := l) (by omega)
  rw [h1, h2.2 h]
/-- Are they the same? -/
theorem rsame_eq {l m : List Nat} {E G : Int} {n1 n2 : Bool} (h1 : rightP l E) (h2 : rightP m G) : exergueref05_Same ⟨n1, up l, E⟩ ⟨n2, up m, G⟩ = some (decide (n1 = n2) && decide (magN l E = magN m G)) := by
  have hl := right_low h1
  have hrow : exergueref01_Row (up l) (up m) = some (decide (up l = up m)) := row_eq (by rw [up_len]; omega)
  unfold exergueref05_Same
  rw [hrow]
  simp only [Option.bind_some]
  by_cases hm : magN l E = magN m G
  · obtain ⟨rfl, rfl⟩ := right_same h1 h2 hm
    rw [dT rfl, dT hm, dT rfl]
    cases n1 <;> cases n2 <;> rfl
  · rw [dF hm]
    by_cases he : l = m
    · subst he
      have hE : ¬ E = G := by rintro rfl; exact hm rfl
      rw [dF hE, dT rfl]
      cases n1 <;> cases n2 <;> rfl
    · rw [dF (fun e => he (up_inj e))]
      cases n1 <;> cases n2 <;> rfl

theorem mag_zero {l : List Nat} {E : Int} (h : rightP l E) : magN l E = 0 ↔ l = [] := by
  constructor
  · intro h0
    unfold magN at h0
    rcases Nat.mul_eq_zero.1 h0 with g | g
    · exact vN_zero g (right_head h)
    · have := pw_pos E; omega
  · rintro rfl; simp [magN, vN]
/-! What rounding keeps. -/
/-! Figures ahead of the point and behind. -/
def figs (A : Nat) (M : Int) : Nat → List Nat
  | 0 => []
  | i + 1 => figs A M i ++ [A / pw (M - i) % 10]
theorem figs_len (A : Nat) (M : Int) : ∀ n, (figs A M n).length = n
  | 0 => rfl
  | n + 1 => by simp [figs, figs_len A M n]
theorem figs_dig (A : Nat) (M : Int) : ∀ n, digP (figs A M n)
  | 0 => fun x hx => by cases hx
  | n + 1 => dig_append (figs_dig A M n) (fun x hx => by simp at hx; subst hx; omega)
theorem figs_val (A : Nat) (M : Int) : ∀ n : Nat, -3000 ≤ M - n → vN (figs A M n) = A / pw (M - n + 1) % 10 ^ n
  | 0, _ => by simp [figs, vN, Nat.mod_one]
  | n + 1, h => by
    have ih := figs_val A M n (by omega)
    have e : M - ((n + 1 : Nat) : Int) + 1 = M - n := by omega
    rw [figs, vN_snoc, ih, e]
    have ht := t_step (A := A) (p := M - n) (by omega)
    generalize A / pw (M - n) = T at *
    generalize A / pw (M - n + 1) = U at *
    have hp : 0 < 10 ^ n := Nat.pow_pos (by decide)
    rw [Nat.pow_succ, Nat.mul_comm (10 ^ n) 10, Nat.mod_mul]
    have : T / 10 = U := by omega
    rw [this]; omega
theorem down_eq {l : List Nat} {E : Int} {neg : Bool} {M : Int} {n : Nat} (h : rightP l E) (hM : -10 ≤ M) (hM2 : M ≤ 2000) (hn : n ≤ 2000) :
    shape_Figures_1_s0 M n neg (up l) E = some (up (figs (magN l E) M n)) := by
  unfold shape_Figures_1_s0
  refine bind_of (fun o => o = up (figs (magN l E) M n)) ?_ (fun o ho => by rw [ho])
  refine loop_count n (fun i => ((i : Int), up (figs (magN l E) M i))) (fun _ => True) _ rfl trivial (fun i hi _ => ?_) (fun _ => ?_) (by omega)
  · left
    refine ⟨?_, trivial⟩
    simp only
    rw [dT (by omega), w64 (n := M - i) (by omega) (by omega), at_eq h (by omega) (by omega), up_len, figs_len]
    simp only [Option.bind_some, cond_true]
    rw [room_of (by simp; omega), w64 (by omega) (by omega)]
    simp [figs, up]
  · refine ⟨_, ?_, rfl⟩
    simp only
    rw [dF (by omega)]; rfl
theorem count_eq {n : Int} (h : 0 ≤ n) (h2 : n ≤ 1000) : shape_count n = some n := by
  unfold shape_count maxI minI
  repeat' split
  all_goals (first | rfl | (congr 1; omega))
/-- A number without its power. -/
def bareE (p : St25) (l : List Nat) (E : Int) : Int := if p.Exp_ < 1 then E else if l = [] then E else -((l.length : Int) - 1)
def bareP (p : St25) (l : List Nat) (E : Int) : Int := if p.Exp_ < 1 then 0 else if l = [] then 0 else E + l.length - 1
def magE (l : List Nat) (E : Int) : Int := if l = [] then 0 else E + l.length - 1
def leastA (p : St25) : Int := if p.Exp_ < 1 ∧ p.MaxSig_ > 0 then 1 else p.MinInt_
def aheadV (p : St25) (l : List Nat) (E : Int) : Int := if l = [] then leastA p else max (leastA p) (magE l E + 1)
def leastB (p : St25) (n : Int) (l : List Nat) (E : Int) : Int := if p.Exp_ > 0 then p.MinFrac_ else if p.MaxSig_ > 0 then p.MinSig_ - 1 - magE l E else if n ≥ 0 then n else p.MinFrac_
def behindV (p : St25) (n : Int) (l : List Nat) (E : Int) : Int := max (max 0 (leastB p n l E)) (-E)
theorem ahead_eq {p : St25} {l : List Nat} {E : Int} {neg : Bool} (hp : cntP p) (h : rightP l E) : shape_ahead p ⟨neg, up l, E⟩ = some (aheadV p l E) := by
  have hl := right_low h
  obtain ⟨c1, c2, c3, c4, c5, c6, c7, c8, c9⟩ := hp
  unfold shape_ahead
  rw [count_eq c2.1 (by omega)]
  have hs : (Option.bind (Option.bind (bif (decide (p.Exp_ < 1)) then (some (decide (p.MaxSig_ > 0))) else (some false)) fun (s26 : Bool) => (bif s26 then (some 1) else (some p.MinInt_))) fun (s18 : Int) => (bif (decide (((up l).length : Int) = 0)) then (some s18) else (Option.bind (dec_Mag ⟨neg, up l, E⟩) fun y40 => (some (maxI s18 (IntKind.wrap .i64 (y40 + 1))))))) = (bif (decide (((up l).length : Int) = 0)) then (some (leastA p)) else (Option.bind (dec_Mag ⟨neg, up l, E⟩) fun y40 => (some (maxI (leastA p) (IntKind.wrap .i64 (y40 + 1)))))) := by
    unfold leastA
    by_cases h1 : p.Exp_ < 1
    · rw [dT h1]
      by_cases h2 : p.MaxSig_ > 0
      · rw [dT h2, if_pos ⟨h1, h2⟩]; rfl
      · rw [dF h2, if_neg (fun h => h2 h.2)]; rfl
    · rw [dF h1, if_neg (fun h => h1 h.1)]; rfl
  simp only [Option.bind_some]
  rw [hs, up_len, mag_eq h]
  unfold aheadV magE
  by_cases h0 : l = []
  · subst h0; simp
  · have : l.length ≠ 0 := fun e => h0 (List.eq_nil_of_length_eq_zero e)
    rw [dF (by omega), if_neg h0, if_neg h0]
    simp only [cond_false, Option.bind_some]
    rw [w64 (by omega) (by omega)]
    congr 1
    unfold maxI; split <;> omega
theorem behind_eq {p : St25} {n : Int} {l : List Nat} {E : Int} {neg : Bool} (hp : cntP p) (hn : n ≤ 40) (h : rightP l E) : shape_behind p n ⟨neg, up l, E⟩ = some (behindV p n l E) := by
  have hl := right_low h
  obtain ⟨c1, c2, c3, c4, c5, c6, c7, c8, c9⟩ := hp
  have hm : -3000 ≤ magE l E ∧ magE l E ≤ 3000 := by unfold magE; split <;> omega
  unfold shape_behind
  rw [count_eq c3.1 (by omega), count_eq c7.1 (by omega), mag_eq h]
  simp only [Option.bind_some]
  have hfin : ∀ s : Int, -5000 ≤ s → s ≤ 5000 → (some (maxI (maxI 0 s) (IntKind.wrap .i64 (0 - E))) : Option Int) = some (max (max 0 s) (-E)) := fun s h1 h2 => by
    rw [w64 (by omega) (by omega)]
    congr 1
    unfold maxI; repeat' split
    all_goals omega
  unfold behindV leastB
  by_cases h1 : p.Exp_ > 0
  · rw [dT h1, if_pos h1]
    exact hfin _ (by omega) (by omega)
  · rw [dF h1, if_neg h1]
    by_cases h2 : p.MaxSig_ > 0
    · rw [dT h2, if_pos h2]
      have e : IntKind.wrap .i64 (IntKind.wrap .i64 (p.MinSig_ - 1) - (if l = [] then 0 else E + l.length - 1)) = p.MinSig_ - 1 - magE l E := by
        show IntKind.wrap .i64 (IntKind.wrap .i64 (p.MinSig_ - 1) - magE l E) = _
        rw [w64 (n := p.MinSig_ - 1) (by omega) (by omega), w64 (by omega) (by omega)]
      simp only [cond_true, cond_false, Option.bind_some]
      rw [e]
      exact hfin _ (by omega) (by omega)
    · rw [dF h2, if_neg h2]
      by_cases h3 : n ≥ 0
      · rw [dT h3, if_pos h3, count_eq h3 (by omega)]
        exact hfin _ (by omega) (by omega)
      · rw [dF h3, if_neg h3]
        exact hfin _ (by omega) (by omega)
/-! Figures that tell a number. -/
theorem figs_split (A : Nat) : ∀ (a b : Nat), figs A ((a : Int) - 1) a ++ figs A (-1) b = figs A ((a : Int) - 1) (a + b)
  | a, 0 => by simp [figs]
  | a, b + 1 => by
    have ih := figs_split A a b
    show figs A (a - 1) a ++ (figs A (-1) b ++ [A / pw (-1 - b) % 10]) = figs A (a - 1) (a + b) ++ [A / pw (a - 1 - ((a + b : Nat) : Int)) % 10]
    have e : (a : Int) - 1 - ((a + b : Nat) : Int) = -1 - (b : Int) := by omega
    rw [← List.append_assoc, ih, e]
theorem mag_top2 {l : List Nat} {E M : Int} (h : rightP l E) (hM : magE l E < M) (hM2 : M ≤ 100000) : magN l E / pw M = 0 := by
  have := mag_top h
  have hl := right_low h
  have hm : -3000 ≤ magE l E := by unfold magE; split <;> omega
  have e : (if l = [] then 0 else E + (l.length : Int) - 1) = magE l E := rfl
  rw [e] at this
  apply Nat.div_eq_of_lt
  have h2 := (Nat.div_eq_zero_iff.1 this).resolve_left (by have := pw_pos (magE l E + 1); omega)
  exact Nat.lt_of_lt_of_le h2 (pw_le (by omega) (by omega))
theorem mag_mod {l : List Nat} {E q : Int} (h : rightP l E) (hq : -2900 ≤ q) (hE : q ≤ E) : magN l E % pw q = 0 := by
  have hl := right_low h
  obtain ⟨n, hn⟩ : ∃ n : Nat, E = q + n := ⟨(E - q).toNat, by omega⟩
  unfold magN
  rw [hn, pw_add n (by omega), Nat.mul_comm (pw q), ← Nat.mul_assoc]
  exact Nat.mul_mod_left _ _
theorem mag_zero' {l : List Nat} {E : Int} (h : l = []) : magN l E = 0 := by subst h; simp [magN, vN]
theorem shift_mag {c l : List Nat} {q E P : Int} (h : magN c q = magN l E) (h1 : -1500 ≤ q) (h2 : -1500 ≤ E) (h3 : -1400 ≤ P) : magN c (q + P) = magN l (E + P) := by
  unfold magN at *
  rcases Int.le_total 0 P with hp | hp
  · obtain ⟨k, rfl⟩ : ∃ k : Nat, P = k := ⟨P.toNat, by omega⟩
    rw [pw_add k (by omega), pw_add k (by omega), ← Nat.mul_assoc, ← Nat.mul_assoc, h]
  · obtain ⟨k, rfl⟩ : ∃ k : Nat, P = -(k : Int) := ⟨(-P).toNat, by omega⟩
    have h2 : vN c * pw (q + -(k : Int)) * 10 ^ k = vN l * pw (E + -(k : Int)) * 10 ^ k := by
      rw [Nat.mul_assoc, Nat.mul_assoc, ← pw_add k (by omega), ← pw_add k (by omega)]
      rw [show q + -(k : Int) + k = q by omega, show E + -(k : Int) + k = E by omega]
      exact h
    exact Nat.eq_of_mul_eq_mul_right (Nat.pow_pos (by decide)) h2

/-! What is written, piece by piece. -/
inductive It where
  | d (n : Nat)
  | g (r : Int)
def It.at (z : Int) : It → Int
  | .d n => z + n
  | .g r => r
def ren (z : Int) (l : List It) : List Int := l.map (It.at z)
theorem ren_len (z : Int) (l : List It) : (ren z l).length = l.length := by simp [ren]
theorem ren_append (z : Int) (l m : List It) : ren z (l ++ m) = ren z l ++ ren z m := by simp [ren]
def okI (S : List Int) : It → Prop
  | .d n => n ≤ 9
  | .g r => r ∈ S
def cutB (n g1 g2 : Int) : Bool := !(decide (g1 < 1) || decide (n < g1)) && (decide (n = g1) || (decide (g2 > 0) && decide (Int.tmod (n - g1) g2 = 0)))
theorem cut_eq {n g1 g2 : Int} (hn : 0 ≤ n) (hn2 : n ≤ 100000) (h1 : 0 ≤ g1 ∧ g1 ≤ 40) (h2 : 0 ≤ g2 ∧ g2 ≤ 40) : sym_cut n g1 g2 = some (cutB n g1 g2) := by
  unfold sym_cut cutB
  by_cases c1 : g1 < 1
  · rw [dT c1]; rfl
  · rw [dF c1]
    by_cases c2 : n < g1
    · rw [dT c2]; rfl
    · rw [dF c2]
      by_cases c3 : n = g1
      · rw [dT c3]; rfl
      · rw [dF c3]
        by_cases c4 : g2 > 0
        · have hz : nz g2 = true := by unfold nz; rw [dF (by omega)]; rfl
          rw [dT c4, hz, w64 (by omega) (by omega)]
          simp [joinX]
        · rw [dF c4]; rfl
/-- Figures, grouped, up to one. -/
def gpre (W : List Nat) (G g1 g2 : Int) : Nat → List It
  | 0 => []
  | i + 1 => gpre W G g1 g2 i ++ (if decide (i > 0) && cutB ((W.length : Int) - i) g1 g2 then [It.g G] else []) ++ [It.d (W.getD i 0)]
theorem gpre_len (W : List Nat) (G g1 g2 : Int) : ∀ i, (gpre W G g1 g2 i).length ≤ 2 * i
  | 0 => by simp [gpre]
  | i + 1 => by
    have := gpre_len W G g1 g2 i
    simp only [gpre, List.length_append, List.length_singleton]
    split <;> simp <;> omega
theorem gpre_ok {W : List Nat} {G g1 g2 : Int} {S : List Int} (hd : digP W) (hG : G ∈ S) : ∀ i, i ≤ W.length → ∀ x ∈ gpre W G g1 g2 i, okI S x
  | 0, _, x, hx => by cases hx
  | i + 1, hi, x, hx => by
    simp only [gpre, List.mem_append, List.mem_singleton] at hx
    rcases hx with (hx | hx) | hx
    · exact gpre_ok hd hG i (by omega) x hx
    · split at hx
      · simp at hx; subst hx; exact hG
      · cases hx
    · subst hx
      show W.getD i 0 ≤ 9
      rw [List.getD_eq_getElem?_getD, List.getElem?_eq_getElem (by omega)]
      exact hd _ (List.getElem_mem _)
def okZ (z : Int) : Prop := 0 ≤ z ∧ z ≤ 200000
theorem w32 {n : Int} (h1 : -2147483648 ≤ n) (h2 : n ≤ 2147483647) : IntKind.i32.wrap n = n := by
  unfold IntKind.wrap
  simp only [IntKind.signed, IntKind.bits, Bool.true_and, Bool.false_and, Bool.false_eq_true, if_false, decide_eq_true_eq]
  first | omega | (split <;> rename_i hc <;> simp at hc <;> omega)
theorem grouped_eq {s : St22} {W : List Nat} {g1 g2 : Int} (hz : okZ s.Zero_) (hd : digP W) (hl : W.length ≤ 20000) (h1 : 0 ≤ g1 ∧ g1 ≤ 40) (h2 : 0 ≤ g2 ∧ g2 ≤ 40) :
    sym_Grouped s (up W) g1 g2 = some (ren s.Zero_ (gpre W s.Group_ g1 g2 W.length)) := by
  unfold sym_Grouped
  refine bind_of (fun o => o = ren s.Zero_ (gpre W s.Group_ g1 g2 W.length)) ?_ (fun o ho => by rw [ho])
  refine loop_count W.length (fun i => ((i : Int), ren s.Zero_ (gpre W s.Group_ g1 g2 i))) (fun _ => True) _ rfl trivial (fun i hi _ => ?_) (fun _ => ?_) (by omega)
  · left
    refine ⟨?_, trivial⟩
    have hlen := gpre_len W s.Group_ g1 g2 i
    have hg : nth (up W) (i : Int) = ((W.getD i 0 : Nat) : Int) := up_get hi
    have h9 : W.getD i 0 ≤ 9 := by
      rw [List.getD_eq_getElem?_getD, List.getElem?_eq_getElem hi]
      exact hd _ (List.getElem_mem hi)
    obtain ⟨z1, z2⟩ := hz
    simp only [up_len]
    rw [dT (by omega), w64 (n := (W.length : Int) - i) (by omega) (by omega), cut_eq (by omega) (by omega) h1 h2, inR_nat hi, hg, w32 (n := ((W.getD i 0 : Nat) : Int)) (by omega) (by omega), w32 (by omega) (by omega), w64 (by omega) (by omega)]
    simp only [cond_true, Option.bind_some, ren_len]
    have e1 : (bif decide ((i : Int) > 0) then some (cutB ((W.length : Int) - i) g1 g2) else some false) = some (decide (i > 0) && cutB ((W.length : Int) - i) g1 g2) := by
      by_cases h : i > 0
      · rw [dT (show (i : Int) > 0 by omega), dT h]; rfl
      · rw [dF (show ¬ (i : Int) > 0 by omega), dF h]; rfl
    rw [e1]
    simp only [Option.bind_some]
    cases hc : (decide (i > 0) && cutB ((W.length : Int) - i) g1 g2) with
    | true =>
      simp only [cond_true]
      rw [room_of (by simp; omega)]
      simp only [cond_true, Option.bind_some]
      rw [room_of (by simp [ren_len]; omega)]
      simp [gpre, hc, ren, It.at]
    | false =>
      simp only [cond_false, Option.bind_some]
      rw [room_of (by simp [ren_len]; omega)]
      simp [gpre, hc, ren, It.at]
  · refine ⟨_, ?_, rfl⟩
    simp only [up_len]
    rw [dF (by omega)]; rfl
theorem digits_eq {s : St22} {W : List Nat} (hz : okZ s.Zero_) (hd : digP W) (hl : W.length ≤ 20000) : sym_Digits s (up W) = some (ren s.Zero_ (W.map It.d)) := by
  unfold sym_Digits
  refine bind_of (fun o => o = ren s.Zero_ (W.map It.d)) ?_ (fun o ho => by rw [ho])
  refine loop_count W.length (fun i => ((i : Int), ren s.Zero_ ((W.take i).map It.d))) (fun _ => True) _ rfl trivial (fun i hi _ => ?_) (fun _ => ?_) (by omega)
  · left
    refine ⟨?_, trivial⟩
    have hg : nth (up W) (i : Int) = ((W.getD i 0 : Nat) : Int) := up_get hi
    have h9 : W.getD i 0 ≤ 9 := by
      rw [List.getD_eq_getElem?_getD, List.getElem?_eq_getElem hi]
      exact hd _ (List.getElem_mem hi)
    obtain ⟨z1, z2⟩ := hz
    simp only [up_len]
    rw [dT (by omega), inR_nat hi, hg, w32 (n := ((W.getD i 0 : Nat) : Int)) (by omega) (by omega), w32 (by omega) (by omega), w64 (by omega) (by omega)]
    simp only [cond_true, ren_len]
    rw [room_of (by simp; omega)]
    simp only [cond_true, Option.some.injEq, Sum.inl.injEq, Prod.mk.injEq]
    refine ⟨by omega, ?_⟩
    rw [List.take_succ_eq_append_getElem hi, List.map_append, ren_append]
    congr 1
    simp [ren, It.at, List.getD_eq_getElem?_getD, List.getElem?_eq_getElem hi]
  · refine ⟨_, ?_, rfl⟩
    simp only [up_len]
    rw [dF (by omega), List.take_length]; rfl
theorem spell_eq : ∀ (k f n : Nat) (least : Int), n < 10 ^ k → least ≤ k → k < f → k ≤ 1000 → n ≤ 1000000 → -5000 ≤ least - k → ∃ m, shape_spell f (n : Int) least = some (up m) ∧ digP m ∧ m.length ≤ k ∧ vN m = n ∧ least ≤ m.length ∧ (0 < n → 0 < m.length)
  | 0, f + 1, n, least, hn, hl, _, _, _, _ => by
    have h0 : n = 0 := by simpa using hn
    subst h0
    rw [shape_spell.eq_2]
    refine ⟨[], ?_, (fun x hx => by cases hx), by simp, rfl, by simpa using hl, by omega⟩
    rw [dT (show ((0 : Nat) : Int) = 0 from rfl), dT (show least < 1 by simp at hl; omega)]; rfl
  | k + 1, f + 1, n, least, hn, hl, hf, hk, hn2, hl2 => by
    rw [shape_spell.eq_2]
    by_cases hz : n = 0 ∧ least < 1
    · obtain ⟨h0, h1⟩ := hz
      subst h0
      refine ⟨[], ?_, (fun x hx => by cases hx), by simp, rfl, by simp; omega, by omega⟩
      rw [dT (show ((0 : Nat) : Int) = 0 from rfl), dT h1]; rfl
    · obtain ⟨m, g1, g2, g3, g4, g5, g6⟩ := spell_eq k f (n / 10) (least - 1) (by rw [Nat.pow_succ] at hn; omega) (by omega) (by omega) (by omega) (by omega) (by omega)
      have e1 : IntKind.wrap .i64 (Int.tdiv (n : Int) 10) = ((n / 10 : Nat) : Int) := by
        have : Int.tdiv (n : Int) 10 = ((n / 10 : Nat) : Int) := (Int.ofNat_tdiv _ _).symm
        rw [this, w64 (by omega) (by omega)]
      have e2 : IntKind.wrap .u8 (Int.tmod (n : Int) 10) = ((n % 10 : Nat) : Int) := by
        have : Int.tmod (n : Int) 10 = ((n % 10 : Nat) : Int) := (Int.ofNat_tmod _ _).symm
        rw [this, u8m]; omega
      refine ⟨m ++ [n % 10], ?_, dig_append g2 (fun x hx => by simp at hx; omega), by simp; omega, by rw [vN_snoc, g4]; omega, by simp; omega, fun _ => by simp⟩
      have hb : (Option.bind (bif (decide ((n : Int) = 0)) then (some (decide (least < 1))) else (some false)) fun (s24 : Bool) => (bif s24 then (some (.inr ([] : List Int))) else (some (.inl ())))) = (some (.inl ()) : Option (Unit ⊕ List Int)) := by
        by_cases h0 : n = 0
        · rw [dT (show (n : Int) = 0 by omega), dF (show ¬ least < 1 from fun h => hz ⟨h0, h⟩)]; rfl
        · rw [dF (show ¬ (n : Int) = 0 by omega)]; rfl
      rw [hb]
      simp only [Option.bind_some, joinX]
      rw [e1, w64 (by omega) (by omega), g1, e2]
      simp only [Option.bind_some]
      rw [room_of (by simp [up_len]; omega), up_append]; rfl
/-- A power, written. -/
theorem exponent_eq {p : St25} {pw' : Int} (hc : cntP p) (h1 : -100000 ≤ pw') (h2 : pw' ≤ 100000) : ∃ (neg' : Bool) (m : List Nat), digP m ∧ m.length ≤ 40 ∧ vN m = pw'.natAbs ∧ neg' = decide (pw' < 0) ∧ p.Exp_ ≤ m.length ∧ (p.Exp_ = 0 ∨ 0 < m.length) ∧
    ∀ (s : St22), okZ s.Zero_ → shape_exponent s p pw' = some (ren s.Zero_ ((if neg' = true then [It.g s.Minus_] else if p.ExpPlus_ = true then [It.g s.Plus_] else []) ++ m.map It.d)) := by
  have c9 : 0 ≤ p.Exp_ ∧ p.Exp_ ≤ 40 := hc.2.2.2.2.2.2.2.2
  obtain ⟨k, hk⟩ : ∃ k : Nat, k = pw'.natAbs := ⟨_, rfl⟩
  have hk40 : k < 10 ^ 40 := by
    have h : (100001 : Nat) < 10 ^ 40 := by decide
    omega
  obtain ⟨m, g1, g2, g3, g4, g5, g6⟩ := spell_eq 40 big k p.Exp_ hk40 (by omega) (by decide) (by omega) (by omega) (by omega)
  refine ⟨decide (pw' < 0), m, g2, g3, by rw [g4, hk], rfl, g5, by omega, fun s hs => ?_⟩
  have hdig := digits_eq (s := s) hs g2 (by omega)
  unfold shape_exponent
  rw [count_eq c9.1 (by omega)]
  have fin : ∀ (o : List It), o.length ≤ 1 → (Option.bind (some ((k : Int), ren s.Zero_ o)) fun (s9 : Int × (List Int)) => (Option.bind (some p.Exp_) fun y22 => (Option.bind (shape_spell big s9.1 y22) fun y25 => (Option.bind (sym_Digits s y25) fun y28 => (bif room (s9.2.length + y28.length) then (some (s9.2 ++ y28)) else none))))) = some (ren s.Zero_ (o ++ m.map It.d)) := fun o ho => by
    simp only [Option.bind_some]
    rw [g1]
    simp only [Option.bind_some]
    rw [hdig]
    simp only [Option.bind_some, ren_len, List.length_map]
    rw [room_of (by omega), ren_append]; rfl
  by_cases hn : pw' < 0
  · rw [dT hn]
    have e : IntKind.wrap .i64 (0 - pw') = (k : Int) := by rw [w64 (by omega) (by omega)]; omega
    rw [e, room_of (by simp)]
    exact fin [It.g s.Minus_] (by simp)
  · rw [dF hn]
    have e : pw' = (k : Int) := by omega
    rw [← e] at fin
    cases hp : p.ExpPlus_ with
    | true =>
      rw [room_of (by simp)]
      exact fin [It.g s.Plus_] (by simp)
    | false => exact fin [] (by simp)
/-! Signs that are good. -/
def ZS : List Int := [48, 1632, 1776, 1984, 2406, 2534, 2662, 2790, 2918, 3046, 3174, 3302, 3430, 3664, 3792, 3872, 6112, 6160, 65296, 120782]
theorem digits_of : (ZS.all fun z => (List.range 10).all fun k => decide (exergueref02_Of (z + k) = some 5)) = true := by kernel_rfl
theorem digit_of {z r : Int} (hz : z ∈ ZS) (h1 : z ≤ r) (h2 : r ≤ z + 9) : exergueref02_Of r = some 5 := by
  have h := List.all_eq_true.1 (List.all_eq_true.1 digits_of z hz) (r - z).toNat (List.mem_range.2 (by omega))
  have := of_decide_eq_true h
  rwa [show z + ((r - z).toNat : Int) = r by omega] at this
theorem zs_ok {z : Int} (h : z ∈ ZS) : okZ z := by
  have : (ZS.all fun z => decide (0 ≤ z) && decide (z ≤ 200000)) = true := by decide
  have := List.all_eq_true.1 this z h
  simp at this
  exact this
def plainP (r : Int) : Prop := exergueref02_Of r = some 0 ∨ exergueref02_Of r = some 4
theorem plain_apart {z r : Int} (hz : z ∈ ZS) (h : plainP r) : ¬ (z ≤ r ∧ r ≤ z + 9) := fun ⟨h1, h2⟩ => by
  have := digit_of hz h1 h2
  rcases h with h | h <;> rw [this] at h <;> simp at h
def six (s : St22) : List Int := [s.Dec_, s.Group_, s.Minus_, s.Plus_, s.Percent_, s.Exp_]
def goodP (s : St22) : Prop := s.Zero_ ∈ ZS ∧ (∀ j : Nat, j < 6 → plainP (nth (six s) j)) ∧ ∀ i j : Nat, j < i → i < 6 → nth (six s) j ≠ nth (six s) i
theorem of2_tot (r : Int) : Tot (exergueref02_Of r) (fun _ => True) := by
  unfold exergueref02_Of
  refine Tot.bind (is_tot _) (fun a _ => Tot.bind (p := fun _ => True) ?_ (fun b _ => Tot.bind (p := fun _ => True) ?_ (fun c _ => Tot.bind (p := fun _ => True) ?_ (fun d _ => ?_))))
  · unfold exergueref02_turning
    refine Tot.bind (p := fun _ => True) ?_ (fun _ _ => Tot.ret trivial)
    repeat' (first | exact Tot.ret trivial | refine Tot.ite (fun _ => ?_) (fun _ => ?_))
  · unfold exergueref02_blank
    refine Tot.bind (p := fun _ => True) ?_ (fun _ _ => Tot.ret trivial)
    repeat' (first | exact Tot.ret trivial | refine Tot.ite (fun _ => ?_) (fun _ => ?_))
  · unfold exergueref02_Value exergueref02_noughts
    refine Tot.bind (p := fun y => y.length = 20) (Tot.ret rfl) (fun y hy => ?_)
    refine Tot.join (Tot.loop (fun s : Int => 0 ≤ s ∧ s ≤ 20) (fun s => (20 - s).toNat) ⟨by omega, by omega⟩ (by omega) (fun s hs => ?_))
    rw [hy]
    refine Tot.ite (fun hq => ?_) (fun _ => Tot.ret (Tot.ret trivial))
    have hq := dTT hq
    refine Tot.join (Tot.mono (p := fun x => x = .inl () ∨ ∃ z, x = .inr (.inr (.inr z))) (Tot.loop (fun t : Int => 0 ≤ t ∧ t ≤ 10) (fun t => (10 - t).toNat) ⟨by omega, by omega⟩ (by omega) (fun t ht => ?_)) (fun x hx => ?_))
    · refine Tot.ite (fun hh => ?_) (fun _ => Tot.ret (.inl rfl))
      have hh := dTT hh
      refine Tot.yes (inR_int hs.1 (by omega)) (Tot.ite (fun _ => Tot.ret (.inr ⟨_, rfl⟩)) (fun _ => Tot.ret ?_))
      rw [w64 (n := t + 1) (by omega) (by omega)]
      exact ⟨⟨by omega, by omega⟩, by omega⟩
    · rcases hx with rfl | ⟨z, rfl⟩
      · refine Tot.ret ?_
        rw [w64 (n := s + 1) (by omega) (by omega)]
        exact ⟨⟨by omega, by omega⟩, by omega⟩
      · exact trivial
  · repeat' (first | exact Tot.ret trivial | refine Tot.ite (fun _ => ?_) (fun _ => ?_) | refine Tot.join (Tot.bind (p := fun _ => True) ?_ (fun _ _ => ?_)) | refine Tot.ret (show Tot _ _ from ?_))
theorem zero_tot (z : Int) : Tot (exergueref02_Zero z) (fun b => b = true → z ∈ ZS) := by
  unfold exergueref02_Zero exergueref02_noughts
  refine Tot.bind (p := fun y => y = ZS) (Tot.ret rfl) (fun y hy => ?_)
  subst hy
  have hlen : ZS.length = 20 := rfl
  refine Tot.join (Tot.loop (fun s : Int => 0 ≤ s ∧ s ≤ 20) (fun s => (20 - s).toNat) ⟨by omega, by omega⟩ (by omega) (fun s hs => ?_))
  rw [hlen]
  refine Tot.ite (fun hq => ?_) (fun _ => Tot.ret (Tot.ret (fun h => by cases h)))
  have hq := dTT hq
  refine Tot.yes (inR_int hs.1 (by omega)) (Tot.ite (fun he => Tot.ret (fun _ => ?_)) (fun _ => Tot.ret ?_))
  · have he := dTT he
    rw [← he]
    obtain ⟨j, rfl⟩ : ∃ j : Nat, s = j := ⟨s.toNat, by omega⟩
    rw [nth_nat (by rw [hlen]; omega)]
    exact List.getElem_mem _
  · rw [w64 (by omega) (by omega)]
    exact ⟨⟨by omega, by omega⟩, by omega⟩
theorem good_tot (s : St22) : Tot (exergueref13_Good s) (fun b => b = true → goodP s) := by
  unfold exergueref13_Good
  have hL : ([s.Dec_, s.Group_, s.Minus_, s.Plus_, s.Percent_, s.Exp_] : List Int) = six s := rfl
  rw [hL]
  have hlen : (six s).length = 6 := rfl
  refine Tot.join (Tot.loop (fun i : Int => 0 ≤ i ∧ i ≤ 6 ∧ ∀ q : Nat, (q : Int) < i → plainP (nth (six s) q) ∧ ∀ j : Nat, j < q → nth (six s) j ≠ nth (six s) q) (fun i => (6 - i).toNat) ⟨by omega, by omega, fun q hq => by omega⟩ (by omega) (fun i hi => ?_))
  rw [hlen]
  refine Tot.ite (fun hq => ?_) (fun hq => Tot.ret (show Tot _ _ from ?_))
  · have hq := dTT hq
    obtain ⟨n, rfl⟩ : ∃ n : Nat, i = n := ⟨i.toNat, by omega⟩
    refine Tot.join (Tot.yes (inR_int hi.1 (by omega)) (Tot.yes (inR_int hi.1 (by omega)) ?_))
    obtain ⟨v, hv, _⟩ := of2_tot (nth (six s) n)
    rw [hv]
    show Tot (Option.bind (Option.bind _ _) _) _
    refine Tot.join (Tot.bind (p := fun b => b = false → plainP (nth (six s) n)) ?_ (fun b hb => ?_))
    · refine Tot.ite (fun h1 => Tot.ret (fun h2 => .inr ?_)) (fun h1 => Tot.ret (fun _ => .inl ?_))
      · have := dFF h2
        rw [hv]; congr 1; omega
      · have := dFF h1
        rw [hv]; congr 1; omega
    · cases b with
      | true => exact Tot.ret (show _ from fun h => by cases h)
      | false =>
        have hp := hb rfl
        refine Tot.ret (show Tot _ _ from Tot.mono (p := fun x => (x = .inl () ∧ ∀ j : Nat, j < n → nth (six s) j ≠ nth (six s) n) ∨ x = .inr (.inr (.inr false))) (Tot.loop (fun t : Int => 0 ≤ t ∧ t ≤ n ∧ ∀ j : Nat, (j : Int) < t → nth (six s) j ≠ nth (six s) n) (fun t => ((n : Int) - t).toNat) ⟨by omega, by omega, fun j hj => by omega⟩ (by omega) (fun t ht => ?_)) (fun x hx => ?_))
        · refine Tot.ite (fun hh => ?_) (fun hh => Tot.ret (.inl ⟨rfl, fun j hj => ht.2.2 j (by have := dFF hh; omega)⟩))
          have hh := dTT hh
          refine Tot.yes (inR_int ht.1 (by omega)) (Tot.yes (inR_int ht.1 (by omega)) (Tot.yes (inR_int hi.1 (by omega)) (Tot.yes (inR_int hi.1 (by omega)) (Tot.ite (fun _ => Tot.ret (.inr rfl)) (fun he => Tot.ret ?_)))))
          have he := dFF he
          rw [w64 (n := t + 1) (by omega) (by omega)]
          refine ⟨⟨by omega, by omega, fun j hj => ?_⟩, by omega⟩
          by_cases hjt : (j : Int) < t
          · exact ht.2.2 j hjt
          · have : (j : Int) = t := by omega
            rw [this]; exact he
        · rcases hx with ⟨rfl, hx⟩ | rfl
          · refine Tot.ret ?_
            rw [w64 (n := (n : Int) + 1) (by omega) (by omega)]
            refine ⟨⟨by omega, by omega, fun q hq2 => ?_⟩, by omega⟩
            by_cases hqn : (q : Int) < n
            · exact hi.2.2 q hqn
            · have : q = n := by omega
              subst this; exact ⟨hp, hx⟩
          · exact (fun h => by cases h)
  · have hq := dFF hq
    refine Tot.bind (zero_tot _) (fun b hb => Tot.ret (fun h => ⟨hb h, fun j hj => (hi.2.2 j (by omega)).1, fun i2 j hji hi6 => (hi.2.2 i2 (by omega)).2 j hji⟩))
theorem good_in {s : St22} (h : goodP s) {r : Int} (hr : r ∈ six s) : plainP r := by
  obtain ⟨j, hj, rfl⟩ := List.mem_iff_getElem.1 hr
  have := h.2.1 j hj
  rwa [nth_nat hj] at this
/-- The worth of a digit, as the document has it. -/
theorem rvalue_eq {s : St22} {r : Int} (hz : okZ s.Zero_) (hr : -2147483648 ≤ r ∧ r ≤ 2147483647) : exergueref13_Value s r = some (if s.Zero_ ≤ r ∧ r ≤ s.Zero_ + 9 then (r - s.Zero_, true) else (0, false)) := by
  obtain ⟨z1, z2⟩ := hz
  unfold exergueref13_Value
  rw [w64 (n := s.Zero_) (by omega) (by omega), w64 (n := r) (by omega) (by omega)]
  refine bind_of (fun o => joinX (fun (s37 : Unit) => (some ((0 : Int), false))) o = some (if s.Zero_ ≤ r ∧ r ≤ s.Zero_ + 9 then (r - s.Zero_, true) else (0, false))) ?_ (fun o ho => ho)
  refine loop_count 10 (fun i => (i : Int)) (fun i => ¬ (s.Zero_ ≤ r ∧ r < s.Zero_ + i)) _ rfl (by omega) (fun i hi hI => ?_) (fun hI => ?_) (by omega)
  · rw [dT (show (i : Int) < 10 by omega), w64 (n := s.Zero_ + i) (by omega) (by omega)]
    by_cases he : s.Zero_ + i = r
    · right
      refine ⟨_, by rw [dT he]; rfl, ?_⟩
      rw [if_pos (by omega), u8m]
      show some _ = some _
      congr 2
      omega
    · left
      refine ⟨by rw [dF he, w64 (by omega) (by omega)]; rfl, by omega⟩
  · refine ⟨_, by rw [dF (show ¬ ((10 : Nat) : Int) < 10 by omega)]; rfl, ?_⟩
    rw [if_neg (by omega)]; rfl
theorem ren_get {z : Int} {l : List It} {i : Nat} (h : i < l.length) : nth (ren z l) (i : Int) = (l[i]).at z := by
  rw [nth_nat (by rw [ren_len]; exact h)]; simp [ren]

/-! What is written is read. -/
theorem value_eq {s : St22} {r : Int} (hz : okZ s.Zero_) (hr : -2147483648 ≤ r ∧ r ≤ 2147483647) : sym_Value s r = some (if s.Zero_ ≤ r ∧ r ≤ s.Zero_ + 9 then (r - s.Zero_, true) else (0, false)) := by
  obtain ⟨z1, z2⟩ := hz
  unfold sym_Value
  rw [w64 (n := s.Zero_) (by omega) (by omega), w64 (n := r) (by omega) (by omega), w64 (n := r - s.Zero_) (by omega) (by omega)]
  by_cases h1 : r - s.Zero_ < 0
  · rw [dT h1, if_neg (by omega)]; rfl
  · rw [dF h1]
    by_cases h2 : r - s.Zero_ > 9
    · rw [dT h2, if_neg (by omega)]; rfl
    · rw [dF h2, if_pos (by omega), u8m]
      show some _ = some _
      congr 2
      omega
theorem sfigures_eq {s : St22} {m : List Nat} (hz : okZ s.Zero_) (hm : digP m) (hl : m.length ≤ 20000) : shape_figures s (ren s.Zero_ (m.map It.d)) = some (up m, true) := by
  have hz' := hz
  obtain ⟨z1, z2⟩ := hz'
  unfold shape_figures
  simp only [ren_len, List.length_map]
  rw [loop_fold (s0 := ((0 : Int), ([] : List Int))) m (fun pre => ((pre.length : Int), up pre)) (.inl (up m)) rfl (fun pre x suf h => ?_) ?_ (by omega)]
  · rfl
  · simp only
    rw [dF (by omega)]; rfl
  · have hx : x ≤ 9 := hm x (by rw [h]; simp)
    have hlt : pre.length < m.length := by rw [h]; simp
    have hg : nth (ren s.Zero_ (m.map It.d)) (pre.length : Int) = s.Zero_ + x := by
      rw [ren_get (by simpa using hlt)]; simp [h, It.at]
    simp only
    rw [dT (by omega), inR_nat hlt, hg, value_eq hz (by omega), if_pos (by omega)]
    simp only [cond_true, Option.bind_some, Bool.not_true, cond_false]
    rw [show s.Zero_ + (x : Int) - s.Zero_ = x by omega, room_of (by simp [up_len]; omega), w64 (by omega) (by omega)]
    simp [up]
theorem index_at {A B : List Int} {r : Int} (h : r ∉ A) (hl : A.length + B.length ≤ 100000) : slices_Index (A ++ r :: B) r = some (A.length : Int) := by
  unfold slices_Index
  refine bind_of (fun o => joinX (fun (s40 : Unit) => (some (-1))) o = some (A.length : Int)) ?_ (fun o ho => ho)
  refine loop_count A.length (fun i => (i : Int)) (fun _ => True) _ rfl trivial (fun i hi _ => ?_) (fun _ => ?_) (by omega)
  · left
    refine ⟨?_, trivial⟩
    rw [dT (by simp; omega), inR_nat (by simp; omega)]
    have : ¬ r = nth (A ++ r :: B) (i : Int) := by
      rw [nth_nat (by simp; omega), List.getElem_append_left hi]
      intro e; exact h (e ▸ List.getElem_mem hi)
    rw [dF this, w64 (by omega) (by omega)]; rfl
  · refine ⟨.inr (A.length : Int), ?_, rfl⟩
    rw [dT (by simp; omega), inR_nat (by simp), dT (show r = nth (A ++ r :: B) (A.length : Int) by rw [nth_nat (by simp)]; simp)]
    rfl
theorem index_none {A : List Int} {r : Int} (h : r ∉ A) (hl : A.length ≤ 100000) : slices_Index A r = some (-1) := by
  unfold slices_Index
  refine bind_of (fun o => joinX (fun (s40 : Unit) => (some (-1))) o = some (-1)) ?_ (fun o ho => ho)
  refine loop_count A.length (fun i => (i : Int)) (fun _ => True) _ rfl trivial (fun i hi _ => ?_) (fun _ => ?_) (by omega)
  · left
    refine ⟨?_, trivial⟩
    rw [dT (by omega), inR_nat hi]
    have : ¬ r = nth A (i : Int) := by
      rw [nth_nat hi]
      intro e; exact h (e ▸ List.getElem_mem hi)
    rw [dF this, w64 (by omega) (by omega)]; rfl
  · refine ⟨.inl (), ?_, rfl⟩
    rw [dF (by omega)]; rfl
theorem equal_self {A : List Int} (hl : A.length ≤ 100000) : slices_Equal A A = some true := by
  unfold slices_Equal
  rw [dF (show ¬ ¬ (A.length : Int) = A.length by simp)]
  refine bind_of (fun o => joinX (fun (s46 : Unit) => (some true)) o = some true) ?_ (fun o ho => ho)
  refine loop_count A.length (fun i => (i : Int)) (fun _ => True) _ rfl trivial (fun i hi _ => ?_) (fun _ => ?_) (by omega)
  · left
    refine ⟨?_, trivial⟩
    rw [dT (by omega), inR_nat hi, dF (show ¬ ¬ nth A (i : Int) = nth A (i : Int) by simp), w64 (by omega) (by omega)]; rfl
  · refine ⟨.inl (), ?_, rfl⟩
    rw [dF (by omega)]; rfl
def itD : It → List Nat
  | .d n => [n]
  | .g _ => []
def digI (l : List It) : List Nat := l.flatMap itD
theorem digI_append (a b : List It) : digI (a ++ b) = digI a ++ digI b := by simp [digI]
theorem gpre_digs (W : List Nat) (G g1 g2 : Int) : ∀ i, i ≤ W.length → digI (gpre W G g1 g2 i) = W.take i
  | 0, _ => by simp [gpre, digI]
  | i + 1, hi => by
    have ih := gpre_digs W G g1 g2 i (by omega)
    have e : digI (if (decide (i > 0) && cutB ((W.length : Int) - i) g1 g2) = true then [It.g G] else []) = [] := by split <;> rfl
    simp only [gpre, digI_append]
    rw [ih, e, List.take_add_one, List.getD_eq_getElem?_getD, List.getElem?_eq_getElem (by omega)]
    simp [digI, itD]
theorem ungrouped_eq {s : St22} {W : List Nat} {g1 g2 : Int} (hz : okZ s.Zero_) (hd : digP W) (hl : W.length ≤ 20000) (h1 : 0 ≤ g1 ∧ g1 ≤ 40) (h2 : 0 ≤ g2 ∧ g2 ≤ 40)
    (hG : ¬ (s.Zero_ ≤ s.Group_ ∧ s.Group_ ≤ s.Zero_ + 9)) (hGr : -2147483648 ≤ s.Group_ ∧ s.Group_ ≤ 2147483647) :
    sym_Ungrouped s (ren s.Zero_ (gpre W s.Group_ g1 g2 W.length)) g1 g2 = some (up W, 0, 0) := by
  have hgr := grouped_eq (s := s) hz hd hl h1 h2
  have hdg : digI (gpre W s.Group_ g1 g2 W.length) = W := by rw [gpre_digs W _ _ _ _ (by omega), List.take_length]
  have hlen := gpre_len W s.Group_ g1 g2 W.length
  have hok : ∀ x ∈ gpre W s.Group_ g1 g2 W.length, okI [s.Group_] x := gpre_ok hd (by simp) _ (by omega)
  have hz' := hz
  obtain ⟨z1, z2⟩ := hz'
  generalize gpre W s.Group_ g1 g2 W.length = X at *
  have hdl : ∀ pre suf : List It, X = pre ++ suf → (digI pre).length ≤ 20000 := fun pre suf h => by
    have := congrArg List.length (hdg.symm.trans (congrArg digI h))
    rw [digI_append, List.length_append] at this
    omega
  unfold sym_Ungrouped
  simp only [ren_len]
  rw [loop_fold (s0 := ((0 : Int), ([] : List Int))) X (fun pre => ((pre.length : Int), up (digI pre))) (.inl (up (digI X))) rfl (fun pre x suf h => ?_) ?_ (by omega)]
  · simp only [Option.bind_some, joinX]
    rw [hdg, hgr]
    simp only [Option.bind_some]
    rw [equal_self (by rw [ren_len]; omega)]
    rfl
  · simp only
    rw [dF (by omega)]; rfl
  · have hlt : pre.length < X.length := by rw [h]; simp
    have hpl := hdl pre (x :: suf) h
    have hox := hok x (by rw [h]; simp)
    have hg : nth (ren s.Zero_ X) (pre.length : Int) = x.at s.Zero_ := by
      rw [ren_get hlt]; simp [h]
    simp only
    rw [dT (by omega), inR_nat hlt, hg]
    cases x with
    | d n =>
      have hn : n ≤ 9 := hox
      simp only [It.at, cond_true]
      rw [value_eq hz (by omega), if_pos (by omega)]
      simp only [cond_true, Option.bind_some]
      rw [show s.Zero_ + (n : Int) - s.Zero_ = n by omega, room_of (by simp [up_len]; omega)]
      simp only [cond_true, Option.bind_some, joinX]
      rw [w64 (by omega) (by omega), digI_append, up_append]
      simp [digI, itD, up]
    | g r =>
      have hr : r = s.Group_ := by
        have : r ∈ [s.Group_] := hox
        simpa using this
      subst hr
      simp only [It.at, cond_true]
      rw [value_eq hz hGr, if_neg hG]
      simp only [cond_false, Option.bind_some]
      rw [dF (by simp)]
      simp only [cond_false, Option.bind_some, joinX]
      rw [w64 (by omega) (by omega), digI_append]
      simp [digI, itD]
theorem vN_pre {m : List Nat} {i : Nat} : vN (m.take i) ≤ vN m := by
  have h := vN_append (m.take i) (m.drop i)
  rw [List.take_append_drop] at h
  have : vN (m.take i) * 1 ≤ vN (m.take i) * 10 ^ (m.drop i).length := Nat.mul_le_mul_left _ (Nat.pow_pos (by decide))
  omega
theorem readPower_eq {s : St22} {m : List Nat} {neg plus : Bool} (hz : okZ s.Zero_) (hm : digP m) (h40 : m.length ≤ 40) (h0 : 0 < m.length) (hv : vN m ≤ 100000)
    (hM : ¬ (s.Zero_ ≤ s.Minus_ ∧ s.Minus_ ≤ s.Zero_ + 9)) (hP : ¬ (s.Zero_ ≤ s.Plus_ ∧ s.Plus_ ≤ s.Zero_ + 9)) (hne : s.Plus_ ≠ s.Minus_) :
    shape_readPower s (ren s.Zero_ ((if neg = true then [It.g s.Minus_] else if plus = true then [It.g s.Plus_] else []) ++ m.map It.d)) = some (if neg = true then -(vN m : Int) else vN m, true) := by
  have hfig := sfigures_eq hz hm (by omega)
  have hml : (ren s.Zero_ (m.map It.d)).length = m.length := by simp [ren_len]
  obtain ⟨x, m', hm'⟩ : ∃ x m', m = x :: m' := by
    cases m with
    | nil => simp at h0
    | cons x m' => exact ⟨x, m', rfl⟩
  have hx9 : x ≤ 9 := hm x (by rw [hm']; simp)
  have hx0 : nth (ren s.Zero_ (m.map It.d)) 0 = s.Zero_ + x := by rw [hm']; rfl
  have hcut : ∀ r : Int, cut (r :: ren s.Zero_ (m.map It.d)) 1 ((r :: ren s.Zero_ (m.map It.d)).length : Int) = ren s.Zero_ (m.map It.d) := fun r => by
    unfold cut
    rw [Int.toNat_natCast, List.take_length]; rfl
  unfold shape_readPower
  obtain ⟨l, hl⟩ : ∃ l, l = ren s.Zero_ ((if neg = true then [It.g s.Minus_] else if plus = true then [It.g s.Plus_] else []) ++ m.map It.d) := ⟨_, rfl⟩
  rw [← hl]
  have hfirst : (Option.bind (bif (decide ((l.length : Int) > 0)) then (bif inR 0 l.length then (bif (decide ((nth l 0) = s.Minus_)) then (some true) else (bif inR 0 l.length then (some ((decide ((nth l 0) = s.Plus_)))) else none)) else none) else (some false)) fun (s52 : Bool) => (bif s52 then (Option.bind (bif inR 0 l.length then (bif (decide ((nth l 0) = s.Minus_)) then (some (-1)) else (some 1)) else none) fun (s72 : Int) => (bif inS 1 (l.length : Int) l.length then (some ((cut l 1 (l.length : Int)), s72)) else none)) else (some (l, 1)))) = some (ren s.Zero_ (m.map It.d), if neg = true then (-1 : Int) else 1) := by
    cases neg with
    | true =>
      have e : l = s.Minus_ :: ren s.Zero_ (m.map It.d) := hl
      have hll : l.length = m.length + 1 := by rw [e]; simp [ren_len]
      have hn : nth l 0 = s.Minus_ := by rw [e]; rfl
      rw [hn, hll, dT (by omega), inR_int (i := 0) (by omega) (by omega), dT (show s.Minus_ = s.Minus_ from rfl)]
      simp only [cond_true, Option.bind_some]
      rw [inS_of (by omega) (by omega) (by omega)]
      have := hcut s.Minus_
      rw [← e, hll] at this
      rw [this]; rfl
    | false =>
      cases plus with
      | true =>
        have e : l = s.Plus_ :: ren s.Zero_ (m.map It.d) := hl
        have hll : l.length = m.length + 1 := by rw [e]; simp [ren_len]
        have hn : nth l 0 = s.Plus_ := by rw [e]; rfl
        rw [hn, hll, dT (by omega), inR_int (i := 0) (by omega) (by omega), dF hne, dT (show s.Plus_ = s.Plus_ from rfl)]
        simp only [cond_true, cond_false, Option.bind_some]
        rw [inS_of (by omega) (by omega) (by omega)]
        have := hcut s.Plus_
        rw [← e, hll] at this
        rw [this]; rfl
      | false =>
        have e : l = ren s.Zero_ (m.map It.d) := hl
        rw [e, hx0, hml, dT (by omega), inR_int (i := 0) (by omega) (by omega), dF (show ¬ s.Zero_ + (x : Int) = s.Minus_ by omega), dF (show ¬ s.Zero_ + (x : Int) = s.Plus_ by omega)]
        rfl
  rw [hfirst]
  simp only [Option.bind_some]
  rw [hfig]
  simp only [Option.bind_some, up_len, Bool.not_true, cond_false]
  rw [dF (show ¬ (m.length : Int) = 0 by omega), dF (show ¬ (m.length : Int) > 40 by omega)]
  simp only [Option.bind_some, cond_false, joinX]
  rw [loop_fold (s0 := ((0 : Int), (0 : Int))) m (fun pre => ((vN pre : Int), (pre.length : Int))) (vN m : Int) rfl (fun pre y suf h => ?_) ?_ (by omega)]
  · simp only [Option.bind_some]
    rw [dT (by omega)]
    cases neg
    · simp only [Bool.false_eq_true, if_false, Int.one_mul]
      rw [w64 (by omega) (by omega)]
    · simp only [if_true]
      rw [w64 (by omega) (by omega)]
      congr 2; omega
  · simp only
    rw [dF (by omega)]; rfl
  · have hlt : pre.length < m.length := by rw [h]; simp
    have hg : nth (up m) (pre.length : Int) = (y : Int) := by rw [up_get hlt, h]; simp
    have hy : y ≤ 9 := hm y (by rw [h]; simp)
    have hpv : vN (pre ++ [y]) ≤ 100000 := by
      have := @vN_pre m (pre.length + 1)
      rw [show m.take (pre.length + 1) = pre ++ [y] by rw [h, show pre ++ y :: suf = (pre ++ [y]) ++ suf by simp]; exact List.take_left' (by simp)] at this
      omega
    have hsn := vN_snoc pre y
    simp only
    rw [dT (by omega), inR_nat hlt, hg, w64 (n := (y : Int)) (by omega) (by omega), w64 (n := (vN pre : Int) * 10) (by omega) (by omega), w64 (n := (vN pre : Int) * 10 + y) (by omega) (by omega), w64 (by omega) (by omega)]
    simp only [cond_true]
    congr 3
    · unfold minI; rw [hsn]; split <;> omega
    · simp
theorem not_ren {z r : Int} {S : List Int} {X : List It} (hX : ∀ x ∈ X, okI S x) (hr : ¬ (z ≤ r ∧ r ≤ z + 9)) (hS : r ∉ S) : r ∉ ren z X := fun h => by
  obtain ⟨x, hx, e⟩ := List.mem_map.1 h
  have := hX x hx
  cases x with
  | d n =>
    have h9 : n ≤ 9 := this
    have e' : z + (n : Int) = r := e
    omega
  | g q =>
    have h9 : q ∈ S := this
    have e' : q = r := e
    exact hS (e' ▸ h9)
theorem cut_fst {A B : List Int} : cut (A ++ B) 0 (A.length : Int) = A := by simp [cut]
theorem cut_snd {A B : List Int} {r n : Int} (h : n = (A.length : Int) + 1) : cut (A ++ r :: B) n ((A ++ r :: B).length : Int) = B := by
  subst h
  unfold cut
  rw [Int.toNat_natCast, List.take_length, show ((A.length : Int) + 1).toNat = A.length + 1 by omega, ← List.drop_drop, List.drop_left' (by rfl)]; rfl
theorem cutPart_eq {s : St22} {G : List It} {Q : List Nat} {b : Nat} (hz : okZ s.Zero_) (hQ : digP Q) (hb : Q.length = b) (hb2 : b ≤ 2000) (hG : G.length ≤ 10000) (hD : s.Dec_ ∉ ren s.Zero_ G) :
    shape_cutPart s (ren s.Zero_ (G ++ (if b = 0 then [] else It.g s.Dec_ :: Q.map It.d))) = some (ren s.Zero_ G, up Q, true) := by
  unfold shape_cutPart
  by_cases h0 : b = 0
  · have hq : Q = [] := List.length_eq_zero_iff.1 (by omega)
    rw [if_pos h0, List.append_nil, index_none hD (by rw [ren_len]; omega)]
    simp only [Option.bind_some]
    rw [dT (by omega), hq]; rfl
  · have e : ren s.Zero_ (G ++ (if b = 0 then [] else It.g s.Dec_ :: Q.map It.d)) = ren s.Zero_ G ++ s.Dec_ :: ren s.Zero_ (Q.map It.d) := by
      rw [if_neg h0, ren_append]; rfl
    have hgl : (ren s.Zero_ G).length = G.length := ren_len _ _
    have hl : (ren s.Zero_ G ++ s.Dec_ :: ren s.Zero_ (Q.map It.d)).length = G.length + b + 1 := by simp [ren_len, hb]; omega
    rw [e, index_at hD (by simp [ren_len, hb]; omega)]
    simp only [Option.bind_some]
    rw [dF (by omega), w64 (by omega) (by omega), cut_snd rfl, cut_fst, sfigures_eq hz hQ (by omega), hl, ren_len, inS_of (by omega) (by omega) (by omega)]
    simp only [cond_true, cond_false, Option.bind_some, up_len]
    rw [inS_of (by omega) (by omega) (by omega), dT (by omega)]
    rfl
theorem cutPower_eq {s : St22} {p : St25} {G : List It} {e : List Nat} {neg : Bool} (hz : okZ s.Zero_) (he : digP e) (h40 : e.length ≤ 40) (h0 : p.Exp_ = 0 ∨ 0 < e.length) (hp : 0 ≤ p.Exp_) (hv : vN e ≤ 100000) (hG : G.length ≤ 10000) (hD : s.Exp_ ∉ ren s.Zero_ G)
    (hM : ¬ (s.Zero_ ≤ s.Minus_ ∧ s.Minus_ ≤ s.Zero_ + 9)) (hP : ¬ (s.Zero_ ≤ s.Plus_ ∧ s.Plus_ ≤ s.Zero_ + 9)) (hne : s.Plus_ ≠ s.Minus_) :
    shape_cutPower s p (ren s.Zero_ (G ++ (if p.Exp_ > 0 then It.g s.Exp_ :: ((if neg = true then [It.g s.Minus_] else if p.ExpPlus_ = true then [It.g s.Plus_] else []) ++ e.map It.d) else []))) = some (ren s.Zero_ G, if p.Exp_ < 1 then 0 else if neg = true then -(vN e : Int) else vN e, true) := by
  unfold shape_cutPower
  by_cases hx : p.Exp_ < 1
  · rw [dT hx, if_pos hx, if_neg (by omega), List.append_nil]; rfl
  · have hrp := readPower_eq (neg := neg) (plus := p.ExpPlus_) hz he h40 (by omega) hv hM hP hne
    have hzl : ((if neg = true then [It.g s.Minus_] else if p.ExpPlus_ = true then [It.g s.Plus_] else []) ++ e.map It.d).length ≤ 100 := by
      simp only [List.length_append, List.length_map]
      repeat' split
      all_goals simp
      all_goals omega
    generalize (if neg = true then [It.g s.Minus_] else if p.ExpPlus_ = true then [It.g s.Plus_] else []) ++ e.map It.d = Z at *
    rw [dF hx, if_neg hx, if_pos (by omega)]
    have e1 : ren s.Zero_ (G ++ It.g s.Exp_ :: Z) = ren s.Zero_ G ++ s.Exp_ :: ren s.Zero_ Z := by rw [ren_append]; rfl
    have hgl : (ren s.Zero_ G).length = G.length := ren_len _ _
    have hl : (ren s.Zero_ G ++ s.Exp_ :: ren s.Zero_ Z).length = G.length + Z.length + 1 := by simp [ren_len]; omega
    rw [e1, index_at hD (by simp [ren_len]; omega)]
    simp only [Option.bind_some, cond_false]
    rw [dF (by omega), w64 (by omega) (by omega), cut_snd rfl, cut_fst, hrp, hl, ren_len, inS_of (by omega) (by omega) (by omega)]
    simp only [cond_true, cond_false, Option.bind_some]
    rw [inS_of (by omega) (by omega) (by omega)]
    rfl
/-! Any right number, written and read. -/
theorem bare_gen {p : St25} {l : List Nat} {E : Int} {neg : Bool} (h : rightP l E) :
    shape_bare p ⟨neg, up l, E⟩ = some (⟨neg, up l, bareE p l E⟩, bareP p l E) ∧ rightP l (bareE p l E) ∧ -1000 ≤ bareE p l E ∧ (l ≠ [] → bareE p l E + l.length ≤ 2000) := by
  have hl := right_low h
  unfold shape_bare bareE bareP
  by_cases hx : p.Exp_ < 1
  · rw [dT hx, if_pos hx, if_pos hx]
    exact ⟨rfl, h, by omega, fun h0 => by omega⟩
  · rw [dF hx, if_neg hx, if_neg hx, mag_eq h]
    simp only [cond_false, Option.bind_some]
    have hcl : slices_Clone (up l) = some (up l) := clone_id (by rw [up_len]; omega)
    by_cases h0 : l = []
    · have hE0 := h.2.1 h0
      subst h0; subst hE0
      simp only [if_true]
      rw [w64 (n := 0 - 0) (by omega) (by omega)]
      refine ⟨?_, h, by omega, fun h => absurd rfl h⟩
      unfold dec_Shift
      simp only
      rw [hcl]; rfl
    · have hm : E + l.length ≤ 2000 := by omega
      have hpos : 0 < l.length := List.length_pos_iff.2 h0
      obtain ⟨b1, b2, b3, b4, b5⟩ := h.2.2 h0
      simp only [if_neg h0]
      have ew : IntKind.wrap .i64 (0 - (E + l.length - 1)) = -(E + l.length - 1) := by rw [w64 (by omega) (by omega)]; omega
      refine ⟨?_, ⟨h.1, fun e => absurd e h0, fun _ => ⟨b1, by omega, by omega, b4, b5⟩⟩, by omega, fun _ => by omega⟩
      rw [ew]
      unfold dec_Shift
      simp only
      rw [hcl, dF (show ¬ -(E + (l.length : Int) - 1) < -1099511627776 by omega), dF (show ¬ -(E + (l.length : Int) - 1) > 1099511627776 by omega)]
      simp only [cond_false, Option.bind_some, joinX, up_len]
      rw [dF (by omega), w64 (n := E + -(E + (l.length : Int) - 1)) (by omega) (by omega), dF (by omega), dF (by omega)]
      simp only [cond_false, Option.bind_some, joinX, Option.some.injEq, Prod.mk.injEq, St28.mk.injEq, and_true, true_and]
      omega
/-- What is shown of a number. -/
theorem figures_gen {p : St25} {n : Int} {l : List Nat} {E : Int} (neg : Bool) (hp : cntP p) (hn : n ≤ 40) (h : rightP l E) :
    ∃ a b : Nat, shape_Figures p n ⟨neg, up l, E⟩ = some (up (figs (magN l (bareE p l E)) (a - 1) a), up (figs (magN l (bareE p l E)) (-1) b), bareP p l E) ∧
      rightP l (bareE p l E) ∧ (a : Int) = aheadV p l (bareE p l E) ∧ (b : Int) = behindV p n l (bareE p l E) ∧ a ≤ 2000 ∧ b ≤ 1100 := by
  obtain ⟨hb1, hb2, hb3, hb4⟩ := bare_gen (p := p) (neg := neg) h
  obtain ⟨c1, c2, c3, c4, c5, c6, c7, c8, c9⟩ := hp
  have hp : cntP p := ⟨c1, c2, c3, c4, c5, c6, c7, c8, c9⟩
  have hl := right_low hb2
  generalize bareE p l E = E0 at *
  have ha : 0 ≤ aheadV p l E0 ∧ aheadV p l E0 ≤ 2000 := by
    unfold aheadV leastA magE
    by_cases h0 : l = []
    · rw [if_pos h0]; split <;> omega
    · have := hb4 h0
      rw [if_neg h0, if_neg h0]; split <;> omega
  have hbb : 0 ≤ behindV p n l E0 ∧ behindV p n l E0 ≤ 1100 := by
    unfold behindV leastB magE
    by_cases h0 : l = []
    · rw [if_pos h0]; repeat' split
      all_goals omega
    · have := hb4 h0
      have hpos : 0 < l.length := List.length_pos_iff.2 h0
      rw [if_neg h0]; repeat' split
      all_goals omega
  obtain ⟨a, ea⟩ : ∃ a : Nat, aheadV p l E0 = a := ⟨(aheadV p l E0).toNat, by omega⟩
  obtain ⟨b, eb⟩ : ∃ b : Nat, behindV p n l E0 = b := ⟨(behindV p n l E0).toNat, by omega⟩
  refine ⟨a, b, ?_, hb2, ea.symm, eb.symm, by omega, by omega⟩
  unfold shape_Figures
  rw [right_eq h, hb1]
  simp only [Option.bind_some, Bool.not_true, cond_false]
  rw [ahead_eq hp hb2, ea]
  simp only [Option.bind_some]
  rw [w64 (n := (a : Int) - 1) (by omega) (by omega), down_eq hb2 (by omega) (by omega) (by omega), behind_eq hp hn hb2, eb]
  simp only [Option.bind_some]
  rw [down_eq hb2 (by omega) (by omega) (by omega)]
  rfl
/-- All that is written of a number: pieces that no zero changes. -/
theorem write_gen {p : St25} {n : Int} {l : List Nat} {E : Int} (hp : cntP p) (hn : n ≤ 40) (h : rightP l E) :
    ∃ (a b : Nat) (e : List Nat) (eneg : Bool),
      (a : Int) = aheadV p l (bareE p l E) ∧ (b : Int) = behindV p n l (bareE p l E) ∧ a ≤ 2000 ∧ b ≤ 1100 ∧ rightP l (bareE p l E) ∧
      digP e ∧ e.length ≤ 40 ∧ vN e = (bareP p l E).natAbs ∧ eneg = decide (bareP p l E < 0) ∧ p.Exp_ ≤ e.length ∧ (p.Exp_ = 0 ∨ 0 < e.length) ∧
      ∀ (neg : Bool) (s : St22), okZ s.Zero_ → shape_Write s p n ⟨neg, up l, E⟩ = some (ren s.Zero_ (
        gpre (figs (magN l (bareE p l E)) (a - 1) a) s.Group_ p.G1_ p.G2_ a ++
        (if b = 0 then [] else It.g s.Dec_ :: (figs (magN l (bareE p l E)) (-1) b).map It.d) ++
        (if p.Exp_ > 0 then It.g s.Exp_ :: ((if eneg = true then [It.g s.Minus_] else if p.ExpPlus_ = true then [It.g s.Plus_] else []) ++ e.map It.d) else []))) := by
  obtain ⟨a, b, _, hr, ha, hb, ha7, hb11⟩ := figures_gen (n := n) false hp hn h
  have hlow := right_low h
  have hP : -100000 ≤ bareP p l E ∧ bareP p l E ≤ 100000 := by
    unfold bareP; split
    · omega
    · split <;> omega
  obtain ⟨eneg, e, e1, e2, e3, e4, e5, e6, e7⟩ := exponent_eq hp hP.1 hP.2
  refine ⟨a, b, e, eneg, ha, hb, ha7, hb11, hr, e1, e2, e3, e4, e5, e6, fun neg s hs => ?_⟩
  obtain ⟨a2, b2, hfig, _, ha2, hb2, _, _⟩ := figures_gen (n := n) neg hp hn h
  obtain rfl : a2 = a := by omega
  obtain rfl : b2 = b := by omega
  obtain ⟨c1, c2, c3, c4, c5, c6, c7, c8, c9⟩ := hp
  unfold shape_Write
  rw [hfig]
  simp only [Option.bind_some]
  have hw := figs_dig (magN l (bareE p l E)) (a2 - 1) a2
  have hwl := figs_len (magN l (bareE p l E)) (a2 - 1) a2
  have hq := figs_dig (magN l (bareE p l E)) (-1) b2
  have hql := figs_len (magN l (bareE p l E)) (-1) b2
  generalize figs (magN l (bareE p l E)) (a2 - 1) a2 = W at *
  generalize figs (magN l (bareE p l E)) (-1) b2 = Q at *
  rw [grouped_eq hs hw (by omega) c5 c6, digits_eq hs hq (by omega), e7 s hs, hwl]
  have hgl := gpre_len W s.Group_ p.G1_ p.G2_ a2
  generalize gpre W s.Group_ p.G1_ p.G2_ a2 = X at *
  simp only [Option.bind_some, up_len, hql]
  have hpart : (bif (decide ((b2 : Int) > 0)) then (bif room ((ren s.Zero_ X).length + ([s.Dec_] : List Int).length) then (bif room ((ren s.Zero_ X ++ ([s.Dec_] : List Int)).length + (ren s.Zero_ (Q.map It.d)).length) then (some (((ren s.Zero_ X ++ ([s.Dec_] : List Int)) ++ ren s.Zero_ (Q.map It.d)))) else none) else none) else (some (ren s.Zero_ X))) = some (ren s.Zero_ (X ++ (if b2 = 0 then [] else It.g s.Dec_ :: Q.map It.d))) := by
    by_cases h0 : b2 = 0
    · rw [dF (by omega), if_pos h0]; simp
    · rw [dT (by omega), if_neg h0, room_of (by simp [ren_len]; omega), room_of (by simp [ren_len]; omega)]
      simp [ren, It.at]
  rw [hpart]
  have hYl : (X ++ (if b2 = 0 then [] else It.g s.Dec_ :: Q.map It.d)).length ≤ 10000 := by
    split <;> simp <;> omega
  generalize X ++ (if b2 = 0 then [] else It.g s.Dec_ :: Q.map It.d) = Y at *
  simp only [Option.bind_some]
  by_cases hx : p.Exp_ > 0
  · rw [dT hx, if_pos hx, room_of (by simp [ren_len]; omega)]
    have hEl : ((if eneg = true then [It.g s.Minus_] else if p.ExpPlus_ = true then [It.g s.Plus_] else []) ++ e.map It.d).length ≤ 100 := by
      simp only [List.length_append, List.length_map]
      repeat' split
      all_goals simp
      all_goals omega
    generalize (if eneg = true then [It.g s.Minus_] else if p.ExpPlus_ = true then [It.g s.Plus_] else []) ++ e.map It.d = Z at *
    simp only [cond_true]
    rw [room_of (by simp [ren_len]; omega)]
    simp [ren, It.at]
  · rw [dF hx, if_neg hx]; simp
/-- All figures that are shown, together. -/
theorem shown_gen {l : List Nat} {E : Int} {a b : Nat} (h : rightP l E) (ha : l = [] ∨ magE l E < a) (hb : -(b : Int) ≤ E) (ha2 : a ≤ 2000) (hb2 : b ≤ 1100) :
    vN (figs (magN l E) ((a : Int) - 1) (a + b)) * pw (-(b : Int)) = magN l E := by
  have hl := right_low h
  rw [figs_val _ _ _ (by omega)]
  have e : (a : Int) - 1 - ((a + b : Nat) : Int) + 1 = -(b : Int) := by omega
  rw [e]
  rcases ha with ha | ha
  · rw [mag_zero' ha]; simp
  have hm := mag_mod h (q := -(b : Int)) (by omega) hb
  have ht := mag_top2 h ha (by omega)
  have hlt : magN l E / pw (-(b : Int)) < 10 ^ (a + b) := by
    have h2 := (Nat.div_eq_zero_iff.1 ht).resolve_left (by have := pw_pos (a : Int); omega)
    have e2 : (a : Int) = -(b : Int) + ((a + b : Nat) : Int) := by omega
    rw [e2, pw_add (a + b) (by omega)] at h2
    exact Nat.div_lt_of_lt_mul h2
  rw [Nat.mod_eq_of_lt hlt]
  have := Nat.div_add_mod (magN l E) (pw (-(b : Int)))
  rw [hm, Nat.mul_comm] at this
  exact this
/-- Figures without noughts around that are worth as much are the same. -/
theorem same_core {l m : List Nat} {E G : Int} (d1 : digP l) (d2 : digP m) (h1 : l.head? ≠ some 0) (t1 : l.getLast? ≠ some 0) (h2 : m.head? ≠ some 0) (t2 : m.getLast? ≠ some 0) (l0 : l ≠ []) (m0 : m ≠ [])
    (hE : -3000 ≤ E) (hG : -3000 ≤ G) (h : magN l E = magN m G) : l = m ∧ E = G := by
  have key : ∀ {l m : List Nat} {E G : Int}, digP l → digP m → l.head? ≠ some 0 → l.getLast? ≠ some 0 → m.head? ≠ some 0 → l ≠ [] → -3000 ≤ E → magN l E = magN m G → E ≤ G → l = m ∧ E = G := by
    intro l m E G d1 d2 h1 t1 h2 l0 hE h hle
    unfold magN at h
    obtain ⟨n, hn⟩ : ∃ n : Nat, G = E + n := ⟨(G - E).toNat, by omega⟩
    have hp := pw_add (m := E) n (by omega)
    rw [← hn] at hp
    rw [hp, Nat.mul_comm (pw E), ← Nat.mul_assoc] at h
    have hv : vN l = vN m * 10 ^ n := Nat.eq_of_mul_eq_mul_right (pw_pos E) h
    have hlast := vN_last d1 l0 t1
    have hn0 : n = 0 := by
      apply Decidable.byContradiction
      intro hne
      obtain ⟨q, rfl⟩ : ∃ q, n = q + 1 := ⟨n - 1, by omega⟩
      rw [Nat.pow_succ, ← Nat.mul_assoc] at hv
      omega
    subst hn0
    simp at hv hn
    refine ⟨?_, hn.symm⟩
    rw [← digs_vN l d1 h1, ← digs_vN m d2 h2, hv]
  rcases Int.le_total E G with hle | hle
  · exact key d1 d2 h1 t1 h2 l0 hE h hle
  · obtain ⟨a, b⟩ := key d2 d1 h2 t2 h1 m0 hG h.symm hle
    exact ⟨a.symm, b.symm⟩
instance (l : List Nat) : Decidable (digP l) := inferInstanceAs (Decidable (∀ x ∈ l, x ≤ 9))
instance (l : List Nat) (E : Int) : Decidable (rightP l E) := by unfold rightP; exact inferInstance
theorem figs_eq {l : List Nat} (hl : l.length ≤ 100000) : dec_figures (up l) = some (decide (digP l)) := by
  unfold dec_figures
  rw [all_loop (fun c => decide (c > 9)) (up l) (by rw [up_len]; omega)]
  by_cases hd : digP l
  · rw [if_pos, dT hd]
    · rfl
    · rw [List.all_eq_true]
      intro c hc
      obtain ⟨x, hx, rfl⟩ := List.mem_map.1 hc
      have := hd x hx
      simp; omega
  · rw [if_neg, dF hd]
    · rfl
    · intro h
      apply hd
      intro x hx
      have := List.all_eq_true.1 h (x : Int) (List.mem_map.2 ⟨x, hx, rfl⟩)
      simp at this; omega
theorem dright_eq {l : List Nat} {E : Int} {neg : Bool} (hl : l.length ≤ 100000) : dec_Right ⟨neg, up l, E⟩ = some (decide (rightP l E)) := by
  unfold dec_Right
  rw [figs_eq hl]
  simp only [up_len]
  by_cases h0 : l = []
  · subst h0
    rw [dT (by simp)]
    have : (rightP [] E) ↔ E = 0 := ⟨fun h => h.2.1 rfl, fun h => ⟨fun x hx => (by cases hx), fun _ => h, fun h => absurd rfl h⟩⟩
    simp [this]
  · have hpos : 0 < l.length := List.length_pos_iff.2 h0
    have hin : inR 0 l.length = true := inR_int (by omega) (by omega)
    have hin2 : inR ((l.length : Int) - 1) l.length = true := inR_int (by omega) (by omega)
    have hh : (¬ nth (up l) 0 = 0) ↔ l.head? ≠ some 0 := by
      cases l with
      | nil => exact absurd rfl h0
      | cons x l => rw [up_head]; simp
    have hll : (¬ nth (up l) ((l.length : Int) - 1) = 0) ↔ l.getLast? ≠ some 0 := by
      rcases List.eq_nil_or_concat l with h1 | ⟨p, c, h1⟩
      · exact absurd h1 h0
      · rw [List.concat_eq_append] at h1
        subst h1
        have e : (((p ++ [c]).length : Nat) : Int) - 1 = (p.length : Int) := by simp
        rw [e, up_last]; simp
    rw [dF (show ¬ (l.length : Int) = 0 by omega), hin, w64 (by omega) (by omega), hin2]
    simp only [cond_false, cond_true]
    by_cases c1 : (l.length : Int) > 1000
    · rw [dT c1, dF (show ¬ rightP l E from fun h => by have := (h.2.2 h0).1; omega)]; rfl
    · rw [dF c1]
      by_cases c2 : E < -1000
      · rw [dT c2, dF (show ¬ rightP l E from fun h => by have := (h.2.2 h0).2.1; omega)]; rfl
      · rw [dF c2]
        by_cases c3 : E > 1000
        · rw [dT c3, dF (show ¬ rightP l E from fun h => by have := (h.2.2 h0).2.2.1; omega)]; rfl
        · rw [dF c3]
          by_cases c4 : ¬ nth (up l) 0 = 0
          · by_cases c5 : ¬ nth (up l) ((l.length : Int) - 1) = 0
            · rw [dT c4, dT c5]
              have : rightP l E ↔ digP l := ⟨fun h => h.1, fun h => ⟨h, fun e => absurd e h0, fun _ => ⟨by omega, by omega, by omega, hh.1 c4, hll.1 c5⟩⟩⟩
              simp [this, joinX]
            · rw [dT c4, dF c5, dF (show ¬ rightP l E from fun h => c5 (hll.2 (h.2.2 h0).2.2.2.2))]; rfl
          · rw [dF c4, dF (show ¬ rightP l E from fun h => c4 (hh.2 (h.2.2 h0).2.2.2.1))]; rfl
/-- What it is made to be. -/
def normV (neg : Bool) (core : List Nat) (E : Int) : St28 × Int :=
  if core = [] then (⟨neg, [], 0⟩, 0) else if rightP core E then (⟨neg, up core, E⟩, 0) else (⟨false, [], 0⟩, 11)
theorem norm_is {z core : List Nat} {a b : Nat} {e : Int} {neg : Bool} (hz : z = List.replicate a 0 ++ core ++ List.replicate b 0) (hcb : core = [] → b = 0) (hh : core.head? ≠ some 0) (ht : core.getLast? ≠ some 0)
    (hd : digP z) (hl : z.length ≤ 5000) (he : -3000000 ≤ e) (he2 : e ≤ 3000000) : dec_Norm neg (up z) e = some (normV neg core (e + b)) := by
  have hlen : z.length = a + core.length + b := by rw [hz]; simp [Nat.add_assoc]
  have hf := norm_from (z := z) (a := a) (c := core ++ List.replicate b 0) (by rw [hz, List.append_assoc]) (by
    cases core with
    | nil => rw [hcb rfl]; simp
    | cons x c => simpa using hh) (by omega)
  have hto := norm_to (z := z) (b := b) (f := a) (c := List.replicate a 0 ++ core) hz (by simp) (fun hlt => by
    have : core ≠ [] := by rintro rfl; simp at hlt
    rw [List.getLast?_append]
    cases hg : core.getLast? with
    | none => exact absurd (List.getLast?_eq_none_iff.1 hg) this
    | some v => rw [hg] at ht; simpa using ht) (fun h => hcb (by simpa using h)) (by omega)
  have hal : (List.replicate a 0 ++ core).length = a + core.length := by simp
  rw [hal] at hto
  unfold dec_Norm
  rw [figs_eq (by omega), dT hd, dF (show ¬ e < -1099511627776 by omega), dF (show ¬ e > 1099511627776 by omega), hf]
  simp only [Option.bind_some, Bool.not_true, cond_false, joinX]
  rw [hto]
  simp only [Option.bind_some]
  unfold normV
  by_cases h0 : core = []
  · subst h0
    rw [dT (by simp)]; rfl
  · have hpos : 0 < core.length := List.length_pos_iff.2 h0
    have hcut : cut (up z) (a : Int) ((a + core.length : Nat) : Int) = up core := by
      rw [cut_up]; congr 1
      rw [hz, ← hal, List.take_left, List.drop_left' (by simp)]
    have hin : inS (a : Int) ((a + core.length : Nat) : Int) (up z).length = true := inS_of (by omega) (by omega) (by rw [up_len]; omega)
    have hE : IntKind.wrap .i64 (IntKind.wrap .i64 (e + ((up z).length : Int)) - ((a + core.length : Nat) : Int)) = e + b := by
      rw [up_len, w64 (n := e + (z.length : Int)) (by omega) (by omega), w64 (by omega) (by omega)]; omega
    rw [dF (by omega), hin, hcut, hE, if_neg h0]
    have hcl : slices_Clone (up core) = some (up core) := clone_id (by rw [up_len]; omega)
    rw [hcl]
    simp only [Option.bind_some, cond_true, cond_false]
    rw [dright_eq (by omega)]
    by_cases hr : rightP core (e + b)
    · rw [dT hr, if_pos hr]; rfl
    · rw [dF hr, if_neg hr]; rfl
/-- Figures that are worth a right number are made it. -/
theorem norm_of {z l : List Nat} {e E : Int} {neg : Bool} (hd : digP z) (hl : z.length ≤ 5000) (he : -3000 ≤ e) (he2 : e ≤ 100000) (hm : vN z * pw e = magN l E) (h : rightP l E) : dec_Norm neg (up z) e = some (⟨neg, up l, E⟩, 0) := by
  obtain ⟨a, b, core, hz, hcb, hh, ht⟩ := strip z
  have hdc : digP core := by rw [hz] at hd; exact dig_right (dig_left hd)
  have hv : vN z = vN core * 10 ^ b := by
    rw [hz, List.append_assoc, vN_append, vN_zeros, vN_append, vN_zeros, List.length_replicate]; omega
  have hmag : magN core (e + b) = magN l E := by
    rw [← hm]
    unfold magN
    rw [pw_add b (by omega), hv, Nat.mul_comm (pw e), Nat.mul_assoc]
  rw [norm_is hz hcb hh ht hd hl (by omega) (by omega)]
  unfold normV
  by_cases h0 : core = []
  · rw [if_pos h0]
    subst h0
    have hm0 : magN l E = 0 := by rw [← hmag]; simp [magN, vN]
    have hl0 := (mag_zero h).1 hm0
    subst hl0
    rw [h.2.1 rfl]; rfl
  · have l0 : l ≠ [] := fun hl0 => by
      rw [mag_zero' hl0] at hmag
      unfold magN at hmag
      rcases Nat.mul_eq_zero.1 hmag with g | g
      · exact h0 (vN_zero g hh)
      · have := pw_pos (e + b); omega
    obtain ⟨b1, b2, b3, b4, b5⟩ := h.2.2 l0
    obtain ⟨e1, e2⟩ := same_core hdc h.1 hh ht b4 b5 h0 l0 (by omega) (by omega) hmag
    rw [if_neg h0, e1, e2, if_pos h]

/-! Whatever is read. -/
def isD (s : St22) (r : Int) : Prop := s.Zero_ ≤ r ∧ r ≤ s.Zero_ + 9
def i32P (l : List Int) : Prop := ∀ r ∈ l, -2147483648 ≤ r ∧ r ≤ 2147483647
theorem mem_first {r : Int} : ∀ {l : List Int}, r ∈ l → ∃ A B, l = A ++ r :: B ∧ r ∉ A
  | [], h => by cases h
  | x :: l, h => by
    by_cases e : x = r
    · exact ⟨[], l, by rw [e]; rfl, by simp⟩
    · obtain ⟨A, B, h1, h2⟩ := mem_first (l := l) (by simpa [Ne.symm e] using h)
      exact ⟨x :: A, B, by rw [h1]; rfl, by simp [h2, Ne.symm e]⟩
theorem index_tot {l : List Int} {r : Int} (hl : l.length ≤ 100000) : Tot (slices_Index l r) (fun i => i = -1 ∨ ∃ A B, l = A ++ r :: B ∧ i = (A.length : Int)) := by
  by_cases h : r ∈ l
  · obtain ⟨A, B, e, hA⟩ : ∃ A B, l = A ++ r :: B ∧ r ∉ A := by
      exact mem_first h
    have hlen : A.length + B.length ≤ 100000 := by rw [e] at hl; simp at hl; omega
    exact ⟨_, by rw [e]; exact index_at hA hlen, .inr ⟨A, B, e, rfl⟩⟩
  · exact ⟨_, index_none h hl, .inl rfl⟩
theorem figures_tot {s : St22} {l : List Int} (hz : okZ s.Zero_) (hi : i32P l) (hl : l.length ≤ 1000) :
    Tot (shape_figures s l) (fun y => y.2 = true → ∃ m : List Nat, y.1 = up m ∧ digP m ∧ m.length = l.length ∧ ∀ r ∈ l, isD s r) := by
  unfold shape_figures
  refine Tot.join ?_
  refine loop_row l (fun pre => ((pre.length : Int), up (pre.map fun r => (r - s.Zero_).toNat))) (fun pre => ∀ r ∈ pre, isD s r) _ rfl (fun r hr => by cases hr) (fun pre x suf h hI => ?_) (fun hI => ?_) (by omega)
  · have hlt : pre.length < l.length := by rw [h]; simp
    have hx : nth l (pre.length : Int) = x := by rw [nth_nat hlt]; simp [h]
    have hxi := hi x (by rw [h]; simp)
    simp only
    rw [dT (by omega), inR_nat hlt, hx, value_eq hz hxi]
    by_cases hd : s.Zero_ ≤ x ∧ x ≤ s.Zero_ + 9
    · left
      rw [if_pos hd]
      simp only [cond_true, Option.bind_some, Bool.not_true, cond_false]
      rw [room_of (by simp [up_len]; omega), w64 (by omega) (by omega)]
      refine ⟨?_, fun r hr => ?_⟩
      · simp [up]; omega
      · rcases List.mem_append.1 hr with hr | hr
        · exact hI r hr
        · simp at hr; subst hr; exact hd
    · right
      rw [if_neg hd]
      refine ⟨_, rfl, fun h => ?_⟩
      cases h
  · refine ⟨.inl (up (l.map fun r => (r - s.Zero_).toNat)), by simp only; rw [dF (by omega)]; rfl, ?_⟩
    show Tot _ _
    refine Tot.ret (fun _ => ⟨_, rfl, fun x hx => ?_, by simp, hI⟩)
    obtain ⟨r, hr, rfl⟩ := List.mem_map.1 hx
    have := hI r hr
    unfold isD at this
    omega
theorem readPower_tot {s : St22} {l : List Int} (hz : okZ s.Zero_) (hi : i32P l) (hl : l.length ≤ 1000) :
    Tot (shape_readPower s l) (fun y => y.2 = true → -100000 ≤ y.1 ∧ y.1 ≤ 100000 ∧ ∀ r ∈ l, isD s r ∨ r = s.Minus_ ∨ r = s.Plus_) := by
  unfold shape_readPower
  refine Tot.bind (p := fun q => (q.2 = 1 ∨ q.2 = -1) ∧ i32P q.1 ∧ q.1.length ≤ 1000 ∧ ∀ r ∈ l, r ∈ q.1 ∨ r = s.Minus_ ∨ r = s.Plus_) ?_ (fun q hq => ?_)
  · refine Tot.bind (p := fun b => b = true → 0 < l.length ∧ (nth l 0 = s.Minus_ ∨ nth l 0 = s.Plus_)) ?_ (fun b hb => ?_)
    · refine Tot.ite (fun h => ?_) (fun _ => Tot.ret (fun h => by cases h))
      have h := dTT h
      have hin : inR 0 l.length = true := inR_int (by omega) (by omega)
      exact Tot.yes hin (Tot.ite (fun h1 => Tot.ret (fun _ => ⟨by omega, .inl (dTT h1)⟩)) (fun _ => Tot.yes hin (Tot.ret (fun h2 => ⟨by omega, .inr (dTT h2)⟩))))
    · refine Tot.ite (fun h => ?_) (fun _ => Tot.ret ⟨.inl rfl, hi, hl, fun r hr => .inl hr⟩)
      obtain ⟨h1, h2⟩ := hb h
      have hin : inR 0 l.length = true := inR_int (by omega) (by omega)
      refine Tot.bind (p := fun k => k = 1 ∨ k = -1) (Tot.yes hin (Tot.ite (fun _ => Tot.ret (.inr rfl)) (fun _ => Tot.ret (.inl rfl)))) (fun k hk => ?_)
      refine Tot.yes (inS_of (by omega) (by omega) (by omega)) (Tot.ret ?_)
      cases l with
      | nil => simp at h1
      | cons x t =>
        have ec : cut (x :: t) 1 ((x :: t).length : Int) = t := by
          unfold cut
          rw [Int.toNat_natCast, List.take_length]; rfl
        have e0 : nth (x :: t) 0 = x := rfl
        rw [e0] at h2
        simp only
        rw [ec]
        refine ⟨hk, fun r hr => hi r (List.mem_cons_of_mem _ hr), by simp at hl; omega, fun r hr => ?_⟩
        rcases List.mem_cons.1 hr with rfl | hr
        · exact .inr h2
        · exact .inl hr
  · obtain ⟨q1, q2, q3, q4⟩ := hq
    refine Tot.bind (figures_tot hz q2 q3) (fun y hy => ?_)
    refine Tot.join (Tot.bind (p := fun b => b = false → y.2 = true ∧ y.1.length ≤ 40) ?_ (fun b hb => ?_))
    · refine Tot.ite (fun _ => Tot.ret (fun h => by cases h)) (fun h => Tot.ite (fun _ => Tot.ret (fun h => by cases h)) (fun _ => Tot.ret (fun h2 => ⟨by simpa using h, ?_⟩)))
      have := dFF h2
      omega
    · refine Tot.ite (fun _ => Tot.ret (fun h => by cases h)) (fun h => Tot.ret ?_)
      obtain ⟨h1, h2⟩ := hb h
      obtain ⟨m, e1, e2, e3, e4⟩ := hy h1
      show Tot _ _
      rw [e1, up_len]
      rw [e1, up_len] at h2
      refine Tot.bind (p := fun n => 0 ≤ n ∧ n ≤ 100001) ?_ (fun n hn => Tot.ret (fun hd => ?_))
      · refine Tot.loop (fun t : Int × Int => 0 ≤ t.1 ∧ t.1 ≤ 100001 ∧ 0 ≤ t.2) (fun t => ((m.length : Int) - t.2).toNat) ⟨by simp only; omega, by simp only; omega, by simp only; omega⟩ (by simp only; omega) (fun t ht => ?_)
        refine Tot.ite (fun hh => ?_) (fun _ => Tot.ret ⟨ht.1, ht.2.1⟩)
        have hh := dTT hh
        have hc : 0 ≤ nth (up m) t.2 ∧ nth (up m) t.2 ≤ 9 := by
          obtain ⟨k, hk⟩ : ∃ k : Nat, t.2 = k := ⟨t.2.toNat, by omega⟩
          have hk2 : k < m.length := by omega
          rw [hk, up_get hk2, List.getD_eq_getElem?_getD, List.getElem?_eq_getElem hk2]
          have := e2 _ (List.getElem_mem hk2)
          simp
          omega
        refine Tot.yes (inR_int ht.2.2 hh) (Tot.ret ?_)
        rw [w64 (n := nth (up m) t.2) (by omega) (by omega), w64 (n := t.1 * 10) (by omega) (by omega), w64 (n := t.1 * 10 + nth (up m) t.2) (by omega) (by omega), w64 (n := t.2 + 1) (by omega) (by omega)]
        refine ⟨⟨?_, ?_, by simp only; omega⟩, by simp only; omega⟩
        all_goals (simp only; unfold minI; split <;> omega)
      · have hd := dTT hd
        simp only
        have hw : -100000 ≤ IntKind.wrap .i64 (q.2 * n) ∧ IntKind.wrap .i64 (q.2 * n) ≤ 100000 := by
          rcases q1 with q1 | q1 <;> rw [q1, w64 (by omega) (by omega)] <;> omega
        refine ⟨hw.1, hw.2, fun r hr => ?_⟩
        rcases q4 r hr with g | g
        · exact .inl (e4 r g)
        · exact .inr g
def okR (s : St22) (p : St25) (r : Int) : Prop := isD s r ∨ r = s.Dec_ ∨ r = s.Group_ ∨ r = s.Exp_ ∨ (p.Exp_ > 0 ∧ (r = s.Minus_ ∨ r = s.Plus_))
theorem cutPower_tot {s : St22} {p : St25} {l : List Int} (hz : okZ s.Zero_) (hi : i32P l) (hl : l.length ≤ 1000) :
    Tot (shape_cutPower s p l) (fun y => y.2.2 = true → -100000 ≤ y.2.1 ∧ y.2.1 ≤ 100000 ∧ ∃ R, l = y.1 ++ R ∧ ∀ r ∈ R, okR s p r) := by
  unfold shape_cutPower
  refine Tot.ite (fun _ => Tot.ret (fun _ => ⟨by simp only; omega, by simp only; omega, [], by simp, fun r hr => by cases hr⟩)) (fun hx => ?_)
  have hx := dFF hx
  refine Tot.bind (index_tot (r := s.Exp_) (by omega)) (fun i hii => ?_)
  refine Tot.ite (fun _ => Tot.ret (fun h => by cases h)) (fun h0 => ?_)
  have h0 := dFF h0
  rcases hii with hii | ⟨A, B, e, hA⟩
  · omega
  subst hA
  have hll : l.length = A.length + B.length + 1 := by rw [e]; simp; omega
  rw [w64 (n := (A.length : Int) + 1) (by omega) (by omega)]
  refine Tot.yes (inS_of (by omega) (by omega) (by omega)) ?_
  have ec : cut l ((A.length : Int) + 1) (l.length : Int) = B := by rw [e]; exact cut_snd rfl
  have ec2 : cut l 0 (A.length : Int) = A := by rw [e]; exact cut_fst
  rw [ec, ec2]
  refine Tot.bind (readPower_tot hz (fun r hr => hi r (by rw [e]; simp [hr])) (by omega)) (fun y hy => ?_)
  refine Tot.yes (inS_of (by omega) (by omega) (by omega)) (Tot.ret (fun h => ?_))
  obtain ⟨h1, h2, h3⟩ := hy h
  refine ⟨h1, h2, s.Exp_ :: B, e, fun r hr => ?_⟩
  rcases List.mem_cons.1 hr with rfl | hr
  · exact .inr (.inr (.inr (.inl rfl)))
  · rcases h3 r hr with g | g
    · exact .inl g
    · exact .inr (.inr (.inr (.inr ⟨by omega, g⟩)))
theorem cutPart_tot {s : St22} {p : St25} {l : List Int} (hz : okZ s.Zero_) (hi : i32P l) (hl : l.length ≤ 1000) :
    Tot (shape_cutPart s l) (fun y => y.2.2 = true → ∃ (m : List Nat) (R : List Int), y.2.1 = up m ∧ digP m ∧ l = y.1 ++ R ∧ m.length ≤ R.length ∧ ∀ r ∈ R, okR s p r) := by
  unfold shape_cutPart
  refine Tot.bind (index_tot (r := s.Dec_) (by omega)) (fun i hii => ?_)
  refine Tot.ite (fun _ => Tot.ret (fun _ => ⟨[], [], rfl, fun x hx => (by cases hx), by simp, by simp, fun r hr => by cases hr⟩)) (fun h0 => ?_)
  have h0 := dFF h0
  rcases hii with hii | ⟨A, B, e, hA⟩
  · omega
  subst hA
  have hll : l.length = A.length + B.length + 1 := by rw [e]; simp; omega
  rw [w64 (n := (A.length : Int) + 1) (by omega) (by omega)]
  refine Tot.yes (inS_of (by omega) (by omega) (by omega)) ?_
  have ec : cut l ((A.length : Int) + 1) (l.length : Int) = B := by rw [e]; exact cut_snd rfl
  have ec2 : cut l 0 (A.length : Int) = A := by rw [e]; exact cut_fst
  rw [ec, ec2]
  refine Tot.bind (figures_tot hz (fun r hr => hi r (by rw [e]; simp [hr])) (by omega)) (fun y hy => ?_)
  refine Tot.bind (p := fun b => b = true → y.2 = true) (Tot.yes (inS_of (by omega) (by omega) (by omega)) (Tot.ite (fun h => Tot.ret (fun _ => h)) (fun _ => Tot.ret (fun h => by cases h)))) (fun b hb => Tot.ret (fun h => ?_))
  obtain ⟨m, e1, e2, e3, e4⟩ := hy (hb h)
  refine ⟨m, s.Dec_ :: B, e1, e2, e, by simp; omega, fun r hr => ?_⟩
  rcases List.mem_cons.1 hr with rfl | hr
  · exact .inr (.inl rfl)
  · exact .inl (e4 r hr)
theorem equal_tot {A B : List Int} (hl : A.length ≤ 100000) : Tot (slices_Equal A B) (fun _ => True) := by
  unfold slices_Equal
  refine Tot.ite (fun _ => Tot.ret trivial) (fun h => ?_)
  have h := dFF h
  refine Tot.join (Tot.loop (fun i : Int => 0 ≤ i) (fun i => ((A.length : Int) - i).toNat) (by omega) (by omega) (fun i hi => ?_))
  refine Tot.ite (fun hh => ?_) (fun _ => Tot.ret (Tot.ret trivial))
  have hh := dTT hh
  refine Tot.yes (inR_int hi hh) (Tot.yes (inR_int hi (by omega)) (Tot.ite (fun _ => Tot.ret trivial) (fun _ => Tot.ret ?_)))
  rw [w64 (by omega) (by omega)]
  exact ⟨by omega, by omega⟩
theorem ungrouped_tot {s : St22} {p : St25} {l : List Int} {g1 g2 : Int} (hz : okZ s.Zero_) (hi : i32P l) (hl : l.length ≤ 1000) (h1 : 0 ≤ g1 ∧ g1 ≤ 40) (h2 : 0 ≤ g2 ∧ g2 ≤ 40) :
    Tot (sym_Ungrouped s l g1 g2) (fun y => y.2.2 = 10 ∨ (y.2.2 = 0 ∧ ∃ m : List Nat, y.1 = up m ∧ digP m ∧ m.length ≤ l.length ∧ ∀ r ∈ l, okR s p r)) := by
  unfold sym_Ungrouped
  refine Tot.join ?_
  refine loop_row (O := List Int ⊕ (List Int × Int × Int)) l (fun pre => ((pre.length : Int), up ((pre.filter fun r => decide (s.Zero_ ≤ r ∧ r ≤ s.Zero_ + 9)).map fun r => (r - s.Zero_).toNat))) (fun pre => ∀ r ∈ pre, okR s p r) _ rfl (fun r hr => by cases hr) (fun pre x suf h hI => ?_) (fun hI => ?_) (by omega)
  · have hlt : pre.length < l.length := by rw [h]; simp
    have hx : nth l (pre.length : Int) = x := by rw [nth_nat hlt]; simp [h]
    have hxi := hi x (by rw [h]; simp)
    have hfl := List.length_filter_le (fun r => decide (s.Zero_ ≤ r ∧ r ≤ s.Zero_ + 9)) pre
    have hnew : ∀ (hx : okR s p x), ∀ r ∈ pre ++ [x], okR s p r := fun hx r hr => by
      rcases List.mem_append.1 hr with hr | hr
      · exact hI r hr
      · simp at hr; subst hr; exact hx
    simp only
    rw [dT (by omega), inR_nat hlt, hx, value_eq hz hxi]
    by_cases hd : s.Zero_ ≤ x ∧ x ≤ s.Zero_ + 9
    · left
      rw [if_pos hd]
      simp only [cond_true, Option.bind_some]
      rw [room_of (by rw [up_len, List.length_map]; simp only [List.length_cons, List.length_nil]; omega)]
      simp only [cond_true, Option.bind_some, joinX]
      rw [w64 (by omega) (by omega)]
      refine ⟨?_, hnew (.inl hd)⟩
      have hf : (pre ++ [x]).filter (fun r => decide (s.Zero_ ≤ r ∧ r ≤ s.Zero_ + 9)) = pre.filter (fun r => decide (s.Zero_ ≤ r ∧ r ≤ s.Zero_ + 9)) ++ [x] := by
        rw [List.filter_append]; simp [hd]
      rw [hf]
      simp [up]; omega
    · rw [if_neg hd]
      simp only [cond_true, cond_false, Option.bind_some]
      by_cases hG : x = s.Group_
      · left
        rw [dF (by simp [hG])]
        simp only [cond_false, Option.bind_some, joinX]
        rw [w64 (by omega) (by omega)]
        refine ⟨?_, hnew (.inr (.inr (.inl hG)))⟩
        have hf : (pre ++ [x]).filter (fun r => decide (s.Zero_ ≤ r ∧ r ≤ s.Zero_ + 9)) = pre.filter (fun r => decide (s.Zero_ ≤ r ∧ r ≤ s.Zero_ + 9)) := by
          rw [List.filter_append]; simp [hd]
        rw [hf]
        simp
      · right
        rw [dT hG]
        exact ⟨_, rfl, .inl rfl⟩
  · refine ⟨.inl (up ((l.filter fun r => decide (s.Zero_ ≤ r ∧ r ≤ s.Zero_ + 9)).map fun r => (r - s.Zero_).toNat)), by simp only; rw [dF (by omega)]; rfl, ?_⟩
    have hfl := List.length_filter_le (fun r => decide (s.Zero_ ≤ r ∧ r ≤ s.Zero_ + 9)) l
    have hdm : digP ((l.filter fun r => decide (s.Zero_ ≤ r ∧ r ≤ s.Zero_ + 9)).map fun r => (r - s.Zero_).toNat) := fun x hx => by
      obtain ⟨r, hr, rfl⟩ := List.mem_map.1 hx
      have := (List.mem_filter.1 hr).2
      simp at this
      omega
    have hml : ((l.filter fun r => decide (s.Zero_ ≤ r ∧ r ≤ s.Zero_ + 9)).map fun r => (r - s.Zero_).toNat).length ≤ l.length := by simpa using hfl
    generalize (l.filter fun r => decide (s.Zero_ ≤ r ∧ r ≤ s.Zero_ + 9)).map (fun r => (r - s.Zero_).toNat) = m at *
    have hgl := gpre_len m s.Group_ g1 g2 m.length
    show Tot (Option.bind (sym_Grouped s (up m) g1 g2) _) _
    rw [grouped_eq hz hdm (by omega) h1 h2]
    refine Tot.bind (p := fun q => q.length ≤ 100000) (Tot.ret (by rw [ren_len]; omega)) (fun q hq => Tot.bind (equal_tot hq) (fun b _ => ?_))
    exact Tot.ite (fun _ => Tot.ret (.inl rfl)) (fun _ => Tot.ret (.inr ⟨rfl, m, rfl, hdm, hml, hI⟩))
theorem read_tot {s : St22} {p : St25} {l : List Int} (hz : okZ s.Zero_) (hp : cntP p) (hi : i32P l) (hl : l.length ≤ 300) :
    Tot (shape_Read s p l) (fun y => (y.2 = 10 ∧ y.1 = ⟨false, [], 0⟩) ∨ (y.2 = 0 ∧ ∃ c E, y.1 = ⟨false, up c, E⟩ ∧ rightP c E ∧ ∀ r ∈ l, okR s p r)) := by
  obtain ⟨c1, c2, c3, c4, c5, c6, c7, c8, c9⟩ := hp
  unfold shape_Read
  refine Tot.bind (cutPower_tot (p := p) hz hi (by omega)) (fun y hy => ?_)
  refine Tot.ite (fun _ => Tot.ret (.inl ⟨rfl, rfl⟩)) (fun h => ?_)
  obtain ⟨a1, a2, R, e1, r1⟩ := hy (by simpa using h)
  have hi1 : i32P y.1 := fun r hr => hi r (by rw [e1]; simp [hr])
  have hl1 : y.1.length + R.length = l.length := by rw [e1]; simp
  refine Tot.bind (cutPart_tot (p := p) hz hi1 (by omega)) (fun y2 hy2 => ?_)
  refine Tot.ite (fun _ => Tot.ret (.inl ⟨rfl, rfl⟩)) (fun h2 => ?_)
  obtain ⟨m2, R2, f1, f2, e2, hm2, r2⟩ := hy2 (by simpa using h2)
  have hi2 : i32P y2.1 := fun r hr => hi1 r (by rw [e2]; simp [hr])
  have hl2 : y2.1.length + R2.length = y.1.length := by rw [e2]; simp
  refine Tot.bind (ungrouped_tot (p := p) hz hi2 (by omega) c5 c6) (fun y3 hy3 => ?_)
  refine Tot.ite (fun _ => Tot.ret (.inl ⟨rfl, rfl⟩)) (fun h3 => ?_)
  have h3 := dFF h3
  rcases hy3 with hy3 | ⟨_, m3, g1, g2, g3, r3⟩
  · omega
  rw [g1, f1]
  simp only [up_len]
  refine Tot.yes (room_of (by omega)) ?_
  rw [← up_append, w64 (by omega) (by omega)]
  obtain ⟨a, b, core, hzz, hcb, hh, ht⟩ := strip (m3 ++ m2)
  have hdz : digP (m3 ++ m2) := dig_append g2 f2
  rw [norm_is (neg := false) hzz hcb hh ht hdz (by simp; omega) (by omega) (by omega)]
  have hall : ∀ r ∈ l, okR s p r := fun r hr => by
    rw [e1, e2] at hr
    rcases List.mem_append.1 hr with hr | hr
    · rcases List.mem_append.1 hr with hr | hr
      · exact r3 r hr
      · exact r2 r hr
    · exact r1 r hr
  have hle : m3.length + m2.length ≤ 300 := by omega
  refine Tot.bind (p := fun q => (q.2 = 11) ∨ (q.2 = 0 ∧ ∃ c E, q.1 = ⟨false, up c, E⟩ ∧ rightP c E)) (Tot.ret ?_) (fun q hq => ?_)
  · unfold normV
    by_cases h0 : core = []
    · rw [if_pos h0]
      exact .inr ⟨rfl, [], 0, rfl, ⟨fun x hx => (by cases hx), fun _ => rfl, fun h => absurd rfl h⟩⟩
    · rw [if_neg h0]
      by_cases hr : rightP core (y.2.1 - (m2.length : Int) + b)
      · rw [if_pos hr]
        exact .inr ⟨rfl, core, _, rfl, hr⟩
      · rw [if_neg hr]; exact .inl rfl
  · refine Tot.ite (fun _ => Tot.ret (.inl ⟨rfl, rfl⟩)) (fun h5 => Tot.ret ?_)
    have h5 := dFF h5
    rcases hq with hq | ⟨_, c, E, q1, q2⟩
    · omega
    · exact .inr ⟨rfl, c, E, q1, q2, hall⟩
/-- What is written of a right number is read as it was. -/
theorem back_gen {s : St22} {p : St25} {n : Int} {l : List Nat} {E : Int} {neg : Bool} (hg : goodP s) (hc : cntP p) (hn : n ≤ 40) (h : rightP l E) (hGr : -2147483648 ≤ s.Group_ ∧ s.Group_ ≤ 2147483647) :
    ∃ X, shape_Write s p n ⟨neg, up l, E⟩ = some X ∧ shape_Read s p X = some (⟨false, up l, E⟩, 0) := by
  obtain ⟨a, b, e, eneg, ha, hb, ha7, hb11, hr, g1, g2, g3, g4, g5, g6, hw⟩ := write_gen (n := n) hc hn h
  have hz := zs_ok hg.1
  refine ⟨_, hw neg s hz, ?_⟩
  have hc' := hc
  obtain ⟨c1, c2, c3, c4, c5, c6, c7, c8, c9⟩ := hc
  have hlow := right_low hr
  have hlow2 := right_low h
  have hE0 : bareE p l E + bareP p l E = E := by
    unfold bareE bareP
    by_cases hx : p.Exp_ < 1
    · rw [if_pos hx, if_pos hx]; omega
    · rw [if_neg hx, if_neg hx]
      by_cases h0 : l = []
      · rw [if_pos h0, if_pos h0]; omega
      · rw [if_neg h0, if_neg h0]; omega
  have hP : -1000 ≤ bareP p l E ∧ bareP p l E ≤ 2000 := by
    unfold bareP; split
    · omega
    · split
      · omega
      · rename_i h0
        have hpos : 0 < l.length := List.length_pos_iff.2 h0
        omega
  have hP0 : p.Exp_ < 1 → bareP p l E = 0 := fun h => by unfold bareP; rw [if_pos h]
  have hmg : l = [] ∨ magE l (bareE p l E) < a := by
    by_cases h0 : l = []
    · exact .inl h0
    · unfold aheadV at ha
      rw [if_neg h0] at ha
      right; omega
  have hbE : -(b : Int) ≤ bareE p l E := by unfold behindV at hb; omega
  have hv := shown_gen hr hmg hbE ha7 hb11
  rw [← figs_split] at hv
  have hdW := figs_dig (magN l (bareE p l E)) (a - 1) a
  have hlW := figs_len (magN l (bareE p l E)) (a - 1) a
  have hdQ := figs_dig (magN l (bareE p l E)) (-1) b
  have hlQ := figs_len (magN l (bareE p l E)) (-1) b
  generalize figs (magN l (bareE p l E)) ((a : Int) - 1) a = W at *
  generalize figs (magN l (bareE p l E)) (-1) b = Q at *
  have ap : ∀ r, r ∈ six s → ¬ (s.Zero_ ≤ r ∧ r ≤ s.Zero_ + 9) := fun r hr => plain_apart hg.1 (good_in hg hr)
  have aG := ap s.Group_ (by simp [six])
  have aD := ap s.Dec_ (by simp [six])
  have aM := ap s.Minus_ (by simp [six])
  have aP := ap s.Plus_ (by simp [six])
  have aE := ap s.Exp_ (by simp [six])
  have nDG : s.Dec_ ≠ s.Group_ := hg.2.2 1 0 (by decide) (by decide)
  have nDE : s.Dec_ ≠ s.Exp_ := hg.2.2 5 0 (by decide) (by decide)
  have nGE : s.Group_ ≠ s.Exp_ := hg.2.2 5 1 (by decide) (by decide)
  have nMP : s.Minus_ ≠ s.Plus_ := hg.2.2 3 2 (by decide) (by decide)
  have hun := ungrouped_eq hz hdW (by omega) c5 c6 aG hGr
  rw [hlW] at hun
  have hokG : ∀ x ∈ gpre W s.Group_ p.G1_ p.G2_ a, okI [s.Group_] x := gpre_ok hdW (by simp) _ (by omega)
  have hlG := gpre_len W s.Group_ p.G1_ p.G2_ a
  generalize gpre W s.Group_ p.G1_ p.G2_ a = X at *
  have hlY : (X ++ (if b = 0 then [] else It.g s.Dec_ :: Q.map It.d)).length ≤ 10000 := by
    split <;> simp <;> omega
  have hokY : ∀ x ∈ X ++ (if b = 0 then [] else It.g s.Dec_ :: Q.map It.d), okI [s.Group_, s.Dec_] x := fun x hx => by
    rcases List.mem_append.1 hx with hx | hx
    · have := hokG x hx
      cases x with
      | d m => exact this
      | g r => exact List.mem_cons.2 (.inl (by have : r ∈ [s.Group_] := this; simpa using this))
    · split at hx
      · cases hx
      · rcases List.mem_cons.1 hx with rfl | hx
        · simp [okI]
        · obtain ⟨y, hy, rfl⟩ := List.mem_map.1 hx
          exact hdQ y hy
  have hcp := cutPart_eq (s := s) hz hdQ hlQ (by omega) (by omega) (not_ren hokG aD (by simpa using nDG))
  have hcw := cutPower_eq (s := s) (p := p) (e := e) (neg := eneg) hz g1 g2 g6 c9.1 (by omega) hlY (not_ren hokY aE (by simp; exact ⟨nGE.symm, nDE.symm⟩)) aM aP nMP.symm
  have hpow : (if p.Exp_ < 1 then (0 : Int) else if eneg = true then -(vN e : Int) else vN e) = bareP p l E := by
    split
    · rename_i h; rw [hP0 h]
    · rw [g3, g4]
      by_cases h : bareP p l E < 0
      · rw [if_pos (by simpa using h)]; omega
      · rw [if_neg (by simpa using h)]; omega
  rw [hpow] at hcw
  have hdz : digP (W ++ Q) := dig_append hdW hdQ
  have hzl : (W ++ Q).length = a + b := by simp [hlW, hlQ]
  have hvz : vN (W ++ Q) * pw (bareP p l E - b) = magN l E := by
    have h1 : magN (W ++ Q) (-(b : Int)) = magN l (bareE p l E) := hv
    have := shift_mag (P := bareP p l E) h1 (by omega) (by omega) (by omega)
    rw [hE0, show -(b : Int) + bareP p l E = bareP p l E - b by omega] at this
    exact this
  have hnorm := norm_of (neg := false) (e := bareP p l E - b) hdz (by omega) (by omega) (by omega) hvz h
  have hread : shape_Read s p (ren s.Zero_ (X ++ (if b = 0 then [] else It.g s.Dec_ :: Q.map It.d) ++
      (if p.Exp_ > 0 then It.g s.Exp_ :: ((if eneg = true then [It.g s.Minus_] else if p.ExpPlus_ = true then [It.g s.Plus_] else []) ++ e.map It.d) else []))) = some (⟨false, up l, E⟩, 0) := by
    unfold shape_Read
    rw [hcw]
    simp only [Option.bind_some, Bool.not_true, cond_false]
    rw [hcp]
    simp only [Option.bind_some, Bool.not_true, cond_false]
    rw [hun]
    simp only [Option.bind_some, up_len, hlW, hlQ]
    rw [dF (by simp), room_of (by omega), ← up_append, w64 (by omega) (by omega), hnorm]
    rfl
  exact hread

end Go.Proofs.Ytcmmjficmoflkaa
