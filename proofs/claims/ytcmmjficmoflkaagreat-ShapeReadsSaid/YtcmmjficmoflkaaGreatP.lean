/-
 What those functions come to, told by plain functions of lists and numbers. Conditions: as each theorem says.
-/
import Derived.Test.YtcmmjficmoflkaaGreatGd
import Derived.Test.YtcmmjficmoflkaaGreatSyZ
namespace Go.Proofs.YtcmmjficmoflkaaGreat
open Go Go.Sy Go.RowKit Go.ChangeShapes Go.WideShapes Go.ChangeAt
set_option linter.unusedVariables false
set_option linter.unusedSimpArgs false
set_option maxRecDepth 100000
set_option maxHeartbeats 4000000

/-! Figures and their worth. -/
def vN (l : List Nat) : Nat := l.foldl (fun a x => a * 10 + x) 0
theorem vN_snoc (l : List Nat) (x : Nat) : vN (l ++ [x]) = vN l * 10 + x := by simp [vN]
theorem nsnoc_ind {P : List Nat → Prop} (h0 : P []) (hs : ∀ l t, P l → P (l ++ [t])) : ∀ l, P l := by
 have key : ∀ (n : Nat) (l : List Nat), l.length = n → P l := by
  intro n
  induction n with
  | zero => intro l h; rw [List.eq_nil_of_length_eq_zero h]; exact h0
  | succ n ih =>
   intro l h
   rcases List.eq_nil_or_concat l with h1 | ⟨p, c, h1⟩
   ·subst h1; simp at h
   ·rw [List.concat_eq_append] at h1
    subst h1
    exact hs p c (ih p (by simp at h; omega))
 exact fun l => key _ l rfl
theorem vN_append (a : List Nat) : ∀ b, vN (a ++ b) = vN a * 10 ^ b.length + vN b := by
 refine nsnoc_ind (by simp [vN]) (fun b x ih => ?_)
 rw [← List.append_assoc, vN_snoc, ih, vN_snoc, List.length_append, List.length_singleton, Nat.pow_succ, Nat.add_mul, Nat.mul_assoc]; omega
theorem vN_cons (x : Nat) (l : List Nat) : vN (x :: l) = x * 10 ^ l.length + vN l := by
 have := vN_append [x] l
 simpa [vN] using this
def digP (l : List Nat) : Prop := ∀ x ∈ l, x ≤ 9
theorem dig_left {l m : List Nat} (h : digP (l ++ m)) : digP l := fun x hx => h x (List.mem_append_left _ hx)
theorem dig_append {l m : List Nat} (h1 : digP l) (h2 : digP m) : digP (l ++ m) := fun x hx => by
 rcases List.mem_append.1 hx with h | h
 ·exact h1 x h
 ·exact h2 x h
theorem vN_ge {x : Nat} {l : List Nat} (h : x ≠ 0) : 10 ^ l.length ≤ vN (x :: l) := by
 have : 1 * 10 ^ l.length ≤ x * 10 ^ l.length := Nat.mul_le_mul_right _ (by omega)
 rw [vN_cons]; omega
/-- Figures of a number. -/
def digsN (n : Nat) : List Nat := if h : n = 0 then [] else digsN (n / 10) ++ [n % 10]
termination_by n
decreasing_by omega
theorem digsN_zero : digsN 0 = [] := by rw [digsN]; rfl
theorem digsN_pos {n : Nat} (h : n ≠ 0) : digsN n = digsN (n / 10) ++ [n % 10] := by rw [digsN, dif_neg h]
theorem vN_zero {l : List Nat} (h : vN l = 0) (hh : l.head? ≠ some 0) : l = [] := by
 cases l with
 | nil => rfl
 | cons x l =>
  have hx : x ≠ 0 := fun e => hh (by rw [e]; rfl)
  have := vN_ge (l := l) hx
  have := Nat.pow_pos (n := l.length) (show 0 < 10 by decide)
  omega
theorem digs_vN : ∀ l, digP l → l.head? ≠ some 0 → digsN (vN l) = l := by
 refine nsnoc_ind (fun _ _ => by rw [show vN [] = 0 from rfl, digsN_zero]) (fun l x ih h hh => ?_)
 have hx := h x (by simp)
 have hl : l.head? ≠ some 0 := by
  cases l with
  | nil => simp
  | cons y l => simpa using hh
 rw [vN_snoc]
 have hne : vN l * 10 + x ≠ 0 := by
  intro e
  have h1 : vN l = 0 := by omega
  have h2 : x = 0 := by omega
  have := vN_zero h1 hl
  subst this; subst h2
  exact hh rfl
 rw [digsN_pos hne]
 have e1 : (vN l * 10 + x) / 10 = vN l := by omega
 have e2 : (vN l * 10 + x) % 10 = x := by omega
 rw [e1, e2, ih (dig_left h) hl]
theorem vN_last {l : List Nat} (h : digP l) (hne : l ≠ []) (hl : l.getLast? ≠ some 0) : vN l % 10 ≠ 0 := by
 rcases List.eq_nil_or_concat l with h1 | ⟨p, c, h1⟩
 ·exact absurd h1 hne
 ·rw [List.concat_eq_append] at h1
  subst h1
  have := h c (by simp)
  have hc : c ≠ 0 := fun e => hl (by simp [e])
  rw [vN_snoc]; omega

/-- A power of ten, told from one that is far below. -/
def pw (m : Int) : Nat := 10 ^ (m + 3000).toNat
theorem pw_pos (m : Int) : 0 < pw m := Nat.pow_pos (by decide)
theorem pw_add {m : Int} (n : Nat) (h : -3000 ≤ m) : pw (m + n) = pw m * 10 ^ n := by
 unfold pw; rw [← Nat.pow_add]; congr 1; omega
/-- Is it right? -/
def rightP (l : List Nat) (E : Int) : Prop := digP l ∧ (l = [] → E = 0) ∧ (l ≠ [] → l.length ≤ 1000 ∧ -1000 ≤ E ∧ E ≤ 1000 ∧ l.head? ≠ some 0 ∧ l.getLast? ≠ some 0)
def magN (l : List Nat) (E : Int) : Nat := vN l * pw E
theorem right_low {l : List Nat} {E : Int} (h : rightP l E) : -1000 ≤ E ∧ E ≤ 1000 ∧ l.length ≤ 1000 := by
 by_cases hl : l = []
 ·have := h.2.1 hl; subst hl; simp; omega
 ·have := h.2.2 hl; omega
theorem right_head {l : List Nat} {E : Int} (h : rightP l E) : l.head? ≠ some 0 := by
 by_cases hl : l = []
 ·subst hl; simp
 ·exact (h.2.2 hl).2.2.2.1
/-- Right figures that are worth as much are the same. -/
theorem right_same {l m : List Nat} {E G : Int} (h1 : rightP l E) (h2 : rightP m G) (h : magN l E = magN m G) : l = m ∧ E = G := by
 have key : ∀ {l m : List Nat} {E G : Int}, rightP l E → rightP m G → magN l E = magN m G → E ≤ G → l = m ∧ E = G := by
  intro l m E G h1 h2 h hle
  have l1 := right_low h1
  have l2 := right_low h2
  unfold magN at h
  obtain ⟨n, hn⟩ : ∃ n : Nat, G = E + n := ⟨(G - E).toNat, by omega⟩
  have hp := pw_add (m := E) n (by omega)
  rw [← hn] at hp
  rw [hp, Nat.mul_comm (pw E), ← Nat.mul_assoc] at h
  have hv : vN l = vN m * 10 ^ n := Nat.eq_of_mul_eq_mul_right (pw_pos E) h
  by_cases hl : l = []
  ·subst hl
   have h0 : vN m * 10 ^ n = 0 := by rw [← hv]; rfl
   have hm0 : vN m = 0 := by
    rcases Nat.mul_eq_zero.1 h0 with g | g
    ·exact g
    ·exact absurd g (by have := Nat.pow_pos (n := n) (show 0 < 10 by decide); omega)
   have hm := vN_zero hm0 (right_head h2)
   subst hm
   exact ⟨rfl, by rw [h1.2.1 rfl, h2.2.1 rfl]⟩
  ·have hlast := vN_last h1.1 hl (h1.2.2 hl).2.2.2.2
   have hn0 : n = 0 := by
    apply Decidable.byContradiction
    intro hne
    obtain ⟨q, rfl⟩ : ∃ q, n = q + 1 := ⟨n - 1, by omega⟩
    rw [Nat.pow_succ, ← Nat.mul_assoc] at hv
    omega
   subst hn0
   simp at hv hn
   refine ⟨?_, hn.symm⟩
   rw [← digs_vN l h1.1 (right_head h1), ← digs_vN m h2.1 (right_head h2), hv]
 rcases Int.le_total E G with hle | hle
 ·exact key h1 h2 h hle
 ·obtain ⟨a, b⟩ := key h2 h1 h.symm hle
  exact ⟨a.symm, b.symm⟩

/-! Parsers that always answer. -/
theorem loop_var {S O : Type} {step : S → Option (S ⊕ O)} (I : S → Prop) (μ : S → Nat) (post : O → Prop) {s0 : S} (h0 : I s0) (hb : μ s0 < 18446744073709551616)
  (hs : ∀ s, I s → (∃ s', step s = some (.inl s') ∧ I s' ∧ μ s' < μ s) ∨ ∃ o, step s = some (.inr o) ∧ post o) : ∃ o, loopN step big s0 = some o ∧ post o := by
 have key : ∀ m s, I s → μ s < m → ∃ o, loopN step m s = some o ∧ post o := by
  intro m
  induction m with
  | zero => intro s _ h; omega
  | succ m ih =>
   intro s hi hm
   rcases hs s hi with ⟨s', h1, h2, h3⟩ | ⟨o, h1, h2⟩
   ·rw [loopN_next h1]; exact ih s' h2 (by omega)
   ·exact ⟨o, loopN_out h1, h2⟩
 exact key big s0 h0 hb
def Tot {α : Type} (x : Option α) (p : α → Prop) : Prop := ∃ o, x = some o ∧ p o
theorem Tot.ret {α : Type} {a : α} {p : α → Prop} (h : p a) : Tot (some a) p := ⟨a, rfl, h⟩
theorem Tot.bind {α β : Type} {x : Option α} {k : α → Option β} {p : α → Prop} {q : β → Prop} (h : Tot x p) (hk : ∀ o, p o → Tot (k o) q) : Tot (Option.bind x k) q := by
 obtain ⟨o, rfl, h⟩ := h; exact hk o h
theorem Tot.ite {α : Type} {b : Bool} {t e : Option α} {p : α → Prop} (ht : b = true → Tot t p) (he : b = false → Tot e p) : Tot (bif b then t else e) p := by
 cases b with
 | true => exact ht rfl
 | false => exact he rfl
theorem Tot.yes {α : Type} {b : Bool} {t e : Option α} {p : α → Prop} (h : b = true) (ht : Tot t p) : Tot (bif b then t else e) p := by subst h; exact ht
theorem Tot.mono {α : Type} {x : Option α} {p q : α → Prop} (h : Tot x p) (hq : ∀ o, p o → q o) : Tot x q := by obtain ⟨o, h1, h2⟩ := h; exact ⟨o, h1, hq o h2⟩
def joinP {S X : Type} (k : S → Option X) (p : X → Prop) : S ⊕ X → Prop
 | .inl s => Tot (k s) p
 | .inr r => p r
theorem Tot.join {S X : Type} {x : Option (S ⊕ X)} {k : S → Option X} {p : X → Prop} (h : Tot x (joinP k p)) : Tot (Option.bind x (joinX k)) p := by
 obtain ⟨o, rfl, h⟩ := h
 cases o with
 | inl s => exact h
 | inr r => exact ⟨r, rfl, h⟩
/-- A loop as long as a measure falls. -/
theorem Tot.loop {S O : Type} {step : S → Option (S ⊕ O)} (I : S → Prop) (μ : S → Nat) {post : O → Prop} {s0 : S} (h0 : I s0) (hb : μ s0 < 18446744073709551616)
  (hs : ∀ s, I s → Tot (step s) (fun x => match x with | .inl s' => I s' ∧ μ s' < μ s | .inr o => post o)) : Tot (loopN step big s0) post := by
 refine loop_var I μ post h0 hb (fun s hi => ?_)
 obtain ⟨x, h1, h2⟩ := hs s hi
 cases x with
 | inl s' => exact .inl ⟨s', h1, h2⟩
 | inr o => exact .inr ⟨o, h1, h2⟩
theorem Tot.any {α : Type} {x : Option α} {p : α → Prop} (h : Tot x p) : Tot x (fun _ => True) := h.mono (fun _ _ => trivial)
theorem dTT {p : Prop} [Decidable p] (h : decide p = true) : p := of_decide_eq_true h
theorem dFF {p : Prop} [Decidable p] (h : decide p = false) : ¬ p := of_decide_eq_false h

theorem is_tot (x : Int) : Tot (exergueref01_Is x) (fun _ => True) := by
 unfold exergueref01_Is
 refine Tot.bind (p := fun _ => True) ?_ (fun _ _ => Tot.ret trivial)
 repeat' (first | exact Tot.ret trivial | refine Tot.ite (fun _ => ?_) (fun _ => ?_))
theorem size_tot (x : Int) : Tot (exergueref01_Size x) (fun n => 0 ≤ n ∧ n ≤ 4 ∧ (exergueref01_Is x = some true → 1 ≤ n)) := by
 unfold exergueref01_Size
 obtain ⟨b, hb, _⟩ := is_tot x
 rw [hb]
 cases b with
 | false => exact ⟨0, rfl, by omega, by omega, fun h => by cases h⟩
 | true =>
  show Tot (bif _ then _ else _) _
  repeat' (first | exact Tot.ret ⟨by omega, by omega, fun _ => by omega⟩ | refine Tot.ite (fun _ => ?_) (fun _ => ?_))
theorem bytes_tot (x : Int) : Tot (exergueref01_Bytes x) (fun l => l.length ≤ 4) := by
 unfold exergueref01_Bytes
 refine Tot.bind (size_tot x) (fun _ _ => ?_)
 repeat' (first | exact Tot.ret (by simp) | refine Tot.ite (fun _ => ?_) (fun _ => ?_))
theorem text_tot (x : Int) : Tot (exergueref10_text x) (fun l => l.length ≤ 4) := by
 unfold exergueref10_text
 exact Tot.bind (bytes_tot x) (fun o h => Tot.ret (by simpa [bytesS] using h))
theorem special_tot (x : Int) : Tot (exergueref10_Special x) (fun _ => True) := by
 unfold exergueref10_Special
 refine Tot.join (Tot.bind (p := fun _ => True) ?_ (fun b _ => ?_))
 ·repeat' (first | exact Tot.ret trivial | refine Tot.ite (fun _ => ?_) (fun _ => ?_))
 ·refine Tot.ite (fun _ => Tot.ret trivial) (fun _ => Tot.ret ?_)
  refine Tot.join (Tot.loop (fun s => 0 ≤ s ∧ s ≤ 11) (fun s => (11 - s).toNat) (by omega) (by omega) (fun s hs => ?_))
  refine Tot.ite (fun h => ?_) (fun _ => Tot.ret (Tot.ret trivial))
  have h := dTT h
  refine Tot.yes (inR_int (by omega) (by simpa using h)) (Tot.ite (fun _ => Tot.ret trivial) (fun _ => Tot.ret ?_))
  rw [w64 (by omega) (by omega)]; omega
theorem sign_tot (x : Int) : Tot (exergueref10_Sign x) (fun _ => True) := by
 unfold exergueref10_Sign
 repeat' (first | exact Tot.ret trivial | refine Tot.ite (fun _ => ?_) (fun _ => ?_))
def atV (l : List Int) (i : Int) : Int := if i < l.length then nth l i else -1
theorem at_eq2 {l : List Int} {i : Int} (h : 0 ≤ i) : exergueref10_at l i = some (atV l i) := by
 unfold exergueref10_at atV
 by_cases hi : i < l.length
 ·rw [dT hi, if_pos hi, inR_int h hi]; rfl
 ·rw [dF hi, if_neg hi]; rfl
theorem at_in {l : List Int} {i c : Int} (hc : atV l i = c) (h : c ≠ -1) : i < l.length := by
 unfold atV at hc
 split at hc
 ·assumption
 ·exact absurd hc.symm h
theorem many_tot {l : List Int} {i c : Int} (hl : l.length ≤ 10000) (h : 0 ≤ i) (hi : i ≤ l.length) (hc : c ≠ -1) : Tot (exergueref10_many l i c) (fun n => 0 ≤ n ∧ i + n ≤ l.length) := by
 unfold exergueref10_many
 refine Tot.bind (p := fun n => 0 ≤ n ∧ i + n ≤ l.length) ?_ (fun _ h => Tot.ret h)
 refine Tot.loop (fun s => 0 ≤ s ∧ i + s ≤ l.length) (fun s => (l.length - i - s).toNat) (by omega) (by omega) (fun s hs => ?_)
 rw [w64 (n := i + s) (by omega) (by omega), at_eq2 (by omega)]
 show Tot (bif _ then _ else _) _
 refine Tot.ite (fun hh => Tot.ret ?_) (fun _ => Tot.ret hs)
 have := at_in (dTT hh) hc
 rw [w64 (by omega) (by omega)]; omega
theorem pad_tot {p : St25} {l : List Int} {i w : Int} (hl : l.length ≤ 10000) (h : 0 ≤ i) (hi : i ≤ l.length) : Tot (exergueref10_pad p l i w) (fun o => 0 ≤ o.2.1 ∧ (o.2.2 = true → o.2.1 ≤ l.length) ∧ o.1.MinFrac_ = p.MinFrac_ ∧ o.1.MaxFrac_ = p.MaxFrac_) := by
 unfold exergueref10_pad
 refine Tot.join (Tot.bind (p := fun _ => True) ?_ (fun b _ => ?_))
 ·refine Tot.ite (fun _ => Tot.ret trivial) (fun _ => ?_)
  rw [at_eq2 h]; exact Tot.ret trivial
 ·refine Tot.ite (fun _ => Tot.ret ⟨h, fun _ => hi, rfl, rfl⟩) (fun _ => Tot.ret ?_)
  show Tot _ _
  rw [w64 (n := i + 1) (by omega) (by omega)]
  refine Tot.ite (fun _ => Tot.ret ⟨by simp only; omega, fun h => (by cases h), rfl, rfl⟩) (fun hh => ?_)
  have := dFF hh
  refine Tot.yes (inR_int (by omega) (by omega)) (Tot.ret ⟨?_, fun _ => ?_, rfl, rfl⟩)
  ·simp only; rw [w64 (by omega) (by omega)]; omega
  ·simp only; rw [w64 (by omega) (by omega)]; omega
theorem affix_tot {l : List Int} {i : Int} (hl : l.length ≤ 10000) (h : 0 ≤ i) (hi : i ≤ l.length) : Tot (exergueref10_affix l i) (fun o => 0 ≤ o.2.1 ∧ o.2.1 ≤ l.length) := by
 unfold exergueref10_affix
 refine Tot.join (Tot.loop (fun s : Int × List St106 => 0 ≤ s.1 ∧ s.1 ≤ (l.length : Int) ∧ (s.2.length : Int) ≤ s.1) (fun s => ((l.length : Int) - s.1).toNat) ⟨h, hi, by simpa using h⟩ (by simp only; omega) (fun s hs => ?_))
 refine Tot.ite (fun hh => ?_) (fun hh => Tot.ret (Tot.ret ⟨hs.1, hs.2.1⟩))
 have hlt := dTT hh
 refine Tot.yes (inR_int hs.1 hlt) (Tot.bind (sign_tot _) (fun y _ => Tot.bind (special_tot _) (fun y2 _ => ?_)))
 have e1 : IntKind.wrap .i64 (s.1 + 1) = s.1 + 1 := w64 (by omega) (by omega)
 rw [e1]
 refine Tot.ite (fun _ => Tot.yes (room_of (by simp; omega)) (Tot.ret ⟨⟨by simp only; omega, by simp only; omega, by simp; omega⟩, by simp only; omega⟩)) (fun _ => ?_)
 refine Tot.ite (fun _ => Tot.ite (fun _ => Tot.ret ⟨hs.1, hs.2.1⟩) (fun _ => Tot.yes (room_of (by simp; omega)) (Tot.ret ⟨⟨by simp only; omega, by simp only; omega, by simp; omega⟩, by simp only; omega⟩))) (fun _ => ?_)
 rw [at_eq2 (by omega)]
 show Tot (bif _ then _ else _) _
 refine Tot.ite (fun hq => ?_) (fun hq => ?_)
 ·have := at_in (dTT hq) (by omega)
  refine Tot.yes (room_of (by simp; omega)) (Tot.ret ?_)
  have e2 : IntKind.wrap .i64 (s.1 + 2) = s.1 + 2 := w64 (by omega) (by omega)
  rw [e2]
  exact ⟨⟨by simp only; omega, by simp only; omega, by simp; omega⟩, by simp only; omega⟩
 ·refine Tot.bind (p := fun o : Int × List St106 => s.1 + 1 ≤ o.1 ∧ o.1 ≤ (l.length : Int) ∧ (o.2.length : Int) ≤ o.1) ?_ (fun o ho => ?_)
  ·refine Tot.loop (fun t : Int × List St106 => s.1 + 1 ≤ t.1 ∧ t.1 ≤ (l.length : Int) ∧ (t.2.length : Int) ≤ t.1) (fun t => ((l.length : Int) - t.1).toNat) ⟨by simp only; omega, by simp only; omega, by simp only; omega⟩ (by simp only; omega) (fun t ht => ?_)
   have f1 : IntKind.wrap .i64 (t.1 + 1) = t.1 + 1 := w64 (by omega) (by omega)
   rw [f1]
   refine Tot.join (Tot.bind (p := fun b => b = true → t.1 < l.length ∧ (nth l t.1 = 39 → t.1 + 1 < l.length)) ?_ (fun b hb => ?_))
   ·refine Tot.ite (fun hh => ?_) (fun _ => Tot.ret (fun h => by cases h))
    have h3 := dTT hh
    refine Tot.yes (inR_int (by omega) h3) (Tot.ite (fun hn => Tot.ret (fun _ => ⟨h3, fun he => absurd he (dTT hn)⟩)) (fun _ => ?_))
    rw [at_eq2 (by omega)]
    exact Tot.ret (fun hb => ⟨h3, fun _ => at_in (dTT hb) (by omega)⟩)
   ·cases b with
    | false => exact Tot.ret ht
    | true =>
     obtain ⟨g1, g2⟩ := hb rfl
     refine Tot.ret (show Tot _ _ from ?_)
     refine Tot.yes (inR_int (by omega) g1) (Tot.yes (room_of (by simp; omega)) ?_)
     refine Tot.bind (p := fun v => t.1 ≤ v ∧ v < l.length) (Tot.yes (inR_int (by omega) g1) (Tot.ite (fun hh => Tot.ret ⟨by omega, g2 (dTT hh)⟩) (fun _ => Tot.ret ⟨by omega, g1⟩))) (fun v hv => Tot.ret ?_)
     have f2 : IntKind.wrap .i64 (v + 1) = v + 1 := w64 (by omega) (by omega)
     rw [f2]
     exact ⟨⟨by simp only; omega, by simp only; omega, by simp; omega⟩, by simp only; omega⟩
  ·refine Tot.ite (fun _ => Tot.ret ⟨hs.1, hs.2.1⟩) (fun hh => Tot.ret ?_)
   have h3 := dFF hh
   have f1 : IntKind.wrap .i64 (o.1 + 1) = o.1 + 1 := w64 (by omega) (by omega)
   rw [f1]
   exact ⟨⟨by simp only; omega, by simp only; omega, by simp only; omega⟩, by simp only; omega⟩

/-! Patterns that are read. -/
theorem places_tot {p : St25} {l : List Int} {i : Int} (hl : l.length ≤ 10000) (h : 0 ≤ i) (hi : i ≤ l.length) :
  Tot (exergueref10_places p l i) (fun o => 0 ≤ o.2.1 ∧ o.2.1 ≤ l.length ∧ o.1.MinFrac_ = p.MinFrac_ ∧ o.1.MaxFrac_ = p.MaxFrac_) := by
 unfold exergueref10_places
 refine Tot.loop (fun s : Int × Int × Int × Int × List Int => 0 ≤ s.1 ∧ s.1 ≤ (l.length : Int) ∧ (s.2.2.2.2.length : Int) ≤ s.1) (fun s => ((l.length : Int) - s.1).toNat) ⟨h, hi, by simpa using h⟩ (by simp only; omega) (fun s hs => ?_)
 have e1 : IntKind.wrap .i64 (s.1 + 1) = s.1 + 1 := w64 (by omega) (by omega)
 rw [e1, at_eq2 hs.1, at_eq2 (l := l) (i := s.1 + 1) (by omega)]
 show Tot (Option.bind _ _) _
 refine Tot.join (Tot.bind (p := fun b => b = true → s.1 < l.length) ?_ (fun b hb => ?_))
 ·refine Tot.ite (fun hq => Tot.ret (fun _ => at_in (dTT hq) (by omega))) (fun _ => Tot.ret (fun h => by cases h))
 ·cases b with
  | true =>
   have := hb rfl
   exact Tot.ret ⟨⟨by simp only; omega, by simp only; omega, by simp only; omega⟩, by simp only; omega⟩
  | false =>
   refine Tot.ret (show Tot _ _ from ?_)
   refine Tot.ite (fun hq => ?_) (fun _ => ?_)
   ·have := at_in (dTT hq) (by omega)
    exact Tot.ret ⟨⟨by simp only; omega, by simp only; omega, by simp only; omega⟩, by simp only; omega⟩
   ·refine Tot.join (Tot.bind (p := fun b => b = true → s.1 < l.length) ?_ (fun b hb => ?_))
    ·refine Tot.ite (fun hq => ?_) (fun _ => Tot.ret (fun h => by cases h))
     have := at_in (dTT hq) (by omega)
     repeat' (first | exact Tot.ret (fun _ => this) | refine Tot.ite (fun _ => ?_) (fun _ => ?_))
    ·cases b with
     | true =>
      have h2 := hb rfl
      refine Tot.join (Tot.bind (p := fun _ => True) ?_ (fun b _ => ?_))
      ·refine Tot.ite (fun hq => ?_) (fun _ => Tot.ret trivial)
       have hq := dTT hq
       exact Tot.yes (inR_int (by omega) (by omega)) (Tot.yes (inR_int (by omega) (by omega)) (Tot.ret trivial))
      ·cases b with
       | true => exact Tot.ret ⟨hs.1, hs.2.1, rfl, rfl⟩
       | false =>
        refine Tot.ret (show Tot _ _ from Tot.yes (room_of (by simp; omega)) (Tot.ret ?_))
        exact ⟨⟨by simp only; omega, by simp only; omega, by simp; omega⟩, by simp only; omega⟩
     | false =>
      refine Tot.ret (show Tot _ _ from ?_)
      refine Tot.bind (p := fun _ => True) ?_ (fun y _ => Tot.bind (p := fun _ => True) ?_ (fun z _ => Tot.ret ⟨hs.1, hs.2.1, rfl, rfl⟩))
      ·exact Tot.ite (fun _ => Tot.ret trivial) (fun _ => Tot.ret trivial)
      ·refine Tot.ite (fun hq => ?_) (fun _ => Tot.ret trivial)
       have hq := dTT hq
       exact Tot.yes (inR_int (by omega) (by omega)) (Tot.yes (inR_int (by omega) (by omega)) (Tot.ret trivial))
def pfP (p : St25) : Prop := p.MinFrac_ ≤ p.MaxFrac_
theorem number_tot {p : St25} {l : List Int} {i : Int} (hl : l.length ≤ 10000) (h : 0 ≤ i) (hi : i ≤ l.length) (hp : pfP p) :
  Tot (exergueref10_number p l i) (fun o => 0 ≤ o.2.1 ∧ o.2.1 ≤ l.length ∧ (o.2.2 = true → pfP o.1)) := by
 unfold exergueref10_number
 refine Tot.bind (many_tot hl h hi (by omega)) (fun n hn => ?_)
 have e1 : IntKind.wrap .i64 (i + n) = i + n := w64 (by omega) (by omega)
 rw [e1]
 refine Tot.join (Tot.mono (p := fun x => match x with | .inl s => 0 ≤ s.1 ∧ s.1 ≤ l.length ∧ s.2.2.2.2.2.2.2.2.1 ≤ s.2.2.2.2.2.2.2.2.2.1 | .inr r => 0 ≤ r.2.1 ∧ r.2.1 ≤ l.length ∧ (r.2.2 = true → pfP r.1)) ?_ (fun x hx => ?_))
 ·refine Tot.ite (fun _ => ?_) (fun _ => ?_)
  ·refine Tot.bind (many_tot hl (i := i + n) (by omega) (by omega) (by omega)) (fun m hm => Tot.ret ?_)
   rw [w64 (n := i + n + m) (by omega) (by omega)]
   exact ⟨by simp only; omega, by simp only; omega, hp⟩
  ·refine Tot.bind (places_tot hl h hi) (fun y hy => ?_)
   obtain ⟨y1, y2, y3, y4⟩ := hy
   refine Tot.ite (fun _ => Tot.ret ⟨y1, y2, fun h => (by cases h)⟩) (fun _ => ?_)
   rw [at_eq2 y1]
   show Tot (bif _ then _ else _) _
   refine Tot.ite (fun hq => ?_) (fun _ => Tot.ret ⟨y1, y2, by simp only [y3, y4]; exact hp⟩)
   have hin := at_in (dTT hq) (by omega)
   have f1 : IntKind.wrap .i64 (y.2.1 + 1) = y.2.1 + 1 := w64 (by omega) (by omega)
   rw [f1]
   refine Tot.bind (many_tot hl (i := y.2.1 + 1) (by omega) (by omega) (by omega)) (fun a ha => ?_)
   have f2 : IntKind.wrap .i64 (y.2.1 + 1 + a) = y.2.1 + 1 + a := w64 (by omega) (by omega)
   rw [f2]
   refine Tot.bind (many_tot hl (i := y.2.1 + 1 + a) (by omega) (by omega) (by omega)) (fun b hb => ?_)
   have f3 : IntKind.wrap .i64 (y.2.1 + 1 + a + b) = y.2.1 + 1 + a + b := w64 (by omega) (by omega)
   have f4 : IntKind.wrap .i64 (a + b) = a + b := w64 (by omega) (by omega)
   rw [f3, f4]
   refine Tot.ite (fun _ => Tot.ret ⟨by simp only; omega, by simp only; omega, fun h => (by cases h)⟩) (fun _ => Tot.ret ⟨by simp only; omega, by simp only; omega, by simp only; omega⟩)
 ·cases x with
  | inr r => exact hx
  | inl s =>
   obtain ⟨s1, s2, s3⟩ := hx
   show Tot (Option.bind _ _) _
   rw [at_eq2 s1]
   show Tot (bif _ then _ else _) _
   refine Tot.ite (fun _ => Tot.ret ⟨s1, s2, fun _ => s3⟩) (fun hq => ?_)
   have hq : atV l s.1 = 69 := by have := dFF hq; omega
   have hin := at_in hq (by omega)
   have f1 : IntKind.wrap .i64 (s.1 + 1) = s.1 + 1 := w64 (by omega) (by omega)
   rw [f1, at_eq2 (by omega)]
   refine Tot.bind (p := fun t : Int × Bool => 0 ≤ t.1 ∧ t.1 ≤ (l.length : Int)) ?_ (fun t ht => ?_)
   ·show Tot (bif _ then _ else _) _
    refine Tot.ite (fun hq => ?_) (fun _ => Tot.ret ⟨by simp only; omega, by simp only; omega⟩)
    have := at_in (dTT hq) (by omega)
    rw [w64 (n := s.1 + 1 + 1) (by omega) (by omega)]
    exact Tot.ret ⟨by simp only; omega, by simp only; omega⟩
   ·refine Tot.bind (many_tot hl ht.1 ht.2 (by omega)) (fun n hn => Tot.ret ?_)
    rw [w64 (n := t.1 + n) (by omega) (by omega)]
    exact ⟨by simp only; omega, by simp only; omega, fun _ => s3⟩
theorem first_tot {l : List Int} (hl : l.length ≤ 10000) : Tot (exergueref10_first l) (fun o => o.2.2.2.2 = true → pfP o.1 ∧ 0 ≤ o.2.1 ∧ o.2.2.1 ≤ l.length ∧ 0 ≤ o.2.2.2.1 ∧ o.2.2.2.1 ≤ l.length) := by
 unfold exergueref10_first
 refine Tot.bind (pad_tot hl (by omega) (by omega)) (fun a ha => Tot.ite (fun _ => Tot.ret (fun h => by cases h)) (fun h1 => ?_))
 have h1 : a.2.2 = true := by simpa using h1
 refine Tot.bind (affix_tot hl ha.1 (ha.2.1 h1)) (fun b hb => Tot.ite (fun _ => Tot.ret (fun h => by cases h)) (fun h2 => ?_))
 refine Tot.bind (pad_tot hl hb.1 hb.2) (fun c hc => Tot.ite (fun _ => Tot.ret (fun h => by cases h)) (fun h3 => ?_))
 have h3 : c.2.2 = true := by simpa using h3
 have hpc : pfP c.1 := by unfold pfP; rw [hc.2.2.1, hc.2.2.2]; simp only; rw [ha.2.2.1, ha.2.2.2]; exact Int.le_refl _
 refine Tot.bind (number_tot hl hc.1 (hc.2.1 h3) hpc) (fun d hd => Tot.ite (fun _ => Tot.ret (fun h => by cases h)) (fun h4 => ?_))
 have h4 : d.2.2 = true := by simpa using h4
 refine Tot.bind (pad_tot hl hd.1 hd.2.1) (fun e he => Tot.ite (fun _ => Tot.ret (fun h => by cases h)) (fun h5 => ?_))
 have h5 : e.2.2 = true := by simpa using h5
 refine Tot.bind (affix_tot hl he.1 (he.2.1 h5)) (fun f hf => Tot.ite (fun _ => Tot.ret (fun h => by cases h)) (fun h6 => ?_))
 refine Tot.bind (pad_tot hl hf.1 hf.2) (fun g hg => Tot.ret (fun h7 => ⟨?_, hc.1, hd.2.1, hg.1, hg.2.1 h7⟩))
 unfold pfP
 simp only
 rw [hg.2.2.1, hg.2.2.2]; simp only; rw [he.2.2.1, he.2.2.2]; exact hd.2.2 h4
theorem affix_any {l : List Int} {i : Int} (hl : l.length ≤ 10000) (h : 0 ≤ i) : Tot (exergueref10_affix l i) (fun _ => True) := by
 by_cases hi : i ≤ l.length
 ·exact (affix_tot hl h hi).any
 ·unfold exergueref10_affix
  refine Tot.join (Tot.loop (fun s : Int × List St106 => (l.length : Int) < s.1) (fun _ => 0) (by simp only; omega) (by decide) (fun s hs => ?_))
  rw [dF (show ¬ s.1 < (l.length : Int) by omega)]
  exact Tot.ret (Tot.ret trivial)
theorem second_tot {p : St25} {l : List Int} {i a b : Int} (hl : l.length ≤ 10000) (h : 0 ≤ i) (hi : i ≤ l.length) (ha : 0 ≤ a) (hb : b ≤ l.length) (hp : pfP p) :
  Tot (exergueref10_second p l i a b) (fun o => pfP o.1) := by
 unfold exergueref10_second
 refine Tot.bind (affix_tot hl h hi) (fun c hc => Tot.ite (fun _ => Tot.ret hp) (fun _ => ?_))
 refine Tot.join (Tot.mono (p := fun x => match x with | .inl s => 0 ≤ s | .inr r => pfP r.1) ?_ (fun x hx => ?_))
 ·refine Tot.loop (fun s : Int × Int => 0 ≤ s.1 ∧ s.1 ≤ (l.length : Int) + s.2 ∧ 0 ≤ s.2) (fun s => (b - s.2).toNat) ⟨hc.1, by simp only; omega, ha⟩ (by simp only; omega) (fun s hs => ?_)
  refine Tot.ite (fun hh => ?_) (fun _ => Tot.ret hs.1)
  have hh := dTT hh
  rw [at_eq2 hs.1]
  show Tot (bif _ then _ else _) _
  refine Tot.yes (inR_int hs.2.2 (by omega)) (Tot.ite (fun _ => Tot.ret hp) (fun hq => Tot.ret ?_))
  have e1 : IntKind.wrap .i64 (s.1 + 1) = s.1 + 1 := w64 (by omega) (by omega)
  have e2 : IntKind.wrap .i64 (s.2 + 1) = s.2 + 1 := w64 (by omega) (by omega)
  rw [e1, e2]
  exact ⟨⟨by simp only; omega, by simp only; omega, by simp only; omega⟩, by simp only; omega⟩
 ·cases x with
  | inr r => exact hx
  | inl s =>
   show Tot _ _
   exact Tot.bind (affix_any hl hx) (fun d hd => Tot.ret hp)

/-! Texts of patterns, read: there is an answer. -/
theorem tails_tot {b : List Int} {at' k n : Int} (hl : b.length ≤ 100000) (h : 0 ≤ at') (ha : at' ≤ b.length) (hk : 0 ≤ k) (hk2 : k ≤ 3) : Tot (exergueref01_tails b at' k n) (fun _ => True) := by
 unfold exergueref01_tails
 rw [w64 (n := at' + k) (by omega) (by omega)]
 refine Tot.ite (fun _ => Tot.ret trivial) (fun hh => ?_)
 have hh := dFF hh
 refine Tot.join (Tot.loop (fun s : Int × Int => 1 ≤ s.2 ∧ s.2 ≤ k + 1) (fun s => (k + 1 - s.2).toNat) ⟨by simp only; omega, by simp only; omega⟩ (by simp only; omega) (fun s hs => ?_))
 refine Tot.ite (fun hq => ?_) (fun _ => Tot.ret (Tot.ret trivial))
 have hq := dTT hq
 have e1 : IntKind.wrap .i64 (at' + s.2) = at' + s.2 := w64 (by omega) (by omega)
 have e2 : IntKind.wrap .i64 (s.2 + 1) = s.2 + 1 := w64 (by omega) (by omega)
 rw [e1, e2]
 refine Tot.join (Tot.yes (inR_int (by omega) (by omega)) ?_)
 refine Tot.join (Tot.bind (p := fun _ => True) ?_ (fun c _ => ?_))
 ·exact Tot.ite (fun _ => Tot.ret trivial) (fun _ => Tot.ret trivial)
 ·cases c with
  | true => exact Tot.ret trivial
  | false => exact Tot.ret (Tot.ret (Tot.ret ⟨⟨by simp only; omega, by simp only; omega⟩, by simp only; omega⟩))
theorem one_tot {b : List Int} {at' : Int} (hl : b.length ≤ 100000) (h : 0 ≤ at') (ha : at' < b.length) : Tot (exergueref01_one b at') (fun n => n < 0 ∨ exergueref01_Is (IntKind.wrap .i32 n) = some true) := by
 unfold exergueref01_one
 refine Tot.yes (inR_int h ha) ?_
 have ht : ∀ k n, 0 ≤ k → k ≤ 3 → Tot (exergueref01_tails b at' k n) (fun _ => True) := fun k n h1 h2 => tails_tot hl h (by omega) h1 h2
 refine Tot.bind (p := fun _ => True) (Tot.ite (fun _ => Tot.ret trivial) (fun _ => Tot.ret trivial)) (fun a _ => ?_)
 refine Tot.bind (p := fun _ => True) ?_ (fun a _ => Tot.bind (p := fun _ => True) ?_ (fun a _ => Tot.bind (p := fun _ => True) ?_ (fun a _ => ?_)))
 ·refine Tot.bind (p := fun _ => True) (Tot.ite (fun _ => Tot.ret trivial) (fun _ => Tot.ret trivial)) (fun _ _ => Tot.ite (fun _ => Tot.bind (ht 1 _ (by omega) (by omega)) (fun _ _ => Tot.ret trivial)) (fun _ => Tot.ret trivial))
 ·refine Tot.bind (p := fun _ => True) (Tot.ite (fun _ => Tot.ret trivial) (fun _ => Tot.ret trivial)) (fun _ _ => Tot.ite (fun _ => Tot.bind (ht 2 _ (by omega) (by omega)) (fun _ _ => Tot.ret trivial)) (fun _ => Tot.ret trivial))
 ·refine Tot.bind (p := fun _ => True) (Tot.ite (fun _ => Tot.ret trivial) (fun _ => Tot.ret trivial)) (fun _ _ => Tot.ite (fun _ => Tot.bind (ht 3 _ (by omega) (by omega)) (fun _ _ => Tot.ret trivial)) (fun _ => Tot.ret trivial))
 ·obtain ⟨v, hv, _⟩ := is_tot (IntKind.wrap .i32 a.1)
  rw [hv]
  show Tot (Option.bind _ _) _
  refine Tot.join (Tot.bind (p := fun c => c = false → v = true) (Tot.ite (fun _ => Tot.ret (fun h => by cases h)) (fun _ => Tot.ret (fun h => by simpa using h))) (fun c hc => ?_))
  cases c with
  | true => exact Tot.ret (.inl (by decide))
  | false => exact Tot.ret (Tot.ret (.inr (by rw [hv, hc rfl])))
theorem decode_tot {b : List Int} (hl : b.length ≤ 100000) : Tot (exergueref01_Decode b) (fun _ => True) := by
 unfold exergueref01_Decode
 refine Tot.join (Tot.loop (fun s : Int × List Int => 0 ≤ s.1 ∧ s.1 ≤ (b.length : Int) + 4 ∧ (s.2.length : Int) ≤ s.1) (fun s => ((b.length : Int) + 4 - s.1).toNat) ⟨by simp only; omega, by simp only; omega, by simp⟩ (by simp only; omega) (fun s hs => ?_))
 refine Tot.ite (fun hq => ?_) (fun _ => Tot.ret (Tot.ret trivial))
 have hq := dTT hq
 refine Tot.bind (one_tot hl hs.1 hq) (fun n hn => Tot.ite (fun _ => Tot.ret trivial) (fun hneg => ?_))
 have hneg := dFF hneg
 have his := hn.resolve_left hneg
 refine Tot.yes (room_of (by simp; omega)) (Tot.bind (size_tot _) (fun z hz => Tot.ret ?_))
 have h1 := hz.2.2 his
 have e1 : IntKind.wrap .i64 (s.1 + z) = s.1 + z := w64 (by omega) (by omega)
 rw [e1]
 exact ⟨⟨by simp only; omega, by simp only; omega, by simp; omega⟩, by simp only; omega⟩
theorem times_tot {t : List UInt8} {n : Int} (ht : t.length ≤ 1) (hn : n ≤ 1000) : Tot (exergueref10_times t n) (fun l => l.length ≤ 1000) := by
 unfold exergueref10_times
 refine Tot.bind (p := fun l => l.length ≤ 1000) ?_ (fun _ h => Tot.ret h)
 refine Tot.loop (fun s : List UInt8 × Int => 0 ≤ s.2 ∧ s.2 ≤ 1000 ∧ (s.1.length : Int) ≤ s.2) (fun s => (1000 - s.2).toNat) ⟨by simp only; omega, by simp only; omega, by simp⟩ (by simp only; omega) (fun s hs => ?_)
 refine Tot.ite (fun hq => ?_) (fun _ => Tot.ret (by simp only; omega))
 have hq := dTT hq
 refine Tot.yes (room_of (by omega)) (Tot.ret ?_)
 have e1 : IntKind.wrap .i64 (s.2 + 1) = s.2 + 1 := w64 (by omega) (by omega)
 rw [e1]
 exact ⟨⟨by simp only; omega, by simp only; omega, by simp; omega⟩, by simp only; omega⟩
/-- All counts are in bounds. -/
def cntP (p : St25) : Prop := (0 ≤ p.Hash_ ∧ p.Hash_ ≤ 40) ∧ (0 ≤ p.MinInt_ ∧ p.MinInt_ ≤ 40) ∧ (0 ≤ p.MinFrac_ ∧ p.MinFrac_ ≤ 40) ∧ (0 ≤ p.MaxFrac_ ∧ p.MaxFrac_ ≤ 40) ∧ (0 ≤ p.G1_ ∧ p.G1_ ≤ 40) ∧ (0 ≤ p.G2_ ∧ p.G2_ ≤ 40) ∧ (0 ≤ p.MinSig_ ∧ p.MinSig_ ≤ 40) ∧ (0 ≤ p.MaxSig_ ∧ p.MaxSig_ ≤ 40) ∧ (0 ≤ p.Exp_ ∧ p.Exp_ ≤ 40)
theorem number_text {p : St25} (hp : cntP p) : Tot (exergueref10_Number p) (fun l => l.length ≤ 8000) := by
 obtain ⟨c1, c2, c3, c4, c5, c6, c7, c8, c9⟩ := hp
 unfold exergueref10_Number
 have e0 : IntKind.wrap .i64 (p.Hash_ + p.MinInt_) = p.Hash_ + p.MinInt_ := w64 (by omega) (by omega)
 have e1 : IntKind.wrap .i64 (p.MaxSig_ - p.MinSig_) = p.MaxSig_ - p.MinSig_ := w64 (by omega) (by omega)
 have e2 : IntKind.wrap .i64 (p.MaxFrac_ - p.MinFrac_) = p.MaxFrac_ - p.MinFrac_ := w64 (by omega) (by omega)
 rw [e0, e1, e2]
 refine Tot.bind (p := fun l => l.length ≤ 200) ?_ (fun a ha => ?_)
 ·refine Tot.loop (fun s : List UInt8 × Int => 0 ≤ s.2 ∧ s.2 ≤ 80 ∧ (s.1.length : Int) ≤ 2 * s.2) (fun s => (80 - s.2).toNat) ⟨by simp only; omega, by simp only; omega, by simp⟩ (by simp only; omega) (fun s hs => ?_)
  refine Tot.ite (fun hq => ?_) (fun _ => Tot.ret (by simp only; omega))
  have hq := dTT hq
  have f1 : IntKind.wrap .i64 (s.2 + 1) = s.2 + 1 := w64 (by omega) (by omega)
  rw [f1]
  refine Tot.bind (p := fun l => (l.length : Int) ≤ s.1.length + 2) ?_ (fun b hb => Tot.ret ⟨⟨by simp only; omega, by simp only; omega, by simp only; omega⟩, by simp only; omega⟩)
  refine Tot.bind (p := fun l => (l.length : Int) ≤ s.1.length + 1) ?_ (fun b hb => ?_)
  ·refine Tot.bind (p := fun _ => True) ?_ (fun g _ => Tot.ite (fun _ => Tot.yes (room_of (by simp; omega)) (Tot.ret (by simp))) (fun _ => Tot.ret (by omega)))
   refine Tot.ite (fun _ => Tot.ite (fun _ => Tot.ret trivial) (fun _ => Tot.ite (fun _ => Tot.ite (fun hg => ?_) (fun _ => Tot.ret trivial)) (fun _ => Tot.ret trivial))) (fun _ => Tot.ret trivial)
   have hg := dTT hg
   exact Tot.yes (by unfold nz; rw [dF (by omega)]; rfl) (Tot.ret trivial)
  ·exact Tot.ite (fun _ => Tot.yes (room_of (by simp; omega)) (Tot.ret (by simp; omega))) (fun _ => Tot.yes (room_of (by simp; omega)) (Tot.ret (by simp; omega)))
 ·refine Tot.bind (times_tot (by simp) (by omega)) (fun b hb => Tot.bind (times_tot (by simp) (by omega)) (fun c hc => ?_))
  refine Tot.yes (room_of (by omega)) (Tot.yes (room_of (by simp; omega)) ?_)
  refine Tot.bind (p := fun l => l.length ≤ 5000) ?_ (fun d hd => ?_)
  ·refine Tot.ite (fun _ => Tot.yes (room_of (by simp; omega)) (Tot.bind (times_tot (by simp) (by omega)) (fun e he => Tot.yes (room_of (by simp; omega)) (Tot.bind (times_tot (by simp) (by omega)) (fun f hf => Tot.yes (room_of (by simp; omega)) (Tot.ret (by simp; omega))))))) (fun _ => Tot.ret (by simp; omega))
  ·refine Tot.bind (p := fun l => l.length ≤ 8000) ?_ (fun d hd => Tot.ret hd)
   refine Tot.ite (fun _ => Tot.yes (room_of (by simp; omega)) (Tot.bind (p := fun l => l.length ≤ 5002) ?_ (fun e he => Tot.bind (times_tot (by simp) (by omega)) (fun f hf => Tot.yes (room_of (by omega)) (Tot.ret (by simp; omega)))))) (fun _ => Tot.ret (by omega))
   exact Tot.ite (fun _ => Tot.yes (room_of (by simp; omega)) (Tot.ret (by simp; omega))) (fun _ => Tot.ret (by simp; omega))
theorem written_tot {l : List St106} (hl : l.length ≤ 300) : Tot (exergueref10_written l) (fun t => t.length ≤ 3000) := by
 unfold exergueref10_written
 refine Tot.bind (p := fun s => s.1.length ≤ 2999) ?_ (fun s hs => Tot.bind (p := fun t => t.length ≤ 3000) (Tot.ite (fun _ => Tot.yes (room_of (by simp; omega)) (Tot.ret (by simp; omega))) (fun _ => Tot.ret (by omega))) (fun _ h => Tot.ret h))
 refine Tot.loop (fun s : List UInt8 × Bool × Int => 0 ≤ s.2.2 ∧ s.2.2 ≤ (l.length : Int) ∧ (s.1.length : Int) ≤ 8 * s.2.2) (fun s => ((l.length : Int) - s.2.2).toNat) ⟨by simp only; omega, by simp only; omega, by simp⟩ (by simp only; omega) (fun s hs => ?_)
 refine Tot.ite (fun hq => ?_) (fun _ => Tot.ret (by simp only; omega))
 have hq := dTT hq
 have hin := inR_int hs.1 hq
 have f1 : IntKind.wrap .i64 (s.2.2 + 1) = s.2.2 + 1 := w64 (by omega) (by omega)
 rw [f1]
 refine Tot.bind (p := fun t => (t.1.length : Int) ≤ s.1.length + 8) ?_ (fun t ht => Tot.ret ⟨⟨by simp only; omega, by simp only; omega, by simp only; omega⟩, by simp only; omega⟩)
 refine Tot.yes hin (Tot.bind (special_tot _) (fun sp _ => Tot.bind (p := fun _ => True) ?_ (fun ap _ => Tot.bind (p := fun _ => True) ?_ (fun qu _ => Tot.bind (p := fun t => (t.1.length : Int) ≤ s.1.length + 1) ?_ (fun t ht => ?_)))))
 ·exact Tot.yes hin (Tot.ite (fun _ => Tot.yes hin (Tot.ret trivial)) (fun _ => Tot.ret trivial))
 ·exact Tot.yes hin (Tot.ite (fun _ => Tot.ret trivial) (fun _ => Tot.ret trivial))
 ·exact Tot.bind (p := fun _ => True) (Tot.ite (fun _ => Tot.ret trivial) (fun _ => Tot.ret trivial)) (fun _ _ => Tot.ite (fun _ => Tot.yes (room_of (by simp; omega)) (Tot.ret (by simp))) (fun _ => Tot.ret (by simp only; omega)))
 ·have sgn : ∀ c : UInt8, Tot (bif room (t.1.length + ([c] : List UInt8).length) then (some ((t.1 ++ ([c] : List UInt8)), t.2)) else none) (fun u => (u.1.length : Int) ≤ s.1.length + 8) := fun c => Tot.yes (room_of (by simp; omega)) (Tot.ret (by simp; omega))
  refine Tot.yes hin (Tot.ite (fun _ => Tot.yes hin (Tot.bind (text_tot _) (fun x hx => Tot.yes (room_of (by omega)) (Tot.ite (fun _ => Tot.yes (room_of (by simp; omega)) (Tot.ret (by simp; omega))) (fun _ => Tot.ret (by simp; omega)))))) (fun _ => Tot.ite (fun _ => sgn _) (fun _ => Tot.ite (fun _ => sgn _) (fun _ => Tot.ite (fun _ => sgn _) (fun _ => Tot.ite (fun _ => ?_) (fun _ => Tot.ret (by simp only; omega)))))))
  exact Tot.bind (text_tot _) (fun x hx => Tot.yes (room_of (by omega)) (Tot.ret (by simp; omega)))
theorem padded_tot (p : St25) (w : Int) : Tot (exergueref10_padded p w) (fun t => t.length ≤ 5) := by
 unfold exergueref10_padded
 exact Tot.ite (fun _ => Tot.bind (text_tot _) (fun x hx => Tot.yes (room_of (by simp; omega)) (Tot.ret (by simp; omega)))) (fun _ => Tot.ret (by simp))
theorem ptext_tot {p : St25} (hp : cntP p) (h1 : p.Pre_.length ≤ 300) (h2 : p.Suf_.length ≤ 300) (h3 : p.NPre_.length ≤ 300) (h4 : p.NSuf_.length ≤ 300) : Tot (exergueref10_Text p) (fun t => t.length ≤ 50000) := by
 unfold exergueref10_Text
 refine Tot.bind (padded_tot p 1) (fun a ha => Tot.bind (written_tot h1) (fun b hb => Tot.yes (room_of (by omega)) ?_))
 refine Tot.bind (padded_tot p 2) (fun c hc => Tot.yes (room_of (by simp; omega)) (Tot.bind (number_text hp) (fun d hd => Tot.yes (room_of (by simp; omega)) ?_)))
 refine Tot.bind (padded_tot p 3) (fun e he => Tot.yes (room_of (by simp; omega)) (Tot.bind (written_tot h2) (fun f hf => Tot.yes (room_of (by simp; omega)) ?_)))
 refine Tot.bind (padded_tot p 4) (fun g hg => Tot.yes (room_of (by simp; omega)) ?_)
 refine Tot.bind (p := fun t => t.length ≤ 50000) ?_ (fun _ h => Tot.ret h)
 refine Tot.ite (fun _ => ?_) (fun _ => Tot.ret (by simp; omega))
 refine Tot.yes (room_of (by simp; omega)) (Tot.bind (written_tot h3) (fun i hi => Tot.yes (room_of (by simp; omega)) (Tot.bind (number_text hp) (fun j hj => Tot.yes (room_of (by simp; omega)) (Tot.bind (written_tot h4) (fun k hk => Tot.yes (room_of (by simp; omega)) (Tot.ret (by simp; omega))))))))
theorem parse_tot {t : List UInt8} (ht : t.length ≤ 100000) : Tot (exergueref10_Parse t) (fun o => o.2.2 = 0 → pfP o.1) := by
 unfold exergueref10_Parse
 refine Tot.bind (decode_tot (by rw [bytesI_len]; exact ht)) (fun d _ => Tot.ite (fun _ => Tot.ret (fun h => by cases h)) (fun _ => Tot.ite (fun _ => Tot.ret (fun h => by cases h)) (fun h1 => ?_)))
 have h1 := dFF h1
 have hl : d.1.length ≤ 10000 := by omega
 refine Tot.bind (first_tot hl) (fun f hf => ?_)
 refine Tot.bind (p := fun s => s.2.1 = true → s.2.2.2.2.2.2.2.2.2.1 ≤ s.2.2.2.2.2.2.2.2.2.2.1) ?_ (fun s hs => ?_)
 ·refine Tot.bind (p := fun b => b = true → f.2.2.2.2 = true ∧ f.2.2.2.1 < d.1.length) ?_ (fun b hb => ?_)
  ·refine Tot.ite (fun hq => ?_) (fun _ => Tot.ret (fun h => by cases h))
   rw [at_eq2 (hf hq).2.2.2.1]
   exact Tot.ret (fun h => ⟨hq, at_in (dTT h) (by omega)⟩)
  ·refine Tot.ite (fun hq => ?_) (fun _ => Tot.ret (fun h => (hf h).1))
   obtain ⟨g1, g2⟩ := hb hq
   have g := hf g1
   have f1 : IntKind.wrap .i64 (f.2.2.2.1 + 1) = f.2.2.2.1 + 1 := w64 (by omega) (by omega)
   rw [f1]
   exact Tot.bind (second_tot hl (by omega) (by omega) g.2.1 g.2.2.1 g.1) (fun o ho => Tot.ret (fun _ => ho))
 ·refine Tot.join (Tot.bind (p := fun b => b = false → s.2.1 = true) (Tot.ite (fun _ => Tot.ret (fun h => by cases h)) (fun h => Tot.ret (fun _ => by simpa using h))) (fun b hb => ?_))
  cases b with
  | true => exact Tot.ret (fun h => by cases h)
  | false =>
   have hs := hs (hb rfl)
   refine Tot.ret (show Tot _ _ from Tot.join (Tot.bind (p := fun _ => True) ?_ (fun b _ => ?_)))
   ·repeat' (first | exact Tot.ret trivial | refine Tot.ite (fun _ => ?_) (fun _ => ?_))
   ·cases b with
    | true => exact Tot.ret (fun h => by cases h)
    | false => exact Tot.ret (Tot.ret (fun _ => hs))
theorem toks_tot {a b : List St106} (ha : a.length ≤ 1000) : Tot (exergueref10_Toks a b) (fun _ => True) := by
 unfold exergueref10_Toks
 refine Tot.ite (fun _ => Tot.ret trivial) (fun hh => ?_)
 have hh : (a.length : Int) = b.length := by have := dFF hh; omega
 refine Tot.join (Tot.loop (fun s : Int => 0 ≤ s ∧ s ≤ (a.length : Int)) (fun s => ((a.length : Int) - s).toNat) ⟨by omega, by omega⟩ (by omega) (fun s hs => ?_))
 refine Tot.ite (fun hq => ?_) (fun _ => Tot.ret (Tot.ret trivial))
 have hq := dTT hq
 have f1 : IntKind.wrap .i64 (s + 1) = s + 1 := w64 (by omega) (by omega)
 rw [f1]
 exact Tot.yes (inR_int hs.1 hq) (Tot.yes (inR_int hs.1 (by omega)) (Tot.ite (fun _ => Tot.ret trivial) (fun _ => Tot.ret ⟨⟨by omega, by omega⟩, by omega⟩)))
theorem psame_tot {p q : St25} (h1 : p.Pre_.length ≤ 300) (h2 : p.Suf_.length ≤ 300) (h3 : p.NPre_.length ≤ 300) (h4 : p.NSuf_.length ≤ 300) : Tot (exergueref10_Same p q) (fun b => b = true → p.MinFrac_ = q.MinFrac_ ∧ p.MaxFrac_ = q.MaxFrac_) := by
 unfold exergueref10_Same
 refine Tot.bind (p := fun _ => True) (Tot.bind (toks_tot (by omega)) (fun _ _ => Tot.ite (fun _ => Tot.bind (toks_tot (by omega)) (fun _ _ => Tot.ret trivial)) (fun _ => Tot.ret trivial))) (fun x _ => ?_)
 refine Tot.bind (p := fun _ => True) (Tot.bind (toks_tot (by omega)) (fun _ _ => Tot.ite (fun _ => Tot.bind (toks_tot (by omega)) (fun _ _ => Tot.ret trivial)) (fun _ => Tot.ret trivial))) (fun y _ => ?_)
 refine Tot.join (Tot.bind (p := fun _ => True) ?_ (fun b _ => ?_))
 ·repeat' (first | exact Tot.ret trivial | refine Tot.ite (fun _ => ?_) (fun _ => ?_))
 ·cases b with
  | true => exact Tot.ret (fun h => by cases h)
  | false =>
   refine Tot.ret (show Tot _ _ from Tot.bind (p := fun _ => True) ?_ (fun z _ => Tot.bind (p := fun b => b = true → p.MinFrac_ = q.MinFrac_ ∧ p.MaxFrac_ = q.MaxFrac_) ?_ (fun _ h => Tot.ret h)))
   ·repeat' (first | exact Tot.ret trivial | refine Tot.ite (fun _ => ?_) (fun _ => ?_))
   ·refine Tot.ite (fun _ => Tot.ite (fun e1 => Tot.ite (fun e2 => ?_) (fun _ => Tot.ret (fun h => by cases h))) (fun _ => Tot.ret (fun h => by cases h))) (fun _ => Tot.ret (fun h => by cases h))
    have g1 := dTT e1
    have g2 := dTT e2
    repeat' (first | exact Tot.ret (fun _ => ⟨g1, g2⟩) | refine Tot.ite (fun _ => ?_) (fun _ => ?_))
theorem runes_tot {l : List St106} (hl : l.length ≤ 1000) : Tot (exergueref10_runes l) (fun _ => True) := by
 unfold exergueref10_runes
 refine Tot.join (Tot.loop (fun s : Int => 0 ≤ s ∧ s ≤ (l.length : Int)) (fun s => ((l.length : Int) - s).toNat) ⟨by omega, by omega⟩ (by omega) (fun s hs => ?_))
 refine Tot.ite (fun hq => ?_) (fun _ => Tot.ret (Tot.ret trivial))
 have hq := dTT hq
 have f1 : IntKind.wrap .i64 (s + 1) = s + 1 := w64 (by omega) (by omega)
 rw [f1]
 exact Tot.yes (inR_int hs.1 hq) (Tot.bind (is_tot _) (fun _ _ => Tot.ite (fun _ => Tot.ret trivial) (fun _ => Tot.ret ⟨⟨by omega, by omega⟩, by omega⟩)))
theorem pright_tot {p : St25} (h1 : p.Pre_.length ≤ 300) (h2 : p.Suf_.length ≤ 300) (h3 : p.NPre_.length ≤ 300) (h4 : p.NSuf_.length ≤ 300) : Tot (exergueref10_Right p) (fun b => b = true → cntP p ∧ pfP p) := by
 unfold exergueref10_Right
 generalize hL : ([p.Hash_, p.MinInt_, p.MinFrac_, p.MaxFrac_, p.G1_, p.G2_, p.MinSig_, p.MaxSig_, p.Exp_] : List Int) = L
 have hlen : L.length = 9 := by rw [← hL]; rfl
 refine Tot.join (Tot.loop (fun s : Int => 0 ≤ s ∧ s ≤ (L.length : Int) ∧ ∀ j : Nat, (j : Int) < s → 0 ≤ nth L j ∧ nth L j ≤ 40) (fun s => ((L.length : Int) - s).toNat) ⟨by omega, by omega, fun j hj => by omega⟩ (by omega) (fun s hs => ?_))
 refine Tot.ite (fun hq => ?_) (fun hq => Tot.ret (show Tot _ _ from ?_))
 ·have hq := dTT hq
  have hin := inR_int hs.1 hq
  refine Tot.join (Tot.bind (p := fun b => b = false → 0 ≤ nth L s ∧ nth L s ≤ 40) ?_ (fun b hb => ?_))
  ·refine Tot.yes hin (Tot.yes hin (Tot.ite (fun _ => Tot.ret (fun h => by cases h)) (fun g1 => Tot.yes hin (Tot.yes hin (Tot.ret (fun g2 => ?_))))))
   have g1 := dFF g1
   have g2 := dFF g2
   omega
  ·cases b with
   | true => exact Tot.ret (fun h => by cases h)
   | false =>
    have hb := hb rfl
    refine Tot.ret (show Tot _ _ from Tot.ret ?_)
    have f1 : IntKind.wrap .i64 (s + 1) = s + 1 := w64 (by omega) (by omega)
    rw [f1]
    refine ⟨⟨by omega, by omega, fun j hj => ?_⟩, by omega⟩
    by_cases hjs : (j : Int) < s
    ·exact hs.2.2 j hjs
    ·have : (j : Int) = s := by omega
     rw [this]; exact hb
 ·have hq := dFF hq
  have hall := hs.2.2
  have hs9 : s = 9 := by omega
  subst hs9
  subst hL
  have hc : cntP p := ⟨hall 0 (by omega), hall 1 (by omega), hall 2 (by omega), hall 3 (by omega), hall 4 (by omega), hall 5 (by omega), hall 6 (by omega), hall 7 (by omega), hall 8 (by omega)⟩
  have r1 := runes_tot (l := p.Pre_) (by omega)
  have r2 := runes_tot (l := p.Suf_) (by omega)
  have r3 := runes_tot (l := p.NPre_) (by omega)
  have r4 := runes_tot (l := p.NSuf_) (by omega)
  refine Tot.bind (is_tot _) (fun _ _ => ?_)
  refine Tot.bind (p := fun _ => True) (Tot.bind r1 (fun _ _ => Tot.ite (fun _ => Tot.bind r2 (fun _ _ => Tot.ret trivial)) (fun _ => Tot.ret trivial))) (fun _ _ => ?_)
  refine Tot.bind (p := fun _ => True) (Tot.bind r3 (fun _ _ => Tot.ite (fun _ => Tot.bind r4 (fun _ _ => Tot.ret trivial)) (fun _ => Tot.ret trivial))) (fun _ _ => ?_)
  refine Tot.join (Tot.bind (p := fun _ => True) ?_ (fun b _ => ?_))
  ·repeat' (first | exact Tot.ret trivial | refine Tot.ite (fun _ => ?_) (fun _ => ?_))
  ·cases b with
   | true => exact Tot.ret (fun h => by cases h)
   | false =>
    refine Tot.ret (show Tot _ _ from Tot.bind (ptext_tot hc h1 h2 h3 h4) (fun t ht => Tot.bind (parse_tot (by omega)) (fun o ho => ?_)))
    refine Tot.bind (p := fun b => b = true → cntP p ∧ pfP p) (Tot.ite (fun g => Tot.bind (psame_tot h1 h2 h3 h4) (fun b hb => Tot.ret (fun e => ⟨hc, ?_⟩))) (fun _ => Tot.ret (fun h => by cases h))) (fun _ h => Tot.ret h)
    have := ho (dTT g)
    obtain ⟨e1, e2⟩ := hb e
    unfold pfP at *
    rw [e1, e2]; exact this
theorem of_tot {p : St25} {n : Int} (h1 : p.Pre_.length ≤ 140737488355328) (h2 : p.Suf_.length ≤ 140737488355328) (h3 : p.NPre_.length ≤ 140737488355328) (h4 : p.NSuf_.length ≤ 140737488355328) : Tot (exerguelaw17_of p n) (fun b => b = true → cntP p ∧ pfP p ∧ n ≤ 40) := by
 unfold exerguelaw17_of exergueref10_Few
 have e1 : IntKind.wrap .i64 ((p.Pre_.length : Int) + (p.Suf_.length : Int)) = p.Pre_.length + p.Suf_.length := w64 (by omega) (by omega)
 have e2 : IntKind.wrap .i64 ((p.Pre_.length : Int) + (p.Suf_.length : Int) + (p.NPre_.length : Int)) = p.Pre_.length + p.Suf_.length + p.NPre_.length := w64 (by omega) (by omega)
 have e3 : IntKind.wrap .i64 ((p.Pre_.length : Int) + (p.Suf_.length : Int) + (p.NPre_.length : Int) + (p.NSuf_.length : Int)) = p.Pre_.length + p.Suf_.length + p.NPre_.length + p.NSuf_.length := w64 (by omega) (by omega)
 rw [e1, e2, e3]
 refine Tot.bind (p := fun b => b = true → cntP p ∧ pfP p ∧ n ≤ 40) (Tot.bind (p := fun b => b = decide ((p.Pre_.length : Int) + p.Suf_.length + p.NPre_.length + p.NSuf_.length ≤ 300)) (Tot.ret rfl) (fun b hb => ?_)) (fun _ h => Tot.ret h)
 subst hb
 refine Tot.ite (fun hq => ?_) (fun _ => Tot.ret (fun h => by cases h))
 have hq := dTT hq
 exact Tot.bind (pright_tot (by omega) (by omega) (by omega) (by omega)) (fun b hb => Tot.ite (fun g => Tot.ret (fun e => ⟨(hb g).1, (hb g).2, dTT e⟩)) (fun _ => Tot.ret (fun h => by cases h)))

theorem up_get {l : List Nat} {i : Nat} (h : i < l.length) : nth (up l) (i : Int) = ((l.getD i 0 : Nat) : Int) := by
 rw [nth_nat (by rw [up_len]; exact h)]
 simp [up, List.getD_eq_getElem?_getD, List.getElem?_eq_getElem h]
/-! How a number lies to the middle. -/
/-! What is right, found out. -/
theorem up_head {x : Nat} {l : List Nat} : nth (up (x :: l)) 0 = x := rfl
theorem up_last {x : Nat} {l : List Nat} : nth (up (l ++ [x])) (l.length : Int) = x := by
 rw [up_append]; have := nth_mid (pre := up l) (suf := []) (x := (x : Int)); rw [up_len] at this; exact this
/-- A whole number of figures, without the noughts around. -/
theorem strip : ∀ z : List Nat, ∃ a b core, z = List.replicate a 0 ++ core ++ List.replicate b 0 ∧ (core = [] → b = 0) ∧ core.head? ≠ some 0 ∧ core.getLast? ≠ some 0 := by
 have lead : ∀ z : List Nat, ∃ a c, z = List.replicate a 0 ++ c ∧ c.head? ≠ some 0 := by
  intro z
  induction z with
  | nil => exact ⟨0, [], rfl, by simp⟩
  | cons x z ih =>
   by_cases hx : x = 0
   ·obtain ⟨a, c, h1, h2⟩ := ih
    exact ⟨a + 1, c, by rw [hx, h1, List.replicate_succ]; rfl, h2⟩
   ·exact ⟨0, x :: z, rfl, by simpa using hx⟩
 have trail : ∀ c : List Nat, c.head? ≠ some 0 → ∃ b core, c = core ++ List.replicate b 0 ∧ (core = [] → b = 0) ∧ core.head? ≠ some 0 ∧ core.getLast? ≠ some 0 := by
  refine nsnoc_ind (fun h => ⟨0, [], rfl, fun _ => rfl, h, by simp⟩) (fun l x ih h => ?_)
  by_cases hx : x = 0
  ·subst hx
   have hl : l ≠ [] := fun e => h (by rw [e]; rfl)
   obtain ⟨b, core, h1, h2, h3, h4⟩ := ih (by cases l with | nil => exact absurd rfl hl | cons y l => simpa using h)
   refine ⟨b + 1, core, by rw [h1, List.append_assoc]; congr 1; rw [List.replicate_succ'], fun e => ?_, h3, h4⟩
   have := h2 e
   subst this; subst e
   exact absurd h1 hl
  ·exact ⟨0, l ++ [x], by simp, by simp, h, by simpa using hx⟩
 intro z
 obtain ⟨a, c, h1, h2⟩ := lead z
 obtain ⟨b, core, h3, h4, h5, h6⟩ := trail c h2
 exact ⟨a, b, core, by rw [h1, h3, List.append_assoc], h4, h5, h6⟩
theorem norm_from {z : List Nat} {a : Nat} {c : List Nat} (hz : z = List.replicate a 0 ++ c) (hc : c.head? ≠ some 0) (hl : z.length ≤ 100000) :
  loopN (fun (s179 : Int) => (Option.bind (Option.bind (bif (decide (s179 < ((up z).length : Int))) then (bif inR s179 (up z).length then (some ((decide ((nth (up z) s179) = 0)))) else none) else (some false)) fun (s296 : Bool) => (bif s296 then (some (.inl ())) else (some (.inr (.inr s179))))) (joinX fun (s287 : Unit) => (some (.inl (IntKind.wrap .i64 (s179 + 1))))))) big 0 = some (a : Int) := by
 have hza : z.length = a + c.length := by rw [hz]; simp
 obtain ⟨o, h1, h2⟩ := loop_count (step := (fun (s179 : Int) => (Option.bind (Option.bind (bif (decide (s179 < ((up z).length : Int))) then (bif inR s179 (up z).length then (some ((decide ((nth (up z) s179) = 0)))) else none) else (some false)) fun (s296 : Bool) => (bif s296 then (some (.inl ())) else (some (.inr (.inr s179))))) (joinX fun (s287 : Unit) => (some (.inl (IntKind.wrap .i64 (s179 + 1)))))))) a (fun i => (i : Int)) (fun _ => True) (fun o => o = (a : Int)) (s0 := 0) rfl trivial (fun i hi _ => by
   left
   refine ⟨?_, trivial⟩
   have hn : nth (up z) (i : Int) = 0 := by
    rw [up_get (by omega), hz, List.getD_eq_getElem?_getD, List.getElem?_append_left (by simpa using hi)]
    simp [hi]
   simp only [up_len]
   rw [dT (by omega), inR_nat (by omega), hn, w64 (by omega) (by omega)]; rfl) (fun _ => by
   refine ⟨_, ?_, rfl⟩
   simp only [up_len]
   cases c with
   | nil => rw [dF (by simp at hza; omega)]; rfl
   | cons x c =>
    have hx : x ≠ 0 := fun e => hc (by rw [e]; rfl)
    have hn : nth (up z) (a : Int) = x := by
     rw [up_get (by simp at hza; omega), hz, List.getD_eq_getElem?_getD, List.getElem?_append_right (by simp)]
     simp
    rw [dT (by simp at hza; omega), inR_nat (by simp at hza; omega), hn]
    simp [hx, joinX]) (by omega)
 rw [h1, h2]
theorem norm_to {z : List Nat} {b f : Nat} {c : List Nat} (hz : z = c ++ List.replicate b 0) (hf : f ≤ c.length) (hc : f < c.length → c.getLast? ≠ some 0) (hb : c.length = f → b = 0) (hl : z.length ≤ 100000) :
  loopN (fun (s448 : Int) => (Option.bind (Option.bind (bif (decide ((f : Int) < s448)) then (bif inR (IntKind.wrap .i64 (s448 - 1)) (up z).length then (some ((decide (((nth (up z) (IntKind.wrap .i64 (s448 - 1)))) = 0)))) else none) else (some false)) fun (s565 : Bool) => (bif s565 then (some (.inl ())) else (some (.inr (.inr s448))))) (joinX fun (s556 : Unit) => (some (.inl (IntKind.wrap .i64 (s448 - 1))))))) big ((up z).length : Int) = some (c.length : Int) := by
 have hza : z.length = c.length + b := by rw [hz]; simp
 obtain ⟨o, h1, h2⟩ := loop_count (step := (fun (s448 : Int) => (Option.bind (Option.bind (bif (decide ((f : Int) < s448)) then (bif inR (IntKind.wrap .i64 (s448 - 1)) (up z).length then (some ((decide (((nth (up z) (IntKind.wrap .i64 (s448 - 1)))) = 0)))) else none) else (some false)) fun (s565 : Bool) => (bif s565 then (some (.inl ())) else (some (.inr (.inr s448))))) (joinX fun (s556 : Unit) => (some (.inl (IntKind.wrap .i64 (s448 - 1)))))))) b (fun i => (z.length : Int) - i) (fun _ => True) (fun o => o = (c.length : Int)) (s0 := ((up z).length : Int)) (by rw [up_len]; simp) trivial (fun i hi _ => by
   left
   refine ⟨?_, trivial⟩
   simp only [up_len]
   have hfc : f < c.length := by have := hb; omega
   obtain ⟨j, hj⟩ : ∃ j : Nat, (z.length : Int) - i - 1 = j := ⟨z.length - i - 1, by omega⟩
   have hn : nth (up z) (j : Int) = 0 := by
    rw [up_get (by omega), hz, List.getD_eq_getElem?_getD, List.getElem?_append_right (by omega)]
    rw [List.getElem?_replicate, if_pos (by omega)]; rfl
   rw [dT (by omega), w64 (by omega) (by omega), hj, inR_nat (by omega), hn]
   simp [joinX]; omega) (fun _ => by
   refine ⟨_, ?_, rfl⟩
   simp only [up_len]
   have e : (z.length : Int) - b = c.length := by omega
   rw [e]
   by_cases hfc : f < c.length
   ·have hne := hc hfc
    rcases List.eq_nil_or_concat c with g | ⟨p, x, g⟩
    ·subst g; simp at hfc
    ·rw [List.concat_eq_append] at g
     subst g
     have hx : x ≠ 0 := fun e => hne (by simp [e])
     have hn : nth (up z) (p.length : Int) = x := by
      rw [up_get (by simp at hza; omega), hz, List.getD_eq_getElem?_getD, List.append_assoc, List.getElem?_append_right (by simp)]
      simp
     have e2 : (((p ++ [x]).length : Nat) : Int) - 1 = p.length := by simp
     rw [dT (by omega), w64 (by omega) (by omega), e2, inR_nat (by simp at hza; omega), hn]
     simp [hx, joinX]
   ·rw [dF (by omega)]; rfl) (by omega)
 rw [h1, h2]
/-! To round. -/
theorem shown_eq : exerguelaw17_shown = some true := by kernel_rfl

theorem rright_eq {l : List Nat} {E : Int} {neg : Bool} (hl : l.length ≤ 140737488355328) : ∃ b, exergueref05_Right ⟨neg, up l, E⟩ = some b ∧ (b = true ↔ rightP l E) := by
 unfold exergueref05_Right
 rw [all_loop (fun c => decide (c > 9)) (up l) (by rw [up_len]; omega)]
 simp only [up_len]
 have hall : (up l).all (fun c => !decide (c > 9)) = true ↔ digP l := by
  rw [List.all_eq_true]
  constructor
  ·intro h x hx
   have := h (x : Int) (List.mem_map.2 ⟨x, hx, rfl⟩)
   simp at this; omega
  ·intro h c hc
   obtain ⟨x, hx, rfl⟩ := List.mem_map.1 hc
   have := h x hx
   simp; omega
 by_cases hd : digP l
 ·rw [if_pos (hall.2 hd)]
  simp only [Option.bind_some, joinX]
  by_cases h0 : l = []
  ·subst h0
   refine ⟨decide (E = 0), rfl, ?_⟩
   rw [decide_eq_true_eq]
   exact ⟨fun h => ⟨hd, fun _ => h, fun h => absurd rfl h⟩, fun h => h.2.1 rfl⟩
  ·have hpos : 0 < l.length := List.length_pos_iff.2 h0
   have hin : inR 0 l.length = true := inR_int (by omega) (by omega)
   have hin2 : inR ((l.length : Int) - 1) l.length = true := inR_int (by omega) (by omega)
   have hh : nth (up l) 0 > 0 ↔ l.head? ≠ some 0 := by
    cases l with
    | nil => exact absurd rfl h0
    | cons x l => rw [up_head]; simp; omega
   have hll : nth (up l) ((l.length : Int) - 1) > 0 ↔ l.getLast? ≠ some 0 := by
    rcases List.eq_nil_or_concat l with h1 | ⟨p, c, h1⟩
    ·exact absurd h1 h0
    ·rw [List.concat_eq_append] at h1
     subst h1
     have e : (((p ++ [c]).length : Nat) : Int) - 1 = (p.length : Int) := by simp
     rw [e, up_last]; simp; omega
   rw [dF (show ¬ (l.length : Int) = 0 by omega), hin, w64 (by omega) (by omega), hin2]
   simp only [cond_false, cond_true]
   by_cases c1 : (l.length : Int) ≤ 1000
   ·by_cases c2 : nth (up l) 0 > 0
    ·by_cases c3 : nth (up l) ((l.length : Int) - 1) > 0
     ·by_cases c4 : E ≥ -1000
      ·refine ⟨decide (E ≤ 1000), by rw [dT c1, dT c2, dT c3, dT c4]; rfl, ?_⟩
       rw [decide_eq_true_eq]
       exact ⟨fun h => ⟨hd, fun h => absurd h h0, fun _ => ⟨by omega, c4, h, hh.1 c2, hll.1 c3⟩⟩, fun h => (h.2.2 h0).2.2.1⟩
      ·exact ⟨false, by rw [dT c1, dT c2, dT c3, dF c4]; rfl, ⟨fun h => (by cases h), fun h => absurd (h.2.2 h0).2.1 c4⟩⟩
     ·exact ⟨false, by rw [dT c1, dT c2, dF c3]; rfl, ⟨fun h => (by cases h), fun h => absurd (hll.2 (h.2.2 h0).2.2.2.2) c3⟩⟩
    ·exact ⟨false, by rw [dT c1, dF c2]; rfl, ⟨fun h => (by cases h), fun h => absurd (hh.2 (h.2.2 h0).2.2.2.1) c2⟩⟩
   ·exact ⟨false, by rw [dF c1]; rfl, ⟨fun h => (by cases h), fun h => absurd (h.2.2 h0).1 (by omega)⟩⟩
 ·rw [if_neg (fun h => hd (hall.1 h))]
  exact ⟨false, rfl, ⟨fun h => (by cases h), fun h => absurd h.1 hd⟩⟩
/-- Are they the same? -/
theorem rsame_eq {l m : List Nat} {E G : Int} {n1 n2 : Bool} (h1 : rightP l E) (h2 : rightP m G) : exergueref05_Same ⟨n1, up l, E⟩ ⟨n2, up m, G⟩ = some (decide (n1 = n2) && decide (magN l E = magN m G)) := by
 have hl := right_low h1
 have hrow : exergueref01_Row (up l) (up m) = some (decide (up l = up m)) := row_eq (by rw [up_len]; omega)
 unfold exergueref05_Same
 rw [hrow]
 simp only [Option.bind_some]
 by_cases hm : magN l E = magN m G
 ·obtain ⟨rfl, rfl⟩ := right_same h1 h2 hm
  rw [dT rfl, dT hm, dT rfl]
  cases n1 <;> cases n2 <;> rfl
 ·rw [dF hm]
  by_cases he : l = m
  ·subst he
   have hE : ¬ E = G := by rintro rfl; exact hm rfl
   rw [dF hE, dT rfl]
   cases n1 <;> cases n2 <;> rfl
  ·rw [dF (fun e => he (up_inj e))]
   cases n1 <;> cases n2 <;> rfl

/-! What rounding keeps. -/
/-! Figures ahead of the point and behind. -/
/-! Figures that tell a number. -/
/-- The right one of figures, as the document has it. -/
def fzN (z : List Nat) : Nat → Int
 | 0 => -1
 | i + 1 => if fzN z i < 0 ∧ z.getD i 0 > 0 then i else fzN z i
def lzN (z : List Nat) : Nat → Int
 | 0 => -1
 | i + 1 => if z.getD i 0 > 0 then i else lzN z i
/-! What is written, piece by piece. -/
inductive It where
 | d (n : Nat)
 | g (r : Int)
def It.at (z : Int) : It → Int
 | .d n => z + n
 | .g r => r
def ren (z : Int) (l : List It) : List Int := l.map (It.at z)
theorem ren_len (z : Int) (l : List It) : (ren z l).length = l.length := by simp [ren]
def cutB (n g1 g2 : Int) : Bool := !(decide (g1 < 1) || decide (n < g1)) && (decide (n = g1) || (decide (g2 > 0) && decide (Int.tmod (n - g1) g2 = 0)))
theorem cut_eq {n g1 g2 : Int} (hn : 0 ≤ n) (hn2 : n ≤ 100000) (h1 : 0 ≤ g1 ∧ g1 ≤ 40) (h2 : 0 ≤ g2 ∧ g2 ≤ 40) : sym_cut n g1 g2 = some (cutB n g1 g2) := by
 unfold sym_cut cutB
 by_cases c1 : g1 < 1
 ·rw [dT c1]; rfl
 ·rw [dF c1]
  by_cases c2 : n < g1
  ·rw [dT c2]; rfl
  ·rw [dF c2]
   by_cases c3 : n = g1
   ·rw [dT c3]; rfl
   ·rw [dF c3]
    by_cases c4 : g2 > 0
    ·have hz : nz g2 = true := by unfold nz; rw [dF (by omega)]; rfl
     rw [dT c4, hz, w64 (by omega) (by omega)]
     simp [joinX]
    ·rw [dF c4]; rfl
/-- Figures, grouped, up to one. -/
def gpre (W : List Nat) (G g1 g2 : Int) : Nat → List It
 | 0 => []
 | i + 1 => gpre W G g1 g2 i ++ (if decide (i > 0) && cutB ((W.length : Int) - i) g1 g2 then [It.g G] else []) ++ [It.d (W.getD i 0)]
theorem gpre_len (W : List Nat) (G g1 g2 : Int) : ∀ i, (gpre W G g1 g2 i).length ≤ 2 * i
 | 0 => by simp [gpre]
 | i + 1 => by
  have := gpre_len W G g1 g2 i
  simp only [gpre, List.length_append, List.length_singleton]
  split <;> simp <;> omega
def okZ (z : Int) : Prop := 0 ≤ z ∧ z ≤ 200000
theorem w32 {n : Int} (h1 : -2147483648 ≤ n) (h2 : n ≤ 2147483647) : IntKind.i32.wrap n = n := by
 unfold IntKind.wrap
 simp only [IntKind.signed, IntKind.bits, Bool.true_and, Bool.false_and, Bool.false_eq_true, if_false, decide_eq_true_eq]
 first | omega | (split <;> rename_i hc <;> simp at hc <;> omega)
theorem grouped_eq {s : St22} {W : List Nat} {g1 g2 : Int} (hz : okZ s.Zero_) (hd : digP W) (hl : W.length ≤ 20000) (h1 : 0 ≤ g1 ∧ g1 ≤ 40) (h2 : 0 ≤ g2 ∧ g2 ≤ 40) :
  sym_Grouped s (up W) g1 g2 = some (ren s.Zero_ (gpre W s.Group_ g1 g2 W.length)) := by
 unfold sym_Grouped
 refine bind_of (fun o => o = ren s.Zero_ (gpre W s.Group_ g1 g2 W.length)) ?_ (fun o ho => by rw [ho])
 refine loop_count W.length (fun i => ((i : Int), ren s.Zero_ (gpre W s.Group_ g1 g2 i))) (fun _ => True) _ rfl trivial (fun i hi _ => ?_) (fun _ => ?_) (by omega)
 ·left
  refine ⟨?_, trivial⟩
  have hlen := gpre_len W s.Group_ g1 g2 i
  have hg : nth (up W) (i : Int) = ((W.getD i 0 : Nat) : Int) := up_get hi
  have h9 : W.getD i 0 ≤ 9 := by
   rw [List.getD_eq_getElem?_getD, List.getElem?_eq_getElem hi]
   exact hd _ (List.getElem_mem hi)
  obtain ⟨z1, z2⟩ := hz
  simp only [up_len]
  rw [dT (by omega), w64 (n := (W.length : Int) - i) (by omega) (by omega), cut_eq (by omega) (by omega) h1 h2, inR_nat hi, hg, w32 (n := ((W.getD i 0 : Nat) : Int)) (by omega) (by omega), w32 (by omega) (by omega), w64 (by omega) (by omega)]
  simp only [cond_true, Option.bind_some, ren_len]
  have e1 : (bif decide ((i : Int) > 0) then some (cutB ((W.length : Int) - i) g1 g2) else some false) = some (decide (i > 0) && cutB ((W.length : Int) - i) g1 g2) := by
   by_cases h : i > 0
   ·rw [dT (show (i : Int) > 0 by omega), dT h]; rfl
   ·rw [dF (show ¬ (i : Int) > 0 by omega), dF h]; rfl
  rw [e1]
  simp only [Option.bind_some]
  cases hc : (decide (i > 0) && cutB ((W.length : Int) - i) g1 g2) with
  | true =>
   simp only [cond_true]
   rw [room_of (by simp; omega)]
   simp only [cond_true, Option.bind_some]
   rw [room_of (by simp [ren_len]; omega)]
   simp [gpre, hc, ren, It.at]
  | false =>
   simp only [cond_false, Option.bind_some]
   rw [room_of (by simp [ren_len]; omega)]
   simp [gpre, hc, ren, It.at]
 ·refine ⟨_, ?_, rfl⟩
  simp only [up_len]
  rw [dF (by omega)]; rfl
/-! Signs that are good. -/
def ZS : List Int := [48, 1632, 1776, 1984, 2406, 2534, 2662, 2790, 2918, 3046, 3174, 3302, 3430, 3664, 3792, 3872, 6112, 6160, 65296, 120782]
theorem zs_ok {z : Int} (h : z ∈ ZS) : okZ z := by
 have : (ZS.all fun z => decide (0 ≤ z) && decide (z ≤ 200000)) = true := by decide
 have := List.all_eq_true.1 this z h
 simp at this
 exact this
def plainP (r : Int) : Prop := exergueref02_Of r = some 0 ∨ exergueref02_Of r = some 4
def six (s : St22) : List Int := [s.Dec_, s.Group_, s.Minus_, s.Plus_, s.Percent_, s.Exp_]
def goodP (s : St22) : Prop := s.Zero_ ∈ ZS ∧ (∀ j : Nat, j < 6 → plainP (nth (six s) j)) ∧ ∀ i j : Nat, j < i → i < 6 → nth (six s) j ≠ nth (six s) i
theorem of2_tot (r : Int) : Tot (exergueref02_Of r) (fun _ => True) := by
 unfold exergueref02_Of
 refine Tot.bind (is_tot _) (fun a _ => Tot.bind (p := fun _ => True) ?_ (fun b _ => Tot.bind (p := fun _ => True) ?_ (fun c _ => Tot.bind (p := fun _ => True) ?_ (fun d _ => ?_))))
 ·unfold exergueref02_turning
  refine Tot.bind (p := fun _ => True) ?_ (fun _ _ => Tot.ret trivial)
  repeat' (first | exact Tot.ret trivial | refine Tot.ite (fun _ => ?_) (fun _ => ?_))
 ·unfold exergueref02_blank
  refine Tot.bind (p := fun _ => True) ?_ (fun _ _ => Tot.ret trivial)
  repeat' (first | exact Tot.ret trivial | refine Tot.ite (fun _ => ?_) (fun _ => ?_))
 ·unfold exergueref02_Value exergueref02_noughts
  refine Tot.bind (p := fun y => y.length = 20) (Tot.ret rfl) (fun y hy => ?_)
  refine Tot.join (Tot.loop (fun s : Int => 0 ≤ s ∧ s ≤ 20) (fun s => (20 - s).toNat) ⟨by omega, by omega⟩ (by omega) (fun s hs => ?_))
  rw [hy]
  refine Tot.ite (fun hq => ?_) (fun _ => Tot.ret (Tot.ret trivial))
  have hq := dTT hq
  refine Tot.join (Tot.mono (p := fun x => x = .inl () ∨ ∃ z, x = .inr (.inr (.inr z))) (Tot.loop (fun t : Int => 0 ≤ t ∧ t ≤ 10) (fun t => (10 - t).toNat) ⟨by omega, by omega⟩ (by omega) (fun t ht => ?_)) (fun x hx => ?_))
  ·refine Tot.ite (fun hh => ?_) (fun _ => Tot.ret (.inl rfl))
   have hh := dTT hh
   refine Tot.yes (inR_int hs.1 (by omega)) (Tot.ite (fun _ => Tot.ret (.inr ⟨_, rfl⟩)) (fun _ => Tot.ret ?_))
   rw [w64 (n := t + 1) (by omega) (by omega)]
   exact ⟨⟨by omega, by omega⟩, by omega⟩
  ·rcases hx with rfl | ⟨z, rfl⟩
   ·refine Tot.ret ?_
    rw [w64 (n := s + 1) (by omega) (by omega)]
    exact ⟨⟨by omega, by omega⟩, by omega⟩
   ·exact trivial
 ·repeat' (first | exact Tot.ret trivial | refine Tot.ite (fun _ => ?_) (fun _ => ?_) | refine Tot.join (Tot.bind (p := fun _ => True) ?_ (fun _ _ => ?_)) | refine Tot.ret (show Tot _ _ from ?_))
theorem zero_tot (z : Int) : Tot (exergueref02_Zero z) (fun b => b = true → z ∈ ZS) := by
 unfold exergueref02_Zero exergueref02_noughts
 refine Tot.bind (p := fun y => y = ZS) (Tot.ret rfl) (fun y hy => ?_)
 subst hy
 have hlen : ZS.length = 20 := rfl
 refine Tot.join (Tot.loop (fun s : Int => 0 ≤ s ∧ s ≤ 20) (fun s => (20 - s).toNat) ⟨by omega, by omega⟩ (by omega) (fun s hs => ?_))
 rw [hlen]
 refine Tot.ite (fun hq => ?_) (fun _ => Tot.ret (Tot.ret (fun h => by cases h)))
 have hq := dTT hq
 refine Tot.yes (inR_int hs.1 (by omega)) (Tot.ite (fun he => Tot.ret (fun _ => ?_)) (fun _ => Tot.ret ?_))
 ·have he := dTT he
  rw [← he]
  obtain ⟨j, rfl⟩ : ∃ j : Nat, s = j := ⟨s.toNat, by omega⟩
  rw [nth_nat (by rw [hlen]; omega)]
  exact List.getElem_mem _
 ·rw [w64 (by omega) (by omega)]
  exact ⟨⟨by omega, by omega⟩, by omega⟩
theorem good_tot (s : St22) : Tot (exergueref13_Good s) (fun b => b = true → goodP s) := by
 unfold exergueref13_Good
 have hL : ([s.Dec_, s.Group_, s.Minus_, s.Plus_, s.Percent_, s.Exp_] : List Int) = six s := rfl
 rw [hL]
 have hlen : (six s).length = 6 := rfl
 refine Tot.join (Tot.loop (fun i : Int => 0 ≤ i ∧ i ≤ 6 ∧ ∀ q : Nat, (q : Int) < i → plainP (nth (six s) q) ∧ ∀ j : Nat, j < q → nth (six s) j ≠ nth (six s) q) (fun i => (6 - i).toNat) ⟨by omega, by omega, fun q hq => by omega⟩ (by omega) (fun i hi => ?_))
 rw [hlen]
 refine Tot.ite (fun hq => ?_) (fun hq => Tot.ret (show Tot _ _ from ?_))
 ·have hq := dTT hq
  obtain ⟨n, rfl⟩ : ∃ n : Nat, i = n := ⟨i.toNat, by omega⟩
  refine Tot.join (Tot.yes (inR_int hi.1 (by omega)) (Tot.yes (inR_int hi.1 (by omega)) ?_))
  obtain ⟨v, hv, _⟩ := of2_tot (nth (six s) n)
  rw [hv]
  show Tot (Option.bind (Option.bind _ _) _) _
  refine Tot.join (Tot.bind (p := fun b => b = false → plainP (nth (six s) n)) ?_ (fun b hb => ?_))
  ·refine Tot.ite (fun h1 => Tot.ret (fun h2 => .inr ?_)) (fun h1 => Tot.ret (fun _ => .inl ?_))
   ·have := dFF h2
    rw [hv]; congr 1; omega
   ·have := dFF h1
    rw [hv]; congr 1; omega
  ·cases b with
   | true => exact Tot.ret (show _ from fun h => by cases h)
   | false =>
    have hp := hb rfl
    refine Tot.ret (show Tot _ _ from Tot.mono (p := fun x => (x = .inl () ∧ ∀ j : Nat, j < n → nth (six s) j ≠ nth (six s) n) ∨ x = .inr (.inr (.inr false))) (Tot.loop (fun t : Int => 0 ≤ t ∧ t ≤ n ∧ ∀ j : Nat, (j : Int) < t → nth (six s) j ≠ nth (six s) n) (fun t => ((n : Int) - t).toNat) ⟨by omega, by omega, fun j hj => by omega⟩ (by omega) (fun t ht => ?_)) (fun x hx => ?_))
    ·refine Tot.ite (fun hh => ?_) (fun hh => Tot.ret (.inl ⟨rfl, fun j hj => ht.2.2 j (by have := dFF hh; omega)⟩))
     have hh := dTT hh
     refine Tot.yes (inR_int ht.1 (by omega)) (Tot.yes (inR_int ht.1 (by omega)) (Tot.yes (inR_int hi.1 (by omega)) (Tot.yes (inR_int hi.1 (by omega)) (Tot.ite (fun _ => Tot.ret (.inr rfl)) (fun he => Tot.ret ?_)))))
     have he := dFF he
     rw [w64 (n := t + 1) (by omega) (by omega)]
     refine ⟨⟨by omega, by omega, fun j hj => ?_⟩, by omega⟩
     by_cases hjt : (j : Int) < t
     ·exact ht.2.2 j hjt
     ·have : (j : Int) = t := by omega
      rw [this]; exact he
    ·rcases hx with ⟨rfl, hx⟩ | rfl
     ·refine Tot.ret ?_
      rw [w64 (n := (n : Int) + 1) (by omega) (by omega)]
      refine ⟨⟨by omega, by omega, fun q hq2 => ?_⟩, by omega⟩
      by_cases hqn : (q : Int) < n
      ·exact hi.2.2 q hqn
      ·have : q = n := by omega
       subst this; exact ⟨hp, hx⟩
     ·exact (fun h => by cases h)
 ·have hq := dFF hq
  refine Tot.bind (zero_tot _) (fun b hb => Tot.ret (fun h => ⟨hb h, fun j hj => (hi.2.2 j (by omega)).1, fun i2 j hji hi6 => (hi.2.2 i2 (by omega)).2 j hji⟩))
/-- The worth of a digit, as the document has it. -/
theorem rvalue_eq {s : St22} {r : Int} (hz : okZ s.Zero_) (hr : -2147483648 ≤ r ∧ r ≤ 2147483647) : exergueref13_Value s r = some (if s.Zero_ ≤ r ∧ r ≤ s.Zero_ + 9 then (r - s.Zero_, true) else (0, false)) := by
 obtain ⟨z1, z2⟩ := hz
 unfold exergueref13_Value
 rw [w64 (n := s.Zero_) (by omega) (by omega), w64 (n := r) (by omega) (by omega)]
 refine bind_of (fun o => joinX (fun (s37 : Unit) => (some ((0 : Int), false))) o = some (if s.Zero_ ≤ r ∧ r ≤ s.Zero_ + 9 then (r - s.Zero_, true) else (0, false))) ?_ (fun o ho => ho)
 refine loop_count 10 (fun i => (i : Int)) (fun i => ¬ (s.Zero_ ≤ r ∧ r < s.Zero_ + i)) _ rfl (by omega) (fun i hi hI => ?_) (fun hI => ?_) (by omega)
 ·rw [dT (show (i : Int) < 10 by omega), w64 (n := s.Zero_ + i) (by omega) (by omega)]
  by_cases he : s.Zero_ + i = r
  ·right
   refine ⟨_, by rw [dT he]; rfl, ?_⟩
   rw [if_pos (by omega), u8m]
   show some _ = some _
   congr 2
   omega
  ·left
   refine ⟨by rw [dF he, w64 (by omega) (by omega)]; rfl, by omega⟩
 ·refine ⟨_, by rw [dF (show ¬ ((10 : Nat) : Int) < 10 by omega)]; rfl, ?_⟩
  rw [if_neg (by omega)]; rfl
theorem same_eq {a b : List Int} (ha : a.length ≤ 100000) : exergueref01_Same a b = some (decide (a = b)) := by
 unfold exergueref01_Same
 exact row_eq (by omega)
/-! What is written is read. -/
theorem value_eq {s : St22} {r : Int} (hz : okZ s.Zero_) (hr : -2147483648 ≤ r ∧ r ≤ 2147483647) : sym_Value s r = some (if s.Zero_ ≤ r ∧ r ≤ s.Zero_ + 9 then (r - s.Zero_, true) else (0, false)) := by
 obtain ⟨z1, z2⟩ := hz
 unfold sym_Value
 rw [w64 (n := s.Zero_) (by omega) (by omega), w64 (n := r) (by omega) (by omega), w64 (n := r - s.Zero_) (by omega) (by omega)]
 by_cases h1 : r - s.Zero_ < 0
 ·rw [dT h1, if_neg (by omega)]; rfl
 ·rw [dF h1]
  by_cases h2 : r - s.Zero_ > 9
  ·rw [dT h2, if_neg (by omega)]; rfl
  ·rw [dF h2, if_pos (by omega), u8m]
   show some _ = some _
   congr 2
   omega
theorem index_at {A B : List Int} {r : Int} (h : r ∉ A) (hl : A.length + B.length ≤ 100000) : slices_Index (A ++ r :: B) r = some (A.length : Int) := by
 unfold slices_Index
 refine bind_of (fun o => joinX (fun (s40 : Unit) => (some (-1))) o = some (A.length : Int)) ?_ (fun o ho => ho)
 refine loop_count A.length (fun i => (i : Int)) (fun _ => True) _ rfl trivial (fun i hi _ => ?_) (fun _ => ?_) (by omega)
 ·left
  refine ⟨?_, trivial⟩
  rw [dT (by simp; omega), inR_nat (by simp; omega)]
  have : ¬ r = nth (A ++ r :: B) (i : Int) := by
   rw [nth_nat (by simp; omega), List.getElem_append_left hi]
   intro e; exact h (e ▸ List.getElem_mem hi)
  rw [dF this, w64 (by omega) (by omega)]; rfl
 ·refine ⟨.inr (A.length : Int), ?_, rfl⟩
  rw [dT (by simp; omega), inR_nat (by simp), dT (show r = nth (A ++ r :: B) (A.length : Int) by rw [nth_nat (by simp)]; simp)]
  rfl
theorem index_none {A : List Int} {r : Int} (h : r ∉ A) (hl : A.length ≤ 100000) : slices_Index A r = some (-1) := by
 unfold slices_Index
 refine bind_of (fun o => joinX (fun (s40 : Unit) => (some (-1))) o = some (-1)) ?_ (fun o ho => ho)
 refine loop_count A.length (fun i => (i : Int)) (fun _ => True) _ rfl trivial (fun i hi _ => ?_) (fun _ => ?_) (by omega)
 ·left
  refine ⟨?_, trivial⟩
  rw [dT (by omega), inR_nat hi]
  have : ¬ r = nth A (i : Int) := by
   rw [nth_nat hi]
   intro e; exact h (e ▸ List.getElem_mem hi)
  rw [dF this, w64 (by omega) (by omega)]; rfl
 ·refine ⟨.inl (), ?_, rfl⟩
  rw [dF (by omega)]; rfl
theorem vN_pre {m : List Nat} {i : Nat} : vN (m.take i) ≤ vN m := by
 have h := vN_append (m.take i) (m.drop i)
 rw [List.take_append_drop] at h
 have : vN (m.take i) * 1 ≤ vN (m.take i) * 10 ^ (m.drop i).length := Nat.mul_le_mul_left _ (Nat.pow_pos (by decide))
 omega
theorem cut_fst {A B : List Int} : cut (A ++ B) 0 (A.length : Int) = A := by simp [cut]
theorem cut_snd {A B : List Int} {r n : Int} (h : n = (A.length : Int) + 1) : cut (A ++ r :: B) n ((A ++ r :: B).length : Int) = B := by
 subst h
 unfold cut
 rw [Int.toNat_natCast, List.take_length, show ((A.length : Int) + 1).toNat = A.length + 1 by omega, ← List.drop_drop, List.drop_left' (by rfl)]; rfl
/-! Any right number, written and read. -/
instance (l : List Nat) : Decidable (digP l) := inferInstanceAs (Decidable (∀ x ∈ l, x ≤ 9))
instance (l : List Nat) (E : Int) : Decidable (rightP l E) := by unfold rightP; exact inferInstance
theorem figs_eq {l : List Nat} (hl : l.length ≤ 100000) : dec_figures (up l) = some (decide (digP l)) := by
 unfold dec_figures
 rw [all_loop (fun c => decide (c > 9)) (up l) (by rw [up_len]; omega)]
 by_cases hd : digP l
 ·rw [if_pos, dT hd]
  ·rfl
  ·rw [List.all_eq_true]
   intro c hc
   obtain ⟨x, hx, rfl⟩ := List.mem_map.1 hc
   have := hd x hx
   simp; omega
 ·rw [if_neg, dF hd]
  ·rfl
  ·intro h
   apply hd
   intro x hx
   have := List.all_eq_true.1 h (x : Int) (List.mem_map.2 ⟨x, hx, rfl⟩)
   simp at this; omega
theorem dright_eq {l : List Nat} {E : Int} {neg : Bool} (hl : l.length ≤ 100000) : dec_Right ⟨neg, up l, E⟩ = some (decide (rightP l E)) := by
 unfold dec_Right
 rw [figs_eq hl]
 simp only [up_len]
 by_cases h0 : l = []
 ·subst h0
  rw [dT (by simp)]
  have : (rightP [] E) ↔ E = 0 := ⟨fun h => h.2.1 rfl, fun h => ⟨fun x hx => (by cases hx), fun _ => h, fun h => absurd rfl h⟩⟩
  simp [this]
 ·have hpos : 0 < l.length := List.length_pos_iff.2 h0
  have hin : inR 0 l.length = true := inR_int (by omega) (by omega)
  have hin2 : inR ((l.length : Int) - 1) l.length = true := inR_int (by omega) (by omega)
  have hh : (¬ nth (up l) 0 = 0) ↔ l.head? ≠ some 0 := by
   cases l with
   | nil => exact absurd rfl h0
   | cons x l => rw [up_head]; simp
  have hll : (¬ nth (up l) ((l.length : Int) - 1) = 0) ↔ l.getLast? ≠ some 0 := by
   rcases List.eq_nil_or_concat l with h1 | ⟨p, c, h1⟩
   ·exact absurd h1 h0
   ·rw [List.concat_eq_append] at h1
    subst h1
    have e : (((p ++ [c]).length : Nat) : Int) - 1 = (p.length : Int) := by simp
    rw [e, up_last]; simp
  rw [dF (show ¬ (l.length : Int) = 0 by omega), hin, w64 (by omega) (by omega), hin2]
  simp only [cond_false, cond_true]
  by_cases c1 : (l.length : Int) > 1000
  ·rw [dT c1, dF (show ¬ rightP l E from fun h => by have := (h.2.2 h0).1; omega)]; rfl
  ·rw [dF c1]
   by_cases c2 : E < -1000
   ·rw [dT c2, dF (show ¬ rightP l E from fun h => by have := (h.2.2 h0).2.1; omega)]; rfl
   ·rw [dF c2]
    by_cases c3 : E > 1000
    ·rw [dT c3, dF (show ¬ rightP l E from fun h => by have := (h.2.2 h0).2.2.1; omega)]; rfl
    ·rw [dF c3]
     by_cases c4 : ¬ nth (up l) 0 = 0
     ·by_cases c5 : ¬ nth (up l) ((l.length : Int) - 1) = 0
      ·rw [dT c4, dT c5]
       have : rightP l E ↔ digP l := ⟨fun h => h.1, fun h => ⟨h, fun e => absurd e h0, fun _ => ⟨by omega, by omega, by omega, hh.1 c4, hll.1 c5⟩⟩⟩
       simp [this, joinX]
      ·rw [dT c4, dF c5, dF (show ¬ rightP l E from fun h => c5 (hll.2 (h.2.2 h0).2.2.2.2))]; rfl
     ·rw [dF c4, dF (show ¬ rightP l E from fun h => c4 (hh.2 (h.2.2 h0).2.2.2.1))]; rfl
/-- What it is made to be. -/
def normV (neg : Bool) (core : List Nat) (E : Int) : St28 × Int :=
 if core = [] then (⟨neg, [], 0⟩, 0) else if rightP core E then (⟨neg, up core, E⟩, 0) else (⟨false, [], 0⟩, 11)
theorem norm_is {z core : List Nat} {a b : Nat} {e : Int} {neg : Bool} (hz : z = List.replicate a 0 ++ core ++ List.replicate b 0) (hcb : core = [] → b = 0) (hh : core.head? ≠ some 0) (ht : core.getLast? ≠ some 0)
  (hd : digP z) (hl : z.length ≤ 5000) (he : -3000000 ≤ e) (he2 : e ≤ 3000000) : dec_Norm neg (up z) e = some (normV neg core (e + b)) := by
 have hlen : z.length = a + core.length + b := by rw [hz]; simp [Nat.add_assoc]
 have hf := norm_from (z := z) (a := a) (c := core ++ List.replicate b 0) (by rw [hz, List.append_assoc]) (by
  cases core with
  | nil => rw [hcb rfl]; simp
  | cons x c => simpa using hh) (by omega)
 have hto := norm_to (z := z) (b := b) (f := a) (c := List.replicate a 0 ++ core) hz (by simp) (fun hlt => by
  have : core ≠ [] := by rintro rfl; simp at hlt
  rw [List.getLast?_append]
  cases hg : core.getLast? with
  | none => exact absurd (List.getLast?_eq_none_iff.1 hg) this
  | some v => rw [hg] at ht; simpa using ht) (fun h => hcb (by simpa using h)) (by omega)
 have hal : (List.replicate a 0 ++ core).length = a + core.length := by simp
 rw [hal] at hto
 unfold dec_Norm
 rw [figs_eq (by omega), dT hd, dF (show ¬ e < -1099511627776 by omega), dF (show ¬ e > 1099511627776 by omega), hf]
 simp only [Option.bind_some, Bool.not_true, cond_false, joinX]
 rw [hto]
 simp only [Option.bind_some]
 unfold normV
 by_cases h0 : core = []
 ·subst h0
  rw [dT (by simp)]; rfl
 ·have hpos : 0 < core.length := List.length_pos_iff.2 h0
  have hcut : cut (up z) (a : Int) ((a + core.length : Nat) : Int) = up core := by
   rw [cut_up]; congr 1
   rw [hz, ← hal, List.take_left, List.drop_left' (by simp)]
  have hin : inS (a : Int) ((a + core.length : Nat) : Int) (up z).length = true := inS_of (by omega) (by omega) (by rw [up_len]; omega)
  have hE : IntKind.wrap .i64 (IntKind.wrap .i64 (e + ((up z).length : Int)) - ((a + core.length : Nat) : Int)) = e + b := by
   rw [up_len, w64 (n := e + (z.length : Int)) (by omega) (by omega), w64 (by omega) (by omega)]; omega
  rw [dF (by omega), hin, hcut, hE, if_neg h0]
  have hcl : slices_Clone (up core) = some (up core) := clone_id (by rw [up_len]; omega)
  rw [hcl]
  simp only [Option.bind_some, cond_true, cond_false]
  rw [dright_eq (by omega)]
  by_cases hr : rightP core (e + b)
  ·rw [dT hr, if_pos hr]; rfl
  ·rw [dF hr, if_neg hr]; rfl
/-! Whatever is read. -/
def i32P (l : List Int) : Prop := ∀ r ∈ l, -2147483648 ≤ r ∧ r ≤ 2147483647
theorem mem_first {r : Int} : ∀ {l : List Int}, r ∈ l → ∃ A B, l = A ++ r :: B ∧ r ∉ A
 | [], h => by cases h
 | x :: l, h => by
  by_cases e : x = r
  ·exact ⟨[], l, by rw [e]; rfl, by simp⟩
  ·obtain ⟨A, B, h1, h2⟩ := mem_first (l := l) (by simpa [Ne.symm e] using h)
   exact ⟨x :: A, B, by rw [h1]; rfl, by simp [h2, Ne.symm e]⟩
/-! The document's groups, from behind. -/
def gsuf (W : List Nat) (G g1 g2 : Int) : Nat → List It
 | 0 => []
 | n + 1 => It.d (W.getD (W.length - 1 - n) 0) :: ((if cutB (n : Int) g1 g2 = true then [It.g G] else []) ++ gsuf W G g1 g2 n)
theorem cutB_zero {g1 g2 : Int} : cutB 0 g1 g2 = false := by
 unfold cutB
 by_cases h : g1 < 1
 ·simp [h]
 ·simp [show (0 : Int) < g1 by omega]
theorem gpre_suf (W : List Nat) (G g1 g2 : Int) : ∀ n, n ≤ W.length → gpre W G g1 g2 W.length = gpre W G g1 g2 (W.length - n) ++ ((if decide (W.length - n > 0) && cutB (n : Int) g1 g2 then [It.g G] else []) ++ gsuf W G g1 g2 n)
 | 0, _ => by
  have := @cutB_zero g1 g2
  simp [gsuf, this]
 | n + 1, hn => by
  rw [gpre_suf W G g1 g2 n (by omega)]
  obtain ⟨i, hi⟩ : ∃ i, W.length - n = i + 1 := ⟨W.length - n - 1, by omega⟩
  have e1 : W.length - (n + 1) = i := by omega
  have e2 : (W.length : Int) - (i : Int) = ((n + 1 : Nat) : Int) := by omega
  have e3 : W.length - 1 - n = i := by omega
  rw [hi, e1]
  simp only [gpre, gsuf, e2, e3]
  rw [show decide (i + 1 > 0) = true by simp, Bool.true_and]
  simp [List.append_assoc]
theorem gpre_gsuf (W : List Nat) (G g1 g2 : Int) : gpre W G g1 g2 W.length = gsuf W G g1 g2 W.length := by
 have := gpre_suf W G g1 g2 W.length (by omega)
 rw [this]; simp [gpre]
theorem gsuf_len (W : List Nat) (G g1 g2 : Int) : ∀ n, (gsuf W G g1 g2 n).length ≤ 2 * n
 | 0 => by simp [gsuf]
 | n + 1 => by
  have := gsuf_len W G g1 g2 n
  simp only [gsuf, List.length_cons, List.length_append]
  split <;> simp <;> omega
theorem mod_next {a b : Nat} (hb : 0 < b) : (a + 1) % b = if a % b + 1 = b then 0 else a % b + 1 := by
 have h := Nat.mod_lt a hb
 have e : (a + 1) % b = (a % b + 1) % b := by rw [Nat.mod_add_mod]
 rw [e]
 split
 ·rename_i h2; rw [h2, Nat.mod_self]
 ·exact Nat.mod_eq_of_lt (by omega)
/-- How many stand in the group, and its size. -/
def inG (g1 g2 n : Nat) : Nat := if g1 = 0 ∨ n ≤ g1 then n else if g2 = 0 then n - g1 else (n - g1 - 1) % g2 + 1
def sizeG (g1 g2 n : Nat) : Nat := if g1 = 0 ∨ n ≤ g1 then g1 else g2
theorem in_a {g1 g2 n : Nat} (h : g1 = 0 ∨ n ≤ g1) : inG g1 g2 n = n ∧ sizeG g1 g2 n = g1 := by unfold inG sizeG; rw [if_pos h, if_pos h]; exact ⟨rfl, rfl⟩
theorem in_b {g1 g2 n : Nat} (h : ¬ (g1 = 0 ∨ n ≤ g1)) (h4 : g2 = 0) : inG g1 g2 n = n - g1 ∧ sizeG g1 g2 n = 0 := by unfold inG sizeG; rw [if_neg h, if_neg h, if_pos h4]; exact ⟨rfl, h4⟩
theorem in_c {g1 g2 n : Nat} (h : ¬ (g1 = 0 ∨ n ≤ g1)) (h4 : ¬ g2 = 0) : inG g1 g2 n = (n - g1 - 1) % g2 + 1 ∧ sizeG g1 g2 n = g2 := by unfold inG sizeG; rw [if_neg h, if_neg h, if_neg h4]; exact ⟨rfl, rfl⟩
theorem cut_in (g1 g2 n : Nat) : cutB (n : Int) g1 g2 = (decide (sizeG g1 g2 n > 0) && decide (inG g1 g2 n = sizeG g1 g2 n)) := by
 unfold cutB
 by_cases h : g1 = 0 ∨ n ≤ g1
 ·obtain ⟨e1, e2⟩ := in_a (g2 := g2) h
  rw [e1, e2]
  by_cases h1 : g1 = 0
  ·subst h1; simp
  ·by_cases h3 : n = g1
   ·subst h3
    simp [show ¬ (n : Int) < 1 by omega, show 0 < n by omega]
   ·simp [show (n : Int) < g1 by omega, h3]
 ·have h1 : ¬ (g1 : Int) < 1 := by omega
  have h2 : ¬ (n : Int) < g1 := by omega
  have h3 : ¬ (n : Int) = g1 := by omega
  by_cases h4 : g2 = 0
  ·obtain ⟨e1, e2⟩ := in_b h h4
   rw [e1, e2]; subst h4
   simp [h1, h2, h3]
  ·obtain ⟨e1, e2⟩ := in_c h h4
   have hm : Int.tmod ((n : Int) - g1) g2 = (((n - g1) % g2 : Nat) : Int) := by
    rw [show (n : Int) - (g1 : Int) = ((n - g1 : Nat) : Int) by omega]; rfl
   have hs := mod_next (a := n - g1 - 1) (b := g2) (by omega)
   rw [show n - g1 - 1 + 1 = n - g1 by omega] at hs
   rw [e1, e2, hm, hs]
   by_cases h6 : (n - g1 - 1) % g2 + 1 = g2
   ·rw [if_pos h6, h6]
    simp [h1, h2, h3, show 0 < g2 by omega]
   ·rw [if_neg h6]
    have h7 : ¬ (((n - g1 - 1) % g2 + 1 : Nat) : Int) = 0 := by omega
    rw [dF h1, dF h2, dF h3, dF h7, dF h6]
    simp
theorem in_next (g1 g2 n : Nat) : (inG g1 g2 (n + 1), sizeG g1 g2 (n + 1)) = (if cutB (n : Int) g1 g2 = true then (1, g2) else (inG g1 g2 n + 1, sizeG g1 g2 n)) := by
 rw [cut_in]
 by_cases h : g1 = 0 ∨ n ≤ g1
 ·obtain ⟨e1, e2⟩ := in_a (g2 := g2) h
  rw [e1, e2]
  by_cases h1 : g1 = 0
  ·obtain ⟨f1, f2⟩ := in_a (g1 := g1) (g2 := g2) (n := n + 1) (.inl h1)
   rw [f1, f2, h1]; simp
  ·by_cases h3 : n = g1
   ·have h5 : ¬ (g1 = 0 ∨ n + 1 ≤ g1) := by omega
    rw [dT (show g1 > 0 by omega), dT h3]
    by_cases h4 : g2 = 0
    ·obtain ⟨f1, f2⟩ := in_b h5 h4
     rw [f1, f2, h4, show n + 1 - g1 = 1 by omega]; rfl
    ·obtain ⟨f1, f2⟩ := in_c h5 h4
     rw [f1, f2, show n + 1 - g1 - 1 = 0 by omega, Nat.zero_mod]; rfl
   ·obtain ⟨f1, f2⟩ := in_a (g1 := g1) (g2 := g2) (n := n + 1) (.inr (by omega))
    rw [f1, f2, dF h3]; simp
 ·have h5 : ¬ (g1 = 0 ∨ n + 1 ≤ g1) := by omega
  by_cases h4 : g2 = 0
  ·obtain ⟨e1, e2⟩ := in_b h h4
   obtain ⟨f1, f2⟩ := in_b h5 h4
   rw [e1, e2, f1, f2, dF (show ¬ 0 > 0 by omega), show n + 1 - g1 = n - g1 + 1 by omega]; rfl
  ·obtain ⟨e1, e2⟩ := in_c h h4
   obtain ⟨f1, f2⟩ := in_c h5 h4
   have hs := mod_next (a := n - g1 - 1) (b := g2) (by omega)
   rw [show n - g1 - 1 + 1 = n - g1 by omega] at hs
   rw [e1, e2, f1, f2, show n + 1 - g1 - 1 = n - g1 by omega, hs, dT (show g2 > 0 by omega)]
   by_cases h7 : (n - g1 - 1) % g2 + 1 = g2
   ·rw [if_pos h7, dT h7]; rfl
   ·rw [if_neg h7, dF h7]; rfl
theorem rgrouped_eq {s : St22} {W : List Nat} {g1 g2 : Int} (hz : okZ s.Zero_) (hd : digP W) (hl : W.length ≤ 20000) (h1 : 0 ≤ g1 ∧ g1 ≤ 40) (h2 : 0 ≤ g2 ∧ g2 ≤ 40) :
  exergueref13_Grouped s (up W) g1 g2 = some (ren s.Zero_ (gpre W s.Group_ g1 g2 W.length)) := by
 obtain ⟨a, rfl⟩ : ∃ a : Nat, g1 = a := ⟨g1.toNat, by omega⟩
 obtain ⟨b, rfl⟩ : ∃ b : Nat, g2 = b := ⟨g2.toNat, by omega⟩
 obtain ⟨z1, z2⟩ := hz
 rw [gpre_gsuf]
 unfold exergueref13_Grouped
 refine bind_of (fun o => o = ren s.Zero_ (gsuf W s.Group_ a b W.length)) ?_ (fun o ho => by rw [ho])
 refine loop_count W.length (fun n => ((inG a b n : Int), (sizeG a b n : Int), (W.length : Int) - 1 - (n : Int), ren s.Zero_ (gsuf W s.Group_ a b n))) (fun _ => True) _ ?_ trivial (fun n hn _ => ?_) (fun _ => ?_) (by omega)
 ·simp only [up_len]
  rw [w64 (by omega) (by omega)]
  simp [inG, sizeG, gsuf, ren]
 ·left
  refine ⟨?_, trivial⟩
  have hgl := gsuf_len W s.Group_ a b n
  have hlt : W.length - 1 - n < W.length := by omega
  have hidx : (W.length : Int) - 1 - (n : Int) = ((W.length - 1 - n : Nat) : Int) := by omega
  have hdd : W.getD (W.length - 1 - n) 0 ≤ 9 := by
   rw [List.getD_eq_getElem?_getD, List.getElem?_eq_getElem hlt]
   exact hd _ (List.getElem_mem hlt)
  have hc := cut_in a b n
  have hnx := in_next a b n
  have hib : inG a b n ≤ 100000 := by
   unfold inG
   split
   ·omega
   ·split
    ·omega
    ·have := Nat.mod_lt (n - a - 1) (show 0 < b by omega); omega
  simp only
  rw [dT (by omega), hidx, inR_nat (by rw [up_len]; exact hlt), up_get hlt]
  have hch : (IntKind.wrap .i32 (IntKind.wrap .i64 (IntKind.wrap .i64 s.Zero_ + IntKind.wrap .i64 ((W.getD (W.length - 1 - n) 0 : Nat) : Int)))) = s.Zero_ + ((W.getD (W.length - 1 - n) 0 : Nat) : Int) := by
   rw [w64 (n := s.Zero_) (by omega) (by omega), w64 (n := ((W.getD (W.length - 1 - n) 0 : Nat) : Int)) (by omega) (by omega), w64 (by omega) (by omega), w32 (by omega) (by omega)]
  rw [hch]
  cases hcut : cutB (n : Int) a b with
  | true =>
   rw [hcut] at hc hnx
   have hc' := hc.symm
   simp only [Bool.and_eq_true, decide_eq_true_eq] at hc'
   rw [if_pos rfl] at hnx
   have e1 := congrArg Prod.fst hnx
   have e2 := congrArg Prod.snd hnx
   simp only at e1 e2
   rw [dT (by omega), dT (by omega), e1, e2]
   simp only [cond_true, Option.bind_some]
   rw [room_of (by simp [ren_len]; omega)]
   simp only [cond_true, Option.bind_some]
   rw [room_of (by simp [ren_len]; omega), w64 (by omega) (by omega), w64 (by omega) (by omega)]
   simp [gsuf, hcut, ren, It.at]
   omega
  | false =>
   rw [hcut] at hc hnx
   rw [if_neg (by simp)] at hnx
   have e1 := congrArg Prod.fst hnx
   have e2 := congrArg Prod.snd hnx
   simp only at e1 e2
   have hb : (bif decide ((sizeG a b n : Int) > 0) then some (decide ((inG a b n : Int) = (sizeG a b n : Int))) else some false) = some false := by
    by_cases h5 : (sizeG a b n : Int) > 0
    ·rw [dT h5]
     by_cases h6 : (inG a b n : Int) = (sizeG a b n : Int)
     ·have h7 : inG a b n = sizeG a b n := by omega
      rw [dT (show sizeG a b n > 0 by omega), dT h7] at hc
      cases hc
     ·rw [dF h6]; rfl
    ·rw [dF h5]; rfl
   rw [hb, e1, e2]
   simp only [cond_true, cond_false, Option.bind_some]
   rw [room_of (by simp [ren_len]; omega), w64 (by omega) (by omega), w64 (by omega) (by omega)]
   simp [gsuf, hcut, ren, It.at]
   omega
 ·refine ⟨_, ?_, rfl⟩
  simp only
  rw [dF (by omega)]; rfl
/-! Both sides of reading. -/
def figsV (z : Int) (l : List Int) : List Int × Bool := if (l.all fun r => decide (z ≤ r ∧ r ≤ z + 9)) = true then (l.map (fun r => r - z), true) else ([], false)
theorem sfig_eq {s : St22} {l : List Int} (hz : okZ s.Zero_) (hi : i32P l) (hl : l.length ≤ 1000) : shape_figures s l = some (figsV s.Zero_ l) := by
 unfold shape_figures
 rw [loop_all (s0 := ((0 : Int), ([] : List Int))) (fun r => decide (s.Zero_ ≤ r ∧ r ≤ s.Zero_ + 9)) l (fun pre => ((pre.length : Int), pre.map (fun r => r - s.Zero_))) (.inl (l.map (fun r => r - s.Zero_))) (.inr ([], false)) rfl (fun pre x suf h => ?_) ?_ (by omega)]
 ·unfold figsV
  split <;> rfl
 ·simp only
  rw [dF (by omega)]; rfl
 ·have hlt : pre.length < l.length := by rw [h]; simp
  have hx : nth l (pre.length : Int) = x := by rw [nth_nat hlt]; simp [h]
  have hxi := hi x (by rw [h]; simp)
  simp only
  rw [dT (by omega), inR_nat hlt, hx, value_eq hz hxi]
  by_cases hd : s.Zero_ ≤ x ∧ x ≤ s.Zero_ + 9
  ·rw [if_pos hd, if_pos (by simpa using hd)]
   simp only [cond_true, Option.bind_some, Bool.not_true, cond_false]
   rw [room_of (by simp; omega), w64 (by omega) (by omega)]
   simp
  ·rw [if_neg hd, if_neg (by simpa using hd)]; rfl
theorem rfig_eq {s : St22} {l : List Int} (hz : okZ s.Zero_) (hi : i32P l) (hl : l.length ≤ 1000) : exergueref17_figures s l = some (figsV s.Zero_ l) := by
 unfold exergueref17_figures
 rw [loop_all (s0 := ((0 : Int), ([] : List Int))) (fun r => decide (s.Zero_ ≤ r ∧ r ≤ s.Zero_ + 9)) l (fun pre => ((pre.length : Int), pre.map (fun r => r - s.Zero_))) (.inl (l.map (fun r => r - s.Zero_))) (.inr ([], false)) rfl (fun pre x suf h => ?_) ?_ (by omega)]
 ·unfold figsV
  split <;> rfl
 ·simp only
  rw [dF (by omega)]; rfl
 ·have hlt : pre.length < l.length := by rw [h]; simp
  have hx : nth l (pre.length : Int) = x := by rw [nth_nat hlt]; simp [h]
  have hxi := hi x (by rw [h]; simp)
  simp only
  rw [dT (by omega), inR_nat hlt, hx, rvalue_eq hz hxi]
  by_cases hd : s.Zero_ ≤ x ∧ x ≤ s.Zero_ + 9
  ·rw [if_pos hd, if_pos (by simpa using hd)]
   simp only [cond_true, Option.bind_some, Bool.not_true, cond_false]
   rw [room_of (by simp; omega), w64 (by omega) (by omega)]
   simp
  ·rw [if_neg hd, if_neg (by simpa using hd)]; rfl
theorem place_at {A B : List Int} {r : Int} (h : r ∉ A) (hl : A.length + B.length ≤ 100000) : exergueref17_place (A ++ r :: B) r = some (A.length : Int) := by
 unfold exergueref17_place
 refine bind_of (fun o => joinX (fun (s40 : Unit) => (some ((A ++ r :: B).length : Int))) o = some (A.length : Int)) ?_ (fun o ho => ho)
 refine loop_count A.length (fun i => (i : Int)) (fun _ => True) _ rfl trivial (fun i hi _ => ?_) (fun _ => ?_) (by omega)
 ·left
  refine ⟨?_, trivial⟩
  rw [dT (by simp; omega), inR_nat (by simp; omega)]
  have : ¬ nth (A ++ r :: B) (i : Int) = r := by
   rw [nth_nat (by simp; omega), List.getElem_append_left hi]
   intro e; exact h (e ▸ List.getElem_mem hi)
  rw [dF this, w64 (by omega) (by omega)]; rfl
 ·refine ⟨.inr (A.length : Int), ?_, rfl⟩
  rw [dT (by simp; omega), inR_nat (by simp), dT (show nth (A ++ r :: B) (A.length : Int) = r by rw [nth_nat (by simp)]; simp)]
  rfl
theorem place_none {A : List Int} {r : Int} (h : r ∉ A) (hl : A.length ≤ 100000) : exergueref17_place A r = some (A.length : Int) := by
 unfold exergueref17_place
 refine bind_of (fun o => joinX (fun (s40 : Unit) => (some (A.length : Int))) o = some (A.length : Int)) ?_ (fun o ho => ho)
 refine loop_count A.length (fun i => (i : Int)) (fun _ => True) _ rfl trivial (fun i hi _ => ?_) (fun _ => ?_) (by omega)
 ·left
  refine ⟨?_, trivial⟩
  rw [dT (by omega), inR_nat hi]
  have : ¬ nth A (i : Int) = r := by
   rw [nth_nat hi]
   intro e; exact h (e ▸ List.getElem_mem hi)
  rw [dF this, w64 (by omega) (by omega)]; rfl
 ·refine ⟨.inl (), ?_, rfl⟩
  rw [dF (by omega)]; rfl
/-- Groups: all that both answer. -/
def ungV (s : St22) (l : List Int) (g1 g2 : Int) : Option (List Int) :=
 if (l.all fun r => decide (s.Zero_ ≤ r ∧ r ≤ s.Zero_ + 9 ∨ r = s.Group_)) = true then
  if ren s.Zero_ (gpre (((l.filter fun r => decide (s.Zero_ ≤ r ∧ r ≤ s.Zero_ + 9)).map fun r => (r - s.Zero_).toNat)) s.Group_ g1 g2 ((l.filter fun r => decide (s.Zero_ ≤ r ∧ r ≤ s.Zero_ + 9)).map fun r => (r - s.Zero_).toNat).length) = l
  then some (up ((l.filter fun r => decide (s.Zero_ ≤ r ∧ r ≤ s.Zero_ + 9)).map fun r => (r - s.Zero_).toNat)) else none
 else none
def ungP (s : St22) (l : List Int) (g1 g2 : Int) (y : List Int × Int × Int) : Prop := (y.2.2 = 10 ∧ ungV s l g1 g2 = none) ∨ (y.2.2 = 0 ∧ ungV s l g1 g2 = some y.1)
theorem ung_bad {s : St22} {l : List Int} {g1 g2 x : Int} (hx : x ∈ l) (h1 : ¬ (s.Zero_ ≤ x ∧ x ≤ s.Zero_ + 9)) (h2 : ¬ x = s.Group_) : ungV s l g1 g2 = none := by
 unfold ungV
 rw [if_neg]
 intro h
 have := List.all_eq_true.1 h x hx
 simp only [decide_eq_true_eq] at this
 exact this.elim h1 h2
theorem ung_good {s : St22} {l : List Int} {g1 g2 : Int} (h : ∀ r ∈ l, (s.Zero_ ≤ r ∧ r ≤ s.Zero_ + 9) ∨ r = s.Group_) {m : List Nat} (hm : (l.filter fun r => decide (s.Zero_ ≤ r ∧ r ≤ s.Zero_ + 9)).map (fun r => (r - s.Zero_).toNat) = m) :
  ungV s l g1 g2 = if ren s.Zero_ (gpre m s.Group_ g1 g2 m.length) = l then some (up m) else none := by
 unfold ungV
 rw [hm, if_pos]
 rw [List.all_eq_true]
 intro r hr
 exact decide_eq_true (h r hr)
theorem equal_eq {a b : List Int} (ha : a.length ≤ 100000) : slices_Equal a b = some (decide (a = b)) := by
 unfold slices_Equal
 exact row_eq (by omega)
theorem sung_tot {s : St22} {l : List Int} {g1 g2 : Int} (hz : okZ s.Zero_) (hi : i32P l) (hl : l.length ≤ 1000) (h1 : 0 ≤ g1 ∧ g1 ≤ 40) (h2 : 0 ≤ g2 ∧ g2 ≤ 40) : Tot (sym_Ungrouped s l g1 g2) (ungP s l g1 g2) := by
 unfold sym_Ungrouped
 refine Tot.join ?_
 refine loop_row (O := List Int ⊕ (List Int × Int × Int)) l (fun pre => ((pre.length : Int), up ((pre.filter fun r => decide (s.Zero_ ≤ r ∧ r ≤ s.Zero_ + 9)).map fun r => (r - s.Zero_).toNat))) (fun pre => ∀ r ∈ pre, (s.Zero_ ≤ r ∧ r ≤ s.Zero_ + 9) ∨ r = s.Group_) _ rfl (fun r hr => by cases hr) (fun pre x suf h hI => ?_) (fun hI => ?_) (by omega)
 ·have hlt : pre.length < l.length := by rw [h]; simp
  have hx : nth l (pre.length : Int) = x := by rw [nth_nat hlt]; simp [h]
  have hxm : x ∈ l := by rw [h]; simp
  have hxi := hi x hxm
  have hfl := List.length_filter_le (fun r => decide (s.Zero_ ≤ r ∧ r ≤ s.Zero_ + 9)) pre
  have hnew : ∀ (hx : (s.Zero_ ≤ x ∧ x ≤ s.Zero_ + 9) ∨ x = s.Group_), ∀ r ∈ pre ++ [x], (s.Zero_ ≤ r ∧ r ≤ s.Zero_ + 9) ∨ r = s.Group_ := fun hx r hr => by
   rcases List.mem_append.1 hr with hr | hr
   ·exact hI r hr
   ·simp at hr; subst hr; exact hx
  simp only
  rw [dT (by omega), inR_nat hlt, hx, value_eq hz hxi]
  by_cases hd : s.Zero_ ≤ x ∧ x ≤ s.Zero_ + 9
  ·left
   rw [if_pos hd]
   simp only [cond_true, Option.bind_some]
   rw [room_of (by rw [up_len, List.length_map]; simp only [List.length_cons, List.length_nil]; omega)]
   simp only [cond_true, Option.bind_some, joinX]
   rw [w64 (by omega) (by omega)]
   refine ⟨?_, hnew (.inl hd)⟩
   have hf : (pre ++ [x]).filter (fun r => decide (s.Zero_ ≤ r ∧ r ≤ s.Zero_ + 9)) = pre.filter (fun r => decide (s.Zero_ ≤ r ∧ r ≤ s.Zero_ + 9)) ++ [x] := by
    rw [List.filter_append]; simp [hd]
   rw [hf]
   simp [up]; omega
  ·rw [if_neg hd]
   simp only [cond_true, cond_false, Option.bind_some]
   by_cases hG : x = s.Group_
   ·left
    rw [dF (by simp [hG])]
    simp only [cond_false, Option.bind_some, joinX]
    rw [w64 (by omega) (by omega)]
    refine ⟨?_, hnew (.inr hG)⟩
    have hf : (pre ++ [x]).filter (fun r => decide (s.Zero_ ≤ r ∧ r ≤ s.Zero_ + 9)) = pre.filter (fun r => decide (s.Zero_ ≤ r ∧ r ≤ s.Zero_ + 9)) := by
     rw [List.filter_append]; simp [hd]
    rw [hf]
    simp
   ·right
    rw [dT hG]
    exact ⟨_, rfl, .inl ⟨rfl, ung_bad hxm hd hG⟩⟩
 ·refine ⟨.inl (up ((l.filter fun r => decide (s.Zero_ ≤ r ∧ r ≤ s.Zero_ + 9)).map fun r => (r - s.Zero_).toNat)), by simp only; rw [dF (by omega)]; rfl, ?_⟩
  have hfl := List.length_filter_le (fun r => decide (s.Zero_ ≤ r ∧ r ≤ s.Zero_ + 9)) l
  have hdm : digP ((l.filter fun r => decide (s.Zero_ ≤ r ∧ r ≤ s.Zero_ + 9)).map fun r => (r - s.Zero_).toNat) := fun x hx => by
   obtain ⟨r, hr, rfl⟩ := List.mem_map.1 hx
   have := (List.mem_filter.1 hr).2
   simp at this
   omega
  have hml : ((l.filter fun r => decide (s.Zero_ ≤ r ∧ r ≤ s.Zero_ + 9)).map fun r => (r - s.Zero_).toNat).length ≤ l.length := by simpa using hfl
  have hgd := fun m hm => ung_good (g1 := g1) (g2 := g2) hI (m := m) hm
  generalize hm : (l.filter fun r => decide (s.Zero_ ≤ r ∧ r ≤ s.Zero_ + 9)).map (fun r => (r - s.Zero_).toNat) = m at *
  have hgd := hgd m rfl
  have hgl := gpre_len m s.Group_ g1 g2 m.length
  show Tot (Option.bind (sym_Grouped s (up m) g1 g2) _) _
  rw [grouped_eq hz hdm (by omega) h1 h2]
  simp only [Option.bind_some]
  rw [equal_eq (by rw [ren_len]; omega)]
  by_cases he : ren s.Zero_ (gpre m s.Group_ g1 g2 m.length) = l
  ·rw [if_pos he] at hgd
   rw [dT he]
   exact Tot.ret (.inr ⟨rfl, hgd⟩)
  ·rw [if_neg he] at hgd
   rw [dF he]
   exact Tot.ret (.inl ⟨rfl, hgd⟩)
theorem rung_tot {s : St22} {l : List Int} {g1 g2 : Int} (hz : okZ s.Zero_) (hi : i32P l) (hl : l.length ≤ 1000) (h1 : 0 ≤ g1 ∧ g1 ≤ 40) (h2 : 0 ≤ g2 ∧ g2 ≤ 40) : Tot (exergueref13_Ungrouped s l g1 g2) (ungP s l g1 g2) := by
 unfold exergueref13_Ungrouped
 refine Tot.join ?_
 refine loop_row (O := List Int ⊕ (List Int × Int × Int)) l (fun pre => ((pre.length : Int), up ((pre.filter fun r => decide (s.Zero_ ≤ r ∧ r ≤ s.Zero_ + 9)).map fun r => (r - s.Zero_).toNat))) (fun pre => ∀ r ∈ pre, (s.Zero_ ≤ r ∧ r ≤ s.Zero_ + 9) ∨ r = s.Group_) _ rfl (fun r hr => by cases hr) (fun pre x suf h hI => ?_) (fun hI => ?_) (by omega)
 ·have hlt : pre.length < l.length := by rw [h]; simp
  have hx : nth l (pre.length : Int) = x := by rw [nth_nat hlt]; simp [h]
  have hxm : x ∈ l := by rw [h]; simp
  have hxi := hi x hxm
  have hfl := List.length_filter_le (fun r => decide (s.Zero_ ≤ r ∧ r ≤ s.Zero_ + 9)) pre
  have hnew : ∀ (hx : (s.Zero_ ≤ x ∧ x ≤ s.Zero_ + 9) ∨ x = s.Group_), ∀ r ∈ pre ++ [x], (s.Zero_ ≤ r ∧ r ≤ s.Zero_ + 9) ∨ r = s.Group_ := fun hx r hr => by
   rcases List.mem_append.1 hr with hr | hr
   ·exact hI r hr
   ·simp at hr; subst hr; exact hx
  simp only
  rw [dT (by omega), inR_nat hlt, hx, rvalue_eq hz hxi]
  by_cases hd : s.Zero_ ≤ x ∧ x ≤ s.Zero_ + 9
  ·left
   rw [if_pos hd]
   simp only [cond_true, cond_false, Bool.not_true, Option.bind_some, joinX]
   rw [room_of (by rw [up_len, List.length_map]; simp only [List.length_cons, List.length_nil]; omega)]
   simp only [cond_true, Option.bind_some, joinX]
   rw [w64 (by omega) (by omega)]
   refine ⟨?_, hnew (.inl hd)⟩
   have hf : (pre ++ [x]).filter (fun r => decide (s.Zero_ ≤ r ∧ r ≤ s.Zero_ + 9)) = pre.filter (fun r => decide (s.Zero_ ≤ r ∧ r ≤ s.Zero_ + 9)) ++ [x] := by
    rw [List.filter_append]; simp [hd]
   rw [hf]
   simp [up]; omega
  ·rw [if_neg hd]
   simp only [cond_true, cond_false, Bool.not_false, Option.bind_some]
   by_cases hG : x = s.Group_
   ·left
    rw [dF (by simp [hG])]
    simp only [cond_false, Option.bind_some, joinX]
    rw [w64 (by omega) (by omega)]
    refine ⟨?_, hnew (.inr hG)⟩
    have hf : (pre ++ [x]).filter (fun r => decide (s.Zero_ ≤ r ∧ r ≤ s.Zero_ + 9)) = pre.filter (fun r => decide (s.Zero_ ≤ r ∧ r ≤ s.Zero_ + 9)) := by
     rw [List.filter_append]; simp [hd]
    rw [hf]
    simp
   ·right
    rw [dT hG]
    exact ⟨_, rfl, .inl ⟨rfl, ung_bad hxm hd hG⟩⟩
 ·refine ⟨.inl (up ((l.filter fun r => decide (s.Zero_ ≤ r ∧ r ≤ s.Zero_ + 9)).map fun r => (r - s.Zero_).toNat)), by simp only; rw [dF (by omega)]; rfl, ?_⟩
  have hfl := List.length_filter_le (fun r => decide (s.Zero_ ≤ r ∧ r ≤ s.Zero_ + 9)) l
  have hdm : digP ((l.filter fun r => decide (s.Zero_ ≤ r ∧ r ≤ s.Zero_ + 9)).map fun r => (r - s.Zero_).toNat) := fun x hx => by
   obtain ⟨r, hr, rfl⟩ := List.mem_map.1 hx
   have := (List.mem_filter.1 hr).2
   simp at this
   omega
  have hml : ((l.filter fun r => decide (s.Zero_ ≤ r ∧ r ≤ s.Zero_ + 9)).map fun r => (r - s.Zero_).toNat).length ≤ l.length := by simpa using hfl
  have hgd := fun m hm => ung_good (g1 := g1) (g2 := g2) hI (m := m) hm
  generalize hm : (l.filter fun r => decide (s.Zero_ ≤ r ∧ r ≤ s.Zero_ + 9)).map (fun r => (r - s.Zero_).toNat) = m at *
  have hgd := hgd m rfl
  have hgl := gpre_len m s.Group_ g1 g2 m.length
  show Tot (Option.bind (exergueref13_Grouped s (up m) g1 g2) _) _
  rw [rgrouped_eq hz hdm (by omega) h1 h2]
  simp only [Option.bind_some]
  rw [same_eq (by rw [ren_len]; omega)]
  by_cases he : ren s.Zero_ (gpre m s.Group_ g1 g2 m.length) = l
  ·rw [if_pos he] at hgd
   rw [dT he]
   exact Tot.ret (.inr ⟨rfl, hgd⟩)
  ·rw [if_neg he] at hgd
   rw [dF he]
   exact Tot.ret (.inl ⟨rfl, hgd⟩)
theorem pow_pair {s : St22} {l : List Int} (hz : okZ s.Zero_) (hi : i32P l) (hl : l.length ≤ 1000) :
  ∃ a b, shape_readPower s l = some a ∧ exergueref17_exponent s l = some b ∧ a.2 = b.2 ∧ (a.2 = true → a.1 = b.1 ∧ -100000 ≤ a.1 ∧ a.1 ≤ 100000) := by
 obtain ⟨l', neg, hi', hl', f1, f2⟩ : ∃ l' neg, i32P l' ∧ l'.length ≤ 1000 ∧
   (Option.bind (bif (decide ((l.length : Int) > 0)) then (bif inR 0 l.length then (bif (decide ((nth l 0) = s.Minus_)) then (some true) else (bif inR 0 l.length then (some ((decide ((nth l 0) = s.Plus_)))) else none)) else none) else (some false)) fun (s52 : Bool) => (bif s52 then (Option.bind (bif inR 0 l.length then (bif (decide ((nth l 0) = s.Minus_)) then (some (-1)) else (some 1)) else none) fun (s72 : Int) => (bif inS 1 (l.length : Int) l.length then (some ((cut l 1 (l.length : Int)), s72)) else none)) else (some (l, 1)))) = some (l', if neg = true then (-1 : Int) else 1) ∧
   (Option.bind (bif (decide ((l.length : Int) > 0)) then (bif inR 0 l.length then (bif (decide ((nth l 0) = s.Minus_)) then (some true) else (bif inR 0 l.length then (some ((decide ((nth l 0) = s.Plus_)))) else none)) else none) else (some false)) fun (s40 : Bool) => (bif s40 then (bif inR 0 l.length then (bif inS 1 (l.length : Int) l.length then (some ((cut l 1 (l.length : Int)), (decide ((nth l 0) = s.Minus_)))) else none) else none) else (some (l, false)))) = some (l', neg) := by
  cases l with
  | nil => exact ⟨[], false, hi, hl, rfl, rfl⟩
  | cons x t =>
   have e0 : nth (x :: t) 0 = x := rfl
   have ec : cut (x :: t) 1 ((x :: t).length : Int) = t := by
    unfold cut
    rw [Int.toNat_natCast, List.take_length]; rfl
   have hit : i32P t := fun r hr => hi r (List.mem_cons_of_mem _ hr)
   have hlt : t.length ≤ 1000 := by simp at hl; omega
   have g1 : decide (((x :: t).length : Int) > 0) = true := dT (by rw [List.length_cons]; omega)
   have g2 : inR 0 (x :: t).length = true := inR_int (by omega) (by rw [List.length_cons]; omega)
   have g3 : inS 1 ((x :: t).length : Int) (x :: t).length = true := inS_of (by omega) (by rw [List.length_cons]; omega) (by omega)
   rw [e0, g1, g2, ec, g3]
   by_cases c1 : x = s.Minus_
   ·refine ⟨t, true, hit, hlt, ?_, ?_⟩ <;> rw [dT c1] <;> rfl
   ·by_cases c2 : x = s.Plus_
    ·refine ⟨t, false, hit, hlt, ?_, ?_⟩ <;> rw [dF c1, dT c2] <;> rfl
    ·refine ⟨x :: t, false, hi, hl, ?_, ?_⟩ <;> rw [dF c1, dF c2] <;> rfl
 unfold shape_readPower exergueref17_exponent
 rw [f1, f2]
 simp only [Option.bind_some]
 rw [sfig_eq hz hi' hl', rfig_eq hz hi' hl']
 unfold figsV
 by_cases ha : (l'.all fun r => decide (s.Zero_ ≤ r ∧ r ≤ s.Zero_ + 9)) = true
 ·rw [if_pos ha]
  obtain ⟨k, hk, hkd⟩ : ∃ k : List Nat, l'.map (fun r => r - s.Zero_) = up k ∧ digP k := by
   refine ⟨l'.map fun r => (r - s.Zero_).toNat, ?_, fun x hx => ?_⟩
   ·unfold up
    rw [List.map_map]
    refine List.map_congr_left (fun r hr => ?_)
    have := List.all_eq_true.1 ha r hr
    simp only [decide_eq_true_eq] at this
    simp only [Function.comp]
    omega
   ·obtain ⟨r, hr, rfl⟩ := List.mem_map.1 hx
    have := List.all_eq_true.1 ha r hr
    simp only [decide_eq_true_eq] at this
    omega
  rw [hk]
  simp only [Option.bind_some, up_len, Bool.not_true, cond_false]
  by_cases h0 : (k.length : Int) = 0
  ·rw [dT h0, dT (show (k.length : Int) < 1 by omega)]
   exact ⟨_, _, rfl, rfl, rfl, fun h => by cases h⟩
  ·rw [dF h0, dF (show ¬ (k.length : Int) < 1 by omega)]
   by_cases h40 : (k.length : Int) > 40
   ·rw [dT h40]
    exact ⟨_, _, rfl, rfl, rfl, fun h => by cases h⟩
   ·rw [dF h40]
    simp only [Option.bind_some, cond_false, joinX]
    have hup : ∀ (pre : List Nat) (y : Nat) (suf : List Nat), k = pre ++ y :: suf → nth (up k) (pre.length : Int) = (y : Int) ∧ y ≤ 9 ∧ pre.length < k.length ∧ vN (pre ++ [y]) ≤ vN k := fun pre y suf h => by
     have hlt : pre.length < k.length := by rw [h]; simp
     refine ⟨by rw [up_get hlt, h]; simp, hkd y (by rw [h]; simp), hlt, ?_⟩
     have := @vN_pre k (pre.length + 1)
     rw [show k.take (pre.length + 1) = pre ++ [y] by rw [h, show pre ++ y :: suf = (pre ++ [y]) ++ suf by simp]; exact List.take_left' (by simp)] at this
     exact this
    rw [loop_fold (s0 := ((0 : Int), (0 : Int))) k (fun pre => (((if vN pre ≤ 100001 then vN pre else 100001 : Nat) : Int), (pre.length : Int))) ((if vN k ≤ 100001 then vN k else 100001 : Nat) : Int) rfl (fun pre y suf h => ?_) ?_ (by omega)]
    ·obtain ⟨o, ho, hc⟩ : ∃ o, loopN (fun (s152 : Int × Int) => (bif (decide (s152.2 < (k.length : Int))) then (bif inR s152.2 k.length then (bif (decide (((IntKind.wrap .i64 ((IntKind.wrap .i64 (s152.1 * 10)) + (IntKind.wrap .i64 (nth (up k) s152.2))))) > 100000)) then (some (.inr (.inr (0, false)))) else (some (.inl ((IntKind.wrap .i64 ((IntKind.wrap .i64 (s152.1 * 10)) + (IntKind.wrap .i64 (nth (up k) s152.2)))), (IntKind.wrap .i64 (s152.2 + 1)))))) else none) else (some (.inr (.inl s152.1 : Int ⊕ (Int × Bool)))))) big (0, 0) = some o ∧ (if vN k ≤ 100000 then o = .inl (vN k : Int) else o = .inr ((0 : Int), false)) := by
      refine loop_row k (fun pre => ((vN pre : Int), (pre.length : Int))) (fun pre => vN pre ≤ 100000) _ rfl (by decide) (fun pre y suf h hI => ?_) (fun hI => ?_) (by omega)
      ·obtain ⟨u1, u2, u3, u4⟩ := hup pre y suf h
       have hsn := vN_snoc pre y
       simp only
       rw [dT (by omega), inR_nat u3, u1, w64 (n := (y : Int)) (by omega) (by omega), w64 (n := (vN pre : Int) * 10) (by omega) (by omega), w64 (n := (vN pre : Int) * 10 + y) (by omega) (by omega), w64 (by omega) (by omega)]
       by_cases hv : (vN pre : Int) * 10 + y > 100000
       ·right
        rw [dT hv]
        exact ⟨_, rfl, by rw [if_neg (by omega)]⟩
       ·left
        rw [dF hv]
        refine ⟨?_, by omega⟩
        rw [hsn]
        simp
      ·refine ⟨.inl (vN k : Int), by simp only; rw [dF (by omega)]; rfl, by rw [if_pos hI]⟩
     rw [ho]
     simp only [Option.bind_some]
     by_cases hv : vN k ≤ 100000
     ·rw [if_pos hv] at hc
      subst hc
      rw [if_pos (show vN k ≤ 100001 by omega), dT (show (vN k : Int) ≤ 100000 by omega)]
      cases neg
      ·simp only [Bool.false_eq_true, if_false, Int.one_mul, joinX, cond_false]
       rw [w64 (by omega) (by omega)]
       exact ⟨_, _, rfl, rfl, rfl, fun _ => ⟨rfl, by simp only; omega, by simp only; omega⟩⟩
      ·simp only [if_true, joinX, cond_true]
       rw [w64 (n := -1 * (vN k : Int)) (by omega) (by omega), w64 (n := 0 - (vN k : Int)) (by omega) (by omega)]
       exact ⟨_, _, rfl, rfl, rfl, fun _ => ⟨by simp only; omega, by simp only; omega, by simp only; omega⟩⟩
     ·rw [if_neg hv] at hc
      subst hc
      have hb : decide (((if vN k ≤ 100001 then vN k else 100001 : Nat) : Int) ≤ 100000) = false := dF (by split <;> omega)
      rw [hb]
      exact ⟨_, _, rfl, rfl, rfl, fun h => by cases h⟩
    ·simp only
     rw [dF (by omega)]; rfl
    ·obtain ⟨u1, u2, u3, u4⟩ := hup pre y suf h
     have hsn := vN_snoc pre y
     have hb : (if vN pre ≤ 100001 then vN pre else 100001) ≤ 100001 := by split <;> omega
     simp only
     rw [dT (by omega), inR_nat u3, u1, w64 (n := (y : Int)) (by omega) (by omega), w64 (n := ((if vN pre ≤ 100001 then vN pre else 100001 : Nat) : Int) * 10) (by omega) (by omega), w64 (n := ((if vN pre ≤ 100001 then vN pre else 100001 : Nat) : Int) * 10 + y) (by omega) (by omega), w64 (by omega) (by omega)]
     simp only [cond_true]
     congr 3
     ·unfold minI; rw [hsn]; repeat' split
      all_goals omega
     ·simp
 ·rw [if_neg ha]
  exact ⟨_, _, rfl, rfl, rfl, fun h => by cases h⟩
theorem rnorm_gen {z core : List Nat} {a b : Nat} {e : Int} {neg : Bool} (hz : z = List.replicate a 0 ++ core ++ List.replicate b 0) (hcb : core = [] → b = 0) (hh : core.head? ≠ some 0) (ht : core.getLast? ≠ some 0)
  (hd : digP z) (hl : z.length ≤ 5000) (he : -3000000 ≤ e) (he2 : e ≤ 3000000) :
  exergueref05_Norm neg (up z) e = some (normV neg core (e + b)) := by
 have hlen : z.length = a + core.length + b := by rw [hz]; simp [Nat.add_assoc]
 have g1 : ∀ i, i < a → z.getD i 0 = 0 := fun i hi => by
  rw [hz, List.append_assoc, List.getD_eq_getElem?_getD, List.getElem?_append_left (by simpa using hi)]; simp [hi]
 have g2 : ∀ i, a + core.length ≤ i → z.getD i 0 = 0 := fun i hi => by
  rw [hz, List.getD_eq_getElem?_getD, List.getElem?_append_right (by simp; omega), List.getElem?_replicate]
  split <;> rfl
 have g3 : ∀ i, i < core.length → z.getD (a + i) 0 = core.getD i 0 := fun i hi => by
  rw [hz, List.append_assoc, List.getD_eq_getElem?_getD, List.getElem?_append_right (by simp), List.getElem?_append_left (by simp; omega)]
  simp
 have f1 : ∀ i, i ≤ a → fzN z i = -1 := by
  intro i
  induction i with
  | zero => intro _; rfl
  | succ i ih => intro hi; rw [fzN, ih (by omega), if_neg (by rw [g1 i (by omega)]; omega)]
 have f2 : ∀ i, i ≤ a → lzN z i = -1 := by
  intro i
  induction i with
  | zero => intro _; rfl
  | succ i ih => intro hi; rw [lzN, ih (by omega), if_neg (by rw [g1 i (by omega)]; omega)]
 have f3 : core ≠ [] → ∀ i, a < i → fzN z i = a := by
  intro h0 i
  have hx : core.getD 0 0 > 0 := by
   cases core with
   | nil => exact absurd rfl h0
   | cons x c => simp at hh ⊢; omega
  have hpos : 0 < core.length := List.length_pos_iff.2 h0
  induction i with
  | zero => intro h; omega
  | succ i ih =>
   intro hi
   by_cases hia : i = a
   ·subst hia
    have := g3 0 hpos
    simp only [Nat.add_zero] at this
    rw [fzN, f1 i (by omega), if_pos ⟨by omega, by rw [this]; exact hx⟩]
   ·rw [fzN, ih (by omega), if_neg (by omega)]
 have f4 : core ≠ [] → ∀ j, lzN z (a + core.length + j) = a + core.length - 1 := by
  intro h0 j
  have hpos : 0 < core.length := List.length_pos_iff.2 h0
  have hx : core.getD (core.length - 1) 0 > 0 := by
   rw [List.getLast?_eq_getElem?] at ht
   rw [List.getD_eq_getElem?_getD]
   rw [List.getElem?_eq_getElem (by omega)] at ht ⊢
   simp at ht ⊢; omega
  induction j with
  | zero =>
   have e1 : a + core.length + 0 = (a + (core.length - 1)) + 1 := by omega
   rw [e1, lzN, if_pos (by rw [g3 _ (by omega)]; exact hx)]
   omega
  | succ j ih =>
   rw [show a + core.length + (j + 1) = (a + core.length + j) + 1 by omega, lzN, if_neg (by rw [g2 _ (by omega)]; omega)]
   exact ih
 unfold exergueref05_Norm
 obtain ⟨o, h1, h2⟩ := loop_count (step := (fun (s129 : Int × Int × Int) => (bif (decide (s129.2.2 < ((up z).length : Int))) then (Option.bind (bif inR s129.2.2 (up z).length then (bif (decide ((nth (up z) s129.2.2) > 9)) then (some (.inr (.inr (.inr ((⟨false, ([] : List Int), 0⟩ : St28), 1))))) else (bif inR s129.2.2 (up z).length then (bif (decide ((nth (up z) s129.2.2) > 0)) then (bif (decide (s129.1 < 0)) then (some (.inl (s129.2.2, s129.2.2))) else (some (.inl (s129.1, s129.2.2)))) else (some (.inl (s129.1, s129.2.1)))) else none)) else none) (joinX fun (s230 : Int × Int) => (some (.inl (s230.1, s230.2, (IntKind.wrap .i64 (s129.2.2 + 1))))))) else (some (.inr (.inl (s129.1, s129.2.1)))))))
  z.length (fun i => (fzN z i, lzN z i, (i : Int))) (fun _ => True) (fun o => o = (.inl (fzN z z.length, lzN z z.length) : (Int × Int) ⊕ (St28 × Int))) (s0 := ((-1), (-1), 0)) rfl trivial (fun i hi _ => by
   left
   refine ⟨?_, trivial⟩
   have hg : nth (up z) (i : Int) = ((z.getD i 0 : Nat) : Int) := up_get hi
   have h9 : z.getD i 0 ≤ 9 := by
    rw [List.getD_eq_getElem?_getD, List.getElem?_eq_getElem hi]
    exact hd _ (List.getElem_mem hi)
   simp only [up_len]
   rw [dT (by omega), inR_nat hi, hg, dF (by omega), w64 (by omega) (by omega)]
   simp only [cond_true, cond_false]
   by_cases hx : z.getD i 0 > 0
   ·rw [dT (by omega)]
    by_cases hy : fzN z i < 0
    ·rw [dT hy]
     simp only [fzN, lzN, if_pos hx, if_pos (show fzN z i < 0 ∧ z.getD i 0 > 0 from ⟨hy, hx⟩)]
     rfl
    ·rw [dF hy]
     simp only [fzN, lzN, if_pos hx, if_neg (show ¬ (fzN z i < 0 ∧ z.getD i 0 > 0) from fun h => hy h.1)]
     rfl
   ·rw [dF (by omega)]
    simp only [fzN, lzN, if_neg hx, if_neg (show ¬ (fzN z i < 0 ∧ z.getD i 0 > 0) from fun h => hx h.2)]
    rfl) (fun _ => by
   refine ⟨_, ?_, rfl⟩
   simp only [up_len]
   rw [dF (by omega)]; rfl) (by omega)
 rw [h1, h2]
 simp only [Option.bind_some, joinX]
 rw [dF (show ¬ e < -1099511627776 by omega), dF (show ¬ e > 1099511627776 by omega)]
 simp only [cond_false, Option.bind_some, joinX]
 by_cases h0 : core = []
 ·have hb := hcb h0
  subst h0; subst hb
  have : z.length = a := by simpa using hlen
  unfold normV
  rw [if_pos rfl, this, f1 a (by omega), dT (by omega)]; rfl
 ·have hpos : 0 < core.length := List.length_pos_iff.2 h0
  have e1 := f3 h0 z.length (by omega)
  have e2 : lzN z z.length = a + core.length - 1 := by rw [hlen]; exact f4 h0 b
  have hcut : cut (up z) (a : Int) ((a + core.length : Nat) : Int) = up core := by
   have hal : (List.replicate a 0 ++ core).length = a + core.length := by simp
   rw [cut_up]; congr 1
   rw [hz, ← hal, List.take_left, List.drop_left' (by simp)]
  rw [e1, e2, dF (by omega)]
  have e3 : IntKind.wrap .i64 ((a : Int) + core.length - 1 + 1) = ((a + core.length : Nat) : Int) := by rw [w64 (by omega) (by omega)]; omega
  have e4 : IntKind.wrap .i64 (IntKind.wrap .i64 (IntKind.wrap .i64 (e + ((up z).length : Int)) - 1) - ((a : Int) + core.length - 1)) = e + b := by
   rw [up_len, w64 (n := e + (z.length : Int)) (by omega) (by omega), w64 (n := e + (z.length : Int) - 1) (by omega) (by omega), w64 (by omega) (by omega)]; omega
  have hin : inS (a : Int) ((a + core.length : Nat) : Int) (up z).length = true := inS_of (by omega) (by omega) (by rw [up_len]; omega)
  obtain ⟨q, hq, hqi⟩ := rright_eq (neg := neg) (l := core) (E := e + b) (by omega)
  rw [e3, e4, hcut, hq, hin]
  unfold normV
  rw [if_neg h0]
  by_cases hr : rightP core (e + b)
  ·rw [if_pos hr, hqi.2 hr]; rfl
  ·rw [if_neg hr]
   cases q with
   | true => exact absurd (hqi.1 rfl) hr
   | false => rfl

theorem ung_some {s : St22} {l : List Int} {g1 g2 : Int} {x : List Int} (h : ungV s l g1 g2 = some x) : ∃ m : List Nat, x = up m ∧ digP m ∧ m.length ≤ l.length := by
 unfold ungV at h
 split at h
 ·split at h
  ·have h := (Option.some.inj h).symm
   refine ⟨_, h, fun y hy => ?_, ?_⟩
   ·obtain ⟨r, hr, rfl⟩ := List.mem_map.1 hy
    have := (List.mem_filter.1 hr).2
    simp at this
    omega
   ·have := List.length_filter_le (fun r => decide (s.Zero_ ≤ r ∧ r ≤ s.Zero_ + 9)) l
    simpa using this
  ·cases h
 ·cases h
theorem figsV_cases {z : Int} {l : List Int} : figsV z l = ([], false) ∨ ∃ k : List Nat, figsV z l = (up k, true) ∧ digP k ∧ k.length = l.length := by
 unfold figsV
 by_cases ha : (l.all fun r => decide (z ≤ r ∧ r ≤ z + 9)) = true
 ·right
  rw [if_pos ha]
  refine ⟨l.map fun r => (r - z).toNat, ?_, fun x hx => ?_, by simp⟩
  ·congr 1
   unfold up
   rw [List.map_map]
   refine List.map_congr_left (fun r hr => ?_)
   have := List.all_eq_true.1 ha r hr
   simp only [decide_eq_true_eq] at this
   simp only [Function.comp]
   omega
  ·obtain ⟨r, hr, rfl⟩ := List.mem_map.1 hx
   have := List.all_eq_true.1 ha r hr
   simp only [decide_eq_true_eq] at this
   omega
 ·left; rw [if_neg ha]
theorem norm_pair {z : List Nat} {e : Int} (hd : digP z) (hl : z.length ≤ 5000) (he : -200000 ≤ e) (he2 : e ≤ 200000) :
  ∃ y : St28 × Int, dec_Norm false (up z) e = some y ∧ exergueref05_Norm false (up z) e = some y ∧ (y.2 = 0 → ∃ c E, y.1 = ⟨false, up c, E⟩ ∧ rightP c E) := by
 obtain ⟨a, b, core, hzz, hcb, hh, ht⟩ := strip z
 refine ⟨_, norm_is (neg := false) hzz hcb hh ht hd hl (by omega) (by omega), rnorm_gen (neg := false) hzz hcb hh ht hd hl (by omega) (by omega), fun h => ?_⟩
 unfold normV at h ⊢
 by_cases h0 : core = []
 ·rw [if_pos h0]
  exact ⟨[], 0, rfl, ⟨fun x hx => (by cases hx), fun _ => rfl, fun h => absurd rfl h⟩⟩
 ·rw [if_neg h0] at h ⊢
  by_cases hr : rightP core (e + b)
  ·rw [if_pos hr]; exact ⟨core, _, rfl, hr⟩
  ·rw [if_neg hr] at h; cases h
/-- The power, as the document reads it. -/
def rFirst (s : St22) (p : St25) (l : List Int) : Option ((List Int × Int) ⊕ (St28 × Int)) :=
 (bif (decide (p.Exp_ > 0)) then (Option.bind (exergueref17_place l s.Exp_) fun y28 => (bif (decide (y28 = (l.length : Int))) then (some (.inr ((⟨false, ([] : List Int), 0⟩ : St28), (10 : Int)))) else (bif inS (IntKind.wrap .i64 (y28 + 1)) (l.length : Int) l.length then (Option.bind (exergueref17_exponent s ((cut l (IntKind.wrap .i64 (y28 + 1)) (l.length : Int)))) fun y36 => (bif (!y36.2) then (some (.inr ((⟨false, ([] : List Int), 0⟩ : St28), (10 : Int)))) else (bif inS 0 y28 l.length then (some (.inl ((cut l 0 y28), y36.1))) else none))) else none))) else (some (.inl (l, 0))))
theorem power_pair {s : St22} {p : St25} {l : List Int} (hz : okZ s.Zero_) (hi : i32P l) (hl : l.length ≤ 300) :
  (∃ l1 P, i32P l1 ∧ l1.length ≤ 300 ∧ -100000 ≤ P ∧ P ≤ 100000 ∧ shape_cutPower s p l = some (l1, P, true) ∧
   rFirst s p l = some (.inl (l1, P))) ∨
  (∃ q, shape_cutPower s p l = some q ∧ q.2.2 = false ∧
   rFirst s p l = some (.inr (⟨false, [], 0⟩, 10))) := by
 unfold shape_cutPower rFirst
 by_cases hx : p.Exp_ < 1
 ·left
  rw [dT hx, dF (show ¬ p.Exp_ > 0 by omega)]
  exact ⟨l, 0, hi, hl, by omega, by omega, rfl, rfl⟩
 ·rw [dF hx, dT (show p.Exp_ > 0 by omega)]
  by_cases hm : s.Exp_ ∈ l
  ·obtain ⟨A, B, e, hA⟩ := mem_first hm
   have hll : l.length = A.length + B.length + 1 := by rw [e]; simp; omega
   have h1 : slices_Index l s.Exp_ = some (A.length : Int) := by rw [e]; exact index_at hA (by omega)
   have h2 : exergueref17_place l s.Exp_ = some (A.length : Int) := by rw [e]; exact place_at hA (by omega)
   have ec : cut l ((A.length : Int) + 1) (l.length : Int) = B := by rw [e]; exact cut_snd rfl
   have ec2 : cut l 0 (A.length : Int) = A := by rw [e]; exact cut_fst
   obtain ⟨a, b, ha, hb, hab, hv⟩ := pow_pair (l := B) hz (fun r hr => hi r (by rw [e]; simp [hr])) (by omega)
   have g1 : inS ((A.length : Int) + 1) (l.length : Int) l.length = true := inS_of (by omega) (by omega) (by omega)
   have g2 : inS 0 (A.length : Int) l.length = true := inS_of (by omega) (by omega) (by omega)
   rw [h1, h2]
   simp only [Option.bind_some, cond_true, cond_false]
   rw [dF (show ¬ (A.length : Int) < 0 by omega), dF (show ¬ (A.length : Int) = l.length by omega), w64 (by omega) (by omega), g1, g2, ec, ec2, ha, hb]
   simp only [Option.bind_some, cond_true, cond_false]
   cases hc : a.2 with
   | true =>
    left
    obtain ⟨v1, v2, v3⟩ := hv hc
    rw [← hab, hc]
    exact ⟨A, a.1, fun r hr => hi r (by rw [e]; simp [hr]), by omega, v2, v3, rfl, by rw [v1]; rfl⟩
   | false =>
    right
    rw [← hab, hc]
    exact ⟨_, rfl, rfl, rfl⟩
  ·right
   rw [index_none hm (by omega), place_none hm (by omega)]
   simp only [Option.bind_some, cond_true, cond_false]
   rw [dT (show (-1 : Int) < 0 by omega), dT True.intro]
   exact ⟨_, rfl, rfl, rfl⟩

end Go.Proofs.YtcmmjficmoflkaaGreat
