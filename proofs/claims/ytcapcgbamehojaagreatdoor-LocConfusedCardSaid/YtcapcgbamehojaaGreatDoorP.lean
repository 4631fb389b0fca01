/-
 What those functions come to, told by plain functions of lists and numbers. Conditions: as each theorem says.
-/
import Derived.Test.YtcapcgbamehojaaGreatDoorGc
import Derived.Test.YtcapcgbamehojaaGreatDoorSyZ
namespace Go.Proofs.YtcapcgbamehojaaGreatDoor
open Go Go.Sy Go.RowKit Go.ChangeShapes Go.WideShapes Go.ChangeAt
set_option linter.unusedVariables false
set_option linter.unusedSimpArgs false
set_option maxRecDepth 100000
set_option maxHeartbeats 4000000
/-! What always answers. -/
theorem loop_var {S O : Type} {step : S → Option (S ⊕ O)} (I : S → Prop) (μ : S → Nat) (post : O → Prop) {s0 : S} (h0 : I s0) (hb : μ s0 < 18446744073709551616)
  (hs : ∀ s, I s → (∃ s', step s = some (.inl s') ∧ I s' ∧ μ s' < μ s) ∨ ∃ o, step s = some (.inr o) ∧ post o) : ∃ o, loopN step big s0 = some o ∧ post o := by
 have key : ∀ m s, I s → μ s < m → ∃ o, loopN step m s = some o ∧ post o := by
  intro m
  induction m with
  | zero => intro s _ h; omega
  | succ m ih =>
   intro s hi hm
   rcases hs s hi with ⟨s', h1, h2, h3⟩ | ⟨o, h1, h2⟩
   ·rw [loopN_next h1]; exact ih s' h2 (by omega)
   ·exact ⟨o, loopN_out h1, h2⟩
 exact key big s0 h0 hb
def Tot {α : Type} (x : Option α) (p : α → Prop) : Prop := ∃ o, x = some o ∧ p o
theorem tR {α : Type} {a : α} {p : α → Prop} (h : p a) : Tot (some a) p := ⟨a, rfl, h⟩
theorem tB {α β : Type} {x : Option α} {k : α → Option β} {p : α → Prop} {q : β → Prop} (h : Tot x p) (hk : ∀ o, p o → Tot (k o) q) : Tot (Option.bind x k) q := by
 obtain ⟨o, rfl, h⟩ := h; exact hk o h
theorem tI {α : Type} {b : Bool} {t e : Option α} {p : α → Prop} (ht : b = true → Tot t p) (he : b = false → Tot e p) : Tot (bif b then t else e) p := by
 cases b with
 | true => exact ht rfl
 | false => exact he rfl
theorem tY {α : Type} {b : Bool} {t e : Option α} {p : α → Prop} (h : b = true) (ht : Tot t p) : Tot (bif b then t else e) p := by subst h; exact ht
theorem tN {α : Type} {b : Bool} {t e : Option α} {p : α → Prop} (h : b = false) (he : Tot e p) : Tot (bif b then t else e) p := by subst h; exact he
theorem Tot.mono {α : Type} {x : Option α} {p q : α → Prop} (h : Tot x p) (hq : ∀ o, p o → q o) : Tot x q := by obtain ⟨o, h1, h2⟩ := h; exact ⟨o, h1, hq o h2⟩
def joinP {S X : Type} (k : S → Option X) (p : X → Prop) : S ⊕ X → Prop
 | .inl s => Tot (k s) p
 | .inr r => p r
theorem tJ {S X : Type} {x : Option (S ⊕ X)} {k : S → Option X} {p : X → Prop} (h : Tot x (joinP k p)) : Tot (Option.bind x (joinX k)) p := by
 obtain ⟨o, rfl, h⟩ := h
 cases o with
 | inl s => exact h
 | inr r => exact ⟨r, rfl, h⟩
theorem tL {S O : Type} {step : S → Option (S ⊕ O)} (I : S → Prop) (μ : S → Nat) {post : O → Prop} {s0 : S} (h0 : I s0) (hb : μ s0 < 18446744073709551616)
  (hs : ∀ s, I s → Tot (step s) (fun x => match x with | .inl s' => I s' ∧ μ s' < μ s | .inr o => post o)) : Tot (loopN step big s0) post := by
 refine loop_var I μ post h0 hb (fun s hi => ?_)
 obtain ⟨x, h1, h2⟩ := hs s hi
 cases x with
 | inl s' => exact .inl ⟨s', h1, h2⟩
 | inr o => exact .inr ⟨o, h1, h2⟩
theorem Tot.any {α : Type} {x : Option α} {p : α → Prop} (h : Tot x p) : Tot x (fun _ => True) := h.mono (fun _ _ => trivial)
theorem dTT {p : Prop} [Decidable p] (h : decide p = true) : p := of_decide_eq_true h
theorem dFF {p : Prop} [Decidable p] (h : decide p = false) : ¬ p := of_decide_eq_false h
theorem tM {α β γ : Type} {x : α ⊕ β} {f : α → Option γ} {g : β → Option γ} {p : γ → Prop} (hf : ∀ a, x = .inl a → Tot (f a) p) (hg : ∀ b, x = .inr b → Tot (g b) p) : Tot (Sum.elim f g x) p := by
 cases x with
 | inl a => exact hf a rfl
 | inr b => exact hg b rfl
def inlP {α β : Type} (p : α → Prop) : α ⊕ β → Prop
 | .inl a => p a
 | .inr _ => True
theorem tS {α β γ : Type} {x : Option (α ⊕ β)} {f : α → Option γ} {g : β → Option γ} {p : α → Prop} {q : γ → Prop} (h : Tot x (inlP p)) (hf : ∀ a, p a → Tot (f a) q) (hg : ∀ b, Tot (g b) q) : Tot (Option.bind x fun y => Sum.elim f g y) q := by
 obtain ⟨o, rfl, h⟩ := h
 cases o with
 | inl a => exact hf a h
 | inr b => exact hg b
theorem tW {S O : Type} {step : S → Option (S ⊕ O)} (ix : S → Int) (n : Nat) (I : S → Prop) {post : O → Prop} {s0 : S} (hn : n ≤ 4294967296) (h0 : I s0 ∧ 0 ≤ ix s0 ∧ ix s0 ≤ n)
  (hs : ∀ s, I s → 0 ≤ ix s → ix s < n → Tot (step s) (fun x => match x with | .inl s' => I s' ∧ ix s' = ix s + 1 | .inr o => post o)) (he : ∀ s, I s → ix s = n → Tot (step s) (fun x => match x with | .inl _ => False | .inr o => post o)) : Tot (loopN step big s0) post := by
 refine tL (fun s => I s ∧ 0 ≤ ix s ∧ ix s ≤ n) (fun s => ((n : Int) - ix s).toNat) h0 (by omega) (fun s hi => ?_)
 by_cases h : ix s = n
 ·refine Tot.mono (he s hi.1 h) (fun o ho => ?_)
  cases o with
  | inl _ => exact absurd ho id
  | inr _ => exact ho
 ·refine Tot.mono (hs s hi.1 hi.2.1 (by omega)) (fun o ho => ?_)
  cases o with
  | inl s' => exact ⟨⟨ho.1, by rw [ho.2]; omega, by rw [ho.2]; omega⟩, by rw [ho.2]; omega⟩
  | inr _ => exact ho
def jp {S R E : Type} (p : S → Prop) : S ⊕ (R ⊕ E) → Prop
 | .inl s => p s
 | .inr (.inl _) => False
 | .inr (.inr _) => True
theorem tE {S R E : Type} {x : Option (S ⊕ (R ⊕ E))} {k : S → Option (R ⊕ E)} {p : S → Prop} {q : R → Prop} (h : Tot x (jp p)) (hk : ∀ s, p s → Tot (k s) (inlP q)) : Tot (Option.bind x (joinX k)) (inlP q) := by
 obtain ⟨o, rfl, h⟩ := h
 match o, h with
 | .inl s, h => exact hk s h
 | .inr (.inr e), _ => exact ⟨_, rfl, trivial⟩
/-! Patterns are read, or not: it answers. -/
def ra (l : List Int) (i : Int) : Prop := 0 ≤ i ∧ i ≤ (l.length : Int)
section
variable {l : List Int} (hl : l.length ≤ 100000) {b m p k d : Int}
include hl
theorem is_t {c on i : Int} (h : ra l i) (ho : 0 ≤ on ∧ on ≤ 1) : Tot (pat_reader__is_s0 c on l i b m p k d) (fun r => r = true → i + on < l.length) := by
 obtain ⟨h0, h1⟩ := h
 unfold pat_reader__is_s0
 rw [w64 (n := i + on) (by omega) (by omega)]
 refine tB (p := fun r => r = true → i + on < l.length) ?_ (fun _ h => tR h)
 refine tI (fun h => ?_) (fun _ => tR (fun h => by cases h))
 exact tY (inR_int (by omega) (dTT h)) (tR (fun _ => dTT h))
theorem eat_t {c i : Int} (h : ra l i) : Tot (pat_reader__eat_s0 c l i b m p k d) (fun r => (r.1 = true ∧ r.2 = i + 1 ∧ i < l.length) ∨ (r.1 = false ∧ r.2 = i)) := by
 unfold pat_reader__eat_s0
 refine tB (is_t hl h (by omega)) (fun y hy => ?_)
 obtain ⟨h0, h1⟩ := h
 cases y with
 | false => exact tR (.inr ⟨rfl, rfl⟩)
 | true =>
  have := hy rfl
  exact tR (.inl ⟨rfl, w64 (by omega) (by omega), by omega⟩)
theorem eat_r {c i : Int} (h : ra l i) : Tot (pat_reader__eat_s0 c l i b m p k d) (fun r => ra l r.2 ∧ i ≤ r.2) := by
 refine (eat_t hl h).mono (fun r hr => ?_)
 obtain ⟨h0, h1⟩ := h
 rcases hr with ⟨_, e, e2⟩ | ⟨_, e⟩
 ·exact ⟨⟨by omega, by omega⟩, by omega⟩
 ·exact ⟨⟨by omega, by omega⟩, by omega⟩
theorem many_t {c i : Int} (h : ra l i) : Tot (pat_reader__many_s0 c l i b m p k d) (fun r => ra l r.2 ∧ i ≤ r.2) := by
 unfold pat_reader__many_s0
 refine tB (p := fun s : Int × Int => ra l s.2 ∧ i ≤ s.2) (tL (fun s : Int × Int => ra l s.2 ∧ i ≤ s.2) (fun s => ((l.length : Int) - s.2).toNat) ⟨h, Int.le_refl _⟩ (by have := h.1; simp only; omega) (fun s hs => ?_)) (fun _ h => tR h)
 refine tB (eat_t hl hs.1) (fun y hy => ?_)
 obtain ⟨⟨h0, h1⟩, h2⟩ := hs
 rcases hy with ⟨e1, e2, e3⟩ | ⟨e1, e2⟩
 ·rw [e1, e2]; exact tR ⟨⟨⟨by simp only; omega, by simp only; omega⟩, by simp only; omega⟩, by simp only; omega⟩
 ·rw [e1, e2]; exact tR ⟨⟨h0, h1⟩, h2⟩
theorem pad0_t {w i : Int} (h : ra l i) {x8 x18 x9 x10 x11 x12 x13 x14 x15 x16 x17 x19 x20} : Tot (pat_reader__pad_s0 w l i b m p k d x8 x9 x10 x11 x12 x13 x14 x15 x16 x17 x18 x19 x20) (inlP fun r => ra l r.1 ∧ i ≤ r.1) := by
 unfold pat_reader__pad_s0
 refine tJ (tB (p := fun r : Bool × Int => ra l r.2 ∧ i ≤ r.2) (tI (fun _ => tR ⟨h, Int.le_refl _⟩) (fun _ => tB (eat_r hl h) (fun y hy => tR hy))) (fun s hs => tI (fun _ => tR hs) (fun _ => tR (show Tot _ _ from ?_))))
 refine tJ (tI (fun _ => tR trivial) (fun hd => tR (show Tot _ _ from ?_)))
 have := dFF hd
 obtain ⟨⟨h0, h1⟩, h2⟩ := hs
 have e : IntKind.wrap .i64 (s.2 + 1) = s.2 + 1 := w64 (by omega) (by omega)
 refine tY (inR_int h0 (by omega)) (tR ?_)
 rw [e]; exact ⟨⟨by simp only; omega, by simp only; omega⟩, by simp only; omega⟩
theorem pad1_t {w i : Int} (h : ra l i) {x8 x9 x19 x10 x11 x12 x13 x14 x15 x16 x17 x18 x20 x21} : Tot (pat_reader__pad_s1 w l i b m p k d x8 x9 x10 x11 x12 x13 x14 x15 x16 x17 x18 x19 x20 x21) (inlP fun r => ra l r.1 ∧ i ≤ r.1) :=
 pad0_t (x8 := x9) (x9 := x10) (x10 := x11) (x11 := x12) (x12 := x13) (x13 := x14) (x14 := x15) (x15 := x16) (x16 := x17) (x17 := x18) (x18 := x19) (x19 := x20) (x20 := x21) hl h
theorem pad2_t {w i : Int} (h : ra l i) {x8 x9 x10 x20 x11 x12 x13 x14 x15 x16 x17 x18 x19 x21 x22} : Tot (pat_reader__pad_s2 w l i b m p k d x8 x9 x10 x11 x12 x13 x14 x15 x16 x17 x18 x19 x20 x21 x22) (inlP fun r => ra l r.1 ∧ i ≤ r.1) :=
 pad0_t (x8 := x10) (x9 := x11) (x10 := x12) (x11 := x13) (x12 := x14) (x13 := x15) (x14 := x16) (x15 := x17) (x16 := x18) (x17 := x19) (x18 := x20) (x19 := x21) (x20 := x22) hl h
theorem twice_t {i : Int} (h : ra l i) : Tot (pat_reader__twice_s0 l i b m p k d) (fun r => (r.1 = true ∧ r.2 = i + 2 ∧ i + 1 < l.length) ∨ (r.1 = false ∧ r.2 = i)) := by
 unfold pat_reader__twice_s0
 refine tJ (tB (p := fun r => r = false → i + 1 < l.length) (tB (is_t hl h (by omega)) (fun y _ => tI (fun _ => tR (fun h => by cases h)) (fun _ => tB (is_t hl h (by omega)) (fun z hz => tR (fun e => hz (by simpa using e)))))) (fun s hs => ?_))
 obtain ⟨h0, h1⟩ := h
 cases s with
 | true => exact tR (.inr ⟨rfl, rfl⟩)
 | false =>
  have := hs rfl
  exact tR (tR (.inl ⟨rfl, w64 (by omega) (by omega), this⟩))
theorem quoted_t {i : Int} {o : List St106} (h : ra l i) (hi : i < l.length) (ho : (o.length : Int) ≤ i) : Tot (pat_reader__quoted_s0 l i b m p k d o) (inlP fun r => ra l r.1 ∧ i < r.1 ∧ (r.2.length : Int) ≤ r.1) := by
 unfold pat_reader__quoted_s0
 refine tB (twice_t hl h) (fun y hy => ?_)
 obtain ⟨h0, h1⟩ := h
 rcases hy with ⟨e1, e2, e3⟩ | ⟨e1, e2⟩
 ·rw [e1, e2]
  exact tY rfl (tY (room_of (by simp; omega)) (tR ⟨⟨by simp only; omega, by simp only; omega⟩, by simp only; omega, by simp; omega⟩))
 ·rw [e1, e2, w64 (n := i + 1) (by omega) (by omega)]
  refine tJ (tL (fun s : Int × List St106 => ra l s.1 ∧ i < s.1 ∧ (s.2.length : Int) ≤ s.1) (fun s => ((l.length : Int) - s.1).toNat) ⟨⟨by simp only; omega, by simp only; omega⟩, by simp only; omega, by simp only; omega⟩ (by simp only; omega) (fun s hs => ?_))
  refine tI (fun hlt => ?_) (fun _ => tR (tR trivial))
  have hlt := dTT hlt
  refine tB (twice_t hl hs.1) (fun y hy => ?_)
  obtain ⟨⟨g0, g1⟩, g2, g3⟩ := hs
  rcases hy with ⟨e1, e2, e3⟩ | ⟨e1, e2⟩
  ·rw [e1, e2]
   exact tY rfl (tY (room_of (by simp; omega)) (tR ⟨⟨⟨by simp only; omega, by simp only; omega⟩, by simp only; omega, by simp; omega⟩, by simp only; omega⟩))
  ·rw [e1, e2]
   refine tB (eat_t hl ⟨g0, g1⟩) (fun y hy => ?_)
   rcases hy with ⟨e1, e2, e3⟩ | ⟨e1, e2⟩
   ·rw [e1, e2]
    exact tR ⟨⟨by simp only; omega, by simp only; omega⟩, by simp only; omega, by simp only; omega⟩
   ·rw [e1, e2, w64 (n := s.1 + 1) (by omega) (by omega)]
    exact tN rfl (tY (inR_int g0 hlt) (tY (room_of (by simp; omega)) (tR ⟨⟨⟨by simp only; omega, by simp only; omega⟩, by simp only; omega, by simp; omega⟩, by simp only; omega⟩)))
omit hl in
theorem special_t (x : Int) : Tot (pat_special x) (fun _ => True) := by
 unfold pat_special
 refine tJ (tB (p := fun _ => True) ?_ (fun s _ => tI (fun _ => tR trivial) (fun _ => tR (tB (p := fun _ => True) ?_ (fun _ _ => tR trivial)))))
 ·repeat' (first | exact tR trivial | refine tI (fun _ => ?_) (fun _ => ?_))
 ·exact tI (fun _ => tR trivial) (fun _ => tR trivial)
theorem affix_t {i : Int} (h : ra l i) : Tot (pat_reader__affix_s0 l i b m p k d) (inlP fun r => ra l r.2 ∧ i ≤ r.2 ∧ (r.1.length : Int) ≤ r.2) := by
 unfold pat_reader__affix_s0
 refine tJ (tL (fun s : Int × List St106 => ra l s.1 ∧ i ≤ s.1 ∧ (s.2.length : Int) ≤ s.1) (fun s => ((l.length : Int) - s.1).toNat) ⟨h, Int.le_refl _, by have := h.1; simpa using this⟩ (by have := h.1; simp only; omega) (fun s hs => ?_))
 refine tI (fun hlt => ?_) (fun _ => tR (tR hs))
 have hlt := dTT hlt
 obtain ⟨⟨g0, g1⟩, g2, g3⟩ := hs
 have e : IntKind.wrap .i64 (s.1 + 1) = s.1 + 1 := w64 (by omega) (by omega)
 rw [e]
 refine tY (inR_int g0 hlt) ?_
 have step : ∀ t : St106, (ra l (s.1 + 1) ∧ i ≤ s.1 + 1 ∧ ((s.2 ++ [t]).length : Int) ≤ s.1 + 1) ∧ ((l.length : Int) - (s.1 + 1)).toNat < ((l.length : Int) - s.1).toNat := fun t => ⟨⟨⟨by omega, by omega⟩, by omega, by simp; omega⟩, by omega⟩
 have rm : ∀ t : St106, room (s.2.length + ([t] : List St106).length) = true := fun t => room_of (by simp; omega)
 iterate 4 refine tI (fun _ => tB (p := fun _ => True) (tY (rm _) (tR trivial)) (fun _ _ => tR (step _))) (fun _ => ?_)
 refine tJ (tB (is_t hl ⟨g0, g1⟩ (by omega)) (fun y hy => tI (fun _ => ?_) (fun _ => tB (special_t _) (fun _ _ => tI (fun _ => tR ⟨⟨g0, g1⟩, g2, g3⟩) (fun _ => tY (rm _) (tR (tR (step _))))))))
 exact tS (quoted_t hl ⟨g0, g1⟩ hlt g3) (fun a ha => tR ⟨⟨ha.1, by have := ha.2.1; simp only; omega, ha.2.2⟩, by have := ha.2.1; have := ha.1.2; simp only; omega⟩) (fun a => tR trivial)
theorem place_t {w i : Int} (h : ra l i) (ho : 0 ≤ w ∧ w ≤ 1) {x8 x9 x10 x11 x12 x13 x14 x15 x16 x17 x18 x19 x20 x21} : Tot (pat_reader__place_s0 w l i b m p k d x8 x9 x10 x11 x12 x13 x14 x15 x16 x17 x18 x19 x20 x21) (fun r => r = true → i + w < l.length) := by
 unfold pat_reader__place_s0
 refine tB (p := fun r => r = true → i + w < l.length) (tB (is_t hl h ho) (fun y hy => ?_)) (fun _ h => tR h)
 refine tI (fun e => tR (fun _ => hy e)) (fun _ => tI (fun _ => tB (is_t hl h ho) (fun y hy => tR hy)) (fun _ => tR (fun h => by cases h)))
theorem comma_t {w i : Int} (h : ra l i) {x8 x9 x10 x11 x12 x13 x14 x15 x16 x17 x18 x19 x20 x21} : Tot (pat_reader__comma_s0 w l i b m p k d x8 x9 x10 x11 x12 x13 x14 x15 x16 x17 x18 x19 x20 x21) (fun r => r = true → i < l.length) := by
 unfold pat_reader__comma_s0
 refine tB (p := fun r => r = true → i < l.length) ?_ (fun _ h => tR h)
 refine tI (fun _ => tB (is_t hl h (by omega)) (fun y hy => tI (fun e => tB (place_t hl h (by omega)) (fun z _ => tR (fun _ => ?_))) (fun _ => tR (fun h => by cases h)))) (fun _ => tR (fun h => by cases h))
 have := hy e
 omega
theorem between_t {w v i : Int} (h : ra l i) {x9 x10 x11 x12 x13 x14 x15 x16 x17 x18 x19 x20 x21 x22} : Tot (pat_reader__between_s0 w v l i b m p k d x9 x10 x11 x12 x13 x14 x15 x16 x17 x18 x19 x20 x21 x22) (fun _ => True) := by
 unfold pat_reader__between_s0
 refine tJ (tB (p := fun _ => True) (tI (fun _ => tR trivial) (fun _ => tB (comma_t hl h) (fun _ _ => tR trivial))) (fun _ _ => tI (fun _ => tR trivial) (fun _ => tR (show Tot _ _ from ?_))))
 exact tJ (tB (p := fun _ => True) (tI (fun _ => tR trivial) (fun _ => tR trivial)) (fun _ _ => tI (fun _ => tR trivial) (fun _ => tR (tR trivial))))
theorem places_t {i : Int} (h : ra l i) {x7 x8 x9 x10 x11 x12 x13 x14 x15 x16 x17 x18 x19 x20} : Tot (pat_reader__places_s0 l i b m p k d x7 x8 x9 x10 x11 x12 x13 x14 x15 x16 x17 x18 x19 x20) (inlP fun r => ra l r.1 ∧ i ≤ r.1) := by
 unfold pat_reader__places_s0
 refine tJ (tL (fun s : Int × Int × Int × Int × Int × Int => ra l s.2.2.1 ∧ i ≤ s.2.2.1) (fun s => ((l.length : Int) - s.2.2.1).toNat) ⟨h, Int.le_refl _⟩ (by have := h.1; simp only; omega) (fun s hs => ?_))
 refine tJ (tB (p := fun r => r = true → s.2.2.1 < l.length) (tB (place_t hl hs.1 (by omega)) (fun y hy => tI (fun e => tR (fun _ => by have := hy e; omega)) (fun _ => tB (comma_t hl hs.1) (fun y hy => tR hy)))) (fun r hr => tI (fun e => tR (show Tot _ _ from ?_)) (fun _ => tR (tJ (tI (fun _ => tR trivial) (fun _ => tR (show Tot _ _ from tI (fun _ => tR hs) (fun _ => tI (fun _ => tR hs) (fun _ => tR hs)))))))))
 have hlt := hr e
 refine tB (eat_t hl hs.1) (fun y hy => ?_)
 obtain ⟨⟨g0, g1⟩, g2⟩ := hs
 rcases hy with ⟨e1, e2, e3⟩ | ⟨e1, e2⟩
 ·rw [e1, e2]
  exact tR ⟨⟨⟨by simp only; omega, by simp only; omega⟩, by simp only; omega⟩, by simp only; omega⟩
 ·rw [e1, e2]
  refine tB (p := fun t : Int × Int × Int => t.1 = s.2.2.1 + 1) (tB (eat_t hl ⟨g0, g1⟩) (fun z hz => ?_)) (fun t ht => ?_)
  ·rcases hz with ⟨e1, e2, e3⟩ | ⟨e1, e2⟩
   ·rw [e1, e2]; exact tR rfl
   ·rw [e1, e2, w64 (n := s.2.2.1 + 1) (by omega) (by omega)]; exact tR rfl
  ·rw [ht]
   refine tB (between_t hl ⟨by omega, by omega⟩) (fun y _ => tM (fun a _ => tR ⟨⟨⟨by simp only; omega, by simp only; omega⟩, by simp only; omega⟩, by simp only; omega⟩) (fun a _ => tR trivial))
theorem fraction_t {i : Int} (h : ra l i) {x7 x8 x9 x10 x11 x12 x13 x14 x15 x16 x17 x18 x19 x20} : Tot (pat_reader__fraction_s0 l i b m p k d x7 x8 x9 x10 x11 x12 x13 x14 x15 x16 x17 x18 x19 x20) (inlP fun r => ra l r.1 ∧ i ≤ r.1) := by
 unfold pat_reader__fraction_s0
 refine tB (eat_r hl h) (fun y hy => tI (fun _ => tR hy) (fun _ => tB (many_t hl hy.1) (fun z hz => tB (many_t hl hz.1) (fun w hw => tI (fun _ => tR trivial) (fun _ => tR ⟨hw.1, ?_⟩)))))
 have := hy.2; have := hz.2; have := hw.2
 simp only; omega
theorem number_t {i : Int} (h : ra l i) {x7 x8 x9 x10 x11 x12 x13 x14 x15 x16 x17 x18 x19 x20} : Tot (pat_reader__number_s0 l i b m p k d x7 x8 x9 x10 x11 x12 x13 x14 x15 x16 x17 x18 x19 x20) (inlP fun r => ra l r.1 ∧ i ≤ r.1) := by
 unfold pat_reader__number_s0
 refine tB (many_t hl h) (fun y hy => ?_)
 refine tE (p := fun s => ra l s.1 ∧ i ≤ s.1) (tI (fun _ => tB (many_t hl hy.1) (fun z hz => tR ⟨hz.1, Int.le_trans hy.2 hz.2⟩)) (fun _ => tS (places_t hl hy.1) (fun a ha => tS (fraction_t hl ha.1) (fun c hc => tR ⟨hc.1, Int.le_trans hy.2 (Int.le_trans ha.2 hc.2)⟩) (fun c => tR trivial)) (fun a => tR trivial))) (fun s hs => ?_)
 refine tB (eat_r hl hs.1) (fun z hz => tI (fun _ => tR ⟨hz.1, Int.le_trans hs.2 hz.2⟩) (fun _ => tB (eat_r hl hz.1) (fun u hu => tB (many_t hl hu.1) (fun v hv => tI (fun _ => tR trivial) (fun _ => tR ⟨hv.1, Int.le_trans hs.2 (Int.le_trans hz.2 (Int.le_trans hu.2 hv.2))⟩)))))
theorem negative_t {q : List Int} {i : Int} (hq : q.length ≤ 100000) (h : ra l i) {x8 x9 x10 x11 x12 x13 x14 x15 x16 x17 x18 x19 x20 x21 x22} : Tot (pat_reader__negative_s0 q l i b m p k d x8 x9 x10 x11 x12 x13 x14 x15 x16 x17 x18 x19 x20 x21 x22) (inlP fun r => ra l r.1 ∧ r.2.1.length ≤ l.length ∧ r.2.2.length ≤ l.length) := by
 unfold pat_reader__negative_s0
 refine tS (affix_t hl h) (fun a ha => tJ (tW (fun s : Int × Int => s.1) q.length (fun s => ra l s.2) (by omega) ⟨ha.1, Int.le_refl _, by simp⟩ (fun s hs g0 g1 => ?_) (fun s hs e => ?_))) (fun a => tR trivial)
 ·rw [dT g1]
  refine tJ (tY (inR_int g0 g1) (tB (eat_r hl hs) (fun y hy => tI (fun _ => tR trivial) (fun _ => tR (tR ⟨hy.1, w64 (by omega) (by omega)⟩)))))
 ·rw [dF (show ¬ s.1 < (q.length : Int) by omega)]
  refine tR (tS (affix_t hl hs) (fun c hc => tR ⟨hc.1, ?_, ?_⟩) (fun c => tR trivial))
  ·have := ha.2.2; have := ha.1.2; simp only; omega
  ·have := hc.2.2; have := hc.1.2; simp only; omega
end
def lenP (x : St32) (n : Nat) : Prop := x.Pre_.length ≤ n ∧ x.Suf_.length ≤ n ∧ x.NPre_.length ≤ n ∧ x.NSuf_.length ≤ n
theorem cut_le (l : List Int) (a b : Int) : (cut l a b).length ≤ l.length := by unfold cut; simp; omega
theorem pattern_t {l : List Int} (hl : l.length ≤ 100000) {i b m p k d : Int} (h : ra l i) : Tot (pat_reader__pattern_s0 l i b m p k d) (inlP fun r => lenP r.1 l.length) := by
 unfold pat_reader__pattern_s0
 refine tS (pad0_t hl h) (fun y4 h4 => ?_) (fun _ => tR trivial)
 refine tS (affix_t hl h4.1) (fun y11 h11 => ?_) (fun _ => tR trivial)
 refine tE (p := fun s : Int × Int × Int => ra l s.1) (tI (fun _ => tS (pad1_t hl h11.1) (fun a ha => tR ha.1) (fun _ => tR trivial)) (fun _ => tR h11.1)) (fun s hs => ?_)
 refine tS (number_t hl hs) (fun y47 h47 => ?_) (fun _ => tR trivial)
 refine tY (inS_of hs.1 h47.2 h47.1.2) ?_
 refine tS (pad1_t hl h47.1) (fun y55 h55 => ?_) (fun _ => tR trivial)
 refine tS (affix_t hl h55.1) (fun y62 h62 => ?_) (fun _ => tR trivial)
 refine tE (p := fun s : Int × Int × Int => ra l s.1) (tI (fun _ => tS (pad2_t hl h62.1) (fun a ha => tR ha.1) (fun _ => tR trivial)) (fun _ => tR h62.1)) (fun s2 hs2 => ?_)
 refine tE (p := fun s : Int × List St106 × List St106 × Bool => ra l s.1 ∧ s.2.1.length ≤ l.length ∧ s.2.2.1.length ≤ l.length) (tB (eat_r hl hs2) (fun y hy => tI (fun _ => tS (negative_t hl (Nat.le_trans (cut_le ..) hl) hy.1) (fun a ha => tR ha) (fun _ => tR trivial)) (fun _ => tR ⟨hy.1, by simp, by simp⟩))) (fun s3 hs3 => ?_)
 refine tE (p := fun _ => True) (tI (fun _ => tR trivial) (fun _ => tR trivial)) (fun _ _ => tR ⟨?_, ?_, hs3.2.1, hs3.2.2⟩)
 ·have := h11.2.2; have := h11.1.2; simp only; omega
 ·have := h62.2.2; have := h62.1.2; simp only; omega
theorem read_t {l : List Int} (hl : l.length ≤ 100000) : Tot (pat_read l) (fun r => lenP r.1 l.length) := by
 unfold pat_read
 refine tB (show Tot pat_signs_s0 (fun _ => True) from tR trivial) (fun _ _ => tS (pattern_t hl ⟨Int.le_refl _, by omega⟩) (fun a ha => tB (p := fun _ => True) (by unfold pat_read_1_s0; exact tR trivial) (fun _ _ => tR ha)) (fun a => tB (p := fun _ => True) (by unfold pat_read_1_s1; exact tR trivial) (fun _ _ => tR ?_)))
 exact ⟨by simp, by simp, by simp, by simp⟩
/-! Bytes are read, patterns written: it answers. -/
theorem usize_t (x : Int) : Tot (utf_Size x) (fun n => 0 ≤ n ∧ n ≤ 4) := by
 unfold utf_Size
 refine tB (p := fun _ => True) ?_ (fun y _ => ?_)
 ·unfold utf_Is
  refine tB (p := fun _ => True) ?_ (fun _ _ => tR trivial)
  repeat' (first | exact tR trivial | refine tI (fun _ => ?_) (fun _ => ?_))
 ·repeat' (first | exact tR ⟨by omega, by omega⟩ | refine tI (fun _ => ?_) (fun _ => ?_))
theorem first_t {l : List Int} (h0 : 0 < l.length) (hl : l.length ≤ 100000) : Tot (utf_first l) (fun r => 0 ≤ r.2 ∧ r.2 ≤ l.length) := by
 unfold utf_first
 have i0 : inR 0 l.length = true := inR_int (Int.le_refl _) (by omega)
 refine tY i0 (tB (p := fun n => 0 ≤ n ∧ n ≤ 4) ?_ (fun y hy => ?_))
 ·unfold utf_promised
  repeat' (first | exact tR ⟨by omega, by omega⟩ | refine tI (fun _ => ?_) (fun _ => ?_))
 refine tJ (tB (p := fun r => r = false → 1 ≤ y ∧ y ≤ l.length) (tI (fun _ => tR (fun h => by cases h)) (fun e => tR (fun h => ?_))) (fun r hr => tI (fun _ => tR ⟨Int.le_refl _, by simp only; omega⟩) (fun e => tR (show Tot _ _ from ?_))))
 ·have := dFF e; have := dFF h; omega
 obtain ⟨y1, y2⟩ := hr e
 refine tY i0 (tB (p := fun _ => True) ?_ (fun m _ => ?_))
 ·unfold utf_mark
  repeat' (first | exact tR trivial | refine tI (fun _ => ?_) (fun _ => ?_))
 have hc : (cut l 1 y).length ≤ l.length := cut_le ..
 refine tJ (tY (inS_of (by omega) y1 y2) (tW (fun s : Int × Int => s.2) (cut l 1 y).length (fun _ => True) (by omega) ⟨trivial, Int.le_refl _, by simp⟩ (fun s _ g0 g1 => ?_) (fun s _ e => ?_)))
 ·refine tY (dT g1) <| tY (inR_int g0 g1) (tI (fun _ => tR ⟨Int.le_refl _, by simp only; omega⟩) (fun _ => tR ⟨trivial, w64 (by omega) (by omega)⟩))
 ·rw [dF (show ¬ s.2 < ((cut l 1 y).length : Int) by omega)]
  exact tR (tB (usize_t _) (fun z hz => tI (fun _ => tR ⟨Int.le_refl _, by simp only; omega⟩) (fun _ => tR ⟨by simp only; omega, y2⟩)))
theorem decode_t {l : List Int} (hl : l.length ≤ 100000) : Tot (utf_Decode l) (fun r => r.1.length ≤ l.length) := by
 unfold utf_Decode
 refine tJ (tL (fun s : Int × List Int => ra l s.1 ∧ (s.2.length : Int) ≤ s.1) (fun s => ((l.length : Int) - s.1).toNat) ⟨⟨Int.le_refl _, by simp only; omega⟩, by simp⟩ (by simp only; omega) (fun s hs => ?_))
 obtain ⟨⟨g0, g1⟩, g2⟩ := hs
 refine tI (fun hlt => ?_) (fun _ => tR (tR (by simp only; omega)))
 have hlt := dTT hlt
 have hc : ((cut l s.1 (l.length : Int)).length : Int) = (l.length : Int) - s.1 := by unfold cut; simp; omega
 refine tY (inS_of g0 g1 (by omega)) (tB (first_t (by omega) (by omega)) (fun y hy => tI (fun _ => tR (show ([] : List Int).length ≤ _ by simp)) (fun hn => tY (room_of (by simp; omega)) (tR ?_))))
 have hn := dFF hn
 rw [w64 (n := s.1 + y.2) (by omega) (by omega)]
 exact ⟨⟨⟨by simp only; omega, by simp only; omega⟩, by simp; omega⟩, by simp only; omega⟩
theorem parse_t {t : List UInt8} (ht : t.length ≤ 100000) : Tot (pat_Parse t) (fun r => lenP r.1 120) := by
 have z : ∀ a c : Int, Tot (some ((⟨([] : List St106), ([] : List St106), ([] : List St106), ([] : List St106), false, 0, 0, 0, 0, 0, 0, 0, 0, 0, false, 0, 0⟩ : St32), a, c)) (fun r : St32 × Int × Int => lenP r.1 120) := fun a c => tR ⟨by simp, by simp, by simp, by simp⟩
 unfold pat_Parse
 refine tB (decode_t (by rw [bytesI_len]; exact ht)) (fun y hy => tI (fun _ => z _ _) (fun _ => tI (fun _ => z _ _) (fun h => ?_)))
 have h := dFF h
 refine tB (read_t (by rw [bytesI_len] at hy; omega)) (fun q hq => tI (fun _ => z _ _) (fun _ => tI (fun _ => z _ _) (fun _ => tR ?_)))
 obtain ⟨q1, q2, q3, q4⟩ := hq
 exact ⟨by simp only; omega, by simp only; omega, by simp only; omega, by simp only; omega⟩
theorem some_t (n : Int) : Tot (pat_some n) (fun r => 0 ≤ r ∧ r ≤ 121) := by
 unfold pat_some maxI minI
 refine tR ?_
 split <;> split <;> omega
theorem repeat_t {o : List Int} {c n : Int} (ho : o.length ≤ 100000) : Tot (pat_repeat o c n) (fun r => r.length ≤ o.length + 121) := by
 unfold pat_repeat
 refine tB (p := fun r : List Int => r.length ≤ o.length + 121) (tB (some_t n) (fun y hy => tL (fun s : Int × List Int => 0 ≤ s.1 ∧ s.1 ≤ y ∧ (s.2.length : Int) ≤ o.length + s.1) (fun s => (y - s.1).toNat) ⟨Int.le_refl _, hy.1, by simp⟩ (by simp only; omega) (fun s hs => ?_))) (fun _ h => tR h)
 refine tI (fun hlt => tY (room_of (by simp; omega)) (tR ?_)) (fun _ => tR (by simp only; omega))
 have hlt := dTT hlt
 rw [w64 (n := s.1 + 1) (by omega) (by omega)]
 exact ⟨⟨by simp only; omega, by simp only; omega, by simp; omega⟩, by simp only; omega⟩
theorem grouped_t (p : St32) (n : Int) : Tot (pat_grouped p n) (fun _ => True) := by
 unfold pat_grouped
 refine tJ (tB (p := fun _ => True) (tI (fun _ => tR trivial) (fun _ => tR trivial)) (fun _ _ => tI (fun _ => tR trivial) (fun _ => tR (show Tot _ _ from tB (p := fun _ => True) ?_ (fun _ _ => tR trivial)))))
 refine tI (fun _ => tR trivial) (fun _ => tI (fun h => tY ?_ (tR trivial)) (fun _ => tR trivial))
 have := dTT h
 unfold nz
 rw [dF (by omega)]; rfl
theorem wplaces_t {o : List Int} {p : St32} (ho : o.length ≤ 10000) : Tot (pat_places o p) (fun r => r.length ≤ o.length + 500) := by
 unfold pat_places
 refine tB (some_t _) (fun y hy => tB (some_t _) (fun z hz => ?_))
 rw [w64 (n := y + z) (by omega) (by omega)]
 refine tB (p := fun r : List Int => r.length ≤ o.length + 500) (tL (fun s : Int × List Int => 0 ≤ s.1 ∧ s.1 ≤ y + z ∧ (s.2.length : Int) ≤ o.length + s.1 + s.1) (fun s => (y + z - s.1).toNat) ⟨Int.le_refl _, by simp only; omega, by simp⟩ (by simp only; omega) (fun s hs => ?_)) (fun _ h => tR h)
 refine tI (fun hlt => ?_) (fun _ => tR (by simp only; omega))
 have hlt := dTT hlt
 rw [w64 (n := s.1 + 1) (by omega) (by omega)]
 refine tB (p := fun t : List Int => (t.length : Int) ≤ s.2.length + 2) (tB (p := fun t : List Int => (t.length : Int) ≤ s.2.length + 1) (tB (p := fun _ => True) (tI (fun _ => tB (grouped_t _ _) (fun _ _ => tR trivial)) (fun _ => tR trivial)) (fun _ _ => tI (fun _ => tY (room_of (by simp; omega)) (tR (by simp))) (fun _ => tR (by omega)))) (fun t ht => tI (fun _ => tY (room_of (by simp; omega)) (tR (by simp; omega))) (fun _ => tY (room_of (by simp; omega)) (tR (by simp; omega))))) (fun t ht => tR ?_)
 exact ⟨⟨by simp only; omega, by simp only; omega, by simp only; omega⟩, by simp only; omega⟩
theorem wnumber_t (p : St32) : Tot (pat_number p) (fun r => r.length ≤ 2000) := by
 unfold pat_number
 refine tB (p := fun r : List Int => r.length ≤ 1000) (tB (p := fun _ => True) (tI (fun _ => tR trivial) (fun _ => tR trivial)) (fun _ _ => tI (fun _ => ?_) (fun _ => ?_))) (fun r hr => tB (p := fun r : List Int => r.length ≤ 2000) ?_ (fun _ h => tR h))
 ·exact tB (repeat_t (by simp)) (fun a ha => tB (some_t _) (fun _ _ => tB (repeat_t (by simp at ha; omega)) (fun c hc => tR (by simp at ha; omega))))
 ·refine tB (wplaces_t (by simp)) (fun a ha => tI (fun _ => tY (room_of (by simp at ha ⊢; omega)) (tB (repeat_t (by simp at ha ⊢; omega)) (fun c hc => tB (some_t _) (fun _ _ => tB (repeat_t (by simp at ha hc ⊢; omega)) (fun e he => tR (by simp at ha hc he; omega)))))) (fun _ => tR (by simp at ha; omega)))
 ·refine tI (fun _ => tY (room_of (by simp; omega)) (tB (p := fun t : List Int => t.length ≤ r.length + 2) (tI (fun _ => tY (room_of (by simp; omega)) (tR (by simp))) (fun _ => tR (by simp))) (fun t ht => tB (repeat_t (by omega)) (fun u hu => tR (by omega))))) (fun _ => tR (by omega))
theorem wpad_t {o : List Int} {p : St32} {w : Int} (ho : o.length ≤ 100000) : Tot (pat_pad o p w) (fun r => r.length ≤ o.length + 2) := by
 unfold pat_pad
 exact tI (fun _ => tR (by omega)) (fun _ => tY (room_of (by simp; omega)) (tR (by simp)))
theorem mapRun_one {E X : Type} [DecidableEq X] {f : E → Option (Unit ⊕ X)} {p : X → Prop} (hf : ∀ e, f e = some (.inl ()) ∨ ∃ x, f e = some (.inr x) ∧ p x) : ∀ ms : List E, (∀ a ∈ ms, ∀ b ∈ ms, f a ≠ some (.inl ()) → f b ≠ some (.inl ()) → f a = f b) → Tot (mapRun f ms) (fun o => match o with | .inl _ => ∀ e ∈ ms, f e = some (.inl ()) | .inr x => p x ∧ ∃ e ∈ ms, f e = some (.inr x))
 | [], _ => tR (fun e h => by cases h)
 | e :: ms, h => by
  obtain ⟨o, ho, hp⟩ := mapRun_one hf ms (fun a ha b hb => h a (List.mem_cons_of_mem _ ha) b (List.mem_cons_of_mem _ hb))
  simp only [mapRun, ho]
  rcases hf e with he | ⟨x, he, hx⟩
  ·rw [he]
   cases o with
   | inl u =>
    refine tR (fun a ha => ?_)
    rcases List.mem_cons.1 ha with rfl | ha
    ·exact he
    ·exact hp a ha
   | inr y => exact tR ⟨hp.1, hp.2.imp fun a ha => ⟨List.mem_cons_of_mem _ ha.1, ha.2⟩⟩
  ·rw [he]
   cases o with
   | inl u => exact tR ⟨hx, e, List.mem_cons_self .., he⟩
   | inr y =>
    obtain ⟨a, ha, hy⟩ := hp.2
    have := h e (List.mem_cons_self ..) a (List.mem_cons_of_mem _ ha) (by rw [he]; simp) (by rw [hy]; simp)
    rw [he, hy] at this
    obtain rfl := Sum.inr.inj (Option.some.inj this)
    simp only [if_true]
    exact tR ⟨hx, e, List.mem_cons_self .., he⟩
theorem piece_t (t : St106) : Tot (pat_piece t) (fun r => r.length ≤ 2) := by
 unfold pat_piece
 refine tI (fun _ => tI (fun _ => tR (by simp)) (fun _ => tR (by simp))) (fun _ => ?_)
 refine tJ (Tot.mono (p := fun x => match x with | .inl _ => True | .inr r => (r : List Int).length ≤ 2) ?_ (fun x hx => ?_))
 ·show Tot (Option.bind _ _) _
  refine tJ (Tot.mono (mapRun_one (p := fun x : Unit ⊕ List Int => match x with | .inl _ => False | .inr r => r.length ≤ 2) (fun e => ?_) _ (fun a ha c hc h1 h2 => ?_)) (fun x hx => ?_))
  ·by_cases h : e.2 = t.Kind_
   ·rw [dT h]; exact .inr ⟨_, rfl, by simp⟩
   ·rw [dF h]; exact .inl rfl
  ·have f1 : a.2 = t.Kind_ := by
    by_cases h : a.2 = t.Kind_
    ·exact h
    ·rw [dF h] at h1; exact absurd rfl h1
   have f2 : c.2 = t.Kind_ := by
    by_cases h : c.2 = t.Kind_
    ·exact h
    ·rw [dF h] at h2; exact absurd rfl h2
   have : a = c := by
    have key : ∀ a ∈ ([(45, 1), (43, 2), (37, 3), (164, 4)] : List (Int × Int)), ∀ c ∈ ([(45, 1), (43, 2), (37, 3), (164, 4)] : List (Int × Int)), a.2 = c.2 → a = c := by decide +kernel
    exact key a ha c hc (f1.trans f2.symm)
   rw [this]
  ·match x, hx with
   | .inl _, _ => exact tR trivial
   | .inr (.inr r), h => exact h.1
 ·match x, hx with
  | .inl _, _ => exact tR (by simp)
  | .inr r, h => exact h
theorem waffix_t {o : List Int} {q : List St106} (ho : o.length ≤ 50000) (hq : q.length ≤ 1000) : Tot (pat_affix o q) (fun r => r.length ≤ o.length + 3001) := by
 unfold pat_affix
 refine tB (p := fun s : Bool × List Int => s.2.length ≤ o.length + 3000) (tW (fun s : Bool × Int × List Int => s.2.1) q.length (fun s => (s.2.2.length : Int) ≤ o.length + 3 * s.2.1) (by omega) ⟨by simp, Int.le_refl _, by simp⟩ (fun s hs g0 g1 => ?_) (fun s hs e => ?_)) (fun s hs => tB (p := fun r : List Int => r.length ≤ o.length + 3001) (tI (fun _ => tY (room_of (by simp; omega)) (tR (by simp; omega))) (fun _ => tR (by omega))) (fun _ h => tR h))
 ·rw [dT g1, w64 (n := s.2.1 + 1) (by omega) (by omega)]
  refine tB (p := fun r : Bool × List Int => (r.2.length : Int) ≤ s.2.2.length + 3) (tY (inR_int g0 g1) (tB (p := fun _ => True) (tI (fun _ => tR trivial) (fun _ => tR trivial)) (fun u _ => tB (p := fun _ => True) ?_ (fun v _ => tB (p := fun r : Bool × List Int => (r.2.length : Int) ≤ s.2.2.length + 1) (tI (fun _ => tY (room_of (by simp; omega)) (tR (by simp))) (fun _ => tR (by simp only; omega))) (fun w hw => tB (piece_t _) (fun z hz => tY (room_of (by omega)) (tR (by simp; omega)))))))) (fun r hr => tR ⟨?_, rfl⟩)
  ·repeat' (first | exact tR trivial | refine tI (fun _ => ?_) (fun _ => ?_) | exact tB (special_t _) (fun _ _ => tR trivial))
  ·simp only; omega
 ·rw [dF (show ¬ s.2.1 < (q.length : Int) by omega)]
  exact tR (by simp only; omega)
theorem wpattern_t {p : St32} (hp : lenP p 1000) : Tot (pat_pattern p) (fun r => r.length ≤ 20000) := by
 unfold pat_pattern
 obtain ⟨p1, p2, p3, p4⟩ := hp
 refine tB (wnumber_t p) (fun n hn => tB (wpad_t (by simp)) (fun a ha => ?_))
 simp only [List.length_nil] at ha
 refine tB (waffix_t (by omega) p1) (fun b hb => tB (wpad_t (by omega)) (fun c hc => tY (room_of (by omega)) ?_))
 refine tB (wpad_t (by simp; omega)) (fun d hd => ?_)
 simp only [List.length_append] at hd
 refine tB (waffix_t (by omega) p2) (fun e he => tB (wpad_t (by omega)) (fun f hf => tB (p := fun r : List Int => r.length ≤ 20000) (tI (fun _ => tY (room_of (by simp; omega)) (tB (waffix_t (by simp; omega) p3) (fun g hg => ?_))) (fun _ => tR (by omega))) (fun _ h => tR h)))
 simp only [List.length_append, List.length_cons, List.length_nil] at hg
 exact tY (room_of (by omega)) (tB (waffix_t (by simp; omega) p4) (fun i hi => tR (by simp only [List.length_append] at hi; omega)))
theorem encode_le (r : Int) : (Utf8.encode r).data.toList.length ≤ 4 := by
 unfold Utf8.encode
 simp only
 repeat' (first | (split) | simp)
theorem runesS_le : ∀ l : List Int, (runesS l).length ≤ 4 * l.length
 | [] => by simp [runesS]
 | x :: l => by
  have h1 := encode_le x
  have h2 := runesS_le l
  have : runesS (x :: l) = (Utf8.encode x).data.toList ++ runesS l := rfl
  rw [this, List.length_append, List.length_cons]; omega
theorem tok_t {x y : List St106} (hx : x.length ≤ 1000) : Tot (api_Tok_ x y) (fun _ => True) := by
 unfold api_Tok_
 refine tI (fun _ => tR trivial) (fun h => tJ (tW (fun s : Int => s) x.length (fun _ => True) (by omega) ⟨trivial, Int.le_refl _, by simp⟩ (fun s _ g0 g1 => ?_) (fun s _ e => ?_)))
 ·have h := dFF h
  exact tY (dT g1) <| tY (inR_int g0 g1) (tY (inR_int g0 (by omega)) (tI (fun _ => tR trivial) (fun _ => tR ⟨trivial, w64 (by omega) (by omega)⟩)))
 ·rw [dF (show ¬ s < (x.length : Int) by omega)]
  exact tR (tR trivial)
theorem same_t {x y : St32} (hx : lenP x 1000) : Tot (pat_Same x y) (fun _ => True) := by
 unfold pat_Same pat_numbers
 obtain ⟨p1, p2, p3, p4⟩ := hx
 refine tB (p := fun _ => True) (show Tot (bif _ then _ else _) _ from ?_) (fun _ _ => tR trivial)
 refine tI (fun _ => tI (fun _ => tI (fun _ => tB (tok_t p1) (fun _ _ => tI (fun _ => tB (tok_t p2) (fun _ _ => tI (fun _ => tB (tok_t p3) (fun _ _ => tI (fun _ => tB (tok_t p4) (fun _ _ => tR trivial)) (fun _ => tR trivial))) (fun _ => tR trivial))) (fun _ => tR trivial))) (fun _ => tR trivial)) (fun _ => tR trivial)) (fun _ => tR trivial)
theorem right_t {p : St32} (hp : lenP p 1000) : Tot (pat_Right p) (fun _ => True) := by
 unfold pat_Right
 refine tB (p := fun t : List UInt8 => t.length ≤ 100000) (by
  unfold pat_Text
  refine tB (wpattern_t hp) (fun r hr => tR ?_)
  have := runesS_le r; omega) (fun t ht => tB (parse_t ht) (fun q _ => tB (p := fun _ => True) (tI (fun _ => tB (same_t hp) (fun _ _ => tR trivial)) (fun _ => tR trivial)) (fun _ _ => tR trivial)))
/-! Rules are read, and written: it answers. -/
def inI (n : Int) : Prop := -9223372036854775808 ≤ n ∧ n ≤ 9223372036854775807
theorem wrap_inI (n : Int) : inI (IntKind.wrap .i64 n) := by
 have h : IntKind.wrap .i64 n = if n % 18446744073709551616 ≥ 9223372036854775808 then n % 18446744073709551616 - 18446744073709551616 else n % 18446744073709551616 := by
  unfold IntKind.wrap
  simp [IntKind.signed, IntKind.bits]
 unfold inI
 rw [h]
 split <;> omega
theorem inI0 : inI 0 := ⟨by omega, by omega⟩
def rb (t : List UInt8) (i : Int) : Prop := 0 ≤ i ∧ i ≤ (t.length : Int)
def runG (k : Int → Option Bool) (x0 : List UInt8) (x1 : Int) : Option ((List UInt8) × Int) :=
 (Option.bind (loopN (fun (s1 : Int) => (Option.bind (Option.bind (bif (decide (s1 < (x0.length : Int))) then (bif inR s1 x0.length then (some ((decide (((((x0.getD (s1 : Int).toNat 0).toNat : Nat) : Int)) = 32)))) else none) else (some false)) fun (s2 : Bool) => (bif s2 then (some (.inl ())) else (some (.inr (.inr s1))))) (joinX fun (s3 : Unit) => (some (.inl (IntKind.wrap .i64 (s1 + 1))))))) big x1) fun (s4 : Int) => (Option.bind (loopN (fun (s5 : Int) => (Option.bind (Option.bind (bif (decide (s5 < (x0.length : Int))) then (bif inR s5 x0.length then (Option.bind (k ((((x0.getD (s5 : Int).toNat 0).toNat : Nat) : Int))) fun y0 => (some y0)) else none) else (some false)) fun (s6 : Bool) => (bif s6 then (some (.inl ())) else (some (.inr (.inr s5))))) (joinX fun (s7 : Unit) => (some (.inl (IntKind.wrap .i64 (s5 + 1))))))) big s4) fun (s8 : Int) => (bif inS s4 s8 x0.length then (some ((cut x0 s4 s8), s4)) else none)))
section
variable {t : List UInt8} (ht : t.length ≤ 400)
include ht
theorem scan_t {k : Int → Option Bool} (hk : ∀ x, Tot (k x) (fun _ => True)) {i : Int} (h : rb t i) : Tot (loopN (fun (s5 : Int) => (Option.bind (Option.bind (bif (decide (s5 < (t.length : Int))) then (bif inR s5 t.length then (k ((((t.getD (s5 : Int).toNat 0).toNat : Nat) : Int))) else none) else (some false)) fun (s6 : Bool) => (bif s6 then (some (.inl ())) else (some (.inr (.inr s5))))) (joinX fun (s7 : Unit) => (some (.inl (IntKind.wrap .i64 (s5 + 1))))))) big i) (fun r => rb t r ∧ i ≤ r) := by
 refine tL (fun s => rb t s ∧ i ≤ s) (fun s => ((t.length : Int) - s).toNat) ⟨h, Int.le_refl _⟩ (by have := h.1; omega) (fun s hs => ?_)
 obtain ⟨⟨g0, g1⟩, g2⟩ := hs
 refine tJ (tB (p := fun r => r = true → s < t.length) (tI (fun e => tY (inR_int g0 (dTT e)) ((hk _).mono (fun _ _ _ => dTT e))) (fun _ => tR (fun h => by cases h))) (fun r hr => tI (fun e => tR (show Tot _ _ from tR ?_)) (fun _ => tR ⟨⟨g0, g1⟩, g2⟩)))
 have := hr e
 rw [w64 (n := s + 1) (by omega) (by omega)]
 exact ⟨⟨⟨by omega, by omega⟩, by omega⟩, by omega⟩
theorem run_t {k : Int → Option Bool} (hk : ∀ x, Tot (k x) (fun _ => True)) {i : Int} (h : rb t i) : Tot (runG k t i) (fun r => rb t r.2 ∧ i ≤ r.2 ∧ r.2 + r.1.length ≤ t.length) := by
 unfold runG
 have hk2 : ∀ x, Tot (Option.bind (k x) fun y0 => some y0) (fun _ => True) := fun x => tB (hk x) (fun _ _ => tR trivial)
 refine tB (scan_t ht (k := fun x => some (decide (x = 32))) (fun _ => tR trivial) h) (fun a ha => tB (scan_t ht hk2 ha.1) (fun b hb => tY (inS_of ha.1.1 hb.2 hb.1.2) (tR ⟨ha.1, ha.2, ?_⟩)))
 have h1 := ha.1.1; have h2 := hb.2; have h3 := hb.1.2
 unfold cut; simp; omega
theorem eatr_t {q : List UInt8} {i : Int} (h : rb t i) (hq : q.length ≤ 3) : Tot (rule_reader__eat_s0 q t i) (fun r => rb t r.2 ∧ i ≤ r.2) := by
 unfold rule_reader__eat_s0
 refine tB (run_t ht (k := rule_reader__eat_1) (fun _ => tR trivial) h) (fun a ha => tY (inS_of ha.1.1 ha.1.2 (Int.le_refl _)) (tB (p := fun r => r = true → a.2 + q.length ≤ t.length) ?_ (fun y hy => tI (fun _ => tR ⟨ha.1, ha.2.1⟩) (fun e => tR ?_))))
 ·unfold strings_HasPrefix stringslite_HasPrefix
  refine tB (p := fun r => r = true → a.2 + q.length ≤ t.length) (tB (p := fun r => r = true → a.2 + q.length ≤ t.length) (tI (fun e => ?_) (fun _ => tR (fun h => by cases h))) (fun _ h => tR h)) (fun _ h => tR h)
  have e := dTT e
  refine tY (inS_of (Int.le_refl _) (by omega) e) (tR (fun _ => ?_))
  have h1 := ha.1.1; have h2 := ha.1.2
  unfold cut at e; simp at e; omega
 ·have := hy (by simpa using e)
  have h1 := ha.1.1; have h2 := ha.2.1
  rw [w64 (n := a.2 + q.length) (by omega) (by omega)]
  exact ⟨⟨by simp only; omega, by simp only; omega⟩, by simp only; omega⟩
theorem wordr_t {i : Int} (h : rb t i) : Tot (rule_reader__word_s0 t i) (fun r => rb t r.2 ∧ i ≤ r.2 ∧ r.2 + r.1.length ≤ t.length) := by
 unfold rule_reader__word_s0
 refine tB (run_t ht (k := rule_reader__word_1) (fun x => ?_) h) (fun a ha => tR ha)
 unfold rule_reader__word_1
 refine tB (p := fun _ => True) ?_ (fun _ _ => tR trivial)
 repeat' (first | exact tR trivial | refine tI (fun _ => ?_) (fun _ => ?_))
theorem numr_t {v i : Int} (h : rb t i) : Tot (rule_reader__number_s0 v t i) (fun r => rb t r.2.2 ∧ i ≤ r.2.2 ∧ inI r.1 ∧ (r.2.1 = true → i < r.2.2)) := by
 unfold rule_reader__number_s0
 have z := inI0
 refine tB (run_t ht (k := rule_reader__number_1) (fun x => ?_) h) (fun a ha => tJ (tB (p := fun r => r = false → 0 < a.1.length) ?_ (fun r hr => tI (fun _ => tR ⟨ha.1, ha.2.1, z, fun h => by cases h⟩) (fun e => tR (show Tot _ _ from ?_)))))
 ·unfold rule_reader__number_1
  exact tB (p := fun _ => True) (tI (fun _ => tR trivial) (fun _ => tR trivial)) (fun _ _ => tR trivial)
 ·refine tI (fun _ => tR (fun h => by cases h)) (fun e => ?_)
  have e := dFF e
  refine tI (fun _ => tR (fun h => by cases h)) (fun _ => tI (fun _ => tY (inR_int (Int.le_refl _) (by omega)) (tR (fun _ => by omega))) (fun _ => tR (fun _ => by omega)))
 ·have := hr e
  obtain ⟨⟨h0, h1⟩, h2, h3⟩ := ha
  have hL : (bytesI a.1).length = a.1.length := bytesI_len _
  refine tB (p := inI) (tW (fun s : Int × Int => s.2) (bytesI a.1).length (fun s => inI s.1) (by omega) ⟨z, Int.le_refl _, by simp⟩ (fun s hs g0 g1 => ?_) (fun s hs e => ?_)) (fun n hn => tI (fun _ => tR ⟨⟨h0, h1⟩, h2, z, fun h => by cases h⟩) (fun _ => tR ?_))
  ·exact tY (dT g1) <| tY (inR_int g0 g1) (tR ⟨wrap_inI _, w64 (by omega) (by omega)⟩)
  ·rw [dF (show ¬ s.2 < ((bytesI a.1).length : Int) by omega)]
   exact tR hs
  ·have := h.1
   rw [w64 (n := a.2 + a.1.length) (by omega) (by omega)]
   exact ⟨⟨by simp only; omega, by simp only; omega⟩, by simp only; omega, hn, fun _ => by simp only; omega⟩
theorem oper_t {i : Int} (h : rb t i) {x2 x3 x4} : Tot (rule_reader__operand_s0 t i x2 x3 x4) (fun r => r.1 = true → rb t r.2.1 ∧ i < r.2.1) := by
 unfold rule_reader__operand_s0
 refine tB (wordr_t ht h) (fun a ha => tJ (tB (p := fun r => r = false → a.1.length = 1) ?_ (fun r hr => tI (fun _ => tR (fun h => by cases h)) (fun e => tR (show Tot _ _ from ?_)))))
 ·refine tI (fun _ => tR (fun h => by cases h)) (fun e => tB (p := fun _ => True) ?_ (fun _ _ => tR (fun _ => ?_)))
  ·unfold strings_Contains strings_Index stringslite_Index stringslite_IndexByte
   have e : (a.1.length : Int) = 1 := by have := dFF e; omega
   rw [dF (show ¬ (a.1.length : Int) = 0 by omega), dT e]
   refine tB (p := fun _ => True) (tB (p := fun _ => True) (tB (p := fun _ => True) (tR trivial) (fun _ _ => tI (fun _ => tR trivial) (fun _ => tY rfl (tY (inR_int (Int.le_refl _) (by omega)) (tR trivial))))) (fun _ _ => tR trivial)) (fun _ _ => tR trivial)
  ·have := dFF e; omega
 ·have := hr e
  obtain ⟨⟨h0, h1⟩, h2, h3⟩ := ha
  refine tY (inR_int (Int.le_refl _) (by omega)) (tR (fun _ => ?_))
  rw [w64 (n := a.2 + 1) (by omega) (by omega)]
  exact ⟨⟨by simp only; omega, by simp only; omega⟩, by simp only; omega⟩
theorem modr_t {i : Int} (h : rb t i) {x2 x4} : Tot (rule_reader__mod_s0 t i x2 0 x4) (fun r => rb t r.2.1 ∧ i ≤ r.2.1 ∧ inI r.2.2) := by
 unfold rule_reader__mod_s0
 exact tB (eatr_t ht h (by simp)) (fun a ha => tI (fun _ => tR ⟨ha.1, ha.2, inI0⟩) (fun _ => tB (numr_t ht ha.1) (fun c hc => tR ⟨hc.1, Int.le_trans ha.2 hc.2.1, hc.2.2.1⟩)))
theorem signr_t {i : Int} (h : rb t i) {x2 x3 x4} : Tot (rule_reader__sign_s0 t i x2 x3 x4) (fun r => rb t r.2.1 ∧ i ≤ r.2.1) := by
 unfold rule_reader__sign_s0
 exact tB (eatr_t ht h (by simp)) (fun a ha => tI (fun _ => tR ha) (fun _ => tB (eatr_t ht ha.1 (by simp)) (fun c hc => tR ⟨hc.1, Int.le_trans ha.2 hc.2⟩)))
def rngOk (l : List St185) : Prop := l.length ≤ 400 ∧ ∀ x ∈ l, inI x.a0_ ∧ inI x.a1_
theorem ranges_t {i : Int} (h : rb t i) {x2 x3 x4} : Tot (rule_reader__ranges_s0 t i x2 x3 x4) (fun r => rb t r.2.1 ∧ i ≤ r.2.1 ∧ rngOk r.2.2) := by
 unfold rule_reader__ranges_s0
 refine tL (fun s : Int × List St185 => rb t s.1 ∧ i ≤ s.1 ∧ (s.2.length : Int) ≤ s.1 ∧ ∀ x ∈ s.2, inI x.a0_ ∧ inI x.a1_) (fun s => ((t.length : Int) - s.1).toNat) ⟨h, Int.le_refl _, by have := h.1; simpa using this, by simp⟩ (by have := h.1; simp only; omega) (fun s hs => ?_)
 obtain ⟨g1, g2, g3, g4⟩ := hs
 refine tB (numr_t ht g1) (fun a ha => tB (p := fun r : Bool × Int × Int => rb t r.2.2 ∧ a.2.2 ≤ r.2.2 ∧ inI r.2.1 ∧ (r.1 = true → a.2.1 = true)) ?_ (fun c hc => ?_))
 ·refine tB (p := fun r : Bool × Int => rb t r.2 ∧ a.2.2 ≤ r.2 ∧ (r.1 = true → a.2.1 = true)) (tI (fun e => tB (eatr_t ht ha.1 (by simp)) (fun c hc => tR ⟨hc.1, hc.2, fun _ => e⟩)) (fun _ => tR ⟨ha.1, Int.le_refl _, fun h => by cases h⟩)) (fun c hc => ?_)
  exact tI (fun e => tB (numr_t ht hc.1) (fun d hd => tR ⟨hd.1, Int.le_trans hc.2.1 hd.2.1, hd.2.2.1, fun _ => hc.2.2 e⟩)) (fun _ => tR ⟨hc.1, hc.2.1, ha.2.2.1, id⟩)
 obtain ⟨⟨c0, c1⟩, c2, c3, c4⟩ := hc
 have a2 := ha.2.1
 have hall : ∀ x ∈ s.2 ++ [(⟨a.1, c.2.1⟩ : St185)], inI x.a0_ ∧ inI x.a1_ := fun x hx => by
  rcases List.mem_append.1 hx with hx | hx
  ·exact g4 x hx
  ·obtain rfl := List.mem_singleton.1 hx
   exact ⟨ha.2.2.1, c3⟩
 have g1' := g1.2
 refine tI (fun _ => tR ⟨⟨c0, c1⟩, by simp only; omega, by simp only; omega, g4⟩) (fun e => tY (room_of (by simp; omega)) (tB (eatr_t ht ⟨c0, c1⟩ (by simp)) (fun d hd => ?_)))
 have := ha.2.2.2 (c4 (by simpa using e))
 obtain ⟨⟨d0, d1⟩, d2⟩ := hd
 exact tI (fun _ => tR ⟨⟨d0, d1⟩, by simp only; omega, by simp; omega, hall⟩) (fun _ => tR ⟨⟨⟨d0, d1⟩, by simp only; omega, by simp; omega, hall⟩, by simp only; omega⟩)
def relOk (r : St150) : Prop := inI r.Mod_ ∧ rngOk r.R_
theorem relation_t {i : Int} (h : rb t i) : Tot (rule_reader__relation_s0 t i) (fun r => r.2.1 = true → rb t r.2.2 ∧ i < r.2.2 ∧ relOk r.1) := by
 unfold rule_reader__relation_s0
 refine tJ (tB (p := fun s : Bool × Int × Int × Int × Bool × List St185 => s.1 = true → rb t s.2.1 ∧ i < s.2.1 ∧ inI s.2.2.2.1 ∧ rngOk s.2.2.2.2.2) ?_ (fun s hs => tI (fun e => tR (fun _ => ⟨(hs e).1, (hs e).2.1, (hs e).2.2.1, (hs e).2.2.2⟩)) (fun _ => tR (show Tot _ _ from tR (fun h => by cases h)))))
 refine tB (oper_t ht h) (fun a ha => tI (fun e => ?_) (fun _ => tR (fun h => by cases h)))
 have ha := ha e
 refine tB (modr_t ht ha.1) (fun c hc => tI (fun _ => tB (signr_t ht hc.1) (fun d hd => tI (fun _ => tB (ranges_t ht hd.1) (fun f hf => tR (fun _ => ⟨hf.1, ?_, hc.2.2, hf.2.2⟩))) (fun _ => tR (fun h => by cases h)))) (fun _ => tR (fun h => by cases h)))
 exact Int.lt_of_lt_of_le ha.2 (Int.le_trans hc.2.1 (Int.le_trans hd.2 hf.2.1))
def rowOk (l : List St150) : Prop := l.length ≤ 400 ∧ ∀ r ∈ l, relOk r
def condOk (c : List (List St150)) : Prop := c.length ≤ 401 ∧ ∀ l ∈ c, rowOk l
theorem rows_t : Tot (rule_reader__rows_s0 t 0) (fun r => condOk r.1) := by
 unfold rule_reader__rows_s0
 refine tJ (Tot.mono (p := fun x => match x with | .inl s => (s.2.1.length : Int) ≤ 400 ∧ (∀ l ∈ s.2.1, rowOk l) ∧ rowOk s.2.2 | .inr r => condOk r.1) (tL (fun s : Int × List (List St150) × List St150 => rb t s.1 ∧ (s.2.1.length : Int) ≤ s.1 ∧ (s.2.2.length : Int) ≤ s.1 ∧ (∀ l ∈ s.2.1, rowOk l) ∧ ∀ r ∈ s.2.2, relOk r) (fun s => ((t.length : Int) - s.1).toNat) ⟨⟨Int.le_refl _, by simp only; omega⟩, by simp, by simp, by simp, by simp⟩ (by simp only; omega) (fun s hs => ?_)) (fun x hx => ?_))
 ·obtain ⟨g1, g2, g3, g4, g5⟩ := hs
  refine tB (relation_t ht g1) (fun a ha => tI (fun _ => tR ⟨by simp, by simp⟩) (fun e => ?_))
  obtain ⟨a1, a2, a3⟩ := ha (by simpa using e)
  have g1' := g1.2; have a1' := a1.2
  have hall : ∀ r ∈ s.2.2 ++ [a.1], relOk r := fun x hx => by
   rcases List.mem_append.1 hx with hx | hx
   ·exact g5 x hx
   ·obtain rfl := List.mem_singleton.1 hx
    exact a3
  have hrow : rowOk (s.2.2 ++ [a.1]) := ⟨by simp; omega, hall⟩
  refine tY (room_of (by simp; omega)) (tB (wordr_t ht a1) (fun w hw => ?_))
  obtain ⟨⟨w0, w1⟩, w2, w3⟩ := hw
  have ew : IntKind.wrap .i64 (w.2 + w.1.length) = w.2 + w.1.length := w64 (by omega) (by omega)
  rw [ew]
  refine tI (fun _ => tR ⟨⟨⟨by simp only; omega, by simp only; omega⟩, by simp only; omega, by simp; omega, g4, hall⟩, by simp only; omega⟩) (fun _ => tI (fun _ => tY (room_of (by simp; omega)) (tR ⟨⟨⟨by simp only; omega, by simp only; omega⟩, by simp; omega, by simp; omega, fun l hl => ?_, by simp⟩, by simp only; omega⟩)) (fun _ => tR ⟨by simp only; omega, g4, hrow⟩))
  rcases List.mem_append.1 hl with hl | hl
  ·exact g4 l hl
  ·obtain rfl := List.mem_singleton.1 hl
   exact hrow
 ·cases x with
  | inr r => exact hx
  | inl s =>
   obtain ⟨s1, s2, s3⟩ := hx
   refine show Tot _ _ from tY (room_of (by simp; omega)) (tR ⟨by simp; omega, fun l hl => ?_⟩)
   rcases List.mem_append.1 hl with hl | hl
   ·exact s2 l hl
   ·obtain rfl := List.mem_singleton.1 hl
    exact s3
end
theorem nth_mem {T : Type} [Inhabited T] {l : List T} {i : Int} (h0 : 0 ≤ i) (h1 : i < l.length) : nth l i ∈ l := by
 obtain ⟨k, rfl⟩ := Int.eq_ofNat_of_zero_le h0
 rw [nth_nat (by omega)]; exact List.getElem_mem _
theorem tooMany_t {c : List (List St150)} (hc : condOk c) : Tot (rule_tooMany c) (fun _ => True) := by
 unfold rule_tooMany
 have hn := hc.1
 refine tJ (tW (fun s : Int × Int => s.2) c.length (fun _ => True) (by omega) ⟨trivial, Int.le_refl _, by simp⟩ (fun s _ g0 g1 => ?_) (fun s _ e => ?_))
 ·rw [dT g1]
  have hm := (hc.2 _ (nth_mem g0 g1)).1
  refine tJ (tY (inR_int g0 g1) (tW (fun s : Int => s) (nth c s.2).length (fun _ => True) (by omega) ⟨trivial, Int.le_refl _, by simp⟩ (fun u _ f0 f1 => ?_) (fun u _ e => ?_)))
  ·exact tY (dT f1) <| tY (inR_int f0 f1) (tI (fun _ => tR trivial) (fun _ => tR ⟨trivial, w64 (by omega) (by omega)⟩))
  ·rw [dF (show ¬ u < ((nth c s.2).length : Int) by omega)]
   exact tR (tR ⟨trivial, w64 (by omega) (by omega)⟩)
 ·rw [dF (show ¬ s.2 < (c.length : Int) by omega)]
  exact tR (tR trivial)
theorem rparse_t (t : List UInt8) : Tot (rule_Parse t) (fun r => condOk r.1) := by
 unfold rule_Parse
 have z : condOk [] := ⟨by simp, by simp⟩
 refine tI (fun _ => tR z) (fun e => ?_)
 have e := dFF e
 exact tB (rows_t (by omega)) (fun a ha => tI (fun _ => tR z) (fun _ => tB (tooMany_t ha) (fun _ _ => tI (fun _ => tR z) (fun _ => tR ha))))
/-! Decimal numerals: what the library's functions lay. -/
def dgs (u : Nat) : Nat → List Int
 | 0 => []
 | n + 1 => dgs (u / 10) n ++ [((48 + u % 10 : Nat) : Int)]
theorem dgs_len : ∀ (n u : Nat), (dgs u n).length = n
 | 0, u => rfl
 | n + 1, u => by simp [dgs, dgs_len n]
theorem dgs2 (u n : Nat) : dgs u (n + 2) = dgs (u / 100) n ++ [((48 + u / 10 % 10 : Nat) : Int), ((48 + u % 10 : Nat) : Int)] := by
 show dgs (u / 10) (n + 1) ++ _ = _
 show (dgs (u / 10 / 10) n ++ _) ++ _ = _
 rw [Nat.div_div_eq_div_mul, List.append_assoc]; rfl
theorem dgs_eq : ∀ (u : Nat), dgs u (Lib.nDigits u) = bytesI (Lib.decDigits u) := by
 intro u
 induction u using Nat.strongRecOn with
 | _ u ih =>
  by_cases h : u < 10
  ·rw [Lib.nDigits_small h, Lib.decDigits, dif_pos h]
   simp only [dgs, bytesI, List.map_cons, List.map_nil, List.nil_append]
   rw [UInt8.toNat_ofNat_of_lt' (by simp only [UInt8.size]; omega), Nat.mod_eq_of_lt h]
  ·rw [Lib.nDigits_big h, Lib.decDigits, dif_neg h]
   show dgs (u / 10) (Lib.nDigits (u / 10)) ++ _ = _
   rw [ih (u / 10) (by omega)]
   simp only [bytesI, List.map_append, List.map_cons, List.map_nil]
   rw [UInt8.toNat_ofNat_of_lt' (by simp only [UInt8.size]; omega)]
theorem k0_hi (p : Nat) (h : p < 100) : (k1_.getD (p * 2) 0).toNat = 48 + p / 10 := by
 have : ∀ q : Fin 100, (k1_.getD (q.val * 2) 0).toNat = 48 + q.val / 10 := by decide +kernel
 exact this ⟨p, h⟩
theorem k0_lo (p : Nat) (h : p < 100) : (k1_.getD (p * 2 + 1) 0).toNat = 48 + p % 10 := by
 have : ∀ q : Fin 100, (k1_.getD (q.val * 2 + 1) 0).toNat = 48 + q.val % 10 := by decide +kernel
 exact this ⟨p, h⟩
theorem tm8 (a : Nat) : Int.tmod (a : Int) 100000000 = ((a % 100000000 : Nat) : Int) := by rw [Int.tmod_eq_emod_of_nonneg (by omega)]; omega
theorem tm4 (a : Nat) : Int.tmod (a : Int) 10000 = ((a % 10000 : Nat) : Int) := by rw [Int.tmod_eq_emod_of_nonneg (by omega)]; omega
theorem tm2 (a : Nat) : Int.tmod (a : Int) 100 = ((a % 100 : Nat) : Int) := by rw [Int.tmod_eq_emod_of_nonneg (by omega)]; omega
theorem td8 (a : Nat) : Int.tdiv (a : Int) 100000000 = ((a / 100000000 : Nat) : Int) := by rw [Int.tdiv_eq_ediv_of_nonneg (by omega)]; omega
theorem td4 (a : Nat) : Int.tdiv (a : Int) 10000 = ((a / 10000 : Nat) : Int) := by rw [Int.tdiv_eq_ediv_of_nonneg (by omega)]; omega
theorem td2 (a : Nat) : Int.tdiv (a : Int) 100 = ((a / 100 : Nat) : Int) := by rw [Int.tdiv_eq_ediv_of_nonneg (by omega)]; omega
theorem wu32n {a : Nat} (h : a < 4294967296) : IntKind.u32.wrap (a : Int) = (a : Int) := wu32 (by omega) (by omega)
theorem wu64n {a : Nat} (h : a < 18446744073709551616) : IntKind.u64.wrap (a : Int) = (a : Int) := wu64 (by omega) (by omega)
theorem mul2n (a : Nat) : (a : Int) * 2 = ((a * 2 : Nat) : Int) := by omega
theorem k0_len : k1_.length = 200 := by kernel_rfl
theorem inRk {a : Nat} (h : a < 200) : inR (a : Int) k1_.length = true := inR_nat (by rw [k0_len]; exact h)
theorem setAt_len {T : Type} (xs : List T) (j : Int) (y : T) : (setAt xs j y).length = xs.length := by simp [setAt]
theorem zcast (x : Int) : ((0 : Nat) : Int) + x = x := by simp
theorem set_at {T : Type} (p l : List T) (k : Nat) (v : T) : setAt (p ++ l) (((p.length + k : Nat) : Int)) v = p ++ l.set k v := by
 unfold setAt
 rw [Int.toNat_natCast, List.set_append_right _ _ (by omega)]
 congr 2; omega
theorem inPn {o j n : Nat} (h : o + j < n) : inP o (j : Int) n = true := by simp [inP]; omega
theorem wsubn {a b : Nat} (h : b ≤ a) (h2 : a < 1000) : IntKind.wrap .i64 ((a : Int) - (b : Int)) = ((a - b : Nat) : Int) := by rw [w64 (by omega) (by omega)]; omega
theorem wsub1 {a : Nat} (h : 1 ≤ a) (h2 : a < 1000) : IntKind.wrap .i64 ((a : Int) - 1) = ((a - 1 : Nat) : Int) := wsubn h h2
theorem wsub2 {a : Nat} (h : 2 ≤ a) (h2 : a < 1000) : IntKind.wrap .i64 ((a : Int) - 2) = ((a - 2 : Nat) : Int) := wsubn h h2
theorem wsub3 {a : Nat} (h : 3 ≤ a) (h2 : a < 1000) : IntKind.wrap .i64 ((a : Int) - 3) = ((a - 3 : Nat) : Int) := wsubn h h2
theorem wsub4 {a : Nat} (h : 4 ≤ a) (h2 : a < 1000) : IntKind.wrap .i64 ((a : Int) - 4) = ((a - 4 : Nat) : Int) := wsubn h h2
theorem wsub5 {a : Nat} (h : 5 ≤ a) (h2 : a < 1000) : IntKind.wrap .i64 ((a : Int) - 5) = ((a - 5 : Nat) : Int) := wsubn h h2
theorem wsub6 {a : Nat} (h : 6 ≤ a) (h2 : a < 1000) : IntKind.wrap .i64 ((a : Int) - 6) = ((a - 6 : Nat) : Int) := wsubn h h2
theorem wsub7 {a : Nat} (h : 7 ≤ a) (h2 : a < 1000) : IntKind.wrap .i64 ((a : Int) - 7) = ((a - 7 : Nat) : Int) := wsubn h h2
theorem wsub8 {a : Nat} (h : 8 ≤ a) (h2 : a < 1000) : IntKind.wrap .i64 ((a : Int) - 8) = ((a - 8 : Nat) : Int) := wsubn h h2
def FB (R : List Int) (x0 : Nat) (s : Int × Int × List Int) : Prop := ∃ (v n : Nat) (p q : List Int), s = ((v : Int), (n : Int), p ++ q) ∧ p.length = n ∧ v < 10 ^ n ∧ v < 18446744073709551616 ∧ p.length + q.length = 24 ∧ n ≤ x0 ∧ dgs v n ++ q = R
theorem last8 {p : List Int} {k : Nat} (h : p.length = k + 8) : ∃ p' a b c d e f g i, p = p' ++ [a, b, c, d, e, f, g, i] ∧ p'.length = k := by
 refine ⟨p.take k, ?_⟩
 have h2 : (p.drop k).length = 8 := by simp; omega
 match hd : p.drop k, h2 with
 | [a, b, c, d, e, f, g, i], _ => exact ⟨a, b, c, d, e, f, g, i, by rw [← hd, List.take_append_drop], by simp; omega⟩
theorem dgs8 (u n : Nat) : dgs u (n + 8) = dgs (u / 100000000) n ++ [((48 + u % 100000000 / 10000 / 100 / 10 : Nat) : Int), ((48 + u % 100000000 / 10000 / 100 % 10 : Nat) : Int), ((48 + u % 100000000 / 10000 % 100 / 10 : Nat) : Int), ((48 + u % 100000000 / 10000 % 100 % 10 : Nat) : Int),
  ((48 + u % 100000000 % 10000 / 100 / 10 : Nat) : Int), ((48 + u % 100000000 % 10000 / 100 % 10 : Nat) : Int), ((48 + u % 100000000 % 10000 % 100 / 10 : Nat) : Int), ((48 + u % 100000000 % 10000 % 100 % 10 : Nat) : Int)] := by
 rw [dgs2, dgs2, dgs2, dgs2]
 simp only [List.append_assoc, List.cons_append, List.nil_append, Nat.div_div_eq_div_mul]
 congr 1
 congr 1
 ·omega
 congr 1
 ·omega
 congr 1
 ·omega
 congr 1
 ·omega
 congr 1
 ·omega
 congr 1
 ·omega
 congr 1
 ·omega
 congr 1
 ·omega
theorem add1n (a : Nat) : (a : Int) + 1 = ((a + 1 : Nat) : Int) := by omega
theorem k0_hi' (p : Nat) (h : p < 100) : (((k1_.getD (((p * 2 : Nat) : Int)).toNat 0).toNat : Nat) : Int) = ((48 + p / 10 : Nat) : Int) := by rw [Int.toNat_natCast, k0_hi p h]
theorem k0_lo' (p : Nat) (h : p < 100) : (((k1_.getD (((p * 2 + 1 : Nat) : Int)).toNat 0).toNat : Nat) : Int) = ((48 + p % 10 : Nat) : Int) := by rw [Int.toNat_natCast, k0_lo p h]
theorem w8c {a : Nat} (h : a < 256) : IntKind.u8.wrap (a : Int) = (a : Int) := w8 (by omega) (by omega)
theorem add48 (a : Nat) : (48 : Int) + (a : Int) = ((48 + a : Nat) : Int) := by omega
theorem zcast0 : ((0 : Nat) : Int) + 0 = ((0 : Nat) : Int) := rfl
theorem inP00 {n : Nat} (h : 0 < n) : inP 0 0 n = true := by simp [inP]; omega
theorem inR0x {n : Nat} {x : Int} (hx : x.toNat = n) (h : 0 < n) : inR 0 x.toNat = true := inR_int (by omega) (by omega)
theorem set_atN {T : Type} (p : List T) (k : Nat) (v : T) : setAt p ((k : Nat) : Int) v = p.set k v := by simp [setAt]
def FA (R : List Int) (x0 b : Nat) (s : Int × Int × List Int) : Prop := ∃ (v n : Nat) (p q : List Int), s = ((n : Int), (v : Int), p ++ q) ∧ p.length = n ∧ v < 4294967296 ∧ v < 10 ^ n ∧ n < b ∧ p.length + q.length = 24 ∧ n ≤ x0 ∧ dgs v n ++ q = R
theorem last4 {p : List Int} {k : Nat} (h : p.length = k + 4) : ∃ p' a b c d, p = p' ++ [a, b, c, d] ∧ p'.length = k := by
 refine ⟨p.take k, ?_⟩
 have h2 : (p.drop k).length = 4 := by simp; omega
 match hd : p.drop k, h2 with
 | [a, b, c, d], _ => exact ⟨a, b, c, d, by rw [← hd, List.take_append_drop], by simp; omega⟩
theorem last2 {p : List Int} {k : Nat} (h : p.length = k + 2) : ∃ p' a b, p = p' ++ [a, b] ∧ p'.length = k := by
 refine ⟨p.take k, ?_⟩
 have h2 : (p.drop k).length = 2 := by simp; omega
 match hd : p.drop k, h2 with
 | [a, b], _ => exact ⟨a, b, by rw [← hd, List.take_append_drop], by simp; omega⟩
theorem dgs4 (u n : Nat) : dgs u (n + 4) = dgs (u / 10000) n ++ [((48 + u % 10000 / 100 / 10 : Nat) : Int), ((48 + u % 10000 / 100 % 10 : Nat) : Int), ((48 + u % 10000 % 100 / 10 : Nat) : Int), ((48 + u % 10000 % 100 % 10 : Nat) : Int)] := by
 rw [dgs2, dgs2]
 simp only [List.append_assoc, List.cons_append, List.nil_append, Nat.div_div_eq_div_mul]
 congr 1
 congr 1
 ·omega
 congr 1
 ·omega
 congr 1
 ·omega
 congr 1
 ·omega
set_option maxHeartbeats 4000000 in
theorem fb_eq {v n : Nat} {a : List Int} (hn : n ≤ 24) (ha : a.length = 24) (hv : v < 10 ^ n) (hv2 : v < 18446744073709551616) : strconv_formatBase10_s0 (n : Int) (v : Int) a = some (dgs v n ++ a.drop n) := by
 unfold strconv_formatBase10_s0
 have tn : ((n : Int)).toNat = n := by omega
 refine bind_of (fun s => FB (dgs v n ++ a.drop n) n s ∧ s.2.1 < 8) (loopN_run (FB (dgs v n ++ a.drop n) n) (fun s => s.2.1.toNat) _ (fun s hs => ?_) _ _ ?_ ?_) ?_
 ·obtain ⟨w, k, p, q, rfl, hp, hw, hw2, hl, hk, hR⟩ := hs
  by_cases h8 : 8 ≤ k
  ·left
   obtain ⟨j, rfl⟩ : ∃ j, k = j + 8 := ⟨k - 8, by omega⟩
   obtain ⟨p, a0, a1, a2, a3, a4, a5, a6, a7, rfl, hp'⟩ := last8 hp
   have hpl : p.length + 8 + q.length = 24 := by simp at hl; omega
   refine ⟨(((w / 100000000 : Nat) : Int), ((j : Nat) : Int), p ++ ([((48 + w % 100000000 / 10000 / 100 / 10 : Nat) : Int), ((48 + w % 100000000 / 10000 / 100 % 10 : Nat) : Int), ((48 + w % 100000000 / 10000 % 100 / 10 : Nat) : Int), ((48 + w % 100000000 / 10000 % 100 % 10 : Nat) : Int),
  ((48 + w % 100000000 % 10000 / 100 / 10 : Nat) : Int), ((48 + w % 100000000 % 10000 / 100 % 10 : Nat) : Int), ((48 + w % 100000000 % 10000 % 100 / 10 : Nat) : Int), ((48 + w % 100000000 % 10000 % 100 % 10 : Nat) : Int)] ++ q)), ?_, ⟨w / 100000000, j, p, _, rfl, hp', ?_, by omega, ?_, by omega, ?_⟩, by simp only [Int.toNat_natCast]; omega⟩
   ·simp only []
    have d8 : decide (((j + 8 : Nat) : Int) ≥ 8) = true := dT (by omega)
    rw [d8]
    have hlen0 : (p ++ [a0, a1, a2, a3, a4, a5, a6, a7] ++ q).length = 24 := by simp; omega
    have e1 : j + 8 - 1 = p.length + 7 := by omega
    have e2 : j + 8 - 2 = p.length + 6 := by omega
    have e3 : j + 8 - 3 = p.length + 5 := by omega
    have e4 : j + 8 - 4 = p.length + 4 := by omega
    have e5 : j + 8 - 5 = p.length + 3 := by omega
    have e6 : j + 8 - 6 = p.length + 2 := by omega
    have e7 : j + 8 - 7 = p.length + 1 := by omega
    have e8 : j + 8 - 8 = p.length + 0 := by omega
    simp (disch := omega) only [tm8, tm4, tm2, td8, td4, td2, wu32n, wu64n, mul2n, add1n, inRk, wsub1, wsub2, wsub3, wsub4, wsub5, wsub6, wsub7, wsub8, e1, e2, e3, e4, e5, e6, e7, e8, tn, inR_nat, cond_true]
    simp (disch := omega) only [setAt_len, hlen0, inPn, cond_true, k0_hi', k0_lo', zcast]
    simp only [List.append_assoc, set_at, List.cons_append, List.nil_append, List.set_cons_succ, List.set_cons_zero]
    try simp only [Nat.add_zero, hp']
   ·rw [Nat.pow_add] at hw
    exact Nat.div_lt_of_lt_mul (by rw [Nat.mul_comm]; exact hw)
   ·simp; omega
   ·rw [← hR, dgs8, List.append_assoc]
  ·right
   refine ⟨((w : Int), (k : Int), p ++ q), ?_, ⟨w, k, p, q, rfl, hp, hw, hw2, hl, hk, hR⟩, by simp only; omega⟩
   rw [dF (by simp only; omega)]; rfl
 ·exact ⟨v, n, a.take n, a.drop n, by rw [List.take_append_drop, tn], by simp; omega, hv, hv2, by simp; omega, Nat.le_refl _, rfl⟩
 ·simp only [Int.toNat_natCast]; exact big_pos (by omega)
 ·rintro s ⟨⟨w, k, p, q, rfl, hp, hw, hw2, hl, hk, hR⟩, h8⟩
  simp only at h8
  have hk8 : k < 8 := by omega
  have hw7 : w < 10000000 := Nat.lt_of_lt_of_le hw (Nat.le_trans (Nat.pow_le_pow_right (by decide) (show k ≤ 7 by omega)) (by decide))
  simp only
  refine bind_of (FA (dgs v n ++ a.drop n) n 4) ?_ (fun s hs => ?_)
  ·by_cases h4 : 4 ≤ k
   ·obtain ⟨j, rfl⟩ : ∃ j, k = j + 4 := ⟨k - 4, by omega⟩
    obtain ⟨p, a0, a1, a2, a3, rfl, hp'⟩ := last4 hp
    have hpl : p.length + 4 + q.length = 24 := by simp at hl; omega
    refine ⟨((j : Int), ((w / 10000 : Nat) : Int), p ++ ([((48 + w % 10000 / 100 / 10 : Nat) : Int), ((48 + w % 10000 / 100 % 10 : Nat) : Int), ((48 + w % 10000 % 100 / 10 : Nat) : Int), ((48 + w % 10000 % 100 % 10 : Nat) : Int)] ++ q)), ?_, ⟨w / 10000, j, p, _, rfl, hp', by omega, ?_, by omega, ?_, by omega, ?_⟩⟩
    ·rw [dT (show ((j + 4 : Nat) : Int) ≥ 4 by omega)]
     have hlen0 : (p ++ [a0, a1, a2, a3] ++ q).length = 24 := by simp; omega
     have e1 : j + 4 - 1 = p.length + 3 := by omega
     have e2 : j + 4 - 2 = p.length + 2 := by omega
     have e3 : j + 4 - 3 = p.length + 1 := by omega
     have e4 : j + 4 - 4 = p.length + 0 := by omega
     simp (disch := omega) only [tm4, tm2, td4, td2, wu32n, mul2n, add1n, inRk, wsub1, wsub2, wsub3, wsub4, e1, e2, e3, e4, tn, inR_nat, cond_true]
     simp (disch := omega) only [setAt_len, hlen0, inPn, cond_true, k0_hi', k0_lo', zcast]
     simp only [List.append_assoc, set_at, List.cons_append, List.nil_append, List.set_cons_succ, List.set_cons_zero]
     try simp only [Nat.add_zero, hp']
    ·rw [Nat.pow_add] at hw
     exact Nat.div_lt_of_lt_mul (by rw [Nat.mul_comm]; exact hw)
    ·simp; omega
    ·rw [← hR, dgs4, List.append_assoc]
   ·refine ⟨((k : Int), (w : Int), p ++ q), ?_, ⟨w, k, p, q, rfl, hp, by omega, hw, by omega, hl, hk, hR⟩⟩
    rw [dF (by omega), wu32n (by omega)]; rfl
  ·obtain ⟨w, k, p, q, rfl, hp, hw7, hw, hk4, hl, hk, hR⟩ := hs
   simp only
   refine bind_of (FA (dgs v n ++ a.drop n) n 2) ?_ (fun s hs => ?_)
   ·by_cases h2 : 2 ≤ k
    ·obtain ⟨j, rfl⟩ : ∃ j, k = j + 2 := ⟨k - 2, by omega⟩
     obtain ⟨p, a0, a1, rfl, hp'⟩ := last2 hp
     have hpl : p.length + 2 + q.length = 24 := by simp at hl; omega
     refine ⟨((j : Int), ((w / 100 : Nat) : Int), p ++ ([((48 + w % 100 / 10 : Nat) : Int), ((48 + w % 100 % 10 : Nat) : Int)] ++ q)), ?_, ⟨w / 100, j, p, _, rfl, hp', by omega, ?_, by omega, ?_, by omega, ?_⟩⟩
     ·rw [dT (show ((j + 2 : Nat) : Int) ≥ 2 by omega)]
      have hlen0 : (p ++ [a0, a1] ++ q).length = 24 := by simp; omega
      have e1 : j + 2 - 1 = p.length + 1 := by omega
      have e2 : j + 2 - 2 = p.length + 0 := by omega
      simp (disch := omega) only [tm2, td2, wu32n, mul2n, add1n, inRk, wsub1, wsub2, e1, e2, tn, inR_nat, cond_true]
      simp (disch := omega) only [setAt_len, hlen0, inPn, cond_true, k0_hi', k0_lo', zcast]
      simp only [List.append_assoc, set_at, List.cons_append, List.nil_append, List.set_cons_succ, List.set_cons_zero]
      try simp only [Nat.add_zero, hp']
     ·rw [Nat.pow_add] at hw
      exact Nat.div_lt_of_lt_mul (by rw [Nat.mul_comm]; exact hw)
     ·simp; omega
     ·rw [← hR, dgs2, List.append_assoc]
      congr 2
      congr 1
      ·omega
      congr 1
      omega
    ·refine ⟨((k : Int), (w : Int), p ++ q), ?_, ⟨w, k, p, q, rfl, hp, by omega, hw, by omega, hl, hk, hR⟩⟩
     rw [dF (by omega)]; rfl
   ·obtain ⟨w, k, p, q, rfl, hp, hw7, hw, hk2, hl, hk, hR⟩ := hs
    simp only
    rw [← hR]
    by_cases h1 : 1 ≤ k
    ·obtain rfl : k = 1 := by omega
     obtain ⟨a0, rfl⟩ := List.length_eq_one_iff.1 hp
     have hw10 : w < 10 := by simpa using hw
     rw [dT (by omega), inR0x tn (by omega), inP00 (by simp)]
     simp only [cond_true, zcast0, set_atN, List.cons_append, List.nil_append, List.set_cons_zero, dgs, add48]
     rw [wu32n (by omega), w8c (by omega), Nat.mod_eq_of_lt hw10]
    ·obtain rfl : k = 0 := by omega
     obtain rfl := List.eq_nil_of_length_eq_zero hp
     rw [dF (by omega)]; rfl
theorem k1_at : ∀ q : Fin 256, (k2_.getD q.val 0).toNat = Lib.bitLen q.val := by decide +kernel
theorem k1_len : k2_.length = 256 := by kernel_rfl
def LenI (u b m : Nat) (s : Int × Int) : Prop := ∃ x k : Nat, s = ((x : Int), (k : Int)) ∧ x < b ∧ x < 18446744073709551616 ∧ Lib.bitLen u = k + Lib.bitLen x ∧ k ≤ m
theorem fd (a b : Nat) : Int.fdiv (a : Int) (b : Int) = ((a / b : Nat) : Int) := by rw [Int.fdiv_eq_ediv_of_nonneg _ (by omega)]; rfl
theorem len64_eq {u : Nat} (h : u < 18446744073709551616) : bits_Len64 (u : Int) = some (Lib.bitLen u : Int) := by
 unfold bits_Len64
 refine bind_of (LenI u 4294967296 32) ?_ (fun s hs => ?_)
 ·by_cases c : 4294967296 ≤ u
  ·refine ⟨_, by rw [dT (by omega)]; rfl, u / 4294967296, 32, ?_, by omega, by omega, Lib.bitLen_shift32 u c h, by omega⟩
   rw [show (4294967296 : Int) = ((4294967296 : Nat) : Int) from rfl, fd]; rfl
  ·exact ⟨((u : Int), 0), by rw [dF (by omega)]; rfl, u, 0, rfl, by omega, h, by omega, by omega⟩
 ·obtain ⟨x, k, rfl, hx, hx2, hb, hk⟩ := hs
  simp only
  refine bind_of (LenI u 65536 48) ?_ (fun s hs => ?_)
  ·by_cases c : 65536 ≤ x
   ·refine ⟨_, by rw [dT (by omega)]; rfl, x / 65536, k + 16, ?_, by omega, by omega, by rw [hb, Lib.bitLen_shift16 x c hx2]; omega, by omega⟩
    rw [show (65536 : Int) = ((65536 : Nat) : Int) from rfl, fd, w64 (by omega) (by omega)]; rfl
   ·exact ⟨((x : Int), (k : Int)), by rw [dF (by omega)]; rfl, x, k, rfl, by omega, hx2, hb, by omega⟩
  ·obtain ⟨x, k, rfl, hx, hx2, hb, hk⟩ := hs
   simp only
   refine bind_of (LenI u 256 56) ?_ (fun s hs => ?_)
   ·by_cases c : 256 ≤ x
    ·refine ⟨_, by rw [dT (by omega)]; rfl, x / 256, k + 8, ?_, by omega, by omega, by rw [hb, Lib.bitLen_shift8 x c hx2]; omega, by omega⟩
     rw [show (256 : Int) = ((256 : Nat) : Int) from rfl, fd, w64 (by omega) (by omega)]; rfl
    ·exact ⟨((x : Int), (k : Int)), by rw [dF (by omega)]; rfl, x, k, rfl, by omega, hx2, hb, by omega⟩
   ·obtain ⟨x, k, rfl, hx, hx2, hb, hk⟩ := hs
    simp only
    have h8 := Lib.bitLen_le8 ⟨x, hx⟩
    simp only at h8
    rw [w8c hx, inR_nat (by rw [k1_len]; omega), Int.toNat_natCast, k1_at ⟨x, hx⟩]
    simp only [cond_true]
    rw [w64 (n := (Lib.bitLen x : Int)) (by omega) (by omega), w64 (by omega) (by omega), hb]
    rfl
theorem k2_at : ∀ q : Fin 20, nth k3_ (q.val : Int) = ((10 ^ q.val : Nat) : Int) := by decide +kernel
theorem numDigits_eq {u : Nat} (h1 : 1 ≤ u) (h : u < 18446744073709551616) : strconv_numDigits (u : Int) = some (Lib.nDigits u : Int) := by
 unfold strconv_numDigits
 rw [len64_eq h]
 have hb : Lib.bitLen u ≤ 64 := Lib.bitLen_le u 64 (by omega) h
 obtain ⟨e1, e2⟩ := Lib.numDigits_eq u h1 h
 simp only [Option.bind_some]
 unfold strconv_log10Pow2
 have e3 : Int.fdiv (IntKind.wrap .i64 ((Lib.bitLen u : Int) * 78913)) 262144 = (Lib.l10 (Lib.bitLen u) : Int) := by
  rw [w64 (by omega) (by omega), show (262144 : Int) = ((262144 : Nat) : Int) from rfl, show (Lib.bitLen u : Int) * 78913 = ((Lib.bitLen u * 78913 : Nat) : Int) by omega, fd]; rfl
 rw [e3]
 simp only [Option.bind_some]
 rw [inR_nat (by omega), k2_at ⟨Lib.l10 (Lib.bitLen u), by omega⟩]
 simp only [cond_true]
 rw [← e1]
 unfold strconv_bool2
 by_cases c : 10 ^ Lib.l10 (Lib.bitLen u) ≤ u
 ·rw [dT (by omega), if_pos c]
  simp only [cond_true, Option.bind_some]
  rw [w64 (by omega) (by omega)]; rfl
 ·rw [dF (by omega), if_neg c]
  simp only [cond_false, Option.bind_some]
  rw [w64 (by omega) (by omega)]; rfl
theorem sml_eq {u : Nat} (h : u < 100) : strconv_small (u : Int) = some (Lib.decDigits u) := by
 have : ∀ q : Fin 100, strconv_small (q.val : Int) = some (Lib.decDigits q.val) := by
  intro q
  have e : ∀ q : Fin 100, strconv_small (q.val : Int) = some (if q.val < 10 then [UInt8.ofNat (48 + q.val)] else [UInt8.ofNat (48 + q.val / 10), UInt8.ofNat (48 + q.val % 10)]) := by decide +kernel
  rw [e q]
  split
  ·rename_i c; rw [Lib.decDigits_one c]
  ·rename_i c; rw [Lib.decDigits_two c q.isLt]
 exact this ⟨u, h⟩
theorem appendU_eq {x0 : List Int} {u : Nat} (hu : u < 18446744073709551616) (hl : x0.length ≤ 4000000000) : strconv_AppendUint x0 (u : Int) 10 = some (x0 ++ bytesI (Lib.decDigits u)) := by
 have hd := Lib.nDigits_le20 u hu
 unfold strconv_AppendUint
 rw [dT rfl]
 simp only [cond_true]
 by_cases c : u < 100
 ·rw [dT (by omega), w64 (by omega) (by omega), sml_eq c]
  simp only [cond_true, Option.bind_some]
  rw [room_of (by rw [Lib.decDigits_length]; omega)]; rfl
 ·rw [dF (by omega), numDigits_eq (by omega) hu]
  simp only [cond_false, Option.bind_some]
  rw [inS_of (by omega) (by omega) (by omega)]
  simp only [cond_true]
  rw [fb_eq (by omega) rfl (Lib.lt_pow_nDigits u) hu]
  simp only [Option.bind_some]
  rw [inS_of (by omega) (by omega) (by simp [dgs_len, rep]; omega), roomB_of (by omega)]
  simp only [Bool.and_self, cond_true]
  congr 2
  rw [zcast, cut, dgs_eq]
  simp only [Int.toNat_natCast, Int.toNat_zero, List.drop_zero]
  rw [List.take_append_of_le_length (by simp [bytesI, Lib.decDigits_length])]
  exact List.take_of_length_le (by simp [bytesI, Lib.decDigits_length])
theorem append_int {x0 : List Int} {n : Int} (h0 : -9223372036854775808 ≤ n) (h1 : n ≤ 9223372036854775807) (hl : x0.length ≤ 3000000000) : strconv_AppendInt x0 n 10 = some (x0 ++ bytesI (Lib.itoa n)) := by
 unfold strconv_AppendInt strconv_AppendInt_208
 by_cases c : n < 0
 ·rw [dT c, room_of (by simp; omega)]
  simp only [cond_true, Option.bind_some]
  have e : IntKind.wrap .u64 (0 - IntKind.wrap .u64 n) = ((n.natAbs : Nat) : Int) := by
   unfold IntKind.wrap
   simp only [IntKind.signed, IntKind.bits, Bool.false_and, Bool.false_eq_true, if_false]
   omega
  rw [e, appendU_eq (by omega) (by simp; omega)]
  simp only [Option.bind_some]
  unfold Lib.itoa
  rw [if_pos c, List.append_assoc]; rfl
 ·rw [dF c]
  simp only [cond_false, Option.bind_some]
  have e : IntKind.wrap .u64 n = ((n.toNat : Nat) : Int) := by rw [wu64 (by omega) (by omega)]; omega
  rw [e, appendU_eq (by omega) (by omega)]
  simp only [Option.bind_some]
  unfold Lib.itoa
  rw [if_neg c]
/-! What is read of rules, classes, signs and affixes: it answers. -/
theorem app_t {x : List Int} {n : Int} (hn : inI n) (hl : x.length ≤ 2999999000) : Tot (strconv_AppendInt x n 10) (fun r => r.length ≤ x.length + 21) := by
 rw [append_int hn.1 hn.2 (by omega)]
 have := Lib.itoa_length_le n hn.1 hn.2
 exact tR (by simp [bytesI]; omega)
theorem rrel_t {x : List Int} {r : St150} (hr : relOk r) (hx : x.length ≤ 2950000000) : Tot (rule_relation x r) (fun o => o.length ≤ x.length + 18100) := by
 obtain ⟨h1, h2, h3⟩ := hr
 unfold rule_relation
 refine tY (room_of (by simp; omega)) (tB (p := fun o : List Int => o.length ≤ x.length + 25) ?_ (fun a ha => tB (p := fun o : List Int => o.length ≤ x.length + 29) ?_ (fun c hc => tB (p := fun o : List Int => o.length ≤ x.length + 18100) ?_ (fun _ h => tR h))))
 ·refine tI (fun _ => tY (room_of (by simp; omega)) (tB (app_t h1 (by simp [bytesI]; omega)) (fun a ha => tR (by simp [bytesI] at ha; omega)))) (fun _ => tR (by simp))
 ·refine tI (fun _ => tY (room_of (by simp; omega)) (tR (by simp [bytesI]; omega))) (fun _ => tY (room_of (by simp; omega)) (tR (by simp [bytesI]; omega)))
 ·refine tW (fun s : Int × List Int => s.1) r.R_.length (fun s => (s.2.length : Int) ≤ x.length + 29 + 45 * s.1) (by omega) ⟨by simp only; omega, Int.le_refl _, by simp⟩ (fun s hs g0 g1 => ?_) (fun s hs e => ?_)
  ·obtain ⟨m1, m2⟩ := h3 _ (nth_mem g0 g1)
   refine tY (dT g1) (tB (p := fun o : List Int => (o.length : Int) ≤ s.2.length + 45) (tY (inR_int g0 g1) (tB (p := fun o : List Int => (o.length : Int) ≤ s.2.length + 1) (tI (fun _ => tY (room_of (by simp; omega)) (tR (by simp))) (fun _ => tR (by omega))) (fun a ha => tB (app_t m1 (by omega)) (fun c hc => tI (fun _ => tY (room_of (by simp; omega)) (tB (app_t m2 (by simp [bytesI]; omega)) (fun d hd => tR (by simp [bytesI] at hd; omega)))) (fun _ => tR (by omega)))))) (fun a ha => tR ⟨?_, w64 (by omega) (by omega)⟩))
   rw [w64 (n := s.1 + 1) (by omega) (by omega)]
   simp only; omega
  ·refine tN (dF (by omega)) (tR (by omega))
theorem rtext_t {c : List (List St150)} (hc : condOk c) : Tot (rule_Text c) (fun _ => True) := by
 unfold rule_Text
 have hn := hc.1
 refine tB (p := fun _ => True) (tW (fun s : Int × List Int => s.1) c.length (fun s => (s.2.length : Int) ≤ 7242000 * s.1) (by omega) ⟨by simp, Int.le_refl _, by simp⟩ (fun s hs g0 g1 => ?_) (fun s hs e => tN (dF (by omega)) (tR trivial))) (fun _ _ => tR trivial)
 obtain ⟨m1, m2⟩ := hc.2 _ (nth_mem g0 g1)
 refine tY (dT g1) (tB (p := fun o : List Int => (o.length : Int) ≤ s.2.length + 7242000) (tY (inR_int g0 g1) (tW (fun u : Int × List Int => u.1) (nth c s.1).length (fun u => (u.2.length : Int) ≤ s.2.length + 18105 * u.1) (by omega) ⟨by simp, Int.le_refl _, by simp⟩ (fun u hu f0 f1 => ?_) (fun u hu e => tN (dF (by omega)) (tR (by omega))))) (fun o ho => tR ⟨?_, w64 (by omega) (by omega)⟩))
 ·refine tY (dT f1) (tB (p := fun o : List Int => (o.length : Int) ≤ u.2.length + 18105) (tY (inR_int f0 f1) (tB (p := fun o : List Int => (o.length : Int) ≤ u.2.length + 5) (tI (fun _ => tR (by omega)) (fun _ => tI (fun _ => tY (room_of (by simp; omega)) (tR (by simp [bytesI] <;> omega))) (fun _ => tY (room_of (by simp; omega)) (tR (by simp [bytesI] <;> omega))))) (fun a ha => tB (rrel_t (m2 _ (nth_mem f0 f1)) (by omega)) (fun d hd => tR (by omega))))) (fun o ho => tR ⟨?_, w64 (by omega) (by omega)⟩))
  rw [w64 (n := u.1 + 1) (by omega) (by omega)]
  simp only; omega
 ·rw [w64 (n := s.1 + 1) (by omega) (by omega)]
  simp only; omega
theorem eqrow_t {T : Type} {x y : List T} {k : Int → Option (Int ⊕ (Unit ⊕ Bool))} (hx : x.length ≤ 4294967296) (hk : ∀ s : Int, 0 ≤ s → s < x.length → x.length = y.length → Tot (k s) (fun o => o = .inl (IntKind.wrap .i64 (s + 1)) ∨ ∃ b, o = .inr (.inr b))) :
  Tot (bif decide (¬ (x.length : Int) = (y.length : Int)) then some false else Option.bind (loopN (fun s => bif decide (s < (x.length : Int)) then k s else some (.inr (.inl ()))) big 0) (joinX fun (_ : Unit) => some true)) (fun _ => True) := by
 refine tI (fun _ => tR trivial) (fun h => tJ (tW (fun s : Int => s) x.length (fun _ => True) hx ⟨trivial, Int.le_refl _, by simp⟩ (fun s _ g0 g1 => tY (dT g1) ?_) (fun s _ e => tN (dF (by omega)) (tR (tR trivial)))))
 have h := dFF h
 refine (hk s g0 g1 (by omega)).mono (fun o ho => ?_)
 rcases ho with rfl | ⟨b, rfl⟩
 ·exact ⟨trivial, w64 (by omega) (by omega)⟩
 ·trivial
theorem eqR_t {x y : List St185} (hx : x.length ≤ 4294967296) : Tot (slices_Equal_199 x y) (fun _ => True) := by
 unfold slices_Equal_199
 exact eqrow_t hx (fun s g0 g1 e => tY (inR_int g0 g1) (tY (inR_int g0 (by omega)) (tI (fun _ => tR (.inr ⟨_, rfl⟩)) (fun _ => tR (.inl rfl)))))
theorem eqI_t {x y : List Int} (hx : x.length ≤ 4294967296) : Tot (slices_Equal x y) (fun _ => True) := by
 unfold slices_Equal
 exact eqrow_t hx (fun s g0 g1 e => tY (inR_int g0 g1) (tY (inR_int g0 (by omega)) (tI (fun _ => tR (.inr ⟨_, rfl⟩)) (fun _ => tR (.inl rfl)))))
theorem rsame_t {c d : List (List St150)} (hc : condOk c) : Tot (rule_Same c d) (fun _ => True) := by
 unfold rule_Same api_Rel__s0
 refine tB (eqrow_t (Nat.le_trans hc.1 (by decide)) (fun s g0 g1 e => tY (inR_int g0 g1) (tY (inR_int g0 (by omega)) (tB (p := fun _ => True) ?_ (fun _ _ => tI (fun _ => tR (.inr ⟨_, rfl⟩)) (fun _ => tR (.inl rfl))))))) (fun _ _ => tR trivial)
 have hm := hc.2 _ (nth_mem g0 g1)
 unfold rule_Same_1 api_Rel__179_s0
 refine tB (eqrow_t (Nat.le_trans hm.1 (by decide)) (fun u f0 f1 e => tY (inR_int f0 f1) (tY (inR_int f0 (by omega)) (tB (p := fun _ => True) ?_ (fun _ _ => tI (fun _ => tR (.inr ⟨_, rfl⟩)) (fun _ => tR (.inl rfl))))))) (fun _ _ => tR trivial)
 have hr := (hm.2 _ (nth_mem f0 f1)).2.1
 unfold rule_sameRel
 refine tB (p := fun _ => True) (tI (fun _ => tI (fun _ => tI (fun _ => tB (eqR_t (Nat.le_trans hr (by decide))) (fun _ _ => tR trivial)) (fun _ => tR trivial)) (fun _ => tR trivial)) (fun _ => tR trivial)) (fun _ _ => tR trivial)
theorem rright_t {c : List (List St150)} (hc : condOk c) : Tot (rule_Right c) (fun _ => True) := by
 unfold rule_Right
 exact tB (rtext_t hc) (fun t _ => tB (rparse_t t) (fun d _ => tB (p := fun _ => True) (tI (fun _ => tB (rsame_t hc) (fun _ _ => tR trivial)) (fun _ => tR trivial)) (fun _ _ => tR trivial)))
theorem pread_t {l : List St91} (hl : l.length ≤ 1000) : Tot (plur_Read l) (fun _ => True) := by
 unfold plur_Read
 refine tJ (tW (fun s : Int × Int × List St103 => s.2.1) l.length (fun s => (s.2.2.length : Int) ≤ s.2.1) (by omega) ⟨by simp, Int.le_refl _, by simp⟩ (fun s hs g0 g1 => tY (dT g1) ?_) (fun s hs e => tN (dF (by omega)) (tR (tR trivial))))
 have e1 : IntKind.wrap .i64 (s.2.1 + 1) = s.2.1 + 1 := w64 (by omega) (by omega)
 rw [e1]
 refine tJ (tY (inR_int g0 g1) ?_)
 refine tB (p := fun _ => True) ?_ (fun y _ => ?_)
 ·unfold plur_rises plur_names
  exact tB (p := fun _ => True) (tI (fun _ => tR trivial) (fun _ => tR trivial)) (fun _ _ => tR trivial)
 refine tI (fun _ => tR trivial) (fun _ => ?_)
 refine tB (rparse_t _) (fun c hc => ?_)
 refine tJ (tB (p := fun _ => True) (tI (fun _ => tR trivial) (fun _ => tB (rright_t hc) (fun _ _ => tR trivial))) (fun _ _ => ?_))
 refine tI (fun _ => tR trivial) (fun _ => tR (show Tot _ _ from ?_))
 exact tY (room_of (by simp; omega)) (tR (show Tot _ _ from tR ⟨by simp; omega, rfl⟩))
theorem value_t (x : Int) : Tot (class_Value x) (fun _ => True) := by
 unfold class_Value
 refine tJ (tW (fun s : Int => s) 20 (fun _ => True) (by decide) ⟨trivial, Int.le_refl _, by decide⟩ (fun s _ g0 g1 => tY (dT (by omega)) (tJ (tY (inR_int g0 g1) (tB (p := fun _ => True) (tI (fun _ => tR trivial) (fun _ => tR trivial)) (fun _ _ => tI (fun _ => tR trivial) (fun _ => tR (show Tot _ _ from tR ⟨trivial, w64 (by omega) (by omega)⟩))))))) (fun s _ e => tN (dF (by omega)) (tR (tR trivial))))
theorem isr_t (x : Int) : Tot (utf_Is x) (fun _ => True) := by
 unfold utf_Is
 refine tB (p := fun _ => True) ?_ (fun _ _ => tR trivial)
 repeat' (first | exact tR trivial | refine tI (fun _ => ?_) (fun _ => ?_))
theorem table_t (x : Int) : Tot (class_table__class_s0 x rngs) (fun r => r.2 = rngs) := by
 rw [table_any (List.Perm.refl _)]
 exact tB (isr_t x) (fun _ _ => tI (fun _ => tR rfl) (fun _ => tI (fun _ => tR rfl) (fun _ => tI (fun _ => tR rfl) (fun _ => tB (value_t x) (fun _ _ => tI (fun _ => tR rfl) (fun _ => tR rfl))))))
theorem of_t (x : Int) : Tot (class_Of x) (fun _ => True) := by
 unfold class_Of
 refine tB (p := fun y => y = rngs) ⟨_, rfl, rfl⟩ (fun y hy => ?_)
 subst hy
 exact tB (table_t x) (fun _ _ => tR trivial)
theorem ccalm_t {l : List Int} (hl : l.length ≤ 4294967296) : Tot (class_Calm l) (fun _ => True) := by
 unfold class_Calm
 refine tB (p := fun y => y = rngs) ⟨_, rfl, rfl⟩ (fun y hy => ?_)
 subst hy
 refine tJ (tW (fun s : Int × List (St196 × Int) => s.1) l.length (fun s => s.2 = rngs) hl ⟨rfl, Int.le_refl _, by simp⟩ (fun s hs g0 g1 => tY (dT g1) (tJ (tY (inR_int g0 g1) (by
  rw [hs]
  exact tB (table_t _) (fun y hy => tB (p := fun _ => True) (by repeat' (first | exact tR trivial | refine tI (fun _ => ?_) (fun _ => ?_))) (fun _ _ => tI (fun _ => tR (show Tot _ _ from tR ⟨hy, w64 (by omega) (by omega)⟩)) (fun _ => tR trivial))))))) (fun s _ e => tN (dF (by omega)) (tR (tR trivial))))
theorem turns_t {l : List Int} (hl : l.length ≤ 4294967296) : Tot (class_Turns l) (fun _ => True) := by
 unfold class_Turns
 refine tJ (tW (fun s : Int × Int => s.2) l.length (fun _ => True) hl ⟨trivial, Int.le_refl _, by simp⟩ (fun s _ g0 g1 => tY (dT g1) (tJ (tY (inR_int g0 g1) ?_))) (fun s _ e => tN (dF (by omega)) (tR (tR trivial))))
 have e : IntKind.wrap .i64 (s.2 + 1) = s.2 + 1 := w64 (by omega) (by omega)
 have two : ∀ b c : Bool, Tot (bif b then some c else some false) (fun _ => True) := fun b c => tI (fun _ => tR trivial) (fun _ => tR trivial)
 exact tB (two _ _) (fun _ _ => tI (fun _ => tR trivial) (fun _ => tB (two _ _) (fun _ _ => tI (fun _ => tR (show Tot _ _ from tR ⟨trivial, e⟩)) (fun _ => tB (two _ _) (fun _ _ => tI (fun _ => tR trivial) (fun _ => tI (fun _ => tR (show Tot _ _ from tR ⟨trivial, e⟩)) (fun _ => tR (show Tot _ _ from tR ⟨trivial, e⟩))))))))
theorem betw_t (s : St22) (x : Int) : Tot (sym_between s x) (fun _ => True) := by
 unfold sym_between
 exact tB (p := fun _ => True) (tI (fun _ => tR trivial) (fun _ => tI (fun _ => tR trivial) (fun _ => tR trivial))) (fun _ _ => tR trivial)
theorem scalm_t {s : St22} {l : List Int} (hl : l.length ≤ 4294967296) : Tot (sym_Calm s l) (fun _ => True) := by
 unfold sym_Calm
 refine tJ (tW (fun s : Int => s) l.length (fun _ => True) hl ⟨trivial, Int.le_refl _, by simp⟩ (fun i _ g0 g1 => tY (dT g1) (tJ (tY (inR_int g0 g1) (tB (value_t _) (fun _ _ => tB (p := fun _ => True) (tI (fun _ => tR trivial) (fun _ => tB (betw_t _ _) (fun _ _ => tR trivial))) (fun _ _ => tI (fun _ => tR trivial) (fun _ => tR (show Tot _ _ from tR ⟨trivial, w64 (by omega) (by omega)⟩)))))))) (fun i _ e => tN (dF (by omega)) (tR (show Tot _ _ from ?_))))
 exact tB (p := fun _ => True) (tB (ccalm_t hl) (fun _ _ => tI (fun _ => tB (turns_t hl) (fun _ _ => tR trivial)) (fun _ => tR trivial))) (fun _ _ => tR trivial)
theorem clone_t {l : List Int} (hl : l.length ≤ 4294967296) : Tot (slices_Clone l) (fun r => r.length ≤ l.length) := by
 unfold slices_Clone
 refine tI (fun h => ?_) (fun _ => tY (room_of hl) (tR (Nat.le_refl _)))
 obtain rfl := List.eq_nil_of_length_eq_zero (Nat.eq_of_beq_eq_true h)
 exact ⟨[], by show agree (some []) (some []) = _; simp [agree], by simp⟩
theorem clonet_t {l : List St106} (hl : l.length ≤ 4294967296) : Tot (api_Tok__191 l) (fun r => r.length ≤ l.length) := by
 unfold api_Tok__191
 refine tI (fun h => ?_) (fun _ => tY (room_of hl) (tR (Nat.le_refl _)))
 obtain rfl := List.eq_nil_of_length_eq_zero (Nat.eq_of_beq_eq_true h)
 exact ⟨[], by show agree (some []) (some []) = _; simp [agree], by simp⟩
def affP (a : St63) : Prop := a.Pre_.length ≤ 1000000 ∧ a.Suf_.length ≤ 1000000
theorem acalm_t {s : St22} {a : St63} (ha : affP a) : Tot (affix_Calm s a) (fun _ => True) := by
 unfold affix_Calm
 obtain ⟨h1, h2⟩ := ha
 exact tB (clone_t (by omega)) (fun c hc => tY (room_of (by omega)) (tB (scalm_t (by simp; omega)) (fun _ _ => tR trivial)))
theorem asame_t {a c : St63} (ha : affP a) : Tot (affix_Same a c) (fun _ => True) := by
 unfold affix_Same
 exact tB (p := fun _ => True) (tB (eqI_t (Nat.le_trans ha.1 (by decide))) (fun _ _ => tI (fun _ => tB (eqI_t (Nat.le_trans ha.2 (by decide))) (fun _ _ => tR trivial)) (fun _ => tR trivial))) (fun _ _ => tR trivial)
theorem count_t {l : List St106} {k : Int} (hl : l.length ≤ 4294967296) : Tot (affix_Count l k) (fun _ => True) := by
 unfold affix_Count
 refine tB (p := fun _ => True) (tW (fun s : Int × Int => s.2) l.length (fun _ => True) hl ⟨trivial, Int.le_refl _, by simp⟩ (fun s _ g0 g1 => tY (dT g1) (tB (p := fun _ => True) (tY (inR_int g0 g1) (tI (fun _ => tR trivial) (fun _ => tR trivial))) (fun _ _ => tR ⟨trivial, w64 (by omega) (by omega)⟩))) (fun s _ e => tN (dF (by omega)) (tR trivial))) (fun _ _ => tR trivial)
theorem led_t {l put : List St106} (hl : l.length ≤ 1000) (hp : put.length ≤ 1) : Tot (affix_led l put) (fun r => r.length ≤ 1001) := by
 unfold affix_led
 exact tB (clonet_t (by omega)) (fun c hc => tY (room_of (by omega)) (tR (by simp; omega)))
theorem setAt_le {T : Type} (l : List T) (i : Int) (x : T) : (setAt l i x).length = l.length := by simp [setAt]
theorem turned_t {l : List St106} (hl : l.length ≤ 1000) : Tot (affix_turned l) (fun r => r.length ≤ 1001) := by
 unfold affix_turned
 refine tB (clonet_t (by omega)) (fun c hc => tB (p := fun r : List St106 => r.length ≤ 1001) (tW (fun s : Int × List St106 => s.1) c.length (fun s => s.2.length = c.length) (by omega) ⟨rfl, Int.le_refl _, by simp⟩ (fun s hs g0 g1 => tY (dT g1) ?_) (fun s hs e => tN (dF (by omega)) (tR (by simp only; omega)))) (fun _ h => tR h))
 have hi : inR s.1 s.2.length = true := inR_int g0 (by omega)
 refine tB (p := fun r : List St106 => r.length = c.length) (tY hi (tY hi (tI (fun _ => tY hi (tY hi (tR (by rw [setAt_le]; exact hs)))) (fun _ => tR hs)))) (fun r hr => tR ⟨hr, w64 (by omega) (by omega)⟩)
theorem signed_t {p : St32} (hp : lenP p 1000) (s : Int) : Tot (affix_Signed p s) (fun r => r.1.length ≤ 1001 ∧ r.2.length ≤ 1001) := by
 unfold affix_Signed
 obtain ⟨p1, p2, p3, p4⟩ := hp
 have c1 : ([] : List St106).length ≤ 1 := by simp
 have c2 : ∀ t : St106, ([t] : List St106).length ≤ 1 := fun t => by simp
 have two : ∀ {x y : List St106} {a : List St106}, x.length ≤ 1000 → y.length ≤ 1000 → a.length ≤ 1 → Tot (Option.bind (affix_led x a) fun y0 => Option.bind (affix_led y []) fun y1 => some (y0, y1)) (fun r => r.1.length ≤ 1001 ∧ r.2.length ≤ 1001) := fun hx hy ha => tB (led_t hx ha) (fun a ha => tB (led_t hy c1) (fun c hc => tR ⟨ha, hc⟩))
 refine tI (fun _ => tI (fun _ => two p3 p4 c1) (fun _ => two p1 p2 (c2 _))) (fun _ => tI (fun _ => ?_) (fun _ => two p1 p2 c1))
 refine tJ (tB (p := fun _ => True) (tI (fun _ => tB (count_t (by omega)) (fun _ _ => tB (count_t (by omega)) (fun _ _ => tR trivial))) (fun _ => tR trivial)) (fun _ _ => tI (fun _ => tB (turned_t p3) (fun a ha => tB (turned_t p4) (fun c hc => tR ⟨ha, hc⟩))) (fun _ => tR (two p1 p2 (c2 _)))))
theorem resolve_t {l : List St106} {s : St22} {cur : List Int} (hl : l.length ≤ 1001) (hc : cur.length ≤ 900) : Tot (affix_Resolve l s cur) (fun r => r.length ≤ 1000000) := by
 unfold affix_Resolve
 refine tB (show Tot (affix_resolved_s0 s cur) (fun _ => True) from tR trivial) (fun _ _ => tB (p := fun r : List Int => r.length ≤ 1000000) (tW (fun s : Int × List Int => s.1) l.length (fun s => (s.2.length : Int) ≤ 900 * s.1) (by omega) ⟨by simp, Int.le_refl _, by simp⟩ (fun u hu g0 g1 => tY (dT g1) ?_) (fun u hu e => tN (dF (by omega)) (tR (by simp only; omega)))) (fun _ h => tR h))
 have one : ∀ x : Int, Tot (bif room (u.2.length + ([x] : List Int).length) then some (u.2 ++ [x]) else none) (fun r : List Int => (r.length : Int) ≤ u.2.length + 900) := fun x => tY (room_of (by simp; omega)) (tR (by simp <;> omega))
 refine tB (p := fun r : List Int => (r.length : Int) ≤ u.2.length + 900) (tY (inR_int g0 g1) (tI (fun _ => one _) (fun _ => tI (fun _ => one _) (fun _ => tI (fun _ => one _) (fun _ => tI (fun _ => one _) (fun _ => tI (fun _ => tY (room_of (by omega)) (tR (by simp; omega))) (fun _ => tY (room_of (by simp; omega)) (tR (by simp; omega))))))))) (fun r hr => tR ⟨?_, w64 (by omega) (by omega)⟩)
 rw [w64 (n := u.1 + 1) (by omega) (by omega)]
 simp only; omega
theorem aof_t {p : St32} {s : St22} {g : Int} {cur : List Int} (hp : lenP p 1000) (hc : cur.length ≤ 900) : Tot (affix_Of p s g cur) affP := by
 unfold affix_Of
 exact tB (signed_t hp g) (fun a ha => tB (resolve_t ha.1 hc) (fun c hc1 => tB (resolve_t ha.2 hc) (fun d hd => tR ⟨hc1, hd⟩)))
/-! The check of a locale: it answers. -/
theorem pieced_t {a c : List St106} {s m : Int} (ha : a.length ≤ 1000) (hc : c.length ≤ 1000) : Tot (loc_pieced a c s m) (fun _ => True) := by
 have one : ∀ k : Int, Tot (loc_pieced_1_s0 k a c) (fun _ => True) := fun k => by
  unfold loc_pieced_1_s0
  exact tB (count_t (by omega)) (fun _ _ => tB (count_t (by omega)) (fun _ _ => tR trivial))
 unfold loc_pieced
 refine tB (p := fun _ => True) (tI (fun _ => tR trivial) (fun _ => tI (fun _ => tR trivial) (fun _ => tR trivial))) (fun _ _ => tB (p := fun _ => True) (tB (one _) (fun _ _ => tI (fun _ => tB (one _) (fun _ _ => tI (fun _ => tB (one _) (fun _ _ => tI (fun _ => tB (one _) (fun _ _ => tR trivial)) (fun _ => tR trivial))) (fun _ => tR trivial))) (fun _ => tR trivial))) (fun _ _ => tR trivial))
def aroP (a : St124) : Prop := affP a.a0_ ∧ affP a.a1_ ∧ affP a.a2_
theorem around_t {s : St22} {p : St32} {cur : List Int} (hp : lenP p 1000) (hc : cur.length ≤ 900) : Tot (loc_around s p cur) aroP := by
 unfold loc_around
 exact tB (aof_t hp hc) (fun a ha => tB (aof_t hp hc) (fun c hc1 => tB (aof_t hp hc) (fun d hd => tR ⟨ha, hc1, hd⟩)))
theorem told_t {s : St22} {p : St32} {cur : List Int} (hp : lenP p 1000) (hc : cur.length ≤ 900) : Tot (loc_toldApart s p cur) (fun _ => True) := by
 unfold loc_toldApart
 refine tB (around_t hp hc) (fun a ha => tJ (tL (fun i : Int => 0 ≤ i ∧ i ≤ 3) (fun i => (3 - i).toNat) (by omega) (by decide) (fun i hi => ?_)))
 have st : ∀ {a : St63} (k : Int), affP a → 0 ≤ k ∧ k < 3 ∧ i = k → IntKind.wrap .i64 (k + 1) = k + 1 → Tot (Option.bind (affix_Calm s a) fun y1 => bif !y1 then some (.inr (.inr false)) else some (.inl (IntKind.wrap .i64 (k + 1)))) (fun x : Int ⊕ (Unit ⊕ Bool) => match x with | .inl s' => (0 ≤ s' ∧ s' ≤ 3) ∧ (3 - s').toNat < (3 - i).toNat | .inr o => True) := fun {a} k ha hk e => tB (acalm_t ha) (fun _ _ => tI (fun _ => tR trivial) (fun _ => tR (by rw [e]; simp only; omega)))
 have fin : Tot (Option.bind (Option.bind (affix_Same a.a0_ a.a1_) fun y4 => bif !y4 then Option.bind (affix_Same a.a1_ a.a2_) fun y5 => some (!y5) else some false) fun s1 => some s1) (fun _ => True) := tB (p := fun _ => True) (tB (asame_t ha.1) (fun _ _ => tI (fun _ => tB (asame_t ha.2.1) (fun _ _ => tR trivial)) (fun _ => tR trivial))) (fun _ _ => tR trivial)
 refine Tot.mono (p := fun x : Int ⊕ (Unit ⊕ Bool) => match x with | .inl s' => (0 ≤ s' ∧ s' ≤ 3) ∧ (3 - s').toNat < (3 - i).toNat | .inr o => True) ?_ (fun x hx => ?_)
 ·refine tI (fun h => tI (fun h0 => st 0 ha.1 ⟨by omega, by omega, dTT h0⟩ (by decide)) (fun h0 => tI (fun h1 => st 1 ha.2.1 ⟨by omega, by omega, dTT h1⟩ (by decide)) (fun h1 => tI (fun h2 => st 2 ha.2.2 ⟨by omega, by omega, dTT h2⟩ (by decide)) (fun h2 => ?_)))) (fun _ => tR trivial)
  have := dTT h; have := dFF h0; have := dFF h1; have := dFF h2; omega
 ·match x, hx with
  | .inl _, h => exact h
  | .inr (.inl _), _ => exact fin
  | .inr (.inr _), _ => trivial
theorem cont_t {l : List Int} {x : Int} (hl : l.length ≤ 4294967296) : Tot (slices_Contains l x) (fun _ => True) := by
 unfold slices_Contains slices_Index
 exact tB (p := fun _ => True) (tJ (tW (fun s : Int => s) l.length (fun _ => True) hl ⟨trivial, Int.le_refl _, by simp⟩ (fun i _ g0 g1 => tY (dT g1) (tY (inR_int g0 g1) (tI (fun _ => tR trivial) (fun _ => tR ⟨trivial, w64 (by omega) (by omega)⟩)))) (fun i _ e => tN (dF (by omega)) (tR (tR trivial))))) (fun _ _ => tR trivial)
theorem innum_t (s : St22) (x : Int) : Tot (sym_InNumber s x) (fun _ => True) := by
 unfold sym_InNumber
 refine tB (p := fun _ => True) ?_ (fun _ _ => tB (p := fun _ => True) (tI (fun _ => tR trivial) (fun _ => tB (betw_t _ _) (fun _ _ => tR trivial))) (fun _ _ => tR trivial))
 unfold sym_Value
 exact tJ (tB (p := fun _ => True) (tI (fun _ => tR trivial) (fun _ => tR trivial)) (fun _ _ => tI (fun _ => tR trivial) (fun _ => tR (tR trivial))))
theorem padded_t {s : St22} {p : St32} (hp : lenP p 1000) : Tot (loc_padded s p) (fun _ => True) := by
 unfold loc_padded
 refine tI (fun _ => tR trivial) (fun _ => tB (of_t _) (fun _ _ => tJ (tB (p := fun _ => True) (tI (fun _ => tI (fun _ => tR trivial) (fun _ => tB (innum_t _ _) (fun _ _ => tR trivial))) (fun _ => tB (innum_t _ _) (fun _ _ => tR trivial))) (fun _ _ => tI (fun _ => tR trivial) (fun _ => tR (show Tot _ _ from ?_))))))
 refine tJ (tB (around_t hp (by simp)) (fun a ha => tL (fun i : Int => 0 ≤ i ∧ i ≤ 3) (fun i => (3 - i).toNat) (by omega) (by decide) (fun i hi => ?_)))
 have st : ∀ {a : St63}, affP a → Tot (Option.bind (slices_Contains a.Pre_ p.Pad_) fun y4 => bif y4 then some true else Option.bind (slices_Contains a.Suf_ p.Pad_) fun y5 => some y5) (fun _ => True) := fun ha => tB (cont_t (Nat.le_trans ha.1 (by decide))) (fun _ _ => tI (fun _ => tR trivial) (fun _ => tB (cont_t (Nat.le_trans ha.2 (by decide))) (fun _ _ => tR trivial)))
 refine tI (fun h => tJ (Tot.mono (p := fun x : Int ⊕ (Int ⊕ (Unit ⊕ Bool)) => match x with | .inl s' => s' = i | .inr (.inl _) => False | .inr (.inr (.inl _)) => False | .inr (.inr (.inr _)) => True) ?_ (fun x hx => ?_))) (fun _ => tR (tR trivial))
 ·refine tI (fun h0 => tB (st ha.1) (fun _ _ => tI (fun _ => tR trivial) (fun _ => tR (dTT h0).symm))) (fun h0 => tI (fun h1 => tB (st ha.2.1) (fun _ _ => tI (fun _ => tR trivial) (fun _ => tR (dTT h1).symm))) (fun h1 => tI (fun h2 => tB (st ha.2.2) (fun _ _ => tI (fun _ => tR trivial) (fun _ => tR (dTT h2).symm))) (fun h2 => ?_)))
  have := dTT h; have := dFF h0; have := dFF h1; have := dFF h2; omega
 ·match x, hx with
  | .inl s', e =>
   have := dTT h
   subst e
   refine tR ?_
   rw [w64 (n := s' + 1) (by omega) (by omega)]
   exact ⟨by omega, by omega⟩
  | .inr (.inr (.inr _)), _ => trivial
theorem lread_t {t : List UInt8} (ht : t.length ≤ 100000) : Tot (loc_read t) (fun r => lenP r.1 1000) := by
 unfold loc_read
 refine tB (parse_t ht) (fun y hy => ?_)
 have hy : lenP y.1 1000 := ⟨by have := hy.1; omega, by have := hy.2.1; omega, by have := hy.2.2.1; omega, by have := hy.2.2.2; omega⟩
 exact tB (p := fun _ => True) (tI (fun _ => tB (right_t hy) (fun _ _ => tR trivial)) (fun _ => tR trivial)) (fun _ _ => tR hy)
theorem numd_t (p : St32) (s : Int) : Tot (loc_numbered p s) (fun _ => True) := by
 unfold loc_numbered
 repeat' (first | exact tR trivial | refine tI (fun _ => ?_) (fun _ => ?_) | refine tB (p := fun _ => True) ?_ (fun _ _ => ?_))
theorem lenP0 : ∀ {a c d e : List St106}, a = [] → c = [] → d = [] → e = [] → lenP (⟨a, c, d, e, false, 0, 0, 0, 0, 0, 0, 0, 0, 0, false, 0, 0⟩ : St32) 1000 := by
 rintro _ _ _ _ rfl rfl rfl rfl; exact ⟨by simp, by simp, by simp, by simp⟩
theorem pattern_tot {s : St22} {k : Int} {t : List UInt8} (ht : t.length ≤ 100000) : Tot (loc_Pattern s k t) (fun r => lenP r.1 1000) := by
 have z := lenP0 rfl rfl rfl rfl
 unfold loc_Pattern
 refine tB (lread_t ht) (fun y hy => ?_)
 obtain ⟨h1, h2, h3, h4⟩ := id hy
 refine tJ (tB (p := fun _ => True) (tI (fun _ => tR trivial) (fun _ => tI (fun _ => tR trivial) (fun _ => tR trivial))) (fun _ _ => tI (fun _ => tR z) (fun _ => tR (show Tot _ _ from ?_))))
 refine tJ (tB (p := fun _ => True) (tB (numd_t _ _) (fun _ _ => tI (fun _ => tR trivial) (fun _ => tB (pieced_t h1 h2) (fun _ _ => tI (fun _ => tR trivial) (fun _ => tI (fun _ => tB (pieced_t h3 h4) (fun _ _ => tR trivial)) (fun _ => tR trivial)))))) (fun _ _ => tI (fun _ => tR z) (fun _ => tR (show Tot _ _ from ?_))))
 exact tJ (tB (p := fun _ => True) (tB (told_t hy (by simp)) (fun _ _ => tI (fun _ => tR trivial) (fun _ => tB (padded_t hy) (fun _ _ => tR trivial)))) (fun _ _ => tI (fun _ => tR z) (fun _ => tR (show Tot _ _ from tR hy))))
theorem name_t (c : Int) : Tot (plur_Name c) (fun _ => True) := by
 unfold plur_Name
 refine tB (p := fun _ => True) (by unfold plur_names; exact tR trivial) (fun _ _ => tJ (tB (p := fun b => b = false → 0 ≤ c ∧ c < 6) (tI (fun _ => tR (fun h => by cases h)) (fun h => tR (fun h2 => ?_))) (fun b hb => tI (fun _ => tR trivial) (fun e => tR (show Tot _ _ from ?_)))))
 ·have := dFF h; have := dFF h2; omega
 ·have := hb e
  refine tI (fun _ => tR trivial) (fun h0 => tI (fun _ => tR trivial) (fun h1 => tI (fun _ => tR trivial) (fun h2 => tI (fun _ => tR trivial) (fun h3 => tI (fun _ => tR trivial) (fun h4 => tI (fun _ => tR trivial) (fun h5 => ?_))))))
  have := dFF h0; have := dFF h1; have := dFF h2; have := dFF h3; have := dFF h4; have := dFF h5; omega
theorem short_t {s : St22} {c : St25} (ht : c.Pat_.length ≤ 100000) : Tot (loc_Short s c) (fun r => lenP r.1 1000) := by
 have z := lenP0 rfl rfl rfl rfl
 unfold loc_Short
 refine tB (lread_t ht) (fun y hy => ?_)
 obtain ⟨h1, h2, h3, h4⟩ := id hy
 refine tJ (tB (p := fun _ => True) (tI (fun _ => tR trivial) (fun _ => tI (fun _ => tR trivial) (fun _ => tI (fun _ => tR trivial) (fun _ => tB (name_t _) (fun _ _ => tR trivial))))) (fun _ _ => tI (fun _ => tR z) (fun _ => tR (show Tot _ _ from ?_))))
 refine tJ (tB (p := fun _ => True) (tI (fun _ => tR trivial) (fun _ => tI (fun _ => tR trivial) (fun _ => tI (fun _ => tR trivial) (fun _ => tR trivial)))) (fun _ _ => tI (fun _ => tR z) (fun _ => tR (show Tot _ _ from tI (fun _ => tR z) (fun _ => ?_)))))
 exact tJ (tB (p := fun _ => True) (tB (pieced_t h1 h2) (fun _ _ => tI (fun _ => tR trivial) (fun _ => tB (told_t hy (by simp)) (fun _ _ => tR trivial)))) (fun _ _ => tI (fun _ => tR z) (fun _ => tR (show Tot _ _ from tR hy))))
theorem money_t {s : St22} {p : St32} {g : List Int} (hp : lenP p 1000) (hg : g.length ≤ 100000) : Tot (loc_Money s p g) (fun _ => True) := by
 unfold loc_Money
 refine tJ (tB (p := fun b => b = false → g.length ≤ 20) (tI (fun _ => tR (fun h => by cases h)) (fun _ => tI (fun _ => tR (fun h => by cases h)) (fun h => tB (scalm_t (by omega)) (fun _ _ => tR (fun _ => by have := dFF h; omega))))) (fun b hb => tI (fun _ => tR trivial) (fun e => tR (show Tot _ _ from ?_))))
 exact tJ (tB (p := fun _ => True) (tI (fun _ => tB (cont_t (by omega)) (fun _ _ => tR trivial)) (fun _ => tR trivial)) (fun _ _ => tI (fun _ => tR trivial) (fun _ => tR (show Tot _ _ from tB (told_t hp (by have := hb e; omega)) (fun _ _ => tR trivial)))))
theorem cap_t (c : Int) : Tot (loc_capital c) (fun _ => True) := by
 unfold loc_capital
 exact tB (p := fun _ => True) (tI (fun _ => tR trivial) (fun _ => tR trivial)) (fun _ _ => tR trivial)
theorem code_t (t : List UInt8) : Tot (loc_code t) (fun _ => True) := by
 unfold loc_code
 refine tI (fun _ => tR trivial) (fun h => ?_)
 have h := dFF h
 have hL : (bytesI t).length = t.length := bytesI_len t
 exact tJ (tW (fun s : Int => s) (bytesI t).length (fun _ => True) (by omega) ⟨trivial, Int.le_refl _, by simp⟩ (fun i _ g0 g1 => tY (dT g1) (tY (inR_int g0 g1) (tB (cap_t _) (fun _ _ => tI (fun _ => tR trivial) (fun _ => tR ⟨trivial, w64 (by omega) (by omega)⟩))))) (fun i _ e => tN (dF (by omega)) (tR (tR trivial))))
theorem tag_t (t : List UInt8) : Tot (loc_Tag t) (fun _ => True) := by
 unfold loc_Tag
 refine tJ (tB (p := fun b => b = false → t.length ≤ 20) (tI (fun _ => tR (fun h => by cases h)) (fun _ => tR (fun h => by have := dFF h; omega))) (fun b hb => tI (fun _ => tR trivial) (fun e => tR (show Tot _ _ from ?_))))
 have := hb e
 have hL : (bytesI t).length = t.length := bytesI_len t
 refine tJ (tW (fun s : Int => s) (bytesI t).length (fun _ => True) (by omega) ⟨trivial, Int.le_refl _, by simp⟩ (fun i _ g0 g1 => tY (dT g1) (tJ (tY (inR_int g0 g1) (tB (p := fun _ => True) (tB (p := fun _ => True) ?_ (fun _ _ => ?_)) (fun _ _ => tI (fun _ => tR trivial) (fun _ => tR (show Tot _ _ from tR ⟨trivial, w64 (by omega) (by omega)⟩))))))) (fun i _ e => tN (dF (by omega)) (tR (tR trivial))))
 ·unfold loc_letter
  exact tB (p := fun _ => True) (tI (fun _ => tI (fun _ => tR trivial) (fun _ => tB (cap_t _) (fun _ _ => tR trivial))) (fun _ => tB (cap_t _) (fun _ _ => tR trivial))) (fun _ _ => tR trivial)
 ·repeat' (first | exact tR trivial | refine tI (fun _ => ?_) (fun _ => ?_))
theorem good_t (s : St22) : Tot (sym_Good s) (fun _ => True) := by
 unfold sym_Good
 refine tB (p := fun _ => True) ?_ (fun _ _ => tI (fun _ => tR trivial) (fun _ => tJ (tB (p := fun _ => True) ?_ (fun ms _ => tJ (Tot.mono (mapRun_one (p := fun x : Unit ⊕ Bool => x = .inr false) (fun e => ?_) ms (fun a _ c _ h1 h2 => ?_)) (fun x hx => ?_))))))
 ·unfold class_Zero
  exact tB (value_t _) (fun _ _ => tB (p := fun _ => True) (tI (fun _ => tR trivial) (fun _ => tR trivial)) (fun _ _ => tR trivial))
 ·unfold sym_apart_s0
  refine tB (p := fun _ => True) (tL (fun s : Int × List (Int × Int) => 0 ≤ s.1 ∧ s.1 ≤ 6) (fun s => (6 - s.1).toNat) (by decide) (by decide) (fun i hi => tI (fun h => ?_) (fun _ => tR trivial))) (fun _ _ => tR trivial)
  have st : ∀ k : Int, 0 ≤ k ∧ k < 6 ∧ i.1 = k → IntKind.wrap .i64 (k + 1) = k + 1 → (0 ≤ IntKind.wrap .i64 (k + 1) ∧ IntKind.wrap .i64 (k + 1) ≤ 6) ∧ (6 - IntKind.wrap .i64 (k + 1)).toNat < (6 - i.1).toNat := fun k hk e => by rw [e]; omega
  refine tI (fun h0 => tR (st 0 ⟨by omega, by omega, dTT h0⟩ (by decide))) (fun h0 => tI (fun h1 => tR (st 1 ⟨by omega, by omega, dTT h1⟩ (by decide))) (fun h1 => tI (fun h2 => tR (st 2 ⟨by omega, by omega, dTT h2⟩ (by decide))) (fun h2 => tI (fun h3 => tR (st 3 ⟨by omega, by omega, dTT h3⟩ (by decide))) (fun h3 => tI (fun h4 => tR (st 4 ⟨by omega, by omega, dTT h4⟩ (by decide))) (fun h4 => tI (fun h5 => tR (st 5 ⟨by omega, by omega, dTT h5⟩ (by decide))) (fun h5 => ?_))))))
  have := dTT h; have := dFF h0; have := dFF h1; have := dFF h2; have := dFF h3; have := dFF h4; have := dFF h5; omega
 ·obtain ⟨v, hv, _⟩ := of_t e.1
  simp only [hv, Option.bind_some]
  have : ∀ b : Bool, (bif b then (some (.inr (.inr false)) : Option (Unit ⊕ (Unit ⊕ Bool))) else some (.inl ())) = some (.inl ()) ∨ ∃ x, (bif b then (some (.inr (.inr false)) : Option (Unit ⊕ (Unit ⊕ Bool))) else some (.inl ())) = some (.inr x) ∧ x = .inr false := fun b => by
   cases b with
   | false => exact .inl rfl
   | true => exact .inr ⟨_, rfl, rfl⟩
  cases decide (e.2 > 1) with
  | true => exact this true
  | false =>
   cases decide (¬ v = 0) with
   | true => exact this _
   | false => exact this false
 ·obtain ⟨v, hv, _⟩ := of_t a.1
  obtain ⟨u, hu, _⟩ := of_t c.1
  simp only [hv, hu, Option.bind_some] at h1 h2 ⊢
  revert h1 h2
  cases decide (a.2 > 1) <;> cases decide (¬ v = 0) <;> cases decide (¬ v = 4) <;> cases decide (c.2 > 1) <;> cases decide (¬ u = 0) <;> cases decide (¬ u = 4) <;> intro h1 h2 <;> first | rfl | exact absurd rfl h1 | exact absurd rfl h2
 ·cases x with
  | inl _ => exact tR (tR trivial)
  | inr y => obtain rfl := hx.1; trivial
theorem nth_pre {T : Type} [Inhabited T] {ys : List T} {x : T} {i : Int} (h0 : 0 ≤ i) (h : i < (ys.length : Int)) : nth (ys ++ [x]) i = nth ys i := by
 obtain ⟨k, rfl⟩ := Int.eq_ofNat_of_zero_le h0
 have hk : k < ys.length := by omega
 rw [nth_nat (by simp; omega), nth_nat hk]
 simp [List.getElem_append_left hk]
noncomputable def cstep (S : St22) (p : St32) (xs : List St58) (s0 : (List UInt8) × Int) : Option (((List UInt8) × Int) ⊕ (Unit ⊕ (Int × Bool))) :=
 (bif (decide (s0.2 < (xs.length : Int))) then (Option.bind (bif inR s0.2 xs.length then (Option.bind (Option.bind (Option.bind (loc_code ((nth xs s0.2).Code_)) fun y2 => (bif (!y2) then (some true) else (bif (Op.bytesLess ((nth xs s0.2).Code_) s0.1 || ((nth xs s0.2).Code_) == s0.1) then (some true) else (bif (decide (((nth xs s0.2).Digits_) < 0)) then (some true) else (some ((decide (((nth xs s0.2).Digits_) > 4)))))))) fun (s1 : Bool) => (bif s1 then (some (.inr (.inr (.inr (.inr (s0.2, false)))))) else (some (.inl ())))) (joinX fun (s3 : Unit) => (Option.bind (utf_Decode ((bytesI ((nth xs s0.2).Sign_)))) fun y1 => (Option.bind (Option.bind (bif (decide (¬ y1.2.2 = 0)) then (some true) else (Option.bind (loc_Money S p y1.1) fun y3 => (some (!y3)))) fun (s2 : Bool) => (bif s2 then (some (.inr (.inr (.inr (.inr (s0.2, false)))))) else (some (.inl ())))) (joinX fun (s4 : Unit) => (some (.inl ()))))))) else none) (joinX fun (s5 : Unit) => (some (.inl ((nth xs s0.2).Code_, (IntKind.wrap .i64 (s0.2 + 1))))))) else (some (.inr (.inl ()))))
theorem loopN_out_of {S O : Type} {f : S → Option (S ⊕ O)} : ∀ {n : Nat} {s : S} {o : O}, loopN f n s = some o → ∃ s', f s' = some (.inr o)
 | 0, _, _, h => by cases h
 | n + 1, s, o, h => by
  simp only [loopN] at h
  cases hf : f s with
  | none => rw [hf] at h; cases h
  | some q =>
   rw [hf] at h
   cases q with
   | inl s' => exact loopN_out_of h
   | inr o' => obtain rfl := Option.some.inj h; exact ⟨s, hf⟩
noncomputable def kstep (S : St22) (xs : List St25) (s0 : Int × (List (Int × Int))) : Option ((Int × (List (Int × Int))) ⊕ (Unit ⊕ (Int × Bool))) :=
 (bif (decide (s0.1 < (xs.length : Int))) then (Option.bind (bif inR s0.1 xs.length then (Option.bind (loc_Short S (nth xs s0.1)) fun y0 => (Option.bind (Option.bind (bif (!y0.2) then (some true) else (bif (decide (s0.1 > 0)) then (bif inR (IntKind.wrap .i64 (s0.1 - 1)) xs.length then (Option.bind (loc_rises ((nth xs (IntKind.wrap .i64 (s0.1 - 1)))) (nth xs s0.1)) fun y2 => (some (!y2))) else none) else (some false))) fun (s2 : Bool) => (bif s2 then (some (.inr (.inr (.inr (.inr (s0.1, false)))))) else (some (.inl ())))) (joinX fun (s5 : Unit) => (Option.bind (bif (!((mget (fun a b : Int => a == b) s0.2 ((nth xs s0.1).Mag_)).isSome)) then (Option.bind (loc_Power (nth xs s0.1) y0.1) fun y1 => (bif (mget (fun a b : Int => a == b) s0.2 ((nth xs s0.1).Mag_)).isNone then (some (y1, (s0.2 ++ [(((nth xs s0.1).Mag_), y1)]))) else none)) else (some (((mget (fun a b : Int => a == b) s0.2 ((nth xs s0.1).Mag_)).getD 0), s0.2))) fun (s1 : Int × (List (Int × Int))) => (Option.bind (bif (!((mget (fun a b : Int => a == b) s0.2 ((nth xs s0.1).Mag_)).isSome)) then (bif (decide (¬ ((nth xs s0.1).Cat_) = 0)) then (some true) else (Option.bind (loc_Power (nth xs s0.1) y0.1) fun y3 => (some (decide (¬ s1.1 = y3))))) else (Option.bind (loc_Power (nth xs s0.1) y0.1) fun y4 => (some (decide (¬ s1.1 = y4))))) fun (s3 : Bool) => (bif s3 then (some (.inr (.inr (.inr (s0.1, false))))) else (some (.inl s1.2)))))))) else none) (joinX fun (s4 : (List (Int × Int))) => (some (.inl ((IntKind.wrap .i64 (s0.1 + 1)), s4))))) else (some (.inr (.inl ()))))
theorem kstep_cases {S : St22} {xs : List St25} {s : Int × (List (Int × Int))} {o : (Int × (List (Int × Int))) ⊕ (Unit ⊕ (Int × Bool))} (h : kstep S xs s = some o) :
  (¬ s.1 < (xs.length : Int) ∧ o = .inr (.inl ())) ∨ (s.1 < (xs.length : Int) ∧ ((∃ a, o = .inl (IntKind.wrap .i64 (s.1 + 1), a)) ∨ o = .inr (.inr (s.1, false)))) := by
 unfold kstep at h
 by_cases hl : s.1 < (xs.length : Int)
 ·rw [dT hl] at h
  simp only [cond_true] at h
  refine .inr ⟨hl, ?_⟩
  obtain ⟨q1, a1, h⟩ := bindS h
  cases q1 with
  | inl u => left; exact ⟨_, (Option.some.inj h).symm⟩
  | inr z =>
   right
   obtain rfl := oi h
   cases hi : inR s.1 xs.length with
   | false => rw [hi] at a1; cases a1
   | true =>
    rw [hi] at a1
    simp only [cond_true] at a1
    obtain ⟨y0, _, a1⟩ := bindS a1
    obtain ⟨q2, a2, a1⟩ := bindS a1
    cases q2 with
    | inr z2 =>
     obtain rfl := oi a1
     obtain ⟨s1, _, a2⟩ := bindS a2
     cases s1 with
     | false => cases a2
     | true => exact (Sum.inr.inj (Sum.inr.inj (Option.some.inj a2))).symm
    | inl u =>
     obtain ⟨y1, _, a1⟩ := bindS a1
     obtain ⟨s3, _, a3⟩ := bindS a1
     cases s3 with
     | false => cases a3
     | true => exact (Sum.inr.inj (Option.some.inj a3)).symm
 ·rw [dF hl] at h
  exact .inl ⟨hl, (Option.some.inj h).symm⟩
theorem comps_is (x : St93) : loc_checker__compacts x = Option.bind (loopN (kstep x.Locale_.S_ x.Locale_.Comps_) big (0, ([] : List (Int × Int)))) (joinX fun (_ : Unit) => some (90, decide ((x.Locale_.Comps_.length : Int) ≤ 90))) := rfl
noncomputable def nstep (S : St22) (xs : List St25) (s0 : Int × (List St144)) : Option ((Int × (List St144)) ⊕ (Unit ⊕ (Int × Bool))) :=
 (bif (decide (s0.1 < (xs.length : Int))) then (Option.bind (bif inR s0.1 xs.length then (Option.bind (loc_Short S (nth xs s0.1)) fun y2 => (Option.bind (loc_around S y2.1 ([] : List Int)) fun y0 => (Option.bind (loc_Power (nth xs s0.1) y2.1) fun y1 => (bif room (s0.2.length + ([(⟨y0, y1⟩ : St144)] : List St144).length) then (loopN (fun (s1 : Int) => (bif (decide (s1 < ((((s0.2 ++ ([(⟨y0, y1⟩ : St144)] : List St144))).length : Int)))) then (bif inR s1 ((s0.2 ++ ([(⟨y0, y1⟩ : St144)] : List St144))).length then (bif inR s1 ((s0.2 ++ ([(⟨y0, y1⟩ : St144)] : List St144))).length then (bif inR (IntKind.wrap .i64 (s0.1 + 1)) ((s0.2 ++ ([(⟨y0, y1⟩ : St144)] : List St144))).length then (bif inR (IntKind.wrap .i64 (s0.1 + 1)) ((s0.2 ++ ([(⟨y0, y1⟩ : St144)] : List St144))).length then (Option.bind (loc_alike ((⟨(⟨(((nth ((s0.2 ++ ([(⟨y0, y1⟩ : St144)] : List St144))) s1).around_).a0_), (((nth ((s0.2 ++ ([(⟨y0, y1⟩ : St144)] : List St144))) s1).around_).a1_), (((nth ((s0.2 ++ ([(⟨y0, y1⟩ : St144)] : List St144))) s1).around_).a2_)⟩ : St124), (nth ((s0.2 ++ ([(⟨y0, y1⟩ : St144)] : List St144))) s1).power_⟩ : St144)) ((⟨(⟨(((nth ((s0.2 ++ ([(⟨y0, y1⟩ : St144)] : List St144))) (IntKind.wrap .i64 (s0.1 + 1))).around_).a0_), (((nth ((s0.2 ++ ([(⟨y0, y1⟩ : St144)] : List St144))) (IntKind.wrap .i64 (s0.1 + 1))).around_).a1_), (((nth ((s0.2 ++ ([(⟨y0, y1⟩ : St144)] : List St144))) (IntKind.wrap .i64 (s0.1 + 1))).around_).a2_)⟩ : St124), (nth ((s0.2 ++ ([(⟨y0, y1⟩ : St144)] : List St144))) (IntKind.wrap .i64 (s0.1 + 1))).power_⟩ : St144))) fun y5 => (bif y5 then (some (.inr (.inr (.inr (.inr (s0.1, false)))))) else (some (.inl (IntKind.wrap .i64 (s1 + 1)))))) else none) else none) else none) else none) else (some (.inr (.inl ((s0.2 ++ ([(⟨y0, y1⟩ : St144)] : List St144)))))))) big 0) else none)))) else none) (joinX fun (s2 : (List St144)) => (some (.inl ((IntKind.wrap .i64 (s0.1 + 1)), s2))))) else (some (.inr (.inl ()))))
theorem nstep_cases {S : St22} {xs : List St25} {s : Int × (List St144)} {o : (Int × (List St144)) ⊕ (Unit ⊕ (Int × Bool))} (h : nstep S xs s = some o) :
  (¬ s.1 < (xs.length : Int) ∧ o = .inr (.inl ())) ∨ (s.1 < (xs.length : Int) ∧ ((∃ a, o = .inl (IntKind.wrap .i64 (s.1 + 1), a)) ∨ o = .inr (.inr (s.1, false)))) := by
 unfold nstep at h
 by_cases hl : s.1 < (xs.length : Int)
 ·rw [dT hl] at h
  simp only [cond_true] at h
  refine .inr ⟨hl, ?_⟩
  obtain ⟨q1, a1, h⟩ := bindS h
  cases q1 with
  | inl u => left; exact ⟨_, (Option.some.inj h).symm⟩
  | inr z =>
   right
   obtain rfl := oi h
   cases hi : inR s.1 xs.length with
   | false => rw [hi] at a1; cases a1
   | true =>
    rw [hi] at a1
    simp only [cond_true] at a1
    obtain ⟨y2, _, a1⟩ := bindS a1
    obtain ⟨y0, _, a1⟩ := bindS a1
    obtain ⟨y1, _, a1⟩ := bindS a1
    obtain ⟨_, a1⟩ := asrt a1
    obtain ⟨s', a2⟩ := loopN_out_of a1
    revert a2
    generalize s.2 ++ ([(⟨y0, y1⟩ : St144)] : List St144) = ls
    intro a2
    cases hb : decide (s' < ((ls.length : Int))) with
    | false => rw [hb] at a2; cases a2
    | true =>
     rw [hb] at a2
     simp only [cond_true] at a2
     obtain ⟨_, a2⟩ := asrt a2
     obtain ⟨_, a2⟩ := asrt a2
     obtain ⟨_, a2⟩ := asrt a2
     obtain ⟨_, a2⟩ := asrt a2
     obtain ⟨y5, _, a2⟩ := bindS a2
     cases y5 with
     | false => cases a2
     | true => exact (Sum.inr.inj (Sum.inr.inj (Option.some.inj a2))).symm
 ·rw [dF hl] at h
  exact .inl ⟨hl, (Option.some.inj h).symm⟩
theorem conf_is (x : St93) : loc_checker__confused x = Option.bind (loc_Pattern x.Locale_.S_ 0 x.Locale_.Pats_.a0_) fun y4 => Option.bind (loc_around x.Locale_.S_ y4.1 ([] : List Int)) fun y3 => Option.bind (loopN (nstep x.Locale_.S_ x.Locale_.Comps_) big (0, ([(⟨y3, 0⟩ : St144)] : List St144))) (joinX fun (_ : Unit) => some (0, true)) := rfl
def chkF (p0 p1 p2 p3 p4 p5 p6 : Option (Int × Bool)) (s0 : Int) : Option (Int ⊕ (Unit ⊕ (Int × Int × Int))) :=
 (bif (decide (s0 < 7)) then (bif (decide (s0 = 0)) then (Option.bind p0 fun y0 => (bif (!y0.2) then (some (.inr (.inr ((IntKind.wrap .i64 (0 + 1)), y0.1, 8)))) else (some (.inl (IntKind.wrap .i64 (0 + 1)))))) else (bif (decide (s0 = 1)) then (Option.bind p1 fun y1 => (bif (!y1.2) then (some (.inr (.inr ((IntKind.wrap .i64 (1 + 1)), y1.1, 8)))) else (some (.inl (IntKind.wrap .i64 (1 + 1)))))) else (bif (decide (s0 = 2)) then (Option.bind p2 fun y2 => (bif (!y2.2) then (some (.inr (.inr ((IntKind.wrap .i64 (2 + 1)), y2.1, 8)))) else (some (.inl (IntKind.wrap .i64 (2 + 1)))))) else (bif (decide (s0 = 3)) then (Option.bind p3 fun y3 => (bif (!y3.2) then (some (.inr (.inr ((IntKind.wrap .i64 (3 + 1)), y3.1, 8)))) else (some (.inl (IntKind.wrap .i64 (3 + 1)))))) else (bif (decide (s0 = 4)) then (Option.bind p4 fun y4 => (bif (!y4.2) then (some (.inr (.inr ((IntKind.wrap .i64 (4 + 1)), y4.1, 8)))) else (some (.inl (IntKind.wrap .i64 (4 + 1)))))) else (bif (decide (s0 = 5)) then (Option.bind p5 fun y5 => (bif (!y5.2) then (some (.inr (.inr ((IntKind.wrap .i64 (5 + 1)), y5.1, 8)))) else (some (.inl (IntKind.wrap .i64 (5 + 1)))))) else (bif (decide (s0 = 6)) then (Option.bind p6 fun y6 => (bif (!y6.2) then (some (.inr (.inr ((IntKind.wrap .i64 (6 + 1)), y6.1, 8)))) else (some (.inl (IntKind.wrap .i64 (6 + 1)))))) else none))))))) else (some (.inr (.inl ()))))
theorem check_is (l : St46) : loc_Check l = Option.bind (loopN (chkF (loc_checker__tag ⟨l⟩) (loc_checker__signs ⟨l⟩) (loc_checker__patterns ⟨l⟩) (loc_checker__rules ⟨l⟩) (loc_checker__currencies ⟨l⟩) (loc_checker__compacts ⟨l⟩) (loc_checker__confused ⟨l⟩)) big 0) (joinX fun (_ : Unit) => some (0, 0, 0)) := rfl
theorem chk_ok (p0 p1 p2 p3 p4 p5 p6 : Option (Int × Bool)) (n : Nat) : ((∃ r, Option.bind (loopN (chkF p0 p1 p2 p3 p4 p5 p6) (n + 8) 0) (joinX fun (_ : Unit) => some ((0, 0, 0) : Int × Int × Int)) = some r ∧ r.2.2 = 0) → (∃ w, p0 = some (w, true)) ∧ (∃ w, p1 = some (w, true)) ∧ (∃ w, p2 = some (w, true)) ∧ (∃ w, p3 = some (w, true)) ∧ (∃ w, p4 = some (w, true)) ∧ (∃ w, p5 = some (w, true)) ∧ (∃ w, p6 = some (w, true))) ∧ (((∃ w, p0 = some (w, true)) ∧ (∃ w, p1 = some (w, true)) ∧ (∃ w, p2 = some (w, true)) ∧ (∃ w, p3 = some (w, true)) ∧ (∃ w, p4 = some (w, true)) ∧ (∃ w, p5 = some (w, true)) ∧ (∃ w, p6 = some (w, true))) → Option.bind (loopN (chkF p0 p1 p2 p3 p4 p5 p6) (n + 8) 0) (joinX fun (_ : Unit) => some ((0, 0, 0) : Int × Int × Int)) = some (0, 0, 0)) := by
 rcases p0 with _ | ⟨a0, b0⟩
 ·refine ⟨fun ⟨r, h, _⟩ => ?_, fun h => ?_⟩
  ·exact absurd ((show Option.bind (loopN (chkF none p1 p2 p3 p4 p5 p6) (n + 8) 0) (joinX fun (_ : Unit) => some (0, 0, 0)) = none by kernel_rfl).symm.trans h) (by simp)
  ·obtain ⟨⟨w, e⟩, _, _, _, _, _, _⟩ := h; cases e
 cases b0 with
 | false =>
  refine ⟨fun ⟨r, h, hr⟩ => ?_, fun h => ?_⟩
  ·have := oi ((show Option.bind (loopN (chkF (some (a0, false)) p1 p2 p3 p4 p5 p6) (n + 8) 0) (joinX fun (_ : Unit) => some (0, 0, 0)) = some (1, a0, 8) by kernel_rfl).symm.trans h)
   subst this; cases hr
  ·obtain ⟨⟨w, e⟩, _, _, _, _, _, _⟩ := h; cases e
 | true =>
  rcases p1 with _ | ⟨a1, b1⟩
  ·refine ⟨fun ⟨r, h, _⟩ => ?_, fun h => ?_⟩
   ·exact absurd ((show Option.bind (loopN (chkF (some (a0, true)) none p2 p3 p4 p5 p6) (n + 8) 0) (joinX fun (_ : Unit) => some (0, 0, 0)) = none by kernel_rfl).symm.trans h) (by simp)
   ·obtain ⟨_, ⟨w, e⟩, _, _, _, _, _⟩ := h; cases e
  cases b1 with
  | false =>
   refine ⟨fun ⟨r, h, hr⟩ => ?_, fun h => ?_⟩
   ·have := oi ((show Option.bind (loopN (chkF (some (a0, true)) (some (a1, false)) p2 p3 p4 p5 p6) (n + 8) 0) (joinX fun (_ : Unit) => some (0, 0, 0)) = some (2, a1, 8) by kernel_rfl).symm.trans h)
    subst this; cases hr
   ·obtain ⟨_, ⟨w, e⟩, _, _, _, _, _⟩ := h; cases e
  | true =>
   rcases p2 with _ | ⟨a2, b2⟩
   ·refine ⟨fun ⟨r, h, _⟩ => ?_, fun h => ?_⟩
    ·exact absurd ((show Option.bind (loopN (chkF (some (a0, true)) (some (a1, true)) none p3 p4 p5 p6) (n + 8) 0) (joinX fun (_ : Unit) => some (0, 0, 0)) = none by kernel_rfl).symm.trans h) (by simp)
    ·obtain ⟨_, _, ⟨w, e⟩, _, _, _, _⟩ := h; cases e
   cases b2 with
   | false =>
    refine ⟨fun ⟨r, h, hr⟩ => ?_, fun h => ?_⟩
    ·have := oi ((show Option.bind (loopN (chkF (some (a0, true)) (some (a1, true)) (some (a2, false)) p3 p4 p5 p6) (n + 8) 0) (joinX fun (_ : Unit) => some (0, 0, 0)) = some (3, a2, 8) by kernel_rfl).symm.trans h)
     subst this; cases hr
    ·obtain ⟨_, _, ⟨w, e⟩, _, _, _, _⟩ := h; cases e
   | true =>
    rcases p3 with _ | ⟨a3, b3⟩
    ·refine ⟨fun ⟨r, h, _⟩ => ?_, fun h => ?_⟩
     ·exact absurd ((show Option.bind (loopN (chkF (some (a0, true)) (some (a1, true)) (some (a2, true)) none p4 p5 p6) (n + 8) 0) (joinX fun (_ : Unit) => some (0, 0, 0)) = none by kernel_rfl).symm.trans h) (by simp)
     ·obtain ⟨_, _, _, ⟨w, e⟩, _, _, _⟩ := h; cases e
    cases b3 with
    | false =>
     refine ⟨fun ⟨r, h, hr⟩ => ?_, fun h => ?_⟩
     ·have := oi ((show Option.bind (loopN (chkF (some (a0, true)) (some (a1, true)) (some (a2, true)) (some (a3, false)) p4 p5 p6) (n + 8) 0) (joinX fun (_ : Unit) => some (0, 0, 0)) = some (4, a3, 8) by kernel_rfl).symm.trans h)
      subst this; cases hr
     ·obtain ⟨_, _, _, ⟨w, e⟩, _, _, _⟩ := h; cases e
    | true =>
     rcases p4 with _ | ⟨a4, b4⟩
     ·refine ⟨fun ⟨r, h, _⟩ => ?_, fun h => ?_⟩
      ·exact absurd ((show Option.bind (loopN (chkF (some (a0, true)) (some (a1, true)) (some (a2, true)) (some (a3, true)) none p5 p6) (n + 8) 0) (joinX fun (_ : Unit) => some (0, 0, 0)) = none by kernel_rfl).symm.trans h) (by simp)
      ·obtain ⟨_, _, _, _, ⟨w, e⟩, _, _⟩ := h; cases e
     cases b4 with
     | false =>
      refine ⟨fun ⟨r, h, hr⟩ => ?_, fun h => ?_⟩
      ·have := oi ((show Option.bind (loopN (chkF (some (a0, true)) (some (a1, true)) (some (a2, true)) (some (a3, true)) (some (a4, false)) p5 p6) (n + 8) 0) (joinX fun (_ : Unit) => some (0, 0, 0)) = some (5, a4, 8) by kernel_rfl).symm.trans h)
       subst this; cases hr
      ·obtain ⟨_, _, _, _, ⟨w, e⟩, _, _⟩ := h; cases e
     | true =>
      rcases p5 with _ | ⟨a5, b5⟩
      ·refine ⟨fun ⟨r, h, _⟩ => ?_, fun h => ?_⟩
       ·exact absurd ((show Option.bind (loopN (chkF (some (a0, true)) (some (a1, true)) (some (a2, true)) (some (a3, true)) (some (a4, true)) none p6) (n + 8) 0) (joinX fun (_ : Unit) => some (0, 0, 0)) = none by kernel_rfl).symm.trans h) (by simp)
       ·obtain ⟨_, _, _, _, _, ⟨w, e⟩, _⟩ := h; cases e
      cases b5 with
      | false =>
       refine ⟨fun ⟨r, h, hr⟩ => ?_, fun h => ?_⟩
       ·have := oi ((show Option.bind (loopN (chkF (some (a0, true)) (some (a1, true)) (some (a2, true)) (some (a3, true)) (some (a4, true)) (some (a5, false)) p6) (n + 8) 0) (joinX fun (_ : Unit) => some (0, 0, 0)) = some (6, a5, 8) by kernel_rfl).symm.trans h)
        subst this; cases hr
       ·obtain ⟨_, _, _, _, _, ⟨w, e⟩, _⟩ := h; cases e
      | true =>
       rcases p6 with _ | ⟨a6, b6⟩
       ·refine ⟨fun ⟨r, h, _⟩ => ?_, fun h => ?_⟩
        ·exact absurd ((show Option.bind (loopN (chkF (some (a0, true)) (some (a1, true)) (some (a2, true)) (some (a3, true)) (some (a4, true)) (some (a5, true)) none) (n + 8) 0) (joinX fun (_ : Unit) => some (0, 0, 0)) = none by kernel_rfl).symm.trans h) (by simp)
        ·obtain ⟨_, _, _, _, _, _, ⟨w, e⟩⟩ := h; cases e
       cases b6 with
       | false =>
        refine ⟨fun ⟨r, h, hr⟩ => ?_, fun h => ?_⟩
        ·have := oi ((show Option.bind (loopN (chkF (some (a0, true)) (some (a1, true)) (some (a2, true)) (some (a3, true)) (some (a4, true)) (some (a5, true)) (some (a6, false))) (n + 8) 0) (joinX fun (_ : Unit) => some (0, 0, 0)) = some (7, a6, 8) by kernel_rfl).symm.trans h)
         subst this; cases hr
        ·obtain ⟨_, _, _, _, _, _, ⟨w, e⟩⟩ := h; cases e
       | true =>
        exact ⟨fun _ => ⟨⟨a0, rfl⟩, ⟨a1, rfl⟩, ⟨a2, rfl⟩, ⟨a3, rfl⟩, ⟨a4, rfl⟩, ⟨a5, rfl⟩, ⟨a6, rfl⟩⟩, fun _ => by kernel_rfl⟩
theorem big8 : big = 18446744073709551608 + 8 := rfl
def locP (l : St46) : Prop := (l.Pats_.a0_.length ≤ 100000 ∧ l.Pats_.a1_.length ≤ 100000 ∧ l.Pats_.a2_.length ≤ 100000 ∧ l.Pats_.a3_.length ≤ 100000) ∧ l.Rules_.length ≤ 1000 ∧ (l.Curs_.length ≤ 1000 ∧ ∀ c ∈ l.Curs_, c.Sign_.length ≤ 100000) ∧ l.Comps_.length ≤ 1000 ∧ ∀ c ∈ l.Comps_, c.Pat_.length ≤ 100000
theorem kpats_t {x : St93} (h : locP x.Locale_) : Tot (loc_checker__patterns x) (fun _ => True) := by
 unfold loc_checker__patterns
 obtain ⟨⟨p0, p1, p2, p3⟩, _⟩ := h
 refine tJ (Tot.mono (p := fun o : Unit ⊕ (Int × Bool) => True) (tL (fun i : Int => 0 ≤ i ∧ i ≤ 4) (fun i => (4 - i).toNat) (by decide) (by decide) (fun i hi => tI (fun h => ?_) (fun _ => tR trivial))) (fun o _ => ?_))
 ·have st : ∀ k : Int, 0 ≤ k ∧ k < 4 ∧ i = k → IntKind.wrap .i64 (k + 1) = k + 1 → (0 ≤ IntKind.wrap .i64 (k + 1) ∧ IntKind.wrap .i64 (k + 1) ≤ 4) ∧ (4 - IntKind.wrap .i64 (k + 1)).toNat < (4 - i).toNat := fun k hk e => by rw [e]; omega
  refine tI (fun h0 => tB (pattern_tot p0) (fun _ _ => tI (fun _ => tR trivial) (fun _ => tR (st 0 ⟨by omega, by omega, dTT h0⟩ (by decide))))) (fun h0 => ?_)
  refine tI (fun h1 => tB (pattern_tot p1) (fun _ _ => tI (fun _ => tR trivial) (fun _ => tR (st 1 ⟨by omega, by omega, dTT h1⟩ (by decide))))) (fun h1 => ?_)
  refine tI (fun h2 => tB (pattern_tot p2) (fun _ _ => tI (fun _ => tR trivial) (fun _ => tR (st 2 ⟨by omega, by omega, dTT h2⟩ (by decide))))) (fun h2 => ?_)
  refine tI (fun h3 => tB (pattern_tot p3) (fun _ _ => tI (fun _ => tR trivial) (fun _ => tR (st 3 ⟨by omega, by omega, dTT h3⟩ (by decide))))) (fun h3 => ?_)
  have := dTT h; have := dFF h0; have := dFF h1; have := dFF h2; have := dFF h3; omega
 ·cases o with
  | inl _ => exact tR trivial
  | inr _ => trivial
theorem kcurs_t {x : St93} (h : locP x.Locale_) : Tot (loc_checker__currencies x) (fun _ => True) := by
 unfold loc_checker__currencies
 obtain ⟨⟨_, _, _, p3⟩, _, ⟨hn, hc⟩, _⟩ := h
 refine tB (pattern_tot p3) (fun y hy => tJ (tW (fun s : List UInt8 × Int => s.2) x.Locale_.Curs_.length (fun _ => True) (by omega) ⟨trivial, Int.le_refl _, by simp⟩ (fun s _ g0 g1 => tY (dT g1) ?_) (fun s _ e => tN (dF (by omega)) (tR (tR trivial)))))
 have hs := hc _ (nth_mem g0 g1)
 have e : IntKind.wrap .i64 (s.2 + 1) = s.2 + 1 := w64 (by omega) (by omega)
 rw [e]
 refine tJ (tY (inR_int g0 g1) (tJ (tB (p := fun _ => True) (tB (code_t _) (fun _ _ => ?_)) (fun _ _ => tI (fun _ => tR trivial) (fun _ => tR (show Tot _ _ from ?_))))))
 ·repeat' (first | exact tR trivial | refine tI (fun _ => ?_) (fun _ => ?_))
 ·refine tB (decode_t (by rw [bytesI_len]; exact hs)) (fun d hd => tJ (tB (p := fun _ => True) (tI (fun _ => tR trivial) (fun _ => tB (money_t hy (by rw [bytesI_len] at hd; omega)) (fun _ _ => tR trivial))) (fun _ _ => tI (fun _ => tR trivial) (fun _ => tR (show Tot _ _ from tR (show Tot _ _ from tR ⟨trivial, rfl⟩))))))
theorem kcomps_t {x : St93} (h : locP x.Locale_) : Tot (loc_checker__compacts x) (fun _ => True) := by
 unfold loc_checker__compacts
 obtain ⟨_, _, _, hn, hc⟩ := h
 refine tJ (tW (fun s : Int × List (Int × Int) => s.1) x.Locale_.Comps_.length (fun _ => True) (by omega) ⟨trivial, Int.le_refl _, by simp⟩ (fun s _ g0 g1 => tY (dT g1) ?_) (fun s _ e => tN (dF (by omega)) (tR (tR trivial))))
 have hs := hc _ (nth_mem g0 g1)
 have e : IntKind.wrap .i64 (s.1 + 1) = s.1 + 1 := w64 (by omega) (by omega)
 rw [e]
 have pw : ∀ (c : St25) (p : St32), Tot (loc_Power c p) (fun _ => True) := fun c p => by unfold loc_Power; exact tR trivial
 refine tJ (tY (inR_int g0 g1) (tB (short_t hs) (fun y _ => tJ (tB (p := fun _ => True) (tI (fun _ => tR trivial) (fun _ => tI (fun hp => ?_) (fun _ => tR trivial))) (fun _ _ => tI (fun _ => tR trivial) (fun _ => tR (show Tot _ _ from ?_)))))))
 ·have hp := dTT hp
  rw [w64 (n := s.1 - 1) (by omega) (by omega)]
  refine tY (inR_int (by omega) (by omega)) (tB (p := fun _ => True) ?_ (fun _ _ => tR trivial))
  unfold loc_rises
  exact tB (p := fun _ => True) (tI (fun _ => tR trivial) (fun _ => tI (fun _ => tR trivial) (fun _ => tR trivial))) (fun _ _ => tR trivial)
 ·refine tB (p := fun _ => True) (tI (fun hn => tB (pw _ _) (fun _ _ => tY ?_ (tR trivial))) (fun _ => tR trivial)) (fun _ _ => tB (p := fun _ => True) (tI (fun _ => tI (fun _ => tR trivial) (fun _ => tB (pw _ _) (fun _ _ => tR trivial))) (fun _ => tB (pw _ _) (fun _ _ => tR trivial))) (fun _ _ => tI (fun _ => tR trivial) (fun _ => tR (show Tot _ _ from tR ⟨trivial, rfl⟩))))
  revert hn
  cases mget (fun a b : Int => a == b) s.2 (nth x.Locale_.Comps_ s.1).Mag_ with
  | none => intro _; rfl
  | some v => intro h; cases h
theorem alike_t {a c : St144} (ha : aroP a.around_) : Tot (loc_alike a c) (fun _ => True) := by
 unfold loc_alike
 have sm : ∀ {u : St63} (v : St63), affP u → Tot (Option.bind (affix_Same u v) fun y => some y) (fun _ => True) := fun v hu => tB (asame_t hu) (fun _ _ => tR trivial)
 refine tJ (tW (fun s : Int => s) 3 (fun _ => True) (by decide) ⟨trivial, Int.le_refl _, by decide⟩ (fun i _ g0 g1 => tY (dT (by omega)) (tJ (tW (fun s : Int => s) 3 (fun _ => True) (by decide) ⟨trivial, Int.le_refl _, by decide⟩ (fun j _ f0 f1 => tY (dT (by omega)) ?_) (fun j _ e => tN (dF (by omega)) (tR (show Tot _ _ from tR ⟨trivial, w64 (by omega) (by omega)⟩)))))) (fun i _ e => tN (dF (by omega)) (tR (tR trivial))))
 have e : IntKind.wrap .i64 (j + 1) = j + 1 := w64 (by omega) (by omega)
 rw [e]
 refine tJ (tJ (tB (p := fun _ => True) (tI (fun _ => tR trivial) (fun _ => tR trivial)) (fun _ _ => tI (fun _ => tR (show Tot _ _ from tR ⟨trivial, rfl⟩)) (fun _ => tR (show Tot _ _ from ?_)))))
 refine tB (p := fun _ => True) (tI (fun _ => tR trivial) (fun _ => tR trivial)) (fun _ _ => tB (p := fun _ => True) (tI (fun _ => ?_) (fun _ => tR trivial)) (fun _ _ => tI (fun _ => tR trivial) (fun _ => tR (show Tot _ _ from tR ⟨trivial, rfl⟩))))
 have three : ∀ {u : St63} (v w z : St63), affP u → Tot (bif decide (j = 0) then (Option.bind (affix_Same u v) fun y => some y) else bif decide (j = 1) then (Option.bind (affix_Same u w) fun y => some y) else bif decide (j = 2) then (Option.bind (affix_Same u z) fun y => some y) else none) (fun _ => True) := fun v w z hu => tI (fun _ => sm v hu) (fun h0 => tI (fun _ => sm w hu) (fun h1 => tI (fun _ => sm z hu) (fun h2 => by have := dFF h0; have := dFF h1; have := dFF h2; omega)))
 exact tI (fun _ => three _ _ _ ha.1) (fun h0 => tI (fun _ => three _ _ _ ha.2.1) (fun h1 => tI (fun _ => three _ _ _ ha.2.2) (fun h2 => by have := dFF h0; have := dFF h1; have := dFF h2; omega)))
theorem kconf_t {x : St93} (h : locP x.Locale_) : Tot (loc_checker__confused x) (fun _ => True) := by
 unfold loc_checker__confused
 obtain ⟨⟨p0, _⟩, _, _, hn, hc⟩ := h
 refine tB (pattern_tot p0) (fun y hy => tB (around_t hy (by simp)) (fun a ha => ?_))
 refine tJ (tW (fun s : Int × List St144 => s.1) x.Locale_.Comps_.length (fun s => (s.2.length : Int) = s.1 + 1 ∧ ∀ u ∈ s.2, aroP u.around_) (by omega) ⟨⟨by simp, by simpa using ha⟩, Int.le_refl _, by simp⟩ (fun s hs g0 g1 => tY (dT g1) ?_) (fun s _ e => tN (dF (by omega)) (tR (tR trivial))))
 obtain ⟨hl, hall⟩ := hs
 have e : IntKind.wrap .i64 (s.1 + 1) = s.1 + 1 := w64 (by omega) (by omega)
 rw [e]
 refine tJ (tY (inR_int g0 g1) (tB (short_t (hc _ (nth_mem g0 g1))) (fun c hc1 => tB (around_t hc1 (by simp)) (fun d hd => tB (p := fun _ => True) (by unfold loc_Power; exact tR trivial) (fun w _ => tY (room_of (by simp; omega)) ?_)))))
 have hlen : ((s.2 ++ [(⟨d, w⟩ : St144)]).length : Int) = s.1 + 2 := by simp; omega
 have hal : ∀ u ∈ s.2 ++ [(⟨d, w⟩ : St144)], aroP u.around_ := fun u hu => by
  rcases List.mem_append.1 hu with hu | hu
  ·exact hall u hu
  ·obtain rfl := List.mem_singleton.1 hu
   exact hd
 revert hlen hal
 generalize s.2 ++ [(⟨d, w⟩ : St144)] = ls
 intro hlen hal
 have hi : inR (s.1 + 1) ls.length = true := inR_int (by omega) (by omega)
 refine tW (fun j : Int => j) ls.length (fun _ => True) (by omega) ⟨trivial, Int.le_refl _, by simp⟩ (fun j _ f0 f1 => tY (dT f1) (tY (inR_int f0 f1) (tY (inR_int f0 f1) (tY hi (tY hi (tB (alike_t (hal _ (nth_mem f0 f1))) (fun _ _ => tI (fun _ => tR trivial) (fun _ => tR ⟨trivial, w64 (by omega) (by omega)⟩)))))))) (fun j _ e => tN (dF (by omega)) (tR (show Tot _ _ from tR ⟨⟨by simp only; omega, hal⟩, rfl⟩)))
theorem chk_tot {p0 p1 p2 p3 p4 p5 p6 : Option (Int × Bool)} (h0 : Tot p0 (fun _ => True)) (h1 : Tot p1 (fun _ => True)) (h2 : Tot p2 (fun _ => True)) (h3 : Tot p3 (fun _ => True)) (h4 : Tot p4 (fun _ => True)) (h5 : Tot p5 (fun _ => True)) (h6 : Tot p6 (fun _ => True)) : Tot (Option.bind (loopN (chkF p0 p1 p2 p3 p4 p5 p6) big 0) (joinX fun (_ : Unit) => some ((0, 0, 0) : Int × Int × Int))) (fun _ => True) := by
 refine tB (p := fun _ => True) (tL (fun i : Int => 0 ≤ i ∧ i ≤ 7) (fun i => (7 - i).toNat) (by decide) (by decide) (fun i hi => ?_)) (fun o _ => by cases o <;> exact tR trivial)
 unfold chkF
 have st : ∀ k : Int, 0 ≤ k ∧ k < 7 ∧ i = k → IntKind.wrap .i64 (k + 1) = k + 1 → (0 ≤ IntKind.wrap .i64 (k + 1) ∧ IntKind.wrap .i64 (k + 1) ≤ 7) ∧ (7 - IntKind.wrap .i64 (k + 1)).toNat < (7 - i).toNat := fun k hk e => by rw [e]; omega
 refine tI (fun h => ?_) (fun _ => tR trivial)
 refine tI (fun q0 => tB h0 (fun _ _ => tI (fun _ => tR trivial) (fun _ => tR (st 0 ⟨by omega, by omega, dTT q0⟩ (by decide))))) (fun q0 => ?_)
 refine tI (fun q1 => tB h1 (fun _ _ => tI (fun _ => tR trivial) (fun _ => tR (st 1 ⟨by omega, by omega, dTT q1⟩ (by decide))))) (fun q1 => ?_)
 refine tI (fun q2 => tB h2 (fun _ _ => tI (fun _ => tR trivial) (fun _ => tR (st 2 ⟨by omega, by omega, dTT q2⟩ (by decide))))) (fun q2 => ?_)
 refine tI (fun q3 => tB h3 (fun _ _ => tI (fun _ => tR trivial) (fun _ => tR (st 3 ⟨by omega, by omega, dTT q3⟩ (by decide))))) (fun q3 => ?_)
 refine tI (fun q4 => tB h4 (fun _ _ => tI (fun _ => tR trivial) (fun _ => tR (st 4 ⟨by omega, by omega, dTT q4⟩ (by decide))))) (fun q4 => ?_)
 refine tI (fun q5 => tB h5 (fun _ _ => tI (fun _ => tR trivial) (fun _ => tR (st 5 ⟨by omega, by omega, dTT q5⟩ (by decide))))) (fun q5 => ?_)
 refine tI (fun q6 => tB h6 (fun _ _ => tI (fun _ => tR trivial) (fun _ => tR (st 6 ⟨by omega, by omega, dTT q6⟩ (by decide))))) (fun q6 => ?_)
 have := dTT h; have := dFF q0; have := dFF q1; have := dFF q2; have := dFF q3; have := dFF q4; have := dFF q5; have := dFF q6; omega
theorem check_t {l : St46} (h : locP l) : ∃ r, loc_Check l = some r := by
 rw [check_is]
 refine (chk_tot ?_ ?_ (kpats_t h) ?_ (kcurs_t h) (kcomps_t h) (kconf_t h)).imp (fun _ h => h.1)
 ·unfold loc_checker__tag; exact tB (tag_t _) (fun _ _ => tR trivial)
 ·unfold loc_checker__signs; exact tB (good_t _) (fun _ _ => tR trivial)
 ·unfold loc_checker__rules; exact tB (pread_t h.2.1) (fun _ _ => tR trivial)
theorem loop_post {S O : Type} {f : S → Option (S ⊕ O)} (I : S → Prop) {post : O → Prop} (hs : ∀ s s', I s → f s = some (.inl s') → I s') (he : ∀ s o, I s → f s = some (.inr o) → post o) : ∀ (n : Nat) (s : S) (o : O), I s → loopN f n s = some o → post o
 | 0, _, _, _, h => by cases h
 | n + 1, s, o, hi, h => by
  simp only [loopN] at h
  cases hf : f s with
  | none => rw [hf] at h; cases h
  | some q =>
   rw [hf] at h
   cases q with
   | inl s' => exact loop_post I hs he n s' o (hs s s' hi hf) h
   | inr o' => obtain rfl := Option.some.inj h; exact he s _ hi hf
theorem loop_imp {S O : Type} {f g : S → Option (S ⊕ O)} (hs : ∀ s o, f s = some o → g s = some o) : ∀ (n : Nat) (s : S) (o : O), loopN f n s = some o → loopN g n s = some o
 | 0, _, _, h => by cases h
 | n + 1, s, o, h => by
  simp only [loopN] at h ⊢
  cases hf : f s with
  | none => rw [hf] at h; cases h
  | some q =>
   rw [hf] at h
   rw [hs s q hf]
   cases q with
   | inl s' => exact loop_imp hs n s' o h
   | inr o' => exact h
theorem resolve_imp {l : List St106} {s : St22} {c r : List Int} (h : affix_Resolve l s c = some r) : exergueref14_Resolve l s c = some r := by
 unfold affix_Resolve at h
 unfold exergueref14_Resolve
 obtain ⟨_, _, h⟩ := bindS h
 obtain ⟨o, h1, h2⟩ := bindS h
 rw [loop_imp (fun s o hf => ?_) big _ o h1]
 ·exact h2
 cases hb : decide (s.1 < (l.length : Int)) with
 | false => rw [hb] at hf; exact hf
 | true =>
  rw [hb] at hf
  simp only [cond_true] at hf ⊢
  obtain ⟨u, h3, h4⟩ := bindS hf
  obtain ⟨hi, h3⟩ := asrt h3
  rw [hi]
  simp only [cond_true]
  have key : ∀ {x : Option (List Int)}, x = some u → (Option.bind x fun s2 => some (Sum.inl (IntKind.wrap .i64 (s.1 + 1), s2)) : Option ((Int × List Int) ⊕ List Int)) = some o := fun e => by rw [e]; exact h4
  apply key
  revert h3
  cases decide ((nth l s.1).Kind_ = 0) with
  | true => exact id
  | false =>
   cases decide ((nth l s.1).Kind_ = 1) with
   | true => exact id
   | false =>
    cases decide ((nth l s.1).Kind_ = 2) with
    | true => exact id
    | false =>
     cases decide ((nth l s.1).Kind_ = 3) with
     | true => exact id
     | false =>
      cases decide ((nth l s.1).Kind_ = 4) with
      | true => exact id
      | false =>
       intro h3
       obtain ⟨_, h3⟩ := asrt h3
       rw [List.append_nil] at h3
       exact h3
theorem led_imp {l put r : List St106} (hp : put.length ≤ 1) (h : affix_led l put = some r) : r = put ++ l ∧ room (put.length + l.length) = true := by
 unfold affix_led at h
 obtain ⟨c, h1, h2⟩ := bindS h
 have hc : c = put := by
  unfold api_Tok__191 at h1
  match put, hp with
  | [], _ => exact (oi ((show agree (some ([] : List St106)) (some []) = some [] by simp [agree]).symm.trans h1)).symm
  | [t], _ => exact (oi ((show (bif room 1 then some [t] else none) = some [t] from rfl).symm.trans h1)).symm
 subst hc
 obtain ⟨h3, h4⟩ := asrt h2
 exact ⟨(oi h4).symm, h3⟩
theorem signed_imp {p : St32} {g : Int} {r : List St106 × List St106} (hg : g = 0 ∨ g = 1) (h : affix_Signed p g = some r) : exergueref14_Signed p g = some r := by
 unfold affix_Signed at h
 unfold exergueref14_Signed
 have c1 : ([] : List St106).length ≤ 1 := by simp
 rcases hg with rfl | rfl
 ·obtain ⟨a, h1, h⟩ := bindS (show (Option.bind (affix_led p.Pre_ []) fun y => Option.bind (affix_led p.Suf_ []) fun z => some (y, z)) = some r from h)
  obtain ⟨c, h2, h⟩ := bindS h
  obtain ⟨rfl, _⟩ := led_imp c1 h1
  obtain ⟨rfl, _⟩ := led_imp c1 h2
  exact h
 ·cases hn : p.Neg_ with
  | true =>
   rw [hn] at h
   obtain ⟨a, h1, h⟩ := bindS (show (Option.bind (affix_led p.NPre_ []) fun y => Option.bind (affix_led p.NSuf_ []) fun z => some (y, z)) = some r from h)
   obtain ⟨c, h2, h⟩ := bindS h
   obtain ⟨rfl, _⟩ := led_imp c1 h1
   obtain ⟨rfl, _⟩ := led_imp c1 h2
   exact h
  | false =>
   rw [hn] at h
   obtain ⟨a, h1, h⟩ := bindS (show (Option.bind (affix_led p.Pre_ [⟨1, 0⟩]) fun y => Option.bind (affix_led p.Suf_ []) fun z => some (y, z)) = some r from h)
   obtain ⟨c, h2, h⟩ := bindS h
   obtain ⟨rfl, hr⟩ := led_imp (by simp) h1
   obtain ⟨rfl, _⟩ := led_imp c1 h2
   show (bif room (([(⟨1, 0⟩ : St106)] : List St106).length + p.Pre_.length) then some _ else none) = _
   rw [hr]; exact h
theorem of_imp {p : St32} {s : St22} {g : Int} {c : List Int} {a : St63} (hg : g = 0 ∨ g = 1) (h : affix_Of p s g c = some a) : exergueref14_Of p s g c = some a := by
 unfold affix_Of at h
 unfold exergueref14_Of
 obtain ⟨y, h1, h⟩ := bindS h
 obtain ⟨z, h2, h⟩ := bindS h
 obtain ⟨w, h3, h⟩ := bindS h
 rw [signed_imp hg h1, Option.bind_some, resolve_imp h2, Option.bind_some, resolve_imp h3]
 exact h
theorem eq_row {T S O : Type} [Inhabited T] [DecidableEq T] {xs ys : List T} (hlen : xs.length = ys.length) (hb : xs.length ≤ 4611686018427387904) (ok bad : O) {step : Int → Option (Int ⊕ O)}
  (hs : ∀ i : Nat, i < xs.length → step (i : Int) = some (if nth xs (i : Int) = nth ys (i : Int) then .inl ((i : Int) + 1) else .inr bad)) (he : step (xs.length : Int) = some (.inr ok)) :
  loopN step big 0 = some (if xs = ys then ok else bad) := by
 obtain ⟨o, h1, h2⟩ := loop_count (step := step) xs.length (fun i => (i : Int)) (fun i => ∀ j, j < i → nth xs (j : Int) = nth ys (j : Int)) (fun o => o = if xs = ys then ok else bad) rfl (fun j hj => by omega) (fun i hi hI => by
  rw [hs i hi]
  by_cases c : nth xs (i : Int) = nth ys (i : Int)
  ·left
   rw [if_pos c]
   refine ⟨by simp, fun j hj => ?_⟩
   by_cases e : j = i
   ·subst e; exact c
   ·exact hI j (by omega)
  ·right
   rw [if_neg c]
   refine ⟨bad, rfl, ?_⟩
   rw [if_neg (fun e => c (by rw [e]))]) (fun hI => ⟨ok, he, by
  rw [if_pos]
  apply List.ext_getElem hlen
  intro i h1 h2
  have := hI i h1
  rwa [nth_nat h1, nth_nat h2] at this⟩) (by omega)
 have h1' : loopN step big 0 = some o := h1
 rw [h1', h2]
theorem eqI_eq {x y : List Int} (hl : x.length ≤ 4611686018427387904) : slices_Equal x y = some (decide (x = y)) := by
 unfold slices_Equal
 by_cases h : x.length = y.length
 ·rw [dF (by omega)]
  simp only [cond_false]
  rw [eq_row (S := Unit) h (by omega) (.inl () : Unit ⊕ Bool) (.inr false)]
  ·by_cases e : x = y
   ·rw [if_pos e, dT e]; rfl
   ·rw [if_neg e, dF e]; rfl
  ·intro i hi
   rw [dT (by omega), inR_nat hi, inR_nat (by omega), w64 (by omega) (by omega)]
   simp only [cond_true]
   by_cases h1 : nth x (i : Int) = nth y (i : Int)
   ·rw [if_pos h1, dF (not_not_intro h1)]; rfl
   ·rw [if_neg h1, dT h1]; rfl
  ·rw [lt_end]; rfl
 ·rw [dT (by omega), dF (by rintro rfl; exact h rfl)]; rfl
theorem same_eq {a c : St63} (ha : affP a) : affix_Same a c = some (decide (a = c)) := by
 unfold affix_Same
 rw [eqI_eq (Nat.le_trans ha.1 (by decide)), eqI_eq (Nat.le_trans ha.2 (by decide))]
 obtain ⟨a1, a2⟩ := a
 obtain ⟨c1, c2⟩ := c
 by_cases h1 : a1 = c1
 ·subst h1
  by_cases h2 : a2 = c2
  ·subst h2; simp
  ·simp [h2]
 ·simp [h1]
theorem rsame_eq {a c : St63} (ha : affP a) : exergueref14_Same a c = some (decide (a = c)) := by
 rw [← same_eq ha]
 unfold affix_Same exergueref14_Same
 show (Option.bind (slices_Equal a.Pre_ c.Pre_) _) = _
 cases slices_Equal a.Pre_ c.Pre_ <;> rfl
def alikeF (d s00 s01 s02 s10 s11 s12 s20 s21 s22 : Bool) : Option Bool :=
 (Option.bind (loopN (fun (s1 : Int) => (bif (decide (s1 < 3)) then (Option.bind (loopN (fun (s0 : Int) => (bif (decide (s0 < 3)) then (Option.bind (Option.bind (Option.bind (bif (decide ((minI s1 s0) = 0)) then (some ((decide ((maxI s1 s0) = 2)))) else (some false)) fun (s2 : Bool) => (bif s2 then (some (.inr (.inl ()))) else (some (.inl ())))) (joinX fun (s5 : Unit) => (Option.bind (bif d then (some true) else (some (((decide (s1 = 1)) != (decide (s0 = 1)))))) fun (s3 : Bool) => (Option.bind (bif s3 then (bif (decide (s1 = 0)) then (bif (decide (s0 = 0)) then (Option.bind (some s00) fun y0 => (some y0)) else (bif (decide (s0 = 1)) then (Option.bind (some s01) fun y1 => (some y1)) else (bif (decide (s0 = 2)) then (Option.bind (some s02) fun y2 => (some y2)) else none))) else (bif (decide (s1 = 1)) then (bif (decide (s0 = 0)) then (Option.bind (some s10) fun y3 => (some y3)) else (bif (decide (s0 = 1)) then (Option.bind (some s11) fun y4 => (some y4)) else (bif (decide (s0 = 2)) then (Option.bind (some s12) fun y5 => (some y5)) else none))) else (bif (decide (s1 = 2)) then (bif (decide (s0 = 0)) then (Option.bind (some s20) fun y6 => (some y6)) else (bif (decide (s0 = 1)) then (Option.bind (some s21) fun y7 => (some y7)) else (bif (decide (s0 = 2)) then (Option.bind (some s22) fun y8 => (some y8)) else none))) else none))) else (some false)) fun (s4 : Bool) => (bif s4 then (some (.inr (.inr (.inr (.inr (.inr true)))))) else (some (.inl ()))))))) (joinX fun (s6 : Unit) => (some (.inl (IntKind.wrap .i64 (s0 + 1)))))) else (some (.inr (.inl ()))))) big 0) (joinX fun (s7 : Unit) => (some (.inl (IntKind.wrap .i64 (s1 + 1)))))) else (some (.inr (.inl ()))))) big 0) (joinX fun (s8 : Unit) => (some false)))
theorem alikeF_ok : ∀ d s00 s01 s02 s10 s11 s12 s20 s21 s22 : Bool, alikeF d s00 s01 s02 s10 s11 s12 s20 s21 s22 = some false → (d = true → s00 = false ∧ s11 = false) ∧ s01 = false ∧ s10 = false := by decide +kernel
def sg (a : St124) (g : Int) : St63 := if g = 0 then a.a0_ else a.a1_
theorem alike_no {a c : St144} (ha : aroP a.around_) (h : loc_alike a c = some false) {i j : Int} (hi : i = 0 ∨ i = 1) (hj : j = 0 ∨ j = 1) (ho : a.power_ ≠ c.power_ ∨ i ≠ j) : sg a.around_ i ≠ sg c.around_ j := by
 unfold loc_alike at h
 obtain ⟨h0, h1, h2⟩ := ha
 rw [same_eq h0, same_eq h0, same_eq h0, same_eq h1, same_eq h1, same_eq h1, same_eq h2, same_eq h2, same_eq h2] at h
 obtain ⟨k1, k2, k3⟩ := alikeF_ok (decide (¬ a.power_ = c.power_)) _ _ _ _ _ _ _ _ _ h
 unfold sg
 rcases hi with rfl | rfl <;> rcases hj with rfl | rfl
 ·have := k1 (dT (by rcases ho with h | h; exact h; exact absurd rfl h))
  exact of_decide_eq_false this.1
 ·exact of_decide_eq_false k2
 ·exact of_decide_eq_false k3
 ·have := k1 (dT (by rcases ho with h | h; exact h; exact absurd rfl h))
  exact of_decide_eq_false this.2
theorem comps_all {x : St93} {w : Int} (hn : x.Locale_.Comps_.length ≤ 1000) (h : loc_checker__compacts x = some (w, true)) : ∀ k : Int, 0 ≤ k → k < x.Locale_.Comps_.length → ∃ p, loc_Short x.Locale_.S_ (nth x.Locale_.Comps_ k) = some (p, true) := by
 rw [comps_is] at h
 obtain ⟨o, h1, h2⟩ := bindS h
 have hp := loop_post (fun s : Int × List (Int × Int) => 0 ≤ s.1 ∧ s.1 ≤ x.Locale_.Comps_.length ∧ ∀ k : Int, 0 ≤ k → k < s.1 → ∃ p, loc_Short x.Locale_.S_ (nth x.Locale_.Comps_ k) = some (p, true)) (post := fun o => o = .inl () → ∀ k : Int, 0 ≤ k → k < x.Locale_.Comps_.length → ∃ p, loc_Short x.Locale_.S_ (nth x.Locale_.Comps_ k) = some (p, true)) (fun s s' hi hf => ?_) (fun s o hi hf => ?_) big (0, []) o ⟨Int.le_refl _, by simp, fun k a b => by omega⟩ h1
 ·refine hp ?_
  cases o with
  | inl _ => rfl
  | inr v =>
   exfalso
   obtain ⟨s', hs⟩ := loopN_out_of h1
   obtain rfl := oi h2
   rcases kstep_cases hs with ⟨_, e⟩ | ⟨_, ⟨a, e⟩ | e⟩
   ·cases e
   ·cases e
   ·have := congrArg Prod.snd (Sum.inr.inj (Sum.inr.inj e)); cases this
 ·obtain ⟨i0, i1, i2⟩ := hi
  rcases kstep_cases hf with ⟨_, e⟩ | ⟨hl, ⟨a, e⟩ | e⟩
  ·cases e
  ·obtain rfl := Sum.inl.inj e
   have e1 : IntKind.wrap .i64 (s.1 + 1) = s.1 + 1 := w64 (by omega) (by omega)
   refine ⟨by simp only; omega, by simp only; omega, fun k k0 k1 => ?_⟩
   simp only [e1] at k1
   by_cases hk : k < s.1
   ·exact i2 k k0 hk
   ·obtain rfl : k = s.1 := by omega
    unfold kstep at hf
    rw [dT hl] at hf
    simp only [cond_true] at hf
    obtain ⟨q1, a1, hf⟩ := bindS hf
    obtain ⟨_, a1⟩ := asrt a1
    obtain ⟨y, a0, a1⟩ := bindS a1
    obtain ⟨q2, a2, a3⟩ := bindS a1
    obtain ⟨y1, y2⟩ := y
    cases y2 with
    | true => exact ⟨y1, a0⟩
    | false =>
     exfalso
     obtain rfl := oi a2
     obtain rfl := oi a3
     cases hf
  ·cases e
 ·rcases kstep_cases hf with ⟨hl, e⟩ | ⟨_, ⟨a, e⟩ | e⟩
  ·intro _ k k0 k1
   exact hi.2.2 k k0 (by have := hi.2.1; omega)
  ·cases e
  ·obtain rfl := Sum.inr.inj e; intro h; cases h
def confI (S : St22) (xs : List St25) (s : Int × List St144) : Prop := (0 ≤ s.1 ∧ s.1 ≤ xs.length) ∧ (s.2.length : Int) = s.1 + 1 ∧ ∀ k : Int, 0 ≤ k → k < s.1 → ∃ p A w, loc_Short S (nth xs k) = some p ∧ loc_around S p.1 [] = some A ∧ loc_Power (nth xs k) p.1 = some w ∧ nth s.2 (k + 1) = ⟨A, w⟩ ∧ ∀ j : Int, 0 ≤ j → j ≤ k + 1 → loc_alike (nth s.2 j) (nth s.2 (k + 1)) = some false
theorem nth_last {T : Type} [Inhabited T] {ys : List T} {x : T} {i : Int} (h : i = (ys.length : Int)) : nth (ys ++ [x]) i = x := by
 subst h; exact nth_mid
theorem conf_all {x : St93} {w : Int} (hn : x.Locale_.Comps_.length ≤ 1000) (h : loc_checker__confused x = some (w, true)) : ∃ ls, confI x.Locale_.S_ x.Locale_.Comps_ ((x.Locale_.Comps_.length : Int), ls) := by
 rw [conf_is] at h
 obtain ⟨y4, _, h⟩ := bindS h
 obtain ⟨y3, _, h⟩ := bindS h
 obtain ⟨o, h1, h2⟩ := bindS h
 have hp := loop_post (confI x.Locale_.S_ x.Locale_.Comps_) (post := fun o => o = .inl () → ∃ ls, confI x.Locale_.S_ x.Locale_.Comps_ ((x.Locale_.Comps_.length : Int), ls)) (fun s s' hi hf => ?_) (fun s o hi hf => ?_) big (0, [⟨y3, 0⟩]) o ⟨⟨Int.le_refl _, by simp⟩, by simp, fun k a b => by simp only at b; omega⟩ h1
 ·refine hp ?_
  cases o with
  | inl _ => rfl
  | inr v =>
   exfalso
   obtain ⟨s', hs⟩ := loopN_out_of h1
   obtain rfl := oi h2
   rcases nstep_cases hs with ⟨_, e⟩ | ⟨_, ⟨a, e⟩ | e⟩
   ·cases e
   ·cases e
   ·have := congrArg Prod.snd (Sum.inr.inj (Sum.inr.inj e)); cases this
 ·obtain ⟨⟨i0, i1⟩, i2, i3⟩ := hi
  rcases nstep_cases hf with ⟨_, e⟩ | ⟨hl, ⟨a, e⟩ | e⟩
  ·cases e
  ·obtain rfl := Sum.inl.inj e
   have e1 : IntKind.wrap .i64 (s.1 + 1) = s.1 + 1 := w64 (by omega) (by omega)
   unfold nstep at hf
   rw [dT hl, e1] at hf
   simp only [cond_true] at hf
   obtain ⟨q1, a1, hf⟩ := bindS hf
   obtain ⟨_, a1⟩ := asrt a1
   obtain ⟨p, a2, a1⟩ := bindS a1
   obtain ⟨A, a3, a1⟩ := bindS a1
   obtain ⟨v, a4, a1⟩ := bindS a1
   obtain ⟨_, a1⟩ := asrt a1
   have hlen : ((s.2 ++ [(⟨A, v⟩ : St144)]).length : Int) = s.1 + 2 := by simp; omega
   have hin := loop_post (fun j : Int => 0 ≤ j ∧ ∀ q : Int, 0 ≤ q → q < j → q ≤ s.1 + 1 → loc_alike (nth (s.2 ++ [(⟨A, v⟩ : St144)]) q) (nth (s.2 ++ [(⟨A, v⟩ : St144)]) (s.1 + 1)) = some false) (post := fun o => (∀ z, o = .inr z → ∃ u, z = .inr u) ∧ ∀ ls, o = .inl ls → ls = s.2 ++ [(⟨A, v⟩ : St144)] ∧ ∀ q : Int, 0 ≤ q → q ≤ s.1 + 1 → loc_alike (nth (s.2 ++ [(⟨A, v⟩ : St144)]) q) (nth (s.2 ++ [(⟨A, v⟩ : St144)]) (s.1 + 1)) = some false) (fun j j' hj hg => ?_) (fun j o hj hg => ?_) big 0 q1 ⟨Int.le_refl _, fun q a b => by omega⟩ a1
   ·cases q1 with
    | inr z =>
     exfalso
     obtain ⟨u, rfl⟩ := hin.1 z rfl
     cases hf
    | inl ls =>
     obtain ⟨rfl, hal⟩ := hin.2 ls rfl
     obtain ⟨_, rfl⟩ := Prod.mk.inj (Sum.inl.inj (oi hf))
     rw [e1]
     refine ⟨⟨by omega, by omega⟩, by simp only; omega, fun k k0 k1 => ?_⟩
     simp only at k1 ⊢
     by_cases hk : k < s.1
     ·obtain ⟨p', A', w', b1, b2, b3, b4, b5⟩ := i3 k k0 hk
      refine ⟨p', A', w', b1, b2, b3, ?_, fun j j0 j1 => ?_⟩
      ·rw [nth_pre (by omega) (by omega)]; exact b4
      ·rw [nth_pre (by omega) (by omega), nth_pre (by omega) (by omega)]; exact b5 j j0 j1
     ·obtain rfl : k = s.1 := by omega
      exact ⟨p, A, v, a2, a3, a4, nth_last (by omega), fun j j0 j1 => hal j j0 j1⟩
   ·cases hb : decide (j < ((s.2 ++ [(⟨A, v⟩ : St144)]).length : Int)) with
    | false => rw [hb] at hg; cases hg
    | true =>
     rw [hb] at hg
     simp only [cond_true] at hg
     obtain ⟨_, hg⟩ := asrt hg
     obtain ⟨_, hg⟩ := asrt hg
     obtain ⟨_, hg⟩ := asrt hg
     obtain ⟨_, hg⟩ := asrt hg
     obtain ⟨y5, c1, hg⟩ := bindS hg
     cases y5 with
     | true => cases hg
     | false =>
      have hlt := dTT hb
      obtain rfl := Sum.inl.inj (oi hg)
      have e2 : IntKind.wrap .i64 (j + 1) = j + 1 := w64 (by omega) (by omega)
      refine ⟨by omega, fun q q0 q1 q2 => ?_⟩
      rw [e2] at q1
      by_cases hq : q < j
      ·exact hj.2 q q0 hq q2
      ·obtain rfl : q = j := by omega
       exact c1
   ·cases hb : decide (j < ((s.2 ++ [(⟨A, v⟩ : St144)]).length : Int)) with
    | false =>
     rw [hb] at hg
     have hge := dFF hb
     obtain rfl := Sum.inr.inj (oi hg)
     refine ⟨fun z e => (by cases e), fun ls e => ?_⟩
     obtain rfl := Sum.inl.inj e
     exact ⟨rfl, fun q q0 q1 => hj.2 q q0 (by omega) q1⟩
    | true =>
     rw [hb] at hg
     simp only [cond_true] at hg
     obtain ⟨_, hg⟩ := asrt hg
     obtain ⟨_, hg⟩ := asrt hg
     obtain ⟨_, hg⟩ := asrt hg
     obtain ⟨_, hg⟩ := asrt hg
     obtain ⟨y5, c1, hg⟩ := bindS hg
     cases y5 with
     | false => cases hg
     | true =>
      obtain rfl := Sum.inr.inj (oi hg)
      exact ⟨fun z e => ⟨_, (Sum.inr.inj e).symm⟩, fun ls e => by cases e⟩
  ·cases e
 ·rcases nstep_cases hf with ⟨hl, e⟩ | ⟨_, ⟨a, e⟩ | e⟩
  ·intro _
   have : s.1 = x.Locale_.Comps_.length := by have := hi.1.2; omega
   refine ⟨s.2, ?_⟩
   rw [← this]; exact hi
  ·cases e
  ·obtain rfl := Sum.inr.inj e; intro h; cases h
end Go.Proofs.YtcapcgbamehojaaGreatDoor
