/-
 What those functions come to, told by plain functions of lists and numbers. Conditions: as each theorem says.
-/
import Derived.Test.YtcapcgbamehojaaGreatDoorGd
import Derived.Test.YtcapcgbamehojaaGreatDoorSyZ
namespace Go.Proofs.YtcapcgbamehojaaGreatDoor
open Go Go.Sy Go.RowKit Go.ChangeShapes Go.WideShapes Go.ChangeAt
set_option linter.unusedVariables false
set_option linter.unusedSimpArgs false
set_option maxRecDepth 100000
set_option maxHeartbeats 4000000
/-! What always answers. -/
theorem w0w {S O : Type} {step : S → Option (S ⊕ O)} (I : S → Prop) (μ : S → Nat) (post : O → Prop) {s0 : S} (h0 : I s0) (hb : μ s0 < 18446744073709551616)
    (hs : ∀ s, I s → (∃ s', step s = some (.inl s') ∧ I s' ∧ μ s' < μ s) ∨ ∃ o, step s = some (.inr o) ∧ post o) : ∃ o, a0q step big s0 = some o ∧ post o := by
  have key : ∀ m s, I s → μ s < m → ∃ o, a0q step m s = some o ∧ post o := by
    intro m
    induction m with
    | zero => intro s _ h; omega
    | succ m ih =>
      intro s hi hm
      rcases hs s hi with ⟨s', h1, h2, h3⟩ | ⟨o, h1, h2⟩
      · rw [d0v h1]; exact ih s' h2 (by omega)
      · exact ⟨o, e0P h1, h2⟩
  exact key big s0 h0 hb
def Tot {α : Type} (x : Option α) (p : α → Prop) : Prop := ∃ o, x = some o ∧ p o
theorem tR {α : Type} {a : α} {p : α → Prop} (h : p a) : Tot (some a) p := ⟨a, rfl, h⟩
theorem tB {α β : Type} {x : Option α} {k : α → Option β} {p : α → Prop} {q : β → Prop} (h : Tot x p) (hk : ∀ o, p o → Tot (k o) q) : Tot (Option.bind x k) q := by
  obtain ⟨o, rfl, h⟩ := h; exact hk o h
theorem tI {α : Type} {b : Bool} {t e : Option α} {p : α → Prop} (ht : b = true → Tot t p) (he : b = false → Tot e p) : Tot (bif b then t else e) p := by
  cases b with
  | true => exact ht rfl
  | false => exact he rfl
theorem tY {α : Type} {b : Bool} {t e : Option α} {p : α → Prop} (h : b = true) (ht : Tot t p) : Tot (bif b then t else e) p := by subst h; exact ht
theorem tN {α : Type} {b : Bool} {t e : Option α} {p : α → Prop} (h : b = false) (he : Tot e p) : Tot (bif b then t else e) p := by subst h; exact he
theorem Tot.mono {α : Type} {x : Option α} {p q : α → Prop} (h : Tot x p) (hq : ∀ o, p o → q o) : Tot x q := by obtain ⟨o, h1, h2⟩ := h; exact ⟨o, h1, hq o h2⟩
def z0E {S X : Type} (k : S → Option X) (p : X → Prop) : S ⊕ X → Prop
  | .inl s => Tot (k s) p
  | .inr r => p r
theorem tJ {S X : Type} {x : Option (S ⊕ X)} {k : S → Option X} {p : X → Prop} (h : Tot x (z0E k p)) : Tot (Option.bind x (a0i k)) p := by
  obtain ⟨o, rfl, h⟩ := h
  cases o with
  | inl s => exact h
  | inr r => exact ⟨r, rfl, h⟩
theorem tL {S O : Type} {step : S → Option (S ⊕ O)} (I : S → Prop) (μ : S → Nat) {post : O → Prop} {s0 : S} (h0 : I s0) (hb : μ s0 < 18446744073709551616)
    (hs : ∀ s, I s → Tot (step s) (fun x => match x with | .inl s' => I s' ∧ μ s' < μ s | .inr o => post o)) : Tot (a0q step big s0) post := by
  refine w0w I μ post h0 hb (fun s hi => ?_)
  obtain ⟨x, h1, h2⟩ := hs s hi
  cases x with
  | inl s' => exact .inl ⟨s', h1, h2⟩
  | inr o => exact .inr ⟨o, h1, h2⟩
theorem Tot.any {α : Type} {x : Option α} {p : α → Prop} (h : Tot x p) : Tot x (fun _ => True) := h.mono (fun _ _ => trivial)
theorem dTT {p : Prop} [Decidable p] (h : decide p = true) : p := of_decide_eq_true h
theorem dFF {p : Prop} [Decidable p] (h : decide p = false) : ¬ p := of_decide_eq_false h
theorem tM {α β γ : Type} {x : α ⊕ β} {f : α → Option γ} {g : β → Option γ} {p : γ → Prop} (hf : ∀ a, x = .inl a → Tot (f a) p) (hg : ∀ b, x = .inr b → Tot (g b) p) : Tot (Sum.elim f g x) p := by
  cases x with
  | inl a => exact hf a rfl
  | inr b => exact hg b rfl
def t0b {α β : Type} (p : α → Prop) : α ⊕ β → Prop
  | .inl a => p a
  | .inr _ => True
theorem tS {α β γ : Type} {x : Option (α ⊕ β)} {f : α → Option γ} {g : β → Option γ} {p : α → Prop} {q : γ → Prop} (h : Tot x (t0b p)) (hf : ∀ a, p a → Tot (f a) q) (hg : ∀ b, Tot (g b) q) : Tot (Option.bind x fun y => Sum.elim f g y) q := by
  obtain ⟨o, rfl, h⟩ := h
  cases o with
  | inl a => exact hf a h
  | inr b => exact hg b
theorem tW {S O : Type} {step : S → Option (S ⊕ O)} (ix : S → Int) (n : Nat) (I : S → Prop) {post : O → Prop} {s0 : S} (hn : n ≤ 4294967296) (h0 : I s0 ∧ 0 ≤ ix s0 ∧ ix s0 ≤ n)
    (hs : ∀ s, I s → 0 ≤ ix s → ix s < n → Tot (step s) (fun x => match x with | .inl s' => I s' ∧ ix s' = ix s + 1 | .inr o => post o)) (he : ∀ s, I s → ix s = n → Tot (step s) (fun x => match x with | .inl _ => False | .inr o => post o)) : Tot (a0q step big s0) post := by
  refine tL (fun s => I s ∧ 0 ≤ ix s ∧ ix s ≤ n) (fun s => ((n : Int) - ix s).toNat) h0 (by omega) (fun s hi => ?_)
  by_cases h : ix s = n
  · refine Tot.mono (he s hi.1 h) (fun o ho => ?_)
    cases o with
    | inl _ => exact absurd ho id
    | inr _ => exact ho
  · refine Tot.mono (hs s hi.1 hi.2.1 (by omega)) (fun o ho => ?_)
    cases o with
    | inl s' => exact ⟨⟨ho.1, by rw [ho.2]; omega, by rw [ho.2]; omega⟩, by rw [ho.2]; omega⟩
    | inr _ => exact ho
def jp {S R E : Type} (p : S → Prop) : S ⊕ (R ⊕ E) → Prop
  | .inl s => p s
  | .inr (.inl _) => False
  | .inr (.inr _) => True
theorem tE {S R E : Type} {x : Option (S ⊕ (R ⊕ E))} {k : S → Option (R ⊕ E)} {p : S → Prop} {q : R → Prop} (h : Tot x (jp p)) (hk : ∀ s, p s → Tot (k s) (t0b q)) : Tot (Option.bind x (a0i k)) (t0b q) := by
  obtain ⟨o, rfl, h⟩ := h
  match o, h with
  | .inl s, h => exact hk s h
  | .inr (.inr e), _ => exact ⟨_, rfl, trivial⟩
/-! Patterns are read, or not: it answers. -/
def ra (l : List Int) (i : Int) : Prop := 0 ≤ i ∧ i ≤ (l.length : Int)
section
variable {l : List Int} (hl : l.length ≤ 100000) {b m p k d : Int}
include hl
theorem x0W {c on i : Int} (h : ra l i) (ho : 0 ≤ on ∧ on ≤ 1) : Tot (a0I c on l i b m p k d) (fun r => r = true → i + on < l.length) := by
  obtain ⟨h0, h1⟩ := h
  unfold a0I
  rw [w64 (n := i + on) (by omega) (by omega)]
  refine tB (p := fun r => r = true → i + on < l.length) ?_ (fun _ h => tR h)
  refine tI (fun h => ?_) (fun _ => tR (fun h => by cases h))
  exact tY (a0Z (by omega) (dTT h)) (tR (fun _ => dTT h))
theorem v0m {c i : Int} (h : ra l i) : Tot (a0j c l i b m p k d) (fun r => (r.1 = true ∧ r.2 = i + 1 ∧ i < l.length) ∨ (r.1 = false ∧ r.2 = i)) := by
  unfold a0j
  refine tB (x0W hl h (by omega)) (fun y hy => ?_)
  obtain ⟨h0, h1⟩ := h
  cases y with
  | false => exact tR (.inr ⟨rfl, rfl⟩)
  | true =>
    have := hy rfl
    exact tR (.inl ⟨rfl, w64 (by omega) (by omega), by omega⟩)
theorem t0i {c i : Int} (h : ra l i) : Tot (a0j c l i b m p k d) (fun r => ra l r.2 ∧ i ≤ r.2) := by
  refine (v0m hl h).mono (fun r hr => ?_)
  obtain ⟨h0, h1⟩ := h
  rcases hr with ⟨_, e, e2⟩ | ⟨_, e⟩
  · exact ⟨⟨by omega, by omega⟩, by omega⟩
  · exact ⟨⟨by omega, by omega⟩, by omega⟩
theorem p0Q {c i : Int} (h : ra l i) : Tot (a0G c l i b m p k d) (fun r => ra l r.2 ∧ i ≤ r.2) := by
  unfold a0G
  refine tB (p := fun s : Int × Int => ra l s.2 ∧ i ≤ s.2) (tL (fun s : Int × Int => ra l s.2 ∧ i ≤ s.2) (fun s => ((l.length : Int) - s.2).toNat) ⟨h, ar _⟩ (by have := h.1; simp only; omega) (fun s hs => ?_)) (fun _ h => tR h)
  refine tB (v0m hl hs.1) (fun y hy => ?_)
  obtain ⟨⟨h0, h1⟩, h2⟩ := hs
  rcases hy with ⟨e1, e2, e3⟩ | ⟨e1, e2⟩
  · rw [e1, e2]; exact tR ⟨⟨⟨by simp only; omega, by simp only; omega⟩, by simp only; omega⟩, by simp only; omega⟩
  · rw [e1, e2]; exact tR ⟨⟨h0, h1⟩, h2⟩
theorem u0n {w i : Int} (h : ra l i) {x8 x18 x9 x10 x11 x12 x13 x14 x15 x16 x17 x19 x20} : Tot (a0J w l i b m p k d x8 x9 x10 x11 x12 x13 x14 x15 x16 x17 x18 x19 x20) (t0b fun r => ra l r.1 ∧ i ≤ r.1) := by
  unfold a0J
  refine tJ (tB (p := fun r : Bool × Int => ra l r.2 ∧ i ≤ r.2) (tI (fun _ => tR ⟨h, ar _⟩) (fun _ => tB (t0i hl h) (fun y hy => tR hy))) (fun s hs => tI (fun _ => tR hs) (fun _ => tR (show Tot _ _ from ?_))))
  refine tJ (tI (fun _ => tR trivial) (fun hd => tR (show Tot _ _ from ?_)))
  have := dFF hd
  obtain ⟨⟨h0, h1⟩, h2⟩ := hs
  have e : IntKind.wrap .i64 (s.2 + 1) = s.2 + 1 := w64 (by omega) (by omega)
  refine tY (a0Z h0 (by omega)) (tR ?_)
  rw [e]; exact ⟨⟨by simp only; omega, by simp only; omega⟩, by simp only; omega⟩
theorem w0Y {w i : Int} (h : ra l i) {x8 x9 x19 x10 x11 x12 x13 x14 x15 x16 x17 x18 x20 x21} : Tot (b0t w l i b m p k d x8 x9 x10 x11 x12 x13 x14 x15 x16 x17 x18 x19 x20 x21) (t0b fun r => ra l r.1 ∧ i ≤ r.1) :=
  u0n (x8 := x9) (x9 := x10) (x10 := x11) (x11 := x12) (x12 := x13) (x13 := x14) (x14 := x15) (x15 := x16) (x16 := x17) (x17 := x18) (x18 := x19) (x19 := x20) (x20 := x21) hl h
theorem y0P {w i : Int} (h : ra l i) {x8 x9 x10 x20 x11 x12 x13 x14 x15 x16 x17 x18 x19 x21 x22} : Tot (b0D w l i b m p k d x8 x9 x10 x11 x12 x13 x14 x15 x16 x17 x18 x19 x20 x21 x22) (t0b fun r => ra l r.1 ∧ i ≤ r.1) :=
  u0n (x8 := x10) (x9 := x11) (x10 := x12) (x11 := x13) (x12 := x14) (x13 := x15) (x14 := x16) (x15 := x17) (x16 := x18) (x17 := x19) (x18 := x20) (x19 := x21) (x20 := x22) hl h
theorem t0y {i : Int} (h : ra l i) : Tot (b0d l i b m p k d) (fun r => (r.1 = true ∧ r.2 = i + 2 ∧ i + 1 < l.length) ∨ (r.1 = false ∧ r.2 = i)) := by
  unfold b0d
  refine tJ (tB (p := fun r => r = false → i + 1 < l.length) (tB (x0W hl h (by omega)) (fun y _ => tI (fun _ => tR (fun h => by cases h)) (fun _ => tB (x0W hl h (by omega)) (fun z hz => tR (fun e => hz (by simpa using e)))))) (fun s hs => ?_))
  obtain ⟨h0, h1⟩ := h
  cases s with
  | true => exact tR (.inr ⟨rfl, rfl⟩)
  | false =>
    have := hs rfl
    exact tR (tR (.inl ⟨rfl, w64 (by omega) (by omega), this⟩))
theorem w0k {i : Int} {o : List a0b} (h : ra l i) (hi : i < l.length) (ho : (o.length : Int) ≤ i) : Tot (a0O l i b m p k d o) (t0b fun r => ra l r.1 ∧ i < r.1 ∧ (r.2.length : Int) ≤ r.1) := by
  unfold a0O
  refine tB (t0y hl h) (fun y hy => ?_)
  obtain ⟨h0, h1⟩ := h
  rcases hy with ⟨e1, e2, e3⟩ | ⟨e1, e2⟩
  · rw [e1, e2]
    exact tY rfl (tY (a0v (by simp; omega)) (tR ⟨⟨by simp only; omega, by simp only; omega⟩, by simp only; omega, by simp; omega⟩))
  · rw [e1, e2, w64 (n := i + 1) (by omega) (by omega)]
    refine tJ (tL (fun s : Int × List a0b => ra l s.1 ∧ i < s.1 ∧ (s.2.length : Int) ≤ s.1) (fun s => ((l.length : Int) - s.1).toNat) ⟨⟨by simp only; omega, by simp only; omega⟩, by simp only; omega, by simp only; omega⟩ (by simp only; omega) (fun s hs => ?_))
    refine tI (fun hlt => ?_) (fun _ => tR (tR trivial))
    have hlt := dTT hlt
    refine tB (t0y hl hs.1) (fun y hy => ?_)
    obtain ⟨⟨g0, g1⟩, g2, g3⟩ := hs
    rcases hy with ⟨e1, e2, e3⟩ | ⟨e1, e2⟩
    · rw [e1, e2]
      exact tY rfl (tY (a0v (by simp; omega)) (tR ⟨⟨⟨by simp only; omega, by simp only; omega⟩, by simp only; omega, by simp; omega⟩, by simp only; omega⟩))
    · rw [e1, e2]
      refine tB (v0m hl ⟨g0, g1⟩) (fun y hy => ?_)
      rcases hy with ⟨e1, e2, e3⟩ | ⟨e1, e2⟩
      · rw [e1, e2]
        exact tR ⟨⟨by simp only; omega, by simp only; omega⟩, by simp only; omega, by simp only; omega⟩
      · rw [e1, e2, w64 (n := s.1 + 1) (by omega) (by omega)]
        exact tN rfl (tY (a0Z g0 hlt) (tY (a0v (by simp; omega)) (tR ⟨⟨⟨by simp only; omega, by simp only; omega⟩, by simp only; omega, by simp; omega⟩, by simp only; omega⟩)))
omit hl in
theorem t0K (x : Int) : Tot (c0g x) (fun _ => True) := by
  unfold c0g
  refine tJ (tB (p := fun _ => True) ?_ (fun s _ => tI (fun _ => tR trivial) (fun _ => tR (tB (p := fun _ => True) ?_ (fun _ _ => tR trivial)))))
  · repeat' (first | exact tR trivial | refine tI (fun _ => ?_) (fun _ => ?_))
  · exact tI (fun _ => tR trivial) (fun _ => tR trivial)
theorem n0w {i : Int} (h : ra l i) : Tot (a0w l i b m p k d) (t0b fun r => ra l r.2 ∧ i ≤ r.2 ∧ (r.1.length : Int) ≤ r.2) := by
  unfold a0w
  refine tJ (tL (fun s : Int × List a0b => ra l s.1 ∧ i ≤ s.1 ∧ (s.2.length : Int) ≤ s.1) (fun s => ((l.length : Int) - s.1).toNat) ⟨h, ar _, by have := h.1; simpa using this⟩ (by have := h.1; simp only; omega) (fun s hs => ?_))
  refine tI (fun hlt => ?_) (fun _ => tR (tR hs))
  have hlt := dTT hlt
  obtain ⟨⟨g0, g1⟩, g2, g3⟩ := hs
  have e : IntKind.wrap .i64 (s.1 + 1) = s.1 + 1 := w64 (by omega) (by omega)
  rw [e]
  refine tY (a0Z g0 hlt) ?_
  have step : ∀ t : a0b, (ra l (s.1 + 1) ∧ i ≤ s.1 + 1 ∧ ((s.2 ++ [t]).length : Int) ≤ s.1 + 1) ∧ ((l.length : Int) - (s.1 + 1)).toNat < ((l.length : Int) - s.1).toNat := fun t => ⟨⟨⟨by omega, by omega⟩, by omega, by simp; omega⟩, by omega⟩
  have rm : ∀ t : a0b, room (s.2.length + ([t] : List a0b).length) = true := fun t => a0v (by simp; omega)
  iterate 4 refine tI (fun _ => tB (p := fun _ => True) (tY (rm _) (tR trivial)) (fun _ _ => tR (step _))) (fun _ => ?_)
  refine tJ (tB (x0W hl ⟨g0, g1⟩ (by omega)) (fun y hy => tI (fun _ => ?_) (fun _ => tB (t0K _) (fun _ _ => tI (fun _ => tR ⟨⟨g0, g1⟩, g2, g3⟩) (fun _ => tY (rm _) (tR (tR (step _))))))))
  exact tS (w0k hl ⟨g0, g1⟩ hlt g3) (fun a ha => tR ⟨⟨ha.1, by have := ha.2.1; simp only; omega, ha.2.2⟩, by have := ha.2.1; have := ha.1.2; simp only; omega⟩) (fun a => tR trivial)
theorem u0g {w i : Int} (h : ra l i) (ho : 0 ≤ w ∧ w ≤ 1) {x8 x9 x10 x11 x12 x13 x14 x15 x16 x17 x18 x19 x20 x21} : Tot (b0e w l i b m p k d x8 x9 x10 x11 x12 x13 x14 x15 x16 x17 x18 x19 x20 x21) (fun r => r = true → i + w < l.length) := by
  unfold b0e
  refine tB (p := fun r => r = true → i + w < l.length) (tB (x0W hl h ho) (fun y hy => ?_)) (fun _ h => tR h)
  refine tI (fun e => tR (fun _ => hy e)) (fun _ => tI (fun _ => tB (x0W hl h ho) (fun y hy => tR hy)) (fun _ => tR (fun h => by cases h)))
theorem v0o {w i : Int} (h : ra l i) {x8 x9 x10 x11 x12 x13 x14 x15 x16 x17 x18 x19 x20 x21} : Tot (b0f w l i b m p k d x8 x9 x10 x11 x12 x13 x14 x15 x16 x17 x18 x19 x20 x21) (fun r => r = true → i < l.length) := by
  unfold b0f
  refine tB (p := fun r => r = true → i < l.length) ?_ (fun _ h => tR h)
  refine tI (fun _ => tB (x0W hl h (by omega)) (fun y hy => tI (fun e => tB (u0g hl h (by omega)) (fun z _ => tR (fun _ => ?_))) (fun _ => tR (fun h => by cases h)))) (fun _ => tR (fun h => by cases h))
  have := hy e
  omega
theorem v0s {w v i : Int} (h : ra l i) {x9 x10 x11 x12 x13 x14 x15 x16 x17 x18 x19 x20 x21 x22} : Tot (a0L w v l i b m p k d x9 x10 x11 x12 x13 x14 x15 x16 x17 x18 x19 x20 x21 x22) (fun _ => True) := by
  unfold a0L
  refine tJ (tB (p := fun _ => True) (tI (fun _ => tR trivial) (fun _ => tB (v0o hl h) (fun _ _ => tR trivial))) (fun _ _ => tI (fun _ => tR trivial) (fun _ => tR (show Tot _ _ from ?_))))
  exact tJ (tB (p := fun _ => True) (tI (fun _ => tR trivial) (fun _ => tR trivial)) (fun _ _ => tI (fun _ => tR trivial) (fun _ => tR (tR trivial))))
theorem w0n {i : Int} (h : ra l i) {x7 x8 x9 x10 x11 x12 x13 x14 x15 x16 x17 x18 x19 x20} : Tot (a0P l i b m p k d x7 x8 x9 x10 x11 x12 x13 x14 x15 x16 x17 x18 x19 x20) (t0b fun r => ra l r.1 ∧ i ≤ r.1) := by
  unfold a0P
  refine tJ (tL (fun s : Int × Int × Int × Int × Int × Int => ra l s.2.2.1 ∧ i ≤ s.2.2.1) (fun s => ((l.length : Int) - s.2.2.1).toNat) ⟨h, ar _⟩ (by have := h.1; simp only; omega) (fun s hs => ?_))
  refine tJ (tB (p := fun r => r = true → s.2.2.1 < l.length) (tB (u0g hl hs.1 (by omega)) (fun y hy => tI (fun e => tR (fun _ => by have := hy e; omega)) (fun _ => tB (v0o hl hs.1) (fun y hy => tR hy)))) (fun r hr => tI (fun e => tR (show Tot _ _ from ?_)) (fun _ => tR (tJ (tI (fun _ => tR trivial) (fun _ => tR (show Tot _ _ from tI (fun _ => tR hs) (fun _ => tI (fun _ => tR hs) (fun _ => tR hs)))))))))
  have hlt := hr e
  refine tB (v0m hl hs.1) (fun y hy => ?_)
  obtain ⟨⟨g0, g1⟩, g2⟩ := hs
  rcases hy with ⟨e1, e2, e3⟩ | ⟨e1, e2⟩
  · rw [e1, e2]
    exact tR ⟨⟨⟨by simp only; omega, by simp only; omega⟩, by simp only; omega⟩, by simp only; omega⟩
  · rw [e1, e2]
    refine tB (p := fun t : Int × Int × Int => t.1 = s.2.2.1 + 1) (tB (v0m hl ⟨g0, g1⟩) (fun z hz => ?_)) (fun t ht => ?_)
    · rcases hz with ⟨e1, e2, e3⟩ | ⟨e1, e2⟩
      · rw [e1, e2]; exact tR rfl
      · rw [e1, e2, w64 (n := s.2.2.1 + 1) (by omega) (by omega)]; exact tR rfl
    · rw [ht]
      refine tB (v0s hl ⟨by omega, by omega⟩) (fun y _ => tM (fun a _ => tR ⟨⟨⟨by simp only; omega, by simp only; omega⟩, by simp only; omega⟩, by simp only; omega⟩) (fun a _ => tR trivial))
theorem t0e {i : Int} (h : ra l i) {x7 x8 x9 x10 x11 x12 x13 x14 x15 x16 x17 x18 x19 x20} : Tot (a0B l i b m p k d x7 x8 x9 x10 x11 x12 x13 x14 x15 x16 x17 x18 x19 x20) (t0b fun r => ra l r.1 ∧ i ≤ r.1) := by
  unfold a0B
  refine tB (t0i hl h) (fun y hy => tI (fun _ => tR hy) (fun _ => tB (p0Q hl hy.1) (fun z hz => tB (p0Q hl hz.1) (fun w hw => tI (fun _ => tR trivial) (fun _ => tR ⟨hw.1, ?_⟩)))))
  have := hy.2; have := hz.2; have := hw.2
  simp only; omega
theorem w0s {i : Int} (h : ra l i) {x7 x8 x9 x10 x11 x12 x13 x14 x15 x16 x17 x18 x19 x20} : Tot (a0Q l i b m p k d x7 x8 x9 x10 x11 x12 x13 x14 x15 x16 x17 x18 x19 x20) (t0b fun r => ra l r.1 ∧ i ≤ r.1) := by
  unfold a0Q
  refine tB (p0Q hl h) (fun y hy => ?_)
  refine tE (p := fun s => ra l s.1 ∧ i ≤ s.1) (tI (fun _ => tB (p0Q hl hy.1) (fun z hz => tR ⟨hz.1, bZ hy.2 hz.2⟩)) (fun _ => tS (w0n hl hy.1) (fun a ha => tS (t0e hl ha.1) (fun c hc => tR ⟨hc.1, bZ hy.2 (bZ ha.2 hc.2)⟩) (fun c => tR trivial)) (fun a => tR trivial))) (fun s hs => ?_)
  refine tB (t0i hl hs.1) (fun z hz => tI (fun _ => tR ⟨hz.1, bZ hs.2 hz.2⟩) (fun _ => tB (t0i hl hz.1) (fun u hu => tB (p0Q hl hu.1) (fun v hv => tI (fun _ => tR trivial) (fun _ => tR ⟨hv.1, bZ hs.2 (bZ hz.2 (bZ hu.2 hv.2))⟩)))))
theorem s0X {q : List Int} {i : Int} (hq : q.length ≤ 100000) (h : ra l i) {x8 x9 x10 x11 x12 x13 x14 x15 x16 x17 x18 x19 x20 x21 x22} : Tot (a0A q l i b m p k d x8 x9 x10 x11 x12 x13 x14 x15 x16 x17 x18 x19 x20 x21 x22) (t0b fun r => ra l r.1 ∧ r.2.1.length ≤ l.length ∧ r.2.2.length ≤ l.length) := by
  unfold a0A
  refine tS (n0w hl h) (fun a ha => tJ (tW (fun s : Int × Int => s.1) q.length (fun s => ra l s.2) (by omega) ⟨ha.1, ar _, by simp⟩ (fun s hs g0 g1 => ?_) (fun s hs e => ?_))) (fun a => tR trivial)
  · rw [dT g1]
    refine tJ (tY (a0Z g0 g1) (tB (t0i hl hs) (fun y hy => tI (fun _ => tR trivial) (fun _ => tR (tR ⟨hy.1, w64 (by omega) (by omega)⟩)))))
  · rw [dF (show ¬ s.1 < (q.length : Int) by omega)]
    refine tR (tS (n0w hl hs) (fun c hc => tR ⟨hc.1, ?_, ?_⟩) (fun c => tR trivial))
    · have := ha.2.2; have := ha.1.2; simp only; omega
    · have := hc.2.2; have := hc.1.2; simp only; omega
end
def o0c (x : a0M) (n : Nat) : Prop := x.d_.length ≤ n ∧ x.e_.length ≤ n ∧ x.l_.length ≤ n ∧ x.j_.length ≤ n
theorem x0r (l : List Int) (a b : Int) : (cut l a b).length ≤ l.length := by unfold cut; simp; omega
theorem u0k {l : List Int} (hl : l.length ≤ 100000) {i b m p k d : Int} (h : ra l i) : Tot (a0F l i b m p k d) (t0b fun r => o0c r.1 l.length) := by
  unfold a0F
  refine tS (u0n hl h) (fun y4 h4 => ?_) (fun _ => tR trivial)
  refine tS (n0w hl h4.1) (fun y11 h11 => ?_) (fun _ => tR trivial)
  refine tE (p := fun s : Int × Int × Int => ra l s.1) (tI (fun _ => tS (w0Y hl h11.1) (fun a ha => tR ha.1) (fun _ => tR trivial)) (fun _ => tR h11.1)) (fun s hs => ?_)
  refine tS (w0s hl hs) (fun y47 h47 => ?_) (fun _ => tR trivial)
  refine tY (l0T hs.1 h47.2 h47.1.2) ?_
  refine tS (w0Y hl h47.1) (fun y55 h55 => ?_) (fun _ => tR trivial)
  refine tS (n0w hl h55.1) (fun y62 h62 => ?_) (fun _ => tR trivial)
  refine tE (p := fun s : Int × Int × Int => ra l s.1) (tI (fun _ => tS (y0P hl h62.1) (fun a ha => tR ha.1) (fun _ => tR trivial)) (fun _ => tR h62.1)) (fun s2 hs2 => ?_)
  refine tE (p := fun s : Int × List a0b × List a0b × Bool => ra l s.1 ∧ s.2.1.length ≤ l.length ∧ s.2.2.1.length ≤ l.length) (tB (t0i hl hs2) (fun y hy => tI (fun _ => tS (s0X hl (aM (x0r ..) hl) hy.1) (fun a ha => tR ha) (fun _ => tR trivial)) (fun _ => tR ⟨hy.1, by simp, by simp⟩))) (fun s3 hs3 => ?_)
  refine tE (p := fun _ => True) (tI (fun _ => tR trivial) (fun _ => tR trivial)) (fun _ _ => tR ⟨?_, ?_, hs3.2.1, hs3.2.2⟩)
  · have := h11.2.2; have := h11.1.2; simp only; omega
  · have := h62.2.2; have := h62.1.2; simp only; omega
theorem y0I {l : List Int} (hl : l.length ≤ 100000) : Tot (j0y l) (fun r => o0c r.1 l.length) := by
  unfold j0y
  refine tB (show Tot e0A (fun _ => True) from tR trivial) (fun _ _ => tS (u0k hl ⟨ar _, by omega⟩) (fun a ha => tB (p := fun _ => True) (by unfold g0a; exact tR trivial) (fun _ _ => tR ha)) (fun a => tB (p := fun _ => True) (by unfold f0Z; exact tR trivial) (fun _ _ => tR ?_)))
  exact ⟨by simp, by simp, by simp, by simp⟩
/-! What the reader of patterns reads the document's reads. -/
theorem h0S {S S' O O' : Type} {f : S → Option (S ⊕ O)} {g : S' → Option (S' ⊕ O')} (G : O → Prop) (R : S → S' → Prop) (Ro : O → O' → Prop) (hn : ∀ s s' t, R s s' → f s = some (.inl t) → ∃ t', g s' = some (.inl t') ∧ R t t') (ho : ∀ s s' o, R s s' → f s = some (.inr o) → G o → ∃ o', g s' = some (.inr o') ∧ Ro o o') : ∀ (n : Nat) (s : S) (s' : S') (o : O), R s s' → a0q f n s = some o → G o → Tot (a0q g n s') (Ro o)
  | 0, _, _, _, _, h, _ => by cases h
  | n + 1, s, s', o, hR, h, hG => by
    simp only [a0q] at h ⊢
    cases hf : f s with
    | none => rw [hf] at h; cases h
    | some q =>
      rw [hf] at h
      cases q with
      | inl t =>
        obtain ⟨t', e, hR'⟩ := hn s s' t hR hf
        rw [e]; exact h0S G R Ro hn ho n t t' o hR' h hG
      | inr x =>
        obtain rfl := aV h
        obtain ⟨o', e, h'⟩ := ho s s' _ hR hf hG
        rw [e]; exact ⟨o', rfl, h'⟩
def atV (l : List Int) (i : Int) : Int := if i < l.length then nth l i else -1
theorem l0J {l : List Int} {i : Int} (h : 0 ≤ i) : a0s l i = some (atV l i) := by
  unfold a0s atV
  by_cases hi : i < l.length
  · rw [dT hi, if_pos hi, a0Z h hi]; rfl
  · rw [dF hi, if_neg hi]; rfl
theorem j0s {l : List Int} {i c : Int} (hc : atV l i = c) (h : c ≠ -1) : i < l.length ∧ nth l i = c := by
  unfold atV at hc
  split at hc
  · exact ⟨by assumption, hc⟩
  · exact absurd hc.symm h
theorem w0M {l : List Int} {i : Int} (h : i < l.length) : atV l i = nth l i := if_pos h
section
variable {l : List Int} (hl : l.length ≤ 100000) {b m p k d : Int}
include hl
theorem q0b {c on i : Int} (h : ra l i) (ho : 0 ≤ on ∧ on ≤ 1) (hc : c ≠ -1) : a0I c on l i b m p k d = some (decide (atV l (i + on) = c)) := by
  obtain ⟨h0, h1⟩ := h
  unfold a0I
  rw [w64 (n := i + on) (by omega) (by omega)]
  by_cases hi : i + on < l.length
  · rw [dT hi, a0Z (by omega) hi, w0M hi]; rfl
  · rw [dF hi, dF (fun e => hi (j0s e hc).1)]; rfl
theorem h0D {c i : Int} (h : ra l i) (hc : c ≠ -1) : a0j c l i b m p k d = some (if atV l i = c then (true, i + 1) else (false, i)) := by
  unfold a0j
  rw [q0b hl h (by omega) hc, aa, bD]
  obtain ⟨h0, h1⟩ := h
  by_cases e : atV l i = c
  · rw [dT e, if_pos e, w64 (by omega) (by omega)]; rfl
  · rw [dF e, if_neg e]; rfl
theorem j0A {c i : Int} (h : ra l i) (hc : c ≠ -1) {r : Int × Int} (hr : a0G c l i b m p k d = some r) : Tot (a0N l i c) (fun n => n = r.1 ∧ r.2 = i + r.1 ∧ 0 ≤ r.1 ∧ r.2 ≤ l.length) := by
  unfold a0G at hr
  unfold a0N
  obtain ⟨o, h1, h2⟩ := a0d hr
  obtain rfl := oi h2
  refine tB (h0S (fun _ => True) (fun (s : Int × Int) (n : Int) => n = s.1 ∧ s.2 = i + s.1 ∧ 0 ≤ s.1 ∧ s.2 ≤ (l.length : Int)) (fun (o : Int × Int) (n : Int) => n = o.1 ∧ o.2 = i + o.1 ∧ 0 ≤ o.1 ∧ o.2 ≤ (l.length : Int)) (fun s s' t hR hf => ?_) (fun s s' o hR hf _ => ?_) big (0, i) 0 o ⟨rfl, by simp, ar _, h.2⟩ h1 trivial) (fun n hn => tR hn)
  all_goals
    obtain ⟨rfl, h4, h5, h6⟩ := hR
    obtain ⟨g0, g1⟩ := h
    rw [h0D hl ⟨by omega, h6⟩ hc, aa] at hf
    rw [w64 (n := i + s.1) (by omega) (by omega), ← h4, l0J (by omega), aa]
    by_cases ec : atV l s.2 = c
    · rw [if_pos ec] at hf
      rw [dT ec]
      have hin := (j0s ec hc).1
      first
        | (obtain rfl := am (oi hf)
           have e1 : IntKind.wrap .i64 (s.1 + 1) = s.1 + 1 := w64 (by omega) (by omega)
           rw [e1]
           exact ⟨_, rfl, rfl, by simp only; omega, by simp only; omega, by simp only; omega⟩)
        | cases hf
    · rw [if_neg ec] at hf
      rw [dF ec]
      first
        | (obtain rfl := aF (oi hf)
           exact ⟨_, rfl, rfl, h4, h5, h6⟩)
        | cases hf
theorem x0L {P : a0M} (hP : 0 ≤ P.A_) {w i : Int} (h : ra l i) {x8 x18 x9 x10 x11 x12 x13 x14 x15 x16 x17} {r : Int × Int × Int} (hr : a0J w l i b m p k d x8 x9 x10 x11 x12 x13 x14 x15 x16 x17 x18 P.r_ P.A_ = some (.inl r)) : a0t P l i w = some (⟨P.d_, P.e_, P.l_, P.j_, P.y_, P.q_, P.m_, P.k_, P.i_, P.c_, P.f_, P.g_, P.n_, P.b_, P.E_, r.2.1, r.2.2⟩, r.1, true) := by
  unfold a0J at hr
  unfold a0t
  rw [h0D hl h (by omega)] at hr
  rw [l0J h.1]
  by_cases h0 : P.A_ = 0
  · rw [dF (not_not_intro h0)] at hr
    rw [dF (show ¬ P.A_ > 0 by omega)]
    simp only [cond_false, aa] at hr ⊢
    by_cases h1 : atV l i = 42
    · rw [if_pos h1] at hr
      rw [dF (not_not_intro h1)]
      simp only [aK, cond_false, aa, a0i] at hr ⊢
      have hin := (j0s h1 (by omega)).1
      have h0' := h.1
      rw [w64 (n := i + 1) (by omega) (by omega)]
      by_cases h2 : i + 1 = l.length
      · rw [dT h2] at hr; cases hr
      · rw [dF h2] at hr
        simp only [cond_false, aa, a0i] at hr
        rw [a0Z (by omega) (by omega)] at hr
        rw [dF (show ¬ i + 1 ≥ (l.length : Int) by omega), a0Z (by omega) (by omega)]
        obtain rfl := am (oi hr)
        simp only [cond_true, cond_false]
        rw [w64 (n := i + 2) (by omega) (by omega), w64 (n := i + 1 + 1) (by omega) (by omega), show i + 1 + 1 = i + 2 by omega]
    · rw [if_neg h1] at hr
      rw [dT h1]
      obtain rfl := am (oi hr)
      rfl
  · rw [dT h0] at hr
    rw [dT (show P.A_ > 0 by omega)]
    obtain rfl := am (oi hr)
    rfl
end
def spc (x : Int) : Bool := decide (x = 35 ∨ x = 64 ∨ x = 44 ∨ x = 46 ∨ x = 59 ∨ x = 42 ∨ x = 37 ∨ x = 45 ∨ x = 43 ∨ x = 39 ∨ x = 69 ∨ x = 164 ∨ (48 ≤ x ∧ x ≤ 57))
theorem n0V (x : Int) : c0g x = some (decide (x = 35 ∨ x = 64 ∨ x = 44 ∨ x = 46 ∨ x = 59 ∨ x = 42 ∨ x = 37 ∨ x = 45 ∨ x = 43 ∨ x = 39 ∨ x = 69 ∨ x = 164 ∨ (48 ≤ x ∧ x ≤ 57))) := by
  unfold c0g
  by_cases h1 : x = 35 <;> by_cases h2 : x = 64 <;> by_cases h3 : x = 44 <;> by_cases h4 : x = 46 <;> by_cases h5 : x = 59 <;> by_cases h6 : x = 42 <;> first
    | (simp [h1, h2, h3, h4, h5, h6, a0i]; done)
    | (by_cases h7 : x = 37 <;> by_cases h8 : x = 45 <;> by_cases h9 : x = 43 <;> by_cases h10 : x = 39 <;> by_cases h11 : x = 69 <;> by_cases h12 : x = 164 <;> by_cases h13 : 48 ≤ x <;> by_cases h14 : x ≤ 57 <;> simp [h1, h2, h3, h4, h5, h6, h7, h8, h9, h10, h11, h12, h13, h14, a0i])
theorem s0F (x : Int) : c0g x = some (spc x) := n0V x
theorem z0y (x : Int) : b0s x = some (spc x) := by
  unfold b0s
  generalize hS : ([35, 64, 44, 46, 59, 42, 37, 45, 43, 39, 69] : List UInt8) = S
  by_cases h1 : (48 ≤ x ∧ x ≤ 57) ∨ x = 164
  · have h2 : spc x = true := by unfold spc; rw [dT]; omega
    rw [h2]
    by_cases a : x ≥ 48 <;> by_cases b : x ≤ 57 <;> by_cases c : x = 164 <;> first | omega | simp [a, b, c, a0i]
  · have hA : (Option.bind (bif (decide (x ≥ 48)) then (bif (decide (x ≤ 57)) then (some true) else (some (decide (x = 164)))) else (some (decide (x = 164)))) fun (s33 : Bool) => (bif s33 then (some (.inr true)) else (some (.inl ()) : Option (Unit ⊕ Bool)))) = some (.inl ()) := by
      by_cases a : x ≥ 48 <;> by_cases b : x ≤ 57 <;> by_cases c : x = 164 <;> first | omega | simp [a, b, c]
    rw [hA]
    simp only [aa, a0i]
    obtain ⟨o, g1, g2⟩ := d0d (step := (fun (s92 : Int) => (bif (decide (s92 < 11)) then (bif inR s92 S.length then (bif (decide (((IntKind.wrap .i32 ((((S.getD (s92 : Int).toNat 0).toNat : Nat) : Int)))) = x)) then (some (.inr (.inr true))) else (some (.inl (IntKind.wrap .i64 (s92 + 1))))) else none) else (some (.inr (.inl ()))) : Option (Int ⊕ (Unit ⊕ Bool))))) 11 (fun i => (i : Int)) (fun i => ∀ j : Nat, j < i → nth ([35, 64, 44, 46, 59, 42, 37, 45, 43, 39, 69] : List Int) (j : Int) ≠ x) (fun o => o = if spc x = true then .inr true else .inl ()) (s0 := 0) rfl (fun j hj => by omega) (fun i hi hI => by
      have hv : IntKind.wrap .i32 (((S.getD (i : Int).toNat 0).toNat : Nat) : Int) = nth ([35, 64, 44, 46, 59, 42, 37, 45, 43, 39, 69] : List Int) (i : Int) := by
        subst hS
        have key : ∀ k : Fin 11, IntKind.wrap .i32 (((([35, 64, 44, 46, 59, 42, 37, 45, 43, 39, 69] : List UInt8).getD (k.val : Int).toNat 0).toNat : Nat) : Int) = nth ([35, 64, 44, 46, 59, 42, 37, 45, 43, 39, 69] : List Int) (k.val : Int) := by decide +kernel
        exact key ⟨i, hi⟩
      have hSl : S.length = 11 := by subst hS; rfl
      rw [dT (show (i : Int) < 11 by omega), g0v (by omega), hv, w64 (n := (i : Int) + 1) (by omega) (by omega)]
      simp only [cond_true]
      by_cases c : nth ([35, 64, 44, 46, 59, 42, 37, 45, 43, 39, 69] : List Int) (i : Int) = x
      · right
        rw [dT c]
        refine ⟨_, rfl, ?_⟩
        have hs : spc x = true := by
          unfold spc
          rw [dT]
          have hm : x ∈ ([35, 64, 44, 46, 59, 42, 37, 45, 43, 39, 69] : List Int) := by rw [← c, d0J (by simp; omega)]; exact aY _
          simp at hm
          omega
        rw [if_pos hs]
      · left
        rw [dF c]
        refine ⟨by simp, fun j hj => ?_⟩
        by_cases e : j = i
        · subst e; exact c
        · exact hI j (by omega)) (fun hI => ⟨.inl (), by rw [dF (by omega)]; rfl, by
      have n0 := hI 0 (by omega); have n1 := hI 1 (by omega); have n2 := hI 2 (by omega); have n3 := hI 3 (by omega); have n4 := hI 4 (by omega); have n5 := hI 5 (by omega); have n6 := hI 6 (by omega); have n7 := hI 7 (by omega); have n8 := hI 8 (by omega); have n9 := hI 9 (by omega); have n10 := hI 10 (by omega)
      have hs : spc x = false := by
        unfold spc
        refine dF ?_
        simp [nth] at n0 n1 n2 n3 n4 n5 n6 n7 n8 n9 n10
        omega
      rw [if_neg (by simp [hs])]⟩) (by omega)
    rw [g1, g2]
    cases spc x <;> rfl
def q0L (l : List Int) (s1 : Int × List a0b) : Option ((Int × List a0b) ⊕ (Int × List a0b)) :=
  (Option.bind (Option.bind (bif (decide (s1.1 < (l.length : Int))) then (bif inR s1.1 l.length then (bif (decide (¬ (nth l s1.1) = 39)) then (some true) else (Option.bind (a0s l (IntKind.wrap .i64 (s1.1 + 1))) fun y3 => (some (decide (y3 = 39))))) else none) else (some false)) fun (s4 : Bool) => (bif s4 then (some (.inl ())) else (some (.inr (.inr (s1.1, s1.2)))))) (a0i fun (s6 : Unit) => (bif inR s1.1 l.length then (bif room (s1.2.length + (([(⟨0, (nth l s1.1)⟩ : a0b)] : List a0b)).length) then (Option.bind (bif inR s1.1 l.length then (bif (decide ((nth l s1.1) = 39)) then (some (IntKind.wrap .i64 (s1.1 + 1))) else (some s1.1)) else none) fun (s5 : Int) => (some (.inl ((IntKind.wrap .i64 (s5 + 1)), (s1.2 ++ (([(⟨0, (nth l s1.1)⟩ : a0b)] : List a0b))))))) else none) else none)))
section
variable {l : List Int} (hl : l.length ≤ 100000) {b m p k d : Int}
include hl
theorem r0H {i : Int} (h : ra l i) : b0d l i b m p k d = some (if atV l i = 39 ∧ atV l (i + 1) = 39 then (true, i + 2) else (false, i)) := by
  unfold b0d
  rw [q0b hl h (by omega) (by omega), q0b hl h (by omega) (by omega), bD]
  obtain ⟨h0, h1⟩ := h
  by_cases e : atV l i = 39
  · by_cases f : atV l (i + 1) = 39
    · rw [dT e, dT f, if_pos ⟨e, f⟩, w64 (n := i + 2) (by omega) (by omega)]; rfl
    · rw [dT e, dF f, if_neg (fun h => f h.2)]; rfl
  · rw [dF e, if_neg (fun h => e h.1)]; rfl
theorem s0S {i : Int} {o : List a0b} (h : ra l i) (hq : atV l i = 39) {r : Int × List a0b} (hr : a0O l i b m p k d o = some (.inl r)) :
    (atV l (i + 1) = 39 ∧ r = (i + 2, o ++ [⟨0, 39⟩]) ∧ room (o.length + 1) = true) ∨ (atV l (i + 1) ≠ 39 ∧ Tot (a0q (q0L l) big (i + 1, o)) (fun q => q.1 + 1 = r.1 ∧ q.2 = r.2 ∧ ra l q.1 ∧ q.1 < l.length)) := by
  unfold a0O at hr
  rw [r0H hl h, aa] at hr
  by_cases h2 : atV l (i + 1) = 39
  · left
    rw [if_pos ⟨hq, h2⟩] at hr
    obtain ⟨h3, h4⟩ := b0p (show (bif room (o.length + 1) then some (Sum.inl (i + 2, o ++ [(⟨0, 39⟩ : a0b)])) else none) = some (.inl r) from hr)
    exact ⟨h2, (am (oi h4)).symm, h3⟩
  · right
    refine ⟨h2, ?_⟩
    rw [if_neg (fun e => h2 e.2)] at hr
    have hin := (j0s hq (by omega)).1
    obtain ⟨h0, h1⟩ := h
    simp only [cond_false] at hr
    rw [w64 (n := i + 1) (by omega) (by omega)] at hr
    obtain ⟨x, h3, h4⟩ := a0d hr
    cases x with
    | inl s1 => cases h4
    | inr z =>
      obtain rfl := oi h4
      refine (h0S (fun _ => True) (fun s s' : Int × List a0b => s = s' ∧ ra l s.1) (fun (x : Int ⊕ ((Int × List a0b) ⊕ Int)) (q : Int × List a0b) => ∀ r, x = .inr (.inl r) → q.1 + 1 = r.1 ∧ q.2 = r.2 ∧ ra l q.1 ∧ q.1 < l.length) (fun s s' t hR hf => ?_) (fun s s' o hR hf _ => ?_) big (i + 1, o) (i + 1, o) _ ⟨rfl, by simp only; omega, by simp only; omega⟩ h3 trivial).mono (fun q hq => hq r rfl)
      all_goals
        obtain ⟨rfl, g0, g1⟩ := hR
        unfold q0L
        by_cases hlt : s.1 < l.length
        · rw [dT hlt, r0H hl ⟨g0, g1⟩] at hf
          rw [dT hlt, a0Z g0 hlt, w64 (n := s.1 + 1) (by omega) (by omega), l0J (by omega)]
          simp only [cond_true, aa] at hf ⊢
          have hv := w0M hlt
          by_cases c1 : nth l s.1 = 39
          · rw [dF (not_not_intro c1), dT c1]
            by_cases c2 : atV l (s.1 + 1) = 39
            · rw [if_pos ⟨hv.trans c1, c2⟩] at hf
              have hin2 := (j0s c2 (by omega)).1
              rw [dT c2]
              simp only [cond_true, cond_false, aa, a0i] at hf ⊢
              obtain ⟨h5, h6⟩ := b0p hf
              rw [w64 (n := s.1 + 1 + 1) (by omega) (by omega), c1]
              have h5' : room (s.2.length + ([(⟨0, 39⟩ : a0b)] : List a0b).length) = true := h5
              rw [h5']
              first
                | (obtain rfl := am (oi h6)
                   exact ⟨(s.1 + 2, s.2 ++ [⟨0, 39⟩]), by rw [show s.1 + 1 + 1 = s.1 + 2 by omega]; rfl, rfl, by simp only; omega, by simp only; omega⟩)
                | cases h6
            · rw [if_neg (fun e => c2 e.2), h0D hl ⟨g0, g1⟩ (by omega)] at hf
              rw [dF c2]
              simp only [cond_true, cond_false, aa, a0i] at hf ⊢
              rw [if_pos (hv.trans c1)] at hf
              first
                | (obtain rfl := aF (oi hf)
                   exact ⟨_, rfl, fun r e => by obtain rfl := am (aF e); exact ⟨rfl, rfl, ⟨g0, g1⟩, hlt⟩⟩)
                | cases hf
          · rw [if_neg (fun e => c1 (hv.symm.trans e.1)), h0D hl ⟨g0, g1⟩ (by omega)] at hf
            rw [dT c1, dF c1]
            simp only [cond_true, cond_false, aa, a0i] at hf ⊢
            rw [if_neg (fun e => c1 (hv.symm.trans e))] at hf
            simp only [cond_false] at hf
            rw [a0Z g0 hlt] at hf
            obtain ⟨h5, h6⟩ := b0p (show (bif room (s.2.length + ([(⟨0, nth l s.1⟩ : a0b)] : List a0b).length) then _ else none) = _ from hf)
            rw [h5]
            rw [w64 (n := s.1 + 1) (by omega) (by omega)] at h6 ⊢
            first
              | (obtain rfl := am (oi h6)
                 exact ⟨_, rfl, rfl, by simp only; omega, by simp only; omega⟩)
              | cases h6
        · rw [dF hlt] at hf
          rw [dF hlt]
          first
            | (obtain rfl := aF (oi hf)
               exact ⟨_, rfl, fun r e => by cases e⟩)
            | cases hf
end
theorem v0C {l : List Int} (hl : l.length ≤ 100000) {b i : Int} (h : ra l i) {r : List a0b × Int} (hr : a0w l i b 1 2 3 4 = some (.inl r)) : Tot (a0E l i) (fun o => o = (r.1, r.2, true)) := by
  unfold a0w at hr
  unfold a0E
  obtain ⟨x, h3, h4⟩ := a0d hr
  refine tJ ((h0S (fun x => ∀ z, x ≠ .inr (.inr z)) (fun s s' : Int × List a0b => s = s' ∧ ra l s.1) (fun (x : (Int × List a0b) ⊕ ((List a0b × Int) ⊕ (Int × Int))) (q : (Int × List a0b) ⊕ (List a0b × Int × Bool)) => (∀ s, x = .inl s → q = .inl s) ∧ ∀ r, x = .inr (.inl r) → q = .inr (r.1, r.2, true)) (fun s s' t hR hf => ?_) (fun s s' o hR hf hG => ?_) big (i, []) (i, []) x ⟨rfl, h⟩ h3 (fun z e => by subst e; cases h4)).mono (fun q hq => ?_))
  case refine_3 =>
    cases x with
    | inl s =>
      obtain rfl := hq.1 s rfl
      obtain rfl := am (oi h4)
      exact tR rfl
    | inr z =>
      obtain rfl := oi h4
      obtain rfl := hq.2 r rfl
      rfl
  all_goals
    obtain ⟨rfl, g0, g1⟩ := hR
    by_cases hlt : s.1 < l.length
    · have hv := w0M hlt
      have e1 : IntKind.wrap .i64 (s.1 + 1) = s.1 + 1 := w64 (by omega) (by omega)
      rw [dT hlt, a0Z g0 hlt, s0F, e1] at hf
      rw [dT hlt, a0Z g0 hlt, z0y, e1]
      simp only [cond_true, aa] at hf ⊢
      unfold d0W
      have sgn : ∀ (c : Int) (t : a0b), (Option.bind (bif room (s.2.length + ([t] : List a0b).length) then some () else none) fun (_ : Unit) => (some (.inl (s.1 + 1, s.2 ++ [t])) : Option ((Int × List a0b) ⊕ ((Int × List a0b) ⊕ ((List a0b × Int) ⊕ (Int × Int)))))) = (bif room (s.2.length + ([t] : List a0b).length) then some (.inl (s.1 + 1, s.2 ++ [t])) else none) := fun c t => by cases room (s.2.length + ([t] : List a0b).length) <;> rfl
      by_cases c45 : nth l s.1 = 45
      · rw [dT c45] at hf ⊢
        simp only [cond_true, cond_false, aa, Int.reduceGT, decide_true] at hf ⊢
        rw [sgn 45] at hf
        obtain ⟨h5, h6⟩ := b0p hf
        rw [h5]
        first
          | (obtain rfl := am (oi h6)
             exact ⟨_, rfl, rfl, by simp only; omega, by simp only; omega⟩)
          | cases h6
      rw [dF c45] at hf ⊢
      simp only [cond_false] at hf ⊢
      by_cases c43 : nth l s.1 = 43
      · rw [dT c43] at hf ⊢
        simp only [cond_true, cond_false, aa, Int.reduceGT, decide_true] at hf ⊢
        rw [sgn 43] at hf
        obtain ⟨h5, h6⟩ := b0p hf
        rw [h5]
        first
          | (obtain rfl := am (oi h6)
             exact ⟨_, rfl, rfl, by simp only; omega, by simp only; omega⟩)
          | cases h6
      rw [dF c43] at hf ⊢
      simp only [cond_false] at hf ⊢
      by_cases c37 : nth l s.1 = 37
      · rw [dT c37] at hf ⊢
        simp only [cond_true, cond_false, aa, Int.reduceGT, decide_true] at hf ⊢
        rw [sgn 37] at hf
        obtain ⟨h5, h6⟩ := b0p hf
        rw [h5]
        first
          | (obtain rfl := am (oi h6)
             exact ⟨_, rfl, rfl, by simp only; omega, by simp only; omega⟩)
          | cases h6
      rw [dF c37] at hf ⊢
      simp only [cond_false] at hf ⊢
      by_cases c164 : nth l s.1 = 164
      · rw [dT c164] at hf ⊢
        simp only [cond_true, cond_false, aa, Int.reduceGT, decide_true] at hf ⊢
        rw [sgn 164] at hf
        obtain ⟨h5, h6⟩ := b0p hf
        rw [h5]
        first
          | (obtain rfl := am (oi h6)
             exact ⟨_, rfl, rfl, by simp only; omega, by simp only; omega⟩)
          | cases h6
      rw [dF c164] at hf ⊢
      simp only [cond_false] at hf ⊢
      by_cases c39 : nth l s.1 = 39
      · rw [q0b hl ⟨g0, g1⟩ (by omega) (by omega), bD, dT (hv.trans c39)] at hf
        rw [dF (not_not_intro c39), l0J (by omega)]
        simp only [cond_true, cond_false, aa] at hf ⊢
        obtain ⟨y, h5, h6⟩ := a0d hf
        obtain ⟨z, h7, h8⟩ := a0d h5
        cases z with
        | inr z =>
          obtain rfl := oi h8
          first
            | (obtain rfl := aF (oi h6)
               exact absurd rfl (hG _))
            | cases h6
        | inl z =>
          obtain rfl := oi h8
          first
            | (obtain rfl := am (oi h6)
               rcases s0S hl ⟨g0, g1⟩ (hv.trans c39) h7 with ⟨k1, k2, k3⟩ | ⟨k1, q, k2, k3, k4, k5, k6⟩
               · have hin2 := (j0s k1 (by omega)).1
                 rw [dT k1, k2, w64 (n := s.1 + 2) (by omega) (by omega)]
                 have k3' : room (s.2.length + ([(⟨0, 39⟩ : a0b)] : List a0b).length) = true := k3
                 rw [k3']
                 exact ⟨_, rfl, rfl, by simp only; omega, by simp only; omega⟩
               · rw [dF k1]
                 refine ⟨(z.1, z.2), (show Option.bind (a0q (q0L l) big (s.1 + 1, s.2)) _ = _ from ?_), rfl, by have := k5.1; simp only; omega, by simp only; omega⟩
                 rw [k2, aa, dF (show ¬ q.1 ≥ (l.length : Int) by omega), w64 (n := q.1 + 1) (by have := k5.1; omega) (by omega), k3, k4]
                 rfl)
            | cases h6
      · rw [q0b hl ⟨g0, g1⟩ (by omega) (by omega), bD, dF (fun e => c39 (hv.symm.trans e))] at hf
        rw [dT c39]
        simp only [cond_true, cond_false, aa] at hf ⊢
        cases hsp : spc (nth l s.1) with
        | true =>
          rw [hsp] at hf
          first
            | (obtain rfl := aF (oi hf)
               exact ⟨_, rfl, fun s' e => (by cases e), fun r e => by obtain rfl := am (aF e); rfl⟩)
            | cases hf
        | false =>
          rw [hsp] at hf
          obtain ⟨y, h5, h6⟩ := a0d hf
          obtain ⟨h7, h8⟩ := b0p h5
          obtain rfl := oi h8
          have h7' : room (s.2.length + ([(⟨0, nth l s.1⟩ : a0b)] : List a0b).length) = true := h7
          rw [h7']
          first
            | (obtain rfl := am (oi h6)
               exact ⟨_, rfl, rfl, by simp only; omega, by simp only; omega⟩)
            | cases h6
    · rw [dF hlt] at hf
      rw [dF hlt]
      first
        | (obtain rfl := aF (oi hf)
           exact ⟨_, rfl, fun s' e => (am e) ▸ rfl, fun r e => by cases e⟩)
        | cases hf
def isP (l : List Int) (i mi : Int) : Prop := atV l i = 48 ∨ (mi = 0 ∧ atV l i = 35)
def cm (l : List Int) (i n mi : Int) : Prop := 0 < n ∧ atV l i = 44 ∧ isP l (i + 1) mi
instance (l : List Int) (i mi : Int) : Decidable (isP l i mi) := inferInstanceAs (Decidable (_ ∨ _))
instance (l : List Int) (i n mi : Int) : Decidable (cm l i n mi) := inferInstanceAs (Decidable (_ ∧ _))
def w0X (P : a0M) (l : List Int) : Int × Int × Int × Int × List Int → Option ((Int × Int × Int × Int × List Int) ⊕ (a0M × Int × Bool)) :=
  (fun (s0 : Int × Int × Int × Int × (List Int)) => (Option.bind (a0s l s0.1) fun y0 => (Option.bind (a0s l (IntKind.wrap .i64 (s0.1 + 1))) fun y1 => (Option.bind (Option.bind (bif (decide (y0 = 35)) then (some (decide (s0.2.2.2.1 = 0))) else (some false)) fun (s3 : Bool) => (bif s3 then (some (.inr (.inl ((IntKind.wrap .i64 (s0.1 + 1)), (IntKind.wrap .i64 (s0.2.1 + 1)), (IntKind.wrap .i64 (s0.2.2.1 + 1)), s0.2.2.2.1, s0.2.2.2.2)))) else (some (.inl ())))) (a0i fun (s6 : Unit) => (bif (decide (y0 = 48)) then (some (.inl ((IntKind.wrap .i64 (s0.1 + 1)), (IntKind.wrap .i64 (s0.2.1 + 1)), s0.2.2.1, (IntKind.wrap .i64 (s0.2.2.2.1 + 1)), s0.2.2.2.2))) else (Option.bind (Option.bind (bif (decide (y0 = 44)) then (bif (decide (s0.2.1 > 0)) then (bif (decide (y1 = 48)) then (some true) else (bif (decide (y1 = 35)) then (some (decide (s0.2.2.2.1 = 0))) else (some false))) else (some false)) else (some false)) fun (s4 : Bool) => (bif s4 then (Option.bind (Option.bind (bif (decide ((s0.2.2.2.2.length : Int) ≥ 2)) then (bif inR 1 s0.2.2.2.2.length then (bif inR 1 s0.2.2.2.2.length then (some ((decide (¬ (nth s0.2.2.2.2 1) = s0.2.1)))) else none) else none) else (some false)) fun (s5 : Bool) => (bif s5 then (some (.inr (.inr (.inr ((⟨P.d_, P.e_, P.l_, P.j_, P.y_, s0.2.2.1, s0.2.2.2.1, P.k_, P.i_, P.c_, P.f_, P.g_, P.n_, P.b_, P.E_, P.r_, P.A_⟩ : a0M), s0.1, false))))) else (some (.inl ())))) (a0i fun (s7 : Unit) => (bif room (s0.2.2.2.2.length + ([s0.2.1] : List Int).length) then (some (.inr (.inl ((IntKind.wrap .i64 (s0.1 + 1)), 0, s0.2.2.1, s0.2.2.2.1, (s0.2.2.2.2 ++ ([s0.2.1] : List Int)))))) else none))) else (some (.inl ())))) (a0i fun (s8 : Unit) => (Option.bind (bif (decide ((s0.2.2.2.2.length : Int) = 1)) then (some (s0.2.1, s0.2.1)) else (some (P.c_, P.f_))) fun (s1 : Int × Int) => (Option.bind (bif (decide ((s0.2.2.2.2.length : Int) > 1)) then (bif inR 1 s0.2.2.2.2.length then (bif inR 1 s0.2.2.2.2.length then (some (s0.2.1, (nth s0.2.2.2.2 1))) else none) else none) else (some (s1.1, s1.2))) fun (s2 : Int × Int) => (some (.inr ((⟨P.d_, P.e_, P.l_, P.j_, P.y_, s0.2.2.1, s0.2.2.2.1, P.k_, P.i_, s2.1, s2.2, P.g_, P.n_, P.b_, P.E_, P.r_, P.A_⟩ : a0M), s0.1, (decide ((IntKind.wrap .i64 (s0.2.2.1 + s0.2.2.2.1)) > 0)))))))))))))))
theorem w0u {gs : List Int} {n i : Int} (h : i = (gs.length : Int)) : nth (gs ++ [n]) i = n := by subst h; exact h0g
theorem w0t {gs : List Int} {n i : Int} (h0 : 0 ≤ i) (h : i < (gs.length : Int)) : nth (gs ++ [n]) i = nth gs i := by
  obtain ⟨k, rfl⟩ := aL h0
  have hk : k < gs.length := by omega
  rw [d0J (by simp; omega), d0J hk]
  simp [List.getElem_append_left hk]
section
variable {l : List Int} (hl : l.length ≤ 100000) {b m p k d : Int}
include hl
theorem r0V {w i : Int} (h : ra l i) (ho : 0 ≤ w ∧ w ≤ 1) {x8 x9 x10 x11 x12 x13 x14 x15 x16 x17 x18 x19 x20 x21} : b0e w l i b m p k d x8 x9 x10 x11 x12 x13 x14 x15 x16 x17 x18 x19 x20 x21 = some (decide (isP l (i + w) x11)) := by
  unfold b0e
  rw [q0b hl h ho (by omega), q0b hl h ho (by omega)]
  have y : ∀ {q : Prop} [Decidable q], q → decide q = true := fun h => dT h
  by_cases e : atV l (i + w) = 48
  · rw [dT e, y (show isP l (i + w) x11 from .inl e)]; rfl
  · rw [dF e]
    by_cases f : x11 = 0
    · rw [dT f]
      by_cases g : atV l (i + w) = 35
      · rw [dT g, y (show isP l (i + w) x11 from .inr ⟨f, g⟩)]; rfl
      · rw [dF g, dF (show ¬ isP l (i + w) x11 from fun h => h.elim e (fun h => g h.2))]; rfl
    · rw [dF f, dF (show ¬ isP l (i + w) x11 from fun h => h.elim e (fun h => f h.1))]; rfl
theorem s0u {n i : Int} (h : ra l i) {x8 x9 x10 x11 x12 x13 x14 x15 x16 x17 x18 x19 x20 x21} : b0f n l i b m p k d x8 x9 x10 x11 x12 x13 x14 x15 x16 x17 x18 x19 x20 x21 = some (decide (cm l i n x11)) := by
  unfold b0f
  rw [q0b hl h (by omega) (by omega), r0V hl h (by omega), bD]
  by_cases e : 0 < n
  · rw [dT (show n > 0 from e)]
    by_cases f : atV l i = 44
    · rw [dT f]
      by_cases g : isP l (i + 1) x11
      · rw [dT g, dT (show cm l i n x11 from ⟨e, f, g⟩)]; rfl
      · rw [dF g, dF (show ¬ cm l i n x11 from fun h => g h.2.2)]; rfl
    · rw [dF f, dF (show ¬ cm l i n x11 from fun h => f h.2.1)]; rfl
  · rw [dF (show ¬ n > 0 from e), dF (show ¬ cm l i n x11 from fun h => e h.1)]; rfl
theorem o0k {c n i : Int} (h : ra l i) {x9 x10 x11 x12 x13 x14 x15 x16 x17 x18 x19 x20 x21 x22} : a0L c n l i b m p k d x9 x10 x11 x12 x13 x14 x15 x16 x17 x18 x19 x20 x21 x22 = some (if c = 0 ∨ ¬ cm l i n x12 then .inl x16 else if 1 < c ∧ n ≠ x16 then .inr () else .inl n) := by
  unfold a0L
  rw [s0u hl h]
  by_cases e : c = 0
  · rw [dT e, if_pos (.inl e)]; rfl
  · rw [dF e]
    by_cases f : cm l i n x12
    · rw [dT f, if_neg (fun h => h.elim e (fun h => h f))]
      by_cases g : 1 < c
      · rw [dT (show c > 1 from g)]
        by_cases q : n = x16
        · rw [dF (not_not_intro q), if_neg (fun h => h.2 q)]; rfl
        · rw [dT q, if_pos ⟨g, q⟩]; rfl
      · rw [dF (show ¬ c > 1 from g), if_neg (fun h => g h.1)]; rfl
    · rw [dF f, if_pos (.inr f)]; rfl
def z0G (t g1 g2 : Int) : Prop := (g1 = 0 ∧ g2 = 0) ∨ (0 < g1 ∧ 0 < g2 ∧ g1 < t ∧ (t ≤ g1 + g2 → g2 = g1))
def plF (l : List Int) (c n j ha mi g2 : Int) (gs : List Int) : Prop := ra l j ∧ (0 ≤ n ∧ 0 ≤ ha ∧ 0 ≤ mi ∧ c + ha + mi ≤ j) ∧ (gs.length : Int) = c ∧ (c = 0 → g2 = 0 ∧ n = ha + mi) ∧ (1 ≤ c → n < ha + mi ∧ (n = 0 → isP l j mi)) ∧ (c = 1 → cm l j n mi → g2 = n) ∧ (2 ≤ c → (cm l j n mi → nth gs 1 = n ∧ g2 = n) ∧ (¬ cm l j n mi → nth gs 1 = g2) ∧ 0 < nth gs 1 ∧ n + nth gs 1 < ha + mi)
omit hl in
theorem u0h {c n j ha mi g2 ha' mi' g2' : Int} {gs : List Int} (h : plF l c n j ha mi g2 gs) (hp : isP l j mi) (hj : j < l.length) (hs : ha' + mi' = ha + mi + 1 ∧ 0 ≤ ha' ∧ 0 ≤ mi') (hb : (g2' = g2 ∧ (c = 0 ∨ ¬ cm l (j + 1) (n + 1) mi')) ∨ (g2' = n + 1 ∧ c ≠ 0 ∧ cm l (j + 1) (n + 1) mi' ∧ (1 < c → n + 1 = g2))) : plF l c (n + 1) (j + 1) ha' mi' g2' gs := by
  obtain ⟨⟨r0, r1⟩, ⟨n0, h0, m0, hj2⟩, hc, a0, a1, a2, a3⟩ := h
  have hno : ¬ cm l j n mi := fun e => by
    have := e.2.1
    rcases hp with h | h
    · omega
    · have := h.2; omega
  refine ⟨⟨by omega, by omega⟩, ⟨by omega, by omega, by omega, by omega⟩, hc, fun e => ?_, fun e => ⟨by have := a1 e; omega, fun e => by omega⟩, fun e hcm => ?_, fun e => ⟨fun hcm => ?_, fun hcm => ?_, (a3 e).2.2.1, by have := (a3 e).2.2.2; omega⟩⟩
  · have := a0 e
    rcases hb with ⟨h, _⟩ | ⟨_, h, _⟩
    · omega
    · exact absurd e h
  · rcases hb with ⟨_, h | h⟩ | ⟨h, _⟩
    · omega
    · exact absurd hcm h
    · exact h
  · have := (a3 e).2.1 hno
    rcases hb with ⟨_, h | h⟩ | ⟨h, _, _, h'⟩
    · omega
    · exact absurd hcm h
    · have := h' (by omega); omega
  · have := (a3 e).2.1 hno
    rcases hb with ⟨h, _⟩ | ⟨_, _, h, _⟩
    · omega
    · exact absurd h hcm
omit hl in
theorem u0i {c n j ha mi g2 : Int} {gs : List Int} (h : plF l c n j ha mi g2 gs) (hm : cm l j n mi) : plF l (c + 1) 0 (j + 1) ha mi g2 (gs ++ [n]) := by
  obtain ⟨⟨r0, r1⟩, ⟨n0, h0, m0, hj2⟩, hc, a0, a1, a2, a3⟩ := h
  have hj := (j0s hm.2.1 (by omega)).1
  have hn := hm.1
  have hno : ¬ cm l (j + 1) 0 mi := fun e => by have := e.1; omega
  have hlt : 0 < ha + mi := by
    by_cases e : c = 0
    · have := a0 e; omega
    · have := a1 (by omega); omega
  refine ⟨⟨by omega, by omega⟩, ⟨by omega, by omega, by omega, by omega⟩, by simp; omega, fun e => by omega, fun _ => ⟨hlt, fun _ => hm.2.2⟩, fun _ e => absurd e hno, fun e => ⟨fun e => absurd e hno, fun _ => ?_, ?_, ?_⟩⟩
  all_goals
    by_cases e1 : c = 1
    · rw [show nth (gs ++ [n]) 1 = n from w0u (by omega)]
      have := a2 e1 hm
      have := a1 (by omega)
      omega
    · rw [show nth (gs ++ [n]) 1 = nth gs 1 from w0t (by omega) (by omega)]
      have := (a3 (by omega)).1 hm
      have := (a3 (by omega)).2.2
      omega
theorem s0U {P : a0M} (z1 : P.q_ = 0) (z2 : P.m_ = 0) (z3 : P.c_ = 0) (z4 : P.f_ = 0) {i : Int} (h : ra l i) {x7 x8 x11 x12 x15 x16 x17 x18 x19 x20} {r : Int × Int × Int × Int × Int} (hr : a0P l i b m p k d x7 x8 0 0 x11 x12 0 0 x15 x16 x17 x18 x19 x20 = some (.inl r)) :
    Tot (c0w P l i) (fun o => o = (⟨P.d_, P.e_, P.l_, P.j_, P.y_, r.2.1, r.2.2.1, P.k_, P.i_, r.2.2.2.1, r.2.2.2.2, P.g_, P.n_, P.b_, P.E_, P.r_, P.A_⟩, r.1, true)) ∧ ra l r.1 ∧ 0 ≤ r.2.1 ∧ 0 ≤ r.2.2.1 ∧ 0 < r.2.1 + r.2.2.1 ∧ r.2.1 + r.2.2.1 ≤ r.1 ∧ z0G (r.2.1 + r.2.2.1) r.2.2.2.1 r.2.2.2.2 := by
  unfold a0P at hr
  obtain ⟨x, h3, h4⟩ := a0d hr
  have key := h0S (fun x => ∀ z, x ≠ .inr (.inr z)) (fun (s : Int × Int × Int × Int × Int × Int) (t : Int × Int × Int × Int × List Int) => t.1 = s.2.2.1 ∧ t.2.1 = s.2.1 ∧ t.2.2.1 = s.2.2.2.1 ∧ t.2.2.2.1 = s.2.2.2.2.1 ∧ plF l s.1 s.2.1 s.2.2.1 s.2.2.2.1 s.2.2.2.2.1 s.2.2.2.2.2 t.2.2.2.2)
    (fun (x : (Int × Int × Int × Int × Int × Int) ⊕ ((Int × Int × Int × Int × Int) ⊕ (Int × Int × Int × Int × Int))) (q : a0M × Int × Bool) => ∃ c n j ha mi g2, x = .inl (c, n, j, ha, mi, g2) ∧ ∃ g1' g2', q = (⟨P.d_, P.e_, P.l_, P.j_, P.y_, ha, mi, P.k_, P.i_, g1', g2', P.g_, P.n_, P.b_, P.E_, P.r_, P.A_⟩, j, decide (ha + mi > 0)) ∧ (c = 0 → g1' = 0 ∧ g2' = 0 ∧ g2 = 0) ∧ (c = 1 → g1' = n ∧ g2' = n) ∧ (c ≠ 0 → c ≠ 1 → g1' = n ∧ g2' = g2) ∧ z0G (ha + mi) g1' g2' ∧ 0 ≤ ha ∧ 0 ≤ mi ∧ ra l j ∧ ha + mi ≤ j)
    (g := w0X P l) (fun s t u hR hf => ?_) (fun s t o hR hf hG => ?_) big (0, 0, i, 0, 0, 0) (i, 0, 0, 0, []) x ⟨rfl, rfl, rfl, rfl, h, by have := h.1; simp only; omega, rfl, fun _ => ⟨rfl, rfl⟩, fun e => by simp only at e; omega, fun e => by simp only at e; omega, fun e => by simp only at e; omega⟩ h3 (fun z e => by subst e; cases h4)
  · obtain ⟨q, k1, c, n, j, ha, mi, g2, rfl, g1', g2', rfl, k2, k3, k4, k5, k6, k7, k8, k9⟩ := key
    have e1 : IntKind.wrap .i64 (ha + mi) = ha + mi := w64 (by have := k8.2; omega) (by have := k8.2; omega)
    simp only [a0i] at h4
    rw [e1] at h4
    by_cases hz : ha + mi = 0
    · rw [dT hz] at h4; cases h4
    rw [dF hz] at h4
    simp only [cond_false, aa, a0i] at h4
    have hrr : r = (j, ha, mi, g1', g2') := by
      by_cases c0 : c = 0
      · rw [dT c0] at h4
        obtain ⟨rfl, rfl, rfl⟩ := k2 c0
        exact (am (oi h4)).symm
      · rw [dF c0] at h4
        by_cases c1 : c = 1
        · rw [dT c1] at h4
          obtain ⟨rfl, rfl⟩ := k3 c1
          exact (am (oi h4)).symm
        · rw [dF c1] at h4
          obtain ⟨rfl, rfl⟩ := k4 c0 c1
          exact (am (oi h4)).symm
    subst hrr
    refine ⟨⟨_, ?_, rfl⟩, k8, k6, k7, by simp only; omega, k9, k5⟩
    unfold c0w
    rw [z1, z2]
    rw [dT (show ha + mi > 0 by omega)] at k1
    exact k1
  all_goals
    obtain ⟨c, n, j, ha, mi, g2⟩ := s
    obtain ⟨j', n', ha', mi', gs⟩ := t
    obtain ⟨q1, q2, q3, q4, hF⟩ := hR
    replace q1 : j = j' := q1.symm
    replace q2 : n = n' := q2.symm
    replace q3 : ha = ha' := q3.symm
    replace q4 : mi = mi' := q4.symm
    subst q1 q2 q3 q4
    simp only at hF hf ⊢
    have hra := hF.1
    obtain ⟨r0, r1⟩ := hra
    have hb := hF.2.1
    have hgl := hF.2.2.1
    have hnt : n ≤ ha + mi := by
      by_cases e : c = 0
      · have := hF.2.2.2.1 e; omega
      · have := hF.2.2.2.2.1 (by omega); omega
    unfold w0X
    rw [r0V hl ⟨r0, r1⟩ (by omega), s0u hl ⟨r0, r1⟩, bD] at hf
    simp only [l0J r0]
    have e1 : IntKind.wrap .i64 (j + 1) = j + 1 := w64 (by omega) (by omega)
    rw [e1, l0J (by omega)]
    simp only [aa] at hf ⊢
    by_cases hp : isP l j mi
    · rw [dT hp] at hf
      simp only [cond_true, aa, a0i] at hf
      have h44 : atV l j ≠ 44 := fun e => by
        rcases hp with h | h
        · omega
        · have := h.2; omega
      have hj : j < l.length := by
        rcases hp with h | h
        · exact (j0s h (by omega)).1
        · exact (j0s h.2 (by omega)).1
      rw [h0D hl ⟨r0, r1⟩ (by omega), if_neg h44] at hf
      simp only [cond_false, aa] at hf
      rw [h0D hl ⟨r0, r1⟩ (by omega)] at hf
      have e2 : IntKind.wrap .i64 (n + 1) = n + 1 := w64 (by omega) (by omega)
      have e3 : IntKind.wrap .i64 (ha + 1) = ha + 1 := w64 (by omega) (by omega)
      have e4 : IntKind.wrap .i64 (mi + 1) = mi + 1 := w64 (by omega) (by omega)
      have fin : ∀ {ha2 mi2 : Int}, ha2 + mi2 = ha + mi + 1 → 0 ≤ ha2 → 0 ≤ mi2 → ∀ {q : Int ⊕ Unit}, q = (if c = 0 ∨ ¬ cm l (j + 1) (n + 1) mi2 then .inl g2 else if 1 < c ∧ n + 1 ≠ g2 then .inr () else .inl (n + 1)) → ∀ y, q = .inl y → plF l c (n + 1) (j + 1) ha2 mi2 y gs := fun {ha2 mi2} s1 s2 s3 {q} hq y hy => by
        refine u0h hF hp hj ⟨s1, s2, s3⟩ ?_
        rw [hq] at hy
        split at hy
        · rename_i hc; exact .inl ⟨(am hy).symm, hc⟩
        · rename_i hc
          split at hy
          · cases hy
          · rename_i hd
            exact .inr ⟨(am hy).symm, fun e => hc (.inl e), Decidable.byContradiction fun e => hc (.inr e), fun e => Decidable.byContradiction fun f => hd ⟨e, f⟩⟩
      rw [e2] at hf ⊢
      by_cases h48 : atV l j = 48
      · rw [if_pos h48] at hf
        simp only [cond_true, aa] at hf
        rw [e4, o0k hl ⟨by omega, by omega⟩, aa] at hf
        rw [dF (show ¬ atV l j = 35 by omega), dT h48, e4]
        simp only [cond_true, cond_false, aa, a0i]
        have hfin := fin (ha2 := ha) (mi2 := mi + 1) (by omega) (by omega) (by omega) rfl
        revert hf hfin
        generalize (if c = 0 ∨ ¬ cm l (j + 1) (n + 1) (mi + 1) then Sum.inl g2 else if 1 < c ∧ n + 1 ≠ g2 then Sum.inr () else Sum.inl (n + 1) : Int ⊕ Unit) = q
        intro hf hfin
        cases q with
        | inl y =>
          first
            | (obtain rfl := am (oi hf)
               exact ⟨_, rfl, rfl, rfl, rfl, rfl, hfin y rfl⟩)
            | cases hf
        | inr y =>
          first
            | (obtain rfl := aF (oi hf)
               exact absurd rfl (hG _))
            | cases hf
      · rw [if_neg h48] at hf
        have h35 : mi = 0 ∧ atV l j = 35 := hp.resolve_left h48
        simp only [cond_false, aa] at hf
        rw [e1, e3, o0k hl ⟨by omega, by omega⟩, aa] at hf
        rw [dT h35.2, dT h35.1, e3]
        simp only [cond_true, aa, a0i]
        have hfin := fin (ha2 := ha + 1) (mi2 := mi) (by omega) (by omega) (by omega) rfl
        revert hf hfin
        generalize (if c = 0 ∨ ¬ cm l (j + 1) (n + 1) mi then Sum.inl g2 else if 1 < c ∧ n + 1 ≠ g2 then Sum.inr () else Sum.inl (n + 1) : Int ⊕ Unit) = q
        intro hf hfin
        cases q with
        | inl y =>
          first
            | (obtain rfl := am (oi hf)
               exact ⟨_, rfl, rfl, rfl, rfl, rfl, hfin y rfl⟩)
            | cases hf
        | inr y =>
          first
            | (obtain rfl := aF (oi hf)
               exact absurd rfl (hG _))
            | cases hf
    · rw [dF hp] at hf
      have n48 : ¬ atV l j = 48 := fun e => hp (.inl e)
      have n35 : ¬ (mi = 0 ∧ atV l j = 35) := fun e => hp (.inr e)
      have r35 : (bif decide (atV l j = 35) then some (decide (mi = 0)) else some false) = some false := by
        by_cases e : atV l j = 35
        · rw [dT e, dF (fun f => n35 ⟨f, e⟩)]; rfl
        · rw [dF e]; rfl
      rw [r35, dF n48]
      simp only [cond_false, aa, a0i] at hf ⊢
      by_cases hc : cm l j n mi
      · rw [dT hc] at hf
        have hin := (j0s hc.2.1 (by omega)).1
        simp only [cond_true, aa, a0i] at hf
        rw [h0D hl ⟨r0, r1⟩ (by omega), if_pos hc.2.1, w64 (n := c + 1) (by omega) (by omega)] at hf
        rw [dT hc.2.1, dT (show n > 0 from hc.1)]
        have rn : (bif decide (atV l (j + 1) = 48) then some true else bif decide (atV l (j + 1) = 35) then some (decide (mi = 0)) else some false) = some true := by
          rcases hc.2.2 with e | e
          · rw [dT e]; rfl
          · rw [dT e.2, dT e.1]; cases decide (atV l (j + 1) = 48) <;> rfl
        have rg : (bif decide ((gs.length : Int) ≥ 2) then (bif inR 1 gs.length then bif inR 1 gs.length then some (decide ¬ nth gs 1 = n) else none else none) else some false) = some false := by
          by_cases e : (gs.length : Int) ≥ 2
          · rw [dT e, a0Z (by omega) (by omega), dF (not_not_intro ((hF.2.2.2.2.2.2 (by omega)).1 hc).1)]; rfl
          · rw [dF e]; rfl
        simp only [cond_true]
        rw [rn]
        simp only [cond_true, aa]
        rw [rg]
        simp only [cond_false, aa, a0i]
        rw [a0v (by simp; omega)]
        first
          | (obtain rfl := am (oi hf)
             exact ⟨_, rfl, rfl, rfl, rfl, rfl, u0i hF hc⟩)
          | cases hf
      · rw [dF hc] at hf
        have rc : (bif decide (atV l j = 44) then bif decide (n > 0) then bif decide (atV l (j + 1) = 48) then some true else bif decide (atV l (j + 1) = 35) then some (decide (mi = 0)) else some false else some false else some false) = some false := by
          by_cases e : atV l j = 44
          · rw [dT e]
            by_cases f : n > 0
            · rw [dT f, dF (fun g => hc ⟨f, e, .inl g⟩)]
              by_cases g : atV l (j + 1) = 35
              · rw [dT g, dF (fun q => hc ⟨f, e, .inr ⟨q, g⟩⟩)]; rfl
              · rw [dF g]; rfl
            · rw [dF f]; rfl
          · rw [dF e]; rfl
        rw [rc]
        simp only [cond_false, aa, a0i] at hf ⊢
        rw [w64 (n := ha + mi) (by omega) (by omega), z3, z4]
        first
          | (obtain rfl := aF (oi hf)
             obtain ⟨_, _, _, a0, a1, a2, a3⟩ := hF
             by_cases c0 : c = 0
             · rw [dF (show ¬ (gs.length : Int) = 1 by omega), dF (show ¬ (gs.length : Int) > 1 by omega)]
               exact ⟨_, rfl, c, n, j, ha, mi, g2, rfl, 0, 0, rfl, fun _ => ⟨rfl, rfl, (a0 c0).1⟩, fun e => by omega, fun e => absurd c0 e, .inl ⟨rfl, rfl⟩, by omega, by omega, ⟨r0, r1⟩, by omega⟩
             · have np : 0 < n := by
                 have := (a1 (by omega)).2
                 have : n ≠ 0 := fun e => hp (this e)
                 omega
               have nt := (a1 (by omega)).1
               by_cases c1 : c = 1
               · rw [dT (show (gs.length : Int) = 1 by omega), dF (show ¬ (gs.length : Int) > 1 by omega)]
                 exact ⟨_, rfl, c, n, j, ha, mi, g2, rfl, n, n, rfl, fun e => by omega, fun _ => ⟨rfl, rfl⟩, fun _ e => absurd c1 e, .inr ⟨np, np, nt, fun _ => rfl⟩, by omega, by omega, ⟨r0, r1⟩, by omega⟩
               · have q3 := a3 (by omega)
                 have q4 := q3.2.1 hc
                 rw [dF (show ¬ (gs.length : Int) = 1 by omega), dT (show (gs.length : Int) > 1 by omega), a0Z (by omega) (by omega), q4]
                 exact ⟨_, rfl, c, n, j, ha, mi, g2, rfl, n, g2, rfl, fun e => by omega, fun e => absurd e c1, fun _ _ => ⟨rfl, rfl⟩, .inr ⟨np, by omega, nt, fun _ => by omega⟩, by omega, by omega, ⟨r0, r1⟩, by omega⟩)
          | cases hf
end
def m0V (p : a0M) : Int × Int × Int × Int × Int × Int × Int × Int × Int × Bool := (p.q_, p.m_, p.k_, p.i_, p.c_, p.f_, p.g_, p.n_, p.b_, p.E_)
def n0M : Int × Int × Int × Int × Int × Int × Int × Int × Int × Bool → Prop := fun (ha, mi, nf, xf, g1, g2, ns, xs, ex, ep) =>
  0 ≤ ha ∧ 0 ≤ mi ∧ 0 ≤ nf ∧ nf ≤ xf ∧ 0 ≤ ns ∧ ns ≤ xs ∧ 0 ≤ ex ∧ (ex = 0 → ep = false) ∧ (ns = 0 → xs = 0 ∧ 0 < ha + mi) ∧ (0 < ns → ha = 0 ∧ mi = 0 ∧ nf = 0 ∧ xf = 0) ∧ z0G (ha + mi) g1 g2
def nP (P : a0M) (r : Int × Int × Int × Int × Int × Int × Int × Int × Int × Int × Bool) : a0M := ⟨P.d_, P.e_, P.l_, P.j_, P.y_, r.2.1, r.2.2.1, r.2.2.2.1, r.2.2.2.2.1, r.2.2.2.2.2.1, r.2.2.2.2.2.2.1, r.2.2.2.2.2.2.2.1, r.2.2.2.2.2.2.2.2.1, r.2.2.2.2.2.2.2.2.2.1, r.2.2.2.2.2.2.2.2.2.2, P.r_, P.A_⟩
def ptl (l : List Int) (b m p k d n : Int) (s0 : Int × Int × Int × Int × Int × Int × Int × Int) : Option ((Int × Int × Int × Int × Int × Int × Int × Int × Int × Int × Bool) ⊕ (Int × Int × Int × Int × Int × Int × Int × Int × Int × Int × Int × Bool)) :=
  (Option.bind (a0j 69 l s0.1 b m p k d) fun y8 => (bif (!y8.1) then (some (.inl (y8.2, s0.2.1, s0.2.2.1, s0.2.2.2.1, s0.2.2.2.2.1, s0.2.2.2.2.2.1, s0.2.2.2.2.2.2.1, n, s0.2.2.2.2.2.2.2, 0, false))) else (Option.bind (a0j 43 l y8.2 b m p k d) fun y6 => (Option.bind (a0G 48 l y6.2 b m p k d) fun y2 => (bif (decide (y2.1 = 0)) then (Option.bind (a0z y2.2 l y2.2 b m p k d) fun y11 => (some (.inr (y2.2, y2.2, s0.2.1, s0.2.2.1, s0.2.2.2.1, s0.2.2.2.2.1, s0.2.2.2.2.2.1, s0.2.2.2.2.2.2.1, n, s0.2.2.2.2.2.2.2, y2.1, y6.1)))) else (some (.inl (y2.2, s0.2.1, s0.2.2.1, s0.2.2.2.1, s0.2.2.2.2.1, s0.2.2.2.2.2.1, s0.2.2.2.2.2.2.1, n, s0.2.2.2.2.2.2.2, y2.1, y6.1))))))))
def rtl (l : List Int) (s0 : Int × (List a0b) × (List a0b) × (List a0b) × (List a0b) × Bool × Int × Int × Int × Int × Int × Int × Int × Int × Int × Bool × Int × Int) : Option (a0M × Int × Bool) :=
  (Option.bind (a0s l s0.1) fun y7 => (bif (decide (¬ y7 = 69)) then (some ((⟨s0.2.1, s0.2.2.1, s0.2.2.2.1, s0.2.2.2.2.1, s0.2.2.2.2.2.1, s0.2.2.2.2.2.2.1, s0.2.2.2.2.2.2.2.1, s0.2.2.2.2.2.2.2.2.1, s0.2.2.2.2.2.2.2.2.2.1, s0.2.2.2.2.2.2.2.2.2.2.1, s0.2.2.2.2.2.2.2.2.2.2.2.1, s0.2.2.2.2.2.2.2.2.2.2.2.2.1, s0.2.2.2.2.2.2.2.2.2.2.2.2.2.1, s0.2.2.2.2.2.2.2.2.2.2.2.2.2.2.1, s0.2.2.2.2.2.2.2.2.2.2.2.2.2.2.2.1, s0.2.2.2.2.2.2.2.2.2.2.2.2.2.2.2.2.1, s0.2.2.2.2.2.2.2.2.2.2.2.2.2.2.2.2.2⟩ : a0M), s0.1, true)) else (Option.bind (Option.bind (a0s l (IntKind.wrap .i64 (s0.1 + 1))) fun y8 => (bif (decide (y8 = 43)) then (some ((IntKind.wrap .i64 ((IntKind.wrap .i64 (s0.1 + 1)) + 1)), true)) else (some ((IntKind.wrap .i64 (s0.1 + 1)), s0.2.2.2.2.2.2.2.2.2.2.2.2.2.2.2.1)))) fun (s1 : Int × Bool) => (Option.bind (a0N l s1.1 48) fun y5 => (some ((⟨s0.2.1, s0.2.2.1, s0.2.2.2.1, s0.2.2.2.2.1, s0.2.2.2.2.2.1, s0.2.2.2.2.2.2.1, s0.2.2.2.2.2.2.2.1, s0.2.2.2.2.2.2.2.2.1, s0.2.2.2.2.2.2.2.2.2.1, s0.2.2.2.2.2.2.2.2.2.2.1, s0.2.2.2.2.2.2.2.2.2.2.2.1, s0.2.2.2.2.2.2.2.2.2.2.2.2.1, s0.2.2.2.2.2.2.2.2.2.2.2.2.2.1, y5, s1.2, s0.2.2.2.2.2.2.2.2.2.2.2.2.2.2.2.2.1, s0.2.2.2.2.2.2.2.2.2.2.2.2.2.2.2.2.2⟩ : a0M), (IntKind.wrap .i64 (s1.1 + y5)), (decide (y5 > 0))))))))
section
variable {l : List Int} (hl : l.length ≤ 100000) {b m p k d : Int}
include hl
theorem q0h {i : Int} (h : ra l i) {x7 x8 x9 x10 x13 x14 x15 x16 x17 x18 x19 x20} {r : Int × Int × Int} (hr : a0B l i b m p k d x7 x8 x9 x10 0 0 x13 x14 x15 x16 x17 x18 x19 x20 = some (.inl r)) :
    ra l r.1 ∧ 0 ≤ r.2.1 ∧ r.2.1 ≤ r.2.2 ∧ ((atV l i ≠ 46 ∧ r = (i, 0, 0)) ∨ (atV l i = 46 ∧ ∃ c, a0N l (i + 1) 48 = some r.2.1 ∧ a0N l (i + 1 + r.2.1) 35 = some c ∧ r.2.2 = r.2.1 + c ∧ r.1 = i + 1 + r.2.1 + c ∧ 0 ≤ c ∧ r.2.1 + c ≠ 0)) := by
  unfold a0B at hr
  rw [h0D hl h (by omega), aa] at hr
  by_cases e : atV l i = 46
  · rw [if_pos e] at hr
    have hin := (j0s e (by omega)).1
    have h0 := h.1
    simp only [aK, cond_false] at hr
    obtain ⟨y, h1, hr⟩ := a0d hr
    obtain ⟨a, e1, rfl, j1, j2, j3⟩ := j0A hl ⟨by omega, by omega⟩ (by omega) h1
    obtain ⟨z, h2, hr⟩ := a0d hr
    obtain ⟨c, e2, rfl, k1, k2, k3⟩ := j0A hl ⟨by omega, by omega⟩ (by omega) h2
    rw [w64 (n := y.1 + z.1) (by omega) (by omega)] at hr
    by_cases f : y.1 + z.1 = 0
    · rw [dT f] at hr; cases hr
    · rw [dF f] at hr
      obtain rfl := am (oi hr)
      exact ⟨⟨by simp only; omega, by simp only; omega⟩, by simp only; omega, by simp only; omega, .inr ⟨e, z.1, e1, by rw [← j1]; exact e2, rfl, by simp only; omega, k2, f⟩⟩
  · rw [if_neg e] at hr
    obtain rfl := am (oi hr)
    exact ⟨h, ar _, ar _, .inl ⟨e, rfl⟩⟩
theorem v0d {n j : Int} (h : ra l j) {ha mi nf xf g1 g2 xs pad pa : Int} {pre suf npre nsuf : List a0b} {neg : Bool} {r : Int × Int × Int × Int × Int × Int × Int × Int × Int × Int × Bool} (hr : ptl l b m p k d n (j, ha, mi, nf, xf, g1, g2, xs) = some (.inl r)) :
    ∃ ex ep, r.2 = (ha, mi, nf, xf, g1, g2, n, xs, ex, ep) ∧ 0 ≤ ex ∧ (ex = 0 → ep = false) ∧ ra l r.1 ∧ rtl l (j, pre, suf, npre, nsuf, neg, ha, mi, nf, xf, g1, g2, n, xs, 0, false, pad, pa) = some (⟨pre, suf, npre, nsuf, neg, ha, mi, nf, xf, g1, g2, n, xs, ex, ep, pad, pa⟩, r.1, true) := by
  unfold ptl at hr
  unfold rtl
  simp only at hr ⊢
  have h0 := h.1
  rw [h0D hl h (by omega), aa] at hr
  rw [l0J h0, aa]
  by_cases e : atV l j = 69
  · have hin := (j0s e (by omega)).1
    rw [if_pos e] at hr
    rw [dF (not_not_intro e), w64 (n := j + 1) (by omega) (by omega), l0J (by omega)]
    simp only [aK, cond_false, aa] at hr ⊢
    rw [h0D hl ⟨by omega, by omega⟩ (by omega), aa] at hr
    by_cases f : atV l (j + 1) = 43
    · have hin2 := (j0s f (by omega)).1
      rw [if_pos f] at hr
      rw [dT f, w64 (n := j + 1 + 1) (by omega) (by omega)]
      simp only [cond_true, aa] at hr ⊢
      obtain ⟨y, h1, hr⟩ := a0d hr
      obtain ⟨a, e1, rfl, j1, j2, j3⟩ := j0A hl ⟨by omega, by omega⟩ (by omega) h1
      rw [e1, aa, w64 (n := j + 1 + 1 + y.1) (by omega) (by omega)]
      by_cases g : y.1 = 0
      · rw [dT g] at hr; cases hr
      · rw [dF g] at hr
        obtain rfl := am (oi hr)
        rw [dT (show y.1 > 0 by omega), ← j1]
        exact ⟨y.1, true, rfl, j2, fun e => absurd e g, ⟨by simp only; omega, j3⟩, rfl⟩
    · rw [if_neg f] at hr
      rw [dF f]
      simp only [cond_false, aa] at hr ⊢
      obtain ⟨y, h1, hr⟩ := a0d hr
      obtain ⟨a, e1, rfl, j1, j2, j3⟩ := j0A hl ⟨by omega, by omega⟩ (by omega) h1
      rw [e1, aa, w64 (n := j + 1 + y.1) (by omega) (by omega)]
      by_cases g : y.1 = 0
      · rw [dT g] at hr; cases hr
      · rw [dF g] at hr
        obtain rfl := am (oi hr)
        rw [dT (show y.1 > 0 by omega), ← j1]
        exact ⟨y.1, false, rfl, j2, fun e => absurd e g, ⟨by simp only; omega, j3⟩, rfl⟩
  · rw [if_neg e] at hr
    rw [dT e]
    obtain rfl := am (oi hr)
    exact ⟨0, false, rfl, ar _, fun _ => rfl, h, rfl⟩
theorem s0W {P : a0M} (z : m0V P = (0, 0, 0, 0, 0, 0, 0, 0, 0, false)) {i : Int} (h : ra l i) {x7 x8 x19 x20} {r : Int × Int × Int × Int × Int × Int × Int × Int × Int × Int × Bool} (hr : a0Q l i b m p k d x7 x8 0 0 0 0 0 0 0 0 0 false x19 x20 = some (.inl r)) :
    Tot (b0U P l i) (fun o => o = (nP P r, r.1, true)) ∧ ra l r.1 ∧ n0M r.2 ∧ r.2.1 + r.2.2.1 ≤ l.length := by
  obtain ⟨pre, suf, npre, nsuf, neg, ha, mi, nf, xf, g1, g2, ns, xs, ex, ep, pad, pa⟩ := P
  simp only [m0V, aX] at z
  obtain ⟨rfl, rfl, rfl, rfl, rfl, rfl, rfl, rfl, rfl, rfl⟩ := z
  unfold a0Q at hr
  unfold b0U
  obtain ⟨y, h1, hr⟩ := a0d hr
  obtain ⟨n, e1, rfl, j1, j2, j3⟩ := j0A hl h (by omega) h1
  obtain ⟨q, h2, hr⟩ := a0d hr
  have h0 := h.1
  rw [e1, aa]
  have ci : ∀ {u : Int × Int × Int × Int × Int × Int × Int × Int × Int × Int × Bool} {a1 a2 a3 a4 a5 a6 a7 a8 ex : Int} {ep : Bool}, u.2 = (a1, a2, a3, a4, a5, a6, a7, a8, ex, ep) → nP (⟨pre, suf, npre, nsuf, neg, 0, 0, 0, 0, 0, 0, 0, 0, 0, false, pad, pa⟩ : a0M) u = ⟨pre, suf, npre, nsuf, neg, a1, a2, a3, a4, a5, a6, a7, a8, ex, ep, pad, pa⟩ := fun e => by unfold nP; rw [e]
  by_cases c : y.1 > 0
  · rw [dT c] at h2 ⊢
    simp only [cond_true] at h2 ⊢
    obtain ⟨z, h3, h2⟩ := a0d h2
    obtain ⟨a, e2, rfl, k1, k2, k3⟩ := j0A hl ⟨by omega, by omega⟩ (by omega) h3
    obtain rfl := oi h2
    rw [w64 (n := i + y.1) (by omega) (by omega), ← j1, e2]
    simp only [aa]
    rw [w64 (n := y.2 + z.1) (by omega) (by omega), ← k1]
    obtain ⟨ex, ep, f1, f2, f3, f4, f5⟩ := v0d (pre := pre) (suf := suf) (npre := npre) (nsuf := nsuf) (neg := neg) (pad := pad) (pa := pa) hl ⟨by omega, by omega⟩ (show ptl l b m p k d y.1 (z.2, 0, 0, 0, 0, 0, 0, IntKind.wrap .i64 (y.1 + z.1)) = some (.inl r) from hr)
    refine ⟨⟨_, f5, ?_⟩, f4, ?_⟩
    · rw [ci f1]
    · rw [f1, w64 (n := y.1 + z.1) (by omega) (by omega)]
      exact ⟨⟨ar _, ar _, ar _, ar _, j2, by omega, f2, f3, fun e => by omega, fun _ => ⟨rfl, rfl, rfl, rfl⟩, .inl ⟨rfl, rfl⟩⟩, by simp only; omega⟩
  · rw [dF c] at h2 ⊢
    simp only [cond_false] at h2 ⊢
    have y0 : y.1 = 0 := by omega
    obtain ⟨z, h3, h2⟩ := a0d h2
    cases z with
    | inr z => obtain rfl := oi h2; cases hr
    | inl z =>
      obtain ⟨⟨o, e2, rfl⟩, g1, g2, g3, g4, g5, g6⟩ := s0U (P := (⟨pre, suf, npre, nsuf, neg, 0, 0, 0, 0, 0, 0, 0, 0, 0, false, pad, pa⟩ : a0M)) hl rfl rfl rfl rfl ⟨by omega, by omega⟩ h3
      obtain ⟨u, h4, h2⟩ := a0d (show (Option.bind (a0B l z.1 b m p k d x7 x8 z.2.1 z.2.2.1 0 0 z.2.2.2.1 z.2.2.2.2 y.1 0 0 false x19 x20) _) = _ from h2)
      cases u with
      | inr u => obtain rfl := oi h2; cases hr
      | inl u =>
        obtain rfl := oi h2
        obtain ⟨f0, f1, f2, f3⟩ := q0h hl g1 h4
        rw [j1, y0, bD] at e2
        rw [e2, aa]
        simp only [aK, cond_false]
        rw [l0J g1.1, aa]
        obtain ⟨ex, ep, q1, q2, q3, q4, q5⟩ := v0d (pre := pre) (suf := suf) (npre := npre) (nsuf := nsuf) (neg := neg) (pad := pad) (pa := pa) hl f0 (show ptl l b m p k d y.1 (u.1, z.2.1, z.2.2.1, u.2.1, u.2.2, z.2.2.2.1, z.2.2.2.2, 0) = some (.inl r) from hr)
        have fin : Tot (rtl l (u.1, pre, suf, npre, nsuf, neg, z.2.1, z.2.2.1, u.2.1, u.2.2, z.2.2.2.1, z.2.2.2.2, 0, 0, 0, false, pad, pa)) (fun o => o = (nP (⟨pre, suf, npre, nsuf, neg, 0, 0, 0, 0, 0, 0, 0, 0, 0, false, pad, pa⟩ : a0M) r, r.1, true)) := by
          rw [y0] at q5 q1
          exact ⟨_, q5, by rw [ci q1]⟩
        refine ⟨?_, q4, ?_⟩
        · rcases f3 with ⟨w1, w2⟩ | ⟨w1, c', w2, w3, w4, w5, w6, w7⟩
          · rw [dF w1]
            rw [w2] at fin
            exact fin
          · have hin := (j0s w1 (by omega)).1
            have g1' := g1.1
            have f0' := f0.2
            rw [dT w1, w64 (n := z.1 + 1) (by omega) (by omega), w2]
            simp only [cond_true, aa]
            rw [w64 (n := z.1 + 1 + u.2.1) (by omega) (by omega), w3]
            simp only [aa]
            rw [w64 (n := u.2.1 + c') (by omega) (by omega), w64 (n := z.1 + 1 + u.2.1 + c') (by omega) (by omega), dF w7, ← w4, ← w5]
            exact fin
        · rw [q1]
          exact ⟨⟨g2, g3, f1, f2, by omega, by omega, q2, q3, fun _ => ⟨rfl, g4⟩, fun e => by omega, g6⟩, by have := g1.2; simp only; omega⟩
end
def inL (l : List Int) (c : Int) : Prop := c ∈ l ∨ c = 39 ∨ c = 0
def tkL (l : List Int) (ts : List a0b) : Prop := ∀ t ∈ ts, inL l t.R_
theorem m0k {l : List Int} {ts : List a0b} {t : a0b} (h : tkL l ts) (ht : inL l t.R_) : tkL l (ts ++ [t]) := fun u hu => by
  rcases aA.1 hu with hu | hu
  · exact h u hu
  · obtain rfl := List.mem_singleton.1 hu
    exact ht
theorem q0T {l : List Int} {i : Int} (h0 : 0 ≤ i) (h1 : i < l.length) : inL l (nth l i) := .inl (by
  obtain ⟨k, rfl⟩ := aL h0
  rw [d0J (by omega)]; exact aY _)
theorem k0S {S O : Type} {f : S → Option (S ⊕ O)} (I : S → Prop) {post : O → Prop} (hs : ∀ s s', I s → f s = some (.inl s') → I s') (he : ∀ s o, I s → f s = some (.inr o) → post o) : ∀ (n : Nat) (s : S) (o : O), I s → a0q f n s = some o → post o
  | 0, _, _, _, h => by cases h
  | n + 1, s, o, hi, h => by
    simp only [a0q] at h
    cases hf : f s with
    | none => rw [hf] at h; cases h
    | some q =>
      rw [hf] at h
      cases q with
      | inl s' => exact k0S I hs he n s' o (hs s s' hi hf) h
      | inr o' => obtain rfl := aV h; exact he s _ hi hf
section
variable {l : List Int} (hl : l.length ≤ 100000)
include hl
theorem q0M {i : Int} {o : List a0b} {q : Int × List a0b} (h0 : 0 ≤ i) (hi : i < l.length) (h1 : atV l (i + 1) ≠ 39) (ho : tkL l o) (h : a0q (q0L l) big (i + 1, o) = some q) (hq : q.1 < l.length) : q.2 ≠ [] ∧ tkL l q.2 := by
  have key := k0S (fun s : Int × List a0b => 0 ≤ s.1 ∧ tkL l s.2 ∧ (s.1 = i + 1 ∨ s.2 ≠ [])) (post := fun q : Int × List a0b => q.1 < l.length → q.2 ≠ [] ∧ tkL l q.2) (fun s s' hI hf => ?_) (fun s q hI hf => ?_) big _ q ⟨by simp only; omega, ho, .inl rfl⟩ h
  · exact key hq
  all_goals
    obtain ⟨g0, g1, g2⟩ := hI
    unfold q0L at hf
    by_cases hlt : s.1 < l.length
    · rw [dT hlt, a0Z g0 hlt] at hf
      have e1 : IntKind.wrap .i64 (s.1 + 1) = s.1 + 1 := w64 (by omega) (by omega)
      rw [e1] at hf
      simp only [cond_true] at hf
      obtain ⟨y, h3, hf⟩ := a0d hf
      cases y with
      | inr z =>
        obtain ⟨b, h4, h5⟩ := a0d h3
        cases b with
        | true => cases h5
        | false =>
          obtain rfl := aF (oi h5)
          first
            | (obtain rfl := aF (oi hf)
               intro _
               refine ⟨?_, g1⟩
               rcases g2 with g2 | g2
               · exfalso
                 have : nth l s.1 ≠ 39 := by rw [← w0M hlt, g2]; exact h1
                 rw [dT this] at h4; cases h4
               · exact g2)
            | cases hf
      | inl u =>
        simp only [a0i] at hf
        obtain ⟨_, hf⟩ := b0p hf
        obtain ⟨v, h4, hf⟩ := a0d hf
        first
          | (obtain rfl := am (oi hf)
             have hv : 0 ≤ v ∧ v ≤ s.1 + 1 := by
               by_cases e : nth l s.1 = 39
               · rw [dT e] at h4; obtain rfl := oi h4; omega
               · rw [dF e] at h4; obtain rfl := oi h4; omega
             refine ⟨by simp only; rw [w64 (n := v + 1) (by omega) (by omega)]; omega, m0k g1 (q0T g0 hlt), .inr (by simp)⟩)
          | cases hf
    · rw [dF hlt] at hf
      first
        | (obtain rfl := aF (oi hf)
           intro h; exact absurd h hlt)
        | cases hf
theorem u0e {i : Int} {o : List a0b} {q : Int × List a0b} (h0 : 0 ≤ i) (h : a0q (q0L l) big (i + 1, o) = some q) : 0 ≤ q.1 := by
  refine k0S (fun s : Int × List a0b => 0 ≤ s.1) (post := fun q : Int × List a0b => 0 ≤ q.1) (fun s s' g0 hf => ?_) (fun s q g0 hf => ?_) big _ q (by simp only; omega) h
  all_goals
    unfold q0L at hf
    obtain ⟨y, h3, hf⟩ := a0d hf
    obtain ⟨b, h4, h5⟩ := a0d h3
    cases b with
    | false =>
      obtain rfl := oi h5
      first
        | (obtain rfl := aF (oi hf); exact g0)
        | cases hf
    | true =>
      obtain rfl := oi h5
      simp only [a0i] at hf
      obtain ⟨hi, hf⟩ := b0p hf
      obtain ⟨_, hf⟩ := b0p hf
      obtain ⟨v, h6, hf⟩ := a0d hf
      obtain ⟨_, h6⟩ := b0p h6
      have hlt := (e0T.1 hi).2
      first
        | (obtain rfl := am (oi hf)
           have hv : 0 ≤ v ∧ v ≤ s.1 + 1 := by
             by_cases e : nth l s.1 = 39
             · rw [dT e, w64 (n := s.1 + 1) (by omega) (by omega)] at h6; obtain rfl := oi h6; omega
             · rw [dF e] at h6; obtain rfl := oi h6; omega
           simp only
           rw [w64 (n := v + 1) (by omega) (by omega)]; omega)
        | cases hf
theorem r0C {i j : Int} {ts : List a0b} (h : 0 ≤ i) (hr : a0E l i = some (ts, j, true)) : (ts = [] → j = i) ∧ tkL l ts := by
  unfold a0E at hr
  obtain ⟨x, h1, h2⟩ := a0d hr
  have key := k0S (fun s : Int × List a0b => 0 ≤ s.1 ∧ (s.2 = [] → s.1 = i) ∧ tkL l s.2) (post := fun x : (Int × List a0b) ⊕ (List a0b × Int × Bool) => (∀ s, x = .inl s → (s.2 = [] → s.1 = i) ∧ tkL l s.2) ∧ ∀ ts j, x = .inr (ts, j, true) → (ts = [] → j = i) ∧ tkL l ts) (fun s s' hI hf => ?_) (fun s q hI hf => ?_) big _ x ⟨h, fun _ => rfl, fun t ht => by cases ht⟩ h1
  · cases x with
    | inl s =>
      obtain ⟨rfl, rfl⟩ : s.2 = ts ∧ s.1 = j := by have := oi h2; exact ⟨congrArg Prod.fst this, congrArg (fun q : List a0b × Int × Bool => q.2.1) this⟩
      exact key.1 s rfl
    | inr z => obtain rfl := oi h2; exact key.2 ts j rfl
  all_goals
    obtain ⟨g0, g1, g2⟩ := hI
    by_cases hlt : s.1 < l.length
    · have e1 : IntKind.wrap .i64 (s.1 + 1) = s.1 + 1 := w64 (by omega) (by omega)
      have e2 : IntKind.wrap .i64 (s.1 + 2) = s.1 + 2 := w64 (by omega) (by omega)
      rw [dT hlt, a0Z g0 hlt, e1, e2, z0y, l0J (by omega)] at hf
      simp only [cond_true] at hf
      obtain ⟨y0, _, hf⟩ := a0d hf
      simp only [aa] at hf
      by_cases c0 : y0 > 0
      · rw [dT c0] at hf
        obtain ⟨_, hf⟩ := b0p hf
        first
          | (obtain rfl := am (oi hf)
             exact ⟨by simp only; omega, fun e => by simp at e, m0k g2 (.inr (.inr rfl))⟩)
          | cases hf
      rw [dF c0] at hf
      by_cases c39 : nth l s.1 = 39
      · rw [dF (not_not_intro c39)] at hf
        simp only [cond_false] at hf
        by_cases c2 : atV l (s.1 + 1) = 39
        · rw [dT c2] at hf
          obtain ⟨_, hf⟩ := b0p hf
          first
            | (obtain rfl := am (oi hf)
               exact ⟨by simp only; omega, fun e => by simp at e, m0k g2 (.inr (.inl rfl))⟩)
            | cases hf
        · rw [dF c2] at hf
          simp only [cond_false] at hf
          obtain ⟨q, h3, hf⟩ := a0d hf
          by_cases c3 : q.1 ≥ (l.length : Int)
          · rw [dT c3] at hf
            first
              | (obtain rfl := aF (oi hf)
                 exact ⟨fun s e => (by cases e), fun ts j e => (by cases e)⟩)
              | cases hf
          · rw [dF c3] at hf
            have hq := q0M hl g0 hlt c2 g2 h3 (by omega)
            first
              | (obtain rfl := am (oi hf)
                 have hq0 := u0e hl g0 h3
                 refine ⟨by simp only; rw [w64 (n := q.1 + 1) (by omega) (by omega)]; omega, fun e => absurd e hq.1, hq.2⟩)
              | cases hf
      · rw [dT c39] at hf
        simp only [cond_true] at hf
        cases hsp : spc (nth l s.1) with
        | true =>
          rw [hsp] at hf
          first
            | (obtain rfl := aF (oi hf)
               exact ⟨fun s e => (by cases e), fun ts' j' e => by
               have e := aF e
               have e1 : s.2 = ts' := congrArg Prod.fst e
               have e2 : s.1 = j' := congrArg (fun q : List a0b × Int × Bool => q.2.1) e
               rw [← e1, ← e2]; exact ⟨g1, g2⟩⟩)
            | cases hf
        | false =>
          rw [hsp] at hf
          obtain ⟨_, hf⟩ := b0p hf
          first
            | (obtain rfl := am (oi hf)
               exact ⟨by simp only; omega, fun e => by simp at e, m0k g2 (q0T g0 hlt)⟩)
            | cases hf
    · rw [dF hlt] at hf
      first
        | (obtain rfl := aF (oi hf)
           exact ⟨fun s' e => by obtain rfl := am e; exact ⟨g1, g2⟩, fun ts j e => by cases e⟩)
        | cases hf
end
abbrev N10 := Int × Int × Int × Int × Int × Int × Int × Int × Int × Bool
def mkP (pre suf npre nsuf : List a0b) (neg : Bool) (u : N10) (pd pa : Int) : a0M := ⟨pre, suf, npre, nsuf, neg, u.1, u.2.1, u.2.2.1, u.2.2.2.1, u.2.2.2.2.1, u.2.2.2.2.2.1, u.2.2.2.2.2.2.1, u.2.2.2.2.2.2.2.1, u.2.2.2.2.2.2.2.2.1, u.2.2.2.2.2.2.2.2.2, pd, pa⟩
def z10 : N10 := (0, 0, 0, 0, 0, 0, 0, 0, 0, false)
section
variable {l : List Int} (hl : l.length ≤ 100000)
include hl
theorem u0l {b m p k d w i pd pa : Int} (h : ra l i) {x8 x9 x10 x11 x12 x13 x14 x15 x16 x17 x18} {r : Int × Int × Int} (hr : a0J w l i b m p k d x8 x9 x10 x11 x12 x13 x14 x15 x16 x17 x18 pd pa = some (.inl r)) : (r = (i, pd, pa) ∧ (pa ≠ 0 ∨ atV l i ≠ 42)) ∨ (pa = 0 ∧ i + 1 < l.length ∧ r = (i + 2, nth l (i + 1), w)) := by
  unfold a0J at hr
  rw [h0D hl h (by omega)] at hr
  by_cases h0 : pa = 0
  · rw [dF (not_not_intro h0)] at hr
    simp only [cond_false, aa] at hr
    by_cases h1 : atV l i = 42
    · rw [if_pos h1] at hr
      simp only [aK, cond_false, aa, a0i] at hr
      have hin := (j0s h1 (by omega)).1
      have h0' := h.1
      by_cases h2 : i + 1 = l.length
      · rw [dT h2] at hr; cases hr
      · rw [dF h2] at hr
        simp only [cond_false, aa, a0i] at hr
        rw [a0Z (by omega) (by omega), w64 (n := i + 1 + 1) (by omega) (by omega)] at hr
        obtain rfl := am (oi hr)
        exact .inr ⟨h0, by omega, by rw [show i + 1 + 1 = i + 2 by omega]⟩
    · rw [if_neg h1] at hr
      exact .inl ⟨(am (oi hr)).symm, .inr h1⟩
  · rw [dT h0] at hr
    exact .inl ⟨(am (oi hr)).symm, .inl h0⟩
theorem o0E {b m p k d w i pd pa : Int} {pre suf npre nsuf : List a0b} {neg : Bool} {u : N10} (h : ra l i) (hw : 0 < w) (hp : 0 ≤ pa) (hd : inL l pd) {x8 x9 x10 x11 x12 x13 x14 x15 x16 x17 x18} {r : Int × Int × Int} (hr : a0J w l i b m p k d x8 x9 x10 x11 x12 x13 x14 x15 x16 x17 x18 pd pa = some (.inl r)) :
    a0t (mkP pre suf npre nsuf neg u pd pa) l i w = some (mkP pre suf npre nsuf neg u r.2.1 r.2.2, r.1, true) ∧ ra l r.1 ∧ i ≤ r.1 ∧ 0 ≤ r.2.2 ∧ inL l r.2.1 ∧ (r.2.2 ≠ 0 ∨ atV l r.1 ≠ 42) := by
  refine ⟨x0L (P := mkP pre suf npre nsuf neg u pd pa) hl hp h hr, ?_⟩
  obtain ⟨h0, h1⟩ := h
  rcases u0l hl ⟨h0, h1⟩ hr with ⟨rfl, e⟩ | ⟨e1, e2, rfl⟩
  · exact ⟨⟨h0, h1⟩, ar _, hp, hd, e⟩
  · exact ⟨⟨by simp only; omega, by simp only; omega⟩, by simp only; omega, by simp only; omega, q0T (by omega) e2, .inl (by simp only; omega)⟩
omit hl in
theorem r0Y {w i pd pa : Int} {pre suf npre nsuf : List a0b} {neg : Bool} {u : N10} (h : ra l i) (hp : 0 ≤ pa) (e : pa ≠ 0 ∨ atV l i ≠ 42) : a0t (mkP pre suf npre nsuf neg u pd pa) l i w = some (mkP pre suf npre nsuf neg u pd pa, i, true) := by
  unfold a0t
  rw [l0J h.1]
  show Option.bind (Option.bind (bif decide (pa > 0) then _ else _) _) _ = _
  by_cases h0 : pa = 0
  · rw [dF (show ¬ pa > 0 by omega)]
    have h1 := e.resolve_left (not_not_intro h0)
    simp only [cond_false, aa]
    rw [dT h1]; rfl
  · rw [dT (show pa > 0 by omega)]; rfl
theorem j0J {b i : Int} (h : ra l i) {r : List a0b × Int} (hr : a0w l i b 1 2 3 4 = some (.inl r)) : a0E l i = some (r.1, r.2, true) ∧ ra l r.2 ∧ i ≤ r.2 ∧ (r.1 = [] → r.2 = i) ∧ tkL l r.1 := by
  obtain ⟨o, e, rfl⟩ := v0C hl h hr
  obtain ⟨o, e2, f⟩ := n0w (b := b) (m := 1) (p := 2) (k := 3) (d := 4) hl h
  obtain rfl := oi (hr.symm.trans e2)
  exact ⟨e, f.1, f.2.1, r0C hl h.1 e⟩
theorem s0K {pre suf : List a0b} {u : N10} {pd pa fr to n : Int} {b : Int} (h : ra l n) (hf : 0 ≤ fr ∧ fr ≤ to ∧ to ≤ l.length) (hpos : ∀ q : Int, 0 ≤ q → q < l.length → nth l q ≠ -1) {x8 x9 x10 x11 x12 x13 x14 x15 x16 x17 x18 x19 x20 x21 x22} {r : Int × List a0b × List a0b} (hr : a0A (cut l fr to) l n b 1 2 3 4 x8 x9 x10 x11 x12 x13 x14 x15 x16 x17 x18 x19 x20 x21 x22 = some (.inl r)) :
    b0T (mkP pre suf [] [] false u pd pa) l n fr to = some (mkP pre suf r.2.1 r.2.2 true u pd pa, r.1, true) ∧ ra l r.1 ∧ tkL l r.2.1 ∧ tkL l r.2.2 := by
  unfold a0A at hr
  unfold b0T
  obtain ⟨y, h1, hr⟩ := a0d hr
  cases y with
  | inr y => cases hr
  | inl y =>
    obtain ⟨e1, f1, f2, f3, f4⟩ := j0J hl h h1
    rw [e1, aa]
    simp only [aK, cond_false]
    obtain ⟨x, h2, hr⟩ := a0d hr
    have hcl : ((cut l fr to).length : Int) = to - fr := by unfold cut; simp; omega
    have hcn : ∀ q : Int, 0 ≤ q → q < to - fr → nth (cut l fr to) q = nth l (fr + q) := fun q q0 q1 => by
      obtain ⟨k, rfl⟩ := aL q0
      obtain ⟨s, rfl⟩ := aL hf.1
      rw [d0J (by omega), show ((s : Int) + (k : Int)) = ((s + k : Nat) : Int) by omega, d0J (by omega)]
      unfold cut; simp
    have key := h0S (fun x => ∀ z, x ≠ .inr (.inr z)) (fun (s t : Int × Int) => 0 ≤ s.1 ∧ s.1 ≤ to - fr ∧ ra l s.2 ∧ t.1 = s.2 ∧ t.2 = fr + s.1) (fun (x : Int ⊕ ((Int × List a0b × List a0b) ⊕ (Int × Int))) (q : Int ⊕ (a0M × Int × Bool)) => ∃ j, x = .inl j ∧ q = .inl j ∧ ra l j)
      (g := fun (s0 : Int × Int) => (bif (decide (s0.2 < to)) then (Option.bind (a0s l s0.1) fun y2 => (bif inR s0.2 l.length then (bif (decide (¬ y2 = (nth l s0.2))) then (some (.inr (.inr ((⟨(mkP pre suf [] [] false u pd pa).d_, (mkP pre suf [] [] false u pd pa).e_, y.1, (mkP pre suf [] [] false u pd pa).j_, true, (mkP pre suf [] [] false u pd pa).q_, (mkP pre suf [] [] false u pd pa).m_, (mkP pre suf [] [] false u pd pa).k_, (mkP pre suf [] [] false u pd pa).i_, (mkP pre suf [] [] false u pd pa).c_, (mkP pre suf [] [] false u pd pa).f_, (mkP pre suf [] [] false u pd pa).g_, (mkP pre suf [] [] false u pd pa).n_, (mkP pre suf [] [] false u pd pa).b_, (mkP pre suf [] [] false u pd pa).E_, (mkP pre suf [] [] false u pd pa).r_, (mkP pre suf [] [] false u pd pa).A_⟩ : a0M), s0.1, false)))) else (some (.inl ((IntKind.wrap .i64 (s0.1 + 1)), (IntKind.wrap .i64 (s0.2 + 1)))))) else none)) else (some (.inr (.inl s0.1))))) (fun s t u hR hg => ?_) (fun s t o hR hg hG => ?_) big (0, y.2) (y.2, fr) x ⟨ar _, by simp only; omega, f1, rfl, by simp⟩ h2 (fun z e => by subst e; cases hr)
    · obtain ⟨q, k1, j, rfl, rfl, k2⟩ := key
      rw [k1, aa]
      simp only [a0i] at hr ⊢
      obtain ⟨z, h3, hr⟩ := a0d hr
      cases z with
      | inr z => cases hr
      | inl z =>
        obtain rfl := am (oi hr)
        obtain ⟨e3, q1, q2, q3, q4⟩ := j0J hl k2 h3
        rw [e3]
        exact ⟨rfl, q1, f4, q4⟩
    all_goals
      obtain ⟨s1, s2⟩ := s
      obtain ⟨t1, t2⟩ := t
      obtain ⟨g0, g1, g2, g3, g4⟩ := hR
      simp only at g0 g1 g2 g3 g4 hg ⊢
      replace g3 := g3.symm
      subst g3 g4
      obtain ⟨g20, g21⟩ := g2
      by_cases hlt : s1 < to - fr
      · have hc1 : nth (cut l fr to) s1 = nth l (fr + s1) := hcn s1 g0 hlt
        rw [dT (show s1 < ((cut l fr to).length : Int) by omega), a0Z g0 (show s1 < ((cut l fr to).length : Int) by omega), hc1] at hg
        rw [dT (show fr + s1 < to by omega), l0J g20, a0Z (show 0 ≤ fr + s1 by omega) (by omega)]
        simp only [cond_true, aa] at hg ⊢
        have hne : nth l (fr + s1) ≠ -1 := hpos (fr + s1) (by omega) (by omega)
        rw [h0D hl ⟨g20, g21⟩ hne, aa] at hg
        by_cases ec : atV l s2 = nth l (fr + s1)
        · rw [if_pos ec] at hg
          have hin := (j0s ec hne).1
          rw [dF (not_not_intro ec), w64 (n := s2 + 1) (by omega) (by omega), w64 (n := fr + s1 + 1) (by omega) (by omega)]
          simp only [aK, cond_false, aa, a0i] at hg ⊢
          rw [w64 (n := s1 + 1) (by omega) (by omega)] at hg
          first
            | (obtain rfl := am (oi hg)
               exact ⟨_, rfl, by simp only; omega, by simp only; omega, ⟨by simp only; omega, by simp only; omega⟩, rfl, by simp only; omega⟩)
            | cases hg
        · rw [if_neg ec] at hg
          first
            | (obtain rfl := aF (oi hg)
               exact absurd rfl (hG _))
            | cases hg
      · rw [dF (show ¬ s1 < ((cut l fr to).length : Int) by omega)] at hg
        rw [dF (show ¬ fr + s1 < to by omega)]
        first
          | (obtain rfl := aF (oi hg)
             exact ⟨_, rfl, s2, rfl, rfl, ⟨g20, g21⟩⟩)
          | cases hg
end
section
variable {l : List Int} (hl : l.length ≤ 100000)
include hl
theorem p0F {b m p k d w i pd pa : Int} {pre suf npre nsuf : List a0b} {neg : Bool} {u : N10} (h : ra l i) (hw : 0 < w) (hp : 0 ≤ pa) (hd : inL l pd) {x8 x9 x19 x10 x11 x12 x13 x14 x15 x16 x17 x18} {r : Int × Int × Int} (hr : b0t w l i b m p k d x8 x9 x10 x11 x12 x13 x14 x15 x16 x17 x18 x19 pd pa = some (.inl r)) :
    a0t (mkP pre suf npre nsuf neg u pd pa) l i w = some (mkP pre suf npre nsuf neg u r.2.1 r.2.2, r.1, true) ∧ ra l r.1 ∧ i ≤ r.1 ∧ 0 ≤ r.2.2 ∧ inL l r.2.1 ∧ (r.2.2 ≠ 0 ∨ atV l r.1 ≠ 42) :=
  o0E (b := b) (m := m) (p := p) (k := k) (d := d) (x8 := x9) (x9 := x10) (x10 := x11) (x11 := x12) (x12 := x13) (x13 := x14) (x14 := x15) (x15 := x16) (x16 := x17) (x17 := x18) (x18 := x19) hl h hw hp hd hr
theorem u0m {b m p k d w i pd pa : Int} {pre suf npre nsuf : List a0b} {neg : Bool} {u : N10} (h : ra l i) (hw : 0 < w) (hp : 0 ≤ pa) (hd : inL l pd) {x8 x9 x10 x20 x11 x12 x13 x14 x15 x16 x17 x18 x19} {r : Int × Int × Int} (hr : b0D w l i b m p k d x8 x9 x10 x11 x12 x13 x14 x15 x16 x17 x18 x19 x20 pd pa = some (.inl r)) :
    a0t (mkP pre suf npre nsuf neg u pd pa) l i w = some (mkP pre suf npre nsuf neg u r.2.1 r.2.2, r.1, true) ∧ ra l r.1 ∧ i ≤ r.1 ∧ 0 ≤ r.2.2 ∧ inL l r.2.1 ∧ (r.2.2 ≠ 0 ∨ atV l r.1 ≠ 42) :=
  o0E (b := b) (m := m) (p := p) (k := k) (d := d) (x8 := x10) (x9 := x11) (x10 := x12) (x11 := x13) (x12 := x14) (x13 := x15) (x14 := x16) (x15 := x17) (x16 := x18) (x17 := x19) (x18 := x20) hl h hw hp hd hr
theorem m0T (hpos : ∀ q : Int, 0 ≤ q → q < l.length → nth l q ≠ -1) {b : Int} {P : a0M} {j : Int} (hr : a0F l 0 b 1 2 3 4 = some (.inl (P, j))) :
    ∃ P1 fr to n, c0f l = some (P1, fr, to, n, true) ∧ ra l n ∧ ((atV l n ≠ 59 ∧ P = P1 ∧ n = l.length) ∨ (atV l n = 59 ∧ b0T P1 l (n + 1) fr to = some (P, (l.length : Int), true))) ∧ (n0M (m0V P) ∧ P.q_ + P.m_ ≤ l.length) ∧ (tkL l P.d_ ∧ tkL l P.e_ ∧ tkL l P.l_ ∧ tkL l P.j_) ∧ inL l P.r_ := by
  unfold a0F at hr
  have r0 : ra l 0 := ⟨ar _, by omega⟩
  obtain ⟨y, h1, hr⟩ := a0d hr
  cases y with
  | inr y => cases hr
  | inl y4 =>
  obtain ⟨e1, r1, _, p1, d1, n1⟩ := o0E (pre := []) (suf := []) (npre := []) (nsuf := []) (neg := false) (u := z10) hl r0 (by decide) (ar 0) (.inr (.inr rfl)) h1
  obtain ⟨y, h2, hr⟩ := a0d hr
  cases y with
  | inr y => cases hr
  | inl y1 =>
  obtain ⟨e2, r2, l2, nil2, t2⟩ := j0J hl r1 h2
  obtain ⟨x, h3, hr⟩ := a0d hr
  have m3 : ∃ s0, x = .inl s0 ∧ a0t (mkP y1.1 [] [] [] false z10 y4.2.1 y4.2.2) l y1.2 2 = some (mkP y1.1 [] [] [] false z10 s0.2.1 s0.2.2, s0.1, true) ∧ ra l s0.1 ∧ y1.2 ≤ s0.1 ∧ 0 ≤ s0.2.2 ∧ inL l s0.2.1 ∧ (s0.2.2 ≠ 0 ∨ atV l s0.1 ≠ 42 ∨ True) := by
    by_cases c : (y1.1.length : Int) > 0
    · rw [dT c] at h3
      obtain ⟨q, h4, h5⟩ := a0d h3
      cases q with
      | inr q => obtain rfl := oi h5; cases hr
      | inl q =>
        obtain ⟨a1, a2, a3, a4, a5, a6⟩ := p0F (pre := y1.1) (suf := []) (npre := []) (nsuf := []) (neg := false) (u := z10) hl r2 (by decide) p1 d1 h4
        exact ⟨q, (oi h5).symm, a1, a2, a3, a4, a5, .inr (.inr trivial)⟩
    · rw [dF c] at h3
      have hn : y1.1 = [] := ai (by omega)
      have hj := nil2 hn
      refine ⟨(y1.2, y4.2.1, y4.2.2), (oi h3).symm, r0Y r2 p1 ?_, r2, ar _, p1, d1, .inr (.inr trivial)⟩
      rw [hj]; exact n1
  obtain ⟨s0, rfl, e3, r3, l3, p3, d3, _⟩ := m3
  obtain ⟨y, h4, hr⟩ := a0d hr
  cases y with
  | inr y => cases hr
  | inl y0 =>
  obtain ⟨⟨o4, e4, rfl⟩, r4, c4⟩ := s0W (P := mkP y1.1 [] [] [] false z10 s0.2.1 s0.2.2) hl rfl r3 h4
  obtain ⟨hin, hr⟩ := b0p hr
  have l4 : s0.1 ≤ y0.1 := (n0j.1 hin).2.1
  obtain ⟨y, h5, hr⟩ := a0d hr
  cases y with
  | inr y => cases hr
  | inl y3 =>
  obtain ⟨e5, r5, l5, p5, d5, n5⟩ := p0F (pre := y1.1) (suf := []) (npre := []) (nsuf := []) (neg := false) (u := y0.2) hl r4 (by decide) p3 d3 h5
  obtain ⟨y, h6, hr⟩ := a0d hr
  cases y with
  | inr y => cases hr
  | inl y2 =>
  obtain ⟨e6, r6, l6, nil6, t6⟩ := j0J hl r5 h6
  obtain ⟨x, h7, hr⟩ := a0d hr
  have m7 : ∃ s2, x = .inl s2 ∧ a0t (mkP y1.1 y2.1 [] [] false y0.2 y3.2.1 y3.2.2) l y2.2 4 = some (mkP y1.1 y2.1 [] [] false y0.2 s2.2.1 s2.2.2, s2.1, true) ∧ ra l s2.1 ∧ inL l s2.2.1 := by
    by_cases c : (y2.1.length : Int) > 0
    · rw [dT c] at h7
      obtain ⟨q, h4, h5⟩ := a0d h7
      cases q with
      | inr q => obtain rfl := oi h5; cases hr
      | inl q =>
        obtain ⟨a1, a2, a3, a4, a5, a6⟩ := u0m (pre := y1.1) (suf := y2.1) (npre := []) (nsuf := []) (neg := false) (u := y0.2) hl r6 (by decide) p5 d5 h4
        exact ⟨q, (oi h5).symm, a1, a2, a5⟩
    · rw [dF c] at h7
      have hn : y2.1 = [] := ai (by omega)
      have hj := nil6 hn
      refine ⟨(y2.2, y3.2.1, y3.2.2), (oi h7).symm, r0Y r6 p5 ?_, r6, d5⟩
      rw [hj]; exact n5
  obtain ⟨s2, rfl, e7, r7, d7⟩ := m7
  have hfirst : c0f l = some (mkP y1.1 y2.1 [] [] false y0.2 s2.2.1 s2.2.2, s0.1, y0.1, s2.1, true) := by
    unfold c0f
    show Option.bind (a0t (mkP [] [] [] [] false z10 0 0) l 0 1) _ = _
    rw [e1, aa]
    show Option.bind (a0E l y4.1) _ = _
    rw [e2, aa]
    show Option.bind (a0t (mkP y1.1 [] [] [] false z10 y4.2.1 y4.2.2) l y1.2 2) _ = _
    rw [e3, aa]
    show Option.bind (b0U (mkP y1.1 [] [] [] false z10 s0.2.1 s0.2.2) l s0.1) _ = _
    rw [e4, aa]
    show Option.bind (a0t (mkP y1.1 [] [] [] false y0.2 s0.2.1 s0.2.2) l y0.1 3) _ = _
    rw [e5, aa]
    show Option.bind (a0E l y3.1) _ = _
    rw [e6, aa]
    show Option.bind (a0t (mkP y1.1 y2.1 [] [] false y0.2 y3.2.1 y3.2.2) l y2.2 4) _ = _
    rw [e7]; rfl
  refine ⟨_, _, _, _, hfirst, r7, ?_⟩
  simp only [a0i] at hr
  rw [h0D hl r7 (by omega)] at hr
  by_cases c59 : atV l s2.1 = 59
  · rw [if_pos c59] at hr
    have hin := (j0s c59 (by omega)).1
    obtain ⟨x, h8, hr⟩ := a0d hr
    obtain ⟨y, h9, h8⟩ := a0d (show Option.bind (a0A (cut l s0.1 y0.1) l (s2.1 + 1) b 1 2 3 4 y1.1 y2.1 false y0.2.1 y0.2.2.1 y0.2.2.2.1 y0.2.2.2.2.1 y0.2.2.2.2.2.1 y0.2.2.2.2.2.2.1 y0.2.2.2.2.2.2.2.1 y0.2.2.2.2.2.2.2.2.1 y0.2.2.2.2.2.2.2.2.2.1 y0.2.2.2.2.2.2.2.2.2.2 s2.2.1 s2.2.2) _ = _ from h8)
    cases y with
    | inr y => obtain rfl := oi h8; cases hr
    | inl y8 =>
    obtain rfl := oi h8
    obtain ⟨e8, r8, t8, t9⟩ := s0K (pre := y1.1) (suf := y2.1) (u := y0.2) (pd := s2.2.1) (pa := s2.2.2) hl (n := s2.1 + 1) ⟨by have := r7.1; omega, by omega⟩ ⟨r3.1, l4, r4.2⟩ hpos h9
    simp only [a0i] at hr
    by_cases hlt : y8.1 < l.length
    · rw [dT hlt] at hr; cases hr
    · rw [dF hlt] at hr
      obtain ⟨rfl, rfl⟩ := bl (am (oi hr))
      have : y8.1 = l.length := by have := r8.2; omega
      rw [this] at e8
      exact ⟨.inr ⟨c59, e8⟩, c4, ⟨t2, t6, t8, t9⟩, d7⟩
  · rw [if_neg c59] at hr
    simp only [cond_false, aa, a0i] at hr
    by_cases hlt : s2.1 < l.length
    · rw [dT hlt] at hr; cases hr
    · rw [dF hlt] at hr
      obtain ⟨rfl, rfl⟩ := bl (am (oi hr))
      exact ⟨.inl ⟨c59, rfl, by have := r7.2; omega⟩, c4, ⟨t2, t6, fun t ht => (by cases ht), fun t ht => (by cases ht)⟩, d7⟩
end
/-! Two patterns are compared. -/
theorem x0i {T S O : Type} [Inhabited T] [DecidableEq T] {xs ys : List T} (hlen : xs.length = ys.length) (hb : xs.length ≤ 4611686018427387904) (ok bad : O) {step : Int → Option (Int ⊕ O)}
    (hs : ∀ i : Nat, i < xs.length → step (i : Int) = some (if nth xs (i : Int) = nth ys (i : Int) then .inl ((i : Int) + 1) else .inr bad)) (he : step (xs.length : Int) = some (.inr ok)) :
    a0q step big 0 = some (if xs = ys then ok else bad) := by
  obtain ⟨o, h1, h2⟩ := d0d (step := step) xs.length (fun i => (i : Int)) (fun i => ∀ j, j < i → nth xs (j : Int) = nth ys (j : Int)) (fun o => o = if xs = ys then ok else bad) rfl (fun j hj => by omega) (fun i hi hI => by
    rw [hs i hi]
    by_cases c : nth xs (i : Int) = nth ys (i : Int)
    · left
      rw [if_pos c]
      refine ⟨by simp, fun j hj => ?_⟩
      by_cases e : j = i
      · subst e; exact c
      · exact hI j (by omega)
    · right
      rw [if_neg c]
      refine ⟨bad, rfl, ?_⟩
      rw [if_neg (fun e => c (by rw [e]))]) (fun hI => ⟨ok, he, by
    rw [if_pos]
    apply List.ext_getElem hlen
    intro i h1 h2
    have := hI i h1
    rwa [d0J h1, d0J h2] at this⟩) (by omega)
  have h1' : a0q step big 0 = some o := h1
  rw [h1', h2]
theorem p0k {x y : List a0b} (hl : x.length ≤ 4611686018427387904) : g0T x y = some (decide (x = y)) := by
  unfold g0T
  by_cases h : x.length = y.length
  · rw [dF (by omega)]
    simp only [cond_false]
    rw [x0i (S := Unit) h (by omega) (.inl () : Unit ⊕ Bool) (.inr false)]
    · by_cases e : x = y
      · rw [if_pos e, dT e]; rfl
      · rw [if_neg e, dF e]; rfl
    · intro i hi
      rw [dT (by omega), g0v hi, g0v (by omega), w64 (by omega) (by omega)]
      simp only [cond_true]
      generalize nth x (i : Int) = a
      generalize nth y (i : Int) = b
      obtain ⟨a1, a2⟩ := a
      obtain ⟨b1, b2⟩ := b
      by_cases h1 : a1 = b1 <;> by_cases h2 : a2 = b2 <;> simp [h1, h2]
    · rw [k0R]; rfl
  · rw [dT (by omega), dF (by rintro rfl; exact h rfl)]; rfl
def z0D (a : a0M) : Prop := a.d_.length ≤ 4611686018427387904 ∧ a.e_.length ≤ 4611686018427387904 ∧ a.l_.length ≤ 4611686018427387904 ∧ a.j_.length ≤ 4611686018427387904
def y0O (a : a0M) : Prop := -2147483648 ≤ a.r_ ∧ a.r_ < 2147483648
theorem t0Q {a b : a0M} (hl : z0D a) (ha : y0O a) (hb : y0O b) : k0N a b = some (decide (a = b)) := by
  obtain ⟨l1, l2, l3, l4⟩ := hl
  unfold k0N g0u
  rw [p0k l1, p0k l2, p0k l3, p0k l4]
  simp only [aa]
  rw [w64 (n := a.r_) (by have := ha.1; omega) (by have := ha.2; omega), w64 (n := b.r_) (by have := hb.1; omega) (by have := hb.2; omega)]
  obtain ⟨p1, p2, p3, p4, p5, p6, p7, p8, p9, p10, p11, p12, p13, p14, p15, p16, p17⟩ := a
  obtain ⟨q1, q2, q3, q4, q5, q6, q7, q8, q9, q10, q11, q12, q13, q14, q15, q16, q17⟩ := b
  simp only [a0M.mk.injEq]
  by_cases hn : p6 = q6 ∧ p7 = q7 ∧ p8 = q8 ∧ p9 = q9 ∧ p10 = q10 ∧ p11 = q11 ∧ p12 = q12 ∧ p13 = q13 ∧ p14 = q14 ∧ p16 = q16 ∧ p17 = q17
  · obtain ⟨rfl, rfl, rfl, rfl, rfl, rfl, rfl, rfl, rfl, rfl, rfl⟩ := hn
    simp only [decide_true, Bool.and_self, cond_true, true_and, and_true]
    by_cases h1 : p1 = q1 <;> by_cases h2 : p2 = q2 <;> by_cases h3 : p3 = q3 <;> by_cases h4 : p4 = q4 <;> cases p5 <;> cases q5 <;> cases p15 <;> cases q15 <;> simp [h1, h2, h3, h4]
  · rw [show ((decide (p6 = q6)) && ((decide (p7 = q7)) && ((decide (p8 = q8)) && ((decide (p9 = q9)) && ((decide (p10 = q10)) && ((decide (p11 = q11)) && ((decide (p12 = q12)) && ((decide (p13 = q13)) && ((decide (p14 = q14)) && ((decide (p16 = q16)) && ((decide (p17 = q17)) && true))))))))))) = false from by
      cases hb : ((decide (p6 = q6)) && ((decide (p7 = q7)) && ((decide (p8 = q8)) && ((decide (p9 = q9)) && ((decide (p10 = q10)) && ((decide (p11 = q11)) && ((decide (p12 = q12)) && ((decide (p13 = q13)) && ((decide (p14 = q14)) && ((decide (p16 = q16)) && ((decide (p17 = q17)) && true)))))))))))
      · rfl
      · simp only [ae, decide_eq_true_eq, and_true] at hb
        exact absurd hb hn]
    simp only [cond_false, aa]
    congr 1
    refine (decide_eq_false fun h => hn ?_).symm
    obtain ⟨_, _, _, _, _, e6, e7, e8, e9, e10, e11, e12, e13, e14, _, e16, e17⟩ := h
    exact ⟨e6, e7, e8, e9, e10, e11, e12, e13, e14, e16, e17⟩
/-! Parsers that always answer. -/
/-! Patterns that are read. -/
/-! Texts of patterns, read: there is an answer. -/
def y0q (p : a0M) : Prop := (0 ≤ p.q_ ∧ p.q_ ≤ 40) ∧ (0 ≤ p.m_ ∧ p.m_ ≤ 40) ∧ (0 ≤ p.k_ ∧ p.k_ ≤ 40) ∧ (0 ≤ p.i_ ∧ p.i_ ≤ 40) ∧ (0 ≤ p.c_ ∧ p.c_ ≤ 40) ∧ (0 ≤ p.f_ ∧ p.f_ ≤ 40) ∧ (0 ≤ p.g_ ∧ p.g_ ≤ 40) ∧ (0 ≤ p.n_ ∧ p.n_ ≤ 40) ∧ (0 ≤ p.b_ ∧ p.b_ ≤ 40)
theorem o0q {x y : List a0b} (hl : x.length ≤ 4611686018427387904) : b0V x y = some (decide (x = y)) := p0k hl
theorem r0Q {a b : a0M} (hl : z0D a) : c0t a b = some (decide (a = b)) := by
  obtain ⟨l1, l2, l3, l4⟩ := hl
  unfold c0t
  rw [o0q l1, o0q l2, o0q l3, o0q l4]
  simp only [aa]
  obtain ⟨p1, p2, p3, p4, p5, p6, p7, p8, p9, p10, p11, p12, p13, p14, p15, p16, p17⟩ := a
  obtain ⟨q1, q2, q3, q4, q5, q6, q7, q8, q9, q10, q11, q12, q13, q14, q15, q16, q17⟩ := b
  simp only [a0M.mk.injEq]
  by_cases h1 : p1 = q1
  · by_cases h2 : p2 = q2
    · by_cases h3 : p3 = q3
      · by_cases h4 : p4 = q4
        · by_cases h16 : p16 = q16
          · by_cases h17 : p17 = q17
            · by_cases h6 : p6 = q6 <;> by_cases h7 : p7 = q7 <;> by_cases h10 : p10 = q10 <;> by_cases h11 : p11 = q11 <;> cases p5 <;> cases q5 <;> cases p15 <;> cases q15 <;> simp [h1, h2, h3, h4, h6, h7, h10, h11, h16, h17, a0i] <;> (by_cases h8 : p8 = q8 <;> by_cases h9 : p9 = q9 <;> by_cases h12 : p12 = q12 <;> by_cases h13 : p13 = q13 <;> simp [h8, h9, h12, h13])
            · cases p5 <;> cases q5 <;> simp [h1, h2, h3, h4, h16, h17, a0i]
          · cases p5 <;> cases q5 <;> simp [h1, h2, h3, h4, h16, a0i]
        · simp [h1, h2, h3, h4, a0i]
      · simp [h1, h2, h3, a0i]
    · by_cases h3 : p3 = q3 <;> simp [h1, h2, h3, a0i]
  · by_cases h3 : p3 = q3 <;> simp [h1, h3, a0i]
/-! The text of a number. -/
def asc (l : List Int) : Prop := ∀ c ∈ l, 0 ≤ c ∧ c < 128
theorem m0B {n : Int} (h0 : 0 ≤ n) (h1 : n ≤ 121) : d0U n = some n := by
  unfold d0U s0a z0A
  congr 1
  repeat' split
  all_goals omega
theorem h0t {out : List Int} {c n : Int} (h0 : 0 ≤ n) (h1 : n ≤ 121) (ho : out.length ≤ 1000000) : b0v out c n = some (out ++ List.replicate n.toNat c) := by
  unfold b0v
  rw [m0B h0 h1]
  simp only [aa]
  obtain ⟨m, rfl⟩ : ∃ m : Nat, n = m := ⟨n.toNat, by omega⟩
  have hm : m ≤ 121 := by omega
  obtain ⟨o, h2, h3⟩ := d0d (step := fun (s33 : Int × (List Int)) => (bif (decide (s33.1 < (m : Int))) then (bif room (s33.2.length + ([c] : List Int).length) then (some (.inl ((IntKind.wrap .i64 (s33.1 + 1)), (s33.2 ++ ([c] : List Int))))) else none) else (some (.inr s33.2)))) m (fun i => ((i : Int), out ++ List.replicate i c)) (fun _ => True) (fun o => o = out ++ List.replicate m c) (s0 := (0, out)) (by simp) trivial (fun i hi _ => by
    left
    refine ⟨?_, trivial⟩
    simp only
    rw [dT (by omega), a0v (by simp; omega), w64 (by omega) (by omega)]
    simp only [cond_true]
    congr 1
    rw [aI, ← List.replicate_succ']
    rfl) (fun _ => ⟨out ++ List.replicate m c, by simp only; rw [dF (by omega)]; rfl, rfl⟩) (by omega)
  rw [h2, h3]
  simp
def n0B (g1 g2 n : Int) : Bool := decide (1 ≤ g1) && (decide (g1 ≤ n) && (decide (n = g1) || (decide (0 < g2) && decide ((n - g1) % g2 = 0))))
theorem t0d {p : a0M} {n : Int} (h0 : 0 ≤ n) (h1 : n ≤ 1000) (hc : 0 ≤ p.c_ ∧ p.c_ ≤ 40) (hc2 : 0 ≤ p.f_ ∧ p.f_ ≤ 40) : f0s p n = some (n0B p.c_ p.f_ n) := by
  unfold f0s n0B
  by_cases c1 : p.c_ < 1
  · rw [dT c1, dF (show ¬ 1 ≤ p.c_ by omega)]; rfl
  · rw [dF c1, dT (show 1 ≤ p.c_ by omega)]
    by_cases c2 : n < p.c_
    · rw [dT c2, dF (show ¬ p.c_ ≤ n by omega)]; rfl
    · rw [dF c2, dT (show p.c_ ≤ n by omega)]
      by_cases c3 : n = p.c_
      · rw [dT c3]; rfl
      · rw [dF c3]
        by_cases c4 : p.f_ > 0
        · rw [dT c4, w64 (n := n - p.c_) (by omega) (by omega)]
          have hz : nz p.f_ = true := by unfold nz; rw [dF (by omega)]; rfl
          rw [hz, bq (by omega)]
          simp [a0i]
        · rw [dF c4]; simp [a0i]
def plc (g1 g2 : Int) (t ha : Nat) (i : Nat) : List Int := (if 0 < i ∧ n0B g1 g2 ((t : Int) - i) = true then [44] else []) ++ [if i < ha then 35 else 48]
def o0B (g1 g2 : Int) (t ha n : Nat) : List Int := (List.range n).flatMap (plc g1 g2 t ha)
theorem m0R (g1 g2 : Int) (t ha n : Nat) : o0B g1 g2 t ha (n + 1) = o0B g1 g2 t ha n ++ plc g1 g2 t ha n := by
  unfold o0B; rw [cB, br]; simp
theorem x0J (g1 g2 : Int) (t ha i : Nat) : (plc g1 g2 t ha i).length ≤ 2 := by
  unfold plc; split <;> simp
theorem m0l (g1 g2 : Int) (t ha : Nat) : ∀ n, (o0B g1 g2 t ha n).length ≤ 2 * n
  | 0 => by simp [o0B]
  | n + 1 => by
    rw [m0R, ag]
    have := m0l g1 g2 t ha n
    have := x0J g1 g2 t ha n
    omega
theorem u0f {p : a0M} {out : List Int} {ha mi : Nat} (hh : p.q_ = ha) (hm : p.m_ = mi) (h1 : ha ≤ 40) (h2 : mi ≤ 40) (hc : 0 ≤ p.c_ ∧ p.c_ ≤ 40) (hc2 : 0 ≤ p.f_ ∧ p.f_ ≤ 40) (ho : out.length ≤ 1000000) :
    f0q out p = some (out ++ o0B p.c_ p.f_ (ha + mi) ha (ha + mi)) := by
  unfold f0q
  rw [hh, hm, m0B (by omega) (by omega), m0B (by omega) (by omega)]
  simp only [aa]
  rw [w64 (n := (ha : Int) + mi) (by omega) (by omega)]
  generalize hst : (fun (s357 : Int × (List Int)) => (bif (decide (s357.1 < (ha : Int) + mi)) then (Option.bind (Option.bind (Option.bind (bif (decide (s357.1 > 0)) then (Option.bind (f0s p ((IntKind.wrap .i64 ((ha : Int) + mi - s357.1)))) fun y688 => (some y688)) else (some false)) fun (s680 : Bool) => (bif s680 then (bif room (s357.2.length + ([44] : List Int).length) then (some (s357.2 ++ ([44] : List Int))) else none) else (some s357.2))) fun (s669 : (List Int)) => (bif (decide (s357.1 < (ha : Int))) then (bif room (s669.length + ([35] : List Int).length) then (some (s669 ++ ([35] : List Int))) else none) else (bif room (s669.length + ([48] : List Int).length) then (some (s669 ++ ([48] : List Int))) else none))) fun (s643 : (List Int)) => (some (.inl ((IntKind.wrap .i64 (s357.1 + 1)), s643) : (Int × List Int) ⊕ List Int))) else (some (.inr s357.2)))) = step
  obtain ⟨o, g2, g3⟩ := d0d (step := step) (ha + mi) (fun i => ((i : Int), out ++ o0B p.c_ p.f_ (ha + mi) ha i)) (fun _ => True) (fun o => o = out ++ o0B p.c_ p.f_ (ha + mi) ha (ha + mi)) (s0 := (0, out)) (by simp [o0B]) trivial (fun i hi _ => by
    left
    refine ⟨?_, trivial⟩
    subst hst
    have hl := m0l p.c_ p.f_ (ha + mi) ha i
    generalize hP : o0B p.c_ p.f_ (ha + mi) ha i = P at hl
    simp only
    rw [dT (show (i : Int) < (ha : Int) + mi by omega), w64 (n := (ha : Int) + mi - i) (by omega) (by omega), t0d (by omega) (by omega) hc hc2, w64 (n := (i : Int) + 1) (by omega) (by omega), m0R, hP]
    have hrm : ∀ (x : List Int) (c : Int), x.length ≤ 1000300 → room (x.length + ([c] : List Int).length) = true := fun x c hx => a0v (by simp; omega)
    have hPl : (out ++ P).length ≤ 1000200 := by simp; omega
    have hcast : ((ha + mi : Nat) : Int) - i = (ha : Int) + mi - i := by omega
    unfold plc
    rw [hcast]
    simp only [cond_true]
    generalize hgb : n0B p.c_ p.f_ ((ha : Int) + mi - i) = gb
    have hA : (Option.bind (bif (decide ((i : Int) > 0)) then (Option.bind (some gb) fun y688 => (some y688)) else (some false)) fun (s680 : Bool) => (bif s680 then (bif room ((out ++ P).length + ([44] : List Int).length) then (some (out ++ P ++ ([44] : List Int))) else none) else (some (out ++ P)))) = some (out ++ P ++ (if 0 < i ∧ gb = true then [44] else [])) := by
      by_cases c0 : 0 < i
      · rw [dT (show (i : Int) > 0 by omega), hrm _ _ (by omega)]
        cases gb <;> simp [c0]
      · rw [dF (show ¬ (i : Int) > 0 by omega), if_neg (fun h => c0 h.1)]; simp
    rw [hA]
    simp only [aa]
    have hL : (out ++ P ++ (if 0 < i ∧ gb = true then [44] else [])).length ≤ 1000300 := by
      rw [ag]
      have : (if 0 < i ∧ gb = true then ([44] : List Int) else []).length ≤ 1 := by split <;> simp
      omega
    rw [hrm _ _ hL, hrm _ _ hL]
    by_cases c1 : i < ha
    · rw [dT (show (i : Int) < ha by omega), if_pos c1]
      simp [aI]
    · rw [dF (show ¬ (i : Int) < ha by omega), if_neg c1]
      simp [aI]) (fun _ => ⟨_, by subst hst; simp only; rw [dF (by omega)]; rfl, rfl⟩) (by omega)
  rw [g2, g3]
  rfl
def sgL (p : a0M) : List Int := List.replicate p.g_.toNat 64 ++ List.replicate (p.n_ - p.g_).toNat 35
def frL (p : a0M) : List Int := if p.i_ = 0 then [] else 46 :: (List.replicate p.k_.toNat 48 ++ List.replicate (p.i_ - p.k_).toNat 35)
def exL (p : a0M) : List Int := if p.b_ = 0 then [] else 69 :: ((if p.E_ = true then [43] else []) ++ List.replicate p.b_.toNat 48)
def plL (p : a0M) : List Int := o0B p.c_ p.f_ (p.q_ + p.m_).toNat p.q_.toNat (p.q_ + p.m_).toNat
def n0Y (p : a0M) : List Int := (if 0 < p.g_ then sgL p else plL p ++ frL p) ++ exL p
theorem p0J {p : a0M} (hc : y0q p) (hn : n0M (m0V p)) : g0i p = some (n0Y p) ∧ (n0Y p).length ≤ 400 := by
  obtain ⟨⟨a1, a2⟩, ⟨b1, b2⟩, ⟨c1, c2⟩, ⟨d1, d2⟩, e1, f1, ⟨g1, g2⟩, ⟨h1, h2⟩, ⟨i1, i2⟩⟩ := hc
  obtain ⟨n1, n2, n3, n4, n5, n6, n7, n8, n9, n10, n11⟩ := hn
  have hpl : (plL p).length ≤ 160 := by
    have := m0l p.c_ p.f_ (p.q_ + p.m_).toNat p.q_.toNat (p.q_ + p.m_).toNat
    unfold plL; omega
  have hfr : (frL p).length ≤ 90 := by unfold frL; split <;> simp; omega
  have hsg : (sgL p).length ≤ 90 := by unfold sgL; simp; omega
  have hex : (exL p).length ≤ 50 := by
    unfold exL; split
    · simp
    · split <;> simp <;> omega
  have hlen : (n0Y p).length ≤ 400 := by
    unfold n0Y
    rw [ag]
    split
    · omega
    · rw [ag]; omega
  refine ⟨?_, hlen⟩
  unfold g0i
  have hE : ∀ s : List Int, s.length ≤ 1000 → (Option.bind (bif (decide (¬ p.b_ = 0)) then (bif room (s.length + ([69] : List Int).length) then (Option.bind (bif p.E_ then (bif room ((s ++ ([69] : List Int)).length + ([43] : List Int).length) then (some (((s ++ ([69] : List Int)) ++ ([43] : List Int)))) else none) else (some (s ++ ([69] : List Int)))) fun (s117 : (List Int)) => (Option.bind (b0v s117 48 p.b_) fun y126 => (some y126))) else none) else (some s)) fun (s104 : (List Int)) => (some s104)) = some (s ++ exL p) := by
    intro s hs
    unfold exL
    by_cases h0 : p.b_ = 0
    · rw [dF (fun h => h h0), if_pos h0]; simp
    · rw [dT h0, if_neg h0, a0v (by simp; omega), a0v (by simp; omega)]
      cases hep : p.E_ with
      | true =>
        simp only [cond_true, aa]
        rw [h0t (by omega) (by omega) (by simp; omega)]
        simp
      | false =>
        simp only [cond_true, cond_false, aa]
        rw [h0t (by omega) (by omega) (by simp; omega)]
        simp
  by_cases hs : 0 < p.g_
  · have hA : (Option.bind (bif (decide (p.g_ > 0)) then (some true) else (some (decide (p.n_ > 0)))) fun (s48 : Bool) => (bif s48 then (Option.bind (b0v ([] : List Int) 64 p.g_) fun y59 => (Option.bind (d0U p.g_) fun y62 => (Option.bind (b0v y59 35 (IntKind.wrap .i64 (p.n_ - y62))) fun y65 => (some y65)))) else (Option.bind (f0q ([] : List Int) p) fun y68 => (bif (decide (¬ p.i_ = 0)) then (bif room (y68.length + ([46] : List Int).length) then (Option.bind (b0v (y68 ++ ([46] : List Int)) 48 p.k_) fun y75 => (Option.bind (d0U p.k_) fun y78 => (Option.bind (b0v y75 35 (IntKind.wrap .i64 (p.i_ - y78))) fun y81 => (some y81)))) else none) else (some y68))))) = some (sgL p) := by
      rw [dT hs, h0t (by omega) (by omega) (by simp), m0B (by omega) (by omega)]
      simp only [cond_true, aa]
      rw [w64 (n := p.n_ - p.g_) (by omega) (by omega), h0t (by omega) (by omega) (by simp; omega)]
      simp [sgL]
    rw [hA]
    refine (hE (sgL p) (by omega)).trans ?_
    unfold n0Y
    rw [if_pos hs]
  · have hs0 : p.g_ = 0 := by omega
    have hx0 := (n9 hs0).1
    have hA : (Option.bind (bif (decide (p.g_ > 0)) then (some true) else (some (decide (p.n_ > 0)))) fun (s48 : Bool) => (bif s48 then (Option.bind (b0v ([] : List Int) 64 p.g_) fun y59 => (Option.bind (d0U p.g_) fun y62 => (Option.bind (b0v y59 35 (IntKind.wrap .i64 (p.n_ - y62))) fun y65 => (some y65)))) else (Option.bind (f0q ([] : List Int) p) fun y68 => (bif (decide (¬ p.i_ = 0)) then (bif room (y68.length + ([46] : List Int).length) then (Option.bind (b0v (y68 ++ ([46] : List Int)) 48 p.k_) fun y75 => (Option.bind (d0U p.k_) fun y78 => (Option.bind (b0v y75 35 (IntKind.wrap .i64 (p.i_ - y78))) fun y81 => (some y81)))) else none) else (some y68))))) = some (plL p ++ frL p) := by
      obtain ⟨ha, hha⟩ : ∃ m : Nat, p.q_ = m := ⟨p.q_.toNat, by omega⟩
      obtain ⟨mi, hmi⟩ : ∃ m : Nat, p.m_ = m := ⟨p.m_.toNat, by omega⟩
      have hpe : plL p = o0B p.c_ p.f_ (ha + mi) ha (ha + mi) := by
        unfold plL; rw [hha, hmi, show ((ha : Int) + mi).toNat = ha + mi by omega, show (ha : Int).toNat = ha by omega]
      rw [dF hs, dF (show ¬ p.n_ > 0 by omega), u0f (out := []) hha hmi (by omega) (by omega) e1 f1 (by simp)]
      simp only [cond_false, aa, bu]
      rw [← hpe]
      unfold frL
      by_cases h0 : p.i_ = 0
      · rw [dF (fun h => h h0), if_pos h0]; simp
      · rw [dT h0, if_neg h0, a0v (by simp; omega), h0t (by omega) (by omega) (by simp; omega), m0B (by omega) (by omega)]
        simp only [cond_true, aa]
        rw [w64 (n := p.i_ - p.k_) (by omega) (by omega), h0t (by omega) (by omega) (by simp; omega)]
        simp
    rw [hA]
    refine (hE (plL p ++ frL p) (by rw [ag]; omega)).trans ?_
    unfold n0Y
    rw [if_neg hs]
theorem w0N (g1 g2 : Int) (t ha n : Nat) : asc (o0B g1 g2 t ha n) := by
  intro c hc
  unfold o0B at hc
  obtain ⟨i, _, hi⟩ := bO.1 hc
  unfold plc at hi
  rcases aA.1 hi with h | h
  · split at h
    · simp at h; subst h; omega
    · simp at h
  · simp at h; subst h; split <;> omega
theorem v0v (p : a0M) : asc (n0Y p) := by
  intro c hc
  unfold n0Y at hc
  rcases aA.1 hc with h | h
  · split at h
    · unfold sgL at h
      rcases aA.1 h with h | h <;> (have := cu h; omega)
    · rcases aA.1 h with h | h
      · exact w0N _ _ _ _ _ c h
      · unfold frL at h
        split at h
        · simp at h
        · rcases aJ.1 h with h | h
          · omega
          · rcases aA.1 h with h | h <;> (have := cu h; omega)
  · unfold exL at h
    split at h
    · simp at h
    · rcases aJ.1 h with h | h
      · omega
      · rcases aA.1 h with h | h
        · split at h
          · simp at h; omega
          · simp at h
        · have := cu h; omega
/-! What the reader's steps come to. -/
section
variable {l : List Int} {a3 a4 a5 a6 a7 a8 : Int} {b8 b9 : List a0b} {b : Bool}
def z0V (l : List Int) (i mi : Int) : Prop := atV l i = 48 ∨ (mi = 0 ∧ atV l i = 35)
instance {l : List Int} {i mi : Int} : Decidable (z0V l i mi) := inferInstanceAs (Decidable (_ ∨ _))
def A0j (l : List Int) (since i mi : Int) : Prop := 0 < since ∧ atV l i = 44 ∧ z0V l (i + 1) mi
instance {l : List Int} {s i mi : Int} : Decidable (A0j l s i mi) := inferInstanceAs (Decidable (_ ∧ _))
variable {c10 c12 c13 c14 c15 c16 c17 c18 c20 c21 c22 : Int} {c19 : Bool}
end
/-! The text of a number, read: the places. -/
def cmP (g1 g2 : Int) (t i : Nat) : Prop := 0 < i ∧ n0B g1 g2 ((t : Int) - i) = true
instance {g1 g2 : Int} {t i : Nat} : Decidable (cmP g1 g2 t i) := inferInstanceAs (Decidable (_ ∧ _))
theorem w0F {g1 g2 n : Int} : n0B g1 g2 n = true ↔ 1 ≤ g1 ∧ g1 ≤ n ∧ (n = g1 ∨ (0 < g2 ∧ (n - g1) % g2 = 0)) := by
  unfold n0B
  simp only [ae, bn, decide_eq_true_eq]
section
variable {g1 g2 : Int} {t ha : Nat} {rest : List Int}
end
/-! Runes as bytes, and back. -/
theorem u8w (n : Int) : IntKind.u8.wrap n = n % 256 := by
  unfold IntKind.wrap
  simp only [IntKind.signed, IntKind.bits, Bool.false_and, aC, if_false]
  rfl
theorem o0i (p : Int → Prop) (h : ∀ k : Fin 256, p (k.val : Int)) {x : Int} (h0 : 0 ≤ x) (h1 : x < 256) : p x := by
  obtain ⟨n, rfl⟩ := aL h0
  exact h ⟨n, by omega⟩
theorem z0K {x : Int} (h0 : 0 ≤ x) (h1 : x < 256) : bits .and .u8 x 63 = x % 64 := o0i (fun x => bits .and .u8 x 63 = x % 64) (by decide +kernel) h0 h1
def f0L (x : Int) : Bool := decide (0 ≤ x ∧ x ≤ 1114111 ∧ (x < 55296 ∨ 57343 < x))
def f0S (x : Int) : List Int := if x < 128 then [x] else if x < 2048 then [192 + x / 64, 128 + x % 64] else if x < 65536 then [224 + x / 4096, 128 + x / 64 % 64, 128 + x % 64] else [240 + x / 262144, 128 + x / 4096 % 64, 128 + x / 64 % 64, 128 + x % 64]
def f0I (x : Int) : Int := if f0L x then (if x < 128 then 1 else if x < 2048 then 2 else if x < 65536 then 3 else 4) else 0
theorem y0C (x : Int) : k0C x = some (f0L x) := by
  unfold k0C f0L
  by_cases h1 : 0 ≤ x <;> by_cases h2 : x ≤ 1114111 <;> by_cases h3 : x < 55296 <;> simp [h1, h2, h3]
theorem t0N (x : Int) : k0B x = some (f0I x) := by
  unfold k0B f0I
  rw [y0C]
  cases h : f0L x
  · simp
  · by_cases h1 : x < 128 <;> by_cases h2 : x < 2048 <;> by_cases h3 : x < 65536 <;> simp [h1, h2, h3]
theorem s0Y {S O : Type} {step : S → Option (S ⊕ O)} {o : O} : ∀ (n : Nat) (s : S), a0q step n s = some o → ∀ m, n ≤ m → a0q step m s = some o := by
  intro n
  induction n with
  | zero => intro s h; cases h
  | succ n ih =>
    intro s h m hm
    obtain ⟨k, rfl⟩ : ∃ k, m = k + 1 := ⟨m - 1, by omega⟩
    simp only [a0q] at h ⊢
    split at h
    · cases h
    · exact h
    · exact ih _ h k (by omega)
theorem g0O {S O : Type} {step : S → Option (S ⊕ O)} {o : O} {s : S} (n : Nat) (h : a0q step n s = some o) (hn : n ≤ 1000) : a0q step big s = some o := s0Y n s h _ (by unfold big; omega)
theorem y0f {a b : Int} (hb : 0 < b) : Int.fdiv a b = a / b := Int.fdiv_eq_ediv_of_nonneg _ (by omega)
theorem h0Z (x : Int) : (f0S x).length ≤ 4 := by
  unfold f0S; split; simp; split; simp; split <;> simp
def a0V (xs : List Int) : List Int := xs.flatMap f0S
theorem j0m (xs : List Int) : (a0V xs).length ≤ 4 * xs.length := by
  induction xs with
  | nil => simp [a0V]
  | cons x xs ih =>
    have := h0Z x
    simp only [a0V, aE, ag, bd] at ih ⊢
    omega
theorem q0n {x : Int} (hr : f0L x = true) : ((f0S x).length : Int) = f0I x := by
  unfold f0S f0I
  rw [hr]
  by_cases h1 : x < 128 <;> by_cases h2 : x < 2048 <;> by_cases h3 : x < 65536 <;> simp [h1, h2, h3]
theorem o0z (c : Int) : c0n c = some (if c < 128 then 1 else if c / 32 = 6 then 2 else if c / 16 = 14 then 3 else if c / 8 = 30 then 4 else 0) := by
  unfold c0n
  rw [y0f (by decide), y0f (by decide), y0f (by decide)]
  by_cases h1 : c < 128 <;> by_cases h2 : c / 32 = 6 <;> by_cases h3 : c / 16 = 14 <;> by_cases h4 : c / 8 = 30 <;> simp [h1, h2, h3, h4]
theorem n63 {x : Int} (h0 : 0 ≤ x) (h1 : x < 256) : bits .andNot .u8 x 63 = x / 64 * 64 := o0i (fun x => bits .andNot .u8 x 63 = x / 64 * 64) (by decide +kernel) h0 h1
theorem n0 {x : Int} (h0 : 0 ≤ x) (h1 : x < 256) : bits .andNot .u8 x 0 = x := o0i (fun x => bits .andNot .u8 x 0 = x) (by decide +kernel) h0 h1
theorem A0f {x : Int} (h0 : 0 ≤ x) (h1 : x < 32) : bits .andNot .u8 (192 + x) 192 = x := o0i (fun x => x < 32 → bits .andNot .u8 (192 + x) 192 = x) (by decide +kernel) h0 (by omega) h1
theorem A0e {x : Int} (h0 : 0 ≤ x) (h1 : x < 16) : bits .andNot .u8 (224 + x) 224 = x := o0i (fun x => x < 16 → bits .andNot .u8 (224 + x) 224 = x) (by decide +kernel) h0 (by omega) h1
theorem A0d {x : Int} (h0 : 0 ≤ x) (h1 : x < 8) : bits .andNot .u8 (240 + x) 240 = x := o0i (fun x => x < 8 → bits .andNot .u8 (240 + x) 240 = x) (by decide +kernel) h0 (by omega) h1
theorem t63 {y : Int} (h0 : 0 ≤ y) (h1 : y < 64) : bits .andNot .u8 (128 + y) 63 = 128 := by rw [n63 (by omega) (by omega)]; omega
theorem a63 {y : Int} (h0 : 0 ≤ y) (h1 : y < 64) : bits .and .u8 (128 + y) 63 = y := by rw [z0K (by omega) (by omega)]; omega
theorem o32 {r y : Int} (h0 : 0 ≤ r) (h1 : r < 32768) (h2 : 0 ≤ y) (h3 : y < 64) : bits .or .i32 (IntKind.wrap .i32 (r * 64)) (IntKind.wrap .i32 y) = r * 64 + y := by
  rw [w32 (by omega) (by omega), w32 (by omega) (by omega)]
  exact i32_or6 _ _ (by omega) (by omega) (by omega) h2 h3
theorem t0f {x : Int} {rest : List Int} (hr : f0L x = true) (hl : rest.length ≤ 1000000) : f0y (f0S x ++ rest) = some (x, f0I x) := by
  have hb : 0 ≤ x ∧ x ≤ 1114111 ∧ (x < 55296 ∨ 57343 < x) := by simpa [f0L] using hr
  have hsz := t0N x
  generalize hq : f0S x ++ rest = q
  unfold f0y
  by_cases h1 : x < 128
  · have he : f0S x = [x] := by unfold f0S; rw [if_pos h1]
    have hs : f0I x = 1 := by unfold f0I; rw [hr]; simp [h1]
    rw [he] at hq
    simp only [List.singleton_append] at hq
    have hn : nth q 0 = x := by subst hq; rfl
    have hql : q.length = rest.length + 1 := by subst hq; simp
    have hi : inR 0 q.length = true := a0Z (by omega) (by omega)
    have hin : inS 1 1 q.length = true := l0T (by omega) (by omega) (by omega)
    have hm : g0M 1 = some 0 := rfl
    have hc : cut q 1 1 = [] := by subst hq; simp [cut]
    have hp : c0n x = some 1 := by rw [o0z, if_pos h1]
    rw [hi, hn, hp]
    simp only [cond_true, aa]
    rw [dF (show ¬ (1 : Int) = 0 by omega), dF (show ¬ (1 : Int) > (q.length : Int) by omega)]
    simp only [cond_false, aa, a0i, hm, hin, cond_true, hc]
    rw [n0 (by omega) (by omega), w32 (by omega) (by omega), g0O 1 rfl (by omega)]
    simp only [aa, a0i]
    rw [hsz, hs]; rfl
  · by_cases h2 : x < 2048
    · have he : f0S x = [192 + x / 64, 128 + x % 64] := by unfold f0S; rw [if_neg h1, if_pos h2]
      have hs : f0I x = 2 := by unfold f0I; rw [hr]; simp [h1, h2]
      rw [he] at hq
      simp only [bG, bu] at hq
      have hn : nth q 0 = 192 + x / 64 := by subst hq; rfl
      have hql : q.length = rest.length + 2 := by subst hq; simp
      have hi : inR 0 q.length = true := a0Z (by omega) (by omega)
      have hin : inS 1 2 q.length = true := l0T (by omega) (by omega) (by omega)
      have hm : g0M 2 = some 192 := rfl
      have hc : cut q 1 2 = [128 + x % 64] := by subst hq; simp [cut]
      have hp : c0n (192 + x / 64) = some 2 := by rw [o0z, if_neg (by omega), if_pos (by omega)]
      rw [hi, hn, hp]
      simp only [cond_true, aa]
      rw [dF (show ¬ (2 : Int) = 0 by omega), dF (show ¬ (2 : Int) > (q.length : Int) by omega)]
      simp only [cond_false, aa, a0i, hm, hin, cond_true, hc]
      rw [A0f (by omega) (by omega), w32 (by omega) (by omega), g0O (o := .inl x) 2 ?_ (by omega)]
      · simp only [aa, a0i]
        rw [hsz, hs]; rfl
      · simp only [a0q]
        have k0 : nth [128 + x % 64] 0 = 128 + x % 64 := rfl
        have i0 : inR 0 1 = true := by decide
        have wz : IntKind.wrap .i64 (0 + 1) = 1 := by decide
        have e1 : bits .or .i32 (IntKind.wrap .i32 (x / 64 * 64)) (IntKind.wrap .i32 (x % 64)) = x := by rw [o32 (by omega) (by omega) (by omega) (by omega)]; omega
        simp only [List.length_singleton, k0, i0, t63 (show 0 ≤ x % 64 by omega) (by omega), a63 (show 0 ≤ x % 64 by omega) (by omega), e1, wz]
        rfl
    · by_cases h3 : x < 65536
      · have he : f0S x = [224 + x / 4096, 128 + x / 64 % 64, 128 + x % 64] := by unfold f0S; rw [if_neg h1, if_neg h2, if_pos h3]
        have hs : f0I x = 3 := by unfold f0I; rw [hr]; simp [h1, h2, h3]
        rw [he] at hq
        simp only [bG, bu] at hq
        have hn : nth q 0 = 224 + x / 4096 := by subst hq; rfl
        have hql : q.length = rest.length + 3 := by subst hq; simp
        have hi : inR 0 q.length = true := a0Z (by omega) (by omega)
        have hin : inS 1 3 q.length = true := l0T (by omega) (by omega) (by omega)
        have hm : g0M 3 = some 224 := rfl
        have hc : cut q 1 3 = [128 + x / 64 % 64, 128 + x % 64] := by subst hq; simp [cut]
        have hp : c0n (224 + x / 4096) = some 3 := by rw [o0z, if_neg (by omega), if_neg (by omega), if_pos (by omega)]
        rw [hi, hn, hp]
        simp only [cond_true, aa]
        rw [dF (show ¬ (3 : Int) = 0 by omega), dF (show ¬ (3 : Int) > (q.length : Int) by omega)]
        simp only [cond_false, aa, a0i, hm, hin, cond_true, hc]
        rw [A0e (by omega) (by omega), w32 (by omega) (by omega), g0O (o := .inl x) 3 ?_ (by omega)]
        · simp only [aa, a0i]
          rw [hsz, hs]; rfl
        · simp only [a0q]
          have k0 : nth [128 + x / 64 % 64, 128 + x % 64] 0 = 128 + x / 64 % 64 := rfl
          have k1 : nth [128 + x / 64 % 64, 128 + x % 64] 1 = 128 + x % 64 := rfl
          have i0 : inR 0 2 = true := by decide
          have i1 : inR 1 2 = true := by decide
          have wz : IntKind.wrap .i64 (0 + 1) = 1 := by decide
          have wz1 : IntKind.wrap .i64 (1 + 1) = 2 := by decide
          have e1 : bits .or .i32 (IntKind.wrap .i32 (x / 4096 * 64)) (IntKind.wrap .i32 (x / 64 % 64)) = x / 64 := by rw [o32 (by omega) (by omega) (by omega) (by omega)]; omega
          have e2 : bits .or .i32 (IntKind.wrap .i32 (x / 64 * 64)) (IntKind.wrap .i32 (x % 64)) = x := by rw [o32 (by omega) (by omega) (by omega) (by omega)]; omega
          simp only [bd, bU, aU, Nat.reduceAdd, k0, i0, t63 (show 0 ≤ x / 64 % 64 by omega) (by omega), a63 (show 0 ≤ x / 64 % 64 by omega) (by omega), e1, wz]
          have d0 : decide ((0 : Int) < ((2 : Nat) : Int)) = true := by decide
          have d1 : decide ((1 : Int) < ((2 : Nat) : Int)) = true := by decide
          have d2 : decide ((2 : Int) < ((2 : Nat) : Int)) = false := by decide
          simp only [d0, d1, d2, cond_true, cond_false, not_true_eq_false, decide_false, k1, i1, t63 (show 0 ≤ x % 64 by omega) (by omega), a63 (show 0 ≤ x % 64 by omega) (by omega), e2, wz1]
      · have he : f0S x = [240 + x / 262144, 128 + x / 4096 % 64, 128 + x / 64 % 64, 128 + x % 64] := by unfold f0S; rw [if_neg h1, if_neg h2, if_neg h3]
        have hs : f0I x = 4 := by unfold f0I; rw [hr]; simp [h1, h2, h3]
        rw [he] at hq
        simp only [bG, bu] at hq
        have hn : nth q 0 = 240 + x / 262144 := by subst hq; rfl
        have hql : q.length = rest.length + 4 := by subst hq; simp
        have hi : inR 0 q.length = true := a0Z (by omega) (by omega)
        have hin : inS 1 4 q.length = true := l0T (by omega) (by omega) (by omega)
        have hm : g0M 4 = some 240 := rfl
        have hc : cut q 1 4 = [128 + x / 4096 % 64, 128 + x / 64 % 64, 128 + x % 64] := by subst hq; simp [cut]
        have hp : c0n (240 + x / 262144) = some 4 := by rw [o0z, if_neg (by omega), if_neg (by omega), if_neg (by omega), if_pos (by omega)]
        rw [hi, hn, hp]
        simp only [cond_true, aa]
        rw [dF (show ¬ (4 : Int) = 0 by omega), dF (show ¬ (4 : Int) > (q.length : Int) by omega)]
        simp only [cond_false, aa, a0i, hm, hin, cond_true, hc]
        rw [A0d (by omega) (by omega), w32 (by omega) (by omega), g0O (o := .inl x) 4 ?_ (by omega)]
        · simp only [aa, a0i]
          rw [hsz, hs]; rfl
        · simp only [a0q]
          have k0 : nth [128 + x / 4096 % 64, 128 + x / 64 % 64, 128 + x % 64] 0 = 128 + x / 4096 % 64 := rfl
          have k1 : nth [128 + x / 4096 % 64, 128 + x / 64 % 64, 128 + x % 64] 1 = 128 + x / 64 % 64 := rfl
          have k2 : nth [128 + x / 4096 % 64, 128 + x / 64 % 64, 128 + x % 64] 2 = 128 + x % 64 := rfl
          have i0 : inR 0 3 = true := by decide
          have i1 : inR 1 3 = true := by decide
          have i2 : inR 2 3 = true := by decide
          have wz : IntKind.wrap .i64 (0 + 1) = 1 := by decide
          have wz1 : IntKind.wrap .i64 (1 + 1) = 2 := by decide
          have wz2 : IntKind.wrap .i64 (2 + 1) = 3 := by decide
          have e0 : bits .or .i32 (IntKind.wrap .i32 (x / 262144 * 64)) (IntKind.wrap .i32 (x / 4096 % 64)) = x / 4096 := by rw [o32 (by omega) (by omega) (by omega) (by omega)]; omega
          have e1 : bits .or .i32 (IntKind.wrap .i32 (x / 4096 * 64)) (IntKind.wrap .i32 (x / 64 % 64)) = x / 64 := by rw [o32 (by omega) (by omega) (by omega) (by omega)]; omega
          have e2 : bits .or .i32 (IntKind.wrap .i32 (x / 64 * 64)) (IntKind.wrap .i32 (x % 64)) = x := by rw [o32 (by omega) (by omega) (by omega) (by omega)]; omega
          have d0 : decide ((0 : Int) < ((3 : Nat) : Int)) = true := by decide
          have d1 : decide ((1 : Int) < ((3 : Nat) : Int)) = true := by decide
          have d2 : decide ((2 : Int) < ((3 : Nat) : Int)) = true := by decide
          have d3 : decide ((3 : Int) < ((3 : Nat) : Int)) = false := by decide
          simp only [bd, bU, aU, Nat.reduceAdd, k0, i0, t63 (show 0 ≤ x / 4096 % 64 by omega) (by omega), a63 (show 0 ≤ x / 4096 % 64 by omega) (by omega), e0, wz]
          simp only [d0, d1, d2, d3, cond_true, cond_false, not_true_eq_false, decide_false, k1, i1, t63 (show 0 ≤ x / 64 % 64 by omega) (by omega), a63 (show 0 ≤ x / 64 % 64 by omega) (by omega), e1, wz1]
          simp only [d0, d1, d2, d3, cond_true, cond_false, not_true_eq_false, decide_false, k2, i2, t63 (show 0 ≤ x % 64 by omega) (by omega), a63 (show 0 ≤ x % 64 by omega) (by omega), e2, wz2]
theorem r0w {L : List Int} (hL : L.all f0L = true) (hl : L.length ≤ 200000) : d0T (a0V L) = some (L, 0, 0) := by
  have hE := j0m L
  unfold d0T
  generalize hX : a0V L = X
  have hXl : X.length = (a0V L).length := by subst hX; simp
  generalize hst : (fun (s57 : Int × (List Int)) => ((bif (decide (s57.1 < (X.length : Int))) then (bif inS s57.1 (X.length : Int) X.length then (Option.bind (f0y (cut X s57.1 (X.length : Int))) fun y96 => (bif (decide (y96.2 = 0)) then (some (.inr (.inr (([] : List Int), s57.1, 3)))) else (bif room (s57.2.length + ([y96.1] : List Int).length) then (some (.inl ((IntKind.wrap .i64 (s57.1 + y96.2)), (s57.2 ++ ([y96.1] : List Int))))) else none))) else none) else (some (.inr (.inl s57.2)))) : Option ((Int × (List Int)) ⊕ ((List Int) ⊕ ((List Int) × Int × Int))))) = step
  obtain ⟨o, h1, h2⟩ := u0z (step := step)
    (fun s => ∃ j : Nat, j ≤ L.length ∧ s.1 = ((a0V (L.take j)).length : Int) ∧ s.2 = L.take j) (fun s => X.length - s.1.toNat)
    (fun o => o = .inl L) (fun s hs => by
      obtain ⟨s1, out⟩ := s
      obtain ⟨j, hj, hs1, ho⟩ := hs
      simp only at hs1 ho
      have hpre : a0V L = a0V (L.take j) ++ a0V (L.drop j) := by
        unfold a0V; rw [← br, bX]
      have htake := j0m (L.take j)
      have hple : (a0V (L.take j)).length ≤ (a0V L).length := by rw [hpre, ag]; omega
      rcases bH j L.length with h | h
      · have hcut : cut X s1 (X.length : Int) = a0V (L.drop j) := by
          unfold cut
          rw [Int.toNat_natCast, bw, hs1, Int.toNat_natCast, ← hX, hpre, List.drop_left]
        have hrj : f0L L[j] = true := List.all_eq_true.1 hL _ (aY h)
        have hd : a0V (L.drop j) = f0S L[j] ++ a0V (L.drop (j + 1)) := by
          unfold a0V; rw [bk h, aE]
        have hsz := q0n hrj
        have hne : f0I L[j] ≠ 0 := by
          unfold f0I; rw [hrj]; simp only [if_true]; split; omega; split; omega; split <;> omega
        have hpos : 0 < f0I L[j] := by omega
        have hle4 := h0Z L[j]
        have hdl := j0m (L.drop (j + 1))
        rw [aW] at hdl
        have hplt : (a0V (L.take j)).length + (f0S L[j]).length ≤ (a0V L).length := by rw [hpre, hd, ag, ag]; omega
        subst hst
        simp only
        rw [dT (show s1 < (X.length : Int) by omega), l0T (by omega) (by omega) (by omega), hcut]
        simp only [cond_true]
        rw [hd, t0f hrj (by omega)]
        simp only [aa]
        rw [dF hne]
        simp only [cond_false]
        have hrm : room (out.length + ([L[j]] : List Int).length) = true := a0v (by subst ho; simp; omega)
        rw [hrm]
        have hnext : a0V (L.take (j + 1)) = a0V (L.take j) ++ f0S L[j] := by
          rw [be h]; unfold a0V; rw [br]; simp
        refine .inl ⟨(s1 + f0I L[j], out ++ [L[j]]), ?_, ⟨j + 1, by omega, ?_, by simp only; rw [ho, be h]⟩, by simp only; omega⟩
        · rw [w64 (by omega) (by omega)]; rfl
        · simp only; rw [hnext, ag, hs1, ← hsz]; omega
      · have hj' : j = L.length := by omega
        subst hj'
        rw [bw] at hs1 ho
        subst hst
        simp only
        rw [dF (show ¬ s1 < (X.length : Int) by omega), ho]
        exact .inr ⟨_, rfl, rfl⟩) big (0, []) ⟨0, by omega, by simp [a0V], rfl⟩ (y0t (by simp only; omega))
  rw [h1, h2]
  rfl
theorem is1 {x : Int} (h0 : -2147483648 ≤ x) (h1 : x ≤ 2147483647) : a0W x = some (f0L x) := by
  unfold a0W f0L
  rw [w64 (by omega) (by omega)]
  by_cases h1 : 0 ≤ x <;> by_cases h2 : x ≤ 1114111 <;> by_cases h3 : x < 55296 <;> by_cases h4 : x > 57343 <;> first | omega | simp [h1, h2, h3, h4]
theorem y0F {x : Int} (h0 : -2147483648 ≤ x) (h1 : x ≤ 2147483647) : b0X x = some (f0I x) := by
  unfold b0X f0I
  rw [is1 h0 h1]
  cases h : f0L x
  · simp
  · by_cases h1 : x < 128 <;> by_cases h2 : x < 2048 <;> by_cases h3 : x < 65536 <;> simp [h1, h2, h3]
theorem d0V {x : Int} : f0L x = true ↔ 0 ≤ x ∧ x ≤ 1114111 ∧ (x < 55296 ∨ 57343 < x) := by simp [f0L]
theorem z0l {x : Int} (hr : f0L x = true) : c0Q x = some (f0S x) := by
  have hb := d0V.1 hr
  unfold c0Q f0S
  rw [y0F (by omega) (by omega)]
  unfold f0I
  rw [hr, w64 (n := x) (by omega) (by omega), cn (by omega), cn (by omega), cn (by omega), bq (by omega), w64 (n := x / 64) (by omega) (by omega), w64 (n := x / 4096) (by omega) (by omega), w64 (n := x / 262144) (by omega) (by omega), bq (by omega), bq (by omega), w64 (n := 192 + x / 64) (by omega) (by omega), w64 (n := 224 + x / 4096) (by omega) (by omega), w64 (n := 240 + x / 262144) (by omega) (by omega), w64 (n := 128 + x % 64) (by omega) (by omega), w64 (n := 128 + x / 64 % 64) (by omega) (by omega), w64 (n := 128 + x / 4096 % 64) (by omega) (by omega)]
  simp only [if_true, aa, u8w]
  by_cases h1 : x < 128
  · rw [if_pos h1, if_pos h1, show x % 256 = x by omega]; rfl
  · by_cases h2 : x < 2048
    · rw [if_neg h1, if_neg h1, if_pos h2, if_pos h2, show (192 + x / 64) % 256 = 192 + x / 64 by omega, show (128 + x % 64) % 256 = 128 + x % 64 by omega]; rfl
    · by_cases h3 : x < 65536
      · rw [if_neg h1, if_neg h1, if_neg h2, if_neg h2, if_pos h3, if_pos h3, show (224 + x / 4096) % 256 = 224 + x / 4096 by omega, show (128 + x % 64) % 256 = 128 + x % 64 by omega, show (128 + x / 64 % 64) % 256 = 128 + x / 64 % 64 by omega]; rfl
      · rw [if_neg h1, if_neg h1, if_neg h2, if_neg h2, if_neg h3, if_neg h3, show (240 + x / 262144) % 256 = 240 + x / 262144 by omega, show (128 + x % 64) % 256 = 128 + x % 64 by omega, show (128 + x / 64 % 64) % 256 = 128 + x / 64 % 64 by omega, show (128 + x / 4096 % 64) % 256 = 128 + x / 4096 % 64 by omega]; rfl
theorem x0z {x : Int} (hr : f0L x = true) : b0c x = some (a0n (f0S x)) := by
  unfold b0c
  rw [z0l hr]; rfl
theorem g0h {b : List Int} {at' k v j y : Int} (hl : b.length ≤ 1000000) (h0 : 0 ≤ at') (hk : 1 ≤ k ∧ k ≤ 3) (hj : 1 ≤ j ∧ j ≤ k) (hin : at' + k < b.length) (hv : 0 ≤ v ∧ v ≤ 100000000) (hy : 0 ≤ y ∧ y < 64) (hb : nth b (at' + j) = 128 + y) :
    (fun (s306 : Int × Int) => ((bif (decide (s306.2 ≤ k)) then (Option.bind (bif inR (IntKind.wrap .i64 (at' + s306.2)) b.length then (Option.bind (Option.bind (bif (decide (((IntKind.wrap .i64 ((nth b (IntKind.wrap .i64 (at' + s306.2)))))) < 128)) then (some true) else (some ((decide (((IntKind.wrap .i64 ((nth b (IntKind.wrap .i64 (at' + s306.2)))))) > 191))))) fun (s585 : Bool) => (bif s585 then (some (.inr (.inr (.inr (.inr (-1)))))) else (some (.inl ())))) (a0i fun (s577 : Unit) => (some (.inl ())))) else none) (a0i fun (s552 : Unit) => (some (.inl ((IntKind.wrap .i64 (((IntKind.wrap .i64 ((IntKind.wrap .i64 (s306.1 * 64)) + ((IntKind.wrap .i64 ((nth b (IntKind.wrap .i64 (at' + s306.2))))))))) - 128)), (IntKind.wrap .i64 (s306.2 + 1))))))) else (some (.inr (.inl s306.1)))) : Option ((Int × Int) ⊕ (Int ⊕ Int)))) (v, j) = some (.inl (v * 64 + y, j + 1)) := by
  simp only
  rw [dT hj.2, w64 (n := at' + j) (by omega) (by omega), a0Z (by omega) (by omega), hb, w64 (n := 128 + y) (by omega) (by omega), dF (show ¬ 128 + y < 128 by omega), dF (show ¬ 128 + y > 191 by omega)]
  simp only [cond_true, cond_false, aa, a0i]
  rw [w64 (n := v * 64) (by omega) (by omega), w64 (n := v * 64 + (128 + y)) (by omega) (by omega), w64 (n := v * 64 + (128 + y) - 128) (by omega) (by omega), w64 (n := j + 1) (by omega) (by omega), show v * 64 + (128 + y) - 128 = v * 64 + y by omega]
/-! A row of runes, read back. -/
theorem x0C {b : List Int} {at' v y1 : Int} (hl : b.length ≤ 1000000) (h0 : 0 ≤ at') (hin : at' + 1 < b.length) (hv : 0 ≤ v ∧ v < 64) (h1 : 0 ≤ y1 ∧ y1 < 64) (e1 : nth b (at' + 1) = 128 + y1) : a0S b at' 1 v = some (v * 64 + y1) := by
  unfold a0S
  rw [w64 (n := at' + 1) (by omega) (by omega), dF (show ¬ at' + 1 ≥ (b.length : Int) by omega)]
  simp only [cond_false]
  rw [g0O (o := .inl (v * 64 + y1)) 2 ?_ (by omega)]
  · rfl
  · rw [d0v (g0h hl h0 (by omega) (by omega) hin (by omega) h1 e1)]
    exact e0P (by simp only; rw [dF (by omega)]; rfl)
theorem x0B {b : List Int} {at' v y1 y2 : Int} (hl : b.length ≤ 1000000) (h0 : 0 ≤ at') (hin : at' + 2 < b.length) (hv : 0 ≤ v ∧ v < 64) (h1 : 0 ≤ y1 ∧ y1 < 64) (e1 : nth b (at' + 1) = 128 + y1) (h2 : 0 ≤ y2 ∧ y2 < 64) (e2 : nth b (at' + 2) = 128 + y2) : a0S b at' 2 v = some ((v * 64 + y1) * 64 + y2) := by
  unfold a0S
  rw [w64 (n := at' + 2) (by omega) (by omega), dF (show ¬ at' + 2 ≥ (b.length : Int) by omega)]
  simp only [cond_false]
  rw [g0O (o := .inl ((v * 64 + y1) * 64 + y2)) 3 ?_ (by omega)]
  · rfl
  · rw [d0v (g0h hl h0 (by omega) (by omega) hin (by omega) h1 e1), d0v (g0h hl h0 (by omega) (by omega) hin (by omega) h2 (by rw [← e2]; congr 1))]
    exact e0P (by simp only; rw [dF (by omega)]; rfl)
theorem x0A {b : List Int} {at' v y1 y2 y3 : Int} (hl : b.length ≤ 1000000) (h0 : 0 ≤ at') (hin : at' + 3 < b.length) (hv : 0 ≤ v ∧ v < 64) (h1 : 0 ≤ y1 ∧ y1 < 64) (e1 : nth b (at' + 1) = 128 + y1) (h2 : 0 ≤ y2 ∧ y2 < 64) (e2 : nth b (at' + 2) = 128 + y2) (h3 : 0 ≤ y3 ∧ y3 < 64) (e3 : nth b (at' + 3) = 128 + y3) : a0S b at' 3 v = some (((v * 64 + y1) * 64 + y2) * 64 + y3) := by
  unfold a0S
  rw [w64 (n := at' + 3) (by omega) (by omega), dF (show ¬ at' + 3 ≥ (b.length : Int) by omega)]
  simp only [cond_false]
  rw [g0O (o := .inl (((v * 64 + y1) * 64 + y2) * 64 + y3)) 4 ?_ (by omega)]
  · rfl
  · rw [d0v (g0h hl h0 (by omega) (by omega) hin (by omega) h1 e1), d0v (g0h hl h0 (by omega) (by omega) hin (by omega) h2 (by rw [← e2]; congr 1)), d0v (g0h hl h0 (by omega) (by omega) hin (by omega) h3 (by rw [← e3]; congr 1))]
    exact e0P (by simp only; rw [dF (by omega)]; rfl)
theorem x0P {pre l : List Int} {j : Nat} (hj : j < l.length) : nth (pre ++ l) ((pre.length : Int) + j) = nth l (j : Int) := by
  rw [show (pre.length : Int) + (j : Int) = ((pre.length + j : Nat) : Int) by omega, d0J (by simp; omega), d0J hj]
  simp
theorem w0r {pre rest : List Int} {x : Int} (hr : f0L x = true) (hl : pre.length + rest.length ≤ 900000) : c0h (pre ++ (f0S x ++ rest)) (pre.length : Int) = some x := by
  have hb := d0V.1 hr
  have h4 := h0Z x
  have hlen : (pre ++ (f0S x ++ rest)).length ≤ 1000000 := by simp; omega
  have hat : ∀ j : Nat, j < (f0S x ++ rest).length → nth (pre ++ (f0S x ++ rest)) ((pre.length : Int) + j) = nth (f0S x ++ rest) (j : Int) := fun j hj => x0P hj
  unfold c0h
  by_cases h1 : x < 128
  · have he : f0S x = [x] := by unfold f0S; rw [if_pos h1]
    rw [he] at hat hlen ⊢
    have e0 := hat 0 (by simp)
    simp only [bD, cz] at e0
    rw [a0Z (by omega) (by simp; omega), e0]
    have e0' : nth ([x] ++ rest) 0 = x := rfl
    rw [e0', w64 (n := x) (by omega) (by omega), dT h1, dF (show ¬ x ≥ 192 by omega), dF (show ¬ x ≥ 224 by omega), dF (show ¬ x ≥ 240 by omega)]
    simp only [cond_true, cond_false, aa]
    rw [w32 (n := x) (by omega) (by omega), is1 (by omega) (by omega), hr, dF (show ¬ x < 0 by omega)]
    rfl
  · by_cases h2 : x < 2048
    · have he : f0S x = [192 + x / 64, 128 + x % 64] := by unfold f0S; rw [if_neg h1, if_pos h2]
      rw [he] at hat hlen ⊢
      have e0 := hat 0 (by simp)
      have e1 := hat 1 (by simp)
      simp only [bD, cz] at e0
      have e0' : nth ([192 + x / 64, 128 + x % 64] ++ rest) 0 = 192 + x / 64 := rfl
      have e1' : nth ([192 + x / 64, 128 + x % 64] ++ rest) (1 : Nat) = 128 + x % 64 := rfl
      rw [a0Z (by omega) (by simp; omega), e0, e0', w64 (n := 192 + x / 64) (by omega) (by omega), dF (show ¬ 192 + x / 64 < 128 by omega), dT (show 192 + x / 64 ≥ 192 by omega), dT (show 192 + x / 64 < 224 by omega), dF (show ¬ 192 + x / 64 ≥ 224 by omega), dF (show ¬ 192 + x / 64 ≥ 240 by omega), show 192 + x / 64 - 192 = x / 64 by omega, w64 (n := x / 64) (by omega) (by omega)]
      rw [x0C hlen (by omega) (by simp; omega) (by omega) (show 0 ≤ x % 64 ∧ x % 64 < 64 by omega) (e1.trans e1'), show x / 64 * 64 + x % 64 = x by omega]
      simp only [cond_true, cond_false, aa]
      rw [w32 (n := x) (by omega) (by omega), is1 (by omega) (by omega), hr, dF (show ¬ x < 128 by omega)]
      rfl
    · by_cases h3 : x < 65536
      · have he : f0S x = [224 + x / 4096, 128 + x / 64 % 64, 128 + x % 64] := by unfold f0S; rw [if_neg h1, if_neg h2, if_pos h3]
        rw [he] at hat hlen ⊢
        have e0 := hat 0 (by simp)
        have e1 := hat 1 (by simp)
        have e2 := hat 2 (by simp)
        simp only [bD, cz] at e0
        have e0' : nth ([224 + x / 4096, 128 + x / 64 % 64, 128 + x % 64] ++ rest) 0 = 224 + x / 4096 := rfl
        have e1' : nth ([224 + x / 4096, 128 + x / 64 % 64, 128 + x % 64] ++ rest) (1 : Nat) = 128 + x / 64 % 64 := rfl
        have e2' : nth ([224 + x / 4096, 128 + x / 64 % 64, 128 + x % 64] ++ rest) (2 : Nat) = 128 + x % 64 := rfl
        rw [a0Z (by omega) (by simp; omega), e0, e0', w64 (n := 224 + x / 4096) (by omega) (by omega), dF (show ¬ 224 + x / 4096 < 128 by omega), dT (show 224 + x / 4096 ≥ 192 by omega), dF (show ¬ 224 + x / 4096 < 224 by omega), dT (show 224 + x / 4096 ≥ 224 by omega), dT (show 224 + x / 4096 < 240 by omega), dF (show ¬ 224 + x / 4096 ≥ 240 by omega), show 224 + x / 4096 - 224 = x / 4096 by omega, w64 (n := x / 4096) (by omega) (by omega)]
        rw [x0B hlen (by omega) (by simp; omega) (by omega) (show 0 ≤ x / 64 % 64 ∧ x / 64 % 64 < 64 by omega) (e1.trans e1') (show 0 ≤ x % 64 ∧ x % 64 < 64 by omega) (e2.trans e2'), show (x / 4096 * 64 + x / 64 % 64) * 64 + x % 64 = x by omega]
        simp only [cond_true, cond_false, aa]
        rw [w32 (n := x) (by omega) (by omega), is1 (by omega) (by omega), hr, dF (show ¬ x < 2048 by omega)]
        rfl
      · have he : f0S x = [240 + x / 262144, 128 + x / 4096 % 64, 128 + x / 64 % 64, 128 + x % 64] := by unfold f0S; rw [if_neg h1, if_neg h2, if_neg h3]
        rw [he] at hat hlen ⊢
        have e0 := hat 0 (by simp)
        have e1 := hat 1 (by simp)
        have e2 := hat 2 (by simp)
        have e3 := hat 3 (by simp)
        simp only [bD, cz] at e0
        have e0' : nth ([240 + x / 262144, 128 + x / 4096 % 64, 128 + x / 64 % 64, 128 + x % 64] ++ rest) 0 = 240 + x / 262144 := rfl
        have e1' : nth ([240 + x / 262144, 128 + x / 4096 % 64, 128 + x / 64 % 64, 128 + x % 64] ++ rest) (1 : Nat) = 128 + x / 4096 % 64 := rfl
        have e2' : nth ([240 + x / 262144, 128 + x / 4096 % 64, 128 + x / 64 % 64, 128 + x % 64] ++ rest) (2 : Nat) = 128 + x / 64 % 64 := rfl
        have e3' : nth ([240 + x / 262144, 128 + x / 4096 % 64, 128 + x / 64 % 64, 128 + x % 64] ++ rest) (3 : Nat) = 128 + x % 64 := rfl
        rw [a0Z (by omega) (by simp; omega), e0, e0', w64 (n := 240 + x / 262144) (by omega) (by omega), dF (show ¬ 240 + x / 262144 < 128 by omega), dT (show 240 + x / 262144 ≥ 192 by omega), dF (show ¬ 240 + x / 262144 < 224 by omega), dT (show 240 + x / 262144 ≥ 224 by omega), dF (show ¬ 240 + x / 262144 < 240 by omega), dT (show 240 + x / 262144 ≥ 240 by omega), dT (show 240 + x / 262144 < 248 by omega), show 240 + x / 262144 - 240 = x / 262144 by omega, w64 (n := x / 262144) (by omega) (by omega)]
        rw [x0A hlen (by omega) (by simp; omega) (by omega) (show 0 ≤ x / 4096 % 64 ∧ x / 4096 % 64 < 64 by omega) (e1.trans e1') (show 0 ≤ x / 64 % 64 ∧ x / 64 % 64 < 64 by omega) (e2.trans e2') (show 0 ≤ x % 64 ∧ x % 64 < 64 by omega) (e3.trans e3'), show ((x / 262144 * 64 + x / 4096 % 64) * 64 + x / 64 % 64) * 64 + x % 64 = x by omega]
        simp only [cond_true, cond_false, aa]
        rw [w32 (n := x) (by omega) (by omega), is1 (by omega) (by omega), hr, dF (show ¬ x < 65536 by omega)]
        rfl
theorem l0f (x y : List Int) : a0V (x ++ y) = a0V x ++ a0V y := by unfold a0V; rw [br]
theorem p0w {L : List Int} (hL : L.all f0L = true) (hl : L.length ≤ 20000) : c0y (a0V L) = some (L, 0, 0) := by
  have hE := j0m L
  unfold c0y
  generalize hX : a0V L = X at hE
  generalize hst : (fun (s63 : Int × (List Int)) => ((bif (decide (s63.1 < (X.length : Int))) then (Option.bind (c0h X s63.1) fun y105 => (bif (decide (y105 < 0)) then (some (.inr (.inr (([] : List Int), s63.1, 3)))) else (bif room (s63.2.length + ([(IntKind.wrap .i32 y105)] : List Int).length) then (Option.bind (b0X (IntKind.wrap .i32 y105)) fun y115 => (some (.inl ((IntKind.wrap .i64 (s63.1 + y115)), (s63.2 ++ ([(IntKind.wrap .i32 y105)] : List Int)))))) else none))) else (some (.inr (.inl s63.2)))) : Option ((Int × (List Int)) ⊕ ((List Int) ⊕ ((List Int) × Int × Int))))) = step
  obtain ⟨o, h1, h2⟩ := d0d (step := step) L.length (fun j => (((a0V (L.take j)).length : Int), L.take j)) (fun _ => True) (fun o => o = .inl L) (s0 := (0, [])) (by simp [a0V]) trivial (fun j hj _ => by
    left
    refine ⟨?_, trivial⟩
    have hrj : f0L L[j] = true := List.all_eq_true.1 hL _ (aY hj)
    have hb := d0V.1 hrj
    have hX2 : X = a0V (L.take j) ++ (f0S L[j] ++ a0V (L.drop (j + 1))) := by
      rw [← hX]
      have e1 : a0V (L.drop j) = f0S L[j] ++ a0V (L.drop (j + 1)) := by unfold a0V; rw [bk hj, aE]
      rw [← e1, ← l0f, bX]
    have hsz := q0n hrj
    have hne : 0 < f0I L[j] := by
      unfold f0I; rw [hrj]; simp only [if_true]; split; omega; split; omega; split <;> omega
    have h4 := h0Z L[j]
    have hlt : (a0V (L.take j)).length + ((f0S L[j]).length + (a0V (L.drop (j + 1))).length) = X.length := by rw [hX2, ag, ag]
    have hone : c0h X ((a0V (L.take j)).length : Int) = some L[j] := by rw [hX2]; exact w0r hrj (by omega)
    have hnext : a0V (L.take (j + 1)) = a0V (L.take j) ++ f0S L[j] := by
      rw [be hj, l0f]; simp [a0V]
    subst hst
    simp only
    rw [dT (by omega), hone]
    simp only [cond_true, aa]
    rw [dF (show ¬ L[j] < 0 by omega), w32 (n := L[j]) (by omega) (by omega), y0F (by omega) (by omega), a0v (by simp; omega)]
    simp only [cond_true, cond_false, aa]
    rw [w64 (by omega) (by omega), hnext, be hj, ag, ← hsz, Int.natCast_add]) (fun _ => ⟨.inl L, by subst hst; simp only; rw [bw, hX, dF (by omega)]; rfl, rfl⟩) (by omega)
  rw [h1, h2]
  rfl
theorem v0l {x c : Int} (hr : f0L x = true) (hc : c ∈ f0S x) : 0 ≤ c ∧ c < 256 := by
  have hb := d0V.1 hr
  unfold f0S at hc
  split at hc
  · simp at hc; omega
  · split at hc
    · simp at hc; omega
    · split at hc <;> (simp at hc; omega)
theorem o0j : ∀ {l : List Int}, (∀ c ∈ l, 0 ≤ c ∧ c < 256) → b0j (a0n l) = l
  | [], _ => rfl
  | c :: l, h => by
    have h1 := h c (au ..)
    have ih := o0j (l := l) (fun x hx => h x (aq _ hx))
    unfold b0j a0n at *
    simp only [ah, bP] at ih ⊢
    congr 1
    have h3 : (UInt8.ofNat c.toNat).toNat = c.toNat % 256 := UInt8.toNat_ofNat'
    rw [h3]; omega
theorem s0o {L : List Int} (hL : L.all f0L = true) : b0j (a0n (a0V L)) = a0V L := by
  refine o0j (fun c hc => ?_)
  unfold a0V at hc
  obtain ⟨x, hx, hcx⟩ := bO.1 hc
  exact v0l (List.all_eq_true.1 hL x hx) hcx
theorem c0H (x y : List Int) : a0n (x ++ y) = a0n x ++ a0n y := by simp [a0n]
theorem w0e {x : Int} (hr : f0L x = true) : (Utf8.encode x).data.toList = a0n (f0S x) := by
  have hb := d0V.1 hr
  have hv : Utf8.valid x = true := by
    unfold Utf8.valid
    simp only [bn, ae, decide_eq_true_eq]
    omega
  unfold Utf8.encode f0S a0n
  simp only [hv, if_true]
  by_cases h1 : x < 128
  · rw [if_pos (by omega), if_pos h1]; rfl
  · rw [if_neg (by omega), if_neg h1]
    by_cases h2 : x < 2048
    · rw [if_pos (by omega), if_pos h2]
      simp only [ah, ay]
      rw [show (192 + x / 64).toNat = 192 + x.toNat / 64 by omega, show (128 + x % 64).toNat = 128 + x.toNat % 64 by omega]
    · rw [if_neg (by omega), if_neg h2]
      by_cases h3 : x < 65536
      · rw [if_pos (by omega), if_pos h3]
        simp only [ah, ay]
        rw [show (224 + x / 4096).toNat = 224 + x.toNat / 4096 by omega, show (128 + x / 64 % 64).toNat = 128 + x.toNat / 64 % 64 by omega, show (128 + x % 64).toNat = 128 + x.toNat % 64 by omega]
      · rw [if_neg (by omega), if_neg h3]
        simp only [ah, ay]
        rw [show (240 + x / 262144).toNat = 240 + x.toNat / 262144 by omega, show (128 + x / 4096 % 64).toNat = 128 + x.toNat / 4096 % 64 by omega, show (128 + x / 64 % 64).toNat = 128 + x.toNat / 64 % 64 by omega, show (128 + x % 64).toNat = 128 + x.toNat % 64 by omega]
theorem m0G : ∀ {l : List Int}, l.all f0L = true → l0N l = a0n (a0V l)
  | [], _ => rfl
  | c :: l, h => by
    rw [az, ae] at h
    have ih := m0G h.2
    have e1 : a0V (c :: l) = f0S c ++ a0V l := rfl
    have e2 : l0N (c :: l) = (Utf8.encode c).data.toList ++ l0N l := rfl
    rw [e1, e2, ih, w0e h.1, c0H]
/-! The text of a pattern, as runes. -/
theorem p0l {c : UInt8} {n : Int} (h0 : 0 ≤ n) (h1 : n ≤ 1000) : b0h [c] n = some (List.replicate n.toNat c) := by
  unfold b0h
  obtain ⟨m, rfl⟩ : ∃ m : Nat, n = m := ⟨n.toNat, by omega⟩
  obtain ⟨o, h2, h3⟩ := d0d (step := fun (s27 : (List UInt8) × Int) => (bif (decide (s27.2 < (m : Int))) then (bif room (s27.1.length + ([c] : List UInt8).length) then (some (.inl ((s27.1 ++ ([c] : List UInt8)), (IntKind.wrap .i64 (s27.2 + 1))))) else none) else (some (.inr s27.1)))) m (fun i => (List.replicate i c, (i : Int))) (fun _ => True) (fun o => o = List.replicate m c) (s0 := ([], 0)) (by simp) trivial (fun i hi _ => by
    left
    refine ⟨?_, trivial⟩
    simp only
    rw [dT (by omega), a0v (by simp; omega), w64 (by omega) (by omega)]
    simp only [cond_true]
    congr 1
    rw [← List.replicate_succ']
    rfl) (fun _ => ⟨_, by simp only; rw [dF (by omega)]; rfl, rfl⟩) (by omega)
  rw [h2, h3]
  simp
theorem g0l (n : Nat) (c : Int) : a0n (List.replicate n c) = List.replicate n (UInt8.ofNat c.toNat) := by simp [a0n]
def dgt (ha k : Nat) : Int := if k < ha then 35 else 48
def q0D (g1 g2 : Int) (t ha : Nat) : Nat → List Int
  | 0 => []
  | n + 1 => dgt ha (t - 1 - n) :: ((if n0B g1 g2 n = true then [44] else []) ++ q0D g1 g2 t ha n)
theorem t0D (g1 g2 : Int) (t ha n : Nat) : q0D g1 g2 t ha (n + 1) = dgt ha (t - 1 - n) :: ((if n0B g1 g2 n = true then [44] else []) ++ q0D g1 g2 t ha n) := rfl
theorem r0M (g1 g2 : Int) (t ha : Nat) : ∀ n, (q0D g1 g2 t ha n).length ≤ 2 * n
  | 0 => by simp [q0D]
  | n + 1 => by
    have := r0M g1 g2 t ha n
    unfold q0D
    split <;> simp <;> omega
theorem t0E (g1 g2 : Int) (t ha : Nat) : ∀ n, n ≤ t → o0B g1 g2 t ha (t - n) ++ ((if n < t ∧ n0B g1 g2 n = true then [44] else []) ++ q0D g1 g2 t ha n) = o0B g1 g2 t ha t
  | 0, _ => by
    have : n0B g1 g2 ((0 : Nat) : Int) = false := by
      cases h : n0B g1 g2 ((0 : Nat) : Int)
      · rfl
      · have := (w0F.1 h); omega
    rw [this]
    simp [q0D]
  | n + 1, h => by
    have ih := t0E g1 g2 t ha n (by omega)
    rw [← ih, show t - n = (t - (n + 1)) + 1 by omega, m0R]
    rw [t0D]
    unfold plc dgt
    rw [show ((t : Int) - (t - (n + 1) : Nat)) = ((n + 1 : Nat) : Int) by omega, show t - 1 - n = t - (n + 1) by omega]
    by_cases g : n0B g1 g2 ((n + 1 : Nat) : Int) = true <;> by_cases g' : n0B g1 g2 (n : Int) = true <;> by_cases h1 : n + 1 < t
    all_goals (first | rw [if_pos (c := 0 < t - (n + 1) ∧ _) ⟨by omega, g⟩] | rw [if_neg (c := 0 < t - (n + 1) ∧ _) (fun hh => g hh.2)] | rw [if_neg (c := 0 < t - (n + 1) ∧ _) (fun hh => absurd hh.1 (by omega))])
    all_goals (first | rw [if_pos (c := n + 1 < t ∧ _) ⟨by omega, g⟩] | rw [if_neg (c := n + 1 < t ∧ _) (fun hh => g hh.2)] | rw [if_neg (c := n + 1 < t ∧ _) (fun hh => absurd hh.1 (by omega))])
    all_goals (first | rw [if_pos (c := n < t ∧ _) ⟨by omega, g'⟩, if_pos g'] | rw [if_neg (c := n < t ∧ _) (fun hh => g' hh.2), if_neg g'])
    all_goals simp [aI]
theorem v0V (g1 g2 : Int) (t ha : Nat) : q0D g1 g2 t ha t = o0B g1 g2 t ha t := by
  have := t0E g1 g2 t ha t (by omega)
  rw [if_neg (by omega), Nat.sub_self] at this
  simpa [o0B] using this
theorem x0O {p : a0M} (hc : y0q p) (hn : n0M (m0V p)) : b0W p = some (a0n (n0Y p)) := by
  obtain ⟨⟨a1, a2⟩, ⟨b1, b2⟩, ⟨c1, c2⟩, ⟨d1, d2⟩, e1, f1, ⟨g1, g2⟩, ⟨h1, h2⟩, ⟨i1, i2⟩⟩ := hc
  obtain ⟨n1, n2, n3, n4, n5, n6, n7, n8, n9, n10, n11⟩ := hn
  unfold b0W
  obtain ⟨ha, hha⟩ : ∃ m : Nat, p.q_ = m := ⟨p.q_.toNat, by omega⟩
  obtain ⟨mi, hmi⟩ : ∃ m : Nat, p.m_ = m := ⟨p.m_.toNat, by omega⟩
  have hpe : plL p = o0B p.c_ p.f_ (ha + mi) ha (ha + mi) := by
    unfold plL; rw [hha, hmi, show ((ha : Int) + mi).toNat = ha + mi by omega, show (ha : Int).toNat = ha by omega]
  rw [hha, hmi, w64 (n := (ha : Int) + mi) (by omega) (by omega)]
  generalize hst : (fun (s519 : (List UInt8) × Int) => ((bif (decide (s519.2 < (ha : Int) + mi)) then (Option.bind (Option.bind (Option.bind (bif (decide (p.c_ > 0)) then (bif (decide (s519.2 = p.c_)) then (some true) else (bif (decide (s519.2 > p.c_)) then (bif (decide (p.f_ > 0)) then (bif nz p.f_ then (some ((decide (((Int.tmod (IntKind.wrap .i64 (s519.2 - p.c_)) p.f_)) = 0)))) else none) else (some false)) else (some false))) else (some false)) fun (s1003 : Bool) => (bif s1003 then (bif room (([44] : List UInt8).length + s519.1.length) then (some (([44] : List UInt8) ++ s519.1)) else none) else (some s519.1))) fun (s985 : (List UInt8)) => (bif (decide (s519.2 < (mi : Int))) then (bif room (([48] : List UInt8).length + s985.length) then (some (([48] : List UInt8) ++ s985)) else none) else (bif room (([35] : List UInt8).length + s985.length) then (some (([35] : List UInt8) ++ s985)) else none))) fun (s945 : (List UInt8)) => (some (.inl (s945, (IntKind.wrap .i64 (s519.2 + 1)))))) else (some (.inr s519.1))) : Option (((List UInt8) × Int) ⊕ (List UInt8)))) = step
  obtain ⟨o, q1, q2⟩ := d0d (step := step) (ha + mi) (fun n => (a0n (q0D p.c_ p.f_ (ha + mi) ha n), (n : Int))) (fun _ => True) (fun o => o = a0n (plL p)) (s0 := ([], 0)) rfl trivial (fun n hi _ => by
    left
    refine ⟨?_, trivial⟩
    subst hst
    have hl := r0M p.c_ p.f_ (ha + mi) ha n
    have hbl : (a0n (q0D p.c_ p.f_ (ha + mi) ha n)).length = (q0D p.c_ p.f_ (ha + mi) ha n).length := by simp [a0n]
    have hsu : q0D p.c_ p.f_ (ha + mi) ha (n + 1) = dgt ha (ha + mi - 1 - n) :: ((if n0B p.c_ p.f_ n = true then [44] else []) ++ q0D p.c_ p.f_ (ha + mi) ha n) := rfl
    rw [hsu]
    generalize q0D p.c_ p.f_ (ha + mi) ha n = P at *
    simp only
    rw [dT (show (n : Int) < (ha : Int) + mi by omega), w64 (n := (n : Int) + 1) (by omega) (by omega)]
    have hG : (bif (decide (p.c_ > 0)) then (bif (decide ((n : Int) = p.c_)) then (some true) else (bif (decide ((n : Int) > p.c_)) then (bif (decide (p.f_ > 0)) then (bif nz p.f_ then (some ((decide (((Int.tmod (IntKind.wrap .i64 ((n : Int) - p.c_)) p.f_)) = 0)))) else none) else (some false)) else (some false))) else (some false)) = some (n0B p.c_ p.f_ n) := by
      unfold n0B
      by_cases c1 : p.c_ > 0
      · rw [dT c1, dT (show 1 ≤ p.c_ by omega)]
        by_cases c2 : (n : Int) = p.c_
        · rw [dT c2, dT (show p.c_ ≤ (n : Int) by omega)]; rfl
        · rw [dF c2]
          by_cases c3 : (n : Int) > p.c_
          · rw [dT c3, dT (show p.c_ ≤ (n : Int) by omega), w64 (n := (n : Int) - p.c_) (by omega) (by omega), bq (by omega)]
            by_cases c4 : p.f_ > 0
            · rw [dT c4, show nz p.f_ = true by unfold nz; rw [dF (by omega)]; rfl]; simp
            · rw [dF c4]; rfl
          · rw [dF c3, dF (show ¬ p.c_ ≤ (n : Int) by omega)]; rfl
      · rw [dF c1, dF (show ¬ 1 ≤ p.c_ by omega)]; rfl
    rw [hG]
    have hrm : ∀ (x : List UInt8) (c : UInt8), x.length ≤ 1000 → room (([c] : List UInt8).length + x.length) = true := fun x c hx => a0v (by simp; omega)
    have hA : (Option.bind (some (n0B p.c_ p.f_ n)) fun (s1003 : Bool) => (bif s1003 then (bif room (([44] : List UInt8).length + (a0n P).length) then (some (([44] : List UInt8) ++ a0n P)) else none) else (some (a0n P)))) = some (a0n ((if n0B p.c_ p.f_ n = true then [44] else []) ++ P)) := by
      rw [hrm _ _ (by omega)]
      cases n0B p.c_ p.f_ n <;> rfl
    rw [hA]
    simp only [aa, cond_true]
    have hL : (a0n ((if n0B p.c_ p.f_ n = true then [44] else []) ++ P)).length ≤ 1000 := by
      unfold a0n
      rw [cA, ag]
      have : (if n0B p.c_ p.f_ n = true then ([44] : List Int) else []).length ≤ 1 := by split <;> simp
      omega
    rw [hrm _ _ hL, hrm _ _ hL]
    unfold dgt
    by_cases c1 : n < mi
    · rw [dT (show (n : Int) < mi by omega), if_neg (c := ha + mi - 1 - n < ha) (by omega)]; rfl
    · rw [dF (show ¬ (n : Int) < mi by omega), if_pos (c := ha + mi - 1 - n < ha) (by omega)]; rfl) (fun _ => ⟨_, by subst hst; simp only; rw [dF (by omega)]; rfl, by rw [v0V, hpe]⟩) (by omega)
  rw [q1, q2]
  simp only [aa]
  have hpl : (plL p).length ≤ 160 := by
    have := m0l p.c_ p.f_ (ha + mi) ha (ha + mi)
    rw [hpe]; omega
  have hbl : (a0n (plL p)).length ≤ 160 := by simp [a0n]; exact hpl
  rw [p0l g1 (by omega), w64 (n := p.n_ - p.g_) (by omega) (by omega), p0l (by omega) (by omega), p0l c1 (by omega), w64 (n := p.i_ - p.k_) (by omega) (by omega), p0l (by omega) (by omega), p0l i1 (by omega)]
  simp only [aa]
  have hS : a0n (sgL p) = List.replicate p.g_.toNat 64 ++ List.replicate (p.n_ - p.g_).toNat 35 := by
    unfold sgL; rw [c0H, g0l, g0l]; rfl
  have hSl : (sgL p).length ≤ 90 := by unfold sgL; simp; omega
  rw [a0v (by simp; omega), a0v (by simp; omega)]
  simp only [cond_true]
  rw [← hS]
  have hF : (bif (decide (p.i_ > 0)) then (bif room ((a0n (sgL p) ++ a0n (plL p)).length + ([46] : List UInt8).length) then (bif room ((((a0n (sgL p) ++ a0n (plL p)) ++ ([46] : List UInt8))).length + (List.replicate p.k_.toNat (48 : UInt8)).length) then (bif room (((((((a0n (sgL p) ++ a0n (plL p)) ++ ([46] : List UInt8))) ++ List.replicate p.k_.toNat (48 : UInt8)))).length + (List.replicate (p.i_ - p.k_).toNat (35 : UInt8)).length) then (some ((((((((a0n (sgL p) ++ a0n (plL p)) ++ ([46] : List UInt8))) ++ List.replicate p.k_.toNat (48 : UInt8))) ++ List.replicate (p.i_ - p.k_).toNat (35 : UInt8))))) else none) else none) else none) else (some (a0n (sgL p) ++ a0n (plL p)))) = some (a0n (sgL p ++ (plL p ++ frL p))) := by
    have hb2 : (a0n (sgL p)).length ≤ 90 := by simp [a0n]; exact hSl
    unfold frL
    by_cases h0 : p.i_ = 0
    · rw [dF (by omega), if_pos h0]; simp [c0H]
    · rw [dT (show p.i_ > 0 by omega), if_neg h0, a0v (by simp; omega), a0v (by simp; omega), a0v (by simp; omega)]
      rw [c0H, c0H, show ∀ l : List Int, a0n (46 :: l) = 46 :: a0n l from fun _ => rfl, c0H, g0l, g0l]
      simp [aI]
  rw [hF]
  simp only [aa]
  have hb3 : (a0n (sgL p ++ (plL p ++ frL p))).length ≤ 400 := by
    have hfr : (frL p).length ≤ 90 := by unfold frL; split <;> simp; omega
    simp [a0n]; omega
  have hN : n0Y p = (sgL p ++ (plL p ++ frL p)) ++ exL p := by
    unfold n0Y
    by_cases hs : 0 < p.g_
    · obtain ⟨z1, z2, z3, z4⟩ := n10 hs
      have e1 : plL p = [] := by rw [hpe]; have : ha + mi = 0 := by omega
                                 rw [this]; rfl
      have e2 : frL p = [] := by unfold frL; rw [if_pos z4]
      rw [if_pos hs, e1, e2]; simp
    · have e1 : sgL p = [] := by
        unfold sgL
        have hz : p.g_ = 0 := by omega
        have := (n9 hz).1
        rw [hz, this]; rfl
      rw [if_neg hs, e1]; simp
  rw [hN]
  generalize sgL p ++ (plL p ++ frL p) = S at *
  unfold exL
  by_cases h0 : p.b_ = 0
  · rw [dF (by omega), if_pos h0]; simp
  · rw [dT (show p.b_ > 0 by omega), if_neg h0, a0v (by simp; omega), a0v (by simp; omega)]
    simp only [cond_true]
    cases hep : p.E_ with
    | true =>
      simp only [cond_true, aa]
      rw [a0v (by simp; omega), if_pos trivial, c0H, show ∀ l : List Int, a0n (69 :: l) = 69 :: a0n l from fun _ => rfl, c0H, g0l]
      simp [a0n]
    | false =>
      simp only [cond_false, aa]
      rw [a0v (by simp; omega), if_neg (by simp), c0H, show ∀ l : List Int, a0n (69 :: l) = 69 :: a0n l from fun _ => rfl, c0H, g0l]
      simp [a0n]
/-! An affix as runes. -/
def qN (q : Bool) (t : a0b) : Bool := if t.K_ = 0 ∧ t.R_ = 39 then q else (decide (t.K_ = 0) && spc t.R_)
def pcL (t : a0b) : List Int := if t.K_ = 0 then (if t.R_ = 39 then [39, 39] else [t.R_]) else if t.K_ = 1 then [45] else if t.K_ = 2 then [43] else if t.K_ = 3 then [37] else if t.K_ = 4 then [164] else []
def y0B (s : Bool × List Int) (t : a0b) : Bool × List Int := (qN s.1 t, s.2 ++ ((if (qN s.1 t != s.1) = true then [39] else []) ++ pcL t))
def l0Z (l : List a0b) : Bool × List Int := l.foldl y0B (false, [])
def k0d (l : List a0b) : List Int := (l0Z l).2 ++ (if (l0Z l).1 = true then [39] else [])
theorem l0l {l : List a0b} {i : Nat} (h : i < l.length) : l0Z (l.take (i + 1)) = y0B (l0Z (l.take i)) l[i] := by
  unfold l0Z
  rw [be h, List.foldl_append]; rfl
def g0U (l : List a0b) : Bool := l.all (fun t => f0L t.R_)
theorem y0L {t : a0b} (h : f0L t.R_ = true) : (pcL t).all f0L = true ∧ (pcL t).length ≤ 2 := by
  unfold pcL
  split
  · split
    · exact ⟨by decide, by simp⟩
    · exact ⟨by simp [h], by simp⟩
  · split
    · exact ⟨by decide, by simp⟩
    · split
      · exact ⟨by decide, by simp⟩
      · split
        · exact ⟨by decide, by simp⟩
        · split
          · exact ⟨by decide, by simp⟩
          · exact ⟨by decide, by simp⟩
theorem u0j (t : a0b) : (pcL t).length ≤ 2 := by
  unfold pcL; repeat' split
  all_goals simp
theorem v0D {l : List a0b} (h : g0U l = true) : ∀ i, i ≤ l.length → (l0Z (l.take i)).2.all f0L = true
  | 0, _ => by simp [l0Z]
  | i + 1, hi => by
    rw [l0l (by omega)]
    have hr : f0L (l[i].R_) = true := List.all_eq_true.1 h _ (aY _)
    have ih := v0D h i (by omega)
    have h39 : f0L 39 = true := by decide
    unfold y0B
    simp only [aO, ih, (y0L hr).1, Bool.and_true, bJ]
    split <;> simp [h39]
theorem j0K {l : List a0b} : ∀ i, i ≤ l.length → (l0Z (l.take i)).2.length ≤ 3 * i
  | 0, _ => by simp [l0Z]
  | i + 1, hi => by
    rw [l0l (by omega)]
    have ih := j0K (l := l) i (by omega)
    have := u0j l[i]
    unfold y0B
    simp only [ag]
    have : (if (qN (l0Z (l.take i)).1 l[i] != (l0Z (l.take i)).1) = true then ([39] : List Int) else []).length ≤ 1 := by split <;> simp
    omega
theorem p0f {l : List a0b} (h : g0U l = true) : (k0d l).all f0L = true := by
  have := v0D h l.length (by omega)
  rw [bw] at this
  unfold k0d
  rw [aO, this]
  split <;> decide
theorem e0o (l : List a0b) : (k0d l).length ≤ 3 * l.length + 1 := by
  have := j0K (l := l) l.length (by omega)
  rw [bw] at this
  unfold k0d
  rw [ag]
  split <;> simp <;> omega
theorem l0h (l : List Int) : (a0n l).length = l.length := by simp [a0n]
theorem d0r (l : List Int) : (a0n (a0V l)).length ≤ 4 * l.length := by rw [l0h]; exact j0m l
theorem e0n (x y : List Int) : a0n (a0V (x ++ y)) = a0n (a0V x) ++ a0n (a0V y) := by rw [l0f, c0H]
theorem m0j {l : List a0b} (h : g0U l = true) (hl : l.length ≤ 300) : b0g l = some (a0n (a0V (k0d l))) := by
  unfold b0g
  generalize hst : (fun (s633 : (List UInt8) × Bool × Int) => ((bif (decide (s633.2.2 < (l.length : Int))) then (Option.bind (bif inR s633.2.2 l.length then (Option.bind (b0s ((nth l s633.2.2).R_)) fun y1160 => (Option.bind (bif inR s633.2.2 l.length then (bif (decide (((nth l s633.2.2).K_) = 0)) then (bif inR s633.2.2 l.length then (some ((decide (((nth l s633.2.2).R_) = 39)))) else none) else (some false)) else none) fun (s1168 : Bool) => (Option.bind (bif inR s633.2.2 l.length then (bif (decide (((nth l s633.2.2).K_) = 0)) then (some y1160) else (some false)) else none) fun (s1182 : Bool) => (Option.bind (Option.bind (bif (!s1168) then (some (s1182 != s633.2.1)) else (some false)) fun (s1214 : Bool) => (bif s1214 then (bif room (s633.1.length + ([39] : List UInt8).length) then (some ((s633.1 ++ ([39] : List UInt8)), s1182)) else none) else (some (s633.1, s633.2.1)))) fun (s1206 : (List UInt8) × Bool) => (bif inR s633.2.2 l.length then (bif (decide (((nth l s633.2.2).K_) = 0)) then (bif inR s633.2.2 l.length then (Option.bind (b0c ((nth l s633.2.2).R_)) fun y1231 => (bif room (s1206.1.length + y1231.length) then (bif s1168 then (bif room ((s1206.1 ++ y1231).length + ([39] : List UInt8).length) then (some (((s1206.1 ++ y1231) ++ ([39] : List UInt8)), s1206.2)) else none) else (some ((s1206.1 ++ y1231), s1206.2))) else none)) else none) else (bif (decide (((nth l s633.2.2).K_) = 1)) then (bif room (s1206.1.length + ([45] : List UInt8).length) then (some ((s1206.1 ++ ([45] : List UInt8)), s1206.2)) else none) else (bif (decide (((nth l s633.2.2).K_) = 2)) then (bif room (s1206.1.length + ([43] : List UInt8).length) then (some ((s1206.1 ++ ([43] : List UInt8)), s1206.2)) else none) else (bif (decide (((nth l s633.2.2).K_) = 3)) then (bif room (s1206.1.length + ([37] : List UInt8).length) then (some ((s1206.1 ++ ([37] : List UInt8)), s1206.2)) else none) else (bif (decide (((nth l s633.2.2).K_) = 4)) then (Option.bind (b0c 164) fun y1254 => (bif room (s1206.1.length + y1254.length) then (some ((s1206.1 ++ y1254), s1206.2)) else none)) else (some (s1206.1, s1206.2))))))) else none))))) else none) fun (s1154 : (List UInt8) × Bool) => (some (.inl (s1154.1, s1154.2, (IntKind.wrap .i64 (s633.2.2 + 1)))))) else (some (.inr (s633.1, s633.2.1)))) : Option (((List UInt8) × Bool × Int) ⊕ ((List UInt8) × Bool)))) = step
  obtain ⟨o, q1, q2⟩ := d0d (step := step) l.length (fun i => (a0n (a0V (l0Z (l.take i)).2), (l0Z (l.take i)).1, (i : Int))) (fun _ => True) (fun o => o = (a0n (a0V (l0Z l).2), (l0Z l).1)) (s0 := ([], false, 0)) rfl trivial (fun i hi _ => by
    left
    refine ⟨?_, trivial⟩
    have hr : f0L (l[i].R_) = true := List.all_eq_true.1 h _ (aY _)
    have hln := j0K (l := l) i (by omega)
    have hbl := d0r (l0Z (l.take i)).2
    rw [l0l hi]
    subst hst
    generalize l0Z (l.take i) = F at hln hbl
    obtain ⟨q, out⟩ := F
    simp only at hln hbl ⊢
    rw [dT (show (i : Int) < (l.length : Int) by omega), g0v hi, w64 (n := (i : Int) + 1) (by omega) (by omega), d0J hi]
    generalize l[i] = t at hr
    obtain ⟨k, r⟩ := t
    simp only at hr ⊢
    rw [z0y, x0z hr]
    simp only [aa, cond_true]
    have hA : ∀ (s : Bool), ((Option.bind (bif (!(decide (k = 0) && decide (r = 39))) then (some (s != q)) else (some false)) fun (s1214 : Bool) => (bif s1214 then (bif room ((a0n (a0V out)).length + ([39] : List UInt8).length) then (some ((a0n (a0V out) ++ ([39] : List UInt8)), s)) else none) else (some (a0n (a0V out), q)))) : Option (List UInt8 × Bool)) = some (a0n (a0V (out ++ (if ((if k = 0 ∧ r = 39 then q else s) != q) = true then [39] else []))), if k = 0 ∧ r = 39 then q else s) := by
      intro s
      rw [a0v (by simp; omega)]
      by_cases h1 : k = 0 ∧ r = 39
      · rw [dT h1.1, dT h1.2, if_pos h1]
        simp
      · rw [show (decide (k = 0) && decide (r = 39)) = false by rw [← Bool.decide_and]; exact dF h1, if_neg h1]
        cases s <;> cases q <;> simp [l0f, c0H] <;> rfl
    have hB : (bif (decide (k = 0)) then (some ((decide (r = 39)))) else (some false) : Option Bool) = some (decide (k = 0) && decide (r = 39)) := by cases decide (k = 0) <;> rfl
    have hC : (bif (decide (k = 0)) then (some (spc r)) else (some false) : Option Bool) = some (decide (k = 0) && spc r) := by cases decide (k = 0) <;> rfl
    rw [hB, hC]
    simp only [aa]
    rw [hA]
    simp only [aa]
    have hq : qN q ⟨k, r⟩ = if k = 0 ∧ r = 39 then q else (decide (k = 0) && spc r) := rfl
    unfold y0B
    simp only
    rw [← hq]
    generalize qN q ⟨k, r⟩ = q'
    rw [← aI]
    have hol : (out ++ (if (q' != q) = true then [39] else [])).length ≤ 3 * i + 1 := by
      rw [ag]; split <;> simp <;> omega
    generalize out ++ (if (q' != q) = true then [39] else []) = out' at *
    have hbl' := d0r out'
    have h164 : b0c 164 = some (a0n (f0S 164)) := x0z (by decide)
    have hel : (a0n (f0S r)).length ≤ 4 := by rw [l0h]; exact h0Z r
    have hel2 : (a0n (f0S 164)).length ≤ 4 := by rw [l0h]; exact h0Z 164
    rw [h164]
    simp only [aa]
    rw [e0n]
    unfold pcL
    simp only
    rw [a0v (by omega), a0v (by simp; omega), a0v (by simp; omega), a0v (by simp; omega)]
    by_cases k0 : k = 0
    · rw [dT k0, if_pos k0]
      by_cases r9 : r = 39
      · rw [dT r9, if_pos r9]; subst r9; simp; rfl
      · rw [dF r9, if_neg r9]; simp [a0V]
    · rw [dF k0, if_neg k0]
      by_cases k1 : k = 1
      · rw [dT k1, if_pos k1]; rfl
      · rw [dF k1, if_neg k1]
        by_cases k2 : k = 2
        · rw [dT k2, if_pos k2]; rfl
        · rw [dF k2, if_neg k2]
          by_cases k3 : k = 3
          · rw [dT k3, if_pos k3, a0v (by simp; omega)]; rfl
          · rw [dF k3, if_neg k3]
            by_cases k4 : k = 4
            · rw [dT k4, if_pos k4]
              rw [a0v (n := (a0n (a0V out')).length + (a0n (f0S 164)).length) (by omega)]
              simp [a0V]
            · rw [dF k4, if_neg k4]; simp [a0V, a0n]) (fun _ => ⟨_, by subst hst; simp only; rw [dF (by omega)]; rfl, by rw [bw]⟩) (by omega)
  rw [q1, q2]
  simp only [aa]
  have hln := j0K (l := l) l.length (by omega)
  rw [bw] at hln
  have hbl := d0r (l0Z l).2
  unfold k0d
  rw [a0v (by simp; omega), e0n]
  cases (l0Z l).1
  · simp [a0V, a0n]
  · simp; rfl
def m0n (p : a0M) (w : Int) : List Int := if p.A_ = w then [42, p.r_] else []
theorem e0m (p : a0M) (w : Int) : (m0n p w).length ≤ 2 := by unfold m0n; split <;> simp
theorem o0D {p : a0M} (w : Int) (h : f0L p.r_ = true) : b0l p w = some (a0n (a0V (m0n p w))) := by
  unfold b0l m0n
  by_cases h1 : p.A_ = w
  · rw [dT h1, if_pos h1, x0z h]
    have hel : (a0n (f0S p.r_)).length ≤ 4 := by rw [l0h]; exact h0Z _
    simp only [cond_true, aa]
    rw [a0v (by simp; omega)]
    simp [a0V, a0n]
    rfl
  · rw [dF h1, if_neg h1]; rfl
theorem v0w : ∀ {l : List Int}, asc l → a0V l = l
  | [], _ => rfl
  | c :: l, h => by
    have h1 := h c (au ..)
    have ih := v0w (l := l) (fun x hx => h x (aq _ hx))
    have e : a0V (c :: l) = f0S c ++ a0V l := rfl
    rw [e, ih]
    unfold f0S
    rw [if_pos h1.2]; rfl
theorem z0p {l : List Int} (h : asc l) : l.all f0L = true := by
  refine List.all_eq_true.2 (fun c hc => ?_)
  have := h c hc
  exact d0V.2 (by omega)
def txL (p : a0M) : List Int := m0n p 1 ++ (k0d p.d_ ++ (m0n p 2 ++ (n0Y p ++ (m0n p 3 ++ (k0d p.e_ ++ (m0n p 4 ++ (if p.y_ = true then 59 :: (k0d p.l_ ++ (n0Y p ++ k0d p.j_)) else [])))))))
theorem o0H {p : a0M} (hc : y0q p) (hn : n0M (m0V p)) : (n0Y p).length ≤ 400 := (p0J hc hn).2
theorem v0U {p : a0M} (hc : y0q p) (hn : n0M (m0V p)) (h1 : p.d_.length ≤ 300) (h2 : p.e_.length ≤ 300) (h3 : p.l_.length ≤ 300) (h4 : p.j_.length ≤ 300) (o0 : f0L p.r_ = true) (o1 : g0U p.d_ = true) (o2 : g0U p.e_ = true) (o3 : g0U p.l_ = true) (o4 : g0U p.j_ = true) : d0f p = some (a0n (a0V (txL p))) := by
  have hN := x0O hc hn
  rw [← v0w (v0v p)] at hN
  unfold d0f
  rw [o0D 1 o0, o0D 2 o0, o0D 3 o0, o0D 4 o0, m0j o1 h1, m0j o2 h2, m0j o3 h3, m0j o4 h4, hN]
  simp only [aa]
  have b1 := d0r (m0n p 1); have b2 := d0r (m0n p 2); have b3 := d0r (m0n p 3); have b4 := d0r (m0n p 4)
  have a1 := e0m p 1; have a2 := e0m p 2; have a3 := e0m p 3; have a4 := e0m p 4
  have c1 := d0r (k0d p.d_); have c2 := d0r (k0d p.e_); have c3 := d0r (k0d p.l_); have c4 := d0r (k0d p.j_)
  have d1 := e0o p.d_; have d2 := e0o p.e_; have d3 := e0o p.l_; have d4 := e0o p.j_
  have e1 := d0r (n0Y p); have e2 := o0H hc hn
  unfold txL
  rw [e0n, e0n, e0n, e0n, e0n, e0n, e0n]
  generalize a0n (a0V (m0n p 1)) = A1 at *
  generalize a0n (a0V (m0n p 2)) = A2 at *
  generalize a0n (a0V (m0n p 3)) = A3 at *
  generalize a0n (a0V (m0n p 4)) = A4 at *
  have hneg : a0n (a0V (if p.y_ = true then 59 :: (k0d p.l_ ++ (n0Y p ++ k0d p.j_)) else [])) = if p.y_ = true then 59 :: (a0n (a0V (k0d p.l_)) ++ (a0n (a0V (n0Y p)) ++ a0n (a0V (k0d p.j_)))) else [] := by
    split
    · rw [show (59 : Int) :: (k0d p.l_ ++ (n0Y p ++ k0d p.j_)) = [59] ++ (k0d p.l_ ++ (n0Y p ++ k0d p.j_)) from rfl, e0n, e0n, e0n]; rfl
    · rfl
  rw [hneg]
  generalize a0n (a0V (k0d p.d_)) = C1 at *
  generalize a0n (a0V (k0d p.e_)) = C2 at *
  generalize a0n (a0V (k0d p.l_)) = C3 at *
  generalize a0n (a0V (k0d p.j_)) = C4 at *
  generalize a0n (a0V (n0Y p)) = N at *
  rw [a0v (by omega), a0v (by simp; omega), a0v (by simp; omega), a0v (by simp; omega), a0v (by simp; omega), a0v (by simp; omega)]
  simp only [cond_true]
  cases p.y_ with
  | true =>
    rw [a0v (by simp; omega), a0v (by simp; omega), a0v (by simp; omega), a0v (by simp; omega)]
    simp [aI]
  | false => simp [aI]
theorem w0R {p : a0M} (o0 : f0L p.r_ = true) (o1 : g0U p.d_ = true) (o2 : g0U p.e_ = true) (o3 : g0U p.l_ = true) (o4 : g0U p.j_ = true) : (txL p).all f0L = true := by
  have hp : ∀ w, (m0n p w).all f0L = true := fun w => by
    unfold m0n; split
    · simp [o0]; decide
    · rfl
  have hn := z0p (v0v p)
  unfold txL
  simp only [aO, hp, p0f o1, p0f o2, hn, bJ]
  split
  · rw [az, aO, aO, p0f o3, p0f o4, hn]; decide
  · rfl
/-! The text of a number, read: all of it. -/
/-! A number's text, parsed; what a right pattern is, to the letter. -/
def z0W (p : a0M) : Prop := p.q_ + p.m_ ≤ 40 ∧ p.i_ ≤ 40 ∧ p.n_ ≤ 40 ∧ p.b_ ≤ 40
theorem y0G {l : List a0b} (hw : ∀ z ∈ l, -2147483648 ≤ z.R_ ∧ z.R_ < 2147483648) (hl : l.length ≤ 1000) : b0i l = some (g0U l) := by
  unfold b0i
  obtain ⟨o, g1, g2⟩ := d0d (step := (fun (s54 : Int) => ((bif (decide (s54 < (l.length : Int))) then (bif inR s54 l.length then (Option.bind (a0W ((nth l s54).R_)) fun y91 => (bif (!y91) then (some (.inr (.inr false))) else (some (.inl (IntKind.wrap .i64 (s54 + 1)))))) else none) else (some (.inr (.inl ())))) : Option (Int ⊕ (Unit ⊕ Bool))))) l.length (fun i => (i : Int)) (fun i => ∀ j (hj : j < l.length), j < i → f0L (l[j].R_) = true) (fun o => o = if g0U l = true then .inl () else .inr false) (s0 := 0) rfl (fun j _ hj => by omega) (fun i hi hI => by
    have hr := hw _ (aY hi)
    rw [dT (show (i : Int) < (l.length : Int) by omega), g0v hi, d0J hi, is1 (by omega) (by omega), w64 (n := (i : Int) + 1) (by omega) (by omega)]
    simp only [cond_true, aa]
    cases c : f0L (l[i].R_) with
    | true =>
      left
      refine ⟨by simp, fun j hj hji => ?_⟩
      by_cases e : j = i
      · subst e; exact c
      · exact hI j hj (by omega)
    | false =>
      right
      refine ⟨_, rfl, ?_⟩
      rw [if_neg (fun h => by
        have := List.all_eq_true.1 h _ (aY hi)
        simp [c] at this)]) (fun hI => ⟨.inl (), by rw [dF (by omega)]; rfl, by
    rw [if_pos]
    refine List.all_eq_true.2 (fun t ht => ?_)
    obtain ⟨j, hj, rfl⟩ := List.getElem_of_mem ht
    exact hI j hj hj⟩) (by omega)
  have h1 : a0q (fun (s54 : Int) => ((bif (decide (s54 < (l.length : Int))) then (bif inR s54 l.length then (Option.bind (a0W ((nth l s54).R_)) fun y91 => (bif (!y91) then (some (.inr (.inr false))) else (some (.inl (IntKind.wrap .i64 (s54 + 1)))))) else none) else (some (.inr (.inl ())))) : Option (Int ⊕ (Unit ⊕ Bool)))) big 0 = some o := g1
  rw [h1, g2]
  cases g0U l <;> rfl
/-! Two readers side by side: affixes. -/
section
variable {l : List Int}
end
/-! Two readers side by side: places. -/
section
variable {l : List Int} {a2 a3 a4 a5 a6 : Int} {b7 : List a0b} {b8 : Bool} {c11 c12 c15 c16 c17 c19 c20 : Int} {c18 : Bool}
end
/-! Two readers side by side: patterns. -/
section
variable {l : List Int}
end
/-! A pattern's text, by either hand. -/
theorem z0u {p : a0M} {out : List Int} {w : Int} (ho : out.length ≤ 1000000) : i0O out p w = some (out ++ m0n p w) := by
  unfold i0O m0n
  by_cases h : p.A_ = w
  · rw [dF (fun hh => hh h), if_pos h, a0v (by simp; omega)]; rfl
  · rw [dT h, if_neg h]; simp
theorem z0h (t : a0b) : h0u t = some (pcL t) := by
  unfold h0u pcL e0A
  obtain ⟨k, r⟩ := t
  simp only
  by_cases k0 : k = 0
  · rw [dT k0, if_pos k0]
    by_cases r9 : r = 39
    · rw [dT r9, if_pos r9, r9]; rfl
    · rw [dF r9, if_neg r9]; rfl
  · rw [dF k0, if_neg k0]
    by_cases k1 : k = 1
    · subst k1; rfl
    · by_cases k2 : k = 2
      · subst k2; rfl
      · by_cases k3 : k = 3
        · subst k3; rfl
        · by_cases k4 : k = 4
          · subst k4; rfl
          · rw [if_neg k1, if_neg k2, if_neg k3, if_neg k4]
            simp only [k0c]
            rw [dF (show ¬ (1 : Int) = k by omega), dF (show ¬ (2 : Int) = k by omega), dF (show ¬ (3 : Int) = k by omega), dF (show ¬ (4 : Int) = k by omega)]
            rfl
theorem s0v {out : List Int} {l : List a0b} (ho : out.length ≤ 1000000) (hl : l.length ≤ 300) : f0B out l = some (out ++ k0d l) := by
  unfold f0B
  generalize hst : (fun (s519 : Bool × Int × (List Int)) => ((bif (decide (s519.2.1 < (l.length : Int))) then (Option.bind (bif inR s519.2.1 l.length then (Option.bind (bif (decide (((nth l s519.2.1).K_) = 0)) then (some ((decide (((nth l s519.2.1).R_) = 39)))) else (some false)) fun (s952 : Bool) => (Option.bind (bif s952 then (bif s519.1 then (some true) else (bif (!s952) then (bif (decide (((nth l s519.2.1).K_) = 0)) then (Option.bind (c0g ((nth l s519.2.1).R_)) fun y1001 => (some y1001)) else (some false)) else (some false))) else (bif (!s952) then (bif (decide (((nth l s519.2.1).K_) = 0)) then (Option.bind (c0g ((nth l s519.2.1).R_)) fun y1010 => (some y1010)) else (some false)) else (some false))) fun (s984 : Bool) => (Option.bind (bif (s984 != s519.1) then (bif room (s519.2.2.length + ([39] : List Int).length) then (some (s984, (s519.2.2 ++ ([39] : List Int)))) else none) else (some (s519.1, s519.2.2))) fun (s1017 : Bool × (List Int)) => (Option.bind (h0u (nth l s519.2.1)) fun y1026 => (bif room (s1017.2.length + y1026.length) then (some (s1017.1, (s1017.2 ++ y1026))) else none))))) else none) fun (s943 : Bool × (List Int)) => (some (.inl (s943.1, (IntKind.wrap .i64 (s519.2.1 + 1)), s943.2)))) else (some (.inr (s519.1, s519.2.2)))) : Option ((Bool × Int × (List Int)) ⊕ (Bool × (List Int))))) = step
  obtain ⟨o, q1, q2⟩ := d0d (step := step) l.length (fun i => ((l0Z (l.take i)).1, (i : Int), out ++ (l0Z (l.take i)).2)) (fun _ => True) (fun o => o = ((l0Z l).1, out ++ (l0Z l).2)) (s0 := (false, 0, out)) (by simp [l0Z]) trivial (fun i hi _ => by
    left
    refine ⟨?_, trivial⟩
    have hln := j0K (l := l) i (by omega)
    rw [l0l hi]
    subst hst
    generalize l0Z (l.take i) = F at hln
    obtain ⟨q, u⟩ := F
    simp only at hln ⊢
    rw [dT (show (i : Int) < (l.length : Int) by omega), g0v hi, w64 (n := (i : Int) + 1) (by omega) (by omega), d0J hi, z0h]
    have hpl := u0j l[i]
    generalize hpc : pcL l[i] = pc at hpl
    unfold y0B
    rw [hpc]
    generalize l[i] = t
    obtain ⟨k, r⟩ := t
    simp only
    rw [n0V]
    have hsp : decide (r = 35 ∨ r = 64 ∨ r = 44 ∨ r = 46 ∨ r = 59 ∨ r = 42 ∨ r = 37 ∨ r = 45 ∨ r = 43 ∨ r = 39 ∨ r = 69 ∨ r = 164 ∨ (48 ≤ r ∧ r ≤ 57)) = spc r := rfl
    rw [hsp]
    simp only [cond_true, aa]
    have hB : (bif (decide (k = 0)) then (some ((decide (r = 39)))) else (some false) : Option Bool) = some (decide (k = 0) && decide (r = 39)) := by cases decide (k = 0) <;> rfl
    rw [hB]
    simp only [aa]
    have hQ : (bif (decide (k = 0) && decide (r = 39)) then (bif q then (some true) else (bif (!(decide (k = 0) && decide (r = 39))) then (bif (decide (k = 0)) then (some (spc r)) else (some false)) else (some false))) else (bif (!(decide (k = 0) && decide (r = 39))) then (bif (decide (k = 0)) then (some (spc r)) else (some false)) else (some false)) : Option Bool) = some (qN q ⟨k, r⟩) := by
      unfold qN
      simp only
      by_cases h1 : k = 0 ∧ r = 39
      · rw [dT h1.1, dT h1.2, if_pos h1]; cases q <;> rfl
      · rw [show (decide (k = 0) && decide (r = 39)) = false by rw [← Bool.decide_and]; exact dF h1, if_neg h1]
        cases decide (k = 0) <;> rfl
    rw [hQ]
    simp only [aa]
    generalize qN q ⟨k, r⟩ = q'
    have hC : (bif (q' != q) then (bif room ((out ++ u).length + ([39] : List Int).length) then (some (q', (out ++ u ++ ([39] : List Int)))) else none) else (some (q, out ++ u)) : Option (Bool × List Int)) = some (q', out ++ (u ++ (if (q' != q) = true then [39] else []))) := by
      rw [a0v (by simp; omega)]
      cases q' <;> cases q <;> simp
    rw [hC]
    simp only [aa]
    have hlu : (if (q' != q) = true then ([39] : List Int) else []).length ≤ 1 := by split <;> simp
    rw [a0v (by simp only [ag]; omega)]
    simp only [cond_true, aa, aI]
    rfl) (fun _ => ⟨_, by subst hst; simp only; rw [dF (by omega)]; rfl, by rw [bw]⟩) (by omega)
  rw [q1, q2]
  simp only [aa]
  have hln := j0K (l := l) l.length (by omega)
  rw [bw] at hln
  unfold k0d
  rw [a0v (by simp; omega)]
  cases (l0Z l).1
  · simp
  · simp
def txN (N : List Int) (p : a0M) : List Int := m0n p 1 ++ (k0d p.d_ ++ (m0n p 2 ++ (N ++ (m0n p 3 ++ (k0d p.e_ ++ (m0n p 4 ++ (if p.y_ = true then 59 :: (k0d p.l_ ++ (N ++ k0d p.j_)) else [])))))))
theorem p0C {N : List Int} {p : a0M} (hp : g0i p = some N) (hN : N.length ≤ 1500) (h1 : p.d_.length ≤ 300) (h2 : p.e_.length ≤ 300) (h3 : p.l_.length ≤ 300) (h4 : p.j_.length ≤ 300) : f0r p = some (txN N p) := by
  have a1 := e0m p 1; have a2 := e0m p 2; have a3 := e0m p 3; have a4 := e0m p 4
  have d1 := e0o p.d_; have d2 := e0o p.e_; have d3 := e0o p.l_; have d4 := e0o p.j_
  unfold f0r
  rw [hp]
  simp only [aa]
  rw [z0u (by simp)]
  simp only [aa]
  rw [s0v (by simp; omega) h1]
  simp only [aa]
  rw [z0u (by simp; omega)]
  simp only [aa]
  rw [a0v (by simp; omega)]
  simp only [cond_true]
  rw [z0u (by simp; omega)]
  simp only [aa]
  rw [s0v (by simp; omega) h2]
  simp only [aa]
  rw [z0u (by simp; omega)]
  simp only [aa]
  unfold txN
  cases p.y_ with
  | true =>
    simp only [cond_true]
    rw [a0v (by simp; omega)]
    simp only [cond_true]
    rw [s0v (by simp; omega) h3]
    simp only [aa]
    rw [a0v (by simp; omega)]
    simp only [cond_true]
    rw [s0v (by simp; omega) h4]
    simp [aI]
  | false => simp [aI]
theorem v0p {q : a0M} (hn : n0M (m0V q)) (hl : z0W q) : y0q q := by
  obtain ⟨n1, n2, n3, n4, n5, n6, n7, n8, n9, n10, n11⟩ := hn
  obtain ⟨l1, l2, l3, l4⟩ := hl
  have hg : (0 ≤ q.c_ ∧ q.c_ ≤ 40) ∧ (0 ≤ q.f_ ∧ q.f_ ≤ 40) := by
    rcases n11 with ⟨h1, h2⟩ | ⟨h1, h2, h3, h4⟩
    · omega
    · by_cases hc : q.q_ + q.m_ ≤ q.c_ + q.f_
      · have := h4 hc; omega
      · omega
  exact ⟨by omega, by omega, by omega, by omega, hg.1, hg.2, by omega, by omega, by omega⟩
theorem q0r {a : a0M} (hc : y0q a) (hn : n0M (m0V a)) (h1 : a.d_.length ≤ 300) (h2 : a.e_.length ≤ 300) (h3 : a.l_.length ≤ 300) (h4 : a.j_.length ≤ 300) : f0r a = some (txL a) := p0C (p0J hc hn).1 (by have := o0H hc hn; omega) h1 h2 h3 h4
/-! Bytes are read, patterns written: it answers. -/
theorem x0E {x : Int} (h : f0I x ≠ 0) : f0L x = true := by
  unfold f0I at h
  cases c : f0L x with
  | true => rfl
  | false => rw [c] at h; exact absurd rfl h
theorem y0e {l : List Int} (h0 : 0 < l.length) (hl : l.length ≤ 100000) : Tot (f0y l) (fun r => (0 ≤ r.2 ∧ r.2 ≤ l.length) ∧ (r.2 ≠ 0 → f0L r.1 = true)) := by
  unfold f0y
  have i0 : inR 0 l.length = true := a0Z (ar _) (by omega)
  refine tY i0 (tB (p := fun n => 0 ≤ n ∧ n ≤ 4) ?_ (fun y hy => ?_))
  · unfold c0n
    repeat' (first | exact tR ⟨by omega, by omega⟩ | refine tI (fun _ => ?_) (fun _ => ?_))
  refine tJ (tB (p := fun r => r = false → 1 ≤ y ∧ y ≤ l.length) (tI (fun _ => tR (fun h => by cases h)) (fun e => tR (fun h => ?_))) (fun r hr => tI (fun _ => tR ⟨⟨ar _, by simp only; omega⟩, fun h => absurd rfl h⟩) (fun e => tR (show Tot _ _ from ?_))))
  · have := dFF e; have := dFF h; omega
  obtain ⟨y1, y2⟩ := hr e
  refine tY i0 (tB (p := fun _ => True) ?_ (fun m _ => ?_))
  · unfold g0M
    repeat' (first | exact tR trivial | refine tI (fun _ => ?_) (fun _ => ?_))
  have hc : (cut l 1 y).length ≤ l.length := x0r ..
  refine tJ (tY (l0T (by omega) y1 y2) (tW (fun s : Int × Int => s.2) (cut l 1 y).length (fun _ => True) (by omega) ⟨trivial, ar _, by simp⟩ (fun s _ g0 g1 => ?_) (fun s _ e => ?_)))
  · refine tY (dT g1) <| tY (a0Z g0 g1) (tI (fun _ => tR ⟨⟨ar _, by simp only; omega⟩, fun h => absurd rfl h⟩) (fun _ => tR ⟨trivial, w64 (by omega) (by omega)⟩))
  · rw [dF (show ¬ s.2 < ((cut l 1 y).length : Int) by omega)]
    exact tR (tB (p := fun n => n = f0I s.1) ⟨_, t0N _, rfl⟩ (fun z hz => tI (fun _ => tR ⟨⟨ar _, by simp only; omega⟩, fun h => absurd rfl h⟩) (fun e => tR ⟨⟨by simp only; omega, y2⟩, fun h => x0E (by have := dFF e; simp only at h ⊢; omega)⟩)))
theorem s0r {l : List Int} (hl : l.length ≤ 100000) : Tot (d0T l) (fun r => r.1.length ≤ l.length ∧ r.1.all f0L = true) := by
  unfold d0T
  refine tJ (tL (fun s : Int × List Int => ra l s.1 ∧ (s.2.length : Int) ≤ s.1 ∧ s.2.all f0L = true) (fun s => ((l.length : Int) - s.1).toNat) ⟨⟨ar _, by simp only; omega⟩, by simp, rfl⟩ (by simp only; omega) (fun s hs => ?_))
  obtain ⟨⟨g0, g1⟩, g2, g3⟩ := hs
  refine tI (fun hlt => ?_) (fun _ => tR (tR ⟨by simp only; omega, g3⟩))
  have hlt := dTT hlt
  have hc : ((cut l s.1 (l.length : Int)).length : Int) = (l.length : Int) - s.1 := by unfold cut; simp; omega
  refine tY (l0T g0 g1 (by omega)) (tB (y0e (by omega) (by omega)) (fun y hy => tI (fun _ => tR (show ([] : List Int).length ≤ _ ∧ _ from ⟨by simp, rfl⟩)) (fun hn => tY (a0v (by simp; omega)) (tR ?_))))
  have hn := dFF hn
  rw [w64 (n := s.1 + y.2) (by omega) (by omega)]
  exact ⟨⟨⟨by simp only; omega, by simp only; omega⟩, by simp; omega, by rw [aO, g3]; simp [hy.2 hn]⟩, by simp only; omega⟩
theorem q0S {t : List UInt8} (ht : t.length ≤ 100000) : Tot (e0N t) (fun r => o0c r.1 120) := by
  have z : ∀ a c : Int, Tot (some ((⟨([] : List a0b), ([] : List a0b), ([] : List a0b), ([] : List a0b), false, 0, 0, 0, 0, 0, 0, 0, 0, 0, false, 0, 0⟩ : a0M), a, c)) (fun r : a0M × Int × Int => o0c r.1 120) := fun a c => tR ⟨by simp, by simp, by simp, by simp⟩
  unfold e0N
  refine tB (s0r (by rw [f0v]; exact ht)) (fun y hy => tI (fun _ => z _ _) (fun _ => tI (fun _ => z _ _) (fun h => ?_)))
  have hy := hy.1
  have h := dFF h
  refine tB (y0I (by rw [f0v] at hy; omega)) (fun q hq => tI (fun _ => z _ _) (fun _ => tI (fun _ => z _ _) (fun _ => tR ?_)))
  obtain ⟨q1, q2, q3, q4⟩ := hq
  exact ⟨by simp only; omega, by simp only; omega, by simp only; omega, by simp only; omega⟩
def n0J (p : a0M) : Prop := n0M (m0V p) ∧ z0W p ∧ (g0U p.d_ = true ∧ g0U p.e_ = true ∧ g0U p.l_ = true ∧ g0U p.j_ = true) ∧ f0L p.r_ = true
theorem z0o {α : Type} {c : Bool} {x y : Option α} {r : α} (h : (bif c then x else y) = some r) : (c = true ∧ x = some r) ∨ (c = false ∧ y = some r) := by
  cases c with
  | true => exact .inl ⟨rfl, h⟩
  | false => exact .inr ⟨rfl, h⟩
theorem u0y {a b n : Int} (h : s0a a b ≤ n) : a ≤ n ∧ b ≤ n := by
  unfold s0a at h; split at h <;> omega
theorem m0U {t : List UInt8} {p : a0M} {a : Int} (h : e0N t = some (p, a, 0)) : ∃ l e j, d0T (b0j t) = some (l, e, 0) ∧ l.length ≤ 120 ∧ a0F l 0 0 1 2 3 4 = some (.inl (p, j)) ∧ s0a (s0a (s0a (IntKind.wrap .i64 (p.q_ + p.m_)) p.i_) p.n_) p.b_ ≤ 40 := by
  unfold e0N at h
  obtain ⟨⟨l, e, c⟩, h1, h⟩ := a0d h
  rcases z0o h with ⟨c1, h⟩ | ⟨c1, h⟩
  · have := dTT c1
    have := (bl (bl (oi h)).2).2
    simp only at *
    omega
  rcases z0o h with ⟨c2, h⟩ | ⟨c2, h⟩
  · have := (bl (bl (oi h)).2).2
    omega
  obtain ⟨y, h2, h⟩ := a0d h
  rcases z0o h with ⟨c3, h⟩ | ⟨c3, h⟩
  · have := (bl (bl (oi h)).2).2
    omega
  rcases z0o h with ⟨c4, h⟩ | ⟨c4, h⟩
  · have := (bl (bl (oi h)).2).2
    omega
  obtain rfl := (bl (oi h)).1
  have c1 := dFF c1; have c2 := dFF c2; have c4 := dFF c4
  simp only at c1 c2 h1 h2
  have c1 : c = 0 := by omega
  subst c1
  unfold j0y at h2
  obtain ⟨_, _, h2⟩ := a0d h2
  obtain ⟨x, h3, h2⟩ := a0d h2
  cases x with
  | inr x =>
    rw [Sum.elim_inr] at h2
    obtain ⟨_, _, h2⟩ := a0d h2
    obtain rfl := oi h2
    cases c3
  | inl x =>
    rw [Sum.elim_inl] at h2
    obtain ⟨_, _, h2⟩ := a0d h2
    obtain rfl := oi h2
    exact ⟨l, e, x.2, h1, by omega, h3, by simp only at c4 ⊢; omega⟩
theorem v0A {l : List Int} (h : l.all f0L = true) (q : Int) (h0 : 0 ≤ q) (h1 : q < l.length) : nth l q ≠ -1 := by
  obtain ⟨k, rfl⟩ := aL h0
  rw [d0J (by omega)]
  have := d0V.1 (List.all_eq_true.1 h _ (aY (show k < l.length by omega)))
  omega
theorem x0g {l : List Int} {c : Int} (h : l.all f0L = true) (hc : inL l c) : f0L c = true := by
  rcases hc with hc | rfl | rfl
  · exact List.all_eq_true.1 h _ hc
  · decide
  · decide
theorem r0K {l : List Int} {ts : List a0b} (h : l.all f0L = true) (hc : tkL l ts) : g0U ts = true := List.all_eq_true.2 fun t ht => x0g h (hc t ht)
theorem l0z {t : List UInt8} {p : a0M} {a : Int} (ht : t.length ≤ 100000) (h : e0N t = some (p, a, 0)) : n0J p ∧ o0c p 120 := by
  obtain ⟨o, ho, hl⟩ := q0S ht
  obtain rfl := oi (ho.symm.trans h)
  obtain ⟨l, e, j, h1, h2, h3, h4⟩ := m0U h
  obtain ⟨o, ho, _, hb⟩ := s0r (l := b0j t) (by rw [f0v]; exact ht)
  obtain rfl := oi (ho.symm.trans h1)
  replace hb : l.all f0L = true := hb
  obtain ⟨_, _, _, _, _, _, _, ⟨hc, hb2⟩, ⟨k1, k2, k3, k4⟩, hp⟩ := m0T (by omega) (v0A hb) h3
  obtain ⟨h4, m4⟩ := u0y h4
  obtain ⟨h4, m3⟩ := u0y h4
  obtain ⟨h4, m2⟩ := u0y h4
  have hc' := hc
  obtain ⟨n1, n2, n3, n4, n5, n6, n7, n8, n9, n10, n11⟩ := hc'
  rw [w64 (by omega) (by omega)] at h4
  exact ⟨⟨hc, ⟨h4, m2, m3, m4⟩, ⟨r0K hb k1, r0K hb k2, r0K hb k3, r0K hb k4⟩, x0g hb hp⟩, hl⟩
theorem w0S {p : a0M} (h : o0c p 120) (hc : y0q p) (hn : n0M (m0V p)) : (txL p).length ≤ 3000 := by
  obtain ⟨l1, l2, l3, l4⟩ := h
  have a1 := e0m p 1; have a2 := e0m p 2; have a3 := e0m p 3; have a4 := e0m p 4
  have d1 := e0o p.d_; have d2 := e0o p.e_; have d3 := e0o p.l_; have d4 := e0o p.j_
  have e2 := o0H hc hn
  unfold txL
  simp only [ag]
  split
  · simp only [bd, ag]; omega
  · simp only [bU]; omega
theorem o0I {T : Type} [Inhabited T] {l : List T} {i : Int} (h0 : 0 ≤ i) (h1 : i < l.length) : nth l i ∈ l := by
  obtain ⟨k, rfl⟩ := aL h0
  rw [d0J (by omega)]; exact aY _
theorem t0X {p : a0M} (hg : n0J p) (hl : o0c p 120) (h : f0C p = some true) : a0Y p = some true := by
  obtain ⟨hn, hlim, ⟨o1, o2, o3, o4⟩, o0⟩ := hg
  have hc := v0p hn hlim
  have hln := w0S hl hc hn
  obtain ⟨l1, l2, l3, l4⟩ := hl
  have hok := w0R o0 o1 o2 o3 o4
  have hpd := d0V.1 o0
  have htx := v0U hc hn (by omega) (by omega) (by omega) (by omega) o0 o1 o2 o3 o4
  unfold f0C k0M at h
  rw [q0r hc hn (by omega) (by omega) (by omega) (by omega), aa, m0G hok, aa] at h
  obtain ⟨⟨q, a, c⟩, h1, h⟩ := a0d h
  obtain ⟨b, h2, h⟩ := a0d h
  obtain rfl := oi h
  rcases z0o h2 with ⟨c1, h2⟩ | ⟨_, h2⟩
  · have c1 := dTT c1
    simp only at c1
    subst c1
    have hgq := l0z (by have := d0r (txL p); omega) h1
    have hqd := d0V.1 hgq.1.2.2.2
    obtain ⟨_, h3, h4⟩ := a0d h2
    obtain rfl := oi h4
    rw [t0Q ⟨by omega, by omega, by omega, by omega⟩ ⟨by omega, by omega⟩ ⟨by simp only; omega, by simp only; omega⟩] at h3
    have hpq : p = q := of_decide_eq_true (oi h3)
    subst hpq
    obtain ⟨l, e, j, d1, d2, d3, _⟩ := m0U h1
    rw [s0o hok, r0w hok (by omega)] at d1
    obtain ⟨rfl, rfl, _⟩ : txL p = l ∧ (0 : Int) = e ∧ True := by
      have := oi d1
      exact ⟨(bl this).1, (bl (bl this).2).1, trivial⟩
    have hsim := m0T (by omega) (v0A hok) d3
    have hparse : c0L (a0n (a0V (txL p))) = some (p, 0, 0) := by
      obtain ⟨P1, fr, to, n, s1, s2, s3, _⟩ := hsim
      obtain ⟨m1, m2, m3, m4⟩ := hlim
      obtain ⟨⟨q1, q2⟩, ⟨q3, q4⟩, _⟩ := hc
      have hw : IntKind.wrap .i64 (p.q_ + p.m_) = p.q_ + p.m_ := w64 (by omega) (by omega)
      unfold c0L
      rw [s0o hok, p0w hok (by omega), aa, dF (not_not_intro rfl), dF (show ¬ ((txL p).length : Int) > 120 by omega), s1]
      simp only [cond_false, cond_true, aa]
      rw [l0J s2.1]
      simp only [aa]
      rcases s3 with ⟨s3, rfl, s4⟩ | ⟨s3, s4⟩
      · rw [dF s3]
        simp only [cond_false, aa, aK]
        rw [dF (show ¬ n < ((txL p).length : Int) by omega)]
        simp only [cond_false, aa, a0i, hw]
        rw [dF (by omega), dF (by omega), dF (by omega), dF (by omega)]
        rfl
      · rw [dT s3]
        have := s2.2
        have := s2.1
        rw [w64 (n := n + 1) (by omega) (by omega), s4]
        simp only [cond_true, cond_false, aa, aK]
        rw [dF (by omega)]
        simp only [cond_false, aa, a0i, hw]
        rw [dF (by omega), dF (by omega), dF (by omega), dF (by omega)]
        rfl
    have key : Tot (a0Y p) (fun b => b = true) := by
      have hr : ∀ {ts : List a0b}, ts.length ≤ 120 → g0U ts = true → b0i ts = some true := fun h1 h2 => by
        rw [y0G (fun z hz => ?_) (by omega), h2]
        have := d0V.1 (List.all_eq_true.1 h2 _ hz)
        omega
      unfold a0Y
      rw [hr l1 o1, hr l2 o2, hr l3 o3, hr l4 o4, is1 (by omega) (by omega), o0, htx]
      generalize hL : ([p.q_, p.m_, p.k_, p.i_, p.c_, p.f_, p.g_, p.n_, p.b_] : List Int) = L
      have hlen : L.length = 9 := by rw [← hL]; rfl
      have hall : ∀ x ∈ L, 0 ≤ x ∧ x ≤ 40 := by
        subst hL
        obtain ⟨c1, c2, c3, c4, c5, c6, c7, c8, c9⟩ := hc
        intro x hx
        simp only [aJ, bQ, or_false] at hx
        rcases hx with rfl | rfl | rfl | rfl | rfl | rfl | rfl | rfl | rfl <;> assumption
      refine tJ (tW (fun s : Int => s) L.length (fun _ => True) (by omega) ⟨trivial, ar _, by omega⟩ (fun i _ g0 g1 => ?_) (fun i _ e => ?_))
      · have hx := hall _ (o0I g0 g1)
        have hin := a0Z g0 g1
        refine tY (dT g1) (tJ (tB (p := fun b => b = false) (tY hin (tY hin (tN (dF (by omega)) (tY hin (tY hin (tR (dF (by omega)))))))) (fun b hb => tN hb (tR (tR ⟨trivial, w64 (by omega) (by omega)⟩)))))
      · rw [dF (show ¬ i < (L.length : Int) by omega)]
        simp only [cond_false, cond_true, aa, aK, a0i, hparse]
        refine tR (show Tot _ _ from ?_)
        simp only [dT rfl, decide_true, cond_true, r0Q (show z0D p from ⟨by omega, by omega, by omega, by omega⟩), aa]
        exact tR rfl
    obtain ⟨b, h5, rfl⟩ := key
    exact h5
  · cases h2
def nol : List Int := [48, 1632, 1776, 1984, 2406, 2534, 2662, 2790, 2918, 3046, 3174, 3302, 3430, 3664, 3792, 3872, 6112, 6160, 65296, 120782]
def i0Z (r z : Int) : Bool := decide (z ≤ r) && decide (r ≤ z + 9)
def dig (r : Int) : Int × Bool := match nol.find? (i0Z r) with
  | some z => (r - z, true)
  | none => (0, false)
theorem m0W {z : Int} (h : z ∈ nol) : 48 ≤ z ∧ z ≤ 120782 := by
  have : nol.all (fun z => decide (48 ≤ z) && decide (z ≤ 120782)) = true := by decide +kernel
  have h2 := List.all_eq_true.1 this z h
  simpa using h2
theorem j0b {p : Int → Bool} {l : List Int} (h : l.all (fun z => !p z) = true) : l.find? p = none := by
  rw [List.find?_eq_none]
  intro x hx
  have := List.all_eq_true.1 h x hx
  simpa using this
theorem s0j {p : Int → Bool} {pre suf : List Int} {x : Int} (h : pre.all (fun z => !p z) = true) (hx : p x = true) : (pre ++ x :: suf).find? p = some x := by
  rw [List.find?_append, j0b h]
  simp [hx]
theorem r0F {r : Int} (h1 : -2147483648 ≤ r) (h2 : r < 2147483648) : d0Q r = some (dig r) := by
  unfold d0Q
  refine j0r (fun o => o = (match nol.find? (i0Z r) with | some z => .inr (r - z, true) | none => .inl ())) (j0B nol (fun pre => (pre.length : Int)) (fun pre => pre.all (fun z => !i0Z r z) = true) _ rfl rfl (fun pre x suf h hi => ?_) (fun hi => ?_) (by decide)) ?_
  · have hx := m0W (show x ∈ nol by rw [h]; simp)
    have hlen : pre.length < 20 := by have := congrArg List.length h; simp [nol] at this; omega
    rw [show k0_ = pre ++ x :: suf from h, dT (show (pre.length : Int) < 20 by omega), g0v (by omega), h0g, w32 (n := x + 9) (by omega) (by omega), w64 (n := (pre.length : Int) + 1) (by omega) (by omega)]
    cases hd : i0Z r x with
    | true =>
      right
      unfold i0Z at hd
      simp only [ae, decide_eq_true_eq] at hd
      rw [dT hd.1, dT hd.2, w32 (n := r - x) (by omega) (by omega), w64 (n := r - x) (by omega) (by omega)]
      refine ⟨_, rfl, ?_⟩
      rw [h, s0j hi (by unfold i0Z; rw [dT hd.1, dT hd.2]; rfl)]
    | false =>
      left
      refine ⟨?_, by rw [aO, hi]; simp [hd]⟩
      have hl : ((pre ++ [x]).length : Int) = (pre.length : Int) + 1 := by simp
      unfold i0Z at hd
      by_cases hxr : x ≤ r
      · rw [dT hxr] at hd ⊢
        simp only [bJ] at hd
        simp only [cond_true, hd, aa, cond_false, a0i, hl]
      · rw [dF hxr]
        simp only [cond_false, cond_true, aa, a0i, hl]
  · refine ⟨.inl (), ?_, by rw [j0b hi]⟩
    rw [dF (show ¬ ((nol.length : Int) < 20) by decide)]; rfl
  · rintro o rfl
    unfold dig
    cases nol.find? (i0Z r) <;> rfl
theorem s0q {r : Int} (h : (dig r).2 = true) : ∃ z ∈ nol, 0 ≤ (dig r).1 ∧ (dig r).1 ≤ 9 ∧ r = z + (dig r).1 := by
  unfold dig at h ⊢
  cases hf : nol.find? (i0Z r) with
  | none => rw [hf] at h; cases h
  | some z =>
    have hz := List.find?_some hf
    unfold i0Z at hz
    simp only [ae, decide_eq_true_eq] at hz
    exact ⟨z, List.mem_of_find?_eq_some hf, by show 0 ≤ r - z; omega, by show r - z ≤ 9; omega, by show r = z + (r - z); omega⟩
theorem x0q {z : Int} (hz : z ∈ nol) {k : Nat} (hk : k < 10) : dig (z + (k : Int)) = ((k : Int), true) := by
  have : nol.all (fun z => (List.range 10).all fun k => decide (dig (z + (k : Int)) = ((k : Int), true))) = true := by decide +kernel
  have h2 := List.all_eq_true.1 (List.all_eq_true.1 this z hz) k (bg.2 hk)
  simpa using h2
theorem t0k {r : Int} (h : (dig r).2 = true) (h0 : (dig r).1 = 0) : r ∈ nol := by
  obtain ⟨z, hz, _, _, he⟩ := s0q h
  rw [h0] at he
  rw [he]; simpa using hz
def isZ (r : Int) : Bool := (dig r).2 && decide ((dig r).1 = 0)
theorem r0d {r : Int} : isZ r = true ↔ r ∈ nol := by
  unfold isZ
  simp only [ae, decide_eq_true_eq]
  constructor
  · rintro ⟨h1, h2⟩; exact t0k h1 h2
  · intro h
    have := x0q h (k := 0) (by omega)
    simp at this
    rw [this]; exact ⟨rfl, rfl⟩
theorem t0R {r : Int} (h1 : -2147483648 ≤ r) (h2 : r < 2147483648) : c0N r = some (dig r) := by
  unfold c0N b0H
  rw [w64 (n := r) (by omega) (by omega)]
  simp only [aa]
  refine j0r (fun o => o = (match nol.find? (i0Z r) with | some z => .inr (r - z, true) | none => .inl ())) (j0B nol (fun pre => (pre.length : Int)) (fun pre => pre.all (fun z => !i0Z r z) = true) _ rfl rfl (fun pre x suf h hi => ?_) (fun hi => ?_) (by decide)) ?_
  · have hx := m0W (show x ∈ nol by rw [h]; simp)
    have hlen : pre.length < 20 := by have := congrArg List.length h; simp [nol] at this; omega
    have hn : ([48, 1632, 1776, 1984, 2406, 2534, 2662, 2790, 2918, 3046, 3174, 3302, 3430, 3664, 3792, 3872, 6112, 6160, 65296, 120782] : List Int) = pre ++ x :: suf := h
    have hcount : ∃ o, a0q (fun (s601 : Int) => (bif (decide (s601 < 10)) then (bif inR (pre.length : Int) (pre ++ x :: suf).length then (bif (decide (((IntKind.wrap .i64 ((IntKind.wrap .i64 (nth (pre ++ x :: suf) (pre.length : Int))) + s601))) = r)) then (some (.inr (.inr (.inr (.inr (s601, true)))))) else (some (.inl (IntKind.wrap .i64 (s601 + 1))))) else none) else (some (.inr (.inl ()))))) big 0 = some o ∧
        o = (if i0Z r x = true then (.inr (.inr (.inr (r - x, true))) : Unit ⊕ (Int ⊕ (Unit ⊕ (Int × Bool)))) else .inl ()) := by
      refine d0d 10 (fun i => (i : Int)) (fun i => ∀ j : Nat, j < i → ¬ x + (j : Int) = r) _ rfl (fun j hj => by omega) (fun i hi hno => ?_) (fun hno => ?_) (by omega)
      · rw [dT (show (i : Int) < 10 by omega), g0v (by simp), h0g, w64 (n := x) (by omega) (by omega), w64 (n := x + (i : Int)) (by omega) (by omega), w64 (n := (i : Int) + 1) (by omega) (by omega)]
        by_cases he : x + (i : Int) = r
        · right
          rw [dT he]
          refine ⟨_, rfl, ?_⟩
          rw [if_pos (by unfold i0Z; rw [dT (by omega), dT (by omega)]; rfl)]
          have : (i : Int) = r - x := by omega
          rw [this]
        · left
          rw [dF he]
          refine ⟨by simp, fun j hj => ?_⟩
          by_cases hji : j = i
          · subst hji; exact he
          · exact hno j (by omega)
      · refine ⟨.inl (), by rw [dF (show ¬ ((10 : Nat) : Int) < 10 by decide)]; rfl, ?_⟩
        rw [if_neg]
        intro hd
        unfold i0Z at hd
        simp only [ae, decide_eq_true_eq] at hd
        exact hno (r - x).toNat (by omega) (by omega)
    obtain ⟨o, ho1, ho2⟩ := hcount
    rw [hn, m0Z]
    simp only [cond_true]
    rw [ho1]
    simp only [aa]
    cases hd : i0Z r x with
    | true =>
      right
      rw [hd, if_pos rfl] at ho2
      subst ho2
      refine ⟨_, rfl, ?_⟩
      rw [h, s0j hi hd]
    | false =>
      left
      rw [hd, if_neg (by simp)] at ho2
      subst ho2
      refine ⟨?_, by rw [aO, hi]; simp [hd]⟩
      simp only [a0i]
      rw [w64 (n := (pre.length : Int) + 1) (by omega) (by omega)]
      simp
  · refine ⟨.inl (), ?_, by rw [j0b hi]⟩
    rw [show ([48, 1632, 1776, 1984, 2406, 2534, 2662, 2790, 2918, 3046, 3174, 3302, 3430, 3664, 3792, 3872, 6112, 6160, 65296, 120782] : List Int) = nol from rfl, k0R]; rfl
  · rintro o rfl
    unfold dig
    cases nol.find? (i0Z r) <;> rfl
theorem w0c {r : Int} : d0g r = some (isZ r) := by
  unfold d0g b0H
  simp only [aa]
  refine j0r (fun o => o = (if r ∈ nol then .inr true else .inl ())) (j0B nol (fun pre => (pre.length : Int)) (fun pre => ¬ r ∈ pre) _ rfl (by simp) (fun pre x suf h hi => ?_) (fun hi => ?_) (by decide)) ?_
  · have hlen : pre.length < 20 := by have := congrArg List.length h; simp [nol] at this; omega
    rw [show ([48, 1632, 1776, 1984, 2406, 2534, 2662, 2790, 2918, 3046, 3174, 3302, 3430, 3664, 3792, 3872, 6112, 6160, 65296, 120782] : List Int) = pre ++ x :: suf from h, m0Z, l0D, h0g, w64 (n := (pre.length : Int) + 1) (by omega) (by omega)]
    by_cases he : x = r
    · right
      rw [dT he]
      refine ⟨_, rfl, ?_⟩
      rw [if_pos (by rw [h]; simp [he])]
    · left
      rw [dF he]
      exact ⟨by simp, by simp [hi, Ne.symm he]⟩
  · refine ⟨.inl (), ?_, by rw [if_neg hi]⟩
    rw [show ([48, 1632, 1776, 1984, 2406, 2534, 2662, 2790, 2918, 3046, 3174, 3302, 3430, 3664, 3792, 3872, 6112, 6160, 65296, 120782] : List Int) = nol from rfl, k0R]; rfl
  · rintro o rfl
    by_cases hm : r ∈ nol
    · rw [if_pos hm, r0d.2 hm]; rfl
    · rw [if_neg hm]
      have : isZ r = false := by cases hz : isZ r with
        | false => rfl
        | true => exact absurd (r0d.1 hz) hm
      rw [this]; rfl
def isR (r : Int) : Bool := decide (0 ≤ r) && (decide (r ≤ 1114111) && (decide (r < 55296) || decide (57343 < r)))
theorem z0j {r : Int} : k0C r = some (isR r) := by
  unfold k0C isR
  by_cases h1 : 0 ≤ r
  · rw [dT (show r ≥ 0 from h1)]
    by_cases h2 : r ≤ 1114111
    · rw [dT h2]
      by_cases h3 : r < 55296
      · rw [dT h3]; rfl
      · rw [dF h3]
        by_cases h4 : r > 57343
        · rw [dT h4]; rfl
        · rw [dF h4]; rfl
    · rw [dF h2]; rfl
  · rw [dF (show ¬ r ≥ 0 from h1)]; rfl
def cls (r : Int) : Int := if isR r = true then (if bits .and .i32 r 65534 = 65534 then 3 else if k0J.any (r0k r) = true then tab r else if (dig r).2 = true then 5 else 0) else 6
theorem r0L {r : Int} (h1 : -2147483648 ≤ r) (h2 : r < 2147483648) {ms : List (a0k × Int)} (hp : List.Perm ms k0J) : a0u r ms = some (cls r, ms) := by
  rw [m0y hp, z0j, aa, r0F h1 h2]
  unfold cls
  cases isR r with
  | false => rfl
  | true =>
    simp only [aK, cond_false, if_true]
    by_cases c : bits .and .i32 r 65534 = 65534
    · rw [dT c, if_pos c]; rfl
    · rw [dF c, if_neg c]
      cases k0J.any (r0k r) with
      | true => rfl
      | false => cases h : (dig r).2 <;> simp [h]
theorem v0z (n : Nat) : (n &&& 65534 = 65534) ↔ 65534 ≤ n % 65536 := by
  have h1 : n &&& 65534 = (n % 65536) &&& 65534 := by
    apply Nat.eq_of_testBit_eq
    intro i
    rw [Nat.testBit_and, Nat.testBit_and, show (65536 : Nat) = 2 ^ 16 by decide, Nat.testBit_mod_two_pow]
    by_cases hi : i < 16
    · simp [hi]
    · have : (65534 : Nat).testBit i = false := Nat.testBit_lt_two_pow (aS (show (65534 : Nat) < 2 ^ 16 by decide) (Nat.pow_le_pow_right (by omega) (by omega)))
      simp [this]
  rw [h1]
  have h2 : n % 65536 < 65536 := Nat.mod_lt _ (by omega)
  generalize n % 65536 = m at h2
  constructor
  · intro h
    rcases bH m 65534 with hm | hm
    · have := Nat.and_le_left (n := m) (m := 65534)
      omega
    · exact hm
  · intro h
    obtain rfl | rfl : m = 65534 ∨ m = 65535 := by omega
    · decide
    · decide
theorem y0w {r : Int} (h1 : 0 ≤ r) (h2 : r < 2147483648) : bits .and .i32 r 65534 = ((r.toNat &&& 65534 : Nat) : Int) := by
  obtain ⟨n, rfl⟩ := aL h1
  have hn : n < 2147483648 := by omega
  have hle : n &&& 65534 ≤ 65534 := Nat.and_le_right
  have ho : ∀ a : Nat, a < 4294967296 → (BitVec.ofInt 32 (a : Int)).toNat = a := fun a ha => by
    rw [BitVec.ofInt_natCast, BitVec.toNat_ofNat]; exact Nat.mod_eq_of_lt (by omega)
  show IntKind.i32.wrap ((BitVec.ofInt 32 (n : Int) &&& BitVec.ofInt 32 ((65534 : Nat) : Int)).toNat : Int) = _
  rw [BitVec.toNat_and, ho n (by omega), ho 65534 (by omega), w32 (by omega) (by omega)]
  simp
def t0s (r : Int) : Bool := decide (r < 32) || decide (127 ≤ r) && decide (r ≤ 159)
def f0F (r : Int) : Bool := decide (r = 1564) || (decide (r = 8206) || (decide (r = 8207) || (decide (8234 ≤ r) && decide (r ≤ 8238) || decide (8294 ≤ r) && decide (r ≤ 8297))))
def p0K (r : Int) : Bool := decide (64976 ≤ r) && decide (r ≤ 65007) || decide (65534 ≤ r % 65536)
def n0O (r : Int) : Bool := decide (r = 32) || (decide (r = 160) || (decide (r = 5760) || (decide (8192 ≤ r) && decide (r ≤ 8202) || (decide (r = 8232) || (decide (r = 8233) || (decide (r = 8239) || (decide (r = 8287) || decide (r = 12288))))))))
def n0A (r : Int) : Int := bif isR r then (bif t0s r then 1 else bif f0F r then 2 else bif p0K r then 3 else bif n0O r then 4 else bif (dig r).2 then 5 else 0) else 6
theorem z0i {r : Int} (h1 : -2147483648 ≤ r) (h2 : r < 2147483648) : cls r = n0A r := by
  unfold cls n0A
  cases hr : isR r with
  | false => rfl
  | true =>
    simp only [if_true, cond_true]
    unfold isR at hr
    simp only [ae, bn, decide_eq_true_eq] at hr
    obtain ⟨r0, r1, r2⟩ := hr
    have hb : (bits .and .i32 r 65534 = 65534) ↔ 65534 ≤ r % 65536 := by
      rw [y0w r0 h2]
      have := v0z r.toNat
      omega
    by_cases hp : 65534 ≤ r % 65536
    · rw [if_pos (hb.2 hp)]
      have c1 : t0s r = false := by unfold t0s; rw [dF (by omega), dF (show ¬ r ≤ 159 by omega)]; simp
      have c2 : f0F r = false := by
        unfold f0F
        rw [dF (show ¬ r = 1564 by omega), dF (show ¬ r = 8206 by omega), dF (show ¬ r = 8207 by omega), dF (show ¬ r ≤ 8238 by omega), dF (show ¬ r ≤ 8297 by omega)]; simp
      have c3 : p0K r = true := by unfold p0K; rw [dT hp]; simp
      rw [c1, c2, c3]; rfl
    · rw [if_neg (fun h => hp (hb.1 h))]
      have hn : p0K r = (decide (64976 ≤ r) && decide (r ≤ 65007)) := by unfold p0K; rw [dF hp]; simp
      rw [hn]
      generalize (dig r).2 = dg
      simp only [tab, k0J, List.any_cons, List.any_nil, List.find?_cons, List.find?_nil, r0k, Bool.or_false]
      by_cases a1 : r ≤ 31
      · rw [dT (show (0 : Int) ≤ r from r0), dT a1, show t0s r = true by unfold t0s; rw [dT (show r < 32 by omega)]; rfl]; rfl
      rw [dF a1]
      by_cases a2 : 127 ≤ r ∧ r ≤ 159
      · rw [dT a2.1, dT a2.2, show t0s r = true by unfold t0s; rw [dT a2.1, dT a2.2]; simp]; simp
      rw [show t0s r = false by unfold t0s; rw [dF (show ¬ r < 32 by omega)]; simp; omega, show (decide (127 ≤ r) && decide (r ≤ 159)) = false by simp; omega]
      by_cases t1 : f0F r = true
      · rw [t1]
        unfold f0F at t1
        simp only [bn, ae, decide_eq_true_eq] at t1
        rcases t1 with h | h | h | ⟨h, h'⟩ | ⟨h, h'⟩
        · subst h; simp
        · subst h; simp
        · subst h; simp
        · rw [dF (show ¬ r ≤ 1564 by omega), dF (show ¬ r ≤ 8207 by omega), dT h, dT h']; simp
        · rw [dF (show ¬ r ≤ 1564 by omega), dF (show ¬ r ≤ 8207 by omega), dF (show ¬ r ≤ 8238 by omega), dT h, dT h']; simp
      have t1' : f0F r = false := by simpa using t1
      rw [t1']
      have u1 : (decide (1564 ≤ r) && decide (r ≤ 1564)) = false ∧ (decide (8206 ≤ r) && decide (r ≤ 8207)) = false ∧ (decide (8234 ≤ r) && decide (r ≤ 8238)) = false ∧ (decide (8294 ≤ r) && decide (r ≤ 8297)) = false := by
        unfold f0F at t1'
        simp only [Bool.or_eq_false_iff, Bool.and_eq_false_iff, decide_eq_false_iff_not] at t1' ⊢
        omega
      rw [u1.1, u1.2.1, u1.2.2.1, u1.2.2.2]
      by_cases n1 : 64976 ≤ r ∧ r ≤ 65007
      · rw [dT n1.1, dT n1.2]; simp
      rw [show (decide (64976 ≤ r) && decide (r ≤ 65007)) = false by simp; omega]
      by_cases b1 : n0O r = true
      · rw [b1]
        unfold n0O at b1
        simp only [bn, ae, decide_eq_true_eq] at b1
        rcases b1 with h | h | h | ⟨h, h'⟩ | h | h | h | h | h
        · subst h; simp
        · subst h; simp
        · subst h; simp
        · rw [dF (show ¬ r ≤ 32 by omega), dF (show ¬ r ≤ 160 by omega), dF (show ¬ r ≤ 5760 by omega), dT h, dT h']; simp
        · subst h; simp
        · subst h; simp
        · subst h; simp
        · subst h; simp
        · subst h; simp
      have b1' : n0O r = false := by simpa using b1
      rw [b1']
      have u2 : (decide (32 ≤ r) && decide (r ≤ 32)) = false ∧ (decide (160 ≤ r) && decide (r ≤ 160)) = false ∧ (decide (5760 ≤ r) && decide (r ≤ 5760)) = false ∧ (decide (8192 ≤ r) && decide (r ≤ 8202)) = false ∧ (decide (8232 ≤ r) && decide (r ≤ 8233)) = false ∧ (decide (8239 ≤ r) && decide (r ≤ 8239)) = false ∧ (decide (8287 ≤ r) && decide (r ≤ 8287)) = false ∧ (decide (12288 ≤ r) && decide (r ≤ 12288)) = false := by
        unfold n0O at b1'
        simp only [Bool.or_eq_false_iff, Bool.and_eq_false_iff, decide_eq_false_iff_not] at b1' ⊢
        omega
      rw [u2.1, u2.2.1, u2.2.2.1, u2.2.2.2.1, u2.2.2.2.2.1, u2.2.2.2.2.2.1, u2.2.2.2.2.2.2.1, u2.2.2.2.2.2.2.2]
      cases dg <;> simp
theorem y0H {r : Int} (h1 : -2147483648 ≤ r) (h2 : r < 2147483648) : a0W r = some (isR r) := by
  unfold a0W isR
  rw [w64 (n := r) (by omega) (by omega)]
  by_cases a : 0 ≤ r
  · rw [dT (show r ≥ 0 from a)]
    by_cases b : r < 55296
    · rw [dT b, dT (show r ≤ 1114111 by omega)]; rfl
    · rw [dF b]
      by_cases c : r > 57343
      · rw [dT c]
        cases decide (r ≤ 1114111) <;> rfl
      · rw [dF c]
        cases decide (r ≤ 1114111) <;> rfl
  · rw [dF (show ¬ r ≥ 0 from a), dF (show ¬ r > 57343 by omega)]; rfl
theorem s0D {r : Int} : c0k r = some (f0F r) := by
  unfold c0k f0F
  simp only [ge_iff_le]
  cases decide (r = 1564) <;> cases decide (r = 8206) <;> cases decide (r = 8207) <;> cases decide (8234 ≤ r) <;> cases decide (r ≤ 8238) <;> cases decide (8294 ≤ r) <;> rfl
theorem w0K {r : Int} : c0M r = some (n0O r) := by
  unfold c0M n0O
  simp only [ge_iff_le]
  cases decide (r = 32) <;> cases decide (r = 160) <;> cases decide (r = 5760) <;> cases decide (8192 ≤ r) <;> cases decide (r ≤ 8202) <;> cases decide (r = 8232) <;> cases decide (r = 8233) <;> cases decide (r = 8239) <;> cases decide (r = 8287) <;> rfl
theorem t0U {r : Int} (h1 : -2147483648 ≤ r) (h2 : r < 2147483648) : c0x r = some (n0A r) := by
  unfold c0x n0A
  rw [w64 (n := r) (by omega) (by omega), y0H h1 h2, s0D, w0K, t0R h1 h2]
  simp only [aa]
  cases hr : isR r with
  | false => rfl
  | true =>
    have r0 : 0 ≤ r := by unfold isR at hr; simp only [ae, decide_eq_true_eq] at hr; exact hr.1
    have hm : Int.tmod r 65536 = r % 65536 := bq r0
    rw [hm]
    unfold t0s p0K
    simp only [ge_iff_le]
    cases decide (r < 32) <;> cases decide (127 ≤ r) <;> cases decide (r ≤ 159) <;> cases f0F r <;> cases decide (64976 ≤ r) <;> cases decide (r ≤ 65007) <;> cases decide (65534 ≤ r % 65536) <;> cases n0O r <;> cases (dig r).2 <;> rfl
def r0j (l : List Int) : Prop := ∀ r ∈ l, -2147483648 ≤ r ∧ r < 2147483648
theorem x0I (r : Int) : 0 ≤ n0A r ∧ n0A r ≤ 6 := by
  unfold n0A
  cases isR r <;> cases t0s r <;> cases f0F r <;> cases p0K r <;> cases n0O r <;> cases (dig r).2 <;> decide
def okC (c : Int) : Bool := decide (c = 0) || (decide (c = 4) || (decide (c = 5) || decide (c = 2)))
def z0v (l : List Int) : Bool := l.all fun r => okC (n0A r)
theorem y0s {l : List Int} (hl : l.length ≤ 4294967296) (hp : r0j l) : h0F l = some (z0v l) := by
  unfold h0F c0z
  simp only [aa]
  have hm : List.Perm k0J k0J := List.Perm.refl _
  show Option.bind (a0q _ big (0, k0J)) _ = _
  refine j0r (fun o => o = if l.all (fun r => okC (n0A r)) = true then .inl () else .inr false) ⟨_, o0J (fun r => okC (n0A r)) l (fun pre => ((pre.length : Int), k0J)) (.inl ()) (.inr false) rfl (fun pre r suf h => ?_) ?_ (by omega), rfl⟩ ?_
  · have hr := hp r (by rw [h]; simp)
    have hl' : (pre ++ r :: suf).length ≤ 4611686018427387904 := by rw [← h]; omega
    simp only []
    rw [h, m0Z, l0D, h0g, r0L hr.1 hr.2 hm, z0i hr.1 hr.2]
    simp only [cond_true, aa]
    rw [t0x hl']
    unfold okC
    cases decide (n0A r = 0) <;> cases decide (n0A r = 4) <;> cases decide (n0A r = 5) <;> cases decide (n0A r = 2) <;> simp [a0i]
  · simp only []
    rw [k0R]; rfl
  · rintro o rfl
    show _ = some (l.all _)
    cases l.all (fun r => okC (n0A r)) <;> rfl
theorem w0j {l : List Int} (hl : l.length ≤ 4294967296) (hp : r0j l) : d0h l = some (z0v l) := by
  unfold d0h
  refine j0r (fun o => o = if l.all (fun r => okC (n0A r)) = true then .inl () else .inr false) ⟨_, o0J (fun r => okC (n0A r)) l (fun pre => (pre.length : Int)) (.inl ()) (.inr false) rfl (fun pre r suf h => ?_) ?_ (by omega), rfl⟩ ?_
  · have hr := hp r (by rw [h]; simp)
    have hl' : (pre ++ r :: suf).length ≤ 4611686018427387904 := by rw [← h]; omega
    rw [h, m0Z, l0D, h0g, t0U hr.1 hr.2]
    simp only [cond_true, aa]
    rw [t0x hl']
    obtain ⟨c0, c1⟩ := x0I r
    unfold okC
    generalize n0A r = c at c0 c1
    obtain rfl | rfl | rfl | rfl | rfl | rfl | rfl : c = 0 ∨ c = 1 ∨ c = 2 ∨ c = 3 ∨ c = 4 ∨ c = 5 ∨ c = 6 := by omega
    all_goals simp [a0i]
  · rw [k0R]; rfl
  · rintro o rfl
    show _ = some (l.all _)
    cases l.all (fun r => okC (n0A r)) <;> rfl
def i0m : Int → List Int → Bool
  | o, [] => decide (o = 0)
  | o, r :: l => if 8234 ≤ r ∧ r ≤ 8238 then false else if 8294 ≤ r ∧ r ≤ 8296 then i0m (o + 1) l else if r = 8297 then (if o = 0 then false else i0m (o - 1) l) else i0m o l
def opn (l : List Int) : Int := l.foldl (fun o r => if 8294 ≤ r ∧ r ≤ 8296 then o + 1 else if r = 8297 then o - 1 else o) 0
theorem m0o (l : List Int) (r : Int) : opn (l ++ [r]) = if 8294 ≤ r ∧ r ≤ 8296 then opn l + 1 else if r = 8297 then opn l - 1 else opn l := by
  simp [opn, List.foldl_append]
def TI (l pre : List Int) : Prop := (∀ suf, l = pre ++ suf → i0m 0 l = i0m (opn pre) suf) ∧ 0 ≤ opn pre ∧ opn pre ≤ pre.length
theorem v0R {l : List Int} (hl : l.length ≤ 4294967296) : g0x l = some (i0m 0 l) := by
  unfold g0x
  refine j0r (fun o => (o = .inr false ∧ i0m 0 l = false) ∨ ∃ q, o = .inl q ∧ i0m 0 l = decide (q = 0)) (j0B l (fun pre => (opn pre, (pre.length : Int))) (TI l) _ rfl ⟨fun suf h => by rw [h]; rfl, ar _, ar _⟩ (fun pre r suf h hi => ?_) (fun hi => ?_) (by omega)) ?_
  · obtain ⟨i1, i2, i3⟩ := hi
    have hl' : (pre ++ r :: suf).length ≤ 4611686018427387904 := by rw [← h]; omega
    have hpl : pre.length < l.length := by rw [h]; simp
    have e := i1 (r :: suf) h
    simp only [i0m] at e
    have hsnoc : (((pre ++ [r]).length : Nat) : Int) = (pre.length : Int) + 1 := by simp
    have nxt : ∀ q, i0m 0 l = i0m q suf → opn (pre ++ [r]) = q → 0 ≤ q → q ≤ (pre.length : Int) + 1 → TI (pre ++ r :: suf) (pre ++ [r]) := fun q h1 h2 h3 h4 => by
     rw [← h]
     exact ⟨fun s hs => by
      rw [h2]
      have : suf = s := by
        have h5 := h.symm.trans hs
        simpa using h5
      rw [← this]; exact h1, by rw [h2]; exact h3, by rw [h2, hsnoc]; exact h4⟩
    simp only []
    rw [h, m0Z, l0D, h0g, t0x hl']
    by_cases a : 8234 ≤ r ∧ r ≤ 8238
    · right
      rw [if_pos a] at e
      rw [dT a.1, dT a.2]
      exact ⟨_, rfl, .inl ⟨rfl, by rw [← h]; exact e⟩⟩
    · rw [if_neg a] at e
      have a' : (bif decide (8234 ≤ r) then some (decide (r ≤ 8238)) else some false) = some false := by
        by_cases q : 8234 ≤ r
        · rw [dT q, dF (fun z => a ⟨q, z⟩)]; rfl
        · rw [dF q]; rfl
      rw [a']
      by_cases b : 8294 ≤ r ∧ r ≤ 8296
      · left
        rw [if_pos b] at e
        have hs := m0o pre r
        rw [if_pos b] at hs
        rw [dT b.1, dT b.2, w64 (n := opn pre + 1) (by omega) (by omega), hs]
        exact ⟨rfl, nxt _ e hs (by omega) (by omega)⟩
      · rw [if_neg b] at e
        have b' : (bif decide (8294 ≤ r) then some (decide (r ≤ 8296)) else some false) = some false := by
          by_cases q : 8294 ≤ r
          · rw [dT q, dF (fun z => b ⟨q, z⟩)]; rfl
          · rw [dF q]; rfl
        rw [b']
        have hs := m0o pre r
        rw [if_neg b] at hs
        by_cases c : r = 8297
        · rw [if_pos c] at e hs
          rw [dT c]
          by_cases d : opn pre = 0
          · right
            rw [if_pos d] at e
            rw [dT d]
            exact ⟨_, rfl, .inl ⟨rfl, by rw [← h]; exact e⟩⟩
          · left
            rw [if_neg d] at e
            rw [dF d, w64 (n := opn pre - 1) (by omega) (by omega), hs]
            exact ⟨rfl, nxt _ e hs (by omega) (by omega)⟩
        · left
          rw [if_neg c] at e hs
          rw [dF c, hs]
          exact ⟨rfl, nxt _ e hs (by omega) (by omega)⟩
  · refine ⟨.inl (opn l), by simp only []; rw [k0R]; rfl, .inr ⟨_, rfl, ?_⟩⟩
    rw [hi.1 [] (by simp)]; rfl
  · rintro o (⟨rfl, h⟩ | ⟨q, rfl, h⟩)
    · rw [h]; rfl
    · rw [h]; rfl
theorem t0T {l : List Int} (hl : l.length ≤ 4294967296) (hp : r0j l) : c0O l = some (i0m 0 l) := by
  unfold c0O
  refine j0r (fun o => (o = .inr false ∧ i0m 0 l = false) ∨ ∃ q, o = .inl q ∧ i0m 0 l = decide (q = 0)) (j0B l (fun pre => (opn pre, (pre.length : Int))) (TI l) _ rfl ⟨fun suf h => by rw [h]; rfl, ar _, ar _⟩ (fun pre r suf h hi => ?_) (fun hi => ?_) (by omega)) ?_
  · obtain ⟨i1, i2, i3⟩ := hi
    have hr := hp r (by rw [h]; simp)
    have hl' : (pre ++ r :: suf).length ≤ 4611686018427387904 := by rw [← h]; omega
    have hpl : pre.length < l.length := by rw [h]; simp
    have e := i1 (r :: suf) h
    simp only [i0m] at e
    have hsnoc : (((pre ++ [r]).length : Nat) : Int) = (pre.length : Int) + 1 := by simp
    have nxt : ∀ q, i0m 0 l = i0m q suf → opn (pre ++ [r]) = q → 0 ≤ q → q ≤ (pre.length : Int) + 1 → TI (pre ++ r :: suf) (pre ++ [r]) := fun q h1 h2 h3 h4 => by
     rw [← h]
     exact ⟨fun s hs => by
      rw [h2]
      have : suf = s := by
        have h5 := h.symm.trans hs
        simpa using h5
      rw [← this]; exact h1, by rw [h2]; exact h3, by rw [h2, hsnoc]; exact h4⟩
    simp only [ge_iff_le]
    rw [h, m0Z, l0D, h0g, t0x hl', w64 (n := r) (by omega) (by omega)]
    by_cases a : 8234 ≤ r ∧ r ≤ 8238
    · right
      rw [if_pos a] at e
      rw [dT a.1, dT a.2]
      exact ⟨_, rfl, .inl ⟨rfl, by rw [← h]; exact e⟩⟩
    · rw [if_neg a] at e
      have a' : (bif decide (8234 ≤ r) then some (decide (r ≤ 8238)) else some false) = some false := by
        by_cases q : 8234 ≤ r
        · rw [dT q, dF (fun z => a ⟨q, z⟩)]; rfl
        · rw [dF q]; rfl
      rw [a']
      by_cases b : 8294 ≤ r ∧ r ≤ 8296
      · left
        rw [if_pos b] at e
        have hs := m0o pre r
        rw [if_pos b] at hs
        rw [dT b.1, dT b.2, w64 (n := opn pre + 1) (by omega) (by omega), hs, dF (show ¬ r = 8297 by omega)]
        exact ⟨rfl, nxt _ e hs (by omega) (by omega)⟩
      · rw [if_neg b] at e
        have b' : (bif decide (8294 ≤ r) then some (decide (r ≤ 8296)) else some false) = some false := by
          by_cases q : 8294 ≤ r
          · rw [dT q, dF (fun z => b ⟨q, z⟩)]; rfl
          · rw [dF q]; rfl
        rw [b']
        have hs := m0o pre r
        rw [if_neg b] at hs
        by_cases c : r = 8297
        · rw [if_pos c] at e hs
          rw [dT c]
          by_cases d : opn pre = 0
          · right
            rw [if_pos d] at e
            rw [show opn pre = 0 from d]
            exact ⟨_, rfl, .inl ⟨rfl, by rw [← h]; exact e⟩⟩
          · left
            rw [if_neg d] at e
            simp only [aa, cond_false, a0i, cond_true]
            rw [dF d, w64 (n := opn pre - 1) (by omega) (by omega), hs]
            exact ⟨rfl, nxt _ e hs (by omega) (by omega)⟩
        · left
          rw [if_neg c] at e hs
          rw [dF c, hs]
          exact ⟨rfl, nxt _ e hs (by omega) (by omega)⟩
  · refine ⟨.inl (opn l), by simp only []; rw [k0R]; rfl, .inr ⟨_, rfl, ?_⟩⟩
    rw [hi.1 [] (by simp)]; rfl
  · rintro o (⟨rfl, h⟩ | ⟨q, rfl, h⟩)
    · rw [h]; rfl
    · rw [h]; rfl
theorem u0c {r : Int} : decide (n0A r = 5) = (dig r).2 := by
  cases hd : (dig r).2 with
  | false =>
    rw [dF]
    unfold n0A
    rw [hd]
    cases isR r <;> cases t0s r <;> cases f0F r <;> cases p0K r <;> cases n0O r <;> decide
  | true =>
    obtain ⟨z, hz, k0, k1, he⟩ := s0q hd
    have : nol.all (fun z => (List.range 10).all fun k => decide (n0A (z + (k : Int)) = 5)) = true := by decide +kernel
    have h2 := List.all_eq_true.1 (List.all_eq_true.1 this z hz) (dig r).1.toNat (bg.2 (by omega))
    rw [Int.toNat_of_nonneg k0, ← he] at h2
    exact h2
def btw (s : d0k) (x : Int) : Bool := decide (x = s.w_) || (decide (x = s.v_) || decide (x = s.b_))
theorem v0t (s : d0k) (x : Int) : f0l s x = some (btw s x) := by
  unfold f0l btw
  cases decide (x = s.w_) <;> cases decide (x = s.v_) <;> rfl
def inN (s : d0k) (x : Int) : Bool := (dig x).2 || btw s x
theorem r0P {s : d0k} {l : List Int} (hl : l.length ≤ 4294967296) (hp : r0j l) : f0V s l = some ((l.all fun r => !inN s r) && (z0v l && i0m 0 l)) := by
  unfold f0V
  refine j0r (fun o => o = if l.all (fun r => !inN s r) = true then .inl () else .inr false) ⟨_, o0J (fun r => !inN s r) l (fun pre => (pre.length : Int)) (.inl ()) (.inr false) rfl (fun pre r suf h => ?_) ?_ (by omega), rfl⟩ ?_
  · have hr := hp r (by rw [h]; simp)
    have hl' : (pre ++ r :: suf).length ≤ 4611686018427387904 := by rw [← h]; omega
    rw [h, m0Z, l0D, h0g, r0F hr.1 hr.2, v0t]
    simp only [cond_true, aa]
    rw [t0x hl']
    unfold inN
    cases (dig r).2 <;> cases btw s r <;> rfl
  · rw [k0R]; rfl
  · rintro o rfl
    rw [y0s hl hp, v0R hl]
    cases l.all (fun r => !inN s r) <;> cases z0v l <;> rfl
theorem x0w {s : d0k} {x : Int} (hz : isZ s.H_ = true) (h1 : -2147483648 ≤ x) (h2 : x < 2147483648) : Tot (c0I s x) (fun v => v.2 = true → (dig x).2 = true) := by
  have hm := r0d.1 hz
  have hs := m0W hm
  unfold c0I
  refine tJ (tW (fun s : Int => s) 10 (fun _ => True) (by decide) ⟨trivial, ar _, by decide⟩ (fun i _ g0 g1 => ?_) (fun i _ e => tN (dF (by omega)) (tR (tR (fun h => by cases h)))))
  have g1 : i < 10 := g1
  refine tY (dT g1) (tI (fun h => tR (fun _ => ?_)) (fun _ => tR ⟨trivial, w64 (by omega) (by omega)⟩))
  have h := dTT h
  rw [w64 (n := s.H_) (by omega) (by omega), w64 (n := s.H_ + i) (by omega) (by omega), w64 (n := x) (by omega) (by omega)] at h
  obtain ⟨k, rfl⟩ := aL g0
  rw [← h, x0q hm (by omega)]
theorem y0c {s : d0k} {x : Int} (hz : isZ s.H_ = true) (h1 : -2147483648 ≤ x) (h2 : x < 2147483648) : Tot (c0a s x) (fun b => b = true → inN s x = true) := by
  unfold c0a
  refine tB (x0w hz h1 h2) (fun v hv => tB (p := fun b => b = true → inN s x = true) ?_ (fun b hb => tR hb))
  unfold inN btw
  refine tI (fun h => tR (fun _ => by rw [hv h]; rfl)) (fun _ => tI (fun h => tR (fun _ => by rw [h]; simp)) (fun _ => tI (fun h => tR (fun _ => by rw [h]; simp)) (fun _ => tR (fun h => by rw [h]; simp))))
theorem z0k {s : d0k} {l : List Int} (hz : isZ s.H_ = true) (hl : l.length ≤ 4294967296) (hp : r0j l) (h : f0V s l = some true) : c0s s l = some true := by
  rw [r0P hl hp] at h
  have h := oi h
  simp only [ae] at h
  obtain ⟨h1, h2, h3⟩ := h
  have key : Tot (c0s s l) (fun b => b = true) := by
    unfold c0s
    rw [w0j hl hp, t0T hl hp, h2, h3]
    simp only [aa, aK, cond_false, a0i]
    refine tJ (tW (fun s : Int => s) l.length (fun _ => True) hl ⟨trivial, ar _, by simp⟩ (fun i _ g0 g1 => ?_) (fun i _ e => tN (dF (by omega)) (tR (tR rfl))))
    have hin := a0Z g0 g1
    have hm := o0I g0 g1
    have hr := hp _ hm
    have hn := List.all_eq_true.1 h1 _ hm
    have hd : (dig (nth l i)).2 = false := by
      unfold inN at hn; cases hh : (dig (nth l i)).2 with
      | false => rfl
      | true => rw [hh] at hn; cases hn
    refine tY (dT g1) (tJ (tY hin (tB (y0c hz hr.1 hr.2) (fun b hb => tB (p := fun b => b = false) (tI (fun e => ?_) (fun _ => tY hin ?_)) (fun b hb => tN hb (tR (show Tot _ _ from tR ⟨trivial, w64 (by omega) (by omega)⟩)))))))
    · rw [hb e] at hn; cases hn
    · rw [t0U hr.1 hr.2]
      exact tR (by rw [u0c, hd])
  obtain ⟨b, e, rfl⟩ := key
  exact e
def v0K (s : d0k) : Prop := ∀ x ∈ [s.w_, s.v_, s.u_, s.t_, s.s_, s.b_], -2147483648 ≤ x ∧ x < 2147483648
theorem z0a {s : d0k} (hs : v0K s) : Tot (d0e s) (fun b => b = true → isZ s.H_ = true) := by
  unfold d0e
  unfold v0K at hs
  generalize hL : ([s.w_, s.v_, s.u_, s.t_, s.s_, s.b_] : List Int) = L at hs
  have hlen : L.length = 6 := by rw [← hL]; rfl
  refine tJ (tW (fun s : Int => s) L.length (fun _ => True) (by omega) ⟨trivial, ar _, by omega⟩ (fun i _ g0 g1 => ?_) (fun i _ e => tN (dF (by omega)) (tR ?_)))
  · have hin := a0Z g0 g1
    have hr := hs _ (o0I g0 g1)
    refine tY (dT g1) (tJ (tY hin (tY hin ?_)))
    rw [t0U hr.1 hr.2, aa]
    refine tJ (tB (p := fun _ => True) (tI (fun _ => tR trivial) (fun _ => tR trivial)) (fun b _ => tI (fun _ => tR (fun h => by cases h)) (fun _ => tR (show Tot _ _ from ?_))))
    refine tW (fun s : Int => s) i.toNat (fun _ => True) (by omega) ⟨trivial, ar _, show (0 : Int) ≤ (i.toNat : Int) by omega⟩ (fun k _ k0 k1 => ?_) (fun k _ e => tN (dF (by omega)) (tR ?_))
    · have hk := a0Z (n := L.length) k0 (show k < (L.length : Int) by omega)
      exact tY (dT (by omega)) (tY hk (tY hk (tY hin (tY hin (tI (fun _ => tR (fun h => by cases h)) (fun _ => tR ⟨trivial, w64 (by omega) (by omega)⟩))))))
    · exact tR ⟨trivial, w64 (by omega) (by omega)⟩
  · rw [w0c]
    exact tR (fun h => h)
theorem y0r {l : List Int} (hl : l.length ≤ 4294967296) : Tot (f0A l) (fun r => r = l) := by
  unfold f0A
  refine tI (fun h => ?_) (fun _ => tY (a0v hl) (tR rfl))
  obtain rfl := ai (af h)
  exact ⟨[], by show m0i (some []) (some []) = _; simp [m0i], rfl⟩
theorem o0W {l : List a0b} (hl : l.length ≤ 4294967296) : Tot (d0R l) (fun r => r = l) := by
  unfold d0R
  refine tI (fun h => ?_) (fun _ => tY (a0v hl) (tR rfl))
  obtain rfl := ai (af h)
  exact ⟨[], by show m0i (some []) (some []) = _; simp [m0i], rfl⟩
def tk (l : List a0b) : Prop := ∀ t ∈ l, -2147483648 ≤ t.R_ ∧ t.R_ < 2147483648
theorem y0E {x y : List a0b} (hx : tk x) (hy : tk y) : tk (x ++ y) := fun t ht => (aA.1 ht).elim (hx t) (hy t)
theorem r0i {x y : List Int} (hx : r0j x) (hy : r0j y) : r0j (x ++ y) := fun t ht => (aA.1 ht).elim (hx t) (hy t)
def v0L (a : l0L) : Prop := (a.d_.length ≤ 1000000 ∧ r0j a.d_) ∧ a.e_.length ≤ 1000000 ∧ r0j a.e_
theorem s0y {s : d0k} {a : l0L} (ha : v0L a) : b0w s a = f0V s (a.d_ ++ a.e_) := by
  obtain ⟨⟨h1, _⟩, h2, _⟩ := ha
  unfold b0w
  obtain ⟨c, e, rfl⟩ := y0r (l := a.d_) (by omega)
  rw [e, aa, a0v (by omega)]
  cases f0V s (a.d_ ++ a.e_) <;> rfl
theorem r0D {s : d0k} {a : l0L} (ha : v0L a) : Tot (b0w s a) (fun _ => True) := by
  rw [s0y ha]
  obtain ⟨⟨h1, h3⟩, h2, h4⟩ := ha
  exact ⟨_, r0P (by simp; omega) (r0i h3 h4), trivial⟩
theorem n0y {s : d0k} {a : l0L} (hz : isZ s.H_ = true) (ha : v0L a) (h : b0w s a = some true) : b0S s a = some true := by
  rw [s0y ha] at h
  obtain ⟨⟨h1, h3⟩, h2, h4⟩ := ha
  unfold b0S
  rw [a0v (by omega), a0v (by omega), z0k hz (by simp; omega) (r0i h3 h4) h]
  rfl
theorem o0T {l : List a0b} {k : Int} (hl : l.length ≤ 4294967296) : Tot (c0i l k) (fun _ => True) := by
  unfold c0i
  refine tB (p := fun _ => True) (tW (fun s : Int × Int => s.2) l.length (fun _ => True) hl ⟨trivial, ar _, by simp⟩ (fun s _ g0 g1 => tY (dT g1) (tB (p := fun _ => True) (tY (a0Z g0 g1) (tI (fun _ => tR trivial) (fun _ => tR trivial))) (fun _ _ => tR ⟨trivial, w64 (by omega) (by omega)⟩))) (fun s _ e => tN (dF (by omega)) (tR trivial))) (fun _ _ => tR trivial)
theorem y0Y {l put : List a0b} (hl : l.length ≤ 1000) (ht : tk l) (hp : put.length ≤ 1) (hu : tk put) : Tot (b0k l put) (fun r => r.length ≤ 1001 ∧ tk r) := by
  unfold b0k
  exact tB (o0W (by omega)) (fun c hc => tY (a0v (by subst hc; omega)) (tR (by subst hc; exact ⟨by simp; omega, y0E hu ht⟩)))
theorem w0b {T : Type} (l : List T) (i : Int) (x : T) : (m0F l i x).length = l.length := by simp [m0F]
theorem r0I {l : List a0b} (hl : l.length ≤ 1000) (ht : tk l) : Tot (c0p l) (fun r => r.length ≤ 1001 ∧ tk r) := by
  unfold c0p
  obtain ⟨c, e, hc⟩ := o0W (l := l) (by omega)
  rw [e, aa]
  have hl : c.length ≤ 1000 := by rw [hc]; exact hl
  have ht : tk c := by rw [hc]; exact ht
  refine tB (p := fun r : List a0b => r.length ≤ 1001 ∧ tk r) (tW (fun s : Int × List a0b => s.1) c.length (fun s => s.2.length = c.length ∧ tk s.2) (by omega) ⟨⟨rfl, ht⟩, ar _, Int.natCast_nonneg _⟩ (fun s hs g0 g1 => tY (dT g1) ?_) (fun s hs e => tN (dF (by omega)) (tR ⟨by have := hs.1; omega, hs.2⟩))) (fun _ h => tR h)
  obtain ⟨hs, ht⟩ := hs
  have hi : inR s.1 s.2.length = true := a0Z g0 (by omega)
  refine tB (p := fun r : List a0b => r.length = c.length ∧ tk r) (tY hi (tY hi (tI (fun _ => tY hi (tY hi (tR ⟨by rw [w0b]; exact hs, fun t h => ?_⟩))) (fun _ => tR ⟨hs, ht⟩)))) (fun r hr => tR ⟨hr, w64 (by omega) (by omega)⟩)
  unfold m0F at h
  rcases List.mem_or_eq_of_mem_set h with h | rfl
  · exact ht t h
  · decide
theorem v0Z {p : a0M} (hp : o0c p 1000) (ht : tk p.d_ ∧ tk p.e_ ∧ tk p.l_ ∧ tk p.j_) (s : Int) : Tot (d0S p s) (fun r => (r.1.length ≤ 1001 ∧ tk r.1) ∧ r.2.length ≤ 1001 ∧ tk r.2) := by
  unfold d0S
  obtain ⟨p1, p2, p3, p4⟩ := hp
  obtain ⟨t1, t2, t3, t4⟩ := ht
  have c1 : ([] : List a0b).length ≤ 1 := by simp
  have c2 : ∀ t : a0b, ([t] : List a0b).length ≤ 1 := fun t => by simp
  have k1 : tk [] := fun t h => by cases h
  have k2 : ∀ k : Int, tk [⟨k, 0⟩] := fun k t h => by obtain rfl := List.mem_singleton.1 h; exact ⟨show (-2147483648 : Int) ≤ 0 by decide, show (0 : Int) < 2147483648 by decide⟩
  have two : ∀ {x y : List a0b} {a : List a0b}, x.length ≤ 1000 → tk x → y.length ≤ 1000 → tk y → a.length ≤ 1 → tk a → Tot (Option.bind (b0k x a) fun y0 => Option.bind (b0k y []) fun y1 => some (y0, y1)) (fun r => (r.1.length ≤ 1001 ∧ tk r.1) ∧ r.2.length ≤ 1001 ∧ tk r.2) := fun hx hxt hy hyt ha hat => tB (y0Y hx hxt ha hat) (fun a ha => tB (y0Y hy hyt c1 k1) (fun c hc => tR ⟨ha, hc⟩))
  refine tI (fun _ => tI (fun _ => two p3 t3 p4 t4 c1 k1) (fun _ => two p1 t1 p2 t2 (c2 _) (k2 _))) (fun _ => tI (fun _ => ?_) (fun _ => two p1 t1 p2 t2 c1 k1))
  refine tJ (tB (p := fun _ => True) (tI (fun _ => tB (o0T (by omega)) (fun _ _ => tB (o0T (by omega)) (fun _ _ => tR trivial))) (fun _ => tR trivial)) (fun _ _ => tI (fun _ => tB (r0I p3 t3) (fun a ha => tB (r0I p4 t4) (fun c hc => tR ⟨ha, hc⟩))) (fun _ => tR (two p1 t1 p2 t2 (c2 _) (k2 _)))))
theorem p0u {l : List a0b} {s : d0k} (hs : v0K s) (ht : tk l) (hl : l.length ≤ 1001) : Tot (c0V l s []) (fun r => r.length ≤ 1000000 ∧ r0j r) := by
  unfold c0V
  unfold v0K at hs
  refine tB (show Tot (d0Z s []) (fun _ => True) from tR trivial) (fun _ _ => tB (p := fun r : List Int => r.length ≤ 1000000 ∧ r0j r) (tW (fun s : Int × List Int => s.1) l.length (fun s => (s.2.length : Int) ≤ s.1 ∧ r0j s.2) (by omega) ⟨⟨ar _, fun t h => by cases h⟩, ar _, Int.natCast_nonneg _⟩ (fun u hu g0 g1 => tY (dT g1) ?_) (fun u hu e => tN (dF (by omega)) (tR ⟨by have := hu.1; omega, hu.2⟩))) (fun _ h => tR h))
  obtain ⟨hu, h32⟩ := hu
  have one : ∀ x : Int, -2147483648 ≤ x ∧ x < 2147483648 → Tot (bif room (u.2.length + ([x] : List Int).length) then some (u.2 ++ [x]) else none) (fun r : List Int => (r.length : Int) ≤ u.2.length + 1 ∧ r0j r) := fun x hx => tY (a0v (by simp; omega)) (tR ⟨by simp, r0i h32 (fun t h => by obtain rfl := List.mem_singleton.1 h; exact hx)⟩)
  refine tB (p := fun r : List Int => (r.length : Int) ≤ u.2.length + 1 ∧ r0j r) (tY (a0Z g0 g1) (tI (fun _ => one _ (ht _ (o0I g0 g1))) (fun _ => tI (fun _ => one _ (hs _ (by simp))) (fun _ => tI (fun _ => one _ (hs _ (by simp))) (fun _ => tI (fun _ => one _ (hs _ (by simp))) (fun _ => tI (fun _ => tY (a0v (by simp; omega)) (tR ⟨by rw [bo]; omega, by rw [bo]; exact h32⟩)) (fun _ => tY (a0v (by simp; omega)) (tR ⟨by rw [bo]; omega, by rw [bo]; exact h32⟩)))))))) (fun r hr => tR ⟨⟨?_, hr.2⟩, w64 (by omega) (by omega)⟩)
  have := hr.1
  rw [w64 (n := u.1 + 1) (by omega) (by omega)]
  simp only; omega
theorem y0v {p : a0M} {s : d0k} (hs : v0K s) {g : Int} (hp : o0c p 1000) (ht : tk p.d_ ∧ tk p.e_ ∧ tk p.l_ ∧ tk p.j_) : Tot (b0Z p s g []) v0L := by
  unfold b0Z
  exact tB (v0Z hp ht g) (fun a ha => tB (p0u hs ha.1.2 ha.1.1) (fun c hc1 => tB (p0u hs ha.2.2 ha.2.1) (fun d hd => tR ⟨hc1, hd⟩)))
theorem s0c {S O : Type} {f g : S → Option (S ⊕ O)} (hs : ∀ s o, f s = some o → g s = some o) : ∀ (n : Nat) (s : S) (o : O), a0q f n s = some o → a0q g n s = some o
  | 0, _, _, h => by cases h
  | n + 1, s, o, h => by
    simp only [a0q] at h ⊢
    cases hf : f s with
    | none => rw [hf] at h; cases h
    | some q =>
      rw [hf] at h
      rw [hs s q hf]
      cases q with
      | inl s' => exact s0c hs n s' o h
      | inr o' => exact h
theorem m0N {l : List a0b} {s : d0k} {c r : List Int} (h : c0V l s c = some r) : b0G l s c = some r := by
  unfold c0V at h
  unfold b0G
  obtain ⟨_, _, h⟩ := a0d h
  obtain ⟨o, h1, h2⟩ := a0d h
  rw [s0c (fun s o hf => ?_) big _ o h1]
  · exact h2
  cases hb : decide (s.1 < (l.length : Int)) with
  | false => rw [hb] at hf; exact hf
  | true =>
    rw [hb] at hf
    simp only [cond_true] at hf ⊢
    obtain ⟨u, h3, h4⟩ := a0d hf
    obtain ⟨hi, h3⟩ := b0p h3
    rw [hi]
    simp only [cond_true]
    have key : ∀ {x : Option (List Int)}, x = some u → (Option.bind x fun s2 => some (Sum.inl (IntKind.wrap .i64 (s.1 + 1), s2)) : Option ((Int × List Int) ⊕ List Int)) = some o := fun e => by rw [e]; exact h4
    apply key
    revert h3
    cases decide ((nth l s.1).K_ = 0) with
    | true => exact id
    | false =>
      cases decide ((nth l s.1).K_ = 1) with
      | true => exact id
      | false =>
        cases decide ((nth l s.1).K_ = 2) with
        | true => exact id
        | false =>
          cases decide ((nth l s.1).K_ = 3) with
          | true => exact id
          | false =>
            cases decide ((nth l s.1).K_ = 4) with
            | true => exact id
            | false =>
              intro h3
              obtain ⟨_, h3⟩ := b0p h3
              rw [bo] at h3
              exact h3
theorem i0X {l put r : List a0b} (hp : put.length ≤ 1) (h : b0k l put = some r) : r = put ++ l ∧ room (put.length + l.length) = true := by
  unfold b0k at h
  obtain ⟨c, h1, h2⟩ := a0d h
  have hc : c = put := by
    unfold d0R at h1
    match put, hp with
    | [], _ => exact (oi ((show m0i (some ([] : List a0b)) (some []) = some [] by simp [m0i]).symm.trans h1)).symm
    | [t], _ => exact (oi ((show (bif room 1 then some [t] else none) = some [t] from rfl).symm.trans h1)).symm
  subst hc
  obtain ⟨h3, h4⟩ := b0p h2
  exact ⟨(oi h4).symm, h3⟩
theorem n0T {l r : List a0b} (hl : l.length ≤ 1000) (h : c0p l = some r) : b0z l = some r := by
  unfold c0p at h
  unfold b0z
  obtain ⟨c, h0, h⟩ := a0d h
  obtain ⟨c', e, hc⟩ := o0W (l := l) (by omega)
  rw [hc] at e
  obtain rfl := oi (e.symm.trans h0)
  obtain ⟨o, h1, h2⟩ := a0d h
  have key := h0S (fun _ => True) (fun (s t : Int × List a0b) => t.1 = s.1 ∧ 0 ≤ s.1 ∧ s.1 ≤ l.length ∧ (t.2.length : Int) = s.1 ∧ s.2 = t.2 ++ l.drop s.1.toNat) (fun o o' => o' = o)
    (g := fun (s0 : Int × (List a0b)) => (bif (decide (s0.1 < (l.length : Int))) then (Option.bind (bif inR s0.1 l.length then (bif (decide (((nth l s0.1).K_) = 1)) then (bif room (s0.2.length + ([(⟨2, 0⟩ : a0b)] : List a0b).length) then (some ((s0.2 ++ ([(⟨2, 0⟩ : a0b)] : List a0b)))) else none) else (bif inR s0.1 l.length then (bif room (s0.2.length + ([(nth l s0.1)] : List a0b).length) then (some ((s0.2 ++ ([(nth l s0.1)] : List a0b)))) else none) else none)) else none) fun (s2 : (List a0b)) => (some (.inl ((IntKind.wrap .i64 (s0.1 + 1)), s2)))) else (some (.inr s0.2))))
    (fun s t u hR hf => ?_) (fun s t u hR hf _ => ?_) big (0, l) (0, []) o ⟨rfl, ar _, by simp, rfl, rfl⟩ h1 trivial
  · obtain ⟨o', e', rfl⟩ := key
    rw [e']; exact h2
  all_goals
    obtain ⟨i, ys⟩ := s
    obtain ⟨j, out⟩ := t
    obtain ⟨q1, r0, r1, r2, r3⟩ := hR
    simp only at q1 r0 r1 r2 r3 hf ⊢
    subst q1
    subst r3
  · by_cases hlt : j < l.length
    · rw [dT hlt] at hf ⊢
      have hd : l.drop j.toNat = nth l j :: l.drop (j + 1).toNat := by
        obtain ⟨k, rfl⟩ := aL r0
        rw [d0J (by omega)]
        show l.drop k = _ :: l.drop (k + 1)
        rw [← bk]
      have hn : nth (out ++ l.drop j.toNat) j = nth l j := by
        rw [hd, ← r2]; exact h0g
      rw [hn] at hf
      obtain ⟨y, h3, hf⟩ := a0d hf
      obtain rfl := am (oi hf)
      rw [a0Z r0 hlt]
      obtain ⟨hi, h3⟩ := b0p h3
      rw [hi] at h3
      simp only [cond_true] at h3 ⊢
      have e1 : IntKind.wrap .i64 (j + 1) = j + 1 := w64 (by omega) (by omega)
      by_cases hk : (nth l j).K_ = 1
      · rw [dT hk] at h3 ⊢
        simp only [cond_true] at h3 ⊢
        obtain rfl := oi h3
        rw [a0v (by simp; omega)]
        refine ⟨_, rfl, rfl, by omega, by omega, by simp; omega, ?_⟩
        rw [hd, e1]
        unfold m0F
        have : j.toNat = out.length := by omega
        simp [this]
      · rw [dF hk] at h3 ⊢
        simp only [cond_false] at h3 ⊢
        obtain rfl := oi h3
        rw [a0v (by simp; omega)]
        refine ⟨_, rfl, rfl, by omega, by omega, by simp; omega, ?_⟩
        rw [hd, e1]
        simp
    · rw [dF hlt] at hf; cases hf
  · by_cases hlt : j < l.length
    · rw [dT hlt] at hf
      obtain ⟨y, h3, hf⟩ := a0d hf
      cases hf
    · rw [dF hlt] at hf ⊢
      obtain rfl := aF (oi hf)
      refine ⟨_, rfl, ?_⟩
      have : l.drop j.toNat = [] := bc (by omega)
      rw [this]; simp
theorem s0H {p : a0M} {g : Int} {r : List a0b × List a0b} (hp : o0c p 1000) (hg : g = 0 ∨ g = 1 ∨ g = 2) (h : d0S p g = some r) : c0u p g = some r := by
  unfold d0S at h
  unfold c0u
  have c1 : ([] : List a0b).length ≤ 1 := by simp
  rcases hg with rfl | rfl | rfl
  · obtain ⟨a, h1, h⟩ := a0d (show (Option.bind (b0k p.d_ []) fun y => Option.bind (b0k p.e_ []) fun z => some (y, z)) = some r from h)
    obtain ⟨c, h2, h⟩ := a0d h
    obtain ⟨rfl, _⟩ := i0X c1 h1
    obtain ⟨rfl, _⟩ := i0X c1 h2
    exact h
  · cases hn : p.y_ with
    | true =>
      rw [hn] at h
      obtain ⟨a, h1, h⟩ := a0d (show (Option.bind (b0k p.l_ []) fun y => Option.bind (b0k p.j_ []) fun z => some (y, z)) = some r from h)
      obtain ⟨c, h2, h⟩ := a0d h
      obtain ⟨rfl, _⟩ := i0X c1 h1
      obtain ⟨rfl, _⟩ := i0X c1 h2
      exact h
    | false =>
      rw [hn] at h
      obtain ⟨a, h1, h⟩ := a0d (show (Option.bind (b0k p.d_ [⟨1, 0⟩]) fun y => Option.bind (b0k p.e_ []) fun z => some (y, z)) = some r from h)
      obtain ⟨c, h2, h⟩ := a0d h
      obtain ⟨rfl, hr⟩ := i0X (by simp) h1
      obtain ⟨rfl, _⟩ := i0X c1 h2
      show (bif room (([(⟨1, 0⟩ : a0b)] : List a0b).length + p.d_.length) then some _ else none) = _
      rw [hr]; exact h
  · obtain ⟨x, h1, h⟩ := a0d (show (Option.bind (Option.bind (bif p.y_ then (Option.bind (c0i p.l_ 1) fun y4 => (Option.bind (c0i p.j_ 1) fun y5 => (some ((decide ((IntKind.wrap .i64 (y4 + y5)) > 0)))))) else (some false)) fun s0 => _) _) = some r from h)
    obtain ⟨b, h2, h3⟩ := a0d h1
    show Option.bind (Option.bind (bif p.y_ then (Option.bind (c0i p.l_ 1) fun y4 => (Option.bind (c0i p.j_ 1) fun y5 => (some ((decide ((IntKind.wrap .i64 (y4 + y5)) > 0)))))) else (some false)) fun s0 => _) _ = _
    rw [h2, aa]
    cases b with
    | true =>
      obtain ⟨a, h4, h3⟩ := a0d (show (Option.bind (c0p p.l_) fun y6 => Option.bind (c0p p.j_) fun y7 => some (Sum.inr (y6, y7))) = some x from h3)
      obtain ⟨c, h5, h3⟩ := a0d h3
      obtain rfl := oi h3
      show Option.bind (Option.bind (b0z p.l_) fun y2 => Option.bind (b0z p.j_) fun y3 => some (Sum.inr (y2, y3))) _ = _
      rw [n0T hp.2.2.1 h4, aa, n0T hp.2.2.2 h5]
      exact h
    | false =>
      obtain rfl := oi h3
      obtain ⟨a, h1, h⟩ := a0d (show (Option.bind (b0k p.d_ [⟨2, 0⟩]) fun y => Option.bind (b0k p.e_ []) fun z => some (y, z)) = some r from h)
      obtain ⟨c, h2, h⟩ := a0d h
      obtain ⟨rfl, hr⟩ := i0X (by simp) h1
      obtain ⟨rfl, _⟩ := i0X c1 h2
      show (bif room (([(⟨2, 0⟩ : a0b)] : List a0b).length + p.d_.length) then some _ else none) = _
      rw [hr]; exact h
theorem u0t {p : a0M} {s : d0k} {g : Int} {c : List Int} {a : l0L} (hp : o0c p 1000) (hg : g = 0 ∨ g = 1 ∨ g = 2) (h : b0Z p s g c = some a) : c0v p s g c = some a := by
  unfold b0Z at h
  unfold c0v
  obtain ⟨y, h1, h⟩ := a0d h
  obtain ⟨z, h2, h⟩ := a0d h
  obtain ⟨w, h3, h⟩ := a0d h
  rw [s0H hp hg h1, aa, m0N h2, aa, m0N h3]
  exact h
theorem x0j {x y : List Int} (hl : x.length ≤ 4611686018427387904) : d0i x y = some (decide (x = y)) := by
  unfold d0i
  by_cases h : x.length = y.length
  · rw [dF (by omega)]
    simp only [cond_false]
    rw [x0i (S := Unit) h (by omega) (.inl () : Unit ⊕ Bool) (.inr false)]
    · by_cases e : x = y
      · rw [if_pos e, dT e]; rfl
      · rw [if_neg e, dF e]; rfl
    · intro i hi
      rw [dT (by omega), g0v hi, g0v (by omega), w64 (by omega) (by omega)]
      simp only [cond_true]
      by_cases h1 : nth x (i : Int) = nth y (i : Int)
      · rw [if_pos h1, dF (not_not_intro h1)]; rfl
      · rw [if_neg h1, dT h1]; rfl
    · rw [k0R]; rfl
  · rw [dT (by omega), dF (by rintro rfl; exact h rfl)]; rfl
theorem p0c {a c : l0L} (ha : v0L a) : b0I a c = some (decide (a = c)) := by
  unfold b0I
  rw [x0j (aM ha.1.1 (by decide)), x0j (aM ha.2.1 (by decide))]
  obtain ⟨a1, a2⟩ := a
  obtain ⟨c1, c2⟩ := c
  by_cases h1 : a1 = c1
  · subst h1
    by_cases h2 : a2 = c2
    · subst h2; simp
    · simp [h2]
  · simp [h1]
theorem q0u {a c : l0L} (ha : v0L a) : c0r a c = some (decide (a = c)) := by
  rw [← p0c ha]
  unfold b0I c0r
  show (Option.bind (d0i a.d_ c.d_) _) = _
  cases d0i a.d_ c.d_ <;> rfl
theorem Tot.bindE {α β : Type} {x : Option α} {k : α → Option β} {p : α → Prop} {q : β → Prop} (h : Tot x p) (hk : ∀ o, x = some o → p o → Tot (k o) q) : Tot (Option.bind x k) q := by
  obtain ⟨o, e, h⟩ := h; subst e; exact hk o rfl h
theorem z0U {x : Int} (h : f0L x = true) : -2147483648 ≤ x ∧ x < 2147483648 := by
  have := d0V.1 h; omega
theorem v0T {l : List a0b} (h : g0U l = true) : tk l := fun t ht => z0U (List.all_eq_true.1 h t ht)
theorem y0d {p : a0M} (hg : n0J p) : tk p.d_ ∧ tk p.e_ ∧ tk p.l_ ∧ tk p.j_ := ⟨v0T hg.2.2.1.1, v0T hg.2.2.1.2.1, v0T hg.2.2.1.2.2.1, v0T hg.2.2.1.2.2.2⟩
theorem u0L {p : a0M} (h : o0c p 120) : o0c p 1000 := ⟨by have := h.1; omega, by have := h.2.1; omega, by have := h.2.2.1; omega, by have := h.2.2.2; omega⟩
theorem A0c {x : Int} (h : -2147483648 ≤ x ∧ x < 2147483648) : Tot (j0H x) (fun _ => True) := by
  unfold j0H
  show Tot (Option.bind (a0u x k0J) _) _
  rw [r0L h.1 h.2 (List.Perm.refl _)]
  exact tR trivial
theorem m0m {a c : List a0b} {k : Int} (ha : a.length ≤ 1000) (hc : c.length ≤ 1000) : Tot (a0y k a c) (fun _ => True) := by
  unfold a0y
  exact tB (o0T (by omega)) (fun _ _ => tB (o0T (by omega)) (fun _ _ => tR trivial))
theorem r0W {a c : List a0b} {s m : Int} (ha : a.length ≤ 1000) (hc : c.length ≤ 1000) : Tot (f0t a c s m) (fun b => b = true → a0y 3 a c = some (if s = 1 then 1 else 0) ∧ a0y 4 a c = some (if s = 3 then 1 else 0)) := by
  unfold f0t
  refine tB (p := fun y : Int × Int => y.1 = (if s = 1 then 1 else 0) ∧ y.2 = (if s = 3 then 1 else 0)) (tI (fun h => ?_) (fun h => tI (fun g => ?_) (fun g => ?_))) (fun y hy => tB (p := fun b => b = true → a0y 3 a c = some (if s = 1 then 1 else 0) ∧ a0y 4 a c = some (if s = 3 then 1 else 0)) ?_ (fun b hb => tR hb))
  · have h := dTT h; subst h; exact tR ⟨rfl, rfl⟩
  · have g := dTT g; subst g; exact tR ⟨rfl, rfl⟩
  · have h := dFF h; have g := dFF g; exact tR ⟨by rw [if_neg h], by rw [if_neg g]⟩
  refine Tot.bindE (m0m ha hc) (fun u e3 _ => tI (fun h3 => Tot.bindE (m0m ha hc) (fun v e4 _ => tI (fun h4 => tB (m0m ha hc) (fun _ _ => tI (fun _ => tB (m0m ha hc) (fun _ _ => tR (fun _ => ?_))) (fun _ => tR (fun h => by cases h)))) (fun _ => tR (fun h => by cases h)))) (fun _ => tR (fun h => by cases h)))
  have h3 := dTT h3; have h4 := dTT h4
  rw [e3, e4, h3, h4, hy.1, hy.2]
  exact ⟨rfl, rfl⟩
def z0w (a : p0g) : Prop := v0L a.p_ ∧ v0L a.o_ ∧ v0L a.D_
theorem s0x {s : d0k} (hs : v0K s) {p : a0M} (hg : n0J p) (hl : o0c p 120) : Tot (e0C s p []) (fun A => z0w A ∧ b0Z p s 0 [] = some A.p_ ∧ b0Z p s 1 [] = some A.o_ ∧ b0Z p s 2 [] = some A.D_) := by
  unfold e0C
  have hp := u0L hl
  have ht := y0d hg
  exact Tot.bindE (y0v hs hp ht) (fun a ea ha => Tot.bindE (y0v hs hp ht) (fun c ec hc1 => Tot.bindE (y0v hs hp ht) (fun d ed hd => tR ⟨⟨ha, hc1, hd⟩, ea, ec, ed⟩)))
theorem y0D {s : d0k} (hs : v0K s) {p : a0M} (hg : n0J p) (hl : o0c p 120) : Tot (d0m s p []) (fun b => b = true → ∃ A, z0w A ∧ (b0Z p s 0 [] = some A.p_ ∧ b0Z p s 1 [] = some A.o_ ∧ b0Z p s 2 [] = some A.D_) ∧ (b0w s A.p_ = some true ∧ b0w s A.o_ = some true ∧ b0w s A.D_ = some true) ∧ A.p_ ≠ A.o_ ∧ A.o_ ≠ A.D_) := by
  unfold d0m
  refine tB (s0x hs hg hl) (fun A hA => ?_)
  obtain ⟨⟨q0, q1, q2⟩, hof⟩ := hA
  obtain ⟨b0, e0, _⟩ := r0D (s := s) q0
  obtain ⟨b1, e1, _⟩ := r0D (s := s) q1
  obtain ⟨b2, e2, _⟩ := r0D (s := s) q2
  have w1 : IntKind.wrap .i64 1 = 1 := by decide
  have w2 : IntKind.wrap .i64 2 = 2 := by decide
  have w3 : IntKind.wrap .i64 3 = 3 := by decide
  refine tB (p := fun o : Unit ⊕ Bool => o = if (b0 && (b1 && b2)) = true then .inl () else .inr false) ⟨_, g0O 4 ?_ (by decide), rfl⟩ (fun o ho => ?_)
  · cases b0 with
    | false => simp [a0q, e0]
    | true =>
      cases b1 with
      | false => simp [a0q, e0, e1, w1]
      | true => cases b2 <;> simp [a0q, e0, e1, e2, w1, w2, w3]
  · subst ho
    rw [p0c q0, p0c q1]
    cases b0 with
    | false => exact tR (fun h => by cases h)
    | true =>
      cases b1 with
      | false => exact tR (fun h => by cases h)
      | true =>
        cases b2 with
        | false => exact tR (fun h => by cases h)
        | true =>
          by_cases n1 : A.p_ = A.o_
          · rw [dT n1]; exact tR (fun h => by cases h)
          · by_cases n2 : A.o_ = A.D_
            · rw [dF n1, dT n2]; exact tR (fun h => by cases h)
            · rw [dF n1, dF n2]; exact tR (fun _ => ⟨A, ⟨q0, q1, q2⟩, hof, ⟨e0, e1, e2⟩, n1, n2⟩)
theorem x0s {l : List Int} {x : Int} (hl : l.length ≤ 4294967296) : Tot (b0b l x) (fun _ => True) := by
  unfold b0b g0N
  exact tB (p := fun _ => True) (tJ (tW (fun s : Int => s) l.length (fun _ => True) hl ⟨trivial, ar _, by simp⟩ (fun i _ g0 g1 => tY (dT g1) (tY (a0Z g0 g1) (tI (fun _ => tR trivial) (fun _ => tR ⟨trivial, w64 (by omega) (by omega)⟩)))) (fun i _ e => tN (dF (by omega)) (tR (tR trivial))))) (fun _ _ => tR trivial)
theorem u0U (s : d0k) (x : Int) : Tot (e0z s x) (fun _ => True) := by
  unfold e0z
  refine tB (p := fun _ => True) ?_ (fun _ _ => tB (p := fun _ => True) (tI (fun _ => tR trivial) (fun _ => tB (p := fun _ => True) ⟨_, v0t _ _, trivial⟩ (fun _ _ => tR trivial))) (fun _ _ => tR trivial))
  unfold k0E
  exact tJ (tB (p := fun _ => True) (tI (fun _ => tR trivial) (fun _ => tR trivial)) (fun _ _ => tI (fun _ => tR trivial) (fun _ => tR (tR trivial))))
theorem w0o {s : d0k} (hs : v0K s) {p : a0M} (hg : n0J p) (hl : o0c p 120) : Tot (h0v s p) (fun _ => True) := by
  unfold h0v
  refine tI (fun _ => tR trivial) (fun _ => tB (p := fun _ => True) (A0c (z0U hg.2.2.2)) (fun _ _ => tJ (tB (p := fun _ => True) (tI (fun _ => tI (fun _ => tR trivial) (fun _ => tB (u0U _ _) (fun _ _ => tR trivial))) (fun _ => tB (u0U _ _) (fun _ _ => tR trivial))) (fun _ _ => tI (fun _ => tR trivial) (fun _ => tR (show Tot _ _ from ?_))))))
  refine tJ (tB (s0x hs hg hl) (fun a ha => tL (fun i : Int => 0 ≤ i ∧ i ≤ 3) (fun i => (3 - i).toNat) (by omega) (by decide) (fun i hi => ?_)))
  have st : ∀ {a : l0L}, v0L a → Tot (Option.bind (b0b a.d_ p.r_) fun y4 => bif y4 then some true else Option.bind (b0b a.e_ p.r_) fun y5 => some y5) (fun _ => True) := fun ha => tB (x0s (aM ha.1.1 (by decide))) (fun _ _ => tI (fun _ => tR trivial) (fun _ => tB (x0s (aM ha.2.1 (by decide))) (fun _ _ => tR trivial)))
  refine tI (fun h => tJ (Tot.mono (p := fun x : Int ⊕ (Int ⊕ (Unit ⊕ Bool)) => match x with | .inl s' => s' = i | .inr (.inl _) => False | .inr (.inr (.inl _)) => False | .inr (.inr (.inr _)) => True) ?_ (fun x hx => ?_))) (fun _ => tR (tR trivial))
  · refine tI (fun h0 => tB (st ha.1.1) (fun _ _ => tI (fun _ => tR trivial) (fun _ => tR (dTT h0).symm))) (fun h0 => tI (fun h1 => tB (st ha.1.2.1) (fun _ _ => tI (fun _ => tR trivial) (fun _ => tR (dTT h1).symm))) (fun h1 => tI (fun h2 => tB (st ha.1.2.2) (fun _ _ => tI (fun _ => tR trivial) (fun _ => tR (dTT h2).symm))) (fun h2 => ?_)))
    have := dTT h; have := dFF h0; have := dFF h1; have := dFF h2; omega
  · match x, hx with
    | .inl s', e =>
      have := dTT h
      subst e
      refine tR ?_
      rw [w64 (n := s' + 1) (by omega) (by omega)]
      exact ⟨by omega, by omega⟩
    | .inr (.inr (.inr _)), _ => trivial
theorem y0R {p : a0M} (hg : n0J p) (s : Int) : Tot (f0D p s) (fun b => b = true → (0 < p.b_ ↔ s = 2) ∧ 1 ≤ p.m_ + p.g_) := by
  obtain ⟨⟨n1, n2, n3, n4, n5, n6, n7, n8, n9, n10, n11⟩, _⟩ := hg
  have no : Tot (some false) (fun b => b = true → (0 < p.b_ ↔ s = 2) ∧ 1 ≤ p.m_ + p.g_) := tR (fun h => by cases h)
  unfold f0D
  refine tI (fun h => tB (p := fun b => b = true → (0 < p.b_ ↔ s = 2) ∧ 1 ≤ p.m_ + p.g_) (tI (fun h1 => tI (fun _ => tI (fun _ => tR (fun h2 => ?_)) (fun _ => no)) (fun _ => no)) (fun _ => no)) (fun b hb => tR hb)) (fun h => tB (p := fun b => b = true → 0 < p.g_) (tI (fun h1 => tI (fun _ => tR (fun _ => dTT h1)) (fun _ => tR (fun _ => dTT h1))) (fun _ => tR (fun h => by cases h))) (fun b hb => tB (p := fun b => b = true → (0 < p.b_ ↔ s = 2) ∧ 1 ≤ p.m_ + p.g_) (tI (fun h1 => tI (fun h2 => tR (fun _ => ?_)) (fun _ => tR (fun h2 => ?_))) (fun _ => no)) (fun b hb => tR hb)))
  · have h := dTT h; have h1 := dTT h1; have h2 := dTT h2
    exact ⟨⟨fun _ => h, fun _ => h1⟩, by omega⟩
  · have h := dFF h; have h1 := dTT h1; have h2 := dTT h2
    exact ⟨⟨fun e => by omega, fun e => absurd e h⟩, by omega⟩
  · have h := dFF h; have h1 := dTT h1; have := hb h2
    exact ⟨⟨fun e => by omega, fun e => absurd e h⟩, by omega⟩
theorem t0W {p : a0M} (hg : n0J p) (hl : o0c p 120) : Tot (f0C p) (fun b => b = true → a0Y p = some true) := by
  have key : Tot (f0C p) (fun _ => True) := by
    obtain ⟨hn, hlim, ⟨o1, o2, o3, o4⟩, o0⟩ := hg
    have hc := v0p hn hlim
    have hln := w0S hl hc hn
    obtain ⟨l1, l2, l3, l4⟩ := hl
    have hpd := d0V.1 o0
    unfold f0C k0M
    rw [q0r hc hn (by omega) (by omega) (by omega) (by omega), aa, m0G (w0R o0 o1 o2 o3 o4), aa]
    have hT := d0r (txL p)
    refine Tot.bindE (q0S (by omega)) (fun y e _ => tB (p := fun _ => True) (tI (fun h => ?_) (fun _ => tR trivial)) (fun _ _ => tR trivial))
    obtain ⟨q, a, c⟩ := y
    have h : c = 0 := dTT h
    subst h
    have hqd := d0V.1 (l0z (by omega) e).1.2.2.2
    rw [t0Q ⟨by omega, by omega, by omega, by omega⟩ ⟨by omega, by omega⟩ ⟨by simp only; omega, by simp only; omega⟩]
    exact tR trivial
  obtain ⟨b, e, _⟩ := key
  rw [e]
  exact tR (fun h => t0X hg hl (by rw [e, h]))
theorem x0T {t : List UInt8} (ht : t.length ≤ 100000) : Tot (j0C t) (fun r => r.2 = true → (n0J r.1 ∧ o0c r.1 120) ∧ a0Y r.1 = some true) := by
  unfold j0C
  refine Tot.bindE (q0S ht) (fun y e _ => tB (p := fun b => b = true → (n0J y.1 ∧ o0c y.1 120) ∧ a0Y y.1 = some true) (tI (fun h => ?_) (fun _ => tR (fun h => by cases h))) (fun b hb => tR hb))
  obtain ⟨q, a, c⟩ := y
  have h : c = 0 := dTT h
  subst h
  have hg := l0z ht e
  exact tB (t0W hg.1 hg.2) (fun b hb => tR (fun h => ⟨hg, hb h⟩))
def A0b (s : d0k) (x : Int) (p : a0M) : Prop := o0c p 120 ∧ a0Y p = some true ∧ ((0 < p.b_ ↔ x = 2) ∧ 1 ≤ p.m_ + p.g_ ∧ p.m_ ≤ 40 ∧ p.g_ ≤ 40) ∧ (a0y 3 p.d_ p.e_ = some (if x = 1 then 1 else 0) ∧ a0y 4 p.d_ p.e_ = some (if x = 3 then 1 else 0)) ∧ ∃ A, z0w A ∧ (b0Z p s 0 [] = some A.p_ ∧ b0Z p s 1 [] = some A.o_ ∧ b0Z p s 2 [] = some A.D_) ∧ (b0w s A.p_ = some true ∧ b0w s A.o_ = some true ∧ b0w s A.D_ = some true) ∧ A.p_ ≠ A.o_ ∧ A.o_ ≠ A.D_
def x0v (p : a0M) : Prop := p = (⟨([] : List a0b), ([] : List a0b), ([] : List a0b), ([] : List a0b), false, 0, 0, 0, 0, 0, 0, 0, 0, 0, false, 0, 0⟩ : a0M)
theorem q0O {s : d0k} (hs : v0K s) {x : Int} {t : List UInt8} (ht : t.length ≤ 100000) : Tot (b0Q s x t) (fun r => (r.2 = false → x0v r.1) ∧ (r.2 = true → A0b s x r.1)) := by
  unfold b0Q
  refine tB (x0T ht) (fun y hy => ?_)
  refine tJ (tB (p := fun b => b = false → y.2 = true) (tI (fun _ => tR (fun h => by cases h)) (fun h => tI (fun _ => tR (fun h => by cases h)) (fun _ => tR (fun _ => by cases e : y.2 <;> simp [e] at h ⊢)))) (fun b hb => tI (fun _ => tR ⟨fun _ => rfl, fun h => (by cases h)⟩) (fun h0 => tR (show Tot _ _ from ?_))))
  obtain ⟨⟨hg, hl⟩, hr⟩ := hy (hb h0)
  have hk := u0L hl
  refine tJ (tB (p := fun b => b = false → ((0 < y.1.b_ ↔ x = 2) ∧ 1 ≤ y.1.m_ + y.1.g_) ∧ (a0y 3 y.1.d_ y.1.e_ = some (if x = 1 then 1 else 0) ∧ a0y 4 y.1.d_ y.1.e_ = some (if x = 3 then 1 else 0))) (tB (y0R hg x) (fun n hn => tI (fun _ => tR (fun h => by cases h)) (fun h1 => tB (r0W hk.1 hk.2.1) (fun q hq => tI (fun _ => tR (fun h => by cases h)) (fun h2 => ?_))))) (fun b hb => tI (fun _ => tR ⟨fun _ => rfl, fun h => (by cases h)⟩) (fun h0 => tR (show Tot _ _ from ?_))))
  · have t0n := And.intro (hn (by simpa using h1)) (hq (by simpa using h2))
    exact tI (fun _ => tB (r0W hk.2.2.1 hk.2.2.2) (fun _ _ => tR (fun _ => t0n))) (fun _ => tR (fun _ => t0n))
  have hf := hb h0
  refine tJ (tB (p := fun b => b = false → ∃ A, z0w A ∧ (b0Z y.1 s 0 [] = some A.p_ ∧ b0Z y.1 s 1 [] = some A.o_ ∧ b0Z y.1 s 2 [] = some A.D_) ∧ (b0w s A.p_ = some true ∧ b0w s A.o_ = some true ∧ b0w s A.D_ = some true) ∧ A.p_ ≠ A.o_ ∧ A.o_ ≠ A.D_) (tB (y0D hs hg hl) (fun n hn => tI (fun _ => tR (fun h => by cases h)) (fun h1 => tB (w0o hs hg hl) (fun q _ => tR (fun _ => hn (by simpa using h1)))))) (fun b hb => tI (fun _ => tR ⟨fun _ => rfl, fun h => (by cases h)⟩) (fun h0 => tR (show Tot _ _ from tR ⟨fun h => (by cases h), fun _ => ⟨hl, hr, ⟨hf.1.1, hf.1.2, ?_, ?_⟩, hf.2, hb h0⟩⟩))))
  all_goals
    have hc := v0p hg.1 hg.2.1
    obtain ⟨_, c2, _, _, _, _, c7, _⟩ := hc
    simp only
    omega
end Go.Proofs.YtcapcgbamehojaaGreatDoor
