/-
 What those functions come to, told by plain functions of lists and numbers. Conditions: as each theorem says.
-/
import Derived.Test.YtdflcknbelpflaaGc
import Derived.Test.YtdflcknbelpflaaSyZ
namespace Go.Proofs.Ytdflcknbelpflaa
open Go Go.Sy Go.RowKit Go.ChangeShapes Go.WideShapes Go.ChangeAt
set_option linter.unusedVariables false
set_option linter.unusedSimpArgs false
set_option maxRecDepth 100000
set_option maxHeartbeats 4000000
/-! Two patterns are compared. -/
theorem eq_row {T S O : Type} [Inhabited T] [DecidableEq T] {xs ys : List T} (hlen : xs.length = ys.length) (hb : xs.length ≤ 4611686018427387904) (ok bad : O) {step : Int → Option (Int ⊕ O)}
  (hs : ∀ i : Nat, i < xs.length → step (i : Int) = some (if nth xs (i : Int) = nth ys (i : Int) then .inl ((i : Int) + 1) else .inr bad)) (he : step (xs.length : Int) = some (.inr ok)) :
  loopN step big 0 = some (if xs = ys then ok else bad) := by
 obtain ⟨o, h1, h2⟩ := loop_count (step := step) xs.length (fun i => (i : Int)) (fun i => ∀ j, j < i → nth xs (j : Int) = nth ys (j : Int)) (fun o => o = if xs = ys then ok else bad) rfl (fun j hj => by omega) (fun i hi hI => by
  rw [hs i hi]
  by_cases c : nth xs (i : Int) = nth ys (i : Int)
  ·left
   rw [if_pos c]
   refine ⟨by simp, fun j hj => ?_⟩
   by_cases e : j = i
   ·subst e; exact c
   ·exact hI j (by omega)
  ·right
   rw [if_neg c]
   refine ⟨bad, rfl, ?_⟩
   rw [if_neg (fun e => c (by rw [e]))]) (fun hI => ⟨ok, he, by
  rw [if_pos]
  apply List.ext_getElem hlen
  intro i h1 h2
  have := hI i h1
  rwa [nth_nat h1, nth_nat h2] at this⟩) (by omega)
 have h1' : loopN step big 0 = some o := h1
 rw [h1', h2]
theorem tok_eq {x y : List St33} (hl : x.length ≤ 4611686018427387904) : api_Tok_ x y = some (decide (x = y)) := by
 unfold api_Tok_
 by_cases h : x.length = y.length
 ·rw [dF (by omega)]
  simp only [cond_false]
  rw [eq_row (S := Unit) h (by omega) (.inl () : Unit ⊕ Bool) (.inr false)]
  ·by_cases e : x = y
   ·rw [if_pos e, dT e]; rfl
   ·rw [if_neg e, dF e]; rfl
  ·intro i hi
   rw [dT (by omega), inR_nat hi, inR_nat (by omega), w64 (by omega) (by omega)]
   simp only [cond_true]
   generalize nth x (i : Int) = a
   generalize nth y (i : Int) = b
   obtain ⟨a1, a2⟩ := a
   obtain ⟨b1, b2⟩ := b
   by_cases h1 : a1 = b1 <;> by_cases h2 : a2 = b2 <;> simp [h1, h2]
  ·rw [lt_end]; rfl
 ·rw [dT (by omega), dF (by rintro rfl; exact h rfl)]; rfl
def lens (a : St23) : Prop := a.Pre_.length ≤ 4611686018427387904 ∧ a.Suf_.length ≤ 4611686018427387904 ∧ a.NPre_.length ≤ 4611686018427387904 ∧ a.NSuf_.length ≤ 4611686018427387904
theorem few_eq {a : St23} (h1 : a.Pre_.length ≤ 140737488355328) (h2 : a.Suf_.length ≤ 140737488355328) (h3 : a.NPre_.length ≤ 140737488355328) (h4 : a.NSuf_.length ≤ 140737488355328) :
  exergueref10_Few a = some (decide (a.Pre_.length + a.Suf_.length + a.NPre_.length + a.NSuf_.length ≤ 300)) := by
 unfold exergueref10_Few
 rw [w64 (n := (a.Pre_.length : Int) + (a.Suf_.length : Int)) (by omega) (by omega), w64 (n := (a.Pre_.length : Int) + (a.Suf_.length : Int) + (a.NPre_.length : Int)) (by omega) (by omega), w64 (by omega) (by omega)]
 congr 1
 rw [decide_eq_decide]
 omega
/-! Parsers that always answer. -/
theorem loop_var {S O : Type} {step : S → Option (S ⊕ O)} (I : S → Prop) (μ : S → Nat) (post : O → Prop) {s0 : S} (h0 : I s0) (hb : μ s0 < 18446744073709551616)
  (hs : ∀ s, I s → (∃ s', step s = some (.inl s') ∧ I s' ∧ μ s' < μ s) ∨ ∃ o, step s = some (.inr o) ∧ post o) : ∃ o, loopN step big s0 = some o ∧ post o := by
 have key : ∀ m s, I s → μ s < m → ∃ o, loopN step m s = some o ∧ post o := by
  intro m
  induction m with
  | zero => intro s _ h; omega
  | succ m ih =>
   intro s hi hm
   rcases hs s hi with ⟨s', h1, h2, h3⟩ | ⟨o, h1, h2⟩
   ·rw [loopN_next h1]; exact ih s' h2 (by omega)
   ·exact ⟨o, loopN_out h1, h2⟩
 exact key big s0 h0 hb
def Tot {α : Type} (x : Option α) (p : α → Prop) : Prop := ∃ o, x = some o ∧ p o
theorem Tot.ret {α : Type} {a : α} {p : α → Prop} (h : p a) : Tot (some a) p := ⟨a, rfl, h⟩
theorem Tot.bind {α β : Type} {x : Option α} {k : α → Option β} {p : α → Prop} {q : β → Prop} (h : Tot x p) (hk : ∀ o, p o → Tot (k o) q) : Tot (Option.bind x k) q := by
 obtain ⟨o, rfl, h⟩ := h; exact hk o h
theorem Tot.ite {α : Type} {b : Bool} {t e : Option α} {p : α → Prop} (ht : b = true → Tot t p) (he : b = false → Tot e p) : Tot (bif b then t else e) p := by
 cases b with
 | true => exact ht rfl
 | false => exact he rfl
theorem Tot.yes {α : Type} {b : Bool} {t e : Option α} {p : α → Prop} (h : b = true) (ht : Tot t p) : Tot (bif b then t else e) p := by subst h; exact ht
theorem Tot.mono {α : Type} {x : Option α} {p q : α → Prop} (h : Tot x p) (hq : ∀ o, p o → q o) : Tot x q := by obtain ⟨o, h1, h2⟩ := h; exact ⟨o, h1, hq o h2⟩
def joinP {S X : Type} (k : S → Option X) (p : X → Prop) : S ⊕ X → Prop
 | .inl s => Tot (k s) p
 | .inr r => p r
theorem Tot.join {S X : Type} {x : Option (S ⊕ X)} {k : S → Option X} {p : X → Prop} (h : Tot x (joinP k p)) : Tot (Option.bind x (joinX k)) p := by
 obtain ⟨o, rfl, h⟩ := h
 cases o with
 | inl s => exact h
 | inr r => exact ⟨r, rfl, h⟩
theorem Tot.loop {S O : Type} {step : S → Option (S ⊕ O)} (I : S → Prop) (μ : S → Nat) {post : O → Prop} {s0 : S} (h0 : I s0) (hb : μ s0 < 18446744073709551616)
  (hs : ∀ s, I s → Tot (step s) (fun x => match x with | .inl s' => I s' ∧ μ s' < μ s | .inr o => post o)) : Tot (loopN step big s0) post := by
 refine loop_var I μ post h0 hb (fun s hi => ?_)
 obtain ⟨x, h1, h2⟩ := hs s hi
 cases x with
 | inl s' => exact .inl ⟨s', h1, h2⟩
 | inr o => exact .inr ⟨o, h1, h2⟩
theorem Tot.any {α : Type} {x : Option α} {p : α → Prop} (h : Tot x p) : Tot x (fun _ => True) := h.mono (fun _ _ => trivial)
theorem dTT {p : Prop} [Decidable p] (h : decide p = true) : p := of_decide_eq_true h
theorem dFF {p : Prop} [Decidable p] (h : decide p = false) : ¬ p := of_decide_eq_false h
theorem is_tot (x : Int) : Tot (exergueref01_Is x) (fun _ => True) := by
 unfold exergueref01_Is
 refine Tot.bind (p := fun _ => True) ?_ (fun _ _ => Tot.ret trivial)
 repeat' (first | exact Tot.ret trivial | refine Tot.ite (fun _ => ?_) (fun _ => ?_))
theorem size_tot (x : Int) : Tot (exergueref01_Size x) (fun n => 0 ≤ n ∧ n ≤ 4 ∧ (exergueref01_Is x = some true → 1 ≤ n)) := by
 unfold exergueref01_Size
 obtain ⟨b, hb, _⟩ := is_tot x
 rw [hb]
 cases b with
 | false => exact ⟨0, rfl, by omega, by omega, fun h => by cases h⟩
 | true =>
  show Tot (bif _ then _ else _) _
  repeat' (first | exact Tot.ret ⟨by omega, by omega, fun _ => by omega⟩ | refine Tot.ite (fun _ => ?_) (fun _ => ?_))
theorem bytes_tot (x : Int) : Tot (exergueref01_Bytes x) (fun l => l.length ≤ 4) := by
 unfold exergueref01_Bytes
 refine Tot.bind (size_tot x) (fun _ _ => ?_)
 repeat' (first | exact Tot.ret (by simp) | refine Tot.ite (fun _ => ?_) (fun _ => ?_))
theorem text_tot (x : Int) : Tot (exergueref10_text x) (fun l => l.length ≤ 4) := by
 unfold exergueref10_text
 exact Tot.bind (bytes_tot x) (fun o h => Tot.ret (by simpa [bytesS] using h))
theorem special_tot (x : Int) : Tot (exergueref10_Special x) (fun _ => True) := by
 unfold exergueref10_Special
 refine Tot.join (Tot.bind (p := fun _ => True) ?_ (fun b _ => ?_))
 ·repeat' (first | exact Tot.ret trivial | refine Tot.ite (fun _ => ?_) (fun _ => ?_))
 ·refine Tot.ite (fun _ => Tot.ret trivial) (fun _ => Tot.ret ?_)
  refine Tot.join (Tot.loop (fun s => 0 ≤ s ∧ s ≤ 11) (fun s => (11 - s).toNat) (by omega) (by omega) (fun s hs => ?_))
  refine Tot.ite (fun h => ?_) (fun _ => Tot.ret (Tot.ret trivial))
  have h := dTT h
  refine Tot.yes (inR_int (by omega) (by simpa using h)) (Tot.ite (fun _ => Tot.ret trivial) (fun _ => Tot.ret ?_))
  rw [w64 (by omega) (by omega)]; omega
theorem sign_tot (x : Int) : Tot (exergueref10_Sign x) (fun _ => True) := by
 unfold exergueref10_Sign
 repeat' (first | exact Tot.ret trivial | refine Tot.ite (fun _ => ?_) (fun _ => ?_))
def atV (l : List Int) (i : Int) : Int := if i < l.length then nth l i else -1
theorem at_eq2 {l : List Int} {i : Int} (h : 0 ≤ i) : exergueref10_at l i = some (atV l i) := by
 unfold exergueref10_at atV
 by_cases hi : i < l.length
 ·rw [dT hi, if_pos hi, inR_int h hi]; rfl
 ·rw [dF hi, if_neg hi]; rfl
theorem at_in {l : List Int} {i c : Int} (hc : atV l i = c) (h : c ≠ -1) : i < l.length := by
 unfold atV at hc
 split at hc
 ·assumption
 ·exact absurd hc.symm h
theorem many_tot {l : List Int} {i c : Int} (hl : l.length ≤ 10000) (h : 0 ≤ i) (hi : i ≤ l.length) (hc : c ≠ -1) : Tot (exergueref10_many l i c) (fun n => 0 ≤ n ∧ i + n ≤ l.length) := by
 unfold exergueref10_many
 refine Tot.bind (p := fun n => 0 ≤ n ∧ i + n ≤ l.length) ?_ (fun _ h => Tot.ret h)
 refine Tot.loop (fun s => 0 ≤ s ∧ i + s ≤ l.length) (fun s => (l.length - i - s).toNat) (by omega) (by omega) (fun s hs => ?_)
 rw [w64 (n := i + s) (by omega) (by omega), at_eq2 (by omega)]
 show Tot (bif _ then _ else _) _
 refine Tot.ite (fun hh => Tot.ret ?_) (fun _ => Tot.ret hs)
 have := at_in (dTT hh) hc
 rw [w64 (by omega) (by omega)]; omega
def numsP (p : St23) : Int × Int × Int × Int × Int × Int × Int × Int × Int × Bool := (p.Hash_, p.MinInt_, p.MinFrac_, p.MaxFrac_, p.G1_, p.G2_, p.MinSig_, p.MaxSig_, p.Exp_, p.ExpPlus_)
def grpP (t g1 g2 : Int) : Prop := (g1 = 0 ∧ g2 = 0) ∨ (0 < g1 ∧ 0 < g2 ∧ g1 < t ∧ (t ≤ g1 + g2 → g2 = g1))
def canon : Int × Int × Int × Int × Int × Int × Int × Int × Int × Bool → Prop := fun (ha, mi, nf, xf, g1, g2, ns, xs, ex, ep) =>
 0 ≤ ha ∧ 0 ≤ mi ∧ 0 ≤ nf ∧ nf ≤ xf ∧ 0 ≤ ns ∧ ns ≤ xs ∧ 0 ≤ ex ∧ (ex = 0 → ep = false) ∧ (ns = 0 → xs = 0 ∧ 0 < ha + mi) ∧ (0 < ns → ha = 0 ∧ mi = 0 ∧ nf = 0 ∧ xf = 0) ∧ grpP (ha + mi) g1 g2
def zeroN : Int × Int × Int × Int × Int × Int × Int × Int × Int × Bool := (0, 0, 0, 0, 0, 0, 0, 0, 0, false)
theorem pad_tot {p : St23} {l : List Int} {i w : Int} (hl : l.length ≤ 10000) (h : 0 ≤ i) (hi : i ≤ l.length) : Tot (exergueref10_pad p l i w) (fun o => 0 ≤ o.2.1 ∧ (o.2.2 = true → o.2.1 ≤ l.length) ∧ numsP o.1 = numsP p) := by
 unfold exergueref10_pad
 refine Tot.join (Tot.bind (p := fun _ => True) ?_ (fun b _ => ?_))
 ·refine Tot.ite (fun _ => Tot.ret trivial) (fun _ => ?_)
  rw [at_eq2 h]; exact Tot.ret trivial
 ·refine Tot.ite (fun _ => Tot.ret ⟨h, fun _ => hi, rfl⟩) (fun _ => Tot.ret ?_)
  show Tot _ _
  rw [w64 (n := i + 1) (by omega) (by omega)]
  refine Tot.ite (fun _ => Tot.ret ⟨by simp only; omega, fun h => (by cases h), rfl⟩) (fun hh => ?_)
  have := dFF hh
  refine Tot.yes (inR_int (by omega) (by omega)) (Tot.ret ⟨?_, fun _ => ?_, rfl⟩)
  ·simp only; rw [w64 (by omega) (by omega)]; omega
  ·simp only; rw [w64 (by omega) (by omega)]; omega
theorem affix_tot {l : List Int} {i : Int} (hl : l.length ≤ 10000) (h : 0 ≤ i) (hi : i ≤ l.length) : Tot (exergueref10_affix l i) (fun o => 0 ≤ o.2.1 ∧ o.2.1 ≤ l.length) := by
 unfold exergueref10_affix
 refine Tot.join (Tot.loop (fun s : Int × List St33 => 0 ≤ s.1 ∧ s.1 ≤ (l.length : Int) ∧ (s.2.length : Int) ≤ s.1) (fun s => ((l.length : Int) - s.1).toNat) ⟨h, hi, by simpa using h⟩ (by simp only; omega) (fun s hs => ?_))
 refine Tot.ite (fun hh => ?_) (fun hh => Tot.ret (Tot.ret ⟨hs.1, hs.2.1⟩))
 have hlt := dTT hh
 refine Tot.yes (inR_int hs.1 hlt) (Tot.bind (sign_tot _) (fun y _ => Tot.bind (special_tot _) (fun y2 _ => ?_)))
 have e1 : IntKind.wrap .i64 (s.1 + 1) = s.1 + 1 := w64 (by omega) (by omega)
 rw [e1]
 refine Tot.ite (fun _ => Tot.yes (room_of (by simp; omega)) (Tot.ret ⟨⟨by simp only; omega, by simp only; omega, by simp; omega⟩, by simp only; omega⟩)) (fun _ => ?_)
 refine Tot.ite (fun _ => Tot.ite (fun _ => Tot.ret ⟨hs.1, hs.2.1⟩) (fun _ => Tot.yes (room_of (by simp; omega)) (Tot.ret ⟨⟨by simp only; omega, by simp only; omega, by simp; omega⟩, by simp only; omega⟩))) (fun _ => ?_)
 rw [at_eq2 (by omega)]
 show Tot (bif _ then _ else _) _
 refine Tot.ite (fun hq => ?_) (fun hq => ?_)
 ·have := at_in (dTT hq) (by omega)
  refine Tot.yes (room_of (by simp; omega)) (Tot.ret ?_)
  have e2 : IntKind.wrap .i64 (s.1 + 2) = s.1 + 2 := w64 (by omega) (by omega)
  rw [e2]
  exact ⟨⟨by simp only; omega, by simp only; omega, by simp; omega⟩, by simp only; omega⟩
 ·refine Tot.bind (p := fun o : Int × List St33 => s.1 + 1 ≤ o.1 ∧ o.1 ≤ (l.length : Int) ∧ (o.2.length : Int) ≤ o.1) ?_ (fun o ho => ?_)
  ·refine Tot.loop (fun t : Int × List St33 => s.1 + 1 ≤ t.1 ∧ t.1 ≤ (l.length : Int) ∧ (t.2.length : Int) ≤ t.1) (fun t => ((l.length : Int) - t.1).toNat) ⟨by simp only; omega, by simp only; omega, by simp only; omega⟩ (by simp only; omega) (fun t ht => ?_)
   have f1 : IntKind.wrap .i64 (t.1 + 1) = t.1 + 1 := w64 (by omega) (by omega)
   rw [f1]
   refine Tot.join (Tot.bind (p := fun b => b = true → t.1 < l.length ∧ (nth l t.1 = 39 → t.1 + 1 < l.length)) ?_ (fun b hb => ?_))
   ·refine Tot.ite (fun hh => ?_) (fun _ => Tot.ret (fun h => by cases h))
    have h3 := dTT hh
    refine Tot.yes (inR_int (by omega) h3) (Tot.ite (fun hn => Tot.ret (fun _ => ⟨h3, fun he => absurd he (dTT hn)⟩)) (fun _ => ?_))
    rw [at_eq2 (by omega)]
    exact Tot.ret (fun hb => ⟨h3, fun _ => at_in (dTT hb) (by omega)⟩)
   ·cases b with
    | false => exact Tot.ret ht
    | true =>
     obtain ⟨g1, g2⟩ := hb rfl
     refine Tot.ret (show Tot _ _ from ?_)
     refine Tot.yes (inR_int (by omega) g1) (Tot.yes (room_of (by simp; omega)) ?_)
     refine Tot.bind (p := fun v => t.1 ≤ v ∧ v < l.length) (Tot.yes (inR_int (by omega) g1) (Tot.ite (fun hh => Tot.ret ⟨by omega, g2 (dTT hh)⟩) (fun _ => Tot.ret ⟨by omega, g1⟩))) (fun v hv => Tot.ret ?_)
     have f2 : IntKind.wrap .i64 (v + 1) = v + 1 := w64 (by omega) (by omega)
     rw [f2]
     exact ⟨⟨by simp only; omega, by simp only; omega, by simp; omega⟩, by simp only; omega⟩
  ·refine Tot.ite (fun _ => Tot.ret ⟨hs.1, hs.2.1⟩) (fun hh => Tot.ret ?_)
   have h3 := dFF hh
   have f1 : IntKind.wrap .i64 (o.1 + 1) = o.1 + 1 := w64 (by omega) (by omega)
   rw [f1]
   exact ⟨⟨by simp only; omega, by simp only; omega, by simp only; omega⟩, by simp only; omega⟩
/-! Patterns that are read. -/
def atP (l : List Int) (i mi : Int) : Prop := atV l i = 48 ∨ (atV l i = 35 ∧ mi = 0)
theorem places_tot {p : St23} {l : List Int} {i : Int} (hl : l.length ≤ 10000) (h : 0 ≤ i) (hi : i ≤ l.length) (hp : p.Hash_ = 0 ∧ p.MinInt_ = 0 ∧ p.G1_ = 0 ∧ p.G2_ = 0) :
  Tot (exergueref10_places p l i) (fun o => 0 ≤ o.2.1 ∧ o.2.1 ≤ l.length ∧ (o.2.2 = true → 0 ≤ o.1.Hash_ ∧ 0 ≤ o.1.MinInt_ ∧ 0 < o.1.Hash_ + o.1.MinInt_ ∧ grpP (o.1.Hash_ + o.1.MinInt_) o.1.G1_ o.1.G2_) ∧ o.1.MinFrac_ = p.MinFrac_ ∧ o.1.MaxFrac_ = p.MaxFrac_ ∧ o.1.MinSig_ = p.MinSig_ ∧ o.1.MaxSig_ = p.MaxSig_ ∧ o.1.Exp_ = p.Exp_ ∧ o.1.ExpPlus_ = p.ExpPlus_) := by
 unfold exergueref10_places
 obtain ⟨p1, p2, p3, p4⟩ := hp
 refine Tot.loop (fun s : Int × Int × Int × Int × List Int => (0 ≤ s.1 ∧ s.1 ≤ (l.length : Int) ∧ (s.2.2.2.2.length : Int) ≤ s.1) ∧ 0 ≤ s.2.1 ∧ 0 ≤ s.2.2.1 ∧ 0 ≤ s.2.2.2.1 ∧ s.2.2.1 + s.2.2.2.1 ≤ s.1 ∧ (s.2.2.2.2.length = 0 → s.2.2.1 + s.2.2.2.1 = s.2.1) ∧ (s.2.2.2.2.length = 1 → s.2.1 < s.2.2.1 + s.2.2.2.1) ∧ (2 ≤ s.2.2.2.2.length → 1 ≤ nth s.2.2.2.2 1 ∧ s.2.1 + nth s.2.2.2.2 1 < s.2.2.1 + s.2.2.2.1) ∧ (s.2.2.2.2 ≠ [] → s.2.1 = 0 → atP l s.1 s.2.2.2.1))
  (fun s => ((l.length : Int) - s.1).toNat) ⟨⟨h, hi, by simpa using h⟩, by simp only; omega, by simp only; omega, by simp only; omega, by simp only; omega, fun _ => by simp only; omega, fun h => by simp at h, fun h => by simp at h, fun h => by simp at h⟩ (by simp only; omega) (fun s hs => ?_)
 obtain ⟨s1, n, ha, mi, gr⟩ := s
 obtain ⟨⟨q1, q2, q3⟩, q4, q5, q6, q7, q8, q9, q10, q11⟩ := hs
 simp only at q1 q2 q3 q4 q5 q6 q7 q8 q9 q10 q11 ⊢
 have e1 : IntKind.wrap .i64 (s1 + 1) = s1 + 1 := w64 (by omega) (by omega)
 rw [e1, at_eq2 q1, at_eq2 (l := l) (i := s1 + 1) (by omega)]
 show Tot (Option.bind _ _) _
 refine Tot.join (Tot.bind (p := fun b => b = decide (atV l s1 = 35 ∧ mi = 0)) ?_ (fun b hb => ?_))
 ·refine Tot.ite (fun hq => Tot.ret ?_) (fun hq => Tot.ret ?_)
  ·have := dTT hq; simp [this]
  ·have := dFF hq; simp [this]
 ·by_cases c1 : atV l s1 = 35 ∧ mi = 0
  ·rw [dT c1] at hb
   subst hb
   have hin := at_in c1.1 (by omega)
   have e2 : IntKind.wrap .i64 (n + 1) = n + 1 := w64 (by omega) (by omega)
   have e3 : IntKind.wrap .i64 (ha + 1) = ha + 1 := w64 (by omega) (by omega)
   rw [e2, e3]
   exact Tot.ret ⟨⟨⟨by simp only; omega, by simp only; omega, by simp only; omega⟩, by simp only; omega, by simp only; omega, by simp only; omega, by simp only; omega, fun g => by have := q8 g; simp only; omega, fun g => by have := q9 g; simp only; omega, fun g => by have := q10 g; exact ⟨this.1, by simp only; omega⟩, fun _ g => by simp only at g; omega⟩, by simp only; omega⟩
  ·rw [dF c1] at hb
   subst hb
   refine Tot.ret (show Tot _ _ from ?_)
   refine Tot.ite (fun hq => ?_) (fun hq0 => ?_)
   ·have := at_in (dTT hq) (by omega)
    have e2 : IntKind.wrap .i64 (n + 1) = n + 1 := w64 (by omega) (by omega)
    have e3 : IntKind.wrap .i64 (mi + 1) = mi + 1 := w64 (by omega) (by omega)
    rw [e2, e3]
    exact Tot.ret ⟨⟨⟨by simp only; omega, by simp only; omega, by simp only; omega⟩, by simp only; omega, by simp only; omega, by simp only; omega, by simp only; omega, fun g => by have := q8 g; simp only; omega, fun g => by have := q9 g; simp only; omega, fun g => by have := q10 g; exact ⟨this.1, by simp only; omega⟩, fun _ g => by simp only at g; omega⟩, by simp only; omega⟩
   ·have hq0 := dFF hq0
    have hnat : ¬ atP l s1 mi := fun h => h.elim hq0 c1
    refine Tot.join (Tot.bind (p := fun b => b = true → s1 < l.length ∧ 0 < n ∧ atP l (s1 + 1) mi) ?_ (fun b hb => ?_))
    ·refine Tot.ite (fun hq => ?_) (fun _ => Tot.ret (fun h => by cases h))
     have hin := at_in (dTT hq) (by omega)
     refine Tot.ite (fun hq1 => ?_) (fun _ => Tot.ret (fun h => by cases h))
     have hn := dTT hq1
     refine Tot.ite (fun hq2 => Tot.ret (fun _ => ⟨hin, hn, .inl (dTT hq2)⟩)) (fun _ => Tot.ite (fun hq2 => Tot.ret (fun h3 => ⟨hin, hn, .inr ⟨dTT hq2, dTT h3⟩⟩)) (fun _ => Tot.ret (fun h => by cases h)))
    ·cases b with
     | true =>
      obtain ⟨h2, h3, h4⟩ := hb rfl
      refine Tot.join (Tot.bind (p := fun b => b = false → 2 ≤ gr.length → nth gr 1 = n) ?_ (fun b hb => ?_))
      ·refine Tot.ite (fun hq => ?_) (fun hq => Tot.ret (fun _ g => absurd (show (gr.length : Int) ≥ 2 by omega) (dFF hq)))
       have hq := dTT hq
       exact Tot.yes (inR_int (by omega) (by omega)) (Tot.yes (inR_int (by omega) (by omega)) (Tot.ret (fun g _ => by have := dFF g; omega)))
      ·cases b with
       | true => exact Tot.ret ⟨q1, q2, fun h => (by cases h), rfl, rfl, rfl, rfl, rfl, rfl⟩
       | false =>
        have hb := hb rfl
        refine Tot.ret (show Tot _ _ from Tot.yes (room_of (by simp; omega)) (Tot.ret ?_))
        refine ⟨⟨⟨by simp only; omega, by simp only; omega, by simp; omega⟩, by simp only; omega, by simp only; omega, by simp only; omega, by simp only; omega, fun g => by simp at g, fun g => ?_, fun g => ?_, fun _ _ => h4⟩, by simp only; omega⟩
        ·simp at g
         have := q8 (by simp [g])
         simp only; omega
        ·simp only [List.length_append, List.length_cons, List.length_nil] at g
         by_cases g1 : gr.length = 1
         ·obtain ⟨x, rfl⟩ := List.length_eq_one_iff.1 g1
          have := q9 g1
          have e5 : nth ([x] ++ [n]) 1 = n := rfl
          simp only
          rw [e5]
          exact ⟨by omega, by omega⟩
         ·have g2 : 2 ≤ gr.length := by omega
          have e5 : nth (gr ++ [n]) 1 = nth gr 1 := by
           unfold nth
           simp only [List.getD_eq_getElem?_getD]
           rw [List.getElem?_append_left (by omega)]
          have := q10 g2
          simp only
          rw [e5]
          exact ⟨this.1, by omega⟩
     | false =>
      refine Tot.ret (show Tot _ _ from ?_)
      have e4 : IntKind.wrap .i64 (ha + mi) = ha + mi := w64 (by omega) (by omega)
      rw [e4]
      have hn0 : gr ≠ [] → 0 < n := fun g => by
       rcases Int.lt_or_le 0 n with h | h
       ·exact h
       ·exact absurd (q11 g (by omega)) hnat
      refine Tot.bind (p := fun y => y = if gr.length = 1 then (n, n) else (0, 0)) ?_ (fun y hy => Tot.bind (p := fun z => z = if 1 < gr.length then (n, nth gr 1) else y) ?_ (fun z hz => Tot.ret ⟨q1, q2, fun h => ⟨q5, q6, dTT h, ?_⟩, rfl, rfl, rfl, rfl, rfl, rfl⟩))
      ·refine Tot.ite (fun hq => Tot.ret ?_) (fun hq => Tot.ret ?_)
       ·have := dTT hq; rw [if_pos (by omega)]
       ·have := dFF hq; rw [if_neg (by omega), p3, p4]
      ·refine Tot.ite (fun hq => ?_) (fun hq => Tot.ret ?_)
       ·have hq := dTT hq
        refine Tot.yes (inR_int (by omega) (by omega)) (Tot.yes (inR_int (by omega) (by omega)) (Tot.ret ?_))
        rw [if_pos (by omega)]
       ·have := dFF hq; rw [if_neg (by omega)]
      ·subst hz; subst hy
       simp only
       unfold grpP
       by_cases g0 : gr = []
       ·subst g0
        exact .inl ⟨rfl, rfl⟩
       ·have g1 : 0 < gr.length := List.length_pos_iff.2 g0
        have := hn0 g0
        by_cases g2 : gr.length = 1
        ·rw [if_pos g2, if_neg (by omega)]
         have := q9 g2
         exact .inr ⟨by simp only; omega, by simp only; omega, by simp only; omega, fun _ => rfl⟩
        ·have g3 : 2 ≤ gr.length := by omega
         rw [if_pos (by omega)]
         have := q10 g3
         exact .inr ⟨by simp only; omega, by simp only; omega, by simp only; omega, fun h => by simp only at h; omega⟩
theorem number_tot {p : St23} {l : List Int} {i : Int} (hl : l.length ≤ 10000) (h : 0 ≤ i) (hi : i ≤ l.length) (hp : numsP p = zeroN) :
  Tot (exergueref10_number p l i) (fun o => 0 ≤ o.2.1 ∧ o.2.1 ≤ l.length ∧ (o.2.2 = true → canon (numsP o.1))) := by
 simp only [numsP, zeroN, Prod.mk.injEq] at hp
 obtain ⟨p1, p2, p3, p4, p5, p6, p7, p8, p9, p10⟩ := hp
 unfold exergueref10_number
 refine Tot.bind (many_tot hl h hi (by omega)) (fun n hn => ?_)
 have e1 : IntKind.wrap .i64 (i + n) = i + n := w64 (by omega) (by omega)
 rw [e1]
 refine Tot.join (Tot.mono (p := fun x => match x with
  | .inl s => (0 ≤ s.1 ∧ s.1 ≤ l.length) ∧ s.2.2.2.2.2.2.2.2.2.2.2.2.2.2.1 = 0 ∧ s.2.2.2.2.2.2.2.2.2.2.2.2.2.2.2.1 = false ∧ canon (s.2.2.2.2.2.2.1, s.2.2.2.2.2.2.2.1, s.2.2.2.2.2.2.2.2.1, s.2.2.2.2.2.2.2.2.2.1, s.2.2.2.2.2.2.2.2.2.2.1, s.2.2.2.2.2.2.2.2.2.2.2.1, s.2.2.2.2.2.2.2.2.2.2.2.2.1, s.2.2.2.2.2.2.2.2.2.2.2.2.2.1, 0, false)
  | .inr r => 0 ≤ r.2.1 ∧ r.2.1 ≤ l.length ∧ (r.2.2 = true → canon (numsP r.1))) ?_ (fun x hx => ?_))
 ·refine Tot.ite (fun hq => ?_) (fun hq => ?_)
  ·have hq := dTT hq
   refine Tot.bind (many_tot hl (i := i + n) (by omega) (by omega) (by omega)) (fun m hm => Tot.ret ?_)
   rw [w64 (n := i + n + m) (by omega) (by omega), w64 (n := n + m) (by omega) (by omega)]
   refine ⟨⟨by simp only; omega, by simp only; omega⟩, p9, p10, ?_⟩
   simp only [canon, p1, p2, p3, p4, p5, p6]
   exact ⟨by omega, by omega, by omega, by omega, by omega, by omega, by omega, fun _ => trivial, fun _ => by omega, fun _ => ⟨trivial, trivial, trivial, trivial⟩, .inl ⟨rfl, rfl⟩⟩
  ·have hq := dFF hq
   refine Tot.bind (places_tot hl h hi ⟨p1, p2, p5, p6⟩) (fun y hy => ?_)
   obtain ⟨y1, y2, y3, y4, y5, y6, y7, y8, y9⟩ := hy
   refine Tot.ite (fun _ => Tot.ret ⟨y1, y2, fun h => (by cases h)⟩) (fun hok => ?_)
   obtain ⟨z1, z2, z3, z4⟩ := y3 (by simpa using hok)
   rw [at_eq2 y1]
   show Tot (bif _ then _ else _) _
   refine Tot.ite (fun hq => ?_) (fun _ => Tot.ret ⟨⟨y1, y2⟩, by simp only [y8, p9], by simp only [y9, p10], ?_⟩)
   ·have hin := at_in (dTT hq) (by omega)
    have f1 : IntKind.wrap .i64 (y.2.1 + 1) = y.2.1 + 1 := w64 (by omega) (by omega)
    rw [f1]
    refine Tot.bind (many_tot hl (i := y.2.1 + 1) (by omega) (by omega) (by omega)) (fun a ha => ?_)
    have f2 : IntKind.wrap .i64 (y.2.1 + 1 + a) = y.2.1 + 1 + a := w64 (by omega) (by omega)
    rw [f2]
    refine Tot.bind (many_tot hl (i := y.2.1 + 1 + a) (by omega) (by omega) (by omega)) (fun b hb => ?_)
    have f3 : IntKind.wrap .i64 (y.2.1 + 1 + a + b) = y.2.1 + 1 + a + b := w64 (by omega) (by omega)
    have f4 : IntKind.wrap .i64 (a + b) = a + b := w64 (by omega) (by omega)
    rw [f3, f4]
    refine Tot.ite (fun _ => Tot.ret ⟨by simp only; omega, by simp only; omega, fun h => (by cases h)⟩) (fun _ => Tot.ret ⟨⟨by simp only; omega, by simp only; omega⟩, by simp only [y8, p9], by simp only [y9, p10], ?_⟩)
    simp only [canon, y6, y7, p7, p8]
    exact ⟨z1, z2, by omega, by omega, by omega, by omega, by omega, fun _ => trivial, fun _ => ⟨trivial, z3⟩, fun h => by omega, z4⟩
   ·simp only [canon, y4, y5, y6, y7, p3, p4, p7, p8]
    exact ⟨z1, z2, by omega, by omega, by omega, by omega, by omega, fun _ => trivial, fun _ => ⟨trivial, z3⟩, fun h => by omega, z4⟩
 ·cases x with
  | inr r => exact hx
  | inl s =>
   obtain ⟨⟨s1, s2⟩, s3, s4, s5⟩ := hx
   show Tot (Option.bind _ _) _
   rw [at_eq2 s1]
   show Tot (bif _ then _ else _) _
   refine Tot.ite (fun _ => Tot.ret ⟨s1, s2, fun _ => ?_⟩) (fun hq => ?_)
   ·simp only [numsP, s3, s4]; exact s5
   have hq : atV l s.1 = 69 := by have := dFF hq; omega
   have hin := at_in hq (by omega)
   have f1 : IntKind.wrap .i64 (s.1 + 1) = s.1 + 1 := w64 (by omega) (by omega)
   rw [f1, at_eq2 (by omega)]
   refine Tot.bind (p := fun t : Int × Bool => 0 ≤ t.1 ∧ t.1 ≤ (l.length : Int)) ?_ (fun t ht => ?_)
   ·show Tot (bif _ then _ else _) _
    refine Tot.ite (fun hq => ?_) (fun _ => Tot.ret ⟨by simp only; omega, by simp only; omega⟩)
    have := at_in (dTT hq) (by omega)
    rw [w64 (n := s.1 + 1 + 1) (by omega) (by omega)]
    exact Tot.ret ⟨by simp only; omega, by simp only; omega⟩
   ·refine Tot.bind (many_tot hl ht.1 ht.2 (by omega)) (fun n hn => Tot.ret ?_)
    rw [w64 (n := t.1 + n) (by omega) (by omega)]
    refine ⟨by simp only; omega, by simp only; omega, fun hex => ?_⟩
    have hex := dTT hex
    simp only [numsP, canon] at s5 ⊢
    obtain ⟨c1, c2, c3, c4, c5, c6, c7, c8, c9, c10, c11⟩ := s5
    exact ⟨c1, c2, c3, c4, c5, c6, by omega, fun h => by omega, c9, c10, c11⟩
theorem first_tot {l : List Int} (hl : l.length ≤ 10000) : Tot (exergueref10_first l) (fun o => o.2.2.2.2 = true → canon (numsP o.1) ∧ 0 ≤ o.2.1 ∧ o.2.2.1 ≤ l.length ∧ 0 ≤ o.2.2.2.1 ∧ o.2.2.2.1 ≤ l.length) := by
 unfold exergueref10_first
 refine Tot.bind (pad_tot hl (by omega) (by omega)) (fun a ha => Tot.ite (fun _ => Tot.ret (fun h => by cases h)) (fun h1 => ?_))
 have h1 : a.2.2 = true := by simpa using h1
 refine Tot.bind (affix_tot hl ha.1 (ha.2.1 h1)) (fun b hb => Tot.ite (fun _ => Tot.ret (fun h => by cases h)) (fun h2 => ?_))
 refine Tot.bind (pad_tot hl hb.1 hb.2) (fun c hc => Tot.ite (fun _ => Tot.ret (fun h => by cases h)) (fun h3 => ?_))
 have h3 : c.2.2 = true := by simpa using h3
 have hpc : numsP c.1 = zeroN := hc.2.2.trans ha.2.2
 refine Tot.bind (number_tot hl hc.1 (hc.2.1 h3) hpc) (fun d hd => Tot.ite (fun _ => Tot.ret (fun h => by cases h)) (fun h4 => ?_))
 have h4 : d.2.2 = true := by simpa using h4
 refine Tot.bind (pad_tot hl hd.1 hd.2.1) (fun e he => Tot.ite (fun _ => Tot.ret (fun h => by cases h)) (fun h5 => ?_))
 have h5 : e.2.2 = true := by simpa using h5
 refine Tot.bind (affix_tot hl he.1 (he.2.1 h5)) (fun f hf => Tot.ite (fun _ => Tot.ret (fun h => by cases h)) (fun h6 => ?_))
 refine Tot.bind (pad_tot hl hf.1 hf.2) (fun g hg => Tot.ret (fun h7 => ⟨?_, hc.1, hd.2.1, hg.1, hg.2.1 h7⟩))
 have hn : numsP g.1 = numsP d.1 := hg.2.2.trans he.2.2
 rw [hn]
 exact hd.2.2 h4
theorem affix_any {l : List Int} {i : Int} (hl : l.length ≤ 10000) (h : 0 ≤ i) : Tot (exergueref10_affix l i) (fun _ => True) := by
 by_cases hi : i ≤ l.length
 ·exact (affix_tot hl h hi).any
 ·unfold exergueref10_affix
  refine Tot.join (Tot.loop (fun s : Int × List St33 => (l.length : Int) < s.1) (fun _ => 0) (by simp only; omega) (by decide) (fun s hs => ?_))
  rw [dF (show ¬ s.1 < (l.length : Int) by omega)]
  exact Tot.ret (Tot.ret trivial)
theorem second_tot {p : St23} {l : List Int} {i a b : Int} (hl : l.length ≤ 10000) (h : 0 ≤ i) (hi : i ≤ l.length) (ha : 0 ≤ a) (hb : b ≤ l.length) :
  Tot (exergueref10_second p l i a b) (fun o => numsP o.1 = numsP p) := by
 unfold exergueref10_second
 refine Tot.bind (affix_tot hl h hi) (fun c hc => Tot.ite (fun _ => Tot.ret rfl) (fun _ => ?_))
 refine Tot.join (Tot.mono (p := fun x => match x with | .inl s => 0 ≤ s | .inr r => numsP r.1 = numsP p) ?_ (fun x hx => ?_))
 ·refine Tot.loop (fun s : Int × Int => 0 ≤ s.1 ∧ s.1 ≤ (l.length : Int) + s.2 ∧ 0 ≤ s.2) (fun s => (b - s.2).toNat) ⟨hc.1, by simp only; omega, ha⟩ (by simp only; omega) (fun s hs => ?_)
  refine Tot.ite (fun hh => ?_) (fun _ => Tot.ret hs.1)
  have hh := dTT hh
  rw [at_eq2 hs.1]
  show Tot (bif _ then _ else _) _
  refine Tot.yes (inR_int hs.2.2 (by omega)) (Tot.ite (fun _ => Tot.ret rfl) (fun hq => Tot.ret ?_))
  have e1 : IntKind.wrap .i64 (s.1 + 1) = s.1 + 1 := w64 (by omega) (by omega)
  have e2 : IntKind.wrap .i64 (s.2 + 1) = s.2 + 1 := w64 (by omega) (by omega)
  rw [e1, e2]
  exact ⟨⟨by simp only; omega, by simp only; omega, by simp only; omega⟩, by simp only; omega⟩
 ·cases x with
  | inr r => exact hx
  | inl s =>
   show Tot _ _
   exact Tot.bind (affix_any hl hx) (fun d hd => Tot.ret rfl)
/-! Texts of patterns, read: there is an answer. -/
theorem tails_tot {b : List Int} {at' k n : Int} (hl : b.length ≤ 100000) (h : 0 ≤ at') (ha : at' ≤ b.length) (hk : 0 ≤ k) (hk2 : k ≤ 3) : Tot (exergueref01_tails b at' k n) (fun _ => True) := by
 unfold exergueref01_tails
 rw [w64 (n := at' + k) (by omega) (by omega)]
 refine Tot.ite (fun _ => Tot.ret trivial) (fun hh => ?_)
 have hh := dFF hh
 refine Tot.join (Tot.loop (fun s : Int × Int => 1 ≤ s.2 ∧ s.2 ≤ k + 1) (fun s => (k + 1 - s.2).toNat) ⟨by simp only; omega, by simp only; omega⟩ (by simp only; omega) (fun s hs => ?_))
 refine Tot.ite (fun hq => ?_) (fun _ => Tot.ret (Tot.ret trivial))
 have hq := dTT hq
 have e1 : IntKind.wrap .i64 (at' + s.2) = at' + s.2 := w64 (by omega) (by omega)
 have e2 : IntKind.wrap .i64 (s.2 + 1) = s.2 + 1 := w64 (by omega) (by omega)
 rw [e1, e2]
 refine Tot.join (Tot.yes (inR_int (by omega) (by omega)) ?_)
 refine Tot.join (Tot.bind (p := fun _ => True) ?_ (fun c _ => ?_))
 ·exact Tot.ite (fun _ => Tot.ret trivial) (fun _ => Tot.ret trivial)
 ·cases c with
  | true => exact Tot.ret trivial
  | false => exact Tot.ret (Tot.ret (Tot.ret ⟨⟨by simp only; omega, by simp only; omega⟩, by simp only; omega⟩))
theorem one_tot {b : List Int} {at' : Int} (hl : b.length ≤ 100000) (h : 0 ≤ at') (ha : at' < b.length) : Tot (exergueref01_one b at') (fun n => n < 0 ∨ exergueref01_Is (IntKind.wrap .i32 n) = some true) := by
 unfold exergueref01_one
 refine Tot.yes (inR_int h ha) ?_
 have ht : ∀ k n, 0 ≤ k → k ≤ 3 → Tot (exergueref01_tails b at' k n) (fun _ => True) := fun k n h1 h2 => tails_tot hl h (by omega) h1 h2
 refine Tot.bind (p := fun _ => True) (Tot.ite (fun _ => Tot.ret trivial) (fun _ => Tot.ret trivial)) (fun a _ => ?_)
 refine Tot.bind (p := fun _ => True) ?_ (fun a _ => Tot.bind (p := fun _ => True) ?_ (fun a _ => Tot.bind (p := fun _ => True) ?_ (fun a _ => ?_)))
 ·refine Tot.bind (p := fun _ => True) (Tot.ite (fun _ => Tot.ret trivial) (fun _ => Tot.ret trivial)) (fun _ _ => Tot.ite (fun _ => Tot.bind (ht 1 _ (by omega) (by omega)) (fun _ _ => Tot.ret trivial)) (fun _ => Tot.ret trivial))
 ·refine Tot.bind (p := fun _ => True) (Tot.ite (fun _ => Tot.ret trivial) (fun _ => Tot.ret trivial)) (fun _ _ => Tot.ite (fun _ => Tot.bind (ht 2 _ (by omega) (by omega)) (fun _ _ => Tot.ret trivial)) (fun _ => Tot.ret trivial))
 ·refine Tot.bind (p := fun _ => True) (Tot.ite (fun _ => Tot.ret trivial) (fun _ => Tot.ret trivial)) (fun _ _ => Tot.ite (fun _ => Tot.bind (ht 3 _ (by omega) (by omega)) (fun _ _ => Tot.ret trivial)) (fun _ => Tot.ret trivial))
 ·obtain ⟨v, hv, _⟩ := is_tot (IntKind.wrap .i32 a.1)
  rw [hv]
  show Tot (Option.bind _ _) _
  refine Tot.join (Tot.bind (p := fun c => c = false → v = true) (Tot.ite (fun _ => Tot.ret (fun h => by cases h)) (fun _ => Tot.ret (fun h => by simpa using h))) (fun c hc => ?_))
  cases c with
  | true => exact Tot.ret (.inl (by decide))
  | false => exact Tot.ret (Tot.ret (.inr (by rw [hv, hc rfl])))
theorem decode_tot {b : List Int} (hl : b.length ≤ 100000) : Tot (exergueref01_Decode b) (fun _ => True) := by
 unfold exergueref01_Decode
 refine Tot.join (Tot.loop (fun s : Int × List Int => 0 ≤ s.1 ∧ s.1 ≤ (b.length : Int) + 4 ∧ (s.2.length : Int) ≤ s.1) (fun s => ((b.length : Int) + 4 - s.1).toNat) ⟨by simp only; omega, by simp only; omega, by simp⟩ (by simp only; omega) (fun s hs => ?_))
 refine Tot.ite (fun hq => ?_) (fun _ => Tot.ret (Tot.ret trivial))
 have hq := dTT hq
 refine Tot.bind (one_tot hl hs.1 hq) (fun n hn => Tot.ite (fun _ => Tot.ret trivial) (fun hneg => ?_))
 have hneg := dFF hneg
 have his := hn.resolve_left hneg
 refine Tot.yes (room_of (by simp; omega)) (Tot.bind (size_tot _) (fun z hz => Tot.ret ?_))
 have h1 := hz.2.2 his
 have e1 : IntKind.wrap .i64 (s.1 + z) = s.1 + z := w64 (by omega) (by omega)
 rw [e1]
 exact ⟨⟨by simp only; omega, by simp only; omega, by simp; omega⟩, by simp only; omega⟩
theorem times_tot {t : List UInt8} {n : Int} (ht : t.length ≤ 1) (hn : n ≤ 1000) : Tot (exergueref10_times t n) (fun l => l.length ≤ 1000) := by
 unfold exergueref10_times
 refine Tot.bind (p := fun l => l.length ≤ 1000) ?_ (fun _ h => Tot.ret h)
 refine Tot.loop (fun s : List UInt8 × Int => 0 ≤ s.2 ∧ s.2 ≤ 1000 ∧ (s.1.length : Int) ≤ s.2) (fun s => (1000 - s.2).toNat) ⟨by simp only; omega, by simp only; omega, by simp⟩ (by simp only; omega) (fun s hs => ?_)
 refine Tot.ite (fun hq => ?_) (fun _ => Tot.ret (by simp only; omega))
 have hq := dTT hq
 refine Tot.yes (room_of (by omega)) (Tot.ret ?_)
 have e1 : IntKind.wrap .i64 (s.2 + 1) = s.2 + 1 := w64 (by omega) (by omega)
 rw [e1]
 exact ⟨⟨by simp only; omega, by simp only; omega, by simp; omega⟩, by simp only; omega⟩
def cntP (p : St23) : Prop := (0 ≤ p.Hash_ ∧ p.Hash_ ≤ 40) ∧ (0 ≤ p.MinInt_ ∧ p.MinInt_ ≤ 40) ∧ (0 ≤ p.MinFrac_ ∧ p.MinFrac_ ≤ 40) ∧ (0 ≤ p.MaxFrac_ ∧ p.MaxFrac_ ≤ 40) ∧ (0 ≤ p.G1_ ∧ p.G1_ ≤ 40) ∧ (0 ≤ p.G2_ ∧ p.G2_ ≤ 40) ∧ (0 ≤ p.MinSig_ ∧ p.MinSig_ ≤ 40) ∧ (0 ≤ p.MaxSig_ ∧ p.MaxSig_ ≤ 40) ∧ (0 ≤ p.Exp_ ∧ p.Exp_ ≤ 40)
theorem number_text {p : St23} (hp : cntP p) : Tot (exergueref10_Number p) (fun l => l.length ≤ 8000) := by
 obtain ⟨c1, c2, c3, c4, c5, c6, c7, c8, c9⟩ := hp
 unfold exergueref10_Number
 have e0 : IntKind.wrap .i64 (p.Hash_ + p.MinInt_) = p.Hash_ + p.MinInt_ := w64 (by omega) (by omega)
 have e1 : IntKind.wrap .i64 (p.MaxSig_ - p.MinSig_) = p.MaxSig_ - p.MinSig_ := w64 (by omega) (by omega)
 have e2 : IntKind.wrap .i64 (p.MaxFrac_ - p.MinFrac_) = p.MaxFrac_ - p.MinFrac_ := w64 (by omega) (by omega)
 rw [e0, e1, e2]
 refine Tot.bind (p := fun l => l.length ≤ 200) ?_ (fun a ha => ?_)
 ·refine Tot.loop (fun s : List UInt8 × Int => 0 ≤ s.2 ∧ s.2 ≤ 80 ∧ (s.1.length : Int) ≤ 2 * s.2) (fun s => (80 - s.2).toNat) ⟨by simp only; omega, by simp only; omega, by simp⟩ (by simp only; omega) (fun s hs => ?_)
  refine Tot.ite (fun hq => ?_) (fun _ => Tot.ret (by simp only; omega))
  have hq := dTT hq
  have f1 : IntKind.wrap .i64 (s.2 + 1) = s.2 + 1 := w64 (by omega) (by omega)
  rw [f1]
  refine Tot.bind (p := fun l => (l.length : Int) ≤ s.1.length + 2) ?_ (fun b hb => Tot.ret ⟨⟨by simp only; omega, by simp only; omega, by simp only; omega⟩, by simp only; omega⟩)
  refine Tot.bind (p := fun l => (l.length : Int) ≤ s.1.length + 1) ?_ (fun b hb => ?_)
  ·refine Tot.bind (p := fun _ => True) ?_ (fun g _ => Tot.ite (fun _ => Tot.yes (room_of (by simp; omega)) (Tot.ret (by simp))) (fun _ => Tot.ret (by omega)))
   refine Tot.ite (fun _ => Tot.ite (fun _ => Tot.ret trivial) (fun _ => Tot.ite (fun _ => Tot.ite (fun hg => ?_) (fun _ => Tot.ret trivial)) (fun _ => Tot.ret trivial))) (fun _ => Tot.ret trivial)
   have hg := dTT hg
   exact Tot.yes (by unfold nz; rw [dF (by omega)]; rfl) (Tot.ret trivial)
  ·exact Tot.ite (fun _ => Tot.yes (room_of (by simp; omega)) (Tot.ret (by simp; omega))) (fun _ => Tot.yes (room_of (by simp; omega)) (Tot.ret (by simp; omega)))
 ·refine Tot.bind (times_tot (by simp) (by omega)) (fun b hb => Tot.bind (times_tot (by simp) (by omega)) (fun c hc => ?_))
  refine Tot.yes (room_of (by omega)) (Tot.yes (room_of (by simp; omega)) ?_)
  refine Tot.bind (p := fun l => l.length ≤ 5000) ?_ (fun d hd => ?_)
  ·refine Tot.ite (fun _ => Tot.yes (room_of (by simp; omega)) (Tot.bind (times_tot (by simp) (by omega)) (fun e he => Tot.yes (room_of (by simp; omega)) (Tot.bind (times_tot (by simp) (by omega)) (fun f hf => Tot.yes (room_of (by simp; omega)) (Tot.ret (by simp; omega))))))) (fun _ => Tot.ret (by simp; omega))
  ·refine Tot.bind (p := fun l => l.length ≤ 8000) ?_ (fun d hd => Tot.ret hd)
   refine Tot.ite (fun _ => Tot.yes (room_of (by simp; omega)) (Tot.bind (p := fun l => l.length ≤ 5002) ?_ (fun e he => Tot.bind (times_tot (by simp) (by omega)) (fun f hf => Tot.yes (room_of (by omega)) (Tot.ret (by simp; omega)))))) (fun _ => Tot.ret (by omega))
   exact Tot.ite (fun _ => Tot.yes (room_of (by simp; omega)) (Tot.ret (by simp; omega))) (fun _ => Tot.ret (by simp; omega))
theorem written_tot {l : List St33} (hl : l.length ≤ 300) : Tot (exergueref10_written l) (fun t => t.length ≤ 3000) := by
 unfold exergueref10_written
 refine Tot.bind (p := fun s => s.1.length ≤ 2999) ?_ (fun s hs => Tot.bind (p := fun t => t.length ≤ 3000) (Tot.ite (fun _ => Tot.yes (room_of (by simp; omega)) (Tot.ret (by simp; omega))) (fun _ => Tot.ret (by omega))) (fun _ h => Tot.ret h))
 refine Tot.loop (fun s : List UInt8 × Bool × Int => 0 ≤ s.2.2 ∧ s.2.2 ≤ (l.length : Int) ∧ (s.1.length : Int) ≤ 8 * s.2.2) (fun s => ((l.length : Int) - s.2.2).toNat) ⟨by simp only; omega, by simp only; omega, by simp⟩ (by simp only; omega) (fun s hs => ?_)
 refine Tot.ite (fun hq => ?_) (fun _ => Tot.ret (by simp only; omega))
 have hq := dTT hq
 have hin := inR_int hs.1 hq
 have f1 : IntKind.wrap .i64 (s.2.2 + 1) = s.2.2 + 1 := w64 (by omega) (by omega)
 rw [f1]
 refine Tot.bind (p := fun t => (t.1.length : Int) ≤ s.1.length + 8) ?_ (fun t ht => Tot.ret ⟨⟨by simp only; omega, by simp only; omega, by simp only; omega⟩, by simp only; omega⟩)
 refine Tot.yes hin (Tot.bind (special_tot _) (fun sp _ => Tot.bind (p := fun _ => True) ?_ (fun ap _ => Tot.bind (p := fun _ => True) ?_ (fun qu _ => Tot.bind (p := fun t => (t.1.length : Int) ≤ s.1.length + 1) ?_ (fun t ht => ?_)))))
 ·exact Tot.yes hin (Tot.ite (fun _ => Tot.yes hin (Tot.ret trivial)) (fun _ => Tot.ret trivial))
 ·exact Tot.yes hin (Tot.ite (fun _ => Tot.ret trivial) (fun _ => Tot.ret trivial))
 ·exact Tot.bind (p := fun _ => True) (Tot.ite (fun _ => Tot.ret trivial) (fun _ => Tot.ret trivial)) (fun _ _ => Tot.ite (fun _ => Tot.yes (room_of (by simp; omega)) (Tot.ret (by simp))) (fun _ => Tot.ret (by simp only; omega)))
 ·have sgn : ∀ c : UInt8, Tot (bif room (t.1.length + ([c] : List UInt8).length) then (some ((t.1 ++ ([c] : List UInt8)), t.2)) else none) (fun u => (u.1.length : Int) ≤ s.1.length + 8) := fun c => Tot.yes (room_of (by simp; omega)) (Tot.ret (by simp; omega))
  refine Tot.yes hin (Tot.ite (fun _ => Tot.yes hin (Tot.bind (text_tot _) (fun x hx => Tot.yes (room_of (by omega)) (Tot.ite (fun _ => Tot.yes (room_of (by simp; omega)) (Tot.ret (by simp; omega))) (fun _ => Tot.ret (by simp; omega)))))) (fun _ => Tot.ite (fun _ => sgn _) (fun _ => Tot.ite (fun _ => sgn _) (fun _ => Tot.ite (fun _ => sgn _) (fun _ => Tot.ite (fun _ => ?_) (fun _ => Tot.ret (by simp only; omega)))))))
  exact Tot.bind (text_tot _) (fun x hx => Tot.yes (room_of (by omega)) (Tot.ret (by simp; omega)))
theorem padded_tot (p : St23) (w : Int) : Tot (exergueref10_padded p w) (fun t => t.length ≤ 5) := by
 unfold exergueref10_padded
 exact Tot.ite (fun _ => Tot.bind (text_tot _) (fun x hx => Tot.yes (room_of (by simp; omega)) (Tot.ret (by simp; omega)))) (fun _ => Tot.ret (by simp))
theorem ptext_tot {p : St23} (hp : cntP p) (h1 : p.Pre_.length ≤ 300) (h2 : p.Suf_.length ≤ 300) (h3 : p.NPre_.length ≤ 300) (h4 : p.NSuf_.length ≤ 300) : Tot (exergueref10_Text p) (fun t => t.length ≤ 50000) := by
 unfold exergueref10_Text
 refine Tot.bind (padded_tot p 1) (fun a ha => Tot.bind (written_tot h1) (fun b hb => Tot.yes (room_of (by omega)) ?_))
 refine Tot.bind (padded_tot p 2) (fun c hc => Tot.yes (room_of (by simp; omega)) (Tot.bind (number_text hp) (fun d hd => Tot.yes (room_of (by simp; omega)) ?_)))
 refine Tot.bind (padded_tot p 3) (fun e he => Tot.yes (room_of (by simp; omega)) (Tot.bind (written_tot h2) (fun f hf => Tot.yes (room_of (by simp; omega)) ?_)))
 refine Tot.bind (padded_tot p 4) (fun g hg => Tot.yes (room_of (by simp; omega)) ?_)
 refine Tot.bind (p := fun t => t.length ≤ 50000) ?_ (fun _ h => Tot.ret h)
 refine Tot.ite (fun _ => ?_) (fun _ => Tot.ret (by simp; omega))
 refine Tot.yes (room_of (by simp; omega)) (Tot.bind (written_tot h3) (fun i hi => Tot.yes (room_of (by simp; omega)) (Tot.bind (number_text hp) (fun j hj => Tot.yes (room_of (by simp; omega)) (Tot.bind (written_tot h4) (fun k hk => Tot.yes (room_of (by simp; omega)) (Tot.ret (by simp; omega))))))))
theorem parse_tot {t : List UInt8} (ht : t.length ≤ 100000) : Tot (exergueref10_Parse t) (fun o => o.2.2 = 0 → canon (numsP o.1)) := by
 unfold exergueref10_Parse
 refine Tot.bind (decode_tot (by rw [bytesI_len]; exact ht)) (fun d _ => Tot.ite (fun _ => Tot.ret (fun h => by cases h)) (fun _ => Tot.ite (fun _ => Tot.ret (fun h => by cases h)) (fun h1 => ?_)))
 have h1 := dFF h1
 have hl : d.1.length ≤ 10000 := by omega
 refine Tot.bind (first_tot hl) (fun f hf => ?_)
 refine Tot.bind (p := fun s => s.2.1 = true → canon (s.2.2.2.2.2.2.2.1, s.2.2.2.2.2.2.2.2.1, s.2.2.2.2.2.2.2.2.2.1, s.2.2.2.2.2.2.2.2.2.2.1, s.2.2.2.2.2.2.2.2.2.2.2.1, s.2.2.2.2.2.2.2.2.2.2.2.2.1, s.2.2.2.2.2.2.2.2.2.2.2.2.2.1, s.2.2.2.2.2.2.2.2.2.2.2.2.2.2.1, s.2.2.2.2.2.2.2.2.2.2.2.2.2.2.2.1, s.2.2.2.2.2.2.2.2.2.2.2.2.2.2.2.2.1)) ?_ (fun s hs => ?_)
 ·refine Tot.bind (p := fun b => b = true → f.2.2.2.2 = true ∧ f.2.2.2.1 < d.1.length) ?_ (fun b hb => ?_)
  ·refine Tot.ite (fun hq => ?_) (fun _ => Tot.ret (fun h => by cases h))
   rw [at_eq2 (hf hq).2.2.2.1]
   exact Tot.ret (fun h => ⟨hq, at_in (dTT h) (by omega)⟩)
  ·refine Tot.ite (fun hq => ?_) (fun _ => Tot.ret (fun h => (hf h).1))
   obtain ⟨g1, g2⟩ := hb hq
   have g := hf g1
   have f1 : IntKind.wrap .i64 (f.2.2.2.1 + 1) = f.2.2.2.1 + 1 := w64 (by omega) (by omega)
   rw [f1]
   exact Tot.bind (second_tot hl (by omega) (by omega) g.2.1 g.2.2.1) (fun o ho => Tot.ret (fun _ => by have g0 := g.1; rw [← ho] at g0; exact g0))
 ·refine Tot.join (Tot.bind (p := fun b => b = false → s.2.1 = true) (Tot.ite (fun _ => Tot.ret (fun h => by cases h)) (fun h => Tot.ret (fun _ => by simpa using h))) (fun b hb => ?_))
  cases b with
  | true => exact Tot.ret (fun h => by cases h)
  | false =>
   have hs := hs (hb rfl)
   refine Tot.ret (show Tot _ _ from Tot.join (Tot.bind (p := fun _ => True) ?_ (fun b _ => ?_)))
   ·repeat' (first | exact Tot.ret trivial | refine Tot.ite (fun _ => ?_) (fun _ => ?_))
   ·cases b with
    | true => exact Tot.ret (fun h => by cases h)
    | false => exact Tot.ret (Tot.ret (fun _ => hs))
theorem toks_eq {x y : List St33} (hl : x.length ≤ 4611686018427387904) : exergueref10_Toks x y = some (decide (x = y)) := tok_eq hl
theorem rsame_eq {a b : St23} (hl : lens a) : exergueref10_Same a b = some (decide (a = b)) := by
 obtain ⟨l1, l2, l3, l4⟩ := hl
 unfold exergueref10_Same
 rw [toks_eq l1, toks_eq l2, toks_eq l3, toks_eq l4]
 simp only [Option.bind_some]
 obtain ⟨p1, p2, p3, p4, p5, p6, p7, p8, p9, p10, p11, p12, p13, p14, p15, p16, p17⟩ := a
 obtain ⟨q1, q2, q3, q4, q5, q6, q7, q8, q9, q10, q11, q12, q13, q14, q15, q16, q17⟩ := b
 simp only [St23.mk.injEq]
 by_cases h1 : p1 = q1
 ·by_cases h2 : p2 = q2
  ·by_cases h3 : p3 = q3
   ·by_cases h4 : p4 = q4
    ·by_cases h16 : p16 = q16
     ·by_cases h17 : p17 = q17
      ·by_cases h6 : p6 = q6 <;> by_cases h7 : p7 = q7 <;> by_cases h10 : p10 = q10 <;> by_cases h11 : p11 = q11 <;> cases p5 <;> cases q5 <;> cases p15 <;> cases q15 <;> simp [h1, h2, h3, h4, h6, h7, h10, h11, h16, h17, joinX] <;> (by_cases h8 : p8 = q8 <;> by_cases h9 : p9 = q9 <;> by_cases h12 : p12 = q12 <;> by_cases h13 : p13 = q13 <;> simp [h8, h9, h12, h13])
      ·cases p5 <;> cases q5 <;> simp [h1, h2, h3, h4, h16, h17, joinX]
     ·cases p5 <;> cases q5 <;> simp [h1, h2, h3, h4, h16, joinX]
    ·simp [h1, h2, h3, h4, joinX]
   ·simp [h1, h2, h3, joinX]
  ·by_cases h3 : p3 = q3 <;> simp [h1, h2, h3, joinX]
 ·by_cases h3 : p3 = q3 <;> simp [h1, h3, joinX]
theorem runes_tot {l : List St33} (hl : l.length ≤ 1000) : Tot (exergueref10_runes l) (fun _ => True) := by
 unfold exergueref10_runes
 refine Tot.join (Tot.loop (fun s : Int => 0 ≤ s ∧ s ≤ (l.length : Int)) (fun s => ((l.length : Int) - s).toNat) ⟨by omega, by omega⟩ (by omega) (fun s hs => ?_))
 refine Tot.ite (fun hq => ?_) (fun _ => Tot.ret (Tot.ret trivial))
 have hq := dTT hq
 have f1 : IntKind.wrap .i64 (s + 1) = s + 1 := w64 (by omega) (by omega)
 rw [f1]
 exact Tot.yes (inR_int hs.1 hq) (Tot.bind (is_tot _) (fun _ _ => Tot.ite (fun _ => Tot.ret trivial) (fun _ => Tot.ret ⟨⟨by omega, by omega⟩, by omega⟩)))
def rightR (p : St23) : Prop := cntP p ∧ canon (numsP p) ∧ ∃ t i, exergueref10_Text p = some t ∧ exergueref10_Parse t = some (p, i, 0)
theorem pright_tot {p : St23} (h1 : p.Pre_.length ≤ 300) (h2 : p.Suf_.length ≤ 300) (h3 : p.NPre_.length ≤ 300) (h4 : p.NSuf_.length ≤ 300) : Tot (exergueref10_Right p) (fun b => b = true → rightR p) := by
 unfold exergueref10_Right
 generalize hL : ([p.Hash_, p.MinInt_, p.MinFrac_, p.MaxFrac_, p.G1_, p.G2_, p.MinSig_, p.MaxSig_, p.Exp_] : List Int) = L
 have hlen : L.length = 9 := by rw [← hL]; rfl
 refine Tot.join (Tot.loop (fun s : Int => 0 ≤ s ∧ s ≤ (L.length : Int) ∧ ∀ j : Nat, (j : Int) < s → 0 ≤ nth L j ∧ nth L j ≤ 40) (fun s => ((L.length : Int) - s).toNat) ⟨by omega, by omega, fun j hj => by omega⟩ (by omega) (fun s hs => ?_))
 refine Tot.ite (fun hq => ?_) (fun hq => Tot.ret (show Tot _ _ from ?_))
 ·have hq := dTT hq
  have hin := inR_int hs.1 hq
  refine Tot.join (Tot.bind (p := fun b => b = false → 0 ≤ nth L s ∧ nth L s ≤ 40) ?_ (fun b hb => ?_))
  ·refine Tot.yes hin (Tot.yes hin (Tot.ite (fun _ => Tot.ret (fun h => by cases h)) (fun g1 => Tot.yes hin (Tot.yes hin (Tot.ret (fun g2 => ?_))))))
   have g1 := dFF g1
   have g2 := dFF g2
   omega
  ·cases b with
   | true => exact Tot.ret (fun h => by cases h)
   | false =>
    have hb := hb rfl
    refine Tot.ret (show Tot _ _ from Tot.ret ?_)
    have f1 : IntKind.wrap .i64 (s + 1) = s + 1 := w64 (by omega) (by omega)
    rw [f1]
    refine ⟨⟨by omega, by omega, fun j hj => ?_⟩, by omega⟩
    by_cases hjs : (j : Int) < s
    ·exact hs.2.2 j hjs
    ·have : (j : Int) = s := by omega
     rw [this]; exact hb
 ·have hq := dFF hq
  have hall := hs.2.2
  have hs9 : s = 9 := by omega
  subst hs9
  subst hL
  have hc : cntP p := ⟨hall 0 (by omega), hall 1 (by omega), hall 2 (by omega), hall 3 (by omega), hall 4 (by omega), hall 5 (by omega), hall 6 (by omega), hall 7 (by omega), hall 8 (by omega)⟩
  have r1 := runes_tot (l := p.Pre_) (by omega)
  have r2 := runes_tot (l := p.Suf_) (by omega)
  have r3 := runes_tot (l := p.NPre_) (by omega)
  have r4 := runes_tot (l := p.NSuf_) (by omega)
  refine Tot.bind (is_tot _) (fun _ _ => ?_)
  refine Tot.bind (p := fun _ => True) (Tot.bind r1 (fun _ _ => Tot.ite (fun _ => Tot.bind r2 (fun _ _ => Tot.ret trivial)) (fun _ => Tot.ret trivial))) (fun _ _ => ?_)
  refine Tot.bind (p := fun _ => True) (Tot.bind r3 (fun _ _ => Tot.ite (fun _ => Tot.bind r4 (fun _ _ => Tot.ret trivial)) (fun _ => Tot.ret trivial))) (fun _ _ => ?_)
  refine Tot.join (Tot.bind (p := fun _ => True) ?_ (fun b _ => ?_))
  ·repeat' (first | exact Tot.ret trivial | refine Tot.ite (fun _ => ?_) (fun _ => ?_))
  ·cases b with
   | true => exact Tot.ret (fun h => by cases h)
   | false =>
    obtain ⟨t, ht, htl⟩ := ptext_tot hc h1 h2 h3 h4
    rw [ht]
    obtain ⟨o, ho, hoc⟩ := parse_tot (t := t) (by omega)
    refine Tot.ret (show Tot _ _ from ?_)
    show Tot (Option.bind (exergueref10_Parse t) _) _
    rw [ho]
    show Tot (Option.bind _ _) _
    refine Tot.bind (p := fun b => b = true → rightR p) (Tot.ite (fun g => ?_) (fun _ => Tot.ret (fun h => by cases h))) (fun _ h => Tot.ret h)
    rw [rsame_eq ⟨by omega, by omega, by omega, by omega⟩]
    refine Tot.ret (fun e => ?_)
    have e := dTT e
    have g2 := dTT g
    obtain ⟨o1, o2, o3⟩ := o
    simp only at e g2
    subst e; subst g2
    exact ⟨hc, hoc rfl, t, o2, ht, ho⟩
/-! The text of a number. -/
theorem rune_ascii {c : Int} (h0 : 0 ≤ c) (h1 : c < 128) : (Utf8.encode c).data.toList = [UInt8.ofNat c.toNat] := by
 have hv : Utf8.valid c = true := by
  unfold Utf8.valid
  simp only [Bool.or_eq_true, Bool.and_eq_true, decide_eq_true_eq]
  exact .inl ⟨h0, by omega⟩
 unfold Utf8.encode
 simp only [hv, if_true]
 rw [if_pos (by omega)]
def asc (l : List Int) : Prop := ∀ c ∈ l, 0 ≤ c ∧ c < 128
theorem runes_ascii : ∀ {l : List Int}, asc l → runesS l = bytesS l
 | [], _ => rfl
 | c :: l, h => by
  have h1 := h c (List.mem_cons_self ..)
  have ih := runes_ascii (l := l) (fun x hx => h x (List.mem_cons_of_mem _ hx))
  unfold runesS bytesS at *
  rw [List.flatMap_cons, ih, rune_ascii h1.1 h1.2]; rfl
theorem some_eq {n : Int} (h0 : 0 ≤ n) (h1 : n ≤ 121) : pat_some n = some n := by
 unfold pat_some maxI minI
 congr 1
 repeat' split
 all_goals omega
theorem repeat_eq {out : List Int} {c n : Int} (h0 : 0 ≤ n) (h1 : n ≤ 121) (ho : out.length ≤ 1000000) : pat_repeat out c n = some (out ++ List.replicate n.toNat c) := by
 unfold pat_repeat
 rw [some_eq h0 h1]
 simp only [Option.bind_some]
 obtain ⟨m, rfl⟩ : ∃ m : Nat, n = m := ⟨n.toNat, by omega⟩
 have hm : m ≤ 121 := by omega
 obtain ⟨o, h2, h3⟩ := loop_count (step := fun (s33 : Int × (List Int)) => (bif (decide (s33.1 < (m : Int))) then (bif room (s33.2.length + ([c] : List Int).length) then (some (.inl ((IntKind.wrap .i64 (s33.1 + 1)), (s33.2 ++ ([c] : List Int))))) else none) else (some (.inr s33.2)))) m (fun i => ((i : Int), out ++ List.replicate i c)) (fun _ => True) (fun o => o = out ++ List.replicate m c) (s0 := (0, out)) (by simp) trivial (fun i hi _ => by
  left
  refine ⟨?_, trivial⟩
  simp only
  rw [dT (by omega), room_of (by simp; omega), w64 (by omega) (by omega)]
  simp only [cond_true]
  congr 1
  rw [List.append_assoc, ← List.replicate_succ']
  rfl) (fun _ => ⟨out ++ List.replicate m c, by simp only; rw [dF (by omega)]; rfl, rfl⟩) (by omega)
 rw [h2, h3]
 simp
def grpB (g1 g2 n : Int) : Bool := decide (1 ≤ g1) && (decide (g1 ≤ n) && (decide (n = g1) || (decide (0 < g2) && decide ((n - g1) % g2 = 0))))
theorem grouped_eq {p : St23} {n : Int} (h0 : 0 ≤ n) (h1 : n ≤ 1000) (hc : 0 ≤ p.G1_ ∧ p.G1_ ≤ 40) (hc2 : 0 ≤ p.G2_ ∧ p.G2_ ≤ 40) : pat_grouped p n = some (grpB p.G1_ p.G2_ n) := by
 unfold pat_grouped grpB
 by_cases c1 : p.G1_ < 1
 ·rw [dT c1, dF (show ¬ 1 ≤ p.G1_ by omega)]; rfl
 ·rw [dF c1, dT (show 1 ≤ p.G1_ by omega)]
  by_cases c2 : n < p.G1_
  ·rw [dT c2, dF (show ¬ p.G1_ ≤ n by omega)]; rfl
  ·rw [dF c2, dT (show p.G1_ ≤ n by omega)]
   by_cases c3 : n = p.G1_
   ·rw [dT c3]; rfl
   ·rw [dF c3]
    by_cases c4 : p.G2_ > 0
    ·rw [dT c4, w64 (n := n - p.G1_) (by omega) (by omega)]
     have hz : nz p.G2_ = true := by unfold nz; rw [dF (by omega)]; rfl
     rw [hz, Int.tmod_eq_emod_of_nonneg (by omega)]
     simp [joinX]
    ·rw [dF c4]; simp [joinX]
def plc (g1 g2 : Int) (t ha : Nat) (i : Nat) : List Int := (if 0 < i ∧ grpB g1 g2 ((t : Int) - i) = true then [44] else []) ++ [if i < ha then 35 else 48]
def plcs (g1 g2 : Int) (t ha n : Nat) : List Int := (List.range n).flatMap (plc g1 g2 t ha)
theorem plcs_succ (g1 g2 : Int) (t ha n : Nat) : plcs g1 g2 t ha (n + 1) = plcs g1 g2 t ha n ++ plc g1 g2 t ha n := by
 unfold plcs; rw [List.range_succ, List.flatMap_append]; simp
theorem plc_len (g1 g2 : Int) (t ha i : Nat) : (plc g1 g2 t ha i).length ≤ 2 := by
 unfold plc; split <;> simp
theorem plcs_len (g1 g2 : Int) (t ha : Nat) : ∀ n, (plcs g1 g2 t ha n).length ≤ 2 * n
 | 0 => by simp [plcs]
 | n + 1 => by
  rw [plcs_succ, List.length_append]
  have := plcs_len g1 g2 t ha n
  have := plc_len g1 g2 t ha n
  omega
theorem places_eq {p : St23} {out : List Int} {ha mi : Nat} (hh : p.Hash_ = ha) (hm : p.MinInt_ = mi) (h1 : ha ≤ 40) (h2 : mi ≤ 40) (hc : 0 ≤ p.G1_ ∧ p.G1_ ≤ 40) (hc2 : 0 ≤ p.G2_ ∧ p.G2_ ≤ 40) (ho : out.length ≤ 1000000) :
  pat_places out p = some (out ++ plcs p.G1_ p.G2_ (ha + mi) ha (ha + mi)) := by
 unfold pat_places
 rw [hh, hm, some_eq (by omega) (by omega), some_eq (by omega) (by omega)]
 simp only [Option.bind_some]
 rw [w64 (n := (ha : Int) + mi) (by omega) (by omega)]
 generalize hst : (fun (s357 : Int × (List Int)) => (bif (decide (s357.1 < (ha : Int) + mi)) then (Option.bind (Option.bind (Option.bind (bif (decide (s357.1 > 0)) then (Option.bind (pat_grouped p ((IntKind.wrap .i64 ((ha : Int) + mi - s357.1)))) fun y688 => (some y688)) else (some false)) fun (s680 : Bool) => (bif s680 then (bif room (s357.2.length + ([44] : List Int).length) then (some (s357.2 ++ ([44] : List Int))) else none) else (some s357.2))) fun (s669 : (List Int)) => (bif (decide (s357.1 < (ha : Int))) then (bif room (s669.length + ([35] : List Int).length) then (some (s669 ++ ([35] : List Int))) else none) else (bif room (s669.length + ([48] : List Int).length) then (some (s669 ++ ([48] : List Int))) else none))) fun (s643 : (List Int)) => (some (.inl ((IntKind.wrap .i64 (s357.1 + 1)), s643) : (Int × List Int) ⊕ List Int))) else (some (.inr s357.2)))) = step
 obtain ⟨o, g2, g3⟩ := loop_count (step := step) (ha + mi) (fun i => ((i : Int), out ++ plcs p.G1_ p.G2_ (ha + mi) ha i)) (fun _ => True) (fun o => o = out ++ plcs p.G1_ p.G2_ (ha + mi) ha (ha + mi)) (s0 := (0, out)) (by simp [plcs]) trivial (fun i hi _ => by
  left
  refine ⟨?_, trivial⟩
  subst hst
  have hl := plcs_len p.G1_ p.G2_ (ha + mi) ha i
  generalize hP : plcs p.G1_ p.G2_ (ha + mi) ha i = P at hl
  simp only
  rw [dT (show (i : Int) < (ha : Int) + mi by omega), w64 (n := (ha : Int) + mi - i) (by omega) (by omega), grouped_eq (by omega) (by omega) hc hc2, w64 (n := (i : Int) + 1) (by omega) (by omega), plcs_succ, hP]
  have hrm : ∀ (x : List Int) (c : Int), x.length ≤ 1000300 → room (x.length + ([c] : List Int).length) = true := fun x c hx => room_of (by simp; omega)
  have hPl : (out ++ P).length ≤ 1000200 := by simp; omega
  have hcast : ((ha + mi : Nat) : Int) - i = (ha : Int) + mi - i := by omega
  unfold plc
  rw [hcast]
  simp only [cond_true]
  generalize hgb : grpB p.G1_ p.G2_ ((ha : Int) + mi - i) = gb
  have hA : (Option.bind (bif (decide ((i : Int) > 0)) then (Option.bind (some gb) fun y688 => (some y688)) else (some false)) fun (s680 : Bool) => (bif s680 then (bif room ((out ++ P).length + ([44] : List Int).length) then (some (out ++ P ++ ([44] : List Int))) else none) else (some (out ++ P)))) = some (out ++ P ++ (if 0 < i ∧ gb = true then [44] else [])) := by
   by_cases c0 : 0 < i
   ·rw [dT (show (i : Int) > 0 by omega), hrm _ _ (by omega)]
    cases gb <;> simp [c0]
   ·rw [dF (show ¬ (i : Int) > 0 by omega), if_neg (fun h => c0 h.1)]; simp
  rw [hA]
  simp only [Option.bind_some]
  have hL : (out ++ P ++ (if 0 < i ∧ gb = true then [44] else [])).length ≤ 1000300 := by
   rw [List.length_append]
   have : (if 0 < i ∧ gb = true then ([44] : List Int) else []).length ≤ 1 := by split <;> simp
   omega
  rw [hrm _ _ hL, hrm _ _ hL]
  by_cases c1 : i < ha
  ·rw [dT (show (i : Int) < ha by omega), if_pos c1]
   simp [List.append_assoc]
  ·rw [dF (show ¬ (i : Int) < ha by omega), if_neg c1]
   simp [List.append_assoc]) (fun _ => ⟨_, by subst hst; simp only; rw [dF (by omega)]; rfl, rfl⟩) (by omega)
 rw [g2, g3]
 rfl
def sgL (p : St23) : List Int := List.replicate p.MinSig_.toNat 64 ++ List.replicate (p.MaxSig_ - p.MinSig_).toNat 35
def frL (p : St23) : List Int := if p.MaxFrac_ = 0 then [] else 46 :: (List.replicate p.MinFrac_.toNat 48 ++ List.replicate (p.MaxFrac_ - p.MinFrac_).toNat 35)
def exL (p : St23) : List Int := if p.Exp_ = 0 then [] else 69 :: ((if p.ExpPlus_ = true then [43] else []) ++ List.replicate p.Exp_.toNat 48)
def plL (p : St23) : List Int := plcs p.G1_ p.G2_ (p.Hash_ + p.MinInt_).toNat p.Hash_.toNat (p.Hash_ + p.MinInt_).toNat
def numL (p : St23) : List Int := (if 0 < p.MinSig_ then sgL p else plL p ++ frL p) ++ exL p
theorem number_eq {p : St23} (hc : cntP p) (hn : canon (numsP p)) : pat_number p = some (numL p) ∧ (numL p).length ≤ 400 := by
 obtain ⟨⟨a1, a2⟩, ⟨b1, b2⟩, ⟨c1, c2⟩, ⟨d1, d2⟩, e1, f1, ⟨g1, g2⟩, ⟨h1, h2⟩, ⟨i1, i2⟩⟩ := hc
 obtain ⟨n1, n2, n3, n4, n5, n6, n7, n8, n9, n10, n11⟩ := hn
 have hpl : (plL p).length ≤ 160 := by
  have := plcs_len p.G1_ p.G2_ (p.Hash_ + p.MinInt_).toNat p.Hash_.toNat (p.Hash_ + p.MinInt_).toNat
  unfold plL; omega
 have hfr : (frL p).length ≤ 90 := by unfold frL; split <;> simp; omega
 have hsg : (sgL p).length ≤ 90 := by unfold sgL; simp; omega
 have hex : (exL p).length ≤ 50 := by
  unfold exL; split
  ·simp
  ·split <;> simp <;> omega
 have hlen : (numL p).length ≤ 400 := by
  unfold numL
  rw [List.length_append]
  split
  ·omega
  ·rw [List.length_append]; omega
 refine ⟨?_, hlen⟩
 unfold pat_number
 have hE : ∀ s : List Int, s.length ≤ 1000 → (Option.bind (bif (decide (¬ p.Exp_ = 0)) then (bif room (s.length + ([69] : List Int).length) then (Option.bind (bif p.ExpPlus_ then (bif room ((s ++ ([69] : List Int)).length + ([43] : List Int).length) then (some (((s ++ ([69] : List Int)) ++ ([43] : List Int)))) else none) else (some (s ++ ([69] : List Int)))) fun (s117 : (List Int)) => (Option.bind (pat_repeat s117 48 p.Exp_) fun y126 => (some y126))) else none) else (some s)) fun (s104 : (List Int)) => (some s104)) = some (s ++ exL p) := by
  intro s hs
  unfold exL
  by_cases h0 : p.Exp_ = 0
  ·rw [dF (fun h => h h0), if_pos h0]; simp
  ·rw [dT h0, if_neg h0, room_of (by simp; omega), room_of (by simp; omega)]
   cases hep : p.ExpPlus_ with
   | true =>
    simp only [cond_true, Option.bind_some]
    rw [repeat_eq (by omega) (by omega) (by simp; omega)]
    simp
   | false =>
    simp only [cond_true, cond_false, Option.bind_some]
    rw [repeat_eq (by omega) (by omega) (by simp; omega)]
    simp
 by_cases hs : 0 < p.MinSig_
 ·have hA : (Option.bind (bif (decide (p.MinSig_ > 0)) then (some true) else (some (decide (p.MaxSig_ > 0)))) fun (s48 : Bool) => (bif s48 then (Option.bind (pat_repeat ([] : List Int) 64 p.MinSig_) fun y59 => (Option.bind (pat_some p.MinSig_) fun y62 => (Option.bind (pat_repeat y59 35 (IntKind.wrap .i64 (p.MaxSig_ - y62))) fun y65 => (some y65)))) else (Option.bind (pat_places ([] : List Int) p) fun y68 => (bif (decide (¬ p.MaxFrac_ = 0)) then (bif room (y68.length + ([46] : List Int).length) then (Option.bind (pat_repeat (y68 ++ ([46] : List Int)) 48 p.MinFrac_) fun y75 => (Option.bind (pat_some p.MinFrac_) fun y78 => (Option.bind (pat_repeat y75 35 (IntKind.wrap .i64 (p.MaxFrac_ - y78))) fun y81 => (some y81)))) else none) else (some y68))))) = some (sgL p) := by
   rw [dT hs, repeat_eq (by omega) (by omega) (by simp), some_eq (by omega) (by omega)]
   simp only [cond_true, Option.bind_some]
   rw [w64 (n := p.MaxSig_ - p.MinSig_) (by omega) (by omega), repeat_eq (by omega) (by omega) (by simp; omega)]
   simp [sgL]
  rw [hA]
  refine (hE (sgL p) (by omega)).trans ?_
  unfold numL
  rw [if_pos hs]
 ·have hs0 : p.MinSig_ = 0 := by omega
  have hx0 := (n9 hs0).1
  have hA : (Option.bind (bif (decide (p.MinSig_ > 0)) then (some true) else (some (decide (p.MaxSig_ > 0)))) fun (s48 : Bool) => (bif s48 then (Option.bind (pat_repeat ([] : List Int) 64 p.MinSig_) fun y59 => (Option.bind (pat_some p.MinSig_) fun y62 => (Option.bind (pat_repeat y59 35 (IntKind.wrap .i64 (p.MaxSig_ - y62))) fun y65 => (some y65)))) else (Option.bind (pat_places ([] : List Int) p) fun y68 => (bif (decide (¬ p.MaxFrac_ = 0)) then (bif room (y68.length + ([46] : List Int).length) then (Option.bind (pat_repeat (y68 ++ ([46] : List Int)) 48 p.MinFrac_) fun y75 => (Option.bind (pat_some p.MinFrac_) fun y78 => (Option.bind (pat_repeat y75 35 (IntKind.wrap .i64 (p.MaxFrac_ - y78))) fun y81 => (some y81)))) else none) else (some y68))))) = some (plL p ++ frL p) := by
   obtain ⟨ha, hha⟩ : ∃ m : Nat, p.Hash_ = m := ⟨p.Hash_.toNat, by omega⟩
   obtain ⟨mi, hmi⟩ : ∃ m : Nat, p.MinInt_ = m := ⟨p.MinInt_.toNat, by omega⟩
   have hpe : plL p = plcs p.G1_ p.G2_ (ha + mi) ha (ha + mi) := by
    unfold plL; rw [hha, hmi, show ((ha : Int) + mi).toNat = ha + mi by omega, show (ha : Int).toNat = ha by omega]
   rw [dF hs, dF (show ¬ p.MaxSig_ > 0 by omega), places_eq (out := []) hha hmi (by omega) (by omega) e1 f1 (by simp)]
   simp only [cond_false, Option.bind_some, List.nil_append]
   rw [← hpe]
   unfold frL
   by_cases h0 : p.MaxFrac_ = 0
   ·rw [dF (fun h => h h0), if_pos h0]; simp
   ·rw [dT h0, if_neg h0, room_of (by simp; omega), repeat_eq (by omega) (by omega) (by simp; omega), some_eq (by omega) (by omega)]
    simp only [cond_true, Option.bind_some]
    rw [w64 (n := p.MaxFrac_ - p.MinFrac_) (by omega) (by omega), repeat_eq (by omega) (by omega) (by simp; omega)]
    simp
  rw [hA]
  refine (hE (plL p ++ frL p) (by rw [List.length_append]; omega)).trans ?_
  unfold numL
  rw [if_neg hs]
theorem asc_plcs (g1 g2 : Int) (t ha n : Nat) : asc (plcs g1 g2 t ha n) := by
 intro c hc
 unfold plcs at hc
 obtain ⟨i, _, hi⟩ := List.mem_flatMap.1 hc
 unfold plc at hi
 rcases List.mem_append.1 hi with h | h
 ·split at h
  ·simp at h; subst h; omega
  ·simp at h
 ·simp at h; subst h; split <;> omega
theorem asc_num (p : St23) : asc (numL p) := by
 intro c hc
 unfold numL at hc
 rcases List.mem_append.1 hc with h | h
 ·split at h
  ·unfold sgL at h
   rcases List.mem_append.1 h with h | h <;> (have := List.eq_of_mem_replicate h; omega)
  ·rcases List.mem_append.1 h with h | h
   ·exact asc_plcs _ _ _ _ _ c h
   ·unfold frL at h
    split at h
    ·simp at h
    ·rcases List.mem_cons.1 h with h | h
     ·omega
     ·rcases List.mem_append.1 h with h | h <;> (have := List.eq_of_mem_replicate h; omega)
 ·unfold exL at h
  split at h
  ·simp at h
  ·rcases List.mem_cons.1 h with h | h
   ·omega
   ·rcases List.mem_append.1 h with h | h
    ·split at h
     ·simp at h; omega
     ·simp at h
    ·have := List.eq_of_mem_replicate h; omega
theorem numText_eq {p : St23} (hc : cntP p) (hn : canon (numsP p)) : pat_Number p = some (bytesS (numL p)) := by
 unfold pat_Number
 rw [(number_eq hc hn).1]
 simp only [Option.bind_some]
 rw [runes_ascii (asc_num p)]
end Go.Proofs.Ytdflcknbelpflaa
