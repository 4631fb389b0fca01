/-
 What those functions come to, told by plain functions of lists and numbers. Conditions: as each theorem says.
-/
import Derived.Test.YtdflcknbelpflaaGc
import Derived.Test.YtdflcknbelpflaaSyZ
namespace Go.Proofs.Ytdflcknbelpflaa
open Go Go.Sy Go.RowKit Go.ChangeShapes Go.WideShapes Go.ChangeAt
set_option linter.unusedVariables false
set_option linter.unusedSimpArgs false
set_option maxRecDepth 100000
set_option maxHeartbeats 4000000
/-! Two patterns are compared. -/
theorem eq_row {T S O : Type} [Inhabited T] [DecidableEq T] {xs ys : List T} (hlen : xs.length = ys.length) (hb : xs.length ≤ 4611686018427387904) (ok bad : O) {step : Int → Option (Int ⊕ O)}
  (hs : ∀ i : Nat, i < xs.length → step (i : Int) = some (if nth xs (i : Int) = nth ys (i : Int) then .inl ((i : Int) + 1) else .inr bad)) (he : step (xs.length : Int) = some (.inr ok)) :
  loopN step big 0 = some (if xs = ys then ok else bad) := by
 obtain ⟨o, h1, h2⟩ := loop_count (step := step) xs.length (fun i => (i : Int)) (fun i => ∀ j, j < i → nth xs (j : Int) = nth ys (j : Int)) (fun o => o = if xs = ys then ok else bad) rfl (fun j hj => by omega) (fun i hi hI => by
  rw [hs i hi]
  by_cases c : nth xs (i : Int) = nth ys (i : Int)
  ·left
   rw [if_pos c]
   refine ⟨by simp, fun j hj => ?_⟩
   by_cases e : j = i
   ·subst e; exact c
   ·exact hI j (by omega)
  ·right
   rw [if_neg c]
   refine ⟨bad, rfl, ?_⟩
   rw [if_neg (fun e => c (by rw [e]))]) (fun hI => ⟨ok, he, by
  rw [if_pos]
  apply List.ext_getElem hlen
  intro i h1 h2
  have := hI i h1
  rwa [nth_nat h1, nth_nat h2] at this⟩) (by omega)
 have h1' : loopN step big 0 = some o := h1
 rw [h1', h2]
theorem tok_eq {x y : List St33} (hl : x.length ≤ 4611686018427387904) : api_Tok_ x y = some (decide (x = y)) := by
 unfold api_Tok_
 by_cases h : x.length = y.length
 ·rw [dF (by omega)]
  simp only [cond_false]
  rw [eq_row (S := Unit) h (by omega) (.inl () : Unit ⊕ Bool) (.inr false)]
  ·by_cases e : x = y
   ·rw [if_pos e, dT e]; rfl
   ·rw [if_neg e, dF e]; rfl
  ·intro i hi
   rw [dT (by omega), inR_nat hi, inR_nat (by omega), w64 (by omega) (by omega)]
   simp only [cond_true]
   generalize nth x (i : Int) = a
   generalize nth y (i : Int) = b
   obtain ⟨a1, a2⟩ := a
   obtain ⟨b1, b2⟩ := b
   by_cases h1 : a1 = b1 <;> by_cases h2 : a2 = b2 <;> simp [h1, h2]
  ·rw [lt_end]; rfl
 ·rw [dT (by omega), dF (by rintro rfl; exact h rfl)]; rfl
def lens (a : St23) : Prop := a.Pre_.length ≤ 4611686018427387904 ∧ a.Suf_.length ≤ 4611686018427387904 ∧ a.NPre_.length ≤ 4611686018427387904 ∧ a.NSuf_.length ≤ 4611686018427387904
theorem few_eq {a : St23} (h1 : a.Pre_.length ≤ 140737488355328) (h2 : a.Suf_.length ≤ 140737488355328) (h3 : a.NPre_.length ≤ 140737488355328) (h4 : a.NSuf_.length ≤ 140737488355328) :
  exergueref10_Few a = some (decide (a.Pre_.length + a.Suf_.length + a.NPre_.length + a.NSuf_.length ≤ 300)) := by
 unfold exergueref10_Few
 rw [w64 (n := (a.Pre_.length : Int) + (a.Suf_.length : Int)) (by omega) (by omega), w64 (n := (a.Pre_.length : Int) + (a.Suf_.length : Int) + (a.NPre_.length : Int)) (by omega) (by omega), w64 (by omega) (by omega)]
 congr 1
 rw [decide_eq_decide]
 omega
/-! Parsers that always answer. -/
theorem loop_var {S O : Type} {step : S → Option (S ⊕ O)} (I : S → Prop) (μ : S → Nat) (post : O → Prop) {s0 : S} (h0 : I s0) (hb : μ s0 < 18446744073709551616)
  (hs : ∀ s, I s → (∃ s', step s = some (.inl s') ∧ I s' ∧ μ s' < μ s) ∨ ∃ o, step s = some (.inr o) ∧ post o) : ∃ o, loopN step big s0 = some o ∧ post o := by
 have key : ∀ m s, I s → μ s < m → ∃ o, loopN step m s = some o ∧ post o := by
  intro m
  induction m with
  | zero => intro s _ h; omega
  | succ m ih =>
   intro s hi hm
   rcases hs s hi with ⟨s', h1, h2, h3⟩ | ⟨o, h1, h2⟩
   ·rw [loopN_next h1]; exact ih s' h2 (by omega)
   ·exact ⟨o, loopN_out h1, h2⟩
 exact key big s0 h0 hb
def Tot {α : Type} (x : Option α) (p : α → Prop) : Prop := ∃ o, x = some o ∧ p o
theorem Tot.ret {α : Type} {a : α} {p : α → Prop} (h : p a) : Tot (some a) p := ⟨a, rfl, h⟩
theorem Tot.bind {α β : Type} {x : Option α} {k : α → Option β} {p : α → Prop} {q : β → Prop} (h : Tot x p) (hk : ∀ o, p o → Tot (k o) q) : Tot (Option.bind x k) q := by
 obtain ⟨o, rfl, h⟩ := h; exact hk o h
theorem Tot.ite {α : Type} {b : Bool} {t e : Option α} {p : α → Prop} (ht : b = true → Tot t p) (he : b = false → Tot e p) : Tot (bif b then t else e) p := by
 cases b with
 | true => exact ht rfl
 | false => exact he rfl
theorem Tot.yes {α : Type} {b : Bool} {t e : Option α} {p : α → Prop} (h : b = true) (ht : Tot t p) : Tot (bif b then t else e) p := by subst h; exact ht
theorem Tot.mono {α : Type} {x : Option α} {p q : α → Prop} (h : Tot x p) (hq : ∀ o, p o → q o) : Tot x q := by obtain ⟨o, h1, h2⟩ := h; exact ⟨o, h1, hq o h2⟩
def joinP {S X : Type} (k : S → Option X) (p : X → Prop) : S ⊕ X → Prop
 | .inl s => Tot (k s) p
 | .inr r => p r
theorem Tot.join {S X : Type} {x : Option (S ⊕ X)} {k : S → Option X} {p : X → Prop} (h : Tot x (joinP k p)) : Tot (Option.bind x (joinX k)) p := by
 obtain ⟨o, rfl, h⟩ := h
 cases o with
 | inl s => exact h
 | inr r => exact ⟨r, rfl, h⟩
theorem Tot.loop {S O : Type} {step : S → Option (S ⊕ O)} (I : S → Prop) (μ : S → Nat) {post : O → Prop} {s0 : S} (h0 : I s0) (hb : μ s0 < 18446744073709551616)
  (hs : ∀ s, I s → Tot (step s) (fun x => match x with | .inl s' => I s' ∧ μ s' < μ s | .inr o => post o)) : Tot (loopN step big s0) post := by
 refine loop_var I μ post h0 hb (fun s hi => ?_)
 obtain ⟨x, h1, h2⟩ := hs s hi
 cases x with
 | inl s' => exact .inl ⟨s', h1, h2⟩
 | inr o => exact .inr ⟨o, h1, h2⟩
theorem Tot.any {α : Type} {x : Option α} {p : α → Prop} (h : Tot x p) : Tot x (fun _ => True) := h.mono (fun _ _ => trivial)
theorem dTT {p : Prop} [Decidable p] (h : decide p = true) : p := of_decide_eq_true h
theorem dFF {p : Prop} [Decidable p] (h : decide p = false) : ¬ p := of_decide_eq_false h
theorem is_tot (x : Int) : Tot (exergueref01_Is x) (fun _ => True) := by
 unfold exergueref01_Is
 refine Tot.bind (p := fun _ => True) ?_ (fun _ _ => Tot.ret trivial)
 repeat' (first | exact Tot.ret trivial | refine Tot.ite (fun _ => ?_) (fun _ => ?_))
theorem size_tot (x : Int) : Tot (exergueref01_Size x) (fun n => 0 ≤ n ∧ n ≤ 4 ∧ (exergueref01_Is x = some true → 1 ≤ n)) := by
 unfold exergueref01_Size
 obtain ⟨b, hb, _⟩ := is_tot x
 rw [hb]
 cases b with
 | false => exact ⟨0, rfl, by omega, by omega, fun h => by cases h⟩
 | true =>
  show Tot (bif _ then _ else _) _
  repeat' (first | exact Tot.ret ⟨by omega, by omega, fun _ => by omega⟩ | refine Tot.ite (fun _ => ?_) (fun _ => ?_))
theorem bytes_tot (x : Int) : Tot (exergueref01_Bytes x) (fun l => l.length ≤ 4) := by
 unfold exergueref01_Bytes
 refine Tot.bind (size_tot x) (fun _ _ => ?_)
 repeat' (first | exact Tot.ret (by simp) | refine Tot.ite (fun _ => ?_) (fun _ => ?_))
theorem text_tot (x : Int) : Tot (exergueref10_text x) (fun l => l.length ≤ 4) := by
 unfold exergueref10_text
 exact Tot.bind (bytes_tot x) (fun o h => Tot.ret (by simpa [bytesS] using h))
theorem special_tot (x : Int) : Tot (exergueref10_Special x) (fun _ => True) := by
 unfold exergueref10_Special
 refine Tot.join (Tot.bind (p := fun _ => True) ?_ (fun b _ => ?_))
 ·repeat' (first | exact Tot.ret trivial | refine Tot.ite (fun _ => ?_) (fun _ => ?_))
 ·refine Tot.ite (fun _ => Tot.ret trivial) (fun _ => Tot.ret ?_)
  refine Tot.join (Tot.loop (fun s => 0 ≤ s ∧ s ≤ 11) (fun s => (11 - s).toNat) (by omega) (by omega) (fun s hs => ?_))
  refine Tot.ite (fun h => ?_) (fun _ => Tot.ret (Tot.ret trivial))
  have h := dTT h
  refine Tot.yes (inR_int (by omega) (by simpa using h)) (Tot.ite (fun _ => Tot.ret trivial) (fun _ => Tot.ret ?_))
  rw [w64 (by omega) (by omega)]; omega
theorem sign_tot (x : Int) : Tot (exergueref10_Sign x) (fun _ => True) := by
 unfold exergueref10_Sign
 repeat' (first | exact Tot.ret trivial | refine Tot.ite (fun _ => ?_) (fun _ => ?_))
def atV (l : List Int) (i : Int) : Int := if i < l.length then nth l i else -1
theorem at_eq2 {l : List Int} {i : Int} (h : 0 ≤ i) : exergueref10_at l i = some (atV l i) := by
 unfold exergueref10_at atV
 by_cases hi : i < l.length
 ·rw [dT hi, if_pos hi, inR_int h hi]; rfl
 ·rw [dF hi, if_neg hi]; rfl
theorem at_in {l : List Int} {i c : Int} (hc : atV l i = c) (h : c ≠ -1) : i < l.length := by
 unfold atV at hc
 split at hc
 ·assumption
 ·exact absurd hc.symm h
theorem many_tot {l : List Int} {i c : Int} (hl : l.length ≤ 10000) (h : 0 ≤ i) (hi : i ≤ l.length) (hc : c ≠ -1) : Tot (exergueref10_many l i c) (fun n => 0 ≤ n ∧ i + n ≤ l.length) := by
 unfold exergueref10_many
 refine Tot.bind (p := fun n => 0 ≤ n ∧ i + n ≤ l.length) ?_ (fun _ h => Tot.ret h)
 refine Tot.loop (fun s => 0 ≤ s ∧ i + s ≤ l.length) (fun s => (l.length - i - s).toNat) (by omega) (by omega) (fun s hs => ?_)
 rw [w64 (n := i + s) (by omega) (by omega), at_eq2 (by omega)]
 show Tot (bif _ then _ else _) _
 refine Tot.ite (fun hh => Tot.ret ?_) (fun _ => Tot.ret hs)
 have := at_in (dTT hh) hc
 rw [w64 (by omega) (by omega)]; omega
def numsP (p : St23) : Int × Int × Int × Int × Int × Int × Int × Int × Int × Bool := (p.Hash_, p.MinInt_, p.MinFrac_, p.MaxFrac_, p.G1_, p.G2_, p.MinSig_, p.MaxSig_, p.Exp_, p.ExpPlus_)
def grpP (t g1 g2 : Int) : Prop := (g1 = 0 ∧ g2 = 0) ∨ (0 < g1 ∧ 0 < g2 ∧ g1 < t ∧ (t ≤ g1 + g2 → g2 = g1))
def canon : Int × Int × Int × Int × Int × Int × Int × Int × Int × Bool → Prop := fun (ha, mi, nf, xf, g1, g2, ns, xs, ex, ep) =>
 0 ≤ ha ∧ 0 ≤ mi ∧ 0 ≤ nf ∧ nf ≤ xf ∧ 0 ≤ ns ∧ ns ≤ xs ∧ 0 ≤ ex ∧ (ex = 0 → ep = false) ∧ (ns = 0 → xs = 0 ∧ 0 < ha + mi) ∧ (0 < ns → ha = 0 ∧ mi = 0 ∧ nf = 0 ∧ xf = 0) ∧ grpP (ha + mi) g1 g2
def zeroN : Int × Int × Int × Int × Int × Int × Int × Int × Int × Bool := (0, 0, 0, 0, 0, 0, 0, 0, 0, false)
theorem pad_tot {p : St23} {l : List Int} {i w : Int} (hl : l.length ≤ 10000) (h : 0 ≤ i) (hi : i ≤ l.length) : Tot (exergueref10_pad p l i w) (fun o => 0 ≤ o.2.1 ∧ (o.2.2 = true → o.2.1 ≤ l.length) ∧ numsP o.1 = numsP p) := by
 unfold exergueref10_pad
 refine Tot.join (Tot.bind (p := fun _ => True) ?_ (fun b _ => ?_))
 ·refine Tot.ite (fun _ => Tot.ret trivial) (fun _ => ?_)
  rw [at_eq2 h]; exact Tot.ret trivial
 ·refine Tot.ite (fun _ => Tot.ret ⟨h, fun _ => hi, rfl⟩) (fun _ => Tot.ret ?_)
  show Tot _ _
  rw [w64 (n := i + 1) (by omega) (by omega)]
  refine Tot.ite (fun _ => Tot.ret ⟨by simp only; omega, fun h => (by cases h), rfl⟩) (fun hh => ?_)
  have := dFF hh
  refine Tot.yes (inR_int (by omega) (by omega)) (Tot.ret ⟨?_, fun _ => ?_, rfl⟩)
  ·simp only; rw [w64 (by omega) (by omega)]; omega
  ·simp only; rw [w64 (by omega) (by omega)]; omega
theorem affix_tot {l : List Int} {i : Int} (hl : l.length ≤ 10000) (h : 0 ≤ i) (hi : i ≤ l.length) : Tot (exergueref10_affix l i) (fun o => 0 ≤ o.2.1 ∧ o.2.1 ≤ l.length) := by
 unfold exergueref10_affix
 refine Tot.join (Tot.loop (fun s : Int × List St33 => 0 ≤ s.1 ∧ s.1 ≤ (l.length : Int) ∧ (s.2.length : Int) ≤ s.1) (fun s => ((l.length : Int) - s.1).toNat) ⟨h, hi, by simpa using h⟩ (by simp only; omega) (fun s hs => ?_))
 refine Tot.ite (fun hh => ?_) (fun hh => Tot.ret (Tot.ret ⟨hs.1, hs.2.1⟩))
 have hlt := dTT hh
 refine Tot.yes (inR_int hs.1 hlt) (Tot.bind (sign_tot _) (fun y _ => Tot.bind (special_tot _) (fun y2 _ => ?_)))
 have e1 : IntKind.wrap .i64 (s.1 + 1) = s.1 + 1 := w64 (by omega) (by omega)
 rw [e1]
 refine Tot.ite (fun _ => Tot.yes (room_of (by simp; omega)) (Tot.ret ⟨⟨by simp only; omega, by simp only; omega, by simp; omega⟩, by simp only; omega⟩)) (fun _ => ?_)
 refine Tot.ite (fun _ => Tot.ite (fun _ => Tot.ret ⟨hs.1, hs.2.1⟩) (fun _ => Tot.yes (room_of (by simp; omega)) (Tot.ret ⟨⟨by simp only; omega, by simp only; omega, by simp; omega⟩, by simp only; omega⟩))) (fun _ => ?_)
 rw [at_eq2 (by omega)]
 show Tot (bif _ then _ else _) _
 refine Tot.ite (fun hq => ?_) (fun hq => ?_)
 ·have := at_in (dTT hq) (by omega)
  refine Tot.yes (room_of (by simp; omega)) (Tot.ret ?_)
  have e2 : IntKind.wrap .i64 (s.1 + 2) = s.1 + 2 := w64 (by omega) (by omega)
  rw [e2]
  exact ⟨⟨by simp only; omega, by simp only; omega, by simp; omega⟩, by simp only; omega⟩
 ·refine Tot.bind (p := fun o : Int × List St33 => s.1 + 1 ≤ o.1 ∧ o.1 ≤ (l.length : Int) ∧ (o.2.length : Int) ≤ o.1) ?_ (fun o ho => ?_)
  ·refine Tot.loop (fun t : Int × List St33 => s.1 + 1 ≤ t.1 ∧ t.1 ≤ (l.length : Int) ∧ (t.2.length : Int) ≤ t.1) (fun t => ((l.length : Int) - t.1).toNat) ⟨by simp only; omega, by simp only; omega, by simp only; omega⟩ (by simp only; omega) (fun t ht => ?_)
   have f1 : IntKind.wrap .i64 (t.1 + 1) = t.1 + 1 := w64 (by omega) (by omega)
   rw [f1]
   refine Tot.join (Tot.bind (p := fun b => b = true → t.1 < l.length ∧ (nth l t.1 = 39 → t.1 + 1 < l.length)) ?_ (fun b hb => ?_))
   ·refine Tot.ite (fun hh => ?_) (fun _ => Tot.ret (fun h => by cases h))
    have h3 := dTT hh
    refine Tot.yes (inR_int (by omega) h3) (Tot.ite (fun hn => Tot.ret (fun _ => ⟨h3, fun he => absurd he (dTT hn)⟩)) (fun _ => ?_))
    rw [at_eq2 (by omega)]
    exact Tot.ret (fun hb => ⟨h3, fun _ => at_in (dTT hb) (by omega)⟩)
   ·cases b with
    | false => exact Tot.ret ht
    | true =>
     obtain ⟨g1, g2⟩ := hb rfl
     refine Tot.ret (show Tot _ _ from ?_)
     refine Tot.yes (inR_int (by omega) g1) (Tot.yes (room_of (by simp; omega)) ?_)
     refine Tot.bind (p := fun v => t.1 ≤ v ∧ v < l.length) (Tot.yes (inR_int (by omega) g1) (Tot.ite (fun hh => Tot.ret ⟨by omega, g2 (dTT hh)⟩) (fun _ => Tot.ret ⟨by omega, g1⟩))) (fun v hv => Tot.ret ?_)
     have f2 : IntKind.wrap .i64 (v + 1) = v + 1 := w64 (by omega) (by omega)
     rw [f2]
     exact ⟨⟨by simp only; omega, by simp only; omega, by simp; omega⟩, by simp only; omega⟩
  ·refine Tot.ite (fun _ => Tot.ret ⟨hs.1, hs.2.1⟩) (fun hh => Tot.ret ?_)
   have h3 := dFF hh
   have f1 : IntKind.wrap .i64 (o.1 + 1) = o.1 + 1 := w64 (by omega) (by omega)
   rw [f1]
   exact ⟨⟨by simp only; omega, by simp only; omega, by simp only; omega⟩, by simp only; omega⟩
/-! Patterns that are read. -/
def atP (l : List Int) (i mi : Int) : Prop := atV l i = 48 ∨ (atV l i = 35 ∧ mi = 0)
theorem places_tot {p : St23} {l : List Int} {i : Int} (hl : l.length ≤ 10000) (h : 0 ≤ i) (hi : i ≤ l.length) (hp : p.Hash_ = 0 ∧ p.MinInt_ = 0 ∧ p.G1_ = 0 ∧ p.G2_ = 0) :
  Tot (exergueref10_places p l i) (fun o => 0 ≤ o.2.1 ∧ o.2.1 ≤ l.length ∧ (o.2.2 = true → 0 ≤ o.1.Hash_ ∧ 0 ≤ o.1.MinInt_ ∧ 0 < o.1.Hash_ + o.1.MinInt_ ∧ grpP (o.1.Hash_ + o.1.MinInt_) o.1.G1_ o.1.G2_) ∧ o.1.MinFrac_ = p.MinFrac_ ∧ o.1.MaxFrac_ = p.MaxFrac_ ∧ o.1.MinSig_ = p.MinSig_ ∧ o.1.MaxSig_ = p.MaxSig_ ∧ o.1.Exp_ = p.Exp_ ∧ o.1.ExpPlus_ = p.ExpPlus_) := by
 unfold exergueref10_places
 obtain ⟨p1, p2, p3, p4⟩ := hp
 refine Tot.loop (fun s : Int × Int × Int × Int × List Int => (0 ≤ s.1 ∧ s.1 ≤ (l.length : Int) ∧ (s.2.2.2.2.length : Int) ≤ s.1) ∧ 0 ≤ s.2.1 ∧ 0 ≤ s.2.2.1 ∧ 0 ≤ s.2.2.2.1 ∧ s.2.2.1 + s.2.2.2.1 ≤ s.1 ∧ (s.2.2.2.2.length = 0 → s.2.2.1 + s.2.2.2.1 = s.2.1) ∧ (s.2.2.2.2.length = 1 → s.2.1 < s.2.2.1 + s.2.2.2.1) ∧ (2 ≤ s.2.2.2.2.length → 1 ≤ nth s.2.2.2.2 1 ∧ s.2.1 + nth s.2.2.2.2 1 < s.2.2.1 + s.2.2.2.1) ∧ (s.2.2.2.2 ≠ [] → s.2.1 = 0 → atP l s.1 s.2.2.2.1))
  (fun s => ((l.length : Int) - s.1).toNat) ⟨⟨h, hi, by simpa using h⟩, by simp only; omega, by simp only; omega, by simp only; omega, by simp only; omega, fun _ => by simp only; omega, fun h => by simp at h, fun h => by simp at h, fun h => by simp at h⟩ (by simp only; omega) (fun s hs => ?_)
 obtain ⟨s1, n, ha, mi, gr⟩ := s
 obtain ⟨⟨q1, q2, q3⟩, q4, q5, q6, q7, q8, q9, q10, q11⟩ := hs
 simp only at q1 q2 q3 q4 q5 q6 q7 q8 q9 q10 q11 ⊢
 have e1 : IntKind.wrap .i64 (s1 + 1) = s1 + 1 := w64 (by omega) (by omega)
 rw [e1, at_eq2 q1, at_eq2 (l := l) (i := s1 + 1) (by omega)]
 show Tot (Option.bind _ _) _
 refine Tot.join (Tot.bind (p := fun b => b = decide (atV l s1 = 35 ∧ mi = 0)) ?_ (fun b hb => ?_))
 ·refine Tot.ite (fun hq => Tot.ret ?_) (fun hq => Tot.ret ?_)
  ·have := dTT hq; simp [this]
  ·have := dFF hq; simp [this]
 ·by_cases c1 : atV l s1 = 35 ∧ mi = 0
  ·rw [dT c1] at hb
   subst hb
   have hin := at_in c1.1 (by omega)
   have e2 : IntKind.wrap .i64 (n + 1) = n + 1 := w64 (by omega) (by omega)
   have e3 : IntKind.wrap .i64 (ha + 1) = ha + 1 := w64 (by omega) (by omega)
   rw [e2, e3]
   exact Tot.ret ⟨⟨⟨by simp only; omega, by simp only; omega, by simp only; omega⟩, by simp only; omega, by simp only; omega, by simp only; omega, by simp only; omega, fun g => by have := q8 g; simp only; omega, fun g => by have := q9 g; simp only; omega, fun g => by have := q10 g; exact ⟨this.1, by simp only; omega⟩, fun _ g => by simp only at g; omega⟩, by simp only; omega⟩
  ·rw [dF c1] at hb
   subst hb
   refine Tot.ret (show Tot _ _ from ?_)
   refine Tot.ite (fun hq => ?_) (fun hq0 => ?_)
   ·have := at_in (dTT hq) (by omega)
    have e2 : IntKind.wrap .i64 (n + 1) = n + 1 := w64 (by omega) (by omega)
    have e3 : IntKind.wrap .i64 (mi + 1) = mi + 1 := w64 (by omega) (by omega)
    rw [e2, e3]
    exact Tot.ret ⟨⟨⟨by simp only; omega, by simp only; omega, by simp only; omega⟩, by simp only; omega, by simp only; omega, by simp only; omega, by simp only; omega, fun g => by have := q8 g; simp only; omega, fun g => by have := q9 g; simp only; omega, fun g => by have := q10 g; exact ⟨this.1, by simp only; omega⟩, fun _ g => by simp only at g; omega⟩, by simp only; omega⟩
   ·have hq0 := dFF hq0
    have hnat : ¬ atP l s1 mi := fun h => h.elim hq0 c1
    refine Tot.join (Tot.bind (p := fun b => b = true → s1 < l.length ∧ 0 < n ∧ atP l (s1 + 1) mi) ?_ (fun b hb => ?_))
    ·refine Tot.ite (fun hq => ?_) (fun _ => Tot.ret (fun h => by cases h))
     have hin := at_in (dTT hq) (by omega)
     refine Tot.ite (fun hq1 => ?_) (fun _ => Tot.ret (fun h => by cases h))
     have hn := dTT hq1
     refine Tot.ite (fun hq2 => Tot.ret (fun _ => ⟨hin, hn, .inl (dTT hq2)⟩)) (fun _ => Tot.ite (fun hq2 => Tot.ret (fun h3 => ⟨hin, hn, .inr ⟨dTT hq2, dTT h3⟩⟩)) (fun _ => Tot.ret (fun h => by cases h)))
    ·cases b with
     | true =>
      obtain ⟨h2, h3, h4⟩ := hb rfl
      refine Tot.join (Tot.bind (p := fun b => b = false → 2 ≤ gr.length → nth gr 1 = n) ?_ (fun b hb => ?_))
      ·refine Tot.ite (fun hq => ?_) (fun hq => Tot.ret (fun _ g => absurd (show (gr.length : Int) ≥ 2 by omega) (dFF hq)))
       have hq := dTT hq
       exact Tot.yes (inR_int (by omega) (by omega)) (Tot.yes (inR_int (by omega) (by omega)) (Tot.ret (fun g _ => by have := dFF g; omega)))
      ·cases b with
       | true => exact Tot.ret ⟨q1, q2, fun h => (by cases h), rfl, rfl, rfl, rfl, rfl, rfl⟩
       | false =>
        have hb := hb rfl
        refine Tot.ret (show Tot _ _ from Tot.yes (room_of (by simp; omega)) (Tot.ret ?_))
        refine ⟨⟨⟨by simp only; omega, by simp only; omega, by simp; omega⟩, by simp only; omega, by simp only; omega, by simp only; omega, by simp only; omega, fun g => by simp at g, fun g => ?_, fun g => ?_, fun _ _ => h4⟩, by simp only; omega⟩
        ·simp at g
         have := q8 (by simp [g])
         simp only; omega
        ·simp only [List.length_append, List.length_cons, List.length_nil] at g
         by_cases g1 : gr.length = 1
         ·obtain ⟨x, rfl⟩ := List.length_eq_one_iff.1 g1
          have := q9 g1
          have e5 : nth ([x] ++ [n]) 1 = n := rfl
          simp only
          rw [e5]
          exact ⟨by omega, by omega⟩
         ·have g2 : 2 ≤ gr.length := by omega
          have e5 : nth (gr ++ [n]) 1 = nth gr 1 := by
           unfold nth
           simp only [List.getD_eq_getElem?_getD]
           rw [List.getElem?_append_left (by omega)]
          have := q10 g2
          simp only
          rw [e5]
          exact ⟨this.1, by omega⟩
     | false =>
      refine Tot.ret (show Tot _ _ from ?_)
      have e4 : IntKind.wrap .i64 (ha + mi) = ha + mi := w64 (by omega) (by omega)
      rw [e4]
      have hn0 : gr ≠ [] → 0 < n := fun g => by
       rcases Int.lt_or_le 0 n with h | h
       ·exact h
       ·exact absurd (q11 g (by omega)) hnat
      refine Tot.bind (p := fun y => y = if gr.length = 1 then (n, n) else (0, 0)) ?_ (fun y hy => Tot.bind (p := fun z => z = if 1 < gr.length then (n, nth gr 1) else y) ?_ (fun z hz => Tot.ret ⟨q1, q2, fun h => ⟨q5, q6, dTT h, ?_⟩, rfl, rfl, rfl, rfl, rfl, rfl⟩))
      ·refine Tot.ite (fun hq => Tot.ret ?_) (fun hq => Tot.ret ?_)
       ·have := dTT hq; rw [if_pos (by omega)]
       ·have := dFF hq; rw [if_neg (by omega), p3, p4]
      ·refine Tot.ite (fun hq => ?_) (fun hq => Tot.ret ?_)
       ·have hq := dTT hq
        refine Tot.yes (inR_int (by omega) (by omega)) (Tot.yes (inR_int (by omega) (by omega)) (Tot.ret ?_))
        rw [if_pos (by omega)]
       ·have := dFF hq; rw [if_neg (by omega)]
      ·subst hz; subst hy
       simp only
       unfold grpP
       by_cases g0 : gr = []
       ·subst g0
        exact .inl ⟨rfl, rfl⟩
       ·have g1 : 0 < gr.length := List.length_pos_iff.2 g0
        have := hn0 g0
        by_cases g2 : gr.length = 1
        ·rw [if_pos g2, if_neg (by omega)]
         have := q9 g2
         exact .inr ⟨by simp only; omega, by simp only; omega, by simp only; omega, fun _ => rfl⟩
        ·have g3 : 2 ≤ gr.length := by omega
         rw [if_pos (by omega)]
         have := q10 g3
         exact .inr ⟨by simp only; omega, by simp only; omega, by simp only; omega, fun h => by simp only at h; omega⟩
theorem number_tot {p : St23} {l : List Int} {i : Int} (hl : l.length ≤ 10000) (h : 0 ≤ i) (hi : i ≤ l.length) (hp : numsP p = zeroN) :
  Tot (exergueref10_number p l i) (fun o => 0 ≤ o.2.1 ∧ o.2.1 ≤ l.length ∧ (o.2.2 = true → canon (numsP o.1))) := by
 simp only [numsP, zeroN, Prod.mk.injEq] at hp
 obtain ⟨p1, p2, p3, p4, p5, p6, p7, p8, p9, p10⟩ := hp
 unfold exergueref10_number
 refine Tot.bind (many_tot hl h hi (by omega)) (fun n hn => ?_)
 have e1 : IntKind.wrap .i64 (i + n) = i + n := w64 (by omega) (by omega)
 rw [e1]
 refine Tot.join (Tot.mono (p := fun x => match x with
  | .inl s => (0 ≤ s.1 ∧ s.1 ≤ l.length) ∧ s.2.2.2.2.2.2.2.2.2.2.2.2.2.2.1 = 0 ∧ s.2.2.2.2.2.2.2.2.2.2.2.2.2.2.2.1 = false ∧ canon (s.2.2.2.2.2.2.1, s.2.2.2.2.2.2.2.1, s.2.2.2.2.2.2.2.2.1, s.2.2.2.2.2.2.2.2.2.1, s.2.2.2.2.2.2.2.2.2.2.1, s.2.2.2.2.2.2.2.2.2.2.2.1, s.2.2.2.2.2.2.2.2.2.2.2.2.1, s.2.2.2.2.2.2.2.2.2.2.2.2.2.1, 0, false)
  | .inr r => 0 ≤ r.2.1 ∧ r.2.1 ≤ l.length ∧ (r.2.2 = true → canon (numsP r.1))) ?_ (fun x hx => ?_))
 ·refine Tot.ite (fun hq => ?_) (fun hq => ?_)
  ·have hq := dTT hq
   refine Tot.bind (many_tot hl (i := i + n) (by omega) (by omega) (by omega)) (fun m hm => Tot.ret ?_)
   rw [w64 (n := i + n + m) (by omega) (by omega), w64 (n := n + m) (by omega) (by omega)]
   refine ⟨⟨by simp only; omega, by simp only; omega⟩, p9, p10, ?_⟩
   simp only [canon, p1, p2, p3, p4, p5, p6]
   exact ⟨by omega, by omega, by omega, by omega, by omega, by omega, by omega, fun _ => trivial, fun _ => by omega, fun _ => ⟨trivial, trivial, trivial, trivial⟩, .inl ⟨rfl, rfl⟩⟩
  ·have hq := dFF hq
   refine Tot.bind (places_tot hl h hi ⟨p1, p2, p5, p6⟩) (fun y hy => ?_)
   obtain ⟨y1, y2, y3, y4, y5, y6, y7, y8, y9⟩ := hy
   refine Tot.ite (fun _ => Tot.ret ⟨y1, y2, fun h => (by cases h)⟩) (fun hok => ?_)
   obtain ⟨z1, z2, z3, z4⟩ := y3 (by simpa using hok)
   rw [at_eq2 y1]
   show Tot (bif _ then _ else _) _
   refine Tot.ite (fun hq => ?_) (fun _ => Tot.ret ⟨⟨y1, y2⟩, by simp only [y8, p9], by simp only [y9, p10], ?_⟩)
   ·have hin := at_in (dTT hq) (by omega)
    have f1 : IntKind.wrap .i64 (y.2.1 + 1) = y.2.1 + 1 := w64 (by omega) (by omega)
    rw [f1]
    refine Tot.bind (many_tot hl (i := y.2.1 + 1) (by omega) (by omega) (by omega)) (fun a ha => ?_)
    have f2 : IntKind.wrap .i64 (y.2.1 + 1 + a) = y.2.1 + 1 + a := w64 (by omega) (by omega)
    rw [f2]
    refine Tot.bind (many_tot hl (i := y.2.1 + 1 + a) (by omega) (by omega) (by omega)) (fun b hb => ?_)
    have f3 : IntKind.wrap .i64 (y.2.1 + 1 + a + b) = y.2.1 + 1 + a + b := w64 (by omega) (by omega)
    have f4 : IntKind.wrap .i64 (a + b) = a + b := w64 (by omega) (by omega)
    rw [f3, f4]
    refine Tot.ite (fun _ => Tot.ret ⟨by simp only; omega, by simp only; omega, fun h => (by cases h)⟩) (fun _ => Tot.ret ⟨⟨by simp only; omega, by simp only; omega⟩, by simp only [y8, p9], by simp only [y9, p10], ?_⟩)
    simp only [canon, y6, y7, p7, p8]
    exact ⟨z1, z2, by omega, by omega, by omega, by omega, by omega, fun _ => trivial, fun _ => ⟨trivial, z3⟩, fun h => by omega, z4⟩
   ·simp only [canon, y4, y5, y6, y7, p3, p4, p7, p8]
    exact ⟨z1, z2, by omega, by omega, by omega, by omega, by omega, fun _ => trivial, fun _ => ⟨trivial, z3⟩, fun h => by omega, z4⟩
 ·cases x with
  | inr r => exact hx
  | inl s =>
   obtain ⟨⟨s1, s2⟩, s3, s4, s5⟩ := hx
   show Tot (Option.bind _ _) _
   rw [at_eq2 s1]
   show Tot (bif _ then _ else _) _
   refine Tot.ite (fun _ => Tot.ret ⟨s1, s2, fun _ => ?_⟩) (fun hq => ?_)
   ·simp only [numsP, s3, s4]; exact s5
   have hq : atV l s.1 = 69 := by have := dFF hq; omega
   have hin := at_in hq (by omega)
   have f1 : IntKind.wrap .i64 (s.1 + 1) = s.1 + 1 := w64 (by omega) (by omega)
   rw [f1, at_eq2 (by omega)]
   refine Tot.bind (p := fun t : Int × Bool => 0 ≤ t.1 ∧ t.1 ≤ (l.length : Int)) ?_ (fun t ht => ?_)
   ·show Tot (bif _ then _ else _) _
    refine Tot.ite (fun hq => ?_) (fun _ => Tot.ret ⟨by simp only; omega, by simp only; omega⟩)
    have := at_in (dTT hq) (by omega)
    rw [w64 (n := s.1 + 1 + 1) (by omega) (by omega)]
    exact Tot.ret ⟨by simp only; omega, by simp only; omega⟩
   ·refine Tot.bind (many_tot hl ht.1 ht.2 (by omega)) (fun n hn => Tot.ret ?_)
    rw [w64 (n := t.1 + n) (by omega) (by omega)]
    refine ⟨by simp only; omega, by simp only; omega, fun hex => ?_⟩
    have hex := dTT hex
    simp only [numsP, canon] at s5 ⊢
    obtain ⟨c1, c2, c3, c4, c5, c6, c7, c8, c9, c10, c11⟩ := s5
    exact ⟨c1, c2, c3, c4, c5, c6, by omega, fun h => by omega, c9, c10, c11⟩
theorem first_tot {l : List Int} (hl : l.length ≤ 10000) : Tot (exergueref10_first l) (fun o => o.2.2.2.2 = true → canon (numsP o.1) ∧ 0 ≤ o.2.1 ∧ o.2.2.1 ≤ l.length ∧ 0 ≤ o.2.2.2.1 ∧ o.2.2.2.1 ≤ l.length) := by
 unfold exergueref10_first
 refine Tot.bind (pad_tot hl (by omega) (by omega)) (fun a ha => Tot.ite (fun _ => Tot.ret (fun h => by cases h)) (fun h1 => ?_))
 have h1 : a.2.2 = true := by simpa using h1
 refine Tot.bind (affix_tot hl ha.1 (ha.2.1 h1)) (fun b hb => Tot.ite (fun _ => Tot.ret (fun h => by cases h)) (fun h2 => ?_))
 refine Tot.bind (pad_tot hl hb.1 hb.2) (fun c hc => Tot.ite (fun _ => Tot.ret (fun h => by cases h)) (fun h3 => ?_))
 have h3 : c.2.2 = true := by simpa using h3
 have hpc : numsP c.1 = zeroN := hc.2.2.trans ha.2.2
 refine Tot.bind (number_tot hl hc.1 (hc.2.1 h3) hpc) (fun d hd => Tot.ite (fun _ => Tot.ret (fun h => by cases h)) (fun h4 => ?_))
 have h4 : d.2.2 = true := by simpa using h4
 refine Tot.bind (pad_tot hl hd.1 hd.2.1) (fun e he => Tot.ite (fun _ => Tot.ret (fun h => by cases h)) (fun h5 => ?_))
 have h5 : e.2.2 = true := by simpa using h5
 refine Tot.bind (affix_tot hl he.1 (he.2.1 h5)) (fun f hf => Tot.ite (fun _ => Tot.ret (fun h => by cases h)) (fun h6 => ?_))
 refine Tot.bind (pad_tot hl hf.1 hf.2) (fun g hg => Tot.ret (fun h7 => ⟨?_, hc.1, hd.2.1, hg.1, hg.2.1 h7⟩))
 have hn : numsP g.1 = numsP d.1 := hg.2.2.trans he.2.2
 rw [hn]
 exact hd.2.2 h4
theorem affix_any {l : List Int} {i : Int} (hl : l.length ≤ 10000) (h : 0 ≤ i) : Tot (exergueref10_affix l i) (fun _ => True) := by
 by_cases hi : i ≤ l.length
 ·exact (affix_tot hl h hi).any
 ·unfold exergueref10_affix
  refine Tot.join (Tot.loop (fun s : Int × List St33 => (l.length : Int) < s.1) (fun _ => 0) (by simp only; omega) (by decide) (fun s hs => ?_))
  rw [dF (show ¬ s.1 < (l.length : Int) by omega)]
  exact Tot.ret (Tot.ret trivial)
theorem second_tot {p : St23} {l : List Int} {i a b : Int} (hl : l.length ≤ 10000) (h : 0 ≤ i) (hi : i ≤ l.length) (ha : 0 ≤ a) (hb : b ≤ l.length) :
  Tot (exergueref10_second p l i a b) (fun o => numsP o.1 = numsP p) := by
 unfold exergueref10_second
 refine Tot.bind (affix_tot hl h hi) (fun c hc => Tot.ite (fun _ => Tot.ret rfl) (fun _ => ?_))
 refine Tot.join (Tot.mono (p := fun x => match x with | .inl s => 0 ≤ s | .inr r => numsP r.1 = numsP p) ?_ (fun x hx => ?_))
 ·refine Tot.loop (fun s : Int × Int => 0 ≤ s.1 ∧ s.1 ≤ (l.length : Int) + s.2 ∧ 0 ≤ s.2) (fun s => (b - s.2).toNat) ⟨hc.1, by simp only; omega, ha⟩ (by simp only; omega) (fun s hs => ?_)
  refine Tot.ite (fun hh => ?_) (fun _ => Tot.ret hs.1)
  have hh := dTT hh
  rw [at_eq2 hs.1]
  show Tot (bif _ then _ else _) _
  refine Tot.yes (inR_int hs.2.2 (by omega)) (Tot.ite (fun _ => Tot.ret rfl) (fun hq => Tot.ret ?_))
  have e1 : IntKind.wrap .i64 (s.1 + 1) = s.1 + 1 := w64 (by omega) (by omega)
  have e2 : IntKind.wrap .i64 (s.2 + 1) = s.2 + 1 := w64 (by omega) (by omega)
  rw [e1, e2]
  exact ⟨⟨by simp only; omega, by simp only; omega, by simp only; omega⟩, by simp only; omega⟩
 ·cases x with
  | inr r => exact hx
  | inl s =>
   show Tot _ _
   exact Tot.bind (affix_any hl hx) (fun d hd => Tot.ret rfl)
/-! Texts of patterns, read: there is an answer. -/
theorem tails_tot {b : List Int} {at' k n : Int} (hl : b.length ≤ 100000) (h : 0 ≤ at') (ha : at' ≤ b.length) (hk : 0 ≤ k) (hk2 : k ≤ 3) : Tot (exergueref01_tails b at' k n) (fun _ => True) := by
 unfold exergueref01_tails
 rw [w64 (n := at' + k) (by omega) (by omega)]
 refine Tot.ite (fun _ => Tot.ret trivial) (fun hh => ?_)
 have hh := dFF hh
 refine Tot.join (Tot.loop (fun s : Int × Int => 1 ≤ s.2 ∧ s.2 ≤ k + 1) (fun s => (k + 1 - s.2).toNat) ⟨by simp only; omega, by simp only; omega⟩ (by simp only; omega) (fun s hs => ?_))
 refine Tot.ite (fun hq => ?_) (fun _ => Tot.ret (Tot.ret trivial))
 have hq := dTT hq
 have e1 : IntKind.wrap .i64 (at' + s.2) = at' + s.2 := w64 (by omega) (by omega)
 have e2 : IntKind.wrap .i64 (s.2 + 1) = s.2 + 1 := w64 (by omega) (by omega)
 rw [e1, e2]
 refine Tot.join (Tot.yes (inR_int (by omega) (by omega)) ?_)
 refine Tot.join (Tot.bind (p := fun _ => True) ?_ (fun c _ => ?_))
 ·exact Tot.ite (fun _ => Tot.ret trivial) (fun _ => Tot.ret trivial)
 ·cases c with
  | true => exact Tot.ret trivial
  | false => exact Tot.ret (Tot.ret (Tot.ret ⟨⟨by simp only; omega, by simp only; omega⟩, by simp only; omega⟩))
theorem one_tot {b : List Int} {at' : Int} (hl : b.length ≤ 100000) (h : 0 ≤ at') (ha : at' < b.length) : Tot (exergueref01_one b at') (fun n => n < 0 ∨ exergueref01_Is (IntKind.wrap .i32 n) = some true) := by
 unfold exergueref01_one
 refine Tot.yes (inR_int h ha) ?_
 have ht : ∀ k n, 0 ≤ k → k ≤ 3 → Tot (exergueref01_tails b at' k n) (fun _ => True) := fun k n h1 h2 => tails_tot hl h (by omega) h1 h2
 refine Tot.bind (p := fun _ => True) (Tot.ite (fun _ => Tot.ret trivial) (fun _ => Tot.ret trivial)) (fun a _ => ?_)
 refine Tot.bind (p := fun _ => True) ?_ (fun a _ => Tot.bind (p := fun _ => True) ?_ (fun a _ => Tot.bind (p := fun _ => True) ?_ (fun a _ => ?_)))
 ·refine Tot.bind (p := fun _ => True) (Tot.ite (fun _ => Tot.ret trivial) (fun _ => Tot.ret trivial)) (fun _ _ => Tot.ite (fun _ => Tot.bind (ht 1 _ (by omega) (by omega)) (fun _ _ => Tot.ret trivial)) (fun _ => Tot.ret trivial))
 ·refine Tot.bind (p := fun _ => True) (Tot.ite (fun _ => Tot.ret trivial) (fun _ => Tot.ret trivial)) (fun _ _ => Tot.ite (fun _ => Tot.bind (ht 2 _ (by omega) (by omega)) (fun _ _ => Tot.ret trivial)) (fun _ => Tot.ret trivial))
 ·refine Tot.bind (p := fun _ => True) (Tot.ite (fun _ => Tot.ret trivial) (fun _ => Tot.ret trivial)) (fun _ _ => Tot.ite (fun _ => Tot.bind (ht 3 _ (by omega) (by omega)) (fun _ _ => Tot.ret trivial)) (fun _ => Tot.ret trivial))
 ·obtain ⟨v, hv, _⟩ := is_tot (IntKind.wrap .i32 a.1)
  rw [hv]
  show Tot (Option.bind _ _) _
  refine Tot.join (Tot.bind (p := fun c => c = false → v = true) (Tot.ite (fun _ => Tot.ret (fun h => by cases h)) (fun _ => Tot.ret (fun h => by simpa using h))) (fun c hc => ?_))
  cases c with
  | true => exact Tot.ret (.inl (by decide))
  | false => exact Tot.ret (Tot.ret (.inr (by rw [hv, hc rfl])))
theorem decode_tot {b : List Int} (hl : b.length ≤ 100000) : Tot (exergueref01_Decode b) (fun _ => True) := by
 unfold exergueref01_Decode
 refine Tot.join (Tot.loop (fun s : Int × List Int => 0 ≤ s.1 ∧ s.1 ≤ (b.length : Int) + 4 ∧ (s.2.length : Int) ≤ s.1) (fun s => ((b.length : Int) + 4 - s.1).toNat) ⟨by simp only; omega, by simp only; omega, by simp⟩ (by simp only; omega) (fun s hs => ?_))
 refine Tot.ite (fun hq => ?_) (fun _ => Tot.ret (Tot.ret trivial))
 have hq := dTT hq
 refine Tot.bind (one_tot hl hs.1 hq) (fun n hn => Tot.ite (fun _ => Tot.ret trivial) (fun hneg => ?_))
 have hneg := dFF hneg
 have his := hn.resolve_left hneg
 refine Tot.yes (room_of (by simp; omega)) (Tot.bind (size_tot _) (fun z hz => Tot.ret ?_))
 have h1 := hz.2.2 his
 have e1 : IntKind.wrap .i64 (s.1 + z) = s.1 + z := w64 (by omega) (by omega)
 rw [e1]
 exact ⟨⟨by simp only; omega, by simp only; omega, by simp; omega⟩, by simp only; omega⟩
theorem times_tot {t : List UInt8} {n : Int} (ht : t.length ≤ 1) (hn : n ≤ 1000) : Tot (exergueref10_times t n) (fun l => l.length ≤ 1000) := by
 unfold exergueref10_times
 refine Tot.bind (p := fun l => l.length ≤ 1000) ?_ (fun _ h => Tot.ret h)
 refine Tot.loop (fun s : List UInt8 × Int => 0 ≤ s.2 ∧ s.2 ≤ 1000 ∧ (s.1.length : Int) ≤ s.2) (fun s => (1000 - s.2).toNat) ⟨by simp only; omega, by simp only; omega, by simp⟩ (by simp only; omega) (fun s hs => ?_)
 refine Tot.ite (fun hq => ?_) (fun _ => Tot.ret (by simp only; omega))
 have hq := dTT hq
 refine Tot.yes (room_of (by omega)) (Tot.ret ?_)
 have e1 : IntKind.wrap .i64 (s.2 + 1) = s.2 + 1 := w64 (by omega) (by omega)
 rw [e1]
 exact ⟨⟨by simp only; omega, by simp only; omega, by simp; omega⟩, by simp only; omega⟩
def cntP (p : St23) : Prop := (0 ≤ p.Hash_ ∧ p.Hash_ ≤ 40) ∧ (0 ≤ p.MinInt_ ∧ p.MinInt_ ≤ 40) ∧ (0 ≤ p.MinFrac_ ∧ p.MinFrac_ ≤ 40) ∧ (0 ≤ p.MaxFrac_ ∧ p.MaxFrac_ ≤ 40) ∧ (0 ≤ p.G1_ ∧ p.G1_ ≤ 40) ∧ (0 ≤ p.G2_ ∧ p.G2_ ≤ 40) ∧ (0 ≤ p.MinSig_ ∧ p.MinSig_ ≤ 40) ∧ (0 ≤ p.MaxSig_ ∧ p.MaxSig_ ≤ 40) ∧ (0 ≤ p.Exp_ ∧ p.Exp_ ≤ 40)
theorem number_text {p : St23} (hp : cntP p) : Tot (exergueref10_Number p) (fun l => l.length ≤ 8000) := by
 obtain ⟨c1, c2, c3, c4, c5, c6, c7, c8, c9⟩ := hp
 unfold exergueref10_Number
 have e0 : IntKind.wrap .i64 (p.Hash_ + p.MinInt_) = p.Hash_ + p.MinInt_ := w64 (by omega) (by omega)
 have e1 : IntKind.wrap .i64 (p.MaxSig_ - p.MinSig_) = p.MaxSig_ - p.MinSig_ := w64 (by omega) (by omega)
 have e2 : IntKind.wrap .i64 (p.MaxFrac_ - p.MinFrac_) = p.MaxFrac_ - p.MinFrac_ := w64 (by omega) (by omega)
 rw [e0, e1, e2]
 refine Tot.bind (p := fun l => l.length ≤ 200) ?_ (fun a ha => ?_)
 ·refine Tot.loop (fun s : List UInt8 × Int => 0 ≤ s.2 ∧ s.2 ≤ 80 ∧ (s.1.length : Int) ≤ 2 * s.2) (fun s => (80 - s.2).toNat) ⟨by simp only; omega, by simp only; omega, by simp⟩ (by simp only; omega) (fun s hs => ?_)
  refine Tot.ite (fun hq => ?_) (fun _ => Tot.ret (by simp only; omega))
  have hq := dTT hq
  have f1 : IntKind.wrap .i64 (s.2 + 1) = s.2 + 1 := w64 (by omega) (by omega)
  rw [f1]
  refine Tot.bind (p := fun l => (l.length : Int) ≤ s.1.length + 2) ?_ (fun b hb => Tot.ret ⟨⟨by simp only; omega, by simp only; omega, by simp only; omega⟩, by simp only; omega⟩)
  refine Tot.bind (p := fun l => (l.length : Int) ≤ s.1.length + 1) ?_ (fun b hb => ?_)
  ·refine Tot.bind (p := fun _ => True) ?_ (fun g _ => Tot.ite (fun _ => Tot.yes (room_of (by simp; omega)) (Tot.ret (by simp))) (fun _ => Tot.ret (by omega)))
   refine Tot.ite (fun _ => Tot.ite (fun _ => Tot.ret trivial) (fun _ => Tot.ite (fun _ => Tot.ite (fun hg => ?_) (fun _ => Tot.ret trivial)) (fun _ => Tot.ret trivial))) (fun _ => Tot.ret trivial)
   have hg := dTT hg
   exact Tot.yes (by unfold nz; rw [dF (by omega)]; rfl) (Tot.ret trivial)
  ·exact Tot.ite (fun _ => Tot.yes (room_of (by simp; omega)) (Tot.ret (by simp; omega))) (fun _ => Tot.yes (room_of (by simp; omega)) (Tot.ret (by simp; omega)))
 ·refine Tot.bind (times_tot (by simp) (by omega)) (fun b hb => Tot.bind (times_tot (by simp) (by omega)) (fun c hc => ?_))
  refine Tot.yes (room_of (by omega)) (Tot.yes (room_of (by simp; omega)) ?_)
  refine Tot.bind (p := fun l => l.length ≤ 5000) ?_ (fun d hd => ?_)
  ·refine Tot.ite (fun _ => Tot.yes (room_of (by simp; omega)) (Tot.bind (times_tot (by simp) (by omega)) (fun e he => Tot.yes (room_of (by simp; omega)) (Tot.bind (times_tot (by simp) (by omega)) (fun f hf => Tot.yes (room_of (by simp; omega)) (Tot.ret (by simp; omega))))))) (fun _ => Tot.ret (by simp; omega))
  ·refine Tot.bind (p := fun l => l.length ≤ 8000) ?_ (fun d hd => Tot.ret hd)
   refine Tot.ite (fun _ => Tot.yes (room_of (by simp; omega)) (Tot.bind (p := fun l => l.length ≤ 5002) ?_ (fun e he => Tot.bind (times_tot (by simp) (by omega)) (fun f hf => Tot.yes (room_of (by omega)) (Tot.ret (by simp; omega)))))) (fun _ => Tot.ret (by omega))
   exact Tot.ite (fun _ => Tot.yes (room_of (by simp; omega)) (Tot.ret (by simp; omega))) (fun _ => Tot.ret (by simp; omega))
theorem written_tot {l : List St33} (hl : l.length ≤ 300) : Tot (exergueref10_written l) (fun t => t.length ≤ 3000) := by
 unfold exergueref10_written
 refine Tot.bind (p := fun s => s.1.length ≤ 2999) ?_ (fun s hs => Tot.bind (p := fun t => t.length ≤ 3000) (Tot.ite (fun _ => Tot.yes (room_of (by simp; omega)) (Tot.ret (by simp; omega))) (fun _ => Tot.ret (by omega))) (fun _ h => Tot.ret h))
 refine Tot.loop (fun s : List UInt8 × Bool × Int => 0 ≤ s.2.2 ∧ s.2.2 ≤ (l.length : Int) ∧ (s.1.length : Int) ≤ 8 * s.2.2) (fun s => ((l.length : Int) - s.2.2).toNat) ⟨by simp only; omega, by simp only; omega, by simp⟩ (by simp only; omega) (fun s hs => ?_)
 refine Tot.ite (fun hq => ?_) (fun _ => Tot.ret (by simp only; omega))
 have hq := dTT hq
 have hin := inR_int hs.1 hq
 have f1 : IntKind.wrap .i64 (s.2.2 + 1) = s.2.2 + 1 := w64 (by omega) (by omega)
 rw [f1]
 refine Tot.bind (p := fun t => (t.1.length : Int) ≤ s.1.length + 8) ?_ (fun t ht => Tot.ret ⟨⟨by simp only; omega, by simp only; omega, by simp only; omega⟩, by simp only; omega⟩)
 refine Tot.yes hin (Tot.bind (special_tot _) (fun sp _ => Tot.bind (p := fun _ => True) ?_ (fun ap _ => Tot.bind (p := fun _ => True) ?_ (fun qu _ => Tot.bind (p := fun t => (t.1.length : Int) ≤ s.1.length + 1) ?_ (fun t ht => ?_)))))
 ·exact Tot.yes hin (Tot.ite (fun _ => Tot.yes hin (Tot.ret trivial)) (fun _ => Tot.ret trivial))
 ·exact Tot.yes hin (Tot.ite (fun _ => Tot.ret trivial) (fun _ => Tot.ret trivial))
 ·exact Tot.bind (p := fun _ => True) (Tot.ite (fun _ => Tot.ret trivial) (fun _ => Tot.ret trivial)) (fun _ _ => Tot.ite (fun _ => Tot.yes (room_of (by simp; omega)) (Tot.ret (by simp))) (fun _ => Tot.ret (by simp only; omega)))
 ·have sgn : ∀ c : UInt8, Tot (bif room (t.1.length + ([c] : List UInt8).length) then (some ((t.1 ++ ([c] : List UInt8)), t.2)) else none) (fun u => (u.1.length : Int) ≤ s.1.length + 8) := fun c => Tot.yes (room_of (by simp; omega)) (Tot.ret (by simp; omega))
  refine Tot.yes hin (Tot.ite (fun _ => Tot.yes hin (Tot.bind (text_tot _) (fun x hx => Tot.yes (room_of (by omega)) (Tot.ite (fun _ => Tot.yes (room_of (by simp; omega)) (Tot.ret (by simp; omega))) (fun _ => Tot.ret (by simp; omega)))))) (fun _ => Tot.ite (fun _ => sgn _) (fun _ => Tot.ite (fun _ => sgn _) (fun _ => Tot.ite (fun _ => sgn _) (fun _ => Tot.ite (fun _ => ?_) (fun _ => Tot.ret (by simp only; omega)))))))
  exact Tot.bind (text_tot _) (fun x hx => Tot.yes (room_of (by omega)) (Tot.ret (by simp; omega)))
theorem padded_tot (p : St23) (w : Int) : Tot (exergueref10_padded p w) (fun t => t.length ≤ 5) := by
 unfold exergueref10_padded
 exact Tot.ite (fun _ => Tot.bind (text_tot _) (fun x hx => Tot.yes (room_of (by simp; omega)) (Tot.ret (by simp; omega)))) (fun _ => Tot.ret (by simp))
theorem ptext_tot {p : St23} (hp : cntP p) (h1 : p.Pre_.length ≤ 300) (h2 : p.Suf_.length ≤ 300) (h3 : p.NPre_.length ≤ 300) (h4 : p.NSuf_.length ≤ 300) : Tot (exergueref10_Text p) (fun t => t.length ≤ 50000) := by
 unfold exergueref10_Text
 refine Tot.bind (padded_tot p 1) (fun a ha => Tot.bind (written_tot h1) (fun b hb => Tot.yes (room_of (by omega)) ?_))
 refine Tot.bind (padded_tot p 2) (fun c hc => Tot.yes (room_of (by simp; omega)) (Tot.bind (number_text hp) (fun d hd => Tot.yes (room_of (by simp; omega)) ?_)))
 refine Tot.bind (padded_tot p 3) (fun e he => Tot.yes (room_of (by simp; omega)) (Tot.bind (written_tot h2) (fun f hf => Tot.yes (room_of (by simp; omega)) ?_)))
 refine Tot.bind (padded_tot p 4) (fun g hg => Tot.yes (room_of (by simp; omega)) ?_)
 refine Tot.bind (p := fun t => t.length ≤ 50000) ?_ (fun _ h => Tot.ret h)
 refine Tot.ite (fun _ => ?_) (fun _ => Tot.ret (by simp; omega))
 refine Tot.yes (room_of (by simp; omega)) (Tot.bind (written_tot h3) (fun i hi => Tot.yes (room_of (by simp; omega)) (Tot.bind (number_text hp) (fun j hj => Tot.yes (room_of (by simp; omega)) (Tot.bind (written_tot h4) (fun k hk => Tot.yes (room_of (by simp; omega)) (Tot.ret (by simp; omega))))))))
theorem parse_tot {t : List UInt8} (ht : t.length ≤ 100000) : Tot (exergueref10_Parse t) (fun o => o.2.2 = 0 → canon (numsP o.1)) := by
 unfold exergueref10_Parse
 refine Tot.bind (decode_tot (by rw [bytesI_len]; exact ht)) (fun d _ => Tot.ite (fun _ => Tot.ret (fun h => by cases h)) (fun _ => Tot.ite (fun _ => Tot.ret (fun h => by cases h)) (fun h1 => ?_)))
 have h1 := dFF h1
 have hl : d.1.length ≤ 10000 := by omega
 refine Tot.bind (first_tot hl) (fun f hf => ?_)
 refine Tot.bind (p := fun s => s.2.1 = true → canon (s.2.2.2.2.2.2.2.1, s.2.2.2.2.2.2.2.2.1, s.2.2.2.2.2.2.2.2.2.1, s.2.2.2.2.2.2.2.2.2.2.1, s.2.2.2.2.2.2.2.2.2.2.2.1, s.2.2.2.2.2.2.2.2.2.2.2.2.1, s.2.2.2.2.2.2.2.2.2.2.2.2.2.1, s.2.2.2.2.2.2.2.2.2.2.2.2.2.2.1, s.2.2.2.2.2.2.2.2.2.2.2.2.2.2.2.1, s.2.2.2.2.2.2.2.2.2.2.2.2.2.2.2.2.1)) ?_ (fun s hs => ?_)
 ·refine Tot.bind (p := fun b => b = true → f.2.2.2.2 = true ∧ f.2.2.2.1 < d.1.length) ?_ (fun b hb => ?_)
  ·refine Tot.ite (fun hq => ?_) (fun _ => Tot.ret (fun h => by cases h))
   rw [at_eq2 (hf hq).2.2.2.1]
   exact Tot.ret (fun h => ⟨hq, at_in (dTT h) (by omega)⟩)
  ·refine Tot.ite (fun hq => ?_) (fun _ => Tot.ret (fun h => (hf h).1))
   obtain ⟨g1, g2⟩ := hb hq
   have g := hf g1
   have f1 : IntKind.wrap .i64 (f.2.2.2.1 + 1) = f.2.2.2.1 + 1 := w64 (by omega) (by omega)
   rw [f1]
   exact Tot.bind (second_tot hl (by omega) (by omega) g.2.1 g.2.2.1) (fun o ho => Tot.ret (fun _ => by have g0 := g.1; rw [← ho] at g0; exact g0))
 ·refine Tot.join (Tot.bind (p := fun b => b = false → s.2.1 = true) (Tot.ite (fun _ => Tot.ret (fun h => by cases h)) (fun h => Tot.ret (fun _ => by simpa using h))) (fun b hb => ?_))
  cases b with
  | true => exact Tot.ret (fun h => by cases h)
  | false =>
   have hs := hs (hb rfl)
   refine Tot.ret (show Tot _ _ from Tot.join (Tot.bind (p := fun _ => True) ?_ (fun b _ => ?_)))
   ·repeat' (first | exact Tot.ret trivial | refine Tot.ite (fun _ => ?_) (fun _ => ?_))
   ·cases b with
    | true => exact Tot.ret (fun h => by cases h)
    | false => exact Tot.ret (Tot.ret (fun _ => hs))
theorem toks_eq {x y : List St33} (hl : x.length ≤ 4611686018427387904) : exergueref10_Toks x y = some (decide (x = y)) := tok_eq hl
theorem rsame_eq {a b : St23} (hl : lens a) : exergueref10_Same a b = some (decide (a = b)) := by
 obtain ⟨l1, l2, l3, l4⟩ := hl
 unfold exergueref10_Same
 rw [toks_eq l1, toks_eq l2, toks_eq l3, toks_eq l4]
 simp only [Option.bind_some]
 obtain ⟨p1, p2, p3, p4, p5, p6, p7, p8, p9, p10, p11, p12, p13, p14, p15, p16, p17⟩ := a
 obtain ⟨q1, q2, q3, q4, q5, q6, q7, q8, q9, q10, q11, q12, q13, q14, q15, q16, q17⟩ := b
 simp only [St23.mk.injEq]
 by_cases h1 : p1 = q1
 ·by_cases h2 : p2 = q2
  ·by_cases h3 : p3 = q3
   ·by_cases h4 : p4 = q4
    ·by_cases h16 : p16 = q16
     ·by_cases h17 : p17 = q17
      ·by_cases h6 : p6 = q6 <;> by_cases h7 : p7 = q7 <;> by_cases h10 : p10 = q10 <;> by_cases h11 : p11 = q11 <;> cases p5 <;> cases q5 <;> cases p15 <;> cases q15 <;> simp [h1, h2, h3, h4, h6, h7, h10, h11, h16, h17, joinX] <;> (by_cases h8 : p8 = q8 <;> by_cases h9 : p9 = q9 <;> by_cases h12 : p12 = q12 <;> by_cases h13 : p13 = q13 <;> simp [h8, h9, h12, h13])
      ·cases p5 <;> cases q5 <;> simp [h1, h2, h3, h4, h16, h17, joinX]
     ·cases p5 <;> cases q5 <;> simp [h1, h2, h3, h4, h16, joinX]
    ·simp [h1, h2, h3, h4, joinX]
   ·simp [h1, h2, h3, joinX]
  ·by_cases h3 : p3 = q3 <;> simp [h1, h2, h3, joinX]
 ·by_cases h3 : p3 = q3 <;> simp [h1, h3, joinX]
/-! The text of a number. -/
theorem rune_ascii {c : Int} (h0 : 0 ≤ c) (h1 : c < 128) : (Utf8.encode c).data.toList = [UInt8.ofNat c.toNat] := by
 have hv : Utf8.valid c = true := by
  unfold Utf8.valid
  simp only [Bool.or_eq_true, Bool.and_eq_true, decide_eq_true_eq]
  exact .inl ⟨h0, by omega⟩
 unfold Utf8.encode
 simp only [hv, if_true]
 rw [if_pos (by omega)]
def asc (l : List Int) : Prop := ∀ c ∈ l, 0 ≤ c ∧ c < 128
theorem runes_ascii : ∀ {l : List Int}, asc l → runesS l = bytesS l
 | [], _ => rfl
 | c :: l, h => by
  have h1 := h c (List.mem_cons_self ..)
  have ih := runes_ascii (l := l) (fun x hx => h x (List.mem_cons_of_mem _ hx))
  unfold runesS bytesS at *
  rw [List.flatMap_cons, ih, rune_ascii h1.1 h1.2]; rfl
theorem some_eq {n : Int} (h0 : 0 ≤ n) (h1 : n ≤ 121) : pat_some n = some n := by
 unfold pat_some maxI minI
 congr 1
 repeat' split
 all_goals omega
theorem repeat_eq {out : List Int} {c n : Int} (h0 : 0 ≤ n) (h1 : n ≤ 121) (ho : out.length ≤ 1000000) : pat_repeat out c n = some (out ++ List.replicate n.toNat c) := by
 unfold pat_repeat
 rw [some_eq h0 h1]
 simp only [Option.bind_some]
 obtain ⟨m, rfl⟩ : ∃ m : Nat, n = m := ⟨n.toNat, by omega⟩
 have hm : m ≤ 121 := by omega
 obtain ⟨o, h2, h3⟩ := loop_count (step := fun (s33 : Int × (List Int)) => (bif (decide (s33.1 < (m : Int))) then (bif room (s33.2.length + ([c] : List Int).length) then (some (.inl ((IntKind.wrap .i64 (s33.1 + 1)), (s33.2 ++ ([c] : List Int))))) else none) else (some (.inr s33.2)))) m (fun i => ((i : Int), out ++ List.replicate i c)) (fun _ => True) (fun o => o = out ++ List.replicate m c) (s0 := (0, out)) (by simp) trivial (fun i hi _ => by
  left
  refine ⟨?_, trivial⟩
  simp only
  rw [dT (by omega), room_of (by simp; omega), w64 (by omega) (by omega)]
  simp only [cond_true]
  congr 1
  rw [List.append_assoc, ← List.replicate_succ']
  rfl) (fun _ => ⟨out ++ List.replicate m c, by simp only; rw [dF (by omega)]; rfl, rfl⟩) (by omega)
 rw [h2, h3]
 simp
def grpB (g1 g2 n : Int) : Bool := decide (1 ≤ g1) && (decide (g1 ≤ n) && (decide (n = g1) || (decide (0 < g2) && decide ((n - g1) % g2 = 0))))
theorem grouped_eq {p : St23} {n : Int} (h0 : 0 ≤ n) (h1 : n ≤ 1000) (hc : 0 ≤ p.G1_ ∧ p.G1_ ≤ 40) (hc2 : 0 ≤ p.G2_ ∧ p.G2_ ≤ 40) : pat_grouped p n = some (grpB p.G1_ p.G2_ n) := by
 unfold pat_grouped grpB
 by_cases c1 : p.G1_ < 1
 ·rw [dT c1, dF (show ¬ 1 ≤ p.G1_ by omega)]; rfl
 ·rw [dF c1, dT (show 1 ≤ p.G1_ by omega)]
  by_cases c2 : n < p.G1_
  ·rw [dT c2, dF (show ¬ p.G1_ ≤ n by omega)]; rfl
  ·rw [dF c2, dT (show p.G1_ ≤ n by omega)]
   by_cases c3 : n = p.G1_
   ·rw [dT c3]; rfl
   ·rw [dF c3]
    by_cases c4 : p.G2_ > 0
    ·rw [dT c4, w64 (n := n - p.G1_) (by omega) (by omega)]
     have hz : nz p.G2_ = true := by unfold nz; rw [dF (by omega)]; rfl
     rw [hz, Int.tmod_eq_emod_of_nonneg (by omega)]
     simp [joinX]
    ·rw [dF c4]; simp [joinX]
def plc (g1 g2 : Int) (t ha : Nat) (i : Nat) : List Int := (if 0 < i ∧ grpB g1 g2 ((t : Int) - i) = true then [44] else []) ++ [if i < ha then 35 else 48]
def plcs (g1 g2 : Int) (t ha n : Nat) : List Int := (List.range n).flatMap (plc g1 g2 t ha)
theorem plcs_succ (g1 g2 : Int) (t ha n : Nat) : plcs g1 g2 t ha (n + 1) = plcs g1 g2 t ha n ++ plc g1 g2 t ha n := by
 unfold plcs; rw [List.range_succ, List.flatMap_append]; simp
theorem plc_len (g1 g2 : Int) (t ha i : Nat) : (plc g1 g2 t ha i).length ≤ 2 := by
 unfold plc; split <;> simp
theorem plcs_len (g1 g2 : Int) (t ha : Nat) : ∀ n, (plcs g1 g2 t ha n).length ≤ 2 * n
 | 0 => by simp [plcs]
 | n + 1 => by
  rw [plcs_succ, List.length_append]
  have := plcs_len g1 g2 t ha n
  have := plc_len g1 g2 t ha n
  omega
theorem places_eq {p : St23} {out : List Int} {ha mi : Nat} (hh : p.Hash_ = ha) (hm : p.MinInt_ = mi) (h1 : ha ≤ 40) (h2 : mi ≤ 40) (hc : 0 ≤ p.G1_ ∧ p.G1_ ≤ 40) (hc2 : 0 ≤ p.G2_ ∧ p.G2_ ≤ 40) (ho : out.length ≤ 1000000) :
  pat_places out p = some (out ++ plcs p.G1_ p.G2_ (ha + mi) ha (ha + mi)) := by
 unfold pat_places
 rw [hh, hm, some_eq (by omega) (by omega), some_eq (by omega) (by omega)]
 simp only [Option.bind_some]
 rw [w64 (n := (ha : Int) + mi) (by omega) (by omega)]
 generalize hst : (fun (s357 : Int × (List Int)) => (bif (decide (s357.1 < (ha : Int) + mi)) then (Option.bind (Option.bind (Option.bind (bif (decide (s357.1 > 0)) then (Option.bind (pat_grouped p ((IntKind.wrap .i64 ((ha : Int) + mi - s357.1)))) fun y688 => (some y688)) else (some false)) fun (s680 : Bool) => (bif s680 then (bif room (s357.2.length + ([44] : List Int).length) then (some (s357.2 ++ ([44] : List Int))) else none) else (some s357.2))) fun (s669 : (List Int)) => (bif (decide (s357.1 < (ha : Int))) then (bif room (s669.length + ([35] : List Int).length) then (some (s669 ++ ([35] : List Int))) else none) else (bif room (s669.length + ([48] : List Int).length) then (some (s669 ++ ([48] : List Int))) else none))) fun (s643 : (List Int)) => (some (.inl ((IntKind.wrap .i64 (s357.1 + 1)), s643) : (Int × List Int) ⊕ List Int))) else (some (.inr s357.2)))) = step
 obtain ⟨o, g2, g3⟩ := loop_count (step := step) (ha + mi) (fun i => ((i : Int), out ++ plcs p.G1_ p.G2_ (ha + mi) ha i)) (fun _ => True) (fun o => o = out ++ plcs p.G1_ p.G2_ (ha + mi) ha (ha + mi)) (s0 := (0, out)) (by simp [plcs]) trivial (fun i hi _ => by
  left
  refine ⟨?_, trivial⟩
  subst hst
  have hl := plcs_len p.G1_ p.G2_ (ha + mi) ha i
  generalize hP : plcs p.G1_ p.G2_ (ha + mi) ha i = P at hl
  simp only
  rw [dT (show (i : Int) < (ha : Int) + mi by omega), w64 (n := (ha : Int) + mi - i) (by omega) (by omega), grouped_eq (by omega) (by omega) hc hc2, w64 (n := (i : Int) + 1) (by omega) (by omega), plcs_succ, hP]
  have hrm : ∀ (x : List Int) (c : Int), x.length ≤ 1000300 → room (x.length + ([c] : List Int).length) = true := fun x c hx => room_of (by simp; omega)
  have hPl : (out ++ P).length ≤ 1000200 := by simp; omega
  have hcast : ((ha + mi : Nat) : Int) - i = (ha : Int) + mi - i := by omega
  unfold plc
  rw [hcast]
  simp only [cond_true]
  generalize hgb : grpB p.G1_ p.G2_ ((ha : Int) + mi - i) = gb
  have hA : (Option.bind (bif (decide ((i : Int) > 0)) then (Option.bind (some gb) fun y688 => (some y688)) else (some false)) fun (s680 : Bool) => (bif s680 then (bif room ((out ++ P).length + ([44] : List Int).length) then (some (out ++ P ++ ([44] : List Int))) else none) else (some (out ++ P)))) = some (out ++ P ++ (if 0 < i ∧ gb = true then [44] else [])) := by
   by_cases c0 : 0 < i
   ·rw [dT (show (i : Int) > 0 by omega), hrm _ _ (by omega)]
    cases gb <;> simp [c0]
   ·rw [dF (show ¬ (i : Int) > 0 by omega), if_neg (fun h => c0 h.1)]; simp
  rw [hA]
  simp only [Option.bind_some]
  have hL : (out ++ P ++ (if 0 < i ∧ gb = true then [44] else [])).length ≤ 1000300 := by
   rw [List.length_append]
   have : (if 0 < i ∧ gb = true then ([44] : List Int) else []).length ≤ 1 := by split <;> simp
   omega
  rw [hrm _ _ hL, hrm _ _ hL]
  by_cases c1 : i < ha
  ·rw [dT (show (i : Int) < ha by omega), if_pos c1]
   simp [List.append_assoc]
  ·rw [dF (show ¬ (i : Int) < ha by omega), if_neg c1]
   simp [List.append_assoc]) (fun _ => ⟨_, by subst hst; simp only; rw [dF (by omega)]; rfl, rfl⟩) (by omega)
 rw [g2, g3]
 rfl
def sgL (p : St23) : List Int := List.replicate p.MinSig_.toNat 64 ++ List.replicate (p.MaxSig_ - p.MinSig_).toNat 35
def frL (p : St23) : List Int := if p.MaxFrac_ = 0 then [] else 46 :: (List.replicate p.MinFrac_.toNat 48 ++ List.replicate (p.MaxFrac_ - p.MinFrac_).toNat 35)
def exL (p : St23) : List Int := if p.Exp_ = 0 then [] else 69 :: ((if p.ExpPlus_ = true then [43] else []) ++ List.replicate p.Exp_.toNat 48)
def plL (p : St23) : List Int := plcs p.G1_ p.G2_ (p.Hash_ + p.MinInt_).toNat p.Hash_.toNat (p.Hash_ + p.MinInt_).toNat
def numL (p : St23) : List Int := (if 0 < p.MinSig_ then sgL p else plL p ++ frL p) ++ exL p
theorem number_eq {p : St23} (hc : cntP p) (hn : canon (numsP p)) : pat_number p = some (numL p) ∧ (numL p).length ≤ 400 := by
 obtain ⟨⟨a1, a2⟩, ⟨b1, b2⟩, ⟨c1, c2⟩, ⟨d1, d2⟩, e1, f1, ⟨g1, g2⟩, ⟨h1, h2⟩, ⟨i1, i2⟩⟩ := hc
 obtain ⟨n1, n2, n3, n4, n5, n6, n7, n8, n9, n10, n11⟩ := hn
 have hpl : (plL p).length ≤ 160 := by
  have := plcs_len p.G1_ p.G2_ (p.Hash_ + p.MinInt_).toNat p.Hash_.toNat (p.Hash_ + p.MinInt_).toNat
  unfold plL; omega
 have hfr : (frL p).length ≤ 90 := by unfold frL; split <;> simp; omega
 have hsg : (sgL p).length ≤ 90 := by unfold sgL; simp; omega
 have hex : (exL p).length ≤ 50 := by
  unfold exL; split
  ·simp
  ·split <;> simp <;> omega
 have hlen : (numL p).length ≤ 400 := by
  unfold numL
  rw [List.length_append]
  split
  ·omega
  ·rw [List.length_append]; omega
 refine ⟨?_, hlen⟩
 unfold pat_number
 have hE : ∀ s : List Int, s.length ≤ 1000 → (Option.bind (bif (decide (¬ p.Exp_ = 0)) then (bif room (s.length + ([69] : List Int).length) then (Option.bind (bif p.ExpPlus_ then (bif room ((s ++ ([69] : List Int)).length + ([43] : List Int).length) then (some (((s ++ ([69] : List Int)) ++ ([43] : List Int)))) else none) else (some (s ++ ([69] : List Int)))) fun (s117 : (List Int)) => (Option.bind (pat_repeat s117 48 p.Exp_) fun y126 => (some y126))) else none) else (some s)) fun (s104 : (List Int)) => (some s104)) = some (s ++ exL p) := by
  intro s hs
  unfold exL
  by_cases h0 : p.Exp_ = 0
  ·rw [dF (fun h => h h0), if_pos h0]; simp
  ·rw [dT h0, if_neg h0, room_of (by simp; omega), room_of (by simp; omega)]
   cases hep : p.ExpPlus_ with
   | true =>
    simp only [cond_true, Option.bind_some]
    rw [repeat_eq (by omega) (by omega) (by simp; omega)]
    simp
   | false =>
    simp only [cond_true, cond_false, Option.bind_some]
    rw [repeat_eq (by omega) (by omega) (by simp; omega)]
    simp
 by_cases hs : 0 < p.MinSig_
 ·have hA : (Option.bind (bif (decide (p.MinSig_ > 0)) then (some true) else (some (decide (p.MaxSig_ > 0)))) fun (s48 : Bool) => (bif s48 then (Option.bind (pat_repeat ([] : List Int) 64 p.MinSig_) fun y59 => (Option.bind (pat_some p.MinSig_) fun y62 => (Option.bind (pat_repeat y59 35 (IntKind.wrap .i64 (p.MaxSig_ - y62))) fun y65 => (some y65)))) else (Option.bind (pat_places ([] : List Int) p) fun y68 => (bif (decide (¬ p.MaxFrac_ = 0)) then (bif room (y68.length + ([46] : List Int).length) then (Option.bind (pat_repeat (y68 ++ ([46] : List Int)) 48 p.MinFrac_) fun y75 => (Option.bind (pat_some p.MinFrac_) fun y78 => (Option.bind (pat_repeat y75 35 (IntKind.wrap .i64 (p.MaxFrac_ - y78))) fun y81 => (some y81)))) else none) else (some y68))))) = some (sgL p) := by
   rw [dT hs, repeat_eq (by omega) (by omega) (by simp), some_eq (by omega) (by omega)]
   simp only [cond_true, Option.bind_some]
   rw [w64 (n := p.MaxSig_ - p.MinSig_) (by omega) (by omega), repeat_eq (by omega) (by omega) (by simp; omega)]
   simp [sgL]
  rw [hA]
  refine (hE (sgL p) (by omega)).trans ?_
  unfold numL
  rw [if_pos hs]
 ·have hs0 : p.MinSig_ = 0 := by omega
  have hx0 := (n9 hs0).1
  have hA : (Option.bind (bif (decide (p.MinSig_ > 0)) then (some true) else (some (decide (p.MaxSig_ > 0)))) fun (s48 : Bool) => (bif s48 then (Option.bind (pat_repeat ([] : List Int) 64 p.MinSig_) fun y59 => (Option.bind (pat_some p.MinSig_) fun y62 => (Option.bind (pat_repeat y59 35 (IntKind.wrap .i64 (p.MaxSig_ - y62))) fun y65 => (some y65)))) else (Option.bind (pat_places ([] : List Int) p) fun y68 => (bif (decide (¬ p.MaxFrac_ = 0)) then (bif room (y68.length + ([46] : List Int).length) then (Option.bind (pat_repeat (y68 ++ ([46] : List Int)) 48 p.MinFrac_) fun y75 => (Option.bind (pat_some p.MinFrac_) fun y78 => (Option.bind (pat_repeat y75 35 (IntKind.wrap .i64 (p.MaxFrac_ - y78))) fun y81 => (some y81)))) else none) else (some y68))))) = some (plL p ++ frL p) := by
   obtain ⟨ha, hha⟩ : ∃ m : Nat, p.Hash_ = m := ⟨p.Hash_.toNat, by omega⟩
   obtain ⟨mi, hmi⟩ : ∃ m : Nat, p.MinInt_ = m := ⟨p.MinInt_.toNat, by omega⟩
   have hpe : plL p = plcs p.G1_ p.G2_ (ha + mi) ha (ha + mi) := by
    unfold plL; rw [hha, hmi, show ((ha : Int) + mi).toNat = ha + mi by omega, show (ha : Int).toNat = ha by omega]
   rw [dF hs, dF (show ¬ p.MaxSig_ > 0 by omega), places_eq (out := []) hha hmi (by omega) (by omega) e1 f1 (by simp)]
   simp only [cond_false, Option.bind_some, List.nil_append]
   rw [← hpe]
   unfold frL
   by_cases h0 : p.MaxFrac_ = 0
   ·rw [dF (fun h => h h0), if_pos h0]; simp
   ·rw [dT h0, if_neg h0, room_of (by simp; omega), repeat_eq (by omega) (by omega) (by simp; omega), some_eq (by omega) (by omega)]
    simp only [cond_true, Option.bind_some]
    rw [w64 (n := p.MaxFrac_ - p.MinFrac_) (by omega) (by omega), repeat_eq (by omega) (by omega) (by simp; omega)]
    simp
  rw [hA]
  refine (hE (plL p ++ frL p) (by rw [List.length_append]; omega)).trans ?_
  unfold numL
  rw [if_neg hs]
theorem asc_plcs (g1 g2 : Int) (t ha n : Nat) : asc (plcs g1 g2 t ha n) := by
 intro c hc
 unfold plcs at hc
 obtain ⟨i, _, hi⟩ := List.mem_flatMap.1 hc
 unfold plc at hi
 rcases List.mem_append.1 hi with h | h
 ·split at h
  ·simp at h; subst h; omega
  ·simp at h
 ·simp at h; subst h; split <;> omega
theorem asc_num (p : St23) : asc (numL p) := by
 intro c hc
 unfold numL at hc
 rcases List.mem_append.1 hc with h | h
 ·split at h
  ·unfold sgL at h
   rcases List.mem_append.1 h with h | h <;> (have := List.eq_of_mem_replicate h; omega)
  ·rcases List.mem_append.1 h with h | h
   ·exact asc_plcs _ _ _ _ _ c h
   ·unfold frL at h
    split at h
    ·simp at h
    ·rcases List.mem_cons.1 h with h | h
     ·omega
     ·rcases List.mem_append.1 h with h | h <;> (have := List.eq_of_mem_replicate h; omega)
 ·unfold exL at h
  split at h
  ·simp at h
  ·rcases List.mem_cons.1 h with h | h
   ·omega
   ·rcases List.mem_append.1 h with h | h
    ·split at h
     ·simp at h; omega
     ·simp at h
    ·have := List.eq_of_mem_replicate h; omega
theorem numText_eq {p : St23} (hc : cntP p) (hn : canon (numsP p)) : pat_Number p = some (bytesS (numL p)) := by
 unfold pat_Number
 rw [(number_eq hc hn).1]
 simp only [Option.bind_some]
 rw [runes_ascii (asc_num p)]
theorem plcs_pre (g1 g2 : Int) (t ha : Nat) {i : Nat} : ∀ {n : Nat}, i < n → ∃ r, plcs g1 g2 t ha n = plcs g1 g2 t ha i ++ (plc g1 g2 t ha i ++ r)
 | 0, h => by omega
 | n + 1, h => by
  by_cases hi : i = n
  ·subst hi; exact ⟨[], by rw [plcs_succ]; simp⟩
  ·obtain ⟨r, hr⟩ := plcs_pre g1 g2 t ha (i := i) (n := n) (by omega)
   exact ⟨r ++ plc g1 g2 t ha n, by rw [plcs_succ, hr]; simp⟩
/-! What the reader's steps come to. -/
section
variable {l : List Int} {a3 a4 a5 a6 a7 a8 : Int} {b8 b9 : List St33} {b : Bool}
theorem is_at {c on i : Int} (hl : l.length ≤ 10000) (h0 : 0 ≤ i + on) (h1 : i + on ≤ 20000) (hc : c ≠ -1) : pat_reader__is_s0 c on l i a3 a4 a5 a6 a7 = some (decide (atV l (i + on) = c)) := by
 unfold pat_reader__is_s0 atV
 rw [w64 (n := i + on) (by omega) (by omega)]
 by_cases h : i + on < l.length
 ·rw [dT h, inR_int h0 h, if_pos h]; rfl
 ·rw [dF h, if_neg h, dF (show ¬ (-1 : Int) = c by omega)]; rfl
theorem eat_at {c i : Int} (hl : l.length ≤ 10000) (h0 : 0 ≤ i) (h1 : i ≤ 20000) (hc : c ≠ -1) : pat_reader__eat_s0 c l i a3 a4 a5 a6 a7 = some (if atV l i = c then (true, i + 1) else (false, i)) := by
 unfold pat_reader__eat_s0
 rw [is_at hl (by omega) (by omega) hc, Int.add_zero, w64 (n := i + 1) (by omega) (by omega)]
 by_cases h : atV l i = c
 ·rw [dT h, if_pos h]; rfl
 ·rw [dF h, if_neg h]; rfl
def Mn (l : List Int) (i c n : Int) : Prop := 0 ≤ n ∧ (∀ j, 0 ≤ j → j < n → atV l (i + j) = c) ∧ atV l (i + n) ≠ c
theorem Mn.unique {i c n m : Int} (h : Mn l i c n) (h' : Mn l i c m) : n = m := by
 obtain ⟨a1, a2, a3⟩ := h
 obtain ⟨b1, b2, b3⟩ := h'
 rcases Int.lt_trichotomy n m with hlt | heq | hgt
 ·exact absurd (b2 n a1 hlt) a3
 ·exact heq
 ·exact absurd (a2 m b1 hgt) b3
theorem many_at {c i : Int} (hl : l.length ≤ 10000) (h0 : 0 ≤ i) (h1 : i ≤ l.length) (hc : c ≠ -1) : ∃ n, pat_reader__many_s0 c l i a3 a4 a5 a6 a7 = some (n, i + n) ∧ Mn l i c n ∧ i + n ≤ l.length := by
 unfold pat_reader__many_s0
 obtain ⟨o, h2, h3, h4, h5, h6⟩ := loop_var (step := fun (s33 : Int × Int) => (Option.bind (pat_reader__eat_s0 c l s33.2 a3 a4 a5 a6 a7) fun y52 => (bif y52.1 then (some (.inl ((IntKind.wrap .i64 (s33.1 + 1)), y52.2))) else (some (.inr (s33.1, y52.2)))))) (fun s => s.2 = i + s.1 ∧ 0 ≤ s.1 ∧ s.2 ≤ l.length ∧ ∀ j, 0 ≤ j → j < s.1 → atV l (i + j) = c) (fun s => ((l.length : Int) - s.2).toNat) (fun o => o.2 = i + o.1 ∧ 0 ≤ o.1 ∧ o.2 ≤ l.length ∧ Mn l i c o.1) (s0 := (0, i)) ⟨by simp, by simp, h1, fun j a b => by simp only at b; omega⟩ (by simp only; omega) (fun s hs => by
  obtain ⟨s1, s2⟩ := s
  obtain ⟨q1, q2, q3, q4⟩ := hs
  simp only at q1 q2 q3 q4 ⊢
  rw [eat_at hl (by omega) (by omega) hc]
  by_cases h : atV l s2 = c
  ·left
   have hin := at_in h hc
   rw [if_pos h, w64 (n := s1 + 1) (by omega) (by omega)]
   refine ⟨(s1 + 1, s2 + 1), rfl, ⟨by simp only; omega, by simp only; omega, by simp only; omega, fun j a b => ?_⟩, by simp only; omega⟩
   by_cases hj : j < s1
   ·exact q4 j a hj
   ·rw [show i + j = s2 by simp only at b; omega]; exact h
  ·right
   rw [if_neg h]
   exact ⟨(s1, s2), rfl, q1, q2, q3, q2, q4, by rw [← q1]; exact h⟩)
 rw [h2]
 obtain ⟨o1, o2⟩ := o
 simp only at h3 h4 h5 h6 ⊢
 subst h3
 exact ⟨o1, rfl, h6, h5⟩
theorem many_is {c i n : Int} (hl : l.length ≤ 10000) (h0 : 0 ≤ i) (h1 : i ≤ l.length) (hc : c ≠ -1) (hn : Mn l i c n) : pat_reader__many_s0 c l i a3 a4 a5 a6 a7 = some (n, i + n) := by
 obtain ⟨m, h2, h3, _⟩ := many_at (a3 := a3) (a4 := a4) (a5 := a5) (a6 := a6) (a7 := a7) hl h0 h1 hc
 rw [h2, h3.unique hn]
def plAt (l : List Int) (i mi : Int) : Prop := atV l i = 48 ∨ (mi = 0 ∧ atV l i = 35)
instance {l : List Int} {i mi : Int} : Decidable (plAt l i mi) := inferInstanceAs (Decidable (_ ∨ _))
def cmAt (l : List Int) (since i mi : Int) : Prop := 0 < since ∧ atV l i = 44 ∧ plAt l (i + 1) mi
instance {l : List Int} {s i mi : Int} : Decidable (cmAt l s i mi) := inferInstanceAs (Decidable (_ ∧ _))
variable {c10 c12 c13 c14 c15 c16 c17 c18 c20 c21 c22 : Int} {c19 : Bool}
theorem place_at {on i mi : Int} (hl : l.length ≤ 10000) (h0 : 0 ≤ i + on) (h1 : i + on ≤ 20000) : pat_reader__place_s0 on l i a3 a4 a5 a6 a7 b8 b c10 mi c12 c13 c14 c15 c16 c17 c18 c19 c20 c21 = some (decide (plAt l (i + on) mi)) := by
 unfold pat_reader__place_s0 plAt
 rw [is_at hl h0 h1 (by omega), is_at hl h0 h1 (by omega)]
 by_cases h : atV l (i + on) = 48
 ·rw [dT h]; simp [h]
 ·rw [dF h]
  by_cases h2 : mi = 0
  ·rw [dT h2]; simp [h, h2]
  ·rw [dF h2]; simp [h, h2]
theorem comma_at {since i mi : Int} (hl : l.length ≤ 10000) (h0 : 0 ≤ i) (h1 : i ≤ 10000) : pat_reader__comma_s0 since l i a3 a4 a5 a6 a7 b8 b c10 mi c12 c13 c14 c15 c16 c17 c18 c19 c20 c21 = some (decide (cmAt l since i mi)) := by
 unfold pat_reader__comma_s0
 rw [is_at hl (by omega) (by omega) (by omega), place_at hl (by omega) (by omega), Int.add_zero]
 by_cases h : since > 0
 ·rw [dT h]
  by_cases h2 : atV l i = 44
  ·rw [dT h2]
   by_cases h3 : plAt l (i + 1) mi
   ·rw [dT h3, dT (show cmAt l since i mi from ⟨h, h2, h3⟩)]; rfl
   ·rw [dF h3, dF (show ¬ cmAt l since i mi from fun hh => h3 hh.2.2)]; rfl
  ·rw [dF h2, dF (show ¬ cmAt l since i mi from fun hh => h2 hh.2.1)]; rfl
 ·rw [dF h, dF (show ¬ cmAt l since i mi from fun hh => h hh.1)]; rfl
theorem between_at {commas since i mi g2 : Int} (hl : l.length ≤ 10000) (h0 : 0 ≤ i) (h1 : i ≤ 10000) :
  pat_reader__between_s0 commas since l i a3 a4 a5 a6 a7 b8 b c10 mi c12 c13 c14 g2 c16 c17 c18 c19 c20 c21 = some (if commas = 0 ∨ ¬ cmAt l since i mi then .inl g2 else if commas > 1 ∧ since ≠ g2 then .inr () else .inl since) := by
 unfold pat_reader__between_s0
 rw [comma_at hl h0 h1]
 by_cases h : commas = 0
 ·rw [dT h, if_pos (.inl h)]; rfl
 ·rw [dF h]
  by_cases h2 : cmAt l since i mi
  ·rw [dT h2, if_neg (by simp [h, h2])]
   simp only [cond_false, Option.bind_some, Bool.not_true, joinX]
   by_cases h3 : commas > 1
   ·rw [dT h3]
    by_cases h4 : since = g2
    ·rw [dF (fun h => h h4), if_neg (by simp [h4])]; rfl
    ·rw [dT h4, if_pos ⟨h3, h4⟩]; rfl
   ·rw [dF h3, if_neg (by simp [h3])]; rfl
  ·rw [dF h2, if_pos (.inr h2)]; rfl
theorem special_at (x : Int) : pat_special x = some (decide (x = 35 ∨ x = 64 ∨ x = 44 ∨ x = 46 ∨ x = 59 ∨ x = 42 ∨ x = 37 ∨ x = 45 ∨ x = 43 ∨ x = 39 ∨ x = 69 ∨ x = 164 ∨ (48 ≤ x ∧ x ≤ 57))) := by
 unfold pat_special
 by_cases h1 : x = 35 <;> by_cases h2 : x = 64 <;> by_cases h3 : x = 44 <;> by_cases h4 : x = 46 <;> by_cases h5 : x = 59 <;> by_cases h6 : x = 42 <;> first
  | (simp [h1, h2, h3, h4, h5, h6, joinX]; done)
  | (by_cases h7 : x = 37 <;> by_cases h8 : x = 45 <;> by_cases h9 : x = 43 <;> by_cases h10 : x = 39 <;> by_cases h11 : x = 69 <;> by_cases h12 : x = 164 <;> by_cases h13 : 48 ≤ x <;> by_cases h14 : x ≤ 57 <;> simp [h1, h2, h3, h4, h5, h6, h7, h8, h9, h10, h11, h12, h13, h14, joinX])
theorem pad_at {w i pd pa : Int} (hl : l.length ≤ 10000) (h0 : 0 ≤ i) (h1 : i ≤ l.length) :
  pat_reader__pad_s0 w l i a3 a4 a5 a6 a7 b c10 c12 c13 c14 c15 c16 c17 c18 c20 c19 pd pa = some (if pa ≠ 0 ∨ atV l i ≠ 42 then .inl (i, pd, pa) else if i + 1 = l.length then .inr (i + 1, i + 1) else .inl (i + 2, atV l (i + 1), w)) := by
 unfold pat_reader__pad_s0
 rw [eat_at hl h0 (by omega) (by omega)]
 by_cases h : pa = 0
 ·rw [dF (fun hh => hh h)]
  by_cases h2 : atV l i = 42
  ·have hin := at_in h2 (by omega)
   rw [if_pos h2, if_neg (by simp [h, h2])]
   simp only [cond_false, Option.bind_some, Bool.not_true, joinX]
   by_cases h3 : i + 1 = l.length
   ·rw [dT h3, if_pos h3]; rfl
   ·rw [dF h3, if_neg h3, inR_int (i := i + 1) (by omega) (by omega), w64 (n := i + 1 + 1) (by omega) (by omega)]
    simp only [cond_false, Option.bind_some, cond_true, joinX]
    unfold atV
    rw [if_pos (by omega)]
    congr 2
    simp; omega
  ·rw [if_neg h2, if_pos (c := pa ≠ 0 ∨ atV l i ≠ 42) (.inr h2)]; rfl
 ·rw [dT h, if_pos (c := pa ≠ 0 ∨ atV l i ≠ 42) (.inl h)]; rfl
theorem pad1_at {w i pd pa : Int} (hl : l.length ≤ 10000) (h0 : 0 ≤ i) (h1 : i ≤ l.length) :
  pat_reader__pad_s1 w l i a3 a4 a5 a6 a7 b8 b c10 c12 c13 c14 c15 c16 c17 c18 c20 c19 pd pa = some (if pa ≠ 0 ∨ atV l i ≠ 42 then .inl (i, pd, pa) else if i + 1 = l.length then .inr (i + 1, i + 1) else .inl (i + 2, atV l (i + 1), w)) := pad_at (b := b) (c10 := c10) (c12 := c12) (c13 := c13) (c14 := c14) (c15 := c15) (c16 := c16) (c17 := c17) (c18 := c18) (c20 := c20) (c19 := c19) hl h0 h1
end
/-! The text of a number, read: the places. -/
theorem atV_mid {pre suf : List Int} {c : Int} : atV (pre ++ c :: suf) (pre.length : Int) = c := by
 unfold atV
 rw [if_pos (by simp; omega), nth_mid]
theorem atV_end {l : List Int} : atV l (l.length : Int) = -1 := by
 unfold atV; rw [if_neg (by omega)]
theorem atV_mid1 {pre suf : List Int} {c d : Int} : atV (pre ++ c :: d :: suf) ((pre.length : Int) + 1) = d := by
 have h : pre ++ c :: d :: suf = (pre ++ [c]) ++ d :: suf := by simp
 rw [h, show (pre.length : Int) + 1 = ((pre ++ [c]).length : Int) by simp]
 exact atV_mid
theorem affix_stop {l : List Int} {i a2 a3 a4 a5 a6 : Int} (hl : l.length ≤ 10000) (h0 : 0 ≤ i) (h : i = l.length ∨ (i < l.length ∧ (atV l i = 35 ∨ atV l i = 64 ∨ atV l i = 48 ∨ atV l i = 44 ∨ atV l i = 46 ∨ atV l i = 59 ∨ atV l i = 42 ∨ atV l i = 69))) :
  pat_reader__affix_s0 l i a2 a3 a4 a5 a6 = some (.inl ([], i)) := by
 unfold pat_reader__affix_s0
 rcases h with h | ⟨hin, h⟩
 ·rw [show big = (big - 1) + 1 from rfl, loopN_out (o := .inl (i, [])) (by simp only; rw [dF (by omega)]; rfl)]
  rfl
 ·have hv : nth l i = atV l i := by unfold atV; rw [if_pos hin]
  rw [show big = (big - 1) + 1 from rfl, loopN_out (o := .inr (.inl ([], i))) (by
   simp only
   rw [dT (show i < (l.length : Int) from hin), inR_int h0 hin, hv]
   rw [is_at hl (by omega) (by omega) (by omega), Int.add_zero, special_at]
   rcases h with h | h | h | h | h | h | h | h <;> rw [h] <;> rfl)]
  rfl
def cmP (g1 g2 : Int) (t i : Nat) : Prop := 0 < i ∧ grpB g1 g2 ((t : Int) - i) = true
instance {g1 g2 : Int} {t i : Nat} : Decidable (cmP g1 g2 t i) := inferInstanceAs (Decidable (_ ∧ _))
theorem grpB_iff {g1 g2 n : Int} : grpB g1 g2 n = true ↔ 1 ≤ g1 ∧ g1 ≤ n ∧ (n = g1 ∨ (0 < g2 ∧ (n - g1) % g2 = 0)) := by
 unfold grpB
 simp only [Bool.and_eq_true, Bool.or_eq_true, decide_eq_true_eq]
theorem cm_gap {g1 g2 : Int} {t i j : Nat} (hg : 0 < g2) (hi : cmP g1 g2 t i) (hj : cmP g1 g2 t j) (hij : i < j) (hjt : j ≤ t) (hno : ∀ k, i < k → k < j → ¬ cmP g1 g2 t k) : ((j - i : Nat) : Int) = g2 := by
 obtain ⟨h1, h2, h3⟩ := grpB_iff.1 hi.2
 obtain ⟨h4, h5, h6⟩ := grpB_iff.1 hj.2
 have d1 : g2 ∣ ((t : Int) - i - g1) := by
  rcases h3 with h | ⟨_, h⟩
  ·rw [h]; simp
  ·exact Int.dvd_of_emod_eq_zero h
 have d2 : g2 ∣ ((t : Int) - j - g1) := by
  rcases h6 with h | ⟨_, h⟩
  ·rw [h]; simp
  ·exact Int.dvd_of_emod_eq_zero h
 have d3 : g2 ∣ ((j : Int) - i) := by
  have := Int.dvd_sub d1 d2
  rwa [show (t : Int) - i - g1 - ((t : Int) - j - g1) = (j : Int) - i by omega] at this
 have hle := Int.le_of_dvd (by omega) d3
 by_cases he : (j : Int) - i = g2
 ·omega
 ·exfalso
  refine hno (j - g2.toNat) (by omega) (by omega) ⟨by omega, grpB_iff.2 ⟨h4, by omega, .inr ⟨hg, ?_⟩⟩⟩
  have e : (t : Int) - ((j - g2.toNat : Nat) : Int) - g1 = ((t : Int) - j - g1) + g2 := by omega
  rw [e]
  exact Int.emod_eq_zero_of_dvd (Int.dvd_add d2 (Int.dvd_refl _))
section
variable {g1 g2 : Int} {t ha : Nat} {rest : List Int}
theorem plc_eq (i : Nat) : plc g1 g2 t ha i = (if cmP g1 g2 t i then [44] else []) ++ [if i < ha then 35 else 48] := by
 unfold plc cmP
 rfl
theorem ch_len (i : Nat) : (plcs g1 g2 t ha (i + 1)).length = (plcs g1 g2 t ha i).length + (if cmP g1 g2 t i then 2 else 1) := by
 rw [plcs_succ, List.length_append, plc_eq]
 split <;> simp
theorem ch_a {i : Nat} (hi : i < t) : atV (plcs g1 g2 t ha t ++ rest) ((plcs g1 g2 t ha i).length : Int) = if cmP g1 g2 t i then 44 else if i < ha then 35 else 48 := by
 obtain ⟨r, hr⟩ := plcs_pre g1 g2 t ha hi
 rw [hr, plc_eq]
 by_cases h : cmP g1 g2 t i
 ·rw [if_pos h, if_pos h]
  simp only [List.append_assoc, List.cons_append, List.nil_append]
  exact atV_mid
 ·rw [if_neg h, if_neg h]
  simp only [List.append_assoc, List.cons_append, List.nil_append]
  exact atV_mid
theorem ch_b {i : Nat} (hi : i < t) (h : cmP g1 g2 t i) : atV (plcs g1 g2 t ha t ++ rest) ((plcs g1 g2 t ha i).length + 1 : Int) = if i < ha then 35 else 48 := by
 obtain ⟨r, hr⟩ := plcs_pre g1 g2 t ha hi
 rw [hr, plc_eq, if_pos h]
 simp only [List.append_assoc, List.cons_append, List.nil_append]
 exact atV_mid1
theorem ch_in {i : Nat} (hi : i < t) : (plcs g1 g2 t ha i).length + (if cmP g1 g2 t i then 2 else 1) ≤ (plcs g1 g2 t ha t).length := by
 obtain ⟨r, hr⟩ := plcs_pre g1 g2 t ha hi
 rw [hr, plc_eq]
 split <;> simp <;> omega
theorem cm_none (h : ∀ j, j < t → ¬ cmP g1 g2 t j) (hg : grpP t g1 g2) : g1 = 0 ∧ g2 = 0 := by
 rcases hg with hg | ⟨h1, h2, h3, h4⟩
 ·exact hg
 ·exact absurd ⟨by omega, grpB_iff.2 ⟨by omega, by omega, .inl (by omega)⟩⟩ (h (t - g1.toNat) (by omega))
theorem cm_last {i : Nat} (hi : cmP g1 g2 t i) (hit : i < t) (h : ∀ j, i < j → j < t → ¬ cmP g1 g2 t j) : ((t - i : Nat) : Int) = g1 := by
 obtain ⟨h1, h2, h3⟩ := grpB_iff.1 hi.2
 by_cases he : ((t - i : Nat) : Int) = g1
 ·exact he
 ·exact absurd ⟨by omega, grpB_iff.2 ⟨by omega, by omega, .inl (by omega)⟩⟩ (h (t - g1.toNat) (by omega) (by omega))
theorem cm_only {i : Nat} (hg : grpP t g1 g2) (hi : ((t - i : Nat) : Int) = g1) (hcm : cmP g1 g2 t i) (hit : i < t) (h : ∀ j, j < i → ¬ cmP g1 g2 t j) : g2 = g1 := by
 obtain ⟨c1, _⟩ := grpB_iff.1 hcm.2
 rcases hg with hg | ⟨h1, h2, h3, h4⟩
 ·omega
 ·by_cases hle : (t : Int) ≤ g1 + g2
  ·exact h4 hle
  ·exfalso
   refine h (t - (g1 + g2).toNat) (by omega) ⟨by omega, grpB_iff.2 ⟨by omega, by omega, .inr ⟨h2, ?_⟩⟩⟩
   rw [show (t : Int) - ((t - (g1 + g2).toNat : Nat) : Int) - g1 = g2 by omega]
   exact Int.emod_self
theorem places_num {a2 a3 a4 a5 a6 : Int} {b7 : List St33} {b8 : Bool} {c11 c12 c15 c16 c17 c19 c20 : Int} {c18 : Bool} (hg : grpP t g1 g2) (hg1 : g1 ≤ 40) (ht : 0 < t) (ht2 : t ≤ 80) (hha : ha ≤ t) (hl : rest.length ≤ 1000)
  (hr : ∀ c r, rest = c :: r → c ≠ 35 ∧ c ≠ 48 ∧ c ≠ 44) :
  pat_reader__places_s0 (plcs g1 g2 t ha t ++ rest) 0 a2 a3 a4 a5 a6 b7 b8 0 0 c11 c12 0 0 c15 c16 c17 c18 c19 c20 = some (.inl (((plcs g1 g2 t ha t).length : Int), (ha : Int), (t : Int) - ha, g1, g2)) := by
 have hPl := plcs_len g1 g2 t ha t
 have hla : (plcs g1 g2 t ha t ++ rest).length ≤ 10000 := by rw [List.length_append]; omega
 have hend : atV (plcs g1 g2 t ha t ++ rest) ((plcs g1 g2 t ha t).length : Int) ≠ 35 ∧ atV (plcs g1 g2 t ha t ++ rest) ((plcs g1 g2 t ha t).length : Int) ≠ 48 ∧ atV (plcs g1 g2 t ha t ++ rest) ((plcs g1 g2 t ha t).length : Int) ≠ 44 := by
  cases hrs : rest with
  | nil => rw [List.append_nil, atV_end]; omega
  | cons c r => rw [atV_mid]; exact hr c r hrs
 generalize hL : plcs g1 g2 t ha t ++ rest = L at hla hend
 have hca : ∀ i, i < t → atV L ((plcs g1 g2 t ha i).length : Int) = if cmP g1 g2 t i then 44 else if i < ha then 35 else 48 := fun i hi => by rw [← hL]; exact ch_a hi
 have hcb : ∀ i, i < t → cmP g1 g2 t i → atV L ((plcs g1 g2 t ha i).length + 1 : Int) = if i < ha then 35 else 48 := fun i hi h => by rw [← hL]; exact ch_b hi h
 have hlen : (plcs g1 g2 t ha t).length ≤ L.length := by rw [← hL, List.length_append]; omega
 have hin : ∀ i, i < t → (plcs g1 g2 t ha i).length + (if cmP g1 g2 t i then 2 else 1) ≤ (plcs g1 g2 t ha t).length := fun i hi => ch_in hi
 have h0cm : ¬ cmP g1 g2 t 0 := fun h => absurd h.1 (by omega)
 -- a comma stands behind place i
 have hcm : ∀ (i : Nat) (sn mi : Int), i ≤ t → 0 < sn → (0 < i → i < t → (i < ha → mi = 0)) → 0 < i → (cmAt L sn ((plcs g1 g2 t ha i).length : Int) mi ↔ i < t ∧ cmP g1 g2 t i) := by
  intro i sn mi hi hsn hmi hi0
  by_cases hit : i < t
  ·have h1 := hca i hit
   constructor
   ·rintro ⟨_, h2, _⟩
    rw [h1] at h2
    refine ⟨hit, ?_⟩
    by_cases hc : cmP g1 g2 t i
    ·exact hc
    ·rw [if_neg hc] at h2
     split at h2 <;> omega
   ·rintro ⟨_, hc⟩
    refine ⟨hsn, by rw [h1, if_pos hc], ?_⟩
    unfold plAt
    rw [hcb i hit hc]
    by_cases hih : i < ha
    ·rw [if_pos hih]; exact .inr ⟨hmi hi0 hit hih, rfl⟩
    ·rw [if_neg hih]; exact .inl rfl
  ·have : i = t := by omega
   subst this
   exact ⟨fun h => absurd h.2.1 hend.2.2, fun h => absurd h.1 (by omega)⟩
 unfold pat_reader__places_s0
 generalize hst : (fun (s300 : Int × Int × Int × Int × Int × Int) => ((Option.bind (Option.bind (Option.bind (pat_reader__place_s0 0 L s300.2.2.1 a2 a3 a4 a5 a6 b7 b8 s300.2.2.2.1 s300.2.2.2.2.1 c11 c12 0 s300.2.2.2.2.2 c15 c16 c17 c18 c19 c20) fun y545 => (bif y545 then (some true) else (Option.bind (pat_reader__comma_s0 s300.2.1 L s300.2.2.1 a2 a3 a4 a5 a6 b7 b8 s300.2.2.2.1 s300.2.2.2.2.1 c11 c12 0 s300.2.2.2.2.2 c15 c16 c17 c18 c19 c20) fun y551 => (some y551)))) fun (s540 : Bool) => (bif s540 then (some (.inl ())) else (some (.inr (.inr (.inl (s300.1, s300.2.1, s300.2.2.1, s300.2.2.2.1, s300.2.2.2.2.1, s300.2.2.2.2.2))))))) (joinX fun (s526 : Unit) => (Option.bind (pat_reader__eat_s0 44 L s300.2.2.1 a2 a3 a4 a5 a6) fun y560 => (bif y560.1 then (some (.inl ((IntKind.wrap .i64 (s300.1 + 1)), 0, y560.2, s300.2.2.2.1, s300.2.2.2.2.1, s300.2.2.2.2.2))) else (Option.bind (Option.bind (pat_reader__eat_s0 48 L y560.2 a2 a3 a4 a5 a6) fun y577 => (bif y577.1 then (some (y577.2, s300.2.2.2.1, (IntKind.wrap .i64 (s300.2.2.2.2.1 + 1)))) else (some ((IntKind.wrap .i64 (y577.2 + 1)), (IntKind.wrap .i64 (s300.2.2.2.1 + 1)), s300.2.2.2.2.1)))) fun (s572 : Int × Int × Int) => (Option.bind (pat_reader__between_s0 s300.1 (IntKind.wrap .i64 (s300.2.1 + 1)) L s572.1 a2 a3 a4 a5 a6 b7 b8 s572.2.1 s572.2.2 c11 c12 0 s300.2.2.2.2.2 c15 c16 c17 c18 c19 c20) fun y583 => (Sum.elim (fun y586 => (some (.inl (s300.1, (IntKind.wrap .i64 (s300.2.1 + 1)), s572.1, s572.2.1, s572.2.2, y586)))) (fun y587 => (some (.inr (.inr (.inr (s572.1, s572.1, s572.2.1, s572.2.2, s300.2.2.2.2.2)))))) y583))))))) : Option ((Int × Int × Int × Int × Int × Int) ⊕ ((Int × Int × Int × Int × Int × Int) ⊕ ((Int × Int × Int × Int × Int) ⊕ (Int × Int × Int × Int × Int)))))) = step
 -- a place is read
 have s_pl : ∀ (k sn pos h m g : Int), 0 ≤ k → k ≤ 1000 → 0 ≤ sn → sn ≤ 1000 → 0 ≤ pos → pos < L.length → 0 ≤ h → h ≤ 1000 → 0 ≤ m → m ≤ 1000 → (atV L pos = 48 ∨ (m = 0 ∧ atV L pos = 35)) →
   step (k, sn, pos, h, m, g) = (if k = 0 ∨ ¬ cmAt L (sn + 1) (pos + 1) (if atV L pos = 48 then m + 1 else m) then some (.inl (k, sn + 1, pos + 1, (if atV L pos = 48 then h else h + 1), (if atV L pos = 48 then m + 1 else m), g)) else if k > 1 ∧ sn + 1 ≠ g then some (.inr (.inr (.inr (pos + 1, pos + 1, (if atV L pos = 48 then h else h + 1), (if atV L pos = 48 then m + 1 else m), g)))) else some (.inl (k, sn + 1, pos + 1, (if atV L pos = 48 then h else h + 1), (if atV L pos = 48 then m + 1 else m), sn + 1))) := by
  intro k sn pos h m g q1 q2 q3 q4 q5 q6 q7 q8 q9 q10 hd
  subst hst
  simp only
  rw [place_at hla (by omega) (by omega), Int.add_zero, dT (show plAt L pos m from hd), eat_at hla q5 (by omega) (by omega), if_neg (show ¬ atV L pos = 44 by omega)]
  simp only [cond_true, cond_false, Option.bind_some, joinX]
  rw [eat_at hla q5 (by omega) (by omega), w64 (n := sn + 1) (by omega) (by omega), w64 (n := m + 1) (by omega) (by omega), w64 (n := h + 1) (by omega) (by omega)]
  by_cases h48 : atV L pos = 48
  ·simp only [h48, if_true, cond_true, Option.bind_some]
   rw [between_at hla (by omega) (by omega)]
   split
   ·rfl
   ·split <;> rfl
  ·simp only [h48, if_false, cond_false, Option.bind_some]
   rw [w64 (n := pos + 1) (by omega) (by omega), between_at hla (by omega) (by omega)]
   split
   ·rfl
   ·split <;> rfl
 have s_cm : ∀ (k sn pos h m g : Int), 0 ≤ k → k ≤ 1000 → 0 ≤ pos → pos < L.length → cmAt L sn pos m → step (k, sn, pos, h, m, g) = some (.inl (k + 1, 0, pos + 1, h, m, g)) := by
  intro k sn pos h m g q1 q2 q5 q6 hd
  subst hst
  simp only
  rw [place_at hla (by omega) (by omega), Int.add_zero, dF (show ¬ plAt L pos m by rintro (h | ⟨_, h⟩) <;> (have := hd.2.1; omega)), comma_at hla q5 (by omega), dT hd]
  simp only [cond_true, cond_false, Option.bind_some, joinX]
  rw [eat_at hla q5 (by omega) (by omega), if_pos hd.2.1, w64 (n := k + 1) (by omega) (by omega)]
  rfl
 -- what is known in front of place i
 have hrun : ∃ o, loopN step big (0, 0, 0, 0, 0, 0) = some o ∧ ∃ k sn g : Int, o = .inl (k, sn, ((plcs g1 g2 t ha t).length : Int), (ha : Int), (t : Int) - ha, g) ∧ ((k = 0 ∧ g1 = 0 ∧ g2 = 0 ∧ g = 0) ∨ (k = 1 ∧ g1 = sn ∧ g2 = sn) ∨ (2 ≤ k ∧ g1 = sn ∧ g2 = g)) := by
  refine loop_var (step := step) (fun s => (∃ (i : Nat) (k : Int) (sn : Nat) (g : Int), i ≤ t ∧ s = (k, (sn : Int), ((plcs g1 g2 t ha i).length : Int), ((min i ha : Nat) : Int), ((i - min i ha : Nat) : Int), g) ∧ (0 ≤ k ∧ k ≤ i ∧ (k = 0 ∨ k < i)) ∧ (0 < i → 0 < sn) ∧ sn ≤ i ∧ (k = 0 → sn = i ∧ g = 0 ∧ ∀ j, j < i → ¬ cmP g1 g2 t j) ∧ (1 ≤ k → cmP g1 g2 t (i - sn) ∧ i - sn < t ∧ ∀ j, i - sn < j → j < i → ¬ cmP g1 g2 t j) ∧ (k = 1 → ∀ j, j < i - sn → ¬ cmP g1 g2 t j) ∧ (2 ≤ k → g = g2) ∧ (k = 1 → i < t → cmP g1 g2 t i → g = g2)) ∨
    (∃ (i : Nat) (k : Int) (g : Int), i < t ∧ s = (k, 0, ((plcs g1 g2 t ha i).length : Int) + 1, ((min i ha : Nat) : Int), ((i - min i ha : Nat) : Int), g) ∧ (1 ≤ k ∧ k ≤ i) ∧ cmP g1 g2 t i ∧ (k = 1 → ∀ j, j < i → ¬ cmP g1 g2 t j) ∧ (2 ≤ k → g = g2)))
   (fun s => ((L.length : Int) - s.2.2.1).toNat) _ (s0 := (0, 0, 0, 0, 0, 0)) (.inl ⟨0, 0, 0, 0, by omega, by simp [plcs], by omega, by omega, by omega, fun _ => ⟨rfl, rfl, fun j hj => by omega⟩, fun h => by omega, fun h => by omega, fun h => by omega, fun h => by omega⟩) (by simp only; omega) (fun s hs => ?_)
  rcases hs with ⟨i, k, sn, g, hi, rfl, hk, hsn0, hsn, f0, f1, f2, f3, f4⟩ | ⟨i, k, g, hi, rfl, hk, hc, f1, f2⟩
  ·by_cases hit : i < t
   ·have hi1 := hin i hit
    by_cases hc : cmP g1 g2 t i
    ·-- the comma
     left
     rw [if_pos hc] at hi1
     have hi0 : 0 < i := hc.1
     refine ⟨_, s_cm k sn _ _ _ g hk.1 (by omega) (by omega) (by omega) ((hcm i sn _ hi (by have := hsn0 hi0; omega) (fun _ _ h => by omega) hi0).2 ⟨hit, hc⟩), .inr ⟨i, k + 1, g, hit, rfl, ⟨by omega, ?_⟩, hc, fun h => (f0 (by omega)).2.2, fun h => ?_⟩, by simp only; omega⟩
     ·omega
     ·by_cases h1 : k = 1
      ·exact f4 h1 hit hc
      ·exact f3 (by omega)
    ·left
     rw [if_neg hc] at hi1
     have hca1 := hca i hit
     rw [if_neg hc] at hca1
     have hpos := ch_len (g1 := g1) (g2 := g2) (t := t) (ha := ha) i
     rw [if_neg hc] at hpos
     have hd : atV L ((plcs g1 g2 t ha i).length : Int) = 48 ∨ (((i - min i ha : Nat) : Int) = 0 ∧ atV L ((plcs g1 g2 t ha i).length : Int) = 35) := by
      rw [hca1]
      by_cases h : i < ha
      ·rw [if_pos h]; exact .inr ⟨by omega, rfl⟩
      ·rw [if_neg h]; exact .inl rfl
     have hsp := s_pl k sn ((plcs g1 g2 t ha i).length : Int) ((min i ha : Nat) : Int) ((i - min i ha : Nat) : Int) g hk.1 (by omega) (by omega) (by omega) (by omega) (by omega) (by omega) (by omega) (by omega) (by omega) hd
     have e1 : (if atV L ((plcs g1 g2 t ha i).length : Int) = 48 then ((min i ha : Nat) : Int) else ((min i ha : Nat) : Int) + 1) = ((min (i + 1) ha : Nat) : Int) := by
      rw [hca1]; by_cases h : i < ha
      ·rw [if_pos h, if_neg (by omega)]; omega
      ·rw [if_neg h, if_pos rfl]; omega
     have e2 : (if atV L ((plcs g1 g2 t ha i).length : Int) = 48 then ((i - min i ha : Nat) : Int) + 1 else ((i - min i ha : Nat) : Int)) = ((i + 1 - min (i + 1) ha : Nat) : Int) := by
      rw [hca1]; by_cases h : i < ha
      ·rw [if_pos h, if_neg (by omega)]; omega
      ·rw [if_neg h, if_pos rfl]; omega
     have e3 : ((plcs g1 g2 t ha i).length : Int) + 1 = ((plcs g1 g2 t ha (i + 1)).length : Int) := by omega
     rw [e1, e2, e3] at hsp
     have hcm1 := hcm (i + 1) ((sn : Int) + 1) ((i + 1 - min (i + 1) ha : Nat) : Int) (by omega) (by omega) (fun _ _ h => by omega) (by omega)
     have hgap : 1 ≤ k → i + 1 < t → cmP g1 g2 t (i + 1) → (sn : Int) + 1 = g2 := by
      intro h1 h2 h3
      obtain ⟨q1, q2, q3⟩ := f1 h1
      have hg2 : 0 < g2 := by
       obtain ⟨c1, _⟩ := grpB_iff.1 h3.2
       rcases hg with h | h <;> omega
      have := cm_gap hg2 q1 h3 (by omega) (by omega) (fun j hj1 hj2 => by
       by_cases hj : j = i
       ·subst hj; exact hc
       ·exact q3 j hj1 (by omega))
      omega
     by_cases hx : k = 0 ∨ ¬ cmAt L ((sn : Int) + 1) ((plcs g1 g2 t ha (i + 1)).length : Int) ((i + 1 - min (i + 1) ha : Nat) : Int)
     ·rw [if_pos hx] at hsp
      refine ⟨_, hsp, .inl ⟨i + 1, k, sn + 1, g, by omega, by simp, by omega, by omega, by omega, fun h => ⟨by have := (f0 h).1; omega, (f0 h).2.1, fun j hj => ?_⟩, fun h => ?_, fun h => ?_, f3, fun h h1 h2 => ?_⟩, by simp only; omega⟩
      ·by_cases hj' : j = i
       ·subst hj'; exact hc
       ·exact (f0 h).2.2 j (by omega)
      ·obtain ⟨q1, q2, q3⟩ := f1 h
       rw [show i + 1 - (sn + 1) = i - sn by omega]
       refine ⟨q1, q2, fun j hj1 hj2 => ?_⟩
       by_cases hj' : j = i
       ·subst hj'; exact hc
       ·exact q3 j hj1 (by omega)
      ·rw [show i + 1 - (sn + 1) = i - sn by omega]; exact f2 h
      ·rcases hx with hx | hx
       ·omega
       ·exact absurd (hcm1.2 ⟨h1, h2⟩) hx
     ·rw [if_neg hx] at hsp
      have hk1 : 1 ≤ k := by
       rcases Int.lt_or_le k 1 with h | h
       ·exact absurd (.inl (by omega)) hx
       ·exact h
      have hcc : cmAt L ((sn : Int) + 1) ((plcs g1 g2 t ha (i + 1)).length : Int) ((i + 1 - min (i + 1) ha : Nat) : Int) := by
       by_cases h : cmAt L ((sn : Int) + 1) ((plcs g1 g2 t ha (i + 1)).length : Int) ((i + 1 - min (i + 1) ha : Nat) : Int)
       ·exact h
       ·exact absurd (.inr h) hx
      obtain ⟨h2, h3⟩ := hcm1.1 hcc
      have hgp := hgap hk1 h2 h3
      rw [if_neg (fun h => h.2 (by rw [hgp, f3 (by omega)]))] at hsp
      refine ⟨_, hsp, .inl ⟨i + 1, k, sn + 1, (sn : Int) + 1, by omega, by simp, by omega, by omega, by omega, fun h => by omega, fun h => ?_, fun h => ?_, fun _ => hgp, fun _ _ _ => hgp⟩, by simp only; omega⟩
      ·obtain ⟨q1, q2, q3⟩ := f1 h
       rw [show i + 1 - (sn + 1) = i - sn by omega]
       refine ⟨q1, q2, fun j hj1 hj2 => ?_⟩
       by_cases hj' : j = i
       ·subst hj'; exact hc
       ·exact q3 j hj1 (by omega)
      ·rw [show i + 1 - (sn + 1) = i - sn by omega]; exact f2 h
   ·have : i = t := by omega
    subst this
    right
    refine ⟨.inl (k, (sn : Int), ((plcs g1 g2 i ha i).length : Int), ((min i ha : Nat) : Int), ((i - min i ha : Nat) : Int), g), ?_, k, sn, g, by rw [show min i ha = ha by omega]; congr; omega, ?_⟩
    ·subst hst
     simp only
     rw [place_at hla (by omega) (by omega), Int.add_zero, dF (show ¬ plAt L _ _ by rintro (h | ⟨_, h⟩); exact hend.2.1 h; exact hend.1 h), comma_at hla (by omega) (by omega), dF (show ¬ cmAt L _ _ _ from fun h => hend.2.2 h.2.1)]
     rfl
    ·by_cases hk0 : k = 0
     ·obtain ⟨h1, h2, h3⟩ := f0 hk0
      obtain ⟨h4, h5⟩ := cm_none h3 hg
      exact .inl ⟨hk0, h4, h5, h2⟩
     ·obtain ⟨q1, q2, q3⟩ := f1 (by omega)
      have hl1 := cm_last q1 q2 q3
      by_cases hk1 : k = 1
      ·have := cm_only hg hl1 q1 q2 (f2 hk1)
       exact .inr (.inl ⟨hk1, by omega, by omega⟩)
      ·exact .inr (.inr ⟨by omega, by omega, (f3 (by omega)).symm⟩)
  ·-- the place behind a comma
   left
   have hi1 := hin i hi
   rw [if_pos hc] at hi1
   have hca1 := hcb i hi hc
   have hpos := ch_len (g1 := g1) (g2 := g2) (t := t) (ha := ha) i
   rw [if_pos hc] at hpos
   have hd : atV L ((plcs g1 g2 t ha i).length + 1 : Int) = 48 ∨ (((i - min i ha : Nat) : Int) = 0 ∧ atV L ((plcs g1 g2 t ha i).length + 1 : Int) = 35) := by
    rw [hca1]
    by_cases h : i < ha
    ·rw [if_pos h]; exact .inr ⟨by omega, rfl⟩
    ·rw [if_neg h]; exact .inl rfl
   have hsp := s_pl k 0 ((plcs g1 g2 t ha i).length + 1 : Int) ((min i ha : Nat) : Int) ((i - min i ha : Nat) : Int) g (by omega) (by omega) (by omega) (by omega) (by omega) (by omega) (by omega) (by omega) (by omega) (by omega) hd
   have e1 : (if atV L ((plcs g1 g2 t ha i).length + 1 : Int) = 48 then ((min i ha : Nat) : Int) else ((min i ha : Nat) : Int) + 1) = ((min (i + 1) ha : Nat) : Int) := by
    rw [hca1]; by_cases h : i < ha
    ·rw [if_pos h, if_neg (by omega)]; omega
    ·rw [if_neg h, if_pos rfl]; omega
   have e2 : (if atV L ((plcs g1 g2 t ha i).length + 1 : Int) = 48 then ((i - min i ha : Nat) : Int) + 1 else ((i - min i ha : Nat) : Int)) = ((i + 1 - min (i + 1) ha : Nat) : Int) := by
    rw [hca1]; by_cases h : i < ha
    ·rw [if_pos h, if_neg (by omega)]; omega
    ·rw [if_neg h, if_pos rfl]; omega
   have e3 : ((plcs g1 g2 t ha i).length : Int) + 1 + 1 = ((plcs g1 g2 t ha (i + 1)).length : Int) := by omega
   rw [e1, e2, e3] at hsp
   have hcm1 := hcm (i + 1) ((0 : Int) + 1) ((i + 1 - min (i + 1) ha : Nat) : Int) (by omega) (by omega) (fun _ _ h => by omega) (by omega)
   have hgap : i + 1 < t → cmP g1 g2 t (i + 1) → (0 : Int) + 1 = g2 := by
    intro h2 h3
    have hg2 : 0 < g2 := by
     obtain ⟨c1, _⟩ := grpB_iff.1 h3.2
     rcases hg with h | h <;> omega
    have := cm_gap hg2 hc h3 (by omega) (by omega) (fun j hj1 hj2 => by omega)
    omega
   by_cases hx : k = 0 ∨ ¬ cmAt L ((0 : Int) + 1) ((plcs g1 g2 t ha (i + 1)).length : Int) ((i + 1 - min (i + 1) ha : Nat) : Int)
   ·rw [if_pos hx] at hsp
    refine ⟨_, hsp, .inl ⟨i + 1, k, 1, g, by omega, by simp, by omega, by omega, by omega, fun h => by omega, fun h => ?_, fun h => ?_, f2, fun h h1 h2 => ?_⟩, by simp only; omega⟩
    ·rw [show i + 1 - 1 = i by omega]; exact ⟨hc, hi, fun j hj1 hj2 => by omega⟩
    ·rw [show i + 1 - 1 = i by omega]; exact f1 h
    ·rcases hx with hx | hx
     ·omega
     ·exact absurd (hcm1.2 ⟨h1, h2⟩) hx
   ·rw [if_neg hx] at hsp
    have hcc : cmAt L ((0 : Int) + 1) ((plcs g1 g2 t ha (i + 1)).length : Int) ((i + 1 - min (i + 1) ha : Nat) : Int) := by
     by_cases h : cmAt L ((0 : Int) + 1) ((plcs g1 g2 t ha (i + 1)).length : Int) ((i + 1 - min (i + 1) ha : Nat) : Int)
     ·exact h
     ·exact absurd (.inr h) hx
    obtain ⟨h2, h3⟩ := hcm1.1 hcc
    have hgp := hgap h2 h3
    rw [if_neg (fun h => h.2 (by rw [hgp, f2 (by omega)]))] at hsp
    refine ⟨_, hsp, .inl ⟨i + 1, k, 1, (0 : Int) + 1, by omega, by simp, by omega, by omega, by omega, fun h => by omega, fun h => ?_, fun h => ?_, fun _ => hgp, fun _ _ _ => hgp⟩, by simp only; omega⟩
    ·rw [show i + 1 - 1 = i by omega]; exact ⟨hc, hi, fun j hj1 hj2 => by omega⟩
    ·rw [show i + 1 - 1 = i by omega]; exact f1 h
 obtain ⟨o, ho, k, sn, g, rfl, hres⟩ := hrun
 rw [ho]
 simp only [Option.bind_some, joinX]
 rw [w64 (n := (ha : Int) + ((t : Int) - ha)) (by omega) (by omega), dF (show ¬ (ha : Int) + ((t : Int) - ha) = 0 by omega)]
 simp only [cond_false, Option.bind_some]
 rcases hres with ⟨h1, h2, h3, h4⟩ | ⟨h1, h2, h3⟩ | ⟨h1, h2, h3⟩
 ·rw [dT h1, h2, h3, h4]; rfl
 ·rw [dF (show ¬ k = 0 by omega), dT h1, h2, h3]; rfl
 ·rw [dF (show ¬ k = 0 by omega), dF (show ¬ k = 1 by omega), h2, h3]; rfl
end
/-! Runes as bytes, and back. -/
theorem u8w (n : Int) : IntKind.u8.wrap n = n % 256 := by
 unfold IntKind.wrap
 simp only [IntKind.signed, IntKind.bits, Bool.false_and, Bool.false_eq_true, if_false]
 rfl
theorem fin256 (p : Int → Prop) (h : ∀ k : Fin 256, p (k.val : Int)) {x : Int} (h0 : 0 ≤ x) (h1 : x < 256) : p x := by
 obtain ⟨n, rfl⟩ := Int.eq_ofNat_of_zero_le h0
 exact h ⟨n, by omega⟩
theorem and63 {x : Int} (h0 : 0 ≤ x) (h1 : x < 256) : bits .and .u8 x 63 = x % 64 := fin256 (fun x => bits .and .u8 x 63 = x % 64) (by decide +kernel) h0 h1
def isRb (x : Int) : Bool := decide (0 ≤ x ∧ x ≤ 1114111 ∧ (x < 55296 ∨ 57343 < x))
def enc1 (x : Int) : List Int := if x < 128 then [x] else if x < 2048 then [192 + x / 64, 128 + x % 64] else if x < 65536 then [224 + x / 4096, 128 + x / 64 % 64, 128 + x % 64] else [240 + x / 262144, 128 + x / 4096 % 64, 128 + x / 64 % 64, 128 + x % 64]
def sizeN (x : Int) : Int := if isRb x then (if x < 128 then 1 else if x < 2048 then 2 else if x < 65536 then 3 else 4) else 0
theorem is_eq (x : Int) : utf_Is x = some (isRb x) := by
 unfold utf_Is isRb
 by_cases h1 : 0 ≤ x <;> by_cases h2 : x ≤ 1114111 <;> by_cases h3 : x < 55296 <;> simp [h1, h2, h3]
theorem size_eq (x : Int) : utf_Size x = some (sizeN x) := by
 unfold utf_Size sizeN
 rw [is_eq]
 cases h : isRb x
 ·simp
 ·by_cases h1 : x < 128 <;> by_cases h2 : x < 2048 <;> by_cases h3 : x < 65536 <;> simp [h1, h2, h3]
theorem loopN_mono {S O : Type} {step : S → Option (S ⊕ O)} {o : O} : ∀ (n : Nat) (s : S), loopN step n s = some o → ∀ m, n ≤ m → loopN step m s = some o := by
 intro n
 induction n with
 | zero => intro s h; cases h
 | succ n ih =>
  intro s h m hm
  obtain ⟨k, rfl⟩ : ∃ k, m = k + 1 := ⟨m - 1, by omega⟩
  simp only [loopN] at h ⊢
  split at h
  ·cases h
  ·exact h
  ·exact ih _ h k (by omega)
theorem loop_big {S O : Type} {step : S → Option (S ⊕ O)} {o : O} {s : S} (n : Nat) (h : loopN step n s = some o) (hn : n ≤ 1000) : loopN step big s = some o := loopN_mono n s h _ (by unfold big; omega)
theorem fdivp {a b : Int} (hb : 0 < b) : Int.fdiv a b = a / b := Int.fdiv_eq_ediv_of_nonneg _ (by omega)
theorem enc1_len (x : Int) : (enc1 x).length ≤ 4 := by
 unfold enc1; split; simp; split; simp; split <;> simp
def encL1 (xs : List Int) : List Int := xs.flatMap enc1
theorem encL1_len (xs : List Int) : (encL1 xs).length ≤ 4 * xs.length := by
 induction xs with
 | nil => simp [encL1]
 | cons x xs ih =>
  have := enc1_len x
  simp only [encL1, List.flatMap_cons, List.length_append, List.length_cons] at ih ⊢
  omega
theorem enc1_size {x : Int} (hr : isRb x = true) : ((enc1 x).length : Int) = sizeN x := by
 unfold enc1 sizeN
 rw [hr]
 by_cases h1 : x < 128 <;> by_cases h2 : x < 2048 <;> by_cases h3 : x < 65536 <;> simp [h1, h2, h3]
theorem prom_eq (c : Int) : utf_promised c = some (if c < 128 then 1 else if c / 32 = 6 then 2 else if c / 16 = 14 then 3 else if c / 8 = 30 then 4 else 0) := by
 unfold utf_promised
 rw [fdivp (by decide), fdivp (by decide), fdivp (by decide)]
 by_cases h1 : c < 128 <;> by_cases h2 : c / 32 = 6 <;> by_cases h3 : c / 16 = 14 <;> by_cases h4 : c / 8 = 30 <;> simp [h1, h2, h3, h4]
theorem n63 {x : Int} (h0 : 0 ≤ x) (h1 : x < 256) : bits .andNot .u8 x 63 = x / 64 * 64 := fin256 (fun x => bits .andNot .u8 x 63 = x / 64 * 64) (by decide +kernel) h0 h1
theorem n0 {x : Int} (h0 : 0 ≤ x) (h1 : x < 256) : bits .andNot .u8 x 0 = x := fin256 (fun x => bits .andNot .u8 x 0 = x) (by decide +kernel) h0 h1
theorem n192 {x : Int} (h0 : 0 ≤ x) (h1 : x < 32) : bits .andNot .u8 (192 + x) 192 = x := fin256 (fun x => x < 32 → bits .andNot .u8 (192 + x) 192 = x) (by decide +kernel) h0 (by omega) h1
theorem n224 {x : Int} (h0 : 0 ≤ x) (h1 : x < 16) : bits .andNot .u8 (224 + x) 224 = x := fin256 (fun x => x < 16 → bits .andNot .u8 (224 + x) 224 = x) (by decide +kernel) h0 (by omega) h1
theorem n240 {x : Int} (h0 : 0 ≤ x) (h1 : x < 8) : bits .andNot .u8 (240 + x) 240 = x := fin256 (fun x => x < 8 → bits .andNot .u8 (240 + x) 240 = x) (by decide +kernel) h0 (by omega) h1
theorem t63 {y : Int} (h0 : 0 ≤ y) (h1 : y < 64) : bits .andNot .u8 (128 + y) 63 = 128 := by rw [n63 (by omega) (by omega)]; omega
theorem a63 {y : Int} (h0 : 0 ≤ y) (h1 : y < 64) : bits .and .u8 (128 + y) 63 = y := by rw [and63 (by omega) (by omega)]; omega
theorem o32 {r y : Int} (h0 : 0 ≤ r) (h1 : r < 32768) (h2 : 0 ≤ y) (h3 : y < 64) : bits .or .i32 (IntKind.wrap .i32 (r * 64)) (IntKind.wrap .i32 y) = r * 64 + y := by
 rw [w32 (by omega) (by omega), w32 (by omega) (by omega)]
 exact i32_or6 _ _ (by omega) (by omega) (by omega) h2 h3
theorem first_full {x : Int} {rest : List Int} (hr : isRb x = true) (hl : rest.length ≤ 1000000) : utf_first (enc1 x ++ rest) = some (x, sizeN x) := by
 have hb : 0 ≤ x ∧ x ≤ 1114111 ∧ (x < 55296 ∨ 57343 < x) := by simpa [isRb] using hr
 have hsz := size_eq x
 generalize hq : enc1 x ++ rest = q
 unfold utf_first
 by_cases h1 : x < 128
 ·have he : enc1 x = [x] := by unfold enc1; rw [if_pos h1]
  have hs : sizeN x = 1 := by unfold sizeN; rw [hr]; simp [h1]
  rw [he] at hq
  simp only [List.singleton_append] at hq
  have hn : nth q 0 = x := by subst hq; rfl
  have hql : q.length = rest.length + 1 := by subst hq; simp
  have hi : inR 0 q.length = true := inR_int (by omega) (by omega)
  have hin : inS 1 1 q.length = true := inS_of (by omega) (by omega) (by omega)
  have hm : utf_mark 1 = some 0 := rfl
  have hc : cut q 1 1 = [] := by subst hq; simp [cut]
  have hp : utf_promised x = some 1 := by rw [prom_eq, if_pos h1]
  rw [hi, hn, hp]
  simp only [cond_true, Option.bind_some]
  rw [dF (show ¬ (1 : Int) = 0 by omega), dF (show ¬ (1 : Int) > (q.length : Int) by omega)]
  simp only [cond_false, Option.bind_some, joinX, hm, hin, cond_true, hc]
  rw [n0 (by omega) (by omega), w32 (by omega) (by omega), loop_big 1 rfl (by omega)]
  simp only [Option.bind_some, joinX]
  rw [hsz, hs]; rfl
 ·by_cases h2 : x < 2048
  ·have he : enc1 x = [192 + x / 64, 128 + x % 64] := by unfold enc1; rw [if_neg h1, if_pos h2]
   have hs : sizeN x = 2 := by unfold sizeN; rw [hr]; simp [h1, h2]
   rw [he] at hq
   simp only [List.cons_append, List.nil_append] at hq
   have hn : nth q 0 = 192 + x / 64 := by subst hq; rfl
   have hql : q.length = rest.length + 2 := by subst hq; simp
   have hi : inR 0 q.length = true := inR_int (by omega) (by omega)
   have hin : inS 1 2 q.length = true := inS_of (by omega) (by omega) (by omega)
   have hm : utf_mark 2 = some 192 := rfl
   have hc : cut q 1 2 = [128 + x % 64] := by subst hq; simp [cut]
   have hp : utf_promised (192 + x / 64) = some 2 := by rw [prom_eq, if_neg (by omega), if_pos (by omega)]
   rw [hi, hn, hp]
   simp only [cond_true, Option.bind_some]
   rw [dF (show ¬ (2 : Int) = 0 by omega), dF (show ¬ (2 : Int) > (q.length : Int) by omega)]
   simp only [cond_false, Option.bind_some, joinX, hm, hin, cond_true, hc]
   rw [n192 (by omega) (by omega), w32 (by omega) (by omega), loop_big (o := .inl x) 2 ?_ (by omega)]
   ·simp only [Option.bind_some, joinX]
    rw [hsz, hs]; rfl
   ·simp only [loopN]
    have k0 : nth [128 + x % 64] 0 = 128 + x % 64 := rfl
    have i0 : inR 0 1 = true := by decide
    have wz : IntKind.wrap .i64 (0 + 1) = 1 := by decide
    have e1 : bits .or .i32 (IntKind.wrap .i32 (x / 64 * 64)) (IntKind.wrap .i32 (x % 64)) = x := by rw [o32 (by omega) (by omega) (by omega) (by omega)]; omega
    simp only [List.length_singleton, k0, i0, t63 (show 0 ≤ x % 64 by omega) (by omega), a63 (show 0 ≤ x % 64 by omega) (by omega), e1, wz]
    rfl
  ·by_cases h3 : x < 65536
   ·have he : enc1 x = [224 + x / 4096, 128 + x / 64 % 64, 128 + x % 64] := by unfold enc1; rw [if_neg h1, if_neg h2, if_pos h3]
    have hs : sizeN x = 3 := by unfold sizeN; rw [hr]; simp [h1, h2, h3]
    rw [he] at hq
    simp only [List.cons_append, List.nil_append] at hq
    have hn : nth q 0 = 224 + x / 4096 := by subst hq; rfl
    have hql : q.length = rest.length + 3 := by subst hq; simp
    have hi : inR 0 q.length = true := inR_int (by omega) (by omega)
    have hin : inS 1 3 q.length = true := inS_of (by omega) (by omega) (by omega)
    have hm : utf_mark 3 = some 224 := rfl
    have hc : cut q 1 3 = [128 + x / 64 % 64, 128 + x % 64] := by subst hq; simp [cut]
    have hp : utf_promised (224 + x / 4096) = some 3 := by rw [prom_eq, if_neg (by omega), if_neg (by omega), if_pos (by omega)]
    rw [hi, hn, hp]
    simp only [cond_true, Option.bind_some]
    rw [dF (show ¬ (3 : Int) = 0 by omega), dF (show ¬ (3 : Int) > (q.length : Int) by omega)]
    simp only [cond_false, Option.bind_some, joinX, hm, hin, cond_true, hc]
    rw [n224 (by omega) (by omega), w32 (by omega) (by omega), loop_big (o := .inl x) 3 ?_ (by omega)]
    ·simp only [Option.bind_some, joinX]
     rw [hsz, hs]; rfl
    ·simp only [loopN]
     have k0 : nth [128 + x / 64 % 64, 128 + x % 64] 0 = 128 + x / 64 % 64 := rfl
     have k1 : nth [128 + x / 64 % 64, 128 + x % 64] 1 = 128 + x % 64 := rfl
     have i0 : inR 0 2 = true := by decide
     have i1 : inR 1 2 = true := by decide
     have wz : IntKind.wrap .i64 (0 + 1) = 1 := by decide
     have wz1 : IntKind.wrap .i64 (1 + 1) = 2 := by decide
     have e1 : bits .or .i32 (IntKind.wrap .i32 (x / 4096 * 64)) (IntKind.wrap .i32 (x / 64 % 64)) = x / 64 := by rw [o32 (by omega) (by omega) (by omega) (by omega)]; omega
     have e2 : bits .or .i32 (IntKind.wrap .i32 (x / 64 * 64)) (IntKind.wrap .i32 (x % 64)) = x := by rw [o32 (by omega) (by omega) (by omega) (by omega)]; omega
     simp only [List.length_cons, List.length_nil, Nat.zero_add, Nat.reduceAdd, k0, i0, t63 (show 0 ≤ x / 64 % 64 by omega) (by omega), a63 (show 0 ≤ x / 64 % 64 by omega) (by omega), e1, wz]
     have d0 : decide ((0 : Int) < ((2 : Nat) : Int)) = true := by decide
     have d1 : decide ((1 : Int) < ((2 : Nat) : Int)) = true := by decide
     have d2 : decide ((2 : Int) < ((2 : Nat) : Int)) = false := by decide
     simp only [d0, d1, d2, cond_true, cond_false, not_true_eq_false, decide_false, k1, i1, t63 (show 0 ≤ x % 64 by omega) (by omega), a63 (show 0 ≤ x % 64 by omega) (by omega), e2, wz1]
   ·have he : enc1 x = [240 + x / 262144, 128 + x / 4096 % 64, 128 + x / 64 % 64, 128 + x % 64] := by unfold enc1; rw [if_neg h1, if_neg h2, if_neg h3]
    have hs : sizeN x = 4 := by unfold sizeN; rw [hr]; simp [h1, h2, h3]
    rw [he] at hq
    simp only [List.cons_append, List.nil_append] at hq
    have hn : nth q 0 = 240 + x / 262144 := by subst hq; rfl
    have hql : q.length = rest.length + 4 := by subst hq; simp
    have hi : inR 0 q.length = true := inR_int (by omega) (by omega)
    have hin : inS 1 4 q.length = true := inS_of (by omega) (by omega) (by omega)
    have hm : utf_mark 4 = some 240 := rfl
    have hc : cut q 1 4 = [128 + x / 4096 % 64, 128 + x / 64 % 64, 128 + x % 64] := by subst hq; simp [cut]
    have hp : utf_promised (240 + x / 262144) = some 4 := by rw [prom_eq, if_neg (by omega), if_neg (by omega), if_neg (by omega), if_pos (by omega)]
    rw [hi, hn, hp]
    simp only [cond_true, Option.bind_some]
    rw [dF (show ¬ (4 : Int) = 0 by omega), dF (show ¬ (4 : Int) > (q.length : Int) by omega)]
    simp only [cond_false, Option.bind_some, joinX, hm, hin, cond_true, hc]
    rw [n240 (by omega) (by omega), w32 (by omega) (by omega), loop_big (o := .inl x) 4 ?_ (by omega)]
    ·simp only [Option.bind_some, joinX]
     rw [hsz, hs]; rfl
    ·simp only [loopN]
     have k0 : nth [128 + x / 4096 % 64, 128 + x / 64 % 64, 128 + x % 64] 0 = 128 + x / 4096 % 64 := rfl
     have k1 : nth [128 + x / 4096 % 64, 128 + x / 64 % 64, 128 + x % 64] 1 = 128 + x / 64 % 64 := rfl
     have k2 : nth [128 + x / 4096 % 64, 128 + x / 64 % 64, 128 + x % 64] 2 = 128 + x % 64 := rfl
     have i0 : inR 0 3 = true := by decide
     have i1 : inR 1 3 = true := by decide
     have i2 : inR 2 3 = true := by decide
     have wz : IntKind.wrap .i64 (0 + 1) = 1 := by decide
     have wz1 : IntKind.wrap .i64 (1 + 1) = 2 := by decide
     have wz2 : IntKind.wrap .i64 (2 + 1) = 3 := by decide
     have e0 : bits .or .i32 (IntKind.wrap .i32 (x / 262144 * 64)) (IntKind.wrap .i32 (x / 4096 % 64)) = x / 4096 := by rw [o32 (by omega) (by omega) (by omega) (by omega)]; omega
     have e1 : bits .or .i32 (IntKind.wrap .i32 (x / 4096 * 64)) (IntKind.wrap .i32 (x / 64 % 64)) = x / 64 := by rw [o32 (by omega) (by omega) (by omega) (by omega)]; omega
     have e2 : bits .or .i32 (IntKind.wrap .i32 (x / 64 * 64)) (IntKind.wrap .i32 (x % 64)) = x := by rw [o32 (by omega) (by omega) (by omega) (by omega)]; omega
     have d0 : decide ((0 : Int) < ((3 : Nat) : Int)) = true := by decide
     have d1 : decide ((1 : Int) < ((3 : Nat) : Int)) = true := by decide
     have d2 : decide ((2 : Int) < ((3 : Nat) : Int)) = true := by decide
     have d3 : decide ((3 : Int) < ((3 : Nat) : Int)) = false := by decide
     simp only [List.length_cons, List.length_nil, Nat.zero_add, Nat.reduceAdd, k0, i0, t63 (show 0 ≤ x / 4096 % 64 by omega) (by omega), a63 (show 0 ≤ x / 4096 % 64 by omega) (by omega), e0, wz]
     simp only [d0, d1, d2, d3, cond_true, cond_false, not_true_eq_false, decide_false, k1, i1, t63 (show 0 ≤ x / 64 % 64 by omega) (by omega), a63 (show 0 ≤ x / 64 % 64 by omega) (by omega), e1, wz1]
     simp only [d0, d1, d2, d3, cond_true, cond_false, not_true_eq_false, decide_false, k2, i2, t63 (show 0 ≤ x % 64 by omega) (by omega), a63 (show 0 ≤ x % 64 by omega) (by omega), e2, wz2]
theorem decode_full {L : List Int} (hL : L.all isRb = true) (hl : L.length ≤ 200000) : utf_Decode (encL1 L) = some (L, 0, 0) := by
 have hE := encL1_len L
 unfold utf_Decode
 generalize hX : encL1 L = X
 have hXl : X.length = (encL1 L).length := by subst hX; simp
 generalize hst : (fun (s57 : Int × (List Int)) => ((bif (decide (s57.1 < (X.length : Int))) then (bif inS s57.1 (X.length : Int) X.length then (Option.bind (utf_first (cut X s57.1 (X.length : Int))) fun y96 => (bif (decide (y96.2 = 0)) then (some (.inr (.inr (([] : List Int), s57.1, 3)))) else (bif room (s57.2.length + ([y96.1] : List Int).length) then (some (.inl ((IntKind.wrap .i64 (s57.1 + y96.2)), (s57.2 ++ ([y96.1] : List Int))))) else none))) else none) else (some (.inr (.inl s57.2)))) : Option ((Int × (List Int)) ⊕ ((List Int) ⊕ ((List Int) × Int × Int))))) = step
 obtain ⟨o, h1, h2⟩ := loopN_run (step := step)
  (fun s => ∃ j : Nat, j ≤ L.length ∧ s.1 = ((encL1 (L.take j)).length : Int) ∧ s.2 = L.take j) (fun s => X.length - s.1.toNat)
  (fun o => o = .inl L) (fun s hs => by
   obtain ⟨s1, out⟩ := s
   obtain ⟨j, hj, hs1, ho⟩ := hs
   simp only at hs1 ho
   have hpre : encL1 L = encL1 (L.take j) ++ encL1 (L.drop j) := by
    unfold encL1; rw [← List.flatMap_append, List.take_append_drop]
   have htake := encL1_len (L.take j)
   have hple : (encL1 (L.take j)).length ≤ (encL1 L).length := by rw [hpre, List.length_append]; omega
   rcases Nat.lt_or_ge j L.length with h | h
   ·have hcut : cut X s1 (X.length : Int) = encL1 (L.drop j) := by
     unfold cut
     rw [Int.toNat_natCast, List.take_length, hs1, Int.toNat_natCast, ← hX, hpre, List.drop_left]
    have hrj : isRb L[j] = true := List.all_eq_true.1 hL _ (List.getElem_mem h)
    have hd : encL1 (L.drop j) = enc1 L[j] ++ encL1 (L.drop (j + 1)) := by
     unfold encL1; rw [List.drop_eq_getElem_cons h, List.flatMap_cons]
    have hsz := enc1_size hrj
    have hne : sizeN L[j] ≠ 0 := by
     unfold sizeN; rw [hrj]; simp only [if_true]; split; omega; split; omega; split <;> omega
    have hpos : 0 < sizeN L[j] := by omega
    have hle4 := enc1_len L[j]
    have hdl := encL1_len (L.drop (j + 1))
    rw [List.length_drop] at hdl
    have hplt : (encL1 (L.take j)).length + (enc1 L[j]).length ≤ (encL1 L).length := by rw [hpre, hd, List.length_append, List.length_append]; omega
    subst hst
    simp only
    rw [dT (show s1 < (X.length : Int) by omega), inS_of (by omega) (by omega) (by omega), hcut]
    simp only [cond_true]
    rw [hd, first_full hrj (by omega)]
    simp only [Option.bind_some]
    rw [dF hne]
    simp only [cond_false]
    have hrm : room (out.length + ([L[j]] : List Int).length) = true := room_of (by subst ho; simp; omega)
    rw [hrm]
    have hnext : encL1 (L.take (j + 1)) = encL1 (L.take j) ++ enc1 L[j] := by
     rw [List.take_succ_eq_append_getElem h]; unfold encL1; rw [List.flatMap_append]; simp
    refine .inl ⟨(s1 + sizeN L[j], out ++ [L[j]]), ?_, ⟨j + 1, by omega, ?_, by simp only; rw [ho, List.take_succ_eq_append_getElem h]⟩, by simp only; omega⟩
    ·rw [w64 (by omega) (by omega)]; rfl
    ·simp only; rw [hnext, List.length_append, hs1, ← hsz]; omega
   ·have hj' : j = L.length := by omega
    subst hj'
    rw [List.take_length] at hs1 ho
    subst hst
    simp only
    rw [dF (show ¬ s1 < (X.length : Int) by omega), ho]
    exact .inr ⟨_, rfl, rfl⟩) big (0, []) ⟨0, by omega, by simp [encL1], rfl⟩ (big_pos (by simp only; omega))
 rw [h1, h2]
 rfl
theorem is1 {x : Int} (h0 : -2147483648 ≤ x) (h1 : x ≤ 2147483647) : exergueref01_Is x = some (isRb x) := by
 unfold exergueref01_Is isRb
 rw [w64 (by omega) (by omega)]
 by_cases h1 : 0 ≤ x <;> by_cases h2 : x ≤ 1114111 <;> by_cases h3 : x < 55296 <;> by_cases h4 : x > 57343 <;> first | omega | simp [h1, h2, h3, h4]
theorem size1 {x : Int} (h0 : -2147483648 ≤ x) (h1 : x ≤ 2147483647) : exergueref01_Size x = some (sizeN x) := by
 unfold exergueref01_Size sizeN
 rw [is1 h0 h1]
 cases h : isRb x
 ·simp
 ·by_cases h1 : x < 128 <;> by_cases h2 : x < 2048 <;> by_cases h3 : x < 65536 <;> simp [h1, h2, h3]
theorem isRb_iff {x : Int} : isRb x = true ↔ 0 ≤ x ∧ x ≤ 1114111 ∧ (x < 55296 ∨ 57343 < x) := by simp [isRb]
theorem bytes1 {x : Int} (hr : isRb x = true) : exergueref01_Bytes x = some (enc1 x) := by
 have hb := isRb_iff.1 hr
 unfold exergueref01_Bytes enc1
 rw [size1 (by omega) (by omega)]
 unfold sizeN
 rw [hr, w64 (n := x) (by omega) (by omega), Int.tdiv_eq_ediv_of_nonneg (by omega), Int.tdiv_eq_ediv_of_nonneg (by omega), Int.tdiv_eq_ediv_of_nonneg (by omega), Int.tmod_eq_emod_of_nonneg (by omega), w64 (n := x / 64) (by omega) (by omega), w64 (n := x / 4096) (by omega) (by omega), w64 (n := x / 262144) (by omega) (by omega), Int.tmod_eq_emod_of_nonneg (by omega), Int.tmod_eq_emod_of_nonneg (by omega), w64 (n := 192 + x / 64) (by omega) (by omega), w64 (n := 224 + x / 4096) (by omega) (by omega), w64 (n := 240 + x / 262144) (by omega) (by omega), w64 (n := 128 + x % 64) (by omega) (by omega), w64 (n := 128 + x / 64 % 64) (by omega) (by omega), w64 (n := 128 + x / 4096 % 64) (by omega) (by omega)]
 simp only [if_true, Option.bind_some, u8w]
 by_cases h1 : x < 128
 ·rw [if_pos h1, if_pos h1, show x % 256 = x by omega]; rfl
 ·by_cases h2 : x < 2048
  ·rw [if_neg h1, if_neg h1, if_pos h2, if_pos h2, show (192 + x / 64) % 256 = 192 + x / 64 by omega, show (128 + x % 64) % 256 = 128 + x % 64 by omega]; rfl
  ·by_cases h3 : x < 65536
   ·rw [if_neg h1, if_neg h1, if_neg h2, if_neg h2, if_pos h3, if_pos h3, show (224 + x / 4096) % 256 = 224 + x / 4096 by omega, show (128 + x % 64) % 256 = 128 + x % 64 by omega, show (128 + x / 64 % 64) % 256 = 128 + x / 64 % 64 by omega]; rfl
   ·rw [if_neg h1, if_neg h1, if_neg h2, if_neg h2, if_neg h3, if_neg h3, show (240 + x / 262144) % 256 = 240 + x / 262144 by omega, show (128 + x % 64) % 256 = 128 + x % 64 by omega, show (128 + x / 64 % 64) % 256 = 128 + x / 64 % 64 by omega, show (128 + x / 4096 % 64) % 256 = 128 + x / 4096 % 64 by omega]; rfl
theorem text1 {x : Int} (hr : isRb x = true) : exergueref10_text x = some (bytesS (enc1 x)) := by
 unfold exergueref10_text
 rw [bytes1 hr]; rfl
theorem tails_step {b : List Int} {at' k v j y : Int} (hl : b.length ≤ 1000000) (h0 : 0 ≤ at') (hk : 1 ≤ k ∧ k ≤ 3) (hj : 1 ≤ j ∧ j ≤ k) (hin : at' + k < b.length) (hv : 0 ≤ v ∧ v ≤ 100000000) (hy : 0 ≤ y ∧ y < 64) (hb : nth b (at' + j) = 128 + y) :
  (fun (s306 : Int × Int) => ((bif (decide (s306.2 ≤ k)) then (Option.bind (bif inR (IntKind.wrap .i64 (at' + s306.2)) b.length then (Option.bind (Option.bind (bif (decide (((IntKind.wrap .i64 ((nth b (IntKind.wrap .i64 (at' + s306.2)))))) < 128)) then (some true) else (some ((decide (((IntKind.wrap .i64 ((nth b (IntKind.wrap .i64 (at' + s306.2)))))) > 191))))) fun (s585 : Bool) => (bif s585 then (some (.inr (.inr (.inr (.inr (-1)))))) else (some (.inl ())))) (joinX fun (s577 : Unit) => (some (.inl ())))) else none) (joinX fun (s552 : Unit) => (some (.inl ((IntKind.wrap .i64 (((IntKind.wrap .i64 ((IntKind.wrap .i64 (s306.1 * 64)) + ((IntKind.wrap .i64 ((nth b (IntKind.wrap .i64 (at' + s306.2))))))))) - 128)), (IntKind.wrap .i64 (s306.2 + 1))))))) else (some (.inr (.inl s306.1)))) : Option ((Int × Int) ⊕ (Int ⊕ Int)))) (v, j) = some (.inl (v * 64 + y, j + 1)) := by
 simp only
 rw [dT hj.2, w64 (n := at' + j) (by omega) (by omega), inR_int (by omega) (by omega), hb, w64 (n := 128 + y) (by omega) (by omega), dF (show ¬ 128 + y < 128 by omega), dF (show ¬ 128 + y > 191 by omega)]
 simp only [cond_true, cond_false, Option.bind_some, joinX]
 rw [w64 (n := v * 64) (by omega) (by omega), w64 (n := v * 64 + (128 + y)) (by omega) (by omega), w64 (n := v * 64 + (128 + y) - 128) (by omega) (by omega), w64 (n := j + 1) (by omega) (by omega), show v * 64 + (128 + y) - 128 = v * 64 + y by omega]

/-! A row of runes, read back. -/
theorem tails_1 {b : List Int} {at' v y1 : Int} (hl : b.length ≤ 1000000) (h0 : 0 ≤ at') (hin : at' + 1 < b.length) (hv : 0 ≤ v ∧ v < 64) (h1 : 0 ≤ y1 ∧ y1 < 64) (e1 : nth b (at' + 1) = 128 + y1) : exergueref01_tails b at' 1 v = some (v * 64 + y1) := by
 unfold exergueref01_tails
 rw [w64 (n := at' + 1) (by omega) (by omega), dF (show ¬ at' + 1 ≥ (b.length : Int) by omega)]
 simp only [cond_false]
 rw [loop_big (o := .inl (v * 64 + y1)) 2 ?_ (by omega)]
 ·rfl
 ·rw [loopN_next (tails_step hl h0 (by omega) (by omega) hin (by omega) h1 e1)]
  exact loopN_out (by simp only; rw [dF (by omega)]; rfl)
theorem tails_2 {b : List Int} {at' v y1 y2 : Int} (hl : b.length ≤ 1000000) (h0 : 0 ≤ at') (hin : at' + 2 < b.length) (hv : 0 ≤ v ∧ v < 64) (h1 : 0 ≤ y1 ∧ y1 < 64) (e1 : nth b (at' + 1) = 128 + y1) (h2 : 0 ≤ y2 ∧ y2 < 64) (e2 : nth b (at' + 2) = 128 + y2) : exergueref01_tails b at' 2 v = some ((v * 64 + y1) * 64 + y2) := by
 unfold exergueref01_tails
 rw [w64 (n := at' + 2) (by omega) (by omega), dF (show ¬ at' + 2 ≥ (b.length : Int) by omega)]
 simp only [cond_false]
 rw [loop_big (o := .inl ((v * 64 + y1) * 64 + y2)) 3 ?_ (by omega)]
 ·rfl
 ·rw [loopN_next (tails_step hl h0 (by omega) (by omega) hin (by omega) h1 e1), loopN_next (tails_step hl h0 (by omega) (by omega) hin (by omega) h2 (by rw [← e2]; congr 1))]
  exact loopN_out (by simp only; rw [dF (by omega)]; rfl)
theorem tails_3 {b : List Int} {at' v y1 y2 y3 : Int} (hl : b.length ≤ 1000000) (h0 : 0 ≤ at') (hin : at' + 3 < b.length) (hv : 0 ≤ v ∧ v < 64) (h1 : 0 ≤ y1 ∧ y1 < 64) (e1 : nth b (at' + 1) = 128 + y1) (h2 : 0 ≤ y2 ∧ y2 < 64) (e2 : nth b (at' + 2) = 128 + y2) (h3 : 0 ≤ y3 ∧ y3 < 64) (e3 : nth b (at' + 3) = 128 + y3) : exergueref01_tails b at' 3 v = some (((v * 64 + y1) * 64 + y2) * 64 + y3) := by
 unfold exergueref01_tails
 rw [w64 (n := at' + 3) (by omega) (by omega), dF (show ¬ at' + 3 ≥ (b.length : Int) by omega)]
 simp only [cond_false]
 rw [loop_big (o := .inl (((v * 64 + y1) * 64 + y2) * 64 + y3)) 4 ?_ (by omega)]
 ·rfl
 ·rw [loopN_next (tails_step hl h0 (by omega) (by omega) hin (by omega) h1 e1), loopN_next (tails_step hl h0 (by omega) (by omega) hin (by omega) h2 (by rw [← e2]; congr 1)), loopN_next (tails_step hl h0 (by omega) (by omega) hin (by omega) h3 (by rw [← e3]; congr 1))]
  exact loopN_out (by simp only; rw [dF (by omega)]; rfl)
theorem nth_off {pre l : List Int} {j : Nat} (hj : j < l.length) : nth (pre ++ l) ((pre.length : Int) + j) = nth l (j : Int) := by
 rw [show (pre.length : Int) + (j : Int) = ((pre.length + j : Nat) : Int) by omega, nth_nat (by simp; omega), nth_nat hj]
 simp
theorem one_full {pre rest : List Int} {x : Int} (hr : isRb x = true) (hl : pre.length + rest.length ≤ 900000) : exergueref01_one (pre ++ (enc1 x ++ rest)) (pre.length : Int) = some x := by
 have hb := isRb_iff.1 hr
 have h4 := enc1_len x
 have hlen : (pre ++ (enc1 x ++ rest)).length ≤ 1000000 := by simp; omega
 have hat : ∀ j : Nat, j < (enc1 x ++ rest).length → nth (pre ++ (enc1 x ++ rest)) ((pre.length : Int) + j) = nth (enc1 x ++ rest) (j : Int) := fun j hj => nth_off hj
 unfold exergueref01_one
 by_cases h1 : x < 128
 ·have he : enc1 x = [x] := by unfold enc1; rw [if_pos h1]
  rw [he] at hat hlen ⊢
  have e0 := hat 0 (by simp)
  simp only [Int.add_zero, Int.natCast_zero] at e0
  rw [inR_int (by omega) (by simp; omega), e0]
  have e0' : nth ([x] ++ rest) 0 = x := rfl
  rw [e0', w64 (n := x) (by omega) (by omega), dT h1, dF (show ¬ x ≥ 192 by omega), dF (show ¬ x ≥ 224 by omega), dF (show ¬ x ≥ 240 by omega)]
  simp only [cond_true, cond_false, Option.bind_some]
  rw [w32 (n := x) (by omega) (by omega), is1 (by omega) (by omega), hr, dF (show ¬ x < 0 by omega)]
  rfl
 ·by_cases h2 : x < 2048
  ·have he : enc1 x = [192 + x / 64, 128 + x % 64] := by unfold enc1; rw [if_neg h1, if_pos h2]
   rw [he] at hat hlen ⊢
   have e0 := hat 0 (by simp)
   have e1 := hat 1 (by simp)
   simp only [Int.add_zero, Int.natCast_zero] at e0
   have e0' : nth ([192 + x / 64, 128 + x % 64] ++ rest) 0 = 192 + x / 64 := rfl
   have e1' : nth ([192 + x / 64, 128 + x % 64] ++ rest) (1 : Nat) = 128 + x % 64 := rfl
   rw [inR_int (by omega) (by simp; omega), e0, e0', w64 (n := 192 + x / 64) (by omega) (by omega), dF (show ¬ 192 + x / 64 < 128 by omega), dT (show 192 + x / 64 ≥ 192 by omega), dT (show 192 + x / 64 < 224 by omega), dF (show ¬ 192 + x / 64 ≥ 224 by omega), dF (show ¬ 192 + x / 64 ≥ 240 by omega), show 192 + x / 64 - 192 = x / 64 by omega, w64 (n := x / 64) (by omega) (by omega)]
   rw [tails_1 hlen (by omega) (by simp; omega) (by omega) (show 0 ≤ x % 64 ∧ x % 64 < 64 by omega) (e1.trans e1'), show x / 64 * 64 + x % 64 = x by omega]
   simp only [cond_true, cond_false, Option.bind_some]
   rw [w32 (n := x) (by omega) (by omega), is1 (by omega) (by omega), hr, dF (show ¬ x < 128 by omega)]
   rfl
  ·by_cases h3 : x < 65536
   ·have he : enc1 x = [224 + x / 4096, 128 + x / 64 % 64, 128 + x % 64] := by unfold enc1; rw [if_neg h1, if_neg h2, if_pos h3]
    rw [he] at hat hlen ⊢
    have e0 := hat 0 (by simp)
    have e1 := hat 1 (by simp)
    have e2 := hat 2 (by simp)
    simp only [Int.add_zero, Int.natCast_zero] at e0
    have e0' : nth ([224 + x / 4096, 128 + x / 64 % 64, 128 + x % 64] ++ rest) 0 = 224 + x / 4096 := rfl
    have e1' : nth ([224 + x / 4096, 128 + x / 64 % 64, 128 + x % 64] ++ rest) (1 : Nat) = 128 + x / 64 % 64 := rfl
    have e2' : nth ([224 + x / 4096, 128 + x / 64 % 64, 128 + x % 64] ++ rest) (2 : Nat) = 128 + x % 64 := rfl
    rw [inR_int (by omega) (by simp; omega), e0, e0', w64 (n := 224 + x / 4096) (by omega) (by omega), dF (show ¬ 224 + x / 4096 < 128 by omega), dT (show 224 + x / 4096 ≥ 192 by omega), dF (show ¬ 224 + x / 4096 < 224 by omega), dT (show 224 + x / 4096 ≥ 224 by omega), dT (show 224 + x / 4096 < 240 by omega), dF (show ¬ 224 + x / 4096 ≥ 240 by omega), show 224 + x / 4096 - 224 = x / 4096 by omega, w64 (n := x / 4096) (by omega) (by omega)]
    rw [tails_2 hlen (by omega) (by simp; omega) (by omega) (show 0 ≤ x / 64 % 64 ∧ x / 64 % 64 < 64 by omega) (e1.trans e1') (show 0 ≤ x % 64 ∧ x % 64 < 64 by omega) (e2.trans e2'), show (x / 4096 * 64 + x / 64 % 64) * 64 + x % 64 = x by omega]
    simp only [cond_true, cond_false, Option.bind_some]
    rw [w32 (n := x) (by omega) (by omega), is1 (by omega) (by omega), hr, dF (show ¬ x < 2048 by omega)]
    rfl
   ·have he : enc1 x = [240 + x / 262144, 128 + x / 4096 % 64, 128 + x / 64 % 64, 128 + x % 64] := by unfold enc1; rw [if_neg h1, if_neg h2, if_neg h3]
    rw [he] at hat hlen ⊢
    have e0 := hat 0 (by simp)
    have e1 := hat 1 (by simp)
    have e2 := hat 2 (by simp)
    have e3 := hat 3 (by simp)
    simp only [Int.add_zero, Int.natCast_zero] at e0
    have e0' : nth ([240 + x / 262144, 128 + x / 4096 % 64, 128 + x / 64 % 64, 128 + x % 64] ++ rest) 0 = 240 + x / 262144 := rfl
    have e1' : nth ([240 + x / 262144, 128 + x / 4096 % 64, 128 + x / 64 % 64, 128 + x % 64] ++ rest) (1 : Nat) = 128 + x / 4096 % 64 := rfl
    have e2' : nth ([240 + x / 262144, 128 + x / 4096 % 64, 128 + x / 64 % 64, 128 + x % 64] ++ rest) (2 : Nat) = 128 + x / 64 % 64 := rfl
    have e3' : nth ([240 + x / 262144, 128 + x / 4096 % 64, 128 + x / 64 % 64, 128 + x % 64] ++ rest) (3 : Nat) = 128 + x % 64 := rfl
    rw [inR_int (by omega) (by simp; omega), e0, e0', w64 (n := 240 + x / 262144) (by omega) (by omega), dF (show ¬ 240 + x / 262144 < 128 by omega), dT (show 240 + x / 262144 ≥ 192 by omega), dF (show ¬ 240 + x / 262144 < 224 by omega), dT (show 240 + x / 262144 ≥ 224 by omega), dF (show ¬ 240 + x / 262144 < 240 by omega), dT (show 240 + x / 262144 ≥ 240 by omega), dT (show 240 + x / 262144 < 248 by omega), show 240 + x / 262144 - 240 = x / 262144 by omega, w64 (n := x / 262144) (by omega) (by omega)]
    rw [tails_3 hlen (by omega) (by simp; omega) (by omega) (show 0 ≤ x / 4096 % 64 ∧ x / 4096 % 64 < 64 by omega) (e1.trans e1') (show 0 ≤ x / 64 % 64 ∧ x / 64 % 64 < 64 by omega) (e2.trans e2') (show 0 ≤ x % 64 ∧ x % 64 < 64 by omega) (e3.trans e3'), show ((x / 262144 * 64 + x / 4096 % 64) * 64 + x / 64 % 64) * 64 + x % 64 = x by omega]
    simp only [cond_true, cond_false, Option.bind_some]
    rw [w32 (n := x) (by omega) (by omega), is1 (by omega) (by omega), hr, dF (show ¬ x < 65536 by omega)]
    rfl
theorem encL1_app (x y : List Int) : encL1 (x ++ y) = encL1 x ++ encL1 y := by unfold encL1; rw [List.flatMap_append]
theorem rdecode_full {L : List Int} (hL : L.all isRb = true) (hl : L.length ≤ 20000) : exergueref01_Decode (encL1 L) = some (L, 0, 0) := by
 have hE := encL1_len L
 unfold exergueref01_Decode
 generalize hX : encL1 L = X at hE
 generalize hst : (fun (s63 : Int × (List Int)) => ((bif (decide (s63.1 < (X.length : Int))) then (Option.bind (exergueref01_one X s63.1) fun y105 => (bif (decide (y105 < 0)) then (some (.inr (.inr (([] : List Int), s63.1, 3)))) else (bif room (s63.2.length + ([(IntKind.wrap .i32 y105)] : List Int).length) then (Option.bind (exergueref01_Size (IntKind.wrap .i32 y105)) fun y115 => (some (.inl ((IntKind.wrap .i64 (s63.1 + y115)), (s63.2 ++ ([(IntKind.wrap .i32 y105)] : List Int)))))) else none))) else (some (.inr (.inl s63.2)))) : Option ((Int × (List Int)) ⊕ ((List Int) ⊕ ((List Int) × Int × Int))))) = step
 obtain ⟨o, h1, h2⟩ := loop_count (step := step) L.length (fun j => (((encL1 (L.take j)).length : Int), L.take j)) (fun _ => True) (fun o => o = .inl L) (s0 := (0, [])) (by simp [encL1]) trivial (fun j hj _ => by
  left
  refine ⟨?_, trivial⟩
  have hrj : isRb L[j] = true := List.all_eq_true.1 hL _ (List.getElem_mem hj)
  have hb := isRb_iff.1 hrj
  have hX2 : X = encL1 (L.take j) ++ (enc1 L[j] ++ encL1 (L.drop (j + 1))) := by
   rw [← hX]
   have e1 : encL1 (L.drop j) = enc1 L[j] ++ encL1 (L.drop (j + 1)) := by unfold encL1; rw [List.drop_eq_getElem_cons hj, List.flatMap_cons]
   rw [← e1, ← encL1_app, List.take_append_drop]
  have hsz := enc1_size hrj
  have hne : 0 < sizeN L[j] := by
   unfold sizeN; rw [hrj]; simp only [if_true]; split; omega; split; omega; split <;> omega
  have h4 := enc1_len L[j]
  have hlt : (encL1 (L.take j)).length + ((enc1 L[j]).length + (encL1 (L.drop (j + 1))).length) = X.length := by rw [hX2, List.length_append, List.length_append]
  have hone : exergueref01_one X ((encL1 (L.take j)).length : Int) = some L[j] := by rw [hX2]; exact one_full hrj (by omega)
  have hnext : encL1 (L.take (j + 1)) = encL1 (L.take j) ++ enc1 L[j] := by
   rw [List.take_succ_eq_append_getElem hj, encL1_app]; simp [encL1]
  subst hst
  simp only
  rw [dT (by omega), hone]
  simp only [cond_true, Option.bind_some]
  rw [dF (show ¬ L[j] < 0 by omega), w32 (n := L[j]) (by omega) (by omega), size1 (by omega) (by omega), room_of (by simp; omega)]
  simp only [cond_true, cond_false, Option.bind_some]
  rw [w64 (by omega) (by omega), hnext, List.take_succ_eq_append_getElem hj, List.length_append, ← hsz, Int.natCast_add]) (fun _ => ⟨.inl L, by subst hst; simp only; rw [List.take_length, hX, dF (by omega)]; rfl, rfl⟩) (by omega)
 rw [h1, h2]
 rfl
theorem enc1_byte {x c : Int} (hr : isRb x = true) (hc : c ∈ enc1 x) : 0 ≤ c ∧ c < 256 := by
 have hb := isRb_iff.1 hr
 unfold enc1 at hc
 split at hc
 ·simp at hc; omega
 ·split at hc
  ·simp at hc; omega
  ·split at hc <;> (simp at hc; omega)
theorem bytes_back : ∀ {l : List Int}, (∀ c ∈ l, 0 ≤ c ∧ c < 256) → bytesI (bytesS l) = l
 | [], _ => rfl
 | c :: l, h => by
  have h1 := h c (List.mem_cons_self ..)
  have ih := bytes_back (l := l) (fun x hx => h x (List.mem_cons_of_mem _ hx))
  unfold bytesI bytesS at *
  simp only [List.map_cons, List.map_map] at ih ⊢
  congr 1
  have h3 : (UInt8.ofNat c.toNat).toNat = c.toNat % 256 := UInt8.toNat_ofNat'
  rw [h3]; omega
theorem enc_back {L : List Int} (hL : L.all isRb = true) : bytesI (bytesS (encL1 L)) = encL1 L := by
 refine bytes_back (fun c hc => ?_)
 unfold encL1 at hc
 obtain ⟨x, hx, hcx⟩ := List.mem_flatMap.1 hc
 exact enc1_byte (List.all_eq_true.1 hL x hx) hcx
theorem bytesS_app (x y : List Int) : bytesS (x ++ y) = bytesS x ++ bytesS y := by simp [bytesS]
/-! The text of a pattern, as runes. -/
def spc (x : Int) : Bool := decide (x = 35 ∨ x = 64 ∨ x = 44 ∨ x = 46 ∨ x = 59 ∨ x = 42 ∨ x = 37 ∨ x = 45 ∨ x = 43 ∨ x = 39 ∨ x = 69 ∨ x = 164 ∨ (48 ≤ x ∧ x ≤ 57))
theorem spc1 (x : Int) : exergueref10_Special x = some (spc x) := by
 unfold exergueref10_Special
 generalize hS : ([35, 64, 44, 46, 59, 42, 37, 45, 43, 39, 69] : List UInt8) = S
 by_cases h1 : (48 ≤ x ∧ x ≤ 57) ∨ x = 164
 ·have h2 : spc x = true := by unfold spc; rw [dT]; omega
  rw [h2]
  by_cases a : x ≥ 48 <;> by_cases b : x ≤ 57 <;> by_cases c : x = 164 <;> first | omega | simp [a, b, c, joinX]
 ·have hA : (Option.bind (bif (decide (x ≥ 48)) then (bif (decide (x ≤ 57)) then (some true) else (some (decide (x = 164)))) else (some (decide (x = 164)))) fun (s33 : Bool) => (bif s33 then (some (.inr true)) else (some (.inl ()) : Option (Unit ⊕ Bool)))) = some (.inl ()) := by
   by_cases a : x ≥ 48 <;> by_cases b : x ≤ 57 <;> by_cases c : x = 164 <;> first | omega | simp [a, b, c]
  rw [hA]
  simp only [Option.bind_some, joinX]
  obtain ⟨o, g1, g2⟩ := loop_count (step := (fun (s92 : Int) => (bif (decide (s92 < 11)) then (bif inR s92 S.length then (bif (decide (((IntKind.wrap .i32 ((((S.getD (s92 : Int).toNat 0).toNat : Nat) : Int)))) = x)) then (some (.inr (.inr true))) else (some (.inl (IntKind.wrap .i64 (s92 + 1))))) else none) else (some (.inr (.inl ()))) : Option (Int ⊕ (Unit ⊕ Bool))))) 11 (fun i => (i : Int)) (fun i => ∀ j : Nat, j < i → nth ([35, 64, 44, 46, 59, 42, 37, 45, 43, 39, 69] : List Int) (j : Int) ≠ x) (fun o => o = if spc x = true then .inr true else .inl ()) (s0 := 0) rfl (fun j hj => by omega) (fun i hi hI => by
   have hv : IntKind.wrap .i32 (((S.getD (i : Int).toNat 0).toNat : Nat) : Int) = nth ([35, 64, 44, 46, 59, 42, 37, 45, 43, 39, 69] : List Int) (i : Int) := by
    subst hS
    have key : ∀ k : Fin 11, IntKind.wrap .i32 (((([35, 64, 44, 46, 59, 42, 37, 45, 43, 39, 69] : List UInt8).getD (k.val : Int).toNat 0).toNat : Nat) : Int) = nth ([35, 64, 44, 46, 59, 42, 37, 45, 43, 39, 69] : List Int) (k.val : Int) := by decide +kernel
    exact key ⟨i, hi⟩
   have hSl : S.length = 11 := by subst hS; rfl
   rw [dT (show (i : Int) < 11 by omega), inR_nat (by omega), hv, w64 (n := (i : Int) + 1) (by omega) (by omega)]
   simp only [cond_true]
   by_cases c : nth ([35, 64, 44, 46, 59, 42, 37, 45, 43, 39, 69] : List Int) (i : Int) = x
   ·right
    rw [dT c]
    refine ⟨_, rfl, ?_⟩
    have hs : spc x = true := by
     unfold spc
     rw [dT]
     have hm : x ∈ ([35, 64, 44, 46, 59, 42, 37, 45, 43, 39, 69] : List Int) := by rw [← c, nth_nat (by simp; omega)]; exact List.getElem_mem _
     simp at hm
     omega
    rw [if_pos hs]
   ·left
    rw [dF c]
    refine ⟨by simp, fun j hj => ?_⟩
    by_cases e : j = i
    ·subst e; exact c
    ·exact hI j (by omega)) (fun hI => ⟨.inl (), by rw [dF (by omega)]; rfl, by
   have n0 := hI 0 (by omega); have n1 := hI 1 (by omega); have n2 := hI 2 (by omega); have n3 := hI 3 (by omega); have n4 := hI 4 (by omega); have n5 := hI 5 (by omega); have n6 := hI 6 (by omega); have n7 := hI 7 (by omega); have n8 := hI 8 (by omega); have n9 := hI 9 (by omega); have n10 := hI 10 (by omega)
   have hs : spc x = false := by
    unfold spc
    refine dF ?_
    simp [nth] at n0 n1 n2 n3 n4 n5 n6 n7 n8 n9 n10
    omega
   rw [if_neg (by simp [hs])]⟩) (by omega)
  rw [g1, g2]
  cases spc x <;> rfl
theorem times1 {c : UInt8} {n : Int} (h0 : 0 ≤ n) (h1 : n ≤ 1000) : exergueref10_times [c] n = some (List.replicate n.toNat c) := by
 unfold exergueref10_times
 obtain ⟨m, rfl⟩ : ∃ m : Nat, n = m := ⟨n.toNat, by omega⟩
 obtain ⟨o, h2, h3⟩ := loop_count (step := fun (s27 : (List UInt8) × Int) => (bif (decide (s27.2 < (m : Int))) then (bif room (s27.1.length + ([c] : List UInt8).length) then (some (.inl ((s27.1 ++ ([c] : List UInt8)), (IntKind.wrap .i64 (s27.2 + 1))))) else none) else (some (.inr s27.1)))) m (fun i => (List.replicate i c, (i : Int))) (fun _ => True) (fun o => o = List.replicate m c) (s0 := ([], 0)) (by simp) trivial (fun i hi _ => by
  left
  refine ⟨?_, trivial⟩
  simp only
  rw [dT (by omega), room_of (by simp; omega), w64 (by omega) (by omega)]
  simp only [cond_true]
  congr 1
  rw [← List.replicate_succ']
  rfl) (fun _ => ⟨_, by simp only; rw [dF (by omega)]; rfl, rfl⟩) (by omega)
 rw [h2, h3]
 simp
theorem bytesS_rep (n : Nat) (c : Int) : bytesS (List.replicate n c) = List.replicate n (UInt8.ofNat c.toNat) := by simp [bytesS]
def dgt (ha k : Nat) : Int := if k < ha then 35 else 48
def sufR (g1 g2 : Int) (t ha : Nat) : Nat → List Int
 | 0 => []
 | n + 1 => dgt ha (t - 1 - n) :: ((if grpB g1 g2 n = true then [44] else []) ++ sufR g1 g2 t ha n)
theorem sufR_succ (g1 g2 : Int) (t ha n : Nat) : sufR g1 g2 t ha (n + 1) = dgt ha (t - 1 - n) :: ((if grpB g1 g2 n = true then [44] else []) ++ sufR g1 g2 t ha n) := rfl
theorem sufR_len (g1 g2 : Int) (t ha : Nat) : ∀ n, (sufR g1 g2 t ha n).length ≤ 2 * n
 | 0 => by simp [sufR]
 | n + 1 => by
  have := sufR_len g1 g2 t ha n
  unfold sufR
  split <;> simp <;> omega
theorem sufR_eq (g1 g2 : Int) (t ha : Nat) : ∀ n, n ≤ t → plcs g1 g2 t ha (t - n) ++ ((if n < t ∧ grpB g1 g2 n = true then [44] else []) ++ sufR g1 g2 t ha n) = plcs g1 g2 t ha t
 | 0, _ => by
  have : grpB g1 g2 ((0 : Nat) : Int) = false := by
   cases h : grpB g1 g2 ((0 : Nat) : Int)
   ·rfl
   ·have := (grpB_iff.1 h); omega
  rw [this]
  simp [sufR]
 | n + 1, h => by
  have ih := sufR_eq g1 g2 t ha n (by omega)
  rw [← ih, show t - n = (t - (n + 1)) + 1 by omega, plcs_succ]
  rw [sufR_succ]
  unfold plc dgt
  rw [show ((t : Int) - (t - (n + 1) : Nat)) = ((n + 1 : Nat) : Int) by omega, show t - 1 - n = t - (n + 1) by omega]
  by_cases g : grpB g1 g2 ((n + 1 : Nat) : Int) = true <;> by_cases g' : grpB g1 g2 (n : Int) = true <;> by_cases h1 : n + 1 < t
  all_goals (first | rw [if_pos (c := 0 < t - (n + 1) ∧ _) ⟨by omega, g⟩] | rw [if_neg (c := 0 < t - (n + 1) ∧ _) (fun hh => g hh.2)] | rw [if_neg (c := 0 < t - (n + 1) ∧ _) (fun hh => absurd hh.1 (by omega))])
  all_goals (first | rw [if_pos (c := n + 1 < t ∧ _) ⟨by omega, g⟩] | rw [if_neg (c := n + 1 < t ∧ _) (fun hh => g hh.2)] | rw [if_neg (c := n + 1 < t ∧ _) (fun hh => absurd hh.1 (by omega))])
  all_goals (first | rw [if_pos (c := n < t ∧ _) ⟨by omega, g'⟩, if_pos g'] | rw [if_neg (c := n < t ∧ _) (fun hh => g' hh.2), if_neg g'])
  all_goals simp [List.append_assoc]
theorem sufR_all (g1 g2 : Int) (t ha : Nat) : sufR g1 g2 t ha t = plcs g1 g2 t ha t := by
 have := sufR_eq g1 g2 t ha t (by omega)
 rw [if_neg (by omega), Nat.sub_self] at this
 simpa [plcs] using this
theorem number1 {p : St23} (hc : cntP p) (hn : canon (numsP p)) : exergueref10_Number p = some (bytesS (numL p)) := by
 obtain ⟨⟨a1, a2⟩, ⟨b1, b2⟩, ⟨c1, c2⟩, ⟨d1, d2⟩, e1, f1, ⟨g1, g2⟩, ⟨h1, h2⟩, ⟨i1, i2⟩⟩ := hc
 obtain ⟨n1, n2, n3, n4, n5, n6, n7, n8, n9, n10, n11⟩ := hn
 unfold exergueref10_Number
 obtain ⟨ha, hha⟩ : ∃ m : Nat, p.Hash_ = m := ⟨p.Hash_.toNat, by omega⟩
 obtain ⟨mi, hmi⟩ : ∃ m : Nat, p.MinInt_ = m := ⟨p.MinInt_.toNat, by omega⟩
 have hpe : plL p = plcs p.G1_ p.G2_ (ha + mi) ha (ha + mi) := by
  unfold plL; rw [hha, hmi, show ((ha : Int) + mi).toNat = ha + mi by omega, show (ha : Int).toNat = ha by omega]
 rw [hha, hmi, w64 (n := (ha : Int) + mi) (by omega) (by omega)]
 generalize hst : (fun (s519 : (List UInt8) × Int) => ((bif (decide (s519.2 < (ha : Int) + mi)) then (Option.bind (Option.bind (Option.bind (bif (decide (p.G1_ > 0)) then (bif (decide (s519.2 = p.G1_)) then (some true) else (bif (decide (s519.2 > p.G1_)) then (bif (decide (p.G2_ > 0)) then (bif nz p.G2_ then (some ((decide (((Int.tmod (IntKind.wrap .i64 (s519.2 - p.G1_)) p.G2_)) = 0)))) else none) else (some false)) else (some false))) else (some false)) fun (s1003 : Bool) => (bif s1003 then (bif room (([44] : List UInt8).length + s519.1.length) then (some (([44] : List UInt8) ++ s519.1)) else none) else (some s519.1))) fun (s985 : (List UInt8)) => (bif (decide (s519.2 < (mi : Int))) then (bif room (([48] : List UInt8).length + s985.length) then (some (([48] : List UInt8) ++ s985)) else none) else (bif room (([35] : List UInt8).length + s985.length) then (some (([35] : List UInt8) ++ s985)) else none))) fun (s945 : (List UInt8)) => (some (.inl (s945, (IntKind.wrap .i64 (s519.2 + 1)))))) else (some (.inr s519.1))) : Option (((List UInt8) × Int) ⊕ (List UInt8)))) = step
 obtain ⟨o, q1, q2⟩ := loop_count (step := step) (ha + mi) (fun n => (bytesS (sufR p.G1_ p.G2_ (ha + mi) ha n), (n : Int))) (fun _ => True) (fun o => o = bytesS (plL p)) (s0 := ([], 0)) rfl trivial (fun n hi _ => by
  left
  refine ⟨?_, trivial⟩
  subst hst
  have hl := sufR_len p.G1_ p.G2_ (ha + mi) ha n
  have hbl : (bytesS (sufR p.G1_ p.G2_ (ha + mi) ha n)).length = (sufR p.G1_ p.G2_ (ha + mi) ha n).length := by simp [bytesS]
  have hsu : sufR p.G1_ p.G2_ (ha + mi) ha (n + 1) = dgt ha (ha + mi - 1 - n) :: ((if grpB p.G1_ p.G2_ n = true then [44] else []) ++ sufR p.G1_ p.G2_ (ha + mi) ha n) := rfl
  rw [hsu]
  generalize sufR p.G1_ p.G2_ (ha + mi) ha n = P at *
  simp only
  rw [dT (show (n : Int) < (ha : Int) + mi by omega), w64 (n := (n : Int) + 1) (by omega) (by omega)]
  have hG : (bif (decide (p.G1_ > 0)) then (bif (decide ((n : Int) = p.G1_)) then (some true) else (bif (decide ((n : Int) > p.G1_)) then (bif (decide (p.G2_ > 0)) then (bif nz p.G2_ then (some ((decide (((Int.tmod (IntKind.wrap .i64 ((n : Int) - p.G1_)) p.G2_)) = 0)))) else none) else (some false)) else (some false))) else (some false)) = some (grpB p.G1_ p.G2_ n) := by
   unfold grpB
   by_cases c1 : p.G1_ > 0
   ·rw [dT c1, dT (show 1 ≤ p.G1_ by omega)]
    by_cases c2 : (n : Int) = p.G1_
    ·rw [dT c2, dT (show p.G1_ ≤ (n : Int) by omega)]; rfl
    ·rw [dF c2]
     by_cases c3 : (n : Int) > p.G1_
     ·rw [dT c3, dT (show p.G1_ ≤ (n : Int) by omega), w64 (n := (n : Int) - p.G1_) (by omega) (by omega), Int.tmod_eq_emod_of_nonneg (by omega)]
      by_cases c4 : p.G2_ > 0
      ·rw [dT c4, show nz p.G2_ = true by unfold nz; rw [dF (by omega)]; rfl]; simp
      ·rw [dF c4]; rfl
     ·rw [dF c3, dF (show ¬ p.G1_ ≤ (n : Int) by omega)]; rfl
   ·rw [dF c1, dF (show ¬ 1 ≤ p.G1_ by omega)]; rfl
  rw [hG]
  have hrm : ∀ (x : List UInt8) (c : UInt8), x.length ≤ 1000 → room (([c] : List UInt8).length + x.length) = true := fun x c hx => room_of (by simp; omega)
  have hA : (Option.bind (some (grpB p.G1_ p.G2_ n)) fun (s1003 : Bool) => (bif s1003 then (bif room (([44] : List UInt8).length + (bytesS P).length) then (some (([44] : List UInt8) ++ bytesS P)) else none) else (some (bytesS P)))) = some (bytesS ((if grpB p.G1_ p.G2_ n = true then [44] else []) ++ P)) := by
   rw [hrm _ _ (by omega)]
   cases grpB p.G1_ p.G2_ n <;> rfl
  rw [hA]
  simp only [Option.bind_some, cond_true]
  have hL : (bytesS ((if grpB p.G1_ p.G2_ n = true then [44] else []) ++ P)).length ≤ 1000 := by
   unfold bytesS
   rw [List.length_map, List.length_append]
   have : (if grpB p.G1_ p.G2_ n = true then ([44] : List Int) else []).length ≤ 1 := by split <;> simp
   omega
  rw [hrm _ _ hL, hrm _ _ hL]
  unfold dgt
  by_cases c1 : n < mi
  ·rw [dT (show (n : Int) < mi by omega), if_neg (c := ha + mi - 1 - n < ha) (by omega)]; rfl
  ·rw [dF (show ¬ (n : Int) < mi by omega), if_pos (c := ha + mi - 1 - n < ha) (by omega)]; rfl) (fun _ => ⟨_, by subst hst; simp only; rw [dF (by omega)]; rfl, by rw [sufR_all, hpe]⟩) (by omega)
 rw [q1, q2]
 simp only [Option.bind_some]
 have hpl : (plL p).length ≤ 160 := by
  have := plcs_len p.G1_ p.G2_ (ha + mi) ha (ha + mi)
  rw [hpe]; omega
 have hbl : (bytesS (plL p)).length ≤ 160 := by simp [bytesS]; exact hpl
 rw [times1 g1 (by omega), w64 (n := p.MaxSig_ - p.MinSig_) (by omega) (by omega), times1 (by omega) (by omega), times1 c1 (by omega), w64 (n := p.MaxFrac_ - p.MinFrac_) (by omega) (by omega), times1 (by omega) (by omega), times1 i1 (by omega)]
 simp only [Option.bind_some]
 have hS : bytesS (sgL p) = List.replicate p.MinSig_.toNat 64 ++ List.replicate (p.MaxSig_ - p.MinSig_).toNat 35 := by
  unfold sgL; rw [bytesS_app, bytesS_rep, bytesS_rep]; rfl
 have hSl : (sgL p).length ≤ 90 := by unfold sgL; simp; omega
 rw [room_of (by simp; omega), room_of (by simp; omega)]
 simp only [cond_true]
 rw [← hS]
 have hF : (bif (decide (p.MaxFrac_ > 0)) then (bif room ((bytesS (sgL p) ++ bytesS (plL p)).length + ([46] : List UInt8).length) then (bif room ((((bytesS (sgL p) ++ bytesS (plL p)) ++ ([46] : List UInt8))).length + (List.replicate p.MinFrac_.toNat (48 : UInt8)).length) then (bif room (((((((bytesS (sgL p) ++ bytesS (plL p)) ++ ([46] : List UInt8))) ++ List.replicate p.MinFrac_.toNat (48 : UInt8)))).length + (List.replicate (p.MaxFrac_ - p.MinFrac_).toNat (35 : UInt8)).length) then (some ((((((((bytesS (sgL p) ++ bytesS (plL p)) ++ ([46] : List UInt8))) ++ List.replicate p.MinFrac_.toNat (48 : UInt8))) ++ List.replicate (p.MaxFrac_ - p.MinFrac_).toNat (35 : UInt8))))) else none) else none) else none) else (some (bytesS (sgL p) ++ bytesS (plL p)))) = some (bytesS (sgL p ++ (plL p ++ frL p))) := by
  have hb2 : (bytesS (sgL p)).length ≤ 90 := by simp [bytesS]; exact hSl
  unfold frL
  by_cases h0 : p.MaxFrac_ = 0
  ·rw [dF (by omega), if_pos h0]; simp [bytesS_app]
  ·rw [dT (show p.MaxFrac_ > 0 by omega), if_neg h0, room_of (by simp; omega), room_of (by simp; omega), room_of (by simp; omega)]
   rw [bytesS_app, bytesS_app, show ∀ l : List Int, bytesS (46 :: l) = 46 :: bytesS l from fun _ => rfl, bytesS_app, bytesS_rep, bytesS_rep]
   simp [List.append_assoc]
 rw [hF]
 simp only [Option.bind_some]
 have hb3 : (bytesS (sgL p ++ (plL p ++ frL p))).length ≤ 400 := by
  have hfr : (frL p).length ≤ 90 := by unfold frL; split <;> simp; omega
  simp [bytesS]; omega
 have hN : numL p = (sgL p ++ (plL p ++ frL p)) ++ exL p := by
  unfold numL
  by_cases hs : 0 < p.MinSig_
  ·obtain ⟨z1, z2, z3, z4⟩ := n10 hs
   have e1 : plL p = [] := by rw [hpe]; have : ha + mi = 0 := by omega
                              rw [this]; rfl
   have e2 : frL p = [] := by unfold frL; rw [if_pos z4]
   rw [if_pos hs, e1, e2]; simp
  ·have e1 : sgL p = [] := by
    unfold sgL
    have hz : p.MinSig_ = 0 := by omega
    have := (n9 hz).1
    rw [hz, this]; rfl
   rw [if_neg hs, e1]; simp
 rw [hN]
 generalize sgL p ++ (plL p ++ frL p) = S at *
 unfold exL
 by_cases h0 : p.Exp_ = 0
 ·rw [dF (by omega), if_pos h0]; simp
 ·rw [dT (show p.Exp_ > 0 by omega), if_neg h0, room_of (by simp; omega), room_of (by simp; omega)]
  simp only [cond_true]
  cases hep : p.ExpPlus_ with
  | true =>
   simp only [cond_true, Option.bind_some]
   rw [room_of (by simp; omega), if_pos trivial, bytesS_app, show ∀ l : List Int, bytesS (69 :: l) = 69 :: bytesS l from fun _ => rfl, bytesS_app, bytesS_rep]
   simp [bytesS]
  | false =>
   simp only [cond_false, Option.bind_some]
   rw [room_of (by simp; omega), if_neg (by simp), bytesS_app, show ∀ l : List Int, bytesS (69 :: l) = 69 :: bytesS l from fun _ => rfl, bytesS_app, bytesS_rep]
   simp [bytesS]
/-! An affix as runes. -/
def qN (q : Bool) (t : St33) : Bool := if t.Kind_ = 0 ∧ t.R_ = 39 then q else (decide (t.Kind_ = 0) && spc t.R_)
def pcL (t : St33) : List Int := if t.Kind_ = 0 then (if t.R_ = 39 then [39, 39] else [t.R_]) else if t.Kind_ = 1 then [45] else if t.Kind_ = 2 then [43] else if t.Kind_ = 3 then [37] else if t.Kind_ = 4 then [164] else []
def affS (s : Bool × List Int) (t : St33) : Bool × List Int := (qN s.1 t, s.2 ++ ((if (qN s.1 t != s.1) = true then [39] else []) ++ pcL t))
def affF (l : List St33) : Bool × List Int := l.foldl affS (false, [])
def affL (l : List St33) : List Int := (affF l).2 ++ (if (affF l).1 = true then [39] else [])
theorem affF_succ {l : List St33} {i : Nat} (h : i < l.length) : affF (l.take (i + 1)) = affS (affF (l.take i)) l[i] := by
 unfold affF
 rw [List.take_succ_eq_append_getElem h, List.foldl_append]; rfl
def tokOk (l : List St33) : Bool := l.all (fun t => isRb t.R_)
theorem pcL_ok {t : St33} (h : isRb t.R_ = true) : (pcL t).all isRb = true ∧ (pcL t).length ≤ 2 := by
 unfold pcL
 split
 ·split
  ·exact ⟨by decide, by simp⟩
  ·exact ⟨by simp [h], by simp⟩
 ·split
  ·exact ⟨by decide, by simp⟩
  ·split
   ·exact ⟨by decide, by simp⟩
   ·split
    ·exact ⟨by decide, by simp⟩
    ·split
     ·exact ⟨by decide, by simp⟩
     ·exact ⟨by decide, by simp⟩
theorem pcL_len (t : St33) : (pcL t).length ≤ 2 := by
 unfold pcL; repeat' split
 all_goals simp
theorem affF_ok {l : List St33} (h : tokOk l = true) : ∀ i, i ≤ l.length → (affF (l.take i)).2.all isRb = true
 | 0, _ => by simp [affF]
 | i + 1, hi => by
  rw [affF_succ (by omega)]
  have hr : isRb (l[i].R_) = true := List.all_eq_true.1 h _ (List.getElem_mem _)
  have ih := affF_ok h i (by omega)
  have h39 : isRb 39 = true := by decide
  unfold affS
  simp only [List.all_append, ih, (pcL_ok hr).1, Bool.and_true, Bool.true_and]
  split <;> simp [h39]
theorem affF_len {l : List St33} : ∀ i, i ≤ l.length → (affF (l.take i)).2.length ≤ 3 * i
 | 0, _ => by simp [affF]
 | i + 1, hi => by
  rw [affF_succ (by omega)]
  have ih := affF_len (l := l) i (by omega)
  have := pcL_len l[i]
  unfold affS
  simp only [List.length_append]
  have : (if (qN (affF (l.take i)).1 l[i] != (affF (l.take i)).1) = true then ([39] : List Int) else []).length ≤ 1 := by split <;> simp
  omega
theorem affL_ok {l : List St33} (h : tokOk l = true) : (affL l).all isRb = true := by
 have := affF_ok h l.length (by omega)
 rw [List.take_length] at this
 unfold affL
 rw [List.all_append, this]
 split <;> decide
theorem affL_len (l : List St33) : (affL l).length ≤ 3 * l.length + 1 := by
 have := affF_len (l := l) l.length (by omega)
 rw [List.take_length] at this
 unfold affL
 rw [List.length_append]
 split <;> simp <;> omega
theorem bytesS_ln (l : List Int) : (bytesS l).length = l.length := by simp [bytesS]
theorem encB_len (l : List Int) : (bytesS (encL1 l)).length ≤ 4 * l.length := by rw [bytesS_ln]; exact encL1_len l
theorem encB_app (x y : List Int) : bytesS (encL1 (x ++ y)) = bytesS (encL1 x) ++ bytesS (encL1 y) := by rw [encL1_app, bytesS_app]
theorem written1 {l : List St33} (h : tokOk l = true) (hl : l.length ≤ 300) : exergueref10_written l = some (bytesS (encL1 (affL l))) := by
 unfold exergueref10_written
 generalize hst : (fun (s633 : (List UInt8) × Bool × Int) => ((bif (decide (s633.2.2 < (l.length : Int))) then (Option.bind (bif inR s633.2.2 l.length then (Option.bind (exergueref10_Special ((nth l s633.2.2).R_)) fun y1160 => (Option.bind (bif inR s633.2.2 l.length then (bif (decide (((nth l s633.2.2).Kind_) = 0)) then (bif inR s633.2.2 l.length then (some ((decide (((nth l s633.2.2).R_) = 39)))) else none) else (some false)) else none) fun (s1168 : Bool) => (Option.bind (bif inR s633.2.2 l.length then (bif (decide (((nth l s633.2.2).Kind_) = 0)) then (some y1160) else (some false)) else none) fun (s1182 : Bool) => (Option.bind (Option.bind (bif (!s1168) then (some (s1182 != s633.2.1)) else (some false)) fun (s1214 : Bool) => (bif s1214 then (bif room (s633.1.length + ([39] : List UInt8).length) then (some ((s633.1 ++ ([39] : List UInt8)), s1182)) else none) else (some (s633.1, s633.2.1)))) fun (s1206 : (List UInt8) × Bool) => (bif inR s633.2.2 l.length then (bif (decide (((nth l s633.2.2).Kind_) = 0)) then (bif inR s633.2.2 l.length then (Option.bind (exergueref10_text ((nth l s633.2.2).R_)) fun y1231 => (bif room (s1206.1.length + y1231.length) then (bif s1168 then (bif room ((s1206.1 ++ y1231).length + ([39] : List UInt8).length) then (some (((s1206.1 ++ y1231) ++ ([39] : List UInt8)), s1206.2)) else none) else (some ((s1206.1 ++ y1231), s1206.2))) else none)) else none) else (bif (decide (((nth l s633.2.2).Kind_) = 1)) then (bif room (s1206.1.length + ([45] : List UInt8).length) then (some ((s1206.1 ++ ([45] : List UInt8)), s1206.2)) else none) else (bif (decide (((nth l s633.2.2).Kind_) = 2)) then (bif room (s1206.1.length + ([43] : List UInt8).length) then (some ((s1206.1 ++ ([43] : List UInt8)), s1206.2)) else none) else (bif (decide (((nth l s633.2.2).Kind_) = 3)) then (bif room (s1206.1.length + ([37] : List UInt8).length) then (some ((s1206.1 ++ ([37] : List UInt8)), s1206.2)) else none) else (bif (decide (((nth l s633.2.2).Kind_) = 4)) then (Option.bind (exergueref10_text 164) fun y1254 => (bif room (s1206.1.length + y1254.length) then (some ((s1206.1 ++ y1254), s1206.2)) else none)) else (some (s1206.1, s1206.2))))))) else none))))) else none) fun (s1154 : (List UInt8) × Bool) => (some (.inl (s1154.1, s1154.2, (IntKind.wrap .i64 (s633.2.2 + 1)))))) else (some (.inr (s633.1, s633.2.1)))) : Option (((List UInt8) × Bool × Int) ⊕ ((List UInt8) × Bool)))) = step
 obtain ⟨o, q1, q2⟩ := loop_count (step := step) l.length (fun i => (bytesS (encL1 (affF (l.take i)).2), (affF (l.take i)).1, (i : Int))) (fun _ => True) (fun o => o = (bytesS (encL1 (affF l).2), (affF l).1)) (s0 := ([], false, 0)) rfl trivial (fun i hi _ => by
  left
  refine ⟨?_, trivial⟩
  have hr : isRb (l[i].R_) = true := List.all_eq_true.1 h _ (List.getElem_mem _)
  have hln := affF_len (l := l) i (by omega)
  have hbl := encB_len (affF (l.take i)).2
  rw [affF_succ hi]
  subst hst
  generalize affF (l.take i) = F at hln hbl
  obtain ⟨q, out⟩ := F
  simp only at hln hbl ⊢
  rw [dT (show (i : Int) < (l.length : Int) by omega), inR_nat hi, w64 (n := (i : Int) + 1) (by omega) (by omega), nth_nat hi]
  generalize l[i] = t at hr
  obtain ⟨k, r⟩ := t
  simp only at hr ⊢
  rw [spc1, text1 hr]
  simp only [Option.bind_some, cond_true]
  have hA : ∀ (s : Bool), ((Option.bind (bif (!(decide (k = 0) && decide (r = 39))) then (some (s != q)) else (some false)) fun (s1214 : Bool) => (bif s1214 then (bif room ((bytesS (encL1 out)).length + ([39] : List UInt8).length) then (some ((bytesS (encL1 out) ++ ([39] : List UInt8)), s)) else none) else (some (bytesS (encL1 out), q)))) : Option (List UInt8 × Bool)) = some (bytesS (encL1 (out ++ (if ((if k = 0 ∧ r = 39 then q else s) != q) = true then [39] else []))), if k = 0 ∧ r = 39 then q else s) := by
   intro s
   rw [room_of (by simp; omega)]
   by_cases h1 : k = 0 ∧ r = 39
   ·rw [dT h1.1, dT h1.2, if_pos h1]
    simp
   ·rw [show (decide (k = 0) && decide (r = 39)) = false by rw [← Bool.decide_and]; exact dF h1, if_neg h1]
    cases s <;> cases q <;> simp [encL1_app, bytesS_app] <;> rfl
  have hB : (bif (decide (k = 0)) then (some ((decide (r = 39)))) else (some false) : Option Bool) = some (decide (k = 0) && decide (r = 39)) := by cases decide (k = 0) <;> rfl
  have hC : (bif (decide (k = 0)) then (some (spc r)) else (some false) : Option Bool) = some (decide (k = 0) && spc r) := by cases decide (k = 0) <;> rfl
  rw [hB, hC]
  simp only [Option.bind_some]
  rw [hA]
  simp only [Option.bind_some]
  have hq : qN q ⟨k, r⟩ = if k = 0 ∧ r = 39 then q else (decide (k = 0) && spc r) := rfl
  unfold affS
  simp only
  rw [← hq]
  generalize qN q ⟨k, r⟩ = q'
  rw [← List.append_assoc]
  have hol : (out ++ (if (q' != q) = true then [39] else [])).length ≤ 3 * i + 1 := by
   rw [List.length_append]; split <;> simp <;> omega
  generalize out ++ (if (q' != q) = true then [39] else []) = out' at *
  have hbl' := encB_len out'
  have h164 : exergueref10_text 164 = some (bytesS (enc1 164)) := text1 (by decide)
  have hel : (bytesS (enc1 r)).length ≤ 4 := by rw [bytesS_ln]; exact enc1_len r
  have hel2 : (bytesS (enc1 164)).length ≤ 4 := by rw [bytesS_ln]; exact enc1_len 164
  rw [h164]
  simp only [Option.bind_some]
  rw [encB_app]
  unfold pcL
  simp only
  rw [room_of (by omega), room_of (by simp; omega), room_of (by simp; omega), room_of (by simp; omega)]
  by_cases k0 : k = 0
  ·rw [dT k0, if_pos k0]
   by_cases r9 : r = 39
   ·rw [dT r9, if_pos r9]; subst r9; simp; rfl
   ·rw [dF r9, if_neg r9]; simp [encL1]
  ·rw [dF k0, if_neg k0]
   by_cases k1 : k = 1
   ·rw [dT k1, if_pos k1]; rfl
   ·rw [dF k1, if_neg k1]
    by_cases k2 : k = 2
    ·rw [dT k2, if_pos k2]; rfl
    ·rw [dF k2, if_neg k2]
     by_cases k3 : k = 3
     ·rw [dT k3, if_pos k3, room_of (by simp; omega)]; rfl
     ·rw [dF k3, if_neg k3]
      by_cases k4 : k = 4
      ·rw [dT k4, if_pos k4]
       rw [room_of (n := (bytesS (encL1 out')).length + (bytesS (enc1 164)).length) (by omega)]
       simp [encL1]
      ·rw [dF k4, if_neg k4]; simp [encL1, bytesS]) (fun _ => ⟨_, by subst hst; simp only; rw [dF (by omega)]; rfl, by rw [List.take_length]⟩) (by omega)
 rw [q1, q2]
 simp only [Option.bind_some]
 have hln := affF_len (l := l) l.length (by omega)
 rw [List.take_length] at hln
 have hbl := encB_len (affF l).2
 unfold affL
 rw [room_of (by simp; omega), encB_app]
 cases (affF l).1
 ·simp [encL1, bytesS]
 ·simp; rfl
def padL (p : St23) (w : Int) : List Int := if p.PadAt_ = w then [42, p.Pad_] else []
theorem padL_len (p : St23) (w : Int) : (padL p w).length ≤ 2 := by unfold padL; split <;> simp
theorem padded1 {p : St23} (w : Int) (h : isRb p.Pad_ = true) : exergueref10_padded p w = some (bytesS (encL1 (padL p w))) := by
 unfold exergueref10_padded padL
 by_cases h1 : p.PadAt_ = w
 ·rw [dT h1, if_pos h1, text1 h]
  have hel : (bytesS (enc1 p.Pad_)).length ≤ 4 := by rw [bytesS_ln]; exact enc1_len _
  simp only [cond_true, Option.bind_some]
  rw [room_of (by simp; omega)]
  simp [encL1, bytesS]
  rfl
 ·rw [dF h1, if_neg h1]; rfl
theorem asc_enc : ∀ {l : List Int}, asc l → encL1 l = l
 | [], _ => rfl
 | c :: l, h => by
  have h1 := h c (List.mem_cons_self ..)
  have ih := asc_enc (l := l) (fun x hx => h x (List.mem_cons_of_mem _ hx))
  have e : encL1 (c :: l) = enc1 c ++ encL1 l := rfl
  rw [e, ih]
  unfold enc1
  rw [if_pos h1.2]; rfl
theorem asc_ok {l : List Int} (h : asc l) : l.all isRb = true := by
 refine List.all_eq_true.2 (fun c hc => ?_)
 have := h c hc
 exact isRb_iff.2 (by omega)
def txL (p : St23) : List Int := padL p 1 ++ (affL p.Pre_ ++ (padL p 2 ++ (numL p ++ (padL p 3 ++ (affL p.Suf_ ++ (padL p 4 ++ (if p.Neg_ = true then 59 :: (affL p.NPre_ ++ (numL p ++ affL p.NSuf_)) else [])))))))
theorem numL_len {p : St23} (hc : cntP p) (hn : canon (numsP p)) : (numL p).length ≤ 400 := (number_eq hc hn).2
theorem text_ref {p : St23} (hc : cntP p) (hn : canon (numsP p)) (h1 : p.Pre_.length ≤ 300) (h2 : p.Suf_.length ≤ 300) (h3 : p.NPre_.length ≤ 300) (h4 : p.NSuf_.length ≤ 300) (o0 : isRb p.Pad_ = true) (o1 : tokOk p.Pre_ = true) (o2 : tokOk p.Suf_ = true) (o3 : tokOk p.NPre_ = true) (o4 : tokOk p.NSuf_ = true) : exergueref10_Text p = some (bytesS (encL1 (txL p))) := by
 have hN := number1 hc hn
 rw [← asc_enc (asc_num p)] at hN
 unfold exergueref10_Text
 rw [padded1 1 o0, padded1 2 o0, padded1 3 o0, padded1 4 o0, written1 o1 h1, written1 o2 h2, written1 o3 h3, written1 o4 h4, hN]
 simp only [Option.bind_some]
 have b1 := encB_len (padL p 1); have b2 := encB_len (padL p 2); have b3 := encB_len (padL p 3); have b4 := encB_len (padL p 4)
 have a1 := padL_len p 1; have a2 := padL_len p 2; have a3 := padL_len p 3; have a4 := padL_len p 4
 have c1 := encB_len (affL p.Pre_); have c2 := encB_len (affL p.Suf_); have c3 := encB_len (affL p.NPre_); have c4 := encB_len (affL p.NSuf_)
 have d1 := affL_len p.Pre_; have d2 := affL_len p.Suf_; have d3 := affL_len p.NPre_; have d4 := affL_len p.NSuf_
 have e1 := encB_len (numL p); have e2 := numL_len hc hn
 unfold txL
 rw [encB_app, encB_app, encB_app, encB_app, encB_app, encB_app, encB_app]
 generalize bytesS (encL1 (padL p 1)) = A1 at *
 generalize bytesS (encL1 (padL p 2)) = A2 at *
 generalize bytesS (encL1 (padL p 3)) = A3 at *
 generalize bytesS (encL1 (padL p 4)) = A4 at *
 have hneg : bytesS (encL1 (if p.Neg_ = true then 59 :: (affL p.NPre_ ++ (numL p ++ affL p.NSuf_)) else [])) = if p.Neg_ = true then 59 :: (bytesS (encL1 (affL p.NPre_)) ++ (bytesS (encL1 (numL p)) ++ bytesS (encL1 (affL p.NSuf_)))) else [] := by
  split
  ·rw [show (59 : Int) :: (affL p.NPre_ ++ (numL p ++ affL p.NSuf_)) = [59] ++ (affL p.NPre_ ++ (numL p ++ affL p.NSuf_)) from rfl, encB_app, encB_app, encB_app]; rfl
  ·rfl
 rw [hneg]
 generalize bytesS (encL1 (affL p.Pre_)) = C1 at *
 generalize bytesS (encL1 (affL p.Suf_)) = C2 at *
 generalize bytesS (encL1 (affL p.NPre_)) = C3 at *
 generalize bytesS (encL1 (affL p.NSuf_)) = C4 at *
 generalize bytesS (encL1 (numL p)) = N at *
 rw [room_of (by omega), room_of (by simp; omega), room_of (by simp; omega), room_of (by simp; omega), room_of (by simp; omega), room_of (by simp; omega)]
 simp only [cond_true]
 cases p.Neg_ with
 | true =>
  rw [room_of (by simp; omega), room_of (by simp; omega), room_of (by simp; omega), room_of (by simp; omega)]
  simp [List.append_assoc]
 | false => simp [List.append_assoc]
theorem txL_ok {p : St23} (o0 : isRb p.Pad_ = true) (o1 : tokOk p.Pre_ = true) (o2 : tokOk p.Suf_ = true) (o3 : tokOk p.NPre_ = true) (o4 : tokOk p.NSuf_ = true) : (txL p).all isRb = true := by
 have hp : ∀ w, (padL p w).all isRb = true := fun w => by
  unfold padL; split
  ·simp [o0]; decide
  ·rfl
 have hn := asc_ok (asc_num p)
 unfold txL
 simp only [List.all_append, hp, affL_ok o1, affL_ok o2, hn, Bool.true_and]
 split
 ·rw [List.all_cons, List.all_append, List.all_append, affL_ok o3, affL_ok o4, hn]; decide
 ·rfl
/-! The text of a number, read: all of it. -/
def hdI (l : List Int) : Int := l.headD (-1)
theorem atV_hd {A B : List Int} : atV (A ++ B) (A.length : Int) = hdI B := by
 cases B with
 | nil => rw [List.append_nil, atV_end]; rfl
 | cons c r => rw [atV_mid]; rfl
theorem atV_rep {A B : List Int} {n : Nat} {c : Int} {j : Int} (h0 : 0 ≤ j) (h1 : j < n) : atV (A ++ (List.replicate n c ++ B)) ((A.length : Int) + j) = c := by
 obtain ⟨k, rfl⟩ : ∃ k : Nat, j = k := ⟨j.toNat, by omega⟩
 have hk : k < n := by omega
 unfold atV
 rw [if_pos (by simp; omega), nth_off (by simp; omega), nth_nat (by simp; omega)]
 rw [List.getElem_append_left (by simpa using hk)]
 simp
theorem mn_rep {A B : List Int} {n : Nat} {c : Int} (h : hdI B ≠ c) : Mn (A ++ (List.replicate n c ++ B)) (A.length : Int) c (n : Int) := by
 refine ⟨by omega, fun j h0 h1 => atV_rep h0 h1, ?_⟩
 rw [show (A.length : Int) + (n : Int) = ((A ++ List.replicate n c).length : Int) by simp, ← List.append_assoc, atV_hd]
 exact h
theorem hd_ex {p : St23} : hdI (exL p) = -1 ∨ hdI (exL p) = 69 := by
 unfold exL; split
 ·exact .inl rfl
 ·exact .inr rfl
theorem hd_rep {n : Nat} {c : Int} {B : List Int} : hdI (List.replicate n c ++ B) = if n = 0 then hdI B else c := by
 cases n with
 | zero => rfl
 | succ n => rfl
theorem hd_app {A B : List Int} : hdI (A ++ B) = if A = [] then hdI B else hdI A := by
 cases A with
 | nil => rfl
 | cons a r => rfl
theorem fraction_num {p : St23} {A : List Int} {a2 a3 a4 a5 a6 : Int} {b7 : List St33} {b8 : Bool} {c9 c10 c13 c14 c15 c16 c17 c19 c20 : Int} {c18 : Bool} (hc : cntP p) (hn : canon (numsP p)) (hA : A.length ≤ 1000) :
  pat_reader__fraction_s0 (A ++ (frL p ++ exL p)) (A.length : Int) a2 a3 a4 a5 a6 b7 b8 c9 c10 0 0 c13 c14 c15 c16 c17 c18 c19 c20 = some (.inl (((A ++ frL p).length : Int), p.MinFrac_, p.MaxFrac_)) := by
 obtain ⟨⟨_, _⟩, ⟨_, _⟩, ⟨c1, c2⟩, ⟨d1, d2⟩, _, _, _, _, ⟨i1, i2⟩⟩ := hc
 obtain ⟨n1, n2, n3, n4, n5, n6, n7, n8, n9, n10, n11⟩ := hn
 have hex : (exL p).length ≤ 50 := by
  unfold exL; split
  ·simp
  ·split <;> simp <;> omega
 have hfr : (frL p).length ≤ 90 := by unfold frL; split <;> simp; omega
 have hl : (A ++ (frL p ++ exL p)).length ≤ 10000 := by rw [List.length_append, List.length_append]; omega
 unfold pat_reader__fraction_s0
 rw [eat_at hl (by omega) (by omega) (by omega), atV_hd]
 by_cases h0 : p.MaxFrac_ = 0
 ·have hf : frL p = [] := by unfold frL; rw [if_pos h0]
  rw [hf, List.nil_append, if_neg (by rcases hd_ex (p := p) with h | h <;> omega)]
  simp only [Bool.not_false, cond_true, Option.bind_some, List.append_nil]
  rw [h0, show p.MinFrac_ = 0 by omega]
 ·have hf : frL p = 46 :: (List.replicate p.MinFrac_.toNat 48 ++ List.replicate (p.MaxFrac_ - p.MinFrac_).toNat 35) := by unfold frL; rw [if_neg h0]
  rw [if_pos (by rw [hf]; rfl)]
  simp only [Bool.not_true, cond_false, Option.bind_some]
  have e1 : A ++ (frL p ++ exL p) = (A ++ [46]) ++ (List.replicate p.MinFrac_.toNat 48 ++ (List.replicate (p.MaxFrac_ - p.MinFrac_).toNat 35 ++ exL p)) := by rw [hf]; simp
  have e2 : A ++ (frL p ++ exL p) = (A ++ [46] ++ List.replicate p.MinFrac_.toNat 48) ++ (List.replicate (p.MaxFrac_ - p.MinFrac_).toNat 35 ++ exL p) := by rw [hf]; simp
  have m1 : Mn (A ++ (frL p ++ exL p)) ((A.length : Int) + 1) 48 p.MinFrac_ := by
   have := mn_rep (A := A ++ [46]) (n := p.MinFrac_.toNat) (c := 48) (B := List.replicate (p.MaxFrac_ - p.MinFrac_).toNat 35 ++ exL p) (by rw [hd_rep]; split; (rcases hd_ex (p := p) with h | h <;> omega); omega)
   rw [← e1] at this
   have hx : ((A ++ [46]).length : Int) = (A.length : Int) + 1 := by simp
   rwa [hx, show ((p.MinFrac_.toNat : Nat) : Int) = p.MinFrac_ by omega] at this
  have m2 : Mn (A ++ (frL p ++ exL p)) ((A.length : Int) + 1 + p.MinFrac_) 35 (p.MaxFrac_ - p.MinFrac_) := by
   have := mn_rep (A := A ++ [46] ++ List.replicate p.MinFrac_.toNat 48) (n := (p.MaxFrac_ - p.MinFrac_).toNat) (c := 35) (B := exL p) (by rcases hd_ex (p := p) with h | h <;> omega)
   rw [← e2] at this
   have hx : ((A ++ [46] ++ List.replicate p.MinFrac_.toNat 48).length : Int) = (A.length : Int) + 1 + p.MinFrac_ := by simp; omega
   rwa [hx, show (((p.MaxFrac_ - p.MinFrac_).toNat : Nat) : Int) = p.MaxFrac_ - p.MinFrac_ by omega] at this
  have hlen : ((A ++ (frL p ++ exL p)).length : Int) = (A.length : Int) + 1 + p.MinFrac_ + (p.MaxFrac_ - p.MinFrac_) + ((exL p).length : Int) := by rw [e2]; simp; omega
  have hlen2 : ((A ++ frL p).length : Int) = (A.length : Int) + 1 + p.MinFrac_ + (p.MaxFrac_ - p.MinFrac_) := by rw [hf]; simp; omega
  rw [many_is hl (by omega) (by omega) (by omega) m1]
  simp only [Option.bind_some]
  rw [many_is hl (by omega) (by omega) (by omega) m2]
  simp only [Option.bind_some]
  rw [w64 (n := p.MinFrac_ + (p.MaxFrac_ - p.MinFrac_)) (by omega) (by omega), show p.MinFrac_ + (p.MaxFrac_ - p.MinFrac_) = p.MaxFrac_ by omega, dF h0, hlen2]
  rfl
theorem number_num {p : St23} {a2 a3 a4 a5 a6 : Int} {b7 : List St33} {c19 c20 : Int} (hc : cntP p) (hn : canon (numsP p)) :
  pat_reader__number_s0 (numL p) 0 a2 a3 a4 a5 a6 b7 false 0 0 0 0 0 0 0 0 0 false c19 c20 = some (.inl (((numL p).length : Int), p.Hash_, p.MinInt_, p.MinFrac_, p.MaxFrac_, p.G1_, p.G2_, p.MinSig_, p.MaxSig_, p.Exp_, p.ExpPlus_)) := by
 have hl400 := numL_len hc hn
 have hc0 := hc; have hn0 := hn
 obtain ⟨⟨a1, a2'⟩, ⟨b1, b2⟩, ⟨c1, c2⟩, ⟨d1, d2⟩, e1, f1, ⟨g1, g2⟩, ⟨h1, h2⟩, ⟨i1, i2⟩⟩ := hc
 obtain ⟨n1, n2, n3, n4, n5, n6, n7, n8, n9, n10, n11⟩ := hn
 have hl : (numL p).length ≤ 10000 := by omega
 -- what stands behind the places
 have hE : ∀ (S : List Int) (ha mi nf xf u1 u2 ns xs : Int), numL p = S ++ exL p →
   (joinX fun (s28 : Int × Int × Int × Int × Int × Int × Int × Int) => (Option.bind (pat_reader__eat_s0 69 (numL p) s28.1 a2 a3 a4 a5 a6) fun y57 => (bif (!y57.1) then (some (.inl (y57.2, s28.2.1, s28.2.2.1, s28.2.2.2.1, s28.2.2.2.2.1, s28.2.2.2.2.2.1, s28.2.2.2.2.2.2.1, ns, s28.2.2.2.2.2.2.2, 0, false))) else (Option.bind (pat_reader__eat_s0 43 (numL p) y57.2 a2 a3 a4 a5 a6) fun y63 => (Option.bind (pat_reader__many_s0 48 (numL p) y63.2 a2 a3 a4 a5 a6) fun y66 => (bif (decide (y66.1 = 0)) then (Option.bind (pat_reader__fail_s0 y66.2 (numL p) y66.2 a2 a3 a4 a5 a6) fun y72 => (some (.inr (y66.2, y66.2, s28.2.1, s28.2.2.1, s28.2.2.2.1, s28.2.2.2.2.1, s28.2.2.2.2.2.1, s28.2.2.2.2.2.2.1, ns, s28.2.2.2.2.2.2.2, y66.1, y63.1)))) else (some (.inl (y66.2, s28.2.1, s28.2.2.1, s28.2.2.2.1, s28.2.2.2.2.1, s28.2.2.2.2.2.1, s28.2.2.2.2.2.2.1, ns, s28.2.2.2.2.2.2.2, y66.1, y63.1))))))))) (.inl ((S.length : Int), ha, mi, nf, xf, u1, u2, xs)) = (some (.inl (((numL p).length : Int), ha, mi, nf, xf, u1, u2, ns, xs, p.Exp_, p.ExpPlus_)) : Option ((Int × Int × Int × Int × Int × Int × Int × Int × Int × Int × Bool) ⊕ (Int × Int × Int × Int × Int × Int × Int × Int × Int × Int × Int × Bool))) := by
  intro S ha mi nf xf u1 u2 ns xs hS
  have hSl : (numL p).length = S.length + (exL p).length := by rw [hS, List.length_append]
  simp only [joinX]
  rw [eat_at hl (by omega) (by omega) (by omega)]
  have h3 : atV (numL p) (S.length : Int) = hdI (exL p) := by rw [hS, atV_hd]
  rw [h3]
  by_cases h0 : p.Exp_ = 0
  ·have he : exL p = [] := by unfold exL; rw [if_pos h0]
   rw [he, if_neg (by decide)]
   simp only [Bool.not_false, cond_true, Option.bind_some]
   rw [hSl, he, h0, n8 h0]; rfl
  ·have he : exL p = 69 :: ((if p.ExpPlus_ = true then [43] else []) ++ List.replicate p.Exp_.toNat 48) := by unfold exL; rw [if_neg h0]
   rw [if_pos (by rw [he]; rfl)]
   simp only [Bool.not_true, cond_false, Option.bind_some]
   rw [eat_at hl (by omega) (by omega) (by omega)]
   have h4 : atV (numL p) ((S.length : Int) + 1) = if p.ExpPlus_ = true then 43 else 48 := by
    rw [hS, he, show S ++ 69 :: ((if p.ExpPlus_ = true then [43] else []) ++ List.replicate p.Exp_.toNat 48) = (S ++ [69]) ++ ((if p.ExpPlus_ = true then [43] else []) ++ List.replicate p.Exp_.toNat 48) by simp, show (S.length : Int) + 1 = ((S ++ [69]).length : Int) by simp, atV_hd]
    split
    ·rfl
    ·have := hd_rep (n := p.Exp_.toNat) (c := 48) (B := [])
     rw [List.append_nil, if_neg (by omega)] at this
     exact this
   rw [h4]
   cases hep : p.ExpPlus_ with
   | true =>
    rw [hep] at he
    simp only [if_true] at he ⊢
    simp only [Option.bind_some]
    have m1 : Mn (numL p) ((S.length : Int) + 1 + 1) 48 p.Exp_ := by
     have := mn_rep (A := S ++ [69, 43]) (n := p.Exp_.toNat) (c := 48) (B := []) (by decide)
     rw [List.append_nil, show S ++ [69, 43] ++ List.replicate p.Exp_.toNat 48 = numL p by rw [hS, he]; simp] at this
     have hx : ((S ++ [69, 43]).length : Int) = (S.length : Int) + 1 + 1 := by simp; omega
     rwa [hx, show ((p.Exp_.toNat : Nat) : Int) = p.Exp_ by omega] at this
    have hel : (exL p).length = 2 + p.Exp_.toNat := by rw [he]; simp; omega
    rw [many_is hl (by omega) (by omega) (by omega) m1]
    simp only [Option.bind_some]
    rw [dF h0, show (S.length : Int) + 1 + 1 + p.Exp_ = ((numL p).length : Int) by omega]; rfl
   | false =>
    rw [hep] at he
    simp only [Bool.false_eq_true, if_false] at he ⊢
    rw [if_neg (by omega)]
    simp only [Option.bind_some]
    have m1 : Mn (numL p) ((S.length : Int) + 1) 48 p.Exp_ := by
     have := mn_rep (A := S ++ [69]) (n := p.Exp_.toNat) (c := 48) (B := []) (by decide)
     rw [List.append_nil, show S ++ [69] ++ List.replicate p.Exp_.toNat 48 = numL p by rw [hS, he]; simp] at this
     have hx : ((S ++ [69]).length : Int) = (S.length : Int) + 1 := by simp
     rwa [hx, show ((p.Exp_.toNat : Nat) : Int) = p.Exp_ by omega] at this
    have hel : (exL p).length = 1 + p.Exp_.toNat := by rw [he]; simp; omega
    rw [many_is hl (by omega) (by omega) (by omega) m1]
    simp only [Option.bind_some]
    rw [dF h0, show (S.length : Int) + 1 + p.Exp_ = ((numL p).length : Int) by omega]; rfl
 unfold pat_reader__number_s0
 by_cases hs : 0 < p.MinSig_
 ·obtain ⟨z1, z2, z3, z4⟩ := n10 hs
  have hN : numL p = sgL p ++ exL p := by unfold numL; rw [if_pos hs]
  have m1 : Mn (numL p) 0 64 p.MinSig_ := by
   have := mn_rep (A := []) (n := p.MinSig_.toNat) (c := 64) (B := List.replicate (p.MaxSig_ - p.MinSig_).toNat 35 ++ exL p) (by rw [hd_rep]; split; (rcases hd_ex (p := p) with h | h <;> omega); omega)
   rw [show ([] : List Int) ++ (List.replicate p.MinSig_.toNat 64 ++ (List.replicate (p.MaxSig_ - p.MinSig_).toNat 35 ++ exL p)) = numL p by rw [hN]; unfold sgL; simp] at this
   rwa [show ((p.MinSig_.toNat : Nat) : Int) = p.MinSig_ by omega] at this
  have m2 : Mn (numL p) (0 + p.MinSig_) 35 (p.MaxSig_ - p.MinSig_) := by
   have := mn_rep (A := List.replicate p.MinSig_.toNat 64) (n := (p.MaxSig_ - p.MinSig_).toNat) (c := 35) (B := exL p) (by rcases hd_ex (p := p) with h | h <;> omega)
   rw [show List.replicate p.MinSig_.toNat (64 : Int) ++ (List.replicate (p.MaxSig_ - p.MinSig_).toNat 35 ++ exL p) = numL p by rw [hN]; unfold sgL; simp] at this
   rwa [show ((List.replicate p.MinSig_.toNat (64 : Int)).length : Int) = 0 + p.MinSig_ by simp; omega, show (((p.MaxSig_ - p.MinSig_).toNat : Nat) : Int) = p.MaxSig_ - p.MinSig_ by omega] at this
  have hsl : ((sgL p).length : Int) = 0 + p.MinSig_ + (p.MaxSig_ - p.MinSig_) := by unfold sgL; simp; omega
  have hll : (numL p).length = (sgL p).length + (exL p).length := by rw [hN, List.length_append]
  rw [many_is hl (by omega) (by omega) (by omega) m1]
  simp only [Option.bind_some]
  rw [dT (show p.MinSig_ > 0 from hs), many_is hl (by omega) (by omega) (by omega) m2]
  simp only [cond_true, Option.bind_some]
  rw [w64 (n := p.MinSig_ + (p.MaxSig_ - p.MinSig_)) (by omega) (by omega), ← hsl, show p.MinSig_ + (p.MaxSig_ - p.MinSig_) = p.MaxSig_ by omega]
  have hg : p.G1_ = 0 ∧ p.G2_ = 0 := by
   rcases n11 with h | h
   ·exact h
   ·omega
  rw [hE (sgL p) 0 0 0 0 0 0 p.MinSig_ p.MaxSig_ hN, z1, z2, z3, z4, hg.1, hg.2]
 ·have hz : p.MinSig_ = 0 := by omega
  obtain ⟨y1, y2⟩ := n9 hz
  obtain ⟨ha, hha⟩ : ∃ m : Nat, p.Hash_ = m := ⟨p.Hash_.toNat, by omega⟩
  obtain ⟨mi, hmi⟩ : ∃ m : Nat, p.MinInt_ = m := ⟨p.MinInt_.toNat, by omega⟩
  have hpe : plL p = plcs p.G1_ p.G2_ (ha + mi) ha (ha + mi) := by
   unfold plL; rw [hha, hmi, show ((ha : Int) + mi).toNat = ha + mi by omega, show (ha : Int).toNat = ha by omega]
  have hN : numL p = plL p ++ (frL p ++ exL p) := by unfold numL; rw [if_neg hs]; simp
  have hN2 : numL p = (plL p ++ frL p) ++ exL p := by unfold numL; rw [if_neg hs]
  have hll : (numL p).length = (plL p).length + ((frL p).length + (exL p).length) := by rw [hN, List.length_append, List.length_append]
  have m1 : Mn (numL p) 0 64 0 := by
   refine ⟨by omega, fun j h0 h1 => by omega, ?_⟩
   have h0 := ch_a (g1 := p.G1_) (g2 := p.G2_) (t := ha + mi) (ha := ha) (rest := frL p ++ exL p) (i := 0) (by omega)
   rw [← hpe, ← hN] at h0
   have h00 : ((plcs p.G1_ p.G2_ (ha + mi) ha 0).length : Int) = 0 := by simp [plcs]
   rw [h00, if_neg (fun h => absurd h.1 (by omega))] at h0
   rw [Int.add_zero, h0]
   split <;> omega
  rw [many_is hl (by omega) (by omega) (by omega) m1]
  simp only [Option.bind_some]
  rw [dF (show ¬ (0 : Int) > 0 by omega)]
  simp only [cond_false]
  have hP := places_num (g1 := p.G1_) (g2 := p.G2_) (t := ha + mi) (ha := ha) (rest := frL p ++ exL p) (a2 := a2) (a3 := a3) (a4 := a4) (a5 := a5) (a6 := a6) (b7 := b7) (b8 := false) (c11 := 0) (c12 := 0) (c15 := 0) (c16 := 0) (c17 := 0) (c18 := false) (c19 := c19) (c20 := c20) (by rw [show ((ha + mi : Nat) : Int) = p.Hash_ + p.MinInt_ by omega]; exact n11) e1.2 (by omega) (by omega) (by omega) (by rw [← List.length_append] at hll; omega) (fun c r hcr => by
   have h5 : hdI (frL p ++ exL p) = c := by rw [hcr]; rfl
   rw [hd_app] at h5
   have h6 := hd_ex (p := p)
   split at h5
   ·omega
   ·have : hdI (frL p) = 46 ∨ hdI (frL p) = -1 := by
     unfold frL; split
     ·exact .inr rfl
     ·exact .inl rfl
    omega)
  rw [← hpe, ← hN] at hP
  rw [show (0 : Int) + 0 = 0 from rfl, hP]
  simp only [Option.bind_some, Sum.elim_inl]
  have hF := fraction_num (p := p) (A := plL p) (a2 := a2) (a3 := a3) (a4 := a4) (a5 := a5) (a6 := a6) (b7 := b7) (b8 := false) (c9 := (ha : Int)) (c10 := ((ha + mi : Nat) : Int) - ha) (c13 := p.G1_) (c14 := p.G2_) (c15 := 0) (c16 := 0) (c17 := 0) (c18 := false) (c19 := c19) (c20 := c20) hc0 hn0 (by omega)
  rw [← hN] at hF
  rw [hF]
  simp only [Option.bind_some, Sum.elim_inl]
  rw [hE (plL p ++ frL p) (ha : Int) (((ha + mi : Nat) : Int) - ha) p.MinFrac_ p.MaxFrac_ p.G1_ p.G2_ 0 0 hN2, hz, y1, show ((ha + mi : Nat) : Int) - ha = p.MinInt_ by omega, hha]
/-! A number's text, parsed; what a right pattern is, to the letter. -/
def nOf (p : St23) : St23 := ⟨[], [], [], [], false, p.Hash_, p.MinInt_, p.MinFrac_, p.MaxFrac_, p.G1_, p.G2_, p.MinSig_, p.MaxSig_, p.Exp_, p.ExpPlus_, 0, 0⟩
theorem hd_num {p : St23} (hc : cntP p) (hn : canon (numsP p)) : atV (numL p) 0 = 64 ∨ atV (numL p) 0 = 35 ∨ atV (numL p) 0 = 48 := by
 obtain ⟨⟨a1, a2'⟩, ⟨b1, b2⟩, _⟩ := hc
 obtain ⟨n1, n2, n3, n4, n5, n6, n7, n8, n9, n10, n11⟩ := hn
 by_cases hs : 0 < p.MinSig_
 ·left
  have h := atV_hd (A := []) (B := numL p)
  rw [List.nil_append] at h
  refine h.trans ?_
  unfold numL sgL
  rw [if_pos hs, List.append_assoc, hd_rep, if_neg (by omega)]
 ·right
  obtain ⟨ha, hha⟩ : ∃ m : Nat, p.Hash_ = m := ⟨p.Hash_.toNat, by omega⟩
  obtain ⟨mi, hmi⟩ : ∃ m : Nat, p.MinInt_ = m := ⟨p.MinInt_.toNat, by omega⟩
  have hpe : plL p = plcs p.G1_ p.G2_ (ha + mi) ha (ha + mi) := by
   unfold plL; rw [hha, hmi, show ((ha : Int) + mi).toNat = ha + mi by omega, show (ha : Int).toNat = ha by omega]
  have hN : numL p = plL p ++ (frL p ++ exL p) := by unfold numL; rw [if_neg hs]; simp
  have hz := (n9 (by omega)).2
  have h0 := ch_a (g1 := p.G1_) (g2 := p.G2_) (t := ha + mi) (ha := ha) (rest := frL p ++ exL p) (i := 0) (by omega)
  rw [← hpe, ← hN] at h0
  have h00 : ((plcs p.G1_ p.G2_ (ha + mi) ha 0).length : Int) = 0 := by simp [plcs]
  rw [h00, if_neg (fun h => absurd h.1 (by omega))] at h0
  rw [h0]
  split <;> omega
theorem read_num {p : St23} (hc : cntP p) (hn : canon (numsP p)) : pat_read (numL p) = some (nOf p, 0, true) := by
 have hl400 := numL_len hc hn
 have hl : (numL p).length ≤ 10000 := by omega
 have h0 := hd_num hc hn
 have h1 : atV (numL p) ((numL p).length : Int) = -1 := atV_end
 have hlt : (0 : Int) < (numL p).length := by
  rcases Nat.eq_zero_or_pos (numL p).length with h | h
  ·exfalso
   have h2 : atV (numL p) 0 = -1 := by rw [h] at h1; exact h1
   omega
  ·omega
 unfold pat_read pat_reader__pattern_s0
 rw [pad_at hl (by omega) (by omega), if_pos (c := (0 : Int) ≠ 0 ∨ atV (numL p) 0 ≠ 42) (.inr (by omega))]
 simp only [Option.bind_some, Sum.elim_inl]
 rw [affix_stop hl (by omega) (.inr ⟨hlt, by omega⟩)]
 simp only [Option.bind_some, Sum.elim_inl]
 rw [dF (show ¬ (([] : List St33).length : Int) > 0 by simp)]
 simp only [cond_false, Option.bind_some, joinX]
 rw [number_num hc hn]
 simp only [Option.bind_some, Sum.elim_inl]
 rw [inS_of (by omega) (by omega) (by omega)]
 simp only [cond_true]
 rw [pad1_at hl (by omega) (by omega), if_pos (c := (0 : Int) ≠ 0 ∨ atV (numL p) ((numL p).length : Int) ≠ 42) (.inr (by omega))]
 simp only [Option.bind_some, Sum.elim_inl]
 rw [affix_stop hl (by omega) (.inl rfl)]
 simp only [Option.bind_some, Sum.elim_inl]
 rw [dF (show ¬ (([] : List St33).length : Int) > 0 by simp)]
 simp only [cond_false, Option.bind_some, joinX]
 rw [eat_at hl (by omega) (by omega) (by omega), if_neg (by omega)]
 simp only [cond_false, Option.bind_some, joinX]
 rw [dF (show ¬ ((numL p).length : Int) < ((numL p).length : Int) by omega)]
 rfl
def limP (p : St23) : Prop := p.Hash_ + p.MinInt_ ≤ 40 ∧ p.MaxFrac_ ≤ 40 ∧ p.MaxSig_ ≤ 40 ∧ p.Exp_ ≤ 40
theorem parse_num {p : St23} (hc : cntP p) (hn : canon (numsP p)) (hlim : limP p) (h120 : (numL p).length ≤ 120) : pat_Parse (bytesS (numL p)) = some (nOf p, 0, 0) := by
 have ha := asc_num p
 have hok := asc_ok ha
 have e := enc_back hok
 rw [asc_enc ha] at e
 have hd := decode_full hok (by omega)
 rw [asc_enc ha] at hd
 unfold pat_Parse
 rw [e, hd]
 simp only [Option.bind_some, not_true_eq_false, decide_false, cond_false]
 rw [dF (show ¬ ((numL p).length : Int) > 120 by omega), read_num hc hn]
 simp only [cond_false, Option.bind_some, Bool.not_true]
 obtain ⟨⟨a1, a2'⟩, ⟨b1, b2⟩, _⟩ := hc
 obtain ⟨l1, l2, l3, l4⟩ := hlim
 have hm : (maxI ((maxI ((maxI (IntKind.wrap .i64 ((nOf p).Hash_ + (nOf p).MinInt_)) (nOf p).MaxFrac_)) (nOf p).MaxSig_)) (nOf p).Exp_) ≤ 40 := by
  show (maxI ((maxI ((maxI (IntKind.wrap .i64 (p.Hash_ + p.MinInt_)) p.MaxFrac_)) p.MaxSig_)) p.Exp_) ≤ 40
  rw [w64 (n := p.Hash_ + p.MinInt_) (by omega) (by omega)]
  unfold maxI
  repeat' split
  all_goals omega
 rw [dF (by omega)]
 rfl
theorem runes1 {l : List St33} (hw : ∀ z ∈ l, -2147483648 ≤ z.R_ ∧ z.R_ < 2147483648) (hl : l.length ≤ 1000) : exergueref10_runes l = some (tokOk l) := by
 unfold exergueref10_runes
 obtain ⟨o, g1, g2⟩ := loop_count (step := (fun (s54 : Int) => ((bif (decide (s54 < (l.length : Int))) then (bif inR s54 l.length then (Option.bind (exergueref01_Is ((nth l s54).R_)) fun y91 => (bif (!y91) then (some (.inr (.inr false))) else (some (.inl (IntKind.wrap .i64 (s54 + 1)))))) else none) else (some (.inr (.inl ())))) : Option (Int ⊕ (Unit ⊕ Bool))))) l.length (fun i => (i : Int)) (fun i => ∀ j (hj : j < l.length), j < i → isRb (l[j].R_) = true) (fun o => o = if tokOk l = true then .inl () else .inr false) (s0 := 0) rfl (fun j _ hj => by omega) (fun i hi hI => by
  have hr := hw _ (List.getElem_mem hi)
  rw [dT (show (i : Int) < (l.length : Int) by omega), inR_nat hi, nth_nat hi, is1 (by omega) (by omega), w64 (n := (i : Int) + 1) (by omega) (by omega)]
  simp only [cond_true, Option.bind_some]
  cases c : isRb (l[i].R_) with
  | true =>
   left
   refine ⟨by simp, fun j hj hji => ?_⟩
   by_cases e : j = i
   ·subst e; exact c
   ·exact hI j hj (by omega)
  | false =>
   right
   refine ⟨_, rfl, ?_⟩
   rw [if_neg (fun h => by
    have := List.all_eq_true.1 h _ (List.getElem_mem hi)
    simp [c] at this)]) (fun hI => ⟨.inl (), by rw [dF (by omega)]; rfl, by
  rw [if_pos]
  refine List.all_eq_true.2 (fun t ht => ?_)
  obtain ⟨j, hj, rfl⟩ := List.getElem_of_mem ht
  exact hI j hj hj⟩) (by omega)
 have h1 : loopN (fun (s54 : Int) => ((bif (decide (s54 < (l.length : Int))) then (bif inR s54 l.length then (Option.bind (exergueref01_Is ((nth l s54).R_)) fun y91 => (bif (!y91) then (some (.inr (.inr false))) else (some (.inl (IntKind.wrap .i64 (s54 + 1)))))) else none) else (some (.inr (.inl ())))) : Option (Int ⊕ (Unit ⊕ Bool)))) big 0 = some o := g1
 rw [h1, g2]
 cases tokOk l <;> rfl
def rightX (p : St23) : Prop := cntP p ∧ isRb p.Pad_ = true ∧ (tokOk p.Pre_ = true ∧ tokOk p.Suf_ = true ∧ tokOk p.NPre_ = true ∧ tokOk p.NSuf_ = true) ∧ ∃ t i, exergueref10_Text p = some t ∧ exergueref10_Parse t = some (p, i, 0)
def i32P (p : St23) : Prop := (∀ z ∈ p.Pre_, -2147483648 ≤ z.R_ ∧ z.R_ < 2147483648) ∧ (∀ z ∈ p.Suf_, -2147483648 ≤ z.R_ ∧ z.R_ < 2147483648) ∧ (∀ z ∈ p.NPre_, -2147483648 ≤ z.R_ ∧ z.R_ < 2147483648) ∧ (∀ z ∈ p.NSuf_, -2147483648 ≤ z.R_ ∧ z.R_ < 2147483648) ∧ -2147483648 ≤ p.Pad_ ∧ p.Pad_ < 2147483648
theorem right1 {p : St23} (w : i32P p) (h1 : p.Pre_.length ≤ 300) (h2 : p.Suf_.length ≤ 300) (h3 : p.NPre_.length ≤ 300) (h4 : p.NSuf_.length ≤ 300) : Tot (exergueref10_Right p) (fun b => b = true ↔ rightX p) := by
 obtain ⟨w1, w2, w3, w4, w5, w6⟩ := w
 unfold exergueref10_Right
 rw [runes1 w1 (by omega), runes1 w2 (by omega), runes1 w3 (by omega), runes1 w4 (by omega), is1 (by omega) (by omega)]
 have hno : ∀ {q : Prop}, ¬ q → ((false = true) ↔ q) := fun h => ⟨fun e => (by cases e), fun e => absurd e h⟩
 generalize hL : ([p.Hash_, p.MinInt_, p.MinFrac_, p.MaxFrac_, p.G1_, p.G2_, p.MinSig_, p.MaxSig_, p.Exp_] : List Int) = L
 have hlen : L.length = 9 := by rw [← hL]; rfl
 have hcI : cntP p ↔ ∀ j : Nat, j < 9 → 0 ≤ nth L j ∧ nth L j ≤ 40 := by
  subst hL
  constructor
  ·rintro ⟨c1, c2, c3, c4, c5, c6, c7, c8, c9⟩ j hj
   match j, hj with
   | 0, _ => exact c1
   | 1, _ => exact c2
   | 2, _ => exact c3
   | 3, _ => exact c4
   | 4, _ => exact c5
   | 5, _ => exact c6
   | 6, _ => exact c7
   | 7, _ => exact c8
   | 8, _ => exact c9
  ·intro h
   exact ⟨h 0 (by omega), h 1 (by omega), h 2 (by omega), h 3 (by omega), h 4 (by omega), h 5 (by omega), h 6 (by omega), h 7 (by omega), h 8 (by omega)⟩
 refine Tot.join (Tot.loop (fun s : Int => 0 ≤ s ∧ s ≤ (L.length : Int) ∧ ∀ j : Nat, (j : Int) < s → 0 ≤ nth L j ∧ nth L j ≤ 40) (fun s => ((L.length : Int) - s).toNat) ⟨by omega, by omega, fun j hj => by omega⟩ (by omega) (fun s hs => ?_))
 refine Tot.ite (fun hq => ?_) (fun hq => Tot.ret (show Tot _ _ from ?_))
 ·have hq := dTT hq
  have hin := inR_int hs.1 hq
  refine Tot.join (Tot.bind (p := fun b => b = false ↔ 0 ≤ nth L s ∧ nth L s ≤ 40) ?_ (fun b hb => ?_))
  ·refine Tot.yes hin (Tot.yes hin (Tot.ite (fun g => Tot.ret ?_) (fun g1 => Tot.yes hin (Tot.yes hin (Tot.ret ?_)))))
   ·have g := dTT g
    exact ⟨fun h => (by cases h), fun h => (by omega)⟩
   ·have g1 := dFF g1
    constructor
    ·intro g2; have g2 := dFF g2; omega
    ·intro h; exact dF (by omega)
  ·cases b with
   | true =>
    refine Tot.ret (hno (fun h => ?_))
    have h2 := hcI.1 h.1 s.toNat (by omega)
    rw [show ((s.toNat : Nat) : Int) = s by omega] at h2
    have := hb.2 h2
    cases this
   | false =>
    have hb := hb.1 rfl
    refine Tot.ret (show Tot _ _ from Tot.ret ?_)
    have f1 : IntKind.wrap .i64 (s + 1) = s + 1 := w64 (by omega) (by omega)
    rw [f1]
    refine ⟨⟨by omega, by omega, fun j hj => ?_⟩, by omega⟩
    by_cases hjs : (j : Int) < s
    ·exact hs.2.2 j hjs
    ·have : (j : Int) = s := by omega
     rw [this]; exact hb
 ·have hq := dFF hq
  have hall := hs.2.2
  have hs9 : s = 9 := by omega
  have hc : cntP p := hcI.2 (fun j hj => hall j (by omega))
  simp only [Option.bind_some]
  have hA : (bif tokOk p.Pre_ then (some (tokOk p.Suf_)) else (some false)) = some (tokOk p.Pre_ && tokOk p.Suf_) := by cases tokOk p.Pre_ <;> rfl
  have hB : (bif tokOk p.NPre_ then (some (tokOk p.NSuf_)) else (some false)) = some (tokOk p.NPre_ && tokOk p.NSuf_) := by cases tokOk p.NPre_ <;> rfl
  rw [hA, hB]
  simp only [Option.bind_some]
  by_cases hv : isRb p.Pad_ = true ∧ (tokOk p.Pre_ = true ∧ tokOk p.Suf_ = true ∧ tokOk p.NPre_ = true ∧ tokOk p.NSuf_ = true)
  ·obtain ⟨v0, v1, v2, v3, v4⟩ := hv
   rw [v0, v1, v2, v3, v4]
   simp only [Bool.and_self, Bool.not_true, cond_false, Option.bind_some, joinX]
   obtain ⟨t, ht, htl⟩ := ptext_tot hc h1 h2 h3 h4
   rw [ht]
   obtain ⟨o, ho, hoc⟩ := parse_tot (t := t) (by omega)
   show Tot (Option.bind (exergueref10_Parse t) _) _
   rw [ho]
   show Tot (Option.bind _ _) _
   obtain ⟨o1, o2, o3⟩ := o
   refine Tot.bind (p := fun b => b = true ↔ rightX p) (Tot.ite (fun g => ?_) (fun g => Tot.ret (hno (fun h => ?_)))) (fun _ h => Tot.ret h)
   ·rw [rsame_eq ⟨by omega, by omega, by omega, by omega⟩]
    have g2 := dTT g
    simp only at g2
    subst g2
    refine Tot.ret ⟨fun e => ?_, fun h => ?_⟩
    ·have e := dTT e
     simp only at e
     subst e
     exact ⟨hc, v0, ⟨v1, v2, v3, v4⟩, t, o2, ht, ho⟩
    ·obtain ⟨_, _, _, t', i', e1, e2⟩ := h
     rw [ht] at e1
     cases e1
     rw [ho] at e2
     cases e2
     exact dT rfl
   ·obtain ⟨_, _, _, t', i', e1, e2⟩ := h
    rw [ht] at e1
    cases e1
    rw [ho] at e2
    cases e2
    exact absurd rfl (dFF g)
  ·have hf : (bif (!isRb p.Pad_) then (some true) else (bif (!(tokOk p.Pre_ && tokOk p.Suf_)) then (some true) else (some (!(tokOk p.NPre_ && tokOk p.NSuf_))))) = some true := by
    cases c0 : isRb p.Pad_ with
    | false => rfl
    | true =>
     cases c1 : tokOk p.Pre_ with
     | false => rfl
     | true =>
      cases c2 : tokOk p.Suf_ with
      | false => rfl
      | true =>
       cases c3 : tokOk p.NPre_ with
       | false => rfl
       | true =>
        cases c4 : tokOk p.NSuf_ with
        | false => rfl
        | true => exact absurd ⟨c0, c1, c2, c3, c4⟩ hv
   rw [hf]
   exact Tot.ret (hno (fun h => hv ⟨h.2.1, h.2.2.1⟩))
theorem bind_inv {α β : Type} {x : Option α} {k : α → Option β} {r : β} (h : Option.bind x k = some r) : ∃ a, x = some a ∧ k a = some r := by
 cases x with
 | none => cases h
 | some a => exact ⟨a, rfl, h⟩
theorem parse_lim {t : List UInt8} {d : List Int} {z : Int} {p : St23} {i : Int} (hd : exergueref01_Decode (bytesI t) = some (d, z, 0)) (hc : cntP p) (h : exergueref10_Parse t = some (p, i, 0)) : d.length ≤ 120 ∧ limP p := by
 unfold exergueref10_Parse at h
 rw [hd] at h
 simp only [Option.bind_some, not_true_eq_false, decide_false, cond_false] at h
 by_cases h120 : (d.length : Int) > 120
 ·rw [dT h120] at h
  simp at h
 ·rw [dF h120] at h
  simp only [cond_false] at h
  obtain ⟨y, hy, h⟩ := bind_inv h
  obtain ⟨s, hs, h⟩ := bind_inv h
  obtain ⟨u, hu, h⟩ := bind_inv h
  refine ⟨by omega, ?_⟩
  cases u with
  | inr r =>
   have h : some r = some (p, i, 0) := h
   obtain ⟨b, hb, hu⟩ := bind_inv hu
   cases b with
   | true =>
    simp only [cond_true, Option.some.injEq, Sum.inr.injEq] at hu
    subst hu
    simp at h
   | false => simp at hu
  | inl x =>
   simp only [joinX] at h
   obtain ⟨v, hv, h⟩ := bind_inv h
   cases v with
   | inr r =>
    have h : some r = some (p, i, 0) := h
    obtain ⟨b, hb, hv⟩ := bind_inv hv
    cases b with
    | true =>
     simp only [cond_true, Option.some.injEq, Sum.inr.injEq] at hv
     subst hv
     simp at h
    | false => simp at hv
   | inl x2 =>
    simp only [joinX, Option.some.injEq, Prod.mk.injEq, and_true] at h
    obtain ⟨h, _⟩ := h
    obtain ⟨b, hb, hv⟩ := bind_inv hv
    cases b with
    | true => simp at hv
    | false =>
     obtain ⟨⟨a1, a2⟩, ⟨b1, b2⟩, _⟩ := hc
     have hk : s.2.2.2.2.2.2.2.1 = p.Hash_ ∧ s.2.2.2.2.2.2.2.2.1 = p.MinInt_ ∧ s.2.2.2.2.2.2.2.2.2.2.1 = p.MaxFrac_ ∧ s.2.2.2.2.2.2.2.2.2.2.2.2.2.2.1 = p.MaxSig_ ∧ s.2.2.2.2.2.2.2.2.2.2.2.2.2.2.2.1 = p.Exp_ := by
      rw [← h]; exact ⟨rfl, rfl, rfl, rfl, rfl⟩
     obtain ⟨k1, k2, k3, k4, k5⟩ := hk
     rw [k1, k2, k3, k4, k5, w64 (n := p.Hash_ + p.MinInt_) (by omega) (by omega)] at hb
     by_cases c1 : p.Hash_ + p.MinInt_ > 40
     ·rw [dT c1] at hb; cases hb
     ·rw [dF c1] at hb
      by_cases c2 : p.MaxFrac_ > 40
      ·rw [dT c2] at hb; cases hb
      ·rw [dF c2] at hb
       by_cases c3 : p.MaxSig_ > 40
       ·rw [dT c3] at hb; cases hb
       ·rw [dF c3] at hb
        by_cases c4 : p.Exp_ > 40
        ·rw [dT c4] at hb; cases hb
        ·exact ⟨by omega, by omega, by omega, by omega⟩
theorem right_facts {p : St23} (h1 : p.Pre_.length ≤ 300) (h2 : p.Suf_.length ≤ 300) (h3 : p.NPre_.length ≤ 300) (h4 : p.NSuf_.length ≤ 300) (h : rightX p) : canon (numsP p) ∧ exergueref10_Text p = some (bytesS (encL1 (txL p))) ∧ (txL p).length ≤ 120 ∧ limP p ∧ ∃ i, exergueref10_Parse (bytesS (encL1 (txL p))) = some (p, i, 0) := by
 obtain ⟨hc, v0, ⟨v1, v2, v3, v4⟩, t, i, e1, e2⟩ := h
 obtain ⟨t', ht, htl⟩ := ptext_tot hc h1 h2 h3 h4
 rw [ht] at e1; cases e1
 obtain ⟨o, ho, hoc⟩ := parse_tot (t := t) (by omega)
 rw [ho] at e2; cases e2
 have hn := hoc rfl
 have hT := text_ref hc hn h1 h2 h3 h4 v0 v1 v2 v3 v4
 rw [ht] at hT; cases hT
 have hok := txL_ok (p := p) v0 v1 v2 v3 v4
 have hl : (txL p).length ≤ 20000 := by
  have a1 := padL_len p 1; have a2 := padL_len p 2; have a3 := padL_len p 3; have a4 := padL_len p 4
  have d1 := affL_len p.Pre_; have d2 := affL_len p.Suf_; have d3 := affL_len p.NPre_; have d4 := affL_len p.NSuf_
  have e2 := numL_len hc hn
  unfold txL
  simp only [List.length_append]
  have : (if p.Neg_ = true then 59 :: (affL p.NPre_ ++ (numL p ++ affL p.NSuf_)) else []).length ≤ 5000 := by
   split
   ·simp only [List.length_cons, List.length_append]; omega
   ·simp
  omega
 have hd := rdecode_full hok hl
 rw [← enc_back hok] at hd
 have hlm := parse_lim hd hc ho
 exact ⟨hn, ht, hlm.1, hlm.2, i, ho⟩
theorem num_in (p : St23) : (numL p).length ≤ (txL p).length := by
 unfold txL
 simp only [List.length_append]
 omega
end Go.Proofs.Ytdflcknbelpflaa
