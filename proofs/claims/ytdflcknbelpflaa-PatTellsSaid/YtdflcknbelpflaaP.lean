/-
 What those functions come to, told by plain functions of lists and numbers. Conditions: as each theorem says.
-/
import Derived.Test.YtdflcknbelpflaaGc
import Derived.Test.YtdflcknbelpflaaSyZ
namespace Go.Proofs.Ytdflcknbelpflaa
open Go Go.Sy Go.RowKit Go.ChangeShapes Go.WideShapes Go.ChangeAt
set_option linter.unusedVariables false
set_option linter.unusedSimpArgs false
set_option maxRecDepth 100000
set_option maxHeartbeats 4000000
/-! Two patterns are compared. -/
theorem eq_row {T S O : Type} [Inhabited T] [DecidableEq T] {xs ys : List T} (hlen : xs.length = ys.length) (hb : xs.length ≤ 4611686018427387904) (ok bad : O) {step : Int → Option (Int ⊕ O)}
  (hs : ∀ i : Nat, i < xs.length → step (i : Int) = some (if nth xs (i : Int) = nth ys (i : Int) then .inl ((i : Int) + 1) else .inr bad)) (he : step (xs.length : Int) = some (.inr ok)) :
  loopN step big 0 = some (if xs = ys then ok else bad) := by
 obtain ⟨o, h1, h2⟩ := loop_count (step := step) xs.length (fun i => (i : Int)) (fun i => ∀ j, j < i → nth xs (j : Int) = nth ys (j : Int)) (fun o => o = if xs = ys then ok else bad) rfl (fun j hj => by omega) (fun i hi hI => by
  rw [hs i hi]
  by_cases c : nth xs (i : Int) = nth ys (i : Int)
  ·left
   rw [if_pos c]
   refine ⟨by simp, fun j hj => ?_⟩
   by_cases e : j = i
   ·subst e; exact c
   ·exact hI j (by omega)
  ·right
   rw [if_neg c]
   refine ⟨bad, rfl, ?_⟩
   rw [if_neg (fun e => c (by rw [e]))]) (fun hI => ⟨ok, he, by
  rw [if_pos]
  apply List.ext_getElem hlen
  intro i h1 h2
  have := hI i h1
  rwa [nth_nat h1, nth_nat h2] at this⟩) (by omega)
 have h1' : loopN step big 0 = some o := h1
 rw [h1', h2]
theorem tok_eq {x y : List St33} (hl : x.length ≤ 4611686018427387904) : api_Tok_ x y = some (decide (x = y)) := by
 unfold api_Tok_
 by_cases h : x.length = y.length
 ·rw [dF (by omega)]
  simp only [cond_false]
  rw [eq_row (S := Unit) h (by omega) (.inl () : Unit ⊕ Bool) (.inr false)]
  ·by_cases e : x = y
   ·rw [if_pos e, dT e]; rfl
   ·rw [if_neg e, dF e]; rfl
  ·intro i hi
   rw [dT (by omega), inR_nat hi, inR_nat (by omega), w64 (by omega) (by omega)]
   simp only [cond_true]
   generalize nth x (i : Int) = a
   generalize nth y (i : Int) = b
   obtain ⟨a1, a2⟩ := a
   obtain ⟨b1, b2⟩ := b
   by_cases h1 : a1 = b1 <;> by_cases h2 : a2 = b2 <;> simp [h1, h2]
  ·rw [lt_end]; rfl
 ·rw [dT (by omega), dF (by rintro rfl; exact h rfl)]; rfl
def lens (a : St23) : Prop := a.Pre_.length ≤ 4611686018427387904 ∧ a.Suf_.length ≤ 4611686018427387904 ∧ a.NPre_.length ≤ 4611686018427387904 ∧ a.NSuf_.length ≤ 4611686018427387904
def padOk (a : St23) : Prop := -2147483648 ≤ a.Pad_ ∧ a.Pad_ < 2147483648
theorem same_eq {a b : St23} (hl : lens a) (ha : padOk a) (hb : padOk b) : pat_Same a b = some (decide (a = b)) := by
 obtain ⟨l1, l2, l3, l4⟩ := hl
 unfold pat_Same pat_numbers
 rw [tok_eq l1, tok_eq l2, tok_eq l3, tok_eq l4]
 simp only [Option.bind_some]
 rw [w64 (n := a.Pad_) (by have := ha.1; omega) (by have := ha.2; omega), w64 (n := b.Pad_) (by have := hb.1; omega) (by have := hb.2; omega)]
 obtain ⟨p1, p2, p3, p4, p5, p6, p7, p8, p9, p10, p11, p12, p13, p14, p15, p16, p17⟩ := a
 obtain ⟨q1, q2, q3, q4, q5, q6, q7, q8, q9, q10, q11, q12, q13, q14, q15, q16, q17⟩ := b
 simp only [St23.mk.injEq]
 by_cases hn : p6 = q6 ∧ p7 = q7 ∧ p8 = q8 ∧ p9 = q9 ∧ p10 = q10 ∧ p11 = q11 ∧ p12 = q12 ∧ p13 = q13 ∧ p14 = q14 ∧ p16 = q16 ∧ p17 = q17
 ·obtain ⟨rfl, rfl, rfl, rfl, rfl, rfl, rfl, rfl, rfl, rfl, rfl⟩ := hn
  simp only [decide_true, Bool.and_self, cond_true, true_and, and_true]
  by_cases h1 : p1 = q1 <;> by_cases h2 : p2 = q2 <;> by_cases h3 : p3 = q3 <;> by_cases h4 : p4 = q4 <;> cases p5 <;> cases q5 <;> cases p15 <;> cases q15 <;> simp [h1, h2, h3, h4]
 ·rw [show ((decide (p6 = q6)) && ((decide (p7 = q7)) && ((decide (p8 = q8)) && ((decide (p9 = q9)) && ((decide (p10 = q10)) && ((decide (p11 = q11)) && ((decide (p12 = q12)) && ((decide (p13 = q13)) && ((decide (p14 = q14)) && ((decide (p16 = q16)) && ((decide (p17 = q17)) && true))))))))))) = false from by
   cases hb : ((decide (p6 = q6)) && ((decide (p7 = q7)) && ((decide (p8 = q8)) && ((decide (p9 = q9)) && ((decide (p10 = q10)) && ((decide (p11 = q11)) && ((decide (p12 = q12)) && ((decide (p13 = q13)) && ((decide (p14 = q14)) && ((decide (p16 = q16)) && ((decide (p17 = q17)) && true)))))))))))
   ·rfl
   ·simp only [Bool.and_eq_true, decide_eq_true_eq, and_true] at hb
    exact absurd hb hn]
  simp only [cond_false, Option.bind_some]
  congr 1
  refine (decide_eq_false fun h => hn ?_).symm
  obtain ⟨_, _, _, _, _, e6, e7, e8, e9, e10, e11, e12, e13, e14, _, e16, e17⟩ := h
  exact ⟨e6, e7, e8, e9, e10, e11, e12, e13, e14, e16, e17⟩
theorem few_eq {a : St23} (h1 : a.Pre_.length ≤ 140737488355328) (h2 : a.Suf_.length ≤ 140737488355328) (h3 : a.NPre_.length ≤ 140737488355328) (h4 : a.NSuf_.length ≤ 140737488355328) :
  exergueref10_Few a = some (decide (a.Pre_.length + a.Suf_.length + a.NPre_.length + a.NSuf_.length ≤ 300)) := by
 unfold exergueref10_Few
 rw [w64 (n := (a.Pre_.length : Int) + (a.Suf_.length : Int)) (by omega) (by omega), w64 (n := (a.Pre_.length : Int) + (a.Suf_.length : Int) + (a.NPre_.length : Int)) (by omega) (by omega), w64 (by omega) (by omega)]
 congr 1
 rw [decide_eq_decide]
 omega
/-! Parsers that always answer. -/
theorem loop_var {S O : Type} {step : S → Option (S ⊕ O)} (I : S → Prop) (μ : S → Nat) (post : O → Prop) {s0 : S} (h0 : I s0) (hb : μ s0 < 18446744073709551616)
  (hs : ∀ s, I s → (∃ s', step s = some (.inl s') ∧ I s' ∧ μ s' < μ s) ∨ ∃ o, step s = some (.inr o) ∧ post o) : ∃ o, loopN step big s0 = some o ∧ post o := by
 have key : ∀ m s, I s → μ s < m → ∃ o, loopN step m s = some o ∧ post o := by
  intro m
  induction m with
  | zero => intro s _ h; omega
  | succ m ih =>
   intro s hi hm
   rcases hs s hi with ⟨s', h1, h2, h3⟩ | ⟨o, h1, h2⟩
   ·rw [loopN_next h1]; exact ih s' h2 (by omega)
   ·exact ⟨o, loopN_out h1, h2⟩
 exact key big s0 h0 hb
def Tot {α : Type} (x : Option α) (p : α → Prop) : Prop := ∃ o, x = some o ∧ p o
theorem Tot.ret {α : Type} {a : α} {p : α → Prop} (h : p a) : Tot (some a) p := ⟨a, rfl, h⟩
theorem Tot.bind {α β : Type} {x : Option α} {k : α → Option β} {p : α → Prop} {q : β → Prop} (h : Tot x p) (hk : ∀ o, p o → Tot (k o) q) : Tot (Option.bind x k) q := by
 obtain ⟨o, rfl, h⟩ := h; exact hk o h
theorem Tot.ite {α : Type} {b : Bool} {t e : Option α} {p : α → Prop} (ht : b = true → Tot t p) (he : b = false → Tot e p) : Tot (bif b then t else e) p := by
 cases b with
 | true => exact ht rfl
 | false => exact he rfl
theorem Tot.yes {α : Type} {b : Bool} {t e : Option α} {p : α → Prop} (h : b = true) (ht : Tot t p) : Tot (bif b then t else e) p := by subst h; exact ht
theorem Tot.mono {α : Type} {x : Option α} {p q : α → Prop} (h : Tot x p) (hq : ∀ o, p o → q o) : Tot x q := by obtain ⟨o, h1, h2⟩ := h; exact ⟨o, h1, hq o h2⟩
def joinP {S X : Type} (k : S → Option X) (p : X → Prop) : S ⊕ X → Prop
 | .inl s => Tot (k s) p
 | .inr r => p r
theorem Tot.join {S X : Type} {x : Option (S ⊕ X)} {k : S → Option X} {p : X → Prop} (h : Tot x (joinP k p)) : Tot (Option.bind x (joinX k)) p := by
 obtain ⟨o, rfl, h⟩ := h
 cases o with
 | inl s => exact h
 | inr r => exact ⟨r, rfl, h⟩
theorem Tot.loop {S O : Type} {step : S → Option (S ⊕ O)} (I : S → Prop) (μ : S → Nat) {post : O → Prop} {s0 : S} (h0 : I s0) (hb : μ s0 < 18446744073709551616)
  (hs : ∀ s, I s → Tot (step s) (fun x => match x with | .inl s' => I s' ∧ μ s' < μ s | .inr o => post o)) : Tot (loopN step big s0) post := by
 refine loop_var I μ post h0 hb (fun s hi => ?_)
 obtain ⟨x, h1, h2⟩ := hs s hi
 cases x with
 | inl s' => exact .inl ⟨s', h1, h2⟩
 | inr o => exact .inr ⟨o, h1, h2⟩
theorem Tot.any {α : Type} {x : Option α} {p : α → Prop} (h : Tot x p) : Tot x (fun _ => True) := h.mono (fun _ _ => trivial)
theorem dTT {p : Prop} [Decidable p] (h : decide p = true) : p := of_decide_eq_true h
theorem dFF {p : Prop} [Decidable p] (h : decide p = false) : ¬ p := of_decide_eq_false h
theorem is_tot (x : Int) : Tot (exergueref01_Is x) (fun _ => True) := by
 unfold exergueref01_Is
 refine Tot.bind (p := fun _ => True) ?_ (fun _ _ => Tot.ret trivial)
 repeat' (first | exact Tot.ret trivial | refine Tot.ite (fun _ => ?_) (fun _ => ?_))
theorem size_tot (x : Int) : Tot (exergueref01_Size x) (fun n => 0 ≤ n ∧ n ≤ 4 ∧ (exergueref01_Is x = some true → 1 ≤ n)) := by
 unfold exergueref01_Size
 obtain ⟨b, hb, _⟩ := is_tot x
 rw [hb]
 cases b with
 | false => exact ⟨0, rfl, by omega, by omega, fun h => by cases h⟩
 | true =>
  show Tot (bif _ then _ else _) _
  repeat' (first | exact Tot.ret ⟨by omega, by omega, fun _ => by omega⟩ | refine Tot.ite (fun _ => ?_) (fun _ => ?_))
theorem bytes_tot (x : Int) : Tot (exergueref01_Bytes x) (fun l => l.length ≤ 4) := by
 unfold exergueref01_Bytes
 refine Tot.bind (size_tot x) (fun _ _ => ?_)
 repeat' (first | exact Tot.ret (by simp) | refine Tot.ite (fun _ => ?_) (fun _ => ?_))
theorem text_tot (x : Int) : Tot (exergueref10_text x) (fun l => l.length ≤ 4) := by
 unfold exergueref10_text
 exact Tot.bind (bytes_tot x) (fun o h => Tot.ret (by simpa [bytesS] using h))
theorem special_tot (x : Int) : Tot (exergueref10_Special x) (fun _ => True) := by
 unfold exergueref10_Special
 refine Tot.join (Tot.bind (p := fun _ => True) ?_ (fun b _ => ?_))
 ·repeat' (first | exact Tot.ret trivial | refine Tot.ite (fun _ => ?_) (fun _ => ?_))
 ·refine Tot.ite (fun _ => Tot.ret trivial) (fun _ => Tot.ret ?_)
  refine Tot.join (Tot.loop (fun s => 0 ≤ s ∧ s ≤ 11) (fun s => (11 - s).toNat) (by omega) (by omega) (fun s hs => ?_))
  refine Tot.ite (fun h => ?_) (fun _ => Tot.ret (Tot.ret trivial))
  have h := dTT h
  refine Tot.yes (inR_int (by omega) (by simpa using h)) (Tot.ite (fun _ => Tot.ret trivial) (fun _ => Tot.ret ?_))
  rw [w64 (by omega) (by omega)]; omega
theorem sign_tot (x : Int) : Tot (exergueref10_Sign x) (fun _ => True) := by
 unfold exergueref10_Sign
 repeat' (first | exact Tot.ret trivial | refine Tot.ite (fun _ => ?_) (fun _ => ?_))
def atV (l : List Int) (i : Int) : Int := if i < l.length then nth l i else -1
theorem at_eq2 {l : List Int} {i : Int} (h : 0 ≤ i) : exergueref10_at l i = some (atV l i) := by
 unfold exergueref10_at atV
 by_cases hi : i < l.length
 ·rw [dT hi, if_pos hi, inR_int h hi]; rfl
 ·rw [dF hi, if_neg hi]; rfl
theorem at_in {l : List Int} {i c : Int} (hc : atV l i = c) (h : c ≠ -1) : i < l.length := by
 unfold atV at hc
 split at hc
 ·assumption
 ·exact absurd hc.symm h
theorem many_tot {l : List Int} {i c : Int} (hl : l.length ≤ 10000) (h : 0 ≤ i) (hi : i ≤ l.length) (hc : c ≠ -1) : Tot (exergueref10_many l i c) (fun n => 0 ≤ n ∧ i + n ≤ l.length) := by
 unfold exergueref10_many
 refine Tot.bind (p := fun n => 0 ≤ n ∧ i + n ≤ l.length) ?_ (fun _ h => Tot.ret h)
 refine Tot.loop (fun s => 0 ≤ s ∧ i + s ≤ l.length) (fun s => (l.length - i - s).toNat) (by omega) (by omega) (fun s hs => ?_)
 rw [w64 (n := i + s) (by omega) (by omega), at_eq2 (by omega)]
 show Tot (bif _ then _ else _) _
 refine Tot.ite (fun hh => Tot.ret ?_) (fun _ => Tot.ret hs)
 have := at_in (dTT hh) hc
 rw [w64 (by omega) (by omega)]; omega
def numsP (p : St23) : Int × Int × Int × Int × Int × Int × Int × Int × Int × Bool := (p.Hash_, p.MinInt_, p.MinFrac_, p.MaxFrac_, p.G1_, p.G2_, p.MinSig_, p.MaxSig_, p.Exp_, p.ExpPlus_)
def grpP (t g1 g2 : Int) : Prop := (g1 = 0 ∧ g2 = 0) ∨ (0 < g1 ∧ 0 < g2 ∧ g1 < t ∧ (t ≤ g1 + g2 → g2 = g1))
def canon : Int × Int × Int × Int × Int × Int × Int × Int × Int × Bool → Prop := fun (ha, mi, nf, xf, g1, g2, ns, xs, ex, ep) =>
 0 ≤ ha ∧ 0 ≤ mi ∧ 0 ≤ nf ∧ nf ≤ xf ∧ 0 ≤ ns ∧ ns ≤ xs ∧ 0 ≤ ex ∧ (ex = 0 → ep = false) ∧ (ns = 0 → xs = 0 ∧ 0 < ha + mi) ∧ (0 < ns → ha = 0 ∧ mi = 0 ∧ nf = 0 ∧ xf = 0) ∧ grpP (ha + mi) g1 g2
def zeroN : Int × Int × Int × Int × Int × Int × Int × Int × Int × Bool := (0, 0, 0, 0, 0, 0, 0, 0, 0, false)
theorem pad_tot {p : St23} {l : List Int} {i w : Int} (hl : l.length ≤ 10000) (h : 0 ≤ i) (hi : i ≤ l.length) : Tot (exergueref10_pad p l i w) (fun o => 0 ≤ o.2.1 ∧ (o.2.2 = true → o.2.1 ≤ l.length) ∧ numsP o.1 = numsP p) := by
 unfold exergueref10_pad
 refine Tot.join (Tot.bind (p := fun _ => True) ?_ (fun b _ => ?_))
 ·refine Tot.ite (fun _ => Tot.ret trivial) (fun _ => ?_)
  rw [at_eq2 h]; exact Tot.ret trivial
 ·refine Tot.ite (fun _ => Tot.ret ⟨h, fun _ => hi, rfl⟩) (fun _ => Tot.ret ?_)
  show Tot _ _
  rw [w64 (n := i + 1) (by omega) (by omega)]
  refine Tot.ite (fun _ => Tot.ret ⟨by simp only; omega, fun h => (by cases h), rfl⟩) (fun hh => ?_)
  have := dFF hh
  refine Tot.yes (inR_int (by omega) (by omega)) (Tot.ret ⟨?_, fun _ => ?_, rfl⟩)
  ·simp only; rw [w64 (by omega) (by omega)]; omega
  ·simp only; rw [w64 (by omega) (by omega)]; omega
theorem affix_tot {l : List Int} {i : Int} (hl : l.length ≤ 10000) (h : 0 ≤ i) (hi : i ≤ l.length) : Tot (exergueref10_affix l i) (fun o => 0 ≤ o.2.1 ∧ o.2.1 ≤ l.length) := by
 unfold exergueref10_affix
 refine Tot.join (Tot.loop (fun s : Int × List St33 => 0 ≤ s.1 ∧ s.1 ≤ (l.length : Int) ∧ (s.2.length : Int) ≤ s.1) (fun s => ((l.length : Int) - s.1).toNat) ⟨h, hi, by simpa using h⟩ (by simp only; omega) (fun s hs => ?_))
 refine Tot.ite (fun hh => ?_) (fun hh => Tot.ret (Tot.ret ⟨hs.1, hs.2.1⟩))
 have hlt := dTT hh
 refine Tot.yes (inR_int hs.1 hlt) (Tot.bind (sign_tot _) (fun y _ => Tot.bind (special_tot _) (fun y2 _ => ?_)))
 have e1 : IntKind.wrap .i64 (s.1 + 1) = s.1 + 1 := w64 (by omega) (by omega)
 rw [e1]
 refine Tot.ite (fun _ => Tot.yes (room_of (by simp; omega)) (Tot.ret ⟨⟨by simp only; omega, by simp only; omega, by simp; omega⟩, by simp only; omega⟩)) (fun _ => ?_)
 refine Tot.ite (fun _ => Tot.ite (fun _ => Tot.ret ⟨hs.1, hs.2.1⟩) (fun _ => Tot.yes (room_of (by simp; omega)) (Tot.ret ⟨⟨by simp only; omega, by simp only; omega, by simp; omega⟩, by simp only; omega⟩))) (fun _ => ?_)
 rw [at_eq2 (by omega)]
 show Tot (bif _ then _ else _) _
 refine Tot.ite (fun hq => ?_) (fun hq => ?_)
 ·have := at_in (dTT hq) (by omega)
  refine Tot.yes (room_of (by simp; omega)) (Tot.ret ?_)
  have e2 : IntKind.wrap .i64 (s.1 + 2) = s.1 + 2 := w64 (by omega) (by omega)
  rw [e2]
  exact ⟨⟨by simp only; omega, by simp only; omega, by simp; omega⟩, by simp only; omega⟩
 ·refine Tot.bind (p := fun o : Int × List St33 => s.1 + 1 ≤ o.1 ∧ o.1 ≤ (l.length : Int) ∧ (o.2.length : Int) ≤ o.1) ?_ (fun o ho => ?_)
  ·refine Tot.loop (fun t : Int × List St33 => s.1 + 1 ≤ t.1 ∧ t.1 ≤ (l.length : Int) ∧ (t.2.length : Int) ≤ t.1) (fun t => ((l.length : Int) - t.1).toNat) ⟨by simp only; omega, by simp only; omega, by simp only; omega⟩ (by simp only; omega) (fun t ht => ?_)
   have f1 : IntKind.wrap .i64 (t.1 + 1) = t.1 + 1 := w64 (by omega) (by omega)
   rw [f1]
   refine Tot.join (Tot.bind (p := fun b => b = true → t.1 < l.length ∧ (nth l t.1 = 39 → t.1 + 1 < l.length)) ?_ (fun b hb => ?_))
   ·refine Tot.ite (fun hh => ?_) (fun _ => Tot.ret (fun h => by cases h))
    have h3 := dTT hh
    refine Tot.yes (inR_int (by omega) h3) (Tot.ite (fun hn => Tot.ret (fun _ => ⟨h3, fun he => absurd he (dTT hn)⟩)) (fun _ => ?_))
    rw [at_eq2 (by omega)]
    exact Tot.ret (fun hb => ⟨h3, fun _ => at_in (dTT hb) (by omega)⟩)
   ·cases b with
    | false => exact Tot.ret ht
    | true =>
     obtain ⟨g1, g2⟩ := hb rfl
     refine Tot.ret (show Tot _ _ from ?_)
     refine Tot.yes (inR_int (by omega) g1) (Tot.yes (room_of (by simp; omega)) ?_)
     refine Tot.bind (p := fun v => t.1 ≤ v ∧ v < l.length) (Tot.yes (inR_int (by omega) g1) (Tot.ite (fun hh => Tot.ret ⟨by omega, g2 (dTT hh)⟩) (fun _ => Tot.ret ⟨by omega, g1⟩))) (fun v hv => Tot.ret ?_)
     have f2 : IntKind.wrap .i64 (v + 1) = v + 1 := w64 (by omega) (by omega)
     rw [f2]
     exact ⟨⟨by simp only; omega, by simp only; omega, by simp; omega⟩, by simp only; omega⟩
  ·refine Tot.ite (fun _ => Tot.ret ⟨hs.1, hs.2.1⟩) (fun hh => Tot.ret ?_)
   have h3 := dFF hh
   have f1 : IntKind.wrap .i64 (o.1 + 1) = o.1 + 1 := w64 (by omega) (by omega)
   rw [f1]
   exact ⟨⟨by simp only; omega, by simp only; omega, by simp only; omega⟩, by simp only; omega⟩
/-! Patterns that are read. -/
def atP (l : List Int) (i mi : Int) : Prop := atV l i = 48 ∨ (atV l i = 35 ∧ mi = 0)
theorem places_tot {p : St23} {l : List Int} {i : Int} (hl : l.length ≤ 10000) (h : 0 ≤ i) (hi : i ≤ l.length) (hp : p.Hash_ = 0 ∧ p.MinInt_ = 0 ∧ p.G1_ = 0 ∧ p.G2_ = 0) :
  Tot (exergueref10_places p l i) (fun o => 0 ≤ o.2.1 ∧ o.2.1 ≤ l.length ∧ (o.2.2 = true → 0 ≤ o.1.Hash_ ∧ 0 ≤ o.1.MinInt_ ∧ 0 < o.1.Hash_ + o.1.MinInt_ ∧ grpP (o.1.Hash_ + o.1.MinInt_) o.1.G1_ o.1.G2_) ∧ o.1.MinFrac_ = p.MinFrac_ ∧ o.1.MaxFrac_ = p.MaxFrac_ ∧ o.1.MinSig_ = p.MinSig_ ∧ o.1.MaxSig_ = p.MaxSig_ ∧ o.1.Exp_ = p.Exp_ ∧ o.1.ExpPlus_ = p.ExpPlus_) := by
 unfold exergueref10_places
 obtain ⟨p1, p2, p3, p4⟩ := hp
 refine Tot.loop (fun s : Int × Int × Int × Int × List Int => (0 ≤ s.1 ∧ s.1 ≤ (l.length : Int) ∧ (s.2.2.2.2.length : Int) ≤ s.1) ∧ 0 ≤ s.2.1 ∧ 0 ≤ s.2.2.1 ∧ 0 ≤ s.2.2.2.1 ∧ s.2.2.1 + s.2.2.2.1 ≤ s.1 ∧ (s.2.2.2.2.length = 0 → s.2.2.1 + s.2.2.2.1 = s.2.1) ∧ (s.2.2.2.2.length = 1 → s.2.1 < s.2.2.1 + s.2.2.2.1) ∧ (2 ≤ s.2.2.2.2.length → 1 ≤ nth s.2.2.2.2 1 ∧ s.2.1 + nth s.2.2.2.2 1 < s.2.2.1 + s.2.2.2.1) ∧ (s.2.2.2.2 ≠ [] → s.2.1 = 0 → atP l s.1 s.2.2.2.1))
  (fun s => ((l.length : Int) - s.1).toNat) ⟨⟨h, hi, by simpa using h⟩, by simp only; omega, by simp only; omega, by simp only; omega, by simp only; omega, fun _ => by simp only; omega, fun h => by simp at h, fun h => by simp at h, fun h => by simp at h⟩ (by simp only; omega) (fun s hs => ?_)
 obtain ⟨s1, n, ha, mi, gr⟩ := s
 obtain ⟨⟨q1, q2, q3⟩, q4, q5, q6, q7, q8, q9, q10, q11⟩ := hs
 simp only at q1 q2 q3 q4 q5 q6 q7 q8 q9 q10 q11 ⊢
 have e1 : IntKind.wrap .i64 (s1 + 1) = s1 + 1 := w64 (by omega) (by omega)
 rw [e1, at_eq2 q1, at_eq2 (l := l) (i := s1 + 1) (by omega)]
 show Tot (Option.bind _ _) _
 refine Tot.join (Tot.bind (p := fun b => b = decide (atV l s1 = 35 ∧ mi = 0)) ?_ (fun b hb => ?_))
 ·refine Tot.ite (fun hq => Tot.ret ?_) (fun hq => Tot.ret ?_)
  ·have := dTT hq; simp [this]
  ·have := dFF hq; simp [this]
 ·by_cases c1 : atV l s1 = 35 ∧ mi = 0
  ·rw [dT c1] at hb
   subst hb
   have hin := at_in c1.1 (by omega)
   have e2 : IntKind.wrap .i64 (n + 1) = n + 1 := w64 (by omega) (by omega)
   have e3 : IntKind.wrap .i64 (ha + 1) = ha + 1 := w64 (by omega) (by omega)
   rw [e2, e3]
   exact Tot.ret ⟨⟨⟨by simp only; omega, by simp only; omega, by simp only; omega⟩, by simp only; omega, by simp only; omega, by simp only; omega, by simp only; omega, fun g => by have := q8 g; simp only; omega, fun g => by have := q9 g; simp only; omega, fun g => by have := q10 g; exact ⟨this.1, by simp only; omega⟩, fun _ g => by simp only at g; omega⟩, by simp only; omega⟩
  ·rw [dF c1] at hb
   subst hb
   refine Tot.ret (show Tot _ _ from ?_)
   refine Tot.ite (fun hq => ?_) (fun hq0 => ?_)
   ·have := at_in (dTT hq) (by omega)
    have e2 : IntKind.wrap .i64 (n + 1) = n + 1 := w64 (by omega) (by omega)
    have e3 : IntKind.wrap .i64 (mi + 1) = mi + 1 := w64 (by omega) (by omega)
    rw [e2, e3]
    exact Tot.ret ⟨⟨⟨by simp only; omega, by simp only; omega, by simp only; omega⟩, by simp only; omega, by simp only; omega, by simp only; omega, by simp only; omega, fun g => by have := q8 g; simp only; omega, fun g => by have := q9 g; simp only; omega, fun g => by have := q10 g; exact ⟨this.1, by simp only; omega⟩, fun _ g => by simp only at g; omega⟩, by simp only; omega⟩
   ·have hq0 := dFF hq0
    have hnat : ¬ atP l s1 mi := fun h => h.elim hq0 c1
    refine Tot.join (Tot.bind (p := fun b => b = true → s1 < l.length ∧ 0 < n ∧ atP l (s1 + 1) mi) ?_ (fun b hb => ?_))
    ·refine Tot.ite (fun hq => ?_) (fun _ => Tot.ret (fun h => by cases h))
     have hin := at_in (dTT hq) (by omega)
     refine Tot.ite (fun hq1 => ?_) (fun _ => Tot.ret (fun h => by cases h))
     have hn := dTT hq1
     refine Tot.ite (fun hq2 => Tot.ret (fun _ => ⟨hin, hn, .inl (dTT hq2)⟩)) (fun _ => Tot.ite (fun hq2 => Tot.ret (fun h3 => ⟨hin, hn, .inr ⟨dTT hq2, dTT h3⟩⟩)) (fun _ => Tot.ret (fun h => by cases h)))
    ·cases b with
     | true =>
      obtain ⟨h2, h3, h4⟩ := hb rfl
      refine Tot.join (Tot.bind (p := fun b => b = false → 2 ≤ gr.length → nth gr 1 = n) ?_ (fun b hb => ?_))
      ·refine Tot.ite (fun hq => ?_) (fun hq => Tot.ret (fun _ g => absurd (show (gr.length : Int) ≥ 2 by omega) (dFF hq)))
       have hq := dTT hq
       exact Tot.yes (inR_int (by omega) (by omega)) (Tot.yes (inR_int (by omega) (by omega)) (Tot.ret (fun g _ => by have := dFF g; omega)))
      ·cases b with
       | true => exact Tot.ret ⟨q1, q2, fun h => (by cases h), rfl, rfl, rfl, rfl, rfl, rfl⟩
       | false =>
        have hb := hb rfl
        refine Tot.ret (show Tot _ _ from Tot.yes (room_of (by simp; omega)) (Tot.ret ?_))
        refine ⟨⟨⟨by simp only; omega, by simp only; omega, by simp; omega⟩, by simp only; omega, by simp only; omega, by simp only; omega, by simp only; omega, fun g => by simp at g, fun g => ?_, fun g => ?_, fun _ _ => h4⟩, by simp only; omega⟩
        ·simp at g
         have := q8 (by simp [g])
         simp only; omega
        ·simp only [List.length_append, List.length_cons, List.length_nil] at g
         by_cases g1 : gr.length = 1
         ·obtain ⟨x, rfl⟩ := List.length_eq_one_iff.1 g1
          have := q9 g1
          have e5 : nth ([x] ++ [n]) 1 = n := rfl
          simp only
          rw [e5]
          exact ⟨by omega, by omega⟩
         ·have g2 : 2 ≤ gr.length := by omega
          have e5 : nth (gr ++ [n]) 1 = nth gr 1 := by
           unfold nth
           simp only [List.getD_eq_getElem?_getD]
           rw [List.getElem?_append_left (by omega)]
          have := q10 g2
          simp only
          rw [e5]
          exact ⟨this.1, by omega⟩
     | false =>
      refine Tot.ret (show Tot _ _ from ?_)
      have e4 : IntKind.wrap .i64 (ha + mi) = ha + mi := w64 (by omega) (by omega)
      rw [e4]
      have hn0 : gr ≠ [] → 0 < n := fun g => by
       rcases Int.lt_or_le 0 n with h | h
       ·exact h
       ·exact absurd (q11 g (by omega)) hnat
      refine Tot.bind (p := fun y => y = if gr.length = 1 then (n, n) else (0, 0)) ?_ (fun y hy => Tot.bind (p := fun z => z = if 1 < gr.length then (n, nth gr 1) else y) ?_ (fun z hz => Tot.ret ⟨q1, q2, fun h => ⟨q5, q6, dTT h, ?_⟩, rfl, rfl, rfl, rfl, rfl, rfl⟩))
      ·refine Tot.ite (fun hq => Tot.ret ?_) (fun hq => Tot.ret ?_)
       ·have := dTT hq; rw [if_pos (by omega)]
       ·have := dFF hq; rw [if_neg (by omega), p3, p4]
      ·refine Tot.ite (fun hq => ?_) (fun hq => Tot.ret ?_)
       ·have hq := dTT hq
        refine Tot.yes (inR_int (by omega) (by omega)) (Tot.yes (inR_int (by omega) (by omega)) (Tot.ret ?_))
        rw [if_pos (by omega)]
       ·have := dFF hq; rw [if_neg (by omega)]
      ·subst hz; subst hy
       simp only
       unfold grpP
       by_cases g0 : gr = []
       ·subst g0
        exact .inl ⟨rfl, rfl⟩
       ·have g1 : 0 < gr.length := List.length_pos_iff.2 g0
        have := hn0 g0
        by_cases g2 : gr.length = 1
        ·rw [if_pos g2, if_neg (by omega)]
         have := q9 g2
         exact .inr ⟨by simp only; omega, by simp only; omega, by simp only; omega, fun _ => rfl⟩
        ·have g3 : 2 ≤ gr.length := by omega
         rw [if_pos (by omega)]
         have := q10 g3
         exact .inr ⟨by simp only; omega, by simp only; omega, by simp only; omega, fun h => by simp only at h; omega⟩
theorem number_tot {p : St23} {l : List Int} {i : Int} (hl : l.length ≤ 10000) (h : 0 ≤ i) (hi : i ≤ l.length) (hp : numsP p = zeroN) :
  Tot (exergueref10_number p l i) (fun o => 0 ≤ o.2.1 ∧ o.2.1 ≤ l.length ∧ (o.2.2 = true → canon (numsP o.1))) := by
 simp only [numsP, zeroN, Prod.mk.injEq] at hp
 obtain ⟨p1, p2, p3, p4, p5, p6, p7, p8, p9, p10⟩ := hp
 unfold exergueref10_number
 refine Tot.bind (many_tot hl h hi (by omega)) (fun n hn => ?_)
 have e1 : IntKind.wrap .i64 (i + n) = i + n := w64 (by omega) (by omega)
 rw [e1]
 refine Tot.join (Tot.mono (p := fun x => match x with
  | .inl s => (0 ≤ s.1 ∧ s.1 ≤ l.length) ∧ s.2.2.2.2.2.2.2.2.2.2.2.2.2.2.1 = 0 ∧ s.2.2.2.2.2.2.2.2.2.2.2.2.2.2.2.1 = false ∧ canon (s.2.2.2.2.2.2.1, s.2.2.2.2.2.2.2.1, s.2.2.2.2.2.2.2.2.1, s.2.2.2.2.2.2.2.2.2.1, s.2.2.2.2.2.2.2.2.2.2.1, s.2.2.2.2.2.2.2.2.2.2.2.1, s.2.2.2.2.2.2.2.2.2.2.2.2.1, s.2.2.2.2.2.2.2.2.2.2.2.2.2.1, 0, false)
  | .inr r => 0 ≤ r.2.1 ∧ r.2.1 ≤ l.length ∧ (r.2.2 = true → canon (numsP r.1))) ?_ (fun x hx => ?_))
 ·refine Tot.ite (fun hq => ?_) (fun hq => ?_)
  ·have hq := dTT hq
   refine Tot.bind (many_tot hl (i := i + n) (by omega) (by omega) (by omega)) (fun m hm => Tot.ret ?_)
   rw [w64 (n := i + n + m) (by omega) (by omega), w64 (n := n + m) (by omega) (by omega)]
   refine ⟨⟨by simp only; omega, by simp only; omega⟩, p9, p10, ?_⟩
   simp only [canon, p1, p2, p3, p4, p5, p6]
   exact ⟨by omega, by omega, by omega, by omega, by omega, by omega, by omega, fun _ => trivial, fun _ => by omega, fun _ => ⟨trivial, trivial, trivial, trivial⟩, .inl ⟨rfl, rfl⟩⟩
  ·have hq := dFF hq
   refine Tot.bind (places_tot hl h hi ⟨p1, p2, p5, p6⟩) (fun y hy => ?_)
   obtain ⟨y1, y2, y3, y4, y5, y6, y7, y8, y9⟩ := hy
   refine Tot.ite (fun _ => Tot.ret ⟨y1, y2, fun h => (by cases h)⟩) (fun hok => ?_)
   obtain ⟨z1, z2, z3, z4⟩ := y3 (by simpa using hok)
   rw [at_eq2 y1]
   show Tot (bif _ then _ else _) _
   refine Tot.ite (fun hq => ?_) (fun _ => Tot.ret ⟨⟨y1, y2⟩, by simp only [y8, p9], by simp only [y9, p10], ?_⟩)
   ·have hin := at_in (dTT hq) (by omega)
    have f1 : IntKind.wrap .i64 (y.2.1 + 1) = y.2.1 + 1 := w64 (by omega) (by omega)
    rw [f1]
    refine Tot.bind (many_tot hl (i := y.2.1 + 1) (by omega) (by omega) (by omega)) (fun a ha => ?_)
    have f2 : IntKind.wrap .i64 (y.2.1 + 1 + a) = y.2.1 + 1 + a := w64 (by omega) (by omega)
    rw [f2]
    refine Tot.bind (many_tot hl (i := y.2.1 + 1 + a) (by omega) (by omega) (by omega)) (fun b hb => ?_)
    have f3 : IntKind.wrap .i64 (y.2.1 + 1 + a + b) = y.2.1 + 1 + a + b := w64 (by omega) (by omega)
    have f4 : IntKind.wrap .i64 (a + b) = a + b := w64 (by omega) (by omega)
    rw [f3, f4]
    refine Tot.ite (fun _ => Tot.ret ⟨by simp only; omega, by simp only; omega, fun h => (by cases h)⟩) (fun _ => Tot.ret ⟨⟨by simp only; omega, by simp only; omega⟩, by simp only [y8, p9], by simp only [y9, p10], ?_⟩)
    simp only [canon, y6, y7, p7, p8]
    exact ⟨z1, z2, by omega, by omega, by omega, by omega, by omega, fun _ => trivial, fun _ => ⟨trivial, z3⟩, fun h => by omega, z4⟩
   ·simp only [canon, y4, y5, y6, y7, p3, p4, p7, p8]
    exact ⟨z1, z2, by omega, by omega, by omega, by omega, by omega, fun _ => trivial, fun _ => ⟨trivial, z3⟩, fun h => by omega, z4⟩
 ·cases x with
  | inr r => exact hx
  | inl s =>
   obtain ⟨⟨s1, s2⟩, s3, s4, s5⟩ := hx
   show Tot (Option.bind _ _) _
   rw [at_eq2 s1]
   show Tot (bif _ then _ else _) _
   refine Tot.ite (fun _ => Tot.ret ⟨s1, s2, fun _ => ?_⟩) (fun hq => ?_)
   ·simp only [numsP, s3, s4]; exact s5
   have hq : atV l s.1 = 69 := by have := dFF hq; omega
   have hin := at_in hq (by omega)
   have f1 : IntKind.wrap .i64 (s.1 + 1) = s.1 + 1 := w64 (by omega) (by omega)
   rw [f1, at_eq2 (by omega)]
   refine Tot.bind (p := fun t : Int × Bool => 0 ≤ t.1 ∧ t.1 ≤ (l.length : Int)) ?_ (fun t ht => ?_)
   ·show Tot (bif _ then _ else _) _
    refine Tot.ite (fun hq => ?_) (fun _ => Tot.ret ⟨by simp only; omega, by simp only; omega⟩)
    have := at_in (dTT hq) (by omega)
    rw [w64 (n := s.1 + 1 + 1) (by omega) (by omega)]
    exact Tot.ret ⟨by simp only; omega, by simp only; omega⟩
   ·refine Tot.bind (many_tot hl ht.1 ht.2 (by omega)) (fun n hn => Tot.ret ?_)
    rw [w64 (n := t.1 + n) (by omega) (by omega)]
    refine ⟨by simp only; omega, by simp only; omega, fun hex => ?_⟩
    have hex := dTT hex
    simp only [numsP, canon] at s5 ⊢
    obtain ⟨c1, c2, c3, c4, c5, c6, c7, c8, c9, c10, c11⟩ := s5
    exact ⟨c1, c2, c3, c4, c5, c6, by omega, fun h => by omega, c9, c10, c11⟩
theorem first_tot {l : List Int} (hl : l.length ≤ 10000) : Tot (exergueref10_first l) (fun o => o.2.2.2.2 = true → canon (numsP o.1) ∧ 0 ≤ o.2.1 ∧ o.2.2.1 ≤ l.length ∧ 0 ≤ o.2.2.2.1 ∧ o.2.2.2.1 ≤ l.length) := by
 unfold exergueref10_first
 refine Tot.bind (pad_tot hl (by omega) (by omega)) (fun a ha => Tot.ite (fun _ => Tot.ret (fun h => by cases h)) (fun h1 => ?_))
 have h1 : a.2.2 = true := by simpa using h1
 refine Tot.bind (affix_tot hl ha.1 (ha.2.1 h1)) (fun b hb => Tot.ite (fun _ => Tot.ret (fun h => by cases h)) (fun h2 => ?_))
 refine Tot.bind (pad_tot hl hb.1 hb.2) (fun c hc => Tot.ite (fun _ => Tot.ret (fun h => by cases h)) (fun h3 => ?_))
 have h3 : c.2.2 = true := by simpa using h3
 have hpc : numsP c.1 = zeroN := hc.2.2.trans ha.2.2
 refine Tot.bind (number_tot hl hc.1 (hc.2.1 h3) hpc) (fun d hd => Tot.ite (fun _ => Tot.ret (fun h => by cases h)) (fun h4 => ?_))
 have h4 : d.2.2 = true := by simpa using h4
 refine Tot.bind (pad_tot hl hd.1 hd.2.1) (fun e he => Tot.ite (fun _ => Tot.ret (fun h => by cases h)) (fun h5 => ?_))
 have h5 : e.2.2 = true := by simpa using h5
 refine Tot.bind (affix_tot hl he.1 (he.2.1 h5)) (fun f hf => Tot.ite (fun _ => Tot.ret (fun h => by cases h)) (fun h6 => ?_))
 refine Tot.bind (pad_tot hl hf.1 hf.2) (fun g hg => Tot.ret (fun h7 => ⟨?_, hc.1, hd.2.1, hg.1, hg.2.1 h7⟩))
 have hn : numsP g.1 = numsP d.1 := hg.2.2.trans he.2.2
 rw [hn]
 exact hd.2.2 h4
theorem affix_any {l : List Int} {i : Int} (hl : l.length ≤ 10000) (h : 0 ≤ i) : Tot (exergueref10_affix l i) (fun _ => True) := by
 by_cases hi : i ≤ l.length
 ·exact (affix_tot hl h hi).any
 ·unfold exergueref10_affix
  refine Tot.join (Tot.loop (fun s : Int × List St33 => (l.length : Int) < s.1) (fun _ => 0) (by simp only; omega) (by decide) (fun s hs => ?_))
  rw [dF (show ¬ s.1 < (l.length : Int) by omega)]
  exact Tot.ret (Tot.ret trivial)
theorem second_tot {p : St23} {l : List Int} {i a b : Int} (hl : l.length ≤ 10000) (h : 0 ≤ i) (hi : i ≤ l.length) (ha : 0 ≤ a) (hb : b ≤ l.length) :
  Tot (exergueref10_second p l i a b) (fun o => numsP o.1 = numsP p) := by
 unfold exergueref10_second
 refine Tot.bind (affix_tot hl h hi) (fun c hc => Tot.ite (fun _ => Tot.ret rfl) (fun _ => ?_))
 refine Tot.join (Tot.mono (p := fun x => match x with | .inl s => 0 ≤ s | .inr r => numsP r.1 = numsP p) ?_ (fun x hx => ?_))
 ·refine Tot.loop (fun s : Int × Int => 0 ≤ s.1 ∧ s.1 ≤ (l.length : Int) + s.2 ∧ 0 ≤ s.2) (fun s => (b - s.2).toNat) ⟨hc.1, by simp only; omega, ha⟩ (by simp only; omega) (fun s hs => ?_)
  refine Tot.ite (fun hh => ?_) (fun _ => Tot.ret hs.1)
  have hh := dTT hh
  rw [at_eq2 hs.1]
  show Tot (bif _ then _ else _) _
  refine Tot.yes (inR_int hs.2.2 (by omega)) (Tot.ite (fun _ => Tot.ret rfl) (fun hq => Tot.ret ?_))
  have e1 : IntKind.wrap .i64 (s.1 + 1) = s.1 + 1 := w64 (by omega) (by omega)
  have e2 : IntKind.wrap .i64 (s.2 + 1) = s.2 + 1 := w64 (by omega) (by omega)
  rw [e1, e2]
  exact ⟨⟨by simp only; omega, by simp only; omega, by simp only; omega⟩, by simp only; omega⟩
 ·cases x with
  | inr r => exact hx
  | inl s =>
   show Tot _ _
   exact Tot.bind (affix_any hl hx) (fun d hd => Tot.ret rfl)
/-! Texts of patterns, read: there is an answer. -/
theorem tails_tot {b : List Int} {at' k n : Int} (hl : b.length ≤ 100000) (h : 0 ≤ at') (ha : at' ≤ b.length) (hk : 0 ≤ k) (hk2 : k ≤ 3) : Tot (exergueref01_tails b at' k n) (fun _ => True) := by
 unfold exergueref01_tails
 rw [w64 (n := at' + k) (by omega) (by omega)]
 refine Tot.ite (fun _ => Tot.ret trivial) (fun hh => ?_)
 have hh := dFF hh
 refine Tot.join (Tot.loop (fun s : Int × Int => 1 ≤ s.2 ∧ s.2 ≤ k + 1) (fun s => (k + 1 - s.2).toNat) ⟨by simp only; omega, by simp only; omega⟩ (by simp only; omega) (fun s hs => ?_))
 refine Tot.ite (fun hq => ?_) (fun _ => Tot.ret (Tot.ret trivial))
 have hq := dTT hq
 have e1 : IntKind.wrap .i64 (at' + s.2) = at' + s.2 := w64 (by omega) (by omega)
 have e2 : IntKind.wrap .i64 (s.2 + 1) = s.2 + 1 := w64 (by omega) (by omega)
 rw [e1, e2]
 refine Tot.join (Tot.yes (inR_int (by omega) (by omega)) ?_)
 refine Tot.join (Tot.bind (p := fun _ => True) ?_ (fun c _ => ?_))
 ·exact Tot.ite (fun _ => Tot.ret trivial) (fun _ => Tot.ret trivial)
 ·cases c with
  | true => exact Tot.ret trivial
  | false => exact Tot.ret (Tot.ret (Tot.ret ⟨⟨by simp only; omega, by simp only; omega⟩, by simp only; omega⟩))
theorem one_tot {b : List Int} {at' : Int} (hl : b.length ≤ 100000) (h : 0 ≤ at') (ha : at' < b.length) : Tot (exergueref01_one b at') (fun n => n < 0 ∨ exergueref01_Is (IntKind.wrap .i32 n) = some true) := by
 unfold exergueref01_one
 refine Tot.yes (inR_int h ha) ?_
 have ht : ∀ k n, 0 ≤ k → k ≤ 3 → Tot (exergueref01_tails b at' k n) (fun _ => True) := fun k n h1 h2 => tails_tot hl h (by omega) h1 h2
 refine Tot.bind (p := fun _ => True) (Tot.ite (fun _ => Tot.ret trivial) (fun _ => Tot.ret trivial)) (fun a _ => ?_)
 refine Tot.bind (p := fun _ => True) ?_ (fun a _ => Tot.bind (p := fun _ => True) ?_ (fun a _ => Tot.bind (p := fun _ => True) ?_ (fun a _ => ?_)))
 ·refine Tot.bind (p := fun _ => True) (Tot.ite (fun _ => Tot.ret trivial) (fun _ => Tot.ret trivial)) (fun _ _ => Tot.ite (fun _ => Tot.bind (ht 1 _ (by omega) (by omega)) (fun _ _ => Tot.ret trivial)) (fun _ => Tot.ret trivial))
 ·refine Tot.bind (p := fun _ => True) (Tot.ite (fun _ => Tot.ret trivial) (fun _ => Tot.ret trivial)) (fun _ _ => Tot.ite (fun _ => Tot.bind (ht 2 _ (by omega) (by omega)) (fun _ _ => Tot.ret trivial)) (fun _ => Tot.ret trivial))
 ·refine Tot.bind (p := fun _ => True) (Tot.ite (fun _ => Tot.ret trivial) (fun _ => Tot.ret trivial)) (fun _ _ => Tot.ite (fun _ => Tot.bind (ht 3 _ (by omega) (by omega)) (fun _ _ => Tot.ret trivial)) (fun _ => Tot.ret trivial))
 ·obtain ⟨v, hv, _⟩ := is_tot (IntKind.wrap .i32 a.1)
  rw [hv]
  show Tot (Option.bind _ _) _
  refine Tot.join (Tot.bind (p := fun c => c = false → v = true) (Tot.ite (fun _ => Tot.ret (fun h => by cases h)) (fun _ => Tot.ret (fun h => by simpa using h))) (fun c hc => ?_))
  cases c with
  | true => exact Tot.ret (.inl (by decide))
  | false => exact Tot.ret (Tot.ret (.inr (by rw [hv, hc rfl])))
theorem decode_tot {b : List Int} (hl : b.length ≤ 100000) : Tot (exergueref01_Decode b) (fun _ => True) := by
 unfold exergueref01_Decode
 refine Tot.join (Tot.loop (fun s : Int × List Int => 0 ≤ s.1 ∧ s.1 ≤ (b.length : Int) + 4 ∧ (s.2.length : Int) ≤ s.1) (fun s => ((b.length : Int) + 4 - s.1).toNat) ⟨by simp only; omega, by simp only; omega, by simp⟩ (by simp only; omega) (fun s hs => ?_))
 refine Tot.ite (fun hq => ?_) (fun _ => Tot.ret (Tot.ret trivial))
 have hq := dTT hq
 refine Tot.bind (one_tot hl hs.1 hq) (fun n hn => Tot.ite (fun _ => Tot.ret trivial) (fun hneg => ?_))
 have hneg := dFF hneg
 have his := hn.resolve_left hneg
 refine Tot.yes (room_of (by simp; omega)) (Tot.bind (size_tot _) (fun z hz => Tot.ret ?_))
 have h1 := hz.2.2 his
 have e1 : IntKind.wrap .i64 (s.1 + z) = s.1 + z := w64 (by omega) (by omega)
 rw [e1]
 exact ⟨⟨by simp only; omega, by simp only; omega, by simp; omega⟩, by simp only; omega⟩
theorem times_tot {t : List UInt8} {n : Int} (ht : t.length ≤ 1) (hn : n ≤ 1000) : Tot (exergueref10_times t n) (fun l => l.length ≤ 1000) := by
 unfold exergueref10_times
 refine Tot.bind (p := fun l => l.length ≤ 1000) ?_ (fun _ h => Tot.ret h)
 refine Tot.loop (fun s : List UInt8 × Int => 0 ≤ s.2 ∧ s.2 ≤ 1000 ∧ (s.1.length : Int) ≤ s.2) (fun s => (1000 - s.2).toNat) ⟨by simp only; omega, by simp only; omega, by simp⟩ (by simp only; omega) (fun s hs => ?_)
 refine Tot.ite (fun hq => ?_) (fun _ => Tot.ret (by simp only; omega))
 have hq := dTT hq
 refine Tot.yes (room_of (by omega)) (Tot.ret ?_)
 have e1 : IntKind.wrap .i64 (s.2 + 1) = s.2 + 1 := w64 (by omega) (by omega)
 rw [e1]
 exact ⟨⟨by simp only; omega, by simp only; omega, by simp; omega⟩, by simp only; omega⟩
def cntP (p : St23) : Prop := (0 ≤ p.Hash_ ∧ p.Hash_ ≤ 40) ∧ (0 ≤ p.MinInt_ ∧ p.MinInt_ ≤ 40) ∧ (0 ≤ p.MinFrac_ ∧ p.MinFrac_ ≤ 40) ∧ (0 ≤ p.MaxFrac_ ∧ p.MaxFrac_ ≤ 40) ∧ (0 ≤ p.G1_ ∧ p.G1_ ≤ 40) ∧ (0 ≤ p.G2_ ∧ p.G2_ ≤ 40) ∧ (0 ≤ p.MinSig_ ∧ p.MinSig_ ≤ 40) ∧ (0 ≤ p.MaxSig_ ∧ p.MaxSig_ ≤ 40) ∧ (0 ≤ p.Exp_ ∧ p.Exp_ ≤ 40)
theorem number_text {p : St23} (hp : cntP p) : Tot (exergueref10_Number p) (fun l => l.length ≤ 8000) := by
 obtain ⟨c1, c2, c3, c4, c5, c6, c7, c8, c9⟩ := hp
 unfold exergueref10_Number
 have e0 : IntKind.wrap .i64 (p.Hash_ + p.MinInt_) = p.Hash_ + p.MinInt_ := w64 (by omega) (by omega)
 have e1 : IntKind.wrap .i64 (p.MaxSig_ - p.MinSig_) = p.MaxSig_ - p.MinSig_ := w64 (by omega) (by omega)
 have e2 : IntKind.wrap .i64 (p.MaxFrac_ - p.MinFrac_) = p.MaxFrac_ - p.MinFrac_ := w64 (by omega) (by omega)
 rw [e0, e1, e2]
 refine Tot.bind (p := fun l => l.length ≤ 200) ?_ (fun a ha => ?_)
 ·refine Tot.loop (fun s : List UInt8 × Int => 0 ≤ s.2 ∧ s.2 ≤ 80 ∧ (s.1.length : Int) ≤ 2 * s.2) (fun s => (80 - s.2).toNat) ⟨by simp only; omega, by simp only; omega, by simp⟩ (by simp only; omega) (fun s hs => ?_)
  refine Tot.ite (fun hq => ?_) (fun _ => Tot.ret (by simp only; omega))
  have hq := dTT hq
  have f1 : IntKind.wrap .i64 (s.2 + 1) = s.2 + 1 := w64 (by omega) (by omega)
  rw [f1]
  refine Tot.bind (p := fun l => (l.length : Int) ≤ s.1.length + 2) ?_ (fun b hb => Tot.ret ⟨⟨by simp only; omega, by simp only; omega, by simp only; omega⟩, by simp only; omega⟩)
  refine Tot.bind (p := fun l => (l.length : Int) ≤ s.1.length + 1) ?_ (fun b hb => ?_)
  ·refine Tot.bind (p := fun _ => True) ?_ (fun g _ => Tot.ite (fun _ => Tot.yes (room_of (by simp; omega)) (Tot.ret (by simp))) (fun _ => Tot.ret (by omega)))
   refine Tot.ite (fun _ => Tot.ite (fun _ => Tot.ret trivial) (fun _ => Tot.ite (fun _ => Tot.ite (fun hg => ?_) (fun _ => Tot.ret trivial)) (fun _ => Tot.ret trivial))) (fun _ => Tot.ret trivial)
   have hg := dTT hg
   exact Tot.yes (by unfold nz; rw [dF (by omega)]; rfl) (Tot.ret trivial)
  ·exact Tot.ite (fun _ => Tot.yes (room_of (by simp; omega)) (Tot.ret (by simp; omega))) (fun _ => Tot.yes (room_of (by simp; omega)) (Tot.ret (by simp; omega)))
 ·refine Tot.bind (times_tot (by simp) (by omega)) (fun b hb => Tot.bind (times_tot (by simp) (by omega)) (fun c hc => ?_))
  refine Tot.yes (room_of (by omega)) (Tot.yes (room_of (by simp; omega)) ?_)
  refine Tot.bind (p := fun l => l.length ≤ 5000) ?_ (fun d hd => ?_)
  ·refine Tot.ite (fun _ => Tot.yes (room_of (by simp; omega)) (Tot.bind (times_tot (by simp) (by omega)) (fun e he => Tot.yes (room_of (by simp; omega)) (Tot.bind (times_tot (by simp) (by omega)) (fun f hf => Tot.yes (room_of (by simp; omega)) (Tot.ret (by simp; omega))))))) (fun _ => Tot.ret (by simp; omega))
  ·refine Tot.bind (p := fun l => l.length ≤ 8000) ?_ (fun d hd => Tot.ret hd)
   refine Tot.ite (fun _ => Tot.yes (room_of (by simp; omega)) (Tot.bind (p := fun l => l.length ≤ 5002) ?_ (fun e he => Tot.bind (times_tot (by simp) (by omega)) (fun f hf => Tot.yes (room_of (by omega)) (Tot.ret (by simp; omega)))))) (fun _ => Tot.ret (by omega))
   exact Tot.ite (fun _ => Tot.yes (room_of (by simp; omega)) (Tot.ret (by simp; omega))) (fun _ => Tot.ret (by simp; omega))
theorem written_tot {l : List St33} (hl : l.length ≤ 300) : Tot (exergueref10_written l) (fun t => t.length ≤ 3000) := by
 unfold exergueref10_written
 refine Tot.bind (p := fun s => s.1.length ≤ 2999) ?_ (fun s hs => Tot.bind (p := fun t => t.length ≤ 3000) (Tot.ite (fun _ => Tot.yes (room_of (by simp; omega)) (Tot.ret (by simp; omega))) (fun _ => Tot.ret (by omega))) (fun _ h => Tot.ret h))
 refine Tot.loop (fun s : List UInt8 × Bool × Int => 0 ≤ s.2.2 ∧ s.2.2 ≤ (l.length : Int) ∧ (s.1.length : Int) ≤ 8 * s.2.2) (fun s => ((l.length : Int) - s.2.2).toNat) ⟨by simp only; omega, by simp only; omega, by simp⟩ (by simp only; omega) (fun s hs => ?_)
 refine Tot.ite (fun hq => ?_) (fun _ => Tot.ret (by simp only; omega))
 have hq := dTT hq
 have hin := inR_int hs.1 hq
 have f1 : IntKind.wrap .i64 (s.2.2 + 1) = s.2.2 + 1 := w64 (by omega) (by omega)
 rw [f1]
 refine Tot.bind (p := fun t => (t.1.length : Int) ≤ s.1.length + 8) ?_ (fun t ht => Tot.ret ⟨⟨by simp only; omega, by simp only; omega, by simp only; omega⟩, by simp only; omega⟩)
 refine Tot.yes hin (Tot.bind (special_tot _) (fun sp _ => Tot.bind (p := fun _ => True) ?_ (fun ap _ => Tot.bind (p := fun _ => True) ?_ (fun qu _ => Tot.bind (p := fun t => (t.1.length : Int) ≤ s.1.length + 1) ?_ (fun t ht => ?_)))))
 ·exact Tot.yes hin (Tot.ite (fun _ => Tot.yes hin (Tot.ret trivial)) (fun _ => Tot.ret trivial))
 ·exact Tot.yes hin (Tot.ite (fun _ => Tot.ret trivial) (fun _ => Tot.ret trivial))
 ·exact Tot.bind (p := fun _ => True) (Tot.ite (fun _ => Tot.ret trivial) (fun _ => Tot.ret trivial)) (fun _ _ => Tot.ite (fun _ => Tot.yes (room_of (by simp; omega)) (Tot.ret (by simp))) (fun _ => Tot.ret (by simp only; omega)))
 ·have sgn : ∀ c : UInt8, Tot (bif room (t.1.length + ([c] : List UInt8).length) then (some ((t.1 ++ ([c] : List UInt8)), t.2)) else none) (fun u => (u.1.length : Int) ≤ s.1.length + 8) := fun c => Tot.yes (room_of (by simp; omega)) (Tot.ret (by simp; omega))
  refine Tot.yes hin (Tot.ite (fun _ => Tot.yes hin (Tot.bind (text_tot _) (fun x hx => Tot.yes (room_of (by omega)) (Tot.ite (fun _ => Tot.yes (room_of (by simp; omega)) (Tot.ret (by simp; omega))) (fun _ => Tot.ret (by simp; omega)))))) (fun _ => Tot.ite (fun _ => sgn _) (fun _ => Tot.ite (fun _ => sgn _) (fun _ => Tot.ite (fun _ => sgn _) (fun _ => Tot.ite (fun _ => ?_) (fun _ => Tot.ret (by simp only; omega)))))))
  exact Tot.bind (text_tot _) (fun x hx => Tot.yes (room_of (by omega)) (Tot.ret (by simp; omega)))
theorem padded_tot (p : St23) (w : Int) : Tot (exergueref10_padded p w) (fun t => t.length ≤ 5) := by
 unfold exergueref10_padded
 exact Tot.ite (fun _ => Tot.bind (text_tot _) (fun x hx => Tot.yes (room_of (by simp; omega)) (Tot.ret (by simp; omega)))) (fun _ => Tot.ret (by simp))
theorem ptext_tot {p : St23} (hp : cntP p) (h1 : p.Pre_.length ≤ 300) (h2 : p.Suf_.length ≤ 300) (h3 : p.NPre_.length ≤ 300) (h4 : p.NSuf_.length ≤ 300) : Tot (exergueref10_Text p) (fun t => t.length ≤ 50000) := by
 unfold exergueref10_Text
 refine Tot.bind (padded_tot p 1) (fun a ha => Tot.bind (written_tot h1) (fun b hb => Tot.yes (room_of (by omega)) ?_))
 refine Tot.bind (padded_tot p 2) (fun c hc => Tot.yes (room_of (by simp; omega)) (Tot.bind (number_text hp) (fun d hd => Tot.yes (room_of (by simp; omega)) ?_)))
 refine Tot.bind (padded_tot p 3) (fun e he => Tot.yes (room_of (by simp; omega)) (Tot.bind (written_tot h2) (fun f hf => Tot.yes (room_of (by simp; omega)) ?_)))
 refine Tot.bind (padded_tot p 4) (fun g hg => Tot.yes (room_of (by simp; omega)) ?_)
 refine Tot.bind (p := fun t => t.length ≤ 50000) ?_ (fun _ h => Tot.ret h)
 refine Tot.ite (fun _ => ?_) (fun _ => Tot.ret (by simp; omega))
 refine Tot.yes (room_of (by simp; omega)) (Tot.bind (written_tot h3) (fun i hi => Tot.yes (room_of (by simp; omega)) (Tot.bind (number_text hp) (fun j hj => Tot.yes (room_of (by simp; omega)) (Tot.bind (written_tot h4) (fun k hk => Tot.yes (room_of (by simp; omega)) (Tot.ret (by simp; omega))))))))
theorem parse_tot {t : List UInt8} (ht : t.length ≤ 100000) : Tot (exergueref10_Parse t) (fun o => o.2.2 = 0 → canon (numsP o.1)) := by
 unfold exergueref10_Parse
 refine Tot.bind (decode_tot (by rw [bytesI_len]; exact ht)) (fun d _ => Tot.ite (fun _ => Tot.ret (fun h => by cases h)) (fun _ => Tot.ite (fun _ => Tot.ret (fun h => by cases h)) (fun h1 => ?_)))
 have h1 := dFF h1
 have hl : d.1.length ≤ 10000 := by omega
 refine Tot.bind (first_tot hl) (fun f hf => ?_)
 refine Tot.bind (p := fun s => s.2.1 = true → canon (s.2.2.2.2.2.2.2.1, s.2.2.2.2.2.2.2.2.1, s.2.2.2.2.2.2.2.2.2.1, s.2.2.2.2.2.2.2.2.2.2.1, s.2.2.2.2.2.2.2.2.2.2.2.1, s.2.2.2.2.2.2.2.2.2.2.2.2.1, s.2.2.2.2.2.2.2.2.2.2.2.2.2.1, s.2.2.2.2.2.2.2.2.2.2.2.2.2.2.1, s.2.2.2.2.2.2.2.2.2.2.2.2.2.2.2.1, s.2.2.2.2.2.2.2.2.2.2.2.2.2.2.2.2.1)) ?_ (fun s hs => ?_)
 ·refine Tot.bind (p := fun b => b = true → f.2.2.2.2 = true ∧ f.2.2.2.1 < d.1.length) ?_ (fun b hb => ?_)
  ·refine Tot.ite (fun hq => ?_) (fun _ => Tot.ret (fun h => by cases h))
   rw [at_eq2 (hf hq).2.2.2.1]
   exact Tot.ret (fun h => ⟨hq, at_in (dTT h) (by omega)⟩)
  ·refine Tot.ite (fun hq => ?_) (fun _ => Tot.ret (fun h => (hf h).1))
   obtain ⟨g1, g2⟩ := hb hq
   have g := hf g1
   have f1 : IntKind.wrap .i64 (f.2.2.2.1 + 1) = f.2.2.2.1 + 1 := w64 (by omega) (by omega)
   rw [f1]
   exact Tot.bind (second_tot hl (by omega) (by omega) g.2.1 g.2.2.1) (fun o ho => Tot.ret (fun _ => by have g0 := g.1; rw [← ho] at g0; exact g0))
 ·refine Tot.join (Tot.bind (p := fun b => b = false → s.2.1 = true) (Tot.ite (fun _ => Tot.ret (fun h => by cases h)) (fun h => Tot.ret (fun _ => by simpa using h))) (fun b hb => ?_))
  cases b with
  | true => exact Tot.ret (fun h => by cases h)
  | false =>
   have hs := hs (hb rfl)
   refine Tot.ret (show Tot _ _ from Tot.join (Tot.bind (p := fun _ => True) ?_ (fun b _ => ?_)))
   ·repeat' (first | exact Tot.ret trivial | refine Tot.ite (fun _ => ?_) (fun _ => ?_))
   ·cases b with
    | true => exact Tot.ret (fun h => by cases h)
    | false => exact Tot.ret (Tot.ret (fun _ => hs))
theorem toks_eq {x y : List St33} (hl : x.length ≤ 4611686018427387904) : exergueref10_Toks x y = some (decide (x = y)) := tok_eq hl
theorem rsame_eq {a b : St23} (hl : lens a) : exergueref10_Same a b = some (decide (a = b)) := by
 obtain ⟨l1, l2, l3, l4⟩ := hl
 unfold exergueref10_Same
 rw [toks_eq l1, toks_eq l2, toks_eq l3, toks_eq l4]
 simp only [Option.bind_some]
 obtain ⟨p1, p2, p3, p4, p5, p6, p7, p8, p9, p10, p11, p12, p13, p14, p15, p16, p17⟩ := a
 obtain ⟨q1, q2, q3, q4, q5, q6, q7, q8, q9, q10, q11, q12, q13, q14, q15, q16, q17⟩ := b
 simp only [St23.mk.injEq]
 by_cases h1 : p1 = q1
 ·by_cases h2 : p2 = q2
  ·by_cases h3 : p3 = q3
   ·by_cases h4 : p4 = q4
    ·by_cases h16 : p16 = q16
     ·by_cases h17 : p17 = q17
      ·by_cases h6 : p6 = q6 <;> by_cases h7 : p7 = q7 <;> by_cases h10 : p10 = q10 <;> by_cases h11 : p11 = q11 <;> cases p5 <;> cases q5 <;> cases p15 <;> cases q15 <;> simp [h1, h2, h3, h4, h6, h7, h10, h11, h16, h17, joinX] <;> (by_cases h8 : p8 = q8 <;> by_cases h9 : p9 = q9 <;> by_cases h12 : p12 = q12 <;> by_cases h13 : p13 = q13 <;> simp [h8, h9, h12, h13])
      ·cases p5 <;> cases q5 <;> simp [h1, h2, h3, h4, h16, h17, joinX]
     ·cases p5 <;> cases q5 <;> simp [h1, h2, h3, h4, h16, joinX]
    ·simp [h1, h2, h3, h4, joinX]
   ·simp [h1, h2, h3, joinX]
  ·by_cases h3 : p3 = q3 <;> simp [h1, h2, h3, joinX]
 ·by_cases h3 : p3 = q3 <;> simp [h1, h3, joinX]
/-! The text of a number. -/
theorem rune_ascii {c : Int} (h0 : 0 ≤ c) (h1 : c < 128) : (Utf8.encode c).data.toList = [UInt8.ofNat c.toNat] := by
 have hv : Utf8.valid c = true := by
  unfold Utf8.valid
  simp only [Bool.or_eq_true, Bool.and_eq_true, decide_eq_true_eq]
  exact .inl ⟨h0, by omega⟩
 unfold Utf8.encode
 simp only [hv, if_true]
 rw [if_pos (by omega)]
def asc (l : List Int) : Prop := ∀ c ∈ l, 0 ≤ c ∧ c < 128
theorem runes_ascii : ∀ {l : List Int}, asc l → runesS l = bytesS l
 | [], _ => rfl
 | c :: l, h => by
  have h1 := h c (List.mem_cons_self ..)
  have ih := runes_ascii (l := l) (fun x hx => h x (List.mem_cons_of_mem _ hx))
  unfold runesS bytesS at *
  rw [List.flatMap_cons, ih, rune_ascii h1.1 h1.2]; rfl
theorem some_eq {n : Int} (h0 : 0 ≤ n) (h1 : n ≤ 121) : pat_some n = some n := by
 unfold pat_some maxI minI
 congr 1
 repeat' split
 all_goals omega
theorem repeat_eq {out : List Int} {c n : Int} (h0 : 0 ≤ n) (h1 : n ≤ 121) (ho : out.length ≤ 1000000) : pat_repeat out c n = some (out ++ List.replicate n.toNat c) := by
 unfold pat_repeat
 rw [some_eq h0 h1]
 simp only [Option.bind_some]
 obtain ⟨m, rfl⟩ : ∃ m : Nat, n = m := ⟨n.toNat, by omega⟩
 have hm : m ≤ 121 := by omega
 obtain ⟨o, h2, h3⟩ := loop_count (step := fun (s33 : Int × (List Int)) => (bif (decide (s33.1 < (m : Int))) then (bif room (s33.2.length + ([c] : List Int).length) then (some (.inl ((IntKind.wrap .i64 (s33.1 + 1)), (s33.2 ++ ([c] : List Int))))) else none) else (some (.inr s33.2)))) m (fun i => ((i : Int), out ++ List.replicate i c)) (fun _ => True) (fun o => o = out ++ List.replicate m c) (s0 := (0, out)) (by simp) trivial (fun i hi _ => by
  left
  refine ⟨?_, trivial⟩
  simp only
  rw [dT (by omega), room_of (by simp; omega), w64 (by omega) (by omega)]
  simp only [cond_true]
  congr 1
  rw [List.append_assoc, ← List.replicate_succ']
  rfl) (fun _ => ⟨out ++ List.replicate m c, by simp only; rw [dF (by omega)]; rfl, rfl⟩) (by omega)
 rw [h2, h3]
 simp
def grpB (g1 g2 n : Int) : Bool := decide (1 ≤ g1) && (decide (g1 ≤ n) && (decide (n = g1) || (decide (0 < g2) && decide ((n - g1) % g2 = 0))))
theorem grouped_eq {p : St23} {n : Int} (h0 : 0 ≤ n) (h1 : n ≤ 1000) (hc : 0 ≤ p.G1_ ∧ p.G1_ ≤ 40) (hc2 : 0 ≤ p.G2_ ∧ p.G2_ ≤ 40) : pat_grouped p n = some (grpB p.G1_ p.G2_ n) := by
 unfold pat_grouped grpB
 by_cases c1 : p.G1_ < 1
 ·rw [dT c1, dF (show ¬ 1 ≤ p.G1_ by omega)]; rfl
 ·rw [dF c1, dT (show 1 ≤ p.G1_ by omega)]
  by_cases c2 : n < p.G1_
  ·rw [dT c2, dF (show ¬ p.G1_ ≤ n by omega)]; rfl
  ·rw [dF c2, dT (show p.G1_ ≤ n by omega)]
   by_cases c3 : n = p.G1_
   ·rw [dT c3]; rfl
   ·rw [dF c3]
    by_cases c4 : p.G2_ > 0
    ·rw [dT c4, w64 (n := n - p.G1_) (by omega) (by omega)]
     have hz : nz p.G2_ = true := by unfold nz; rw [dF (by omega)]; rfl
     rw [hz, Int.tmod_eq_emod_of_nonneg (by omega)]
     simp [joinX]
    ·rw [dF c4]; simp [joinX]
def plc (g1 g2 : Int) (t ha : Nat) (i : Nat) : List Int := (if 0 < i ∧ grpB g1 g2 ((t : Int) - i) = true then [44] else []) ++ [if i < ha then 35 else 48]
def plcs (g1 g2 : Int) (t ha n : Nat) : List Int := (List.range n).flatMap (plc g1 g2 t ha)
theorem plcs_succ (g1 g2 : Int) (t ha n : Nat) : plcs g1 g2 t ha (n + 1) = plcs g1 g2 t ha n ++ plc g1 g2 t ha n := by
 unfold plcs; rw [List.range_succ, List.flatMap_append]; simp
theorem plc_len (g1 g2 : Int) (t ha i : Nat) : (plc g1 g2 t ha i).length ≤ 2 := by
 unfold plc; split <;> simp
theorem plcs_len (g1 g2 : Int) (t ha : Nat) : ∀ n, (plcs g1 g2 t ha n).length ≤ 2 * n
 | 0 => by simp [plcs]
 | n + 1 => by
  rw [plcs_succ, List.length_append]
  have := plcs_len g1 g2 t ha n
  have := plc_len g1 g2 t ha n
  omega
theorem places_eq {p : St23} {out : List Int} {ha mi : Nat} (hh : p.Hash_ = ha) (hm : p.MinInt_ = mi) (h1 : ha ≤ 40) (h2 : mi ≤ 40) (hc : 0 ≤ p.G1_ ∧ p.G1_ ≤ 40) (hc2 : 0 ≤ p.G2_ ∧ p.G2_ ≤ 40) (ho : out.length ≤ 1000000) :
  pat_places out p = some (out ++ plcs p.G1_ p.G2_ (ha + mi) ha (ha + mi)) := by
 unfold pat_places
 rw [hh, hm, some_eq (by omega) (by omega), some_eq (by omega) (by omega)]
 simp only [Option.bind_some]
 rw [w64 (n := (ha : Int) + mi) (by omega) (by omega)]
 generalize hst : (fun (s357 : Int × (List Int)) => (bif (decide (s357.1 < (ha : Int) + mi)) then (Option.bind (Option.bind (Option.bind (bif (decide (s357.1 > 0)) then (Option.bind (pat_grouped p ((IntKind.wrap .i64 ((ha : Int) + mi - s357.1)))) fun y688 => (some y688)) else (some false)) fun (s680 : Bool) => (bif s680 then (bif room (s357.2.length + ([44] : List Int).length) then (some (s357.2 ++ ([44] : List Int))) else none) else (some s357.2))) fun (s669 : (List Int)) => (bif (decide (s357.1 < (ha : Int))) then (bif room (s669.length + ([35] : List Int).length) then (some (s669 ++ ([35] : List Int))) else none) else (bif room (s669.length + ([48] : List Int).length) then (some (s669 ++ ([48] : List Int))) else none))) fun (s643 : (List Int)) => (some (.inl ((IntKind.wrap .i64 (s357.1 + 1)), s643) : (Int × List Int) ⊕ List Int))) else (some (.inr s357.2)))) = step
 obtain ⟨o, g2, g3⟩ := loop_count (step := step) (ha + mi) (fun i => ((i : Int), out ++ plcs p.G1_ p.G2_ (ha + mi) ha i)) (fun _ => True) (fun o => o = out ++ plcs p.G1_ p.G2_ (ha + mi) ha (ha + mi)) (s0 := (0, out)) (by simp [plcs]) trivial (fun i hi _ => by
  left
  refine ⟨?_, trivial⟩
  subst hst
  have hl := plcs_len p.G1_ p.G2_ (ha + mi) ha i
  generalize hP : plcs p.G1_ p.G2_ (ha + mi) ha i = P at hl
  simp only
  rw [dT (show (i : Int) < (ha : Int) + mi by omega), w64 (n := (ha : Int) + mi - i) (by omega) (by omega), grouped_eq (by omega) (by omega) hc hc2, w64 (n := (i : Int) + 1) (by omega) (by omega), plcs_succ, hP]
  have hrm : ∀ (x : List Int) (c : Int), x.length ≤ 1000300 → room (x.length + ([c] : List Int).length) = true := fun x c hx => room_of (by simp; omega)
  have hPl : (out ++ P).length ≤ 1000200 := by simp; omega
  have hcast : ((ha + mi : Nat) : Int) - i = (ha : Int) + mi - i := by omega
  unfold plc
  rw [hcast]
  simp only [cond_true]
  generalize hgb : grpB p.G1_ p.G2_ ((ha : Int) + mi - i) = gb
  have hA : (Option.bind (bif (decide ((i : Int) > 0)) then (Option.bind (some gb) fun y688 => (some y688)) else (some false)) fun (s680 : Bool) => (bif s680 then (bif room ((out ++ P).length + ([44] : List Int).length) then (some (out ++ P ++ ([44] : List Int))) else none) else (some (out ++ P)))) = some (out ++ P ++ (if 0 < i ∧ gb = true then [44] else [])) := by
   by_cases c0 : 0 < i
   ·rw [dT (show (i : Int) > 0 by omega), hrm _ _ (by omega)]
    cases gb <;> simp [c0]
   ·rw [dF (show ¬ (i : Int) > 0 by omega), if_neg (fun h => c0 h.1)]; simp
  rw [hA]
  simp only [Option.bind_some]
  have hL : (out ++ P ++ (if 0 < i ∧ gb = true then [44] else [])).length ≤ 1000300 := by
   rw [List.length_append]
   have : (if 0 < i ∧ gb = true then ([44] : List Int) else []).length ≤ 1 := by split <;> simp
   omega
  rw [hrm _ _ hL, hrm _ _ hL]
  by_cases c1 : i < ha
  ·rw [dT (show (i : Int) < ha by omega), if_pos c1]
   simp [List.append_assoc]
  ·rw [dF (show ¬ (i : Int) < ha by omega), if_neg c1]
   simp [List.append_assoc]) (fun _ => ⟨_, by subst hst; simp only; rw [dF (by omega)]; rfl, rfl⟩) (by omega)
 rw [g2, g3]
 rfl
def sgL (p : St23) : List Int := List.replicate p.MinSig_.toNat 64 ++ List.replicate (p.MaxSig_ - p.MinSig_).toNat 35
def frL (p : St23) : List Int := if p.MaxFrac_ = 0 then [] else 46 :: (List.replicate p.MinFrac_.toNat 48 ++ List.replicate (p.MaxFrac_ - p.MinFrac_).toNat 35)
def exL (p : St23) : List Int := if p.Exp_ = 0 then [] else 69 :: ((if p.ExpPlus_ = true then [43] else []) ++ List.replicate p.Exp_.toNat 48)
def plL (p : St23) : List Int := plcs p.G1_ p.G2_ (p.Hash_ + p.MinInt_).toNat p.Hash_.toNat (p.Hash_ + p.MinInt_).toNat
def numL (p : St23) : List Int := (if 0 < p.MinSig_ then sgL p else plL p ++ frL p) ++ exL p
theorem number_eq {p : St23} (hc : cntP p) (hn : canon (numsP p)) : pat_number p = some (numL p) ∧ (numL p).length ≤ 400 := by
 obtain ⟨⟨a1, a2⟩, ⟨b1, b2⟩, ⟨c1, c2⟩, ⟨d1, d2⟩, e1, f1, ⟨g1, g2⟩, ⟨h1, h2⟩, ⟨i1, i2⟩⟩ := hc
 obtain ⟨n1, n2, n3, n4, n5, n6, n7, n8, n9, n10, n11⟩ := hn
 have hpl : (plL p).length ≤ 160 := by
  have := plcs_len p.G1_ p.G2_ (p.Hash_ + p.MinInt_).toNat p.Hash_.toNat (p.Hash_ + p.MinInt_).toNat
  unfold plL; omega
 have hfr : (frL p).length ≤ 90 := by unfold frL; split <;> simp; omega
 have hsg : (sgL p).length ≤ 90 := by unfold sgL; simp; omega
 have hex : (exL p).length ≤ 50 := by
  unfold exL; split
  ·simp
  ·split <;> simp <;> omega
 have hlen : (numL p).length ≤ 400 := by
  unfold numL
  rw [List.length_append]
  split
  ·omega
  ·rw [List.length_append]; omega
 refine ⟨?_, hlen⟩
 unfold pat_number
 have hE : ∀ s : List Int, s.length ≤ 1000 → (Option.bind (bif (decide (¬ p.Exp_ = 0)) then (bif room (s.length + ([69] : List Int).length) then (Option.bind (bif p.ExpPlus_ then (bif room ((s ++ ([69] : List Int)).length + ([43] : List Int).length) then (some (((s ++ ([69] : List Int)) ++ ([43] : List Int)))) else none) else (some (s ++ ([69] : List Int)))) fun (s117 : (List Int)) => (Option.bind (pat_repeat s117 48 p.Exp_) fun y126 => (some y126))) else none) else (some s)) fun (s104 : (List Int)) => (some s104)) = some (s ++ exL p) := by
  intro s hs
  unfold exL
  by_cases h0 : p.Exp_ = 0
  ·rw [dF (fun h => h h0), if_pos h0]; simp
  ·rw [dT h0, if_neg h0, room_of (by simp; omega), room_of (by simp; omega)]
   cases hep : p.ExpPlus_ with
   | true =>
    simp only [cond_true, Option.bind_some]
    rw [repeat_eq (by omega) (by omega) (by simp; omega)]
    simp
   | false =>
    simp only [cond_true, cond_false, Option.bind_some]
    rw [repeat_eq (by omega) (by omega) (by simp; omega)]
    simp
 by_cases hs : 0 < p.MinSig_
 ·have hA : (Option.bind (bif (decide (p.MinSig_ > 0)) then (some true) else (some (decide (p.MaxSig_ > 0)))) fun (s48 : Bool) => (bif s48 then (Option.bind (pat_repeat ([] : List Int) 64 p.MinSig_) fun y59 => (Option.bind (pat_some p.MinSig_) fun y62 => (Option.bind (pat_repeat y59 35 (IntKind.wrap .i64 (p.MaxSig_ - y62))) fun y65 => (some y65)))) else (Option.bind (pat_places ([] : List Int) p) fun y68 => (bif (decide (¬ p.MaxFrac_ = 0)) then (bif room (y68.length + ([46] : List Int).length) then (Option.bind (pat_repeat (y68 ++ ([46] : List Int)) 48 p.MinFrac_) fun y75 => (Option.bind (pat_some p.MinFrac_) fun y78 => (Option.bind (pat_repeat y75 35 (IntKind.wrap .i64 (p.MaxFrac_ - y78))) fun y81 => (some y81)))) else none) else (some y68))))) = some (sgL p) := by
   rw [dT hs, repeat_eq (by omega) (by omega) (by simp), some_eq (by omega) (by omega)]
   simp only [cond_true, Option.bind_some]
   rw [w64 (n := p.MaxSig_ - p.MinSig_) (by omega) (by omega), repeat_eq (by omega) (by omega) (by simp; omega)]
   simp [sgL]
  rw [hA]
  refine (hE (sgL p) (by omega)).trans ?_
  unfold numL
  rw [if_pos hs]
 ·have hs0 : p.MinSig_ = 0 := by omega
  have hx0 := (n9 hs0).1
  have hA : (Option.bind (bif (decide (p.MinSig_ > 0)) then (some true) else (some (decide (p.MaxSig_ > 0)))) fun (s48 : Bool) => (bif s48 then (Option.bind (pat_repeat ([] : List Int) 64 p.MinSig_) fun y59 => (Option.bind (pat_some p.MinSig_) fun y62 => (Option.bind (pat_repeat y59 35 (IntKind.wrap .i64 (p.MaxSig_ - y62))) fun y65 => (some y65)))) else (Option.bind (pat_places ([] : List Int) p) fun y68 => (bif (decide (¬ p.MaxFrac_ = 0)) then (bif room (y68.length + ([46] : List Int).length) then (Option.bind (pat_repeat (y68 ++ ([46] : List Int)) 48 p.MinFrac_) fun y75 => (Option.bind (pat_some p.MinFrac_) fun y78 => (Option.bind (pat_repeat y75 35 (IntKind.wrap .i64 (p.MaxFrac_ - y78))) fun y81 => (some y81)))) else none) else (some y68))))) = some (plL p ++ frL p) := by
   obtain ⟨ha, hha⟩ : ∃ m : Nat, p.Hash_ = m := ⟨p.Hash_.toNat, by omega⟩
   obtain ⟨mi, hmi⟩ : ∃ m : Nat, p.MinInt_ = m := ⟨p.MinInt_.toNat, by omega⟩
   have hpe : plL p = plcs p.G1_ p.G2_ (ha + mi) ha (ha + mi) := by
    unfold plL; rw [hha, hmi, show ((ha : Int) + mi).toNat = ha + mi by omega, show (ha : Int).toNat = ha by omega]
   rw [dF hs, dF (show ¬ p.MaxSig_ > 0 by omega), places_eq (out := []) hha hmi (by omega) (by omega) e1 f1 (by simp)]
   simp only [cond_false, Option.bind_some, List.nil_append]
   rw [← hpe]
   unfold frL
   by_cases h0 : p.MaxFrac_ = 0
   ·rw [dF (fun h => h h0), if_pos h0]; simp
   ·rw [dT h0, if_neg h0, room_of (by simp; omega), repeat_eq (by omega) (by omega) (by simp; omega), some_eq (by omega) (by omega)]
    simp only [cond_true, Option.bind_some]
    rw [w64 (n := p.MaxFrac_ - p.MinFrac_) (by omega) (by omega), repeat_eq (by omega) (by omega) (by simp; omega)]
    simp
  rw [hA]
  refine (hE (plL p ++ frL p) (by rw [List.length_append]; omega)).trans ?_
  unfold numL
  rw [if_neg hs]
theorem asc_plcs (g1 g2 : Int) (t ha n : Nat) : asc (plcs g1 g2 t ha n) := by
 intro c hc
 unfold plcs at hc
 obtain ⟨i, _, hi⟩ := List.mem_flatMap.1 hc
 unfold plc at hi
 rcases List.mem_append.1 hi with h | h
 ·split at h
  ·simp at h; subst h; omega
  ·simp at h
 ·simp at h; subst h; split <;> omega
theorem asc_num (p : St23) : asc (numL p) := by
 intro c hc
 unfold numL at hc
 rcases List.mem_append.1 hc with h | h
 ·split at h
  ·unfold sgL at h
   rcases List.mem_append.1 h with h | h <;> (have := List.eq_of_mem_replicate h; omega)
  ·rcases List.mem_append.1 h with h | h
   ·exact asc_plcs _ _ _ _ _ c h
   ·unfold frL at h
    split at h
    ·simp at h
    ·rcases List.mem_cons.1 h with h | h
     ·omega
     ·rcases List.mem_append.1 h with h | h <;> (have := List.eq_of_mem_replicate h; omega)
 ·unfold exL at h
  split at h
  ·simp at h
  ·rcases List.mem_cons.1 h with h | h
   ·omega
   ·rcases List.mem_append.1 h with h | h
    ·split at h
     ·simp at h; omega
     ·simp at h
    ·have := List.eq_of_mem_replicate h; omega
theorem numText_eq {p : St23} (hc : cntP p) (hn : canon (numsP p)) : pat_Number p = some (bytesS (numL p)) := by
 unfold pat_Number
 rw [(number_eq hc hn).1]
 simp only [Option.bind_some]
 rw [runes_ascii (asc_num p)]
/-! What the reader's steps come to. -/
section
variable {l : List Int} {a3 a4 a5 a6 a7 a8 : Int} {b8 b9 : List St33} {b : Bool}
theorem is_at {c on i : Int} (hl : l.length ≤ 10000) (h0 : 0 ≤ i + on) (h1 : i + on ≤ 20000) (hc : c ≠ -1) : pat_reader__is_s0 c on l i a3 a4 a5 a6 a7 = some (decide (atV l (i + on) = c)) := by
 unfold pat_reader__is_s0 atV
 rw [w64 (n := i + on) (by omega) (by omega)]
 by_cases h : i + on < l.length
 ·rw [dT h, inR_int h0 h, if_pos h]; rfl
 ·rw [dF h, if_neg h, dF (show ¬ (-1 : Int) = c by omega)]; rfl
theorem eat_at {c i : Int} (hl : l.length ≤ 10000) (h0 : 0 ≤ i) (h1 : i ≤ 20000) (hc : c ≠ -1) : pat_reader__eat_s0 c l i a3 a4 a5 a6 a7 = some (if atV l i = c then (true, i + 1) else (false, i)) := by
 unfold pat_reader__eat_s0
 rw [is_at hl (by omega) (by omega) hc, Int.add_zero, w64 (n := i + 1) (by omega) (by omega)]
 by_cases h : atV l i = c
 ·rw [dT h, if_pos h]; rfl
 ·rw [dF h, if_neg h]; rfl
def Mn (l : List Int) (i c n : Int) : Prop := 0 ≤ n ∧ (∀ j, 0 ≤ j → j < n → atV l (i + j) = c) ∧ atV l (i + n) ≠ c
theorem Mn.unique {i c n m : Int} (h : Mn l i c n) (h' : Mn l i c m) : n = m := by
 obtain ⟨a1, a2, a3⟩ := h
 obtain ⟨b1, b2, b3⟩ := h'
 rcases Int.lt_trichotomy n m with hlt | heq | hgt
 ·exact absurd (b2 n a1 hlt) a3
 ·exact heq
 ·exact absurd (a2 m b1 hgt) b3
theorem many_at {c i : Int} (hl : l.length ≤ 10000) (h0 : 0 ≤ i) (h1 : i ≤ l.length) (hc : c ≠ -1) : ∃ n, pat_reader__many_s0 c l i a3 a4 a5 a6 a7 = some (n, i + n) ∧ Mn l i c n ∧ i + n ≤ l.length := by
 unfold pat_reader__many_s0
 obtain ⟨o, h2, h3, h4, h5, h6⟩ := loop_var (step := fun (s33 : Int × Int) => (Option.bind (pat_reader__eat_s0 c l s33.2 a3 a4 a5 a6 a7) fun y52 => (bif y52.1 then (some (.inl ((IntKind.wrap .i64 (s33.1 + 1)), y52.2))) else (some (.inr (s33.1, y52.2)))))) (fun s => s.2 = i + s.1 ∧ 0 ≤ s.1 ∧ s.2 ≤ l.length ∧ ∀ j, 0 ≤ j → j < s.1 → atV l (i + j) = c) (fun s => ((l.length : Int) - s.2).toNat) (fun o => o.2 = i + o.1 ∧ 0 ≤ o.1 ∧ o.2 ≤ l.length ∧ Mn l i c o.1) (s0 := (0, i)) ⟨by simp, by simp, h1, fun j a b => by simp only at b; omega⟩ (by simp only; omega) (fun s hs => by
  obtain ⟨s1, s2⟩ := s
  obtain ⟨q1, q2, q3, q4⟩ := hs
  simp only at q1 q2 q3 q4 ⊢
  rw [eat_at hl (by omega) (by omega) hc]
  by_cases h : atV l s2 = c
  ·left
   have hin := at_in h hc
   rw [if_pos h, w64 (n := s1 + 1) (by omega) (by omega)]
   refine ⟨(s1 + 1, s2 + 1), rfl, ⟨by simp only; omega, by simp only; omega, by simp only; omega, fun j a b => ?_⟩, by simp only; omega⟩
   by_cases hj : j < s1
   ·exact q4 j a hj
   ·rw [show i + j = s2 by simp only at b; omega]; exact h
  ·right
   rw [if_neg h]
   exact ⟨(s1, s2), rfl, q1, q2, q3, q2, q4, by rw [← q1]; exact h⟩)
 rw [h2]
 obtain ⟨o1, o2⟩ := o
 simp only at h3 h4 h5 h6 ⊢
 subst h3
 exact ⟨o1, rfl, h6, h5⟩
def plAt (l : List Int) (i mi : Int) : Prop := atV l i = 48 ∨ (mi = 0 ∧ atV l i = 35)
instance {l : List Int} {i mi : Int} : Decidable (plAt l i mi) := inferInstanceAs (Decidable (_ ∨ _))
def cmAt (l : List Int) (since i mi : Int) : Prop := 0 < since ∧ atV l i = 44 ∧ plAt l (i + 1) mi
instance {l : List Int} {s i mi : Int} : Decidable (cmAt l s i mi) := inferInstanceAs (Decidable (_ ∧ _))
variable {c10 c12 c13 c14 c15 c16 c17 c18 c20 c21 c22 : Int} {c19 : Bool}
theorem place_at {on i mi : Int} (hl : l.length ≤ 10000) (h0 : 0 ≤ i + on) (h1 : i + on ≤ 20000) : pat_reader__place_s0 on l i a3 a4 a5 a6 a7 b8 b c10 mi c12 c13 c14 c15 c16 c17 c18 c19 c20 c21 = some (decide (plAt l (i + on) mi)) := by
 unfold pat_reader__place_s0 plAt
 rw [is_at hl h0 h1 (by omega), is_at hl h0 h1 (by omega)]
 by_cases h : atV l (i + on) = 48
 ·rw [dT h]; simp [h]
 ·rw [dF h]
  by_cases h2 : mi = 0
  ·rw [dT h2]; simp [h, h2]
  ·rw [dF h2]; simp [h, h2]
theorem comma_at {since i mi : Int} (hl : l.length ≤ 10000) (h0 : 0 ≤ i) (h1 : i ≤ 10000) : pat_reader__comma_s0 since l i a3 a4 a5 a6 a7 b8 b c10 mi c12 c13 c14 c15 c16 c17 c18 c19 c20 c21 = some (decide (cmAt l since i mi)) := by
 unfold pat_reader__comma_s0
 rw [is_at hl (by omega) (by omega) (by omega), place_at hl (by omega) (by omega), Int.add_zero]
 by_cases h : since > 0
 ·rw [dT h]
  by_cases h2 : atV l i = 44
  ·rw [dT h2]
   by_cases h3 : plAt l (i + 1) mi
   ·rw [dT h3, dT (show cmAt l since i mi from ⟨h, h2, h3⟩)]; rfl
   ·rw [dF h3, dF (show ¬ cmAt l since i mi from fun hh => h3 hh.2.2)]; rfl
  ·rw [dF h2, dF (show ¬ cmAt l since i mi from fun hh => h2 hh.2.1)]; rfl
 ·rw [dF h, dF (show ¬ cmAt l since i mi from fun hh => h hh.1)]; rfl
theorem between_at {commas since i mi g2 : Int} (hl : l.length ≤ 10000) (h0 : 0 ≤ i) (h1 : i ≤ 10000) :
  pat_reader__between_s0 commas since l i a3 a4 a5 a6 a7 b8 b c10 mi c12 c13 c14 g2 c16 c17 c18 c19 c20 c21 = some (if commas = 0 ∨ ¬ cmAt l since i mi then .inl g2 else if commas > 1 ∧ since ≠ g2 then .inr () else .inl since) := by
 unfold pat_reader__between_s0
 rw [comma_at hl h0 h1]
 by_cases h : commas = 0
 ·rw [dT h, if_pos (.inl h)]; rfl
 ·rw [dF h]
  by_cases h2 : cmAt l since i mi
  ·rw [dT h2, if_neg (by simp [h, h2])]
   simp only [cond_false, Option.bind_some, Bool.not_true, joinX]
   by_cases h3 : commas > 1
   ·rw [dT h3]
    by_cases h4 : since = g2
    ·rw [dF (fun h => h h4), if_neg (by simp [h4])]; rfl
    ·rw [dT h4, if_pos ⟨h3, h4⟩]; rfl
   ·rw [dF h3, if_neg (by simp [h3])]; rfl
  ·rw [dF h2, if_pos (.inr h2)]; rfl
theorem special_at (x : Int) : pat_special x = some (decide (x = 35 ∨ x = 64 ∨ x = 44 ∨ x = 46 ∨ x = 59 ∨ x = 42 ∨ x = 37 ∨ x = 45 ∨ x = 43 ∨ x = 39 ∨ x = 69 ∨ x = 164 ∨ (48 ≤ x ∧ x ≤ 57))) := by
 unfold pat_special
 by_cases h1 : x = 35 <;> by_cases h2 : x = 64 <;> by_cases h3 : x = 44 <;> by_cases h4 : x = 46 <;> by_cases h5 : x = 59 <;> by_cases h6 : x = 42 <;> first
  | (simp [h1, h2, h3, h4, h5, h6, joinX]; done)
  | (by_cases h7 : x = 37 <;> by_cases h8 : x = 45 <;> by_cases h9 : x = 43 <;> by_cases h10 : x = 39 <;> by_cases h11 : x = 69 <;> by_cases h12 : x = 164 <;> by_cases h13 : 48 ≤ x <;> by_cases h14 : x ≤ 57 <;> simp [h1, h2, h3, h4, h5, h6, h7, h8, h9, h10, h11, h12, h13, h14, joinX])
theorem pad_at {w i pd pa : Int} (hl : l.length ≤ 10000) (h0 : 0 ≤ i) (h1 : i ≤ l.length) :
  pat_reader__pad_s0 w l i a3 a4 a5 a6 a7 b c10 c12 c13 c14 c15 c16 c17 c18 c20 c19 pd pa = some (if pa ≠ 0 ∨ atV l i ≠ 42 then .inl (i, pd, pa) else if i + 1 = l.length then .inr (i + 1, i + 1) else .inl (i + 2, atV l (i + 1), w)) := by
 unfold pat_reader__pad_s0
 rw [eat_at hl h0 (by omega) (by omega)]
 by_cases h : pa = 0
 ·rw [dF (fun hh => hh h)]
  by_cases h2 : atV l i = 42
  ·have hin := at_in h2 (by omega)
   rw [if_pos h2, if_neg (by simp [h, h2])]
   simp only [cond_false, Option.bind_some, Bool.not_true, joinX]
   by_cases h3 : i + 1 = l.length
   ·rw [dT h3, if_pos h3]; rfl
   ·rw [dF h3, if_neg h3, inR_int (i := i + 1) (by omega) (by omega), w64 (n := i + 1 + 1) (by omega) (by omega)]
    simp only [cond_false, Option.bind_some, cond_true, joinX]
    unfold atV
    rw [if_pos (by omega)]
    congr 2
    simp; omega
  ·rw [if_neg h2, if_pos (c := pa ≠ 0 ∨ atV l i ≠ 42) (.inr h2)]; rfl
 ·rw [dT h, if_pos (c := pa ≠ 0 ∨ atV l i ≠ 42) (.inl h)]; rfl
theorem pad1_at {w i pd pa : Int} (hl : l.length ≤ 10000) (h0 : 0 ≤ i) (h1 : i ≤ l.length) :
  pat_reader__pad_s1 w l i a3 a4 a5 a6 a7 b8 b c10 c12 c13 c14 c15 c16 c17 c18 c20 c19 pd pa = some (if pa ≠ 0 ∨ atV l i ≠ 42 then .inl (i, pd, pa) else if i + 1 = l.length then .inr (i + 1, i + 1) else .inl (i + 2, atV l (i + 1), w)) := pad_at (b := b) (c10 := c10) (c12 := c12) (c13 := c13) (c14 := c14) (c15 := c15) (c16 := c16) (c17 := c17) (c18 := c18) (c20 := c20) (c19 := c19) hl h0 h1
theorem pad2_at {w i pd pa : Int} (hl : l.length ≤ 10000) (h0 : 0 ≤ i) (h1 : i ≤ l.length) :
  pat_reader__pad_s2 w l i a3 a4 a5 a6 a7 b8 b9 b c10 c12 c13 c14 c15 c16 c17 c18 c20 c19 pd pa = some (if pa ≠ 0 ∨ atV l i ≠ 42 then .inl (i, pd, pa) else if i + 1 = l.length then .inr (i + 1, i + 1) else .inl (i + 2, atV l (i + 1), w)) := pad_at (b := b) (c10 := c10) (c12 := c12) (c13 := c13) (c14 := c14) (c15 := c15) (c16 := c16) (c17 := c17) (c18 := c18) (c20 := c20) (c19 := c19) hl h0 h1
end
/-! The text of a number, read: the places. -/
def cmP (g1 g2 : Int) (t i : Nat) : Prop := 0 < i ∧ grpB g1 g2 ((t : Int) - i) = true
instance {g1 g2 : Int} {t i : Nat} : Decidable (cmP g1 g2 t i) := inferInstanceAs (Decidable (_ ∧ _))
theorem grpB_iff {g1 g2 n : Int} : grpB g1 g2 n = true ↔ 1 ≤ g1 ∧ g1 ≤ n ∧ (n = g1 ∨ (0 < g2 ∧ (n - g1) % g2 = 0)) := by
 unfold grpB
 simp only [Bool.and_eq_true, Bool.or_eq_true, decide_eq_true_eq]
section
variable {g1 g2 : Int} {t ha : Nat} {rest : List Int}
end
/-! Runes as bytes, and back. -/
theorem u8w (n : Int) : IntKind.u8.wrap n = n % 256 := by
 unfold IntKind.wrap
 simp only [IntKind.signed, IntKind.bits, Bool.false_and, Bool.false_eq_true, if_false]
 rfl
theorem fin256 (p : Int → Prop) (h : ∀ k : Fin 256, p (k.val : Int)) {x : Int} (h0 : 0 ≤ x) (h1 : x < 256) : p x := by
 obtain ⟨n, rfl⟩ := Int.eq_ofNat_of_zero_le h0
 exact h ⟨n, by omega⟩
theorem and63 {x : Int} (h0 : 0 ≤ x) (h1 : x < 256) : bits .and .u8 x 63 = x % 64 := fin256 (fun x => bits .and .u8 x 63 = x % 64) (by decide +kernel) h0 h1
def isRb (x : Int) : Bool := decide (0 ≤ x ∧ x ≤ 1114111 ∧ (x < 55296 ∨ 57343 < x))
def enc1 (x : Int) : List Int := if x < 128 then [x] else if x < 2048 then [192 + x / 64, 128 + x % 64] else if x < 65536 then [224 + x / 4096, 128 + x / 64 % 64, 128 + x % 64] else [240 + x / 262144, 128 + x / 4096 % 64, 128 + x / 64 % 64, 128 + x % 64]
def sizeN (x : Int) : Int := if isRb x then (if x < 128 then 1 else if x < 2048 then 2 else if x < 65536 then 3 else 4) else 0
theorem is_eq (x : Int) : utf_Is x = some (isRb x) := by
 unfold utf_Is isRb
 by_cases h1 : 0 ≤ x <;> by_cases h2 : x ≤ 1114111 <;> by_cases h3 : x < 55296 <;> simp [h1, h2, h3]
theorem size_eq (x : Int) : utf_Size x = some (sizeN x) := by
 unfold utf_Size sizeN
 rw [is_eq]
 cases h : isRb x
 ·simp
 ·by_cases h1 : x < 128 <;> by_cases h2 : x < 2048 <;> by_cases h3 : x < 65536 <;> simp [h1, h2, h3]
theorem loopN_mono {S O : Type} {step : S → Option (S ⊕ O)} {o : O} : ∀ (n : Nat) (s : S), loopN step n s = some o → ∀ m, n ≤ m → loopN step m s = some o := by
 intro n
 induction n with
 | zero => intro s h; cases h
 | succ n ih =>
  intro s h m hm
  obtain ⟨k, rfl⟩ : ∃ k, m = k + 1 := ⟨m - 1, by omega⟩
  simp only [loopN] at h ⊢
  split at h
  ·cases h
  ·exact h
  ·exact ih _ h k (by omega)
theorem loop_big {S O : Type} {step : S → Option (S ⊕ O)} {o : O} {s : S} (n : Nat) (h : loopN step n s = some o) (hn : n ≤ 1000) : loopN step big s = some o := loopN_mono n s h _ (by unfold big; omega)
theorem fdivp {a b : Int} (hb : 0 < b) : Int.fdiv a b = a / b := Int.fdiv_eq_ediv_of_nonneg _ (by omega)
theorem enc1_len (x : Int) : (enc1 x).length ≤ 4 := by
 unfold enc1; split; simp; split; simp; split <;> simp
def encL1 (xs : List Int) : List Int := xs.flatMap enc1
theorem encL1_len (xs : List Int) : (encL1 xs).length ≤ 4 * xs.length := by
 induction xs with
 | nil => simp [encL1]
 | cons x xs ih =>
  have := enc1_len x
  simp only [encL1, List.flatMap_cons, List.length_append, List.length_cons] at ih ⊢
  omega
theorem enc1_size {x : Int} (hr : isRb x = true) : ((enc1 x).length : Int) = sizeN x := by
 unfold enc1 sizeN
 rw [hr]
 by_cases h1 : x < 128 <;> by_cases h2 : x < 2048 <;> by_cases h3 : x < 65536 <;> simp [h1, h2, h3]
theorem prom_eq (c : Int) : utf_promised c = some (if c < 128 then 1 else if c / 32 = 6 then 2 else if c / 16 = 14 then 3 else if c / 8 = 30 then 4 else 0) := by
 unfold utf_promised
 rw [fdivp (by decide), fdivp (by decide), fdivp (by decide)]
 by_cases h1 : c < 128 <;> by_cases h2 : c / 32 = 6 <;> by_cases h3 : c / 16 = 14 <;> by_cases h4 : c / 8 = 30 <;> simp [h1, h2, h3, h4]
theorem n63 {x : Int} (h0 : 0 ≤ x) (h1 : x < 256) : bits .andNot .u8 x 63 = x / 64 * 64 := fin256 (fun x => bits .andNot .u8 x 63 = x / 64 * 64) (by decide +kernel) h0 h1
theorem n0 {x : Int} (h0 : 0 ≤ x) (h1 : x < 256) : bits .andNot .u8 x 0 = x := fin256 (fun x => bits .andNot .u8 x 0 = x) (by decide +kernel) h0 h1
theorem n192 {x : Int} (h0 : 0 ≤ x) (h1 : x < 32) : bits .andNot .u8 (192 + x) 192 = x := fin256 (fun x => x < 32 → bits .andNot .u8 (192 + x) 192 = x) (by decide +kernel) h0 (by omega) h1
theorem n224 {x : Int} (h0 : 0 ≤ x) (h1 : x < 16) : bits .andNot .u8 (224 + x) 224 = x := fin256 (fun x => x < 16 → bits .andNot .u8 (224 + x) 224 = x) (by decide +kernel) h0 (by omega) h1
theorem n240 {x : Int} (h0 : 0 ≤ x) (h1 : x < 8) : bits .andNot .u8 (240 + x) 240 = x := fin256 (fun x => x < 8 → bits .andNot .u8 (240 + x) 240 = x) (by decide +kernel) h0 (by omega) h1
theorem t63 {y : Int} (h0 : 0 ≤ y) (h1 : y < 64) : bits .andNot .u8 (128 + y) 63 = 128 := by rw [n63 (by omega) (by omega)]; omega
theorem a63 {y : Int} (h0 : 0 ≤ y) (h1 : y < 64) : bits .and .u8 (128 + y) 63 = y := by rw [and63 (by omega) (by omega)]; omega
theorem o32 {r y : Int} (h0 : 0 ≤ r) (h1 : r < 32768) (h2 : 0 ≤ y) (h3 : y < 64) : bits .or .i32 (IntKind.wrap .i32 (r * 64)) (IntKind.wrap .i32 y) = r * 64 + y := by
 rw [w32 (by omega) (by omega), w32 (by omega) (by omega)]
 exact i32_or6 _ _ (by omega) (by omega) (by omega) h2 h3
theorem first_full {x : Int} {rest : List Int} (hr : isRb x = true) (hl : rest.length ≤ 1000000) : utf_first (enc1 x ++ rest) = some (x, sizeN x) := by
 have hb : 0 ≤ x ∧ x ≤ 1114111 ∧ (x < 55296 ∨ 57343 < x) := by simpa [isRb] using hr
 have hsz := size_eq x
 generalize hq : enc1 x ++ rest = q
 unfold utf_first
 by_cases h1 : x < 128
 ·have he : enc1 x = [x] := by unfold enc1; rw [if_pos h1]
  have hs : sizeN x = 1 := by unfold sizeN; rw [hr]; simp [h1]
  rw [he] at hq
  simp only [List.singleton_append] at hq
  have hn : nth q 0 = x := by subst hq; rfl
  have hql : q.length = rest.length + 1 := by subst hq; simp
  have hi : inR 0 q.length = true := inR_int (by omega) (by omega)
  have hin : inS 1 1 q.length = true := inS_of (by omega) (by omega) (by omega)
  have hm : utf_mark 1 = some 0 := rfl
  have hc : cut q 1 1 = [] := by subst hq; simp [cut]
  have hp : utf_promised x = some 1 := by rw [prom_eq, if_pos h1]
  rw [hi, hn, hp]
  simp only [cond_true, Option.bind_some]
  rw [dF (show ¬ (1 : Int) = 0 by omega), dF (show ¬ (1 : Int) > (q.length : Int) by omega)]
  simp only [cond_false, Option.bind_some, joinX, hm, hin, cond_true, hc]
  rw [n0 (by omega) (by omega), w32 (by omega) (by omega), loop_big 1 rfl (by omega)]
  simp only [Option.bind_some, joinX]
  rw [hsz, hs]; rfl
 ·by_cases h2 : x < 2048
  ·have he : enc1 x = [192 + x / 64, 128 + x % 64] := by unfold enc1; rw [if_neg h1, if_pos h2]
   have hs : sizeN x = 2 := by unfold sizeN; rw [hr]; simp [h1, h2]
   rw [he] at hq
   simp only [List.cons_append, List.nil_append] at hq
   have hn : nth q 0 = 192 + x / 64 := by subst hq; rfl
   have hql : q.length = rest.length + 2 := by subst hq; simp
   have hi : inR 0 q.length = true := inR_int (by omega) (by omega)
   have hin : inS 1 2 q.length = true := inS_of (by omega) (by omega) (by omega)
   have hm : utf_mark 2 = some 192 := rfl
   have hc : cut q 1 2 = [128 + x % 64] := by subst hq; simp [cut]
   have hp : utf_promised (192 + x / 64) = some 2 := by rw [prom_eq, if_neg (by omega), if_pos (by omega)]
   rw [hi, hn, hp]
   simp only [cond_true, Option.bind_some]
   rw [dF (show ¬ (2 : Int) = 0 by omega), dF (show ¬ (2 : Int) > (q.length : Int) by omega)]
   simp only [cond_false, Option.bind_some, joinX, hm, hin, cond_true, hc]
   rw [n192 (by omega) (by omega), w32 (by omega) (by omega), loop_big (o := .inl x) 2 ?_ (by omega)]
   ·simp only [Option.bind_some, joinX]
    rw [hsz, hs]; rfl
   ·simp only [loopN]
    have k0 : nth [128 + x % 64] 0 = 128 + x % 64 := rfl
    have i0 : inR 0 1 = true := by decide
    have wz : IntKind.wrap .i64 (0 + 1) = 1 := by decide
    have e1 : bits .or .i32 (IntKind.wrap .i32 (x / 64 * 64)) (IntKind.wrap .i32 (x % 64)) = x := by rw [o32 (by omega) (by omega) (by omega) (by omega)]; omega
    simp only [List.length_singleton, k0, i0, t63 (show 0 ≤ x % 64 by omega) (by omega), a63 (show 0 ≤ x % 64 by omega) (by omega), e1, wz]
    rfl
  ·by_cases h3 : x < 65536
   ·have he : enc1 x = [224 + x / 4096, 128 + x / 64 % 64, 128 + x % 64] := by unfold enc1; rw [if_neg h1, if_neg h2, if_pos h3]
    have hs : sizeN x = 3 := by unfold sizeN; rw [hr]; simp [h1, h2, h3]
    rw [he] at hq
    simp only [List.cons_append, List.nil_append] at hq
    have hn : nth q 0 = 224 + x / 4096 := by subst hq; rfl
    have hql : q.length = rest.length + 3 := by subst hq; simp
    have hi : inR 0 q.length = true := inR_int (by omega) (by omega)
    have hin : inS 1 3 q.length = true := inS_of (by omega) (by omega) (by omega)
    have hm : utf_mark 3 = some 224 := rfl
    have hc : cut q 1 3 = [128 + x / 64 % 64, 128 + x % 64] := by subst hq; simp [cut]
    have hp : utf_promised (224 + x / 4096) = some 3 := by rw [prom_eq, if_neg (by omega), if_neg (by omega), if_pos (by omega)]
    rw [hi, hn, hp]
    simp only [cond_true, Option.bind_some]
    rw [dF (show ¬ (3 : Int) = 0 by omega), dF (show ¬ (3 : Int) > (q.length : Int) by omega)]
    simp only [cond_false, Option.bind_some, joinX, hm, hin, cond_true, hc]
    rw [n224 (by omega) (by omega), w32 (by omega) (by omega), loop_big (o := .inl x) 3 ?_ (by omega)]
    ·simp only [Option.bind_some, joinX]
     rw [hsz, hs]; rfl
    ·simp only [loopN]
     have k0 : nth [128 + x / 64 % 64, 128 + x % 64] 0 = 128 + x / 64 % 64 := rfl
     have k1 : nth [128 + x / 64 % 64, 128 + x % 64] 1 = 128 + x % 64 := rfl
     have i0 : inR 0 2 = true := by decide
     have i1 : inR 1 2 = true := by decide
     have wz : IntKind.wrap .i64 (0 + 1) = 1 := by decide
     have wz1 : IntKind.wrap .i64 (1 + 1) = 2 := by decide
     have e1 : bits .or .i32 (IntKind.wrap .i32 (x / 4096 * 64)) (IntKind.wrap .i32 (x / 64 % 64)) = x / 64 := by rw [o32 (by omega) (by omega) (by omega) (by omega)]; omega
     have e2 : bits .or .i32 (IntKind.wrap .i32 (x / 64 * 64)) (IntKind.wrap .i32 (x % 64)) = x := by rw [o32 (by omega) (by omega) (by omega) (by omega)]; omega
     simp only [List.length_cons, List.length_nil, Nat.zero_add, Nat.reduceAdd, k0, i0, t63 (show 0 ≤ x / 64 % 64 by omega) (by omega), a63 (show 0 ≤ x / 64 % 64 by omega) (by omega), e1, wz]
     have d0 : decide ((0 : Int) < ((2 : Nat) : Int)) = true := by decide
     have d1 : decide ((1 : Int) < ((2 : Nat) : Int)) = true := by decide
     have d2 : decide ((2 : Int) < ((2 : Nat) : Int)) = false := by decide
     simp only [d0, d1, d2, cond_true, cond_false, not_true_eq_false, decide_false, k1, i1, t63 (show 0 ≤ x % 64 by omega) (by omega), a63 (show 0 ≤ x % 64 by omega) (by omega), e2, wz1]
   ·have he : enc1 x = [240 + x / 262144, 128 + x / 4096 % 64, 128 + x / 64 % 64, 128 + x % 64] := by unfold enc1; rw [if_neg h1, if_neg h2, if_neg h3]
    have hs : sizeN x = 4 := by unfold sizeN; rw [hr]; simp [h1, h2, h3]
    rw [he] at hq
    simp only [List.cons_append, List.nil_append] at hq
    have hn : nth q 0 = 240 + x / 262144 := by subst hq; rfl
    have hql : q.length = rest.length + 4 := by subst hq; simp
    have hi : inR 0 q.length = true := inR_int (by omega) (by omega)
    have hin : inS 1 4 q.length = true := inS_of (by omega) (by omega) (by omega)
    have hm : utf_mark 4 = some 240 := rfl
    have hc : cut q 1 4 = [128 + x / 4096 % 64, 128 + x / 64 % 64, 128 + x % 64] := by subst hq; simp [cut]
    have hp : utf_promised (240 + x / 262144) = some 4 := by rw [prom_eq, if_neg (by omega), if_neg (by omega), if_neg (by omega), if_pos (by omega)]
    rw [hi, hn, hp]
    simp only [cond_true, Option.bind_some]
    rw [dF (show ¬ (4 : Int) = 0 by omega), dF (show ¬ (4 : Int) > (q.length : Int) by omega)]
    simp only [cond_false, Option.bind_some, joinX, hm, hin, cond_true, hc]
    rw [n240 (by omega) (by omega), w32 (by omega) (by omega), loop_big (o := .inl x) 4 ?_ (by omega)]
    ·simp only [Option.bind_some, joinX]
     rw [hsz, hs]; rfl
    ·simp only [loopN]
     have k0 : nth [128 + x / 4096 % 64, 128 + x / 64 % 64, 128 + x % 64] 0 = 128 + x / 4096 % 64 := rfl
     have k1 : nth [128 + x / 4096 % 64, 128 + x / 64 % 64, 128 + x % 64] 1 = 128 + x / 64 % 64 := rfl
     have k2 : nth [128 + x / 4096 % 64, 128 + x / 64 % 64, 128 + x % 64] 2 = 128 + x % 64 := rfl
     have i0 : inR 0 3 = true := by decide
     have i1 : inR 1 3 = true := by decide
     have i2 : inR 2 3 = true := by decide
     have wz : IntKind.wrap .i64 (0 + 1) = 1 := by decide
     have wz1 : IntKind.wrap .i64 (1 + 1) = 2 := by decide
     have wz2 : IntKind.wrap .i64 (2 + 1) = 3 := by decide
     have e0 : bits .or .i32 (IntKind.wrap .i32 (x / 262144 * 64)) (IntKind.wrap .i32 (x / 4096 % 64)) = x / 4096 := by rw [o32 (by omega) (by omega) (by omega) (by omega)]; omega
     have e1 : bits .or .i32 (IntKind.wrap .i32 (x / 4096 * 64)) (IntKind.wrap .i32 (x / 64 % 64)) = x / 64 := by rw [o32 (by omega) (by omega) (by omega) (by omega)]; omega
     have e2 : bits .or .i32 (IntKind.wrap .i32 (x / 64 * 64)) (IntKind.wrap .i32 (x % 64)) = x := by rw [o32 (by omega) (by omega) (by omega) (by omega)]; omega
     have d0 : decide ((0 : Int) < ((3 : Nat) : Int)) = true := by decide
     have d1 : decide ((1 : Int) < ((3 : Nat) : Int)) = true := by decide
     have d2 : decide ((2 : Int) < ((3 : Nat) : Int)) = true := by decide
     have d3 : decide ((3 : Int) < ((3 : Nat) : Int)) = false := by decide
     simp only [List.length_cons, List.length_nil, Nat.zero_add, Nat.reduceAdd, k0, i0, t63 (show 0 ≤ x / 4096 % 64 by omega) (by omega), a63 (show 0 ≤ x / 4096 % 64 by omega) (by omega), e0, wz]
     simp only [d0, d1, d2, d3, cond_true, cond_false, not_true_eq_false, decide_false, k1, i1, t63 (show 0 ≤ x / 64 % 64 by omega) (by omega), a63 (show 0 ≤ x / 64 % 64 by omega) (by omega), e1, wz1]
     simp only [d0, d1, d2, d3, cond_true, cond_false, not_true_eq_false, decide_false, k2, i2, t63 (show 0 ≤ x % 64 by omega) (by omega), a63 (show 0 ≤ x % 64 by omega) (by omega), e2, wz2]
theorem decode_full {L : List Int} (hL : L.all isRb = true) (hl : L.length ≤ 200000) : utf_Decode (encL1 L) = some (L, 0, 0) := by
 have hE := encL1_len L
 unfold utf_Decode
 generalize hX : encL1 L = X
 have hXl : X.length = (encL1 L).length := by subst hX; simp
 generalize hst : (fun (s57 : Int × (List Int)) => ((bif (decide (s57.1 < (X.length : Int))) then (bif inS s57.1 (X.length : Int) X.length then (Option.bind (utf_first (cut X s57.1 (X.length : Int))) fun y96 => (bif (decide (y96.2 = 0)) then (some (.inr (.inr (([] : List Int), s57.1, 3)))) else (bif room (s57.2.length + ([y96.1] : List Int).length) then (some (.inl ((IntKind.wrap .i64 (s57.1 + y96.2)), (s57.2 ++ ([y96.1] : List Int))))) else none))) else none) else (some (.inr (.inl s57.2)))) : Option ((Int × (List Int)) ⊕ ((List Int) ⊕ ((List Int) × Int × Int))))) = step
 obtain ⟨o, h1, h2⟩ := loopN_run (step := step)
  (fun s => ∃ j : Nat, j ≤ L.length ∧ s.1 = ((encL1 (L.take j)).length : Int) ∧ s.2 = L.take j) (fun s => X.length - s.1.toNat)
  (fun o => o = .inl L) (fun s hs => by
   obtain ⟨s1, out⟩ := s
   obtain ⟨j, hj, hs1, ho⟩ := hs
   simp only at hs1 ho
   have hpre : encL1 L = encL1 (L.take j) ++ encL1 (L.drop j) := by
    unfold encL1; rw [← List.flatMap_append, List.take_append_drop]
   have htake := encL1_len (L.take j)
   have hple : (encL1 (L.take j)).length ≤ (encL1 L).length := by rw [hpre, List.length_append]; omega
   rcases Nat.lt_or_ge j L.length with h | h
   ·have hcut : cut X s1 (X.length : Int) = encL1 (L.drop j) := by
     unfold cut
     rw [Int.toNat_natCast, List.take_length, hs1, Int.toNat_natCast, ← hX, hpre, List.drop_left]
    have hrj : isRb L[j] = true := List.all_eq_true.1 hL _ (List.getElem_mem h)
    have hd : encL1 (L.drop j) = enc1 L[j] ++ encL1 (L.drop (j + 1)) := by
     unfold encL1; rw [List.drop_eq_getElem_cons h, List.flatMap_cons]
    have hsz := enc1_size hrj
    have hne : sizeN L[j] ≠ 0 := by
     unfold sizeN; rw [hrj]; simp only [if_true]; split; omega; split; omega; split <;> omega
    have hpos : 0 < sizeN L[j] := by omega
    have hle4 := enc1_len L[j]
    have hdl := encL1_len (L.drop (j + 1))
    rw [List.length_drop] at hdl
    have hplt : (encL1 (L.take j)).length + (enc1 L[j]).length ≤ (encL1 L).length := by rw [hpre, hd, List.length_append, List.length_append]; omega
    subst hst
    simp only
    rw [dT (show s1 < (X.length : Int) by omega), inS_of (by omega) (by omega) (by omega), hcut]
    simp only [cond_true]
    rw [hd, first_full hrj (by omega)]
    simp only [Option.bind_some]
    rw [dF hne]
    simp only [cond_false]
    have hrm : room (out.length + ([L[j]] : List Int).length) = true := room_of (by subst ho; simp; omega)
    rw [hrm]
    have hnext : encL1 (L.take (j + 1)) = encL1 (L.take j) ++ enc1 L[j] := by
     rw [List.take_succ_eq_append_getElem h]; unfold encL1; rw [List.flatMap_append]; simp
    refine .inl ⟨(s1 + sizeN L[j], out ++ [L[j]]), ?_, ⟨j + 1, by omega, ?_, by simp only; rw [ho, List.take_succ_eq_append_getElem h]⟩, by simp only; omega⟩
    ·rw [w64 (by omega) (by omega)]; rfl
    ·simp only; rw [hnext, List.length_append, hs1, ← hsz]; omega
   ·have hj' : j = L.length := by omega
    subst hj'
    rw [List.take_length] at hs1 ho
    subst hst
    simp only
    rw [dF (show ¬ s1 < (X.length : Int) by omega), ho]
    exact .inr ⟨_, rfl, rfl⟩) big (0, []) ⟨0, by omega, by simp [encL1], rfl⟩ (big_pos (by simp only; omega))
 rw [h1, h2]
 rfl
theorem is1 {x : Int} (h0 : -2147483648 ≤ x) (h1 : x ≤ 2147483647) : exergueref01_Is x = some (isRb x) := by
 unfold exergueref01_Is isRb
 rw [w64 (by omega) (by omega)]
 by_cases h1 : 0 ≤ x <;> by_cases h2 : x ≤ 1114111 <;> by_cases h3 : x < 55296 <;> by_cases h4 : x > 57343 <;> first | omega | simp [h1, h2, h3, h4]
theorem size1 {x : Int} (h0 : -2147483648 ≤ x) (h1 : x ≤ 2147483647) : exergueref01_Size x = some (sizeN x) := by
 unfold exergueref01_Size sizeN
 rw [is1 h0 h1]
 cases h : isRb x
 ·simp
 ·by_cases h1 : x < 128 <;> by_cases h2 : x < 2048 <;> by_cases h3 : x < 65536 <;> simp [h1, h2, h3]
theorem isRb_iff {x : Int} : isRb x = true ↔ 0 ≤ x ∧ x ≤ 1114111 ∧ (x < 55296 ∨ 57343 < x) := by simp [isRb]
theorem bytes1 {x : Int} (hr : isRb x = true) : exergueref01_Bytes x = some (enc1 x) := by
 have hb := isRb_iff.1 hr
 unfold exergueref01_Bytes enc1
 rw [size1 (by omega) (by omega)]
 unfold sizeN
 rw [hr, w64 (n := x) (by omega) (by omega), Int.tdiv_eq_ediv_of_nonneg (by omega), Int.tdiv_eq_ediv_of_nonneg (by omega), Int.tdiv_eq_ediv_of_nonneg (by omega), Int.tmod_eq_emod_of_nonneg (by omega), w64 (n := x / 64) (by omega) (by omega), w64 (n := x / 4096) (by omega) (by omega), w64 (n := x / 262144) (by omega) (by omega), Int.tmod_eq_emod_of_nonneg (by omega), Int.tmod_eq_emod_of_nonneg (by omega), w64 (n := 192 + x / 64) (by omega) (by omega), w64 (n := 224 + x / 4096) (by omega) (by omega), w64 (n := 240 + x / 262144) (by omega) (by omega), w64 (n := 128 + x % 64) (by omega) (by omega), w64 (n := 128 + x / 64 % 64) (by omega) (by omega), w64 (n := 128 + x / 4096 % 64) (by omega) (by omega)]
 simp only [if_true, Option.bind_some, u8w]
 by_cases h1 : x < 128
 ·rw [if_pos h1, if_pos h1, show x % 256 = x by omega]; rfl
 ·by_cases h2 : x < 2048
  ·rw [if_neg h1, if_neg h1, if_pos h2, if_pos h2, show (192 + x / 64) % 256 = 192 + x / 64 by omega, show (128 + x % 64) % 256 = 128 + x % 64 by omega]; rfl
  ·by_cases h3 : x < 65536
   ·rw [if_neg h1, if_neg h1, if_neg h2, if_neg h2, if_pos h3, if_pos h3, show (224 + x / 4096) % 256 = 224 + x / 4096 by omega, show (128 + x % 64) % 256 = 128 + x % 64 by omega, show (128 + x / 64 % 64) % 256 = 128 + x / 64 % 64 by omega]; rfl
   ·rw [if_neg h1, if_neg h1, if_neg h2, if_neg h2, if_neg h3, if_neg h3, show (240 + x / 262144) % 256 = 240 + x / 262144 by omega, show (128 + x % 64) % 256 = 128 + x % 64 by omega, show (128 + x / 64 % 64) % 256 = 128 + x / 64 % 64 by omega, show (128 + x / 4096 % 64) % 256 = 128 + x / 4096 % 64 by omega]; rfl
theorem text1 {x : Int} (hr : isRb x = true) : exergueref10_text x = some (bytesS (enc1 x)) := by
 unfold exergueref10_text
 rw [bytes1 hr]; rfl
theorem tails_step {b : List Int} {at' k v j y : Int} (hl : b.length ≤ 1000000) (h0 : 0 ≤ at') (hk : 1 ≤ k ∧ k ≤ 3) (hj : 1 ≤ j ∧ j ≤ k) (hin : at' + k < b.length) (hv : 0 ≤ v ∧ v ≤ 100000000) (hy : 0 ≤ y ∧ y < 64) (hb : nth b (at' + j) = 128 + y) :
  (fun (s306 : Int × Int) => ((bif (decide (s306.2 ≤ k)) then (Option.bind (bif inR (IntKind.wrap .i64 (at' + s306.2)) b.length then (Option.bind (Option.bind (bif (decide (((IntKind.wrap .i64 ((nth b (IntKind.wrap .i64 (at' + s306.2)))))) < 128)) then (some true) else (some ((decide (((IntKind.wrap .i64 ((nth b (IntKind.wrap .i64 (at' + s306.2)))))) > 191))))) fun (s585 : Bool) => (bif s585 then (some (.inr (.inr (.inr (.inr (-1)))))) else (some (.inl ())))) (joinX fun (s577 : Unit) => (some (.inl ())))) else none) (joinX fun (s552 : Unit) => (some (.inl ((IntKind.wrap .i64 (((IntKind.wrap .i64 ((IntKind.wrap .i64 (s306.1 * 64)) + ((IntKind.wrap .i64 ((nth b (IntKind.wrap .i64 (at' + s306.2))))))))) - 128)), (IntKind.wrap .i64 (s306.2 + 1))))))) else (some (.inr (.inl s306.1)))) : Option ((Int × Int) ⊕ (Int ⊕ Int)))) (v, j) = some (.inl (v * 64 + y, j + 1)) := by
 simp only
 rw [dT hj.2, w64 (n := at' + j) (by omega) (by omega), inR_int (by omega) (by omega), hb, w64 (n := 128 + y) (by omega) (by omega), dF (show ¬ 128 + y < 128 by omega), dF (show ¬ 128 + y > 191 by omega)]
 simp only [cond_true, cond_false, Option.bind_some, joinX]
 rw [w64 (n := v * 64) (by omega) (by omega), w64 (n := v * 64 + (128 + y)) (by omega) (by omega), w64 (n := v * 64 + (128 + y) - 128) (by omega) (by omega), w64 (n := j + 1) (by omega) (by omega), show v * 64 + (128 + y) - 128 = v * 64 + y by omega]

/-! A row of runes, read back. -/
theorem tails_1 {b : List Int} {at' v y1 : Int} (hl : b.length ≤ 1000000) (h0 : 0 ≤ at') (hin : at' + 1 < b.length) (hv : 0 ≤ v ∧ v < 64) (h1 : 0 ≤ y1 ∧ y1 < 64) (e1 : nth b (at' + 1) = 128 + y1) : exergueref01_tails b at' 1 v = some (v * 64 + y1) := by
 unfold exergueref01_tails
 rw [w64 (n := at' + 1) (by omega) (by omega), dF (show ¬ at' + 1 ≥ (b.length : Int) by omega)]
 simp only [cond_false]
 rw [loop_big (o := .inl (v * 64 + y1)) 2 ?_ (by omega)]
 ·rfl
 ·rw [loopN_next (tails_step hl h0 (by omega) (by omega) hin (by omega) h1 e1)]
  exact loopN_out (by simp only; rw [dF (by omega)]; rfl)
theorem tails_2 {b : List Int} {at' v y1 y2 : Int} (hl : b.length ≤ 1000000) (h0 : 0 ≤ at') (hin : at' + 2 < b.length) (hv : 0 ≤ v ∧ v < 64) (h1 : 0 ≤ y1 ∧ y1 < 64) (e1 : nth b (at' + 1) = 128 + y1) (h2 : 0 ≤ y2 ∧ y2 < 64) (e2 : nth b (at' + 2) = 128 + y2) : exergueref01_tails b at' 2 v = some ((v * 64 + y1) * 64 + y2) := by
 unfold exergueref01_tails
 rw [w64 (n := at' + 2) (by omega) (by omega), dF (show ¬ at' + 2 ≥ (b.length : Int) by omega)]
 simp only [cond_false]
 rw [loop_big (o := .inl ((v * 64 + y1) * 64 + y2)) 3 ?_ (by omega)]
 ·rfl
 ·rw [loopN_next (tails_step hl h0 (by omega) (by omega) hin (by omega) h1 e1), loopN_next (tails_step hl h0 (by omega) (by omega) hin (by omega) h2 (by rw [← e2]; congr 1))]
  exact loopN_out (by simp only; rw [dF (by omega)]; rfl)
theorem tails_3 {b : List Int} {at' v y1 y2 y3 : Int} (hl : b.length ≤ 1000000) (h0 : 0 ≤ at') (hin : at' + 3 < b.length) (hv : 0 ≤ v ∧ v < 64) (h1 : 0 ≤ y1 ∧ y1 < 64) (e1 : nth b (at' + 1) = 128 + y1) (h2 : 0 ≤ y2 ∧ y2 < 64) (e2 : nth b (at' + 2) = 128 + y2) (h3 : 0 ≤ y3 ∧ y3 < 64) (e3 : nth b (at' + 3) = 128 + y3) : exergueref01_tails b at' 3 v = some (((v * 64 + y1) * 64 + y2) * 64 + y3) := by
 unfold exergueref01_tails
 rw [w64 (n := at' + 3) (by omega) (by omega), dF (show ¬ at' + 3 ≥ (b.length : Int) by omega)]
 simp only [cond_false]
 rw [loop_big (o := .inl (((v * 64 + y1) * 64 + y2) * 64 + y3)) 4 ?_ (by omega)]
 ·rfl
 ·rw [loopN_next (tails_step hl h0 (by omega) (by omega) hin (by omega) h1 e1), loopN_next (tails_step hl h0 (by omega) (by omega) hin (by omega) h2 (by rw [← e2]; congr 1)), loopN_next (tails_step hl h0 (by omega) (by omega) hin (by omega) h3 (by rw [← e3]; congr 1))]
  exact loopN_out (by simp only; rw [dF (by omega)]; rfl)
theorem nth_off {pre l : List Int} {j : Nat} (hj : j < l.length) : nth (pre ++ l) ((pre.length : Int) + j) = nth l (j : Int) := by
 rw [show (pre.length : Int) + (j : Int) = ((pre.length + j : Nat) : Int) by omega, nth_nat (by simp; omega), nth_nat hj]
 simp
theorem one_full {pre rest : List Int} {x : Int} (hr : isRb x = true) (hl : pre.length + rest.length ≤ 900000) : exergueref01_one (pre ++ (enc1 x ++ rest)) (pre.length : Int) = some x := by
 have hb := isRb_iff.1 hr
 have h4 := enc1_len x
 have hlen : (pre ++ (enc1 x ++ rest)).length ≤ 1000000 := by simp; omega
 have hat : ∀ j : Nat, j < (enc1 x ++ rest).length → nth (pre ++ (enc1 x ++ rest)) ((pre.length : Int) + j) = nth (enc1 x ++ rest) (j : Int) := fun j hj => nth_off hj
 unfold exergueref01_one
 by_cases h1 : x < 128
 ·have he : enc1 x = [x] := by unfold enc1; rw [if_pos h1]
  rw [he] at hat hlen ⊢
  have e0 := hat 0 (by simp)
  simp only [Int.add_zero, Int.natCast_zero] at e0
  rw [inR_int (by omega) (by simp; omega), e0]
  have e0' : nth ([x] ++ rest) 0 = x := rfl
  rw [e0', w64 (n := x) (by omega) (by omega), dT h1, dF (show ¬ x ≥ 192 by omega), dF (show ¬ x ≥ 224 by omega), dF (show ¬ x ≥ 240 by omega)]
  simp only [cond_true, cond_false, Option.bind_some]
  rw [w32 (n := x) (by omega) (by omega), is1 (by omega) (by omega), hr, dF (show ¬ x < 0 by omega)]
  rfl
 ·by_cases h2 : x < 2048
  ·have he : enc1 x = [192 + x / 64, 128 + x % 64] := by unfold enc1; rw [if_neg h1, if_pos h2]
   rw [he] at hat hlen ⊢
   have e0 := hat 0 (by simp)
   have e1 := hat 1 (by simp)
   simp only [Int.add_zero, Int.natCast_zero] at e0
   have e0' : nth ([192 + x / 64, 128 + x % 64] ++ rest) 0 = 192 + x / 64 := rfl
   have e1' : nth ([192 + x / 64, 128 + x % 64] ++ rest) (1 : Nat) = 128 + x % 64 := rfl
   rw [inR_int (by omega) (by simp; omega), e0, e0', w64 (n := 192 + x / 64) (by omega) (by omega), dF (show ¬ 192 + x / 64 < 128 by omega), dT (show 192 + x / 64 ≥ 192 by omega), dT (show 192 + x / 64 < 224 by omega), dF (show ¬ 192 + x / 64 ≥ 224 by omega), dF (show ¬ 192 + x / 64 ≥ 240 by omega), show 192 + x / 64 - 192 = x / 64 by omega, w64 (n := x / 64) (by omega) (by omega)]
   rw [tails_1 hlen (by omega) (by simp; omega) (by omega) (show 0 ≤ x % 64 ∧ x % 64 < 64 by omega) (e1.trans e1'), show x / 64 * 64 + x % 64 = x by omega]
   simp only [cond_true, cond_false, Option.bind_some]
   rw [w32 (n := x) (by omega) (by omega), is1 (by omega) (by omega), hr, dF (show ¬ x < 128 by omega)]
   rfl
  ·by_cases h3 : x < 65536
   ·have he : enc1 x = [224 + x / 4096, 128 + x / 64 % 64, 128 + x % 64] := by unfold enc1; rw [if_neg h1, if_neg h2, if_pos h3]
    rw [he] at hat hlen ⊢
    have e0 := hat 0 (by simp)
    have e1 := hat 1 (by simp)
    have e2 := hat 2 (by simp)
    simp only [Int.add_zero, Int.natCast_zero] at e0
    have e0' : nth ([224 + x / 4096, 128 + x / 64 % 64, 128 + x % 64] ++ rest) 0 = 224 + x / 4096 := rfl
    have e1' : nth ([224 + x / 4096, 128 + x / 64 % 64, 128 + x % 64] ++ rest) (1 : Nat) = 128 + x / 64 % 64 := rfl
    have e2' : nth ([224 + x / 4096, 128 + x / 64 % 64, 128 + x % 64] ++ rest) (2 : Nat) = 128 + x % 64 := rfl
    rw [inR_int (by omega) (by simp; omega), e0, e0', w64 (n := 224 + x / 4096) (by omega) (by omega), dF (show ¬ 224 + x / 4096 < 128 by omega), dT (show 224 + x / 4096 ≥ 192 by omega), dF (show ¬ 224 + x / 4096 < 224 by omega), dT (show 224 + x / 4096 ≥ 224 by omega), dT (show 224 + x / 4096 < 240 by omega), dF (show ¬ 224 + x / 4096 ≥ 240 by omega), show 224 + x / 4096 - 224 = x / 4096 by omega, w64 (n := x / 4096) (by omega) (by omega)]
    rw [tails_2 hlen (by omega) (by simp; omega) (by omega) (show 0 ≤ x / 64 % 64 ∧ x / 64 % 64 < 64 by omega) (e1.trans e1') (show 0 ≤ x % 64 ∧ x % 64 < 64 by omega) (e2.trans e2'), show (x / 4096 * 64 + x / 64 % 64) * 64 + x % 64 = x by omega]
    simp only [cond_true, cond_false, Option.bind_some]
    rw [w32 (n := x) (by omega) (by omega), is1 (by omega) (by omega), hr, dF (show ¬ x < 2048 by omega)]
    rfl
   ·have he : enc1 x = [240 + x / 262144, 128 + x / 4096 % 64, 128 + x / 64 % 64, 128 + x % 64] := by unfold enc1; rw [if_neg h1, if_neg h2, if_neg h3]
    rw [he] at hat hlen ⊢
    have e0 := hat 0 (by simp)
    have e1 := hat 1 (by simp)
    have e2 := hat 2 (by simp)
    have e3 := hat 3 (by simp)
    simp only [Int.add_zero, Int.natCast_zero] at e0
    have e0' : nth ([240 + x / 262144, 128 + x / 4096 % 64, 128 + x / 64 % 64, 128 + x % 64] ++ rest) 0 = 240 + x / 262144 := rfl
    have e1' : nth ([240 + x / 262144, 128 + x / 4096 % 64, 128 + x / 64 % 64, 128 + x % 64] ++ rest) (1 : Nat) = 128 + x / 4096 % 64 := rfl
    have e2' : nth ([240 + x / 262144, 128 + x / 4096 % 64, 128 + x / 64 % 64, 128 + x % 64] ++ rest) (2 : Nat) = 128 + x / 64 % 64 := rfl
    have e3' : nth ([240 + x / 262144, 128 + x / 4096 % 64, 128 + x / 64 % 64, 128 + x % 64] ++ rest) (3 : Nat) = 128 + x % 64 := rfl
    rw [inR_int (by omega) (by simp; omega), e0, e0', w64 (n := 240 + x / 262144) (by omega) (by omega), dF (show ¬ 240 + x / 262144 < 128 by omega), dT (show 240 + x / 262144 ≥ 192 by omega), dF (show ¬ 240 + x / 262144 < 224 by omega), dT (show 240 + x / 262144 ≥ 224 by omega), dF (show ¬ 240 + x / 262144 < 240 by omega), dT (show 240 + x / 262144 ≥ 240 by omega), dT (show 240 + x / 262144 < 248 by omega), show 240 + x / 262144 - 240 = x / 262144 by omega, w64 (n := x / 262144) (by omega) (by omega)]
    rw [tails_3 hlen (by omega) (by simp; omega) (by omega) (show 0 ≤ x / 4096 % 64 ∧ x / 4096 % 64 < 64 by omega) (e1.trans e1') (show 0 ≤ x / 64 % 64 ∧ x / 64 % 64 < 64 by omega) (e2.trans e2') (show 0 ≤ x % 64 ∧ x % 64 < 64 by omega) (e3.trans e3'), show ((x / 262144 * 64 + x / 4096 % 64) * 64 + x / 64 % 64) * 64 + x % 64 = x by omega]
    simp only [cond_true, cond_false, Option.bind_some]
    rw [w32 (n := x) (by omega) (by omega), is1 (by omega) (by omega), hr, dF (show ¬ x < 65536 by omega)]
    rfl
theorem encL1_app (x y : List Int) : encL1 (x ++ y) = encL1 x ++ encL1 y := by unfold encL1; rw [List.flatMap_append]
theorem rdecode_full {L : List Int} (hL : L.all isRb = true) (hl : L.length ≤ 20000) : exergueref01_Decode (encL1 L) = some (L, 0, 0) := by
 have hE := encL1_len L
 unfold exergueref01_Decode
 generalize hX : encL1 L = X at hE
 generalize hst : (fun (s63 : Int × (List Int)) => ((bif (decide (s63.1 < (X.length : Int))) then (Option.bind (exergueref01_one X s63.1) fun y105 => (bif (decide (y105 < 0)) then (some (.inr (.inr (([] : List Int), s63.1, 3)))) else (bif room (s63.2.length + ([(IntKind.wrap .i32 y105)] : List Int).length) then (Option.bind (exergueref01_Size (IntKind.wrap .i32 y105)) fun y115 => (some (.inl ((IntKind.wrap .i64 (s63.1 + y115)), (s63.2 ++ ([(IntKind.wrap .i32 y105)] : List Int)))))) else none))) else (some (.inr (.inl s63.2)))) : Option ((Int × (List Int)) ⊕ ((List Int) ⊕ ((List Int) × Int × Int))))) = step
 obtain ⟨o, h1, h2⟩ := loop_count (step := step) L.length (fun j => (((encL1 (L.take j)).length : Int), L.take j)) (fun _ => True) (fun o => o = .inl L) (s0 := (0, [])) (by simp [encL1]) trivial (fun j hj _ => by
  left
  refine ⟨?_, trivial⟩
  have hrj : isRb L[j] = true := List.all_eq_true.1 hL _ (List.getElem_mem hj)
  have hb := isRb_iff.1 hrj
  have hX2 : X = encL1 (L.take j) ++ (enc1 L[j] ++ encL1 (L.drop (j + 1))) := by
   rw [← hX]
   have e1 : encL1 (L.drop j) = enc1 L[j] ++ encL1 (L.drop (j + 1)) := by unfold encL1; rw [List.drop_eq_getElem_cons hj, List.flatMap_cons]
   rw [← e1, ← encL1_app, List.take_append_drop]
  have hsz := enc1_size hrj
  have hne : 0 < sizeN L[j] := by
   unfold sizeN; rw [hrj]; simp only [if_true]; split; omega; split; omega; split <;> omega
  have h4 := enc1_len L[j]
  have hlt : (encL1 (L.take j)).length + ((enc1 L[j]).length + (encL1 (L.drop (j + 1))).length) = X.length := by rw [hX2, List.length_append, List.length_append]
  have hone : exergueref01_one X ((encL1 (L.take j)).length : Int) = some L[j] := by rw [hX2]; exact one_full hrj (by omega)
  have hnext : encL1 (L.take (j + 1)) = encL1 (L.take j) ++ enc1 L[j] := by
   rw [List.take_succ_eq_append_getElem hj, encL1_app]; simp [encL1]
  subst hst
  simp only
  rw [dT (by omega), hone]
  simp only [cond_true, Option.bind_some]
  rw [dF (show ¬ L[j] < 0 by omega), w32 (n := L[j]) (by omega) (by omega), size1 (by omega) (by omega), room_of (by simp; omega)]
  simp only [cond_true, cond_false, Option.bind_some]
  rw [w64 (by omega) (by omega), hnext, List.take_succ_eq_append_getElem hj, List.length_append, ← hsz, Int.natCast_add]) (fun _ => ⟨.inl L, by subst hst; simp only; rw [List.take_length, hX, dF (by omega)]; rfl, rfl⟩) (by omega)
 rw [h1, h2]
 rfl
theorem enc1_byte {x c : Int} (hr : isRb x = true) (hc : c ∈ enc1 x) : 0 ≤ c ∧ c < 256 := by
 have hb := isRb_iff.1 hr
 unfold enc1 at hc
 split at hc
 ·simp at hc; omega
 ·split at hc
  ·simp at hc; omega
  ·split at hc <;> (simp at hc; omega)
theorem bytes_back : ∀ {l : List Int}, (∀ c ∈ l, 0 ≤ c ∧ c < 256) → bytesI (bytesS l) = l
 | [], _ => rfl
 | c :: l, h => by
  have h1 := h c (List.mem_cons_self ..)
  have ih := bytes_back (l := l) (fun x hx => h x (List.mem_cons_of_mem _ hx))
  unfold bytesI bytesS at *
  simp only [List.map_cons, List.map_map] at ih ⊢
  congr 1
  have h3 : (UInt8.ofNat c.toNat).toNat = c.toNat % 256 := UInt8.toNat_ofNat'
  rw [h3]; omega
theorem enc_back {L : List Int} (hL : L.all isRb = true) : bytesI (bytesS (encL1 L)) = encL1 L := by
 refine bytes_back (fun c hc => ?_)
 unfold encL1 at hc
 obtain ⟨x, hx, hcx⟩ := List.mem_flatMap.1 hc
 exact enc1_byte (List.all_eq_true.1 hL x hx) hcx
theorem bytesS_app (x y : List Int) : bytesS (x ++ y) = bytesS x ++ bytesS y := by simp [bytesS]
theorem rune_enc {x : Int} (hr : isRb x = true) : (Utf8.encode x).data.toList = bytesS (enc1 x) := by
 have hb := isRb_iff.1 hr
 have hv : Utf8.valid x = true := by
  unfold Utf8.valid
  simp only [Bool.or_eq_true, Bool.and_eq_true, decide_eq_true_eq]
  omega
 unfold Utf8.encode enc1 bytesS
 simp only [hv, if_true]
 by_cases h1 : x < 128
 ·rw [if_pos (by omega), if_pos h1]; rfl
 ·rw [if_neg (by omega), if_neg h1]
  by_cases h2 : x < 2048
  ·rw [if_pos (by omega), if_pos h2]
   simp only [List.map_cons, List.map_nil]
   rw [show (192 + x / 64).toNat = 192 + x.toNat / 64 by omega, show (128 + x % 64).toNat = 128 + x.toNat % 64 by omega]
  ·rw [if_neg (by omega), if_neg h2]
   by_cases h3 : x < 65536
   ·rw [if_pos (by omega), if_pos h3]
    simp only [List.map_cons, List.map_nil]
    rw [show (224 + x / 4096).toNat = 224 + x.toNat / 4096 by omega, show (128 + x / 64 % 64).toNat = 128 + x.toNat / 64 % 64 by omega, show (128 + x % 64).toNat = 128 + x.toNat % 64 by omega]
   ·rw [if_neg (by omega), if_neg h3]
    simp only [List.map_cons, List.map_nil]
    rw [show (240 + x / 262144).toNat = 240 + x.toNat / 262144 by omega, show (128 + x / 4096 % 64).toNat = 128 + x.toNat / 4096 % 64 by omega, show (128 + x / 64 % 64).toNat = 128 + x.toNat / 64 % 64 by omega, show (128 + x % 64).toNat = 128 + x.toNat % 64 by omega]
theorem runes_enc : ∀ {l : List Int}, l.all isRb = true → runesS l = bytesS (encL1 l)
 | [], _ => rfl
 | c :: l, h => by
  rw [List.all_cons, Bool.and_eq_true] at h
  have ih := runes_enc h.2
  have e1 : encL1 (c :: l) = enc1 c ++ encL1 l := rfl
  have e2 : runesS (c :: l) = (Utf8.encode c).data.toList ++ runesS l := rfl
  rw [e1, e2, ih, rune_enc h.1, bytesS_app]
/-! The text of a pattern, as runes. -/
def spc (x : Int) : Bool := decide (x = 35 ∨ x = 64 ∨ x = 44 ∨ x = 46 ∨ x = 59 ∨ x = 42 ∨ x = 37 ∨ x = 45 ∨ x = 43 ∨ x = 39 ∨ x = 69 ∨ x = 164 ∨ (48 ≤ x ∧ x ≤ 57))
theorem spc1 (x : Int) : exergueref10_Special x = some (spc x) := by
 unfold exergueref10_Special
 generalize hS : ([35, 64, 44, 46, 59, 42, 37, 45, 43, 39, 69] : List UInt8) = S
 by_cases h1 : (48 ≤ x ∧ x ≤ 57) ∨ x = 164
 ·have h2 : spc x = true := by unfold spc; rw [dT]; omega
  rw [h2]
  by_cases a : x ≥ 48 <;> by_cases b : x ≤ 57 <;> by_cases c : x = 164 <;> first | omega | simp [a, b, c, joinX]
 ·have hA : (Option.bind (bif (decide (x ≥ 48)) then (bif (decide (x ≤ 57)) then (some true) else (some (decide (x = 164)))) else (some (decide (x = 164)))) fun (s33 : Bool) => (bif s33 then (some (.inr true)) else (some (.inl ()) : Option (Unit ⊕ Bool)))) = some (.inl ()) := by
   by_cases a : x ≥ 48 <;> by_cases b : x ≤ 57 <;> by_cases c : x = 164 <;> first | omega | simp [a, b, c]
  rw [hA]
  simp only [Option.bind_some, joinX]
  obtain ⟨o, g1, g2⟩ := loop_count (step := (fun (s92 : Int) => (bif (decide (s92 < 11)) then (bif inR s92 S.length then (bif (decide (((IntKind.wrap .i32 ((((S.getD (s92 : Int).toNat 0).toNat : Nat) : Int)))) = x)) then (some (.inr (.inr true))) else (some (.inl (IntKind.wrap .i64 (s92 + 1))))) else none) else (some (.inr (.inl ()))) : Option (Int ⊕ (Unit ⊕ Bool))))) 11 (fun i => (i : Int)) (fun i => ∀ j : Nat, j < i → nth ([35, 64, 44, 46, 59, 42, 37, 45, 43, 39, 69] : List Int) (j : Int) ≠ x) (fun o => o = if spc x = true then .inr true else .inl ()) (s0 := 0) rfl (fun j hj => by omega) (fun i hi hI => by
   have hv : IntKind.wrap .i32 (((S.getD (i : Int).toNat 0).toNat : Nat) : Int) = nth ([35, 64, 44, 46, 59, 42, 37, 45, 43, 39, 69] : List Int) (i : Int) := by
    subst hS
    have key : ∀ k : Fin 11, IntKind.wrap .i32 (((([35, 64, 44, 46, 59, 42, 37, 45, 43, 39, 69] : List UInt8).getD (k.val : Int).toNat 0).toNat : Nat) : Int) = nth ([35, 64, 44, 46, 59, 42, 37, 45, 43, 39, 69] : List Int) (k.val : Int) := by decide +kernel
    exact key ⟨i, hi⟩
   have hSl : S.length = 11 := by subst hS; rfl
   rw [dT (show (i : Int) < 11 by omega), inR_nat (by omega), hv, w64 (n := (i : Int) + 1) (by omega) (by omega)]
   simp only [cond_true]
   by_cases c : nth ([35, 64, 44, 46, 59, 42, 37, 45, 43, 39, 69] : List Int) (i : Int) = x
   ·right
    rw [dT c]
    refine ⟨_, rfl, ?_⟩
    have hs : spc x = true := by
     unfold spc
     rw [dT]
     have hm : x ∈ ([35, 64, 44, 46, 59, 42, 37, 45, 43, 39, 69] : List Int) := by rw [← c, nth_nat (by simp; omega)]; exact List.getElem_mem _
     simp at hm
     omega
    rw [if_pos hs]
   ·left
    rw [dF c]
    refine ⟨by simp, fun j hj => ?_⟩
    by_cases e : j = i
    ·subst e; exact c
    ·exact hI j (by omega)) (fun hI => ⟨.inl (), by rw [dF (by omega)]; rfl, by
   have n0 := hI 0 (by omega); have n1 := hI 1 (by omega); have n2 := hI 2 (by omega); have n3 := hI 3 (by omega); have n4 := hI 4 (by omega); have n5 := hI 5 (by omega); have n6 := hI 6 (by omega); have n7 := hI 7 (by omega); have n8 := hI 8 (by omega); have n9 := hI 9 (by omega); have n10 := hI 10 (by omega)
   have hs : spc x = false := by
    unfold spc
    refine dF ?_
    simp [nth] at n0 n1 n2 n3 n4 n5 n6 n7 n8 n9 n10
    omega
   rw [if_neg (by simp [hs])]⟩) (by omega)
  rw [g1, g2]
  cases spc x <;> rfl
theorem times1 {c : UInt8} {n : Int} (h0 : 0 ≤ n) (h1 : n ≤ 1000) : exergueref10_times [c] n = some (List.replicate n.toNat c) := by
 unfold exergueref10_times
 obtain ⟨m, rfl⟩ : ∃ m : Nat, n = m := ⟨n.toNat, by omega⟩
 obtain ⟨o, h2, h3⟩ := loop_count (step := fun (s27 : (List UInt8) × Int) => (bif (decide (s27.2 < (m : Int))) then (bif room (s27.1.length + ([c] : List UInt8).length) then (some (.inl ((s27.1 ++ ([c] : List UInt8)), (IntKind.wrap .i64 (s27.2 + 1))))) else none) else (some (.inr s27.1)))) m (fun i => (List.replicate i c, (i : Int))) (fun _ => True) (fun o => o = List.replicate m c) (s0 := ([], 0)) (by simp) trivial (fun i hi _ => by
  left
  refine ⟨?_, trivial⟩
  simp only
  rw [dT (by omega), room_of (by simp; omega), w64 (by omega) (by omega)]
  simp only [cond_true]
  congr 1
  rw [← List.replicate_succ']
  rfl) (fun _ => ⟨_, by simp only; rw [dF (by omega)]; rfl, rfl⟩) (by omega)
 rw [h2, h3]
 simp
theorem bytesS_rep (n : Nat) (c : Int) : bytesS (List.replicate n c) = List.replicate n (UInt8.ofNat c.toNat) := by simp [bytesS]
def dgt (ha k : Nat) : Int := if k < ha then 35 else 48
def sufR (g1 g2 : Int) (t ha : Nat) : Nat → List Int
 | 0 => []
 | n + 1 => dgt ha (t - 1 - n) :: ((if grpB g1 g2 n = true then [44] else []) ++ sufR g1 g2 t ha n)
theorem sufR_succ (g1 g2 : Int) (t ha n : Nat) : sufR g1 g2 t ha (n + 1) = dgt ha (t - 1 - n) :: ((if grpB g1 g2 n = true then [44] else []) ++ sufR g1 g2 t ha n) := rfl
theorem sufR_len (g1 g2 : Int) (t ha : Nat) : ∀ n, (sufR g1 g2 t ha n).length ≤ 2 * n
 | 0 => by simp [sufR]
 | n + 1 => by
  have := sufR_len g1 g2 t ha n
  unfold sufR
  split <;> simp <;> omega
theorem sufR_eq (g1 g2 : Int) (t ha : Nat) : ∀ n, n ≤ t → plcs g1 g2 t ha (t - n) ++ ((if n < t ∧ grpB g1 g2 n = true then [44] else []) ++ sufR g1 g2 t ha n) = plcs g1 g2 t ha t
 | 0, _ => by
  have : grpB g1 g2 ((0 : Nat) : Int) = false := by
   cases h : grpB g1 g2 ((0 : Nat) : Int)
   ·rfl
   ·have := (grpB_iff.1 h); omega
  rw [this]
  simp [sufR]
 | n + 1, h => by
  have ih := sufR_eq g1 g2 t ha n (by omega)
  rw [← ih, show t - n = (t - (n + 1)) + 1 by omega, plcs_succ]
  rw [sufR_succ]
  unfold plc dgt
  rw [show ((t : Int) - (t - (n + 1) : Nat)) = ((n + 1 : Nat) : Int) by omega, show t - 1 - n = t - (n + 1) by omega]
  by_cases g : grpB g1 g2 ((n + 1 : Nat) : Int) = true <;> by_cases g' : grpB g1 g2 (n : Int) = true <;> by_cases h1 : n + 1 < t
  all_goals (first | rw [if_pos (c := 0 < t - (n + 1) ∧ _) ⟨by omega, g⟩] | rw [if_neg (c := 0 < t - (n + 1) ∧ _) (fun hh => g hh.2)] | rw [if_neg (c := 0 < t - (n + 1) ∧ _) (fun hh => absurd hh.1 (by omega))])
  all_goals (first | rw [if_pos (c := n + 1 < t ∧ _) ⟨by omega, g⟩] | rw [if_neg (c := n + 1 < t ∧ _) (fun hh => g hh.2)] | rw [if_neg (c := n + 1 < t ∧ _) (fun hh => absurd hh.1 (by omega))])
  all_goals (first | rw [if_pos (c := n < t ∧ _) ⟨by omega, g'⟩, if_pos g'] | rw [if_neg (c := n < t ∧ _) (fun hh => g' hh.2), if_neg g'])
  all_goals simp [List.append_assoc]
theorem sufR_all (g1 g2 : Int) (t ha : Nat) : sufR g1 g2 t ha t = plcs g1 g2 t ha t := by
 have := sufR_eq g1 g2 t ha t (by omega)
 rw [if_neg (by omega), Nat.sub_self] at this
 simpa [plcs] using this
theorem number1 {p : St23} (hc : cntP p) (hn : canon (numsP p)) : exergueref10_Number p = some (bytesS (numL p)) := by
 obtain ⟨⟨a1, a2⟩, ⟨b1, b2⟩, ⟨c1, c2⟩, ⟨d1, d2⟩, e1, f1, ⟨g1, g2⟩, ⟨h1, h2⟩, ⟨i1, i2⟩⟩ := hc
 obtain ⟨n1, n2, n3, n4, n5, n6, n7, n8, n9, n10, n11⟩ := hn
 unfold exergueref10_Number
 obtain ⟨ha, hha⟩ : ∃ m : Nat, p.Hash_ = m := ⟨p.Hash_.toNat, by omega⟩
 obtain ⟨mi, hmi⟩ : ∃ m : Nat, p.MinInt_ = m := ⟨p.MinInt_.toNat, by omega⟩
 have hpe : plL p = plcs p.G1_ p.G2_ (ha + mi) ha (ha + mi) := by
  unfold plL; rw [hha, hmi, show ((ha : Int) + mi).toNat = ha + mi by omega, show (ha : Int).toNat = ha by omega]
 rw [hha, hmi, w64 (n := (ha : Int) + mi) (by omega) (by omega)]
 generalize hst : (fun (s519 : (List UInt8) × Int) => ((bif (decide (s519.2 < (ha : Int) + mi)) then (Option.bind (Option.bind (Option.bind (bif (decide (p.G1_ > 0)) then (bif (decide (s519.2 = p.G1_)) then (some true) else (bif (decide (s519.2 > p.G1_)) then (bif (decide (p.G2_ > 0)) then (bif nz p.G2_ then (some ((decide (((Int.tmod (IntKind.wrap .i64 (s519.2 - p.G1_)) p.G2_)) = 0)))) else none) else (some false)) else (some false))) else (some false)) fun (s1003 : Bool) => (bif s1003 then (bif room (([44] : List UInt8).length + s519.1.length) then (some (([44] : List UInt8) ++ s519.1)) else none) else (some s519.1))) fun (s985 : (List UInt8)) => (bif (decide (s519.2 < (mi : Int))) then (bif room (([48] : List UInt8).length + s985.length) then (some (([48] : List UInt8) ++ s985)) else none) else (bif room (([35] : List UInt8).length + s985.length) then (some (([35] : List UInt8) ++ s985)) else none))) fun (s945 : (List UInt8)) => (some (.inl (s945, (IntKind.wrap .i64 (s519.2 + 1)))))) else (some (.inr s519.1))) : Option (((List UInt8) × Int) ⊕ (List UInt8)))) = step
 obtain ⟨o, q1, q2⟩ := loop_count (step := step) (ha + mi) (fun n => (bytesS (sufR p.G1_ p.G2_ (ha + mi) ha n), (n : Int))) (fun _ => True) (fun o => o = bytesS (plL p)) (s0 := ([], 0)) rfl trivial (fun n hi _ => by
  left
  refine ⟨?_, trivial⟩
  subst hst
  have hl := sufR_len p.G1_ p.G2_ (ha + mi) ha n
  have hbl : (bytesS (sufR p.G1_ p.G2_ (ha + mi) ha n)).length = (sufR p.G1_ p.G2_ (ha + mi) ha n).length := by simp [bytesS]
  have hsu : sufR p.G1_ p.G2_ (ha + mi) ha (n + 1) = dgt ha (ha + mi - 1 - n) :: ((if grpB p.G1_ p.G2_ n = true then [44] else []) ++ sufR p.G1_ p.G2_ (ha + mi) ha n) := rfl
  rw [hsu]
  generalize sufR p.G1_ p.G2_ (ha + mi) ha n = P at *
  simp only
  rw [dT (show (n : Int) < (ha : Int) + mi by omega), w64 (n := (n : Int) + 1) (by omega) (by omega)]
  have hG : (bif (decide (p.G1_ > 0)) then (bif (decide ((n : Int) = p.G1_)) then (some true) else (bif (decide ((n : Int) > p.G1_)) then (bif (decide (p.G2_ > 0)) then (bif nz p.G2_ then (some ((decide (((Int.tmod (IntKind.wrap .i64 ((n : Int) - p.G1_)) p.G2_)) = 0)))) else none) else (some false)) else (some false))) else (some false)) = some (grpB p.G1_ p.G2_ n) := by
   unfold grpB
   by_cases c1 : p.G1_ > 0
   ·rw [dT c1, dT (show 1 ≤ p.G1_ by omega)]
    by_cases c2 : (n : Int) = p.G1_
    ·rw [dT c2, dT (show p.G1_ ≤ (n : Int) by omega)]; rfl
    ·rw [dF c2]
     by_cases c3 : (n : Int) > p.G1_
     ·rw [dT c3, dT (show p.G1_ ≤ (n : Int) by omega), w64 (n := (n : Int) - p.G1_) (by omega) (by omega), Int.tmod_eq_emod_of_nonneg (by omega)]
      by_cases c4 : p.G2_ > 0
      ·rw [dT c4, show nz p.G2_ = true by unfold nz; rw [dF (by omega)]; rfl]; simp
      ·rw [dF c4]; rfl
     ·rw [dF c3, dF (show ¬ p.G1_ ≤ (n : Int) by omega)]; rfl
   ·rw [dF c1, dF (show ¬ 1 ≤ p.G1_ by omega)]; rfl
  rw [hG]
  have hrm : ∀ (x : List UInt8) (c : UInt8), x.length ≤ 1000 → room (([c] : List UInt8).length + x.length) = true := fun x c hx => room_of (by simp; omega)
  have hA : (Option.bind (some (grpB p.G1_ p.G2_ n)) fun (s1003 : Bool) => (bif s1003 then (bif room (([44] : List UInt8).length + (bytesS P).length) then (some (([44] : List UInt8) ++ bytesS P)) else none) else (some (bytesS P)))) = some (bytesS ((if grpB p.G1_ p.G2_ n = true then [44] else []) ++ P)) := by
   rw [hrm _ _ (by omega)]
   cases grpB p.G1_ p.G2_ n <;> rfl
  rw [hA]
  simp only [Option.bind_some, cond_true]
  have hL : (bytesS ((if grpB p.G1_ p.G2_ n = true then [44] else []) ++ P)).length ≤ 1000 := by
   unfold bytesS
   rw [List.length_map, List.length_append]
   have : (if grpB p.G1_ p.G2_ n = true then ([44] : List Int) else []).length ≤ 1 := by split <;> simp
   omega
  rw [hrm _ _ hL, hrm _ _ hL]
  unfold dgt
  by_cases c1 : n < mi
  ·rw [dT (show (n : Int) < mi by omega), if_neg (c := ha + mi - 1 - n < ha) (by omega)]; rfl
  ·rw [dF (show ¬ (n : Int) < mi by omega), if_pos (c := ha + mi - 1 - n < ha) (by omega)]; rfl) (fun _ => ⟨_, by subst hst; simp only; rw [dF (by omega)]; rfl, by rw [sufR_all, hpe]⟩) (by omega)
 rw [q1, q2]
 simp only [Option.bind_some]
 have hpl : (plL p).length ≤ 160 := by
  have := plcs_len p.G1_ p.G2_ (ha + mi) ha (ha + mi)
  rw [hpe]; omega
 have hbl : (bytesS (plL p)).length ≤ 160 := by simp [bytesS]; exact hpl
 rw [times1 g1 (by omega), w64 (n := p.MaxSig_ - p.MinSig_) (by omega) (by omega), times1 (by omega) (by omega), times1 c1 (by omega), w64 (n := p.MaxFrac_ - p.MinFrac_) (by omega) (by omega), times1 (by omega) (by omega), times1 i1 (by omega)]
 simp only [Option.bind_some]
 have hS : bytesS (sgL p) = List.replicate p.MinSig_.toNat 64 ++ List.replicate (p.MaxSig_ - p.MinSig_).toNat 35 := by
  unfold sgL; rw [bytesS_app, bytesS_rep, bytesS_rep]; rfl
 have hSl : (sgL p).length ≤ 90 := by unfold sgL; simp; omega
 rw [room_of (by simp; omega), room_of (by simp; omega)]
 simp only [cond_true]
 rw [← hS]
 have hF : (bif (decide (p.MaxFrac_ > 0)) then (bif room ((bytesS (sgL p) ++ bytesS (plL p)).length + ([46] : List UInt8).length) then (bif room ((((bytesS (sgL p) ++ bytesS (plL p)) ++ ([46] : List UInt8))).length + (List.replicate p.MinFrac_.toNat (48 : UInt8)).length) then (bif room (((((((bytesS (sgL p) ++ bytesS (plL p)) ++ ([46] : List UInt8))) ++ List.replicate p.MinFrac_.toNat (48 : UInt8)))).length + (List.replicate (p.MaxFrac_ - p.MinFrac_).toNat (35 : UInt8)).length) then (some ((((((((bytesS (sgL p) ++ bytesS (plL p)) ++ ([46] : List UInt8))) ++ List.replicate p.MinFrac_.toNat (48 : UInt8))) ++ List.replicate (p.MaxFrac_ - p.MinFrac_).toNat (35 : UInt8))))) else none) else none) else none) else (some (bytesS (sgL p) ++ bytesS (plL p)))) = some (bytesS (sgL p ++ (plL p ++ frL p))) := by
  have hb2 : (bytesS (sgL p)).length ≤ 90 := by simp [bytesS]; exact hSl
  unfold frL
  by_cases h0 : p.MaxFrac_ = 0
  ·rw [dF (by omega), if_pos h0]; simp [bytesS_app]
  ·rw [dT (show p.MaxFrac_ > 0 by omega), if_neg h0, room_of (by simp; omega), room_of (by simp; omega), room_of (by simp; omega)]
   rw [bytesS_app, bytesS_app, show ∀ l : List Int, bytesS (46 :: l) = 46 :: bytesS l from fun _ => rfl, bytesS_app, bytesS_rep, bytesS_rep]
   simp [List.append_assoc]
 rw [hF]
 simp only [Option.bind_some]
 have hb3 : (bytesS (sgL p ++ (plL p ++ frL p))).length ≤ 400 := by
  have hfr : (frL p).length ≤ 90 := by unfold frL; split <;> simp; omega
  simp [bytesS]; omega
 have hN : numL p = (sgL p ++ (plL p ++ frL p)) ++ exL p := by
  unfold numL
  by_cases hs : 0 < p.MinSig_
  ·obtain ⟨z1, z2, z3, z4⟩ := n10 hs
   have e1 : plL p = [] := by rw [hpe]; have : ha + mi = 0 := by omega
                              rw [this]; rfl
   have e2 : frL p = [] := by unfold frL; rw [if_pos z4]
   rw [if_pos hs, e1, e2]; simp
  ·have e1 : sgL p = [] := by
    unfold sgL
    have hz : p.MinSig_ = 0 := by omega
    have := (n9 hz).1
    rw [hz, this]; rfl
   rw [if_neg hs, e1]; simp
 rw [hN]
 generalize sgL p ++ (plL p ++ frL p) = S at *
 unfold exL
 by_cases h0 : p.Exp_ = 0
 ·rw [dF (by omega), if_pos h0]; simp
 ·rw [dT (show p.Exp_ > 0 by omega), if_neg h0, room_of (by simp; omega), room_of (by simp; omega)]
  simp only [cond_true]
  cases hep : p.ExpPlus_ with
  | true =>
   simp only [cond_true, Option.bind_some]
   rw [room_of (by simp; omega), if_pos trivial, bytesS_app, show ∀ l : List Int, bytesS (69 :: l) = 69 :: bytesS l from fun _ => rfl, bytesS_app, bytesS_rep]
   simp [bytesS]
  | false =>
   simp only [cond_false, Option.bind_some]
   rw [room_of (by simp; omega), if_neg (by simp), bytesS_app, show ∀ l : List Int, bytesS (69 :: l) = 69 :: bytesS l from fun _ => rfl, bytesS_app, bytesS_rep]
   simp [bytesS]
/-! An affix as runes. -/
def qN (q : Bool) (t : St33) : Bool := if t.Kind_ = 0 ∧ t.R_ = 39 then q else (decide (t.Kind_ = 0) && spc t.R_)
def pcL (t : St33) : List Int := if t.Kind_ = 0 then (if t.R_ = 39 then [39, 39] else [t.R_]) else if t.Kind_ = 1 then [45] else if t.Kind_ = 2 then [43] else if t.Kind_ = 3 then [37] else if t.Kind_ = 4 then [164] else []
def affS (s : Bool × List Int) (t : St33) : Bool × List Int := (qN s.1 t, s.2 ++ ((if (qN s.1 t != s.1) = true then [39] else []) ++ pcL t))
def affF (l : List St33) : Bool × List Int := l.foldl affS (false, [])
def affL (l : List St33) : List Int := (affF l).2 ++ (if (affF l).1 = true then [39] else [])
theorem affF_succ {l : List St33} {i : Nat} (h : i < l.length) : affF (l.take (i + 1)) = affS (affF (l.take i)) l[i] := by
 unfold affF
 rw [List.take_succ_eq_append_getElem h, List.foldl_append]; rfl
def tokOk (l : List St33) : Bool := l.all (fun t => isRb t.R_)
theorem pcL_ok {t : St33} (h : isRb t.R_ = true) : (pcL t).all isRb = true ∧ (pcL t).length ≤ 2 := by
 unfold pcL
 split
 ·split
  ·exact ⟨by decide, by simp⟩
  ·exact ⟨by simp [h], by simp⟩
 ·split
  ·exact ⟨by decide, by simp⟩
  ·split
   ·exact ⟨by decide, by simp⟩
   ·split
    ·exact ⟨by decide, by simp⟩
    ·split
     ·exact ⟨by decide, by simp⟩
     ·exact ⟨by decide, by simp⟩
theorem pcL_len (t : St33) : (pcL t).length ≤ 2 := by
 unfold pcL; repeat' split
 all_goals simp
theorem affF_ok {l : List St33} (h : tokOk l = true) : ∀ i, i ≤ l.length → (affF (l.take i)).2.all isRb = true
 | 0, _ => by simp [affF]
 | i + 1, hi => by
  rw [affF_succ (by omega)]
  have hr : isRb (l[i].R_) = true := List.all_eq_true.1 h _ (List.getElem_mem _)
  have ih := affF_ok h i (by omega)
  have h39 : isRb 39 = true := by decide
  unfold affS
  simp only [List.all_append, ih, (pcL_ok hr).1, Bool.and_true, Bool.true_and]
  split <;> simp [h39]
theorem affF_len {l : List St33} : ∀ i, i ≤ l.length → (affF (l.take i)).2.length ≤ 3 * i
 | 0, _ => by simp [affF]
 | i + 1, hi => by
  rw [affF_succ (by omega)]
  have ih := affF_len (l := l) i (by omega)
  have := pcL_len l[i]
  unfold affS
  simp only [List.length_append]
  have : (if (qN (affF (l.take i)).1 l[i] != (affF (l.take i)).1) = true then ([39] : List Int) else []).length ≤ 1 := by split <;> simp
  omega
theorem affL_ok {l : List St33} (h : tokOk l = true) : (affL l).all isRb = true := by
 have := affF_ok h l.length (by omega)
 rw [List.take_length] at this
 unfold affL
 rw [List.all_append, this]
 split <;> decide
theorem affL_len (l : List St33) : (affL l).length ≤ 3 * l.length + 1 := by
 have := affF_len (l := l) l.length (by omega)
 rw [List.take_length] at this
 unfold affL
 rw [List.length_append]
 split <;> simp <;> omega
theorem bytesS_ln (l : List Int) : (bytesS l).length = l.length := by simp [bytesS]
theorem encB_len (l : List Int) : (bytesS (encL1 l)).length ≤ 4 * l.length := by rw [bytesS_ln]; exact encL1_len l
theorem encB_app (x y : List Int) : bytesS (encL1 (x ++ y)) = bytesS (encL1 x) ++ bytesS (encL1 y) := by rw [encL1_app, bytesS_app]
theorem written1 {l : List St33} (h : tokOk l = true) (hl : l.length ≤ 300) : exergueref10_written l = some (bytesS (encL1 (affL l))) := by
 unfold exergueref10_written
 generalize hst : (fun (s633 : (List UInt8) × Bool × Int) => ((bif (decide (s633.2.2 < (l.length : Int))) then (Option.bind (bif inR s633.2.2 l.length then (Option.bind (exergueref10_Special ((nth l s633.2.2).R_)) fun y1160 => (Option.bind (bif inR s633.2.2 l.length then (bif (decide (((nth l s633.2.2).Kind_) = 0)) then (bif inR s633.2.2 l.length then (some ((decide (((nth l s633.2.2).R_) = 39)))) else none) else (some false)) else none) fun (s1168 : Bool) => (Option.bind (bif inR s633.2.2 l.length then (bif (decide (((nth l s633.2.2).Kind_) = 0)) then (some y1160) else (some false)) else none) fun (s1182 : Bool) => (Option.bind (Option.bind (bif (!s1168) then (some (s1182 != s633.2.1)) else (some false)) fun (s1214 : Bool) => (bif s1214 then (bif room (s633.1.length + ([39] : List UInt8).length) then (some ((s633.1 ++ ([39] : List UInt8)), s1182)) else none) else (some (s633.1, s633.2.1)))) fun (s1206 : (List UInt8) × Bool) => (bif inR s633.2.2 l.length then (bif (decide (((nth l s633.2.2).Kind_) = 0)) then (bif inR s633.2.2 l.length then (Option.bind (exergueref10_text ((nth l s633.2.2).R_)) fun y1231 => (bif room (s1206.1.length + y1231.length) then (bif s1168 then (bif room ((s1206.1 ++ y1231).length + ([39] : List UInt8).length) then (some (((s1206.1 ++ y1231) ++ ([39] : List UInt8)), s1206.2)) else none) else (some ((s1206.1 ++ y1231), s1206.2))) else none)) else none) else (bif (decide (((nth l s633.2.2).Kind_) = 1)) then (bif room (s1206.1.length + ([45] : List UInt8).length) then (some ((s1206.1 ++ ([45] : List UInt8)), s1206.2)) else none) else (bif (decide (((nth l s633.2.2).Kind_) = 2)) then (bif room (s1206.1.length + ([43] : List UInt8).length) then (some ((s1206.1 ++ ([43] : List UInt8)), s1206.2)) else none) else (bif (decide (((nth l s633.2.2).Kind_) = 3)) then (bif room (s1206.1.length + ([37] : List UInt8).length) then (some ((s1206.1 ++ ([37] : List UInt8)), s1206.2)) else none) else (bif (decide (((nth l s633.2.2).Kind_) = 4)) then (Option.bind (exergueref10_text 164) fun y1254 => (bif room (s1206.1.length + y1254.length) then (some ((s1206.1 ++ y1254), s1206.2)) else none)) else (some (s1206.1, s1206.2))))))) else none))))) else none) fun (s1154 : (List UInt8) × Bool) => (some (.inl (s1154.1, s1154.2, (IntKind.wrap .i64 (s633.2.2 + 1)))))) else (some (.inr (s633.1, s633.2.1)))) : Option (((List UInt8) × Bool × Int) ⊕ ((List UInt8) × Bool)))) = step
 obtain ⟨o, q1, q2⟩ := loop_count (step := step) l.length (fun i => (bytesS (encL1 (affF (l.take i)).2), (affF (l.take i)).1, (i : Int))) (fun _ => True) (fun o => o = (bytesS (encL1 (affF l).2), (affF l).1)) (s0 := ([], false, 0)) rfl trivial (fun i hi _ => by
  left
  refine ⟨?_, trivial⟩
  have hr : isRb (l[i].R_) = true := List.all_eq_true.1 h _ (List.getElem_mem _)
  have hln := affF_len (l := l) i (by omega)
  have hbl := encB_len (affF (l.take i)).2
  rw [affF_succ hi]
  subst hst
  generalize affF (l.take i) = F at hln hbl
  obtain ⟨q, out⟩ := F
  simp only at hln hbl ⊢
  rw [dT (show (i : Int) < (l.length : Int) by omega), inR_nat hi, w64 (n := (i : Int) + 1) (by omega) (by omega), nth_nat hi]
  generalize l[i] = t at hr
  obtain ⟨k, r⟩ := t
  simp only at hr ⊢
  rw [spc1, text1 hr]
  simp only [Option.bind_some, cond_true]
  have hA : ∀ (s : Bool), ((Option.bind (bif (!(decide (k = 0) && decide (r = 39))) then (some (s != q)) else (some false)) fun (s1214 : Bool) => (bif s1214 then (bif room ((bytesS (encL1 out)).length + ([39] : List UInt8).length) then (some ((bytesS (encL1 out) ++ ([39] : List UInt8)), s)) else none) else (some (bytesS (encL1 out), q)))) : Option (List UInt8 × Bool)) = some (bytesS (encL1 (out ++ (if ((if k = 0 ∧ r = 39 then q else s) != q) = true then [39] else []))), if k = 0 ∧ r = 39 then q else s) := by
   intro s
   rw [room_of (by simp; omega)]
   by_cases h1 : k = 0 ∧ r = 39
   ·rw [dT h1.1, dT h1.2, if_pos h1]
    simp
   ·rw [show (decide (k = 0) && decide (r = 39)) = false by rw [← Bool.decide_and]; exact dF h1, if_neg h1]
    cases s <;> cases q <;> simp [encL1_app, bytesS_app] <;> rfl
  have hB : (bif (decide (k = 0)) then (some ((decide (r = 39)))) else (some false) : Option Bool) = some (decide (k = 0) && decide (r = 39)) := by cases decide (k = 0) <;> rfl
  have hC : (bif (decide (k = 0)) then (some (spc r)) else (some false) : Option Bool) = some (decide (k = 0) && spc r) := by cases decide (k = 0) <;> rfl
  rw [hB, hC]
  simp only [Option.bind_some]
  rw [hA]
  simp only [Option.bind_some]
  have hq : qN q ⟨k, r⟩ = if k = 0 ∧ r = 39 then q else (decide (k = 0) && spc r) := rfl
  unfold affS
  simp only
  rw [← hq]
  generalize qN q ⟨k, r⟩ = q'
  rw [← List.append_assoc]
  have hol : (out ++ (if (q' != q) = true then [39] else [])).length ≤ 3 * i + 1 := by
   rw [List.length_append]; split <;> simp <;> omega
  generalize out ++ (if (q' != q) = true then [39] else []) = out' at *
  have hbl' := encB_len out'
  have h164 : exergueref10_text 164 = some (bytesS (enc1 164)) := text1 (by decide)
  have hel : (bytesS (enc1 r)).length ≤ 4 := by rw [bytesS_ln]; exact enc1_len r
  have hel2 : (bytesS (enc1 164)).length ≤ 4 := by rw [bytesS_ln]; exact enc1_len 164
  rw [h164]
  simp only [Option.bind_some]
  rw [encB_app]
  unfold pcL
  simp only
  rw [room_of (by omega), room_of (by simp; omega), room_of (by simp; omega), room_of (by simp; omega)]
  by_cases k0 : k = 0
  ·rw [dT k0, if_pos k0]
   by_cases r9 : r = 39
   ·rw [dT r9, if_pos r9]; subst r9; simp; rfl
   ·rw [dF r9, if_neg r9]; simp [encL1]
  ·rw [dF k0, if_neg k0]
   by_cases k1 : k = 1
   ·rw [dT k1, if_pos k1]; rfl
   ·rw [dF k1, if_neg k1]
    by_cases k2 : k = 2
    ·rw [dT k2, if_pos k2]; rfl
    ·rw [dF k2, if_neg k2]
     by_cases k3 : k = 3
     ·rw [dT k3, if_pos k3, room_of (by simp; omega)]; rfl
     ·rw [dF k3, if_neg k3]
      by_cases k4 : k = 4
      ·rw [dT k4, if_pos k4]
       rw [room_of (n := (bytesS (encL1 out')).length + (bytesS (enc1 164)).length) (by omega)]
       simp [encL1]
      ·rw [dF k4, if_neg k4]; simp [encL1, bytesS]) (fun _ => ⟨_, by subst hst; simp only; rw [dF (by omega)]; rfl, by rw [List.take_length]⟩) (by omega)
 rw [q1, q2]
 simp only [Option.bind_some]
 have hln := affF_len (l := l) l.length (by omega)
 rw [List.take_length] at hln
 have hbl := encB_len (affF l).2
 unfold affL
 rw [room_of (by simp; omega), encB_app]
 cases (affF l).1
 ·simp [encL1, bytesS]
 ·simp; rfl
def padL (p : St23) (w : Int) : List Int := if p.PadAt_ = w then [42, p.Pad_] else []
theorem padL_len (p : St23) (w : Int) : (padL p w).length ≤ 2 := by unfold padL; split <;> simp
theorem padded1 {p : St23} (w : Int) (h : isRb p.Pad_ = true) : exergueref10_padded p w = some (bytesS (encL1 (padL p w))) := by
 unfold exergueref10_padded padL
 by_cases h1 : p.PadAt_ = w
 ·rw [dT h1, if_pos h1, text1 h]
  have hel : (bytesS (enc1 p.Pad_)).length ≤ 4 := by rw [bytesS_ln]; exact enc1_len _
  simp only [cond_true, Option.bind_some]
  rw [room_of (by simp; omega)]
  simp [encL1, bytesS]
  rfl
 ·rw [dF h1, if_neg h1]; rfl
theorem asc_enc : ∀ {l : List Int}, asc l → encL1 l = l
 | [], _ => rfl
 | c :: l, h => by
  have h1 := h c (List.mem_cons_self ..)
  have ih := asc_enc (l := l) (fun x hx => h x (List.mem_cons_of_mem _ hx))
  have e : encL1 (c :: l) = enc1 c ++ encL1 l := rfl
  rw [e, ih]
  unfold enc1
  rw [if_pos h1.2]; rfl
theorem asc_ok {l : List Int} (h : asc l) : l.all isRb = true := by
 refine List.all_eq_true.2 (fun c hc => ?_)
 have := h c hc
 exact isRb_iff.2 (by omega)
def txL (p : St23) : List Int := padL p 1 ++ (affL p.Pre_ ++ (padL p 2 ++ (numL p ++ (padL p 3 ++ (affL p.Suf_ ++ (padL p 4 ++ (if p.Neg_ = true then 59 :: (affL p.NPre_ ++ (numL p ++ affL p.NSuf_)) else [])))))))
theorem numL_len {p : St23} (hc : cntP p) (hn : canon (numsP p)) : (numL p).length ≤ 400 := (number_eq hc hn).2
theorem text_ref {p : St23} (hc : cntP p) (hn : canon (numsP p)) (h1 : p.Pre_.length ≤ 300) (h2 : p.Suf_.length ≤ 300) (h3 : p.NPre_.length ≤ 300) (h4 : p.NSuf_.length ≤ 300) (o0 : isRb p.Pad_ = true) (o1 : tokOk p.Pre_ = true) (o2 : tokOk p.Suf_ = true) (o3 : tokOk p.NPre_ = true) (o4 : tokOk p.NSuf_ = true) : exergueref10_Text p = some (bytesS (encL1 (txL p))) := by
 have hN := number1 hc hn
 rw [← asc_enc (asc_num p)] at hN
 unfold exergueref10_Text
 rw [padded1 1 o0, padded1 2 o0, padded1 3 o0, padded1 4 o0, written1 o1 h1, written1 o2 h2, written1 o3 h3, written1 o4 h4, hN]
 simp only [Option.bind_some]
 have b1 := encB_len (padL p 1); have b2 := encB_len (padL p 2); have b3 := encB_len (padL p 3); have b4 := encB_len (padL p 4)
 have a1 := padL_len p 1; have a2 := padL_len p 2; have a3 := padL_len p 3; have a4 := padL_len p 4
 have c1 := encB_len (affL p.Pre_); have c2 := encB_len (affL p.Suf_); have c3 := encB_len (affL p.NPre_); have c4 := encB_len (affL p.NSuf_)
 have d1 := affL_len p.Pre_; have d2 := affL_len p.Suf_; have d3 := affL_len p.NPre_; have d4 := affL_len p.NSuf_
 have e1 := encB_len (numL p); have e2 := numL_len hc hn
 unfold txL
 rw [encB_app, encB_app, encB_app, encB_app, encB_app, encB_app, encB_app]
 generalize bytesS (encL1 (padL p 1)) = A1 at *
 generalize bytesS (encL1 (padL p 2)) = A2 at *
 generalize bytesS (encL1 (padL p 3)) = A3 at *
 generalize bytesS (encL1 (padL p 4)) = A4 at *
 have hneg : bytesS (encL1 (if p.Neg_ = true then 59 :: (affL p.NPre_ ++ (numL p ++ affL p.NSuf_)) else [])) = if p.Neg_ = true then 59 :: (bytesS (encL1 (affL p.NPre_)) ++ (bytesS (encL1 (numL p)) ++ bytesS (encL1 (affL p.NSuf_)))) else [] := by
  split
  ·rw [show (59 : Int) :: (affL p.NPre_ ++ (numL p ++ affL p.NSuf_)) = [59] ++ (affL p.NPre_ ++ (numL p ++ affL p.NSuf_)) from rfl, encB_app, encB_app, encB_app]; rfl
  ·rfl
 rw [hneg]
 generalize bytesS (encL1 (affL p.Pre_)) = C1 at *
 generalize bytesS (encL1 (affL p.Suf_)) = C2 at *
 generalize bytesS (encL1 (affL p.NPre_)) = C3 at *
 generalize bytesS (encL1 (affL p.NSuf_)) = C4 at *
 generalize bytesS (encL1 (numL p)) = N at *
 rw [room_of (by omega), room_of (by simp; omega), room_of (by simp; omega), room_of (by simp; omega), room_of (by simp; omega), room_of (by simp; omega)]
 simp only [cond_true]
 cases p.Neg_ with
 | true =>
  rw [room_of (by simp; omega), room_of (by simp; omega), room_of (by simp; omega), room_of (by simp; omega)]
  simp [List.append_assoc]
 | false => simp [List.append_assoc]
theorem txL_ok {p : St23} (o0 : isRb p.Pad_ = true) (o1 : tokOk p.Pre_ = true) (o2 : tokOk p.Suf_ = true) (o3 : tokOk p.NPre_ = true) (o4 : tokOk p.NSuf_ = true) : (txL p).all isRb = true := by
 have hp : ∀ w, (padL p w).all isRb = true := fun w => by
  unfold padL; split
  ·simp [o0]; decide
  ·rfl
 have hn := asc_ok (asc_num p)
 unfold txL
 simp only [List.all_append, hp, affL_ok o1, affL_ok o2, hn, Bool.true_and]
 split
 ·rw [List.all_cons, List.all_append, List.all_append, affL_ok o3, affL_ok o4, hn]; decide
 ·rfl
/-! The text of a number, read: all of it. -/
/-! A number's text, parsed; what a right pattern is, to the letter. -/
def limP (p : St23) : Prop := p.Hash_ + p.MinInt_ ≤ 40 ∧ p.MaxFrac_ ≤ 40 ∧ p.MaxSig_ ≤ 40 ∧ p.Exp_ ≤ 40
theorem runes1 {l : List St33} (hw : ∀ z ∈ l, -2147483648 ≤ z.R_ ∧ z.R_ < 2147483648) (hl : l.length ≤ 1000) : exergueref10_runes l = some (tokOk l) := by
 unfold exergueref10_runes
 obtain ⟨o, g1, g2⟩ := loop_count (step := (fun (s54 : Int) => ((bif (decide (s54 < (l.length : Int))) then (bif inR s54 l.length then (Option.bind (exergueref01_Is ((nth l s54).R_)) fun y91 => (bif (!y91) then (some (.inr (.inr false))) else (some (.inl (IntKind.wrap .i64 (s54 + 1)))))) else none) else (some (.inr (.inl ())))) : Option (Int ⊕ (Unit ⊕ Bool))))) l.length (fun i => (i : Int)) (fun i => ∀ j (hj : j < l.length), j < i → isRb (l[j].R_) = true) (fun o => o = if tokOk l = true then .inl () else .inr false) (s0 := 0) rfl (fun j _ hj => by omega) (fun i hi hI => by
  have hr := hw _ (List.getElem_mem hi)
  rw [dT (show (i : Int) < (l.length : Int) by omega), inR_nat hi, nth_nat hi, is1 (by omega) (by omega), w64 (n := (i : Int) + 1) (by omega) (by omega)]
  simp only [cond_true, Option.bind_some]
  cases c : isRb (l[i].R_) with
  | true =>
   left
   refine ⟨by simp, fun j hj hji => ?_⟩
   by_cases e : j = i
   ·subst e; exact c
   ·exact hI j hj (by omega)
  | false =>
   right
   refine ⟨_, rfl, ?_⟩
   rw [if_neg (fun h => by
    have := List.all_eq_true.1 h _ (List.getElem_mem hi)
    simp [c] at this)]) (fun hI => ⟨.inl (), by rw [dF (by omega)]; rfl, by
  rw [if_pos]
  refine List.all_eq_true.2 (fun t ht => ?_)
  obtain ⟨j, hj, rfl⟩ := List.getElem_of_mem ht
  exact hI j hj hj⟩) (by omega)
 have h1 : loopN (fun (s54 : Int) => ((bif (decide (s54 < (l.length : Int))) then (bif inR s54 l.length then (Option.bind (exergueref01_Is ((nth l s54).R_)) fun y91 => (bif (!y91) then (some (.inr (.inr false))) else (some (.inl (IntKind.wrap .i64 (s54 + 1)))))) else none) else (some (.inr (.inl ())))) : Option (Int ⊕ (Unit ⊕ Bool)))) big 0 = some o := g1
 rw [h1, g2]
 cases tokOk l <;> rfl
def rightX (p : St23) : Prop := cntP p ∧ isRb p.Pad_ = true ∧ (tokOk p.Pre_ = true ∧ tokOk p.Suf_ = true ∧ tokOk p.NPre_ = true ∧ tokOk p.NSuf_ = true) ∧ ∃ t i, exergueref10_Text p = some t ∧ exergueref10_Parse t = some (p, i, 0)
def i32P (p : St23) : Prop := (∀ z ∈ p.Pre_, -2147483648 ≤ z.R_ ∧ z.R_ < 2147483648) ∧ (∀ z ∈ p.Suf_, -2147483648 ≤ z.R_ ∧ z.R_ < 2147483648) ∧ (∀ z ∈ p.NPre_, -2147483648 ≤ z.R_ ∧ z.R_ < 2147483648) ∧ (∀ z ∈ p.NSuf_, -2147483648 ≤ z.R_ ∧ z.R_ < 2147483648) ∧ -2147483648 ≤ p.Pad_ ∧ p.Pad_ < 2147483648
theorem right1 {p : St23} (w : i32P p) (h1 : p.Pre_.length ≤ 300) (h2 : p.Suf_.length ≤ 300) (h3 : p.NPre_.length ≤ 300) (h4 : p.NSuf_.length ≤ 300) : Tot (exergueref10_Right p) (fun b => b = true ↔ rightX p) := by
 obtain ⟨w1, w2, w3, w4, w5, w6⟩ := w
 unfold exergueref10_Right
 rw [runes1 w1 (by omega), runes1 w2 (by omega), runes1 w3 (by omega), runes1 w4 (by omega), is1 (by omega) (by omega)]
 have hno : ∀ {q : Prop}, ¬ q → ((false = true) ↔ q) := fun h => ⟨fun e => (by cases e), fun e => absurd e h⟩
 generalize hL : ([p.Hash_, p.MinInt_, p.MinFrac_, p.MaxFrac_, p.G1_, p.G2_, p.MinSig_, p.MaxSig_, p.Exp_] : List Int) = L
 have hlen : L.length = 9 := by rw [← hL]; rfl
 have hcI : cntP p ↔ ∀ j : Nat, j < 9 → 0 ≤ nth L j ∧ nth L j ≤ 40 := by
  subst hL
  constructor
  ·rintro ⟨c1, c2, c3, c4, c5, c6, c7, c8, c9⟩ j hj
   match j, hj with
   | 0, _ => exact c1
   | 1, _ => exact c2
   | 2, _ => exact c3
   | 3, _ => exact c4
   | 4, _ => exact c5
   | 5, _ => exact c6
   | 6, _ => exact c7
   | 7, _ => exact c8
   | 8, _ => exact c9
  ·intro h
   exact ⟨h 0 (by omega), h 1 (by omega), h 2 (by omega), h 3 (by omega), h 4 (by omega), h 5 (by omega), h 6 (by omega), h 7 (by omega), h 8 (by omega)⟩
 refine Tot.join (Tot.loop (fun s : Int => 0 ≤ s ∧ s ≤ (L.length : Int) ∧ ∀ j : Nat, (j : Int) < s → 0 ≤ nth L j ∧ nth L j ≤ 40) (fun s => ((L.length : Int) - s).toNat) ⟨by omega, by omega, fun j hj => by omega⟩ (by omega) (fun s hs => ?_))
 refine Tot.ite (fun hq => ?_) (fun hq => Tot.ret (show Tot _ _ from ?_))
 ·have hq := dTT hq
  have hin := inR_int hs.1 hq
  refine Tot.join (Tot.bind (p := fun b => b = false ↔ 0 ≤ nth L s ∧ nth L s ≤ 40) ?_ (fun b hb => ?_))
  ·refine Tot.yes hin (Tot.yes hin (Tot.ite (fun g => Tot.ret ?_) (fun g1 => Tot.yes hin (Tot.yes hin (Tot.ret ?_)))))
   ·have g := dTT g
    exact ⟨fun h => (by cases h), fun h => (by omega)⟩
   ·have g1 := dFF g1
    constructor
    ·intro g2; have g2 := dFF g2; omega
    ·intro h; exact dF (by omega)
  ·cases b with
   | true =>
    refine Tot.ret (hno (fun h => ?_))
    have h2 := hcI.1 h.1 s.toNat (by omega)
    rw [show ((s.toNat : Nat) : Int) = s by omega] at h2
    have := hb.2 h2
    cases this
   | false =>
    have hb := hb.1 rfl
    refine Tot.ret (show Tot _ _ from Tot.ret ?_)
    have f1 : IntKind.wrap .i64 (s + 1) = s + 1 := w64 (by omega) (by omega)
    rw [f1]
    refine ⟨⟨by omega, by omega, fun j hj => ?_⟩, by omega⟩
    by_cases hjs : (j : Int) < s
    ·exact hs.2.2 j hjs
    ·have : (j : Int) = s := by omega
     rw [this]; exact hb
 ·have hq := dFF hq
  have hall := hs.2.2
  have hs9 : s = 9 := by omega
  have hc : cntP p := hcI.2 (fun j hj => hall j (by omega))
  simp only [Option.bind_some]
  have hA : (bif tokOk p.Pre_ then (some (tokOk p.Suf_)) else (some false)) = some (tokOk p.Pre_ && tokOk p.Suf_) := by cases tokOk p.Pre_ <;> rfl
  have hB : (bif tokOk p.NPre_ then (some (tokOk p.NSuf_)) else (some false)) = some (tokOk p.NPre_ && tokOk p.NSuf_) := by cases tokOk p.NPre_ <;> rfl
  rw [hA, hB]
  simp only [Option.bind_some]
  by_cases hv : isRb p.Pad_ = true ∧ (tokOk p.Pre_ = true ∧ tokOk p.Suf_ = true ∧ tokOk p.NPre_ = true ∧ tokOk p.NSuf_ = true)
  ·obtain ⟨v0, v1, v2, v3, v4⟩ := hv
   rw [v0, v1, v2, v3, v4]
   simp only [Bool.and_self, Bool.not_true, cond_false, Option.bind_some, joinX]
   obtain ⟨t, ht, htl⟩ := ptext_tot hc h1 h2 h3 h4
   rw [ht]
   obtain ⟨o, ho, hoc⟩ := parse_tot (t := t) (by omega)
   show Tot (Option.bind (exergueref10_Parse t) _) _
   rw [ho]
   show Tot (Option.bind _ _) _
   obtain ⟨o1, o2, o3⟩ := o
   refine Tot.bind (p := fun b => b = true ↔ rightX p) (Tot.ite (fun g => ?_) (fun g => Tot.ret (hno (fun h => ?_)))) (fun _ h => Tot.ret h)
   ·rw [rsame_eq ⟨by omega, by omega, by omega, by omega⟩]
    have g2 := dTT g
    simp only at g2
    subst g2
    refine Tot.ret ⟨fun e => ?_, fun h => ?_⟩
    ·have e := dTT e
     simp only at e
     subst e
     exact ⟨hc, v0, ⟨v1, v2, v3, v4⟩, t, o2, ht, ho⟩
    ·obtain ⟨_, _, _, t', i', e1, e2⟩ := h
     rw [ht] at e1
     cases e1
     rw [ho] at e2
     cases e2
     exact dT rfl
   ·obtain ⟨_, _, _, t', i', e1, e2⟩ := h
    rw [ht] at e1
    cases e1
    rw [ho] at e2
    cases e2
    exact absurd rfl (dFF g)
  ·have hf : (bif (!isRb p.Pad_) then (some true) else (bif (!(tokOk p.Pre_ && tokOk p.Suf_)) then (some true) else (some (!(tokOk p.NPre_ && tokOk p.NSuf_))))) = some true := by
    cases c0 : isRb p.Pad_ with
    | false => rfl
    | true =>
     cases c1 : tokOk p.Pre_ with
     | false => rfl
     | true =>
      cases c2 : tokOk p.Suf_ with
      | false => rfl
      | true =>
       cases c3 : tokOk p.NPre_ with
       | false => rfl
       | true =>
        cases c4 : tokOk p.NSuf_ with
        | false => rfl
        | true => exact absurd ⟨c0, c1, c2, c3, c4⟩ hv
   rw [hf]
   exact Tot.ret (hno (fun h => hv ⟨h.2.1, h.2.2.1⟩))
theorem bind_inv {α β : Type} {x : Option α} {k : α → Option β} {r : β} (h : Option.bind x k = some r) : ∃ a, x = some a ∧ k a = some r := by
 cases x with
 | none => cases h
 | some a => exact ⟨a, rfl, h⟩
theorem parse_lim {t : List UInt8} {d : List Int} {z : Int} {p : St23} {i : Int} (hd : exergueref01_Decode (bytesI t) = some (d, z, 0)) (hc : cntP p) (h : exergueref10_Parse t = some (p, i, 0)) : d.length ≤ 120 ∧ limP p := by
 unfold exergueref10_Parse at h
 rw [hd] at h
 simp only [Option.bind_some, not_true_eq_false, decide_false, cond_false] at h
 by_cases h120 : (d.length : Int) > 120
 ·rw [dT h120] at h
  simp at h
 ·rw [dF h120] at h
  simp only [cond_false] at h
  obtain ⟨y, hy, h⟩ := bind_inv h
  obtain ⟨s, hs, h⟩ := bind_inv h
  obtain ⟨u, hu, h⟩ := bind_inv h
  refine ⟨by omega, ?_⟩
  cases u with
  | inr r =>
   have h : some r = some (p, i, 0) := h
   obtain ⟨b, hb, hu⟩ := bind_inv hu
   cases b with
   | true =>
    simp only [cond_true, Option.some.injEq, Sum.inr.injEq] at hu
    subst hu
    simp at h
   | false => simp at hu
  | inl x =>
   simp only [joinX] at h
   obtain ⟨v, hv, h⟩ := bind_inv h
   cases v with
   | inr r =>
    have h : some r = some (p, i, 0) := h
    obtain ⟨b, hb, hv⟩ := bind_inv hv
    cases b with
    | true =>
     simp only [cond_true, Option.some.injEq, Sum.inr.injEq] at hv
     subst hv
     simp at h
    | false => simp at hv
   | inl x2 =>
    simp only [joinX, Option.some.injEq, Prod.mk.injEq, and_true] at h
    obtain ⟨h, _⟩ := h
    obtain ⟨b, hb, hv⟩ := bind_inv hv
    cases b with
    | true => simp at hv
    | false =>
     obtain ⟨⟨a1, a2⟩, ⟨b1, b2⟩, _⟩ := hc
     have hk : s.2.2.2.2.2.2.2.1 = p.Hash_ ∧ s.2.2.2.2.2.2.2.2.1 = p.MinInt_ ∧ s.2.2.2.2.2.2.2.2.2.2.1 = p.MaxFrac_ ∧ s.2.2.2.2.2.2.2.2.2.2.2.2.2.2.1 = p.MaxSig_ ∧ s.2.2.2.2.2.2.2.2.2.2.2.2.2.2.2.1 = p.Exp_ := by
      rw [← h]; exact ⟨rfl, rfl, rfl, rfl, rfl⟩
     obtain ⟨k1, k2, k3, k4, k5⟩ := hk
     rw [k1, k2, k3, k4, k5, w64 (n := p.Hash_ + p.MinInt_) (by omega) (by omega)] at hb
     by_cases c1 : p.Hash_ + p.MinInt_ > 40
     ·rw [dT c1] at hb; cases hb
     ·rw [dF c1] at hb
      by_cases c2 : p.MaxFrac_ > 40
      ·rw [dT c2] at hb; cases hb
      ·rw [dF c2] at hb
       by_cases c3 : p.MaxSig_ > 40
       ·rw [dT c3] at hb; cases hb
       ·rw [dF c3] at hb
        by_cases c4 : p.Exp_ > 40
        ·rw [dT c4] at hb; cases hb
        ·exact ⟨by omega, by omega, by omega, by omega⟩
theorem right_facts {p : St23} (h1 : p.Pre_.length ≤ 300) (h2 : p.Suf_.length ≤ 300) (h3 : p.NPre_.length ≤ 300) (h4 : p.NSuf_.length ≤ 300) (h : rightX p) : canon (numsP p) ∧ exergueref10_Text p = some (bytesS (encL1 (txL p))) ∧ (txL p).length ≤ 120 ∧ limP p ∧ ∃ i, exergueref10_Parse (bytesS (encL1 (txL p))) = some (p, i, 0) := by
 obtain ⟨hc, v0, ⟨v1, v2, v3, v4⟩, t, i, e1, e2⟩ := h
 obtain ⟨t', ht, htl⟩ := ptext_tot hc h1 h2 h3 h4
 rw [ht] at e1; cases e1
 obtain ⟨o, ho, hoc⟩ := parse_tot (t := t) (by omega)
 rw [ho] at e2; cases e2
 have hn := hoc rfl
 have hT := text_ref hc hn h1 h2 h3 h4 v0 v1 v2 v3 v4
 rw [ht] at hT; cases hT
 have hok := txL_ok (p := p) v0 v1 v2 v3 v4
 have hl : (txL p).length ≤ 20000 := by
  have a1 := padL_len p 1; have a2 := padL_len p 2; have a3 := padL_len p 3; have a4 := padL_len p 4
  have d1 := affL_len p.Pre_; have d2 := affL_len p.Suf_; have d3 := affL_len p.NPre_; have d4 := affL_len p.NSuf_
  have e2 := numL_len hc hn
  unfold txL
  simp only [List.length_append]
  have : (if p.Neg_ = true then 59 :: (affL p.NPre_ ++ (numL p ++ affL p.NSuf_)) else []).length ≤ 5000 := by
   split
   ·simp only [List.length_cons, List.length_append]; omega
   ·simp
  omega
 have hd := rdecode_full hok hl
 rw [← enc_back hok] at hd
 have hlm := parse_lim hd hc ho
 exact ⟨hn, ht, hlm.1, hlm.2, i, ho⟩
/-! Two readers side by side: affixes. -/
theorem loop_rel {S1 S2 O1 O2 : Type} {step1 : S1 → Option (S1 ⊕ O1)} {step2 : S2 → Option (S2 ⊕ O2)} (I : S1 → S2 → Prop) (μ : S1 → Nat) (R : O1 → O2 → Prop) {a : S1} {b : S2} (h0 : I a b) (hb : μ a < 1000000)
  (hs : ∀ s t, I s t → (∃ s' t', step1 s = some (.inl s') ∧ step2 t = some (.inl t') ∧ I s' t' ∧ μ s' < μ s) ∨ (∃ o1 o2, step1 s = some (.inr o1) ∧ (step2 t = some (.inr o2) ∨ ∃ t', step2 t = some (.inl t') ∧ step2 t' = some (.inr o2)) ∧ R o1 o2)) :
  ∃ o1 o2, loopN step1 big a = some o1 ∧ loopN step2 big b = some o2 ∧ R o1 o2 := by
 have key : ∀ m s t, I s t → μ s < m → ∃ o1 o2, loopN step1 (m + 1) s = some o1 ∧ loopN step2 (m + 1) t = some o2 ∧ R o1 o2 := by
  intro m
  induction m with
  | zero => intro s t _ h; omega
  | succ m ih =>
   intro s t hi hm
   rcases hs s t hi with ⟨s', t', h1, h2, h3, h4⟩ | ⟨o1, o2, h1, h2, h3⟩
   ·rw [loopN_next h1, loopN_next h2]; exact ih s' t' h3 (by omega)
   ·refine ⟨o1, o2, loopN_out h1, ?_, h3⟩
    rcases h2 with h2 | ⟨t', h2, h4⟩
    ·exact loopN_out h2
    ·rw [loopN_next h2]; exact loopN_out h4
 obtain ⟨o1, o2, h1, h2, h3⟩ := key 1000000 a b h0 hb
 exact ⟨o1, o2, loopN_mono _ _ h1 _ (by unfold big; omega), loopN_mono _ _ h2 _ (by unfold big; omega), h3⟩
section
variable {l : List Int}
theorem at_eq3 {i : Int} (h : 0 ≤ i) : exergueref10_at l i = some (atV l i) := at_eq2 h
theorem atV_lt {i : Int} (h : i < l.length) : nth l i = atV l i := by unfold atV; rw [if_pos h]
theorem nth_mem {i : Int} (h0 : 0 ≤ i) (h : i < l.length) : nth l i ∈ l := by
 obtain ⟨k, rfl⟩ : ∃ k : Nat, i = k := ⟨i.toNat, by omega⟩
 rw [nth_nat (by omega)]; exact List.getElem_mem _
theorem twice_at {i a2 a3 a4 a5 a6 : Int} (hl : l.length ≤ 10000) (h0 : 0 ≤ i) (h1 : i ≤ 19000) : pat_reader__twice_s0 l i a2 a3 a4 a5 a6 = some (if atV l i = 39 ∧ atV l (i + 1) = 39 then (true, i + 2) else (false, i)) := by
 unfold pat_reader__twice_s0
 rw [is_at hl (by omega) (by omega) (by omega), is_at hl (by omega) (by omega) (by omega), Int.add_zero, w64 (n := i + 2) (by omega) (by omega)]
 by_cases a : atV l i = 39
 ·rw [dT a]
  by_cases b : atV l (i + 1) = 39
  ·rw [dT b, if_pos ⟨a, b⟩]; rfl
  ·rw [dF b, if_neg (fun h => b h.2)]; rfl
 ·rw [dF a, if_neg (fun h => a h.1)]; rfl
def tokIn (l : List Int) (ts : List St33) : Prop := ∀ t ∈ ts, (t.Kind_ = 0 ∧ (t.R_ ∈ l ∨ t.R_ = 39)) ∨ (t.R_ = 0 ∧ 1 ≤ t.Kind_ ∧ t.Kind_ ≤ 4)
theorem tokIn_snoc {ts : List St33} {t : St33} (h : tokIn l ts) (ht : (t.Kind_ = 0 ∧ (t.R_ ∈ l ∨ t.R_ = 39)) ∨ (t.R_ = 0 ∧ 1 ≤ t.Kind_ ∧ t.Kind_ ≤ 4)) : tokIn l (ts ++ [t]) := by
 intro x hx
 rcases List.mem_append.1 hx with h1 | h1
 ·exact h x h1
 ·simp at h1; subst h1; exact ht
theorem quoted_same {k a2 : Int} {ts : List St33} (hl : l.length ≤ 10000) (h0 : 0 ≤ k) (hk : k < l.length) (hq : atV l k = 39) (hn : ¬ atV l (k + 1) = 39) (hts : (ts.length : Int) ≤ k) (hin : tokIn l ts) :
  ∃ s us, (loopN (fun (s3007 : Int × (List St33)) => (Option.bind (Option.bind (bif (decide (s3007.1 < (l.length : Int))) then (bif inR s3007.1 l.length then (bif (decide (¬ (nth l s3007.1) = 39)) then (some true) else (Option.bind (exergueref10_at l (IntKind.wrap .i64 (s3007.1 + 1))) fun y3232 => (some (decide (y3232 = 39))))) else none) else (some false)) fun (s3220 : Bool) => (bif s3220 then (some (.inl ())) else (some (.inr (.inr (s3007.1, s3007.2)))))) (joinX fun (s3205 : Unit) => (bif inR s3007.1 l.length then (bif room (s3007.2.length + (([(⟨0, (nth l s3007.1)⟩ : St33)] : List St33)).length) then (Option.bind (bif inR s3007.1 l.length then (bif (decide ((nth l s3007.1) = 39)) then (some (IntKind.wrap .i64 (s3007.1 + 1))) else (some s3007.1)) else none) fun (s3247 : Int) => (some (.inl ((IntKind.wrap .i64 (s3247 + 1)), (s3007.2 ++ (([(⟨0, (nth l s3007.1)⟩ : St33)] : List St33))))))) else none) else none)))) big (k + 1, ts) : Option (Int × List St33)) = some (s, us) ∧ (k + 1 ≤ s) ∧ tokIn l us ∧ (us.length : Int) ≤ s ∧ ((s ≥ l.length ∧ ∃ e, pat_reader__quoted_s0 l k a2 1 2 3 4 ts = some (.inr e)) ∨ (s < l.length ∧ us ≠ [] ∧ pat_reader__quoted_s0 l k a2 1 2 3 4 ts = some (.inl (s + 1, us)))) := by
 have hQ : pat_reader__quoted_s0 l k a2 1 2 3 4 ts = (Option.bind (loopN (fun (s85 : Int × (List St33)) => ((bif (decide (s85.1 < (l.length : Int))) then (Option.bind (pat_reader__twice_s0 l s85.1 a2 1 2 3 4) fun y137 => (bif y137.1 then (bif room (s85.2.length + ([(⟨0, 39⟩ : St33)] : List St33).length) then (some (.inl (y137.2, (s85.2 ++ ([(⟨0, 39⟩ : St33)] : List St33))))) else none) else (Option.bind (pat_reader__eat_s0 39 l y137.2 a2 1 2 3 4) fun y144 => (bif y144.1 then (some (.inr (.inr (.inl (y144.2, s85.2))))) else (bif inR y144.2 l.length then (bif room (s85.2.length + (([(⟨0, (nth l y144.2)⟩ : St33)] : List St33)).length) then (some (.inl ((IntKind.wrap .i64 (y144.2 + 1)), (s85.2 ++ (([(⟨0, (nth l y144.2)⟩ : St33)] : List St33)))))) else none) else none))))) else (some (.inr (.inl s85.1)))) : Option ((Int × (List St33)) ⊕ (Int ⊕ ((Int × (List St33)) ⊕ Int))))) big (k + 1, ts)) (joinX fun (s80 : Int) => (Option.bind (pat_reader__fail_s0 k l s80 a2 1 2 3 4) fun y157 => (some (.inr s80))))) := by
  unfold pat_reader__quoted_s0
  rw [twice_at hl (by omega) (by omega), if_neg (fun h => hn h.2)]
  simp only [Option.bind_some, cond_false]
  rw [w64 (n := k + 1) (by omega) (by omega)]
 rw [hQ]
 generalize hst1 : (fun (s85 : Int × (List St33)) => ((bif (decide (s85.1 < (l.length : Int))) then (Option.bind (pat_reader__twice_s0 l s85.1 a2 1 2 3 4) fun y137 => (bif y137.1 then (bif room (s85.2.length + ([(⟨0, 39⟩ : St33)] : List St33).length) then (some (.inl (y137.2, (s85.2 ++ ([(⟨0, 39⟩ : St33)] : List St33))))) else none) else (Option.bind (pat_reader__eat_s0 39 l y137.2 a2 1 2 3 4) fun y144 => (bif y144.1 then (some (.inr (.inr (.inl (y144.2, s85.2))))) else (bif inR y144.2 l.length then (bif room (s85.2.length + (([(⟨0, (nth l y144.2)⟩ : St33)] : List St33)).length) then (some (.inl ((IntKind.wrap .i64 (y144.2 + 1)), (s85.2 ++ (([(⟨0, (nth l y144.2)⟩ : St33)] : List St33)))))) else none) else none))))) else (some (.inr (.inl s85.1)))) : Option ((Int × (List St33)) ⊕ (Int ⊕ ((Int × (List St33)) ⊕ Int))))) = step1
 generalize hst2 : (fun (s3007 : Int × (List St33)) => ((Option.bind (Option.bind (bif (decide (s3007.1 < (l.length : Int))) then (bif inR s3007.1 l.length then (bif (decide (¬ (nth l s3007.1) = 39)) then (some true) else (Option.bind (exergueref10_at l (IntKind.wrap .i64 (s3007.1 + 1))) fun y3232 => (some (decide (y3232 = 39))))) else none) else (some false)) fun (s3220 : Bool) => (bif s3220 then (some (.inl ())) else (some (.inr (.inr (s3007.1, s3007.2)))))) (joinX fun (s3205 : Unit) => (bif inR s3007.1 l.length then (bif room (s3007.2.length + (([(⟨0, (nth l s3007.1)⟩ : St33)] : List St33)).length) then (Option.bind (bif inR s3007.1 l.length then (bif (decide ((nth l s3007.1) = 39)) then (some (IntKind.wrap .i64 (s3007.1 + 1))) else (some s3007.1)) else none) fun (s3247 : Int) => (some (.inl ((IntKind.wrap .i64 (s3247 + 1)), (s3007.2 ++ (([(⟨0, (nth l s3007.1)⟩ : St33)] : List St33))))))) else none) else none))) : Option ((Int × (List St33)) ⊕ (Int × (List St33))))) = step2
 have hrun := loop_rel (step1 := step1) (step2 := step2) (a := (k + 1, ts)) (b := (k + 1, ts)) (fun s t => t = s ∧ (k + 1 ≤ s.1) ∧ (s.1 ≤ l.length) ∧ ((s.2.length : Int) ≤ s.1) ∧ tokIn l s.2 ∧ (s.1 = k + 1 ∨ s.2 ≠ [])) (fun s => ((l.length : Int) - s.1).toNat)
  (fun o1 o2 => (k + 1 ≤ o2.1) ∧ tokIn l o2.2 ∧ ((o2.2.length : Int) ≤ o2.1) ∧ ((o2.1 ≥ l.length ∧ ∃ e, o1 = .inl e) ∨ (o2.1 < l.length ∧ o2.2 ≠ [] ∧ o1 = .inr (.inl (o2.1 + 1, o2.2)))))
  ⟨rfl, by simp only; omega, by simp only; omega, by simp only; omega, hin, .inl rfl⟩ (by simp only; omega) (fun s t hs => ?_)
 ·obtain ⟨o1, o2, e1, e2, g1, g2, g3, hR⟩ := hrun
  rw [e1, e2]
  refine ⟨o2.1, o2.2, rfl, g1, g2, g3, ?_⟩
  rcases hR with ⟨h1, e, rfl⟩ | ⟨h1, h2, rfl⟩
  ·exact .inl ⟨h1, e, rfl⟩
  ·exact .inr ⟨h1, h2, rfl⟩
 ·obtain ⟨rfl, p1, p2, p3, p4, p5⟩ := hs
  obtain ⟨j, us⟩ := t
  simp only at p1 p2 p3 p4 p5
  subst hst1; subst hst2
  simp only
  by_cases hj : j < l.length
  ·have hinR := inR_int (by omega) hj
   have hmem := nth_mem (by omega) hj
   have hv : nth l j = atV l j := atV_lt hj
   have rm : ∀ x : St33, room (us.length + [x].length) = true := fun x => room_of (by simp; omega)
   rw [dT hj, hinR, twice_at hl (by omega) (by omega), at_eq3 (by rw [w64 (by omega) (by omega)]; omega), w64 (n := j + 1) (by omega) (by omega), rm, rm, hv]
   simp only [cond_true, Option.bind_some]
   by_cases c1 : atV l j = 39
   ·rw [dT c1, dF (show ¬ ¬ atV l j = 39 by omega)]
    simp only [cond_true, cond_false, Option.bind_some]
    by_cases c2 : atV l (j + 1) = 39
    ·left
     have hj2 := at_in c2 (by omega)
     rw [dT c2, if_pos ⟨c1, c2⟩]
     simp only [cond_true, Option.bind_some, joinX]
     rw [w64 (n := j + 1 + 1) (by omega) (by omega), c1, show j + 1 + 1 = j + 2 by omega]
     exact ⟨_, _, rfl, rfl, ⟨rfl, by simp only; omega, by simp only; omega, by simp; omega, tokIn_snoc p4 (.inl ⟨rfl, .inr rfl⟩), .inr (by simp)⟩, by simp only; omega⟩
    ·right
     rw [dF c2, if_neg (fun h => c2 h.2)]
     simp only [cond_false, Option.bind_some, joinX]
     rw [eat_at hl (by omega) (by omega) (by omega), if_pos c1]
     refine ⟨_, _, rfl, .inl rfl, p1, p4, p3, .inr ⟨hj, ?_, rfl⟩⟩
     rcases p5 with h | h
     ·rw [h] at c1; exact absurd c1 hn
     ·exact h
   ·left
    rw [dF c1, dT c1, if_neg (fun h => c1 h.1)]
    simp only [cond_true, cond_false, Option.bind_some, joinX]
    rw [eat_at hl (by omega) (by omega) (by omega), if_neg c1]
    simp only [cond_true, cond_false, Option.bind_some]
    rw [hinR, rm, hv, w64 (n := j + 1) (by omega) (by omega)]
    rw [hv] at hmem
    exact ⟨_, _, rfl, rfl, ⟨rfl, by simp only; omega, by simp only; omega, by simp; omega, tokIn_snoc p4 (.inl ⟨rfl, .inl hmem⟩), .inr (by simp)⟩, by simp only; omega⟩
  ·right
   rw [dF hj]
   exact ⟨_, _, rfl, .inl rfl, p1, p4, p3, .inl ⟨by simp only; omega, _, rfl⟩⟩
theorem affix_same {i a2 : Int} (hl : l.length ≤ 10000) (h0 : 0 ≤ i) (hi : i ≤ l.length) :
  (∃ ts j, pat_reader__affix_s0 l i a2 1 2 3 4 = some (.inl (ts, j)) ∧ exergueref10_affix l i = some (ts, j, true) ∧ (i ≤ j ∧ j ≤ l.length) ∧ tokIn l ts ∧ (ts = [] → j = i)) ∨
  (∃ e ts j, pat_reader__affix_s0 l i a2 1 2 3 4 = some (.inr e) ∧ exergueref10_affix l i = some (ts, j, false)) := by
 unfold pat_reader__affix_s0 exergueref10_affix
 generalize hst1 : (fun (s354 : Int × (List St33)) => ((bif (decide (s354.1 < (l.length : Int))) then (bif inR s354.1 l.length then (bif (decide ((nth l s354.1) = 45)) then (Option.bind (bif room (s354.2.length + ([(⟨1, 0⟩ : St33)] : List St33).length) then (some ()) else none) fun (s596 : Unit) => (some (.inl ((IntKind.wrap .i64 (s354.1 + 1)), (s354.2 ++ ([(⟨1, 0⟩ : St33)] : List St33)))))) else (bif (decide ((nth l s354.1) = 43)) then (Option.bind (bif room (s354.2.length + ([(⟨2, 0⟩ : St33)] : List St33).length) then (some ()) else none) fun (s607 : Unit) => (some (.inl ((IntKind.wrap .i64 (s354.1 + 1)), (s354.2 ++ ([(⟨2, 0⟩ : St33)] : List St33)))))) else (bif (decide ((nth l s354.1) = 37)) then (Option.bind (bif room (s354.2.length + ([(⟨3, 0⟩ : St33)] : List St33).length) then (some ()) else none) fun (s618 : Unit) => (some (.inl ((IntKind.wrap .i64 (s354.1 + 1)), (s354.2 ++ ([(⟨3, 0⟩ : St33)] : List St33)))))) else (bif (decide ((nth l s354.1) = 164)) then (Option.bind (bif room (s354.2.length + ([(⟨4, 0⟩ : St33)] : List St33).length) then (some ()) else none) fun (s629 : Unit) => (some (.inl ((IntKind.wrap .i64 (s354.1 + 1)), (s354.2 ++ ([(⟨4, 0⟩ : St33)] : List St33)))))) else (Option.bind (Option.bind (pat_reader__is_s0 39 0 l s354.1 a2 1 2 3 4) fun y670 => (bif y670 then (Option.bind (pat_reader__quoted_s0 l s354.1 a2 1 2 3 4 s354.2) fun y676 => (Sum.elim (fun y679 => (some (.inr (.inl (y679.1, y679.2))))) (fun y680 => (some (.inr (.inr (.inr (.inr (y680, s354.1))))))) y676)) else (Option.bind (pat_special (nth l s354.1)) fun y689 => (bif y689 then (some (.inr (.inr (.inr (.inl (s354.2, s354.1)))))) else (bif room (s354.2.length + (([(⟨0, (nth l s354.1)⟩ : St33)] : List St33)).length) then (some (.inl ())) else none))))) (joinX fun (s665 : Unit) => (some (.inl ((IntKind.wrap .i64 (s354.1 + 1)), (s354.2 ++ (([(⟨0, (nth l s354.1)⟩ : St33)] : List St33)))))))))))) else none) else (some (.inr (.inl (s354.1, s354.2))))) : Option ((Int × (List St33)) ⊕ ((Int × (List St33)) ⊕ ((List St33) × Int ⊕ (Int × Int)))))) = step1
 generalize hst2 : (fun (s1635 : Int × (List St33)) => ((bif (decide (s1635.1 < (l.length : Int))) then (bif inR s1635.1 l.length then (Option.bind (exergueref10_Sign (nth l s1635.1)) fun y2726 => (Option.bind (exergueref10_Special (nth l s1635.1)) fun y2729 => (bif (decide (y2726 > 0)) then (bif room (s1635.2.length + ([(⟨y2726, 0⟩ : St33)] : List St33).length) then (some (.inl ((IntKind.wrap .i64 (s1635.1 + 1)), (s1635.2 ++ ([(⟨y2726, 0⟩ : St33)] : List St33))))) else none) else (bif (decide (¬ (nth l s1635.1) = 39)) then (bif y2729 then (some (.inr (.inr (s1635.2, s1635.1, true)))) else (bif room (s1635.2.length + (([(⟨0, (nth l s1635.1)⟩ : St33)] : List St33)).length) then (some (.inl ((IntKind.wrap .i64 (s1635.1 + 1)), (s1635.2 ++ (([(⟨0, (nth l s1635.1)⟩ : St33)] : List St33)))))) else none)) else (Option.bind (exergueref10_at l (IntKind.wrap .i64 (s1635.1 + 1))) fun y2746 => (bif (decide (y2746 = 39)) then (bif room (s1635.2.length + ([(⟨0, 39⟩ : St33)] : List St33).length) then (some (.inl ((IntKind.wrap .i64 (s1635.1 + 2)), (s1635.2 ++ ([(⟨0, 39⟩ : St33)] : List St33))))) else none) else (Option.bind (loopN (fun (s3007 : Int × (List St33)) => (Option.bind (Option.bind (bif (decide (s3007.1 < (l.length : Int))) then (bif inR s3007.1 l.length then (bif (decide (¬ (nth l s3007.1) = 39)) then (some true) else (Option.bind (exergueref10_at l (IntKind.wrap .i64 (s3007.1 + 1))) fun y3232 => (some (decide (y3232 = 39))))) else none) else (some false)) fun (s3220 : Bool) => (bif s3220 then (some (.inl ())) else (some (.inr (.inr (s3007.1, s3007.2)))))) (joinX fun (s3205 : Unit) => (bif inR s3007.1 l.length then (bif room (s3007.2.length + (([(⟨0, (nth l s3007.1)⟩ : St33)] : List St33)).length) then (Option.bind (bif inR s3007.1 l.length then (bif (decide ((nth l s3007.1) = 39)) then (some (IntKind.wrap .i64 (s3007.1 + 1))) else (some s3007.1)) else none) fun (s3247 : Int) => (some (.inl ((IntKind.wrap .i64 (s3247 + 1)), (s3007.2 ++ (([(⟨0, (nth l s3007.1)⟩ : St33)] : List St33))))))) else none) else none)))) big ((IntKind.wrap .i64 (s1635.1 + 1)), s1635.2)) fun (s3002 : Int × (List St33)) => (bif (decide (s3002.1 ≥ (l.length : Int))) then (some (.inr (.inr (([] : List St33), s1635.1, false)))) else (some (.inl ((IntKind.wrap .i64 (s3002.1 + 1)), s3002.2))))))))))) else none) else (some (.inr (.inl (s1635.1, s1635.2))))) : Option ((Int × (List St33)) ⊕ ((Int × (List St33)) ⊕ ((List St33) × Int × Bool))))) = step2
 have hrun := loop_rel (step1 := step1) (step2 := step2) (a := (i, [])) (b := (i, [])) (fun s t => t = s ∧ (i ≤ s.1 ∧ s.1 ≤ l.length) ∧ ((s.2.length : Int) ≤ s.1) ∧ tokIn l s.2 ∧ (s.2 = [] → s.1 = i)) (fun s => ((l.length : Int) - s.1).toNat)
  (fun o1 o2 => (∃ ts j, (o1 = .inl (j, ts) ∧ o2 = .inl (j, ts) ∨ o1 = .inr (.inl (ts, j)) ∧ o2 = .inr (ts, j, true)) ∧ (i ≤ j ∧ j ≤ l.length) ∧ tokIn l ts ∧ (ts = [] → j = i)) ∨ ∃ e ts j, o1 = .inr (.inr e) ∧ o2 = .inr (ts, j, false))
  ⟨rfl, ⟨by simp only; omega, hi⟩, by simpa using h0, fun t ht => by simp at ht, fun _ => rfl⟩ (by simp only; omega) (fun s t hs => ?_)
 ·obtain ⟨o1, o2, e1, e2, hR⟩ := hrun
  rw [e1, e2]
  rcases hR with ⟨ts, j, h1 | h1, h2, h3, h4⟩ | ⟨e, ts, j, h1, h2⟩
  ·obtain ⟨rfl, rfl⟩ := h1
   exact .inl ⟨ts, j, rfl, rfl, h2, h3, h4⟩
  ·obtain ⟨rfl, rfl⟩ := h1
   exact .inl ⟨ts, j, rfl, rfl, h2, h3, h4⟩
  ·subst h1; subst h2
   exact .inr ⟨e, ts, j, rfl, rfl⟩
 ·obtain ⟨rfl, ⟨p1, p2⟩, p3, p4, p5⟩ := hs
  obtain ⟨k, ts⟩ := t
  simp only at p1 p2 p3 p4 p5
  subst hst1; subst hst2
  simp only
  by_cases hk : k < l.length
  ·have hin := inR_int (by omega) hk
   have hmem := nth_mem (by omega) hk
   rw [dT hk, hin, w64 (n := k + 1) (by omega) (by omega), w64 (n := k + 2) (by omega) (by omega), is_at hl (by omega) (by omega) (by omega), Int.add_zero, ← atV_lt hk, spc1, special_at, at_eq3 (by omega)]
   have rm : ∀ x : St33, room (ts.length + [x].length) = true := fun x => room_of (by simp; omega)
   have rm0 : ∀ x : St33, room (ts.length + 1) = true := fun x => room_of (by omega)
   simp only [cond_true, Option.bind_some]
   rw [rm, rm, rm, rm, rm, rm]
   have hsp : decide (nth l k = 35 ∨ nth l k = 64 ∨ nth l k = 44 ∨ nth l k = 46 ∨ nth l k = 59 ∨ nth l k = 42 ∨ nth l k = 37 ∨ nth l k = 45 ∨ nth l k = 43 ∨ nth l k = 39 ∨ nth l k = 69 ∨ nth l k = 164 ∨ (48 ≤ nth l k ∧ nth l k ≤ 57)) = spc (nth l k) := rfl
   rw [hsp]
   have hv : nth l k = atV l k := atV_lt hk
   generalize hc : nth l k = c at *
   unfold exergueref10_Sign
   have nx : ∀ (r : St33), ((r.Kind_ = 0 ∧ (r.R_ ∈ l ∨ r.R_ = 39)) ∨ (r.R_ = 0 ∧ 1 ≤ r.Kind_ ∧ r.Kind_ ≤ 4)) → (i ≤ k + 1 ∧ k + 1 ≤ (l.length : Int)) ∧ (((ts ++ [r]).length : Int) ≤ k + 1) ∧ tokIn l (ts ++ [r]) ∧ (ts ++ [r] = [] → k + 1 = i) := fun r hr => ⟨by omega, by simp; omega, tokIn_snoc p4 hr, fun h => by simp at h⟩
   by_cases c1 : c = 45
   ·left
    rw [dT c1]
    simp only [cond_true, cond_false, Option.bind_some]
    rw [dT (show (1 : Int) > 0 by omega), rm]
    exact ⟨(k + 1, ts ++ [⟨1, 0⟩]), _, rfl, rfl, ⟨rfl, nx ⟨1, 0⟩ (.inr ⟨rfl, by decide, by decide⟩)⟩, by simp only; omega⟩
   ·rw [dF c1]
    by_cases c2 : c = 43
    ·left
     rw [dT c2]
     simp only [cond_true, cond_false, Option.bind_some]
     rw [dT (show (2 : Int) > 0 by omega), rm]
     exact ⟨(k + 1, ts ++ [⟨2, 0⟩]), _, rfl, rfl, ⟨rfl, nx ⟨2, 0⟩ (.inr ⟨rfl, by decide, by decide⟩)⟩, by simp only; omega⟩
    ·rw [dF c2]
     by_cases c3 : c = 37
     ·left
      rw [dT c3]
      simp only [cond_true, cond_false, Option.bind_some]
      rw [dT (show (3 : Int) > 0 by omega), rm]
      exact ⟨(k + 1, ts ++ [⟨3, 0⟩]), _, rfl, rfl, ⟨rfl, nx ⟨3, 0⟩ (.inr ⟨rfl, by decide, by decide⟩)⟩, by simp only; omega⟩
     ·rw [dF c3]
      by_cases c4 : c = 164
      ·left
       rw [dT c4]
       simp only [cond_true, cond_false, Option.bind_some]
       rw [dT (show (4 : Int) > 0 by omega), rm]
       exact ⟨(k + 1, ts ++ [⟨4, 0⟩]), _, rfl, rfl, ⟨rfl, nx ⟨4, 0⟩ (.inr ⟨rfl, by decide, by decide⟩)⟩, by simp only; omega⟩
      ·rw [dF c4]
       simp only [cond_true, cond_false, Option.bind_some]
       rw [dF (show ¬ (0 : Int) > 0 by omega)]
       by_cases c5 : c = 39
       ·rw [dT c5, dF (show ¬ ¬ c = 39 by omega)]
        simp only [cond_true, cond_false, Option.bind_some]
        by_cases c6 : atV l (k + 1) = 39
        ·left
         have hk2 := at_in c6 (by omega)
         rw [dT c6]
         unfold pat_reader__quoted_s0
         rw [twice_at hl (by omega) (by omega), if_pos ⟨by omega, c6⟩]
         simp only [cond_true, Option.bind_some]
         rw [rm]
         exact ⟨(k + 2, ts ++ [⟨0, 39⟩]), _, rfl, rfl, ⟨rfl, ⟨by simp only; omega, by simp only; omega⟩, by simp; omega, tokIn_snoc p4 (.inl ⟨rfl, .inr rfl⟩), fun h => by simp at h⟩, by simp only; omega⟩
        ·obtain ⟨s, us, q1, q2, q3, q4, q5⟩ := quoted_same (a2 := a2) hl (by omega) hk (by omega) c6 p3 p4
         rw [dF c6]
         simp only [cond_false]
         rw [q1]
         simp only [Option.bind_some]
         rcases q5 with ⟨g1, e, g2⟩ | ⟨g1, g2, g3⟩
         ·right
          rw [dT g1, g2]
          exact ⟨_, _, rfl, .inl rfl, .inr ⟨_, _, _, rfl, rfl⟩⟩
         ·left
          rw [dF (show ¬ s ≥ (l.length : Int) by omega), g3, w64 (n := s + 1) (by omega) (by omega)]
          exact ⟨(s + 1, us), _, rfl, rfl, ⟨rfl, ⟨by simp only; omega, by simp only; omega⟩, by simp only; omega, q3, fun h => absurd h g2⟩, by simp only; omega⟩
       ·rw [dF c5, dT c5]
        simp only [cond_true, cond_false, Option.bind_some]
        cases hsc : spc c with
        | true =>
         right
         exact ⟨_, _, rfl, .inl rfl, .inl ⟨ts, k, .inr ⟨rfl, rfl⟩, by omega, p4, p5⟩⟩
        | false =>
         left
         exact ⟨(k + 1, ts ++ [⟨0, c⟩]), _, rfl, rfl, ⟨rfl, nx ⟨0, c⟩ (.inl ⟨rfl, .inl hmem⟩)⟩, by simp only; omega⟩
  ·rw [dF hk]
   right
   exact ⟨_, _, rfl, .inl rfl, .inl ⟨ts, k, .inl ⟨rfl, rfl⟩, by omega, p4, p5⟩⟩
end
/-! Two readers side by side: places. -/
section
variable {l : List Int} {a2 a3 a4 a5 a6 : Int} {b7 : List St33} {b8 : Bool} {c11 c12 c15 c16 c17 c19 c20 : Int} {c18 : Bool}
def setP (p : St23) (h m g1 g2 : Int) : St23 := ⟨p.Pre_, p.Suf_, p.NPre_, p.NSuf_, p.Neg_, h, m, p.MinFrac_, p.MaxFrac_, g1, g2, p.MinSig_, p.MaxSig_, p.Exp_, p.ExpPlus_, p.Pad_, p.PadAt_⟩
theorem places_same {i : Int} {p : St23} (hl : l.length ≤ 400) (h0 : 0 ≤ i) (hi : i ≤ l.length) (z1 : p.Hash_ = 0) (z2 : p.MinInt_ = 0) (z3 : p.G1_ = 0) (z4 : p.G2_ = 0) :
  (∃ pos h m g1 g2, pat_reader__places_s0 l i a2 a3 a4 a5 a6 b7 b8 0 0 c11 c12 0 0 c15 c16 c17 c18 c19 c20 = some (.inl (pos, h, m, g1, g2)) ∧ exergueref10_places p l i = some (setP p h m g1 g2, pos, true) ∧ (i ≤ pos ∧ pos ≤ l.length) ∧ (0 ≤ h ∧ h ≤ 400) ∧ (0 ≤ m ∧ m ≤ 400)) ∨
  (∃ e q pos, pat_reader__places_s0 l i a2 a3 a4 a5 a6 b7 b8 0 0 c11 c12 0 0 c15 c16 c17 c18 c19 c20 = some (.inr e) ∧ exergueref10_places p l i = some (q, pos, false)) := by
 have hl0 := hl
 replace hl : l.length ≤ 10000 := by omega
 unfold pat_reader__places_s0 exergueref10_places
 rw [z1, z2]
 generalize hst1 : (fun (s300 : Int × Int × Int × Int × Int × Int) => ((Option.bind (Option.bind (Option.bind (pat_reader__place_s0 0 l s300.2.2.1 a2 a3 a4 a5 a6 b7 b8 s300.2.2.2.1 s300.2.2.2.2.1 c11 c12 0 s300.2.2.2.2.2 c15 c16 c17 c18 c19 c20) fun y545 => (bif y545 then (some true) else (Option.bind (pat_reader__comma_s0 s300.2.1 l s300.2.2.1 a2 a3 a4 a5 a6 b7 b8 s300.2.2.2.1 s300.2.2.2.2.1 c11 c12 0 s300.2.2.2.2.2 c15 c16 c17 c18 c19 c20) fun y551 => (some y551)))) fun (s540 : Bool) => (bif s540 then (some (.inl ())) else (some (.inr (.inr (.inl (s300.1, s300.2.1, s300.2.2.1, s300.2.2.2.1, s300.2.2.2.2.1, s300.2.2.2.2.2))))))) (joinX fun (s526 : Unit) => (Option.bind (pat_reader__eat_s0 44 l s300.2.2.1 a2 a3 a4 a5 a6) fun y560 => (bif y560.1 then (some (.inl ((IntKind.wrap .i64 (s300.1 + 1)), 0, y560.2, s300.2.2.2.1, s300.2.2.2.2.1, s300.2.2.2.2.2))) else (Option.bind (Option.bind (pat_reader__eat_s0 48 l y560.2 a2 a3 a4 a5 a6) fun y577 => (bif y577.1 then (some (y577.2, s300.2.2.2.1, (IntKind.wrap .i64 (s300.2.2.2.2.1 + 1)))) else (some ((IntKind.wrap .i64 (y577.2 + 1)), (IntKind.wrap .i64 (s300.2.2.2.1 + 1)), s300.2.2.2.2.1)))) fun (s572 : Int × Int × Int) => (Option.bind (pat_reader__between_s0 s300.1 (IntKind.wrap .i64 (s300.2.1 + 1)) l s572.1 a2 a3 a4 a5 a6 b7 b8 s572.2.1 s572.2.2 c11 c12 0 s300.2.2.2.2.2 c15 c16 c17 c18 c19 c20) fun y583 => (Sum.elim (fun y586 => (some (.inl (s300.1, (IntKind.wrap .i64 (s300.2.1 + 1)), s572.1, s572.2.1, s572.2.2, y586)))) (fun y587 => (some (.inr (.inr (.inr (s572.1, s572.1, s572.2.1, s572.2.2, s300.2.2.2.2.2)))))) y583))))))) : Option ((Int × Int × Int × Int × Int × Int) ⊕ ((Int × Int × Int × Int × Int × Int) ⊕ ((Int × Int × Int × Int × Int) ⊕ (Int × Int × Int × Int × Int)))))) = step1
 generalize hst2 : (fun (s1 : Int × Int × Int × Int × (List Int)) => ((Option.bind (exergueref10_at l s1.1) fun y442 => (Option.bind (exergueref10_at l (IntKind.wrap .i64 (s1.1 + 1))) fun y445 => (Option.bind (Option.bind (bif (decide (y442 = 35)) then (some (decide (s1.2.2.2.1 = 0))) else (some false)) fun (s471 : Bool) => (bif s471 then (some (.inr (.inl ((IntKind.wrap .i64 (s1.1 + 1)), (IntKind.wrap .i64 (s1.2.1 + 1)), (IntKind.wrap .i64 (s1.2.2.1 + 1)), s1.2.2.2.1, s1.2.2.2.2)))) else (some (.inl ())))) (joinX fun (s463 : Unit) => (bif (decide (y442 = 48)) then (some (.inl ((IntKind.wrap .i64 (s1.1 + 1)), (IntKind.wrap .i64 (s1.2.1 + 1)), s1.2.2.1, (IntKind.wrap .i64 (s1.2.2.2.1 + 1)), s1.2.2.2.2))) else (Option.bind (Option.bind (bif (decide (y442 = 44)) then (bif (decide (s1.2.1 > 0)) then (bif (decide (y445 = 48)) then (some true) else (bif (decide (y445 = 35)) then (some (decide (s1.2.2.2.1 = 0))) else (some false))) else (some false)) else (some false)) fun (s586 : Bool) => (bif s586 then (Option.bind (Option.bind (bif (decide ((s1.2.2.2.2.length : Int) ≥ 2)) then (bif inR 1 s1.2.2.2.2.length then (bif inR 1 s1.2.2.2.2.length then (some ((decide (¬ (nth s1.2.2.2.2 1) = s1.2.1)))) else none) else none) else (some false)) fun (s638 : Bool) => (bif s638 then (some (.inr (.inr (.inr ((⟨p.Pre_, p.Suf_, p.NPre_, p.NSuf_, p.Neg_, s1.2.2.1, s1.2.2.2.1, p.MinFrac_, p.MaxFrac_, p.G1_, p.G2_, p.MinSig_, p.MaxSig_, p.Exp_, p.ExpPlus_, p.Pad_, p.PadAt_⟩ : St23), s1.1, false))))) else (some (.inl ())))) (joinX fun (s628 : Unit) => (bif room (s1.2.2.2.2.length + ([s1.2.1] : List Int).length) then (some (.inr (.inl ((IntKind.wrap .i64 (s1.1 + 1)), 0, s1.2.2.1, s1.2.2.2.1, (s1.2.2.2.2 ++ ([s1.2.1] : List Int)))))) else none))) else (some (.inl ())))) (joinX fun (s569 : Unit) => (Option.bind (bif (decide ((s1.2.2.2.2.length : Int) = 1)) then (some (s1.2.1, s1.2.1)) else (some (p.G1_, p.G2_))) fun (s660 : Int × Int) => (Option.bind (bif (decide ((s1.2.2.2.2.length : Int) > 1)) then (bif inR 1 s1.2.2.2.2.length then (bif inR 1 s1.2.2.2.2.length then (some (s1.2.1, (nth s1.2.2.2.2 1))) else none) else none) else (some (s660.1, s660.2))) fun (s673 : Int × Int) => (some (.inr ((⟨p.Pre_, p.Suf_, p.NPre_, p.NSuf_, p.Neg_, s1.2.2.1, s1.2.2.2.1, p.MinFrac_, p.MaxFrac_, s673.1, s673.2, p.MinSig_, p.MaxSig_, p.Exp_, p.ExpPlus_, p.Pad_, p.PadAt_⟩ : St23), s1.1, (decide ((IntKind.wrap .i64 (s1.2.2.1 + s1.2.2.2.1)) > 0)))))))))))))) : Option ((Int × Int × Int × Int × (List Int)) ⊕ (St23 × Int × Bool)))) = step2
 -- a place is read
 have s_pl : ∀ (k sn pos h m g : Int), 0 ≤ k → k ≤ 1000 → 0 ≤ sn → sn ≤ 1000 → 0 ≤ pos → pos < l.length → 0 ≤ h → h ≤ 1000 → 0 ≤ m → m ≤ 1000 → (atV l pos = 48 ∨ (m = 0 ∧ atV l pos = 35)) →
   step1 (k, sn, pos, h, m, g) = (if k = 0 ∨ ¬ cmAt l (sn + 1) (pos + 1) (if atV l pos = 48 then m + 1 else m) then some (.inl (k, sn + 1, pos + 1, (if atV l pos = 48 then h else h + 1), (if atV l pos = 48 then m + 1 else m), g)) else if k > 1 ∧ sn + 1 ≠ g then some (.inr (.inr (.inr (pos + 1, pos + 1, (if atV l pos = 48 then h else h + 1), (if atV l pos = 48 then m + 1 else m), g)))) else some (.inl (k, sn + 1, pos + 1, (if atV l pos = 48 then h else h + 1), (if atV l pos = 48 then m + 1 else m), sn + 1))) := by
  intro k sn pos h m g q1 q2 q3 q4 q5 q6 q7 q8 q9 q10 hd
  subst hst1
  simp only
  rw [place_at hl (by omega) (by omega), Int.add_zero, dT (show plAt l pos m from hd), eat_at hl q5 (by omega) (by omega), if_neg (show ¬ atV l pos = 44 by omega)]
  simp only [cond_true, cond_false, Option.bind_some, joinX]
  rw [eat_at hl q5 (by omega) (by omega), w64 (n := sn + 1) (by omega) (by omega), w64 (n := m + 1) (by omega) (by omega), w64 (n := h + 1) (by omega) (by omega)]
  by_cases h48 : atV l pos = 48
  ·simp only [h48, if_true, cond_true, Option.bind_some]
   rw [between_at hl (by omega) (by omega)]
   split
   ·rfl
   ·split <;> rfl
  ·simp only [h48, if_false, cond_false, Option.bind_some]
   rw [w64 (n := pos + 1) (by omega) (by omega), between_at hl (by omega) (by omega)]
   split
   ·rfl
   ·split <;> rfl
 have s_cm : ∀ (k sn pos h m g : Int), 0 ≤ k → k ≤ 1000 → 0 ≤ pos → pos < l.length → cmAt l sn pos m → step1 (k, sn, pos, h, m, g) = some (.inl (k + 1, 0, pos + 1, h, m, g)) := by
  intro k sn pos h m g q1 q2 q5 q6 hd
  subst hst1
  simp only
  rw [place_at hl (by omega) (by omega), Int.add_zero, dF (show ¬ plAt l pos m by rintro (h | ⟨_, h⟩) <;> (have := hd.2.1; omega)), comma_at hl q5 (by omega), dT hd]
  simp only [cond_true, cond_false, Option.bind_some, joinX]
  rw [eat_at hl q5 (by omega) (by omega), if_pos hd.2.1, w64 (n := k + 1) (by omega) (by omega)]
  rfl
 have hrun := loop_rel (step1 := step1) (step2 := step2) (a := (0, 0, i, 0, 0, 0)) (b := (i, 0, 0, 0, []))
  (fun s t => ∃ (k sn j h m g : Int) (gs : List Int), s = (k, sn, j, h, m, g) ∧ t = (j, sn, h, m, gs) ∧ (i ≤ j ∧ j ≤ l.length) ∧ (0 ≤ sn ∧ sn ≤ j) ∧ (0 ≤ h ∧ h ≤ j) ∧ (0 ≤ m ∧ m ≤ j) ∧ k = (gs.length : Int) ∧ k ≤ j ∧ (k = 0 → g = 0) ∧ (2 ≤ k → g = nth gs 1) ∧ (k = 1 → cmAt l sn j m → g = sn) ∧ (2 ≤ k → cmAt l sn j m → sn = nth gs 1))
  (fun s => ((l.length : Int) - s.2.2.1).toNat)
  (fun o1 o2 => (∃ k sn j h m g g1 g2 : Int, o1 = .inl (k, sn, j, h, m, g) ∧ o2 = (setP p h m g1 g2, j, decide (h + m > 0)) ∧ (i ≤ j ∧ j ≤ l.length) ∧ (0 ≤ h ∧ h ≤ j) ∧ (0 ≤ m ∧ m ≤ j) ∧ ((k = 0 ∧ g1 = 0 ∧ g2 = g) ∨ (k = 1 ∧ g1 = sn ∧ g2 = sn) ∨ (2 ≤ k ∧ g1 = sn ∧ g2 = g))) ∨ ∃ e q pos, o1 = .inr (.inr e) ∧ o2 = (q, pos, false))
  ⟨0, 0, i, 0, 0, 0, [], rfl, rfl, by omega, by omega, by omega, by omega, rfl, by omega, fun _ => rfl, fun h => by omega, fun h => by omega, fun h => by omega⟩ (by simp only; omega) (fun s t hs => ?_)
 ·obtain ⟨o1, o2, e1, e2, hR⟩ := hrun
  rw [e1, e2]
  rcases hR with ⟨k, sn, j, h, m, g, g1, g2, rfl, rfl, h2, h3, h4, h5⟩ | ⟨e, q, pos, rfl, rfl⟩
  ·simp only [Option.bind_some, joinX]
   rw [w64 (n := h + m) (by omega) (by omega)]
   by_cases hz : h + m = 0
   ·right
    rw [dT hz, dF (show ¬ h + m > 0 by omega)]
    exact ⟨_, _, _, rfl, rfl⟩
   ·left
    rw [dF hz, dT (show h + m > 0 by omega)]
    simp only [cond_false, Option.bind_some, joinX]
    refine ⟨j, h, m, g1, g2, ?_, rfl, h2, by omega, by omega⟩
    rcases h5 with ⟨rfl, rfl, rfl⟩ | ⟨rfl, rfl, rfl⟩ | ⟨q1, rfl, rfl⟩
    ·rfl
    ·rfl
    ·rw [dF (show ¬ k = 0 by omega), dF (show ¬ k = 1 by omega)]; rfl
  ·exact .inr ⟨e, q, pos, rfl, rfl⟩
 ·obtain ⟨k, sn, j, h, m, g, gs, rfl, rfl, ⟨p1, p2⟩, ⟨p3, p4⟩, ⟨p5, p6⟩, ⟨p7, p8⟩, p9, p10, f0, f1, f2, f3⟩ := hs
  -- the other reader's steps
  have r_pl : ∀ (j sn h m : Int), 0 ≤ j → j ≤ 10000 → 0 ≤ sn → sn ≤ 10000 → 0 ≤ h → h ≤ 10000 → 0 ≤ m → m ≤ 10000 → (atV l j = 48 ∨ (m = 0 ∧ atV l j = 35)) → step2 (j, sn, h, m, gs) = some (.inl (j + 1, sn + 1, (if atV l j = 48 then h else h + 1), (if atV l j = 48 then m + 1 else m), gs)) := by
   intro j sn h m q1 q2 q3 q4 q5 q6 q7 q8 hd
   subst hst2
   simp only
   rw [at_eq3 q1, at_eq3 (by rw [w64 (by omega) (by omega)]; omega), w64 (n := j + 1) (by omega) (by omega), w64 (n := sn + 1) (by omega) (by omega), w64 (n := h + 1) (by omega) (by omega), w64 (n := m + 1) (by omega) (by omega)]
   simp only [Option.bind_some]
   by_cases c1 : atV l j = 48
   ·rw [dF (show ¬ atV l j = 35 by omega), dT c1, if_pos c1, if_pos c1]; rfl
   ·rcases hd with hd | ⟨hd1, hd2⟩
    ·exact absurd hd c1
    ·rw [dT hd2, dT hd1, if_neg c1, if_neg c1]; rfl
  have r_cm : ∀ (j sn h m : Int), 0 ≤ j → j ≤ 10000 → 0 ≤ sn → sn ≤ 10000 → 0 ≤ h → h ≤ 10000 → 0 ≤ m → m ≤ 10000 → cmAt l sn j m → step2 (j, sn, h, m, gs) = if (gs.length : Int) ≥ 2 ∧ ¬ nth gs 1 = sn then some (.inr (setP p h m p.G1_ p.G2_, j, false)) else some (.inl (j + 1, 0, h, m, gs ++ [sn])) := by
   intro j sn h m q1 q2 q3 q4 q5 q6 q7 q8 hd
   subst hst2
   obtain ⟨d1, d2, d3⟩ := hd
   simp only
   rw [at_eq3 q1, at_eq3 (by rw [w64 (by omega) (by omega)]; omega), w64 (n := j + 1) (by omega) (by omega)]
   simp only [Option.bind_some]
   rw [dF (show ¬ atV l j = 35 by omega), dF (show ¬ atV l j = 48 by omega), dT d2, dT (show sn > 0 from d1)]
   simp only [cond_true, cond_false, Option.bind_some, joinX]
   have hnx : (Option.bind (bif decide (atV l (j + 1) = 48) then some true else bif decide (atV l (j + 1) = 35) then some (decide (m = 0)) else some false) fun (b : Bool) => some b) = some true := by
    rcases d3 with d3 | ⟨d3, d4⟩
    ·rw [dT d3]; rfl
    ·rw [dF (show ¬ atV l (j + 1) = 48 by omega), dT d4, dT d3]; rfl
   have hnx2 : (bif decide (atV l (j + 1) = 48) then some true else bif decide (atV l (j + 1) = 35) then some (decide (m = 0)) else some false) = some true := by
    rcases d3 with d3 | ⟨d3, d4⟩
    ·rw [dT d3]; rfl
    ·rw [dF (show ¬ atV l (j + 1) = 48 by omega), dT d4, dT d3]; rfl
   rw [hnx2]
   simp only [cond_true, Option.bind_some]
   rw [room_of (by simp; omega)]
   by_cases e1 : (gs.length : Int) ≥ 2
   ·rw [dT e1, inR_int (by omega) (by omega)]
    by_cases e2 : nth gs 1 = sn
    ·rw [dF (fun hh => hh e2), if_neg (fun hh => hh.2 e2)]; rfl
    ·rw [dT e2, if_pos ⟨e1, e2⟩]; rfl
   ·rw [dF e1, if_neg (fun hh => e1 hh.1)]; rfl
  by_cases hd : atV l j = 48 ∨ (m = 0 ∧ atV l j = 35)
  ·have hjl : j < l.length := by
    rcases hd with hd | hd
    ·exact at_in hd (by omega)
    ·exact at_in hd.2 (by omega)
   have e1 := s_pl k sn j h m g (by omega) (by omega) (by omega) (by omega) (by omega) hjl (by omega) (by omega) (by omega) (by omega) hd
   have e2 := r_pl j sn h m (by omega) (by omega) (by omega) (by omega) (by omega) (by omega) (by omega) (by omega) hd
   have hb1 : 0 ≤ (if atV l j = 48 then h else h + 1) ∧ (if atV l j = 48 then h else h + 1) ≤ j + 1 := by split <;> omega
   have hb2 : 0 ≤ (if atV l j = 48 then m + 1 else m) ∧ (if atV l j = 48 then m + 1 else m) ≤ j + 1 := by split <;> omega
   generalize (if atV l j = 48 then h else h + 1) = h' at *
   generalize (if atV l j = 48 then m + 1 else m) = m' at *
   by_cases hx : k = 0 ∨ ¬ cmAt l (sn + 1) (j + 1) m'
   ·rw [if_pos hx] at e1
    left
    refine ⟨_, _, e1, e2, ⟨k, sn + 1, j + 1, h', m', g, gs, rfl, rfl, by omega, by omega, by omega, by omega, p9, by omega, f0, f1, fun hk hc => ?_, fun hk hc => ?_⟩, by simp only; omega⟩
    ·rcases hx with hx | hx
     ·omega
     ·exact absurd hc hx
    ·rcases hx with hx | hx
     ·omega
     ·exact absurd hc hx
   ·rw [if_neg hx] at e1
    have hc : cmAt l (sn + 1) (j + 1) m' := by
     by_cases hc : cmAt l (sn + 1) (j + 1) m'
     ·exact hc
     ·exact absurd (.inr hc) hx
    have hk0 : ¬ k = 0 := fun hk => hx (.inl hk)
    by_cases hy : k > 1 ∧ sn + 1 ≠ g
    ·rw [if_pos hy] at e1
     right
     have e3 := r_cm (j + 1) (sn + 1) h' m' (by omega) (by omega) (by omega) (by omega) (by omega) (by omega) (by omega) (by omega) hc
     rw [if_pos ⟨by omega, fun hh => hy.2 (by rw [f1 (by omega)]; exact hh.symm)⟩] at e3
     exact ⟨_, _, e1, .inr ⟨_, e2, e3⟩, .inr ⟨_, _, _, rfl, rfl⟩⟩
    ·rw [if_neg hy] at e1
     left
     refine ⟨_, _, e1, e2, ⟨k, sn + 1, j + 1, h', m', sn + 1, gs, rfl, rfl, by omega, by omega, by omega, by omega, p9, by omega, fun hk => absurd hk hk0, fun hk => ?_, fun _ _ => rfl, fun hk _ => ?_⟩, by simp only; omega⟩
     ·rw [← f1 hk]
      rcases Int.lt_trichotomy (sn + 1) g with h1 | h1 | h1
      ·exact absurd ⟨by omega, by omega⟩ hy
      ·exact h1
      ·exact absurd ⟨by omega, by omega⟩ hy
     ·rw [← f1 hk]
      rcases Int.lt_trichotomy (sn + 1) g with h1 | h1 | h1
      ·exact absurd ⟨by omega, by omega⟩ hy
      ·exact h1
      ·exact absurd ⟨by omega, by omega⟩ hy
  ·by_cases hc : cmAt l sn j m
   ·have hjl : j < l.length := at_in hc.2.1 (by omega)
    have e1 := s_cm k sn j h m g (by omega) (by omega) (by omega) hjl hc
    have e2 := r_cm j sn h m (by omega) (by omega) (by omega) (by omega) (by omega) (by omega) (by omega) (by omega) hc
    rw [if_neg (fun hh => hh.2 (f3 (by omega) hc).symm)] at e2
    left
    have hno : ∀ {q : Prop}, cmAt l 0 (j + 1) m → q := fun hh => absurd hh.1 (by omega)
    refine ⟨_, _, e1, e2, ⟨k + 1, 0, j + 1, h, m, g, gs ++ [sn], rfl, rfl, by omega, by omega, by omega, by omega, by simp; omega, by omega, fun hk => by omega, fun hk => ?_, fun _ hh => hno hh, fun _ hh => hno hh⟩, by simp only; omega⟩
    ·by_cases hk1 : k = 1
     ·rw [f2 hk1 hc]
      have hg1 : gs.length = 1 := by omega
      obtain ⟨x, rfl⟩ := List.length_eq_one_iff.1 hg1
      rfl
     ·rw [f1 (by omega)]
      have hg1 : 1 < gs.length := by omega
      show nth gs ((1 : Nat) : Int) = nth (gs ++ [sn]) ((1 : Nat) : Int)
      rw [nth_nat hg1, nth_nat (by simp; omega), List.getElem_append_left]
   ·right
    have e1 : step1 (k, sn, j, h, m, g) = some (.inr (.inl (k, sn, j, h, m, g))) := by
     subst hst1
     simp only
     rw [place_at hl (by omega) (by omega), Int.add_zero, dF (show ¬ plAt l j m from hd), comma_at hl (by omega) (by omega), dF hc]
     rfl
    have e2 : ∃ g1 g2, step2 (j, sn, h, m, gs) = some (.inr (setP p h m g1 g2, j, decide (h + m > 0))) ∧ ((k = 0 ∧ g1 = 0 ∧ g2 = g) ∨ (k = 1 ∧ g1 = sn ∧ g2 = sn) ∨ (2 ≤ k ∧ g1 = sn ∧ g2 = g)) := by
     subst hst2
     simp only
     rw [at_eq3 (by omega), at_eq3 (by rw [w64 (by omega) (by omega)]; omega), w64 (n := j + 1) (by omega) (by omega), w64 (n := h + m) (by omega) (by omega)]
     simp only [Option.bind_some]
     have hp1 : (Option.bind (bif decide (atV l j = 35) then some (decide (m = 0)) else some false) fun (s471 : Bool) => (bif s471 then (some (.inr (.inl ((j + 1), (IntKind.wrap .i64 (sn + 1)), (IntKind.wrap .i64 (h + 1)), m, gs)))) else (some (.inl ())) : Option (Unit ⊕ ((Int × Int × Int × Int × (List Int)) ⊕ (St23 × Int × Bool))))) = some (.inl ()) := by
      by_cases q1 : atV l j = 35
      ·rw [dT q1, dF (show ¬ m = 0 from fun hm => hd (.inr ⟨hm, q1⟩))]; rfl
      ·rw [dF q1]; rfl
     rw [hp1]
     simp only [Option.bind_some, joinX]
     rw [dF (show ¬ atV l j = 48 from fun hh => hd (.inl hh))]
     have hp2 : (bif decide (atV l j = 44) then (bif decide (sn > 0) then (bif decide (atV l (j + 1) = 48) then (some true) else (bif decide (atV l (j + 1) = 35) then (some (decide (m = 0))) else (some false))) else (some false)) else (some false)) = some false := by
      by_cases q1 : atV l j = 44
      ·rw [dT q1]
       by_cases q2 : sn > 0
       ·rw [dT q2]
        by_cases q3 : atV l (j + 1) = 48
        ·exact absurd ⟨q2, q1, .inl q3⟩ hc
        ·rw [dF q3]
         by_cases q4 : atV l (j + 1) = 35
         ·rw [dT q4, dF (show ¬ m = 0 from fun hm => hc ⟨q2, q1, .inr ⟨hm, q4⟩⟩)]; rfl
         ·rw [dF q4]; rfl
       ·rw [dF q2]; rfl
      ·rw [dF q1]; rfl
     simp only [cond_false]
     rw [hp2]
     simp only [cond_false, Option.bind_some, joinX]
     rcases (show (gs.length : Int) = 0 ∨ (gs.length : Int) = 1 ∨ (gs.length : Int) ≥ 2 by omega) with q | q | q
     ·rw [dF (show ¬ (gs.length : Int) = 1 by omega), dF (show ¬ (gs.length : Int) > 1 by omega)]
      exact ⟨p.G1_, p.G2_, rfl, .inl ⟨by omega, z3, by rw [z4, f0 (by omega)]⟩⟩
     ·rw [dT q, dF (show ¬ (gs.length : Int) > 1 by omega)]
      exact ⟨sn, sn, rfl, .inr (.inl ⟨by omega, rfl, rfl⟩)⟩
     ·rw [dF (show ¬ (gs.length : Int) = 1 by omega), dT (show (gs.length : Int) > 1 by omega), inR_int (by omega) (by omega)]
      exact ⟨sn, nth gs 1, rfl, .inr (.inr ⟨by omega, rfl, (f1 (by omega)).symm⟩)⟩
    obtain ⟨g1, g2, e2, e3⟩ := e2
    exact ⟨_, _, e1, .inl e2, .inl ⟨k, sn, j, h, m, g, g1, g2, rfl, rfl, ⟨p1, p2⟩, ⟨p5, p6⟩, ⟨p7, p8⟩, e3⟩⟩
theorem rmany_at {i c : Int} (hl : l.length ≤ 10000) (h0 : 0 ≤ i) (h1 : i ≤ l.length) (hc : c ≠ -1) : ∃ n, exergueref10_many l i c = some n ∧ Mn l i c n ∧ i + n ≤ l.length := by
 unfold exergueref10_many
 obtain ⟨o, h2, h3, h4, h5⟩ := loop_var (step := fun (s33 : Int) => (Option.bind (exergueref10_at l (IntKind.wrap .i64 (i + s33))) fun y52 => (bif (decide (y52 = c)) then (some (.inl (IntKind.wrap .i64 (s33 + 1)))) else (some (.inr s33))))) (fun s => 0 ≤ s ∧ i + s ≤ l.length ∧ ∀ j, 0 ≤ j → j < s → atV l (i + j) = c) (fun s => ((l.length : Int) - (i + s)).toNat) (fun o => 0 ≤ o ∧ i + o ≤ l.length ∧ Mn l i c o) (s0 := 0) ⟨by omega, by omega, fun j a b => by omega⟩ (by omega) (fun s hs => by
  obtain ⟨q2, q3, q4⟩ := hs
  rw [w64 (n := i + s) (by omega) (by omega), at_eq3 (by omega)]
  simp only [Option.bind_some]
  by_cases h : atV l (i + s) = c
  ·left
   have hin := at_in h hc
   rw [dT h, w64 (n := s + 1) (by omega) (by omega)]
   refine ⟨s + 1, rfl, ⟨by omega, by omega, fun j a b => ?_⟩, by omega⟩
   by_cases hj : j < s
   ·exact q4 j a hj
   ·rw [show j = s by omega]; exact h
  ·right
   rw [dF h]
   exact ⟨s, rfl, q2, q3, q2, q4, h⟩)
 rw [h2]
 exact ⟨o, rfl, h5, h4⟩
theorem many_both {i c b2 b3 b4 b5 b6 : Int} (hl : l.length ≤ 10000) (h0 : 0 ≤ i) (h1 : i ≤ l.length) (hc : c ≠ -1) : ∃ n, pat_reader__many_s0 c l i b2 b3 b4 b5 b6 = some (n, i + n) ∧ exergueref10_many l i c = some n ∧ 0 ≤ n ∧ i + n ≤ l.length := by
 obtain ⟨n, e1, m1, e2⟩ := many_at (a3 := b2) (a4 := b3) (a5 := b4) (a6 := b5) (a7 := b6) hl h0 h1 hc
 obtain ⟨m, e3, m2, _⟩ := rmany_at hl h0 h1 hc
 have := m1.unique m2
 subst this
 exact ⟨n, e1, e3, m1.1, e2⟩
def mkP (pre suf npre nsuf : List St33) (neg : Bool) (pad pa h m nf xf g1 g2 ns xs ex : Int) (ep : Bool) : St23 := ⟨pre, suf, npre, nsuf, neg, h, m, nf, xf, g1, g2, ns, xs, ex, ep, pad, pa⟩
theorem number_same {i pad pa : Int} {pre suf npre nsuf : List St33} {neg : Bool} (hl : l.length ≤ 400) (h0 : 0 ≤ i) (hi : i ≤ l.length) :
  (∃ pos h m nf xf g1 g2 ns xs ex ep, pat_reader__number_s0 l i a2 a3 a4 a5 a6 b7 b8 0 0 0 0 0 0 0 0 0 false c19 c20 = some (.inl (pos, h, m, nf, xf, g1, g2, ns, xs, ex, ep)) ∧ exergueref10_number (mkP pre suf npre nsuf neg pad pa 0 0 0 0 0 0 0 0 0 false) l i = some (mkP pre suf npre nsuf neg pad pa h m nf xf g1 g2 ns xs ex ep, pos, true) ∧ (i ≤ pos ∧ pos ≤ l.length) ∧ (0 ≤ h ∧ h ≤ 400) ∧ (0 ≤ m ∧ m ≤ 400)) ∨
  (∃ e q pos, pat_reader__number_s0 l i a2 a3 a4 a5 a6 b7 b8 0 0 0 0 0 0 0 0 0 false c19 c20 = some (.inr e) ∧ exergueref10_number (mkP pre suf npre nsuf neg pad pa 0 0 0 0 0 0 0 0 0 false) l i = some (q, pos, false)) := by
 have hl0 := hl
 replace hl : l.length ≤ 10000 := by omega
 -- what stands behind the places
 have hE : ∀ (j h m nf xf g1 g2 ns xs : Int), 0 ≤ j → j ≤ l.length → i ≤ j →
   (∃ pos ex ep, (joinX fun (s28 : Int × Int × Int × Int × Int × Int × Int × Int) => (Option.bind (pat_reader__eat_s0 69 l s28.1 a2 a3 a4 a5 a6) fun y57 => (bif (!y57.1) then (some (.inl (y57.2, s28.2.1, s28.2.2.1, s28.2.2.2.1, s28.2.2.2.2.1, s28.2.2.2.2.2.1, s28.2.2.2.2.2.2.1, ns, s28.2.2.2.2.2.2.2, 0, false))) else (Option.bind (pat_reader__eat_s0 43 l y57.2 a2 a3 a4 a5 a6) fun y63 => (Option.bind (pat_reader__many_s0 48 l y63.2 a2 a3 a4 a5 a6) fun y66 => (bif (decide (y66.1 = 0)) then (Option.bind (pat_reader__fail_s0 y66.2 l y66.2 a2 a3 a4 a5 a6) fun y72 => (some (.inr (y66.2, y66.2, s28.2.1, s28.2.2.1, s28.2.2.2.1, s28.2.2.2.2.1, s28.2.2.2.2.2.1, s28.2.2.2.2.2.2.1, ns, s28.2.2.2.2.2.2.2, y66.1, y63.1)))) else (some (.inl (y66.2, s28.2.1, s28.2.2.1, s28.2.2.2.1, s28.2.2.2.2.1, s28.2.2.2.2.2.1, s28.2.2.2.2.2.2.1, ns, s28.2.2.2.2.2.2.2, y66.1, y63.1))))))))) (.inl (j, h, m, nf, xf, g1, g2, xs)) = (some (.inl (pos, h, m, nf, xf, g1, g2, ns, xs, ex, ep)) : Option ((Int × Int × Int × Int × Int × Int × Int × Int × Int × Int × Bool) ⊕ (Int × Int × Int × Int × Int × Int × Int × Int × Int × Int × Int × Bool))) ∧
    (joinX fun (s33 : Int × (List St33) × (List St33) × (List St33) × (List St33) × Bool × Int × Int × Int × Int × Int × Int × Int × Int × Int × Bool × Int × Int) => (Option.bind (exergueref10_at l s33.1) fun y67 => (bif (decide (¬ y67 = 69)) then (some ((⟨s33.2.1, s33.2.2.1, s33.2.2.2.1, s33.2.2.2.2.1, s33.2.2.2.2.2.1, s33.2.2.2.2.2.2.1, s33.2.2.2.2.2.2.2.1, s33.2.2.2.2.2.2.2.2.1, s33.2.2.2.2.2.2.2.2.2.1, s33.2.2.2.2.2.2.2.2.2.2.1, s33.2.2.2.2.2.2.2.2.2.2.2.1, s33.2.2.2.2.2.2.2.2.2.2.2.2.1, s33.2.2.2.2.2.2.2.2.2.2.2.2.2.1, s33.2.2.2.2.2.2.2.2.2.2.2.2.2.2.1, s33.2.2.2.2.2.2.2.2.2.2.2.2.2.2.2.1, s33.2.2.2.2.2.2.2.2.2.2.2.2.2.2.2.2.1, s33.2.2.2.2.2.2.2.2.2.2.2.2.2.2.2.2.2⟩ : St23), s33.1, true)) else (Option.bind (Option.bind (exergueref10_at l (IntKind.wrap .i64 (s33.1 + 1))) fun y84 => (bif (decide (y84 = 43)) then (some ((IntKind.wrap .i64 ((IntKind.wrap .i64 (s33.1 + 1)) + 1)), true)) else (some ((IntKind.wrap .i64 (s33.1 + 1)), s33.2.2.2.2.2.2.2.2.2.2.2.2.2.2.2.1)))) fun (s79 : Int × Bool) => (Option.bind (exergueref10_many l s79.1 48) fun y90 => (some ((⟨s33.2.1, s33.2.2.1, s33.2.2.2.1, s33.2.2.2.2.1, s33.2.2.2.2.2.1, s33.2.2.2.2.2.2.1, s33.2.2.2.2.2.2.2.1, s33.2.2.2.2.2.2.2.2.1, s33.2.2.2.2.2.2.2.2.2.1, s33.2.2.2.2.2.2.2.2.2.2.1, s33.2.2.2.2.2.2.2.2.2.2.2.1, s33.2.2.2.2.2.2.2.2.2.2.2.2.1, s33.2.2.2.2.2.2.2.2.2.2.2.2.2.1, y90, s79.2, s33.2.2.2.2.2.2.2.2.2.2.2.2.2.2.2.2.1, s33.2.2.2.2.2.2.2.2.2.2.2.2.2.2.2.2.2⟩ : St23), (IntKind.wrap .i64 (s79.1 + y90)), (decide (y90 > 0))))))))) (.inl (j, pre, suf, npre, nsuf, neg, h, m, nf, xf, g1, g2, ns, xs, 0, false, pad, pa)) = (some (mkP pre suf npre nsuf neg pad pa h m nf xf g1 g2 ns xs ex ep, pos, true) : Option (St23 × Int × Bool)) ∧ (i ≤ pos ∧ pos ≤ l.length)) ∨
   (∃ e q pos, (joinX fun (s28 : Int × Int × Int × Int × Int × Int × Int × Int) => (Option.bind (pat_reader__eat_s0 69 l s28.1 a2 a3 a4 a5 a6) fun y57 => (bif (!y57.1) then (some (.inl (y57.2, s28.2.1, s28.2.2.1, s28.2.2.2.1, s28.2.2.2.2.1, s28.2.2.2.2.2.1, s28.2.2.2.2.2.2.1, ns, s28.2.2.2.2.2.2.2, 0, false))) else (Option.bind (pat_reader__eat_s0 43 l y57.2 a2 a3 a4 a5 a6) fun y63 => (Option.bind (pat_reader__many_s0 48 l y63.2 a2 a3 a4 a5 a6) fun y66 => (bif (decide (y66.1 = 0)) then (Option.bind (pat_reader__fail_s0 y66.2 l y66.2 a2 a3 a4 a5 a6) fun y72 => (some (.inr (y66.2, y66.2, s28.2.1, s28.2.2.1, s28.2.2.2.1, s28.2.2.2.2.1, s28.2.2.2.2.2.1, s28.2.2.2.2.2.2.1, ns, s28.2.2.2.2.2.2.2, y66.1, y63.1)))) else (some (.inl (y66.2, s28.2.1, s28.2.2.1, s28.2.2.2.1, s28.2.2.2.2.1, s28.2.2.2.2.2.1, s28.2.2.2.2.2.2.1, ns, s28.2.2.2.2.2.2.2, y66.1, y63.1))))))))) (.inl (j, h, m, nf, xf, g1, g2, xs)) = (some (.inr e) : Option ((Int × Int × Int × Int × Int × Int × Int × Int × Int × Int × Bool) ⊕ (Int × Int × Int × Int × Int × Int × Int × Int × Int × Int × Int × Bool))) ∧
    (joinX fun (s33 : Int × (List St33) × (List St33) × (List St33) × (List St33) × Bool × Int × Int × Int × Int × Int × Int × Int × Int × Int × Bool × Int × Int) => (Option.bind (exergueref10_at l s33.1) fun y67 => (bif (decide (¬ y67 = 69)) then (some ((⟨s33.2.1, s33.2.2.1, s33.2.2.2.1, s33.2.2.2.2.1, s33.2.2.2.2.2.1, s33.2.2.2.2.2.2.1, s33.2.2.2.2.2.2.2.1, s33.2.2.2.2.2.2.2.2.1, s33.2.2.2.2.2.2.2.2.2.1, s33.2.2.2.2.2.2.2.2.2.2.1, s33.2.2.2.2.2.2.2.2.2.2.2.1, s33.2.2.2.2.2.2.2.2.2.2.2.2.1, s33.2.2.2.2.2.2.2.2.2.2.2.2.2.1, s33.2.2.2.2.2.2.2.2.2.2.2.2.2.2.1, s33.2.2.2.2.2.2.2.2.2.2.2.2.2.2.2.1, s33.2.2.2.2.2.2.2.2.2.2.2.2.2.2.2.2.1, s33.2.2.2.2.2.2.2.2.2.2.2.2.2.2.2.2.2⟩ : St23), s33.1, true)) else (Option.bind (Option.bind (exergueref10_at l (IntKind.wrap .i64 (s33.1 + 1))) fun y84 => (bif (decide (y84 = 43)) then (some ((IntKind.wrap .i64 ((IntKind.wrap .i64 (s33.1 + 1)) + 1)), true)) else (some ((IntKind.wrap .i64 (s33.1 + 1)), s33.2.2.2.2.2.2.2.2.2.2.2.2.2.2.2.1)))) fun (s79 : Int × Bool) => (Option.bind (exergueref10_many l s79.1 48) fun y90 => (some ((⟨s33.2.1, s33.2.2.1, s33.2.2.2.1, s33.2.2.2.2.1, s33.2.2.2.2.2.1, s33.2.2.2.2.2.2.1, s33.2.2.2.2.2.2.2.1, s33.2.2.2.2.2.2.2.2.1, s33.2.2.2.2.2.2.2.2.2.1, s33.2.2.2.2.2.2.2.2.2.2.1, s33.2.2.2.2.2.2.2.2.2.2.2.1, s33.2.2.2.2.2.2.2.2.2.2.2.2.1, s33.2.2.2.2.2.2.2.2.2.2.2.2.2.1, y90, s79.2, s33.2.2.2.2.2.2.2.2.2.2.2.2.2.2.2.2.1, s33.2.2.2.2.2.2.2.2.2.2.2.2.2.2.2.2.2⟩ : St23), (IntKind.wrap .i64 (s79.1 + y90)), (decide (y90 > 0))))))))) (.inl (j, pre, suf, npre, nsuf, neg, h, m, nf, xf, g1, g2, ns, xs, 0, false, pad, pa)) = (some (q, pos, false) : Option (St23 × Int × Bool))) := by
  intro j h m nf xf g1 g2 ns xs j0 j1 j2
  simp only [joinX]
  rw [eat_at hl j0 (by omega) (by omega), at_eq3 j0]
  simp only [Option.bind_some]
  by_cases c1 : atV l j = 69
  ·have hjl := at_in c1 (by omega)
   rw [if_pos c1, dF (show ¬ ¬ atV l j = 69 from fun hh => hh c1), w64 (n := j + 1) (by omega) (by omega), at_eq3 (by omega), w64 (n := j + 1 + 1) (by omega) (by omega)]
   simp only [Bool.not_true, cond_false, Option.bind_some]
   rw [eat_at hl (by omega) (by omega) (by omega)]
   by_cases c2 : atV l (j + 1) = 43
   ·have hjl2 := at_in c2 (by omega)
    rw [if_pos c2, dT c2]
    simp only [cond_true, Option.bind_some]
    obtain ⟨n, e1, e2, e3, e4⟩ := many_both (l := l) (i := j + 1 + 1) (c := 48) (b2 := a2) (b3 := a3) (b4 := a4) (b5 := a5) (b6 := a6) hl (by omega) (by omega) (by omega)
    rw [e1, e2]
    simp only [Option.bind_some]
    rw [w64 (n := j + 1 + 1 + n) (by omega) (by omega)]
    by_cases c3 : n = 0
    ·right
     rw [dT c3, dF (show ¬ n > 0 by omega)]
     exact ⟨_, _, _, rfl, rfl⟩
    ·left
     rw [dF c3, dT (show n > 0 by omega)]
     exact ⟨_, _, _, rfl, rfl, by omega, by omega⟩
   ·rw [if_neg c2, dF c2]
    simp only [cond_false, Option.bind_some]
    obtain ⟨n, e1, e2, e3, e4⟩ := many_both (l := l) (i := j + 1) (c := 48) (b2 := a2) (b3 := a3) (b4 := a4) (b5 := a5) (b6 := a6) hl (by omega) (by omega) (by omega)
    rw [e1, e2]
    simp only [Option.bind_some]
    rw [w64 (n := j + 1 + n) (by omega) (by omega)]
    by_cases c3 : n = 0
    ·right
     rw [dT c3, dF (show ¬ n > 0 by omega)]
     exact ⟨_, _, _, rfl, rfl⟩
    ·left
     rw [dF c3, dT (show n > 0 by omega)]
     exact ⟨_, _, _, rfl, rfl, by omega, by omega⟩
  ·left
   rw [if_neg c1, dT c1]
   exact ⟨j, 0, false, rfl, rfl, j2, j1⟩
 obtain ⟨n, e1, e2, e3, e4⟩ := many_both (l := l) (i := i) (c := 64) (b2 := a2) (b3 := a3) (b4 := a4) (b5 := a5) (b6 := a6) hl h0 hi (by omega)
 unfold pat_reader__number_s0 exergueref10_number
 rw [e1, e2]
 simp only [Option.bind_some]
 by_cases hn : n > 0
 ·rw [dT hn]
  simp only [cond_true]
  rw [w64 (n := i + n) (by omega) (by omega)]
  obtain ⟨m, f1, f2, f3, f4⟩ := many_both (l := l) (i := i + n) (c := 35) (b2 := a2) (b3 := a3) (b4 := a4) (b5 := a5) (b6 := a6) hl (by omega) (by omega) (by omega)
  rw [f1, f2]
  simp only [Option.bind_some]
  rw [w64 (n := i + n + m) (by omega) (by omega), w64 (n := n + m) (by omega) (by omega)]
  rcases hE (i + n + m) 0 0 0 0 0 0 n (n + m) (by omega) (by omega) (by omega) with ⟨pos, ex, ep, g1, g2, g3⟩ | ⟨e, q, pos, g1, g2⟩
  ·rw [g1]
   exact .inl ⟨pos, 0, 0, 0, 0, 0, 0, n, n + m, ex, ep, rfl, g2, g3, by omega, by omega⟩
  ·rw [g1]
   exact .inr ⟨e, q, pos, rfl, g2⟩
 ·rw [dF hn]
  have hn0 : n = 0 := by omega
  subst hn0
  simp only [cond_false]
  rw [show i + 0 = i by omega]
  rcases places_same (a2 := a2) (a3 := a3) (a4 := a4) (a5 := a5) (a6 := a6) (b7 := b7) (b8 := b8) (c11 := 0) (c12 := 0) (c15 := 0) (c16 := 0) (c17 := 0) (c18 := false) (c19 := c19) (c20 := c20) (p := mkP pre suf npre nsuf neg pad pa 0 0 0 0 0 0 0 0 0 false) hl0 h0 hi rfl rfl rfl rfl with ⟨j, h, m, g1, g2, f1, f2, f3, f4, f5⟩ | ⟨e, q, pos, f1, f2⟩
  ·rw [f1, f2]
   simp only [Option.bind_some, Sum.elim_inl, Bool.not_true, cond_false]
   unfold pat_reader__fraction_s0
   rw [eat_at hl (by omega) (by omega) (by omega), at_eq3 (by omega)]
   simp only [Option.bind_some]
   by_cases c1 : atV l j = 46
   ·have hjl := at_in c1 (by omega)
    rw [if_pos c1, dT c1, w64 (n := j + 1) (by omega) (by omega)]
    simp only [Bool.not_true, cond_false, cond_true]
    obtain ⟨nf, k1, k2, k3, k4⟩ := many_both (l := l) (i := j + 1) (c := 48) (b2 := a2) (b3 := a3) (b4 := a4) (b5 := a5) (b6 := a6) hl (by omega) (by omega) (by omega)
    rw [k1, k2]
    simp only [Option.bind_some]
    rw [w64 (n := j + 1 + nf) (by omega) (by omega)]
    obtain ⟨xf, u1, u2, u3, u4⟩ := many_both (l := l) (i := j + 1 + nf) (c := 35) (b2 := a2) (b3 := a3) (b4 := a4) (b5 := a5) (b6 := a6) hl (by omega) (by omega) (by omega)
    rw [u1, u2]
    simp only [Option.bind_some]
    rw [w64 (n := nf + xf) (by omega) (by omega), w64 (n := j + 1 + nf + xf) (by omega) (by omega)]
    by_cases c2 : nf + xf = 0
    ·right
     rw [dT c2]
     exact ⟨_, _, _, rfl, rfl⟩
    ·rw [dF c2]
     simp only [cond_false, Option.bind_some, Sum.elim_inl]
     rcases hE (j + 1 + nf + xf) h m nf (nf + xf) g1 g2 0 0 (by omega) (by omega) (by omega) with ⟨pos, ex, ep, q1, q2, q3⟩ | ⟨e, q, pos, q1, q2⟩
     ·rw [q1]
      exact .inl ⟨pos, h, m, nf, nf + xf, g1, g2, 0, 0, ex, ep, rfl, q2, q3, f4, f5⟩
     ·rw [q1]
      exact .inr ⟨e, q, pos, rfl, q2⟩
   ·rw [if_neg c1, dF c1]
    simp only [Bool.not_false, cond_true, cond_false, Option.bind_some, Sum.elim_inl]
    rcases hE j h m 0 0 g1 g2 0 0 (by omega) (by omega) (by omega) with ⟨pos, ex, ep, q1, q2, q3⟩ | ⟨e, q, pos, q1, q2⟩
    ·rw [q1]
     exact .inl ⟨pos, h, m, 0, 0, g1, g2, 0, 0, ex, ep, rfl, q2, q3, f4, f5⟩
    ·rw [q1]
     exact .inr ⟨e, q, pos, rfl, q2⟩
  ·right
   rw [f1, f2]
   exact ⟨_, _, _, rfl, rfl⟩
end
/-! Two readers side by side: patterns. -/
section
variable {l : List Int}
def padF (l : List Int) (i pd pa w : Int) : (Int × Int × Int) ⊕ (Int × Int) := if pa ≠ 0 ∨ atV l i ≠ 42 then .inl (i, pd, pa) else if i + 1 = l.length then .inr (i + 1, i + 1) else .inl (i + 2, atV l (i + 1), w)
theorem pad_both {i pd pa w h m nf xf g1 g2 ns xs ex : Int} {ep neg : Bool} {pre suf npre nsuf : List St33} (hl : l.length ≤ 400) (h0 : 0 ≤ i) (hi : i ≤ l.length) (hpa : 0 ≤ pa) (hw : 0 < w) :
  (∃ j pd' pa', padF l i pd pa w = .inl (j, pd', pa') ∧ exergueref10_pad (mkP pre suf npre nsuf neg pd pa h m nf xf g1 g2 ns xs ex ep) l i w = some (mkP pre suf npre nsuf neg pd' pa' h m nf xf g1 g2 ns xs ex ep, j, true) ∧ (i ≤ j ∧ j ≤ l.length) ∧ 0 ≤ pa' ∧ (pa' ≠ 0 ∨ atV l j ≠ 42) ∧ (pd' = pd ∨ pd' ∈ l)) ∨
  (∃ e q pos, padF l i pd pa w = .inr e ∧ exergueref10_pad (mkP pre suf npre nsuf neg pd pa h m nf xf g1 g2 ns xs ex ep) l i w = some (q, pos, false)) := by
 unfold exergueref10_pad padF
 have hpp : (mkP pre suf npre nsuf neg pd pa h m nf xf g1 g2 ns xs ex ep).PadAt_ = pa := rfl
 rw [hpp, at_eq3 h0, w64 (n := i + 1) (by omega) (by omega), w64 (n := i + 2) (by omega) (by omega)]
 simp only [Option.bind_some]
 by_cases c1 : pa > 0
 ·left
  rw [dT c1, if_pos (.inl (by omega))]
  exact ⟨i, pd, pa, rfl, rfl, by omega, hpa, .inl (by omega), .inl rfl⟩
 ·rw [dF c1]
  by_cases c2 : atV l i = 42
  ·have hin := at_in c2 (by omega)
   rw [dF (fun hh => hh c2), if_neg (fun hh => by rcases hh with hh | hh; omega; exact hh c2)]
   simp only [cond_false, Option.bind_some, joinX]
   by_cases c3 : i + 1 = l.length
   ·right
    rw [if_pos c3, dT (show i + 1 ≥ (l.length : Int) by omega)]
    exact ⟨_, _, _, rfl, rfl⟩
   ·left
    rw [if_neg c3, dF (show ¬ i + 1 ≥ (l.length : Int) by omega), inR_int (by omega) (by omega), ← atV_lt (show i + 1 < (l.length : Int) by omega)]
    exact ⟨i + 2, nth l (i + 1), w, rfl, rfl, by omega, by omega, .inl (by omega), .inr (nth_mem (by omega) (by omega))⟩
  ·left
   rw [dT c2, if_pos (.inr c2)]
   exact ⟨i, pd, pa, rfl, rfl, by omega, hpa, .inr c2, .inl rfl⟩
theorem pad_none {i pd pa w h m nf xf g1 g2 ns xs ex : Int} {ep neg : Bool} {pre suf npre nsuf : List St33} (h0 : 0 ≤ i) (hpa : 0 ≤ pa) (hn : pa ≠ 0 ∨ atV l i ≠ 42) :
  exergueref10_pad (mkP pre suf npre nsuf neg pd pa h m nf xf g1 g2 ns xs ex ep) l i w = some (mkP pre suf npre nsuf neg pd pa h m nf xf g1 g2 ns xs ex ep, i, true) := by
 unfold exergueref10_pad
 have hpp : (mkP pre suf npre nsuf neg pd pa h m nf xf g1 g2 ns xs ex ep).PadAt_ = pa := rfl
 rw [hpp, at_eq3 h0]
 simp only [Option.bind_some]
 by_cases c1 : pa > 0
 ·rw [dT c1]; rfl
 ·rcases hn with hn | hn
  ·omega
  ·rw [dF c1, dT hn]; rfl
theorem pad_if {i pd pa w h m nf xf g1 g2 ns xs ex : Int} {ep neg : Bool} {ts pre suf npre nsuf : List St33} (hl : l.length ≤ 400) (h0 : 0 ≤ i) (hi : i ≤ l.length) (hpa : 0 ≤ pa) (hw : 0 < w) (hts : ts = [] → (pa ≠ 0 ∨ atV l i ≠ 42)) :
  (∃ j pd' pa', (bif (decide ((ts.length : Int) > 0)) then (Option.bind (some (padF l i pd pa w)) fun y35 => (Sum.elim (fun y38 => (some (.inl (y38.1, y38.2.1, y38.2.2)))) (fun y39 => (some (.inr (.inr (y39.1, y39.2))))) y35)) else (some (.inl (i, pd, pa))) : Option ((Int × Int × Int) ⊕ ((St23 × Int) ⊕ (Int × Int)))) = some (.inl (j, pd', pa')) ∧ exergueref10_pad (mkP pre suf npre nsuf neg pd pa h m nf xf g1 g2 ns xs ex ep) l i w = some (mkP pre suf npre nsuf neg pd' pa' h m nf xf g1 g2 ns xs ex ep, j, true) ∧ (i ≤ j ∧ j ≤ l.length) ∧ 0 ≤ pa' ∧ (pd' = pd ∨ pd' ∈ l)) ∨
  (∃ e q pos, (bif (decide ((ts.length : Int) > 0)) then (Option.bind (some (padF l i pd pa w)) fun y35 => (Sum.elim (fun y38 => (some (.inl (y38.1, y38.2.1, y38.2.2)))) (fun y39 => (some (.inr (.inr (y39.1, y39.2))))) y35)) else (some (.inl (i, pd, pa))) : Option ((Int × Int × Int) ⊕ ((St23 × Int) ⊕ (Int × Int)))) = some (.inr (.inr e)) ∧ exergueref10_pad (mkP pre suf npre nsuf neg pd pa h m nf xf g1 g2 ns xs ex ep) l i w = some (q, pos, false)) := by
 by_cases c : (ts.length : Int) > 0
 ·rw [dT c]
  rcases pad_both (pd := pd) (pa := pa) (w := w) (h := h) (m := m) (nf := nf) (xf := xf) (g1 := g1) (g2 := g2) (ns := ns) (xs := xs) (ex := ex) (ep := ep) (neg := neg) (pre := pre) (suf := suf) (npre := npre) (nsuf := nsuf) hl h0 hi hpa hw with ⟨j, d3, w3, e3, r3, b3, wb3, n3, m3⟩ | ⟨e, q, pos, e3, r3⟩
  ·rw [e3, r3]
   exact .inl ⟨j, d3, w3, rfl, rfl, b3, wb3, m3⟩
  ·rw [e3, r3]
   exact .inr ⟨e, q, pos, rfl, rfl⟩
 ·have hts2 : ts = [] := List.eq_nil_of_length_eq_zero (by omega)
  rw [dF c, pad_none h0 hpa (hts hts2)]
  exact .inl ⟨i, pd, pa, rfl, rfl, by omega, hpa, .inl rfl⟩
theorem cut_at {s e j : Int} (h0 : 0 ≤ s) (h1 : s ≤ e) (h2 : e ≤ l.length) (hj0 : 0 ≤ j) (hj : j < e - s) : nth (cut l s e) j = nth l (s + j) ∧ (cut l s e).length = (e - s).toNat := by
 have hlen : (cut l s e).length = (e - s).toNat := by simp [cut]; omega
 refine ⟨?_, hlen⟩
 obtain ⟨k, rfl⟩ : ∃ k : Nat, j = k := ⟨j.toNat, by omega⟩
 rw [nth_nat (by omega), show s + (k : Int) = ((s.toNat + k : Nat) : Int) by omega, nth_nat (by omega)]
 simp [cut]
theorem cut_len2 {s e : Int} (h0 : 0 ≤ s) (h1 : s ≤ e) (h2 : e ≤ l.length) : (cut l s e).length = (e - s).toNat := by simp [cut]; omega
theorem again_same {s e j a2 a3 a4 a5 a6 : Int} {us : List St33} {p : St23} (hl : l.length ≤ 400) (h0 : 0 ≤ s) (h1 : s ≤ e) (h2 : e ≤ l.length) (hj0 : 0 ≤ j) (hj : j ≤ l.length) (hpos : ∀ c ∈ l, 0 ≤ c) :
  (∃ k, loopN (fun (s136 : Int × Int) => ((bif (decide (s136.1 < ((cut l s e).length : Int))) then (Option.bind (bif inR s136.1 (cut l s e).length then (Option.bind (pat_reader__eat_s0 (nth (cut l s e) s136.1) l s136.2 a2 a3 a4 a5 a6) fun y243 => (bif (!y243.1) then (Option.bind (pat_reader__fail_s0 y243.2 l y243.2 a2 a3 a4 a5 a6) fun y249 => (some (.inr (.inr (.inr (.inr (y243.2, y243.2))))))) else (some (.inl y243.2)))) else none) (joinX fun (s237 : Int) => (some (.inl ((IntKind.wrap .i64 (s136.1 + 1)), s237))))) else (some (.inr (.inl s136.2)))) : Option ((Int × Int) ⊕ (Int ⊕ ((Int × (List St33) × (List St33)) ⊕ (Int × Int)))))) big (0, j) = some (.inl k) ∧ loopN (fun (s60 : Int × Int) => ((bif (decide (s60.2 < e)) then (Option.bind (exergueref10_at l s60.1) fun y96 => (bif inR s60.2 l.length then (bif (decide (¬ y96 = (nth l s60.2))) then (some (.inr (.inr ((⟨p.Pre_, p.Suf_, us, p.NSuf_, true, p.Hash_, p.MinInt_, p.MinFrac_, p.MaxFrac_, p.G1_, p.G2_, p.MinSig_, p.MaxSig_, p.Exp_, p.ExpPlus_, p.Pad_, p.PadAt_⟩ : St23), s60.1, false)))) else (some (.inl ((IntKind.wrap .i64 (s60.1 + 1)), (IntKind.wrap .i64 (s60.2 + 1)))))) else none)) else (some (.inr (.inl s60.1)))) : Option ((Int × Int) ⊕ (Int ⊕ (St23 × Int × Bool))))) big (j, s) = some (.inl k) ∧ (j ≤ k ∧ k ≤ l.length)) ∨
  (∃ e1 q pos, loopN (fun (s136 : Int × Int) => ((bif (decide (s136.1 < ((cut l s e).length : Int))) then (Option.bind (bif inR s136.1 (cut l s e).length then (Option.bind (pat_reader__eat_s0 (nth (cut l s e) s136.1) l s136.2 a2 a3 a4 a5 a6) fun y243 => (bif (!y243.1) then (Option.bind (pat_reader__fail_s0 y243.2 l y243.2 a2 a3 a4 a5 a6) fun y249 => (some (.inr (.inr (.inr (.inr (y243.2, y243.2))))))) else (some (.inl y243.2)))) else none) (joinX fun (s237 : Int) => (some (.inl ((IntKind.wrap .i64 (s136.1 + 1)), s237))))) else (some (.inr (.inl s136.2)))) : Option ((Int × Int) ⊕ (Int ⊕ ((Int × (List St33) × (List St33)) ⊕ (Int × Int)))))) big (0, j) = some (.inr (.inr e1)) ∧ loopN (fun (s60 : Int × Int) => ((bif (decide (s60.2 < e)) then (Option.bind (exergueref10_at l s60.1) fun y96 => (bif inR s60.2 l.length then (bif (decide (¬ y96 = (nth l s60.2))) then (some (.inr (.inr ((⟨p.Pre_, p.Suf_, us, p.NSuf_, true, p.Hash_, p.MinInt_, p.MinFrac_, p.MaxFrac_, p.G1_, p.G2_, p.MinSig_, p.MaxSig_, p.Exp_, p.ExpPlus_, p.Pad_, p.PadAt_⟩ : St23), s60.1, false)))) else (some (.inl ((IntKind.wrap .i64 (s60.1 + 1)), (IntKind.wrap .i64 (s60.2 + 1)))))) else none)) else (some (.inr (.inl s60.1)))) : Option ((Int × Int) ⊕ (Int ⊕ (St23 × Int × Bool))))) big (j, s) = some (.inr (q, pos, false))) := by
 generalize hst1 : (fun (s136 : Int × Int) => ((bif (decide (s136.1 < ((cut l s e).length : Int))) then (Option.bind (bif inR s136.1 (cut l s e).length then (Option.bind (pat_reader__eat_s0 (nth (cut l s e) s136.1) l s136.2 a2 a3 a4 a5 a6) fun y243 => (bif (!y243.1) then (Option.bind (pat_reader__fail_s0 y243.2 l y243.2 a2 a3 a4 a5 a6) fun y249 => (some (.inr (.inr (.inr (.inr (y243.2, y243.2))))))) else (some (.inl y243.2)))) else none) (joinX fun (s237 : Int) => (some (.inl ((IntKind.wrap .i64 (s136.1 + 1)), s237))))) else (some (.inr (.inl s136.2)))) : Option ((Int × Int) ⊕ (Int ⊕ ((Int × (List St33) × (List St33)) ⊕ (Int × Int)))))) = step1
 generalize hst2 : (fun (s60 : Int × Int) => ((bif (decide (s60.2 < e)) then (Option.bind (exergueref10_at l s60.1) fun y96 => (bif inR s60.2 l.length then (bif (decide (¬ y96 = (nth l s60.2))) then (some (.inr (.inr ((⟨p.Pre_, p.Suf_, us, p.NSuf_, true, p.Hash_, p.MinInt_, p.MinFrac_, p.MaxFrac_, p.G1_, p.G2_, p.MinSig_, p.MaxSig_, p.Exp_, p.ExpPlus_, p.Pad_, p.PadAt_⟩ : St23), s60.1, false)))) else (some (.inl ((IntKind.wrap .i64 (s60.1 + 1)), (IntKind.wrap .i64 (s60.2 + 1)))))) else none)) else (some (.inr (.inl s60.1)))) : Option ((Int × Int) ⊕ (Int ⊕ (St23 × Int × Bool))))) = step2
 have hcl := cut_len2 (l := l) h0 h1 h2
 have hrun := loop_rel (step1 := step1) (step2 := step2) (a := (0, j)) (b := (j, s)) (fun x y => (0 ≤ x.1 ∧ x.1 ≤ e - s) ∧ y.2 = s + x.1 ∧ y.1 = x.2 ∧ (j ≤ x.2 ∧ x.2 ≤ l.length)) (fun x => (e - s - x.1).toNat)
  (fun o1 o2 => (∃ k, o1 = .inl k ∧ o2 = .inl k ∧ (j ≤ k ∧ k ≤ l.length)) ∨ ∃ e1 q pos, o1 = .inr (.inr e1) ∧ o2 = .inr (q, pos, false)) ⟨⟨by simp only; omega, by simp only; omega⟩, by simp, rfl, by simp only; omega⟩ (by simp only; omega) (fun x y hs => ?_)
 ·obtain ⟨o1, o2, e1, e2, hR⟩ := hrun
  rw [e1, e2]
  rcases hR with ⟨k, rfl, rfl, h⟩ | ⟨e3, q, pos, rfl, rfl⟩
  ·exact .inl ⟨k, rfl, rfl, h⟩
  ·exact .inr ⟨e3, q, pos, rfl, rfl⟩
 ·obtain ⟨x1, x2⟩ := x
  obtain ⟨y1, y2⟩ := y
  obtain ⟨⟨p1, p2⟩, p3, p4, p5⟩ := hs
  simp only at p1 p2 p3 p4 p5
  subst p3; subst p4
  subst hst1; subst hst2
  simp only
  by_cases hx : x1 < e - s
  ·obtain ⟨hc, _⟩ := cut_at (l := l) h0 h1 h2 p1 hx
   have hm : nth l (s + x1) = atV l (s + x1) := atV_lt (by omega)
   have hne : nth l (s + x1) ∈ l := nth_mem (by omega) (by omega)
   rw [dT (show x1 < ((cut l s e).length : Int) by omega), inR_int p1 (by omega), hc, dT (show s + x1 < e by omega), at_eq3 (by omega), inR_int (by omega) (by omega), w64 (n := x1 + 1) (by omega) (by omega), w64 (n := y1 + 1) (by omega) (by omega), w64 (n := s + x1 + 1) (by omega) (by omega)]
   simp only [cond_true, Option.bind_some]
   by_cases hin : y1 < l.length
   ·have hlt : l.length ≤ 10000 := by omega
    have heat : pat_reader__eat_s0 (nth l (s + x1)) l y1 a2 a3 a4 a5 a6 = some (if atV l y1 = nth l (s + x1) then (true, y1 + 1) else (false, y1)) := by
     unfold pat_reader__eat_s0 pat_reader__is_s0
     rw [w64 (n := y1 + 0) (by omega) (by omega), Int.add_zero, dT hin, inR_int (by omega) hin, w64 (n := y1 + 1) (by omega) (by omega), atV_lt hin]
     by_cases h : atV l y1 = nth l (s + x1)
     ·rw [if_pos h, dT h]; rfl
     ·rw [if_neg h, dF h]; rfl
    rw [heat]
    by_cases h : atV l y1 = nth l (s + x1)
    ·left
     rw [if_pos h, dF (fun hh => hh h)]
     exact ⟨_, _, rfl, rfl, ⟨⟨by simp only; omega, by simp only; omega⟩, by simp only; omega, rfl, by simp only; omega⟩, by simp only; omega⟩
    ·right
     rw [if_neg h, dT h]
     exact ⟨_, _, rfl, .inl rfl, .inr ⟨_, _, _, rfl, rfl⟩⟩
   ·right
    have heat : pat_reader__eat_s0 (nth l (s + x1)) l y1 a2 a3 a4 a5 a6 = some (false, y1) := by
     unfold pat_reader__eat_s0 pat_reader__is_s0
     rw [w64 (n := y1 + 0) (by omega) (by omega), Int.add_zero, dF hin]; rfl
    rw [heat]
    have hv : atV l y1 = -1 := by unfold atV; rw [if_neg hin]
    have hge := hpos _ hne
    rw [hv, dT (show ¬ (-1 : Int) = nth l (s + x1) by omega)]
    exact ⟨_, _, rfl, .inl rfl, .inr ⟨_, _, _, rfl, rfl⟩⟩
  ·right
   rw [dF (show ¬ x1 < ((cut l s e).length : Int) by omega), dF (show ¬ s + x1 < e by omega)]
   exact ⟨_, _, rfl, .inl rfl, .inl ⟨_, rfl, rfl, p5⟩⟩
def rmid (l : List Int) : Option (Int × Bool × (List St33) × (List St33) × (List St33) × (List St33) × Bool × Int × Int × Int × Int × Int × Int × Int × Int × Int × Bool × Int × Int) := Option.bind (exergueref10_first l) fun y10 => (Option.bind (bif y10.2.2.2.2 then (Option.bind (exergueref10_at l y10.2.2.2.1) fun y55 => (some (decide (y55 = 59)))) else (some false)) fun (s47 : Bool) => (bif s47 then (Option.bind (exergueref10_second y10.1 l (IntKind.wrap .i64 (y10.2.2.2.1 + 1)) y10.2.1 y10.2.2.1) fun y61 => (some (y61.2.1, y61.2.2, y61.1.Pre_, y61.1.Suf_, y61.1.NPre_, y61.1.NSuf_, y61.1.Neg_, y61.1.Hash_, y61.1.MinInt_, y61.1.MinFrac_, y61.1.MaxFrac_, y61.1.G1_, y61.1.G2_, y61.1.MinSig_, y61.1.MaxSig_, y61.1.Exp_, y61.1.ExpPlus_, y61.1.Pad_, y61.1.PadAt_))) else (some (y10.2.2.2.1, y10.2.2.2.2, y10.1.Pre_, y10.1.Suf_, y10.1.NPre_, y10.1.NSuf_, y10.1.Neg_, y10.1.Hash_, y10.1.MinInt_, y10.1.MinFrac_, y10.1.MaxFrac_, y10.1.G1_, y10.1.G2_, y10.1.MinSig_, y10.1.MaxSig_, y10.1.Exp_, y10.1.ExpPlus_, y10.1.Pad_, y10.1.PadAt_))))
def tupP (pos : Int) (ok : Bool) (q : St23) : Int × Bool × (List St33) × (List St33) × (List St33) × (List St33) × Bool × Int × Int × Int × Int × Int × Int × Int × Int × Int × Bool × Int × Int := (pos, ok, q.Pre_, q.Suf_, q.NPre_, q.NSuf_, q.Neg_, q.Hash_, q.MinInt_, q.MinFrac_, q.MaxFrac_, q.G1_, q.G2_, q.MinSig_, q.MaxSig_, q.Exp_, q.ExpPlus_, q.Pad_, q.PadAt_)
def inP (l : List Int) (q : St23) : Prop := tokIn l q.Pre_ ∧ tokIn l q.Suf_ ∧ tokIn l q.NPre_ ∧ tokIn l q.NSuf_ ∧ (q.Pad_ = 0 ∨ q.Pad_ ∈ l) ∧ (0 ≤ q.Hash_ ∧ q.Hash_ ≤ 400) ∧ (0 ≤ q.MinInt_ ∧ q.MinInt_ ≤ 400)
theorem pattern_same (hl : l.length ≤ 400) (hpos : ∀ c ∈ l, 0 ≤ c) :
  (∃ q, pat_reader__pattern_s0 l 0 0 1 2 3 4 = some (.inl (q, (l.length : Int))) ∧ rmid l = some (tupP (l.length : Int) true q) ∧ inP l q) ∨
  ((∃ e, pat_reader__pattern_s0 l 0 0 1 2 3 4 = some (.inr e)) ∧ ∃ s, rmid l = some s ∧ (s.2.1 = false ∨ s.1 < l.length)) := by
 have hl0 : l.length ≤ 10000 := by omega
 unfold pat_reader__pattern_s0 rmid exergueref10_first
 have hz : (⟨([] : List St33), ([] : List St33), ([] : List St33), ([] : List St33), false, 0, 0, 0, 0, 0, 0, 0, 0, 0, false, 0, 0⟩ : St23) = mkP [] [] [] [] false 0 0 0 0 0 0 0 0 0 0 0 false := rfl
 rw [hz, pad_at hl0 (by omega) (by omega)]
 have hF : ∀ (i pd pa w : Int), (if pa ≠ 0 ∨ atV l i ≠ 42 then .inl (i, pd, pa) else if i + 1 = l.length then .inr (i + 1, i + 1) else .inl (i + 2, atV l (i + 1), w) : (Int × Int × Int) ⊕ (Int × Int)) = padF l i pd pa w := fun _ _ _ _ => rfl
 rw [hF]
 -- the first pad
 rcases pad_both (l := l) (i := 0) (pd := 0) (pa := 0) (w := 1) (h := 0) (m := 0) (nf := 0) (xf := 0) (g1 := 0) (g2 := 0) (ns := 0) (xs := 0) (ex := 0) (ep := false) (neg := false) (pre := []) (suf := []) (npre := []) (nsuf := []) hl (by omega) (by omega) (by omega) (by omega) with ⟨i1, d1, w1, e1, r1, b1, wb1, n1, m1⟩ | ⟨e, q, pos, e1, r1⟩
 case inr => rw [e1, r1]; exact .inr ⟨⟨_, rfl⟩, _, rfl, .inl rfl⟩
 rw [e1, r1]
 simp only [Option.bind_some, Sum.elim_inl, Bool.not_true, cond_false]
 -- the prefix
 rcases affix_same (l := l) (i := i1) (a2 := 0) hl0 (by omega) (by omega) with ⟨ts, i2, e2, r2, b2, t2, f2⟩ | ⟨e, ts, pos, e2, r2⟩
 case inr => rw [e2, r2]; exact .inr ⟨⟨_, rfl⟩, _, rfl, .inl rfl⟩
 rw [e2, r2]
 simp only [Option.bind_some, Sum.elim_inl, Bool.not_true, cond_false]
 -- the pad behind it
 have hP1 : (⟨ts, (mkP [] [] [] [] false d1 w1 0 0 0 0 0 0 0 0 0 false).Suf_, (mkP [] [] [] [] false d1 w1 0 0 0 0 0 0 0 0 0 false).NPre_, (mkP [] [] [] [] false d1 w1 0 0 0 0 0 0 0 0 0 false).NSuf_, (mkP [] [] [] [] false d1 w1 0 0 0 0 0 0 0 0 0 false).Neg_, (mkP [] [] [] [] false d1 w1 0 0 0 0 0 0 0 0 0 false).Hash_, (mkP [] [] [] [] false d1 w1 0 0 0 0 0 0 0 0 0 false).MinInt_, (mkP [] [] [] [] false d1 w1 0 0 0 0 0 0 0 0 0 false).MinFrac_, (mkP [] [] [] [] false d1 w1 0 0 0 0 0 0 0 0 0 false).MaxFrac_, (mkP [] [] [] [] false d1 w1 0 0 0 0 0 0 0 0 0 false).G1_, (mkP [] [] [] [] false d1 w1 0 0 0 0 0 0 0 0 0 false).G2_, (mkP [] [] [] [] false d1 w1 0 0 0 0 0 0 0 0 0 false).MinSig_, (mkP [] [] [] [] false d1 w1 0 0 0 0 0 0 0 0 0 false).MaxSig_, (mkP [] [] [] [] false d1 w1 0 0 0 0 0 0 0 0 0 false).Exp_, (mkP [] [] [] [] false d1 w1 0 0 0 0 0 0 0 0 0 false).ExpPlus_, (mkP [] [] [] [] false d1 w1 0 0 0 0 0 0 0 0 0 false).Pad_, (mkP [] [] [] [] false d1 w1 0 0 0 0 0 0 0 0 0 false).PadAt_⟩ : St23) = mkP ts [] [] [] false d1 w1 0 0 0 0 0 0 0 0 0 false := rfl
 rw [hP1, pad1_at hl0 (by omega) (by omega), hF]
 rcases pad_if (l := l) (i := i2) (pd := d1) (pa := w1) (w := 2) (h := 0) (m := 0) (nf := 0) (xf := 0) (g1 := 0) (g2 := 0) (ns := 0) (xs := 0) (ex := 0) (ep := false) (neg := false) (ts := ts) (pre := ts) (suf := []) (npre := []) (nsuf := []) hl (by omega) (by omega) wb1 (by omega) (fun h => by rw [f2 h]; exact n1) with ⟨i3, d3, w3, e3, r3, b3, wb3, m3⟩ | ⟨e, q, pos, e3, r3⟩
 case inr => rw [e3, r3]; exact .inr ⟨⟨_, rfl⟩, _, rfl, .inl rfl⟩
 have m3' : d3 = 0 ∨ d3 ∈ l := by
  rcases m3 with h | h
  ·rw [h]; exact m1
  ·exact .inr h
 rw [e3, r3]
 simp only [Option.bind_some, Sum.elim_inl, Bool.not_true, cond_false, joinX]
 -- the number
 rcases number_same (l := l) (i := i3) (a2 := 0) (a3 := 1) (a4 := 2) (a5 := 3) (a6 := 4) (b7 := ts) (b8 := false) (c19 := d3) (c20 := w3) (pad := d3) (pa := w3) (pre := ts) (suf := []) (npre := []) (nsuf := []) (neg := false) hl (by omega) (by omega) with ⟨i4, h, m, nf, xf, g1, g2, ns, xs, ex, ep, e4, r4, b4, bh, bm⟩ | ⟨e, q, pos, e4, r4⟩
 case inr => rw [e4, r4]; exact .inr ⟨⟨_, rfl⟩, _, rfl, .inl rfl⟩
 rw [e4, r4]
 simp only [Option.bind_some, Sum.elim_inl, Bool.not_true, cond_false, joinX]
 rw [inS_of (by omega) (by omega) (by omega)]
 simp only [cond_true]
 -- the pad behind it
 rw [pad1_at hl0 (by omega) (by omega), hF]
 rcases pad_both (l := l) (i := i4) (pd := d3) (pa := w3) (w := 3) (h := h) (m := m) (nf := nf) (xf := xf) (g1 := g1) (g2 := g2) (ns := ns) (xs := xs) (ex := ex) (ep := ep) (neg := false) (pre := ts) (suf := []) (npre := []) (nsuf := []) hl (by omega) (by omega) wb3 (by omega) with ⟨i5, d5, w5, e5, r5, b5, wb5, n5, m5⟩ | ⟨e, q, pos, e5, r5⟩
 case inr => rw [e5, r5]; exact .inr ⟨⟨_, rfl⟩, _, rfl, .inl rfl⟩
 have m5' : d5 = 0 ∨ d5 ∈ l := by
  rcases m5 with h | h
  ·rw [h]; exact m3'
  ·exact .inr h
 rw [e5, r5]
 simp only [Option.bind_some, Sum.elim_inl, Bool.not_true, cond_false]
 -- the suffix
 rcases affix_same (l := l) (i := i5) (a2 := 0) hl0 (by omega) (by omega) with ⟨us, i6, e6, r6, b6, t6, f6⟩ | ⟨e, us, pos, e6, r6⟩
 case inr => rw [e6, r6]; exact .inr ⟨⟨_, rfl⟩, _, rfl, .inl rfl⟩
 rw [e6, r6]
 simp only [Option.bind_some, Sum.elim_inl, Bool.not_true, cond_false]
 have hP2 : (⟨(mkP ts [] [] [] false d5 w5 h m nf xf g1 g2 ns xs ex ep).Pre_, us, (mkP ts [] [] [] false d5 w5 h m nf xf g1 g2 ns xs ex ep).NPre_, (mkP ts [] [] [] false d5 w5 h m nf xf g1 g2 ns xs ex ep).NSuf_, (mkP ts [] [] [] false d5 w5 h m nf xf g1 g2 ns xs ex ep).Neg_, (mkP ts [] [] [] false d5 w5 h m nf xf g1 g2 ns xs ex ep).Hash_, (mkP ts [] [] [] false d5 w5 h m nf xf g1 g2 ns xs ex ep).MinInt_, (mkP ts [] [] [] false d5 w5 h m nf xf g1 g2 ns xs ex ep).MinFrac_, (mkP ts [] [] [] false d5 w5 h m nf xf g1 g2 ns xs ex ep).MaxFrac_, (mkP ts [] [] [] false d5 w5 h m nf xf g1 g2 ns xs ex ep).G1_, (mkP ts [] [] [] false d5 w5 h m nf xf g1 g2 ns xs ex ep).G2_, (mkP ts [] [] [] false d5 w5 h m nf xf g1 g2 ns xs ex ep).MinSig_, (mkP ts [] [] [] false d5 w5 h m nf xf g1 g2 ns xs ex ep).MaxSig_, (mkP ts [] [] [] false d5 w5 h m nf xf g1 g2 ns xs ex ep).Exp_, (mkP ts [] [] [] false d5 w5 h m nf xf g1 g2 ns xs ex ep).ExpPlus_, (mkP ts [] [] [] false d5 w5 h m nf xf g1 g2 ns xs ex ep).Pad_, (mkP ts [] [] [] false d5 w5 h m nf xf g1 g2 ns xs ex ep).PadAt_⟩ : St23) = mkP ts us [] [] false d5 w5 h m nf xf g1 g2 ns xs ex ep := rfl
 rw [hP2, pad2_at hl0 (by omega) (by omega), hF]
 rcases pad_if (l := l) (i := i6) (pd := d5) (pa := w5) (w := 4) (h := h) (m := m) (nf := nf) (xf := xf) (g1 := g1) (g2 := g2) (ns := ns) (xs := xs) (ex := ex) (ep := ep) (neg := false) (ts := us) (pre := ts) (suf := us) (npre := []) (nsuf := []) hl (by omega) (by omega) wb5 (by omega) (fun h => by rw [f6 h]; exact n5) with ⟨i7, d7, w7, e7, r7, b7, wb7, m7⟩ | ⟨e, q, pos, e7, r7⟩
 case inr => rw [e7, r7]; exact .inr ⟨⟨_, rfl⟩, _, rfl, .inl rfl⟩
 have m7' : d7 = 0 ∨ d7 ∈ l := by
  rcases m7 with h | h
  ·rw [h]; exact m5'
  ·exact .inr h
 rw [e7, r7]
 simp only [Option.bind_some, Sum.elim_inl, cond_true, joinX]
 rw [at_eq3 (by omega), eat_at hl0 (by omega) (by omega) (by omega)]
 simp only [Option.bind_some]
 by_cases c : atV l i7 = 59
 ·have hin := at_in c (by omega)
  rw [if_pos c, dT c, w64 (n := i7 + 1) (by omega) (by omega)]
  simp only [cond_true]
  unfold pat_reader__negative_s0 exergueref10_second
  -- the negative prefix
  rcases affix_same (l := l) (i := i7 + 1) (a2 := 0) hl0 (by omega) (by omega) with ⟨vs, i8, e8, r8, b8, t8, f8⟩ | ⟨e, vs, pos, e8, r8⟩
  case inr => rw [e8, r8]; exact .inr ⟨⟨_, rfl⟩, _, rfl, .inl rfl⟩
  rw [e8, r8]
  simp only [Option.bind_some, Sum.elim_inl, Bool.not_true, cond_false]
  -- the number, again
  rcases again_same (l := l) (s := i3) (e := i4) (j := i8) (a2 := 0) (a3 := 1) (a4 := 2) (a5 := 3) (a6 := 4) (us := vs) (p := mkP ts us [] [] false d7 w7 h m nf xf g1 g2 ns xs ex ep) hl (by omega) (by omega) (by omega) (by omega) (by omega) hpos with ⟨i9, e9, r9, b9⟩ | ⟨e, q, pos, e9, r9⟩
  case inr => rw [e9, r9]; exact .inr ⟨⟨_, rfl⟩, _, rfl, .inl rfl⟩
  rw [e9, r9]
  simp only [Option.bind_some, joinX]
  -- the negative suffix
  rcases affix_same (l := l) (i := i9) (a2 := 0) hl0 (by omega) (by omega) with ⟨ws, i10, e10, r10, b10, t10, f10⟩ | ⟨e, ws, pos, e10, r10⟩
  case inr => rw [e10, r10]; exact .inr ⟨⟨_, rfl⟩, _, rfl, .inl rfl⟩
  rw [e10, r10]
  simp only [Option.bind_some, Sum.elim_inl, joinX]
  by_cases cc : i10 < l.length
  ·right
   rw [dT cc]
   exact ⟨⟨_, rfl⟩, _, rfl, .inr cc⟩
  ·left
   have hq : i10 = l.length := by omega
   subst hq
   rw [dF cc]
   exact ⟨mkP ts us vs ws true d7 w7 h m nf xf g1 g2 ns xs ex ep, rfl, rfl, t2, t6, t8, t10, m7', bh, bm⟩
 ·rw [if_neg c, dF c]
  simp only [cond_false, Option.bind_some, joinX]
  by_cases cc : i7 < l.length
  ·right
   rw [dT cc]
   exact ⟨⟨_, rfl⟩, _, rfl, .inr cc⟩
  ·left
   have hq : i7 = l.length := by omega
   subst hq
   rw [dF cc]
   exact ⟨mkP ts us [] [] false d7 w7 h m nf xf g1 g2 ns xs ex ep, rfl, rfl, t2, t6, fun t ht => absurd ht List.not_mem_nil, fun t ht => absurd ht List.not_mem_nil, m7', bh, bm⟩
end
/-! A pattern's text, by either hand. -/
theorem some_tot (n : Int) : Tot (pat_some n) (fun m => 0 ≤ m ∧ m ≤ 121) := by
 unfold pat_some maxI minI
 refine Tot.ret ?_
 repeat' split
 all_goals omega
theorem repeat_tot {out : List Int} {c n : Int} (ho : out.length ≤ 1000000) : Tot (pat_repeat out c n) (fun o => o.length ≤ out.length + 121) := by
 unfold pat_repeat
 refine Tot.bind (p := fun o => o.length ≤ out.length + 121) (Tot.bind (some_tot n) (fun m hm => ?_)) (fun _ h => Tot.ret h)
 refine Tot.loop (fun s : Int × List Int => 0 ≤ s.1 ∧ s.1 ≤ m ∧ (s.2.length : Int) = out.length + s.1) (fun s => (m - s.1).toNat) ⟨by simp only; omega, by simp only; omega, by simp⟩ (by simp only; omega) (fun s hs => ?_)
 refine Tot.ite (fun hq => ?_) (fun _ => Tot.ret (by simp only; omega))
 have hq := dTT hq
 refine Tot.yes (room_of (by simp; omega)) (Tot.ret ?_)
 have e1 : IntKind.wrap .i64 (s.1 + 1) = s.1 + 1 := w64 (by omega) (by omega)
 rw [e1]
 exact ⟨⟨by simp only; omega, by simp only; omega, by simp; omega⟩, by simp only; omega⟩
theorem grouped_tot (p : St23) (n : Int) : Tot (pat_grouped p n) (fun _ => True) := by
 unfold pat_grouped
 refine Tot.join (Tot.bind (p := fun _ => True) ?_ (fun b _ => Tot.ite (fun _ => Tot.ret trivial) (fun _ => Tot.ret (show Tot _ _ from ?_))))
 ·exact Tot.ite (fun _ => Tot.ret trivial) (fun _ => Tot.ret trivial)
 ·refine Tot.bind (p := fun _ => True) ?_ (fun _ _ => Tot.ret trivial)
  refine Tot.ite (fun _ => Tot.ret trivial) (fun _ => Tot.ite (fun hg => ?_) (fun _ => Tot.ret trivial))
  have hg := dTT hg
  exact Tot.yes (by unfold nz; rw [dF (by omega)]; rfl) (Tot.ret trivial)
theorem cplaces_tot (p : St23) : Tot (pat_places [] p) (fun o => o.length ≤ 500) := by
 unfold pat_places
 refine Tot.bind (some_tot _) (fun a ha => Tot.bind (some_tot _) (fun b hb => ?_))
 have e0 : IntKind.wrap .i64 (a + b) = a + b := w64 (by omega) (by omega)
 rw [e0]
 refine Tot.bind (p := fun o => o.length ≤ 500) ?_ (fun _ h => Tot.ret h)
 refine Tot.loop (fun s : Int × List Int => 0 ≤ s.1 ∧ s.1 ≤ a + b ∧ (s.2.length : Int) ≤ 2 * s.1) (fun s => (a + b - s.1).toNat) ⟨by simp only; omega, by simp only; omega, by simp⟩ (by simp only; omega) (fun s hs => ?_)
 refine Tot.ite (fun hq => ?_) (fun _ => Tot.ret (by simp only; omega))
 have hq := dTT hq
 have e1 : IntKind.wrap .i64 (s.1 + 1) = s.1 + 1 := w64 (by omega) (by omega)
 rw [e1]
 refine Tot.bind (p := fun o => (o.length : Int) ≤ s.2.length + 2) ?_ (fun o ho => Tot.ret ⟨⟨by simp only; omega, by simp only; omega, by simp only; omega⟩, by simp only; omega⟩)
 refine Tot.bind (p := fun o => (o.length : Int) ≤ s.2.length + 1) ?_ (fun o ho => Tot.ite (fun _ => Tot.yes (room_of (by simp; omega)) (Tot.ret (by simp; omega))) (fun _ => Tot.yes (room_of (by simp; omega)) (Tot.ret (by simp; omega))))
 refine Tot.bind (p := fun _ => True) (Tot.ite (fun _ => Tot.bind (grouped_tot _ _) (fun _ _ => Tot.ret trivial)) (fun _ => Tot.ret trivial)) (fun g _ => ?_)
 exact Tot.ite (fun _ => Tot.yes (room_of (by simp; omega)) (Tot.ret (by simp))) (fun _ => Tot.ret (by omega))
theorem cnumber_tot (p : St23) : Tot (pat_number p) (fun o => o.length ≤ 1500) := by
 unfold pat_number
 refine Tot.bind (p := fun o => o.length ≤ 1000) ?_ (fun o ho => Tot.bind (p := fun o => o.length ≤ 1500) ?_ (fun _ h => Tot.ret h))
 ·refine Tot.bind (p := fun _ => True) (Tot.ite (fun _ => Tot.ret trivial) (fun _ => Tot.ret trivial)) (fun b _ => Tot.ite (fun _ => ?_) (fun _ => ?_))
  ·exact Tot.bind (repeat_tot (by simp)) (fun x hx => Tot.bind (some_tot _) (fun y _ => Tot.bind (repeat_tot (by simp at hx; omega)) (fun z hz => Tot.ret (by simp at hx; omega))))
  ·refine Tot.bind (cplaces_tot p) (fun x hx => Tot.ite (fun _ => Tot.yes (room_of (by simp; omega)) ?_) (fun _ => Tot.ret (by omega)))
   exact Tot.bind (repeat_tot (by simp; omega)) (fun y hy => Tot.bind (some_tot _) (fun _ _ => Tot.bind (repeat_tot (by simp at hy; omega)) (fun z hz => Tot.ret (by simp at hy; omega))))
 ·refine Tot.ite (fun _ => Tot.yes (room_of (by simp; omega)) ?_) (fun _ => Tot.ret (by omega))
  refine Tot.bind (p := fun x => x.length ≤ o.length + 2) (Tot.ite (fun _ => Tot.yes (room_of (by simp; omega)) (Tot.ret (by simp))) (fun _ => Tot.ret (by simp))) (fun x hx => ?_)
  exact Tot.bind (repeat_tot (by omega)) (fun y hy => Tot.ret (by omega))
theorem cpad {p : St23} {out : List Int} {w : Int} (ho : out.length ≤ 1000000) : pat_pad out p w = some (out ++ padL p w) := by
 unfold pat_pad padL
 by_cases h : p.PadAt_ = w
 ·rw [dF (fun hh => hh h), if_pos h, room_of (by simp; omega)]; rfl
 ·rw [dT h, if_neg h]; simp
theorem cpiece (t : St33) : pat_piece t = some (pcL t) := by
 unfold pat_piece pcL pat_signs_s0
 obtain ⟨k, r⟩ := t
 simp only
 by_cases k0 : k = 0
 ·rw [dT k0, if_pos k0]
  by_cases r9 : r = 39
  ·rw [dT r9, if_pos r9, r9]; rfl
  ·rw [dF r9, if_neg r9]; rfl
 ·rw [dF k0, if_neg k0]
  by_cases k1 : k = 1
  ·subst k1; rfl
  ·by_cases k2 : k = 2
   ·subst k2; rfl
   ·by_cases k3 : k = 3
    ·subst k3; rfl
    ·by_cases k4 : k = 4
     ·subst k4; rfl
     ·rw [if_neg k1, if_neg k2, if_neg k3, if_neg k4]
      simp only [mapRun]
      rw [dF (show ¬ (1 : Int) = k by omega), dF (show ¬ (2 : Int) = k by omega), dF (show ¬ (3 : Int) = k by omega), dF (show ¬ (4 : Int) = k by omega)]
      rfl
theorem caffix {out : List Int} {l : List St33} (ho : out.length ≤ 1000000) (hl : l.length ≤ 300) : pat_affix out l = some (out ++ affL l) := by
 unfold pat_affix
 generalize hst : (fun (s519 : Bool × Int × (List Int)) => ((bif (decide (s519.2.1 < (l.length : Int))) then (Option.bind (bif inR s519.2.1 l.length then (Option.bind (bif (decide (((nth l s519.2.1).Kind_) = 0)) then (some ((decide (((nth l s519.2.1).R_) = 39)))) else (some false)) fun (s952 : Bool) => (Option.bind (bif s952 then (bif s519.1 then (some true) else (bif (!s952) then (bif (decide (((nth l s519.2.1).Kind_) = 0)) then (Option.bind (pat_special ((nth l s519.2.1).R_)) fun y1001 => (some y1001)) else (some false)) else (some false))) else (bif (!s952) then (bif (decide (((nth l s519.2.1).Kind_) = 0)) then (Option.bind (pat_special ((nth l s519.2.1).R_)) fun y1010 => (some y1010)) else (some false)) else (some false))) fun (s984 : Bool) => (Option.bind (bif (s984 != s519.1) then (bif room (s519.2.2.length + ([39] : List Int).length) then (some (s984, (s519.2.2 ++ ([39] : List Int)))) else none) else (some (s519.1, s519.2.2))) fun (s1017 : Bool × (List Int)) => (Option.bind (pat_piece (nth l s519.2.1)) fun y1026 => (bif room (s1017.2.length + y1026.length) then (some (s1017.1, (s1017.2 ++ y1026))) else none))))) else none) fun (s943 : Bool × (List Int)) => (some (.inl (s943.1, (IntKind.wrap .i64 (s519.2.1 + 1)), s943.2)))) else (some (.inr (s519.1, s519.2.2)))) : Option ((Bool × Int × (List Int)) ⊕ (Bool × (List Int))))) = step
 obtain ⟨o, q1, q2⟩ := loop_count (step := step) l.length (fun i => ((affF (l.take i)).1, (i : Int), out ++ (affF (l.take i)).2)) (fun _ => True) (fun o => o = ((affF l).1, out ++ (affF l).2)) (s0 := (false, 0, out)) (by simp [affF]) trivial (fun i hi _ => by
  left
  refine ⟨?_, trivial⟩
  have hln := affF_len (l := l) i (by omega)
  rw [affF_succ hi]
  subst hst
  generalize affF (l.take i) = F at hln
  obtain ⟨q, u⟩ := F
  simp only at hln ⊢
  rw [dT (show (i : Int) < (l.length : Int) by omega), inR_nat hi, w64 (n := (i : Int) + 1) (by omega) (by omega), nth_nat hi, cpiece]
  have hpl := pcL_len l[i]
  generalize hpc : pcL l[i] = pc at hpl
  unfold affS
  rw [hpc]
  generalize l[i] = t
  obtain ⟨k, r⟩ := t
  simp only
  rw [special_at]
  have hsp : decide (r = 35 ∨ r = 64 ∨ r = 44 ∨ r = 46 ∨ r = 59 ∨ r = 42 ∨ r = 37 ∨ r = 45 ∨ r = 43 ∨ r = 39 ∨ r = 69 ∨ r = 164 ∨ (48 ≤ r ∧ r ≤ 57)) = spc r := rfl
  rw [hsp]
  simp only [cond_true, Option.bind_some]
  have hB : (bif (decide (k = 0)) then (some ((decide (r = 39)))) else (some false) : Option Bool) = some (decide (k = 0) && decide (r = 39)) := by cases decide (k = 0) <;> rfl
  rw [hB]
  simp only [Option.bind_some]
  have hQ : (bif (decide (k = 0) && decide (r = 39)) then (bif q then (some true) else (bif (!(decide (k = 0) && decide (r = 39))) then (bif (decide (k = 0)) then (some (spc r)) else (some false)) else (some false))) else (bif (!(decide (k = 0) && decide (r = 39))) then (bif (decide (k = 0)) then (some (spc r)) else (some false)) else (some false)) : Option Bool) = some (qN q ⟨k, r⟩) := by
   unfold qN
   simp only
   by_cases h1 : k = 0 ∧ r = 39
   ·rw [dT h1.1, dT h1.2, if_pos h1]; cases q <;> rfl
   ·rw [show (decide (k = 0) && decide (r = 39)) = false by rw [← Bool.decide_and]; exact dF h1, if_neg h1]
    cases decide (k = 0) <;> rfl
  rw [hQ]
  simp only [Option.bind_some]
  generalize qN q ⟨k, r⟩ = q'
  have hC : (bif (q' != q) then (bif room ((out ++ u).length + ([39] : List Int).length) then (some (q', (out ++ u ++ ([39] : List Int)))) else none) else (some (q, out ++ u)) : Option (Bool × List Int)) = some (q', out ++ (u ++ (if (q' != q) = true then [39] else []))) := by
   rw [room_of (by simp; omega)]
   cases q' <;> cases q <;> simp
  rw [hC]
  simp only [Option.bind_some]
  have hlu : (if (q' != q) = true then ([39] : List Int) else []).length ≤ 1 := by split <;> simp
  rw [room_of (by simp only [List.length_append]; omega)]
  simp only [cond_true, Option.bind_some, List.append_assoc]
  rfl) (fun _ => ⟨_, by subst hst; simp only; rw [dF (by omega)]; rfl, by rw [List.take_length]⟩) (by omega)
 rw [q1, q2]
 simp only [Option.bind_some]
 have hln := affF_len (l := l) l.length (by omega)
 rw [List.take_length] at hln
 unfold affL
 rw [room_of (by simp; omega)]
 cases (affF l).1
 ·simp
 ·simp
def txN (N : List Int) (p : St23) : List Int := padL p 1 ++ (affL p.Pre_ ++ (padL p 2 ++ (N ++ (padL p 3 ++ (affL p.Suf_ ++ (padL p 4 ++ (if p.Neg_ = true then 59 :: (affL p.NPre_ ++ (N ++ affL p.NSuf_)) else [])))))))
theorem txN_len {N : List Int} {p : St23} (hN : N.length ≤ 1500) (h1 : p.Pre_.length ≤ 300) (h2 : p.Suf_.length ≤ 300) (h3 : p.NPre_.length ≤ 300) (h4 : p.NSuf_.length ≤ 300) : (txN N p).length ≤ 20000 := by
 have a1 := padL_len p 1; have a2 := padL_len p 2; have a3 := padL_len p 3; have a4 := padL_len p 4
 have d1 := affL_len p.Pre_; have d2 := affL_len p.Suf_; have d3 := affL_len p.NPre_; have d4 := affL_len p.NSuf_
 unfold txN
 simp only [List.length_append]
 have : (if p.Neg_ = true then 59 :: (affL p.NPre_ ++ (N ++ affL p.NSuf_)) else []).length ≤ 5000 := by
  split
  ·simp only [List.length_cons, List.length_append]; omega
  ·simp
 omega
theorem pattern_text {N : List Int} {p : St23} (hp : pat_number p = some N) (hN : N.length ≤ 1500) (h1 : p.Pre_.length ≤ 300) (h2 : p.Suf_.length ≤ 300) (h3 : p.NPre_.length ≤ 300) (h4 : p.NSuf_.length ≤ 300) : pat_pattern p = some (txN N p) := by
 have a1 := padL_len p 1; have a2 := padL_len p 2; have a3 := padL_len p 3; have a4 := padL_len p 4
 have d1 := affL_len p.Pre_; have d2 := affL_len p.Suf_; have d3 := affL_len p.NPre_; have d4 := affL_len p.NSuf_
 unfold pat_pattern
 rw [hp]
 simp only [Option.bind_some]
 rw [cpad (by simp)]
 simp only [Option.bind_some]
 rw [caffix (by simp; omega) h1]
 simp only [Option.bind_some]
 rw [cpad (by simp; omega)]
 simp only [Option.bind_some]
 rw [room_of (by simp; omega)]
 simp only [cond_true]
 rw [cpad (by simp; omega)]
 simp only [Option.bind_some]
 rw [caffix (by simp; omega) h2]
 simp only [Option.bind_some]
 rw [cpad (by simp; omega)]
 simp only [Option.bind_some]
 unfold txN
 cases p.Neg_ with
 | true =>
  simp only [cond_true]
  rw [room_of (by simp; omega)]
  simp only [cond_true]
  rw [caffix (by simp; omega) h3]
  simp only [Option.bind_some]
  rw [room_of (by simp; omega)]
  simp only [cond_true]
  rw [caffix (by simp; omega) h4]
  simp [List.append_assoc]
 | false => simp [List.append_assoc]
def fixR (x : Int) : Int := if isRb x then x else 65533
theorem fix_ok (l : List Int) : (l.map fixR).all isRb = true := by
 refine List.all_eq_true.2 (fun c hc => ?_)
 obtain ⟨x, _, rfl⟩ := List.mem_map.1 hc
 unfold fixR
 split
 ·assumption
 ·decide
theorem fix_id : ∀ {l : List Int}, l.all isRb = true → l.map fixR = l
 | [], _ => rfl
 | c :: l, h => by
  rw [List.all_cons, Bool.and_eq_true] at h
  rw [List.map_cons, fix_id h.2]
  unfold fixR
  rw [if_pos h.1]
theorem rune_fix (x : Int) : (Utf8.encode x).data.toList = bytesS (enc1 (fixR x)) := by
 unfold fixR
 cases h : isRb x with
 | true => rw [if_pos rfl, rune_enc h]
 | false =>
  rw [if_neg (by simp), ← rune_enc (show isRb 65533 = true by decide)]
  have hv : Utf8.valid x = false := by
   cases hv : Utf8.valid x
   ·rfl
   ·exfalso
    unfold Utf8.valid at hv
    simp only [Bool.or_eq_true, Bool.and_eq_true, decide_eq_true_eq] at hv
    have : isRb x = true := isRb_iff.2 (by omega)
    rw [this] at h; cases h
  have hv2 : Utf8.valid 65533 = true := by decide
  unfold Utf8.encode
  rw [hv, hv2]
  rfl
theorem runes_fix : ∀ (l : List Int), runesS l = bytesS (encL1 (l.map fixR))
 | [] => rfl
 | c :: l => by
  have ih := runes_fix l
  have e1 : encL1 ((c :: l).map fixR) = enc1 (fixR c) ++ encL1 (l.map fixR) := rfl
  have e2 : runesS (c :: l) = (Utf8.encode c).data.toList ++ runesS l := rfl
  rw [e1, e2, ih, rune_fix, bytesS_app]
theorem lim_same {a b c d : Int} : ((maxI ((maxI ((maxI a b)) c)) d) > 40) ↔ (a > 40 ∨ b > 40 ∨ c > 40 ∨ d > 40) := by
 unfold maxI
 repeat' split
 all_goals omega
theorem parse_same {t : List UInt8} {l : List Int} {z z' : Int} (hd1 : utf_Decode (bytesI t) = some (l, z, 0)) (hd2 : exergueref01_Decode (bytesI t) = some (l, z', 0)) (hpos : ∀ c ∈ l, 0 ≤ c) :
  (∃ q, pat_Parse t = some (q, 0, 0) ∧ exergueref10_Parse t = some (q, 0, 0) ∧ inP l q ∧ limP q) ∨ ((∃ q i e, pat_Parse t = some (q, i, e) ∧ e ≠ 0) ∧ ∃ q i e, exergueref10_Parse t = some (q, i, e) ∧ e ≠ 0) := by
 have hmid : ∀ {K : Int × Bool × (List St33) × (List St33) × (List St33) × (List St33) × Bool × Int × Int × Int × Int × Int × Int × Int × Int × Int × Bool × Int × Int → Option (St23 × Int × Int)} {x : Option (St23 × Int × Int × Int × Bool)} {f : St23 × Int × Int × Int × Bool → Option (Int × Bool × (List St33) × (List St33) × (List St33) × (List St33) × Bool × Int × Int × Int × Int × Int × Int × Int × Int × Int × Bool × Int × Int)}, Option.bind x (fun y => Option.bind (f y) K) = Option.bind (Option.bind x f) K := by
  intro K x f
  cases x <;> rfl
 unfold pat_Parse exergueref10_Parse
 rw [hd1, hd2]
 simp only [Option.bind_some, not_true_eq_false, decide_false, cond_false]
 by_cases h120 : (l.length : Int) > 120
 ·rw [dT h120]
  exact .inr ⟨⟨_, _, _, rfl, by decide⟩, _, _, _, rfl, by decide⟩
 ·rw [dF h120]
  simp only [cond_false]
  rw [hmid]
  have hrm : (Option.bind (exergueref10_first l) fun y10 => (Option.bind (bif y10.2.2.2.2 then (Option.bind (exergueref10_at l y10.2.2.2.1) fun y55 => (some (decide (y55 = 59)))) else (some false)) fun (s47 : Bool) => (bif s47 then (Option.bind (exergueref10_second y10.1 l (IntKind.wrap .i64 (y10.2.2.2.1 + 1)) y10.2.1 y10.2.2.1) fun y61 => (some (y61.2.1, y61.2.2, y61.1.Pre_, y61.1.Suf_, y61.1.NPre_, y61.1.NSuf_, y61.1.Neg_, y61.1.Hash_, y61.1.MinInt_, y61.1.MinFrac_, y61.1.MaxFrac_, y61.1.G1_, y61.1.G2_, y61.1.MinSig_, y61.1.MaxSig_, y61.1.Exp_, y61.1.ExpPlus_, y61.1.Pad_, y61.1.PadAt_))) else (some (y10.2.2.2.1, y10.2.2.2.2, y10.1.Pre_, y10.1.Suf_, y10.1.NPre_, y10.1.NSuf_, y10.1.Neg_, y10.1.Hash_, y10.1.MinInt_, y10.1.MinFrac_, y10.1.MaxFrac_, y10.1.G1_, y10.1.G2_, y10.1.MinSig_, y10.1.MaxSig_, y10.1.Exp_, y10.1.ExpPlus_, y10.1.Pad_, y10.1.PadAt_))))) = rmid l := rfl
  rw [hrm]
  unfold pat_read pat_signs_s0
  simp only [Option.bind_some]
  rcases pattern_same (l := l) (by omega) hpos with ⟨q, e1, e2, e3⟩ | ⟨⟨e, e1⟩, s, e2, e3⟩
  ·rw [e1, e2]
   have hk : pat_read_1_s0 l (l.length : Int) 0 1 2 3 4 q.Pre_ q.Suf_ q.NPre_ q.NSuf_ q.Neg_ q.Hash_ q.MinInt_ q.MinFrac_ q.MaxFrac_ q.G1_ q.G2_ q.MinSig_ q.MaxSig_ q.Exp_ q.ExpPlus_ q.Pad_ q.PadAt_ 0 true = some () := rfl
   simp only [Option.bind_some, Sum.elim_inl]
   rw [hk]
   simp only [Option.bind_some, Bool.not_true, cond_false]
   unfold tupP
   simp only [Bool.not_true, cond_false, Option.bind_some]
   rw [dF (show ¬ (l.length : Int) < (l.length : Int) by omega)]
   simp only [cond_false, Option.bind_some, joinX]
   have hh := e3.2.2.2.2.2.1
   have hm := e3.2.2.2.2.2.2
   by_cases hl : IntKind.wrap .i64 (q.Hash_ + q.MinInt_) > 40 ∨ q.MaxFrac_ > 40 ∨ q.MaxSig_ > 40 ∨ q.Exp_ > 40
   ·right
    rw [dT (lim_same.2 hl)]
    have hb : (bif (decide ((IntKind.wrap .i64 (q.Hash_ + q.MinInt_)) > 40)) then (some true) else (bif (decide (q.MaxFrac_ > 40)) then (some true) else (bif (decide (q.MaxSig_ > 40)) then (some true) else (some (decide (q.Exp_ > 40)))))) = some true := by
     by_cases c1 : IntKind.wrap .i64 (q.Hash_ + q.MinInt_) > 40
     ·rw [dT c1]; rfl
     ·rw [dF c1]
      by_cases c2 : q.MaxFrac_ > 40
      ·rw [dT c2]; rfl
      ·rw [dF c2]
       by_cases c3 : q.MaxSig_ > 40
       ·rw [dT c3]; rfl
       ·rw [dF c3, dT (show q.Exp_ > 40 by omega)]; rfl
    rw [hb]
    exact ⟨⟨_, _, _, rfl, by decide⟩, _, _, _, rfl, by decide⟩
   ·left
    rw [dF (fun h => hl (lim_same.1 h)), dF (show ¬ IntKind.wrap .i64 (q.Hash_ + q.MinInt_) > 40 by omega), dF (show ¬ q.MaxFrac_ > 40 by omega), dF (show ¬ q.MaxSig_ > 40 by omega), dF (show ¬ q.Exp_ > 40 by omega)]
    refine ⟨q, rfl, rfl, e3, ?_⟩
    rw [w64 (n := q.Hash_ + q.MinInt_) (by omega) (by omega)] at hl
    exact ⟨by omega, by omega, by omega, by omega⟩
  ·right
   rw [e1, e2]
   refine ⟨⟨_, _, _, rfl, by decide⟩, ?_⟩
   simp only [Option.bind_some]
   have hb : (bif (!s.2.1) then (some true) else (some ((decide (s.1 < (l.length : Int)))))) = some true := by
    cases h : s.2.1 with
    | false => rfl
    | true =>
     rcases e3 with e3 | e3
     ·rw [h] at e3; cases e3
     ·rw [dT e3]; rfl
   rw [hb]
   exact ⟨_, _, _, rfl, by decide⟩
end Go.Proofs.Ytdflcknbelpflaa
