/-
 What those functions come to, told by plain functions of lists and numbers. Conditions: as each theorem says.
-/
import Derived.Test.YteaokhdkocddcaaDoorGb
import Derived.Test.YteaokhdkocddcaaDoorSyZ
namespace Go.Proofs.YteaokhdkocddcaaDoor
open Go Go.Sy Go.RowKit Go.ChangeShapes Go.WideShapes Go.ChangeAt
set_option linter.unusedVariables false
set_option linter.unusedSimpArgs false
set_option maxRecDepth 100000
set_option maxHeartbeats 4000000
/-! Decimal numerals: what the library's functions lay. -/
/-! Conditions as texts: what both readers come to. -/
/-! Places in a text. -/
/-! The document's own reader. -/
/-! The program's reader. -/
theorem hbind {A B : Type} {x : Option A} {k : A → Option B} {p : A → Prop} {q : B → Prop} (h : ∃ o, x = some o ∧ p o) (hk : ∀ o, p o → ∃ r, k o = some r ∧ q r) : ∃ r, Option.bind x k = some r ∧ q r := by
 obtain ⟨o, rfl, h⟩ := h
 exact hk o h
/-! Are two the same? -/
theorem eq_row {T S O : Type} [Inhabited T] [DecidableEq T] {xs ys : List T} (hlen : xs.length = ys.length) (hb : xs.length ≤ 4611686018427387904) (ok bad : O) {step : Int → Option (Int ⊕ O)}
  (hs : ∀ i : Nat, i < xs.length → step (i : Int) = some (if nth xs (i : Int) = nth ys (i : Int) then .inl ((i : Int) + 1) else .inr bad)) (he : step (xs.length : Int) = some (.inr ok)) :
  loopN step big 0 = some (if xs = ys then ok else bad) := by
 obtain ⟨o, h1, h2⟩ := loop_count (step := step) xs.length (fun i => (i : Int)) (fun i => ∀ j, j < i → nth xs (j : Int) = nth ys (j : Int)) (fun o => o = if xs = ys then ok else bad) rfl (fun j hj => by omega) (fun i hi hI => by
  rw [hs i hi]
  by_cases c : nth xs (i : Int) = nth ys (i : Int)
  ·left
   rw [if_pos c]
   refine ⟨by simp, fun j hj => ?_⟩
   by_cases e : j = i
   ·subst e; exact c
   ·exact hI j (by omega)
  ·right
   rw [if_neg c]
   refine ⟨bad, rfl, ?_⟩
   rw [if_neg (fun e => c (by rw [e]))]) (fun hI => ⟨ok, he, by
  rw [if_pos]
  apply List.ext_getElem hlen
  intro i h1 h2
  have := hI i h1
  rwa [nth_nat h1, nth_nat h2] at this⟩) (by omega)
 have h1' : loopN step big 0 = some o := h1
 rw [h1', h2]
theorem w_succ {i n : Nat} (h : i < n) (hb : n ≤ 4611686018427387904) : IntKind.wrap .i64 ((i : Int) + 1) = (i : Int) + 1 := w64 (by omega) (by omega)
theorem st42_eq (x y : St73) : (!((decide (x.a0_ = y.a0_)) && ((decide (x.a1_ = y.a1_)) && true))) = !decide (x = y) := by
 obtain ⟨a, b⟩ := x
 obtain ⟨c, d⟩ := y
 by_cases h1 : a = c <;> by_cases h2 : b = d <;> simp [h1, h2]
theorem equal42 {x y : List St73} (hb : x.length ≤ 4611686018427387904) : slices_Equal x y = some (decide (x = y)) := by
 unfold slices_Equal
 by_cases h : x.length = y.length
 ·rw [dF (by omega)]
  simp only [cond_false]
  rw [eq_row (S := Unit) h hb (.inl () : Unit ⊕ Bool) (.inr false)]
  ·by_cases e : x = y
   ·rw [if_pos e, dT e]; rfl
   ·rw [if_neg e, dF e]; rfl
  ·intro i hi
   rw [dT (by omega), inR_nat hi, inR_nat (by omega), st42_eq, w_succ hi hb]
   by_cases e : nth x (i : Int) = nth y (i : Int)
   ·rw [if_pos e, dT e]; rfl
   ·rw [if_neg e, dF e]; rfl
  ·rw [lt_end]; rfl
 ·rw [dT (by omega), dF (by rintro rfl; exact h rfl)]; rfl
def lenOk (c : List (List St71)) : Prop := c.length ≤ 4611686018427387904 ∧ ∀ row ∈ c, row.length ≤ 4611686018427387904 ∧ ∀ x ∈ row, x.R_.length ≤ 4611686018427387904
theorem sameRel_eq {x y : St71} (hb : x.R_.length ≤ 4611686018427387904) : rule_sameRel x y = some (decide (x = y)) := by
 unfold rule_sameRel
 rw [equal42 hb]
 obtain ⟨a, b, c, d⟩ := x
 obtain ⟨a', b', c', d'⟩ := y
 by_cases h1 : a = a' <;> by_cases h2 : b = b' <;> cases c <;> cases c' <;> by_cases h4 : d = d' <;> simp [h1, h2, h4]
theorem sameRow_eq {x y : List St71} (hb : x.length ≤ 4611686018427387904) (hx : ∀ r ∈ x, r.R_.length ≤ 4611686018427387904) : rule_Same_1 x y = some (decide (x = y)) := by
 unfold rule_Same_1 api_Rel__37_s0
 by_cases h : x.length = y.length
 ·rw [dF (by omega)]
  simp only [cond_false]
  rw [eq_row (S := Unit) h hb (.inl () : Unit ⊕ Bool) (.inr false)]
  ·by_cases e : x = y
   ·rw [if_pos e, dT e]; rfl
   ·rw [if_neg e, dF e]; rfl
  ·intro i hi
   have hm : (nth x (i : Int)).R_.length ≤ 4611686018427387904 := hx _ (by rw [nth_nat hi]; exact List.getElem_mem hi)
   rw [dT (by omega), inR_nat hi, inR_nat (by omega), sameRel_eq hm, w_succ hi hb]
   by_cases e : nth x (i : Int) = nth y (i : Int)
   ·rw [if_pos e, dT e]; rfl
   ·rw [if_neg e, dF e]; rfl
  ·rw [lt_end]; rfl
 ·rw [dT (by omega), dF (by rintro rfl; exact h rfl)]; rfl
theorem same_eq {x y : List (List St71)} (hx : lenOk x) : rule_Same x y = some (decide (x = y)) := by
 unfold rule_Same api_Rel__s0
 by_cases h : x.length = y.length
 ·rw [dF (by omega)]
  simp only [cond_false]
  rw [eq_row (S := Unit) h hx.1 (.inl () : Unit ⊕ Bool) (.inr false)]
  ·by_cases e : x = y
   ·rw [if_pos e, dT e]; rfl
   ·rw [if_neg e, dF e]; rfl
  ·intro i hi
   have hm := hx.2 (nth x (i : Int)) (by rw [nth_nat hi]; exact List.getElem_mem hi)
   rw [dT (by omega), inR_nat hi, inR_nat (by omega), sameRow_eq hm.1 (fun r hr => hm.2 r hr), w_succ hi hx.1]
   by_cases e : nth x (i : Int) = nth y (i : Int)
   ·rw [if_pos e, dT e]; rfl
   ·rw [if_neg e, dF e]; rfl
  ·rw [lt_end]; rfl
 ·rw [dT (by omega), dF (by rintro rfl; exact h rfl)]; rfl
/-! Conditions' own texts. -/
def inN (n : Int) : Prop := -9223372036854775807 ≤ n ∧ n ≤ 9223372036854775807
def relOk (x : St71) : Prop := x.R_.length ≤ 300 ∧ inN x.Mod_ ∧ ∀ r ∈ x.R_, inN r.a0_ ∧ inN r.a1_
def txtOk (c : List (List St71)) : Prop := c.length ≤ 300 ∧ ∀ row ∈ c, row.length ≤ 300 ∧ ∀ x ∈ row, relOk x
/-! Are there few relations, of few ranges? -/
def rngS (r : St73) : Bool := !(decide (r.a0_ < -1000000000000) || decide (r.a1_ < -1000000000000))
def relS (x : St71) : Prop := x.R_.length ≤ 200 ∧ -1000000000000 ≤ x.Mod_ ∧ ∀ r ∈ x.R_, -1000000000000 ≤ r.a0_ ∧ -1000000000000 ≤ r.a1_
def rowS (row : List St71) : Prop := row.length ≤ 200 ∧ ∀ x ∈ row, relS x
def shortP (c : List (List St71)) : Prop := c.length ≤ 200 ∧ ∀ row ∈ c, rowS row
def cntR (l : List St71) : Int := (l.map fun x => 1 + (x.R_.length : Int)).sum
def sumN (l : List (List St71)) : Int := (l.map fun row => 1 + cntR row).sum
theorem cntR_snoc (l : List St71) (x : St71) : cntR (l ++ [x]) = cntR l + (1 + (x.R_.length : Int)) := by simp [cntR]
theorem sumN_snoc (l : List (List St71)) (x : List St71) : sumN (l ++ [x]) = sumN l + (1 + cntR x) := by simp [sumN]
theorem cntR_ge (l : List St71) : (l.length : Int) ≤ cntR l := by
 induction l with
 | nil => simp [cntR]
 | cons x l ih =>
  have : cntR (x :: l) = 1 + (x.R_.length : Int) + cntR l := by simp [cntR]
  rw [this, List.length_cons]; omega
theorem sumN_ge (l : List (List St71)) : (l.length : Int) ≤ sumN l := by
 induction l with
 | nil => simp [sumN]
 | cons x l ih =>
  have : sumN (x :: l) = 1 + cntR x + sumN l := by simp [sumN]
  have h := cntR_ge x
  rw [this, List.length_cons]; omega
theorem short_ex {c : List (List St71)} (hc : c.length ≤ 140737488355328) (hr : ∀ row ∈ c, row.length ≤ 140737488355328 ∧ ∀ x ∈ row, x.R_.length ≤ 140737488355328) : ∃ b, exergueref11_Short c = some b ∧ (b = true → shortP c) := by
 unfold exergueref11_Short
 refine hbind (p := fun o : Unit ⊕ Bool => match o with | .inl _ => shortP c | .inr b => b = false) (loop_row c (fun pre => (sumN pre, (pre.length : Int))) (fun pre => sumN pre ≤ 200 ∧ ∀ row ∈ pre, rowS row) _ rfl ⟨by simp [sumN], by simp⟩ (fun pre row suf hx hI => ?_) (fun hI => ?_) (by omega)) (fun o ho => ?_)
 ·obtain ⟨hI1, hI2⟩ := hI
  have hb : (pre ++ row :: suf).length ≤ 4611686018427387904 := by rw [← hx]; omega
  obtain ⟨hrl, hrx⟩ := hr row (by rw [hx]; simp)
  have hsg := sumN_ge pre
  simp only
  rw [hx, lt_mid, inR_mid, nth_mid, w_mid hb, w64 (n := sumN pre + 1) (by omega) (by omega)]
  have hin : ∃ o : Int ⊕ Bool, (loopN (fun (s79281 : Int × Int) => (bif true then (bif (decide (s79281.2 < (row.length : Int))) then (Option.bind (bif true then (bif inR s79281.2 row.length then (Option.bind (loopN (fun (s82424 : Int) => (bif true then (bif inR s79281.2 row.length then (bif (decide (s82424 < ((((nth row s79281.2).R_).length : Int)))) then (Option.bind (Option.bind (bif true then (bif inR s79281.2 row.length then (bif inR s82424 ((nth row s79281.2).R_).length then (bif (decide (((nth ((nth row s79281.2).R_) s82424).a0_) < (-1000000000000))) then (some true) else (bif true then (bif inR s79281.2 row.length then (bif inR s82424 ((nth row s79281.2).R_).length then (some ((decide (((nth ((nth row s79281.2).R_) s82424).a1_) < (-1000000000000))))) else none) else none) else none)) else none) else none) else none) fun (s82660 : Bool) => (bif s82660 then (some (.inr (.inr (.inr (.inr (.inr (.inr (.inr (.inr (.inr false)))))))))) else (some (.inl ())))) (joinX fun (s82646 : Unit) => (some (.inl (IntKind.wrap .i64 (s82424 + 1)))))) else (some (.inr (.inl ())))) else none) else none)) big 0) (joinX fun (s82419 : Unit) => (Option.bind (bif true then (bif inR s79281.2 row.length then (bif (decide (((nth row s79281.2).Mod_) < (-1000000000000))) then (some true) else (some ((decide (((IntKind.wrap .i64 ((IntKind.wrap .i64 (s79281.1 + 1)) + ((((nth row s79281.2).R_).length : Int))))) > 200))))) else none) else none) fun (s82696 : Bool) => (bif s82696 then (some (.inr (.inr (.inr (.inr (.inr (.inr false))))))) else (some (.inl ())))))) else none) else none) (joinX fun (s82145 : Unit) => (some (.inl ((IntKind.wrap .i64 ((IntKind.wrap .i64 (s79281.1 + 1)) + ((((nth row s79281.2).R_).length : Int)))), (IntKind.wrap .i64 (s79281.2 + 1))))))) else (some (.inr (.inl s79281.1)))) else none)) big (sumN pre + 1, 0) : Option (Int ⊕ (Int ⊕ ((Int × Int) ⊕ (Unit ⊕ Bool))))) = some (match o with | .inl n => .inl n | .inr b => .inr (.inr (.inr (.inr b)))) ∧ (match o with | .inl n => n = sumN pre + 1 + cntR row ∧ (row ≠ [] → n ≤ 200) ∧ rowS row | .inr b => b = false) := by
   have hl : ∃ o, (loopN _ big (sumN pre + 1, (0 : Int)) : Option (Int ⊕ (Int ⊕ ((Int × Int) ⊕ (Unit ⊕ Bool))))) = some o ∧ (match o with | .inl n => n = sumN pre + 1 + cntR row ∧ (row ≠ [] → n ≤ 200) ∧ rowS row | .inr q => q = .inr (.inr (.inr false))) := loop_row row (fun pr => (sumN pre + 1 + cntR pr, (pr.length : Int))) (fun pr => (pr ≠ [] → sumN pre + 1 + cntR pr ≤ 200) ∧ ∀ x ∈ pr, relS x) (fun o : Int ⊕ (Int ⊕ ((Int × Int) ⊕ (Unit ⊕ Bool))) => match o with | .inl n => n = sumN pre + 1 + cntR row ∧ (row ≠ [] → n ≤ 200) ∧ rowS row | .inr q => q = .inr (.inr (.inr false))) (step := (fun (s79281 : Int × Int) => (bif true then (bif (decide (s79281.2 < (row.length : Int))) then (Option.bind (bif true then (bif inR s79281.2 row.length then (Option.bind (loopN (fun (s82424 : Int) => (bif true then (bif inR s79281.2 row.length then (bif (decide (s82424 < ((((nth row s79281.2).R_).length : Int)))) then (Option.bind (Option.bind (bif true then (bif inR s79281.2 row.length then (bif inR s82424 ((nth row s79281.2).R_).length then (bif (decide (((nth ((nth row s79281.2).R_) s82424).a0_) < (-1000000000000))) then (some true) else (bif true then (bif inR s79281.2 row.length then (bif inR s82424 ((nth row s79281.2).R_).length then (some ((decide (((nth ((nth row s79281.2).R_) s82424).a1_) < (-1000000000000))))) else none) else none) else none)) else none) else none) else none) fun (s82660 : Bool) => (bif s82660 then (some (.inr (.inr (.inr (.inr (.inr (.inr (.inr (.inr (.inr false)))))))))) else (some (.inl ())))) (joinX fun (s82646 : Unit) => (some (.inl (IntKind.wrap .i64 (s82424 + 1)))))) else (some (.inr (.inl ())))) else none) else none)) big 0) (joinX fun (s82419 : Unit) => (Option.bind (bif true then (bif inR s79281.2 row.length then (bif (decide (((nth row s79281.2).Mod_) < (-1000000000000))) then (some true) else (some ((decide (((IntKind.wrap .i64 ((IntKind.wrap .i64 (s79281.1 + 1)) + ((((nth row s79281.2).R_).length : Int))))) > 200))))) else none) else none) fun (s82696 : Bool) => (bif s82696 then (some (.inr (.inr (.inr (.inr (.inr (.inr false))))))) else (some (.inl ())))))) else none) else none) (joinX fun (s82145 : Unit) => (some (.inl ((IntKind.wrap .i64 ((IntKind.wrap .i64 (s79281.1 + 1)) + ((((nth row s79281.2).R_).length : Int)))), (IntKind.wrap .i64 (s79281.2 + 1))))))) else (some (.inr (.inl s79281.1)))) else none))) (by simp [cntR]) ⟨by simp, by simp⟩ (fun pr x sf hy hJ => by
    obtain ⟨hJ1, hJ2⟩ := hJ
    have hb2 : (pr ++ x :: sf).length ≤ 4611686018427387904 := by rw [← hy]; omega
    have hxl := hrx x (by rw [hy]; simp)
    have hcg := cntR_ge pr
    have hcu : cntR pr ≤ 200 := by
     by_cases hp : pr = []
     ·subst hp; simp [cntR]
     ·have := hJ1 hp; omega
    simp only
    rw [hy, lt_mid, inR_mid, nth_mid, w_mid hb2]
    rw [w64 (n := sumN pre + 1 + cntR pr + 1) (by omega) (by omega), w64 (by omega) (by omega)]
    have hrg : ∀ {O : Type} (bad : O), loopN (fun (s82424 : Int) => (bif true then (bif true then (bif (decide (s82424 < (((x.R_).length : Int)))) then (Option.bind (Option.bind (bif true then (bif true then (bif inR s82424 (x.R_).length then (bif (decide (((nth (x.R_) s82424).a0_) < (-1000000000000))) then (some true) else (bif true then (bif true then (bif inR s82424 (x.R_).length then (some ((decide (((nth (x.R_) s82424).a1_) < (-1000000000000))))) else none) else none) else none)) else none) else none) else none) fun (s82660 : Bool) => (bif s82660 then (some (.inr (.inr (.inr bad)))) else (some (.inl ())))) (joinX fun (s82646 : Unit) => (some (.inl (IntKind.wrap .i64 (s82424 + 1)))))) else (some (.inr (.inl ())))) else none) else none)) big 0 = some (if x.R_.all rngS = true then (.inl () : Unit ⊕ O) else .inr bad) := by
     intro O bad
     rw [loop_all rngS x.R_ (fun pe => (pe.length : Int)) (.inl ()) (.inr bad)]
     ·rfl
     ·intro pe r se h
      have hl2 : (pe ++ r :: se).length ≤ 4611686018427387904 := by rw [← h]; omega
      rw [h, lt_mid, inR_mid, nth_mid, w_mid hl2]
      unfold rngS
      by_cases g : r.a0_ < -1000000000000
      ·rw [dT g]; rfl
      ·rw [dF g]
       by_cases g2 : r.a1_ < -1000000000000
       ·rw [dT g2]; rfl
       ·rw [dF g2]; rfl
     ·rw [lt_end]; rfl
     ·omega
    rw [hrg]
    cases hall : x.R_.all rngS with
    | false => exact .inr ⟨_, rfl, rfl⟩
    | true =>
     by_cases g3 : x.Mod_ < -1000000000000
     ·right
      rw [dT g3]
      exact ⟨_, rfl, rfl⟩
     ·by_cases g4 : sumN pre + 1 + cntR pr + 1 + (x.R_.length : Int) > 200
      ·right
       rw [dF g3, dT g4]
       exact ⟨_, rfl, rfl⟩
      ·left
       rw [dF g3, dF g4]
       refine ⟨by rw [cntR_snoc, show sumN pre + 1 + (cntR pr + (1 + (x.R_.length : Int))) = sumN pre + 1 + cntR pr + 1 + (x.R_.length : Int) by omega]; rfl, fun _ => by rw [cntR_snoc]; omega, fun z hz => ?_⟩
       rcases List.mem_append.1 hz with hz | hz
       ·exact hJ2 z hz
       ·rw [List.mem_singleton.1 hz]
        refine ⟨by omega, by omega, fun r hr2 => ?_⟩
        have := List.all_eq_true.1 hall r hr2
        unfold rngS at this
        simp at this
        omega) (fun hJ => by
    refine ⟨.inl (sumN pre + 1 + cntR row), by simp only; rw [lt_end]; rfl, rfl, hJ.1, ?_, hJ.2⟩
    have := cntR_ge row
    by_cases hp : row = []
    ·subst hp; simp
    ·have := hJ.1 hp; omega) (by omega)
   obtain ⟨o, o1, o2⟩ := hl
   cases o with
   | inl n => exact ⟨.inl n, o1, o2⟩
   | inr q =>
    simp only at o2
    subst o2
    exact ⟨.inr false, o1, rfl⟩
  obtain ⟨o, o1, o2⟩ := hin
  rw [o1]
  cases o with
  | inr b =>
   simp only at o2
   subst o2
   exact .inr ⟨.inr false, rfl, rfl⟩
  | inl n =>
   simp only at o2
   obtain ⟨e1, e2, e3⟩ := o2
   by_cases g : n > 200
   ·right
    refine ⟨.inr false, ?_, rfl⟩
    simp only [cond_true, Option.bind_some, joinX]
    rw [dT g]; rfl
   ·left
    simp only [cond_true, Option.bind_some, joinX]
    rw [dF g]
    refine ⟨by rw [sumN_snoc, ← Int.add_assoc, ← e1]; rfl, by rw [sumN_snoc]; omega, fun z hz => ?_⟩
    rcases List.mem_append.1 hz with hz | hz
    ·exact hI2 z hz
    ·rw [List.mem_singleton.1 hz]; exact e3
 ·refine ⟨.inl (), by simp only; rw [lt_end]; rfl, ?_, hI.2⟩
  have := sumN_ge c
  omega
 ·cases o with
  | inl u => exact ⟨true, rfl, fun _ => ho⟩
  | inr b =>
   have ho : b = false := ho
   subst ho
   exact ⟨false, rfl, fun h => by cases h⟩
/-! A text with more blanks, or with something behind. -/
theorem shortP_ok {c : List (List St71)} (h : shortP c) (hw : ∀ row ∈ c, ∀ x ∈ row, x.Mod_ ≤ 9223372036854775807 ∧ ∀ r ∈ x.R_, r.a0_ ≤ 9223372036854775807 ∧ r.a1_ ≤ 9223372036854775807) : txtOk c ∧ lenOk c := by
 obtain ⟨h1, h2⟩ := h
 refine ⟨⟨by omega, fun row hrow => ⟨by have := (h2 row hrow).1; omega, fun x hx => ?_⟩⟩, by omega, fun row hrow => ⟨by have := (h2 row hrow).1; omega, fun x hx => by have := ((h2 row hrow).2 x hx).1; omega⟩⟩
 obtain ⟨g1, g2, g3⟩ := (h2 row hrow).2 x hx
 obtain ⟨w1, w2⟩ := hw row hrow x hx
 exact ⟨by omega, ⟨by omega, w1⟩, fun r hr => ⟨⟨by have := (g3 r hr).1; omega, (w2 r hr).1⟩, ⟨by have := (g3 r hr).2; omega, (w2 r hr).2⟩⟩⟩
/-! Of what a condition holds. -/
/-! Of what a condition holds, by the other way. -/
/-! Layer 12: rules as they are read. -/
/-! Categories rise; names. -/
/-! Which rules are right, and which the same. -/
def rulesOk (l : List St36) : Prop := l.length ≤ 1000 ∧ ∀ r ∈ l, txtOk r.C_ ∧ lenOk r.C_
theorem refshort12 {x : List St36} (hx : x.length ≤ 140737488355328) (hw : ∀ r ∈ x, (r.C_.length ≤ 140737488355328 ∧ ∀ row ∈ r.C_, row.length ≤ 140737488355328 ∧ ∀ y ∈ row, y.R_.length ≤ 140737488355328) ∧ (∀ row ∈ r.C_, ∀ y ∈ row, y.Mod_ ≤ 9223372036854775807 ∧ ∀ q ∈ y.R_, q.a0_ ≤ 9223372036854775807 ∧ q.a1_ ≤ 9223372036854775807)) :
  ∃ b, exergueref12_Short x = some b ∧ (b = true → rulesOk x) := by
 unfold exergueref12_Short
 obtain ⟨q, h1, h2⟩ := loop_row x (s0 := (0 : Int)) (step := (fun (s171 : Int) => (bif (decide (s171 < (x.length : Int))) then (Option.bind (bif inR s171 x.length then (Option.bind (exergueref11_Short ((nth x s171).C_)) fun y313 => (Option.bind (bif (decide (s171 ≥ 8)) then (some true) else (some (!y313))) fun (s319 : Bool) => (bif s319 then (some (.inr (.inr (.inr false)))) else (some (.inl ()))))) else none) (joinX fun (s307 : Unit) => (some (.inl (IntKind.wrap .i64 (s171 + 1)))))) else (some (.inr (.inl ())))))) (fun pre => (pre.length : Int)) (fun pre => pre.length ≤ 8 ∧ ∀ r ∈ pre, txtOk r.C_ ∧ lenOk r.C_) (fun q : Unit ⊕ Bool => match q with | .inl _ => rulesOk x | .inr b => b = false) rfl ⟨by simp, fun r hr => by cases hr⟩ (fun pre r suf h hi => by
  have hb2 : (pre ++ r :: suf).length ≤ 4611686018427387904 := by rw [← h]; omega
  obtain ⟨w1, w2⟩ := hw r (by rw [h]; simp)
  obtain ⟨b1, hb1, hs1⟩ := short_ex w1.1 w1.2
  rw [h, lt_mid, inR_mid, nth_mid, w_mid hb2, hb1]
  simp only [cond_true, Option.bind_some]
  by_cases c1 : (pre.length : Int) ≥ 8
  ·rw [dT c1]; exact .inr ⟨.inr false, rfl, rfl⟩
  ·rw [dF c1]
   cases b1 with
   | false => exact .inr ⟨.inr false, rfl, rfl⟩
   | true =>
    refine .inl ⟨rfl, by simp; omega, fun y hy => ?_⟩
    rcases List.mem_append.1 hy with hy | hy
    ·exact hi.2 y hy
    ·rw [List.mem_singleton] at hy; subst hy; exact shortP_ok (hs1 rfl) w2) (fun hi => ⟨.inl (), by rw [lt_end]; rfl, ⟨by have := hi.1; omega, hi.2⟩⟩) (by omega)
 rw [h1]
 cases q with
 | inl u => exact ⟨true, rfl, fun _ => h2⟩
 | inr b => have h2 : b = false := h2
            subst h2; exact ⟨false, rfl, fun h => by cases h⟩
/-! The same rules; what the other way reads. -/
theorem psame1_eq {x y : St36} (hx : lenOk x.C_) : plur_Same_1 x y = some (decide (x = y)) := by
 unfold plur_Same_1
 rw [same_eq hx]
 obtain ⟨a, b⟩ := x
 obtain ⟨c, d⟩ := y
 by_cases h1 : a = c <;> by_cases h2 : b = d <;> simp [h1, h2]
theorem psame_eq {x y : List St36} (hl : x.length ≤ 1000) (hx : ∀ r ∈ x, lenOk r.C_) : plur_Same x y = some (decide (x = y)) := by
 unfold plur_Same api_Ruled__s0
 by_cases h : x.length = y.length
 ·rw [dF (by omega)]
  simp only [cond_false]
  rw [eq_row (S := Unit) h (by omega) (.inl () : Unit ⊕ Bool) (.inr false)]
  ·by_cases e : x = y
   ·rw [if_pos e, dT e]; rfl
   ·rw [if_neg e, dF e]; rfl
  ·intro i hi
   have hm := hx (nth x (i : Int)) (by rw [nth_nat hi]; exact List.getElem_mem hi)
   rw [dT (by omega), inR_nat hi, inR_nat (by omega), psame1_eq hm, w_succ hi (by omega)]
   by_cases e : nth x (i : Int) = nth y (i : Int)
   ·rw [if_pos e, dT e]; rfl
   ·rw [if_neg e, dF e]; rfl
  ·rw [lt_end]; rfl
 ·rw [dT (by omega), dF (by rintro rfl; exact h rfl)]; rfl
end Go.Proofs.YteaokhdkocddcaaDoor
