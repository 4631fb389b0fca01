/-
 What those functions come to, told by plain functions of lists and numbers. Conditions: as each theorem says.
-/
import Derived.Test.YtdflcknbelpflaaGc
import Derived.Test.YtdflcknbelpflaaSyZ
namespace Go.Proofs.Ytdflcknbelpflaa
open Go Go.Sy Go.RowKit Go.ChangeShapes Go.WideShapes Go.ChangeAt
set_option linter.unusedVariables false
set_option linter.unusedSimpArgs false
set_option maxRecDepth 100000
set_option maxHeartbeats 4000000
/-! Two patterns are compared. -/
theorem eq_row {T S O : Type} [Inhabited T] [DecidableEq T] {xs ys : List T} (hlen : xs.length = ys.length) (hb : xs.length ≤ 4611686018427387904) (ok bad : O) {step : Int → Option (Int ⊕ O)}
  (hs : ∀ i : Nat, i < xs.length → step (i : Int) = some (if nth xs (i : Int) = nth ys (i : Int) then .inl ((i : Int) + 1) else .inr bad)) (he : step (xs.length : Int) = some (.inr ok)) :
  loopN step big 0 = some (if xs = ys then ok else bad) := by
 obtain ⟨o, h1, h2⟩ := loop_count (step := step) xs.length (fun i => (i : Int)) (fun i => ∀ j, j < i → nth xs (j : Int) = nth ys (j : Int)) (fun o => o = if xs = ys then ok else bad) rfl (fun j hj => by omega) (fun i hi hI => by
  rw [hs i hi]
  by_cases c : nth xs (i : Int) = nth ys (i : Int)
  ·left
   rw [if_pos c]
   refine ⟨by simp, fun j hj => ?_⟩
   by_cases e : j = i
   ·subst e; exact c
   ·exact hI j (by omega)
  ·right
   rw [if_neg c]
   refine ⟨bad, rfl, ?_⟩
   rw [if_neg (fun e => c (by rw [e]))]) (fun hI => ⟨ok, he, by
  rw [if_pos]
  apply List.ext_getElem hlen
  intro i h1 h2
  have := hI i h1
  rwa [nth_nat h1, nth_nat h2] at this⟩) (by omega)
 have h1' : loopN step big 0 = some o := h1
 rw [h1', h2]
theorem tok_eq {x y : List St33} (hl : x.length ≤ 4611686018427387904) : api_Tok_ x y = some (decide (x = y)) := by
 unfold api_Tok_
 by_cases h : x.length = y.length
 ·rw [dF (by omega)]
  simp only [cond_false]
  rw [eq_row (S := Unit) h (by omega) (.inl () : Unit ⊕ Bool) (.inr false)]
  ·by_cases e : x = y
   ·rw [if_pos e, dT e]; rfl
   ·rw [if_neg e, dF e]; rfl
  ·intro i hi
   rw [dT (by omega), inR_nat hi, inR_nat (by omega), w64 (by omega) (by omega)]
   simp only [cond_true]
   generalize nth x (i : Int) = a
   generalize nth y (i : Int) = b
   obtain ⟨a1, a2⟩ := a
   obtain ⟨b1, b2⟩ := b
   by_cases h1 : a1 = b1 <;> by_cases h2 : a2 = b2 <;> simp [h1, h2]
  ·rw [lt_end]; rfl
 ·rw [dT (by omega), dF (by rintro rfl; exact h rfl)]; rfl
def lens (a : St23) : Prop := a.Pre_.length ≤ 4611686018427387904 ∧ a.Suf_.length ≤ 4611686018427387904 ∧ a.NPre_.length ≤ 4611686018427387904 ∧ a.NSuf_.length ≤ 4611686018427387904
def padOk (a : St23) : Prop := -2147483648 ≤ a.Pad_ ∧ a.Pad_ < 2147483648
theorem same_eq {a b : St23} (hl : lens a) (ha : padOk a) (hb : padOk b) : pat_Same a b = some (decide (a = b)) := by
 obtain ⟨l1, l2, l3, l4⟩ := hl
 unfold pat_Same pat_numbers
 rw [tok_eq l1, tok_eq l2, tok_eq l3, tok_eq l4]
 simp only [Option.bind_some]
 rw [w64 (n := a.Pad_) (by have := ha.1; omega) (by have := ha.2; omega), w64 (n := b.Pad_) (by have := hb.1; omega) (by have := hb.2; omega)]
 obtain ⟨p1, p2, p3, p4, p5, p6, p7, p8, p9, p10, p11, p12, p13, p14, p15, p16, p17⟩ := a
 obtain ⟨q1, q2, q3, q4, q5, q6, q7, q8, q9, q10, q11, q12, q13, q14, q15, q16, q17⟩ := b
 simp only [St23.mk.injEq]
 by_cases hn : p6 = q6 ∧ p7 = q7 ∧ p8 = q8 ∧ p9 = q9 ∧ p10 = q10 ∧ p11 = q11 ∧ p12 = q12 ∧ p13 = q13 ∧ p14 = q14 ∧ p16 = q16 ∧ p17 = q17
 ·obtain ⟨rfl, rfl, rfl, rfl, rfl, rfl, rfl, rfl, rfl, rfl, rfl⟩ := hn
  simp only [decide_true, Bool.and_self, cond_true, true_and, and_true]
  by_cases h1 : p1 = q1 <;> by_cases h2 : p2 = q2 <;> by_cases h3 : p3 = q3 <;> by_cases h4 : p4 = q4 <;> cases p5 <;> cases q5 <;> cases p15 <;> cases q15 <;> simp [h1, h2, h3, h4]
 ·rw [show ((decide (p6 = q6)) && ((decide (p7 = q7)) && ((decide (p8 = q8)) && ((decide (p9 = q9)) && ((decide (p10 = q10)) && ((decide (p11 = q11)) && ((decide (p12 = q12)) && ((decide (p13 = q13)) && ((decide (p14 = q14)) && ((decide (p16 = q16)) && ((decide (p17 = q17)) && true))))))))))) = false from by
   cases hb : ((decide (p6 = q6)) && ((decide (p7 = q7)) && ((decide (p8 = q8)) && ((decide (p9 = q9)) && ((decide (p10 = q10)) && ((decide (p11 = q11)) && ((decide (p12 = q12)) && ((decide (p13 = q13)) && ((decide (p14 = q14)) && ((decide (p16 = q16)) && ((decide (p17 = q17)) && true)))))))))))
   ·rfl
   ·simp only [Bool.and_eq_true, decide_eq_true_eq, and_true] at hb
    exact absurd hb hn]
  simp only [cond_false, Option.bind_some]
  congr 1
  refine (decide_eq_false fun h => hn ?_).symm
  obtain ⟨_, _, _, _, _, e6, e7, e8, e9, e10, e11, e12, e13, e14, _, e16, e17⟩ := h
  exact ⟨e6, e7, e8, e9, e10, e11, e12, e13, e14, e16, e17⟩
theorem wf_i64' {x : Int} (h : (Lit.int .i64 x).wf = true) : -9223372036854775808 ≤ x ∧ x ≤ 9223372036854775807 := by
 simp [Lit.wf, IntKind.min, IntKind.max, IntKind.signed, IntKind.bits] at h; omega
theorem few_eq {a : St23} (h1 : a.Pre_.length ≤ 140737488355328) (h2 : a.Suf_.length ≤ 140737488355328) (h3 : a.NPre_.length ≤ 140737488355328) (h4 : a.NSuf_.length ≤ 140737488355328) :
  exergueref10_Few a = some (decide (a.Pre_.length + a.Suf_.length + a.NPre_.length + a.NSuf_.length ≤ 300)) := by
 unfold exergueref10_Few
 rw [w64 (n := (a.Pre_.length : Int) + (a.Suf_.length : Int)) (by omega) (by omega), w64 (n := (a.Pre_.length : Int) + (a.Suf_.length : Int) + (a.NPre_.length : Int)) (by omega) (by omega), w64 (by omega) (by omega)]
 congr 1
 rw [decide_eq_decide]
 omega
end Go.Proofs.Ytdflcknbelpflaa
