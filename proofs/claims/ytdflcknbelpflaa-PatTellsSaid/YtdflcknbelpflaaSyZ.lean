/-
 Loops over natives that go through a row, and what common loops come to.
-/
import Derived.Test.YtdflcknbelpflaaSyU
import Derived.Test.YtdflcknbelpflaaSyV
namespace Go.Sy
open Go Go.RowKit
set_option linter.unusedVariables false
set_option linter.unusedSimpArgs false
set_option linter.unusedSectionVars false
variable [Inhabited GT]
section
variable {T S O : Type} {step : S → Option (S ⊕ O)}
theorem loop_count (n : Nat) (st : Nat → S) (I : Nat → Prop) (post : O → Prop) {s0 : S} (h0 : s0 = st 0) (hI : I 0)
  (hs : ∀ i, i < n → I i → (step (st i) = some (.inl (st (i + 1))) ∧ I (i + 1)) ∨ ∃ o, step (st i) = some (.inr o) ∧ post o)
  (he : I n → ∃ o, step (st n) = some (.inr o) ∧ post o) (hl : n < 18446744073709551616) :
  ∃ o, loopN step big s0 = some o ∧ post o := by
 have key : ∀ (k i m : Nat), i + k = n → I i → k < m → ∃ o, loopN step m (st i) = some o ∧ post o := by
  intro k
  induction k with
  | zero =>
   intro i m hx hi hn
   obtain ⟨m, rfl⟩ : ∃ q, m = q + 1 := ⟨m - 1, by omega⟩
   obtain rfl : i = n := by omega
   obtain ⟨o, h1, h2⟩ := he hi
   exact ⟨o, loopN_out h1, h2⟩
  | succ k ih =>
   intro i m hx hi hn
   obtain ⟨m, rfl⟩ : ∃ q, m = q + 1 := ⟨m - 1, by omega⟩
   rcases hs i (by omega) hi with ⟨h1, h2⟩ | ⟨o, h1, h2⟩
   ·rw [loopN_next h1]
    exact ih (i + 1) m (by omega) h2 (by omega)
   ·exact ⟨o, loopN_out h1, h2⟩
 subst h0
 exact key n 0 big (by omega) hI hl
end
section
variable {T : Type} [Inhabited T]
theorem lt_end {T : Type} {xs : List T} : decide ((xs.length : Int) < (xs.length : Int)) = false := dF (by omega)
end
/-! Bytes as numbers. -/
end Go.Sy
