/-
 A field of an element of a list, at a running place, is written.
-/
import Derived.Test.YteaokhdkocddcaaDoorSyKK
namespace Go.Sy
open Go Go.RowKit
set_option linter.unusedVariables false
set_option linter.unusedSectionVars false
variable [Inhabited GT]
theorem splice_in {bg ps : List SV} {o c k : Nat} (h1 : c + ps.length ≤ k) (h2 : o + k ≤ bg.length) : splice bg o (splice ((bg.drop o).take k) c ps) = splice bg (o + c) ps := by
 have hl : (splice ((bg.drop o).take k) c ps).length = k := by
  unfold splice
  simp only [List.length_append, List.length_take, List.length_drop]
  omega
 unfold splice at hl ⊢
 rw [hl, List.take_take, show min c k = c by omega, List.take_add, List.append_assoc, List.append_assoc, List.append_assoc]
 congr 1
 congr 1
 congr 1
 have e1 : bg.drop (o + c + ps.length) = (bg.drop o).drop (c + ps.length) := by rw [List.drop_drop]; congr 1; omega
 have e2 : bg.drop (o + k) = (bg.drop o).drop k := by rw [List.drop_drop]
 rw [e1, e2]
 have e3 : (bg.drop o) = (bg.drop o).take k ++ (bg.drop o).drop k := (List.take_append_drop _ _).symm
 conv => rhs; rw [e3]
 rw [List.drop_append_of_le_length (by rw [List.length_take, List.length_drop]; omega)]
section
variable {T : Type} [Inhabited T] {enc : T → List SV} {k : Nat}
theorem splice_fld (hk : ∀ x, (enc x).length = k) {xs : List T} {j : Int} {c : Nat} {ps : List SV} {g : T → T} (hs : ∀ x, splice (enc x) c ps = enc (g x)) (hc : Nat.ble (c + ps.length) k = true) (h : inR j xs.length = true) :
  splice (xs.flatMap enc) (j.toNat * k + c) ps = (setAt xs j (g (nth xs j))).flatMap enc := by
 have hj := inR_iff.1 h
 have hl : j.toNat < xs.length := by omega
 have hb : j.toNat * k + k ≤ (xs.flatMap enc).length := by
  rw [flat_len hk, show j.toNat * k + k = (j.toNat + 1) * k from (Nat.succ_mul _ _).symm]
  exact Nat.mul_le_mul_right _ hl
 rw [← splice_at hk h, ← hs, ← flat_at hk h]
 exact (splice_in (Nat.le_of_ble_eq_true hc) hb).symm
theorem N.storeF (hk : ∀ x, (enc x).length = k) {v : SV} {rd : List Nat} {i e : Nat} {xs : List T} {j : Int} {c : Nat} {ps : List SV} {g : T → T} (hs : ∀ x, splice (enc x) c ps = enc (g x)) (hc : Nat.ble (c + ps.length) k = true) (h : inR j xs.length = true) :
  (⟨v, rd, [(i, .vec xs.length k e (splice (xs.flatMap enc) (j.toNat * k + c) ps))]⟩ : Eff) = ⟨v, rd, [(i, vecL enc k e (setAt xs j (g (nth xs j))))]⟩ := by
 rw [splice_fld hk hs hc h]
 unfold vecL setAt
 rw [List.length_set]
theorem storeF_ok (hk : ∀ x, (enc x).length = k) {xs : List T} {j : Int} {c : Nat} {ps : List SV} (hc : Nat.ble (c + ps.length) k = true) (h : inR j xs.length = true) : Nat.ble (j.toNat * k + c + ps.length) (xs.flatMap enc).length = true := by
 have hj := inR_iff.1 h
 have hl : j.toNat < xs.length := by omega
 have hb : j.toNat * k + k ≤ (xs.flatMap enc).length := by
  rw [flat_len hk, show j.toNat * k + k = (j.toNat + 1) * k from (Nat.succ_mul _ _).symm]
  exact Nat.mul_le_mul_right _ hl
 rw [Nat.ble_eq]
 have := Nat.le_of_ble_eq_true hc
 omega
end
end Go.Sy
