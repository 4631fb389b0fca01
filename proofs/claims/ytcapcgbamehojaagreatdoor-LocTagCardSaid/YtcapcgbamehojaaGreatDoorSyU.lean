/-
 The second shadow machine, part 21: loops over natives; what parameters are; small facts.
-/
import Derived.Test.YtcapcgbamehojaaGreatDoorSyT
import Derived.Test.YtcapcgbamehojaaGreatDoorSyS
namespace Go.Sy
open Go Go.RowKit
set_option linter.unusedVariables false
set_option linter.unusedSimpArgs false
set_option linter.unusedSectionVars false
variable [Inhabited GT]
/-! Loops. -/
section
variable {S O : Type} {step : S → Option (S ⊕ O)}
theorem loopN_next {n : Nat} {s s' : S} (h : step s = some (.inl s')) : loopN step (n + 1) s = loopN step n s' := by
 simp only [loopN, h]
theorem loopN_out {n : Nat} {s : S} {o : O} (h : step s = some (.inr o)) : loopN step (n + 1) s = some o := by
 simp only [loopN, h]
end
theorem w64 {n : Int} (h1 : -9223372036854775808 ≤ n) (h2 : n ≤ 9223372036854775807) : IntKind.i64.wrap n = n := by
 unfold IntKind.wrap
 simp only [IntKind.signed, IntKind.bits, Bool.true_and, Bool.false_and, Bool.false_eq_true, if_false, decide_eq_true_eq]
 first | omega | (split <;> rename_i hc <;> simp at hc <;> omega)
theorem inR_nat {i n : Nat} (h : i < n) : inR (i : Int) n = true := inR_iff.2 ⟨by omega, by omega⟩
theorem nth_nat {T : Type} [Inhabited T] {xs : List T} {i : Nat} (h : i < xs.length) : nth xs (i : Int) = xs[i] := by
 unfold nth
 rw [Int.toNat_natCast, List.getD_eq_getElem?_getD, List.getElem?_eq_getElem h]; rfl
theorem room_of {n : Nat} (h : n ≤ 4294967296) : room n = true := by simp [room, Nat.ble_eq, h]
theorem dT {p : Prop} [Decidable p] (h : p) : decide p = true := decide_eq_true h
theorem dF {p : Prop} [Decidable p] (h : ¬ p) : decide p = false := decide_eq_false h
/-! Parameters. -/
section
open Go.ChangeShapes Go.WideShapes Go.ChangeAt
variable {P : Program} {H : Type}
def Sized (P : Program) {H : Type} (t : TypeId) (d : DataW H) : Prop := ∀ n ∈ d.weights P t, n ≤ reachBytes
theorem sized_param {ts : List TypeId} {ds : List (DataW H)} (h : (DataW.weightsEach P ts ds).all (· ≤ reachBytes) = true) {j : Nat} {t : TypeId} {d : DataW H} (ht : ts[j]? = some t) (hd : ds[j]? = some d) : Sized P t d :=
 fun n hn => by
  have := List.all_eq_true.1 h _ (DataW.weights_mem_each ht hd n hn)
  simpa using this
def Tells (P : Program) (n : Nat) (t : TypeId) {T : Type} (enc : T → List SV) (Wf : T → Prop) : Prop := ∀ {H : Type} (d : DataW H) (cs : List SV), Shows P n t d cs → Sized P t d → ∃ x : T, cs = enc x ∧ Wf x
def WfI (k : IntKind) (z : Int) : Prop := (Lit.int k z).wf = true
def WfT (s : List UInt8) : Prop := s.length ≤ 140737488355328
theorem tells_int {n : Nat} {t : TypeId} {k : IntKind} (hu : P.underlying t = some (.int k)) : Tells P (n + 1) t (encI k) (WfI k) := fun d cs h _ => by
 unfold Shows at h
 rw [hu] at h
 obtain ⟨z, _, h2, hw⟩ := h
 exact ⟨z, h2, hw⟩
theorem tells_str {n : Nat} {t : TypeId} (hu : P.underlying t = some .string) : Tells P (n + 1) t encT WfT := fun d cs h hs => by
 unfold Shows at h
 rw [hu] at h
 obtain ⟨z, h1, h2⟩ := h
 subst h1
 refine ⟨z, h2, ?_⟩
 have h3 := hs z.length (by simp [DataW.weights])
 have h4 := reachBytes_lt
 unfold WfT
 omega
theorem showsV_scalar {n : Nat} {t : TypeId} {d : DataW H} {s : SV} {u} (hu : P.underlying t = some u) (h1 : ∀ f, u ≠ .struct f) (h2 : ∀ m e, u ≠ .array m e) (h : ShowsV P n t d s) : Shows P n t d [s] := by
 unfold ShowsV at h
 rw [hu] at h
 cases u <;> first | exact absurd rfl (h1 _) | exact absurd rfl (h2 _ _) | exact h
end
theorem l1 {α : Type} {l : List α} (h : l.length = 1) : ∃ a, l = [a] := by
 match l, h with
 | [a], _ => exact ⟨a, rfl⟩
theorem l2 {α : Type} {l : List α} (h : l.length = 2) : ∃ a b, l = [a, b] := by
 match l, h with
 | [a, b], _ => exact ⟨a, b, rfl⟩
theorem l3 {α : Type} {l : List α} (h : l.length = 3) : ∃ a b c, l = [a, b, c] := by
 match l, h with
 | [a, b, c], _ => exact ⟨a, b, c, rfl⟩
end Go.Sy
