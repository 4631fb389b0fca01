/-
 The second shadow machine, part 21: loops over natives; what parameters are; small facts.
-/
import Derived.Test.YtcapcgbamehojaaGreatDoorSyT
import Derived.Test.YtcapcgbamehojaaGreatDoorSyS
namespace Go.Sy
open Go Go.RowKit
set_option linter.unusedVariables false
set_option linter.unusedSimpArgs false
set_option linter.unusedSectionVars false
variable [Inhabited GT]
/-! Loops. -/
section
variable {S O : Type} {step : S → Option (S ⊕ O)}
theorem d0v {n : Nat} {s s' : S} (h : step s = some (.inl s')) : a0q step (n + 1) s = a0q step n s' := by
 simp only [a0q, h]
theorem e0P {n : Nat} {s : S} {o : O} (h : step s = some (.inr o)) : a0q step (n + 1) s = some o := by
 simp only [a0q, h]
theorem u0z (I : S → Prop) (g : S → Nat) (post : O → Prop) (hs : ∀ s, I s → (∃ s', step s = some (.inl s') ∧ I s' ∧ g s' < g s) ∨ (∃ o, step s = some (.inr o) ∧ post o)) :
  ∀ (n : Nat) (s : S), I s → g s < n → ∃ o, a0q step n s = some o ∧ post o := by
 intro n
 induction n with
 | zero => intro s _ h; omega
 | succ n ih =>
  intro s hi hg
  rcases hs s hi with ⟨s', h1, h2, h3⟩ | ⟨o, h1, h2⟩
  ·rw [d0v h1]
   exact ih s' h2 (by omega)
  ·exact ⟨o, e0P h1, h2⟩
end
theorem y0t {n : Nat} (h : n < 18446744073709551616) : n < big := h
theorem w64 {n : Int} (h1 : -9223372036854775808 ≤ n) (h2 : n ≤ 9223372036854775807) : IntKind.i64.wrap n = n := by
 unfold IntKind.wrap
 simp only [IntKind.signed, IntKind.bits, bJ, Bool.false_and, aC, if_false, decide_eq_true_eq]
 first | omega | (split <;> rename_i hc <;> simp at hc <;> omega)
theorem w32 {n : Int} (h1 : -2147483648 ≤ n) (h2 : n ≤ 2147483647) : IntKind.i32.wrap n = n := by
 unfold IntKind.wrap
 simp only [IntKind.signed, IntKind.bits, bJ, Bool.false_and, aC, if_false, decide_eq_true_eq]
 first | omega | (split <;> rename_i hc <;> simp at hc <;> omega)
theorem g0v {i n : Nat} (h : i < n) : inR (i : Int) n = true := e0T.2 ⟨by omega, by omega⟩
theorem a0Z {i : Int} {n : Nat} (h1 : 0 ≤ i) (h : i < n) : inR i n = true := e0T.2 ⟨h1, h⟩
theorem d0J {T : Type} [Inhabited T] {xs : List T} {i : Nat} (h : i < xs.length) : nth xs (i : Int) = xs[i] := by
 unfold nth
 rw [Int.toNat_natCast, av, ac h]; rfl
theorem a0v {n : Nat} (h : n ≤ 4294967296) : room n = true := by simp [room, Nat.ble_eq, h]
theorem l0T {l h : Int} {n : Nat} (h1 : 0 ≤ l) (h2 : l ≤ h) (h3 : h ≤ n) : inS l h n = true := n0j.2 ⟨h1, h2, h3⟩
theorem dT {p : Prop} [Decidable p] (h : p) : decide p = true := decide_eq_true h
theorem dF {p : Prop} [Decidable p] (h : ¬ p) : decide p = false := decide_eq_false h
/-! Parameters. -/
section
open Go.ChangeShapes Go.WideShapes Go.ChangeAt
variable {P : Program} {H : Type}
def t0r (P : Program) {H : Type} (t : TypeId) (d : DataW H) : Prop := ∀ n ∈ d.weights P t, n ≤ reachBytes
theorem k0k {ts : List TypeId} {ds : List (DataW H)} (h : (DataW.weightsEach P ts ds).all (· ≤ reachBytes) = true) {j : Nat} {t : TypeId} {d : DataW H} (ht : ts[j]? = some t) (hd : ds[j]? = some d) : t0r P t d :=
 fun n hn => by
  have := List.all_eq_true.1 h _ (DataW.weights_mem_each ht hd n hn)
  simpa using this
theorem s0G {t : TypeId} {fs : Array Field} {parts : List (DataW H)} (hu : P.underlying t = some (.struct fs)) (h : t0r P t (.agg parts)) {i : Nat} {f : Field} {p : DataW H} (hf : fs[i]? = some f) (hp : parts[i]? = some p) : t0r P f.type p := fun n hn => by
 refine h n ?_
 simp only [DataW.weights, hu]
 exact DataW.weights_mem_each (j := i) (by simp [hf]) hp n hn
def v0F (P : Program) (n : Nat) (t : TypeId) {T : Type} (enc : T → List SV) (Wf : T → Prop) : Prop := ∀ {H : Type} (d : DataW H) (cs : List SV), e0a P n t d cs → t0r P t d → ∃ x : T, cs = enc x ∧ Wf x
def WfI (k : IntKind) (z : Int) : Prop := (Lit.int k z).wf = true
def WfT (s : List UInt8) : Prop := s.length ≤ 140737488355328
theorem f0z {n : Nat} {t : TypeId} {k : IntKind} (hu : P.underlying t = some (.int k)) : v0F P (n + 1) t (a0r k) (WfI k) := fun d cs h _ => by
 unfold e0a at h
 rw [hu] at h
 obtain ⟨z, _, h2, hw⟩ := h
 exact ⟨z, h2, hw⟩
theorem t0B {n : Nat} {t : TypeId} (hu : P.underlying t = some .string) : v0F P (n + 1) t z0H WfT := fun d cs h hs => by
 unfold e0a at h
 rw [hu] at h
 obtain ⟨z, h1, h2⟩ := h
 subst h1
 refine ⟨z, h2, ?_⟩
 have h3 := hs z.length (by simp [DataW.weights])
 have h4 := reachBytes_lt
 unfold WfT
 omega
theorem k0G {n : Nat} {t : TypeId} {d : DataW H} {s : SV} {u} (hu : P.underlying t = some u) (h1 : ∀ f, u ≠ .struct f) (h2 : ∀ m e, u ≠ .array m e) (h : g0B P n t d s) : e0a P n t d [s] := by
 unfold g0B at h
 rw [hu] at h
 cases u <;> first | exact absurd rfl (h1 _) | exact absurd rfl (h2 _ _) | exact h
theorem o0t {n : Nat} {t : TypeId} {fs : Array Field} {d : DataW H} {s : SV} (hu : P.underlying t = some (.struct fs)) (h : g0B P n t d s) : ∃ cs, s = .agg cs ∧ e0a P n t d cs := by
 unfold g0B at h
 rw [hu] at h
 exact h
theorem e0p {n : Nat} {t : TypeId} {fs : Array Field} {d : DataW H} {cs : List SV} (hu : P.underlying t = some (.struct fs)) (h : e0a P (n + 1) t d cs) (hs : t0r P t d) (i : Nat) (ty : TypeId) (cs' : List SV)
  (hf : (fs[i]?).map (fun f => (f.type, (cs.drop f.offset).take (P.cellsOf f.type))) = some (ty, cs')) : ∃ p : DataW H, e0a P n ty p cs' ∧ t0r P ty p := by
 unfold e0a at h
 rw [hu] at h
 obtain ⟨_, parts, rfl, hl, hall⟩ := h
 cases hfi : fs[i]? with
 | none => rw [hfi] at hf; cases hf
 | some f =>
  rw [hfi] at hf
  simp only [aG, al, aX] at hf
  obtain ⟨rfl, rfl⟩ := hf
  have hi := (aj.1 hfi).1
  have hi' : i < parts.length := by omega
  exact ⟨parts[i], hall i f _ hfi (ac hi'), s0G hu hs hfi (ac hi')⟩
theorem t0O {n : Nat} {t : TypeId} {fs : Array Field} {d : DataW H} {cs : List SV} (hu : P.underlying t = some (.struct fs)) (h : e0a P (n + 1) t d cs) : cs.length = P.cellsOf t := by
 unfold e0a at h
 rw [hu] at h
 exact h.1
end
theorem l1 {α : Type} {l : List α} (h : l.length = 1) : ∃ a, l = [a] := by
 match l, h with
 | [a], _ => exact ⟨a, rfl⟩
theorem l2 {α : Type} {l : List α} (h : l.length = 2) : ∃ a b, l = [a, b] := by
 match l, h with
 | [a, b], _ => exact ⟨a, b, rfl⟩
theorem l3 {α : Type} {l : List α} (h : l.length = 3) : ∃ a b c, l = [a, b, c] := by
 match l, h with
 | [a, b, c], _ => exact ⟨a, b, c, rfl⟩
theorem l4 {α : Type} {l : List α} (h : l.length = 4) : ∃ a b c d, l = [a, b, c, d] := by
 match l, h with
 | [a, b, c, d], _ => exact ⟨a, b, c, d, rfl⟩
theorem l5 {α : Type} {l : List α} (h : l.length = 5) : ∃ a b c d e, l = [a, b, c, d, e] := by
 match l, h with
 | [a, b, c, d, e], _ => exact ⟨a, b, c, d, e, rfl⟩
end Go.Sy
