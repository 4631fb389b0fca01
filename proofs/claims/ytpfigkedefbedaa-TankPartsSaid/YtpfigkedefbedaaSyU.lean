/-
  The second shadow machine, part 21: loops over natives; what parameters are; small facts.
-/
import Derived.Test.YtpfigkedefbedaaSyT
import Derived.Test.YtpfigkedefbedaaSyS
namespace Go.Sy
open Go Go.RowKit
set_option linter.unusedVariables false
set_option linter.unusedSimpArgs false

/-! Loops. -/
section
variable {S O : Type} {step : S → Option (S ⊕ O)}

theorem loopN_next {n : Nat} {s s' : S} (h : step s = some (.inl s')) : loopN step (n + 1) s = loopN step n s' := by
  simp only [loopN, h]
theorem loopN_out {n : Nat} {s : S} {o : O} (h : step s = some (.inr o)) : loopN step (n + 1) s = some o := by
  simp only [loopN, h]

/-- A loop with an invariant and a measure comes to an end. -/
theorem loopN_run (I : S → Prop) (g : S → Nat) (post : O → Prop) (hs : ∀ s, I s → (∃ s', step s = some (.inl s') ∧ I s' ∧ g s' < g s) ∨ (∃ o, step s = some (.inr o) ∧ post o)) :
    ∀ (n : Nat) (s : S), I s → g s < n → ∃ o, loopN step n s = some o ∧ post o := by
  intro n
  induction n with
  | zero => intro s _ h; omega
  | succ n ih =>
    intro s hi hg
    rcases hs s hi with ⟨s', h1, h2, h3⟩ | ⟨o, h1, h2⟩
    · rw [loopN_next h1]
      exact ih s' h2 (by omega)
    · exact ⟨o, loopN_out h1, h2⟩
end

theorem big_pos {n : Nat} (h : n < 18446744073709551616) : n < big := h

theorem w64 {n : Int} (h1 : -9223372036854775808 ≤ n) (h2 : n ≤ 9223372036854775807) : IntKind.i64.wrap n = n := by
  unfold IntKind.wrap
  simp only [IntKind.signed, IntKind.bits, Bool.true_and, Bool.false_and, Bool.false_eq_true, if_false, decide_eq_true_eq]
  first | omega | (split <;> rename_i hc <;> simp at hc <;> omega)
theorem w32 {n : Int} (h1 : -2147483648 ≤ n) (h2 : n ≤ 2147483647) : IntKind.i32.wrap n = n := by
  unfold IntKind.wrap
  simp only [IntKind.signed, IntKind.bits, Bool.true_and, Bool.false_and, Bool.false_eq_true, if_false, decide_eq_true_eq]
  first | omega | (split <;> rename_i hc <;> simp at hc <;> omega)
theorem w8 {n : Int} (h1 : 0 ≤ n) (h2 : n ≤ 255) : IntKind.u8.wrap n = n := by
  unfold IntKind.wrap
  simp only [IntKind.signed, IntKind.bits, Bool.true_and, Bool.false_and, Bool.false_eq_true, if_false, decide_eq_true_eq]
  first | omega | (split <;> rename_i hc <;> simp at hc <;> omega)

theorem inR_nat {i n : Nat} (h : i < n) : inR (i : Int) n = true := inR_iff.2 ⟨by omega, by omega⟩
theorem inR_int {i : Int} {n : Nat} (h1 : 0 ≤ i) (h : i < n) : inR i n = true := inR_iff.2 ⟨h1, h⟩
theorem nth_nat {T : Type} [Inhabited T] {xs : List T} {i : Nat} (h : i < xs.length) : nth xs (i : Int) = xs[i] := by
  unfold nth
  rw [Int.toNat_natCast, List.getD_eq_getElem?_getD, List.getElem?_eq_getElem h]; rfl
theorem room_of {n : Nat} (h : n ≤ 4294967296) : room n = true := by simp [room, Nat.ble_eq, h]
theorem inS_of {l h : Int} {n : Nat} (h1 : 0 ≤ l) (h2 : l ≤ h) (h3 : h ≤ n) : inS l h n = true := inS_iff.2 ⟨h1, h2, h3⟩
theorem mk_of {l c : Int} (h1 : 0 ≤ l) (h2 : l ≤ c) (h3 : c ≤ 4294967296) : mk l c = true := mk_iff.2 ⟨h1, h2, h3⟩

theorem dT {p : Prop} [Decidable p] (h : p) : decide p = true := decide_eq_true h
theorem dF {p : Prop} [Decidable p] (h : ¬ p) : decide p = false := decide_eq_false h

theorem over_rep {xs : List Int} {z : Int} : over (rep (xs.length : Int) z) xs = xs := by
  unfold over rep
  simp

theorem take_step {T : Type} {xs ys : List T} {i : Nat} (h1 : i < xs.length) (h2 : i < ys.length) (ht : xs.take i = ys.take i) (he : xs[i] = ys[i]) : xs.take (i + 1) = ys.take (i + 1) := by
  rw [List.take_succ_eq_append_getElem h1, List.take_succ_eq_append_getElem h2, ht, he]
theorem take_end {T : Type} {xs ys : List T} {i : Nat} (h1 : xs.length ≤ i) (h2 : ys.length ≤ i) (ht : xs.take i = ys.take i) : xs = ys := by
  rwa [List.take_of_length_le h1, List.take_of_length_le h2] at ht

/-- Two lists are compared, element by element. -/
theorem same_loop {T : Type} [Inhabited T] [DecidableEq T] {xs ys : List T} (hl : xs.length = ys.length) (hb : xs.length ≤ 4611686018427387904) :
    loopN (fun s : Int => (bif (decide (s < (xs.length : Int))) then (bif inR s xs.length then (bif inR s ys.length then (bif (decide (¬ (nth xs s) = (nth ys s))) then (some (.inr (.inr false))) else (some (.inl (IntKind.wrap .i64 (s + 1))))) else none) else none) else (some (.inr (.inl ()))))) big 0 = some (if xs = ys then (.inl () : Unit ⊕ Bool) else .inr false) := by
  obtain ⟨o, h1, h2⟩ := loopN_run (step := fun s : Int => (bif (decide (s < (xs.length : Int))) then (bif inR s xs.length then (bif inR s ys.length then (bif (decide (¬ (nth xs s) = (nth ys s))) then (some (.inr (.inr false))) else (some (.inl (IntKind.wrap .i64 (s + 1))))) else none) else none) else (some (.inr (.inl ()))) : Option (Int ⊕ (Unit ⊕ Bool))))
    (fun s => ∃ i : Nat, s = i ∧ i ≤ xs.length ∧ xs.take i = ys.take i) (fun s => xs.length - s.toNat) (fun o => o = if xs = ys then .inl () else .inr false) (fun s hs => by
      obtain ⟨i, rfl, hi, ht⟩ := hs
      rcases Nat.lt_or_ge i xs.length with h | h
      · have hy : i < ys.length := by omega
        rw [dT (show (i : Int) < xs.length by omega), inR_nat h, inR_nat hy, nth_nat h, nth_nat hy, w64 (by omega) (by omega)]
        by_cases he : xs[i] = ys[i]
        · refine .inl ⟨(i : Int) + 1, ?_, ⟨i + 1, by omega, by omega, take_step h hy ht he⟩, by omega⟩
          rw [dF (by simpa using he)]; rfl
        · refine .inr ⟨.inr false, by rw [dT he]; rfl, ?_⟩
          rw [if_neg]
          rintro rfl
          exact he rfl
      · refine .inr ⟨.inl (), by rw [dF (by omega)]; rfl, ?_⟩
        rw [if_pos (take_end h (by omega) ht)]) big 0 ⟨0, rfl, by omega, by simp⟩ (big_pos (by omega))
  subst h2
  exact h1

/-! Parameters. -/
section
open Go.ChangeShapes Go.WideShapes Go.ChangeAt
variable {P : Program} {H : Type}

/-- A parameter that is a list, told by natives. -/
theorem shows_list {T : Type} {enc : T → List SV} {Wf : T → Prop} {n : Nat} {t e : TypeId} {d : DataW H} {s : SV} (hu : P.underlying t = some (.slice e)) {k : Nat} (hc : P.cellsOf e = k)
    (hel : ∀ (y : DataW H) (cs : List SV), Shows P n e y cs → ∃ x : T, cs = enc x ∧ Wf x) (h : Shows P (n + 1) t d [s]) :
    ∃ zs : List T, s = lsv enc k zs ∧ (∀ z ∈ zs, Wf z) ∧ ((d = .nil ∧ zs = []) ∨ ∃ elems rest, d = .slice elems rest ∧ elems.length = zs.length) := by
  unfold Shows at h
  rw [hu] at h
  simp only at h
  rcases h with ⟨rfl, h2⟩ | ⟨elems, rest, xs, rfl, h2, hl, hx, hall⟩
  · simp only [List.cons.injEq, and_true] at h2
    exact ⟨[], by rw [h2, hc]; rfl, fun z hz => (by cases hz), .inl ⟨rfl, rfl⟩⟩
  · simp only [List.cons.injEq, and_true] at h2
    rw [hc] at h2
    have key : ∀ (xs : List (List SV)) (elems : List (DataW H)), xs.length = elems.length → (∀ (i : Nat) y x, elems[i]? = some y → xs[i]? = some x → Shows P n e y x) → ∃ zs : List T, xs.flatten = zs.flatMap enc ∧ (∀ z ∈ zs, Wf z) ∧ elems.length = zs.length := by
      intro xs
      induction xs with
      | nil => intro elems hl _; exact ⟨[], rfl, fun z hz => (by cases hz), by simpa using hl.symm⟩
      | cons x xs ih =>
        intro elems hl h
        cases elems with
        | nil => simp at hl
        | cons y elems =>
          obtain ⟨zs, e1, e2, e3⟩ := ih elems (by simpa using hl) (fun i y x hy hx => h (i + 1) y x (by simpa using hy) (by simpa using hx))
          obtain ⟨z, rfl, hw⟩ := hel y x (h 0 y x rfl rfl)
          refine ⟨z :: zs, by simp [e1], fun z' hz' => ?_, by simp [e3]⟩
          rcases List.mem_cons.1 hz' with rfl | hm
          · exact hw
          · exact e2 _ hm
    obtain ⟨zs, e1, e2, e3⟩ := key xs elems hl hall
    exact ⟨zs, by rw [h2, e1]; unfold lsv; rw [hl, e3], e2, .inr ⟨elems, rest, rfl, e3⟩⟩

theorem shows_el_int {n : Nat} {t : TypeId} {k : IntKind} {d : DataW H} {cs : List SV} (hu : P.underlying t = some (.int k)) (h : Shows P (n + 1) t d cs) : ∃ z : Int, cs = encI k z ∧ (Lit.int k z).wf = true := by
  unfold Shows at h
  rw [hu] at h
  obtain ⟨z, _, h2, hw⟩ := h
  exact ⟨z, h2, hw⟩
theorem shows_el_bool {n : Nat} {t : TypeId} {d : DataW H} {cs : List SV} (hu : P.underlying t = some .bool) (h : Shows P (n + 1) t d cs) : ∃ z : Bool, cs = encB z ∧ True := by
  unfold Shows at h
  rw [hu] at h
  obtain ⟨z, _, h2⟩ := h
  exact ⟨z, h2, trivial⟩
theorem shows_el_str {n : Nat} {t : TypeId} {d : DataW H} {cs : List SV} (hu : P.underlying t = some .string) (h : Shows P (n + 1) t d cs) : ∃ z : List UInt8, cs = encT z ∧ True := by
  unfold Shows at h
  rw [hu] at h
  obtain ⟨z, h1, h2⟩ := h
  exact ⟨z, h2, trivial⟩
theorem shows_el_list {T : Type} {enc : T → List SV} {Wf : T → Prop} {n : Nat} {t e : TypeId} {d : DataW H} {cs : List SV} (hu : P.underlying t = some (.slice e)) {k : Nat} (hc : P.cellsOf e = k)
    (hel : ∀ (y : DataW H) (cs : List SV), Shows P n e y cs → ∃ x : T, cs = enc x ∧ Wf x) (h : Shows P (n + 1) t d cs) : ∃ zs : List T, cs = encL enc k zs ∧ (∀ z ∈ zs, Wf z) := by
  have h1 : ∃ s, cs = [s] := by
    unfold Shows at h
    rw [hu] at h
    rcases h with ⟨_, rfl⟩ | ⟨_, _, _, _, rfl, _⟩ <;> exact ⟨_, rfl⟩
  obtain ⟨s, rfl⟩ := h1
  obtain ⟨zs, rfl, hw, _⟩ := shows_list hu hc hel h
  exact ⟨zs, rfl, hw⟩

theorem showsV_scalar {n : Nat} {t : TypeId} {d : DataW H} {s : SV} {u} (hu : P.underlying t = some u) (h1 : ∀ f, u ≠ .struct f) (h2 : ∀ m e, u ≠ .array m e) (h : ShowsV P n t d s) : Shows P n t d [s] := by
  unfold ShowsV at h
  rw [hu] at h
  cases u <;> first | exact absurd rfl (h1 _) | exact absurd rfl (h2 _ _) | exact h
theorem showsV_int {n : Nat} {t : TypeId} {k : IntKind} {d : DataW H} {s : SV} (hu : P.underlying t = some (.int k)) (h : ShowsV P (n + 1) t d s) : ∃ z : Int, s = .int k z ∧ (Lit.int k z).wf = true := by
  obtain ⟨z, h1, h2⟩ := shows_el_int hu (showsV_scalar hu (fun _ => by simp) (fun _ _ => by simp) h)
  exact ⟨z, by simpa [encI] using h1, h2⟩
theorem showsV_bool {n : Nat} {t : TypeId} {d : DataW H} {s : SV} (hu : P.underlying t = some .bool) (h : ShowsV P (n + 1) t d s) : ∃ z : Bool, s = .bool z := by
  obtain ⟨z, h1, h2⟩ := shows_el_bool hu (showsV_scalar hu (fun _ => by simp) (fun _ _ => by simp) h)
  exact ⟨z, by simpa [encB] using h1⟩
theorem showsV_str {n : Nat} {t : TypeId} {d : DataW H} {s : SV} (hu : P.underlying t = some .string) (h : ShowsV P (n + 1) t d s) : ∃ z : List UInt8, s = .str z ∧ d = .lit (.string z) := by
  have h' := showsV_scalar hu (fun _ => by simp) (fun _ _ => by simp) h
  unfold Shows at h'
  rw [hu] at h'
  obtain ⟨z, h1, h2⟩ := h'
  exact ⟨z, by simpa using h2, h1⟩
theorem showsV_list {T : Type} {enc : T → List SV} {Wf : T → Prop} {n : Nat} {t e : TypeId} {d : DataW H} {s : SV} (hu : P.underlying t = some (.slice e)) {k : Nat} (hc : P.cellsOf e = k)
    (hel : ∀ (y : DataW H) (cs : List SV), Shows P n e y cs → ∃ x : T, cs = enc x ∧ Wf x) (h : ShowsV P (n + 1) t d s) :
    ∃ zs : List T, s = lsv enc k zs ∧ (∀ z ∈ zs, Wf z) ∧ ((d = .nil ∧ zs = []) ∨ ∃ elems rest, d = .slice elems rest ∧ elems.length = zs.length) :=
  shows_list hu hc hel (showsV_scalar hu (fun _ => by simp) (fun _ _ => by simp) h)
theorem showsV_struct {n : Nat} {t : TypeId} {fs : Array Field} {d : DataW H} {s : SV} (hu : P.underlying t = some (.struct fs)) (h : ShowsV P n t d s) : ∃ cs, s = .agg cs ∧ Shows P n t d cs := by
  unfold ShowsV at h
  rw [hu] at h
  exact h
/-- A field of a struct. -/
theorem shows_field {n : Nat} {t : TypeId} {fs : Array Field} {d : DataW H} {cs : List SV} (hu : P.underlying t = some (.struct fs)) (h : Shows P (n + 1) t d cs) (i : Nat) (ty : TypeId) (cs' : List SV)
    (hf : (fs[i]?).map (fun f => (f.type, (cs.drop f.offset).take (P.cellsOf f.type))) = some (ty, cs')) : ∃ p : DataW H, Shows P n ty p cs' := by
  unfold Shows at h
  rw [hu] at h
  obtain ⟨_, parts, _, hl, hall⟩ := h
  cases hfi : fs[i]? with
  | none => rw [hfi] at hf; cases hf
  | some f =>
    rw [hfi] at hf
    simp only [Option.map_some, Option.some.injEq, Prod.mk.injEq] at hf
    obtain ⟨rfl, rfl⟩ := hf
    have hi := (Array.getElem?_eq_some_iff.1 hfi).1
    have hi' : i < parts.length := by omega
    exact ⟨parts[i], hall i f _ hfi (List.getElem?_eq_getElem hi')⟩
theorem shows_len {n : Nat} {t : TypeId} {fs : Array Field} {d : DataW H} {cs : List SV} (hu : P.underlying t = some (.struct fs)) (h : Shows P (n + 1) t d cs) : cs.length = P.cellsOf t := by
  unfold Shows at h
  rw [hu] at h
  exact h.1
end

theorem l1 {α : Type} {l : List α} (h : l.length = 1) : ∃ a, l = [a] := by
  match l, h with
  | [a], _ => exact ⟨a, rfl⟩
theorem l2 {α : Type} {l : List α} (h : l.length = 2) : ∃ a b, l = [a, b] := by
  match l, h with
  | [a, b], _ => exact ⟨a, b, rfl⟩
theorem l3 {α : Type} {l : List α} (h : l.length = 3) : ∃ a b c, l = [a, b, c] := by
  match l, h with
  | [a, b, c], _ => exact ⟨a, b, c, rfl⟩
theorem l4 {α : Type} {l : List α} (h : l.length = 4) : ∃ a b c d, l = [a, b, c, d] := by
  match l, h with
  | [a, b, c, d], _ => exact ⟨a, b, c, d, rfl⟩
theorem l5 {α : Type} {l : List α} (h : l.length = 5) : ∃ a b c d e, l = [a, b, c, d, e] := by
  match l, h with
  | [a, b, c, d, e], _ => exact ⟨a, b, c, d, e, rfl⟩
end Go.Sy
