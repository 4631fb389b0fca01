/-
 The second shadow machine, part 21: loops over natives; what parameters are; small facts.
-/
import Derived.Test.YtcapcgbamehojaaGreatDoorSyT
import Derived.Test.YtcapcgbamehojaaGreatDoorSyS
namespace Go.Sy
open Go Go.RowKit
set_option linter.unusedVariables false
set_option linter.unusedSimpArgs false
set_option linter.unusedSectionVars false
variable [Inhabited GT]
/-! Loops. -/
section
variable {S O : Type} {step : S → Option (S ⊕ O)}
theorem loopN_next {n : Nat} {s s' : S} (h : step s = some (.inl s')) : loopN step (n + 1) s = loopN step n s' := by
 simp only [loopN, h]
theorem loopN_out {n : Nat} {s : S} {o : O} (h : step s = some (.inr o)) : loopN step (n + 1) s = some o := by
 simp only [loopN, h]
theorem loopN_run (I : S → Prop) (g : S → Nat) (post : O → Prop) (hs : ∀ s, I s → (∃ s', step s = some (.inl s') ∧ I s' ∧ g s' < g s) ∨ (∃ o, step s = some (.inr o) ∧ post o)) :
  ∀ (n : Nat) (s : S), I s → g s < n → ∃ o, loopN step n s = some o ∧ post o := by
 intro n
 induction n with
 | zero => intro s _ h; omega
 | succ n ih =>
  intro s hi hg
  rcases hs s hi with ⟨s', h1, h2, h3⟩ | ⟨o, h1, h2⟩
  ·rw [loopN_next h1]
   exact ih s' h2 (by omega)
  ·exact ⟨o, loopN_out h1, h2⟩
end
theorem big_pos {n : Nat} (h : n < 18446744073709551616) : n < big := h
theorem w64 {n : Int} (h1 : -9223372036854775808 ≤ n) (h2 : n ≤ 9223372036854775807) : IntKind.i64.wrap n = n := by
 unfold IntKind.wrap
 simp only [IntKind.signed, IntKind.bits, Bool.true_and, Bool.false_and, Bool.false_eq_true, if_false, decide_eq_true_eq]
 first | omega | (split <;> rename_i hc <;> simp at hc <;> omega)
theorem w8 {n : Int} (h1 : 0 ≤ n) (h2 : n ≤ 255) : IntKind.u8.wrap n = n := by
 unfold IntKind.wrap
 simp only [IntKind.signed, IntKind.bits, Bool.true_and, Bool.false_and, Bool.false_eq_true, if_false, decide_eq_true_eq]
 first | omega | (split <;> rename_i hc <;> simp at hc <;> omega)
theorem inR_nat {i n : Nat} (h : i < n) : inR (i : Int) n = true := inR_iff.2 ⟨by omega, by omega⟩
theorem inR_int {i : Int} {n : Nat} (h1 : 0 ≤ i) (h : i < n) : inR i n = true := inR_iff.2 ⟨h1, h⟩
theorem nth_nat {T : Type} [Inhabited T] {xs : List T} {i : Nat} (h : i < xs.length) : nth xs (i : Int) = xs[i] := by
 unfold nth
 rw [Int.toNat_natCast, List.getD_eq_getElem?_getD, List.getElem?_eq_getElem h]; rfl
theorem roomB_of {n : Nat} (h : n ≤ 140737488400000) : roomB n = true := by simp [roomB, Nat.ble_eq, h]
theorem room_of {n : Nat} (h : n ≤ 4294967296) : room n = true := by simp [room, Nat.ble_eq, h]
theorem inS_of {l h : Int} {n : Nat} (h1 : 0 ≤ l) (h2 : l ≤ h) (h3 : h ≤ n) : inS l h n = true := inS_iff.2 ⟨h1, h2, h3⟩
theorem dT {p : Prop} [Decidable p] (h : p) : decide p = true := decide_eq_true h
theorem dF {p : Prop} [Decidable p] (h : ¬ p) : decide p = false := decide_eq_false h
/-! Parameters. -/
section
open Go.ChangeShapes Go.WideShapes Go.ChangeAt
variable {P : Program} {H : Type}
def Sized (P : Program) {H : Type} (t : TypeId) (d : DataW H) : Prop := ∀ n ∈ d.weights P t, n ≤ reachBytes
theorem sized_param {ts : List TypeId} {ds : List (DataW H)} (h : (DataW.weightsEach P ts ds).all (· ≤ reachBytes) = true) {j : Nat} {t : TypeId} {d : DataW H} (ht : ts[j]? = some t) (hd : ds[j]? = some d) : Sized P t d :=
 fun n hn => by
  have := List.all_eq_true.1 h _ (DataW.weights_mem_each ht hd n hn)
  simpa using this
theorem weightsAll_mem {e : TypeId} {n : Nat} : ∀ (l : List (DataW H)) (y : DataW H), y ∈ l → n ∈ y.weights P e → n ∈ DataW.weightsAll P e l
 | [], y, h, _ => by cases h
 | x :: l, y, h, hn => by
  simp only [DataW.weightsAll, List.mem_append]
  rcases List.mem_cons.1 h with rfl | h
  ·exact .inl hn
  ·exact .inr (weightsAll_mem l y h hn)
theorem sized_el {t e : TypeId} {elems rest : List (DataW H)} (hu : P.underlying t = some (.slice e)) (h : Sized P t (.slice elems rest)) {y : DataW H} (hy : y ∈ elems) : Sized P e y := fun n hn => by
 refine h n ?_
 simp only [DataW.weights, hu, List.mem_cons, List.mem_append]
 exact .inr (.inl (weightsAll_mem elems y hy hn))
theorem sized_len {t e : TypeId} {elems rest : List (DataW H)} (hu : P.underlying t = some (.slice e)) (hb : 0 < P.bytesOf e) (h : Sized P t (.slice elems rest)) : elems.length ≤ 140737488355328 := by
 have h1 := h ((elems.length + rest.length) * P.bytesOf e) (by simp [DataW.weights, hu])
 have h2 := reachBytes_lt
 have h3 : elems.length ≤ (elems.length + rest.length) * P.bytesOf e := Nat.le_trans (Nat.le_add_right _ _) (Nat.le_mul_of_pos_right _ hb)
 omega
theorem sized_part {t : TypeId} {fs : Array Field} {parts : List (DataW H)} (hu : P.underlying t = some (.struct fs)) (h : Sized P t (.agg parts)) {i : Nat} {f : Field} {p : DataW H} (hf : fs[i]? = some f) (hp : parts[i]? = some p) : Sized P f.type p := fun n hn => by
 refine h n ?_
 simp only [DataW.weights, hu]
 exact DataW.weights_mem_each (j := i) (by simp [hf]) hp n hn
def Tells (P : Program) (n : Nat) (t : TypeId) {T : Type} (enc : T → List SV) (Wf : T → Prop) : Prop := ∀ {H : Type} (d : DataW H) (cs : List SV), Shows P n t d cs → Sized P t d → ∃ x : T, cs = enc x ∧ Wf x
def WfL {T : Type} (Wf : T → Prop) (zs : List T) : Prop := zs.length ≤ 140737488355328 ∧ ∀ z ∈ zs, Wf z
def WfI (k : IntKind) (z : Int) : Prop := (Lit.int k z).wf = true
def WfT (s : List UInt8) : Prop := s.length ≤ 140737488355328
theorem tells_int {n : Nat} {t : TypeId} {k : IntKind} (hu : P.underlying t = some (.int k)) : Tells P (n + 1) t (encI k) (WfI k) := fun d cs h _ => by
 unfold Shows at h
 rw [hu] at h
 obtain ⟨z, _, h2, hw⟩ := h
 exact ⟨z, h2, hw⟩
theorem tells_str {n : Nat} {t : TypeId} (hu : P.underlying t = some .string) : Tells P (n + 1) t encT WfT := fun d cs h hs => by
 unfold Shows at h
 rw [hu] at h
 obtain ⟨z, h1, h2⟩ := h
 subst h1
 refine ⟨z, h2, ?_⟩
 have h3 := hs z.length (by simp [DataW.weights])
 have h4 := reachBytes_lt
 unfold WfT
 omega
theorem tells_list {T : Type} {enc : T → List SV} {Wf : T → Prop} {n : Nat} {t e : TypeId} (hu : P.underlying t = some (.slice e)) {k : Nat} (hc : P.cellsOf e = k) (hb : Nat.blt 0 (P.bytesOf e) = true) (hel : Tells P n e enc Wf) :
  Tells P (n + 1) t (encL enc k) (WfL Wf) := fun {H} d cs h hs => by
 unfold Shows at h
 rw [hu] at h
 simp only at h
 rcases h with ⟨rfl, h2⟩ | ⟨elems, rest, xs, rfl, h2, hl, hx, hall⟩
 ·exact ⟨[], by rw [h2, hc]; rfl, by simp, fun z hz => (by cases hz)⟩
 ·rw [hc] at h2
  have hlen := sized_len hu (by simpa [Nat.blt_eq] using hb) hs
  have key : ∀ (xs : List (List SV)) (elems : List (DataW H)), (∀ y ∈ elems, Sized P e y) → xs.length = elems.length → (∀ (i : Nat) y x, elems[i]? = some y → xs[i]? = some x → Shows P n e y x) → ∃ zs : List T, xs.flatten = zs.flatMap enc ∧ (∀ z ∈ zs, Wf z) ∧ elems.length = zs.length := by
   intro xs
   induction xs with
   | nil => intro elems _ hl _; exact ⟨[], rfl, fun z hz => (by cases hz), by simpa using hl.symm⟩
   | cons x xs ih =>
    intro elems hsz hl h
    cases elems with
    | nil => simp at hl
    | cons y elems =>
     obtain ⟨zs, e1, e2, e3⟩ := ih elems (fun y hy => hsz y (List.mem_cons_of_mem _ hy)) (by simpa using hl) (fun i y x hy hx => h (i + 1) y x (by simpa using hy) (by simpa using hx))
     obtain ⟨z, rfl, hw⟩ := hel y x (h 0 y x rfl rfl) (hsz y (List.mem_cons_self ..))
     refine ⟨z :: zs, by simp [e1], fun z' hz' => ?_, by simp [e3]⟩
     rcases List.mem_cons.1 hz' with rfl | hm
     ·exact hw
     ·exact e2 _ hm
  obtain ⟨zs, e1, e2, e3⟩ := key xs elems (fun y hy => sized_el hu hs hy) hl hall
  exact ⟨zs, by rw [h2, e1]; unfold encL; rw [hl, e3], by omega, e2⟩
theorem showsV_struct {n : Nat} {t : TypeId} {fs : Array Field} {d : DataW H} {s : SV} (hu : P.underlying t = some (.struct fs)) (h : ShowsV P n t d s) : ∃ cs, s = .agg cs ∧ Shows P n t d cs := by
 unfold ShowsV at h
 rw [hu] at h
 exact h
theorem shows_field {n : Nat} {t : TypeId} {fs : Array Field} {d : DataW H} {cs : List SV} (hu : P.underlying t = some (.struct fs)) (h : Shows P (n + 1) t d cs) (hs : Sized P t d) (i : Nat) (ty : TypeId) (cs' : List SV)
  (hf : (fs[i]?).map (fun f => (f.type, (cs.drop f.offset).take (P.cellsOf f.type))) = some (ty, cs')) : ∃ p : DataW H, Shows P n ty p cs' ∧ Sized P ty p := by
 unfold Shows at h
 rw [hu] at h
 obtain ⟨_, parts, rfl, hl, hall⟩ := h
 cases hfi : fs[i]? with
 | none => rw [hfi] at hf; cases hf
 | some f =>
  rw [hfi] at hf
  simp only [Option.map_some, Option.some.injEq, Prod.mk.injEq] at hf
  obtain ⟨rfl, rfl⟩ := hf
  have hi := (Array.getElem?_eq_some_iff.1 hfi).1
  have hi' : i < parts.length := by omega
  exact ⟨parts[i], hall i f _ hfi (List.getElem?_eq_getElem hi'), sized_part hu hs hfi (List.getElem?_eq_getElem hi')⟩
theorem shows_len {n : Nat} {t : TypeId} {fs : Array Field} {d : DataW H} {cs : List SV} (hu : P.underlying t = some (.struct fs)) (h : Shows P (n + 1) t d cs) : cs.length = P.cellsOf t := by
 unfold Shows at h
 rw [hu] at h
 exact h.1
theorem shows_elem {n m : Nat} {t e : TypeId} {d : DataW H} {cs : List SV} (hu : P.underlying t = some (.array m e)) (h : Shows P (n + 1) t d cs) (hs : Sized P t d) (i : Nat) (cs' : List SV) (hi : Nat.blt i m = true)
  (hf : (cs.drop (i * P.cellsOf e)).take (P.cellsOf e) = cs') : ∃ p : DataW H, Shows P n e p cs' ∧ Sized P e p := by
 unfold Shows at h
 rw [hu] at h
 obtain ⟨_, parts, rfl, hl, hall⟩ := h
 have hi' : i < parts.length := by rw [hl]; simpa [Nat.blt_eq] using hi
 refine ⟨parts[i], by rw [← hf]; exact hall i _ (List.getElem?_eq_getElem hi'), fun n hn => hs n ?_⟩
 simp only [DataW.weights, hu]
 exact weightsAll_mem parts _ (List.getElem_mem hi') hn
theorem shows_alen {n m : Nat} {t e : TypeId} {d : DataW H} {cs : List SV} (hu : P.underlying t = some (.array m e)) (h : Shows P (n + 1) t d cs) : cs.length = P.cellsOf t := by
 unfold Shows at h
 rw [hu] at h
 exact h.1
end
theorem l1 {α : Type} {l : List α} (h : l.length = 1) : ∃ a, l = [a] := by
 match l, h with
 | [a], _ => exact ⟨a, rfl⟩
theorem l2 {α : Type} {l : List α} (h : l.length = 2) : ∃ a b, l = [a, b] := by
 match l, h with
 | [a, b], _ => exact ⟨a, b, rfl⟩
theorem l3 {α : Type} {l : List α} (h : l.length = 3) : ∃ a b c, l = [a, b, c] := by
 match l, h with
 | [a, b, c], _ => exact ⟨a, b, c, rfl⟩
end Go.Sy
