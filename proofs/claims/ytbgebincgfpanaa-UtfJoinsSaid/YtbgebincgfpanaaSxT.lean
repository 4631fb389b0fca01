/-
  The shadow machine, part 17: lists in use.
-/
import Derived.Test.YtbgebincgfpanaaSxN
import Derived.Test.YtbgebincgfpanaaSxS
namespace Go.Sx
set_option linter.unusedSimpArgs false
open Go Go.RowKit

variable {α : Type}

theorem idx_map {f : α → SV} {zs : List α} {i : Nat} (h : i < zs.length) : idxE 1 (zs.map f) (i : Int) = some (.ep [f (zs[i]'h)]) := by
  unfold idxE
  rw [if_pos ⟨by omega, by omega, by simp; omega⟩]
  simp only [Nat.mul_one, Int.toNat_natCast]
  rw [List.drop_eq_getElem_cons (by simpa using h)]
  simp

theorem idx_int {f : α → SV} {zs : List α} {n : Int} (h0 : 0 ≤ n) (h : n.toNat < zs.length) : idxE 1 (zs.map f) n = some (.ep [f (zs[n.toNat]'h)]) := by
  obtain ⟨i, rfl⟩ := Int.eq_ofNat_of_zero_le h0
  exact idx_map (by simpa using h)

theorem slice_map {f : α → SV} {zs : List α} {l h : Int} (h0 : 0 ≤ l) (h1 : l ≤ h) (h2 : h ≤ zs.length) : sliceE 1 (zs.map f) l h = some (.lst none 1 (((zs.take h.toNat).drop l.toNat).map f)) := by
  unfold sliceE
  rw [if_pos ⟨by omega, h0, h1, by simp; omega⟩]
  simp

theorem wrap_i64 {n : Int} (h1 : -9223372036854775808 ≤ n) (h2 : n ≤ 9223372036854775807) : IntKind.i64.wrap n = n := by
  unfold IntKind.wrap
  simp only [IntKind.signed, IntKind.bits, Bool.true_and, Bool.false_and, Bool.false_eq_true, if_false, decide_eq_true_eq]
  first | omega | (split <;> rename_i hc <;> simp at hc <;> omega)

theorem wrap_i32 {n : Int} (h1 : -2147483648 ≤ n) (h2 : n ≤ 2147483647) : IntKind.i32.wrap n = n := by
  unfold IntKind.wrap
  simp only [IntKind.signed, IntKind.bits, Bool.true_and, Bool.false_and, Bool.false_eq_true, if_false, decide_eq_true_eq]
  first | omega | (split <;> rename_i hc <;> simp at hc <;> omega)

theorem wrap_u8 {n : Int} (h1 : 0 ≤ n) (h2 : n ≤ 255) : IntKind.u8.wrap n = n := by
  unfold IntKind.wrap
  simp only [IntKind.signed, IntKind.bits, Bool.true_and, Bool.false_and, Bool.false_eq_true, if_false, decide_eq_true_eq]
  first | omega | (split <;> rename_i hc <;> simp at hc <;> omega)

theorem upd_same {ρ : Env} {d : Nat} {v : SV} : upd ρ d v d = v := by simp [upd]

/-- A region whose order is open, told for running. -/
def DrawW (P : Program) (l : List Oper) (Q : Exit → Env → Heap → Prop) (ρ : Env) (H : Heap) : Prop := drawOk l.toArray = true ∧ textD P l.toArray H l (atH (Q .normal) H) ρ
theorem cw_drawn {P : Program} {Q : Exit → Env → Heap → Prop} {ρ : Env} {H : Heap} {id : Nat} {l : List Oper} : codeW P (.region id l.toArray true) Q ρ H = DrawW P l Q ρ H := cw_draw
theorem DrawW.of {P : Program} {Q : Exit → Env → Heap → Prop} {ρ : Env} {H : Heap} {l : List Oper} (h : drawOk l.toArray = true) (k : textD P l.toArray H l (atH (Q .normal) H) ρ) : DrawW P l Q ρ H := ⟨h, k⟩

theorem take_step {xs ys : List α} {i : Nat} (h1 : i < xs.length) (h2 : i < ys.length) (ht : xs.take i = ys.take i) (he : xs[i] = ys[i]) : xs.take (i + 1) = ys.take (i + 1) := by
  rw [List.take_succ_eq_append_getElem h1, List.take_succ_eq_append_getElem h2, ht, he]

theorem take_end {xs ys : List α} {i : Nat} (h1 : xs.length ≤ i) (h2 : ys.length ≤ i) (ht : xs.take i = ys.take i) : xs = ys := by
  rwa [List.take_of_length_le h1, List.take_of_length_le h2] at ht

open Go.ChangeShapes Go.WideShapes Go.ChangeAt in
/-- A parameter that is a list of integers. -/
theorem shows_ints {P : Program} {H : Type} {n : Nat} {t e : TypeId} {k : IntKind} {d : DataW H} {s : SV} (hu : P.underlying t = some (.slice e)) (he : P.underlying e = some (.int k)) (hc : P.cellsOf e = 1)
    (h : ShowsV P (n + 2) t d s) : ∃ zs : List Int, s = .lst none 1 (zs.map (SV.int k)) ∧ (∀ z ∈ zs, (Lit.int k z).wf = true) ∧ ((d = .nil ∧ zs = []) ∨ ∃ elems rest, d = .slice elems rest ∧ elems.length = zs.length) := by
  unfold ShowsV at h
  rw [hu] at h
  simp only at h
  unfold Shows at h
  rw [hu] at h
  simp only at h
  rcases h with ⟨rfl, h2⟩ | ⟨elems, rest, xs, rfl, h2, hl, hx, hall⟩
  · simp only [List.cons.injEq, and_true] at h2
    exact ⟨[], by rw [h2, hc]; rfl, fun z hz => (by cases hz), .inl ⟨rfl, rfl⟩⟩
  · simp only [List.cons.injEq, and_true] at h2
    rw [hc] at h2
    have key : ∀ (xs : List (List SV)) (elems : List (DataW H)), xs.length = elems.length → (∀ (i : Nat) y x, elems[i]? = some y → xs[i]? = some x → Shows P (n + 1) e y x) → ∃ zs : List Int, xs.flatten = zs.map (SV.int k) ∧ (∀ z ∈ zs, (Lit.int k z).wf = true) ∧ elems.length = zs.length := by
      intro xs
      induction xs with
      | nil => intro elems hl _; exact ⟨[], rfl, fun z hz => (by cases hz), by simpa using hl.symm⟩
      | cons x xs ih =>
        intro elems hl h
        cases elems with
        | nil => simp at hl
        | cons y elems =>
          obtain ⟨zs, e1, e2, e3⟩ := ih elems (by simpa using hl) (fun i y x hy hx => h (i + 1) y x (by simpa using hy) (by simpa using hx))
          have h0 := h 0 y x rfl rfl
          unfold Shows at h0
          rw [he] at h0
          obtain ⟨z, _, rfl, hw⟩ := h0
          refine ⟨z :: zs, by simp [e1], fun z' hz' => ?_, by simp [e3]⟩
          rcases List.mem_cons.1 hz' with rfl | hm
          · exact hw
          · exact e2 _ hm
    obtain ⟨zs, e1, e2, e3⟩ := key xs elems hl hall
    exact ⟨zs, by rw [h2, e1], e2, .inr ⟨elems, rest, rfl, e3⟩⟩

theorem shows_int {P : Program} {H : Type} {n : Nat} {t : TypeId} {k : IntKind} {d : DataW H} {s : SV} (hu : P.underlying t = some (.int k)) (h : ShowsV P (n + 1) t d s) : ∃ z, s = .int k z ∧ (Lit.int k z).wf = true := by
  unfold ShowsV at h
  rw [hu] at h
  simp only at h
  unfold Shows at h
  rw [hu] at h
  obtain ⟨z, _, h2, hw⟩ := h
  simp only [List.cons.injEq, and_true] at h2
  exact ⟨z, h2, hw⟩

theorem wf_i32 {z : Int} (h : (Lit.int .i32 z).wf = true) : -2147483648 ≤ z ∧ z ≤ 2147483647 := by
  simp [Lit.wf, IntKind.min, IntKind.max, IntKind.signed, IntKind.bits] at h; omega
theorem wf_i64 {z : Int} (h : (Lit.int .i64 z).wf = true) : -9223372036854775808 ≤ z ∧ z ≤ 9223372036854775807 := by
  simp [Lit.wf, IntKind.min, IntKind.max, IntKind.signed, IntKind.bits] at h; omega
theorem wf_u8 {z : Int} (h : (Lit.int .u8 z).wf = true) : 0 ≤ z ∧ z ≤ 255 := by
  simp [Lit.wf, IntKind.min, IntKind.max, IntKind.signed, IntKind.bits] at h; omega

theorem len1 {l : List α} (h : l.length = 1) : ∃ a, l = [a] := by
  match l, h with
  | [a], _ => exact ⟨a, rfl⟩
theorem len2 {l : List α} (h : l.length = 2) : ∃ a b, l = [a, b] := by
  match l, h with
  | [a, b], _ => exact ⟨a, b, rfl⟩
theorem len3 {l : List α} (h : l.length = 3) : ∃ a b c, l = [a, b, c] := by
  match l, h with
  | [a, b, c], _ => exact ⟨a, b, c, rfl⟩
theorem len4 {l : List α} (h : l.length = 4) : ∃ a b c d, l = [a, b, c, d] := by
  match l, h with
  | [a, b, c, d], _ => exact ⟨a, b, c, d, rfl⟩
end Go.Sx
