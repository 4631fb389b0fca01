/-
  The shadow machine, part 5: operations that hand rights on, and those that make memory.
-/
import Derived.Test.YtbgebincgfpanaaSxD
import Derived.Deep.AppendSrc
namespace Go.Sx
open Go Go.RowKit

def updK (K : Nat → Nat) (b n : Nat) : Nat → Nat := fun x => if x = b then n else K x

section
variable {P : Program} {F : Fr} {w : World} {K : Nat → Nat} {β : List Nat} {H : Heap} {ρ : Nat → SV} {a : Act} {o : Oper}

theorem Grow.push {w' : World} {ob : Obj} (hkw : ∀ b, K b ≠ 0 → b < w.heap.size) (hh : w'.heap = w.heap.push ob) (h1 : w'.os = w.os) (h2 : w'.tape = w.tape) (h3 : w'.output = w.output) (n : Nat) :
    Grow w K β w' (updK K w.heap.size n) β none := by
  have hb : ∀ b, b < w.heap.size → w'.heap[b]? = w.heap[b]? := fun b hb => by rw [hh, Array.getElem?_push, if_neg (by omega)]
  refine ⟨h1, h2, h3, by rw [hh]; simp, fun b h _ _ => hb b h, fun b j hj => ?_, fun b => ?_, fun b h _ => ?_, fun _ _ h => h, fun i b h hb => by rw [List.getElem?_eq_none h] at hb; cases hb⟩
  · exact World.cell?_of_block (w := w) (a := ⟨b, j, none⟩) (hb b (hkw b (by omega)))
  · unfold updK
    split
    · rename_i e; subst e
      have : K w.heap.size = 0 := by
        rcases Nat.eq_zero_or_pos (K w.heap.size) with h | h
        · exact h
        · have := hkw w.heap.size (by omega); omega
      omega
    · exact Nat.le_refl _
  · unfold updK; rw [if_neg (by omega)]

theorem BoxInv.grow {w' : World} {K' : Nat → Nat} {x : Option Nat} (h : BoxInv w K β H) (g : Grow w K β w' K' β x) (hβ : ∀ b, b ∈ β → w'.heap[b]? = w.heap[b]? ∧ some b ≠ x) : BoxInv w' K' β H := by
  refine ⟨h.1, h.2.1, fun i b cs hb hc => ?_⟩
  obtain ⟨k0, vs, e, h1, h2, h3, h4⟩ := h.2.2 i b cs hb hc
  have hm : b ∈ β := List.mem_of_getElem? hb
  have hlt : b < w.heap.size := (Array.getElem?_eq_some_iff.1 h1).1
  exact ⟨by rw [g.same b hlt (hβ b hm).2]; exact k0, vs, e, by rw [(hβ b hm).1]; exact h1, h2, h3, fun j v c hv hcc => g.rep (h4 j v c hv hcc)⟩

theorem box_lt (h : BoxInv w K β H) {b : Nat} (hb : b ∈ β) : b < w.heap.size := by
  obtain ⟨i, hi⟩ := List.mem_iff_getElem?.1 hb
  have hl : i < β.length := (List.getElem?_eq_some_iff.1 hi).1
  rw [h.1] at hl
  obtain ⟨_, vs, e, h1, _⟩ := h.2.2 i b H[i] hi (List.getElem?_eq_getElem hl)
  exact (Array.getElem?_eq_some_iff.1 h1).1

/-- A new row whose first cells are shown, the rest being spare. -/
theorem fresh_row {w' : World} {L vs : List Value} {cs : List SV} {e k len cap : Nat} {B : Nat → Prop} {q : Option TypeId} (hbox : BoxInv w K β H) (hkw : ∀ b, K b ≠ 0 → b < w.heap.size) (hB : B w.heap.size)
    (hh : w'.heap = w.heap.push (.cells L.toArray e)) (h1 : w'.os = w.os) (h2 : w'.tape = w.tape) (h3 : w'.output = w.output)
    (hk : 0 < k) (hvs : L.take vs.length = vs) (hl : vs.length = len * k) (hc : cs.length = vs.length) (hcap : len ≤ cap) (hL : L.length = cap * k) (hm : cap ≤ maxLen)
    (hone : ∀ c ∈ cs, c.one = true) (hrep : ∀ (j : Nat) (v : Value) (c : SV), vs[j]? = some v → cs[j]? = some c → Rep w K β v c) :
    Grow w K β w' (updK K w.heap.size vs.length) β none ∧ BoxInv w' (updK K w.heap.size vs.length) β H ∧ (∀ b, updK K w.heap.size vs.length b ≠ 0 → b < w'.heap.size) ∧
      Rep w' (updK K w.heap.size vs.length) β (.slice (some ⟨w.heap.size, 0, none⟩) len cap) (.lst q k cs) ∧
      Owned w' (updK K w.heap.size vs.length) β B (.slice (some ⟨w.heap.size, 0, none⟩) len cap) (e, k) := by
  have g := Grow.push (β := β) hkw hh h1 h2 h3 vs.length
  have hnew : w'.heap[w.heap.size]? = some (.cells L.toArray e (0, 0)) := by rw [hh]; simp
  have hβ : w.heap.size ∉ β := fun hm => by have := box_lt hbox hm; omega
  have hKn : updK K w.heap.size vs.length w.heap.size = vs.length := by simp [updK]
  refine ⟨g, hbox.grow g (fun b hb => ⟨?_, by simp⟩), fun b hb => ?_, ?_, .inr ⟨_, _, _, rfl, hB, hβ, ?_, ⟨_, hnew, by simpa using hL⟩, hcap, hm⟩⟩
  · have := box_lt hbox hb
    rw [hh, Array.getElem?_push, if_neg (by omega)]
  · rw [hh]; simp only [Array.size_push]
    unfold updK at hb
    split at hb
    · omega
    · have := hkw b hb; omega
  · refine .lst q k _ 0 len cap vs cs hk hl hc hcap (fun j v hj => ?_) (by rw [hKn]; omega) hone (fun j v c hv hcc => g.rep (hrep j v c hv hcc))
    rw [cell_of_row w' _ _ _ _ _ hnew]
    have hjl := (List.getElem?_eq_some_iff.1 hj).1
    rw [← hvs, List.getElem?_take, if_pos hjl] at hj
    simpa using hj
  · show updK K w.heap.size vs.length w.heap.size ≤ len * k
    rw [hKn, hl]; exact Nat.le_refl _

theorem flag_lst_top {q : Option TypeId} {k : Nat} {cs : List SV} {p : Option Nat} {y : TypeId × Nat} (h : flagAt (.lst q k cs) p = some y) : p = none := by
  cases p with
  | none => rfl
  | some j => cases h

/-- What an operation comes to: a result, and the run's frame behind it. -/
def OpRes (P : Program) (F : Fr) (o : Oper) (a : Act) (w : World) (ρ' : Nat → SV) (H' : Heap) : Prop :=
  ∃ r w' K' β', ((execOp a.eval o).run P w = .ok (.value r) w' ∨ ((execOp a.eval o).run P w = .ok .skip w' ∧ r = undef)) ∧ Inv F w' K' β' H' ρ' (a.put o.dst r).tmps

theorem weak_upd {ρ : Nat → SV} {t : Nat} {s' : SV} (h : Weak (ρ t) s') (i : Nat) : Weak (ρ i) (upd ρ t s' i) := by
  unfold upd; split
  · rename_i e; subst e; exact h
  · exact Weak.refl _

/-- A value is handed on with its rights; the slot that it came from keeps none. -/
theorem move_all (h : Inv F w K β H ρ a.tmps) {t : Nat} (ht : t < F.n) (ho : o.op = .move (.tmp t) ∨ o.op = .assign (.tmp t)) :
    OpRes P F o a w (putE (upd ρ t (ρ t).share) o.dst (ρ t)) H := by
  have he : (execOp a.eval o).run P w = .ok (.value (a.tmps.getD t undef)) w := by unfold execOp; rcases ho with ho | ho <;> rw [ho] <;> rfl
  refine ⟨_, w, K, β, .inl he, h.put_here (fun i _ => weak_upd (Weak.share _) i) o.dst _ _ (h.rep t ht) (fun p y hf => h.own t p y ht hf)
    (fun p p' y y' b hf hf' hb hb' => (h.dis t p t p' y y' b ht ht hf hf' hb hb').2) (fun i p p' y y' b hi hf hf' hb hb' => ?_)⟩
  have hw := (weak_upd (ρ := ρ) (Weak.share (ρ t)) i).flag p y hf
  have hd := h.dis i p t p' y y' b hi ht hw hf' hb hb'
  obtain ⟨rfl, rfl⟩ := hd
  simp only [upd, if_true] at hf
  rw [not_flag_share] at hf; cases hf

theorem weak_part {vs : List SV} {i : Nat} {s : SV} (hi : vs[i]? = some s) : Weak (.tup vs) (.tup (vs.set i s.share1)) := by
  have hl := (List.getElem?_eq_some_iff.1 hi).1
  refine ⟨fun {w K β v} h => ?_, fun p x hf => ?_⟩
  · cases h with
    | tup ws _ hc h =>
      refine .tup ws _ (by simpa using hc) (fun j v c hv hcj => ?_)
      rw [List.getElem?_set] at hcj
      split at hcj
      · rename_i e; subst e
        first | (rw [if_pos hl] at hcj; cases hcj; exact (h i v s hv hi).share1) | (cases hcj; exact (h i v s hv hi).share1)
      · exact h j v c hv hcj
  · cases p with
    | none => cases hf
    | some j =>
      simp only [flagAt] at hf ⊢
      rw [List.getElem?_set] at hf
      by_cases e : i = j
      · subst e
        rw [if_pos rfl, if_pos hl] at hf
        cases s <;> cases hf
      · rw [if_neg e] at hf; exact hf

theorem extract_own (h : Inv F w K β H ρ a.tmps) {t i : Nat} (ht : t < F.n) (ho : o.op = .extract (.tmp t) i) {vs : List SV} (hv : ρ t = .tup vs) {e k : Nat} {cs : List SV} (hi : vs[i]? = some (.lst (some e) k cs)) :
    OpRes P F o a w (putE (upd ρ t (.tup (vs.set i (.lst none k cs)))) o.dst (.lst (some e) k cs)) H := by
  have hrt := h.rep t ht
  rw [hv] at hrt
  generalize hx : a.tmps.getD t undef = x at hrt
  cases hrt with
  | tup ws _ hl hrep =>
    have hiw : i < ws.length := by rw [← hl]; exact (List.getElem?_eq_some_iff.1 hi).1
    have hg : ws[i]? = some ws[i] := List.getElem?_eq_getElem hiw
    have he : (execOp a.eval o).run P w = .ok (.value ws[i]) w := by
      unfold execOp; rw [ho]
      show Sem.run P (do pure (Next.value (← Instr.extract (a.tmps.getD t undef) i))) w = _
      rw [hx]; simp [Instr.extract, hg]
    have hva : valAt (a.tmps.getD t undef) (some i) = ws[i] := by rw [hx]; simp [valAt, hiw]
    have hfl : flagAt (ρ t) (some i) = some (e, k) := by rw [hv]; simp [flagAt, hi]
    have hweak : Weak (ρ t) (.tup (vs.set i (.lst none k cs))) := by rw [hv]; exact weak_part hi
    refine ⟨_, w, K, β, .inl he, h.put_here (fun i _ => weak_upd hweak i) o.dst _ _ (hrep i _ _ hg hi) (fun p y hf => ?_) (fun p p' y y' b hf hf' _ _ => ?_) (fun i' p p' y y' b hi' hf hf' hb hb' => ?_)⟩
    · cases p with
      | none =>
        cases hf
        have := h.own t (some i) (e, k) ht hfl
        rw [hva] at this
        exact this
      | some j => cases hf
    · exact (flag_lst_top hf).trans (flag_lst_top hf').symm
    · cases p' with
      | some j => cases hf'
      | none =>
        have hw := (weak_upd (ρ := ρ) hweak i').flag p y hf
        have hb2 : (valAt (a.tmps.getD t undef) (some i)).ownBlock = some b := by rw [hva]; exact hb'
        obtain ⟨rfl, rfl⟩ := h.dis i' p t (some i) y (e, k) b hi' ht hw hfl hb hb2
        simp only [upd, if_true, flagAt] at hf
        rw [List.getElem?_set_self (by exact (List.getElem?_eq_some_iff.1 hi).1)] at hf
        cases hf

/-- A nil of a known slice type. -/
theorem nil_own (h : Inv F w K β H ρ a.tmps) (ho : o.op = .move (.const (.slice none 0 0)) ∨ o.op = .assign (.const (.slice none 0 0))) (e : TypeId) (k : Nat) :
    OpRes P F o a w (putE ρ o.dst (.lst (some e) k [])) H := by
  have he : (execOp a.eval o).run P w = .ok (.value (.slice none 0 0)) w := by unfold execOp; rcases ho with ho | ho <;> rw [ho] <;> rfl
  refine ⟨_, w, K, β, .inl he, h.put_here (fun i _ => Weak.refl _) o.dst _ _ (.nil _ _) (fun p y hf => ?_) (fun p p' y y' b hf hf' hb hb' => ?_) (fun i' p p' y y' b hi' hf hf' hb hb' => ?_)⟩
  · cases p with
    | none => exact .inl rfl
    | some j => cases hf
  · cases p with
    | none => cases hb
    | some j => cases hf
  · cases p' with
    | none => cases hb'
    | some j => cases hf'

/-- A fresh row in a slot. -/
theorem put_fresh (h : Inv F w K β H ρ a.tmps) {w' : World} {K' : Nat → Nat} {e k len cap : Nat} {cs : List SV} (g : Grow w K β w' K' β none) (hbox : BoxInv w' K' β H) (hkw : ∀ b, K' b ≠ 0 → b < w'.heap.size)
    (d : Option Nat) (hrep : Rep w' K' β (.slice (some ⟨w.heap.size, 0, none⟩) len cap) (.lst (some e) k cs)) (hown : Owned w' K' β F.mine (.slice (some ⟨w.heap.size, 0, none⟩) len cap) (e, k)) {ρ1 : Nat → SV}
    (hweak : ∀ i, i < F.n → Weak (ρ i) (ρ1 i)) :
    Inv F w' K' β H (putE ρ1 d (.lst (some e) k cs)) (a.put d (.slice (some ⟨w.heap.size, 0, none⟩) len cap)).tmps := by
  have hold : ∀ i p y b, i < F.n → flagAt (ρ i) p = some y → (valAt (a.tmps.getD i undef) p).ownBlock = some b → b < w.heap.size := by
    intro i p y b hi hf hb
    rcases h.own i p y hi hf with ho | ⟨g, l, c, hv, ho⟩
    · rw [ho] at hb; cases hb
    · rw [hv] at hb; cases hb
      obtain ⟨cur, hcur, _⟩ := ho.row
      exact (Array.getElem?_eq_some_iff.1 hcur).1
  have hu : ∀ d s, upd ρ1 d s d = s := fun d s => by simp [upd]
  have hn : ∀ d s i, i ≠ d → upd ρ1 d s i = ρ1 i := fun d s i hi => by simp [upd, hi]
  cases d with
  | none =>
    have := h.put (x := none) (ρ' := ρ1) g (by intro b hb; cases hb) hbox hkw F.n undef (fun i hi _ => hweak i hi) (fun hd => absurd hd (Nat.lt_irrefl _))
      (fun i p y b _ _ _ _ e => by cases e) (fun hd => absurd hd (Nat.lt_irrefl _)) (fun hd => absurd hd (Nat.lt_irrefl _)) (fun hd => absurd hd (Nat.lt_irrefl _))
    have he : a.tmps.setIfInBounds F.n undef = a.tmps := by rw [← h.size]; exact Array.setIfInBounds_eq_of_size_le (Nat.le_refl _)
    rw [he] at this
    exact this
  | some d =>
    refine h.put (x := none) (ρ' := upd ρ1 d (.lst (some e) k cs)) g (by intro b hb; cases hb) hbox hkw d _ (fun i hi hd => by rw [hn d _ i hd]; exact hweak i hi) (fun _ => by rw [hu]; exact hrep)
      (fun i p y b _ _ _ _ e => by cases e) (fun _ p y hf => ?_) (fun _ p p' y y' b hf hf' _ _ => ?_) (fun _ i p p' y y' b hi hd hf hf' hb hb' => ?_)
    · rw [hu] at hf
      cases p with
      | none => cases hf; exact hown
      | some j => cases hf
    · rw [hu] at hf hf'
      exact (flag_lst_top hf).trans (flag_lst_top hf').symm
    · rw [hn d _ i hd] at hf
      rw [hu] at hf'
      cases p' with
      | some j => cases hf'
      | none =>
        cases hb'
        exact absurd (show w.heap.size < w.heap.size from hold i p y _ hi ((hweak i hi).flag p y hf) hb) (Nat.lt_irrefl _)
end
end Go.Sx
