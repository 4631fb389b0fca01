/-
  The shadow machine, part 8: boxes, aggregates, literals, make; all operations but calls.
-/
import Derived.Test.YtbgebincgfpanaaSxG
namespace Go.Sx
open Go Go.RowKit

section
variable {P : Program} {F : Fr} {w : World} {K : Nat → Nat} {β : List Nat} {H : Heap} {ρ : Nat → SV} {a : Act} {o : Oper}

structure CR (w : World) (K : Nat → Nat) (β : List Nat) (vs : List Value) (cs : List SV) : Prop where
  len : cs.length = vs.length
  one : ∀ c ∈ cs, c.one = true
  rep : ∀ (j : Nat) (v : Value) (c : SV), vs[j]? = some v → cs[j]? = some c → Rep w K β v c

theorem CR.nil : CR w K β [] [] := ⟨rfl, fun c h => (by cases h), fun j v c h => (by simp at h)⟩

theorem CR.append {vs us : List Value} {cs ds : List SV} (h : CR w K β vs cs) (g : CR w K β us ds) : CR w K β (vs ++ us) (cs ++ ds) := by
  refine ⟨by simp [h.len, g.len], fun c hc => ?_, fun j v c hv hc => ?_⟩
  · rcases List.mem_append.1 hc with hc | hc
    · exact h.one c hc
    · exact g.one c hc
  · rw [List.getElem?_append] at hv hc
    rw [h.len] at hc
    split at hv
    · rename_i hj; rw [if_pos hj] at hc; exact h.rep j v c hv hc
    · rename_i hj; rw [if_neg hj] at hc; exact g.rep _ v c hv hc

theorem CR.take {vs : List Value} {cs : List SV} (h : CR w K β vs cs) (n : Nat) : CR w K β (vs.take n) (cs.take n) :=
  ⟨by simp [h.len], fun c hc => h.one c (List.mem_of_mem_take hc), fun j v c hv hc =>
    h.rep j v c (by rw [List.getElem?_take] at hv; split at hv <;> first | exact hv | cases hv) (by rw [List.getElem?_take] at hc; split at hc <;> first | exact hc | cases hc)⟩

theorem CR.drop {vs : List Value} {cs : List SV} (h : CR w K β vs cs) (n : Nat) : CR w K β (vs.drop n) (cs.drop n) :=
  ⟨by simp [h.len], fun c hc => h.one c (List.mem_of_mem_drop hc), fun j v c hv hc => h.rep (n + j) v c (by simpa using hv) (by simpa using hc)⟩

theorem CR.splice {vs us : List Value} {cs ds : List SV} (h : CR w K β vs cs) (g : CR w K β us ds) (off : Nat) : CR w K β (vs.take off ++ (us ++ vs.drop (off + us.length))) (splice cs off ds) := by
  unfold Sx.splice
  rw [g.len]
  exact (h.take off).append (g.append (h.drop _))

theorem one_share1 (s : SV) : s.share1.one = s.one := by cases s <;> rfl

theorem cells_ok {v : Value} {s : SV} {ps : List SV} (h : Rep w K β v s) (hp : s.cells? = some ps) : CR w K β v.cells.toList ps := by
  have single : ∀ (u : Value), Rep w K β u s → u.cells = #[u] → s.one = true → CR w K β u.cells.toList [s.share1] := by
    intro u hu hc h1
    rw [hc]
    refine ⟨rfl, fun c hm => ?_, fun j x c hx hc => ?_⟩
    · simp at hm; subst hm; rw [one_share1]; exact h1
    · cases j with
      | zero => simp at hx hc; subst hx; subst hc; exact hu.share1
      | succ j => simp at hx
  cases h with
  | agg vs cs hc h1 h => cases hp; exact ⟨hc, h1, h⟩
  | undef => simp [SV.cells?, SV.one] at hp
  | tup => simp [SV.cells?, SV.one] at hp
  | ep => simp [SV.cells?, SV.one] at hp
  | bool b => cases hp; exact single _ (.bool b) rfl rfl
  | int k n => cases hp; exact single _ (.int k n) rfl rfl
  | str sb => cases hp; exact single _ (.str sb) rfl rfl
  | nil q k => cases hp; exact single _ (.nil q k) rfl rfl
  | emp k a cap => cases hp; exact single _ (.emp k a cap) rfl rfl
  | lst q k b off len cap vs cs hk hl hc hcap hm hK h1 h => cases hp; exact single _ (.lst q k b off len cap vs cs hk hl hc hcap hm hK h1 h) rfl rfl
  | ptr i off b hb => cases hp; exact single _ (.ptr i off b hb) rfl rfl
  | fn f fs caps gs dcs hc hd h h' => cases hp; exact single _ (.fn f fs caps gs dcs hc hd h h') rfl rfl

theorem foldl_place : ∀ (l : List Value) (k off : Nat) (cells : Array Value), off + k + l.length ≤ cells.size →
    ((l.zipIdx k).foldl (fun cs x => cs.setIfInBounds (off + x.2) x.1) cells).toList = cells.toList.take (off + k) ++ (l ++ cells.toList.drop (off + k + l.length)) := by
  intro l
  induction l with
  | nil => intro k off cells _; simp
  | cons x l ih =>
    intro k off cells h
    simp only [List.zipIdx_cons, List.foldl_cons]
    rw [ih (k + 1) off _ (by simp at h ⊢; omega)]
    have hlt : off + k < cells.toList.length := by simp at h ⊢; omega
    simp only [Array.toList_setIfInBounds, List.length_cons]
    rw [show off + (k + 1) = off + k + 1 from by omega, show off + k + 1 + l.length = off + k + (l.length + 1) from by omega]
    rw [List.take_succ_eq_append_getElem (by simpa using hlt), List.take_set_of_le (Nat.le_refl _), List.drop_set_of_lt (by omega)]
    simp

theorem fill_ok (h : Inv F w K β H ρ a.tmps) {place : Nat → Option (Nat × Nat)} : ∀ (parts : List (Nat × Operand)) (cells : Array Value) (cs cs' : List SV), (∀ p ∈ parts, Operand.inB F.n p.2 = true) →
    CR w K β cells.toList cs → fillS ρ place cs parts = some cs' → ∃ cells', Instr.fill place cells (parts.map fun p => (p.1, a.eval p.2)) = some cells' ∧ CR w K β cells'.toList cs' := by
  intro parts
  induction parts with
  | nil => intro cells cs cs' _ hcr hs; cases hs; exact ⟨cells, rfl, hcr⟩
  | cons p rest ih =>
    intro cells cs cs' hb hcr hs
    obtain ⟨i, x⟩ := p
    simp only [fillS] at hs
    split at hs
    · rename_i off size ps hp hx
      split at hs
      · rename_i hc
        obtain ⟨hl, hle⟩ := hc
        cases hxe : valE ρ x with
        | none => rw [hxe] at hx; cases hx
        | some sx =>
          rw [hxe] at hx
          have hrx := valE_rep h (hb (i, x) (List.mem_cons_self ..)) hxe
          have hcx := cells_ok hrx hx
          have hvl : (a.eval x).cells.size = size := by have := hcx.len; simp at this; omega
          have hcl : cs.length = cells.size := by simpa using hcr.len
          have hle' : off + 0 + (a.eval x).cells.toList.length ≤ cells.size := by simp; omega
          have hf := foldl_place (a.eval x).cells.toList 0 off cells hle'
          have hcond : ¬ (((a.eval x).cells.size ≠ size || off + (a.eval x).cells.size > cells.size) = true) := by simp; omega
          obtain ⟨cells', h1, h2⟩ := ih ((a.eval x).cells.toList.zipIdx.foldl (fun cs x => cs.setIfInBounds (off + x.2) x.1) cells) _ cs' (fun p hm => hb p (List.mem_cons_of_mem _ hm)) (by
            rw [hf]; simpa using hcr.splice hcx off) hs
          refine ⟨cells', ?_, h2⟩
          simp only [List.map_cons, Instr.fill, hp]
          rw [if_neg (by simpa using hcond)]
          have hz : (a.eval x).cells.zipIdx.foldl (fun cs x => cs.setIfInBounds (off + x.2) x.1) cells = (a.eval x).cells.toList.zipIdx.foldl (fun cs x => cs.setIfInBounds (off + x.2) x.1) cells := by
            rw [← Array.foldl_toList]; simp
          rw [← hz] at h1
          exact h1
      · cases hs
    · cases hs

theorem constSV_one {v : Value} {s : SV} (h : constSV v = some s) : s.one = true := by
  unfold constSV at h; split at h <;> cases h <;> rfl

theorem constCells_ok {v : Value} {cs : List SV} (h : constCells v = some cs) : CR w K β v.cells.toList cs := by
  unfold constCells at h
  generalize v.cells.toList = l at h
  induction l generalizing cs with
  | nil => simp at h; subst h; exact CR.nil
  | cons x l ih =>
    simp only [List.mapM_cons] at h
    cases hx : constSV x with
    | none => rw [hx] at h; cases h
    | some s =>
      rw [hx] at h
      cases hl : l.mapM constSV with
      | none => rw [hl] at h; cases h
      | some r =>
        rw [hl] at h
        cases h
        have h1 : CR w K β [x] [s] := ⟨rfl, fun c hm => by simp at hm; subst hm; exact constSV_one hx, fun j v c hv hc => by
          cases j with
          | zero => simp at hv hc; subst hv; subst hc; exact (constSV_rep hx).1
          | succ j => simp at hv⟩
        exact h1.append (ih hl)

theorem zeroS_ok {t : TypeId} {cs : List SV} (h : zeroS P t = some cs) : ∃ i z, P.info? t = some i ∧ i.zero = some z ∧ cs.length = i.size ∧ P.cellsOf t = i.size ∧ ∀ (w : World) (K : Nat → Nat) (β : List Nat), CR w K β z.cells.toList cs := by
  unfold zeroS at h
  split at h
  · rename_i i hi
    split at h
    · rename_i z hz
      split at h
      · rename_i cs' hcs
        split at h <;> cases h
        rename_i hl
        exact ⟨i, z, hi, hz, hl, by simp [Program.cellsOf, hi], fun w K β => constCells_ok hcs⟩
      · cases h
    · cases h
  · cases h

/-- A new box. -/
theorem newbox (h : Inv F w K β H ρ a.tmps) {vs : List Value} {cs : List SV} (hcr : CR w K β vs cs) (e : TypeId) (d : Option Nat) :
    Inv F (w.alloc (.cells vs.toArray e)) K (β ++ [w.heap.size]) (H ++ [cs]) (putE ρ d (.ptr H.length 0)) (a.put d (.pointer (some ⟨w.heap.size, 0, none⟩))).tmps := by
  have hblt : ∀ b, b ∈ β → b < w.heap.size := fun b hb => box_lt h.box hb
  have hK0 : K w.heap.size = 0 := by
    rcases Nat.eq_zero_or_pos (K w.heap.size) with h0 | h0
    · exact h0
    · have := h.kw w.heap.size (by omega); omega
  have hold : ∀ b, b < w.heap.size → (w.alloc (.cells vs.toArray e)).heap[b]? = w.heap[b]? := fun b hb => by show (w.heap.push _)[b]? = _; rw [Array.getElem?_push, if_neg (by omega)]
  have g : Grow w K β (w.alloc (.cells vs.toArray e)) K (β ++ [w.heap.size]) none := by
    refine ⟨rfl, rfl, rfl, by simp, fun b hb _ _ => hold b hb, fun b j hj => World.cell?_of_block (w := w) (a := ⟨b, j, none⟩) (hold b (h.kw b (by omega))), fun b => Nat.le_refl _, fun _ _ _ => rfl, fun i b hb => ?_, fun i b hi hb => ?_⟩
    · rw [List.getElem?_append_left (List.getElem?_eq_some_iff.1 hb).1]; exact hb
    · rw [List.getElem?_append_right hi] at hb
      have := List.mem_of_getElem? hb
      simp at this; omega
  have hbox : BoxInv (w.alloc (.cells vs.toArray e)) K (β ++ [w.heap.size]) (H ++ [cs]) := by
    refine ⟨by simp [h.box.1], ?_, fun i b ds hb hd => ?_⟩
    · rw [List.nodup_append]
      refine ⟨h.box.2.1, by simp, fun x hx y hy => ?_⟩
      simp at hy; subst hy
      have := hblt x hx; omega
    · by_cases hi : i < β.length
      · rw [List.getElem?_append_left hi] at hb
        rw [List.getElem?_append_left (by rw [← h.box.1]; exact hi)] at hd
        obtain ⟨k0, us, e', h1, h2, h3, h4⟩ := h.box.2.2 i b ds hb hd
        exact ⟨k0, us, e', by rw [hold b (Array.getElem?_eq_some_iff.1 h1).1]; exact h1, h2, h3, fun j v c hv hc => g.rep (h4 j v c hv hc)⟩
      · rw [List.getElem?_append_right (by omega)] at hb
        rw [List.getElem?_append_right (by rw [← h.box.1]; omega), ← h.box.1] at hd
        have hz : i - β.length = 0 := by
          have := (List.getElem?_eq_some_iff.1 hb).1
          simp at this; omega
        rw [hz] at hb hd
        simp at hb hd
        subst hb; subst hd
        exact ⟨hK0, vs, e, (by show (w.heap.push _)[w.heap.size]? = _; simp), hcr.len, hcr.one, fun j v c hv hc => g.rep (hcr.rep j v c hv hc)⟩
  have hkw : ∀ b, K b ≠ 0 → b < (w.alloc (.cells vs.toArray e)).heap.size := fun b hb => by have := h.kw b hb; simp; omega
  have hrep : Rep (w.alloc (.cells vs.toArray e)) K (β ++ [w.heap.size]) (.pointer (some ⟨w.heap.size, 0, none⟩)) (.ptr H.length 0) :=
    .ptr _ _ _ (by rw [List.getElem?_append_right (by rw [h.box.1]; exact Nat.le_refl _), h.box.1]; simp)
  cases d with
  | none =>
    have := h.put (x := none) (ρ' := ρ) g (by intro b hb; cases hb) hbox hkw F.n undef (fun i hi _ => Weak.refl _) (fun hd => absurd hd (Nat.lt_irrefl _))
      (fun i p y b _ _ _ _ e => by cases e) (fun hd => absurd hd (Nat.lt_irrefl _)) (fun hd => absurd hd (Nat.lt_irrefl _)) (fun hd => absurd hd (Nat.lt_irrefl _))
    have he : a.tmps.setIfInBounds F.n undef = a.tmps := by rw [← h.size]; exact Array.setIfInBounds_eq_of_size_le (Nat.le_refl _)
    rw [he] at this
    exact this
  | some d =>
    have hu : ∀ s, upd ρ d s d = s := fun s => by simp [upd]
    have hn : ∀ s i, i ≠ d → upd ρ d s i = ρ i := fun s i hi => by simp [upd, hi]
    exact h.put (x := none) (ρ' := upd ρ d (.ptr H.length 0)) g (by intro b hb; cases hb) hbox hkw d _ (fun i hi hd => by rw [hn _ i hd]; exact Weak.refl _) (fun _ => by rw [hu]; exact hrep)
      (fun i p y b _ _ _ _ e => by cases e) (fun _ p y hf => by rw [hu, flag_ptr] at hf; cases hf) (fun _ p p' y y' b hf => by rw [hu, flag_ptr] at hf; cases hf)
      (fun _ i p p' y y' b _ _ _ hf' => by rw [hu, flag_ptr] at hf'; cases hf')
end
end Go.Sx
