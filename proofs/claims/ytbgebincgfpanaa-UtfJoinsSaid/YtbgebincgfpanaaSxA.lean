/-
  The shadow machine, part 1: shadow values, and when a value of the model's in a world is shown by one.
-/
import Derived.WalkKit
import Derived.Orders
namespace Go.Sx
open Go Go.RowKit

/-- What an append may come to. -/
def Room (n : Nat) : Prop := n ≤ 4294967296
instance {n : Nat} : Decidable (Room n) := inferInstanceAs (Decidable (n ≤ 4294967296))
theorem room_true {n : Nat} (h : n ≤ 4294967296) : Room n = True := eq_true h

/-- A shadow value: what a Go value is, without addresses and capacities. A list bears, where it may be appended to in place, its element type. -/
inductive SV where
  | undef
  | bool (b : Bool)
  | int (k : IntKind) (n : Int)
  | str (s : List UInt8)
  | lst (o : Option TypeId) (k : Nat) (cs : List SV)
  | ep (cs : List SV)
  | agg (cs : List SV)
  | tup (vs : List SV)
  | ptr (i off : Nat)
  | fn (f : Fn) (first captured : List SV)

def SV.one : SV → Bool
  | .undef => false
  | .agg _ => false
  | .tup _ => false
  | .ep _ => false
  | _ => true

abbrev Heap := List (List SV)

inductive Rep (w : World) (K : Nat → Nat) (β : List Nat) : Value → SV → Prop
  | undef (v : Value) : Rep w K β v .undef
  | bool (b : Bool) : Rep w K β (.bool b) (.bool b)
  | int (k : IntKind) (n : Int) : Rep w K β (.int k n) (.int k n)
  | str (s : ByteArray) : Rep w K β (.string s) (.str s.data.toList)
  | nil (o : Option TypeId) (k : Nat) : Rep w K β (.slice none 0 0) (.lst o k [])
  | emp (k : Nat) (a : Option Addr) (cap : Nat) : Rep w K β (.slice a 0 cap) (.lst none k [])
  | lst (o : Option TypeId) (k b off len cap : Nat) (vs : List Value) (cs : List SV) (hk : 0 < k) (hl : vs.length = len * k) (hc : cs.length = vs.length)
      (hcap : len ≤ cap) (hm : ∀ j v, vs[j]? = some v → w.cell? ⟨b, off + j, none⟩ = some v) (hK : off + vs.length ≤ K b)
      (h1 : ∀ c ∈ cs, c.one = true) (h : ∀ (j : Nat) (v : Value) (c : SV), vs[j]? = some v → cs[j]? = some c → Rep w K β v c) :
      Rep w K β (.slice (some ⟨b, off, none⟩) len cap) (.lst o k cs)
  | ep (b off : Nat) (vs : List Value) (cs : List SV) (hc : cs.length = vs.length)
      (hm : ∀ j v, vs[j]? = some v → w.cell? ⟨b, off + j, none⟩ = some v) (hK : off + vs.length ≤ K b)
      (h1 : ∀ c ∈ cs, c.one = true) (h : ∀ (j : Nat) (v : Value) (c : SV), vs[j]? = some v → cs[j]? = some c → Rep w K β v c) :
      Rep w K β (.pointer (some ⟨b, off, none⟩)) (.ep cs)
  | agg (vs : List Value) (cs : List SV) (hc : cs.length = vs.length) (h1 : ∀ c ∈ cs, c.one = true)
      (h : ∀ (j : Nat) (v : Value) (c : SV), vs[j]? = some v → cs[j]? = some c → Rep w K β v c) : Rep w K β (.agg vs.toArray) (.agg cs)
  | tup (vs : List Value) (cs : List SV) (hc : cs.length = vs.length)
      (h : ∀ (j : Nat) (v : Value) (c : SV), vs[j]? = some v → cs[j]? = some c → Rep w K β v c) : Rep w K β (.tuple vs.toArray) (.tup cs)
  | ptr (i off b : Nat) (hb : β[i]? = some b) : Rep w K β (.pointer (some ⟨b, off, none⟩)) (.ptr i off)
  | fn (f : Fn) (fs caps : List Value) (gs dcs : List SV) (hc : gs.length = fs.length) (hd : dcs.length = caps.length)
      (h : ∀ (j : Nat) (v : Value) (c : SV), fs[j]? = some v → gs[j]? = some c → Rep w K β v c)
      (h' : ∀ (j : Nat) (v : Value) (c : SV), caps[j]? = some v → dcs[j]? = some c → Rep w K β v c) :
      Rep w K β (.func f fs.toArray caps.toArray) (.fn f gs dcs)

theorem Rep.mono {w w' : World} {K K' : Nat → Nat} {β β' : List Nat} (hw : ∀ b j, j < K b → w'.cell? ⟨b, j, none⟩ = w.cell? ⟨b, j, none⟩)
    (hK : ∀ b, K b ≤ K' b) (hβ : ∀ (i b : Nat), β[i]? = some b → β'[i]? = some b) {v : Value} {s : SV} (h : Rep w K β v s) : Rep w' K' β' v s := by
  induction h with
  | undef v => exact .undef v
  | bool b => exact .bool b
  | int k n => exact .int k n
  | str s => exact .str s
  | nil o k => exact .nil o k
  | emp k a cap => exact .emp k a cap
  | lst o k b off len cap vs cs hk hl hc hcap hm hKb h1 _ ih =>
    refine .lst o k b off len cap vs cs hk hl hc hcap (fun j v hj => ?_) (Nat.le_trans hKb (hK b)) h1 ih
    rw [hw b (off + j) (by have := (List.getElem?_eq_some_iff.1 hj).1; omega)]
    exact hm j v hj
  | ep b off vs cs hc hm hKb h1 _ ih =>
    refine .ep b off vs cs hc (fun j v hj => ?_) (Nat.le_trans hKb (hK b)) h1 ih
    rw [hw b (off + j) (by have := (List.getElem?_eq_some_iff.1 hj).1; omega)]
    exact hm j v hj
  | agg vs cs hc h1 _ ih => exact .agg vs cs hc h1 ih
  | tup vs cs hc _ ih => exact .tup vs cs hc ih
  | ptr i off b hb => exact .ptr i off b (hβ i b hb)
  | fn f fs caps gs dcs hc hd _ _ ih ih' => exact .fn f fs caps gs dcs hc hd ih ih'

/-- A list without its right to be appended to. -/
def SV.share : SV → SV
  | .lst _ k cs => .lst none k cs
  | .tup vs => .tup (vs.map fun s => match s with | .lst _ k cs => .lst none k cs | s => s)
  | s => s

theorem Rep.lst_any {w : World} {K : Nat → Nat} {β : List Nat} {v : Value} {o : Option TypeId} {k : Nat} {cs : List SV} (h : Rep w K β v (.lst o k cs)) : Rep w K β v (.lst none k cs) := by
  cases h with
  | nil => exact .nil _ _
  | emp _ a cap => exact .emp _ a cap
  | lst _ _ b off len cap vs _ hk hl hc hcap hm hK h1 h => exact .lst _ _ _ _ _ _ _ _ hk hl hc hcap hm hK h1 h

def SV.share1 : SV → SV
  | .lst _ k cs => .lst none k cs
  | s => s

theorem SV.share_tup (vs : List SV) : (SV.tup vs).share = .tup (vs.map SV.share1) := by
  simp only [SV.share]
  congr 1

theorem Rep.share1 {w : World} {K : Nat → Nat} {β : List Nat} {v : Value} {s : SV} (h : Rep w K β v s) : Rep w K β v s.share1 := by
  cases s with
  | lst o k cs => exact h.lst_any
  | _ => exact h

theorem Rep.share {w : World} {K : Nat → Nat} {β : List Nat} {v : Value} {s : SV} (h : Rep w K β v s) : Rep w K β v s.share := by
  cases s with
  | lst o k cs => exact h.lst_any
  | tup vs =>
    rw [SV.share_tup]
    cases h with
    | tup ws _ hc h =>
      refine .tup ws _ (by simpa using hc) (fun j v c hv hcj => ?_)
      rw [List.getElem?_map] at hcj
      cases hx : vs[j]? with
      | none => rw [hx] at hcj; cases hcj
      | some s => rw [hx] at hcj; cases hcj; exact (h j v s hv hx).share1
  | _ => exact h

/-- Where a value bears the right to append: at its top, or at a part of a tuple. -/
def flagAt (s : SV) : Option Nat → Option (TypeId × Nat)
  | none => match s with
    | .lst (some e) k _ => some (e, k)
    | _ => none
  | some j => match s with
    | .tup vs => match vs[j]? with
      | some (.lst (some e) k _) => some (e, k)
      | _ => none
    | _ => none

def valAt (v : Value) : Option Nat → Value
  | none => v
  | some j => match v with
    | .tuple vs => vs.getD j undef
    | _ => undef

structure OwnedAt (w : World) (K : Nat → Nat) (β : List Nat) (B : Nat → Prop) (g len cap : Nat) (e k : Nat) : Prop where
  base : B g
  box : g ∉ β
  com : K g ≤ len * k
  row : ∃ cur, w.heap[g]? = some (.cells cur e (0, 0)) ∧ cur.size = cap * k
  len : len ≤ cap
  cap : cap ≤ maxLen

def Owned (w : World) (K : Nat → Nat) (β : List Nat) (B : Nat → Prop) (v : Value) (x : TypeId × Nat) : Prop :=
  v = .slice none 0 0 ∨ ∃ g len cap, v = .slice (some ⟨g, 0, none⟩) len cap ∧ OwnedAt w K β B g len cap x.1 x.2

def BoxInv (w : World) (K : Nat → Nat) (β : List Nat) (H : Heap) : Prop :=
  β.length = H.length ∧ β.Nodup ∧ ∀ (i b : Nat) (cs : List SV), β[i]? = some b → H[i]? = some cs → K b = 0 ∧
    ∃ (vs : List Value) (e : TypeId), w.heap[b]? = some (.cells vs.toArray e (0, 0)) ∧ cs.length = vs.length ∧ (∀ c ∈ cs, c.one = true) ∧
      ∀ (j : Nat) (v : Value) (c : SV), vs[j]? = some v → cs[j]? = some c → Rep w K β v c

/-- What one function's run stands in: how many slots, the heap's size when it began, the world and the boxes then. -/
structure Fr where
  n : Nat
  w0 : World
  K0 : Nat → Nat
  β0 : List Nat
  x : Option Nat

/-- The blocks that a function's run may write: those that it made, and the one that it was granted. -/
def Fr.mine (F : Fr) (g : Nat) : Prop := F.w0.heap.size ≤ g ∨ F.x = some g

structure Inv (F : Fr) (w : World) (K : Nat → Nat) (β : List Nat) (H : Heap) (ρ : Nat → SV) (tm : Array Value) : Prop where
  size : tm.size = F.n
  rep : ∀ i, i < F.n → Rep w K β (tm.getD i undef) (ρ i)
  box : BoxInv w K β H
  own : ∀ i p x, i < F.n → flagAt (ρ i) p = some x → Owned w K β F.mine (valAt (tm.getD i undef) p) x
  dis : ∀ i p i' p' x x' b, i < F.n → i' < F.n → flagAt (ρ i) p = some x → flagAt (ρ i') p' = some x' →
    (valAt (tm.getD i undef) p).ownBlock = some b → (valAt (tm.getD i' undef) p').ownBlock = some b → i = i' ∧ p = p'
  kw : ∀ b, K b ≠ 0 → b < w.heap.size
  pre : ∀ (i b : Nat), F.β0[i]? = some b → β[i]? = some b
  new : ∀ (i b : Nat), F.β0.length ≤ i → β[i]? = some b → F.w0.heap.size ≤ b
  kk : ∀ b, b < F.w0.heap.size → F.x ≠ some b → K b = F.K0 b
  kle : ∀ b, F.K0 b ≤ K b
  cells0 : ∀ b j, j < F.K0 b → w.cell? ⟨b, j, none⟩ = F.w0.cell? ⟨b, j, none⟩
  os : w.os = F.w0.os
  tape : w.tape = F.w0.tape
  output : w.output = F.w0.output
  hs : F.w0.heap.size ≤ w.heap.size
  old : ∀ b, b < F.w0.heap.size → b ∉ F.β0 → F.x ≠ some b → w.heap[b]? = F.w0.heap[b]?

/-- A step of the world: nothing that was there changes but boxes and, maybe, one block x beyond what is settled. -/
structure Grow (w : World) (K : Nat → Nat) (β : List Nat) (w' : World) (K' : Nat → Nat) (β' : List Nat) (x : Option Nat) : Prop where
  os : w'.os = w.os
  tape : w'.tape = w.tape
  output : w'.output = w.output
  size : w.heap.size ≤ w'.heap.size
  block : ∀ b, b < w.heap.size → b ∉ β → some b ≠ x → w'.heap[b]? = w.heap[b]?
  cells : ∀ b j, j < K b → w'.cell? ⟨b, j, none⟩ = w.cell? ⟨b, j, none⟩
  le : ∀ b, K b ≤ K' b
  same : ∀ b, b < w.heap.size → some b ≠ x → K' b = K b
  pre : ∀ (i b : Nat), β[i]? = some b → β'[i]? = some b
  new : ∀ (i b : Nat), β.length ≤ i → β'[i]? = some b → w.heap.size ≤ b

def upd (ρ : Nat → SV) (d : Nat) (v : SV) : Nat → SV := fun i => if i = d then v else ρ i

theorem Grow.refl (w : World) (K : Nat → Nat) (β : List Nat) (x : Option Nat) : Grow w K β w K β x :=
  ⟨rfl, rfl, rfl, Nat.le_refl _, fun _ _ _ _ => rfl, fun _ _ _ => rfl, fun _ => Nat.le_refl _, fun _ _ _ => rfl, fun _ _ h => h,
    fun i b h hb => by rw [List.getElem?_eq_none h] at hb; cases hb⟩

theorem Grow.rep {w w' : World} {K K' : Nat → Nat} {β β' : List Nat} {x : Option Nat} (g : Grow w K β w' K' β' x) {v : Value} {s : SV} (h : Rep w K β v s) : Rep w' K' β' v s :=
  h.mono g.cells g.le g.pre

/-- A shadow value that says less. -/
structure Weak (s s' : SV) : Prop where
  rep : ∀ {w : World} {K : Nat → Nat} {β : List Nat} {v : Value}, Rep w K β v s → Rep w K β v s'
  flag : ∀ p x, flagAt s' p = some x → flagAt s p = some x

theorem Weak.refl (s : SV) : Weak s s := ⟨fun h => h, fun _ _ h => h⟩

theorem not_flag_share (s : SV) (p : Option Nat) : flagAt s.share p = none := by
  cases s with
  | lst o k cs => cases p <;> rfl
  | tup vs =>
    rw [SV.share_tup]
    cases p with
    | none => rfl
    | some j =>
      simp only [flagAt, List.getElem?_map]
      cases vs[j]? with
      | none => rfl
      | some s => cases s <;> rfl
  | _ => cases p <;> rfl

theorem Weak.share (s : SV) : Weak s s.share := ⟨fun h => h.share, fun p x h => by rw [not_flag_share] at h; cases h⟩

theorem ownBlock_getD (v : Value) : v.ownBlock = match v with | .slice (some a) _ _ => some a.block | _ => none := by cases v <;> rfl

/-- THE STEP: one slot is written, others may be weakened. -/
theorem Inv.put {F : Fr} {w w' : World} {K K' : Nat → Nat} {β β' : List Nat} {H H' : Heap} {ρ ρ' : Nat → SV} {tm : Array Value} {x : Option Nat}
    (h : Inv F w K β H ρ tm) (g : Grow w K β w' K' β' x) (hx : ∀ b, x = some b → F.mine b ∧ b ∉ β) (hbox : BoxInv w' K' β' H') (hkw : ∀ b, K' b ≠ 0 → b < w'.heap.size)
    (d : Nat) (v : Value) (hweak : ∀ i, i < F.n → i ≠ d → Weak (ρ i) (ρ' i)) (hv : d < F.n → Rep w' K' β' v (ρ' d))
    (hox : ∀ i p y b, i < F.n → i ≠ d → flagAt (ρ' i) p = some y → (valAt (tm.getD i undef) p).ownBlock = some b → x ≠ some b)
    (hown : d < F.n → ∀ p y, flagAt (ρ' d) p = some y → Owned w' K' β' F.mine (valAt v p) y)
    (hdis : d < F.n → ∀ p p' y y' b, flagAt (ρ' d) p = some y → flagAt (ρ' d) p' = some y' → (valAt v p).ownBlock = some b → (valAt v p').ownBlock = some b → p = p')
    (hdis' : d < F.n → ∀ i p p' y y' b, i < F.n → i ≠ d → flagAt (ρ' i) p = some y → flagAt (ρ' d) p' = some y' → (valAt (tm.getD i undef) p).ownBlock = some b → (valAt v p').ownBlock = some b → False) :
    Inv F w' K' β' H' ρ' (tm.setIfInBounds d v) := by
  have hget : ∀ i, i < F.n → i ≠ d → (tm.setIfInBounds d v).getD i undef = tm.getD i undef := fun i hi hne => by
    simp [Array.getD_eq_getD_getElem?, Ne.symm hne]
  have hgetd : d < F.n → (tm.setIfInBounds d v).getD d undef = v := fun hd => by
    have : d < tm.size := by rw [h.size]; exact hd
    simp [Array.getD, this]
  refine ⟨by simpa using h.size, ?_, hbox, ?_, ?_, hkw, fun i b hb => g.pre i b (h.pre i b hb), ?_, ?_, fun b => Nat.le_trans (h.kle b) (g.le b), fun b j hj => (g.cells b j (Nat.lt_of_lt_of_le hj (h.kle b))).trans (h.cells0 b j hj), g.os.trans h.os, g.tape.trans h.tape, g.output.trans h.output,
    Nat.le_trans h.hs g.size, ?_⟩
  · intro i hi
    by_cases hd : i = d
    · subst hd; rw [hgetd hi]; exact hv hi
    · rw [hget i hi hd]; exact g.rep ((hweak i hi hd).rep (h.rep i hi))
  · intro i p y hi hf
    by_cases hd : i = d
    · subst hd; rw [hgetd hi]; exact hown hi p y hf
    · rw [hget i hi hd]
      have ho := h.own i p y hi ((hweak i hi hd).flag p y hf)
      rcases ho with ho | ⟨b, len, cap, hval, ho⟩
      · exact .inl ho
      · have hob : (valAt (tm.getD i undef) p).ownBlock = some b := by rw [hval]; rfl
        have hxb : some b ≠ x := fun e => hox i p y b hi hd hf hob e.symm
        obtain ⟨cur, hcur, hcs⟩ := ho.row
        have hlt : b < w.heap.size := (Array.getElem?_eq_some_iff.1 hcur).1
        refine .inr ⟨b, len, cap, hval, ho.base, ?_, ?_, ⟨cur, ?_, hcs⟩, ho.len, ho.cap⟩
        · intro hb
          obtain ⟨j, hj⟩ := List.mem_iff_getElem?.1 hb
          by_cases hjl : j < β.length
          · have : β[j]? = some β[j] := List.getElem?_eq_getElem hjl
            have h2 := g.pre j _ this
            rw [hj] at h2
            injection h2 with h2
            exact ho.box (h2 ▸ List.getElem_mem hjl)
          · have := g.new j b (by omega) hj
            omega
        · rw [g.same b hlt hxb]; exact ho.com
        · rw [g.block b hlt ho.box hxb]; exact hcur
  · intro i p i' p' y y' b hi hi' hf hf' hb hb'
    by_cases hd : i = d
    · subst hd
      rw [hgetd hi] at hb
      by_cases hd' : i' = i
      · subst hd'
        rw [hgetd hi] at hb'
        exact ⟨rfl, hdis hi p p' y y' b hf hf' hb hb'⟩
      · rw [hget i' hi' hd'] at hb'
        exact (hdis' hi i' p' p y' y b hi' hd' hf' hf hb' hb).elim
    · rw [hget i hi hd] at hb
      by_cases hd' : i' = d
      · subst hd'
        rw [hgetd hi'] at hb'
        exact (hdis' hi' i p p' y y' b hi hd hf hf' hb hb').elim
      · rw [hget i' hi' hd'] at hb'
        exact h.dis i p i' p' y y' b hi hi' ((hweak i hi hd).flag p y hf) ((hweak i' hi' hd').flag p' y' hf') hb hb'
  · intro i b hi hb
    by_cases hj : i < β.length
    · have : β[i]? = some β[i] := List.getElem?_eq_getElem hj
      have h2 := g.pre i _ this
      rw [hb] at h2
      injection h2 with h2
      exact h2 ▸ h.new i _ hi this
    · exact Nat.le_trans h.hs (g.new i b (by omega) hb)
  · intro b hb hxb
    rw [g.same b (Nat.lt_of_lt_of_le hb h.hs) (fun e => by rcases (hx b e.symm).1 with h1 | h1; omega; exact hxb h1)]
    exact h.kk b hb hxb
  · intro b hb hβ hxb
    have hbβ : b ∉ β := by
      intro hm
      obtain ⟨j, hj⟩ := List.mem_iff_getElem?.1 hm
      by_cases hjl : j < F.β0.length
      · have h1 : F.β0[j]? = some F.β0[j] := List.getElem?_eq_getElem hjl
        have h2 := h.pre j _ h1
        rw [hj] at h2
        injection h2 with h2
        exact hβ (h2 ▸ List.getElem_mem hjl)
      · have := h.new j b (by omega) hj
        omega
    rw [g.block b (Nat.lt_of_lt_of_le hb h.hs) hbβ (fun e => by rcases (hx b e.symm).1 with h1 | h1; omega; exact hxb h1)]
    exact h.old b hb hβ hxb

end Go.Sx
