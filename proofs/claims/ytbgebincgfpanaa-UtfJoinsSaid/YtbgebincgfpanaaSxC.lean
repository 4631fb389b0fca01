/-
  The shadow machine, part 3: one operation, those that make no memory.
-/
import Derived.Test.YtbgebincgfpanaaSxB
namespace Go.Sx
open Go Go.RowKit

def putE (ρ : Nat → SV) (d : Option Nat) (s : SV) : Nat → SV := match d with
  | some d => upd ρ d s
  | none => ρ

section
variable {F : Fr} {w : World} {K : Nat → Nat} {β : List Nat} {H : Heap} {ρ : Nat → SV} {a : Act}

/-- A slot is written in the same world; others may be weakened. -/
theorem Inv.put_here (h : Inv F w K β H ρ a.tmps) {ρ1 : Nat → SV} (hweak : ∀ i, i < F.n → Weak (ρ i) (ρ1 i)) (d : Option Nat) (r : Value) (s : SV) (hr : Rep w K β r s)
    (hown : ∀ p y, flagAt s p = some y → Owned w K β F.mine (valAt r p) y)
    (hdis : ∀ p p' y y' b, flagAt s p = some y → flagAt s p' = some y' → (valAt r p).ownBlock = some b → (valAt r p').ownBlock = some b → p = p')
    (hdis' : ∀ i p p' y y' b, i < F.n → flagAt (ρ1 i) p = some y → flagAt s p' = some y' → (valAt (a.tmps.getD i undef) p).ownBlock = some b → (valAt r p').ownBlock = some b → False) :
    Inv F w K β H (putE ρ1 d s) (a.put d r).tmps := by
  have hu : ∀ d, upd ρ1 d s d = s := fun d => by simp [upd]
  have hn : ∀ d i, i ≠ d → upd ρ1 d s i = ρ1 i := fun d i hi => by simp [upd, hi]
  cases d with
  | none =>
    have := h.put (x := none) (ρ' := ρ1) (Grow.refl w K β none) (by intro b hb; cases hb) h.box h.kw F.n undef (fun i hi _ => hweak i hi) (fun hd => absurd hd (Nat.lt_irrefl _))
      (fun i p y b _ _ _ _ e => by cases e) (fun hd => absurd hd (Nat.lt_irrefl _)) (fun hd => absurd hd (Nat.lt_irrefl _)) (fun hd => absurd hd (Nat.lt_irrefl _))
    have he : a.tmps.setIfInBounds F.n undef = a.tmps := by rw [← h.size]; exact Array.setIfInBounds_eq_of_size_le (Nat.le_refl _)
    rw [he] at this
    exact this
  | some d =>
    exact h.put (x := none) (ρ' := upd ρ1 d s) (Grow.refl w K β none) (by intro b hb; cases hb) h.box h.kw d r (fun i hi hd => by rw [hn d i hd]; exact hweak i hi) (fun _ => by rw [hu]; exact hr)
      (fun i p y b _ _ _ _ e => by cases e) (fun _ => by rw [hu]; exact hown) (fun _ => by rw [hu]; exact hdis)
      (fun _ i p p' y y' b hi hd hf hf' => by rw [hn d i hd] at hf; rw [hu] at hf'; exact hdis' i p p' y y' b hi hf hf')

/-- A slot is written by a value that bears no right to append. -/
theorem Inv.put_plain (h : Inv F w K β H ρ a.tmps) (d : Option Nat) (r : Value) (s : SV) (hr : Rep w K β r s) (hf : ∀ p, flagAt s p = none) : Inv F w K β H (putE ρ d s) (a.put d r).tmps :=
  h.put_here (fun i _ => Weak.refl _) d r s hr (fun p y e => by rw [hf] at e; cases e) (fun p p' y y' b e => by rw [hf] at e; cases e) (fun i p p' y y' b _ _ e => by rw [hf] at e; cases e)

theorem Inv.drew (h : Inv F w K β H ρ a.tmps) : Inv F w.drew K β H ρ a.tmps :=
  ⟨h.size, fun i hi => Rep.mono (w := w) (w' := w.drew) (fun _ _ _ => rfl) (fun _ => Nat.le_refl _) (fun _ _ e => e) (h.rep i hi),
    ⟨h.box.1, h.box.2.1, fun i b cs hb hc => let ⟨k0, vs, e, h1, h2, h3, h4⟩ := h.box.2.2 i b cs hb hc; ⟨k0, vs, e, h1, h2, h3, fun j v c hv hcc => Rep.mono (w := w) (w' := w.drew) (fun _ _ _ => rfl) (fun _ => Nat.le_refl _) (fun _ _ e => e) (h4 j v c hv hcc)⟩⟩,
    fun i p x hi hf => by
      rcases h.own i p x hi hf with ho | ⟨g, len, cap, hv, ho⟩
      · exact .inl ho
      · exact .inr ⟨g, len, cap, hv, ⟨ho.base, ho.box, ho.com, ho.row, ho.len, ho.cap⟩⟩,
    h.dis, h.kw, h.pre, h.new, h.kk, h.kle, h.cells0, h.os, h.tape, h.output, h.hs, h.old⟩
end

theorem constSV_rep {w : World} {K : Nat → Nat} {β : List Nat} {v : Value} {s : SV} (h : constSV v = some s) : Rep w K β v s ∧ ∀ p, flagAt s p = none := by
  unfold constSV at h
  split at h <;> cases h
  · exact ⟨.bool _, flag_none_bool _⟩
  · exact ⟨.int _ _, flag_none_int _ _⟩
  · exact ⟨.str _, flag_none_str _⟩
  · exact ⟨.nil _ _, fun p => by cases p <;> rfl⟩

def Operand.inB (n : Nat) : Operand → Bool
  | .tmp t => decide (t < n)
  | _ => true

theorem valE_rep {F : Fr} {w : World} {K : Nat → Nat} {β : List Nat} {H : Heap} {ρ : Nat → SV} {a : Act} (h : Inv F w K β H ρ a.tmps) {x : Operand} (hx : Operand.inB F.n x = true) {s : SV}
    (hv : valE ρ x = some s) : Rep w K β (a.eval x) s := by
  cases x with
  | tmp t =>
    cases hv
    exact h.rep t (by simpa [Operand.inB] using hx)
  | const v => exact (constSV_rep hv).1
  | global g => cases hv
  | func f =>
    cases hv
    exact .fn _ [] [] [] [] rfl rfl (fun j v c e => by simp at e) (fun j v c e => by simp at e)

/-- The cells that an element's place or a list's element holds, as one value of a type. -/
def cellsVal (P : Program) (t : TypeId) (cs : List SV) : Option SV :=
  match P.underlying t with
  | some (.struct _) => if P.cellsOf t ≤ cs.length then some (.agg (cs.take (P.cellsOf t))) else none
  | some (.array _ _) => if P.cellsOf t ≤ cs.length then some (.agg (cs.take (P.cellsOf t))) else none
  | some _ => match cs with
    | c :: _ => some c.share
    | [] => none
  | none => none

def unSV (op : UnOp) (a : SV) : Option SV :=
  match op, a with
  | .neg, .int k n => some (.int k (k.wrap (0 - n)))
  | .xor, .int k n => some (.int k (bits .xor k (if k.signed then -1 else k.max) n))
  | .not, .bool b => some (.bool !b)
  | _, _ => none

def convSV (P : Program) (dst : TypeId) (a : SV) : Option SV :=
  match P.underlying dst, a with
  | some (.int k), .int _ n => some (.int k (k.wrap n))
  | _, _ => none

def lenE (P : Program) (t : TypeId) (s : SV) : Option SV :=
  match P.underlying t, s with
  | some (.slice _), .lst _ k cs => if k = 1 then some (.int .i64 cs.length) else if 0 < k then some (.int .i64 ((cs.length / k : Nat) : Int)) else none
  | some .string, .str s => some (.int .i64 s.length)
  | some (.array n _), _ => some (.int .i64 n)
  | _, _ => none

/-- A bound of a slice expression; d where there is none. -/
def boundE (ρ : Nat → SV) (lo : Option Operand) (d : Int) : Option Int :=
  match lo with
  | none => some d
  | some l => match valE ρ l with
    | some (.int _ n) => some n
    | _ => none

/-- The place of an element. -/
def idxE (k : Nat) (cs : List SV) (n : Int) : Option SV := if 0 < k ∧ 0 ≤ n ∧ (n.toNat + 1) * k ≤ cs.length then some (.ep ((cs.drop (n.toNat * k)).take k)) else none

/-- A slice of a slice. -/
def sliceE (k : Nat) (cs : List SV) (l h : Int) : Option SV := if 0 < k ∧ 0 ≤ l ∧ l ≤ h ∧ h.toNat * k ≤ cs.length then some (.lst none k ((cs.take (h.toNat * k)).drop (l.toNat * k))) else none

def callE (P : Program) (c : Call) (ρ : Nat → SV) : Option SV :=
  match c.callee with
  | .builtin .len => match c.args.toList, c.argTypes.toList with
    | [x], [t] => (valE ρ x).bind (lenE P t)
    | _, _ => none
  | _ => none

/-- Operations that make no memory and write none: the value. Rights to append are not handed on. -/
def pureEval (P : Program) (o : Oper) (ρ : Nat → SV) (H : Heap) : Option SV :=
  match o.op with
  | .move x => (valE ρ x).map SV.share
  | .assign x => (valE ρ x).map SV.share
  | .pick c a b => match valE ρ c with
    | some (.bool true) => (valE ρ a).map SV.share
    | some (.bool false) => (valE ρ b).map SV.share
    | _ => none
  | .binOp op t x y _ => match valE ρ x, valE ρ y with
    | some a, some b => binSV (isBoolT P t) op a b
    | _, _ => none
  | .unOp op _ x => match valE ρ x with
    | some a => unSV op a
    | none => none
  | .convert src dst x => match P.underlying src, valE ρ x with
    | some _, some a => convSV P dst a
    | _, _ => none
  | .extract t i => match valE ρ t with
    | some (.tup vs) => match vs[i]? with
      | some s => some s.share
      | none => none
    | _ => none
  | .nilCheck x => match valE ρ x with
    | some (.ptr i off) => some (.ptr i off)
    | some (.ep cs) => some (.ep cs)
    | some (.fn (.func f) a b) => some (.fn (.func f) a b)
    | _ => none
  | .indexAddr t x i => match P.underlying t, valE ρ x, valE ρ i with
    | some (.slice e), some (.lst _ k cs), some (.int _ n) => if k = P.cellsOf e then idxE k cs n else none
    | some (.array len e), some (.ep cs), some (.int _ n) => if 0 ≤ n ∧ n < len ∧ (n.toNat + 1) * P.cellsOf e ≤ cs.length ∧ 0 < P.cellsOf e then some (.ep ((cs.drop (n.toNat * P.cellsOf e)).take (P.cellsOf e))) else none
    | some (.array len e), some (.ptr b off), some (.int _ n) => if 0 ≤ n ∧ n < len ∧ 0 < P.cellsOf e then some (.ptr b (off + n.toNat * P.cellsOf e)) else none
    | _, _, _ => none
  | .fieldAddr s x f => match P.underlying s with
    | some (.struct fs) => match fs[f]?, valE ρ x with
      | some fd, some (.ep cs) => if 0 < P.cellsOf fd.type ∧ fd.offset ≤ cs.length then some (.ep (cs.drop fd.offset)) else none
      | some fd, some (.ptr b off) => if 0 < P.cellsOf fd.type then some (.ptr b (off + fd.offset)) else none
      | _, _ => none
    | _ => none
  | .field t x f => match P.underlying t with
    | some (.struct fs) => match fs[f]?, valE ρ x with
      | some fd, some (.agg cs) => cellsVal P fd.type (cs.drop fd.offset)
      | _, _ => none
    | _ => none
  | .load t x => match valE ρ x with
    | some (.ep cs) => cellsVal P t cs
    | some (.ptr b off) => match H[b]? with
      | some cs => cellsVal P t (cs.drop off)
      | none => none
    | _ => none
  | .slice t x lo hi mx => match P.underlying t, valE ρ x, mx with
    | some (.slice e), some (.lst _ k cs), none =>
      match boundE ρ lo 0,
        boundE ρ hi ((cs.length / k : Nat) : Int) with
      | some l, some h => if k = P.cellsOf e then sliceE k cs l h else none
      | _, _ => none
    | some .string, some (.str s), none =>
      match boundE ρ lo 0,
        boundE ρ hi (s.length : Int) with
      | some l, some h => if 0 ≤ l ∧ l ≤ h ∧ h.toNat ≤ s.length then some (.str ((s.take h.toNat).drop l.toNat)) else none
      | _, _ => none
    | _, _, _ => none
  | .index t x i => match P.underlying t, valE ρ x, valE ρ i with
    | some .string, some (.str s), some (.int _ n) => if 0 ≤ n then (match s[n.toNat]? with | some b => some (.int .u8 b.toNat) | none => none) else none
    | some (.array len e), some (.agg cs), some (.int _ n) => if 0 ≤ n ∧ n < len then cellsVal P e (cs.drop (n.toNat * P.cellsOf e)) else none
    | _, _, _ => none
  | .call c => callE P c ρ
  | .makeFunc fn first captured => match first.toList.mapM (valE ρ), captured.toList.mapM (valE ρ) with
    | some a, some b => some (.fn fn a b)
    | _, _ => none
  | _ => none

section
variable {P : Program} {F : Fr} {w : World} {K : Nat → Nat} {β : List Nat} {H : Heap} {ρ : Nat → SV} {a : Act} {o : Oper}

def PureOk (P : Program) (w : World) (K : Nat → Nat) (β : List Nat) (o : Oper) (a : Act) (s : SV) : Prop :=
  ∃ r, (execOp a.eval o).run P w = .ok (.value r) w ∧ Rep w K β r s ∧ ∀ p, flagAt s p = none

theorem run_value {s : Sem Value} {r : Value} {w w' : World} (h : s.run P w = .ok r w') : (do pure (Next.value (← s)) : Sem Next).run P w = .ok (.value r) w' := by
  simp [h]

theorem flag_ep (cs : List SV) (p : Option Nat) : flagAt (.ep cs) p = none := by cases p <;> rfl
theorem flag_ptr (i j : Nat) (p : Option Nat) : flagAt (.ptr i j) p = none := by cases p <;> rfl
theorem flag_agg (cs : List SV) (p : Option Nat) : flagAt (.agg cs) p = none := by cases p <;> rfl
theorem flag_fn (f : Fn) (a b : List SV) (p : Option Nat) : flagAt (.fn f a b) p = none := by cases p <;> rfl
theorem flag_lst (k : Nat) (cs : List SV) (p : Option Nat) : flagAt (.lst none k cs) p = none := by cases p <;> rfl

theorem add_lit (b off n : Nat) : (⟨b, off, none⟩ : Addr).add n = ⟨b, off + n, none⟩ := by
  unfold Addr.add; split <;> simp_all

/-- Cells in a row of the world that are shown by shadow cells. -/
structure RowAt (w : World) (K : Nat → Nat) (β : List Nat) (b off : Nat) (vs : List Value) (cs : List SV) : Prop where
  len : cs.length = vs.length
  mem : ∀ j v, vs[j]? = some v → w.cell? ⟨b, off + j, none⟩ = some v
  one : ∀ c ∈ cs, c.one = true
  rep : ∀ (j : Nat) (v : Value) (c : SV), vs[j]? = some v → cs[j]? = some c → Rep w K β v c

theorem RowAt.drop {b off : Nat} {vs : List Value} {cs : List SV} (h : RowAt w K β b off vs cs) (n : Nat) : RowAt w K β b (off + n) (vs.drop n) (cs.drop n) :=
  ⟨by simp [h.len], fun j v hj => by rw [Nat.add_assoc]; exact h.mem (n + j) v (by simpa using hj), fun c hc => h.one c (List.mem_of_mem_drop hc), fun j v c hv hc => h.rep (n + j) v c (by simpa using hv) (by simpa using hc)⟩

theorem RowAt.take {b off : Nat} {vs : List Value} {cs : List SV} (h : RowAt w K β b off vs cs) (n : Nat) : RowAt w K β b off (vs.take n) (cs.take n) :=
  ⟨by simp [h.len], fun j v hj => h.mem j v (by rw [List.getElem?_take] at hj; split at hj <;> first | exact hj | cases hj), fun c hc => h.one c (List.mem_of_mem_take hc), fun j v c hv hc =>
    h.rep j v c (by rw [List.getElem?_take] at hv; split at hv <;> first | exact hv | cases hv) (by rw [List.getElem?_take] at hc; split at hc <;> first | exact hc | cases hc)⟩

theorem oneCell_of {v : Value} {c : SV} (h : Rep w K β v c) (h1 : c.one = true) : v.oneCell' = true := by
  cases h <;> first | rfl | cases h1

theorem share_flag (s : SV) : ∀ p, flagAt s.share p = none := not_flag_share s

theorem cellsVal_load {t : TypeId} {b off : Nat} {vs : List Value} {cs : List SV} {s : SV} (h : RowAt w K β b off vs cs) (hv : cellsVal P t cs = some s) :
    ∃ r, (loadVar t ⟨b, off, none⟩).run P w = .ok r w ∧ Rep w K β r s ∧ (∀ p, flagAt s p = none) := by
  have hagg : (if P.cellsOf t ≤ cs.length then some (SV.agg (cs.take (P.cellsOf t))) else none) = some s → (isAgg t).run P w = .ok true w → P.underlying t ≠ none →
      ∃ r, (loadVar t ⟨b, off, none⟩).run P w = .ok r w ∧ Rep w K β r s ∧ (∀ p, flagAt s p = none) := by
    intro h1 h2 h3
    split at h1 <;> cases h1
    rename_i hle
    obtain ⟨i, hi⟩ : ∃ i, P.info? t = some i := by
      cases hi : P.info? t with
      | none => exact absurd (by simp [Program.underlying, hi]) h3
      | some i => exact ⟨i, rfl⟩
    have hsz : P.cellsOf t = i.size := by simp [Program.cellsOf, hi]
    have ht := h.take (P.cellsOf t)
    refine ⟨.agg (vs.take (P.cellsOf t)).toArray, ?_, .agg _ _ (by simp [h.len]) ht.one ht.rep, flag_agg _⟩
    have hl : (vs.take (P.cellsOf t)).length = P.cellsOf t := by simp; rw [← h.len]; omega
    have := run_loadCells_list (P := P) (w := w) ⟨b, off, none⟩ (vs.take (P.cellsOf t)) (fun j v hj => by rw [add_lit]; exact ht.mem j v hj)
    rw [hl] at this
    simp [loadVar, h2, sizeOf, typeInfo, hi, ← hsz, this]
  unfold cellsVal at hv
  split at hv
  · rename_i fs hu
    exact hagg hv (by simp [isAgg, run_underlying hu]) (by simp [hu])
  · rename_i n e hu
    exact hagg hv (by simp [isAgg, run_underlying hu]) (by simp [hu])
  · rename_i d hns hna hu
    split at hv <;> cases hv
    rename_i c cs'
    cases vs with
    | nil => have := h.len; simp at this
    | cons v vs' =>
      refine ⟨v, ?_, (h.rep 0 v c rfl rfl).share, share_flag _⟩
      have hm := h.mem 0 v rfl
      simp only [Nat.add_zero] at hm
      have hia : (isAgg t).run P w = .ok false w := by
        simp only [isAgg, Sem.run_bind, run_underlying hu, Result.andThen_ok]
        cases d <;> first | rfl | exact (hns _ rfl).elim | exact (hna _ _ rfl).elim
      simp [loadVar, hia, run_load, hm]
  · cases hv
end

end Go.Sx
