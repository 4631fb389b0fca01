/-
  The shadow machine, part 7: all operations but calls.
-/
import Derived.Test.YtbgebincgfpanaaSxF
import Derived.Laws.MakeOwn
import Derived.Laws.BytesString
namespace Go.Sx
open Go Go.RowKit

def SV.cells? : SV → Option (List SV)
  | .agg cs => some cs
  | s => if s.one then some [s.share1] else none

def constCells (v : Value) : Option (List SV) := v.cells.toList.mapM constSV

/-- The zero cells of a type. -/
def zeroS (P : Program) (t : TypeId) : Option (List SV) :=
  match P.info? t with
  | some i => match i.zero with
    | some z => match constCells z with
      | some cs => if cs.length = i.size then some cs else none
      | none => none
    | none => none
  | none => none

def splice (cs : List SV) (off : Nat) (ps : List SV) : List SV := cs.take off ++ (ps ++ cs.drop (off + ps.length))

def fillS (ρ : Nat → SV) (place : Nat → Option (Nat × Nat)) (cs : List SV) : List (Nat × Operand) → Option (List SV)
  | [] => some cs
  | (i, x) :: rest => match place i, (valE ρ x).bind SV.cells? with
    | some (off, size), some ps => if ps.length = size ∧ off + size ≤ cs.length then fillS ρ place (splice cs off ps) rest else none
    | _, _ => none

/-- The places of a struct's fields: offset and cells. -/
def placesOf (P : Program) (t : TypeId) : Option (List (Nat × Nat)) :=
  match P.underlying t with
  | some (.struct fs) => fs.toList.mapM fun f => (P.info? f.type).map fun i => (f.offset, i.size)
  | _ => none

/-- The cells of an array's element. -/
def elemCells (P : Program) (t : TypeId) : Option Nat :=
  match P.underlying t with
  | some (.array _ e) => (P.info? e).map fun i => i.size
  | _ => none

def elemOk (P : Program) (e k : Nat) : Bool :=
  match P.info? e with
  | some i => (i.size == k) && decide (0 < k) && decide (i.bytes ≤ 4096) && (match i.zero with
    | some z => z.cells.size == i.size
    | none => false)
  | none => false

def srcTy (P : Program) (tx : TypeId) (s : SV) : Bool :=
  match s, P.underlying tx with
  | .lst _ _ _, some (.slice _) => true
  | .str _, some .string => true
  | _, _ => false

def appendE (P : Program) (c : Call) (ρ : Nat → SV) : Option (SV × (Nat → SV)) :=
  match c.args.toList, c.argTypes.toList with
  | [.tmp t0, x], [t, tx] => match ρ t0, P.underlying t, valE ρ x with
    | .lst (some e) k cs, some (.slice e'), some sx => match srcCells k sx with
      | some (_, cs2) => if e = e' ∧ elemOk P e k = true ∧ srcTy P tx sx = true ∧ Room (cs.length + cs2.length) then some (.lst (some e) k (cs ++ cs2), upd ρ t0 (.lst none k cs)) else none
      | none => none
    | _, _, _ => none
  | _, _ => none

/-- Does the operation take its first operand's right to append? -/
def takes (d : Nat) (o : Oper) : Bool :=
  match o.op with
  | .call c => match c.callee, c.args.toList with
    | .builtin .append, .tmp t :: _ => decide (t = d)
    | .value _, .tmp t :: _ => decide (t = d) && (match c.argTypes.toList with
      | t0 :: _ => decide (t0 = o.type)
      | [] => false)
    | _, _ => false
  | .assign (.tmp t) => decide (t = d)
  | _ => false

def takenIn (d : Option Nat) (rest : List Oper) : Bool :=
  match d with
  | some d => rest.any (takes d)
  | none => false

def moveE (P : Program) (o : Oper) (tk : Bool) (ρ : Nat → SV) (x : Operand) : Option (SV × (Nat → SV)) :=
  match x with
  | .tmp t => match ρ t with
    | .lst (some e) k cs => if tk then some (.lst (some e) k cs, upd ρ t (.lst none k cs)) else some (.lst none k cs, ρ)
    | .tup vs => some (.tup vs, upd ρ t (SV.tup vs).share)
    | s => some (s, ρ)
  | .const (.slice none 0 0) => match P.underlying o.type with
    | some (.slice e) => some (.lst (some e) (P.cellsOf e) [], ρ)
    | _ => some (.lst none 1 [], ρ)
  | x => (valE ρ x).map fun s => (s, ρ)

def extractE (ρ : Nat → SV) (x : Operand) (i : Nat) : Option (SV × (Nat → SV)) :=
  match x with
  | .tmp t => match ρ t with
    | .tup vs => match vs[i]? with
      | some (.lst (some e) k cs) => some (.lst (some e) k cs, upd ρ t (.tup (vs.set i (.lst none k cs))))
      | some s => some (s.share, ρ)
      | none => none
    | _ => none
  | _ => none

def storeE (P : Program) (t : TypeId) (a s : SV) (H : Heap) : Option Heap :=
  match a, s.cells? with
  | .ptr b off, some ps => match H[b]? with
    | some cs => if ps.length = P.cellsOf t ∧ 0 < ps.length ∧ off + ps.length ≤ cs.length then some (H.set b (splice cs off ps)) else none
    | none => none
  | _, _ => none

def isNil : Value → Bool
  | .slice none 0 0 => true
  | _ => false

/-- One operation but calls: the value for the slot, the other slots, the boxes. -/
def opEval (P : Program) (o : Oper) (rest : List Oper) (ρ : Nat → SV) (H : Heap) : Option (SV × (Nat → SV) × Heap) :=
  match o.op with
  | .move x => (moveE P o (takenIn o.dst rest) ρ x).map fun r => (r.1, r.2, H)
  | .assign x => (moveE P o true ρ x).map fun r => (r.1, r.2, H)
  | .extract x i => (extractE ρ x i).map fun r => (r.1, r.2, H)
  | .call c => match c.callee with
    | .builtin .append => (appendE P c ρ).map fun r => (r.1, r.2, H)
    | _ => (pureEval P o ρ H).map fun s => (s, ρ, H)
  | .box _ x => match (valE ρ x).bind SV.cells? with
    | some cs => some (.ptr H.length 0, ρ, H ++ [cs])
    | none => none
  | .alloc t => match zeroS P t with
    | some cs => some (.ptr H.length 0, ρ, H ++ [cs])
    | none => none
  | .store t a x => match valE ρ a, valE ρ x with
    | some sa, some sx => (storeE P t sa sx H).map fun H' => (.undef, ρ, H')
    | _, _ => none
  | .build t parts => match zeroS P t, placesOf P t, elemCells P t with
    | some zs, some pl, _ => (fillS ρ (fun i => pl[i]?) zs parts.toList).map fun cs => (.agg cs, ρ, H)
    | some zs, none, some k => (fillS ρ (fun i => some (i * k, k)) zs parts.toList).map fun cs => (.agg cs, ρ, H)
    | _, _, _ => none
  | .buildSlice t len parts => match P.underlying t with
    | some (.slice e) => match zeroS P e with
      | some zs => if elemOk P e (P.cellsOf e) = true ∧ len * P.cellsOf e ≤ 16777216 then
          (fillS ρ (fun i => some (i * P.cellsOf e, P.cellsOf e)) (List.replicate len zs).flatten parts.toList).map fun cs => (.lst (some e) (P.cellsOf e) cs, ρ, H)
        else none
      | none => none
    | _ => none
  | .makeSlice t l c => match P.underlying t, valE ρ l, valE ρ c with
    | some (.slice e), some (.int _ l), some (.int _ c) => match zeroS P e with
      | some zs => if elemOk P e (P.cellsOf e) = true ∧ 0 ≤ l ∧ l ≤ c ∧ c ≤ 4294967296 then some (.lst (some e) (P.cellsOf e) (List.replicate l.toNat zs).flatten, ρ, H) else none
      | none => none
    | _, _, _ => none
  | _ => (pureEval P o ρ H).map fun s => (s, ρ, H)

section
variable {P : Program} {F : Fr} {w : World} {K : Nat → Nat} {β : List Nat} {H : Heap} {ρ : Nat → SV} {a : Act} {o : Oper}

theorem res_pure (h : Inv F w K β H ρ a.tmps) {s : SV} (hp : PureOk P w K β o a s) : OpRes P F o a w (putE ρ o.dst s) H :=
  let ⟨r, hr, hrep, hf⟩ := hp; ⟨r, w, K, β, .inl hr, h.put_plain o.dst r s hrep hf⟩

theorem move_sound (h : Inv F w K β H ρ a.tmps) {x : Operand} {tk : Bool} (ho : o.op = .move x ∨ o.op = .assign x) (hx : Operand.inB F.n x = true) {s : SV} {ρ1 : Nat → SV}
    (hs : moveE P o tk ρ x = some (s, ρ1)) : OpRes P F o a w (putE ρ1 o.dst s) H := by
  have he : (execOp a.eval o).run P w = .ok (.value (a.eval x)) w := by unfold execOp; rcases ho with ho | ho <;> rw [ho] <;> rfl
  unfold moveE at hs
  split at hs
  · rename_i t
    have ht : t < F.n := by simpa [Operand.inB] using hx
    split at hs
    · rename_i e k cs hv
      split at hs <;> cases hs
      · have := move_all (P := P) h ht ho
        rw [hv] at this
        exact this
      · have hr := h.rep t ht
        rw [hv] at hr
        exact res_pure h ⟨_, he, hr.lst_any, flag_lst _ _⟩
    · rename_i vs hv
      cases hs
      have := move_all (P := P) h ht ho
      rw [hv] at this
      exact this
    · rename_i h1 h2
      cases hs
      refine res_pure h ⟨_, he, h.rep t ht, fun p => ?_⟩
      cases hf : flagAt (ρ t) p with
      | none => rfl
      | some y =>
        exfalso
        cases p with
        | none =>
          simp only [flagAt] at hf
          first
            | cases hf
            | (split at hf
               · rename_i e k cs hv; exact h1 _ _ _ hv
               · cases hf)
        | some j =>
          simp only [flagAt] at hf
          first
            | cases hf
            | (split at hf
               · rename_i vs hv; exact h2 _ hv
               · cases hf)
  · split at hs
    · cases hs; exact nil_own h ho _ _
    · cases hs; exact res_pure h ⟨_, he, .nil _ _, flag_lst _ _⟩
  · cases hxe : valE ρ x with
    | none => rw [hxe] at hs; cases hs
    | some s0 =>
      rw [hxe] at hs
      cases hs
      refine res_pure h ⟨_, he, valE_rep h hx hxe, fun p => ?_⟩
      cases x with
      | tmp t => rename_i h1 _; exact (h1 t rfl).elim
      | const v => exact (constSV_rep (w := w) (K := K) (β := β) hxe).2 p
      | global g => cases hxe
      | func f => cases hxe; exact flag_fn _ _ _ _

theorem extract_sound (h : Inv F w K β H ρ a.tmps) {x : Operand} {i : Nat} (ho : o.op = .extract x i) (hx : Operand.inB F.n x = true) {s : SV} {ρ1 : Nat → SV}
    (hs : extractE ρ x i = some (s, ρ1)) : OpRes P F o a w (putE ρ1 o.dst s) H := by
  unfold extractE at hs
  split at hs
  · rename_i t
    have ht : t < F.n := by simpa [Operand.inB] using hx
    split at hs
    · rename_i vs hv
      split at hs
      · rename_i e k cs hi
        cases hs
        exact extract_own h ht ho hv hi
      · rename_i s0 _ hi
        cases hs
        refine res_pure h (extract_ok h ho hx ?_)
        simp only [pureEval, ho, valE, hv, hi]
      · cases hs
    · cases hs
  · cases hs

/-- A list in a slot that was made out of the list in slot t0, or is new. -/
theorem put_grown (h : Inv F w K β H ρ a.tmps) {w' : World} {K' : Nat → Nat} {xo : Option Nat} {t0 e k : Nat} {cs cs' : List SV} {r : Value} (ht : t0 < F.n) (hv : ρ t0 = .lst (some e) k cs)
    (g : Grow w K β w' K' β xo) (hxo : xo = none ∨ xo = (a.tmps.getD t0 undef).ownBlock) (hbox : BoxInv w' K' β H) (hkw : ∀ b, K' b ≠ 0 → b < w'.heap.size) (d : Option Nat)
    (hrep : Rep w' K' β r (.lst (some e) k cs')) (hown : Owned w' K' β F.mine r (e, k)) (hb : r.ownBlock = (a.tmps.getD t0 undef).ownBlock ∨ r.ownBlock = some w.heap.size) :
    Inv F w' K' β H (putE (upd ρ t0 (.lst none k cs)) d (.lst (some e) k cs')) (a.put d r).tmps := by
  have hfl : flagAt (ρ t0) none = some (e, k) := by rw [hv]; rfl
  have hweak : Weak (ρ t0) (.lst none k cs) := by rw [hv]; exact Weak.share (.lst (some e) k cs)
  have hw : ∀ i, Weak (ρ i) (upd ρ t0 (.lst none k cs) i) := fun i => weak_upd hweak i
  have hold : ∀ i p y b, i < F.n → flagAt (ρ i) p = some y → (valAt (a.tmps.getD i undef) p).ownBlock = some b → b < w.heap.size ∧ F.mine b ∧ b ∉ β := by
    intro i p y b hi hf hb
    rcases h.own i p y hi hf with ho | ⟨g, l, c, hv, ho⟩
    · rw [ho] at hb; cases hb
    · rw [hv] at hb; cases hb
      obtain ⟨cur, hcur, _⟩ := ho.row
      exact ⟨(Array.getElem?_eq_some_iff.1 hcur).1, ho.base, ho.box⟩
  have hnot : ∀ i p y b, i < F.n → flagAt (upd ρ t0 (.lst none k cs) i) p = some y → (valAt (a.tmps.getD i undef) p).ownBlock = some b → (a.tmps.getD t0 undef).ownBlock ≠ some b := by
    intro i p y b hi hf hb hb'
    obtain ⟨rfl, rfl⟩ := h.dis i p t0 none y (e, k) b hi ht ((hw i).flag p y hf) hfl hb hb'
    simp [upd, flagAt] at hf
  have hx : ∀ b, xo = some b → F.mine b ∧ b ∉ β := by
    intro b hb
    rcases hxo with h1 | h1
    · rw [h1] at hb; cases hb
    · rw [h1] at hb; exact (hold t0 none _ b ht hfl hb).2
  have hox : ∀ i p y b, i < F.n → flagAt (upd ρ t0 (.lst none k cs) i) p = some y → (valAt (a.tmps.getD i undef) p).ownBlock = some b → xo ≠ some b := by
    intro i p y b hi hf hb hxb
    rcases hxo with h1 | h1
    · rw [h1] at hxb; cases hxb
    · rw [h1] at hxb; exact hnot i p y b hi hf hb hxb
  have hu : ∀ d s, upd (upd ρ t0 (.lst none k cs)) d s d = s := fun d s => by simp [upd]
  have hn : ∀ d s i, i ≠ d → upd (upd ρ t0 (.lst none k cs)) d s i = upd ρ t0 (.lst none k cs) i := fun d s i hi => by simp [upd, hi]
  cases d with
  | none =>
    have := h.put (x := xo) (ρ' := upd ρ t0 (.lst none k cs)) g hx hbox hkw F.n undef (fun i hi _ => hw i) (fun hd => absurd hd (Nat.lt_irrefl _))
      (fun i p y b hi _ hf hb => hox i p y b hi hf hb) (fun hd => absurd hd (Nat.lt_irrefl _)) (fun hd => absurd hd (Nat.lt_irrefl _)) (fun hd => absurd hd (Nat.lt_irrefl _))
    have he : a.tmps.setIfInBounds F.n undef = a.tmps := by rw [← h.size]; exact Array.setIfInBounds_eq_of_size_le (Nat.le_refl _)
    rw [he] at this
    exact this
  | some d =>
    refine h.put (x := xo) (ρ' := upd (upd ρ t0 (.lst none k cs)) d (.lst (some e) k cs')) g hx hbox hkw d _ (fun i hi hd => by rw [hn d _ i hd]; exact hw i) (fun _ => by rw [hu]; exact hrep)
      (fun i p y b hi hd hf hb => by rw [hn d _ i hd] at hf; exact hox i p y b hi hf hb) (fun _ p y hf => ?_) (fun _ p p' y y' b hf hf' _ _ => ?_) (fun _ i p p' y y' b hi hd hf hf' hb1 hb' => ?_)
    · rw [hu] at hf
      cases p with
      | none => cases hf; exact hown
      | some j => cases hf
    · rw [hu] at hf hf'
      exact (flag_lst_top hf).trans (flag_lst_top hf').symm
    · rw [hn d _ i hd] at hf
      rw [hu] at hf'
      cases p' with
      | some j => cases hf'
      | none =>
        have hb2 : r.ownBlock = some b := hb'
        rcases hb with h1 | h1
        · exact hnot i p y b hi hf hb1 (h1 ▸ hb2)
        · rw [h1] at hb2; cases hb2
          exact absurd (hold i p y _ hi ((hw i).flag p y hf) hb1).1 (Nat.lt_irrefl _)

theorem elemOk_spec {e k : Nat} (h : elemOk P e k = true) : ∃ i z, P.info? e = some i ∧ i.zero = some z ∧ z.cells.size = i.size ∧ i.size = k ∧ 0 < k ∧ i.bytes ≤ 4096 := by
  unfold elemOk at h
  split at h
  · rename_i i hi
    simp only [Bool.and_eq_true, beq_iff_eq, decide_eq_true_eq] at h
    obtain ⟨⟨⟨h1, h2⟩, h3⟩, h4⟩ := h
    split at h4
    · rename_i z hz
      exact ⟨i, z, hi, hz, by simpa using h4, h1, h2, h3⟩
    · cases h4
  · cases h

theorem srcTy_str {tx : TypeId} {bs : List UInt8} (h : srcTy P tx (.str bs) = true) : P.underlying tx = some .string := by
  cases hu : P.underlying tx with
  | none => simp [srcTy, hu] at h
  | some d => cases d <;> first | rfl | simp [srcTy, hu] at h

theorem srcTy_lst {tx : TypeId} {q : Option TypeId} {k : Nat} {cs : List SV} (h : srcTy P tx (.lst q k cs) = true) : ∃ e, P.underlying tx = some (.slice e) := by
  cases hu : P.underlying tx with
  | none => simp [srcTy, hu] at h
  | some d => cases d <;> first | exact ⟨_, rfl⟩ | simp [srcTy, hu] at h

theorem append_sound (h : Inv F w K β H ρ a.tmps) {c : Call} (ho : o.op = .call c) (hcal : c.callee = .builtin .append) (hx : ∀ x ∈ c.args, Operand.inB F.n x = true) {s : SV} {ρ1 : Nat → SV}
    (hs : appendE P c ρ = some (s, ρ1)) : OpRes P F o a w (putE ρ1 o.dst s) H := by
  unfold appendE at hs
  split at hs
  · rename_i t0 x t tx hargs htys
    have ha : c.args = #[.tmp t0, x] := by rw [← Array.toList_inj]; exact hargs
    have hty : c.argTypes = #[t, tx] := by rw [← Array.toList_inj]; exact htys
    have ht : t0 < F.n := by simpa [Operand.inB] using hx (.tmp t0) (by rw [ha]; simp)
    have hxb := hx x (by rw [ha]; simp)
    split at hs
    · rename_i e k cs e' sx hv hu hxe
      split at hs
      · rename_i m cs2 hsc
        split at hs <;> cases hs
        rename_i hc
        obtain ⟨rfl, hok, hsty, hsz⟩ := hc
        obtain ⟨i, z, hi, hz, hzs, hk, hk0, hby⟩ := elemOk_spec hok
        have hrx := valE_rep h hxb hxe
        obtain ⟨news, hsrc⟩ := src_ok (P := P) (tx := tx) hk0 hrx hsc (fun bs hb => by
            subst hb; exact srcTy_str hsty) (fun q k' cs hb => by subst hb; exact srcTy_lst hsty)
        have hr := h.rep t0 ht
        rw [hv] at hr
        have hown := h.own t0 none (e, k) ht (by rw [hv]; rfl)
        obtain ⟨v', w', K', xo, hrun, g, hxo, hbox, hkw, hrep, hown', hb⟩ := append_world (P := P) (ty := o.type) h.box h.kw (.inl h.hs) hu hi hz hzs hk hk0 hby hr hown hsrc hsz
        refine ⟨v', w', K', β, .inl ?_, put_grown h ht hv g hxo hbox hkw o.dst hrep hown' hb⟩
        unfold execOp
        simp only [ho, resolve, hcal, ha, hty, invoke, builtin, Sem.run_bind, Sem.run_pure, Result.andThen_ok, List.map_toArray, List.map_cons, List.map_nil]
        have : (Builtin.append_ #[t, tx] o.type #[a.eval (.tmp t0), a.eval x]).run P w = .ok v' w' := hrun
        rw [this]; rfl
      · cases hs
    · cases hs
  · cases hs
end
end Go.Sx
