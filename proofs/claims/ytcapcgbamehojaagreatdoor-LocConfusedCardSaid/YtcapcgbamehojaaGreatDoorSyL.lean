/-
 The second shadow machine, part 12: regions whose order is open.
-/
import Derived.Test.YtcapcgbamehojaaGreatDoorSyW
import Derived.Still
namespace Go.Sy
open Go Go.RowKit
set_option linter.unusedVariables false
set_option linter.unusedSimpArgs false
set_option linter.unusedSectionVars false
variable [Inhabited GT]
def creates (o : Oper) : Bool :=
 match o.op with
 | .box _ _ => true
 | .alloc _ => true
 | .buildSlice _ _ _ => true
 | .makeSlice _ _ _ => true
 | .makeMap _ _ => true
 | .call c => match c.callee with
  | .builtin .append => true
  | .value _ => true
  | _ => false
 | _ => false
theorem creates_call {o : Oper} (h : isCall o = true) : creates o = true := by
 unfold isCall at h
 unfold creates
 split at h
 ·rename_i c ho
  split at h
  ·rename_i f hf
   simp [ho, hf]
  ·cases h
 ·cases h
def idxOf (ops : Array Oper) (base i : Nat) : Nat := base + ((ops.toList.take i).filter creates).length
def applyS (H : Heap) : List (Nat × Ent) → Heap
 | [] => H
 | (i, en) :: r => applyS (H.set i en) r
def shapeOp (o : Oper) : Bool :=
 match o.op with
 | .indexAddr _ _ _ => true
 | .call c => match c.callee with
  | .builtin .len => true
  | _ => false
 | _ => false
def storeOp (o : Oper) : Bool :=
 match o.op with
 | .store _ _ _ => true
 | _ => false
def both (x : Nat) : List Nat := [2 * x, 2 * x + 1]
def rdOf (o : Oper) (ef : Eff) : List Nat := bif shapeOp o then ef.rd.map (fun x => 2 * x + 1) else ef.rd.flatMap both
def fwOf (ops : Array Oper) (base i : Nat) (o : Oper) (ef : Eff) : List Nat := (bif storeOp o then ef.wr.map (fun x => 2 * x.1) else ef.wr.flatMap fun x => both x.1) ++ (if creates o then both (idxOf ops base i) else [])
def shapeEq (a b : Option Ent) : Prop := a = b ∨ (∃ n k e cs cs', a = some (.vec n k e cs) ∧ b = some (.vec n k e cs')) ∨ ∃ cs cs', a = some (.box cs) ∧ b = some (.box cs')
theorem fw_mem {ops : Array Oper} {base i : Nat} {o : Oper} {ef : Eff} {x : Nat} (h : x ∈ ef.wr.map Prod.fst) : 2 * x ∈ fwOf ops base i o ef := by
 obtain ⟨y, hy, rfl⟩ := List.mem_map.1 h
 unfold fwOf
 refine List.mem_append.2 (.inl ?_)
 cases storeOp o with
 | true => exact List.mem_map.2 ⟨y, hy, rfl⟩
 | false => exact List.mem_flatMap.2 ⟨y, hy, by simp [both]⟩
theorem fw_odd {ops : Array Oper} {base i : Nat} {o : Oper} {ef : Eff} {x : Nat} (hs : storeOp o = false) (h : x ∈ ef.wr.map Prod.fst) : 2 * x + 1 ∈ fwOf ops base i o ef := by
 obtain ⟨y, hy, rfl⟩ := List.mem_map.1 h
 unfold fwOf
 refine List.mem_append.2 (.inl ?_)
 rw [hs]
 exact List.mem_flatMap.2 ⟨y, hy, by simp [both]⟩
theorem fw_idx {ops : Array Oper} {base i : Nat} {o : Oper} {ef : Eff} (h : creates o = true) : 2 * idxOf ops base i ∈ fwOf ops base i o ef := by
 unfold fwOf
 rw [if_pos h]
 exact List.mem_append.2 (.inr (by simp [both]))
theorem rd_even {o : Oper} {ef : Eff} {x : Nat} (hs : shapeOp o = false) (h : x ∈ ef.rd) : 2 * x ∈ rdOf o ef := by
 unfold rdOf
 rw [hs]
 exact List.mem_flatMap.2 ⟨x, h, by simp [both]⟩
theorem rd_odd {o : Oper} {ef : Eff} {x : Nat} (h : x ∈ ef.rd) : 2 * x + 1 ∈ rdOf o ef := by
 unfold rdOf
 cases shapeOp o with
 | true => exact List.mem_map.2 ⟨x, h, rfl⟩
 | false => exact List.mem_flatMap.2 ⟨x, h, by simp [both]⟩
theorem opEval_shape {P : Program} {o : Oper} {ρ ρ' : Env} {H H' : Heap} {idx : Nat} {ef : Eff} (hs : shapeOp o = true) (h : ∀ x ∈ o.op.operands, valE ρ x = valE ρ' x) (he : opEval P o ρ H idx = some ef) (hr : ∀ i ∈ ef.rd, shapeEq (H'[i]?) (H[i]?)) : opEval P o ρ' H' idx = some ef := by
 have hloc : opEval P o ρ' H idx = some ef := opEval_local h he (fun _ _ => rfl)
 clear he h
 unfold opEval at hloc ⊢
 split
 ·rename_i v hv
  rw [hv] at hloc
  exact hloc
 ·rename_i hv
  rw [hv] at hloc
  simp only at hloc
  unfold shapeOp at hs
  split at hs
  ·rename_i t x y ho
   simp only [heapEval, ho] at hloc ⊢
   split at hloc
   ·rename_i e i kk j h1 h2 h3
    split at hloc
    ·rename_i n k e' cs hH
     split at hloc
     ·rename_i hc
      cases hloc
      rcases hr i (by simp) with hq | ⟨n', k', e2, cs1, cs2, q1, q2⟩ | ⟨cs1, cs2, q1, q2⟩
      ·rw [hq, hH]; simp only; rw [if_pos hc]
      ·rw [hH] at q2; cases q2
       rw [q1]; simp only; rw [if_pos hc]
      ·rw [hH] at q2; cases q2
     ·cases hloc
    ·cases hloc
   ·cases hloc
  ·rename_i c ho
   split at hs
   ·rename_i hc
    simp only [heapEval, ho, hc] at hloc ⊢
    split at hloc
    ·rename_i x t h1 h2
     split at hloc
     ·rename_i e i h3 h4
      split at hloc
      ·rename_i n k e' cs hH
       cases hloc
       rcases hr i (by simp) with hq | ⟨n', k', e2, cs1, cs2, q1, q2⟩ | ⟨cs1, cs2, q1, q2⟩
       ·rw [hq, hH]
       ·rw [hH] at q2; cases q2
        rw [q1]
       ·rw [hH] at q2; cases q2
      ·cases hloc
     ·cases hloc
    ·cases hloc
   ·cases hs
  ·cases hs

def disjE (r1 w1 r2 w2 : List Nat) : Bool := w1.all (fun x => !r2.contains x && !w2.contains x) && w2.all (fun x => !r1.contains x)
def CallS (P : Program) (ρ : Env) (o : Oper) (H : Heap) (ef : Eff) : Prop :=
 ∃ f args g args0 H0 v0, callOf ρ o = some (f, args) ∧ args = SV.rnL g args0 ∧ Sel H g H0 ∧ (∀ en ∈ H0, live en = true) ∧ SV.refsL H0.length args0 = true ∧ SV.refs H0.length v0 = true ∧ SC P f args0 H0 v0 H0 ∧
  ef = ⟨SV.rn g v0, (List.range H0.length).map g, []⟩
def CallM (P : Program) (ρ : Env) (o : Oper) (H : Heap) (idx : Nat) (ef : Eff) : Prop :=
 ∃ f args v0 en0, callOf ρ o = some (f, args) ∧ SV.refsL 0 args = true ∧ SC P f args [] v0 [en0] ∧ (H[idx]? = some .res ∧ ∀ g, Ent.rn g en0 = en0) ∧ ef = ⟨SV.rn (fun _ => idx) v0, [], [(idx, en0)]⟩
def wrOf (g : Nat → Nat) (n : Nat) (H0' : Heap) : List (Nat × Ent) := (List.range n).map fun j => (g j, Ent.rn g (H0'.getD j .gone))
def CallW (P : Program) (ρ : Env) (o : Oper) (H : Heap) (ef : Eff) : Prop :=
 ∃ f args g args0 H0 v0 H0', callOf ρ o = some (f, args) ∧ args = SV.rnL g args0 ∧ Sel H g H0 ∧ (∀ en ∈ H0, live en = true) ∧ SV.refsL H0.length args0 = true ∧ SV.refs H0.length v0 = true ∧ SC P f args0 H0 v0 H0' ∧
  H0'.length = H0.length ∧ (∀ (j : Nat) (en : Ent), H0'[j]? = some en → Ent.refs H0.length en = true) ∧ ef = ⟨SV.rn g v0, (List.range H0.length).map g, wrOf g H0.length H0'⟩
def pOf (f : Nat → Nat) (m idx : Nat) : Nat → Nat := fun j => if j < m then f j else idx
def CallX (P : Program) (ρ : Env) (o : Oper) (H : Heap) (idx : Nat) (ef : Eff) : Prop :=
 ∃ f args g args0 H0 v0 H0', callOf ρ o = some (f, args) ∧ args = SV.rnL g args0 ∧ Sel H g H0 ∧ (∀ en ∈ H0, live en = true) ∧ SV.refsL H0.length args0 = true ∧ SC P f args0 H0 v0 H0' ∧
  H0'.length = H0.length + 1 ∧ H[idx]? = some .res ∧ ef = ⟨SV.rn (pOf g H0.length idx) v0, (List.range H0.length).map g, wrOf (pOf g H0.length idx) (H0.length + 1) H0'⟩
def CallD (P : Program) (ρ : Env) (o : Oper) (H : Heap) (idx : Nat) (ef : Eff) : Prop := CallS P ρ o H ef ∨ CallM P ρ o H idx ef ∨ CallW P ρ o H ef ∨ CallX P ρ o H idx ef
def opD (P : Program) (ops : Array Oper) (base i : Nat) (o : Oper) (ρ : Env) (H : Heap) (ef : Eff) : Prop :=
 match guardS ops ρ o with
 | some true => if isCall o then CallD P ρ o H (idxOf ops base i) ef else
   (opEval P o ρ H (idxOf ops base i) = some ef ∨ (opEvalZ P o ρ H (idxOf ops base i) = some ef ∧ creates o = true)) ∧ (creates o = true → H[idxOf ops base i]? = some .res) ∧ ∀ x ∈ ef.wr, x.1 < H.length
 | some false => ef = ⟨.tup [], [], []⟩
 | none => False
def compat (o : Oper) (rd fw : List Nat) : List (List Nat × List Nat) → Nat → Bool
 | [], _ => true
 | (r', w') :: r, j => (o.after.any (fun e => Region.binds .any e && e.on == j) || disjE r' w' rd fw) && compat o rd fw r (j + 1)
def textD (P : Program) (ops : Array Oper) (base : Nat) : List (List Nat × List Nat) → List Oper → (Env → Heap → Prop) → Env → Heap → Prop
 | _, [], K, ρ, H => K ρ H
 | tr, o :: rest, K, ρ, H => ∃ ef, opD P ops base tr.length o ρ H ef ∧ compat o (rdOf o ef) (fwOf ops base tr.length o ef) tr 0 = true ∧ textD P ops base (tr ++ [(rdOf o ef, fwOf ops base tr.length o ef)]) rest K (putE ρ o.dst ef.v) (applyS H ef.wr)
theorem SC.place {P : Program} {f : FuncId} {args : List SV} {v0 : SV} {en0 : Ent} {H : Heap} {idx : Nat} (h : SC P f args [] v0 [en0]) (hr : SV.refsL 0 args = true) (hres : H[idx]? = some .res) (hE : ∀ g, Ent.rn g en0 = en0) :
  SC P f args H (SV.rn (fun _ => idx) v0) (H.set idx en0) := by
 refine ⟨h.1, fun w K D vals hlen hrep hi hG => ?_⟩
 have hil : idx < H.length := (List.getElem?_eq_some_iff.1 hres).1
 have hDi : D idx = none := hi.ent idx _ hres
 have hsel : Sel H (fun j => j) [] := ⟨fun j en hj => by simp at hj, fun i j hi => by simp at hi, fun j en hj => by simp at hj⟩
 have hrn : ∀ (s : SV), SV.refs 0 s = true → SV.rn (fun j => j) s = SV.rn (fun j => j) s := fun _ _ => rfl
 refine (h.2 w K (subD D (fun j => j) 0) vals hlen (fun j x c hx hc => ?_) (hsel.hinv hi) (glob_any hG)).mono ?_
 ·have hc0 := refsL_get hr j c hc
  have hid : ∀ s, SV.refs 0 s = true → Rep w K D x s → Rep w K (subD D (fun j => j) 0) x s := by
   intro s hs hx
   have hu := rep_up (D' := D) (g := fun j => j) hx (fun _ _ e => e)
   exact rep_sub hu s rfl hs
  exact hid c hc0 (hrep j x c hx hc)
 rintro ex w' ⟨r, he, K', Ds, g, hi', hrr⟩
 have nomem : ∀ b, ¬ Mem (subD D (fun j => j) 0) [] b := by rintro b ⟨i, en, c, n, h1, _⟩; simp at h1
 have hDs : ∀ j x, Ds j = some x → (fun i => if i = idx then Ds 0 else D i) idx = some x := by
  intro j x hx
  cases j with
  | zero => simpa using hx
  | succ j => rw [hi'.dom (j + 1) (by simp)] at hx; cases hx
 have hnewb : ∀ b c m, live en0 = true → Ds 0 = some (.at b c m) → w.heap.size ≤ b := fun b c m hlv hd => by
  rcases g.new b ⟨0, _, c, m, rfl, hlv, hd⟩ with h1 | h1
  ·exact absurd h1 (nomem b)
  ·exact h1
 have hget : ∀ i en, (H.set idx en0)[i]? = some en → (i = idx ∧ en = en0) ∨ (i ≠ idx ∧ H[i]? = some en) := by
  intro i en hie
  rw [List.getElem?_set] at hie
  by_cases hii : idx = i
  ·subst hii
   rw [if_pos rfl, if_pos hil] at hie
   cases hie
   exact .inl ⟨rfl, rfl⟩
  ·rw [if_neg hii] at hie
   exact .inr ⟨Ne.symm hii, hie⟩
 refine ⟨r, he, K', fun i => if i = idx then Ds 0 else D i, ⟨g.os, g.tape, g.output, g.size, fun b hb _ => g.block b hb (nomem b), g.cells, g.le, fun b hb _ => g.kk b hb (nomem b), fun i x hx => ?_, fun b hm => ?_⟩,
  ⟨fun i hle => ?_, fun i en hie => ?_, fun i j en en' b c m c' m' hie hje hl hl' hd hd' => ?_, hi'.kw⟩, rep_up hrr hDs⟩
 ·by_cases hii : i = idx
  ·subst hii; rw [hDi] at hx; cases hx
  ·simp only [if_neg hii]; exact hx
 ·obtain ⟨i, en, c, m, h1, h2, h3⟩ := hm
  rcases hget i en h1 with ⟨rfl, rfl⟩ | ⟨hne, h4⟩
  ·simp only [if_pos rfl] at h3
   exact .inr (hnewb b c m h2 h3)
  ·simp only [if_neg hne] at h3
   exact .inl ⟨i, en, c, m, h4, h2, h3⟩
 ·simp only [List.length_set] at hle
  simp only [if_neg (show i ≠ idx by omega)]
  exact hi.dom i hle
 ·rcases hget i en hie with ⟨rfl, rfl⟩ | ⟨hne, h4⟩
  ·have h9 := ent_up (D' := fun q => if q = i then Ds 0 else D q) (g := fun _ => i) (hi'.ent 0 _ rfl) hDs (fun hn => by simpa using hn)
   rw [hE] at h9
   exact h9
  ·refine (hi.ent i en h4).keep (fun v s hr0 => hr0.mono g.cells g.le (fun q x hx => by
     by_cases hqi : q = idx
     ·subst hqi; rw [hDi] at hx; cases hx
     ·simp only [if_neg hqi]; exact hx)) (by simp only [if_neg hne]) (fun b c m hl hd => ?_)
   have hb := (mem_lt hi ⟨i, en, c, m, h4, hl, hd⟩).1
   exact ⟨g.block b hb (nomem b), g.kk b hb (nomem b)⟩
 ·rcases hget i en hie with ⟨rfl, rfl⟩ | ⟨hne, h4⟩ <;> rcases hget j en' hje with ⟨rfl, rfl⟩ | ⟨hne', h4'⟩
  ·rfl
  ·exfalso
   simp only [if_pos rfl] at hd
   simp only [if_neg hne'] at hd'
   have h1 := hnewb b c m hl hd
   have h2 := (mem_lt hi ⟨j, en', c', m', h4', hl', hd'⟩).1
   omega
  ·exfalso
   simp only [if_neg hne] at hd
   simp only [if_pos rfl] at hd'
   have h1 := hnewb b c' m' hl' hd'
   have h2 := (mem_lt hi ⟨i, en, c, m, h4, hl, hd⟩).1
   omega
  ·simp only [if_neg hne] at hd
   simp only [if_neg hne'] at hd'
   exact hi.inj i j en en' b c m c' m' h4 h4' hl hl' hd hd'
section
variable {P : Program} {ops : Array Oper} {base : Nat} {md : Region.Mode}
theorem applyS_length : ∀ (wr : List (Nat × Ent)) (H : Heap), (applyS H wr).length = H.length
 | [], H => rfl
 | (i, en) :: r, H => by simp [applyS, applyS_length r]
theorem applyS_eq : ∀ (wr : List (Nat × Ent)) (H : Heap), (∀ x ∈ wr, x.1 < H.length) → applyW H wr = applyS H wr
 | [], H, _ => rfl
 | (i, en) :: r, H, h => by
  simp only [applyW, applyS]
  have hi := h (i, en) (List.mem_cons_self ..)
  have : setE H i en = H.set i en := by unfold setE; rw [if_pos hi]
  rw [this]
  exact applyS_eq r _ (fun x hx => by rw [List.length_set]; exact h x (List.mem_cons_of_mem _ hx))
theorem applyS_other : ∀ (wr : List (Nat × Ent)) (H : Heap) (i : Nat), i ∉ wr.map Prod.fst → (applyS H wr)[i]? = H[i]?
 | [], H, i, _ => rfl
 | (j, en) :: r, H, i, h => by
  simp only [List.map_cons, List.mem_cons, not_or] at h
  simp only [applyS]
  rw [applyS_other r _ i h.2, List.getElem?_set, if_neg (Ne.symm h.1)]
theorem set_applyS : ∀ (wr : List (Nat × Ent)) (H : Heap) (i : Nat) (en : Ent), i ∉ wr.map Prod.fst → applyS (H.set i en) wr = (applyS H wr).set i en
 | [], H, i, en, _ => rfl
 | (j, en') :: r, H, i, en, h => by
  simp only [List.map_cons, List.mem_cons, not_or] at h
  simp only [applyS]
  rw [List.set_comm _ _ h.1, set_applyS r _ i en h.2]
theorem applyS_comm : ∀ (w1 w2 : List (Nat × Ent)) (H : Heap), (∀ x ∈ w1.map Prod.fst, x ∉ w2.map Prod.fst) → applyS (applyS H w1) w2 = applyS (applyS H w2) w1
 | [], w2, H, _ => rfl
 | (i, en) :: r, w2, H, h => by
  simp only [applyS]
  have h1 := h i (by simp)
  rw [applyS_comm r w2 _ (fun x hx => h x (by simp [hx])), set_applyS w2 H i en h1]
theorem disjE_spec {r1 w1 r2 w2 : List Nat} (h : disjE r1 w1 r2 w2 = true) : (∀ x ∈ w1, x ∉ r2 ∧ x ∉ w2) ∧ ∀ x ∈ w2, x ∉ r1 ∧ x ∉ w1 := by
 simp only [disjE, Bool.and_eq_true, List.all_eq_true, Bool.not_eq_true', List.contains_eq_mem, decide_eq_false_iff_not] at h
 exact ⟨fun x hx => h.1 x hx, fun x hx => ⟨h.2 x hx, fun h1 => (h.1 x h1).2 hx⟩⟩
theorem valE_put {ρ : Env} {d : Option Tmp} {v : SV} {x : Operand} (h : ∀ t, d = some t → x ≠ .tmp t) : valE (putE ρ d v) x = valE ρ x := by
 cases d with
 | none => rfl
 | some t =>
  cases x with
  | tmp u =>
   have hne : u ≠ t := fun e => h t rfl (by rw [e])
   simp [valE, putE, upd, hne]
  | _ => rfl
theorem guardS_put {o : Oper} {ρ : Env} {d : Option Tmp} {v : SV} (h : ∀ t, d = some t → t ∉ o.looksAt ops) : guardS ops (putE ρ d v) o = guardS ops ρ o := by
 unfold guardS
 cases hg : o.guard with
 | none => rfl
 | some p =>
  obtain ⟨j, want⟩ := p
  simp only
  cases hd : (ops[j]?).bind (·.dst) with
  | none => rfl
  | some e =>
   simp only
   cases d with
   | none => rfl
   | some t =>
    have hne : e ≠ t := fun he => h t rfl (by
     unfold Oper.looksAt
     rw [hg]
     simp only [hd]
     exact List.mem_append.2 (.inr (by simp [he])))
    simp [putE, upd, hne]
theorem store_shape {o : Oper} {ρ : Env} {H : Heap} {idx : Nat} {ef : Eff} (hs : storeOp o = true) (he : opEval P o ρ H idx = some ef) (x : Nat) : shapeEq ((applyS H ef.wr)[x]?) (H[x]?) := by
 unfold storeOp at hs
 split at hs
 ·rename_i t a b ho
  unfold opEval at he
  split at he
  ·cases he; exact .inl rfl
  ·simp only [heapEval, ho] at he
   split at he
   ·rename_i i off ps h1 h2
    split at he
    ·rename_i en hH
     split at he
     ·rename_i cs hcs
      split at he
      ·cases he
       simp only [applyS]
       rw [List.getElem?_set]
       by_cases hxi : i = x
       ·subst hxi
        have hil := (List.getElem?_eq_some_iff.1 hH).1
        rw [if_pos rfl, if_pos hil, hH]
        cases en with
        | vec n k e cs0 => exact .inr (.inl ⟨n, k, e, _, cs0, rfl, rfl⟩)
        | box cs0 => exact .inr (.inr ⟨_, cs0, rfl, rfl⟩)
        | res => simp [entCells] at hcs
        | gone => simp [entCells] at hcs
        | map es => simp [entCells] at hcs
        | itr m n s => simp [entCells] at hcs
        | pmap es => simp [entCells] at hcs
       ·rw [if_neg hxi]; exact .inl rfl
      ·cases he
     ·cases he
    ·cases he
   ·cases he
 ·cases hs
theorem operand_apart {o : Oper} {t : Tmp} (h : t ∉ o.looksAt ops) {x : Operand} (hx : x ∈ o.op.operands) : x ≠ .tmp t := by
 intro e
 subst e
 refine h (List.mem_append.2 (.inl (List.mem_filterMap.2 ⟨.tmp t, Array.mem_toList_iff.2 hx, rfl⟩)))
theorem callOf_congr {o : Oper} {ρ ρ' : Env} (h : ∀ x ∈ o.op.operands, valE ρ x = valE ρ' x) : callOf ρ o = callOf ρ' o := by
 unfold callOf
 split
 ·rename_i c ho
  unfold calledOf
  split
  ·rename_i f hf
   rw [h f (by simp [ho, Op.operands, Call.operands, hf])]
   rw [mapM_congr c.args.toList (fun x hx => h x (by simp only [ho, Op.operands, Call.operands]; exact Array.mem_append.2 (.inr (Array.mem_toList_iff.1 hx))))]
  ·rfl
 ·rfl
theorem call_not_shape {o : Oper} (h : isCall o = true) : shapeOp o = false := by
 unfold isCall at h
 unfold shapeOp
 split at h
 ·rename_i c ho
  split at h
  ·rename_i f hf
   simp [ho, hf]
  ·cases h
 ·cases h
theorem creates_not_shape {o : Oper} (h : creates o = true) : shapeOp o = false := by
 unfold creates at h
 unfold shapeOp
 cases ho : o.op <;> rw [ho] at h <;> simp only at h ⊢ <;> first | rfl | (cases h; done) | skip
 rename_i c
 split at h <;> rename_i hc <;> first | (cases h; done) | simp [hc]
theorem creates_not_store {o : Oper} (h : creates o = true) : storeOp o = false := by
 unfold creates at h
 unfold storeOp
 cases ho : o.op <;> rw [ho] at h <;> simp only at h ⊢ <;> first | rfl | (cases h; done)
theorem call_not_store {o : Oper} (h : isCall o = true) : storeOp o = false := creates_not_store (creates_call h)
theorem opD_keeps {i : Nat} {o : Oper} {ρ : Env} {H : Heap} {ef : Eff} (h : opD P ops base i o ρ H ef) :
  (∀ x, 2 * x ∉ fwOf ops base i o ef → (applyS H ef.wr)[x]? = H[x]?) ∧ ∀ x, 2 * x + 1 ∉ fwOf ops base i o ef → shapeEq ((applyS H ef.wr)[x]?) (H[x]?) := by
 refine ⟨fun x hx => applyS_other _ _ _ (fun hm => hx (fw_mem hm)), fun x hx => ?_⟩
 cases hst : storeOp o with
 | false => exact .inl (applyS_other _ _ _ (fun hm => hx (fw_odd hst hm)))
 | true =>
  unfold opD at h
  split at h
  ·split at h
   ·rename_i hc
    rw [call_not_store hc] at hst; cases hst
   ·rcases h.1 with h1 | h1
    ·exact store_shape hst h1 x
    ·rw [creates_not_store h1.2] at hst; cases hst
  ·subst h; exact .inl rfl
  ·exact h.elim
theorem opD_local {i : Nat} {o : Oper} {ρ ρ' : Env} {H H' : Heap} {ef : Eff} (hv : ∀ x ∈ o.op.operands, valE ρ x = valE ρ' x) (hg : guardS ops ρ o = guardS ops ρ' o) (hl : H'.length = H.length)
  (hA : ∀ x, 2 * x ∈ rdOf o ef ∨ 2 * x ∈ fwOf ops base i o ef → H'[x]? = H[x]?) (hB : ∀ x, 2 * x + 1 ∈ rdOf o ef → shapeEq (H'[x]?) (H[x]?)) (h : opD P ops base i o ρ H ef) : opD P ops base i o ρ' H' ef := by
 unfold opD at h ⊢
 rw [← hg]
 split
 ·rename_i hgt
  rw [hgt] at h
  simp only at h
  split
  ·rename_i hc
   rw [if_pos hc] at h
   rcases h with h | h | h | h
   ·obtain ⟨f, args, g, args0, H0, v0, h1, h2, h3, h4, h5, h6, h7, h8⟩ := h
    refine .inl ⟨f, args, g, args0, H0, v0, by rw [← callOf_congr hv]; exact h1, h2, ⟨fun j en hj => ?_, h3.inj, h3.refs⟩, h4, h5, h6, h7, h8⟩
    rw [hA (g j) (.inl (rd_even (call_not_shape hc) (by rw [h8]; exact List.mem_map.2 ⟨j, List.mem_range.2 (List.getElem?_eq_some_iff.1 hj).1, rfl⟩)))]
    exact h3.get j en hj
   ·obtain ⟨f, args, v0, en0, h1, h2, h3, ⟨h4, hE⟩, h5⟩ := h
    refine .inr (.inl ⟨f, args, v0, en0, by rw [← callOf_congr hv]; exact h1, h2, h3, ⟨?_, hE⟩, h5⟩)
    rw [hA _ (.inr (fw_idx (creates_call hc)))]
    exact h4
   ·obtain ⟨f, args, g, args0, H0, v0, H0', h1, h2, h3, h4, h5, h6, h7, hl2, hr2, h8⟩ := h
    refine .inr (.inr (.inl ⟨f, args, g, args0, H0, v0, H0', by rw [← callOf_congr hv]; exact h1, h2, ⟨fun j en hj => ?_, h3.inj, h3.refs⟩, h4, h5, h6, h7, hl2, hr2, h8⟩))
    rw [hA (g j) (.inl (rd_even (call_not_shape hc) (by rw [h8]; exact List.mem_map.2 ⟨j, List.mem_range.2 (List.getElem?_eq_some_iff.1 hj).1, rfl⟩)))]
    exact h3.get j en hj
   ·obtain ⟨f, args, g, args0, H0, v0, H0', h1, h2, h3, h4, h5, h7, hl2, hres, h8⟩ := h
    refine .inr (.inr (.inr ⟨f, args, g, args0, H0, v0, H0', by rw [← callOf_congr hv]; exact h1, h2, ⟨fun j en hj => ?_, h3.inj, h3.refs⟩, h4, h5, h7, hl2, ?_, h8⟩))
    ·rw [hA (g j) (.inl (rd_even (call_not_shape hc) (by rw [h8]; exact List.mem_map.2 ⟨j, List.mem_range.2 (List.getElem?_eq_some_iff.1 hj).1, rfl⟩)))]
     exact h3.get j en hj
    ·rw [hA _ (.inr (fw_idx (creates_call hc)))]
     exact hres
  ·rename_i hc
   rw [if_neg hc] at h
   obtain ⟨h1, h2, h3⟩ := h
   refine ⟨h1.imp (fun h1 => ?_) (fun h1 => ⟨opZ_local hv h1.1 hl (fun x hx => hA x (.inl (rd_even (creates_not_shape h1.2) hx))), h1.2⟩), fun hcr => ?_, fun x hx => by rw [hl]; exact h3 x hx⟩
   ·cases hso : shapeOp o with
    | true => exact opEval_shape hso hv h1 (fun x hx => hB x (rd_odd hx))
    | false => exact opEval_local hv h1 (fun x hx => hA x (.inl (rd_even hso hx)))
   ·rw [hA _ (.inr (fw_idx hcr))]
    exact h2 hcr
 ·rename_i hgf
  rw [hgf] at h
  exact h
 ·rename_i hgn
  rw [hgn] at h
  exact h
theorem put_comm {ρ : Env} {d e : Option Tmp} {u v : SV} (h : ∀ t, d = some t → e ≠ some t) : putE (putE ρ d u) e v = putE (putE ρ e v) d u := by
 cases d with
 | none => rfl
 | some t =>
  cases e with
  | none => rfl
  | some s =>
   have hne : t ≠ s := fun he => h t rfl (by rw [he])
   funext i
   simp only [putE, upd]
   split
   ·rename_i h1; subst h1; rw [if_neg (Ne.symm hne)]
   ·rfl
def anyS (P : Program) (md : Region.Mode) (ops : Array Oper) (base : Nat) (effs : List Eff) (K : Env → Heap → Prop) : Nat → Array Bool → Env → Heap → Prop
 | 0, listed, ρ, H => Region.ready md ops listed = [] ∧ K ρ H
 | fuel + 1, listed, ρ, H => (Region.ready md ops listed = [] → K ρ H) ∧
  ∀ i ∈ Region.ready md ops listed, ∃ o ef, ops[i]? = some o ∧ effs[i]? = some ef ∧ opD P ops base i o ρ H ef ∧ anyS P md ops base effs K fuel (listed.setIfInBounds i true) (putE ρ o.dst ef.v) (applyS H ef.wr)
theorem anyS_first {effs : List Eff} {K : Env → Heap → Prop} {i : Nat} {oi : Oper} {ei : Eff} (hi : ops[i]? = some oi) (hei : effs[i]? = some ei) : ∀ (fuel : Nat) (listed : Array Bool) (ρ : Env) (H : Heap),
  (∀ j oj ej, ops[j]? = some oj → effs[j]? = some ej → j ≠ i → listed.getD j true = false → (∀ e ∈ oj.after, Region.binds md e = true → e.on ≠ i) → oi.apart ops oj = true ∧ disjE (rdOf oi ei) (fwOf ops base i oi ei) (rdOf oj ej) (fwOf ops base j oj ej) = true) →
  i ∈ Region.ready md ops listed → opD P ops base i oi ρ H ei → anyS P md ops base effs K fuel (listed.setIfInBounds i true) (putE ρ oi.dst ei.v) (applyS H ei.wr) → anyS P md ops base effs K (fuel + 1) listed ρ H := by
 intro fuel
 induction fuel with
 | zero =>
  intro listed ρ H _ hr hy h
  refine ⟨fun h0 => (by rw [h0] at hr; cases hr), fun j hj => ?_⟩
  by_cases hji : j = i
  ·subst hji; exact ⟨oi, ei, hi, hei, hy, h⟩
  ·have := ready_mono hj hji
   rw [h.1] at this
   cases this
 | succ fuel ih =>
  intro listed ρ H hfree hr hy h
  refine ⟨fun h0 => (by rw [h0] at hr; cases hr), fun j hj => ?_⟩
  by_cases hji : j = i
  ·subst hji; exact ⟨oi, ei, hi, hei, hy, h⟩
  ·obtain ⟨oj, ej, hoj, hej, hdj, hrest⟩ := h.2 j (ready_mono hj hji)
   obtain ⟨hjun, oj', hoj', hall⟩ := mem_ready.1 hj
   rw [hoj] at hoj'; cases hoj'
   have hnot : ∀ e ∈ oj.after, Region.binds md e = true → e.on ≠ i := fun e he hb heq => by
    have h1 := hall e he hb
    have h0 := (mem_ready.1 hr).1
    rw [heq] at h1
    rcases Nat.lt_or_ge i listed.size with h' | h'
    ·simp [h'] at h0 h1; rw [h0] at h1; cases h1
    ·simp [Array.getElem?_eq_none h'] at h1
   obtain ⟨hap, hdis⟩ := hfree j oj ej hoj hej hji hjun hnot
   obtain ⟨a1, a2, a3⟩ := Oper.apart_spec hap
   obtain ⟨d1, d2⟩ := disjE_spec hdis
   have hwi : ∀ x, x ∈ ei.wr.map Prod.fst → 2 * x ∈ fwOf ops base i oi ei := fun x hx => fw_mem hx
   have hwj : ∀ x, x ∈ ej.wr.map Prod.fst → 2 * x ∈ fwOf ops base j oj ej := fun x hx => fw_mem hx
   have shc : ∀ {a b : Option Ent}, shapeEq a b → shapeEq b a := fun h => by
    rcases h with h | ⟨n, k, e, c1, c2, q1, q2⟩ | ⟨c1, c2, q1, q2⟩
    ·exact .inl h.symm
    ·exact .inr (.inl ⟨n, k, e, c2, c1, q2, q1⟩)
    ·exact .inr (.inr ⟨c2, c1, q2, q1⟩)
   obtain ⟨ki1, ki2⟩ := opD_keeps hy
   -- j before i
   have hdj' : opD P ops base j oj ρ H ej := opD_local (ρ := putE ρ oi.dst ei.v) (H := applyS H ei.wr)
    (fun x hx => valE_put fun t ht => operand_apart (a1 t ht) hx) (guardS_put a1) (by rw [applyS_length])
    (fun x hx => (ki1 x (fun hm => by
     have := d1 _ hm
     rcases hx with hx | hx
     ·exact this.1 hx
     ·exact this.2 hx)).symm) (fun x hx => shc (ki2 x (fun hm => (d1 _ hm).1 hx))) hdj
   obtain ⟨kj1, kj2⟩ := opD_keeps hdj'
   have hyi' : opD P ops base i oi (putE ρ oj.dst ej.v) (applyS H ej.wr) ei := opD_local (ρ := ρ) (H := H)
    (fun x hx => (valE_put fun t ht => operand_apart (a3 t ht) hx).symm) (guardS_put a3).symm (by rw [applyS_length])
    (fun x hx => kj1 x (fun hm => by
     have := d2 _ hm
     rcases hx with hx | hx
     ·exact this.1 hx
     ·exact this.2 hx)) (fun x hx => kj2 x (fun hm => (d2 _ hm).1 hx)) hy
   refine ⟨oj, ej, hoj, hej, hdj', ?_⟩
   refine ih (listed.setIfInBounds j true) _ _ (fun k ok ek hk hek hki hun hno => ?_) (ready_mono hr (Ne.symm hji)) hyi' ?_
   ·refine hfree k ok ek hk hek hki ?_ hno
    by_cases hjk : j = k
    ·subst hjk; exact hjun
    ·rw [getD_set_ne true hjk] at hun; exact hun
   ·rw [Array.setIfInBounds_comm _ _ hji, ← put_comm (ρ := ρ) (u := ei.v) (v := ej.v) a2, ← applyS_comm ei.wr ej.wr H (fun x hx hx2 => (d1 _ (hwi x hx)).2 (hwj x hx2))]
    exact hrest
theorem compat_spec {o : Oper} {rd fw : List Nat} : ∀ (tr : List (List Nat × List Nat)) (j : Nat), compat o rd fw tr j = true → ∀ (k : Nat) (r' w' : List Nat), tr[k]? = some (r', w') →
  (∃ e ∈ o.after, Region.binds .any e = true ∧ e.on = j + k) ∨ disjE r' w' rd fw = true
 | [], j, _, k, r', w', hk => by simp at hk
 | (r1, w1) :: r, j, h, k, r', w', hk => by
  simp only [compat, Bool.and_eq_true, Bool.or_eq_true] at h
  cases k with
  | zero =>
   simp at hk
   obtain ⟨rfl, rfl⟩ := hk
   rcases h.1 with h1 | h1
   ·obtain ⟨e, he, hb⟩ := Array.any_eq_true'.1 h1
    simp only [Bool.and_eq_true, beq_iff_eq] at hb
    exact .inl ⟨e, he, hb.1, hb.2⟩
   ·exact .inr h1
  | succ k =>
   have := compat_spec r (j + 1) h.2 k r' w' (by simpa using hk)
   rw [show j + 1 + k = j + (k + 1) from by omega] at this
   exact this
def feet (ops : Array Oper) (base : Nat) (ds : List (Oper × Eff)) (j : Nat) : List (List Nat × List Nat) :=
 match ds with
 | [] => []
 | (o, e) :: r => (rdOf o e, fwOf ops base j o e) :: feet ops base r (j + 1)
theorem feet_length : ∀ (ds : List (Oper × Eff)) (j : Nat), (feet ops base ds j).length = ds.length
 | [], _ => rfl
 | (o, e) :: r, j => by simp [feet, feet_length r]
theorem feet_get : ∀ (ds : List (Oper × Eff)) (j k : Nat) (o : Oper) (e : Eff), ds[k]? = some (o, e) → (feet ops base ds j)[k]? = some (rdOf o e, fwOf ops base (j + k) o e)
 | [], j, k, o, e, h => by simp at h
 | (o1, e1) :: r, j, k, o, e, h => by
  cases k with
  | zero => simp at h; obtain ⟨rfl, rfl⟩ := h; simp [feet]
  | succ k =>
   have := feet_get r (j + 1) k o e (by simpa using h)
   rw [show j + 1 + k = j + (k + 1) from by omega] at this
   simpa [feet] using this
theorem feet_append : ∀ (ds : List (Oper × Eff)) (j : Nat) (o : Oper) (e : Eff), feet ops base (ds ++ [(o, e)]) j = feet ops base ds j ++ [(rdOf o e, fwOf ops base (j + ds.length) o e)]
 | [], j, o, e => by simp [feet]
 | (o1, e1) :: r, j, o, e => by
  simp only [List.cons_append, feet, List.length_cons]
  rw [feet_append r (j + 1) o e, show j + 1 + r.length = j + (r.length + 1) from by omega]
theorem textD_any {K : Env → Heap → Prop} : ∀ (l : List Oper) (tr : List (Oper × Eff)) (listed : Array Bool) (ρ : Env) (H : Heap), (∀ j, l[j]? = ops[tr.length + j]?) → (∀ (j : Nat) (o : Oper) (e : Eff), tr[j]? = some (o, e) → ops[j]? = some o) →
  (∀ k, k < tr.length → listed.getD k true = true) → Region.lexFrom .any ops l.length tr.length listed = true → textD P ops base (feet ops base tr 0) l K ρ H →
  ∃ es : List Eff, es.length = l.length ∧ anyS P .any ops base (tr.map Prod.snd ++ es) K l.length listed ρ H ∧
   ∀ (i j : Nat) (oi oj : Oper) (ei ej : Eff), i < j → tr.length ≤ j → ops[i]? = some oi → ops[j]? = some oj → (tr.map Prod.snd ++ es)[i]? = some ei → (tr.map Prod.snd ++ es)[j]? = some ej →
    (∀ e ∈ oj.after, Region.binds .any e = true → e.on ≠ i) → disjE (rdOf oi ei) (fwOf ops base i oi ei) (rdOf oj ej) (fwOf ops base j oj ej) = true
 | [], tr, listed, ρ, H, hl, htr, hli, hB, h => by
  refine ⟨[], rfl, ⟨by simpa [Region.lexFrom] using hB, h⟩, fun i j oi oj ei ej hij hj hoi hoj hei hej => ?_⟩
  rw [List.append_nil, List.getElem?_map, List.getElem?_eq_none hj] at hej
  cases hej
 | o :: l, tr, listed, ρ, H, hl, htr, hli, hB, h => by
  have h0 : ops[tr.length]? = some o := by simpa using (hl 0).symm
  simp only [List.length_cons, Region.lexFrom, Bool.and_eq_true] at hB
  obtain ⟨⟨hr, hf⟩, hB'⟩ := hB
  simp only [textD, feet_length] at h
  obtain ⟨ef, hy, hcomp, hK⟩ := h
  have hrd : tr.length ∈ Region.ready .any ops listed := by simpa using hr
  have hlt : tr.length < listed.size := by
   have := (mem_ready.1 hrd).1
   rcases Nat.lt_or_ge tr.length listed.size with h' | h'
   ·exact h'
   ·simp [Array.getElem?_eq_none h'] at this
  have hfa : feet ops base (tr ++ [(o, ef)]) 0 = feet ops base tr 0 ++ [(rdOf o ef, fwOf ops base tr.length o ef)] := by rw [feet_append]; simp
  rw [← hfa] at hK
  obtain ⟨es, hes, hany, hpairs⟩ := textD_any l (tr ++ [(o, ef)]) (listed.setIfInBounds tr.length true) _ _ (fun j => by
    have := hl (j + 1)
    simpa [Nat.add_assoc, Nat.add_comm 1 j] using this) (fun j o' e' hj => by
    rw [List.getElem?_append] at hj
    split at hj
    ·exact htr j o' e' hj
    ·rename_i hjl
     have hz : j - tr.length = 0 := by
      have := (List.getElem?_eq_some_iff.1 hj).1
      simp at this; omega
     rw [hz] at hj
     simp at hj
     obtain ⟨rfl, rfl⟩ := hj
     have : j = tr.length := by omega
     rw [this]; exact h0) (fun k hk => by
    simp only [List.length_append, List.length_cons, List.length_nil] at hk
    by_cases hkt : k = tr.length
    ·subst hkt; simp [Array.getD, hlt]
    ·rw [getD_set_ne true (Ne.symm hkt)]; exact hli k (by omega)) (by simpa using hB') hK
  have hfull : (tr ++ [(o, ef)]).map Prod.snd ++ es = tr.map Prod.snd ++ (ef :: es) := by simp
  rw [hfull] at hany hpairs
  have heft : (tr.map Prod.snd ++ ef :: es)[tr.length]? = some ef := by
   rw [List.getElem?_append_right (by simp)]; simp
  have hall : ∀ (i j : Nat) (oi oj : Oper) (ei ej : Eff), i < j → tr.length ≤ j → ops[i]? = some oi → ops[j]? = some oj → (tr.map Prod.snd ++ ef :: es)[i]? = some ei → (tr.map Prod.snd ++ ef :: es)[j]? = some ej →
    (∀ e ∈ oj.after, Region.binds .any e = true → e.on ≠ i) → disjE (rdOf oi ei) (fwOf ops base i oi ei) (rdOf oj ej) (fwOf ops base j oj ej) = true := by
   intro i j oi oj ei ej hij hj hoi hoj hei hej hno
   by_cases hjt : j = tr.length
   ·subst hjt
    rw [h0] at hoj; cases hoj
    rw [heft] at hej; cases hej
    have hti : ∃ p, tr[i]? = some p := ⟨tr[i], List.getElem?_eq_getElem hij⟩
    obtain ⟨⟨o', e'⟩, hp⟩ := hti
    have h1 := htr i o' e' hp
    rw [hoi] at h1; cases h1
    rw [List.getElem?_append_left (by simpa using hij), List.getElem?_map, hp] at hei
    cases hei
    have hft := feet_get (ops := ops) (base := base) tr 0 i oi _ hp
    rcases compat_spec _ 0 hcomp i _ _ hft with ⟨e, he, hb, hon⟩ | hd
    ·exact absurd (by omega : e.on = i) (hno e he hb)
    ·rwa [Nat.zero_add] at hd
   ·exact hpairs i j oi oj ei ej hij (by simp; omega) hoi hoj hei hej hno
  refine ⟨ef :: es, by simp [hes], ?_, hall⟩
  rw [List.length_cons]
  refine anyS_first h0 heft l.length listed ρ H (fun j oj ej hoj hej hji hun hno => ⟨Region.free_spec h0 hf j oj hoj hji hun hno, ?_⟩) hrd hy hany
  have hjgt : tr.length < j := by
   rcases Nat.lt_or_ge tr.length j with h' | h'
   ·exact h'
   ·have : j < tr.length := by omega
    rw [hli j this] at hun; cases hun
  exact hall tr.length j o oj ef ej hjgt (by omega) h0 hoj heft hej hno
section
variable {F : Fr} {Q : Exit → Act → World → Prop}
theorem opEval_idx {o : Oper} {ρ : Env} {H : Heap} (h : creates o = false) (i j : Nat) : opEval P o ρ H i = opEval P o ρ H j := by
 unfold opEval
 split
 ·rfl
 ·unfold creates at h
  cases ho : o.op <;> rw [ho] at h <;> simp only [heapEval, ho] <;> first | rfl | (cases h; done) | skip
  rename_i c
  split <;> first | rfl | (rename_i hc; simp only [hc] at h; cases h)
theorem applyS_append : ∀ (a b : List (Nat × Ent)) (H : Heap), applyS H (a ++ b) = applyS (applyS H a) b
 | [], b, H => rfl
 | (i, en) :: a, b, H => by simp only [List.cons_append, applyS]; exact applyS_append a b _
theorem wr_frame {f : Nat → Nat} {H H0 H0' : Heap} (hs : Sel H f H0) (hl : H0'.length = H0.length) (hr : ∀ (j : Nat) (en : Ent), H0'[j]? = some en → Ent.refs H0.length en = true) : frameH f H0.length H H0' = applyS H (wrOf f H0.length H0') := by
 have key : ∀ q, q ≤ H0.length → putG (gOf f H0.length H.length) H0' H q = applyS H ((List.range q).map fun j => (f j, Ent.rn f (H0'.getD j .gone))) := by
  intro q
  induction q with
  | zero => intro _; rfl
  | succ q ih =>
   intro hq
   have hen : H0'[q]? = some (H0'[q]'(by omega)) := List.getElem?_eq_getElem (by omega)
   have hg : gOf f H0.length H.length q = f q := by simp [gOf, show q < H0.length by omega]
   simp only [putG, hen]
   rw [List.range_succ, List.map_append, applyS_append, ← ih (by omega), hg]
   have hlt : f q < (putG (gOf f H0.length H.length) H0' H q).length := by
    rw [ih (by omega), applyS_length]
    exact hs.lt (by omega)
   simp only [List.map_cons, List.map_nil, applyS, setE, if_pos hlt]
   rw [List.getD_eq_getElem?_getD, hen, Option.getD_some, ern_congr (f := gOf f H0.length H.length) (g := f) (m := H0.length) (fun i hi => by simp [gOf, hi]) _ (hr q _ hen)]
 unfold frameH wrOf
 rw [hl]
 exact key _ (Nat.le_refl _)
theorem Good.put {H0 H0' : Heap} {v0 : SV} {H : Heap} {f : Nat → Nat} {w w' : World} {K : Nat → Nat} {D : DM} {r : Value} {idx : Nat} (hg0 : Good w K (subD D f H0.length) H0 r w' v0 H0') (hs : Sel H f H0) (hi : HInv w K D H)
  (hlive : ∀ en ∈ H0, live en = true) (hl : H0'.length = H0.length + 1) (hres : H[idx]? = some .res) : Good w K D H r w' (SV.rn (pOf f H0.length idx) v0) (applyS H (wrOf (pOf f H0.length idx) (H0.length + 1) H0')) := by
 obtain ⟨K', Ds', g, hi', hrep⟩ := hg0
 have hil : idx < H.length := (List.getElem?_eq_some_iff.1 hres).1
 have hDi : D idx = none := hi.ent idx _ hres
 have hfi : ∀ j, j < H0.length → f j ≠ idx := by
  intro j hj e
  have h1 := hs.get j _ (List.getElem?_eq_getElem hj)
  rw [e, hres] at h1
  have h2 := hlive _ (List.getElem_mem hj)
  have h3 := Option.some.inj h1
  rw [← live_rn (f := f), ← h3] at h2
  cases h2
 generalize hg : pOf f H0.length idx = gg
 have hgl : ∀ j, j < H0.length → gg j = f j := fun j hj => by rw [← hg]; simp [pOf, hj]
 have hgm : gg H0.length = idx := by rw [← hg]; simp [pOf]
 have hglt : ∀ j, j < H0.length + 1 → gg j < H.length := fun j hj => by
  by_cases h : j < H0.length
  ·rw [hgl j h]; exact hs.lt h
  ·rw [show j = H0.length by omega, hgm]; exact hil
 have hginj : ∀ i j, i < H0.length + 1 → j < H0.length + 1 → gg i = gg j → i = j := by
  intro i j hi1 hj1 e
  by_cases h1 : i < H0.length <;> by_cases h2 : j < H0.length
  ·rw [hgl i h1, hgl j h2] at e; exact hs.inj i j h1 h2 e
  ·rw [hgl i h1, show j = H0.length by omega, hgm] at e; exact absurd e (hfi i h1)
  ·rw [hgl j h2, show i = H0.length by omega, hgm] at e; exact absurd e.symm (hfi j h2)
  ·omega
 have hput : ∀ q, q ≤ H0.length + 1 → (∀ j en, j < q → H0'[j]? = some en → (applyS H (wrOf gg q H0'))[gg j]? = some (Ent.rn gg en)) ∧ ∀ i, (∀ j, j < q → gg j ≠ i) → (applyS H (wrOf gg q H0'))[i]? = H[i]? := by
  intro q
  induction q with
  | zero => intro _; exact ⟨fun j en h => absurd h (Nat.not_lt_zero _), fun i _ => rfl⟩
  | succ q ih =>
   intro hq
   obtain ⟨h2, h3⟩ := ih (by omega)
   have hen : H0'[q]? = some (H0'[q]'(by omega)) := List.getElem?_eq_getElem (by omega)
   have hw : applyS H (wrOf gg (q + 1) H0') = (applyS H (wrOf gg q H0')).set (gg q) (Ent.rn gg (H0'[q]'(by omega))) := by
    unfold wrOf
    rw [List.range_succ, List.map_append, applyS_append]
    simp only [List.map_cons, List.map_nil, applyS]
    rw [List.getD_eq_getElem?_getD, hen, Option.getD_some]
   have hlt : gg q < (applyS H (wrOf gg q H0')).length := by rw [applyS_length]; exact hglt q (by omega)
   rw [hw]
   refine ⟨fun j en hj hej => ?_, fun i hi3 => ?_⟩
   ·by_cases hjq : j = q
    ·subst hjq
     rw [List.getElem?_set_self hlt]
     rw [hen] at hej; cases hej; rfl
    ·rw [List.getElem?_set_ne (fun e => hjq (hginj q j (by omega) (by omega) e).symm)]
     exact h2 j en (by omega) hej
   ·rw [List.getElem?_set_ne (hi3 q (by omega))]
    exact h3 i fun j hj => hi3 j (by omega)
 obtain ⟨p2, p3⟩ := hput (H0.length + 1) (Nat.le_refl _)
 -- entries that were handed over are somewhere
 have hsome : ∀ j, j < H0.length → ∃ x, D (f j) = some x := by
  intro j hj
  have hen := List.getElem?_eq_getElem hj
  have hlv := hlive _ (List.getElem_mem hj)
  have he := hi.ent _ _ (hs.get j _ hen)
  generalize H0[j] = en at hlv he
  cases en with
  | res => cases hlv
  | gone => cases hlv
  | box cs => obtain ⟨b, vs, e, h1, _⟩ := he; exact ⟨_, h1⟩
  | vec n k e cs => rcases he.2 with ⟨h1, _⟩ | ⟨b, c, vs, rest, h1, _⟩ <;> exact ⟨_, h1⟩
  | map es => obtain ⟨r, mes, clock, h1, _⟩ := he; exact ⟨_, h1⟩
  | itr i n' s => obtain ⟨r, bm, c0, h1, _⟩ := he; exact ⟨_, h1⟩
  | pmap es => obtain ⟨es', r, mes, clock, _, h1, _⟩ := he; exact ⟨_, h1⟩
 let D' : DM := fun i => if i = idx then Ds' H0.length else D i
 have hDold : ∀ i, i ≠ idx → D' i = D i := fun i hi => by simp [D', hi]
 have hDs : ∀ j, j < H0.length → Ds' j = D (f j) := by
  intro j hj
  obtain ⟨x, hx⟩ := hsome j hj
  have : subD D f H0.length j = some x := by simp [subD, hj, hx]
  rw [g.dd j x this, hx]
 have hup : ∀ j, j < H0.length + 1 → D' (gg j) = Ds' j := by
  intro j hj1
  by_cases hj : j < H0.length
  ·rw [hgl j hj, hDold _ (hfi j hj), hDs j hj]
  ·rw [show j = H0.length by omega, hgm]
   simp [D']
 have hup2 : ∀ j x, Ds' j = some x → D' (gg j) = some x := by
  intro j x hx
  by_cases hj : j < H0.length + 1
  ·rw [hup j hj]; exact hx
  ·rw [hi'.dom j (by omega)] at hx; cases hx
 have hdd : ∀ i x, D i = some x → D' i = some x := by
  intro i x hx
  have : i ≠ idx := fun e => by rw [e, hDi] at hx; cases hx
  rw [hDold i this]; exact hx
 have hrep' : ∀ v s, Rep w K D v s → Rep w' K' D' v s := fun v s h1 => h1.mono g.cells g.le hdd
 -- an entry: an old one that was not handed over, or one of the call's
 have hcase : ∀ i en, (applyS H (wrOf gg (H0.length + 1) H0'))[i]? = some en → (∃ j en0, H0'[j]? = some en0 ∧ i = gg j ∧ en = Ent.rn gg en0) ∨ ((∀ j, j < H0'.length → gg j ≠ i) ∧ H[i]? = some en ∧ i ≠ idx) := by
  intro i en hi2
  by_cases hex : ∃ j, j < H0'.length ∧ gg j = i
  ·obtain ⟨j, hj, rfl⟩ := hex
   have hen := List.getElem?_eq_getElem hj
   rw [p2 j _ (by omega) hen] at hi2
   cases hi2
   exact .inl ⟨j, _, hen, rfl, rfl⟩
  ·have hno : ∀ j, j < H0'.length → gg j ≠ i := fun j hj e => hex ⟨j, hj, e⟩
   rw [p3 i (fun j hj => hno j (by omega))] at hi2
   exact .inr ⟨hno, hi2, fun e => hno H0.length (by omega) (by rw [hgm]; exact e.symm)⟩
 -- a block of the call's is old and handed over, or new
 have hblk : ∀ j en0 b c n, H0'[j]? = some en0 → live en0 = true → Ds' j = some (.at b c n) → Mem (subD D f H0.length) H0 b ∨ w.heap.size ≤ b := fun j en0 b c n h1 h2 h3 => g.new b ⟨j, en0, c, n, h1, h2, h3⟩
 have hapart : ∀ i en b c n, (∀ j, j < H0'.length → gg j ≠ i) → H[i]? = some en → live en = true → D i = some (.at b c n) → ¬ Mem (subD D f H0.length) H0 b ∧ b < w.heap.size := by
  intro i en b c n hno hie hli hdi
  refine ⟨fun ⟨j, en0, c0, n0, h1, h2, h3⟩ => ?_, (mem_lt hi ⟨i, en, c, n, hie, hli, hdi⟩).1⟩
  have hjl := (List.getElem?_eq_some_iff.1 h1).1
  simp only [subD, hjl, if_true] at h3
  have := hi.inj i (f j) en _ b c n c0 n0 hie (hs.get j en0 h1) hli (by rw [live_rn]; exact h2) hdi h3
  exact hno j (by omega) (by rw [hgl j hjl]; exact this.symm)
 refine ⟨K', D', ⟨g.os, g.tape, g.output, g.size, fun b hb hm => g.block b hb (fun h1 => hm (hs.mem h1)), g.cells, g.le, fun b hb hm => g.kk b hb (fun h1 => hm (hs.mem h1)), hdd, fun b hm => ?_⟩,
  ⟨fun i hil2 => ?_, fun i en hie => ?_, fun i j en en' b c n c' n' hie hje hli hlj hdi hdj => ?_, hi'.kw⟩, ?_⟩
 ·obtain ⟨i, en, c, n, h1, h2, h3⟩ := hm
  rcases hcase i en h1 with ⟨j, en0, q1, q2, q3⟩ | ⟨_, q2, q3⟩
  ·subst q2; subst q3
   rw [hup j (by have := (List.getElem?_eq_some_iff.1 q1).1; omega)] at h3
   rw [live_rn] at h2
   rcases hblk j en0 b c n q1 h2 h3 with h4 | h4
   ·exact .inl (hs.mem h4)
   ·exact .inr h4
  ·rw [hDold i q3] at h3
   exact .inl ⟨i, en, c, n, q2, h2, h3⟩
 ·rw [applyS_length] at hil2
  rw [hDold i (by omega)]
  exact hi.dom i hil2
 ·rcases hcase i en hie with ⟨j, en0, q1, q2, q3⟩ | ⟨q1, q2, q3⟩
  ·subst q2; subst q3
   exact ent_up (hi'.ent j en0 q1) hup2 (fun hn => by rw [hup j (by have := (List.getElem?_eq_some_iff.1 q1).1; omega)]; exact hn)
  ·refine (hi.ent i en q2).keep hrep' (hDold i q3) (fun b c n hlv hd => ?_)
   obtain ⟨a1, a2⟩ := hapart i en b c n q1 q2 hlv hd
   exact ⟨g.block b a2 a1, g.kk b a2 a1⟩
 ·rcases hcase i en hie with ⟨ji, e1, q1, q2, q3⟩ | ⟨q1, q2, q3⟩ <;> rcases hcase j en' hje with ⟨jj, e2, r1, r2, r3⟩ | ⟨r1, r2, r3⟩
  ·subst q2; subst q3; subst r2; subst r3
   rw [hup ji (by have := (List.getElem?_eq_some_iff.1 q1).1; omega)] at hdi
   rw [hup jj (by have := (List.getElem?_eq_some_iff.1 r1).1; omega)] at hdj
   rw [live_rn] at hli hlj
   rw [hi'.inj ji jj e1 e2 b c n c' n' q1 r1 hli hlj hdi hdj]
  ·exfalso
   subst q2; subst q3
   rw [hup ji (by have := (List.getElem?_eq_some_iff.1 q1).1; omega)] at hdi
   rw [live_rn] at hli
   rw [hDold j r3] at hdj
   obtain ⟨a1, a2⟩ := hapart j en' b c' n' r1 r2 hlj hdj
   rcases hblk ji e1 b c n q1 hli hdi with h4 | h4
   ·exact a1 h4
   ·omega
  ·exfalso
   subst r2; subst r3
   rw [hup jj (by have := (List.getElem?_eq_some_iff.1 r1).1; omega)] at hdj
   rw [live_rn] at hlj
   rw [hDold i q3] at hdi
   obtain ⟨a1, a2⟩ := hapart i en b c n q1 q2 hli hdi
   rcases hblk jj e2 b c' n' r1 hlj hdj with h4 | h4
   ·exact a1 h4
   ·omega
  ·rw [hDold i q3] at hdi
   rw [hDold j r3] at hdj
   exact hi.inj i j en en' b c n c' n' q2 r2 hli hlj hdi hdj
 ·exact rep_up hrep hup2
theorem SC.put {P : Program} {fid : FuncId} {args0 : List SV} {H0 : Heap} {v0 : SV} {H0' : Heap} (h : SC P fid args0 H0 v0 H0') {H : Heap} {f : Nat → Nat} {idx : Nat} (hs : Sel H f H0)
  (hlive : ∀ en ∈ H0, live en = true) (ha : SV.refsL H0.length args0 = true) (hl : H0'.length = H0.length + 1) (hres : H[idx]? = some .res) :
  SC P fid (SV.rnL f args0) H (SV.rn (pOf f H0.length idx) v0) (applyS H (wrOf (pOf f H0.length idx) (H0.length + 1) H0')) := by
 refine ⟨h.1, fun w K D vals hlen hr hi hG => ?_⟩
 refine (h.2 w K (subD D f H0.length) vals (by rw [hlen, rnL_length]) (fun j x c hx hc => rep_sub (hr j x (SV.rn f c) hx (by rw [rnL_get, hc]; rfl)) c rfl (refsL_get ha j c hc)) (hs.hinv hi) (glob_any hG)).mono ?_
 rintro e w' ⟨r, he, hg⟩
 exact ⟨r, he, hg.put hs hi hlive hl hres⟩
theorem any_sound {effs : List Eff} {KS : Env → Heap → Prop} (hQ : ∀ ρ H a w, St F ρ H a w → KS ρ H → Q .normal a w) (hb : ∀ o ∈ ops.toList, Oper.inB F.n ops o = true) : ∀ (fuel : Nat) (listed : Array Bool) (ρ : Env) (H : Heap) (a : Act) (w : World),
  St F ρ H a w → anyS P md ops base effs KS fuel listed ρ H → wpAny P md ops Q fuel listed a w := by
 intro fuel
 induction fuel with
 | zero => intro listed ρ H a w hst h; exact ⟨h.1, hQ _ _ _ _ hst h.2⟩
 | succ fuel ih =>
  intro listed ρ H a w hst h
  refine ⟨fun h0 => hQ _ _ _ _ hst (h.1 h0), fun i hi => ?_⟩
  obtain ⟨o, ef, ho, hef, hd, hrest⟩ := h.2 i hi
  have hbo : Oper.inB F.n ops o = true := hb o (Array.mem_toList_iff.2 (Array.mem_of_getElem? ho))
  obtain ⟨hdef, K, D, hinv⟩ := hst
  unfold wpOp
  simp only [ho]
  unfold opD at hd
  split at hd
  ·rename_i hg
   rw [guard_sound hinv.slots (Oper.inB_guard hbo) hg, if_pos rfl]
   refine .inl ?_
   split at hd
   ·rename_i hc
    rcases hd with ⟨f, args, g, args0, H0, v0, h1, h2, h3, h4, h5, h6, h7, h8⟩ | ⟨f, args, v0, en0, h1, h2, h3, ⟨h4, hE⟩, h5⟩ | ⟨f, args, g, args0, H0, v0, H0', h1, h2, h3, h4, h5, h6, h7, hl2, hr2, h8⟩ | ⟨f, args, g, args0, H0, v0, H0', h1, h2, h3, h4, h5, h7, hl2, hres, h8⟩
    case inr.inr.inr =>
     subst h8
     have hfr := SC.put h7 h3 h4 h5 hl2 hres
     rw [← h2] at hfr
     exact call_wp hinv hdef (Oper.inB_op hbo) h1 hfr (fun a' w' hst' => ih _ _ _ _ _ hst' hrest)
    case inr.inr.inl =>
     subst h8
     have hfr := SC.frame h7 h3 h4 h5 (Nat.le_of_eq hl2.symm)
     rw [← h2, wr_frame h3 hl2 hr2, ← rn_congr (f := g) (m := H0.length) (fun i hi => by simp [gOf, hi]) v0 h6] at hfr
     exact call_wp hinv hdef (Oper.inB_op hbo) h1 hfr (fun a' w' hst' => ih _ _ _ _ _ hst' hrest)
    case inr.inl =>
     subst h5
     exact call_wp hinv hdef (Oper.inB_op hbo) h1 (SC.place h3 h2 h4 hE) (fun a' w' hst' => ih _ _ _ _ _ hst' hrest)
    subst h8
    have hfr := SC.frame h7 h3 h4 h5 (Nat.le_refl _)
    rw [← h2] at hfr
    -- the frame leaves the entries and the value as they are
    rw [frame_same h3, ← rn_congr (f := g) (m := H0.length) (fun i hi => by simp [gOf, hi]) v0 h6] at hfr
    exact call_wp hinv hdef (Oper.inB_op hbo) h1 hfr (fun a' w' hst' => ih _ _ _ _ _ hst' hrest)
   ·obtain ⟨h1, h2, h3⟩ := hd
    rw [← applyS_eq _ _ h3] at hrest
    rcases h1 with h1 | h1
    case inr => exact op_wpZ hinv hdef (Oper.inB_op hbo) (.inr (h2 h1.2)) h1.1 fun a' w' hst' => ih _ _ _ _ _ hst' hrest
    by_cases hcr : creates o = true
    ·exact op_wp hinv hdef (Oper.inB_op hbo) (.inr (h2 hcr)) h1 fun a' w' hst' => ih _ _ _ _ _ hst' hrest
    ·rw [opEval_idx (by simpa using hcr) _ H.length] at h1
     exact op_wp hinv hdef (Oper.inB_op hbo) (.inl rfl) h1 fun a' w' hst' => ih _ _ _ _ _ hst' hrest
  ·rename_i hg
   rw [guard_sound hinv.slots (Oper.inB_guard hbo) hg, if_neg (by simp)]
   subst hd
   exact ih _ _ _ _ _ ⟨by rw [put_defers]; exact hdef, K, D, put_skip hinv o.dst⟩ hrest
  ·exact hd.elim
theorem Inv.reserve {w : World} {K : Nat → Nat} {D : DM} {H : Heap} {ρ : Env} {tm : Array Value} (h : Inv F w K D H ρ tm) (m : Nat) : Inv F w K D (H ++ List.replicate m .res) ρ tm := by
 have hget : ∀ i en, (H ++ List.replicate m Ent.res)[i]? = some en → H[i]? = some en ∨ (en = .res ∧ H.length ≤ i) := by
  intro i en hi
  rw [List.getElem?_append] at hi
  split at hi
  ·exact .inl hi
  ·rw [List.getElem?_replicate] at hi
   split at hi <;> cases hi
   exact .inr ⟨rfl, by omega⟩
 have hmem : ∀ b, Mem D (H ++ List.replicate m .res) b → Mem D H b := by
  rintro b ⟨i, en, c, n, h1, h2, h3⟩
  rcases hget i en h1 with h4 | ⟨h4, _⟩
  ·exact ⟨i, en, c, n, h4, h2, h3⟩
  ·subst h4; cases h2
 refine ⟨h.slots, ⟨fun i hi => h.hinv.dom i (by simp at hi; omega), fun i en hi => ?_, fun i j en en' b c n c' n' hi hj hl hl' hd hd' => ?_, h.hinv.kw⟩, ?_⟩
 ·rcases hget i en hi with h4 | ⟨h4, h5⟩
  ·exact h.hinv.ent i en h4
  ·subst h4; exact h.hinv.dom i h5
 ·rcases hget i en hi with h4 | ⟨h4, _⟩
  ·rcases hget j en' hj with h5 | ⟨h5, _⟩
   ·exact h.hinv.inj i j en en' b c n c' n' h4 h5 hl hl' hd hd'
   ·subst h5; cases hl'
  ·subst h4; cases hl
 ·have g := h.grow
  exact ⟨g.os, g.tape, g.output, g.size, g.block, g.cells, g.le, g.kk, g.dd, fun b hm => g.new b (hmem b hm)⟩
def nCreates (ops : Array Oper) : Nat := (ops.toList.filter creates).length
theorem drawn_sound {KS : Env → Heap → Prop} (hm : P.follows .mixedOrders = true) (hB : Region.lexB .any ops = true) (hQ : ∀ ρ H a w, St F ρ H a w → KS ρ H → Q .normal a w) (hb : ∀ o ∈ ops.toList, Oper.inB F.n ops o = true) {id : Nat} {ρ : Env} {H : Heap} {a : Act} {w : World}
  (hst : St F ρ H a w) (h : textD P ops H.length [] ops.toList KS ρ (H ++ List.replicate (nCreates ops) .res)) : (Code.region id ops true).wp P Q a w := by
 simp only [Region.lexB, Bool.and_eq_true] at hB
 obtain ⟨hd, K, D, hinv⟩ := hst
 refine wp_region_any hm ?_
 obtain ⟨es, _, hany, _⟩ := textD_any (base := H.length) ops.toList [] (Array.replicate ops.size false) ρ _ (by simp) (fun j o e hj => by simp at hj) (fun k hk => absurd hk (Nat.not_lt_zero _)) (by simpa using hB.2) h
 have hinv' := hinv.reserve (nCreates ops)
 have hdrew : Inv F w.drew K D (H ++ List.replicate (nCreates ops) .res) ρ a.tmps := ⟨hinv'.slots.mono fun _ _ => World.drew_rep, hinv'.hinv.drew, hinv'.grow.trans (Grow.drew _ _ _ _)⟩
 exact any_sound hQ hb ops.size _ ρ _ a _ ⟨hd, K, D, hdrew⟩ (by simpa using hany)
end
end
end Go.Sy
