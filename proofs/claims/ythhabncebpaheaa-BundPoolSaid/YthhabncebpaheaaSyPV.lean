/-
 Regions in any order around one call: what runs ahead of it, or beside it, changes nothing, and all else waits for it.
-/
import Derived.Test.YthhabncebpaheaaSyPA
namespace Go.Sy
open Go Go.RowKit
set_option linter.unusedVariables false
set_option linter.unusedSimpArgs false
set_option linter.unusedSectionVars false
variable [Inhabited GT]
def leftP (ops : Array Oper) (listed : Array Bool) : Nat := ((List.range ops.size).filter fun j => !listed.getD j false).length
theorem filter_ltP (p q : Nat → Bool) (hpq : ∀ x, q x = true → p x = true) (i : Nat) (hi : p i = true) (hq : q i = false) : ∀ l : List Nat, i ∈ l → (l.filter q).length < (l.filter p).length
 | [], h => by cases h
 | x :: l, h => by
  have hle : (l.filter q).length ≤ (l.filter p).length := by
   clear h
   induction l with
   | nil => exact Nat.le_refl _
   | cons y l ih =>
    simp only [List.filter_cons]
    cases hy : q y with
    | true => rw [if_pos rfl, if_pos (hpq y hy)]; simpa using ih
    | false =>
     rw [if_neg (by simp)]
     split
     ·simp only [List.length_cons]; omega
     ·exact ih
  simp only [List.filter_cons]
  rcases List.mem_cons.1 h with rfl | h
  ·rw [if_pos hi, if_neg (by rw [hq]; simp)]
   simp only [List.length_cons]; omega
  ·have ih := filter_ltP p q hpq i hi hq l h
   cases hx : q x with
   | true => rw [if_pos rfl, if_pos (hpq x hx)]; simpa using ih
   | false =>
    rw [if_neg (by simp)]
    split
    ·simp only [List.length_cons]; omega
    ·exact ih
theorem left_setP {ops : Array Oper} {listed : Array Bool} {i : Nat} (hi : i < ops.size) (hs : listed.size = ops.size) (h : listed.getD i false = false) : leftP ops (listed.setIfInBounds i true) < leftP ops listed := by
 unfold leftP
 refine filter_ltP (fun j => !listed.getD j false) (fun j => !(listed.setIfInBounds i true).getD j false) (fun x hx => ?_) i (by rw [h]; rfl) ?_ _ (List.mem_range.2 hi)
 ·by_cases hxi : i = x
  ·subst hxi; rw [h]; rfl
  ·rw [getD_set_ne false hxi] at hx; exact hx
 ·have : i < listed.size := by omega
  simp [Array.getD, this]
def pivOp (o : Oper) (d : Nat) : Oper := { o with op := .move (.tmp d) }
def pivOps (ops : Array Oper) (p d : Nat) : Array Oper := match ops[p]? with
 | some o => ops.setIfInBounds p (pivOp o d)
 | none => ops
def opndOk (V : List (Nat × Nat × SV)) (d : Nat) (o : Oper) : Operand → Bool
 | .tmp t => !Nat.beq t d && V.all fun x => !Nat.beq x.2.1 t || o.after.toList.any fun e => Region.binds .any e && Nat.beq e.on x.1
 | _ => true
def waitsB (W : List Nat) (p : Nat) (o : Oper) : Bool := o.after.toList.any fun e => Region.binds .any e && (Nat.beq e.on p || W.any fun i => Nat.beq e.on i)
def onlyB : List Nat → Bool
 | [] => true
 | x :: r => r.all (fun y => !Nat.beq x y) && onlyB r
def noneG (o : Oper) : Bool := match o.guard with | none => true | some _ => false
def dstB (o : Oper) (d : Nat) : Bool := match o.dst with | some e => Nat.beq e d | none => false
def pivB (ops : Array Oper) (V : List (Nat × Nat × SV)) (W : List Nat) (p d : Nat) : Bool :=
 (List.range ops.size).all (fun i => match ops.toList[i]? with
  | some o => (o.after.toList.all fun e => !Region.binds .any e || Nat.blt e.on i) && (Nat.beq i p || ((W.any fun j => Nat.beq i j) && waitsB W p o) || V.any fun x => Nat.beq x.1 i)
  | none => false) &&
 (V.all (fun x => !Nat.beq x.1 p && (!(W.any fun j => Nat.beq x.1 j) && (!Nat.beq x.2.1 d && match ops.toList[x.1]? with
  | some o => dstB o x.2.1 && (noneG o && (!creates o && (!isCall o && o.op.operands.toList.all (opndOk V d o))))
  | none => false))) && (onlyB (V.map fun x => x.2.1) && (W.all (fun j => !Nat.beq j p) && match ops.toList[p]? with
  | some o => dstB o d && (noneG o && o.op.operands.toList.all (opndOk V d o))
  | none => false)))
def quietAt (P : Program) (ops : Array Oper) (V : List (Nat × Nat × SV)) (L : LE) (H : Heap) : List (Option (SV × List (Nat × Ent))) :=
 V.map fun x => match ops.toList[x.1]? with
  | some o => (opEval P o (envOf (V.map (fun y => y.2) ++ L)) H 0).map fun ef => (ef.v, ef.wr)
  | none => none
def pivCall (ops : Array Oper) (p : Nat) (V : List (Nat × Nat × SV)) (L : LE) : Option (FuncId × List SV) := match ops.toList[p]? with
 | some o => callOf (envOf (V.map (fun y => y.2) ++ L)) o
 | none => none
section
variable {P : Program} {ops : Array Oper} {V : List (Nat × Nat × SV)} {W : List Nat} {p d : Nat} {L : LE}
theorem toL (i : Nat) : ops.toList[i]? = ops[i]? := by simp
theorem anyN {W : List Nat} {i : Nat} : (W.any fun j => Nat.beq i j) = true ↔ i ∈ W := by
 rw [List.any_eq_true]
 constructor
 ·rintro ⟨j, hj, e⟩; rw [Nat.eq_of_beq_eq_true e]; exact hj
 ·exact fun h => ⟨i, h, Nat.beq_refl i⟩
theorem neB {i j : Nat} (h : (!Nat.beq i j) = true) : i ≠ j := fun e => by subst e; simp at h
theorem dstB_ok {o : Oper} (h : dstB o d = true) : o.dst = some d := by
 unfold dstB at h
 split at h
 ·rename_i e he; rw [he, Nat.eq_of_beq_eq_true h]
 ·cases h
theorem noneG_ok {o : Oper} (h : noneG o = true) : o.guard = none := by
 unfold noneG at h
 split at h
 ·assumption
 ·cases h
structure PivOk (ops : Array Oper) (V : List (Nat × Nat × SV)) (W : List Nat) (p d : Nat) : Prop where
 back : ∀ i o, ops[i]? = some o → ∀ e ∈ o.after, Region.binds .any e = true → e.on < i
 all : ∀ i o, ops[i]? = some o → i = p ∨ (i ∈ W ∧ ∃ e ∈ o.after, Region.binds .any e = true ∧ (e.on = p ∨ e.on ∈ W)) ∨ ∃ x ∈ V, x.1 = i
 quiet : ∀ x ∈ V, x.1 ≠ p ∧ x.1 ∉ W ∧ x.2.1 ≠ d ∧ ∃ o, ops[x.1]? = some o ∧ o.dst = some x.2.1 ∧ o.guard = none ∧ creates o = false ∧ isCall o = false ∧ ∀ a ∈ o.op.operands, opndOk V d o a = true
 only : onlyB (V.map fun x => x.2.1) = true
 notW : p ∉ W
 piv : ∃ o, ops[p]? = some o ∧ o.dst = some d ∧ o.guard = none ∧ ∀ a ∈ o.op.operands, opndOk V d o a = true
theorem pivB_ok (h : pivB ops V W p d = true) : PivOk ops V W p d := by
 unfold pivB at h
 simp only [Bool.and_eq_true] at h
 obtain ⟨h1, h2, h3, h4, h5⟩ := h
 rw [List.all_eq_true] at h1 h2 h4
 have g1 : ∀ i o, ops[i]? = some o → (o.after.toList.all fun e => !Region.binds .any e || Nat.blt e.on i) = true ∧ (Nat.beq i p || ((W.any fun j => Nat.beq i j) && waitsB W p o) || V.any fun x => Nat.beq x.1 i) = true := fun i o ho => by
  have := h1 i (List.mem_range.2 (Array.getElem?_eq_some_iff.1 ho).1)
  rw [toL, ho] at this
  simpa only [Bool.and_eq_true] using this
 refine ⟨fun i o ho e he hb => ?_, fun i o ho => ?_, fun x hx => ?_, h3, fun hm => neB (h4 p hm) rfl, ?_⟩
 ·have := List.all_eq_true.1 (g1 i o ho).1 e (Array.mem_toList_iff.2 he)
  rw [hb] at this
  exact Nat.lt_of_lt_of_le (Nat.lt_succ_self _) (by simpa [Nat.blt] using this)
 ·have := (g1 i o ho).2
  simp only [Bool.or_eq_true, Bool.and_eq_true] at this
  rcases this with (h | ⟨ha, hw⟩) | h
  ·exact .inl (Nat.eq_of_beq_eq_true h)
  ·refine .inr (.inl ⟨anyN.1 ha, ?_⟩)
   obtain ⟨e, he, hq⟩ := List.any_eq_true.1 hw
   simp only [Bool.and_eq_true, Bool.or_eq_true] at hq
   exact ⟨e, Array.mem_toList_iff.1 he, hq.1, hq.2.imp Nat.eq_of_beq_eq_true anyN.1⟩
  ·obtain ⟨x, hx, e⟩ := List.any_eq_true.1 h
   exact .inr (.inr ⟨x, hx, Nat.eq_of_beq_eq_true e⟩)
 ·have := h2 x hx
  simp only [Bool.and_eq_true] at this
  obtain ⟨a1, a2, a3, a4⟩ := this
  refine ⟨neB a1, fun hm => ?_, neB a3, ?_⟩
  ·rw [anyN.2 hm] at a2; cases a2
  ·rw [toL] at a4
   cases ho : ops[x.1]? with
   | none => rw [ho] at a4; cases a4
   | some o =>
    rw [ho] at a4
    simp only [Bool.and_eq_true, Bool.not_eq_true'] at a4
    obtain ⟨b1, b2, b3, b4, b5⟩ := a4
    exact ⟨o, rfl, dstB_ok b1, noneG_ok b2, b3, b4, fun a ha => List.all_eq_true.1 b5 a (Array.mem_toList_iff.2 ha)⟩
 ·rw [toL] at h5
  cases ho : ops[p]? with
  | none => rw [ho] at h5; cases h5
  | some o =>
   rw [ho] at h5
   simp only [Bool.and_eq_true] at h5
   obtain ⟨b1, b2, b5⟩ := h5
   exact ⟨o, rfl, dstB_ok b1, noneG_ok b2, fun a ha => List.all_eq_true.1 b5 a (Array.mem_toList_iff.2 ha)⟩
theorem lk_only : ∀ {V : List (Nat × Nat × SV)}, onlyB (V.map fun x => x.2.1) = true → ∀ x ∈ V, lk (V.map (fun y => y.2) ++ L) x.2.1 = x.2.2
 | [], _, x, hx => by cases hx
 | y :: V, h, x, hx => by
  simp only [List.map_cons, onlyB, Bool.and_eq_true] at h
  simp only [List.map_cons, List.cons_append, lk]
  rcases List.mem_cons.1 hx with rfl | hx
  ·rw [Nat.beq_refl]; rfl
  ·have hne : y.2.1 ≠ x.2.1 := neB (List.all_eq_true.1 h.1 _ (List.mem_map.2 ⟨x, hx, rfl⟩))
   have : Nat.beq x.2.1 y.2.1 = false := by
    cases hb : Nat.beq x.2.1 y.2.1 with
    | false => rfl
    | true => exact absurd (Nat.eq_of_beq_eq_true hb).symm hne
   rw [this]
   exact lk_only h.2 x hx
theorem lk_none : ∀ {V : List (Nat × Nat × SV)} {t : Nat}, (∀ x ∈ V, x.2.1 ≠ t) → lk (V.map (fun y => y.2) ++ L) t = lk L t
 | [], t, _ => rfl
 | y :: V, t, h => by
  simp only [List.map_cons, List.cons_append, lk]
  have : Nat.beq t y.2.1 = false := by
   cases hb : Nat.beq t y.2.1 with
   | false => rfl
   | true => exact absurd (Nat.eq_of_beq_eq_true hb).symm (h y (List.mem_cons_self ..))
  rw [this]
  exact lk_none fun x hx => h x (List.mem_cons_of_mem _ hx)
structure PivI (ops : Array Oper) (V : List (Nat × Nat × SV)) (L : LE) (listed : Array Bool) (ρ : Env) : Prop where
 size : listed.size = ops.size
 sub : ∀ i, i < ops.size → listed.getD i false = true → ∃ x ∈ V, x.1 = i
 has : ∀ x ∈ V, listed.getD x.1 false = true → ρ x.2.1 = x.2.2
 old : ∀ t, (∀ x ∈ V, x.2.1 ≠ t) → ρ t = lk L t
theorem getD_two {listed : Array Bool} {i : Nat} (h : i < listed.size) (a b : Bool) : listed.getD i a = listed.getD i b := by simp [Array.getD, h]
theorem PivI.agree {listed : Array Bool} {ρ : Env} (hI : PivI ops V L listed ρ) (ho : onlyB (V.map fun x => x.2.1) = true) {o : Oper} (hr : ∀ e ∈ o.after, Region.binds .any e = true → listed.getD e.on false = true) {x : Operand} (hx : opndOk V d o x = true) :
  valE ρ x = valE (envOf (V.map (fun y => y.2) ++ L)) x := by
 cases x <;> try rfl
 rename_i t
 show some (ρ t) = some (lk _ t)
 simp only [opndOk, Bool.and_eq_true] at hx
 by_cases hex : ∃ y ∈ V, y.2.1 = t
 ·obtain ⟨y, hy, rfl⟩ := hex
  have := List.all_eq_true.1 hx.2 y hy
  rw [Nat.beq_refl] at this
  rw [Bool.not_true, Bool.false_or] at this
  obtain ⟨e, he, hq⟩ := List.any_eq_true.1 this
  simp only [Bool.and_eq_true] at hq
  have h1 := hr e (Array.mem_toList_iff.1 he) hq.1
  rw [Nat.eq_of_beq_eq_true hq.2] at h1
  rw [hI.has y hy h1, lk_only ho y hy]
 ·have hn : ∀ x ∈ V, x.2.1 ≠ t := fun x hx e => hex ⟨x, hx, e⟩
  rw [hI.old t hn, lk_none hn]
theorem only_at : ∀ {V : List (Nat × Nat × SV)}, onlyB (V.map fun x => x.2.1) = true → ∀ x ∈ V, ∀ y ∈ V, x.2.1 = y.2.1 → x = y
 | [], _, x, hx, _, _ => by cases hx
 | z :: V, h, x, hx, y, hy => by
  intro e
  simp only [List.map_cons, onlyB, Bool.and_eq_true] at h
  have hne : ∀ q ∈ V, z.2.1 ≠ q.2.1 := fun q hq => neB (List.all_eq_true.1 h.1 _ (List.mem_map.2 ⟨q, hq, rfl⟩))
  rcases List.mem_cons.1 hx with hx1 | hx1 <;> rcases List.mem_cons.1 hy with hy1 | hy1
  ·rw [hx1, hy1]
  ·rw [hx1] at e; exact absurd e (hne y hy1)
  ·rw [hy1] at e; exact absurd e.symm (hne x hx1)
  ·exact only_at h.2 x hx1 y hy1 e
theorem PivI.step {listed : Array Bool} {ρ : Env} (hI : PivI ops V L listed ρ) (hk : PivOk ops V W p d) {x : Nat × Nat × SV} (hx : x ∈ V) (hn : listed.getD x.1 true = false) : PivI ops V L (listed.setIfInBounds x.1 true) (putE ρ (some x.2.1) x.2.2) := by
 have hlt : x.1 < listed.size := by
  rcases Nat.lt_or_ge x.1 listed.size with h | h
  ·exact h
  ·simp [Array.getD, Nat.not_lt.2 h] at hn
 refine ⟨by simp [hI.size], fun i hi h => ?_, fun y hy h => ?_, fun t ht => ?_⟩
 ·by_cases e : i = x.1
  ·exact ⟨x, hx, e.symm⟩
  ·rw [getD_set_ne false (Ne.symm e)] at h; exact hI.sub i hi h
 ·simp only [putE, upd]
  split
  ·rename_i e; rw [only_at hk.only y hy x hx e]
  ·rename_i e
   have hne : y.1 ≠ x.1 := fun e1 => by
    obtain ⟨_, _, _, o1, q1, q2, _⟩ := hk.quiet y hy
    obtain ⟨_, _, _, o2, r1, r2, _⟩ := hk.quiet x hx
    rw [e1, r1] at q1; cases q1
    rw [r2] at q2; exact e (Option.some.inj q2).symm
   rw [getD_set_ne false (Ne.symm hne)] at h
   exact hI.has y hy h
 ·simp only [putE, upd]
  rw [if_neg (fun e => ht x hx e.symm)]
  exact hI.old t ht
theorem piv_ready (hk : PivOk ops V W p d) {listed : Array Bool} (hs : listed.size = ops.size) (hp : listed.getD p true = false) : Region.ready .any ops listed ≠ [] := by
 have hex : ∃ i, i < ops.size ∧ listed.getD i true = false := by
  obtain ⟨o, ho, _⟩ := hk.piv
  exact ⟨p, (Array.getElem?_eq_some_iff.1 ho).1, hp⟩
 have key : ∀ n i, i ≤ n → i < ops.size → listed.getD i true = false → ∃ j, j ∈ Region.ready .any ops listed := by
  intro n
  induction n with
  | zero =>
   intro i hi hlt hn
   refine ⟨i, mem_ready.2 ⟨hn, ops[i], Array.getElem?_eq_getElem hlt, fun e he hb => ?_⟩⟩
   have := hk.back i _ (Array.getElem?_eq_getElem hlt) e he hb
   omega
  | succ n ih =>
   intro i hi hlt hn
   by_cases hall : ∀ e ∈ ops[i].after, Region.binds .any e = true → listed.getD e.on false = true
   ·exact ⟨i, mem_ready.2 ⟨hn, ops[i], Array.getElem?_eq_getElem hlt, hall⟩⟩
   ·have ⟨e, he⟩ := Classical.not_forall.1 hall
    have ⟨h1, h2⟩ := Classical.not_imp.1 he
    have ⟨h3, h4⟩ := Classical.not_imp.1 h2
    have hb := hk.back i _ (Array.getElem?_eq_getElem hlt) e h1 h3
    refine ih e.on (by omega) (by omega) ?_
    rw [getD_two (by omega) true false]
    simpa using h4
 obtain ⟨i, h1, h2⟩ := hex
 obtain ⟨j, hj⟩ := key i i (Nat.le_refl _) h1 h2
 intro e; rw [e] at hj; cases hj
theorem quiet_at {H : Heap} (h : quietAt P ops V L H = V.map fun x => some (x.2.2, [])) {x : Nat × Nat × SV} (hx : x ∈ V) {o : Oper} (ho : ops[x.1]? = some o) :
  ∃ rd, opEval P o (envOf (V.map (fun y => y.2) ++ L)) H 0 = some ⟨x.2.2, rd, []⟩ := by
 unfold quietAt at h
 have := List.map_inj_left.1 h x hx
 rw [toL, ho] at this
 simp only at this
 cases he : opEval P o (envOf (V.map (fun y => y.2) ++ L)) H 0 with
 | none => rw [he] at this; cases this
 | some ef =>
  rw [he] at this
  obtain ⟨v, rd, wr⟩ := ef
  have h2 := Option.some.inj this
  simp only [Prod.mk.injEq] at h2
  obtain ⟨rfl, rfl⟩ := h2
  exact ⟨rd, rfl⟩
variable {F : Fr} {Q : Post} {H : Heap}
theorem piv_any (hk : PivOk ops V W p d) (hq : quietAt P ops V L H = V.map fun x => some (x.2.2, [])) (hb : ∀ o ∈ ops.toList, Oper.inB F.n ops o = true) {o0 : Oper} (ho0 : ops[p]? = some o0) {R : Nat → Array Bool → Env → Prop}
  (hR0 : ∀ listed ρ, listed.size = ops.size → listed.getD p true = false → R 0 listed ρ → False)
  (hR : ∀ fuel listed ρ x, x ∈ V → x.1 ∈ Region.ready .any ops listed → PivI ops V L listed ρ → R (fuel + 1) listed ρ → R fuel (listed.setIfInBounds x.1 true) (putE ρ (some x.2.1) x.2.2))
  (hp : ∀ fuel listed ρ a w, p ∈ Region.ready .any ops listed → PivI ops V L listed ρ → St F ρ H a w → R (fuel + 1) listed ρ → o0.wp P a w (wpAny P .any ops Q fuel (listed.setIfInBounds p true)) Q) :
  ∀ (fuel : Nat) (listed : Array Bool) (ρ : Env) (a : Act) (w : World), St F ρ H a w → PivI ops V L listed ρ → listed.getD p true = false → R fuel listed ρ → wpAny P .any ops Q fuel listed a w := by
 intro fuel
 induction fuel with
 | zero => intro listed ρ a w hst hI hn hr; exact (hR0 _ _ hI.size hn hr).elim
 | succ fuel ih =>
  intro listed ρ a w hst hI hn hr
  refine ⟨fun h0 => absurd h0 (piv_ready hk hI.size hn), fun i hi => ?_⟩
  obtain ⟨hi1, o, ho, hall⟩ := mem_ready.1 hi
  have hlt : i < ops.size := (Array.getElem?_eq_some_iff.1 ho).1
  unfold wpOp
  simp only [ho]
  by_cases hip : i = p
  ·subst hip
   rw [ho] at ho0; cases ho0
   obtain ⟨o', q1, q2, q3, q4⟩ := hk.piv
   rw [ho] at q1; cases q1
   rw [if_pos (by unfold Region.wanted; rw [q3])]
   exact .inl (hp fuel listed ρ a w hi hI hst hr)
  ·rcases hk.all i o ho with h | ⟨h1, e, he, hbnd, h2⟩ | ⟨x, hx, rfl⟩
   ·exact absurd h hip
   ·exfalso
    have hl := hall e he hbnd
    rcases h2 with h2 | h2
    ·rw [h2] at hl
     rw [getD_two (by
      rcases Nat.lt_or_ge p listed.size with h | h
      ·exact h
      ·simp [Array.getD, Nat.not_lt.2 h] at hn) true false, hl] at hn
     cases hn
    ·have hlt2 : e.on < ops.size := Nat.lt_trans (hk.back i o ho e he hbnd) hlt
     obtain ⟨y, hy, e2⟩ := hI.sub e.on hlt2 hl
     exact (hk.quiet y hy).2.1 (by rw [e2]; exact h2)
   ·obtain ⟨z1, z2, z3, o', q1, q2, q3, q4, q5, q6⟩ := hk.quiet x hx
    rw [ho] at q1; cases q1
    obtain ⟨rd, hev⟩ := quiet_at hq hx ho
    have hev2 : opEval P o ρ H 0 = some ⟨x.2.2, rd, []⟩ := opEval_local (fun y hy => (hI.agree hk.only hall (q6 y hy)).symm) hev (fun _ _ => rfl)
    rw [if_pos (by unfold Region.wanted; rw [q3])]
    refine .inl ?_
    obtain ⟨hd, K, D, hinv⟩ := hst
    have hbo := hb o (Array.mem_toList_iff.2 (Array.mem_of_getElem? ho))
    rw [opEval_idx q4 0 H.length] at hev2
    refine op_wp hinv hd (Oper.inB_op hbo) (.inl rfl) hev2 fun a' w' hst' => ?_
    rw [q2] at hst'
    refine ih _ _ a' w' hst' (hI.step hk hx hi1) ?_ (hR fuel listed ρ x hx hi hI hr)
    rw [getD_set_ne true (Ne.symm (Ne.symm z1))]
    exact hn
theorem wpAny_piv {o0 : Oper} (ho0 : ops[p]? = some o0) : ∀ (fuel : Nat) (listed : Array Bool) (a : Act) (w : World), listed.getD p true = true → wpAny P .any (pivOps ops p d) Q fuel listed a w → wpAny P .any ops Q fuel listed a w := by
 have hpo : pivOps ops p d = ops.setIfInBounds p (pivOp o0 d) := by unfold pivOps; rw [ho0]
 have hat : ∀ j, (pivOps ops p d)[j]? = if p = j then some (pivOp o0 d) else ops[j]? := fun j => by
  rw [hpo, Array.getElem?_setIfInBounds]
  split
  ·rename_i e
   rw [if_pos (Array.getElem?_eq_some_iff.1 ho0).1]
  ·rfl
 have hdst : ∀ j, ((pivOps ops p d)[j]?).bind Oper.dst = (ops[j]?).bind Oper.dst := fun j => by
  rw [hat]
  split
  ·rename_i e; subst e; rw [ho0]; rfl
  ·rfl
 have hrd : ∀ listed, Region.ready .any (pivOps ops p d) listed = Region.ready .any ops listed := fun listed => by
  unfold Region.ready
  rw [show (pivOps ops p d).size = ops.size by rw [hpo]; simp]
  refine List.filter_congr fun j _ => ?_
  rw [hat]
  split
  ·rename_i e; subst e; rw [ho0]; rfl
  ·rfl
 have hy : ∀ a : Act, yielded (pivOps ops p d) a.tmps = yielded ops a.tmps := fun a => funext fun j => by
  unfold yielded; rw [hdst]
 intro fuel
 induction fuel with
 | zero => intro listed a w hp h; exact ⟨by rw [← hrd]; exact h.1, h.2⟩
 | succ fuel ih =>
  intro listed a w hp h
  refine ⟨fun h0 => h.1 (by rw [hrd]; exact h0), fun i hi => ?_⟩
  have hne : i ≠ p := fun e => by
   have := (mem_ready.1 hi).1
   rw [e, hp] at this; cases this
  have h2 := h.2 i (by rw [hrd]; exact hi)
  have h3 : wpOp P ops Q i (wpAny P .any (pivOps ops p d) Q fuel (listed.setIfInBounds i true)) a w := by
   unfold wpOp at h2 ⊢
   rw [hat, if_neg (Ne.symm hne), hy] at h2
   exact h2
  exact wpOp_mono (fun a' w' hh => ih _ a' w' (by rw [getD_set_ne true hne]; exact hp) hh) h3
theorem inB_piv {o0 : Oper} (ho0 : ops[p]? = some o0) (hd : Nat.blt d F.n = true) (hb : ∀ o ∈ ops.toList, Oper.inB F.n ops o = true) : ∀ o ∈ (pivOps ops p d).toList, Oper.inB F.n (pivOps ops p d) o = true := by
 have hpo : pivOps ops p d = ops.setIfInBounds p (pivOp o0 d) := by unfold pivOps; rw [ho0]
 have hdst : ∀ j, ((pivOps ops p d)[j]?).bind Oper.dst = (ops[j]?).bind Oper.dst := fun j => by
  rw [hpo, Array.getElem?_setIfInBounds]
  split
  ·rename_i e
   rw [if_pos (Array.getElem?_eq_some_iff.1 ho0).1, ← e, ho0]; rfl
  ·rfl
 intro o ho
 obtain ⟨j, hj⟩ := List.getElem?_of_mem ho
 rw [toL, hpo, Array.getElem?_setIfInBounds] at hj
 split at hj
 ·split at hj
  ·cases hj
   have h0 := hb o0 (Array.mem_toList_iff.2 (Array.mem_of_getElem? ho0))
   unfold Oper.inB at h0 ⊢
   simp only [Bool.and_eq_true] at h0 ⊢
   refine ⟨?_, ?_⟩
   ·show Op.inB F.n (.move (.tmp d)) = true
    have : d < F.n := Nat.le_of_ble_eq_true hd
    simp [Op.inB, Op.operands, Operand.inB, this]
   ·have h2 := h0.2
    show (match o0.guard with | none => true | some (j, _) => _) = true
    cases hg : o0.guard with
    | none => rfl
    | some g =>
     rw [hg] at h2
     obtain ⟨j, b⟩ := g
     simp only at h2 ⊢
     rw [hdst]; exact h2
  ·cases hj
 ·have h0 := hb o (Array.mem_toList_iff.2 (Array.mem_of_getElem? hj))
  unfold Oper.inB at h0 ⊢
  simp only [Bool.and_eq_true] at h0 ⊢
  refine ⟨h0.1, ?_⟩
  have h2 := h0.2
  cases hg : o.guard with
  | none => rfl
  | some g =>
   rw [hg] at h2
   obtain ⟨j, b⟩ := g
   simp only at h2 ⊢
   rw [hdst]; exact h2
theorem start_I (n : Nat) (hn : n = ops.size) : PivI ops V L (Array.replicate n false) (envOf L) := by
 subst hn
 refine ⟨by simp, fun i hi h => ?_, fun x hx h => ?_, fun t _ => rfl⟩
 ·simp [Array.getD, hi] at h
 ·exfalso
  rcases Nat.lt_or_ge x.1 ops.size with hh | hh
  ·simp [Array.getD, hh] at h
  ·simp [Array.getD, Nat.not_lt.2 hh] at h
theorem St.drew {ρ : Env} {a : Act} {w : World} (h : St F ρ H a w) : St F ρ H a w.drew := by
 obtain ⟨hd, K, D, hi⟩ := h
 exact ⟨hd, K, D, ⟨hi.slots.mono fun _ _ => World.drew_rep, hi.hinv.drew, hi.grow.trans (Grow.drew _ _ _ _)⟩⟩
theorem St.reserve {ρ : Env} {a : Act} {w : World} (h : St F ρ H a w) (m : Nat) : St F ρ (H ++ List.replicate m .res) a w := by
 obtain ⟨hd, K, D, hi⟩ := h
 exact ⟨hd, K, D, hi.reserve m⟩
end
section
variable {F : Fr} {P : Program} {c : Code} {L : LE} {H : Heap} {Q : Post}
theorem K.pivP (h : isReg true c = true) (hm : P.follows .mixedOrders = true) (V : List (Nat × Nat × SV)) (W : List Nat) (p d : Nat) (hb : pivB (rops c) V W p d = true) (hq : quietAt P (rops c) V L H = V.map fun x => some (x.2.2, []))
  {f : FuncId} {args args0 args' : List SV} {H0 H0' H2 : Heap} (hc : pivCall (rops c) p V L = some (f, args)) (σ : List Nat) (ha : args = SV.rnL (selF σ) args0) (hl : σ.length = H0.length) (hg : σ.map (fun i => H[i]?) = H0.map (fun en => some (Ent.rn (selF σ) en))) (hn : σ.Nodup) (hr0 : H0.all (Ent.refs H0.length) = true)
  (hlive : H0.all live = true) (hr : SV.refsL H0.length args0 = true) (hle : LeL args0 args') (hs : SP P f args' H0 H0') (hle' : Nat.ble H0.length H0'.length = true)
  (hH : frameH (selF σ) H0.length H H0' = H2) (k : PP F Q [] H2) : J F P c L H Q := by
 subst hH
 cases c <;> first | cases h | skip
 rename_i id ops dr
 cases dr with
 | false => cases h
 | true =>
 simp only [rops] at *
 have hk := pivB_ok hb
 obtain ⟨o0, ho0, q2, q3, q4⟩ := hk.piv
 have hfr := SP.frame (SP.weak hs hle) (Sel.of σ hl hg hn hr0) (fun en hm => List.all_eq_true.1 hlive en hm) hr (Nat.le_of_ble_eq_true hle')
 rw [← ha] at hfr
 intro hin a w hst
 simp only [codeIn, List.all_eq_true] at hin
 refine wp_region_any hm ?_
 refine piv_any (H := H) (ρ := envOf L) (R := fun fuel listed ρ => leftP ops listed ≤ fuel) hk hq hin ho0 (fun listed ρ hsz hp h0 => ?_) (fun fuel listed ρ x hx hx2 hI hle => ?_) (fun fuel listed ρ a w hpr hI hst hR => ?_) ops.size _ a _ hst.drew (start_I _ rfl) ?_ ?_
 ·have hlt := (Array.getElem?_eq_some_iff.1 ho0).1
  rw [getD_two (by rw [hsz]; exact hlt) true false] at hp
  have := left_setP hlt hsz hp
  omega
 ·have hlt : x.1 < ops.size := (Array.getElem?_eq_some_iff.1 (mem_ready.1 hx2).2.choose_spec.1).1
  have hp := (mem_ready.1 hx2).1
  rw [getD_two (by rw [hI.size]; exact hlt) true false] at hp
  have := left_setP hlt hI.size hp
  show leftP _ _ ≤ _
  have h9 : leftP ops listed ≤ fuel + 1 := hle
  omega
 ·obtain ⟨hp1, o1, ho1, hall⟩ := mem_ready.1 hpr
  rw [ho0] at ho1; cases ho1
  have hcc : callOf ρ o0 = some (f, args) := by
   rw [callOf_congr (ρ' := envOf (V.map (fun y => y.2) ++ L)) (fun y hy => hI.agree hk.only hall (q4 y hy))]
   unfold pivCall at hc
   rw [toL, ho0] at hc
   exact hc
  have hbo := hin o0 (Array.mem_toList_iff.2 (Array.mem_of_getElem? ho0))
  obtain ⟨hd, K, D, hi⟩ := hst
  obtain ⟨vals, hrun, hvl, hvr⟩ := callOf_facts (P := P) hi.slots (Oper.inB_op hbo) hcc
  unfold Oper.wp
  rw [hrun hfr.1]
  refine (hfr.2 w K D vals hvl hvr hi.hinv hi.slots.glob).mono ?_
  rintro e w' ⟨ch, rfl, hp, K', D', gr, hi', _⟩
  refine k _ _ _ hp ⟨hd, K', D', ⟨⟨hi.slots.size, fun i hi2 => .undef _, (hi.slots.mono fun _ _ => gr.rep).glob⟩, hi', hi.grow.trans gr⟩⟩
 ·have hlt := (Array.getElem?_eq_some_iff.1 ho0).1
  simp [Array.getD, hlt]
 ·show leftP ops _ ≤ ops.size
  unfold leftP
  exact Nat.le_trans (List.length_filter_le _ _) (by simp)
theorem move_eval {o : Oper} {d : Nat} {ρ : Env} {idx : Nat} : opEval P (pivOp o d) ρ H idx = some ⟨ρ d, [], []⟩ := rfl
theorem K.piv (h : isReg true c = true) (hm : P.follows .mixedOrders = true) (V : List (Nat × Nat × SV)) (W : List Nat) (p d : Nat) (hb : pivB (rops c) V W p d = true) (hq : quietAt P (rops c) V L H = V.map fun x => some (x.2.2, []))
  {f : FuncId} {args args0 args' : List SV} {v0 v : SV} {H0 H0' H2 H3 : Heap} {n : Nat} (hc : pivCall (rops c) p V L = some (f, args)) (σ : List Nat) (ha : args = SV.rnL (selF σ) args0) (hl : σ.length = H0.length) (hg : σ.map (fun i => H[i]?) = H0.map (fun en => some (Ent.rn (selF σ) en))) (hn : σ.Nodup) (hr0 : H0.all (Ent.refs H0.length) = true)
  (hlive : H0.all live = true) (hr : SV.refsL H0.length args0 = true) (hle : LeL args0 args') (hs : SC P f args' H0 v0 H0') (hle' : Nat.ble H0.length H0'.length = true)
  (hv : SV.rn (gOf (selF σ) H0.length H.length) v0 = v) (hH : frameH (selF σ) H0.length H H0' = H2) (hnn : H2.length = n) (hH3 : H2 ++ List.replicate (nCreates (pivOps (rops c) p d)) .res = H3) (hq2 : quietAt P (rops c) V L H3 = V.map fun x => some (x.2.2, []))
  (hB : Region.lexB .any (pivOps (rops c) p d) = true) (hd : Nat.blt d F.n = true)
  (k : RJ F P (some n) (pivOps (rops c) p d) 0 [] (putL L (some d) v) H3 Q) : J F P c L H Q := by
 subst hH; subst hv; subst hnn; subst hH3
 cases c <;> first | cases h | skip
 rename_i id ops dr
 cases dr with
 | false => cases h
 | true =>
 simp only [rops] at *
 have hk := pivB_ok hb
 obtain ⟨o0, ho0, q2, q3, q4⟩ := hk.piv
 have hlt0 := (Array.getElem?_eq_some_iff.1 ho0).1
 have hfr := SC.frame (SC.weak hs hle) (Sel.of σ hl hg hn hr0) (fun en hm => List.all_eq_true.1 hlive en hm) hr (Nat.le_of_ble_eq_true hle')
 rw [← ha] at hfr
 generalize frameH (selF σ) H0.length H H0' = H2 at *
 generalize SV.rn (gOf (selF σ) H0.length H.length) v0 = v at *
 generalize hH3 : H2 ++ List.replicate (nCreates (pivOps ops p d)) .res = H3 at *
 have hpo : pivOps ops p d = ops.setIfInBounds p (pivOp o0 d) := by unfold pivOps; rw [ho0]
 have hat : ∀ j, (pivOps ops p d)[j]? = if p = j then some (pivOp o0 d) else ops[j]? := fun j => by
  rw [hpo, Array.getElem?_setIfInBounds]
  split
  ·first | rfl | (rw [if_pos hlt0])
  ·rfl
 have hsz : (pivOps ops p d).size = ops.size := by rw [hpo]; simp
 have hrd : ∀ listed, Region.ready .any (pivOps ops p d) listed = Region.ready .any ops listed := fun listed => by
  unfold Region.ready
  rw [hsz]
  refine List.filter_congr fun j _ => ?_
  rw [hat]
  split
  ·rename_i e; subst e; rw [ho0]; rfl
  ·rfl
 intro hin a w hst
 simp only [codeIn, List.all_eq_true] at hin
 refine wp_region_any hm ?_
 -- what is known of the rest
 have hB' := hB
 simp only [Region.lexB, Bool.and_eq_true] at hB'
 obtain ⟨es, _, hany, _⟩ := textD_any (P := P) (base := H2.length) (ops := pivOps ops p d) (K := fun ρ H => ∀ a w, St F ρ H a w → Q .normal a w) (pivOps ops p d).toList [] (Array.replicate (pivOps ops p d).size false) (envOf (putL L (some d) v)) H3 (by simp) (fun j o e hj => by simp at hj) (fun k hk => absurd hk (Nat.not_lt_zero _)) (by simpa using hB'.2) (k rfl)
 refine piv_any (H := H) (ρ := envOf L) (R := fun fuel listed ρ => anyS P .any (pivOps ops p d) H2.length es (fun ρ H => ∀ a w, St F ρ H a w → Q .normal a w) fuel listed (putE ρ (some d) v) H3) hk hq hin ho0 (fun listed ρ hsz hp h0 => ?_) (fun fuel listed ρ x hx hx2 hI hR => ?_) (fun fuel listed ρ a w hpr hI hst hR => ?_) ops.size _ a _ hst.drew (start_I _ rfl) ?_ ?_
 ·have := h0.1
  rw [hrd] at this
  exact piv_ready hk hsz hp this
 ·obtain ⟨z1, z2, z3, o', r1, r2, r3, r4, r5, r6⟩ := hk.quiet x hx
  obtain ⟨hi1, o1, ho1, hall⟩ := mem_ready.1 hx2
  rw [r1] at ho1; cases ho1
  obtain ⟨o2, ef, g1, g2, g3, g4⟩ := hR.2 x.1 (by rw [hrd]; exact hx2)
  rw [hat, if_neg (Ne.symm z1), r1] at g1
  cases g1
  obtain ⟨rd, hev⟩ := quiet_at hq2 hx r1
  have hev2 : opEval P o' (putE ρ (some d) v) H3 0 = some ⟨x.2.2, rd, []⟩ := opEval_local (fun y hy => by
   have hy2 := r6 y hy
   rw [valE_put (fun t ht e => by
    cases ht; subst e
    simp only [opndOk, Bool.and_eq_true] at hy2
    exact neB hy2.1 rfl)]
   exact (hI.agree hk.only hall hy2).symm) hev (fun _ _ => rfl)
  unfold opD at g3
  have hgs : guardS (pivOps ops p d) (putE ρ (some d) v) o' = some true := by unfold guardS; rw [r3]
  rw [hgs] at g3
  simp only [r5, Bool.false_eq_true, if_false] at g3
  rcases g3.1 with g5 | g5
  ·rw [opEval_idx r4 _ 0, hev2] at g5
   cases g5
   simp only [applyS, r2] at g4
   rw [put_comm (fun t ht e => by cases ht; exact z3 (Option.some.inj e))] at g4
   exact g4
  ·rw [r4] at g5; cases g5.2
 ·obtain ⟨hp1, o1, ho1, hall⟩ := mem_ready.1 hpr
  rw [ho0] at ho1; cases ho1
  have hcc : callOf ρ o0 = some (f, args) := by
   rw [callOf_congr (ρ' := envOf (V.map (fun y => y.2) ++ L)) (fun y hy => hI.agree hk.only hall (q4 y hy))]
   unfold pivCall at hc
   rw [toL, ho0] at hc
   exact hc
  have hbo := hin o0 (Array.mem_toList_iff.2 (Array.mem_of_getElem? ho0))
  obtain ⟨hdf, K, D, hi⟩ := hst
  refine call_wp hi hdf (Oper.inB_op hbo) hcc hfr fun a' w' hst' => ?_
  rw [q2] at hst'
  obtain ⟨o2, ef, g1, g2, g3, g4⟩ := hR.2 p (by rw [hrd]; exact hpr)
  rw [hat, if_pos rfl] at g1
  cases g1
  unfold opD at g3
  have hgs : guardS (pivOps ops p d) (putE ρ (some d) v) (pivOp o0 d) = some true := by
   show (match o0.guard with | none => some true | some (j, want) => _) = some true
   rw [q3]
  rw [hgs] at g3
  have hci : isCall (pivOp o0 d) = false := rfl
  simp only [hci, Bool.false_eq_true, if_false] at g3
  have hself : putE (putE ρ (some d) v) (some d) v = putE ρ (some d) v := by
   funext t; simp only [putE, upd]; split <;> rfl
  have hval : (putE ρ (some d) v) d = v := by simp [putE, upd]
  rcases g3.1 with g5 | g5
  ·rw [move_eval, hval] at g5
   cases g5
   simp only [applyS] at g4
   have hds : (pivOp o0 d).dst = some d := q2
   rw [hds, hself] at g4
   refine wpAny_piv ho0 fuel _ a' w' ?_ (any_sound (KS := fun ρ H => ∀ a w, St F ρ H a w → Q .normal a w) (fun ρ H a w hst hq => hq a w hst) (inB_piv ho0 hd hin) fuel _ _ _ a' w' (by rw [← hH3]; exact hst'.reserve _) g4)
   have : p < listed.size := by rw [hI.size]; exact hlt0
   simp [Array.getD, this]
  ·have : creates (pivOp o0 d) = false := rfl
   rw [this] at g5; cases g5.2
 ·simp [Array.getD, hlt0]
 ·show anyS _ _ _ _ _ _ _ _ _ _
  rw [putL_env]
  have : (pivOps ops p d).toList.length = ops.size := by simp [hsz]
  rw [this] at hany
  rw [hsz] at hany
  simpa using hany
end
def wayQ {A B : Type} (P : Program) (fn : Func) (F : Fr) (hv : A → SV) (hH : A → Heap) (hP : B → Heap) (r : A ⊕ B) : Post := match r with
 | .inl a => retQ P fn F (hv a) (hH a)
 | .inr b => panQ F (hP b)
theorem kFnW {P : Program} {f : FuncId} {fn : Func} {args : List SV} {H : Heap} {A B : Type} {r : A ⊕ B} (hv : A → SV) (hH : A → Heap) (hP : B → Heap)
  (h : ∀ F : Fr, F.n = fn.ntmps → F.H0 = H → (∀ i, F.H0.length ≤ i → F.D0 i = none) → J F P (bodyC fn) (initL 0 args) H (wayQ P fn F hv hH hP r))
  (hf : P.funcs[f]? = some fn := by kernel_rfl) (hb : fn.body.isSome = true := by kernel_rfl) (hcal : callable P f = true := by kernel_rfl) (hin : codeIn fn.ntmps (bodyC fn) = true := by kernel_rfl) (hn : Nat.ble args.length fn.ntmps = true := by kernel_rfl) :
  (∀ a, r = .inl a → SC P f args H (hv a) (hH a)) ∧ (∀ b, r = .inr b → SP P f args H (hP b)) := by
 refine ⟨fun a e => ?_, fun b e => ?_⟩
 ·subst e; exact K.fn hf hb hcal hin hn h
 ·subst e; exact K.fnP hf hb hcal hin hn h
end Go.Sy
