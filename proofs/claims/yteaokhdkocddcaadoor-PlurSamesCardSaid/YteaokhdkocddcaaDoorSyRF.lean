/-
 A range over a function: regions within a fence that asks nothing; a call of yield; a function that ranges.
-/
import Derived.Test.YteaokhdkocddcaaDoorSySC
import Derived.Test.YteaokhdkocddcaaDoorSyV
import Derived.RangeFuncLeaves
import Derived.RangeFuncCalls
namespace Go.Sy
open Go Go.RowKit
set_option linter.unusedVariables false
set_option linter.unusedSimpArgs false
set_option linter.unusedSectionVars false
variable [Inhabited GT]
structure Wd (Fc : Fence) : Prop where
 fn : ∀ f, Fc.fn f
 depth : Fc.depth = none
 calls : ∀ {n : Nat} {P : Program} {f : FuncId} {args : Array Value} {w : World} {R : Ending → World → Prop}, Calls P f args w R → CallsIn Fc n P f args w R
 rows : ∀ {n : Nat} {P : Program} {row : String} {args : Array Value} {w : World} {R : Value → World → Prop}, Rows P row args w R → RowsIn Fc n P row args w R
theorem rows_wide {n : Nat} {P : Program} {row : String} {args : Array Value} {w : World} {R : Value → World → Prop} (h : Rows P row args w R) : RowsIn Fence.wide n P row args w R :=
 fun c cs _ => let ⟨v, w', r, s⟩ := h c cs; ⟨v, w', r, stepsIn_wide.2 s⟩
theorem wd_wide : Wd Fence.wide := ⟨fun _ => trivial, rfl, fun h => callsIn_wide.2 h, rows_wide⟩
theorem wd_round (l : Nat) : Wd (Fence.wide.inRound l) := ⟨fun _ => trivial, rfl, fun h => CallsIn.inRound l (callsIn_wide.2 h), fun h => rows_wide h⟩
section
variable {Fc : Fence} {n : Nat} {P : Program} {ops ops' : Array Oper} {a : Act} {w : World} {Q : Post} {o : Oper}
def onlyN (R : Act → World → Prop) : Post := fun e a w => match e with
 | .normal => R a w
 | _ => False
theorem upon_in (hW : Wd Fc) (hnd : ∀ c, o.op ≠ .defer c) {next next' R : Act → World → Prop} (hn : ∀ a w, next a w → next' a w) (h : o.wp P a w next (onlyN R)) : o.wpIn Fc n P a w next' Q := by
 refine ⟨fun f _ => hW.fn f, ?_⟩
 rw [Oper.semAt_eq _ _ _ hnd]
 unfold Oper.wp at h
 have hdep : Fc.depth.isSome = true → 1 ≤ n := fun hd => by rw [hW.depth] at hd; cases hd
 generalize (execOp a.eval o).run P w = r at h ⊢
 cases r with
 | ok x w' =>
  cases x with
  | value v => exact hn _ _ h
  | skip => exact hn _ _ h
  | defer d => exact hn _ _ h
  | enter f args =>
   refine ⟨hdep, (hW.calls (Calls.mono h ?_))⟩
   rintro e w'' he
   cases e with
   | returned v => exact hn _ _ he
   | panicked c => exact he.elim
   | outgrown => obtain ⟨a, w, he⟩ := he; exact he.elim
  | row row args => exact ⟨hdep, hW.rows (Rows.mono h fun v w'' hv => hn _ _ hv)⟩
  | _ => exact h.elim
 | halt c w' =>
  cases c with
  | panic v => exact h.elim
  | _ => exact h.elim
theorem wanted_pre {q : Nat} (hq : ∀ j, j < q → ops'[j]? = ops[j]?) (hg : ∀ j b, o.guard = some (j, b) → j < q) (tm : Array Value) : Region.wanted o (yielded ops tm) = Region.wanted o (yielded ops' tm) := by
 unfold Region.wanted
 cases ho : o.guard with
 | none => rfl
 | some p =>
  obtain ⟨j, b⟩ := p
  simp only [yielded, hq j (hg j b ho)]
theorem pre_list (hW : Wd Fc) {q : Nat} (hq : ∀ j, j < q → ops'[j]? = ops[j]?) {R : Act → World → Prop} {rest : List Oper} (hR : ∀ a w, R a w → wpListIn Fc n P ops Q rest a w) :
  ∀ (l : List Oper), (∀ o ∈ l, (∀ c, o.op ≠ .defer c) ∧ ∀ j b, o.guard = some (j, b) → j < q) → ∀ a w, wpList P ops' (onlyN R) l a w → wpListIn Fc n P ops Q (l ++ rest) a w := by
 intro l
 induction l with
 | nil => intro _ a w h; exact hR a w h
 | cons o l ih =>
  intro hl a w h
  have ho := hl o (List.mem_cons_self ..)
  have ih' := ih (fun x hx => hl x (List.mem_cons_of_mem _ hx))
  rw [List.cons_append]
  refine wpListIn_step fun KK hKK => ?_
  rw [wanted_pre hq ho.2]
  unfold wpList at h
  split
  ·rename_i hw
   rw [if_pos hw] at h
   rcases h with h | ⟨_, a1, w1, h⟩
   ·exact upon_in hW ho.1 (fun a w hx => hKK _ _ (ih' a w hx)) h
   ·exact h.elim
  ·rename_i hw
   rw [if_neg hw] at h
   exact ⟨fun f _ => hW.fn f, hKK _ _ (ih' _ _ h)⟩
def noDef (q : Nat) (o : Oper) : Bool := (match o.op with | .defer _ => false | _ => true) && (match o.guard with | some (j, _) => Nat.blt j q | none => true)
theorem noDef_of {q : Nat} (h : noDef q o = true) : (∀ c, o.op ≠ .defer c) ∧ ∀ j b, o.guard = some (j, b) → j < q := by
 unfold noDef at h
 simp only [Bool.and_eq_true] at h
 refine ⟨fun c hc => ?_, fun j b hg => ?_⟩
 ·rw [hc] at h; exact absurd h.1 (by simp)
 ·rw [hg] at h; exact Nat.lt_of_succ_le (Nat.le_of_ble_eq_true (by simpa [Nat.blt] using h.2))
def RJi (Fc : Fence) (n : Nat) (F : Fr) (P : Program) (ops : Array Oper) (p : Nat) (L : LE) (H : Heap) (Q : Post) : Prop := ∀ a w, Sees F L H a w → wpListIn Fc n P ops Q (ops.toList.drop p) a w
variable {F : Fr} {p : Nat} {L : LE} {H : Heap}
theorem RJi.pre {N : Nat} (hW : Wd Fc) (q : Nat) (hN : F.n = N) (h : RJ F P none (ops.extract 0 q) p [] L H (onlyN fun a w => wpListIn Fc n P ops Q (ops.toList.drop q) a w)) (hp : Nat.ble p q = true := by kernel_rfl)
  (hin : (ops.extract 0 q).toList.all (Oper.inB N (ops.extract 0 q)) = true := by kernel_rfl) (hd : (ops.extract 0 q).toList.all (noDef q) = true := by kernel_rfl) : RJi Fc n F P ops p L H Q := by
 intro a w hs
 have hp := Nat.le_of_ble_eq_true hp
 have h1 := h (by rw [hN]; exact hin) a w hs
 have e : ops.toList.drop p = (ops.extract 0 q).toList.drop p ++ ops.toList.drop q := by
  rw [Array.toList_extract]
  simp only [List.extract_eq_take_drop, List.drop_zero, Nat.sub_zero]
  conv => lhs; rw [← List.take_append_drop q ops.toList]
  rw [List.drop_append]
  congr 1
  by_cases hq : q ≤ ops.toList.length
  ·rw [List.length_take, Nat.min_eq_left hq, Nat.sub_eq_zero_of_le hp, List.drop_zero]
  ·have e0 : List.drop q ops.toList = [] := List.drop_eq_nil_of_le (by omega)
   rw [e0, List.drop_nil]
 rw [e]
 refine pre_list (ops' := ops.extract 0 q) hW (q := q) (fun j hj => ?_) (fun a w hr => hr) _ (fun o ho => noDef_of (List.all_eq_true.1 hd o (List.mem_of_mem_drop ho))) a w h1
 rw [Array.getElem?_extract]
 simp [hj]
 intro h; omega
theorem RJi.nx {q : Nat} (h : RJi Fc n F P ops q L H Q) : PJ F (onlyN fun a w => wpListIn Fc n P ops Q (ops.toList.drop q) a w) .normal L H := fun a w hs => h a w hs
theorem RJi.done (h : PJ F Q .normal L H) (hp : Nat.ble ops.size p = true := by kernel_rfl) : RJi Fc n F P ops p L H Q := by
 intro a w hs
 rw [List.drop_eq_nil_of_le (by have := Nat.le_of_ble_eq_true hp; simpa using this)]
 exact wpListIn_nil (h a w hs)
theorem J.regI {c : Code} (m : Nat) (k : RJi Fence.wide m F P (rops c) 0 L H Q) (h : isReg false c = true := by kernel_rfl) : J F P c L H Q := by
 cases c with
 | region id ops b =>
  cases b with
  | false => exact fun hin a w hs => wpIn_wide.1 (wpIn_region_list (n := m) (k a w hs))
  | true => cases h
 | _ => cases h
def yieldOf (ρ : Env) (o : Oper) : Option (Nat × SV) := match o.op with
 | .call c => match c.callee with
  | .value f => match valE ρ f with
   | some (.fn (.yield l) [] []) => match c.args.toList with
    | [x] => (valE ρ x).map fun s => (l, s)
    | _ => none
   | _ => none
  | _ => none
 | _ => none
theorem yieldOf_facts {m : Nat} {K : Nat → Nat} {D : DM} {ρ : Env} (h : Slots m w K D ρ a.tmps) (hb : Op.inB m o.op = true) {l : Nat} {s : SV} (hc : yieldOf ρ o = some (l, s)) :
  ∃ v : Value, (∀ c, o.op ≠ .defer c) ∧ (execOp a.eval o).run P w = (Instr.yield l #[v]).run P w ∧ Rep w K D v s := by
 unfold yieldOf at hc
 split at hc
 ·rename_i c ho
  split at hc
  ·rename_i fo hcal
   split at hc
   ·rename_i l' hfe
    split at hc
    ·rename_i x hargs
     cases hx : valE ρ x with
     | none => rw [hx] at hc; cases hc
     | some s' =>
      rw [hx] at hc; cases hc
      unfold Op.inB at hb
      rw [Array.all_eq_true_iff_forall_mem] at hb
      have hfr := valE_rep h (hb fo (by simp [ho, Op.operands, Call.operands, hcal])) hfe
      have hxr := valE_rep h (hb x (by simp only [ho, Op.operands, Call.operands]; exact Array.mem_append.2 (.inr (Array.mem_toList_iff.1 (by rw [hargs]; simp))))) hx
      generalize hfv : a.eval fo = fv at hfr
      refine ⟨a.eval x, (by intro c' h'; rw [ho] at h'; cases h'), ?_, hxr⟩
      have hargs' : c.args = #[x] := by rw [← hargs]
      cases hfr with
      | fn _ fs caps _ _ hc1 hc2 hr1 hr2 =>
       have hfs : fs = [] := List.eq_nil_of_length_eq_zero hc1.symm
       have hcs : caps = [] := List.eq_nil_of_length_eq_zero hc2.symm
       subst hfs; subst hcs
       unfold execOp
       simp only [ho, resolve, hcal, hfv, Deferred.ofValue, invoke, Sem.run_bind, Sem.run_pure, Result.andThen_ok, hargs']
       simp
    ·cases hc
   ·cases hc
  ·cases hc
 ·cases hc
theorem sees_fresh {N : Nat} {w' : World} {K : Nat → Nat} {D : DM} {ρ : Env} {ds : List Deferred} (hd : a.defers = ds) (h : Slots N w K D ρ a.tmps) {L2 : LE} (hL : ∀ t, (lk L2 t = ρ t ∧ (lk L2 t).plain = true) ∨ lk L2 t = .undef)
  (hc : ∀ b j, j < K b → w'.cell? ⟨b, j, none⟩ = w.cell? ⟨b, j, none⟩) (hkw : ∀ b, K b ≠ 0 → b < w'.heap.size) : Sees ⟨N, w', K, fun _ => none, [], ds⟩ L2 [] a w' := by
 refine ⟨hd, K, fun _ => none, ⟨⟨h.size, fun i hi => ?_, fun g cs hg => ?_⟩, ⟨fun _ _ => rfl, fun i en hi => by simp at hi, fun i j en en' b c n c' n' hi => by simp at hi, hkw⟩, Grow.refl _ _ _ _⟩⟩
 ·show Rep w' K _ _ (lk L2 i)
  rcases hL i with ⟨e, hp⟩ | e
  ·have hr : Rep w K D (a.tmps.getD i undef) (lk L2 i) := by rw [e]; exact h.rep i hi
   exact (Rep.mono (w := w) (w' := w') hc (fun _ => Nat.le_refl _) (fun _ _ e => e) hr).plain hp
  ·rw [e]; exact .undef _
 ·exact (glob_any (D := D) (fun g cs hg => Rep.mono (w := w) (w' := w') hc (fun _ => Nat.le_refl _) (fun _ _ e => e) (h.glob g cs hg))) g cs hg
theorem RJi.yield {N l d d1 : Nat} {sv : SV} {b1 : Bool} {Fin : World → Prop} {o : Oper} (hN : F.n = N) (ho : ops.toList[p]? = some o) (hg : guardS ops (envOf L) o = some true) (hc : yieldOf (envOf L) o = some (l, sv)) (hb : Oper.inB N ops o = true)
  (hdst : o.dst = some d) (h1 : lk L d1 = .bool b1) (hne : Nat.beq d1 d = false)
  (hY : ∀ w K D v, GlobOk w K D → HInv w K D H → Grow F.w0 F.K0 F.D0 F.H0 w K D H → Rep w K D v sv →
   YieldAt Fence.wide (n - 1) P l #[v] w fun e w' => e = .returned (.bool false) ∧ (∀ b j, j < K b → w'.cell? ⟨b, j, none⟩ = w.cell? ⟨b, j, none⟩) ∧ w.heap.size ≤ w'.heap.size ∧ Fin w')
  (h : ∀ w' K', Fin w' → RJi Fence.wide n ⟨N, w', K', fun _ => none, [], F.ds⟩ P ops (p + 1) [(d1, .bool b1), (d, .bool false)] [] Q) : RJi Fence.wide n F P ops p L H Q := by
 subst hN
 intro a w hs
 obtain ⟨hd, K, D, hi⟩ := hs
 rw [drop_at ho]
 refine wpListIn_step fun KK hKK => ?_
 rw [guard_sound hi.slots (Oper.inB_guard hb) hg, if_pos rfl]
 obtain ⟨v, hnd, hrun, hr⟩ := yieldOf_facts (P := P) (w := w) hi.slots (Oper.inB_op hb) hc
 obtain ⟨fn, tmps, assign, body, hy, hR⟩ := hY w K D v hi.slots.glob hi.hinv hi.grow hr
 refine ⟨fun _ _ => trivial, ?_⟩
 rw [Oper.semAt_eq _ _ _ hnd, hrun, hy, Oper.uponIn_round]
 refine ⟨fun hx => (by cases hx), hR.mono ?_⟩
 rintro e w' ⟨rfl, hcl, hsz, hf⟩
 have hsl := hi.slots.put o.dst (.bool (w := w) (K := K) (D := D) false)
 refine hKK _ _ (h w' K hf _ _ (sees_fresh (w := w) (D := D) (by rw [put_defers]; exact hd) hsl (fun t => ?_) hcl (fun b hb => Nat.lt_of_lt_of_le (hi.hinv.kw b hb) hsz)))
 simp only [hdst, putE, upd, lk]
 cases e1 : Nat.beq t d1 with
 | true =>
  have := Nat.eq_of_beq_eq_true e1
  subst this
  left
  refine ⟨?_, rfl⟩
  rw [if_neg (fun e => by subst e; simp at hne)]
  exact h1.symm
 | false =>
  cases e2 : Nat.beq t d with
  | true =>
   have := Nat.eq_of_beq_eq_true e2
   subst this
   left
   exact ⟨by simp, rfl⟩
  | false => exact .inr rfl
/-! Code within a fence. -/
def Ji (Fc : Fence) (n : Nat) (F : Fr) (P : Program) (c : Code) (L : LE) (H : Heap) (Q : Post) : Prop := ∀ a w, Sees F L H a w → c.wpIn Fc n P Q a w
theorem Ji.region {c : Code} (k : RJi Fc n F P (rops c) 0 L H Q) (h : isReg false c = true := by kernel_rfl) : Ji Fc n F P c L H Q := by
 cases c with
 | region id ops b =>
  cases b with
  | false => exact fun a w hs => wpIn_region_list (k a w hs)
  | true => cases h
 | _ => cases h
theorem Ji.block {c : Code} (i : Nat) (k : Ji Fc n F P (cb c) L H (Exit.inBlock i Q)) (h : isBlock i c = true := by kernel_rfl) : Ji Fc n F P c L H Q := by
 cases c with
 | block j c =>
  have := Nat.eq_of_beq_eq_true h
  subst this
  exact fun a w hs => wpIn_block (k a w hs)
 | _ => cases h
theorem Ji.seq {c : Code} (k : Ji Fc n F P (cl c) L H (Exit.then ((cr c).wpIn Fc n P Q) Q)) (h : isSeq c = true := by kernel_rfl) : Ji Fc n F P c L H Q := by
 cases c with
 | seq x y => exact fun a w hs => wpIn_seq (k a w hs)
 | _ => cases h
theorem Ji.ret {c : Code} (k : PJ F Q .ret L H) (h : isRet c = true := by kernel_rfl) : Ji Fc n F P c L H Q := by
 cases c with
 | ret => exact fun a w hs => wpIn_ret (k a w hs)
 | _ => cases h
/-! Worlds. -/
structure Low (N : Nat) (w w' : World) : Prop where
 os : w'.os = w.os
 tape : w'.tape = w.tape
 output : w'.output = w.output
 size : w.heap.size ≤ w'.heap.size
 low : ∀ b, b < N → w'.heap[b]? = w.heap[b]?
theorem Low.refl (N : Nat) (w : World) : Low N w w := ⟨rfl, rfl, rfl, Nat.le_refl _, fun _ _ => rfl⟩
theorem Low.trans {N : Nat} {w1 w2 w3 : World} (h : Low N w1 w2) (h' : Low N w2 w3) : Low N w1 w3 := ⟨h'.os.trans h.os, h'.tape.trans h.tape, h'.output.trans h.output, Nat.le_trans h.size h'.size, fun b hb => (h'.low b hb).trans (h.low b hb)⟩
theorem Low.put {N r : Nat} (w : World) (o : Obj) (h : N ≤ r) : Low N w (w.putObj r o) := ⟨rfl, rfl, rfl, by simp, fun b hb => World.putObj_heap_other (by omega)⟩
theorem Low.alloc {N : Nat} (w : World) (o : Obj) (h : N ≤ w.heap.size) : Low N w (w.alloc o) := ⟨rfl, rfl, rfl, by simp, fun b hb => Below.heap_alloc w o b (by omega)⟩
theorem Low.grow {N : Nat} {w w' : World} {K K' : Nat → Nat} {D D' : DM} {H H' : Heap} (g : Grow w K D H w' K' D' H') (hN : N ≤ w.heap.size) (hm : ∀ b, b < N → ¬ Mem D H b) : Low N w w' :=
 ⟨g.os, g.tape, g.output, g.size, fun b hb => g.block b (by omega) (hm b hb)⟩
theorem cell_same {w w' : World} {b j : Nat} (h : w'.heap[b]? = w.heap[b]?) : w'.cell? ⟨b, j, none⟩ = w.cell? ⟨b, j, none⟩ := by unfold World.cell?; simp only [h]
structure RdEnd (l bx : Nat) (r : Loop) (w : World) (x : Int) (w' : World) : Prop where
 os : w'.os = w.os
 tape : w'.tape = w.tape
 output : w'.output = w.output
 size : w.heap.size ≤ w'.heap.size
 loop : w'.heap[l]? = some (.loop { r with state := .done, pending := some .ret })
 box : ∃ e, w'.heap[bx]? = some (.cells #[.int .i64 x] e (0, 0))
 same : ∀ b, b < w.heap.size → b ≠ l → b ≠ bx → w'.heap[b]? = w.heap[b]?
def D1 (bx : Nat) : DM := fun i => if i = 0 then some (.at bx 0 0) else none
theorem mem_D1 {bx b : Nat} {cs : List SV} (h : Mem (D1 bx) [.box cs] b) : b = bx := by
 obtain ⟨i, en, c, n, hi, hl, hd⟩ := h
 cases i with
 | zero => simp [D1] at hd; exact hd.1.symm
 | succ i => simp at hi
theorem hinv_box {w : World} {K : Nat → Nat} {bx : Nat} {y : Int} {e : TypeId} (hb : w.heap[bx]? = some (.cells #[.int .i64 y] e (0, 0))) (hK : K bx = 0) (hkw : ∀ b, K b ≠ 0 → b < w.heap.size) : HInv w K (D1 bx) [.box [.int .i64 y]] := by
 refine ⟨fun i hi => ?_, fun i en hi => ?_, fun i j en en' b c n c' n' hi hj _ _ _ _ => ?_, hkw⟩
 ·have : ¬ i = 0 := by simp at hi; omega
  simp [D1, this]
 ·cases i with
  | zero =>
   simp at hi; subst hi
   refine ⟨bx, [.int .i64 y], e, rfl, hK, hb, ⟨rfl, fun v hv => by simp at hv; subst hv; rfl, fun j v c hv hc => ?_⟩⟩
   cases j with
   | zero => simp at hv hc; subst hv; subst hc; exact .int _ _
   | succ j => simp at hv
  | succ i => simp at hi
 ·have h1 := (List.getElem?_eq_some_iff.1 hi).1
  have h2 := (List.getElem?_eq_some_iff.1 hj).1
  simp at h1 h2
  omega
theorem box_of {w : World} {K : Nat → Nat} {D : DM} {H : Heap} {i bx : Nat} {x : Int} (h : HInv w K D H) (hi : H[i]? = some (.box [.int .i64 x])) (hD : D i = some (.at bx 0 0)) : ∃ e, w.heap[bx]? = some (.cells #[.int .i64 x] e (0, 0)) := by
 obtain ⟨b, vs, e, h1, h2, h3, h4⟩ := h.ent _ _ hi
 rw [hD] at h1; cases h1
 have hl := h4.len
 match vs, hl with
 | [v], _ =>
  have := h4.rep 0 v _ rfl rfl
  cases this
  exact ⟨e, h3⟩
theorem sees_put {N l : Nat} {w0 w : World} {K0 K : Nat → Nat} {D0 D : DM} {H0 H : Heap} {L : LE} {a : Act} (o : Obj) (hd : a.defers = []) (h : Inv ⟨N, w0, K0, D0, H0, []⟩ w K D H (envOf L) a.tmps) (hl : l < w0.heap.size) (hKl : K0 l = 0) (hm : ¬ Mem D0 H0 l) :
  Sees ⟨N, w.putObj l o, K, D, H, []⟩ L H a (w.putObj l o) := by
 have hKl' : K l = 0 := by rw [h.grow.kk l hl hm]; exact hKl
 have hcl : ∀ b j, j < K b → (w.putObj l o).cell? ⟨b, j, none⟩ = w.cell? ⟨b, j, none⟩ := fun b j hj => cell_same (World.putObj_heap_other (fun e => by subst e; omega))
 have hrep : ∀ v s, Rep w K D v s → Rep (w.putObj l o) K D v s := fun v s hr => Rep.mono hcl (fun _ => Nat.le_refl _) (fun _ _ e => e) hr
 refine ⟨hd, K, D, ⟨h.slots.mono hrep, ⟨h.hinv.dom, fun i en hi => ?_, h.hinv.inj, fun b hb => by rw [World.putObj_size]; exact h.hinv.kw b hb⟩, Grow.refl _ _ _ _⟩⟩
 refine (h.hinv.ent i en hi).keep hrep rfl (fun b c n hlv hD => ⟨World.putObj_heap_other (fun e => ?_), rfl⟩)
 subst e
 rcases h.grow.new b ⟨i, en, c, n, hi, hlv, hD⟩ with h1 | h1
 ·exact hm h1
 ·exact absurd h1 (by have := hl; show ¬ w0.heap.size ≤ b; omega)
theorem yield_round {l bx N t4 t9 : Nat} {r : Loop} {W : World} {K : Nat → Nat} {D : DM} {v : Value} {sv : SV} {x y : Int} {e0 : TypeId} {L1 L2 : LE} {H1 H2 : Heap}
  (hl : W.heap[l]? = some (.loop r)) (hst : r.state = .ready) (hps : r.params = #[t9]) (hsz : r.tmps.size = N) (ht4 : r.tmps.getD t4 undef = .pointer (some ⟨bx, 0, none⟩)) (h49 : Nat.beq t4 t9 = false) (h9 : t9 < N)
  (hbx : W.heap[bx]? = some (.cells #[.int .i64 y] e0 (0, 0))) (hK : K bx = 0) (hKl : K l = 0) (hkw : ∀ b, K b ≠ 0 → b < W.heap.size) (hG : GlobOk W K D) (hv : ∀ D', Rep W K D' v sv)
  (hassign : ∀ F : Fr, F.n = N → Ji (Fence.wide.inRound l) n F P r.assign [(t9, sv), (t4, .ptr 0 0)] [.box [.int .i64 y]] (fun e a w => e = .normal ∧ Sees F L1 H1 a w))
  (hbody : ∀ F : Fr, F.n = N → Ji (Fence.wide.inRound l) n F P r.body L1 H1 (fun e a w => e = .ret ∧ Sees F L2 H2 a w)) (hH2 : H2[0]? = some (.box [.int .i64 x])) :
  YieldAt Fence.wide n P l #[v] W fun e w' => e = .returned (.bool false) ∧ (∀ b j, j < K b → w'.cell? ⟨b, j, none⟩ = W.cell? ⟨b, j, none⟩) ∧ W.heap.size ≤ w'.heap.size ∧ RdEnd l bx r W x w' := by
 have hlt : l < W.heap.size := (Array.getElem?_eq_some_iff.1 hl).1
 have hbl : bx < W.heap.size := (Array.getElem?_eq_some_iff.1 hbx).1
 have hne : l ≠ bx := fun e => by subst e; rw [hl] at hbx; cases hbx
 have hml : ¬ Mem (D1 bx) [.box [.int .i64 y]] l := fun h => hne (mem_D1 h)
 refine ⟨r.fn, (r.params.zip #[v]).foldl (fun tmps (t, a) => tmps.setIfInBounds t a) r.tmps, r.assign, r.body, run_yield hl (by rw [hps]; rfl), ?_⟩
 have htm : (r.params.zip #[v]).foldl (fun tmps (t, a) => tmps.setIfInBounds t a) r.tmps = r.tmps.setIfInBounds t9 v := by rw [hps]; simp
 rw [htm]
 refine roundIn_of_wpIn trivial ?_
 have h49' : t4 ≠ t9 := fun e => by subst e; simp at h49
 have hs0 : Sees ⟨N, W, K, D1 bx, [.box [.int .i64 y]], []⟩ [(t9, sv), (t4, .ptr 0 0)] [.box [.int .i64 y]] { tmps := r.tmps.setIfInBounds t9 v, defers := [] } W := by
  refine ⟨rfl, K, D1 bx, ⟨⟨by simpa using hsz, fun i hi => ?_, glob_any hG⟩, hinv_box hbx hK hkw, Grow.refl _ _ _ _⟩⟩
  show Rep W K _ _ (lk [(t9, sv), (t4, .ptr 0 0)] i)
  simp only [lk]
  cases e1 : Nat.beq i t9 with
  | true =>
   have := Nat.eq_of_beq_eq_true e1
   subst this
   have : (r.tmps.setIfInBounds i v).getD i undef = v := by
    rw [Array.getD_eq_getD_getElem?, Array.getElem?_setIfInBounds_self, if_pos (by omega)]; rfl
   rw [this]; exact hv _
  | false =>
   cases e2 : Nat.beq i t4 with
   | true =>
    have := Nat.eq_of_beq_eq_true e2
    subst this
    have : (r.tmps.setIfInBounds t9 v).getD i undef = .pointer (some ⟨bx, 0, none⟩) := by
     rw [← ht4, Array.getD_eq_getD_getElem?, Array.getD_eq_getD_getElem?, Array.getElem?_setIfInBounds_ne (fun e => h49' e.symm)]
    rw [this]; exact .ptr 0 0 bx 0 0 rfl
   | false => exact .undef _
 refine wpIn_mono (hassign _ rfl _ _ hs0) (fun e a1 w1 hq => ?_)
 obtain ⟨rfl, hd1, K1, D1', hi1⟩ := hq
 have hl1 : w1.heap[l]? = some (.loop r) := by rw [hi1.grow.block l hlt hml]; exact hl
 refine ⟨_, run_beginRound hl1 hst, ?_⟩
 have hs1 := sees_put (l := l) (Obj.loop { r with state := .busy }) hd1 hi1 hlt hKl hml
 have hK1l : K1 l = 0 := by rw [hi1.grow.kk l hlt hml]; exact hKl
 have hm1 : ∀ b, Mem D1' H1 b → b = bx ∨ W.heap.size ≤ b := fun b hb => (hi1.grow.new b hb).imp mem_D1 id
 have hml1 : ¬ Mem D1' H1 l := fun h => by rcases hm1 l h with h | h <;> omega
 have hsz1 : W.heap.size ≤ w1.heap.size := hi1.grow.size
 have hlt1 : l < (w1.putObj l (Obj.loop { r with state := .busy })).heap.size := by rw [World.putObj_size]; omega
 refine wpIn_mono (hbody _ rfl _ _ hs1) (fun e a2 w2 hq => ?_)
 obtain ⟨rfl, hd2, K2, D2, hi2⟩ := hq
 have hl2 : w2.heap[l]? = some (.loop { r with state := .busy }) := by
  rw [hi2.grow.block l hlt1 hml1]; exact World.putObj_heap_same (by omega)
 refine ⟨_, _, run_endRound (some .ret) hl2, rfl, ?_⟩
 have hsz2 : w1.heap.size ≤ w2.heap.size := by have := hi2.grow.size; simpa using this
 have hl2lt : l < w2.heap.size := by omega
 have hD2 : D2 0 = some (.at bx 0 0) := hi2.grow.dd _ _ (hi1.grow.dd _ _ rfl)
 obtain ⟨e2, hb2⟩ := box_of hi2.hinv hH2 hD2
 have hsame : ∀ b, b < W.heap.size → b ≠ l → b ≠ bx → (w2.putObj l (Obj.loop { r with state := .done, pending := some .ret })).heap[b]? = W.heap[b]? := fun b hb h1 h2 => by
  rw [World.putObj_heap_other h1, hi2.grow.block b (by rw [World.putObj_size]; show b < w1.heap.size; omega) (fun h => by rcases hm1 b h with h | h <;> omega), World.putObj_heap_other h1]
  exact hi1.grow.block b hb (fun h => h2 (mem_D1 h))
 refine ⟨fun b j hj => cell_same (hsame b (hkw b (by omega)) (fun e => by subst e; omega) (fun e => by subst e; omega)), by rw [World.putObj_size]; omega, ?_⟩
 exact ⟨hi2.grow.os.trans hi1.grow.os, hi2.grow.tape.trans hi1.grow.tape, hi2.grow.output.trans hi1.grow.output, by rw [World.putObj_size]; omega, World.putObj_heap_same hl2lt,
  ⟨e2, by rw [World.putObj_heap_other (fun e => hne e.symm)]; exact hb2⟩, hsame⟩
end
theorem sees_init {N : Nat} {w : World} {K : Nat → Nat} {D : DM} {H : Heap} {vals : List Value} {args : List SV} (hl : vals.length = args.length) (hrep : ∀ (j : Nat) (x : Value) (c : SV), vals[j]? = some x → args[j]? = some c → Rep w K D x c)
  (hi : HInv w K D H) (hG : GlobOk w K D) (hn : args.length ≤ N) : Sees ⟨N, w, K, D, H, []⟩ (initL 0 args) H { tmps := vals.toArray ++ Array.replicate (N - vals.toArray.size) undef, defers := [] } w := by
 have hslots : Slots N w K D (envOf (initL 0 args)) (vals.toArray ++ Array.replicate (N - vals.toArray.size) undef) := by
  refine ⟨by simp; omega, fun i hin => ?_, hG⟩
  show Rep w K D _ (lk (initL 0 args) i)
  rw [lk_initL, if_pos (Nat.zero_le _), Nat.sub_zero]
  by_cases hia : i < args.length
  ·have hiv : i < vals.length := by omega
   rw [List.getElem?_eq_getElem hia, Option.getD_some]
   have hg : (vals.toArray ++ Array.replicate (N - vals.toArray.size) undef).getD i undef = vals[i] := by
    rw [Array.getD_eq_getD_getElem?, Array.getElem?_append_left (by simpa using hiv)]
    simp [hiv]
   rw [hg]
   exact hrep i _ _ (List.getElem?_eq_getElem hiv) (List.getElem?_eq_getElem hia)
  ·rw [List.getElem?_eq_none (by omega)]
   exact .undef _
 exact ⟨rfl, K, D, ⟨hslots, hi, Grow.refl _ _ _ _⟩⟩
def backR (F : Fr) (v : SV) (H' : Heap) : Ending → World → Prop := fun e w' => ∃ r, e = .returned r ∧ Good F.w0 F.K0 F.D0 F.H0 r w' v H'
theorem SC_of_JM {P : Program} {f : FuncId} {fn : Func} {c : Code} (hf : P.funcs[f]? = some fn) (hb : fn.body = some c) (hcal : callable P f = true) (hin : codeIn fn.ntmps c = true) {args : List SV} {H : Heap} {v : SV} {H' : Heap} (hn : args.length ≤ fn.ntmps)
  (h : ∀ F : Fr, F.n = fn.ntmps → F.H0 = H → (∀ i, F.H0.length ≤ i → F.D0 i = none) → (F.ds = [] ∧ ∀ b, F.K0 b ≠ 0 → b < F.w0.heap.size) → J F P c (initL 0 args) H (bodyPostM Fence.wide 0 P fn (backR F v H'))) : SC P f args H v H' := by
 refine ⟨hcal, fun w K D vals hl hrep hi hG => ?_⟩
 exact callsIn_wide.1 (callsIn_of_wp_marks (F := Fence.wide) (n := 0) hf hb trivial (wpIn_wide.2 (h ⟨fn.ntmps, w, K, D, H, []⟩ rfl rfl hi.dom ⟨rfl, hi.kw⟩ hin _ w (sees_init hl hrep hi hG hn))))
theorem K.fnM {P : Program} {f : FuncId} {fn : Func} {args : List SV} {v : SV} {H H' : Heap}
  (h : ∀ F : Fr, F.n = fn.ntmps → F.H0 = H → (∀ i, F.H0.length ≤ i → F.D0 i = none) → (F.ds = [] ∧ ∀ b, F.K0 b ≠ 0 → b < F.w0.heap.size) → J F P (bodyC fn) (initL 0 args) H (bodyPostM Fence.wide 0 P fn (backR F v H'))) (hf : P.funcs[f]? = some fn := by kernel_rfl)
  (hb : fn.body.isSome = true := by kernel_rfl) (hcal : callable P f = true := by kernel_rfl) (hin : codeIn fn.ntmps (bodyC fn) = true := by kernel_rfl) (hn : Nat.ble args.length fn.ntmps = true := by kernel_rfl) : SC P f args H v H' := by
 unfold bodyC at *
 cases hbb : fn.body with
 | none => rw [hbb] at hb; cases hb
 | some c => rw [hbb] at hin h; exact SC_of_JM hf hbb hcal hin (Nat.le_of_ble_eq_true hn) h
def YW (P : Program) (F1 : Fr) (l : Nat) (RE : World → Int → World → Prop) : Prop :=
 ∀ (cat : Int) (s2 : SV), s2.plain = true → ∀ w K D H v, GlobOk w K D → HInv w K D H → Grow F1.w0 F1.K0 F1.D0 F1.H0 w K D H → Rep w K D v (.agg [.int .i64 cat, s2]) →
  YieldAt Fence.wide 0 P l #[v] w fun e w' => e = .returned (.bool false) ∧ (∀ b j, j < K b → w'.cell? ⟨b, j, none⟩ = w.cell? ⟨b, j, none⟩) ∧ w.heap.size ≤ w'.heap.size ∧ RE w cat w'
def QI (F1 : Fr) (RE : World → Int → World → Prop) (out : Option Int) : Post := fun e a w => (e = .normal ∨ e = .ret) ∧ a.defers = F1.ds ∧
 ((out = none ∧ ∃ K D H, Grow F1.w0 F1.K0 F1.D0 F1.H0 w K D H) ∨
  ∃ cat w1 w2, out = some cat ∧ (∃ K D H, Grow F1.w0 F1.K0 F1.D0 F1.H0 w1 K D H) ∧ RE w1 cat w2 ∧ ∃ K D H K', Grow w2 K' (fun _ => none) [] w K D H)
theorem PJ.iterNone {F1 : Fr} {RE : World → Int → World → Prop} {e : Exit} {L : LE} {H : Heap} (he : e = .normal ∨ e = .ret) : PJ F1 (QI F1 RE none) e L H := fun a w hs => by
 obtain ⟨hd, K, D, hi⟩ := hs
 exact ⟨he, hd, .inl ⟨rfl, K, D, _, hi.grow⟩⟩
theorem PJ.iterSome {F1 : Fr} {RE : World → Int → World → Prop} {e : Exit} {L : LE} {H : Heap} {cat : Int} {N : Nat} {w' : World} {K' : Nat → Nat} (he : e = .normal ∨ e = .ret)
  (h : ∃ w1, (∃ K D H, Grow F1.w0 F1.K0 F1.D0 F1.H0 w1 K D H) ∧ RE w1 cat w') : PJ ⟨N, w', K', fun _ => none, [], F1.ds⟩ (QI F1 RE (some cat)) e L H := fun a w hs => by
 obtain ⟨hd, K, D, hi⟩ := hs
 obtain ⟨w1, h1, h2⟩ := h
 exact ⟨he, hd, .inr ⟨cat, w1, w', rfl, h1, h2, K, D, _, K', hi.grow⟩⟩
theorem leave_ok {P : Program} {fn : Func} {t4 ty bx Dk : Nat} {x : Int} {tm : Array Value} {w : World} {e0 : TypeId} {R : Ending → World → Prop} (hres : fn.results = #[.cell t4 ty]) (hty : cellsVal P ty [.int .i64 x] = some (.int .i64 x)) (ht4 : tm.getD t4 undef = .pointer (some ⟨bx, 0, none⟩))
  (hD : w.heap[Dk]? = some (.deferred (some []))) (hb : w.heap[bx]? = some (.cells #[.int .i64 x] e0 (0, 0))) (hR : R (.returned (.int .i64 x)) (w.putObj Dk (.deferred none))) :
  LeavesInM Fence.wide 0 P fn tm R [{ target := .collected Dk, args := #[] }] .returning w := by
 refine ⟨by simp, .inl ⟨Dk, _, rfl, run_takeDeferred hD, ?_⟩⟩
 refine ⟨.int .i64 x, ?_, hR⟩
 have hne : bx ≠ Dk := fun e => by subst e; rw [hD] at hb; cases hb
 have hb' : (w.putObj Dk (.deferred none)).heap[bx]? = some (.cells #[.int .i64 x] e0 (0, 0)) := by rw [World.putObj_heap_other hne]; exact hb
 have hcr : CR (w.putObj Dk (.deferred none)) (fun _ => 0) (fun _ => none) [.int .i64 x] [.int .i64 x] :=
  ⟨rfl, fun v hv => by simp at hv; subst hv; rfl, fun j v c hv hc => by
   cases j with
   | zero => simp at hv hc; subst hv; subst hc; exact .int _ _
   | succ j => simp at hv⟩
 obtain ⟨r, hrun, hrep⟩ := cellsVal_load (P := P) (t := ty) (ent_rowAt (rest := []) (by simpa using hb') hcr) hty
 cases hrep
 rw [results_eq]
 simp [hres, resRun, ht4, asAddr, hrun]
def isRange (t8 t9 : Nat) : Code → Bool | .rangeFunc (.tmp t) ps _ _ => Nat.beq t t8 && (match ps.toList with | [q] => Nat.beq q t9 | _ => false) | _ => false
def ra : Code → Code | .rangeFunc _ _ a _ => a | c => c
def rb : Code → Code | .rangeFunc _ _ _ b => b | c => c
theorem ent_to {w w' : World} {K K' : Nat → Nat} {D D' : DM} {i j : Nat} {cs : List SV} (h : EntOk w K D i (.box cs)) (hp : plainL cs = true) (hd : D' j = D i) (hc : ∀ b j, j < K b → w'.cell? ⟨b, j, none⟩ = w.cell? ⟨b, j, none⟩) (hle : ∀ b, K b ≤ K' b)
  (hb : ∀ b, D i = some (.at b 0 0) → w'.heap[b]? = w.heap[b]? ∧ K' b = K b) : EntOk w' K' D' j (.box cs) := by
 obtain ⟨b, vs, e, h1, h2, h3, h4⟩ := h
 obtain ⟨g1, g2⟩ := hb b h1
 exact ⟨b, vs, e, by rw [hd]; exact h1, by rw [g2]; exact h2, by rw [g1]; exact h3, h4.len, h4.one, fun k v c hv hcc =>
  ((Rep.mono (w' := w') (K' := K') (D' := D) hc hle (fun _ _ e => e) (h4.rep k v c hv hcc)).plain (plainL_get hp hcc))⟩
def D2 (x y : Option Loc) : DM := fun i => if i = 0 then x else if i = 1 then y else none
theorem mem_D2 {x y : Option Loc} {c2 c3 : List SV} {b : Nat} (h : Mem (D2 x y) [.box c2, .box c3] b) : ∃ c n, x = some (.at b c n) ∨ y = some (.at b c n) := by
 obtain ⟨i, en, c, n, hi, hl, hd⟩ := h
 match i with
 | 0 => exact ⟨c, n, .inl (by simpa [D2] using hd)⟩
 | 1 => exact ⟨c, n, .inr (by simpa [D2] using hd)⟩
 | i + 2 => simp at hi
theorem good_low {F : Fr} {x : Int} {w6 : World} (h0 : F.H0 = []) (hdom : ∀ i, F.H0.length ≤ i → F.D0 i = none) (hkw0 : ∀ b, F.K0 b ≠ 0 → b < F.w0.heap.size) (h : Low F.w0.heap.size F.w0 w6) : Good F.w0 F.K0 F.D0 F.H0 (.int .i64 x) w6 (.int .i64 x) [] := by
 have hd : ∀ i, F.D0 i = none := fun i => hdom i (by rw [h0]; exact Nat.zero_le _)
 refine ⟨F.K0, F.D0, ⟨h.os, h.tape, h.output, h.size, fun b hb _ => h.low b hb, fun b j hj => cell_same (h.low b (hkw0 b (by omega))), fun _ => Nat.le_refl _, fun _ _ _ => rfl, fun _ _ e => e, fun b hm => ?_⟩,
  ⟨fun i _ => hd i, fun i en hi => by simp at hi, fun i j en en' b c n c' n' hi => by simp at hi, fun b hb => Nat.lt_of_lt_of_le (hkw0 b hb) h.size⟩, .int _ _⟩
 obtain ⟨i, en, c, n, hi, _⟩ := hm
 simp at hi
theorem J.ranged {F : Fr} {P : Program} {c rest : Code} {L : LE} {H : Heap} {fn gfn : Func} {gc : Code} {g N t4 t8 t9 ty i2 i3 i4 : Nat} {c2 c3 : List SV} {x y : Int} {out : Option Int} {o : Oper} {ef : Eff}
  (hN : F.n = N) (h0 : F.H0 = []) (hdom : ∀ i, F.H0.length ≤ i → F.D0 i = none) (hkw0 : F.ds = [] ∧ ∀ b, F.K0 b ≠ 0 → b < F.w0.heap.size)
  (hc : isRange t8 t9 c = true) (h4 : lk L t4 = .ptr i4 0) (h8 : lk L t8 = .fn (.func g) [] [.ptr i2 0, .ptr i3 0]) (hi4 : H[i4]? = some (.box [.int .i64 y])) (hi2 : H[i2]? = some (.box c2)) (hi3 : H[i3]? = some (.box c3))
  (h23 : Nat.beq i2 i3 = false) (h24 : Nat.beq i2 i4 = false) (h34 : Nat.beq i3 i4 = false) (hp2 : plainL c2 = true) (hp3 : plainL c3 = true) (n4 : Nat.blt t4 N = true) (n8 : Nat.blt t8 N = true) (n9 : Nat.blt t9 N = true) (h49 : Nat.beq t4 t9 = false)
  (hgf : P.funcs[g]? = some gfn) (hgb : gfn.body = some gc) (hgn : (gfn.name == "runtime.NumGoroutine") = false) (hgres : gfn.results = #[]) (hgin : codeIn gfn.ntmps gc = true) (hg3 : Nat.ble 3 gfn.ntmps = true)
  (hIt : ∀ (l : Nat) (F1 : Fr) (RE : World → Int → World → Prop), F1.n = gfn.ntmps → F1.H0 = [.box c2, .box c3] → (∀ i, F1.H0.length ≤ i → F1.D0 i = none) → YW P F1 l RE → J F1 P gc (initL 0 [.fn (.yield l) [] [], .ptr 0 0, .ptr 1 0]) [.box c2, .box c3] (QI F1 RE out))
  (hround : ∀ (l : Nat) (cat : Int) (s2 : SV), s2.plain = true → ∃ L1 L2 H1 H2, (∀ F' : Fr, F'.n = N → Ji (Fence.wide.inRound l) 0 F' P (ra c) [(t9, .agg [.int .i64 cat, s2]), (t4, .ptr 0 0)] [.box [.int .i64 y]] (fun e a w => e = .normal ∧ Sees F' L1 H1 a w)) ∧
   (∀ F' : Fr, F'.n = N → Ji (Fence.wide.inRound l) 0 F' P (rb c) L1 H1 (fun e a w => e = .ret ∧ Sees F' L2 H2 a w)) ∧ H2[0]? = some (.box [.int .i64 cat]))
  (hr1 : isSeq rest = true) (hr2 : isReg false (cl rest) = true) (hr3 : isRet (cr rest) = true) (hro : rops (cl rest) = #[o]) (ho1 : o.guard = none) (ho2 : o.dst = none) (ho3 : Op.inB N o.op = true)
  (ho4 : opEval P o (envOf [(t4, .ptr 0 0)]) [.box [.int .i64 y]] 1 = some ef) (ho5 : out = none → applyW [.box [.int .i64 y]] ef.wr = [.box [.int .i64 x]]) (hx : ∀ cat, out = some cat → cat = x)
  (hres : fn.results = #[.cell t4 ty]) (hty : cellsVal P ty [.int .i64 x] = some (.int .i64 x)) :
  J F P c L H (Exit.inBlock 0 (thenJ F P rest (bodyPostM Fence.wide 0 P fn (backR F (.int .i64 x) [])))) := by
 intro hin a w hs
 obtain ⟨hd, K, D, hi⟩ := hs
 obtain ⟨f, ps, asg, bd, rfl⟩ : ∃ f ps asg bd, c = .rangeFunc f ps asg bd := by cases c <;> first | exact ⟨_, _, _, _, rfl⟩ | cases hc
 have hf : f = .tmp t8 ∧ ps = #[t9] := by
  cases f <;> simp only [isRange, Bool.and_eq_true, Bool.false_eq_true] at hc
  obtain ⟨e1, e2⟩ := hc
  split at e2
  ·rename_i q hq
   rw [Nat.eq_of_beq_eq_true e1]
   refine ⟨rfl, ?_⟩
   rw [← Nat.eq_of_beq_eq_true e2]
   exact Array.toList_inj.1 hq
  ·cases e2
 obtain ⟨rfl, rfl⟩ := hf
 have b4 : t4 < N := Nat.lt_of_succ_le (Nat.le_of_ble_eq_true n4)
 have b8 : t8 < N := Nat.lt_of_succ_le (Nat.le_of_ble_eq_true n8)
 have b9 : t9 < N := Nat.lt_of_succ_le (Nat.le_of_ble_eq_true n9)
 have ne : ∀ {i j : Nat}, Nat.beq i j = false → i ≠ j := fun h e => by subst e; simp at h
 -- what lies where
 obtain ⟨bx, cx, mx, hv4, hD4⟩ := rep_ptr (show Rep w K D (a.tmps.getD t4 undef) (.ptr i4 0) by rw [← h4]; exact hi.slots.rep t4 (by rw [hN]; exact b4))
 have hE4 := hi.hinv.ent _ _ hi4
 have hE2 := hi.hinv.ent _ _ hi2
 have hE3 := hi.hinv.ent _ _ hi3
 have hD4' : D i4 = some (.at bx 0 0) := by
  obtain ⟨b, vs, e, h1, _⟩ := hE4
  rw [hD4] at h1; cases h1; exact hD4
 obtain ⟨e4, hbx⟩ := box_of hi.hinv hi4 hD4'
 have hmem : ∀ {i b : Nat} {en : Ent}, H[i]? = some en → live en = true → D i = some (.at b 0 0) → F.w0.heap.size ≤ b ∧ b < w.heap.size ∧ K b = 0 := fun {i b en} h1 h2 h3 => by
  have hm : Mem D H b := ⟨i, en, 0, 0, h1, h2, h3⟩
  have := mem_lt hi.hinv hm
  rcases hi.grow.new b hm with ⟨j, en', c, n, hj, _⟩ | h
  ·rw [h0] at hj; simp at hj
  ·exact ⟨h, this.1, this.2⟩
 obtain ⟨lbx, sbx, kbx⟩ := hmem hi4 rfl hD4'
 have h8r := hi.slots.rep t8 (by rw [hN]; exact b8)
 rw [show envOf L t8 = lk L t8 from rfl, h8] at h8r
 obtain ⟨p2, p3, hfv, hr2', hr3'⟩ : ∃ p2 p3, a.tmps.getD t8 undef = .func (.func g) #[] #[p2, p3] ∧ Rep w K D p2 (.ptr i2 0) ∧ Rep w K D p3 (.ptr i3 0) := by
  generalize a.tmps.getD t8 undef = fv at h8r
  cases h8r with
  | fn _ fs caps _ _ q1 q2 q3 q4 =>
   have hfs : fs = [] := List.eq_nil_of_length_eq_zero q1.symm
   subst hfs
   match caps, q2, q4 with
   | [p2, p3], _, q4 => exact ⟨p2, p3, rfl, q4 0 p2 _ rfl rfl, q4 1 p3 _ rfl rfl⟩
 -- the record
 refine (wpIn_wide (n := 0)).1 (wpIn_rangeFunc (fun fn' _ => ?_))
 obtain ⟨r, hr⟩ : ∃ r : Loop, r = { state := .ready, pending := none, fn := fn', tmps := a.tmps, params := #[t9], assign := asg, body := bd, defers := w.heap.size } := ⟨_, rfl⟩
 obtain ⟨W1, hW1⟩ : ∃ W1, W1 = (w.alloc (.deferred (some []))).alloc (.loop r) := ⟨_, rfl⟩
 have hL1 : W1.heap[w.heap.size + 1]? = some (.loop r) := by
  rw [hW1]; have := World.alloc_heap_new (w.alloc (.deferred (some []))) (.loop r); rwa [World.size_alloc] at this
 have hK1 : W1.heap[w.heap.size]? = some (.deferred (some [])) := by
  rw [hW1]; exact (Below.heap_alloc _ _ _ (by simp)).trans (World.alloc_heap_new w _)
 have hsz1 : W1.heap.size = w.heap.size + 2 := by rw [hW1]; simp
 have hlow1 : ∀ b, b < w.heap.size → W1.heap[b]? = w.heap[b]? := fun b hb => by
  rw [hW1]; exact (Below.heap_alloc _ _ b (by simp; omega)).trans (Below.heap_alloc _ _ b hb)
 have hLow1 : Low F.w0.heap.size w W1 := by
  have := hi.grow.size
  rw [hW1]; exact (Low.alloc _ _ this).trans (Low.alloc _ _ (by simp; omega))
 have hLow0 : Low F.w0.heap.size F.w0 w := Low.grow hi.grow (Nat.le_refl _) (fun b _ hm => by
  obtain ⟨j, en', c, n, hj, _⟩ := hm
  rw [h0] at hj; simp at hj)
 have hcl1 : ∀ b j, j < K b → W1.cell? ⟨b, j, none⟩ = w.cell? ⟨b, j, none⟩ := fun b j hj => cell_same (hlow1 b (hi.hinv.kw b (by omega)))
 have hG1 : GlobOk W1 K (D2 (D i2) (D i3)) := glob_any (D := D) (fun g cs hg => Rep.mono hcl1 (fun _ => Nat.le_refl _) (fun _ _ e => e) (hi.slots.glob g cs hg))
 refine ⟨w.heap.size + 1, [{ target := .collected w.heap.size, args := #[] }], W1, { target := .fn (.func g) #[p2, p3], args := #[.func (.yield (w.heap.size + 1)) #[] #[]] }, W1, g,
  #[.func (.yield (w.heap.size + 1)) #[] #[]] ++ #[p2, p3], W1, ?_, ?_, fun _ _ => trivial, ?_, fun h => (by cases h), ?_⟩
 ·rw [hW1, hr]; exact run_enterLoop_outer _ _ _ _ _
 ·have he : a.eval (.tmp t8) = .func (.func g) #[] #[p2, p3] := hfv
  simp only [resolve, he]
  simp [go_sem]
 ·have eg : ∀ args, (callFunc g args).run P W1 = .ok (.enter g args) W1 := fun args => by
   have h1 : gfn.name ≠ "runtime.NumGoroutine" := by simpa using hgn
   simp [callFunc, hgf, h1, hgb, mark]
  simp [invoke, go_sem, eg]
 -- the iterator
 obtain ⟨b2, hD2⟩ : ∃ b, D i2 = some (.at b 0 0) := by obtain ⟨b, vs, e, h1, _⟩ := hE2; exact ⟨b, h1⟩
 obtain ⟨b3, hD3⟩ : ∃ b, D i3 = some (.at b 0 0) := by obtain ⟨b, vs, e, h1, _⟩ := hE3; exact ⟨b, h1⟩
 obtain ⟨lb2, sb2, kb2⟩ := hmem hi2 rfl hD2
 obtain ⟨lb3, sb3, kb3⟩ := hmem hi3 rfl hD3
 have hx2 : b2 ≠ bx := fun e => by subst e; exact ne h24 (hi.hinv.inj _ _ _ _ _ _ _ _ _ hi2 hi4 rfl rfl hD2 hD4')
 have hx3 : b3 ≠ bx := fun e => by subst e; exact ne h34 (hi.hinv.inj _ _ _ _ _ _ _ _ _ hi3 hi4 rfl rfl hD3 hD4')
 have h23' : b2 ≠ b3 := fun e => by subst e; exact ne h23 (hi.hinv.inj _ _ _ _ _ _ _ _ _ hi2 hi3 rfl rfl hD2 hD3)
 have hmm : ∀ b, Mem (D2 (D i2) (D i3)) [.box c2, .box c3] b → b = b2 ∨ b = b3 := fun b hb => by
  obtain ⟨c, n, h | h⟩ := mem_D2 hb
  ·rw [hD2] at h; cases h; exact .inl rfl
  ·rw [hD3] at h; cases h; exact .inr rfl
 have hml : ¬ Mem (D2 (D i2) (D i3)) [.box c2, .box c3] (w.heap.size + 1) := fun h => by rcases hmm _ h with h | h <;> omega
 have hmd : ¬ Mem (D2 (D i2) (D i3)) [.box c2, .box c3] w.heap.size := fun h => by rcases hmm _ h with h | h <;> omega
 have hmx : ¬ Mem (D2 (D i2) (D i3)) [.box c2, .box c3] bx := fun h => by rcases hmm _ h with h | h <;> omega
 have hmlow : ∀ b, b < F.w0.heap.size → ¬ Mem (D2 (D i2) (D i3)) [.box c2, .box c3] b := fun b hb h => by rcases hmm _ h with h | h <;> omega
 have hkw1 : ∀ b, K b ≠ 0 → b < W1.heap.size := fun b hb => by have := hi.hinv.kw b hb; omega
 have hinv1 : HInv W1 K (D2 (D i2) (D i3)) [.box c2, .box c3] := by
  refine ⟨fun i hi' => ?_, fun i en hi' => ?_, fun i j en en' b c n c' n' hi' hj' _ _ hd1 hd2 => ?_, hkw1⟩
  ·match i, hi' with
   | i + 2, _ => rfl
  ·match i, hi' with
   | 0, hi' =>
    simp at hi'; subst hi'
    exact ent_to (i := i2) hE2 hp2 rfl hcl1 (fun _ => Nat.le_refl _) (fun b hb => ⟨hlow1 b (by rw [hD2] at hb; cases hb; exact sb2), rfl⟩)
   | 1, hi' =>
    simp at hi'; subst hi'
    exact ent_to (i := i3) hE3 hp3 rfl hcl1 (fun _ => Nat.le_refl _) (fun b hb => ⟨hlow1 b (by rw [hD3] at hb; cases hb; exact sb3), rfl⟩)
   | i + 2, hi' => simp at hi'
  ·match i, j, hi', hj' with
   | 0, 0, _, _ => rfl
   | 1, 1, _, _ => rfl
   | 0, 1, _, _ =>
    have e1 : D i2 = some (.at b c n) := hd1
    have e2 : D i3 = some (.at b c' n') := hd2
    rw [hD2] at e1; rw [hD3] at e2; cases e1; cases e2; exact absurd rfl h23'
   | 1, 0, _, _ =>
    have e1 : D i3 = some (.at b c n) := hd1
    have e2 : D i2 = some (.at b c' n') := hd2
    rw [hD3] at e1; rw [hD2] at e2; cases e1; cases e2; exact absurd rfl h23'
   | i + 2, _, hi', _ => simp at hi'
   | _, j + 2, _, hj' => simp at hj'
 have hkl : K (w.heap.size + 1) = 0 := by
  cases h : K (w.heap.size + 1) with
  | zero => rfl
  | succ m => have := hi.hinv.kw (w.heap.size + 1) (by omega); omega
 have hst : r.state = .ready := by rw [hr]
 have hpe : r.pending = none := by rw [hr]
 have htm : r.tmps = a.tmps := by rw [hr]
 have hY : YW P ⟨gfn.ntmps, W1, K, D2 (D i2) (D i3), [.box c2, .box c3], []⟩ (w.heap.size + 1) (fun w1 cat w2 => RdEnd (w.heap.size + 1) bx r w1 cat w2) := by
  intro cat s2 hs2 wv Kv Dv Hv v hGv hHv hgv hv
  obtain ⟨L1, L2, H1, H2, q1, q2, q3⟩ := hround (w.heap.size + 1) cat s2 hs2
  have hlv : wv.heap[w.heap.size + 1]? = some (.loop r) := by rw [hgv.block _ (by show _ < W1.heap.size; omega) hml]; exact hL1
  have hbv : wv.heap[bx]? = some (.cells #[.int .i64 y] e4 (0, 0)) := by rw [hgv.block _ (by show _ < W1.heap.size; omega) hmx, hlow1 bx sbx]; exact hbx
  refine yield_round (N := N) (t4 := t4) (t9 := t9) (r := r) (D := Dv) (sv := .agg [.int .i64 cat, s2]) (y := y) (e0 := e4) (L1 := L1) (L2 := L2) (H1 := H1) (H2 := H2) hlv hst (by rw [hr]) (by rw [htm, hi.slots.size, hN]) (by rw [htm]; exact hv4) h49 b9 hbv
   (by rw [hgv.kk bx (by show _ < W1.heap.size; omega) hmx]; exact kbx) (by rw [hgv.kk _ (by show _ < W1.heap.size; omega) hml]; exact hkl) hHv.kw hGv (fun D' => ?_) (fun F' hF' => ?_) (fun F' hF' => ?_) q3
  ·cases hv with
   | agg vs _ hcc h1 hh =>
    refine .agg vs _ hcc h1 (fun j u c hu hc' => (hh j u c hu hc').plain ?_)
    match j, hc' with
    | 0, hc' => simp at hc'; subst hc'; rfl
    | 1, hc' => simp at hc'; subst hc'; exact hs2
    | j + 2, hc' => simp at hc'
  ·have := q1 F' hF'
   rw [hr]; exact this
  ·have := q2 F' hF'
   rw [hr]; exact this
 have hs1 := sees_init (N := gfn.ntmps) (w := W1) (K := K) (D := D2 (D i2) (D i3)) (H := [.box c2, .box c3]) (vals := [.func (.yield (w.heap.size + 1)) #[] #[], p2, p3]) (args := [.fn (.yield (w.heap.size + 1)) [] [], .ptr 0 0, .ptr 1 0]) rfl
  (fun j u c hu hc' => by
   match j, hu, hc' with
   | 0, hu, hc' =>
    simp at hu hc'; subst hu; subst hc'
    exact .fn _ [] [] [] [] rfl rfl (fun j v c h => by simp at h) (fun j v c h => by simp at h)
   | 1, hu, hc' =>
    simp at hu hc'; subst hu; subst hc'
    cases hr2' with
    | ptr _ _ b c n hd' => exact .ptr 0 0 b c n hd'
   | 2, hu, hc' =>
    simp at hu hc'; subst hu; subst hc'
    cases hr3' with
    | ptr _ _ b c n hd' => exact .ptr 1 0 b c n hd'
   | j + 3, hu, _ => simp at hu) hinv1 hG1 (Nat.le_of_ble_eq_true hg3)
 have hJ := hIt (w.heap.size + 1) ⟨gfn.ntmps, W1, K, D2 (D i2) (D i3), [.box c2, .box c3], []⟩ (fun w1 cat w2 => RdEnd (w.heap.size + 1) bx r w1 cat w2) rfl rfl hinv1.dom hY hgin _ W1 hs1
 refine callsIn_wide.2 (calls_of_wp hgf hgb (Code.wp_mono (fun e a' w' hq => ?_) hJ))
 obtain ⟨he, hd', hcase⟩ := hq
 obtain ⟨a2, ha2⟩ : ∃ a2 : Act, a2 = { a with defers := [{ target := .collected w.heap.size, args := #[] }] ++ a.defers } := ⟨_, rfl⟩
 have hdf : a2.defers = [{ target := .collected w.heap.size, args := #[] }] := by rw [ha2]; simp [hd, hkw0.1]
 have ht2 : a2.tmps = a.tmps := by rw [ha2]
 have key : rangePost Fence.wide 0 P (w.heap.size + 1) (Exit.inBlock 0 (thenJ F P rest (bodyPostM Fence.wide 0 P fn (backR F (.int .i64 x) [])))) a2 (.returned (.tuple #[])) w' := by
  rcases hcase with ⟨ho, K', D', H', g'⟩ | ⟨cat, w1, w2, ho, ⟨K', D', H', g'⟩, hE, K2, D2', H2', K2', g2⟩
  ·have hl' : w'.heap[w.heap.size + 1]? = some (.loop r) := by rw [g'.block _ (by show _ < W1.heap.size; omega) hml]; exact hL1
   have hsz' : W1.heap.size ≤ w'.heap.size := g'.size
   have hlow' : Low F.w0.heap.size W1 w' := Low.grow g' (by have := hLow0.size; show _ ≤ W1.heap.size; omega) hmlow
   obtain ⟨ob, hend⟩ : ∃ ob, (Instr.endLoop (w.heap.size + 1)).run P w' = .ok none (w'.putObj (w.heap.size + 1) ob) := by
    have h := run_endLoop (P := P) hl' (by rw [hst]; simp)
    rw [hpe] at h
    exact ⟨_, h⟩
   refine ⟨none, _, hend, ?_⟩
   show codeIn F.n rest = true → rest.wp P _ a2 _
   intro _
   obtain ⟨W4, hW4⟩ : ∃ W4, W4 = w'.putObj (w.heap.size + 1) ob := ⟨_, rfl⟩
   rw [← hW4]
   have hlow4 : Low F.w0.heap.size F.w0 W4 := by
    rw [hW4]; exact ((hLow0.trans hLow1).trans hlow').trans (Low.put _ _ (by have := hLow0.size; omega))
   have hb4 : W4.heap[bx]? = some (.cells #[.int .i64 y] e4 (0, 0)) := by
    rw [hW4, World.putObj_heap_other (by omega), g'.block _ (by show _ < W1.heap.size; omega) hmx, hlow1 bx sbx]; exact hbx
   have hd4 : W4.heap[w.heap.size]? = some (.deferred (some [])) := by
    rw [hW4, World.putObj_heap_other (by omega), g'.block _ (by show _ < W1.heap.size; omega) hmd]; exact hK1
   have hsz4 : w.heap.size + 2 ≤ W4.heap.size := by rw [hW4, World.putObj_size]; omega
   obtain ⟨r1, r2, rfl⟩ : ∃ r1 r2, rest = .seq r1 r2 := by cases rest <;> first | exact ⟨_, _, rfl⟩ | cases hr1
   obtain ⟨id, rfl⟩ : ∃ id, r1 = .region id #[o] false := by
    cases r1 with
    | region id ops b =>
     have : ops = #[o] := hro
     subst this
     cases b with
     | false => exact ⟨id, rfl⟩
     | true => cases hr2
    | _ => cases hr2
   obtain rfl : r2 = .ret := by cases r2 <;> first | rfl | cases hr3
   refine wp_seq (wp_region_list (wpList_plain ho1 (fun KK hKK => ?_)))
   have hkw4 : ∀ b, K b ≠ 0 → b < W4.heap.size := fun b hb => by have := hi.hinv.kw b hb; omega
   have hsl : Slots N W4 K (D1 bx) (envOf [(t4, .ptr 0 0)]) a2.tmps := by
    have hc4 : ∀ b j, j < K b → W4.cell? ⟨b, j, none⟩ = w.cell? ⟨b, j, none⟩ := fun b j hj => by
     have hbw := hi.hinv.kw b (by omega)
     have hn2 : b ≠ b2 := fun e => by subst e; omega
     have hn3 : b ≠ b3 := fun e => by subst e; omega
     refine cell_same ?_
     rw [hW4, World.putObj_heap_other (by omega), g'.block _ (by show _ < W1.heap.size; omega) (fun h => by rcases hmm _ h with h | h <;> contradiction), hlow1 b hbw]
    refine ⟨by rw [ht2, hi.slots.size, hN], fun i hin' => ?_, glob_any (D := D) (fun g cs hg => Rep.mono hc4 (fun _ => Nat.le_refl _) (fun _ _ e => e) (hi.slots.glob g cs hg))⟩
    show Rep W4 K _ _ (lk [(t4, .ptr 0 0)] i)
    simp only [lk]
    cases e1 : Nat.beq i t4 with
    | true =>
     have := Nat.eq_of_beq_eq_true e1
     subst this
     rw [ht2, hv4]; exact .ptr 0 0 bx 0 0 rfl
    | false => exact .undef _
   obtain ⟨rv, w5, hrun, K5, D5, g5, hi5, _⟩ := op_sound (P := P) (hinv_box hb4 kbx hkw4) hsl ho3 (.inl rfl) ho4
   have hput : ∀ v, a2.put o.dst v = a2 := fun v => by rw [ho2]; rfl
   have hfin : wpList P #[o] (Exit.then (Code.ret.wp P (bodyPostM Fence.wide 0 P fn (backR F (.int .i64 x) []))) (bodyPostM Fence.wide 0 P fn (backR F (.int .i64 x) []))) [] a2 w5 := by
    refine wpList_nil ?_
    show Code.ret.wp P _ a2 w5
    refine wp_ret ?_
    show LeavesInM Fence.wide 0 P fn a2.tmps _ a2.defers .returning w5
    rw [ho5 ho] at hi5
    obtain ⟨e5, hb5⟩ := box_of hi5 (i := 0) rfl (g5.dd _ _ rfl)
    have hd5 : w5.heap[w.heap.size]? = some (.deferred (some [])) := by
     rw [g5.block _ (by omega) (fun h => by have := mem_D1 h; omega)]; exact hd4
    have hlow5 : Low F.w0.heap.size W4 w5 := Low.grow g5 (by have := hLow0.size; omega) (fun b hb h => by have := mem_D1 h; omega)
    rw [hdf]
    refine leave_ok hres hty (by rw [ht2]; exact hv4) hd5 hb5 ⟨_, rfl, good_low h0 hdom hkw0.2 ((hlow4.trans hlow5).trans (Low.put _ _ (by have := hLow0.size; omega)))⟩
   unfold Oper.wp
   rcases hrun with hrun | ⟨hrun, hrv⟩
   ·rw [hrun, Oper.upon_value, hput]; exact hKK _ _ hfin
   ·rw [hrun, Oper.upon_skip, hput]; exact hKK _ _ hfin
  ·have hcx := hx cat ho
   subst hcx
   have hsz' : W1.heap.size ≤ w1.heap.size := g'.size
   have hszE := hE.size
   have hsz2 : w2.heap.size ≤ w'.heap.size := g2.size
   have hno : ∀ b, ¬ Mem (fun _ => none) [] b := fun b h => by obtain ⟨i, en, c, n, h1, _⟩ := h; simp at h1
   have hl' : w'.heap[w.heap.size + 1]? = some (.loop { r with state := .done, pending := some .ret }) := by
    rw [g2.block _ (by omega) (hno _)]; exact hE.loop
   have hlow1' : Low F.w0.heap.size W1 w1 := Low.grow g' (by have := hLow0.size; show _ ≤ W1.heap.size; omega) hmlow
   have hlowE : Low F.w0.heap.size w1 w2 := ⟨hE.os, hE.tape, hE.output, hE.size, fun b hb => hE.same b (by have := hLow0.size; omega) (by have := hLow0.size; omega) (by omega)⟩
   have hlow2 : Low F.w0.heap.size w2 w' := Low.grow g2 (by have := hLow0.size; omega) (fun b _ => hno b)
   refine ⟨some .ret, _, run_endLoop hl' (by simp), ?_⟩
   refine wpIn_ret ?_
   show LeavesInM Fence.wide 0 P fn a2.tmps _ a2.defers .returning _
   obtain ⟨e5, hb5⟩ := hE.box
   rw [hdf]
   refine leave_ok (e0 := e5) hres hty (by rw [ht2]; exact hv4) ?_ ?_ ⟨_, rfl, good_low h0 hdom hkw0.2 ((((((hLow0.trans hLow1).trans hlow1').trans hlowE).trans hlow2).trans (Low.put _ _ (by have := hLow0.size; omega))).trans (Low.put _ _ (by have := hLow0.size; omega)))⟩
   ·rw [World.putObj_heap_other (by omega), g2.block _ (by omega) (hno _), hE.same _ (by omega) (by omega) (by omega), g'.block _ (by show _ < W1.heap.size; omega) hmd]; exact hK1
   ·rw [World.putObj_heap_other (by omega), g2.block _ (by omega) (hno _)]; exact hb5
 rw [← ha2]
 rcases he with rfl | rfl <;> exact ⟨hd', _, results_none hgres _ _ _, key⟩
def restS (P : Program) (N t4 : Nat) (y : Int) (rest : Code) : Option Heap := match (rops (cl rest)).toList with
 | [o] => bif o.guard.isNone && o.dst.isNone && Op.inB N o.op then (opEval P o (envOf [(t4, .ptr 0 0)]) [.box [.int .i64 y]] 1).map (fun ef => applyW [.box [.int .i64 y]] ef.wr) else none
 | _ => none
theorem K.ranged {F : Fr} {P : Program} {c rest : Code} {L : LE} {H : Heap} {fn : Func} (gfn : Func) {g : Nat} (N t4 t8 t9 ty i2 i3 i4 : Nat) {c2 c3 : List SV} {x y x4 : Int} {out : Option Int}
  (hN : F.n = N) (h0 : F.H0 = []) (hdom : ∀ i, F.H0.length ≤ i → F.D0 i = none) (hkw0 : F.ds = [] ∧ ∀ b, F.K0 b ≠ 0 → b < F.w0.heap.size)
  (hc : isRange t8 t9 c = true) (h4 : lk L t4 = .ptr i4 0) (h8 : lk L t8 = .fn (.func g) [] [.ptr i2 0, .ptr i3 0]) (hi4 : H[i4]? = some (.box [.int .i64 y])) (hi2 : H[i2]? = some (.box c2)) (hi3 : H[i3]? = some (.box c3))
  (h23 : Nat.beq i2 i3 = false) (h24 : Nat.beq i2 i4 = false) (h34 : Nat.beq i3 i4 = false) (hp2 : plainL c2 = true) (hp3 : plainL c3 = true) (n4 : Nat.blt t4 N = true) (n8 : Nat.blt t8 N = true) (n9 : Nat.blt t9 N = true) (h49 : Nat.beq t4 t9 = false)
  (hgf : P.funcs[g]? = some gfn) (hgb : gfn.body.isSome = true) (hgn : callable P g = true) (hgres : gfn.results = #[]) (hgin : codeIn gfn.ntmps (bodyC gfn) = true) (hg3 : Nat.ble 3 gfn.ntmps = true)
  (hr1 : isSeq rest = true) (hr2 : isReg false (cl rest) = true) (hr3 : isRet (cr rest) = true) (hro : restS P N t4 y rest = some [.box [.int .i64 x4]]) (hres : fn.results = #[.cell t4 ty]) (hty : cellsVal P ty [.int .i64 x] = some (.int .i64 x))
  (ho5 : out = none → x4 = x) (hx : ∀ cat, out = some cat → cat = x)
  (hIt : ∀ (l : Nat) (F1 : Fr) (RE : World → Int → World → Prop), F1.n = gfn.ntmps → F1.H0 = [.box c2, .box c3] → (∀ i, F1.H0.length ≤ i → F1.D0 i = none) → YW P F1 l RE → J F1 P (bodyC gfn) (initL 0 [.fn (.yield l) [] [], .ptr 0 0, .ptr 1 0]) [.box c2, .box c3] (QI F1 RE out))
  (hround : ∀ (l : Nat) (cat : Int) (s2 : SV), s2.plain = true → ∃ L1 L2 H1 H2, (∀ F' : Fr, F'.n = N → Ji (Fence.wide.inRound l) 0 F' P (ra c) [(t9, .agg [.int .i64 cat, s2]), (t4, .ptr 0 0)] [.box [.int .i64 y]] (fun e a w => e = .normal ∧ Sees F' L1 H1 a w)) ∧
   (∀ F' : Fr, F'.n = N → Ji (Fence.wide.inRound l) 0 F' P (rb c) L1 H1 (fun e a w => e = .ret ∧ Sees F' L2 H2 a w)) ∧ H2[0]? = some (.box [.int .i64 cat])) :
  J F P c L H (Exit.inBlock 0 (thenJ F P rest (bodyPostM Fence.wide 0 P fn (backR F (.int .i64 x) [])))) := by
 unfold bodyC at *
 cases hbb : gfn.body with
 | none => rw [hbb] at hgb; cases hgb
 | some gc =>
  rw [hbb] at hgin hIt
  have hnm : (gfn.name == "runtime.NumGoroutine") = false := by
   unfold callable at hgn
   rw [hgf] at hgn
   simp only [Bool.and_eq_true, Bool.not_eq_true'] at hgn
   exact hgn.2
  unfold restS at hro
  split at hro
  ·rename_i o hop
   cases hb : (o.guard.isNone && o.dst.isNone && Op.inB N o.op) with
   | false => rw [hb] at hro; cases hro
   | true =>
    rw [hb] at hro
    simp only [Bool.and_eq_true, Option.isNone_iff_eq_none] at hb
    cases hef : opEval P o (envOf [(t4, .ptr 0 0)]) [.box [.int .i64 y]] 1 with
    | none => rw [hef] at hro; cases hro
    | some ef =>
     rw [hef] at hro
     have hap := Option.some.inj hro
     exact J.ranged hN h0 hdom hkw0 hc h4 h8 hi4 hi2 hi3 h23 h24 h34 hp2 hp3 n4 n8 n9 h49 hgf hbb hnm hgres hgin hg3 hIt hround hr1 hr2 hr3 (Array.toList_inj.1 hop) hb.1.1 hb.1.2 hb.2 hef (fun ho => by rw [← ho5 ho]; exact hap) hx hres hty
  ·cases hro
def yAt (N : Nat) (ops : Array Oper) (p : Nat) (L : LE) : Option (Nat × SV × Nat) := match ops.toList[p]? with
 | some o => match guardS ops (envOf L) o, yieldOf (envOf L) o, o.dst with
  | some true, some (l, sv), some d => bif Oper.inB N ops o then some (l, sv, d) else none
  | _, _, _ => none
 | none => none
section
variable {n : Nat} {P : Program} {ops : Array Oper} {Q : Post} {F F' : Fr} {p : Nat} {L : LE} {H : Heap}
theorem K.yield {N l d d1 : Nat} {b1 : Bool} {sv : SV} {cat : Int} {s2 : SV} {RE : World → Int → World → Prop} (hN : F.n = N) (hy : yAt N ops p L = some (l, sv, d)) (hsv : sv = .agg [.int .i64 cat, s2]) (hp : s2.plain = true) (h1 : lk L d1 = .bool b1) (hne : Nat.beq d1 d = false) (hY : YW P F l RE)
  (h : ∀ w' K', (∃ w1, (∃ K D H, Grow F.w0 F.K0 F.D0 F.H0 w1 K D H) ∧ RE w1 cat w') → RJi Fence.wide 0 ⟨N, w', K', fun _ => none, [], F.ds⟩ P ops (p + 1) [(d1, .bool b1), (d, .bool false)] [] Q) : RJi Fence.wide 0 F P ops p L H Q := by
 unfold yAt at hy
 split at hy
 ·rename_i o ho
  split at hy
  ·rename_i l' sv' d' hg hc hd
   cases hb : Oper.inB N ops o with
   | false => rw [hb] at hy; cases hy
   | true =>
    rw [hb] at hy
    cases hy
    subst hsv
    exact RJi.yield (Fin := fun w' => ∃ w1, (∃ K D H, Grow F.w0 F.K0 F.D0 F.H0 w1 K D H) ∧ RE w1 cat w') hN ho hg hc hb hd h1 hne
     (fun w K D v hG hH hgr hr => let ⟨fn, tm, as, bd, hy, hR⟩ := hY cat s2 hp w K D H v hG hH hgr hr; ⟨fn, tm, as, bd, hy, hR.mono (fun e w' ⟨q1, q2, q3, q4⟩ => ⟨q1, q2, q3, w, ⟨K, D, H, hgr⟩, q4⟩)⟩) h
  ·cases hy
 ·cases hy
theorem PJ.nextF {c : Code} (hn : F'.n = F.n) (h : J F' P c L H Q) : PJ F' (thenJ F P c Q) .normal L H := fun a w hs hin => h (by rw [hn]; exact hin) a w hs
theorem PJ.passRetF {c : Code} (h : PJ F' Q .ret L H) : PJ F' (thenJ F P c Q) .ret L H := h
theorem PJ.loopOutF {S O : Type} {R : S → LE × Heap} {o o' : O} {e : Exit} (hne : e ≠ .normal) (h : o' = o → PJ F' Q e L H) : PJ F' (loopQ F R Q o (.inr o')) e L H := fun a w hs => ⟨hne, fun he => h he a w hs⟩
theorem Ji.retN {Fc : Fence} {c : Code} (k : PJ F Q .ret L H) (h : isRet c = true := by kernel_rfl) : PJ F (Exit.then (c.wpIn Fc n P Q) Q) .normal L H := fun a w hs => Ji.ret k h a w hs
end
end Go.Sy
