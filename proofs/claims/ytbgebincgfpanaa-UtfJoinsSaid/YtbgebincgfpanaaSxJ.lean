/-
  The shadow machine, part 10: calls, regions in the order of the text, regions whose order is open.
-/
import Derived.Test.YtbgebincgfpanaaSxI
namespace Go.Sx
open Go Go.RowKit

abbrev Env := Nat → SV

mutual
def SV.ptrsIn (m : Nat) : SV → Prop
  | .ptr i _ => i < m
  | .lst _ _ cs => ptrsInL m cs
  | .ep cs => ptrsInL m cs
  | .agg cs => ptrsInL m cs
  | .tup cs => ptrsInL m cs
  | .fn _ a b => ptrsInL m a ∧ ptrsInL m b
  | .undef => True
  | .bool _ => True
  | .int _ _ => True
  | .str _ => True
def ptrsInL (m : Nat) : List SV → Prop
  | [] => True
  | c :: cs => SV.ptrsIn m c ∧ ptrsInL m cs
end

theorem ptrsInL_get {m : Nat} : ∀ {cs : List SV}, ptrsInL m cs → ∀ (j : Nat) (c : SV), cs[j]? = some c → SV.ptrsIn m c
  | [], _, j, c, h => by simp at h
  | x :: cs, h, j, c, hc => by
    simp only [ptrsInL] at h
    cases j with
    | zero => simp at hc; subst hc; exact h.1
    | succ j => exact ptrsInL_get h.2 j c (by simpa using hc)

theorem ptrsInL_of {m : Nat} : ∀ {cs : List SV}, (∀ c ∈ cs, SV.ptrsIn m c) → ptrsInL m cs
  | [], _ => by simp [ptrsInL]
  | x :: cs, h => by
    simp only [ptrsInL]
    exact ⟨h x (List.mem_cons_self ..), ptrsInL_of fun c hc => h c (List.mem_cons_of_mem _ hc)⟩

theorem Rep.cutβ {w : World} {K : Nat → Nat} {β β' : List Nat} (hβ : ∀ (i b : Nat), i < β'.length → β[i]? = some b → β'[i]? = some b) {v : Value} {s : SV} (h : Rep w K β v s) (hb : SV.ptrsIn β'.length s) : Rep w K β' v s := by
  induction h with
  | undef v => exact .undef v
  | bool b => exact .bool b
  | int k n => exact .int k n
  | str s => exact .str s
  | nil o k => exact .nil o k
  | emp k a cap => exact .emp k a cap
  | lst o k b off len cap vs cs hk hl hc hcap hm hKb h1 _ ih =>
    simp only [SV.ptrsIn] at hb
    exact .lst o k b off len cap vs cs hk hl hc hcap hm hKb h1 (fun j v c hv hcc => ih j v c hv hcc (ptrsInL_get hb j c hcc))
  | ep b off vs cs hc hm hKb h1 _ ih =>
    simp only [SV.ptrsIn] at hb
    exact .ep b off vs cs hc hm hKb h1 (fun j v c hv hcc => ih j v c hv hcc (ptrsInL_get hb j c hcc))
  | agg vs cs hc h1 _ ih =>
    simp only [SV.ptrsIn] at hb
    exact .agg vs cs hc h1 (fun j v c hv hcc => ih j v c hv hcc (ptrsInL_get hb j c hcc))
  | tup vs cs hc _ ih =>
    simp only [SV.ptrsIn] at hb
    exact .tup vs cs hc (fun j v c hv hcc => ih j v c hv hcc (ptrsInL_get hb j c hcc))
  | ptr i off b hi =>
    simp only [SV.ptrsIn] at hb
    exact .ptr i off b (hβ i b hb hi)
  | fn f fs caps gs dcs hc hd _ _ ih ih' =>
    simp only [SV.ptrsIn] at hb
    exact .fn f fs caps gs dcs hc hd (fun j v c hv hcc => ih j v c hv hcc (ptrsInL_get hb.1 j c hcc)) (fun j v c hv hcc => ih' j v c hv hcc (ptrsInL_get hb.2 j c hcc))

def callable (P : Program) (f : FuncId) : Bool :=
  match P.funcs[f]? with
  | some fn => fn.body.isSome && !(fn.name == "runtime.NumGoroutine")
  | none => false

structure ResOwn (w : World) (K : Nat → Nat) (β : List Nat) (B : Nat → Prop) (r : Value) (v : SV) : Prop where
  own : ∀ p y, flagAt v p = some y → Owned w K β B (valAt r p) y
  dis : ∀ p p' y y' b, flagAt v p = some y → flagAt v p' = some y' → (valAt r p).ownBlock = some b → (valAt r p').ownBlock = some b → p = p'

/-- The block that a call is granted: its first argument's, where that bears the right to append. -/
def xOf (args : List SV) (vals : List Value) : Option Nat :=
  match args, vals with
  | .lst (some _) _ _ :: _, v :: _ => v.ownBlock
  | _, _ => none

def Granted (w : World) (K : Nat → Nat) (β : List Nat) (args : List SV) (vals : List Value) : Prop :=
  ∀ e k cs rest v vs, args = .lst (some e) k cs :: rest → vals = v :: vs → Owned w K β (fun _ => True) v (e, k)

/-- THE CONTRACT OF A FUNCTION, said of shadow values: called with what is shown by args, with these boxes, it returns what is shown by v, with those boxes. -/
def SC (P : Program) (f : FuncId) (args : List SV) (H : Heap) (v : SV) (H' : Heap) : Prop :=
  callable P f = true ∧
  ∀ (w : World) (K : Nat → Nat) (β : List Nat) (vals : List Value), vals.length = args.length → (∀ (j : Nat) (x : Value) (c : SV), vals[j]? = some x → args[j]? = some c → Rep w K β x c) → Granted w K β args vals → BoxInv w K β H → (∀ b, K b ≠ 0 → b < w.heap.size) →
    Calls P f vals.toArray w fun e w' => ∃ r K' β', e = .returned r ∧ Grow w K β w' K' β' (xOf args vals) ∧ BoxInv w' K' β' H' ∧ (∀ b, K' b ≠ 0 → b < w'.heap.size) ∧ Rep w' K' β' r v ∧ ResOwn w' K' β' (fun g => w.heap.size ≤ g ∨ xOf args vals = some g) r v

theorem Grow.weaken {w w' : World} {K K' : Nat → Nat} {β β' : List Nat} (g : Grow w K β w' K' β' none) (x : Option Nat) : Grow w K β w' K' β' x :=
  ⟨g.os, g.tape, g.output, g.size, fun b h1 h2 _ => g.block b h1 h2 (by simp), g.cells, g.le, fun b h1 _ => g.same b h1 (by simp), g.pre, g.new⟩

theorem Owned.base {w : World} {K : Nat → Nat} {β : List Nat} {B B' : Nat → Prop} {v : Value} {x : TypeId × Nat} (h : Owned w K β B v x) (hB : ∀ g, v.ownBlock = some g → B g → B' g) : Owned w K β B' v x := by
  rcases h with h | ⟨g, len, cap, hv, ho⟩
  · exact .inl h
  · exact .inr ⟨g, len, cap, hv, ⟨hB g (by rw [hv]; rfl) ho.base, ho.box, ho.com, ho.row, ho.len, ho.cap⟩⟩

/-- What is granted need not be taken. -/
theorem SC.grant {P : Program} {f : FuncId} {e : TypeId} {k : Nat} {cs : List SV} {rest : List SV} {H : Heap} {v : SV} {H' : Heap} (h : SC P f (.lst none k cs :: rest) H v H') : SC P f (.lst (some e) k cs :: rest) H v H' := by
  refine ⟨h.1, fun w K β vals hl hr hg hb hk => ?_⟩
  refine (h.2 w K β vals (by simpa using hl) (fun j x c hx hc => ?_) (fun e' k' cs' rest' v' vs' he => by cases he) hb hk).mono ?_
  · cases j with
    | zero => simp at hc; subst hc; exact (hr 0 x _ hx rfl).lst_any
    | succ j => exact hr (j + 1) x c hx (by simpa using hc)
  · rintro en w' ⟨r, K', β', he, g, b1, b2, b3, b4⟩
    have hx0 : xOf (.lst none k cs :: rest) vals = none := by cases vals <;> rfl
    rw [hx0] at g b4
    exact ⟨r, K', β', he, g.weaken _, b1, b2, b3, ⟨fun p y hf => (b4.own p y hf).base (fun g _ hg => by rcases hg with h1 | h1; exact .inl h1; cases h1), b4.dis⟩⟩

def guardS (ops : Array Oper) (ρ : Env) (o : Oper) : Option Bool :=
  match o.guard with
  | none => some true
  | some (j, want) => match (ops[j]?).bind (·.dst) with
    | some d => match ρ d with
      | .bool b => some (b == want)
      | .tup _ => some false
      | _ => none
    | none => none

def argsOf (ρ : Env) (args : List Operand) : Option (List SV) := (args.mapM (valE ρ)).map fun l => l.map SV.share

/-- Which function is called, with what. -/
def calledOf (ρ : Env) (c : Call) : Option (FuncId × List SV) :=
  match c.callee with
  | .value f => match valE ρ f with
    | some (.fn (.func f) first captured) => (argsOf ρ c.args.toList).map fun l => (f, (first ++ l ++ captured).map SV.share)
    | _ => none
  | _ => none

def isCall (o : Oper) : Bool :=
  match o.op with
  | .call c => match c.callee with
    | .value _ => true
    | _ => false
  | _ => false

def callOf (ρ : Env) (o : Oper) : Option (FuncId × List SV) :=
  match o.op with
  | .call c => calledOf ρ c
  | _ => none

/-- The call, and what is left of the slots when a right to append has been handed on with the first argument. -/
def callG (ρ : Env) (o : Oper) : Option (FuncId × List SV × Env) :=
  match o.op with
  | .call c => match c.callee, c.args.toList with
    | .value (.func f), .tmp t :: rest => match ρ t with
      | .lst (some e) k cs => (argsOf ρ rest).map fun l => (f, .lst (some e) k cs :: l, upd ρ t (.lst none k cs))
      | _ => (callOf ρ o).map fun r => (r.1, r.2, ρ)
    | _, _ => (callOf ρ o).map fun r => (r.1, r.2, ρ)
  | _ => none

/-- The operations of a region in the order of the text. -/
def opsW (P : Program) (ops : Array Oper) : List Oper → (Env → Heap → Prop) → Env → Heap → Prop
  | [], K, ρ, H => K ρ H
  | o :: rest, K, ρ, H =>
    match guardS ops ρ o with
    | some true =>
      if isCall o then match callG ρ o with
        | some (f, args, ρ1) => ∃ v H', SC P f args H v H' ∧ opsW P ops rest K (putE ρ1 o.dst v) H'
        | none => False
      else match opEval P o rest ρ H with
        | some (v, ρ1, H') => opsW P ops rest K (putE ρ1 o.dst v) H'
        | none => False
    | some false => opsW P ops rest K (putE ρ o.dst (.tup [])) H
    | none => False

def St (F : Fr) (ρ : Env) (H : Heap) (a : Act) (w : World) : Prop := a.defers = [] ∧ ∃ K β, Inv F w K β H ρ a.tmps

section
variable {P : Program} {F : Fr} {w : World} {K : Nat → Nat} {β : List Nat} {H : Heap} {ρ : Env} {a : Act} {o : Oper} {ops : Array Oper} {Q : Exit → Act → World → Prop}

theorem put_defers (a : Act) (d : Option Tmp) (v : Value) : (a.put d v).defers = a.defers := by cases d <;> rfl

theorem operand_tmp {t : Nat} (h : Operand.inB F.n (.tmp t) = true) : t < F.n := by simpa [Operand.inB] using h

theorem guard_sound (h : Inv F w K β H ρ a.tmps) (hb : ∀ j want d, o.guard = some (j, want) → (ops[j]?).bind (·.dst) = some d → d < F.n) {b : Bool} (hg : guardS ops ρ o = some b) : Region.wanted o (yielded ops a.tmps) = b := by
  unfold guardS at hg
  unfold Region.wanted
  cases hgd : o.guard with
  | none => rw [hgd] at hg; cases hg; rfl
  | some p =>
    obtain ⟨j, want⟩ := p
    rw [hgd] at hg
    simp only at hg ⊢
    cases hd : (ops[j]?).bind (·.dst) with
    | none => rw [hd] at hg; cases hg
    | some d =>
      rw [hd] at hg
      simp only at hg
      have hdn := hb j want d hgd hd
      have hr := h.rep d hdn
      have hdt : d < a.tmps.size := by rw [h.size]; exact hdn
      have hget : a.tmps[d]? = some (a.tmps.getD d undef) := by simp [Array.getD, hdt]
      unfold yielded
      rw [hd]
      simp only [Option.bind_some, hget]
      split at hg
      · rename_i b' hv
        cases hg
        rw [hv] at hr
        generalize a.tmps.getD d undef = x at hr
        cases hr
        simp
      · rename_i vs hv
        cases hg
        rw [hv] at hr
        generalize a.tmps.getD d undef = x at hr
        cases hr
        rfl
      · cases hg

theorem args_ok (h : Inv F w K β H ρ a.tmps) : ∀ (l : List Operand) (r : List SV), (∀ x ∈ l, Operand.inB F.n x = true) → argsOf ρ l = some r → r.length = (l.map a.eval).length ∧
    ∀ (j : Nat) (v : Value) (c : SV), (l.map a.eval)[j]? = some v → r[j]? = some c → Rep w K β v c := by
  intro l
  induction l with
  | nil => intro r _ hr; simp [argsOf] at hr; subst hr; exact ⟨rfl, fun j v c e => by simp at e⟩
  | cons x l ih =>
    intro r hb hr
    simp only [argsOf, List.mapM_cons] at hr
    cases hx1 : valE ρ x with
    | none => rw [hx1] at hr; cases hr
    | some s1 =>
      rw [hx1] at hr
      cases hr1 : l.mapM (valE ρ) with
      | none => rw [hr1] at hr; cases hr
      | some r1 =>
        rw [hr1] at hr
        cases hr
        obtain ⟨i1, i2⟩ := ih (r1.map SV.share) (fun y hy => hb y (List.mem_cons_of_mem _ hy)) (by simp [argsOf, hr1])
        refine ⟨by simpa using i1, fun j v c hv hc => ?_⟩
        cases j with
        | zero => simp at hv hc; subst hv; subst hc; exact (valE_rep h (hb x (List.mem_cons_self ..)) hx1).share
        | succ j => exact i2 j v c (by simpa using hv) (by simpa using hc)

/-- Behind a call: its result in a slot. -/
theorem put_result (h : Inv F w K β H ρ a.tmps) {ρ1 : Env} (hweak : ∀ i, Weak (ρ i) (ρ1 i)) {xo : Option Nat} (hxm : ∀ b, xo = some b → F.mine b ∧ b ∉ β) (hxo : ∀ i p y b, i < F.n → flagAt (ρ1 i) p = some y → (valAt (a.tmps.getD i undef) p).ownBlock = some b → xo ≠ some b)
    {w' : World} {K' : Nat → Nat} {β' : List Nat} {H' : Heap} {r : Value} {v : SV} (g : Grow w K β w' K' β' xo) (hbox : BoxInv w' K' β' H') (hkw : ∀ b, K' b ≠ 0 → b < w'.heap.size)
    (hrep : Rep w' K' β' r v) (hown : ResOwn w' K' β' (fun g => w.heap.size ≤ g ∨ xo = some g) r v) (d : Option Nat) : Inv F w' K' β' H' (putE ρ1 d v) (a.put d r).tmps := by
  have hold : ∀ i p y b, i < F.n → flagAt (ρ i) p = some y → (valAt (a.tmps.getD i undef) p).ownBlock = some b → b < w.heap.size := by
    intro i p y b hi hf hb
    rcases h.own i p y hi hf with ho | ⟨g, l, c, hv, ho⟩
    · rw [ho] at hb; cases hb
    · rw [hv] at hb; cases hb
      obtain ⟨cur, hcur, _⟩ := ho.row
      exact (Array.getElem?_eq_some_iff.1 hcur).1
  have hnew : ∀ p y b, flagAt v p = some y → (valAt r p).ownBlock = some b → w.heap.size ≤ b ∨ xo = some b := by
    intro p y b hf hb
    rcases hown.own p y hf with ho | ⟨g, l, c, hv, ho⟩
    · rw [ho] at hb; cases hb
    · rw [hv] at hb; cases hb; exact ho.base
  cases d with
  | none =>
    have := h.put (x := xo) (ρ' := ρ1) g hxm hbox hkw F.n undef (fun i hi _ => hweak i) (fun hd => absurd hd (Nat.lt_irrefl _))
      (fun i p y b hi _ hf hb => hxo i p y b hi hf hb) (fun hd => absurd hd (Nat.lt_irrefl _)) (fun hd => absurd hd (Nat.lt_irrefl _)) (fun hd => absurd hd (Nat.lt_irrefl _))
    have he : a.tmps.setIfInBounds F.n undef = a.tmps := by rw [← h.size]; exact Array.setIfInBounds_eq_of_size_le (Nat.le_refl _)
    rw [he] at this
    exact this
  | some d =>
    have hu : ∀ s, upd ρ1 d s d = s := fun s => by simp [upd]
    have hn : ∀ s i, i ≠ d → upd ρ1 d s i = ρ1 i := fun s i hi => by simp [upd, hi]
    refine h.put (x := xo) (ρ' := upd ρ1 d v) g hxm hbox hkw d _ (fun i hi hd => by rw [hn _ i hd]; exact hweak i) (fun _ => by rw [hu]; exact hrep)
      (fun i p y b hi hd hf hb => by rw [hn _ i hd] at hf; exact hxo i p y b hi hf hb)
      (fun _ p y hf => by rw [hu] at hf; exact (hown.own p y hf).base (fun g _ hg => by rcases hg with h1 | h1; exact .inl (Nat.le_trans h.hs h1); exact (hxm g h1).1))
      (fun _ p p' y y' b hf hf' hb hb' => by rw [hu] at hf hf'; exact hown.dis p p' y y' b hf hf' hb hb')
      (fun _ i p p' y y' b hi hd hf hf' hb hb' => ?_)
    rw [hn _ i hd] at hf
    rw [hu] at hf'
    have h1 := hold i p y b hi ((hweak i).flag p y hf) hb
    rcases hnew p' y' b hf' hb' with h2 | h2
    · omega
    · exact hxo i p y b hi hf hb h2

/-- A call of the function f with these values, shown by these arguments. -/
theorem call_core (h : Inv F w K β H ρ a.tmps) (hd : a.defers = []) {ρ1 : Env} (hweak : ∀ i, Weak (ρ i) (ρ1 i)) {f : FuncId} {args : List SV} {vals : List Value} (hrun : callable P f = true → (execOp a.eval o).run P w = .ok (.enter f vals.toArray) w)
    (hl : vals.length = args.length) (hr : ∀ (j : Nat) (x : Value) (c : SV), vals[j]? = some x → args[j]? = some c → Rep w K β x c) (hg : Granted w K β args vals)
    (hxm : ∀ b, xOf args vals = some b → F.mine b ∧ b ∉ β) (hxo : ∀ i p y b, i < F.n → flagAt (ρ1 i) p = some y → (valAt (a.tmps.getD i undef) p).ownBlock = some b → xOf args vals ≠ some b)
    {v : SV} {H' : Heap} (hs : SC P f args H v H') {KR : Act → World → Prop} (hK : ∀ a' w', St F (putE ρ1 o.dst v) H' a' w' → KR a' w') : o.wp P a w KR Q := by
  unfold Oper.wp
  rw [hrun hs.1]
  refine (hs.2 w K β vals hl hr hg h.box h.kw).mono ?_
  rintro e w' ⟨r, K', β', rfl, g, hbox, hkw, hrep, hown⟩
  exact hK _ _ ⟨by rw [put_defers]; exact hd, K', β', put_result h hweak hxm hxo g hbox hkw hrep hown o.dst⟩

theorem run_enter {c : Call} {f : FuncId} {fo : Operand} {fs caps : Array Value} (ho : o.op = .call c) (hcal : c.callee = .value fo) (hfv : a.eval fo = .func (.func f) fs caps) (hc : callable P f = true) :
    (execOp a.eval o).run P w = .ok (.enter f (fs.toList ++ c.args.toList.map a.eval ++ caps.toList).toArray) w := by
  unfold callable at hc
  cases hfn : P.funcs[f]? with
  | none => rw [hfn] at hc; cases hc
  | some fn =>
    rw [hfn] at hc
    simp only [Bool.and_eq_true, Bool.not_eq_true'] at hc
    unfold execOp
    simp only [ho, resolve, hcal, hfv, Deferred.ofValue, invoke, Sem.run_bind, Sem.run_pure, Result.andThen_ok, callFunc, run_program, hfn, hc.2, Bool.false_eq_true, if_false]
    have hbs : fn.body.isNone = false := by cases hbd : fn.body <;> simp [hbd] at hc ⊢
    rw [hbs]
    simp only [Bool.false_eq_true, if_false, Sem.run_pure]
    congr 2
    apply Array.ext'
    simp

theorem share_not_flag (s : SV) : ∀ e k cs, s.share ≠ .lst (some e) k cs := by
  intro e k cs he
  have := not_flag_share s none
  rw [he] at this; cases this

theorem xOf_share (l : List SV) (vals : List Value) : xOf (l.map SV.share) vals = none := by
  cases l with
  | nil => rfl
  | cons s l =>
    cases vals with
    | nil => simp only [List.map_cons]; cases s.share <;> (try rfl); rename_i q k cs; cases q <;> rfl
    | cons v vs =>
      simp only [List.map_cons]
      generalize hs : s.share = t
      cases t <;> (try rfl)
      rename_i q k cs
      cases q with
      | none => rfl
      | some e => exact (share_not_flag s e k cs hs).elim

theorem callOf_facts (h : Inv F w K β H ρ a.tmps) (hb : Op.inB F.n o.op = true) {f : FuncId} {args : List SV} (hc : callOf ρ o = some (f, args)) :
    ∃ vals : List Value, (callable P f = true → (execOp a.eval o).run P w = .ok (.enter f vals.toArray) w) ∧ vals.length = args.length ∧ (∀ (j : Nat) (x : Value) (c : SV), vals[j]? = some x → args[j]? = some c → Rep w K β x c) ∧ Granted w K β args vals ∧ xOf args vals = none := by
  unfold callOf at hc
  split at hc
  · rename_i c ho
    unfold calledOf at hc
    split at hc
    · rename_i fo hcal
      split at hc
      · rename_i f' first captured hfe
        cases hl : argsOf ρ c.args.toList with
        | none => rw [hl] at hc; cases hc
        | some l =>
          rw [hl] at hc; cases hc
          unfold Op.inB at hb
          rw [Array.all_eq_true_iff_forall_mem] at hb
          have hfr := valE_rep h (hb fo (by simp [ho, Op.operands, Call.operands, hcal])) hfe
          generalize hfv : a.eval fo = fv at hfr
          cases hfr with
          | fn _ fs caps _ _ hc1 hc2 hr1 hr2 =>
            obtain ⟨l1, l2⟩ := args_ok h c.args.toList l (fun x hx => hb x (by simp only [ho, Op.operands, Call.operands]; exact Array.mem_append.2 (.inr (Array.mem_toList_iff.1 hx)))) hl
            refine ⟨fs ++ c.args.toList.map a.eval ++ caps, fun hcb => by simpa using run_enter (P := P) (w := w) ho hcal hfv hcb, by simp [hc1, hc2]; simpa using l1.symm, fun j x y hx hy => ?_, fun e k cs rest v vs he _ => ?_, xOf_share _ _⟩
            · rw [List.getElem?_map] at hy
              cases hy0 : (first ++ l ++ captured)[j]? with
              | none => rw [hy0] at hy; cases hy
              | some y0 =>
                rw [hy0] at hy; cases hy
                refine Rep.share ?_
                rw [List.getElem?_append] at hx hy0
                have hle : (first ++ l).length = (fs ++ c.args.toList.map a.eval).length := by simp only [List.length_append]; omega
                rw [hle] at hy0
                split at hx
                · rename_i hj
                  rw [if_pos hj] at hy0
                  rw [List.getElem?_append] at hx hy0
                  rw [hc1] at hy0
                  split at hx
                  · rename_i hj2; rw [if_pos hj2] at hy0; exact hr1 j x y0 hx hy0
                  · rename_i hj2; rw [if_neg hj2] at hy0; exact l2 _ x y0 hx hy0
                · rename_i hj; rw [if_neg hj] at hy0; exact hr2 _ x y0 hx hy0
            · exfalso
              cases hl2 : first ++ l ++ captured with
              | nil => rw [hl2] at he; cases he
              | cons s ss =>
                rw [hl2] at he
                simp only [List.map_cons] at he
                injection he with he _
                exact share_not_flag s e k cs he
      · cases hc
    · cases hc
  · cases hc

theorem call_sound (h : Inv F w K β H ρ a.tmps) (hd : a.defers = []) (hb : Op.inB F.n o.op = true) {f : FuncId} {args : List SV} (hc : callOf ρ o = some (f, args)) {v : SV} {H' : Heap} (hs : SC P f args H v H')
    {KR : Act → World → Prop} (hK : ∀ a' w', St F (putE ρ o.dst v) H' a' w' → KR a' w') : o.wp P a w KR Q := by
  obtain ⟨vals, hrun, hl, hr, hg, hx⟩ := callOf_facts (P := P) h hb hc
  exact call_core h hd (fun i => Weak.refl _) hrun hl hr hg (fun b e => by rw [hx] at e; cases e) (fun i p y b _ _ _ => by rw [hx]; simp) hs hK

theorem callG_sound (h : Inv F w K β H ρ a.tmps) (hd : a.defers = []) (hb : Op.inB F.n o.op = true) {f : FuncId} {args : List SV} {ρ1 : Env} (hc : callG ρ o = some (f, args, ρ1)) {v : SV} {H' : Heap} (hs : SC P f args H v H')
    {KR : Act → World → Prop} (hK : ∀ a' w', St F (putE ρ1 o.dst v) H' a' w' → KR a' w') : o.wp P a w KR Q := by
  have plain : (callOf ρ o).map (fun r => (r.1, r.2, ρ)) = some (f, args, ρ1) → o.wp P a w KR Q := by
    intro hp
    cases hco : callOf ρ o with
    | none => rw [hco] at hp; cases hp
    | some r => rw [hco] at hp; cases hp; exact call_sound h hd hb hco hs hK
  unfold callG at hc
  split at hc
  · rename_i c ho
    split at hc
    · rename_i f' t rest hcal hargs
      split at hc
      · rename_i e k cs hv
        cases hl : argsOf ρ rest with
        | none => rw [hl] at hc; cases hc
        | some l =>
          rw [hl] at hc; cases hc
          unfold Op.inB at hb
          rw [Array.all_eq_true_iff_forall_mem] at hb
          have hmem : ∀ x ∈ c.args.toList, Operand.inB F.n x = true := fun x hx => hb x (by simp only [ho, Op.operands, Call.operands]; exact Array.mem_append.2 (.inr (Array.mem_toList_iff.1 hx)))
          have ht : t < F.n := operand_tmp (hmem (.tmp t) (by rw [hargs]; simp))
          obtain ⟨l1, l2⟩ := args_ok h rest l (fun x hx => hmem x (by rw [hargs]; exact List.mem_cons_of_mem _ hx)) hl
          have hrt := h.rep t ht
          rw [hv] at hrt
          have hfl : flagAt (ρ t) none = some (e, k) := by rw [hv]; rfl
          have hown := h.own t none (e, k) ht hfl
          have hweak : Weak (ρ t) (.lst none k cs) := by rw [hv]; exact Weak.share (.lst (some e) k cs)
          have hfacts : ∀ b, (a.tmps.getD t undef).ownBlock = some b → F.mine b ∧ b ∉ β := by
            intro b hbb
            rcases hown with h1 | ⟨g, len, cap, hv1, ho1⟩
            · have h1' : a.tmps.getD t undef = .slice none 0 0 := h1
              rw [h1'] at hbb; cases hbb
            · have hv1' : a.tmps.getD t undef = .slice (some ⟨g, 0, none⟩) len cap := hv1
              rw [hv1'] at hbb; cases hbb; exact ⟨ho1.base, ho1.box⟩
          refine call_core h hd (fun i => weak_upd hweak i) (args := .lst (some e) k cs :: l) (vals := a.tmps.getD t undef :: rest.map a.eval) (fun hcb => ?_) (by simp; simpa using l1.symm) (fun j x y hx hy => ?_) (fun e' k' cs' rest' v' vs' he hve => ?_) (fun b hb' => hfacts b hb')
            (fun i p y b hi hf hbb hxx => ?_) hs hK
          · have := run_enter (P := P) (w := w) (a := a) (f := f) (fs := #[]) (caps := #[]) ho hcal rfl hcb
            rw [this, hargs]
            simp [Act.eval]
          · cases j with
            | zero => simp at hx hy; subst hx; subst hy; simpa using hrt
            | succ j => exact l2 j x y (by simpa using hx) (by simpa using hy)
          · cases he; cases hve
            exact hown.base (fun _ _ _ => trivial)
          · obtain ⟨rfl, rfl⟩ := h.dis i p t none y (e, k) b hi ht ((weak_upd (ρ := ρ) hweak i).flag p y hf) hfl hbb hxx
            simp [upd, flagAt] at hf
      · exact plain hc
    · exact plain hc
  · cases hc

theorem put_skip (h : Inv F w K β H ρ a.tmps) (d : Option Nat) : Inv F w K β H (putE ρ d (.tup [])) (a.put d undef).tmps :=
  h.put_plain d undef (.tup []) (.tup [] [] rfl (fun j v c e => by simp at e)) (fun p => by cases p <;> rfl)

def Oper.inB (n : Nat) (ops : Array Oper) (o : Oper) : Bool :=
  Op.inB n o.op && (match o.guard with
    | none => true
    | some (j, _) => match (ops[j]?).bind (·.dst) with
      | some d => decide (d < n)
      | none => true)

theorem Oper.inB_guard {n : Nat} (h : Oper.inB n ops o = true) : ∀ j want d, o.guard = some (j, want) → (ops[j]?).bind (·.dst) = some d → d < n := by
  intro j want d hg hd
  unfold Oper.inB at h
  rw [hg] at h
  simp only [Bool.and_eq_true] at h
  have := h.2
  rw [hd] at this
  simpa using this

theorem Oper.inB_op {n : Nat} (h : Oper.inB n ops o = true) : Op.inB n o.op = true := by
  unfold Oper.inB at h
  simp only [Bool.and_eq_true] at h
  exact h.1

theorem op_wp (hst : St F ρ H a w) (hb : Oper.inB F.n ops o = true) {rest : List Oper} {v : SV} {ρ1 : Env} {H' : Heap} (he : opEval P o rest ρ H = some (v, ρ1, H')) {KR : Act → World → Prop}
    (hK : ∀ a' w', St F (putE ρ1 o.dst v) H' a' w' → KR a' w') : o.wp P a w KR Q := by
  obtain ⟨hd, K, β, h⟩ := hst
  obtain ⟨r, w', K', β', hrun, hinv⟩ := op_sound h (Oper.inB_op hb) he
  unfold Oper.wp
  rcases hrun with hrun | ⟨hrun, hr⟩
  · rw [hrun]
    exact hK _ _ ⟨by rw [put_defers]; exact hd, K', β', hinv⟩
  · rw [hrun]
    subst hr
    exact hK _ _ ⟨by rw [put_defers]; exact hd, K', β', hinv⟩

theorem opsW_sound (KS : Env → Heap → Prop) (KR : Act → World → Prop) (hKR : ∀ ρ H a w, St F ρ H a w → KS ρ H → KR a w) (hQ : ∀ a w, KR a w → Q .normal a w) : ∀ (l : List Oper) (ρ : Env) (H : Heap) (a : Act) (w : World),
    (∀ o ∈ l, Oper.inB F.n ops o = true) → St F ρ H a w → opsW P ops l KS ρ H → wpList P ops Q l a w := by
  intro l
  induction l with
  | nil => intro ρ H a w _ hst h; exact hQ _ _ (hKR ρ H a w hst h)
  | cons o rest ih =>
    intro ρ H a w hb hst h
    have hbo := hb o (List.mem_cons_self ..)
    have hbr : ∀ o ∈ rest, Oper.inB F.n ops o = true := fun o ho => hb o (List.mem_cons_of_mem _ ho)
    simp only [opsW] at h
    obtain ⟨hd, K, β, hi⟩ := hst
    refine wpList_step fun KK hKK => ?_
    split at h
    · rename_i hg
      rw [guard_sound hi (Oper.inB_guard hbo) hg, if_pos rfl]
      split at h
      · split at h
        · rename_i f args ρ1 hc
          obtain ⟨v, H', hsc, hrest⟩ := h
          exact callG_sound hi hd (Oper.inB_op hbo) hc hsc fun a' w' hst' => hKK _ _ (ih _ _ _ _ hbr hst' hrest)
        · exact h.elim
      · skip
        split at h
        · rename_i v ρ1 H' he
          exact op_wp ⟨hd, K, β, hi⟩ hbo he fun a' w' hst' => hKK _ _ (ih _ _ _ _ hbr hst' h)
        · exact h.elim
    · rename_i hg
      rw [guard_sound hi (Oper.inB_guard hbo) hg, if_neg (by simp)]
      exact hKK _ _ (ih _ _ _ _ hbr ⟨by rw [put_defers]; exact hd, K, β, put_skip hi o.dst⟩ h)
    · exact h.elim
end
end Go.Sx
