/-
  The shadow machine, part 14: its rules as equations, for running it by rewriting.
-/
import Derived.Test.YtbgebincgfpanaaSxM
namespace Go.Sx
open Go Go.RowKit

section
variable {P : Program} {Q : Exit → Env → Heap → Prop} {K : Env → Heap → Prop} {KD : Env → Prop} {ρ : Env} {H : Heap} {ops : Array Oper} {rest : List Oper}

theorem cw_skip : codeW P .skip Q ρ H = Q .normal ρ H := (rfl)
theorem cw_ret : codeW P .ret Q ρ H = Q .ret ρ H := (rfl)
theorem cw_exit {id : Nat} : codeW P (.exit id) Q ρ H = Q (.exit id) ρ H := (rfl)
theorem cw_seq {a b : Code} : codeW P (.seq a b) Q ρ H = codeW P a (thenS (codeW P b Q) Q) ρ H := (rfl)
theorem cw_block {id : Nat} {c : Code} : codeW P (.block id c) Q ρ H = codeW P c (inBlockS id Q) ρ H := (rfl)
theorem cw_region {id : Nat} {l : List Oper} : codeW P (.region id l.toArray false) Q ρ H = opsW P l.toArray l (Q .normal) ρ H := (rfl)
theorem th_normal {n : Env → Heap → Prop} : thenS n Q .normal ρ H = n ρ H := (rfl)
theorem th_ret {n : Env → Heap → Prop} : thenS n Q .ret ρ H = Q .ret ρ H := (rfl)
theorem th_exit {n : Env → Heap → Prop} {id : Nat} : thenS n Q (.exit id) ρ H = Q (.exit id) ρ H := (rfl)
theorem ib_normal {id : Nat} : inBlockS id Q .normal ρ H = Q .normal ρ H := (rfl)
theorem ib_ret {id : Nat} : inBlockS id Q .ret ρ H = Q .ret ρ H := (rfl)
theorem ib_exit {id id' : Nat} : inBlockS id Q (.exit id') ρ H = if id' = id then Q .normal ρ H else Q (.exit id') ρ H := (rfl)
theorem rs_normal {rs : List ResultVar} {m : Nat} {v : SV} {H' : Heap} : retS P rs m v H' .normal ρ H = (retE P rs ρ H = some v ∧ Drops m H v H') := (rfl)
theorem rs_ret {rs : List ResultVar} {m : Nat} {v : SV} {H' : Heap} : retS P rs m v H' .ret ρ H = (retE P rs ρ H = some v ∧ Drops m H v H') := (rfl)
theorem ow_nil : opsW P ops [] K ρ H = K ρ H := (rfl)
theorem upd_at {d : Nat} {v : SV} {i : Nat} : upd ρ d v i = if i = d then v else ρ i := (rfl)
theorem ve_tmp {t : Nat} : valE ρ (.tmp t) = some (ρ t) := (rfl)
theorem ve_func {f : Nat} : valE ρ (.func f) = some (.fn (.func f) [] []) := (rfl)
theorem ve_bool {b : Bool} : valE ρ (.const (.bool b)) = some (.bool b) := (rfl)
theorem ve_int {k : IntKind} {n : Int} : valE ρ (.const (.int k n)) = some (.int k n) := (rfl)
theorem ve_str {s : ByteArray} : valE ρ (.const (.string s)) = some (.str s.data.toList) := (rfl)
theorem ve_nil : valE ρ (.const (.slice none 0 0)) = some (.lst none 1 []) := (rfl)


theorem cw_loop {c : Code} (I : Nat → Env → Heap → Prop) (n : Nat) (h0 : I n ρ H) (round : ∀ n ρ H, I n ρ H → codeW P c (thenS (fun ρ' H' => ∃ m, m < n ∧ I m ρ' H') Q) ρ H) : codeW P (.loop c) Q ρ H := loop_inv I n h0 round

variable {d : Nat} {ty : TypeId} {pos : String} {af : Array Edge} {gd : Option (Nat × Bool)}

/-- A call, left to be met by a contract. -/
def CallW (P : Program) (f : FuncId) (args : List SV) (ops : Array Oper) (rest : List Oper) (K : Env → Heap → Prop) (ρ : Env) (d : Option Nat) (H : Heap) : Prop :=
  ∃ v H', SC P f args H v H' ∧ opsW P ops rest K (putE ρ d v) H'

theorem CallW.ofG {f : FuncId} {e : TypeId} {k : Nat} {cs : List SV} {args : List SV} {d : Option Nat} {v : SV} {H' : Heap} (h : SC P f (.lst none k cs :: args) H v H') (k' : opsW P ops rest K (putE ρ d v) H') :
    CallW P f (.lst (some e) k cs :: args) ops rest K ρ d H := ⟨v, H', h.grant, k'⟩

theorem CallW.of {f : FuncId} {args : List SV} {d : Option Nat} {v : SV} {H' : Heap} (h : SC P f args H v H') (k : opsW P ops rest K (putE ρ d v) H') : CallW P f args ops rest K ρ d H := ⟨v, H', h, k⟩

def CallD (P : Program) (f : FuncId) (args : List SV) (ops : Array Oper) (rest : List Oper) (K : Env → Prop) (ρ : Env) (d : Option Nat) (H : Heap) : Prop :=
  ∃ v, SC P f args H v H ∧ textD P ops H rest K (putE ρ d v)

theorem CallD.of {f : FuncId} {args : List SV} {d : Option Nat} {v : SV} (h : SC P f args H v H) (k : textD P ops H rest KD (putE ρ d v)) : CallD P f args ops rest KD ρ d H := ⟨v, h, k⟩

def gOf (s : SV) (want : Bool) : Option Bool :=
  match s with
  | .bool b => some (if want then b else !b)
  | .tup _ => some false
  | _ => none

theorem gs_some {o : Oper} {j : Nat} {want : Bool} {e : Nat} (hg : o.guard = some (j, want)) (h : (ops[j]?).bind (·.dst) = some e) : guardS ops ρ o = gOf (ρ e) want := by
  simp only [guardS, hg, h, gOf]
  cases ρ e <;> first | rfl | (cases want <;> simp)

/-- One operation, its guard met. -/
def stepW (P : Program) (ops : Array Oper) (o : Oper) (rest : List Oper) (K : Env → Heap → Prop) (ρ : Env) (H : Heap) : Prop :=
  if isCall o then match callG ρ o with
    | some (f, args, ρ1) => CallW P f args ops rest K ρ1 o.dst H
    | none => False
  else match opEval P o rest ρ H with
    | some (v, ρ1, H') => opsW P ops rest K (putE ρ1 o.dst v) H'
    | none => False

/-- An operation behind a guard that is not decided yet: the run stands here. -/
def GuardW (P : Program) (b : Bool) (ops : Array Oper) (o : Oper) (rest : List Oper) (K : Env → Heap → Prop) (ρ : Env) (H : Heap) : Prop :=
  (b = true → stepW P ops o rest K ρ H) ∧ (b = false → opsW P ops rest K (putE ρ o.dst (.tup [])) H)

theorem gw_true {o : Oper} : GuardW P true ops o rest K ρ H = stepW P ops o rest K ρ H := by simp [GuardW]
theorem gw_false {o : Oper} : GuardW P false ops o rest K ρ H = opsW P ops rest K (putE ρ o.dst (.tup [])) H := by simp [GuardW]
theorem GuardW.split {b : Bool} {o : Oper} (h1 : b = true → stepW P ops o rest K ρ H) (h2 : b = false → opsW P ops rest K (putE ρ o.dst (.tup [])) H) : GuardW P b ops o rest K ρ H := ⟨h1, h2⟩
theorem GuardW.splitD {p : Prop} [Decidable p] {o : Oper} (h1 : p → stepW P ops o rest K ρ H) (h2 : ¬ p → opsW P ops rest K (putE ρ o.dst (.tup [])) H) : GuardW P (decide p) ops o rest K ρ H :=
  ⟨fun e => h1 (of_decide_eq_true e), fun e => h2 (of_decide_eq_false e)⟩

theorem GuardW.splitN {p : Prop} [Decidable p] {o : Oper} (h1 : ¬ p → stepW P ops o rest K ρ H) (h2 : p → opsW P ops rest K (putE ρ o.dst (.tup [])) H) : GuardW P (decide (¬ p)) ops o rest K ρ H :=
  ⟨fun e => h1 (of_decide_eq_true e), fun e => h2 (by simpa using e)⟩

/-- A branch that is not decided yet. -/
def CondW (P : Program) (b : Bool) (x y : Code) (Q : Exit → Env → Heap → Prop) (ρ : Env) (H : Heap) : Prop := (b = true → codeW P x Q ρ H) ∧ (b = false → codeW P y Q ρ H)

theorem cd_true {x y : Code} : CondW P true x y Q ρ H = codeW P x Q ρ H := by simp [CondW]
theorem cd_false {x y : Code} : CondW P false x y Q ρ H = codeW P y Q ρ H := by simp [CondW]
theorem CondW.split {b : Bool} {x y : Code} (h1 : b = true → codeW P x Q ρ H) (h2 : b = false → codeW P y Q ρ H) : CondW P b x y Q ρ H := ⟨h1, h2⟩
theorem CondW.splitD {p : Prop} [Decidable p] {x y : Code} (h1 : p → codeW P x Q ρ H) (h2 : ¬ p → codeW P y Q ρ H) : CondW P (decide p) x y Q ρ H := ⟨fun e => h1 (of_decide_eq_true e), fun e => h2 (of_decide_eq_false e)⟩

theorem CondW.splitN {p : Prop} [Decidable p] {x y : Code} (h1 : ¬ p → codeW P x Q ρ H) (h2 : p → codeW P y Q ρ H) : CondW P (decide (¬ p)) x y Q ρ H := ⟨fun e => h1 (of_decide_eq_true e), fun e => h2 (by simpa using e)⟩

def condOf (s : Option SV) : Option Bool := match s with
  | some (.bool b) => some b
  | _ => none

theorem cw_cond {c : Operand} {x y : Code} : codeW P (.cond c x y) Q ρ H = (match condOf (valE ρ c) with
    | some b => CondW P b x y Q ρ H
    | none => False) := by
  apply propext
  constructor
  · rintro ⟨b, hb, h⟩
    rw [hb]; exact h
  · intro h
    cases hv : valE ρ c with
    | none => rw [hv] at h; exact h.elim
    | some s =>
      rw [hv] at h
      cases s <;> first | exact h.elim | exact ⟨_, hv, h⟩

theorem not_decide {p : Prop} [Decidable p] : (!decide p) = decide (¬ p) := by simp

/-- An operation without a guard. -/
theorem ow_plain {x : Op} {dst : Option Tmp} : opsW P ops ({ dst := dst, op := x, type := ty, pos := pos, after := af, guard := none } :: rest) K ρ H =
    stepW P ops { dst := dst, op := x, type := ty, pos := pos, after := af, guard := none } rest K ρ H := (rfl)

/-- An operation behind a guard. -/
theorem ow_guard {x : Op} {dst : Option Tmp} {j : Nat} {want : Bool} : opsW P ops ({ dst := dst, op := x, type := ty, pos := pos, after := af, guard := some (j, want) } :: rest) K ρ H =
    (match (((ops[j]?).bind (·.dst)).bind fun e => gOf (ρ e) want) with
    | some b => GuardW P b ops { dst := dst, op := x, type := ty, pos := pos, after := af, guard := some (j, want) } rest K ρ H
    | none => False) := by
  have hh : guardS ops ρ { dst := dst, op := x, type := ty, pos := pos, after := af, guard := some (j, want) } = (((ops[j]?).bind (·.dst)).bind fun e => gOf (ρ e) want) := by
    cases h : (ops[j]?).bind (·.dst) with
    | none => simp [guardS, h]
    | some e => rw [gs_some rfl h]; rfl
  rw [← hh]
  apply propext
  simp only [opsW]
  cases guardS ops ρ { dst := dst, op := x, type := ty, pos := pos, after := af, guard := some (j, want) } with
  | none => exact Iff.rfl
  | some b =>
    cases b
    · dsimp only; simp only [gw_false]
    · dsimp only; rw [gw_true]; exact Iff.rfl

/-- What an operation leaves of the slots, told for running. -/
def effR (s : Option Tmp) (d : Option Tmp) (v : SV) (ρ : Env) : Env := putE (wk ρ s) d v

def stepD (P : Program) (ops : Array Oper) (H : Heap) (o : Oper) (rest : List Oper) (K : Env → Prop) (ρ : Env) : Prop :=
  if isCall o then match callOf (shareE ρ) o with
    | some (f, args) => CallD P f args ops rest K ρ o.dst H
    | none => False
  else match tOp P ops o ρ H with
    | some v => textD P ops H rest K (eff ops o ρ v)
    | none => False

def GuardD (P : Program) (b : Bool) (ops : Array Oper) (H : Heap) (o : Oper) (rest : List Oper) (K : Env → Prop) (ρ : Env) : Prop :=
  (b = true → stepD P ops H o rest K ρ) ∧ (b = false → textD P ops H rest K (putE ρ o.dst (.tup [])))
theorem gd_true {o : Oper} : GuardD P true ops H o rest KD ρ = stepD P ops H o rest KD ρ := by simp [GuardD]
theorem gd_false {o : Oper} : GuardD P false ops H o rest KD ρ = textD P ops H rest KD (putE ρ o.dst (.tup [])) := by simp [GuardD]
theorem GuardD.split {b : Bool} {o : Oper} (h1 : b = true → stepD P ops H o rest KD ρ) (h2 : b = false → textD P ops H rest KD (putE ρ o.dst (.tup []))) : GuardD P b ops H o rest KD ρ := ⟨h1, h2⟩
theorem GuardD.splitD {p : Prop} [Decidable p] {o : Oper} (h1 : p → stepD P ops H o rest KD ρ) (h2 : ¬ p → textD P ops H rest KD (putE ρ o.dst (.tup []))) : GuardD P (decide p) ops H o rest KD ρ :=
  ⟨fun e => h1 (of_decide_eq_true e), fun e => h2 (of_decide_eq_false e)⟩

theorem GuardD.splitN {p : Prop} [Decidable p] {o : Oper} (h1 : ¬ p → stepD P ops H o rest KD ρ) (h2 : p → textD P ops H rest KD (putE ρ o.dst (.tup []))) : GuardD P (decide (¬ p)) ops H o rest KD ρ :=
  ⟨fun e => h1 (of_decide_eq_true e), fun e => h2 (by simpa using e)⟩
theorem td_nil : textD P ops H [] KD ρ = KD ρ := (rfl)

theorem td_plain {x : Op} {dst : Option Tmp} : textD P ops H ({ dst := dst, op := x, type := ty, pos := pos, after := af, guard := none } :: rest) KD ρ =
    stepD P ops H { dst := dst, op := x, type := ty, pos := pos, after := af, guard := none } rest KD ρ := (rfl)

theorem gof_share (s : SV) (want : Bool) : gOf s.share want = gOf s want := by cases s <;> rfl

theorem td_guard {x : Op} {dst : Option Tmp} {j : Nat} {want : Bool} : textD P ops H ({ dst := dst, op := x, type := ty, pos := pos, after := af, guard := some (j, want) } :: rest) KD ρ =
    (match (((ops[j]?).bind (·.dst)).bind fun e => gOf (ρ e) want) with
    | some b => GuardD P b ops H { dst := dst, op := x, type := ty, pos := pos, after := af, guard := some (j, want) } rest KD ρ
    | none => False) := by
  have hh : guardS ops (shareE ρ) { dst := dst, op := x, type := ty, pos := pos, after := af, guard := some (j, want) } = (((ops[j]?).bind (·.dst)).bind fun e => gOf (ρ e) want) := by
    cases h : (ops[j]?).bind (·.dst) with
    | none => simp [guardS, h]
    | some e => rw [gs_some rfl h]; exact gof_share _ _
  rw [← hh]
  apply propext
  simp only [textD]
  cases guardS ops (shareE ρ) { dst := dst, op := x, type := ty, pos := pos, after := af, guard := some (j, want) } with
  | none => exact Iff.rfl
  | some b =>
    cases b
    · dsimp only; simp only [gd_false]
    · dsimp only; rw [gd_true]; exact Iff.rfl

def atH (K : Env → Heap → Prop) (H : Heap) : Env → Prop := fun ρ => K ρ H

theorem td_end {H' : Heap} : textD P ops H [] (atH K H') ρ = K ρ H' := (rfl)

/-- A region whose order is open. -/
theorem cw_draw {id : Nat} {l : List Oper} : codeW P (.region id l.toArray true) Q ρ H = (drawOk l.toArray = true ∧ textD P l.toArray H l (atH (Q .normal) H) ρ) := by
  show (if true = true then _ else _) = _
  rw [if_pos rfl]
  rfl

theorem shE_at {i : Nat} : shareE ρ i = (ρ i).share := (rfl)
theorem wk_some {s : Nat} : wk ρ (some s) = upd ρ s (ρ s).share := (rfl)
theorem wk_none : wk ρ none = ρ := (rfl)

theorem drops_same {m : Nat} {v : SV} : Drops m H v H = True := by simp [Drops]
end
end Go.Sx
