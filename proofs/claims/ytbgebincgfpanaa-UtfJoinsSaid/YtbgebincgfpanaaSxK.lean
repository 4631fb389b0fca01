/-
  The shadow machine, part 11: regions whose order is open.
-/
import Derived.Test.YtbgebincgfpanaaSxJ
import Derived.Still
namespace Go.Sx
open Go Go.RowKit

/-- One operation of a region whose order is open: it writes its own slot alone. -/
def opEvalD (P : Program) (o : Oper) (ρ : Env) (H : Heap) : Option SV :=
  match o.op with
  | .buildSlice _ _ _ => (opEval P o [] ρ H).map fun r => r.1
  | .makeSlice _ _ _ => (opEval P o [] ρ H).map fun r => r.1
  | .build _ _ => (opEval P o [] ρ H).map fun r => r.1
  | _ => pureEval P o ρ H

/-- All rights to append left aside. -/
def shareE (ρ : Env) : Env := fun i => (ρ i).share

/-- The slot whose right to append an operation takes. -/
def fsOf (ops : Array Oper) (o : Oper) : Option Tmp :=
  match o.op with
  | .move (.tmp s) => if takenIn o.dst ops.toList then some s else none
  | .assign (.tmp s) => some s
  | .call c => match c.callee, c.args.toList with
    | .builtin .append, .tmp t :: _ => some t
    | _, _ => none
  | _ => none

def appendT (P : Program) (c : Call) (s : SV) (ρ : Env) : Option SV :=
  match c.args.toList, c.argTypes.toList with
  | [_, x], [t, tx] => match s, P.underlying t, valE (shareE ρ) x with
    | .lst (some e) k cs, some (.slice e'), some sx => match srcCells k sx with
      | some (_, cs2) => if e = e' ∧ elemOk P e k = true ∧ srcTy P tx sx = true ∧ Room (cs.length + cs2.length) then some (.lst (some e) k (cs ++ cs2)) else none
      | none => none
    | _, _, _ => none
  | _, _ => none

/-- The value of an operation of a region whose order is open. -/
def tOp (P : Program) (ops : Array Oper) (o : Oper) (ρ : Env) (H : Heap) : Option SV :=
  match fsOf ops o with
  | some s => match o.op with
    | .move _ => some (ρ s)
    | .assign _ => some (ρ s)
    | .call c => appendT P c (ρ s) ρ
    | _ => none
  | none => opEvalD P o (shareE ρ) H

def wk (ρ : Env) (s : Option Tmp) : Env := match s with
  | some s => upd ρ s (ρ s).share
  | none => ρ

/-- What an operation does to the slots. -/
def eff (ops : Array Oper) (o : Oper) (ρ : Env) (v : SV) : Env := putE (wk ρ (fsOf ops o)) o.dst v

def fsNodup (ops : Array Oper) : Bool := decide (ops.toList.filterMap (fsOf ops)).Nodup

def opD (P : Program) (ops : Array Oper) (o : Oper) (ρ : Env) (H : Heap) (v : SV) : Prop :=
  match guardS ops (shareE ρ) o with
  | some true => if isCall o then ∃ f args, callOf (shareE ρ) o = some (f, args) ∧ SC P f args H v H else tOp P ops o ρ H = some v
  | some false => v = .tup []
  | none => False

/-- What an operation leaves of the slots: behind a guard that isn't met nothing is taken. -/
def effG (ops : Array Oper) (o : Oper) (ρ : Env) (v : SV) : Env :=
  match guardS ops (shareE ρ) o with
  | some true => eff ops o ρ v
  | _ => putE ρ o.dst v

def textD (P : Program) (ops : Array Oper) (H : Heap) : List Oper → (Env → Prop) → Env → Prop
  | [], K, ρ => K ρ
  | o :: rest, K, ρ =>
    match guardS ops (shareE ρ) o with
    | some true =>
      if isCall o then match callOf (shareE ρ) o with
        | some (f, args) => ∃ v, SC P f args H v H ∧ textD P ops H rest K (putE ρ o.dst v)
        | none => False
      else match tOp P ops o ρ H with
        | some v => textD P ops H rest K (eff ops o ρ v)
        | none => False
    | some false => textD P ops H rest K (putE ρ o.dst (.tup []))
    | none => False

theorem fsOf_call {ops : Array Oper} {o : Oper} (h : isCall o = true) : fsOf ops o = none := by
  unfold isCall at h
  unfold fsOf
  split at h
  · rename_i c ho
    split at h
    · rename_i f hf
      simp [ho, hf]
    · cases h
  · cases h

theorem textD_cons {P : Program} {ops : Array Oper} {H : Heap} {o : Oper} {rest : List Oper} {K : Env → Prop} {ρ : Env} (h : textD P ops H (o :: rest) K ρ) :
    ∃ v, opD P ops o ρ H v ∧ textD P ops H rest K (effG ops o ρ v) := by
  simp only [textD] at h
  unfold opD effG
  split at h
  · rename_i hg
    split at h
    · rename_i hc
      split at h
      · rename_i f args hcl
        obtain ⟨v, h1, h2⟩ := h
        refine ⟨v, ?_, ?_⟩
        · rw [if_pos hc]; exact ⟨f, args, hcl, h1⟩
        · simp only [hg, eff, fsOf_call hc, wk]
          exact h2
      · exact h.elim
    · rename_i hc
      split at h
      · rename_i v he
        exact ⟨v, by rw [if_neg hc]; exact he, by simp only [hg]; exact h⟩
      · exact h.elim
  · rename_i hg
    exact ⟨.tup [], rfl, by simp only [hg]; exact h⟩
  · exact h.elim

section
variable {P : Program} {ops : Array Oper} {H : Heap} {md : Region.Mode}

theorem fillS_congr {ρ ρ' : Env} {place : Nat → Option (Nat × Nat)} : ∀ (parts : List (Nat × Operand)) (cs : List SV), (∀ p ∈ parts, valE ρ p.2 = valE ρ' p.2) → fillS ρ place cs parts = fillS ρ' place cs parts := by
  intro parts
  induction parts with
  | nil => intro cs _; rfl
  | cons p rest ih =>
    intro cs h
    obtain ⟨i, x⟩ := p
    have hx := h (i, x) (List.mem_cons_self ..)
    simp only at hx
    simp only [fillS, hx]
    split
    · split
      · exact ih _ fun p hp => h p (List.mem_cons_of_mem _ hp)
      · rfl
    · rfl

theorem mapM_congr {ρ ρ' : Env} : ∀ (l : List Operand), (∀ x ∈ l, valE ρ x = valE ρ' x) → l.mapM (valE ρ) = l.mapM (valE ρ') := by
  intro l
  induction l with
  | nil => intro _; rfl
  | cons x l ih =>
    intro h
    simp only [List.mapM_cons, h x (List.mem_cons_self ..), ih fun y hy => h y (List.mem_cons_of_mem _ hy)]

theorem opEvalD_congr {o : Oper} {ρ ρ' : Env} (h : ∀ x ∈ o.op.operands, valE ρ x = valE ρ' x) : opEvalD P o ρ H = opEvalD P o ρ' H := by
  unfold opEvalD
  cases ho : o.op
  case buildSlice t len parts =>
    have hp : ∀ p ∈ parts.toList, valE ρ p.2 = valE ρ' p.2 := fun p hp => h p.2 (by simp only [ho, Op.operands, List.mem_toArray, List.mem_map]; exact ⟨p, hp, rfl⟩)
    simp only [opEval, ho]
    split <;> try rfl
    split <;> try rfl
    split <;> try rfl
    rw [fillS_congr parts.toList _ hp]
    cases fillS ρ' _ _ parts.toList <;> rfl
  case makeSlice t x y =>
    simp only [opEval, ho, h x (by simp [ho, Op.operands]), h y (by simp [ho, Op.operands])]
    split <;> try rfl
    split <;> try rfl
    split <;> rfl
  case build t parts =>
    have hp : ∀ p ∈ parts.toList, valE ρ p.2 = valE ρ' p.2 := fun p hp => h p.2 (by simp only [ho, Op.operands, List.mem_toArray, List.mem_map]; exact ⟨p, hp, rfl⟩)
    simp only [opEval, ho]
    split <;> try rfl
    · rw [fillS_congr parts.toList _ hp]
      cases fillS ρ' _ _ parts.toList <;> rfl
    · rw [fillS_congr parts.toList _ hp]
      cases fillS ρ' _ _ parts.toList <;> rfl
  case slice t x lo hi mx =>
    have hb : ∀ (l : Option Operand) d, (∀ y, l = some y → valE ρ y = valE ρ' y) → boundE ρ l d = boundE ρ' l d := by
      intro l d hl
      cases l with
      | none => rfl
      | some y => simp only [boundE, hl y rfl]
    simp only [pureEval, ho, h x (by simp [ho, Op.operands])]
    simp only [hb lo _ (fun y hy => h y (by subst hy; simp [ho, Op.operands])), hb hi _ (fun y hy => h y (by subst hy; simp [ho, Op.operands]))]
  case makeFunc f p q =>
    simp only [pureEval, ho, mapM_congr p.toList (fun x hx => h x (by simp only [ho, Op.operands]; exact Array.mem_append.2 (.inl (Array.mem_toList_iff.1 hx)))),
      mapM_congr q.toList (fun x hx => h x (by simp only [ho, Op.operands]; exact Array.mem_append.2 (.inr (Array.mem_toList_iff.1 hx))))]
  case call c =>
    simp only [pureEval, ho, callE]
    split
    · split
      · rename_i x t hargs htys
        rw [h x (by simp only [ho, Op.operands, Call.operands]; exact Array.mem_append.2 (.inr (Array.mem_toList_iff.1 (by rw [hargs]; simp))))]
      · rfl
    · rfl
  case pick c x y => simp only [pureEval, ho, h c (by simp [ho, Op.operands]), h x (by simp [ho, Op.operands]), h y (by simp [ho, Op.operands])]
  case binOp op t x y u => simp only [pureEval, ho, h x (by simp [ho, Op.operands]), h y (by simp [ho, Op.operands])]
  case indexAddr t x i => simp only [pureEval, ho, h x (by simp [ho, Op.operands]), h i (by simp [ho, Op.operands])]
  case index t x i => simp only [pureEval, ho, h x (by simp [ho, Op.operands]), h i (by simp [ho, Op.operands])]
  case move x => simp only [pureEval, ho, h x (by simp [ho, Op.operands])]
  case assign x => simp only [pureEval, ho, h x (by simp [ho, Op.operands])]
  case unOp op t x => simp only [pureEval, ho, h x (by simp [ho, Op.operands])]
  case convert s d x => simp only [pureEval, ho, h x (by simp [ho, Op.operands])]
  case extract x i => simp only [pureEval, ho, h x (by simp [ho, Op.operands])]
  case nilCheck x => simp only [pureEval, ho, h x (by simp [ho, Op.operands])]
  case fieldAddr t x f => simp only [pureEval, ho, h x (by simp [ho, Op.operands])]
  case field t x f => simp only [pureEval, ho, h x (by simp [ho, Op.operands])]
  case load t x => simp only [pureEval, ho, h x (by simp [ho, Op.operands])]
  all_goals simp only [pureEval, ho]

theorem callOf_congr {o : Oper} {ρ ρ' : Env} (h : ∀ x ∈ o.op.operands, valE ρ x = valE ρ' x) : callOf ρ o = callOf ρ' o := by
  unfold callOf
  split
  · rename_i c ho
    unfold calledOf
    split
    · rename_i f hf
      rw [h f (by simp [ho, Op.operands, Call.operands, hf])]
      unfold argsOf
      rw [mapM_congr c.args.toList (fun x hx => h x (by simp only [ho, Op.operands, Call.operands]; exact Array.mem_append.2 (.inr (Array.mem_toList_iff.1 hx))))]
    · rfl
  · rfl

theorem valE_put {ρ : Env} {d : Option Tmp} {v : SV} {x : Operand} (h : ∀ t, d = some t → x ≠ .tmp t) : valE (putE ρ d v) x = valE ρ x := by
  cases d with
  | none => rfl
  | some t =>
    cases x with
    | tmp u =>
      have hne : u ≠ t := fun e => h t rfl (by rw [e])
      simp [valE, putE, upd, hne]
    | _ => rfl

theorem share_share (s : SV) : s.share.share = s.share := by
  cases s with
  | tup vs =>
    rw [SV.share_tup, SV.share_tup, List.map_map]
    congr 1
    apply List.map_congr_left
    intro a _
    cases a <;> rfl
  | _ => rfl

theorem shareE_wk {ρ : Env} {s : Option Tmp} : shareE (wk ρ s) = shareE ρ := by
  cases s with
  | none => rfl
  | some s =>
    funext i
    simp only [shareE, wk, upd]
    split
    · rename_i e; subst e; exact share_share _
    · rfl

theorem shareE_put {ρ : Env} {d : Option Tmp} {v : SV} : shareE (putE ρ d v) = putE (shareE ρ) d v.share := by
  cases d with
  | none => rfl
  | some t =>
    funext i
    simp only [shareE, putE, upd]
    split <;> rfl

theorem shareE_effG {o : Oper} {ρ : Env} {v : SV} : shareE (effG ops o ρ v) = putE (shareE ρ) o.dst v.share := by
  unfold effG
  split
  · rw [eff, shareE_put, shareE_wk]
  · rw [shareE_put]

theorem guardS_put {o : Oper} {ρ : Env} {d : Option Tmp} {v : SV} (h : ∀ t, d = some t → t ∉ o.looksAt ops) : guardS ops (putE ρ d v) o = guardS ops ρ o := by
  unfold guardS
  cases hg : o.guard with
  | none => rfl
  | some p =>
    obtain ⟨j, want⟩ := p
    simp only
    cases hd : (ops[j]?).bind (·.dst) with
    | none => rfl
    | some e =>
      simp only
      cases d with
      | none => rfl
      | some t =>
        have hne : e ≠ t := fun he => h t rfl (by
          unfold Oper.looksAt
          rw [hg]
          simp only [hd]
          exact List.mem_append.2 (.inr (by simp [he])))
        simp [putE, upd, hne]

theorem operand_apart {o : Oper} {t : Tmp} (h : t ∉ o.looksAt ops) {x : Operand} (hx : x ∈ o.op.operands) : x ≠ .tmp t := by
  intro e
  subst e
  refine h (List.mem_append.2 (.inl (List.mem_filterMap.2 ⟨.tmp t, Array.mem_toList_iff.2 hx, rfl⟩)))

theorem fsOf_operand {o : Oper} {s : Tmp} (h : fsOf ops o = some s) : Operand.tmp s ∈ o.op.operands := by
  unfold fsOf at h
  split at h
  · rename_i s' ho
    split at h <;> cases h
    simp [ho, Op.operands]
  · rename_i s' ho
    cases h
    simp [ho, Op.operands]
  · rename_i c ho
    split at h
    · rename_i t rest hcal hargs
      cases h
      simp only [ho, Op.operands, Call.operands]
      exact Array.mem_append.2 (.inr (Array.mem_toList_iff.1 (by rw [hargs]; simp)))
    · cases h
  · cases h

/-- What one operation does changes nothing for one that is apart from it. -/
theorem opD_eff {oi oj : Oper} {ρ : Env} {u v : SV} (h : ∀ t, oi.dst = some t → t ∉ oj.looksAt ops) (hfs : ∀ s, fsOf ops oi = some s → fsOf ops oj ≠ some s) : opD P ops oj (effG ops oi ρ u) H v ↔ opD P ops oj ρ H v := by
  have hv : ∀ x ∈ oj.op.operands, valE (shareE (effG ops oi ρ u)) x = valE (shareE ρ) x := fun x hx => by
    rw [shareE_effG]; exact valE_put fun t ht => operand_apart (h t ht) hx
  have hs : ∀ s, fsOf ops oj = some s → effG ops oi ρ u s = ρ s := by
    intro s hs
    have hd : ∀ t, oi.dst = some t → s ≠ t := fun t ht e => operand_apart (h t ht) (fsOf_operand hs) (by rw [e])
    have hput : ∀ ρ' : Env, putE ρ' oi.dst u s = ρ' s := by
      intro ρ'
      cases hdst : oi.dst with
      | none => rfl
      | some t => simp [putE, upd, hd t hdst]
    unfold effG
    cases hgi : guardS ops (shareE ρ) oi with
    | none => exact hput ρ
    | some bb =>
    cases bb
    · exact hput ρ
    · simp only [eff]
      rw [hput]
      cases hfi : fsOf ops oi with
      | none => rfl
      | some s' =>
        have hne : s ≠ s' := fun e => hfs s' hfi (by rw [← e]; exact hs)
        simp [wk, upd, hne]
  have ht : tOp P ops oj (effG ops oi ρ u) H = tOp P ops oj ρ H := by
    unfold tOp
    cases hf : fsOf ops oj with
    | none => exact opEvalD_congr hv
    | some s =>
      simp only
      rw [hs s hf]
      split
      · rfl
      · rfl
      · rename_i c ho
        unfold appendT
        split
        · rename_i x0 x t tx hargs htys
          rw [hv x (by simp only [ho, Op.operands, Call.operands]; exact Array.mem_append.2 (.inr (Array.mem_toList_iff.1 (by rw [hargs]; simp))))]
        · rfl
      · rfl
  have hg : guardS ops (shareE (effG ops oi ρ u)) oj = guardS ops (shareE ρ) oj := by rw [shareE_effG]; exact guardS_put h
  unfold opD
  rw [hg, callOf_congr hv, ht]

theorem eff_comm {oi oj : Oper} {ρ : Env} {u v : SV} (h1 : ∀ t, oi.dst = some t → t ∉ oj.looksAt ops) (h2 : ∀ d, oi.dst = some d → oj.dst ≠ some d) (h3 : ∀ t, oj.dst = some t → t ∉ oi.looksAt ops) :
    effG ops oj (effG ops oi ρ u) v = effG ops oi (effG ops oj ρ v) u := by
  have g1 : guardS ops (shareE (effG ops oi ρ u)) oj = guardS ops (shareE ρ) oj := by rw [shareE_effG]; exact guardS_put h1
  have g2 : guardS ops (shareE (effG ops oj ρ v)) oi = guardS ops (shareE ρ) oi := by rw [shareE_effG]; exact guardS_put h3
  have pc : ∀ (ρ : Env) (u v : SV), putE (putE ρ oi.dst u) oj.dst v = putE (putE ρ oj.dst v) oi.dst u := by
    intro ρ u v
    cases hi : oi.dst with
    | none => rfl
    | some t =>
      cases hj : oj.dst with
      | none => rfl
      | some s =>
        have hne : t ≠ s := fun he => h2 t hi (by rw [hj, he])
        funext i
        simp only [putE, upd]
        split
        · rename_i h1; subst h1; rw [if_neg (Ne.symm hne)]
        · rfl
  have wp : ∀ (o : Oper) (d : Option Tmp) (ρ : Env) (u : SV), (∀ t, d = some t → t ∉ o.looksAt ops) → wk (putE ρ d u) (fsOf ops o) = putE (wk ρ (fsOf ops o)) d u := by
    intro o d ρ u hd
    cases hf : fsOf ops o with
    | none => rfl
    | some s =>
      cases d with
      | none => rfl
      | some t =>
        have hne : s ≠ t := fun e => operand_apart (hd t rfl) (fsOf_operand hf) (by rw [e])
        funext i
        simp only [wk, putE, upd, if_neg hne]
        split
        · rename_i e; subst e; rw [if_neg hne]
        · rfl
  have ww : ∀ (ρ : Env) (s t : Option Tmp), wk (wk ρ s) t = wk (wk ρ t) s := by
    intro ρ s t
    cases s with
    | none => rfl
    | some s =>
      cases t with
      | none => rfl
      | some t =>
        funext i
        simp only [wk, upd]
        by_cases e1 : i = t
        · subst e1
          by_cases e2 : i = s
          · subst e2; simp
          · simp [e2]
        · by_cases e2 : i = s
          · subst e2; simp [e1]
          · simp [e1, e2]
  unfold effG at g1 g2 ⊢
  rw [g1, g2]
  cases hgi : guardS ops (shareE ρ) oi with
  | none =>
    cases hgj : guardS ops (shareE ρ) oj with
    | none => exact pc _ _ _
    | some b =>
      cases b
      · exact pc _ _ _
      · simp only [eff]; rw [wp oj oi.dst _ _ h1]; exact pc _ _ _
  | some b' =>
    cases b'
    · cases hgj : guardS ops (shareE ρ) oj with
      | none => exact pc _ _ _
      | some b =>
        cases b
        · exact pc _ _ _
        · simp only [eff]; rw [wp oj oi.dst _ _ h1]; exact pc _ _ _
    · cases hgj : guardS ops (shareE ρ) oj with
      | none => simp only [eff]; rw [wp oi oj.dst _ _ h3]; exact pc _ _ _
      | some b =>
        cases b
        · simp only [eff]; rw [wp oi oj.dst _ _ h3]; exact pc _ _ _
        · simp only [eff]; rw [wp oj oi.dst _ _ h1, wp oi oj.dst _ _ h3, ww]; exact pc _ _ _

/-- In whatever order. -/
def anyS (P : Program) (md : Region.Mode) (ops : Array Oper) (H : Heap) (K : Env → Prop) : Nat → Array Bool → Env → Prop
  | 0, listed, ρ => Region.ready md ops listed = [] ∧ K ρ
  | fuel + 1, listed, ρ => (Region.ready md ops listed = [] → K ρ) ∧
    ∀ i ∈ Region.ready md ops listed, ∃ o v, ops[i]? = some o ∧ opD P ops o ρ H v ∧ anyS P md ops H K fuel (listed.setIfInBounds i true) (effG ops o ρ v)

theorem nodup_fs (h : fsNodup ops = true) {i j : Nat} {oi oj : Oper} (hi : ops[i]? = some oi) (hj : ops[j]? = some oj) (hne : j ≠ i) : ∀ s, fsOf ops oi = some s → fsOf ops oj ≠ some s := by
  intro s h1 h2
  simp only [fsNodup, decide_eq_true_eq] at h
  have key : ∀ (l : List Oper) (i j : Nat), l[i]? = some oi → l[j]? = some oj → i < j → ¬ (l.filterMap (fsOf ops)).Nodup := by
    intro l
    induction l with
    | nil => intro i j h; simp at h
    | cons x l ih =>
      intro i j hi hj hlt
      cases i with
      | zero =>
        simp at hi; subst hi
        cases j with
        | zero => omega
        | succ j =>
          rw [List.filterMap_cons_some h1]
          intro hn
          have := (List.nodup_cons.1 hn).1
          exact this (List.mem_filterMap.2 ⟨oj, List.mem_of_getElem? (by simpa using hj), h2⟩)
      | succ i =>
        cases j with
        | zero => omega
        | succ j =>
          have := ih i j (by simpa using hi) (by simpa using hj) (by omega)
          intro hn
          refine this ?_
          cases hx : fsOf ops x with
          | none => rwa [List.filterMap_cons_none hx] at hn
          | some y => rw [List.filterMap_cons_some hx] at hn; exact (List.nodup_cons.1 hn).2
  have key' : ∀ (l : List Oper) (i j : Nat), l[i]? = some oi → l[j]? = some oj → j < i → ¬ (l.filterMap (fsOf ops)).Nodup := by
    intro l
    induction l with
    | nil => intro i j h; simp at h
    | cons x l ih =>
      intro i j hi hj hlt
      cases j with
      | zero =>
        simp at hj; subst hj
        cases i with
        | zero => omega
        | succ i =>
          rw [List.filterMap_cons_some h2]
          intro hn
          have := (List.nodup_cons.1 hn).1
          exact this (List.mem_filterMap.2 ⟨oi, List.mem_of_getElem? (by simpa using hi), h1⟩)
      | succ j =>
        cases i with
        | zero => omega
        | succ i =>
          have := ih i j (by simpa using hi) (by simpa using hj) (by omega)
          intro hn
          refine this ?_
          cases hx : fsOf ops x with
          | none => rwa [List.filterMap_cons_none hx] at hn
          | some y => rw [List.filterMap_cons_some hx] at hn; exact (List.nodup_cons.1 hn).2
  rcases Nat.lt_or_ge i j with hlt | hge
  · exact key ops.toList i j (by simpa using hi) (by simpa using hj) hlt h
  · exact key' ops.toList i j (by simpa using hi) (by simpa using hj) (by omega) h

theorem anyS_first {K : Env → Prop} (hnd : fsNodup ops = true) {i : Nat} {oi : Oper} {v : SV} (hi : ops[i]? = some oi) : ∀ (fuel : Nat) (listed : Array Bool) (ρ : Env),
    (∀ j oj, ops[j]? = some oj → j ≠ i → listed.getD j true = false → (∀ e ∈ oj.after, Region.binds md e = true → e.on ≠ i) → oi.apart ops oj = true) →
    i ∈ Region.ready md ops listed → opD P ops oi ρ H v → anyS P md ops H K fuel (listed.setIfInBounds i true) (effG ops oi ρ v) → anyS P md ops H K (fuel + 1) listed ρ := by
  intro fuel
  induction fuel with
  | zero =>
    intro listed ρ _ hr hy h
    refine ⟨fun h0 => (by rw [h0] at hr; cases hr), fun j hj => ?_⟩
    by_cases hji : j = i
    · subst hji; exact ⟨oi, v, hi, hy, h⟩
    · have := ready_mono hj hji
      rw [h.1] at this
      cases this
  | succ fuel ih =>
    intro listed ρ hfree hr hy h
    refine ⟨fun h0 => (by rw [h0] at hr; cases hr), fun j hj => ?_⟩
    by_cases hji : j = i
    · subst hji; exact ⟨oi, v, hi, hy, h⟩
    · obtain ⟨oj, u, hoj, hdj, hrest⟩ := h.2 j (ready_mono hj hji)
      obtain ⟨hjun, oj', hoj', hall⟩ := mem_ready.1 hj
      rw [hoj] at hoj'; cases hoj'
      have hnot : ∀ e ∈ oj.after, Region.binds md e = true → e.on ≠ i := fun e he hb heq => by
        have h1 := hall e he hb
        have h0 := (mem_ready.1 hr).1
        rw [heq] at h1
        rcases Nat.lt_or_ge i listed.size with h' | h'
        · simp [h'] at h0 h1; rw [h0] at h1; cases h1
        · simp [Array.getElem?_eq_none h'] at h1
      have hap := hfree j oj hoj hji hjun hnot
      obtain ⟨a1, a2, a3⟩ := Oper.apart_spec hap
      have f1 := nodup_fs hnd hi hoj hji
      have f2 := nodup_fs hnd hoj hi (Ne.symm hji)
      refine ⟨oj, u, hoj, (opD_eff a1 f1).1 hdj, ?_⟩
      refine ih (listed.setIfInBounds j true) _ (fun k ok hk hki hun hno => ?_) (ready_mono hr (Ne.symm hji)) ((opD_eff a3 f2).2 hy) ?_
      · refine hfree k ok hk hki ?_ hno
        by_cases hjk : j = k
        · subst hjk; exact hjun
        · rw [getD_set_ne true hjk] at hun; exact hun
      · rw [Array.setIfInBounds_comm _ _ hji, ← eff_comm a1 a2 a3]
        exact hrest

theorem anyS_lex {K : Env → Prop} (hnd : fsNodup ops = true) : ∀ (l : List Oper) (k : Nat) (listed : Array Bool) (ρ : Env), (∀ j, l[j]? = ops[k + j]?) → Region.lexFrom md ops l.length k listed = true → textD P ops H l K ρ → anyS P md ops H K l.length listed ρ
  | [], _, _, _, _, hB, h => ⟨by simpa [Region.lexFrom] using hB, h⟩
  | o :: l, k, listed, ρ, hl, hB, h => by
    have h0 : ops[k]? = some o := by simpa using (hl 0).symm
    simp only [List.length_cons, Region.lexFrom, Bool.and_eq_true] at hB
    obtain ⟨⟨hr, hf⟩, hB'⟩ := hB
    obtain ⟨v, hy, hK⟩ := textD_cons h
    exact anyS_first hnd h0 l.length listed ρ (Region.free_spec h0 hf) (by simpa using hr) hy
      (anyS_lex hnd l (k + 1) _ _ (fun j => by have := hl (j + 1); simpa [Nat.add_assoc, Nat.add_comm 1 j] using this) hB' hK)

variable {F : Fr} {Q : Exit → Act → World → Prop}

theorem opEvalD_opEval {o : Oper} {ρ : Env} {v : SV} {w : World} {K : Nat → Nat} {β : List Nat} {a : Act} (h : Inv F w K β H ρ a.tmps) (hb : Op.inB F.n o.op = true) (he : opEvalD P o ρ H = some v) : OpRes P F o a w (putE ρ o.dst v) H := by
  have pure_case : pureEval P o ρ H = some v → OpRes P F o a w (putE ρ o.dst v) H := fun hp => res_pure h (pure_sound h hb hp)
  have same : ∀ (r : Option (SV × Env × Heap)), opEval P o [] ρ H = r → r.map (fun r => r.1) = some v → (∀ x, r = some x → x.2.1 = ρ ∧ x.2.2 = H) → OpRes P F o a w (putE ρ o.dst v) H := by
    intro r hr hm hx
    cases r with
    | none => cases hm
    | some x =>
      obtain ⟨s, ρ1, H1⟩ := x
      obtain ⟨e1, e2⟩ := hx _ rfl
      simp only at e1 e2
      subst e1; subst e2
      simp at hm
      subst hm
      exact op_sound h hb hr
  unfold opEvalD at he
  split at he
  · rename_i t len parts ho
    refine same _ rfl he fun x hx => ?_
    simp only [opEval, ho] at hx
    split at hx
    · split at hx
      · split at hx
        · cases hm : fillS ρ _ _ parts.toList with
          | none => rw [hm] at hx; cases hx
          | some cs => rw [hm] at hx; cases hx; exact ⟨rfl, rfl⟩
        · cases hx
      · cases hx
    · cases hx
  · rename_i t x y ho
    refine same _ rfl he fun x hx => ?_
    simp only [opEval, ho] at hx
    split at hx
    · split at hx
      · split at hx <;> cases hx
        exact ⟨rfl, rfl⟩
      · cases hx
    · cases hx
  · rename_i t parts ho
    refine same _ rfl he fun x hx => ?_
    simp only [opEval, ho] at hx
    split at hx
    · cases hm : fillS ρ _ _ parts.toList with
      | none => rw [hm] at hx; cases hx
      | some cs => rw [hm] at hx; cases hx; exact ⟨rfl, rfl⟩
    · cases hm : fillS ρ _ _ parts.toList with
      | none => rw [hm] at hx; cases hx
      | some cs => rw [hm] at hx; cases hx; exact ⟨rfl, rfl⟩
    · cases hx
  · exact pure_case he

theorem Inv.share {w : World} {K : Nat → Nat} {β : List Nat} {ρ : Env} {tm : Array Value} (h : Inv F w K β H ρ tm) : Inv F w K β H (shareE ρ) tm :=
  ⟨h.size, fun i hi => (h.rep i hi).share, h.box, fun i p x _ hf => (by simp only [shareE] at hf; rw [not_flag_share] at hf; cases hf), fun i p i' p' x x' b _ _ hf => (by simp only [shareE] at hf; rw [not_flag_share] at hf; cases hf),
    h.kw, h.pre, h.new, h.kk, h.kle, h.cells0, h.os, h.tape, h.output, h.hs, h.old⟩

theorem cells?_share (s : SV) : s.share.cells? = s.cells? := by cases s <;> rfl

theorem fillS_share {ρ : Env} {place : Nat → Option (Nat × Nat)} : ∀ (parts : List (Nat × Operand)) (cs : List SV), fillS (shareE ρ) place cs parts = fillS ρ place cs parts := by
  intro parts
  induction parts with
  | nil => intro cs; rfl
  | cons p rest ih =>
    intro cs
    obtain ⟨i, x⟩ := p
    have hx : (valE (shareE ρ) x).bind SV.cells? = (valE ρ x).bind SV.cells? := by
      cases x <;> first | rfl | exact cells?_share _
    simp only [fillS, hx]
    split
    · split
      · exact ih _
      · rfl
    · rfl

theorem valE_share_int {ρ : Env} {x : Operand} {k : IntKind} {n : Int} (h : valE (shareE ρ) x = some (.int k n)) : valE ρ x = some (.int k n) := by
  cases x with
  | tmp t =>
    simp only [valE, shareE, Option.some.injEq] at h ⊢
    cases hs : ρ t with
    | tup vs => rw [hs, SV.share_tup] at h; cases h
    | lst q k cs => rw [hs] at h; cases h
    | _ => rw [hs] at h; exact h
  | _ => exact h

theorem opEvalD_share {o : Oper} {ρ : Env} {v : SV} {w : World} {K : Nat → Nat} {β : List Nat} {a : Act} (h : Inv F w K β H ρ a.tmps) (hb : Op.inB F.n o.op = true) (he : opEvalD P o (shareE ρ) H = some v) : OpRes P F o a w (putE ρ o.dst v) H := by
  have pure_case : pureEval P o (shareE ρ) H = some v → OpRes P F o a w (putE ρ o.dst v) H := fun hp => res_pure h (pure_sound h.share hb hp)
  unfold opEvalD at he
  split at he
  · rename_i t len parts ho
    refine opEvalD_opEval h hb ?_
    unfold opEvalD
    rw [ho]
    have e : opEval P o [] (shareE ρ) H = (opEval P o [] ρ H).map (fun r => (r.1, shareE ρ, r.2.2)) := by
      simp only [opEval, ho, fillS_share]
      repeat' split
      all_goals first | rfl | (rw [Option.map_map]; rfl)
    rw [e] at he
    rw [← he]
    cases opEval P o [] ρ H <;> rfl
  · rename_i t x y ho
    refine opEvalD_opEval h hb ?_
    unfold opEvalD
    rw [ho]
    have e : ∀ r, opEval P o [] (shareE ρ) H = some r → opEval P o [] ρ H = some (r.1, ρ, H) := by
      intro r hr
      simp only [opEval, ho] at hr ⊢
      split at hr
      · rename_i e k l k' c hu hx hy
        rw [hu, valE_share_int hx, valE_share_int hy]
        simp only
        split at hr
        · split at hr
          · rename_i hc
            rw [if_pos hc]
            cases hr
            rfl
          · cases hr
        · cases hr
      · cases hr
    cases hr : opEval P o [] (shareE ρ) H with
    | none => rw [hr] at he; cases he
    | some r =>
      rw [hr] at he
      rw [e r hr]
      exact he
  · rename_i t parts ho
    refine opEvalD_opEval h hb ?_
    unfold opEvalD
    rw [ho]
    have e : opEval P o [] (shareE ρ) H = (opEval P o [] ρ H).map (fun r => (r.1, shareE ρ, r.2.2)) := by
      simp only [opEval, ho, fillS_share]
      repeat' split
      all_goals first | rfl | (rw [Option.map_map]; rfl)
    rw [e] at he
    rw [← he]
    cases opEval P o [] ρ H <;> rfl
  · exact pure_case he

theorem srcTy_share {tx : TypeId} {s : SV} (h : srcTy P tx s.share = true) : srcTy P tx s = true := by
  cases s with
  | lst q k cs =>
    simp only [SV.share] at h
    unfold srcTy at h ⊢
    cases hu : P.underlying tx with
    | none => rw [hu] at h; cases h
    | some d => rw [hu] at h; cases d <;> first | rfl | cases h
  | tup vs => rw [SV.share_tup] at h; unfold srcTy at h; split at h <;> first | (cases h; done) | (rename_i e _; cases e; done)
  | _ => exact h

theorem srcCells_share (k : Nat) (s : SV) : srcCells k s.share = srcCells k s := by cases s <;> rfl

theorem tOp_sound {o : Oper} {ρ : Env} {v : SV} {w : World} {K : Nat → Nat} {β : List Nat} {a : Act} (h : Inv F w K β H ρ a.tmps) (hb : Op.inB F.n o.op = true) (he : tOp P ops o ρ H = some v) : OpRes P F o a w (eff ops o ρ v) H := by
  unfold tOp at he
  have hb' := hb
  unfold Op.inB at hb'
  rw [Array.all_eq_true_iff_forall_mem] at hb'
  cases hf : fsOf ops o with
  | none =>
    rw [hf] at he
    unfold eff
    rw [hf]
    exact opEvalD_share h hb he
  | some s =>
    rw [hf] at he
    have ht : s < F.n := operand_tmp (hb' _ (fsOf_operand hf))
    unfold eff
    rw [hf]
    simp only [wk]
    simp only at he
    split at he
    · rename_i x ho
      injection he with he
      subst he
      have hx : x = .tmp s := by
        unfold fsOf at hf
        rw [ho] at hf
        cases x <;> simp at hf
        rw [hf.2]
      subst hx
      exact move_all h ht (.inl ho)
    · rename_i x ho
      injection he with he
      subst he
      have hx : x = .tmp s := by
        unfold fsOf at hf
        rw [ho] at hf
        cases x <;> simp at hf
        rw [hf]
      subst hx
      exact move_all h ht (.inr ho)
    · rename_i c ho
      have hcal : c.callee = .builtin .append ∧ ∃ r, c.args.toList = .tmp s :: r := by
        unfold fsOf at hf
        rw [ho] at hf
        simp only at hf
        split at hf
        · rename_i t rest hc1 hc2
          cases hf; exact ⟨hc1, rest, hc2⟩
        · cases hf
      obtain ⟨hcal, r, hargs⟩ := hcal
      unfold appendT at he
      split at he
      · rename_i x0 x t tx ha hty
        rw [hargs] at ha
        injection ha with ha1 ha2
        split at he
        · rename_i e k cs e' sx hv hu hxe
          split at he
          · rename_i m cs2 hsc
            split at he <;> cases he
            rename_i hc
            have hxv : ∃ sx0, valE ρ x = some sx0 ∧ sx = sx0.share := by
              cases x with
              | tmp t => exact ⟨ρ t, rfl, by simpa [valE, shareE] using hxe.symm⟩
              | const c =>
                refine ⟨sx, hxe, ?_⟩
                have := (constSV_rep (w := w) (K := K) (β := β) hxe).2
                cases sx with
                | lst q k cs => cases q with
                  | none => rfl
                  | some e => have := this none; cases this
                | tup vs => have hcc : constSV c = some (.tup vs) := hxe; unfold constSV at hcc; split at hcc <;> cases hcc
                | _ => rfl
              | global g => cases hxe
              | func f => exact ⟨sx, hxe, by cases hxe; rfl⟩
            obtain ⟨sx0, hx0, rfl⟩ := hxv
            have happ : appendE P c ρ = some (.lst (some e) k (cs ++ cs2), upd ρ s (.lst none k cs)) := by
              unfold appendE
              rw [hargs, ha2, hty]
              simp only [hv, hu, hx0]
              rw [srcCells_share] at hsc
              rw [hsc]
              simp only
              rw [if_pos ⟨hc.1, hc.2.1, srcTy_share hc.2.2.1, hc.2.2.2⟩]
            have := append_sound h ho hcal (fun x hx => hb' x (by simp only [ho, Op.operands, Call.operands]; exact Array.mem_append.2 (.inr hx))) happ
            rw [hv]
            exact this
          · cases he
        · cases he
      · cases he
    · cases he

theorem any_sound {KS : Env → Prop} (hQ : ∀ ρ a w, St F ρ H a w → KS ρ → Q .normal a w) (hb : ∀ o ∈ ops.toList, Oper.inB F.n ops o = true) : ∀ (fuel : Nat) (listed : Array Bool) (ρ : Env) (a : Act) (w : World),
    St F ρ H a w → anyS P md ops H KS fuel listed ρ → wpAny P md ops Q fuel listed a w := by
  intro fuel
  induction fuel with
  | zero => intro listed ρ a w hst h; exact ⟨h.1, hQ _ _ _ hst h.2⟩
  | succ fuel ih =>
    intro listed ρ a w hst h
    refine ⟨fun h0 => hQ _ _ _ hst (h.1 h0), fun i hi => ?_⟩
    obtain ⟨o, v, ho, hd, hrest⟩ := h.2 i hi
    have hbo : Oper.inB F.n ops o = true := hb o (Array.mem_toList_iff.2 (Array.mem_of_getElem? ho))
    obtain ⟨hdef, K, β, hinv⟩ := hst
    unfold wpOp
    simp only [ho]
    unfold opD at hd
    unfold effG at hrest
    split at hd
    · rename_i hg
      rw [hg] at hrest
      rw [guard_sound hinv.share (Oper.inB_guard hbo) hg, if_pos rfl]
      refine .inl ?_
      split at hd
      · rename_i hc
        obtain ⟨f, args, hcl, hsc⟩ := hd
        simp only [eff, fsOf_call hc, wk] at hrest
        obtain ⟨vals, hrun, hl, hr, hgr, hx⟩ := callOf_facts (P := P) hinv.share (Oper.inB_op hbo) hcl
        exact call_core hinv hdef (fun i => Weak.refl _) hrun hl hr hgr (fun b e => by rw [hx] at e; cases e) (fun i p y b _ _ _ => by rw [hx]; simp) hsc fun a' w' hst' => ih _ _ _ _ hst' hrest
      · obtain ⟨r, w', K', β', hrun, hinv'⟩ := tOp_sound hinv (Oper.inB_op hbo) hd
        unfold Oper.wp
        rcases hrun with hrun | ⟨hrun, hr⟩
        · rw [hrun]
          exact ih _ _ _ _ ⟨by rw [put_defers]; exact hdef, K', β', hinv'⟩ hrest
        · rw [hrun]
          subst hr
          exact ih _ _ _ _ ⟨by rw [put_defers]; exact hdef, K', β', hinv'⟩ hrest
    · rename_i hg
      rw [hg] at hrest
      rw [guard_sound hinv.share (Oper.inB_guard hbo) hg, if_neg (by simp)]
      subst hd
      exact ih _ _ _ _ ⟨by rw [put_defers]; exact hdef, K, β, put_skip hinv o.dst⟩ hrest
    · exact hd.elim

/-- A region whose order is open may be read in the order of the text. -/
def drawOk (ops : Array Oper) : Bool := Region.lexB .any ops && fsNodup ops

theorem drawn_sound {KS : Env → Prop} (hm : P.follows .mixedOrders = true) (hB : drawOk ops = true) (hQ : ∀ ρ a w, St F ρ H a w → KS ρ → Q .normal a w) (hb : ∀ o ∈ ops.toList, Oper.inB F.n ops o = true) {id : Nat} {ρ : Env} {a : Act} {w : World}
    (hst : St F ρ H a w) (h : textD P ops H ops.toList KS ρ) : (Code.region id ops true).wp P Q a w := by
  simp only [drawOk, Region.lexB, Bool.and_eq_true] at hB
  obtain ⟨hd, K, β, hinv⟩ := hst
  refine wp_region_any hm ?_
  have h2 := anyS_lex (md := .any) hB.2 ops.toList 0 (Array.replicate ops.size false) ρ (by simp) (by simpa using hB.1.2) h
  exact any_sound hQ hb ops.size _ ρ a _ ⟨hd, K, β, hinv.drew⟩ (by simpa using h2)
end
end Go.Sx
