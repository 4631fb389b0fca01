/-
 The second shadow machine, part 11: calls, and regions in the order of the text.
-/
import Derived.Test.YtcapcgbamehojaaGreatDoorSyJ
namespace Go.Sy
open Go Go.RowKit
set_option linter.unusedSimpArgs false
set_option linter.unusedVariables false
set_option linter.unusedSectionVars false
variable [Inhabited GT]
structure Fr where
 n:Nat
 w0:World
 K0:Nat→Nat
 D0:DM
 H0:a0o
 ds:List Deferred
structure Inv (F:Fr) (w:World) (K:Nat→Nat) (D:DM) (H:a0o) (ρ:Env) (tm:Array Value):Prop where
 slots:Slots F.n w K D ρ tm
 hinv:HInv w K D H
 grow:Grow F.w0 F.K0 F.D0 F.H0 w K D H
def St(F:Fr)(ρ:Env)(H:a0o)(a:Act)(w:World):Prop:=a.defers=F.ds∧ ∃K D,Inv F w K D H ρ a.tmps
def c0P(ops:Array Oper)(ρ:Env)(o:Oper):Option Bool:=
 match o.guard with
 |none=>some true
 |some (j,want)=>match(ops[j]?).bind (·.dst)with
  |some d=>match ρ d with
   | .bool b=>some (b==want)
   | .tup _=>some false
   |_=>none
  |none=>none
def n0u(ρ:Env)(c:Call):Option (FuncId×List SV):=
 match c.callee with
 | .value f=>match a0Y ρ f with
  |some (.fn (.func f) first captured)=>(c.args.toList.mapM (a0Y ρ)).map fun l=>(f,first++l++captured)
  |_=>none
 |_=>none
def c0B(o:Oper):Bool:=
 match o.op with
 | .call c=>match c.callee with
  | .value _=>true
  |_=>false
 |_=>false
def g0s(ρ:Env)(o:Oper):Option (FuncId×List SV):=
 match o.op with
 | .call c=>n0u ρ c
 |_=>none
section
variable {P : Program} {F : Fr} {w : World} {K : Nat → Nat} {D : DM} {H : a0o} {ρ : Env} {a : Act} {o : Oper} {ops : Array Oper} {Q : Exit → Act → World → Prop}
theorem b0D(a:Act)(d:Option Tmp)(v:Value):(a.put d v).defers=a.defers:=by cases d<;>rfl
theorem Inv.step(h:Inv F w K D H ρ a.tmps) {r:Value} {w':World} {s:SV} {H':a0o} (g:Good w K D H r w' s H')(d:Option Nat): ∃K' D',Inv F w' K' D' H' (k0U ρ d s) (a.put d r).tmps:=by
 obtain⟨K',D',gr,hi,hr⟩:=g
 exact⟨K',D',⟨(h.slots.mono fun _ _=>gr.rep).put d hr,hi,h.grow.trans gr⟩⟩
theorem c0h(h:Slots F.n w K D ρ a.tmps)(hb: ∀j want d,o.guard=some (j,want)→(ops[j]?).bind (·.dst)=some d→d<F.n) {b:Bool} (hg:c0P ops ρ o=some b):Region.wanted o (yielded ops a.tmps)=b:=by
 unfold c0P at hg
 unfold Region.wanted
 cases hgd:o.guard with
 |none=>rw[hgd]at hg;cases hg;rfl
 |some p=>
  obtain⟨j,want⟩:=p
  rw[hgd]at hg
  simp only at hg⊢
  cases hd:(ops[j]?).bind (·.dst)with
  |none=>rw[hd]at hg;cases hg
  |some d=>
   rw[hd]at hg
   simp only at hg
   have hdn:=hb j want d hgd hd
   have hr:=h.rep d hdn
   have hdt:d<a.tmps.size:=by rw[h.size];exact hdn
   have hget:a.tmps[d]?=some (a.tmps.getD d undef):=by simp[Array.getD,hdt]
   unfold yielded
   rw[hd]
   simp only[aa,hget]
   split at hg
   ·rename_i b' hv
    cases hg
    rw[hv]at hr
    generalize a.tmps.getD d undef=x at hr
    cases hr
    simp
   ·rename_i vs hv
    cases hg
    rw[hv]at hr
    generalize a.tmps.getD d undef=x at hr
    cases hr
    rfl
   ·cases hg
theorem z0W {n:Nat} (h:Slots n w K D ρ a.tmps): ∀(l:List Operand) (r:List SV),(∀x∈l,Operand.inB n x=true)→l.mapM (a0Y ρ)=some r→r.length=(l.map a.eval).length∧
  ∀(j:Nat) (v:Value) (c:SV),(l.map a.eval)[j]?=some v→r[j]?=some c→Rep w K D v c:=by
 intro l
 induction l with
 |nil=>intro r _ hr;simp at hr;subst hr;exact⟨rfl,fun j v c e=>by simp at e⟩
 |cons x l ih=>
  intro r hb hr
  simp only[cv]at hr
  cases hx1:a0Y ρ x with
  |none=>rw[hx1]at hr;cases hr
  |some s1=>
   rw[hx1]at hr
   cases hr1:l.mapM (a0Y ρ)with
   |none=>rw[hr1]at hr;cases hr
   |some r1=>
    rw[hr1]at hr
    cases hr
    obtain⟨i1,i2⟩:=ih r1 (fun y hy=>hb y (ao _ hy)) hr1
    refine⟨by simpa using i1,fun j v c hv hc=> ?_⟩
    cases j with
    |zero=>simp at hv hc;subst hv;subst hc;exact a0j h (hb x (ar ..)) hx1
    |succ j=>exact i2 j v c (by simpa using hv) (by simpa using hc)
theorem q0D {c:Call} {f:FuncId} {fo:Operand} {fs caps:Array Value} (ho:o.op= .call c)(hcal:c.callee= .value fo)(hfv:a.eval fo= .func (.func f) fs caps)(hc:c0N P f=true):
  (execOp a.eval o).run P w= .ok (.enter f (fs.toList++c.args.toList.map a.eval++caps.toList).toArray) w:=by
 unfold c0N at hc
 cases hfn:P.funcs[f]? with
 |none=>rw[hfn]at hc;cases hc
 |some fn=>
  rw[hfn]at hc
  simp only[ac,Bool.not_eq_true']at hc
  unfold execOp
  simp only[ho,resolve,hcal,hfv,Deferred.ofValue,invoke,Sem.run_bind,Sem.run_pure,Result.andThen_ok,callFunc,run_program,hfn,hc.2,aE,if_false]
  have hbs:fn.body.isNone=false:=by cases hbd:fn.body<;>simp[hbd]at hc⊢
  rw[hbs]
  simp only[aE,if_false,Sem.run_pure]
  congr 2
  apply Array.ext'
  simp
theorem m0S {n:Nat} (h:Slots n w K D ρ a.tmps)(hb:Op.inB n o.op=true) {f:FuncId} {args:List SV} (hc:g0s ρ o=some (f,args)):
  ∃vals:List Value,(c0N P f=true→(execOp a.eval o).run P w= .ok (.enter f vals.toArray) w)∧vals.length=args.length∧(∀(j:Nat) (x:Value) (c:SV),vals[j]?=some x→args[j]?=some c→Rep w K D x c):=by
 unfold g0s at hc
 split at hc
 ·rename_i c ho
  unfold n0u at hc
  split at hc
  ·rename_i fo hcal
   split at hc
   ·rename_i f' first captured hfe
    cases hl:c.args.toList.mapM (a0Y ρ)with
    |none=>rw[hl]at hc;cases hc
    |some l=>
     rw[hl]at hc;cases hc
     unfold Op.inB at hb
     rw[bp]at hb
     have hfr:=a0j h (hb fo (by simp[ho,Op.operands,Call.operands,hcal])) hfe
     generalize hfv:a.eval fo=fv at hfr
     cases hfr with
     |fn _ fs caps _ _ hc1 hc2 hr1 hr2=>
      obtain⟨l1,l2⟩:=z0W h c.args.toList l (fun x hx=>hb x (by simp only[ho,Op.operands,Call.operands];exact bS.2 (.inr (aS.1 hx)))) hl
      refine⟨fs++c.args.toList.map a.eval++caps,fun hcb=>by simpa using q0D (P:=P) (w:=w) ho hcal hfv hcb,by simp[hc1,hc2];simpa using l1.symm,fun j x y0 hx hy0=> ?_⟩
      rw[aD]at hx hy0
      have hle:(first++l).length=(fs++c.args.toList.map a.eval).length:=by simp only[ag];omega
      rw[hle]at hy0
      split at hx
      ·rename_i hj
       rw[if_pos hj]at hy0
       rw[aD]at hx hy0
       rw[hc1]at hy0
       split at hx
       ·rename_i hj2;rw[if_pos hj2]at hy0;exact hr1 j x y0 hx hy0
       ·rename_i hj2;rw[if_neg hj2]at hy0;exact l2 _ x y0 hx hy0
      ·rename_i hj;rw[if_neg hj]at hy0;exact hr2 _ x y0 hx hy0
   ·cases hc
  ·cases hc
 ·cases hc
theorem o0w(h:Inv F w K D H ρ a.tmps)(hd:a.defers=F.ds)(hb:Op.inB F.n o.op=true) {f:FuncId} {args:List SV} (hc:g0s ρ o=some (f,args)) {v:SV} {H':a0o} (hs:SC P f args H v H')
  {KR:Act→World→Prop} (hK: ∀a' w',St F (k0U ρ o.dst v) H' a' w'→KR a' w'):o.wp P a w KR Q:=by
 obtain⟨vals,hrun,hl,hr⟩:=m0S (P:=P) h.slots hb hc
 unfold Oper.wp
 rw[hrun hs.1]
 refine(hs.2 w K D vals hl hr h.hinv h.slots.glob).mono ?_
 rintro e w' ⟨r,rfl,g⟩
 exact hK _ _ ⟨by rw[b0D];exact hd,h.step g o.dst⟩
theorem v0C(h:Inv F w K D H ρ a.tmps)(hd:a.defers=F.ds)(hb:Op.inB F.n o.op=true) {idx:Nat} (hidx:CanNew H idx) {ef:Eff} (he:a0Z P o ρ H idx=some ef)
  {KR:Act→World→Prop} (hK: ∀a' w',St F (k0U ρ o.dst ef.v) (b0M H ef.wr) a' w'→KR a' w'):o.wp P a w KR Q:=by
 obtain⟨r,w',hrun,g⟩:=t0p h.hinv h.slots hb hidx he
 unfold Oper.wp
 rcases hrun with hrun|⟨hrun,hr⟩
 ·rw[hrun]
  exact hK _ _ ⟨by rw[b0D];exact hd,h.step g o.dst⟩
 ·rw[hrun]
  subst hr
  exact hK _ _ ⟨by rw[b0D];exact hd,h.step g o.dst⟩
theorem t0n(h:Inv F w K D H ρ a.tmps)(d:Option Nat):Inv F w K D H (k0U ρ d (.tup [])) (a.put d undef).tmps:=
 ⟨h.slots.put d (.tup [] [] rfl (fun j v c e=>by simp at e)),h.hinv,h.grow⟩
def Oper.inB(n:Nat)(ops:Array Oper)(o:Oper):Bool:=
 Op.inB n o.op&&(match o.guard with
  |none=>true
  |some (j,_)=>match(ops[j]?).bind (·.dst)with
   |some d=>decide (d<n)
   |none=>true)
theorem Oper.inB_guard {n:Nat} (h:Oper.inB n ops o=true): ∀j want d,o.guard=some (j,want)→(ops[j]?).bind (·.dst)=some d→d<n:=by
 intro j want d hg hd
 unfold Oper.inB at h
 rw[hg]at h
 simp only[ac]at h
 have:=h.2
 rw[hd]at this
 simpa using this
theorem Oper.inB_op {n:Nat} (h:Oper.inB n ops o=true):Op.inB n o.op=true:=by
 unfold Oper.inB at h
 simp only[ac]at h
 exact h.1
end
end Go.Sy
