/-
 Panics of the program's own: functions that return or panic, functions that put off a call which catches them.
-/
import Derived.Test.YtcapcgbamehojaaGreatDoorSySC
import Derived.Test.YtcapcgbamehojaaGreatDoorSyKK
import Derived.Recover
import Derived.LaidEql
namespace Go.Sy
open Go Go.RowKit
set_option linter.unusedVariables false
set_option linter.unusedSimpArgs false
set_option linter.unusedSectionVars false
variable [Inhabited GT]
def Pan(ch:List PanicEntry):Prop:= ∃t v,ch=[{ v:= .iface t v,recovered:=false }]
def SP(P:Program)(f:FuncId)(args:List SV)(H:a0o)(H':a0o):Prop:=
 c0N P f=true∧
 ∀(w:World) (K:Nat→Nat) (D:DM) (vals:List Value),vals.length=args.length→(∀(j:Nat) (x:Value) (c:SV),vals[j]?=some x→args[j]?=some c→Rep w K D x c)→HInv w K D H→k0Y w K D→
  Calls P f vals.toArray w fun e w'=> ∃ch,e= .panicked ch∧Pan ch∧Good w K D H (.bool true) w' .undef H'
theorem SP.frame {P:Program} {fid:FuncId} {args0:List SV} {H0:a0o} {H0':a0o} (h:SP P fid args0 H0 H0') {H:a0o} {f:Nat→Nat} (hs:Sel H f H0)
  (hlive: ∀en∈H0,g0K en=true) (ha:SV.refsL H0.length args0=true) (hl:H0.length≤H0'.length):SP P fid (SV.rnL f args0) H (d0Q f H0.length H H0'):=by
 refine⟨h.1,fun w K D vals hlen hr hi hG=> ?_⟩
 refine(h.2 w K (j0c D f H0.length) vals (by rw[hlen,c0f]) (fun j x c hx hc=>f0L (hr j x (SV.rn f c) hx (by rw[e0R,hc];rfl)) c rfl (e0d ha j c hc)) (hs.hinv hi) (g0E hG)).mono ?_
 rintro e w' ⟨ch,he,hp,hg⟩
 exact⟨ch,he,hp,hg.frame hs hi hlive hl⟩
theorem SP.weak {P:Program} {f:FuncId} {args args':List SV} {H H':a0o} (h:SP P f args' H H')(hl:LeL args args'):SP P f args H H':=
 ⟨h.1,fun w K D vals hlen hr hi hG=>h.2 w K D vals (by rw[hlen,hl.length]) (fun j x c hx hc=>by
  obtain⟨b,hb,hle⟩:=hl.get j c hc
  exact hle _ _ _ _ (hr j x b hx hb)) hi hG⟩
def PP(F:Fr)(Q:h0f)(L:LE)(H:a0o):Prop:= ∀ch a w,Pan ch→Sees F L H a w→Q (.panic ch) a w
section
variable {F : Fr} {P : Program} {c : Code} {L : LE} {H : a0o} {Q : h0f} {ops : Array Oper} {p : Nat}
theorem PP.next(h:PP F Q L H):PP F (l0b F P c Q) L H:=fun ch a w hp hs=>h ch a w hp hs
theorem PP.block {i:Nat} (h:PP F Q L H):PP F (Exit.inBlock i Q) L H:=fun ch a w hp hs=>h ch a w hp hs
theorem PP.cutXr {S X:Type} {R:S→LE×a0o} {x:X} (h:PP F Q L H):PP F (cutX F R Q (.inr x:S⊕X)) L H:=fun ch a w hp hs=>⟨(fun e=>nomatch e),h ch a w hp hs⟩
theorem PP.loopOut {S O:Type} {R:S→LE×a0o} {o o':O} (h:o'=o→PP F Q L H):PP F (p0P F R Q o (.inr o')) L H:=fun ch a w hp hs=>⟨(fun e=>nomatch e),fun he=>h he ch a w hp hs⟩
theorem PP.wk {L2:LE} {H2:a0o} (h:Wk F L H L2 H2)(k:PP F Q L2 H2):PP F Q L H:=fun ch a w hp hs=>k ch a w hp (h a w hs)
def A0v(P:Program)(ops:Array Oper)(p:Nat):Option Nat:=match ops.toList[p]?,ops.toList[p+1]? with
 |some o,some o'=>match o.op,o.dst,o.guard,o'.op,o'.guard with
  | .makeInterface t (.const (.string _)),some d,none, .panic (.tmp d'),none=>match P.underlying t with
   |some .string=>bif Nat.beq d d' then some d else none
   |_=>none
  |_,_,_,_,_=>none
 |_,_=>none
theorem RJ.panic {d:Nat} (h:A0v P ops p=some d)(k:PP F Q (g0e L (some d) .undef) H)(hd:Nat.blt d F.n=true):RJ F P none ops p [] L H Q:=by
 intro hin a w hs
 unfold A0v at h
 split at h
 ·rename_i o o' ho ho'
  split at h
  ·rename_i t s d1 d2 e1 e2 e3 e4 e5
   split at h
   ·rename_i hu
    cases hb:Nat.beq d1 d2 with
    |false=>rw[hb]at h;cases h
    |true=>
     rw[hb]at h
     obtain rfl:=aZ h
     obtain rfl:=af hb
     rw[d0N ho,d0N ho']
     refine wpList_step fun KK hKK=> ?_
     have hg1:Region.wanted o (yielded ops a.tmps)=true:=by unfold Region.wanted;rw[e3]
     rw[if_pos hg1]
     unfold Oper.wp
     have hr1:(execOp a.eval o).run P w= .ok (.value (.iface t (.string s))) w:=by
      unfold execOp
      simp[e1,Instr.makeInterface,run_underlying hu,Act.eval]
     rw[hr1]
     refine hKK _ _ ?_
     refine wpList_step fun KK2 hKK2=> ?_
     have hg2: ∀tm,Region.wanted o' (yielded ops tm)=true:=fun tm=>by unfold Region.wanted;rw[e5]
     rw[if_pos (hg2 _)]
     unfold Oper.wp
     obtain⟨hdd,K,D,hi⟩:=hs
     have hsz:d1<a.tmps.size:=by rw[hi.slots.size];exact aq hd
     have hev:(a.put o.dst (.iface t (.string s))).eval (.tmp d1)= .iface t (.string s):=by
      rw[e2]
      simp[Act.put,Act.eval,bD,hsz]
     have hr2:(execOp (a.put o.dst (.iface t (.string s))).eval o').run P w= .halt (.panic (.iface t (.string s))) w:=by
      unfold execOp
      simp[e4,Instr.panic,hev,goPanic]
     rw[hr2]
     refine k _ _ _ ⟨_,_,rfl⟩ ⟨by rw[b0D];exact hdd,K,D, ?_⟩
     rw[←c0K,e2]
     exact⟨hi.slots.put _ (.undef _),hi.hinv,hi.grow⟩
   ·cases h
  ·cases h
 ·cases h
def A0u(F:Fr)(H':a0o):h0f:=fun e a w=> ∃ch,e= .panic ch∧Pan ch∧a.defers=F.ds∧Good F.w0 F.K0 F.D0 F.H0 (.bool true) w .undef H'
theorem w0N {H' H0:a0o} {v v1:SV} (σ:List Nat)(hH:F.H0=H0)(hl:σ.length=H'.length)(hg:σ.map (fun i=>H[i]?)=H'.map (fun en=>some (Ent.rn (b0Z σ) en)))(hnd:σ.Nodup)(hr:H'.all (Ent.refs H'.length)=true)(hk:σ.take H0.length=List.range H0.length)(hle:Nat.ble H0.length H'.length=true)(hv:v1=SV.rn (b0Z σ) v)(hvr:SV.refs H'.length v=true):
  Back F.H0.length H (b0Z σ) v1 v H':=by
 refine⟨Sel.of σ hl hg hnd hr,fun j hj=> ?_,by rw[hH];exact aq hle,hv,hvr⟩
 rw[hH]at hj
 have:=congrArg (fun l=>l[j]?) hk
 simp only[aX,if_pos hj,bG hj]at this
 unfold b0Z
 rw[av,this];rfl
theorem K.panV {H0 H':a0o} (σ:List Nat)(hH:F.H0=H0)(hdom: ∀i,F.H0.length≤i→F.D0 i=none)
  (hl:σ.length=H'.length) (hg:σ.map (fun i=>H[i]?)=H'.map (fun en=>some (Ent.rn (b0Z σ) en))) (hnd:σ.Nodup) (hr:H'.all (Ent.refs H'.length)=true) (hk:σ.take H0.length=List.range H0.length) (hle:Nat.ble H0.length H'.length=true):
  PP F (A0u F H') L H:=fun ch a w hp hs=>by
 obtain⟨hd,K,D,hi⟩:=hs
 exact⟨ch,rfl,hp,hd,p0B hi.grow hi.hinv (.undef _) (w0N σ hH hl hg hnd hr hk hle rfl rfl) hdom⟩
theorem m0l {N:Nat} {w:World} {K:Nat→Nat} {D:DM} {vals:List Value} {args:List SV} (hlen:vals.length=args.length)(hrep: ∀(j:Nat) (x:Value) (c:SV),vals[j]?=some x→args[j]?=some c→Rep w K D x c)
  (hi:HInv w K D H) (hG:k0Y w K D) (hn:args.length≤N):Sees ⟨N,w,K,D,H,[]⟩ (i0j 0 args) H { tmps:=vals.toArray++Array.replicate (N-vals.toArray.size) undef,defers:=[] } w:=by
 have hslots:Slots N w K D (b0s (i0j 0 args)) (vals.toArray++Array.replicate (N-vals.toArray.size) undef):=by
  refine⟨by simp;omega,fun i hin=> ?_,hG⟩
  show Rep w K D _ (lk (i0j 0 args) i)
  rw[p0V,if_pos (co _),bN]
  by_cases hia:i<args.length
  ·have hiv:i<vals.length:=by omega
   rw[ae hia,bJ]
   have hg:(vals.toArray++Array.replicate (N-vals.toArray.size) undef).getD i undef=vals[i]:=by
    rw[bD,ck (by simpa using hiv)]
    simp[hiv]
   rw[hg]
   exact hrep i _ _ (ae hiv) (ae hia)
  ·rw[aw (by omega)]
   exact .undef _
 exact⟨rfl,K,D,⟨hslots,hi,Grow.refl _ _ _ _⟩⟩
theorem K.fnP {f:FuncId} {fn:Func} (hf:P.funcs[f]?=some fn)(hb:fn.body.isSome=true)(hcal:c0N P f=true)(hin:d0e fn.ntmps (g0G fn)=true)
  {args:List SV} {H H':a0o} (hn:Nat.ble args.length fn.ntmps=true)
  (h: ∀F:Fr,F.n=fn.ntmps→F.H0=H→(∀i,F.H0.length≤i→F.D0 i=none)→J F P (g0G fn) (i0j 0 args) H (A0u F H')):SP P f args H H':=by
 unfold g0G at*
 cases hbb:fn.body with
 |none=>rw[hbb]at hb;cases hb
 |some c=>
  rw[hbb]at hin h
  refine⟨hcal,fun w K D vals hlen hrep hi hG=> ?_⟩
  refine calls_of_wp hf hbb (Code.wp_mono (fun e a' w' hq=> ?_) (h ⟨fn.ntmps,w,K,D,H,[]⟩ rfl rfl hi.dom hin _ w (m0l hlen hrep hi hG (aq hn))))
  obtain⟨ch,rfl,hp,hd,hg⟩:=hq
  exact⟨hd,ch,rfl,hp,hg⟩
theorem RJ.callP {d:Option Nat} {f:FuncId} {args args0 args':List SV} {H0 H0' H2:a0o} (σ:List Nat)(h:h0b none ops p [] L []=some (d,f,args,[]))(ha:args=SV.rnL (b0Z σ) args0)(hl:σ.length=H0.length)(hg:σ.map (fun i=>H[i]?)=H0.map (fun en=>some (Ent.rn (b0Z σ) en)))(hn:σ.Nodup)(hr0:H0.all (Ent.refs H0.length)=true)
  (hlive:H0.all g0K=true) (hr:SV.refsL H0.length args0=true) (hle:LeL args0 args') (hs:SP P f args' H0 H0') (hle':Nat.ble H0.length H0'.length=true)
  (hH:d0Q (b0Z σ) H0.length H H0'=H2) (k:PP F Q L H2):RJ F P none ops p [] L H Q:=by
 obtain⟨o,ho,hgd,hc,hdd,_,hk⟩:=e0V h
 subst hH
 intro hin a w hst
 have hbo:Oper.inB F.n ops o=true:=List.all_eq_true.1 hin o (l0O ho)
 obtain⟨hd,K,D,hi⟩:=hst
 rw[d0N ho]
 refine wpList_step fun KK hKK=> ?_
 rw[c0h hi.slots (Oper.inB_guard hbo) hgd,if_pos rfl]
 have hfr:=SP.frame (SP.weak hs hle) (Sel.of σ hl hg hn hr0) (fun en hm=>List.all_eq_true.1 hlive en hm) hr (aq hle')
 rw[←ha]at hfr
 obtain⟨vals,hrun,hvl,hvr⟩:=m0S (P:=P) hi.slots (Oper.inB_op hbo) hc
 unfold Oper.wp
 rw[hrun hfr.1]
 refine(hfr.2 w K D vals hvl hvr hi.hinv hi.slots.glob).mono ?_
 rintro e w' ⟨ch,rfl,hp,K',D',gr,hi',_⟩
 exact k _ _ _ hp ⟨hd,K',D',⟨hi.slots.mono fun _ _=>gr.rep,hi',hi.grow.trans gr⟩⟩
end
/-! Calls that are put off. -/
def uOk(pan:Bool)(u:FrameMode):Prop:=match pan with|true=> ∃ch,Pan ch∧u= .panicking ch|false=>u= .returning
def SD(P:Program)(f:FuncId)(pan:Bool)(args:List SV)(H H':a0o):Prop:=
 c0N P f=true∧ ∀(w:World) (K:Nat→Nat) (D:DM) (vals:List Value) (u:FrameMode),vals.length=args.length→(∀(j:Nat) (x:Value) (c:SV),vals[j]?=some x→args[j]?=some c→Rep w K D x c)→HInv w K D H→k0Y w K D→
  uOk pan u→
  CallsD P f vals.toArray u w fun e u' w'=> ∃r,e= .returned r∧settle u'= .returning∧Good w K D H r w' (.tup []) H'
theorem SD.frame {P:Program} {fid:FuncId} {pan:Bool} {args0:List SV} {H0:a0o} {H0':a0o} (h:SD P fid pan args0 H0 H0') {H:a0o} {f:Nat→Nat} (hs:Sel H f H0)
  (hlive: ∀en∈H0,g0K en=true) (ha:SV.refsL H0.length args0=true) (hl:H0.length≤H0'.length):SD P fid pan (SV.rnL f args0) H (d0Q f H0.length H H0'):=by
 refine⟨h.1,fun w K D vals u hlen hr hi hG hu=> ?_⟩
 refine(h.2 w K (j0c D f H0.length) vals u (by rw[hlen,c0f]) (fun j x c hx hc=>f0L (hr j x (SV.rn f c) hx (by rw[e0R,hc];rfl)) c rfl (e0d ha j c hc)) (hs.hinv hi) (g0E hG) hu).mono ?_
 rintro e u' w' ⟨r,he,hst,hg⟩
 exact⟨r,he,hst,hg.frame hs hi hlive hl⟩
section
variable {F : Fr} {P : Program} {c : Code} {L : LE} {H : a0o} {Q : h0f} {ops : Array Oper} {p : Nat}
def y0i(P:Program)(F:Fr)(f:FuncId)(args:List SV)(d:Deferred):Prop:=
 ∃fv caps vals,d.target= .fn fv caps∧(c0N P f=true→ ∀w,(invoke d.target d.args).run P w= .ok (.enter f (List.toArray vals)) w)∧vals.length=args.length∧ ∀(j:Nat) (x:Value) (c:SV),vals[j]?=some x→args[j]?=some c→Rep F.w0 F.K0 F.D0 x c
def A0Q(ops:Array Oper)(p:Nat)(L:LE):Option (FuncId×List SV):=match ops.toList[p]? with
 |some o=>match o.op,o.guard,o.dst with
  | .defer c,none,none=>match c.callee with
   | .value f=>match a0Y (b0s L) f,c.args.toList with
    |some (.fn (.func f) first captured),[]=>some (f,first++captured)
    |_,_=>none
   |_=>none
  |_,_,_=>none
 |none=>none
theorem RJ.defer {f:FuncId} {args:List SV} (h:A0Q ops p L=some (f,args))(hds:F.ds=[])
  (k: ∀(w:World) (K:Nat→Nat) (D:DM) (d:Deferred),y0i P ⟨F.n,w,K,D,H,[d]⟩ f args d→Grow F.w0 F.K0 F.D0 F.H0 w K D H→(∀i,H.length≤i→D i=none)→RJ ⟨F.n,w,K,D,H,[d]⟩ P none ops (p+1) [] L H Q):RJ F P none ops p [] L H Q:=by
 intro hin a w hs
 unfold A0Q at h
 split at h
 ·rename_i o ho
  split at h
  ·rename_i c e1 e2 e3
   split at h
   ·rename_i fo hcal
    split at h
    ·rename_i f' first captured hfe hargs
     cases h
     have hbo:Oper.inB F.n ops o=true:=List.all_eq_true.1 hin o (l0O ho)
     obtain⟨hd,K,D,hi⟩:=hs
     rw[d0N ho]
     refine wpList_step fun KK hKK=> ?_
     rw[if_pos (by unfold Region.wanted;rw[e2])]
     have hb:=Oper.inB_op hbo
     unfold Op.inB at hb
     rw[bp]at hb
     have hfr:=a0j hi.slots (hb fo (by simp[e1,Op.operands,Call.operands,hcal])) hfe
     generalize hfv:a.eval fo=fv at hfr
     cases hfr with
     |fn _ fs caps _ _ hc1 hc2 hr1 hr2=>
      have ha0:c.args= #[]:=by rw[←bg];exact hargs
      have hrun:(execOp a.eval o).run P w= .ok (.defer { target:= .fn (.func f) caps.toArray,args:=fs.toArray }) w:=by
       unfold execOp
       simp[e1,resolve,hcal,hfv,Deferred.ofValue,ha0]
      unfold Oper.wp
      rw[hrun]
      refine hKK _ _ ?_
      refine k w K D { target:= .fn (.func f) caps.toArray,args:=fs.toArray } ?_ hi.grow hi.hinv.dom hin _ w ?_
      ·refine⟨_,_,fs++caps,rfl,fun hcb w'=> ?_,by simp[hc1,hc2],fun j x y hx hy=> ?_⟩
       ·have:=q0D (P:=P) (w:=w') (o:= { o with op:= .call { callee:= .value fo,args:= #[],argTypes:= #[] } }) (a:=a) rfl rfl hfv hcb
        unfold execOp at this
        simp only[resolve,hfv,Deferred.ofValue,Sem.run_bind,Sem.run_pure,Result.andThen_ok]at this
        simpa using this
       ·rw[aD]at hx hy
        rw[hc1]at hy
        split at hx
        ·rename_i hj;rw[if_pos hj]at hy;exact hr1 j x y hx hy
        ·rename_i hj;rw[if_neg hj]at hy;exact hr2 _ x y hx hy
      ·refine⟨?_,K,D, ?_⟩
       ·rw[b0D,hd,hds]
       ·rw[e3]
        exact⟨hi.slots,hi.hinv,Grow.refl _ _ _ _⟩
    ·cases h
   ·cases h
  ·cases h
 ·cases h
def x0B(P:Program)(fn:Func)(F:Fr)(v:SV)(H':a0o):h0f:=fun e a w=> ∃u,(match e with| .normal=>u=FrameMode.returning| .ret=>u= .returning| .panic ch=>u= .panicking ch|_=>False)∧
 Leaves P fn a.tmps (fun e' w'=> ∃r,e'= .returned r∧Good F.w0 F.K0 F.D0 F.H0 r w' v H') a.defers u w
theorem K.fnD {f:FuncId} {fn:Func} (hf:P.funcs[f]?=some fn)(hb:fn.body.isSome=true)(hcal:c0N P f=true)(hin:d0e fn.ntmps (g0G fn)=true)
  {args:List SV} {v:SV} {H H':a0o} (hn:Nat.ble args.length fn.ntmps=true)
  (h: ∀F:Fr,F.n=fn.ntmps→F.H0=H→(∀i,F.H0.length≤i→F.D0 i=none)→F.ds=[]→J F P (g0G fn) (i0j 0 args) H (x0B P fn F v H')):SC P f args H v H':=by
 unfold g0G at*
 cases hbb:fn.body with
 |none=>rw[hbb]at hb;cases hb
 |some c=>
  rw[hbb]at hin h
  refine⟨hcal,fun w K D vals hlen hrep hi hG=> ?_⟩
  refine calls_of_wp_defers hf hbb (Code.wp_mono (fun e a' w' hq=> ?_) (h ⟨fn.ntmps,w,K,D,H,[]⟩ rfl rfl hi.dom rfl hin _ w (m0l hlen hrep hi hG (aq hn))))
  obtain⟨u,hu,hl⟩:=hq
  cases e<;>simp only at hu<;>first|exact hu.elim|(subst hu;exact hl)
theorem v0q {F1:Fr} {fn:Func} {f:FuncId} {pan:Bool} {args args0:List SV} {H0 H0' H2 H1 H':a0o} {v v1 v2:SV} {d:Deferred} {u:FrameMode} {a:Act} {w:World} (σ τ:List Nat)(hok:y0i P F1 f args d)(hgr:Grow F.w0 F.K0 F.D0 F.H0 F1.w0 F1.K0 F1.D0 F1.H0)(hds:F1.ds=[d])(hn:F1.n=fn.ntmps)
  (hsd:SD P f pan args0 H0 H0') (ha:args=SV.rnL (b0Z σ) args0) (hl:σ.length=H0.length) (hg:σ.map (fun i=>H[i]?)=H0.map (fun en=>some (Ent.rn (b0Z σ) en))) (hnd:σ.Nodup) (hr0:H0.all (Ent.refs H0.length)=true)
  (hlive:H0.all g0K=true) (hr:SV.refsL H0.length args0=true) (hle':Nat.ble H0.length H0'.length=true) (hH:d0Q (b0Z σ) H0.length H H0'=H2)
  (hin:o0F fn.ntmps fn.results.toList=true) (hret:x0a P fn.results.toList L H2=some v1) (hF:F.H0=H1) (hdom: ∀i,F.H0.length≤i→F.D0 i=none)
  (hl':τ.length=H'.length) (hg':τ.map (fun i=>H2[i]?)=H'.map (fun en=>some (Ent.rn (b0Z τ) en))) (hnd':τ.Nodup) (hr':H'.all (Ent.refs H'.length)=true) (hk':τ.take H1.length=List.range H1.length) (hle2:Nat.ble H1.length H'.length=true) (hv:v1=SV.rn (b0Z τ) v) (hvr:SV.refs H'.length v=true) (hle3:Le v v2)
  (hu:uOk pan u) (hs:Sees F1 L H a w):
  Leaves P fn a.tmps (fun e' w'=> ∃r,e'= .returned r∧Good F.w0 F.K0 F.D0 F.H0 r w' v2 H') a.defers u w:=by
 obtain⟨hd,K,D,hi⟩:=hs
 rw[hd,hds]
 obtain⟨fv,caps,vals,ht,hinv,hvl,hvr'⟩:=hok
 have hfr:=SD.frame hsd (Sel.of σ hl hg hnd hr0) (fun en hm=>List.all_eq_true.1 hlive en hm) hr (aq hle')
 rw[←ha,hH]at hfr
 refine⟨?_,fv,caps,f,vals.toArray,ht,hinv hfr.1 w, ?_⟩
 ·cases pan with
  |true=>obtain⟨ch,_,rfl⟩:=hu;exact fun e=>nomatch e
  |false=>obtain rfl:u= .returning:=hu;exact fun e=>nomatch e
 ·refine(hfr.2 w K D vals u hvl (fun j x y hx hy=>hi.grow.rep (hvr' j x y hx hy)) hi.hinv hi.slots.glob hu).mono ?_
  rintro e u' w' ⟨r,rfl,hst,K',D',gr,hi',_⟩
  simp only
  rw[hst]
  have hi2:Inv F1 w' K' D' H2 (b0s L) a.tmps:=⟨hi.slots.mono fun _ _=>gr.rep,hi',hi.grow.trans gr⟩
  obtain⟨r2,h1,h2⟩:=v0p (P:=P) (fn:=fn) hi2 (by rw[hn];exact hin) hret
  exact⟨r2,h1,r2,rfl,(p0B (hgr.trans (hi.grow.trans gr)) hi' h2 (w0N τ hF hl' hg' hnd' hr' hk' hle2 hv hvr) hdom).le hle3⟩
theorem PJ.retD {F1:Fr} {fn:Func} {f:FuncId} {args args0:List SV} {H0 H0' H2 H1 H':a0o} {v v1 v2:SV} {d:Deferred} (σ τ:List Nat)(hok:y0i P F1 f args d)(hgr:Grow F.w0 F.K0 F.D0 F.H0 F1.w0 F1.K0 F1.D0 F1.H0)(hds:F1.ds=[d])(hn:F1.n=fn.ntmps)
  (hsd:SD P f false args0 H0 H0') (ha:args=SV.rnL (b0Z σ) args0) (hl:σ.length=H0.length) (hg:σ.map (fun i=>H[i]?)=H0.map (fun en=>some (Ent.rn (b0Z σ) en))) (hnd:σ.Nodup) (hr0:H0.all (Ent.refs H0.length)=true)
  (hlive:H0.all g0K=true) (hr:SV.refsL H0.length args0=true) (hle':Nat.ble H0.length H0'.length=true) (hH:d0Q (b0Z σ) H0.length H H0'=H2)
  (hin:o0F fn.ntmps fn.results.toList=true) (hret:x0a P fn.results.toList L H2=some v1) (hF:F.H0=H1) (hdom: ∀i,F.H0.length≤i→F.D0 i=none)
  (hl':τ.length=H'.length) (hg':τ.map (fun i=>H2[i]?)=H'.map (fun en=>some (Ent.rn (b0Z τ) en))) (hnd':τ.Nodup) (hr':H'.all (Ent.refs H'.length)=true) (hk':τ.take H1.length=List.range H1.length) (hle2:Nat.ble H1.length H'.length=true) (hv:v1=SV.rn (b0Z τ) v) (hvr:SV.refs H'.length v=true) (hle3:Le v v2):
  PJ F1 (x0B P fn F v2 H') .ret L H:=fun a w hs=>⟨.returning,rfl,v0q σ τ hok hgr hds hn hsd ha hl hg hnd hr0 hlive hr hle' hH hin hret hF hdom hl' hg' hnd' hr' hk' hle2 hv hvr hle3 rfl hs⟩
theorem PP.retD {F1:Fr} {fn:Func} {f:FuncId} {args args0:List SV} {H0 H0' H2 H1 H':a0o} {v v1 v2:SV} {d:Deferred} (σ τ:List Nat)(hok:y0i P F1 f args d)(hgr:Grow F.w0 F.K0 F.D0 F.H0 F1.w0 F1.K0 F1.D0 F1.H0)(hds:F1.ds=[d])(hn:F1.n=fn.ntmps)
  (hsd:SD P f true args0 H0 H0') (ha:args=SV.rnL (b0Z σ) args0) (hl:σ.length=H0.length) (hg:σ.map (fun i=>H[i]?)=H0.map (fun en=>some (Ent.rn (b0Z σ) en))) (hnd:σ.Nodup) (hr0:H0.all (Ent.refs H0.length)=true)
  (hlive:H0.all g0K=true) (hr:SV.refsL H0.length args0=true) (hle':Nat.ble H0.length H0'.length=true) (hH:d0Q (b0Z σ) H0.length H H0'=H2)
  (hin:o0F fn.ntmps fn.results.toList=true) (hret:x0a P fn.results.toList L H2=some v1) (hF:F.H0=H1) (hdom: ∀i,F.H0.length≤i→F.D0 i=none)
  (hl':τ.length=H'.length) (hg':τ.map (fun i=>H2[i]?)=H'.map (fun en=>some (Ent.rn (b0Z τ) en))) (hnd':τ.Nodup) (hr':H'.all (Ent.refs H'.length)=true) (hk':τ.take H1.length=List.range H1.length) (hle2:Nat.ble H1.length H'.length=true) (hv:v1=SV.rn (b0Z τ) v) (hvr:SV.refs H'.length v=true) (hle3:Le v v2):
  PP F1 (x0B P fn F v2 H') L H:=fun ch a w hp hs=>⟨.panicking ch,rfl,v0q σ τ hok hgr hds hn hsd ha hl hg hnd hr0 hlive hr hle' hH hin hret hF hdom hl' hg' hnd' hr' hk' hle2 hv hvr hle3 ⟨ch,hp,rfl⟩ hs⟩
def z0d(P:Program)(c:Code)(t4 t5:Nat):Bool:=n0e c&&(l0S false (cl c)&&(match(h0h (cl c)).toList with
 | [o,o']=>match o.op,o.dst,o.guard,o'.op,o'.dst,o'.guard with
  | .call cc,some d,none, .binOp .neq t (.tmp d') (.const .nilIface) _,some d2,none=>match cc.callee,P.underlying t with
   | .builtin .recover,some (.interface _)=>Nat.beq d t4&&(Nat.beq d' t4&&Nat.beq d2 t5)
   |_,_=>false
  |_,_,_,_,_,_=>false
 |_=>false))
theorem K.fnC {f:FuncId} {fn:Func} (pan:Bool)(t4 t5:Nat)(hf:P.funcs[f]?=some fn)(hb:fn.body.isSome=true)(hcal:c0N P f=true)(hin:d0e fn.ntmps (g0G fn)=true)
  {args:List SV} {H H':a0o} (hn:Nat.ble args.length fn.ntmps=true) (hrec:z0d P (g0G fn) t4 t5=true) (ht:(Nat.blt t4 fn.ntmps&&Nat.blt t5 fn.ntmps)=true)
  (h: ∀F:Fr,F.n=fn.ntmps→F.H0=H→(∀i,F.H0.length≤i→F.D0 i=none)→J F P (cr (g0G fn)) ((t5, .bool pan)::(t4, .undef)::i0j 0 args) H (u0k P fn F (.tup []) H')):SD P f pan args H H':=by
 unfold g0G at*
 cases hbb:fn.body with
 |none=>rw[hbb]at hb;cases hb
 |some c=>
  rw[hbb]at hin h hrec
  simp only[bJ]at hin h hrec
  refine⟨hcal,fun w K D vals u hlen hrep hi hG hu=> ?_⟩
  refine callsD_of_wpS hf hbb (fun c₀ cs hcu=> ?_)
  unfold z0d at hrec
  simp only[ac]at hrec
  obtain⟨hsq,hrg,hops⟩:=hrec
  have hc:=t0g hsq
  have hst:=m0l (N:=fn.ntmps) hlen hrep hi hG (aq hn)
  generalize hcl:cl c=cl0 at*
  cases cl0<;>first|cases hrg|skip
  rename_i ri ops dd
  cases dd with
  |true=>cases hrg
  |false=>
  simp only[h0h]at hops
  split at hops
  ·rename_i o o' hol
   have hops2:ops= #[o,o']:=by rw[←bg];exact hol
   split at hops
   ·rename_i cc d t d' ty d2 e1 e2 e3 e4 e5 e6
    split at hops
    ·rename_i ms g1 g2
     simp only[ac]at hops
     obtain⟨q1,q2,q3⟩:=hops
     obtain rfl:=af q1
     obtain rfl:=af q2
     obtain rfl:=af q3
     simp only[ac]at ht
     have ht1:d'<fn.ntmps:=aq ht.1
     have ht2:d2<fn.ntmps:=aq ht.2
     rw[hc]
     refine wpS_seq (wpS_region ?_)
     have hr1: ∀ρ w,(execOp ρ o).run P w= .ok .recover w:=fun ρ w=>by
      unfold execOp
      simp[e1,resolve,g1,invoke,builtin]
     have hw: ∀(x:Oper),x.guard=none→ ∀y,Region.wanted x y=true:=fun x hx y=>by unfold Region.wanted;rw[hx]
     have h0:ops[0]?=some o:=by rw[hops2];rfl
     have h1:ops[1]?=some o':=by rw[hops2];rfl
     have hsz:ops.size=2:=by rw[hops2];rfl
     rw[hsz,show List.range 2=[0,1]from rfl]
     simp only[wpOpsS,h0,h1,hw o e3,hw o' e6,if_true,hr1]
     have hJ:=h ⟨fn.ntmps,w,K,D,H,[]⟩ rfl rfl hi.dom (by
      rw[hc]at hin
      simp only[d0e,ac]at hin
      exact hin.2)
     have hsz2:d'<({ tmps:=vals.toArray++Array.replicate (fn.ntmps-vals.toArray.size) undef,defers:=[] } :Act).tmps.size:=by
      obtain⟨_,K1,D1,hI⟩:=hst
      rw[hI.slots.size];exact ht1
     have step: ∀v,(∀w,(binOp .neq t v .nilIface).run P w= .ok (.bool pan) w)→(∀w,(eqGuard .neq t (.tmp d') (.const .nilIface) v .nilIface).run P w= .ok () w)→
       (execOp (({ tmps:=vals.toArray++Array.replicate (fn.ntmps-vals.toArray.size) undef,defers:=[] } :Act).put o.dst v).eval o').run P w= .ok (.value (.bool pan)) w:=by
      intro v hbin hgd
      have hev:(({ tmps:=vals.toArray++Array.replicate (fn.ntmps-vals.toArray.size) undef,defers:=[] } :Act).put o.dst v).eval (.tmp d')=v:=by
       rw[e2]
       simp only[Act.put,Act.eval,bD,Array.getElem?_setIfInBounds,if_pos hsz2]
       simp
      unfold execOp
      simp only[e4,hev]
      rw[show(({ tmps:=vals.toArray++Array.replicate (fn.ntmps-vals.toArray.size) undef,defers:=[] } :Act).put o.dst v).eval (.const .nilIface)= .nilIface from rfl]
      simp[hbin w,hgd w]
     have fin: ∀(v:Value) (cs':List Frame) (u':FrameMode),cs'= { c₀ with mode:=u' } ::cs→settle u'= .returning→(cr c).wpS P (bodyPostS P fn c₀ cs fun e u' w'=> ∃r,e= .returned r∧settle u'= .returning∧Good w K D H r w' (.tup []) H') ((({ tmps:=vals.toArray++Array.replicate (fn.ntmps-vals.toArray.size) undef,defers:=[] } :Act).put o.dst v).put o'.dst (.bool pan)) cs' w:=by
      intro v cs' u' hcs hset
      refine wpS_of_wp (Code.wp_mono (fun e a' w' hq=> ?_) (hJ _ w ?_))
      ·obtain⟨he,hd,r,hr,hg⟩:=hq
       rcases he with rfl|rfl
       ·exact⟨hd,u',hcs,r,hr,r,rfl,hset,hg⟩
       ·exact⟨hd,u',hcs,r,hr,r,rfl,hset,hg⟩
      ·obtain⟨hd,K1,D1,hI⟩:=hst
       refine⟨by rw[b0D,b0D],K1,D1,⟨?_,hI.hinv,hI.grow⟩⟩
       have:=(hI.slots.put o.dst (.undef v)).put o'.dst (.bool pan)
       rw[e2,e5,c0K,c0K]at this
       rw[e2,e5]
       exact this
     cases pan with
     |false=>
      obtain rfl:u= .returning:=hu
      have hrd:recoverD (c₀::cs)=none:=by simp only[recoverD,hcu]
      rw[hrd]
      have hs2:=step .nilIface (fun w=>by
       have h9: ∀d:Nat,(Op.equalIn (d+1) t .nilIface .nilIface).run P w= .ok true w:=fun d=>by simp[Op.equalIn,run_underlying g2]
       simp only[binOp]
       simp[Op.equal,Op.maxDepth,h9 9999]) (fun w=>by simp[eqGuard])
      simp only[hs2]
      exact fin .nilIface (c₀::cs) .returning (by rw[←hcu]) rfl
     |true=>
      obtain⟨ch,⟨tv,vv,rfl⟩,rfl⟩:=hu
      have hrd:recoverD (c₀::cs)=some (.iface tv vv, { c₀ with mode:= .panicking [{ v:= .iface tv vv,recovered:=true }] } ::cs):=by simp only[recoverD,hcu]
      rw[hrd]
      have hs2:=step (.iface tv vv) (fun w=>by
       have h9: ∀d:Nat,(Op.equalIn (d+1) t (.iface tv vv) .nilIface).run P w= .ok false w:=fun d=>by simp[Op.equalIn,run_underlying g2]
       simp only[binOp]
       simp[Op.equal,Op.maxDepth,h9 9999]) (fun w=>by simp[eqGuard])
      simp only[hs2]
      exact fin (.iface tv vv) _ _ rfl rfl
    ·cases hops
   ·cases hops
  ·cases hops
end
section
variable {F : Fr} {P : Program} {L : LE} {H : a0o} {Q : h0f} {ops : Array Oper} {p : Nat} {tr : List (List Nat × List Nat)}
theorem t0A {base i:Nat} {o:Oper} {e1 e2:Eff} (h:e1.wr.map Prod.fst=e2.wr.map Prod.fst):i0H ops base i o e1=i0H ops base i o e2:=by
 have h1: ∀e:Eff,e.wr.map (fun x=>2*x.1)=(e.wr.map Prod.fst).map (fun x=>2*x):=fun e=>by rw[bT];rfl
 have h2: ∀e:Eff,(e.wr.flatMap fun x=>w0K x.1)=(e.wr.map Prod.fst).flatMap w0K:=fun e=>by rw[List.flatMap_map]
 unfold i0H
 rw[h1,h1,h2,h2,h]
theorem RJ.callWr {base:Nat} {d:Option Nat} {f:FuncId} {args args0 args':List SV} {v0 v:SV} {tr2:List (List Nat×List Nat)} {H0 H0' H2:a0o} (σ:List Nat)(h:h0b (some base) ops p tr L σ (σ.map fun i=>(i,Ent.gone))=some (d,f,args,tr2))(ha:args=SV.rnL (b0Z σ) args0)
  (hl:σ.length=H0.length) (hg:σ.map (fun i=>H[i]?)=H0.map (fun en=>some (Ent.rn (b0Z σ) en))) (hn:σ.Nodup) (hr0:H0.all (Ent.refs H0.length)=true)
  (hlive:H0.all g0K=true) (hr:SV.refsL H0.length args0=true) (hle:LeL args0 args') (hs:SC P f args' H0 v0 H0') (hlen:Nat.beq H0'.length H0.length=true) (hr2:H0'.all (Ent.refs H0.length)=true) (hv0:SV.refs H0.length v0=true)
  (hv:SV.rn (b0Z σ) v0=v) (hH:b0H H (m0W (b0Z σ) H0.length H0')=H2) (k:RJ F P (some base) ops (p+1) tr2 (g0e L d v) H2 Q):RJ F P (some base) ops p tr L H Q:=by
 obtain⟨o,ho,hgd,hc,rfl,rfl,hk⟩:=e0V h
 subst hv;subst hH
 have hσ:(List.range H0.length).map (b0Z σ)=σ:=by
  apply bC
  intro i
  rw[am]
  by_cases hi:i<H0.length
  ·rw[bG hi]
   simp only[aI,b0Z,av]
   rw[ae (by omega)];rfl
  ·rw[aw (by simpa using hi),aw (by omega)];rfl
 have hfst:(m0W (b0Z σ) H0.length H0').map Prod.fst=(σ.map fun i=>(i,Ent.gone)).map Prod.fst:=by
  unfold m0W
  rw[bT,bT]
  have e1:(Prod.fst∘fun j=>(b0Z σ j,Ent.rn (b0Z σ) (H0'.getD j .gone)))=b0Z σ:=rfl
  have e2:(Prod.fst∘fun i:Nat=>(i,Ent.gone))=id:=rfl
  rw[e1,e2,hσ,List.map_id]
 have hfw: ∀i,i0H ops base i o ⟨SV.rn (b0Z σ) v0,(List.range H0.length).map (b0Z σ),m0W (b0Z σ) H0.length H0'⟩=i0H ops base i o ⟨.undef,σ,σ.map fun i=>(i,Ent.gone)⟩:=fun i=>t0A hfst
 have hrd:k0H o ⟨SV.rn (b0Z σ) v0,(List.range H0.length).map (b0Z σ),m0W (b0Z σ) H0.length H0'⟩=k0H o ⟨.undef,σ,σ.map fun i=>(i,Ent.gone)⟩:=by
  unfold k0H
  simp only[hσ]
 intro hlp
 rw[d0N ho]
 subst hlp
 refine⟨⟨SV.rn (b0Z σ) v0,(List.range H0.length).map (b0Z σ),m0W (b0Z σ) H0.length H0'⟩, ?_, ?_, ?_⟩
 ·unfold opD
  rw[hgd]
  simp only
  rw[l0T hc,if_pos rfl]
  exact .inr (.inr (.inl ⟨f,args,b0Z σ,args0,H0,v0,H0',hc,ha,Sel.of σ hl hg hn hr0,fun en hm=>List.all_eq_true.1 hlive en hm,hr,hv0,SC.weak hs hle,af hlen,fun j en hj=>List.all_eq_true.1 hr2 en (aF hj),rfl⟩))
 ·rw[hfw,hrd]
  exact hk base rfl
 ·have:=k (by simp[trM])
  rw[c0K,hfw,hrd]
  exact this
end
end Go.Sy
namespace Go.Sy
open Go Go.RowKit
set_option linter.unusedVariables false
set_option linter.unusedSectionVars false
variable [Inhabited GT]
def j0Q:List Bool→List SV→List SV
 |true::ms,_::cs=> .undef::j0Q ms cs
 |false::ms,c::cs=>c::j0Q ms cs
 |_,cs=>cs
theorem j0P: ∀(ms:List Bool) (cs:List SV),(j0Q ms cs).length=cs.length
 | [],cs=>by simp[j0Q]
 |true::ms,[]=>by simp[j0Q]
 |false::ms,[]=>by simp[j0Q]
 |true::ms,c::cs=>by simp[j0Q,j0P ms cs]
 |false::ms,c::cs=>by simp[j0Q,j0P ms cs]
theorem o0b: ∀(ms:List Bool) (cs:List SV) (j:Nat) (c:SV),(j0Q ms cs)[j]?=some c→cs[j]?=some c∨(c= .undef∧j<cs.length)
 | [],cs,j,c,h=> .inl (by simpa [j0Q]using h)
 |true::ms,[],j,c,h=>by simp[j0Q]at h
 |false::ms,[],j,c,h=>by simp[j0Q]at h
 |true::ms,x::cs,0,c,h=>by simp[j0Q]at h;exact .inr ⟨h.symm,by simp⟩
 |false::ms,x::cs,0,c,h=> .inl (by simpa [j0Q]using h)
 |true::ms,x::cs,j+1,c,h=>by
  rcases o0b ms cs j c (by simpa [j0Q]using h)with h1|⟨h1,h2⟩
  ·exact .inl (by simpa using h1)
  ·exact .inr ⟨h1,by simpa using h2⟩
 |false::ms,x::cs,j+1,c,h=>by
  rcases o0b ms cs j c (by simpa [j0Q]using h)with h1|⟨h1,h2⟩
  ·exact .inl (by simpa using h1)
  ·exact .inr ⟨h1,by simpa using h2⟩
theorem Wk.boxW {F:Fr} {L:LE} {H:a0o} (i:Nat) {cs cs':List SV} (hi:H[i]?=some (.box cs))(hlen:cs'.length=cs.length)(hw: ∀(q:Nat) (c':SV),cs'[q]?=some c'→ ∃c,cs[q]?=some c∧Le c c'):Wk F L H L (H.set i (.box cs')):=by
 rintro a w ⟨hd,K,D,hv⟩
 have hil:i<H.length:=(ab.1 hi).1
 have hget: ∀(j:Nat) (en:Ent),(H.set i (.box cs'))[j]?=some en→(j=i∧en= .box cs')∨(j≠i∧H[j]?=some en):=by
  intro j en hj
  rw[aQ]at hj
  by_cases hji:i=j
  ·subst hji
   rw[if_pos rfl,if_pos hil]at hj
   cases hj
   exact .inl ⟨rfl,rfl⟩
  ·rw[if_neg hji]at hj
   exact .inr ⟨Ne.symm hji,hj⟩
 have hold: ∀(j:Nat) (en:Ent),(H.set i (.box cs'))[j]?=some en→g0K en=true→ ∃en':Ent,H[j]?=some en'∧g0K en'=true:=by
  intro j en hj hl
  rcases hget j en hj with⟨rfl,rfl⟩|⟨_,h⟩
  ·exact⟨_,hi,rfl⟩
  ·exact⟨_,h,hl⟩
 have g:=hv.grow
 refine⟨hd,K,D,⟨hv.slots,⟨fun j hj=>hv.hinv.dom j (by simpa using hj),fun j en hj=> ?_,fun j j' en en' b c n c' n' hj hj' hl hl' hdj hdj'=> ?_,hv.hinv.kw⟩,
  ⟨g.os,g.tape,g.output,g.size,g.block,g.cells,g.le,g.kk,g.dd,fun b hm=> ?_⟩⟩⟩
 ·rcases hget j en hj with⟨rfl,rfl⟩|⟨_,h⟩
  ·obtain⟨b,vs,e,h1,h2,h3,h4⟩:=hv.hinv.ent j _ hi
   refine⟨b,vs,e,h1,h2,h3,⟨hlen.trans h4.len,h4.one,fun q v c hq hc=> ?_⟩⟩
   obtain⟨c0,h5,h6⟩:=hw q c hc
   exact h6 _ _ _ _ (h4.rep q v c0 hq h5)
  ·exact hv.hinv.ent j en h
 ·obtain⟨e1,p1,p2⟩:=hold j en hj hl
  obtain⟨e2,q1,q2⟩:=hold j' en' hj' hl'
  exact hv.hinv.inj j j' e1 e2 b c n c' n' p1 q1 p2 q2 hdj hdj'
 ·obtain⟨j,en,c,n,h1,h2,h3⟩:=hm
  obtain⟨e1,p1,p2⟩:=hold j en h1 h2
  exact g.new b ⟨j,e1,c,n,p1,p2,h3⟩
theorem Wk.undefs {F:Fr} {L:LE} {H:a0o} (i:Nat)(ms:List Bool) {cs:List SV} (hi:H[i]?=some (.box cs)):Wk F L H L (H.set i (.box (j0Q ms cs))):=
 Wk.boxW i hi (j0P _ _) (fun q c hc=>by
  rcases o0b ms cs q c hc with h|⟨h,hl⟩
  ·exact⟨c,h,Le.refl _⟩
  ·subst h;exact⟨cs[q],ae hl,Le.undef _⟩)
theorem Wk.leBox {F:Fr} {L:LE} {H:a0o} (i off:Nat) {cs:List SV} {v v':SV} (hi:H[i]?=some (.box cs))(ho:cs[off]?=some v)(hle:Le v v'):Wk F L H L (H.set i (.box (cs.set off v'))):=
 Wk.boxW i hi (by simp) (fun q c hc=>by
  rw[aQ]at hc
  by_cases h:off=q
  ·subst h
   rw[if_pos rfl,if_pos (ab.1 ho).1]at hc
   cases hc
   exact⟨v,ho,hle⟩
  ·rw[if_neg h]at hc
   exact⟨c,hc,Le.refl _⟩)
end Go.Sy
namespace Go.Sy
open Go Go.RowKit
set_option linter.unusedVariables false
set_option linter.unusedSectionVars false
variable [Inhabited GT]
section
variable {F : Fr} {P : Program} {L : LE} {H : a0o} {Q : h0f} {ops : Array Oper} {p : Nat} {tr : List (List Nat × List Nat)}
theorem RJ.callX {base:Nat} {d:Option Nat} {f:FuncId} {args args0 args':List SV} {v0 v:SV} {tr2:List (List Nat×List Nat)} {H0 H0' H2:a0o} (idx:Nat)(σ:List Nat)(hidx:e0T ops base p=idx)(hres:s0t (H[idx]?)=true)
  (h:h0b (some base) ops p tr L σ ((σ++ [idx]).map fun i=>(i,Ent.gone))=some (d,f,args,tr2)) (ha:args=SV.rnL (b0Z σ) args0)
  (hl:σ.length=H0.length) (hg:σ.map (fun i=>H[i]?)=H0.map (fun en=>some (Ent.rn (b0Z σ) en))) (hn:σ.Nodup) (hr0:H0.all (Ent.refs H0.length)=true)
  (hlive:H0.all g0K=true) (hr:SV.refsL H0.length args0=true) (hle:LeL args0 args') (hs:SC P f args' H0 v0 H0') (hlen:Nat.beq H0'.length (H0.length+1)=true)
  (hv:SV.rn (pOf (b0Z σ) H0.length idx) v0=v) (hH:b0H H (m0W (pOf (b0Z σ) H0.length idx) (H0.length+1) H0')=H2) (k:RJ F P (some base) ops (p+1) tr2 (g0e L d v) H2 Q):RJ F P (some base) ops p tr L H Q:=by
 obtain⟨o,ho,hgd,hc,rfl,rfl,hk⟩:=e0V h
 subst hv;subst hH;subst hidx
 have hres':H[e0T ops base p]?=some .res:=by
  unfold s0t at hres
  split at hres
  ·assumption
  ·cases hres
 have hσ:(List.range H0.length).map (b0Z σ)=σ:=by
  apply bC
  intro i
  rw[am]
  by_cases hi:i<H0.length
  ·rw[bG hi]
   simp only[aI,b0Z,av]
   rw[ae (by omega)];rfl
  ·rw[aw (by simpa using hi),aw (by omega)];rfl
 have hpm:(List.range (H0.length+1)).map (pOf (b0Z σ) H0.length (e0T ops base p))=σ++ [e0T ops base p]:=by
  rw[cB,cC]
  congr 1
  ·rw[←hσ]
   refine bV fun j hj=> ?_
   simp[pOf,bf.1 hj,hσ]
  ·simp[pOf]
 have hfst:(m0W (pOf (b0Z σ) H0.length (e0T ops base p)) (H0.length+1) H0').map Prod.fst=((σ++ [e0T ops base p]).map fun i=>(i,Ent.gone)).map Prod.fst:=by
  unfold m0W
  rw[bT,bT]
  have e1:(Prod.fst∘fun j=>(pOf (b0Z σ) H0.length (e0T ops base p) j,Ent.rn (pOf (b0Z σ) H0.length (e0T ops base p)) (H0'.getD j .gone)))=pOf (b0Z σ) H0.length (e0T ops base p):=rfl
  have e2:(Prod.fst∘fun i:Nat=>(i,Ent.gone))=id:=rfl
  rw[e1,e2,hpm,List.map_id]
 have hfw: ∀i,i0H ops base i o ⟨SV.rn (pOf (b0Z σ) H0.length (e0T ops base p)) v0,(List.range H0.length).map (b0Z σ),m0W (pOf (b0Z σ) H0.length (e0T ops base p)) (H0.length+1) H0'⟩=i0H ops base i o ⟨.undef,σ,(σ++ [e0T ops base p]).map fun i=>(i,Ent.gone)⟩:=fun i=>t0A hfst
 have hrd:k0H o ⟨SV.rn (pOf (b0Z σ) H0.length (e0T ops base p)) v0,(List.range H0.length).map (b0Z σ),m0W (pOf (b0Z σ) H0.length (e0T ops base p)) (H0.length+1) H0'⟩=k0H o ⟨.undef,σ,(σ++ [e0T ops base p]).map fun i=>(i,Ent.gone)⟩:=by
  unfold k0H
  simp only[hσ]
 intro hlp
 rw[d0N ho]
 subst hlp
 refine⟨⟨SV.rn (pOf (b0Z σ) H0.length (e0T ops base tr.length)) v0,(List.range H0.length).map (b0Z σ),m0W (pOf (b0Z σ) H0.length (e0T ops base tr.length)) (H0.length+1) H0'⟩, ?_, ?_, ?_⟩
 ·unfold opD
  rw[hgd]
  simp only
  rw[l0T hc,if_pos rfl]
  exact .inr (.inr (.inr ⟨f,args,b0Z σ,args0,H0,v0,H0',hc,ha,Sel.of σ hl hg hn hr0,fun en hm=>List.all_eq_true.1 hlive en hm,hr,SC.weak hs hle,af hlen,hres',rfl⟩))
 ·rw[hfw,hrd]
  exact hk base rfl
 ·have:=k (by simp[trM])
  rw[c0K,hfw,hrd]
  exact this
end
end Go.Sy
namespace Go.Sy
open Go Go.RowKit
set_option linter.unusedVariables false
set_option linter.unusedSectionVars false
variable [Inhabited GT]
theorem SC.nil {P:Program} {f:FuncId} {args1 args2:List SV} {H0 H0':a0o} {v:SV} {k:Nat} {e:TypeId} (h:SC P f (args1++ .vc H0.length::args2) (H0++ [.vec 0 k e []]) v H0'):SC P f (args1++ .nl::args2) H0 v H0':=by
 refine⟨h.1,fun w K D vals hlen hrep hi hG=> ?_⟩
 obtain⟨g,hi2⟩:=t0z hi k e
 refine(h.2 w K _ vals (by simpa using hlen) (fun j x c hx hc=> ?_) hi2 (g0E hG)).mono ?_
 ·by_cases hj:j=args1.length
  ·subst hj
   have hc2:(args1++SV.vc H0.length::args2)[args1.length]?=some (.vc H0.length):=by simp
   rw[hc2]at hc
   cases hc
   have h1:=hrep args1.length x .nl hx (by simp)
   cases h1 with
   |nl a=>exact .vcn _ a (j0w _ _ _)
  ·have hc2:(args1++SV.nl::args2)[j]?=some c:=by
    rw[←hc,aD,aD]
    split
    ·rfl
    ·rename_i hlt
     obtain⟨q,hq⟩: ∃q,j-args1.length=q+1:=⟨j-args1.length-1,by omega⟩
     rw[hq];rfl
   exact g.rep (hrep j x c hx hc2)
 ·rintro ex w' ⟨r,he,K',D',g',hi',hr⟩
  exact⟨r,he,K',D',g.trans g',hi',hr⟩
end Go.Sy
namespace Go.Sy
open Go Go.RowKit
set_option linter.unusedVariables false
set_option linter.unusedSectionVars false
variable [Inhabited GT]
theorem B0O {P:Program} {f:FuncId} {fn:Func} {args:List SV} {H H':a0o}
  (h: ∀F:Fr,F.n=fn.ntmps→F.H0=H→(∀i,F.H0.length≤i→F.D0 i=none)→J F P (g0G fn) (i0j 0 args) H (A0u F H')) (hf:P.funcs[f]?=some fn:=by kernel_rfl) (hb:fn.body.isSome=true:=by kernel_rfl) (hcal:c0N P f=true:=by kernel_rfl) (hin:d0e fn.ntmps (g0G fn)=true:=by kernel_rfl) (hn:Nat.ble args.length fn.ntmps=true:=by kernel_rfl):SP P f args H H':=K.fnP hf hb hcal hin hn h
theorem B0P {P:Program} {f:FuncId} {fn:Func} {args:List SV} {v:SV} {H H':a0o}
  (h: ∀F:Fr,F.n=fn.ntmps→F.H0=H→(∀i,F.H0.length≤i→F.D0 i=none)→F.ds=[]→J F P (g0G fn) (i0j 0 args) H (x0B P fn F v H')) (hf:P.funcs[f]?=some fn:=by kernel_rfl) (hb:fn.body.isSome=true:=by kernel_rfl) (hcal:c0N P f=true:=by kernel_rfl) (hin:d0e fn.ntmps (g0G fn)=true:=by kernel_rfl) (hn:Nat.ble args.length fn.ntmps=true:=by kernel_rfl):SC P f args H v H':=K.fnD hf hb hcal hin hn h
theorem B0J {P:Program} {f:FuncId} {fn:Func} {args:List SV} {H H':a0o} (pan:Bool)(t4 t5:Nat)
  (h: ∀F:Fr,F.n=fn.ntmps→F.H0=H→(∀i,F.H0.length≤i→F.D0 i=none)→J F P (cr (g0G fn)) ((t5, .bool pan)::(t4, .undef)::i0j 0 args) H (u0k P fn F (.tup []) H')) (hf:P.funcs[f]?=some fn:=by kernel_rfl) (hb:fn.body.isSome=true:=by kernel_rfl) (hcal:c0N P f=true:=by kernel_rfl) (hin:d0e fn.ntmps (g0G fn)=true:=by kernel_rfl) (hn:Nat.ble args.length fn.ntmps=true:=by kernel_rfl)
  (hrec:z0d P (g0G fn) t4 t5=true:=by kernel_rfl) (ht:(Nat.blt t4 fn.ntmps&&Nat.blt t5 fn.ntmps)=true:=by kernel_rfl):SD P f pan args H H':=K.fnC pan t4 t5 hf hb hcal hin hn hrec ht h
end Go.Sy
