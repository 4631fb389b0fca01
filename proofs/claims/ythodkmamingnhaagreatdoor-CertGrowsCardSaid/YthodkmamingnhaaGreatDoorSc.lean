import Derived.Recover
import Derived.LaidEql
import Derived.RangeFuncLeaves
import Derived.RangeFuncCalls
import Derived.OrdersIn
import Derived.LoopNIn
import Derived.RangeFuncNested
import Derived.Test.YthodkmamingnhaaGreatDoorSb
set_option linter.all false
namespace Go.Sy
open Go Go.RowKit
section
variable [Inhabited GT]
def Pan(ch:List PanicEntry):Prop:= ∃t v,ch=[{ v:= .iface t v,recovered:=false }]
def SP(P:Program)(f:FuncId)(args:List SV)(H:a0f)(H':a0f):Prop:=
  b0P P f=true/\
  ∀(w:World) (K:Nat->Nat) (D:DM) (vals:List Value),vals.length=args.length->(∀(j:Nat) (x:Value) (c:SV),vals[j]?=some x->args[j]?=some c->Rep w K D x c)->HInv w K D H->i0E w K D->
    Calls P f vals.toArray w λe w'=> ∃ch,e= .panicked ch/\Pan ch/\Good w K D H (.bool true) w' .undef H'
theorem SP.frame {P:Program} {fid:FuncId} {args0:List SV} {H0:a0f} {H0':a0f} (h:SP P fid args0 H0 H0') {H:a0f} {f:Nat->Nat} (hs:Sel H f H0)
    (hlive: ∀en∈H0,f0z en=true) (ha:SV.refsL H0.length args0=true) (hl:H0.length<=H0'.length):SP P fid (SV.rnL f args0) H (d0q f H0.length H H0'):=by
  refine⟨h.1,λw K D vals hlen hr hi hG=> ?_⟩
  refine(h.2 w K (i0F D f H0.length) vals (by rw[hlen,b0M]) (λj x c hx hc=>f0e (hr j x (SV.rn f c) hx (by rw[d0Z,hc];rfl)) c rfl (d0M ha j c hc)) (hs.hinv hi) (g0F hG)).mono ?_
  rintro e w' ⟨ch,he,hp,hg⟩
  exact⟨ch,he,hp,hg.frame hs hi hlive hl⟩
theorem SP.weak {P:Program} {f:FuncId} {args args':List SV} {H H':a0f} (h:SP P f args' H H')(hl:LeL args args'):SP P f args H H':=
  ⟨h.1,λw K D vals hlen hr hi hG=>h.2 w K D vals (by rw[hlen,hl.length]) (λj x c hx hc=>by
    obtain⟨b,hb,hle⟩:=hl.get j c hc
    exact hle _ _ _ _ (hr j x b hx hb)) hi hG⟩
def PP(F:Fr)(Q:f0C)(L:LE)(H:a0f):Prop:= ∀ch a w,Pan ch->Sees F L H a w->Q (.panic ch) a w
section
variable {F : Fr} {P : Program} {c : Code} {L : LE} {H : a0f} {Q : f0C} {ops : Array Oper} {p : Nat}
theorem PP.next(h:PP F Q L H):PP F (i0X F P c Q) L H:=λch a w hp hs=>h ch a w hp hs
theorem PP.block {i:Nat} (h:PP F Q L H):PP F (Exit.inBlock i Q) L H:=λch a w hp hs=>h ch a w hp hs
theorem PP.cutXr {S X:Type} {R:S->LE×a0f} {x:X} (h:PP F Q L H):PP F (cutX F R Q (.inr x:S⊕X)) L H:=λch a w hp hs=>⟨(λe=>nomatch e),h ch a w hp hs⟩
theorem PP.loopOut {S O:Type} {R:S->LE×a0f} {o o':O} (h:o'=o->PP F Q L H):PP F (p0k F R Q o (.inr o')) L H:=λch a w hp hs=>⟨(λe=>nomatch e),λhe=>h he ch a w hp hs⟩
theorem PP.wk {L2:LE} {H2:a0f} (h:Wk F L H L2 H2)(k:PP F Q L2 H2):PP F Q L H:=λch a w hp hs=>k ch a w hp (h a w hs)
def A0X(P:Program)(ops:Array Oper)(p:Nat):Option Nat:=match ops.toList[p]?,ops.toList[p+1]? with
  |some o,some o'=>match o.op,o.dst,o.guard,o'.op,o'.guard with
    | .makeInterface t (.const (.string _)),some d,none, .panic (.tmp d'),none=>match P.underlying t with
      |some .string=>bif Nat.beq d d' then some d else none
      |_=>none
    |_,_,_,_,_=>none
  |_,_=>none
theorem RJ.panic {d:Nat} (h:A0X P ops p=some d)(k:PP F Q (f0d L (some d) .undef) H)(hd:Nat.blt d F.n=true):RJ F P none ops p [] L H Q:=by
  intro hin a w hs
  unfold A0X at h
  split at h
  rename_i o o' ho ho'
  split at h
  rename_i t s d1 d2 e1 e2 e3 e4 e5
  split at h
  rename_i hu
  cases hb:Nat.beq d1 d2 with
  |false=>rw[hb]at h;cases h
  |true=>
    rw[hb]at h
    obtain rfl:=au h
    obtain rfl:=ae hb
    rw[d0V ho,d0V ho']
    refine wpList_step λKK hKK=> ?_
    have hg1:Region.wanted o (yielded ops a.tmps)=true:=by unfold Region.wanted;rw[e3]
    rw[if_pos hg1]
    unfold Oper.wp
    have hr1:(execOp a.eval o).run P w= .ok (.value (.iface t (.string s))) w:=by
      unfold execOp
      simp[e1,Instr.makeInterface,run_underlying hu,Act.eval]
    rw[hr1]
    refine hKK _ _ ?_
    refine wpList_step λKK2 hKK2=> ?_
    have hg2: ∀tm,Region.wanted o' (yielded ops tm)=true:=λtm=>by unfold Region.wanted;rw[e5]
    rw[if_pos (hg2 _)]
    unfold Oper.wp
    obtain⟨hdd,K,D,hi⟩:=hs
    have hsz:d1<a.tmps.size:=by rw[hi.slots.size];exact af hd
    have hev:(a.put o.dst (.iface t (.string s))).eval (.tmp d1)= .iface t (.string s):=by
      rw[e2]
      simp[Act.put,Act.eval,aT,hsz]
    have hr2:(execOp (a.put o.dst (.iface t (.string s))).eval o').run P w= .halt (.panic (.iface t (.string s))) w:=by
      unfold execOp
      simp[e4,Instr.panic,hev,goPanic]
    rw[hr2]
    refine k _ _ _ ⟨_,_,rfl⟩ ⟨by rw[a0T];exact hdd,K,D, ?_⟩
    rw[<-b0e,e2]
    exact⟨hi.slots.put _ (.undef _),hi.hinv,hi.grow⟩
  cases h
  cases h
  cases h
def A0W(F:Fr)(H':a0f):f0C:=λe a w=> ∃ch,e= .panic ch/\Pan ch/\a.defers=F.ds/\Good F.w0 F.K0 F.D0 F.H0 (.bool true) w .undef H'
theorem w0J {H' H0:a0f} {v v1:SV} (σ:List Nat)(hH:F.H0=H0)(hl:σ.length=H'.length)(hg:σ.map (λi=>H[i]?)=H'.map (λen=>some (Ent.rn (b0r σ) en)))(hnd:σ.Nodup)(hr:H'.all (Ent.refs H'.length)=true)(hk:σ.take H0.length=List.range H0.length)(hle:Nat.ble H0.length H'.length=true)(hv:v1=SV.rn (b0r σ) v)(hvr:SV.refs H'.length v=true):
    Back F.H0.length H (b0r σ) v1 v H':=by
  refine⟨Sel.of σ hl hg hnd hr,λj hj=> ?_,by rw[hH];exact af hle,hv,hvr⟩
  rw[hH]at hj
  have:=congrArg (λl=>l[j]?) hk
  simp only[aM,if_pos hj,bf hj]at this
  unfold b0r
  rw[ak,this];rfl
theorem K.panV {H0 H':a0f} (σ:List Nat)(hH:F.H0=H0)(hdom: ∀i,F.H0.length<=i->F.D0 i=none)
    (hl:σ.length=H'.length) (hg:σ.map (λi=>H[i]?)=H'.map (λen=>some (Ent.rn (b0r σ) en))) (hnd:σ.Nodup) (hr:H'.all (Ent.refs H'.length)=true) (hk:σ.take H0.length=List.range H0.length) (hle:Nat.ble H0.length H'.length=true):
    PP F (A0W F H') L H:=λch a w hp hs=>by
  obtain⟨hd,K,D,hi⟩:=hs
  exact⟨ch,rfl,hp,hd,h0Z hi.grow hi.hinv (.undef _) (w0J σ hH hl hg hnd hr hk hle rfl rfl) hdom⟩
theorem l0R {N:Nat} {w:World} {K:Nat->Nat} {D:DM} {vals:List Value} {args:List SV} (hlen:vals.length=args.length)(hrep: ∀(j:Nat) (x:Value) (c:SV),vals[j]?=some x->args[j]?=some c->Rep w K D x c)
    (hi:HInv w K D H) (hG:i0E w K D) (hn:args.length<=N):Sees ⟨N,w,K,D,H,[]⟩ (f0b 0 args) H { tmps:=vals.toArray++Array.replicate (N-vals.toArray.size) undef,defers:=[] } w:=by
  have hslots:Slots N w K D (a0v (f0b 0 args)) (vals.toArray++Array.replicate (N-vals.toArray.size) undef):=by
    refine⟨by simp;omega,λi hin=> ?_,hG⟩
    show Rep w K D _ (lk (f0b 0 args) i)
    rw[k0b,if_pos (bg _),bC]
    by_cases hia:i<args.length
    have hiv:i<vals.length:=by omega
    rw[ac hia,ba]
    have hg:(vals.toArray++Array.replicate (N-vals.toArray.size) undef).getD i undef=vals[i]:=by
      rw[aT,bu (by simpa using hiv)]
      simp[hiv]
    rw[hg]
    exact hrep i _ _ (ac hiv) (ac hia)
    rw[aw (by omega)]
    exact .undef _
  exact⟨rfl,K,D,⟨hslots,hi,Grow.refl _ _ _ _⟩⟩
theorem K.fnP {f:FuncId} {fn:Func} (hf:P.funcs[f]?=some fn)(hb:fn.body.isSome=true)(hcal:b0P P f=true)(hin:b0E fn.ntmps (f0A fn)=true)
    {args:List SV} {H H':a0f} (hn:Nat.ble args.length fn.ntmps=true)
    (h: ∀F:Fr,F.n=fn.ntmps->F.H0=H->(∀i,F.H0.length<=i->F.D0 i=none)->J F P (f0A fn) (f0b 0 args) H (A0W F H')):SP P f args H H':=by
  unfold f0A at*
  cases hbb:fn.body with
  |none=>rw[hbb]at hb;cases hb
  |some c=>
    rw[hbb]at hin h
    refine⟨hcal,λw K D vals hlen hrep hi hG=> ?_⟩
    refine calls_of_wp hf hbb (Code.wp_mono (λe a' w' hq=> ?_) (h ⟨fn.ntmps,w,K,D,H,[]⟩ rfl rfl hi.dom hin _ w (l0R hlen hrep hi hG (af hn))))
    obtain⟨ch,rfl,hp,hd,hg⟩:=hq
    exact⟨hd,ch,rfl,hp,hg⟩
theorem RJ.callP {d:Option Nat} {f:FuncId} {args args0 args':List SV} {H0 H0' H2:a0f} (σ:List Nat)(h:h0d none ops p [] L []=some (d,f,args,[]))(ha:args=SV.rnL (b0r σ) args0)(hl:σ.length=H0.length)(hg:σ.map (λi=>H[i]?)=H0.map (λen=>some (Ent.rn (b0r σ) en)))(hn:σ.Nodup)(hr0:H0.all (Ent.refs H0.length)=true)
    (hlive:H0.all f0z=true) (hr:SV.refsL H0.length args0=true) (hle:LeL args0 args') (hs:SP P f args' H0 H0') (hle':Nat.ble H0.length H0'.length=true)
    (hH:d0q (b0r σ) H0.length H H0'=H2) (k:PP F Q L H2):RJ F P none ops p [] L H Q:=by
  obtain⟨o,ho,hgd,hc,hdd,_,hk⟩:=e0N h
  subst hH
  intro hin a w hst
  have hbo:Oper.inB F.n ops o=true:=List.all_eq_true.1 hin o (l0s ho)
  obtain⟨hd,K,D,hi⟩:=hst
  rw[d0V ho]
  refine wpList_step λKK hKK=> ?_
  rw[b0H hi.slots (Oper.inB_guard hbo) hgd,if_pos rfl]
  have hfr:=SP.frame (SP.weak hs hle) (Sel.of σ hl hg hn hr0) (λen hm=>List.all_eq_true.1 hlive en hm) hr (af hle')
  rw[<-ha]at hfr
  obtain⟨vals,hrun,hvl,hvr⟩:=m0G (P:=P) hi.slots (Oper.inB_op hbo) hc
  unfold Oper.wp
  rw[hrun hfr.1]
  refine(hfr.2 w K D vals hvl hvr hi.hinv hi.slots.glob).mono ?_
  rintro e w' ⟨ch,rfl,hp,K',D',gr,hi',_⟩
  exact k _ _ _ hp ⟨hd,K',D',⟨hi.slots.mono λ_ _=>gr.rep,hi',hi.grow.trans gr⟩⟩
end
/-! Calls that are put off. -/
def uOk(pan:Bool)(u:FrameMode):Prop:=match pan with|true=> ∃ch,Pan ch/\u= .panicking ch|false=>u= .returning
def SD(P:Program)(f:FuncId)(pan:Bool)(args:List SV)(H H':a0f):Prop:=
  b0P P f=true/\ ∀(w:World) (K:Nat->Nat) (D:DM) (vals:List Value) (u:FrameMode),vals.length=args.length->(∀(j:Nat) (x:Value) (c:SV),vals[j]?=some x->args[j]?=some c->Rep w K D x c)->HInv w K D H->i0E w K D->
    uOk pan u->
    CallsD P f vals.toArray u w λe u' w'=> ∃r,e= .returned r/\settle u'= .returning/\Good w K D H r w' (.tup []) H'
theorem SD.frame {P:Program} {fid:FuncId} {pan:Bool} {args0:List SV} {H0:a0f} {H0':a0f} (h:SD P fid pan args0 H0 H0') {H:a0f} {f:Nat->Nat} (hs:Sel H f H0)
    (hlive: ∀en∈H0,f0z en=true) (ha:SV.refsL H0.length args0=true) (hl:H0.length<=H0'.length):SD P fid pan (SV.rnL f args0) H (d0q f H0.length H H0'):=by
  refine⟨h.1,λw K D vals u hlen hr hi hG hu=> ?_⟩
  refine(h.2 w K (i0F D f H0.length) vals u (by rw[hlen,b0M]) (λj x c hx hc=>f0e (hr j x (SV.rn f c) hx (by rw[d0Z,hc];rfl)) c rfl (d0M ha j c hc)) (hs.hinv hi) (g0F hG) hu).mono ?_
  rintro e u' w' ⟨r,he,hst,hg⟩
  exact⟨r,he,hst,hg.frame hs hi hlive hl⟩
section
variable {F : Fr} {P : Program} {c : Code} {L : LE} {H : a0f} {Q : f0C} {ops : Array Oper} {p : Nat}
def y0r(P:Program)(F:Fr)(f:FuncId)(args:List SV)(d:Deferred):Prop:=
  ∃fv caps vals,d.target= .fn fv caps/\(b0P P f=true-> ∀w,(invoke d.target d.args).run P w= .ok (.enter f (List.toArray vals)) w)/\vals.length=args.length/\ ∀(j:Nat) (x:Value) (c:SV),vals[j]?=some x->args[j]?=some c->Rep F.w0 F.K0 F.D0 x c
def y0h(ops:Array Oper)(p:Nat)(L:LE):Option (FuncId×List SV):=match ops.toList[p]? with
  |some o=>match o.op,o.guard,o.dst with
    | .defer c,none,none=>match c.callee with
      | .value f=>match a0F (a0v L) f,c.args.toList with
        |some (.fn (.func f) first captured),[]=>some (f,first++captured)
        |_,_=>none
      |_=>none
    |_,_,_=>none
  |none=>none
theorem RJ.defer {f:FuncId} {args:List SV} (h:y0h ops p L=some (f,args))(hds:F.ds=[])
    (k: ∀(w:World) (K:Nat->Nat) (D:DM) (d:Deferred),y0r P ⟨F.n,w,K,D,H,[d]⟩ f args d->Grow F.w0 F.K0 F.D0 F.H0 w K D H->(∀i,H.length<=i->D i=none)->RJ ⟨F.n,w,K,D,H,[d]⟩ P none ops (p+1) [] L H Q):RJ F P none ops p [] L H Q:=by
  intro hin a w hs
  unfold y0h at h
  split at h
  rename_i o ho
  split at h
  rename_i c e1 e2 e3
  split at h
  rename_i fo hcal
  split at h
  rename_i f' first captured hfe hargs
  cases h
  have hbo:Oper.inB F.n ops o=true:=List.all_eq_true.1 hin o (l0s ho)
  obtain⟨hd,K,D,hi⟩:=hs
  rw[d0V ho]
  refine wpList_step λKK hKK=> ?_
  rw[if_pos (by unfold Region.wanted;rw[e2])]
  have hb:=Oper.inB_op hbo
  unfold Op.inB at hb
  rw[aK]at hb
  have hfr:=a0e hi.slots (hb fo (by simp[e1,Op.operands,Call.operands,hcal])) hfe
  generalize hfv:a.eval fo=fv at hfr
  cases hfr with
  |fn _ fs caps _ _ hc1 hc2 hr1 hr2=>
    have ha0:c.args= #[]:=by rw[<-be];exact hargs
    have hrun:(execOp a.eval o).run P w= .ok (.defer { target:= .fn (.func f) caps.toArray,args:=fs.toArray }) w:=by
      unfold execOp
      simp[e1,resolve,hcal,hfv,Deferred.ofValue,ha0]
    unfold Oper.wp
    rw[hrun]
    refine hKK _ _ ?_
    refine k w K D { target:= .fn (.func f) caps.toArray,args:=fs.toArray } ?_ hi.grow hi.hinv.dom hin _ w ?_
    refine⟨_,_,fs++caps,rfl,λhcb w'=> ?_,by simp[hc1,hc2],λj x y hx hy=> ?_⟩
    have:=q0f (P:=P) (w:=w') (o:= { o with op:= .call { callee:= .value fo,args:= #[],argTypes:= #[] } }) (a:=a) rfl rfl hfv hcb
    unfold execOp at this
    simp only[resolve,hfv,Deferred.ofValue,Sem.run_bind,Sem.run_pure,Result.andThen_ok]at this
    simpa using this
    rw[aD]at hx hy
    rw[hc1]at hy
    split at hx
    rename_i hj;rw[if_pos hj]at hy;exact hr1 j x y hx hy
    rename_i hj;rw[if_neg hj]at hy;exact hr2 _ x y hx hy
    refine⟨?_,K,D, ?_⟩
    rw[a0T,hd,hds]
    rw[e3]
    exact⟨hi.slots,hi.hinv,Grow.refl _ _ _ _⟩
  cases h
  cases h
  cases h
  cases h
def t0K(P:Program)(fn:Func)(F:Fr)(v:SV)(H':a0f):f0C:=λe a w=> ∃u,(match e with| .normal=>u=FrameMode.returning| .ret=>u= .returning| .panic ch=>u= .panicking ch|_=>False)/\
  Leaves P fn a.tmps (λe' w'=> ∃r,e'= .returned r/\Good F.w0 F.K0 F.D0 F.H0 r w' v H') a.defers u w
theorem K.fnD {f:FuncId} {fn:Func} (hf:P.funcs[f]?=some fn)(hb:fn.body.isSome=true)(hcal:b0P P f=true)(hin:b0E fn.ntmps (f0A fn)=true)
    {args:List SV} {v:SV} {H H':a0f} (hn:Nat.ble args.length fn.ntmps=true)
    (h: ∀F:Fr,F.n=fn.ntmps->F.H0=H->(∀i,F.H0.length<=i->F.D0 i=none)->F.ds=[]->J F P (f0A fn) (f0b 0 args) H (t0K P fn F v H')):SC P f args H v H':=by
  unfold f0A at*
  cases hbb:fn.body with
  |none=>rw[hbb]at hb;cases hb
  |some c=>
    rw[hbb]at hin h
    refine⟨hcal,λw K D vals hlen hrep hi hG=> ?_⟩
    refine calls_of_wp_defers hf hbb (Code.wp_mono (λe a' w' hq=> ?_) (h ⟨fn.ntmps,w,K,D,H,[]⟩ rfl rfl hi.dom rfl hin _ w (l0R hlen hrep hi hG (af hn))))
    obtain⟨u,hu,hl⟩:=hq
    cases e<;>simp only at hu<;>first|exact hu.elim|(subst hu;exact hl)
theorem v0k {F1:Fr} {fn:Func} {f:FuncId} {pan:Bool} {args args0:List SV} {H0 H0' H2 H1 H':a0f} {v v1 v2:SV} {d:Deferred} {u:FrameMode} {a:Act} {w:World} (σ τ:List Nat)(hok:y0r P F1 f args d)(hgr:Grow F.w0 F.K0 F.D0 F.H0 F1.w0 F1.K0 F1.D0 F1.H0)(hds:F1.ds=[d])(hn:F1.n=fn.ntmps)
    (hsd:SD P f pan args0 H0 H0') (ha:args=SV.rnL (b0r σ) args0) (hl:σ.length=H0.length) (hg:σ.map (λi=>H[i]?)=H0.map (λen=>some (Ent.rn (b0r σ) en))) (hnd:σ.Nodup) (hr0:H0.all (Ent.refs H0.length)=true)
    (hlive:H0.all f0z=true) (hr:SV.refsL H0.length args0=true) (hle':Nat.ble H0.length H0'.length=true) (hH:d0q (b0r σ) H0.length H H0'=H2)
    (hin:i0G fn.ntmps fn.results.toList=true) (hret:r0r P fn.results.toList L H2=some v1) (hF:F.H0=H1) (hdom: ∀i,F.H0.length<=i->F.D0 i=none)
    (hl':τ.length=H'.length) (hg':τ.map (λi=>H2[i]?)=H'.map (λen=>some (Ent.rn (b0r τ) en))) (hnd':τ.Nodup) (hr':H'.all (Ent.refs H'.length)=true) (hk':τ.take H1.length=List.range H1.length) (hle2:Nat.ble H1.length H'.length=true) (hv:v1=SV.rn (b0r τ) v) (hvr:SV.refs H'.length v=true) (hle3:Le v v2)
    (hu:uOk pan u) (hs:Sees F1 L H a w):
    Leaves P fn a.tmps (λe' w'=> ∃r,e'= .returned r/\Good F.w0 F.K0 F.D0 F.H0 r w' v2 H') a.defers u w:=by
  obtain⟨hd,K,D,hi⟩:=hs
  rw[hd,hds]
  obtain⟨fv,caps,vals,ht,hinv,hvl,hvr'⟩:=hok
  have hfr:=SD.frame hsd (Sel.of σ hl hg hnd hr0) (λen hm=>List.all_eq_true.1 hlive en hm) hr (af hle')
  rw[<-ha,hH]at hfr
  refine⟨?_,fv,caps,f,vals.toArray,ht,hinv hfr.1 w, ?_⟩
  cases pan with
  |true=>obtain⟨ch,_,rfl⟩:=hu;exact λe=>nomatch e
  |false=>obtain rfl:u= .returning:=hu;exact λe=>nomatch e
  refine(hfr.2 w K D vals u hvl (λj x y hx hy=>hi.grow.rep (hvr' j x y hx hy)) hi.hinv hi.slots.glob hu).mono ?_
  rintro e u' w' ⟨r,rfl,hst,K',D',gr,hi',_⟩
  simp only
  rw[hst]
  have hi2:Inv F1 w' K' D' H2 (a0v L) a.tmps:=⟨hi.slots.mono λ_ _=>gr.rep,hi',hi.grow.trans gr⟩
  obtain⟨r2,h1,h2⟩:=n0q (P:=P) (fn:=fn) hi2 (by rw[hn];exact hin) hret
  exact⟨r2,h1,r2,rfl,(h0Z (hgr.trans (hi.grow.trans gr)) hi' h2 (w0J τ hF hl' hg' hnd' hr' hk' hle2 hv hvr) hdom).le hle3⟩
theorem PJ.retD {F1:Fr} {fn:Func} {f:FuncId} {args args0:List SV} {H0 H0' H2 H1 H':a0f} {v v1 v2:SV} {d:Deferred} (σ τ:List Nat)(hok:y0r P F1 f args d)(hgr:Grow F.w0 F.K0 F.D0 F.H0 F1.w0 F1.K0 F1.D0 F1.H0)(hds:F1.ds=[d])(hn:F1.n=fn.ntmps)
    (hsd:SD P f false args0 H0 H0') (ha:args=SV.rnL (b0r σ) args0) (hl:σ.length=H0.length) (hg:σ.map (λi=>H[i]?)=H0.map (λen=>some (Ent.rn (b0r σ) en))) (hnd:σ.Nodup) (hr0:H0.all (Ent.refs H0.length)=true)
    (hlive:H0.all f0z=true) (hr:SV.refsL H0.length args0=true) (hle':Nat.ble H0.length H0'.length=true) (hH:d0q (b0r σ) H0.length H H0'=H2)
    (hin:i0G fn.ntmps fn.results.toList=true) (hret:r0r P fn.results.toList L H2=some v1) (hF:F.H0=H1) (hdom: ∀i,F.H0.length<=i->F.D0 i=none)
    (hl':τ.length=H'.length) (hg':τ.map (λi=>H2[i]?)=H'.map (λen=>some (Ent.rn (b0r τ) en))) (hnd':τ.Nodup) (hr':H'.all (Ent.refs H'.length)=true) (hk':τ.take H1.length=List.range H1.length) (hle2:Nat.ble H1.length H'.length=true) (hv:v1=SV.rn (b0r τ) v) (hvr:SV.refs H'.length v=true) (hle3:Le v v2):
    PJ F1 (t0K P fn F v2 H') .ret L H:=λa w hs=>⟨.returning,rfl,v0k σ τ hok hgr hds hn hsd ha hl hg hnd hr0 hlive hr hle' hH hin hret hF hdom hl' hg' hnd' hr' hk' hle2 hv hvr hle3 rfl hs⟩
theorem PP.retD {F1:Fr} {fn:Func} {f:FuncId} {args args0:List SV} {H0 H0' H2 H1 H':a0f} {v v1 v2:SV} {d:Deferred} (σ τ:List Nat)(hok:y0r P F1 f args d)(hgr:Grow F.w0 F.K0 F.D0 F.H0 F1.w0 F1.K0 F1.D0 F1.H0)(hds:F1.ds=[d])(hn:F1.n=fn.ntmps)
    (hsd:SD P f true args0 H0 H0') (ha:args=SV.rnL (b0r σ) args0) (hl:σ.length=H0.length) (hg:σ.map (λi=>H[i]?)=H0.map (λen=>some (Ent.rn (b0r σ) en))) (hnd:σ.Nodup) (hr0:H0.all (Ent.refs H0.length)=true)
    (hlive:H0.all f0z=true) (hr:SV.refsL H0.length args0=true) (hle':Nat.ble H0.length H0'.length=true) (hH:d0q (b0r σ) H0.length H H0'=H2)
    (hin:i0G fn.ntmps fn.results.toList=true) (hret:r0r P fn.results.toList L H2=some v1) (hF:F.H0=H1) (hdom: ∀i,F.H0.length<=i->F.D0 i=none)
    (hl':τ.length=H'.length) (hg':τ.map (λi=>H2[i]?)=H'.map (λen=>some (Ent.rn (b0r τ) en))) (hnd':τ.Nodup) (hr':H'.all (Ent.refs H'.length)=true) (hk':τ.take H1.length=List.range H1.length) (hle2:Nat.ble H1.length H'.length=true) (hv:v1=SV.rn (b0r τ) v) (hvr:SV.refs H'.length v=true) (hle3:Le v v2):
    PP F1 (t0K P fn F v2 H') L H:=λch a w hp hs=>⟨.panicking ch,rfl,v0k σ τ hok hgr hds hn hsd ha hl hg hnd hr0 hlive hr hle' hH hin hret hF hdom hl' hg' hnd' hr' hk' hle2 hv hvr hle3 ⟨ch,hp,rfl⟩ hs⟩
def v0p(P:Program)(c:Code)(t4 t5:Nat):Bool:=n0I c&&(m0m false (cl c)&&(match(h0g (cl c)).toList with
  | [o,o']=>match o.op,o.dst,o.guard,o'.op,o'.dst,o'.guard with
    | .call cc,some d,none, .binOp .neq t (.tmp d') (.const .nilIface) _,some d2,none=>match cc.callee,P.underlying t with
      | .builtin .recover,some (.interface _)=>Nat.beq d t4&&(Nat.beq d' t4&&Nat.beq d2 t5)
      |_,_=>false
    |_,_,_,_,_,_=>false
  |_=>false))
theorem K.fnC {f:FuncId} {fn:Func} (pan:Bool)(t4 t5:Nat)(hf:P.funcs[f]?=some fn)(hb:fn.body.isSome=true)(hcal:b0P P f=true)(hin:b0E fn.ntmps (f0A fn)=true)
    {args:List SV} {H H':a0f} (hn:Nat.ble args.length fn.ntmps=true) (hrec:v0p P (f0A fn) t4 t5=true) (ht:(Nat.blt t4 fn.ntmps&&Nat.blt t5 fn.ntmps)=true)
    (h: ∀F:Fr,F.n=fn.ntmps->F.H0=H->(∀i,F.H0.length<=i->F.D0 i=none)->J F P (cr (f0A fn)) ((t5, .bool pan)::(t4, .undef)::f0b 0 args) H (s0P P fn F (.tup []) H')):SD P f pan args H H':=by
  unfold f0A at*
  cases hbb:fn.body with
  |none=>rw[hbb]at hb;cases hb
  |some c=>
    rw[hbb]at hin h hrec
    simp only[ba]at hin h hrec
    refine⟨hcal,λw K D vals u hlen hrep hi hG hu=> ?_⟩
    refine callsD_of_wpS hf hbb (λc₀ cs hcu=> ?_)
    unfold v0p at hrec
    simp only[aa]at hrec
    obtain⟨hsq,hrg,hops⟩:=hrec
    have hc:=s0K hsq
    have hst:=l0R (N:=fn.ntmps) hlen hrep hi hG (af hn)
    generalize hcl:cl c=cl0 at*
    cases cl0<;>first|cases hrg|skip
    rename_i ri ops dd
    cases dd with
    |true=>cases hrg
    |false=>
    simp only[h0g]at hops
    split at hops
    rename_i o o' hol
    have hops2:ops= #[o,o']:=by rw[<-be];exact hol
    split at hops
    rename_i cc d t d' ty d2 e1 e2 e3 e4 e5 e6
    split at hops
    rename_i ms g1 g2
    simp only[aa]at hops
    obtain⟨q1,q2,q3⟩:=hops
    obtain rfl:=ae q1
    obtain rfl:=ae q2
    obtain rfl:=ae q3
    simp only[aa]at ht
    have ht1:d'<fn.ntmps:=af ht.1
    have ht2:d2<fn.ntmps:=af ht.2
    rw[hc]
    refine wpS_seq (wpS_region ?_)
    have hr1: ∀ρ w,(execOp ρ o).run P w= .ok .recover w:=fun ρ w=>by
      unfold execOp
      simp[e1,resolve,g1,invoke,builtin]
    have hw: ∀(x:Oper),x.guard=none-> ∀y,Region.wanted x y=true:=λx hx y=>by unfold Region.wanted;rw[hx]
    have h0:ops[0]?=some o:=by rw[hops2];rfl
    have h1:ops[1]?=some o':=by rw[hops2];rfl
    have hsz:ops.size=2:=by rw[hops2];rfl
    rw[hsz,show List.range 2=[0,1]from rfl]
    simp only[wpOpsS,h0,h1,hw o e3,hw o' e6,if_true,hr1]
    have hJ:=h ⟨fn.ntmps,w,K,D,H,[]⟩ rfl rfl hi.dom (by
      rw[hc]at hin
      simp only[b0E,aa]at hin
      exact hin.2)
    have hsz2:d'<({ tmps:=vals.toArray++Array.replicate (fn.ntmps-vals.toArray.size) undef,defers:=[] } :Act).tmps.size:=by
      obtain⟨_,K1,D1,hI⟩:=hst
      rw[hI.slots.size];exact ht1
    have step: ∀v,(∀w,(binOp .neq t v .nilIface).run P w= .ok (.bool pan) w)->(∀w,(eqGuard .neq t (.tmp d') (.const .nilIface) v .nilIface).run P w= .ok () w)->
        (execOp (({ tmps:=vals.toArray++Array.replicate (fn.ntmps-vals.toArray.size) undef,defers:=[] } :Act).put o.dst v).eval o').run P w= .ok (.value (.bool pan)) w:=by
      intro v hbin hgd
      have hev:(({ tmps:=vals.toArray++Array.replicate (fn.ntmps-vals.toArray.size) undef,defers:=[] } :Act).put o.dst v).eval (.tmp d')=v:=by
        rw[e2]
        simp only[Act.put,Act.eval,aT,Array.getElem?_setIfInBounds,if_pos hsz2]
        simp
      unfold execOp
      simp only[e4,hev]
      rw[show(({ tmps:=vals.toArray++Array.replicate (fn.ntmps-vals.toArray.size) undef,defers:=[] } :Act).put o.dst v).eval (.const .nilIface)= .nilIface from rfl]
      simp[hbin w,hgd w]
    have fin: ∀(v:Value) (cs':List Frame) (u':FrameMode),cs'= { c₀ with mode:=u' } ::cs->settle u'= .returning->(cr c).wpS P (bodyPostS P fn c₀ cs λe u' w'=> ∃r,e= .returned r/\settle u'= .returning/\Good w K D H r w' (.tup []) H') ((({ tmps:=vals.toArray++Array.replicate (fn.ntmps-vals.toArray.size) undef,defers:=[] } :Act).put o.dst v).put o'.dst (.bool pan)) cs' w:=by
      intro v cs' u' hcs hset
      refine wpS_of_wp (Code.wp_mono (λe a' w' hq=> ?_) (hJ _ w ?_))
      obtain⟨he,hd,r,hr,hg⟩:=hq
      rcases he with rfl|rfl
      exact⟨hd,u',hcs,r,hr,r,rfl,hset,hg⟩
      exact⟨hd,u',hcs,r,hr,r,rfl,hset,hg⟩
      obtain⟨hd,K1,D1,hI⟩:=hst
      refine⟨by rw[a0T,a0T],K1,D1,⟨?_,hI.hinv,hI.grow⟩⟩
      have:=(hI.slots.put o.dst (.undef v)).put o'.dst (.bool pan)
      rw[e2,e5,b0e,b0e]at this
      rw[e2,e5]
      exact this
    cases pan with
    |false=>
      obtain rfl:u= .returning:=hu
      have hrd:recoverD (c₀::cs)=none:=by simp only[recoverD,hcu]
      rw[hrd]
      have hs2:=step .nilIface (λw=>by
        have h9: ∀d:Nat,(Op.equalIn (d+1) t .nilIface .nilIface).run P w= .ok true w:=λd=>by simp[Op.equalIn,run_underlying g2]
        simp only[binOp]
        simp[Op.equal,Op.maxDepth,h9 9999]) (λw=>by simp[eqGuard])
      simp only[hs2]
      exact fin .nilIface (c₀::cs) .returning (by rw[<-hcu]) rfl
    |true=>
      obtain⟨ch,⟨tv,vv,rfl⟩,rfl⟩:=hu
      have hrd:recoverD (c₀::cs)=some (.iface tv vv, { c₀ with mode:= .panicking [{ v:= .iface tv vv,recovered:=true }] } ::cs):=by simp only[recoverD,hcu]
      rw[hrd]
      have hs2:=step (.iface tv vv) (λw=>by
        have h9: ∀d:Nat,(Op.equalIn (d+1) t (.iface tv vv) .nilIface).run P w= .ok false w:=λd=>by simp[Op.equalIn,run_underlying g2]
        simp only[binOp]
        simp[Op.equal,Op.maxDepth,h9 9999]) (λw=>by simp[eqGuard])
      simp only[hs2]
      exact fin (.iface tv vv) _ _ rfl rfl
    cases hops
    cases hops
    cases hops
end
section
variable {F : Fr} {P : Program} {L : LE} {H : a0f} {Q : f0C} {ops : Array Oper} {p : Nat} {tr : List (List Nat × List Nat)}
theorem t0i {base i:Nat} {o:Oper} {e1 e2:Eff} (h:e1.wr.map Prod.fst=e2.wr.map Prod.fst):e0D ops base i o e1=e0D ops base i o e2:=by
  have h1: ∀e:Eff,e.wr.map (λx=>2*x.1)=(e.wr.map Prod.fst).map (λx=>2*x):=λe=>by rw[bE];rfl
  have h2: ∀e:Eff,(e.wr.flatMap λx=>w0W x.1)=(e.wr.map Prod.fst).flatMap w0W:=λe=>by rw[List.flatMap_map]
  unfold e0D
  rw[h1,h1,h2,h2,h]
theorem RJ.callWr {base:Nat} {d:Option Nat} {f:FuncId} {args args0 args':List SV} {v0 v:SV} {tr2:List (List Nat×List Nat)} {H0 H0' H2:a0f} (σ:List Nat)(h:h0d (some base) ops p tr L σ (σ.map λi=>(i,Ent.gone))=some (d,f,args,tr2))(ha:args=SV.rnL (b0r σ) args0)
    (hl:σ.length=H0.length) (hg:σ.map (λi=>H[i]?)=H0.map (λen=>some (Ent.rn (b0r σ) en))) (hn:σ.Nodup) (hr0:H0.all (Ent.refs H0.length)=true)
    (hlive:H0.all f0z=true) (hr:SV.refsL H0.length args0=true) (hle:LeL args0 args') (hs:SC P f args' H0 v0 H0') (hlen:Nat.beq H0'.length H0.length=true) (hr2:H0'.all (Ent.refs H0.length)=true) (hv0:SV.refs H0.length v0=true)
    (hv:SV.rn (b0r σ) v0=v) (hH:a0I H (k0E (b0r σ) H0.length H0')=H2) (k:RJ F P (some base) ops (p+1) tr2 (f0d L d v) H2 Q):RJ F P (some base) ops p tr L H Q:=by
  obtain⟨o,ho,hgd,hc,rfl,rfl,hk⟩:=e0N h
  subst hv;subst hH
  have hσ:(List.range H0.length).map (b0r σ)=σ:=by
    apply bh
    intro i
    rw[al]
    by_cases hi:i<H0.length
    rw[bf hi]
    simp only[aP,b0r,ak]
    rw[ac (by omega)];rfl
    rw[aw (by simpa using hi),aw (by omega)];rfl
  have hfst:(k0E (b0r σ) H0.length H0').map Prod.fst=(σ.map λi=>(i,Ent.gone)).map Prod.fst:=by
    unfold k0E
    rw[bE,bE]
    have e1:(Prod.fst∘λj=>(b0r σ j,Ent.rn (b0r σ) (H0'.getD j .gone)))=b0r σ:=rfl
    have e2:(Prod.fst∘λi:Nat=>(i,Ent.gone))=id:=rfl
    rw[e1,e2,hσ,List.map_id]
  have hfw: ∀i,e0D ops base i o ⟨SV.rn (b0r σ) v0,(List.range H0.length).map (b0r σ),k0E (b0r σ) H0.length H0'⟩=e0D ops base i o ⟨.undef,σ,σ.map λi=>(i,Ent.gone)⟩:=λi=>t0i hfst
  have hrd:f0D o ⟨SV.rn (b0r σ) v0,(List.range H0.length).map (b0r σ),k0E (b0r σ) H0.length H0'⟩=f0D o ⟨.undef,σ,σ.map λi=>(i,Ent.gone)⟩:=by
    unfold f0D
    simp only[hσ]
  intro hlp
  rw[d0V ho]
  subst hlp
  refine⟨⟨SV.rn (b0r σ) v0,(List.range H0.length).map (b0r σ),k0E (b0r σ) H0.length H0'⟩, ?_, ?_, ?_⟩
  unfold opD
  rw[hgd]
  simp only
  rw[l0z hc,if_pos rfl]
  exact .inr (.inr (.inl ⟨f,args,b0r σ,args0,H0,v0,H0',hc,ha,Sel.of σ hl hg hn hr0,λen hm=>List.all_eq_true.1 hlive en hm,hr,hv0,SC.weak hs hle,ae hlen,λj en hj=>List.all_eq_true.1 hr2 en (aA hj),rfl⟩))
  rw[hfw,hrd]
  exact hk base rfl
  have:=k (by simp[trM])
  rw[b0e,hfw,hrd]
  exact this
end
variable [Inhabited GT]
def j0r:List Bool->List SV->List SV
  |true::ms,_::cs=> .undef::j0r ms cs
  |false::ms,c::cs=>c::j0r ms cs
  |_,cs=>cs
theorem j0q: ∀(ms:List Bool) (cs:List SV),(j0r ms cs).length=cs.length
  | [],cs=>by simp[j0r]
  |true::ms,[]=>by simp[j0r]
  |false::ms,[]=>by simp[j0r]
  |true::ms,c::cs=>by simp[j0r,j0q ms cs]
  |false::ms,c::cs=>by simp[j0r,j0q ms cs]
theorem n0v: ∀(ms:List Bool) (cs:List SV) (j:Nat) (c:SV),(j0r ms cs)[j]?=some c->cs[j]?=some c\/(c= .undef/\j<cs.length)
  | [],cs,j,c,h=> .inl (by simpa [j0r]using h)
  |true::ms,[],j,c,h=>by simp[j0r]at h
  |false::ms,[],j,c,h=>by simp[j0r]at h
  |true::ms,x::cs,0,c,h=>by simp[j0r]at h;exact .inr ⟨h.symm,by simp⟩
  |false::ms,x::cs,0,c,h=> .inl (by simpa [j0r]using h)
  |true::ms,x::cs,j+1,c,h=>by
    rcases n0v ms cs j c (by simpa [j0r]using h)with h1|⟨h1,h2⟩
    exact .inl (by simpa using h1)
    exact .inr ⟨h1,by simpa using h2⟩
  |false::ms,x::cs,j+1,c,h=>by
    rcases n0v ms cs j c (by simpa [j0r]using h)with h1|⟨h1,h2⟩
    exact .inl (by simpa using h1)
    exact .inr ⟨h1,by simpa using h2⟩
theorem Wk.boxW {F:Fr} {L:LE} {H:a0f} (i:Nat) {cs cs':List SV} (hi:H[i]?=some (.box cs))(hlen:cs'.length=cs.length)(hw: ∀(q:Nat) (c':SV),cs'[q]?=some c'-> ∃c,cs[q]?=some c/\Le c c'):Wk F L H L (H.set i (.box cs')):=by
  rintro a w ⟨hd,K,D,hv⟩
  have hil:i<H.length:=(ab.1 hi).1
  have hget: ∀(j:Nat) (en:Ent),(H.set i (.box cs'))[j]?=some en->(j=i/\en= .box cs')\/(j≠i/\H[j]?=some en):=by
    intro j en hj
    rw[aL]at hj
    by_cases hji:i=j
    subst hji
    rw[if_pos rfl,if_pos hil]at hj
    cases hj
    exact .inl ⟨rfl,rfl⟩
    rw[if_neg hji]at hj
    exact .inr ⟨Ne.symm hji,hj⟩
  have hold: ∀(j:Nat) (en:Ent),(H.set i (.box cs'))[j]?=some en->f0z en=true-> ∃en':Ent,H[j]?=some en'/\f0z en'=true:=by
    intro j en hj hl
    rcases hget j en hj with⟨rfl,rfl⟩|⟨_,h⟩
    exact⟨_,hi,rfl⟩
    exact⟨_,h,hl⟩
  have g:=hv.grow
  refine⟨hd,K,D,⟨hv.slots,⟨λj hj=>hv.hinv.dom j (by simpa using hj),λj en hj=> ?_,λj j' en en' b c n c' n' hj hj' hl hl' hdj hdj'=> ?_,hv.hinv.kw⟩,
    ⟨g.os,g.tape,g.output,g.size,g.block,g.cells,g.le,g.kk,g.dd,λb hm=> ?_⟩⟩⟩
  rcases hget j en hj with⟨rfl,rfl⟩|⟨_,h⟩
  obtain⟨b,vs,e,h1,h2,h3,h4⟩:=hv.hinv.ent j _ hi
  refine⟨b,vs,e,h1,h2,h3,⟨hlen.trans h4.len,h4.one,λq v c hq hc=> ?_⟩⟩
  obtain⟨c0,h5,h6⟩:=hw q c hc
  exact h6 _ _ _ _ (h4.rep q v c0 hq h5)
  exact hv.hinv.ent j en h
  obtain⟨e1,p1,p2⟩:=hold j en hj hl
  obtain⟨e2,q1,q2⟩:=hold j' en' hj' hl'
  exact hv.hinv.inj j j' e1 e2 b c n c' n' p1 q1 p2 q2 hdj hdj'
  obtain⟨j,en,c,n,h1,h2,h3⟩:=hm
  obtain⟨e1,p1,p2⟩:=hold j en h1 h2
  exact g.new b ⟨j,e1,c,n,p1,p2,h3⟩
theorem Wk.undefs {F:Fr} {L:LE} {H:a0f} (i:Nat)(ms:List Bool) {cs:List SV} (hi:H[i]?=some (.box cs)):Wk F L H L (H.set i (.box (j0r ms cs))):=
  Wk.boxW i hi (j0q _ _) (λq c hc=>by
    rcases n0v ms cs q c hc with h|⟨h,hl⟩
    exact⟨c,h,Le.refl _⟩
    subst h;exact⟨cs[q],ac hl,Le.undef _⟩)
theorem Wk.leBox {F:Fr} {L:LE} {H:a0f} (i off:Nat) {cs:List SV} {v v':SV} (hi:H[i]?=some (.box cs))(ho:cs[off]?=some v)(hle:Le v v'):Wk F L H L (H.set i (.box (cs.set off v'))):=
  Wk.boxW i hi (by simp) (λq c hc=>by
    rw[aL]at hc
    by_cases h:off=q
    subst h
    rw[if_pos rfl,if_pos (ab.1 ho).1]at hc
    cases hc
    exact⟨v,ho,hle⟩
    rw[if_neg h]at hc
    exact⟨c,hc,Le.refl _⟩)
variable [Inhabited GT]
section
variable {F : Fr} {P : Program} {L : LE} {H : a0f} {Q : f0C} {ops : Array Oper} {p : Nat} {tr : List (List Nat × List Nat)}
theorem RJ.callX {base:Nat} {d:Option Nat} {f:FuncId} {args args0 args':List SV} {v0 v:SV} {tr2:List (List Nat×List Nat)} {H0 H0' H2:a0f} (idx:Nat)(σ:List Nat)(hidx:e0c ops base p=idx)(hres:l0y (H[idx]?)=true)
    (h:h0d (some base) ops p tr L σ ((σ++ [idx]).map λi=>(i,Ent.gone))=some (d,f,args,tr2)) (ha:args=SV.rnL (b0r σ) args0)
    (hl:σ.length=H0.length) (hg:σ.map (λi=>H[i]?)=H0.map (λen=>some (Ent.rn (b0r σ) en))) (hn:σ.Nodup) (hr0:H0.all (Ent.refs H0.length)=true)
    (hlive:H0.all f0z=true) (hr:SV.refsL H0.length args0=true) (hle:LeL args0 args') (hs:SC P f args' H0 v0 H0') (hlen:Nat.beq H0'.length (H0.length+1)=true)
    (hv:SV.rn (pOf (b0r σ) H0.length idx) v0=v) (hH:a0I H (k0E (pOf (b0r σ) H0.length idx) (H0.length+1) H0')=H2) (k:RJ F P (some base) ops (p+1) tr2 (f0d L d v) H2 Q):RJ F P (some base) ops p tr L H Q:=by
  obtain⟨o,ho,hgd,hc,rfl,rfl,hk⟩:=e0N h
  subst hv;subst hH;subst hidx
  have hres':H[e0c ops base p]?=some .res:=by
    unfold l0y at hres
    split at hres
    assumption
    cases hres
  have hσ:(List.range H0.length).map (b0r σ)=σ:=by
    apply bh
    intro i
    rw[al]
    by_cases hi:i<H0.length
    rw[bf hi]
    simp only[aP,b0r,ak]
    rw[ac (by omega)];rfl
    rw[aw (by simpa using hi),aw (by omega)];rfl
  have hpm:(List.range (H0.length+1)).map (pOf (b0r σ) H0.length (e0c ops base p))=σ++ [e0c ops base p]:=by
    rw[cu,cf]
    congr 1
    rw[<-hσ]
    refine bk λj hj=> ?_
    simp[pOf,aV.1 hj,hσ]
    simp[pOf]
  have hfst:(k0E (pOf (b0r σ) H0.length (e0c ops base p)) (H0.length+1) H0').map Prod.fst=((σ++ [e0c ops base p]).map λi=>(i,Ent.gone)).map Prod.fst:=by
    unfold k0E
    rw[bE,bE]
    have e1:(Prod.fst∘λj=>(pOf (b0r σ) H0.length (e0c ops base p) j,Ent.rn (pOf (b0r σ) H0.length (e0c ops base p)) (H0'.getD j .gone)))=pOf (b0r σ) H0.length (e0c ops base p):=rfl
    have e2:(Prod.fst∘λi:Nat=>(i,Ent.gone))=id:=rfl
    rw[e1,e2,hpm,List.map_id]
  have hfw: ∀i,e0D ops base i o ⟨SV.rn (pOf (b0r σ) H0.length (e0c ops base p)) v0,(List.range H0.length).map (b0r σ),k0E (pOf (b0r σ) H0.length (e0c ops base p)) (H0.length+1) H0'⟩=e0D ops base i o ⟨.undef,σ,(σ++ [e0c ops base p]).map λi=>(i,Ent.gone)⟩:=λi=>t0i hfst
  have hrd:f0D o ⟨SV.rn (pOf (b0r σ) H0.length (e0c ops base p)) v0,(List.range H0.length).map (b0r σ),k0E (pOf (b0r σ) H0.length (e0c ops base p)) (H0.length+1) H0'⟩=f0D o ⟨.undef,σ,(σ++ [e0c ops base p]).map λi=>(i,Ent.gone)⟩:=by
    unfold f0D
    simp only[hσ]
  intro hlp
  rw[d0V ho]
  subst hlp
  refine⟨⟨SV.rn (pOf (b0r σ) H0.length (e0c ops base tr.length)) v0,(List.range H0.length).map (b0r σ),k0E (pOf (b0r σ) H0.length (e0c ops base tr.length)) (H0.length+1) H0'⟩, ?_, ?_, ?_⟩
  unfold opD
  rw[hgd]
  simp only
  rw[l0z hc,if_pos rfl]
  exact .inr (.inr (.inr (.inl ⟨f,args,b0r σ,args0,H0,v0,H0',hc,ha,Sel.of σ hl hg hn hr0,λen hm=>List.all_eq_true.1 hlive en hm,hr,SC.weak hs hle,ae hlen,hres',rfl⟩)))
  rw[hfw,hrd]
  exact hk base rfl
  have:=k (by simp[trM])
  rw[b0e,hfw,hrd]
  exact this
end
variable [Inhabited GT]
theorem SC.nil {P:Program} {f:FuncId} {args1 args2:List SV} {H0 H0':a0f} {v:SV} {k:Nat} {e:TypeId} (h:SC P f (args1++ .vc H0.length::args2) (H0++ [.vec 0 k e []]) v H0'):SC P f (args1++ .nl::args2) H0 v H0':=by
  refine⟨h.1,λw K D vals hlen hrep hi hG=> ?_⟩
  obtain⟨g,hi2⟩:=p0u hi k e
  refine(h.2 w K _ vals (by simpa using hlen) (λj x c hx hc=> ?_) hi2 (g0F hG)).mono ?_
  by_cases hj:j=args1.length
  subst hj
  have hc2:(args1++SV.vc H0.length::args2)[args1.length]?=some (.vc H0.length):=by simp
  rw[hc2]at hc
  cases hc
  have h1:=hrep args1.length x .nl hx (by simp)
  cases h1 with
  |nl a=>exact .vcn _ a (i0V _ _ _)
  have hc2:(args1++SV.nl::args2)[j]?=some c:=by
    rw[<-hc,aD,aD]
    split
    rfl
    rename_i hlt
    obtain⟨q,hq⟩: ∃q,j-args1.length=q+1:=⟨j-args1.length-1,by omega⟩
    rw[hq];rfl
  exact g.rep (hrep j x c hx hc2)
  rintro ex w' ⟨r,he,K',D',g',hi',hr⟩
  exact⟨r,he,K',D',g.trans g',hi',hr⟩
variable [Inhabited GT]
theorem C0U {P:Program} {f:FuncId} {fn:Func} {args:List SV} {H H':a0f}
    (h: ∀F:Fr,F.n=fn.ntmps->F.H0=H->(∀i,F.H0.length<=i->F.D0 i=none)->J F P (f0A fn) (f0b 0 args) H (A0W F H')) (hf:P.funcs[f]?=some fn:=by kernel_rfl) (hb:fn.body.isSome=true:=by kernel_rfl) (hcal:b0P P f=true:=by kernel_rfl) (hin:b0E fn.ntmps (f0A fn)=true:=by kernel_rfl) (hn:Nat.ble args.length fn.ntmps=true:=by kernel_rfl):SP P f args H H':=K.fnP hf hb hcal hin hn h
theorem C0V {P:Program} {f:FuncId} {fn:Func} {args:List SV} {v:SV} {H H':a0f}
    (h: ∀F:Fr,F.n=fn.ntmps->F.H0=H->(∀i,F.H0.length<=i->F.D0 i=none)->F.ds=[]->J F P (f0A fn) (f0b 0 args) H (t0K P fn F v H')) (hf:P.funcs[f]?=some fn:=by kernel_rfl) (hb:fn.body.isSome=true:=by kernel_rfl) (hcal:b0P P f=true:=by kernel_rfl) (hin:b0E fn.ntmps (f0A fn)=true:=by kernel_rfl) (hn:Nat.ble args.length fn.ntmps=true:=by kernel_rfl):SC P f args H v H':=K.fnD hf hb hcal hin hn h
theorem C0I {P:Program} {f:FuncId} {fn:Func} {args:List SV} {H H':a0f} (pan:Bool)(t4 t5:Nat)
    (h: ∀F:Fr,F.n=fn.ntmps->F.H0=H->(∀i,F.H0.length<=i->F.D0 i=none)->J F P (cr (f0A fn)) ((t5, .bool pan)::(t4, .undef)::f0b 0 args) H (s0P P fn F (.tup []) H')) (hf:P.funcs[f]?=some fn:=by kernel_rfl) (hb:fn.body.isSome=true:=by kernel_rfl) (hcal:b0P P f=true:=by kernel_rfl) (hin:b0E fn.ntmps (f0A fn)=true:=by kernel_rfl) (hn:Nat.ble args.length fn.ntmps=true:=by kernel_rfl)
    (hrec:v0p P (f0A fn) t4 t5=true:=by kernel_rfl) (ht:(Nat.blt t4 fn.ntmps&&Nat.blt t5 fn.ntmps)=true:=by kernel_rfl):SD P f pan args H H':=K.fnC pan t4 t5 hf hb hcal hin hn hrec ht h
end
section
variable [Inhabited GT]
section
variable {P : Program} {ops : Array Oper} {V : List (Nat × Nat × SV)} {W : List Nat} {p d : Nat} {L : LE}
variable {F : Fr} {Q : f0C} {H : a0f}
end
section
variable {F : Fr} {P : Program} {c : Code} {L : LE} {H : a0f} {Q : f0C}
end
def C0L {A B:Type} (P:Program)(fn:Func)(F:Fr)(hv:A->SV)(hH:A->a0f)(hP:B->a0f)(r:A⊕B):f0C:=match r with
  | .inl a=>s0P P fn F (hv a) (hH a)
  | .inr b=>A0W F (hP b)
theorem w0a {P:Program} {f:FuncId} {fn:Func} {args:List SV} {H:a0f} {A B:Type} {r:A⊕B} (hv:A->SV)(hH:A->a0f)(hP:B->a0f)
    (h: ∀F:Fr,F.n=fn.ntmps->F.H0=H->(∀i,F.H0.length<=i->F.D0 i=none)->J F P (f0A fn) (f0b 0 args) H (C0L P fn F hv hH hP r))
    (hf:P.funcs[f]?=some fn:=by kernel_rfl) (hb:fn.body.isSome=true:=by kernel_rfl) (hcal:b0P P f=true:=by kernel_rfl) (hin:b0E fn.ntmps (f0A fn)=true:=by kernel_rfl) (hn:Nat.ble args.length fn.ntmps=true:=by kernel_rfl):
    (∀a,r= .inl a->SC P f args H (hv a) (hH a))/\(∀b,r= .inr b->SP P f args H (hP b)):=by
  refine⟨λa e=> ?_,λb e=> ?_⟩
  subst e;exact K.fn hf hb hcal hin hn h
  subst e;exact K.fnP hf hb hcal hin hn h
end
section
variable [Inhabited GT]
section
variable {F : Fr} {P : Program} {m : Option Nat} {L : LE} {H : a0f} {Q : f0C} {ops : Array Oper} {p : Nat} {tr : List (List Nat × List Nat)} {c : Code}
theorem cF {α:Type} {b:Bool} {X:Option α} {r:α} (d:Nat)(h:(bif b then X else none)=some r)(k:X=some r->J F P c ((d, .bool true)::L) H Q)(hd:lk L d= .bool b:=by kernel_rfl):J F P c L H Q:=by
  cases b with
  |false=>cases h
  |true=>exact J.caseB d hd (λ_=>k h) (λhb=>by cases hb)
theorem cT {α:Type} {b:Bool} {X:Option α} {r:α} (d:Nat)(h:(bif b then none else X)=some r)(k:X=some r->J F P c ((d, .bool false)::L) H Q)(hd:lk L d= .bool b:=by kernel_rfl):J F P c L H Q:=by
  cases b with
  |true=>cases h
  |false=>exact J.caseB d hd (λhb=>by cases hb) (λ_=>k h)
theorem m0p {K V:Type} {ek:K->SV} {ev:V->SV} {eq:K->K->Bool} (heq: ∀a b,e0F (ek a) (ek b)=some (eq a b))(x:K): ∀ms:List (K×V),e0J (c0B ek ev ms) (ek x)=some ((g0n eq ms x).map ev)
  | []=>rfl
  |p::ms=>by
    have ih:=m0p (ev:=ev) heq x ms
    simp only[c0B,aj,e0J,heq,g0n]at ih⊢
    cases eq x p.1 with
    |true=>rfl
    |false=>exact ih
def v0M(P:Program)(o:Oper)(ρ:Env)(H:a0f):Option (Nat×List (SV×SV)×IntKind×Int×SV×Bool):=
  match o.op with
  | .lookup t m k ok=>match P.underlying t,a0F ρ m,a0F ρ k with
    |some (.map kt et),some (.mp i),some (.int kd a)=>match H[i]?,t0v P et with
      |some (.map es),some z=>if n0D P kt (.int kd a)=true then some (i,es,kd,a,z,ok)else none
      |_,_=>none
    |_,_,_=>none
  |_=>none
theorem q0H {o:Oper} {ρ:Env} {idx:Nat} {i:Nat} {es:List (SV×SV)} {kd:IntKind} {a:Int} {z:SV} {ok:Bool} (h:v0M P o ρ H=some (i,es,kd,a,z,ok)) {r:Option SV} (hf:e0J es (.int kd a)=some r):
    a0E P o ρ H idx=some ⟨i0w ok (r.getD z) r.isSome,[i],[]⟩:=by
  unfold v0M at h
  split at h
  · rename_i t m k ok' ho
    split at h
    · rename_i kt' et i' kd' a' hu hm hk
      split at h
      · rename_i es' z' hH hz
        split at h<;>cases h
        rename_i hkey
        unfold a0E a0g a0q
        simp only[ho]
        unfold h0E
        rw[hu,hm,hk]
        simp only[hH]
        rw[if_pos hkey]
        have:k0N P kt' es (.int kd a)=some r:=hf
        rw[this,hz]
        cases r<;>rfl
      cases h
    cases h
  cases h
def v0N(P:Program)(m:Option Nat)(ops:Array Oper)(p:Nat)(tr:List (List Nat×List Nat))(L:LE)(H:a0f):Option (Option Nat×Nat×List (SV×SV)×IntKind×Int×SV×Bool×List (List Nat×List Nat)):=
  match ops.toList[p]? with
  |none=>none
  |some o=>match b0i ops (a0v L) o with
    |some true=>bif b0T o then none else match v0M P o (a0v L) H with
      |some (i,es,kd,a,z,ok)=>bif okM m ops p o ⟨.undef,[i],[]⟩ tr H then some (o.dst,i,es,kd,a,z,ok,trM m ops p o ⟨.undef,[i],[]⟩ tr)else none
      |none=>none
    |_=>none
theorem RJ.lookK {V:Type} (kd:IntKind)(ev:V->SV)(ms:List (Int×V))(x:Int)(zv:V) {d:Option Nat} {i:Nat} {ok:Bool} {tr2:List (List Nat×List Nat)}
    (h:v0N P m ops p tr L H=some (d,i,c0B (λk:Int=> .int kd k) ev ms,kd,x,ev zv,ok,tr2))
    (k:RJ F P m ops (p+1) tr2 (f0d L d (i0w ok (ev ((g0n (λa b:Int=>a==b) ms x).getD zv)) (g0n (λa b:Int=>a==b) ms x).isSome)) H Q):RJ F P m ops p tr L H Q:=by
  unfold v0N at h
  split at h
  cases h
  · rename_i o ho
    split at h
    · rename_i hg
      cases hcc:b0T o with
      |true=>rw[hcc]at h;cases h
      |false=>
        rw[hcc]at h
        simp only[cond_false]at h
        split at h
        · rename_i i2 es2 kd2 a2 z2 ok2 he
          cases hok:okM m ops p o ⟨.undef,[i2],[]⟩ tr H with
          |false=>rw[hok]at h;cases h
          |true=>
            rw[hok]at h
            simp only[cond_true,ag,aB]at h
            obtain⟨rfl,rfl,rfl,rfl,rfl,rfl,rfl,rfl⟩:=h
            have hf:=m0p (ek:=λk:Int=>SV.int kd2 k) (ev:=ev) (eq:=λa b:Int=>a==b) (λa b=>by simp[e0F]) a2 ms
            have hs:=q0H (idx:=y0M m ops p H) he hf
            have e1:((g0n (λa b:Int=>a==b) ms a2).map ev).getD (ev zv)=ev ((g0n (λa b:Int=>a==b) ms a2).getD zv):=by cases g0n (λa b:Int=>a==b) ms a2<;>rfl
            have e2:((g0n (λa b:Int=>a==b) ms a2).map ev).isSome=(g0n (λa b:Int=>a==b) ms a2).isSome:=by cases g0n (λa b:Int=>a==b) ms a2<;>rfl
            rw[e1,e2]at hs
            exact RJ.step ho hg hcc hs hok k
        cases h
    cases h
def z0U(P:Program)(o:Oper)(ρ:Env)(H:a0f):Option (Nat×List (SV×SV)×IntKind×Int×SV):=
  match o.op with
  | .mapUpdate t m k v=>match P.underlying t,a0F ρ m,a0F ρ k,a0F ρ v with
    |some (.map kt _),some (.mp i),some (.int kd a),some sv=>match H[i]? with
      |some (.map es)=>if n0D P kt (.int kd a)=true then some (i,es,kd,a,sv)else none
      |_=>none
    |_,_,_,_=>none
  |_=>none
def y0L(P:Program)(m:Option Nat)(ops:Array Oper)(p:Nat)(tr:List (List Nat×List Nat))(L:LE)(H:a0f):Option (Option Nat×Nat×List (SV×SV)×IntKind×Int×SV×List (List Nat×List Nat)):=
  match ops.toList[p]? with
  |none=>none
  |some o=>match b0i ops (a0v L) o with
    |some true=>bif b0T o then none else match z0U P o (a0v L) H with
      |some (i,es,kd,a,sv)=>bif okM m ops p o ⟨.undef,[i],[(i, .map [])]⟩ tr H then some (o.dst,i,es,kd,a,sv,trM m ops p o ⟨.undef,[i],[(i, .map [])]⟩ tr)else none
      |none=>none
    |_=>none
def r0s {V:Type} (y:V)(x:Int):List (Int×V)->List (Int×V)
  | []=> [(x,y)]
  |p::r=>bif x==p.1 then(p.1,y)::r else p::r0s y x r
def x0n(es:List (SV×SV))(k v:SV):List (SV×SV):=match e0J es k with
  |some (some _)=>x0e es k v
  |_=>es++ [(k,v)]
theorem t0E {V:Type} {kd:IntKind} {ev:V->SV} (x:Int)(y:V)(ms:List (Int×V)):x0n (c0B (λk:Int=> .int kd k) ev ms) (.int kd x) (ev y)=c0B (λk:Int=> .int kd k) ev (r0s y x ms):=by
  induction ms with
  |nil=>rfl
  |cons p ms ih=>
    unfold x0n at ih⊢
    simp only[c0B,aj,e0J,e0F,if_pos,r0s]at ih⊢
    cases hx:(x==p.1)with
    |true=>simp[x0e,e0F,hx]
    |false=>
      simp only[cond_false,aj,<-ih]
      split<;>simp[x0e,e0F,hx, *]
theorem r0C {o:Oper} {ρ:Env} {idx:Nat} {i:Nat} {es:List (SV×SV)} {kd:IntKind} {a:Int} {sv:SV} {q:Option SV} (h:z0U P o ρ H=some (i,es,kd,a,sv))(hf:e0J es (.int kd a)=some q):
    a0E P o ρ H idx=some ⟨.undef,[i],[(i, .map (x0n es (.int kd a) sv))]⟩:=by
  unfold z0U at h
  split at h
  · rename_i t m k v ho
    split at h
    · rename_i kt' et i' kd' a' sv' hu hm hk hv
      split at h
      · rename_i es' hH
        split at h<;>cases h
        rename_i hkey
        unfold a0E a0g a0q
        simp only[ho]
        unfold i0i
        rw[hu,hm,hk,hv]
        simp only[hH]
        rw[if_pos hkey]
        have:k0N P kt' es (.int kd a)=some q:=hf
        rw[this]
        unfold x0n
        rw[hf]
        cases q<;>rfl
      cases h
    cases h
  cases h
theorem RJ.setK {V:Type} (kd:IntKind)(ev:V->SV)(ms:List (Int×V))(x:Int)(y:V) {d:Option Nat} {i:Nat} {sv:SV} {tr2:List (List Nat×List Nat)} {H2:a0f}
    (h:y0L P m ops p tr L H=some (d,i,c0B (λk:Int=> .int kd k) ev ms,kd,x,sv,tr2)) (hsv:sv=ev y)
    (hH:g0m H i (.map (c0B (λk:Int=> .int kd k) ev (r0s y x ms)))=H2) (k:RJ F P m ops (p+1) tr2 (f0d L d .undef) H2 Q):RJ F P m ops p tr L H Q:=by
  subst hH
  unfold y0L at h
  split at h
  cases h
  rename_i o ho
  split at h
  rename_i hg
  cases hcc:b0T o with
  |true=>rw[hcc]at h;cases h
  |false=>
    rw[hcc]at h
    simp only[cond_false]at h
    split at h
    rename_i i2 es2 kd2 a2 sv2 he
    cases hok:okM m ops p o ⟨.undef,[i2],[(i2, .map [])]⟩ tr H with
    |false=>rw[hok]at h;cases h
    |true=>
      rw[hok]at h
      simp only[cond_true,ag,aB]at h
      obtain⟨rfl,rfl,rfl,rfl,rfl,rfl,rfl⟩:=h
      have hf:=m0p (ek:=λk:Int=>SV.int kd2 k) (ev:=ev) (eq:=λa b:Int=>a==b) (λa b=>by simp[e0F]) a2 ms
      have hs:=r0C (idx:=y0M m ops p H) he hf
      rw[hsv,t0E]at hs
      exact RJ.step ho hg hcc hs hok k
    cases h
  cases h
def v0Q(P:Program)(o:Oper)(ρ:Env)(H:a0f):Option (Nat×Nat×Nat×List SV):=
  match o.op with
  | .load t x=>match a0F ρ x with
    |some (.ptr i off)=>match H[i]? with
      |some (.vec _ _ _ cs)=>match P.underlying t with
        |some (.struct _)=>some (i,off,P.cellsOf t,cs)
        |_=>none
      |_=>none
    |_=>none
  |_=>none
theorem q0J {o:Oper} {ρ:Env} {idx:Nat} {i off n:Nat} {cs:List SV} (h:v0Q P o ρ H=some (i,off,n,cs))(hl:n<=(cs.drop off).length):
    a0E P o ρ H idx=some ⟨.agg ((cs.drop off).take n),[i],[]⟩:=by
  unfold v0Q at h
  split at h
  rename_i t x ho
  split at h
  rename_i i' off' h1
  split at h
  rename_i n' k' e' cs' h2
  split at h
  rename_i fs hu
  cases h
  unfold a0E a0g a0q
  simp only[ho,h1,h2,aq,b0F]
  unfold b0j
  rw[hu]
  simp only[if_pos hl]
  rfl
  cases h
  cases h
  cases h
  cases h
def v0R(P:Program)(m:Option Nat)(ops:Array Oper)(p:Nat)(tr:List (List Nat×List Nat))(L:LE)(H:a0f):Option (Option Nat×Nat×Nat×Nat×List SV×List (List Nat×List Nat)):=
  match ops.toList[p]? with
  |none=>none
  |some o=>match b0i ops (a0v L) o with
    |some true=>bif b0T o then none else match v0Q P o (a0v L) H with
      |some (i,off,n,cs)=>bif okM m ops p o ⟨.undef,[i],[]⟩ tr H then some (o.dst,i,off,n,cs,trM m ops p o ⟨.undef,[i],[]⟩ tr)else none
      |none=>none
    |_=>none
theorem RJ.loadS {T:Type} [Inhabited T] {enc:T->List SV} {k:Nat} {xs:List T} {j:Int} {d:Option Nat} {i:Nat} {tr2:List (List Nat×List Nat)} (h:v0R P m ops p tr L H=some (d,i,j.toNat*k,k,xs.flatMap enc,tr2))
    (hk: ∀x,(enc x).length=k) (hj:inR j xs.length=true) (kk:RJ F P m ops (p+1) tr2 (f0d L d (.agg (enc (nth xs j)))) H Q):RJ F P m ops p tr L H Q:=by
  unfold v0R at h
  split at h
  cases h
  rename_i o ho
  split at h
  rename_i hg
  cases hcc:b0T o with
  |true=>rw[hcc]at h;cases h
  |false=>
    rw[hcc]at h
    simp only[cond_false]at h
    split at h
    rename_i i2 off2 n2 cs2 he
    cases hok:okM m ops p o ⟨.undef,[i2],[]⟩ tr H with
    |false=>rw[hok]at h;cases h
    |true=>
      rw[hok]at h
      simp only[cond_true,ag,aB]at h
      obtain⟨rfl,rfl,rfl,rfl,rfl,rfl⟩:=h
      have hf:=s0j hk hj
      have hl:n2<=((xs.flatMap enc).drop (j.toNat*n2)).length:=by
        have:=congrArg List.length hf
        rw[aJ,hk]at this
        omega
      have hs:=q0J (idx:=y0M m ops p H) he hl
      rw[hf]at hs
      exact RJ.step ho hg hcc hs hok kk
    cases h
  cases h
end
end
section
variable [Inhabited GT]
section
variable {F : Fr} {P : Program} {m : Option Nat} {L : LE} {H : a0f} {Q : f0C} {ops : Array Oper} {p : Nat} {tr : List (List Nat × List Nat)} {c : Code}
theorem kc(q:Nat)(k:RJ F P none ops (p+q) [] (lOf (i0a P none ops q p [] L H)) (hOf (i0a P none ops q p [] L H)) Q)(h:(i0a P none ops q p [] L H).isSome=true:=by kernel_rfl):RJ F P none ops p [] L H Q:=by
  cases hr:i0a P none ops q p [] L H with
  |none=>rw[hr]at h;cases h
  |some r=>
    obtain⟨tr1,L1,H1⟩:=r
    rw[hr]at k
    refine l0X q p [] L H tr1 L1 H1 hr ?_
    intro hin a w hs
    exact k hin a w hs
theorem ke(q:Nat)(k:PJ F Q .normal (lOf (i0a P none ops q p [] L H)) (hOf (i0a P none ops q p [] L H)))(h:(i0a P none ops q p [] L H).isSome=true:=by kernel_rfl)(hp:Nat.ble ops.size (p+q)=true:=by kernel_rfl):RJ F P none ops p [] L H Q:=kc q (RJ.end hp k) h
theorem kr {c:Code} (q:Nat)(k:J F P c (lOf (i0a P none ops q p [] L H)) (hOf (i0a P none ops q p [] L H)) Q)(h:(i0a P none ops q p [] L H).isSome=true:=by kernel_rfl)(hp:Nat.ble ops.size (p+q)=true:=by kernel_rfl):RJ F P none ops p [] L H (i0X F P c Q):=kc q (RJ.end hp (PJ.next k)) h
theorem km(q:Nat)(k:RJ F P none (h0g c) q [] (lOf (i0a P none (h0g c) q 0 [] L H)) (hOf (i0a P none (h0g c) q 0 [] L H)) Q)(h:m0m false c=true:=by kernel_rfl)(h2:(i0a P none (h0g c) q 0 [] L H).isSome=true:=by kernel_rfl):J F P c L H Q:=K.region h (kc q (by rw[aW];exact k) h2)
theorem kM(k:PJ F Q .normal (lOf (i0a P none (h0g c) (h0g c).size 0 [] L H)) (hOf (i0a P none (h0g c) (h0g c).size 0 [] L H)))(h:m0m false c=true:=by kernel_rfl)(h2:(i0a P none (h0g c) (h0g c).size 0 [] L H).isSome=true:=by kernel_rfl):J F P c L H Q:=
  K.region h (ke (h0g c).size k h2 (by rw[aW];exact Nat.ble_eq_true_of_le (ai _)))
theorem kn(q:Nat)(k:RJ F P none (h0g (cl c)) q [] (lOf (i0a P none (h0g (cl c)) q 0 [] L H)) (hOf (i0a P none (h0g (cl c)) q 0 [] L H)) (i0X F P (cr c) Q))(h:n0I c=true:=by kernel_rfl)(h1:m0m false (cl c)=true:=by kernel_rfl)(h2:(i0a P none (h0g (cl c)) q 0 [] L H).isSome=true:=by kernel_rfl):J F P c L H Q:=K.seq h (km q k h1 h2)
theorem kq(k:J F P (cr c) (lOf (i0a P none (h0g (cl c)) (h0g (cl c)).size 0 [] L H)) (hOf (i0a P none (h0g (cl c)) (h0g (cl c)).size 0 [] L H)) Q)(h:n0I c=true:=by kernel_rfl)(h1:m0m false (cl c)=true:=by kernel_rfl)(h2:(i0a P none (h0g (cl c)) (h0g (cl c)).size 0 [] L H).isSome=true:=by kernel_rfl):J F P c L H Q:=K.seq h (kM (PJ.next k) h1 h2)
theorem kKN {d:Code} (k:J F P d L H Q)(h:q0P c=true:=by kernel_rfl):J F P c L H (i0X F P d Q):=K.skip h (PJ.next k)
def t0p(d:Nat):Code->Bool| .cond (.tmp t) _ _=>Nat.beq t d|_=>false
theorem p0B {d:Nat} {b:Bool} (h:t0p d c=true):u0l c ((d, .bool b)::L)=some (.bool b):=by
  cases c<;>first|cases h|skip
  rename_i x a b'
  cases x<;>first|cases h|skip
  rename_i t
  have:=ae h
  subst this
  simp only[u0l,a0F,a0v,lk]
  rw[show Nat.beq t t=true from Nat.beq_refl t]
  rfl
theorem kBT {α:Type} {b:Bool} {X Y:α} {r:α} (d:Nat)(h:(bif b then X else Y)=r)(h1:X=r->J F P (ct c) ((d, .bool true)::L) H Q)(h2:Y=r->J F P (ce c) ((d, .bool false)::L) H Q)(hd:lk L d= .bool b:=by kernel_rfl)(hc:t0p d c=true:=by kernel_rfl):J F P c L H Q:=
  J.caseB d hd (λhb=>K.condT (p0B hc) (h1 (condT hb h))) (λhb=>K.condF (p0B hc) (h2 (condF hb h)))
theorem cFT {α:Type} {b:Bool} {X:Option α} {r:α} (d:Nat)(h:(bif b then X else none)=some r)(k:X=some r->J F P (ct c) ((d, .bool true)::L) H Q)(hd:lk L d= .bool b:=by kernel_rfl)(hc:t0p d c=true:=by kernel_rfl):J F P c L H Q:=cF d h (λhx=>K.condT (p0B hc) (k hx)) hd
theorem cTF {α:Type} {b:Bool} {X:Option α} {r:α} (d:Nat)(h:(bif b then none else X)=some r)(k:X=some r->J F P (ce c) ((d, .bool false)::L) H Q)(hd:lk L d= .bool b:=by kernel_rfl)(hc:t0p d c=true:=by kernel_rfl):J F P c L H Q:=cT d h (λhx=>K.condF (p0B hc) (k hx)) hd
/-! Ends. -/
theorem kNo {S:Type} {R:S->LE×a0f} {a st:S} (h:some a=some st)(ts:List Nat)(hL:g0q ts L=(R a).1:=by kernel_rfl)(hH:H=(R a).2:=by kernel_rfl):PJ F (cutN F R st) .normal L H:=by
  obtain rfl:=oi h;exact PJ.cutN ts hL hH
theorem kXo {S X:Type} {R:S->LE×a0f} {a:S} {y:S⊕X} (h:some (.inl a)=some y)(ts:List Nat)(hL:g0q ts L=(R a).1:=by kernel_rfl)(hH:H=(R a).2:=by kernel_rfl):PJ F (cutX F R Q y) .normal L H:=by
  obtain rfl:=oi h;exact PJ.cutXl ts hL hH
theorem kLo {S O:Type} {R:S->LE×a0f} {o:O} {a:S} {y:S⊕O} (h:some (.inl a)=some y)(ts:List Nat)(hL:g0q ts L=(R a).1:=by kernel_rfl)(hH:H=(R a).2:=by kernel_rfl):PJ F (p0k F R Q o y) .normal L H:=by
  obtain rfl:=oi h;exact PJ.loopNext ts hL hH
theorem kNW {S:Type} {R:S->LE×a0f} {a st:S} {H0:a0f} (h:some a=some st)(hm:F.H0=H0)(hdom: ∀i,F.H0.length<=i->F.D0 i=none)(σ:List Nat)(hl:σ.length=(R a).2.length:=by kernel_rfl)(hg:σ.map (λi=>H[i]?)=(R a).2.map (λen=>some (Ent.rn (b0r σ) en)):=by kernel_rfl)(hn:σ.Nodup:=by decide)
    (hr:(R a).2.all (Ent.refs (R a).2.length)=true:=by kernel_rfl) (hk:σ.take H0.length=List.range H0.length:=by kernel_rfl) (hv:(R a).1.map (λp=>lk L p.1)=(R a).1.map (λp=>SV.rn (b0r σ) p.2):=by kernel_rfl) (hvr:(R a).1.all (λp=>SV.refs (R a).2.length p.2)=true:=by kernel_rfl):PJ F (cutN F R st) .normal L H:=by
  obtain rfl:=oi h
  exact λx w hs=>⟨rfl,Wk.sel H0.length (by rw[hm]) hdom σ hl hg hn hr hk hv hvr x w hs⟩
theorem kXW {S X:Type} {R:S->LE×a0f} {a:S} {y:S⊕X} {H0:a0f} (h:some (.inl a)=some y)(hm:F.H0=H0)(hdom: ∀i,F.H0.length<=i->F.D0 i=none)(σ:List Nat)(hl:σ.length=(R a).2.length:=by kernel_rfl)(hg:σ.map (λi=>H[i]?)=(R a).2.map (λen=>some (Ent.rn (b0r σ) en)):=by kernel_rfl)(hn:σ.Nodup:=by decide)
    (hr:(R a).2.all (Ent.refs (R a).2.length)=true:=by kernel_rfl) (hk:σ.take H0.length=List.range H0.length:=by kernel_rfl) (hv:(R a).1.map (λp=>lk L p.1)=(R a).1.map (λp=>SV.rn (b0r σ) p.2):=by kernel_rfl) (hvr:(R a).1.all (λp=>SV.refs (R a).2.length p.2)=true:=by kernel_rfl):PJ F (cutX F R Q y) .normal L H:=by
  obtain rfl:=oi h
  exact λx w hs=>⟨rfl,Wk.sel H0.length (by rw[hm]) hdom σ hl hg hn hr hk hv hvr x w hs⟩
theorem kLW {S O:Type} {R:S->LE×a0f} {o:O} {a:S} {y:S⊕O} {H0:a0f} (h:some (.inl a)=some y)(hm:F.H0=H0)(hdom: ∀i,F.H0.length<=i->F.D0 i=none)(σ:List Nat)(hl:σ.length=(R a).2.length:=by kernel_rfl)(hg:σ.map (λi=>H[i]?)=(R a).2.map (λen=>some (Ent.rn (b0r σ) en)):=by kernel_rfl)(hn:σ.Nodup:=by decide)
    (hr:(R a).2.all (Ent.refs (R a).2.length)=true:=by kernel_rfl) (hk:σ.take H0.length=List.range H0.length:=by kernel_rfl) (hv:(R a).1.map (λp=>lk L p.1)=(R a).1.map (λp=>SV.rn (b0r σ) p.2):=by kernel_rfl) (hvr:(R a).1.all (λp=>SV.refs (R a).2.length p.2)=true:=by kernel_rfl):PJ F (p0k F R Q o y) .normal L H:=by
  obtain rfl:=oi h
  exact λx w hs=>⟨rfl,Wk.sel H0.length (by rw[hm]) hdom σ hl hg hn hr hk hv hvr x w hs⟩
theorem kZo {fn:Func} {R:Type} {a:R} {v:R->SV} (r:R)(h:some a=some r)(hn:F.n=fn.ntmps)(hH:F.H0=[])(hdom: ∀i,F.H0.length<=i->F.D0 i=none)(hin:i0G fn.ntmps fn.results.toList=true:=by kernel_rfl)(hret:r0r P fn.results.toList L H=some (v a):=by kernel_rfl)(hr:SV.refs 0 (v a)=true:=by kernel_rfl):
    PJ F (s0P P fn F (v r) []) .ret L H:=by
  obtain rfl:=oi h;exact kZ hn hH hdom hin hret hr
/-! Binds. -/
theorem kcN {S T:Type} {X:Option S} {k:S->Option T} {r:T} (h:X.bind k=some r)(R:S->LE×a0f)(h1: ∀s,X=some s->J F P (cl c) L H (cutN F R s))(h2: ∀s,k s=some r->J F P (cr c) (R s).1 (R s).2 Q)(hc:n0I c=true:=by kernel_rfl):J F P c L H Q:=by
  obtain⟨s,e1,e2⟩:=a0l h
  exact K.cutN hc R s (h1 s e1) (h2 s e2)
theorem kcX {S X:Type} {M:Option (S⊕X)} {k:S->Option X} {r:X} (h:M.bind (a0m k)=some r)(R:S->LE×a0f)(h1: ∀y,M=some y->a0m k y=some r->J F P (cl c) L H (cutX F R Q y))(h2: ∀s,k s=some r->J F P (cr c) (R s).1 (R s).2 Q)(hc:n0I c=true:=by kernel_rfl):J F P c L H Q:=by
  obtain⟨y,e1,e2⟩:=a0l h
  exact K.cutX hc R y (h1 y e1 e2) (λs hs=>by subst hs;exact h2 s (l0x e2))
theorem kIb {T:Type} [Inhabited T] {α:Type} {X:Option α} {r:α} {enc:T->List SV} {k:Nat} {xs:List T} {j:Int} (d:Nat)(hk: ∀x,(enc x).length=k)(h:(bif inR j xs.length then X else none)=some r)(kk:X=some r->RJ F P none ops (p+1) [] (f0d L (some d) (.ep (enc (nth xs j)))) H Q)
    (hh:o0X P none ops p [] L H=some (some d,⟨.ep (((xs.flatMap enc).drop (j.toNat*k)).take k),[],[]⟩,inR j xs.length,[]):=by kernel_rfl):RJ F P none ops p [] L H Q:=
  kI d hk (b0k h).1 (kk (b0k h).2) hh
theorem kGb {α:Type} {X:Option α} {r:α} {s:List UInt8} {j:Int} (d:Nat)(h:(bif inR j s.length then X else none)=some r)(kk:X=some r->RJ F P none ops (p+1) [] (f0d L (some d) (.int .u8 (((s.getD j.toNat 0).toNat:Nat):Int))) H Q)
    (hh:o0X P none ops p [] L H=some (some d,⟨.int .u8 (((s.getD j.toNat 0).toNat:Nat):Int),[],[]⟩,inR j s.length,[]):=by kernel_rfl):RJ F P none ops p [] L H Q:=
  kG d (b0k h).1 (kk (b0k h).2) hh
theorem kAb {f:FuncId} {args:List SV} {A R:Type} {X:Option A} {k:A->Option R} {r:R} {v:A->SV} (d:Nat)(h:X.bind k=some r)(hs: ∀y,X=some y->SC P f args [] (v y) [])(kk: ∀y,k y=some r->RJ F P none ops (p+1) [] (f0d L (some d) (v y)) H Q)
    (hc:h0d none ops p [] L []=some (some d,f,args,[]):=by kernel_rfl) (hr:SV.refsL 0 args=true:=by kernel_rfl) (hv: ∀y,SV.refs 0 (v y)=true:=by intro _;kernel_rfl):RJ F P none ops p [] L H Q:=by
  obtain⟨y,e1,e2⟩:=a0l h
  exact kA d (hs y e1) (kk y e2) hc hr (hv y)
theorem kAp {T α:Type} {X:Option α} {r:α} {xs ys:List T} (d i k w e:Nat)(rd:List Nat)(enc:T->List SV)(h:(bif room (xs.length+ys.length)then X else none)=some r)(kk:X=some r->RJ F P none ops (p+1) [] (f0d L (some d) (.vc k)) (b0t H [(i, .gone),(k,a0H enc w e (xs++ys))]) Q)
    (hh:o0X P none ops p [] L H=some (some d,⟨.vc k,rd,[(i, .gone),(k, .vec (xs.length+ys.length) w e (xs.flatMap enc++ys.flatMap enc))]⟩,room (xs.length+ys.length),[]):=by kernel_rfl):RJ F P none ops p [] L H Q:=
  RJ.rel (ef':=⟨.vc k,rd,[(i, .gone),(k,a0H enc w e (xs++ys))]⟩) hh (b0k h).1 (λ_=>N.app) rfl (kk (b0k h).2)
/-! Ends and calls, their heaps as they come out. -/
theorem kPV {H0 H':a0f} (σ:List Nat)(hH:F.H0=H0)(hdom: ∀i,F.H0.length<=i->F.D0 i=none)(hl:σ.length=H'.length:=by kernel_rfl)(hg:σ.map (λi=>H[i]?)=H'.map (λen=>some (Ent.rn (b0r σ) en)):=by kernel_rfl)(hnd:σ.Nodup:=by decide)(hr:H'.all (Ent.refs H'.length)=true:=by kernel_rfl)
    (hk:σ.take H0.length=List.range H0.length:=by kernel_rfl) (hle:Nat.ble H0.length H'.length=true:=by kernel_rfl):PP F (A0W F H') L H:=K.panV σ hH hdom hl hg hnd hr hk hle
theorem kRV {fn:Func} {e:Exit} {H0 H':a0f} {v:SV} (σ:List Nat)(he:e= .normal\/e= .ret)(hn:F.n=fn.ntmps)(hH:F.H0=H0)(hdom: ∀i,F.H0.length<=i->F.D0 i=none)(hin:i0G fn.ntmps fn.results.toList=true:=by kernel_rfl)(hret:r0r P fn.results.toList L H=some (SV.rn (b0r σ) v):=by kernel_rfl)
    (hl:σ.length=H'.length:=by kernel_rfl) (hg:σ.map (λi=>H[i]?)=H'.map (λen=>some (Ent.rn (b0r σ) en)):=by kernel_rfl) (hnd:σ.Nodup:=by decide) (hr:H'.all (Ent.refs H'.length)=true:=by kernel_rfl) (hk:σ.take H0.length=List.range H0.length:=by kernel_rfl) (hle:Nat.ble H0.length H'.length=true:=by kernel_rfl)
    (hvr:SV.refs H'.length v=true:=by kernel_rfl):PJ F (s0P P fn F v H') e L H:=K.retV σ he hn hH hdom hin hret hl hg hnd hr hk hle rfl hvr
theorem kCP {f:FuncId} {args0:List SV} {H0 H0':a0f} (d:Option Nat)(σ:List Nat)(hs:SP P f args0 H0 H0')(k:PP F Q L (d0q (b0r σ) H0.length H H0'))(h:h0d none ops p [] L []=some (d,f,SV.rnL (b0r σ) args0,[]):=by kernel_rfl)
    (hl:σ.length=H0.length:=by kernel_rfl) (hg:σ.map (λi=>H[i]?)=H0.map (λen=>some (Ent.rn (b0r σ) en)):=by kernel_rfl) (hn:σ.Nodup:=by decide) (hr0:H0.all (Ent.refs H0.length)=true:=by kernel_rfl) (hlive:H0.all f0z=true:=by kernel_rfl) (hr:SV.refsL H0.length args0=true:=by kernel_rfl)
    (hle':Nat.ble H0.length H0'.length=true:=by kernel_rfl):RJ F P none ops p [] L H Q:=RJ.callP σ h rfl hl hg hn hr0 hlive hr (LeL.refl _) hs hle' rfl k
theorem kCg {f:FuncId} {args0:List SV} {v0:SV} {H0 H0':a0f} (d:Option Nat)(σ:List Nat)(hs:SC P f args0 H0 v0 H0')(kk:RJ F P none ops (p+1) [] (f0d L d (SV.rn (gOf (b0r σ) H0.length H.length) v0)) (d0q (b0r σ) H0.length H H0') Q)(h:h0d none ops p [] L []=some (d,f,SV.rnL (b0r σ) args0,[]):=by kernel_rfl)
    (hl:σ.length=H0.length:=by kernel_rfl) (hg:σ.map (λi=>H[i]?)=H0.map (λen=>some (Ent.rn (b0r σ) en)):=by kernel_rfl) (hn:σ.Nodup:=by decide) (hr0:H0.all (Ent.refs H0.length)=true:=by kernel_rfl) (hlive:H0.all f0z=true:=by kernel_rfl) (hr:SV.refsL H0.length args0=true:=by kernel_rfl)
    (hle':Nat.ble H0.length H0'.length=true:=by kernel_rfl):RJ F P none ops p [] L H Q:=RJ.callG σ h rfl hl hg hn hr0 hlive hr (LeL.refl _) hs hle' rfl rfl kk
theorem kDr(k:RJ F P (some H.length) (h0g c) 0 [] L (H++List.replicate (f0k (h0g c)) .res) Q)(h:m0m true c=true:=by kernel_rfl)(hm:P.follows .mixedOrders=true:=by kernel_rfl)(hB:Region.lexB .any (h0g c)=true:=by kernel_rfl):J F P c L H Q:=K.draw h hm hB rfl rfl k
theorem kSB {T:Type} [Inhabited T] {enc:T->List SV} {k o:Nat} {xs:List T} {j:Int} {tr:List (List Nat×List Nat)} (i:Nat)(tr2:List (List Nat×List Nat))(hk: ∀x,(enc x).length=k)(y:T)(hm:inP o j xs.length=true)(kk:RJ F P m ops (p+1) tr2 L (b0t H [(i, .box ((m0J xs ((o:Int)+j) y).flatMap enc))]) Q)
    (h:v0n P m ops p tr L H=some (none,⟨.undef,[i],[(i, .box (splice (xs.flatMap enc) (o*k+j.toNat*k) (enc y)))]⟩,Nat.ble (o*k+j.toNat*k+(enc y).length) (xs.flatMap enc).length,tr2):=by kernel_rfl):RJ F P m ops p tr L H Q:=
  RJ.relS (ef':=⟨.undef,[i],[(i, .box ((m0J xs ((o:Int)+j) y).flatMap enc))]⟩) h (u0U hk hm) (λ_=>N.storeB hk hm) rfl kk
/-! Ways out, each in one step. -/
theorem kCx {S X:Type} {R:S->LE×a0f} {x:X} {y:S⊕X} {k:S->Option X} {r:Option X} {e:Exit} (hA:some (.inr x)=some y)(hC:a0m k y=r)(kk:some x=r->PJ F Q e L H)(hne:e≠ .normal:=by exact λe=>nomatch e):PJ F (cutX F R Q y) e L H:=by
  obtain rfl:=oi hA;exact PJ.cutXr hne (kk hC)
theorem kLx {S O:Type} {R:S->LE×a0f} {o o':O} {y:S⊕O} {e:Exit} (hA:some (.inr o')=some y)(kk:some o'=some o->PJ F Q e L H)(hne:e≠ .normal:=by exact λe=>nomatch e):PJ F (p0k F R Q o y) e L H:=by
  obtain rfl:=oi hA;exact PJ.loopOut hne (λh=>kk (congrArg some h))
theorem kEx(i:Nat)(k:PJ F Q (.exit i) L H)(h:w0c i c=true:=by kernel_rfl):J F P c L H Q:=K.exit i h k
theorem kEp {d:Code} (i:Nat)(k:PJ F Q (.exit i) L H)(h:w0c i c=true:=by kernel_rfl):J F P c L H (i0X F P d Q):=K.exit i h (PJ.passExit k)
theorem kKb {i:Nat} (k:PJ F Q .normal L H)(h:q0P c=true:=by kernel_rfl):J F P c L H (Exit.inBlock i Q):=kK (PJ.blockNormal k) h
theorem kKn {d:Code} {i:Nat} (k:J F P d L H Q)(h:q0P c=true:=by kernel_rfl):J F P c L H (Exit.inBlock i (i0X F P d Q)):=kK (PJ.blockNormal (PJ.next k)) h
theorem kXb {i:Nat} (k:PJ F Q .ret L H)(h:x0X c=true:=by kernel_rfl):J F P c L H (Exit.inBlock i Q):=kX (PJ.blockRet k) h
theorem kXp {d:Code} {i:Nat} (k:PJ F Q .ret L H)(h:x0X c=true:=by kernel_rfl):J F P c L H (Exit.inBlock i (i0X F P d Q)):=kX (PJ.blockRet (PJ.passRet k)) h
end
end
section
variable [Inhabited GT]
section
variable {T : Type} [Inhabited T] {enc : T -> List SV} {k : Nat}
end
end
section
variable [Inhabited GT]
/-! Entries that are named. -/
mutual
def SV.rl:SV->List Nat
  | .agg cs=>SV.rlL cs
  | .tup cs=>SV.rlL cs
  | .ptr i _=> [i]
  | .vc i=> [i]
  | .sl i _ _ _=> [i]
  | .mp i=> [i]
  | .fn _ a b=>SV.rlL a++SV.rlL b
  | .undef=> []
  | .bool _=> []
  | .int _ _=> []
  | .str _=> []
  | .nl=> []
  | .lst _ _ _=> []
  | .ep _=> []
  | .nilp=> []
  | .yld i=> [i]
def SV.rlL:List SV->List Nat
  | []=> []
  |c::cs=>SV.rl c++SV.rlL cs
end
def Ent.rl:Ent->List Nat
  | .box cs=>SV.rlL cs
  | .map es=>es.flatMap λp=>SV.rl p.1++SV.rl p.2
  | .itr i _ _=> [i]
  | .lop tm _ _ _ _ _=>SV.rlL tm
  | .pmap es=>es.flatMap λp=>SV.rl p.1++SV.rl p.2
  |_=> []
mutual
theorem o0W {f g:Nat->Nat} : ∀(s:SV),(∀i∈SV.rl s,f (g i)=i)->SV.rn f (SV.rn g s)=s
  | .agg cs,h=>by simp only[SV.rn];rw[f0S cs (λi hi=>h i (by simp only[SV.rl];exact hi))]
  | .tup cs,h=>by simp only[SV.rn];rw[f0S cs (λi hi=>h i (by simp only[SV.rl];exact hi))]
  | .ptr i _,h=>by simp only[SV.rn];rw[h i (by simp[SV.rl])]
  | .vc i,h=>by simp only[SV.rn];rw[h i (by simp[SV.rl])]
  | .sl i _ _ _,h=>by simp only[SV.rn];rw[h i (by simp[SV.rl])]
  | .mp i,h=>by simp only[SV.rn];rw[h i (by simp[SV.rl])]
  | .fn _ a b,h=>by simp only[SV.rn];rw[f0S a (λi hi=>h i (by simp only[SV.rl];exact bW _ hi)),f0S b (λi hi=>h i (by simp only[SV.rl];exact bQ _ hi))]
  | .undef,_=>rfl
  | .bool _,_=>rfl
  | .int _ _,_=>rfl
  | .str _,_=>rfl
  | .nl,_=>rfl
  | .lst _ _ _,_=>rfl
  | .ep _,_=>rfl
  | .nilp,_=>rfl
  | .yld i,h=>by simp only[SV.rn];rw[h i (by simp[SV.rl])]
theorem f0S {f g:Nat->Nat} : ∀(l:List SV),(∀i∈SV.rlL l,f (g i)=i)->SV.rnL f (SV.rnL g l)=l
  | [],_=>rfl
  |c::cs,h=>by simp only[SV.rnL];rw[o0W c (λi hi=>h i (by simp only[SV.rlL];exact bW _ hi)),f0S cs (λi hi=>h i (by simp only[SV.rlL];exact bQ _ hi))]
end
mutual
theorem o0Y {g:Nat->Nat} {n:Nat} : ∀(s:SV),(∀i∈SV.rl s,g i<n)->SV.refs n (SV.rn g s)=true
  | .agg cs,h=>by simp only[SV.rn,SV.refs];exact f0T cs (λi hi=>h i (by simp only[SV.rl];exact hi))
  | .tup cs,h=>by simp only[SV.rn,SV.refs];exact f0T cs (λi hi=>h i (by simp only[SV.rl];exact hi))
  | .ptr i _,h=>by simp only[SV.rn,SV.refs];exact decide_eq_true (h i (by simp[SV.rl]))
  | .vc i,h=>by simp only[SV.rn,SV.refs];exact decide_eq_true (h i (by simp[SV.rl]))
  | .sl i _ _ _,h=>by simp only[SV.rn,SV.refs];exact decide_eq_true (h i (by simp[SV.rl]))
  | .mp i,h=>by simp only[SV.rn,SV.refs];exact decide_eq_true (h i (by simp[SV.rl]))
  | .fn _ a b,h=>by simp only[SV.rn,SV.refs];rw[f0T a (λi hi=>h i (by simp only[SV.rl];exact bW _ hi)),f0T b (λi hi=>h i (by simp only[SV.rl];exact bQ _ hi))];rfl
  | .undef,_=>rfl
  | .bool _,_=>rfl
  | .int _ _,_=>rfl
  | .str _,_=>rfl
  | .nl,_=>rfl
  | .lst _ _ _,_=>rfl
  | .ep _,_=>rfl
  | .nilp,_=>rfl
  | .yld i,h=>by simp only[SV.rn,SV.refs];exact decide_eq_true (h i (by simp[SV.rl]))
theorem f0T {g:Nat->Nat} {n:Nat} : ∀(l:List SV),(∀i∈SV.rlL l,g i<n)->SV.refsL n (SV.rnL g l)=true
  | [],_=>rfl
  |c::cs,h=>by simp only[SV.rnL,SV.refsL];rw[o0Y c (λi hi=>h i (by simp only[SV.rlL];exact bW _ hi)),f0T cs (λi hi=>h i (by simp only[SV.rlL];exact bQ _ hi))];rfl
end
theorem m0d {f g:Nat->Nat} : ∀(es:List (SV×SV)),(∀i∈es.flatMap (λp=>SV.rl p.1++SV.rl p.2),f (g i)=i)->(es.map λp=>(SV.rn g p.1,SV.rn g p.2)).map (λp=>(SV.rn f p.1,SV.rn f p.2))=es
  | [],_=>rfl
  |p::r,h=>by
    have h1:=o0W p.1 (λi hi=>h i (by simp only[az,av];exact .inl (.inl hi)))
    have h2:=o0W p.2 (λi hi=>h i (by simp only[az,av];exact .inl (.inr hi)))
    have h3:=m0d r (λi hi=>h i (by simp only[az,av];exact .inr hi))
    simp only[aj]at h3⊢
    rw[h1,h2,h3]
theorem m0c {g:Nat->Nat} {n:Nat} : ∀(es:List (SV×SV)),(∀i∈es.flatMap (λp=>SV.rl p.1++SV.rl p.2),g i<n)->((es.map λp=>(SV.rn g p.1,SV.rn g p.2)).all λp=>SV.refs n p.1&&SV.refs n p.2)=true
  | [],_=>rfl
  |p::r,h=>by
    have h1:=o0Y p.1 (λi hi=>h i (by simp only[az,av];exact .inl (.inl hi)))
    have h2:=o0Y p.2 (λi hi=>h i (by simp only[az,av];exact .inl (.inr hi)))
    have h3:=m0c r (λi hi=>h i (by simp only[az,av];exact .inr hi))
    simp only[aj,aE]at h3⊢
    rw[h1,h2,h3];rfl
theorem y0d {f g:Nat->Nat} (en:Ent)(h: ∀i∈Ent.rl en,f (g i)=i):Ent.rn f (Ent.rn g en)=en:=by
  cases en with
  |box cs=>simp only[Ent.rn];rw[f0S cs h]
  |map es=>simp only[Ent.rn];rw[m0d es h]
  |pmap es=>simp only[Ent.rn];rw[m0d es h]
  |itr m n s=>simp only[Ent.rn];rw[h m (by simp[Ent.rl])]
  |lop tm ps as bd st pd=>simp only[Ent.rn];rw[f0S tm h]
  |dfr=>rfl
  |res=>rfl
  |gone=>rfl
  |vec=>rfl
theorem y0e {g:Nat->Nat} {n:Nat} (en:Ent)(h: ∀i∈Ent.rl en,g i<n):Ent.refs n (Ent.rn g en)=true:=by
  cases en with
  |box cs=>exact f0T cs h
  |map es=>exact m0c es h
  |pmap es=>exact m0c es h
  |itr m n s=>exact decide_eq_true (h m (by simp[Ent.rl]))
  |lop tm ps as bd st pd=>exact f0T tm h
  |dfr=>rfl
  |res=>rfl
  |gone=>rfl
  |vec=>rfl
/-! A part of the entries: those that are reached. -/
def q0A(i:Nat):List Nat->Bool
  | []=>false
  |x::r=>bif Nat.beq x i then true else q0A i r
def u0v:List Nat->Nat->Nat
  | [],_=>0
  |x::r,i=>bif Nat.beq x i then 0 else u0v r i+1
def s0W:List Nat->Bool
  | []=>true
  |x::r=> !q0A x r&&s0W r
theorem i0e {i:Nat} : ∀ {l:List Nat},q0A i l=true↔i∈l
  | []=>by simp[q0A]
  |x::r=>by
    simp only[q0A,aO]
    cases hb:Nat.beq x i with
    |true=>have:=ae hb;simp[this]
    |false=>
      have hne: ¬i=x:=λe=>by subst e;simp at hb
      simp[hne,i0e (l:=r)]
theorem o0u: ∀ {l:List Nat},s0W l=true->l.Nodup
  | [],_=>List.nodup_nil
  |x::r,h=>by
    simp only[s0W,aa,ci]at h
    refine List.nodup_cons.2 ⟨λhm=> ?_,o0u h.2⟩
    rw[i0e.2 hm]at h;cases h.1
theorem p0b {i:Nat} : ∀ {l:List Nat},i∈l->l[u0v l i]?=some i
  | [],h=>by cases h
  |x::r,h=>by
    simp only[u0v]
    cases hb:Nat.beq x i with
    |true=>have:=ae hb;simp[this]
    |false=>
      have hne: ¬i=x:=λe=>by subst e;simp at hb
      simp only[cond_false,List.getElem?_cons_succ]
      exact p0b ((aO.1 h).resolve_left hne)
def k0z(H:a0f):Nat->List Nat->List Nat->List Nat
  |0,_,seen=>seen
  |_+1,[],seen=>seen
  |n+1,i::r,seen=>bif q0A i seen then k0z H n r seen else k0z H n (Ent.rl (H.getD i .gone)++r) (seen++ [i])
def m0V(σ:List Nat)(H:a0f):a0f:=σ.map λi=>Ent.rn (u0v σ) (H.getD i .gone)
def n0X(σ:List Nat)(H:a0f):Bool:=s0W σ&&σ.all λi=>Nat.blt i H.length&&(Ent.rl (H.getD i .gone)).all λk=>q0A k σ
theorem l0g {σ:List Nat} {i:Nat} (h:i∈σ):b0r σ (u0v σ i)=i:=by
  unfold b0r
  rw[ak,p0b h];rfl
theorem q0o {σ:List Nat} {i:Nat} (h:i∈σ):u0v σ i<σ.length:=(ab.1 (p0b h)).1
theorem e0C(σ:List Nat)(H:a0f):(m0V σ H).length=σ.length:=by unfold m0V;simp
theorem g0O {σ:List Nat} {H:a0f} (h:n0X σ H=true):Sel H (b0r σ) (m0V σ H):=by
  simp only[n0X,aa,List.all_eq_true]at h
  obtain⟨h1,h2⟩:=h
  have hr: ∀i∈σ,∀k∈Ent.rl (H.getD i .gone),k∈σ:=λi hi k hk=>i0e.1 ((h2 i hi).2 k hk)
  refine Sel.of σ (e0C σ H).symm ?_ (o0u h1) (List.all_eq_true.2 λen hen=> ?_)
  unfold m0V
  rw[bE]
  refine bk λi hi=> ?_
  have hlt:i<H.length:=bn (af (by have:=(h2 i hi).1;simpa [Nat.blt]using this))
  simp only[Function.comp]
  rw[y0d _ (λk hk=>l0g (hr i hi k hk)),ak,ac hlt];rfl
  rw[e0C]
  obtain⟨i,hi,rfl⟩:=aR.1 hen
  exact y0e _ (λk hk=>q0o (hr i hi k hk))
abbrev CallT:=FuncId->List SV->a0f->Option (SV×a0f)
def CallT.Ok(P:Program)(cl:CallT):Prop:= ∀f args H v H',cl f args H=some (v,H')->SC P f args H v H'
def A0x(cl:CallT)(f:FuncId)(args:List SV)(H:a0f):Option (SV×a0f):=
  (fun σ=>bif n0X σ H&&(SV.rlL args).all (λk=>q0A k σ)&&(m0V σ H).all f0z then
    match cl f (SV.rnL (u0v σ) args) (m0V σ H)with
    |some (v0,H0')=>bif Nat.ble σ.length H0'.length then some (SV.rn (gOf (b0r σ) σ.length H.length) v0,d0q (b0r σ) σ.length H H0')else none
    |none=>none
  else none) (k0z H 100000 (SV.rlL args) [])
theorem y0j {P:Program} {cl:CallT} (hcl:cl.Ok P):CallT.Ok P (A0x cl):=by
  intro f args H v H' h
  unfold A0x at h
  generalize k0z H 100000 (SV.rlL args) []=σ at h
  simp only at h
  cases hc:n0X σ H&&(SV.rlL args).all (λk=>q0A k σ)&&(m0V σ H).all f0z with
  |false=>rw[hc]at h;cases h
  |true=>
    rw[hc]at h
    simp only[aa,List.all_eq_true]at hc
    obtain⟨⟨c1,c2⟩,c3⟩:=hc
    simp only[cond_true]at h
    split at h
    rename_i v0 H0' he
    cases hb:Nat.ble σ.length H0'.length with
    |false=>rw[hb]at h;cases h
    |true=>
      rw[hb]at h
      cases h
      have hm: ∀i∈SV.rlL args,i∈σ:=λi hi=>i0e.1 (c2 i hi)
      have:=SC.frame (hcl _ _ _ _ _ he) (g0O c1) c3 (by rw[e0C];exact f0T _ (λk hk=>q0o (hm k hk))) (by rw[e0C];exact af hb)
      rw[f0S _ (λk hk=>l0g (hm k hk)),e0C]at this
      exact this
    cases h
/-! Sameness of what is known. -/
mutual
def SV.eqb:SV->SV->Bool
  | .undef, .undef=>true
  | .bool a, .bool b=>decide (a=b)
  | .int k n, .int k' n'=>decide (k=k')&&decide (n=n')
  | .str a, .str b=>decide (a=b)
  | .nl, .nl=>true
  | .lst n k a, .lst n' k' b=>Nat.beq n n'&&Nat.beq k k'&&SV.eqbL a b
  | .ep a, .ep b=>SV.eqbL a b
  | .agg a, .agg b=>SV.eqbL a b
  | .tup a, .tup b=>SV.eqbL a b
  | .ptr i o, .ptr j q=>Nat.beq i j&&Nat.beq o q
  | .vc i, .vc j=>Nat.beq i j
  | .sl i o n k, .sl i' o' n' k'=>Nat.beq i i'&&Nat.beq o o'&&Nat.beq n n'&&Nat.beq k k'
  | .mp i, .mp j=>Nat.beq i j
  | .nilp, .nilp=>true
  | .yld i, .yld j=>Nat.beq i j
  |_,_=>false
def SV.eqbL:List SV->List SV->Bool
  | [],[]=>true
  |a::r,b::q=>SV.eqb a b&&SV.eqbL r q
  |_,_=>false
end
mutual
theorem r0a: ∀(a b:SV),SV.eqb a b=true->a=b
  | .undef,b,h=>by cases b<;>first|rfl|(simp[SV.eqb]at h)
  | .bool a,b,h=>by cases b<;>first|(simp[SV.eqb]at h;rw[h])|(simp[SV.eqb]at h)
  | .int k n,b,h=>by cases b<;>first|(simp[SV.eqb]at h;rw[h.1,h.2])|(simp[SV.eqb]at h)
  | .str a,b,h=>by cases b<;>first|(simp[SV.eqb]at h;rw[h])|(simp[SV.eqb]at h)
  | .nl,b,h=>by cases b<;>first|rfl|(simp[SV.eqb]at h)
  | .lst n k a,b,h=>by
    cases b with
    |lst n' k' b=>simp[SV.eqb]at h;rw[h.1.1,h.1.2,j0L a b h.2]
    |_=>simp[SV.eqb]at h
  | .ep a,b,h=>by
    cases b with
    |ep b=>simp only[SV.eqb]at h;rw[j0L a b h]
    |_=>simp[SV.eqb]at h
  | .agg a,b,h=>by
    cases b with
    |agg b=>simp only[SV.eqb]at h;rw[j0L a b h]
    |_=>simp[SV.eqb]at h
  | .tup a,b,h=>by
    cases b with
    |tup b=>simp only[SV.eqb]at h;rw[j0L a b h]
    |_=>simp[SV.eqb]at h
  | .ptr i o,b,h=>by cases b<;>first|(simp[SV.eqb]at h;rw[h.1,h.2])|(simp[SV.eqb]at h)
  | .vc i,b,h=>by cases b<;>first|(simp[SV.eqb]at h;rw[h])|(simp[SV.eqb]at h)
  | .sl i o n k,b,h=>by cases b<;>first|(simp[SV.eqb]at h;rw[h.1.1.1,h.1.1.2,h.1.2,h.2])|(simp[SV.eqb]at h)
  | .mp i,b,h=>by cases b<;>first|(simp[SV.eqb]at h;rw[h])|(simp[SV.eqb]at h)
  | .nilp,b,h=>by cases b<;>first|rfl|(simp[SV.eqb]at h)
  | .fn _ _ _,b,h=>by cases b<;>simp[SV.eqb]at h
  | .yld i,b,h=>by cases b<;>first|(simp[SV.eqb]at h;rw[h])|(simp[SV.eqb]at h)
theorem j0L: ∀(a b:List SV),SV.eqbL a b=true->a=b
  | [],b,h=>by cases b<;>first|rfl|(simp[SV.eqbL]at h)
  |a::r,b,h=>by
    cases b with
    |nil=>simp[SV.eqbL]at h
    |cons b q=>
      simp only[SV.eqbL,aa]at h
      rw[r0a a b h.1,j0L r q h.2]
end
def Ent.eqb:Ent->Ent->Bool
  | .box a, .box b=>SV.eqbL a b
  | .vec n k e a, .vec n' k' e' b=>Nat.beq n n'&&Nat.beq k k'&&Nat.beq e e'&&SV.eqbL a b
  |_,_=>false
def f0n:a0f->a0f->Bool
  | [],[]=>true
  |a::r,b::q=>Ent.eqb a b&&f0n r q
  |_,_=>false
theorem A0f {a b:Ent} (h:Ent.eqb a b=true):a=b:=by
  cases a with
  |box a=>
    cases b with
    |box b=>simp only[Ent.eqb]at h;rw[j0L a b h]
    |_=>simp[Ent.eqb]at h
  |vec n k e a=>
    cases b with
    |vec n' k' e' b=>
      simp only[Ent.eqb,aa]at h
      rw[ae h.1.1.1,ae h.1.1.2,ae h.1.2,j0L a b h.2]
    |_=>simp[Ent.eqb]at h
  |_=>simp[Ent.eqb]at h
theorem i0j: ∀ {a b:a0f},f0n a b=true->a=b
  | [],[],_=>rfl
  | [],_::_,h=>by cases h
  |_::_,[],h=>by cases h
  |a::r,b::q,h=>by
    simp only[f0n,aa]at h
    rw[A0f h.1,i0j h.2]
/-! What is come to is put down as it is, at once. -/
section
universe u
variable {α : Sort u}
end
/-! What is known, kept short. -/
section
variable {F : Fr} {P : Program} {L L2 : LE} {H : a0f} {Q : f0C} {m : Option Nat} {ops : Array Oper} {p : Nat} {tr : List (List Nat × List Nat)}
/-! Regions. -/
def w0G(cl:CallT)(f:FuncId)(args:List SV)(H:a0f)(idx:Nat):Option Eff:=
  (fun σ=>bif n0X σ H&&(SV.rlL args).all (λk=>q0A k σ)&&(m0V σ H).all f0z then
    match cl f (SV.rnL (u0v σ) args) (m0V σ H)with
    |some (v0,H0')=>
      bif Nat.beq H0'.length σ.length then
        bif SV.refs σ.length v0 then
          bif f0n H0' (m0V σ H)then some ⟨SV.rn (b0r σ) v0,(List.range σ.length).map (b0r σ),[]⟩
          else bif H0'.all (Ent.refs σ.length)then some ⟨SV.rn (b0r σ) v0,(List.range σ.length).map (b0r σ),k0E (b0r σ) σ.length H0'⟩else none
        else none
      else bif Nat.beq H0'.length (σ.length+1)&&l0y (H[idx]?)then bif f0n (H0'.take σ.length) (m0V σ H)then some ⟨SV.rn (pOf (b0r σ) σ.length idx) v0,(List.range σ.length).map (b0r σ),[(idx,Ent.rn (pOf (b0r σ) σ.length idx) (H0'.getD σ.length .gone))]⟩else some ⟨SV.rn (pOf (b0r σ) σ.length idx) v0,(List.range σ.length).map (b0r σ),k0E (pOf (b0r σ) σ.length idx) (σ.length+1) H0'⟩else none
    |none=>none
  else none) (k0z H 100000 (SV.rlL args) [])
theorem t0d {x:Option Ent} (h:l0y x=true):x=some .res:=by
  unfold l0y at h
  split at h
  rfl
  cases h
theorem w0F {cl:CallT} (hcl:cl.Ok P) {ρ:Env} {o:Oper} {f:FuncId} {args:List SV} {idx:Nat} {ef:Eff} (hc:e0B ρ o=some (f,args))(h:w0G cl f args H idx=some ef):B0O P ρ o H idx ef:=by
  unfold w0G at h
  generalize k0z H 100000 (SV.rlL args) []=σ at h
  simp only at h
  cases hb:n0X σ H&&(SV.rlL args).all (λk=>q0A k σ)&&(m0V σ H).all f0z with
  |false=>rw[hb]at h;cases h
  |true=>
    rw[hb]at h
    simp only[aa,List.all_eq_true]at hb
    obtain⟨⟨c1,c2⟩,c3⟩:=hb
    simp only[cond_true]at h
    have hm: ∀i∈SV.rlL args,i∈σ:=λi hi=>i0e.1 (c2 i hi)
    have ha:args=SV.rnL (b0r σ) (SV.rnL (u0v σ) args):=(f0S _ (λk hk=>l0g (hm k hk))).symm
    have hr:SV.refsL (m0V σ H).length (SV.rnL (u0v σ) args)=true:=by rw[e0C];exact f0T _ (λk hk=>q0o (hm k hk))
    have hl:=e0C σ H
    split at h
    · rename_i v0 H0' he
      have hs:=hcl _ _ _ _ _ he
      cases h1:Nat.beq H0'.length σ.length with
      |true=>
        rw[h1]at h
        have h1:=ae h1
        simp only[cond_true]at h
        cases h2:SV.refs σ.length v0 with
        |false=>rw[h2]at h;cases h
        |true=>
          rw[h2]at h
          simp only[cond_true]at h
          cases h3:f0n H0' (m0V σ H)with
          |true=>
            rw[h3]at h
            have h3:=i0j h3
            cases h
            refine .inl ⟨f,args,b0r σ,_,m0V σ H,v0,hc,ha,g0O c1,c3,hr,by rw[hl];exact h2,by rw[h3]at hs;exact hs,by rw[hl]⟩
          |false=>
            rw[h3]at h
            simp only[cond_false]at h
            cases h4:H0'.all (Ent.refs σ.length)with
            |false=>rw[h4]at h;cases h
            |true=>
              rw[h4]at h
              cases h
              exact .inr (.inr (.inl ⟨f,args,b0r σ,_,m0V σ H,v0,H0',hc,ha,g0O c1,c3,hr,by rw[hl];exact h2,hs,by rw[hl];exact h1,λj en hj=>by rw[hl];exact List.all_eq_true.1 h4 en (aA hj),by rw[hl]⟩))
      |false=>
        rw[h1]at h
        simp only[cond_false]at h
        cases h2:Nat.beq H0'.length (σ.length+1)&&l0y (H[idx]?)with
        |false=>rw[h2]at h;cases h
        |true=>
          rw[h2]at h
          simp only[aa]at h2
          have hlen:=ae h2.1
          simp only[cond_true]at h
          cases h5:f0n (H0'.take σ.length) (m0V σ H)with
          |false=>
            rw[h5]at h
            cases h
            exact .inr (.inr (.inr (.inl ⟨f,args,b0r σ,_,m0V σ H,v0,H0',hc,ha,g0O c1,c3,hr,hs,by rw[hl];exact hlen,t0d h2.2,by rw[hl]⟩)))
          |true=>
            rw[h5]at h
            cases h
            have h6:=i0j h5
            have h7:H0'=m0V σ H++ [H0'.getD σ.length .gone]:=by
              conv=>lhs;rw[<-bR σ.length H0']
              rw[h6]
              congr 1
              have hd:=bA (i:=σ.length) (l:=H0') (by omega)
              rw[hd,bD (by omega),ak,ac (by omega)]
              rfl
            refine .inr (.inr (.inr (.inr ⟨f,args,b0r σ,_,m0V σ H,v0,H0'.getD σ.length .gone,hc,ha,g0O c1,c3,hr, ?_,t0d h2.2,by rw[hl]⟩)))
            rw[<-h7];exact hs
    cases h
def C0C(ef:Eff)(H:a0f):Bool:=ef.wr.all λx=>Nat.blt x.1 H.length
end
/-! Code. -/
/-! Functions. -/
def s0m(H0:a0f)(v1:SV)(H1:a0f):Option (SV×a0f):=
  (fun σ=>bif n0X σ H1&&(SV.rl v1).all (λk=>q0A k σ)&&decide (σ.take H0.length=List.range H0.length)&&Nat.ble H0.length σ.length then some (SV.rn (u0v σ) v1,m0V σ H1)else none)
    (k0z H1 100000 ((List.range H0.length).flatMap (λi=>Ent.rl (H1.getD i .gone))++SV.rl v1) (List.range H0.length))
end
section
variable [Inhabited GT]
def g0A(ρ:Env)(o:Oper):Option (Nat×Nat):=match o.op with
  | .load _ x=>match a0F ρ x with
    |some (.ptr i off)=>some (i,off)
    |_=>none
  |_=>none
def C0F:List (Nat×Ent)->Bool
  | []=>true
  |_=>false
def z0n(P:Program)(t:TypeId)(off:Nat)(v:SV)(en:Ent):Bool:=match(b0F en).bind (λcs=>b0j P t (cs.drop off))with
  |some u=>SV.eqb u v
  |none=>false
def ldk(P:Program)(o:Oper)(ef:Eff)(q:Option (Nat×Nat))(ef':Eff):Bool:=match o.op,q with
  | .load t _,some (i,off)=>C0F ef.wr&&ef'.wr.all λy=> !(Nat.beq y.1 i)||z0n P t off ef.v y.2
  |_,_=>false
abbrev XT:=(List Nat×List Nat)×(Oper×Eff×Option (Nat×Nat))
def h0a(P:Program)(o:Oper)(rd fw:List Nat)(ef:Eff):List XT->Nat->Bool
  | [],_=>true
  |x::r,j=>(o.after.any (λe=>Region.binds .any e&&e.on==j)||(m0P x.1.1 x.1.2 rd fw||ldk P x.2.1 x.2.2.1 x.2.2.2 ef))&&h0a P o rd fw ef r (j+1)
def u0H(P:Program)(ops:Array Oper)(base:Nat):List XT->List Oper->(Env->a0f->Prop)->Env->a0f->Prop
  |_,[],K,ρ,H=>K ρ H
  |tr,o::rest,K,ρ,H=> ∃ef,opD P ops base tr.length o ρ H ef/\h0a P o (f0D o ef) (e0D ops base tr.length o ef) ef tr 0=true/\u0H P ops base (tr++ [((f0D o ef,e0D ops base tr.length o ef),o,ef,g0A ρ o)]) rest K (j0e ρ o.dst ef.v) (a0I H ef.wr)
section
variable {P : Program} {ops : Array Oper} {base : Nat} {md : Region.Mode}
theorem v0D {l:List (Nat×Ent)} (h:C0F l=true):l=[]:=by cases l with|nil=>rfl|cons _ _=>cases h
theorem n0m {t:TypeId} {i off:Nat} {v:SV} : ∀(wr:List (Nat×Ent)) (H:a0f),(wr.all λy=> !(Nat.beq y.1 i)||z0n P t off v y.2)=true->((H[i]?).bind b0F).bind (λcs=>b0j P t (cs.drop off))=some v->
    (((a0I H wr)[i]?).bind b0F).bind (λcs=>b0j P t (cs.drop off))=some v
  | [],H,_,h=>h
  |(j,en)::r,H,ha,h=>by
    simp only[aE,aa]at ha
    simp only[a0I]
    refine n0m r _ ha.2 ?_
    by_cases hj:j=i
    subst hj
    have hil:j<H.length:=by
      rcases br j H.length with h1|h1
      exact h1
      rw[aw h1]at h;cases h
    rw[bO hil]
    have h1:=ha.1
    rw[show Nat.beq j j=true from Nat.beq_refl j]at h1
    simp only[Bool.not_true,Bool.false_or]at h1
    unfold z0n at h1
    show(b0F en).bind _=some v
    split at h1
    rename_i u hu;rw[hu,r0a _ _ h1]
    cases h1
    rw[bH hj];exact h
theorem z0A {i:Nat} {o:Oper} {ρ:Env} {d:Option Tmp} {v:SV} (h: ∀t,d=some t->t∉o.looksAt ops):g0A (j0e ρ d v) o=g0A ρ o:=by
  unfold g0A
  split
  rename_i t x ho
  rw[h0X (λt ht=>d0G (h t ht) (by simp[ho,Op.operands]))]
  rfl
theorem x0T {i:Nat} {o:Oper} {ρ ρ':Env} {H:a0f} {ef ef':Eff} {q:Option (Nat×Nat)} (hv: ∀x∈o.op.operands,a0F ρ x=a0F ρ' x)(hg:b0i ops ρ o=b0i ops ρ' o)(hq:g0A ρ o=q)(hk:ldk P o ef q ef'=true)
    (h:opD P ops base i o ρ H ef):opD P ops base i o ρ' (a0I H ef'.wr) ef:=by
  unfold ldk at hk
  split at hk
  · rename_i t y n off ho
    simp only[aa]at hk
    obtain⟨hn,hk⟩:=hk
    have hc:b0T o=false:=by unfold b0T;rw[ho]
    have hcr:c0U o=false:=by unfold c0U;rw[ho]
    unfold opD at h⊢
    rw[<-hg]
    split
    · rename_i hgt
      rw[hgt]at h
      simp only at h
      rw[hc,if_neg (by simp)]at h⊢
      obtain⟨h1,h2,h3⟩:=h
      refine And.intro (.inl ?_) (And.intro (λhh=>absurd (hcr.symm.trans hh) (by decide)) (λx hx=>by rw[v0D hn]at hx;cases hx))
      rcases h1 with h1|h1
      · have hp:a0F ρ y=some (.ptr n off):=by
          unfold g0A at hq
          rw[ho]at hq
          simp only at hq
          split at hq
          rename_i i1 o1 hx;cases hq;exact hx
          cases hq
        have hp':a0F ρ' y=some (.ptr n off):=by rw[<-hv y (by simp[ho,Op.operands])];exact hp
        have hpe: ∀ρ1:Env,a0F ρ1 y=some (.ptr n off)-> ∀H1 idx,a0E P o ρ1 H1 idx=(((H1[n]?).bind b0F).bind (λcs=>b0j P t (cs.drop off))).map λv=>⟨v,[n],[]⟩:=by
          intro ρ1 h1 H1 idx
          unfold a0E
          have:a0g P o ρ1=none:=by unfold a0g;rw[ho];simp only;rw[h1]
          rw[this]
          simp only[a0q,ho,h1]
          cases(H1[n]?).bind b0F<;>rfl
        rw[hpe ρ hp]at h1
        rw[hpe ρ' hp']
        cases hx:((H[n]?).bind b0F).bind (λcs=>b0j P t (cs.drop off))with
        |none=>rw[hx]at h1;cases h1
        |some v=>
          rw[hx]at h1
          have h1:=au h1
          subst h1
          rw[n0m _ _ hk hx];rfl
      rw[hcr]at h1;cases h1.2
    rename_i hgf
    rw[hgf]at h
    exact h
    rename_i hgn
    rw[hgn]at h
    exact h
  cases hk
theorem u0q {effs:List Eff} {K:Env->a0f->Prop} {i:Nat} {oi:Oper} {ei:Eff} {q:Option (Nat×Nat)} (hi:ops[i]?=some oi)(hei:effs[i]?=some ei): ∀(fuel:Nat) (listed:Array Bool) (ρ:Env) (H:a0f),
    (∀j oj ej,ops[j]?=some oj->effs[j]?=some ej->j≠i->listed.getD j true=false->(∀e∈oj.after,Region.binds md e=true->e.on≠i)->oi.apart ops oj=true/\(m0P (f0D oi ei) (e0D ops base i oi ei) (f0D oj ej) (e0D ops base j oj ej)=true\/ldk P oi ei q ej=true))->
    i∈Region.ready md ops listed->g0A ρ oi=q->opD P ops base i oi ρ H ei->z0d P md ops base effs K fuel (listed.setIfInBounds i true) (j0e ρ oi.dst ei.v) (a0I H ei.wr)->z0d P md ops base effs K (fuel+1) listed ρ H:=by
  intro fuel
  induction fuel with
  |zero=>
    intro listed ρ H _ hr hq hy h
    refine⟨λh0=>(by rw[h0]at hr;cases hr),λj hj=> ?_⟩
    by_cases hji:j=i
    subst hji;exact⟨oi,ei,hi,hei,hy,h⟩
    have:=ready_mono hj hji
    rw[h.1]at this
    cases this
  |succ fuel ih=>
    intro listed ρ H hfree hr hq hy h
    refine⟨λh0=>(by rw[h0]at hr;cases hr),λj hj=> ?_⟩
    by_cases hji:j=i
    subst hji;exact⟨oi,ei,hi,hei,hy,h⟩
    obtain⟨oj,ej,hoj,hej,hdj,hrest⟩:=h.2 j (ready_mono hj hji)
    obtain⟨hjun,oj',hoj',hall⟩:=mem_ready.1 hj
    rw[hoj]at hoj';cases hoj'
    have hnot: ∀e∈oj.after,Region.binds md e=true->e.on≠i:=λe he hb heq=>by
      have h1:=hall e he hb
      have h0:=(mem_ready.1 hr).1
      rw[heq]at h1
      rcases br i listed.size with h'|h'
      simp[h']at h0 h1;rw[h0]at h1;cases h1
      simp[bN h']at h1
    obtain⟨hap,hdis⟩:=hfree j oj ej hoj hej hji hjun hnot
    obtain⟨a1,a2,a3⟩:=Oper.apart_spec hap
    have shc: ∀ {a b:Option Ent},j0b a b->j0b b a:=λh=>by
      rcases h with h|⟨n,k,e,c1,c2,q1,q2⟩|⟨c1,c2,q1,q2⟩
      exact .inl h.symm
      exact .inr (.inl ⟨n,k,e,c2,c1,q2,q1⟩)
      exact .inr (.inr ⟨c2,c1,q2,q1⟩)
    have key:opD P ops base j oj ρ H ej/\opD P ops base i oi (j0e ρ oj.dst ej.v) (a0I H ej.wr) ei/\a0I (a0I H ei.wr) ej.wr=a0I (a0I H ej.wr) ei.wr:=by
      rcases hdis with hdis|hld
      obtain⟨d1,d2⟩:=o0E hdis
      have hwi: ∀x,x∈ei.wr.map Prod.fst->2*x∈e0D ops base i oi ei:=λx hx=>q0U hx
      have hwj: ∀x,x∈ej.wr.map Prod.fst->2*x∈e0D ops base j oj ej:=λx hx=>q0U hx
      obtain⟨ki1,ki2⟩:=l0r hy
      have hdj':opD P ops base j oj ρ H ej:=j0p (ρ:=j0e ρ oi.dst ei.v) (H:=a0I H ei.wr)
        (λx hx=>h0X λt ht=>d0G (a1 t ht) hx) (g0L a1) (by rw[d0l])
        (λx hx=>(ki1 x (λhm=>by
          have:=d1 _ hm
          rcases hx with hx|hx
          exact this.1 hx
          exact this.2 hx)).symm) (λx hx=>shc (ki2 x (λhm=>(d1 _ hm).1 hx))) hdj
      obtain⟨kj1,kj2⟩:=l0r hdj'
      refine⟨hdj',j0p (ρ:=ρ) (H:=H)
        (λx hx=>(h0X λt ht=>d0G (a3 t ht) hx).symm) (g0L a3).symm (by rw[d0l])
        (λx hx=>kj1 x (λhm=>by
          have:=d2 _ hm
          rcases hx with hx|hx
          exact this.1 hx
          exact this.2 hx)) (λx hx=>kj2 x (λhm=>(d2 _ hm).1 hx)) hy, ?_⟩
      exact k0Y ei.wr ej.wr H (λx hx hx2=>(d1 _ (hwi x hx)).2 (hwj x hx2))
      have hw:ei.wr=[]:=by
        unfold ldk at hld
        split at hld
        simp only[aa]at hld;exact v0D hld.1
        cases hld
      rw[hw]at hdj⊢
      exact⟨j0p (ρ:=j0e ρ oi.dst ei.v) (H:=a0I H []) (λx hx=>h0X λt ht=>d0G (a1 t ht) hx) (g0L a1) rfl (λx hx=>rfl) (λx hx=> .inl rfl) hdj,
        x0T (λx hx=>(h0X λt ht=>d0G (a3 t ht) hx).symm) (g0L a3).symm hq hld hy,rfl⟩
    obtain⟨hdj',hyi',hcm⟩:=key
    refine⟨oj,ej,hoj,hej,hdj', ?_⟩
    refine ih (listed.setIfInBounds j true) _ _ (λk ok ek hk hek hki hun hno=> ?_) (ready_mono hr (Ne.symm hji)) (by rw[z0A (i:=0) a3];exact hq) hyi' ?_
    refine hfree k ok ek hk hek hki ?_ hno
    by_cases hjk:j=k
    subst hjk;exact hjun
    rw[getD_set_ne true hjk]at hun;exact hun
    rw[Array.setIfInBounds_comm _ _ hji,<-s0T (ρ:=ρ) (u:=ei.v) (v:=ej.v) a2,<-hcm]
    exact hrest
theorem m0E {o:Oper} {rd fw:List Nat} {ef:Eff} : ∀(tr:List XT) (j:Nat),h0a P o rd fw ef tr j=true-> ∀(k:Nat) (x:XT),tr[k]?=some x->
    (∃e∈o.after,Region.binds .any e=true/\e.on=j+k)\/(m0P x.1.1 x.1.2 rd fw=true\/ldk P x.2.1 x.2.2.1 x.2.2.2 ef=true)
  | [],j,_,k,x,hk=>by simp at hk
  |x1::r,j,h,k,x,hk=>by
    simp only[h0a,aa,bB]at h
    cases k with
    |zero=>
      simp at hk
      subst hk
      rcases h.1 with h1|h1
      obtain⟨e,he,hb⟩:=Array.any_eq_true'.1 h1
      simp only[aa,beq_iff_eq]at hb
      exact .inl ⟨e,he,hb.1,hb.2⟩
      exact .inr h1
    |succ k=>
      have:=m0E r (j+1) h.2 k x (by simpa using hk)
      rw[show j+1+k=j+(k+1)from by omega]at this
      exact this
theorem p0T {K:Env->a0f->Prop} : ∀(l:List Oper) (tr:List XT) (listed:Array Bool) (ρ:Env) (H:a0f),(∀j,l[j]?=ops[tr.length+j]?)->(∀(j:Nat) (x:XT),tr[j]?=some x->ops[j]?=some x.2.1/\x.1=(f0D x.2.1 x.2.2.1,e0D ops base j x.2.1 x.2.2.1))->
    (∀k,k<tr.length->listed.getD k true=true)->Region.lexFrom .any ops l.length tr.length listed=true->u0H P ops base tr l K ρ H->
    ∃es:List (Eff×Option (Nat×Nat)),es.length=l.length/\z0d P .any ops base ((tr.map λx=>x.2.2.1)++es.map Prod.fst) K l.length listed ρ H/\
      ∀(i j:Nat) (oi oj:Oper) (ei:Eff×Option (Nat×Nat)) (ej:Eff),i<j->tr.length<=j->ops[i]?=some oi->ops[j]?=some oj->((tr.map λx=>x.2.2)++es)[i]?=some ei->((tr.map λx=>x.2.2.1)++es.map Prod.fst)[j]?=some ej->
        (∀e∈oj.after,Region.binds .any e=true->e.on≠i)->m0P (f0D oi ei.1) (e0D ops base i oi ei.1) (f0D oj ej) (e0D ops base j oj ej)=true\/ldk P oi ei.1 ei.2 ej=true
  | [],tr,listed,ρ,H,hl,htr,hli,hB,h=>by
    refine⟨[],rfl,⟨by simpa [Region.lexFrom]using hB,h⟩,λi j oi oj ei ej hij hj hoi hoj hei hej=> ?_⟩
    rw[aF,bF,al,aw hj]at hej
    cases hej
  |o::l,tr,listed,ρ,H,hl,htr,hli,hB,h=>by
    have h0:ops[tr.length]?=some o:=by simpa using (hl 0).symm
    simp only[aS,Region.lexFrom,aa]at hB
    obtain⟨⟨hr,hf⟩,hB'⟩:=hB
    simp only[u0H]at h
    obtain⟨ef,hy,hcomp,hK⟩:=h
    have hrd:tr.length∈Region.ready .any ops listed:=by simpa using hr
    have hlt:tr.length<listed.size:=by
      have:=(mem_ready.1 hrd).1
      rcases br tr.length listed.size with h'|h'
      exact h'
      simp[bN h']at this
    obtain⟨es,hes,hany,hpairs⟩:=p0T l (tr++ [((f0D o ef,e0D ops base tr.length o ef),o,ef,g0A ρ o)]) (listed.setIfInBounds tr.length true) _ _ (λj=>by
        have:=hl (j+1)
        simpa [Nat.add_assoc,Nat.add_comm 1 j]using this) (λj x hj=>by
        rw[aD]at hj
        split at hj
        exact htr j x hj
        rename_i hjl
        have hz:j-tr.length=0:=by
          have:=(ab.1 hj).1
          simp at this;omega
        rw[hz]at hj
        simp at hj
        subst hj
        have:j=tr.length:=by omega
        rw[this];exact⟨h0,rfl⟩) (λk hk=>by
        simp only[ay,aS,bM]at hk
        by_cases hkt:k=tr.length
        subst hkt;simp[Array.getD,hlt]
        rw[getD_set_ne true (Ne.symm hkt)];exact hli k (by omega)) (by simpa using hB') hK
    have hfull:((tr++ [((f0D o ef,e0D ops base tr.length o ef),o,ef,g0A ρ o)]).map λx=>x.2.2.1)++es.map Prod.fst=(tr.map λx=>x.2.2.1)++((ef,g0A ρ o)::es).map Prod.fst:=by simp
    have hfull2:((tr++ [((f0D o ef,e0D ops base tr.length o ef),o,ef,g0A ρ o)]).map λx=>x.2.2)++es=(tr.map λx=>x.2.2)++((ef,g0A ρ o)::es):=by simp
    rw[hfull]at hany
    rw[hfull,hfull2]at hpairs
    have heft:((tr.map λx=>x.2.2.1)++((ef,g0A ρ o)::es).map Prod.fst)[tr.length]?=some ef:=by
      rw[bv (by simp)];simp
    have heft2:((tr.map λx=>x.2.2)++((ef,g0A ρ o)::es))[tr.length]?=some (ef,g0A ρ o):=by
      rw[bv (by simp)];simp
    have hall: ∀(i j:Nat) (oi oj:Oper) (ei:Eff×Option (Nat×Nat)) (ej:Eff),i<j->tr.length<=j->ops[i]?=some oi->ops[j]?=some oj->((tr.map λx=>x.2.2)++((ef,g0A ρ o)::es))[i]?=some ei->((tr.map λx=>x.2.2.1)++((ef,g0A ρ o)::es).map Prod.fst)[j]?=some ej->
        (∀e∈oj.after,Region.binds .any e=true->e.on≠i)->m0P (f0D oi ei.1) (e0D ops base i oi ei.1) (f0D oj ej) (e0D ops base j oj ej)=true\/ldk P oi ei.1 ei.2 ej=true:=by
      intro i j oi oj ei ej hij hj hoi hoj hei hej hno
      by_cases hjt:j=tr.length
      subst hjt
      rw[h0]at hoj;cases hoj
      rw[heft]at hej;cases hej
      obtain⟨x,hp⟩: ∃p,tr[i]?=some p:=⟨tr[i],ac hij⟩
      obtain⟨h1,h2⟩:=htr i x hp
      rw[hoi]at h1
      obtain rfl:=au h1
      rw[bz (by simpa using hij),al,hp]at hei
      obtain rfl:=au hei
      rcases m0E _ 0 hcomp i _ hp with⟨e,he,hb,hon⟩|hd
      exact absurd (by omega:e.on=i) (hno e he hb)
      rw[h2]at hd;exact hd
      exact hpairs i j oi oj ei ej hij (by simp;omega) hoi hoj hei hej hno
    refine⟨(ef,g0A ρ o)::es,by simp[hes], ?_,hall⟩
    rw[aS]
    refine u0q (q:=g0A ρ o) h0 heft l.length listed ρ H (λj oj ej hoj hej hji hun hno=>⟨Region.free_spec h0 hf j oj hoj hji hun hno, ?_⟩) hrd rfl hy hany
    have hjgt:tr.length<j:=by
      rcases br tr.length j with h'|h'
      exact h'
      have:j<tr.length:=by omega
      rw[hli j this]at hun;cases hun
    exact hall tr.length j o oj (ef,g0A ρ o) ej hjgt (by omega) h0 hoj heft2 hej hno
end
end
section
variable [Inhabited GT]
structure Wd (Fc:Fence):Prop where
  fn: ∀f,Fc.fn f
  depth:Fc.depth=none
  calls: ∀ {n:Nat} {P:Program} {f:FuncId} {args:Array Value} {w:World} {R:Ending->World->Prop},Calls P f args w R->CallsIn Fc n P f args w R
  rows: ∀ {n:Nat} {P:Program} {row:String} {args:Array Value} {w:World} {R:Value->World->Prop},Rows P row args w R->RowsIn Fc n P row args w R
theorem q0i {n:Nat} {P:Program} {row:String} {args:Array Value} {w:World} {R:Value->World->Prop} (h:Rows P row args w R):RowsIn Fence.wide n P row args w R:=
  λc cs _=>let⟨v,w',r,s⟩:=h c cs;⟨v,w',r,stepsIn_wide.2 s⟩
theorem u0D:Wd Fence.wide:=⟨λ_=>trivial,rfl,λh=>callsIn_wide.2 h,q0i⟩
theorem s0F(l:Nat):Wd (Fence.wide.inRound l):=⟨λ_=>trivial,rfl,λh=>CallsIn.inRound l (callsIn_wide.2 h),λh=>q0i h⟩
section
variable {Fc : Fence} {n : Nat} {P : Program} {ops ops' : Array Oper} {a : Act} {w : World} {Q : f0C} {o : Oper}
def z0E(R:Act->World->Prop):f0C:=λe a w=>match e with
  | .normal=>R a w
  |_=>False
theorem n0f(hW:Wd Fc)(hnd: ∀c,o.op≠ .defer c) {next next' R:Act->World->Prop} (hn: ∀a w,next a w->next' a w)(h:o.wp P a w next (z0E R)):o.wpIn Fc n P a w next' Q:=by
  refine⟨λf _=>hW.fn f, ?_⟩
  rw[Oper.semAt_eq _ _ _ hnd]
  unfold Oper.wp at h
  have hdep:Fc.depth.isSome=true->1<=n:=λhd=>by rw[hW.depth]at hd;cases hd
  generalize(execOp a.eval o).run P w=r at h⊢
  cases r with
  |ok x w'=>
    cases x with
    |value v=>exact hn _ _ h
    |skip=>exact hn _ _ h
    |defer d=>exact hn _ _ h
    |enter f args=>
      refine⟨hdep,(hW.calls (Calls.mono h ?_))⟩
      rintro e w'' he
      cases e with
      |returned v=>exact hn _ _ he
      |panicked c=>exact he.elim
      |outgrown=>obtain⟨a,w,he⟩:=he;exact he.elim
    |row row args=>exact⟨hdep,hW.rows (Rows.mono h λv w'' hv=>hn _ _ hv)⟩
    |_=>exact h.elim
  |halt c w'=>
    cases c with
    |panic v=>exact h.elim
    |_=>exact h.elim
def q0x(q:Nat)(o:Oper):Bool:=(match o.op with| .defer _=>false|_=>true)&&(match o.guard with|some (j,_)=>Nat.blt j q|none=>true)
theorem x0N {q:Nat} (h:q0x q o=true):(∀c,o.op≠ .defer c)/\ ∀j b,o.guard=some (j,b)->j<q:=by
  unfold q0x at h
  simp only[aa]at h
  refine⟨λc hc=> ?_,λj b hg=> ?_⟩
  rw[hc]at h;exact absurd h.1 (by simp)
  rw[hg]at h;exact bn (af (by simpa [Nat.blt]using h.2))
variable {F : Fr} {p : Nat} {L : LE} {H : a0f}
/-! Code within a fence. -/
/-! Worlds. -/
theorem w0E {w w':World} {b j:Nat} (h:w'.heap[b]?=w.heap[b]?):w'.cell? ⟨b,j,none⟩=w.cell? ⟨b,j,none⟩:=by unfold World.cell?;simp only[h]
def D1(bx:Nat):DM:=λi=>if i=0 then some (.at bx 0 0)else none
end
theorem v0c {N:Nat} {w:World} {K:Nat->Nat} {D:DM} {H:a0f} {vals:List Value} {args:List SV} (hl:vals.length=args.length)(hrep: ∀(j:Nat) (x:Value) (c:SV),vals[j]?=some x->args[j]?=some c->Rep w K D x c)
    (hi:HInv w K D H) (hG:i0E w K D) (hn:args.length<=N):Sees ⟨N,w,K,D,H,[]⟩ (f0b 0 args) H { tmps:=vals.toArray++Array.replicate (N-vals.toArray.size) undef,defers:=[] } w:=by
  have hslots:Slots N w K D (a0v (f0b 0 args)) (vals.toArray++Array.replicate (N-vals.toArray.size) undef):=by
    refine⟨by simp;omega,λi hin=> ?_,hG⟩
    show Rep w K D _ (lk (f0b 0 args) i)
    rw[k0b,if_pos (bg _),bC]
    by_cases hia:i<args.length
    have hiv:i<vals.length:=by omega
    rw[ac hia,ba]
    have hg:(vals.toArray++Array.replicate (N-vals.toArray.size) undef).getD i undef=vals[i]:=by
      rw[aT,bu (by simpa using hiv)]
      simp[hiv]
    rw[hg]
    exact hrep i _ _ (ac hiv) (ac hia)
    rw[aw (by omega)]
    exact .undef _
  exact⟨rfl,K,D,⟨hslots,hi,Grow.refl _ _ _ _⟩⟩
def A0z(F:Fr)(v:SV)(H':a0f):Ending->World->Prop:=λe w'=> ∃r,e= .returned r/\Good F.w0 F.K0 F.D0 F.H0 r w' v H'
def D2(x y:Option Loc):DM:=λi=>if i=0 then x else if i=1 then y else none
section
variable {n : Nat} {P : Program} {ops : Array Oper} {Q : f0C} {F F' : Fr} {p : Nat} {L : LE} {H : a0f}
theorem PJ.nextF {c:Code} (hn:F'.n=F.n)(h:J F' P c L H Q):PJ F' (i0X F P c Q) .normal L H:=λa w hs hin=>h (by rw[hn];exact hin) a w hs
end
end
noncomputable def B0M {α:Type} (p:α->Bool)(l:List α):Bool:=List.rec (motive:=λ_=>Bool) true (λa _ ih=>Bool.rec (motive:=λ_=>Bool) false ih (p a)) l
theorem s0C {α:Type} (p:α->Bool): ∀l:List α,B0M p l=l.all p
  | []=>rfl
  |a::l=>by
    show(Bool.rec (motive:=λ_=>Bool) false (B0M p l) (p a):Bool)=_
    rw[aE,s0C p l]
    cases p a<;>rfl
def B0V(n:Nat):Operand->Bool
  | .tmp t=>Nat.blt t n
  |_=>true
theorem w0h(n:Nat)(x:Operand):B0V n x=Operand.inB n x:=by
  cases x<;>first|rfl|skip
  rename_i t
  show Nat.blt t n=decide (t<n)
  rw[Bool.eq_iff_iff]
  simp[Nat.blt,Nat.ble_eq,Nat.lt_iff_add_one_le]
def A0Z:Option Operand->List Operand
  |some x=> [x]
  |none=> []
def callL(c:Call):List Operand:=match c.callee with
  | .value f=>f::c.args.toList
  | .invoke r _=>r::c.args.toList
  | .builtin _=>c.args.toList
def opL:Op->Option (List Operand)
  | .alloc _| .ready _| .waits _=>some []
  | .move x| .assign x| .box _ x| .load _ x| .nilCheck x| .unOp _ _ x| .convert _ _ x| .sliceToArrayPointer _ x| .makeInterface _ x
  | .makeChan _ x| .fieldAddr _ x _| .field _ x _| .range _ x| .next x _| .entry x| .typeAssert x _ _ _| .extract x _| .panic x| .recv _ x _=>some [x]
  | .pick c a b=>some [c,a,b]
  | .build _ ps| .buildSlice _ _ ps=>some (ps.toList.map (·.2))
  | .store _ a v| .binOp _ _ a v _| .makeSlice _ a v| .indexAddr _ a v| .index _ a v| .lookup _ a v _| .mapEntry _ a v| .send a v=>some [a,v]
  | .makeFunc _ first captured=>some (first.toList++captured.toList)
  | .makeMap _ r=>some (A0Z r)
  | .slice _ x l h m=>some (x::(A0Z l++(A0Z h++A0Z m)))
  | .mapUpdate _ m k v| .entryStore _ m k v| .insert _ m k v=>some [m,k,v]
  | .call c| .go c| .defer c=>some (callL c)
  | .select _ _=>none
theorem z0D(x:Option Operand):A0Z x=x.toArray.toList:=by cases x<;>rfl
theorem y0k(c:Call):callL c=c.operands.toList:=by
  unfold callL Call.operands
  cases c.callee<;>simp
theorem B0b {o:Op} {l:List Operand} (h:opL o=some l):o.operands.toList=l:=by
  cases o<;>simp only[opL,ag]at h<;>first
    |(subst h;simp[Op.operands,z0D,y0k];done)
    |(subst h;simp[Op.operands];done)
    |cases h
noncomputable def x0K(n:Nat)(o:Op):Bool:=match opL o with
  |some l=>B0M (B0V n) l
  |none=>Op.inB n o
theorem x0J {n:Nat} {o:Op} (h:x0K n o=true):Op.inB n o=true:=by
  unfold x0K at h
  split at h
  rename_i l hl
  unfold Op.inB
  rw[<-Array.all_toList,B0b hl,<-h,s0C]
  congr 1
  funext x
  exact(w0h n x).symm
  exact h
noncomputable def p0e(n:Nat)(ops:Array Oper)(q:Nat)(o:Oper):Bool:=Bool.rec (motive:=λ_=>Bool) false (q0x q o&&(match o.guard with
    |none=>true
    |some (j,_)=>match(ops[j]?).bind (·.dst)with
      |some d=>Nat.blt d n
      |none=>true)) (x0K n o.op)
theorem o0s {n q:Nat} {ops:Array Oper} {o:Oper} (h:p0e n ops q o=true):Oper.inB n ops o=true/\q0x q o=true:=by
  unfold p0e at h
  cases ho:x0K n o.op with
  |false=>rw[ho]at h;cases h
  |true=>
    rw[ho]at h
    have h:(q0x q o&&(match o.guard with
      |none=>true
      |some (j,_)=>match(ops[j]?).bind (·.dst)with
        |some d=>Nat.blt d n
        |none=>true))=true:=h
    rw[aa]at h
    refine⟨?_,h.1⟩
    unfold Oper.inB
    rw[aa]
    refine⟨x0J ho, ?_⟩
    have h2:=h.2
    cases hg:o.guard with
    |none=>rfl
    |some p=>
      obtain⟨j,b⟩:=p
      rw[hg]at h2
      simp only at h2⊢
      cases hd:(ops[j]?).bind (·.dst)with
      |none=>rfl
      |some d=>
        rw[hd]at h2
        simp only at h2⊢
        exact decide_eq_true (bn (af (by simpa [Nat.blt]using h2)))
def e0A:Code->Bool
  | .region _ ops _=>ops.toList.all (q0x ops.size)
  | .seq a b=>e0A a&&e0A b
  | .cond _ x y=>e0A x&&e0A y
  | .block _ c=>e0A c
  | .loop c=>e0A c
  |_=>true
noncomputable def u0x(n:Nat)(c:Code):Bool:=Code.rec (motive:=λ_=>Bool) true
  (λ_ ops _=>B0M (p0e n ops ops.size) ops.toList)
  (λ_ _ a b=>Bool.rec (motive:=λ_=>Bool) false b a)
  (λc _ _ a b=>Bool.rec (motive:=λ_=>Bool) false (Bool.rec (motive:=λ_=>Bool) false b a) (B0V n c))
  (λ_ _ a=>a) (λ_ a=>a) (λ_ _ _ _ _ _=>true) (λ_=>true) (λ_ _=>false) (λ_=>true) (λ_=>true) true (λ_=>true) c
theorem C0d {a b:Bool} (h:(Bool.rec (motive:=λ_=>Bool) false b a:Bool)=true):a=true/\b=true:=by
  cases a with
  |true=>exact⟨rfl,h⟩
  |false=>cases h
theorem s0v {n:Nat} (c:Code):u0x n c=true->b0E n c=true/\e0A c=true:=by
  induction c with
  |region id ops dr=>
    intro h
    have h:B0M (p0e n ops ops.size) ops.toList=true:=h
    rw[s0C,List.all_eq_true]at h
    exact⟨List.all_eq_true.2 λo ho=>(o0s (h o ho)).1,List.all_eq_true.2 λo ho=>(o0s (h o ho)).2⟩
  |seq a b iha ihb=>
    intro h
    obtain⟨h1,h2⟩:=C0d (a:=u0x n a) (b:=u0x n b) h
    simp only[b0E,e0A,aa]
    exact⟨⟨(iha h1).1,(ihb h2).1⟩,(iha h1).2,(ihb h2).2⟩
  |cond c x y ihx ihy=>
    intro h
    obtain⟨h0,h⟩:=C0d (a:=B0V n c) h
    obtain⟨h1,h2⟩:=C0d (a:=u0x n x) (b:=u0x n y) h
    rw[w0h]at h0
    simp only[b0E,e0A,aa]
    exact⟨⟨⟨h0,(ihx h1).1⟩,(ihy h2).1⟩,(ihx h1).2,(ihy h2).2⟩
  |block id c ih=>intro h;exact ih h
  |loop c ih=>intro h;exact ih h
  |scope c ih=>intro h;cases h
  |_=>intro _;exact⟨rfl,rfl⟩
noncomputable def C0s(as bd:Code)(m:Nat):Bool:=Nat.rec (motive:=λ_=>Bool) (u0x 0 as&&u0x 0 bd) (λk _=>u0x (k+1) as&&u0x (k+1) bd) m
theorem A0v {as bd:Code} {m:Nat} (h:C0s as bd m=true):(b0E m as=true/\e0A as=true)/\b0E m bd=true/\e0A bd=true:=by
  have:(u0x m as&&u0x m bd)=true:=by cases m<;>exact h
  rw[aa]at this
  exact⟨s0v _ this.1,s0v _ this.2⟩
section
variable [Inhabited GT]
/-! Slots. -/
inductive TE where
  |e
  |n (v:SV) (l r:TE)
noncomputable def TE.get(t:TE):Nat->SV:=
  TE.rec (motive:=λ_=>Nat->SV) (λ_=> .undef) (λv _ _ gl gr i=>Nat.rec (motive:=λ_=>SV) v (λj _=>Bool.rec (motive:=λ_=>SV) (gr (Nat.div j 2)) (gl (Nat.div j 2)) (Nat.beq (Nat.mod j 2) 0)) i) t
noncomputable def TE.path(s:SV)(f:Nat):Nat->TE:=
  Nat.rec (motive:=λ_=>Nat->TE) (λ_=> .n s .e .e) (λ_ ih i=>Nat.rec (motive:=λ_=>TE) (.n s .e .e) (λj _=>Bool.rec (motive:=λ_=>TE) (.n .undef .e (ih (Nat.div j 2))) (.n .undef (ih (Nat.div j 2)) .e) (Nat.beq (Nat.mod j 2) 0)) i) f
noncomputable def TE.set(s:SV)(t:TE):Nat->TE:=
  TE.rec (motive:=λ_=>Nat->TE) (λi=>TE.path s i i) (λv l r sl sr i=>Nat.rec (motive:=λ_=>TE) (.n s l r) (λj _=>Bool.rec (motive:=λ_=>TE) (.n v l (sr (Nat.div j 2))) (.n v (sl (Nat.div j 2)) r) (Nat.beq (Nat.mod j 2) 0)) i) t
noncomputable def TE.put(t:TE)(d:Option Nat)(v:SV):TE:=Option.rec (motive:=λ_=>TE) t (λd=>t.set v d) d
noncomputable def TE.init(i:Nat)(args:List SV)(t:TE):TE:=List.rec (motive:=λ_=>Nat->TE->TE) (λ_ t=>t) (λv _ ih i t=>ih (Nat.succ i) (t.set v i)) args i t
noncomputable def TE.pars(ps:List Nat)(args:List SV)(t:TE):TE:=List.rec (motive:=λ_=>List SV->TE->TE) (λ_ t=>t) (λp _ ih args t=>List.rec (motive:=λ_=>TE) t (λv r _=>ih r (t.set v p)) args) ps args t
/-! Regions. -/
abbrev r0m:=Nat->List SV->a0f->Option (Bool×a0f)
def w0Y(ρ:Env)(o:Oper):Option (Nat×List SV):=match o.op with
  | .call c=>match c.callee with
    | .value f=>match a0F ρ f with
      |some (.yld i)=>(c.args.toList.mapM (a0F ρ)).map λl=>(i,l)
      |_=>none
    |_=>none
  |_=>none
def t0A(P:Program)(cl:CallT)(yl:r0m)(o:Oper)(ρ:Env)(H:a0f):Option (SV×a0f):=
  bif b0T o then match e0B ρ o with
    |some (f,args)=>A0x cl f args H
    |none=>match w0Y ρ o with
      |some (i,args)=>match yl i args H with
        |some (b,H')=>some (.bool b,H')
        |none=>none
      |none=>none
  else match a0E P o ρ H H.length with
    |some ef=>some (ef.v,b0t H ef.wr)
    |none=>none
/-! A list held against nil. -/
def B0R(H:a0f):SV->Option Bool
  | .lst n _ _=>some (!Nat.beq n 0)
  | .nl=>some false
  | .vc i=>match H[i]? with
    |some (.vec n _ _ _)=>some (!Nat.beq n 0)
    |_=>none
  |_=>none
def B0f(P:Program)(ρ:Env)(H:a0f)(o:Oper):Option (Bool×Bool):=match o.op with
  | .binOp op t x y _=>bif h0q P t&&t0e y then(match(a0F ρ x).bind (B0R H),op with
    |some k, .eql=>some (true,k)
    |some k, .neq=>some (false,k)
    |_,_=>none)else none
  |_=>none
def exO(P:Program)(ρ:Env)(H:a0f)(o:Oper):Option (SV×a0f):=match o.op with
  | .call c=>match c.callee,c.args.toList,c.argTypes.toList with
    | .builtin .cap,[x],[t]=>match P.underlying t,a0F ρ x with
      |some (.slice _),some .nl=>some (.int .i64 0,H)
      |_,_=>none
    |_,_,_=>none
  | .slice t x none (some hi) none=>match P.underlying t,a0F ρ x,a0F ρ hi with
    |some (.slice e),some .nl,some (.int _ 0)=>if 0<P.cellsOf e then some (.nl,H)else none
    |some (.slice e),some (.vc i),some (.int _ j)=>match H[i]? with
      |some (.vec n k e' cs)=>if k=P.cellsOf e/\0<n/\0<=j/\j<=n then some (.vc H.length,g0m (g0p H (some i)) H.length (.vec j.toNat k e' (cs.take (j.toNat*k))))else none
      |_=>none
    |_,_,_=>none
  |_=>none
/-! Lists that may be written, settled. -/
noncomputable def TE.fz(i:Nat)(s0:SV)(t:TE):TE:=TE.rec (motive:=λ_=>TE) .e (λv _ _ l r=> .n (SV.fz i s0 v) l r) t
noncomputable def y0N:List Nat->TE->a0f->TE×a0f
  | [],t,H=>(t,H)
  |i::r,t,H=>match H[i]? with
    |some (.vec n k _ cs)=>y0N r (t.fz i (.lst n k cs)) (fzH i (.lst n k cs) H)
    |_=>y0N r t H
def y0C(ρ:Env)(o:Oper):List Nat:=o.op.operands.toList.flatMap λx=>match a0F ρ x with
  |some s=>SV.rl s
  |none=> []
def eqR(x y:Option (SV×a0f)):Option (SV×a0f):=match x,y with
  |some (a,H),some (b,H')=>bif SV.eqb a b&&f0n H H' then some (a,H)else match a,b with
    | .nl, .vc i=>match H'[H.length]? with
      |some (.vec 0 k e [])=>bif Nat.beq i H.length&&f0n (H++ [.vec 0 k e []]) H' then some (b,H')else none
      |_=>none
    |_,_=>none
  |_,_=>none
section
variable {α : Type}
noncomputable def evN(eqA:Option α->Option α->Option α)(P:Program)(cl:CallT)(yl:r0m)(ops:Array Oper)(l:List Oper):TE->a0f->(TE->a0f->Option α)->Option α:=
  List.rec (motive:=λ_=>TE->a0f->(TE->a0f->Option α)->Option α) (λt H k=>k t H)
    (λo _ ih t H k=>match b0i ops t.get o with
      |some true=>match t0A P cl yl o t.get H with
        |some (v,H')=>ih (t.put o.dst v) H' k
        |none=>match B0f P t.get H o with
          |some (eq,kn)=>bif kn then ih (t.put o.dst (.bool (bif eq then false else true))) H k
            else eqA (ih (t.put o.dst (.bool (bif eq then true else false))) H k) (ih (t.put o.dst (.bool (bif eq then false else true))) H k)
          |none=>match exO P t.get H o with
            |some (v,H')=>ih (t.put o.dst v) H' k
            |none=>match y0C t.get o with
              | []=>none
              |i::is=>(λz:TE×a0f=>match b0i ops z.1.get o with
                |some true=>match t0A P cl yl o z.1.get z.2 with
                  |some (v,H')=>ih (z.1.put o.dst v) H' k
                  |none=>none
                |_=>none) (y0N (i::is) t H)
      |some false=>ih (t.put o.dst (.tup [])) H k
      |none=>none) l
def z0l(P:Program)(cl:CallT)(ops:Array Oper)(base p:Nat)(tr:List XT)(o:Oper)(ρ:Env)(H:a0f):Option Eff:=
  bif b0T o then match e0B ρ o with
    |some (f,args)=>match w0G cl f args H (e0c ops base p)with
      |some ef=>bif h0a P o (f0D o ef) (e0D ops base p o ef) ef tr 0&&C0C ef H then some ef else none
      |none=>none
    |none=>none
  else match a0E P o ρ H (e0c ops base p)with
    |some ef=>bif h0a P o (f0D o ef) (e0D ops base p o ef) ef tr 0&&((!c0U o||l0y (H[e0c ops base p]?))&&ef.wr.all (λx=>Nat.blt x.1 H.length))then some ef else none
    |none=>none
noncomputable def evD(P:Program)(cl:CallT)(ops:Array Oper)(base:Nat)(l:List Oper):Nat->List XT->TE->a0f->(TE->a0f->Option α)->Option α:=
  List.rec (motive:=λ_=>Nat->List XT->TE->a0f->(TE->a0f->Option α)->Option α) (λ_ _ t H k=>k t H)
    (λo _ ih p tr t H k=>match b0i ops t.get o with
      |some true=>match z0l P cl ops base p tr o t.get H with
        |some ef=>ih (p+1) (tr++ [((f0D o ef,e0D ops base p o ef),o,ef,g0A t.get o)]) (t.put o.dst ef.v) (a0I H ef.wr) k
        |none=>none
      |some false=>bif h0a P o (f0D o ⟨.tup [],[],[]⟩) (e0D ops base p o ⟨.tup [],[],[]⟩) ⟨.tup [],[],[]⟩ tr 0 then ih (p+1) (tr++ [((f0D o ⟨.tup [],[],[]⟩,e0D ops base p o ⟨.tup [],[],[]⟩),o,⟨.tup [],[],[]⟩,g0A t.get o)]) (t.put o.dst (.tup [])) H k else none
      |none=>none) l
/-! What a call hands back, settled, where the order is open. -/
def z0W:List Nat->SV->a0f->SV×a0f
  | [],v,H=>(v,H)
  |i::r,v,H=>match H[i]? with
    |some (.vec n k _ cs)=>z0W r (SV.fz i (.lst n k cs) v) (fzH i (.lst n k cs) H)
    |_=>z0W r v H
def B0Z(cl:CallT):CallT:=λf args H=>match cl f args H with
  |some (v,H')=>bif Nat.ble H'.length (H.length+1)then some (v,H')else
    (λz:SV×a0f=>bif SV.refs H.length z.1&&(z.2.take H.length).all (Ent.refs H.length)&&Nat.ble H.length z.2.length then some (z.1,z.2.take H.length)else none) (z0W (List.range' H.length (H'.length-H.length)) v H')
  |none=>none
/-! Code. -/
def o0y:LoopState->Bool
  | .busy=>true
  |_=>false
def p0s:LoopState->Bool
  | .ready=>true
  |_=>false
abbrev KT(α:Type):=TE->a0f->List Nat->Option α
def evJ(i:Nat)(t:TE)(H:a0f)(ms:List Nat)(kn kr:KT α)(kx:Nat->KT α):Option α:=match H[i]? with
  |some (.lop _ _ _ _ st pd)=>bif o0y st then none else match pd with
    |none=>kn t (H.set i .gone) ms
    |some .ret=>kr t (H.set i .gone) ms
    |some (.exit k)=>kx k t (H.set i .gone) ms
    |some _=>none
  |_=>none
noncomputable def evG(it:CallT)(N:Nat)(rd:Option Nat)(g:Operand)(ps:Array Nat)(as bd:Code)(t:TE)(H:a0f)(ms:List Nat)(kn kr:KT α)(kx:Nat->KT α):Option α:=bif Operand.inB N g then match a0F t.get g with
  |some (.fn (.func gf) [] caps)=>match rd with
    |none=>match it gf (.yld (H.length+1)::caps) (H++ [.dfr]++ [.lop ((List.range N).map t.get) ps.toList as bd .ready none])with
      |some (_,H2)=>evJ (H.length+1) t H2 (H.length::ms) kn kr kx
      |none=>none
    |some i=>match H[i]? with
      |some (.lop _ _ _ _ _ _)=>match it gf (.yld H.length::caps) (H++ [.lop ((List.range N).map t.get) ps.toList as bd .ready none])with
        |some (_,H2)=>evJ H.length t H2 ms kn kr kx
        |none=>none
      |_=>none
  |_=>none else none
noncomputable def ewC(eqA:Option α->Option α->Option α)(P:Program)(cl it:CallT)(yl:r0m)(B N:Nat)(rd:Option Nat)(c:Code):TE->a0f->List Nat->KT α->KT α->(Nat->KT α)->Option α:=
  Code.rec (motive:=λ_=>TE->a0f->List Nat->KT α->KT α->(Nat->KT α)->Option α)
    (λt H ms kn _ _=>kn t H ms)
    (λ_ ops dr t H ms kn _ _=>bif dr then
        (bif P.follows .mixedOrders&&Region.lexB .any ops then evD P (B0Z cl) ops H.length ops.toList 0 [] t (H++List.replicate (f0k ops) .res) (λt H=>kn t H ms)else none)
      else evN eqA P cl yl ops ops.toList t H (λt H=>kn t H ms))
    (λ_ _ iha ihb t H ms kn kr kx=>iha t H ms (λt H ms=>ihb t H ms kn kr kx) kr kx)
    (λc _ _ ihx ihy t H ms kn kr kx=>match a0F t.get c with
      |some (.bool b)=>Bool.rec (motive:=λ_=>Option α) (ihy t H ms kn kr kx) (ihx t H ms kn kr kx) b
      |_=>none)
    (λid _ ih t H ms kn kr kx=>ih t H ms kn kr (λi t H ms=>bif Nat.beq i id then kn t H ms else kx i t H ms))
    (λ_ ih t H ms _ kr kx=>Nat.rec (motive:=λ_=>KT α) (λ_ _ _=>none) (λ_ go t H ms=>ih t H ms go kr kx) B t H ms)
    (λg ps as bd _ _ t H ms kn kr kx=>evG it N rd g ps as bd t H ms kn kr kx)
    (λi t H ms _ _ kx=>kx i t H ms)
    (λ_ _ _ _ _ _ _ _=>none)
    (λ_ _ _ _ _ _ _=>none)
    (λ_ _ _ _ _ _ _=>none)
    (λt H ms _ kr _=>kr t H ms)
    (λ_ _ _ _ _ _ _=>none) c
end
/-! Functions, rounds. -/
noncomputable def C0f(P:Program)(f:FuncId)(fn:Func)(c:Code):Bool:=b0P P f&&u0x fn.ntmps c&&i0G fn.ntmps fn.results.toList
def w0C:List Nat->a0f->Option a0f
  | [],H=>some H
  |i::r,H=>match H[i]? with
    |some .dfr=>w0C r (H.set i .gone)
    |_=>none
noncomputable def s0n(P:Program)(fn:Func)(H:a0f)(t:TE)(H1:a0f)(ms:List Nat):Option (SV×a0f):=match w0C ms H1 with
  |some H2=>match r0r P fn.results.toList ((d0F fn.results.toList).map λi=>(i,t.get i)) H2 with
    |some v1=>s0m H v1 H2
    |none=>none
  |none=>none
noncomputable def C0o(P:Program)(kn cl:CallT)(yl:r0m)(B:Nat):CallT:=λf args H=>match kn f args H with
  |some r=>some r
  |none=>match P.funcs[f]? with
    |none=>none
    |some fn=>match fn.body with
      |none=>none
      |some c=>bif C0f P f fn c&&Nat.ble args.length fn.ntmps then
          ewC eqR P cl cl yl B fn.ntmps none c (TE.init 0 args .e) H [] (s0n P fn H) (s0n P fn H) (λ_ _ _ _=>none)
        else none
def t0P(i:Nat)(j:Option Code)(H:a0f):Option (Bool×a0f):=match H[i]? with
  |some (.lop tm ps as bd _ _)=>some (j.isNone,H.set i (.lop tm ps as bd (bif j.isNone then .ready else .done) j))
  |_=>none
noncomputable def C0n(P:Program)(cl:CallT)(yl:r0m)(B:Nat):r0m:=λi args H=>match H[i]? with
  |some (.lop tm ps as bd st pd)=>bif p0s st&&Nat.beq args.length ps.length&&C0s as bd tm.length then
      ewC (λ_ _=>none) P cl cl yl B tm.length (some i) as (TE.pars ps args (TE.init 0 tm .e)) H []
        (λt1 H1 ms1=>match H1[i]? with
          |some (.lop tm1 ps1 as1 bd1 st1 pd1)=>bif p0s st1 then ewC (λ_ _=>none) P cl cl yl B tm.length (some i) bd t1 (H1.set i (.lop tm1 ps1 as1 bd1 .busy pd1)) ms1
              (λ_ H2 _=>t0P i none H2) (λ_ H2 _=>t0P i (some .ret) H2) (λk _ H2 _=>t0P i (some (.exit k)) H2)else none
          |_=>none) (λ_ _ _=>none) (λ_ _ _ _=>none)
    else none
  |_=>none
def blk(fs:List Nat)(cl:CallT):CallT:=λf args H=>bif q0A f fs&& !((SV.rlL args).isEmpty)then none else cl f args H
noncomputable def evA(P:Program)(kn:CallT)(fz:List Nat)(B n:Nat):CallT×r0m:=
  Nat.rec (motive:=λ_=>CallT×r0m) (λ_ _ _=>none,λ_ _ _=>none) (λ_ ih=>(blk fz (C0o P kn ih.1 ih.2 B),C0n P ih.1 ih.2 B)) n
end
section
variable [Inhabited GT]
/-! Slots. -/
theorem TE.get_s(v:SV)(l r:TE)(j:Nat):(TE.n v l r).get (j+1)=if j%2=0 then l.get (j/2)else r.get (j/2):=by
  show(Bool.rec (motive:=λ_=>SV) (r.get (j/2)) (l.get (j/2)) (Nat.beq (j%2) 0):SV)=_
  cases h:Nat.beq (j%2) 0 with
  |true=>rw[if_pos (ae h)]
  |false=>rw[if_neg (λe=>by rw[e]at h;simp at h)]
theorem TE.path_s(s:SV)(f j:Nat):TE.path s (f+1) (j+1)=if j%2=0 then .n .undef (TE.path s f (j/2)) .e else .n .undef .e (TE.path s f (j/2)):=by
  show(Bool.rec (motive:=λ_=>TE) (TE.n .undef .e (TE.path s f (j/2))) (TE.n .undef (TE.path s f (j/2)) .e) (Nat.beq (j%2) 0):TE)=_
  cases h:Nat.beq (j%2) 0 with
  |true=>rw[if_pos (ae h)]
  |false=>rw[if_neg (λe=>by rw[e]at h;simp at h)]
theorem TE.set_s(s v:SV)(l r:TE)(j:Nat):(TE.n v l r).set s (j+1)=if j%2=0 then .n v (l.set s (j/2)) r else .n v l (r.set s (j/2)):=by
  show(Bool.rec (motive:=λ_=>TE) (TE.n v l (r.set s (j/2))) (TE.n v (l.set s (j/2)) r) (Nat.beq (j%2) 0):TE)=_
  cases h:Nat.beq (j%2) 0 with
  |true=>rw[if_pos (ae h)]
  |false=>rw[if_neg (λe=>by rw[e]at h;simp at h)]
theorem TE.get_path(s:SV): ∀(f i j:Nat),i<=f->(TE.path s f i).get j=if j=i then s else .undef:=by
  intro f
  induction f with
  |zero=>
    intro i j h
    obtain rfl:i=0:=by omega
    cases j with
    |zero=>rfl
    |succ j=>rw[if_neg (by omega)];show(TE.n s .e .e).get (j+1)=_;rw[TE.get_s];split<;>rfl
  |succ f ih=>
    intro i j h
    cases i with
    |zero=>
      cases j with
      |zero=>rfl
      |succ j=>rw[if_neg (by omega)];show(TE.n s .e .e).get (j+1)=_;rw[TE.get_s];split<;>rfl
    |succ i=>
      rw[TE.path_s]
      by_cases hp:i%2=0
      rw[if_pos hp]
      cases j with
      |zero=>rw[if_neg (by omega)];rfl
      |succ j=>
        rw[TE.get_s]
        by_cases hq:j%2=0
        rw[if_pos hq,ih (i/2) (j/2) (by omega)]
        by_cases he:j=i
        subst he;simp
        rw[if_neg (by omega),if_neg (by omega)]
        rw[if_neg hq,if_neg (by omega)];rfl
      rw[if_neg hp]
      cases j with
      |zero=>rw[if_neg (by omega)];rfl
      |succ j=>
        rw[TE.get_s]
        by_cases hq:j%2=0
        rw[if_pos hq,if_neg (by omega)];rfl
        rw[if_neg hq,ih (i/2) (j/2) (by omega)]
        by_cases he:j=i
        subst he;simp
        rw[if_neg (by omega),if_neg (by omega)]
theorem TE.get_set(s:SV): ∀(t:TE) (i j:Nat),(t.set s i).get j=if j=i then s else t.get j:=by
  intro t
  induction t with
  |e=>intro i j;exact TE.get_path s i i j (ai _)
  |n v l r ihl ihr=>
    intro i j
    cases i with
    |zero=>
      cases j with
      |zero=>rfl
      |succ j=>rw[if_neg (by omega)];show(TE.n s l r).get (j+1)=_;rw[TE.get_s,TE.get_s]
    |succ i=>
      rw[TE.set_s]
      by_cases hp:i%2=0
      rw[if_pos hp]
      cases j with
      |zero=>rw[if_neg (by omega)];rfl
      |succ j=>
        rw[TE.get_s,TE.get_s]
        by_cases hq:j%2=0
        rw[if_pos hq,if_pos hq,ihl]
        by_cases he:j=i
        subst he;simp
        rw[if_neg (by omega),if_neg (by omega)]
        rw[if_neg hq,if_neg hq,if_neg (by omega)]
      rw[if_neg hp]
      cases j with
      |zero=>rw[if_neg (by omega)];rfl
      |succ j=>
        rw[TE.get_s,TE.get_s]
        by_cases hq:j%2=0
        rw[if_pos hq,if_pos hq,if_neg (by omega)]
        rw[if_neg hq,if_neg hq,ihr]
        by_cases he:j=i
        subst he;simp
        rw[if_neg (by omega),if_neg (by omega)]
theorem TE.put_env {L:LE} {t:TE} (h:a0v L=t.get)(d:Option Nat)(v:SV):a0v (f0d L d v)=(t.put d v).get:=by
  rw[<-b0e]
  cases d with
  |none=>exact h
  |some d=>
    funext j
    show upd (a0v L) d v j=(t.set v d).get j
    rw[TE.get_set,h]
    rfl
theorem TE.init_get: ∀(args:List SV) (i:Nat) (t:TE) (j:Nat),(TE.init i args t).get j=if i<=j then(args[j-i]?).getD (t.get j)else t.get j
  | [],i,t,j=>by show t.get j=_;simp
  |v::r,i,t,j=>by
    show(TE.init (i+1) r (t.set v i)).get j=_
    rw[TE.init_get r (i+1) (t.set v i) j,TE.get_set]
    by_cases h1:i+1<=j
    rw[if_pos h1,if_neg (by omega),if_pos (by omega),show j-i=(j-(i+1))+1 from by omega]
    simp
    rw[if_neg h1]
    by_cases h2:j=i
    subst h2;simp
    rw[if_neg h2,if_neg (by omega)]
theorem TE.init_env(args:List SV):a0v (f0b 0 args)=(TE.init 0 args .e).get:=by
  funext j
  show lk (f0b 0 args) j=_
  rw[k0b,TE.init_get]
  rfl
/-! Operations within a fence. -/
section
variable {Fc : Fence} {F : Fr} {P : Program} {ops : Array Oper} {L : LE} {H : a0f} {Q : f0C} {o : Oper} {l : List Oper}
def RLi(Fc:Fence)(F:Fr)(P:Program)(ops:Array Oper)(l:List Oper)(L:LE)(H:a0f)(Q:f0C):Prop:= ∀a w,Sees F L H a w->wpListIn Fc 0 P ops Q l a w
theorem RLi.go(hg:b0i ops (a0v L) o=some true)(hb:Oper.inB F.n ops o=true)(h: ∀a w,Sees F L H a w->o.wpIn Fc 0 P a w (λa' w'=>wpListIn Fc 0 P ops Q l a' w') Q):RLi Fc F P ops (o::l) L H Q:=by
  intro a w hs
  refine wpListIn_step λKK hKK=> ?_
  obtain⟨hd,K,D,hi⟩:=hs
  rw[b0H hi.slots (Oper.inB_guard hb) hg,if_pos rfl]
  exact Oper.wpIn_mono hKK (h a w ⟨hd,K,D,hi⟩)
theorem RLi.skip(hW:Wd Fc)(hg:b0i ops (a0v L) o=some false)(hb:Oper.inB F.n ops o=true)(h:RLi Fc F P ops l (f0d L o.dst (.tup [])) H Q):RLi Fc F P ops (o::l) L H Q:=by
  intro a w hs
  refine wpListIn_step λKK hKK=> ?_
  obtain⟨hd,K,D,hi⟩:=hs
  rw[b0H hi.slots (Oper.inB_guard hb) hg,if_neg (by simp)]
  exact⟨λf _=>hW.fn f,hKK _ _ (h _ w ⟨by rw[a0T];exact hd,K,D,by have:=p0a hi o.dst;rw[b0e]at this;exact this⟩)⟩
theorem RLi.step(hW:Wd Fc)(hg:b0i ops (a0v L) o=some true)(hb:Oper.inB F.n ops o=true)(hnd: ∀c,o.op≠ .defer c) {ef:Eff} (he:a0E P o (a0v L) H H.length=some ef)
    (h:RLi Fc F P ops l (f0d L o.dst ef.v) (b0t H ef.wr) Q):RLi Fc F P ops (o::l) L H Q:=
  RLi.go hg hb λa w hs=>by
    obtain⟨hd,K,D,hi⟩:=hs
    exact n0f (R:=λ_ _=>False) hW hnd (λa w hx=>hx) (t0V hi hd (Oper.inB_op hb) (.inl rfl) he λa' w' hst'=>h a' w' (by rw[b0e]at hst';exact hst'))
theorem RLi.call(hW:Wd Fc)(hg:b0i ops (a0v L) o=some true)(hb:Oper.inB F.n ops o=true)(hnd: ∀c,o.op≠ .defer c) {f:FuncId} {args:List SV} {v:SV} {H':a0f} (hc:e0B (a0v L) o=some (f,args))(hs:SC P f args H v H')
    (h:RLi Fc F P ops l (f0d L o.dst v) H' Q):RLi Fc F P ops (o::l) L H Q:=
  RLi.go hg hb λa w hst=>by
    obtain⟨hd,K,D,hi⟩:=hst
    exact n0f (R:=λ_ _=>False) hW hnd (λa w hx=>hx) (k0X hi hd (Oper.inB_op hb) hc hs λa' w' hst'=>h a' w' (by rw[b0e]at hst';exact hst'))
/-! Yields. -/
def YS(P:Program)(i:Nat)(args:List SV)(H:a0f)(b:Bool)(H':a0f):Prop:=
  ∀(Fc:Fence),Wd Fc->(∀l,Fc.inRound l=Fence.wide.inRound l)-> ∀(w:World) (K:Nat->Nat) (D:DM) (vals:List Value),vals.length=args.length->(∀(j:Nat) (v:Value) (c:SV),vals[j]?=some v->args[j]?=some c->Rep w K D v c)->HInv w K D H->i0E w K D->
    ∃l,D i=some (.at l 0 0)/\YieldAt Fc 0 P l vals.toArray w (λe w'=>e= .returned (.bool b)/\ ∃K' D',Grow w K D H w' K' D' H'/\HInv w' K' D' H')
def YOk(P:Program)(yl:r0m):Prop:= ∀i args H b H',yl i args H=some (b,H')->YS P i args H b H'
theorem z0u {w:World} {K:Nat->Nat} {D:DM} {v:Value} {i:Nat} (h:Rep w K D v (.yld i)): ∃l c n,v= .func (.yield l) #[] #[]/\D i=some (.at l c n):=by
  cases h with
  |yld _ l c n hd=>exact⟨l,c,n,rfl,hd⟩
theorem r0u {m:Nat} {a:Act} {w:World} {K:Nat->Nat} {D:DM} {ρ:Env} (h:Slots m w K D ρ a.tmps)(hb:Op.inB m o.op=true) {i:Nat} {args:List SV} (hc:w0Y ρ o=some (i,args)):
    ∃(l c n:Nat) (vals:List Value),D i=some (.at l c n)/\vals.length=args.length/\(∀(j:Nat) (v:Value) (c:SV),vals[j]?=some v->args[j]?=some c->Rep w K D v c)/\(execOp a.eval o).run P w=(Instr.yield l vals.toArray).run P w:=by
  unfold w0Y at hc
  split at hc
  rename_i c ho
  split at hc
  rename_i fo hcal
  split at hc
  rename_i i' hfe
  cases hm:c.args.toList.mapM (a0F ρ)with
  |none=>rw[hm]at hc;cases hc
  |some l'=>
    rw[hm]at hc;cases hc
    unfold Op.inB at hb
    rw[aK]at hb
    obtain⟨l,c',n,hv,hD⟩:=z0u (a0e h (hb fo (by simp[ho,Op.operands,Call.operands,hcal])) hfe)
    have hxs: ∀x∈c.args.toList,Operand.inB m x=true:=λx hx=>hb x (by simp only[ho,Op.operands,Call.operands];exact bw.2 (.inr (aC.1 hx)))
    obtain⟨q1,q2⟩:=w0L h _ _ hxs hm
    refine⟨l,c',n,c.args.toList.map a.eval,hD,q1.symm,q2, ?_⟩
    unfold execOp
    simp only[ho,resolve,hcal,hv,Deferred.ofValue,invoke,Sem.run_bind,Sem.run_pure,Result.andThen_ok]
    simp
    rw[<-Array.toList_map,Array.toArray_toList]
  cases hc
  cases hc
  cases hc
theorem RLi.yield(hW:Wd Fc)(hW2: ∀l,Fc.inRound l=Fence.wide.inRound l)(hg:b0i ops (a0v L) o=some true)(hb:Oper.inB F.n ops o=true)(hnd: ∀c,o.op≠ .defer c) {i:Nat} {args:List SV} {b:Bool} {H':a0f} (hc:w0Y (a0v L) o=some (i,args))(hY:YS P i args H b H')
    (h:RLi Fc F P ops l (f0d L o.dst (.bool b)) H' Q):RLi Fc F P ops (o::l) L H Q:=
  RLi.go hg hb λa w hst=>by
    obtain⟨hd,K,D,hi⟩:=hst
    obtain⟨l1,c,n,vals,hD,q1,q2,hrun⟩:=r0u (P:=P) (w:=w) hi.slots (Oper.inB_op hb) hc
    obtain⟨l2,hD2,fn,tmps,assign,body,hy,hR⟩:=hY Fc hW hW2 w K D vals q1 q2 hi.hinv hi.slots.glob
    rw[hD]at hD2;cases hD2
    refine⟨λf _=>hW.fn f, ?_⟩
    rw[Oper.semAt_eq _ _ _ hnd,hrun,hy,Oper.uponIn_round]
    refine⟨λhx=>(by rw[hW.depth]at hx;cases hx),hR.mono ?_⟩
    rintro e w' ⟨rfl,K',D',g,hi'⟩
    have:=hi.step (r:= .bool b) (s:= .bool b) ⟨K',D',g,hi', .bool b⟩ o.dst
    refine h _ w' ⟨by rw[a0T];exact hd, ?_⟩
    rw[b0e]at this
    exact this
/-! A list held against nil. -/
theorem z0G {w:World} {K:Nat->Nat} {D:DM} {v:Value} {s:SV} {k:Bool} (h:Rep w K D v s)(hi:HInv w K D H)(hk:B0R H s=some k): ∃ad n c,v= .slice ad n c/\(k=true->ad.isNone=false):=by
  cases h with
  |nl a=>cases hk;exact⟨a,0,0,rfl,by simp⟩
  |emp k' a cap=>cases hk;exact⟨a,0,cap,rfl,by simp⟩
  |lst k' b off len cap vs cs=>exact⟨_,_,_,rfl,λ_=>rfl⟩
  |vcn i a hd=>
    refine⟨a,0,0,rfl,λhkt=> ?_⟩
    simp only[B0R]at hk
    split at hk
    rename_i n k' e cs he
    rcases(hi.ent _ _ he).2 with⟨_,h2,_⟩|⟨b,c,vs,rest,h1,_⟩
    subst h2;cases hk;cases hkt
    rw[hd]at h1;cases h1
    cases hk
  |vc i b c n hd=>exact⟨_,_,_,rfl,λ_=>rfl⟩
  |_=>cases hk
theorem x0O {a:Act} {w:World} {K:Nat->Nat} {D:DM} {m:Nat} (hs:Slots m w K D (a0v L) a.tmps)(hi:HInv w K D H)(hb:Op.inB m o.op=true) {eq k:Bool} (h:B0f P (a0v L) H o=some (eq,k)):
    ∃b:Bool,(k=true->b=false)/\(execOp a.eval o).run P w= .ok (.value (.bool (bif eq then b else !b))) w:=by
  unfold B0f at h
  split at h
  · rename_i op t x y u ho
    cases hty:(h0q P t&&t0e y)with
    |false=>rw[hty]at h;cases h
    |true=>
      rw[hty]at h
      simp only[aa]at hty
      obtain⟨ht,hy⟩:=hty
      simp only[cond_true]at h
      unfold Op.inB at hb
      rw[aK]at hb
      have hxb:=hb x (by simp[ho,Op.operands])
      have hyv:a.eval y= .slice none 0 0:=by
        cases y with
        |const v=>cases v<;>first|(cases hy;done)|(rename_i a1 b1 c1;cases a1<;>first|(cases hy;done)|(cases b1<;>first|(cases hy;done)|(cases c1<;>first|(cases hy;done)|rfl)))
        |_=>cases hy
      have hex:execOp a.eval o=(do pure (Next.value (<-(do eqGuard op t x y (a.eval x) (a.eval y);binOp op t (a.eval x) (a.eval y):Sem Value)))):=by unfold execOp;rw[ho]
      cases hx:a0F (a0v L) x with
      |none=>rw[hx]at h;simp at h
      |some s=>
        rw[hx]at h
        simp only[aq]at h
        have hr:=a0e hs hxb hx
        cases hn:B0R H s with
        |none=>rw[hn]at h;simp at h
        |some k'=>
          rw[hn]at h
          obtain⟨ad,n,c,hv,hk⟩:=z0G hr hi hn
          cases op<;>simp only[ag,aB,reduceCtorEq]at h
          obtain⟨rfl,rfl⟩:=h
          exact⟨ad.isNone,hk,by rw[hex,hv,hyv];exact b0d (q0e ht)⟩
          obtain⟨rfl,rfl⟩:=h
          exact⟨ad.isNone,hk,by rw[hex,hv,hyv];exact b0d (o0n ht)⟩
  cases h
theorem RLi.isNil(hW:Wd Fc)(hg:b0i ops (a0v L) o=some true)(hb:Oper.inB F.n ops o=true)(hnd: ∀c,o.op≠ .defer c) {eq k:Bool} (hn:B0f P (a0v L) H o=some (eq,k))
    (h: ∀b:Bool,(k=true->b=false)->RLi Fc F P ops l (f0d L o.dst (.bool (bif eq then b else !b))) H Q):RLi Fc F P ops (o::l) L H Q:=
  RLi.go hg hb λa w hst=>by
    obtain⟨hd,K,D,hi⟩:=hst
    obtain⟨b,hk,hrun⟩:=x0O (P:=P) hi.slots hi.hinv (Oper.inB_op hb) hn
    refine n0f (R:=λ_ _=>False) hW hnd (λa w hx=>hx) ?_
    unfold Oper.wp
    rw[hrun]
    refine h b hk _ w ⟨by rw[a0T];exact hd,K,D, ?_,hi.hinv,hi.grow⟩
    have h9:=hi.slots.put o.dst (s:= .bool (bif eq then b else !b)) (.bool _)
    rw[b0e]at h9
    exact h9
end
theorem RLi.ok {Fc:Fence} {F:Fr} {P:Program} {ops:Array Oper} {L:LE} {H:a0f} {Q:f0C} {o:Oper} {l:List Oper} (hW:Wd Fc)(hg:b0i ops (a0v L) o=some true)(hb:Oper.inB F.n ops o=true)(hnd: ∀c,o.op≠ .defer c) {v:SV} {H':a0f}
    (hop: ∀(a:Act) (w:World) (K:Nat->Nat) (D:DM),Inv F w K D H (a0v L) a.tmps->m0w P w K D H o a v H') (h:RLi Fc F P ops l (f0d L o.dst v) H' Q):RLi Fc F P ops (o::l) L H Q:=
  RLi.go hg hb λa w hst=>by
    obtain⟨hd,K,D,hi⟩:=hst
    obtain⟨r,w',hrun,g⟩:=hop a w K D hi
    refine n0f (R:=λ_ _=>False) hW hnd (λa w hx=>hx) ?_
    have hK: ∀r',r'=r->wpListIn Fc 0 P ops Q l (a.put o.dst r') w':=λr' e=>by
      subst e
      have:=hi.step g o.dst
      rw[b0e]at this
      exact h _ w' ⟨by rw[a0T];exact hd,this⟩
    unfold Oper.wp
    rcases hrun with hrun|⟨hrun,hr⟩
    rw[hrun];exact hK _ rfl
    rw[hrun];exact hK _ hr.symm
theorem B0v {F:Fr} {P:Program} {L:LE} {H:a0f} {o:Oper} {v:SV} {H':a0f} (h:exO P (a0v L) H o=some (v,H')) {a:Act} {w:World} {K:Nat->Nat} {D:DM} (hi:Inv F w K D H (a0v L) a.tmps)(hb:Op.inB F.n o.op=true):m0w P w K D H o a v H':=by
  unfold Op.inB at hb
  rw[aK]at hb
  unfold exO at h
  split at h
  rename_i c ho
  split at h
  rename_i x t hcal hargs htys
  split at h
  rename_i e hu hx
  cases h
  have hr:=a0e hi.slots (hb x (by simp only[ho,Op.operands,Call.operands];exact bw.2 (.inr (aC.1 (by rw[hargs];simp))))) hx
  generalize hv:a.eval x=vx at hr
  cases hr with
  |nl ad=>
    have ha:c.args= #[x]:=by rw[<-hargs]
    have ht:c.argTypes= #[t]:=by rw[<-htys]
    have hrun: ∀r,(Builtin.cap_ #[t] o.type #[a.eval x]).run P w= .ok r w->(execOp a.eval o).run P w= .ok (.value r) w:=λr hr=>by
      unfold execOp
      simp only[ho,resolve,hcal,ha,ht]
      simp[invoke,builtin,Sem.run_bind,hr]
    exact⟨.int .i64 0,w, .inl (hrun _ (by rw[hv];simp[Builtin.cap_,run_underlying hu,goInt])),Good.here hi.hinv (.int _ _)⟩
  cases h
  cases h
  · rename_i t x hi0 ho
    split at h
    · rename_i e kd hu hx hh
      split at h
      · rename_i hk
        cases h
        have hr:=a0e hi.slots (hb x (by simp[ho,Op.operands])) hx
        have hr2:=a0e hi.slots (hb hi0 (by simp[ho,Op.operands])) hh
        generalize hv:a.eval x=vx at hr
        generalize hv2:a.eval hi0=vh at hr2
        cases hr2
        cases hr with
        |nl ad=>
          have hadd:ad.map (λx=>x.add 0)=ad:=by cases ad<;>simp[Addr.add]
          refine⟨.slice ad 0 0,w, .inl ?_,Good.here hi.hinv (.nl _)⟩
          unfold execOp
          simp only[ho]
          simp[Instr.sliceAt,Instr.slice,Instr.sliceBounds,Instr.sliceBound,asIntOf,run_underlying hu,c0g hk,hv,hv2,hadd]
      cases h
    rename_i e i kd j hu hx hh
    split at h
    rename_i n k e' cs hH
    split at h
    rename_i hc
    obtain⟨hk,hn,hj0,hjn⟩:=hc
    cases h
    have hr:=a0e hi.slots (hb x (by simp[ho,Op.operands])) hx
    have hr2:=a0e hi.slots (hb hi0 (by simp[ho,Op.operands])) hh
    generalize hv:a.eval x=vx at hr
    generalize hv2:a.eval hi0=vh at hr2
    cases hr2
    obtain⟨hp,hent⟩:=hi.hinv.ent _ _ hH
    rcases hent with⟨_,h2,_⟩|⟨b,c,vs,rest,h1,h2,h3,h4,h5,h6,h7,h8,h9⟩
    omega
    have hil:i<H.length:=(ab.1 hH).1
    have hval:vx= .slice (some ⟨b,0,none⟩) n c:=by
      cases hr with
      |vcn _ ad hd=>rw[h1]at hd;cases hd
      |vc _ b' c' n' hd=>rw[h1]at hd;cases hd;rfl
    have hjk:j.toNat*k<=n*k:=aQ k (by omega)
    obtain⟨g,hiv⟩:=place (w':=w) (en:= .vec j.toNat k e' (cs.take (j.toNat*k))) (idx:=H.length) (b:=b) (c:=c) (m:=j.toNat) (x:=some i) hi.hinv (.inl rfl) (by simp;omega) (.inr ⟨i,_,c,n,rfl,hH,rfl,h1⟩) rfl rfl rfl (ai _) (λ_ _ _=>rfl)
      (λhrp=>⟨g0Q hp _, .inr ⟨b,c,vs.take (j.toNat*k),vs.drop (j.toNat*k)++rest,if_pos rfl,h2,h3,by omega,h5,by rw[<-bP,bR];exact h6,by rw[aJ];omega,
        by rw[<-bP,bR];exact h8,⟨by rw[aJ,aJ,h9.len],λv hv=>h9.one v (bG hv),λq v c' hv hc'=>by
          rw[aM]at hv hc'
          split at hv
          rename_i hq;rw[if_pos hq]at hc';exact hrp _ _ (h9.rep q v c' hv hc')
          cases hv⟩⟩⟩)
    refine⟨.slice (some ⟨b,0,none⟩) j.toNat c,w, .inl ?_,K,_,g,hiv, .vc _ b c j.toNat (if_pos rfl)⟩
    unfold execOp
    simp only[ho]
    have hjc:j<=(c:Int):=by omega
    by_cases hc0:c=0
    omega
    simp[Instr.sliceAt,Instr.slice,Instr.sliceBounds,Instr.sliceBound,asIntOf,run_underlying hu,c0g (show 0<P.cellsOf e by rw[<-hk];exact h3),hv,hv2,hval,hj0,hjc,hc0,Addr.add]
    cases h
    cases h
    cases h
  cases h
theorem TE.get_fz(i:Nat)(s0:SV): ∀(t:TE) (j:Nat),(t.fz i s0).get j=SV.fz i s0 (t.get j):=by
  intro t
  induction t with
  |e=>intro j;rfl
  |n v l r ihl ihr=>
    intro j
    show(TE.n (SV.fz i s0 v) (l.fz i s0) (r.fz i s0)).get j=_
    cases j with
    |zero=>rfl
    |succ j=>
      rw[TE.get_s,TE.get_s]
      split
      exact ihl _
      exact ihr _
theorem s0e {F:Fr} : ∀(is:List Nat) (t:TE) (H:a0f) (L:LE),a0v L=t.get-> ∃L2,Wk F L H L2 (y0N is t H).2/\a0v L2=(y0N is t H).1.get
  | [],t,H,L,h=>⟨L,λa w hs=>hs,h⟩
  |i::is,t,H,L,h=>by
    simp only[y0N]
    split
    rename_i n k e cs he
    have h1:=Wk.freeze (F:=F) (L:=L) i he
    obtain⟨L2,h2,h3⟩:=s0e (F:=F) is (t.fz i (.lst n k cs)) (fzH i (.lst n k cs) H) (fzE i (.lst n k cs) L) (by
      funext j
      show lk (fzE i (.lst n k cs) L) j=_
      rw[q0L,TE.get_fz,<-h];rfl)
    exact⟨L2,λa w hs=>h2 a w (h1 a w hs),h3⟩
    exact s0e is t H L h
theorem s0X {q:Nat} {o:Oper} (h:q0x q o=true): ∀c,o.op≠ .defer c:=(x0N h).1
section
variable {α : Type} {Fc : Fence} {F : Fr} {P : Program} {ops : Array Oper} {Q : f0C} {cl : CallT} {yl : r0m} {eqA : Option α -> Option α -> Option α}
def B0N(Sb:α->Prop)(eqA:Option α->Option α->Option α):Prop:= ∀x y r,eqA x y=some r->Sb r->(∃r1,x=some r1/\Sb r1)/\ ∃r2,y=some r2/\Sb r2
theorem y0Q {Sb:α->Prop} :B0N Sb (λ_ _=>(none:Option α)):=λ_ _ _ h=>by cases h
theorem s0I {P:Program} {cl:CallT} {yl:r0m} {Fc:Fence} {F:Fr} {ops:Array Oper} {Q:f0C} {L:LE} {H H':a0f} {o:Oper} {l:List Oper} {v:SV} (hcl:cl.Ok P)(hyl:YOk P yl)(hW:Wd Fc)(hW2: ∀l,Fc.inRound l=Fence.wide.inRound l)(hg:b0i ops (a0v L) o=some true)(hb:Oper.inB F.n ops o=true)(hnd: ∀c,o.op≠ .defer c)
    (hst:t0A P cl yl o (a0v L) H=some (v,H')) (hi:RLi Fc F P ops l (f0d L o.dst v) H' Q):RLi Fc F P ops (o::l) L H Q:=by
  unfold t0A at hst
  cases hc:b0T o with
  |true=>
    rw[hc]at hst
    simp only[cond_true]at hst
    split at hst
    rename_i f args hca
    exact RLi.call hW hg hb hnd hca (y0j hcl _ _ _ _ _ hst) hi
    split at hst
    rename_i i args hy
    split at hst
    rename_i b H2 hyy
    cases hst
    exact RLi.yield hW hW2 hg hb hnd hy (hyl _ _ _ _ _ hyy) hi
    cases hst
    cases hst
  |false=>
    rw[hc]at hst
    simp only[cond_false]at hst
    split at hst
    rename_i ef he
    cases hst
    exact RLi.step hW hg hb hnd he hi
    cases hst
theorem B0w {Sb:α->Prop} (hcl:cl.Ok P)(hyl:YOk P yl)(hE:B0N Sb eqA)(hW:Wd Fc)(hW2: ∀l,Fc.inRound l=Fence.wide.inRound l): ∀(l:List Oper) (t:TE) (H:a0f) (k:TE->a0f->Option α) (r:α),evN eqA P cl yl ops l t H k=some r->Sb r->(∀o∈l,Oper.inB F.n ops o=true/\q0x ops.size o=true)->
    ∀L,a0v L=t.get->(∀t2 H2 L2 r,a0v L2=t2.get->k t2 H2=some r->Sb r-> ∀a w,Sees F L2 H2 a w->Q .normal a w)->RLi Fc F P ops l L H Q:=by
  intro l
  induction l with
  |nil=>intro t H k r h hr _ L hL hk a w hs;exact wpListIn_nil (hk t H L r hL h hr a w hs)
  |cons o l ih=>
    intro t H k r h hr hl L hL hk
    obtain⟨hb,hnd⟩:=hl o (ar ..)
    have hnd:=s0X hnd
    have hl':=λx hx=>hl x (am _ hx)
    have h:(match b0i ops t.get o with
      |some true=>match t0A P cl yl o t.get H with
        |some (v,H')=>evN eqA P cl yl ops l (t.put o.dst v) H' k
        |none=>match B0f P t.get H o with
          |some (eq,kn)=>bif kn then evN eqA P cl yl ops l (t.put o.dst (.bool (bif eq then false else true))) H k
            else eqA (evN eqA P cl yl ops l (t.put o.dst (.bool (bif eq then true else false))) H k) (evN eqA P cl yl ops l (t.put o.dst (.bool (bif eq then false else true))) H k)
          |none=>match exO P t.get H o with
            |some (v,H')=>evN eqA P cl yl ops l (t.put o.dst v) H' k
            |none=>match y0C t.get o with
              | []=>none
              |i::is=>(λz:TE×a0f=>match b0i ops z.1.get o with
                |some true=>match t0A P cl yl o z.1.get z.2 with
                  |some (v,H')=>evN eqA P cl yl ops l (z.1.put o.dst v) H' k
                  |none=>none
                |_=>none) (y0N (i::is) t H)
      |some false=>evN eqA P cl yl ops l (t.put o.dst (.tup [])) H k
      |none=>none)=some r:=h
    rw[<-hL]at h
    split at h
    · rename_i hg
      split at h
      rename_i v H' hst
      have hi:=ih _ _ _ _ h hr hl' _ (TE.put_env hL o.dst v) hk
      exact s0I hcl hyl hW hW2 hg hb hnd hst hi
      · split at h
        · rename_i eq kn hn
          refine RLi.isNil hW hg hb hnd hn (λb hb0=> ?_)
          cases hkn:kn with
          |true=>
            rw[hkn]at h
            obtain rfl:=hb0 hkn
            have:(bif eq then false else !false)=(bif eq then false else true):=by cases eq<;>rfl
            rw[this]
            exact ih _ _ _ _ h hr hl' _ (TE.put_env hL o.dst _) hk
          |false=>
            rw[hkn]at h
            obtain⟨⟨r1,h1,hr1⟩,r2,h2,hr2⟩:=hE _ _ _ h hr
            cases b with
            |true=>
              have:(bif eq then true else !true)=(bif eq then true else false):=by cases eq<;>rfl
              rw[this]
              exact ih _ _ _ _ h1 hr1 hl' _ (TE.put_env hL o.dst _) hk
            |false=>
              have:(bif eq then false else !false)=(bif eq then false else true):=by cases eq<;>rfl
              rw[this]
              exact ih _ _ _ _ h2 hr2 hl' _ (TE.put_env hL o.dst _) hk
        split at h
        rename_i v H' hx
        exact RLi.ok hW hg hb hnd (λa w K D hi=>B0v hx hi (Oper.inB_op hb)) (ih _ _ _ _ h hr hl' _ (TE.put_env hL o.dst v) hk)
        split at h
        cases h
        rename_i i is _
        obtain⟨L2,hwk,hL2⟩:=s0e (F:=F) (i::is) t H L hL
        generalize y0N (i::is) t H=z at h hwk hL2
        obtain⟨t2,H2⟩:=z
        simp only at h hwk hL2
        split at h
        rename_i hg2
        split at h
        rename_i v H' hst
        rw[<-hL2]at hst hg2
        exact λa w hs=>s0I hcl hyl hW hW2 hg2 hb hnd hst (ih _ _ _ _ h hr hl' _ (TE.put_env hL2 o.dst v) hk) a w (hwk a w hs)
        cases h
        cases h
    rename_i hg
    exact RLi.skip hW hg hb (ih _ _ _ _ h hr hl' _ (TE.put_env hL o.dst _) hk)
    cases h
/-! Regions whose order is open. -/
theorem B0L(hW:Wd Fc) {R:Act->World->Prop} (hnd: ∀o∈ops.toList,∀c,o.op≠ .defer c)(hR: ∀a w,R a w->Q .normal a w): ∀(fuel:Nat) (listed:Array Bool) (a:Act) (w:World),
    wpAny P .any ops (z0E R) fuel listed a w->wpAnyIn Fc 0 P .any ops Q fuel listed a w:=by
  intro fuel
  induction fuel with
  |zero=>intro listed a w h;exact⟨h.1,hR _ _ h.2⟩
  |succ fuel ih=>
    intro listed a w h
    refine⟨λh0=>hR _ _ (h.1 h0),λi hi=> ?_⟩
    have h2:=h.2 i hi
    unfold wpOp at h2
    unfold wpOpIn
    cases ho:ops[i]? with
    |none=>rw[ho]at h2;exact ih _ _ _ h2
    |some o=>
      rw[ho]at h2
      simp only at h2⊢
      have hn:=hnd o (aC.2 (Array.mem_of_getElem? ho))
      split
      rename_i hw
      rw[if_pos hw]at h2
      rcases h2 with h2|⟨_,a1,w1,h2⟩
      exact n0f hW hn (λa w hx=>ih _ _ _ hx) h2
      exact h2.elim
      rename_i hw
      rw[if_neg hw]at h2
      exact⟨λf _=>hW.fn f,ih _ _ _ h2⟩
theorem y0f(hW:Wd Fc)(hm:P.follows .mixedOrders=true)(hB:Region.lexB .any ops=true)(hb: ∀o∈ops.toList,Oper.inB F.n ops o=true)(hnd: ∀o∈ops.toList,∀c,o.op≠ .defer c) {id:Nat} {L:LE} {H:a0f} {a:Act} {w:World}
    (hst:Sees F L H a w) (h:u0H P ops H.length [] ops.toList (fun ρ H=> ∀a w,St F ρ H a w->Q .normal a w) (a0v L) (H++List.replicate (f0k ops) .res)):(Code.region id ops true).wpIn Fc 0 P Q a w:=by
  simp only[Region.lexB,aa]at hB
  obtain⟨hd,K,D,hinv⟩:=hst
  refine wpIn_region_any hm (B0L hW (R:=λa w=>Q .normal a w) hnd (λa w hx=>hx) _ _ _ _ ?_)
  obtain⟨es,_,hany,_⟩:=p0T (base:=H.length) ops.toList [] (Array.replicate ops.size false) (a0v L) _ (by simp) (λj x hj=>by simp at hj) (λk hk=>absurd hk (cq _)) (by simpa using hB.2) h
  have hinv':=hinv.reserve (f0k ops)
  have hdrew:Inv F w.drew K D (H++List.replicate (f0k ops) .res) (a0v L) a.tmps:=⟨hinv'.slots.mono λ_ _=>World.drew_rep,hinv'.hinv.drew,hinv'.grow.trans (Grow.drew _ _ _ _)⟩
  exact r0i (Q:=z0E λa w=>Q .normal a w) (KS:=fun ρ H=> ∀a w,St F ρ H a w->Q .normal a w) (fun ρ H a w hst hq=>hq a w hst) hb ops.size _ (a0v L) _ a _ ⟨hd,K,D,hdrew⟩ (by simpa using hany)
theorem B0x(hcl:cl.Ok P) {base:Nat} : ∀(l:List Oper) (p:Nat) (tr:List XT) (t:TE) (H:a0f) (k:TE->a0f->Option α) (r:α),evD P cl ops base l p tr t H k=some r->tr.length=p->
    ∀L,a0v L=t.get->(∀t2 H2 L2,a0v L2=t2.get->k t2 H2=some r->PJ F Q .normal L2 H2)->u0H P ops base tr l (fun ρ H=> ∀a w,St F ρ H a w->Q .normal a w) (a0v L) H:=by
  intro l
  induction l with
  |nil=>
    intro p tr t H k r h hl L hL hk a w hst
    exact hk t H L hL h a w hst
  |cons o l ih=>
    intro p tr t H k r h hl L hL hk
    have h:(match b0i ops t.get o with
      |some true=>match z0l P cl ops base p tr o t.get H with
        |some ef=>evD P cl ops base l (p+1) (tr++ [((f0D o ef,e0D ops base p o ef),o,ef,g0A t.get o)]) (t.put o.dst ef.v) (a0I H ef.wr) k
        |none=>none
      |some false=>bif h0a P o (f0D o ⟨.tup [],[],[]⟩) (e0D ops base p o ⟨.tup [],[],[]⟩) ⟨.tup [],[],[]⟩ tr 0 then evD P cl ops base l (p+1) (tr++ [((f0D o ⟨.tup [],[],[]⟩,e0D ops base p o ⟨.tup [],[],[]⟩),o,⟨.tup [],[],[]⟩,g0A t.get o)]) (t.put o.dst (.tup [])) H k else none
      |none=>none)=some r:=h
    rw[<-hL]at h
    split at h
    rename_i hg
    split at h
    rename_i ef hst
    have hi:=ih _ _ _ _ _ _ h (by simp[hl]) _ (TE.put_env hL o.dst ef.v) hk
    unfold z0l at hst
    cases hc:b0T o with
    |true=>
      rw[hc]at hst
      simp only[cond_true]at hst
      split at hst
      rename_i f args hca
      split at hst
      rename_i ef' he
      cases hb:h0a P o (f0D o ef') (e0D ops base p o ef') ef' tr 0&&C0C ef' H with
      |false=>rw[hb]at hst;cases hst
      |true=>
        rw[hb]at hst
        cases hst
        simp only[aa]at hb
        subst hl
        refine⟨ef, ?_,hb.1, ?_⟩
        unfold opD
        rw[hg]
        simp only
        rw[hc,if_pos rfl]
        exact w0F hcl hca he
        rw[<-b0e]at hi
        exact hi
      cases hst
      cases hst
    |false=>
      rw[hc]at hst
      simp only[cond_false]at hst
      split at hst
      rename_i ef' he
      cases hok:h0a P o (f0D o ef') (e0D ops base p o ef') ef' tr 0&&((!c0U o||l0y (H[e0c ops base p]?))&&ef'.wr.all (λx=>Nat.blt x.1 H.length))with
      |false=>rw[hok]at hst;cases hst
      |true=>
        rw[hok]at hst
        cases hst
        simp only[aa,bB,List.all_eq_true]at hok
        obtain⟨k1,k2,k3⟩:=hok
        have k3': ∀x∈ef.wr,x.1<H.length:=λx hx=>bn (af (by simpa [Nat.blt]using k3 x hx))
        subst hl
        refine⟨ef, ?_,k1, ?_⟩
        unfold opD
        rw[hg]
        simp only
        rw[hc,if_neg (by simp)]
        refine⟨.inl he,λhcr=> ?_,k3'⟩
        rcases k2 with k2|k2
        rw[hcr]at k2;cases k2
        unfold l0y at k2
        split at k2
        assumption
        cases k2
        rw[<-b0e]at hi
        exact hi
      cases hst
    cases h
    rename_i hg
    cases hb:h0a P o (f0D o ⟨.tup [],[],[]⟩) (e0D ops base p o ⟨.tup [],[],[]⟩) ⟨.tup [],[],[]⟩ tr 0 with
    |false=>rw[hb]at h;cases h
    |true=>
      rw[hb]at h
      subst hl
      refine⟨⟨.tup [],[],[]⟩, ?_,hb, ?_⟩
      unfold opD
      rw[hg]
      have hi:=ih _ _ _ _ _ _ h (by simp) _ (TE.put_env hL o.dst _) hk
      rw[<-b0e]at hi
      exact hi
    cases h
/-! What a call hands back, settled. -/
theorem SC.frz1 {f:FuncId} {args:List SV} {H H':a0f} {v:SV} (h:SC P f args H v H')(i:Nat) {n k:Nat} {e:TypeId} {cs:List SV} (hi:H'[i]?=some (.vec n k e cs)):SC P f args H (SV.fz i (.lst n k cs) v) (fzH i (.lst n k cs) H'):=by
  refine⟨h.1,λw K D vals hl hr hinv hG=>(h.2 w K D vals hl hr hinv hG).mono ?_⟩
  rintro ee w' ⟨r,rfl,K',D',g,hi',hrr⟩
  refine⟨r,rfl, ?_⟩
  have hs:Sees ⟨1,w',K',D',H',[]⟩ [(0,v)] H' { tmps:= #[r],defers:=[] } w':=⟨rfl,K',D',⟨⟨rfl,λj hj=>by
    obtain rfl:j=0:=Nat.lt_one_iff.1 hj
    exact hrr,λgg cs hg=>g.rep (hG gg cs hg)⟩,hi',Grow.refl _ _ _ _⟩⟩
  obtain⟨_,K2,D2,hI⟩:=Wk.freeze (F:=⟨1,w',K',D',H',[]⟩) (L:=[(0,v)]) i hi _ _ hs
  refine⟨K2,D2,g.trans hI.grow,hI.hinv, ?_⟩
  have:=hI.slots.rep 0 (by show 0<1;omega)
  have he:a0v (fzE i (.lst n k cs) [(0,v)]) 0=SV.fz i (.lst n k cs) v:=by
    show lk (fzE i (.lst n k cs) [(0,v)]) 0=_
    rw[q0L];rfl
  rw[he]at this
  exact this
theorem SC.drop {f:FuncId} {args:List SV} {H H':a0f} {v:SV} (h:SC P f args H v H')(m:Nat)(hm:H.length<=m)(hm2:m<=H'.length)(hv:SV.refs m v=true)(hr:(H'.take m).all (Ent.refs m)=true):SC P f args H v (H'.take m):=by
  refine⟨h.1,λw K D vals hl hrep hinv hG=>(h.2 w K D vals hl hrep hinv hG).mono ?_⟩
  rintro ee w' ⟨r,rfl,K',D',g,hi',hrr⟩
  refine⟨r,rfl, ?_⟩
  have hlen:(H'.take m).length=m:=by rw[aJ];omega
  have hid: ∀s,SV.rn (λj=>j) s=s:=t0J
  refine h0Z (f:=λj=>j) g hi' hrr ⟨⟨λj en hj=> ?_,λi j _ _ e=>e,λj en hj=> ?_⟩,λj _=>rfl,by rw[hlen];exact hm,(t0J v).symm,by rw[hlen];exact hv⟩ hinv.dom
  have hjm:j<m:=by have:=(ab.1 hj).1;omega
  rw[aM,if_pos hjm]at hj
  rw[hj,y0P]
  rw[hlen];exact List.all_eq_true.1 hr en (aA hj)
theorem s0d {f:FuncId} {args:List SV} {H:a0f} : ∀(is:List Nat) (v:SV) (H':a0f),SC P f args H v H'->SC P f args H (z0W is v H').1 (z0W is v H').2
  | [],v,H',h=>h
  |i::is,v,H',h=>by
    simp only[z0W]
    split
    rename_i he
    exact s0d is _ _ (h.frz1 i he)
    exact s0d is v H' h
theorem z0X(hcl:cl.Ok P):(B0Z cl).Ok P:=by
  intro f args H v H' h
  unfold B0Z at h
  split at h
  rename_i v1 H1 hc
  have hs:=hcl _ _ _ _ _ hc
  cases hb:Nat.ble H1.length (H.length+1)with
  |true=>rw[hb]at h;cases h;exact hs
  |false=>
    rw[hb]at h
    simp only[cond_false]at h
    have hf:=s0d (List.range' H.length (H1.length-H.length)) v1 H1 hs
    generalize z0W (List.range' H.length (H1.length-H.length)) v1 H1=z at h hf
    obtain⟨v2,H2⟩:=z
    simp only at h hf
    cases hq:SV.refs H.length v2&&(H2.take H.length).all (Ent.refs H.length)&&Nat.ble H.length H2.length with
    |false=>rw[hq]at h;cases h
    |true=>
      rw[hq]at h
      simp only[aa]at hq
      cases h
      exact hf.drop H.length (ai _) (af hq.2) hq.1.1 hq.1.2
  cases h
end
/-! Frames that follow one another. -/
structure Fol (F F':Fr):Prop where
  n:F'.n=F.n
  grow:Grow F.w0 F.K0 F.D0 F.H0 F'.w0 F'.K0 F'.D0 F'.H0
theorem Fol.refl(F:Fr):Fol F F:=⟨rfl,Grow.refl _ _ _ _⟩
theorem Fol.trans {F F' F'':Fr} (h:Fol F F')(h':Fol F' F''):Fol F F'':=⟨h'.n.trans h.n,h.grow.trans h'.grow⟩
def MOk(b0:Nat×List Deferred)(D:DM):List Deferred->List Nat->Prop
  |ds,[]=>ds=b0.2
  |d::ds,i::ms=>(∃b,d= { target:= .collected b,args:= #[] } /\D i=some (.at b 0 0)/\b0.1<=b)/\MOk b0 D ds ms
  | [],_::_=>False
theorem p0L {b0:Nat×List Deferred} {D:DM} {ds:List Deferred} (h:MOk b0 D ds []):ds=b0.2:=by cases ds<;>exact h
theorem MOk.of_nil {b0:Nat×List Deferred} {D:DM} {ds:List Deferred} (h:ds=b0.2):MOk b0 D ds []:=by cases ds<;>exact h
theorem MOk.mono {b0:Nat×List Deferred} {D D':DM} (h: ∀i x,D i=some x->D' i=some x): ∀ {ds:List Deferred} {ms:List Nat},MOk b0 D ds ms->MOk b0 D' ds ms
  | [],[],hm=>hm
  |_::_,[],hm=>hm
  |d::ds,i::ms,⟨⟨b,h1,h2,h3⟩,hr⟩=>⟨⟨b,h1,h _ _ h2,h3⟩,MOk.mono h hr⟩
  | [],_::_,hm=>hm
def FcOk(rd:Option Nat)(Fc:Fence)(D:DM):Prop:=match rd with
  |none=>Fc=Fence.wide
  |some i=> ∃l,Fc=Fence.wide.inRound l/\D i=some (.at l 0 0)
theorem FcOk.wd {rd:Option Nat} {Fc:Fence} {D:DM} (h:FcOk rd Fc D):Wd Fc:=by
  cases rd with
  |none=>cases h;exact u0D
  |some i=>obtain⟨l,rfl,_⟩:=h;exact s0F l
theorem FcOk.wd2 {rd:Option Nat} {Fc:Fence} {D:DM} (h:FcOk rd Fc D): ∀l,Fc.inRound l=Fence.wide.inRound l:=by
  cases rd with
  |none=>cases h;exact λ_=>rfl
  |some i=>obtain⟨l,rfl,_⟩:=h;exact λ_=>rfl
theorem FcOk.mono {rd:Option Nat} {Fc:Fence} {D D':DM} (h:FcOk rd Fc D)(hD: ∀i x,D i=some x->D' i=some x):FcOk rd Fc D':=by
  cases rd with
  |none=>exact h
  |some i=>obtain⟨l,rfl,h2⟩:=h;exact⟨l,rfl,hD _ _ h2⟩
theorem B0P {w w':World} {K:Nat->Nat} {D:DM} {H:a0f} (h:HInv w K D H) {i b c n:Nat} {en en':Ent} (hi:H[i]?=some en)(hl:f0z en=true)(hd:D i=some (.at b c n))(h1:w'.os=w.os)(h2:w'.tape=w.tape)(h3:w'.output=w.output)(h4:w'.heap.size=w.heap.size)
    (h5: ∀b',b'≠b->w'.heap[b']?=w.heap[b']?) (hen:(∀v s,Rep w K D v s->Rep w' K D v s)->EntOk w' K D i en') (hres:en'≠ .res):
    Grow w K D H w' K D (H.set i en')/\HInv w' K D (H.set i en'):=by
  have hm:Mem D H b:=⟨i,en,c,n,hi,hl,hd⟩
  have hK:K b=0:=(h0M h hm).2
  have hil:i<H.length:=(ab.1 hi).1
  have hcells: ∀b' j,j<K b'->w'.cell? ⟨b',j,none⟩=w.cell? ⟨b',j,none⟩:=λb' j hj=>w0E (h5 b' (λe=>by subst e;omega))
  have hrep: ∀v s,Rep w K D v s->Rep w' K D v s:=λv s hr=>Rep.mono hcells (λ_=>ai _) (λ_ _ e=>e) hr
  have hget: ∀j,(H.set i en')[j]?=if j=i then some en' else H[j]?:=λj=>by
    rw[aL]
    by_cases hj:i=j
    subst hj;simp[hil]
    rw[if_neg hj,if_neg (λe=>hj e.symm)]
  have hold: ∀j enj,(H.set i en')[j]?=some enj->f0z enj=true-> ∃enj0,H[j]?=some enj0/\f0z enj0=true:=λj enj hj hlj=>by
    rw[hget]at hj
    by_cases e:j=i
    subst e;exact⟨en,hi,hl⟩
    rw[if_neg e]at hj;exact⟨enj,hj,hlj⟩
  refine⟨⟨h1,h2,h3,by omega,λb' _ hm'=>h5 b' (λe=>hm' (e▸hm)),hcells,λ_=>ai _,λ_ _ _=>rfl,λ_ _ e=>e,λb' hm'=> ?_⟩,⟨λj hj=>h.dom j (by simpa using hj),λj enj hj=> ?_,λj j' enj enj' bb cc nn cc' nn' hj hj' hlj hlj' hdj hdj'=> ?_,λb' hb'=>by rw[h4];exact h.kw b' hb'⟩⟩
  obtain⟨j,enj,cj,nj,e1,e2,e3⟩:=hm'
  obtain⟨enj0,q1,q2⟩:=hold j enj e1 e2
  exact .inl ⟨j,enj0,cj,nj,q1,q2,e3⟩
  rw[hget]at hj
  by_cases e:j=i
  subst e;rw[if_pos rfl]at hj;cases hj;exact hen hrep
  rw[if_neg e]at hj
  refine(h.ent j enj hj).keep hrep rfl (λbj cj nj hlj hdj=>⟨h5 bj (λe2=> ?_),rfl⟩)
  subst e2
  exact e (h.inj j i enj en bj cj nj c n hj hi hlj hl hdj hd)
  obtain⟨enj0,q1,q2⟩:=hold j enj hj hlj
  obtain⟨enj1,q3,q4⟩:=hold j' enj' hj' hlj'
  exact h.inj j j' enj0 enj1 bb cc nn cc' nn' q1 q3 q2 q4 hdj hdj'
def y0q(F':Fr)(Q:f0C)(L:LE)(H:a0f):Option Code->Prop
  |none=>PJ F' Q .normal L H
  |some .ret=>PJ F' Q .ret L H
  |some (.exit k)=>PJ F' Q (.exit k) L H
  |_=>False
section
variable {Fc : Fence} {F : Fr} {P : Program} {Q : f0C}
theorem o0o {gf:FuncId} {args caps:Array Value} {W:World} (hc:b0P P gf=true):(invoke (.fn (.func gf) caps) args).run P W= .ok (.enter gf (args++caps)) W:=by
  unfold b0P at hc
  cases hfn:P.funcs[gf]? with
  |none=>rw[hfn]at hc;cases hc
  |some fn=>
    rw[hfn]at hc
    simp only[aa,ci]at hc
    have hbs:fn.body.isNone=false:=by cases hbd:fn.body<;>simp[hbd]at hc⊢
    simp only[invoke,callFunc,Sem.run_bind,run_program,Result.andThen_ok,hfn,hc.2,aH,if_false,hbs,Sem.run_pure]
theorem o0q(hW:Wd Fc) {a:Act} {W1:World} {K:Nat->Nat} {D1:DM} {H1 H2:a0f} {i l gf:Nat} {args:List SV} {vals:List Value} {v:SV} {L:LE} {tm:List SV} {ps:List Nat} {as bd:Code} {st:LoopState} {pd:Option Code} {ds:List Deferred}
    (hinv1:HInv W1 K D1 H1) (hDi:D1 i=some (.at l 0 0)) (hgrow0:Grow F.w0 F.K0 F.D0 F.H0 W1 K D1 H1) (hsl:Slots F.n W1 K D1 (a0v L) a.tmps) (hsc:SC P gf args H1 v H2) (hvl:vals.length=args.length)
    (hvr: ∀(j:Nat) (x:Value) (c:SV),vals[j]?=some x->args[j]?=some c->Rep W1 K D1 x c) (hl:H2[i]?=some (.lop tm ps as bd st pd)) (hst:o0y st=false)
    (cont: ∀F':Fr,Fol F F'->F'.ds=ds->(∀j x,D1 j=some x->F'.D0 j=some x)->y0q F' Q L (H2.set i .gone) pd):
    CallsIn Fc 0 P gf vals.toArray W1 (rangePost Fc 0 P l Q { a with defers:=ds }):=by
  refine hW.calls ((hsc.2 W1 K D1 vals hvl hvr hinv1 hsl.glob).mono ?_)
  rintro e w3 ⟨r,rfl,K',D',g,hi',_⟩
  obtain⟨l',r',e1,e2,e3,e4,e5,e6,e7,e8,e9,e10⟩:=hi'.ent _ _ hl
  have:=g.dd _ _ hDi
  rw[this]at e1;cases e1
  have hb:r'.state≠ .busy:=λh=>by rw[h]at e7;subst e7;cases hst
  have ht:=B0P (w':=w3.putObj l (.loop { r' with state:= .exhausted })) (en':= .gone) hi' hl rfl this rfl rfl rfl (by simp) (λb' hb'=>World.putObj_heap_other hb') (λ_=>trivial) (by simp)
  refine⟨pd,_,by rw[<-e8];exact run_endLoop e3 hb, ?_⟩
  have hsee: ∀a',a'.defers=ds->a'.tmps=a.tmps->Sees ⟨F.n,w3.putObj l (.loop { r' with state:= .exhausted }),K',D',H2.set i .gone,ds⟩ L (H2.set i .gone) a' (w3.putObj l (.loop { r' with state:= .exhausted })):=λa' h1 h2=>
    ⟨h1,K',D',⟨by rw[h2];exact(hsl.mono λ_ _=>g.rep).mono λ_ _=>ht.1.rep,ht.2,Grow.refl _ _ _ _⟩⟩
  have hc:=cont ⟨F.n,w3.putObj l (.loop { r' with state:= .exhausted }),K',D',H2.set i .gone,ds⟩ ⟨rfl,(hgrow0.trans g).trans ht.1⟩ rfl (λj x hj=>g.dd _ _ hj)
  have hs:=hsee { a with defers:=ds } rfl rfl
  cases pd with
  |none=>exact hc _ _ hs
  |some c=>
    cases c with
    |ret=>exact wpIn_ret (hc _ _ hs)
    |exit k=>exact wpIn_exit (hc _ _ hs)
    |_=>exact hc.elim
theorem f0X(D:DM)(i:Nat)(x:Loc):e0E D i x i=some x:=if_pos rfl
theorem t0x(D:DM) {i j:Nat} (x:Loc)(h:j≠i):e0E D i x j=D j:=if_neg h
theorem o0U(H:a0f)(en:Ent):g0m H H.length en=H++ [en]:=by unfold g0m;rw[if_neg (Nat.lt_irrefl _)]
theorem m0n(w:World)(o:Obj): ∀b',b'≠w.heap.size->b'<w.heap.size->(w.alloc o).heap[b']?=w.heap[b']?:=λb' _ h=>Below.heap_alloc w o b' h
theorem v0K {w:World} {K:Nat->Nat} {D D':DM} {L:LE} {tmps:Array Value} {N l i:Nat} {t:TE} {r:Loop} {ps:Array Nat} {as bd:Code} (hs:Slots N w K D (a0v L) tmps)(hL:a0v L=t.get)(hD:D' i=some (.at l 0 0))(hK:K l=0)
    {w':World} (hl:w'.heap[l]?=some (.loop r)) (hr: ∀v s,Rep w K D v s->Rep w' K D' v s) (h1:r.tmps=tmps) (h2:r.params=ps) (h3:r.assign=as) (h4:r.body=bd) (h5:r.state= .ready) (h6:r.pending=none):
    EntOk w' K D' i (.lop ((List.range N).map t.get) ps.toList as bd .ready none):=by
  refine⟨l,r,hD,hK,hl,by rw[h2],h3,h4,h5,h6,by rw[h1,hs.size];simp,λj v c hv hc=> ?_⟩
  rw[h1]at hv
  have hj:j<N:=by rw[<-hs.size];exact(ah.1 hv).1
  rw[al,bf hj]at hc
  cases hc
  have:=hs.rep j hj
  rw[aT,hv]at this
  rw[<-hL]
  exact hr _ _ this
theorem s0Q {w:World} {K:Nat->Nat} {D:DM} {y:Value} {s:SV} {vs:List Value} {cs:List SV} (hy:Rep w K D y s)(h: ∀(j:Nat) (v:Value) (c:SV),vs[j]?=some v->cs[j]?=some c->Rep w K D v c):
    ∀(j:Nat) (v:Value) (c:SV),(y::vs)[j]?=some v->(s::cs)[j]?=some c->Rep w K D v c
  |0,v,c,hv,hc=>by simp at hv hc;subst hv;subst hc;exact hy
  |j+1,v,c,hv,hc=>h j v c (by simpa using hv) (by simpa using hc)
theorem v0m {w:World} {K:Nat->Nat} {D:DM} {v:Value} {g:Fn} {caps:List SV} (h:Rep w K D v (.fn g [] caps)): ∃vs:List Value,v= .func g #[] vs.toArray/\caps.length=vs.length/\ ∀(j:Nat) (u:Value) (c:SV),vs[j]?=some u->caps[j]?=some c->Rep w K D u c:=by
  cases h with
  |fn _ fs vs _ _ h1 h2 h3 h4=>
    obtain rfl:fs=[]:=ao h1.symm
    exact⟨vs,rfl,h2,h4⟩
theorem v0r {g:Operand} {ps:Array Nat} {as bd:Code} {gf:Nat} {caps:List SV} {v:SV} {L:LE} {t:TE} {H H2:a0f} {tm:List SV} {ps':List Nat} {as' bd':Code} {st:LoopState} {pd:Option Code} (hin:Operand.inB F.n g=true)(hL:a0v L=t.get)(hg:a0F (a0v L) g=some (.fn (.func gf) [] caps))
    (hsc:SC P gf (.yld (H.length+1)::caps) (H++ [.dfr]++ [.lop ((List.range F.n).map t.get) ps.toList as bd .ready none]) v H2) (hl:H2[H.length+1]?=some (.lop tm ps' as' bd' st pd)) (hst:o0y st=false)
    (cont: ∀(F':Fr) (b:Nat),Fol F F'->F'.ds= { target:= .collected b,args:= #[] } ::F.ds->F'.D0 H.length=some (.at b 0 0)->F.w0.heap.size<=b->y0q F' Q L (H2.set (H.length+1) .gone) pd):
    ∀a w,Sees F L H a w->(Code.rangeFunc g ps as bd).wpIn Fence.wide 0 P Q a w:=by
  intro a w hs
  obtain⟨hd,K,D,hi⟩:=hs
  obtain⟨vs,hv,hvl,hvr⟩:=v0m (a0e hi.slots hin hg)
  refine wpIn_rangeFunc (λfn' _=> ?_)
  obtain⟨r,hr⟩: ∃r:Loop,r= { state:= .ready,pending:=none,fn:=fn',tmps:=a.tmps,params:=ps,assign:=as,body:=bd,defers:=w.heap.size } :=⟨_,rfl⟩
  have hK0: ∀b,w.heap.size<=b->K b=0:=λb hb=>by
    rcases aZ (K b)with h0|h0
    exact h0
    have:=hi.hinv.kw b (by omega);omega
  have p1:=place (w':=w.alloc (.deferred (some []))) (en:= .dfr) (idx:=H.length) (b:=w.heap.size) (c:=0) (m:=0) (x:=none) hi.hinv (.inl rfl) (by simp) (.inl (ai _)) rfl rfl rfl (by simp) (m0n _ _)
    (λhr=>⟨w.heap.size,f0X _ _ _,hK0 _ (ai _),World.alloc_heap_new _ _⟩)
  rw[show g0p H none=H from rfl,o0U]at p1
  obtain⟨g1,i1⟩:=p1
  have hlen:(H++ [Ent.dfr]).length=H.length+1:=by simp
  have hs1:=hi.slots.mono λ_ _=>g1.rep
  have p2:=place (w':=(w.alloc (.deferred (some []))).alloc (.loop r)) (en:= .lop ((List.range F.n).map t.get) ps.toList as bd .ready none) (idx:=(H++ [Ent.dfr]).length) (b:=w.heap.size+1) (c:=0) (m:=0) (x:=none) i1 (.inl rfl) (by simp)
    (.inl (by simp)) rfl rfl rfl (by simp) (λb' h1 h2=>m0n _ _ b' (by simp;omega) h2)
    (λhrep=>v0K (r:=r) (ps:=ps) hs1 hL (f0X _ _ _) (hK0 _ (by omega)) (by have:=World.alloc_heap_new (w.alloc (.deferred (some []))) (.loop r);rwa [World.size_alloc]at this) hrep (by rw[hr]) (by rw[hr]) (by rw[hr]) (by rw[hr]) (by rw[hr]) (by rw[hr]))
  rw[show g0p (H++ [Ent.dfr]) none=H++ [Ent.dfr]from rfl,o0U]at p2
  obtain⟨g2,i2⟩:=p2
  have hs2:=hs1.mono λ_ _=>g2.rep
  refine⟨w.heap.size+1,[{ target:= .collected w.heap.size,args:= #[] }],(w.alloc (.deferred (some []))).alloc (.loop r), { target:= .fn (.func gf) vs.toArray,args:= #[.func (.yield (w.heap.size+1)) #[] #[]] },(w.alloc (.deferred (some []))).alloc (.loop r),gf, #[.func (.yield (w.heap.size+1)) #[] #[]]++vs.toArray,(w.alloc (.deferred (some []))).alloc (.loop r), ?_, ?_,λ_ _=>trivial,o0o hsc.1,λh=>(by cases h), ?_⟩
  rw[hr];exact run_enterLoop_outer _ _ _ _ _
  simp only[resolve,hv]
  simp[go_sem]
  have e:(#[Value.func (.yield (w.heap.size+1)) #[] #[]]++vs.toArray)=(Value.func (.yield (w.heap.size+1)) #[] #[]::vs).toArray:=by simp
  rw[e]
  refine o0q (i:=H.length+1) (args:= .yld (H.length+1)::caps) u0D i2 (by rw[hlen];exact f0X _ _ _) ((hi.grow.trans g1).trans g2) hs2 hsc (by simp[hvl]) (s0Q (.yld _ _ 0 0 (by rw[hlen];exact f0X _ _ _)) (λj u c hu hc=>g2.rep (g1.rep (hvr j u c hu hc)))) hl hst (λF' hf hds hD=> ?_)
  refine cont F' w.heap.size hf (by rw[hds,hd];rfl) (hD _ _ ?_) hi.grow.size
  rw[hlen,t0x _ _ (by omega)];exact f0X _ _ _
theorem x0E {l0 i0:Nat} {g:Operand} {ps:Array Nat} {as bd:Code} {gf:Nat} {caps:List SV} {v:SV} {L:LE} {t:TE} {H H2:a0f} {tm:List SV} {ps':List Nat} {as' bd':Code} {st:LoopState} {pd:Option Code} (hin:Operand.inB F.n g=true)(hL:a0v L=t.get)(hg:a0F (a0v L) g=some (.fn (.func gf) [] caps))
    (hD0:F.D0 i0=some (.at l0 0 0)) {tm0:List SV} {ps0:List Nat} {as0 bd0:Code} {st0:LoopState} {pd0:Option Code} (h0:H[i0]?=some (.lop tm0 ps0 as0 bd0 st0 pd0))
    (hsc:SC P gf (.yld H.length::caps) (H++ [.lop ((List.range F.n).map t.get) ps.toList as bd .ready none]) v H2) (hl:H2[H.length]?=some (.lop tm ps' as' bd' st pd)) (hst:o0y st=false)
    (cont: ∀F':Fr,Fol F F'->F'.ds=F.ds->y0q F' Q L (H2.set H.length .gone) pd):
    ∀a w,Sees F L H a w->(Code.rangeFunc g ps as bd).wpIn (Fence.wide.inRound l0) 0 P Q a w:=by
  intro a w hs
  obtain⟨hd,K,D,hi⟩:=hs
  obtain⟨vs,hv,hvl,hvr⟩:=v0m (a0e hi.slots hin hg)
  refine wpIn_rangeFunc (λfn' _=> ?_)
  obtain⟨l',r0,e1,e2,e3,_⟩:=hi.hinv.ent _ _ h0
  have:=hi.grow.dd _ _ hD0
  rw[this]at e1;cases e1
  obtain⟨r,hr⟩: ∃r:Loop,r= { state:= .ready,pending:=none,fn:=fn',tmps:=a.tmps,params:=ps,assign:=as,body:=bd,defers:=r0.defers } :=⟨_,rfl⟩
  have hK0:K w.heap.size=0:=by
    rcases aZ (K w.heap.size)with h0|h0
    exact h0
    have:=hi.hinv.kw w.heap.size (by omega);omega
  have p2:=place (w':=w.alloc (.loop r)) (en:= .lop ((List.range F.n).map t.get) ps.toList as bd .ready none) (idx:=H.length) (b:=w.heap.size) (c:=0) (m:=0) (x:=none) hi.hinv (.inl rfl) (by simp)
    (.inl (ai _)) rfl rfl rfl (by simp) (m0n _ _)
    (λhrep=>v0K (r:=r) (ps:=ps) hi.slots hL (f0X _ _ _) hK0 (World.alloc_heap_new _ _) hrep (by rw[hr]) (by rw[hr]) (by rw[hr]) (by rw[hr]) (by rw[hr]) (by rw[hr]))
  rw[show g0p H none=H from rfl,o0U]at p2
  obtain⟨g2,i2⟩:=p2
  have hs2:=hi.slots.mono λ_ _=>g2.rep
  refine⟨w.heap.size,[],w.alloc (.loop r), { target:= .fn (.func gf) vs.toArray,args:= #[.func (.yield w.heap.size) #[] #[]] },w.alloc (.loop r),gf, #[.func (.yield w.heap.size) #[] #[]]++vs.toArray,w.alloc (.loop r), ?_, ?_,λ_ _=>trivial,o0o hsc.1,λh=>(by cases h), ?_⟩
  rw[hr];exact run_enterLoop_inner e3 _ _ _ _ _
  simp only[resolve,hv]
  simp[go_sem]
  have e:(#[Value.func (.yield w.heap.size) #[] #[]]++vs.toArray)=(Value.func (.yield w.heap.size) #[] #[]::vs).toArray:=by simp
  rw[e]
  refine o0q (i:=H.length) (args:= .yld H.length::caps) (s0F l0) i2 (f0X _ _ _) (hi.grow.trans g2) hs2 hsc (by simp[hvl]) (s0Q (.yld _ _ 0 0 (f0X _ _ _)) (λj u c hu hc=>g2.rep (hvr j u c hu hc))) hl hst (λF' hf hds hD=> ?_)
  exact cont F' hf (by rw[hds,<-hd];rfl)
end
/-! Code. -/
section
variable {α : Type} {P : Program} {cl : CallT} {yl : r0m} {eqA : Option α -> Option α -> Option α} {B N : Nat} {rd : Option Nat} {b0 : Nat × List Deferred} {Sb : α -> Prop}
def KOk(b0:Nat×List Deferred)(F:Fr)(Sb:α->Prop)(Q:f0C)(e:Exit)(k:KT α):Prop:= ∀(F':Fr) (t':TE) (H':a0f) (ms':List Nat) (L':LE) (r:α),Fol F F'->MOk b0 F'.D0 F'.ds ms'->a0v L'=t'.get->k t' H' ms'=some r->Sb r->PJ F' Q e L' H'
theorem KOk.fol {F F1:Fr} {Q:f0C} {e:Exit} {k:KT α} (h:KOk b0 F Sb Q e k)(hf:Fol F F1):KOk b0 F1 Sb Q e k:=λF' t' H' ms' L' r h1=>h F' t' H' ms' L' r (hf.trans h1)
theorem y0O {r:α} {i:Nat} {t:TE} {H2:a0f} {ms:List Nat} {kn kr:KT α} {kx:Nat->KT α} {F:Fr} {Q:f0C} {L:LE} (h:evJ i t H2 ms kn kr kx=some r)(hr0:Sb r)(hL:a0v L=t.get)(hn:KOk b0 F Sb Q .normal kn)(hr:KOk b0 F Sb Q .ret kr)(hx: ∀k,KOk b0 F Sb Q (.exit k) (kx k)):
    ∃tm ps as bd st pd,H2[i]?=some (.lop tm ps as bd st pd)/\o0y st=false/\ ∀F':Fr,Fol F F'->MOk b0 F'.D0 F'.ds ms->y0q F' Q L (H2.set i .gone) pd:=by
  unfold evJ at h
  split at h
  rename_i tm ps as bd st pd hl
  cases hb:o0y st with
  |true=>rw[hb]at h;cases h
  |false=>
    rw[hb]at h
    simp only[cond_false]at h
    refine⟨tm,ps,as,bd,st,pd,hl,hb,λF' hf hm=> ?_⟩
    split at h
    exact hn F' _ _ _ L _ hf hm hL h hr0
    exact hr F' _ _ _ L _ hf hm hL h hr0
    exact hx _ F' _ _ _ L _ hf hm hL h hr0
    cases h
  cases h
theorem o0D(hcl:cl.Ok P)(hyl:YOk P yl)(hE:B0N Sb eqA): ∀(c:Code) (t:TE) (H:a0f) (ms:List Nat) (kn kr:KT α) (kx:Nat->KT α) (r:α),ewC eqA P cl cl yl B N rd c t H ms kn kr kx=some r->Sb r-> ∀(Fc:Fence) (F:Fr) (L:LE) (Q:f0C),FcOk rd Fc F.D0->F.n=N->MOk b0 F.D0 F.ds ms->b0.1<=F.w0.heap.size->
    b0E N c=true->e0A c=true->a0v L=t.get->KOk b0 F Sb Q .normal kn->KOk b0 F Sb Q .ret kr->(∀k,KOk b0 F Sb Q (.exit k) (kx k))-> ∀a w,Sees F L H a w->c.wpIn Fc 0 P Q a w:=by
  intro c
  induction c with
  |skip=>intro t H ms kn kr kx r h hr0 Fc F L Q hF hN hm hb hin hnd hL hn hr hx a w hs;exact wpIn_skip (hn F t H ms L r (Fol.refl F) hm hL h hr0 a w hs)
  |ret=>intro t H ms kn kr kx r h hr0 Fc F L Q hF hN hm hb hin hnd hL hn hr hx a w hs;exact wpIn_ret (hr F t H ms L r (Fol.refl F) hm hL h hr0 a w hs)
  |exit k=>intro t H ms kn kr kx r h hr0 Fc F L Q hF hN hm hb hin hnd hL hn hr hx a w hs;exact wpIn_exit (hx k F t H ms L r (Fol.refl F) hm hL h hr0 a w hs)
  |region id ops dr=>
    intro t H ms kn kr kx r h hr0 Fc F L Q hF hN hm hb hin hnd hL hn hr hx a w hs
    have h:(bif dr then(bif P.follows .mixedOrders&&Region.lexB .any ops then evD P (B0Z cl) ops H.length ops.toList 0 [] t (H++List.replicate (f0k ops) .res) (λt H=>kn t H ms)else none)else evN eqA P cl yl ops ops.toList t H (λt H=>kn t H ms))=some r:=h
    have hW:=hF.wd
    simp only[b0E,List.all_eq_true]at hin
    simp only[e0A,List.all_eq_true]at hnd
    cases dr with
    |true=>
      simp only[cond_true]at h
      cases hq:P.follows .mixedOrders&&Region.lexB .any ops with
      |false=>rw[hq]at h;cases h
      |true=>
        rw[hq]at h
        simp only[aa]at hq
        simp only[cond_true]at h
        exact y0f hW hq.1 hq.2 (by rw[hN];exact hin) (λo ho=>s0X (hnd o ho)) hs (B0x (z0X hcl) _ _ _ _ _ _ _ h rfl L hL (λt2 H2 L2 hL2 hk=>hn F t2 H2 ms L2 r (Fol.refl F) hm hL2 hk hr0))
    |false=>
      simp only[cond_false]at h
      exact wpIn_region_list (B0w hcl hyl hE hW hF.wd2 _ _ _ _ _ h hr0 (λo ho=>⟨by rw[hN];exact hin o ho,hnd o ho⟩) L hL (λt2 H2 L2 r hL2 hk hr0=>hn F t2 H2 ms L2 r (Fol.refl F) hm hL2 hk hr0) a w hs)
  |seq x y ihx ihy=>
    intro t H ms kn kr kx r h hr0 Fc F L Q hF hN hm hb hin hnd hL hn hr hx a w hs
    have h:ewC eqA P cl cl yl B N rd x t H ms (λt H ms=>ewC eqA P cl cl yl B N rd y t H ms kn kr kx) kr kx=some r:=h
    simp only[b0E,aa]at hin
    simp only[e0A,aa]at hnd
    refine wpIn_seq (ihx _ _ _ _ _ _ _ h hr0 Fc F L (Exit.then (y.wpIn Fc 0 P Q) Q) hF hN hm hb hin.1 hnd.1 hL ?_ (λF' t' H' ms' L' r h1 h2 h3 h4=>hr F' t' H' ms' L' r h1 h2 h3 h4) (λk F' t' H' ms' L' r h1 h2 h3 h4=>hx k F' t' H' ms' L' r h1 h2 h3 h4) a w hs)
    intro F' t' H' ms' L' r h1 h2 h3 h4 hr0 a' w' hs'
    exact ihy _ _ _ _ _ _ _ h4 hr0 Fc F' L' Q (hF.mono h1.grow.dd) (h1.n.trans hN) h2 (aI hb h1.grow.size) hin.2 hnd.2 h3 (hn.fol h1) (hr.fol h1) (λk=>(hx k).fol h1) a' w' hs'
  |cond c x y ihx ihy=>
    intro t H ms kn kr kx r h hr0 Fc F L Q hF hN hm hb hin hnd hL hn hr hx a w hs
    have h:(match a0F t.get c with
      |some (.bool b)=>Bool.rec (motive:=λ_=>Option α) (ewC eqA P cl cl yl B N rd y t H ms kn kr kx) (ewC eqA P cl cl yl B N rd x t H ms kn kr kx) b
      |_=>none)=some r:=h
    simp only[b0E,aa]at hin
    simp only[e0A,aa]at hnd
    split at h
    rename_i b hv
    have hs0:=hs
    obtain⟨hd,K,D,hi⟩:=hs
    have hr':=a0e hi.slots (by rw[hN];exact hin.1.1) (by rw[hL];exact hv)
    generalize hva:a.eval c=v at hr'
    cases hr'
    refine wpIn_cond hva ?_
    cases b with
    |true=>exact ihx _ _ _ _ _ _ _ h hr0 Fc F L Q hF hN hm hb hin.1.2 hnd.1 hL hn hr hx a w hs0
    |false=>exact ihy _ _ _ _ _ _ _ h hr0 Fc F L Q hF hN hm hb hin.2 hnd.2 hL hn hr hx a w hs0
    cases h
  |block id c ih=>
    intro t H ms kn kr kx r h hr0 Fc F L Q hF hN hm hb hin hnd hL hn hr hx a w hs
    have h:ewC eqA P cl cl yl B N rd c t H ms kn kr (λi t H ms=>bif Nat.beq i id then kn t H ms else kx i t H ms)=some r:=h
    refine wpIn_block (ih _ _ _ _ _ _ _ h hr0 Fc F L (Exit.inBlock id Q) hF hN hm hb hin hnd hL (λF' t' H' ms' L' r h1 h2 h3 h4=>hn F' t' H' ms' L' r h1 h2 h3 h4) (λF' t' H' ms' L' r h1 h2 h3 h4=>hr F' t' H' ms' L' r h1 h2 h3 h4) ?_ a w hs)
    intro k F' t' H' ms' L' r h1 h2 h3 h4 hr0
    cases hk:Nat.beq k id with
    |true=>
      rw[hk]at h4
      have:=ae hk
      subst this
      exact PJ.blockOut (hn F' t' H' ms' L' r h1 h2 h3 h4 hr0)
    |false=>
      rw[hk]at h4
      exact PJ.blockPass (by cases hc:Nat.beq k id with|true=>rw[hc]at hk;cases hk|false=>rfl) (hx k F' t' H' ms' L' r h1 h2 h3 h4 hr0)
  |loop c ih=>
    intro t H ms kn kr kx r h hr0 Fc F L Q hF hN hm hb hin hnd hL hn hr hx a w hs
    have h:(Nat.rec (motive:=λ_=>KT α) (λ_ _ _=>none) (λ_ go t H ms=>ewC eqA P cl cl yl B N rd c t H ms go kr kx) B:KT α) t H ms=some r:=h
    refine wpIn_loop_rounds B ?_
    have key: ∀(m:Nat) (F':Fr) (t:TE) (H:a0f) (ms:List Nat) (L:LE) (r:α),Fol F F'->(Nat.rec (motive:=λ_=>KT α) (λ_ _ _=>none) (λ_ go t H ms=>ewC eqA P cl cl yl B N rd c t H ms go kr kx) m:KT α) t H ms=some r->Sb r->MOk b0 F'.D0 F'.ds ms->a0v L=t.get->
        ∀a w,Sees F' L H a w->Code.roundsIn Fc 0 P c Q m a w:=by
      intro m
      induction m with
      |zero=>intro F' t H ms L r _ h;cases h
      |succ m ihm=>
        intro F' t H ms L r hf h hr0 hm hL a w hs
        rw[roundsIn_succ]
        refine ih t H ms _ kr kx r h hr0 Fc F' L (Exit.then (Code.roundsIn Fc 0 P c Q m) Q) (hF.mono hf.grow.dd) (hf.n.trans hN) hm (aI hb hf.grow.size) hin hnd hL ?_ (λF' t' H' ms' L' r h1 h2 h3 h4=>hr.fol hf F' t' H' ms' L' r h1 h2 h3 h4) (λk F' t' H' ms' L' r h1 h2 h3 h4=>(hx k).fol hf F' t' H' ms' L' r h1 h2 h3 h4) a w hs
        intro F'' t' H' ms' L' r h1 h2 h3 h4 hr0 a' w' hs'
        exact ihm F'' t' H' ms' L' r (hf.trans h1) h4 hr0 h2 h3 a' w' hs'
    exact key B F t H ms L r (Fol.refl F) h hr0 hm hL a w hs
  |rangeFunc g ps as bd _ _=>
    intro t H ms kn kr kx r h hr0 Fc F L Q hF hN hm hb hin hnd hL hn hr hx a w hs
    have h:evG cl N rd g ps as bd t H ms kn kr kx=some r:=h
    unfold evG at h
    cases hg:Operand.inB N g with
    |false=>rw[hg]at h;cases h
    |true=>
      rw[hg]at h
      simp only[cond_true]at h
      split at h
      rename_i gf caps hv
      rw[<-hL]at hv
      subst hN
      split at h
      split at h
      rename_i v H2 hit
      obtain⟨tm,ps',as',bd',st,pd,q1,q2,q3⟩:=y0O h hr0 hL hn hr hx
      cases hF
      refine v0r hg hL hv (hcl _ _ _ _ _ hit) q1 q2 (λF' b hf hds hD hle=>q3 F' hf ?_) a w hs
      rw[hds]
      exact⟨⟨b,rfl,hD,aI hb hle⟩,hm.mono hf.grow.dd⟩
      cases h
      rename_i i
      obtain⟨l0,rfl,hD0⟩:=hF
      split at h
      rename_i tm0 ps0 as0 bd0 st0 pd0 h0
      split at h
      rename_i v H2 hit
      obtain⟨tm,ps',as',bd',st,pd,q1,q2,q3⟩:=y0O h hr0 hL hn hr hx
      refine x0E hg hL hv hD0 h0 (hcl _ _ _ _ _ hit) q1 q2 (λF' hf hds=>q3 F' hf ?_) a w hs
      rw[hds]
      exact hm.mono hf.grow.dd
      cases h
      cases h
      cases h
  |_=>intro t H ms kn kr kx r h;cases h
end
/-! Functions. -/
theorem p0w {H:a0f} {v1 v:SV} {H1 H':a0f} (h:s0m H v1 H1=some (v,H')): ∃f,Back H.length H1 f v1 v H':=by
  unfold s0m at h
  generalize k0z H1 100000 ((List.range H.length).flatMap (λi=>Ent.rl (H1.getD i .gone))++SV.rl v1) (List.range H.length)=σ at h
  simp only at h
  cases hs:n0X σ H1&&(SV.rl v1).all (λk=>q0A k σ)&&decide (σ.take H.length=List.range H.length)&&Nat.ble H.length σ.length with
  |false=>rw[hs]at h;cases h
  |true=>
    rw[hs]at h
    simp only[aa,List.all_eq_true]at hs
    obtain⟨⟨⟨s1,s2⟩,s3⟩,s4⟩:=hs
    cases h
    have hm: ∀i∈SV.rl v1,i∈σ:=λi hi=>i0e.1 (s2 i hi)
    have hk:=of_decide_eq_true s3
    refine⟨b0r σ,g0O s1,λj hj=> ?_, ?_,(o0W _ (λk hk=>l0g (hm k hk))).symm,by rw[e0C];exact o0Y _ (λk hk=>q0o (hm k hk))⟩
    have:=congrArg (λl=>l[j]?) hk
    simp only[aM,if_pos hj,bf hj]at this
    unfold b0r
    rw[ak,this];rfl
    rw[e0C];exact af s4
def LeR(F:Fr)(v:SV)(H':a0f)(x:SV×a0f):Prop:= ∀r w,Good F.w0 F.K0 F.D0 F.H0 r w x.1 x.2->Good F.w0 F.K0 F.D0 F.H0 r w v H'
theorem p0j(ts:List Nat)(t:TE) {L:LE} (hL:a0v L=t.get):(ts.map λi=>(i,t.get i))=g0q ts L:=by
  unfold g0q
  refine bk λi _=> ?_
  rw[<-hL];rfl
section
variable {P : Program} {fn : Func} {F : Fr} {v : SV} {H' : a0f} {b0 : Nat × List Deferred}
theorem B0E {x:SV×a0f} {t:TE} {L:LE} (hb0:b0.2=[])(hL:a0v L=t.get)(hn:F.n=fn.ntmps)(hres:i0G fn.ntmps fn.results.toList=true)(hdom: ∀i,F.H0.length<=i->F.D0 i=none):
    ∀(ms:List Nat) (F':Fr) (H1:a0f),s0n P fn F.H0 t H1 ms=some x->LeR F v H' x->Fol F F'->MOk b0 F'.D0 F'.ds ms-> ∀a w,Sees F' L H1 a w->LeavesInM Fence.wide 0 P fn a.tmps (A0z F v H') a.defers .returning w:=by
  intro ms
  induction ms with
  |nil=>
    intro F' H1 h hx hf hm a w hs
    have hds:F'.ds=[]:=by
      cases hds:F'.ds with
      |nil=>rfl
      |cons d ds=>have h9:=p0L hm;rw[hds,hb0]at h9;cases h9
    have h:(match r0r P fn.results.toList ((d0F fn.results.toList).map λi=>(i,t.get i)) H1 with
      |some v1=>s0m F.H0 v1 H1
      |none=>none)=some x:=h
    obtain⟨v2,H2⟩:=x
    rw[p0j _ t hL]at h
    split at h
    rename_i v1 hret
    obtain⟨f,hb⟩:=p0w h
    obtain⟨hd,K,D,hi⟩:=hs.keep (L2:=g0q (d0F fn.results.toList) L) (h0F _ _)
    rw[hd,hds]
    obtain⟨r,h1,h2⟩:=n0q (P:=P) (F:=F') hi (by rw[hf.n,hn];exact hres) hret
    exact⟨r,h1,r,rfl,hx r w (h0Z (hf.grow.trans hi.grow) hi.hinv h2 hb hdom)⟩
    cases h
  |cons i ms ih=>
    intro F' H1 h hx hf hm a w hs
    cases hds:F'.ds with
    |nil=>rw[hds]at hm;exact hm.elim
    |cons d ds=>
      rw[hds]at hm
      obtain⟨⟨b,rfl,hD,_⟩,hm⟩:=hm
      have h:(match(match H1[i]? with
        |some .dfr=>w0C ms (H1.set i .gone)
        |_=>none)with
        |some H2=>match r0r P fn.results.toList ((d0F fn.results.toList).map λi=>(i,t.get i)) H2 with
          |some v1=>s0m F.H0 v1 H2
          |none=>none
        |none=>none)=some x:=h
      obtain⟨hd,K,D,hi⟩:=hs
      rw[hd,hds]
      cases he:H1[i]? with
      |none=>rw[he]at h;cases h
      |some en=>
        rw[he]at h
        cases en with
        |dfr=>
          obtain⟨b',e1,e2,e3⟩:=hi.hinv.ent _ _ he
          have:=hi.grow.dd _ _ hD
          rw[this]at e1;cases e1
          have ht:=B0P (w':=w.putObj b (.deferred none)) (en':= .gone) hi.hinv he rfl this rfl rfl rfl (by simp) (λb' hb'=>World.putObj_heap_other hb') (λ_=>trivial) (by simp)
          refine⟨by simp, .inl ⟨b,_,rfl,run_takeDeferred e3, ?_⟩⟩
          exact ih ⟨F'.n,w.putObj b (.deferred none),K,D,H1.set i .gone,ds⟩ _ h hx ⟨hf.n,(hf.grow.trans hi.grow).trans ht.1⟩ (hm.mono hi.grow.dd) { a with defers:=ds } _ ⟨rfl,K,D,⟨hi.slots.mono λ_ _=>ht.1.rep,ht.2,Grow.refl _ _ _ _⟩⟩
        |_=>cases h
end
theorem Good.viv {w:World} {K:Nat->Nat} {D:DM} {H H1:a0f} {r:Value} {w':World} (h:Good w K D H r w' .nl H1)(k:Nat)(e:TypeId):Good w K D H r w' (.vc H1.length) (H1++ [.vec 0 k e []]):=by
  obtain⟨K',D',g,hi,hr⟩:=h
  obtain⟨g2,hi2⟩:=p0u hi k e
  refine⟨K',_,g.trans g2,hi2, ?_⟩
  cases hr
  exact .vcn _ _ (by simp[e0E])
theorem B0A {F:Fr} {v:SV} {H':a0f} :B0N (LeR F v H') eqR:=by
  intro x y r h hr
  unfold eqR at h
  split at h
  rename_i a H b H2
  cases hb:SV.eqb a b&&f0n H H2 with
  |true=>
    rw[hb]at h
    simp only[aa]at hb
    cases h
    exact⟨⟨_,rfl,hr⟩,_,rfl,by rw[<-r0a _ _ hb.1,<-i0j hb.2];exact hr⟩
  |false=>
    rw[hb]at h
    simp only[cond_false]at h
    split at h
    rename_i i
    split at h
    rename_i k e he
    cases hc:Nat.beq i H.length&&f0n (H++ [.vec 0 k e []]) H2 with
    |false=>rw[hc]at h;cases h
    |true=>
      rw[hc]at h
      simp only[aa]at hc
      cases h
      have h1:=ae hc.1
      have h2:=i0j hc.2
      subst h1;subst h2
      exact⟨⟨_,rfl,λr w hg=>hr r w (Good.viv hg k e)⟩,_,rfl,hr⟩
    cases h
    cases h
  cases h
section
variable {P : Program} {kn cl : CallT} {yl : r0m} {B : Nat}
theorem A0a(hkn:kn.Ok P)(hcl:cl.Ok P)(hyl:YOk P yl):(C0o P kn cl yl B).Ok P:=by
  intro f args H v H' h
  unfold C0o at h
  split at h
  rename_i r hr;cases h;exact hkn _ _ _ _ _ hr
  · split at h
    cases h
    · rename_i fn hf
      split at h
      cases h
      · rename_i c hb
        cases hq:C0f P f fn c&&Nat.ble args.length fn.ntmps with
        |false=>rw[hq]at h;cases h
        |true=>
          rw[hq]at h
          simp only[C0f,aa]at hq
          obtain⟨⟨⟨q1,q23⟩,q4⟩,q5⟩:=hq
          obtain⟨q2,q3⟩:=s0v c q23
          simp only[cond_true]at h
          refine⟨q1,λw K D vals hl hrep hi hG=> ?_⟩
          have hs:=v0c hl hrep hi hG (af q5)
          have hend: ∀e:Exit,e= .normal\/e= .ret->KOk (w.heap.size,[]) ⟨fn.ntmps,w,K,D,H,[]⟩ (LeR ⟨fn.ntmps,w,K,D,H,[]⟩ v H') (bodyPostM Fence.wide 0 P fn (A0z ⟨fn.ntmps,w,K,D,H,[]⟩ v H')) e (s0n P fn H):=by
            intro e he F' t' H2 ms' L' r h1 h2 h3 h4 hr0 a w' hs'
            have:=B0E (b0:=(w.heap.size,[])) (F:=⟨fn.ntmps,w,K,D,H,[]⟩) rfl h3 rfl q4 hi.dom ms' F' H2 h4 hr0 h1 h2 a w' hs'
            rcases he with rfl|rfl<;>exact this
          exact callsIn_wide.1 (callsIn_of_wp_marks (F:=Fence.wide) (n:=0) hf hb trivial
            (o0D (b0:=(w.heap.size,[])) (rd:=none) hcl hyl B0A c _ _ _ _ _ _ _ h (λ_ _ hg=>hg) Fence.wide ⟨fn.ntmps,w,K,D,H,[]⟩ (f0b 0 args) (bodyPostM Fence.wide 0 P fn (A0z ⟨fn.ntmps,w,K,D,H,[]⟩ v H')) rfl rfl rfl (ai _) q2 q3 (TE.init_env args)
              (hend _ (.inl rfl)) (hend _ (.inr rfl)) (λk F' t' H' ms' L' r h1 h2 h3 h4=>by cases h4) _ w hs))
def x0H:List Nat->List SV->LE->LE
  | [],_,L=>L
  |_::_,[],L=>L
  |p::ps,v::vs,L=>x0H ps vs ((p,v)::L)
theorem q0v: ∀(ps:List Nat) (vs:List SV) (L:LE) (t:TE),a0v L=t.get->a0v (x0H ps vs L)=(TE.pars ps vs t).get
  | [],_,L,t,h=>h
  |_::_,[],L,t,h=>h
  |p::ps,v::vs,L,t,h=>q0v ps vs _ _ (TE.put_env h (some p) v)
theorem o0r {N:Nat} {w:World} {K:Nat->Nat} {D:DM} : ∀(ps:List Nat) (vals:List Value) (args:List SV) (L:LE) (tm:Array Value),Slots N w K D (a0v L) tm->vals.length=args.length->
    (∀(j:Nat) (v:Value) (c:SV),vals[j]?=some v->args[j]?=some c->Rep w K D v c)->Slots N w K D (a0v (x0H ps args L)) ((ps.zip vals).foldl (λtmps p=>tmps.setIfInBounds p.1 p.2) tm)
  | [],vals,args,L,tm,hs,_,_=>hs
  |_::_,[],[],L,tm,hs,_,_=>hs
  |p::ps,v::vals,a::args,L,tm,hs,hl,hr=>by
    have h1:=Slots.put (a:= { tmps:=tm,defers:=[] }) hs (some p) (hr 0 v a rfl rfl)
    rw[b0e]at h1
    exact o0r ps vals args _ _ h1 (by simpa using hl) (λj x c hx hc=>hr (j+1) x c (by simpa using hx) (by simpa using hc))
  |_::_,[],_::_,_,_,_,hl,_=>by simp at hl
  |_::_,_::_,[],_,_,_,hl,_=>by simp at hl
theorem x0C {i l:Nat} {j:Option Code} {H3 H':a0f} {b:Bool} {w3:World} {K3:Nat->Nat} {D3:DM} (h:t0P i j H3=some (b,H'))(hi:HInv w3 K3 D3 H3)(hD:D3 i=some (.at l 0 0)):
    ∃w',(Instr.endRound l j).run P w3= .ok (.bool b) w'/\Grow w3 K3 D3 H3 w' K3 D3 H'/\HInv w' K3 D3 H':=by
  unfold t0P at h
  split at h
  · rename_i tm ps as bd st pd he
    cases h
    obtain⟨l',r,e1,e2,e3,e4,e5,e6,e7,e8,e9,e10⟩:=hi.ent _ _ he
    rw[hD]at e1;cases e1
    have hlt:=(ah.1 e3).1
    have hst:(bif j.isNone then LoopState.ready else .done)=if j.isNone then .ready else .done:=by cases j<;>rfl
    have ht:=B0P (w':=w3.putObj l (.loop { r with state:=if j.isNone then .ready else .done,pending:=j })) (en':= .lop tm ps as bd (bif j.isNone then .ready else .done) j) hi he rfl hD rfl rfl rfl (by simp) (λb' hb'=>World.putObj_heap_other hb')
      (λhr=>⟨l,_,hD,e2,World.putObj_heap_same hlt,e4,e5,e6,hst.symm,rfl,e9,λq v c hv hc=>hr _ _ (e10 q v c hv hc)⟩) (by simp)
    exact⟨_,run_endRound j e3,ht.1,ht.2⟩
  cases h
theorem z0Z(hcl:cl.Ok P)(hyl:YOk P yl):YOk P (C0n P cl yl B):=by
  intro i args H b H' h Fc hW hW2 w K D vals hvl hvr hinv hG
  unfold C0n at h
  split at h
  · rename_i tm ps as bd st pd he
    obtain⟨l,r,e1,e2,e3,e4,e5,e6,e7,e8,e9,e10⟩:=hinv.ent _ _ he
    cases hq:p0s st&&Nat.beq args.length ps.length&&C0s as bd tm.length with
    |false=>rw[hq]at h;cases h
    |true=>
      rw[hq]at h
      simp only[aa]at hq
      obtain⟨⟨q0,q1⟩,q23⟩:=hq
      obtain⟨⟨q2,q4⟩,q3,q5⟩:=A0v q23
      simp only[cond_true]at h
      have hlen:vals.length=ps.length:=hvl.trans (ae q1)
      refine⟨l,e1,r.fn,_,r.assign,r.body,run_yield e3 (by rw[e4];simpa using hlen),roundIn_of_wpIn (hW.fn _) ?_⟩
      rw[hW2 l,e5,e6]
      have hsl0:Slots tm.length w K D (a0v (f0b 0 tm)) r.tmps:=by
        refine⟨e9,λq hq'=> ?_,hG⟩
        show Rep w K D _ (lk (f0b 0 tm) q)
        rw[k0b,if_pos (bg _),bC,ac hq',ba]
        rw[aT,aN (by rw[e9];exact hq')]
        exact e10 q _ _ (aN (by rw[e9];exact hq')) (ac hq')
      have hsl:=o0r ps vals args _ _ hsl0 hvl hvr
      have hfold:(r.params.zip vals.toArray).foldl (λtmps (t,a)=>tmps.setIfInBounds t a) r.tmps=(ps.zip vals).foldl (λtmps p=>tmps.setIfInBounds p.1 p.2) r.tmps:=by
        rw[e4]
        simp
      rw[hfold]
      refine o0D (b0:=(0,[])) (rd:=some i) (Sb:=λx=>x=(b,H')) hcl hyl y0Q as _ _ _ _ _ _ _ h rfl (Fence.wide.inRound l) ⟨tm.length,w,K,D,H,[]⟩ (x0H ps args (f0b 0 tm)) _ ⟨l,rfl,e1⟩ rfl rfl (bg _) q2 q4 (q0v ps args _ _ (TE.init_env tm)) ?_
        (λF' t' H' ms' L' r h1 h2 h3 h4=>by cases h4) (λk F' t' H' ms' L' r h1 h2 h3 h4=>by cases h4) _ w ⟨rfl,K,D,⟨hsl,hinv,Grow.refl _ _ _ _⟩⟩
      intro F1 t1 H1 ms1 L1 r1' h1 h2 h3 h4 hr1' a1 w1 hs1
      subst hr1'
      obtain⟨hd1,K1,D1,hi1⟩:=hs1
      have hDi1:D1 i=some (.at l 0 0):=hi1.grow.dd _ _ (h1.grow.dd _ _ e1)
      simp only at h4
      split at h4
      · rename_i tm1 ps1 as1 bd1 st1 pd1 he1
        cases hr1:p0s st1 with
        |false=>rw[hr1]at h4;cases h4
        |true=>
          rw[hr1]at h4
          simp only[cond_true]at h4
          obtain⟨l',r1,d1,d2,d3,d4,d5,d6,d7,d8,d9,d10⟩:=hi1.hinv.ent _ _ he1
          rw[hDi1]at d1;cases d1
          have hst1:r1.state= .ready:=by rw[d7];cases st1<;>first|rfl|cases hr1
          have hlt:=(ah.1 d3).1
          have ht:=B0P (w':=w1.putObj l (.loop { r1 with state:= .busy })) (en':= .lop tm1 ps1 as1 bd1 .busy pd1) hi1.hinv he1 rfl hDi1 rfl rfl rfl (by simp) (λb' hb'=>World.putObj_heap_other hb')
            (λhr=>⟨l,_,hDi1,d2,World.putObj_heap_same hlt,d4,d5,d6,rfl,d8,d9,λq v c hv hc=>hr _ _ (d10 q v c hv hc)⟩) (by simp)
          refine⟨_,run_beginRound d3 hst1, ?_⟩
          have hend: ∀(j:Option Code) (e:Exit),(∀(R:Ending->World->Prop) (a:Act) (w:World),(∃v w',(Instr.endRound l j).run P w= .ok v w'/\R (.returned v) w')->roundPost P l R e a w)->
              KOk (0,[]) ⟨tm.length,w1.putObj l (.loop { r1 with state:= .busy }),K1,D1,H1.set i (.lop tm1 ps1 as1 bd1 .busy pd1),F1.ds⟩ (λx=>x=(b,H')) (roundPost P l λe w'=>e= .returned (.bool b)/\ ∃K' D',Grow w K D H w' K' D' H'/\HInv w' K' D' H') e (λ_ H2 _=>t0P i j H2):=by
            intro j e hpost F3 t3 H3 ms3 L3 r3 g1 g2 g3 g4 hr3 a3 w3 hs3
            subst hr3
            obtain⟨hd3,K3,D3,hi3⟩:=hs3
            obtain⟨w',hrun,gr,hiv⟩:=x0C (P:=P) g4 hi3.hinv (hi3.grow.dd _ _ (g1.grow.dd _ _ hDi1))
            refine hpost _ _ _ ⟨_,w',hrun,rfl,K3,D3, ?_,hiv⟩
            exact((((h1.grow.trans hi1.grow).trans ht.1).trans g1.grow).trans hi3.grow).trans gr
          exact o0D (b0:=(0,[])) (rd:=some i) (Sb:=λx=>x=(b,H')) hcl hyl y0Q bd _ _ _ _ _ _ _ h4 rfl (Fence.wide.inRound l) ⟨tm.length,w1.putObj l (.loop { r1 with state:= .busy }),K1,D1,H1.set i (.lop tm1 ps1 as1 bd1 .busy pd1),F1.ds⟩ L1 _ ⟨l,rfl,hDi1⟩ rfl (h2.mono hi1.grow.dd) (bg _) q3 q5 h3
            (hend none .normal (λR a w h=>h)) (hend (some .ret) .ret (λR a w h=>h)) (λk=>hend (some (.exit k)) (.exit k) (λR a w h=>h)) a1 _
            ⟨hd1,K1,D1,⟨by have:=hi1.slots.mono λ_ _=>ht.1.rep;rw[h1.n]at this;exact this,ht.2,Grow.refl _ _ _ _⟩⟩
      cases h4
  cases h
theorem B0K {fs:List Nat} (h:cl.Ok P):(blk fs cl).Ok P:=by
  intro f args H v H' hh
  unfold blk at hh
  cases hb:q0A f fs&& !((SV.rlL args).isEmpty)with
  |true=>rw[hb]at hh;cases hh
  |false=>rw[hb]at hh;exact h _ _ _ _ _ hh
theorem w0r {fz:List Nat} (hkn:kn.Ok P): ∀n,(evA P kn fz B n).1.Ok P/\YOk P (evA P kn fz B n).2:=by
  intro n
  induction n with
  |zero=>
    refine⟨?_, ?_⟩
    intro f args H v H' h
    have h:(none:Option (SV×a0f))=some (v,H'):=h
    cases h
    intro i args H b H' h
    have h:(none:Option (Bool×a0f))=some (b,H'):=h
    cases h
  |succ n ih=>exact⟨B0K (A0a hkn ih.1 ih.2),z0Z ih.1 ih.2⟩
end
end
section
variable [Inhabited GT]
def C0J(ρ:Env)(o:Oper):Option (FuncId×List SV):=match o.op,o.guard,o.dst with
  | .defer c,none,none=>match c.callee with
    | .value f=>match a0F ρ f,c.args.toList with
      |some (.fn (.func f) first captured),[]=>some (f,first++captured)
      |_,_=>none
    |_=>none
  |_,_,_=>none
def C0M(c:Code):Option (Nat×Nat):=match(h0g (cl c)).toList with
  | [o,o']=>match o.dst,o'.dst with
    |some a,some b=>some (a,b)
    |_,_=>none
  |_=>none
def B0Q {α:Type} (_ _:Option α):Option α:=none
theorem r0R {α:Type} {Sb:α->Prop} :B0N Sb (B0Q (α:=α)):=λ_ _ _ h=>by cases h
noncomputable def sdT(P:Program)(cl':CallT)(yl:r0m)(B:Nat)(g:FuncId)(args:List SV)(H:a0f):Option a0f:=match P.funcs[g]? with
  |some fn=>match fn.body with
    |some c=>match C0M c with
      |some (t4,t5)=>bif b0P P g&&b0E fn.ntmps c&&e0A (cr c)&&Nat.ble args.length fn.ntmps&&v0p P c t4 t5&&(Nat.blt t4 fn.ntmps&&Nat.blt t5 fn.ntmps)&&i0G fn.ntmps fn.results.toList then
          match ewC B0Q P cl' cl' yl B fn.ntmps none (cr c) (((TE.init 0 args .e).set .undef t4).set (.bool false) t5) H [] (λt H1 ms=>match ms with| []=>s0n P fn H t H1 []|_=>none) (λt H1 ms=>match ms with| []=>s0n P fn H t H1 []|_=>none) (λ_ _ _ _=>none)with
          |some (.tup [],H')=>some H'
          |_=>none
        else none
      |none=>none
    |none=>none
  |none=>none
noncomputable def A0r(P:Program)(cl':CallT)(yl:r0m)(B:Nat)(fn:Func)(H:a0f)(g:FuncId)(dargs:List SV)(t3:TE)(H3:a0f):Option (SV×a0f):=
  (fun σ=>bif n0X σ H3&&(SV.rlL dargs).all (λk=>q0A k σ)&&(m0V σ H3).all f0z then
    match sdT P cl' yl B g (SV.rnL (u0v σ) dargs) (m0V σ H3)with
    |some H0'=>bif Nat.ble σ.length H0'.length then match r0r P fn.results.toList ((d0F fn.results.toList).map λi=>(i,t3.get i)) (d0q (b0r σ) σ.length H3 H0')with
      |some v1=>s0m H v1 (d0q (b0r σ) σ.length H3 H0')
      |none=>none
      else none
    |none=>none
  else none) (k0z H3 100000 (SV.rlL dargs) [])
noncomputable def dfT(P:Program)(cl':CallT)(yl:r0m)(B:Nat):CallT:=λf args H=>match P.funcs[f]? with
  |some fn=>match fn.body with
    |some (.seq A (.seq (.region id ops false) rest))=>bif b0P P f&&b0E fn.ntmps (.seq A (.seq (.region id ops false) rest))&&e0A A&&e0A rest&&i0G fn.ntmps fn.results.toList&&Nat.ble args.length fn.ntmps then
        ewC B0Q P cl' cl' yl B fn.ntmps none A (TE.init 0 args .e) H [] (λt H1 ms=>match ms,ops.toList with
          | [],[o1,o2]=>match b0i ops t.get o1,b0T o1,a0E P o1 t.get H1 H1.length with
            |some true,false,some ef=>match C0J (t.put o1.dst ef.v).get o2 with
              |some (g,dargs)=>ewC B0Q P cl' cl' yl B fn.ntmps none rest (t.put o1.dst ef.v) (b0t H1 ef.wr) [] (λ_ _ _=>none) (λt3 H3 ms3=>match ms3 with| []=>A0r P cl' yl B fn H g dargs t3 H3|_=>none) (λ_ _ _ _=>none)
              |none=>none
            |_,_,_=>none
          |_,_=>none) (λ_ _ _=>none) (λ_ _ _ _=>none)
      else none
    |_=>none
  |none=>none
section
variable {P : Program} {cl' : CallT} {yl : r0m} {B : Nat}
theorem A0g {fn:Func} {F F':Fr} {v:SV} {H1 H':a0f} {t:TE} {L:LE} (hL:a0v L=t.get)(hn:F.n=fn.ntmps)(hres:i0G fn.ntmps fn.results.toList=true)(hdom: ∀i,F.H0.length<=i->F.D0 i=none)
    (h:s0n P fn F.H0 t H1 []=some (v,H')) (hf:Fol F F') {a:Act} {w:World} (hs:Sees F' L H1 a w): ∃r,(results fn a.tmps).run P w= .ok r w/\Good F.w0 F.K0 F.D0 F.H0 r w v H':=by
  have h:(match r0r P fn.results.toList ((d0F fn.results.toList).map λi=>(i,t.get i)) H1 with
    |some v1=>s0m F.H0 v1 H1
    |none=>none)=some (v,H'):=h
  rw[p0j _ t hL]at h
  split at h
  rename_i v1 hret
  obtain⟨f,hb⟩:=p0w h
  obtain⟨hd,K,D,hi⟩:=hs.keep (L2:=g0q (d0F fn.results.toList) L) (h0F _ _)
  obtain⟨r,h1,h2⟩:=n0q (P:=P) (F:=F') hi (by rw[hf.n,hn];exact hres) hret
  exact⟨r,h1,h0Z (hf.grow.trans hi.grow) hi.hinv h2 hb hdom⟩
  cases h
theorem A0M(hcl:cl'.Ok P)(hyl:YOk P yl) {g:FuncId} {args:List SV} {H H':a0f} (h:sdT P cl' yl B g args H=some H'):SD P g false args H H':=by
  unfold sdT at h
  split at h
  · rename_i fn hf
    split at h
    · rename_i c hb
      split at h
      · rename_i t4 t5 _
        cases hq:b0P P g&&b0E fn.ntmps c&&e0A (cr c)&&Nat.ble args.length fn.ntmps&&v0p P c t4 t5&&(Nat.blt t4 fn.ntmps&&Nat.blt t5 fn.ntmps)&&i0G fn.ntmps fn.results.toList with
        |false=>rw[hq]at h;cases h
        |true=>
          rw[hq]at h
          simp only[aa]at hq
          obtain⟨⟨⟨⟨⟨⟨q1,q2⟩,q3⟩,q4⟩,q5⟩,q6⟩,q7⟩:=hq
          simp only[cond_true]at h
          split at h
          · rename_i H2 he
            cases h
            have hbc:f0A fn=c:=by unfold f0A;rw[hb];rfl
            refine K.fnC false t4 t5 hf (by rw[hb];rfl) q1 (by rw[hbc];exact q2) q4 (by rw[hbc];exact q5) (by rw[aa];exact q6) (λF hn hH hdom=> ?_)
            rw[hbc]
            intro hin a w hs
            have henv:a0v ((t5, .bool false)::(t4, .undef)::f0b 0 args)=(((TE.init 0 args .e).set .undef t4).set (.bool false) t5).get:=
              TE.put_env (TE.put_env (TE.init_env args) (some t4) .undef) (some t5) (.bool false)
            refine wpIn_wide.1 (o0D (b0:=(0,F.ds)) (rd:=none) (Sb:=λx=>x=(.tup [],H')) hcl hyl r0R _ _ _ _ _ _ _ _ he rfl Fence.wide F _ _ rfl hn (MOk.of_nil rfl) (bg _) (by rw[<-hn];exact hin) q3 henv ?_ ?_ (λk F' t' H' ms' L' r h1 h2 h3 h4=>by cases h4) a w hs)
            all_goals
              intro F' t' H' ms' L' r h1 h2 h3 h4 hr a w hs
              subst hr
              cases ms' with
              |cons i ms=>cases h4
              |nil=>
                have hds:=p0L h2
                obtain⟨r,e1,e2⟩:=A0g (F:=F) h3 hn q7 hdom (by rw[hH];exact h4) h1 hs
                exact⟨by first|exact .inl rfl|exact .inr rfl,by rw[hs.1];exact hds,r,e1,e2⟩
          cases h
      cases h
    cases h
  cases h
theorem A0s {ops:Array Oper} {p:Nat} {L:LE} {o:Oper} {r:FuncId×List SV} (ho:ops.toList[p]?=some o)(h:C0J (a0v L) o=some r):y0h ops p L=some r:=by
  unfold y0h
  rw[ho]
  exact h
theorem B0F(hcl:cl'.Ok P)(hyl:YOk P yl):(dfT P cl' yl B).Ok P:=by
  intro f args H v H' h
  unfold dfT at h
  split at h
  · rename_i fn hf
    split at h
    · rename_i A id ops rest hb
      cases hq:b0P P f&&b0E fn.ntmps (.seq A (.seq (.region id ops false) rest))&&e0A A&&e0A rest&&i0G fn.ntmps fn.results.toList&&Nat.ble args.length fn.ntmps with
      |false=>rw[hq]at h;cases h
      |true=>
        rw[hq]at h
        simp only[aa]at hq
        obtain⟨⟨⟨⟨⟨q1,q2⟩,q3⟩,q4⟩,q5⟩,q6⟩:=hq
        simp only[cond_true]at h
        have hbc:f0A fn= .seq A (.seq (.region id ops false) rest):=by unfold f0A;rw[hb];rfl
        refine K.fnD hf (by rw[hb];rfl) q1 (by rw[hbc];exact q2) q6 (λF hn hH hdom hds=> ?_)
        rw[hbc]
        have q2':=q2
        simp only[b0E,aa]at q2'
        obtain⟨qa,qo,qr⟩:=q2'
        refine J.seq (λhin a w hs=> ?_)
        refine wpIn_wide.1 (o0D (b0:=(0,[])) (rd:=none) (Sb:=λx=>x=(v,H')) hcl hyl r0R A _ _ _ _ _ _ _ h rfl Fence.wide F _ (i0X F P (.seq (.region id ops false) rest) (t0K P fn F v H')) rfl hn (MOk.of_nil hds) (bg _) qa q3 (TE.init_env args) ?_ (λF' t' H' ms' L' r h1 h2 h3 h4=>by cases h4) (λk F' t' H' ms' L' r h1 h2 h3 h4=>by cases h4) a w hs)
        intro F' t H1 ms L1 r h1 h2 h3 h4 hr
        subst hr
        simp only at h4
        split at h4
        · rename_i o1 o2 hops
          split at h4
          · rename_i ef hg hc he
            split at h4
            · rename_i g dargs hdf
              have hds':=p0L h2
              refine PJ.nextF h1.n (J.seq (J.region ?_))
              have ho1:ops.toList[0]?=some o1:=by rw[hops];rfl
              have ho2:ops.toList[1]?=some o2:=by rw[hops];rfl
              refine RJ.step ho1 (by rw[h3];exact hg) hc (by rw[h3];exact he) rfl ?_
              have hL2:=TE.put_env h3 o1.dst ef.v
              refine RJ.defer (A0s ho2 (by rw[hL2];exact hdf)) hds' (λw1 K1 D1 d hd hgr hdm=> ?_)
              refine RJ.done (by have:=congrArg List.length hops;simp at this;omega) (PJ.nextF rfl ?_)
              intro hin2 a2 w2 hs2
              refine wpIn_wide.1 (o0D (b0:=(0,[d])) (rd:=none) (Sb:=λx=>x=(v,H')) hcl hyl r0R rest _ _ _ _ _ _ _ h4 rfl Fence.wide ⟨F'.n,w1,K1,D1,b0t H1 ef.wr,[d]⟩ _ (t0K P fn F v H') rfl (h1.n.trans hn) (MOk.of_nil rfl) (bg _) qr q4 hL2 (λF' t' H' ms' L' r h1 h2 h3 h4=>by cases h4) ?_ (λk F' t' H' ms' L' r h1 h2 h3 h4=>by cases h4) a2 w2 hs2)
              intro F3 t3 H3 ms3 L3 r g1 g2 g3 g4 hr3 a3 w3 hs3
              subst hr3
              cases ms3 with
              |cons i ms=>cases g4
              |nil=>
                have g4:A0r P cl' yl B fn H g dargs t3 H3=some (v,H'):=g4
                unfold A0r at g4
                generalize k0z H3 100000 (SV.rlL dargs) []=σ at g4
                simp only at g4
                cases hc2:n0X σ H3&&(SV.rlL dargs).all (λk=>q0A k σ)&&(m0V σ H3).all f0z with
                |false=>rw[hc2]at g4;cases g4
                |true=>
                  rw[hc2]at g4
                  simp only[aa,List.all_eq_true]at hc2
                  obtain⟨⟨c1,c2⟩,c3⟩:=hc2
                  simp only[cond_true]at g4
                  split at g4
                  rename_i H0' hsd
                  cases hle:Nat.ble σ.length H0'.length with
                  |false=>rw[hle]at g4;cases g4
                  |true=>
                    rw[hle]at g4
                    simp only[cond_true]at g4
                    rw[p0j _ t3 g3]at g4
                    split at g4
                    rename_i v1 hret
                    rw[<-hH]at g4
                    obtain⟨ff,hback⟩:=p0w g4
                    have hm: ∀i∈SV.rlL dargs,i∈σ:=λi hi=>i0e.1 (c2 i hi)
                    have hfr:=SD.frame (A0M hcl hyl hsd) (g0O c1) c3 (by rw[e0C];exact f0T _ (λk hk=>q0o (hm k hk))) (by rw[e0C];exact af hle)
                    rw[f0S _ (λk hk=>l0g (hm k hk)),e0C]at hfr
                    have hds3:F3.ds=[d]:=p0L g2
                    obtain⟨fv,caps,vals,ht,hinv,hvl,hvr⟩:=hd
                    obtain⟨hd3,K3,D3,hi3⟩:=hs3.keep (L2:=g0q (d0F fn.results.toList) L3) (h0F _ _)
                    have hgrow:Grow F.w0 F.K0 F.D0 F.H0 F3.w0 F3.K0 F3.D0 F3.H0:=(h1.grow.trans hgr).trans g1.grow
                    refine⟨.returning,rfl, ?_⟩
                    rw[hd3,hds3]
                    refine⟨(by exact λe=>nomatch e),fv,caps,g,vals.toArray,ht,hinv hfr.1 w3, ?_⟩
                    refine(hfr.2 w3 K3 D3 vals .returning hvl (λj x y hx hy=>hi3.grow.rep (g1.grow.rep (hvr j x y hx hy))) hi3.hinv hi3.slots.glob rfl).mono ?_
                    rintro e u' w' ⟨r,rfl,hst,K',D',gr,hi',_⟩
                    simp only
                    rw[hst]
                    have hi2:Inv F3 w' K' D' _ (a0v (g0q (d0F fn.results.toList) L3)) a3.tmps:=⟨hi3.slots.mono λ_ _=>gr.rep,hi',hi3.grow.trans gr⟩
                    obtain⟨r2,e1,e2⟩:=n0q (P:=P) (fn:=fn) hi2 (by rw[g1.n,h1.n,hn];exact q5) hret
                    exact⟨r2,e1,r2,rfl,h0Z (hgrow.trans (hi3.grow.trans gr)) hi' e2 hback hdom⟩
                    cases g4
                  cases g4
            cases h4
          cases h4
        cases h4
    cases h
  cases h
end
end
section
variable [Inhabited GT]
noncomputable def knE(f0:Nat)(A:List SV)(H0:a0f)(v:SV)(H1:a0f)(k:CallT):CallT:=λf args H=>bif Nat.beq f f0 then(bif SV.eqbL args A&&f0n H H0 then some (v,H1)else k f args H)else k f args H
theorem l0u {P:Program} {f0:Nat} {A:List SV} {H0:a0f} {v:SV} {H1:a0f} {k:CallT} (h:SC P f0 A H0 v H1)(hk:k.Ok P):(knE f0 A H0 v H1 k).Ok P:=by
  intro f args H v' H' hh
  unfold knE at hh
  cases hf:Nat.beq f f0 with
  |false=>rw[hf]at hh;exact hk _ _ _ _ _ hh
  |true=>
    rw[hf]at hh
    simp only[cond_true]at hh
    cases hq:SV.eqbL args A&&f0n H H0 with
    |false=>rw[hq]at hh;exact hk _ _ _ _ _ hh
    |true=>
      rw[hq]at hh
      simp only[aa]at hq
      obtain⟨rfl,rfl⟩:=Prod.mk.inj (au hh)
      rw[ae hf,j0L _ _ hq.1,i0j hq.2]
      exact h
def isR(x:Option (SV×a0f))(v:SV)(H1:a0f):Bool:=match x with
  |some (a,H)=>SV.eqb a v&&f0n H H1
  |none=>false
theorem B0s {x:Option (SV×a0f)} {v:SV} {H1:a0f} (h:isR x v H1=true):x=some (v,H1):=by
  unfold isR at h
  split at h
  rw[aa]at h
  rw[r0a _ _ h.1,i0j h.2]
  cases h
theorem B0y {P:Program} {kn:CallT} {fz:List Nat} {B n f:Nat} {A:List SV} {H0:a0f} {v:SV} {H1:a0f} (hk:kn.Ok P)(h:isR ((evA P kn fz B n).1 f A H0) v H1=true):SC P f A H0 v H1:=
  (w0r hk n).1 _ _ _ _ _ (B0s h)
noncomputable def knD(P:Program)(fz fs:List Nat)(B n:Nat)(k:CallT):CallT:=λf args H=>List.rec (motive:=λ_=>Option (SV×a0f)) (k f args H) (λg _ ih=>bif Nat.beq f g then dfT P (evA P k fz B n).1 (evA P k fz B n).2 B f args H else ih) fs
theorem B0q {P:Program} {fz fs:List Nat} {B n:Nat} {k:CallT} (hk:k.Ok P):(knD P fz fs B n k).Ok P:=by
  intro f args H v H' h
  induction fs with
  |nil=>exact hk _ _ _ _ _ h
  |cons g r ih=>
    have h:(bif Nat.beq f g then dfT P (evA P k fz B n).1 (evA P k fz B n).2 B f args H else knD P fz r B n k f args H)=some (v,H'):=h
    cases hf:Nat.beq f g with
    |true=>rw[hf]at h;exact B0F (w0r hk n).1 (w0r hk n).2 _ _ _ _ _ h
    |false=>rw[hf]at h;exact ih h
end
section
variable [Inhabited GT]
/-! Natives read from shadow values. -/
noncomputable def gN(cs:List SV):Nat->SV:=List.rec (motive:=λ_=>Nat->SV) (λ_=> .undef) (λa _ ih i=>Nat.rec (motive:=λ_=>SV) a (λj _=>ih j) i) cs
def gI:SV->Int
  | .int _ n=>n
  |_=>0
def gB:SV->Bool
  | .bool b=>b
  |_=>false
def gS:SV->List UInt8
  | .str s=>s
  |_=> []
def gA {T:Type} (d:List SV->T):SV->T
  | .agg cs=>d cs
  |_=>d []
def gI1(cs:List SV):Int:=match cs with
  |a::_=>gI a
  | []=>0
noncomputable def gLn {T:Type} (d:List SV->T)(k:Nat)(n:Nat):List SV->List T:=Nat.rec (motive:=λ_=>List SV->List T) (λ_=> []) (λ_ ih cs=>d (cs.take k)::ih (cs.drop k)) n
noncomputable def gL {T:Type} (d:List SV->T)(k:Nat):SV->List T
  | .lst n _ cs=>gLn d k n cs
  |_=> []
/-! A shadow value that says less, told. -/
def B0T(a b:SV):Bool:=match a,b with
  | .nl, .lst 0 _ []=>true
  |_, .undef=>true
  |_,_=>SV.eqb a b
def B0S:List SV->List SV->Bool
  | [],[]=>true
  |a::l,b::m=>B0T a b&&B0S l m
  |_,_=>false
def C0j(a b:SV):Bool:=match a,b with
  | .agg l, .agg m=>B0S l m
  |_,_=>B0T a b
def r0t:List SV->List SV->Bool
  | [],[]=>true
  |a::l,b::m=>C0j a b&&r0t l m
  |_,_=>false
theorem v0X {a b:SV} (h:B0T a b=true):Le a b:=by
  unfold B0T at h;split at h
  exact Le.nl _
  exact Le.undef _
  rw[r0a _ _ h];exact Le.refl _
theorem v0W: ∀ {l m:List SV},B0S l m=true->LeL l m
  | [],[],_=> .nil
  |a::l,b::m,h=>by simp only[B0S,aa]at h;exact .cons (v0X h.1) (v0W h.2)
  | [],_::_,h=>by cases h
  |_::_,[],h=>by cases h
theorem z0O {a b:SV} (h:C0j a b=true):Le a b:=by
  unfold C0j at h;split at h
  exact Le.agg (v0W h)
  exact v0X h
theorem f0m: ∀ {l m:List SV},r0t l m=true->LeL l m
  | [],[],_=> .nil
  |a::l,b::m,h=>by simp only[r0t,aa]at h;exact .cons (z0O h.1) (f0m h.2)
  | [],_::_,h=>by cases h
  |_::_,[],h=>by cases h
def u0u(P:Program)(f:FuncId)(k:List SV->Option SV):Prop:= ∀l v,k l=some v->SC P f l [] v []
theorem u0n {α:Type} {c:Bool} {x:Option α} {r:α} (h:(bif c then x else none)=some r):c=true/\x=some r:=by
  cases c with
  |true=>exact⟨rfl,h⟩
  |false=>cases h
theorem u0o {α:Type} {c:Bool} {x y:Option α} {r:α} (h:(bif c then x else y)=some r):(c=true/\x=some r)\/y=some r:=by
  cases c with
  |true=>exact .inl ⟨rfl,h⟩
  |false=>exact .inr h
theorem s0R {α β:Type} {f:α->Option β} {x:Option α} {r:β} (h:(Option.rec (motive:=λ_=>Option β) none f x)=some r): ∃a,x=some a/\f a=some r:=by
  cases x with
  |none=>cases h
  |some a=>exact⟨a,rfl,h⟩
end
section
variable [Inhabited GT]
section
variable {T S O : Type} {step : S -> Option (S ⊕ O)}
theorem x0Q(xs:List T)(st:List T->S)(I:List T->Prop)(post:O->Prop) {s0:S} (h0:s0=st [])(hI:I [])
    (hs: ∀pre x suf,xs=pre++x::suf->I pre->(step (st pre)=some (.inl (st (pre++ [x])))/\I (pre++ [x]))\/ ∃o,step (st pre)=some (.inr o)/\post o)
    (he:I xs-> ∃o,step (st xs)=some (.inr o)/\post o) (hl:xs.length<18446744073709551616):
    ∃o,a0x step big s0=some o/\post o:=by
  have key: ∀(suf pre:List T) (n:Nat),xs=pre++suf->I pre->suf.length<n-> ∃o,a0x step n (st pre)=some o/\post o:=by
    intro suf
    induction suf with
    |nil=>
      intro pre n hx hi hn
      obtain⟨m,rfl⟩: ∃m,n=m+1:=⟨n-1,by simp at hn;omega⟩
      rw[bF]at hx;subst hx
      obtain⟨o,h1,h2⟩:=he hi
      exact⟨o,h0N h1,h2⟩
    |cons x suf ih=>
      intro pre n hx hi hn
      obtain⟨m,rfl⟩: ∃m,n=m+1:=⟨n-1,by simp at hn;omega⟩
      rcases hs pre x suf hx hi with⟨h1,h2⟩|⟨o,h1,h2⟩
      rw[f0N h1]
      exact ih (pre++ [x]) m (by rw[hx];simp) h2 (by simp at hn;omega)
      exact⟨o,h0N h1,h2⟩
  subst h0
  exact key xs [] big rfl hI hl
theorem n0x(xs:List T)(st:List T->S)(fin:O) {s0:S} (h0:s0=st [])
    (hs: ∀pre x suf,xs=pre++x::suf->step (st pre)=some (.inl (st (pre++ [x])))) (he:step (st xs)=some (.inr fin)) (hl:xs.length<18446744073709551616):
    a0x step big s0=some fin:=by
  obtain⟨o,h1,h2⟩:=x0Q (step:=step) xs st (λ_=>True) (λo=>o=fin) h0 trivial (λpre x suf h _=> .inl ⟨hs pre x suf h,trivial⟩) (λ_=>⟨fin,he,rfl⟩) hl
  rw[h1,h2]
theorem t0Z(n:Nat)(st:Nat->S)(I:Nat->Prop)(post:O->Prop) {s0:S} (h0:s0=st 0)(hI:I 0)
    (hs: ∀i,i<n->I i->(step (st i)=some (.inl (st (i+1)))/\I (i+1))\/ ∃o,step (st i)=some (.inr o)/\post o)
    (he:I n-> ∃o,step (st n)=some (.inr o)/\post o) (hl:n<18446744073709551616):
    ∃o,a0x step big s0=some o/\post o:=by
  have key: ∀(k i m:Nat),i+k=n->I i->k<m-> ∃o,a0x step m (st i)=some o/\post o:=by
    intro k
    induction k with
    |zero=>
      intro i m hx hi hn
      obtain⟨m,rfl⟩: ∃q,m=q+1:=⟨m-1,by omega⟩
      obtain rfl:i=n:=by omega
      obtain⟨o,h1,h2⟩:=he hi
      exact⟨o,h0N h1,h2⟩
    |succ k ih=>
      intro i m hx hi hn
      obtain⟨m,rfl⟩: ∃q,m=q+1:=⟨m-1,by omega⟩
      rcases hs i (by omega) hi with⟨h1,h2⟩|⟨o,h1,h2⟩
      rw[f0N h1]
      exact ih (i+1) m (by omega) h2 (by omega)
      exact⟨o,h0N h1,h2⟩
  subst h0
  exact key n 0 big (by omega) hI hl
end
section
variable {T : Type} [Inhabited T]
theorem r0Q {pre suf:List T} {x:T} :nth (pre++x::suf) (pre.length:Int)=x:=by
  rw[p0i (by simp)];simp
theorem s0b {T:Type} {pre suf:List T} {x:T} :inR (pre.length:Int) (pre++x::suf).length=true:=s0a (by simp)
theorem v0I {T:Type} {pre suf:List T} {x:T} :decide ((pre.length:Int)<((pre++x::suf).length:Int))=true:=dT (by simp;omega)
theorem t0a {T:Type} {xs:List T} :decide ((xs.length:Int)<(xs.length:Int))=false:=dF (by omega)
theorem z0g {T:Type} {pre suf:List T} {x:T} (h:(pre++x::suf).length<=4611686018427387904):IntKind.wrap .i64 ((pre.length:Int)+1)=((pre++ [x]).length:Int):=by
  simp at h⊢
  exact w64 (by omega) (by omega)
end
/-! Bytes as numbers. -/
end
end Go.Sy
