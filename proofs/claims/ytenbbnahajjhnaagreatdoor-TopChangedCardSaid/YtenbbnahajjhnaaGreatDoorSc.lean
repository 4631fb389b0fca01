import Derived.Recover
import Derived.LaidEql
import Derived.RangeFuncLeaves
import Derived.RangeFuncCalls
import Derived.OrdersIn
import Derived.LoopNIn
import Derived.RangeFuncNested
import Derived.Test.YtenbbnahajjhnaaGreatDoorSb
set_option linter.all false
namespace Go.Sy
open Go Go.RowKit
open _root_.Array renaming getD->yF,replicate->vD
open Go.Code renaming wp_mono->jI
open Go.Exit renaming inBlock->vF
open Go.Instr renaming sliceAt->oG,sliceBounds->wE
open Go.IntKind renaming bits->jG,signed->qF,wrap->jA
open _root_.List renaming all_eq_true->qD,range->wC,range'->vG,replicate->wD
open _root_.Nat renaming beq->jC,ble->oC,blt->jE
open Go.Op renaming equalIn->zH,operands->qB
open _root_.Option renaming bind->zA,some->qA
open _root_.Prod renaming fst->yE,snd->jJ
open Go.Region renaming binds->oD,lexB->qG,lexFrom->oI,ready->vE,wanted->wG
open Go.Result renaming andThen_ok->yC
open Go.Sem renaming run_bind->zD,run_pure->qE
open _root_.Sum renaming elim->yD
open _root_.UInt8 renaming ofNat->zG,toNat->wJ
open Go.World renaming putObj_heap_other->yH
open _root_.Decidable renaming decide->vA
open _root_.Bool renaming false->oA,true->yA
variable {P:Program} {args0 args args' cs caps tm:List SV} {H0 H0' H' H2 H1:a0e} {f:FuncId} {i base k n q m gf:Nat} {S X O R A B α V T:Type} {L2:LE} {d rd:Option Nat} {v v1 v2 v0 sv s:SV} {w w':World} {D D':DM} {vals:List Value} {F1 F:Fr} {a:Act} {o o0:Oper} {tr2:List (List Nat×List Nat)} {e:Exit} {ops:Array Oper} {listed:Array Bool} {j:Int} {ρ:Env} {b c:Bool} {es:List (SV×SV)} {kd:IntKind} {ef:Eff} {σ l:List Nat} {as bd:Code} {Fc:Fence} {Q:e0G} {b0:Nat×List Deferred} {ds:List Deferred} {ps:Array Nat} {st:LoopState} {pd:Option Code}
section
variable [Inhabited GT]
def Pan(ch:List PanicEntry):Prop:= ∃t v,ch=[{ v:= .iface t v,recovered:=oA }]
def SP(P:Program)(f:FuncId)(args:List SV)(H:a0e)(H':a0e):Prop:=
  b0J P f=yA/\
  ∀(w:World) (K:Nat->Nat) (D:DM) (vals:List Value),vals.length=args.length->(∀(j:Nat) (x:Value) (c:SV),vals[j]?=qA x->args[j]?=qA c->Rep w K D x c)->HInv w K D H->k0j w K D->
    Calls P f vals.toArray w λe w'=> ∃ch,e= .panicked ch/\Pan ch/\Good w K D H (.bool yA) w' .undef H'
theorem SP.frame {fid:FuncId} (h:SP P fid args0 H0 H0') {H:a0e} {f:Nat->Nat} (hs:Sel H f H0)
    (hlive: ∀en∈H0,e0y en=yA) (ha:SV.refsL H0.length args0=yA) (hl:H0.length<=H0'.length):SP P fid (SV.rnL f args0) H (c0E f H0.length H H0'):=by
  refine⟨h.1,λw K D vals hlen hr hi hG=> ?_⟩;refine(h.2 w K (k0l D f H0.length) vals (by rw[hlen,b0X]) (λj x c hx hc=>f0o (hr j x (SV.rn f c) hx (by rw[d0O,hc];rfl)) c rfl (d0A ha j c hc)) (hs.hinv hi) (g0Y hG)).mono ?_;rintro e w' ⟨ch,he,hp,hg⟩;exact⟨ch,he,hp,hg.frame hs hi hlive hl⟩
theorem SP.weak {H:a0e} (h:SP P f args' H H')(hl:LeL args args'):SP P f args H H':=
  ⟨h.1,λw K D vals hlen hr hi hG=>h.2 w K D vals (by rw[hlen,hl.length]) (λj x c hx hc=>by
    obtain⟨b,hb,hle⟩:=hl.get j c hc
    exact hle _ _ _ _ (hr j x b hx hb)) hi hG⟩
def PP(F:Fr)(Q:e0G)(L:LE)(H:a0e):Prop:= ∀ch a w,Pan ch->Sees F L H a w->Q (.panic ch) a w
section
variable {F : Fr} {P : Program} {c : Code} {L : LE} {H : a0e} {Q : e0G} {ops : Array Oper} {p : Nat}
theorem PP.next(h:PP F Q L H):PP F (k0k F P c Q) L H:=λch a w hp hs=>h ch a w hp hs
theorem PP.block (h:PP F Q L H):PP F (vF i Q) L H:=λch a w hp hs=>h ch a w hp hs
theorem PP.cutXr {R:S->LE×a0e} {x:X} (h:PP F Q L H):PP F (cutX F R Q (.inr x:S⊕X)) L H:=λch a w hp hs=>⟨(λe=>nomatch e),h ch a w hp hs⟩
theorem PP.loopOut {R:S->LE×a0e} {o o':O} (h:o'=o->PP F Q L H):PP F (n0d F R Q o (.inr o')) L H:=λch a w hp hs=>⟨(λe=>nomatch e),λhe=>h he ch a w hp hs⟩
theorem PP.wk (h:Wk F L H L2 H2)(k:PP F Q L2 H2):PP F Q L H:=λch a w hp hs=>k ch a w hp (h a w hs)
def H0x(P:Program)(ops:Array Oper)(p:Nat):Option Nat:=match ops.toList[p]?,ops.toList[p+1]? with
  |some o,qA o'=>match o.op,o.dst,o.guard,o'.op,o'.guard with
    | .makeInterface t (.const (.string _)),qA d,none, .panic (.tmp d'),none=>match P.underlying t with
      |some .string=>bif jC d d' then qA d else none
      |_=>none
    |_,_,_,_,_=>none
  |_,_=>none
theorem RJ.panic {d:Nat} (h:H0x P ops p=qA d)(k:PP F Q (e0n L (qA d) .undef) H)(hd:jE d F.n=yA):RJ F P none ops p [] L H Q:=by
  intro hin a w hs;unfold H0x at h;split at h;rename_i o o' ho ho';split at h;rename_i t s d1 d2 e1 e2 e3 e4 e5;split at h;rename_i hu
  cases hb:jC d1 d2 with
  |false=>rw[hb]at h;cases h
  |true=>
    rw[hb]at h;obtain rfl:=al h;obtain rfl:=af hb;rw[d0F ho,d0F ho'];refine wpList_step λKK hKK=> ?_
    have hg1:wG o (yielded ops a.tmps)=true:=by unfold wG;rw[e3]
    rw[yB hg1];unfold Oper.wp
    have hr1:(execOp a.eval o).run P w= .ok (.value (.iface t (.string s))) w:=by
      unfold execOp;simp[e1,Instr.makeInterface,run_underlying hu,Act.eval]
    rw[hr1];refine hKK _ _ ?_;refine wpList_step λKK2 hKK2=> ?_
    have hg2: ∀tm,wG o' (yielded ops tm)=true:=λtm=>by unfold wG;rw[e5]
    rw[yB (hg2 _)];unfold Oper.wp;obtain⟨hdd,K,D,hi⟩:=hs;have hsz:d1<a.tmps.size:=by rw[hi.slots.size];exact aj hd
    have hev:(a.put o.dst (.iface t (.string s))).eval (.tmp d1)= .iface t (.string s):=by
      rw[e2];simp[Act.put,Act.eval,bg,hsz]
    have hr2:(execOp (a.put o.dst (.iface t (.string s))).eval o').run P w= .halt (.panic (.iface t (.string s))) w:=by
      unfold execOp;simp[e4,Instr.panic,hev,goPanic]
    rw[hr2];refine k _ _ _ ⟨_,_,rfl⟩ ⟨by rw[b0g];exact hdd,K,D, ?_⟩;rw[<-b0o,e2];exact⟨hi.slots.put _ (.undef _),hi.hinv,hi.grow⟩
  cases h;cases h;cases h
def G0Q(F:Fr)(H':a0e):e0G:=λe a w=> ∃ch,e= .panic ch/\Pan ch/\a.defers=F.ds/\Good F.w0 F.K0 F.D0 F.H0 (.bool yA) w .undef H'
theorem B0z (σ:List Nat)(hH:F.H0=H0)(hl:σ.length=H'.length)(hg:σ.map (λi=>H[i]?)=H'.map (λen=>qA (Ent.rn (a0Y σ) en)))(hnd:σ.Nodup)(hr:H'.all (Ent.refs H'.length)=yA)(hk:σ.take H0.length=wC H0.length)(hle:oC H0.length H'.length=yA)(hv:v1=SV.rn (a0Y σ) v)(hvr:SV.refs H'.length v=yA):
    Back F.H0.length H (a0Y σ) v1 v H':=by
  refine⟨Sel.of σ hl hg hnd hr,λj hj=> ?_,by rw[hH];exact aj hle,hv,hvr⟩;rw[hH]at hj;have:=congrArg (λl=>l[j]?) hk;simp only[ba,yB hj,bw hj]at this;unfold a0Y;rw[au,this];rfl
theorem K.panV (σ:List Nat)(hH:F.H0=H0)(hdom: ∀i,F.H0.length<=i->F.D0 i=none)
    (hl:σ.length=H'.length) (hg:σ.map (λi=>H[i]?)=H'.map (λen=>qA (Ent.rn (a0Y σ) en))) (hnd:σ.Nodup) (hr:H'.all (Ent.refs H'.length)=yA) (hk:σ.take H0.length=wC H0.length) (hle:oC H0.length H'.length=yA):
    PP F (G0Q F H') L H:=λch a w hp hs=>by
  obtain⟨hd,K,D,hi⟩:=hs;exact⟨ch,rfl,hp,hd,j0y hi.grow hi.hinv (.undef _) (B0z σ hH hl hg hnd hr hk hle rfl rfl) hdom⟩
theorem n0G {N:Nat} {K:Nat->Nat} (hlen:vals.length=args.length)(hrep: ∀(j:Nat) (x:Value) (c:SV),vals[j]?=qA x->args[j]?=qA c->Rep w K D x c)
    (hi:HInv w K D H) (hG:k0j w K D) (hn:args.length<=N):Sees ⟨N,w,K,D,H,[]⟩ (e0z 0 args) H { tmps:=vals.toArray++vD (N-vals.toArray.size) undef,defers:=[] } w:=by
  have hslots:Slots N w K D (a0w (e0z 0 args)) (vals.toArray++vD (N-vals.toArray.size) undef):=by
    refine⟨by simp;omega,λi hin=> ?_,hG⟩;show Rep w K D _ (lk (e0z 0 args) i);rw[l0I,yB (bp _),bV];by_cases hia:i<args.length;have hiv:i<vals.length:=by omega
    rw[ag hia,be]
    have hg:(vals.toArray++vD (N-vals.toArray.size) undef).getD i undef=vals[i]:=by
      rw[bg,bP (by simpa using hiv)];simp[hiv]
    rw[hg];exact hrep i _ _ (ag hiv) (ag hia);rw[aE (by omega)];exact .undef _
  exact⟨rfl,K,D,⟨hslots,hi,Grow.refl _ _ _ _⟩⟩
theorem K.fnP {fn:Func} (hf:P.funcs[f]?=qA fn)(hb:fn.body.isSome=yA)(hcal:b0J P f=yA)(hin:b0G fn.ntmps (e0F fn)=yA)
 {H:a0e} (hn:oC args.length fn.ntmps=yA)
    (h: ∀F:Fr,F.n=fn.ntmps->F.H0=H->(∀i,F.H0.length<=i->F.D0 i=none)->J F P (e0F fn) (e0z 0 args) H (G0Q F H')):SP P f args H H':=by
  unfold e0F at*
  cases hbb:fn.body with
  |none=>rw[hbb]at hb;cases hb
  |some c=>
    rw[hbb]at hin h;refine⟨hcal,λw K D vals hlen hrep hi hG=> ?_⟩;refine calls_of_wp hf hbb (jI (λe a' w' hq=> ?_) (h ⟨fn.ntmps,w,K,D,H,[]⟩ rfl rfl hi.dom hin _ w (n0G hlen hrep hi hG (aj hn))));obtain⟨ch,rfl,hp,hd,hg⟩:=hq;exact⟨hd,ch,rfl,hp,hg⟩
theorem RJ.callP (σ:List Nat)(h:f0G none ops p [] L []=qA (d,f,args,[]))(ha:args=SV.rnL (a0Y σ) args0)(hl:σ.length=H0.length)(hg:σ.map (λi=>H[i]?)=H0.map (λen=>qA (Ent.rn (a0Y σ) en)))(hn:σ.Nodup)(hr0:H0.all (Ent.refs H0.length)=yA)
    (hlive:H0.all e0y=yA) (hr:SV.refsL H0.length args0=yA) (hle:LeL args0 args') (hs:SP P f args' H0 H0') (hle':oC H0.length H0'.length=yA)
    (hH:c0E (a0Y σ) H0.length H H0'=H2) (k:PP F Q L H2):RJ F P none ops p [] L H Q:=by
  obtain⟨o,ho,hgd,hc,hdd,_,hk⟩:=d0w h;subst hH;intro hin a w hst;have hbo:Oper.inB F.n ops o=true:=List.all_eq_true.1 hin o (n0b ho);obtain⟨hd,K,D,hi⟩:=hst;rw[d0F ho];refine wpList_step λKK hKK=> ?_
  rw[b0U hi.slots (Oper.inB_guard hbo) hgd,yB rfl];have hfr:=SP.frame (SP.weak hs hle) (Sel.of σ hl hg hn hr0) (λen hm=>List.all_eq_true.1 hlive en hm) hr (aj hle');rw[<-ha]at hfr;obtain⟨vals,hrun,hvl,hvr⟩:=l0u (P:=P) hi.slots (Oper.inB_op hbo) hc;unfold Oper.wp;rw[hrun hfr.1];refine(hfr.2 w K D vals hvl hvr hi.hinv hi.slots.glob).mono ?_;rintro e w' ⟨ch,rfl,hp,K',D',gr,hi',_⟩;exact k _ _ _ hp ⟨hd,K',D',⟨hi.slots.mono λ_ _=>gr.rep,hi',hi.grow.trans gr⟩⟩
end
/-! Calls that are put off. -/
def uOk(pan:Bool)(u:FrameMode):Prop:=match pan with|true=> ∃ch,Pan ch/\u= .panicking ch|false=>u= .returning
def SD(P:Program)(f:FuncId)(pan:Bool)(args:List SV)(H H':a0e):Prop:=
  b0J P f=yA/\ ∀(w:World) (K:Nat->Nat) (D:DM) (vals:List Value) (u:FrameMode),vals.length=args.length->(∀(j:Nat) (x:Value) (c:SV),vals[j]?=qA x->args[j]?=qA c->Rep w K D x c)->HInv w K D H->k0j w K D->
    uOk pan u->
    CallsD P f vals.toArray u w λe u' w'=> ∃r,e= .returned r/\settle u'= .returning/\Good w K D H r w' (.tup []) H'
theorem SD.frame {fid:FuncId} {pan:Bool} (h:SD P fid pan args0 H0 H0') {H:a0e} {f:Nat->Nat} (hs:Sel H f H0)
    (hlive: ∀en∈H0,e0y en=yA) (ha:SV.refsL H0.length args0=yA) (hl:H0.length<=H0'.length):SD P fid pan (SV.rnL f args0) H (c0E f H0.length H H0'):=by
  refine⟨h.1,λw K D vals u hlen hr hi hG hu=> ?_⟩;refine(h.2 w K (k0l D f H0.length) vals u (by rw[hlen,b0X]) (λj x c hx hc=>f0o (hr j x (SV.rn f c) hx (by rw[d0O,hc];rfl)) c rfl (d0A ha j c hc)) (hs.hinv hi) (g0Y hG) hu).mono ?_;rintro e u' w' ⟨r,he,hst,hg⟩;exact⟨r,he,hst,hg.frame hs hi hlive hl⟩
section
variable {F : Fr} {P : Program} {c : Code} {L : LE} {H : a0e} {Q : e0G} {ops : Array Oper} {p : Nat}
def D0O(P:Program)(F:Fr)(f:FuncId)(args:List SV)(d:Deferred):Prop:=
  ∃fv caps vals,d.target= .fn fv caps/\(b0J P f=yA-> ∀w,(invoke d.target d.args).run P w= .ok (.enter f (List.toArray vals)) w)/\vals.length=args.length/\ ∀(j:Nat) (x:Value) (c:SV),vals[j]?=qA x->args[j]?=qA c->Rep F.w0 F.K0 F.D0 x c
def D0y(ops:Array Oper)(p:Nat)(L:LE):Option (FuncId×List SV):=match ops.toList[p]? with
  |some o=>match o.op,o.guard,o.dst with
    | .defer c,none,none=>match c.callee with
      | .value f=>match a0L (a0w L) f,c.args.toList with
        |some (.fn (.func f) first captured),[]=>qA (f,first++captured)
        |_,_=>none
      |_=>none
    |_,_,_=>none
  |none=>none
theorem RJ.defer (h:D0y ops p L=qA (f,args))(hds:F.ds=[])
    (k: ∀(w:World) (K:Nat->Nat) (D:DM) (d:Deferred),D0O P ⟨F.n,w,K,D,H,[d]⟩ f args d->Grow F.w0 F.K0 F.D0 F.H0 w K D H->(∀i,H.length<=i->D i=none)->RJ ⟨F.n,w,K,D,H,[d]⟩ P none ops (p+1) [] L H Q):RJ F P none ops p [] L H Q:=by
  intro hin a w hs;unfold D0y at h;split at h;rename_i o ho;split at h;rename_i c e1 e2 e3;split at h;rename_i fo hcal;split at h;rename_i f' first captured hfe hargs;cases h;have hbo:Oper.inB F.n ops o=true:=List.all_eq_true.1 hin o (n0b ho);obtain⟨hd,K,D,hi⟩:=hs;rw[d0F ho];refine wpList_step λKK hKK=> ?_
  rw[yB (by unfold wG;rw[e2])];have hb:=Oper.inB_op hbo;unfold Op.inB at hb;rw[aZ]at hb;have hfr:=a0h hi.slots (hb fo (by simp[e1,qB,Call.operands,hcal])) hfe;generalize hfv:a.eval fo=fv at hfr
  cases hfr with
  |fn _ fs caps _ _ hc1 hc2 hr1 hr2=>
    have ha0:c.args= #[]:=by rw[<-bu];exact hargs
    have hrun:(execOp a.eval o).run P w= .ok (.defer { target:= .fn (.func f) caps.toArray,args:=fs.toArray }) w:=by
      unfold execOp;simp[e1,resolve,hcal,hfv,Deferred.ofValue,ha0]
    unfold Oper.wp;rw[hrun];refine hKK _ _ ?_;refine k w K D { target:= .fn (.func f) caps.toArray,args:=fs.toArray } ?_ hi.grow hi.hinv.dom hin _ w ?_;refine⟨_,_,fs++caps,rfl,λhcb w'=> ?_,by simp[hc1,hc2],λj x y hx hy=> ?_⟩;have:=t0o (P:=P) (w:=w') (o:= { o with op:= .call { callee:= .value fo,args:= #[],argTypes:= #[] } }) (a:=a) rfl rfl hfv hcb;unfold execOp at this;simp only[resolve,hfv,Deferred.ofValue,zD,qE,yC]at this;simpa using this;rw[aS]at hx hy;rw[hc1]at hy;split at hx;rename_i hj;rw[yB hj]at hy;exact hr1 j x y hx hy;rename_i hj;rw[oB hj]at hy;exact hr2 _ x y hx hy;refine⟨?_,K,D, ?_⟩;rw[b0g,hd,hds];rw[e3];exact⟨hi.slots,hi.hinv,Grow.refl _ _ _ _⟩
  cases h;cases h;cases h;cases h
def x0H(P:Program)(fn:Func)(F:Fr)(v:SV)(H':a0e):e0G:=λe a w=> ∃u,(match e with| .normal=>u=FrameMode.returning| .ret=>u= .returning| .panic ch=>u= .panicking ch|_=>False)/\
  Leaves P fn a.tmps (λe' w'=> ∃r,e'= .returned r/\Good F.w0 F.K0 F.D0 F.H0 r w' v H') a.defers u w
theorem K.fnD {fn:Func} (hf:P.funcs[f]?=qA fn)(hb:fn.body.isSome=yA)(hcal:b0J P f=yA)(hin:b0G fn.ntmps (e0F fn)=yA)
 {H:a0e} (hn:oC args.length fn.ntmps=yA)
    (h: ∀F:Fr,F.n=fn.ntmps->F.H0=H->(∀i,F.H0.length<=i->F.D0 i=none)->F.ds=[]->J F P (e0F fn) (e0z 0 args) H (x0H P fn F v H')):SC P f args H v H':=by
  unfold e0F at*
  cases hbb:fn.body with
  |none=>rw[hbb]at hb;cases hb
  |some c=>
    rw[hbb]at hin h;refine⟨hcal,λw K D vals hlen hrep hi hG=> ?_⟩;refine calls_of_wp_defers hf hbb (jI (λe a' w' hq=> ?_) (h ⟨fn.ntmps,w,K,D,H,[]⟩ rfl rfl hi.dom rfl hin _ w (n0G hlen hrep hi hG (aj hn))));obtain⟨u,hu,hl⟩:=hq;cases e<;>simp only at hu<;>first|exact hu.elim|(subst hu;exact hl)
theorem z0t {fn:Func} {pan:Bool} {d:Deferred} {u:FrameMode} (σ τ:List Nat)(hok:D0O P F1 f args d)(hgr:Grow F.w0 F.K0 F.D0 F.H0 F1.w0 F1.K0 F1.D0 F1.H0)(hds:F1.ds=[d])(hn:F1.n=fn.ntmps)
    (hsd:SD P f pan args0 H0 H0') (ha:args=SV.rnL (a0Y σ) args0) (hl:σ.length=H0.length) (hg:σ.map (λi=>H[i]?)=H0.map (λen=>qA (Ent.rn (a0Y σ) en))) (hnd:σ.Nodup) (hr0:H0.all (Ent.refs H0.length)=yA)
    (hlive:H0.all e0y=yA) (hr:SV.refsL H0.length args0=yA) (hle':oC H0.length H0'.length=yA) (hH:c0E (a0Y σ) H0.length H H0'=H2)
    (hin:i0w fn.ntmps fn.results.toList=yA) (hret:r0W P fn.results.toList L H2=qA v1) (hF:F.H0=H1) (hdom: ∀i,F.H0.length<=i->F.D0 i=none)
    (hl':τ.length=H'.length) (hg':τ.map (λi=>H2[i]?)=H'.map (λen=>qA (Ent.rn (a0Y τ) en))) (hnd':τ.Nodup) (hr':H'.all (Ent.refs H'.length)=yA) (hk':τ.take H1.length=wC H1.length) (hle2:oC H1.length H'.length=yA) (hv:v1=SV.rn (a0Y τ) v) (hvr:SV.refs H'.length v=yA) (hle3:Le v v2)
    (hu:uOk pan u) (hs:Sees F1 L H a w):
    Leaves P fn a.tmps (λe' w'=> ∃r,e'= .returned r/\Good F.w0 F.K0 F.D0 F.H0 r w' v2 H') a.defers u w:=by
  obtain⟨hd,K,D,hi⟩:=hs;rw[hd,hds];obtain⟨fv,caps,vals,ht,hinv,hvl,hvr'⟩:=hok;have hfr:=SD.frame hsd (Sel.of σ hl hg hnd hr0) (λen hm=>List.all_eq_true.1 hlive en hm) hr (aj hle');rw[<-ha,hH]at hfr;refine⟨?_,fv,caps,f,vals.toArray,ht,hinv hfr.1 w, ?_⟩
  cases pan with
  |true=>obtain⟨ch,_,rfl⟩:=hu;exact λe=>nomatch e
  |false=>obtain rfl:u= .returning:=hu;exact λe=>nomatch e
  refine(hfr.2 w K D vals u hvl (λj x y hx hy=>hi.grow.rep (hvr' j x y hx hy)) hi.hinv hi.slots.glob hu).mono ?_;rintro e u' w' ⟨r,rfl,hst,K',D',gr,hi',_⟩;simp only;rw[hst]
  have hi2:Inv F1 w' K' D' H2 (a0w L) a.tmps:=⟨hi.slots.mono λ_ _=>gr.rep,hi',hi.grow.trans gr⟩
  obtain⟨r2,h1,h2⟩:=p0P (P:=P) (fn:=fn) hi2 (by rw[hn];exact hin) hret;exact⟨r2,h1,r2,rfl,(j0y (hgr.trans (hi.grow.trans gr)) hi' h2 (B0z τ hF hl' hg' hnd' hr' hk' hle2 hv hvr) hdom).le hle3⟩
theorem PJ.retD {fn:Func} {d:Deferred} (σ τ:List Nat)(hok:D0O P F1 f args d)(hgr:Grow F.w0 F.K0 F.D0 F.H0 F1.w0 F1.K0 F1.D0 F1.H0)(hds:F1.ds=[d])(hn:F1.n=fn.ntmps)
    (hsd:SD P f oA args0 H0 H0') (ha:args=SV.rnL (a0Y σ) args0) (hl:σ.length=H0.length) (hg:σ.map (λi=>H[i]?)=H0.map (λen=>qA (Ent.rn (a0Y σ) en))) (hnd:σ.Nodup) (hr0:H0.all (Ent.refs H0.length)=yA)
    (hlive:H0.all e0y=yA) (hr:SV.refsL H0.length args0=yA) (hle':oC H0.length H0'.length=yA) (hH:c0E (a0Y σ) H0.length H H0'=H2)
    (hin:i0w fn.ntmps fn.results.toList=yA) (hret:r0W P fn.results.toList L H2=qA v1) (hF:F.H0=H1) (hdom: ∀i,F.H0.length<=i->F.D0 i=none)
    (hl':τ.length=H'.length) (hg':τ.map (λi=>H2[i]?)=H'.map (λen=>qA (Ent.rn (a0Y τ) en))) (hnd':τ.Nodup) (hr':H'.all (Ent.refs H'.length)=yA) (hk':τ.take H1.length=wC H1.length) (hle2:oC H1.length H'.length=yA) (hv:v1=SV.rn (a0Y τ) v) (hvr:SV.refs H'.length v=yA) (hle3:Le v v2):
    PJ F1 (x0H P fn F v2 H') .ret L H:=λa w hs=>⟨.returning,rfl,z0t σ τ hok hgr hds hn hsd ha hl hg hnd hr0 hlive hr hle' hH hin hret hF hdom hl' hg' hnd' hr' hk' hle2 hv hvr hle3 rfl hs⟩
theorem PP.retD {fn:Func} {d:Deferred} (σ τ:List Nat)(hok:D0O P F1 f args d)(hgr:Grow F.w0 F.K0 F.D0 F.H0 F1.w0 F1.K0 F1.D0 F1.H0)(hds:F1.ds=[d])(hn:F1.n=fn.ntmps)
    (hsd:SD P f yA args0 H0 H0') (ha:args=SV.rnL (a0Y σ) args0) (hl:σ.length=H0.length) (hg:σ.map (λi=>H[i]?)=H0.map (λen=>qA (Ent.rn (a0Y σ) en))) (hnd:σ.Nodup) (hr0:H0.all (Ent.refs H0.length)=yA)
    (hlive:H0.all e0y=yA) (hr:SV.refsL H0.length args0=yA) (hle':oC H0.length H0'.length=yA) (hH:c0E (a0Y σ) H0.length H H0'=H2)
    (hin:i0w fn.ntmps fn.results.toList=yA) (hret:r0W P fn.results.toList L H2=qA v1) (hF:F.H0=H1) (hdom: ∀i,F.H0.length<=i->F.D0 i=none)
    (hl':τ.length=H'.length) (hg':τ.map (λi=>H2[i]?)=H'.map (λen=>qA (Ent.rn (a0Y τ) en))) (hnd':τ.Nodup) (hr':H'.all (Ent.refs H'.length)=yA) (hk':τ.take H1.length=wC H1.length) (hle2:oC H1.length H'.length=yA) (hv:v1=SV.rn (a0Y τ) v) (hvr:SV.refs H'.length v=yA) (hle3:Le v v2):
    PP F1 (x0H P fn F v2 H') L H:=λch a w hp hs=>⟨.panicking ch,rfl,z0t σ τ hok hgr hds hn hsd ha hl hg hnd hr0 hlive hr hle' hH hin hret hF hdom hl' hg' hnd' hr' hk' hle2 hv hvr hle3 ⟨ch,hp,rfl⟩ hs⟩
def z0z(P:Program)(c:Code)(t4 t5:Nat):Bool:=q0j c&&(m0v oA (cl c)&&(match(f0J (cl c)).toList with
  | [o,o']=>match o.op,o.dst,o.guard,o'.op,o'.dst,o'.guard with
    | .call cc,qA d,none, .binOp .neq t (.tmp d') (.const .nilIface) _,qA d2,none=>match cc.callee,P.underlying t with
      | .builtin .recover,qA (.interface _)=>jC d t4&&(jC d' t4&&jC d2 t5)
      |_,_=>oA
    |_,_,_,_,_,_=>oA
  |_=>oA))
theorem K.fnC {fn:Func} (pan:Bool)(t4 t5:Nat)(hf:P.funcs[f]?=qA fn)(hb:fn.body.isSome=yA)(hcal:b0J P f=yA)(hin:b0G fn.ntmps (e0F fn)=yA)
 {H:a0e} (hn:oC args.length fn.ntmps=yA) (hrec:z0z P (e0F fn) t4 t5=yA) (ht:(jE t4 fn.ntmps&&jE t5 fn.ntmps)=yA)
    (h: ∀F:Fr,F.n=fn.ntmps->F.H0=H->(∀i,F.H0.length<=i->F.D0 i=none)->J F P (cr (e0F fn)) ((t5, .bool pan)::(t4, .undef)::e0z 0 args) H (r0f P fn F (.tup []) H')):SD P f pan args H H':=by
  unfold e0F at*
  cases hbb:fn.body with
  |none=>rw[hbb]at hb;cases hb
  |some c=>
    rw[hbb]at hin h hrec;simp only[be]at hin h hrec;refine⟨hcal,λw K D vals u hlen hrep hi hG hu=> ?_⟩;refine callsD_of_wpS hf hbb (λc₀ cs hcu=> ?_);unfold z0z at hrec;simp only[aa]at hrec;obtain⟨hsq,hrg,hops⟩:=hrec;have hc:=w0t hsq;have hst:=n0G (N:=fn.ntmps) hlen hrep hi hG (aj hn);generalize hcl:cl c=cl0 at*;cases cl0<;>first|cases hrg|skip
    rename_i ri ops dd
    cases dd with
    |true=>cases hrg
    |false=>
    simp only[f0J]at hops;split at hops;rename_i o o' hol;have hops2:ops= #[o,o']:=by rw[<-bu];exact hol
    split at hops;rename_i cc d t d' ty d2 e1 e2 e3 e4 e5 e6;split at hops;rename_i ms g1 g2;simp only[aa]at hops;obtain⟨q1,q2,q3⟩:=hops;obtain rfl:=af q1;obtain rfl:=af q2;obtain rfl:=af q3;simp only[aa]at ht;have ht1:d'<fn.ntmps:=aj ht.1;have ht2:d2<fn.ntmps:=aj ht.2;rw[hc];refine wpS_seq (wpS_region ?_)
    have hr1: ∀ρ w,(execOp ρ o).run P w= .ok .recover w:=fun ρ w=>by
      unfold execOp;simp[e1,resolve,g1,invoke,builtin]
    have hw: ∀(x:Oper),x.guard=none-> ∀y,wG x y=true:=λx hx y=>by unfold wG;rw[hx]
    have h0:ops[0]?=qA o:=by rw[hops2];rfl
    have h1:ops[1]?=qA o':=by rw[hops2];rfl
    have hsz:ops.size=2:=by rw[hops2];rfl
    rw[hsz,show wC 2=[0,1]from rfl];simp only[wpOpsS,h0,h1,hw o e3,hw o' e6,if_true,hr1]
    have hJ:=h ⟨fn.ntmps,w,K,D,H,[]⟩ rfl rfl hi.dom (by
      rw[hc]at hin;simp only[b0G,aa]at hin
      exact hin.2)
    have hsz2:d'<({ tmps:=vals.toArray++vD (fn.ntmps-vals.toArray.size) undef,defers:=[] } :Act).tmps.size:=by
      obtain⟨_,K1,D1,hI⟩:=hst;rw[hI.slots.size];exact ht1
    have step: ∀v,(∀w,(binOp .neq t v .nilIface).run P w= .ok (.bool pan) w)->(∀w,(eqGuard .neq t (.tmp d') (.const .nilIface) v .nilIface).run P w= .ok () w)->
        (execOp (({ tmps:=vals.toArray++vD (fn.ntmps-vals.toArray.size) undef,defers:=[] } :Act).put o.dst v).eval o').run P w= .ok (.value (.bool pan)) w:=by
      intro v hbin hgd
      have hev:(({ tmps:=vals.toArray++vD (fn.ntmps-vals.toArray.size) undef,defers:=[] } :Act).put o.dst v).eval (.tmp d')=v:=by
        rw[e2];simp only[Act.put,Act.eval,bg,bK,yB hsz2];simp
      unfold execOp;simp only[e4,hev];rw[show(({ tmps:=vals.toArray++vD (fn.ntmps-vals.toArray.size) undef,defers:=[] } :Act).put o.dst v).eval (.const .nilIface)= .nilIface from rfl];simp[hbin w,hgd w]
    have fin: ∀(v:Value) (cs':List Frame) (u':FrameMode),cs'= { c₀ with mode:=u' } ::cs->settle u'= .returning->(cr c).wpS P (bodyPostS P fn c₀ cs λe u' w'=> ∃r,e= .returned r/\settle u'= .returning/\Good w K D H r w' (.tup []) H') ((({ tmps:=vals.toArray++vD (fn.ntmps-vals.toArray.size) undef,defers:=[] } :Act).put o.dst v).put o'.dst (.bool pan)) cs' w:=by
      intro v cs' u' hcs hset;refine wpS_of_wp (jI (λe a' w' hq=> ?_) (hJ _ w ?_));obtain⟨he,hd,r,hr,hg⟩:=hq;rcases he with rfl|rfl;exact⟨hd,u',hcs,r,hr,r,rfl,hset,hg⟩;exact⟨hd,u',hcs,r,hr,r,rfl,hset,hg⟩;obtain⟨hd,K1,D1,hI⟩:=hst;refine⟨by rw[b0g,b0g],K1,D1,⟨?_,hI.hinv,hI.grow⟩⟩;have:=(hI.slots.put o.dst (.undef v)).put o'.dst (.bool pan);rw[e2,e5,b0o,b0o]at this;rw[e2,e5];exact this
    cases pan with
    |false=>
      obtain rfl:u= .returning:=hu;have hrd:recoverD (c₀::cs)=none:=by simp only[recoverD,hcu]
      rw[hrd]
      have hs2:=step .nilIface (λw=>by
        have h9: ∀d:Nat,(zH (d+1) t .nilIface .nilIface).run P w= .ok yA w:=λd=>by simp[zH,run_underlying g2]
        simp only[binOp]
        simp[Op.equal,Op.maxDepth,h9 9999]) (λw=>by simp[eqGuard])
      simp only[hs2];exact fin .nilIface (c₀::cs) .returning (by rw[<-hcu]) rfl
    |true=>
      obtain⟨ch,⟨tv,vv,rfl⟩,rfl⟩:=hu;have hrd:recoverD (c₀::cs)=qA (.iface tv vv, { c₀ with mode:= .panicking [{ v:= .iface tv vv,recovered:=yA }] } ::cs):=by simp only[recoverD,hcu]
      rw[hrd]
      have hs2:=step (.iface tv vv) (λw=>by
        have h9: ∀d:Nat,(zH (d+1) t (.iface tv vv) .nilIface).run P w= .ok oA w:=λd=>by simp[zH,run_underlying g2]
        simp only[binOp]
        simp[Op.equal,Op.maxDepth,h9 9999]) (λw=>by simp[eqGuard])
      simp only[hs2];exact fin (.iface tv vv) _ _ rfl rfl
    cases hops;cases hops;cases hops
end
section
variable {F : Fr} {P : Program} {L : LE} {H : a0e} {Q : e0G} {ops : Array Oper} {p : Nat} {tr : List (List Nat × List Nat)}
theorem w0T {e1 e2:Eff} (h:e1.wr.map yE=e2.wr.map yE):e0L ops base i o e1=e0L ops base i o e2:=by
  have h1: ∀e:Eff,e.wr.map (λx=>2*x.1)=(e.wr.map yE).map (λx=>2*x):=λe=>by rw[bO];rfl
  have h2: ∀e:Eff,(e.wr.flatMap λx=>B0M x.1)=(e.wr.map yE).flatMap B0M:=λe=>by rw[List.flatMap_map]
  unfold e0L;rw[h1,h1,h2,h2,h]
theorem RJ.callWr (σ:List Nat)(h:f0G (qA base) ops p tr L σ (σ.map λi=>(i,Ent.gone))=qA (d,f,args,tr2))(ha:args=SV.rnL (a0Y σ) args0)
    (hl:σ.length=H0.length) (hg:σ.map (λi=>H[i]?)=H0.map (λen=>qA (Ent.rn (a0Y σ) en))) (hn:σ.Nodup) (hr0:H0.all (Ent.refs H0.length)=yA)
    (hlive:H0.all e0y=yA) (hr:SV.refsL H0.length args0=yA) (hle:LeL args0 args') (hs:SC P f args' H0 v0 H0') (hlen:jC H0'.length H0.length=yA) (hr2:H0'.all (Ent.refs H0.length)=yA) (hv0:SV.refs H0.length v0=yA)
    (hv:SV.rn (a0Y σ) v0=v) (hH:a0Q H (m0j (a0Y σ) H0.length H0')=H2) (k:RJ F P (qA base) ops (p+1) tr2 (e0n L d v) H2 Q):RJ F P (qA base) ops p tr L H Q:=by
  obtain⟨o,ho,hgd,hc,rfl,rfl,hk⟩:=d0w h;subst hv;subst hH
  have hσ:(wC H0.length).map (a0Y σ)=σ:=by
    apply bz;intro i;rw[ar];by_cases hi:i<H0.length;rw[bw hi];simp only[aT,a0Y,au];rw[ag (by omega)];rfl;rw[aE (by simpa using hi),aE (by omega)];rfl
  have hfst:(m0j (a0Y σ) H0.length H0').map yE=(σ.map λi=>(i,Ent.gone)).map yE:=by
    unfold m0j;rw[bO,bO];have e1:(yE∘λj=>(a0Y σ j,Ent.rn (a0Y σ) (H0'.getD j .gone)))=a0Y σ:=rfl;have e2:(yE∘λi:Nat=>(i,Ent.gone))=id:=rfl;rw[e1,e2,hσ,List.map_id]
  have hfw: ∀i,e0L ops base i o ⟨SV.rn (a0Y σ) v0,(wC H0.length).map (a0Y σ),m0j (a0Y σ) H0.length H0'⟩=e0L ops base i o ⟨.undef,σ,σ.map λi=>(i,Ent.gone)⟩:=λi=>w0T hfst
  have hrd:f0M o ⟨SV.rn (a0Y σ) v0,(wC H0.length).map (a0Y σ),m0j (a0Y σ) H0.length H0'⟩=f0M o ⟨.undef,σ,σ.map λi=>(i,Ent.gone)⟩:=by
    unfold f0M;simp only[hσ]
  intro hlp;rw[d0F ho];subst hlp;refine⟨⟨SV.rn (a0Y σ) v0,(wC H0.length).map (a0Y σ),m0j (a0Y σ) H0.length H0'⟩, ?_, ?_, ?_⟩;unfold opD;rw[hgd];simp only;rw[n0j hc,yB rfl];exact .inr (.inr (.inl ⟨f,args,a0Y σ,args0,H0,v0,H0',hc,ha,Sel.of σ hl hg hn hr0,λen hm=>List.all_eq_true.1 hlive en hm,hr,hv0,SC.weak hs hle,af hlen,λj en hj=>List.all_eq_true.1 hr2 en (aM hj),rfl⟩));rw[hfw,hrd];exact hk base rfl;have:=k (by simp[trM]);rw[b0o,hfw,hrd];exact this
end
variable [Inhabited GT]
def k0w:List Bool->List SV->List SV
  |true::ms,_::cs=> .undef::k0w ms cs
  |false::ms,c::cs=>c::k0w ms cs
  |_,cs=>cs
theorem k0Y: ∀(ms:List Bool) (cs:List SV),(k0w ms cs).length=cs.length
  | [],cs=>by simp[k0w]
  |true::ms,[]=>by simp[k0w]
  |false::ms,[]=>by simp[k0w]
  |true::ms,c::cs=>by simp[k0w,k0Y ms cs]
  |false::ms,c::cs=>by simp[k0w,k0Y ms cs]
theorem p0X: ∀(ms:List Bool) (cs:List SV) (j:Nat) (c:SV),(k0w ms cs)[j]?=qA c->cs[j]?=qA c\/(c= .undef/\j<cs.length)
  | [],cs,j,c,h=> .inl (by simpa [k0w]using h)
  |true::ms,[],j,c,h=>by simp[k0w]at h
  |false::ms,[],j,c,h=>by simp[k0w]at h
  |true::ms,x::cs,0,c,h=>by simp[k0w]at h;exact .inr ⟨h.symm,by simp⟩
  |false::ms,x::cs,0,c,h=> .inl (by simpa [k0w]using h)
  |true::ms,x::cs,j+1,c,h=>by
    rcases p0X ms cs j c (by simpa [k0w]using h)with h1|⟨h1,h2⟩;exact .inl (by simpa using h1);exact .inr ⟨h1,by simpa using h2⟩
  |false::ms,x::cs,j+1,c,h=>by
    rcases p0X ms cs j c (by simpa [k0w]using h)with h1|⟨h1,h2⟩;exact .inl (by simpa using h1);exact .inr ⟨h1,by simpa using h2⟩
theorem Wk.boxW {L:LE} {H:a0e} (i:Nat) {cs':List SV} (hi:H[i]?=qA (.box cs))(hlen:cs'.length=cs.length)(hw: ∀(q:Nat) (c':SV),cs'[q]?=qA c'-> ∃c,cs[q]?=qA c/\Le c c'):Wk F L H L (H.set i (.box cs')):=by
  rintro a w ⟨hd,K,D,hv⟩;have hil:i<H.length:=(ae.1 hi).1
  have hget: ∀(j:Nat) (en:Ent),(H.set i (.box cs'))[j]?=qA en->(j=i/\en= .box cs')\/(j≠i/\H[j]?=qA en):=by
    intro j en hj;rw[aW]at hj;by_cases hji:i=j;subst hji;rw[yB rfl,yB hil]at hj;cases hj;exact .inl ⟨rfl,rfl⟩;rw[oB hji]at hj;exact .inr ⟨Ne.symm hji,hj⟩
  have hold: ∀(j:Nat) (en:Ent),(H.set i (.box cs'))[j]?=qA en->e0y en=yA-> ∃en':Ent,H[j]?=qA en'/\e0y en'=true:=by
    intro j en hj hl;rcases hget j en hj with⟨rfl,rfl⟩|⟨_,h⟩;exact⟨_,hi,rfl⟩;exact⟨_,h,hl⟩
  have g:=hv.grow
  refine⟨hd,K,D,⟨hv.slots,⟨λj hj=>hv.hinv.dom j (by simpa using hj),λj en hj=> ?_,λj j' en en' b c n c' n' hj hj' hl hl' hdj hdj'=> ?_,hv.hinv.kw⟩,
    ⟨g.os,g.tape,g.output,g.size,g.block,g.cells,g.le,g.kk,g.dd,λb hm=> ?_⟩⟩⟩
  rcases hget j en hj with⟨rfl,rfl⟩|⟨_,h⟩;obtain⟨b,vs,e,h1,h2,h3,h4⟩:=hv.hinv.ent j _ hi;refine⟨b,vs,e,h1,h2,h3,⟨hlen.trans h4.len,h4.one,λq v c hq hc=> ?_⟩⟩;obtain⟨c0,h5,h6⟩:=hw q c hc;exact h6 _ _ _ _ (h4.rep q v c0 hq h5);exact hv.hinv.ent j en h;obtain⟨e1,p1,p2⟩:=hold j en hj hl;obtain⟨e2,q1,q2⟩:=hold j' en' hj' hl';exact hv.hinv.inj j j' e1 e2 b c n c' n' p1 q1 p2 q2 hdj hdj';obtain⟨j,en,c,n,h1,h2,h3⟩:=hm;obtain⟨e1,p1,p2⟩:=hold j en h1 h2;exact g.new b ⟨j,e1,c,n,p1,p2,h3⟩
theorem Wk.undefs {L:LE} {H:a0e} (i:Nat)(ms:List Bool) (hi:H[i]?=qA (.box cs)):Wk F L H L (H.set i (.box (k0w ms cs))):=
  Wk.boxW i hi (k0Y _ _) (λq c hc=>by
    rcases p0X ms cs q c hc with h|⟨h,hl⟩;exact⟨c,h,Le.refl _⟩
    subst h;exact⟨cs[q],ag hl,Le.undef _⟩)
theorem Wk.leBox {L:LE} {H:a0e} (i off:Nat) {v':SV} (hi:H[i]?=qA (.box cs))(ho:cs[off]?=qA v)(hle:Le v v'):Wk F L H L (H.set i (.box (cs.set off v'))):=
  Wk.boxW i hi (by simp) (λq c hc=>by
    rw[aW]at hc;by_cases h:off=q;subst h;rw[yB rfl,yB (ae.1 ho).1]at hc;cases hc;exact⟨v,ho,hle⟩;rw[oB h]at hc
    exact⟨c,hc,Le.refl _⟩)
variable [Inhabited GT]
section
variable {F : Fr} {P : Program} {L : LE} {H : a0e} {Q : e0G} {ops : Array Oper} {p : Nat} {tr : List (List Nat × List Nat)}
theorem RJ.callX (idx:Nat)(σ:List Nat)(hidx:d0S ops base p=idx)(hres:n0i (H[idx]?)=yA)
    (h:f0G (qA base) ops p tr L σ ((σ++ [idx]).map λi=>(i,Ent.gone))=qA (d,f,args,tr2)) (ha:args=SV.rnL (a0Y σ) args0)
    (hl:σ.length=H0.length) (hg:σ.map (λi=>H[i]?)=H0.map (λen=>qA (Ent.rn (a0Y σ) en))) (hn:σ.Nodup) (hr0:H0.all (Ent.refs H0.length)=yA)
    (hlive:H0.all e0y=yA) (hr:SV.refsL H0.length args0=yA) (hle:LeL args0 args') (hs:SC P f args' H0 v0 H0') (hlen:jC H0'.length (H0.length+1)=yA)
    (hv:SV.rn (pOf (a0Y σ) H0.length idx) v0=v) (hH:a0Q H (m0j (pOf (a0Y σ) H0.length idx) (H0.length+1) H0')=H2) (k:RJ F P (qA base) ops (p+1) tr2 (e0n L d v) H2 Q):RJ F P (qA base) ops p tr L H Q:=by
  obtain⟨o,ho,hgd,hc,rfl,rfl,hk⟩:=d0w h;subst hv;subst hH;subst hidx
  have hres':H[d0S ops base p]?=qA .res:=by
    unfold n0i at hres;split at hres
    assumption
    cases hres
  have hσ:(wC H0.length).map (a0Y σ)=σ:=by
    apply bz;intro i;rw[ar];by_cases hi:i<H0.length;rw[bw hi];simp only[aT,a0Y,au];rw[ag (by omega)];rfl;rw[aE (by simpa using hi),aE (by omega)];rfl
  have hpm:(wC (H0.length+1)).map (pOf (a0Y σ) H0.length (d0S ops base p))=σ++ [d0S ops base p]:=by
    rw[cW,bM];congr 1;rw[<-hσ];refine bn λj hj=> ?_
    simp[pOf,bf.1 hj,hσ];simp[pOf]
  have hfst:(m0j (pOf (a0Y σ) H0.length (d0S ops base p)) (H0.length+1) H0').map yE=((σ++ [d0S ops base p]).map λi=>(i,Ent.gone)).map yE:=by
    unfold m0j;rw[bO,bO];have e1:(yE∘λj=>(pOf (a0Y σ) H0.length (d0S ops base p) j,Ent.rn (pOf (a0Y σ) H0.length (d0S ops base p)) (H0'.getD j .gone)))=pOf (a0Y σ) H0.length (d0S ops base p):=rfl;have e2:(yE∘λi:Nat=>(i,Ent.gone))=id:=rfl;rw[e1,e2,hpm,List.map_id]
  have hfw: ∀i,e0L ops base i o ⟨SV.rn (pOf (a0Y σ) H0.length (d0S ops base p)) v0,(wC H0.length).map (a0Y σ),m0j (pOf (a0Y σ) H0.length (d0S ops base p)) (H0.length+1) H0'⟩=e0L ops base i o ⟨.undef,σ,(σ++ [d0S ops base p]).map λi=>(i,Ent.gone)⟩:=λi=>w0T hfst
  have hrd:f0M o ⟨SV.rn (pOf (a0Y σ) H0.length (d0S ops base p)) v0,(wC H0.length).map (a0Y σ),m0j (pOf (a0Y σ) H0.length (d0S ops base p)) (H0.length+1) H0'⟩=f0M o ⟨.undef,σ,(σ++ [d0S ops base p]).map λi=>(i,Ent.gone)⟩:=by
    unfold f0M;simp only[hσ]
  intro hlp;rw[d0F ho];subst hlp;refine⟨⟨SV.rn (pOf (a0Y σ) H0.length (d0S ops base tr.length)) v0,(wC H0.length).map (a0Y σ),m0j (pOf (a0Y σ) H0.length (d0S ops base tr.length)) (H0.length+1) H0'⟩, ?_, ?_, ?_⟩;unfold opD;rw[hgd];simp only;rw[n0j hc,yB rfl];exact .inr (.inr (.inr (.inl ⟨f,args,a0Y σ,args0,H0,v0,H0',hc,ha,Sel.of σ hl hg hn hr0,λen hm=>List.all_eq_true.1 hlive en hm,hr,SC.weak hs hle,af hlen,hres',rfl⟩)));rw[hfw,hrd];exact hk base rfl;have:=k (by simp[trM]);rw[b0o,hfw,hrd];exact this
end
variable [Inhabited GT]
theorem SC.nil {args1 args2:List SV} {e:TypeId} (h:SC P f (args1++ .vc H0.length::args2) (H0++ [.vec 0 k e []]) v H0'):SC P f (args1++ .nl::args2) H0 v H0':=by
  refine⟨h.1,λw K D vals hlen hrep hi hG=> ?_⟩;obtain⟨g,hi2⟩:=p0k hi k e;refine(h.2 w K _ vals (by simpa using hlen) (λj x c hx hc=> ?_) hi2 (g0Y hG)).mono ?_;by_cases hj:j=args1.length;subst hj;have hc2:(args1++SV.vc H0.length::args2)[args1.length]?=qA (.vc H0.length):=by simp
  rw[hc2]at hc;cases hc;have h1:=hrep args1.length x .nl hx (by simp)
  cases h1 with
  |nl a=>exact .vcn _ a (k0B _ _ _)
  have hc2:(args1++SV.nl::args2)[j]?=qA c:=by
    rw[<-hc,aS,aS];split;rfl;rename_i hlt
    obtain⟨q,hq⟩: ∃q,j-args1.length=q+1:=⟨j-args1.length-1,by omega⟩
    rw[hq];rfl
  exact g.rep (hrep j x c hx hc2);rintro ex w' ⟨r,he,K',D',g',hi',hr⟩;exact⟨r,he,K',D',g.trans g',hi',hr⟩
variable [Inhabited GT]
theorem K0o {fn:Func} {H:a0e}
    (h: ∀F:Fr,F.n=fn.ntmps->F.H0=H->(∀i,F.H0.length<=i->F.D0 i=none)->J F P (e0F fn) (e0z 0 args) H (G0Q F H')) (hf:P.funcs[f]?=qA fn:=by kernel_rfl) (hb:fn.body.isSome=true:=by kernel_rfl) (hcal:b0J P f=true:=by kernel_rfl) (hin:b0G fn.ntmps (e0F fn)=true:=by kernel_rfl) (hn:oC args.length fn.ntmps=true:=by kernel_rfl):SP P f args H H':=K.fnP hf hb hcal hin hn h
theorem K0f {fn:Func} {H:a0e}
    (h: ∀F:Fr,F.n=fn.ntmps->F.H0=H->(∀i,F.H0.length<=i->F.D0 i=none)->F.ds=[]->J F P (e0F fn) (e0z 0 args) H (x0H P fn F v H')) (hf:P.funcs[f]?=qA fn:=by kernel_rfl) (hb:fn.body.isSome=true:=by kernel_rfl) (hcal:b0J P f=true:=by kernel_rfl) (hin:b0G fn.ntmps (e0F fn)=true:=by kernel_rfl) (hn:oC args.length fn.ntmps=true:=by kernel_rfl):SC P f args H v H':=K.fnD hf hb hcal hin hn h
theorem I0H {fn:Func} {H:a0e} (pan:Bool)(t4 t5:Nat)
    (h: ∀F:Fr,F.n=fn.ntmps->F.H0=H->(∀i,F.H0.length<=i->F.D0 i=none)->J F P (cr (e0F fn)) ((t5, .bool pan)::(t4, .undef)::e0z 0 args) H (r0f P fn F (.tup []) H')) (hf:P.funcs[f]?=qA fn:=by kernel_rfl) (hb:fn.body.isSome=true:=by kernel_rfl) (hcal:b0J P f=true:=by kernel_rfl) (hin:b0G fn.ntmps (e0F fn)=true:=by kernel_rfl) (hn:oC args.length fn.ntmps=true:=by kernel_rfl)
    (hrec:z0z P (e0F fn) t4 t5=true:=by kernel_rfl) (ht:(jE t4 fn.ntmps&&jE t5 fn.ntmps)=true:=by kernel_rfl):SD P f pan args H H':=K.fnC pan t4 t5 hf hb hcal hin hn hrec ht h
end
section
variable [Inhabited GT]
def u0f(ops:Array Oper)(listed:Array Bool):Nat:=((wC ops.size).filter λj=> !listed.getD j oA).length
theorem r0r(p q:Nat->Bool)(hpq: ∀x,q x=yA->p x=yA)(i:Nat)(hi:p i=yA)(hq:q i=oA): ∀l:List Nat,i∈l->(l.filter q).length<(l.filter p).length
  | [],h=>by cases h
  |x::l,h=>by
    have hle:(l.filter q).length<=(l.filter p).length:=by
      clear h
      induction l with
      |nil=>exact am _
      |cons y l ih=>
        simp only[List.filter_cons]
        cases hy:q y with
        |true=>rw[yB rfl,yB (hpq y hy)];simpa using ih
        |false=>
          rw[oB (by simp)];split;simp only[aC];omega;exact ih
    simp only[List.filter_cons];rcases aG.1 h with rfl|h;rw[yB hi,oB (by rw[hq];simp)];simp only[aC];omega;have ih:=r0r p q hpq i hi hq l h
    cases hx:q x with
    |true=>rw[yB rfl,yB (hpq x hx)];simpa using ih
    |false=>
      rw[oB (by simp)];split;simp only[aC];omega;exact ih
theorem u0e (hi:i<ops.size)(hs:listed.size=ops.size)(h:listed.getD i oA=oA):u0f ops (listed.setIfInBounds i yA)<u0f ops listed:=by
  unfold u0f;refine r0r (λj=> !listed.getD j oA) (λj=> !(listed.setIfInBounds i yA).getD j oA) (λx hx=> ?_) i (by rw[h];rfl) ?_ _ (bf.2 hi);by_cases hxi:i=x;subst hxi;rw[h];rfl;rw[getD_set_ne oA hxi]at hx;exact hx;have:i<listed.size:=by omega
  simp[yF,this]
def p0T(o:Oper)(d:Nat):Oper:= { o with op:= .move (.tmp d) }
def c0S(ops:Array Oper)(p d:Nat):Array Oper:=match ops[p]? with
  |some o=>ops.setIfInBounds p (p0T o d)
  |none=>ops
def p0W(V:List (Nat×Nat×SV))(d:Nat)(o:Oper):Operand->Bool
  | .tmp t=> !jC t d&&V.all λx=> !jC x.2.1 t||o.after.toList.any λe=>oD .any e&&jC e.on x.1
  |_=>yA
def D0R(W:List Nat)(p:Nat)(o:Oper):Bool:=o.after.toList.any λe=>oD .any e&&(jC e.on p||W.any λi=>jC e.on i)
def t0J:List Nat->Bool
  | []=>yA
  |x::r=>r.all (λy=> !jC x y)&&t0J r
def C0N(o:Oper):Bool:=match o.guard with|none=>yA|some _=>oA
def I0O(o:Oper)(d:Nat):Bool:=match o.dst with|some e=>jC e d|none=>oA
def I0A(ops:Array Oper)(V:List (Nat×Nat×SV))(W:List Nat)(p d:Nat):Bool:=
  (wC ops.size).all (λi=>match ops.toList[i]? with
    |some o=>(o.after.toList.all λe=> !oD .any e||jE e.on i)&&(jC i p||((W.any λj=>jC i j)&&D0R W p o)||V.any λx=>jC x.1 i)
    |none=>oA)&&
  (V.all (λx=> !jC x.1 p&&(!(W.any λj=>jC x.1 j)&&(!jC x.2.1 d&&match ops.toList[x.1]? with
    |some o=>I0O o x.2.1&&(C0N o&&(!c0H o&&(!b0M o&&o.op.operands.toList.all (p0W V d o))))
    |none=>oA)))&&(t0J (V.map λx=>x.2.1)&&(W.all (λj=> !jC j p)&&match ops.toList[p]? with
    |some o=>I0O o d&&(C0N o&&o.op.operands.toList.all (p0W V d o))
    |none=>oA)))
def n0Q(P:Program)(ops:Array Oper)(V:List (Nat×Nat×SV))(L:LE)(H:a0e):List (Option (SV×List (Nat×Ent))):=
  V.map λx=>match ops.toList[x.1]? with
    |some o=>(a0E P o (a0w (V.map (λy=>y.2)++L)) H 0).map λef=>(ef.v,ef.wr)
    |none=>none
def s0d(ops:Array Oper)(p:Nat)(V:List (Nat×Nat×SV))(L:LE):Option (FuncId×List SV):=match ops.toList[p]? with
  |some o=>d0L (a0w (V.map (λy=>y.2)++L)) o
  |none=>none
section
variable {P : Program} {ops : Array Oper} {V : List (Nat × Nat × SV)} {W : List Nat} {p d : Nat} {L : LE}
theorem toL(i:Nat):ops.toList[i]?=ops[i]?:=by simp
theorem J0L {W:List Nat} :(W.any λj=>jC i j)=yA↔i∈W:=by
  rw[cg];constructor;rintro⟨j,hj,e⟩;rw[af e];exact hj
  exact λh=>⟨i,h,cL i⟩
theorem neB {j:Nat} (h:(!jC i j)=yA):i≠j:=λe=>by subst e;simp at h
theorem B0f (h:I0O o d=yA):o.dst=qA d:=by
  unfold I0O at h;split at h;rename_i e he;rw[he,af h];cases h
theorem w0E (h:C0N o=yA):o.guard=none:=by
  unfold C0N at h;split at h
  assumption
  cases h
structure D0M (ops:Array Oper) (V:List (Nat×Nat×SV)) (W:List Nat) (p d:Nat):Prop where
  back: ∀i o,ops[i]?=qA o-> ∀e∈o.after,oD .any e=yA->e.on<i
  all: ∀i o,ops[i]?=qA o->i=p\/(i∈W/\ ∃e∈o.after,oD .any e=yA/\(e.on=p\/e.on∈W))\/ ∃x∈V,x.1=i
  quiet: ∀x∈V,x.1≠p/\x.1∉W/\x.2.1≠d/\ ∃o,ops[x.1]?=qA o/\o.dst=qA x.2.1/\o.guard=none/\c0H o=oA/\b0M o=oA/\ ∀a∈o.op.operands,p0W V d o a=yA
  only:t0J (V.map λx=>x.2.1)=yA
  notW:p∉W
  piv: ∃o,ops[p]?=qA o/\o.dst=qA d/\o.guard=none/\ ∀a∈o.op.operands,p0W V d o a=yA
theorem z0K(h:I0A ops V W p d=yA):D0M ops V W p d:=by
  unfold I0A at h;simp only[aa]at h;obtain⟨h1,h2,h3,h4,h5⟩:=h;rw[qD]at h1 h2 h4
  have g1: ∀i o,ops[i]?=qA o->(o.after.toList.all λe=> !oD .any e||jE e.on i)=yA/\(jC i p||((W.any λj=>jC i j)&&D0R W p o)||V.any λx=>jC x.1 i)=true:=λi o ho=>by
    have:=h1 i (bf.2 (ai.1 ho).1);rw[toL,ho]at this;simpa only[aa]using this
  refine⟨λi o ho e he hb=> ?_,λi o ho=> ?_,λx hx=> ?_,h3,λhm=>neB (h4 p hm) rfl, ?_⟩;have:=List.all_eq_true.1 (g1 i o ho).1 e (aD.2 he);rw[hb]at this;exact aX (Nat.lt_succ_self _) (by simpa [jE]using this);have:=(g1 i o ho).2;simp only[bF,aa]at this;rcases this with(h|⟨ha,hw⟩)|h;exact .inl (af h);refine .inr (.inl ⟨J0L.1 ha, ?_⟩);obtain⟨e,he,hq⟩:=cg.1 hw;simp only[aa,bF]at hq;exact⟨e,aD.1 he,hq.1,hq.2.imp af J0L.1⟩;obtain⟨x,hx,e⟩:=cg.1 h;exact .inr (.inr ⟨x,hx,af e⟩);have:=h2 x hx;simp only[aa]at this;obtain⟨a1,a2,a3,a4⟩:=this;refine⟨neB a1,λhm=> ?_,neB a3, ?_⟩;rw[J0L.2 hm]at a2;cases a2;rw[toL]at a4
  cases ho:ops[x.1]? with
  |none=>rw[ho]at a4;cases a4
  |some o=>
    rw[ho]at a4;simp only[aa,cJ]at a4;obtain⟨b1,b2,b3,b4,b5⟩:=a4;exact⟨o,rfl,B0f b1,w0E b2,b3,b4,λa ha=>List.all_eq_true.1 b5 a (aD.2 ha)⟩
  rw[toL]at h5
  cases ho:ops[p]? with
  |none=>rw[ho]at h5;cases h5
  |some o=>
    rw[ho]at h5;simp only[aa]at h5;obtain⟨b1,b2,b5⟩:=h5;exact⟨o,rfl,B0f b1,w0E b2,λa ha=>List.all_eq_true.1 b5 a (aD.2 ha)⟩
theorem A0l: ∀ {V:List (Nat×Nat×SV)},t0J (V.map λx=>x.2.1)=yA-> ∀x∈V,lk (V.map (λy=>y.2)++L) x.2.1=x.2.2
  | [],_,x,hx=>by cases hx
  |y::V,h,x,hx=>by
    simp only[ah,t0J,aa]at h;simp only[ah,aK,lk];rcases aG.1 hx with rfl|hx;rw[cL];rfl;have hne:y.2.1≠x.2.1:=neB (List.all_eq_true.1 h.1 _ (aN.2 ⟨x,hx,rfl⟩))
    have:jC x.2.1 y.2.1=false:=by
      cases hb:jC x.2.1 y.2.1 with
      |false=>rfl
      |true=>exact absurd (af hb).symm hne
    rw[this];exact A0l h.2 x hx
theorem A0m: ∀ {V:List (Nat×Nat×SV)} {t:Nat},(∀x∈V,x.2.1≠t)->lk (V.map (λy=>y.2)++L) t=lk L t
  | [],t,_=>rfl
  |y::V,t,h=>by
    simp only[ah,aK,lk]
    have:jC t y.2.1=false:=by
      cases hb:jC t y.2.1 with
      |false=>rfl
      |true=>exact absurd (af hb).symm (h y (av ..))
    rw[this];exact A0m λx hx=>h x (ao _ hx)
structure PivI (ops:Array Oper) (V:List (Nat×Nat×SV)) (L:LE) (listed:Array Bool) (ρ:Env):Prop where
  size:listed.size=ops.size
  sub: ∀i,i<ops.size->listed.getD i oA=yA-> ∃x∈V,x.1=i
  has: ∀x∈V,listed.getD x.1 oA=yA->ρ x.2.1=x.2.2
  old: ∀t,(∀x∈V,x.2.1≠t)->ρ t=lk L t
theorem p0l (h:i<listed.size)(a b:Bool):listed.getD i a=listed.getD i b:=by simp[yF,h]
theorem PivI.agree (hI:PivI ops V L listed ρ)(ho:t0J (V.map λx=>x.2.1)=yA) (hr: ∀e∈o.after,oD .any e=yA->listed.getD e.on oA=yA) {x:Operand} (hx:p0W V d o x=yA):
    a0L ρ x=a0L (a0w (V.map (λy=>y.2)++L)) x:=by
  cases x<;>try rfl
  rename_i t;show qA (ρ t)=qA (lk _ t);simp only[p0W,aa]at hx;by_cases hex: ∃y∈V,y.2.1=t;obtain⟨y,hy,rfl⟩:=hex;have:=List.all_eq_true.1 hx.2 y hy;rw[cL]at this;rw[bD,bY]at this;obtain⟨e,he,hq⟩:=cg.1 this;simp only[aa]at hq;have h1:=hr e (aD.1 he) hq.1;rw[af hq.2]at h1;rw[hI.has y hy h1,A0l ho y hy];have hn: ∀x∈V,x.2.1≠t:=λx hx e=>hex ⟨x,hx,e⟩
  rw[hI.old t hn,A0m hn]
theorem z0R: ∀ {V:List (Nat×Nat×SV)},t0J (V.map λx=>x.2.1)=yA-> ∀x∈V,∀y∈V,x.2.1=y.2.1->x=y
  | [],_,x,hx,_,_=>by cases hx
  |z::V,h,x,hx,y,hy=>by
    intro e;simp only[ah,t0J,aa]at h;have hne: ∀q∈V,z.2.1≠q.2.1:=λq hq=>neB (List.all_eq_true.1 h.1 _ (aN.2 ⟨q,hq,rfl⟩))
    rcases aG.1 hx with hx1|hx1<;>rcases aG.1 hy with hy1|hy1
    rw[hx1,hy1];rw[hx1]at e;exact absurd e (hne y hy1);rw[hy1]at e;exact absurd e.symm (hne x hx1);exact z0R h.2 x hx1 y hy1 e
theorem PivI.step (hI:PivI ops V L listed ρ)(hk:D0M ops V W p d) {x:Nat×Nat×SV} (hx:x∈V)(hn:listed.getD x.1 yA=oA):PivI ops V L (listed.setIfInBounds x.1 yA) (g0R ρ (qA x.2.1) x.2.2):=by
  have hlt:x.1<listed.size:=by
    rcases bC x.1 listed.size with h|h;exact h;simp[yF,dg.2 h]at hn
  refine⟨by simp[hI.size],λi hi h=> ?_,λy hy h=> ?_,λt ht=> ?_⟩;by_cases e:i=x.1;exact⟨x,hx,e.symm⟩;rw[getD_set_ne oA (Ne.symm e)]at h;exact hI.sub i hi h;simp only[g0R,upd];split;rename_i e;rw[z0R hk.only y hy x hx e];rename_i e
  have hne:y.1≠x.1:=λe1=>by
    obtain⟨_,_,_,o1,q1,q2,_⟩:=hk.quiet y hy;obtain⟨_,_,_,o2,r1,r2,_⟩:=hk.quiet x hx;rw[e1,r1]at q1;cases q1;rw[r2]at q2;exact e (al q2).symm
  rw[getD_set_ne oA (Ne.symm hne)]at h;exact hI.has y hy h;simp only[g0R,upd];rw[oB (λe=>ht x hx e.symm)];exact hI.old t ht
theorem t0C(hk:D0M ops V W p d) (hs:listed.size=ops.size)(hp:listed.getD p yA=oA):vE .any ops listed≠ []:=by
  have hex: ∃i,i<ops.size/\listed.getD i yA=false:=by
    obtain⟨o,ho,_⟩:=hk.piv;exact⟨p,(ai.1 ho).1,hp⟩
  have key: ∀n i,i<=n->i<ops.size->listed.getD i yA=oA-> ∃j,j∈vE .any ops listed:=by
    intro n
    induction n with
    |zero=>
      intro i hi hlt hn;refine⟨i,mem_ready.2 ⟨hn,ops[i],aL hlt,λe he hb=> ?_⟩⟩;have:=hk.back i _ (aL hlt) e he hb;omega
    |succ n ih=>
      intro i hi hlt hn;by_cases hall: ∀e∈ops[i].after,oD .any e=yA->listed.getD e.on oA=yA;exact⟨i,mem_ready.2 ⟨hn,ops[i],aL hlt,hall⟩⟩;have⟨e,he⟩:=Classical.not_forall.1 hall;have⟨h1,h2⟩:=Classical.not_imp.1 he;have⟨h3,h4⟩:=Classical.not_imp.1 h2;have hb:=hk.back i _ (aL hlt) e h1 h3;refine ih e.on (by omega) (by omega) ?_;rw[p0l (by omega) yA oA];simpa using h4
  obtain⟨i,h1,h2⟩:=hex;obtain⟨j,hj⟩:=key i i (am _) h1 h2;intro e;rw[e]at hj;cases hj
theorem w0z {H:a0e} (h:n0Q P ops V L H=V.map λx=>qA (x.2.2,[])) {x:Nat×Nat×SV} (hx:x∈V) (ho:ops[x.1]?=qA o):
    ∃rd,a0E P o (a0w (V.map (λy=>y.2)++L)) H 0=qA ⟨x.2.2,rd,[]⟩:=by
  unfold n0Q at h;have:=List.map_inj_left.1 h x hx;rw[toL,ho]at this;simp only at this
  cases he:a0E P o (a0w (V.map (λy=>y.2)++L)) H 0 with
  |none=>rw[he]at this;cases this
  |some ef=>
    rw[he]at this;obtain⟨v,rd,wr⟩:=ef;have h2:=al this;simp only[aP]at h2;obtain⟨rfl,rfl⟩:=h2;exact⟨rd,rfl⟩
variable {F : Fr} {Q : e0G} {H : a0e}
theorem z0J(hk:D0M ops V W p d)(hq:n0Q P ops V L H=V.map λx=>qA (x.2.2,[]))(hb: ∀o∈ops.toList,Oper.inB F.n ops o=yA) (ho0:ops[p]?=qA o0) {R:Nat->Array Bool->Env->Prop}
    (hR0: ∀listed ρ,listed.size=ops.size->listed.getD p yA=oA->R 0 listed ρ->False)
    (hR: ∀fuel listed ρ x,x∈V->x.1∈vE .any ops listed->PivI ops V L listed ρ->R (fuel+1) listed ρ->R fuel (listed.setIfInBounds x.1 yA) (g0R ρ (qA x.2.1) x.2.2))
    (hp: ∀fuel listed ρ a w,p∈vE .any ops listed->PivI ops V L listed ρ->St F ρ H a w->R (fuel+1) listed ρ->o0.wp P a w (wpAny P .any ops Q fuel (listed.setIfInBounds p yA)) Q):
    ∀(fuel:Nat) (listed:Array Bool) (ρ:Env) (a:Act) (w:World),St F ρ H a w->PivI ops V L listed ρ->listed.getD p yA=oA->R fuel listed ρ->wpAny P .any ops Q fuel listed a w:=by
  intro fuel
  induction fuel with
  |zero=>intro listed ρ a w hst hI hn hr;exact(hR0 _ _ hI.size hn hr).elim
  |succ fuel ih=>
    intro listed ρ a w hst hI hn hr;refine⟨λh0=>absurd h0 (t0C hk hI.size hn),λi hi=> ?_⟩;obtain⟨hi1,o,ho,hall⟩:=mem_ready.1 hi;have hlt:i<ops.size:=(ai.1 ho).1;unfold wpOp;simp only[ho];by_cases hip:i=p;subst hip;rw[ho]at ho0;cases ho0;obtain⟨o',q1,q2,q3,q4⟩:=hk.piv;rw[ho]at q1;cases q1;rw[yB (by unfold wG;rw[q3])];exact .inl (hp fuel listed ρ a w hi hI hst hr);rcases hk.all i o ho with h|⟨h1,e,he,hbnd,h2⟩|⟨x,hx,rfl⟩;exact absurd h hip;exfalso;have hl:=hall e he hbnd;rcases h2 with h2|h2;rw[h2]at hl
    rw[p0l (by
      rcases bC p listed.size with h|h;exact h
      simp[yF,dg.2 h]at hn) yA oA,hl]at hn
    cases hn;have hlt2:e.on<ops.size:=Nat.lt_trans (hk.back i o ho e he hbnd) hlt;obtain⟨y,hy,e2⟩:=hI.sub e.on hlt2 hl;exact(hk.quiet y hy).2.1 (by rw[e2];exact h2);obtain⟨z1,z2,z3,o',q1,q2,q3,q4,q5,q6⟩:=hk.quiet x hx;rw[ho]at q1;cases q1;obtain⟨rd,hev⟩:=w0z hq hx ho;have hev2:a0E P o ρ H 0=qA ⟨x.2.2,rd,[]⟩:=g0o (λy hy=>(hI.agree hk.only hall (q6 y hy)).symm) hev (λ_ _=>rfl);rw[yB (by unfold wG;rw[q3])];refine .inl ?_;obtain⟨hd,K,D,hinv⟩:=hst;have hbo:=hb o (aD.2 (Array.mem_of_getElem? ho));rw[n0V q4 0 H.length]at hev2;refine v0p hinv hd (Oper.inB_op hbo) (.inl rfl) hev2 λa' w' hst'=> ?_
    rw[q2]at hst';refine ih _ _ a' w' hst' (hI.step hk hx hi1) ?_ (hR fuel listed ρ x hx hi hI hr);rw[getD_set_ne yA (Ne.symm (Ne.symm z1))];exact hn
theorem y0F (ho0:ops[p]?=qA o0): ∀(fuel:Nat) (listed:Array Bool) (a:Act) (w:World),listed.getD p yA=yA->wpAny P .any (c0S ops p d) Q fuel listed a w->wpAny P .any ops Q fuel listed a w:=by
  have hpo:c0S ops p d=ops.setIfInBounds p (p0T o0 d):=by unfold c0S;rw[ho0]
  have hat: ∀j,(c0S ops p d)[j]?=if p=j then qA (p0T o0 d)else ops[j]?:=λj=>by
    rw[hpo,bK];split;rename_i e;rw[yB (ai.1 ho0).1];rfl
  have hdst: ∀j,((c0S ops p d)[j]?).bind Oper.dst=(ops[j]?).bind Oper.dst:=λj=>by
    rw[hat];split;rename_i e;subst e;rw[ho0];rfl;rfl
  have hrd: ∀listed,vE .any (c0S ops p d) listed=vE .any ops listed:=λlisted=>by
    unfold vE;rw[show(c0S ops p d).size=ops.size by rw[hpo];simp];refine List.filter_congr λj _=> ?_
    rw[hat];split;rename_i e;subst e;rw[ho0];rfl;rfl
  have hy: ∀a:Act,yielded (c0S ops p d) a.tmps=yielded ops a.tmps:=λa=>funext λj=>by
    unfold yielded;rw[hdst]
  intro fuel
  induction fuel with
  |zero=>intro listed a w hp h;exact⟨by rw[<-hrd];exact h.1,h.2⟩
  |succ fuel ih=>
    intro listed a w hp h;refine⟨λh0=>h.1 (by rw[hrd];exact h0),λi hi=> ?_⟩
    have hne:i≠p:=λe=>by
      have:=(mem_ready.1 hi).1;rw[e,hp]at this;cases this
    have h2:=h.2 i (by rw[hrd];exact hi)
    have h3:wpOp P ops Q i (wpAny P .any (c0S ops p d) Q fuel (listed.setIfInBounds i yA)) a w:=by
      unfold wpOp at h2⊢;rw[hat,oB (Ne.symm hne),hy]at h2;exact h2
    exact wpOp_mono (λa' w' hh=>ih _ a' w' (by rw[getD_set_ne yA hne];exact hp) hh) h3
theorem F0K (ho0:ops[p]?=qA o0)(hd:jE d F.n=yA)(hb: ∀o∈ops.toList,Oper.inB F.n ops o=yA): ∀o∈(c0S ops p d).toList,Oper.inB F.n (c0S ops p d) o=true:=by
  have hpo:c0S ops p d=ops.setIfInBounds p (p0T o0 d):=by unfold c0S;rw[ho0]
  have hdst: ∀j,((c0S ops p d)[j]?).bind Oper.dst=(ops[j]?).bind Oper.dst:=λj=>by
    rw[hpo,bK];split;rename_i e;rw[yB (ai.1 ho0).1,<-e,ho0];rfl;rfl
  intro o ho;obtain⟨j,hj⟩:=List.getElem?_of_mem ho;rw[toL,hpo,bK]at hj;split at hj;split at hj;cases hj;have h0:=hb o0 (aD.2 (Array.mem_of_getElem? ho0));unfold Oper.inB at h0⊢;simp only[aa]at h0⊢;refine⟨?_, ?_⟩;show Op.inB F.n (.move (.tmp d))=yA;have:d<F.n:=aj hd;simp[Op.inB,qB,Operand.inB,this];have h2:=h0.2;show(match o0.guard with|none=>yA|some (j,_)=>_)=yA
  cases hg:o0.guard with
  |none=>rfl
  |some g=>
    rw[hg]at h2;obtain⟨j,b⟩:=g;simp only at h2⊢;rw[hdst];exact h2
  cases hj;have h0:=hb o (aD.2 (Array.mem_of_getElem? hj));unfold Oper.inB at h0⊢;simp only[aa]at h0⊢;refine⟨h0.1, ?_⟩;have h2:=h0.2
  cases hg:o.guard with
  |none=>rfl
  |some g=>
    rw[hg]at h2;obtain⟨j,b⟩:=g;simp only at h2⊢;rw[hdst];exact h2
theorem y0Z(n:Nat)(hn:n=ops.size):PivI ops V L (vD n oA) (a0w L):=by
  subst hn;refine⟨by simp,λi hi h=> ?_,λx hx h=> ?_,λt _=>rfl⟩;simp[yF,hi]at h;exfalso;rcases bC x.1 ops.size with hh|hh;simp[yF,hh]at h;simp[yF,dg.2 hh]at h
theorem St.drew (h:St F ρ H a w):St F ρ H a w.drew:=by
  obtain⟨hd,K,D,hi⟩:=h;exact⟨hd,K,D,⟨hi.slots.mono λ_ _=>World.drew_rep,hi.hinv.drew,hi.grow.trans (Grow.drew _ _ _ _)⟩⟩
theorem St.reserve (h:St F ρ H a w)(m:Nat):St F ρ (H++wD m .res) a w:=by
  obtain⟨hd,K,D,hi⟩:=h;exact⟨hd,K,D,hi.reserve m⟩
end
section
variable {F : Fr} {P : Program} {c : Code} {L : LE} {H : a0e} {Q : e0G}
theorem K.pivP(h:m0v yA c=yA)(hm:P.follows .mixedOrders=yA)(V:List (Nat×Nat×SV))(W:List Nat)(p d:Nat)(hb:I0A (f0J c) V W p d=yA)(hq:n0Q P (f0J c) V L H=V.map λx=>qA (x.2.2,[]))
 (hc:s0d (f0J c) p V L=qA (f,args)) (σ:List Nat) (ha:args=SV.rnL (a0Y σ) args0) (hl:σ.length=H0.length) (hg:σ.map (λi=>H[i]?)=H0.map (λen=>qA (Ent.rn (a0Y σ) en))) (hn:σ.Nodup) (hr0:H0.all (Ent.refs H0.length)=yA)
    (hlive:H0.all e0y=yA) (hr:SV.refsL H0.length args0=yA) (hle:LeL args0 args') (hs:SP P f args' H0 H0') (hle':oC H0.length H0'.length=yA)
    (hH:c0E (a0Y σ) H0.length H H0'=H2) (k:PP F Q [] H2):J F P c L H Q:=by
  subst hH;cases c<;>first|cases h|skip
  rename_i id ops dr
  cases dr with
  |false=>cases h
  |true=>
  simp only[f0J]at*;have hk:=z0K hb;obtain⟨o0,ho0,q2,q3,q4⟩:=hk.piv;have hfr:=SP.frame (SP.weak hs hle) (Sel.of σ hl hg hn hr0) (λen hm=>List.all_eq_true.1 hlive en hm) hr (aj hle');rw[<-ha]at hfr;intro hin a w hst;simp only[b0G,qD]at hin;refine wp_region_any hm ?_;refine z0J (H:=H) (ρ:=a0w L) (R:=λfuel listed ρ=>u0f ops listed<=fuel) hk hq hin ho0 (λlisted ρ hsz hp h0=> ?_) (λfuel listed ρ x hx hx2 hI hle=> ?_) (λfuel listed ρ a w hpr hI hst hR=> ?_) ops.size _ a _ hst.drew (y0Z _ rfl) ?_ ?_;have hlt:=(ai.1 ho0).1;rw[p0l (by rw[hsz];exact hlt) yA oA]at hp;have:=u0e hlt hsz hp;omega;have hlt:x.1<ops.size:=(ai.1 (mem_ready.1 hx2).2.choose_spec.1).1;have hp:=(mem_ready.1 hx2).1;rw[p0l (by rw[hI.size];exact hlt) yA oA]at hp;have:=u0e hlt hI.size hp;show u0f _ _<=_;have h9:u0f ops listed<=fuel+1:=hle;omega;obtain⟨hp1,o1,ho1,hall⟩:=mem_ready.1 hpr;rw[ho0]at ho1;cases ho1
  have hcc:d0L ρ o0=qA (f,args):=by
    rw[d0W (ρ':=a0w (V.map (λy=>y.2)++L)) (λy hy=>hI.agree hk.only hall (q4 y hy))];unfold s0d at hc;rw[toL,ho0]at hc;exact hc
  have hbo:=hin o0 (aD.2 (Array.mem_of_getElem? ho0));obtain⟨hd,K,D,hi⟩:=hst;obtain⟨vals,hrun,hvl,hvr⟩:=l0u (P:=P) hi.slots (Oper.inB_op hbo) hcc;unfold Oper.wp;rw[hrun hfr.1];refine(hfr.2 w K D vals hvl hvr hi.hinv hi.slots.glob).mono ?_;rintro e w' ⟨ch,rfl,hp,K',D',gr,hi',_⟩;refine k _ _ _ hp ⟨hd,K',D',⟨⟨hi.slots.size,λi hi2=> .undef _,(hi.slots.mono λ_ _=>gr.rep).glob⟩,hi',hi.grow.trans gr⟩⟩;have hlt:=(ai.1 ho0).1;simp[yF,hlt];show u0f ops _<=ops.size;unfold u0f;exact az (List.length_filter_le _ _) (by simp)
theorem z0X {d:Nat} {idx:Nat} :a0E P (p0T o d) ρ H idx=qA ⟨ρ d,[],[]⟩:=rfl
theorem K.piv(h:m0v yA c=yA)(hm:P.follows .mixedOrders=yA)(V:List (Nat×Nat×SV))(W:List Nat)(p d:Nat)(hb:I0A (f0J c) V W p d=yA)(hq:n0Q P (f0J c) V L H=V.map λx=>qA (x.2.2,[]))
 {H3:a0e} (hc:s0d (f0J c) p V L=qA (f,args)) (σ:List Nat) (ha:args=SV.rnL (a0Y σ) args0) (hl:σ.length=H0.length) (hg:σ.map (λi=>H[i]?)=H0.map (λen=>qA (Ent.rn (a0Y σ) en))) (hn:σ.Nodup) (hr0:H0.all (Ent.refs H0.length)=yA)
    (hlive:H0.all e0y=yA) (hr:SV.refsL H0.length args0=yA) (hle:LeL args0 args') (hs:SC P f args' H0 v0 H0') (hle':oC H0.length H0'.length=yA)
    (hv:SV.rn (gOf (a0Y σ) H0.length H.length) v0=v) (hH:c0E (a0Y σ) H0.length H H0'=H2) (hnn:H2.length=n) (hH3:H2++wD (d0J (c0S (f0J c) p d)) .res=H3) (hq2:n0Q P (f0J c) V L H3=V.map λx=>qA (x.2.2,[]))
    (hB:qG .any (c0S (f0J c) p d)=yA) (hd:jE d F.n=yA)
    (k:RJ F P (qA n) (c0S (f0J c) p d) 0 [] (e0n L (qA d) v) H3 Q):J F P c L H Q:=by
  subst hH;subst hv;subst hnn;subst hH3;cases c<;>first|cases h|skip
  rename_i id ops dr
  cases dr with
  |false=>cases h
  |true=>
  simp only[f0J]at*;have hk:=z0K hb;obtain⟨o0,ho0,q2,q3,q4⟩:=hk.piv;have hlt0:=(ai.1 ho0).1;have hfr:=SC.frame (SC.weak hs hle) (Sel.of σ hl hg hn hr0) (λen hm=>List.all_eq_true.1 hlive en hm) hr (aj hle');rw[<-ha]at hfr;generalize c0E (a0Y σ) H0.length H H0'=H2 at*;generalize SV.rn (gOf (a0Y σ) H0.length H.length) v0=v at*;generalize hH3:H2++wD (d0J (c0S ops p d)) .res=H3 at*;have hpo:c0S ops p d=ops.setIfInBounds p (p0T o0 d):=by unfold c0S;rw[ho0]
  have hat: ∀j,(c0S ops p d)[j]?=if p=j then qA (p0T o0 d)else ops[j]?:=λj=>by
    rw[hpo,bK];split
    first|rfl|(rw[yB hlt0])
    rfl
  have hsz:(c0S ops p d).size=ops.size:=by rw[hpo];simp
  have hrd: ∀listed,vE .any (c0S ops p d) listed=vE .any ops listed:=λlisted=>by
    unfold vE;rw[hsz];refine List.filter_congr λj _=> ?_
    rw[hat];split;rename_i e;subst e;rw[ho0];rfl;rfl
  intro hin a w hst;simp only[b0G,qD]at hin;refine wp_region_any hm ?_
  -- what is known of the rest
  have hB':=hB;simp only[qG,aa]at hB';obtain⟨es,_,hany,_⟩:=p0A (P:=P) (base:=H2.length) (ops:=c0S ops p d) (K:=fun ρ H=> ∀a w,St F ρ H a w->Q .normal a w) (c0S ops p d).toList [] (vD (c0S ops p d).size oA) (a0w (e0n L (qA d) v)) H3 (by simp) (λj o e hj=>by simp at hj) (λk hk=>absurd hk (cU _)) (by simpa using hB'.2) (k rfl);refine z0J (H:=H) (ρ:=a0w L) (R:=λfuel listed ρ=>B0N P .any (c0S ops p d) H2.length es (fun ρ H=> ∀a w,St F ρ H a w->Q .normal a w) fuel listed (g0R ρ (qA d) v) H3) hk hq hin ho0 (λlisted ρ hsz hp h0=> ?_) (λfuel listed ρ x hx hx2 hI hR=> ?_) (λfuel listed ρ a w hpr hI hst hR=> ?_) ops.size _ a _ hst.drew (y0Z _ rfl) ?_ ?_;have:=h0.1;rw[hrd]at this;exact t0C hk hsz hp this;obtain⟨z1,z2,z3,o',r1,r2,r3,r4,r5,r6⟩:=hk.quiet x hx;obtain⟨hi1,o1,ho1,hall⟩:=mem_ready.1 hx2;rw[r1]at ho1;cases ho1;obtain⟨o2,ef,g1,g2,g3,g4⟩:=hR.2 x.1 (by rw[hrd];exact hx2);rw[hat,oB (Ne.symm z1),r1]at g1;cases g1;obtain⟨rd,hev⟩:=w0z hq2 hx r1
  have hev2:a0E P o' (g0R ρ (qA d) v) H3 0=qA ⟨x.2.2,rd,[]⟩:=g0o (λy hy=>by
    have hy2:=r6 y hy
    rw[i0a (λt ht e=>by
      cases ht;subst e;simp only[p0W,aa]at hy2
      exact neB hy2.1 rfl)]
    exact(hI.agree hk.only hall hy2).symm) hev (λ_ _=>rfl)
  unfold opD at g3;have hgs:b0n (c0S ops p d) (g0R ρ (qA d) v) o'=qA true:=by unfold b0n;rw[r3]
  rw[hgs]at g3;simp only[r5,aI,if_false]at g3;rcases g3.1 with g5|g5;rw[n0V r4 _ 0,hev2]at g5;cases g5;simp only[a0Q,r2]at g4;rw[r0Z (λt ht e=>by cases ht;exact z3 (al e))]at g4;exact g4;rw[r4]at g5;cases g5.2
  · obtain⟨hp1,o1,ho1,hall⟩:=mem_ready.1 hpr
    rw[ho0]at ho1;cases ho1
    have hcc:d0L ρ o0=qA (f,args):=by
      rw[d0W (ρ':=a0w (V.map (λy=>y.2)++L)) (λy hy=>hI.agree hk.only hall (q4 y hy))];unfold s0d at hc;rw[toL,ho0]at hc;exact hc
    have hbo:=hin o0 (aD.2 (Array.mem_of_getElem? ho0));obtain⟨hdf,K,D,hi⟩:=hst;refine l0t hi hdf (Oper.inB_op hbo) hcc hfr λa' w' hst'=> ?_
    rw[q2]at hst';obtain⟨o2,ef,g1,g2,g3,g4⟩:=hR.2 p (by rw[hrd];exact hpr);rw[hat,yB rfl]at g1;cases g1;unfold opD at g3
    have hgs:b0n (c0S ops p d) (g0R ρ (qA d) v) (p0T o0 d)=qA true:=by
      show(match o0.guard with|none=>qA yA|some (j,want)=>_)=qA yA;rw[q3]
    rw[hgs]at g3;have hci:b0M (p0T o0 d)=false:=rfl;simp only[hci,aI,if_false]at g3
    have hself:g0R (g0R ρ (qA d) v) (qA d) v=g0R ρ (qA d) v:=by
      funext t;simp only[g0R,upd];split<;>rfl
    have hval:(g0R ρ (qA d) v) d=v:=by simp[g0R,upd]
    rcases g3.1 with g5|g5;rw[z0X,hval]at g5;cases g5;simp only[a0Q]at g4;have hds:(p0T o0 d).dst=qA d:=q2;rw[hds,hself]at g4;refine y0F ho0 fuel _ a' w' ?_ (q0B (KS:=fun ρ H=> ∀a w,St F ρ H a w->Q .normal a w) (fun ρ H a w hst hq=>hq a w hst) (F0K ho0 hd hin) fuel _ _ _ a' w' (by rw[<-hH3];exact hst'.reserve _) g4);have:p<listed.size:=by rw[hI.size];exact hlt0
    simp[yF,this];have:c0H (p0T o0 d)=false:=rfl;rw[this]at g5;cases g5.2
  simp[yF,hlt0];show B0N _ _ _ _ _ _ _ _ _ _;rw[b0o];have:(c0S ops p d).toList.length=ops.size:=by simp[hsz]
  rw[this]at hany;rw[hsz]at hany;simpa using hany
end
def J0W (P:Program)(fn:Func)(F:Fr)(hv:A->SV)(hH:A->a0e)(hP:B->a0e)(r:A⊕B):e0G:=match r with
  | .inl a=>r0f P fn F (hv a) (hH a)
  | .inr b=>G0Q F (hP b)
theorem H0T {fn:Func} {H:a0e} {r:A⊕B} (hv:A->SV)(hH:A->a0e)(hP:B->a0e)
    (h: ∀F:Fr,F.n=fn.ntmps->F.H0=H->(∀i,F.H0.length<=i->F.D0 i=none)->J F P (e0F fn) (e0z 0 args) H (J0W P fn F hv hH hP r))
    (hf:P.funcs[f]?=qA fn:=by kernel_rfl) (hb:fn.body.isSome=true:=by kernel_rfl) (hcal:b0J P f=true:=by kernel_rfl) (hin:b0G fn.ntmps (e0F fn)=true:=by kernel_rfl) (hn:oC args.length fn.ntmps=true:=by kernel_rfl):
    (∀a,r= .inl a->SC P f args H (hv a) (hH a))/\(∀b,r= .inr b->SP P f args H (hP b)):=by
  refine⟨λa e=> ?_,λb e=> ?_⟩;subst e;exact K.fn hf hb hcal hin hn h;subst e;exact K.fnP hf hb hcal hin hn h
end
section
variable [Inhabited GT]
section
variable {F : Fr} {P : Program} {m : Option Nat} {L : LE} {H : a0e} {Q : e0G} {ops : Array Oper} {p : Nat} {tr : List (List Nat × List Nat)} {c : Code}
theorem cF {X:Option α} {r:α} (d:Nat)(h:(bif b then X else none)=qA r)(k:X=qA r->J F P c ((d, .bool yA)::L) H Q)(hd:lk L d= .bool b:=by kernel_rfl):J F P c L H Q:=by
  cases b with
  |false=>cases h
  |true=>exact J.caseB d hd (λ_=>k h) (λhb=>by cases hb)
theorem cT {X:Option α} {r:α} (d:Nat)(h:(bif b then none else X)=qA r)(k:X=qA r->J F P c ((d, .bool oA)::L) H Q)(hd:lk L d= .bool b:=by kernel_rfl):J F P c L H Q:=by
  cases b with
  |true=>cases h
  |false=>exact J.caseB d hd (λhb=>by cases hb) (λ_=>k h)
theorem l0M {K V:Type} {ek:K->SV} {ev:V->SV} {eq:K->K->Bool} (heq: ∀a b,e0u (ek a) (ek b)=qA (eq a b))(x:K): ∀ms:List (K×V),e0A (b0P ek ev ms) (ek x)=qA ((e0q eq ms x).map ev)
  | []=>rfl
  |p::ms=>by
    have ih:=l0M (ev:=ev) heq x ms;simp only[b0P,ah,e0A,heq,e0q]at ih⊢
    cases eq x p.1 with
    |true=>rfl
    |false=>exact ih
def A0e(P:Program)(o:Oper)(ρ:Env)(H:a0e):Option (Nat×List (SV×SV)×IntKind×Int×SV×Bool):=
  match o.op with
  | .lookup t m k ok=>match P.underlying t,a0L ρ m,a0L ρ k with
    |some (.map kt et),qA (.mp i),qA (.int kd a)=>match H[i]?,x0m P et with
      |some (.map es),qA z=>if n0Z P kt (.int kd a)=yA then qA (i,es,kd,a,z,ok)else none
      |_,_=>none
    |_,_,_=>none
  |_=>none
theorem t0U {idx:Nat} {a:Int} {z:SV} {ok:Bool} (h:A0e P o ρ H=qA (i,es,kd,a,z,ok)) {r:Option SV} (hf:e0A es (.int kd a)=qA r):
    a0E P o ρ H idx=qA ⟨j0Z ok (r.getD z) r.isSome,[i],[]⟩:=by
  unfold A0e at h
  split at h
  · rename_i t m k ok' ho
    split at h
    · rename_i kt' et i' kd' a' hu hm hk
      split at h
      · rename_i es' z' hH hz
        split at h<;>cases h
        rename_i hkey;unfold a0E a0i a0p;simp only[ho];unfold i0F;rw[hu,hm,hk];simp only[hH];rw[yB hkey];have:k0y P kt' es (.int kd a)=qA r:=hf;rw[this,hz];cases r<;>rfl
      cases h
    cases h
  cases h
def A0f(P:Program)(m:Option Nat)(ops:Array Oper)(p:Nat)(tr:List (List Nat×List Nat))(L:LE)(H:a0e):Option (Option Nat×Nat×List (SV×SV)×IntKind×Int×SV×Bool×List (List Nat×List Nat)):=
  match ops.toList[p]? with
  |none=>none
  |some o=>match b0n ops (a0w L) o with
    |some yA=>bif b0M o then none else match A0e P o (a0w L) H with
      |some (i,es,kd,a,z,ok)=>bif okM m ops p o ⟨.undef,[i],[]⟩ tr H then qA (o.dst,i,es,kd,a,z,ok,trM m ops p o ⟨.undef,[i],[]⟩ tr)else none
      |none=>none
    |_=>none
theorem RJ.lookK (kd:IntKind)(ev:V->SV)(ms:List (Int×V))(x:Int)(zv:V) {ok:Bool}
    (h:A0f P m ops p tr L H=qA (d,i,b0P (λk:Int=> .int kd k) ev ms,kd,x,ev zv,ok,tr2))
    (k:RJ F P m ops (p+1) tr2 (e0n L d (j0Z ok (ev ((e0q (λa b:Int=>a==b) ms x).getD zv)) (e0q (λa b:Int=>a==b) ms x).isSome)) H Q):RJ F P m ops p tr L H Q:=by
  unfold A0f at h;split at h
  cases h
  · rename_i o ho
    split at h
    · rename_i hg
      cases hcc:b0M o with
      |true=>rw[hcc]at h;cases h
      |false=>
        rw[hcc]at h;simp only[vC]at h
        split at h
        · rename_i i2 es2 kd2 a2 z2 ok2 he
          cases hok:okM m ops p o ⟨.undef,[i2],[]⟩ tr H with
          |false=>rw[hok]at h;cases h
          |true=>
            rw[hok]at h;simp only[qC,ak,aP]at h;obtain⟨rfl,rfl,rfl,rfl,rfl,rfl,rfl,rfl⟩:=h;have hf:=l0M (ek:=λk:Int=>SV.int kd2 k) (ev:=ev) (eq:=λa b:Int=>a==b) (λa b=>by simp[e0u]) a2 ms;have hs:=t0U (idx:=B0K m ops p H) he hf;have e1:((e0q (λa b:Int=>a==b) ms a2).map ev).getD (ev zv)=ev ((e0q (λa b:Int=>a==b) ms a2).getD zv):=by cases e0q (λa b:Int=>a==b) ms a2<;>rfl
            have e2:((e0q (λa b:Int=>a==b) ms a2).map ev).isSome=(e0q (λa b:Int=>a==b) ms a2).isSome:=by cases e0q (λa b:Int=>a==b) ms a2<;>rfl
            rw[e1,e2]at hs;exact RJ.step ho hg hcc hs hok k
        cases h
    cases h
def A0C(P:Program)(o:Oper)(ρ:Env)(H:a0e):Option (Nat×List (SV×SV)×IntKind×Int×SV):=
  match o.op with
  | .mapUpdate t m k v=>match P.underlying t,a0L ρ m,a0L ρ k,a0L ρ v with
    |some (.map kt _),qA (.mp i),qA (.int kd a),qA sv=>match H[i]? with
      |some (.map es)=>if n0Z P kt (.int kd a)=yA then qA (i,es,kd,a,sv)else none
      |_=>none
    |_,_,_,_=>none
  |_=>none
theorem v0A {idx:Nat} {a:Int} (h:A0C P o ρ H=qA (i,es,kd,a,sv))(hf:e0A es (.int kd a)=qA none):
    a0E P o ρ H idx=qA ⟨.undef,[i],[(i, .map (es++ [(.int kd a,sv)]))]⟩:=by
  unfold A0C at h
  split at h
  · rename_i t m k v ho
    split at h
    · rename_i kt' et i' kd' a' sv' hu hm hk hv
      split at h
      · rename_i es' hH
        split at h<;>cases h
        rename_i hkey;unfold a0E a0i a0p;simp only[ho];unfold g0D;rw[hu,hm,hk,hv];simp only[hH];rw[yB hkey];have:k0y P kt' es (.int kd a)=qA none:=hf;rw[this]
      cases h
    cases h
  cases h
def w0O(P:Program)(m:Option Nat)(ops:Array Oper)(p:Nat)(tr:List (List Nat×List Nat))(L:LE)(H:a0e):Option (Option Nat×Nat×List (SV×SV)×IntKind×Int×SV×List (List Nat×List Nat)):=
  match ops.toList[p]? with
  |none=>none
  |some o=>match b0n ops (a0w L) o with
    |some yA=>bif b0M o then none else match A0C P o (a0w L) H with
      |some (i,es,kd,a,sv)=>bif okM m ops p o ⟨.undef,[i],[(i, .map [])]⟩ tr H then qA (o.dst,i,es,kd,a,sv,trM m ops p o ⟨.undef,[i],[(i, .map [])]⟩ tr)else none
      |none=>none
    |_=>none
theorem RJ.insK (kd:IntKind)(ev:V->SV)(ms:List (Int×V))(x:Int)(y:V)
    (h:w0O P m ops p tr L H=qA (d,i,b0P (λk:Int=> .int kd k) ev ms,kd,x,sv,tr2)) (hsv:sv=ev y) (hm:(e0q (λa b:Int=>a==b) ms x).isNone=yA)
    (hH:g0i H i (.map (b0P (λk:Int=> .int kd k) ev (ms++ [(x,y)])))=H2) (k:RJ F P m ops (p+1) tr2 (e0n L d .undef) H2 Q):RJ F P m ops p tr L H Q:=by
  subst hH;unfold w0O at h;split at h;cases h;rename_i o ho;split at h;rename_i hg
  cases hcc:b0M o with
  |true=>rw[hcc]at h;cases h
  |false=>
    rw[hcc]at h;simp only[vC]at h;split at h;rename_i i2 es2 kd2 a2 sv2 he
    cases hok:okM m ops p o ⟨.undef,[i2],[(i2, .map [])]⟩ tr H with
    |false=>rw[hok]at h;cases h
    |true=>
      rw[hok]at h;simp only[qC,ak,aP]at h;obtain⟨rfl,rfl,rfl,rfl,rfl,rfl,rfl⟩:=h;have hf:=l0M (ek:=λk:Int=>SV.int kd2 k) (ev:=ev) (eq:=λa b:Int=>a==b) (λa b=>by simp[e0u]) a2 ms;have hn:e0q (λa b:Int=>a==b) ms a2=none:=by simpa using hm
      rw[hn]at hf;have hs:=v0A (idx:=B0K m ops p H) he hf;have e1:b0P (λk:Int=> .int kd2 k) ev ms++ [(SV.int kd2 a2,sv2)]=b0P (λk:Int=> .int kd2 k) ev (ms++ [(a2,y)]):=by simp[b0P,hsv]
      rw[e1]at hs;exact RJ.step ho hg hcc hs hok k
    cases h
  cases h
def u0L {V:Type} (y:V)(x:Int):List (Int×V)->List (Int×V)
  | []=> [(x,y)]
  |p::r=>bif x==p.1 then(p.1,y)::r else p::u0L y x r
def C0p(es:List (SV×SV))(k v:SV):List (SV×SV):=match e0A es k with
  |some (qA _)=>C0c es k v
  |_=>es++ [(k,v)]
theorem x0D {ev:V->SV} (x:Int)(y:V)(ms:List (Int×V)):C0p (b0P (λk:Int=> .int kd k) ev ms) (.int kd x) (ev y)=b0P (λk:Int=> .int kd k) ev (u0L y x ms):=by
  induction ms with
  |nil=>rfl
  |cons p ms ih=>
    unfold C0p at ih⊢;simp only[b0P,ah,e0A,e0u,yB,u0L]at ih⊢
    cases hx:(x==p.1)with
    |true=>simp[C0c,e0u,hx]
    |false=>
      simp only[vC,ah,<-ih];split<;>simp[C0c,e0u,hx, *]
theorem v0b {idx:Nat} {a:Int} {q:Option SV} (h:A0C P o ρ H=qA (i,es,kd,a,sv))(hf:e0A es (.int kd a)=qA q):
    a0E P o ρ H idx=qA ⟨.undef,[i],[(i, .map (C0p es (.int kd a) sv))]⟩:=by
  unfold A0C at h
  split at h
  · rename_i t m k v ho
    split at h
    · rename_i kt' et i' kd' a' sv' hu hm hk hv
      split at h
      · rename_i es' hH
        split at h<;>cases h
        rename_i hkey;unfold a0E a0i a0p;simp only[ho];unfold g0D;rw[hu,hm,hk,hv];simp only[hH];rw[yB hkey];have:k0y P kt' es (.int kd a)=qA q:=hf;rw[this];unfold C0p;rw[hf];cases q<;>rfl
      cases h
    cases h
  cases h
theorem RJ.setK (kd:IntKind)(ev:V->SV)(ms:List (Int×V))(x:Int)(y:V)
    (h:w0O P m ops p tr L H=qA (d,i,b0P (λk:Int=> .int kd k) ev ms,kd,x,sv,tr2)) (hsv:sv=ev y)
    (hH:g0i H i (.map (b0P (λk:Int=> .int kd k) ev (u0L y x ms)))=H2) (k:RJ F P m ops (p+1) tr2 (e0n L d .undef) H2 Q):RJ F P m ops p tr L H Q:=by
  subst hH;unfold w0O at h;split at h;cases h;rename_i o ho;split at h;rename_i hg
  cases hcc:b0M o with
  |true=>rw[hcc]at h;cases h
  |false=>
    rw[hcc]at h;simp only[vC]at h;split at h;rename_i i2 es2 kd2 a2 sv2 he
    cases hok:okM m ops p o ⟨.undef,[i2],[(i2, .map [])]⟩ tr H with
    |false=>rw[hok]at h;cases h
    |true=>
      rw[hok]at h;simp only[qC,ak,aP]at h;obtain⟨rfl,rfl,rfl,rfl,rfl,rfl,rfl⟩:=h;have hf:=l0M (ek:=λk:Int=>SV.int kd2 k) (ev:=ev) (eq:=λa b:Int=>a==b) (λa b=>by simp[e0u]) a2 ms;have hs:=v0b (idx:=B0K m ops p H) he hf;rw[hsv,x0D]at hs;exact RJ.step ho hg hcc hs hok k
    cases h
  cases h
def A0i(P:Program)(o:Oper)(ρ:Env)(H:a0e):Option (Nat×Nat×Nat×List SV):=
  match o.op with
  | .load t x=>match a0L ρ x with
    |some (.ptr i off)=>match H[i]? with
      |some (.vec _ _ _ cs)=>match P.underlying t with
        |some (.struct _)=>qA (i,off,P.cellsOf t,cs)
        |_=>none
      |_=>none
    |_=>none
  |_=>none
theorem u0a {idx:Nat} {off:Nat} (h:A0i P o ρ H=qA (i,off,n,cs))(hl:n<=(cs.drop off).length):
    a0E P o ρ H idx=qA ⟨.agg ((cs.drop off).take n),[i],[]⟩:=by
  unfold A0i at h;split at h;rename_i t x ho;split at h;rename_i i' off' h1;split at h;rename_i n' k' e' cs' h2;split at h;rename_i fs hu;cases h;unfold a0E a0i a0p;simp only[ho,h1,h2,ab,b0R];unfold b0B;rw[hu];simp only[yB hl];rfl;cases h;cases h;cases h;cases h
def A0j(P:Program)(m:Option Nat)(ops:Array Oper)(p:Nat)(tr:List (List Nat×List Nat))(L:LE)(H:a0e):Option (Option Nat×Nat×Nat×Nat×List SV×List (List Nat×List Nat)):=
  match ops.toList[p]? with
  |none=>none
  |some o=>match b0n ops (a0w L) o with
    |some yA=>bif b0M o then none else match A0i P o (a0w L) H with
      |some (i,off,n,cs)=>bif okM m ops p o ⟨.undef,[i],[]⟩ tr H then qA (o.dst,i,off,n,cs,trM m ops p o ⟨.undef,[i],[]⟩ tr)else none
      |none=>none
    |_=>none
theorem RJ.loadS [Inhabited T] {enc:T->List SV} {xs:List T} (h:A0j P m ops p tr L H=qA (d,i,j.toNat*k,k,xs.flatMap enc,tr2))
    (hk: ∀x,(enc x).length=k) (hj:inR j xs.length=yA) (kk:RJ F P m ops (p+1) tr2 (e0n L d (.agg (enc (nth xs j)))) H Q):RJ F P m ops p tr L H Q:=by
  unfold A0j at h;split at h;cases h;rename_i o ho;split at h;rename_i hg
  cases hcc:b0M o with
  |true=>rw[hcc]at h;cases h
  |false=>
    rw[hcc]at h;simp only[vC]at h;split at h;rename_i i2 off2 n2 cs2 he
    cases hok:okM m ops p o ⟨.undef,[i2],[]⟩ tr H with
    |false=>rw[hok]at h;cases h
    |true=>
      rw[hok]at h;simp only[qC,ak,aP]at h;obtain⟨rfl,rfl,rfl,rfl,rfl,rfl⟩:=h;have hf:=v0L hk hj
      have hl:n2<=((xs.flatMap enc).drop (j.toNat*n2)).length:=by
        have:=congrArg List.length hf;rw[aQ,hk]at this;omega
      have hs:=u0a (idx:=B0K m ops p H) he hl;rw[hf]at hs;exact RJ.step ho hg hcc hs hok kk
    cases h
  cases h
end
end
section
variable [Inhabited GT]
section
variable {F : Fr} {P : Program} {m : Option Nat} {L : LE} {H : a0e} {Q : e0G} {ops : Array Oper} {p : Nat} {tr : List (List Nat × List Nat)} {c : Code}
theorem kc(q:Nat)(k:RJ F P none ops (p+q) [] (lOf (j0s P none ops q p [] L H)) (hOf (j0s P none ops q p [] L H)) Q)(h:(j0s P none ops q p [] L H).isSome=true:=by kernel_rfl):RJ F P none ops p [] L H Q:=by
  cases hr:j0s P none ops q p [] L H with
  |none=>rw[hr]at h;cases h
  |some r=>
    obtain⟨tr1,L1,H1⟩:=r;rw[hr]at k;refine l0D q p [] L H tr1 L1 H1 hr ?_;intro hin a w hs;exact k hin a w hs
theorem ke(q:Nat)(k:PJ F Q .normal (lOf (j0s P none ops q p [] L H)) (hOf (j0s P none ops q p [] L H)))(h:(j0s P none ops q p [] L H).isSome=true:=by kernel_rfl)(hp:oC ops.size (p+q)=true:=by kernel_rfl):RJ F P none ops p [] L H Q:=kc q (RJ.end hp k) h
theorem kr {c:Code} (q:Nat)(k:J F P c (lOf (j0s P none ops q p [] L H)) (hOf (j0s P none ops q p [] L H)) Q)(h:(j0s P none ops q p [] L H).isSome=true:=by kernel_rfl)(hp:oC ops.size (p+q)=true:=by kernel_rfl):RJ F P none ops p [] L H (k0k F P c Q):=kc q (RJ.end hp (PJ.next k)) h
theorem km(q:Nat)(k:RJ F P none (f0J c) q [] (lOf (j0s P none (f0J c) q 0 [] L H)) (hOf (j0s P none (f0J c) q 0 [] L H)) Q)(h:m0v oA c=true:=by kernel_rfl)(h2:(j0s P none (f0J c) q 0 [] L H).isSome=true:=by kernel_rfl):J F P c L H Q:=K.region h (kc q (by rw[bh];exact k) h2)
theorem kM(k:PJ F Q .normal (lOf (j0s P none (f0J c) (f0J c).size 0 [] L H)) (hOf (j0s P none (f0J c) (f0J c).size 0 [] L H)))(h:m0v oA c=true:=by kernel_rfl)(h2:(j0s P none (f0J c) (f0J c).size 0 [] L H).isSome=true:=by kernel_rfl):J F P c L H Q:=
  K.region h (ke (f0J c).size k h2 (by rw[bh];exact Nat.ble_eq_true_of_le (am _)))
theorem kn(q:Nat)(k:RJ F P none (f0J (cl c)) q [] (lOf (j0s P none (f0J (cl c)) q 0 [] L H)) (hOf (j0s P none (f0J (cl c)) q 0 [] L H)) (k0k F P (cr c) Q))(h:q0j c=true:=by kernel_rfl)(h1:m0v oA (cl c)=true:=by kernel_rfl)(h2:(j0s P none (f0J (cl c)) q 0 [] L H).isSome=true:=by kernel_rfl):J F P c L H Q:=K.seq h (km q k h1 h2)
theorem kq(k:J F P (cr c) (lOf (j0s P none (f0J (cl c)) (f0J (cl c)).size 0 [] L H)) (hOf (j0s P none (f0J (cl c)) (f0J (cl c)).size 0 [] L H)) Q)(h:q0j c=true:=by kernel_rfl)(h1:m0v oA (cl c)=true:=by kernel_rfl)(h2:(j0s P none (f0J (cl c)) (f0J (cl c)).size 0 [] L H).isSome=true:=by kernel_rfl):J F P c L H Q:=K.seq h (kM (PJ.next k) h1 h2)
theorem kKN {d:Code} (k:J F P d L H Q)(h:u0h c=true:=by kernel_rfl):J F P c L H (k0k F P d Q):=K.skip h (PJ.next k)
def x0e(d:Nat):Code->Bool| .cond (.tmp t) _ _=>jC t d|_=>oA
theorem o0o {d:Nat} (h:x0e d c=yA):v0Z c ((d, .bool b)::L)=qA (.bool b):=by
  cases c<;>first|cases h|skip
  rename_i x a b';cases x<;>first|cases h|skip
  rename_i t;have:=af h;subst this;simp only[v0Z,a0L,a0w,lk];rw[show jC t t=yA from cL t];rfl
theorem kBT {X Y:α} {r:α} (d:Nat)(h:(bif b then X else Y)=r)(h1:X=r->J F P (ct c) ((d, .bool yA)::L) H Q)(h2:Y=r->J F P (ce c) ((d, .bool oA)::L) H Q)(hd:lk L d= .bool b:=by kernel_rfl)(hc:x0e d c=true:=by kernel_rfl):J F P c L H Q:=
  J.caseB d hd (λhb=>K.condT (o0o hc) (h1 (condT hb h))) (λhb=>K.condF (o0o hc) (h2 (condF hb h)))
theorem cFT {X:Option α} {r:α} (d:Nat)(h:(bif b then X else none)=qA r)(k:X=qA r->J F P (ct c) ((d, .bool yA)::L) H Q)(hd:lk L d= .bool b:=by kernel_rfl)(hc:x0e d c=true:=by kernel_rfl):J F P c L H Q:=cF d h (λhx=>K.condT (o0o hc) (k hx)) hd
theorem cTF {X:Option α} {r:α} (d:Nat)(h:(bif b then none else X)=qA r)(k:X=qA r->J F P (ce c) ((d, .bool oA)::L) H Q)(hd:lk L d= .bool b:=by kernel_rfl)(hc:x0e d c=true:=by kernel_rfl):J F P c L H Q:=cT d h (λhx=>K.condF (o0o hc) (k hx)) hd
/-! Ends. -/
theorem kNo {R:S->LE×a0e} {a st:S} (h:qA a=qA st)(ts:List Nat)(hL:f0K ts L=(R a).1:=by kernel_rfl)(hH:H=(R a).2:=by kernel_rfl):PJ F (cutN F R st) .normal L H:=by
  obtain rfl:=oi h;exact PJ.cutN ts hL hH
theorem kXo {R:S->LE×a0e} {a:S} {y:S⊕X} (h:qA (.inl a)=qA y)(ts:List Nat)(hL:f0K ts L=(R a).1:=by kernel_rfl)(hH:H=(R a).2:=by kernel_rfl):PJ F (cutX F R Q y) .normal L H:=by
  obtain rfl:=oi h;exact PJ.cutXl ts hL hH
theorem kLo {R:S->LE×a0e} {o:O} {a:S} {y:S⊕O} (h:qA (.inl a)=qA y)(ts:List Nat)(hL:f0K ts L=(R a).1:=by kernel_rfl)(hH:H=(R a).2:=by kernel_rfl):PJ F (n0d F R Q o y) .normal L H:=by
  obtain rfl:=oi h;exact PJ.loopNext ts hL hH
theorem kNW {R:S->LE×a0e} {a st:S} (h:qA a=qA st)(hm:F.H0=H0)(hdom: ∀i,F.H0.length<=i->F.D0 i=none)(σ:List Nat)(hl:σ.length=(R a).2.length:=by kernel_rfl)(hg:σ.map (λi=>H[i]?)=(R a).2.map (λen=>qA (Ent.rn (a0Y σ) en)):=by kernel_rfl)(hn:σ.Nodup:=by decide)
    (hr:(R a).2.all (Ent.refs (R a).2.length)=true:=by kernel_rfl) (hk:σ.take H0.length=wC H0.length:=by kernel_rfl) (hv:(R a).1.map (λp=>lk L p.1)=(R a).1.map (λp=>SV.rn (a0Y σ) p.2):=by kernel_rfl) (hvr:(R a).1.all (λp=>SV.refs (R a).2.length p.2)=true:=by kernel_rfl):PJ F (cutN F R st) .normal L H:=by
  obtain rfl:=oi h
  exact λx w hs=>⟨rfl,Wk.sel H0.length (by rw[hm]) hdom σ hl hg hn hr hk hv hvr x w hs⟩
theorem kXW {R:S->LE×a0e} {a:S} {y:S⊕X} (h:qA (.inl a)=qA y)(hm:F.H0=H0)(hdom: ∀i,F.H0.length<=i->F.D0 i=none)(σ:List Nat)(hl:σ.length=(R a).2.length:=by kernel_rfl)(hg:σ.map (λi=>H[i]?)=(R a).2.map (λen=>qA (Ent.rn (a0Y σ) en)):=by kernel_rfl)(hn:σ.Nodup:=by decide)
    (hr:(R a).2.all (Ent.refs (R a).2.length)=true:=by kernel_rfl) (hk:σ.take H0.length=wC H0.length:=by kernel_rfl) (hv:(R a).1.map (λp=>lk L p.1)=(R a).1.map (λp=>SV.rn (a0Y σ) p.2):=by kernel_rfl) (hvr:(R a).1.all (λp=>SV.refs (R a).2.length p.2)=true:=by kernel_rfl):PJ F (cutX F R Q y) .normal L H:=by
  obtain rfl:=oi h
  exact λx w hs=>⟨rfl,Wk.sel H0.length (by rw[hm]) hdom σ hl hg hn hr hk hv hvr x w hs⟩
theorem kLW {R:S->LE×a0e} {o:O} {a:S} {y:S⊕O} (h:qA (.inl a)=qA y)(hm:F.H0=H0)(hdom: ∀i,F.H0.length<=i->F.D0 i=none)(σ:List Nat)(hl:σ.length=(R a).2.length:=by kernel_rfl)(hg:σ.map (λi=>H[i]?)=(R a).2.map (λen=>qA (Ent.rn (a0Y σ) en)):=by kernel_rfl)(hn:σ.Nodup:=by decide)
    (hr:(R a).2.all (Ent.refs (R a).2.length)=true:=by kernel_rfl) (hk:σ.take H0.length=wC H0.length:=by kernel_rfl) (hv:(R a).1.map (λp=>lk L p.1)=(R a).1.map (λp=>SV.rn (a0Y σ) p.2):=by kernel_rfl) (hvr:(R a).1.all (λp=>SV.refs (R a).2.length p.2)=true:=by kernel_rfl):PJ F (n0d F R Q o y) .normal L H:=by
  obtain rfl:=oi h
  exact λx w hs=>⟨rfl,Wk.sel H0.length (by rw[hm]) hdom σ hl hg hn hr hk hv hvr x w hs⟩
theorem kZo {fn:Func} {a:R} {v:R->SV} (r:R)(h:qA a=qA r)(hn:F.n=fn.ntmps)(hH:F.H0=[])(hdom: ∀i,F.H0.length<=i->F.D0 i=none)(hin:i0w fn.ntmps fn.results.toList=true:=by kernel_rfl)(hret:r0W P fn.results.toList L H=qA (v a):=by kernel_rfl)(hr:SV.refs 0 (v a)=true:=by kernel_rfl):
    PJ F (r0f P fn F (v r) []) .ret L H:=by
  obtain rfl:=oi h;exact kZ hn hH hdom hin hret hr
/-! Binds. -/
theorem kcN {X:Option S} {k:S->Option T} {r:T} (h:X.bind k=qA r)(R:S->LE×a0e)(h1: ∀s,X=qA s->J F P (cl c) L H (cutN F R s))(h2: ∀s,k s=qA r->J F P (cr c) (R s).1 (R s).2 Q)(hc:q0j c=true:=by kernel_rfl):J F P c L H Q:=by
  obtain⟨s,e1,e2⟩:=a0I h;exact K.cutN hc R s (h1 s e1) (h2 s e2)
theorem kcX {M:Option (S⊕X)} {k:S->Option X} {r:X} (h:M.bind (a0x k)=qA r)(R:S->LE×a0e)(h1: ∀y,M=qA y->a0x k y=qA r->J F P (cl c) L H (cutX F R Q y))(h2: ∀s,k s=qA r->J F P (cr c) (R s).1 (R s).2 Q)(hc:q0j c=true:=by kernel_rfl):J F P c L H Q:=by
  obtain⟨y,e1,e2⟩:=a0I h;exact K.cutX hc R y (h1 y e1 e2) (λs hs=>by subst hs;exact h2 s (l0h e2))
theorem kIb [Inhabited T] {X:Option α} {r:α} {enc:T->List SV} {xs:List T} (d:Nat)(hk: ∀x,(enc x).length=k)(h:(bif inR j xs.length then X else none)=qA r)(kk:X=qA r->RJ F P none ops (p+1) [] (e0n L (qA d) (.ep (enc (nth xs j)))) H Q)
    (hh:p0Q P none ops p [] L H=qA (qA d,⟨.ep (((xs.flatMap enc).drop (j.toNat*k)).take k),[],[]⟩,inR j xs.length,[]):=by kernel_rfl):RJ F P none ops p [] L H Q:=
  kI d hk (c0l h).1 (kk (c0l h).2) hh
theorem kGb {X:Option α} {r:α} {s:List UInt8} (d:Nat)(h:(bif inR j s.length then X else none)=qA r)(kk:X=qA r->RJ F P none ops (p+1) [] (e0n L (qA d) (.int .u8 (((s.getD j.toNat 0).toNat:Nat):Int))) H Q)
    (hh:p0Q P none ops p [] L H=qA (qA d,⟨.int .u8 (((s.getD j.toNat 0).toNat:Nat):Int),[],[]⟩,inR j s.length,[]):=by kernel_rfl):RJ F P none ops p [] L H Q:=
  kG d (c0l h).1 (kk (c0l h).2) hh
theorem kAb {X:Option A} {k:A->Option R} {r:R} {v:A->SV} (d:Nat)(h:X.bind k=qA r)(hs: ∀y,X=qA y->SC P f args [] (v y) [])(kk: ∀y,k y=qA r->RJ F P none ops (p+1) [] (e0n L (qA d) (v y)) H Q)
    (hc:f0G none ops p [] L []=qA (qA d,f,args,[]):=by kernel_rfl) (hr:SV.refsL 0 args=true:=by kernel_rfl) (hv: ∀y,SV.refs 0 (v y)=true:=by intro _;kernel_rfl):RJ F P none ops p [] L H Q:=by
  obtain⟨y,e1,e2⟩:=a0I h;exact kA d (hs y e1) (kk y e2) hc hr (hv y)
theorem kAp {X:Option α} {r:α} {xs ys:List T} (d i k w e:Nat)(rd:List Nat)(enc:T->List SV)(h:(bif room (xs.length+ys.length)then X else none)=qA r)(kk:X=qA r->RJ F P none ops (p+1) [] (e0n L (qA d) (.vc k)) (b0H H [(i, .gone),(k,a0t enc w e (xs++ys))]) Q)
    (hh:p0Q P none ops p [] L H=qA (qA d,⟨.vc k,rd,[(i, .gone),(k, .vec (xs.length+ys.length) w e (xs.flatMap enc++ys.flatMap enc))]⟩,room (xs.length+ys.length),[]):=by kernel_rfl):RJ F P none ops p [] L H Q:=
  RJ.rel (ef':=⟨.vc k,rd,[(i, .gone),(k,a0t enc w e (xs++ys))]⟩) hh (c0l h).1 (λ_=>N.app) rfl (kk (c0l h).2)
/-! Ends and calls, their heaps as they come out. -/
theorem kPV (σ:List Nat)(hH:F.H0=H0)(hdom: ∀i,F.H0.length<=i->F.D0 i=none)(hl:σ.length=H'.length:=by kernel_rfl)(hg:σ.map (λi=>H[i]?)=H'.map (λen=>qA (Ent.rn (a0Y σ) en)):=by kernel_rfl)(hnd:σ.Nodup:=by decide)(hr:H'.all (Ent.refs H'.length)=true:=by kernel_rfl)
    (hk:σ.take H0.length=wC H0.length:=by kernel_rfl) (hle:oC H0.length H'.length=true:=by kernel_rfl):PP F (G0Q F H') L H:=K.panV σ hH hdom hl hg hnd hr hk hle
theorem kRV {fn:Func} (σ:List Nat)(he:e= .normal\/e= .ret)(hn:F.n=fn.ntmps)(hH:F.H0=H0)(hdom: ∀i,F.H0.length<=i->F.D0 i=none)(hin:i0w fn.ntmps fn.results.toList=true:=by kernel_rfl)(hret:r0W P fn.results.toList L H=qA (SV.rn (a0Y σ) v):=by kernel_rfl)
    (hl:σ.length=H'.length:=by kernel_rfl) (hg:σ.map (λi=>H[i]?)=H'.map (λen=>qA (Ent.rn (a0Y σ) en)):=by kernel_rfl) (hnd:σ.Nodup:=by decide) (hr:H'.all (Ent.refs H'.length)=true:=by kernel_rfl) (hk:σ.take H0.length=wC H0.length:=by kernel_rfl) (hle:oC H0.length H'.length=true:=by kernel_rfl)
    (hvr:SV.refs H'.length v=true:=by kernel_rfl):PJ F (r0f P fn F v H') e L H:=K.retV σ he hn hH hdom hin hret hl hg hnd hr hk hle rfl hvr
theorem kCP (d:Option Nat)(σ:List Nat)(hs:SP P f args0 H0 H0')(k:PP F Q L (c0E (a0Y σ) H0.length H H0'))(h:f0G none ops p [] L []=qA (d,f,SV.rnL (a0Y σ) args0,[]):=by kernel_rfl)
    (hl:σ.length=H0.length:=by kernel_rfl) (hg:σ.map (λi=>H[i]?)=H0.map (λen=>qA (Ent.rn (a0Y σ) en)):=by kernel_rfl) (hn:σ.Nodup:=by decide) (hr0:H0.all (Ent.refs H0.length)=true:=by kernel_rfl) (hlive:H0.all e0y=true:=by kernel_rfl) (hr:SV.refsL H0.length args0=true:=by kernel_rfl)
    (hle':oC H0.length H0'.length=true:=by kernel_rfl):RJ F P none ops p [] L H Q:=RJ.callP σ h rfl hl hg hn hr0 hlive hr (LeL.refl _) hs hle' rfl k
theorem kCg (d:Option Nat)(σ:List Nat)(hs:SC P f args0 H0 v0 H0')(kk:RJ F P none ops (p+1) [] (e0n L d (SV.rn (gOf (a0Y σ) H0.length H.length) v0)) (c0E (a0Y σ) H0.length H H0') Q)(h:f0G none ops p [] L []=qA (d,f,SV.rnL (a0Y σ) args0,[]):=by kernel_rfl)
    (hl:σ.length=H0.length:=by kernel_rfl) (hg:σ.map (λi=>H[i]?)=H0.map (λen=>qA (Ent.rn (a0Y σ) en)):=by kernel_rfl) (hn:σ.Nodup:=by decide) (hr0:H0.all (Ent.refs H0.length)=true:=by kernel_rfl) (hlive:H0.all e0y=true:=by kernel_rfl) (hr:SV.refsL H0.length args0=true:=by kernel_rfl)
    (hle':oC H0.length H0'.length=true:=by kernel_rfl):RJ F P none ops p [] L H Q:=RJ.callG σ h rfl hl hg hn hr0 hlive hr (LeL.refl _) hs hle' rfl rfl kk
theorem kDr(k:RJ F P (qA H.length) (f0J c) 0 [] L (H++wD (d0J (f0J c)) .res) Q)(h:m0v yA c=true:=by kernel_rfl)(hm:P.follows .mixedOrders=true:=by kernel_rfl)(hB:qG .any (f0J c)=true:=by kernel_rfl):J F P c L H Q:=K.draw h hm hB rfl rfl k
theorem kSB [Inhabited T] {enc:T->List SV} {o:Nat} {xs:List T} {tr:List (List Nat×List Nat)} (i:Nat)(tr2:List (List Nat×List Nat))(hk: ∀x,(enc x).length=k)(y:T)(hm:inP o j xs.length=yA)(kk:RJ F P m ops (p+1) tr2 L (b0H H [(i, .box ((a0W xs ((o:Int)+j) y).flatMap enc))]) Q)
    (h:z0w P m ops p tr L H=qA (none,⟨.undef,[i],[(i, .box (splice (xs.flatMap enc) (o*k+j.toNat*k) (enc y)))]⟩,oC (o*k+j.toNat*k+(enc y).length) (xs.flatMap enc).length,tr2):=by kernel_rfl):RJ F P m ops p tr L H Q:=
  RJ.relS (ef':=⟨.undef,[i],[(i, .box ((a0W xs ((o:Int)+j) y).flatMap enc))]⟩) h (y0Y hk hm) (λ_=>N.storeB hk hm) rfl kk
/-! Ways out, each in one step. -/
theorem kCx {R:S->LE×a0e} {x:X} {y:S⊕X} {k:S->Option X} {r:Option X} (hA:qA (.inr x)=qA y)(hC:a0x k y=r)(kk:qA x=r->PJ F Q e L H)(hne:e≠ .normal:=by exact λe=>nomatch e):PJ F (cutX F R Q y) e L H:=by
  obtain rfl:=oi hA;exact PJ.cutXr hne (kk hC)
theorem kLx {R:S->LE×a0e} {o o':O} {y:S⊕O} (hA:qA (.inr o')=qA y)(kk:qA o'=qA o->PJ F Q e L H)(hne:e≠ .normal:=by exact λe=>nomatch e):PJ F (n0d F R Q o y) e L H:=by
  obtain rfl:=oi hA;exact PJ.loopOut hne (λh=>kk (congrArg qA h))
theorem kEx(i:Nat)(k:PJ F Q (.exit i) L H)(h:A0A i c=true:=by kernel_rfl):J F P c L H Q:=K.exit i h k
theorem kEp {d:Code} (i:Nat)(k:PJ F Q (.exit i) L H)(h:A0A i c=true:=by kernel_rfl):J F P c L H (k0k F P d Q):=K.exit i h (PJ.passExit k)
theorem kKb (k:PJ F Q .normal L H)(h:u0h c=true:=by kernel_rfl):J F P c L H (vF i Q):=kK (PJ.blockNormal k) h
theorem kKn {d:Code} (k:J F P d L H Q)(h:u0h c=true:=by kernel_rfl):J F P c L H (vF i (k0k F P d Q)):=kK (PJ.blockNormal (PJ.next k)) h
theorem kXb (k:PJ F Q .ret L H)(h:D0g c=true:=by kernel_rfl):J F P c L H (vF i Q):=kX (PJ.blockRet k) h
theorem kXp {d:Code} (k:PJ F Q .ret L H)(h:D0g c=true:=by kernel_rfl):J F P c L H (vF i (k0k F P d Q)):=kX (PJ.blockRet (PJ.passRet k)) h
end
end
section
variable [Inhabited GT]
inductive Fm
  |thn (c:Code)
  |blk (i:Nat)
inductive Cf
  |cd (c:Code) (L:LE) (H:a0e) (k:List Fm)
  |rg (m:Option Nat) (ops:Array Oper) (p:Nat) (tr:List (List Nat×List Nat)) (L:LE) (H:a0e) (k:List Fm)
  |ex (e:Exit) (L:LE) (H:a0e) (k:List Fm)
  |pn (L:LE) (H:a0e) (k:List Fm)
def o0Q(F:Fr)(P:Program)(Q:e0G):List Fm->e0G
  | []=>Q
  | .thn c::k=>k0k F P c (o0Q F P Q k)
  | .blk i::k=>vF i (o0Q F P Q k)
structure FOk (F:Fr) (fn:Func) (H0:a0e):Prop where
  n:F.n=fn.ntmps
  h:F.H0=H0
  d: ∀i,F.H0.length<=i->F.D0 i=none
def Cf.den(F:Fr)(P:Program)(Q:e0G):Cf->Prop
  | .cd c L H k=>J F P c L H (o0Q F P Q k)
  | .rg m ops p tr L H k=>RJ F P m ops p tr L H (o0Q F P Q k)
  | .ex e L H k=>PJ F (o0Q F P Q k) e L H
  | .pn L H k=>PP F (o0Q F P Q k) L H
structure CJ (F:Fr) (P:Program) (fn:Func) (H0:a0e) (Q:e0G) (C:Cf):Prop where
  go:FOk F fn H0->C.den F P Q
def x0z(P:Program):Cf->Option Cf
  | .cd c L H k=>match c with
    | .seq a b=>qA (.cd a L H (.thn b::k))
    | .skip=>qA (.ex .normal L H k)
    | .exit i=>qA (.ex (.exit i) L H k)
    | .ret=>qA (.ex .ret L H k)
    | .block i a=>qA (.cd a L H (.blk i::k))
    | .region i ops d=>bif d then(bif P.follows .mixedOrders&&qG .any ops then qA (.rg (qA H.length) ops 0 [] L (H++wD (d0J ops) .res) k)else none)else qA (.rg none ops 0 [] L H k)
    | .cond x a b=>match v0Z (.cond x a b) L with
      |some (.bool v)=>qA (.cd (bif v then a else b) L H k)
      |_=>none
    |_=>none
  | .rg m ops p tr L H k=>bif oC ops.size p then qA (.ex .normal L H k)else match j0s P m ops 1 p tr L H with
    |some r=>qA (.rg m ops (p+1) r.1 r.2.1 r.2.2 k)
    |none=>none
  | .ex e L H k=>match k with
    | .thn c::k=>match e with
      | .normal=>qA (.cd c L H k)
      | .ret=>qA (.ex .ret L H k)
      | .exit i=>qA (.ex (.exit i) L H k)
      |_=>none
    | .blk j::k=>match e with
      | .normal=>qA (.ex .normal L H k)
      | .ret=>qA (.ex .ret L H k)
      | .exit i=>qA (.ex (bif jC i j then .normal else .exit i) L H k)
      |_=>none
    | []=>none
  | .pn L H k=>match k with
    |_::k=>qA (.pn L H k)
    | []=>none
def nm(P:Program):Nat->Cf->Option Cf
  |0,C=>qA C
  |n+1,C=>match x0z P C with
    |some C'=>nm P n C'
    |none=>none
section
variable {F : Fr} {P : Program} {fn : Func} {H0 : a0e} {Q : e0G} {C : Cf}
theorem C0l {C':Cf} (h:x0z P C=qA C')(k:C'.den F P Q):C.den F P Q:=by
  cases C with
  |cd c L H k'=>
    cases c<;>simp only[x0z]at h
    case region i ops d=>
      cases d with
      |false=>cases h;exact K.region rfl k
      |true=>
        simp only[qC]at h
        cases hb:(P.follows .mixedOrders&&qG .any ops)with
        |false=>rw[hb]at h;cases h
        |true=>
          rw[hb]at h;cases h;simp only[aa]at hb;exact kDr k rfl hb.1 hb.2
    case seq a b=>cases h;exact K.seq rfl k
    case skip=>cases h;exact J.skip k
    case exit i=>cases h;exact J.exit k
    case ret=>cases h;exact J.ret k
    case block i a=>cases h;exact J.block k
    case cond x a b=>
      split at h;rename_i v hv;cases h
      cases v with
      |true=>exact K.condT hv k
      |false=>exact K.condF hv k
      cases h
    all_goals cases h
  |rg m ops p tr L H k'=>
    simp only[x0z]at h
    cases hb:oC ops.size p with
    |true=>rw[hb]at h;cases h;exact RJ.end hb k
    |false=>
      rw[hb]at h;simp only[vC]at h;split at h;rename_i r hr;cases h;obtain⟨tr2,L2,H2⟩:=r;exact l0D 1 p tr L H tr2 L2 H2 hr k;cases h
  |ex e L H k'=>
    simp only[x0z]at h
    split at h
    · rename_i c k2
      split at h<;>cases h
      · exact PJ.next k
      exact PJ.passRet k;exact PJ.passExit k
    · rename_i j k2
      split at h<;>cases h
      exact PJ.blockNormal k;exact PJ.blockRet k;rename_i i
      cases hb:jC i j with
      |true=>rw[hb]at k;have:=af hb;subst this;exact PJ.blockOut k
      |false=>rw[hb]at k;exact PJ.blockPass hb k
    cases h
  |pn L H k'=>
    simp only[x0z]at h
    split at h
    · rename_i f k2
      cases h
      cases f with
      |thn c=>exact PP.next k
      |blk i=>exact PP.block k
    cases h
theorem f0w: ∀(n:Nat) {C C':Cf},nm P n C=qA C'->C'.den F P Q->C.den F P Q
  |0,C,C',h,k=>by cases h;exact k
  |n+1,C,C',h,k=>by
    unfold nm at h;split at h;rename_i C2 h2;exact C0l h2 (f0w n h k);cases h
end
end
section
variable [Inhabited GT]
def bOf:SV->Option Bool
  | .bool b=>qA b
  |_=>none
theorem B0A (h:bOf s=qA b):s= .bool b:=by cases s<;>cases h;rfl
def Cf.L:Cf->LE
  | .cd _ L _ _=>L
  | .rg _ _ _ _ L _ _=>L
  | .ex _ L _ _=>L
  | .pn L _ _=>L
def Cf.H:Cf->a0e
  | .cd _ _ H _=>H
  | .rg _ _ _ _ _ H _=>H
  | .ex _ _ H _=>H
  | .pn _ H _=>H
def Cf.re(L:LE)(H:a0e):Cf->Cf
  | .cd c _ _ k=> .cd c L H k
  | .rg m ops p tr _ _ k=> .rg m ops p tr L H k
  | .ex e _ _ k=> .ex e L H k
  | .pn _ _ k=> .pn L H k
section
variable {F : Fr} {P : Program} {fn : Func} {H0 : a0e} {Q : e0G} {C : Cf}
/-! A truth is told. -/
def brC(P:Program)(n:Nat)(C:Cf):Option Bool:=match nm P n C with
  |some (.cd (.cond (.tmp t) _ _) L _ _)=>bOf (lk L t)
  |_=>none
def tkC(P:Program)(n:Nat)(C:Cf)(v:Bool):Cf:=match nm P n C with
  |some (.cd (.cond (.tmp t) a b) L H k)=> .cd (bif v then a else b) ((t, .bool v)::L) H k
  |_=>C
theorem xB {X Y r:α} (n:Nat)(h:(bif b then X else Y)=r)(h1:X=r->CJ F P fn H0 Q (tkC P n C yA))(h2:Y=r->CJ F P fn H0 Q (tkC P n C oA))(hd:brC P n C=qA b:=by kernel_rfl):CJ F P fn H0 Q C:=by
  refine⟨λhF=> ?_⟩;unfold brC at hd;split at hd;rename_i t a b' L H k e;refine f0w n e (J.caseB t (B0A hd) (λhb=>K.condT (o0o (cL t)) ?_) (λhb=>K.condF (o0o (cL t)) ?_));have:=(h1 (condT hb h)).go hF;unfold tkC at this;rw[e]at this;exact this;have:=(h2 (condF hb h)).go hF;unfold tkC at this;rw[e]at this;exact this;cases hd
def brD(P:Program)(n:Nat)(C:Cf)(d:Nat):Option Bool:=match nm P n C with
  |some (.cd _ L _ _)=>bOf (lk L d)
  |some (.rg _ _ _ _ L _ _)=>bOf (lk L d)
  |_=>none
def tkD(P:Program)(n:Nat)(C:Cf)(d:Nat)(v:Bool):Cf:=match nm P n C with
  |some C'=>C'.re ((d, .bool v)::C'.L) C'.H
  |_=>C
theorem xb {X Y r:α} (d n:Nat)(h:(bif b then X else Y)=r)(h1:X=r->CJ F P fn H0 Q (tkD P n C d yA))(h2:Y=r->CJ F P fn H0 Q (tkD P n C d oA))(hd:brD P n C d=qA b:=by kernel_rfl):CJ F P fn H0 Q C:=by
  refine⟨λhF=> ?_⟩;unfold brD at hd;have q1:b=yA->(tkD P n C d yA).den F P Q:=λhb=>(h1 (condT hb h)).go hF
  have q2:b=oA->(tkD P n C d oA).den F P Q:=λhb=>(h2 (condF hb h)).go hF
  unfold tkD at q1 q2;split at hd;rename_i e;rw[e]at q1 q2;exact f0w n e (J.caseB d (B0A hd) q1 q2);rename_i e;rw[e]at q1 q2;exact f0w n e (RJ.caseB d (B0A hd) q1 q2);cases hd
/-! A number is known. -/
def K0b(P:Program)(n:Nat)(C:Cf)(t:Nat):Option SV:=match nm P n C with
  |some (.rg _ _ _ _ L _ _)=>qA (lk L t)
  |_=>none
def puS(P:Program)(n:Nat)(C:Cf)(t:Nat)(v:SV):Cf:=match nm P n C with
  |some C'=>C'.re ((t,v)::C'.L) C'.H
  |_=>C
theorem xP {c:Int} (kd:IntKind)(t n:Nat)(hj:j=c)(k:CJ F P fn H0 Q (puS P n C t (.int kd c)))(hd:K0b P n C t=qA (.int kd j):=by kernel_rfl):CJ F P fn H0 Q C:=by
  refine⟨λhF=> ?_⟩;unfold K0b at hd;have q:=k.go hF;unfold puS at q;split at hd;rename_i e;rw[e]at q;exact f0w n e (RJ.pin t (al hd) hj q);cases hd
/-! Operations that ask something. -/
def D0Y(P:Program)(n:Nat)(C:Cf):Option (Eff×Bool):=match nm P n C with
  |some (.rg m ops p tr L H _)=>match p0Q P m ops p tr L H with
    |some x=>qA (x.2.1,x.2.2.1)
    |none=>none
  |_=>none
def puE(P:Program)(n:Nat)(C:Cf)(ef:Eff):Cf:=match nm P n C with
  |some (.rg m ops p tr L H k)=>match p0Q P m ops p tr L H with
    |some x=> .rg m ops (p+1) x.2.2.2 (e0n L x.1 ef.v) (b0H H ef.wr) k
    |none=>C
  |_=>C
theorem xR (n:Nat)(ef':Eff)(hm:c=yA)(hn:c=yA->ef=ef')(k:CJ F P fn H0 Q (puE P n C ef'))(hh:D0Y P n C=qA (ef,c):=by kernel_rfl):CJ F P fn H0 Q C:=by
  refine⟨λhF=> ?_⟩;unfold D0Y at hh;have q:=k.go hF;unfold puE at q;split at hh;rename_i m ops p tr L H k' e;rw[e]at q;simp only at q;split at hh;rename_i x hx;rw[hx]at q;obtain⟨d,ef2,c2,tr2⟩:=x;cases hh;exact f0w n e (RJ.rel hx hm hn rfl q);cases hh;cases hh
theorem xI [Inhabited T] {X:Option α} {r:α} {enc:T->List SV} {w:Nat} {xs:List T} (n:Nat)(hk: ∀x,(enc x).length=w)(h:(bif inR j xs.length then X else none)=qA r)(k:X=qA r->CJ F P fn H0 Q (puE P n C ⟨.ep (enc (nth xs j)),[],[]⟩))
    (hh:D0Y P n C=qA (⟨.ep (((xs.flatMap enc).drop (j.toNat*w)).take w),[],[]⟩,inR j xs.length):=by kernel_rfl):CJ F P fn H0 Q C:=
  xR n _ (c0l h).1 (λhc=>N.idx hk hc) (k (c0l h).2) hh
def J0F(P:Program)(n:Nat)(C:Cf):Eff:=match D0Y P n C with
  |some x=>x.1
  |none=>⟨.undef,[],[]⟩
def K0j(P:Program)(n:Nat)(C:Cf):Option Bool:=match D0Y P n C with
  |some x=>qA x.2
  |none=>none
theorem xQ {X:Option α} {r:α} (n:Nat)(h:(bif c then X else none)=qA r)(k:X=qA r->CJ F P fn H0 Q (puE P n C (J0F P n C)))(hh:K0j P n C=qA c:=by kernel_rfl):CJ F P fn H0 Q C:=by
  unfold K0j at hh
  cases hr:D0Y P n C with
  |none=>rw[hr]at hh;cases hh
  |some x=>
    obtain⟨ef,c2⟩:=x;rw[hr]at hh;cases hh;refine xR n (J0F P n C) (c0l h).1 (λ_=> ?_) (k (c0l h).2) hr;unfold J0F;rw[hr]
theorem xAp {X:Option α} {r:α} {xs ys:List T} (n i m w e:Nat)(rd:List Nat)(enc:T->List SV)(h:(bif room (xs.length+ys.length)then X else none)=qA r)(k:X=qA r->CJ F P fn H0 Q (puE P n C ⟨.vc m,rd,[(i, .gone),(m,a0t enc w e (xs++ys))]⟩))
    (hh:D0Y P n C=qA (⟨.vc m,rd,[(i, .gone),(m, .vec (xs.length+ys.length) w e (xs.flatMap enc++ys.flatMap enc))]⟩,room (xs.length+ys.length)):=by kernel_rfl):CJ F P fn H0 Q C:=
  xR n _ (c0l h).1 (λ_=>N.app) (k (c0l h).2) hh
/-! Calls. -/
def caA(P:Program)(n:Nat)(C:Cf):Option (FuncId×List SV):=match nm P n C with
  |some (.rg m ops p tr L H _)=>match f0G m ops p tr L []with
    |some x=>qA (x.2.1,x.2.2.1)
    |none=>none
  |_=>none
def puA(P:Program)(n:Nat)(C:Cf)(v:SV):Cf:=match nm P n C with
  |some (.rg m ops p tr L H k)=>match f0G m ops p tr L []with
    |some x=> .rg m ops (p+1) x.2.2.2 (e0n L x.1 v) H k
    |none=>C
  |_=>C
theorem xAl {X:Option A} {kx:A->Option R} {r:R} {v:A->SV} (args:List SV)(n:Nat)(h:X.bind kx=qA r)(hs: ∀y,X=qA y->SC P f args' [] (v y) [])(hle:LeL args args')(k: ∀y,kx y=qA r->CJ F P fn H0 Q (puA P n C (v y)))
    (hc:caA P n C=qA (f,args):=by kernel_rfl) (hr:SV.refsL 0 args=true:=by kernel_rfl) (hv: ∀y,SV.refs 0 (v y)=true:=by intro _;kernel_rfl):CJ F P fn H0 Q C:=by
  refine⟨λhF=> ?_⟩;obtain⟨y,e1,e2⟩:=a0I h;have q:=(k y e2).go hF;unfold caA at hc;unfold puA at q;split at hc;rename_i m ops p tr L H k' e;rw[e]at q;simp only at q;split at hc;rename_i x hx;rw[hx]at q;obtain⟨d,f2,a2,tr2⟩:=x;cases hc;exact f0w n e (RJ.call0 hx hr hle (hs y e1) (hv y) q);cases hc;cases hc
theorem xA {X:Option A} {kx:A->Option R} {r:R} {v:A->SV} (n:Nat)(h:X.bind kx=qA r)(hs: ∀y,X=qA y->SC P f args [] (v y) [])(k: ∀y,kx y=qA r->CJ F P fn H0 Q (puA P n C (v y)))
    (hc:caA P n C=qA (f,args):=by kernel_rfl) (hr:SV.refsL 0 args=true:=by kernel_rfl) (hv: ∀y,SV.refs 0 (v y)=true:=by intro _;kernel_rfl):CJ F P fn H0 Q C:=xAl args n h hs (LeL.refl _) k hc hr hv
def caG(P:Program)(n:Nat)(C:Cf)(σ:List Nat)(H1:a0e):Option (FuncId×List SV):=match nm P n C with
  |some (.rg none ops p [] L H _)=>match f0G none ops p [] L []with
    |some x=>qA (x.2.1,x.2.2.1)
    |none=>none
  |_=>none
def hpC(P:Program)(n:Nat)(C:Cf):a0e:=match nm P n C with
  |some C'=>C'.H
  |none=> []
def puG(P:Program)(n:Nat)(C:Cf)(σ:List Nat)(m0:Nat)(v0:SV)(H1:a0e):Cf:=match nm P n C with
  |some (.rg m ops p tr L H k)=>match f0G none ops p [] L []with
    |some x=> .rg m ops (p+1) tr (e0n L x.1 (SV.rn (gOf (a0Y σ) m0 H.length) v0)) (c0E (a0Y σ) m0 H H1) k
    |none=>C
  |_=>C
theorem xC {X:Option A} {kx:A->Option R} {r:R} {v0:A->SV} {H2:A->a0e} (σ:List Nat)(n:Nat)(h:X.bind kx=qA r)(hs: ∀y,X=qA y->SC P f args0 H1 (v0 y) (H2 y))(k: ∀y,kx y=qA r->CJ F P fn H0 Q (puG P n C σ H1.length (v0 y) (H2 y)))
    (hc:caG P n C σ H1=qA (f,SV.rnL (a0Y σ) args0):=by kernel_rfl) (hl:σ.length=H1.length:=by kernel_rfl) (hg:σ.map (λi=>(hpC P n C)[i]?)=H1.map (λen=>qA (Ent.rn (a0Y σ) en)):=by kernel_rfl) (hn:σ.Nodup:=by decide) (hr0:H1.all (Ent.refs H1.length)=true:=by kernel_rfl) (hlive:H1.all e0y=true:=by kernel_rfl) (hr:SV.refsL H1.length args0=true:=by kernel_rfl)
    (hle': ∀y,oC H1.length (H2 y).length=true:=by intro _;kernel_rfl):CJ F P fn H0 Q C:=by
  refine⟨λhF=> ?_⟩;obtain⟨y,e1,e2⟩:=a0I h;have q:=(k y e2).go hF;unfold caG at hc;unfold puG at q;unfold hpC at hg;split at hc;rename_i ops p L H k' e;rw[e]at q hg;simp only at q;split at hc;rename_i x hx;rw[hx]at q;obtain⟨d,f2,a2,tr2⟩:=x;cases hc;obtain⟨o,_,_,_,_,ht,_⟩:=d0w hx;cases ht;exact f0w n e (RJ.callG σ hx rfl hl hg hn hr0 hlive hr (LeL.refl _) (hs y e1) (hle' y) rfl rfl q);cases hc;cases hc
/-! Cuts. -/
def G0U(P:Program)(n:Nat)(C:Cf):Bool:=match nm P n C with
  |some (.cd (.seq _ _) _ _ _)=>yA
  |_=>oA
def inC(P:Program)(n:Nat)(C:Cf):Cf:=match nm P n C with
  |some (.cd (.seq a _) L H _)=> .cd a L H []
  |_=>C
def ouC(P:Program)(n:Nat)(C:Cf)(x:LE×a0e):Cf:=match nm P n C with
  |some (.cd (.seq _ b) _ _ k)=> .cd b x.1 x.2 k
  |_=>C
def frC(P:Program)(n:Nat)(C:Cf):List Fm:=match nm P n C with
  |some (.cd _ _ _ k)=>k
  |_=> []
theorem A0y (hc:G0U P n C=yA): ∃a b L H k,nm P n C=qA (.cd (.seq a b) L H k):=by
  unfold G0U at hc;split at hc;rename_i e;exact⟨_,_,_,_,_,e⟩;cases hc
theorem xN {X:Option S} {kx:S->Option T} {r:T} (n:Nat)(h:X.bind kx=qA r)(R:S->LE×a0e)(h1: ∀s,X=qA s->CJ F P fn H0 (cutN F R s) (inC P n C))(h2: ∀s,kx s=qA r->CJ F P fn H0 Q (ouC P n C (R s)))(hc:G0U P n C=true:=by kernel_rfl):CJ F P fn H0 Q C:=by
  refine⟨λhF=> ?_⟩;obtain⟨a,b,L,H,k,e⟩:=A0y hc;obtain⟨s,e1,e2⟩:=a0I h;have q1:=(h1 s e1).go hF;have q2:=(h2 s e2).go hF;unfold inC at q1;unfold ouC at q2;rw[e]at q1 q2;exact f0w n e (K.cutN rfl R s q1 q2)
theorem xX {M:Option (S⊕X)} {kx:S->Option X} {r:X} (n:Nat)(h:M.bind (a0x kx)=qA r)(R:S->LE×a0e)(h1: ∀y,M=qA y->a0x kx y=qA r->CJ F P fn H0 (cutX F R (o0Q F P Q (frC P n C)) y) (inC P n C))(h2: ∀s,kx s=qA r->CJ F P fn H0 Q (ouC P n C (R s)))(hc:G0U P n C=true:=by kernel_rfl):CJ F P fn H0 Q C:=by
  refine⟨λhF=> ?_⟩;obtain⟨a,b,L,H,k,e⟩:=A0y hc;obtain⟨y,e1,e2⟩:=a0I h;have q1:=(h1 y e1 e2).go hF;unfold inC frC at q1;rw[e]at q1;refine f0w n e (K.cutX rfl R y q1 (λs hs=> ?_));subst hs;have q2:=(h2 s (l0h e2)).go hF;unfold ouC at q2;rw[e]at q2;exact q2
/-! Loops. -/
def loC(P:Program)(n:Nat)(C:Cf)(ts:List Nat):Option (LE×a0e):=match nm P n C with
  |some (.cd (.loop _) L H _)=>qA (f0K ts L,H)
  |_=>none
def lbC(P:Program)(n:Nat)(C:Cf)(x:LE×a0e):Cf:=match nm P n C with
  |some (.cd (.loop c) _ _ _)=> .cd c x.1 x.2 []
  |_=>C
theorem xL {step:S->Option (S⊕O)} {s0:S} {o:O} (n:Nat)(R:S->LE×a0e)(ho:a0B step m s0=qA o)(body: ∀s x,step s=qA x->CJ F P fn H0 (n0d F R (o0Q F P Q (frC P n C)) o x) (lbC P n C (R s)))(hc:loC P n C ((R s0).1.map yE)=qA (R s0):=by kernel_rfl):CJ F P fn H0 Q C:=by
  refine⟨λhF=> ?_⟩;unfold loC at hc;have q:=λs x e=>(body s x e).go hF
  unfold lbC frC at q;split at hc;rename_i c L H k e;rw[e]at q;have hc:=al hc;refine f0w n e (K.loop rfl R ho _ (congrArg yE hc) (congrArg jJ hc) (λs x hx=>q s x hx));cases hc
/-! Ends. -/
def enC(P:Program)(n:Nat)(C:Cf)(ts:List Nat):Option (LE×a0e):=match nm P n C with
  |some (.ex .normal L H [])=>qA (f0K ts L,H)
  |_=>none
theorem B0d {ts:List Nat} {x:LE×a0e} (hc:enC P n C ts=qA x): ∃L,nm P n C=qA (.ex .normal L x.2 [])/\f0K ts L=x.1:=by
  unfold enC at hc;split at hc;rename_i L H e;cases hc;exact⟨L,e,rfl⟩;cases hc
theorem xE {R:S->LE×a0e} {a st:S} (n:Nat)(h:qA a=qA st)(hc:enC P n C ((R a).1.map yE)=qA (R a):=by kernel_rfl):CJ F P fn H0 (cutN F R st) C:=by
  refine⟨λhF=> ?_⟩;obtain⟨L,e,hL⟩:=B0d hc;exact f0w n e (kNo h _ hL rfl)
theorem xEx {R:S->LE×a0e} {a:S} {y:S⊕X} (n:Nat)(h:qA (.inl a)=qA y)(hc:enC P n C ((R a).1.map yE)=qA (R a):=by kernel_rfl):CJ F P fn H0 (cutX F R Q y) C:=by
  refine⟨λhF=> ?_⟩;obtain⟨L,e,hL⟩:=B0d hc;exact f0w n e (kXo h _ hL rfl)
theorem xEl {R:S->LE×a0e} {o:O} {a:S} {y:S⊕O} (n:Nat)(h:qA (.inl a)=qA y)(hc:enC P n C ((R a).1.map yE)=qA (R a):=by kernel_rfl):CJ F P fn H0 (n0d F R Q o y) C:=by
  refine⟨λhF=> ?_⟩;obtain⟨L,e,hL⟩:=B0d hc;exact f0w n e (kLo h _ hL rfl)
/-! Ways out. -/
def upC(P:Program)(n:Nat)(C:Cf)(k:List Fm):Cf:=match nm P n C with
  |some (.ex e L H _)=> .ex e L H k
  |some (.pn L H _)=> .pn L H k
  |_=>C
def upB(P:Program)(n:Nat)(C:Cf):Bool:=match nm P n C with
  |some (.ex .normal _ _ [])=>oA
  |some (.ex _ _ _ [])=>yA
  |some (.pn _ _ [])=>yA
  |_=>oA
theorem D0S (hc:upB P n C=yA):(∃e L H,nm P n C=qA (.ex e L H [])/\e≠ .normal)\/ ∃L H,nm P n C=qA (.pn L H []):=by
  unfold upB at hc;split at hc;cases hc;rename_i e L H hne he;exact .inl ⟨e,L,H,he,λq=>by subst q;exact hne rfl⟩;rename_i e;exact .inr ⟨_,_,e⟩;cases hc
theorem xXr {R:S->LE×a0e} {x:X} {y:S⊕X} {kx:S->Option X} {r:Option X} {k:List Fm} (n:Nat)(hA:qA (.inr x)=qA y)(hC:a0x kx y=r)(kk:qA x=r->CJ F P fn H0 Q (upC P n C k))(hc:upB P n C=true:=by kernel_rfl):CJ F P fn H0 (cutX F R (o0Q F P Q k) y) C:=by
  refine⟨λhF=> ?_⟩;obtain rfl:=oi hA;have q:=(kk hC).go hF;unfold upC at q;rcases D0S hc with⟨e,L,H,he,hne⟩|⟨L,H,he⟩;rw[he]at q;exact f0w n he (PJ.cutXr hne q);rw[he]at q;exact f0w n he (PP.cutXr q)
theorem xLr {R:S->LE×a0e} {o o':O} {y:S⊕O} {k:List Fm} (n:Nat)(hA:qA (.inr o')=qA y)(kk:qA o'=qA o->CJ F P fn H0 Q (upC P n C k))(hc:upB P n C=true:=by kernel_rfl):CJ F P fn H0 (n0d F R (o0Q F P Q k) o y) C:=by
  refine⟨λhF=> ?_⟩;obtain rfl:=oi hA;have q:=λh=>(kk h).go hF
  unfold upC at q;rcases D0S hc with⟨e,L,H,he,hne⟩|⟨L,H,he⟩;rw[he]at q;exact f0w n he (PJ.loopOut hne (λh=>q (congrArg qA h)));rw[he]at q;exact f0w n he (PP.loopOut (λh=>q (congrArg qA h)))
/-! The function's end. -/
def reC(P:Program)(fn:Func)(n:Nat)(C:Cf):Option SV:=match nm P n C with
  |some (.ex .ret L H [])=>r0W P fn.results.toList L H
  |some (.ex .normal L H [])=>r0W P fn.results.toList L H
  |_=>none
theorem E0a (hc:reC P fn n C=qA v): ∃e L H,nm P n C=qA (.ex e L H [])/\(e= .normal\/e= .ret)/\r0W P fn.results.toList L H=qA v:=by
  unfold reC at hc;split at hc;rename_i e;exact⟨_,_,_,e, .inr rfl,hc⟩;rename_i e;exact⟨_,_,_,e, .inl rfl,hc⟩;cases hc
theorem xZ (n:Nat)(hc:reC P fn n C=qA v:=by kernel_rfl)(hin:i0w fn.ntmps fn.results.toList=true:=by kernel_rfl)(hr:SV.refs 0 v=true:=by kernel_rfl):CJ F P fn [] (r0f P fn F v []) C:=by
  refine⟨λhF=> ?_⟩;obtain⟨e,L,H,he,hn,hv⟩:=E0a hc;exact f0w n he (K.ret0 hn hF.n hF.h hF.d hin hv hr)
theorem xRV (σ:List Nat)(n:Nat)(hc:reC P fn n C=qA (SV.rn (a0Y σ) v):=by kernel_rfl)(hin:i0w fn.ntmps fn.results.toList=true:=by kernel_rfl)
    (hl:σ.length=H'.length:=by kernel_rfl) (hg:σ.map (λi=>(hpC P n C)[i]?)=H'.map (λen=>qA (Ent.rn (a0Y σ) en)):=by kernel_rfl) (hnd:σ.Nodup:=by decide) (hr:H'.all (Ent.refs H'.length)=true:=by kernel_rfl) (hk:σ.take H0.length=wC H0.length:=by kernel_rfl) (hle:oC H0.length H'.length=true:=by kernel_rfl)
    (hvr:SV.refs H'.length v=true:=by kernel_rfl):CJ F P fn H0 (r0f P fn F v H') C:=by
  refine⟨λhF=> ?_⟩;obtain⟨e,L,H,he,hn,hv⟩:=E0a hc;unfold hpC at hg;rw[he]at hg;exact f0w n he (kRV σ hn hF.n hF.h hF.d hin hv hl hg hnd hr hk hle hvr)
theorem xFn (h: ∀F:Fr,CJ F P fn H0 (r0f P fn F v H') (.cd (e0F fn) (e0z 0 args) H0 []))(hf:P.funcs[f]?=qA fn:=by kernel_rfl)(hb:fn.body.isSome=true:=by kernel_rfl)(hcal:b0J P f=true:=by kernel_rfl)(hin:b0G fn.ntmps (e0F fn)=true:=by kernel_rfl)(hn:oC args.length fn.ntmps=true:=by kernel_rfl):SC P f args H0 v H':=
  K.fn hf hb hcal hin hn (λF a b c=>(h F).go ⟨a,b,c⟩)
/-! Other rules, used where the run stands. -/
def I0C:Cf->Bool
  | .rg (qA _) _ _ _ _ _ _=>oA
  |_=>yA
theorem xW(n:Nat) {C':Cf} (e:nm P n C=qA C')(hw:FOk F fn H0->Wk F C'.L C'.H L2 H2)(hk:I0C C'=yA)(k:CJ F P fn H0 Q (C'.re L2 H2)):CJ F P fn H0 Q C:=by
  refine⟨λhF=> ?_⟩;refine f0w n e ?_;have q:=k.go hF;have w:=hw hF
  cases C' with
  |cd c L H k=>exact J.wk w q
  |rg m ops p tr L H k=>cases m with
    |none=>exact RJ.wk (tr:=tr) w q
    |some b=>cases hk
  |ex e L H k=>exact PJ.wk w q
  |pn L H k=>exact PP.wk w q
end
end
section
variable [Inhabited GT]
theorem bE {X Y r:α} {p:Prop} (h:(bif b then X else Y)=r)(h2:b=oA->Y=r->p)(h1:b=yA->X=r->p):p:=by
  cases b with
  |true=>exact h1 rfl h
  |false=>exact h2 rfl h
section
variable {F : Fr} {P : Program} {fn : Func} {H0 : a0e} {Q : e0G} {C : Cf}
def wkC(P:Program)(n:Nat)(C:Cf):Option Cf:=match nm P n C with
  |some C'=>bif I0C C' then qA C' else none
  |none=>none
theorem p0u {C':Cf} (h:wkC P n C=qA C'):nm P n C=qA C'/\I0C C'=true:=by
  unfold wkC at h;split at h;rename_i C2 e
  cases hb:I0C C2 with
  |true=>rw[hb]at h;cases h;exact⟨e,hb⟩
  |false=>rw[hb]at h;cases h
  cases h
/-! A list that is written no more. -/
def fzC(P:Program)(n:Nat)(C:Cf)(i:Nat):Cf:=match wkC P n C with
  |some C'=>match C'.H[i]? with
    |some (.vec n k e cs)=>C'.re (fzE i (.lst n k cs) C'.L) (fzH i (.lst n k cs) C'.H)
    |_=>C
  |none=>C
def veC(P:Program)(n:Nat)(C:Cf)(i:Nat):Bool:=match wkC P n C with
  |some C'=>match C'.H[i]? with
    |some (.vec _ _ _ _)=>yA
    |_=>oA
  |none=>oA
theorem xFz(i n:Nat)(k:CJ F P fn H0 Q (fzC P n C i))(h:veC P n C i=true:=by kernel_rfl):CJ F P fn H0 Q C:=by
  unfold veC at h;unfold fzC at k;split at h;rename_i C' e;rw[e]at k;split at h;rename_i m w t cs hv;simp only[hv]at k;obtain⟨e1,e2⟩:=p0u e;exact xW n e1 (λ_=>Wk.freeze i hv) e2 k;cases h;cases h
def mvC(P:Program)(n:Nat)(C:Cf)(i:Nat):Cf:=match wkC P n C with
  |some C'=>match C'.H[i]? with
    |some (.vec n k e cs)=>C'.re (fzE i (.vc C'.H.length) C'.L) (fzH i (.vc C'.H.length) C'.H++ [.vec n k e cs])
    |_=>C
  |none=>C
theorem xMv(i n:Nat)(k:CJ F P fn H0 Q (mvC P n C i))(h:veC P n C i=true:=by kernel_rfl):CJ F P fn H0 Q C:=by
  unfold veC at h;unfold mvC at k;split at h;rename_i C' e;rw[e]at k;split at h;rename_i m w t cs hv;simp only[hv]at k;obtain⟨e1,e2⟩:=p0u e;exact xW n e1 (λ_=>Wk.move i hv) e2 k;cases h;cases h
/-! Nothing, told as a list that may be written. -/
def vvC(P:Program)(n:Nat)(C:Cf)(t w:Nat)(e:TypeId):Cf:=match wkC P n C with
  |some C'=>C'.re ((t, .vc C'.H.length)::C'.L) (C'.H++ [.vec 0 w e []])
  |none=>C
def lkW(P:Program)(n:Nat)(C:Cf)(t:Nat):Option SV:=match wkC P n C with
  |some C'=>qA (lk C'.L t)
  |none=>none
theorem xVv(t w:Nat)(e:TypeId)(n:Nat)(k:CJ F P fn H0 Q (vvC P n C t w e))(h:lkW P n C t=qA .nl:=by kernel_rfl):CJ F P fn H0 Q C:=by
  unfold lkW at h;unfold vvC at k;split at h;rename_i C' q;rw[q]at k;obtain⟨e1,e2⟩:=p0u q;exact xW n e1 (λ_=>Wk.viv t w e (al h)) e2 k;cases h
def boxW(P:Program)(n:Nat)(C:Cf)(i:Nat):Option (List SV):=match wkC P n C with
  |some C'=>match C'.H[i]? with
    |some (.box cs)=>qA cs
    |_=>none
  |none=>none
def vbC(P:Program)(n:Nat)(C:Cf)(i off w:Nat)(e:TypeId):Cf:=match wkC P n C with
  |some C'=>match C'.H[i]? with
    |some (.box cs)=>C'.re C'.L (C'.H.set i (.box (cs.set off (.vc C'.H.length)))++ [.vec 0 w e []])
    |_=>C
  |none=>C
def I0P(P:Program)(n:Nat)(C:Cf)(i off:Nat):Option SV:=match boxW P n C i with
  |some cs=>cs[off]?
  |none=>none
theorem xVb(i off w:Nat)(e:TypeId)(n:Nat)(k:CJ F P fn H0 Q (vbC P n C i off w e))(h:I0P P n C i off=qA .nl:=by kernel_rfl):CJ F P fn H0 Q C:=by
  unfold I0P boxW at h;unfold vbC at k;split at h;rename_i cs hb;split at hb;rename_i C' q;rw[q]at k;split at hb;rename_i cs2 hv;cases hb;simp only[hv]at k;obtain⟨e1,e2⟩:=p0u q;exact xW n e1 (λ_=>Wk.vivBox i off w e hv h) e2 k;cases hb;cases hb;cases h
def unC(P:Program)(n:Nat)(C:Cf)(i:Nat)(ms:List Bool):Cf:=match wkC P n C with
  |some C'=>match C'.H[i]? with
    |some (.box cs)=>C'.re C'.L (C'.H.set i (.box (k0w ms cs)))
    |_=>C
  |none=>C
theorem xUn(i:Nat)(ms:List Bool)(n:Nat)(k:CJ F P fn H0 Q (unC P n C i ms))(h:(boxW P n C i).isSome=true:=by kernel_rfl):CJ F P fn H0 Q C:=by
  unfold boxW at h;unfold unC at k;split at h;rename_i C' q;rw[q]at k;split at h;rename_i cs hv;simp only[hv]at k;obtain⟨e1,e2⟩:=p0u q;exact xW n e1 (λ_=>Wk.undefs i ms hv) e2 k;cases h;cases h
def K0e(P:Program)(n:Nat)(C:Cf)(i off:Nat)(v:SV):Cf:=match wkC P n C with
  |some C'=>match C'.H[i]? with
    |some (.box cs)=>C'.re C'.L (C'.H.set i (.box (cs.set off v)))
    |_=>C
  |none=>C
theorem xLb (i off:Nat)(v':SV)(n:Nat)(hle:Le v v')(k:CJ F P fn H0 Q (K0e P n C i off v'))(h:I0P P n C i off=qA v:=by kernel_rfl):CJ F P fn H0 Q C:=by
  unfold I0P boxW at h;unfold K0e at k;split at h;rename_i cs hb;split at hb;rename_i C' q;rw[q]at k;split at hb;rename_i cs2 hv;cases hb;simp only[hv]at k;obtain⟨e1,e2⟩:=p0u q;exact xW n e1 (λ_=>Wk.leBox i off hv h hle) e2 k;cases hb;cases hb;cases h
/-! Entries chosen anew. -/
def atW(P:Program)(n:Nat)(C:Cf)(L2:LE):Option (List SV):=match wkC P n C with
  |some C'=>qA (L2.map λp=>lk C'.L p.1)
  |none=>none
def slC(P:Program)(n:Nat)(C:Cf)(L2:LE)(H2:a0e):Cf:=match wkC P n C with
  |some C'=>C'.re L2 H2
  |none=>C
theorem xSl(L2:LE)(H2:a0e)(σ:List Nat)(n:Nat)(k:CJ F P fn H0 Q (slC P n C L2 H2))(hl:σ.length=H2.length:=by kernel_rfl)(hg:σ.map (λi=>(hpC P n C)[i]?)=H2.map (λen=>qA (Ent.rn (a0Y σ) en)):=by kernel_rfl)(hn:σ.Nodup:=by decide)
    (hr:H2.all (Ent.refs H2.length)=true:=by kernel_rfl) (hk:σ.take H0.length=wC H0.length:=by kernel_rfl) (hv:atW P n C L2=qA (L2.map λp=>SV.rn (a0Y σ) p.2):=by kernel_rfl) (hvr:L2.all (λp=>SV.refs H2.length p.2)=true:=by kernel_rfl):CJ F P fn H0 Q C:=by
  unfold atW at hv;unfold slC at k;unfold hpC at hg;split at hv;rename_i C' q;rw[q]at k;obtain⟨e1,e2⟩:=p0u q;rw[e1]at hg;exact xW n e1 (λhF=>Wk.sel H0.length (by rw[hF.h]) hF.d σ hl hg hn hr hk (al hv) hvr) e2 k;cases hv
theorem xEs {R:S->LE×a0e} {a st:S} (σ:List Nat)(n:Nat)(h:qA a=qA st)(hl:σ.length=(R a).2.length:=by kernel_rfl)(hg:σ.map (λi=>(hpC P n C)[i]?)=(R a).2.map (λen=>qA (Ent.rn (a0Y σ) en)):=by kernel_rfl)(hn:σ.Nodup:=by decide)
    (hr:(R a).2.all (Ent.refs (R a).2.length)=true:=by kernel_rfl) (hk:σ.take H0.length=wC H0.length:=by kernel_rfl) (hv:(match nm P n C with|some (.ex .normal L _ [])=>qA ((R a).1.map λp=>lk L p.1)|_=>none)=qA ((R a).1.map λp=>SV.rn (a0Y σ) p.2):=by kernel_rfl) (hvr:(R a).1.all (λp=>SV.refs (R a).2.length p.2)=true:=by kernel_rfl):CJ F P fn H0 (cutN F R st) C:=by
  refine⟨λhF=> ?_⟩;unfold hpC at hg;split at hv;rename_i L H q;rw[q]at hg;exact f0w n q (kNW h hF.h hF.d σ hl hg hn hr hk (al hv) hvr);cases hv
theorem y0v {R:S->LE×a0e} {a:S} {y:S⊕X} (σ:List Nat)(n:Nat)(h:qA (.inl a)=qA y)(hl:σ.length=(R a).2.length:=by kernel_rfl)(hg:σ.map (λi=>(hpC P n C)[i]?)=(R a).2.map (λen=>qA (Ent.rn (a0Y σ) en)):=by kernel_rfl)(hn:σ.Nodup:=by decide)
    (hr:(R a).2.all (Ent.refs (R a).2.length)=true:=by kernel_rfl) (hk:σ.take H0.length=wC H0.length:=by kernel_rfl) (hv:(match nm P n C with|some (.ex .normal L _ [])=>qA ((R a).1.map λp=>lk L p.1)|_=>none)=qA ((R a).1.map λp=>SV.rn (a0Y σ) p.2):=by kernel_rfl) (hvr:(R a).1.all (λp=>SV.refs (R a).2.length p.2)=true:=by kernel_rfl):CJ F P fn H0 (cutX F R Q y) C:=by
  refine⟨λhF=> ?_⟩;unfold hpC at hg;split at hv;rename_i L H q;rw[q]at hg;exact f0w n q (kXW h hF.h hF.d σ hl hg hn hr hk (al hv) hvr);cases hv
theorem h0Z {R:S->LE×a0e} {o:O} {a:S} {y:S⊕O} (σ:List Nat)(n:Nat)(h:qA (.inl a)=qA y)(hl:σ.length=(R a).2.length:=by kernel_rfl)(hg:σ.map (λi=>(hpC P n C)[i]?)=(R a).2.map (λen=>qA (Ent.rn (a0Y σ) en)):=by kernel_rfl)(hn:σ.Nodup:=by decide)
    (hr:(R a).2.all (Ent.refs (R a).2.length)=true:=by kernel_rfl) (hk:σ.take H0.length=wC H0.length:=by kernel_rfl) (hv:(match nm P n C with|some (.ex .normal L _ [])=>qA ((R a).1.map λp=>lk L p.1)|_=>none)=qA ((R a).1.map λp=>SV.rn (a0Y σ) p.2):=by kernel_rfl) (hvr:(R a).1.all (λp=>SV.refs (R a).2.length p.2)=true:=by kernel_rfl):CJ F P fn H0 (n0d F R Q o y) C:=by
  refine⟨λhF=> ?_⟩;unfold hpC at hg;split at hv;rename_i L H q;rw[q]at hg;exact f0w n q (kLW h hF.h hF.d σ hl hg hn hr hk (al hv) hvr);cases hv
/-! Others. -/
def exC(P:Program)(n:Nat)(C:Cf):Cf:=match nm P n C with
  |some C'=>C'
  |none=>C
def isE(P:Program)(n:Nat)(C:Cf):Bool:=match nm P n C with
  |some (.ex _ _ _ [])=>yA
  |_=>oA
theorem xRs (hl:Le v1 v)(n:Nat)(k:CJ F P fn H0 (r0f P fn F v1 H') (exC P n C))(h:isE P n C=true:=by kernel_rfl):CJ F P fn H0 (r0f P fn F v H') C:=by
  refine⟨λhF=> ?_⟩;have q:=k.go hF;unfold isE at h;unfold exC at q;split at h;rename_i e;rw[e]at q;exact f0w n e (PJ.res hl q);cases h
theorem xRb {X:Option α} {r:α} (n:Nat)(ef':Eff)(h:(bif c then X else none)=qA r)(hn:c=yA->ef=ef')(k:X=qA r->CJ F P fn H0 Q (puE P n C ef'))(hh:D0Y P n C=qA (ef,c):=by kernel_rfl):CJ F P fn H0 Q C:=
  xR n ef' (c0l h).1 hn (k (c0l h).2) hh
theorem xCl {X:Option A} {kx:A->Option R} {r:R} {v0:A->SV} {H2:A->a0e} (args0:List SV)(σ:List Nat)(n:Nat)(h:X.bind kx=qA r)(hs: ∀y,X=qA y->SC P f args' H1 (v0 y) (H2 y))(hle:LeL args0 args')(k: ∀y,kx y=qA r->CJ F P fn H0 Q (puG P n C σ H1.length (v0 y) (H2 y)))
    (hc:caG P n C σ H1=qA (f,SV.rnL (a0Y σ) args0):=by kernel_rfl) (hl:σ.length=H1.length:=by kernel_rfl) (hg:σ.map (λi=>(hpC P n C)[i]?)=H1.map (λen=>qA (Ent.rn (a0Y σ) en)):=by kernel_rfl) (hn:σ.Nodup:=by decide) (hr0:H1.all (Ent.refs H1.length)=true:=by kernel_rfl) (hlive:H1.all e0y=true:=by kernel_rfl) (hr:SV.refsL H1.length args0=true:=by kernel_rfl)
    (hle': ∀y,oC H1.length (H2 y).length=true:=by intro _;kernel_rfl):CJ F P fn H0 Q C:=
  xC σ n h (λy e=>SC.weak (hs y e) hle) k hc hl hg hn hr0 hlive hr hle'
/-! A rule of before, used once. -/
def cfM:Cf->Option Nat
  | .rg m _ _ _ _ _ _=>m
  |_=>none
def cfO:Cf->Array Oper
  | .rg _ ops _ _ _ _ _=>ops
  |_=> #[]
def cfP:Cf->Nat
  | .rg _ _ p _ _ _ _=>p
  |_=>0
def cfT:Cf->List (List Nat×List Nat)
  | .rg _ _ _ tr _ _ _=>tr
  |_=> []
def cfK:Cf->List Fm
  | .rg _ _ _ _ _ _ k=>k
  |_=> []
def K0p:Cf->Bool
  | .rg _ _ _ _ _ _ _=>yA
  |_=>oA
def toC(P:Program)(n:Nat)(C:Cf):Cf:=match nm P n C with
  |some C'=>C'
  |none=>C
def rgB(P:Program)(n:Nat)(C:Cf):Bool:=match nm P n C with
  |some C'=>K0p C'
  |none=>oA
theorem xO {p2:Nat} (n:Nat)(st: ∀Q,RJ F P (cfM (toC P n C)) (cfO (toC P n C)) p2 tr2 L2 H2 Q->RJ F P (cfM (toC P n C)) (cfO (toC P n C)) (cfP (toC P n C)) (cfT (toC P n C)) (toC P n C).L (toC P n C).H Q)
    (k:CJ F P fn H0 Q (.rg (cfM (toC P n C)) (cfO (toC P n C)) p2 tr2 L2 H2 (cfK (toC P n C)))) (h:rgB P n C=true:=by kernel_rfl):CJ F P fn H0 Q C:=by
  refine⟨λhF=> ?_⟩;have q:=st _ (k.go hF);unfold rgB at h;unfold toC at q;split at h;rename_i C' e;rw[e]at q;refine f0w n e ?_
  cases C' with
  |rg m ops p tr L H k=>exact q
  |_=>cases h
  cases h
def bsC(P:Program)(n:Nat)(C:Cf):Nat:=match nm P n C with
  |some (.rg (qA b) _ _ _ _ _ _)=>b
  |_=>0
def rgS(P:Program)(n:Nat)(C:Cf):Bool:=match nm P n C with
  |some (.rg (qA _) _ _ _ _ _ _)=>yA
  |_=>oA
theorem xOD {p2:Nat} (n:Nat)(st: ∀Q,RJ F P (qA (bsC P n C)) (cfO (toC P n C)) p2 tr2 L2 H2 Q->RJ F P (qA (bsC P n C)) (cfO (toC P n C)) (cfP (toC P n C)) (cfT (toC P n C)) (toC P n C).L (toC P n C).H Q)
    (k:CJ F P fn H0 Q (.rg (qA (bsC P n C)) (cfO (toC P n C)) p2 tr2 L2 H2 (cfK (toC P n C)))) (h:rgS P n C=true:=by kernel_rfl):CJ F P fn H0 Q C:=by
  refine⟨λhF=> ?_⟩;have q:=st _ (k.go hF);unfold rgS at h;unfold toC bsC at q;split at h;rename_i e;rw[e]at q;exact f0w n e q;cases h
/-! Panics. -/
def pnC(P:Program)(n:Nat)(C:Cf)(H2:a0e):Cf:=match nm P n C with
  |some (.rg _ _ _ _ L _ k)=> .pn L H2 k
  |_=>C
theorem xCP (σ:List Nat)(n:Nat)(hs:SP P f args0 H1 H2)(k:CJ F P fn H0 Q (pnC P n C (c0E (a0Y σ) H1.length (hpC P n C) H2)))
    (hc:caG P n C σ H1=qA (f,SV.rnL (a0Y σ) args0):=by kernel_rfl) (hl:σ.length=H1.length:=by kernel_rfl) (hg:σ.map (λi=>(hpC P n C)[i]?)=H1.map (λen=>qA (Ent.rn (a0Y σ) en)):=by kernel_rfl) (hn:σ.Nodup:=by decide) (hr0:H1.all (Ent.refs H1.length)=true:=by kernel_rfl) (hlive:H1.all e0y=true:=by kernel_rfl) (hr:SV.refsL H1.length args0=true:=by kernel_rfl)
    (hle':oC H1.length H2.length=true:=by kernel_rfl):CJ F P fn H0 Q C:=by
  refine⟨λhF=> ?_⟩;have q:=k.go hF;unfold caG at hc;unfold pnC hpC at q;unfold hpC at hg;split at hc;rename_i ops p L H k' e;rw[e]at q hg;simp only at q;split at hc;rename_i x hx;obtain⟨d,f2,a2,tr2⟩:=x;cases hc;obtain⟨o,_,_,_,_,ht,_⟩:=d0w hx;cases ht;exact f0w n e (RJ.callP σ hx rfl hl hg hn hr0 hlive hr (LeL.refl _) hs hle' rfl q);cases hc;cases hc
theorem xPV (σ:List Nat)(n:Nat)(hp:(match nm P n C with|some (.pn _ _ [])=>yA|_=>oA)=true:=by kernel_rfl)(hl:σ.length=H'.length:=by kernel_rfl)(hg:σ.map (λi=>(hpC P n C)[i]?)=H'.map (λen=>qA (Ent.rn (a0Y σ) en)):=by kernel_rfl)(hnd:σ.Nodup:=by decide)(hr:H'.all (Ent.refs H'.length)=true:=by kernel_rfl)
    (hk:σ.take H0.length=wC H0.length:=by kernel_rfl) (hle:oC H0.length H'.length=true:=by kernel_rfl):CJ F P fn H0 (G0Q F H') C:=by
  refine⟨λhF=> ?_⟩;unfold hpC at hg;split at hp;rename_i e;rw[e]at hg;exact f0w n e (kPV σ hF.h hF.d hl hg hnd hr hk hle);cases hp
theorem x0n {r:A⊕B} (hv:A->SV)(hH:A->a0e)(hP:B->a0e)(h: ∀F:Fr,CJ F P fn H0 (J0W P fn F hv hH hP r) (.cd (e0F fn) (e0z 0 args) H0 []))
    (hf:P.funcs[f]?=qA fn:=by kernel_rfl) (hb:fn.body.isSome=true:=by kernel_rfl) (hcal:b0J P f=true:=by kernel_rfl) (hin:b0G fn.ntmps (e0F fn)=true:=by kernel_rfl) (hn:oC args.length fn.ntmps=true:=by kernel_rfl):
    (∀a,r= .inl a->SC P f args H0 (hv a) (hH a))/\(∀b,r= .inr b->SP P f args H0 (hP b)):=
  H0T hv hH hP (λF a b c=>(h F).go ⟨a,b,c⟩) hf hb hcal hin hn
theorem xC1 (σ:List Nat)(n:Nat)(hs:SC P f args0 H1 v0 H2)(k:CJ F P fn H0 Q (puG P n C σ H1.length v0 H2))
    (hc:caG P n C σ H1=qA (f,SV.rnL (a0Y σ) args0):=by kernel_rfl) (hl:σ.length=H1.length:=by kernel_rfl) (hg:σ.map (λi=>(hpC P n C)[i]?)=H1.map (λen=>qA (Ent.rn (a0Y σ) en)):=by kernel_rfl) (hn:σ.Nodup:=by decide) (hr0:H1.all (Ent.refs H1.length)=true:=by kernel_rfl) (hlive:H1.all e0y=true:=by kernel_rfl) (hr:SV.refsL H1.length args0=true:=by kernel_rfl)
    (hle':oC H1.length H2.length=true:=by kernel_rfl):CJ F P fn H0 Q C:=
  xC (A:=Unit) (R:=Unit) (X:=qA ()) (kx:=λ_=>qA ()) (v0:=λ_=>v0) (H2:=λ_=>H2) (r:=()) σ n rfl (λ_ _=>hs) (λ_ _=>k) hc hl hg hn hr0 hlive hr (λ_=>hle')
theorem xCS {X:Option (A⊕B)} {fa:A->Option R} {fb:B->Option R} {r:R} {v0:A->SV} {H2:A->a0e} {H3:B->a0e} (σ:List Nat)(n:Nat)(h:(X.bind λy=>yD fa fb y)=qA r)(hs: ∀y,X=qA (.inl y)->SC P f args0 H1 (v0 y) (H2 y))(hp: ∀y,X=qA (.inr y)->SP P f args0 H1 (H3 y))
    (k1: ∀y,fa y=qA r->CJ F P fn H0 Q (puG P n C σ H1.length (v0 y) (H2 y))) (k2: ∀y,fb y=qA r->CJ F P fn H0 Q (pnC P n C (c0E (a0Y σ) H1.length (hpC P n C) (H3 y))))
    (hc:caG P n C σ H1=qA (f,SV.rnL (a0Y σ) args0):=by kernel_rfl) (hl:σ.length=H1.length:=by kernel_rfl) (hg:σ.map (λi=>(hpC P n C)[i]?)=H1.map (λen=>qA (Ent.rn (a0Y σ) en)):=by kernel_rfl) (hn:σ.Nodup:=by decide) (hr0:H1.all (Ent.refs H1.length)=true:=by kernel_rfl) (hlive:H1.all e0y=true:=by kernel_rfl) (hr:SV.refsL H1.length args0=true:=by kernel_rfl)
    (hle': ∀y,oC H1.length (H2 y).length=true:=by intro _;kernel_rfl) (hle3: ∀y,oC H1.length (H3 y).length=true:=by intro _;kernel_rfl):CJ F P fn H0 Q C:=by
  obtain⟨y,e1,e2⟩:=a0I h
  cases y with
  |inl a=>exact xC1 σ n (hs a e1) (k1 a e2) hc hl hg hn hr0 hlive hr (hle' a)
  |inr b=>exact xCP σ n (hp b e1) (k2 b e2) hc hl hg hn hr0 hlive hr (hle3 b)
end
end
section
variable [Inhabited GT]
inductive HU
  |ent (e:Ent)
  |cel (l:List (Nat×SV))
def K0i(cs:List SV):List (Nat×SV)->List SV
  | []=>cs
  |p::l=>K0i (cs.set p.1 p.2) l
def F0M(H:a0e):List (Nat×HU)->a0e
  | []=>H
  |(i, .ent e)::l=>F0M (H.set i e) l
  |(i, .cel cs)::l=>F0M (match H[i]? with
    |some (.box xs)=>H.set i (.box (K0i xs cs))
    |_=>H) l
def H0h(L us:LE)(t:Nat):SV:=match us with
  | []=>lk L t
  |p::r=>bif jC p.1 t then p.2 else H0h L r t
def shp(P:Program)(n:Nat)(C:Cf)(ts:List Nat)(m:Nat)(u:LE×List (Nat×HU)):LE×a0e:=match nm P n C with
  |some C'=>(ts.map λt=>(t,H0h C'.L u.1 t),F0M (C'.H.take m) u.2)
  |none=>([],[])
section
variable {F : Fr} {P : Program} {fn : Func} {H0 : a0e} {Q : e0G} {C : Cf}
theorem yN {X:Option S} {kx:S->Option T} {r:T} (n:Nat)(h:X.bind kx=qA r)(ts:List Nat)(q:Nat)(R:S->LE×List (Nat×HU))(h1: ∀s,X=qA s->CJ F P fn H0 (cutN F (λs=>shp P n C ts q (R s)) s) (inC P n C))(h2: ∀s,kx s=qA r->CJ F P fn H0 Q (ouC P n C (shp P n C ts q (R s))))(hc:G0U P n C=true:=by kernel_rfl):CJ F P fn H0 Q C:=
  xN n h (λs=>shp P n C ts q (R s)) h1 h2 hc
theorem yX {M:Option (S⊕X)} {kx:S->Option X} {r:X} (n:Nat)(h:M.bind (a0x kx)=qA r)(ts:List Nat)(q:Nat)(R:S->LE×List (Nat×HU))(h1: ∀y,M=qA y->a0x kx y=qA r->CJ F P fn H0 (cutX F (λs=>shp P n C ts q (R s)) (o0Q F P Q (frC P n C)) y) (inC P n C))(h2: ∀s,kx s=qA r->CJ F P fn H0 Q (ouC P n C (shp P n C ts q (R s))))(hc:G0U P n C=true:=by kernel_rfl):CJ F P fn H0 Q C:=
  xX n h (λs=>shp P n C ts q (R s)) h1 h2 hc
theorem yL {step:S->Option (S⊕O)} {s0:S} {o:O} (n:Nat)(ts:List Nat)(q:Nat)(R:S->LE×List (Nat×HU))(ho:a0B step m s0=qA o)(body: ∀s x,step s=qA x->CJ F P fn H0 (n0d F (λs=>shp P n C ts q (R s)) (o0Q F P Q (frC P n C)) o x) (lbC P n C (shp P n C ts q (R s))))(hc:loC P n C ts=qA (shp P n C ts q (R s0)):=by kernel_rfl)(ht:(shp P n C ts q (R s0)).1.map yE=ts:=by kernel_rfl):CJ F P fn H0 Q C:=
  xL n (λs=>shp P n C ts q (R s)) ho body (by rw[ht];exact hc)
theorem xZh {a r:T} (n:Nat)(h:qA a=qA r)(hc:a=r->reC P fn n C=qA v:=by rintro rfl;kernel_rfl)(hr:a=r->SV.refs 0 v=true:=by rintro rfl;kernel_rfl)(hin:i0w fn.ntmps fn.results.toList=true:=by kernel_rfl):CJ F P fn [] (r0f P fn F v []) C:=
  xZ n (hc (oi h)) hin (hr (oi h))
end
end
section
variable [Inhabited GT]
section
variable {T : Type} [Inhabited T] {enc : T -> List SV} {k : Nat}
end
end
section
variable [Inhabited GT]
/-! Entries that are named. -/
mutual
def SV.rl:SV->List Nat
  | .agg cs=>SV.rlL cs
  | .tup cs=>SV.rlL cs
  | .ptr i _=> [i]
  | .vc i=> [i]
  | .sl i _ _ _=> [i]
  | .mp i=> [i]
  | .fn _ a b=>SV.rlL a++SV.rlL b
  | .undef=> []
  | .bool _=> []
  | .int _ _=> []
  | .str _=> []
  | .nl=> []
  | .lst _ _ _=> []
  | .ep _=> []
  | .nilp=> []
  | .yld i=> [i]
def SV.rlL:List SV->List Nat
  | []=> []
  |c::cs=>SV.rl c++SV.rlL cs
end
def Ent.rl:Ent->List Nat
  | .box cs=>SV.rlL cs
  | .map es=>es.flatMap λp=>SV.rl p.1++SV.rl p.2
  | .itr i _ _=> [i]
  | .lop tm _ _ _ _ _=>SV.rlL tm
  | .pmap es=>es.flatMap λp=>SV.rl p.1++SV.rl p.2
  |_=> []
mutual
theorem r0V {f g:Nat->Nat} : ∀(s:SV),(∀i∈SV.rl s,f (g i)=i)->SV.rn f (SV.rn g s)=s
  | .agg cs,h=>by simp only[SV.rn];rw[g0b cs (λi hi=>h i (by simp only[SV.rl];exact hi))]
  | .tup cs,h=>by simp only[SV.rn];rw[g0b cs (λi hi=>h i (by simp only[SV.rl];exact hi))]
  | .ptr i _,h=>by simp only[SV.rn];rw[h i (by simp[SV.rl])]
  | .vc i,h=>by simp only[SV.rn];rw[h i (by simp[SV.rl])]
  | .sl i _ _ _,h=>by simp only[SV.rn];rw[h i (by simp[SV.rl])]
  | .mp i,h=>by simp only[SV.rn];rw[h i (by simp[SV.rl])]
  | .fn _ a b,h=>by simp only[SV.rn];rw[g0b a (λi hi=>h i (by simp only[SV.rl];exact cy _ hi)),g0b b (λi hi=>h i (by simp only[SV.rl];exact bG _ hi))]
  | .undef,_=>rfl
  | .bool _,_=>rfl
  | .int _ _,_=>rfl
  | .str _,_=>rfl
  | .nl,_=>rfl
  | .lst _ _ _,_=>rfl
  | .ep _,_=>rfl
  | .nilp,_=>rfl
  | .yld i,h=>by simp only[SV.rn];rw[h i (by simp[SV.rl])]
theorem g0b {f g:Nat->Nat} : ∀(l:List SV),(∀i∈SV.rlL l,f (g i)=i)->SV.rnL f (SV.rnL g l)=l
  | [],_=>rfl
  |c::cs,h=>by simp only[SV.rnL];rw[r0V c (λi hi=>h i (by simp only[SV.rlL];exact cy _ hi)),g0b cs (λi hi=>h i (by simp only[SV.rlL];exact bG _ hi))]
end
mutual
theorem r0X {g:Nat->Nat} {n:Nat} : ∀(s:SV),(∀i∈SV.rl s,g i<n)->SV.refs n (SV.rn g s)=yA
  | .agg cs,h=>by simp only[SV.rn,SV.refs];exact g0c cs (λi hi=>h i (by simp only[SV.rl];exact hi))
  | .tup cs,h=>by simp only[SV.rn,SV.refs];exact g0c cs (λi hi=>h i (by simp only[SV.rl];exact hi))
  | .ptr i _,h=>by simp only[SV.rn,SV.refs];exact decide_eq_true (h i (by simp[SV.rl]))
  | .vc i,h=>by simp only[SV.rn,SV.refs];exact decide_eq_true (h i (by simp[SV.rl]))
  | .sl i _ _ _,h=>by simp only[SV.rn,SV.refs];exact decide_eq_true (h i (by simp[SV.rl]))
  | .mp i,h=>by simp only[SV.rn,SV.refs];exact decide_eq_true (h i (by simp[SV.rl]))
  | .fn _ a b,h=>by simp only[SV.rn,SV.refs];rw[g0c a (λi hi=>h i (by simp only[SV.rl];exact cy _ hi)),g0c b (λi hi=>h i (by simp only[SV.rl];exact bG _ hi))];rfl
  | .undef,_=>rfl
  | .bool _,_=>rfl
  | .int _ _,_=>rfl
  | .str _,_=>rfl
  | .nl,_=>rfl
  | .lst _ _ _,_=>rfl
  | .ep _,_=>rfl
  | .nilp,_=>rfl
  | .yld i,h=>by simp only[SV.rn,SV.refs];exact decide_eq_true (h i (by simp[SV.rl]))
theorem g0c {g:Nat->Nat} {n:Nat} : ∀(l:List SV),(∀i∈SV.rlL l,g i<n)->SV.refsL n (SV.rnL g l)=yA
  | [],_=>rfl
  |c::cs,h=>by simp only[SV.rnL,SV.refsL];rw[r0X c (λi hi=>h i (by simp only[SV.rlL];exact cy _ hi)),g0c cs (λi hi=>h i (by simp only[SV.rlL];exact bG _ hi))];rfl
end
theorem n0T {f g:Nat->Nat} : ∀(es:List (SV×SV)),(∀i∈es.flatMap (λp=>SV.rl p.1++SV.rl p.2),f (g i)=i)->(es.map λp=>(SV.rn g p.1,SV.rn g p.2)).map (λp=>(SV.rn f p.1,SV.rn f p.2))=es
  | [],_=>rfl
  |p::r,h=>by
    have h1:=r0V p.1 (λi hi=>h i (by simp only[ap,aw];exact .inl (.inl hi)));have h2:=r0V p.2 (λi hi=>h i (by simp only[ap,aw];exact .inl (.inr hi)));have h3:=n0T r (λi hi=>h i (by simp only[ap,aw];exact .inr hi));simp only[ah]at h3⊢;rw[h1,h2,h3]
theorem n0S {g:Nat->Nat} {n:Nat} : ∀(es:List (SV×SV)),(∀i∈es.flatMap (λp=>SV.rl p.1++SV.rl p.2),g i<n)->((es.map λp=>(SV.rn g p.1,SV.rn g p.2)).all λp=>SV.refs n p.1&&SV.refs n p.2)=yA
  | [],_=>rfl
  |p::r,h=>by
    have h1:=r0X p.1 (λi hi=>h i (by simp only[ap,aw];exact .inl (.inl hi)));have h2:=r0X p.2 (λi hi=>h i (by simp only[ap,aw];exact .inl (.inr hi)));have h3:=n0S r (λi hi=>h i (by simp only[ap,aw];exact .inr hi));simp only[ah,aF]at h3⊢;rw[h1,h2,h3];rfl
theorem D0t {f g:Nat->Nat} (en:Ent)(h: ∀i∈Ent.rl en,f (g i)=i):Ent.rn f (Ent.rn g en)=en:=by
  cases en with
  |box cs=>simp only[Ent.rn];rw[g0b cs h]
  |map es=>simp only[Ent.rn];rw[n0T es h]
  |pmap es=>simp only[Ent.rn];rw[n0T es h]
  |itr m n s=>simp only[Ent.rn];rw[h m (by simp[Ent.rl])]
  |lop tm ps as bd st pd=>simp only[Ent.rn];rw[g0b tm h]
  |dfr=>rfl
  |res=>rfl
  |gone=>rfl
  |vec=>rfl
theorem D0u {g:Nat->Nat} (en:Ent)(h: ∀i∈Ent.rl en,g i<n):Ent.refs n (Ent.rn g en)=true:=by
  cases en with
  |box cs=>exact g0c cs h
  |map es=>exact n0S es h
  |pmap es=>exact n0S es h
  |itr m n s=>exact decide_eq_true (h m (by simp[Ent.rl]))
  |lop tm ps as bd st pd=>exact g0c tm h
  |dfr=>rfl
  |res=>rfl
  |gone=>rfl
  |vec=>rfl
/-! A part of the entries: those that are reached. -/
def t0N(i:Nat):List Nat->Bool
  | []=>oA
  |x::r=>bif jC x i then yA else t0N i r
def y0w:List Nat->Nat->Nat
  | [],_=>0
  |x::r,i=>bif jC x i then 0 else y0w r i+1
def w0F:List Nat->Bool
  | []=>yA
  |x::r=> !t0N x r&&w0F r
theorem j0F {i:Nat} : ∀ {l:List Nat},t0N i l=yA↔i∈l
  | []=>by simp[t0N]
  |x::r=>by
    simp only[t0N,aG]
    cases hb:jC x i with
    |true=>have:=af hb;simp[this]
    |false=>
      have hne: ¬i=x:=λe=>by subst e;simp at hb
      simp[hne,j0F (l:=r)]
theorem r0k: ∀ {l:List Nat},w0F l=yA->l.Nodup
  | [],_=>List.nodup_nil
  |x::r,h=>by
    simp only[w0F,aa,cJ]at h;refine List.nodup_cons.2 ⟨λhm=> ?_,r0k h.2⟩;rw[j0F.2 hm]at h;cases h.1
theorem s0b {i:Nat} : ∀ {l:List Nat},i∈l->l[y0w l i]?=qA i
  | [],h=>by cases h
  |x::r,h=>by
    simp only[y0w]
    cases hb:jC x i with
    |true=>have:=af hb;simp[this]
    |false=>
      have hne: ¬i=x:=λe=>by subst e;simp at hb
      simp only[vC,List.getElem?_cons_succ];exact s0b ((aG.1 h).resolve_left hne)
def m0d(H:a0e):Nat->List Nat->List Nat->List Nat
  |0,_,seen=>seen
  |_+1,[],seen=>seen
  |n+1,i::r,seen=>bif t0N i seen then m0d H n r seen else m0d H n (Ent.rl (H.getD i .gone)++r) (seen++ [i])
def p0e(σ:List Nat)(H:a0e):a0e:=σ.map λi=>Ent.rn (y0w σ) (H.getD i .gone)
def q0D(σ:List Nat)(H:a0e):Bool:=w0F σ&&σ.all λi=>jE i H.length&&(Ent.rl (H.getD i .gone)).all λk=>t0N k σ
theorem m0J (h:i∈σ):a0Y σ (y0w σ i)=i:=by
  unfold a0Y;rw[au,s0b h];rfl
theorem t0y (h:i∈σ):y0w σ i<σ.length:=(ae.1 (s0b h)).1
theorem e0I(σ:List Nat)(H:a0e):(p0e σ H).length=σ.length:=by unfold p0e;simp
theorem h0m {H:a0e} (h:q0D σ H=yA):Sel H (a0Y σ) (p0e σ H):=by
  simp only[q0D,aa,qD]at h;obtain⟨h1,h2⟩:=h;have hr: ∀i∈σ,∀k∈Ent.rl (H.getD i .gone),k∈σ:=λi hi k hk=>j0F.1 ((h2 i hi).2 k hk)
  refine Sel.of σ (e0I σ H).symm ?_ (r0k h1) (List.all_eq_true.2 λen hen=> ?_);unfold p0e;rw[bO];refine bn λi hi=> ?_
  have hlt:i<H.length:=bL (aj (by have:=(h2 i hi).1;simpa [jE]using this));simp only[Function.comp];rw[D0t _ (λk hk=>m0J (hr i hi k hk)),au,ag hlt];rfl;rw[e0I];obtain⟨i,hi,rfl⟩:=aN.1 hen;exact D0u _ (λk hk=>t0y (hr i hi k hk))
abbrev CallT:=FuncId->List SV->a0e->Option (SV×a0e)
def CallT.Ok(P:Program)(cl:CallT):Prop:= ∀f args H v H',cl f args H=qA (v,H')->SC P f args H v H'
def G0B(cl:CallT)(f:FuncId)(args:List SV)(H:a0e):Option (SV×a0e):=
  (fun σ=>bif q0D σ H&&(SV.rlL args).all (λk=>t0N k σ)&&(p0e σ H).all e0y then
    match cl f (SV.rnL (y0w σ) args) (p0e σ H)with
    |some (v0,H0')=>bif oC σ.length H0'.length then qA (SV.rn (gOf (a0Y σ) σ.length H.length) v0,c0E (a0Y σ) σ.length H H0')else none
    |none=>none
  else none) (m0d H 100000 (SV.rlL args) [])
theorem D0E {cl:CallT} (hcl:cl.Ok P):CallT.Ok P (G0B cl):=by
  intro f args H v H' h;unfold G0B at h;generalize m0d H 100000 (SV.rlL args) []=σ at h;simp only at h
  cases hc:q0D σ H&&(SV.rlL args).all (λk=>t0N k σ)&&(p0e σ H).all e0y with
  |false=>rw[hc]at h;cases h
  |true=>
    rw[hc]at h;simp only[aa,qD]at hc;obtain⟨⟨c1,c2⟩,c3⟩:=hc;simp only[qC]at h;split at h;rename_i v0 H0' he
    cases hb:oC σ.length H0'.length with
    |false=>rw[hb]at h;cases h
    |true=>
      rw[hb]at h;cases h;have hm: ∀i∈SV.rlL args,i∈σ:=λi hi=>j0F.1 (c2 i hi)
      have:=SC.frame (hcl _ _ _ _ _ he) (h0m c1) c3 (by rw[e0I];exact g0c _ (λk hk=>t0y (hm k hk))) (by rw[e0I];exact aj hb);rw[g0b _ (λk hk=>m0J (hm k hk)),e0I]at this;exact this
    cases h
/-! Sameness of what is known. -/
mutual
def SV.eqb:SV->SV->Bool
  | .undef, .undef=>yA
  | .bool a, .bool b=>vA (a=b)
  | .int k n, .int k' n'=>vA (k=k')&&vA (n=n')
  | .str a, .str b=>vA (a=b)
  | .nl, .nl=>yA
  | .lst n k a, .lst n' k' b=>jC n n'&&jC k k'&&SV.eqbL a b
  | .ep a, .ep b=>SV.eqbL a b
  | .agg a, .agg b=>SV.eqbL a b
  | .tup a, .tup b=>SV.eqbL a b
  | .ptr i o, .ptr j q=>jC i j&&jC o q
  | .vc i, .vc j=>jC i j
  | .sl i o n k, .sl i' o' n' k'=>jC i i'&&jC o o'&&jC n n'&&jC k k'
  | .mp i, .mp j=>jC i j
  | .nilp, .nilp=>yA
  | .yld i, .yld j=>jC i j
  |_,_=>oA
def SV.eqbL:List SV->List SV->Bool
  | [],[]=>yA
  |a::r,b::q=>SV.eqb a b&&SV.eqbL r q
  |_,_=>oA
end
mutual
theorem u0t: ∀(a b:SV),SV.eqb a b=yA->a=b
  | .undef,b,h=>by cases b<;>first|rfl|(simp[SV.eqb]at h)
  | .bool a,b,h=>by cases b<;>first|(simp[SV.eqb]at h;rw[h])|(simp[SV.eqb]at h)
  | .int k n,b,h=>by cases b<;>first|(simp[SV.eqb]at h;rw[h.1,h.2])|(simp[SV.eqb]at h)
  | .str a,b,h=>by cases b<;>first|(simp[SV.eqb]at h;rw[h])|(simp[SV.eqb]at h)
  | .nl,b,h=>by cases b<;>first|rfl|(simp[SV.eqb]at h)
  | .lst n k a,b,h=>by
    cases b with
    |lst n' k' b=>simp[SV.eqb]at h;rw[h.1.1,h.1.2,l0n a b h.2]
    |_=>simp[SV.eqb]at h
  | .ep a,b,h=>by
    cases b with
    |ep b=>simp only[SV.eqb]at h;rw[l0n a b h]
    |_=>simp[SV.eqb]at h
  | .agg a,b,h=>by
    cases b with
    |agg b=>simp only[SV.eqb]at h;rw[l0n a b h]
    |_=>simp[SV.eqb]at h
  | .tup a,b,h=>by
    cases b with
    |tup b=>simp only[SV.eqb]at h;rw[l0n a b h]
    |_=>simp[SV.eqb]at h
  | .ptr i o,b,h=>by cases b<;>first|(simp[SV.eqb]at h;rw[h.1,h.2])|(simp[SV.eqb]at h)
  | .vc i,b,h=>by cases b<;>first|(simp[SV.eqb]at h;rw[h])|(simp[SV.eqb]at h)
  | .sl i o n k,b,h=>by cases b<;>first|(simp[SV.eqb]at h;rw[h.1.1.1,h.1.1.2,h.1.2,h.2])|(simp[SV.eqb]at h)
  | .mp i,b,h=>by cases b<;>first|(simp[SV.eqb]at h;rw[h])|(simp[SV.eqb]at h)
  | .nilp,b,h=>by cases b<;>first|rfl|(simp[SV.eqb]at h)
  | .fn _ _ _,b,h=>by cases b<;>simp[SV.eqb]at h
  | .yld i,b,h=>by cases b<;>first|(simp[SV.eqb]at h;rw[h])|(simp[SV.eqb]at h)
theorem l0n: ∀(a b:List SV),SV.eqbL a b=yA->a=b
  | [],b,h=>by cases b<;>first|rfl|(simp[SV.eqbL]at h)
  |a::r,b,h=>by
    cases b with
    |nil=>simp[SV.eqbL]at h
    |cons b q=>
      simp only[SV.eqbL,aa]at h;rw[u0t a b h.1,l0n r q h.2]
end
def Ent.eqb:Ent->Ent->Bool
  | .box a, .box b=>SV.eqbL a b
  | .vec n k e a, .vec n' k' e' b=>jC n n'&&jC k k'&&jC e e'&&SV.eqbL a b
  |_,_=>oA
def f0B:a0e->a0e->Bool
  | [],[]=>yA
  |a::r,b::q=>Ent.eqb a b&&f0B r q
  |_,_=>oA
theorem F0Y {a b:Ent} (h:Ent.eqb a b=yA):a=b:=by
  cases a with
  |box a=>
    cases b with
    |box b=>simp only[Ent.eqb]at h;rw[l0n a b h]
    |_=>simp[Ent.eqb]at h
  |vec n k e a=>
    cases b with
    |vec n' k' e' b=>
      simp only[Ent.eqb,aa]at h;rw[af h.1.1.1,af h.1.1.2,af h.1.2,l0n a b h.2]
    |_=>simp[Ent.eqb]at h
  |_=>simp[Ent.eqb]at h
theorem j0I: ∀ {a b:a0e},f0B a b=yA->a=b
  | [],[],_=>rfl
  | [],_::_,h=>by cases h
  |_::_,[],h=>by cases h
  |a::r,b::q,h=>by
    simp only[f0B,aa]at h;rw[F0Y h.1,j0I h.2]
/-! What is come to is put down as it is, at once. -/
section
universe u
variable {α : Sort u}
end
/-! What is known, kept short. -/
section
variable {F : Fr} {P : Program} {L L2 : LE} {H : a0e} {Q : e0G} {m : Option Nat} {ops : Array Oper} {p : Nat} {tr : List (List Nat × List Nat)}
/-! Regions. -/
def B0w(cl:CallT)(f:FuncId)(args:List SV)(H:a0e)(idx:Nat):Option Eff:=
  (fun σ=>bif q0D σ H&&(SV.rlL args).all (λk=>t0N k σ)&&(p0e σ H).all e0y then
    match cl f (SV.rnL (y0w σ) args) (p0e σ H)with
    |some (v0,H0')=>
      bif jC H0'.length σ.length then
        bif SV.refs σ.length v0 then
          bif f0B H0' (p0e σ H)then qA ⟨SV.rn (a0Y σ) v0,(wC σ.length).map (a0Y σ),[]⟩
          else bif H0'.all (Ent.refs σ.length)then qA ⟨SV.rn (a0Y σ) v0,(wC σ.length).map (a0Y σ),m0j (a0Y σ) σ.length H0'⟩else none
        else none
      else bif jC H0'.length (σ.length+1)&&n0i (H[idx]?)then bif f0B (H0'.take σ.length) (p0e σ H)then qA ⟨SV.rn (pOf (a0Y σ) σ.length idx) v0,(wC σ.length).map (a0Y σ),[(idx,Ent.rn (pOf (a0Y σ) σ.length idx) (H0'.getD σ.length .gone))]⟩else qA ⟨SV.rn (pOf (a0Y σ) σ.length idx) v0,(wC σ.length).map (a0Y σ),m0j (pOf (a0Y σ) σ.length idx) (σ.length+1) H0'⟩else none
    |none=>none
  else none) (m0d H 100000 (SV.rlL args) [])
theorem w0M {x:Option Ent} (h:n0i x=yA):x=qA .res:=by
  unfold n0i at h;split at h;rfl;cases h
theorem B0v {cl:CallT} (hcl:cl.Ok P) {idx:Nat} (hc:d0L ρ o=qA (f,args))(h:B0w cl f args H idx=qA ef):I0w P ρ o H idx ef:=by
  unfold B0w at h;generalize m0d H 100000 (SV.rlL args) []=σ at h;simp only at h
  cases hb:q0D σ H&&(SV.rlL args).all (λk=>t0N k σ)&&(p0e σ H).all e0y with
  |false=>rw[hb]at h;cases h
  |true=>
    rw[hb]at h;simp only[aa,qD]at hb;obtain⟨⟨c1,c2⟩,c3⟩:=hb;simp only[qC]at h;have hm: ∀i∈SV.rlL args,i∈σ:=λi hi=>j0F.1 (c2 i hi)
    have ha:args=SV.rnL (a0Y σ) (SV.rnL (y0w σ) args):=(g0b _ (λk hk=>m0J (hm k hk))).symm;have hr:SV.refsL (p0e σ H).length (SV.rnL (y0w σ) args)=true:=by rw[e0I];exact g0c _ (λk hk=>t0y (hm k hk))
    have hl:=e0I σ H
    split at h
    · rename_i v0 H0' he
      have hs:=hcl _ _ _ _ _ he
      cases h1:jC H0'.length σ.length with
      |true=>
        rw[h1]at h;have h1:=af h1;simp only[qC]at h
        cases h2:SV.refs σ.length v0 with
        |false=>rw[h2]at h;cases h
        |true=>
          rw[h2]at h;simp only[qC]at h
          cases h3:f0B H0' (p0e σ H)with
          |true=>
            rw[h3]at h;have h3:=j0I h3;cases h;refine .inl ⟨f,args,a0Y σ,_,p0e σ H,v0,hc,ha,h0m c1,c3,hr,by rw[hl];exact h2,by rw[h3]at hs;exact hs,by rw[hl]⟩
          |false=>
            rw[h3]at h;simp only[vC]at h
            cases h4:H0'.all (Ent.refs σ.length)with
            |false=>rw[h4]at h;cases h
            |true=>
              rw[h4]at h;cases h;exact .inr (.inr (.inl ⟨f,args,a0Y σ,_,p0e σ H,v0,H0',hc,ha,h0m c1,c3,hr,by rw[hl];exact h2,hs,by rw[hl];exact h1,λj en hj=>by rw[hl];exact List.all_eq_true.1 h4 en (aM hj),by rw[hl]⟩))
      |false=>
        rw[h1]at h;simp only[vC]at h
        cases h2:jC H0'.length (σ.length+1)&&n0i (H[idx]?)with
        |false=>rw[h2]at h;cases h
        |true=>
          rw[h2]at h;simp only[aa]at h2;have hlen:=af h2.1;simp only[qC]at h
          cases h5:f0B (H0'.take σ.length) (p0e σ H)with
          |false=>
            rw[h5]at h;cases h;exact .inr (.inr (.inr (.inl ⟨f,args,a0Y σ,_,p0e σ H,v0,H0',hc,ha,h0m c1,c3,hr,hs,by rw[hl];exact hlen,w0M h2.2,by rw[hl]⟩)))
          |true=>
            rw[h5]at h;cases h;have h6:=j0I h5
            have h7:H0'=p0e σ H++ [H0'.getD σ.length .gone]:=by
              conv=>lhs;rw[<-aV σ.length H0']
              rw[h6];congr 1;have hd:=bv (i:=σ.length) (l:=H0') (by omega);rw[hd,ci (by omega),au,ag (by omega)];rfl
            refine .inr (.inr (.inr (.inr ⟨f,args,a0Y σ,_,p0e σ H,v0,H0'.getD σ.length .gone,hc,ha,h0m c1,c3,hr, ?_,w0M h2.2,by rw[hl]⟩)));rw[<-h7];exact hs
    cases h
def J0V(ef:Eff)(H:a0e):Bool:=ef.wr.all λx=>jE x.1 H.length
end
/-! Code. -/
/-! Functions. -/
def v0P(H0:a0e)(v1:SV)(H1:a0e):Option (SV×a0e):=
  (fun σ=>bif q0D σ H1&&(SV.rl v1).all (λk=>t0N k σ)&&vA (σ.take H0.length=wC H0.length)&&oC H0.length σ.length then qA (SV.rn (y0w σ) v1,p0e σ H1)else none)
    (m0d H1 100000 ((wC H0.length).flatMap (λi=>Ent.rl (H1.getD i .gone))++SV.rl v1) (wC H0.length))
end
section
variable [Inhabited GT]
def g0S(ρ:Env)(o:Oper):Option (Nat×Nat):=match o.op with
  | .load _ x=>match a0L ρ x with
    |some (.ptr i off)=>qA (i,off)
    |_=>none
  |_=>none
def K0c:List (Nat×Ent)->Bool
  | []=>yA
  |_=>oA
def E0T(P:Program)(t:TypeId)(off:Nat)(v:SV)(en:Ent):Bool:=match(b0R en).bind (λcs=>b0B P t (cs.drop off))with
  |some u=>SV.eqb u v
  |none=>oA
def ldk(P:Program)(o:Oper)(ef:Eff)(q:Option (Nat×Nat))(ef':Eff):Bool:=match o.op,q with
  | .load t _,qA (i,off)=>K0c ef.wr&&ef'.wr.all λy=> !(jC y.1 i)||E0T P t off ef.v y.2
  |_,_=>oA
abbrev XT:=(List Nat×List Nat)×(Oper×Eff×Option (Nat×Nat))
def h0D(P:Program)(o:Oper)(rd fw:List Nat)(ef:Eff):List XT->Nat->Bool
  | [],_=>yA
  |x::r,j=>(o.after.any (λe=>oD .any e&&e.on==j)||(o0Y x.1.1 x.1.2 rd fw||ldk P x.2.1 x.2.2.1 x.2.2.2 ef))&&h0D P o rd fw ef r (j+1)
def y0P(P:Program)(ops:Array Oper)(base:Nat):List XT->List Oper->(Env->a0e->Prop)->Env->a0e->Prop
  |_,[],K,ρ,H=>K ρ H
  |tr,o::rest,K,ρ,H=> ∃ef,opD P ops base tr.length o ρ H ef/\h0D P o (f0M o ef) (e0L ops base tr.length o ef) ef tr 0=yA/\y0P P ops base (tr++ [((f0M o ef,e0L ops base tr.length o ef),o,ef,g0S ρ o)]) rest K (g0R ρ o.dst ef.v) (a0Q H ef.wr)
section
variable {P : Program} {ops : Array Oper} {base : Nat} {md : Region.Mode}
theorem z0U {l:List (Nat×Ent)} (h:K0c l=yA):l=[]:=by cases l with|nil=>rfl|cons _ _=>cases h
theorem p0K {t:TypeId} {i off:Nat} {v:SV} : ∀(wr:List (Nat×Ent)) (H:a0e),(wr.all λy=> !(jC y.1 i)||E0T P t off v y.2)=yA->((H[i]?).bind b0R).bind (λcs=>b0B P t (cs.drop off))=qA v->
    (((a0Q H wr)[i]?).bind b0R).bind (λcs=>b0B P t (cs.drop off))=qA v
  | [],H,_,h=>h
  |(j,en)::r,H,ha,h=>by
    simp only[aF,aa]at ha;simp only[a0Q];refine p0K r _ ha.2 ?_;by_cases hj:j=i;subst hj
    have hil:j<H.length:=by
      rcases bC j H.length with h1|h1;exact h1;rw[aE h1]at h;cases h
    rw[cI hil];have h1:=ha.1;rw[show jC j j=yA from cL j]at h1;simp only[bD,bY]at h1;unfold E0T at h1;show(b0R en).bind _=qA v;split at h1;rename_i u hu;rw[hu,u0t _ _ h1];cases h1;rw[cz hj];exact h
theorem F0e {i:Nat} {d:Option Tmp} (h: ∀t,d=qA t->t∉o.looksAt ops):g0S (g0R ρ d v) o=g0S ρ o:=by
  unfold g0S;split;rename_i t x ho;rw[i0a (λt ht=>d0s (h t ht) (by simp[ho,qB]))];rfl
theorem D0c {ρ':Env} {H:a0e} {ef':Eff} {q:Option (Nat×Nat)} (hv: ∀x∈o.op.operands,a0L ρ x=a0L ρ' x)(hg:b0n ops ρ o=b0n ops ρ' o)(hq:g0S ρ o=q)(hk:ldk P o ef q ef'=yA)
    (h:opD P ops base i o ρ H ef):opD P ops base i o ρ' (a0Q H ef'.wr) ef:=by
  unfold ldk at hk
  split at hk
  · rename_i t y n off ho
    simp only[aa]at hk;obtain⟨hn,hk⟩:=hk;have hc:b0M o=false:=by unfold b0M;rw[ho]
    have hcr:c0H o=false:=by unfold c0H;rw[ho]
    unfold opD at h⊢;rw[<-hg]
    split
    · rename_i hgt
      rw[hgt]at h;simp only at h;rw[hc,oB (by simp)]at h⊢;obtain⟨h1,h2,h3⟩:=h;refine And.intro (.inl ?_) (And.intro (λhh=>absurd (hcr.symm.trans hh) (by decide)) (λx hx=>by rw[z0U hn]at hx;cases hx))
      rcases h1 with h1|h1
      · have hp:a0L ρ y=qA (.ptr n off):=by
          unfold g0S at hq;rw[ho]at hq;simp only at hq;split at hq;rename_i i1 o1 hx;cases hq;exact hx;cases hq
        have hp':a0L ρ' y=qA (.ptr n off):=by rw[<-hv y (by simp[ho,qB])];exact hp
        have hpe: ∀ρ1:Env,a0L ρ1 y=qA (.ptr n off)-> ∀H1 idx,a0E P o ρ1 H1 idx=(((H1[n]?).bind b0R).bind (λcs=>b0B P t (cs.drop off))).map λv=>⟨v,[n],[]⟩:=by
          intro ρ1 h1 H1 idx;unfold a0E;have:a0i P o ρ1=none:=by unfold a0i;rw[ho];simp only;rw[h1]
          rw[this];simp only[a0p,ho,h1];cases(H1[n]?).bind b0R<;>rfl
        rw[hpe ρ hp]at h1;rw[hpe ρ' hp']
        cases hx:((H[n]?).bind b0R).bind (λcs=>b0B P t (cs.drop off))with
        |none=>rw[hx]at h1;cases h1
        |some v=>
          rw[hx]at h1;have h1:=al h1;subst h1;rw[p0K _ _ hk hx];rfl
      rw[hcr]at h1;cases h1.2
    rename_i hgf;rw[hgf]at h;exact h;rename_i hgn;rw[hgn]at h;exact h
  cases hk
theorem y0q {effs:List Eff} {K:Env->a0e->Prop} {oi:Oper} {ei:Eff} {q:Option (Nat×Nat)} (hi:ops[i]?=qA oi)(hei:effs[i]?=qA ei): ∀(fuel:Nat) (listed:Array Bool) (ρ:Env) (H:a0e),
    (∀j oj ej,ops[j]?=qA oj->effs[j]?=qA ej->j≠i->listed.getD j yA=oA->(∀e∈oj.after,oD md e=yA->e.on≠i)->oi.apart ops oj=yA/\(o0Y (f0M oi ei) (e0L ops base i oi ei) (f0M oj ej) (e0L ops base j oj ej)=yA\/ldk P oi ei q ej=yA))->
    i∈vE md ops listed->g0S ρ oi=q->opD P ops base i oi ρ H ei->B0N P md ops base effs K fuel (listed.setIfInBounds i yA) (g0R ρ oi.dst ei.v) (a0Q H ei.wr)->B0N P md ops base effs K (fuel+1) listed ρ H:=by
  intro fuel
  induction fuel with
  |zero=>
    intro listed ρ H _ hr hq hy h;refine⟨λh0=>(by rw[h0]at hr;cases hr),λj hj=> ?_⟩;by_cases hji:j=i;subst hji;exact⟨oi,ei,hi,hei,hy,h⟩;have:=ready_mono hj hji;rw[h.1]at this;cases this
  |succ fuel ih=>
    intro listed ρ H hfree hr hq hy h;refine⟨λh0=>(by rw[h0]at hr;cases hr),λj hj=> ?_⟩;by_cases hji:j=i;subst hji;exact⟨oi,ei,hi,hei,hy,h⟩;obtain⟨oj,ej,hoj,hej,hdj,hrest⟩:=h.2 j (ready_mono hj hji);obtain⟨hjun,oj',hoj',hall⟩:=mem_ready.1 hj;rw[hoj]at hoj';cases hoj'
    have hnot: ∀e∈oj.after,oD md e=yA->e.on≠i:=λe he hb heq=>by
      have h1:=hall e he hb;have h0:=(mem_ready.1 hr).1;rw[heq]at h1;rcases bC i listed.size with h'|h';simp[h']at h0 h1;rw[h0]at h1;cases h1;simp[cH h']at h1
    obtain⟨hap,hdis⟩:=hfree j oj ej hoj hej hji hjun hnot;obtain⟨a1,a2,a3⟩:=Oper.apart_spec hap
    have shc: ∀ {a b:Option Ent},k0F a b->k0F b a:=λh=>by
      rcases h with h|⟨n,k,e,c1,c2,q1,q2⟩|⟨c1,c2,q1,q2⟩;exact .inl h.symm;exact .inr (.inl ⟨n,k,e,c2,c1,q2,q1⟩);exact .inr (.inr ⟨c2,c1,q2,q1⟩)
    have key:opD P ops base j oj ρ H ej/\opD P ops base i oi (g0R ρ oj.dst ej.v) (a0Q H ej.wr) ei/\a0Q (a0Q H ei.wr) ej.wr=a0Q (a0Q H ej.wr) ei.wr:=by
      rcases hdis with hdis|hld;obtain⟨d1,d2⟩:=r0t hdis;have hwi: ∀x,x∈ei.wr.map yE->2*x∈e0L ops base i oi ei:=λx hx=>u0n hx
      have hwj: ∀x,x∈ej.wr.map yE->2*x∈e0L ops base j oj ej:=λx hx=>u0n hx
      obtain⟨ki1,ki2⟩:=m0Z hy
      have hdj':opD P ops base j oj ρ H ej:=k0W (ρ:=g0R ρ oi.dst ei.v) (H:=a0Q H ei.wr)
        (λx hx=>i0a λt ht=>d0s (a1 t ht) hx) (h0h a1) (by rw[d0d])
        (λx hx=>(ki1 x (λhm=>by
          have:=d1 _ hm;rcases hx with hx|hx;exact this.1 hx
          exact this.2 hx)).symm) (λx hx=>shc (ki2 x (λhm=>(d1 _ hm).1 hx))) hdj
      obtain⟨kj1,kj2⟩:=m0Z hdj'
      refine⟨hdj',k0W (ρ:=ρ) (H:=H)
        (λx hx=>(i0a λt ht=>d0s (a3 t ht) hx).symm) (h0h a3).symm (by rw[d0d])
        (λx hx=>kj1 x (λhm=>by
          have:=d2 _ hm;rcases hx with hx|hx;exact this.1 hx
          exact this.2 hx)) (λx hx=>kj2 x (λhm=>(d2 _ hm).1 hx)) hy, ?_⟩
      exact m0D ei.wr ej.wr H (λx hx hx2=>(d1 _ (hwi x hx)).2 (hwj x hx2))
      have hw:ei.wr=[]:=by
        unfold ldk at hld;split at hld;simp only[aa]at hld;exact z0U hld.1;cases hld
      rw[hw]at hdj⊢
      exact⟨k0W (ρ:=g0R ρ oi.dst ei.v) (H:=a0Q H []) (λx hx=>i0a λt ht=>d0s (a1 t ht) hx) (h0h a1) rfl (λx hx=>rfl) (λx hx=> .inl rfl) hdj,
        D0c (λx hx=>(i0a λt ht=>d0s (a3 t ht) hx).symm) (h0h a3).symm hq hld hy,rfl⟩
    obtain⟨hdj',hyi',hcm⟩:=key;refine⟨oj,ej,hoj,hej,hdj', ?_⟩;refine ih (listed.setIfInBounds j yA) _ _ (λk ok ek hk hek hki hun hno=> ?_) (ready_mono hr (Ne.symm hji)) (by rw[F0e (i:=0) a3];exact hq) hyi' ?_;refine hfree k ok ek hk hek hki ?_ hno;by_cases hjk:j=k;subst hjk;exact hjun;rw[getD_set_ne yA hjk]at hun;exact hun;rw[Array.setIfInBounds_comm _ _ hji,<-r0Z (ρ:=ρ) (u:=ei.v) (v:=ej.v) a2,<-hcm];exact hrest
theorem o0H {o:Oper} {rd fw:List Nat} {ef:Eff} : ∀(tr:List XT) (j:Nat),h0D P o rd fw ef tr j=yA-> ∀(k:Nat) (x:XT),tr[k]?=qA x->
    (∃e∈o.after,oD .any e=yA/\e.on=j+k)\/(o0Y x.1.1 x.1.2 rd fw=yA\/ldk P x.2.1 x.2.2.1 x.2.2.2 ef=yA)
  | [],j,_,k,x,hk=>by simp at hk
  |x1::r,j,h,k,x,hk=>by
    simp only[h0D,aa,bF]at h
    cases k with
    |zero=>
      simp at hk;subst hk;rcases h.1 with h1|h1;obtain⟨e,he,hb⟩:=Array.any_eq_true'.1 h1;simp only[aa,beq_iff_eq]at hb;exact .inl ⟨e,he,hb.1,hb.2⟩;exact .inr h1
    |succ k=>
      have:=o0H r (j+1) h.2 k x (by simpa using hk);rw[show j+1+k=j+(k+1)from by omega]at this;exact this
theorem t0c {K:Env->a0e->Prop} : ∀(l:List Oper) (tr:List XT) (listed:Array Bool) (ρ:Env) (H:a0e),(∀j,l[j]?=ops[tr.length+j]?)->(∀(j:Nat) (x:XT),tr[j]?=qA x->ops[j]?=qA x.2.1/\x.1=(f0M x.2.1 x.2.2.1,e0L ops base j x.2.1 x.2.2.1))->
    (∀k,k<tr.length->listed.getD k yA=yA)->oI .any ops l.length tr.length listed=yA->y0P P ops base tr l K ρ H->
    ∃es:List (Eff×Option (Nat×Nat)),es.length=l.length/\B0N P .any ops base ((tr.map λx=>x.2.2.1)++es.map yE) K l.length listed ρ H/\
      ∀(i j:Nat) (oi oj:Oper) (ei:Eff×Option (Nat×Nat)) (ej:Eff),i<j->tr.length<=j->ops[i]?=qA oi->ops[j]?=qA oj->((tr.map λx=>x.2.2)++es)[i]?=qA ei->((tr.map λx=>x.2.2.1)++es.map yE)[j]?=qA ej->
        (∀e∈oj.after,oD .any e=yA->e.on≠i)->o0Y (f0M oi ei.1) (e0L ops base i oi ei.1) (f0M oj ej) (e0L ops base j oj ej)=yA\/ldk P oi ei.1 ei.2 ej=yA
  | [],tr,listed,ρ,H,hl,htr,hli,hB,h=>by
    refine⟨[],rfl,⟨by simpa [oI]using hB,h⟩,λi j oi oj ei ej hij hj hoi hoj hei hej=> ?_⟩;rw[aA,cn,ar,aE hj]at hej;cases hej
  |o::l,tr,listed,ρ,H,hl,htr,hli,hB,h=>by
    have h0:ops[tr.length]?=qA o:=by simpa using (hl 0).symm
    simp only[aC,oI,aa]at hB;obtain⟨⟨hr,hf⟩,hB'⟩:=hB;simp only[y0P]at h;obtain⟨ef,hy,hcomp,hK⟩:=h;have hrd:tr.length∈vE .any ops listed:=by simpa using hr
    have hlt:tr.length<listed.size:=by
      have:=(mem_ready.1 hrd).1;rcases bC tr.length listed.size with h'|h';exact h';simp[cH h']at this
    obtain⟨es,hes,hany,hpairs⟩:=t0c l (tr++ [((f0M o ef,e0L ops base tr.length o ef),o,ef,g0S ρ o)]) (listed.setIfInBounds tr.length yA) _ _ (λj=>by
        have:=hl (j+1);simpa [Nat.add_assoc,Nat.add_comm 1 j]using this) (λj x hj=>by
        rw[aS]at hj;split at hj;exact htr j x hj;rename_i hjl
        have hz:j-tr.length=0:=by
          have:=(ae.1 hj).1;simp at this;omega
        rw[hz]at hj;simp at hj;subst hj;have:j=tr.length:=by omega
        rw[this];exact⟨h0,rfl⟩) (λk hk=>by
        simp only[ac,aC,aH]at hk;by_cases hkt:k=tr.length;subst hkt;simp[yF,hlt]
        rw[getD_set_ne yA (Ne.symm hkt)];exact hli k (by omega)) (by simpa using hB') hK
    have hfull:((tr++ [((f0M o ef,e0L ops base tr.length o ef),o,ef,g0S ρ o)]).map λx=>x.2.2.1)++es.map yE=(tr.map λx=>x.2.2.1)++((ef,g0S ρ o)::es).map yE:=by simp
    have hfull2:((tr++ [((f0M o ef,e0L ops base tr.length o ef),o,ef,g0S ρ o)]).map λx=>x.2.2)++es=(tr.map λx=>x.2.2)++((ef,g0S ρ o)::es):=by simp
    rw[hfull]at hany;rw[hfull,hfull2]at hpairs
    have heft:((tr.map λx=>x.2.2.1)++((ef,g0S ρ o)::es).map yE)[tr.length]?=qA ef:=by
      rw[bq (by simp)];simp
    have heft2:((tr.map λx=>x.2.2)++((ef,g0S ρ o)::es))[tr.length]?=qA (ef,g0S ρ o):=by
      rw[bq (by simp)];simp
    have hall: ∀(i j:Nat) (oi oj:Oper) (ei:Eff×Option (Nat×Nat)) (ej:Eff),i<j->tr.length<=j->ops[i]?=qA oi->ops[j]?=qA oj->((tr.map λx=>x.2.2)++((ef,g0S ρ o)::es))[i]?=qA ei->((tr.map λx=>x.2.2.1)++((ef,g0S ρ o)::es).map yE)[j]?=qA ej->
        (∀e∈oj.after,oD .any e=yA->e.on≠i)->o0Y (f0M oi ei.1) (e0L ops base i oi ei.1) (f0M oj ej) (e0L ops base j oj ej)=yA\/ldk P oi ei.1 ei.2 ej=true:=by
      intro i j oi oj ei ej hij hj hoi hoj hei hej hno;by_cases hjt:j=tr.length;subst hjt;rw[h0]at hoj;cases hoj;rw[heft]at hej;cases hej
      obtain⟨x,hp⟩: ∃p,tr[i]?=qA p:=⟨tr[i],ag hij⟩
      obtain⟨h1,h2⟩:=htr i x hp;rw[hoi]at h1;obtain rfl:=al h1;rw[aU (by simpa using hij),ar,hp]at hei;obtain rfl:=al hei;rcases o0H _ 0 hcomp i _ hp with⟨e,he,hb,hon⟩|hd;exact absurd (by omega:e.on=i) (hno e he hb);rw[h2]at hd;exact hd;exact hpairs i j oi oj ei ej hij (by simp;omega) hoi hoj hei hej hno
    refine⟨(ef,g0S ρ o)::es,by simp[hes], ?_,hall⟩;rw[aC];refine y0q (q:=g0S ρ o) h0 heft l.length listed ρ H (λj oj ej hoj hej hji hun hno=>⟨Region.free_spec h0 hf j oj hoj hji hun hno, ?_⟩) hrd rfl hy hany
    have hjgt:tr.length<j:=by
      rcases bC tr.length j with h'|h';exact h';have:j<tr.length:=by omega
      rw[hli j this]at hun;cases hun
    exact hall tr.length j o oj (ef,g0S ρ o) ej hjgt (by omega) h0 hoj heft2 hej hno
end
end
section
variable [Inhabited GT]
structure Wd (Fc:Fence):Prop where
  fn: ∀f,Fc.fn f
  depth:Fc.depth=none
  calls: ∀ {n:Nat} {P:Program} {f:FuncId} {args:Array Value} {w:World} {R:Ending->World->Prop},Calls P f args w R->CallsIn Fc n P f args w R
  rows: ∀ {n:Nat} {P:Program} {row:String} {args:Array Value} {w:World} {R:Value->World->Prop},Rows P row args w R->RowsIn Fc n P row args w R
theorem t0r {row:String} {args:Array Value} {R:Value->World->Prop} (h:Rows P row args w R):RowsIn Fence.wide n P row args w R:=
  λc cs _=>let⟨v,w',r,s⟩:=h c cs;⟨v,w',r,stepsIn_wide.2 s⟩
theorem y0H:Wd Fence.wide:=⟨λ_=>trivial,rfl,λh=>callsIn_wide.2 h,t0r⟩
theorem w0m(l:Nat):Wd (Fence.wide.inRound l):=⟨λ_=>trivial,rfl,λh=>CallsIn.inRound l (callsIn_wide.2 h),λh=>t0r h⟩
section
variable {Fc : Fence} {n : Nat} {P : Program} {ops ops' : Array Oper} {a : Act} {w : World} {Q : e0G} {o : Oper}
def F0l(R:Act->World->Prop):e0G:=λe a w=>match e with
  | .normal=>R a w
  |_=>False
theorem p0y(hW:Wd Fc)(hnd: ∀c,o.op≠ .defer c) {next next' R:Act->World->Prop} (hn: ∀a w,next a w->next' a w)(h:o.wp P a w next (F0l R)):o.wpIn Fc n P a w next' Q:=by
  refine⟨λf _=>hW.fn f, ?_⟩;rw[Oper.semAt_eq _ _ _ hnd];unfold Oper.wp at h;have hdep:Fc.depth.isSome=yA->1<=n:=λhd=>by rw[hW.depth]at hd;cases hd
  generalize(execOp a.eval o).run P w=r at h⊢
  cases r with
  |ok x w'=>
    cases x with
    |value v=>exact hn _ _ h
    |skip=>exact hn _ _ h
    |defer d=>exact hn _ _ h
    |enter f args=>
      refine⟨hdep,(hW.calls (Calls.mono h ?_))⟩;rintro e w'' he
      cases e with
      |returned v=>exact hn _ _ he
      |panicked c=>exact he.elim
      |outgrown=>obtain⟨a,w,he⟩:=he;exact he.elim
    |row row args=>exact⟨hdep,hW.rows (Rows.mono h λv w'' hv=>hn _ _ hv)⟩
    |_=>exact h.elim
  |halt c w'=>
    cases c with
    |panic v=>exact h.elim
    |_=>exact h.elim
def t0K(q:Nat)(o:Oper):Bool:=(match o.op with| .defer _=>oA|_=>yA)&&(match o.guard with|some (j,_)=>jE j q|none=>yA)
theorem C0O (h:t0K q o=yA):(∀c,o.op≠ .defer c)/\ ∀j b,o.guard=qA (j,b)->j<q:=by
  unfold t0K at h;simp only[aa]at h;refine⟨λc hc=> ?_,λj b hg=> ?_⟩;rw[hc]at h;exact absurd h.1 (by simp);rw[hg]at h;exact bL (aj (by simpa [jE]using h.2))
variable {F : Fr} {p : Nat} {L : LE} {H : a0e}
/-! Code within a fence. -/
/-! Worlds. -/
theorem B0u {w:World} {b j:Nat} (h:w'.heap[b]?=w.heap[b]?):w'.cell? ⟨b,j,none⟩=w.cell? ⟨b,j,none⟩:=by unfold World.cell?;simp only[h]
def D1(bx:Nat):DM:=λi=>if i=0 then qA (.at bx 0 0)else none
end
theorem z0n {N:Nat} {K:Nat->Nat} {H:a0e} (hl:vals.length=args.length)(hrep: ∀(j:Nat) (x:Value) (c:SV),vals[j]?=qA x->args[j]?=qA c->Rep w K D x c)
    (hi:HInv w K D H) (hG:k0j w K D) (hn:args.length<=N):Sees ⟨N,w,K,D,H,[]⟩ (e0z 0 args) H { tmps:=vals.toArray++vD (N-vals.toArray.size) undef,defers:=[] } w:=by
  have hslots:Slots N w K D (a0w (e0z 0 args)) (vals.toArray++vD (N-vals.toArray.size) undef):=by
    refine⟨by simp;omega,λi hin=> ?_,hG⟩;show Rep w K D _ (lk (e0z 0 args) i);rw[l0I,yB (bp _),bV];by_cases hia:i<args.length;have hiv:i<vals.length:=by omega
    rw[ag hia,be]
    have hg:(vals.toArray++vD (N-vals.toArray.size) undef).getD i undef=vals[i]:=by
      rw[bg,bP (by simpa using hiv)];simp[hiv]
    rw[hg];exact hrep i _ _ (ag hiv) (ag hia);rw[aE (by omega)];exact .undef _
  exact⟨rfl,K,D,⟨hslots,hi,Grow.refl _ _ _ _⟩⟩
def G0D(F:Fr)(v:SV)(H':a0e):Ending->World->Prop:=λe w'=> ∃r,e= .returned r/\Good F.w0 F.K0 F.D0 F.H0 r w' v H'
def D2(x y:Option Loc):DM:=λi=>if i=0 then x else if i=1 then y else none
section
variable {n : Nat} {P : Program} {ops : Array Oper} {Q : e0G} {F F' : Fr} {p : Nat} {L : LE} {H : a0e}
theorem PJ.nextF {c:Code} (hn:F'.n=F.n)(h:J F' P c L H Q):PJ F' (k0k F P c Q) .normal L H:=λa w hs hin=>h (by rw[hn];exact hin) a w hs
end
end
noncomputable def I0t (p:α->Bool)(l:List α):Bool:=List.rec (motive:=λ_=>Bool) yA (λa _ ih=>Bool.rec (motive:=λ_=>Bool) oA ih (p a)) l
theorem w0j {α:Type} (p:α->Bool): ∀l:List α,I0t p l=l.all p
  | []=>rfl
  |a::l=>by
    show(Bool.rec (motive:=λ_=>Bool) oA (I0t p l) (p a):Bool)=_;rw[aF,w0j p l];cases p a<;>rfl
def I0I(n:Nat):Operand->Bool
  | .tmp t=>jE t n
  |_=>yA
theorem A0G(n:Nat)(x:Operand):I0I n x=Operand.inB n x:=by
  cases x<;>first|rfl|skip
  rename_i t;show jE t n=vA (t<n);rw[Bool.eq_iff_iff];simp[jE,cO,Nat.lt_iff_add_one_le]
def H0z:Option Operand->List Operand
  |some x=> [x]
  |none=> []
def callL(c:Call):List Operand:=match c.callee with
  | .value f=>f::c.args.toList
  | .invoke r _=>r::c.args.toList
  | .builtin _=>c.args.toList
def opL:Op->Option (List Operand)
  | .alloc _| .ready _| .waits _=>qA []
  | .move x| .assign x| .box _ x| .load _ x| .nilCheck x| .unOp _ _ x| .convert _ _ x| .sliceToArrayPointer _ x| .makeInterface _ x
  | .makeChan _ x| .fieldAddr _ x _| .field _ x _| .range _ x| .next x _| .entry x| .typeAssert x _ _ _| .extract x _| .panic x| .recv _ x _=>qA [x]
  | .pick c a b=>qA [c,a,b]
  | .build _ ps| .buildSlice _ _ ps=>qA (ps.toList.map (·.2))
  | .store _ a v| .binOp _ _ a v _| .makeSlice _ a v| .indexAddr _ a v| .index _ a v| .lookup _ a v _| .mapEntry _ a v| .send a v=>qA [a,v]
  | .makeFunc _ first captured=>qA (first.toList++captured.toList)
  | .makeMap _ r=>qA (H0z r)
  | .slice _ x l h m=>qA (x::(H0z l++(H0z h++H0z m)))
  | .mapUpdate _ m k v| .entryStore _ m k v| .insert _ m k v=>qA [m,k,v]
  | .call c| .go c| .defer c=>qA (callL c)
  | .select _ _=>none
theorem F0k(x:Option Operand):H0z x=x.toArray.toList:=by cases x<;>rfl
theorem D0F(c:Call):callL c=c.operands.toList:=by
  unfold callL Call.operands;cases c.callee<;>simp
theorem H0C {o:Op} {l:List Operand} (h:opL o=qA l):o.operands.toList=l:=by
  cases o<;>simp only[opL,ak]at h<;>first
    |(subst h;simp[qB,F0k,D0F];done)
    |(subst h;simp[qB];done)
    |cases h
noncomputable def C0K(n:Nat)(o:Op):Bool:=match opL o with
  |some l=>I0t (I0I n) l
  |none=>Op.inB n o
theorem C0J {o:Op} (h:C0K n o=yA):Op.inB n o=true:=by
  unfold C0K at h;split at h;rename_i l hl;unfold Op.inB;rw[<-Array.all_toList,H0C hl,<-h,w0j];congr 1;funext x;exact(A0G n x).symm;exact h
noncomputable def s0f(n:Nat)(ops:Array Oper)(q:Nat)(o:Oper):Bool:=Bool.rec (motive:=λ_=>Bool) oA (t0K q o&&(match o.guard with
    |none=>yA
    |some (j,_)=>match(ops[j]?).bind (·.dst)with
      |some d=>jE d n
      |none=>yA)) (C0K n o.op)
theorem r0j (h:s0f n ops q o=yA):Oper.inB n ops o=yA/\t0K q o=true:=by
  unfold s0f at h
  cases ho:C0K n o.op with
  |false=>rw[ho]at h;cases h
  |true=>
    rw[ho]at h
    have h:(t0K q o&&(match o.guard with
      |none=>yA
      |some (j,_)=>match(ops[j]?).bind (·.dst)with
        |some d=>jE d n
        |none=>yA))=true:=h
    rw[aa]at h;refine⟨?_,h.1⟩;unfold Oper.inB;rw[aa];refine⟨C0J ho, ?_⟩;have h2:=h.2
    cases hg:o.guard with
    |none=>rfl
    |some p=>
      obtain⟨j,b⟩:=p;rw[hg]at h2;simp only at h2⊢
      cases hd:(ops[j]?).bind (·.dst)with
      |none=>rfl
      |some d=>
        rw[hd]at h2;simp only at h2⊢;exact decide_eq_true (bL (aj (by simpa [jE]using h2)))
def e0C:Code->Bool
  | .region _ ops _=>ops.toList.all (t0K ops.size)
  | .seq a b=>e0C a&&e0C b
  | .cond _ x y=>e0C x&&e0C y
  | .block _ c=>e0C c
  | .loop c=>e0C c
  |_=>yA
noncomputable def u0N(n:Nat)(c:Code):Bool:=Code.rec (motive:=λ_=>Bool) yA
  (λ_ ops _=>I0t (s0f n ops ops.size) ops.toList)
  (λ_ _ a b=>Bool.rec (motive:=λ_=>Bool) oA b a)
  (λc _ _ a b=>Bool.rec (motive:=λ_=>Bool) oA (Bool.rec (motive:=λ_=>Bool) oA b a) (I0I n c))
  (λ_ _ a=>a) (λ_ a=>a) (λ_ _ _ _ _ _=>yA) (λ_=>yA) (λ_ _=>oA) (λ_=>yA) (λ_=>yA) yA (λ_=>yA) c
theorem J0c {a:Bool} (h:(Bool.rec (motive:=λ_=>Bool) oA b a:Bool)=yA):a=yA/\b=true:=by
  cases a with
  |true=>exact⟨rfl,h⟩
  |false=>cases h
theorem w0b (c:Code):u0N n c=yA->b0G n c=yA/\e0C c=true:=by
  induction c with
  |region id ops dr=>
    intro h;have h:I0t (s0f n ops ops.size) ops.toList=true:=h;rw[w0j,qD]at h;exact⟨List.all_eq_true.2 λo ho=>(r0j (h o ho)).1,List.all_eq_true.2 λo ho=>(r0j (h o ho)).2⟩
  |seq a b iha ihb=>
    intro h;obtain⟨h1,h2⟩:=J0c (a:=u0N n a) (b:=u0N n b) h;simp only[b0G,e0C,aa];exact⟨⟨(iha h1).1,(ihb h2).1⟩,(iha h1).2,(ihb h2).2⟩
  |cond c x y ihx ihy=>
    intro h;obtain⟨h0,h⟩:=J0c (a:=I0I n c) h;obtain⟨h1,h2⟩:=J0c (a:=u0N n x) (b:=u0N n y) h;rw[A0G]at h0;simp only[b0G,e0C,aa];exact⟨⟨⟨h0,(ihx h1).1⟩,(ihy h2).1⟩,(ihx h1).2,(ihy h2).2⟩
  |block id c ih=>intro h;exact ih h
  |loop c ih=>intro h;exact ih h
  |scope c ih=>intro h;cases h
  |_=>intro _;exact⟨rfl,rfl⟩
noncomputable def J0I(as bd:Code)(m:Nat):Bool:=Nat.rec (motive:=λ_=>Bool) (u0N 0 as&&u0N 0 bd) (λk _=>u0N (k+1) as&&u0N (k+1) bd) m
theorem G0x (h:J0I as bd m=yA):(b0G m as=yA/\e0C as=yA)/\b0G m bd=yA/\e0C bd=true:=by
  have:(u0N m as&&u0N m bd)=true:=by cases m<;>exact h
  rw[aa]at this;exact⟨w0b _ this.1,w0b _ this.2⟩
section
variable [Inhabited GT]
/-! Slots. -/
inductive TE where
  |e
  |n (v:SV) (l r:TE)
noncomputable def TE.get(t:TE):Nat->SV:=
  TE.rec (motive:=λ_=>Nat->SV) (λ_=> .undef) (λv _ _ gl gr i=>Nat.rec (motive:=λ_=>SV) v (λj _=>Bool.rec (motive:=λ_=>SV) (gr (Nat.div j 2)) (gl (Nat.div j 2)) (jC (Nat.mod j 2) 0)) i) t
noncomputable def TE.path(s:SV)(f:Nat):Nat->TE:=
  Nat.rec (motive:=λ_=>Nat->TE) (λ_=> .n s .e .e) (λ_ ih i=>Nat.rec (motive:=λ_=>TE) (.n s .e .e) (λj _=>Bool.rec (motive:=λ_=>TE) (.n .undef .e (ih (Nat.div j 2))) (.n .undef (ih (Nat.div j 2)) .e) (jC (Nat.mod j 2) 0)) i) f
noncomputable def TE.set(s:SV)(t:TE):Nat->TE:=
  TE.rec (motive:=λ_=>Nat->TE) (λi=>TE.path s i i) (λv l r sl sr i=>Nat.rec (motive:=λ_=>TE) (.n s l r) (λj _=>Bool.rec (motive:=λ_=>TE) (.n v l (sr (Nat.div j 2))) (.n v (sl (Nat.div j 2)) r) (jC (Nat.mod j 2) 0)) i) t
noncomputable def TE.put(t:TE)(d:Option Nat)(v:SV):TE:=Option.rec (motive:=λ_=>TE) t (λd=>t.set v d) d
noncomputable def TE.init(i:Nat)(args:List SV)(t:TE):TE:=List.rec (motive:=λ_=>Nat->TE->TE) (λ_ t=>t) (λv _ ih i t=>ih (Nat.succ i) (t.set v i)) args i t
noncomputable def TE.pars(ps:List Nat)(args:List SV)(t:TE):TE:=List.rec (motive:=λ_=>List SV->TE->TE) (λ_ t=>t) (λp _ ih args t=>List.rec (motive:=λ_=>TE) t (λv r _=>ih r (t.set v p)) args) ps args t
/-! Regions. -/
abbrev u0J:=Nat->List SV->a0e->Option (Bool×a0e)
def B0R(ρ:Env)(o:Oper):Option (Nat×List SV):=match o.op with
  | .call c=>match c.callee with
    | .value f=>match a0L ρ f with
      |some (.yld i)=>(c.args.toList.mapM (a0L ρ)).map λl=>(i,l)
      |_=>none
    |_=>none
  |_=>none
def x0y(P:Program)(cl:CallT)(yl:u0J)(o:Oper)(ρ:Env)(H:a0e):Option (SV×a0e):=
  bif b0M o then match d0L ρ o with
    |some (f,args)=>G0B cl f args H
    |none=>match B0R ρ o with
      |some (i,args)=>match yl i args H with
        |some (b,H')=>qA (.bool b,H')
        |none=>none
      |none=>none
  else match a0E P o ρ H H.length with
    |some ef=>qA (ef.v,b0H H ef.wr)
    |none=>none
/-! A list held against nil. -/
def I0E(H:a0e):SV->Option Bool
  | .lst n _ _=>qA (!jC n 0)
  | .nl=>qA oA
  | .vc i=>match H[i]? with
    |some (.vec n _ _ _)=>qA (!jC n 0)
    |_=>none
  |_=>none
def H0G(P:Program)(ρ:Env)(H:a0e)(o:Oper):Option (Bool×Bool):=match o.op with
  | .binOp op t x y _=>bif i0j P t&&w0N y then(match(a0L ρ x).bind (I0E H),op with
    |some k, .eql=>qA (yA,k)
    |some k, .neq=>qA (oA,k)
    |_,_=>none)else none
  |_=>none
def exO(P:Program)(ρ:Env)(H:a0e)(o:Oper):Option (SV×a0e):=match o.op with
  | .call c=>match c.callee,c.args.toList,c.argTypes.toList with
    | .builtin .cap,[x],[t]=>match P.underlying t,a0L ρ x with
      |some (.slice _),qA .nl=>qA (.int .i64 0,H)
      |_,_=>none
    |_,_,_=>none
  | .slice t x none (qA hi) none=>match P.underlying t,a0L ρ x,a0L ρ hi with
    |some (.slice e),qA .nl,qA (.int _ 0)=>if 0<P.cellsOf e then qA (.nl,H)else none
    |some (.slice e),qA (.vc i),qA (.int _ j)=>match H[i]? with
      |some (.vec n k e' cs)=>if k=P.cellsOf e/\0<n/\0<=j/\j<=n then qA (.vc H.length,g0i (g0C H (qA i)) H.length (.vec j.toNat k e' (cs.take (j.toNat*k))))else none
      |_=>none
    |_,_,_=>none
  |_=>none
/-! Lists that may be written, settled. -/
noncomputable def TE.fz(i:Nat)(s0:SV)(t:TE):TE:=TE.rec (motive:=λ_=>TE) .e (λv _ _ l r=> .n (SV.fz i s0 v) l r) t
noncomputable def E0m:List Nat->TE->a0e->TE×a0e
  | [],t,H=>(t,H)
  |i::r,t,H=>match H[i]? with
    |some (.vec n k _ cs)=>E0m r (t.fz i (.lst n k cs)) (fzH i (.lst n k cs) H)
    |_=>E0m r t H
def E0c(ρ:Env)(o:Oper):List Nat:=o.op.operands.toList.flatMap λx=>match a0L ρ x with
  |some s=>SV.rl s
  |none=> []
def eqR(x y:Option (SV×a0e)):Option (SV×a0e):=match x,y with
  |some (a,H),qA (b,H')=>bif SV.eqb a b&&f0B H H' then qA (a,H)else match a,b with
    | .nl, .vc i=>match H'[H.length]? with
      |some (.vec 0 k e [])=>bif jC i H.length&&f0B (H++ [.vec 0 k e []]) H' then qA (b,H')else none
      |_=>none
    |_,_=>none
  |_,_=>none
section
variable {α : Type}
noncomputable def evN(eqA:Option α->Option α->Option α)(P:Program)(cl:CallT)(yl:u0J)(ops:Array Oper)(l:List Oper):TE->a0e->(TE->a0e->Option α)->Option α:=
  List.rec (motive:=λ_=>TE->a0e->(TE->a0e->Option α)->Option α) (λt H k=>k t H)
    (λo _ ih t H k=>match b0n ops t.get o with
      |some yA=>match x0y P cl yl o t.get H with
        |some (v,H')=>ih (t.put o.dst v) H' k
        |none=>match H0G P t.get H o with
          |some (eq,kn)=>bif kn then ih (t.put o.dst (.bool (bif eq then oA else yA))) H k
            else eqA (ih (t.put o.dst (.bool (bif eq then yA else oA))) H k) (ih (t.put o.dst (.bool (bif eq then oA else yA))) H k)
          |none=>match exO P t.get H o with
            |some (v,H')=>ih (t.put o.dst v) H' k
            |none=>match E0c t.get o with
              | []=>none
              |i::is=>(λz:TE×a0e=>match b0n ops z.1.get o with
                |some yA=>match x0y P cl yl o z.1.get z.2 with
                  |some (v,H')=>ih (z.1.put o.dst v) H' k
                  |none=>none
                |_=>none) (E0m (i::is) t H)
      |some oA=>ih (t.put o.dst (.tup [])) H k
      |none=>none) l
def E0P(P:Program)(cl:CallT)(ops:Array Oper)(base p:Nat)(tr:List XT)(o:Oper)(ρ:Env)(H:a0e):Option Eff:=
  bif b0M o then match d0L ρ o with
    |some (f,args)=>match B0w cl f args H (d0S ops base p)with
      |some ef=>bif h0D P o (f0M o ef) (e0L ops base p o ef) ef tr 0&&J0V ef H then qA ef else none
      |none=>none
    |none=>none
  else match a0E P o ρ H (d0S ops base p)with
    |some ef=>bif h0D P o (f0M o ef) (e0L ops base p o ef) ef tr 0&&((!c0H o||n0i (H[d0S ops base p]?))&&ef.wr.all (λx=>jE x.1 H.length))then qA ef else none
    |none=>none
noncomputable def evD(P:Program)(cl:CallT)(ops:Array Oper)(base:Nat)(l:List Oper):Nat->List XT->TE->a0e->(TE->a0e->Option α)->Option α:=
  List.rec (motive:=λ_=>Nat->List XT->TE->a0e->(TE->a0e->Option α)->Option α) (λ_ _ t H k=>k t H)
    (λo _ ih p tr t H k=>match b0n ops t.get o with
      |some yA=>match E0P P cl ops base p tr o t.get H with
        |some ef=>ih (p+1) (tr++ [((f0M o ef,e0L ops base p o ef),o,ef,g0S t.get o)]) (t.put o.dst ef.v) (a0Q H ef.wr) k
        |none=>none
      |some oA=>bif h0D P o (f0M o ⟨.tup [],[],[]⟩) (e0L ops base p o ⟨.tup [],[],[]⟩) ⟨.tup [],[],[]⟩ tr 0 then ih (p+1) (tr++ [((f0M o ⟨.tup [],[],[]⟩,e0L ops base p o ⟨.tup [],[],[]⟩),o,⟨.tup [],[],[]⟩,g0S t.get o)]) (t.put o.dst (.tup [])) H k else none
      |none=>none) l
/-! What a call hands back, settled, where the order is open. -/
def F0P:List Nat->SV->a0e->SV×a0e
  | [],v,H=>(v,H)
  |i::r,v,H=>match H[i]? with
    |some (.vec n k _ cs)=>F0P r (SV.fz i (.lst n k cs) v) (fzH i (.lst n k cs) H)
    |_=>F0P r v H
def I0M(cl:CallT):CallT:=λf args H=>match cl f args H with
  |some (v,H')=>bif oC H'.length (H.length+1)then qA (v,H')else
    (λz:SV×a0e=>bif SV.refs H.length z.1&&(z.2.take H.length).all (Ent.refs H.length)&&oC H.length z.2.length then qA (z.1,z.2.take H.length)else none) (F0P (vG H.length (H'.length-H.length)) v H')
  |none=>none
/-! Code. -/
def r0n:LoopState->Bool
  | .busy=>yA
  |_=>oA
def s0v:LoopState->Bool
  | .ready=>yA
  |_=>oA
abbrev KT(α:Type):=TE->a0e->List Nat->Option α
def evJ(i:Nat)(t:TE)(H:a0e)(ms:List Nat)(kn kr:KT α)(kx:Nat->KT α):Option α:=match H[i]? with
  |some (.lop _ _ _ _ st pd)=>bif r0n st then none else match pd with
    |none=>kn t (H.set i .gone) ms
    |some .ret=>kr t (H.set i .gone) ms
    |some (.exit k)=>kx k t (H.set i .gone) ms
    |some _=>none
  |_=>none
noncomputable def evG(it:CallT)(N:Nat)(rd:Option Nat)(g:Operand)(ps:Array Nat)(as bd:Code)(t:TE)(H:a0e)(ms:List Nat)(kn kr:KT α)(kx:Nat->KT α):Option α:=bif Operand.inB N g then match a0L t.get g with
  |some (.fn (.func gf) [] caps)=>match rd with
    |none=>match it gf (.yld (H.length+1)::caps) (H++ [.dfr]++ [.lop ((wC N).map t.get) ps.toList as bd .ready none])with
      |some (_,H2)=>evJ (H.length+1) t H2 (H.length::ms) kn kr kx
      |none=>none
    |some i=>match H[i]? with
      |some (.lop _ _ _ _ _ _)=>match it gf (.yld H.length::caps) (H++ [.lop ((wC N).map t.get) ps.toList as bd .ready none])with
        |some (_,H2)=>evJ H.length t H2 ms kn kr kx
        |none=>none
      |_=>none
  |_=>none else none
noncomputable def ewC(eqA:Option α->Option α->Option α)(P:Program)(cl it:CallT)(yl:u0J)(B N:Nat)(rd:Option Nat)(c:Code):TE->a0e->List Nat->KT α->KT α->(Nat->KT α)->Option α:=
  Code.rec (motive:=λ_=>TE->a0e->List Nat->KT α->KT α->(Nat->KT α)->Option α)
    (λt H ms kn _ _=>kn t H ms)
    (λ_ ops dr t H ms kn _ _=>bif dr then
        (bif P.follows .mixedOrders&&qG .any ops then evD P (I0M cl) ops H.length ops.toList 0 [] t (H++wD (d0J ops) .res) (λt H=>kn t H ms)else none)
      else evN eqA P cl yl ops ops.toList t H (λt H=>kn t H ms))
    (λ_ _ iha ihb t H ms kn kr kx=>iha t H ms (λt H ms=>ihb t H ms kn kr kx) kr kx)
    (λc _ _ ihx ihy t H ms kn kr kx=>match a0L t.get c with
      |some (.bool b)=>Bool.rec (motive:=λ_=>Option α) (ihy t H ms kn kr kx) (ihx t H ms kn kr kx) b
      |_=>none)
    (λid _ ih t H ms kn kr kx=>ih t H ms kn kr (λi t H ms=>bif jC i id then kn t H ms else kx i t H ms))
    (λ_ ih t H ms _ kr kx=>Nat.rec (motive:=λ_=>KT α) (λ_ _ _=>none) (λ_ go t H ms=>ih t H ms go kr kx) B t H ms)
    (λg ps as bd _ _ t H ms kn kr kx=>evG it N rd g ps as bd t H ms kn kr kx)
    (λi t H ms _ _ kx=>kx i t H ms)
    (λ_ _ _ _ _ _ _ _=>none)
    (λ_ _ _ _ _ _ _=>none)
    (λ_ _ _ _ _ _ _=>none)
    (λt H ms _ kr _=>kr t H ms)
    (λ_ _ _ _ _ _ _=>none) c
end
/-! Functions, rounds. -/
noncomputable def J0h(P:Program)(f:FuncId)(fn:Func)(c:Code):Bool:=b0J P f&&u0N fn.ntmps c&&i0w fn.ntmps fn.results.toList
def B0r:List Nat->a0e->Option a0e
  | [],H=>qA H
  |i::r,H=>match H[i]? with
    |some .dfr=>B0r r (H.set i .gone)
    |_=>none
noncomputable def v0Q(P:Program)(fn:Func)(H:a0e)(t:TE)(H1:a0e)(ms:List Nat):Option (SV×a0e):=match B0r ms H1 with
  |some H2=>match r0W P fn.results.toList ((d0r fn.results.toList).map λi=>(i,t.get i)) H2 with
    |some v1=>v0P H v1 H2
    |none=>none
  |none=>none
noncomputable def J0D(P:Program)(kn cl:CallT)(yl:u0J)(B:Nat):CallT:=λf args H=>match kn f args H with
  |some r=>qA r
  |none=>match P.funcs[f]? with
    |none=>none
    |some fn=>match fn.body with
      |none=>none
      |some c=>bif J0h P f fn c&&oC args.length fn.ntmps then
          ewC eqR P cl cl yl B fn.ntmps none c (TE.init 0 args .e) H [] (v0Q P fn H) (v0Q P fn H) (λ_ _ _ _=>none)
        else none
def x0N(i:Nat)(j:Option Code)(H:a0e):Option (Bool×a0e):=match H[i]? with
  |some (.lop tm ps as bd _ _)=>qA (j.isNone,H.set i (.lop tm ps as bd (bif j.isNone then .ready else .done) j))
  |_=>none
noncomputable def J0C(P:Program)(cl:CallT)(yl:u0J)(B:Nat):u0J:=λi args H=>match H[i]? with
  |some (.lop tm ps as bd st pd)=>bif s0v st&&jC args.length ps.length&&J0I as bd tm.length then
      ewC (λ_ _=>none) P cl cl yl B tm.length (qA i) as (TE.pars ps args (TE.init 0 tm .e)) H []
        (λt1 H1 ms1=>match H1[i]? with
          |some (.lop tm1 ps1 as1 bd1 st1 pd1)=>bif s0v st1 then ewC (λ_ _=>none) P cl cl yl B tm.length (qA i) bd t1 (H1.set i (.lop tm1 ps1 as1 bd1 .busy pd1)) ms1
              (λ_ H2 _=>x0N i none H2) (λ_ H2 _=>x0N i (qA .ret) H2) (λk _ H2 _=>x0N i (qA (.exit k)) H2)else none
          |_=>none) (λ_ _ _=>none) (λ_ _ _ _=>none)
    else none
  |_=>none
def blk(fs:List Nat)(cl:CallT):CallT:=λf args H=>bif t0N f fs&& !((SV.rlL args).isEmpty)then none else cl f args H
noncomputable def evA(P:Program)(kn:CallT)(fz:List Nat)(B n:Nat):CallT×u0J:=
  Nat.rec (motive:=λ_=>CallT×u0J) (λ_ _ _=>none,λ_ _ _=>none) (λ_ ih=>(blk fz (J0D P kn ih.1 ih.2 B),J0C P ih.1 ih.2 B)) n
end
section
variable [Inhabited GT]
/-! Slots. -/
theorem TE.get_s(v:SV)(l r:TE)(j:Nat):(TE.n v l r).get (j+1)=if j%2=0 then l.get (j/2)else r.get (j/2):=by
  show(Bool.rec (motive:=λ_=>SV) (r.get (j/2)) (l.get (j/2)) (jC (j%2) 0):SV)=_
  cases h:jC (j%2) 0 with
  |true=>rw[yB (af h)]
  |false=>rw[oB (λe=>by rw[e]at h;simp at h)]
theorem TE.path_s(s:SV)(f j:Nat):TE.path s (f+1) (j+1)=if j%2=0 then .n .undef (TE.path s f (j/2)) .e else .n .undef .e (TE.path s f (j/2)):=by
  show(Bool.rec (motive:=λ_=>TE) (TE.n .undef .e (TE.path s f (j/2))) (TE.n .undef (TE.path s f (j/2)) .e) (jC (j%2) 0):TE)=_
  cases h:jC (j%2) 0 with
  |true=>rw[yB (af h)]
  |false=>rw[oB (λe=>by rw[e]at h;simp at h)]
theorem TE.set_s(s v:SV)(l r:TE)(j:Nat):(TE.n v l r).set s (j+1)=if j%2=0 then .n v (l.set s (j/2)) r else .n v l (r.set s (j/2)):=by
  show(Bool.rec (motive:=λ_=>TE) (TE.n v l (r.set s (j/2))) (TE.n v (l.set s (j/2)) r) (jC (j%2) 0):TE)=_
  cases h:jC (j%2) 0 with
  |true=>rw[yB (af h)]
  |false=>rw[oB (λe=>by rw[e]at h;simp at h)]
theorem TE.get_path(s:SV): ∀(f i j:Nat),i<=f->(TE.path s f i).get j=if j=i then s else .undef:=by
  intro f
  induction f with
  |zero=>
    intro i j h;obtain rfl:i=0:=by omega
    cases j with
    |zero=>rfl
    |succ j=>rw[oB (by omega)];show(TE.n s .e .e).get (j+1)=_;rw[TE.get_s];split<;>rfl
  |succ f ih=>
    intro i j h
    cases i with
    |zero=>
      cases j with
      |zero=>rfl
      |succ j=>rw[oB (by omega)];show(TE.n s .e .e).get (j+1)=_;rw[TE.get_s];split<;>rfl
    |succ i=>
      rw[TE.path_s];by_cases hp:i%2=0;rw[yB hp]
      cases j with
      |zero=>rw[oB (by omega)];rfl
      |succ j=>
        rw[TE.get_s];by_cases hq:j%2=0;rw[yB hq,ih (i/2) (j/2) (by omega)];by_cases he:j=i;subst he;simp;rw[oB (by omega),oB (by omega)];rw[oB hq,oB (by omega)];rfl
      rw[oB hp]
      cases j with
      |zero=>rw[oB (by omega)];rfl
      |succ j=>
        rw[TE.get_s];by_cases hq:j%2=0;rw[yB hq,oB (by omega)];rfl;rw[oB hq,ih (i/2) (j/2) (by omega)];by_cases he:j=i;subst he;simp;rw[oB (by omega),oB (by omega)]
theorem TE.get_set(s:SV): ∀(t:TE) (i j:Nat),(t.set s i).get j=if j=i then s else t.get j:=by
  intro t
  induction t with
  |e=>intro i j;exact TE.get_path s i i j (am _)
  |n v l r ihl ihr=>
    intro i j
    cases i with
    |zero=>
      cases j with
      |zero=>rfl
      |succ j=>rw[oB (by omega)];show(TE.n s l r).get (j+1)=_;rw[TE.get_s,TE.get_s]
    |succ i=>
      rw[TE.set_s];by_cases hp:i%2=0;rw[yB hp]
      cases j with
      |zero=>rw[oB (by omega)];rfl
      |succ j=>
        rw[TE.get_s,TE.get_s];by_cases hq:j%2=0;rw[yB hq,yB hq,ihl];by_cases he:j=i;subst he;simp;rw[oB (by omega),oB (by omega)];rw[oB hq,oB hq,oB (by omega)]
      rw[oB hp]
      cases j with
      |zero=>rw[oB (by omega)];rfl
      |succ j=>
        rw[TE.get_s,TE.get_s];by_cases hq:j%2=0;rw[yB hq,yB hq,oB (by omega)];rw[oB hq,oB hq,ihr];by_cases he:j=i;subst he;simp;rw[oB (by omega),oB (by omega)]
theorem TE.put_env {L:LE} {t:TE} (h:a0w L=t.get)(d:Option Nat)(v:SV):a0w (e0n L d v)=(t.put d v).get:=by
  rw[<-b0o]
  cases d with
  |none=>exact h
  |some d=>
    funext j;show upd (a0w L) d v j=(t.set v d).get j;rw[TE.get_set,h];rfl
theorem TE.init_get: ∀(args:List SV) (i:Nat) (t:TE) (j:Nat),(TE.init i args t).get j=if i<=j then(args[j-i]?).getD (t.get j)else t.get j
  | [],i,t,j=>by show t.get j=_;simp
  |v::r,i,t,j=>by
    show(TE.init (i+1) r (t.set v i)).get j=_;rw[TE.init_get r (i+1) (t.set v i) j,TE.get_set];by_cases h1:i+1<=j;rw[yB h1,oB (by omega),yB (by omega),show j-i=(j-(i+1))+1 from by omega];simp;rw[oB h1];by_cases h2:j=i;subst h2;simp;rw[oB h2,oB (by omega)]
theorem TE.init_env(args:List SV):a0w (e0z 0 args)=(TE.init 0 args .e).get:=by
  funext j;show lk (e0z 0 args) j=_;rw[l0I,TE.init_get];rfl
/-! Operations within a fence. -/
section
variable {Fc : Fence} {F : Fr} {P : Program} {ops : Array Oper} {L : LE} {H : a0e} {Q : e0G} {o : Oper} {l : List Oper}
def RLi(Fc:Fence)(F:Fr)(P:Program)(ops:Array Oper)(l:List Oper)(L:LE)(H:a0e)(Q:e0G):Prop:= ∀a w,Sees F L H a w->wpListIn Fc 0 P ops Q l a w
theorem RLi.go(hg:b0n ops (a0w L) o=qA yA)(hb:Oper.inB F.n ops o=yA)(h: ∀a w,Sees F L H a w->o.wpIn Fc 0 P a w (λa' w'=>wpListIn Fc 0 P ops Q l a' w') Q):RLi Fc F P ops (o::l) L H Q:=by
  intro a w hs;refine wpListIn_step λKK hKK=> ?_
  obtain⟨hd,K,D,hi⟩:=hs;rw[b0U hi.slots (Oper.inB_guard hb) hg,yB rfl];exact Oper.wpIn_mono hKK (h a w ⟨hd,K,D,hi⟩)
theorem RLi.skip(hW:Wd Fc)(hg:b0n ops (a0w L) o=qA oA)(hb:Oper.inB F.n ops o=yA)(h:RLi Fc F P ops l (e0n L o.dst (.tup [])) H Q):RLi Fc F P ops (o::l) L H Q:=by
  intro a w hs;refine wpListIn_step λKK hKK=> ?_
  obtain⟨hd,K,D,hi⟩:=hs;rw[b0U hi.slots (Oper.inB_guard hb) hg,oB (by simp)];exact⟨λf _=>hW.fn f,hKK _ _ (h _ w ⟨by rw[b0g];exact hd,K,D,by have:=r0Y hi o.dst;rw[b0o]at this;exact this⟩)⟩
theorem RLi.step(hW:Wd Fc)(hg:b0n ops (a0w L) o=qA yA)(hb:Oper.inB F.n ops o=yA)(hnd: ∀c,o.op≠ .defer c) (he:a0E P o (a0w L) H H.length=qA ef)
    (h:RLi Fc F P ops l (e0n L o.dst ef.v) (b0H H ef.wr) Q):RLi Fc F P ops (o::l) L H Q:=
  RLi.go hg hb λa w hs=>by
    obtain⟨hd,K,D,hi⟩:=hs;exact p0y (R:=λ_ _=>False) hW hnd (λa w hx=>hx) (v0p hi hd (Oper.inB_op hb) (.inl rfl) he λa' w' hst'=>h a' w' (by rw[b0o]at hst';exact hst'))
theorem RLi.call(hW:Wd Fc)(hg:b0n ops (a0w L) o=qA yA)(hb:Oper.inB F.n ops o=yA)(hnd: ∀c,o.op≠ .defer c) (hc:d0L (a0w L) o=qA (f,args))(hs:SC P f args H v H')
    (h:RLi Fc F P ops l (e0n L o.dst v) H' Q):RLi Fc F P ops (o::l) L H Q:=
  RLi.go hg hb λa w hst=>by
    obtain⟨hd,K,D,hi⟩:=hst;exact p0y (R:=λ_ _=>False) hW hnd (λa w hx=>hx) (l0t hi hd (Oper.inB_op hb) hc hs λa' w' hst'=>h a' w' (by rw[b0o]at hst';exact hst'))
/-! Yields. -/
def YS(P:Program)(i:Nat)(args:List SV)(H:a0e)(b:Bool)(H':a0e):Prop:=
  ∀(Fc:Fence),Wd Fc->(∀l,Fc.inRound l=Fence.wide.inRound l)-> ∀(w:World) (K:Nat->Nat) (D:DM) (vals:List Value),vals.length=args.length->(∀(j:Nat) (v:Value) (c:SV),vals[j]?=qA v->args[j]?=qA c->Rep w K D v c)->HInv w K D H->k0j w K D->
    ∃l,D i=qA (.at l 0 0)/\YieldAt Fc 0 P l vals.toArray w (λe w'=>e= .returned (.bool b)/\ ∃K' D',Grow w K D H w' K' D' H'/\HInv w' K' D' H')
def YOk(P:Program)(yl:u0J):Prop:= ∀i args H b H',yl i args H=qA (b,H')->YS P i args H b H'
theorem E0Z {K:Nat->Nat} {v:Value} (h:Rep w K D v (.yld i)): ∃l c n,v= .func (.yield l) #[] #[]/\D i=qA (.at l c n):=by
  cases h with
  |yld _ l c n hd=>exact⟨l,c,n,rfl,hd⟩
theorem u0O {K:Nat->Nat} (h:Slots m w K D ρ a.tmps)(hb:Op.inB m o.op=yA) (hc:B0R ρ o=qA (i,args)):
    ∃(l c n:Nat) (vals:List Value),D i=qA (.at l c n)/\vals.length=args.length/\(∀(j:Nat) (v:Value) (c:SV),vals[j]?=qA v->args[j]?=qA c->Rep w K D v c)/\(execOp a.eval o).run P w=(Instr.yield l vals.toArray).run P w:=by
  unfold B0R at hc;split at hc;rename_i c ho;split at hc;rename_i fo hcal;split at hc;rename_i i' hfe
  cases hm:c.args.toList.mapM (a0L ρ)with
  |none=>rw[hm]at hc;cases hc
  |some l'=>
    rw[hm]at hc;cases hc;unfold Op.inB at hb;rw[aZ]at hb;obtain⟨l,c',n,hv,hD⟩:=E0Z (a0h h (hb fo (by simp[ho,qB,Call.operands,hcal])) hfe);have hxs: ∀x∈c.args.toList,Operand.inB m x=true:=λx hx=>hb x (by simp only[ho,qB,Call.operands];exact bQ.2 (.inr (aD.1 hx)))
    obtain⟨q1,q2⟩:=B0B h _ _ hxs hm;refine⟨l,c',n,c.args.toList.map a.eval,hD,q1.symm,q2, ?_⟩;unfold execOp;simp only[ho,resolve,hcal,hv,Deferred.ofValue,invoke,zD,qE,yC];simp;rw[<-Array.toList_map,Array.toArray_toList]
  cases hc;cases hc;cases hc
theorem RLi.yield(hW:Wd Fc)(hW2: ∀l,Fc.inRound l=Fence.wide.inRound l)(hg:b0n ops (a0w L) o=qA yA)(hb:Oper.inB F.n ops o=yA)(hnd: ∀c,o.op≠ .defer c) (hc:B0R (a0w L) o=qA (i,args))(hY:YS P i args H b H')
    (h:RLi Fc F P ops l (e0n L o.dst (.bool b)) H' Q):RLi Fc F P ops (o::l) L H Q:=
  RLi.go hg hb λa w hst=>by
    obtain⟨hd,K,D,hi⟩:=hst;obtain⟨l1,c,n,vals,hD,q1,q2,hrun⟩:=u0O (P:=P) (w:=w) hi.slots (Oper.inB_op hb) hc;obtain⟨l2,hD2,fn,tmps,assign,body,hy,hR⟩:=hY Fc hW hW2 w K D vals q1 q2 hi.hinv hi.slots.glob;rw[hD]at hD2;cases hD2;refine⟨λf _=>hW.fn f, ?_⟩;rw[Oper.semAt_eq _ _ _ hnd,hrun,hy,Oper.uponIn_round];refine⟨λhx=>(by rw[hW.depth]at hx;cases hx),hR.mono ?_⟩;rintro e w' ⟨rfl,K',D',g,hi'⟩;have:=hi.step (r:= .bool b) (s:= .bool b) ⟨K',D',g,hi', .bool b⟩ o.dst;refine h _ w' ⟨by rw[b0g];exact hd, ?_⟩;rw[b0o]at this;exact this
/-! A list held against nil. -/
theorem F0o {K:Nat->Nat} {v:Value} {k:Bool} (h:Rep w K D v s)(hi:HInv w K D H)(hk:I0E H s=qA k): ∃ad n c,v= .slice ad n c/\(k=yA->ad.isNone=oA):=by
  cases h with
  |nl a=>cases hk;exact⟨a,0,0,rfl,by simp⟩
  |emp k' a cap=>cases hk;exact⟨a,0,cap,rfl,by simp⟩
  |lst k' b off len cap vs cs=>exact⟨_,_,_,rfl,λ_=>rfl⟩
  |vcn i a hd=>
    refine⟨a,0,0,rfl,λhkt=> ?_⟩;simp only[I0E]at hk;split at hk;rename_i n k' e cs he;rcases(hi.ent _ _ he).2 with⟨_,h2,_⟩|⟨b,c,vs,rest,h1,_⟩;subst h2;cases hk;cases hkt;rw[hd]at h1;cases h1;cases hk
  |vc i b c n hd=>exact⟨_,_,_,rfl,λ_=>rfl⟩
  |_=>cases hk
theorem C0P {K:Nat->Nat} (hs:Slots m w K D (a0w L) a.tmps)(hi:HInv w K D H)(hb:Op.inB m o.op=yA) {eq k:Bool} (h:H0G P (a0w L) H o=qA (eq,k)):
    ∃b:Bool,(k=yA->b=oA)/\(execOp a.eval o).run P w= .ok (.value (.bool (bif eq then b else !b))) w:=by
  unfold H0G at h
  split at h
  · rename_i op t x y u ho
    cases hty:(i0j P t&&w0N y)with
    |false=>rw[hty]at h;cases h
    |true=>
      rw[hty]at h;simp only[aa]at hty;obtain⟨ht,hy⟩:=hty;simp only[qC]at h;unfold Op.inB at hb;rw[aZ]at hb;have hxb:=hb x (by simp[ho,qB])
      have hyv:a.eval y= .slice none 0 0:=by
        cases y with
        |const v=>cases v<;>first|(cases hy;done)|(rename_i a1 b1 c1;cases a1<;>first|(cases hy;done)|(cases b1<;>first|(cases hy;done)|(cases c1<;>first|(cases hy;done)|rfl)))
        |_=>cases hy
      have hex:execOp a.eval o=(do pure (Next.value (<-(do eqGuard op t x y (a.eval x) (a.eval y);binOp op t (a.eval x) (a.eval y):Sem Value)))):=by unfold execOp;rw[ho]
      cases hx:a0L (a0w L) x with
      |none=>rw[hx]at h;simp at h
      |some s=>
        rw[hx]at h;simp only[ab]at h;have hr:=a0h hs hxb hx
        cases hn:I0E H s with
        |none=>rw[hn]at h;simp at h
        |some k'=>
          rw[hn]at h;obtain⟨ad,n,c,hv,hk⟩:=F0o hr hi hn;cases op<;>simp only[ak,aP,reduceCtorEq]at h
          obtain⟨rfl,rfl⟩:=h;exact⟨ad.isNone,hk,by rw[hex,hv,hyv];exact b0u (t0n ht)⟩;obtain⟨rfl,rfl⟩:=h;exact⟨ad.isNone,hk,by rw[hex,hv,hyv];exact b0u (r0c ht)⟩
  cases h
theorem RLi.isNil(hW:Wd Fc)(hg:b0n ops (a0w L) o=qA yA)(hb:Oper.inB F.n ops o=yA)(hnd: ∀c,o.op≠ .defer c) {eq k:Bool} (hn:H0G P (a0w L) H o=qA (eq,k))
    (h: ∀b:Bool,(k=yA->b=oA)->RLi Fc F P ops l (e0n L o.dst (.bool (bif eq then b else !b))) H Q):RLi Fc F P ops (o::l) L H Q:=
  RLi.go hg hb λa w hst=>by
    obtain⟨hd,K,D,hi⟩:=hst;obtain⟨b,hk,hrun⟩:=C0P (P:=P) hi.slots hi.hinv (Oper.inB_op hb) hn;refine p0y (R:=λ_ _=>False) hW hnd (λa w hx=>hx) ?_;unfold Oper.wp;rw[hrun];refine h b hk _ w ⟨by rw[b0g];exact hd,K,D, ?_,hi.hinv,hi.grow⟩;have h9:=hi.slots.put o.dst (s:= .bool (bif eq then b else !b)) (.bool _);rw[b0o]at h9;exact h9
end
theorem RLi.ok {L:LE} {H:a0e} {l:List Oper} (hW:Wd Fc)(hg:b0n ops (a0w L) o=qA yA)(hb:Oper.inB F.n ops o=yA)(hnd: ∀c,o.op≠ .defer c)
    (hop: ∀(a:Act) (w:World) (K:Nat->Nat) (D:DM),Inv F w K D H (a0w L) a.tmps->o0s P w K D H o a v H') (h:RLi Fc F P ops l (e0n L o.dst v) H' Q):RLi Fc F P ops (o::l) L H Q:=
  RLi.go hg hb λa w hst=>by
    obtain⟨hd,K,D,hi⟩:=hst;obtain⟨r,w',hrun,g⟩:=hop a w K D hi;refine p0y (R:=λ_ _=>False) hW hnd (λa w hx=>hx) ?_
    have hK: ∀r',r'=r->wpListIn Fc 0 P ops Q l (a.put o.dst r') w':=λr' e=>by
      subst e;have:=hi.step g o.dst;rw[b0o]at this;exact h _ w' ⟨by rw[b0g];exact hd,this⟩
    unfold Oper.wp;rcases hrun with hrun|⟨hrun,hr⟩;rw[hrun];exact hK _ rfl;rw[hrun];exact hK _ hr.symm
theorem I0b {L:LE} {H:a0e} (h:exO P (a0w L) H o=qA (v,H')) {K:Nat->Nat} (hi:Inv F w K D H (a0w L) a.tmps)(hb:Op.inB F.n o.op=yA):o0s P w K D H o a v H':=by
  unfold Op.inB at hb;rw[aZ]at hb;unfold exO at h;split at h;rename_i c ho;split at h;rename_i x t hcal hargs htys;split at h;rename_i e hu hx;cases h;have hr:=a0h hi.slots (hb x (by simp only[ho,qB,Call.operands];exact bQ.2 (.inr (aD.1 (by rw[hargs];simp))))) hx;generalize hv:a.eval x=vx at hr
  cases hr with
  |nl ad=>
    have ha:c.args= #[x]:=by rw[<-hargs]
    have ht:c.argTypes= #[t]:=by rw[<-htys]
    have hrun: ∀r,(Builtin.cap_ #[t] o.type #[a.eval x]).run P w= .ok r w->(execOp a.eval o).run P w= .ok (.value r) w:=λr hr=>by
      unfold execOp;simp only[ho,resolve,hcal,ha,ht];simp[invoke,builtin,zD,hr]
    exact⟨.int .i64 0,w, .inl (hrun _ (by rw[hv];simp[Builtin.cap_,run_underlying hu,goInt])),Good.here hi.hinv (.int _ _)⟩
  cases h
  cases h
  · rename_i t x hi0 ho
    split at h
    · rename_i e kd hu hx hh
      split at h
      · rename_i hk
        cases h;have hr:=a0h hi.slots (hb x (by simp[ho,qB])) hx;have hr2:=a0h hi.slots (hb hi0 (by simp[ho,qB])) hh;generalize hv:a.eval x=vx at hr;generalize hv2:a.eval hi0=vh at hr2;cases hr2
        cases hr with
        |nl ad=>
          have hadd:ad.map (λx=>x.add 0)=ad:=by cases ad<;>simp[Addr.add]
          refine⟨.slice ad 0 0,w, .inl ?_,Good.here hi.hinv (.nl _)⟩;unfold execOp;simp only[ho];simp[oG,Instr.slice,wE,Instr.sliceBound,asIntOf,run_underlying hu,c0v hk,hv,hv2,hadd]
      cases h
    rename_i e i kd j hu hx hh;split at h;rename_i n k e' cs hH;split at h;rename_i hc;obtain⟨hk,hn,hj0,hjn⟩:=hc;cases h;have hr:=a0h hi.slots (hb x (by simp[ho,qB])) hx;have hr2:=a0h hi.slots (hb hi0 (by simp[ho,qB])) hh;generalize hv:a.eval x=vx at hr;generalize hv2:a.eval hi0=vh at hr2;cases hr2;obtain⟨hp,hent⟩:=hi.hinv.ent _ _ hH;rcases hent with⟨_,h2,_⟩|⟨b,c,vs,rest,h1,h2,h3,h4,h5,h6,h7,h8,h9⟩;omega;have hil:i<H.length:=(ae.1 hH).1
    have hval:vx= .slice (qA ⟨b,0,none⟩) n c:=by
      cases hr with
      |vcn _ ad hd=>rw[h1]at hd;cases hd
      |vc _ b' c' n' hd=>rw[h1]at hd;cases hd;rfl
    have hjk:j.toNat*k<=n*k:=aY k (by omega)
    obtain⟨g,hiv⟩:=place (w':=w) (en:= .vec j.toNat k e' (cs.take (j.toNat*k))) (idx:=H.length) (b:=b) (c:=c) (m:=j.toNat) (x:=qA i) hi.hinv (.inl rfl) (by simp;omega) (.inr ⟨i,_,c,n,rfl,hH,rfl,h1⟩) rfl rfl rfl (am _) (λ_ _ _=>rfl)
      (λhrp=>⟨h0o hp _, .inr ⟨b,c,vs.take (j.toNat*k),vs.drop (j.toNat*k)++rest,yB rfl,h2,h3,by omega,h5,by rw[<-aB,aV];exact h6,by rw[aQ];omega,
        by rw[<-aB,aV];exact h8,⟨by rw[aQ,aQ,h9.len],λv hv=>h9.one v (bS hv),λq v c' hv hc'=>by
          rw[ba]at hv hc';split at hv;rename_i hq;rw[yB hq]at hc';exact hrp _ _ (h9.rep q v c' hv hc')
          cases hv⟩⟩⟩)
    refine⟨.slice (qA ⟨b,0,none⟩) j.toNat c,w, .inl ?_,K,_,g,hiv, .vc _ b c j.toNat (yB rfl)⟩;unfold execOp;simp only[ho];have hjc:j<=(c:Int):=by omega
    by_cases hc0:c=0;omega;simp[oG,Instr.slice,wE,Instr.sliceBound,asIntOf,run_underlying hu,c0v (show 0<P.cellsOf e by rw[<-hk];exact h3),hv,hv2,hval,hj0,hjc,hc0,Addr.add];cases h;cases h;cases h
  cases h
theorem TE.get_fz(i:Nat)(s0:SV): ∀(t:TE) (j:Nat),(t.fz i s0).get j=SV.fz i s0 (t.get j):=by
  intro t
  induction t with
  |e=>intro j;rfl
  |n v l r ihl ihr=>
    intro j;show(TE.n (SV.fz i s0 v) (l.fz i s0) (r.fz i s0)).get j=_
    cases j with
    |zero=>rfl
    |succ j=>
      rw[TE.get_s,TE.get_s];split;exact ihl _;exact ihr _
theorem v0G {F:Fr} : ∀(is:List Nat) (t:TE) (H:a0e) (L:LE),a0w L=t.get-> ∃L2,Wk F L H L2 (E0m is t H).2/\a0w L2=(E0m is t H).1.get
  | [],t,H,L,h=>⟨L,λa w hs=>hs,h⟩
  |i::is,t,H,L,h=>by
    simp only[E0m];split;rename_i n k e cs he;have h1:=Wk.freeze (F:=F) (L:=L) i he
    obtain⟨L2,h2,h3⟩:=v0G (F:=F) is (t.fz i (.lst n k cs)) (fzH i (.lst n k cs) H) (fzE i (.lst n k cs) L) (by
      funext j;show lk (fzE i (.lst n k cs) L) j=_
      rw[u0c,TE.get_fz,<-h];rfl)
    exact⟨L2,λa w hs=>h2 a w (h1 a w hs),h3⟩;exact v0G is t H L h
theorem w0G (h:t0K q o=yA): ∀c,o.op≠ .defer c:=(C0O h).1
section
variable {α : Type} {Fc : Fence} {F : Fr} {P : Program} {ops : Array Oper} {Q : e0G} {cl : CallT} {yl : u0J} {eqA : Option α -> Option α -> Option α}
def I0v(Sb:α->Prop)(eqA:Option α->Option α->Option α):Prop:= ∀x y r,eqA x y=qA r->Sb r->(∃r1,x=qA r1/\Sb r1)/\ ∃r2,y=qA r2/\Sb r2
theorem E0p {Sb:α->Prop} :I0v Sb (λ_ _=>(none:Option α)):=λ_ _ _ h=>by cases h
theorem w0q {P:Program} {cl:CallT} {yl:u0J} {Fc:Fence} {F:Fr} {ops:Array Oper} {Q:e0G} {L:LE} {H:a0e} {l:List Oper} (hcl:cl.Ok P)(hyl:YOk P yl)(hW:Wd Fc)(hW2: ∀l,Fc.inRound l=Fence.wide.inRound l)(hg:b0n ops (a0w L) o=qA yA)(hb:Oper.inB F.n ops o=yA)(hnd: ∀c,o.op≠ .defer c)
    (hst:x0y P cl yl o (a0w L) H=qA (v,H')) (hi:RLi Fc F P ops l (e0n L o.dst v) H' Q):RLi Fc F P ops (o::l) L H Q:=by
  unfold x0y at hst
  cases hc:b0M o with
  |true=>
    rw[hc]at hst;simp only[qC]at hst;split at hst;rename_i f args hca;exact RLi.call hW hg hb hnd hca (D0E hcl _ _ _ _ _ hst) hi;split at hst;rename_i i args hy;split at hst;rename_i b H2 hyy;cases hst;exact RLi.yield hW hW2 hg hb hnd hy (hyl _ _ _ _ _ hyy) hi;cases hst;cases hst
  |false=>
    rw[hc]at hst;simp only[vC]at hst;split at hst;rename_i ef he;cases hst;exact RLi.step hW hg hb hnd he hi;cases hst
theorem I0c {Sb:α->Prop} (hcl:cl.Ok P)(hyl:YOk P yl)(hE:I0v Sb eqA)(hW:Wd Fc)(hW2: ∀l,Fc.inRound l=Fence.wide.inRound l): ∀(l:List Oper) (t:TE) (H:a0e) (k:TE->a0e->Option α) (r:α),evN eqA P cl yl ops l t H k=qA r->Sb r->(∀o∈l,Oper.inB F.n ops o=yA/\t0K ops.size o=yA)->
    ∀L,a0w L=t.get->(∀t2 H2 L2 r,a0w L2=t2.get->k t2 H2=qA r->Sb r-> ∀a w,Sees F L2 H2 a w->Q .normal a w)->RLi Fc F P ops l L H Q:=by
  intro l
  induction l with
  |nil=>intro t H k r h hr _ L hL hk a w hs;exact wpListIn_nil (hk t H L r hL h hr a w hs)
  |cons o l ih=>
    intro t H k r h hr hl L hL hk;obtain⟨hb,hnd⟩:=hl o (av ..);have hnd:=w0G hnd;have hl':=λx hx=>hl x (ao _ hx)
    have h:(match b0n ops t.get o with
      |some yA=>match x0y P cl yl o t.get H with
        |some (v,H')=>evN eqA P cl yl ops l (t.put o.dst v) H' k
        |none=>match H0G P t.get H o with
          |some (eq,kn)=>bif kn then evN eqA P cl yl ops l (t.put o.dst (.bool (bif eq then oA else yA))) H k
            else eqA (evN eqA P cl yl ops l (t.put o.dst (.bool (bif eq then yA else oA))) H k) (evN eqA P cl yl ops l (t.put o.dst (.bool (bif eq then oA else yA))) H k)
          |none=>match exO P t.get H o with
            |some (v,H')=>evN eqA P cl yl ops l (t.put o.dst v) H' k
            |none=>match E0c t.get o with
              | []=>none
              |i::is=>(λz:TE×a0e=>match b0n ops z.1.get o with
                |some yA=>match x0y P cl yl o z.1.get z.2 with
                  |some (v,H')=>evN eqA P cl yl ops l (z.1.put o.dst v) H' k
                  |none=>none
                |_=>none) (E0m (i::is) t H)
      |some oA=>evN eqA P cl yl ops l (t.put o.dst (.tup [])) H k
      |none=>none)=qA r:=h
    rw[<-hL]at h
    split at h
    · rename_i hg
      split at h;rename_i v H' hst;have hi:=ih _ _ _ _ h hr hl' _ (TE.put_env hL o.dst v) hk;exact w0q hcl hyl hW hW2 hg hb hnd hst hi
      · split at h
        · rename_i eq kn hn
          refine RLi.isNil hW hg hb hnd hn (λb hb0=> ?_)
          cases hkn:kn with
          |true=>
            rw[hkn]at h;obtain rfl:=hb0 hkn;have:(bif eq then oA else !oA)=(bif eq then oA else yA):=by cases eq<;>rfl
            rw[this];exact ih _ _ _ _ h hr hl' _ (TE.put_env hL o.dst _) hk
          |false=>
            rw[hkn]at h;obtain⟨⟨r1,h1,hr1⟩,r2,h2,hr2⟩:=hE _ _ _ h hr
            cases b with
            |true=>
              have:(bif eq then yA else !yA)=(bif eq then yA else oA):=by cases eq<;>rfl
              rw[this];exact ih _ _ _ _ h1 hr1 hl' _ (TE.put_env hL o.dst _) hk
            |false=>
              have:(bif eq then oA else !oA)=(bif eq then oA else yA):=by cases eq<;>rfl
              rw[this];exact ih _ _ _ _ h2 hr2 hl' _ (TE.put_env hL o.dst _) hk
        split at h;rename_i v H' hx;exact RLi.ok hW hg hb hnd (λa w K D hi=>I0b hx hi (Oper.inB_op hb)) (ih _ _ _ _ h hr hl' _ (TE.put_env hL o.dst v) hk);split at h;cases h;rename_i i is _;obtain⟨L2,hwk,hL2⟩:=v0G (F:=F) (i::is) t H L hL;generalize E0m (i::is) t H=z at h hwk hL2;obtain⟨t2,H2⟩:=z;simp only at h hwk hL2;split at h;rename_i hg2;split at h;rename_i v H' hst;rw[<-hL2]at hst hg2;exact λa w hs=>w0q hcl hyl hW hW2 hg2 hb hnd hst (ih _ _ _ _ h hr hl' _ (TE.put_env hL2 o.dst v) hk) a w (hwk a w hs)
        cases h;cases h
    rename_i hg;exact RLi.skip hW hg hb (ih _ _ _ _ h hr hl' _ (TE.put_env hL o.dst _) hk);cases h
/-! Regions whose order is open. -/
theorem I0s(hW:Wd Fc) {R:Act->World->Prop} (hnd: ∀o∈ops.toList,∀c,o.op≠ .defer c)(hR: ∀a w,R a w->Q .normal a w): ∀(fuel:Nat) (listed:Array Bool) (a:Act) (w:World),
    wpAny P .any ops (F0l R) fuel listed a w->wpAnyIn Fc 0 P .any ops Q fuel listed a w:=by
  intro fuel
  induction fuel with
  |zero=>intro listed a w h;exact⟨h.1,hR _ _ h.2⟩
  |succ fuel ih=>
    intro listed a w h;refine⟨λh0=>hR _ _ (h.1 h0),λi hi=> ?_⟩;have h2:=h.2 i hi;unfold wpOp at h2;unfold wpOpIn
    cases ho:ops[i]? with
    |none=>rw[ho]at h2;exact ih _ _ _ h2
    |some o=>
      rw[ho]at h2;simp only at h2⊢;have hn:=hnd o (aD.2 (Array.mem_of_getElem? ho));split;rename_i hw;rw[yB hw]at h2;rcases h2 with h2|⟨_,a1,w1,h2⟩;exact p0y hW hn (λa w hx=>ih _ _ _ hx) h2;exact h2.elim;rename_i hw;rw[oB hw]at h2;exact⟨λf _=>hW.fn f,ih _ _ _ h2⟩
theorem D0w(hW:Wd Fc)(hm:P.follows .mixedOrders=yA)(hB:qG .any ops=yA)(hb: ∀o∈ops.toList,Oper.inB F.n ops o=yA)(hnd: ∀o∈ops.toList,∀c,o.op≠ .defer c) {id:Nat} {L:LE} {H:a0e}
    (hst:Sees F L H a w) (h:y0P P ops H.length [] ops.toList (fun ρ H=> ∀a w,St F ρ H a w->Q .normal a w) (a0w L) (H++wD (d0J ops) .res)):(Code.region id ops yA).wpIn Fc 0 P Q a w:=by
  simp only[qG,aa]at hB;obtain⟨hd,K,D,hinv⟩:=hst;refine wpIn_region_any hm (I0s hW (R:=λa w=>Q .normal a w) hnd (λa w hx=>hx) _ _ _ _ ?_);obtain⟨es,_,hany,_⟩:=t0c (base:=H.length) ops.toList [] (vD ops.size oA) (a0w L) _ (by simp) (λj x hj=>by simp at hj) (λk hk=>absurd hk (cU _)) (by simpa using hB.2) h;have hinv':=hinv.reserve (d0J ops)
  have hdrew:Inv F w.drew K D (H++wD (d0J ops) .res) (a0w L) a.tmps:=⟨hinv'.slots.mono λ_ _=>World.drew_rep,hinv'.hinv.drew,hinv'.grow.trans (Grow.drew _ _ _ _)⟩
  exact q0B (Q:=F0l λa w=>Q .normal a w) (KS:=fun ρ H=> ∀a w,St F ρ H a w->Q .normal a w) (fun ρ H a w hst hq=>hq a w hst) hb ops.size _ (a0w L) _ a _ ⟨hd,K,D,hdrew⟩ (by simpa using hany)
theorem I0d(hcl:cl.Ok P) : ∀(l:List Oper) (p:Nat) (tr:List XT) (t:TE) (H:a0e) (k:TE->a0e->Option α) (r:α),evD P cl ops base l p tr t H k=qA r->tr.length=p->
    ∀L,a0w L=t.get->(∀t2 H2 L2,a0w L2=t2.get->k t2 H2=qA r->PJ F Q .normal L2 H2)->y0P P ops base tr l (fun ρ H=> ∀a w,St F ρ H a w->Q .normal a w) (a0w L) H:=by
  intro l
  induction l with
  |nil=>
    intro p tr t H k r h hl L hL hk a w hst;exact hk t H L hL h a w hst
  |cons o l ih=>
    intro p tr t H k r h hl L hL hk
    have h:(match b0n ops t.get o with
      |some yA=>match E0P P cl ops base p tr o t.get H with
        |some ef=>evD P cl ops base l (p+1) (tr++ [((f0M o ef,e0L ops base p o ef),o,ef,g0S t.get o)]) (t.put o.dst ef.v) (a0Q H ef.wr) k
        |none=>none
      |some oA=>bif h0D P o (f0M o ⟨.tup [],[],[]⟩) (e0L ops base p o ⟨.tup [],[],[]⟩) ⟨.tup [],[],[]⟩ tr 0 then evD P cl ops base l (p+1) (tr++ [((f0M o ⟨.tup [],[],[]⟩,e0L ops base p o ⟨.tup [],[],[]⟩),o,⟨.tup [],[],[]⟩,g0S t.get o)]) (t.put o.dst (.tup [])) H k else none
      |none=>none)=qA r:=h
    rw[<-hL]at h;split at h;rename_i hg;split at h;rename_i ef hst;have hi:=ih _ _ _ _ _ _ h (by simp[hl]) _ (TE.put_env hL o.dst ef.v) hk;unfold E0P at hst
    cases hc:b0M o with
    |true=>
      rw[hc]at hst;simp only[qC]at hst;split at hst;rename_i f args hca;split at hst;rename_i ef' he
      cases hb:h0D P o (f0M o ef') (e0L ops base p o ef') ef' tr 0&&J0V ef' H with
      |false=>rw[hb]at hst;cases hst
      |true=>
        rw[hb]at hst;cases hst;simp only[aa]at hb;subst hl;refine⟨ef, ?_,hb.1, ?_⟩;unfold opD;rw[hg];simp only;rw[hc,yB rfl];exact B0v hcl hca he;rw[<-b0o]at hi;exact hi
      cases hst;cases hst
    |false=>
      rw[hc]at hst;simp only[vC]at hst;split at hst;rename_i ef' he
      cases hok:h0D P o (f0M o ef') (e0L ops base p o ef') ef' tr 0&&((!c0H o||n0i (H[d0S ops base p]?))&&ef'.wr.all (λx=>jE x.1 H.length))with
      |false=>rw[hok]at hst;cases hst
      |true=>
        rw[hok]at hst;cases hst;simp only[aa,bF,qD]at hok;obtain⟨k1,k2,k3⟩:=hok;have k3': ∀x∈ef.wr,x.1<H.length:=λx hx=>bL (aj (by simpa [jE]using k3 x hx))
        subst hl;refine⟨ef, ?_,k1, ?_⟩;unfold opD;rw[hg];simp only;rw[hc,oB (by simp)];refine⟨.inl he,λhcr=> ?_,k3'⟩;rcases k2 with k2|k2;rw[hcr]at k2;cases k2;unfold n0i at k2;split at k2
        assumption
        cases k2;rw[<-b0o]at hi;exact hi
      cases hst
    cases h;rename_i hg
    cases hb:h0D P o (f0M o ⟨.tup [],[],[]⟩) (e0L ops base p o ⟨.tup [],[],[]⟩) ⟨.tup [],[],[]⟩ tr 0 with
    |false=>rw[hb]at h;cases h
    |true=>
      rw[hb]at h;subst hl;refine⟨⟨.tup [],[],[]⟩, ?_,hb, ?_⟩;unfold opD;rw[hg];have hi:=ih _ _ _ _ _ _ h (by simp) _ (TE.put_env hL o.dst _) hk;rw[<-b0o]at hi;exact hi
    cases h
/-! What a call hands back, settled. -/
theorem SC.frz1 {H:a0e} (h:SC P f args H v H')(i:Nat) {e:TypeId} (hi:H'[i]?=qA (.vec n k e cs)):SC P f args H (SV.fz i (.lst n k cs) v) (fzH i (.lst n k cs) H'):=by
  refine⟨h.1,λw K D vals hl hr hinv hG=>(h.2 w K D vals hl hr hinv hG).mono ?_⟩;rintro ee w' ⟨r,rfl,K',D',g,hi',hrr⟩;refine⟨r,rfl, ?_⟩
  have hs:Sees ⟨1,w',K',D',H',[]⟩ [(0,v)] H' { tmps:= #[r],defers:=[] } w':=⟨rfl,K',D',⟨⟨rfl,λj hj=>by
    obtain rfl:j=0:=Nat.lt_one_iff.1 hj
    exact hrr,λgg cs hg=>g.rep (hG gg cs hg)⟩,hi',Grow.refl _ _ _ _⟩⟩
  obtain⟨_,K2,D2,hI⟩:=Wk.freeze (F:=⟨1,w',K',D',H',[]⟩) (L:=[(0,v)]) i hi _ _ hs;refine⟨K2,D2,g.trans hI.grow,hI.hinv, ?_⟩;have:=hI.slots.rep 0 (by show 0<1;omega)
  have he:a0w (fzE i (.lst n k cs) [(0,v)]) 0=SV.fz i (.lst n k cs) v:=by
    show lk (fzE i (.lst n k cs) [(0,v)]) 0=_;rw[u0c];rfl
  rw[he]at this;exact this
theorem SC.drop {H:a0e} (h:SC P f args H v H')(m:Nat)(hm:H.length<=m)(hm2:m<=H'.length)(hv:SV.refs m v=yA)(hr:(H'.take m).all (Ent.refs m)=yA):SC P f args H v (H'.take m):=by
  refine⟨h.1,λw K D vals hl hrep hinv hG=>(h.2 w K D vals hl hrep hinv hG).mono ?_⟩;rintro ee w' ⟨r,rfl,K',D',g,hi',hrr⟩;refine⟨r,rfl, ?_⟩;have hlen:(H'.take m).length=m:=by rw[aQ];omega
  have hid: ∀s,SV.rn (λj=>j) s=s:=x0G;refine j0y (f:=λj=>j) g hi' hrr ⟨⟨λj en hj=> ?_,λi j _ _ e=>e,λj en hj=> ?_⟩,λj _=>rfl,by rw[hlen];exact hm,(x0G v).symm,by rw[hlen];exact hv⟩ hinv.dom;have hjm:j<m:=by have:=(ae.1 hj).1;omega
  rw[ba,yB hjm]at hj;rw[hj,E0o];rw[hlen];exact List.all_eq_true.1 hr en (aM hj)
theorem v0F {f:FuncId} {args:List SV} {H:a0e} : ∀(is:List Nat) (v:SV) (H':a0e),SC P f args H v H'->SC P f args H (F0P is v H').1 (F0P is v H').2
  | [],v,H',h=>h
  |i::is,v,H',h=>by
    simp only[F0P];split;rename_i he;exact v0F is _ _ (h.frz1 i he);exact v0F is v H' h
theorem F0Q(hcl:cl.Ok P):(I0M cl).Ok P:=by
  intro f args H v H' h;unfold I0M at h;split at h;rename_i v1 H1 hc;have hs:=hcl _ _ _ _ _ hc
  cases hb:oC H1.length (H.length+1)with
  |true=>rw[hb]at h;cases h;exact hs
  |false=>
    rw[hb]at h;simp only[vC]at h;have hf:=v0F (vG H.length (H1.length-H.length)) v1 H1 hs;generalize F0P (vG H.length (H1.length-H.length)) v1 H1=z at h hf;obtain⟨v2,H2⟩:=z;simp only at h hf
    cases hq:SV.refs H.length v2&&(H2.take H.length).all (Ent.refs H.length)&&oC H.length H2.length with
    |false=>rw[hq]at h;cases h
    |true=>
      rw[hq]at h;simp only[aa]at hq;cases h;exact hf.drop H.length (am _) (aj hq.2) hq.1.1 hq.1.2
  cases h
end
/-! Frames that follow one another. -/
structure Fol (F F':Fr):Prop where
  n:F'.n=F.n
  grow:Grow F.w0 F.K0 F.D0 F.H0 F'.w0 F'.K0 F'.D0 F'.H0
theorem Fol.refl(F:Fr):Fol F F:=⟨rfl,Grow.refl _ _ _ _⟩
theorem Fol.trans {F' F'':Fr} (h:Fol F F')(h':Fol F' F''):Fol F F'':=⟨h'.n.trans h.n,h.grow.trans h'.grow⟩
def MOk(b0:Nat×List Deferred)(D:DM):List Deferred->List Nat->Prop
  |ds,[]=>ds=b0.2
  |d::ds,i::ms=>(∃b,d= { target:= .collected b,args:= #[] } /\D i=qA (.at b 0 0)/\b0.1<=b)/\MOk b0 D ds ms
  | [],_::_=>False
theorem s0T (h:MOk b0 D ds []):ds=b0.2:=by cases ds<;>exact h
theorem MOk.of_nil (h:ds=b0.2):MOk b0 D ds []:=by cases ds<;>exact h
theorem MOk.mono (h: ∀i x,D i=qA x->D' i=qA x): ∀ {ds:List Deferred} {ms:List Nat},MOk b0 D ds ms->MOk b0 D' ds ms
  | [],[],hm=>hm
  |_::_,[],hm=>hm
  |d::ds,i::ms,⟨⟨b,h1,h2,h3⟩,hr⟩=>⟨⟨b,h1,h _ _ h2,h3⟩,MOk.mono h hr⟩
  | [],_::_,hm=>hm
def FcOk(rd:Option Nat)(Fc:Fence)(D:DM):Prop:=match rd with
  |none=>Fc=Fence.wide
  |some i=> ∃l,Fc=Fence.wide.inRound l/\D i=qA (.at l 0 0)
theorem FcOk.wd (h:FcOk rd Fc D):Wd Fc:=by
  cases rd with
  |none=>cases h;exact y0H
  |some i=>obtain⟨l,rfl,_⟩:=h;exact w0m l
theorem FcOk.wd2 (h:FcOk rd Fc D): ∀l,Fc.inRound l=Fence.wide.inRound l:=by
  cases rd with
  |none=>cases h;exact λ_=>rfl
  |some i=>obtain⟨l,rfl,_⟩:=h;exact λ_=>rfl
theorem FcOk.mono (h:FcOk rd Fc D)(hD: ∀i x,D i=qA x->D' i=qA x):FcOk rd Fc D':=by
  cases rd with
  |none=>exact h
  |some i=>obtain⟨l,rfl,h2⟩:=h;exact⟨l,rfl,hD _ _ h2⟩
theorem I0x {w w':World} {K:Nat->Nat} {D:DM} {H:a0e} (h:HInv w K D H) {i b c n:Nat} {en en':Ent} (hi:H[i]?=qA en)(hl:e0y en=yA)(hd:D i=qA (.at b c n))(h1:w'.os=w.os)(h2:w'.tape=w.tape)(h3:w'.output=w.output)(h4:w'.heap.size=w.heap.size)
    (h5: ∀b',b'≠b->w'.heap[b']?=w.heap[b']?) (hen:(∀v s,Rep w K D v s->Rep w' K D v s)->EntOk w' K D i en') (hres:en'≠ .res):
    Grow w K D H w' K D (H.set i en')/\HInv w' K D (H.set i en'):=by
  have hm:Mem D H b:=⟨i,en,c,n,hi,hl,hd⟩
  have hK:K b=0:=(j0a h hm).2;have hil:i<H.length:=(ae.1 hi).1;have hcells: ∀b' j,j<K b'->w'.cell? ⟨b',j,none⟩=w.cell? ⟨b',j,none⟩:=λb' j hj=>B0u (h5 b' (λe=>by subst e;omega))
  have hrep: ∀v s,Rep w K D v s->Rep w' K D v s:=λv s hr=>Rep.mono hcells (λ_=>am _) (λ_ _ e=>e) hr
  have hget: ∀j,(H.set i en')[j]?=if j=i then qA en' else H[j]?:=λj=>by
    rw[aW];by_cases hj:i=j;subst hj;simp[hil];rw[oB hj,oB (λe=>hj e.symm)]
  have hold: ∀j enj,(H.set i en')[j]?=qA enj->e0y enj=yA-> ∃enj0,H[j]?=qA enj0/\e0y enj0=true:=λj enj hj hlj=>by
    rw[hget]at hj;by_cases e:j=i;subst e;exact⟨en,hi,hl⟩;rw[oB e]at hj;exact⟨enj,hj,hlj⟩
  refine⟨⟨h1,h2,h3,by omega,λb' _ hm'=>h5 b' (λe=>hm' (e▸hm)),hcells,λ_=>am _,λ_ _ _=>rfl,λ_ _ e=>e,λb' hm'=> ?_⟩,⟨λj hj=>h.dom j (by simpa using hj),λj enj hj=> ?_,λj j' enj enj' bb cc nn cc' nn' hj hj' hlj hlj' hdj hdj'=> ?_,λb' hb'=>by rw[h4];exact h.kw b' hb'⟩⟩;obtain⟨j,enj,cj,nj,e1,e2,e3⟩:=hm';obtain⟨enj0,q1,q2⟩:=hold j enj e1 e2;exact .inl ⟨j,enj0,cj,nj,q1,q2,e3⟩;rw[hget]at hj;by_cases e:j=i;subst e;rw[yB rfl]at hj;cases hj;exact hen hrep;rw[oB e]at hj;refine(h.ent j enj hj).keep hrep rfl (λbj cj nj hlj hdj=>⟨h5 bj (λe2=> ?_),rfl⟩);subst e2;exact e (h.inj j i enj en bj cj nj c n hj hi hlj hl hdj hd);obtain⟨enj0,q1,q2⟩:=hold j enj hj hlj;obtain⟨enj1,q3,q4⟩:=hold j' enj' hj' hlj';exact h.inj j j' enj0 enj1 bb cc nn cc' nn' q1 q3 q2 q4 hdj hdj'
def D0N(F':Fr)(Q:e0G)(L:LE)(H:a0e):Option Code->Prop
  |none=>PJ F' Q .normal L H
  |some .ret=>PJ F' Q .ret L H
  |some (.exit k)=>PJ F' Q (.exit k) L H
  |_=>False
section
variable {Fc : Fence} {F : Fr} {P : Program} {Q : e0G}
theorem r0d {gf:FuncId} {args caps:Array Value} {W:World} (hc:b0J P gf=yA):(invoke (.fn (.func gf) caps) args).run P W= .ok (.enter gf (args++caps)) W:=by
  unfold b0J at hc
  cases hfn:P.funcs[gf]? with
  |none=>rw[hfn]at hc;cases hc
  |some fn=>
    rw[hfn]at hc;simp only[aa,cJ]at hc;have hbs:fn.body.isNone=false:=by cases hbd:fn.body<;>simp[hbd]at hc⊢
    simp only[invoke,callFunc,zD,run_program,yC,hfn,hc.2,aI,if_false,hbs,qE]
theorem r0h(hW:Wd Fc) {W1:World} {K:Nat->Nat} {D1:DM} {l:Nat} {L:LE} {ps:List Nat}
    (hinv1:HInv W1 K D1 H1) (hDi:D1 i=qA (.at l 0 0)) (hgrow0:Grow F.w0 F.K0 F.D0 F.H0 W1 K D1 H1) (hsl:Slots F.n W1 K D1 (a0w L) a.tmps) (hsc:SC P gf args H1 v H2) (hvl:vals.length=args.length)
    (hvr: ∀(j:Nat) (x:Value) (c:SV),vals[j]?=qA x->args[j]?=qA c->Rep W1 K D1 x c) (hl:H2[i]?=qA (.lop tm ps as bd st pd)) (hst:r0n st=oA)
    (cont: ∀F':Fr,Fol F F'->F'.ds=ds->(∀j x,D1 j=qA x->F'.D0 j=qA x)->D0N F' Q L (H2.set i .gone) pd):
    CallsIn Fc 0 P gf vals.toArray W1 (rangePost Fc 0 P l Q { a with defers:=ds }):=by
  refine hW.calls ((hsc.2 W1 K D1 vals hvl hvr hinv1 hsl.glob).mono ?_);rintro e w3 ⟨r,rfl,K',D',g,hi',_⟩;obtain⟨l',r',e1,e2,e3,e4,e5,e6,e7,e8,e9,e10⟩:=hi'.ent _ _ hl;have:=g.dd _ _ hDi;rw[this]at e1;cases e1;have hb:r'.state≠ .busy:=λh=>by rw[h]at e7;subst e7;cases hst
  have ht:=I0x (w':=w3.putObj l (.loop { r' with state:= .exhausted })) (en':= .gone) hi' hl rfl this rfl rfl rfl (by simp) (λb' hb'=>yH hb') (λ_=>trivial) (by simp);refine⟨pd,_,by rw[<-e8];exact run_endLoop e3 hb, ?_⟩
  have hsee: ∀a',a'.defers=ds->a'.tmps=a.tmps->Sees ⟨F.n,w3.putObj l (.loop { r' with state:= .exhausted }),K',D',H2.set i .gone,ds⟩ L (H2.set i .gone) a' (w3.putObj l (.loop { r' with state:= .exhausted })):=λa' h1 h2=>
    ⟨h1,K',D',⟨by rw[h2];exact(hsl.mono λ_ _=>g.rep).mono λ_ _=>ht.1.rep,ht.2,Grow.refl _ _ _ _⟩⟩
  have hc:=cont ⟨F.n,w3.putObj l (.loop { r' with state:= .exhausted }),K',D',H2.set i .gone,ds⟩ ⟨rfl,(hgrow0.trans g).trans ht.1⟩ rfl (λj x hj=>g.dd _ _ hj);have hs:=hsee { a with defers:=ds } rfl rfl
  cases pd with
  |none=>exact hc _ _ hs
  |some c=>
    cases c with
    |ret=>exact wpIn_ret (hc _ _ hs)
    |exit k=>exact wpIn_exit (hc _ _ hs)
    |_=>exact hc.elim
theorem g0h(D:DM)(i:Nat)(x:Loc):e0H D i x i=qA x:=yB rfl
theorem x0q(D:DM) {j:Nat} (x:Loc)(h:j≠i):e0H D i x j=D j:=oB h
theorem r0R(H:a0e)(en:Ent):g0i H H.length en=H++ [en]:=by unfold g0i;rw[oB (Nat.lt_irrefl _)]
theorem o0g(w:World)(o:Obj): ∀b',b'≠w.heap.size->b'<w.heap.size->(w.alloc o).heap[b']?=w.heap[b']?:=λb' _ h=>Below.heap_alloc w o b' h
theorem A0b {K:Nat->Nat} {L:LE} {tmps:Array Value} {N l:Nat} {t:TE} {r:Loop} (hs:Slots N w K D (a0w L) tmps)(hL:a0w L=t.get)(hD:D' i=qA (.at l 0 0))(hK:K l=0)
 (hl:w'.heap[l]?=qA (.loop r)) (hr: ∀v s,Rep w K D v s->Rep w' K D' v s) (h1:r.tmps=tmps) (h2:r.params=ps) (h3:r.assign=as) (h4:r.body=bd) (h5:r.state= .ready) (h6:r.pending=none):
    EntOk w' K D' i (.lop ((wC N).map t.get) ps.toList as bd .ready none):=by
  refine⟨l,r,hD,hK,hl,by rw[h2],h3,h4,h5,h6,by rw[h1,hs.size];simp,λj v c hv hc=> ?_⟩;rw[h1]at hv;have hj:j<N:=by rw[<-hs.size];exact(ai.1 hv).1
  rw[ar,bw hj]at hc;cases hc;have:=hs.rep j hj;rw[bg,hv]at this;rw[<-hL];exact hr _ _ this
theorem w0x {K:Nat->Nat} {y:Value} {vs:List Value} (hy:Rep w K D y s)(h: ∀(j:Nat) (v:Value) (c:SV),vs[j]?=qA v->cs[j]?=qA c->Rep w K D v c):
    ∀(j:Nat) (v:Value) (c:SV),(y::vs)[j]?=qA v->(s::cs)[j]?=qA c->Rep w K D v c
  |0,v,c,hv,hc=>by simp at hv hc;subst hv;subst hc;exact hy
  |j+1,v,c,hv,hc=>h j v c (by simpa using hv) (by simpa using hc)
theorem z0v {K:Nat->Nat} {v:Value} {g:Fn} (h:Rep w K D v (.fn g [] caps)): ∃vs:List Value,v= .func g #[] vs.toArray/\caps.length=vs.length/\ ∀(j:Nat) (u:Value) (c:SV),vs[j]?=qA u->caps[j]?=qA c->Rep w K D u c:=by
  cases h with
  |fn _ fs vs _ _ h1 h2 h3 h4=>
    obtain rfl:fs=[]:=aq h1.symm;exact⟨vs,rfl,h2,h4⟩
theorem z0B {g:Operand} {L:LE} {t:TE} {H:a0e} {ps':List Nat} {as' bd':Code} (hin:Operand.inB F.n g=yA)(hL:a0w L=t.get)(hg:a0L (a0w L) g=qA (.fn (.func gf) [] caps))
    (hsc:SC P gf (.yld (H.length+1)::caps) (H++ [.dfr]++ [.lop ((wC F.n).map t.get) ps.toList as bd .ready none]) v H2) (hl:H2[H.length+1]?=qA (.lop tm ps' as' bd' st pd)) (hst:r0n st=oA)
    (cont: ∀(F':Fr) (b:Nat),Fol F F'->F'.ds= { target:= .collected b,args:= #[] } ::F.ds->F'.D0 H.length=qA (.at b 0 0)->F.w0.heap.size<=b->D0N F' Q L (H2.set (H.length+1) .gone) pd):
    ∀a w,Sees F L H a w->(Code.rangeFunc g ps as bd).wpIn Fence.wide 0 P Q a w:=by
  intro a w hs;obtain⟨hd,K,D,hi⟩:=hs;obtain⟨vs,hv,hvl,hvr⟩:=z0v (a0h hi.slots hin hg);refine wpIn_rangeFunc (λfn' _=> ?_)
  obtain⟨r,hr⟩: ∃r:Loop,r= { state:= .ready,pending:=none,fn:=fn',tmps:=a.tmps,params:=ps,assign:=as,body:=bd,defers:=w.heap.size } :=⟨_,rfl⟩
  have hK0: ∀b,w.heap.size<=b->K b=0:=λb hb=>by
    rcases br (K b)with h0|h0;exact h0;have:=hi.hinv.kw b (by omega);omega
  have p1:=place (w':=w.alloc (.deferred (qA []))) (en:= .dfr) (idx:=H.length) (b:=w.heap.size) (c:=0) (m:=0) (x:=none) hi.hinv (.inl rfl) (by simp) (.inl (am _)) rfl rfl rfl (by simp) (o0g _ _)
    (λhr=>⟨w.heap.size,g0h _ _ _,hK0 _ (am _),World.alloc_heap_new _ _⟩)
  rw[show g0C H none=H from rfl,r0R]at p1;obtain⟨g1,i1⟩:=p1;have hlen:(H++ [Ent.dfr]).length=H.length+1:=by simp
  have hs1:=hi.slots.mono λ_ _=>g1.rep
  have p2:=place (w':=(w.alloc (.deferred (qA []))).alloc (.loop r)) (en:= .lop ((wC F.n).map t.get) ps.toList as bd .ready none) (idx:=(H++ [Ent.dfr]).length) (b:=w.heap.size+1) (c:=0) (m:=0) (x:=none) i1 (.inl rfl) (by simp)
    (.inl (by simp)) rfl rfl rfl (by simp) (λb' h1 h2=>o0g _ _ b' (by simp;omega) h2)
    (λhrep=>A0b (r:=r) (ps:=ps) hs1 hL (g0h _ _ _) (hK0 _ (by omega)) (by have:=World.alloc_heap_new (w.alloc (.deferred (qA []))) (.loop r);rwa [World.size_alloc]at this) hrep (by rw[hr]) (by rw[hr]) (by rw[hr]) (by rw[hr]) (by rw[hr]) (by rw[hr]))
  rw[show g0C (H++ [Ent.dfr]) none=H++ [Ent.dfr]from rfl,r0R]at p2;obtain⟨g2,i2⟩:=p2;have hs2:=hs1.mono λ_ _=>g2.rep
  refine⟨w.heap.size+1,[{ target:= .collected w.heap.size,args:= #[] }],(w.alloc (.deferred (qA []))).alloc (.loop r), { target:= .fn (.func gf) vs.toArray,args:= #[.func (.yield (w.heap.size+1)) #[] #[]] },(w.alloc (.deferred (qA []))).alloc (.loop r),gf, #[.func (.yield (w.heap.size+1)) #[] #[]]++vs.toArray,(w.alloc (.deferred (qA []))).alloc (.loop r), ?_, ?_,λ_ _=>trivial,r0d hsc.1,λh=>(by cases h), ?_⟩;rw[hr];exact run_enterLoop_outer _ _ _ _ _;simp only[resolve,hv];simp[go_sem];have e:(#[Value.func (.yield (w.heap.size+1)) #[] #[]]++vs.toArray)=(Value.func (.yield (w.heap.size+1)) #[] #[]::vs).toArray:=by simp
  rw[e];refine r0h (i:=H.length+1) (args:= .yld (H.length+1)::caps) y0H i2 (by rw[hlen];exact g0h _ _ _) ((hi.grow.trans g1).trans g2) hs2 hsc (by simp[hvl]) (w0x (.yld _ _ 0 0 (by rw[hlen];exact g0h _ _ _)) (λj u c hu hc=>g2.rep (g1.rep (hvr j u c hu hc)))) hl hst (λF' hf hds hD=> ?_);refine cont F' w.heap.size hf (by rw[hds,hd];rfl) (hD _ _ ?_) hi.grow.size;rw[hlen,x0q _ _ (by omega)];exact g0h _ _ _
theorem C0D {l0 i0:Nat} {g:Operand} {L:LE} {t:TE} {H:a0e} {ps':List Nat} {as' bd':Code} (hin:Operand.inB F.n g=yA)(hL:a0w L=t.get)(hg:a0L (a0w L) g=qA (.fn (.func gf) [] caps))
    (hD0:F.D0 i0=qA (.at l0 0 0)) {tm0:List SV} {ps0:List Nat} {as0 bd0:Code} {st0:LoopState} {pd0:Option Code} (h0:H[i0]?=qA (.lop tm0 ps0 as0 bd0 st0 pd0))
    (hsc:SC P gf (.yld H.length::caps) (H++ [.lop ((wC F.n).map t.get) ps.toList as bd .ready none]) v H2) (hl:H2[H.length]?=qA (.lop tm ps' as' bd' st pd)) (hst:r0n st=oA)
    (cont: ∀F':Fr,Fol F F'->F'.ds=F.ds->D0N F' Q L (H2.set H.length .gone) pd):
    ∀a w,Sees F L H a w->(Code.rangeFunc g ps as bd).wpIn (Fence.wide.inRound l0) 0 P Q a w:=by
  intro a w hs;obtain⟨hd,K,D,hi⟩:=hs;obtain⟨vs,hv,hvl,hvr⟩:=z0v (a0h hi.slots hin hg);refine wpIn_rangeFunc (λfn' _=> ?_);obtain⟨l',r0,e1,e2,e3,_⟩:=hi.hinv.ent _ _ h0;have:=hi.grow.dd _ _ hD0;rw[this]at e1;cases e1
  obtain⟨r,hr⟩: ∃r:Loop,r= { state:= .ready,pending:=none,fn:=fn',tmps:=a.tmps,params:=ps,assign:=as,body:=bd,defers:=r0.defers } :=⟨_,rfl⟩
  have hK0:K w.heap.size=0:=by
    rcases br (K w.heap.size)with h0|h0;exact h0;have:=hi.hinv.kw w.heap.size (by omega);omega
  have p2:=place (w':=w.alloc (.loop r)) (en:= .lop ((wC F.n).map t.get) ps.toList as bd .ready none) (idx:=H.length) (b:=w.heap.size) (c:=0) (m:=0) (x:=none) hi.hinv (.inl rfl) (by simp)
    (.inl (am _)) rfl rfl rfl (by simp) (o0g _ _)
    (λhrep=>A0b (r:=r) (ps:=ps) hi.slots hL (g0h _ _ _) hK0 (World.alloc_heap_new _ _) hrep (by rw[hr]) (by rw[hr]) (by rw[hr]) (by rw[hr]) (by rw[hr]) (by rw[hr]))
  rw[show g0C H none=H from rfl,r0R]at p2;obtain⟨g2,i2⟩:=p2;have hs2:=hi.slots.mono λ_ _=>g2.rep
  refine⟨w.heap.size,[],w.alloc (.loop r), { target:= .fn (.func gf) vs.toArray,args:= #[.func (.yield w.heap.size) #[] #[]] },w.alloc (.loop r),gf, #[.func (.yield w.heap.size) #[] #[]]++vs.toArray,w.alloc (.loop r), ?_, ?_,λ_ _=>trivial,r0d hsc.1,λh=>(by cases h), ?_⟩;rw[hr];exact run_enterLoop_inner e3 _ _ _ _ _;simp only[resolve,hv];simp[go_sem];have e:(#[Value.func (.yield w.heap.size) #[] #[]]++vs.toArray)=(Value.func (.yield w.heap.size) #[] #[]::vs).toArray:=by simp
  rw[e];refine r0h (i:=H.length) (args:= .yld H.length::caps) (w0m l0) i2 (g0h _ _ _) (hi.grow.trans g2) hs2 hsc (by simp[hvl]) (w0x (.yld _ _ 0 0 (g0h _ _ _)) (λj u c hu hc=>g2.rep (hvr j u c hu hc))) hl hst (λF' hf hds hD=> ?_);exact cont F' hf (by rw[hds,<-hd];rfl)
end
/-! Code. -/
section
variable {α : Type} {P : Program} {cl : CallT} {yl : u0J} {eqA : Option α -> Option α -> Option α} {B N : Nat} {rd : Option Nat} {b0 : Nat × List Deferred} {Sb : α -> Prop}
def KOk(b0:Nat×List Deferred)(F:Fr)(Sb:α->Prop)(Q:e0G)(e:Exit)(k:KT α):Prop:= ∀(F':Fr) (t':TE) (H':a0e) (ms':List Nat) (L':LE) (r:α),Fol F F'->MOk b0 F'.D0 F'.ds ms'->a0w L'=t'.get->k t' H' ms'=qA r->Sb r->PJ F' Q e L' H'
theorem KOk.fol {k:KT α} (h:KOk b0 F Sb Q e k)(hf:Fol F F1):KOk b0 F1 Sb Q e k:=λF' t' H' ms' L' r h1=>h F' t' H' ms' L' r (hf.trans h1)
theorem E0n {r:α} {t:TE} {ms:List Nat} {kn kr:KT α} {kx:Nat->KT α} {L:LE} (h:evJ i t H2 ms kn kr kx=qA r)(hr0:Sb r)(hL:a0w L=t.get)(hn:KOk b0 F Sb Q .normal kn)(hr:KOk b0 F Sb Q .ret kr)(hx: ∀k,KOk b0 F Sb Q (.exit k) (kx k)):
    ∃tm ps as bd st pd,H2[i]?=qA (.lop tm ps as bd st pd)/\r0n st=oA/\ ∀F':Fr,Fol F F'->MOk b0 F'.D0 F'.ds ms->D0N F' Q L (H2.set i .gone) pd:=by
  unfold evJ at h;split at h;rename_i tm ps as bd st pd hl
  cases hb:r0n st with
  |true=>rw[hb]at h;cases h
  |false=>
    rw[hb]at h;simp only[vC]at h;refine⟨tm,ps,as,bd,st,pd,hl,hb,λF' hf hm=> ?_⟩;split at h;exact hn F' _ _ _ L _ hf hm hL h hr0;exact hr F' _ _ _ L _ hf hm hL h hr0;exact hx _ F' _ _ _ L _ hf hm hL h hr0;cases h
  cases h
theorem r0s(hcl:cl.Ok P)(hyl:YOk P yl)(hE:I0v Sb eqA): ∀(c:Code) (t:TE) (H:a0e) (ms:List Nat) (kn kr:KT α) (kx:Nat->KT α) (r:α),ewC eqA P cl cl yl B N rd c t H ms kn kr kx=qA r->Sb r-> ∀(Fc:Fence) (F:Fr) (L:LE) (Q:e0G),FcOk rd Fc F.D0->F.n=N->MOk b0 F.D0 F.ds ms->b0.1<=F.w0.heap.size->
    b0G N c=yA->e0C c=yA->a0w L=t.get->KOk b0 F Sb Q .normal kn->KOk b0 F Sb Q .ret kr->(∀k,KOk b0 F Sb Q (.exit k) (kx k))-> ∀a w,Sees F L H a w->c.wpIn Fc 0 P Q a w:=by
  intro c
  induction c with
  |skip=>intro t H ms kn kr kx r h hr0 Fc F L Q hF hN hm hb hin hnd hL hn hr hx a w hs;exact wpIn_skip (hn F t H ms L r (Fol.refl F) hm hL h hr0 a w hs)
  |ret=>intro t H ms kn kr kx r h hr0 Fc F L Q hF hN hm hb hin hnd hL hn hr hx a w hs;exact wpIn_ret (hr F t H ms L r (Fol.refl F) hm hL h hr0 a w hs)
  |exit k=>intro t H ms kn kr kx r h hr0 Fc F L Q hF hN hm hb hin hnd hL hn hr hx a w hs;exact wpIn_exit (hx k F t H ms L r (Fol.refl F) hm hL h hr0 a w hs)
  |region id ops dr=>
    intro t H ms kn kr kx r h hr0 Fc F L Q hF hN hm hb hin hnd hL hn hr hx a w hs;have h:(bif dr then(bif P.follows .mixedOrders&&qG .any ops then evD P (I0M cl) ops H.length ops.toList 0 [] t (H++wD (d0J ops) .res) (λt H=>kn t H ms)else none)else evN eqA P cl yl ops ops.toList t H (λt H=>kn t H ms))=qA r:=h;have hW:=hF.wd;simp only[b0G,qD]at hin;simp only[e0C,qD]at hnd
    cases dr with
    |true=>
      simp only[qC]at h
      cases hq:P.follows .mixedOrders&&qG .any ops with
      |false=>rw[hq]at h;cases h
      |true=>
        rw[hq]at h;simp only[aa]at hq;simp only[qC]at h;exact D0w hW hq.1 hq.2 (by rw[hN];exact hin) (λo ho=>w0G (hnd o ho)) hs (I0d (F0Q hcl) _ _ _ _ _ _ _ h rfl L hL (λt2 H2 L2 hL2 hk=>hn F t2 H2 ms L2 r (Fol.refl F) hm hL2 hk hr0))
    |false=>
      simp only[vC]at h;exact wpIn_region_list (I0c hcl hyl hE hW hF.wd2 _ _ _ _ _ h hr0 (λo ho=>⟨by rw[hN];exact hin o ho,hnd o ho⟩) L hL (λt2 H2 L2 r hL2 hk hr0=>hn F t2 H2 ms L2 r (Fol.refl F) hm hL2 hk hr0) a w hs)
  |seq x y ihx ihy=>
    intro t H ms kn kr kx r h hr0 Fc F L Q hF hN hm hb hin hnd hL hn hr hx a w hs;have h:ewC eqA P cl cl yl B N rd x t H ms (λt H ms=>ewC eqA P cl cl yl B N rd y t H ms kn kr kx) kr kx=qA r:=h;simp only[b0G,aa]at hin;simp only[e0C,aa]at hnd;refine wpIn_seq (ihx _ _ _ _ _ _ _ h hr0 Fc F L (Exit.then (y.wpIn Fc 0 P Q) Q) hF hN hm hb hin.1 hnd.1 hL ?_ (λF' t' H' ms' L' r h1 h2 h3 h4=>hr F' t' H' ms' L' r h1 h2 h3 h4) (λk F' t' H' ms' L' r h1 h2 h3 h4=>hx k F' t' H' ms' L' r h1 h2 h3 h4) a w hs);intro F' t' H' ms' L' r h1 h2 h3 h4 hr0 a' w' hs';exact ihy _ _ _ _ _ _ _ h4 hr0 Fc F' L' Q (hF.mono h1.grow.dd) (h1.n.trans hN) h2 (az hb h1.grow.size) hin.2 hnd.2 h3 (hn.fol h1) (hr.fol h1) (λk=>(hx k).fol h1) a' w' hs'
  |cond c x y ihx ihy=>
    intro t H ms kn kr kx r h hr0 Fc F L Q hF hN hm hb hin hnd hL hn hr hx a w hs
    have h:(match a0L t.get c with
      |some (.bool b)=>Bool.rec (motive:=λ_=>Option α) (ewC eqA P cl cl yl B N rd y t H ms kn kr kx) (ewC eqA P cl cl yl B N rd x t H ms kn kr kx) b
      |_=>none)=qA r:=h
    simp only[b0G,aa]at hin;simp only[e0C,aa]at hnd;split at h;rename_i b hv;have hs0:=hs;obtain⟨hd,K,D,hi⟩:=hs;have hr':=a0h hi.slots (by rw[hN];exact hin.1.1) (by rw[hL];exact hv);generalize hva:a.eval c=v at hr';cases hr';refine wpIn_cond hva ?_
    cases b with
    |true=>exact ihx _ _ _ _ _ _ _ h hr0 Fc F L Q hF hN hm hb hin.1.2 hnd.1 hL hn hr hx a w hs0
    |false=>exact ihy _ _ _ _ _ _ _ h hr0 Fc F L Q hF hN hm hb hin.2 hnd.2 hL hn hr hx a w hs0
    cases h
  |block id c ih=>
    intro t H ms kn kr kx r h hr0 Fc F L Q hF hN hm hb hin hnd hL hn hr hx a w hs;have h:ewC eqA P cl cl yl B N rd c t H ms kn kr (λi t H ms=>bif jC i id then kn t H ms else kx i t H ms)=qA r:=h;refine wpIn_block (ih _ _ _ _ _ _ _ h hr0 Fc F L (vF id Q) hF hN hm hb hin hnd hL (λF' t' H' ms' L' r h1 h2 h3 h4=>hn F' t' H' ms' L' r h1 h2 h3 h4) (λF' t' H' ms' L' r h1 h2 h3 h4=>hr F' t' H' ms' L' r h1 h2 h3 h4) ?_ a w hs);intro k F' t' H' ms' L' r h1 h2 h3 h4 hr0
    cases hk:jC k id with
    |true=>
      rw[hk]at h4;have:=af hk;subst this;exact PJ.blockOut (hn F' t' H' ms' L' r h1 h2 h3 h4 hr0)
    |false=>
      rw[hk]at h4;exact PJ.blockPass (by cases hc:jC k id with|true=>rw[hc]at hk;cases hk|false=>rfl) (hx k F' t' H' ms' L' r h1 h2 h3 h4 hr0)
  |loop c ih=>
    intro t H ms kn kr kx r h hr0 Fc F L Q hF hN hm hb hin hnd hL hn hr hx a w hs;have h:(Nat.rec (motive:=λ_=>KT α) (λ_ _ _=>none) (λ_ go t H ms=>ewC eqA P cl cl yl B N rd c t H ms go kr kx) B:KT α) t H ms=qA r:=h;refine wpIn_loop_rounds B ?_
    have key: ∀(m:Nat) (F':Fr) (t:TE) (H:a0e) (ms:List Nat) (L:LE) (r:α),Fol F F'->(Nat.rec (motive:=λ_=>KT α) (λ_ _ _=>none) (λ_ go t H ms=>ewC eqA P cl cl yl B N rd c t H ms go kr kx) m:KT α) t H ms=qA r->Sb r->MOk b0 F'.D0 F'.ds ms->a0w L=t.get->
        ∀a w,Sees F' L H a w->Code.roundsIn Fc 0 P c Q m a w:=by
      intro m
      induction m with
      |zero=>intro F' t H ms L r _ h;cases h
      |succ m ihm=>
        intro F' t H ms L r hf h hr0 hm hL a w hs;rw[roundsIn_succ];refine ih t H ms _ kr kx r h hr0 Fc F' L (Exit.then (Code.roundsIn Fc 0 P c Q m) Q) (hF.mono hf.grow.dd) (hf.n.trans hN) hm (az hb hf.grow.size) hin hnd hL ?_ (λF' t' H' ms' L' r h1 h2 h3 h4=>hr.fol hf F' t' H' ms' L' r h1 h2 h3 h4) (λk F' t' H' ms' L' r h1 h2 h3 h4=>(hx k).fol hf F' t' H' ms' L' r h1 h2 h3 h4) a w hs;intro F'' t' H' ms' L' r h1 h2 h3 h4 hr0 a' w' hs';exact ihm F'' t' H' ms' L' r (hf.trans h1) h4 hr0 h2 h3 a' w' hs'
    exact key B F t H ms L r (Fol.refl F) h hr0 hm hL a w hs
  |rangeFunc g ps as bd _ _=>
    intro t H ms kn kr kx r h hr0 Fc F L Q hF hN hm hb hin hnd hL hn hr hx a w hs;have h:evG cl N rd g ps as bd t H ms kn kr kx=qA r:=h;unfold evG at h
    cases hg:Operand.inB N g with
    |false=>rw[hg]at h;cases h
    |true=>
      rw[hg]at h;simp only[qC]at h;split at h;rename_i gf caps hv;rw[<-hL]at hv;subst hN;split at h;split at h;rename_i v H2 hit;obtain⟨tm,ps',as',bd',st,pd,q1,q2,q3⟩:=E0n h hr0 hL hn hr hx;cases hF;refine z0B hg hL hv (hcl _ _ _ _ _ hit) q1 q2 (λF' b hf hds hD hle=>q3 F' hf ?_) a w hs;rw[hds];exact⟨⟨b,rfl,hD,az hb hle⟩,hm.mono hf.grow.dd⟩;cases h;rename_i i;obtain⟨l0,rfl,hD0⟩:=hF;split at h;rename_i tm0 ps0 as0 bd0 st0 pd0 h0;split at h;rename_i v H2 hit;obtain⟨tm,ps',as',bd',st,pd,q1,q2,q3⟩:=E0n h hr0 hL hn hr hx;refine C0D hg hL hv hD0 h0 (hcl _ _ _ _ _ hit) q1 q2 (λF' hf hds=>q3 F' hf ?_) a w hs;rw[hds];exact hm.mono hf.grow.dd;cases h;cases h;cases h
  |_=>intro t H ms kn kr kx r h;cases h
end
/-! Functions. -/
theorem s0A {H:a0e} (h:v0P H v1 H1=qA (v,H')): ∃f,Back H.length H1 f v1 v H':=by
  unfold v0P at h;generalize m0d H1 100000 ((wC H.length).flatMap (λi=>Ent.rl (H1.getD i .gone))++SV.rl v1) (wC H.length)=σ at h;simp only at h
  cases hs:q0D σ H1&&(SV.rl v1).all (λk=>t0N k σ)&&vA (σ.take H.length=wC H.length)&&oC H.length σ.length with
  |false=>rw[hs]at h;cases h
  |true=>
    rw[hs]at h;simp only[aa,qD]at hs;obtain⟨⟨⟨s1,s2⟩,s3⟩,s4⟩:=hs;cases h;have hm: ∀i∈SV.rl v1,i∈σ:=λi hi=>j0F.1 (s2 i hi)
    have hk:=jB s3;refine⟨a0Y σ,h0m s1,λj hj=> ?_, ?_,(r0V _ (λk hk=>m0J (hm k hk))).symm,by rw[e0I];exact r0X _ (λk hk=>t0y (hm k hk))⟩;have:=congrArg (λl=>l[j]?) hk;simp only[ba,yB hj,bw hj]at this;unfold a0Y;rw[au,this];rfl;rw[e0I];exact aj s4
def LeR(F:Fr)(v:SV)(H':a0e)(x:SV×a0e):Prop:= ∀r w,Good F.w0 F.K0 F.D0 F.H0 r w x.1 x.2->Good F.w0 F.K0 F.D0 F.H0 r w v H'
theorem s0k(ts:List Nat)(t:TE) {L:LE} (hL:a0w L=t.get):(ts.map λi=>(i,t.get i))=f0K ts L:=by
  unfold f0K;refine bn λi _=> ?_
  rw[<-hL];rfl
section
variable {P : Program} {fn : Func} {F : Fr} {v : SV} {H' : a0e} {b0 : Nat × List Deferred}
theorem I0j {x:SV×a0e} {t:TE} {L:LE} (hb0:b0.2=[])(hL:a0w L=t.get)(hn:F.n=fn.ntmps)(hres:i0w fn.ntmps fn.results.toList=yA)(hdom: ∀i,F.H0.length<=i->F.D0 i=none):
    ∀(ms:List Nat) (F':Fr) (H1:a0e),v0Q P fn F.H0 t H1 ms=qA x->LeR F v H' x->Fol F F'->MOk b0 F'.D0 F'.ds ms-> ∀a w,Sees F' L H1 a w->LeavesInM Fence.wide 0 P fn a.tmps (G0D F v H') a.defers .returning w:=by
  intro ms
  induction ms with
  |nil=>
    intro F' H1 h hx hf hm a w hs
    have hds:F'.ds=[]:=by
      cases hds:F'.ds with
      |nil=>rfl
      |cons d ds=>have h9:=s0T hm;rw[hds,hb0]at h9;cases h9
    have h:(match r0W P fn.results.toList ((d0r fn.results.toList).map λi=>(i,t.get i)) H1 with
      |some v1=>v0P F.H0 v1 H1
      |none=>none)=qA x:=h
    obtain⟨v2,H2⟩:=x;rw[s0k _ t hL]at h;split at h;rename_i v1 hret;obtain⟨f,hb⟩:=s0A h;obtain⟨hd,K,D,hi⟩:=hs.keep (L2:=f0K (d0r fn.results.toList) L) (i0H _ _);rw[hd,hds];obtain⟨r,h1,h2⟩:=p0P (P:=P) (F:=F') hi (by rw[hf.n,hn];exact hres) hret;exact⟨r,h1,r,rfl,hx r w (j0y (hf.grow.trans hi.grow) hi.hinv h2 hb hdom)⟩;cases h
  |cons i ms ih=>
    intro F' H1 h hx hf hm a w hs
    cases hds:F'.ds with
    |nil=>rw[hds]at hm;exact hm.elim
    |cons d ds=>
      rw[hds]at hm;obtain⟨⟨b,rfl,hD,_⟩,hm⟩:=hm
      have h:(match(match H1[i]? with
        |some .dfr=>B0r ms (H1.set i .gone)
        |_=>none)with
        |some H2=>match r0W P fn.results.toList ((d0r fn.results.toList).map λi=>(i,t.get i)) H2 with
          |some v1=>v0P F.H0 v1 H2
          |none=>none
        |none=>none)=qA x:=h
      obtain⟨hd,K,D,hi⟩:=hs;rw[hd,hds]
      cases he:H1[i]? with
      |none=>rw[he]at h;cases h
      |some en=>
        rw[he]at h
        cases en with
        |dfr=>
          obtain⟨b',e1,e2,e3⟩:=hi.hinv.ent _ _ he;have:=hi.grow.dd _ _ hD;rw[this]at e1;cases e1;have ht:=I0x (w':=w.putObj b (.deferred none)) (en':= .gone) hi.hinv he rfl this rfl rfl rfl (by simp) (λb' hb'=>yH hb') (λ_=>trivial) (by simp);refine⟨by simp, .inl ⟨b,_,rfl,run_takeDeferred e3, ?_⟩⟩;exact ih ⟨F'.n,w.putObj b (.deferred none),K,D,H1.set i .gone,ds⟩ _ h hx ⟨hf.n,(hf.grow.trans hi.grow).trans ht.1⟩ (hm.mono hi.grow.dd) { a with defers:=ds } _ ⟨rfl,K,D,⟨hi.slots.mono λ_ _=>ht.1.rep,ht.2,Grow.refl _ _ _ _⟩⟩
        |_=>cases h
end
theorem Good.viv {K:Nat->Nat} {H:a0e} {r:Value} (h:Good w K D H r w' .nl H1)(k:Nat)(e:TypeId):Good w K D H r w' (.vc H1.length) (H1++ [.vec 0 k e []]):=by
  obtain⟨K',D',g,hi,hr⟩:=h;obtain⟨g2,hi2⟩:=p0k hi k e;refine⟨K',_,g.trans g2,hi2, ?_⟩;cases hr;exact .vcn _ _ (by simp[e0H])
theorem I0f :I0v (LeR F v H') eqR:=by
  intro x y r h hr;unfold eqR at h;split at h;rename_i a H b H2
  cases hb:SV.eqb a b&&f0B H H2 with
  |true=>
    rw[hb]at h;simp only[aa]at hb;cases h;exact⟨⟨_,rfl,hr⟩,_,rfl,by rw[<-u0t _ _ hb.1,<-j0I hb.2];exact hr⟩
  |false=>
    rw[hb]at h;simp only[vC]at h;split at h;rename_i i;split at h;rename_i k e he
    cases hc:jC i H.length&&f0B (H++ [.vec 0 k e []]) H2 with
    |false=>rw[hc]at h;cases h
    |true=>
      rw[hc]at h;simp only[aa]at hc;cases h;have h1:=af hc.1;have h2:=j0I hc.2;subst h1;subst h2;exact⟨⟨_,rfl,λr w hg=>hr r w (Good.viv hg k e)⟩,_,rfl,hr⟩
    cases h;cases h
  cases h
section
variable {P : Program} {kn cl : CallT} {yl : u0J} {B : Nat}
theorem F0U(hkn:kn.Ok P)(hcl:cl.Ok P)(hyl:YOk P yl):(J0D P kn cl yl B).Ok P:=by
  intro f args H v H' h;unfold J0D at h;split at h;rename_i r hr;cases h;exact hkn _ _ _ _ _ hr
  · split at h
    cases h
    · rename_i fn hf
      split at h
      cases h
      · rename_i c hb
        cases hq:J0h P f fn c&&oC args.length fn.ntmps with
        |false=>rw[hq]at h;cases h
        |true=>
          rw[hq]at h;simp only[J0h,aa]at hq;obtain⟨⟨⟨q1,q23⟩,q4⟩,q5⟩:=hq;obtain⟨q2,q3⟩:=w0b c q23;simp only[qC]at h;refine⟨q1,λw K D vals hl hrep hi hG=> ?_⟩;have hs:=z0n hl hrep hi hG (aj q5)
          have hend: ∀e:Exit,e= .normal\/e= .ret->KOk (w.heap.size,[]) ⟨fn.ntmps,w,K,D,H,[]⟩ (LeR ⟨fn.ntmps,w,K,D,H,[]⟩ v H') (bodyPostM Fence.wide 0 P fn (G0D ⟨fn.ntmps,w,K,D,H,[]⟩ v H')) e (v0Q P fn H):=by
            intro e he F' t' H2 ms' L' r h1 h2 h3 h4 hr0 a w' hs';have:=I0j (b0:=(w.heap.size,[])) (F:=⟨fn.ntmps,w,K,D,H,[]⟩) rfl h3 rfl q4 hi.dom ms' F' H2 h4 hr0 h1 h2 a w' hs';rcases he with rfl|rfl<;>exact this
          exact callsIn_wide.1 (callsIn_of_wp_marks (F:=Fence.wide) (n:=0) hf hb trivial
            (r0s (b0:=(w.heap.size,[])) (rd:=none) hcl hyl I0f c _ _ _ _ _ _ _ h (λ_ _ hg=>hg) Fence.wide ⟨fn.ntmps,w,K,D,H,[]⟩ (e0z 0 args) (bodyPostM Fence.wide 0 P fn (G0D ⟨fn.ntmps,w,K,D,H,[]⟩ v H')) rfl rfl rfl (am _) q2 q3 (TE.init_env args)
              (hend _ (.inl rfl)) (hend _ (.inr rfl)) (λk F' t' H' ms' L' r h1 h2 h3 h4=>by cases h4) _ w hs))
def C0H:List Nat->List SV->LE->LE
  | [],_,L=>L
  |_::_,[],L=>L
  |p::ps,v::vs,L=>C0H ps vs ((p,v)::L)
theorem t0H: ∀(ps:List Nat) (vs:List SV) (L:LE) (t:TE),a0w L=t.get->a0w (C0H ps vs L)=(TE.pars ps vs t).get
  | [],_,L,t,h=>h
  |_::_,[],L,t,h=>h
  |p::ps,v::vs,L,t,h=>t0H ps vs _ _ (TE.put_env h (qA p) v)
theorem r0i {N:Nat} {w:World} {K:Nat->Nat} {D:DM} : ∀(ps:List Nat) (vals:List Value) (args:List SV) (L:LE) (tm:Array Value),Slots N w K D (a0w L) tm->vals.length=args.length->
    (∀(j:Nat) (v:Value) (c:SV),vals[j]?=qA v->args[j]?=qA c->Rep w K D v c)->Slots N w K D (a0w (C0H ps args L)) ((ps.zip vals).foldl (λtmps p=>tmps.setIfInBounds p.1 p.2) tm)
  | [],vals,args,L,tm,hs,_,_=>hs
  |_::_,[],[],L,tm,hs,_,_=>hs
  |p::ps,v::vals,a::args,L,tm,hs,hl,hr=>by
    have h1:=Slots.put (a:= { tmps:=tm,defers:=[] }) hs (qA p) (hr 0 v a rfl rfl);rw[b0o]at h1;exact r0i ps vals args _ _ h1 (by simpa using hl) (λj x c hx hc=>hr (j+1) x c (by simpa using hx) (by simpa using hc))
  |_::_,[],_::_,_,_,_,hl,_=>by simp at hl
  |_::_,_::_,[],_,_,_,hl,_=>by simp at hl
theorem C0A {l:Nat} {j:Option Code} {H3:a0e} {w3:World} {K3:Nat->Nat} {D3:DM} (h:x0N i j H3=qA (b,H'))(hi:HInv w3 K3 D3 H3)(hD:D3 i=qA (.at l 0 0)):
    ∃w',(Instr.endRound l j).run P w3= .ok (.bool b) w'/\Grow w3 K3 D3 H3 w' K3 D3 H'/\HInv w' K3 D3 H':=by
  unfold x0N at h
  split at h
  · rename_i tm ps as bd st pd he
    cases h;obtain⟨l',r,e1,e2,e3,e4,e5,e6,e7,e8,e9,e10⟩:=hi.ent _ _ he;rw[hD]at e1;cases e1;have hlt:=(ai.1 e3).1;have hst:(bif j.isNone then LoopState.ready else .done)=if j.isNone then .ready else .done:=by cases j<;>rfl
    have ht:=I0x (w':=w3.putObj l (.loop { r with state:=if j.isNone then .ready else .done,pending:=j })) (en':= .lop tm ps as bd (bif j.isNone then .ready else .done) j) hi he rfl hD rfl rfl rfl (by simp) (λb' hb'=>yH hb')
      (λhr=>⟨l,_,hD,e2,World.putObj_heap_same hlt,e4,e5,e6,hst.symm,rfl,e9,λq v c hv hc=>hr _ _ (e10 q v c hv hc)⟩) (by simp)
    exact⟨_,run_endRound j e3,ht.1,ht.2⟩
  cases h
theorem F0T(hcl:cl.Ok P)(hyl:YOk P yl):YOk P (J0C P cl yl B):=by
  intro i args H b H' h Fc hW hW2 w K D vals hvl hvr hinv hG;unfold J0C at h
  split at h
  · rename_i tm ps as bd st pd he
    obtain⟨l,r,e1,e2,e3,e4,e5,e6,e7,e8,e9,e10⟩:=hinv.ent _ _ he
    cases hq:s0v st&&jC args.length ps.length&&J0I as bd tm.length with
    |false=>rw[hq]at h;cases h
    |true=>
      rw[hq]at h;simp only[aa]at hq;obtain⟨⟨q0,q1⟩,q23⟩:=hq;obtain⟨⟨q2,q4⟩,q3,q5⟩:=G0x q23;simp only[qC]at h;have hlen:vals.length=ps.length:=hvl.trans (af q1);refine⟨l,e1,r.fn,_,r.assign,r.body,run_yield e3 (by rw[e4];simpa using hlen),roundIn_of_wpIn (hW.fn _) ?_⟩;rw[hW2 l,e5,e6]
      have hsl0:Slots tm.length w K D (a0w (e0z 0 tm)) r.tmps:=by
        refine⟨e9,λq hq'=> ?_,hG⟩;show Rep w K D _ (lk (e0z 0 tm) q);rw[l0I,yB (bp _),bV,ag hq',be];rw[bg,aL (by rw[e9];exact hq')];exact e10 q _ _ (aL (by rw[e9];exact hq')) (ag hq')
      have hsl:=r0i ps vals args _ _ hsl0 hvl hvr
      have hfold:(r.params.zip vals.toArray).foldl (λtmps (t,a)=>tmps.setIfInBounds t a) r.tmps=(ps.zip vals).foldl (λtmps p=>tmps.setIfInBounds p.1 p.2) r.tmps:=by
        rw[e4];simp
      rw[hfold]
      refine r0s (b0:=(0,[])) (rd:=qA i) (Sb:=λx=>x=(b,H')) hcl hyl E0p as _ _ _ _ _ _ _ h rfl (Fence.wide.inRound l) ⟨tm.length,w,K,D,H,[]⟩ (C0H ps args (e0z 0 tm)) _ ⟨l,rfl,e1⟩ rfl rfl (bp _) q2 q4 (t0H ps args _ _ (TE.init_env tm)) ?_
        (λF' t' H' ms' L' r h1 h2 h3 h4=>by cases h4) (λk F' t' H' ms' L' r h1 h2 h3 h4=>by cases h4) _ w ⟨rfl,K,D,⟨hsl,hinv,Grow.refl _ _ _ _⟩⟩
      intro F1 t1 H1 ms1 L1 r1' h1 h2 h3 h4 hr1' a1 w1 hs1;subst hr1';obtain⟨hd1,K1,D1,hi1⟩:=hs1;have hDi1:D1 i=qA (.at l 0 0):=hi1.grow.dd _ _ (h1.grow.dd _ _ e1);simp only at h4
      split at h4
      · rename_i tm1 ps1 as1 bd1 st1 pd1 he1
        cases hr1:s0v st1 with
        |false=>rw[hr1]at h4;cases h4
        |true=>
          rw[hr1]at h4;simp only[qC]at h4;obtain⟨l',r1,d1,d2,d3,d4,d5,d6,d7,d8,d9,d10⟩:=hi1.hinv.ent _ _ he1;rw[hDi1]at d1;cases d1;have hst1:r1.state= .ready:=by rw[d7];cases st1<;>first|rfl|cases hr1
          have hlt:=(ai.1 d3).1
          have ht:=I0x (w':=w1.putObj l (.loop { r1 with state:= .busy })) (en':= .lop tm1 ps1 as1 bd1 .busy pd1) hi1.hinv he1 rfl hDi1 rfl rfl rfl (by simp) (λb' hb'=>yH hb')
            (λhr=>⟨l,_,hDi1,d2,World.putObj_heap_same hlt,d4,d5,d6,rfl,d8,d9,λq v c hv hc=>hr _ _ (d10 q v c hv hc)⟩) (by simp)
          refine⟨_,run_beginRound d3 hst1, ?_⟩
          have hend: ∀(j:Option Code) (e:Exit),(∀(R:Ending->World->Prop) (a:Act) (w:World),(∃v w',(Instr.endRound l j).run P w= .ok v w'/\R (.returned v) w')->roundPost P l R e a w)->
              KOk (0,[]) ⟨tm.length,w1.putObj l (.loop { r1 with state:= .busy }),K1,D1,H1.set i (.lop tm1 ps1 as1 bd1 .busy pd1),F1.ds⟩ (λx=>x=(b,H')) (roundPost P l λe w'=>e= .returned (.bool b)/\ ∃K' D',Grow w K D H w' K' D' H'/\HInv w' K' D' H') e (λ_ H2 _=>x0N i j H2):=by
            intro j e hpost F3 t3 H3 ms3 L3 r3 g1 g2 g3 g4 hr3 a3 w3 hs3;subst hr3;obtain⟨hd3,K3,D3,hi3⟩:=hs3;obtain⟨w',hrun,gr,hiv⟩:=C0A (P:=P) g4 hi3.hinv (hi3.grow.dd _ _ (g1.grow.dd _ _ hDi1));refine hpost _ _ _ ⟨_,w',hrun,rfl,K3,D3, ?_,hiv⟩;exact((((h1.grow.trans hi1.grow).trans ht.1).trans g1.grow).trans hi3.grow).trans gr
          exact r0s (b0:=(0,[])) (rd:=qA i) (Sb:=λx=>x=(b,H')) hcl hyl E0p bd _ _ _ _ _ _ _ h4 rfl (Fence.wide.inRound l) ⟨tm.length,w1.putObj l (.loop { r1 with state:= .busy }),K1,D1,H1.set i (.lop tm1 ps1 as1 bd1 .busy pd1),F1.ds⟩ L1 _ ⟨l,rfl,hDi1⟩ rfl (h2.mono hi1.grow.dd) (bp _) q3 q5 h3
            (hend none .normal (λR a w h=>h)) (hend (qA .ret) .ret (λR a w h=>h)) (λk=>hend (qA (.exit k)) (.exit k) (λR a w h=>h)) a1 _
            ⟨hd1,K1,D1,⟨by have:=hi1.slots.mono λ_ _=>ht.1.rep;rw[h1.n]at this;exact this,ht.2,Grow.refl _ _ _ _⟩⟩
      cases h4
  cases h
theorem I0r {fs:List Nat} (h:cl.Ok P):(blk fs cl).Ok P:=by
  intro f args H v H' hh;unfold blk at hh
  cases hb:t0N f fs&& !((SV.rlL args).isEmpty)with
  |true=>rw[hb]at hh;cases hh
  |false=>rw[hb]at hh;exact h _ _ _ _ _ hh
theorem A0S {fz:List Nat} (hkn:kn.Ok P): ∀n,(evA P kn fz B n).1.Ok P/\YOk P (evA P kn fz B n).2:=by
  intro n
  induction n with
  |zero=>
    refine⟨?_, ?_⟩;intro f args H v H' h;have h:(none:Option (SV×a0e))=qA (v,H'):=h;cases h;intro i args H b H' h;have h:(none:Option (Bool×a0e))=qA (b,H'):=h;cases h
  |succ n ih=>exact⟨I0r (F0U hkn ih.1 ih.2),F0T ih.1 ih.2⟩
end
end
section
variable [Inhabited GT]
def K0h(ρ:Env)(o:Oper):Option (FuncId×List SV):=match o.op,o.guard,o.dst with
  | .defer c,none,none=>match c.callee with
    | .value f=>match a0L ρ f,c.args.toList with
      |some (.fn (.func f) first captured),[]=>qA (f,first++captured)
      |_,_=>none
    |_=>none
  |_,_,_=>none
def K0n(c:Code):Option (Nat×Nat):=match(f0J (cl c)).toList with
  | [o,o']=>match o.dst,o'.dst with
    |some a,qA b=>qA (a,b)
    |_,_=>none
  |_=>none
def I0D (_ _:Option α):Option α:=none
theorem v0r {Sb:α->Prop} :I0v Sb (I0D (α:=α)):=λ_ _ _ h=>by cases h
noncomputable def sdT(P:Program)(cl':CallT)(yl:u0J)(B:Nat)(g:FuncId)(args:List SV)(H:a0e):Option a0e:=match P.funcs[g]? with
  |some fn=>match fn.body with
    |some c=>match K0n c with
      |some (t4,t5)=>bif b0J P g&&b0G fn.ntmps c&&e0C (cr c)&&oC args.length fn.ntmps&&z0z P c t4 t5&&(jE t4 fn.ntmps&&jE t5 fn.ntmps)&&i0w fn.ntmps fn.results.toList then
          match ewC I0D P cl' cl' yl B fn.ntmps none (cr c) (((TE.init 0 args .e).set .undef t4).set (.bool oA) t5) H [] (λt H1 ms=>match ms with| []=>v0Q P fn H t H1 []|_=>none) (λt H1 ms=>match ms with| []=>v0Q P fn H t H1 []|_=>none) (λ_ _ _ _=>none)with
          |some (.tup [],H')=>qA H'
          |_=>none
        else none
      |none=>none
    |none=>none
  |none=>none
noncomputable def G0m(P:Program)(cl':CallT)(yl:u0J)(B:Nat)(fn:Func)(H:a0e)(g:FuncId)(dargs:List SV)(t3:TE)(H3:a0e):Option (SV×a0e):=
  (fun σ=>bif q0D σ H3&&(SV.rlL dargs).all (λk=>t0N k σ)&&(p0e σ H3).all e0y then
    match sdT P cl' yl B g (SV.rnL (y0w σ) dargs) (p0e σ H3)with
    |some H0'=>bif oC σ.length H0'.length then match r0W P fn.results.toList ((d0r fn.results.toList).map λi=>(i,t3.get i)) (c0E (a0Y σ) σ.length H3 H0')with
      |some v1=>v0P H v1 (c0E (a0Y σ) σ.length H3 H0')
      |none=>none
      else none
    |none=>none
  else none) (m0d H3 100000 (SV.rlL dargs) [])
noncomputable def dfT(P:Program)(cl':CallT)(yl:u0J)(B:Nat):CallT:=λf args H=>match P.funcs[f]? with
  |some fn=>match fn.body with
    |some (.seq A (.seq (.region id ops oA) rest))=>bif b0J P f&&b0G fn.ntmps (.seq A (.seq (.region id ops oA) rest))&&e0C A&&e0C rest&&i0w fn.ntmps fn.results.toList&&oC args.length fn.ntmps then
        ewC I0D P cl' cl' yl B fn.ntmps none A (TE.init 0 args .e) H [] (λt H1 ms=>match ms,ops.toList with
          | [],[o1,o2]=>match b0n ops t.get o1,b0M o1,a0E P o1 t.get H1 H1.length with
            |some yA,oA,qA ef=>match K0h (t.put o1.dst ef.v).get o2 with
              |some (g,dargs)=>ewC I0D P cl' cl' yl B fn.ntmps none rest (t.put o1.dst ef.v) (b0H H1 ef.wr) [] (λ_ _ _=>none) (λt3 H3 ms3=>match ms3 with| []=>G0m P cl' yl B fn H g dargs t3 H3|_=>none) (λ_ _ _ _=>none)
              |none=>none
            |_,_,_=>none
          |_,_=>none) (λ_ _ _=>none) (λ_ _ _ _=>none)
      else none
    |_=>none
  |none=>none
section
variable {P : Program} {cl' : CallT} {yl : u0J} {B : Nat}
theorem F0Z {fn:Func} {F':Fr} {t:TE} {L:LE} (hL:a0w L=t.get)(hn:F.n=fn.ntmps)(hres:i0w fn.ntmps fn.results.toList=yA)(hdom: ∀i,F.H0.length<=i->F.D0 i=none)
    (h:v0Q P fn F.H0 t H1 []=qA (v,H')) (hf:Fol F F') (hs:Sees F' L H1 a w): ∃r,(results fn a.tmps).run P w= .ok r w/\Good F.w0 F.K0 F.D0 F.H0 r w v H':=by
  have h:(match r0W P fn.results.toList ((d0r fn.results.toList).map λi=>(i,t.get i)) H1 with
    |some v1=>v0P F.H0 v1 H1
    |none=>none)=qA (v,H'):=h
  rw[s0k _ t hL]at h;split at h;rename_i v1 hret;obtain⟨f,hb⟩:=s0A h;obtain⟨hd,K,D,hi⟩:=hs.keep (L2:=f0K (d0r fn.results.toList) L) (i0H _ _);obtain⟨r,h1,h2⟩:=p0P (P:=P) (F:=F') hi (by rw[hf.n,hn];exact hres) hret;exact⟨r,h1,j0y (hf.grow.trans hi.grow) hi.hinv h2 hb hdom⟩;cases h
theorem H0j(hcl:cl'.Ok P)(hyl:YOk P yl) {g:FuncId} {H:a0e} (h:sdT P cl' yl B g args H=qA H'):SD P g oA args H H':=by
  unfold sdT at h
  split at h
  · rename_i fn hf
    split at h
    · rename_i c hb
      split at h
      · rename_i t4 t5 _
        cases hq:b0J P g&&b0G fn.ntmps c&&e0C (cr c)&&oC args.length fn.ntmps&&z0z P c t4 t5&&(jE t4 fn.ntmps&&jE t5 fn.ntmps)&&i0w fn.ntmps fn.results.toList with
        |false=>rw[hq]at h;cases h
        |true=>
          rw[hq]at h;simp only[aa]at hq;obtain⟨⟨⟨⟨⟨⟨q1,q2⟩,q3⟩,q4⟩,q5⟩,q6⟩,q7⟩:=hq;simp only[qC]at h
          split at h
          · rename_i H2 he
            cases h;have hbc:e0F fn=c:=by unfold e0F;rw[hb];rfl
            refine K.fnC oA t4 t5 hf (by rw[hb];rfl) q1 (by rw[hbc];exact q2) q4 (by rw[hbc];exact q5) (by rw[aa];exact q6) (λF hn hH hdom=> ?_);rw[hbc];intro hin a w hs
            have henv:a0w ((t5, .bool oA)::(t4, .undef)::e0z 0 args)=(((TE.init 0 args .e).set .undef t4).set (.bool oA) t5).get:=
              TE.put_env (TE.put_env (TE.init_env args) (qA t4) .undef) (qA t5) (.bool oA)
            refine wpIn_wide.1 (r0s (b0:=(0,F.ds)) (rd:=none) (Sb:=λx=>x=(.tup [],H')) hcl hyl v0r _ _ _ _ _ _ _ _ he rfl Fence.wide F _ _ rfl hn (MOk.of_nil rfl) (bp _) (by rw[<-hn];exact hin) q3 henv ?_ ?_ (λk F' t' H' ms' L' r h1 h2 h3 h4=>by cases h4) a w hs)
            all_goals
              intro F' t' H' ms' L' r h1 h2 h3 h4 hr a w hs;subst hr
              cases ms' with
              |cons i ms=>cases h4
              |nil=>
                have hds:=s0T h2;obtain⟨r,e1,e2⟩:=F0Z (F:=F) h3 hn q7 hdom (by rw[hH];exact h4) h1 hs;exact⟨by first|exact .inl rfl|exact .inr rfl,by rw[hs.1];exact hds,r,e1,e2⟩
          cases h
      cases h
    cases h
  cases h
theorem G0n {p:Nat} {L:LE} {r:FuncId×List SV} (ho:ops.toList[p]?=qA o)(h:K0h (a0w L) o=qA r):D0y ops p L=qA r:=by
  unfold D0y;rw[ho];exact h
theorem I0l(hcl:cl'.Ok P)(hyl:YOk P yl):(dfT P cl' yl B).Ok P:=by
  intro f args H v H' h;unfold dfT at h
  split at h
  · rename_i fn hf
    split at h
    · rename_i A id ops rest hb
      cases hq:b0J P f&&b0G fn.ntmps (.seq A (.seq (.region id ops oA) rest))&&e0C A&&e0C rest&&i0w fn.ntmps fn.results.toList&&oC args.length fn.ntmps with
      |false=>rw[hq]at h;cases h
      |true=>
        rw[hq]at h;simp only[aa]at hq;obtain⟨⟨⟨⟨⟨q1,q2⟩,q3⟩,q4⟩,q5⟩,q6⟩:=hq;simp only[qC]at h;have hbc:e0F fn= .seq A (.seq (.region id ops oA) rest):=by unfold e0F;rw[hb];rfl
        refine K.fnD hf (by rw[hb];rfl) q1 (by rw[hbc];exact q2) q6 (λF hn hH hdom hds=> ?_);rw[hbc];have q2':=q2;simp only[b0G,aa]at q2';obtain⟨qa,qo,qr⟩:=q2';refine J.seq (λhin a w hs=> ?_);refine wpIn_wide.1 (r0s (b0:=(0,[])) (rd:=none) (Sb:=λx=>x=(v,H')) hcl hyl v0r A _ _ _ _ _ _ _ h rfl Fence.wide F _ (k0k F P (.seq (.region id ops oA) rest) (x0H P fn F v H')) rfl hn (MOk.of_nil hds) (bp _) qa q3 (TE.init_env args) ?_ (λF' t' H' ms' L' r h1 h2 h3 h4=>by cases h4) (λk F' t' H' ms' L' r h1 h2 h3 h4=>by cases h4) a w hs);intro F' t H1 ms L1 r h1 h2 h3 h4 hr;subst hr;simp only at h4
        split at h4
        · rename_i o1 o2 hops
          split at h4
          · rename_i ef hg hc he
            split at h4
            · rename_i g dargs hdf
              have hds':=s0T h2;refine PJ.nextF h1.n (J.seq (J.region ?_));have ho1:ops.toList[0]?=qA o1:=by rw[hops];rfl
              have ho2:ops.toList[1]?=qA o2:=by rw[hops];rfl
              refine RJ.step ho1 (by rw[h3];exact hg) hc (by rw[h3];exact he) rfl ?_;have hL2:=TE.put_env h3 o1.dst ef.v;refine RJ.defer (G0n ho2 (by rw[hL2];exact hdf)) hds' (λw1 K1 D1 d hd hgr hdm=> ?_);refine RJ.done (by have:=congrArg List.length hops;simp at this;omega) (PJ.nextF rfl ?_);intro hin2 a2 w2 hs2;refine wpIn_wide.1 (r0s (b0:=(0,[d])) (rd:=none) (Sb:=λx=>x=(v,H')) hcl hyl v0r rest _ _ _ _ _ _ _ h4 rfl Fence.wide ⟨F'.n,w1,K1,D1,b0H H1 ef.wr,[d]⟩ _ (x0H P fn F v H') rfl (h1.n.trans hn) (MOk.of_nil rfl) (bp _) qr q4 hL2 (λF' t' H' ms' L' r h1 h2 h3 h4=>by cases h4) ?_ (λk F' t' H' ms' L' r h1 h2 h3 h4=>by cases h4) a2 w2 hs2);intro F3 t3 H3 ms3 L3 r g1 g2 g3 g4 hr3 a3 w3 hs3;subst hr3
              cases ms3 with
              |cons i ms=>cases g4
              |nil=>
                have g4:G0m P cl' yl B fn H g dargs t3 H3=qA (v,H'):=g4;unfold G0m at g4;generalize m0d H3 100000 (SV.rlL dargs) []=σ at g4;simp only at g4
                cases hc2:q0D σ H3&&(SV.rlL dargs).all (λk=>t0N k σ)&&(p0e σ H3).all e0y with
                |false=>rw[hc2]at g4;cases g4
                |true=>
                  rw[hc2]at g4;simp only[aa,qD]at hc2;obtain⟨⟨c1,c2⟩,c3⟩:=hc2;simp only[qC]at g4;split at g4;rename_i H0' hsd
                  cases hle:oC σ.length H0'.length with
                  |false=>rw[hle]at g4;cases g4
                  |true=>
                    rw[hle]at g4;simp only[qC]at g4;rw[s0k _ t3 g3]at g4;split at g4;rename_i v1 hret;rw[<-hH]at g4;obtain⟨ff,hback⟩:=s0A g4;have hm: ∀i∈SV.rlL dargs,i∈σ:=λi hi=>j0F.1 (c2 i hi)
                    have hfr:=SD.frame (H0j hcl hyl hsd) (h0m c1) c3 (by rw[e0I];exact g0c _ (λk hk=>t0y (hm k hk))) (by rw[e0I];exact aj hle);rw[g0b _ (λk hk=>m0J (hm k hk)),e0I]at hfr;have hds3:F3.ds=[d]:=s0T g2;obtain⟨fv,caps,vals,ht,hinv,hvl,hvr⟩:=hd;obtain⟨hd3,K3,D3,hi3⟩:=hs3.keep (L2:=f0K (d0r fn.results.toList) L3) (i0H _ _);have hgrow:Grow F.w0 F.K0 F.D0 F.H0 F3.w0 F3.K0 F3.D0 F3.H0:=(h1.grow.trans hgr).trans g1.grow;refine⟨.returning,rfl, ?_⟩;rw[hd3,hds3];refine⟨(by exact λe=>nomatch e),fv,caps,g,vals.toArray,ht,hinv hfr.1 w3, ?_⟩;refine(hfr.2 w3 K3 D3 vals .returning hvl (λj x y hx hy=>hi3.grow.rep (g1.grow.rep (hvr j x y hx hy))) hi3.hinv hi3.slots.glob rfl).mono ?_;rintro e u' w' ⟨r,rfl,hst,K',D',gr,hi',_⟩;simp only;rw[hst]
                    have hi2:Inv F3 w' K' D' _ (a0w (f0K (d0r fn.results.toList) L3)) a3.tmps:=⟨hi3.slots.mono λ_ _=>gr.rep,hi',hi3.grow.trans gr⟩
                    obtain⟨r2,e1,e2⟩:=p0P (P:=P) (fn:=fn) hi2 (by rw[g1.n,h1.n,hn];exact q5) hret;exact⟨r2,e1,r2,rfl,j0y (hgrow.trans (hi3.grow.trans gr)) hi' e2 hback hdom⟩;cases g4
                  cases g4
            cases h4
          cases h4
        cases h4
    cases h
  cases h
end
end
section
variable [Inhabited GT]
noncomputable def knE(f0:Nat)(A:List SV)(H0:a0e)(v:SV)(H1:a0e)(k:CallT):CallT:=λf args H=>bif jC f f0 then(bif SV.eqbL args A&&f0B H H0 then qA (v,H1)else k f args H)else k f args H
theorem o0A {f0:Nat} {A:List SV} {k:CallT} (h:SC P f0 A H0 v H1)(hk:k.Ok P):(knE f0 A H0 v H1 k).Ok P:=by
  intro f args H v' H' hh;unfold knE at hh
  cases hf:jC f f0 with
  |false=>rw[hf]at hh;exact hk _ _ _ _ _ hh
  |true=>
    rw[hf]at hh;simp only[qC]at hh
    cases hq:SV.eqbL args A&&f0B H H0 with
    |false=>rw[hq]at hh;exact hk _ _ _ _ _ hh
    |true=>
      rw[hq]at hh;simp only[aa]at hq;obtain⟨rfl,rfl⟩:=bA (al hh);rw[af hf,l0n _ _ hq.1,j0I hq.2];exact h
def isR(x:Option (SV×a0e))(v:SV)(H1:a0e):Bool:=match x with
  |some (a,H)=>SV.eqb a v&&f0B H H1
  |none=>oA
theorem H0W {x:Option (SV×a0e)} (h:isR x v H1=yA):x=qA (v,H1):=by
  unfold isR at h;split at h;rw[aa]at h;rw[u0t _ _ h.1,j0I h.2];cases h
theorem I0e {kn:CallT} {fz:List Nat} {B f:Nat} {A:List SV} (hk:kn.Ok P)(h:isR ((evA P kn fz B n).1 f A H0) v H1=yA):SC P f A H0 v H1:=
  (A0S hk n).1 _ _ _ _ _ (H0W h)
noncomputable def knD(P:Program)(fz fs:List Nat)(B n:Nat)(k:CallT):CallT:=λf args H=>List.rec (motive:=λ_=>Option (SV×a0e)) (k f args H) (λg _ ih=>bif jC f g then dfT P (evA P k fz B n).1 (evA P k fz B n).2 B f args H else ih) fs
theorem H0S {fz fs:List Nat} {B:Nat} {k:CallT} (hk:k.Ok P):(knD P fz fs B n k).Ok P:=by
  intro f args H v H' h
  induction fs with
  |nil=>exact hk _ _ _ _ _ h
  |cons g r ih=>
    have h:(bif jC f g then dfT P (evA P k fz B n).1 (evA P k fz B n).2 B f args H else knD P fz r B n k f args H)=qA (v,H'):=h
    cases hf:jC f g with
    |true=>rw[hf]at h;exact I0l (A0S hk n).1 (A0S hk n).2 _ _ _ _ _ h
    |false=>rw[hf]at h;exact ih h
end
section
variable [Inhabited GT]
/-! Natives read from shadow values. -/
noncomputable def gN(cs:List SV):Nat->SV:=List.rec (motive:=λ_=>Nat->SV) (λ_=> .undef) (λa _ ih i=>Nat.rec (motive:=λ_=>SV) a (λj _=>ih j) i) cs
def gI:SV->Int
  | .int _ n=>n
  |_=>0
def gB:SV->Bool
  | .bool b=>b
  |_=>oA
def gS:SV->List UInt8
  | .str s=>s
  |_=> []
def gA (d:List SV->T):SV->T
  | .agg cs=>d cs
  |_=>d []
def gI1(cs:List SV):Int:=match cs with
  |a::_=>gI a
  | []=>0
noncomputable def gLn (d:List SV->T)(k:Nat)(n:Nat):List SV->List T:=Nat.rec (motive:=λ_=>List SV->List T) (λ_=> []) (λ_ ih cs=>d (cs.take k)::ih (cs.drop k)) n
noncomputable def gL (d:List SV->T)(k:Nat):SV->List T
  | .lst n _ cs=>gLn d k n cs
  |_=> []
/-! A shadow value that says less, told. -/
def I0G(a b:SV):Bool:=match a,b with
  | .nl, .lst 0 _ []=>yA
  |_, .undef=>yA
  |_,_=>SV.eqb a b
def I0F:List SV->List SV->Bool
  | [],[]=>yA
  |a::l,b::m=>I0G a b&&I0F l m
  |_,_=>oA
def J0m(a b:SV):Bool:=match a,b with
  | .agg l, .agg m=>I0F l m
  |_,_=>I0G a b
def u0M:List SV->List SV->Bool
  | [],[]=>yA
  |a::l,b::m=>J0m a b&&u0M l m
  |_,_=>oA
theorem A0s {a b:SV} (h:I0G a b=yA):Le a b:=by
  unfold I0G at h;split at h;exact Le.nl _;exact Le.undef _;rw[u0t _ _ h];exact Le.refl _
theorem A0r: ∀ {l m:List SV},I0F l m=yA->LeL l m
  | [],[],_=> .nil
  |a::l,b::m,h=>by simp only[I0F,aa]at h;exact .cons (A0s h.1) (A0r h.2)
  | [],_::_,h=>by cases h
  |_::_,[],h=>by cases h
theorem F0x {a b:SV} (h:J0m a b=yA):Le a b:=by
  unfold J0m at h;split at h;exact Le.agg (A0r h);exact A0s h
theorem f0A: ∀ {l m:List SV},u0M l m=yA->LeL l m
  | [],[],_=> .nil
  |a::l,b::m,h=>by simp only[u0M,aa]at h;exact .cons (F0x h.1) (f0A h.2)
  | [],_::_,h=>by cases h
  |_::_,[],h=>by cases h
def y0u(P:Program)(f:FuncId)(k:List SV->Option SV):Prop:= ∀l v,k l=qA v->SC P f l [] v []
theorem y0m {x:Option α} {r:α} (h:(bif c then x else none)=qA r):c=yA/\x=qA r:=by
  cases c with
  |true=>exact⟨rfl,h⟩
  |false=>cases h
theorem y0n {x y:Option α} {r:α} (h:(bif c then x else y)=qA r):(c=yA/\x=qA r)\/y=qA r:=by
  cases c with
  |true=>exact .inl ⟨rfl,h⟩
  |false=>exact .inr h
theorem w0y {β:Type} {f:α->Option β} {x:Option α} {r:β} (h:(Option.rec (motive:=λ_=>Option β) none f x)=qA r): ∃a,x=qA a/\f a=qA r:=by
  cases x with
  |none=>cases h
  |some a=>exact⟨a,rfl,h⟩
end
section
variable [Inhabited GT]
section
variable {T S O : Type} {step : S -> Option (S ⊕ O)}
theorem w0I(xs:List T)(st:List T->S)(I:List T->Prop)(post:O->Prop) {s0:S} (h0:s0=st [])(hI:I [])
    (hs: ∀pre x suf,xs=pre++x::suf->I pre->(step (st pre)=qA (.inl (st (pre++ [x])))/\I (pre++ [x]))\/ ∃o,step (st pre)=qA (.inr o)/\post o)
    (he:I xs-> ∃o,step (st xs)=qA (.inr o)/\post o) (hl:xs.length<18446744073709551616):
    ∃o,a0B step big s0=qA o/\post o:=by
  have key: ∀(suf pre:List T) (n:Nat),xs=pre++suf->I pre->suf.length<n-> ∃o,a0B step n (st pre)=qA o/\post o:=by
    intro suf
    induction suf with
    |nil=>
      intro pre n hx hi hn
      obtain⟨m,rfl⟩: ∃m,n=m+1:=⟨n-1,by simp at hn;omega⟩
      rw[cn]at hx;subst hx;obtain⟨o,h1,h2⟩:=he hi;exact⟨o,d0C h1,h2⟩
    |cons x suf ih=>
      intro pre n hx hi hn
      obtain⟨m,rfl⟩: ∃m,n=m+1:=⟨n-1,by simp at hn;omega⟩
      rcases hs pre x suf hx hi with⟨h1,h2⟩|⟨o,h1,h2⟩;rw[a0J h1];exact ih (pre++ [x]) m (by rw[hx];simp) h2 (by simp at hn;omega);exact⟨o,d0C h1,h2⟩
  subst h0;exact key xs [] big rfl hI hl
theorem d0R(xs:List T)(st:List T->S)(fin:O) {s0:S} (h0:s0=st [])
    (hs: ∀pre x suf,xs=pre++x::suf->step (st pre)=qA (.inl (st (pre++ [x])))) (he:step (st xs)=qA (.inr fin)) (hl:xs.length<18446744073709551616):
    a0B step big s0=qA fin:=by
  obtain⟨o,h1,h2⟩:=w0I (step:=step) xs st (λ_=>True) (λo=>o=fin) h0 trivial (λpre x suf h _=> .inl ⟨hs pre x suf h,trivial⟩) (λ_=>⟨fin,he,rfl⟩) hl;rw[h1,h2]
theorem w0J(p:T->Bool)(xs:List T)(st:List T->S)(ok bad:O) {s0:S} (h0:s0=st [])
    (hs: ∀pre x suf,xs=pre++x::suf->step (st pre)=qA (if p x=yA then .inl (st (pre++ [x]))else .inr bad)) (he:step (st xs)=qA (.inr ok)) (hl:xs.length<18446744073709551616):
    a0B step big s0=qA (if xs.all p=yA then ok else bad):=by
  obtain⟨o,h1,h2⟩:=w0I (step:=step) xs st (λpre=>pre.all p=yA) (λo=>o=if xs.all p=yA then ok else bad) h0 rfl (λpre x suf h hi=>by
    rw[hs pre x suf h]
    cases hp:p x with
    |true=>exact .inl ⟨by simp,by simp[bU,hi,hp]⟩
    |false=>exact .inr ⟨bad,by simp,by subst h;simp[hp]⟩) (λhi=>⟨ok,he,by simp[hi]⟩) hl
  rw[h1,h2]
theorem f0W(n:Nat)(st:Nat->S)(I:Nat->Prop)(post:O->Prop) {s0:S} (h0:s0=st 0)(hI:I 0)
    (hs: ∀i,i<n->I i->(step (st i)=qA (.inl (st (i+1)))/\I (i+1))\/ ∃o,step (st i)=qA (.inr o)/\post o)
    (he:I n-> ∃o,step (st n)=qA (.inr o)/\post o) (hl:n<18446744073709551616):
    ∃o,a0B step big s0=qA o/\post o:=by
  have key: ∀(k i m:Nat),i+k=n->I i->k<m-> ∃o,a0B step m (st i)=qA o/\post o:=by
    intro k
    induction k with
    |zero=>
      intro i m hx hi hn
      obtain⟨m,rfl⟩: ∃q,m=q+1:=⟨m-1,by omega⟩
      obtain rfl:i=n:=by omega
      obtain⟨o,h1,h2⟩:=he hi;exact⟨o,d0C h1,h2⟩
    |succ k ih=>
      intro i m hx hi hn
      obtain⟨m,rfl⟩: ∃q,m=q+1:=⟨m-1,by omega⟩
      rcases hs i (by omega) hi with⟨h1,h2⟩|⟨o,h1,h2⟩;rw[a0J h1];exact ih (i+1) m (by omega) h2 (by omega);exact⟨o,d0C h1,h2⟩
  subst h0;exact key n 0 big (by omega) hI hl
end
section
variable {T : Type} [Inhabited T]
theorem d0E {pre suf:List T} {x:T} :nth (pre++x::suf) (pre.length:Int)=x:=by
  rw[s0j (by simp)];simp
theorem i0I {T:Type} {pre suf:List T} {x:T} :inR (pre.length:Int) (pre++x::suf).length=true:=m0w (by simp)
theorem n0c {T:Type} {pre suf:List T} {x:T} :vA ((pre.length:Int)<((pre++x::suf).length:Int))=true:=dT (by simp;omega)
theorem k0c {T:Type} {xs:List T} :vA ((xs.length:Int)<(xs.length:Int))=false:=dF (by omega)
theorem o0L {T:Type} {pre suf:List T} {x:T} (h:(pre++x::suf).length<=4611686018427387904):jA .i64 ((pre.length:Int)+1)=((pre++ [x]).length:Int):=by
  simp at h⊢;exact w64 (by omega) (by omega)
end
theorem I0T {n:Int} (h1:0<=n)(h2:n<=18446744073709551615):IntKind.u64.wrap n=n:=by
  unfold jA;simp only[qF,jG,bX,ca,aI,if_false,decide_eq_true_eq]
  first|omega|(split<;>rename_i hc<;>simp at hc<;>omega)
theorem q0X {n:Int} (h1:0<=n)(h2:n<=4294967295):IntKind.u32.wrap n=n:=by
  unfold jA;simp only[qF,jG,bX,ca,aI,if_false,decide_eq_true_eq]
  first|omega|(split<;>rename_i hc<;>simp at hc<;>omega)
theorem D0L [Inhabited T](bad:T->Bool)(xs:List T)(hl:xs.length<=4611686018427387904):
    a0B (λs:Int=>(bif(vA (s<(xs.length:Int)))then(bif inR s xs.length then(bif bad (nth xs s)then(qA (.inr (.inr oA)))else(qA (.inl (jA .i64 (s+1)))))else none)else(qA (.inr (.inl ()))))) big 0
      =qA (if xs.all (λc=> !bad c)=yA then(.inl ():Unit⊕Bool)else .inr oA):=by
  rw[w0J (λc=> !bad c) xs (λpre=>(pre.length:Int)) (.inl ()) (.inr oA)];rfl
  · intro pre x suf h
    subst h;rw[n0c,i0I,d0E,o0L hl];cases bad x<;>rfl
  rw[k0c];rfl;omega
theorem D0D [DecidableEq T] {xs:List T} (hl:xs.length<=4294967296):
    (bif(jC xs.length 0)then agree (qA ([]:List T)) (bif room xs.length then(qA xs)else none)else(bif room xs.length then(qA xs)else none))=qA xs:=by
  rw[y0s];rw[a0z hl];rfl;intro h;rw[a0z hl];have:xs=[]:=aq (af h);subst this;rfl
theorem d0G {β:Type} {x:Option α} {k:α->Option β} {r:Option β} (post:α->Prop)(h: ∃o,x=qA o/\post o)(hk: ∀o,post o->k o=r):zA x k=r:=by
  obtain⟨o,rfl,h2⟩:=h;exact hk o h2
/-! Bytes as numbers. -/
def up(l:List Nat):List Int:=l.map λn:Nat=>(n:Int)
theorem b0L(l:List Nat):(up l).length=l.length:=by simp[up]
theorem c0J(l m:List Nat):up (l++m)=up l++up m:=by simp[up]
theorem y0J(x:Nat)(l:List Nat):up (x::l)=(x:Int)::up l:=rfl
theorem E0A(l:List Nat)(i j:Nat):cut (up l) (i:Int) (j:Int)=up ((l.take j).drop i):=by simp[cut,up,List.map_take,List.map_drop]
def a0A(l:List Nat):Prop:= ∀c∈l,c<256
theorem d0X {m:List Nat} (h1:a0A l)(h2:a0A m):a0A (l++m):=λx hx=>by
  rcases aw.1 hx with h|h;exact h1 x h;exact h2 x h
theorem l0R {m:List Nat} (h:a0A (l++m)):a0A l:=λx hx=>h x (cy _ hx)
theorem w0d {m:List Nat} (h:a0A (l++m)):a0A m:=λx hx=>h x (bG _ hx)
theorem h0j (h:a0A l)(n:Nat):a0A (l.take n):=λx hx=>h x (bS hx)
theorem r0x (h:a0A l)(n:Nat):a0A (l.drop n):=λx hx=>h x (cx hx)
theorem I0Z {xs:List Int} (h:WfL (WfI .u8) xs): ∃l,xs=up l/\a0A l/\l.length=xs.length:=by
  refine⟨xs.map Int.toNat, ?_, ?_,by simp⟩;unfold up;rw[bO]
  have: ∀x∈xs,((λn:Nat=>(n:Int))∘Int.toNat) x=x:=λx hx=>by
    have:=x0p (h.2 x hx);simp;omega
  rw[bn this];simp;intro c hc;rw[aN]at hc;obtain⟨x,hx,rfl⟩:=hc;have:=x0p (h.2 x hx);omega
theorem z0m {pre suf:List T} {x v:T} :a0W (pre++x::suf) (pre.length:Int) v=pre++v::suf:=by
  unfold a0W;rw[aJ,List.set_append_right _ _ (by omega)];simp
theorem u8m(n:Int):IntKind.u8.wrap n=n%256:=by
  unfold jA;simp only[qF,jG,ca,aI,if_false];rfl
theorem s0K(s:List UInt8):a0P s=up (s.map wJ):=by simp[a0P,up,Function.comp_def]
theorem u0U(s:List UInt8):a0A (s.map wJ):=λc hc=>by
  obtain⟨b,_,rfl⟩:=aN.1 hc;exact UInt8.toNat_lt b
theorem j0u :i0p (up l)=l.map zG:=by simp[i0p,up,Function.comp_def]
end
end Go.Sy
