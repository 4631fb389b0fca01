import Derived.Recover
import Derived.LaidEql
import Derived.RangeFuncLeaves
import Derived.RangeFuncCalls
import Derived.OrdersIn
import Derived.LoopNIn
import Derived.RangeFuncNested
import Derived.Test.YtafbfodcilkgmaaGreatDoorSb
set_option linter.all false
namespace Go.Sy
open Go Go.RowKit
open _root_.Array renaming replicate->yD
open Go.Code renaming wp_mono->zJ
open Go.Exit renaming inBlock->vF
open Go.Instr renaming slice->wK,sliceAt->yG,sliceBound->oI,sliceBounds->jE
open Go.IntKind renaming bits->yH,signed->oG,wrap->wA
open _root_.List renaming all_eq_true->wD,range->jC,range'->wH,replicate->oC
open _root_.Nat renaming beq->oB,ble->yC,blt->oD
open Go.Op renaming equalIn->vI,operands->wB
open _root_.Option renaming bind->jA,some->vA
open _root_.Prod renaming fst->yE,snd->vK
open Go.Region renaming binds->wF,lexB->vG,lexFrom->zK,ready->jH,wanted->wG
open Go.Result renaming andThen_ok->vC
open Go.Sem renaming run_bind->zD,run_pure->vE
open _root_.Sum renaming elim->zG
open Go.World renaming putObj_heap_other->vH
open _root_.Decidable renaming decide->yA
open _root_.Bool renaming false->oA,true->jB
variable {args0 args args' cs caps tm:List SV}{H0 H0' H' H2 H1:a0e}{f:FuncId}{i base k q n l m gf p2:Nat}{S X O α V T:Type}{L2:LE}{d rd:Option Nat}{v v1 v2 v0 s:SV}{w w':World}{D D':DM}{vals:List Value}{F1 F F':Fr}{a:Act}{o:Oper}{tr2:List (List Nat×List Nat)}{e:TypeId}{b c:Bool}{ρ:Env}{kd:IntKind}{j:Int}{R:Act->World->Prop}{σ:List Nat}{x:LE×a0e}{ef:Eff}{ops:Array Oper}{as bd:Code}{Fc:Fence}{Q:g0c}{b0:Nat×List Deferred}{ds:List Deferred}{ps:Array Nat}{st:LoopState}{pd:Option Code}
section
variable [Inhabited GT]
def Pan(ch:List PanicEntry):Prop:= ∃t v,ch=[{ v:= .iface t v,recovered:=oA }]
def SP(P:Program)(f:FuncId)(args:List SV)(H:a0e)(H':a0e):Prop:=
  b0o P f=jB/\
  ∀(w:World) (K:Nat->Nat) (D:DM) (vals:List Value),vals.length=args.length->(∀(j:Nat) (x:Value) (c:SV),vals[j]?=vA x->args[j]?=vA c->Rep w K D x c)->HInv w K D H->m0p w K D->
    Calls P f vals.toArray w λe w'=> ∃ch,e= .panicked ch/\Pan ch/\Good w K D H (.bool jB) w' .undef H'
theorem SP.frame{P:Program}{fid:FuncId}(h:SP P fid args0 H0 H0'){H:a0e}{f:Nat->Nat}(hs:Sel H f H0)
    (hlive: ∀en∈H0,h0e en=jB) (ha:SV.refsL H0.length args0=jB) (hl:H0.length<=H0'.length):SP P fid (SV.rnL f args0) H (d0y f H0.length H H0'):=by
  refine⟨h.1,λw K D vals hlen hr hi hG=> ?_⟩;refine(h.2 w K (m0q D f H0.length) vals (by rw[hlen,b0O]) (λj x c hx hc=>h0q (hr j x (SV.rn f c) hx<|by rw[f0y,hc];rfl) c rfl<|e0V ha j c hc) (hs.hinv hi)<|j0t hG).mono ?_;rintro e w' ⟨ch,he,hp,hg⟩;exact⟨ch,he,hp,hg.frame hs hi hlive hl⟩
theorem SP.weak{P:Program}{H:a0e}(h:SP P f args' H H')(hl:LeL args args'):SP P f args H H':=
  ⟨h.1,λw K D vals hlen hr hi hG=>h.2 w K D vals (by rw[hlen,hl.length]) (λj x c hx hc=>by
    obtain⟨b,hb,hle⟩:=hl.get j c hc
    exact hle _ _ _ _<|hr j x b hx hb) hi hG⟩
def PP(F:Fr)(Q:g0c)(L:LE)(H:a0e):Prop:= ∀ch a w,Pan ch->Sees F L H a w->Q (.panic ch) a w
section
variable {F : Fr}{P : Program}{c : Code}{L : LE}{H : a0e}{Q : g0c}{ops : Array Oper}{p : Nat}
theorem PP.next(h:PP F Q L H):PP F (l0t F P c Q) L H:=λch a w hp hs=>h ch a w hp hs
theorem PP.block(h:PP F Q L H):PP F (vF i Q) L H:=λch a w hp hs=>h ch a w hp hs
theorem PP.cutXr{R:S->LE×a0e}{x:X}(h:PP F Q L H):PP F (cutX F R Q (.inr x:S⊕X)) L H:=λch a w hp hs=>⟨(λe=>nomatch e),h ch a w hp hs⟩
theorem PP.loopOut{R:S->LE×a0e}{o o':O}(h:o'=o->PP F Q L H):PP F (p0r F R Q o<|.inr o') L H:=λch a w hp hs=>⟨(λe=>nomatch e),λhe=>h he ch a w hp hs⟩
theorem PP.wk(h:Wk F L H L2 H2)(k:PP F Q L2 H2):PP F Q L H:=λch a w hp hs=>k ch a w hp<|h a w hs
def L0Q(P:Program)(ops:Array Oper)(p:Nat):Option Nat:=match ops.toList[p]?,ops.toList[p+1]? with
  |some o,vA o'=>match o.op,o.dst,o.guard,o'.op,o'.guard with
    | .makeInterface t (.const<|.string _),vA d,none, .panic (.tmp d'),none=>match P.underlying t with
      |some .string=>bif oB d d' then vA d else none
      |_=>none
    |_,_,_,_,_=>none
  |_,_=>none
theorem RJ.panic{d:Nat}(h:L0Q P ops p=vA d)(k:PP F Q (g0g L (vA d) .undef) H)(hd:oD d F.n=jB):RJ F P none ops p [] L H Q:=by
  intro hin a w hs;unfold L0Q at h;split at h;rename_i o o' ho ho';split at h;rename_i t s d1 d2 e1 e2 e3 e4 e5;split at h;rename_i hu
  cases hb:oB d1 d2 with
  |false=>rw[hb]at h;cases h
  |true=>
    rw[hb]at h;obtain rfl:=au h;obtain rfl:=ae hb;rw[e0g ho,e0g ho'];refine wpList_step λKK hKK=> ?_
    have hg1:wG o (yielded ops a.tmps)=true:=by unfold wG;rw[e3]
    rw[vB hg1];unfold Oper.wp
    have hr1:(execOp a.eval o).run P w= .ok (.value<|.iface t<|.string s) w:=by
      unfold execOp;simp[e1,Instr.makeInterface,run_underlying hu,Act.eval]
    rw[hr1];refine hKK _ _ ?_;refine wpList_step λKK2 hKK2=> ?_
    have hg2: ∀tm,wG o' (yielded ops tm)=true:=λtm=>by unfold wG;rw[e5]
    rw[vB<|hg2 _];unfold Oper.wp;obtain⟨hdd,K,D,hi⟩:=hs;have hsz:d1<a.tmps.size:=by rw[hi.slots.size];exact ag hd
    have hev:(a.put o.dst<|.iface t<|.string s).eval (.tmp d1)= .iface t (.string s):=by
      rw[e2];simp[Act.put,Act.eval,ba,hsz]
    have hr2:(execOp (a.put o.dst<|.iface t<|.string s).eval o').run P w= .halt (.panic<|.iface t<|.string s) w:=by
      unfold execOp;simp[e4,Instr.panic,hev,goPanic]
    rw[hr2];refine k _ _ _ ⟨_,_,rfl⟩ ⟨by rw[a0L];exact hdd,K,D, ?_⟩;rw[<-b0b,e2];exact⟨hi.slots.put _<|.undef _,hi.hinv,hi.grow⟩
  cases h;cases h;cases h
def L0i(F:Fr)(H':a0e):g0c:=λe a w=> ∃ch,e= .panic ch/\Pan ch/\a.defers=F.ds/\Good F.w0 F.K0 F.D0 F.H0 (.bool jB) w .undef H'
theorem F0A(σ:List Nat)(hH:F.H0=H0)(hl:σ.length=H'.length)(hg:σ.map (λi=>H[i]?)=H'.map λen=>vA<|Ent.rn (a0Y σ) en)(hnd:σ.Nodup)(hr:H'.all (Ent.refs H'.length)=jB)(hk:σ.take H0.length=jC H0.length)(hle:yC H0.length H'.length=jB)(hv:v1=SV.rn (a0Y σ) v)(hvr:SV.refs H'.length v=jB):
    Back F.H0.length H (a0Y σ) v1 v H':=by
  refine⟨Sel.of σ hl hg hnd hr,λj hj=> ?_,by rw[hH];exact ag hle,hv,hvr⟩;rw[hH]at hj;have:=congrArg (λl=>l[j]?) hk;simp only[aM,vB hj,bw hj]at this;unfold a0Y;rw[am,this];rfl
theorem K.panV(σ:List Nat)(hH:F.H0=H0)(hdom: ∀i,F.H0.length<=i->F.D0 i=none)
    (hl:σ.length=H'.length) (hg:σ.map (λi=>H[i]?)=H'.map λen=>vA<|Ent.rn (a0Y σ) en) (hnd:σ.Nodup) (hr:H'.all (Ent.refs H'.length)=jB) (hk:σ.take H0.length=jC H0.length) (hle:yC H0.length H'.length=jB):
    PP F (L0i F H') L H:=λch a w hp hs=>by
  obtain⟨hd,K,D,hi⟩:=hs;exact⟨ch,rfl,hp,hd,j0k hi.grow hi.hinv (.undef _) (F0A σ hH hl hg hnd hr hk hle rfl rfl) hdom⟩
theorem q0W{N:Nat}{K:Nat->Nat}(hlen:vals.length=args.length)(hrep: ∀(j:Nat) (x:Value) (c:SV),vals[j]?=vA x->args[j]?=vA c->Rep w K D x c)
    (hi:HInv w K D H) (hG:m0p w K D) (hn:args.length<=N):Sees ⟨N,w,K,D,H,[]⟩ (e0M 0 args) H { tmps:=vals.toArray++yD (N-vals.toArray.size) undef,defers:=[] } w:=by
  have hslots:Slots N w K D (a0p<|e0M 0 args) (vals.toArray++yD (N-vals.toArray.size) undef):=by
    refine⟨dD,λi hin=> ?_,hG⟩;show Rep w K D _ (lk (e0M 0 args) i);rw[l0N,vB<|bo _,bJ];by_cases hia:i<args.length;have hiv:i<vals.length:=by omega
    rw[af hia,bu]
    have hg:(vals.toArray++yD (N-vals.toArray.size) undef).getD i undef=vals[i]:=by
      rw[ba,bW<|by simpa using hiv];simp[hiv]
    rw[hg];exact hrep i _ _ (af hiv)<|af hia;rw[aC dA];exact .undef _
  exact⟨rfl,K,D,⟨hslots,hi,Grow.refl _ _ _ _⟩⟩
theorem K.fnP{fn:Func}(hf:P.funcs[f]?=vA fn)(hb:fn.body.isSome=jB)(hcal:b0o P f=jB)(hin:b0n fn.ntmps (e0y fn)=jB)
 {H:a0e} (hn:yC args.length fn.ntmps=jB)
    (h: ∀F:Fr,F.n=fn.ntmps->F.H0=H->(∀i,F.H0.length<=i->F.D0 i=none)->J F P (e0y fn) (e0M 0 args) H (L0i F H')):SP P f args H H':=by
  unfold e0y at*
  cases hbb:fn.body with
  |none=>rw[hbb]at hb;cases hb
  |some c=>
    rw[hbb]at hin h;refine⟨hcal,λw K D vals hlen hrep hi hG=> ?_⟩;refine calls_of_wp hf hbb<|zJ (λe a' w' hq=> ?_)<|h ⟨fn.ntmps,w,K,D,H,[]⟩ rfl rfl hi.dom hin _ w<|q0W hlen hrep hi hG<|ag hn;obtain⟨ch,rfl,hp,hd,hg⟩:=hq;exact⟨hd,ch,rfl,hp,hg⟩
theorem RJ.callP(σ:List Nat)(h:h0P none ops p [] L []=vA (d,f,args,[]))(ha:args=SV.rnL (a0Y σ) args0)(hl:σ.length=H0.length)(hg:σ.map (λi=>H[i]?)=H0.map λen=>vA<|Ent.rn (a0Y σ) en)(hn:σ.Nodup)(hr0:H0.all (Ent.refs H0.length)=jB)
    (hlive:H0.all h0e=jB) (hr:SV.refsL H0.length args0=jB) (hle:LeL args0 args') (hs:SP P f args' H0 H0') (hle':yC H0.length H0'.length=jB)
    (hH:d0y (a0Y σ) H0.length H H0'=H2) (k:PP F Q L H2):RJ F P none ops p [] L H Q:=by
  obtain⟨o,ho,hgd,hc,hdd,_,hk⟩:=e0h h;subst hH;intro hin a w hst;have hbo:Oper.inB F.n ops o=true:=List.all_eq_true.1 hin o<|o0S ho;obtain⟨hd,K,D,hi⟩:=hst;rw[e0g ho];refine wpList_step λKK hKK=> ?_
  rw[b0x hi.slots (Oper.inB_guard hbo) hgd,vB rfl];have hfr:=SP.frame (SP.weak hs hle) (Sel.of σ hl hg hn hr0) (λen hm=>List.all_eq_true.1 hlive en hm) hr<|ag hle';rw[<-ha]at hfr;obtain⟨vals,hrun,hvl,hvr⟩:=r0R (P:=P) hi.slots (Oper.inB_op hbo) hc;unfold Oper.wp;rw[hrun hfr.1];refine(hfr.2 w K D vals hvl hvr hi.hinv hi.slots.glob).mono ?_;rintro e w' ⟨ch,rfl,hp,K',D',gr,hi',_⟩;exact k _ _ _ hp ⟨hd,K',D',⟨hi.slots.mono λ_ _=>gr.rep,hi',hi.grow.trans gr⟩⟩
end
/-! Calls that are put off. -/
def uOk(pan:Bool)(u:FrameMode):Prop:=match pan with|true=> ∃ch,Pan ch/\u= .panicking ch|false=>u= .returning
def SD(P:Program)(f:FuncId)(pan:Bool)(args:List SV)(H H':a0e):Prop:=
  b0o P f=jB/\ ∀(w:World) (K:Nat->Nat) (D:DM) (vals:List Value) (u:FrameMode),vals.length=args.length->(∀(j:Nat) (x:Value) (c:SV),vals[j]?=vA x->args[j]?=vA c->Rep w K D x c)->HInv w K D H->m0p w K D->
    uOk pan u->
    CallsD P f vals.toArray u w λe u' w'=> ∃r,e= .returned r/\settle u'= .returning/\Good w K D H r w' (.tup []) H'
theorem SD.frame{P:Program}{fid:FuncId}{pan:Bool}(h:SD P fid pan args0 H0 H0'){H:a0e}{f:Nat->Nat}(hs:Sel H f H0)
    (hlive: ∀en∈H0,h0e en=jB) (ha:SV.refsL H0.length args0=jB) (hl:H0.length<=H0'.length):SD P fid pan (SV.rnL f args0) H (d0y f H0.length H H0'):=by
  refine⟨h.1,λw K D vals u hlen hr hi hG hu=> ?_⟩;refine(h.2 w K (m0q D f H0.length) vals u (by rw[hlen,b0O]) (λj x c hx hc=>h0q (hr j x (SV.rn f c) hx<|by rw[f0y,hc];rfl) c rfl<|e0V ha j c hc) (hs.hinv hi) (j0t hG) hu).mono ?_;rintro e u' w' ⟨r,he,hst,hg⟩;exact⟨r,he,hst,hg.frame hs hi hlive hl⟩
section
variable {F : Fr}{P : Program}{c : Code}{L : LE}{H : a0e}{Q : g0c}{ops : Array Oper}{p : Nat}
def H0R(P:Program)(F:Fr)(f:FuncId)(args:List SV)(d:Deferred):Prop:=
  ∃fv caps vals,d.target= .fn fv caps/\(b0o P f=jB-> ∀w,(invoke d.target d.args).run P w= .ok (.enter f<|List.toArray vals) w)/\vals.length=args.length/\ ∀(j:Nat) (x:Value) (c:SV),vals[j]?=vA x->args[j]?=vA c->Rep F.w0 F.K0 F.D0 x c
def H0F(ops:Array Oper)(p:Nat)(L:LE):Option (FuncId×List SV):=match ops.toList[p]? with
  |some o=>match o.op,o.guard,o.dst with
    | .defer c,none,none=>match c.callee with
      | .value f=>match a0B (a0p L) f,c.args.toList with
        |some (.fn (.func f) first captured),[]=>vA (f,first++captured)
        |_,_=>none
      |_=>none
    |_,_,_=>none
  |none=>none
theorem RJ.defer(h:H0F ops p L=vA (f,args))(hds:F.ds=[])
    (k: ∀(w:World) (K:Nat->Nat) (D:DM) (d:Deferred),H0R P ⟨F.n,w,K,D,H,[d]⟩ f args d->Grow F.w0 F.K0 F.D0 F.H0 w K D H->(∀i,H.length<=i->D i=none)->RJ ⟨F.n,w,K,D,H,[d]⟩ P none ops (p+1) [] L H Q):RJ F P none ops p [] L H Q:=by
  intro hin a w hs;unfold H0F at h;split at h;rename_i o ho;split at h;rename_i c e1 e2 e3;split at h;rename_i fo hcal;split at h;rename_i f' first captured hfe hargs;cases h;have hbo:Oper.inB F.n ops o=true:=List.all_eq_true.1 hin o<|o0S ho;obtain⟨hd,K,D,hi⟩:=hs;rw[e0g ho];refine wpList_step λKK hKK=> ?_
  rw[vB<|by unfold wG;rw[e2]];have hb:=Oper.inB_op hbo;unfold Op.inB at hb;rw[aT]at hb;have hfr:=a0i hi.slots (hb fo<|by simp[e1,wB,Call.operands,hcal]) hfe;generalize hfv:a.eval fo=fv at hfr
  cases hfr with
  |fn _ fs caps _ _ hc1 hc2 hr1 hr2=>
    have ha0:c.args= #[]:=by rw[<-bh];exact hargs
    have hrun:(execOp a.eval o).run P w= .ok (.defer { target:= .fn (.func f) caps.toArray,args:=fs.toArray }) w:=by
      unfold execOp;simp[e1,resolve,hcal,hfv,Deferred.ofValue,ha0]
    unfold Oper.wp;rw[hrun];refine hKK _ _ ?_;refine k w K D { target:= .fn (.func f) caps.toArray,args:=fs.toArray } ?_ hi.grow hi.hinv.dom hin _ w ?_;refine⟨_,_,fs++caps,rfl,λhcb w'=> ?_,by simp[hc1,hc2],λj x y hx hy=> ?_⟩;have:=w0X (P:=P) (w:=w') (o:= { o with op:= .call { callee:= .value fo,args:= #[],argTypes:= #[] } }) (a:=a) rfl rfl hfv hcb;unfold execOp at this;simp only[resolve,hfv,Deferred.ofValue,zD,vE,vC]at this;simpa using this;rw[aP]at hx hy;rw[hc1]at hy;split at hx;rename_i hj;rw[vB hj]at hy;exact hr1 j x y hx hy;rename_i hj;rw[yB hj]at hy;exact hr2 _ x y hx hy;refine⟨?_,K,D, ?_⟩;rw[a0L,hd,hds];rw[e3];exact⟨hi.slots,hi.hinv,Grow.refl _ _ _ _⟩
  cases h;cases h;cases h;cases h
def B0r(P:Program)(fn:Func)(F:Fr)(v:SV)(H':a0e):g0c:=λe a w=> ∃u,(match e with| .normal=>u=FrameMode.returning| .ret=>u= .returning| .panic ch=>u= .panicking ch|_=>False)/\
  Leaves P fn a.tmps (λe' w'=> ∃r,e'= .returned r/\Good F.w0 F.K0 F.D0 F.H0 r w' v H') a.defers u w
theorem K.fnD{fn:Func}(hf:P.funcs[f]?=vA fn)(hb:fn.body.isSome=jB)(hcal:b0o P f=jB)(hin:b0n fn.ntmps (e0y fn)=jB)
 {H:a0e} (hn:yC args.length fn.ntmps=jB)
    (h: ∀F:Fr,F.n=fn.ntmps->F.H0=H->(∀i,F.H0.length<=i->F.D0 i=none)->F.ds=[]->J F P (e0y fn) (e0M 0 args) H (B0r P fn F v H')):SC P f args H v H':=by
  unfold e0y at*
  cases hbb:fn.body with
  |none=>rw[hbb]at hb;cases hb
  |some c=>
    rw[hbb]at hin h;refine⟨hcal,λw K D vals hlen hrep hi hG=> ?_⟩;refine calls_of_wp_defers hf hbb<|zJ (λe a' w' hq=> ?_)<|h ⟨fn.ntmps,w,K,D,H,[]⟩ rfl rfl hi.dom rfl hin _ w<|q0W hlen hrep hi hG<|ag hn;obtain⟨u,hu,hl⟩:=hq;cases e<;>simp only at hu<;>first|exact hu.elim|(subst hu;exact hl)
theorem D0B{fn:Func}{pan:Bool}{d:Deferred}{u:FrameMode}(σ τ:List Nat)(hok:H0R P F1 f args d)(hgr:Grow F.w0 F.K0 F.D0 F.H0 F1.w0 F1.K0 F1.D0 F1.H0)(hds:F1.ds=[d])(hn:F1.n=fn.ntmps)
    (hsd:SD P f pan args0 H0 H0') (ha:args=SV.rnL (a0Y σ) args0) (hl:σ.length=H0.length) (hg:σ.map (λi=>H[i]?)=H0.map λen=>vA<|Ent.rn (a0Y σ) en) (hnd:σ.Nodup) (hr0:H0.all (Ent.refs H0.length)=jB)
    (hlive:H0.all h0e=jB) (hr:SV.refsL H0.length args0=jB) (hle':yC H0.length H0'.length=jB) (hH:d0y (a0Y σ) H0.length H H0'=H2)
    (hin:j0R fn.ntmps fn.results.toList=jB) (hret:u0z P fn.results.toList L H2=vA v1) (hF:F.H0=H1) (hdom: ∀i,F.H0.length<=i->F.D0 i=none)
    (hl':τ.length=H'.length) (hg':τ.map (λi=>H2[i]?)=H'.map λen=>vA<|Ent.rn (a0Y τ) en) (hnd':τ.Nodup) (hr':H'.all (Ent.refs H'.length)=jB) (hk':τ.take H1.length=jC H1.length) (hle2:yC H1.length H'.length=jB) (hv:v1=SV.rn (a0Y τ) v) (hvr:SV.refs H'.length v=jB) (hle3:Le v v2)
    (hu:uOk pan u) (hs:Sees F1 L H a w):
    Leaves P fn a.tmps (λe' w'=> ∃r,e'= .returned r/\Good F.w0 F.K0 F.D0 F.H0 r w' v2 H') a.defers u w:=by
  obtain⟨hd,K,D,hi⟩:=hs;rw[hd,hds];obtain⟨fv,caps,vals,ht,hinv,hvl,hvr'⟩:=hok;have hfr:=SD.frame hsd (Sel.of σ hl hg hnd hr0) (λen hm=>List.all_eq_true.1 hlive en hm) hr<|ag hle';rw[<-ha,hH]at hfr;refine⟨?_,fv,caps,f,vals.toArray,ht,hinv hfr.1 w, ?_⟩
  cases pan with
  |true=>obtain⟨ch,_,rfl⟩:=hu;exact λe=>nomatch e
  |false=>obtain rfl:u= .returning:=hu;exact λe=>nomatch e
  refine(hfr.2 w K D vals u hvl (λj x y hx hy=>hi.grow.rep<|hvr' j x y hx hy) hi.hinv hi.slots.glob hu).mono ?_;rintro e u' w' ⟨r,rfl,hst,K',D',gr,hi',_⟩;simp only;rw[hst]
  have hi2:Inv F1 w' K' D' H2 (a0p L) a.tmps:=⟨hi.slots.mono λ_ _=>gr.rep,hi',hi.grow.trans gr⟩
  obtain⟨r2,h1,h2⟩:=t0i (P:=P) (fn:=fn) hi2 (by rw[hn];exact hin) hret;exact⟨r2,h1,r2,rfl,(j0k (hgr.trans<|hi.grow.trans gr) hi' h2 (F0A τ hF hl' hg' hnd' hr' hk' hle2 hv hvr) hdom).le hle3⟩
theorem PJ.retD{fn:Func}{d:Deferred}(σ τ:List Nat)(hok:H0R P F1 f args d)(hgr:Grow F.w0 F.K0 F.D0 F.H0 F1.w0 F1.K0 F1.D0 F1.H0)(hds:F1.ds=[d])(hn:F1.n=fn.ntmps)
    (hsd:SD P f oA args0 H0 H0') (ha:args=SV.rnL (a0Y σ) args0) (hl:σ.length=H0.length) (hg:σ.map (λi=>H[i]?)=H0.map λen=>vA<|Ent.rn (a0Y σ) en) (hnd:σ.Nodup) (hr0:H0.all (Ent.refs H0.length)=jB)
    (hlive:H0.all h0e=jB) (hr:SV.refsL H0.length args0=jB) (hle':yC H0.length H0'.length=jB) (hH:d0y (a0Y σ) H0.length H H0'=H2)
    (hin:j0R fn.ntmps fn.results.toList=jB) (hret:u0z P fn.results.toList L H2=vA v1) (hF:F.H0=H1) (hdom: ∀i,F.H0.length<=i->F.D0 i=none)
    (hl':τ.length=H'.length) (hg':τ.map (λi=>H2[i]?)=H'.map λen=>vA<|Ent.rn (a0Y τ) en) (hnd':τ.Nodup) (hr':H'.all (Ent.refs H'.length)=jB) (hk':τ.take H1.length=jC H1.length) (hle2:yC H1.length H'.length=jB) (hv:v1=SV.rn (a0Y τ) v) (hvr:SV.refs H'.length v=jB) (hle3:Le v v2):
    PJ F1 (B0r P fn F v2 H') .ret L H:=λa w hs=>⟨.returning,rfl,D0B σ τ hok hgr hds hn hsd ha hl hg hnd hr0 hlive hr hle' hH hin hret hF hdom hl' hg' hnd' hr' hk' hle2 hv hvr hle3 rfl hs⟩
theorem PP.retD{fn:Func}{d:Deferred}(σ τ:List Nat)(hok:H0R P F1 f args d)(hgr:Grow F.w0 F.K0 F.D0 F.H0 F1.w0 F1.K0 F1.D0 F1.H0)(hds:F1.ds=[d])(hn:F1.n=fn.ntmps)
    (hsd:SD P f jB args0 H0 H0') (ha:args=SV.rnL (a0Y σ) args0) (hl:σ.length=H0.length) (hg:σ.map (λi=>H[i]?)=H0.map λen=>vA<|Ent.rn (a0Y σ) en) (hnd:σ.Nodup) (hr0:H0.all (Ent.refs H0.length)=jB)
    (hlive:H0.all h0e=jB) (hr:SV.refsL H0.length args0=jB) (hle':yC H0.length H0'.length=jB) (hH:d0y (a0Y σ) H0.length H H0'=H2)
    (hin:j0R fn.ntmps fn.results.toList=jB) (hret:u0z P fn.results.toList L H2=vA v1) (hF:F.H0=H1) (hdom: ∀i,F.H0.length<=i->F.D0 i=none)
    (hl':τ.length=H'.length) (hg':τ.map (λi=>H2[i]?)=H'.map λen=>vA<|Ent.rn (a0Y τ) en) (hnd':τ.Nodup) (hr':H'.all (Ent.refs H'.length)=jB) (hk':τ.take H1.length=jC H1.length) (hle2:yC H1.length H'.length=jB) (hv:v1=SV.rn (a0Y τ) v) (hvr:SV.refs H'.length v=jB) (hle3:Le v v2):
    PP F1 (B0r P fn F v2 H') L H:=λch a w hp hs=>⟨.panicking ch,rfl,D0B σ τ hok hgr hds hn hsd ha hl hg hnd hr0 hlive hr hle' hH hin hret hF hdom hl' hg' hnd' hr' hk' hle2 hv hvr hle3 ⟨ch,hp,rfl⟩ hs⟩
def D0E(P:Program)(c:Code)(t4 t5:Nat):Bool:=s0k c&&(o0x oA (cl c)&&(match(h0I<|cl c).toList with
  | [o,o']=>match o.op,o.dst,o.guard,o'.op,o'.dst,o'.guard with
    | .call cc,vA d,none, .binOp .neq t (.tmp d') (.const .nilIface) _,vA d2,none=>match cc.callee,P.underlying t with
      | .builtin .recover,vA (.interface _)=>oB d t4&&(oB d' t4&&oB d2 t5)
      |_,_=>oA
    |_,_,_,_,_,_=>oA
  |_=>oA))
theorem K.fnC{fn:Func}(pan:Bool)(t4 t5:Nat)(hf:P.funcs[f]?=vA fn)(hb:fn.body.isSome=jB)(hcal:b0o P f=jB)(hin:b0n fn.ntmps (e0y fn)=jB)
 {H:a0e} (hn:yC args.length fn.ntmps=jB) (hrec:D0E P (e0y fn) t4 t5=jB) (ht:(oD t4 fn.ntmps&&oD t5 fn.ntmps)=jB)
    (h: ∀F:Fr,F.n=fn.ntmps->F.H0=H->(∀i,F.H0.length<=i->F.D0 i=none)->J F P (cr<|e0y fn) ((t5, .bool pan)::(t4, .undef)::e0M 0 args) H (u0e P fn F (.tup []) H')):SD P f pan args H H':=by
  unfold e0y at*
  cases hbb:fn.body with
  |none=>rw[hbb]at hb;cases hb
  |some c=>
    rw[hbb]at hin h hrec;simp only[bu]at hin h hrec;refine⟨hcal,λw K D vals u hlen hrep hi hG hu=> ?_⟩;refine callsD_of_wpS hf hbb λc₀ cs hcu=> ?_;unfold D0E at hrec;simp only[aa]at hrec;obtain⟨hsq,hrg,hops⟩:=hrec;have hc:=A0a hsq;have hst:=q0W (N:=fn.ntmps) hlen hrep hi hG<|ag hn;generalize hcl:cl c=cl0 at*;cases cl0<;>first|cases hrg|skip
    rename_i ri ops dd
    cases dd with
    |true=>cases hrg
    |false=>
    simp only[h0I]at hops;split at hops;rename_i o o' hol;have hops2:ops= #[o,o']:=by rw[<-bh];exact hol
    split at hops;rename_i cc d t d' ty d2 e1 e2 e3 e4 e5 e6;split at hops;rename_i ms g1 g2;simp only[aa]at hops;obtain⟨q1,q2,q3⟩:=hops;obtain rfl:=ae q1;obtain rfl:=ae q2;obtain rfl:=ae q3;simp only[aa]at ht;have ht1:d'<fn.ntmps:=ag ht.1;have ht2:d2<fn.ntmps:=ag ht.2;rw[hc];refine wpS_seq (wpS_region ?_)
    have hr1: ∀ρ w,(execOp ρ o).run P w= .ok .recover w:=fun ρ w=>by
      unfold execOp;simp[e1,resolve,g1,invoke,builtin]
    have hw: ∀(x:Oper),x.guard=none-> ∀y,wG x y=true:=λx hx y=>by unfold wG;rw[hx]
    have h0:ops[0]?=vA o:=by rw[hops2];rfl
    have h1:ops[1]?=vA o':=by rw[hops2];rfl
    have hsz:ops.size=2:=by rw[hops2];rfl
    rw[hsz,show jC 2=[0,1]from rfl];simp only[wpOpsS,h0,h1,hw o e3,hw o' e6,if_true,hr1]
    have hJ:=h ⟨fn.ntmps,w,K,D,H,[]⟩ rfl rfl hi.dom (by
      rw[hc]at hin;simp only[b0n,aa]at hin
      exact hin.2)
    have hsz2:d'<({ tmps:=vals.toArray++yD (fn.ntmps-vals.toArray.size) undef,defers:=[] } :Act).tmps.size:=by
      obtain⟨_,K1,D1,hI⟩:=hst;rw[hI.slots.size];exact ht1
    have step: ∀v,(∀w,(binOp .neq t v .nilIface).run P w= .ok (.bool pan) w)->(∀w,(eqGuard .neq t (.tmp d') (.const .nilIface) v .nilIface).run P w= .ok () w)->
        (execOp (({ tmps:=vals.toArray++yD (fn.ntmps-vals.toArray.size) undef,defers:=[] } :Act).put o.dst v).eval o').run P w= .ok (.value<|.bool pan) w:=by
      intro v hbin hgd
      have hev:(({ tmps:=vals.toArray++yD (fn.ntmps-vals.toArray.size) undef,defers:=[] } :Act).put o.dst v).eval (.tmp d')=v:=by
        rw[e2];simp only[Act.put,Act.eval,ba,Array.getElem?_setIfInBounds,vB hsz2];simp
      unfold execOp;simp only[e4,hev];rw[show(({ tmps:=vals.toArray++yD (fn.ntmps-vals.toArray.size) undef,defers:=[] } :Act).put o.dst v).eval (.const .nilIface)= .nilIface from rfl];simp[hbin w,hgd w]
    have fin: ∀(v:Value) (cs':List Frame) (u':FrameMode),cs'= { c₀ with mode:=u' } ::cs->settle u'= .returning->(cr c).wpS P (bodyPostS P fn c₀ cs λe u' w'=> ∃r,e= .returned r/\settle u'= .returning/\Good w K D H r w' (.tup []) H') ((({ tmps:=vals.toArray++yD (fn.ntmps-vals.toArray.size) undef,defers:=[] } :Act).put o.dst v).put o'.dst<|.bool pan) cs' w:=by
      intro v cs' u' hcs hset;refine wpS_of_wp<|zJ (λe a' w' hq=> ?_)<|hJ _ w ?_;obtain⟨he,hd,r,hr,hg⟩:=hq;rcases he with rfl|rfl;exact⟨hd,u',hcs,r,hr,r,rfl,hset,hg⟩;exact⟨hd,u',hcs,r,hr,r,rfl,hset,hg⟩;obtain⟨hd,K1,D1,hI⟩:=hst;refine⟨by rw[a0L,a0L],K1,D1,⟨?_,hI.hinv,hI.grow⟩⟩;have:=(hI.slots.put o.dst<|.undef v).put o'.dst<|.bool pan;rw[e2,e5,b0b,b0b]at this;rw[e2,e5];exact this
    cases pan with
    |false=>
      obtain rfl:u= .returning:=hu;have hrd:recoverD (c₀::cs)=none:=by simp only[recoverD,hcu]
      rw[hrd]
      have hs2:=step .nilIface (λw=>by
        have h9: ∀d:Nat,(vI (d+1) t .nilIface .nilIface).run P w= .ok jB w:=λd=>by simp[vI,run_underlying g2]
        simp only[binOp]
        simp[Op.equal,Op.maxDepth,h9 9999]) (λw=>by simp[eqGuard])
      simp only[hs2];exact fin .nilIface (c₀::cs) .returning (by rw[<-hcu]) rfl
    |true=>
      obtain⟨ch,⟨tv,vv,rfl⟩,rfl⟩:=hu;have hrd:recoverD (c₀::cs)=vA (.iface tv vv, { c₀ with mode:= .panicking [{ v:= .iface tv vv,recovered:=jB }] } ::cs):=by simp only[recoverD,hcu]
      rw[hrd]
      have hs2:=step (.iface tv vv) (λw=>by
        have h9: ∀d:Nat,(vI (d+1) t (.iface tv vv) .nilIface).run P w= .ok oA w:=λd=>by simp[vI,run_underlying g2]
        simp only[binOp]
        simp[Op.equal,Op.maxDepth,h9 9999]) (λw=>by simp[eqGuard])
      simp only[hs2];exact fin (.iface tv vv) _ _ rfl rfl
    cases hops;cases hops;cases hops
end
section
variable {F : Fr}{P : Program}{L : LE}{H : a0e}{Q : g0c}{ops : Array Oper}{p : Nat}{tr : List (List Nat × List Nat)}
theorem A0H{e1 e2:Eff}(h:e1.wr.map yE=e2.wr.map yE):g0D ops base i o e1=g0D ops base i o e2:=by
  have h1: ∀e:Eff,e.wr.map (λx=>2*x.1)=(e.wr.map yE).map (λx=>2*x):=λe=>by rw[ci];rfl
  have h2: ∀e:Eff,(e.wr.flatMap λx=>F0V x.1)=(e.wr.map yE).flatMap F0V:=λe=>by rw[List.flatMap_map]
  unfold g0D;rw[h1,h1,h2,h2,h]
theorem RJ.callWr(σ:List Nat)(h:h0P (vA base) ops p tr L σ (σ.map λi=>(i,Ent.gone))=vA (d,f,args,tr2))(ha:args=SV.rnL (a0Y σ) args0)
    (hl:σ.length=H0.length) (hg:σ.map (λi=>H[i]?)=H0.map λen=>vA<|Ent.rn (a0Y σ) en) (hn:σ.Nodup) (hr0:H0.all (Ent.refs H0.length)=jB)
    (hlive:H0.all h0e=jB) (hr:SV.refsL H0.length args0=jB) (hle:LeL args0 args') (hs:SC P f args' H0 v0 H0') (hlen:oB H0'.length H0.length=jB) (hr2:H0'.all (Ent.refs H0.length)=jB) (hv0:SV.refs H0.length v0=jB)
    (hv:SV.rn (a0Y σ) v0=v) (hH:a0G H (o0W (a0Y σ) H0.length H0')=H2) (k:RJ F P (vA base) ops (p+1) tr2 (g0g L d v) H2 Q):RJ F P (vA base) ops p tr L H Q:=by
  obtain⟨o,ho,hgd,hc,rfl,rfl,hk⟩:=e0h h;subst hv;subst hH
  have hσ:(jC H0.length).map (a0Y σ)=σ:=by
    apply bC;intro i;rw[ar];by_cases hi:i<H0.length;rw[bw hi];simp only[aZ,a0Y,am];rw[af dA];rfl;rw[aC<|by simpa using hi,aC dA];rfl
  have hfst:(o0W (a0Y σ) H0.length H0').map yE=(σ.map λi=>(i,Ent.gone)).map yE:=by
    unfold o0W;rw[ci,ci];have e1:(yE∘λj=>(a0Y σ j,Ent.rn (a0Y σ)<|H0'.getD j .gone))=a0Y σ:=rfl;have e2:(yE∘λi:Nat=>(i,Ent.gone))=id:=rfl;rw[e1,e2,hσ,List.map_id]
  have hfw: ∀i,g0D ops base i o ⟨SV.rn (a0Y σ) v0,(jC H0.length).map<|a0Y σ,o0W (a0Y σ) H0.length H0'⟩=g0D ops base i o ⟨.undef,σ,σ.map λi=>(i,Ent.gone)⟩:=λi=>A0H hfst
  have hrd:h0J o ⟨SV.rn (a0Y σ) v0,(jC H0.length).map<|a0Y σ,o0W (a0Y σ) H0.length H0'⟩=h0J o ⟨.undef,σ,σ.map λi=>(i,Ent.gone)⟩:=by
    unfold h0J;simp only[hσ]
  intro hlp;rw[e0g ho];subst hlp;refine⟨⟨SV.rn (a0Y σ) v0,(jC H0.length).map<|a0Y σ,o0W (a0Y σ) H0.length H0'⟩, ?_, ?_, ?_⟩;unfold opD;rw[hgd];simp only;rw[q0A hc,vB rfl];exact .inr<|.inr<|.inl ⟨f,args,a0Y σ,args0,H0,v0,H0',hc,ha,Sel.of σ hl hg hn hr0,λen hm=>List.all_eq_true.1 hlive en hm,hr,hv0,SC.weak hs hle,ae hlen,λj en hj=>List.all_eq_true.1 hr2 en<|aJ hj,rfl⟩;rw[hfw,hrd];exact hk base rfl;have:=k (by simp[trM]);rw[b0b,hfw,hrd];exact this
end
variable [Inhabited GT]
def m0x:List Bool->List SV->List SV
  |true::ms,_::cs=> .undef::m0x ms cs
  |false::ms,c::cs=>c::m0x ms cs
  |_,cs=>cs
def n0m: ∀(ms:List Bool) (cs:List SV),(m0x ms cs).length=cs.length
  | [],cs=>by simp[m0x]
  |true::ms,[]=>by simp[m0x]
  |false::ms,[]=>by simp[m0x]
  |true::ms,c::cs=>by simp[m0x,n0m ms cs]
  |false::ms,c::cs=>by simp[m0x,n0m ms cs]
def t0v: ∀(ms:List Bool) (cs:List SV) (j:Nat) (c:SV),(m0x ms cs)[j]?=vA c->cs[j]?=vA c\/(c= .undef/\j<cs.length)
  | [],cs,j,c,h=> .inl (by simpa [m0x]using h)
  |true::ms,[],j,c,h=>by simp[m0x]at h
  |false::ms,[],j,c,h=>by simp[m0x]at h
  |true::ms,x::cs,0,c,h=>by simp[m0x]at h;exact .inr ⟨h.symm,dE⟩
  |false::ms,x::cs,0,c,h=> .inl (by simpa [m0x]using h)
  |true::ms,x::cs,j+1,c,h=>by
    rcases t0v ms cs j c (by simpa [m0x]using h)with h1|⟨h1,h2⟩;exact .inl (by simpa using h1);exact .inr ⟨h1,by simpa using h2⟩
  |false::ms,x::cs,j+1,c,h=>by
    rcases t0v ms cs j c (by simpa [m0x]using h)with h1|⟨h1,h2⟩;exact .inl (by simpa using h1);exact .inr ⟨h1,by simpa using h2⟩
theorem Wk.boxW{L:LE}{H:a0e}(i:Nat){cs':List SV}(hi:H[i]?=vA (.box cs))(hlen:cs'.length=cs.length)(hw: ∀(q:Nat) (c':SV),cs'[q]?=vA c'-> ∃c,cs[q]?=vA c/\Le c c'):Wk F L H L (H.set i<|.box cs'):=by
  rintro a w ⟨hd,K,D,hv⟩;have hil:i<H.length:=(ab.1 hi).1
  have hget: ∀(j:Nat) (en:Ent),(H.set i<|.box cs')[j]?=vA en->(j=i/\en= .box cs')\/(j≠i/\H[j]?=vA en):=by
    intro j en hj;rw[aR]at hj;by_cases hji:i=j;subst hji;rw[vB rfl,vB hil]at hj;cases hj;exact .inl ⟨rfl,rfl⟩;rw[yB hji]at hj;exact .inr ⟨Ne.symm hji,hj⟩
  have hold: ∀(j:Nat) (en:Ent),(H.set i<|.box cs')[j]?=vA en->h0e en=jB-> ∃en':Ent,H[j]?=vA en'/\h0e en'=true:=by
    intro j en hj hl;rcases hget j en hj with⟨rfl,rfl⟩|⟨_,h⟩;exact⟨_,hi,rfl⟩;exact⟨_,h,hl⟩
  have g:=hv.grow
  refine⟨hd,K,D,⟨hv.slots,⟨λj hj=>hv.hinv.dom j<|by simpa using hj,λj en hj=> ?_,λj j' en en' b c n c' n' hj hj' hl hl' hdj hdj'=> ?_,hv.hinv.kw⟩,
    ⟨g.os,g.tape,g.output,g.size,g.block,g.cells,g.le,g.kk,g.dd,λb hm=> ?_⟩⟩⟩
  rcases hget j en hj with⟨rfl,rfl⟩|⟨_,h⟩;obtain⟨b,vs,e,h1,h2,h3,h4⟩:=hv.hinv.ent j _ hi;refine⟨b,vs,e,h1,h2,h3,⟨hlen.trans h4.len,h4.one,λq v c hq hc=> ?_⟩⟩;obtain⟨c0,h5,h6⟩:=hw q c hc;exact h6 _ _ _ _<|h4.rep q v c0 hq h5;exact hv.hinv.ent j en h;obtain⟨e1,p1,p2⟩:=hold j en hj hl;obtain⟨e2,q1,q2⟩:=hold j' en' hj' hl';exact hv.hinv.inj j j' e1 e2 b c n c' n' p1 q1 p2 q2 hdj hdj';obtain⟨j,en,c,n,h1,h2,h3⟩:=hm;obtain⟨e1,p1,p2⟩:=hold j en h1 h2;exact g.new b ⟨j,e1,c,n,p1,p2,h3⟩
theorem Wk.undefs{L:LE}{H:a0e}(i:Nat)(ms:List Bool)(hi:H[i]?=vA (.box cs)):Wk F L H L (H.set i<|.box<|m0x ms cs):=
  Wk.boxW i hi (n0m _ _) (λq c hc=>by
    rcases t0v ms cs q c hc with h|⟨h,hl⟩;exact⟨c,h,Le.refl _⟩
    subst h;exact⟨cs[q],af hl,Le.undef _⟩)
theorem Wk.leBox{L:LE}{H:a0e}(i off:Nat){v':SV}(hi:H[i]?=vA (.box cs))(ho:cs[off]?=vA v)(hle:Le v v'):Wk F L H L (H.set i<|.box<|cs.set off v'):=
  Wk.boxW i hi dE (λq c hc=>by
    rw[aR]at hc;by_cases h:off=q;subst h;rw[vB rfl,vB (ab.1 ho).1]at hc;cases hc;exact⟨v,ho,hle⟩;rw[yB h]at hc
    exact⟨c,hc,Le.refl _⟩)
variable [Inhabited GT]
section
variable {F : Fr}{P : Program}{L : LE}{H : a0e}{Q : g0c}{ops : Array Oper}{p : Nat}{tr : List (List Nat × List Nat)}
theorem RJ.callX(idx:Nat)(σ:List Nat)(hidx:f0G ops base p=idx)(hres:q0z (H[idx]?)=jB)
    (h:h0P (vA base) ops p tr L σ ((σ++ [idx]).map λi=>(i,Ent.gone))=vA (d,f,args,tr2)) (ha:args=SV.rnL (a0Y σ) args0)
    (hl:σ.length=H0.length) (hg:σ.map (λi=>H[i]?)=H0.map λen=>vA<|Ent.rn (a0Y σ) en) (hn:σ.Nodup) (hr0:H0.all (Ent.refs H0.length)=jB)
    (hlive:H0.all h0e=jB) (hr:SV.refsL H0.length args0=jB) (hle:LeL args0 args') (hs:SC P f args' H0 v0 H0') (hlen:oB H0'.length (H0.length+1)=jB)
    (hv:SV.rn (pOf (a0Y σ) H0.length idx) v0=v) (hH:a0G H (o0W (pOf (a0Y σ) H0.length idx) (H0.length+1) H0')=H2) (k:RJ F P (vA base) ops (p+1) tr2 (g0g L d v) H2 Q):RJ F P (vA base) ops p tr L H Q:=by
  obtain⟨o,ho,hgd,hc,rfl,rfl,hk⟩:=e0h h;subst hv;subst hH;subst hidx
  have hres':H[f0G ops base p]?=vA .res:=by
    unfold q0z at hres;split at hres
    assumption
    cases hres
  have hσ:(jC H0.length).map (a0Y σ)=σ:=by
    apply bC;intro i;rw[ar];by_cases hi:i<H0.length;rw[bw hi];simp only[aZ,a0Y,am];rw[af dA];rfl;rw[aC<|by simpa using hi,aC dA];rfl
  have hpm:(jC<|H0.length+1).map (pOf (a0Y σ) H0.length<|f0G ops base p)=σ++ [f0G ops base p]:=by
    rw[dg,cx];congr 1;rw[<-hσ];refine bH λj hj=> ?_
    simp[pOf,br.1 hj,hσ];simp[pOf]
  have hfst:(o0W (pOf (a0Y σ) H0.length<|f0G ops base p) (H0.length+1) H0').map yE=((σ++ [f0G ops base p]).map λi=>(i,Ent.gone)).map yE:=by
    unfold o0W;rw[ci,ci];have e1:(yE∘λj=>(pOf (a0Y σ) H0.length (f0G ops base p) j,Ent.rn (pOf (a0Y σ) H0.length<|f0G ops base p)<|H0'.getD j .gone))=pOf (a0Y σ) H0.length (f0G ops base p):=rfl;have e2:(yE∘λi:Nat=>(i,Ent.gone))=id:=rfl;rw[e1,e2,hpm,List.map_id]
  have hfw: ∀i,g0D ops base i o ⟨SV.rn (pOf (a0Y σ) H0.length<|f0G ops base p) v0,(jC H0.length).map<|a0Y σ,o0W (pOf (a0Y σ) H0.length<|f0G ops base p) (H0.length+1) H0'⟩=g0D ops base i o ⟨.undef,σ,(σ++ [f0G ops base p]).map λi=>(i,Ent.gone)⟩:=λi=>A0H hfst
  have hrd:h0J o ⟨SV.rn (pOf (a0Y σ) H0.length<|f0G ops base p) v0,(jC H0.length).map<|a0Y σ,o0W (pOf (a0Y σ) H0.length<|f0G ops base p) (H0.length+1) H0'⟩=h0J o ⟨.undef,σ,(σ++ [f0G ops base p]).map λi=>(i,Ent.gone)⟩:=by
    unfold h0J;simp only[hσ]
  intro hlp;rw[e0g ho];subst hlp;refine⟨⟨SV.rn (pOf (a0Y σ) H0.length<|f0G ops base tr.length) v0,(jC H0.length).map<|a0Y σ,o0W (pOf (a0Y σ) H0.length<|f0G ops base tr.length) (H0.length+1) H0'⟩, ?_, ?_, ?_⟩;unfold opD;rw[hgd];simp only;rw[q0A hc,vB rfl];exact .inr<|.inr<|.inr<|.inl ⟨f,args,a0Y σ,args0,H0,v0,H0',hc,ha,Sel.of σ hl hg hn hr0,λen hm=>List.all_eq_true.1 hlive en hm,hr,SC.weak hs hle,ae hlen,hres',rfl⟩;rw[hfw,hrd];exact hk base rfl;have:=k (by simp[trM]);rw[b0b,hfw,hrd];exact this
end
variable [Inhabited GT]
theorem SC.nil{P:Program}{args1 args2:List SV}(h:SC P f (args1++ .vc H0.length::args2) (H0++ [.vec 0 k e []]) v H0'):SC P f (args1++ .nl::args2) H0 v H0':=by
  refine⟨h.1,λw K D vals hlen hrep hi hG=> ?_⟩;obtain⟨g,hi2⟩:=s0B hi k e;refine(h.2 w K _ vals (by simpa using hlen) (λj x c hx hc=> ?_) hi2<|j0t hG).mono ?_;by_cases hj:j=args1.length;subst hj;have hc2:(args1++SV.vc H0.length::args2)[args1.length]?=vA (.vc H0.length):=by simp
  rw[hc2]at hc;cases hc;have h1:=hrep args1.length x .nl hx dE
  cases h1 with
  |nl a=>exact .vcn _ a (m0K _ _ _)
  have hc2:(args1++SV.nl::args2)[j]?=vA c:=by
    rw[<-hc,aP,aP];split;rfl;rename_i hlt
    obtain⟨q,hq⟩: ∃q,j-args1.length=q+1:=⟨j-args1.length-1,dA⟩
    rw[hq];rfl
  exact g.rep<|hrep j x c hx hc2;rintro ex w' ⟨r,he,K',D',g',hi',hr⟩;exact⟨r,he,K',D',g.trans g',hi',hr⟩
variable [Inhabited GT]
def P0u{P:Program}{fn:Func}{H:a0e}
    (h: ∀F:Fr,F.n=fn.ntmps->F.H0=H->(∀i,F.H0.length<=i->F.D0 i=none)->J F P (e0y fn) (e0M 0 args) H (L0i F H')) (hf:P.funcs[f]?=vA fn:=by kernel_rfl) (hb:fn.body.isSome=true:=by kernel_rfl) (hcal:b0o P f=true:=by kernel_rfl) (hin:b0n fn.ntmps (e0y fn)=true:=by kernel_rfl) (hn:yC args.length fn.ntmps=true:=by kernel_rfl):SP P f args H H':=K.fnP hf hb hcal hin hn h
def P0v{P:Program}{fn:Func}{H:a0e}
    (h: ∀F:Fr,F.n=fn.ntmps->F.H0=H->(∀i,F.H0.length<=i->F.D0 i=none)->F.ds=[]->J F P (e0y fn) (e0M 0 args) H (B0r P fn F v H')) (hf:P.funcs[f]?=vA fn:=by kernel_rfl) (hb:fn.body.isSome=true:=by kernel_rfl) (hcal:b0o P f=true:=by kernel_rfl) (hin:b0n fn.ntmps (e0y fn)=true:=by kernel_rfl) (hn:yC args.length fn.ntmps=true:=by kernel_rfl):SC P f args H v H':=K.fnD hf hb hcal hin hn h
def P0a{P:Program}{fn:Func}{H:a0e}(pan:Bool)(t4 t5:Nat)
    (h: ∀F:Fr,F.n=fn.ntmps->F.H0=H->(∀i,F.H0.length<=i->F.D0 i=none)->J F P (cr<|e0y fn) ((t5, .bool pan)::(t4, .undef)::e0M 0 args) H (u0e P fn F (.tup []) H')) (hf:P.funcs[f]?=vA fn:=by kernel_rfl) (hb:fn.body.isSome=true:=by kernel_rfl) (hcal:b0o P f=true:=by kernel_rfl) (hin:b0n fn.ntmps (e0y fn)=true:=by kernel_rfl) (hn:yC args.length fn.ntmps=true:=by kernel_rfl)
    (hrec:D0E P (e0y fn) t4 t5=true:=by kernel_rfl) (ht:(oD t4 fn.ntmps&&oD t5 fn.ntmps)=true:=by kernel_rfl):SD P f pan args H H':=K.fnC pan t4 t5 hf hb hcal hin hn hrec ht h
section
variable {P : Program}{ops : Array Oper}{V : List (Nat × Nat × SV)}{W : List Nat}{p d : Nat}{L : LE}
variable {F : Fr}{Q : g0c}{H : a0e}
end
section
variable {F : Fr}{P : Program}{c : Code}{L : LE}{H : a0e}{Q : g0c}
end
def O0O{A B:Type}(P:Program)(fn:Func)(F:Fr)(hv:A->SV)(hH:A->a0e)(hP:B->a0e)(r:A⊕B):g0c:=match r with
  | .inl a=>u0e P fn F (hv a) (hH a)
  | .inr b=>L0i F<|hP b
theorem P0t{P:Program}{fn:Func}{H:a0e}{A B:Type}{r:A⊕B}(hv:A->SV)(hH:A->a0e)(hP:B->a0e)
    (h: ∀F:Fr,F.n=fn.ntmps->F.H0=H->(∀i,F.H0.length<=i->F.D0 i=none)->J F P (e0y fn) (e0M 0 args) H (O0O P fn F hv hH hP r))
    (hf:P.funcs[f]?=vA fn:=by kernel_rfl) (hb:fn.body.isSome=true:=by kernel_rfl) (hcal:b0o P f=true:=by kernel_rfl) (hin:b0n fn.ntmps (e0y fn)=true:=by kernel_rfl) (hn:yC args.length fn.ntmps=true:=by kernel_rfl):
    (∀a,r= .inl a->SC P f args H (hv a) (hH a))/\(∀b,r= .inr b->SP P f args H (hP b)):=by
  refine⟨λa e=> ?_,λb e=> ?_⟩;subst e;exact K.fn hf hb hcal hin hn h;subst e;exact K.fnP hf hb hcal hin hn h
section
variable {F : Fr}{P : Program}{m : Option Nat}{L : LE}{H : a0e}{Q : g0c}{ops : Array Oper}{p : Nat}{tr : List (List Nat × List Nat)}{c : Code}
def cF{X:Option α}{r:α}(d:Nat)(h:(bif b then X else none)=vA r)(k:X=vA r->J F P c ((d, .bool jB)::L) H Q)(hd:lk L d= .bool b:=by kernel_rfl):J F P c L H Q:=by
  cases b with
  |false=>cases h
  |true=>exact J.caseB d hd (λ_=>k h) (λhb=>by cases hb)
def cT{X:Option α}{r:α}(d:Nat)(h:(bif b then none else X)=vA r)(k:X=vA r->J F P c ((d, .bool oA)::L) H Q)(hd:lk L d= .bool b:=by kernel_rfl):J F P c L H Q:=by
  cases b with
  |true=>cases h
  |false=>exact J.caseB d hd (λhb=>by cases hb) λ_=>k h
def r0w{K V:Type}{ek:K->SV}{ev:V->SV}{eq:K->K->Bool}(heq: ∀a b,k0K (ek a) (ek b)=vA (eq a b))(x:K): ∀ms:List (K×V),g0L (r0n ek ev ms) (ek x)=vA ((i0W eq ms x).map ev)
  | []=>rfl
  |p::ms=>by
    have ih:=r0w (ev:=ev) heq x ms;simp only[r0n,ao,g0L,heq,i0W]at ih⊢
    cases eq x p.1 with
    |true=>rfl
    |false=>exact ih
def E0l(P:Program)(o:Oper)(ρ:Env)(H:a0e):Option (Nat×List (SV×SV)×IntKind×Int×SV×Bool):=
  match o.op with
  | .lookup t m k ok=>match P.underlying t,a0B ρ m,a0B ρ k with
    |some (.map kt et),vA (.mp i),vA (.int kd a)=>match H[i]?,A0Z P et with
      |some (.map es),vA z=>if t0D P kt (.int kd a)=jB then vA (i,es,kd,a,z,ok)else none
      |_,_=>none
    |_,_,_=>none
  |_=>none
theorem x0H{idx:Nat}{es:List (SV×SV)}{a:Int}{z:SV}{ok:Bool}(h:E0l P o ρ H=vA (i,es,kd,a,z,ok)){r:Option SV}(hf:g0L es (.int kd a)=vA r):
    a0D P o ρ H idx=vA ⟨m0f ok (r.getD z) r.isSome,[i],[]⟩:=by
  unfold E0l at h
  split at h
  · rename_i t m k ok' ho
    split at h
    · rename_i kt' et i' kd' a' hu hm hk
      split at h
      · rename_i es' z' hH hz
        split at h<;>cases h
        rename_i hkey;unfold a0D a0k a0o;simp only[ho];unfold k0O;rw[hu,hm,hk];simp only[hH];rw[vB hkey];have:p0u P kt' es (.int kd a)=vA r:=hf;rw[this,hz];cases r<;>rfl
      cases h
    cases h
  cases h
def E0m(P:Program)(m:Option Nat)(ops:Array Oper)(p:Nat)(tr:List<|List Nat×List Nat)(L:LE)(H:a0e):Option (Option Nat×Nat×List (SV×SV)×IntKind×Int×SV×Bool×List (List Nat×List Nat)):=
  match ops.toList[p]? with
  |none=>none
  |some o=>match a0X ops (a0p L) o with
    |some jB=>bif b0R o then none else match E0l P o (a0p L) H with
      |some (i,es,kd,a,z,ok)=>bif okM m ops p o ⟨.undef,[i],[]⟩ tr H then vA (o.dst,i,es,kd,a,z,ok,trM m ops p o ⟨.undef,[i],[]⟩ tr)else none
      |none=>none
    |_=>none
theorem RJ.lookK(kd:IntKind)(ev:V->SV)(ms:List<|Int×V)(x:Int)(zv:V){ok:Bool}
    (h:E0m P m ops p tr L H=vA (d,i,r0n (λk:Int=> .int kd k) ev ms,kd,x,ev zv,ok,tr2))
    (k:RJ F P m ops (p+1) tr2 (g0g L d<|m0f ok (ev<|(i0W (λa b:Int=>a==b) ms x).getD zv) (i0W (λa b:Int=>a==b) ms x).isSome) H Q):RJ F P m ops p tr L H Q:=by
  unfold E0m at h;split at h
  cases h
  · rename_i o ho
    split at h
    · rename_i hg
      cases hcc:b0R o with
      |true=>rw[hcc]at h;cases h
      |false=>
        rw[hcc]at h;simp only[vD]at h
        split at h
        · rename_i i2 es2 kd2 a2 z2 ok2 he
          cases hok:okM m ops p o ⟨.undef,[i2],[]⟩ tr H with
          |false=>rw[hok]at h;cases h
          |true=>
            rw[hok]at h;simp only[wC,aj,aG]at h;obtain⟨rfl,rfl,rfl,rfl,rfl,rfl,rfl,rfl⟩:=h;have hf:=r0w (ek:=λk:Int=>SV.int kd2 k) (ev:=ev) (eq:=λa b:Int=>a==b) (λa b=>by simp[k0K]) a2 ms;have hs:=x0H (idx:=I0s m ops p H) he hf;have e1:((i0W (λa b:Int=>a==b) ms a2).map ev).getD (ev zv)=ev ((i0W (λa b:Int=>a==b) ms a2).getD zv):=by cases i0W (λa b:Int=>a==b) ms a2<;>rfl
            have e2:((i0W (λa b:Int=>a==b) ms a2).map ev).isSome=(i0W (λa b:Int=>a==b) ms a2).isSome:=by cases i0W (λa b:Int=>a==b) ms a2<;>rfl
            rw[e1,e2]at hs;exact RJ.step ho hg hcc hs hok k
        cases h
    cases h
def K0e(P:Program)(o:Oper)(ρ:Env)(H:a0e):Option (Nat×List (SV×SV)×IntKind×Int×SV):=
  match o.op with
  | .mapUpdate t m k v=>match P.underlying t,a0B ρ m,a0B ρ k,a0B ρ v with
    |some (.map kt _),vA (.mp i),vA (.int kd a),vA sv=>match H[i]? with
      |some (.map es)=>if t0D P kt (.int kd a)=jB then vA (i,es,kd,a,sv)else none
      |_=>none
    |_,_,_,_=>none
  |_=>none
def I0r(P:Program)(m:Option Nat)(ops:Array Oper)(p:Nat)(tr:List<|List Nat×List Nat)(L:LE)(H:a0e):Option (Option Nat×Nat×List (SV×SV)×IntKind×Int×SV×List (List Nat×List Nat)):=
  match ops.toList[p]? with
  |none=>none
  |some o=>match a0X ops (a0p L) o with
    |some jB=>bif b0R o then none else match K0e P o (a0p L) H with
      |some (i,es,kd,a,sv)=>bif okM m ops p o ⟨.undef,[i],[(i, .map [])]⟩ tr H then vA (o.dst,i,es,kd,a,sv,trM m ops p o ⟨.undef,[i],[(i, .map [])]⟩ tr)else none
      |none=>none
    |_=>none
def y0v{V:Type}(y:V)(x:Int):List (Int×V)->List (Int×V)
  | []=> [(x,y)]
  |p::r=>bif x==p.1 then(p.1,y)::r else p::y0v y x r
def G0u(es:List<|SV×SV)(k v:SV):List (SV×SV):=match g0L es k with
  |some (vA _)=>G0g es k v
  |_=>es++ [(k,v)]
theorem B0l{ev:V->SV}(x:Int)(y:V)(ms:List<|Int×V):G0u (r0n (λk:Int=> .int kd k) ev ms) (.int kd x) (ev y)=r0n (λk:Int=> .int kd k) ev (y0v y x ms):=by
  induction ms with
  |nil=>rfl
  |cons p ms ih=>
    unfold G0u at ih⊢;simp only[r0n,ao,g0L,k0K,vB,y0v]at ih⊢
    cases hx:(x==p.1)with
    |true=>simp[G0g,k0K,hx]
    |false=>
      simp only[vD,ao,<-ih];split<;>simp[G0g,k0K,hx, *]
theorem y0I{idx:Nat}{es:List (SV×SV)}{a:Int}{sv:SV}{q:Option SV}(h:K0e P o ρ H=vA (i,es,kd,a,sv))(hf:g0L es (.int kd a)=vA q):
    a0D P o ρ H idx=vA ⟨.undef,[i],[(i, .map<|G0u es (.int kd a) sv)]⟩:=by
  unfold K0e at h
  split at h
  · rename_i t m k v ho
    split at h
    · rename_i kt' et i' kd' a' sv' hu hm hk hv
      split at h
      · rename_i es' hH
        split at h<;>cases h
        rename_i hkey;unfold a0D a0k a0o;simp only[ho];unfold l0P;rw[hu,hm,hk,hv];simp only[hH];rw[vB hkey];have:p0u P kt' es (.int kd a)=vA q:=hf;rw[this];unfold G0u;rw[hf];cases q<;>rfl
      cases h
    cases h
  cases h
theorem RJ.setK(kd:IntKind)(ev:V->SV)(ms:List<|Int×V)(x:Int)(y:V){sv:SV}
    (h:I0r P m ops p tr L H=vA (d,i,r0n (λk:Int=> .int kd k) ev ms,kd,x,sv,tr2)) (hsv:sv=ev y)
    (hH:h0Y H i (.map<|r0n (λk:Int=> .int kd k) ev<|y0v y x ms)=H2) (k:RJ F P m ops (p+1) tr2 (g0g L d .undef) H2 Q):RJ F P m ops p tr L H Q:=by
  subst hH;unfold I0r at h;split at h;cases h;rename_i o ho;split at h;rename_i hg
  cases hcc:b0R o with
  |true=>rw[hcc]at h;cases h
  |false=>
    rw[hcc]at h;simp only[vD]at h;split at h;rename_i i2 es2 kd2 a2 sv2 he
    cases hok:okM m ops p o ⟨.undef,[i2],[(i2, .map [])]⟩ tr H with
    |false=>rw[hok]at h;cases h
    |true=>
      rw[hok]at h;simp only[wC,aj,aG]at h;obtain⟨rfl,rfl,rfl,rfl,rfl,rfl,rfl⟩:=h;have hf:=r0w (ek:=λk:Int=>SV.int kd2 k) (ev:=ev) (eq:=λa b:Int=>a==b) (λa b=>by simp[k0K]) a2 ms;have hs:=y0I (idx:=I0s m ops p H) he hf;rw[hsv,B0l]at hs;exact RJ.step ho hg hcc hs hok k
    cases h
  cases h
def E0q(P:Program)(o:Oper)(ρ:Env)(H:a0e):Option (Nat×Nat×Nat×List SV):=
  match o.op with
  | .load t x=>match a0B ρ x with
    |some (.ptr i off)=>match H[i]? with
      |some (.vec _ _ _ cs)=>match P.underlying t with
        |some (.struct _)=>vA (i,off,P.cellsOf t,cs)
        |_=>none
      |_=>none
    |_=>none
  |_=>none
theorem x0M{idx:Nat}{off:Nat}(h:E0q P o ρ H=vA (i,off,n,cs))(hl:n<=(cs.drop off).length):
    a0D P o ρ H idx=vA ⟨.agg<|(cs.drop off).take n,[i],[]⟩:=by
  unfold E0q at h;split at h;rename_i t x ho;split at h;rename_i i' off' h1;split at h;rename_i n' k' e' cs' h2;split at h;rename_i fs hu;cases h;unfold a0D a0k a0o;simp only[ho,h1,h2,ah,b0H];unfold b0q;rw[hu];simp only[vB hl];rfl;cases h;cases h;cases h;cases h
def E0r(P:Program)(m:Option Nat)(ops:Array Oper)(p:Nat)(tr:List<|List Nat×List Nat)(L:LE)(H:a0e):Option (Option Nat×Nat×Nat×Nat×List SV×List (List Nat×List Nat)):=
  match ops.toList[p]? with
  |none=>none
  |some o=>match a0X ops (a0p L) o with
    |some jB=>bif b0R o then none else match E0q P o (a0p L) H with
      |some (i,off,n,cs)=>bif okM m ops p o ⟨.undef,[i],[]⟩ tr H then vA (o.dst,i,off,n,cs,trM m ops p o ⟨.undef,[i],[]⟩ tr)else none
      |none=>none
    |_=>none
theorem RJ.loadS[Inhabited T]{enc:T->List SV}{xs:List T}(h:E0r P m ops p tr L H=vA (d,i,j.toNat*k,k,xs.flatMap enc,tr2))
    (hk: ∀x,(enc x).length=k) (hj:inR j xs.length=jB) (kk:RJ F P m ops (p+1) tr2 (g0g L d<|.agg<|enc<|nth xs j) H Q):RJ F P m ops p tr L H Q:=by
  unfold E0r at h;split at h;cases h;rename_i o ho;split at h;rename_i hg
  cases hcc:b0R o with
  |true=>rw[hcc]at h;cases h
  |false=>
    rw[hcc]at h;simp only[vD]at h;split at h;rename_i i2 off2 n2 cs2 he
    cases hok:okM m ops p o ⟨.undef,[i2],[]⟩ tr H with
    |false=>rw[hok]at h;cases h
    |true=>
      rw[hok]at h;simp only[wC,aj,aG]at h;obtain⟨rfl,rfl,rfl,rfl,rfl,rfl⟩:=h;have hf:=z0u hk hj
      have hl:n2<=((xs.flatMap enc).drop<|j.toNat*n2).length:=by
        have:=congrArg List.length hf;rw[aE,hk]at this;omega
      have hs:=x0M (idx:=I0s m ops p H) he hl;rw[hf]at hs;exact RJ.step ho hg hcc hs hok kk
    cases h
  cases h
end
section
variable {F : Fr}{P : Program}{m : Option Nat}{L : LE}{H : a0e}{Q : g0c}{ops : Array Oper}{p : Nat}{tr : List (List Nat × List Nat)}{c : Code}
theorem kc(q:Nat)(k:RJ F P none ops (p+q) [] (lOf<|j0K P none ops q p [] L H) (hOf<|j0K P none ops q p [] L H) Q)(h:(j0K P none ops q p [] L H).isSome=true:=by kernel_rfl):RJ F P none ops p [] L H Q:=by
  cases hr:j0K P none ops q p [] L H with
  |none=>rw[hr]at h;cases h
  |some r=>
    obtain⟨tr1,L1,H1⟩:=r;rw[hr]at k;refine n0Z q p [] L H tr1 L1 H1 hr ?_;intro hin a w hs;exact k hin a w hs
def ke(q:Nat)(k:PJ F Q .normal (lOf<|j0K P none ops q p [] L H)<|hOf<|j0K P none ops q p [] L H)(h:(j0K P none ops q p [] L H).isSome=true:=by kernel_rfl)(hp:yC ops.size (p+q)=true:=by kernel_rfl):RJ F P none ops p [] L H Q:=kc q (RJ.end hp k) h
def kr{c:Code}(q:Nat)(k:J F P c (lOf<|j0K P none ops q p [] L H) (hOf<|j0K P none ops q p [] L H) Q)(h:(j0K P none ops q p [] L H).isSome=true:=by kernel_rfl)(hp:yC ops.size (p+q)=true:=by kernel_rfl):RJ F P none ops p [] L H (l0t F P c Q):=kc q (RJ.end hp<|PJ.next k) h
def km(q:Nat)(k:RJ F P none (h0I c) q [] (lOf<|j0K P none (h0I c) q 0 [] L H) (hOf<|j0K P none (h0I c) q 0 [] L H) Q)(h:o0x oA c=true:=by kernel_rfl)(h2:(j0K P none (h0I c) q 0 [] L H).isSome=true:=by kernel_rfl):J F P c L H Q:=K.region h (kc q (by rw[bg];exact k) h2)
def kM(k:PJ F Q .normal (lOf<|j0K P none (h0I c) (h0I c).size 0 [] L H)<|hOf<|j0K P none (h0I c) (h0I c).size 0 [] L H)(h:o0x oA c=true:=by kernel_rfl)(h2:(j0K P none (h0I c) (h0I c).size 0 [] L H).isSome=true:=by kernel_rfl):J F P c L H Q:=
  K.region h (ke (h0I c).size k h2<|by rw[bg];exact Nat.ble_eq_true_of_le<|ak _)
def kn(q:Nat)(k:RJ F P none (h0I<|cl c) q [] (lOf<|j0K P none (h0I<|cl c) q 0 [] L H) (hOf<|j0K P none (h0I<|cl c) q 0 [] L H)<|l0t F P (cr c) Q)(h:s0k c=true:=by kernel_rfl)(h1:o0x oA (cl c)=true:=by kernel_rfl)(h2:(j0K P none (h0I<|cl c) q 0 [] L H).isSome=true:=by kernel_rfl):J F P c L H Q:=K.seq h<|km q k h1 h2
def kq(k:J F P (cr c) (lOf<|j0K P none (h0I<|cl c) (h0I<|cl c).size 0 [] L H) (hOf<|j0K P none (h0I<|cl c) (h0I<|cl c).size 0 [] L H) Q)(h:s0k c=true:=by kernel_rfl)(h1:o0x oA (cl c)=true:=by kernel_rfl)(h2:(j0K P none (h0I<|cl c) (h0I<|cl c).size 0 [] L H).isSome=true:=by kernel_rfl):J F P c L H Q:=K.seq h<|kM (PJ.next k) h1 h2
def kKN{d:Code}(k:J F P d L H Q)(h:u0J c=true:=by kernel_rfl):J F P c L H (l0t F P d Q):=K.skip h<|PJ.next k
def A0S(d:Nat):Code->Bool| .cond (.tmp t) _ _=>oB t d|_=>oA
theorem r0B{d:Nat}(h:A0S d c=jB):y0l c ((d, .bool b)::L)=vA (.bool b):=by
  cases c<;>first|cases h|skip
  rename_i x a b';cases x<;>first|cases h|skip
  rename_i t;have:=ae h;subst this;simp only[y0l,a0B,a0p,lk];rw[show oB t t=jB from Nat.beq_refl t];rfl
def kBT{X Y:α}{r:α}(d:Nat)(h:(bif b then X else Y)=r)(h1:X=r->J F P (ct c) ((d, .bool jB)::L) H Q)(h2:Y=r->J F P (ce c) ((d, .bool oA)::L) H Q)(hd:lk L d= .bool b:=by kernel_rfl)(hc:A0S d c=true:=by kernel_rfl):J F P c L H Q:=
  J.caseB d hd (λhb=>K.condT (r0B hc)<|h1<|condT hb h) (λhb=>K.condF (r0B hc)<|h2<|condF hb h)
def cFT{X:Option α}{r:α}(d:Nat)(h:(bif b then X else none)=vA r)(k:X=vA r->J F P (ct c) ((d, .bool jB)::L) H Q)(hd:lk L d= .bool b:=by kernel_rfl)(hc:A0S d c=true:=by kernel_rfl):J F P c L H Q:=cF d h (λhx=>K.condT (r0B hc)<|k hx) hd
def cTF{X:Option α}{r:α}(d:Nat)(h:(bif b then none else X)=vA r)(k:X=vA r->J F P (ce c) ((d, .bool oA)::L) H Q)(hd:lk L d= .bool b:=by kernel_rfl)(hc:A0S d c=true:=by kernel_rfl):J F P c L H Q:=cT d h (λhx=>K.condF (r0B hc)<|k hx) hd
/-! Ends. -/
theorem kNo{R:S->LE×a0e}{a st:S}(h:vA a=vA st)(ts:List Nat)(hL:g0r ts L=(R a).1:=by kernel_rfl)(hH:H=(R a).2:=by kernel_rfl):PJ F (cutN F R st) .normal L H:=by
  obtain rfl:=oi h;exact PJ.cutN ts hL hH
theorem kXo{R:S->LE×a0e}{a:S}{y:S⊕X}(h:vA (.inl a)=vA y)(ts:List Nat)(hL:g0r ts L=(R a).1:=by kernel_rfl)(hH:H=(R a).2:=by kernel_rfl):PJ F (cutX F R Q y) .normal L H:=by
  obtain rfl:=oi h;exact PJ.cutXl ts hL hH
theorem kLo{R:S->LE×a0e}{o:O}{a:S}{y:S⊕O}(h:vA (.inl a)=vA y)(ts:List Nat)(hL:g0r ts L=(R a).1:=by kernel_rfl)(hH:H=(R a).2:=by kernel_rfl):PJ F (p0r F R Q o y) .normal L H:=by
  obtain rfl:=oi h;exact PJ.loopNext ts hL hH
theorem kNW{R:S->LE×a0e}{a st:S}(h:vA a=vA st)(hm:F.H0=H0)(hdom: ∀i,F.H0.length<=i->F.D0 i=none)(σ:List Nat)(hl:σ.length=(R a).2.length:=by kernel_rfl)(hg:σ.map (λi=>H[i]?)=(R a).2.map (λen=>vA<|Ent.rn (a0Y σ) en):=by kernel_rfl)(hn:σ.Nodup:=by decide)
    (hr:(R a).2.all (Ent.refs (R a).2.length)=true:=by kernel_rfl) (hk:σ.take H0.length=jC H0.length:=by kernel_rfl) (hv:(R a).1.map (λp=>lk L p.1)=(R a).1.map (λp=>SV.rn (a0Y σ) p.2):=by kernel_rfl) (hvr:(R a).1.all (λp=>SV.refs (R a).2.length p.2)=true:=by kernel_rfl):PJ F (cutN F R st) .normal L H:=by
  obtain rfl:=oi h
  exact λx w hs=>⟨rfl,Wk.sel H0.length (by rw[hm]) hdom σ hl hg hn hr hk hv hvr x w hs⟩
theorem kXW{R:S->LE×a0e}{a:S}{y:S⊕X}(h:vA (.inl a)=vA y)(hm:F.H0=H0)(hdom: ∀i,F.H0.length<=i->F.D0 i=none)(σ:List Nat)(hl:σ.length=(R a).2.length:=by kernel_rfl)(hg:σ.map (λi=>H[i]?)=(R a).2.map (λen=>vA<|Ent.rn (a0Y σ) en):=by kernel_rfl)(hn:σ.Nodup:=by decide)
    (hr:(R a).2.all (Ent.refs (R a).2.length)=true:=by kernel_rfl) (hk:σ.take H0.length=jC H0.length:=by kernel_rfl) (hv:(R a).1.map (λp=>lk L p.1)=(R a).1.map (λp=>SV.rn (a0Y σ) p.2):=by kernel_rfl) (hvr:(R a).1.all (λp=>SV.refs (R a).2.length p.2)=true:=by kernel_rfl):PJ F (cutX F R Q y) .normal L H:=by
  obtain rfl:=oi h
  exact λx w hs=>⟨rfl,Wk.sel H0.length (by rw[hm]) hdom σ hl hg hn hr hk hv hvr x w hs⟩
theorem kLW{R:S->LE×a0e}{o:O}{a:S}{y:S⊕O}(h:vA (.inl a)=vA y)(hm:F.H0=H0)(hdom: ∀i,F.H0.length<=i->F.D0 i=none)(σ:List Nat)(hl:σ.length=(R a).2.length:=by kernel_rfl)(hg:σ.map (λi=>H[i]?)=(R a).2.map (λen=>vA<|Ent.rn (a0Y σ) en):=by kernel_rfl)(hn:σ.Nodup:=by decide)
    (hr:(R a).2.all (Ent.refs (R a).2.length)=true:=by kernel_rfl) (hk:σ.take H0.length=jC H0.length:=by kernel_rfl) (hv:(R a).1.map (λp=>lk L p.1)=(R a).1.map (λp=>SV.rn (a0Y σ) p.2):=by kernel_rfl) (hvr:(R a).1.all (λp=>SV.refs (R a).2.length p.2)=true:=by kernel_rfl):PJ F (p0r F R Q o y) .normal L H:=by
  obtain rfl:=oi h
  exact λx w hs=>⟨rfl,Wk.sel H0.length (by rw[hm]) hdom σ hl hg hn hr hk hv hvr x w hs⟩
theorem kZo{fn:Func}{R:Type}{a:R}{v:R->SV}(r:R)(h:vA a=vA r)(hn:F.n=fn.ntmps)(hH:F.H0=[])(hdom: ∀i,F.H0.length<=i->F.D0 i=none)(hin:j0R fn.ntmps fn.results.toList=true:=by kernel_rfl)(hret:u0z P fn.results.toList L H=vA (v a):=by kernel_rfl)(hr:SV.refs 0 (v a)=true:=by kernel_rfl):
    PJ F (u0e P fn F (v r) []) .ret L H:=by
  obtain rfl:=oi h;exact kZ hn hH hdom hin hret hr
/-! Binds. -/
def kcN{X:Option S}{k:S->Option T}{r:T}(h:X.bind k=vA r)(R:S->LE×a0e)(h1: ∀s,X=vA s->J F P (cl c) L H (cutN F R s))(h2: ∀s,k s=vA r->J F P (cr c) (R s).1 (R s).2 Q)(hc:s0k c=true:=by kernel_rfl):J F P c L H Q:=by
  obtain⟨s,e1,e2⟩:=a0W h;exact K.cutN hc R s (h1 s e1)<|h2 s e2
def kcX{M:Option (S⊕X)}{k:S->Option X}{r:X}(h:M.bind (a0j k)=vA r)(R:S->LE×a0e)(h1: ∀y,M=vA y->a0j k y=vA r->J F P (cl c) L H (cutX F R Q y))(h2: ∀s,k s=vA r->J F P (cr c) (R s).1 (R s).2 Q)(hc:s0k c=true:=by kernel_rfl):J F P c L H Q:=by
  obtain⟨y,e1,e2⟩:=a0W h;exact K.cutX hc R y (h1 y e1 e2) (λs hs=>by subst hs;exact h2 s<|k0b e2)
def kIb[Inhabited T]{X:Option α}{r:α}{enc:T->List SV}{xs:List T}(d:Nat)(hk: ∀x,(enc x).length=k)(h:(bif inR j xs.length then X else none)=vA r)(kk:X=vA r->RJ F P none ops (p+1) [] (g0g L (vA d)<|.ep<|enc<|nth xs j) H Q)
    (hh:u0h P none ops p [] L H=vA (vA d,⟨.ep<|((xs.flatMap enc).drop<|j.toNat*k).take k,[],[]⟩,inR j xs.length,[]):=by kernel_rfl):RJ F P none ops p [] L H Q:=
  kI d hk (g0x h).1 (kk (g0x h).2) hh
def kGb{X:Option α}{r:α}{s:List UInt8}(d:Nat)(h:(bif inR j s.length then X else none)=vA r)(kk:X=vA r->RJ F P none ops (p+1) [] (g0g L (vA d)<|.int .u8 (((s.getD j.toNat 0).toNat:Nat):Int)) H Q)
    (hh:u0h P none ops p [] L H=vA (vA d,⟨.int .u8 (((s.getD j.toNat 0).toNat:Nat):Int),[],[]⟩,inR j s.length,[]):=by kernel_rfl):RJ F P none ops p [] L H Q:=
  kG d (g0x h).1 (kk (g0x h).2) hh
def kAb{A R:Type}{X:Option A}{k:A->Option R}{r:R}{v:A->SV}(d:Nat)(h:X.bind k=vA r)(hs: ∀y,X=vA y->SC P f args [] (v y) [])(kk: ∀y,k y=vA r->RJ F P none ops (p+1) [] (g0g L (vA d)<|v y) H Q)
    (hc:h0P none ops p [] L []=vA (vA d,f,args,[]):=by kernel_rfl) (hr:SV.refsL 0 args=true:=by kernel_rfl) (hv: ∀y,SV.refs 0 (v y)=true:=by intro _;kernel_rfl):RJ F P none ops p [] L H Q:=by
  obtain⟨y,e1,e2⟩:=a0W h;exact kA d (hs y e1) (kk y e2) hc hr<|hv y
theorem kAp{X:Option α}{r:α}{xs ys:List T}(d i k w e:Nat)(rd:List Nat)(enc:T->List SV)(h:(bif room (xs.length+ys.length)then X else none)=vA r)(kk:X=vA r->RJ F P none ops (p+1) [] (g0g L (vA d)<|.vc k) (b0a H [(i, .gone),(k,a0s enc w e<|xs++ys)]) Q)
    (hh:u0h P none ops p [] L H=vA (vA d,⟨.vc k,rd,[(i, .gone),(k, .vec (xs.length+ys.length) w e<|xs.flatMap enc++ys.flatMap enc)]⟩,room<|xs.length+ys.length,[]):=by kernel_rfl):RJ F P none ops p [] L H Q:=
  RJ.rel (ef':=⟨.vc k,rd,[(i, .gone),(k,a0s enc w e<|xs++ys)]⟩) hh (g0x h).1 (λ_=>N.app) rfl (kk (g0x h).2)
/-! Ends and calls, their heaps as they come out. -/
theorem kPV(σ:List Nat)(hH:F.H0=H0)(hdom: ∀i,F.H0.length<=i->F.D0 i=none)(hl:σ.length=H'.length:=by kernel_rfl)(hg:σ.map (λi=>H[i]?)=H'.map (λen=>vA<|Ent.rn (a0Y σ) en):=by kernel_rfl)(hnd:σ.Nodup:=by decide)(hr:H'.all (Ent.refs H'.length)=true:=by kernel_rfl)
    (hk:σ.take H0.length=jC H0.length:=by kernel_rfl) (hle:yC H0.length H'.length=true:=by kernel_rfl):PP F (L0i F H') L H:=K.panV σ hH hdom hl hg hnd hr hk hle
theorem kRV{fn:Func}{e:Exit}(σ:List Nat)(he:e= .normal\/e= .ret)(hn:F.n=fn.ntmps)(hH:F.H0=H0)(hdom: ∀i,F.H0.length<=i->F.D0 i=none)(hin:j0R fn.ntmps fn.results.toList=true:=by kernel_rfl)(hret:u0z P fn.results.toList L H=vA (SV.rn (a0Y σ) v):=by kernel_rfl)
    (hl:σ.length=H'.length:=by kernel_rfl) (hg:σ.map (λi=>H[i]?)=H'.map (λen=>vA<|Ent.rn (a0Y σ) en):=by kernel_rfl) (hnd:σ.Nodup:=by decide) (hr:H'.all (Ent.refs H'.length)=true:=by kernel_rfl) (hk:σ.take H0.length=jC H0.length:=by kernel_rfl) (hle:yC H0.length H'.length=true:=by kernel_rfl)
    (hvr:SV.refs H'.length v=true:=by kernel_rfl):PJ F (u0e P fn F v H') e L H:=K.retV σ he hn hH hdom hin hret hl hg hnd hr hk hle rfl hvr
theorem kCP(d:Option Nat)(σ:List Nat)(hs:SP P f args0 H0 H0')(k:PP F Q L<|d0y (a0Y σ) H0.length H H0')(h:h0P none ops p [] L []=vA (d,f,SV.rnL (a0Y σ) args0,[]):=by kernel_rfl)
    (hl:σ.length=H0.length:=by kernel_rfl) (hg:σ.map (λi=>H[i]?)=H0.map (λen=>vA<|Ent.rn (a0Y σ) en):=by kernel_rfl) (hn:σ.Nodup:=by decide) (hr0:H0.all (Ent.refs H0.length)=true:=by kernel_rfl) (hlive:H0.all h0e=true:=by kernel_rfl) (hr:SV.refsL H0.length args0=true:=by kernel_rfl)
    (hle':yC H0.length H0'.length=true:=by kernel_rfl):RJ F P none ops p [] L H Q:=RJ.callP σ h rfl hl hg hn hr0 hlive hr (LeL.refl _) hs hle' rfl k
theorem kCg(d:Option Nat)(σ:List Nat)(hs:SC P f args0 H0 v0 H0')(kk:RJ F P none ops (p+1) [] (g0g L d<|SV.rn (gOf (a0Y σ) H0.length H.length) v0) (d0y (a0Y σ) H0.length H H0') Q)(h:h0P none ops p [] L []=vA (d,f,SV.rnL (a0Y σ) args0,[]):=by kernel_rfl)
    (hl:σ.length=H0.length:=by kernel_rfl) (hg:σ.map (λi=>H[i]?)=H0.map (λen=>vA<|Ent.rn (a0Y σ) en):=by kernel_rfl) (hn:σ.Nodup:=by decide) (hr0:H0.all (Ent.refs H0.length)=true:=by kernel_rfl) (hlive:H0.all h0e=true:=by kernel_rfl) (hr:SV.refsL H0.length args0=true:=by kernel_rfl)
    (hle':yC H0.length H0'.length=true:=by kernel_rfl):RJ F P none ops p [] L H Q:=RJ.callG σ h rfl hl hg hn hr0 hlive hr (LeL.refl _) hs hle' rfl rfl kk
def kDr(k:RJ F P (vA H.length) (h0I c) 0 [] L (H++oC (e0k<|h0I c) .res) Q)(h:o0x jB c=true:=by kernel_rfl)(hm:P.follows .mixedOrders=true:=by kernel_rfl)(hB:vG .any (h0I c)=true:=by kernel_rfl):J F P c L H Q:=K.draw h hm hB rfl rfl k
theorem kSB[Inhabited T]{enc:T->List SV}{o:Nat}{xs:List T}{tr:List (List Nat×List Nat)}(i:Nat)(tr2:List<|List Nat×List Nat)(hk: ∀x,(enc x).length=k)(y:T)(hm:inP o j xs.length=jB)(kk:RJ F P m ops (p+1) tr2 L (b0a H [(i, .box<|(d0a xs ((o:Int)+j) y).flatMap enc)]) Q)
    (h:A0i P m ops p tr L H=vA (none,⟨.undef,[i],[(i, .box<|splice (xs.flatMap enc) (o*k+j.toNat*k)<|enc y)]⟩,yC (o*k+j.toNat*k+(enc y).length) (xs.flatMap enc).length,tr2):=by kernel_rfl):RJ F P m ops p tr L H Q:=
  RJ.relS (ef':=⟨.undef,[i],[(i, .box<|(d0a xs ((o:Int)+j) y).flatMap enc)]⟩) h (w0L hk hm) (λ_=>N.storeB hk hm) rfl kk
/-! Ways out, each in one step. -/
def kCx{R:S->LE×a0e}{x:X}{y:S⊕X}{k:S->Option X}{r:Option X}{e:Exit}(hA:vA (.inr x)=vA y)(hC:a0j k y=r)(kk:vA x=r->PJ F Q e L H)(hne:e≠ .normal:=by exact λe=>nomatch e):PJ F (cutX F R Q y) e L H:=by
  obtain rfl:=oi hA;exact PJ.cutXr hne<|kk hC
def kLx{R:S->LE×a0e}{o o':O}{y:S⊕O}{e:Exit}(hA:vA (.inr o')=vA y)(kk:vA o'=vA o->PJ F Q e L H)(hne:e≠ .normal:=by exact λe=>nomatch e):PJ F (p0r F R Q o y) e L H:=by
  obtain rfl:=oi hA;exact PJ.loopOut hne λh=>kk<|congrArg vA h
theorem kEx(i:Nat)(k:PJ F Q (.exit i) L H)(h:E0G i c=true:=by kernel_rfl):J F P c L H Q:=K.exit i h k
theorem kEp{d:Code}(i:Nat)(k:PJ F Q (.exit i) L H)(h:E0G i c=true:=by kernel_rfl):J F P c L H (l0t F P d Q):=K.exit i h<|PJ.passExit k
theorem kKb(k:PJ F Q .normal L H)(h:u0J c=true:=by kernel_rfl):J F P c L H (vF i Q):=kK (PJ.blockNormal k) h
theorem kKn{d:Code}(k:J F P d L H Q)(h:u0J c=true:=by kernel_rfl):J F P c L H (vF i<|l0t F P d Q):=kK (PJ.blockNormal<|PJ.next k) h
theorem kXb(k:PJ F Q .ret L H)(h:E0E c=true:=by kernel_rfl):J F P c L H (vF i Q):=kX (PJ.blockRet k) h
theorem kXp{d:Code}(k:PJ F Q .ret L H)(h:E0E c=true:=by kernel_rfl):J F P c L H (vF i<|l0t F P d Q):=kX (PJ.blockRet<|PJ.passRet k) h
end
inductive Fm
  |thn (c:Code)
  |blk (i:Nat)
  |scp
inductive Cf
  |cd (c:Code) (L:LE) (H:a0e) (k:List Fm)
  |rg (m:Option Nat) (ops:Array Oper) (p:Nat) (tr:List<|List Nat×List Nat) (L:LE) (H:a0e) (k:List Fm)
  |ex (e:Exit) (L:LE) (H:a0e) (k:List Fm)
  |pn (L:LE) (H:a0e) (k:List Fm)
def r0g(F:Fr)(P:Program)(Q:g0c):List Fm->g0c
  | []=>Q
  | .thn c::k=>l0t F P c (r0g F P Q k)
  | .blk i::k=>vF i (r0g F P Q k)
  | .scp::k=>Exit.noGoto<|r0g F P Q k
structure FOk(F:Fr)(fn:Func)(H0:a0e):Prop where
  n:F.n=fn.ntmps
  h:F.H0=H0
  d: ∀i,F.H0.length<=i->F.D0 i=none
def Cf.den(F:Fr)(P:Program)(Q:g0c):Cf->Prop
  | .cd c L H k=>J F P c L H (r0g F P Q k)
  | .rg m ops p tr L H k=>RJ F P m ops p tr L H (r0g F P Q k)
  | .ex e L H k=>PJ F (r0g F P Q k) e L H
  | .pn L H k=>PP F (r0g F P Q k) L H
structure CJ(F:Fr)(P:Program)(fn:Func)(H0:a0e)(Q:g0c)(C:Cf):Prop where
  go:FOk F fn H0->C.den F P Q
def B0h(P:Program):Cf->Option Cf
  | .cd c L H k=>match c with
    | .seq a b=>vA (.cd a L H (.thn b::k))
    | .skip=>vA (.ex .normal L H k)
    | .exit i=>vA (.ex (.exit i) L H k)
    | .ret=>vA (.ex .ret L H k)
    | .block i a=>vA (.cd a L H (.blk i::k))
    | .scope a=>vA (.cd a L H (.scp::k))
    | .label _=>vA (.ex .normal L H k)
    | .region i ops d=>bif d then(bif P.follows .mixedOrders&&vG .any ops then vA (.rg (vA H.length) ops 0 [] L (H++oC (e0k ops) .res) k)else none)else vA (.rg none ops 0 [] L H k)
    | .cond x a b=>match y0l (.cond x a b) L with
      |some (.bool v)=>vA (.cd (bif v then a else b) L H k)
      |_=>none
    |_=>none
  | .rg m ops p tr L H k=>bif yC ops.size p then vA (.ex .normal L H k)else match j0K P m ops 1 p tr L H with
    |some r=>vA (.rg m ops (p+1) r.1 r.2.1 r.2.2 k)
    |none=>none
  | .ex e L H k=>match k with
    | .thn c::k=>match e with
      | .normal=>vA (.cd c L H k)
      | .ret=>vA (.ex .ret L H k)
      | .exit i=>vA (.ex (.exit i) L H k)
      |_=>none
    | .blk j::k=>match e with
      | .normal=>vA (.ex .normal L H k)
      | .ret=>vA (.ex .ret L H k)
      | .exit i=>vA (.ex (bif oB i j then .normal else .exit i) L H k)
      |_=>none
    | .scp::k=>match e with
      | .normal=>vA (.ex .normal L H k)
      | .ret=>vA (.ex .ret L H k)
      | .exit i=>vA (.ex (.exit i) L H k)
      |_=>none
    | []=>none
  | .pn L H k=>match k with
    |_::k=>vA (.pn L H k)
    | []=>none
section
variable {F : Fr}{P : Program}{fn : Func}{H0 : a0e}{Q : g0c}{C : Cf}
theorem G0l{C':Cf}(h:B0h P C=vA C')(k:C'.den F P Q):C.den F P Q:=by
  cases C with
  |cd c L H k'=>
    cases c<;>simp only[B0h]at h
    case region i ops d=>
      cases d with
      |false=>cases h;exact K.region rfl k
      |true=>
        simp only[wC]at h
        cases hb:(P.follows .mixedOrders&&vG .any ops)with
        |false=>rw[hb]at h;cases h
        |true=>
          rw[hb]at h;cases h;simp only[aa]at hb;exact kDr k rfl hb.1 hb.2
    case seq a b=>cases h;exact K.seq rfl k
    case skip=>cases h;exact J.skip k
    case exit i=>cases h;exact J.exit k
    case ret=>cases h;exact J.ret k
    case block i a=>cases h;exact J.block k
    case scope a=>cases h;exact K.scope rfl k
    case label i=>cases h;exact K.label rfl k
    case cond x a b=>
      split at h;rename_i v hv;cases h
      cases v with
      |true=>exact K.condT hv k
      |false=>exact K.condF hv k
      cases h
    all_goals cases h
  |rg m ops p tr L H k'=>
    simp only[B0h]at h
    cases hb:yC ops.size p with
    |true=>rw[hb]at h;cases h;exact RJ.end hb k
    |false=>
      rw[hb]at h;simp only[vD]at h;split at h;rename_i r hr;cases h;obtain⟨tr2,L2,H2⟩:=r;exact n0Z 1 p tr L H tr2 L2 H2 hr k;cases h
  |ex e L H k'=>
    simp only[B0h]at h
    split at h
    · rename_i c k2
      split at h<;>cases h
      · exact PJ.next k
      exact PJ.passRet k;exact PJ.passExit k
    · rename_i j k2
      split at h<;>cases h
      exact PJ.blockNormal k;exact PJ.blockRet k;rename_i i
      cases hb:oB i j with
      |true=>rw[hb]at k;have:=ae hb;subst this;exact PJ.blockOut k
      |false=>rw[hb]at k;exact PJ.blockPass hb k
    · split at h<;>cases h<;>exact k
    cases h
  |pn L H k'=>
    simp only[B0h]at h
    split at h
    · rename_i f k2
      cases h
      cases f with
      |thn c=>exact PP.next k
      |blk i=>exact PP.block k
      |scp=>exact k
    cases h
end
/-! Entries that are named. -/
mutual
def SV.rl:SV->List Nat
  | .agg cs=>SV.rlL cs
  | .tup cs=>SV.rlL cs
  | .ptr i _=> [i]
  | .vc i=> [i]
  | .sl i _ _ _=> [i]
  | .mp i=> [i]
  | .fn _ a b=>SV.rlL a++SV.rlL b
  | .undef=> []
  | .bool _=> []
  | .int _ _=> []
  | .str _=> []
  | .nl=> []
  | .lst _ _ _=> []
  | .ep _=> []
  | .nilp=> []
  | .yld i=> [i]
def SV.rlL:List SV->List Nat
  | []=> []
  |c::cs=>SV.rl c++SV.rlL cs
end
def Ent.rl:Ent->List Nat
  | .box cs=>SV.rlL cs
  | .map es=>es.flatMap λp=>SV.rl p.1++SV.rl p.2
  | .itr i _ _=> [i]
  | .lop tm _ _ _ _ _=>SV.rlL tm
  | .pmap es=>es.flatMap λp=>SV.rl p.1++SV.rl p.2
  |_=> []
mutual
def v0w{f g:Nat->Nat}: ∀(s:SV),(∀i∈SV.rl s,f (g i)=i)->SV.rn f (SV.rn g s)=s
  | .agg cs,h=>by simp only[SV.rn];rw[i0r cs λi hi=>h i<|by simp only[SV.rl];exact hi]
  | .tup cs,h=>by simp only[SV.rn];rw[i0r cs λi hi=>h i<|by simp only[SV.rl];exact hi]
  | .ptr i _,h=>by simp only[SV.rn];rw[h i<|by simp[SV.rl]]
  | .vc i,h=>by simp only[SV.rn];rw[h i<|by simp[SV.rl]]
  | .sl i _ _ _,h=>by simp only[SV.rn];rw[h i<|by simp[SV.rl]]
  | .mp i,h=>by simp only[SV.rn];rw[h i<|by simp[SV.rl]]
  | .fn _ a b,h=>by simp only[SV.rn];rw[i0r a λi hi=>h i<|by simp only[SV.rl];exact cJ _ hi,i0r b λi hi=>h i<|by simp only[SV.rl];exact cD _ hi]
  | .undef,_=>rfl
  | .bool _,_=>rfl
  | .int _ _,_=>rfl
  | .str _,_=>rfl
  | .nl,_=>rfl
  | .lst _ _ _,_=>rfl
  | .ep _,_=>rfl
  | .nilp,_=>rfl
  | .yld i,h=>by simp only[SV.rn];rw[h i<|by simp[SV.rl]]
def i0r{f g:Nat->Nat}: ∀(l:List SV),(∀i∈SV.rlL l,f (g i)=i)->SV.rnL f (SV.rnL g l)=l
  | [],_=>rfl
  |c::cs,h=>by simp only[SV.rnL];rw[v0w c λi hi=>h i<|by simp only[SV.rlL];exact cJ _ hi,i0r cs λi hi=>h i<|by simp only[SV.rlL];exact cD _ hi]
end
mutual
def v0x{g:Nat->Nat}{n:Nat}: ∀(s:SV),(∀i∈SV.rl s,g i<n)->SV.refs n (SV.rn g s)=jB
  | .agg cs,h=>by simp only[SV.rn,SV.refs];exact i0t cs (λi hi=>h i<|by simp only[SV.rl];exact hi)
  | .tup cs,h=>by simp only[SV.rn,SV.refs];exact i0t cs (λi hi=>h i<|by simp only[SV.rl];exact hi)
  | .ptr i _,h=>by simp only[SV.rn,SV.refs];exact decide_eq_true (h i<|by simp[SV.rl])
  | .vc i,h=>by simp only[SV.rn,SV.refs];exact decide_eq_true (h i<|by simp[SV.rl])
  | .sl i _ _ _,h=>by simp only[SV.rn,SV.refs];exact decide_eq_true (h i<|by simp[SV.rl])
  | .mp i,h=>by simp only[SV.rn,SV.refs];exact decide_eq_true (h i<|by simp[SV.rl])
  | .fn _ a b,h=>by simp only[SV.rn,SV.refs];rw[i0t a λi hi=>h i<|by simp only[SV.rl];exact cJ _ hi,i0t b λi hi=>h i<|by simp only[SV.rl];exact cD _ hi];rfl
  | .undef,_=>rfl
  | .bool _,_=>rfl
  | .int _ _,_=>rfl
  | .str _,_=>rfl
  | .nl,_=>rfl
  | .lst _ _ _,_=>rfl
  | .ep _,_=>rfl
  | .nilp,_=>rfl
  | .yld i,h=>by simp only[SV.rn,SV.refs];exact decide_eq_true (h i<|by simp[SV.rl])
def i0t{g:Nat->Nat}{n:Nat}: ∀(l:List SV),(∀i∈SV.rlL l,g i<n)->SV.refsL n (SV.rnL g l)=jB
  | [],_=>rfl
  |c::cs,h=>by simp only[SV.rnL,SV.refsL];rw[v0x c λi hi=>h i<|by simp only[SV.rlL];exact cJ _ hi,i0t cs λi hi=>h i<|by simp only[SV.rlL];exact cD _ hi];rfl
end
def r0k{f g:Nat->Nat}: ∀(es:List<|SV×SV),(∀i∈es.flatMap λp=>SV.rl p.1++SV.rl p.2,f (g i)=i)->(es.map λp=>(SV.rn g p.1,SV.rn g p.2)).map (λp=>(SV.rn f p.1,SV.rn f p.2))=es
  | [],_=>rfl
  |p::r,h=>by
    have h1:=v0w p.1 (λi hi=>h i<|by simp only[aD,av];exact .inl<|.inl hi);have h2:=v0w p.2 (λi hi=>h i<|by simp only[aD,av];exact .inl<|.inr hi);have h3:=r0k r (λi hi=>h i<|by simp only[aD,av];exact .inr hi);simp only[ao]at h3⊢;rw[h1,h2,h3]
def r0j{g:Nat->Nat}{n:Nat}: ∀(es:List<|SV×SV),(∀i∈es.flatMap λp=>SV.rl p.1++SV.rl p.2,g i<n)->((es.map λp=>(SV.rn g p.1,SV.rn g p.2)).all λp=>SV.refs n p.1&&SV.refs n p.2)=jB
  | [],_=>rfl
  |p::r,h=>by
    have h1:=v0x p.1 (λi hi=>h i<|by simp only[aD,av];exact .inl<|.inl hi);have h2:=v0x p.2 (λi hi=>h i<|by simp only[aD,av];exact .inl<|.inr hi);have h3:=r0j r (λi hi=>h i<|by simp only[aD,av];exact .inr hi);simp only[ao,aL]at h3⊢;rw[h1,h2,h3];rfl
theorem H0A{f g:Nat->Nat}(en:Ent)(h: ∀i∈Ent.rl en,f (g i)=i):Ent.rn f (Ent.rn g en)=en:=by
  cases en with
  |box cs=>simp only[Ent.rn];rw[i0r cs h]
  |map es=>simp only[Ent.rn];rw[r0k es h]
  |pmap es=>simp only[Ent.rn];rw[r0k es h]
  |itr m n s=>simp only[Ent.rn];rw[h m<|by simp[Ent.rl]]
  |lop tm ps as bd st pd=>simp only[Ent.rn];rw[i0r tm h]
  |dfr=>rfl
  |res=>rfl
  |gone=>rfl
  |vec=>rfl
theorem H0B{g:Nat->Nat}(en:Ent)(h: ∀i∈Ent.rl en,g i<n):Ent.refs n (Ent.rn g en)=true:=by
  cases en with
  |box cs=>exact i0t cs h
  |map es=>exact r0j es h
  |pmap es=>exact r0j es h
  |itr m n s=>exact decide_eq_true (h m<|by simp[Ent.rl])
  |lop tm ps as bd st pd=>exact i0t tm h
  |dfr=>rfl
  |res=>rfl
  |gone=>rfl
  |vec=>rfl
/-! A part of the entries: those that are reached. -/
def x0z(i:Nat):List Nat->Bool
  | []=>oA
  |x::r=>bif oB x i then jB else x0z i r
def C0q:List Nat->Nat->Nat
  | [],_=>0
  |x::r,i=>bif oB x i then 0 else C0q r i+1
def A0v:List Nat->Bool
  | []=>jB
  |x::r=> !x0z x r&&A0v r
theorem l0J{i:Nat}: ∀ {l:List Nat},x0z i l=jB↔i∈l
  | []=>by simp[x0z]
  |x::r=>by
    simp only[x0z,aY]
    cases hb:oB x i with
    |true=>have:=ae hb;simp[this]
    |false=>
      have hne: ¬i=x:=λe=>by subst e;simp at hb
      simp[hne,l0J (l:=r)]
def u0F: ∀ {l:List Nat},A0v l=jB->l.Nodup
  | [],_=>List.nodup_nil
  |x::r,h=>by
    simp only[A0v,aa,cX]at h;refine List.nodup_cons.2 ⟨λhm=> ?_,u0F h.2⟩;rw[l0J.2 hm]at h;cases h.1
theorem v0B{i:Nat}: ∀ {l:List Nat},i∈l->l[C0q l i]?=vA i
  | [],h=>by cases h
  |x::r,h=>by
    simp only[C0q]
    cases hb:oB x i with
    |true=>have:=ae hb;simp[this]
    |false=>
      have hne: ¬i=x:=λe=>by subst e;simp at hb
      simp only[vD,List.getElem?_cons_succ];exact v0B<|(aY.1 h).resolve_left hne
def o0P(H:a0e):Nat->List Nat->List Nat->List Nat
  |0,_,seen=>seen
  |_+1,[],seen=>seen
  |n+1,i::r,seen=>bif x0z i seen then o0P H n r seen else o0P H n (Ent.rl (H.getD i .gone)++r)<|seen++ [i]
def s0s(σ:List Nat)(H:a0e):a0e:=σ.map λi=>Ent.rn (C0q σ)<|H.getD i .gone
def u0b(σ:List Nat)(H:a0e):Bool:=A0v σ&&σ.all λi=>oD i H.length&&(Ent.rl<|H.getD i .gone).all λk=>x0z k σ
def p0Q(h:i∈σ):a0Y σ (C0q σ i)=i:=by
  unfold a0Y;rw[am,v0B h];rfl
def x0m(h:i∈σ):C0q σ i<σ.length:=(ab.1<|v0B h).1
def g0z(σ:List Nat)(H:a0e):(s0s σ H).length=σ.length:=by unfold s0s;simp
theorem j0J{H:a0e}(h:u0b σ H=jB):Sel H (a0Y σ) (s0s σ H):=by
  simp only[u0b,aa,wD]at h;obtain⟨h1,h2⟩:=h;have hr: ∀i∈σ,∀k∈Ent.rl (H.getD i .gone),k∈σ:=λi hi k hk=>l0J.1 ((h2 i hi).2 k hk)
  refine Sel.of σ (g0z σ H).symm ?_ (u0F h1)<|List.all_eq_true.2 λen hen=> ?_;unfold s0s;rw[ci];refine bH λi hi=> ?_
  have hlt:i<H.length:=bF (ag<|by have:=(h2 i hi).1;simpa [oD]using this);simp only[Function.comp];rw[H0A _ λk hk=>p0Q<|hr i hi k hk,am,af hlt];rfl;rw[g0z];obtain⟨i,hi,rfl⟩:=be.1 hen;exact H0B _ λk hk=>x0m<|hr i hi k hk
abbrev CallT:=FuncId->List SV->a0e->Option (SV×a0e)
def CallT.Ok(P:Program)(cl:CallT):Prop:= ∀f args H v H',cl f args H=vA (v,H')->SC P f args H v H'
def K0Q(cl:CallT)(f:FuncId)(args:List SV)(H:a0e):Option (SV×a0e):=
  (fun σ=>bif u0b σ H&&(SV.rlL args).all (λk=>x0z k σ)&&(s0s σ H).all h0e then
    match cl f (SV.rnL (C0q σ) args) (s0s σ H)with
    |some (v0,H0')=>bif yC σ.length H0'.length then vA (SV.rn (gOf (a0Y σ) σ.length H.length) v0,d0y (a0Y σ) σ.length H H0')else none
    |none=>none
  else none) (o0P H 100000 (SV.rlL args) [])
theorem H0J{P:Program}{cl:CallT}(hcl:cl.Ok P):CallT.Ok P (K0Q cl):=by
  intro f args H v H' h;unfold K0Q at h;generalize o0P H 100000 (SV.rlL args) []=σ at h;simp only at h
  cases hc:u0b σ H&&(SV.rlL args).all (λk=>x0z k σ)&&(s0s σ H).all h0e with
  |false=>rw[hc]at h;cases h
  |true=>
    rw[hc]at h;simp only[aa,wD]at hc;obtain⟨⟨c1,c2⟩,c3⟩:=hc;simp only[wC]at h;split at h;rename_i v0 H0' he
    cases hb:yC σ.length H0'.length with
    |false=>rw[hb]at h;cases h
    |true=>
      rw[hb]at h;cases h;have hm: ∀i∈SV.rlL args,i∈σ:=λi hi=>l0J.1 (c2 i hi)
      have:=SC.frame (hcl _ _ _ _ _ he) (j0J c1) c3 (by rw[g0z];exact i0t _ λk hk=>x0m<|hm k hk) (by rw[g0z];exact ag hb);rw[i0r _ λk hk=>p0Q<|hm k hk,g0z]at this;exact this
    cases h
/-! Sameness of what is known. -/
mutual
def SV.eqb:SV->SV->Bool
  | .undef, .undef=>jB
  | .bool a, .bool b=>yA (a=b)
  | .int k n, .int k' n'=>yA (k=k')&&yA (n=n')
  | .str a, .str b=>yA (a=b)
  | .nl, .nl=>jB
  | .lst n k a, .lst n' k' b=>oB n n'&&oB k k'&&SV.eqbL a b
  | .ep a, .ep b=>SV.eqbL a b
  | .agg a, .agg b=>SV.eqbL a b
  | .tup a, .tup b=>SV.eqbL a b
  | .ptr i o, .ptr j q=>oB i j&&oB o q
  | .vc i, .vc j=>oB i j
  | .sl i o n k, .sl i' o' n' k'=>oB i i'&&oB o o'&&oB n n'&&oB k k'
  | .mp i, .mp j=>oB i j
  | .nilp, .nilp=>jB
  | .yld i, .yld j=>oB i j
  |_,_=>oA
def SV.eqbL:List SV->List SV->Bool
  | [],[]=>jB
  |a::r,b::q=>SV.eqb a b&&SV.eqbL r q
  |_,_=>oA
end
mutual
def y0e: ∀(a b:SV),SV.eqb a b=jB->a=b
  | .undef,b,h=>by cases b<;>first|rfl|(simp[SV.eqb]at h)
  | .bool a,b,h=>by cases b<;>first|(simp[SV.eqb]at h;rw[h])|(simp[SV.eqb]at h)
  | .int k n,b,h=>by cases b<;>first|(simp[SV.eqb]at h;rw[h.1,h.2])|(simp[SV.eqb]at h)
  | .str a,b,h=>by cases b<;>first|(simp[SV.eqb]at h;rw[h])|(simp[SV.eqb]at h)
  | .nl,b,h=>by cases b<;>first|rfl|(simp[SV.eqb]at h)
  | .lst n k a,b,h=>by
    cases b with
    |lst n' k' b=>simp[SV.eqb]at h;rw[h.1.1,h.1.2,n0I a b h.2]
    |_=>simp[SV.eqb]at h
  | .ep a,b,h=>by
    cases b with
    |ep b=>simp only[SV.eqb]at h;rw[n0I a b h]
    |_=>simp[SV.eqb]at h
  | .agg a,b,h=>by
    cases b with
    |agg b=>simp only[SV.eqb]at h;rw[n0I a b h]
    |_=>simp[SV.eqb]at h
  | .tup a,b,h=>by
    cases b with
    |tup b=>simp only[SV.eqb]at h;rw[n0I a b h]
    |_=>simp[SV.eqb]at h
  | .ptr i o,b,h=>by cases b<;>first|(simp[SV.eqb]at h;rw[h.1,h.2])|(simp[SV.eqb]at h)
  | .vc i,b,h=>by cases b<;>first|(simp[SV.eqb]at h;rw[h])|(simp[SV.eqb]at h)
  | .sl i o n k,b,h=>by cases b<;>first|(simp[SV.eqb]at h;rw[h.1.1.1,h.1.1.2,h.1.2,h.2])|(simp[SV.eqb]at h)
  | .mp i,b,h=>by cases b<;>first|(simp[SV.eqb]at h;rw[h])|(simp[SV.eqb]at h)
  | .nilp,b,h=>by cases b<;>first|rfl|(simp[SV.eqb]at h)
  | .fn _ _ _,b,h=>by cases b<;>simp[SV.eqb]at h
  | .yld i,b,h=>by cases b<;>first|(simp[SV.eqb]at h;rw[h])|(simp[SV.eqb]at h)
def n0I: ∀(a b:List SV),SV.eqbL a b=jB->a=b
  | [],b,h=>by cases b<;>first|rfl|(simp[SV.eqbL]at h)
  |a::r,b,h=>by
    cases b with
    |nil=>simp[SV.eqbL]at h
    |cons b q=>
      simp only[SV.eqbL,aa]at h;rw[y0e a b h.1,n0I r q h.2]
end
def Ent.eqb:Ent->Ent->Bool
  | .box a, .box b=>SV.eqbL a b
  | .vec n k e a, .vec n' k' e' b=>oB n n'&&oB k k'&&oB e e'&&SV.eqbL a b
  |_,_=>oA
def h0z:a0e->a0e->Bool
  | [],[]=>jB
  |a::r,b::q=>Ent.eqb a b&&h0z r q
  |_,_=>oA
theorem K0t{a b:Ent}(h:Ent.eqb a b=jB):a=b:=by
  cases a with
  |box a=>
    cases b with
    |box b=>simp only[Ent.eqb]at h;rw[n0I a b h]
    |_=>simp[Ent.eqb]at h
  |vec n k e a=>
    cases b with
    |vec n' k' e' b=>
      simp only[Ent.eqb,aa]at h;rw[ae h.1.1.1,ae h.1.1.2,ae h.1.2,n0I a b h.2]
    |_=>simp[Ent.eqb]at h
  |_=>simp[Ent.eqb]at h
def l0Q: ∀ {a b:a0e},h0z a b=jB->a=b
  | [],[],_=>rfl
  | [],_::_,h=>by cases h
  |_::_,[],h=>by cases h
  |a::r,b::q,h=>by
    simp only[h0z,aa]at h;rw[K0t h.1,l0Q h.2]
/-! What is come to is put down as it is, at once. -/
section
universe u
variable {α : Sort u}
end
/-! What is known, kept short. -/
section
variable {F : Fr}{P : Program}{L L2 : LE}{H : a0e}{Q : g0c}{m : Option Nat}{ops : Array Oper}{p : Nat}{tr : List (List Nat × List Nat)}
/-! Regions. -/
def F0v(cl:CallT)(f:FuncId)(args:List SV)(H:a0e)(idx:Nat):Option Eff:=
  (fun σ=>bif u0b σ H&&(SV.rlL args).all (λk=>x0z k σ)&&(s0s σ H).all h0e then
    match cl f (SV.rnL (C0q σ) args) (s0s σ H)with
    |some (v0,H0')=>
      bif oB H0'.length σ.length then
        bif SV.refs σ.length v0 then
          bif h0z H0' (s0s σ H)then vA ⟨SV.rn (a0Y σ) v0,(jC σ.length).map<|a0Y σ,[]⟩
          else bif H0'.all (Ent.refs σ.length)then vA ⟨SV.rn (a0Y σ) v0,(jC σ.length).map<|a0Y σ,o0W (a0Y σ) σ.length H0'⟩else none
        else none
      else bif oB H0'.length (σ.length+1)&&q0z (H[idx]?)then bif h0z (H0'.take σ.length) (s0s σ H)then vA ⟨SV.rn (pOf (a0Y σ) σ.length idx) v0,(jC σ.length).map<|a0Y σ,[(idx,Ent.rn (pOf (a0Y σ) σ.length idx)<|H0'.getD σ.length .gone)]⟩else vA ⟨SV.rn (pOf (a0Y σ) σ.length idx) v0,(jC σ.length).map<|a0Y σ,o0W (pOf (a0Y σ) σ.length idx) (σ.length+1) H0'⟩else none
    |none=>none
  else none) (o0P H 100000 (SV.rlL args) [])
def A0C{x:Option Ent}(h:q0z x=jB):x=vA .res:=by
  unfold q0z at h;split at h;rfl;cases h
theorem F0u{cl:CallT}(hcl:cl.Ok P){idx:Nat}(hc:g0w ρ o=vA (f,args))(h:F0v cl f args H idx=vA ef):N0o P ρ o H idx ef:=by
  unfold F0v at h;generalize o0P H 100000 (SV.rlL args) []=σ at h;simp only at h
  cases hb:u0b σ H&&(SV.rlL args).all (λk=>x0z k σ)&&(s0s σ H).all h0e with
  |false=>rw[hb]at h;cases h
  |true=>
    rw[hb]at h;simp only[aa,wD]at hb;obtain⟨⟨c1,c2⟩,c3⟩:=hb;simp only[wC]at h;have hm: ∀i∈SV.rlL args,i∈σ:=λi hi=>l0J.1 (c2 i hi)
    have ha:args=SV.rnL (a0Y σ) (SV.rnL (C0q σ) args):=(i0r _ λk hk=>p0Q<|hm k hk).symm;have hr:SV.refsL (s0s σ H).length (SV.rnL (C0q σ) args)=true:=by rw[g0z];exact i0t _ (λk hk=>x0m<|hm k hk)
    have hl:=g0z σ H
    split at h
    · rename_i v0 H0' he
      have hs:=hcl _ _ _ _ _ he
      cases h1:oB H0'.length σ.length with
      |true=>
        rw[h1]at h;have h1:=ae h1;simp only[wC]at h
        cases h2:SV.refs σ.length v0 with
        |false=>rw[h2]at h;cases h
        |true=>
          rw[h2]at h;simp only[wC]at h
          cases h3:h0z H0' (s0s σ H)with
          |true=>
            rw[h3]at h;have h3:=l0Q h3;cases h;refine .inl ⟨f,args,a0Y σ,_,s0s σ H,v0,hc,ha,j0J c1,c3,hr,by rw[hl];exact h2,by rw[h3]at hs;exact hs,by rw[hl]⟩
          |false=>
            rw[h3]at h;simp only[vD]at h
            cases h4:H0'.all (Ent.refs σ.length)with
            |false=>rw[h4]at h;cases h
            |true=>
              rw[h4]at h;cases h;exact .inr (.inr<|.inl ⟨f,args,a0Y σ,_,s0s σ H,v0,H0',hc,ha,j0J c1,c3,hr,by rw[hl];exact h2,hs,by rw[hl];exact h1,λj en hj=>by rw[hl];exact List.all_eq_true.1 h4 en<|aJ hj,by rw[hl]⟩)
      |false=>
        rw[h1]at h;simp only[vD]at h
        cases h2:oB H0'.length (σ.length+1)&&q0z (H[idx]?)with
        |false=>rw[h2]at h;cases h
        |true=>
          rw[h2]at h;simp only[aa]at h2;have hlen:=ae h2.1;simp only[wC]at h
          cases h5:h0z (H0'.take σ.length) (s0s σ H)with
          |false=>
            rw[h5]at h;cases h;exact .inr (.inr<|.inr<|.inl ⟨f,args,a0Y σ,_,s0s σ H,v0,H0',hc,ha,j0J c1,c3,hr,hs,by rw[hl];exact hlen,A0C h2.2,by rw[hl]⟩)
          |true=>
            rw[h5]at h;cases h;have h6:=l0Q h5
            have h7:H0'=s0s σ H++ [H0'.getD σ.length .gone]:=by
              conv=>lhs;rw[<-bz σ.length H0']
              rw[h6];congr 1;have hd:=ca (i:=σ.length) (l:=H0') dA;rw[hd,bq dA,am,af dA];rfl
            refine .inr (.inr<|.inr<|.inr ⟨f,args,a0Y σ,_,s0s σ H,v0,H0'.getD σ.length .gone,hc,ha,j0J c1,c3,hr, ?_,A0C h2.2,by rw[hl]⟩);rw[<-h7];exact hs
    cases h
def O0N(ef:Eff)(H:a0e):Bool:=ef.wr.all λx=>oD x.1 H.length
end
/-! Code. -/
/-! Functions. -/
def y0d(H0:a0e)(v1:SV)(H1:a0e):Option (SV×a0e):=
  (fun σ=>bif u0b σ H1&&(SV.rl v1).all (λk=>x0z k σ)&&yA (σ.take H0.length=jC H0.length)&&yC H0.length σ.length then vA (SV.rn (C0q σ) v1,s0s σ H1)else none)
    (o0P H1 100000 ((jC H0.length).flatMap (λi=>Ent.rl<|H1.getD i .gone)++SV.rl v1)<|jC H0.length)
def j0o(ρ:Env)(o:Oper):Option (Nat×Nat):=match o.op with
  | .load _ x=>match a0B ρ x with
    |some (.ptr i off)=>vA (i,off)
    |_=>none
  |_=>none
def O0Y:List (Nat×Ent)->Bool
  | []=>jB
  |_=>oA
def J0h(P:Program)(t:TypeId)(off:Nat)(v:SV)(en:Ent):Bool:=match(b0H en).bind (λcs=>b0q P t<|cs.drop off)with
  |some u=>SV.eqb u v
  |none=>oA
def ldk(P:Program)(o:Oper)(ef:Eff)(q:Option<|Nat×Nat)(ef':Eff):Bool:=match o.op,q with
  | .load t _,vA (i,off)=>O0Y ef.wr&&ef'.wr.all λy=> !(oB y.1 i)||J0h P t off ef.v y.2
  |_,_=>oA
abbrev XT:=(List Nat×List Nat)×(Oper×Eff×Option (Nat×Nat))
def k0e(P:Program)(o:Oper)(rd fw:List Nat)(ef:Eff):List XT->Nat->Bool
  | [],_=>jB
  |x::r,j=>(o.after.any (λe=>wF .any e&&e.on==j)||(s0m x.1.1 x.1.2 rd fw||ldk P x.2.1 x.2.2.1 x.2.2.2 ef))&&k0e P o rd fw ef r (j+1)
def C0K(P:Program)(ops:Array Oper)(base:Nat):List XT->List Oper->(Env->a0e->Prop)->Env->a0e->Prop
  |_,[],K,ρ,H=>K ρ H
  |tr,o::rest,K,ρ,H=> ∃ef,opD P ops base tr.length o ρ H ef/\k0e P o (h0J o ef) (g0D ops base tr.length o ef) ef tr 0=jB/\C0K P ops base (tr++ [((h0J o ef,g0D ops base tr.length o ef),o,ef,j0o ρ o)]) rest K (m0I ρ o.dst ef.v) (a0G H ef.wr)
section
variable {P : Program}{ops : Array Oper}{base : Nat}{md : Region.Mode}
def D0Z{l:List (Nat×Ent)}(h:O0Y l=jB):l=[]:=by cases l with|nil=>rfl|cons _ _=>cases h
def s0V{t:TypeId}{i off:Nat}{v:SV}: ∀(wr:List<|Nat×Ent) (H:a0e),(wr.all λy=> !(oB y.1 i)||J0h P t off v y.2)=jB->((H[i]?).bind b0H).bind (λcs=>b0q P t<|cs.drop off)=vA v->
    (((a0G H wr)[i]?).bind b0H).bind (λcs=>b0q P t<|cs.drop off)=vA v
  | [],H,_,h=>h
  |(j,en)::r,H,ha,h=>by
    simp only[aL,aa]at ha;simp only[a0G];refine s0V r _ ha.2 ?_;by_cases hj:j=i;subst hj
    have hil:j<H.length:=by
      rcases bK j H.length with h1|h1;exact h1;rw[aC h1]at h;cases h
    rw[cB hil];have h1:=ha.1;rw[show oB j j=jB from Nat.beq_refl j]at h1;simp only[Bool.not_true,Bool.false_or]at h1;unfold J0h at h1;show(b0H en).bind _=vA v;split at h1;rename_i u hu;rw[hu,y0e _ _ h1];cases h1;rw[cq hj];exact h
theorem J0z{i:Nat}{d:Option Tmp}(h: ∀t,d=vA t->t∉o.looksAt ops):j0o (m0I ρ d v) o=j0o ρ o:=by
  unfold j0o;split;rename_i t x ho;rw[l0s λt ht=>e0I (h t ht)<|by simp[ho,wB]];rfl
theorem H0l{ρ':Env}{H:a0e}{ef':Eff}{q:Option (Nat×Nat)}(hv: ∀x∈o.op.operands,a0B ρ x=a0B ρ' x)(hg:a0X ops ρ o=a0X ops ρ' o)(hq:j0o ρ o=q)(hk:ldk P o ef q ef'=jB)
    (h:opD P ops base i o ρ H ef):opD P ops base i o ρ' (a0G H ef'.wr) ef:=by
  unfold ldk at hk
  split at hk
  · rename_i t y n off ho
    simp only[aa]at hk;obtain⟨hn,hk⟩:=hk;have hc:b0R o=false:=by unfold b0R;rw[ho]
    have hcr:d0n o=false:=by unfold d0n;rw[ho]
    unfold opD at h⊢;rw[<-hg]
    split
    · rename_i hgt
      rw[hgt]at h;simp only at h;rw[hc,yB dE]at h⊢;obtain⟨h1,h2,h3⟩:=h;refine And.intro (.inl ?_) (And.intro (λhh=>absurd (hcr.symm.trans hh) dG) λx hx=>by rw[D0Z hn]at hx;cases hx)
      rcases h1 with h1|h1|h1
      · have hp:a0B ρ y=vA (.ptr n off):=by
          unfold j0o at hq;rw[ho]at hq;simp only at hq;split at hq;rename_i i1 o1 hx;cases hq;exact hx;cases hq
        have hp':a0B ρ' y=vA (.ptr n off):=by rw[<-hv y (by simp[ho,wB])];exact hp
        have hpe: ∀ρ1:Env,a0B ρ1 y=vA (.ptr n off)-> ∀H1 idx,a0D P o ρ1 H1 idx=(((H1[n]?).bind b0H).bind λcs=>b0q P t<|cs.drop off).map λv=>⟨v,[n],[]⟩:=by
          intro ρ1 h1 H1 idx;unfold a0D;have:a0k P o ρ1=none:=by unfold a0k;rw[ho];simp only;rw[h1]
          rw[this];simp only[a0o,ho,h1];cases(H1[n]?).bind b0H<;>rfl
        rw[hpe ρ hp]at h1;rw[hpe ρ' hp']
        cases hx:((H[n]?).bind b0H).bind (λcs=>b0q P t<|cs.drop off)with
        |none=>rw[hx]at h1;cases h1
        |some v=>
          rw[hx]at h1;have h1:=au h1;subst h1;rw[s0V _ _ hk hx];rfl
      rw[hcr]at h1;cases h1.2;unfold j0Y at h1;rw[ho]at h1;cases h1
    rename_i hgf;rw[hgf]at h;exact h;rename_i hgn;rw[hgn]at h;exact h
  cases hk
theorem C0k{effs:List Eff}{K:Env->a0e->Prop}{oi:Oper}{ei:Eff}{q:Option (Nat×Nat)}(hi:ops[i]?=vA oi)(hei:effs[i]?=vA ei): ∀(fuel:Nat) (listed:Array Bool) (ρ:Env) (H:a0e),
    (∀j oj ej,ops[j]?=vA oj->effs[j]?=vA ej->j≠i->listed.getD j jB=oA->(∀e∈oj.after,wF md e=jB->e.on≠i)->oi.apart ops oj=jB/\(s0m (h0J oi ei) (g0D ops base i oi ei) (h0J oj ej) (g0D ops base j oj ej)=jB\/ldk P oi ei q ej=jB))->
    i∈jH md ops listed->j0o ρ oi=q->opD P ops base i oi ρ H ei->I0O P md ops base effs K fuel (listed.setIfInBounds i jB) (m0I ρ oi.dst ei.v) (a0G H ei.wr)->I0O P md ops base effs K (fuel+1) listed ρ H:=by
  intro fuel
  induction fuel with
  |zero=>
    intro listed ρ H _ hr hq hy h;refine⟨λh0=>(by rw[h0]at hr;cases hr),λj hj=> ?_⟩;by_cases hji:j=i;subst hji;exact⟨oi,ei,hi,hei,hy,h⟩;have:=ready_mono hj hji;rw[h.1]at this;cases this
  |succ fuel ih=>
    intro listed ρ H hfree hr hq hy h;refine⟨λh0=>(by rw[h0]at hr;cases hr),λj hj=> ?_⟩;by_cases hji:j=i;subst hji;exact⟨oi,ei,hi,hei,hy,h⟩;obtain⟨oj,ej,hoj,hej,hdj,hrest⟩:=h.2 j<|ready_mono hj hji;obtain⟨hjun,oj',hoj',hall⟩:=mem_ready.1 hj;rw[hoj]at hoj';cases hoj'
    have hnot: ∀e∈oj.after,wF md e=jB->e.on≠i:=λe he hb heq=>by
      have h1:=hall e he hb;have h0:=(mem_ready.1 hr).1;rw[heq]at h1;rcases bK i listed.size with h'|h';simp[h']at h0 h1;rw[h0]at h1;cases h1;simp[cA h']at h1
    obtain⟨hap,hdis⟩:=hfree j oj ej hoj hej hji hjun hnot;obtain⟨a1,a2,a3⟩:=Oper.apart_spec hap
    have shc: ∀ {a b:Option Ent},m0S a b->m0S b a:=λh=>by
      rcases h with h|⟨n,k,e,c1,c2,q1,q2⟩|⟨c1,c2,q1,q2⟩;exact .inl h.symm;exact .inr<|.inl ⟨n,k,e,c2,c1,q2,q1⟩;exact .inr (.inr ⟨c2,c1,q2,q1⟩)
    have key:opD P ops base j oj ρ H ej/\opD P ops base i oi (m0I ρ oj.dst ej.v) (a0G H ej.wr) ei/\a0G (a0G H ei.wr) ej.wr=a0G (a0G H ej.wr) ei.wr:=by
      rcases hdis with hdis|hld;obtain⟨d1,d2⟩:=u0P hdis;have hwi: ∀x,x∈ei.wr.map yE->2*x∈g0D ops base i oi ei:=λx hx=>x0V hx
      have hwj: ∀x,x∈ej.wr.map yE->2*x∈g0D ops base j oj ej:=λx hx=>x0V hx
      obtain⟨ki1,ki2⟩:=q0r hy
      have hdj':opD P ops base j oj ρ H ej:=n0l (ρ:=m0I ρ oi.dst ei.v) (H:=a0G H ei.wr)
        (λx hx=>l0s λt ht=>e0I (a1 t ht) hx) (j0E a1) (by rw[e0c])
        (λx hx=>(ki1 x (λhm=>by
          have:=d1 _ hm;rcases hx with hx|hx;exact this.1 hx
          exact this.2 hx)).symm) (λx hx=>shc<|ki2 x λhm=>(d1 _ hm).1 hx) hdj
      obtain⟨kj1,kj2⟩:=q0r hdj'
      refine⟨hdj',n0l (ρ:=ρ) (H:=H)
        (λx hx=>(l0s λt ht=>e0I (a3 t ht) hx).symm) (j0E a3).symm (by rw[e0c])
        (λx hx=>kj1 x (λhm=>by
          have:=d2 _ hm;rcases hx with hx|hx;exact this.1 hx
          exact this.2 hx)) (λx hx=>kj2 x λhm=>(d2 _ hm).1 hx) hy, ?_⟩
      exact p0F ei.wr ej.wr H (λx hx hx2=>(d1 _<|hwi x hx).2<|hwj x hx2)
      have hw:ei.wr=[]:=by
        unfold ldk at hld;split at hld;simp only[aa]at hld;exact D0Z hld.1;cases hld
      rw[hw]at hdj⊢
      exact⟨n0l (ρ:=m0I ρ oi.dst ei.v) (H:=a0G H []) (λx hx=>l0s λt ht=>e0I (a1 t ht) hx) (j0E a1) rfl (λx hx=>rfl) (λx hx=> .inl rfl) hdj,
        H0l (λx hx=>(l0s λt ht=>e0I (a3 t ht) hx).symm) (j0E a3).symm hq hld hy,rfl⟩
    obtain⟨hdj',hyi',hcm⟩:=key;refine⟨oj,ej,hoj,hej,hdj', ?_⟩;refine ih (listed.setIfInBounds j jB) _ _ (λk ok ek hk hek hki hun hno=> ?_) (ready_mono hr<|Ne.symm hji) (by rw[J0z (i:=0) a3];exact hq) hyi' ?_;refine hfree k ok ek hk hek hki ?_ hno;by_cases hjk:j=k;subst hjk;exact hjun;rw[getD_set_ne jB hjk]at hun;exact hun;rw[Array.setIfInBounds_comm _ _ hji,<-A0n (ρ:=ρ) (u:=ei.v) (v:=ej.v) a2,<-hcm];exact hrest
def r0P{o:Oper}{rd fw:List Nat}{ef:Eff}: ∀(tr:List XT) (j:Nat),k0e P o rd fw ef tr j=jB-> ∀(k:Nat) (x:XT),tr[k]?=vA x->
    (∃e∈o.after,wF .any e=jB/\e.on=j+k)\/(s0m x.1.1 x.1.2 rd fw=jB\/ldk P x.2.1 x.2.2.1 x.2.2.2 ef=jB)
  | [],j,_,k,x,hk=>by simp at hk
  |x1::r,j,h,k,x,hk=>by
    simp only[k0e,aa,bQ]at h
    cases k with
    |zero=>
      simp at hk;subst hk;rcases h.1 with h1|h1;obtain⟨e,he,hb⟩:=Array.any_eq_true'.1 h1;simp only[aa,beq_iff_eq]at hb;exact .inl ⟨e,he,hb.1,hb.2⟩;exact .inr h1
    |succ k=>
      have:=r0P r (j+1) h.2 k x (by simpa using hk);rw[show j+1+k=j+(k+1)from by omega]at this;exact this
theorem w0H{K:Env->a0e->Prop}: ∀(l:List Oper) (tr:List XT) (listed:Array Bool) (ρ:Env) (H:a0e),(∀j,l[j]?=ops[tr.length+j]?)->(∀(j:Nat) (x:XT),tr[j]?=vA x->ops[j]?=vA x.2.1/\x.1=(h0J x.2.1 x.2.2.1,g0D ops base j x.2.1 x.2.2.1))->
    (∀k,k<tr.length->listed.getD k jB=jB)->zK .any ops l.length tr.length listed=jB->C0K P ops base tr l K ρ H->
    ∃es:List (Eff×Option (Nat×Nat)),es.length=l.length/\I0O P .any ops base ((tr.map λx=>x.2.2.1)++es.map yE) K l.length listed ρ H/\
      ∀(i j:Nat) (oi oj:Oper) (ei:Eff×Option (Nat×Nat)) (ej:Eff),i<j->tr.length<=j->ops[i]?=vA oi->ops[j]?=vA oj->((tr.map λx=>x.2.2)++es)[i]?=vA ei->((tr.map λx=>x.2.2.1)++es.map yE)[j]?=vA ej->
        (∀e∈oj.after,wF .any e=jB->e.on≠i)->s0m (h0J oi ei.1) (g0D ops base i oi ei.1) (h0J oj ej) (g0D ops base j oj ej)=jB\/ldk P oi ei.1 ei.2 ej=jB
  | [],tr,listed,ρ,H,hl,htr,hli,hB,h=>by
    refine⟨[],rfl,⟨by simpa [zK]using hB,h⟩,λi j oi oj ei ej hij hj hoi hoj hei hej=> ?_⟩;rw[aI,bO,ar,aC hj]at hej;cases hej
  |o::l,tr,listed,ρ,H,hl,htr,hli,hB,h=>by
    have h0:ops[tr.length]?=vA o:=by simpa using (hl 0).symm
    simp only[aU,zK,aa]at hB;obtain⟨⟨hr,hf⟩,hB'⟩:=hB;simp only[C0K]at h;obtain⟨ef,hy,hcomp,hK⟩:=h;have hrd:tr.length∈jH .any ops listed:=by simpa using hr
    have hlt:tr.length<listed.size:=by
      have:=(mem_ready.1 hrd).1;rcases bK tr.length listed.size with h'|h';exact h';simp[cA h']at this
    obtain⟨es,hes,hany,hpairs⟩:=w0H l (tr++ [((h0J o ef,g0D ops base tr.length o ef),o,ef,j0o ρ o)]) (listed.setIfInBounds tr.length jB) _ _ (λj=>by
        have:=hl<|j+1;simpa [Nat.add_assoc,Nat.add_comm 1 j]using this) (λj x hj=>by
        rw[aP]at hj;split at hj;exact htr j x hj;rename_i hjl
        have hz:j-tr.length=0:=by
          have:=(ab.1 hj).1;simp at this;omega
        rw[hz]at hj;simp at hj;subst hj;have:j=tr.length:=by omega
        rw[this];exact⟨h0,rfl⟩) (λk hk=>by
        simp only[az,aU,cm]at hk;by_cases hkt:k=tr.length;subst hkt;simp[Array.getD,hlt]
        rw[getD_set_ne jB<|Ne.symm hkt];exact hli k dA) (by simpa using hB') hK
    have hfull:((tr++ [((h0J o ef,g0D ops base tr.length o ef),o,ef,j0o ρ o)]).map λx=>x.2.2.1)++es.map yE=(tr.map λx=>x.2.2.1)++((ef,j0o ρ o)::es).map yE:=by simp
    have hfull2:((tr++ [((h0J o ef,g0D ops base tr.length o ef),o,ef,j0o ρ o)]).map λx=>x.2.2)++es=(tr.map λx=>x.2.2)++((ef,j0o ρ o)::es):=by simp
    rw[hfull]at hany;rw[hfull,hfull2]at hpairs
    have heft:((tr.map λx=>x.2.2.1)++((ef,j0o ρ o)::es).map yE)[tr.length]?=vA ef:=by
      rw[bY dE];simp
    have heft2:((tr.map λx=>x.2.2)++((ef,j0o ρ o)::es))[tr.length]?=vA (ef,j0o ρ o):=by
      rw[bY dE];simp
    have hall: ∀(i j:Nat) (oi oj:Oper) (ei:Eff×Option (Nat×Nat)) (ej:Eff),i<j->tr.length<=j->ops[i]?=vA oi->ops[j]?=vA oj->((tr.map λx=>x.2.2)++((ef,j0o ρ o)::es))[i]?=vA ei->((tr.map λx=>x.2.2.1)++((ef,j0o ρ o)::es).map yE)[j]?=vA ej->
        (∀e∈oj.after,wF .any e=jB->e.on≠i)->s0m (h0J oi ei.1) (g0D ops base i oi ei.1) (h0J oj ej) (g0D ops base j oj ej)=jB\/ldk P oi ei.1 ei.2 ej=true:=by
      intro i j oi oj ei ej hij hj hoi hoj hei hej hno;by_cases hjt:j=tr.length;subst hjt;rw[h0]at hoj;cases hoj;rw[heft]at hej;cases hej
      obtain⟨x,hp⟩: ∃p,tr[i]?=vA p:=⟨tr[i],af hij⟩
      obtain⟨h1,h2⟩:=htr i x hp;rw[hoi]at h1;obtain rfl:=au h1;rw[bI<|by simpa using hij,ar,hp]at hei;obtain rfl:=au hei;rcases r0P _ 0 hcomp i _ hp with⟨e,he,hb,hon⟩|hd;exact absurd (dA:e.on=i)<|hno e he hb;rw[h2]at hd;exact hd;exact hpairs i j oi oj ei ej hij dD hoi hoj hei hej hno
    refine⟨(ef,j0o ρ o)::es,by simp[hes], ?_,hall⟩;rw[aU];refine C0k (q:=j0o ρ o) h0 heft l.length listed ρ H (λj oj ej hoj hej hji hun hno=>⟨Region.free_spec h0 hf j oj hoj hji hun hno, ?_⟩) hrd rfl hy hany
    have hjgt:tr.length<j:=by
      rcases bK tr.length j with h'|h';exact h';have:j<tr.length:=by omega
      rw[hli j this]at hun;cases hun
    exact hall tr.length j o oj (ef,j0o ρ o) ej hjgt dA h0 hoj heft2 hej hno
end
structure Wd(Fc:Fence):Prop where
  fn: ∀f,Fc.fn f
  depth:Fc.depth=none
  calls: ∀ {n:Nat} {P:Program} {f:FuncId} {args:Array Value} {w:World} {R:Ending->World->Prop},Calls P f args w R->CallsIn Fc n P f args w R
  rows: ∀ {n:Nat} {P:Program} {row:String} {args:Array Value} {w:World} {R:Value->World->Prop},Rows P row args w R->RowsIn Fc n P row args w R
theorem x0c{P:Program}{row:String}{args:Array Value}{R:Value->World->Prop}(h:Rows P row args w R):RowsIn Fence.wide n P row args w R:=
  λc cs _=>let⟨v,w',r,s⟩:=h c cs;⟨v,w',r,stepsIn_wide.2 s⟩
def k0J:Wd Fence.wide:=⟨λ_=>trivial,rfl,λh=>callsIn_wide.2 h,x0c⟩
def j0i(l:Nat):Wd (Fence.wide.inRound l):=⟨λ_=>trivial,rfl,λh=>CallsIn.inRound l<|callsIn_wide.2 h,λh=>x0c h⟩
section
variable {Fc : Fence}{n : Nat}{P : Program}{ops ops' : Array Oper}{a : Act}{w : World}{Q : g0c}{o : Oper}
def y0Z(R:Act->World->Prop):g0c:=λe a w=>match e with
  | .normal=>R a w
  |_=>False
theorem q0S(hW:Wd Fc)(hnd: ∀c,o.op≠ .defer c){next next':Act->World->Prop}(hn: ∀a w,next a w->next' a w)(h:o.wp P a w next (y0Z R)):o.wpIn Fc n P a w next' Q:=by
  refine⟨λf _=>hW.fn f, ?_⟩;rw[Oper.semAt_eq _ _ _ hnd];unfold Oper.wp at h;have hdep:Fc.depth.isSome=jB->1<=n:=λhd=>by rw[hW.depth]at hd;cases hd
  generalize(execOp a.eval o).run P w=r at h⊢
  cases r with
  |ok x w'=>
    cases x with
    |value v=>exact hn _ _ h
    |skip=>exact hn _ _ h
    |defer d=>exact hn _ _ h
    |enter f args=>
      refine⟨hdep,(hW.calls<|Calls.mono h ?_)⟩;rintro e w'' he
      cases e with
      |returned v=>exact hn _ _ he
      |panicked c=>exact he.elim
      |outgrown=>obtain⟨a,w,he⟩:=he;exact he.elim
    |row row args=>exact⟨hdep,hW.rows<|Rows.mono h λv w'' hv=>hn _ _ hv⟩
    |_=>exact h.elim
  |halt c w'=>
    cases c with
    |panic v=>exact h.elim
    |_=>exact h.elim
theorem B0b(hq: ∀j,j<q->ops'[j]?=ops[j]?)(hg: ∀j b,o.guard=vA (j,b)->j<q)(tm:Array Value):wG o (yielded ops tm)=wG o (yielded ops' tm):=by
  unfold wG
  cases ho:o.guard with
  |none=>rfl
  |some p=>
    obtain⟨j,b⟩:=p;simp only[yielded,hq j<|hg j b ho]
theorem G0S(hW:Wd Fc)(hq: ∀j,j<q->ops'[j]?=ops[j]?){rest:List Oper}(hR: ∀a w,R a w->wpListIn Fc n P ops Q rest a w):
    ∀(l:List Oper),(∀o∈l,(∀c,o.op≠ .defer c)/\ ∀j b,o.guard=vA (j,b)->j<q)-> ∀a w,wpList P ops' (y0Z R) l a w->wpListIn Fc n P ops Q (l++rest) a w:=by
  intro l
  induction l with
  |nil=>intro _ a w h;exact hR a w h
  |cons o l ih=>
    intro hl a w h;have ho:=hl o<|aB ..;have ih':=ih λx hx=>hl x<|aq _ hx;rw[bn];refine wpListIn_step λKK hKK=> ?_
    rw[B0b hq ho.2];unfold wpList at h;split;rename_i hw;rw[vB hw]at h;rcases h with h|⟨_,a1,w1,h⟩;exact q0S hW ho.1 (λa w hx=>hKK _ _<|ih' a w hx) h;exact h.elim;rename_i hw;rw[yB hw]at h;exact⟨λf _=>hW.fn f,hKK _ _<|ih' _ _ h⟩
def t0u(q:Nat)(o:Oper):Bool:=(match o.op with| .defer _=>oA|_=>jB)&&(match o.guard with|some (j,_)=>oD j q|none=>jB)
def s0y(h:t0u q o=jB):(∀c,o.op≠ .defer c)/\ ∀j b,o.guard=vA (j,b)->j<q:=by
  unfold t0u at h;simp only[aa]at h;refine⟨λc hc=> ?_,λj b hg=> ?_⟩;rw[hc]at h;exact absurd h.1 dE;rw[hg]at h;exact bF (ag<|by simpa [oD]using h.2)
def RJi(Fc:Fence)(n:Nat)(F:Fr)(P:Program)(ops:Array Oper)(p:Nat)(L:LE)(H:a0e)(Q:g0c):Prop:= ∀a w,Sees F L H a w->wpListIn Fc n P ops Q (ops.toList.drop p) a w
variable {F : Fr}{p : Nat}{L : LE}{H : a0e}
theorem RJi.pre{N:Nat}(hW:Wd Fc)(q:Nat)(hN:F.n=N)(h:RJ F P none (ops.extract 0 q) p [] L H<|y0Z λa w=>wpListIn Fc n P ops Q (ops.toList.drop q) a w)(hp:yC p q=true:=by kernel_rfl)
    (hin:(ops.extract 0 q).toList.all (Oper.inB N<|ops.extract 0 q)=true:=by kernel_rfl) (hd:(ops.extract 0 q).toList.all (t0u q)=true:=by kernel_rfl):RJi Fc n F P ops p L H Q:=by
  intro a w hs;have hp:=ag hp;have h1:=h (by rw[hN];exact hin) a w hs
  have e:ops.toList.drop p=(ops.extract 0 q).toList.drop p++ops.toList.drop q:=by
    rw[Array.toList_extract];simp only[cn,cV,bJ]
    conv=>lhs;rw[<-bz q ops.toList]
    rw[db];congr 1;by_cases hq:q<=ops.toList.length;rw[aE,Nat.min_eq_left hq,Nat.sub_eq_zero_of_le hp,cV];have e0:List.drop q ops.toList=[]:=bq dA;rw[e0,List.drop_nil]
  rw[e];refine G0S (ops':=ops.extract 0 q) hW (q:=q) (λj hj=> ?_) (λa w hr=>hr) _ (λo ho=>s0y<|List.all_eq_true.1 hd o<|bL ho) a w h1;rw[Array.getElem?_extract];simp[hj];intro h;omega
def RJi.nx(h:RJi Fc n F P ops q L H Q):PJ F (y0Z λa w=>wpListIn Fc n P ops Q (ops.toList.drop q) a w) .normal L H:=λa w hs=>h a w hs
theorem RJi.done(h:PJ F Q .normal L H)(hp:yC ops.size p=true:=by kernel_rfl):RJi Fc n F P ops p L H Q:=by
  intro a w hs;rw[bq<|by have:=ag hp;simpa using this];exact wpListIn_nil<|h a w hs
theorem J.regI{c:Code}(m:Nat)(k:RJi Fence.wide m F P (h0I c) 0 L H Q)(h:o0x oA c=true:=by kernel_rfl):J F P c L H Q:=by
  cases c with
  |region id ops b=>
    cases b with
    |false=>exact λhin a w hs=>wpIn_wide.1 (wpIn_region_list (n:=m)<|k a w hs)
    |true=>cases h
  |_=>cases h
/-! Code within a fence. -/
def Ji(Fc:Fence)(n:Nat)(F:Fr)(P:Program)(c:Code)(L:LE)(H:a0e)(Q:g0c):Prop:= ∀a w,Sees F L H a w->c.wpIn Fc n P Q a w
theorem Ji.region{c:Code}(k:RJi Fc n F P (h0I c) 0 L H Q)(h:o0x oA c=true:=by kernel_rfl):Ji Fc n F P c L H Q:=by
  cases c with
  |region id ops b=>
    cases b with
    |false=>exact λa w hs=>wpIn_region_list (k a w hs)
    |true=>cases h
  |_=>cases h
theorem Ji.block{c:Code}(i:Nat)(k:Ji Fc n F P (cb c) L H<|vF i Q)(h:z0j i c=true:=by kernel_rfl):Ji Fc n F P c L H Q:=by
  cases c with
  |block j c=>
    have:=ae h;subst this;exact λa w hs=>wpIn_block (k a w hs)
  |_=>cases h
theorem Ji.seq{c:Code}(k:Ji Fc n F P (cl c) L H<|Exit.then ((cr c).wpIn Fc n P Q) Q)(h:s0k c=true:=by kernel_rfl):Ji Fc n F P c L H Q:=by
  cases c with
  |seq x y=>exact λa w hs=>wpIn_seq (k a w hs)
  |_=>cases h
theorem Ji.ret{c:Code}(k:PJ F Q .ret L H)(h:E0E c=true:=by kernel_rfl):Ji Fc n F P c L H Q:=by
  cases c with
  |ret=>exact λa w hs=>wpIn_ret (k a w hs)
  |_=>cases h
/-! Worlds. -/
def F0t{w:World}{b j:Nat}(h:w'.heap[b]?=w.heap[b]?):w'.cell? ⟨b,j,none⟩=w.cell? ⟨b,j,none⟩:=by unfold World.cell?;simp only[h]
def D1(bx:Nat):DM:=λi=>if i=0 then vA (.at bx 0 0)else none
end
theorem w0R{N:Nat}{K:Nat->Nat}{H:a0e}(hl:vals.length=args.length)(hrep: ∀(j:Nat) (x:Value) (c:SV),vals[j]?=vA x->args[j]?=vA c->Rep w K D x c)
    (hi:HInv w K D H) (hG:m0p w K D) (hn:args.length<=N):Sees ⟨N,w,K,D,H,[]⟩ (e0M 0 args) H { tmps:=vals.toArray++yD (N-vals.toArray.size) undef,defers:=[] } w:=by
  have hslots:Slots N w K D (a0p<|e0M 0 args) (vals.toArray++yD (N-vals.toArray.size) undef):=by
    refine⟨dD,λi hin=> ?_,hG⟩;show Rep w K D _ (lk (e0M 0 args) i);rw[l0N,vB<|bo _,bJ];by_cases hia:i<args.length;have hiv:i<vals.length:=by omega
    rw[af hia,bu]
    have hg:(vals.toArray++yD (N-vals.toArray.size) undef).getD i undef=vals[i]:=by
      rw[ba,bW<|by simpa using hiv];simp[hiv]
    rw[hg];exact hrep i _ _ (af hiv)<|af hia;rw[aC dA];exact .undef _
  exact⟨rfl,K,D,⟨hslots,hi,Grow.refl _ _ _ _⟩⟩
def C0h(F:Fr)(v:SV)(H':a0e):Ending->World->Prop:=λe w'=> ∃r,e= .returned r/\Good F.w0 F.K0 F.D0 F.H0 r w' v H'
theorem H0Q{P:Program}{fn:Func}{c:Code}(hf:P.funcs[f]?=vA fn)(hb:fn.body=vA c)(hcal:b0o P f=jB)(hin:b0n fn.ntmps c=jB){H:a0e}(hn:args.length<=fn.ntmps)
    (h: ∀F:Fr,F.n=fn.ntmps->F.H0=H->(∀i,F.H0.length<=i->F.D0 i=none)->(F.ds=[]/\ ∀b,F.K0 b≠0->b<F.w0.heap.size)->J F P c (e0M 0 args) H (bodyPostM Fence.wide 0 P fn<|C0h F v H')):SC P f args H v H':=by
  refine⟨hcal,λw K D vals hl hrep hi hG=> ?_⟩;exact callsIn_wide.1<|callsIn_of_wp_marks (F:=Fence.wide) (n:=0) hf hb trivial<|wpIn_wide.2<|h ⟨fn.ntmps,w,K,D,H,[]⟩ rfl rfl hi.dom ⟨rfl,hi.kw⟩ hin _ w<|w0R hl hrep hi hG hn
theorem K.fnM{P:Program}{fn:Func}{H:a0e}
    (h: ∀F:Fr,F.n=fn.ntmps->F.H0=H->(∀i,F.H0.length<=i->F.D0 i=none)->(F.ds=[]/\ ∀b,F.K0 b≠0->b<F.w0.heap.size)->J F P (e0y fn) (e0M 0 args) H (bodyPostM Fence.wide 0 P fn<|C0h F v H')) (hf:P.funcs[f]?=vA fn:=by kernel_rfl)
    (hb:fn.body.isSome=true:=by kernel_rfl) (hcal:b0o P f=true:=by kernel_rfl) (hin:b0n fn.ntmps (e0y fn)=true:=by kernel_rfl) (hn:yC args.length fn.ntmps=true:=by kernel_rfl):SC P f args H v H':=by
  unfold e0y at*
  cases hbb:fn.body with
  |none=>rw[hbb]at hb;cases hb
  |some c=>rw[hbb]at hin h;exact H0Q hf hbb hcal hin (ag hn) h
def O0i(t8 t9:Nat):Code->Bool| .rangeFunc (.tmp t) ps _ _=>oB t t8&&(match ps.toList with| [q]=>oB q t9|_=>oA)|_=>oA
def ra:Code->Code| .rangeFunc _ _ a _=>a|c=>c
def rb:Code->Code| .rangeFunc _ _ _ b=>b|c=>c
def D2(x y:Option Loc):DM:=λi=>if i=0 then x else if i=1 then y else none
section
variable {n : Nat}{P : Program}{ops : Array Oper}{Q : g0c}{F F' : Fr}{p : Nat}{L : LE}{H : a0e}
theorem PJ.nextF{c:Code}(hn:F'.n=F.n)(h:J F' P c L H Q):PJ F' (l0t F P c Q) .normal L H:=λa w hs hin=>h (by rw[hn];exact hin) a w hs
def PJ.passRetF{c:Code}(h:PJ F' Q .ret L H):PJ F' (l0t F P c Q) .ret L H:=h
end
end
noncomputable def N0i(p:α->Bool)(l:List α):Bool:=List.rec (motive:=λ_=>Bool) jB (λa _ ih=>Bool.rec (motive:=λ_=>Bool) oA ih<|p a) l
def z0N{α:Type}(p:α->Bool): ∀l:List α,N0i p l=l.all p
  | []=>rfl
  |a::l=>by
    show(Bool.rec (motive:=λ_=>Bool) oA (N0i p l) (p a):Bool)=_;rw[aL,z0N p l];cases p a<;>rfl
def N0y(n:Nat):Operand->Bool
  | .tmp t=>oD t n
  |_=>jB
def E0K(n:Nat)(x:Operand):N0y n x=Operand.inB n x:=by
  cases x<;>first|rfl|skip
  rename_i t;show oD t n=yA (t<n);rw[Bool.eq_iff_iff];simp[oD,co,Nat.lt_iff_add_one_le]
def L0U:Option Operand->List Operand
  |some x=> [x]
  |none=> []
def callL(c:Call):List Operand:=match c.callee with
  | .value f=>f::c.args.toList
  | .invoke r _=>r::c.args.toList
  | .builtin _=>c.args.toList
def opL:Op->Option (List Operand)
  | .alloc _| .ready _| .waits _=>vA []
  | .move x| .assign x| .box _ x| .load _ x| .nilCheck x| .unOp _ _ x| .convert _ _ x| .sliceToArrayPointer _ x| .makeInterface _ x
  | .makeChan _ x| .fieldAddr _ x _| .field _ x _| .range _ x| .next x _| .entry x| .typeAssert x _ _ _| .extract x _| .panic x| .recv _ x _=>vA [x]
  | .pick c a b=>vA [c,a,b]
  | .build _ ps| .buildSlice _ _ ps=>vA (ps.toList.map (·.2))
  | .store _ a v| .binOp _ _ a v _| .makeSlice _ a v| .indexAddr _ a v| .index _ a v| .lookup _ a v _| .mapEntry _ a v| .send a v=>vA [a,v]
  | .makeFunc _ first captured=>vA (first.toList++captured.toList)
  | .makeMap _ r=>vA (L0U r)
  | .slice _ x l h m=>vA (x::(L0U l++(L0U h++L0U m)))
  | .mapUpdate _ m k v| .entryStore _ m k v| .insert _ m k v=>vA [m,k,v]
  | .call c| .go c| .defer c=>vA (callL c)
  | .select _ _=>none
def J0F(x:Option Operand):L0U x=x.toArray.toList:=by cases x<;>rfl
def H0K(c:Call):callL c=c.operands.toList:=by
  unfold callL Call.operands;cases c.callee<;>simp
def L0Y{o:Op}{l:List Operand}(h:opL o=vA l):o.operands.toList=l:=by
  cases o<;>simp only[opL,aj]at h<;>first
    |(subst h;simp[wB,J0F,H0K];done)
    |(subst h;simp[wB];done)
    |cases h
noncomputable def G0Y(n:Nat)(o:Op):Bool:=match opL o with
  |some l=>N0i (N0y n) l
  |none=>Op.inB n o
theorem G0X{o:Op}(h:G0Y n o=jB):Op.inB n o=true:=by
  unfold G0Y at h;split at h;rename_i l hl;unfold Op.inB;rw[<-Array.all_toList,L0Y hl,<-h,z0N];congr 1;funext x;exact(E0K n x).symm;exact h
noncomputable def v0J(n:Nat)(ops:Array Oper)(q:Nat)(o:Oper):Bool:=Bool.rec (motive:=λ_=>Bool) oA (t0u q o&&(match o.guard with
    |none=>jB
    |some (j,_)=>match(ops[j]?).bind (·.dst)with
      |some d=>oD d n
      |none=>jB))<|G0Y n o.op
theorem u0D(h:v0J n ops q o=jB):Oper.inB n ops o=jB/\t0u q o=true:=by
  unfold v0J at h
  cases ho:G0Y n o.op with
  |false=>rw[ho]at h;cases h
  |true=>
    rw[ho]at h
    have h:(t0u q o&&(match o.guard with
      |none=>jB
      |some (j,_)=>match(ops[j]?).bind (·.dst)with
        |some d=>oD d n
        |none=>jB))=true:=h
    rw[aa]at h;refine⟨?_,h.1⟩;unfold Oper.inB;rw[aa];refine⟨G0X ho, ?_⟩;have h2:=h.2
    cases hg:o.guard with
    |none=>rfl
    |some p=>
      obtain⟨j,b⟩:=p;rw[hg]at h2;simp only at h2⊢
      cases hd:(ops[j]?).bind (·.dst)with
      |none=>rfl
      |some d=>
        rw[hd]at h2;simp only at h2⊢;exact decide_eq_true (bF<|ag<|by simpa [oD]using h2)
def g0u:Code->Bool
  | .region _ ops _=>ops.toList.all (t0u ops.size)
  | .seq a b=>g0u a&&g0u b
  | .cond _ x y=>g0u x&&g0u y
  | .block _ c=>g0u c
  | .loop c=>g0u c
  |_=>jB
noncomputable def C0s(n:Nat)(c:Code):Bool:=Code.rec (motive:=λ_=>Bool) jB
  (λ_ ops _=>N0i (v0J n ops ops.size) ops.toList)
  (λ_ _ a b=>Bool.rec (motive:=λ_=>Bool) oA b a)
  (λc _ _ a b=>Bool.rec (motive:=λ_=>Bool) oA (Bool.rec (motive:=λ_=>Bool) oA b a)<|N0y n c)
  (λ_ _ a=>a) (λ_ a=>a) (λ_ _ _ _ _ _=>jB) (λ_=>jB) (λ_ _=>oA) (λ_=>jB) (λ_=>jB) jB (λ_=>jB) c
theorem N0P{a:Bool}(h:(Bool.rec (motive:=λ_=>Bool) oA b a:Bool)=jB):a=jB/\b=true:=by
  cases a with
  |true=>exact⟨rfl,h⟩
  |false=>cases h
theorem z0F(c:Code):C0s n c=jB->b0n n c=jB/\g0u c=true:=by
  induction c with
  |region id ops dr=>
    intro h;have h:N0i (v0J n ops ops.size) ops.toList=true:=h;rw[z0N,wD]at h;exact⟨List.all_eq_true.2 λo ho=>(u0D<|h o ho).1,List.all_eq_true.2 λo ho=>(u0D<|h o ho).2⟩
  |seq a b iha ihb=>
    intro h;obtain⟨h1,h2⟩:=N0P (a:=C0s n a) (b:=C0s n b) h;simp only[b0n,g0u,aa];exact⟨⟨(iha h1).1,(ihb h2).1⟩,(iha h1).2,(ihb h2).2⟩
  |cond c x y ihx ihy=>
    intro h;obtain⟨h0,h⟩:=N0P (a:=N0y n c) h;obtain⟨h1,h2⟩:=N0P (a:=C0s n x) (b:=C0s n y) h;rw[E0K]at h0;simp only[b0n,g0u,aa];exact⟨⟨⟨h0,(ihx h1).1⟩,(ihy h2).1⟩,(ihx h1).2,(ihy h2).2⟩
  |block id c ih=>intro h;exact ih h
  |loop c ih=>intro h;exact ih h
  |scope c ih=>intro h;cases h
  |_=>intro _;exact⟨rfl,rfl⟩
noncomputable def O0B(as bd:Code)(m:Nat):Bool:=Nat.rec (motive:=λ_=>Bool) (C0s 0 as&&C0s 0 bd) (λk _=>C0s (k+1) as&&C0s (k+1) bd) m
def K0O(h:O0B as bd m=jB):(b0n m as=jB/\g0u as=jB)/\b0n m bd=jB/\g0u bd=true:=by
  have:(C0s m as&&C0s m bd)=true:=by cases m<;>exact h
  rw[aa]at this;exact⟨z0F _ this.1,z0F _ this.2⟩
section
variable [Inhabited GT]
/-! Slots. -/
inductive TE where
  |e
  |n (v:SV) (l r:TE)
noncomputable def TE.get(t:TE):Nat->SV:=
  TE.rec (motive:=λ_=>Nat->SV) (λ_=> .undef) (λv _ _ gl gr i=>Nat.rec (motive:=λ_=>SV) v (λj _=>Bool.rec (motive:=λ_=>SV) (gr<|Nat.div j 2) (gl<|Nat.div j 2)<|oB (Nat.mod j 2) 0) i) t
noncomputable def TE.path(s:SV)(f:Nat):Nat->TE:=
  Nat.rec (motive:=λ_=>Nat->TE) (λ_=> .n s .e .e) (λ_ ih i=>Nat.rec (motive:=λ_=>TE) (.n s .e .e) (λj _=>Bool.rec (motive:=λ_=>TE) (.n .undef .e<|ih<|Nat.div j 2) (.n .undef (ih<|Nat.div j 2) .e)<|oB (Nat.mod j 2) 0) i) f
noncomputable def TE.set(s:SV)(t:TE):Nat->TE:=
  TE.rec (motive:=λ_=>Nat->TE) (λi=>TE.path s i i) (λv l r sl sr i=>Nat.rec (motive:=λ_=>TE) (.n s l r) (λj _=>Bool.rec (motive:=λ_=>TE) (.n v l<|sr<|Nat.div j 2) (.n v (sl<|Nat.div j 2) r)<|oB (Nat.mod j 2) 0) i) t
noncomputable def TE.put(t:TE)(d:Option Nat)(v:SV):TE:=Option.rec (motive:=λ_=>TE) t (λd=>t.set v d) d
noncomputable def TE.init(i:Nat)(args:List SV)(t:TE):TE:=List.rec (motive:=λ_=>Nat->TE->TE) (λ_ t=>t) (λv _ ih i t=>ih (Nat.succ i)<|t.set v i) args i t
noncomputable def TE.pars(ps:List Nat)(args:List SV)(t:TE):TE:=List.rec (motive:=λ_=>List SV->TE->TE) (λ_ t=>t) (λp _ ih args t=>List.rec (motive:=λ_=>TE) t (λv r _=>ih r<|t.set v p) args) ps args t
/-! Regions. -/
abbrev y0r:=Nat->List SV->a0e->Option (Bool×a0e)
def C0w(ρ:Env)(o:Oper):Option (Nat×List SV):=match o.op with
  | .call c=>match c.callee with
    | .value f=>match a0B ρ f with
      |some (.yld i)=>(c.args.toList.mapM<|a0B ρ).map λl=>(i,l)
      |_=>none
    |_=>none
  |_=>none
def B0g(P:Program)(cl:CallT)(yl:y0r)(o:Oper)(ρ:Env)(H:a0e):Option (SV×a0e):=
  bif b0R o then match g0w ρ o with
    |some (f,args)=>K0Q cl f args H
    |none=>match C0w ρ o with
      |some (i,args)=>match yl i args H with
        |some (b,H')=>vA (.bool b,H')
        |none=>none
      |none=>none
  else match a0D P o ρ H H.length with
    |some ef=>vA (ef.v,b0a H ef.wr)
    |none=>none
/-! A list held against nil. -/
def N0s(H:a0e):SV->Option Bool
  | .lst n _ _=>vA (!oB n 0)
  | .nl=>vA oA
  | .vc i=>match H[i]? with
    |some (.vec n _ _ _)=>vA (!oB n 0)
    |_=>none
  |_=>none
def M0d(P:Program)(ρ:Env)(H:a0e)(o:Oper):Option (Bool×Bool):=match o.op with
  | .binOp op t x y _=>bif k0B P t&&A0D y then(match(a0B ρ x).bind (N0s H),op with
    |some k, .eql=>vA (jB,k)
    |some k, .neq=>vA (oA,k)
    |_,_=>none)else none
  |_=>none
def exO(P:Program)(ρ:Env)(H:a0e)(o:Oper):Option (SV×a0e):=match o.op with
  | .call c=>match c.callee,c.args.toList,c.argTypes.toList with
    | .builtin .cap,[x],[t]=>match P.underlying t,a0B ρ x with
      |some (.slice _),vA .nl=>vA (.int .i64 0,H)
      |_,_=>none
    |_,_,_=>none
  | .slice t x none (vA hi) none=>match P.underlying t,a0B ρ x,a0B ρ hi with
    |some (.slice e),vA .nl,vA (.int _ 0)=>if 0<P.cellsOf e then vA (.nl,H)else none
    |some (.slice e),vA (.vc i),vA (.int _ j)=>match H[i]? with
      |some (.vec n k e' cs)=>if k=P.cellsOf e/\0<n/\0<=j/\j<=n then vA (.vc H.length,h0Y (i0j H<|vA i) H.length<|.vec j.toNat k e'<|cs.take<|j.toNat*k)else none
      |_=>none
    |_,_,_=>none
  |_=>none
/-! Lists that may be written, settled. -/
noncomputable def TE.fz(i:Nat)(s0:SV)(t:TE):TE:=TE.rec (motive:=λ_=>TE) .e (λv _ _ l r=> .n (SV.fz i s0 v) l r) t
noncomputable def I0t:List Nat->TE->a0e->TE×a0e
  | [],t,H=>(t,H)
  |i::r,t,H=>match H[i]? with
    |some (.vec n k _ cs)=>I0t r (t.fz i<|.lst n k cs) (fzH i (.lst n k cs) H)
    |_=>I0t r t H
def I0h(ρ:Env)(o:Oper):List Nat:=o.op.operands.toList.flatMap λx=>match a0B ρ x with
  |some s=>SV.rl s
  |none=> []
def eqR(x y:Option<|SV×a0e):Option (SV×a0e):=match x,y with
  |some (a,H),vA (b,H')=>bif SV.eqb a b&&h0z H H' then vA (a,H)else match a,b with
    | .nl, .vc i=>match H'[H.length]? with
      |some (.vec 0 k e [])=>bif oB i H.length&&h0z (H++ [.vec 0 k e []]) H' then vA (b,H')else none
      |_=>none
    |_,_=>none
  |_,_=>none
section
variable {α : Type}
noncomputable def evN(eqA:Option α->Option α->Option α)(P:Program)(cl:CallT)(yl:y0r)(ops:Array Oper)(l:List Oper):TE->a0e->(TE->a0e->Option α)->Option α:=
  List.rec (motive:=λ_=>TE->a0e->(TE->a0e->Option α)->Option α) (λt H k=>k t H)
    (λo _ ih t H k=>match a0X ops t.get o with
      |some jB=>match B0g P cl yl o t.get H with
        |some (v,H')=>ih (t.put o.dst v) H' k
        |none=>match M0d P t.get H o with
          |some (eq,kn)=>bif kn then ih (t.put o.dst<|.bool<|bif eq then oA else jB) H k
            else eqA (ih (t.put o.dst<|.bool<|bif eq then jB else oA) H k) (ih (t.put o.dst<|.bool<|bif eq then oA else jB) H k)
          |none=>match exO P t.get H o with
            |some (v,H')=>ih (t.put o.dst v) H' k
            |none=>match I0h t.get o with
              | []=>none
              |i::is=>(λz:TE×a0e=>match a0X ops z.1.get o with
                |some jB=>match B0g P cl yl o z.1.get z.2 with
                  |some (v,H')=>ih (z.1.put o.dst v) H' k
                  |none=>none
                |_=>none) (I0t (i::is) t H)
      |some oA=>ih (t.put o.dst<|.tup []) H k
      |none=>none) l
def J0c(P:Program)(cl:CallT)(ops:Array Oper)(base p:Nat)(tr:List XT)(o:Oper)(ρ:Env)(H:a0e):Option Eff:=
  bif b0R o then match g0w ρ o with
    |some (f,args)=>match F0v cl f args H (f0G ops base p)with
      |some ef=>bif k0e P o (h0J o ef) (g0D ops base p o ef) ef tr 0&&O0N ef H then vA ef else none
      |none=>none
    |none=>none
  else match a0D P o ρ H (f0G ops base p)with
    |some ef=>bif k0e P o (h0J o ef) (g0D ops base p o ef) ef tr 0&&((!d0n o||q0z (H[f0G ops base p]?))&&ef.wr.all λx=>oD x.1 H.length)then vA ef else none
    |none=>none
noncomputable def evD(P:Program)(cl:CallT)(ops:Array Oper)(base:Nat)(l:List Oper):Nat->List XT->TE->a0e->(TE->a0e->Option α)->Option α:=
  List.rec (motive:=λ_=>Nat->List XT->TE->a0e->(TE->a0e->Option α)->Option α) (λ_ _ t H k=>k t H)
    (λo _ ih p tr t H k=>match a0X ops t.get o with
      |some jB=>match J0c P cl ops base p tr o t.get H with
        |some ef=>ih (p+1) (tr++ [((h0J o ef,g0D ops base p o ef),o,ef,j0o t.get o)]) (t.put o.dst ef.v) (a0G H ef.wr) k
        |none=>none
      |some oA=>bif k0e P o (h0J o ⟨.tup [],[],[]⟩) (g0D ops base p o ⟨.tup [],[],[]⟩) ⟨.tup [],[],[]⟩ tr 0 then ih (p+1) (tr++ [((h0J o ⟨.tup [],[],[]⟩,g0D ops base p o ⟨.tup [],[],[]⟩),o,⟨.tup [],[],[]⟩,j0o t.get o)]) (t.put o.dst<|.tup []) H k else none
      |none=>none) l
/-! What a call hands back, settled, where the order is open. -/
def K0l:List Nat->SV->a0e->SV×a0e
  | [],v,H=>(v,H)
  |i::r,v,H=>match H[i]? with
    |some (.vec n k _ cs)=>K0l r (SV.fz i (.lst n k cs) v) (fzH i (.lst n k cs) H)
    |_=>K0l r v H
def N0C(cl:CallT):CallT:=λf args H=>match cl f args H with
  |some (v,H')=>bif yC H'.length (H.length+1)then vA (v,H')else
    (λz:SV×a0e=>bif SV.refs H.length z.1&&(z.2.take H.length).all (Ent.refs H.length)&&yC H.length z.2.length then vA (z.1,z.2.take H.length)else none) (K0l (wH H.length<|H'.length-H.length) v H')
  |none=>none
/-! Code. -/
def q0B:LoopState->Bool
  | .busy=>jB
  |_=>oA
def v0U:LoopState->Bool
  | .ready=>jB
  |_=>oA
abbrev KT(α:Type):=TE->a0e->List Nat->Option α
def evJ(i:Nat)(t:TE)(H:a0e)(ms:List Nat)(kn kr:KT α)(kx:Nat->KT α):Option α:=match H[i]? with
  |some (.lop _ _ _ _ st pd)=>bif q0B st then none else match pd with
    |none=>kn t (H.set i .gone) ms
    |some .ret=>kr t (H.set i .gone) ms
    |some (.exit k)=>kx k t (H.set i .gone) ms
    |some _=>none
  |_=>none
noncomputable def evG(it:CallT)(N:Nat)(rd:Option Nat)(g:Operand)(ps:Array Nat)(as bd:Code)(t:TE)(H:a0e)(ms:List Nat)(kn kr:KT α)(kx:Nat->KT α):Option α:=bif Operand.inB N g then match a0B t.get g with
  |some (.fn (.func gf) [] caps)=>match rd with
    |none=>match it gf (.yld (H.length+1)::caps) (H++ [.dfr]++ [.lop ((jC N).map t.get) ps.toList as bd .ready none])with
      |some (_,H2)=>evJ (H.length+1) t H2 (H.length::ms) kn kr kx
      |none=>none
    |some i=>match H[i]? with
      |some (.lop _ _ _ _ _ _)=>match it gf (.yld H.length::caps) (H++ [.lop ((jC N).map t.get) ps.toList as bd .ready none])with
        |some (_,H2)=>evJ H.length t H2 ms kn kr kx
        |none=>none
      |_=>none
  |_=>none else none
noncomputable def ewC(eqA:Option α->Option α->Option α)(P:Program)(cl it:CallT)(yl:y0r)(B N:Nat)(rd:Option Nat)(c:Code):TE->a0e->List Nat->KT α->KT α->(Nat->KT α)->Option α:=
  Code.rec (motive:=λ_=>TE->a0e->List Nat->KT α->KT α->(Nat->KT α)->Option α)
    (λt H ms kn _ _=>kn t H ms)
    (λ_ ops dr t H ms kn _ _=>bif dr then
        (bif P.follows .mixedOrders&&vG .any ops then evD P (N0C cl) ops H.length ops.toList 0 [] t (H++oC (e0k ops) .res) (λt H=>kn t H ms)else none)
      else evN eqA P cl yl ops ops.toList t H λt H=>kn t H ms)
    (λ_ _ iha ihb t H ms kn kr kx=>iha t H ms (λt H ms=>ihb t H ms kn kr kx) kr kx)
    (λc _ _ ihx ihy t H ms kn kr kx=>match a0B t.get c with
      |some (.bool b)=>Bool.rec (motive:=λ_=>Option α) (ihy t H ms kn kr kx) (ihx t H ms kn kr kx) b
      |_=>none)
    (λid _ ih t H ms kn kr kx=>ih t H ms kn kr λi t H ms=>bif oB i id then kn t H ms else kx i t H ms)
    (λ_ ih t H ms _ kr kx=>Nat.rec (motive:=λ_=>KT α) (λ_ _ _=>none) (λ_ go t H ms=>ih t H ms go kr kx) B t H ms)
    (λg ps as bd _ _ t H ms kn kr kx=>evG it N rd g ps as bd t H ms kn kr kx)
    (λi t H ms _ _ kx=>kx i t H ms)
    (λ_ _ _ _ _ _ _ _=>none)
    (λ_ _ _ _ _ _ _=>none)
    (λ_ _ _ _ _ _ _=>none)
    (λt H ms _ kr _=>kr t H ms)
    (λ_ _ _ _ _ _ _=>none) c
end
/-! Functions, rounds. -/
noncomputable def N0T(P:Program)(f:FuncId)(fn:Func)(c:Code):Bool:=b0o P f&&C0s fn.ntmps c&&j0R fn.ntmps fn.results.toList
def A0U:List Nat->a0e->Option a0e
  | [],H=>vA H
  |i::r,H=>match H[i]? with
    |some .dfr=>A0U r (H.set i .gone)
    |_=>none
noncomputable def v0Y(P:Program)(fn:Func)(H:a0e)(t:TE)(H1:a0e)(ms:List Nat):Option (SV×a0e):=match A0U ms H1 with
  |some H2=>match u0z P fn.results.toList ((e0p fn.results.toList).map λi=>(i,t.get i)) H2 with
    |some v1=>y0d H v1 H2
    |none=>none
  |none=>none
noncomputable def O0q(P:Program)(kn cl:CallT)(yl:y0r)(B:Nat):CallT:=λf args H=>match kn f args H with
  |some r=>vA r
  |none=>match P.funcs[f]? with
    |none=>none
    |some fn=>match fn.body with
      |none=>none
      |some c=>bif N0T P f fn c&&yC args.length fn.ntmps then
          ewC eqR P cl cl yl B fn.ntmps none c (TE.init 0 args .e) H [] (v0Y P fn H) (v0Y P fn H) (λ_ _ _ _=>none)
        else none
def v0y(i:Nat)(j:Option Code)(H:a0e):Option (Bool×a0e):=match H[i]? with
  |some (.lop tm ps as bd _ _)=>vA (j.isNone,H.set i<|.lop tm ps as bd (bif j.isNone then .ready else .done) j)
  |_=>none
noncomputable def O0p(P:Program)(cl:CallT)(yl:y0r)(B:Nat):y0r:=λi args H=>match H[i]? with
  |some (.lop tm ps as bd st pd)=>bif v0U st&&oB args.length ps.length&&O0B as bd tm.length then
      ewC (λ_ _=>none) P cl cl yl B tm.length (vA i) as (TE.pars ps args<|TE.init 0 tm .e) H []
        (λt1 H1 ms1=>match H1[i]? with
          |some (.lop tm1 ps1 as1 bd1 st1 pd1)=>bif v0U st1 then ewC (λ_ _=>none) P cl cl yl B tm.length (vA i) bd t1 (H1.set i<|.lop tm1 ps1 as1 bd1 .busy pd1) ms1
              (λ_ H2 _=>v0y i none H2) (λ_ H2 _=>v0y i (vA .ret) H2) (λk _ H2 _=>v0y i (vA<|.exit k) H2)else none
          |_=>none) (λ_ _ _=>none) (λ_ _ _ _=>none)
    else none
  |_=>none
def blk(fs:List Nat)(cl:CallT):CallT:=λf args H=>bif x0z f fs&& !((SV.rlL args).isEmpty)then none else cl f args H
noncomputable def evA(P:Program)(kn:CallT)(fz:List Nat)(B n:Nat):CallT×y0r:=
  Nat.rec (motive:=λ_=>CallT×y0r) (λ_ _ _=>none,λ_ _ _=>none) (λ_ ih=>(blk fz<|O0q P kn ih.1 ih.2 B,O0p P ih.1 ih.2 B)) n
/-! Slots. -/
theorem TE.get_s(v:SV)(l r:TE)(j:Nat):(TE.n v l r).get (j+1)=if j%2=0 then l.get (j/2)else r.get (j/2):=by
  show(Bool.rec (motive:=λ_=>SV) (r.get<|j/2) (l.get<|j/2) (oB (j%2) 0):SV)=_
  cases h:oB (j%2) 0 with
  |true=>rw[vB<|ae h]
  |false=>rw[yB λe=>by rw[e]at h;simp at h]
def TE.path_s(s:SV)(f j:Nat):TE.path s (f+1) (j+1)=if j%2=0 then .n .undef (TE.path s f<|j/2) .e else .n .undef .e (TE.path s f<|j/2):=by
  show(Bool.rec (motive:=λ_=>TE) (TE.n .undef .e<|TE.path s f<|j/2) (TE.n .undef (TE.path s f<|j/2) .e) (oB (j%2) 0):TE)=_
  cases h:oB (j%2) 0 with
  |true=>rw[vB<|ae h]
  |false=>rw[yB λe=>by rw[e]at h;simp at h]
theorem TE.set_s(s v:SV)(l r:TE)(j:Nat):(TE.n v l r).set s (j+1)=if j%2=0 then .n v (l.set s<|j/2) r else .n v l (r.set s<|j/2):=by
  show(Bool.rec (motive:=λ_=>TE) (TE.n v l<|r.set s<|j/2) (TE.n v (l.set s<|j/2) r) (oB (j%2) 0):TE)=_
  cases h:oB (j%2) 0 with
  |true=>rw[vB<|ae h]
  |false=>rw[yB λe=>by rw[e]at h;simp at h]
theorem TE.get_path(s:SV): ∀(f i j:Nat),i<=f->(TE.path s f i).get j=if j=i then s else .undef:=by
  intro f
  induction f with
  |zero=>
    intro i j h;obtain rfl:i=0:=by omega
    cases j with
    |zero=>rfl
    |succ j=>rw[yB dA];show(TE.n s .e .e).get (j+1)=_;rw[TE.get_s];split<;>rfl
  |succ f ih=>
    intro i j h
    cases i with
    |zero=>
      cases j with
      |zero=>rfl
      |succ j=>rw[yB dA];show(TE.n s .e .e).get (j+1)=_;rw[TE.get_s];split<;>rfl
    |succ i=>
      rw[TE.path_s];by_cases hp:i%2=0;rw[vB hp]
      cases j with
      |zero=>rw[yB dA];rfl
      |succ j=>
        rw[TE.get_s];by_cases hq:j%2=0;rw[vB hq,ih (i/2) (j/2) dA];by_cases he:j=i;subst he;simp;rw[yB dA,yB dA];rw[yB hq,yB dA];rfl
      rw[yB hp]
      cases j with
      |zero=>rw[yB dA];rfl
      |succ j=>
        rw[TE.get_s];by_cases hq:j%2=0;rw[vB hq,yB dA];rfl;rw[yB hq,ih (i/2) (j/2) dA];by_cases he:j=i;subst he;simp;rw[yB dA,yB dA]
theorem TE.get_set(s:SV): ∀(t:TE) (i j:Nat),(t.set s i).get j=if j=i then s else t.get j:=by
  intro t
  induction t with
  |e=>intro i j;exact TE.get_path s i i j (ak _)
  |n v l r ihl ihr=>
    intro i j
    cases i with
    |zero=>
      cases j with
      |zero=>rfl
      |succ j=>rw[yB dA];show(TE.n s l r).get (j+1)=_;rw[TE.get_s,TE.get_s]
    |succ i=>
      rw[TE.set_s];by_cases hp:i%2=0;rw[vB hp]
      cases j with
      |zero=>rw[yB dA];rfl
      |succ j=>
        rw[TE.get_s,TE.get_s];by_cases hq:j%2=0;rw[vB hq,vB hq,ihl];by_cases he:j=i;subst he;simp;rw[yB dA,yB dA];rw[yB hq,yB hq,yB dA]
      rw[yB hp]
      cases j with
      |zero=>rw[yB dA];rfl
      |succ j=>
        rw[TE.get_s,TE.get_s];by_cases hq:j%2=0;rw[vB hq,vB hq,yB dA];rw[yB hq,yB hq,ihr];by_cases he:j=i;subst he;simp;rw[yB dA,yB dA]
theorem TE.put_env{L:LE}{t:TE}(h:a0p L=t.get)(d:Option Nat)(v:SV):a0p (g0g L d v)=(t.put d v).get:=by
  rw[<-b0b]
  cases d with
  |none=>exact h
  |some d=>
    funext j;show upd (a0p L) d v j=(t.set v d).get j;rw[TE.get_set,h];rfl
def TE.init_get: ∀(args:List SV) (i:Nat) (t:TE) (j:Nat),(TE.init i args t).get j=if i<=j then(args[j-i]?).getD (t.get j)else t.get j
  | [],i,t,j=>by show t.get j=_;simp
  |v::r,i,t,j=>by
    show(TE.init (i+1) r<|t.set v i).get j=_;rw[TE.init_get r (i+1) (t.set v i) j,TE.get_set];by_cases h1:i+1<=j;rw[vB h1,yB dA,vB dA,show j-i=(j-(i+1))+1 from by omega];simp;rw[yB h1];by_cases h2:j=i;subst h2;simp;rw[yB h2,yB dA]
theorem TE.init_env(args:List SV):a0p (e0M 0 args)=(TE.init 0 args .e).get:=by
  funext j;show lk (e0M 0 args) j=_;rw[l0N,TE.init_get];rfl
/-! Operations within a fence. -/
section
variable {Fc : Fence}{F : Fr}{P : Program}{ops : Array Oper}{L : LE}{H : a0e}{Q : g0c}{o : Oper}{l : List Oper}
def RLi(Fc:Fence)(F:Fr)(P:Program)(ops:Array Oper)(l:List Oper)(L:LE)(H:a0e)(Q:g0c):Prop:= ∀a w,Sees F L H a w->wpListIn Fc 0 P ops Q l a w
theorem RLi.go(hg:a0X ops (a0p L) o=vA jB)(hb:Oper.inB F.n ops o=jB)(h: ∀a w,Sees F L H a w->o.wpIn Fc 0 P a w (λa' w'=>wpListIn Fc 0 P ops Q l a' w') Q):RLi Fc F P ops (o::l) L H Q:=by
  intro a w hs;refine wpListIn_step λKK hKK=> ?_
  obtain⟨hd,K,D,hi⟩:=hs;rw[b0x hi.slots (Oper.inB_guard hb) hg,vB rfl];exact Oper.wpIn_mono hKK<|h a w ⟨hd,K,D,hi⟩
theorem RLi.skip(hW:Wd Fc)(hg:a0X ops (a0p L) o=vA oA)(hb:Oper.inB F.n ops o=jB)(h:RLi Fc F P ops l (g0g L o.dst<|.tup []) H Q):RLi Fc F P ops (o::l) L H Q:=by
  intro a w hs;refine wpListIn_step λKK hKK=> ?_
  obtain⟨hd,K,D,hi⟩:=hs;rw[b0x hi.slots (Oper.inB_guard hb) hg,yB dE];exact⟨λf _=>hW.fn f,hKK _ _<|h _ w ⟨by rw[a0L];exact hd,K,D,by have:=v0A hi o.dst;rw[b0b]at this;exact this⟩⟩
theorem RLi.step(hW:Wd Fc)(hg:a0X ops (a0p L) o=vA jB)(hb:Oper.inB F.n ops o=jB)(hnd: ∀c,o.op≠ .defer c)(he:a0D P o (a0p L) H H.length=vA ef)
    (h:RLi Fc F P ops l (g0g L o.dst ef.v) (b0a H ef.wr) Q):RLi Fc F P ops (o::l) L H Q:=
  RLi.go hg hb λa w hs=>by
    obtain⟨hd,K,D,hi⟩:=hs;exact q0S (R:=λ_ _=>False) hW hnd (λa w hx=>hx) (B0J hi hd (Oper.inB_op hb) (.inl rfl) he λa' w' hst'=>h a' w'<|by rw[b0b]at hst';exact hst')
theorem RLi.call(hW:Wd Fc)(hg:a0X ops (a0p L) o=vA jB)(hb:Oper.inB F.n ops o=jB)(hnd: ∀c,o.op≠ .defer c)(hc:g0w (a0p L) o=vA (f,args))(hs:SC P f args H v H')
    (h:RLi Fc F P ops l (g0g L o.dst v) H' Q):RLi Fc F P ops (o::l) L H Q:=
  RLi.go hg hb λa w hst=>by
    obtain⟨hd,K,D,hi⟩:=hst;exact q0S (R:=λ_ _=>False) hW hnd (λa w hx=>hx) (p0E hi hd (Oper.inB_op hb) hc hs λa' w' hst'=>h a' w'<|by rw[b0b]at hst';exact hst')
/-! Yields. -/
def YS(P:Program)(i:Nat)(args:List SV)(H:a0e)(b:Bool)(H':a0e):Prop:=
  ∀(Fc:Fence),Wd Fc->(∀l,Fc.inRound l=Fence.wide.inRound l)-> ∀(w:World) (K:Nat->Nat) (D:DM) (vals:List Value),vals.length=args.length->(∀(j:Nat) (v:Value) (c:SV),vals[j]?=vA v->args[j]?=vA c->Rep w K D v c)->HInv w K D H->m0p w K D->
    ∃l,D i=vA (.at l 0 0)/\YieldAt Fc 0 P l vals.toArray w (λe w'=>e= .returned (.bool b)/\ ∃K' D',Grow w K D H w' K' D' H'/\HInv w' K' D' H')
def YOk(P:Program)(yl:y0r):Prop:= ∀i args H b H',yl i args H=vA (b,H')->YS P i args H b H'
def J0s{K:Nat->Nat}{v:Value}(h:Rep w K D v<|.yld i): ∃l c n,v= .func (.yield l) #[] #[]/\D i=vA (.at l c n):=by
  cases h with
  |yld _ l c n hd=>exact⟨l,c,n,rfl,hd⟩
theorem y0y{K:Nat->Nat}(h:Slots m w K D ρ a.tmps)(hb:Op.inB m o.op=jB)(hc:C0w ρ o=vA (i,args)):
    ∃(l c n:Nat) (vals:List Value),D i=vA (.at l c n)/\vals.length=args.length/\(∀(j:Nat) (v:Value) (c:SV),vals[j]?=vA v->args[j]?=vA c->Rep w K D v c)/\(execOp a.eval o).run P w=(Instr.yield l vals.toArray).run P w:=by
  unfold C0w at hc;split at hc;rename_i c ho;split at hc;rename_i fo hcal;split at hc;rename_i i' hfe
  cases hm:c.args.toList.mapM (a0B ρ)with
  |none=>rw[hm]at hc;cases hc
  |some l'=>
    rw[hm]at hc;cases hc;unfold Op.inB at hb;rw[aT]at hb;obtain⟨l,c',n,hv,hD⟩:=J0s (a0i h (hb fo<|by simp[ho,wB,Call.operands,hcal]) hfe);have hxs: ∀x∈c.args.toList,Operand.inB m x=true:=λx hx=>hb x (by simp only[ho,wB,Call.operands];exact bv.2<|.inr<|aO.1 hx)
    obtain⟨q1,q2⟩:=F0D h _ _ hxs hm;refine⟨l,c',n,c.args.toList.map a.eval,hD,q1.symm,q2, ?_⟩;unfold execOp;simp only[ho,resolve,hcal,hv,Deferred.ofValue,invoke,zD,vE,vC];simp;rw[<-Array.toList_map,Array.toArray_toList]
  cases hc;cases hc;cases hc
theorem RLi.yield(hW:Wd Fc)(hW2: ∀l,Fc.inRound l=Fence.wide.inRound l)(hg:a0X ops (a0p L) o=vA jB)(hb:Oper.inB F.n ops o=jB)(hnd: ∀c,o.op≠ .defer c)(hc:C0w (a0p L) o=vA (i,args))(hY:YS P i args H b H')
    (h:RLi Fc F P ops l (g0g L o.dst<|.bool b) H' Q):RLi Fc F P ops (o::l) L H Q:=
  RLi.go hg hb λa w hst=>by
    obtain⟨hd,K,D,hi⟩:=hst;obtain⟨l1,c,n,vals,hD,q1,q2,hrun⟩:=y0y (P:=P) (w:=w) hi.slots (Oper.inB_op hb) hc;obtain⟨l2,hD2,fn,tmps,assign,body,hy,hR⟩:=hY Fc hW hW2 w K D vals q1 q2 hi.hinv hi.slots.glob;rw[hD]at hD2;cases hD2;refine⟨λf _=>hW.fn f, ?_⟩;rw[Oper.semAt_eq _ _ _ hnd,hrun,hy,Oper.uponIn_round];refine⟨λhx=>(by rw[hW.depth]at hx;cases hx),hR.mono ?_⟩;rintro e w' ⟨rfl,K',D',g,hi'⟩;have:=hi.step (r:= .bool b) (s:= .bool b) ⟨K',D',g,hi', .bool b⟩ o.dst;refine h _ w' ⟨by rw[a0L];exact hd, ?_⟩;rw[b0b]at this;exact this
/-! A list held against nil. -/
theorem J0H{K:Nat->Nat}{v:Value}{k:Bool}(h:Rep w K D v s)(hi:HInv w K D H)(hk:N0s H s=vA k): ∃ad n c,v= .slice ad n c/\(k=jB->ad.isNone=oA):=by
  cases h with
  |nl a=>cases hk;exact⟨a,0,0,rfl,dE⟩
  |emp k' a cap=>cases hk;exact⟨a,0,cap,rfl,dE⟩
  |lst k' b off len cap vs cs=>exact⟨_,_,_,rfl,λ_=>rfl⟩
  |vcn i a hd=>
    refine⟨a,0,0,rfl,λhkt=> ?_⟩;simp only[N0s]at hk;split at hk;rename_i n k' e cs he;rcases(hi.ent _ _ he).2 with⟨_,h2,_⟩|⟨b,c,vs,rest,h1,_⟩;subst h2;cases hk;cases hkt;rw[hd]at h1;cases h1;cases hk
  |vc i b c n hd=>exact⟨_,_,_,rfl,λ_=>rfl⟩
  |_=>cases hk
theorem H0c{K:Nat->Nat}(hs:Slots m w K D (a0p L) a.tmps)(hi:HInv w K D H)(hb:Op.inB m o.op=jB){eq k:Bool}(h:M0d P (a0p L) H o=vA (eq,k)):
    ∃b:Bool,(k=jB->b=oA)/\(execOp a.eval o).run P w= .ok (.value<|.bool<|bif eq then b else !b) w:=by
  unfold M0d at h
  split at h
  · rename_i op t x y u ho
    cases hty:(k0B P t&&A0D y)with
    |false=>rw[hty]at h;cases h
    |true=>
      rw[hty]at h;simp only[aa]at hty;obtain⟨ht,hy⟩:=hty;simp only[wC]at h;unfold Op.inB at hb;rw[aT]at hb;have hxb:=hb x (by simp[ho,wB])
      have hyv:a.eval y= .slice none 0 0:=by
        cases y with
        |const v=>cases v<;>first|(cases hy;done)|(rename_i a1 b1 c1;cases a1<;>first|(cases hy;done)|(cases b1<;>first|(cases hy;done)|(cases c1<;>first|(cases hy;done)|rfl)))
        |_=>cases hy
      have hex:execOp a.eval o=(do pure (Next.value<|<-(do eqGuard op t x y (a.eval x) (a.eval y);binOp op t (a.eval x) (a.eval y):Sem Value))):=by unfold execOp;rw[ho]
      cases hx:a0B (a0p L) x with
      |none=>rw[hx]at h;simp at h
      |some s=>
        rw[hx]at h;simp only[ah]at h;have hr:=a0i hs hxb hx
        cases hn:N0s H s with
        |none=>rw[hn]at h;simp at h
        |some k'=>
          rw[hn]at h;obtain⟨ad,n,c,hv,hk⟩:=J0H hr hi hn;cases op<;>simp only[aj,aG,reduceCtorEq]at h
          obtain⟨rfl,rfl⟩:=h;exact⟨ad.isNone,hk,by rw[hex,hv,hyv];exact b0k<|w0W ht⟩;obtain⟨rfl,rfl⟩:=h;exact⟨ad.isNone,hk,by rw[hex,hv,hyv];exact b0k<|u0w ht⟩
  cases h
theorem RLi.isNil(hW:Wd Fc)(hg:a0X ops (a0p L) o=vA jB)(hb:Oper.inB F.n ops o=jB)(hnd: ∀c,o.op≠ .defer c){eq k:Bool}(hn:M0d P (a0p L) H o=vA (eq,k))
    (h: ∀b:Bool,(k=jB->b=oA)->RLi Fc F P ops l (g0g L o.dst<|.bool<|bif eq then b else !b) H Q):RLi Fc F P ops (o::l) L H Q:=
  RLi.go hg hb λa w hst=>by
    obtain⟨hd,K,D,hi⟩:=hst;obtain⟨b,hk,hrun⟩:=H0c (P:=P) hi.slots hi.hinv (Oper.inB_op hb) hn;refine q0S (R:=λ_ _=>False) hW hnd (λa w hx=>hx) ?_;unfold Oper.wp;rw[hrun];refine h b hk _ w ⟨by rw[a0L];exact hd,K,D, ?_,hi.hinv,hi.grow⟩;have h9:=hi.slots.put o.dst (s:= .bool<|bif eq then b else !b)<|.bool _;rw[b0b]at h9;exact h9
end
theorem RLi.ok{P:Program}{L:LE}{H:a0e}{l:List Oper}(hW:Wd Fc)(hg:a0X ops (a0p L) o=vA jB)(hb:Oper.inB F.n ops o=jB)(hnd: ∀c,o.op≠ .defer c)
    (hop: ∀(a:Act) (w:World) (K:Nat->Nat) (D:DM),Inv F w K D H (a0p L) a.tmps->q0R P w K D H o a v H') (h:RLi Fc F P ops l (g0g L o.dst v) H' Q):RLi Fc F P ops (o::l) L H Q:=
  RLi.go hg hb λa w hst=>by
    obtain⟨hd,K,D,hi⟩:=hst;obtain⟨r,w',hrun,g⟩:=hop a w K D hi;refine q0S (R:=λ_ _=>False) hW hnd (λa w hx=>hx) ?_
    have hK: ∀r',r'=r->wpListIn Fc 0 P ops Q l (a.put o.dst r') w':=λr' e=>by
      subst e;have:=hi.step g o.dst;rw[b0b]at this;exact h _ w' ⟨by rw[a0L];exact hd,this⟩
    unfold Oper.wp;rcases hrun with hrun|⟨hrun,hr⟩;rw[hrun];exact hK _ rfl;rw[hrun];exact hK _ hr.symm
theorem E0V{P:Program}{L:LE}{H:a0e}(h:exO P (a0p L) H o=vA (v,H')){K:Nat->Nat}(hi:Inv F w K D H (a0p L) a.tmps)(hb:Op.inB F.n o.op=jB):q0R P w K D H o a v H':=by
  unfold Op.inB at hb;rw[aT]at hb;unfold exO at h;split at h;rename_i c ho;split at h;rename_i x t hcal hargs htys;split at h;rename_i e hu hx;cases h;have hr:=a0i hi.slots (hb x<|by simp only[ho,wB,Call.operands];exact bv.2<|.inr<|aO.1<|by rw[hargs];simp) hx;generalize hv:a.eval x=vx at hr
  cases hr with
  |nl ad=>
    have ha:c.args= #[x]:=by rw[<-hargs]
    have ht:c.argTypes= #[t]:=by rw[<-htys]
    have hrun: ∀r,(Builtin.cap_ #[t] o.type #[a.eval x]).run P w= .ok r w->(execOp a.eval o).run P w= .ok (.value r) w:=λr hr=>by
      unfold execOp;simp only[ho,resolve,hcal,ha,ht];simp[invoke,builtin,zD,hr]
    exact⟨.int .i64 0,w, .inl<|hrun _<|by rw[hv];simp[Builtin.cap_,run_underlying hu,goInt],Good.here hi.hinv<|.int _ _⟩
  cases h
  cases h
  · rename_i t x hi0 ho
    split at h
    · rename_i e kd hu hx hh
      split at h
      · rename_i hk
        cases h;have hr:=a0i hi.slots (hb x<|by simp[ho,wB]) hx;have hr2:=a0i hi.slots (hb hi0<|by simp[ho,wB]) hh;generalize hv:a.eval x=vx at hr;generalize hv2:a.eval hi0=vh at hr2;cases hr2
        cases hr with
        |nl ad=>
          have hadd:ad.map (λx=>x.add 0)=ad:=by cases ad<;>simp[Addr.add]
          refine⟨.slice ad 0 0,w, .inl ?_,Good.here hi.hinv<|.nl _⟩;unfold execOp;simp only[ho];simp[yG,wK,jE,oI,asIntOf,run_underlying hu,b0N hk,hv,hv2,hadd]
      cases h
    rename_i e i kd j hu hx hh;split at h;rename_i n k e' cs hH;split at h;rename_i hc;obtain⟨hk,hn,hj0,hjn⟩:=hc;cases h;have hr:=a0i hi.slots (hb x<|by simp[ho,wB]) hx;have hr2:=a0i hi.slots (hb hi0<|by simp[ho,wB]) hh;generalize hv:a.eval x=vx at hr;generalize hv2:a.eval hi0=vh at hr2;cases hr2;obtain⟨hp,hent⟩:=hi.hinv.ent _ _ hH;rcases hent with⟨_,h2,_⟩|⟨b,c,vs,rest,h1,h2,h3,h4,h5,h6,h7,h8,h9⟩;omega;have hil:i<H.length:=(ab.1 hH).1
    have hval:vx= .slice (vA ⟨b,0,none⟩) n c:=by
      cases hr with
      |vcn _ ad hd=>rw[h1]at hd;cases hd
      |vc _ b' c' n' hd=>rw[h1]at hd;cases hd;rfl
    have hjk:j.toNat*k<=n*k:=aK k dA
    obtain⟨g,hiv⟩:=place (w':=w) (en:= .vec j.toNat k e'<|cs.take<|j.toNat*k) (idx:=H.length) (b:=b) (c:=c) (m:=j.toNat) (x:=vA i) hi.hinv (.inl rfl) dD (.inr ⟨i,_,c,n,rfl,hH,rfl,h1⟩) rfl rfl rfl (ak _) (λ_ _ _=>rfl)
      (λhrp=>⟨f0B hp _, .inr ⟨b,c,vs.take<|j.toNat*k,vs.drop (j.toNat*k)++rest,vB rfl,h2,h3,dA,h5,by rw[<-aS,bz];exact h6,by rw[aE];omega,
        by rw[<-aS,bz];exact h8,⟨by rw[aE,aE,h9.len],λv hv=>h9.one v<|bM hv,λq v c' hv hc'=>by
          rw[aM]at hv hc';split at hv;rename_i hq;rw[vB hq]at hc';exact hrp _ _ (h9.rep q v c' hv hc')
          cases hv⟩⟩⟩)
    refine⟨.slice (vA ⟨b,0,none⟩) j.toNat c,w, .inl ?_,K,_,g,hiv, .vc _ b c j.toNat<|vB rfl⟩;unfold execOp;simp only[ho];have hjc:j<=(c:Int):=by omega
    by_cases hc0:c=0;omega;simp[yG,wK,jE,oI,asIntOf,run_underlying hu,b0N (show 0<P.cellsOf e by rw[<-hk];exact h3),hv,hv2,hval,hj0,hjc,hc0,Addr.add];cases h;cases h;cases h
  cases h
theorem TE.get_fz(i:Nat)(s0:SV): ∀(t:TE) (j:Nat),(t.fz i s0).get j=SV.fz i s0 (t.get j):=by
  intro t
  induction t with
  |e=>intro j;rfl
  |n v l r ihl ihr=>
    intro j;show(TE.n (SV.fz i s0 v) (l.fz i s0)<|r.fz i s0).get j=_
    cases j with
    |zero=>rfl
    |succ j=>
      rw[TE.get_s,TE.get_s];split;exact ihl _;exact ihr _
theorem z0p{F:Fr}: ∀(is:List Nat) (t:TE) (H:a0e) (L:LE),a0p L=t.get-> ∃L2,Wk F L H L2 (I0t is t H).2/\a0p L2=(I0t is t H).1.get
  | [],t,H,L,h=>⟨L,λa w hs=>hs,h⟩
  |i::is,t,H,L,h=>by
    simp only[I0t];split;rename_i n k e cs he;have h1:=Wk.freeze (F:=F) (L:=L) i he
    obtain⟨L2,h2,h3⟩:=z0p (F:=F) is (t.fz i<|.lst n k cs) (fzH i (.lst n k cs) H) (fzE i (.lst n k cs) L) (by
      funext j;show lk (fzE i (.lst n k cs) L) j=_
      rw[x0O,TE.get_fz,<-h];rfl)
    exact⟨L2,λa w hs=>h2 a w<|h1 a w hs,h3⟩;exact z0p is t H L h
def A0w(h:t0u q o=jB): ∀c,o.op≠ .defer c:=(s0y h).1
section
variable {α : Type}{Fc : Fence}{F : Fr}{P : Program}{ops : Array Oper}{Q : g0c}{cl : CallT}{yl : y0r}{eqA : Option α -> Option α -> Option α}
def N0n(Sb:α->Prop)(eqA:Option α->Option α->Option α):Prop:= ∀x y r,eqA x y=vA r->Sb r->(∃r1,x=vA r1/\Sb r1)/\ ∃r2,y=vA r2/\Sb r2
def I0x{Sb:α->Prop}:N0n Sb (λ_ _=>(none:Option α)):=λ_ _ _ h=>by cases h
theorem z0W{P:Program}{cl:CallT}{yl:y0r}{Fc:Fence}{F:Fr}{ops:Array Oper}{Q:g0c}{L:LE}{H:a0e}{l:List Oper}(hcl:cl.Ok P)(hyl:YOk P yl)(hW:Wd Fc)(hW2: ∀l,Fc.inRound l=Fence.wide.inRound l)(hg:a0X ops (a0p L) o=vA jB)(hb:Oper.inB F.n ops o=jB)(hnd: ∀c,o.op≠ .defer c)
    (hst:B0g P cl yl o (a0p L) H=vA (v,H')) (hi:RLi Fc F P ops l (g0g L o.dst v) H' Q):RLi Fc F P ops (o::l) L H Q:=by
  unfold B0g at hst
  cases hc:b0R o with
  |true=>
    rw[hc]at hst;simp only[wC]at hst;split at hst;rename_i f args hca;exact RLi.call hW hg hb hnd hca (H0J hcl _ _ _ _ _ hst) hi;split at hst;rename_i i args hy;split at hst;rename_i b H2 hyy;cases hst;exact RLi.yield hW hW2 hg hb hnd hy (hyl _ _ _ _ _ hyy) hi;cases hst;cases hst
  |false=>
    rw[hc]at hst;simp only[vD]at hst;split at hst;rename_i ef he;cases hst;exact RLi.step hW hg hb hnd he hi;cases hst
theorem M0J{Sb:α->Prop}(hcl:cl.Ok P)(hyl:YOk P yl)(hE:N0n Sb eqA)(hW:Wd Fc)(hW2: ∀l,Fc.inRound l=Fence.wide.inRound l): ∀(l:List Oper) (t:TE) (H:a0e) (k:TE->a0e->Option α) (r:α),evN eqA P cl yl ops l t H k=vA r->Sb r->(∀o∈l,Oper.inB F.n ops o=jB/\t0u ops.size o=jB)->
    ∀L,a0p L=t.get->(∀t2 H2 L2 r,a0p L2=t2.get->k t2 H2=vA r->Sb r-> ∀a w,Sees F L2 H2 a w->Q .normal a w)->RLi Fc F P ops l L H Q:=by
  intro l
  induction l with
  |nil=>intro t H k r h hr _ L hL hk a w hs;exact wpListIn_nil (hk t H L r hL h hr a w hs)
  |cons o l ih=>
    intro t H k r h hr hl L hL hk;obtain⟨hb,hnd⟩:=hl o<|aB ..;have hnd:=A0w hnd;have hl':=λx hx=>hl x (aq _ hx)
    have h:(match a0X ops t.get o with
      |some jB=>match B0g P cl yl o t.get H with
        |some (v,H')=>evN eqA P cl yl ops l (t.put o.dst v) H' k
        |none=>match M0d P t.get H o with
          |some (eq,kn)=>bif kn then evN eqA P cl yl ops l (t.put o.dst<|.bool<|bif eq then oA else jB) H k
            else eqA (evN eqA P cl yl ops l (t.put o.dst<|.bool<|bif eq then jB else oA) H k) (evN eqA P cl yl ops l (t.put o.dst<|.bool<|bif eq then oA else jB) H k)
          |none=>match exO P t.get H o with
            |some (v,H')=>evN eqA P cl yl ops l (t.put o.dst v) H' k
            |none=>match I0h t.get o with
              | []=>none
              |i::is=>(λz:TE×a0e=>match a0X ops z.1.get o with
                |some jB=>match B0g P cl yl o z.1.get z.2 with
                  |some (v,H')=>evN eqA P cl yl ops l (z.1.put o.dst v) H' k
                  |none=>none
                |_=>none) (I0t (i::is) t H)
      |some oA=>evN eqA P cl yl ops l (t.put o.dst<|.tup []) H k
      |none=>none)=vA r:=h
    rw[<-hL]at h
    split at h
    · rename_i hg
      split at h;rename_i v H' hst;have hi:=ih _ _ _ _ h hr hl' _ (TE.put_env hL o.dst v) hk;exact z0W hcl hyl hW hW2 hg hb hnd hst hi
      · split at h
        · rename_i eq kn hn
          refine RLi.isNil hW hg hb hnd hn (λb hb0=> ?_)
          cases hkn:kn with
          |true=>
            rw[hkn]at h;obtain rfl:=hb0 hkn;have:(bif eq then oA else !oA)=(bif eq then oA else jB):=by cases eq<;>rfl
            rw[this];exact ih _ _ _ _ h hr hl' _ (TE.put_env hL o.dst _) hk
          |false=>
            rw[hkn]at h;obtain⟨⟨r1,h1,hr1⟩,r2,h2,hr2⟩:=hE _ _ _ h hr
            cases b with
            |true=>
              have:(bif eq then jB else !jB)=(bif eq then jB else oA):=by cases eq<;>rfl
              rw[this];exact ih _ _ _ _ h1 hr1 hl' _ (TE.put_env hL o.dst _) hk
            |false=>
              have:(bif eq then oA else !oA)=(bif eq then oA else jB):=by cases eq<;>rfl
              rw[this];exact ih _ _ _ _ h2 hr2 hl' _ (TE.put_env hL o.dst _) hk
        split at h;rename_i v H' hx;exact RLi.ok hW hg hb hnd (λa w K D hi=>E0V hx hi<|Oper.inB_op hb)<|ih _ _ _ _ h hr hl' _ (TE.put_env hL o.dst v) hk;split at h;cases h;rename_i i is _;obtain⟨L2,hwk,hL2⟩:=z0p (F:=F) (i::is) t H L hL;generalize I0t (i::is) t H=z at h hwk hL2;obtain⟨t2,H2⟩:=z;simp only at h hwk hL2;split at h;rename_i hg2;split at h;rename_i v H' hst;rw[<-hL2]at hst hg2;exact λa w hs=>z0W hcl hyl hW hW2 hg2 hb hnd hst (ih _ _ _ _ h hr hl' _ (TE.put_env hL2 o.dst v) hk) a w (hwk a w hs)
        cases h;cases h
    rename_i hg;exact RLi.skip hW hg hb<|ih _ _ _ _ h hr hl' _ (TE.put_env hL o.dst _) hk;cases h
/-! Regions whose order is open. -/
theorem I0N(hW:Wd Fc)(hnd: ∀o∈ops.toList,∀c,o.op≠ .defer c)(hR: ∀a w,R a w->Q .normal a w): ∀(fuel:Nat) (listed:Array Bool) (a:Act) (w:World),
    wpAny P .any ops (y0Z R) fuel listed a w->wpAnyIn Fc 0 P .any ops Q fuel listed a w:=by
  intro fuel
  induction fuel with
  |zero=>intro listed a w h;exact⟨h.1,hR _ _ h.2⟩
  |succ fuel ih=>
    intro listed a w h;refine⟨λh0=>hR _ _<|h.1 h0,λi hi=> ?_⟩;have h2:=h.2 i hi;unfold wpOp at h2;unfold wpOpIn
    cases ho:ops[i]? with
    |none=>rw[ho]at h2;exact ih _ _ _ h2
    |some o=>
      rw[ho]at h2;simp only at h2⊢;have hn:=hnd o<|aO.2<|Array.mem_of_getElem? ho;split;rename_i hw;rw[vB hw]at h2;rcases h2 with h2|⟨_,a1,w1,h2⟩;exact q0S hW hn (λa w hx=>ih _ _ _ hx) h2;exact h2.elim;rename_i hw;rw[yB hw]at h2;exact⟨λf _=>hW.fn f,ih _ _ _ h2⟩
theorem H0D(hW:Wd Fc)(hm:P.follows .mixedOrders=jB)(hB:vG .any ops=jB)(hb: ∀o∈ops.toList,Oper.inB F.n ops o=jB)(hnd: ∀o∈ops.toList,∀c,o.op≠ .defer c){id:Nat}{L:LE}{H:a0e}
    (hst:Sees F L H a w) (h:C0K P ops H.length [] ops.toList (fun ρ H=> ∀a w,St F ρ H a w->Q .normal a w) (a0p L)<|H++oC (e0k ops) .res):(Code.region id ops jB).wpIn Fc 0 P Q a w:=by
  simp only[vG,aa]at hB;obtain⟨hd,K,D,hinv⟩:=hst;refine wpIn_region_any hm<|I0N hW (R:=λa w=>Q .normal a w) hnd (λa w hx=>hx) _ _ _ _ ?_;obtain⟨es,_,hany,_⟩:=w0H (base:=H.length) ops.toList [] (yD ops.size oA) (a0p L) _ dE (λj x hj=>by simp at hj) (λk hk=>absurd hk<|cQ _) (by simpa using hB.2) h;have hinv':=hinv.reserve (e0k ops)
  have hdrew:Inv F w.drew K D (H++oC (e0k ops) .res) (a0p L) a.tmps:=⟨hinv'.slots.mono λ_ _=>World.drew_rep,hinv'.hinv.drew,hinv'.grow.trans<|Grow.drew _ _ _ _⟩
  exact t0U (Q:=y0Z λa w=>Q .normal a w) (KS:=fun ρ H=> ∀a w,St F ρ H a w->Q .normal a w) (fun ρ H a w hst hq=>hq a w hst) hb ops.size _ (a0p L) _ a _ ⟨hd,K,D,hdrew⟩ (by simpa using hany)
theorem M0K(hcl:cl.Ok P): ∀(l:List Oper) (p:Nat) (tr:List XT) (t:TE) (H:a0e) (k:TE->a0e->Option α) (r:α),evD P cl ops base l p tr t H k=vA r->tr.length=p->
    ∀L,a0p L=t.get->(∀t2 H2 L2,a0p L2=t2.get->k t2 H2=vA r->PJ F Q .normal L2 H2)->C0K P ops base tr l (fun ρ H=> ∀a w,St F ρ H a w->Q .normal a w) (a0p L) H:=by
  intro l
  induction l with
  |nil=>
    intro p tr t H k r h hl L hL hk a w hst;exact hk t H L hL h a w hst
  |cons o l ih=>
    intro p tr t H k r h hl L hL hk
    have h:(match a0X ops t.get o with
      |some jB=>match J0c P cl ops base p tr o t.get H with
        |some ef=>evD P cl ops base l (p+1) (tr++ [((h0J o ef,g0D ops base p o ef),o,ef,j0o t.get o)]) (t.put o.dst ef.v) (a0G H ef.wr) k
        |none=>none
      |some oA=>bif k0e P o (h0J o ⟨.tup [],[],[]⟩) (g0D ops base p o ⟨.tup [],[],[]⟩) ⟨.tup [],[],[]⟩ tr 0 then evD P cl ops base l (p+1) (tr++ [((h0J o ⟨.tup [],[],[]⟩,g0D ops base p o ⟨.tup [],[],[]⟩),o,⟨.tup [],[],[]⟩,j0o t.get o)]) (t.put o.dst<|.tup []) H k else none
      |none=>none)=vA r:=h
    rw[<-hL]at h;split at h;rename_i hg;split at h;rename_i ef hst;have hi:=ih _ _ _ _ _ _ h (by simp[hl]) _ (TE.put_env hL o.dst ef.v) hk;unfold J0c at hst
    cases hc:b0R o with
    |true=>
      rw[hc]at hst;simp only[wC]at hst;split at hst;rename_i f args hca;split at hst;rename_i ef' he
      cases hb:k0e P o (h0J o ef') (g0D ops base p o ef') ef' tr 0&&O0N ef' H with
      |false=>rw[hb]at hst;cases hst
      |true=>
        rw[hb]at hst;cases hst;simp only[aa]at hb;subst hl;refine⟨ef, ?_,hb.1, ?_⟩;unfold opD;rw[hg];simp only;rw[hc,vB rfl];exact F0u hcl hca he;rw[<-b0b]at hi;exact hi
      cases hst;cases hst
    |false=>
      rw[hc]at hst;simp only[vD]at hst;split at hst;rename_i ef' he
      cases hok:k0e P o (h0J o ef') (g0D ops base p o ef') ef' tr 0&&((!d0n o||q0z (H[f0G ops base p]?))&&ef'.wr.all λx=>oD x.1 H.length)with
      |false=>rw[hok]at hst;cases hst
      |true=>
        rw[hok]at hst;cases hst;simp only[aa,bQ,wD]at hok;obtain⟨k1,k2,k3⟩:=hok;have k3': ∀x∈ef.wr,x.1<H.length:=λx hx=>bF (ag<|by simpa [oD]using k3 x hx)
        subst hl;refine⟨ef, ?_,k1, ?_⟩;unfold opD;rw[hg];simp only;rw[hc,yB dE];refine⟨.inl he,λhcr=> ?_,k3'⟩;rcases k2 with k2|k2;rw[hcr]at k2;cases k2;unfold q0z at k2;split at k2
        assumption
        cases k2;rw[<-b0b]at hi;exact hi
      cases hst
    cases h;rename_i hg
    cases hb:k0e P o (h0J o ⟨.tup [],[],[]⟩) (g0D ops base p o ⟨.tup [],[],[]⟩) ⟨.tup [],[],[]⟩ tr 0 with
    |false=>rw[hb]at h;cases h
    |true=>
      rw[hb]at h;subst hl;refine⟨⟨.tup [],[],[]⟩, ?_,hb, ?_⟩;unfold opD;rw[hg];have hi:=ih _ _ _ _ _ _ h dE _ (TE.put_env hL o.dst _) hk;rw[<-b0b]at hi;exact hi
    cases h
/-! What a call hands back, settled. -/
theorem SC.frz1{H:a0e}(h:SC P f args H v H')(i:Nat)(hi:H'[i]?=vA (.vec n k e cs)):SC P f args H (SV.fz i (.lst n k cs) v) (fzH i (.lst n k cs) H'):=by
  refine⟨h.1,λw K D vals hl hr hinv hG=>(h.2 w K D vals hl hr hinv hG).mono ?_⟩;rintro ee w' ⟨r,rfl,K',D',g,hi',hrr⟩;refine⟨r,rfl, ?_⟩
  have hs:Sees ⟨1,w',K',D',H',[]⟩ [(0,v)] H' { tmps:= #[r],defers:=[] } w':=⟨rfl,K',D',⟨⟨rfl,λj hj=>by
    obtain rfl:j=0:=Nat.lt_one_iff.1 hj
    exact hrr,λgg cs hg=>g.rep<|hG gg cs hg⟩,hi',Grow.refl _ _ _ _⟩⟩
  obtain⟨_,K2,D2,hI⟩:=Wk.freeze (F:=⟨1,w',K',D',H',[]⟩) (L:=[(0,v)]) i hi _ _ hs;refine⟨K2,D2,g.trans hI.grow,hI.hinv, ?_⟩;have:=hI.slots.rep 0 (by show 0<1;omega)
  have he:a0p (fzE i (.lst n k cs) [(0,v)]) 0=SV.fz i (.lst n k cs) v:=by
    show lk (fzE i (.lst n k cs) [(0,v)]) 0=_;rw[x0O];rfl
  rw[he]at this;exact this
theorem SC.drop{H:a0e}(h:SC P f args H v H')(m:Nat)(hm:H.length<=m)(hm2:m<=H'.length)(hv:SV.refs m v=jB)(hr:(H'.take m).all (Ent.refs m)=jB):SC P f args H v (H'.take m):=by
  refine⟨h.1,λw K D vals hl hrep hinv hG=>(h.2 w K D vals hl hrep hinv hG).mono ?_⟩;rintro ee w' ⟨r,rfl,K',D',g,hi',hrr⟩;refine⟨r,rfl, ?_⟩;have hlen:(H'.take m).length=m:=by rw[aE];omega
  have hid: ∀s,SV.rn (λj=>j) s=s:=B0q;refine j0k (f:=λj=>j) g hi' hrr ⟨⟨λj en hj=> ?_,λi j _ _ e=>e,λj en hj=> ?_⟩,λj _=>rfl,by rw[hlen];exact hm,(B0q v).symm,by rw[hlen];exact hv⟩ hinv.dom;have hjm:j<m:=by have:=(ab.1 hj).1;omega
  rw[aM,vB hjm]at hj;rw[hj,I0w];rw[hlen];exact List.all_eq_true.1 hr en<|aJ hj
def z0o{f:FuncId}{args:List SV}{H:a0e}: ∀(is:List Nat) (v:SV) (H':a0e),SC P f args H v H'->SC P f args H (K0l is v H').1 (K0l is v H').2
  | [],v,H',h=>h
  |i::is,v,H',h=>by
    simp only[K0l];split;rename_i he;exact z0o is _ _<|h.frz1 i he;exact z0o is v H' h
theorem K0m(hcl:cl.Ok P):(N0C cl).Ok P:=by
  intro f args H v H' h;unfold N0C at h;split at h;rename_i v1 H1 hc;have hs:=hcl _ _ _ _ _ hc
  cases hb:yC H1.length (H.length+1)with
  |true=>rw[hb]at h;cases h;exact hs
  |false=>
    rw[hb]at h;simp only[vD]at h;have hf:=z0o (wH H.length<|H1.length-H.length) v1 H1 hs;generalize K0l (wH H.length<|H1.length-H.length) v1 H1=z at h hf;obtain⟨v2,H2⟩:=z;simp only at h hf
    cases hq:SV.refs H.length v2&&(H2.take H.length).all (Ent.refs H.length)&&yC H.length H2.length with
    |false=>rw[hq]at h;cases h
    |true=>
      rw[hq]at h;simp only[aa]at hq;cases h;exact hf.drop H.length (ak _) (ag hq.2) hq.1.1 hq.1.2
  cases h
end
/-! Frames that follow one another. -/
structure Fol(F F':Fr):Prop where
  n:F'.n=F.n
  grow:Grow F.w0 F.K0 F.D0 F.H0 F'.w0 F'.K0 F'.D0 F'.H0
def Fol.refl(F:Fr):Fol F F:=⟨rfl,Grow.refl _ _ _ _⟩
theorem Fol.trans{F'':Fr}(h:Fol F F')(h':Fol F' F''):Fol F F'':=⟨h'.n.trans h.n,h.grow.trans h'.grow⟩
def MOk(b0:Nat×List Deferred)(D:DM):List Deferred->List Nat->Prop
  |ds,[]=>ds=b0.2
  |d::ds,i::ms=>(∃b,d= { target:= .collected b,args:= #[] } /\D i=vA (.at b 0 0)/\b0.1<=b)/\MOk b0 D ds ms
  | [],_::_=>False
def w0u(h:MOk b0 D ds []):ds=b0.2:=by cases ds<;>exact h
def MOk.of_nil(h:ds=b0.2):MOk b0 D ds []:=by cases ds<;>exact h
def MOk.mono(h: ∀i x,D i=vA x->D' i=vA x): ∀ {ds:List Deferred} {ms:List Nat},MOk b0 D ds ms->MOk b0 D' ds ms
  | [],[],hm=>hm
  |_::_,[],hm=>hm
  |d::ds,i::ms,⟨⟨b,h1,h2,h3⟩,hr⟩=>⟨⟨b,h1,h _ _ h2,h3⟩,MOk.mono h hr⟩
  | [],_::_,hm=>hm
def FcOk(rd:Option Nat)(Fc:Fence)(D:DM):Prop:=match rd with
  |none=>Fc=Fence.wide
  |some i=> ∃l,Fc=Fence.wide.inRound l/\D i=vA (.at l 0 0)
theorem FcOk.wd(h:FcOk rd Fc D):Wd Fc:=by
  cases rd with
  |none=>cases h;exact k0J
  |some i=>obtain⟨l,rfl,_⟩:=h;exact j0i l
theorem FcOk.wd2(h:FcOk rd Fc D): ∀l,Fc.inRound l=Fence.wide.inRound l:=by
  cases rd with
  |none=>cases h;exact λ_=>rfl
  |some i=>obtain⟨l,rfl,_⟩:=h;exact λ_=>rfl
theorem FcOk.mono(h:FcOk rd Fc D)(hD: ∀i x,D i=vA x->D' i=vA x):FcOk rd Fc D':=by
  cases rd with
  |none=>exact h
  |some i=>obtain⟨l,rfl,h2⟩:=h;exact⟨l,rfl,hD _ _ h2⟩
theorem L0v{w w':World}{K:Nat->Nat}{D:DM}{H:a0e}(h:HInv w K D H){i b c n:Nat}{en en':Ent}(hi:H[i]?=vA en)(hl:h0e en=jB)(hd:D i=vA (.at b c n))(h1:w'.os=w.os)(h2:w'.tape=w.tape)(h3:w'.output=w.output)(h4:w'.heap.size=w.heap.size)
    (h5: ∀b',b'≠b->w'.heap[b']?=w.heap[b']?) (hen:(∀v s,Rep w K D v s->Rep w' K D v s)->EntOk w' K D i en') (hres:en'≠ .res):
    Grow w K D H w' K D (H.set i en')/\HInv w' K D (H.set i en'):=by
  have hm:Mem D H b:=⟨i,en,c,n,hi,hl,hd⟩
  have hK:K b=0:=(k0A h hm).2;have hil:i<H.length:=(ab.1 hi).1;have hcells: ∀b' j,j<K b'->w'.cell? ⟨b',j,none⟩=w.cell? ⟨b',j,none⟩:=λb' j hj=>F0t (h5 b' λe=>by subst e;omega)
  have hrep: ∀v s,Rep w K D v s->Rep w' K D v s:=λv s hr=>Rep.mono hcells (λ_=>ak _) (λ_ _ e=>e) hr
  have hget: ∀j,(H.set i en')[j]?=if j=i then vA en' else H[j]?:=λj=>by
    rw[aR];by_cases hj:i=j;subst hj;simp[hil];rw[yB hj,yB λe=>hj e.symm]
  have hold: ∀j enj,(H.set i en')[j]?=vA enj->h0e enj=jB-> ∃enj0,H[j]?=vA enj0/\h0e enj0=true:=λj enj hj hlj=>by
    rw[hget]at hj;by_cases e:j=i;subst e;exact⟨en,hi,hl⟩;rw[yB e]at hj;exact⟨enj,hj,hlj⟩
  refine⟨⟨h1,h2,h3,dA,λb' _ hm'=>h5 b' λe=>hm'<|e▸hm,hcells,λ_=>ak _,λ_ _ _=>rfl,λ_ _ e=>e,λb' hm'=> ?_⟩,⟨λj hj=>h.dom j<|by simpa using hj,λj enj hj=> ?_,λj j' enj enj' bb cc nn cc' nn' hj hj' hlj hlj' hdj hdj'=> ?_,λb' hb'=>by rw[h4];exact h.kw b' hb'⟩⟩;obtain⟨j,enj,cj,nj,e1,e2,e3⟩:=hm';obtain⟨enj0,q1,q2⟩:=hold j enj e1 e2;exact .inl ⟨j,enj0,cj,nj,q1,q2,e3⟩;rw[hget]at hj;by_cases e:j=i;subst e;rw[vB rfl]at hj;cases hj;exact hen hrep;rw[yB e]at hj;refine(h.ent j enj hj).keep hrep rfl λbj cj nj hlj hdj=>⟨h5 bj λe2=> ?_,rfl⟩;subst e2;exact e<|h.inj j i enj en bj cj nj c n hj hi hlj hl hdj hd;obtain⟨enj0,q1,q2⟩:=hold j enj hj hlj;obtain⟨enj1,q3,q4⟩:=hold j' enj' hj' hlj';exact h.inj j j' enj0 enj1 bb cc nn cc' nn' q1 q3 q2 q4 hdj hdj'
def F0S(F':Fr)(Q:g0c)(L:LE)(H:a0e):Option Code->Prop
  |none=>PJ F' Q .normal L H
  |some .ret=>PJ F' Q .ret L H
  |some (.exit k)=>PJ F' Q (.exit k) L H
  |_=>False
section
variable {Fc : Fence}{F : Fr}{P : Program}{Q : g0c}
def u0x{gf:FuncId}{args caps:Array Value}{W:World}(hc:b0o P gf=jB):(invoke (.fn (.func gf) caps) args).run P W= .ok (.enter gf<|args++caps) W:=by
  unfold b0o at hc
  cases hfn:P.funcs[gf]? with
  |none=>rw[hfn]at hc;cases hc
  |some fn=>
    rw[hfn]at hc;simp only[aa,cX]at hc;have hbs:fn.body.isNone=false:=by cases hbd:fn.body<;>simp[hbd]at hc⊢
    simp only[invoke,callFunc,zD,run_program,vC,hfn,hc.2,aF,if_false,hbs,vE]
theorem u0B(hW:Wd Fc){W1:World}{K:Nat->Nat}{D1:DM}{L:LE}{ps:List Nat}
    (hinv1:HInv W1 K D1 H1) (hDi:D1 i=vA (.at l 0 0)) (hgrow0:Grow F.w0 F.K0 F.D0 F.H0 W1 K D1 H1) (hsl:Slots F.n W1 K D1 (a0p L) a.tmps) (hsc:SC P gf args H1 v H2) (hvl:vals.length=args.length)
    (hvr: ∀(j:Nat) (x:Value) (c:SV),vals[j]?=vA x->args[j]?=vA c->Rep W1 K D1 x c) (hl:H2[i]?=vA (.lop tm ps as bd st pd)) (hst:q0B st=oA)
    (cont: ∀F':Fr,Fol F F'->F'.ds=ds->(∀j x,D1 j=vA x->F'.D0 j=vA x)->F0S F' Q L (H2.set i .gone) pd):
    CallsIn Fc 0 P gf vals.toArray W1 (rangePost Fc 0 P l Q { a with defers:=ds }):=by
  refine hW.calls<|(hsc.2 W1 K D1 vals hvl hvr hinv1 hsl.glob).mono ?_;rintro e w3 ⟨r,rfl,K',D',g,hi',_⟩;obtain⟨l',r',e1,e2,e3,e4,e5,e6,e7,e8,e9,e10⟩:=hi'.ent _ _ hl;have:=g.dd _ _ hDi;rw[this]at e1;cases e1;have hb:r'.state≠ .busy:=λh=>by rw[h]at e7;subst e7;cases hst
  have ht:=L0v (w':=w3.putObj l<|.loop { r' with state:= .exhausted }) (en':= .gone) hi' hl rfl this rfl rfl rfl dE (λb' hb'=>vH hb') (λ_=>trivial) dE;refine⟨pd,_,by rw[<-e8];exact run_endLoop e3 hb, ?_⟩
  have hsee: ∀a',a'.defers=ds->a'.tmps=a.tmps->Sees ⟨F.n,w3.putObj l<|.loop { r' with state:= .exhausted },K',D',H2.set i .gone,ds⟩ L (H2.set i .gone) a' (w3.putObj l<|.loop { r' with state:= .exhausted }):=λa' h1 h2=>
    ⟨h1,K',D',⟨by rw[h2];exact(hsl.mono λ_ _=>g.rep).mono λ_ _=>ht.1.rep,ht.2,Grow.refl _ _ _ _⟩⟩
  have hc:=cont ⟨F.n,w3.putObj l<|.loop { r' with state:= .exhausted },K',D',H2.set i .gone,ds⟩ ⟨rfl,(hgrow0.trans g).trans ht.1⟩ rfl λj x hj=>g.dd _ _ hj;have hs:=hsee { a with defers:=ds } rfl rfl
  cases pd with
  |none=>exact hc _ _ hs
  |some c=>
    cases c with
    |ret=>exact wpIn_ret (hc _ _ hs)
    |exit k=>exact wpIn_exit (hc _ _ hs)
    |_=>exact hc.elim
def i0w(D:DM)(i:Nat)(x:Loc):g0y D i x i=vA x:=vB rfl
def B0c(D:DM){j:Nat}(x:Loc)(h:j≠i):g0y D i x j=D j:=yB h
def v0r(H:a0e)(en:Ent):h0Y H H.length en=H++ [en]:=by unfold h0Y;rw[yB<|Nat.lt_irrefl _]
def r0u(w:World)(o:Obj): ∀b',b'≠w.heap.size->b'<w.heap.size->(w.alloc o).heap[b']?=w.heap[b']?:=λb' _ h=>Below.heap_alloc w o b' h
theorem E0j{K:Nat->Nat}{L:LE}{tmps:Array Value}{N:Nat}{t:TE}{r:Loop}(hs:Slots N w K D (a0p L) tmps)(hL:a0p L=t.get)(hD:D' i=vA (.at l 0 0))(hK:K l=0)
 (hl:w'.heap[l]?=vA (.loop r)) (hr: ∀v s,Rep w K D v s->Rep w' K D' v s) (h1:r.tmps=tmps) (h2:r.params=ps) (h3:r.assign=as) (h4:r.body=bd) (h5:r.state= .ready) (h6:r.pending=none):
    EntOk w' K D' i (.lop ((jC N).map t.get) ps.toList as bd .ready none):=by
  refine⟨l,r,hD,hK,hl,by rw[h2],h3,h4,h5,h6,by rw[h1,hs.size];simp,λj v c hv hc=> ?_⟩;rw[h1]at hv;have hj:j<N:=by rw[<-hs.size];exact(al.1 hv).1
  rw[ar,bw hj]at hc;cases hc;have:=hs.rep j hj;rw[ba,hv]at this;rw[<-hL];exact hr _ _ this
def A0h{K:Nat->Nat}{y:Value}{vs:List Value}(hy:Rep w K D y s)(h: ∀(j:Nat) (v:Value) (c:SV),vs[j]?=vA v->cs[j]?=vA c->Rep w K D v c):
    ∀(j:Nat) (v:Value) (c:SV),(y::vs)[j]?=vA v->(s::cs)[j]?=vA c->Rep w K D v c
  |0,v,c,hv,hc=>by simp at hv hc;subst hv;subst hc;exact hy
  |j+1,v,c,hv,hc=>h j v c (by simpa using hv) (by simpa using hc)
def D0D{K:Nat->Nat}{v:Value}{g:Fn}(h:Rep w K D v<|.fn g [] caps): ∃vs:List Value,v= .func g #[] vs.toArray/\caps.length=vs.length/\ ∀(j:Nat) (u:Value) (c:SV),vs[j]?=vA u->caps[j]?=vA c->Rep w K D u c:=by
  cases h with
  |fn _ fs vs _ _ h1 h2 h3 h4=>
    obtain rfl:fs=[]:=ay h1.symm;exact⟨vs,rfl,h2,h4⟩
theorem x0j{g:Operand}{L:LE}{t:TE}{H:a0e}{ps':List Nat}{as' bd':Code}(hin:Operand.inB F.n g=jB)(hL:a0p L=t.get)(hg:a0B (a0p L) g=vA (.fn (.func gf) [] caps))
    (hsc:SC P gf (.yld (H.length+1)::caps) (H++ [.dfr]++ [.lop ((jC F.n).map t.get) ps.toList as bd .ready none]) v H2) (hl:H2[H.length+1]?=vA (.lop tm ps' as' bd' st pd)) (hst:q0B st=oA)
    (cont: ∀(F':Fr) (b:Nat),Fol F F'->F'.ds= { target:= .collected b,args:= #[] } ::F.ds->F'.D0 H.length=vA (.at b 0 0)->F.w0.heap.size<=b->F0S F' Q L (H2.set (H.length+1) .gone) pd):
    ∀a w,Sees F L H a w->(Code.rangeFunc g ps as bd).wpIn Fence.wide 0 P Q a w:=by
  intro a w hs;obtain⟨hd,K,D,hi⟩:=hs;obtain⟨vs,hv,hvl,hvr⟩:=D0D<|a0i hi.slots hin hg;refine wpIn_rangeFunc (λfn' _=> ?_)
  obtain⟨r,hr⟩: ∃r:Loop,r= { state:= .ready,pending:=none,fn:=fn',tmps:=a.tmps,params:=ps,assign:=as,body:=bd,defers:=w.heap.size } :=⟨_,rfl⟩
  have hK0: ∀b,w.heap.size<=b->K b=0:=λb hb=>by
    rcases bB (K b)with h0|h0;exact h0;have:=hi.hinv.kw b dA;omega
  have p1:=place (w':=w.alloc<|.deferred<|vA []) (en:= .dfr) (idx:=H.length) (b:=w.heap.size) (c:=0) (m:=0) (x:=none) hi.hinv (.inl rfl) dE (.inl<|ak _) rfl rfl rfl dE (r0u _ _)
    (λhr=>⟨w.heap.size,i0w _ _ _,hK0 _<|ak _,World.alloc_heap_new _ _⟩)
  rw[show i0j H none=H from rfl,v0r]at p1;obtain⟨g1,i1⟩:=p1;have hlen:(H++ [Ent.dfr]).length=H.length+1:=by simp
  have hs1:=hi.slots.mono λ_ _=>g1.rep
  have p2:=place (w':=(w.alloc<|.deferred<|vA []).alloc<|.loop r) (en:= .lop ((jC F.n).map t.get) ps.toList as bd .ready none) (idx:=(H++ [Ent.dfr]).length) (b:=w.heap.size+1) (c:=0) (m:=0) (x:=none) i1 (.inl rfl) dE
    (.inl dE) rfl rfl rfl dE (λb' h1 h2=>r0u _ _ b' dD h2)
    (λhrep=>E0j (r:=r) (ps:=ps) hs1 hL (i0w _ _ _) (hK0 _ dA) (by have:=World.alloc_heap_new (w.alloc<|.deferred<|vA [])<|.loop r;rwa [World.size_alloc]at this) hrep (by rw[hr]) (by rw[hr]) (by rw[hr]) (by rw[hr]) (by rw[hr])<|by rw[hr])
  rw[show i0j (H++ [Ent.dfr]) none=H++ [Ent.dfr]from rfl,v0r]at p2;obtain⟨g2,i2⟩:=p2;have hs2:=hs1.mono λ_ _=>g2.rep
  refine⟨w.heap.size+1,[{ target:= .collected w.heap.size,args:= #[] }],(w.alloc<|.deferred<|vA []).alloc<|.loop r, { target:= .fn (.func gf) vs.toArray,args:= #[.func (.yield<|w.heap.size+1) #[] #[]] },(w.alloc<|.deferred<|vA []).alloc<|.loop r,gf, #[.func (.yield<|w.heap.size+1) #[] #[]]++vs.toArray,(w.alloc<|.deferred<|vA []).alloc<|.loop r, ?_, ?_,λ_ _=>trivial,u0x hsc.1,λh=>(by cases h), ?_⟩;rw[hr];exact run_enterLoop_outer _ _ _ _ _;simp only[resolve,hv];simp[go_sem];have e:(#[Value.func (.yield<|w.heap.size+1) #[] #[]]++vs.toArray)=(Value.func (.yield<|w.heap.size+1) #[] #[]::vs).toArray:=by simp
  rw[e];refine u0B (i:=H.length+1) (args:= .yld (H.length+1)::caps) k0J i2 (by rw[hlen];exact i0w _ _ _) ((hi.grow.trans g1).trans g2) hs2 hsc (by simp[hvl]) (A0h (.yld _ _ 0 0<|by rw[hlen];exact i0w _ _ _) λj u c hu hc=>g2.rep<|g1.rep<|hvr j u c hu hc) hl hst λF' hf hds hD=> ?_;refine cont F' w.heap.size hf (by rw[hds,hd];rfl) (hD _ _ ?_) hi.grow.size;rw[hlen,B0c _ _ dA];exact i0w _ _ _
theorem G0P{l0 i0:Nat}{g:Operand}{L:LE}{t:TE}{H:a0e}{ps':List Nat}{as' bd':Code}(hin:Operand.inB F.n g=jB)(hL:a0p L=t.get)(hg:a0B (a0p L) g=vA (.fn (.func gf) [] caps))
    (hD0:F.D0 i0=vA (.at l0 0 0)) {tm0:List SV} {ps0:List Nat} {as0 bd0:Code} {st0:LoopState} {pd0:Option Code} (h0:H[i0]?=vA (.lop tm0 ps0 as0 bd0 st0 pd0))
    (hsc:SC P gf (.yld H.length::caps) (H++ [.lop ((jC F.n).map t.get) ps.toList as bd .ready none]) v H2) (hl:H2[H.length]?=vA (.lop tm ps' as' bd' st pd)) (hst:q0B st=oA)
    (cont: ∀F':Fr,Fol F F'->F'.ds=F.ds->F0S F' Q L (H2.set H.length .gone) pd):
    ∀a w,Sees F L H a w->(Code.rangeFunc g ps as bd).wpIn (Fence.wide.inRound l0) 0 P Q a w:=by
  intro a w hs;obtain⟨hd,K,D,hi⟩:=hs;obtain⟨vs,hv,hvl,hvr⟩:=D0D<|a0i hi.slots hin hg;refine wpIn_rangeFunc λfn' _=> ?_;obtain⟨l',r0,e1,e2,e3,_⟩:=hi.hinv.ent _ _ h0;have:=hi.grow.dd _ _ hD0;rw[this]at e1;cases e1
  obtain⟨r,hr⟩: ∃r:Loop,r= { state:= .ready,pending:=none,fn:=fn',tmps:=a.tmps,params:=ps,assign:=as,body:=bd,defers:=r0.defers } :=⟨_,rfl⟩
  have hK0:K w.heap.size=0:=by
    rcases bB (K w.heap.size)with h0|h0;exact h0;have:=hi.hinv.kw w.heap.size dA;omega
  have p2:=place (w':=w.alloc<|.loop r) (en:= .lop ((jC F.n).map t.get) ps.toList as bd .ready none) (idx:=H.length) (b:=w.heap.size) (c:=0) (m:=0) (x:=none) hi.hinv (.inl rfl) dE
    (.inl<|ak _) rfl rfl rfl dE (r0u _ _)
    (λhrep=>E0j (r:=r) (ps:=ps) hi.slots hL (i0w _ _ _) hK0 (World.alloc_heap_new _ _) hrep (by rw[hr]) (by rw[hr]) (by rw[hr]) (by rw[hr]) (by rw[hr])<|by rw[hr])
  rw[show i0j H none=H from rfl,v0r]at p2;obtain⟨g2,i2⟩:=p2;have hs2:=hi.slots.mono λ_ _=>g2.rep
  refine⟨w.heap.size,[],w.alloc<|.loop r, { target:= .fn (.func gf) vs.toArray,args:= #[.func (.yield w.heap.size) #[] #[]] },w.alloc<|.loop r,gf, #[.func (.yield w.heap.size) #[] #[]]++vs.toArray,w.alloc<|.loop r, ?_, ?_,λ_ _=>trivial,u0x hsc.1,λh=>(by cases h), ?_⟩;rw[hr];exact run_enterLoop_inner e3 _ _ _ _ _;simp only[resolve,hv];simp[go_sem];have e:(#[Value.func (.yield w.heap.size) #[] #[]]++vs.toArray)=(Value.func (.yield w.heap.size) #[] #[]::vs).toArray:=by simp
  rw[e];refine u0B (i:=H.length) (args:= .yld H.length::caps) (j0i l0) i2 (i0w _ _ _) (hi.grow.trans g2) hs2 hsc (by simp[hvl]) (A0h (.yld _ _ 0 0<|i0w _ _ _) λj u c hu hc=>g2.rep<|hvr j u c hu hc) hl hst λF' hf hds hD=> ?_;exact cont F' hf (by rw[hds,<-hd];rfl)
end
/-! Code. -/
section
variable {α : Type}{P : Program}{cl : CallT}{yl : y0r}{eqA : Option α -> Option α -> Option α}{B N : Nat}{rd : Option Nat}{b0 : Nat × List Deferred}{Sb : α -> Prop}
def KOk(b0:Nat×List Deferred)(F:Fr)(Sb:α->Prop)(Q:g0c)(e:Exit)(k:KT α):Prop:= ∀(F':Fr) (t':TE) (H':a0e) (ms':List Nat) (L':LE) (r:α),Fol F F'->MOk b0 F'.D0 F'.ds ms'->a0p L'=t'.get->k t' H' ms'=vA r->Sb r->PJ F' Q e L' H'
theorem KOk.fol{e:Exit}{k:KT α}(h:KOk b0 F Sb Q e k)(hf:Fol F F1):KOk b0 F1 Sb Q e k:=λF' t' H' ms' L' r h1=>h F' t' H' ms' L' r<|hf.trans h1
def I0v{r:α}{t:TE}{ms:List Nat}{kn kr:KT α}{kx:Nat->KT α}{L:LE}(h:evJ i t H2 ms kn kr kx=vA r)(hr0:Sb r)(hL:a0p L=t.get)(hn:KOk b0 F Sb Q .normal kn)(hr:KOk b0 F Sb Q .ret kr)(hx: ∀k,KOk b0 F Sb Q (.exit k)<|kx k):
    ∃tm ps as bd st pd,H2[i]?=vA (.lop tm ps as bd st pd)/\q0B st=oA/\ ∀F':Fr,Fol F F'->MOk b0 F'.D0 F'.ds ms->F0S F' Q L (H2.set i .gone) pd:=by
  unfold evJ at h;split at h;rename_i tm ps as bd st pd hl
  cases hb:q0B st with
  |true=>rw[hb]at h;cases h
  |false=>
    rw[hb]at h;simp only[vD]at h;refine⟨tm,ps,as,bd,st,pd,hl,hb,λF' hf hm=> ?_⟩;split at h;exact hn F' _ _ _ L _ hf hm hL h hr0;exact hr F' _ _ _ L _ hf hm hL h hr0;exact hx _ F' _ _ _ L _ hf hm hL h hr0;cases h
  cases h
theorem u0O(hcl:cl.Ok P)(hyl:YOk P yl)(hE:N0n Sb eqA): ∀(c:Code) (t:TE) (H:a0e) (ms:List Nat) (kn kr:KT α) (kx:Nat->KT α) (r:α),ewC eqA P cl cl yl B N rd c t H ms kn kr kx=vA r->Sb r-> ∀(Fc:Fence) (F:Fr) (L:LE) (Q:g0c),FcOk rd Fc F.D0->F.n=N->MOk b0 F.D0 F.ds ms->b0.1<=F.w0.heap.size->
    b0n N c=jB->g0u c=jB->a0p L=t.get->KOk b0 F Sb Q .normal kn->KOk b0 F Sb Q .ret kr->(∀k,KOk b0 F Sb Q (.exit k)<|kx k)-> ∀a w,Sees F L H a w->c.wpIn Fc 0 P Q a w:=by
  intro c
  induction c with
  |skip=>intro t H ms kn kr kx r h hr0 Fc F L Q hF hN hm hb hin hnd hL hn hr hx a w hs;exact wpIn_skip (hn F t H ms L r (Fol.refl F) hm hL h hr0 a w hs)
  |ret=>intro t H ms kn kr kx r h hr0 Fc F L Q hF hN hm hb hin hnd hL hn hr hx a w hs;exact wpIn_ret (hr F t H ms L r (Fol.refl F) hm hL h hr0 a w hs)
  |exit k=>intro t H ms kn kr kx r h hr0 Fc F L Q hF hN hm hb hin hnd hL hn hr hx a w hs;exact wpIn_exit (hx k F t H ms L r (Fol.refl F) hm hL h hr0 a w hs)
  |region id ops dr=>
    intro t H ms kn kr kx r h hr0 Fc F L Q hF hN hm hb hin hnd hL hn hr hx a w hs;have h:(bif dr then(bif P.follows .mixedOrders&&vG .any ops then evD P (N0C cl) ops H.length ops.toList 0 [] t (H++oC (e0k ops) .res) (λt H=>kn t H ms)else none)else evN eqA P cl yl ops ops.toList t H λt H=>kn t H ms)=vA r:=h;have hW:=hF.wd;simp only[b0n,wD]at hin;simp only[g0u,wD]at hnd
    cases dr with
    |true=>
      simp only[wC]at h
      cases hq:P.follows .mixedOrders&&vG .any ops with
      |false=>rw[hq]at h;cases h
      |true=>
        rw[hq]at h;simp only[aa]at hq;simp only[wC]at h;exact H0D hW hq.1 hq.2 (by rw[hN];exact hin) (λo ho=>A0w<|hnd o ho) hs (M0K (K0m hcl) _ _ _ _ _ _ _ h rfl L hL λt2 H2 L2 hL2 hk=>hn F t2 H2 ms L2 r (Fol.refl F) hm hL2 hk hr0)
    |false=>
      simp only[vD]at h;exact wpIn_region_list (M0J hcl hyl hE hW hF.wd2 _ _ _ _ _ h hr0 (λo ho=>⟨by rw[hN];exact hin o ho,hnd o ho⟩) L hL (λt2 H2 L2 r hL2 hk hr0=>hn F t2 H2 ms L2 r (Fol.refl F) hm hL2 hk hr0) a w hs)
  |seq x y ihx ihy=>
    intro t H ms kn kr kx r h hr0 Fc F L Q hF hN hm hb hin hnd hL hn hr hx a w hs;have h:ewC eqA P cl cl yl B N rd x t H ms (λt H ms=>ewC eqA P cl cl yl B N rd y t H ms kn kr kx) kr kx=vA r:=h;simp only[b0n,aa]at hin;simp only[g0u,aa]at hnd;refine wpIn_seq<|ihx _ _ _ _ _ _ _ h hr0 Fc F L (Exit.then (y.wpIn Fc 0 P Q) Q) hF hN hm hb hin.1 hnd.1 hL ?_ (λF' t' H' ms' L' r h1 h2 h3 h4=>hr F' t' H' ms' L' r h1 h2 h3 h4) (λk F' t' H' ms' L' r h1 h2 h3 h4=>hx k F' t' H' ms' L' r h1 h2 h3 h4) a w hs;intro F' t' H' ms' L' r h1 h2 h3 h4 hr0 a' w' hs';exact ihy _ _ _ _ _ _ _ h4 hr0 Fc F' L' Q (hF.mono h1.grow.dd) (h1.n.trans hN) h2 (aH hb h1.grow.size) hin.2 hnd.2 h3 (hn.fol h1) (hr.fol h1) (λk=>(hx k).fol h1) a' w' hs'
  |cond c x y ihx ihy=>
    intro t H ms kn kr kx r h hr0 Fc F L Q hF hN hm hb hin hnd hL hn hr hx a w hs
    have h:(match a0B t.get c with
      |some (.bool b)=>Bool.rec (motive:=λ_=>Option α) (ewC eqA P cl cl yl B N rd y t H ms kn kr kx) (ewC eqA P cl cl yl B N rd x t H ms kn kr kx) b
      |_=>none)=vA r:=h
    simp only[b0n,aa]at hin;simp only[g0u,aa]at hnd;split at h;rename_i b hv;have hs0:=hs;obtain⟨hd,K,D,hi⟩:=hs;have hr':=a0i hi.slots (by rw[hN];exact hin.1.1) (by rw[hL];exact hv);generalize hva:a.eval c=v at hr';cases hr';refine wpIn_cond hva ?_
    cases b with
    |true=>exact ihx _ _ _ _ _ _ _ h hr0 Fc F L Q hF hN hm hb hin.1.2 hnd.1 hL hn hr hx a w hs0
    |false=>exact ihy _ _ _ _ _ _ _ h hr0 Fc F L Q hF hN hm hb hin.2 hnd.2 hL hn hr hx a w hs0
    cases h
  |block id c ih=>
    intro t H ms kn kr kx r h hr0 Fc F L Q hF hN hm hb hin hnd hL hn hr hx a w hs;have h:ewC eqA P cl cl yl B N rd c t H ms kn kr (λi t H ms=>bif oB i id then kn t H ms else kx i t H ms)=vA r:=h;refine wpIn_block<|ih _ _ _ _ _ _ _ h hr0 Fc F L (vF id Q) hF hN hm hb hin hnd hL (λF' t' H' ms' L' r h1 h2 h3 h4=>hn F' t' H' ms' L' r h1 h2 h3 h4) (λF' t' H' ms' L' r h1 h2 h3 h4=>hr F' t' H' ms' L' r h1 h2 h3 h4) ?_ a w hs;intro k F' t' H' ms' L' r h1 h2 h3 h4 hr0
    cases hk:oB k id with
    |true=>
      rw[hk]at h4;have:=ae hk;subst this;exact PJ.blockOut (hn F' t' H' ms' L' r h1 h2 h3 h4 hr0)
    |false=>
      rw[hk]at h4;exact PJ.blockPass (by cases hc:oB k id with|true=>rw[hc]at hk;cases hk|false=>rfl) (hx k F' t' H' ms' L' r h1 h2 h3 h4 hr0)
  |loop c ih=>
    intro t H ms kn kr kx r h hr0 Fc F L Q hF hN hm hb hin hnd hL hn hr hx a w hs;have h:(Nat.rec (motive:=λ_=>KT α) (λ_ _ _=>none) (λ_ go t H ms=>ewC eqA P cl cl yl B N rd c t H ms go kr kx) B:KT α) t H ms=vA r:=h;refine wpIn_loop_rounds B ?_
    have key: ∀(m:Nat) (F':Fr) (t:TE) (H:a0e) (ms:List Nat) (L:LE) (r:α),Fol F F'->(Nat.rec (motive:=λ_=>KT α) (λ_ _ _=>none) (λ_ go t H ms=>ewC eqA P cl cl yl B N rd c t H ms go kr kx) m:KT α) t H ms=vA r->Sb r->MOk b0 F'.D0 F'.ds ms->a0p L=t.get->
        ∀a w,Sees F' L H a w->Code.roundsIn Fc 0 P c Q m a w:=by
      intro m
      induction m with
      |zero=>intro F' t H ms L r _ h;cases h
      |succ m ihm=>
        intro F' t H ms L r hf h hr0 hm hL a w hs;rw[roundsIn_succ];refine ih t H ms _ kr kx r h hr0 Fc F' L (Exit.then (Code.roundsIn Fc 0 P c Q m) Q) (hF.mono hf.grow.dd) (hf.n.trans hN) hm (aH hb hf.grow.size) hin hnd hL ?_ (λF' t' H' ms' L' r h1 h2 h3 h4=>hr.fol hf F' t' H' ms' L' r h1 h2 h3 h4) (λk F' t' H' ms' L' r h1 h2 h3 h4=>(hx k).fol hf F' t' H' ms' L' r h1 h2 h3 h4) a w hs;intro F'' t' H' ms' L' r h1 h2 h3 h4 hr0 a' w' hs';exact ihm F'' t' H' ms' L' r (hf.trans h1) h4 hr0 h2 h3 a' w' hs'
    exact key B F t H ms L r (Fol.refl F) h hr0 hm hL a w hs
  |rangeFunc g ps as bd _ _=>
    intro t H ms kn kr kx r h hr0 Fc F L Q hF hN hm hb hin hnd hL hn hr hx a w hs;have h:evG cl N rd g ps as bd t H ms kn kr kx=vA r:=h;unfold evG at h
    cases hg:Operand.inB N g with
    |false=>rw[hg]at h;cases h
    |true=>
      rw[hg]at h;simp only[wC]at h;split at h;rename_i gf caps hv;rw[<-hL]at hv;subst hN;split at h;split at h;rename_i v H2 hit;obtain⟨tm,ps',as',bd',st,pd,q1,q2,q3⟩:=I0v h hr0 hL hn hr hx;cases hF;refine x0j hg hL hv (hcl _ _ _ _ _ hit) q1 q2 (λF' b hf hds hD hle=>q3 F' hf ?_) a w hs;rw[hds];exact⟨⟨b,rfl,hD,aH hb hle⟩,hm.mono hf.grow.dd⟩;cases h;rename_i i;obtain⟨l0,rfl,hD0⟩:=hF;split at h;rename_i tm0 ps0 as0 bd0 st0 pd0 h0;split at h;rename_i v H2 hit;obtain⟨tm,ps',as',bd',st,pd,q1,q2,q3⟩:=I0v h hr0 hL hn hr hx;refine G0P hg hL hv hD0 h0 (hcl _ _ _ _ _ hit) q1 q2 (λF' hf hds=>q3 F' hf ?_) a w hs;rw[hds];exact hm.mono hf.grow.dd;cases h;cases h;cases h
  |_=>intro t H ms kn kr kx r h;cases h
end
/-! Functions. -/
theorem v0X{H:a0e}(h:y0d H v1 H1=vA (v,H')): ∃f,Back H.length H1 f v1 v H':=by
  unfold y0d at h;generalize o0P H1 100000 ((jC H.length).flatMap (λi=>Ent.rl<|H1.getD i .gone)++SV.rl v1) (jC H.length)=σ at h;simp only at h
  cases hs:u0b σ H1&&(SV.rl v1).all (λk=>x0z k σ)&&yA (σ.take H.length=jC H.length)&&yC H.length σ.length with
  |false=>rw[hs]at h;cases h
  |true=>
    rw[hs]at h;simp only[aa,wD]at hs;obtain⟨⟨⟨s1,s2⟩,s3⟩,s4⟩:=hs;cases h;have hm: ∀i∈SV.rl v1,i∈σ:=λi hi=>l0J.1 (s2 i hi)
    have hk:=jF s3;refine⟨a0Y σ,j0J s1,λj hj=> ?_, ?_,(v0w _ λk hk=>p0Q<|hm k hk).symm,by rw[g0z];exact v0x _ λk hk=>x0m<|hm k hk⟩;have:=congrArg (λl=>l[j]?) hk;simp only[aM,vB hj,bw hj]at this;unfold a0Y;rw[am,this];rfl;rw[g0z];exact ag s4
def LeR(F:Fr)(v:SV)(H':a0e)(x:SV×a0e):Prop:= ∀r w,Good F.w0 F.K0 F.D0 F.H0 r w x.1 x.2->Good F.w0 F.K0 F.D0 F.H0 r w v H'
def s0z(ts:List Nat)(t:TE){L:LE}(hL:a0p L=t.get):(ts.map λi=>(i,t.get i))=g0r ts L:=by
  unfold g0r;refine bH λi _=> ?_
  rw[<-hL];rfl
section
variable {P : Program}{fn : Func}{F : Fr}{v : SV}{H' : a0e}{b0 : Nat × List Deferred}
theorem I0z{x:SV×a0e}{t:TE}{L:LE}(hb0:b0.2=[])(hL:a0p L=t.get)(hn:F.n=fn.ntmps)(hres:j0R fn.ntmps fn.results.toList=jB)(hdom: ∀i,F.H0.length<=i->F.D0 i=none):
    ∀(ms:List Nat) (F':Fr) (H1:a0e),v0Y P fn F.H0 t H1 ms=vA x->LeR F v H' x->Fol F F'->MOk b0 F'.D0 F'.ds ms-> ∀a w,Sees F' L H1 a w->LeavesInM Fence.wide 0 P fn a.tmps (C0h F v H') a.defers .returning w:=by
  intro ms
  induction ms with
  |nil=>
    intro F' H1 h hx hf hm a w hs
    have hds:F'.ds=[]:=by
      cases hds:F'.ds with
      |nil=>rfl
      |cons d ds=>have h9:=w0u hm;rw[hds,hb0]at h9;cases h9
    have h:(match u0z P fn.results.toList ((e0p fn.results.toList).map λi=>(i,t.get i)) H1 with
      |some v1=>y0d F.H0 v1 H1
      |none=>none)=vA x:=h
    obtain⟨v2,H2⟩:=x;rw[s0z _ t hL]at h;split at h;rename_i v1 hret;obtain⟨f,hb⟩:=v0X h;obtain⟨hd,K,D,hi⟩:=hs.keep (L2:=g0r (e0p fn.results.toList) L)<|k0P _ _;rw[hd,hds];obtain⟨r,h1,h2⟩:=t0i (P:=P) (F:=F') hi (by rw[hf.n,hn];exact hres) hret;exact⟨r,h1,r,rfl,hx r w<|j0k (hf.grow.trans hi.grow) hi.hinv h2 hb hdom⟩;cases h
  |cons i ms ih=>
    intro F' H1 h hx hf hm a w hs
    cases hds:F'.ds with
    |nil=>rw[hds]at hm;exact hm.elim
    |cons d ds=>
      rw[hds]at hm;obtain⟨⟨b,rfl,hD,_⟩,hm⟩:=hm
      have h:(match(match H1[i]? with
        |some .dfr=>A0U ms (H1.set i .gone)
        |_=>none)with
        |some H2=>match u0z P fn.results.toList ((e0p fn.results.toList).map λi=>(i,t.get i)) H2 with
          |some v1=>y0d F.H0 v1 H2
          |none=>none
        |none=>none)=vA x:=h
      obtain⟨hd,K,D,hi⟩:=hs;rw[hd,hds]
      cases he:H1[i]? with
      |none=>rw[he]at h;cases h
      |some en=>
        rw[he]at h
        cases en with
        |dfr=>
          obtain⟨b',e1,e2,e3⟩:=hi.hinv.ent _ _ he;have:=hi.grow.dd _ _ hD;rw[this]at e1;cases e1;have ht:=L0v (w':=w.putObj b<|.deferred none) (en':= .gone) hi.hinv he rfl this rfl rfl rfl dE (λb' hb'=>vH hb') (λ_=>trivial) dE;refine⟨dE, .inl ⟨b,_,rfl,run_takeDeferred e3, ?_⟩⟩;exact ih ⟨F'.n,w.putObj b<|.deferred none,K,D,H1.set i .gone,ds⟩ _ h hx ⟨hf.n,(hf.grow.trans hi.grow).trans ht.1⟩ (hm.mono hi.grow.dd) { a with defers:=ds } _ ⟨rfl,K,D,⟨hi.slots.mono λ_ _=>ht.1.rep,ht.2,Grow.refl _ _ _ _⟩⟩
        |_=>cases h
end
theorem Good.viv{K:Nat->Nat}{H:a0e}{r:Value}(h:Good w K D H r w' .nl H1)(k:Nat)(e:TypeId):Good w K D H r w' (.vc H1.length) (H1++ [.vec 0 k e []]):=by
  obtain⟨K',D',g,hi,hr⟩:=h;obtain⟨g2,hi2⟩:=s0B hi k e;refine⟨K',_,g.trans g2,hi2, ?_⟩;cases hr;exact .vcn _ _ (by simp[g0y])
theorem M0N:N0n (LeR F v H') eqR:=by
  intro x y r h hr;unfold eqR at h;split at h;rename_i a H b H2
  cases hb:SV.eqb a b&&h0z H H2 with
  |true=>
    rw[hb]at h;simp only[aa]at hb;cases h;exact⟨⟨_,rfl,hr⟩,_,rfl,by rw[<-y0e _ _ hb.1,<-l0Q hb.2];exact hr⟩
  |false=>
    rw[hb]at h;simp only[vD]at h;split at h;rename_i i;split at h;rename_i k e he
    cases hc:oB i H.length&&h0z (H++ [.vec 0 k e []]) H2 with
    |false=>rw[hc]at h;cases h
    |true=>
      rw[hc]at h;simp only[aa]at hc;cases h;have h1:=ae hc.1;have h2:=l0Q hc.2;subst h1;subst h2;exact⟨⟨_,rfl,λr w hg=>hr r w<|Good.viv hg k e⟩,_,rfl,hr⟩
    cases h;cases h
  cases h
section
variable {P : Program}{kn cl : CallT}{yl : y0r}{B : Nat}
theorem K0p(hkn:kn.Ok P)(hcl:cl.Ok P)(hyl:YOk P yl):(O0q P kn cl yl B).Ok P:=by
  intro f args H v H' h;unfold O0q at h;split at h;rename_i r hr;cases h;exact hkn _ _ _ _ _ hr
  · split at h
    cases h
    · rename_i fn hf
      split at h
      cases h
      · rename_i c hb
        cases hq:N0T P f fn c&&yC args.length fn.ntmps with
        |false=>rw[hq]at h;cases h
        |true=>
          rw[hq]at h;simp only[N0T,aa]at hq;obtain⟨⟨⟨q1,q23⟩,q4⟩,q5⟩:=hq;obtain⟨q2,q3⟩:=z0F c q23;simp only[wC]at h;refine⟨q1,λw K D vals hl hrep hi hG=> ?_⟩;have hs:=w0R hl hrep hi hG (ag q5)
          have hend: ∀e:Exit,e= .normal\/e= .ret->KOk (w.heap.size,[]) ⟨fn.ntmps,w,K,D,H,[]⟩ (LeR ⟨fn.ntmps,w,K,D,H,[]⟩ v H') (bodyPostM Fence.wide 0 P fn<|C0h ⟨fn.ntmps,w,K,D,H,[]⟩ v H') e (v0Y P fn H):=by
            intro e he F' t' H2 ms' L' r h1 h2 h3 h4 hr0 a w' hs';have:=I0z (b0:=(w.heap.size,[])) (F:=⟨fn.ntmps,w,K,D,H,[]⟩) rfl h3 rfl q4 hi.dom ms' F' H2 h4 hr0 h1 h2 a w' hs';rcases he with rfl|rfl<;>exact this
          exact callsIn_wide.1 (callsIn_of_wp_marks (F:=Fence.wide) (n:=0) hf hb trivial
            (u0O (b0:=(w.heap.size,[])) (rd:=none) hcl hyl M0N c _ _ _ _ _ _ _ h (λ_ _ hg=>hg) Fence.wide ⟨fn.ntmps,w,K,D,H,[]⟩ (e0M 0 args) (bodyPostM Fence.wide 0 P fn<|C0h ⟨fn.ntmps,w,K,D,H,[]⟩ v H') rfl rfl rfl (ak _) q2 q3 (TE.init_env args)
              (hend _<|.inl rfl) (hend _<|.inr rfl) (λk F' t' H' ms' L' r h1 h2 h3 h4=>by cases h4) _ w hs))
def y0X:List Nat->List SV->LE->LE
  | [],_,L=>L
  |_::_,[],L=>L
  |p::ps,v::vs,L=>y0X ps vs ((p,v)::L)
def x0t: ∀(ps:List Nat) (vs:List SV) (L:LE) (t:TE),a0p L=t.get->a0p (y0X ps vs L)=(TE.pars ps vs t).get
  | [],_,L,t,h=>h
  |_::_,[],L,t,h=>h
  |p::ps,v::vs,L,t,h=>x0t ps vs _ _<|TE.put_env h (vA p) v
theorem r0i{N:Nat}{w:World}{K:Nat->Nat}{D:DM}: ∀(ps:List Nat) (vals:List Value) (args:List SV) (L:LE) (tm:Array Value),Slots N w K D (a0p L) tm->vals.length=args.length->
    (∀(j:Nat) (v:Value) (c:SV),vals[j]?=vA v->args[j]?=vA c->Rep w K D v c)->Slots N w K D (a0p<|y0X ps args L) ((ps.zip vals).foldl (λtmps p=>tmps.setIfInBounds p.1 p.2) tm)
  | [],vals,args,L,tm,hs,_,_=>hs
  |_::_,[],[],L,tm,hs,_,_=>hs
  |p::ps,v::vals,a::args,L,tm,hs,hl,hr=>by
    have h1:=Slots.put (a:= { tmps:=tm,defers:=[] }) hs (vA p)<|hr 0 v a rfl rfl;rw[b0b]at h1;exact r0i ps vals args _ _ h1 (by simpa using hl) (λj x c hx hc=>hr (j+1) x c (by simpa using hx)<|by simpa using hc)
  |_::_,[],_::_,_,_,_,hl,_=>by simp at hl
  |_::_,_::_,[],_,_,_,hl,_=>by simp at hl
theorem A0k{j:Option Code}{H3:a0e}{w3:World}{K3:Nat->Nat}{D3:DM}(h:v0y i j H3=vA (b,H'))(hi:HInv w3 K3 D3 H3)(hD:D3 i=vA (.at l 0 0)):
    ∃w',(Instr.endRound l j).run P w3= .ok (.bool b) w'/\Grow w3 K3 D3 H3 w' K3 D3 H'/\HInv w' K3 D3 H':=by
  unfold v0y at h
  split at h
  · rename_i tm ps as bd st pd he
    cases h;obtain⟨l',r,e1,e2,e3,e4,e5,e6,e7,e8,e9,e10⟩:=hi.ent _ _ he;rw[hD]at e1;cases e1;have hlt:=(al.1 e3).1;have hst:(bif j.isNone then LoopState.ready else .done)=if j.isNone then .ready else .done:=by cases j<;>rfl
    have ht:=L0v (w':=w3.putObj l<|.loop { r with state:=if j.isNone then .ready else .done,pending:=j }) (en':= .lop tm ps as bd (bif j.isNone then .ready else .done) j) hi he rfl hD rfl rfl rfl dE (λb' hb'=>vH hb')
      (λhr=>⟨l,_,hD,e2,World.putObj_heap_same hlt,e4,e5,e6,hst.symm,rfl,e9,λq v c hv hc=>hr _ _<|e10 q v c hv hc⟩) dE
    exact⟨_,run_endRound j e3,ht.1,ht.2⟩
  cases h
theorem K0o(hcl:cl.Ok P)(hyl:YOk P yl):YOk P (O0p P cl yl B):=by
  intro i args H b H' h Fc hW hW2 w K D vals hvl hvr hinv hG;unfold O0p at h
  split at h
  · rename_i tm ps as bd st pd he
    obtain⟨l,r,e1,e2,e3,e4,e5,e6,e7,e8,e9,e10⟩:=hinv.ent _ _ he
    cases hq:v0U st&&oB args.length ps.length&&O0B as bd tm.length with
    |false=>rw[hq]at h;cases h
    |true=>
      rw[hq]at h;simp only[aa]at hq;obtain⟨⟨q0,q1⟩,q23⟩:=hq;obtain⟨⟨q2,q4⟩,q3,q5⟩:=K0O q23;simp only[wC]at h;have hlen:vals.length=ps.length:=hvl.trans<|ae q1;refine⟨l,e1,r.fn,_,r.assign,r.body,run_yield e3<|by rw[e4];simpa using hlen,roundIn_of_wpIn (hW.fn _) ?_⟩;rw[hW2 l,e5,e6]
      have hsl0:Slots tm.length w K D (a0p<|e0M 0 tm) r.tmps:=by
        refine⟨e9,λq hq'=> ?_,hG⟩;show Rep w K D _ (lk (e0M 0 tm) q);rw[l0N,vB<|bo _,bJ,af hq',bu];rw[ba,aQ<|by rw[e9];exact hq'];exact e10 q _ _ (aQ<|by rw[e9];exact hq') (af hq')
      have hsl:=r0i ps vals args _ _ hsl0 hvl hvr
      have hfold:(r.params.zip vals.toArray).foldl (λtmps (t,a)=>tmps.setIfInBounds t a) r.tmps=(ps.zip vals).foldl (λtmps p=>tmps.setIfInBounds p.1 p.2) r.tmps:=by
        rw[e4];simp
      rw[hfold]
      refine u0O (b0:=(0,[])) (rd:=vA i) (Sb:=λx=>x=(b,H')) hcl hyl I0x as _ _ _ _ _ _ _ h rfl (Fence.wide.inRound l) ⟨tm.length,w,K,D,H,[]⟩ (y0X ps args<|e0M 0 tm) _ ⟨l,rfl,e1⟩ rfl rfl (bo _) q2 q4 (x0t ps args _ _<|TE.init_env tm) ?_
        (λF' t' H' ms' L' r h1 h2 h3 h4=>by cases h4) (λk F' t' H' ms' L' r h1 h2 h3 h4=>by cases h4) _ w ⟨rfl,K,D,⟨hsl,hinv,Grow.refl _ _ _ _⟩⟩
      intro F1 t1 H1 ms1 L1 r1' h1 h2 h3 h4 hr1' a1 w1 hs1;subst hr1';obtain⟨hd1,K1,D1,hi1⟩:=hs1;have hDi1:D1 i=vA (.at l 0 0):=hi1.grow.dd _ _<|h1.grow.dd _ _ e1;simp only at h4
      split at h4
      · rename_i tm1 ps1 as1 bd1 st1 pd1 he1
        cases hr1:v0U st1 with
        |false=>rw[hr1]at h4;cases h4
        |true=>
          rw[hr1]at h4;simp only[wC]at h4;obtain⟨l',r1,d1,d2,d3,d4,d5,d6,d7,d8,d9,d10⟩:=hi1.hinv.ent _ _ he1;rw[hDi1]at d1;cases d1;have hst1:r1.state= .ready:=by rw[d7];cases st1<;>first|rfl|cases hr1
          have hlt:=(al.1 d3).1
          have ht:=L0v (w':=w1.putObj l<|.loop { r1 with state:= .busy }) (en':= .lop tm1 ps1 as1 bd1 .busy pd1) hi1.hinv he1 rfl hDi1 rfl rfl rfl dE (λb' hb'=>vH hb')
            (λhr=>⟨l,_,hDi1,d2,World.putObj_heap_same hlt,d4,d5,d6,rfl,d8,d9,λq v c hv hc=>hr _ _<|d10 q v c hv hc⟩) dE
          refine⟨_,run_beginRound d3 hst1, ?_⟩
          have hend: ∀(j:Option Code) (e:Exit),(∀(R:Ending->World->Prop) (a:Act) (w:World),(∃v w',(Instr.endRound l j).run P w= .ok v w'/\R (.returned v) w')->roundPost P l R e a w)->
              KOk (0,[]) ⟨tm.length,w1.putObj l<|.loop { r1 with state:= .busy },K1,D1,H1.set i<|.lop tm1 ps1 as1 bd1 .busy pd1,F1.ds⟩ (λx=>x=(b,H')) (roundPost P l λe w'=>e= .returned (.bool b)/\ ∃K' D',Grow w K D H w' K' D' H'/\HInv w' K' D' H') e (λ_ H2 _=>v0y i j H2):=by
            intro j e hpost F3 t3 H3 ms3 L3 r3 g1 g2 g3 g4 hr3 a3 w3 hs3;subst hr3;obtain⟨hd3,K3,D3,hi3⟩:=hs3;obtain⟨w',hrun,gr,hiv⟩:=A0k (P:=P) g4 hi3.hinv<|hi3.grow.dd _ _<|g1.grow.dd _ _ hDi1;refine hpost _ _ _ ⟨_,w',hrun,rfl,K3,D3, ?_,hiv⟩;exact((((h1.grow.trans hi1.grow).trans ht.1).trans g1.grow).trans hi3.grow).trans gr
          exact u0O (b0:=(0,[])) (rd:=vA i) (Sb:=λx=>x=(b,H')) hcl hyl I0x bd _ _ _ _ _ _ _ h4 rfl (Fence.wide.inRound l) ⟨tm.length,w1.putObj l<|.loop { r1 with state:= .busy },K1,D1,H1.set i<|.lop tm1 ps1 as1 bd1 .busy pd1,F1.ds⟩ L1 _ ⟨l,rfl,hDi1⟩ rfl (h2.mono hi1.grow.dd) (bo _) q3 q5 h3
            (hend none .normal λR a w h=>h) (hend (vA .ret) .ret λR a w h=>h) (λk=>hend (vA<|.exit k) (.exit k) λR a w h=>h) a1 _
            ⟨hd1,K1,D1,⟨by have:=hi1.slots.mono λ_ _=>ht.1.rep;rw[h1.n]at this;exact this,ht.2,Grow.refl _ _ _ _⟩⟩
      cases h4
  cases h
theorem N0b{fs:List Nat}(h:cl.Ok P):(blk fs cl).Ok P:=by
  intro f args H v H' hh;unfold blk at hh
  cases hb:x0z f fs&& !((SV.rlL args).isEmpty)with
  |true=>rw[hb]at hh;cases hh
  |false=>rw[hb]at hh;exact h _ _ _ _ _ hh
theorem E0W{fz:List Nat}(hkn:kn.Ok P): ∀n,(evA P kn fz B n).1.Ok P/\YOk P (evA P kn fz B n).2:=by
  intro n
  induction n with
  |zero=>
    refine⟨?_, ?_⟩;intro f args H v H' h;have h:(none:Option<|SV×a0e)=vA (v,H'):=h;cases h;intro i args H b H' h;have h:(none:Option<|Bool×a0e)=vA (b,H'):=h;cases h
  |succ n ih=>exact⟨N0b<|K0p hkn ih.1 ih.2,K0o ih.1 ih.2⟩
end
theorem SC.frz2{P:Program}{v':SV}{en:Ent}{e:Nat}(h:SC P f args [] v [en, .vec n k e cs])(hv:SV.fz 1 (.lst n k cs) v=v')(he:Ent.fz 1 (.lst n k cs) en=en)(hr:(SV.refs 1 v'&&Ent.refs 1 en)=jB):SC P f args [] v' [en]:=by
  subst hv;simp only[aa]at hr;have h1:=SC.frz1 h 1 rfl;have hH:fzH 1 (.lst n k cs) [en, .vec n k e cs]=[en]++ [.gone]:=by unfold fzH;simp[he]
  rw[hH]at h1;refine⟨h1.1,λw K D vals hlen hrep hi hG=> ?_⟩;refine(h1.2 w K D vals hlen hrep hi hG).mono ?_;rintro ex w' ⟨r,hx,K1,D1,g,hi1,hr1⟩;exact⟨r,hx,j0k g hi1 hr1 (Back.drop (H':=[en]) (ex:=[.gone]) (bo _) hr.1<|by simp[hr.2]) λi _=>hi.dom i<|bo _⟩
theorem Wk.boxRow{L:LE}{H:a0e}(t i off n k:Nat)(hi:H[i]?=vA (.box cs))(ht:lk L t= .sl i off n k)(hk:oD 0 k=jB)(hle:yC (off+n*k) cs.length=jB)(hp:a0P ((cs.drop off).take<|n*k)=jB):
    Wk F L H ((t, .lst n k<|(cs.drop off).take<|n*k)::L) (H.set i .gone):=by
  intro a w hs;obtain⟨hd,K,D,h⟩:=hs;have hk:=ag hk;have hle:=ag hle;have hil:i<H.length:=(ab.1 hi).1;obtain⟨b,vs,e,h1,h2,h3,h4⟩:=h.hinv.ent i _ hi
  have hget: ∀j en,(H.set i .gone)[j]?=vA en->(j=i/\en= .gone)\/(j≠i/\H[j]?=vA en):=by
    intro j en hj;rw[aR]at hj;by_cases hji:i=j;subst hji;rw[vB rfl,vB hil]at hj;cases hj;exact .inl ⟨rfl,rfl⟩;rw[yB hji]at hj;exact .inr ⟨Ne.symm hji,hj⟩
  have hmono: ∀b',K b'<=(if b'=b then off+n*k else K b'):=λb'=>by
    split;rename_i e1;subst e1;omega;exact ak _
  have hm: ∀v s,Rep w K D v s->Rep w (λb'=>if b'=b then off+n*k else K b') D v s:=λv s hr=>hr.mono (λ_ _ _=>rfl) hmono (λ_ _ e=>e)
  have hmem: ∀b',Mem D (H.set i .gone) b'->Mem D H b':=by
    rintro b' ⟨j,en,c,n',q1,q2,q3⟩;rcases hget j en q1 with⟨_,rfl⟩|⟨_,g1⟩;cases q2;exact⟨j,en,c,n',g1,q2,q3⟩
  have hmb:Mem D H b:=⟨i,_,0,0,hi,rfl,h1⟩
  have g:=h.grow
  refine⟨hd,λb'=>if b'=b then off+n*k else K b',D,⟨⟨h.slots.size,λq hq=> ?_,λg cs hg=>hm _ _<|h.slots.glob g cs hg⟩,⟨λj hj=>h.hinv.dom j<|by simpa using hj,λj en hj=> ?_,λj j' en en' b c n1 c' n1' hj hj' hl hl' hdj hdj'=> ?_,λb' hb=> ?_⟩,
    ⟨g.os,g.tape,g.output,g.size,g.block,g.cells,λb'=>aH (g.le b')<|hmono b',λb' hb hmm=> ?_,g.dd,λb' hmm=>g.new b'<|hmem b' hmm⟩⟩⟩
  show Rep w _ D _ (lk ((t,_)::L) q);simp only[lk]
  cases hqt:oB q t with
  |false=>exact hm _ _ (h.slots.rep q hq)
  |true=>
    have:=ae hqt;subst this;have hr:=h.slots.rep q hq;rw[show a0p L q=lk L q from rfl,ht]at hr;generalize a.tmps.getD q undef=v at hr
    cases hr with
    |sl _ _ _ _ b' c m cap hdd hn=>
      rw[h1]at hdd;cases hdd;have hl:((vs.drop off).take<|n*k).length=n*k:=by rw[aE,bc,<-h4.len];omega
      refine .lst k b off n cap ((vs.drop off).take<|n*k) _ hk hl (by rw[aE,bc,hl];omega) hn (λj v hj=> ?_) (by rw[hl,vB rfl];exact ak _) (λv hv=>h4.one v<|bL<|bM hv) hp λj v c hv hc=> ?_;have hjl:j<n*k:=by have:=(ab.1 hj).1;omega
      rw[aM,vB hjl,cR]at hj;unfold World.cell?;rw[h3];simp[hj];have hjl:j<n*k:=by have:=(ab.1 hv).1;omega
      rw[aM,vB hjl,cR]at hv hc;exact hm _ _ (h4.rep _ v c hv hc)
  rcases hget j en hj with⟨_,rfl⟩|⟨hne,g1⟩;trivial;refine(h.hinv.ent j en g1).keep hm rfl λb' c n' hl hdj=>⟨rfl,yB λe1=> ?_⟩;subst e1;exact hne<|h.hinv.inj j i en _ b' c n' 0 0 g1 hi hl rfl hdj h1;rcases hget j en hj with⟨_,rfl⟩|⟨_,g1⟩;cases hl;rcases hget j' en' hj' with⟨_,rfl⟩|⟨_,g1'⟩;cases hl';exact h.hinv.inj j j' en en' b c n1 c' n1' g1 g1' hl hl' hdj hdj';by_cases e1:b'=b;subst e1;exact(k0A h.hinv hmb).1;rw[yB e1]at hb;exact h.hinv.kw b' hb;by_cases e1:b'=b;subst e1;rcases g.new b' hmb with q|q;exact absurd q hmm;omega;rw[yB e1];exact g.kk b' hb hmm
section
variable {F : Fr}{P : Program}{L : LE}{H : a0e}{Q : g0c}{ops : Array Oper}{p : Nat}{tr : List (List Nat × List Nat)}
theorem RJ.ok(ho:ops.toList[p]?=vA o)(hg:a0X ops (a0p L) o=vA jB)(hdd:o.dst=d)(h: ∀(a:Act) (w:World) (K:Nat->Nat) (D:DM),Inv F w K D H (a0p L) a.tmps->Op.inB F.n o.op=jB->q0R P w K D H o a v H2)
    (k:RJ F P none ops (p+1) tr (g0g L d v) H2 Q):RJ F P none ops p tr L H Q:=by
  subst hdd;intro hin a w hs;have hbo:Oper.inB F.n ops o=true:=List.all_eq_true.1 hin o<|o0S ho;obtain⟨hd,K,D,hi⟩:=hs;rw[e0g ho];refine wpList_step λKK hKK=> ?_
  rw[b0x hi.slots (Oper.inB_guard hbo) hg,vB rfl];obtain⟨r,w',hrun,g⟩:=h a w K D hi<|Oper.inB_op hbo;have hst:=hi.step (d:=o.dst) g;rw[b0b]at hst;unfold Oper.wp;rcases hrun with hrun|⟨hrun,hr⟩;rw[hrun];exact hKK _ _ (k hin _ _ ⟨by rw[a0L];exact hd,hst⟩);rw[hrun];subst hr;exact hKK _ _ (k hin _ _ ⟨by rw[a0L];exact hd,hst⟩)
def P0f(P:Program)(ops:Array Oper)(p:Nat)(L:LE)(H:a0e):Option (Option Nat×SV×a0e):=match ops.toList[p]? with
  |some o=>match a0X ops (a0p L) o with
    |some jB=>(exO P (a0p L) H o).map (λr=>(o.dst,r))
    |_=>none
  |none=>none
theorem RJ.ex(h:P0f P ops p L H=vA (d,v,H2))
    (k:RJ F P none ops (p+1) tr (g0g L d v) H2 Q):RJ F P none ops p tr L H Q:=by
  unfold P0f at h
  cases ho:ops.toList[p]? with
  |none=>rw[ho]at h;cases h
  |some o=>
    rw[ho]at h;simp only at h
    cases hg:a0X ops (a0p L) o with
    |none=>rw[hg]at h;cases h
    |some b=>
      cases b with
      |false=>rw[hg]at h;cases h
      |true=>
        rw[hg]at h;simp only at h
        cases hx:exO P (a0p L) H o with
        |none=>rw[hx]at h;cases h
        |some r=>
          rw[hx]at h;cases h;exact RJ.ok ho hg rfl (λa w K D hi hb=>E0V hx hi hb) k
def N0E(P:Program)(ρ:Env)(H:a0e)(o:Oper):Option (Nat×Nat×Nat×TypeId):=match o.op with
  | .slice t x none (vA hi) none=>match P.underlying t,a0B ρ x,a0B ρ hi with
    |some (.slice e),vA (.vc i),vA (.int _ 0)=>match H[i]? with
      |some (.vec n k e' _)=>bif oB k (P.cellsOf e)then vA (i,n,k,e')else none
      |_=>none
    |_,_,_=>none
  |_=>none
theorem K0L{P:Program}{H:a0e}(h:N0E P ρ H o=vA (i,n,k,e))(hm:oD 0 n=jB):exO P ρ H o=vA (.vc H.length,h0Y (i0j H<|vA i) H.length<|.vec 0 k e []):=by
  unfold N0E at h;unfold exO;split at h;split at h;split at h;rename_i n' k' e'' cs hc
  cases hb:oB k' (P.cellsOf _)with
  |false=>rw[hb]at h;cases h
  |true=>
    rw[hb]at h;cases h;have hk:=ae hb;have hn:0<n:=by simpa [de]using hm
    simp_all
  cases h;cases h;cases h
def M0X(P:Program)(ops:Array Oper)(p:Nat)(L:LE)(H:a0e):Option (Option Nat×Nat×Nat×Nat×TypeId):=match ops.toList[p]? with
  |some o=>match a0X ops (a0p L) o with
    |some jB=>(N0E P (a0p L) H o).map (λr=>(o.dst,r))
    |_=>none
  |none=>none
theorem RJ.cut0(h:M0X P ops p L H=vA (d,i,n,k,e))(hm:oD 0 n=jB)(hH:h0Y (i0j H<|vA i) H.length (.vec 0 k e [])=H2)
    (kk:RJ F P none ops (p+1) tr (g0g L d<|.vc H.length) H2 Q):RJ F P none ops p tr L H Q:=by
  unfold M0X at h
  cases ho:ops.toList[p]? with
  |none=>rw[ho]at h;cases h
  |some o=>
    rw[ho]at h;simp only at h
    cases hg:a0X ops (a0p L) o with
    |none=>rw[hg]at h;cases h
    |some b=>
      cases b with
      |false=>rw[hg]at h;cases h
      |true=>
        rw[hg]at h;simp only at h
        cases hx:N0E P (a0p L) H o with
        |none=>rw[hx]at h;cases h
        |some r=>
          rw[hx]at h;cases h;subst hH;exact RJ.ok ho hg rfl (λa w K D hi hb=>E0V (K0L hx hm) hi hb) kk
def I0c(P:Program)(base:Nat)(ops:Array Oper)(p:Nat)(tr:List<|List Nat×List Nat)(L:LE)(H:a0e):Option (Option Nat×Eff×Bool×List (List Nat×List Nat)):=
  match ops.toList[p]? with
  |none=>none
  |some o=>match a0X ops (a0p L) o with
    |some jB=>bif b0R o||d0n o then none else match j0Y P o (a0p L) H with
      |some (ef,c)=>bif okM (vA base) ops p o ef tr H then vA (o.dst,ef,c,trM (vA base) ops p o ef tr)else none
      |none=>none
    |_=>none
theorem RJ.relV{ef':Eff}(h:I0c P base ops p tr L H=vA (d,ef,c,tr2))(hc:c=jB)(hn:c=jB->ef=ef')(hH:b0a H ef'.wr=H2)(k:RJ F P (vA base) ops (p+1) tr2 (g0g L d ef'.v) H2 Q):RJ F P (vA base) ops p tr L H Q:=by
  unfold I0c at h;have hn':=hn hc;subst hn';subst hH;split at h;cases h;rename_i o ho;split at h;rename_i hg
  cases hcc:b0R o with
  |true=>rw[hcc]at h;cases h
  |false=>
    cases hcr:d0n o with
    |true=>rw[hcc,hcr]at h;cases h
    |false=>
      rw[hcc,hcr]at h;simp only[Bool.or_self,vD]at h;split at h;rename_i ef2 c2 he
      cases hok:okM (vA base) ops p o ef2 tr H with
      |false=>rw[hok]at h;cases h
      |true=>
        rw[hok]at h;simp only[wC,aj,aG]at h;obtain⟨rfl,rfl,rfl,rfl⟩:=h;intro hl;rw[e0g ho];simp only[okM,aa,bQ,wD]at hok;obtain⟨⟨k1,k2⟩,k3⟩:=hok;have k3': ∀x∈ef2.wr,x.1<H.length:=λx hx=>bF (ag<|by simpa [oD]using k3 x hx)
        subst hl;refine⟨ef2, ?_,k1, ?_⟩;unfold opD;rw[hg];simp only;rw[hcc,yB dE];exact⟨.inr<|.inr<|by rw[he,hc],(λhx=>absurd (hcr.symm.trans hx) dG),k3'⟩;have:=k (by simp[trM]);rw[<-n0Q _ _ k3',b0b];exact this
      cases h
  cases h
end
def dbl(xs:List T)(a b:Int):List T:=xs.take a.toNat++(xs.take b.toNat).take (min b.toNat<|xs.length-a.toNat)++xs.drop (a.toNat+min b.toNat (xs.length-a.toNat))
section
variable {T : Type}{enc : T -> List SV}{k : Nat}
def M0W(hk: ∀x,(enc x).length=k){xs:List T}{a b:Int}(h:(yA (a.toNat<=xs.length)&&yA (b.toNat<=xs.length))=jB):(yC (a.toNat*k+(xs.length-a.toNat)*k) (xs.flatMap enc).length&&yC (0+b.toNat*k) (xs.flatMap enc).length)=true:=by
  simp only[aa,decide_eq_true_eq]at h;rw[<-bV,l0S hk,bg,aa,co,co];exact⟨aK k dA,aK k h.2⟩
def F0i{xs:List T}{a b:Int}(h:(yA (a.toNat<=xs.length)&&yA (b.toNat<=xs.length))=jB):(dbl xs a b).length=xs.length:=by
  simp only[aa,decide_eq_true_eq]at h;simp[dbl];omega
def N.dblV(hk: ∀x,(enc x).length=k){rd:List Nat}{e:Nat}{xs:List T}{a b:Int}(h:(yA (a.toNat<=xs.length)&&yA (b.toNat<=xs.length))=jB):
    (⟨v,rd,[(i, .vec xs.length k e<|splice (xs.flatMap enc) (a.toNat*k)<|(((xs.flatMap enc).drop 0).take<|b.toNat*k).take<|min b.toNat (xs.length-a.toNat)*k)]⟩:Eff)=⟨v,rd,[(i,a0s enc k e<|dbl xs a b)]⟩:=by
  unfold a0s;rw[F0i h];simp only[aa,decide_eq_true_eq]at h
  have e1:(splice (xs.flatMap enc) (a.toNat*k)<|(((xs.flatMap enc).drop 0).take<|b.toNat*k).take<|min b.toNat (xs.length-a.toNat)*k)=(dbl xs a b).flatMap enc:=by
    unfold Sy.splice;rw[cV,i0G hk,i0G hk,i0G hk,l0S hk,<-bV,k0d hk];unfold dbl;rw[bT,bT];have hl:((xs.take b.toNat).take<|min b.toNat<|xs.length-a.toNat).length=min b.toNat (xs.length-a.toNat):=by simp;omega
    rw[hl,aS]
  rw[e1]
end
def bOf:SV->Option Bool
  | .bool b=>vA b
  |_=>none
def F0B(h:bOf s=vA b):s= .bool b:=by cases s<;>cases h;rfl
def Cf.L:Cf->LE
  | .cd _ L _ _=>L
  | .rg _ _ _ _ L _ _=>L
  | .ex _ L _ _=>L
  | .pn L _ _=>L
def Cf.H:Cf->a0e
  | .cd _ _ H _=>H
  | .rg _ _ _ _ _ H _=>H
  | .ex _ _ H _=>H
  | .pn _ H _=>H
def Cf.re(L:LE)(H:a0e):Cf->Cf
  | .cd c _ _ k=> .cd c L H k
  | .rg m ops p tr _ _ k=> .rg m ops p tr L H k
  | .ex e _ _ k=> .ex e L H k
  | .pn _ _ k=> .pn L H k
def Cf.nx(d:Option Nat)(v:SV)(H:a0e)(tr:List<|List Nat×List Nat):Cf->Cf
  | .rg m ops p _ L _ k=> .rg m ops (p+1) tr (g0g L d v) H k
  |C=>C
def toC(P:Program):Nat->Cf->Cf
  |0,C=>C
  |n+1,C=>match B0h P C with
    |some C'=>toC P n C'
    |none=>C
def L0e(σ:List Nat)(H1 H:a0e):Prop:=σ.length=H1.length/\σ.map (λi=>H[i]?)=H1.map (λen=>vA<|Ent.rn (a0Y σ) en)/\σ.Nodup/\H1.all (Ent.refs H1.length)=jB
theorem N0N{H:a0e}(a:σ.length=H1.length:=by kernel_rfl)(b:σ.map (λi=>H[i]?)=H1.map (λen=>vA<|Ent.rn (a0Y σ) en):=by kernel_rfl)(c:σ.Nodup:=by decide)(d:H1.all (Ent.refs H1.length)=true:=by kernel_rfl):L0e σ H1 H:=⟨a,b,c,d⟩
def L0o(σ:List Nat)(H1 H:a0e)(as:List SV):Prop:=L0e σ H1 H/\H1.all h0e=jB/\SV.refsL H1.length as=jB
theorem L0A{H:a0e}{as:List SV}(a:L0e σ H1 H:=by exact N0N)(b:H1.all h0e=true:=by kernel_rfl)(c:SV.refsL H1.length as=true:=by kernel_rfl):L0o σ H1 H as:=⟨a,b,c⟩
def N0m(σ:List Nat)(H1 H H0:a0e):Prop:=L0e σ H1 H/\σ.take H0.length=jC H0.length/\yC H0.length H1.length=jB
theorem N0M{H:a0e}(a:L0e σ H1 H:=by exact N0N)(b:σ.take H0.length=jC H0.length:=by kernel_rfl)(c:yC H0.length H1.length=true:=by kernel_rfl):N0m σ H1 H H0:=⟨a,b,c⟩
theorem O0S{xs:List Int}{H:a0e}(h:H[0]?=vA (.box<|xs.flatMap<|a0l kd):=by kernel_rfl):N0m [0] [.box<|xs.flatMap<|a0l kd] H [.box cs]:=
  ⟨⟨rfl,by simp only[ao,aI,y0N (enc:=a0l kd) λ_ _=>rfl,h],dG,by simp only[aL,bl,x0h (enc:=a0l kd) λ_ _=>rfl,Bool.and_self]⟩,rfl,rfl⟩
def L0n(σ:List Nat)(x y:LE×a0e)(H0:a0e):Prop:=L0e σ x.2 y.2/\σ.take H0.length=jC H0.length/\x.1.map (λp=>lk y.1 p.1)=x.1.map (λp=>SV.rn (a0Y σ) p.2)/\x.1.all (λp=>SV.refs x.2.length p.2)=jB
theorem N0p{y:LE×a0e}(a:L0e σ x.2 y.2:=by exact N0N)(b:σ.take H0.length=jC H0.length:=by kernel_rfl)(c:x.1.map (λp=>lk y.1 p.1)=x.1.map (λp=>SV.rn (a0Y σ) p.2):=by kernel_rfl)(d:x.1.all (λp=>SV.refs x.2.length p.2)=true:=by kernel_rfl):L0n σ x y H0:=⟨a,b,c,d⟩
def pbE{X Y r:α}{p:Prop}(h2:b=oA->Y=r->p)(h1:b=jB->X=r->p)(h:(bif b then X else Y)=r):p:=by
  cases b with
  |true=>exact h1 rfl h
  |false=>exact h2 rfl h
def nq{r:α}{p:Prop}(h:none=vA r):p:=nomatch h
def brC:Cf->Option Bool
  | .cd (.cond (.tmp t) _ _) L _ _=>bOf (lk L t)
  |_=>none
def tkC(v:Bool):Cf->Cf
  | .cd (.cond (.tmp t) a b) L H k=> .cd (bif v then a else b) ((t, .bool v)::L) H k
  |C=>C
def puS(C:Cf)(t:Nat)(v:SV):Cf:=C.re ((t,v)::C.L) C.H
def O0T:Cf->Bool
  | .cd _ _ _ _=>jB
  | .rg _ _ _ _ _ _ _=>jB
  |_=>oA
def O0h:Cf->Bool
  | .rg _ _ _ _ _ _ _=>jB
  |_=>oA
def F0T(P:Program):Cf->Option (Option Nat×Eff×Bool×List (List Nat×List Nat))
  | .rg m ops p tr L H _=>u0h P m ops p tr L H
  |_=>none
def puE(P:Program)(C:Cf)(ef:Eff):Cf:=match F0T P C with
  |some x=>C.nx x.1 ef.v (b0a C.H ef.wr) x.2.2.2
  |none=>C
def O0s(P:Program)(C:Cf):Eff:=match F0T P C with
  |some x=>x.2.1
  |none=>⟨.undef,[],[]⟩
def caA:Cf->Option (Option Nat×FuncId×List SV×List (List Nat×List Nat))
  | .rg m ops p tr L H _=>h0P m ops p tr L []
  |_=>none
def puA(C:Cf)(v:SV):Cf:=match caA C with
  |some x=>C.nx x.1 v C.H x.2.2.2
  |none=>C
def caG:Cf->Option (Option Nat×FuncId×List SV×List (List Nat×List Nat))
  | .rg none ops p [] L H _=>h0P none ops p [] L []
  |_=>none
def puG(C:Cf)(σ:List Nat)(m0:Nat)(v0:SV)(H1:a0e):Cf:=match caG C with
  |some x=>C.nx x.1 (SV.rn (gOf (a0Y σ) m0 C.H.length) v0) (d0y (a0Y σ) m0 C.H H1) []
  |none=>C
def pnC(H2:a0e):Cf->Cf
  | .rg _ _ _ _ L _ k=> .pn L H2 k
  |C=>C
def L0k:Cf->Bool
  | .cd (.seq _ _) _ _ _=>jB
  |_=>oA
def inC:Cf->Cf
  | .cd (.seq a _) L H _=> .cd a L H []
  |C=>C
def ouC(C:Cf)(x:LE×a0e):Cf:=match C with
  | .cd (.seq _ b) _ _ k=> .cd b x.1 x.2 k
  |C=>C
def frC:Cf->List Fm
  | .cd _ _ _ k=>k
  |_=> []
def loC(ts:List Nat):Cf->Option (LE×a0e)
  | .cd (.loop _) L H _=>vA (g0r ts L,H)
  |_=>none
def lbC(C:Cf)(x:LE×a0e):Cf:=match C with
  | .cd (.loop c) _ _ _=> .cd c x.1 x.2 []
  |C=>C
def enC(ts:List Nat):Cf->Option (LE×a0e)
  | .ex .normal L H []=>vA (g0r ts L,H)
  |_=>none
def enB:Cf->Bool
  | .ex .normal _ _ []=>jB
  |_=>oA
def upC(k:List Fm):Cf->Cf
  | .ex e L H _=> .ex e L H k
  | .pn L H _=> .pn L H k
  |C=>C
def upB:Cf->Bool
  | .ex .normal _ _ []=>oA
  | .ex _ _ _ []=>jB
  | .pn _ _ []=>jB
  |_=>oA
def isE:Cf->Bool
  | .ex _ _ _ []=>jB
  |_=>oA
def isP:Cf->Bool
  | .pn _ _ []=>jB
  |_=>oA
def reC(P:Program)(fn:Func):Cf->Option SV
  | .ex .ret L H []=>u0z P fn.results.toList L H
  | .ex .normal L H []=>u0z P fn.results.toList L H
  |_=>none
def D0G{P:Program}{fn:Func}{C:Cf}(hc:reC P fn C=vA v): ∃e L H,C= .ex e L H []/\(e= .normal\/e= .ret)/\u0z P fn.results.toList L H=vA v:=by
  unfold reC at hc;split at hc;exact⟨_,_,_,rfl, .inr rfl,hc⟩;exact⟨_,_,_,rfl, .inl rfl,hc⟩;cases hc
def E0D{C:Cf}(hc:L0k C=jB): ∃a b L H k,C= .cd (.seq a b) L H k:=by
  unfold L0k at hc;split at hc;exact⟨_,_,_,_,_,rfl⟩;cases hc
theorem H0T{C:Cf}(hc:upB C=jB):(∃e L H,C= .ex e L H []/\e≠ .normal)\/ ∃L H,C= .pn L H []:=by
  unfold upB at hc;split at hc;cases hc;rename_i e L H hne;exact .inl ⟨e,L,H,rfl,λq=>by subst q;exact hne rfl⟩;exact .inr ⟨_,_,rfl⟩;cases hc
def F0U:Cf->Bool
  | .rg (vA _) _ _ _ _ _ _=>oA
  |_=>jB
def G0d(C:Cf)(i:Nat):Option (Nat×Nat×TypeId×List SV):=bif F0U C then match C.H[i]? with
    |some (.vec n k e cs)=>vA (n,k,e,cs)
    |_=>none
  else none
def fzC(C:Cf)(i:Nat):Cf:=match G0d C i with
  |some (n,k,e,cs)=>C.re (fzE i (.lst n k cs) C.L) (fzH i (.lst n k cs) C.H)
  |none=>C
def mvC(C:Cf)(i:Nat):Cf:=match G0d C i with
  |some (n,k,e,cs)=>C.re (fzE i (.vc C.H.length) C.L) (fzH i (.vc C.H.length) C.H++ [.vec n k e cs])
  |none=>C
theorem v0a{C:Cf}{x:Nat×Nat×TypeId×List SV}(h:G0d C i=vA x):F0U C=jB/\C.H[i]?=vA (.vec x.1 x.2.1 x.2.2.1 x.2.2.2):=by
  unfold G0d at h;cases hb:F0U C<;>rw[hb]at h
  cases h;simp only[wC]at h;split at h;rename_i e;cases h;exact⟨rfl,e⟩;cases h
def vvC(t w:Nat)(e:TypeId)(C:Cf):Cf:=C.re ((t, .vc C.H.length)::C.L)<|C.H++ [.vec 0 w e []]
def C0d(C:Cf)(i:Nat):Option (List SV):=bif F0U C then match C.H[i]? with
    |some (.box cs)=>vA cs
    |_=>none
  else none
theorem n0N{C:Cf}{x:List SV}(h:C0d C i=vA x):F0U C=jB/\C.H[i]?=vA (.box x):=by
  unfold C0d at h;cases hb:F0U C<;>rw[hb]at h
  cases h;simp only[wC]at h;split at h;rename_i e;cases h;exact⟨rfl,e⟩;cases h
def bxC(C:Cf)(i:Nat)(f:List SV->List SV)(Hn:a0e):Cf:=match C0d C i with
  |some cs=>C.re C.L (C.H.set i (.box<|f cs)++Hn)
  |none=>C
section
variable {F : Fr}{P : Program}{fn : Func}{H0 : a0e}{Q : g0c}{C : Cf}{α A B R T S X O : Type}
def stp: ∀(n:Nat) {C:Cf},CJ F P fn H0 Q (toC P n C)->CJ F P fn H0 Q C
  |0,_,k=>k
  |n+1,C,k=>by
    unfold toC at k;split at k;rename_i C2 h2;exact⟨λhF=>G0l h2<|(stp n k).go hF⟩;exact k
/-! A truth is told. -/
theorem pB{X Y r:α}(n:Nat)(h1:X=r->CJ F P fn H0 Q (tkC jB<|toC P n C))(h2:Y=r->CJ F P fn H0 Q (tkC oA<|toC P n C))(hd:brC (toC P n C)=vA b:=by kernel_rfl)(h:(bif b then X else Y)=r):CJ F P fn H0 Q C:=by
  refine stp n ⟨λhF=> ?_⟩;generalize toC P n C=C at*;unfold brC at hd;split at hd;rename_i t a b' L H k;exact J.caseB t (F0B hd) (λhb=>K.condT (r0B<|Nat.beq_refl t)<|(h1<|condT hb h).go hF) λhb=>K.condF (r0B<|Nat.beq_refl t)<|(h2<|condF hb h).go hF;cases hd
def brD(d:Nat)(C:Cf):Option Bool:=bif O0T C then bOf (lk C.L d)else none
theorem pb{X Y r:α}(d n:Nat)(h1:X=r->CJ F P fn H0 Q (puS (toC P n C) d<|.bool jB))(h2:Y=r->CJ F P fn H0 Q (puS (toC P n C) d<|.bool oA))(hd:brD d (toC P n C)=vA b:=by kernel_rfl)(h:(bif b then X else Y)=r):CJ F P fn H0 Q C:=by
  refine stp n ⟨λhF=> ?_⟩;generalize toC P n C=C at*;have q1:=λhb=>(h1<|condT hb h).go hF
  have q2:=λhb=>(h2<|condF hb h).go hF
  cases C with
  |cd c L H k=>exact J.caseB d (F0B hd) q1 q2
  |rg m ops p tr L H k=>exact RJ.caseB d (F0B hd) q1 q2
  |_=>cases hd
theorem xP{c:Int}(kd:IntKind)(t n:Nat)(hj:j=c)(k:CJ F P fn H0 Q<|puS (toC P n C) t<|.int kd c)(hd:(bif O0h (toC P n C)then lk (toC P n C).L t else .undef)= .int kd j:=by kernel_rfl):CJ F P fn H0 Q C:=by
  refine stp n ⟨λhF=> ?_⟩;generalize toC P n C=C at*;have q:=k.go hF
  cases C with
  |rg m ops p tr L H k=>exact RJ.pin t hd hj q
  |_=>cases hd
def pP{A:Prop}{c:Int}(kd:IntKind)(t n:Nat)(hj:yA (j=c)=jB)(k:A->CJ F P fn H0 Q (puS (toC P n C) t<|.int kd c))(hd:(bif O0h (toC P n C)then lk (toC P n C).L t else .undef)= .int kd j:=by kernel_rfl)(h:A):CJ F P fn H0 Q C:=xP kd t n (jF hj) (k h) hd
/-! Operations that ask something. -/
theorem xR(n:Nat)(ef':Eff)(hm:c=jB)(hn:c=jB->ef=ef')(k:CJ F P fn H0 Q<|puE P (toC P n C) ef')(hh:(F0T P<|toC P n C).map (λx=>(x.2.1,x.2.2.1))=vA (ef,c):=by kernel_rfl):CJ F P fn H0 Q C:=by
  refine stp n ⟨λhF=> ?_⟩;generalize toC P n C=C at*;have q:=k.go hF;unfold puE at q
  cases hx:F0T P C with
  |none=>rw[hx]at hh;cases hh
  |some x=>
    rw[hx]at hh q;cases hh
    cases C with
    |rg m ops p tr L H k'=>exact RJ.rel hx hm hn rfl q
    |_=>cases hx
def pRb{X:Option α}{r:α}(n:Nat)(ef':Eff)(hn:c=jB->ef=ef')(k:X=vA r->CJ F P fn H0 Q (puE P (toC P n C) ef'))(hh:(F0T P<|toC P n C).map (λx=>(x.2.1,x.2.2.1))=vA (ef,c):=by kernel_rfl)(h:(bif c then X else none)=vA r):CJ F P fn H0 Q C:=xR n ef' (g0x h).1 hn (k (g0x h).2) hh
theorem pI[Inhabited T]{X:Option α}{r:α}{enc:T->List SV}{w:Nat}{xs:List T}(n:Nat)(hk: ∀x,(enc x).length=w)(k:X=vA r->CJ F P fn H0 Q (puE P (toC P n C) ⟨.ep<|enc<|nth xs j,[],[]⟩))
    (hh:(F0T P<|toC P n C).map (λx=>(x.2.1,x.2.2.1))=vA (⟨.ep<|((xs.flatMap enc).drop<|j.toNat*w).take w,[],[]⟩,inR j xs.length):=by kernel_rfl) (h:(bif inR j xs.length then X else none)=vA r):CJ F P fn H0 Q C:=pRb n _ (λhc=>N.idx hk hc) k hh h
def pQ{X:Option α}{r:α}(n:Nat)(k:X=vA r->CJ F P fn H0 Q (puE P (toC P n C)<|O0s P<|toC P n C))(hh:(F0T P<|toC P n C).map (λx=>x.2.2.1)=vA c:=by kernel_rfl)(h:(bif c then X else none)=vA r):CJ F P fn H0 Q C:=by
  refine pRb n _ (λ_=>rfl) k ?_ h;unfold O0s;cases hr:F0T P (toC P n C)<;>rw[hr]at hh<;>cases hh
  rfl
theorem xQ1(n:Nat)(hm:c=jB)(k:CJ F P fn H0 Q<|puE P (toC P n C)<|O0s P<|toC P n C)(hh:(F0T P<|toC P n C).map (λx=>x.2.2.1)=vA c:=by kernel_rfl):CJ F P fn H0 Q C:=by
  subst hm;exact pQ n (r:=()) (X:=vA ()) (λ_=>k) hh rfl
theorem pAp{X:Option α}{r:α}{xs ys:List T}(n i m w e:Nat)(rd:List Nat)(enc:T->List SV)(k:X=vA r->CJ F P fn H0 Q (puE P (toC P n C) ⟨.vc m,rd,[(i, .gone),(m,a0s enc w e<|xs++ys)]⟩))
    (hh:(F0T P<|toC P n C).map (λx=>(x.2.1,x.2.2.1))=vA (⟨.vc m,rd,[(i, .gone),(m, .vec (xs.length+ys.length) w e<|xs.flatMap enc++ys.flatMap enc)]⟩,room<|xs.length+ys.length):=by kernel_rfl) (h:(bif room (xs.length+ys.length)then X else none)=vA r):CJ F P fn H0 Q C:=pRb n _ (λ_=>N.app) k hh h
def lkK(P:Program)(j:Option Nat):Cf->Option (Option Nat×Eff×Bool×List (List Nat×List Nat))
  | .rg m ops p tr L H _=>E0p P m ops p tr L H j
  |_=>none
def puK(P:Program)(C:Cf)(j:Option Nat):Cf:=match lkK P j C with
  |some x=>C.nx x.1 x.2.1.v (b0a C.H x.2.1.wr) x.2.2.2
  |none=>C
def ltF(h:b=oA)(hc:c=jB):((b==oA)&&c)=true:=by rw[h,hc];rfl
def ltT(h:b=jB):(b==jB)=true:=by rw[h];rfl
theorem pLk{A:Prop}(j:Option Nat)(n:Nat)(hc:c=jB)(k:A->CJ F P fn H0 Q (puK P (toC P n C) j))(hh:(lkK P j<|toC P n C).map (λx=>x.2.2.1)=vA c:=by kernel_rfl)(h:A):CJ F P fn H0 Q C:=by
  refine stp n ⟨λhF=> ?_⟩;generalize toC P n C=C at*;have q:=(k h).go hF;unfold puK at q
  cases hx:lkK P j C with
  |none=>rw[hx]at hh;cases hh
  |some x=>
    rw[hx]at hh q;cases hh
    cases C with
    |rg m ops p tr L H k'=>exact RJ.look j hx hc q
    |_=>cases hx
def J0v(P:Program):Cf->Option (Option Nat×Eff×Bool×List (List Nat×List Nat))
  | .rg m ops p tr L H _=>A0i P m ops p tr L H
  |_=>none
def stY:Cf->Int
  | .rg _ ops p _ L _ _=>match ops.toList[p]? with
    |some o=>match o.op with
      | .store _ _ x=>match a0B (a0p L) x with
        |some (.int _ y)=>y
        |_=>0
      |_=>0
    |none=>0
  |_=>0
def siE(i:Nat)(e:Ent):Eff:=⟨.undef,[i],[(i,e)]⟩
def puV(P:Program)(C:Cf)(ef:Eff):Cf:=match J0v P C with
  |some x=>C.nx x.1 ef.v (b0a C.H ef.wr) x.2.2.2
  |none=>C
theorem pSI{xs:List Int}{o:Nat}{X:Option α}{r:α}(kd:IntKind)(n i:Nat)(k:X=vA r->CJ F P fn H0 Q (puV P (toC P n C)<|siE i<|.box<|(d0a xs ((o:Int)+j)<|stY<|toC P n C).flatMap<|a0l kd))
    (hh:(J0v P<|toC P n C).map (λx=>(x.2.1,x.2.2.1))=vA (siE i<|.box<|splice (xs.flatMap<|a0l kd) (o*1+j.toNat*1)<|(a0l kd)<|stY<|toC P n C,yC (o*1+j.toNat*1+((a0l kd)<|stY<|toC P n C).length) (xs.flatMap<|a0l kd).length):=by kernel_rfl) (h:(bif inP o j xs.length then X else none)=vA r):CJ F P fn H0 Q C:=by
  refine stp n ⟨λhF=> ?_⟩;have q:=(k (g0x h).2).go hF;generalize toC P n C=C at*;unfold puV at q
  cases hx:J0v P C with
  |none=>rw[hx]at hh;cases hh
  |some x=>
    rw[hx]at hh q;obtain⟨d,ef,c,tr2⟩:=x;have hh:=au hh
    cases C with
    |rg m ops p tr L H k'=>exact RJ.relS hx (by rw[show c=_ from congrArg vK hh];exact w0L (a0g kd) (g0x h).1) (λ_=>(show ef=_ from congrArg yE hh).trans<|N.storeB (a0g kd) (g0x h).1) rfl q
    |_=>cases hx
/-! Nothing is asked for. -/
def N0t(P:Program):Cf->Option (Nat×Nat×Bool)
  | .rg none ops p _ L _ _=>J0I P ops p L
  |_=>none
def niT(P:Program)(b:Bool)(C:Cf):Cf:=match N0t P C with
  |some x=>match C with
    | .rg m ops p tr L H k=> .rg m ops (p+1) tr ((x.1, .bool<|bif x.2.2 then b else !b)::L) H k
    |C=>C
  |none=>C
theorem pNi[DecidableEq α]{X Y:Option α}{r:α}(n:Nat)(k0:Y=vA r->CJ F P fn H0 Q (niT P oA<|toC P n C))(k1:X=vA r->CJ F P fn H0 Q (niT P jB<|toC P n C))(hh:(N0t P<|toC P n C).map (λx=>x.2.1)=vA m:=by kernel_rfl)(h:(bif oB m 0 then m0g X Y else Y)=vA r):CJ F P fn H0 Q C:=by
  refine stp n ⟨λhF=> ?_⟩;have q0:=(k0<|N0k h).go hF;have q1:=λe=>(k1<|N0j e h).go hF
  generalize toC P n C=C at*;unfold niT at q0 q1
  cases hx:N0t P C with
  |none=>rw[hx]at hh;cases hh
  |some x=>
    rw[hx]at hh q0 q1;cases hh;unfold N0t at hx;split at hx;rename_i ops p tr L H k';refine RJ.isNil (tr:=tr) hx λb hb=> ?_
    cases b with
    |false=>exact q0
    |true=>exact q1 (by show oB x.2.1 0=jB;rw[hb rfl];rfl)
    cases hx
/-! Calls. -/
theorem pAl{X:Option A}{kx:A->Option R}{r:R}{v:A->SV}(args:List SV)(n:Nat)(hs: ∀ {y},X=vA y->SC P f args' [] (v y) [])(hle:LeL args args')(k: ∀ {y},kx y=vA r->CJ F P fn H0 Q (puA (toC P n C)<|v y))
    (hc:(caA<|toC P n C).map (λx=>(x.2.1,x.2.2.1))=vA (f,args):=by kernel_rfl) (hr:SV.refsL 0 args=true:=by kernel_rfl) (hv: ∀y,SV.refs 0 (v y)=true:=by intro _;kernel_rfl) (h:X.bind kx=vA r):CJ F P fn H0 Q C:=by
  refine stp n ⟨λhF=> ?_⟩;generalize toC P n C=C at*;obtain⟨y,e1,e2⟩:=a0W h;have q:=(k e2).go hF;unfold puA at q
  cases hx:caA C with
  |none=>rw[hx]at hc;cases hc
  |some x=>
    rw[hx]at hc q;cases hc
    cases C with
    |rg m ops p tr L H k'=>exact RJ.call0 hx hr hle (hs e1) (hv y) q
    |_=>cases hx
def pA{X:Option A}{kx:A->Option R}{r:R}{v:A->SV}(n:Nat)(hs: ∀ {y},X=vA y->SC P f args [] (v y) [])(k: ∀ {y},kx y=vA r->CJ F P fn H0 Q (puA (toC P n C)<|v y))
    (hc:(caA<|toC P n C).map (λx=>(x.2.1,x.2.2.1))=vA (f,args):=by kernel_rfl) (hr:SV.refsL 0 args=true:=by kernel_rfl) (hv: ∀y,SV.refs 0 (v y)=true:=by intro _;kernel_rfl) (h:X.bind kx=vA r):CJ F P fn H0 Q C:=pAl args n hs (LeL.refl _) k hc hr hv h
theorem xC1(σ:List Nat)(n:Nat)(hs:SC P f args0 H1 v0 H2)(k:CJ F P fn H0 Q<|puG (toC P n C) σ H1.length v0 H2)
    (hc:(caG<|toC P n C).map (λx=>(x.2.1,x.2.2.1))=vA (f,SV.rnL (a0Y σ) args0):=by kernel_rfl) (hl:L0o σ H1 (toC P n C).H args0:=by exact L0A) (hle':yC H1.length H2.length=true:=by kernel_rfl):CJ F P fn H0 Q C:=by
  refine stp n ⟨λhF=> ?_⟩;generalize toC P n C=C at*;have q:=k.go hF;unfold puG at q;obtain⟨⟨hl,hg,hn,hr0⟩,hlive,hr⟩:=hl
  cases hx:caG C with
  |none=>rw[hx]at hc;cases hc
  |some x=>
    rw[hx]at hc q;unfold caG at hx;split at hx;obtain⟨d,f2,a2,tr2⟩:=x;cases hc;obtain⟨o,_,_,_,_,ht,_⟩:=e0h hx;cases ht;exact RJ.callG σ hx rfl hl hg hn hr0 hlive hr (LeL.refl _) hs hle' rfl rfl q;cases hx
theorem pC{X:Option A}{kx:A->Option R}{r:R}{v0:A->SV}{H2:A->a0e}(σ:List Nat)(n:Nat)(hs: ∀ {y},X=vA y->SC P f args0 H1 (v0 y) (H2 y))(k: ∀ {y},kx y=vA r->CJ F P fn H0 Q (puG (toC P n C) σ H1.length (v0 y)<|H2 y))
    (hc:(caG<|toC P n C).map (λx=>(x.2.1,x.2.2.1))=vA (f,SV.rnL (a0Y σ) args0):=by kernel_rfl) (hl:L0o σ H1 (toC P n C).H args0:=by exact L0A) (hle': ∀y,yC H1.length (H2 y).length=true:=by intro _;kernel_rfl) (h:X.bind kx=vA r):CJ F P fn H0 Q C:=by
  obtain⟨y,e1,e2⟩:=a0W h;exact xC1 σ n (hs e1) (k e2) hc hl<|hle' y
theorem xCl{X:Option A}{kx:A->Option R}{r:R}{v0:A->SV}{H2:A->a0e}(args0:List SV)(σ:List Nat)(n:Nat)(h:X.bind kx=vA r)(hs: ∀y,X=vA y->SC P f args' H1 (v0 y) (H2 y))(hle:LeL args0 args')(k: ∀y,kx y=vA r->CJ F P fn H0 Q (puG (toC P n C) σ H1.length (v0 y)<|H2 y))
    (hc:(caG<|toC P n C).map (λx=>(x.2.1,x.2.2.1))=vA (f,SV.rnL (a0Y σ) args0):=by kernel_rfl) (hl:L0o σ H1 (toC P n C).H args0:=by exact L0A) (hle': ∀y,yC H1.length (H2 y).length=true:=by intro _;kernel_rfl):CJ F P fn H0 Q C:=pC σ n (λe=>SC.weak (hs _ e) hle) (k _) hc hl hle' h
theorem xCP(σ:List Nat)(n:Nat)(hs:SP P f args0 H1 H2)(k:CJ F P fn H0 Q<|pnC (d0y (a0Y σ) H1.length (toC P n C).H H2)<|toC P n C)
    (hc:(caG<|toC P n C).map (λx=>(x.2.1,x.2.2.1))=vA (f,SV.rnL (a0Y σ) args0):=by kernel_rfl) (hl:L0o σ H1 (toC P n C).H args0:=by exact L0A) (hle':yC H1.length H2.length=true:=by kernel_rfl):CJ F P fn H0 Q C:=by
  refine stp n ⟨λhF=> ?_⟩;generalize toC P n C=C at*;have q:=k.go hF;obtain⟨⟨hl,hg,hn,hr0⟩,hlive,hr⟩:=hl
  cases hx:caG C with
  |none=>rw[hx]at hc;cases hc
  |some x=>
    rw[hx]at hc;unfold caG at hx;split at hx;obtain⟨d,f2,a2,tr2⟩:=x;cases hc;obtain⟨o,_,_,_,_,ht,_⟩:=e0h hx;cases ht;exact RJ.callP σ hx rfl hl hg hn hr0 hlive hr (LeL.refl _) hs hle' rfl q;cases hx
theorem pCS{X:Option (A⊕B)}{fa:A->Option R}{fb:B->Option R}{r:R}{v0:A->SV}{H2:A->a0e}{H3:B->a0e}(σ:List Nat)(n:Nat)(hs: ∀ {y},X=vA (.inl y)->SC P f args0 H1 (v0 y) (H2 y))(hp: ∀ {y},X=vA (.inr y)->SP P f args0 H1 (H3 y))
    (k1: ∀ {y},fa y=vA r->CJ F P fn H0 Q (puG (toC P n C) σ H1.length (v0 y)<|H2 y)) (k2: ∀ {y},fb y=vA r->CJ F P fn H0 Q (pnC (d0y (a0Y σ) H1.length (toC P n C).H<|H3 y)<|toC P n C))
    (hc:(caG<|toC P n C).map (λx=>(x.2.1,x.2.2.1))=vA (f,SV.rnL (a0Y σ) args0):=by kernel_rfl) (hl:L0o σ H1 (toC P n C).H args0:=by exact L0A) (hle': ∀y,yC H1.length (H2 y).length=true:=by intro _;kernel_rfl) (hle3: ∀y,yC H1.length (H3 y).length=true:=by intro _;kernel_rfl) (h:(X.bind λy=>zG fa fb y)=vA r):CJ F P fn H0 Q C:=by
  obtain⟨y,e1,e2⟩:=a0W h
  cases y with
  |inl a=>exact xC1 σ n (hs e1) (k1 e2) hc hl (hle' a)
  |inr b=>exact xCP σ n (hp e1) (k2 e2) hc hl<|hle3 b
/-! Cuts. -/
theorem pN{X:Option S}{kx:S->Option T}{r:T}(n:Nat)(R:S->LE×a0e)(h1: ∀ {s},X=vA s->CJ F P fn H0 (cutN F R s) (inC<|toC P n C))(h2: ∀ {s},kx s=vA r->CJ F P fn H0 Q (ouC (toC P n C)<|R s))(hc:L0k (toC P n C)=true:=by kernel_rfl)(h:X.bind kx=vA r):CJ F P fn H0 Q C:=by
  refine stp n ⟨λhF=> ?_⟩;obtain⟨a,b,L,H,k,e⟩:=E0D hc;obtain⟨s,e1,e2⟩:=a0W h;rw[e]at h1 h2⊢;exact J.cutN R s ((h1 e1).go hF)<|(h2 e2).go hF
theorem pX{M:Option (S⊕X)}{kx:S->Option X}{r:X}(n:Nat)(R:S->LE×a0e)(h1: ∀ {y},a0j kx y=vA r->M=vA y->CJ F P fn H0 (cutX F R (r0g F P Q<|frC<|toC P n C) y) (inC<|toC P n C))(h2: ∀ {s},kx s=vA r->CJ F P fn H0 Q (ouC (toC P n C)<|R s))(hc:L0k (toC P n C)=true:=by kernel_rfl)(h:M.bind (a0j kx)=vA r):CJ F P fn H0 Q C:=by
  refine stp n ⟨λhF=> ?_⟩;obtain⟨a,b,L,H,k,e⟩:=E0D hc;obtain⟨y,e1,e2⟩:=a0W h;rw[e]at h1 h2⊢;exact J.cutX R y ((h1 e2 e1).go hF) (λs hs=>by subst hs;exact(h2<|k0b e2).go hF)
theorem pL{step:S->Option (S⊕O)}{s0:S}{o:O}(n:Nat)(R:S->LE×a0e)(body: ∀ {s x},step s=vA x->CJ F P fn H0 (p0r F R (r0g F P Q<|frC<|toC P n C) o x) (lbC (toC P n C)<|R s))(hc:loC ((R s0).1.map yE) (toC P n C)=vA (R s0):=by kernel_rfl)(ho:a0m step m s0=vA o):CJ F P fn H0 Q C:=by
  refine stp n ⟨λhF=> ?_⟩;generalize toC P n C=C at*;unfold loC at hc;split at hc;have hc:=au hc;exact J.loopR R ho _ (congrArg yE hc) (congrArg vK hc) λs x hx=>(body hx).go hF;cases hc
/-! Shapes told by what changes. -/
inductive HU
  |ent (e:Ent)
  |cel (l:List<|Nat×SV)
def P0i(cs:List SV):List (Nat×SV)->List SV
  | []=>cs
  |p::l=>P0i (cs.set p.1 p.2) l
def K0i(H:a0e):List (Nat×HU)->a0e
  | []=>H
  |(i, .ent e)::l=>K0i (H.take i++e::H.drop (i+1)) l
  |(i, .cel cs)::l=>K0i (match H[i]? with
    |some (.box xs)=>H.set i (.box<|P0i xs cs)
    |_=>H) l
def L0y(L us:LE)(t:Nat):SV:=match us with
  | []=>lk L t
  |p::r=>bif oB p.1 t then p.2 else L0y L r t
def shp(C:Cf)(ts:List Nat)(m:Nat)(u:LE×List (Nat×HU)):LE×a0e:=(ts.map λt=>(t,L0y C.L u.1 t),K0i (C.H.take m) u.2)
def u0:Unit->LE×List (Nat×HU):=λ_=>([],[])
def u1{S:Type}(t:Nat)(f:S->SV):S->LE×List (Nat×HU):=λs=>([(t,f s)],[])
def u2{S T:Type}(t:Nat)(f:S->SV)(u:Nat)(g:T->SV):S×T->LE×List (Nat×HU):=λs=>([(t,f s.1),(u,g s.2)],[])
def pyN{X:Option S}{kx:S->Option T}{r:T}(n:Nat)(ts:List Nat)(q:Nat)(R:S->LE×List (Nat×HU))(h1: ∀ {s},X=vA s->CJ F P fn H0 (cutN F (λs=>shp (toC P n C) ts q<|R s) s) (inC<|toC P n C))(h2: ∀ {s},kx s=vA r->CJ F P fn H0 Q (ouC (toC P n C)<|shp (toC P n C) ts q<|R s))(hc:L0k (toC P n C)=true:=by kernel_rfl)(h:X.bind kx=vA r):CJ F P fn H0 Q C:=pN n _ h1 h2 hc h
def pyX{M:Option (S⊕X)}{kx:S->Option X}{r:X}(n:Nat)(ts:List Nat)(q:Nat)(R:S->LE×List (Nat×HU))(h1: ∀ {y},a0j kx y=vA r->M=vA y->CJ F P fn H0 (cutX F (λs=>shp (toC P n C) ts q<|R s) (r0g F P Q<|frC<|toC P n C) y) (inC<|toC P n C))(h2: ∀ {s},kx s=vA r->CJ F P fn H0 Q (ouC (toC P n C)<|shp (toC P n C) ts q<|R s))(hc:L0k (toC P n C)=true:=by kernel_rfl)(h:M.bind (a0j kx)=vA r):CJ F P fn H0 Q C:=pX n _ h1 h2 hc h
theorem pyL{step:S->Option (S⊕O)}{s0:S}{o:O}(n:Nat)(ts:List Nat)(q:Nat)(R:S->LE×List (Nat×HU))(body: ∀ {s x},step s=vA x->CJ F P fn H0 (p0r F (λs=>shp (toC P n C) ts q<|R s) (r0g F P Q<|frC<|toC P n C) o x) (lbC (toC P n C)<|shp (toC P n C) ts q<|R s))(hc:loC ts (toC P n C)=vA (shp (toC P n C) ts q<|R s0):=by kernel_rfl)(ht:(shp (toC P n C) ts q<|R s0).1.map yE=ts:=by kernel_rfl)(ho:a0m step m s0=vA o):CJ F P fn H0 Q C:=
  pL n (λs=>shp (toC P n C) ts q<|R s) body (by rw[ht];exact hc) ho
/-! Ends. -/
def enJ{ts:List Nat}(hc:enC ts C=vA x)(k: ∀L,g0r ts L=x.1->C= .ex .normal L x.2 []->(Cf.ex .normal L x.2 []).den F P Q):C.den F P Q:=by
  unfold enC at hc;split at hc;cases hc;exact k _ rfl rfl;cases hc
theorem pE{R:S->LE×a0e}{a st:S}(n:Nat)(hc:enC ((R a).1.map yE) (toC P n C)=vA (R a):=by kernel_rfl)(h:vA a=vA st):CJ F P fn H0 (cutN F R st) C:=stp n ⟨λhF=>enJ hc λL e _=>kNo h _ e rfl⟩
theorem pEx{R:S->LE×a0e}{a:S}{y:S⊕X}(n:Nat)(hc:enC ((R a).1.map yE) (toC P n C)=vA (R a):=by kernel_rfl)(h:vA (.inl a)=vA y):CJ F P fn H0 (cutX F R Q y) C:=stp n ⟨λhF=>enJ hc λL e _=>kXo h _ e rfl⟩
theorem pEl{R:S->LE×a0e}{o:O}{a:S}{y:S⊕O}(n:Nat)(hc:enC ((R a).1.map yE) (toC P n C)=vA (R a):=by kernel_rfl)(h:vA (.inl a)=vA y):CJ F P fn H0 (p0r F R Q o y) C:=stp n ⟨λhF=>enJ hc λL e _=>kLo h _ e rfl⟩
theorem enW(hF:FOk F fn H0)(hs:L0n σ x (C.L,C.H) H0):Wk F C.L C.H x.1 x.2:=by
  obtain⟨⟨hl,hg,hn,hr⟩,hk,hv,hvr⟩:=hs;exact Wk.sel H0.length (by rw[hF.h]) hF.d σ hl hg hn hr hk hv hvr
theorem pEs{R:S->LE×a0e}{a st:S}(σ:List Nat)(n:Nat)(hs:L0n σ (R a) ((toC P n C).L,(toC P n C).H) H0:=by exact N0p)(hv:enB (toC P n C)=true:=by kernel_rfl)(h:vA a=vA st):CJ F P fn H0 (cutN F R st) C:=by
  refine stp n ⟨λhF=> ?_⟩;have w:=enW hF hs;cases h;unfold enB at hv;split at hv
  rename_i e;rw[e]at w⊢;exact λx v q=>⟨rfl,w x v q⟩
  cases hv
theorem p0n{R:S->LE×a0e}{a:S}{y:S⊕X}(σ:List Nat)(n:Nat)(hs:L0n σ (R a) ((toC P n C).L,(toC P n C).H) H0:=by exact N0p)(hv:enB (toC P n C)=true:=by kernel_rfl)(h:vA (.inl a)=vA y):CJ F P fn H0 (cutX F R Q y) C:=by cases h;exact⟨(pEs σ n hs hv rfl).go⟩
theorem m0l{R:S->LE×a0e}{o:O}{a:S}{y:S⊕O}(σ:List Nat)(n:Nat)(hs:L0n σ (R a) ((toC P n C).L,(toC P n C).H) H0:=by exact N0p)(hv:enB (toC P n C)=true:=by kernel_rfl)(h:vA (.inl a)=vA y):CJ F P fn H0 (p0r F R Q o y) C:=by cases h;exact⟨(pEs σ n hs hv rfl).go⟩
/-! Ways out. -/
theorem pXr{R:S->LE×a0e}{x:X}{y:S⊕X}{kx:S->Option X}{r:Option X}{k:List Fm}(n:Nat)(hC:a0j kx y=r)(kk:vA x=r->CJ F P fn H0 Q (upC k<|toC P n C))(hc:upB (toC P n C)=true:=by kernel_rfl)(hA:vA (.inr x)=vA y):CJ F P fn H0 (cutX F R (r0g F P Q k) y) C:=by
  refine stp n ⟨λhF=> ?_⟩;obtain rfl:=oi hA;have q:=(kk hC).go hF;rcases H0T hc with⟨e,L,H,he,hne⟩|⟨L,H,he⟩<;>rw[he]at q⊢
  exact PJ.cutXr hne q;exact PP.cutXr q
theorem pLr{R:S->LE×a0e}{o o':O}{y:S⊕O}{k:List Fm}(n:Nat)(kk:vA o'=vA o->CJ F P fn H0 Q (upC k<|toC P n C))(hc:upB (toC P n C)=true:=by kernel_rfl)(hA:vA (.inr o')=vA y):CJ F P fn H0 (p0r F R (r0g F P Q k) o y) C:=by
  refine stp n ⟨λhF=> ?_⟩;obtain rfl:=oi hA;have q:=λh=>(kk<|congrArg vA h).go hF
  rcases H0T hc with⟨e,L,H,he,hne⟩|⟨L,H,he⟩<;>rw[he]at q⊢
  exact PJ.loopOut hne q;exact PP.loopOut q
/-! The function's end. -/
theorem pZh{a r:T}(n:Nat)(hc:a=r->reC P fn (toC P n C)=vA v:=by rintro rfl;kernel_rfl)(hr:a=r->SV.refs 0 v=true:=by rintro rfl;kernel_rfl)(hin:j0R fn.ntmps fn.results.toList=true:=by kernel_rfl)(h:vA a=vA r):CJ F P fn [] (u0e P fn F v []) C:=by
  refine stp n ⟨λhF=> ?_⟩;obtain⟨e,L,H,he,hn,hv⟩:=D0G<|hc<|oi h;rw[he];exact K.ret0 hn hF.n hF.h hF.d hin hv<|hr<|oi h
theorem xRV(σ:List Nat)(n:Nat)(hc:reC P fn (toC P n C)=vA (SV.rn (a0Y σ) v):=by kernel_rfl)(hin:j0R fn.ntmps fn.results.toList=true:=by kernel_rfl)(hl:N0m σ H' (toC P n C).H H0:=by exact N0M)(hvr:SV.refs H'.length v=true:=by kernel_rfl):CJ F P fn H0 (u0e P fn F v H') C:=by
  refine stp n ⟨λhF=> ?_⟩;obtain⟨e,L,H,he,hn,hv⟩:=D0G hc;obtain⟨⟨hl,hg,hnd,hr⟩,hk,hle⟩:=hl;rw[he]at hg⊢;exact K.retV σ hn hF.n hF.h hF.d hin hv hl hg hnd hr hk hle rfl hvr
theorem pRV{a r:T}(σ:List Nat)(n:Nat)(hc:a=r->reC P fn (toC P n C)=vA (SV.rn (a0Y σ) v):=by rintro rfl;kernel_rfl)(hin:j0R fn.ntmps fn.results.toList=true:=by kernel_rfl)(hl:a=r->N0m σ H' (toC P n C).H H0:=by rintro rfl;exact N0M)(hvr:a=r->SV.refs H'.length v=true:=by rintro rfl;kernel_rfl)(h:vA a=vA r):CJ F P fn H0 (u0e P fn F v H') C:=xRV σ n (hc<|oi h) hin (hl<|oi h)<|hvr<|oi h
theorem xPV(σ:List Nat)(n:Nat)(hp:isP (toC P n C)=true:=by kernel_rfl)(hl:N0m σ H' (toC P n C).H H0:=by exact N0M):CJ F P fn H0 (L0i F H') C:=by
  refine stp n ⟨λhF=> ?_⟩;generalize toC P n C=C at*;obtain⟨⟨hl,hg,hnd,hr⟩,hk,hle⟩:=hl;unfold isP at hp;split at hp;exact K.panV σ hF.h hF.d hl hg hnd hr hk hle;cases hp
theorem xRs(hl:Le v1 v)(n:Nat)(k:CJ F P fn H0 (u0e P fn F v1 H')<|toC P n C)(h:isE (toC P n C)=true:=by kernel_rfl):CJ F P fn H0 (u0e P fn F v H') C:=by
  refine stp n ⟨λhF=> ?_⟩;have q:=k.go hF;unfold isE at h;split at h;rename_i e;rw[e]at q⊢;exact PJ.res hl q;cases h
theorem C0y{r:A⊕B}(hv:A->SV)(hH:A->a0e)(hP:B->a0e)(h: ∀F:Fr,CJ F P fn H0 (O0O P fn F hv hH hP r)<|.cd (e0y fn) (e0M 0 args) H0 [])
    (hf:P.funcs[f]?=vA fn:=by kernel_rfl) (hb:fn.body.isSome=true:=by kernel_rfl) (hcal:b0o P f=true:=by kernel_rfl) (hin:b0n fn.ntmps (e0y fn)=true:=by kernel_rfl) (hn:yC args.length fn.ntmps=true:=by kernel_rfl):
    (∀a,r= .inl a->SC P f args H0 (hv a) (hH a))/\(∀b,r= .inr b->SP P f args H0 (hP b)):=
  P0t hv hH hP (λF a b c=>(h F).go ⟨a,b,c⟩) hf hb hcal hin hn
theorem pFn{A:Prop}(g: ∀ {F:Fr},A->CJ F P fn H0 (u0e P fn F v H') (.cd (e0y fn) (e0M 0 args) H0 []))(h:A)(hf:P.funcs[f]?=vA fn:=by kernel_rfl)(hb:fn.body.isSome=true:=by kernel_rfl)(hcal:b0o P f=true:=by kernel_rfl)(hin:b0n fn.ntmps (e0y fn)=true:=by kernel_rfl)(hn:yC args.length fn.ntmps=true:=by kernel_rfl):SC P f args H0 v H':=
  K.fn hf hb hcal hin hn (λF a b c=>(g h).go ⟨a,b,c⟩)
/-! What is known told as what is asked for. -/
mutual
def SV.up:SV->SV->SV
  | .nl, .lst 0 k []=> .lst 0 k []
  | .agg l, .agg m=> .agg (SV.upL l m)
  | .tup l, .tup m=> .tup (SV.upL l m)
  |a,_=>a
def SV.upL:List SV->List SV->List SV
  |a::l,b::m=>SV.up a b::SV.upL l m
  |l,_=>l
end
mutual
def SV.up_ok(a b:SV):Le a (SV.up a b):=by
  unfold SV.up;split;exact Le.nl _;exact Le.agg<|SV.upL_ok _ _;exact Le.tup<|SV.upL_ok _ _;exact Le.refl _
def SV.upL_ok(l m:List SV):LeL l (SV.upL l m):=by
  unfold SV.upL;split;exact .cons (SV.up_ok _ _)<|SV.upL_ok _ _;exact LeL.refl _
end
theorem pZl{a r:T}(n:Nat)(hc:a=r->(reC P fn<|toC P n C).map (λw=>SV.up w v)=vA v:=by rintro rfl;kernel_rfl)(hr:(reC P fn<|toC P n C).all (SV.refs 0)=true:=by kernel_rfl)(hin:j0R fn.ntmps fn.results.toList=true:=by kernel_rfl)(h:vA a=vA r):CJ F P fn [] (u0e P fn F v []) C:=by
  refine stp n ⟨λhF=> ?_⟩;have hc:=hc (oi h)
  cases hw:reC P fn (toC P n C)with
  |none=>rw[hw]at hc;cases hc
  |some w=>
    rw[hw]at hr hc;obtain⟨e,L,H,he,hn,hv⟩:=D0G hw;have hle:=SV.up_ok w v;rw[show SV.up w v=v from au hc]at hle;rw[he];exact PJ.res hle<|K.ret0 hn hF.n hF.h hF.d hin hv hr
def pAu{X:Option A}{kx:A->Option R}{r:R}{v:A->SV}(n:Nat)(hs: ∀ {y},X=vA y->SC P f args' [] (v y) [])(k: ∀ {y},kx y=vA r->CJ F P fn H0 Q (puA (toC P n C)<|v y))
    (hc:(caA<|toC P n C).map (λx=>(x.2.1,SV.upL x.2.2.1 args'))=vA (f,args'):=by kernel_rfl) (hr:(caA<|toC P n C).all (λx=>SV.refsL 0 x.2.2.1)=true:=by kernel_rfl) (hv: ∀y,SV.refs 0 (v y)=true:=by intro _;kernel_rfl) (h:X.bind kx=vA r):CJ F P fn H0 Q C:=by
  cases hw:caA (toC P n C)with
  |none=>rw[hw]at hc;cases hc
  |some x=>
    rw[hw]at hr hc;have h1:=au hc;have hle:=SV.upL_ok x.2.2.1 args';rw[show SV.upL x.2.2.1 args'=args' from congrArg vK h1]at hle;exact pAl _ n hs hle k (by rw[hw,<-show x.2.1=f from congrArg yE h1];rfl) hr hv h
/-! Other rules, used where the run stands. -/
theorem xW(n:Nat)(hw:FOk F fn H0->Wk F (toC P n C).L (toC P n C).H L2 H2)(hk:F0U (toC P n C)=jB)(k:CJ F P fn H0 Q<|(toC P n C).re L2 H2):CJ F P fn H0 Q C:=by
  refine stp n ⟨λhF=> ?_⟩;generalize toC P n C=C at*;have q:=k.go hF;have w:=hw hF
  cases C with
  |cd c L H k=>exact J.wk w q
  |rg m ops p tr L H k=>cases m with
    |none=>exact RJ.wk (tr:=tr) w q
    |some b=>cases hk
  |ex e L H k=>exact PJ.wk w q
  |pn L H k=>exact PP.wk w q
def xFz(i n:Nat)(k:CJ F P fn H0 Q<|fzC (toC P n C) i)(h:(G0d (toC P n C) i).isSome=true:=by kernel_rfl):CJ F P fn H0 Q C:=by
  unfold fzC at k;cases hv:G0d (toC P n C) i<;>rw[hv]at k h
  cases h;exact xW n (λ_=>Wk.freeze i (v0a hv).2) (v0a hv).1 k
def pFz{A:Prop}(i n:Nat)(k:A->CJ F P fn H0 Q (fzC (toC P n C) i))(hv:(G0d (toC P n C) i).isSome=true:=by kernel_rfl)(h:A):CJ F P fn H0 Q C:=xFz i n (k h) hv
def xMv(i n:Nat)(k:CJ F P fn H0 Q<|mvC (toC P n C) i)(h:(G0d (toC P n C) i).isSome=true:=by kernel_rfl):CJ F P fn H0 Q C:=by
  unfold mvC at k;cases hv:G0d (toC P n C) i<;>rw[hv]at k h
  cases h;exact xW n (λ_=>Wk.move i (v0a hv).2) (v0a hv).1 k
def xVv(t w:Nat)(e:TypeId)(n:Nat)(k:CJ F P fn H0 Q<|vvC t w e<|toC P n C)(h:(bif F0U (toC P n C)then lk (toC P n C).L t else .undef)= .nl:=by kernel_rfl):CJ F P fn H0 Q C:=by
  cases hb:F0U (toC P n C)<;>rw[hb]at h
  cases h;exact xW n (λ_=>Wk.viv t w e h) hb k
def xBx(n i:Nat){f:List SV->List SV}{Hn:a0e}(hw: ∀ {cs},(toC P n C).H[i]?=vA (.box cs)->Wk F (toC P n C).L (toC P n C).H (toC P n C).L ((toC P n C).H.set i (.box<|f cs)++Hn))(k:CJ F P fn H0 Q<|bxC (toC P n C) i f Hn)(h:(C0d (toC P n C) i).isSome=jB):CJ F P fn H0 Q C:=by
  unfold bxC at k;cases hv:C0d (toC P n C) i<;>rw[hv]at k h
  cases h;exact xW n (λ_=>hw (n0N hv).2) (n0N hv).1 k
def xVb(i off w:Nat)(e:TypeId)(n:Nat)(k:CJ F P fn H0 Q<|bxC (toC P n C) i (λcs=>cs.set off<|.vc (toC P n C).H.length) [.vec 0 w e []])(h:(C0d (toC P n C) i).bind (λcs=>cs[off]?)=vA .nl:=by kernel_rfl):CJ F P fn H0 Q C:=by
  cases hv:C0d (toC P n C) i with
  |none=>rw[hv]at h;cases h
  |some cs=>
    refine xBx n i (λe1=> ?_) k (by rw[hv];rfl);rw[(n0N hv).2]at e1;cases e1;rw[hv]at h;exact Wk.vivBox i off w e (n0N hv).2 h
theorem xUn(i:Nat)(ms:List Bool)(n:Nat)(k:CJ F P fn H0 Q<|bxC (toC P n C) i (m0x ms) [])(h:(C0d (toC P n C) i).isSome=true:=by kernel_rfl):CJ F P fn H0 Q C:=
  xBx n i (λe=>by rw[bO];exact Wk.undefs i ms e) k h
def xLb(i off:Nat)(v':SV)(n:Nat)(hle:Le v v')(k:CJ F P fn H0 Q<|bxC (toC P n C) i (λcs=>cs.set off v') [])(h:(C0d (toC P n C) i).bind (λcs=>cs[off]?)=vA v:=by kernel_rfl):CJ F P fn H0 Q C:=by
  cases hv:C0d (toC P n C) i with
  |none=>rw[hv]at h;cases h
  |some cs=>
    refine xBx n i (λe1=> ?_) k (by rw[hv];rfl);rw[(n0N hv).2]at e1;cases e1;rw[hv]at h;rw[bO];exact Wk.leBox i off (n0N hv).2 h hle
def brX(t i off m w:Nat)(C:Cf):Cf:=match C0d C i with
  |some cs=>C.re ((t, .lst m w<|(cs.drop off).take<|m*w)::C.L) (C.H.set i .gone)
  |none=>C
theorem xBr(t i off m w n:Nat)(k:CJ F P fn H0 Q<|brX t i off m w<|toC P n C)(h:(C0d (toC P n C) i).map (λcs=>oD 0 w&&yC (off+m*w) cs.length&&a0P ((cs.drop off).take<|m*w))=vA true:=by kernel_rfl)(ht:lk (toC P n C).L t= .sl i off m w:=by kernel_rfl):CJ F P fn H0 Q C:=by
  unfold brX at k
  cases hv:C0d (toC P n C) i with
  |none=>rw[hv]at h;cases h
  |some cs=>
    rw[hv]at h k;have h:=au h;simp only[aa]at h;exact xW n (λ_=>Wk.boxRow t i off m w (n0N hv).2 ht h.1.1 h.1.2 h.2) (n0N hv).1 k
def xSl(L2:LE)(H2:a0e)(σ:List Nat)(n:Nat)(k:CJ F P fn H0 Q<|(toC P n C).re L2 H2)(hs:L0n σ (L2,H2) ((toC P n C).L,(toC P n C).H) H0:=by exact N0p)(h:F0U (toC P n C)=true:=by kernel_rfl):CJ F P fn H0 Q C:=xW n (λhF=>enW hF hs) h k
/-! A rule of before, used once. -/
def cfM:Cf->Option Nat
  | .rg m _ _ _ _ _ _=>m
  |_=>none
def cfO:Cf->Array Oper
  | .rg _ ops _ _ _ _ _=>ops
  |_=> #[]
def cfP:Cf->Nat
  | .rg _ _ p _ _ _ _=>p
  |_=>0
def cfT:Cf->List (List Nat×List Nat)
  | .rg _ _ _ tr _ _ _=>tr
  |_=> []
def cfK:Cf->List Fm
  | .rg _ _ _ _ _ _ k=>k
  |_=> []
theorem xO(n:Nat)(st: ∀Q,RJ F P (cfM<|toC P n C) (cfO<|toC P n C) p2 tr2 L2 H2 Q->RJ F P (cfM<|toC P n C) (cfO<|toC P n C) (cfP<|toC P n C) (cfT<|toC P n C) (toC P n C).L (toC P n C).H Q)
    (k:CJ F P fn H0 Q<|.rg (cfM<|toC P n C) (cfO<|toC P n C) p2 tr2 L2 H2<|cfK<|toC P n C) (h:O0h (toC P n C)=true:=by kernel_rfl):CJ F P fn H0 Q C:=by
  refine stp n ⟨λhF=> ?_⟩;generalize toC P n C=C at*;have q:=st _ (k.go hF)
  cases C with
  |rg m ops p tr L H k=>exact q
  |_=>cases h
def P0c:Cf->Bool
  | .rg none _ _ [] _ _ _=>jB
  |_=>oA
theorem xON(n:Nat)(st: ∀Q,RJ F P none (cfO<|toC P n C) p2 [] L2 H2 Q->RJ F P none (cfO<|toC P n C) (cfP<|toC P n C) [] (toC P n C).L (toC P n C).H Q)
    (k:CJ F P fn H0 Q<|.rg none (cfO<|toC P n C) p2 [] L2 H2<|cfK<|toC P n C) (h:P0c (toC P n C)=true:=by kernel_rfl):CJ F P fn H0 Q C:=by
  refine stp n ⟨λhF=> ?_⟩;generalize toC P n C=C at*;have q:=st _<|k.go hF;unfold P0c at h;split at h;exact q;cases h
def bsC:Cf->Nat
  | .rg (vA b) _ _ _ _ _ _=>b
  |_=>0
def P0d:Cf->Bool
  | .rg (vA _) _ _ _ _ _ _=>jB
  |_=>oA
theorem xOD(n:Nat)(st: ∀Q,RJ F P (vA<|bsC<|toC P n C) (cfO<|toC P n C) p2 tr2 L2 H2 Q->RJ F P (vA<|bsC<|toC P n C) (cfO<|toC P n C) (cfP<|toC P n C) (cfT<|toC P n C) (toC P n C).L (toC P n C).H Q)
    (k:CJ F P fn H0 Q<|.rg (vA<|bsC<|toC P n C) (cfO<|toC P n C) p2 tr2 L2 H2<|cfK<|toC P n C) (h:P0d (toC P n C)=true:=by kernel_rfl):CJ F P fn H0 Q C:=by
  refine stp n ⟨λhF=> ?_⟩;generalize toC P n C=C at*;have q:=st _<|k.go hF;unfold P0d at h;split at h;exact q;cases h
end
def N0L: ∀L:LE,∃t:TE,a0p L=t.get
  | []=>⟨.e,rfl⟩
  |(i,v)::L=>by
    obtain⟨t,h⟩:=N0L L;exact⟨_,TE.put_env h (vA i) v⟩
section
variable {P : Program}{ops : Array Oper}{Q : g0c}{Fc : Fence}{F : Fr}{p : Nat}{L : LE}{H : a0e}{c : Code}
theorem Ji.cond{N:Nat}(hN:F.n=N)(h:y0l c L=vA (.bool b))(k:Ji Fc 0 F P (bif b then ct c else ce c) L H Q)(hin:b0n N c=true:=by kernel_rfl):Ji Fc 0 F P c L H Q:=by
  cases c<;>first|cases h|skip
  rename_i x y z;intro a w hs;simp only[b0n,aa]at hin;have hs0:=hs;obtain⟨hd,K,D,hi⟩:=hs;have hr:=a0i hi.slots (by rw[hN];exact hin.1.1) h;generalize hva:a.eval x=v at hr;cases hr;refine wpIn_cond hva ?_;cases b;exact k a w hs0;exact k a w hs0
theorem Ji.skip(k:PJ F Q .normal L H)(h:u0J c=true:=by kernel_rfl):Ji Fc 0 F P c L H Q:=by
  cases c with
  |skip=>exact λa w hs=>wpIn_skip (k a w hs)
  |_=>cases h
theorem Ji.draw{N:Nat}(hW:Wd Fc)(hN:F.n=N)(h:o0x jB c=jB)(hm:P.follows .mixedOrders=jB)(hB:vG .any (h0I c)=jB)(hin:(h0I c).toList.all (Oper.inB N<|h0I c)=jB)(hnd:(h0I c).toList.all (t0u 1000)=jB)(hH:H++oC (e0k<|h0I c) .res=H2)(hn:H.length=n)
    (k:RJ F P (vA n) (h0I c) 0 [] L H2 Q):Ji Fc 0 F P c L H Q:=by
  subst hH;subst hn;cases c<;>first|cases h|skip
  rename_i id ops d
  cases d with
  |false=>cases h
  |true=>
  simp only[h0I]at*;intro a w hst;rw[wD]at hin hnd;simp only[vG,aa]at hB;obtain⟨hd,K,D,hinv⟩:=hst;refine wpIn_region_any hm<|I0N hW (R:=λa w=>Q .normal a w) (λo ho=>(s0y<|hnd o ho).1) (λa w hx=>hx) _ _ _ _ ?_;obtain⟨es,_,hany,_⟩:=s0L (P:=P) (base:=H.length) (ops:=ops) (K:=fun ρ H=> ∀a w,St F ρ H a w->Q .normal a w) ops.toList [] (yD ops.size oA) (a0p L) (H++oC (e0k ops) .res) dE (λj o e hj=>by simp at hj) (λk hk=>absurd hk<|cQ _) (by simpa using hB.2) (by simpa [A0K]using k rfl);have hinv':=hinv.reserve (e0k ops)
  have hdrew:Inv F w.drew K D (H++oC (e0k ops) .res) (a0p L) a.tmps:=⟨hinv'.slots.mono λ_ _=>World.drew_rep,hinv'.hinv.drew,hinv'.grow.trans<|Grow.drew _ _ _ _⟩
  exact t0U (Q:=y0Z λa w=>Q .normal a w) (KS:=fun ρ H=> ∀a w,St F ρ H a w->Q .normal a w) (fun ρ H a w hst hq=>hq a w hst) (λo ho=>by rw[hN];exact hin o ho) ops.size _ (a0p L) _ a _ ⟨hd,K,D,hdrew⟩ (by simpa using hany)
def PJ.nexti{y:Code}(k:Ji Fc 0 F P y L H Q):PJ F (Exit.then (y.wpIn Fc 0 P Q) Q) .normal L H:=k
theorem RJi.yields{N:Nat}(hN:F.n=N)(ho:ops.toList[p]?=vA o)(hg:a0X ops (a0p L) o=vA jB)(hb:Oper.inB N ops o=jB)(hnd:t0u 1000 o=jB)(hdd:o.dst=d)(hc:C0w (a0p L) o=vA (i,args))(hY:YS P i args H b H')
    (k:RJi Fence.wide 0 F P ops (p+1) (g0g L d<|.bool b) H' Q):RJi Fence.wide 0 F P ops p L H Q:=by
  subst hdd;have h:=RLi.yield (Fc:=Fence.wide) (F:=F) (P:=P) (ops:=ops) (l:=ops.toList.drop<|p+1) (Q:=Q) (L:=L) (H:=H) k0J (λ_=>rfl) hg (by rw[hN];exact hb) (s0y hnd).1 hc hY k;intro a w hs;rw[e0g ho];exact h a w hs
end
/-! Rounds. -/
def rdQ(F:Fr)(i:Nat)(b:Bool)(H2:a0e):g0c:=λe a w=> ∃j L3 H3,(e= .normal/\j=none\/e= .ret/\j=vA Code.ret)/\v0y i j H3=vA (b,H2)/\Sees F L3 H3 a w
theorem PJ.rdN{L:LE}{H:a0e}(h:v0y i none H=vA (b,H2)):PJ F (rdQ F i b H2) .normal L H:=λa w hs=>⟨none,L,H, .inl ⟨rfl,rfl⟩,h,hs⟩
theorem PJ.rdR{L:LE}{H:a0e}(h:v0y i (vA .ret) H=vA (b,H2)):PJ F (rdQ F i b H2) .ret L H:=λa w hs=>⟨vA .ret,L,H, .inr ⟨rfl,rfl⟩,h,hs⟩
theorem YS.of{P:Program}{N:Nat}{H:a0e}{ps:List Nat}{ac:Code}{L1:LE}(he:H[i]?=vA (.lop tm ps ac bd .ready none))(hl:oB args.length ps.length=jB)(htm:tm.length=N)(h1:H1[i]?=vA (.lop tm ps ac bd .ready none))
    (hA: ∀(l:Nat) (F:Fr),F.n=N->F.H0=H->(∀j,F.H0.length<=j->F.D0 j=none)->Ji (Fence.wide.inRound l) 0 F P ac (y0X ps args<|e0M 0 tm) H λe a w=>e= .normal/\Sees F L1 H1 a w)
    (hB: ∀(l:Nat) (F:Fr),F.n=N->F.H0=H->(∀j,F.H0.length<=j->F.D0 j=none)->Ji (Fence.wide.inRound l) 0 F P bd L1 (H1.set i<|.lop tm ps ac bd .busy none) (rdQ F i b H2)):YS P i args H b H2:=by
  intro Fc hW hW2 w K D vals hvl hvr hinv hG;obtain⟨l,r,e1,e2,e3,e4,e5,e6,e7,e8,e9,e10⟩:=hinv.ent _ _ he;have hlen:vals.length=ps.length:=hvl.trans<|ae hl;refine⟨l,e1,r.fn,_,r.assign,r.body,run_yield e3<|by rw[e4];simpa using hlen,roundIn_of_wpIn (hW.fn _) ?_⟩;rw[hW2 l,e5,e6]
  have hsl0:Slots tm.length w K D (a0p<|e0M 0 tm) r.tmps:=by
    refine⟨e9,λq hq'=> ?_,hG⟩;show Rep w K D _ (lk (e0M 0 tm) q);rw[l0N,vB<|bo _,bJ,af hq',bu];rw[ba,aQ<|by rw[e9];exact hq'];exact e10 q _ _ (aQ<|by rw[e9];exact hq') (af hq')
  have hsl:=r0i ps vals args _ _ hsl0 hvl hvr
  have hfold:(r.params.zip vals.toArray).foldl (λtmps (t,a)=>tmps.setIfInBounds t a) r.tmps=(ps.zip vals).foldl (λtmps p=>tmps.setIfInBounds p.1 p.2) r.tmps:=by
    rw[e4];simp
  rw[hfold];rw[htm]at hsl;refine wpIn_mono (hA l ⟨N,w,K,D,H,[]⟩ rfl rfl hinv.dom _ w ⟨rfl,K,D,⟨hsl,hinv,Grow.refl _ _ _ _⟩⟩) ?_;rintro e a1 w1 ⟨rfl,hs1⟩;obtain⟨hd1,K1,D1,hi1⟩:=hs1;have hDi1:D1 i=vA (.at l 0 0):=hi1.grow.dd _ _ e1;obtain⟨l',r1,d1,d2,d3,d4,d5,d6,d7,d8,d9,d10⟩:=hi1.hinv.ent _ _ h1;rw[hDi1]at d1;cases d1;have hlt:=(al.1 d3).1
  have ht:=L0v (w':=w1.putObj l<|.loop { r1 with state:= .busy }) (en':= .lop tm ps ac bd .busy none) hi1.hinv h1 rfl hDi1 rfl rfl rfl dE (λb' hb'=>vH hb')
    (λhr=>⟨l,_,hDi1,d2,World.putObj_heap_same hlt,d4,d5,d6,rfl,d8,d9,λq v c hv hc=>hr _ _<|d10 q v c hv hc⟩) dE
  refine⟨_,run_beginRound d3 d7, ?_⟩;refine wpIn_mono (hB l ⟨N,w,K,D,H,[]⟩ rfl rfl hinv.dom a1 _ ⟨hd1,K1,D1,⟨hi1.slots.mono λ_ _=>ht.1.rep,ht.2,hi1.grow.trans ht.1⟩⟩) ?_;rintro e a3 w3 ⟨j,L3,H3,hj,hend,hd3,K3,D3,hi3⟩;obtain⟨w',hrun,gr,hiv⟩:=A0k (P:=P) hend hi3.hinv (hi3.grow.dd _ _ e1)
  have hR: ∃v w'',(Instr.endRound l j).run P w3= .ok v w''/\(λe w'=>e=Ending.returned (.bool b)/\ ∃K' D',Grow w K D H w' K' D' H2/\HInv w' K' D' H2) (.returned v) w'':=⟨_,w',hrun,rfl,K3,D3,hi3.grow.trans gr,hiv⟩
  rcases hj with⟨rfl,rfl⟩|⟨rfl,rfl⟩;exact hR;exact hR
/-! The statement. -/
def rps:Code->List Nat| .rangeFunc _ ps _ _=>ps.toList|_=> []
def H0p(t:Nat):Code->Bool| .rangeFunc (.tmp q) _ _ _=>oB q t|_=>oA
def I0m:Option Ent->Option (Option Code)
  |some (.lop _ _ _ _ st pd)=>bif q0B st then none else vA pd
  |_=>none
theorem K.range{P:Program}{c:Code}{L:LE}{H H3:a0e}{N t g:Nat}(hN:F.n=N)(hc:H0p t c=jB)(htN:oD t N=jB)(hv:lk L t= .fn (.func g) [] caps)(hm:H.length=m)(htm:(jC N).map (lk L)=tm)
    (hsc:SC P g (.yld (m+1)::caps) (H++ [.dfr, .lop tm (rps c) (ra c) (rb c) .ready none]) v H2) (hl:I0m H2[m+1]?=vA pd) (hH3:H2.set (m+1) .gone=H3)
    (k: ∀F':Fr,F'.n=N->Fol F F'->MOk (F.w0.heap.size,F.ds) F'.D0 F'.ds [m]->F0S F' Q L H3 pd):J F P c L H Q:=by
  subst hm;subst htm;subst hN;subst hH3
  obtain⟨tm',ps',as',bd',st,hl,hst⟩: ∃tm' ps' as' bd' st,H2[H.length+1]?=vA (.lop tm' ps' as' bd' st pd)/\q0B st=false:=by
    generalize H2[H.length+1]?=e at hl
    match e,hl with
    |some (.lop tm' ps' as' bd' st pd'),hl=>
      simp only[I0m]at hl
      cases hb:q0B st with
      |true=>rw[hb]at hl;cases hl
      |false=>rw[hb]at hl;cases hl;exact⟨_,_,_,_,_,rfl,hb⟩
  cases c<;>first|cases hc|skip
  rename_i g0 ps as bd;cases g0<;>first|cases hc|skip
  rename_i q;have:=ae hc;subst this;obtain⟨t,ht⟩:=N0L L;have hmap:(jC F.n).map t.get=(jC F.n).map (lk L):=by rw[<-ht];rfl
  intro _ a w hs
  have hsc':SC P g (.yld (H.length+1)::caps) (H++ [.dfr]++ [.lop ((jC F.n).map t.get) ps.toList as bd .ready none]) v H2:=by
    rw[hmap,aS];exact hsc
  have hin:Operand.inB F.n (.tmp q)=true:=by
    have:q<F.n:=ag htN;simp[Operand.inB,this]
  refine wpIn_wide.1 (x0j (g:= .tmp q) (t:=t) hin ht (by rw[<-hv];rfl) hsc' hl hst ?_ a w hs);intro F' b hf hds hD hle;exact k F' hf.n hf (by rw[hds];exact⟨⟨b,rfl,hD,hle⟩,MOk.of_nil rfl⟩)
def P0x(P:Program)(fn:Func)(L:LE)(H:a0e)(m:Nat):Option (SV×a0e):=match A0U [m] H with
  |some H2=>match u0z P fn.results.toList (g0r (e0p fn.results.toList) L) H2 with
    |some v1=>y0d [] v1 H2
    |none=>none
  |none=>none
theorem K.endM{P:Program}{fn:Func}{L:LE}{H:a0e}(hn:F.n=fn.ntmps)(h0:F.H0=[])(hdom: ∀i,F.H0.length<=i->F.D0 i=none)(hds:F.ds=[])(hf:Fol F F')(hm:MOk (F.w0.heap.size,F.ds) F'.D0 F'.ds [m])(hres:j0R fn.ntmps fn.results.toList=jB)(hev:P0x P fn L H m=vA (v,H')):
    PJ F' (bodyPostM Fence.wide 0 P fn<|C0h F v H') .ret L H:=by
  obtain⟨t,ht⟩:=N0L L;rw[hds]at hm
  have he:v0Y P fn F.H0 t H [m]=vA (v,H'):=by
    unfold v0Y;rw[s0z _ t ht,h0];exact hev
  exact I0z (b0:=(F.w0.heap.size,[])) rfl ht hn hres hdom [m] F' H he (λr w h=>h) hf hm
section
variable {T : Type}[Inhabited T]{enc : T -> List SV}{k : Nat}
end
def P0g(ρ:Env)(o:Oper):Option (FuncId×List SV):=match o.op,o.guard,o.dst with
  | .defer c,none,none=>match c.callee with
    | .value f=>match a0B ρ f,c.args.toList with
      |some (.fn (.func f) first captured),[]=>vA (f,first++captured)
      |_,_=>none
    |_=>none
  |_,_,_=>none
def P0l(c:Code):Option (Nat×Nat):=match(h0I<|cl c).toList with
  | [o,o']=>match o.dst,o'.dst with
    |some a,vA b=>vA (a,b)
    |_,_=>none
  |_=>none
def N0r(_ _:Option α):Option α:=none
def z0b{Sb:α->Prop}:N0n Sb (N0r (α:=α)):=λ_ _ _ h=>by cases h
noncomputable def sdT(P:Program)(cl':CallT)(yl:y0r)(B:Nat)(g:FuncId)(args:List SV)(H:a0e):Option a0e:=match P.funcs[g]? with
  |some fn=>match fn.body with
    |some c=>match P0l c with
      |some (t4,t5)=>bif b0o P g&&b0n fn.ntmps c&&g0u (cr c)&&yC args.length fn.ntmps&&D0E P c t4 t5&&(oD t4 fn.ntmps&&oD t5 fn.ntmps)&&j0R fn.ntmps fn.results.toList then
          match ewC N0r P cl' cl' yl B fn.ntmps none (cr c) (((TE.init 0 args .e).set .undef t4).set (.bool oA) t5) H [] (λt H1 ms=>match ms with| []=>v0Y P fn H t H1 []|_=>none) (λt H1 ms=>match ms with| []=>v0Y P fn H t H1 []|_=>none) (λ_ _ _ _=>none)with
          |some (.tup [],H')=>vA H'
          |_=>none
        else none
      |none=>none
    |none=>none
  |none=>none
noncomputable def K0H(P:Program)(cl':CallT)(yl:y0r)(B:Nat)(fn:Func)(H:a0e)(g:FuncId)(dargs:List SV)(t3:TE)(H3:a0e):Option (SV×a0e):=
  (fun σ=>bif u0b σ H3&&(SV.rlL dargs).all (λk=>x0z k σ)&&(s0s σ H3).all h0e then
    match sdT P cl' yl B g (SV.rnL (C0q σ) dargs) (s0s σ H3)with
    |some H0'=>bif yC σ.length H0'.length then match u0z P fn.results.toList ((e0p fn.results.toList).map λi=>(i,t3.get i)) (d0y (a0Y σ) σ.length H3 H0')with
      |some v1=>y0d H v1 (d0y (a0Y σ) σ.length H3 H0')
      |none=>none
      else none
    |none=>none
  else none) (o0P H3 100000 (SV.rlL dargs) [])
noncomputable def dfT(P:Program)(cl':CallT)(yl:y0r)(B:Nat):CallT:=λf args H=>match P.funcs[f]? with
  |some fn=>match fn.body with
    |some (.seq A<|.seq (.region id ops oA) rest)=>bif b0o P f&&b0n fn.ntmps (.seq A<|.seq (.region id ops oA) rest)&&g0u A&&g0u rest&&j0R fn.ntmps fn.results.toList&&yC args.length fn.ntmps then
        ewC N0r P cl' cl' yl B fn.ntmps none A (TE.init 0 args .e) H [] (λt H1 ms=>match ms,ops.toList with
          | [],[o1,o2]=>match a0X ops t.get o1,b0R o1,a0D P o1 t.get H1 H1.length with
            |some jB,oA,vA ef=>match P0g (t.put o1.dst ef.v).get o2 with
              |some (g,dargs)=>ewC N0r P cl' cl' yl B fn.ntmps none rest (t.put o1.dst ef.v) (b0a H1 ef.wr) [] (λ_ _ _=>none) (λt3 H3 ms3=>match ms3 with| []=>K0H P cl' yl B fn H g dargs t3 H3|_=>none) (λ_ _ _ _=>none)
              |none=>none
            |_,_,_=>none
          |_,_=>none) (λ_ _ _=>none) (λ_ _ _ _=>none)
      else none
    |_=>none
  |none=>none
section
variable {P : Program}{cl' : CallT}{yl : y0r}{B : Nat}
theorem K0u{fn:Func}{t:TE}{L:LE}(hL:a0p L=t.get)(hn:F.n=fn.ntmps)(hres:j0R fn.ntmps fn.results.toList=jB)(hdom: ∀i,F.H0.length<=i->F.D0 i=none)
    (h:v0Y P fn F.H0 t H1 []=vA (v,H')) (hf:Fol F F') (hs:Sees F' L H1 a w): ∃r,(results fn a.tmps).run P w= .ok r w/\Good F.w0 F.K0 F.D0 F.H0 r w v H':=by
  have h:(match u0z P fn.results.toList ((e0p fn.results.toList).map λi=>(i,t.get i)) H1 with
    |some v1=>y0d F.H0 v1 H1
    |none=>none)=vA (v,H'):=h
  rw[s0z _ t hL]at h;split at h;rename_i v1 hret;obtain⟨f,hb⟩:=v0X h;obtain⟨hd,K,D,hi⟩:=hs.keep (L2:=g0r (e0p fn.results.toList) L)<|k0P _ _;obtain⟨r,h1,h2⟩:=t0i (P:=P) (F:=F') hi (by rw[hf.n,hn];exact hres) hret;exact⟨r,h1,j0k (hf.grow.trans hi.grow) hi.hinv h2 hb hdom⟩;cases h
theorem L0B(hcl:cl'.Ok P)(hyl:YOk P yl){g:FuncId}{H:a0e}(h:sdT P cl' yl B g args H=vA H'):SD P g oA args H H':=by
  unfold sdT at h
  split at h
  · rename_i fn hf
    split at h
    · rename_i c hb
      split at h
      · rename_i t4 t5 _
        cases hq:b0o P g&&b0n fn.ntmps c&&g0u (cr c)&&yC args.length fn.ntmps&&D0E P c t4 t5&&(oD t4 fn.ntmps&&oD t5 fn.ntmps)&&j0R fn.ntmps fn.results.toList with
        |false=>rw[hq]at h;cases h
        |true=>
          rw[hq]at h;simp only[aa]at hq;obtain⟨⟨⟨⟨⟨⟨q1,q2⟩,q3⟩,q4⟩,q5⟩,q6⟩,q7⟩:=hq;simp only[wC]at h
          split at h
          · rename_i H2 he
            cases h;have hbc:e0y fn=c:=by unfold e0y;rw[hb];rfl
            refine K.fnC oA t4 t5 hf (by rw[hb];rfl) q1 (by rw[hbc];exact q2) q4 (by rw[hbc];exact q5) (by rw[aa];exact q6) λF hn hH hdom=> ?_;rw[hbc];intro hin a w hs
            have henv:a0p ((t5, .bool oA)::(t4, .undef)::e0M 0 args)=(((TE.init 0 args .e).set .undef t4).set (.bool oA) t5).get:=
              TE.put_env (TE.put_env (TE.init_env args) (vA t4) .undef) (vA t5) (.bool oA)
            refine wpIn_wide.1 (u0O (b0:=(0,F.ds)) (rd:=none) (Sb:=λx=>x=(.tup [],H')) hcl hyl z0b _ _ _ _ _ _ _ _ he rfl Fence.wide F _ _ rfl hn (MOk.of_nil rfl) (bo _) (by rw[<-hn];exact hin) q3 henv ?_ ?_ (λk F' t' H' ms' L' r h1 h2 h3 h4=>by cases h4) a w hs)
            all_goals
              intro F' t' H' ms' L' r h1 h2 h3 h4 hr a w hs;subst hr
              cases ms' with
              |cons i ms=>cases h4
              |nil=>
                have hds:=w0u h2;obtain⟨r,e1,e2⟩:=K0u (F:=F) h3 hn q7 hdom (by rw[hH];exact h4) h1 hs;exact⟨by first|exact .inl rfl|exact .inr rfl,by rw[hs.1];exact hds,r,e1,e2⟩
          cases h
      cases h
    cases h
  cases h
def K0I{p:Nat}{L:LE}{r:FuncId×List SV}(ho:ops.toList[p]?=vA o)(h:P0g (a0p L) o=vA r):H0F ops p L=vA r:=by
  unfold H0F;rw[ho];exact h
theorem M0V(hcl:cl'.Ok P)(hyl:YOk P yl):(dfT P cl' yl B).Ok P:=by
  intro f args H v H' h;unfold dfT at h
  split at h
  · rename_i fn hf
    split at h
    · rename_i A id ops rest hb
      cases hq:b0o P f&&b0n fn.ntmps (.seq A<|.seq (.region id ops oA) rest)&&g0u A&&g0u rest&&j0R fn.ntmps fn.results.toList&&yC args.length fn.ntmps with
      |false=>rw[hq]at h;cases h
      |true=>
        rw[hq]at h;simp only[aa]at hq;obtain⟨⟨⟨⟨⟨q1,q2⟩,q3⟩,q4⟩,q5⟩,q6⟩:=hq;simp only[wC]at h;have hbc:e0y fn= .seq A (.seq (.region id ops oA) rest):=by unfold e0y;rw[hb];rfl
        refine K.fnD hf (by rw[hb];rfl) q1 (by rw[hbc];exact q2) q6 λF hn hH hdom hds=> ?_;rw[hbc];have q2':=q2;simp only[b0n,aa]at q2';obtain⟨qa,qo,qr⟩:=q2';refine J.seq λhin a w hs=> ?_;refine wpIn_wide.1 (u0O (b0:=(0,[])) (rd:=none) (Sb:=λx=>x=(v,H')) hcl hyl z0b A _ _ _ _ _ _ _ h rfl Fence.wide F _ (l0t F P (.seq (.region id ops oA) rest)<|B0r P fn F v H') rfl hn (MOk.of_nil hds) (bo _) qa q3 (TE.init_env args) ?_ (λF' t' H' ms' L' r h1 h2 h3 h4=>by cases h4) (λk F' t' H' ms' L' r h1 h2 h3 h4=>by cases h4) a w hs);intro F' t H1 ms L1 r h1 h2 h3 h4 hr;subst hr;simp only at h4
        split at h4
        · rename_i o1 o2 hops
          split at h4
          · rename_i ef hg hc he
            split at h4
            · rename_i g dargs hdf
              have hds':=w0u h2;refine PJ.nextF h1.n<|J.seq<|J.region ?_;have ho1:ops.toList[0]?=vA o1:=by rw[hops];rfl
              have ho2:ops.toList[1]?=vA o2:=by rw[hops];rfl
              refine RJ.step ho1 (by rw[h3];exact hg) hc (by rw[h3];exact he) rfl ?_;have hL2:=TE.put_env h3 o1.dst ef.v;refine RJ.defer (K0I ho2<|by rw[hL2];exact hdf) hds' λw1 K1 D1 d hd hgr hdm=> ?_;refine RJ.done (by have:=congrArg List.length hops;simp at this;omega)<|PJ.nextF rfl ?_;intro hin2 a2 w2 hs2;refine wpIn_wide.1 (u0O (b0:=(0,[d])) (rd:=none) (Sb:=λx=>x=(v,H')) hcl hyl z0b rest _ _ _ _ _ _ _ h4 rfl Fence.wide ⟨F'.n,w1,K1,D1,b0a H1 ef.wr,[d]⟩ _ (B0r P fn F v H') rfl (h1.n.trans hn) (MOk.of_nil rfl) (bo _) qr q4 hL2 (λF' t' H' ms' L' r h1 h2 h3 h4=>by cases h4) ?_ (λk F' t' H' ms' L' r h1 h2 h3 h4=>by cases h4) a2 w2 hs2);intro F3 t3 H3 ms3 L3 r g1 g2 g3 g4 hr3 a3 w3 hs3;subst hr3
              cases ms3 with
              |cons i ms=>cases g4
              |nil=>
                have g4:K0H P cl' yl B fn H g dargs t3 H3=vA (v,H'):=g4;unfold K0H at g4;generalize o0P H3 100000 (SV.rlL dargs) []=σ at g4;simp only at g4
                cases hc2:u0b σ H3&&(SV.rlL dargs).all (λk=>x0z k σ)&&(s0s σ H3).all h0e with
                |false=>rw[hc2]at g4;cases g4
                |true=>
                  rw[hc2]at g4;simp only[aa,wD]at hc2;obtain⟨⟨c1,c2⟩,c3⟩:=hc2;simp only[wC]at g4;split at g4;rename_i H0' hsd
                  cases hle:yC σ.length H0'.length with
                  |false=>rw[hle]at g4;cases g4
                  |true=>
                    rw[hle]at g4;simp only[wC]at g4;rw[s0z _ t3 g3]at g4;split at g4;rename_i v1 hret;rw[<-hH]at g4;obtain⟨ff,hback⟩:=v0X g4;have hm: ∀i∈SV.rlL dargs,i∈σ:=λi hi=>l0J.1 (c2 i hi)
                    have hfr:=SD.frame (L0B hcl hyl hsd) (j0J c1) c3 (by rw[g0z];exact i0t _ λk hk=>x0m<|hm k hk) (by rw[g0z];exact ag hle);rw[i0r _ λk hk=>p0Q<|hm k hk,g0z]at hfr;have hds3:F3.ds=[d]:=w0u g2;obtain⟨fv,caps,vals,ht,hinv,hvl,hvr⟩:=hd;obtain⟨hd3,K3,D3,hi3⟩:=hs3.keep (L2:=g0r (e0p fn.results.toList) L3)<|k0P _ _;have hgrow:Grow F.w0 F.K0 F.D0 F.H0 F3.w0 F3.K0 F3.D0 F3.H0:=(h1.grow.trans hgr).trans g1.grow;refine⟨.returning,rfl, ?_⟩;rw[hd3,hds3];refine⟨(by exact λe=>nomatch e),fv,caps,g,vals.toArray,ht,hinv hfr.1 w3, ?_⟩;refine(hfr.2 w3 K3 D3 vals .returning hvl (λj x y hx hy=>hi3.grow.rep<|g1.grow.rep<|hvr j x y hx hy) hi3.hinv hi3.slots.glob rfl).mono ?_;rintro e u' w' ⟨r,rfl,hst,K',D',gr,hi',_⟩;simp only;rw[hst]
                    have hi2:Inv F3 w' K' D' _ (a0p<|g0r (e0p fn.results.toList) L3) a3.tmps:=⟨hi3.slots.mono λ_ _=>gr.rep,hi',hi3.grow.trans gr⟩
                    obtain⟨r2,e1,e2⟩:=t0i (P:=P) (fn:=fn) hi2 (by rw[g1.n,h1.n,hn];exact q5) hret;exact⟨r2,e1,r2,rfl,j0k (hgrow.trans<|hi3.grow.trans gr) hi' e2 hback hdom⟩;cases g4
                  cases g4
            cases h4
          cases h4
        cases h4
    cases h
  cases h
end
noncomputable def knE(f0:Nat)(A:List SV)(H0:a0e)(v:SV)(H1:a0e)(k:CallT):CallT:=λf args H=>bif oB f f0 then(bif SV.eqbL args A&&h0z H H0 then vA (v,H1)else k f args H)else k f args H
theorem q0w{P:Program}{f0:Nat}{A:List SV}{k:CallT}(h:SC P f0 A H0 v H1)(hk:k.Ok P):(knE f0 A H0 v H1 k).Ok P:=by
  intro f args H v' H' hh;unfold knE at hh
  cases hf:oB f f0 with
  |false=>rw[hf]at hh;exact hk _ _ _ _ _ hh
  |true=>
    rw[hf]at hh;simp only[wC]at hh
    cases hq:SV.eqbL args A&&h0z H H0 with
    |false=>rw[hq]at hh;exact hk _ _ _ _ _ hh
    |true=>
      rw[hq]at hh;simp only[aa]at hq;obtain⟨rfl,rfl⟩:=Prod.mk.inj<|au hh;rw[ae hf,n0I _ _ hq.1,l0Q hq.2];exact h
def isR(x:Option<|SV×a0e)(v:SV)(H1:a0e):Bool:=match x with
  |some (a,H)=>SV.eqb a v&&h0z H H1
  |none=>oA
def M0v{x:Option (SV×a0e)}(h:isR x v H1=jB):x=vA (v,H1):=by
  unfold isR at h;split at h;rw[aa]at h;rw[y0e _ _ h.1,l0Q h.2];cases h
def M0L{P:Program}{kn:CallT}{fz:List Nat}{B f:Nat}{A:List SV}(hk:kn.Ok P)(h:isR ((evA P kn fz B n).1 f A H0) v H1=jB):SC P f A H0 v H1:=
  (E0W hk n).1 _ _ _ _ _ (M0v h)
noncomputable def knD(P:Program)(fz fs:List Nat)(B n:Nat)(k:CallT):CallT:=λf args H=>List.rec (motive:=λ_=>Option<|SV×a0e) (k f args H) (λg _ ih=>bif oB f g then dfT P (evA P k fz B n).1 (evA P k fz B n).2 B f args H else ih) fs
theorem M0r{P:Program}{fz fs:List Nat}{B:Nat}{k:CallT}(hk:k.Ok P):(knD P fz fs B n k).Ok P:=by
  intro f args H v H' h
  induction fs with
  |nil=>exact hk _ _ _ _ _ h
  |cons g r ih=>
    have h:(bif oB f g then dfT P (evA P k fz B n).1 (evA P k fz B n).2 B f args H else knD P fz r B n k f args H)=vA (v,H'):=h
    cases hf:oB f g with
    |true=>rw[hf]at h;exact M0V (E0W hk n).1 (E0W hk n).2 _ _ _ _ _ h
    |false=>rw[hf]at h;exact ih h
/-! Natives read from shadow values. -/
noncomputable def gN(cs:List SV):Nat->SV:=List.rec (motive:=λ_=>Nat->SV) (λ_=> .undef) (λa _ ih i=>Nat.rec (motive:=λ_=>SV) a (λj _=>ih j) i) cs
def gI:SV->Int
  | .int _ n=>n
  |_=>0
def gB:SV->Bool
  | .bool b=>b
  |_=>oA
def gS:SV->List UInt8
  | .str s=>s
  |_=> []
def gA(d:List SV->T):SV->T
  | .agg cs=>d cs
  |_=>d []
def gI1(cs:List SV):Int:=match cs with
  |a::_=>gI a
  | []=>0
noncomputable def gLn(d:List SV->T)(k:Nat)(n:Nat):List SV->List T:=Nat.rec (motive:=λ_=>List SV->List T) (λ_=> []) (λ_ ih cs=>d (cs.take k)::ih (cs.drop k)) n
noncomputable def gL(d:List SV->T)(k:Nat):SV->List T
  | .lst n _ cs=>gLn d k n cs
  |_=> []
/-! A shadow value that says less, told. -/
def N0w(a b:SV):Bool:=match a,b with
  | .nl, .lst 0 _ []=>jB
  |_, .undef=>jB
  |_,_=>SV.eqb a b
def N0v:List SV->List SV->Bool
  | [],[]=>jB
  |a::l,b::m=>N0w a b&&N0v l m
  |_,_=>oA
def N0X(a b:SV):Bool:=match a,b with
  | .agg l, .agg m=>N0v l m
  |_,_=>N0w a b
def y0x:List SV->List SV->Bool
  | [],[]=>jB
  |a::l,b::m=>N0X a b&&y0x l m
  |_,_=>oA
def E0y{a b:SV}(h:N0w a b=jB):Le a b:=by
  unfold N0w at h;split at h;exact Le.nl _;exact Le.undef _;rw[y0e _ _ h];exact Le.refl _
def E0x: ∀ {l m:List SV},N0v l m=jB->LeL l m
  | [],[],_=> .nil
  |a::l,b::m,h=>by simp only[N0v,aa]at h;exact .cons (E0y h.1) (E0x h.2)
  | [],_::_,h=>by cases h
  |_::_,[],h=>by cases h
def J0W{a b:SV}(h:N0X a b=jB):Le a b:=by
  unfold N0X at h;split at h;exact Le.agg<|E0x h;exact E0y h
def h0y: ∀ {l m:List SV},y0x l m=jB->LeL l m
  | [],[],_=> .nil
  |a::l,b::m,h=>by simp only[y0x,aa]at h;exact .cons (J0W h.1) (h0y h.2)
  | [],_::_,h=>by cases h
  |_::_,[],h=>by cases h
def C0p(P:Program)(f:FuncId)(k:List SV->Option SV):Prop:= ∀l v,k l=vA v->SC P f l [] v []
def C0f{x:Option α}{r:α}(h:(bif c then x else none)=vA r):c=jB/\x=vA r:=by
  cases c with
  |true=>exact⟨rfl,h⟩
  |false=>cases h
def C0g{x y:Option α}{r:α}(h:(bif c then x else y)=vA r):(c=jB/\x=vA r)\/y=vA r:=by
  cases c with
  |true=>exact .inl ⟨rfl,h⟩
  |false=>exact .inr h
theorem A0j{β:Type}{f:α->Option β}{x:Option α}{r:β}(h:(Option.rec (motive:=λ_=>Option β) none f x)=vA r): ∃a,x=vA a/\f a=vA r:=by
  cases x with
  |none=>cases h
  |some a=>exact⟨a,rfl,h⟩
section
variable {T S O : Type}{step : S -> Option (S ⊕ O)}
theorem H0g(xs:List T)(st:List T->S)(I:List T->Prop)(post:O->Prop){s0:S}(h0:s0=st [])(hI:I [])
    (hs: ∀pre x suf,xs=pre++x::suf->I pre->(step (st pre)=vA (.inl<|st<|pre++ [x])/\I (pre++ [x]))\/ ∃o,step (st pre)=vA (.inr o)/\post o)
    (he:I xs-> ∃o,step (st xs)=vA (.inr o)/\post o) (hl:xs.length<18446744073709551616):
    ∃o,a0m step big s0=vA o/\post o:=by
  have key: ∀(suf pre:List T) (n:Nat),xs=pre++suf->I pre->suf.length<n-> ∃o,a0m step n (st pre)=vA o/\post o:=by
    intro suf
    induction suf with
    |nil=>
      intro pre n hx hi hn
      obtain⟨m,rfl⟩: ∃m,n=m+1:=⟨n-1,by simp at hn;omega⟩
      rw[bO]at hx;subst hx;obtain⟨o,h1,h2⟩:=he hi;exact⟨o,j0Z h1,h2⟩
    |cons x suf ih=>
      intro pre n hx hi hn
      obtain⟨m,rfl⟩: ∃m,n=m+1:=⟨n-1,by simp at hn;omega⟩
      rcases hs pre x suf hx hi with⟨h1,h2⟩|⟨o,h1,h2⟩;rw[g0W h1];exact ih (pre++ [x]) m (by rw[hx];simp) h2 (by simp at hn;omega);exact⟨o,j0Z h1,h2⟩
  subst h0;exact key xs [] big rfl hI hl
theorem t0x(xs:List T)(st:List T->S)(fin:O){s0:S}(h0:s0=st [])
    (hs: ∀pre x suf,xs=pre++x::suf->step (st pre)=vA (.inl<|st<|pre++ [x])) (he:step (st xs)=vA (.inr fin)) (hl:xs.length<18446744073709551616):
    a0m step big s0=vA fin:=by
  obtain⟨o,h1,h2⟩:=H0g (step:=step) xs st (λ_=>True) (λo=>o=fin) h0 trivial (λpre x suf h _=> .inl ⟨hs pre x suf h,trivial⟩) (λ_=>⟨fin,he,rfl⟩) hl;rw[h1,h2]
theorem B0P(n:Nat)(st:Nat->S)(I:Nat->Prop)(post:O->Prop){s0:S}(h0:s0=st 0)(hI:I 0)
    (hs: ∀i,i<n->I i->(step (st i)=vA (.inl<|st<|i+1)/\I (i+1))\/ ∃o,step (st i)=vA (.inr o)/\post o)
    (he:I n-> ∃o,step (st n)=vA (.inr o)/\post o) (hl:n<18446744073709551616):
    ∃o,a0m step big s0=vA o/\post o:=by
  have key: ∀(k i m:Nat),i+k=n->I i->k<m-> ∃o,a0m step m (st i)=vA o/\post o:=by
    intro k
    induction k with
    |zero=>
      intro i m hx hi hn
      obtain⟨m,rfl⟩: ∃q,m=q+1:=⟨m-1,dA⟩
      obtain rfl:i=n:=by omega
      obtain⟨o,h1,h2⟩:=he hi;exact⟨o,j0Z h1,h2⟩
    |succ k ih=>
      intro i m hx hi hn
      obtain⟨m,rfl⟩: ∃q,m=q+1:=⟨m-1,dA⟩
      rcases hs i dA hi with⟨h1,h2⟩|⟨o,h1,h2⟩;rw[g0W h1];exact ih (i+1) m dA h2 dA;exact⟨o,j0Z h1,h2⟩
  subst h0;exact key n 0 big dA hI hl
end
section
variable {T : Type}[Inhabited T]
def z0a{pre suf:List T}{x:T}:nth (pre++x::suf) (pre.length:Int)=x:=by
  rw[p0q dE];simp
def z0l{T:Type}{pre suf:List T}{x:T}:inR (pre.length:Int) (pre++x::suf).length=true:=k0c dE
def E0g{T:Type}{pre suf:List T}{x:T}:yA ((pre.length:Int)<((pre++x::suf).length:Int))=true:=dT dD
def A0y{T:Type}{xs:List T}:yA ((xs.length:Int)<(xs.length:Int))=false:=dF dA
def I0V{T:Type}{pre suf:List T}{x:T}(h:(pre++x::suf).length<=4611686018427387904):wA .i64 ((pre.length:Int)+1)=((pre++ [x]).length:Int):=by
  simp at h⊢;exact w64 dA dA
end
def L0h{n:Int}(h1:0<=n)(h2:n<=18446744073709551615):IntKind.u64.wrap n=n:=by
  unfold wA;simp only[oG,yH,cw,cG,aF,if_false,decide_eq_true_eq]
  first|omega|(split<;>rename_i hc<;>simp at hc<;>omega)
def P0k{n:Int}(h1:0<=n)(h2:n<=4294967295):IntKind.u32.wrap n=n:=by
  unfold wA;simp only[oG,yH,cw,cG,aF,if_false,decide_eq_true_eq]
  first|omega|(split<;>rename_i hc<;>simp at hc<;>omega)
def A0d[Inhabited T][DecidableEq T]{xs ys:List T}(hb:xs.length<=4611686018427387904):
    (bif(yA<|¬(xs.length:Int)=(ys.length:Int))then(vA oA)else jA (a0m (λs:Int=>bif(yA<|s<(xs.length:Int))then(bif inR s xs.length then(bif inR s ys.length then(bif(yA<|¬(nth xs s)=(nth ys s))then(vA<|.inr<|.inr oA)else vA<|.inl<|wA .i64<|s+1)else none)else none)else vA<|.inr<|.inl ()) big 0)<|a0j λ(_:Unit)=>vA jB)=vA (yA<|xs=ys):=by
  by_cases h:xs.length=ys.length
  · rw[dF dA,D0m h hb]
    by_cases he:xs=ys<;>simp[he,a0j]
  rw[dT dA,dF<|by rintro rfl;exact h rfl];rfl
def r0D{β:Type}{x:Option α}{k:α->Option β}{r:Option β}(post:α->Prop)(h: ∃o,x=vA o/\post o)(hk: ∀o,post o->k o=r):jA x k=r:=by
  obtain⟨o,rfl,h2⟩:=h;exact hk o h2
/-! Bytes as numbers. -/
end
end Go.Sy
