import Derived.Still
import Derived.KernelRfl
import Derived.ProofKit
import Derived.SizedLaws
import Derived.OpenShut
import Derived.Laws.Cover3
import Derived.Laws.IdiomRangeMap
import Derived.MakeChecks
import Derived.ChangeArms
import Derived.FnData
import Derived.Scope
import Derived.Lib.Bytealg
import Derived.Laws.Externs
import Derived.Test.YtafbfodcilkgmaaGreatDoorSa
set_option linter.all false
namespace Go.Sy
open Go Go.RowKit
open _root_.Array renaming replicate->vD
open Go.Code renaming wp_mono->jJ
open Go.Exit renaming inBlock->vF
open Go.IntKind renaming bits->zH,signed->oF,wrap->zA
open _root_.List renaming all_eq_true->jD,range->oB,range'->jH,replicate->yC
open _root_.Nat renaming beq->yB,ble->vC,blt->yD
open Go.Op renaming operands->jB
open _root_.Prod renaming fst->yE,snd->wK
open Go.Region renaming binds->zF,lexB->vG,lexFrom->jK,ready->oG
open Go.Result renaming andThen->jF,andThen_ok->wC
open Go.Sem renaming run_bind->zD,run_pure->jE
open _root_.Sum renaming elim->zG
open _root_.UInt8 renaming ofNat->oI
open Go.Utf8 renaming encode->yI
open Go.Value renaming int->vJ
open _root_.Decidable renaming decide->vA
open _root_.Bool renaming false->yA,true->oA
open _root_.Option renaming some->wA
variable {o:Oper} {ops:Array Oper} {base i id n k:Nat} {ef ef':Eff} {x y:Operand} {P:Program} {ρ ρ':Env} {H' H0 H0' H2:a0f} {f:FuncId} {args args0 cs args':List SV} {v0 v s v1 s0:SV} {en0:Ent} {d:Option Nat} {t kt:TypeId} {r:Value} {e:Exit} {w w':World} {D:DM} {g:Nat->Nat} {tm:Array Value} {a:Act} {c c1 c2:Code} {b:Bool} {tr2:List (List Nat×List Nat)} {S O X α β T A R:Type} {j l h:Int} {rd:List Nat} {F:Fr} {fs:Array Field} {es:List (SV×SV)} {listed:Array Bool}
section
variable [Inhabited GT]
def d0l(o:Oper):Bool:=
  match o.op with
  | .box _ _=>oA
  | .alloc _=>oA
  | .buildSlice _ _ _=>oA
  | .makeSlice _ _ _=>oA
  | .makeMap _ _=>oA
  | .call c=>match c.callee with
    | .builtin .append=>oA
    | .value _=>oA
    |_=>yA
  |_=>yA
theorem k0z (h:b0S o=oA):d0l o=true:=by
  unfold b0S at h;unfold d0l;split at h;rename_i c ho;split at h;rename_i f hf;simp[ho,hf];cases h;cases h
def f0E(ops:Array Oper)(base i:Nat):Nat:=base+((ops.toList.take i).filter d0l).length
def a0H(H:a0f):List (Nat×Ent)->a0f
  | []=>H
  |(i,en)::r=>a0H (H.set i en) r
def h0b(o:Oper):Bool:=
  match o.op with
  | .indexAddr _ _ _=>oA
  | .call c=>match c.callee with
    | .builtin .len=>oA
    |_=>yA
  |_=>yA
def h0H(o:Oper):Bool:=
  match o.op with
  | .store _ _ _=>oA
  |_=>yA
def G0a(x:Nat):List Nat:=[2*x,2*x+1]
def h0x(o:Oper)(ef:Eff):List Nat:=bif h0b o then ef.rd.map (λx=>2*x+1)else ef.rd.flatMap G0a
def g0A(ops:Array Oper)(base i:Nat)(o:Oper)(ef:Eff):List Nat:=(bif h0H o then ef.wr.map (λx=>2*x.1)else ef.wr.flatMap λx=>G0a x.1)++(if d0l o then G0a (f0E ops base i)else [])
def m0W(a b:Option Ent):Prop:=a=b\/(∃n k e cs cs',a=wA (.vec n k e cs)/\b=wA (.vec n k e cs'))\/ ∃cs cs',a=wA (.box cs)/\b=wA (.box cs')
theorem y0f {x:Nat} (h:x∈ef.wr.map yE):2*x∈g0A ops base i o ef:=by
  obtain⟨y,hy,rfl⟩:=aW.1 h;unfold g0A;refine al.2 (.inl ?_)
  cases h0H o with
  |true=>exact aW.2 ⟨y,hy,rfl⟩
  |false=>exact cw.2 ⟨y,hy,by simp[G0a]⟩
theorem N0b {x:Nat} (hs:h0H o=yA)(h:x∈ef.wr.map yE):2*x+1∈g0A ops base i o ef:=by
  obtain⟨y,hy,rfl⟩:=aW.1 h;unfold g0A;refine al.2<|.inl ?_;rw[hs];exact cw.2 ⟨y,hy,by simp[G0a]⟩
def A0T (h:d0l o=oA):2*f0E ops base i∈g0A ops base i o ef:=by
  unfold g0A;rw[wB h];exact al.2 (.inr<|by simp[G0a])
def p0x {x:Nat} (hs:h0b o=yA)(h:x∈ef.rd):2*x∈h0x o ef:=by
  unfold h0x;rw[hs];exact cw.2 ⟨x,h,by simp[G0a]⟩
def M0g {x:Nat} (h:x∈ef.rd):2*x+1∈h0x o ef:=by
  unfold h0x
  cases h0b o with
  |true=>exact aW.2 ⟨x,h,rfl⟩
  |false=>exact cw.2 ⟨x,h,by simp[G0a]⟩
theorem x0H {H:a0f} {idx:Nat} (hs:h0b o=oA)(h: ∀x∈o.op.operands,a0C ρ x=a0C ρ' x)(he:a0E P o ρ H idx=wA ef)(hr: ∀i∈ef.rd,m0W (H'[i]?)<|H[i]?):a0E P o ρ' H' idx=wA ef:=by
  have hloc:a0E P o ρ' H idx=wA ef:=n0p h he λ_ _=>rfl;clear he h;unfold a0E at hloc⊢;split;rename_i v hv;rw[hv]at hloc;exact hloc;rename_i hv;rw[hv]at hloc;simp only at hloc;unfold h0b at hs;split at hs;rename_i t x y ho;simp only[a0o,ho]at hloc⊢;split at hloc;rename_i e i kk j h1 h2 h3;split at hloc;rename_i n k e' cs hH;split at hloc;rename_i hc;cases hloc;rcases hr i dE with hq|⟨n',k',e2,cs1,cs2,q1,q2⟩|⟨cs1,cs2,q1,q2⟩;rw[hq,hH];simp only;rw[wB hc];rw[hH]at q2;cases q2;rw[q1];simp only;rw[wB hc];rw[hH]at q2;cases q2;cases hloc;cases hloc;cases hloc;rename_i c ho;split at hs;rename_i hc;simp only[a0o,ho,hc]at hloc⊢;split at hloc;rename_i x t h1 h2;split at hloc;rename_i e i h3 h4;split at hloc;rename_i n k e' cs hH;cases hloc;rcases hr i dE with hq|⟨n',k',e2,cs1,cs2,q1,q2⟩|⟨cs1,cs2,q1,q2⟩;rw[hq,hH];rw[hH]at q2;cases q2;rw[q1];rw[hH]at q2;cases q2;cases hloc;cases hloc;cases hloc;cases hs;cases hs
def s0n(r1 w1 r2 w2:List Nat):Bool:=w1.all (λx=> !r2.contains x&& !w2.contains x)&&w2.all λx=> !r1.contains x
def P0n(P:Program)(ρ:Env)(o:Oper)(H:a0f)(ef:Eff):Prop:=
  ∃f args g args0 H0 v0,g0v ρ o=wA (f,args)/\args=SV.rnL g args0/\Sel H g H0/\(∀en∈H0,g0Z en=oA)/\SV.refsL H0.length args0=oA/\SV.refs H0.length v0=oA/\SC P f args0 H0 v0 H0/\
    ef=⟨SV.rn g v0,(oB H0.length).map g,[]⟩
def P0o(P:Program)(ρ:Env)(o:Oper)(H:a0f)(idx:Nat)(ef:Eff):Prop:=
  ∃f args v0 en0,g0v ρ o=wA (f,args)/\SV.refsL 0 args=oA/\SC P f args [] v0 [en0]/\(H[idx]?=wA .res/\ ∀g,Ent.rn g en0=en0)/\ef=⟨SV.rn (λ_=>idx) v0,[],[(idx,en0)]⟩
def p0i(g:Nat->Nat)(n:Nat)(H0':a0f):List (Nat×Ent):=(oB n).map λj=>(g j,Ent.rn g<|H0'.getD j .gone)
def P0m(P:Program)(ρ:Env)(o:Oper)(H:a0f)(ef:Eff):Prop:=
  ∃f args g args0 H0 v0 H0',g0v ρ o=wA (f,args)/\args=SV.rnL g args0/\Sel H g H0/\(∀en∈H0,g0Z en=oA)/\SV.refsL H0.length args0=oA/\SV.refs H0.length v0=oA/\SC P f args0 H0 v0 H0'/\
    H0'.length=H0.length/\(∀(j:Nat) (en:Ent),H0'[j]?=wA en->Ent.refs H0.length en=oA)/\ef=⟨SV.rn g v0,(oB H0.length).map g,p0i g H0.length H0'⟩
def pOf(f:Nat->Nat)(m idx:Nat):Nat->Nat:=λj=>if j<m then f j else idx
def P0l(P:Program)(ρ:Env)(o:Oper)(H:a0f)(idx:Nat)(ef:Eff):Prop:=
  ∃f args g args0 H0 v0 H0',g0v ρ o=wA (f,args)/\args=SV.rnL g args0/\Sel H g H0/\(∀en∈H0,g0Z en=oA)/\SV.refsL H0.length args0=oA/\SC P f args0 H0 v0 H0'/\
    H0'.length=H0.length+1/\H[idx]?=wA .res/\ef=⟨SV.rn (pOf g H0.length idx) v0,(oB H0.length).map g,p0i (pOf g H0.length idx) (H0.length+1) H0'⟩
def P0k(P:Program)(ρ:Env)(o:Oper)(H:a0f)(idx:Nat)(ef:Eff):Prop:=
  ∃f args g args0 H0 v0 en0,g0v ρ o=wA (f,args)/\args=SV.rnL g args0/\Sel H g H0/\(∀en∈H0,g0Z en=oA)/\SV.refsL H0.length args0=oA/\SC P f args0 H0 v0 (H0++ [en0])/\
    H[idx]?=wA .res/\ef=⟨SV.rn (pOf g H0.length idx) v0,(oB H0.length).map g,[(idx,Ent.rn (pOf g H0.length idx) en0)]⟩
def N0I(P:Program)(ρ:Env)(o:Oper)(H:a0f)(idx:Nat)(ef:Eff):Prop:=P0n P ρ o H ef\/P0o P ρ o H idx ef\/P0m P ρ o H ef\/P0l P ρ o H idx ef\/P0k P ρ o H idx ef
def opD(P:Program)(ops:Array Oper)(base i:Nat)(o:Oper)(ρ:Env)(H:a0f)(ef:Eff):Prop:=
  match a0Y ops ρ o with
  |some oA=>if b0S o then N0I P ρ o H (f0E ops base i) ef else
      (a0E P o ρ H (f0E ops base i)=wA ef\/(n0q P o ρ H (f0E ops base i)=wA ef/\d0l o=oA)\/j0T P o ρ H=wA (ef,oA))/\(d0l o=oA->H[f0E ops base i]?=wA .res)/\ ∀x∈ef.wr,x.1<H.length
  |some yA=>ef=⟨.tup [],[],[]⟩
  |none=>False
def m0s(o:Oper)(rd fw:List Nat):List (List Nat×List Nat)->Nat->Bool
  | [],_=>oA
  |(r',w')::r,j=>(o.after.any (λe=>zF .any e&&e.on==j)||s0n r' w' rd fw)&&m0s o rd fw r (j+1)
def C0W(P:Program)(ops:Array Oper)(base:Nat):List (List Nat×List Nat)->List Oper->(Env->a0f->Prop)->Env->a0f->Prop
  |_,[],K,ρ,H=>K ρ H
  |tr,o::rest,K,ρ,H=> ∃ef,opD P ops base tr.length o ρ H ef/\m0s o (h0x o ef) (g0A ops base tr.length o ef) tr 0=oA/\C0W P ops base (tr++ [(h0x o ef,g0A ops base tr.length o ef)]) rest K (m0M ρ o.dst ef.v) (a0H H ef.wr)
theorem SC.place {H:a0f} {idx:Nat} (h:SC P f args [] v0 [en0])(hr:SV.refsL 0 args=oA)(hres:H[idx]?=wA .res)(hE: ∀g,Ent.rn g en0=en0):
    SC P f args H (SV.rn (λ_=>idx) v0) (H.set idx en0):=by
  refine⟨h.1,λw K D vals hlen hrep hi hG=> ?_⟩;have hil:idx<H.length:=(ab.1 hres).1;have hDi:D idx=none:=hi.ent idx _ hres
  have hsel:Sel H (λj=>j) []:=⟨λj en hj=>by simp at hj,λi j hi=>by simp at hi,λj en hj=>by simp at hj⟩
  have hrn: ∀(s:SV),SV.refs 0 s=oA->SV.rn (λj=>j) s=SV.rn (λj=>j) s:=λ_ _=>rfl
  refine(h.2 w K (m0u D (λj=>j) 0) vals hlen (λj x c hx hc=> ?_) (hsel.hinv hi)<|j0f hG).mono ?_;have hc0:=e0V hr j c hc
  have hid: ∀s,SV.refs 0 s=oA->Rep w K D x s->Rep w K (m0u D (λj=>j) 0) x s:=by
    intro s hs hx;have hu:=n0e (D':=D) (g:=λj=>j) hx λ_ _ e=>e;exact h0e hu s rfl hs
  exact hid c hc0<|hrep j x c hx hc;rintro ex w' ⟨r,he,K',Ds,g,hi',hrr⟩;have nomem: ∀b,¬Mem (m0u D (λj=>j) 0) [] b:=by rintro b ⟨i,en,c,n,h1,_⟩;simp at h1
  have hDs: ∀j x,Ds j=wA x->(λi=>if i=idx then Ds 0 else D i) idx=wA x:=by
    intro j x hx
    cases j with
    |zero=>simpa using hx
    |succ j=>rw[hi'.dom (j+1) dE]at hx;cases hx
  have hnewb: ∀b c m,g0Z en0=oA->Ds 0=wA (.at b c m)->w.heap.size<=b:=λb c m hlv hd=>by
    rcases g.new b ⟨0,_,c,m,rfl,hlv,hd⟩with h1|h1;exact absurd h1<|nomem b;exact h1
  have hget: ∀i en,(H.set idx en0)[i]?=wA en->(i=idx/\en=en0)\/(i≠idx/\H[i]?=wA en):=by
    intro i en hie;rw[aO]at hie;by_cases hii:idx=i;subst hii;rw[wB rfl,wB hil]at hie;cases hie;exact .inl ⟨rfl,rfl⟩;rw[vB hii]at hie;exact .inr ⟨Ne.symm hii,hie⟩
  refine⟨r,he,K',λi=>if i=idx then Ds 0 else D i,⟨g.os,g.tape,g.output,g.size,λb hb _=>g.block b hb<|nomem b,g.cells,g.le,λb hb _=>g.kk b hb<|nomem b,λi x hx=> ?_,λb hm=> ?_⟩,
    ⟨λi hle=> ?_,λi en hie=> ?_,λi j en en' b c m c' m' hie hje hl hl' hd hd'=> ?_,hi'.kw⟩,n0e hrr hDs⟩
  by_cases hii:i=idx;subst hii;rw[hDi]at hx;cases hx;simp only[vB hii];exact hx;obtain⟨i,en,c,m,h1,h2,h3⟩:=hm;rcases hget i en h1 with⟨rfl,rfl⟩|⟨hne,h4⟩;simp only[wB rfl]at h3;exact .inr<|hnewb b c m h2 h3;simp only[vB hne]at h3;exact .inl ⟨i,en,c,m,h4,h2,h3⟩;simp only[cN]at hle;simp only[vB (show i≠idx by omega)];exact hi.dom i hle;rcases hget i en hie with⟨rfl,rfl⟩|⟨hne,h4⟩;have h9:=F0i (D':=λq=>if q=i then Ds 0 else D q) (g:=λ_=>i) (hi'.ent 0 _ rfl) hDs (λhn=>by simpa using hn);rw[hE]at h9;exact h9
  refine(hi.ent i en h4).keep (λv s hr0=>hr0.mono g.cells g.le (λq x hx=>by
      by_cases hqi:q=idx;subst hqi;rw[hDi]at hx;cases hx
      simp only[vB hqi];exact hx)) (by simp only[vB hne]) (λb c m hl hd=> ?_)
  have hb:=(k0v hi ⟨i,en,c,m,h4,hl,hd⟩).1;exact⟨g.block b hb<|nomem b,g.kk b hb<|nomem b⟩
  · rcases hget i en hie with⟨rfl,rfl⟩|⟨hne,h4⟩<;>rcases hget j en' hje with⟨rfl,rfl⟩|⟨hne',h4'⟩
    rfl;exfalso;simp only[wB rfl]at hd;simp only[vB hne']at hd';have h1:=hnewb b c m hl hd;have h2:=(k0v hi ⟨j,en',c',m',h4',hl',hd'⟩).1;omega;exfalso;simp only[vB hne]at hd;simp only[wB rfl]at hd';have h1:=hnewb b c' m' hl' hd';have h2:=(k0v hi ⟨i,en,c,m,h4,hl,hd⟩).1;omega;simp only[vB hne]at hd;simp only[vB hne']at hd';exact hi.inj i j en en' b c m c' m' h4 h4' hl hl' hd hd'
section
variable {P : Program} {ops : Array Oper} {base : Nat} {md : Region.Mode}
def e0b: ∀(wr:List<|Nat×Ent) (H:a0f),(a0H H wr).length=H.length
  | [],H=>rfl
  |(i,en)::r,H=>by simp[a0H,e0b r]
def n0X: ∀(wr:List<|Nat×Ent) (H:a0f),(∀x∈wr,x.1<H.length)->b0a H wr=a0H H wr
  | [],H,_=>rfl
  |(i,en)::r,H,h=>by
    simp only[b0a,a0H];have hi:=h (i,en)<|az ..;have:h0L H i en=H.set i en:=by unfold h0L;rw[wB hi]
    rw[this];exact n0X r _ (λx hx=>by rw[cN];exact h x<|aq _ hx)
def n0W: ∀(wr:List<|Nat×Ent) (H:a0f) (i:Nat),i∉wr.map yE->(a0H H wr)[i]?=H[i]?
  | [],H,i,_=>rfl
  |(j,en)::r,H,i,h=>by
    simp only[ao,aT,not_or]at h;simp only[a0H];rw[n0W r _ i h.2,aO,vB<|Ne.symm h.1]
def u0G: ∀(wr:List<|Nat×Ent) (H:a0f) (i:Nat) (en:Ent),i∉wr.map yE->a0H (H.set i en) wr=(a0H H wr).set i en
  | [],H,i,en,_=>rfl
  |(j,en')::r,H,i,en,h=>by
    simp only[ao,aT,not_or]at h;simp only[a0H];rw[List.set_comm _ _ h.1,u0G r _ i en h.2]
def p0Q: ∀(w1 w2:List<|Nat×Ent) (H:a0f),(∀x∈w1.map yE,x∉w2.map yE)->a0H (a0H H w1) w2=a0H (a0H H w2) w1
  | [],w2,H,_=>rfl
  |(i,en)::r,w2,H,h=>by
    simp only[a0H];have h1:=h i dE;rw[p0Q r w2 _ λx hx=>h x<|by simp[hx],u0G w2 H i en h1]
def v0c {r1 w1 r2 w2:List Nat} (h:s0n r1 w1 r2 w2=oA):(∀x∈w1,x∉r2/\x∉w2)/\ ∀x∈w2,x∉r1/\x∉w1:=by
  simp only[s0n,aa,jD,cQ,List.contains_eq_mem,decide_eq_false_iff_not]at h;exact⟨λx hx=>h.1 x hx,λx hx=>⟨h.2 x hx,λh1=>(h.1 x h1).2 hx⟩⟩
theorem l0t {d:Option Tmp} (h: ∀t,d=wA t->x≠ .tmp t):a0C (m0M ρ d v) x=a0C ρ x:=by
  cases d with
  |none=>rfl
  |some t=>
    cases x with
    |tmp u=>
      have hne:u≠t:=λe=>h t rfl (by rw[e])
      simp[a0C,m0M,upd,hne]
    |_=>rfl
theorem j0p {d:Option Tmp} (h: ∀t,d=wA t->t∉o.looksAt ops):a0Y ops (m0M ρ d v) o=a0Y ops ρ o:=by
  unfold a0Y
  cases hg:o.guard with
  |none=>rfl
  |some p=>
    obtain⟨j,want⟩:=p;simp only
    cases hd:(ops[j]?).bind (·.dst)with
    |none=>rfl
    |some e=>
      simp only
      cases d with
      |none=>rfl
      |some t=>
        have hne:e≠t:=λhe=>h t rfl (by
          unfold Oper.looksAt;rw[hg];simp only[hd]
          exact al.2<|.inr<|by simp[he])
        simp[m0M,upd,hne]
theorem y0O {H:a0f} {idx:Nat} (hs:h0H o=oA)(he:a0E P o ρ H idx=wA ef)(x:Nat):m0W ((a0H H ef.wr)[x]?) (H[x]?):=by
  unfold h0H at hs;split at hs;rename_i t a b ho;unfold a0E at he;split at he;cases he;exact .inl rfl;simp only[a0o,ho]at he;split at he;rename_i i off ps h1 h2;split at he;rename_i en hH;split at he;rename_i cs hcs;split at he;cases he;simp only[a0H];rw[aO];by_cases hxi:i=x;subst hxi;have hil:=(ab.1 hH).1;rw[wB rfl,wB hil,hH]
  cases en with
  |vec n k e cs0=>exact .inr (.inl ⟨n,k,e,_,cs0,rfl,rfl⟩)
  |box cs0=>exact .inr (.inr ⟨_,cs0,rfl,rfl⟩)
  |res=>simp[b0L]at hcs
  |gone=>simp[b0L]at hcs
  |map es=>simp[b0L]at hcs
  |itr m n s=>simp[b0L]at hcs
  |lop tm ps as bd st pd=>simp[b0L]at hcs
  |dfr=>simp[b0L]at hcs
  |pmap es=>simp[b0L]at hcs
  rw[vB hxi];exact .inl rfl;cases he;cases he;cases he;cases he;cases hs
theorem e0J {t:Tmp} (h:t∉o.looksAt ops) (hx:x∈o.op.operands):x≠ .tmp t:=by
  intro e;subst e;refine h<|al.2<|.inl<|List.mem_filterMap.2 ⟨.tmp t,aL.2 hx,rfl⟩
theorem i0C (h: ∀x∈o.op.operands,a0C ρ x=a0C ρ' x):g0v ρ o=g0v ρ' o:=by
  unfold g0v;split;rename_i c ho;unfold s0E;split;rename_i f hf;rw[h f<|by simp[ho,jB,Call.operands,hf]];rw[r0q c.args.toList λx hx=>h x<|by simp only[ho,jB,Call.operands];exact br.2<|.inr<|aL.1 hx];rfl;rfl
theorem i0g (h:b0S o=oA):h0b o=false:=by
  unfold b0S at h;unfold h0b;split at h;rename_i c ho;split at h;rename_i f hf;simp[ho,hf];cases h;cases h
theorem r0D (h:d0l o=oA):h0b o=false:=by
  unfold d0l at h;unfold h0b;cases ho:o.op<;>rw[ho]at h<;>simp only at h⊢ <;>first|rfl|(cases h;done)|skip
  rename_i c;split at h<;>rename_i hc<;>first|(cases h;done)|simp[hc]
def l0m (h:d0l o=oA):h0H o=false:=by
  unfold d0l at h;unfold h0H;cases ho:o.op<;>rw[ho]at h<;>simp only at h⊢ <;>first|rfl|(cases h;done)
theorem N0F {P:Program} {H:a0f} {r:Eff×Bool} (h:j0T P o ρ H=wA r):h0b o=yA/\h0H o=false:=by
  unfold j0T at h;split at h;rename_i ho;exact⟨by unfold h0b;rw[ho],by unfold h0H;rw[ho]⟩;rename_i ho;exact⟨by unfold h0b;rw[ho],by unfold h0H;rw[ho]⟩;rename_i c ho;split at h;rename_i hc _ _;exact⟨by unfold h0b;simp[ho,hc],by unfold h0H;rw[ho]⟩;cases h;cases h
def u0C (h:b0S o=oA):h0H o=false:=l0m<|k0z h
def q0B {H:a0f} (h:opD P ops base i o ρ H ef):
    (∀x,2*x∉g0A ops base i o ef->(a0H H ef.wr)[x]?=H[x]?)/\ ∀x,2*x+1∉g0A ops base i o ef->m0W ((a0H H ef.wr)[x]?) (H[x]?):=by
  refine⟨λx hx=>n0W _ _ _ λhm=>hx<|y0f hm,λx hx=> ?_⟩
  cases hst:h0H o with
  |false=>exact .inl (n0W _ _ _ λhm=>hx<|N0b hst hm)
  |true=>
    unfold opD at h;split at h;split at h;rename_i hc;rw[u0C hc]at hst;cases hst;rcases h.1 with h1|h1|h1;exact y0O hst h1 x;rw[l0m h1.2]at hst;cases hst;rw[(N0F h1).2]at hst;cases hst;subst h;exact .inl rfl;exact h.elim
theorem n0r {H:a0f} (hv: ∀x∈o.op.operands,a0C ρ x=a0C ρ' x)(hg:a0Y ops ρ o=a0Y ops ρ' o)(hl:H'.length=H.length)
    (hA: ∀x,2*x∈h0x o ef\/2*x∈g0A ops base i o ef->H'[x]?=H[x]?) (hB: ∀x,2*x+1∈h0x o ef->m0W (H'[x]?) (H[x]?)) (h:opD P ops base i o ρ H ef):opD P ops base i o ρ' H' ef:=by
  unfold opD at h⊢;rw[<-hg];split;rename_i hgt;rw[hgt]at h;simp only at h;split;rename_i hc;rw[wB hc]at h;rcases h with h|h|h|h|h;obtain⟨f,args,g,args0,H0,v0,h1,h2,h3,h4,h5,h6,h7,h8⟩:=h;refine .inl ⟨f,args,g,args0,H0,v0,by rw[<-i0C hv];exact h1,h2,⟨λj en hj=> ?_,h3.inj,h3.refs⟩,h4,h5,h6,h7,h8⟩;rw[hA (g j)<|.inl<|p0x (i0g hc)<|by rw[h8];exact aW.2 ⟨j,bo.2 (ab.1 hj).1,rfl⟩];exact h3.get j en hj;obtain⟨f,args,v0,en0,h1,h2,h3,⟨h4,hE⟩,h5⟩:=h;refine .inr (.inl ⟨f,args,v0,en0,by rw[<-i0C hv];exact h1,h2,h3,⟨?_,hE⟩,h5⟩);rw[hA _<|.inr<|A0T<|k0z hc];exact h4;obtain⟨f,args,g,args0,H0,v0,H0',h1,h2,h3,h4,h5,h6,h7,hl2,hr2,h8⟩:=h;refine .inr (.inr<|.inl ⟨f,args,g,args0,H0,v0,H0',by rw[<-i0C hv];exact h1,h2,⟨λj en hj=> ?_,h3.inj,h3.refs⟩,h4,h5,h6,h7,hl2,hr2,h8⟩);rw[hA (g j)<|.inl<|p0x (i0g hc)<|by rw[h8];exact aW.2 ⟨j,bo.2 (ab.1 hj).1,rfl⟩];exact h3.get j en hj;obtain⟨f,args,g,args0,H0,v0,H0',h1,h2,h3,h4,h5,h7,hl2,hres,h8⟩:=h;refine .inr (.inr<|.inr<|.inl ⟨f,args,g,args0,H0,v0,H0',by rw[<-i0C hv];exact h1,h2,⟨λj en hj=> ?_,h3.inj,h3.refs⟩,h4,h5,h7,hl2, ?_,h8⟩);rw[hA (g j)<|.inl<|p0x (i0g hc)<|by rw[h8];exact aW.2 ⟨j,bo.2 (ab.1 hj).1,rfl⟩];exact h3.get j en hj;rw[hA _<|.inr<|A0T<|k0z hc];exact hres;obtain⟨f,args,g,args0,H0,v0,en0,h1,h2,h3,h4,h5,h7,hres,h8⟩:=h;refine .inr (.inr<|.inr<|.inr ⟨f,args,g,args0,H0,v0,en0,by rw[<-i0C hv];exact h1,h2,⟨λj en hj=> ?_,h3.inj,h3.refs⟩,h4,h5,h7, ?_,h8⟩);rw[hA (g j)<|.inl<|p0x (i0g hc)<|by rw[h8];exact aW.2 ⟨j,bo.2 (ab.1 hj).1,rfl⟩];exact h3.get j en hj;rw[hA _<|.inr<|A0T<|k0z hc];exact hres;rename_i hc;rw[vB hc]at h;obtain⟨h1,h2,h3⟩:=h;refine⟨h1.imp (λh1=> ?_) λh1=>h1.imp (λh1=>⟨D0Z hv h1.1 hl λx hx=>hA x<|.inl<|p0x (r0D h1.2) hx,h1.2⟩) λh1=>E0b hv h1 λx hx=>hA x<|.inl<|p0x (N0F h1).1 hx,λhcr=> ?_,λx hx=>by rw[hl];exact h3 x hx⟩
  cases hso:h0b o with
  |true=>exact x0H hso hv h1 (λx hx=>hB x<|M0g hx)
  |false=>exact n0p hv h1 (λx hx=>hA x<|.inl<|p0x hso hx)
  rw[hA _<|.inr<|A0T hcr];exact h2 hcr;rename_i hgf;rw[hgf]at h;exact h;rename_i hgn;rw[hgn]at h;exact h
theorem A0A {d e:Option Tmp} {u:SV} (h: ∀t,d=wA t->e≠wA t):m0M (m0M ρ d u) e v=m0M (m0M ρ e v) d u:=by
  cases d with
  |none=>rfl
  |some t=>
    cases e with
    |none=>rfl
    |some s=>
      have hne:t≠s:=λhe=>h t rfl (by rw[he])
      funext i;simp only[m0M,upd];split;rename_i h1;subst h1;rw[vB<|Ne.symm hne];rfl
def I0W(P:Program)(md:Region.Mode)(ops:Array Oper)(base:Nat)(effs:List Eff)(K:Env->a0f->Prop):Nat->Array Bool->Env->a0f->Prop
  |0,listed,ρ,H=>oG md ops listed=[]/\K ρ H
  |fuel+1,listed,ρ,H=>(oG md ops listed=[]->K ρ H)/\
    ∀i∈oG md ops listed,∃o ef,ops[i]?=wA o/\effs[i]?=wA ef/\opD P ops base i o ρ H ef/\I0W P md ops base effs K fuel (listed.setIfInBounds i oA) (m0M ρ o.dst ef.v) (a0H H ef.wr)
theorem C0w {effs:List Eff} {K:Env->a0f->Prop} {oi:Oper} {ei:Eff} (hi:ops[i]?=wA oi)(hei:effs[i]?=wA ei): ∀(fuel:Nat) (listed:Array Bool) (ρ:Env) (H:a0f),
    (∀j oj ej,ops[j]?=wA oj->effs[j]?=wA ej->j≠i->listed.getD j oA=yA->(∀e∈oj.after,zF md e=oA->e.on≠i)->oi.apart ops oj=oA/\s0n (h0x oi ei) (g0A ops base i oi ei) (h0x oj ej) (g0A ops base j oj ej)=oA)->
    i∈oG md ops listed->opD P ops base i oi ρ H ei->I0W P md ops base effs K fuel (listed.setIfInBounds i oA) (m0M ρ oi.dst ei.v) (a0H H ei.wr)->I0W P md ops base effs K (fuel+1) listed ρ H:=by
  intro fuel
  induction fuel with
  |zero=>
    intro listed ρ H _ hr hy h;refine⟨λh0=>(by rw[h0]at hr;cases hr),λj hj=> ?_⟩;by_cases hji:j=i;subst hji;exact⟨oi,ei,hi,hei,hy,h⟩;have:=ready_mono hj hji;rw[h.1]at this;cases this
  |succ fuel ih=>
    intro listed ρ H hfree hr hy h;refine⟨λh0=>(by rw[h0]at hr;cases hr),λj hj=> ?_⟩;by_cases hji:j=i;subst hji;exact⟨oi,ei,hi,hei,hy,h⟩;obtain⟨oj,ej,hoj,hej,hdj,hrest⟩:=h.2 j<|ready_mono hj hji;obtain⟨hjun,oj',hoj',hall⟩:=mem_ready.1 hj;rw[hoj]at hoj';cases hoj'
    have hnot: ∀e∈oj.after,zF md e=oA->e.on≠i:=λe he hb heq=>by
      have h1:=hall e he hb;have h0:=(mem_ready.1 hr).1;rw[heq]at h1;rcases bL i listed.size with h'|h';simp[h']at h0 h1;rw[h0]at h1;cases h1;simp[cD h']at h1
    obtain⟨hap,hdis⟩:=hfree j oj ej hoj hej hji hjun hnot;obtain⟨a1,a2,a3⟩:=Oper.apart_spec hap;obtain⟨d1,d2⟩:=v0c hdis;have hwi: ∀x,x∈ei.wr.map yE->2*x∈g0A ops base i oi ei:=λx hx=>y0f hx
    have hwj: ∀x,x∈ej.wr.map yE->2*x∈g0A ops base j oj ej:=λx hx=>y0f hx
    have shc: ∀ {a b:Option Ent},m0W a b->m0W b a:=λh=>by
      rcases h with h|⟨n,k,e,c1,c2,q1,q2⟩|⟨c1,c2,q1,q2⟩;exact .inl h.symm;exact .inr<|.inl ⟨n,k,e,c2,c1,q2,q1⟩;exact .inr (.inr ⟨c2,c1,q2,q1⟩)
    obtain⟨ki1,ki2⟩:=q0B hy
    -- j before i
    have hdj':opD P ops base j oj ρ H ej:=n0r (ρ:=m0M ρ oi.dst ei.v) (H:=a0H H ei.wr)
      (λx hx=>l0t λt ht=>e0J (a1 t ht) hx) (j0p a1) (by rw[e0b])
      (λx hx=>(ki1 x (λhm=>by
        have:=d1 _ hm;rcases hx with hx|hx;exact this.1 hx
        exact this.2 hx)).symm) (λx hx=>shc<|ki2 x λhm=>(d1 _ hm).1 hx) hdj
    obtain⟨kj1,kj2⟩:=q0B hdj'
    have hyi':opD P ops base i oi (m0M ρ oj.dst ej.v) (a0H H ej.wr) ei:=n0r (ρ:=ρ) (H:=H)
      (λx hx=>(l0t λt ht=>e0J (a3 t ht) hx).symm) (j0p a3).symm (by rw[e0b])
      (λx hx=>kj1 x (λhm=>by
        have:=d2 _ hm;rcases hx with hx|hx;exact this.1 hx
        exact this.2 hx)) (λx hx=>kj2 x λhm=>(d2 _ hm).1 hx) hy
    refine⟨oj,ej,hoj,hej,hdj', ?_⟩;refine ih (listed.setIfInBounds j oA) _ _ (λk ok ek hk hek hki hun hno=> ?_) (ready_mono hr<|Ne.symm hji) hyi' ?_;refine hfree k ok ek hk hek hki ?_ hno;by_cases hjk:j=k;subst hjk;exact hjun;rw[getD_set_ne oA hjk]at hun;exact hun;rw[Array.setIfInBounds_comm _ _ hji,<-A0A (ρ:=ρ) (u:=ei.v) (v:=ej.v) a2,<-p0Q ei.wr ej.wr H λx hx hx2=>(d1 _<|hwi x hx).2<|hwj x hx2];exact hrest
def t0Y {o:Oper} {rd fw:List Nat} : ∀(tr:List<|List Nat×List Nat) (j:Nat),m0s o rd fw tr j=oA-> ∀(k:Nat) (r' w':List Nat),tr[k]?=wA (r',w')->
    (∃e∈o.after,zF .any e=oA/\e.on=j+k)\/s0n r' w' rd fw=oA
  | [],j,_,k,r',w',hk=>by simp at hk
  |(r1,w1)::r,j,h,k,r',w',hk=>by
    simp only[m0s,aa,bJ]at h
    cases k with
    |zero=>
      simp at hk;obtain⟨rfl,rfl⟩:=hk;rcases h.1 with h1|h1;obtain⟨e,he,hb⟩:=Array.any_eq_true'.1 h1;simp only[aa,beq_iff_eq]at hb;exact .inl ⟨e,he,hb.1,hb.2⟩;exact .inr h1
    |succ k=>
      have:=t0Y r (j+1) h.2 k r' w' (by simpa using hk);rw[show j+1+k=j+(k+1)from by omega]at this;exact this
def A0X(ops:Array Oper)(base:Nat)(ds:List<|Oper×Eff)(j:Nat):List (List Nat×List Nat):=
  match ds with
  | []=> []
  |(o,e)::r=>(h0x o e,g0A ops base j o e)::A0X ops base r (j+1)
def t0P: ∀(ds:List<|Oper×Eff) (j:Nat),(A0X ops base ds j).length=ds.length
  | [],_=>rfl
  |(o,e)::r,j=>by simp[A0X,t0P r]
def A0W: ∀(ds:List<|Oper×Eff) (j k:Nat) (o:Oper) (e:Eff),ds[k]?=wA (o,e)->(A0X ops base ds j)[k]?=wA (h0x o e,g0A ops base (j+k) o e)
  | [],j,k,o,e,h=>by simp at h
  |(o1,e1)::r,j,k,o,e,h=>by
    cases k with
    |zero=>simp at h;obtain⟨rfl,rfl⟩:=h;simp[A0X]
    |succ k=>
      have:=A0W r (j+1) k o e (by simpa using h);rw[show j+1+k=j+(k+1)from by omega]at this;simpa [A0X]using this
def t0Q: ∀(ds:List<|Oper×Eff) (j:Nat) (o:Oper) (e:Eff),A0X ops base (ds++ [(o,e)]) j=A0X ops base ds j++ [(h0x o e,g0A ops base (j+ds.length) o e)]
  | [],j,o,e=>by simp[A0X]
  |(o1,e1)::r,j,o,e=>by
    simp only[bh,A0X,aR];rw[t0Q r (j+1) o e,show j+1+r.length=j+(r.length+1)from by omega]
theorem s0O {K:Env->a0f->Prop} : ∀(l:List Oper) (tr:List<|Oper×Eff) (listed:Array Bool) (ρ:Env) (H:a0f),(∀j,l[j]?=ops[tr.length+j]?)->(∀(j:Nat) (o:Oper) (e:Eff),tr[j]?=wA (o,e)->ops[j]?=wA o)->
    (∀k,k<tr.length->listed.getD k oA=oA)->jK .any ops l.length tr.length listed=oA->C0W P ops base (A0X ops base tr 0) l K ρ H->
    ∃es:List Eff,es.length=l.length/\I0W P .any ops base (tr.map wK++es) K l.length listed ρ H/\
      ∀(i j:Nat) (oi oj:Oper) (ei ej:Eff),i<j->tr.length<=j->ops[i]?=wA oi->ops[j]?=wA oj->(tr.map wK++es)[i]?=wA ei->(tr.map wK++es)[j]?=wA ej->
        (∀e∈oj.after,zF .any e=oA->e.on≠i)->s0n (h0x oi ei) (g0A ops base i oi ei) (h0x oj ej) (g0A ops base j oj ej)=oA
  | [],tr,listed,ρ,H,hl,htr,hli,hB,h=>by
    refine⟨[],rfl,⟨by simpa [jK]using hB,h⟩,λi j oi oj ei ej hij hj hoi hoj hei hej=> ?_⟩;rw[bH,ar,aA hj]at hej;cases hej
  |o::l,tr,listed,ρ,H,hl,htr,hli,hB,h=>by
    have h0:ops[tr.length]?=wA o:=by simpa using (hl 0).symm
    simp only[aR,jK,aa]at hB;obtain⟨⟨hr,hf⟩,hB'⟩:=hB;simp only[C0W,t0P]at h;obtain⟨ef,hy,hcomp,hK⟩:=h;have hrd:tr.length∈oG .any ops listed:=by simpa using hr
    have hlt:tr.length<listed.size:=by
      have:=(mem_ready.1 hrd).1;rcases bL tr.length listed.size with h'|h';exact h';simp[cD h']at this
    have hfa:A0X ops base (tr++ [(o,ef)]) 0=A0X ops base tr 0++ [(h0x o ef,g0A ops base tr.length o ef)]:=by rw[t0Q];simp
    rw[<-hfa]at hK
    obtain⟨es,hes,hany,hpairs⟩:=s0O l (tr++ [(o,ef)]) (listed.setIfInBounds tr.length oA) _ _ (λj=>by
        have:=hl<|j+1;simpa [Nat.add_assoc,Nat.add_comm 1 j]using this) (λj o' e' hj=>by
        rw[aM]at hj;split at hj;exact htr j o' e' hj;rename_i hjl
        have hz:j-tr.length=0:=by
          have:=(ab.1 hj).1;simp at this;omega
        rw[hz]at hj;simp at hj;obtain⟨rfl,rfl⟩:=hj;have:j=tr.length:=by omega
        rw[this];exact h0) (λk hk=>by
        simp only[ay,aR,bX]at hk;by_cases hkt:k=tr.length;subst hkt;simp[Array.getD,hlt]
        rw[getD_set_ne oA<|Ne.symm hkt];exact hli k dA) (by simpa using hB') hK
    have hfull:(tr++ [(o,ef)]).map wK++es=tr.map wK++(ef::es):=by simp
    rw[hfull]at hany hpairs
    have heft:(tr.map wK++ef::es)[tr.length]?=wA ef:=by
      rw[bU dE];simp
    have hall: ∀(i j:Nat) (oi oj:Oper) (ei ej:Eff),i<j->tr.length<=j->ops[i]?=wA oi->ops[j]?=wA oj->(tr.map wK++ef::es)[i]?=wA ei->(tr.map wK++ef::es)[j]?=wA ej->
        (∀e∈oj.after,zF .any e=oA->e.on≠i)->s0n (h0x oi ei) (g0A ops base i oi ei) (h0x oj ej) (g0A ops base j oj ej)=true:=by
      intro i j oi oj ei ej hij hj hoi hoj hei hej hno;by_cases hjt:j=tr.length;subst hjt;rw[h0]at hoj;cases hoj;rw[heft]at hej;cases hej
      have hti: ∃p,tr[i]?=wA p:=⟨tr[i],af hij⟩
      obtain⟨⟨o',e'⟩,hp⟩:=hti;have h1:=htr i o' e' hp;rw[hoi]at h1;cases h1;rw[bI<|by simpa using hij,ar,hp]at hei;cases hei;have hft:=A0W (ops:=ops) (base:=base) tr 0 i oi _ hp;rcases t0Y _ 0 hcomp i _ _ hft with⟨e,he,hb,hon⟩|hd;exact absurd (dA:e.on=i) (hno e he hb)
      rwa [aZ]at hd
      exact hpairs i j oi oj ei ej hij dD hoi hoj hei hej hno
    refine⟨ef::es,by simp[hes], ?_,hall⟩;rw[aR];refine C0w h0 heft l.length listed ρ H (λj oj ej hoj hej hji hun hno=>⟨Region.free_spec h0 hf j oj hoj hji hun hno, ?_⟩) hrd hy hany
    have hjgt:tr.length<j:=by
      rcases bL tr.length j with h'|h';exact h';have:j<tr.length:=by omega
      rw[hli j this]at hun;cases hun
    exact hall tr.length j o oj ef ej hjgt dA h0 hoj heft hej hno
section
variable {F : Fr} {Q : Exit -> Act -> World -> Prop}
theorem B0Y {H:a0f} (h:d0l o=yA)(i j:Nat):a0E P o ρ H i=a0E P o ρ H j:=by
  unfold a0E;split;rfl
  · unfold d0l at h
    cases ho:o.op<;>rw[ho]at h<;>simp only[a0o,ho]<;>first|rfl|(cases h;done)|skip
    rename_i c;split<;>first|rfl|(rename_i hc;simp only[hc]at h;cases h)
def m0k: ∀(a b:List<|Nat×Ent) (H:a0f),a0H H (a++b)=a0H (a0H H a) b
  | [],b,H=>rfl
  |(i,en)::a,b,H=>by simp only[bh,a0H];exact m0k a b _
theorem G0g {f:Nat->Nat} {H:a0f} (hs:Sel H f H0)(hl:H0'.length=H0.length)(hr: ∀(j:Nat) (en:Ent),H0'[j]?=wA en->Ent.refs H0.length en=oA):d0z f H0.length H H0'=a0H H (p0i f H0.length H0'):=by
  have key: ∀q,q<=H0.length->y0Z (gOf f H0.length H.length) H0' H q=a0H H ((oB q).map λj=>(f j,Ent.rn f<|H0'.getD j .gone)):=by
    intro q
    induction q with
    |zero=>intro _;rfl
    |succ q ih=>
      intro hq;have hen:H0'[q]?=wA (H0'[q]' dA):=af dA;have hg:gOf f H0.length H.length q=f q:=by simp[gOf,show q<H0.length by omega]
      simp only[y0Z,hen];rw[da,cA,m0k,<-ih dA,hg]
      have hlt:f q<(y0Z (gOf f H0.length H.length) H0' H q).length:=by
        rw[ih dA,e0b];exact hs.lt dA
      simp only[ao,aI,a0H,h0L,wB hlt];rw[am,hen,bp,t0S (f:=gOf f H0.length H.length) (g:=f) (m:=H0.length) (λi hi=>by simp[gOf,hi]) _<|hr q _ hen]
  unfold d0z p0i;rw[hl];exact key _<|aj _
theorem Good.put {H:a0f} {f:Nat->Nat} {K:Nat->Nat} {idx:Nat} (hg0:Good w K (m0u D f H0.length) H0 r w' v0 H0')(hs:Sel H f H0)(hi:HInv w K D H)
    (hlive: ∀en∈H0,g0Z en=oA) (hl:H0'.length=H0.length+1) (hres:H[idx]?=wA .res):Good w K D H r w' (SV.rn (pOf f H0.length idx) v0) (a0H H<|p0i (pOf f H0.length idx) (H0.length+1) H0'):=by
  obtain⟨K',Ds',g,hi',hrep⟩:=hg0;have hil:idx<H.length:=(ab.1 hres).1;have hDi:D idx=none:=hi.ent idx _ hres
  have hfi: ∀j,j<H0.length->f j≠idx:=by
    intro j hj e;have h1:=hs.get j _<|af hj;rw[e,hres]at h1;have h2:=hlive _<|ca hj;have h3:=au h1;rw[<-h0l (f:=f),<-h3]at h2;cases h2
  generalize hg:pOf f H0.length idx=gg;have hgl: ∀j,j<H0.length->gg j=f j:=λj hj=>by rw[<-hg];simp[pOf,hj]
  have hgm:gg H0.length=idx:=by rw[<-hg];simp[pOf]
  have hglt: ∀j,j<H0.length+1->gg j<H.length:=λj hj=>by
    by_cases h:j<H0.length;rw[hgl j h];exact hs.lt h;rw[show j=H0.length by omega,hgm];exact hil
  have hginj: ∀i j,i<H0.length+1->j<H0.length+1->gg i=gg j->i=j:=by
    intro i j hi1 hj1 e;by_cases h1:i<H0.length<;>by_cases h2:j<H0.length
    rw[hgl i h1,hgl j h2]at e;exact hs.inj i j h1 h2 e;rw[hgl i h1,show j=H0.length by omega,hgm]at e;exact absurd e<|hfi i h1;rw[hgl j h2,show i=H0.length by omega,hgm]at e;exact absurd e.symm<|hfi j h2;omega
  have hput: ∀q,q<=H0.length+1->(∀j en,j<q->H0'[j]?=wA en->(a0H H<|p0i gg q H0')[gg j]?=wA (Ent.rn gg en))/\ ∀i,(∀j,j<q->gg j≠i)->(a0H H<|p0i gg q H0')[i]?=H[i]?:=by
    intro q
    induction q with
    |zero=>intro _;exact⟨λj en h=>absurd h<|cM _,λi _=>rfl⟩
    |succ q ih=>
      intro hq;obtain⟨h2,h3⟩:=ih dA;have hen:H0'[q]?=wA (H0'[q]' dA):=af dA
      have hw:a0H H (p0i gg (q+1) H0')=(a0H H<|p0i gg q H0').set (gg q) (Ent.rn gg<|H0'[q]' dA):=by
        unfold p0i;rw[da,cA,m0k];simp only[ao,aI,a0H];rw[am,hen,bp]
      have hlt:gg q<(a0H H<|p0i gg q H0').length:=by rw[e0b];exact hglt q dA
      rw[hw];refine⟨λj en hj hej=> ?_,λi hi3=> ?_⟩;by_cases hjq:j=q;subst hjq;rw[cE hlt];rw[hen]at hej;cases hej;rfl;rw[cu λe=>hjq (hginj q j dA dA e).symm];exact h2 j en dA hej;rw[cu<|hi3 q dA];exact h3 i λj hj=>hi3 j dA
  obtain⟨p2,p3⟩:=hput (H0.length+1) (aj _)
  -- entries that were handed u0O are somewhere
  have hsome: ∀j,j<H0.length-> ∃x,D (f j)=wA x:=by
    intro j hj;have hen:=af hj;have hlv:=hlive _<|ca hj;have he:=hi.ent _ _<|hs.get j _ hen;generalize H0[j]=en at hlv he
    cases en with
    |res=>cases hlv
    |gone=>cases hlv
    |box cs=>obtain⟨b,vs,e,h1,_⟩:=he;exact⟨_,h1⟩
    |vec n k e cs=>rcases he.2 with⟨h1,_⟩|⟨b,c,vs,rest,h1,_⟩<;>exact⟨_,h1⟩
    |map es=>obtain⟨r,mes,clock,h1,_⟩:=he;exact⟨_,h1⟩
    |itr i n' s=>obtain⟨r,bm,c0,h1,_⟩:=he;exact⟨_,h1⟩
    |lop tm ps as bd st pd=>obtain⟨l,r,h1,_⟩:=he;exact⟨_,h1⟩
    |dfr=>obtain⟨b,h1,_⟩:=he;exact⟨_,h1⟩
    |pmap es=>obtain⟨es',r,mes,clock,_,h1,_⟩:=he;exact⟨_,h1⟩
  let D':DM:=λi=>if i=idx then Ds' H0.length else D i
  have hDold: ∀i,i≠idx->D' i=D i:=λi hi=>by simp[D',hi]
  have hDs: ∀j,j<H0.length->Ds' j=D (f j):=by
    intro j hj;obtain⟨x,hx⟩:=hsome j hj;have:m0u D f H0.length j=wA x:=by simp[m0u,hj,hx]
    rw[g.dd j x this,hx]
  have hup: ∀j,j<H0.length+1->D' (gg j)=Ds' j:=by
    intro j hj1;by_cases hj:j<H0.length;rw[hgl j hj,hDold _<|hfi j hj,hDs j hj];rw[show j=H0.length by omega,hgm];simp[D']
  have hup2: ∀j x,Ds' j=wA x->D' (gg j)=wA x:=by
    intro j x hx;by_cases hj:j<H0.length+1;rw[hup j hj];exact hx;rw[hi'.dom j dA]at hx;cases hx
  have hdd: ∀i x,D i=wA x->D' i=wA x:=by
    intro i x hx;have:i≠idx:=λe=>by rw[e,hDi]at hx;cases hx
    rw[hDold i this];exact hx
  have hrep': ∀v s,Rep w K D v s->Rep w' K' D' v s:=λv s h1=>h1.mono g.cells g.le hdd
  -- an entry: an old one that was not handed u0O, or one of the call's
  have hcase: ∀i en,(a0H H<|p0i gg (H0.length+1) H0')[i]?=wA en->(∃j en0,H0'[j]?=wA en0/\i=gg j/\en=Ent.rn gg en0)\/((∀j,j<H0'.length->gg j≠i)/\H[i]?=wA en/\i≠idx):=by
    intro i en hi2;by_cases hex: ∃j,j<H0'.length/\gg j=i;obtain⟨j,hj,rfl⟩:=hex;have hen:=af hj;rw[p2 j _ dA hen]at hi2;cases hi2;exact .inl ⟨j,_,hen,rfl,rfl⟩;have hno: ∀j,j<H0'.length->gg j≠i:=λj hj e=>hex ⟨j,hj,e⟩
    rw[p3 i λj hj=>hno j dA]at hi2;exact .inr ⟨hno,hi2,λe=>hno H0.length dA<|by rw[hgm];exact e.symm⟩
  -- a block of the call's is old and handed u0O, or new
  have hblk: ∀j en0 b c n,H0'[j]?=wA en0->g0Z en0=oA->Ds' j=wA (.at b c n)->Mem (m0u D f H0.length) H0 b\/w.heap.size<=b:=λj en0 b c n h1 h2 h3=>g.new b ⟨j,en0,c,n,h1,h2,h3⟩
  have hapart: ∀i en b c n,(∀j,j<H0'.length->gg j≠i)->H[i]?=wA en->g0Z en=oA->D i=wA (.at b c n)-> ¬Mem (m0u D f H0.length) H0 b/\b<w.heap.size:=by
    intro i en b c n hno hie hli hdi;refine⟨fun⟨j,en0,c0,n0,h1,h2,h3⟩=> ?_,(k0v hi ⟨i,en,c,n,hie,hli,hdi⟩).1⟩;have hjl:=(ab.1 h1).1;simp only[m0u,hjl,if_true]at h3;have:=hi.inj i (f j) en _ b c n c0 n0 hie (hs.get j en0 h1) hli (by rw[h0l];exact h2) hdi h3;exact hno j dA (by rw[hgl j hjl];exact this.symm)
  refine⟨K',D',⟨g.os,g.tape,g.output,g.size,λb hb hm=>g.block b hb λh1=>hm<|hs.mem h1,g.cells,g.le,λb hb hm=>g.kk b hb λh1=>hm<|hs.mem h1,hdd,λb hm=> ?_⟩,
    ⟨λi hil2=> ?_,λi en hie=> ?_,λi j en en' b c n c' n' hie hje hli hlj hdi hdj=> ?_,hi'.kw⟩, ?_⟩
  obtain⟨i,en,c,n,h1,h2,h3⟩:=hm;rcases hcase i en h1 with⟨j,en0,q1,q2,q3⟩|⟨_,q2,q3⟩;subst q2;subst q3;rw[hup j<|by have:=(ab.1 q1).1;omega]at h3;rw[h0l]at h2;rcases hblk j en0 b c n q1 h2 h3 with h4|h4;exact .inl<|hs.mem h4;exact .inr h4;rw[hDold i q3]at h3;exact .inl ⟨i,en,c,n,q2,h2,h3⟩;rw[e0b]at hil2;rw[hDold i dA];exact hi.dom i hil2;rcases hcase i en hie with⟨j,en0,q1,q2,q3⟩|⟨q1,q2,q3⟩;subst q2;subst q3;exact F0i (hi'.ent j en0 q1) hup2 (λhn=>by rw[hup j<|by have:=(ab.1 q1).1;omega];exact hn);refine(hi.ent i en q2).keep hrep' (hDold i q3) λb c n hlv hd=> ?_;obtain⟨a1,a2⟩:=hapart i en b c n q1 q2 hlv hd;exact⟨g.block b a2 a1,g.kk b a2 a1⟩
  · rcases hcase i en hie with⟨ji,e1,q1,q2,q3⟩|⟨q1,q2,q3⟩<;>rcases hcase j en' hje with⟨jj,e2,r1,r2,r3⟩|⟨r1,r2,r3⟩
    subst q2;subst q3;subst r2;subst r3;rw[hup ji<|by have:=(ab.1 q1).1;omega]at hdi;rw[hup jj<|by have:=(ab.1 r1).1;omega]at hdj;rw[h0l]at hli hlj;rw[hi'.inj ji jj e1 e2 b c n c' n' q1 r1 hli hlj hdi hdj];exfalso;subst q2;subst q3;rw[hup ji<|by have:=(ab.1 q1).1;omega]at hdi;rw[h0l]at hli;rw[hDold j r3]at hdj;obtain⟨a1,a2⟩:=hapart j en' b c' n' r1 r2 hlj hdj;rcases hblk ji e1 b c n q1 hli hdi with h4|h4;exact a1 h4;omega;exfalso;subst r2;subst r3;rw[hup jj<|by have:=(ab.1 r1).1;omega]at hdj;rw[h0l]at hlj;rw[hDold i q3]at hdi;obtain⟨a1,a2⟩:=hapart i en b c n q1 q2 hli hdi;rcases hblk jj e2 b c' n' r1 hlj hdj with h4|h4;exact a1 h4;omega;rw[hDold i q3]at hdi;rw[hDold j r3]at hdj;exact hi.inj i j en en' b c n c' n' q2 r2 hli hlj hdi hdj
  exact n0e hrep hup2
theorem SC.put {P:Program} {fid:FuncId} (h:SC P fid args0 H0 v0 H0') {H:a0f} {f:Nat->Nat} {idx:Nat} (hs:Sel H f H0)
    (hlive: ∀en∈H0,g0Z en=oA) (ha:SV.refsL H0.length args0=oA) (hl:H0'.length=H0.length+1) (hres:H[idx]?=wA .res):
    SC P fid (SV.rnL f args0) H (SV.rn (pOf f H0.length idx) v0) (a0H H<|p0i (pOf f H0.length idx) (H0.length+1) H0'):=by
  refine⟨h.1,λw K D vals hlen hr hi hG=> ?_⟩;refine(h.2 w K (m0u D f H0.length) vals (by rw[hlen,b0Q]) (λj x c hx hc=>h0e (hr j x (SV.rn f c) hx<|by rw[f0y,hc];rfl) c rfl<|e0V ha j c hc) (hs.hinv hi)<|j0f hG).mono ?_;rintro e w' ⟨r,he,hg⟩;exact⟨r,he,hg.put hs hi hlive hl hres⟩
theorem u0b: ∀(wr:List<|Nat×Ent) (H:a0f),(∀x∈wr,H[x.1]?=wA x.2)->a0H H wr=H
  | [],H,_=>rfl
  |(i,en)::r,H,h=>by
    have h1:=h (i,en) (az ..)
    have he:H.set i en=H:=by
      refine bD λj=> ?_
      rw[aO];by_cases hj:i=j;subst hj;rw[wB rfl,wB (ab.1 h1).1,h1];rw[vB hj]
    simp only[a0H];rw[he];exact u0b r H λx hx=>h x<|aq _ hx
theorem L0F {H:a0f} {idx:Nat} (hs:Sel H g H0):a0H H (p0i (pOf g H0.length idx) (H0.length+1)<|H0++ [en0])=a0H H [(idx,Ent.rn (pOf g H0.length idx) en0)]:=by
  have e:p0i (pOf g H0.length idx) (H0.length+1) (H0++ [en0])=(p0i (pOf g H0.length idx) H0.length H0)++ [(idx,Ent.rn (pOf g H0.length idx) en0)]:=by
    unfold p0i;rw[da,cA];congr 1;refine bG λj hj=> ?_
    have hj:=bo.1 hj;rw[am,am,bI hj];simp[pOf,am]
  rw[e]
  have app: ∀(a b:List<|Nat×Ent) (H:a0f),a0H H (a++b)=a0H (a0H H a) b:=by
    intro a
    induction a with
    |nil=>intro b H;rfl
    |cons x a ih=>intro b H;obtain⟨i,en⟩:=x;simp only[bh,a0H];exact ih b _
  rw[app,u0b _ H λx hx=> ?_];obtain⟨j,hj,rfl⟩:=aW.1 hx;have hj:=bo.1 hj;have hget:=hs.get j _<|af hj;simp only[pOf,wB hj];rw[am,af hj,bp,hget];exact congrArg wA<|t0S (m:=H0.length) (λi hi=>(wB hi).symm) _<|hs.refs j _<|af hj
theorem u0e {effs:List Eff} {KS:Env->a0f->Prop} (hQ: ∀ρ H a w,St F ρ H a w->KS ρ H->Q .normal a w)(hb: ∀o∈ops.toList,Oper.inB F.n ops o=oA): ∀(fuel:Nat) (listed:Array Bool) (ρ:Env) (H:a0f) (a:Act) (w:World),
    St F ρ H a w->I0W P md ops base effs KS fuel listed ρ H->wpAny P md ops Q fuel listed a w:=by
  intro fuel
  induction fuel with
  |zero=>intro listed ρ H a w hst h;exact⟨h.1,hQ _ _ _ _ hst h.2⟩
  |succ fuel ih=>
    intro listed ρ H a w hst h;refine⟨λh0=>hQ _ _ _ _ hst<|h.1 h0,λi hi=> ?_⟩;obtain⟨o,ef,ho,hef,hd,hrest⟩:=h.2 i hi;have hbo:Oper.inB F.n ops o=true:=hb o<|aL.2<|Array.mem_of_getElem? ho;obtain⟨hdef,K,D,hinv⟩:=hst;unfold wpOp;simp only[ho];unfold opD at hd
    split at hd
    · rename_i hg
      rw[b0C hinv.slots (Oper.inB_guard hbo) hg,wB rfl];refine .inl ?_
      split at hd
      · rename_i hc
        rcases hd with⟨f,args,g,args0,H0,v0,h1,h2,h3,h4,h5,h6,h7,h8⟩|⟨f,args,v0,en0,h1,h2,h3,⟨h4,hE⟩,h5⟩|⟨f,args,g,args0,H0,v0,H0',h1,h2,h3,h4,h5,h6,h7,hl2,hr2,h8⟩|⟨f,args,g,args0,H0,v0,H0',h1,h2,h3,h4,h5,h7,hl2,hres,h8⟩|⟨f,args,g,args0,H0,v0,en0,h1,h2,h3,h4,h5,h7,hres,h8⟩
        case inr.inr.inr.inr=>
          subst h8;have hfr:=SC.put h7 h3 h4 h5 dE hres;rw[<-h2,L0F h3]at hfr;exact p0P hinv hdef (Oper.inB_op hbo) h1 hfr (λa' w' hst'=>ih _ _ _ _ _ hst' hrest)
        case inr.inr.inr.inl=>
          subst h8;have hfr:=SC.put h7 h3 h4 h5 hl2 hres;rw[<-h2]at hfr;exact p0P hinv hdef (Oper.inB_op hbo) h1 hfr (λa' w' hst'=>ih _ _ _ _ _ hst' hrest)
        case inr.inr.inl=>
          subst h8;have hfr:=SC.frame h7 h3 h4 h5<|Nat.le_of_eq hl2.symm;rw[<-h2,G0g h3 hl2 hr2,<-i0Z (f:=g) (m:=H0.length) (λi hi=>by simp[gOf,hi]) v0 h6]at hfr;exact p0P hinv hdef (Oper.inB_op hbo) h1 hfr (λa' w' hst'=>ih _ _ _ _ _ hst' hrest)
        case inr.inl=>
          subst h5;exact p0P hinv hdef (Oper.inB_op hbo) h1 (SC.place h3 h2 h4 hE) (λa' w' hst'=>ih _ _ _ _ _ hst' hrest)
        subst h8;have hfr:=SC.frame h7 h3 h4 h5<|aj _;rw[<-h2]at hfr
        -- the frame leaves the entries and the value as they are
        rw[u0W h3,<-i0Z (f:=g) (m:=H0.length) (λi hi=>by simp[gOf,hi]) v0 h6]at hfr;exact p0P hinv hdef (Oper.inB_op hbo) h1 hfr (λa' w' hst'=>ih _ _ _ _ _ hst' hrest)
      · obtain⟨h1,h2,h3⟩:=hd
        rw[<-n0X _ _ h3]at hrest;rcases h1 with h1|h1|h1
        case inr.inl=>exact M0r hinv hdef (Oper.inB_op hbo) (.inr<|h2 h1.2) h1.1 λa' w' hst'=>ih _ _ _ _ _ hst' hrest
        case inr.inr=>exact M0s hinv hdef (Oper.inB_op hbo) h1 λa' w' hst'=>ih _ _ _ _ _ hst' hrest
        by_cases hcr:d0l o=oA;exact B0X hinv hdef (Oper.inB_op hbo) (.inr<|h2 hcr) h1 λa' w' hst'=>ih _ _ _ _ _ hst' hrest
        rw[B0Y (by simpa using hcr) _ H.length]at h1;exact B0X hinv hdef (Oper.inB_op hbo) (.inl rfl) h1 λa' w' hst'=>ih _ _ _ _ _ hst' hrest
    rename_i hg;rw[b0C hinv.slots (Oper.inB_guard hbo) hg,vB dE];subst hd;exact ih _ _ _ _ _ ⟨by rw[a0M];exact hdef,K,D,v0M hinv o.dst⟩ hrest;exact hd.elim
theorem Inv.reserve {K:Nat->Nat} {H:a0f} (h:Inv F w K D H ρ tm)(m:Nat):Inv F w K D (H++yC m .res) ρ tm:=by
  have hget: ∀i en,(H++yC m Ent.res)[i]?=wA en->H[i]?=wA en\/(en= .res/\H.length<=i):=by
    intro i en hi;rw[aM]at hi;split at hi;exact .inl hi
    · rw[List.getElem?_replicate]at hi
      split at hi<;>cases hi
      exact .inr ⟨rfl,dA⟩
  have hmem: ∀b,Mem D (H++yC m .res) b->Mem D H b:=by
    rintro b ⟨i,en,c,n,h1,h2,h3⟩;rcases hget i en h1 with h4|⟨h4,_⟩;exact⟨i,en,c,n,h4,h2,h3⟩;subst h4;cases h2
  refine⟨h.slots,⟨λi hi=>h.hinv.dom i<|by simp at hi;omega,λi en hi=> ?_,λi j en en' b c n c' n' hi hj hl hl' hd hd'=> ?_,h.hinv.kw⟩, ?_⟩;rcases hget i en hi with h4|⟨h4,h5⟩;exact h.hinv.ent i en h4;subst h4;exact h.hinv.dom i h5;rcases hget i en hi with h4|⟨h4,_⟩;rcases hget j en' hj with h5|⟨h5,_⟩;exact h.hinv.inj i j en en' b c n c' n' h4 h5 hl hl' hd hd';subst h5;cases hl';subst h4;cases hl;have g:=h.grow;exact⟨g.os,g.tape,g.output,g.size,g.block,g.cells,g.le,g.kk,g.dd,λb hm=>g.new b<|hmem b hm⟩
def e0l(ops:Array Oper):Nat:=(ops.toList.filter d0l).length
theorem z0J {KS:Env->a0f->Prop} (hm:P.follows .mixedOrders=oA)(hB:vG .any ops=oA)(hQ: ∀ρ H a w,St F ρ H a w->KS ρ H->Q .normal a w)(hb: ∀o∈ops.toList,Oper.inB F.n ops o=oA) {H:a0f}
    (hst:St F ρ H a w) (h:C0W P ops H.length [] ops.toList KS ρ<|H++yC (e0l ops) .res):(Code.region id ops oA).wp P Q a w:=by
  simp only[vG,aa]at hB;obtain⟨hd,K,D,hinv⟩:=hst;refine wp_region_any hm ?_;obtain⟨es,_,hany,_⟩:=s0O (base:=H.length) ops.toList [] (vD ops.size yA) ρ _ dE (λj o e hj=>by simp at hj) (λk hk=>absurd hk<|cM _) (by simpa using hB.2) h;have hinv':=hinv.reserve (e0l ops)
  have hdrew:Inv F w.drew K D (H++yC (e0l ops) .res) ρ a.tmps:=⟨hinv'.slots.mono λ_ _=>World.drew_rep,hinv'.hinv.drew,hinv'.grow.trans<|Grow.drew _ _ _ _⟩
  exact u0e hQ hb ops.size _ ρ _ a _ ⟨hd,K,D,hdrew⟩ (by simpa using hany)
end
end
abbrev LE:=List<|Nat×SV
def lk:LE->Nat->SV
  | [],_=> .undef
  |(i,v)::r,t=>bif yB t i then v else lk r t
def a0p(L:LE):Env:=λt=>lk L t
def g0e(L:LE)(d:Option Nat)(v:SV):LE:=match d with
  |some d=>(d,v)::L
  |none=>L
theorem b0b(L:LE)(d:Option Nat)(v:SV):m0M (a0p L) d v=a0p (g0e L d v):=by
  cases d with
  |none=>rfl
  |some d=>
    funext t;simp only[m0M,upd,g0e,a0p,lk];by_cases h:t=d;subst h;simp
    have:yB t d=false:=by cases hb:yB t d with
      |false=>rfl
      |true=>exact absurd (ae hb) h
    rw[vB h,this];rfl
def g0s(ts:List Nat)(L:LE):LE:=ts.map λt=>(t,lk L t)
def Sees(F:Fr)(L:LE)(H:a0f)(a:Act)(w:World):Prop:=St F (a0p L) H a w
abbrev f0Z:=Exit->Act->World->Prop
def b0p(n:Nat):Code->Bool
  | .region _ ops _=>ops.toList.all (Oper.inB n ops)
  | .seq a b=>b0p n a&&b0p n b
  | .cond c x y=>Operand.inB n c&&b0p n x&&b0p n y
  | .block _ c=>b0p n c
  | .loop c=>b0p n c
  | .scope c=>b0p n c
  |_=>oA
def J(F:Fr)(P:Program)(c:Code)(L:LE)(H:a0f)(Q:f0Z):Prop:=b0p F.n c=oA-> ∀a w,Sees F L H a w->c.wp P Q a w
def PJ(F:Fr)(Q:f0Z)(e:Exit)(L:LE)(H:a0f):Prop:= ∀a w,Sees F L H a w->Q e a w
def l0u(F:Fr)(P:Program)(c:Code)(Q:f0Z):f0Z:=Exit.then (λa w=>b0p F.n c=oA->c.wp P Q a w) Q
def RJ(F:Fr)(P:Program)(m:Option Nat)(ops:Array Oper)(p:Nat)(tr:List<|List Nat×List Nat)(L:LE)(H:a0f)(Q:f0Z):Prop:=
  match m with
  |none=>ops.toList.all (Oper.inB F.n ops)=oA-> ∀a w,Sees F L H a w->wpList P ops Q (ops.toList.drop p) a w
  |some base=>tr.length=p->C0W P ops base tr (ops.toList.drop p) (fun ρ H=> ∀a w,St F ρ H a w->Q .normal a w) (a0p L) H
def I0y(m:Option Nat)(ops:Array Oper)(p:Nat)(H:a0f):Nat:=match m with
  |none=>H.length
  |some base=>f0E ops base p
def trM(m:Option Nat)(ops:Array Oper)(p:Nat)(o:Oper)(ef:Eff)(tr:List<|List Nat×List Nat):List (List Nat×List Nat):=match m with
  |none=>tr
  |some base=>tr++ [(h0x o ef,g0A ops base p o ef)]
def q0G(en:Option Ent):Bool:=match en with
  |some .res=>oA
  |_=>yA
def okM(m:Option Nat)(ops:Array Oper)(p:Nat)(o:Oper)(ef:Eff)(tr:List<|List Nat×List Nat)(H:a0f):Bool:=match m with
  |none=>oA
  |some base=>m0s o (h0x o ef) (g0A ops base p o ef) tr 0&&(!d0l o||q0G (H[f0E ops base p]?))&&ef.wr.all λx=>yD x.1 H.length
section
variable {F : Fr} {P : Program} {L : LE} {H : a0f} {Q : f0Z} {m : Option Nat} {ops : Array Oper} {p : Nat} {tr : List (List Nat × List Nat)}
theorem Sees.keep {L2:LE} (h:Sees F L H a w)(hk: ∀t,lk L2 t=lk L t\/lk L2 t= .undef):Sees F L2 H a w:=by
  obtain⟨hd,K,D,hi⟩:=h;refine⟨hd,K,D,⟨⟨hi.slots.size,λi hin=> ?_,hi.slots.glob⟩,hi.hinv,hi.grow⟩⟩;have h1:=hi.slots.rep i hin;show Rep w K D _ (lk L2 i);rcases hk i with e|e;rw[e];exact h1;rw[e];exact .undef _
theorem k0L(ts:List Nat)(L:LE)(t:Nat):lk (g0s ts L) t=lk L t\/lk (g0s ts L) t= .undef:=by
  induction ts with
  |nil=>exact .inr rfl
  |cons s ts ih=>
    simp only[g0s,ao,lk]at ih⊢
    cases hb:yB t s with
    |true=>have:=ae hb;subst this;exact .inl rfl
    |false=>exact ih
theorem J.keep (ts:List Nat) {L2:LE} (h2:g0s ts L=L2)(h:J F P c L2 H Q):J F P c L H Q:=
  λhin a w hs=>h hin a w (hs.keep<|by rw[<-h2];exact k0L ts L)
theorem J.skip(h:PJ F Q .normal L H):J F P .skip L H Q:=λ_ a w hs=>wp_skip<|h a w hs
theorem J.ret(h:PJ F Q .ret L H):J F P .ret L H Q:=λ_ a w hs=>wp_ret<|h a w hs
theorem J.exit (h:PJ F Q (.exit id) L H):J F P (.exit id) L H Q:=λ_ a w hs=>wp_exit<|h a w hs
theorem J.seq (h:J F P c1 L H<|l0u F P c2 Q):J F P (.seq c1 c2) L H Q:=λhin a w hs=>by
  simp only[b0p,aa]at hin;refine wp_seq<|jJ (λe a' w' hq=> ?_)<|h hin.1 a w hs;cases e<;>first|exact hq hin.2|exact hq
theorem PJ.next (h:J F P c L H Q):PJ F (l0u F P c Q) .normal L H:=λa w hs hin=>h hin a w hs
def PJ.passRet (h:PJ F Q .ret L H):PJ F (l0u F P c Q) .ret L H:=h
def PJ.passExit (h:PJ F Q (.exit id) L H):PJ F (l0u F P c Q) (.exit id) L H:=h
theorem J.block (h:J F P c L H<|vF id Q):J F P (.block id c) L H Q:=λhin a w hs=>wp_block<|h hin a w hs
def PJ.blockNormal (h:PJ F Q .normal L H):PJ F (vF id Q) .normal L H:=h
def PJ.blockRet (h:PJ F Q .ret L H):PJ F (vF id Q) .ret L H:=h
theorem PJ.blockOut (h:PJ F Q .normal L H):PJ F (vF id Q) (.exit id) L H:=λa w hs=>by
  show(if id=id then _ else _);rw[wB rfl];exact h a w hs
theorem PJ.blockPass {id':Nat} (hne:yB id' id=yA)(h:PJ F Q (.exit id') L H):PJ F (vF id Q) (.exit id') L H:=λa w hs=>by
  show(if id'=id then _ else _);rw[vB λe=>by subst e;simp at hne];exact h a w hs
theorem J.cond {c:Operand} {x y:Code} (hv:a0C (a0p L) c=wA (.bool b))(h:J F P (bif b then x else y) L H Q):J F P (.cond c x y) L H Q:=λhin a w hs=>by
  simp only[b0p,aa]at hin;obtain⟨hd,K,D,hi⟩:=hs;have hr:=a0i hi.slots hin.1.1 hv;generalize hva:a.eval c=v at hr;cases hr;refine wp_cond hva ?_;cases b;exact h hin.2 a w ⟨hd,K,D,hi⟩;exact h hin.1.2 a w ⟨hd,K,D,hi⟩
theorem J.region (h:RJ F P none ops 0 [] L H Q):J F P (.region id ops yA) L H Q:=λhin a w hs=>by
  simp only[b0p]at hin;exact wp_region_list<|h hin a w hs
theorem J.draw (hm:P.follows .mixedOrders=oA)(hB:vG .any ops=oA)(h:RJ F P (wA H.length) ops 0 [] L (H++yC (e0l ops) .res) Q):J F P (.region id ops oA) L H Q:=λhin a w hs=>by
  simp only[b0p,jD]at hin;exact z0J (KS:=fun ρ H=> ∀a w,St F ρ H a w->Q .normal a w) hm hB (fun ρ H a w hst hq=>hq a w hst) hin hs (by simpa using h rfl)
theorem RJ.done(hp:ops.size<=p)(h:PJ F Q .normal L H):RJ F P m ops p tr L H Q:=by
  have hd:ops.toList.drop p=[]:=bl (by simpa using hp)
  cases m with
  |none=>intro _ a w hs;rw[hd];exact h a w hs
  |some base=>intro _;rw[hd];exact λa w hs=>h a w hs
def e0h (ho:ops.toList[p]?=wA o):ops.toList.drop p=o::ops.toList.drop (p+1):=by
  obtain⟨h1,h2⟩:=ab.1 ho;rw[bV h1,h2]
def p0c (ho:ops.toList[p]?=wA o):o∈ops.toList:=aH ho
theorem RJ.step (ho:ops.toList[p]?=wA o)(hg:a0Y ops (a0p L) o=wA oA)(hc:b0S o=yA)(he:a0E P o (a0p L) H (I0y m ops p H)=wA ef)(hok:okM m ops p o ef tr H=oA)
    (h:RJ F P m ops (p+1) (trM m ops p o ef tr) (g0e L o.dst ef.v) (b0a H ef.wr) Q):RJ F P m ops p tr L H Q:=by
  cases m with
  |none=>
    intro hin a w hs;have hbo:Oper.inB F.n ops o=true:=List.all_eq_true.1 hin o<|p0c ho;obtain⟨hd,K,D,hi⟩:=hs;rw[e0h ho];refine wpList_step λKK hKK=> ?_
    rw[b0C hi.slots (Oper.inB_guard hbo) hg,wB rfl];exact B0X hi hd (Oper.inB_op hbo) (.inl rfl) he λa' w' hst'=>hKK _ _ (h hin a' w'<|by rw[b0b]at hst';exact hst')
  |some base=>
    intro hl;rw[e0h ho];simp only[okM,aa,bJ,jD]at hok;obtain⟨⟨k1,k2⟩,k3⟩:=hok;have k3': ∀x∈ef.wr,x.1<H.length:=λx hx=>bE (ag<|by simpa [yD]using k3 x hx)
    subst hl;refine⟨ef, ?_,k1, ?_⟩;unfold opD;rw[hg];simp only;rw[hc,vB dE];refine⟨.inl he,λhcr=> ?_,k3'⟩;rcases k2 with k2|k2;rw[hcr]at k2;cases k2;unfold q0G at k2;split at k2
    assumption
    cases k2;have:=h (by simp[trM]);rw[<-n0X _ _ k3',b0b];exact this
theorem RJ.skip (ho:ops.toList[p]?=wA o)(hg:a0Y ops (a0p L) o=wA yA)(hok:okM m ops p o ⟨.tup [],[],[]⟩ tr [.res]=oA\/True)
    (hk: ∀base,m=wA base->m0s o (h0x o ⟨.tup [],[],[]⟩) (g0A ops base p o ⟨.tup [],[],[]⟩) tr 0=oA)
    (h:RJ F P m ops (p+1) (trM m ops p o ⟨.tup [],[],[]⟩ tr) (g0e L o.dst<|.tup []) H Q):RJ F P m ops p tr L H Q:=by
  cases m with
  |none=>
    intro hin a w hs;have hbo:Oper.inB F.n ops o=true:=List.all_eq_true.1 hin o<|p0c ho;obtain⟨hd,K,D,hi⟩:=hs;rw[e0h ho];refine wpList_step λKK hKK=> ?_
    rw[b0C hi.slots (Oper.inB_guard hbo) hg,vB dE];exact hKK _ _ (h hin _ w ⟨by rw[a0M];exact hd,K,D,by have:=v0M hi o.dst;rw[b0b]at this;exact this⟩)
  |some base=>
    intro hl;rw[e0h ho];subst hl;refine⟨⟨.tup [],[],[]⟩, ?_,hk base rfl, ?_⟩;unfold opD;rw[hg];have:=h (by simp[trM]);rw[b0b];exact this
theorem RJ.call (ho:ops.toList[p]?=wA o)(hg:a0Y ops (a0p L) o=wA oA)(hc:g0v (a0p L) o=wA (f,args))(hs:SC P f args H v H')
    (h:RJ F P none ops (p+1) tr (g0e L o.dst v) H' Q):RJ F P none ops p tr L H Q:=by
  intro hin a w hst;have hbo:Oper.inB F.n ops o=true:=List.all_eq_true.1 hin o<|p0c ho;obtain⟨hd,K,D,hi⟩:=hst;rw[e0h ho];refine wpList_step λKK hKK=> ?_
  rw[b0C hi.slots (Oper.inB_guard hbo) hg,wB rfl];exact p0P hi hd (Oper.inB_op hbo) hc hs λa' w' hst'=>hKK _ _ (h hin a' w'<|by rw[b0b]at hst';exact hst')
theorem q0H {r:FuncId×List SV} (h:g0v ρ o=wA r):b0S o=true:=by
  unfold g0v at h;split at h;rename_i c ho;unfold s0E at h;split at h;rename_i f hf;simp[b0S,ho,hf];cases h;cases h
def RJ.callD (ho:ops.toList[p]?=wA o)(hg:a0Y ops (a0p L) o=wA oA)(hc:g0v (a0p L) o=wA (f,args))(ha:args=SV.rnL g args0)
    (hsel:Sel H g H0) (hlive: ∀en∈H0,g0Z en=oA) (hr:SV.refsL H0.length args0=oA) (hv:SV.refs H0.length v0=oA) (hs:SC P f args0 H0 v0 H0)
    (hk: ∀base,m=wA base->m0s o (h0x o ⟨SV.rn g v0,(oB H0.length).map g,[]⟩) (g0A ops base p o ⟨SV.rn g v0,(oB H0.length).map g,[]⟩) tr 0=oA)
    (h:RJ F P m ops (p+1) (trM m ops p o ⟨SV.rn g v0,(oB H0.length).map g,[]⟩ tr) (g0e L o.dst<|SV.rn g v0) H Q):RJ F P m ops p tr L H Q:=by
  cases m with
  |none=>
    have hfr:=SC.frame hs hsel hlive hr<|aj _;rw[u0W hsel,<-i0Z (f:=g) (m:=H0.length) (λi hi=>by simp[gOf,hi]) v0 hv,<-ha]at hfr;exact RJ.call ho hg hc hfr h
  |some base=>
    intro hl;rw[e0h ho];subst hl;refine⟨⟨SV.rn g v0,(oB H0.length).map g,[]⟩, ?_,hk base rfl, ?_⟩;unfold opD;rw[hg];simp only;rw[q0H hc,wB rfl];exact .inl ⟨f,args,g,args0,H0,v0,hc,ha,hsel,hlive,hr,hv,hs,rfl⟩;have:=h (by simp[trM]);rw[b0b];exact this
end
section
variable {F : Fr} {P : Program} {L : LE} {H : a0f} {Q : f0Z} {m : Option Nat} {ops : Array Oper} {p : Nat} {tr : List (List Nat × List Nat)}
def j0x(P:Program)(m:Option Nat)(ops:Array Oper):Nat->Nat->List (List Nat×List Nat)->LE->a0f->Option (List (List Nat×List Nat)×LE×a0f)
  |0,_,tr,L,H=>wA (tr,L,H)
  |q+1,p,tr,L,H=>match ops.toList[p]? with
    |none=>none
    |some o=>match a0Y ops (a0p L) o with
      |some oA=>bif b0S o then none else match a0E P o (a0p L) H (I0y m ops p H)with
        |some ef=>bif okM m ops p o ef tr H then j0x P m ops q (p+1) (trM m ops p o ef tr) (g0e L o.dst ef.v) (b0a H ef.wr)else none
        |none=>none
      |some yA=>bif(match m with|none=>oA|some base=>m0s o (h0x o ⟨.tup [],[],[]⟩) (g0A ops base p o ⟨.tup [],[],[]⟩) tr 0)then j0x P m ops q (p+1) (trM m ops p o ⟨.tup [],[],[]⟩ tr) (g0e L o.dst<|.tup []) H else none
      |none=>none
theorem o0g: ∀(q p:Nat) (tr:List<|List Nat×List Nat) (L:LE) (H:a0f) (tr2:List<|List Nat×List Nat) (L2:LE) (H2:a0f),j0x P m ops q p tr L H=wA (tr2,L2,H2)->RJ F P m ops (p+q) tr2 L2 H2 Q->RJ F P m ops p tr L H Q:=by
  intro q
  induction q with
  |zero=>intro p tr L H tr2 L2 H2 h k;simp only[j0x]at h;cases h;exact k
  |succ q ih=>
    intro p tr L H tr2 L2 H2 h k;simp only[j0x]at h;rw[show p+(q+1)=p+1+q from by omega]at k;split at h;cases h;rename_i o ho;split at h;rename_i hg
    cases hc:b0S o with
    |true=>rw[hc]at h;cases h
    |false=>
      rw[hc]at h;simp only[wD]at h;split at h;rename_i ef he
      cases hok:okM m ops p o ef tr H with
      |false=>rw[hok]at h;cases h
      |true=>
        rw[hok]at h;exact RJ.step ho hg hc he hok (ih _ _ _ _ _ _ _ h k)
      cases h
    rename_i hg
    cases hb:(match m with|none=>oA|some base=>m0s o (h0x o ⟨.tup [],[],[]⟩) (g0A ops base p o ⟨.tup [],[],[]⟩) tr 0)with
    |false=>rw[hb]at h;cases h
    |true=>
      rw[hb]at h;refine RJ.skip ho hg (.inr trivial) (λbase hm=> ?_)<|ih _ _ _ _ _ _ _ h k;subst hm;exact hb
    cases h
theorem RJ.seg(q:Nat)(ts:List Nat) {L2:LE} (h:(j0x P none ops q p [] L H).map (λr=>(g0s ts r.2.1,r.2.2))=wA (L2,H2))(k:RJ F P none ops (p+q) [] L2 H2 Q):RJ F P none ops p [] L H Q:=by
  cases hr:j0x P none ops q p [] L H with
  |none=>rw[hr]at h;cases h
  |some r=>
    obtain⟨tr1,L1,H1⟩:=r;rw[hr]at h;simp only[aV,ai,aG]at h;obtain⟨rfl,rfl⟩:=h;refine o0g q p [] L H tr1 L1 H1 hr ?_;intro hin a w hs;exact k hin a w<|hs.keep<|k0L ts L1
def RJ.segD (q:Nat) {L2:LE} (h:j0x P (wA base) ops q p tr L H=wA (tr2,L2,H2))(k:RJ F P (wA base) ops (p+q) tr2 L2 H2 Q):RJ F P (wA base) ops p tr L H Q:=
  o0g q p tr L H tr2 L2 H2 h k
def lOf(r:Option<|List (List Nat×List Nat)×LE×a0f):LE:=match r with|some x=>x.2.1|none=> []
def hOf(r:Option<|List (List Nat×List Nat)×LE×a0f):a0f:=match r with|some x=>x.2.2|none=> []
def tOf(r:Option<|List (List Nat×List Nat)×LE×a0f):List (List Nat×List Nat):=match r with|some x=>x.1|none=> []
theorem RJ.segC(q:Nat)(ts:List Nat)(h:(j0x P none ops q p [] L H).isSome=oA)(k:RJ F P none ops (p+q) [] (g0s ts<|lOf<|j0x P none ops q p [] L H) (hOf<|j0x P none ops q p [] L H) Q):RJ F P none ops p [] L H Q:=by
  refine RJ.seg q ts ?_ k
  cases hr:j0x P none ops q p [] L H with
  |none=>rw[hr]at h;cases h
  |some r=>rfl
theorem RJ.segDC (q:Nat)(h:(j0x P (wA base) ops q p tr L H).isSome=oA)(k:RJ F P (wA base) ops (p+q) (tOf<|j0x P (wA base) ops q p tr L H) (lOf<|j0x P (wA base) ops q p tr L H) (hOf<|j0x P (wA base) ops q p tr L H) Q):RJ F P (wA base) ops p tr L H Q:=by
  refine RJ.segD q ?_ k
  cases hr:j0x P (wA base) ops q p tr L H with
  |none=>rw[hr]at h;cases h
  |some r=>rfl
def Wk(F:Fr)(L:LE)(H:a0f)(L2:LE)(H2:a0f):Prop:= ∀a w,Sees F L H a w->Sees F L2 H2 a w
theorem J.wk {L2:LE} (h:Wk F L H L2 H2)(k:J F P c L2 H2 Q):J F P c L H Q:=λhin a w hs=>k hin a w<|h a w hs
theorem PJ.wk {L2:LE} (h:Wk F L H L2 H2)(k:PJ F Q e L2 H2):PJ F Q e L H:=λa w hs=>k a w<|h a w hs
theorem RJ.wk {L2:LE} (h:Wk F L H L2 H2)(k:RJ F P none ops p tr L2 H2 Q):RJ F P none ops p tr L H Q:=λhin a w hs=>k hin a w<|h a w hs
theorem o0q {d:Nat} (h:lk L d=v):a0p ((d,v)::L)=a0p L:=by
  funext t;simp only[a0p,lk]
  cases hb:yB t d with
  |true=>have:=ae hb;subst this;exact h.symm
  |false=>rfl
theorem J.caseB (d:Nat) (hd:lk L d= .bool b)(h1:b=oA->J F P c ((d, .bool oA)::L) H Q)(h2:b=yA->J F P c ((d, .bool yA)::L) H Q):J F P c L H Q:=by
  intro hin a w hs
  cases b with
  |true=>exact h1 rfl hin a w (by unfold Sees;rw[o0q hd];exact hs)
  |false=>exact h2 rfl hin a w (by unfold Sees;rw[o0q hd];exact hs)
theorem RJ.caseB(d:Nat) (hd:lk L d= .bool b)(h1:b=oA->RJ F P m ops p tr ((d, .bool oA)::L) H Q)(h2:b=yA->RJ F P m ops p tr ((d, .bool yA)::L) H Q):RJ F P m ops p tr L H Q:=by
  cases b with
  |true=>
    have:=h1 rfl
    cases m with
    |none=>intro hin a w hs;exact this hin a w (by unfold Sees;rw[o0q hd];exact hs)
    |some base=>intro hl;have t:=this hl;rw[o0q hd]at t;exact t
  |false=>
    have:=h2 rfl
    cases m with
    |none=>intro hin a w hs;exact this hin a w (by unfold Sees;rw[o0q hd];exact hs)
    |some base=>intro hl;have t:=this hl;rw[o0q hd]at t;exact t
/-! Loops. -/
def a0m {S O:Type} (step:S->Option (S⊕O)):Nat->S->Option O
  |0,_=>none
  |n+1,s=>match step s with
    |none=>none
    |some (.inr o)=>wA o
    |some (.inl s')=>a0m step n s'
theorem J.loop {step:S->Option (S⊕O)} {s0:S} {o:O} (R:S->LE×a0f)(ho:a0m step n s0=wA o)(hL:L=(R s0).1)(hH:H=(R s0).2)
    (body: ∀s x,step s=wA x->J F P c (R s).1 (R s).2 (λe a w=>match x with
      | .inl s'=>e= .normal/\Sees F (R s').1 (R s').2 a w
      | .inr o'=>e≠ .normal/\(o'=o->Q e a w))):J F P (.loop c) L H Q:=by
  subst hL;subst hH;intro hin;have hin':b0p F.n c=true:=hin;clear hin
  have key: ∀n s0,a0m step n s0=wA o-> ∀a w,Sees F (R s0).1 (R s0).2 a w-> ∀(b:Frame) (k:List Item) (cs:List Frame),∃e a' w',Q e a' w'/\Arrives P (lone (b.at a (.code c:: .inLoop c::k)) cs w) b k cs e a' w':=by
    intro n
    induction n with
    |zero=>intro s0 h;cases h
    |succ n ih=>
      intro s0 h a w hs b k cs;simp only[a0m]at h;split at h;cases h;rename_i o' hst;cases h;have hr:=body s0 _ hst hin' a w hs;obtain⟨e,a₁,w₁,⟨hne,hq⟩,harr⟩:=hr b (.inLoop c::k) cs;have hq:=hq rfl;refine⟨e,a₁,w₁,hq, ?_⟩
      cases e with
      |normal=>exact absurd rfl hne
      |exit id=>exact .pass (x:= .inLoop c) rfl (λ_ _=> .inl dE) harr
      |goto l=>exact .pass (x:= .inLoop c) rfl (λ_ _=> .inl dE) harr
      |ret=>exact .pass (x:= .inLoop c) rfl (λ_ _=> .inl dE) harr
      |panic ch=>exact .pass (x:= .inLoop c) rfl (λ_ _=> .inl dE) harr
      |outgrown=>exact .pass (x:= .inLoop c) rfl (λ_ _=> .inl dE) harr
      rename_i s' hst;have hr:=body s0 _ hst hin' a w hs;obtain⟨e,a₁,w₁,⟨rfl,hs'⟩,harr⟩:=hr b (.inLoop c::k) cs;obtain⟨e₂,a₂,w₂,hq₂,harr₂⟩:=ih s' h a₁ w₁ hs' b k cs;exact⟨e₂,a₂,w₂,hq₂, .of_steps (Steps.trans harr<|.one step_inLoop) harr₂⟩
  intro a w hs b k cs;obtain⟨e,a',w',hq,harr⟩:=key n s0 ho a w hs b k cs;exact⟨e,a',w',hq, .of_steps (.one step_loop) harr⟩
/-! Functions. -/
def y0X(P:Program)(L:LE)(H:a0f):ResultVar->Option SV
  | .tmp t=>wA (lk L t)
  | .cell t ty=>match lk L t with
    | .ptr b off=>match(H[b]?).bind b0L with
      |some cs=>b0t P ty (cs.drop off)
      |none=>none
    |_=>none
def L0u {α β:Type} (f:α->Option β):List α->Option (List β)
  | []=>wA []
  |x::r=>match f x,L0u f r with
    |some y,wA ys=>wA (y::ys)
    |_,_=>none
def u0K(P:Program)(rs:List ResultVar)(L:LE)(H:a0f):Option SV:=
  match rs with
  | [r]=>y0X P L H r
  |rs=>(L0u (y0X P L H) rs).map .tup
def e0q:List ResultVar->List Nat
  | []=> []
  | .tmp t::rs=>t::e0q rs
  | .cell t _::rs=>t::e0q rs
def j0L(n:Nat)(rs:List ResultVar):Bool:=(e0q rs).all λt=>vA<|t<n
def x0r(tm:Array Value)(r:ResultVar):Sem Value:=
  match r with
  | .tmp t=>pure (tm.getD t undef)
  | .cell a t=>do loadVar t (<-asAddr (tm.getD a undef))
def B0G(fn:Func)(tm:Array Value):results fn tm=(do
    let vs<-fn.results.mapM (x0r tm)
    pure (if h:vs.size=1 then vs[0]else .tuple vs)):=rfl
theorem D0G {K:Nat->Nat} (h:Inv F w K D H (a0p L) tm) {r:ResultVar} (ht: ∀t∈e0q [r],t<F.n)(hs:y0X P L H r=wA s):
    ∃v,(x0r tm r).run P w= .ok v w/\Rep w K D v s:=by
  cases r with
  |tmp t=>
    simp only[y0X]at hs;cases hs;exact⟨_,rfl,h.slots.rep t<|ht t<|by simp[e0q]⟩
  |cell t ty=>
    simp only[y0X]at hs;have htn:=ht t (by simp[e0q]);split at hs;rename_i bi off hv;split at hs;rename_i cs hcs;have hr:=h.slots.rep t htn;rw[show a0p L t=lk L t from rfl,hv]at hr;obtain⟨b,c,m,hvx,hd⟩:=r0h hr
    cases hH:H[bi]? with
    |none=>rw[hH]at hcs;cases hcs
    |some en=>
      rw[hH]at hcs;obtain⟨vs,rest,e,hheap,hcr,_,_⟩:=w0o h.hinv hH hd hcs;have hrow:=(g0t hheap hcr).drop off;rw[aZ]at hrow;obtain⟨v,hrun,hrep'⟩:=m0h (P:=P) hrow hs;refine⟨v, ?_,hrep'⟩;simp only[x0r,hvx];simp[asAddr,hrun]
    cases hs;cases hs
theorem B0H {K:Nat->Nat} (h:Inv F w K D H (a0p L) tm): ∀(rs:List ResultVar) (vs:List SV),(∀t∈e0q rs,t<F.n)->L0u (y0X P L H) rs=wA vs->
    ∃us,(rs.mapM<|x0r tm).run P w= .ok us w/\us.length=vs.length/\us.length=rs.length/\(∀(j:Nat) (v:Value) (c:SV),us[j]?=wA v->vs[j]?=wA c->Rep w K D v c):=by
  intro rs
  induction rs with
  |nil=>intro vs _ hv;simp[L0u]at hv;subst hv;exact⟨[],rfl,rfl,rfl,λj v c e=>by simp at e⟩
  |cons r rs ih=>
    intro vs ht hv;have htl:e0q (r::rs)=e0q [r]++e0q rs:=by cases r<;>rfl
    simp only[L0u]at hv;split at hv;rename_i s ss h1 h2;cases hv;obtain⟨u,hu1,hu2⟩:=D0G (P:=P) h (r:=r) (λt hm=>ht t<|by rw[htl];exact al.2<|.inl hm) h1;obtain⟨us,i1,i2,i3,i4⟩:=ih ss (λt hm=>ht t<|by rw[htl];exact al.2<|.inr hm) h2;refine⟨u::us, ?_,by simp[i2],by simp[i3],λj v c hv hc=> ?_⟩;simp only[cO,zD,hu1,wC,i1,jE]
    cases j with
    |zero=>simp at hv hc;subst hv;subst hc;exact hu2
    |succ j=>exact i4 j v c (by simpa using hv) (by simpa using hc)
    cases hv
def u0p(P:Program)(fn:Func)(F:Fr)(v:SV)(H':a0f):f0Z:=λe a w=>(e= .normal\/e= .ret)/\a.defers=F.ds/\ ∃r,(results fn a.tmps).run P w= .ok r w/\Good F.w0 F.K0 F.D0 F.H0 r w v H'
structure Back (m0:Nat) (H:a0f) (f:Nat->Nat) (v1 v:SV) (H':a0f):Prop where
  sel:Sel H f H'
  keep: ∀j,j<m0->f j=j
  le:m0<=H'.length
  val:v1=SV.rn f v
  refs:SV.refs H'.length v=oA
mutual
def B0E: ∀(s:SV),SV.rn (λj=>j) s=s
  | .agg cs=>by simp only[SV.rn];rw[t0m cs]
  | .tup cs=>by simp only[SV.rn];rw[t0m cs]
  | .fn q a b=>by simp only[SV.rn];rw[t0m a,t0m b]
  | .ptr _ _=>rfl
  | .vc _=>rfl
  | .sl _ _ _ _=>rfl
  | .mp _=>rfl
  | .undef=>rfl
  | .bool _=>rfl
  | .int _ _=>rfl
  | .str _=>rfl
  | .nl=>rfl
  | .lst _ _ _=>rfl
  | .ep _=>rfl
  | .nilp=>rfl
  | .yld _=>rfl
def t0m: ∀(cs:List SV),SV.rnL (λj=>j) cs=cs
  | []=>rfl
  |c::cs=>by simp only[SV.rnL];rw[B0E c,t0m cs]
end
def I0B(en:Ent):Ent.rn (λj=>j) en=en:=by
  cases en<;>simp[Ent.rn,t0m,B0E]
theorem Back.drop {m0:Nat} {ex:a0f} (hle:m0<=H'.length)(hr:SV.refs H'.length v=oA)(hH:H'.all (Ent.refs H'.length)=oA):Back m0 (H'++ex) (λj=>j) v v H':=
  ⟨⟨λj en hj=>by rw[I0B,bI (ab.1 hj).1];exact hj,λi j _ _ e=>e,λj en hj=>List.all_eq_true.1 hH en<|aH hj⟩,λ_ _=>rfl,hle,(B0E v).symm,hr⟩
theorem i0X {K:Nat->Nat} {w0:World} {K0:Nat->Nat} {D0:DM} {f:Nat->Nat} (hg:Grow w0 K0 D0 H0 w K D H)(hi:HInv w K D H)(hr:Rep w K D r v1)(hb:Back H0.length H f v1 v H')
    (hdom: ∀i,H0.length<=i->D0 i=none):Good w0 K0 D0 H0 r w v H':=by
  refine⟨K,m0u D f H'.length,⟨hg.os,hg.tape,hg.output,hg.size,hg.block,hg.cells,hg.le,hg.kk,λi x hx=> ?_,λb hm=>hg.new b<|hb.sel.mem hm⟩,hb.sel.hinv hi,h0e hr v hb.val hb.refs⟩
  have hil:i<H0.length:=by
    rcases bL i H0.length with h|h;exact h;rw[hdom i h]at hx;cases hx
  simp only[m0u,wB<|be hil hb.le,hb.keep i hil];exact hg.dd i x hx
theorem t0n {fn:Func} {K:Nat->Nat} (hi:Inv F w K D H (a0p L) tm)(hin:j0L F.n fn.results.toList=oA)(hret:u0K P fn.results.toList L H=wA v1):
    ∃r,(results fn tm).run P w= .ok r w/\Rep w K D r v1:=by
  simp only[j0L,jD,decide_eq_true_eq]at hin
  have hres: ∀us,(fn.results.toList.mapM<|x0r tm).run P w= .ok us w->
      (results fn tm).run P w= .ok (if h:us.toArray.size=1 then us.toArray[0]else .tuple us.toArray) w:=by
    intro us hus;rw[B0G,Array.mapM_eq_mapM_toList];simp[hus]
  unfold u0K at hret;split at hret;rename_i rr hrs;rw[hrs]at hres hin;obtain⟨u,h1,h2⟩:=D0G (P:=P) hi hin hret;refine⟨u, ?_,h2⟩;have:=hres [u] (by simp[h1]);simpa using this;rename_i hne
  cases hm:L0u (y0X P L H) fn.results.toList with
  |none=>rw[hm]at hret;cases hret
  |some vs=>
    rw[hm]at hret;cases hret;obtain⟨us,h1,h2,h3,h4⟩:=B0H (P:=P) hi _ vs hin hm
    have hn1:us.length≠1:=by
      intro he1;obtain⟨x,hx⟩:=List.length_eq_one_iff.1<|h3.symm.trans he1;exact hne x hx
    refine⟨.tuple us.toArray,by have:=hres _ h1;rw[dif_neg<|by simpa using hn1]at this;exact this, .tup us vs h2.symm h4⟩
theorem PJ.end {fn:Func} {f:Nat->Nat} (he:e= .normal\/e= .ret)(hin:j0L F.n fn.results.toList=oA)(hret:u0K P fn.results.toList L H=wA v1)(hb:Back F.H0.length H f v1 v H')(hdom: ∀i,F.H0.length<=i->F.D0 i=none):
    PJ F (u0p P fn F v H') e L H:=by
  intro a w hs;obtain⟨hd,K,D,hi⟩:=hs;refine⟨he,hd, ?_⟩;obtain⟨r,h1,h2⟩:=t0n (P:=P) hi hin hret;exact⟨r,h1,i0X hi.grow hi.hinv h2 hb hdom⟩
def e0M:Nat->List SV->LE
  |_,[]=> []
  |i,v::r=>(i,v)::e0M (i+1) r
theorem l0S: ∀(args:List SV) (i t:Nat),lk (e0M i args) t=if i<=t then(args[t-i]?).getD .undef else .undef
  | [],i,t=>by simp[e0M,lk]
  |v::r,i,t=>by
    simp only[e0M,lk]
    cases hb:yB t i with
    |true=>have:=ae hb;subst this;simp
    |false=>
      have hne:t≠i:=λe=>by subst e;simp at hb
      simp only[wD];rw[l0S r (i+1) t];by_cases hle:i<=t;rw[wB hle,wB dA,show t-i=(t-(i+1))+1 from by omega];simp;rw[vB hle,vB dA]
theorem L0q {P:Program} {fn:Func} (hf:P.funcs[f]?=wA fn)(hb:fn.body=wA c)(hcal:b0q P f=oA)(hin:b0p fn.ntmps c=oA)
 {H:a0f} (hn:args.length<=fn.ntmps)
    (h: ∀F:Fr,F.n=fn.ntmps->F.H0=H->(∀i,F.H0.length<=i->F.D0 i=none)->J F P c (e0M 0 args) H (u0p P fn F v H')):SC P f args H v H':=by
  refine⟨hcal,λw K D vals hl hrep hi hG=> ?_⟩
  let F:Fr:=⟨fn.ntmps,w,K,D,H,[]⟩
  have hslots:Slots fn.ntmps w K D (a0p<|e0M 0 args) (vals.toArray++vD (fn.ntmps-vals.toArray.size) undef):=by
    refine⟨dD,λi hin=> ?_,hG⟩;show Rep w K D _ (lk (e0M 0 args) i);rw[l0S,wB<|bk _,bK];by_cases hia:i<args.length;have hiv:i<vals.length:=by omega
    rw[af hia,bp]
    have hg:(vals.toArray++vD (fn.ntmps-vals.toArray.size) undef).getD i undef=vals[i]:=by
      rw[aX,bT<|by simpa using hiv];simp[hiv]
    rw[hg];exact hrep i _ _ (af hiv)<|af hia;rw[aA dA];exact .undef _
  have hst:Sees F (e0M 0 args) H { tmps:=vals.toArray++vD (fn.ntmps-vals.toArray.size) undef,defers:=[] } w:=⟨rfl,K,D,⟨hslots,hi,Grow.refl _ _ _ _⟩⟩
  refine calls_of_wp hf hb<|jJ (λe a' w' hq=> ?_)<|h F rfl rfl hi.dom hin _ w hst;obtain⟨he,hd,r,hr,hg⟩:=hq;rcases he with rfl|rfl<;>exact⟨hd,r,hr,r,rfl,hg⟩
end
mutual
def SV.fz(i:Nat)(s0:SV):SV->SV
  | .agg cs=> .agg (SV.fzL i s0 cs)
  | .tup cs=> .tup (SV.fzL i s0 cs)
  | .fn g a b=> .fn g (SV.fzL i s0 a) (SV.fzL i s0 b)
  | .vc j=>bif yB j i then s0 else .vc j
  | .ptr j off=> .ptr j off
  | .sl j off n k=> .sl j off n k
  | .mp j=> .mp j
  | .undef=> .undef
  | .bool b=> .bool b
  | .int k n=> .int k n
  | .str s=> .str s
  | .nl=> .nl
  | .lst n k cs=> .lst n k cs
  | .ep cs=> .ep cs
  | .nilp=> .nilp
  | .yld j=> .yld j
def SV.fzL(i:Nat)(s0:SV):List SV->List SV
  | []=> []
  |c::cs=>SV.fz i s0 c::SV.fzL i s0 cs
end
def r0A(i:Nat)(s0:SV): ∀(cs:List SV) (j:Nat),(SV.fzL i s0 cs)[j]?=(cs[j]?).map (SV.fz i s0)
  | [],j=>by simp[SV.fzL]
  |c::cs,j=>by
    cases j with
    |zero=>simp[SV.fzL]
    |succ j=>simpa [SV.fzL]using r0A i s0 cs j
def j0q(i:Nat)(s0:SV): ∀(cs:List SV),(SV.fzL i s0 cs).length=cs.length
  | []=>rfl
  |c::cs=>by simp[SV.fzL,j0q i s0 cs]
def Ent.fz(i:Nat)(s0:SV):Ent->Ent
  | .box cs=> .box (SV.fzL i s0 cs)
  |e=>e
section
variable {w : World} {K K' : Nat -> Nat} {D : DM}
theorem I0h (hm: ∀v s,Rep w K D v s->Rep w K' D v s)(h0: ∀v,Rep w K D v (.vc i)->Rep w K' D v s0) {v:Value} (h:Rep w K D v s):Rep w K' D v (SV.fz i s0 s):=by
  induction h with
  |undef v=>exact .undef _
  |bool b=>exact .bool _
  |int k n=>exact .int _ _
  |str sb=>exact .str _
  |nl a=>exact .nl _
  |emp k a cap=>exact .emp _ _ _
  |lst k b off len cap vs cs hk hl hc hcap hmm hK h1 hp h _=>exact hm _ _ (.lst k b off len cap vs cs hk hl hc hcap hmm hK h1 hp h)
  |ep b off vs cs hc hmm hK h1 hp h _=>exact hm _ _ (.ep b off vs cs hc hmm hK h1 hp h)
  |agg vs cs hc h1 _ ih=>
    refine .agg vs _ (by rw[j0q,hc]) h1 λj v c hv hcc=> ?_;rw[r0A]at hcc
    cases hx:cs[j]? with
    |none=>rw[hx]at hcc;cases hcc
    |some x=>rw[hx]at hcc;cases hcc;exact ih j v x hv hx
  |tup vs cs hc _ ih=>
    refine .tup vs _ (by rw[j0q,hc]) λj v c hv hcc=> ?_;rw[r0A]at hcc
    cases hx:cs[j]? with
    |none=>rw[hx]at hcc;cases hcc
    |some x=>rw[hx]at hcc;cases hcc;exact ih j v x hv hx
  |ptr i off b c n hd=>exact .ptr _ _ b c n hd
  |vcn j a hd=>
    simp only[SV.fz]
    cases hb:yB j i with
    |true=>have:=ae hb;subst this;exact h0 _ (.vcn _ a hd)
    |false=>exact .vcn _ a hd
  |vc j b c n hd=>
    simp only[SV.fz]
    cases hb:yB j i with
    |true=>have:=ae hb;subst this;exact h0 _ (.vc _ b c n hd)
    |false=>exact .vc _ b c n hd
  |sl i off n k b c m' cap hd hn=>exact .sl _ _ _ _ b c m' cap hd hn
  |mp i r c n hd=>exact .mp _ r c n hd
  |fn q fs caps gs dcs hc hd _ _ ih ih'=>
    refine .fn q fs caps _ _ (by rw[j0q,hc]) (by rw[j0q,hd]) (λj v c hv hcc=> ?_) λj v c hv hcc=> ?_;rw[r0A]at hcc
    cases hx:gs[j]? with
    |none=>rw[hx]at hcc;cases hcc
    |some x=>rw[hx]at hcc;cases hcc;exact ih j v x hv hx
    rw[r0A]at hcc
    cases hx:dcs[j]? with
    |none=>rw[hx]at hcc;cases hcc
    |some x=>rw[hx]at hcc;cases hcc;exact ih' j v x hv hx
  |nilp=>exact .nilp
  |yld i l c n hd=>exact .yld _ l c n hd
theorem I0D {j:Nat} {en:Ent} (hr: ∀v s,Rep w K D v s->Rep w K' D v (SV.fz i s0 s))(hp: ∀v s,Rep w K D v s->Rep w K' D v s)(h:EntOk w K D j en)
    (hK: ∀b c n,g0Z en=oA->D j=wA (.at b c n)->K' b=K b):EntOk w K' D j (Ent.fz i s0 en):=by
  cases en with
  |res=>exact h
  |gone=>trivial
  |box cs=>
    obtain⟨b,vs,e,h1,h2,h3,h4⟩:=h;refine⟨b,vs,e,h1,by rw[hK b 0 0 rfl h1];exact h2,h3,⟨by rw[j0q,h4.len],h4.one,λj v c hv hc=> ?_⟩⟩;rw[r0A]at hc
    cases hx:cs[j]? with
    |none=>rw[hx]at hc;cases hc
    |some x=>rw[hx]at hc;cases hc;exact hr _ _ (h4.rep j v x hv hx)
  |vec n k e cs=>exact h.keep (w':=w) hp rfl (λb c n' hl hd=>⟨rfl,hK b c n' hl hd⟩)
  |map es=>exact h.keep (w':=w) hp rfl (λb c n' hl hd=>⟨rfl,hK b c n' hl hd⟩)
  |pmap es=>exact h.keep (w':=w) hp rfl (λb c n' hl hd=>⟨rfl,hK b c n' hl hd⟩)
  |itr m n s=>exact h.keep (w':=w) hp rfl (λb c n' hl hd=>⟨rfl,hK b c n' hl hd⟩)
  |lop tm ps as bd st pd=>exact h.keep (w':=w) hp rfl (λb c n' hl hd=>⟨rfl,hK b c n' hl hd⟩)
  |dfr=>exact h.keep (w':=w) hp rfl λb c n' hl hd=>⟨rfl,hK b c n' hl hd⟩
def r0s (en:Ent):g0Z (Ent.fz i s0 en)=g0Z en:=by cases en<;>rfl
end
def fzE(i:Nat)(s0:SV)(L:LE):LE:=L.map λp=>(p.1,SV.fz i s0 p.2)
def x0Y(i:Nat)(s0:SV): ∀(L:LE) (t:Nat),lk (fzE i s0 L) t=SV.fz i s0 (lk L t)
  | [],t=>rfl
  |(j,v)::r,t=>by
    simp only[fzE,ao,lk]
    cases yB t j with
    |true=>rfl
    |false=>exact x0Y i s0 r t
def fzH(i:Nat)(s0:SV)(H:a0f):a0f:=(H.map<|Ent.fz i s0).set i .gone
section
variable {F : Fr} {P : Program} {L : LE} {H : a0f}
theorem Wk.freeze(i:Nat) {e:TypeId} (hi:H[i]?=wA (.vec n k e cs)):Wk F L H (fzE i (.lst n k cs) L) (fzH i (.lst n k cs) H):=by
  intro a w hs;obtain⟨hd,K,D,h⟩:=hs;have hil:i<H.length:=(ab.1 hi).1;obtain⟨hp,hent⟩:=h.hinv.ent i _ hi
  have hget: ∀j en,(fzH i (.lst n k cs) H)[j]?=wA en->(j=i/\en= .gone)\/(j≠i/\ ∃en0,H[j]?=wA en0/\en=Ent.fz i (.lst n k cs) en0):=by
    intro j en hj;unfold fzH at hj;rw[aO]at hj;by_cases hji:i=j
    · subst hji
      rw[wB rfl]at hj;split at hj<;>cases hj
      exact .inl ⟨rfl,rfl⟩
    rw[vB hji,ar]at hj
    cases hx:H[j]? with
    |none=>rw[hx]at hj;cases hj
    |some en0=>rw[hx]at hj;cases hj;exact .inr ⟨Ne.symm hji,en0,rfl,rfl⟩
  -- what is settled from now on
  have key: ∃K':Nat->Nat,(∀b,K b<=K' b)/\(∀v,Rep w K D v (.vc i)->Rep w K' D v (.lst n k cs))/\(∀b,K' b≠K b->Mem D H b)/\(∀j en b c n',j≠i->H[j]?=wA en->g0Z en=oA->D j=wA (.at b c n')->K' b=K b):=by
    rcases hent with⟨h1,h2,h3⟩|⟨b,c,vs,rest,h1,h2,h3,h4,h5,h6,h7,h8,h9⟩;subst h2;subst h3;refine⟨K,λ_=>aj _,λv hv=> ?_,λb hb=>absurd rfl hb,λ_ _ _ _ _ _ _ _ _=>rfl⟩
    cases hv with
    |vcn _ ad hd=>exact .emp _ _ _
    |vc _ b c n hd=>rw[h1]at hd;cases hd
    have hmono: ∀b',K b'<=(if b'=b then n*k else K b'):=λb'=>by
      split;rename_i e1;subst e1;omega;exact aj _
    refine⟨λb'=>if b'=b then n*k else K b',hmono,λv hv=> ?_,λb' hb'=> ?_,λj en b' c' n' hji hj hl hdj=> ?_⟩
    cases hv with
    |vcn _ ad hd=>rw[h1]at hd;cases hd
    |vc _ b' c' n' hd=>
      rw[h1]at hd;cases hd;have hrow:=g0t h6 h9;have hm: ∀v s,Rep w K D v s->Rep w (λb'=>if b'=b then n*k else K b') D v s:=λv s hr=>hr.mono (λ_ _ _=>rfl) hmono (λ_ _ e=>e)
      exact .lst k b 0 n c vs cs h3 h7 h9.len h4 hrow.mem (by simp[h7]) h9.one hp (λj v c hv hc=>hm _ _<|h9.rep j v c hv hc)
    have:b'=b:=by
      rcases Nat.decEq b' b with hne|he;exact absurd (vB hne) hb';exact he
    subst this;exact⟨i,_,c,n,hi,rfl,h1⟩;refine vB λe1=> ?_
    subst e1;exact hji (h.hinv.inj j i en _ b' c' n' c n hj hi hl rfl hdj h1)
  obtain⟨K',k1,k2,k3,k4⟩:=key;have hm: ∀v s,Rep w K D v s->Rep w K' D v s:=λv s hr=>hr.mono (λ_ _ _=>rfl) k1 (λ_ _ e=>e)
  have hf: ∀v s,Rep w K D v s->Rep w K' D v (SV.fz i (.lst n k cs) s):=λv s hr=>I0h hm k2 hr
  have hmem: ∀b,Mem D (fzH i (.lst n k cs) H) b->Mem D H b:=by
    rintro b ⟨j,en,c,n',q1,q2,q3⟩;rcases hget j en q1 with⟨_,rfl⟩|⟨_,en0,g1,rfl⟩;cases q2;rw[r0s]at q2;exact⟨j,en0,c,n',g1,q2,q3⟩
  have g:=h.grow
  refine⟨hd,K',D,⟨⟨h.slots.size,λt ht=> ?_,λg cs hg=>(h.slots.glob g cs hg).mono (λ_ _ _=>rfl) k1 λ_ _ e=>e⟩,⟨λj hj=>h.hinv.dom j<|by unfold fzH at hj;simpa using hj,λj en hj=> ?_,λj j' en en' b c n1 c' n1' hj hj' hl hl' hdj hdj'=> ?_,λb hb=> ?_⟩,
    ⟨g.os,g.tape,g.output,g.size,g.block,g.cells,λb=>aF (g.le b)<|k1 b,λb hb hmm=> ?_,g.dd,λb hmm=>g.new b<|hmem b hmm⟩⟩⟩
  show Rep w K' D _ (lk (fzE i (.lst n k cs) L) t);rw[x0Y];exact hf _ _<|h.slots.rep t ht;rcases hget j en hj with⟨_,rfl⟩|⟨hne,en0,g1,rfl⟩;trivial;exact I0D hf hm (h.hinv.ent j en0 g1) λb c n' hl hdj=>k4 j en0 b c n' hne g1 hl hdj;rcases hget j en hj with⟨_,rfl⟩|⟨_,en0,g1,rfl⟩;cases hl;rcases hget j' en' hj' with⟨_,rfl⟩|⟨_,en0',g1',rfl⟩;cases hl';rw[r0s]at hl hl';exact h.hinv.inj j j' en0 en0' b c n1 c' n1' g1 g1' hl hl' hdj hdj';by_cases hbb:K' b=K b;rw[hbb]at hb;exact h.hinv.kw b hb;exact(k0v h.hinv<|k3 b hbb).1;by_cases hbb:K' b=K b;rw[hbb];exact g.kk b hb hmm;rcases g.new b (k3 b hbb)with q|q;exact absurd q hmm;omega
def m0O(D:DM)(i:Nat)(l:Loc):g0w D i l i=wA l:=by simp[g0w]
def p0j(D:DM) {j:Nat} (l:Loc)(h:j≠i):g0w D i l j=D j:=by simp[g0w,h]
theorem Wk.move(i:Nat) {e:TypeId} (hi:H[i]?=wA (.vec n k e cs)):Wk F L H (fzE i (.vc H.length) L) (fzH i (.vc H.length) H++ [.vec n k e cs]):=by
  intro a w hs;obtain⟨hd,K,D,h⟩:=hs;have hil:i<H.length:=(ab.1 hi).1;have hent:=h.hinv.ent i _ hi
  obtain⟨x,hx⟩: ∃x,D i=wA x:=by
    rcases hent.2 with⟨h1,_⟩|⟨b,c,_,_,h1,_⟩;exact⟨_,h1⟩;exact⟨_,h1⟩
  have hN:D H.length=none:=h.hinv.dom _ (aj _)
  have hDD: ∀j y,D j=wA y->g0w D H.length x j=wA y:=λj y hj=>by
    have:j≠H.length:=λe1=>by rw[e1,hN]at hj;cases hj
    rw[p0j D x this];exact hj
  have hm: ∀v s,Rep w K D v s->Rep w K (g0w D H.length x) v s:=λv s hr=>hr.mono (λ_ _ _=>rfl) (λ_=>aj _) hDD
  have h0: ∀v,Rep w K (g0w D H.length x) v (.vc i)->Rep w K (g0w D H.length x) v (.vc H.length):=λv hv=>by
    have e1:g0w D H.length x i=wA x:=hDD i x hx
    cases hv with
    |vcn _ ad hd=>rw[e1]at hd;exact .vcn _ ad (by rw[m0O];exact hd)
    |vc _ b c n hd=>rw[e1]at hd;exact .vc _ b c n (by rw[m0O];exact hd)
  have hf: ∀v s,Rep w K (g0w D H.length x) v s->Rep w K (g0w D H.length x) v (SV.fz i (.vc H.length) s):=λv s hr=>I0h (λ_ _ h=>h) h0 hr
  have hlen:(fzH i (.vc H.length) H).length=H.length:=by simp[fzH]
  have hget: ∀j en,(fzH i (.vc H.length) H++ [.vec n k e cs])[j]?=wA en->(j=i/\en= .gone)\/(j≠i/\j<H.length/\ ∃en0,H[j]?=wA en0/\en=Ent.fz i (.vc H.length) en0)\/(j=H.length/\en= .vec n k e cs):=by
    intro j en hj;rw[aM,hlen]at hj;by_cases hjl:j<H.length;rw[wB hjl]at hj;unfold fzH at hj;by_cases hji:i=j;subst hji;rw[cE<|by simpa using hil]at hj;cases hj;exact .inl ⟨rfl,rfl⟩;rw[cu hji,ar]at hj
    cases hxx:H[j]? with
    |none=>rw[hxx]at hj;cases hj
    |some en0=>rw[hxx]at hj;cases hj;exact .inr (.inl ⟨Ne.symm hji,hjl,en0,rfl,rfl⟩)
    rw[vB hjl]at hj
    have hj0:j-H.length=0:=by
      have:=(ab.1 hj).1;simp at this;omega
    rw[hj0]at hj;simp only[cy,ai]at hj;exact .inr (.inr ⟨dA,hj.symm⟩)
  have hmem: ∀b,Mem (g0w D H.length x) (fzH i (.vc H.length) H++ [.vec n k e cs]) b->Mem D H b:=by
    rintro b ⟨j,en,c,n',q1,q2,q3⟩;rcases hget j en q1 with⟨_,rfl⟩|⟨_,hjl,en0,g1,rfl⟩|⟨rfl,rfl⟩;cases q2;rw[r0s]at q2;rw[p0j D x dA]at q3;exact⟨j,en0,c,n',g1,q2,q3⟩;rw[m0O]at q3;exact⟨i,_,c,n',hi,rfl,by rw[hx];exact q3⟩
  have g:=h.grow
  refine⟨hd,K,g0w D H.length x,⟨⟨h.slots.size,λt ht=> ?_,j0f h.slots.glob⟩,⟨λj hj=> ?_,λj en hj=> ?_,λj j' en en' b c n1 c' n1' hj hj' hl hl' hdj hdj'=> ?_,λb hb=>h.hinv.kw b hb⟩,
    ⟨g.os,g.tape,g.output,g.size,g.block,g.cells,g.le,g.kk,λj y hj=>hDD j y<|g.dd j y hj,λb hmm=>g.new b<|hmem b hmm⟩⟩⟩
  show Rep w K _ _ (lk (fzE i (.vc H.length) L) t);rw[x0Y];exact hf _ _<|hm _ _<|h.slots.rep t ht;rw[ay,hlen]at hj;simp only[aR,bX]at hj;rw[p0j D x dA];exact h.hinv.dom j dA;rcases hget j en hj with⟨_,rfl⟩|⟨hne,hjl,en0,g1,rfl⟩|⟨rfl,rfl⟩;trivial;have he0:EntOk w K (g0w D H.length x) j en0:=(h.hinv.ent j en0 g1).keep hm (p0j D x dA) λ_ _ _ _ _=>⟨rfl,rfl⟩;exact I0D hf (λ_ _ h=>h) he0 λ_ _ _ _ _=>rfl;obtain⟨hp,hh⟩:=hent;refine⟨hp, ?_⟩;rcases hh with⟨h1,h2,h3⟩|⟨b,c,vs,rest,h1,h2,h3,h4,h5,h6,h7,h8,h9⟩;exact .inl ⟨by rw[m0O,<-hx];exact h1,h2,h3⟩;exact .inr ⟨b,c,vs,rest,by rw[m0O,<-hx];exact h1,h2,h3,h4,h5,h6,h7,h8,h9.mono hm⟩;rcases hget j en hj with⟨_,rfl⟩|⟨hne,hjl,en0,g1,rfl⟩|⟨rfl,rfl⟩;cases hl;rw[p0j D x dA]at hdj;rw[r0s]at hl;rcases hget j' en' hj' with⟨_,rfl⟩|⟨hne',hjl',en0',g1',rfl⟩|⟨rfl,rfl⟩;cases hl';rw[p0j D x dA]at hdj';rw[r0s]at hl';exact h.hinv.inj j j' en0 en0' b c n1 c' n1' g1 g1' hl hl' hdj hdj';rw[m0O,<-hx]at hdj';exact absurd (h.hinv.inj j i en0 _ b c n1 c' n1' g1 hi hl rfl hdj hdj') hne;rw[m0O,<-hx]at hdj;rcases hget j' en' hj' with⟨_,rfl⟩|⟨hne',hjl',en0',g1',rfl⟩|⟨rfl,rfl⟩;cases hl';rw[p0j D x dA]at hdj';rw[r0s]at hl';exact absurd (h.hinv.inj i j' _ en0' b c n1 c' n1' hi g1' rfl hl' hdj hdj').symm hne';rfl
def s0C {K:Nat->Nat} (h:HInv w K D H)(k:Nat)(e:TypeId):Grow w K D H w K (g0w D H.length .nil) (H++ [.vec 0 k e []])/\HInv w K (g0w D H.length .nil) (H++ [.vec 0 k e []]):=by
  have:=t0u h (idx:=H.length) (.inl rfl) none dE k e;rw[g0U]at this;have hs:h0L H H.length (.vec 0 k e [])=H++ [.vec 0 k e []]:=by unfold h0L;rw[vB<|Nat.lt_irrefl _]
  rw[hs]at this;exact this
theorem Wk.viv(t k:Nat)(e:TypeId)(ht:lk L t= .nl):Wk F L H ((t, .vc H.length)::L) (H++ [.vec 0 k e []]):=by
  intro a w hs;obtain⟨hd,K,D,h⟩:=hs;obtain⟨g,hi⟩:=s0C h.hinv k e;refine⟨hd,K,_,⟨⟨h.slots.size,λi hin=> ?_,λgg cs hg=>g.rep<|h.slots.glob gg cs hg⟩,hi,h.grow.trans g⟩⟩;have hr:=g.rep<|h.slots.rep i hin;show Rep w K _ _ (lk _ i);simp only[lk]
  cases hb:yB i t with
  |true=>
    have:=ae hb;subst this;rw[show a0p L i=lk L i from rfl,ht]at hr;generalize a.tmps.getD i undef=x at hr⊢;cases hr;exact .vcn _ _ (by simp[g0w])
  |false=>exact hr
theorem Wk.vivBox(i off k:Nat)(e:TypeId) (hi:H[i]?=wA (.box cs))(ho:cs[off]?=wA .nl):Wk F L H L (H.set i (.box<|cs.set off<|.vc H.length)++ [.vec 0 k e []]):=by
  intro a w hs;obtain⟨hd,K,D,h⟩:=hs;obtain⟨g,hv⟩:=s0C h.hinv k e;have hil:i<H.length:=(ab.1 hi).1;have hi':(H++ [Ent.vec 0 k e []])[i]?=wA (.box cs):=by rw[bI hil];exact hi
  have hset:H.set i (.box<|cs.set off<|.vc H.length)++ [.vec 0 k e []]=(H++ [Ent.vec 0 k e []]).set i (.box<|cs.set off<|.vc H.length):=by
    rw[List.set_append_left _ _ hil]
  rw[hset];obtain⟨b,vs,e',h1,h2,h3,h4⟩:=hv.ent i _ hi'
  obtain⟨g2,hv2⟩:=modify (w':=w) (en':= .box<|cs.set off<|.vc H.length) hv hi' rfl rfl h1 rfl rfl rfl rfl (λ_ _=>rfl) (λhr=>⟨b,vs,e',h1,h2,h3,⟨by simp[h4.len],h4.one,λj v c hv' hc=>by
    rw[aO]at hc;by_cases hjo:off=j
    · subst hjo
      rw[wB rfl]at hc;split at hc<;>cases hc
      have h5:=h4.rep off v .nl hv' ho;cases h5;exact .vcn _ _ (by simp[g0w])
    rw[vB hjo]at hc
    exact h4.rep j v c hv' hc⟩⟩)
  exact⟨hd,K,_,⟨h.slots.mono λ_ _=>g.rep,hv2,(h.grow.trans g).trans g2⟩⟩
/-! Entries under other numbers. -/
def a0Z(σ:List Nat):Nat->Nat:=λj=>σ.getD j 0
theorem Sel.of (σ:List Nat)(hl:σ.length=H2.length)(hg:σ.map (λi=>H[i]?)=H2.map λen=>wA<|Ent.rn (a0Z σ) en)(hn:σ.Nodup)(hr:H2.all (Ent.refs H2.length)=oA):Sel H (a0Z σ) H2:=by
  refine⟨λj en hj=> ?_,λi j hi hj e=> ?_,λj en hj=>List.all_eq_true.1 hr en<|aH hj⟩;have hjl:=(ab.1 hj).1;have h1:=congrArg (λl=>l[j]?) hg;simp only[ar,hj,aV]at h1;have h2:σ[j]?=wA (σ[j]' dA):=af dA;rw[h2]at h1;simp only[aV,ai]at h1;unfold a0Z;rw[am,h2];exact h1;unfold a0Z at e;rw[am,am,af dA,af dA]at e;exact(List.getElem_inj hn).1 (by simpa using e)
theorem Wk.sel {L2:LE} (m0:Nat)(hm:F.H0.length=m0)(hdom: ∀i,F.H0.length<=i->F.D0 i=none)(σ:List Nat)(hl:σ.length=H2.length)(hg:σ.map (λi=>H[i]?)=H2.map λen=>wA<|Ent.rn (a0Z σ) en)(hn:σ.Nodup)(hr:H2.all (Ent.refs H2.length)=oA)
    (hk:σ.take m0=oB m0) (hv:L2.map (λp=>lk L p.1)=L2.map λp=>SV.rn (a0Z σ) p.2) (hvr:L2.all (λp=>SV.refs H2.length p.2)=oA):Wk F L H L2 H2:=by
  have hsel:=Sel.of σ hl hg hn hr;intro a w hs;obtain⟨hd,K,D,h⟩:=hs
  have hlk: ∀(L3:LE) t,(∀p∈L3,p∈L2)->lk L3 t= .undef\/ ∃p∈L2,p.1=t/\lk L3 t=p.2:=by
    intro L3 t
    induction L3 with
    |nil=>intro _;exact .inl rfl
    |cons q r ih=>
      intro hmem;obtain⟨j,v⟩:=q;simp only[lk]
      cases hb:yB t j with
      |true=>have:=ae hb;subst this;exact .inr ⟨(t,v),hmem _<|az ..,rfl,rfl⟩
      |false=>exact ih λp hp=>hmem p (aq _ hp)
  have hval: ∀p∈L2,lk L p.1=SV.rn (a0Z σ) p.2:=by
    intro p hp;obtain⟨j,hj⟩:=bw.1 hp;have:=congrArg (λl=>l[j]?) hv;simpa [ar,hj]using this
  have hkeep: ∀j,j<m0->a0Z σ j=j:=by
    intro j hj;have:=congrArg (λl=>l[j]?) hk;simp only[aQ,wB hj,bu hj]at this;unfold a0Z;rw[am,this];rfl
  have hmle:m0<=H2.length:=by
    have:=congrArg List.length hk;simp at this;omega
  have g:=h.grow;refine⟨hd,K,m0u D (a0Z σ) H2.length,⟨⟨h.slots.size,λi hin=> ?_,j0f h.slots.glob⟩,hsel.hinv h.hinv,⟨g.os,g.tape,g.output,g.size,g.block,g.cells,g.le,g.kk,λi x hx=> ?_,λb hmm=>g.new b<|hsel.mem hmm⟩⟩⟩;have hr1:=h.slots.rep i hin;show Rep w K _ _ (lk L2 i);rcases hlk L2 i (λp hp=>hp)with e|⟨p,hp,rfl,e⟩;rw[e];exact .undef _;rw[e];refine h0e hr1 p.2 (hval p hp) ?_;exact List.all_eq_true.1 hvr p hp
  have hil:i<m0:=by
    rcases bL i m0 with h1|h1;exact h1;rw[hdom i dA]at hx;cases hx
  simp only[m0u,wB<|be hil hmle,hkeep i hil];exact g.dd i x hx
end
def q0c:SV->Bool
  | .bool _=>oA
  | .int _ _=>oA
  | .str _=>oA
  | .tup cs=>cs.all λc=>match c with
    | .bool _=>oA
    | .int _ _=>oA
    | .str _=>oA
    |_=>yA
  |_=>yA
theorem B0I {K K':Nat->Nat} {D':DM} {v:Value} (hs:q0c s=oA)(h:Rep w K D v s):Rep w' K' D' v s:=by
  cases h with
  |bool b=>exact .bool _
  |int k n=>exact .int _ _
  |str sb=>exact .str _
  |tup vs cs hc h=>
    refine .tup vs cs hc λj v c hv hcc=> ?_;have hr:=h j v c hv hcc;simp only[q0c,jD]at hs;have h1:=hs c<|aH hcc;cases hr<;>first|(cases h1;done)|exact .bool _|exact .int _ _|exact .str _
  |_=>cases hs
mutual
def SV.fzA(H:a0f):SV->SV
  | .agg cs=> .agg (SV.fzAL H cs)
  | .tup cs=> .tup (SV.fzAL H cs)
  | .fn g a b=> .fn g (SV.fzAL H a) (SV.fzAL H b)
  | .vc j=>match H[j]? with
    |some (.vec n k _ cs)=> .lst n k cs
    |_=> .undef
  | .ptr _ _=> .undef
  | .sl _ _ _ _=> .undef
  | .mp _=> .undef
  | .undef=> .undef
  | .bool b=> .bool b
  | .int k n=> .int k n
  | .str s=> .str s
  | .nl=> .nl
  | .lst n k cs=> .lst n k cs
  | .ep cs=> .ep cs
  | .nilp=> .nilp
  | .yld _=> .undef
def SV.fzAL(H:a0f):List SV->List SV
  | []=> []
  |c::cs=>SV.fzA H c::SV.fzAL H cs
end
def o0p(H:a0f): ∀(cs:List SV) (j:Nat),(SV.fzAL H cs)[j]?=(cs[j]?).map (SV.fzA H)
  | [],j=>by simp[SV.fzAL]
  |c::cs,j=>by
    cases j with
    |zero=>simp[SV.fzAL]
    |succ j=>simpa [SV.fzAL]using o0p H cs j
def h0X(H:a0f): ∀(cs:List SV),(SV.fzAL H cs).length=cs.length
  | []=>rfl
  |c::cs=>by simp[SV.fzAL,h0X H cs]
theorem J0H {K K':Nat->Nat} {H:a0f} (hm: ∀v s,s.plain=oA->Rep w K D v s->Rep w K' (λ_=>none) v s)(hK: ∀b,K b<=K' b)(h0: ∀j v,Rep w K D v (.vc j)->Rep w K' (λ_=>none) v (SV.fzA H<|.vc j)) {v:Value} (h:Rep w K D v s):
    Rep w K' (λ_=>none) v (SV.fzA H s):=by
  induction h with
  |undef v=>exact .undef _
  |bool b=>exact .bool _
  |int k n=>exact .int _ _
  |str sb=>exact .str _
  |nl a=>exact .nl _
  |emp k a cap=>exact .emp _ _ _
  |lst k b off len cap vs cs hk hl hc hcap hmm hK h1 hp h _=>exact hm _ (.lst len k cs) rfl (.lst k b off len cap vs cs hk hl hc hcap hmm hK h1 hp h)
  |ep b off vs cs hc hmm hKb h1 hp h _=>
    exact .ep b off vs cs hc hmm (aF hKb<|hK b) h1 hp (λj v c hv hcc=>hm v c (f0c hp hcc)<|h j v c hv hcc)
  |agg vs cs hc h1 _ ih=>
    refine .agg vs _ (by rw[h0X,hc]) h1 λj v c hv hcc=> ?_;rw[o0p]at hcc
    cases hx:cs[j]? with
    |none=>rw[hx]at hcc;cases hcc
    |some x=>rw[hx]at hcc;cases hcc;exact ih j v x hv hx
  |tup vs cs hc _ ih=>
    refine .tup vs _ (by rw[h0X,hc]) λj v c hv hcc=> ?_;rw[o0p]at hcc
    cases hx:cs[j]? with
    |none=>rw[hx]at hcc;cases hcc
    |some x=>rw[hx]at hcc;cases hcc;exact ih j v x hv hx
  |ptr i off b c n hd=>exact .undef _
  |vcn j a hd=>exact h0 _ _ (.vcn _ a hd)
  |vc j b c n hd=>exact h0 _ _ (.vc _ b c n hd)
  |sl i off n k b c m' cap hd hn=>exact .undef _
  |mp i r c n hd=>exact .undef _
  |fn q fs caps gs dcs hc hd _ _ ih ih'=>
    refine .fn q fs caps _ _ (by rw[h0X,hc]) (by rw[h0X,hd]) (λj v c hv hcc=> ?_) λj v c hv hcc=> ?_;rw[o0p]at hcc
    cases hx:gs[j]? with
    |none=>rw[hx]at hcc;cases hcc
    |some x=>rw[hx]at hcc;cases hcc;exact ih j v x hv hx
    rw[o0p]at hcc
    cases hx:dcs[j]? with
    |none=>rw[hx]at hcc;cases hcc
    |some x=>rw[hx]at hcc;cases hcc;exact ih' j v x hv hx
  |nilp=>exact .nilp
  |yld i l c n hd=>exact .undef _
open Classical in
theorem SC.lend (hv:q0c v=oA)(h:SC P f (SV.fzAL H0 args0) [] v []):SC P f args0 H0 v H0:=by
  refine⟨h.1,λw K D vals hlen hr hi hG=> ?_⟩
  -- all blocks of lists are settled for as long as the call P0w
  have hmem: ∀b,Mem D H0 b->b<w.heap.size/\K b=0:=λb hm=>k0v hi hm
  let size (b:Nat):Nat:=match w.heap[b]? with
    |some (.cells c _ _)=>c.size
    |_=>0
  let K1:Nat->Nat:=λb=>if Mem D H0 b then size b else K b
  have hK1: ∀b,K b<=K1 b:=λb=>by
    show K b<=if Mem D H0 b then size b else K b
    split;rename_i hm;rw[(hmem b hm).2];exact bk _;exact aj _
  have hplain: ∀v s,s.plain=oA->Rep w K D v s->Rep w K1 (λ_=>none) v s:=λv s hp hr=>(hr.mono (K':=K1) (D':=D) (λ_ _ _=>rfl) hK1 λ_ _ e=>e).plain hp
  have hvec: ∀j x,Rep w K D x (.vc j)->Rep w K1 (λ_=>none) x (SV.fzA H0<|.vc j):=by
    intro j x hx;simp only[SV.fzA];split;rename_i n k e cs hj;obtain⟨hp,hent⟩:=hi.ent j _ hj;rcases hent with⟨h1,h2,h3⟩|⟨b,c,vs,rest,h1,h2,h3,h4,h5,h6,h7,h8,h9⟩;subst h2;subst h3
    cases hx with
    |vcn _ ad hd=>exact .emp _ _ _
    |vc _ b c n hd=>rw[h1]at hd;cases hd
    cases hx with
    |vcn _ ad hd=>rw[h1]at hd;cases hd
    |vc _ b' c' n' hd=>
      rw[h1]at hd;cases hd;have hrow:=g0t h6 h9
      have hKb:K1 b=(vs++rest).length:=by
        show(if Mem D H0 b then size b else K b)=_;rw[wB ⟨j,_,c,n,hj,rfl,h1⟩];show(match w.heap[b]? with|some (.cells c _ _)=>c.size|_=>0)=_;rw[h6];simp
      exact .lst k b 0 n c vs cs h3 h7 h9.len h4 hrow.mem (by rw[hKb,ay];omega) h9.one hp (λj v c hv hc=>hplain _ _ (f0c hp hc)<|h9.rep j v c hv hc)
    exact .undef _
  have hi1:HInv w K1 (λ_=>none) []:=⟨λ_ _=>rfl,λi en hj=>by simp at hj,λi j en en' b c n c' n' hj=>by simp at hj,λb hb=>by
    by_cases hm:Mem D H0 b;exact(hmem b hm).1
    exact hi.kw b<|by simpa [K1,hm]using hb⟩
  refine(h.2 w K1 (λ_=>none) vals (by rw[hlen,h0X]) (λj x c hx hc=>by
    rw[o0p]at hc
    cases hy:args0[j]? with
    |none=>rw[hy]at hc;cases hc
    |some y=>rw[hy]at hc;cases hc;exact J0H hplain hK1 hvec<|hr j x y hx hy) hi1<|j0f λg cs hg=>(hG g cs hg).mono (K':=K1) (D':=D) (λ_ _ _=>rfl) hK1 λ_ _ e=>e).mono ?_
  rintro e w' ⟨r,he,K1',D1',g,hi',hrep⟩;have nomem: ∀b,¬Mem (λ_=>none) [] b:=by rintro b ⟨i,en,c,n,h1,_⟩;simp at h1
  let K':Nat->Nat:=λb=>if Mem D H0 b then 0 else K1' b
  have hKK: ∀b,K b<=K' b:=λb=>by
    show K b<=if Mem D H0 b then 0 else K1' b
    split;rename_i hm;rw[(hmem b hm).2];exact aj _;exact aF (hK1 b) (g.le b)
  have hcells: ∀b j,j<K b->w'.cell? ⟨b,j,none⟩=w.cell? ⟨b,j,none⟩:=λb j hj=>g.cells b j (be hj<|hK1 b)
  have hrr: ∀v s,Rep w K D v s->Rep w' K' D v s:=λv s hr=>hr.mono hcells hKK (λ_ _ e=>e)
  refine⟨r,he,K',D,⟨g.os,g.tape,g.output,g.size,λb hb _=>g.block b hb<|nomem b,hcells,hKK,λb hb hm=> ?_,λ_ _ e=>e,λb hm=> .inl hm⟩,
    ⟨hi.dom,λi en hie=>(hi.ent i en hie).keep hrr rfl λb c n hl hd=> ?_,hi.inj,λb hb=> ?_⟩,B0I hv hrep⟩
  show(if Mem D H0 b then 0 else K1' b)=K b;rw[vB hm,g.kk b hb<|nomem b];show(if Mem D H0 b then size b else K b)=K b;rw[vB hm]
  have hm:Mem D H0 b:=⟨i,en,c,n,hie,hl,hd⟩
  refine⟨g.block b (hmem b hm).1<|nomem b, ?_⟩;show(if Mem D H0 b then 0 else K1' b)=K b;rw[wB hm,(hmem b hm).2];by_cases hm:Mem D H0 b;exact be (hmem b hm).1 g.size;exact hi'.kw b (by simpa [K',hm]using hb)
def inR(j:Int)(n:Nat):Bool:=vA (0<=j)&&vA (j<n)
def inS(l h:Int)(n:Nat):Bool:=vA (0<=l)&&(vA (l<=h)&&vA (h<=n))
def room(n:Nat):Bool:=vC n 4294967296
def o0D(n:Nat):Bool:=vC n 140737488400000
def B0C(P:Program)(e:TypeId)(n:Nat):Bool:=bif o0t P e then o0D n else room n
def nz(y:Int):Bool:= !vA (y=0)
def sh(y:Int):Bool:= !vA (y<0)
def mk(l c:Int):Bool:=vA (0<=l)&&(vA (l<=c)&&vA (c<=4294967296))
def g0g :inR j n=oA↔0<=j/\j<n:=by simp[inR]
def n0z :inS l h n=oA↔0<=l/\l<=h/\h<=n:=by simp[inS]
def A0r :room n=oA↔C0E n:=by simp[room,C0E,cq]
def a0A (h:room n=oA):o0D n=true:=by
  simp only[room,o0D,cq]at*;omega
def s0u {e:TypeId} (h:B0C P e n=oA):RoomE P e n:=by
  unfold B0C at h;unfold RoomE
  cases hb:o0t P e with
  |true=>rw[hb]at h;simp only[o0D,jC,cq]at h;exact .inr ⟨rfl,h⟩
  |false=>rw[hb]at h;exact .inl<|A0r.1 h
def A0G {y:Int} :nz y=oA↔y≠0:=by simp[nz]
def I0c {y:Int} :sh y=oA↔0<=y:=by simp[sh]
def I0p {c:Int} :mk l c=oA↔0<=l/\l<=c/\c<=4294967296:=by simp[mk]
def z0V(P:Program)(c:Call)(ρ:Env)(H:a0f)(idx:Nat):Option (Eff×Bool):=
  match c.args.toList,c.argTypes.toList with
  | [x,y],[t,tx]=>match P.underlying t,a0C ρ x,a0C ρ y with
    |some (.slice e),wA .nl,wA sy=>match B0w P e (P.cellsOf e) tx sy H with
      |some (m,cs2,rd)=>if i0x P e (P.cellsOf e)=oA then wA (⟨.vc idx,rd,[(idx, .vec m (P.cellsOf e) e cs2)]⟩,M0j sy&&B0C P e m)else none
      |none=>none
    |some (.slice e),wA (.vc i),wA sy=>match H[i]? with
      |some (.vec n k e' cs)=>match B0w P e k tx sy H with
        |some (m,cs2,rd)=>if e=e'/\i0x P e k=oA then wA (⟨.vc idx,i::rd,[(i, .gone),(idx, .vec (n+m) k e<|cs++cs2)]⟩,M0j sy&&B0C P e (n+m))else none
        |none=>none
      |_=>none
    |_,_,_=>none
  |_,_=>none
theorem w0F {c:Call} {H:a0f} {idx:Nat} (h:z0V P c ρ H idx=wA (ef,b))(hb:b=oA):n0Y P c ρ H idx=wA ef:=by
  unfold z0V at h;unfold n0Y;split at h;rename_i x y t tx hx hy;rw[hx,hy];simp only;split at h;rename_i e sy h1 h2 h3;rw[h1,h2,h3];simp only;split at h;rename_i m cs2 rd h4;rw[h4];simp only;split at h;rename_i h5;cases h;rw[wB ⟨h5,(bN.1 hb).1,s0u (bN.1 hb).2⟩];cases h;cases h;rename_i e i sy h1 h2 h3;rw[h1,h2,h3];simp only;split at h;rename_i n k e' cs h4;rw[h4];simp only;split at h;rename_i m cs2 rd h6;rw[h6];simp only;split at h;rename_i h5;cases h;rw[wB ⟨h5.1,h5.2,(bN.1 hb).1,s0u (bN.1 hb).2⟩];cases h;cases h;cases h;cases h;cases h
def E0M(P:Program)(t:TypeId)(sx sj:SV)(H:a0f):Option (Eff×Bool):=
  match P.underlying t,sx,sj with
  |some (.slice e), .lst n k cs, .int _ j=>if k=P.cellsOf e/\0<k then wA (⟨.ep<|(cs.drop<|j.toNat*k).take k,[],[]⟩,inR j n)else none
  |some (.slice e), .vc i, .int _ j=>match H[i]? with
    |some (.vec n k _ _)=>if k=P.cellsOf e/\0<k then wA (⟨.ptr i<|j.toNat*k,[i],[]⟩,inR j n)else none
    |_=>none
  |some (.slice e), .sl b off n k, .int _ j=>if k=P.cellsOf e/\0<k then wA (⟨.ptr b<|off+j.toNat*k,[],[]⟩,inR j n)else none
  |some (.array len e), .ptr b off, .int _ j=>if 0<P.cellsOf e then wA (⟨.ptr b<|off+j.toNat*P.cellsOf e,[],[]⟩,inR j len)else none
  |some (.array len e), .ep cs, .int _ j=>if 0<P.cellsOf e/\len*P.cellsOf e<=cs.length then wA (⟨.ep<|(cs.drop<|j.toNat*P.cellsOf e).take<|P.cellsOf e,[],[]⟩,inR j len)else none
  |_,_,_=>none
theorem y0d {H:a0f} {idx:Nat} {sx sj:SV} (ho:o.op= .indexAddr t x y)(hx:a0C ρ x=wA sx)(hy:a0C ρ y=wA sj)(h:E0M P t sx sj H=wA (ef,b))(hb:b=oA):a0E P o ρ H idx=wA ef:=by
  unfold E0M at h;unfold a0E a0k a0o;simp only[ho,hx,hy];split at h;rename_i e n k cs k' j hu;rw[hu];simp only;split at h;rename_i hk;cases h;have:=g0g.1 hb;rw[wB hk.1];unfold O0N;rw[wB ⟨hk.2,this⟩];cases h;rename_i e i k' j hu;rw[hu];simp only;split at h;rename_i n k e2 cs hH;rw[hH];simp only;split at h;rename_i hk;cases h;have:=g0g.1 hb;rw[wB ⟨hk.1,hk.2,this⟩];cases h;cases h;rename_i e bb off n k k' j hu;rw[hu];simp only;split at h;rename_i hk;cases h;have:=g0g.1 hb;rw[wB ⟨hk.1,hk.2,this⟩];cases h;rename_i len e bb off k' j hu;rw[hu];simp only;split at h;rename_i hk;cases h;have:=g0g.1 hb;rw[wB ⟨this.1,this.2,hk⟩];cases h;rename_i len e cs k' j hu;rw[hu];simp only;split at h;rename_i hk;cases h;have hj:=g0g.1 hb;have:(j.toNat+1)*P.cellsOf e<=cs.length:=aF (aJ _ dA) hk.2;rw[wB ⟨hj.1,hj.2,this,hk.1⟩];cases h;cases h
def D0m(P:Program)(t:TypeId)(sx:SV)(ρ:Env)(lo hi:Option Operand):Option (Eff×Bool):=
  match P.underlying t,sx with
  |some (.slice e), .lst n k cs=>match i0D ρ lo 0,i0D ρ hi (n:Int)with
    |some l,wA h=>if k=P.cellsOf e/\0<k then wA (⟨.lst (h.toNat-l.toNat) k<|(cs.take<|h.toNat*k).drop<|l.toNat*k,[],[]⟩,inS l h n)else none
    |_,_=>none
  |some .string, .str s=>match i0D ρ lo 0,i0D ρ hi (s.length:Int)with
    |some l,wA h=>wA (⟨.str<|(s.take h.toNat).drop l.toNat,[],[]⟩,inS l h s.length)
    |_,_=>none
  |_,_=>none
theorem x0c {lo hi:Option Operand} {H:a0f} {idx:Nat} {sx:SV} (ho:o.op= .slice t x lo hi none)(hx:a0C ρ x=wA sx)(h:D0m P t sx ρ lo hi=wA (ef,b))(hb:b=oA):a0E P o ρ H idx=wA ef:=by
  unfold D0m at h;unfold a0E a0k;simp only[ho,hx];split at h;rename_i e n k cs hu;rw[hu];simp only;split at h;rename_i l hh h1 h2;rw[h1,h2];simp only;split at h;rename_i hk;cases h;have:=n0z.1 hb;rw[wB hk.1];unfold D0n;rw[wB ⟨hk.2,this⟩];cases h;cases h;rename_i s hu;rw[hu];simp only;split at h;rename_i l hh h1 h2;rw[h1,h2];simp only;cases h;have:=n0z.1 hb;rw[wB ⟨this.1,this.2.1,dA⟩];cases h;cases h
def P0c(op:BinOp)(a b:SV):Option (SV×Bool):=
  match op,a,b with
  | .quo, .int k x, .int k' y=>if k=k' then wA (.int k<|k.wrap<|x.tdiv y,nz y)else none
  | .rem, .int k x, .int k' y=>if k=k' then wA (.int k<|x.tmod y,nz y)else none
  | .shl, .int k x, .int _ y=>wA (.int k<|k.wrap<|x*2^(min y.toNat k.bits),sh y)
  | .shr, .int k x, .int _ y=>wA (.int k<|x.fdiv<|2^(min y.toNat k.bits),sh y)
  | .add, .str s, .str t=>wA (.str<|s++t,room<|s.length+t.length)
  |_,_,_=>none
def C0p {bt:Bool} {op:BinOp} {a b:SV} {c:Bool} (h:P0c op a b=wA (v,c))(hc:c=oA):k0k bt op a b=wA v:=by
  unfold P0c at h;split at h;split at h;rename_i hk;cases h;simp only[k0k];rw[wB hk,vB<|A0G.1 hc];cases h;split at h;rename_i hk;cases h;simp only[k0k];rw[wB hk,vB<|A0G.1 hc];cases h;cases h;simp only[k0k];rw[vB<|by have:=I0c.1 hc;omega];cases h;simp only[k0k];rw[vB<|by have:=I0c.1 hc;omega];cases h;simp only[k0k];rw[wB<|A0r.1 hc];cases h
def O0p(P:Program)(t:TypeId):Bool:=match P.underlying t with
  |some (.int _)=>oA
  |some .bool=>oA
  |some .string=>oA
  |some (.slice _)=>oA
  |_=>yA
def v0Y(P:Program)(o:Oper)(ρ:Env)(H:a0f)(idx:Nat):Option (Eff×Bool):=
  match o.op with
  | .indexAddr t x y=>match a0C ρ x,a0C ρ y with
    |some sx,wA sj=>E0M P t sx sj H
    |_,_=>none
  | .slice t x lo hi none=>match a0C ρ x with
    |some sx=>D0m P t sx ρ lo hi
    |none=>none
  | .index t x i=>match P.underlying t,a0C ρ x,a0C ρ i with
    |some .string,wA (.str s),wA (.int _ j)=>wA (⟨.int .u8 (s.getD j.toNat 0).toNat,[],[]⟩,inR j s.length)
    |some (.array n e),wA (.agg cs),wA (.int _ j)=>bif O0p P e&&(yB (P.cellsOf e) 1&&vC n cs.length)then wA (⟨(cs.drop<|j.toNat*1).headD .undef,[],[]⟩,inR j n)else none
    |_,_,_=>none
  | .binOp op t x y _=>match a0C ρ x,a0C ρ y with
    |some a,wA b=>match P0c op a b with
      |some (v,c)=>wA (⟨v,[],[]⟩,c)
      |none=>none
    |_,_=>none
  | .makeSlice t x y=>match P.underlying t,a0C ρ x,a0C ρ y with
    |some (.slice e),wA (.int _ l),wA (.int _ c)=>match r0W P e with
      |some zs=>if i0x P e (P.cellsOf e)=oA/\a0Q zs=oA then wA (⟨.vc idx,[],[(idx, .vec l.toNat (P.cellsOf e) e (yC l.toNat zs).flatten)]⟩,mk l c)else none
      |none=>none
    |_,_,_=>none
  | .load t x=>match a0C ρ x with
    |some (.ptr i off)=>match H[i]? with
      |some (.vec n k e cs)=>match P.underlying t with
        |some (.int _)=>wA (⟨(cs.drop off).headD .undef,[i],[]⟩,yD off cs.length)
        |some .bool=>wA (⟨(cs.drop off).headD .undef,[i],[]⟩,yD off cs.length)
        |some .string=>wA (⟨(cs.drop off).headD .undef,[i],[]⟩,yD off cs.length)
        |some (.slice _)=>wA (⟨(cs.drop off).headD .undef,[i],[]⟩,yD off cs.length)
        |_=>none
      |_=>none
    |_=>none
  | .store t x y=>match a0C ρ x,(a0C ρ y).bind SV.cells? with
    |some (.ptr i off),wA ps=>match H[i]? with
      |some (.vec n k e cs)=>if ps.length=P.cellsOf t/\0<ps.length/\a0Q ps=oA then wA (⟨.undef,[i],[(i, .vec n k e<|splice cs off ps)]⟩,vC (off+ps.length) cs.length)else none
      |_=>none
    |_,_=>none
  | .convert src dst x=>match P.underlying src,P.underlying dst,a0C ρ x with
    |some .string,wA (.slice e),wA (.str s)=>match P.underlying e with
      |some (.int .u8)=>wA (⟨.lst s.length 1<|s.map l0n,[],[]⟩,oA)
      |some (.int .i32)=>wA (⟨.lst (f0x s).length 1<|(f0x s).map x0g,[],[]⟩,oA)
      |_=>none
    |some (.slice e),wA .string,wA s=>match P.underlying e,w0L 1 s H with
      |some (.int .u8),wA (_,cs,rd)=>if i0W P src s=oA then wA (⟨.str<|cs.map byteOf,rd,[]⟩,cs.all p0e)else none
      |some (.int .i32),wA (_,cs,rd)=>if i0W P src s=oA then wA (⟨.str<|cs.flatMap x0h,rd,[]⟩,cs.all p0F)else none
      |_,_=>none
    |_,_,_=>none
  | .call c=>match c.callee with
    | .builtin .append=>z0V P c ρ H idx
    | .builtin .copy=>match F0u P c ρ H with
      |some ef=>wA (ef,oA)
      |none=>none
    |_=>none
  |_=>none
theorem q0A {H:a0f} {idx:Nat} (h:v0Y P o ρ H idx=wA (ef,b))(hb:b=oA):a0E P o ρ H idx=wA ef:=by
  unfold v0Y at h;split at h;rename_i t x y ho;split at h;rename_i sx sj h1 h2;exact y0d ho h1 h2 h hb;cases h;rename_i t x lo hi ho;split at h;rename_i sx h1;exact x0c ho h1 h hb
  cases h
  · rename_i t x i ho
    split at h;rename_i s k j h1 h2 h3;cases h;obtain⟨q1,q2⟩:=g0g.1 hb;unfold a0E a0k;simp only[ho,h1,h2,h3];rw[wB q1];have hl:j.toNat<s.length:=by omega
    rw[af hl];simp only[am,af hl,bp]
    · rename_i n e cs k j h1 h2 h3
      cases h4:(O0p P e&&(yB (P.cellsOf e) 1&&vC n cs.length))with
      |false=>rw[h4]at h;cases h
      |true=>
        rw[h4]at h;simp only[jC,ai,aG]at h;obtain⟨rfl,rfl⟩:=h;simp only[aa]at h4;obtain⟨p1,p2,p3⟩:=h4;have p2:=ae p2;have p3:=ag p3;obtain⟨q1,q2⟩:=g0g.1 hb;unfold a0E a0k;simp only[ho,h1,h2,h3];rw[wB ⟨q1,q2⟩,p2];have hl:j.toNat*1<cs.length:=by omega
        rw[bV hl];unfold O0p at p1;simp only[b0t,List.headD];split at p1<;>first|(rename_i hu;simp only[hu];done)|(rename_i hu;simp only[hu];rfl)|cases p1
    cases h
  rename_i op t x y tt ho;split at h;rename_i a b' h1 h2;split at h;rename_i v c h3;cases h;unfold a0E a0k;simp only[ho,h1,h2,C0p h3 hb];cases h;cases h;rename_i t x y ho;split at h;rename_i e k1 l k2 c h1 h2 h3;split at h;rename_i zs h4;split at h;rename_i h5;cases h;obtain⟨q1,q2,q3⟩:=I0p.1 hb;unfold a0E a0k a0o;simp only[ho,h1,h2,h3,h4];rw[wB ⟨h5.1,q1,q2,q3,h5.2⟩];cases h;cases h
  cases h
  · rename_i t x ho
    split at h
    · rename_i i off h1
      split at h
      · rename_i n k e cs h2
        have fin: ∀(ut:_),P.underlying t=wA ut->(∀f,ut≠ .struct f)->(∀m e,ut≠ .array m e)->yD off cs.length=oA->a0E P o ρ H idx=wA ⟨(cs.drop off).headD .undef,[i],[]⟩:=by
          intro ut hu hn1 hn2 hlt;unfold a0E a0k a0o;simp only[ho,h1,h2,ah,b0L];have hl:off<cs.length:=bE (ag<|by simpa [yD]using hlt);rw[bV hl]
          have hcv:b0t P t (cs[off]::cs.drop (off+1))=wA cs[off]:=by
            unfold b0t;rw[hu];cases ut<;>first|rfl|exact absurd rfl (hn1 _)|exact absurd rfl (hn2 _ _)
          rw[hcv];rfl
        split at h;rename_i hu;cases h;exact fin _ hu (λ_=>dE) (λ_ _=>dE) hb;rename_i hu;cases h;exact fin _ hu (λ_=>dE) (λ_ _=>dE) hb;rename_i hu;cases h;exact fin _ hu (λ_=>dE) (λ_ _=>dE) hb;rename_i hu;cases h;exact fin _ hu (λ_=>dE) (λ_ _=>dE) hb;cases h
      cases h
    cases h
  rename_i t x y ho;split at h;rename_i i off ps h1 h2;split at h;rename_i n k e cs h3;split at h;rename_i h4;cases h;have hle:off+ps.length<=cs.length:=ag hb;unfold a0E a0k a0o;simp only[ho,h1,h2,h3,b0L];rw[wB ⟨h4.1,h4.2.1,hle,λ_=>h4.2.2⟩];rfl;cases h;cases h;cases h;rename_i src dst x ho;split at h;rename_i e s h1 h2 h3;split at h;rename_i he;cases h;unfold a0E a0k a0o;simp only[ho,h1,h2,h3,he,t0X];rename_i he;cases h;unfold a0E a0k a0o;simp only[ho,h1,h2,h3,he,t0X];cases h;rename_i e s h1 h2 h3;split at h;rename_i m cs rd he hsc;split at h;rename_i hty;cases h;unfold a0E a0k a0o;simp only[ho,h1,h2,h3,he,hsc,t0X];rw[wB ⟨hty,hb⟩];cases h;rename_i m cs rd he hsc;split at h;rename_i hty;cases h;unfold a0E a0k a0o;simp only[ho,h1,h2,h3,he,hsc,t0X];rw[wB ⟨hty,hb⟩];cases h;cases h;cases h;rename_i c ho;split at h;rename_i hc;unfold a0E a0k a0o;simp only[ho,hc,z0Q];exact w0F h hb;rename_i hc;split at h;rename_i ef2 he;cases h;unfold a0E a0k a0o;simp only[ho,hc,z0Q];exact he;cases h;cases h;cases h
section
variable {F : Fr} {P : Program} {L : LE} {H : a0f} {Q : f0Z} {m : Option Nat} {ops : Array Oper} {p : Nat} {tr : List (List Nat × List Nat)}
def u0s(P:Program)(m:Option Nat)(ops:Array Oper)(p:Nat)(tr:List<|List Nat×List Nat)(L:LE)(H:a0f):Option (Option Nat×Eff×Bool×List (List Nat×List Nat)):=
  match ops.toList[p]? with
  |none=>none
  |some o=>match a0Y ops (a0p L) o with
    |some oA=>bif b0S o then none else match v0Y P o (a0p L) H (I0y m ops p H)with
      |some (ef,c)=>bif okM m ops p o ef tr H then wA (o.dst,ef,c,trM m ops p o ef tr)else none
      |none=>none
    |_=>none
theorem RJ.rel {c:Bool} (h:u0s P m ops p tr L H=wA (d,ef,c,tr2))(hc:c=oA)(hn:c=oA->ef=ef')(hH:b0a H ef'.wr=H2)(k:RJ F P m ops (p+1) tr2 (g0e L d ef'.v) H2 Q):RJ F P m ops p tr L H Q:=by
  unfold u0s at h;have hn':=hn hc;subst hn';subst hH;split at h;cases h;rename_i o ho;split at h;rename_i hg
  cases hcc:b0S o with
  |true=>rw[hcc]at h;cases h
  |false=>
    rw[hcc]at h;simp only[wD]at h;split at h;rename_i ef2 c2 he
    cases hok:okM m ops p o ef2 tr H with
    |false=>rw[hok]at h;cases h
    |true=>
      rw[hok]at h;simp only[jC,ai,aG]at h;obtain⟨rfl,rfl,rfl,rfl⟩:=h;exact RJ.step ho hg hcc (q0A he hc) hok k
    cases h
  cases h
def v0X(P:Program)(o:Oper)(ρ:Env)(H:a0f)(idx:Nat):Option (Eff×Bool):=
  match v0Y P o ρ H idx with
  |some r=>wA r
  |none=>(a0E P o ρ H idx).map λef=>(ef,oA)
theorem u0v {P:Program} {H:a0f} {idx:Nat} (h:v0X P o ρ H idx=wA (ef,b))(hb:b=oA):a0E P o ρ H idx=wA ef:=by
  unfold v0X at h;split at h;rename_i r hr;cases h;exact q0A hr hb
  cases he:a0E P o ρ H idx with
  |none=>rw[he]at h;cases h
  |some e=>rw[he]at h;cases h;rfl
def I0j(P:Program)(base:Nat)(ops:Array Oper)(p:Nat)(tr:List<|List Nat×List Nat)(L:LE)(H:a0f):Option (Option Nat×Eff×Bool×List (List Nat×List Nat)):=
  match ops.toList[p]? with
  |none=>none
  |some o=>match a0Y ops (a0p L) o with
    |some oA=>bif b0S o then none else bif d0l o then(match v0X P o (a0p L) H (f0E ops base p)with
      |some (ef,c)=>match t0N ef (f0E ops base p) H with
        |some efz=>bif okM (wA base) ops p o efz tr H then wA (o.dst,efz,c,trM (wA base) ops p o efz tr)else none
        |none=>none
      |none=>none)else none
    |_=>none
theorem RJ.relZ {c:Bool} (h:I0j P base ops p tr L H=wA (d,ef,c,tr2))(hc:c=oA)(hn:c=oA->ef=ef')(hH:b0a H ef'.wr=H2)(k:RJ F P (wA base) ops (p+1) tr2 (g0e L d ef'.v) H2 Q):RJ F P (wA base) ops p tr L H Q:=by
  unfold I0j at h;have hn':=hn hc;subst hn';subst hH;split at h;cases h;rename_i o ho;split at h;rename_i hg
  cases hcc:b0S o with
  |true=>rw[hcc]at h;cases h
  |false=>
    rw[hcc]at h
    cases hcr:d0l o with
    |false=>rw[hcr]at h;cases h
    |true=>
      rw[hcr]at h;simp only[wD,jC]at h;split at h;rename_i ef2 c2 he;split at h;rename_i efz hz
      cases hok:okM (wA base) ops p o efz tr H with
      |false=>rw[hok]at h;cases h
      |true=>
        rw[hok]at h;simp only[jC,ai,aG]at h;obtain⟨rfl,rfl,rfl,rfl⟩:=h;intro hl;rw[e0h ho];simp only[okM,aa,bJ,jD]at hok;obtain⟨⟨k1,k2⟩,k3⟩:=hok;have k3': ∀x∈efz.wr,x.1<H.length:=λx hx=>bE (ag<|by simpa [yD]using k3 x hx)
        subst hl;refine⟨efz, ?_,k1, ?_⟩;unfold opD;rw[hg];simp only;rw[hcc,vB dE];refine⟨.inr<|.inl ⟨?_,hcr⟩,λ_=> ?_,k3'⟩;unfold n0q;rw[u0v he hc];exact hz;rcases k2 with k2|k2;rw[hcr]at k2;cases k2;unfold q0G at k2;split at k2
        assumption
        cases k2;have:=k (by simp[trM]);rw[<-n0X _ _ k3',b0b];exact this
      cases h;cases h
  cases h
/-! Cuts. -/
def a0j (k:S->Option X):S⊕X->Option X
  | .inl s=>k s
  | .inr x=>wA x
def a0W {m:Option α} {k:α->Option β} {r:β} (h:m.bind k=wA r): ∃y,m=wA y/\k y=wA r:=by
  cases m with
  |none=>cases h
  |some y=>exact⟨y,rfl,h⟩
def condT {x y:α} {r:α} (hb:b=oA)(h:(bif b then x else y)=r):x=r:=by subst hb;exact h
def condF {x y:α} {r:α} (hb:b=yA)(h:(bif b then x else y)=r):y=r:=by subst hb;exact h
def g0c {x:Option α} {r:α} (h:(bif b then x else none)=wA r):b=oA/\x=wA r:=by
  cases b with
  |true=>exact⟨rfl,h⟩
  |false=>cases h
def cutN (F:Fr)(R:S->LE×a0f)(st:S):f0Z:=λe a w=>e= .normal/\Sees F (R st).1 (R st).2 a w
def cutX (F:Fr)(R:S->LE×a0f)(Q:f0Z)(x:S⊕X):f0Z:=λe a w=>match x with
  | .inl st=>e= .normal/\Sees F (R st).1 (R st).2 a w
  | .inr _=>e≠ .normal/\Q e a w
theorem J.cutN (R:S->LE×a0f)(st:S)(h1:J F P c1 L H<|cutN F R st)(h2:J F P c2 (R st).1 (R st).2 Q):J F P (.seq c1 c2) L H Q:=λhin a w hs=>by
  simp only[b0p,aa]at hin;refine wp_seq<|jJ (λe a' w' hq=> ?_)<|h1 hin.1 a w hs;obtain⟨rfl,hq⟩:=hq;exact h2 hin.2 a' w' hq
theorem J.cutX (R:S->LE×a0f)(x:S⊕X)(h1:J F P c1 L H<|cutX F R Q x)(h2: ∀st,x= .inl st->J F P c2 (R st).1 (R st).2 Q):J F P (.seq c1 c2) L H Q:=λhin a w hs=>by
  simp only[b0p,aa]at hin;refine wp_seq (jJ (λe a' w' hq=> ?_)<|h1 hin.1 a w hs)
  cases x with
  |inl st=>
    obtain⟨rfl,hq⟩:=hq;exact h2 st rfl hin.2 a' w' hq
  |inr r=>
    obtain⟨hne,hq⟩:=hq;cases e<;>first|exact absurd rfl hne|exact hq
theorem PJ.cutN {R:S->LE×a0f} {st:S} (ts:List Nat)(hL:g0s ts L=(R st).1)(hH:H=(R st).2):PJ F (cutN F R st) .normal L H:=λa w hs=>by
  subst hH;exact⟨rfl,by rw[<-hL];exact hs.keep<|k0L ts L⟩
theorem PJ.cutXl {R:S->LE×a0f} {st:S} (ts:List Nat)(hL:g0s ts L=(R st).1)(hH:H=(R st).2):PJ F (cutX (X:=X) F R Q<|.inl st) .normal L H:=λa w hs=>by
  subst hH;exact⟨rfl,by rw[<-hL];exact hs.keep<|k0L ts L⟩
theorem PJ.cutXr {R:S->LE×a0f} {x:X} (hne:e≠ .normal)(h:PJ F Q e L H):PJ F (cutX F R Q (.inr x:S⊕X)) e L H:=λa w hs=>⟨hne,h a w hs⟩
def p0D (F:Fr)(R:S->LE×a0f)(Q:f0Z)(o:O)(x:S⊕O):f0Z:=λe a w=>match x with
  | .inl s'=>e= .normal/\Sees F (R s').1 (R s').2 a w
  | .inr o'=>e≠ .normal/\(o'=o->Q e a w)
def J.loopR {step:S->Option (S⊕O)} {s0:S} {o:O} (R:S->LE×a0f)(ho:a0m step n s0=wA o)(ts:List Nat)(hL:g0s ts L=(R s0).1)(hH:H=(R s0).2)
    (body: ∀s x,step s=wA x->J F P c (R s).1 (R s).2 (p0D F R Q o x)):J F P (.loop c) L H Q:=
  J.keep ts hL (J.loop R ho rfl hH body)
theorem PJ.loopNext {R:S->LE×a0f} {o:O} {s':S} (ts:List Nat)(hL:g0s ts L=(R s').1)(hH:H=(R s').2):PJ F (p0D F R Q o<|.inl s') .normal L H:=λa w hs=>by
  subst hH;exact⟨rfl,by rw[<-hL];exact hs.keep<|k0L ts L⟩
theorem PJ.loopOut {R:S->LE×a0f} {o o':O} (hne:e≠ .normal)(h:o'=o->PJ F Q e L H):PJ F (p0D F R Q o<|.inr o') e L H:=λa w hs=>⟨hne,λhe=>h he a w hs⟩
def h0D(m:Option Nat)(ops:Array Oper)(p:Nat)(tr:List<|List Nat×List Nat)(L:LE)(rd:List Nat)(wr:List (Nat×Ent):=[]):Option (Option Nat×FuncId×List SV×List (List Nat×List Nat)):=
  match ops.toList[p]? with
  |none=>none
  |some o=>match a0Y ops (a0p L) o with
    |some oA=>match g0v (a0p L) o with
      |some (f,args)=>bif(match m with|none=>oA|some base=>m0s o (h0x o ⟨.undef,rd,wr⟩) (g0A ops base p o ⟨.undef,rd,wr⟩) tr 0)then wA (o.dst,f,args,trM m ops p o ⟨.undef,rd,wr⟩ tr)else none
      |none=>none
    |_=>none
def e0i {wr:List (Nat×Ent)} (h:h0D m ops p tr L rd wr=wA (d,f,args,tr2)):
    ∃o,ops.toList[p]?=wA o/\a0Y ops (a0p L) o=wA oA/\g0v (a0p L) o=wA (f,args)/\o.dst=d/\trM m ops p o ⟨.undef,rd,wr⟩ tr=tr2/\(∀base,m=wA base->m0s o (h0x o ⟨.undef,rd,wr⟩) (g0A ops base p o ⟨.undef,rd,wr⟩) tr 0=oA):=by
  unfold h0D at h;split at h;cases h;rename_i o ho;split at h;rename_i hg;split at h;rename_i f2 args2 hc
  cases hk:(match m with|none=>oA|some base=>m0s o (h0x o ⟨.undef,rd,wr⟩) (g0A ops base p o ⟨.undef,rd,wr⟩) tr 0)with
  |false=>rw[hk]at h;cases h
  |true=>
    rw[hk]at h;simp only[jC,ai,aG]at h;obtain⟨rfl,rfl,rfl,rfl⟩:=h;exact⟨o,ho,hg,hc,rfl,rfl,λbase hb=>by subst hb;exact hk⟩
  cases h;cases h
def v0r {wr:List (Nat×Ent)} :trM m ops p o ⟨v,rd,wr⟩ tr=trM m ops p o ⟨.undef,rd,wr⟩ tr:=by cases m<;>rfl
mutual
def y0Y {m:Nat} : ∀ {s:SV},SV.refs 0 s=oA->SV.refs m s=oA
  | .agg cs,h=>by simp only[SV.refs]at h⊢;exact q0q h
  | .tup cs,h=>by simp only[SV.refs]at h⊢;exact q0q h
  | .ptr i off,h=>by simp[SV.refs]at h
  | .vc i,h=>by simp[SV.refs]at h
  | .sl i off n k,h=>by simp[SV.refs]at h
  | .mp i,h=>by simp[SV.refs]at h
  | .fn q a b,h=>by simp only[SV.refs,aa]at h⊢;exact⟨q0q h.1,q0q h.2⟩
  | .undef,_=>rfl
  | .bool _,_=>rfl
  | .int _ _,_=>rfl
  | .str _,_=>rfl
  | .nl,_=>rfl
  | .lst _ _ _,_=>rfl
  | .ep _,_=>rfl
  | .nilp,_=>rfl
  | .yld i,h=>by simp[SV.refs]at h
def q0q {m:Nat} : ∀ {cs:List SV},SV.refsL 0 cs=oA->SV.refsL m cs=oA
  | [],_=>rfl
  |c::cs,h=>by simp only[SV.refsL,aa]at h⊢;exact⟨y0Y h.1,q0q h.2⟩
end
theorem Sel.nil {H:a0f} :Sel H g []:=⟨λj en hj=>by simp at hj,λi j hi=>by simp at hi,λj en hj=>by simp at hj⟩
theorem t0l (h:SV.refs 0 s=oA):SV.rn g s=s:=by
  rw[i0Z (f:=g) (g:=λj=>j) (m:=0) (λi hi=>dA) s h,B0E]
theorem A0t {s:List SV} (h:SV.refsL 0 s=oA):SV.rnL g s=s:=by
  rw[i0o (f:=g) (g:=λj=>j) (m:=0) (λi hi=>dA) s h,t0m]
theorem RJ.call0 (h:h0D m ops p tr L []=wA (d,f,args,tr2))(hr:SV.refsL 0 args=oA)(hle:LeL args args')(hs:SC P f args' [] v [])(hv:SV.refs 0 v=oA)
    (k:RJ F P m ops (p+1) tr2 (g0e L d v) H Q):RJ F P m ops p tr L H Q:=by
  obtain⟨o,ho,hg,hc,rfl,rfl,hk⟩:=e0i h;refine RJ.callD (g:=λj=>j) (args0:=args) (H0:=[]) (v0:=v) ho hg hc (by rw[A0t hr]) Sel.nil (λen hm=>by cases hm) hr hv (SC.weak hs hle) hk ?_;rw[t0l hv,bX,List.range_zero,aI,v0r];exact k
theorem RJ.callL {args1:List SV} (σ:List Nat)(h:h0D m ops p tr L σ=wA (d,f,args,tr2))(ha:args=SV.rnL (a0Z σ) args0)(hl:σ.length=H0.length)(hg:σ.map (λi=>H[i]?)=H0.map λen=>wA<|Ent.rn (a0Z σ) en)(hn:σ.Nodup)(hr0:H0.all (Ent.refs H0.length)=oA)
    (hlive:H0.all g0Z=oA) (hr:SV.refsL H0.length args0=oA) (hfz:SV.fzAL H0 args0=args1) (hle:LeL args1 args') (hs:SC P f args' [] v []) (hsc:q0c v=oA) (hv:SV.refs 0 v=oA)
    (k:RJ F P m ops (p+1) tr2 (g0e L d v) H Q):RJ F P m ops p tr L H Q:=by
  obtain⟨o,ho,hgd,hc,rfl,rfl,hk⟩:=e0i h
  have hσ:(oB H0.length).map (a0Z σ)=σ:=by
    apply bD;intro i;rw[ar];by_cases hi:i<H0.length;rw[bu hi];simp only[aV,a0Z,am];rw[af dA];rfl;rw[aA<|by simpa using hi,aA dA];rfl
  have hv':SV.refs H0.length v=true:=y0Y hv;refine RJ.callD (g:=a0Z σ) (args0:=args0) (H0:=H0) (v0:=v) ho hgd hc ha (Sel.of σ hl hg hn hr0) (λen hm=>List.all_eq_true.1 hlive en hm) hr hv' (SC.lend hsc<|by rw[hfz];exact SC.weak hs hle) (λbase hb=> ?_) ?_;rw[hσ,t0l hv];exact hk base hb;rw[t0l hv,hσ,v0r];exact k
theorem RJ.callU (σ:List Nat)(h:h0D m ops p tr L σ=wA (d,f,args,tr2))(ha:args=SV.rnL (a0Z σ) args0)(hl:σ.length=H0.length)(hg:σ.map (λi=>H[i]?)=H0.map λen=>wA<|Ent.rn (a0Z σ) en)(hn:σ.Nodup)(hr0:H0.all (Ent.refs H0.length)=oA)
    (hlive:H0.all g0Z=oA) (hr:SV.refsL H0.length args0=oA) (hle:LeL args0 args') (hs:SC P f args' H0 v H0) (hv:SV.refs 0 v=oA)
    (k:RJ F P m ops (p+1) tr2 (g0e L d v) H Q):RJ F P m ops p tr L H Q:=by
  obtain⟨o,ho,hgd,hc,rfl,rfl,hk⟩:=e0i h
  have hσ:(oB H0.length).map (a0Z σ)=σ:=by
    apply bD;intro i;rw[ar];by_cases hi:i<H0.length;rw[bu hi];simp only[aV,a0Z,am];rw[af dA];rfl;rw[aA<|by simpa using hi,aA dA];rfl
  have hv':SV.refs H0.length v=true:=y0Y hv;refine RJ.callD (g:=a0Z σ) (args0:=args0) (H0:=H0) (v0:=v) ho hgd hc ha (Sel.of σ hl hg hn hr0) (λen hm=>List.all_eq_true.1 hlive en hm) hr hv' (SC.weak hs hle) (λbase hb=> ?_) ?_;rw[hσ,t0l hv];exact hk base hb;rw[t0l hv,hσ,v0r];exact k
theorem RJ.callM (idx:Nat)(hidx:f0E ops base p=idx)(hres:q0G (H[idx]?)=oA)
    (h:h0D (wA base) ops p tr L [] [(idx,en0)]=wA (d,f,args,tr2)) (hr:SV.refsL 0 args=oA) (hle:LeL args args') (hs:SC P f args' [] v0 [en0]) (hv:SV.rn (λ_=>idx) v0=v) (hH:H.set idx en0=H2)
    (kk:RJ F P (wA base) ops (p+1) tr2 (g0e L d v) H2 Q) (hE: ∀g,Ent.rn g en0=en0:=by exact λ_=>rfl):RJ F P (wA base) ops p tr L H Q:=by
  obtain⟨o,ho,hg,hc,rfl,rfl,hk⟩:=e0i h;subst hv;subst hH;subst hidx;intro hl;rw[e0h ho];subst hl
  have hres':H[f0E ops base tr.length]?=wA .res:=by
    unfold q0G at hres;split at hres
    assumption
    cases hres
  refine⟨⟨SV.rn (λ_=>f0E ops base tr.length) v0,[],[(f0E ops base tr.length,en0)]⟩, ?_,hk base rfl, ?_⟩;unfold opD;rw[hg];simp only;rw[q0H hc,wB rfl];exact .inr<|.inl ⟨f,args,v0,en0,hc,hr,SC.weak hs hle,⟨hres',hE⟩,rfl⟩;have:=kk (by simp[trM]);rw[b0b];exact this
def F0f (h:SV.refsL 0 cs=oA): ∀g,Ent.rn g (.box cs)= .box cs:=λg=>congrArg Ent.box<|A0t h
theorem RJ.callG (σ:List Nat)(h:h0D none ops p tr L []=wA (d,f,args,tr2))(ha:args=SV.rnL (a0Z σ) args0)(hl:σ.length=H0.length)(hg:σ.map (λi=>H[i]?)=H0.map λen=>wA<|Ent.rn (a0Z σ) en)(hn:σ.Nodup)(hr0:H0.all (Ent.refs H0.length)=oA)
    (hlive:H0.all g0Z=oA) (hr:SV.refsL H0.length args0=oA) (hle:LeL args0 args') (hs:SC P f args' H0 v0 H0') (hle':vC H0.length H0'.length=oA)
    (hv:SV.rn (gOf (a0Z σ) H0.length H.length) v0=v) (hH:d0z (a0Z σ) H0.length H H0'=H2)
    (k:RJ F P none ops (p+1) tr2 (g0e L d v) H2 Q):RJ F P none ops p tr L H Q:=by
  obtain⟨o,ho,hgd,hc,rfl,rfl,hk⟩:=e0i h;subst hv;subst hH;refine RJ.call ho hgd hc ?_ k;rw[ha];exact SC.frame (SC.weak hs hle) (Sel.of σ hl hg hn hr0) (λen hm=>List.all_eq_true.1 hlive en hm) hr<|ag hle'
end
def a0l(k:IntKind):Int->List SV:=λx=> [.int k x]
def H0I:Bool->List SV:=λx=> [.bool x]
def u0h:List UInt8->List SV:=λx=> [.str x]
def lsv (enc:T->List SV)(k:Nat)(xs:List T):SV:= .lst xs.length k<|xs.flatMap enc
def k0j (enc:T->List SV)(k:Nat):List T->List SV:=λxs=> [.lst xs.length k<|xs.flatMap enc]
def a0r (enc:T->List SV)(k e:Nat)(xs:List T):Ent:= .vec xs.length k e<|xs.flatMap enc
def nth [Inhabited T](xs:List T)(j:Int):T:=xs.getD j.toNat default
def cut (xs:List T)(l h:Int):List T:=(xs.take h.toNat).drop l.toNat
def rep (l:Int)(z:T):List T:=yC l.toNat z
def c0X (xs:List T)(j:Int)(y:T):List T:=xs.set j.toNat y
def u0O (xs ys:List T):List T:=ys.take xs.length++xs.drop ys.length
def b0l(s:List UInt8):List Int:=s.map λb=>(b.toNat:Int)
def e0Z(xs:List Int):List UInt8:=xs.map λx=>oI x.toNat
def r0p(a b:Int):Int:=if a<b then b else a
def N0O(a b:Int):Int:=if b<a then b else a
def M0w [Inhabited T] {xs:List T} (h:inR j xs.length=oA):xs[j.toNat]?=wA (nth xs j):=by
  have:=g0g.1 h;have hl:j.toNat<xs.length:=by omega
  unfold nth;rw[am,af hl];rfl
section
variable {T : Type} {enc : T -> List SV} {k : Nat}
def l0X(hk: ∀x,(enc x).length=k): ∀xs:List T,(xs.flatMap enc).length=xs.length*k
  | []=>by simp
  |x::xs=>by rw[aC,ay,hk,l0X hk xs,aR,bQ];omega
def j0X(hk: ∀x,(enc x).length=k): ∀(xs:List T) (n:Nat),(xs.flatMap enc).drop (n*k)=(xs.drop n).flatMap enc
  | [],n=>by simp
  |x::xs,0=>by simp
  |x::xs,n+1=>by
    rw[aC,cY,hk,bQ,bl<|by rw[hk];omega,aU];rw[show n*k+k-k=n*k from by omega,j0X hk xs n,List.drop_succ_cons]
def i0s(hk: ∀x,(enc x).length=k): ∀(xs:List T) (n:Nat),(xs.flatMap enc).take (n*k)=(xs.take n).flatMap enc
  | [],n=>by simp
  |x::xs,0=>by simp
  |x::xs,n+1=>by
    rw[aC,List.take_append,hk,bQ,bn<|by rw[hk];omega];rw[show n*k+k-k=n*k from by omega,i0s hk xs n,List.take_succ_cons,aC]
def z0E [Inhabited T](hk: ∀x,(enc x).length=k) {xs:List T} (h:inR j xs.length=oA):((xs.flatMap enc).drop<|j.toNat*k).take k=enc (nth xs j):=by
  have hn:=M0w h;rw[j0X hk];have hl:=(ab.1 hn).1;rw[bV hl,aC,(ab.1 hn).2,<-hk (nth xs j),List.take_left]
def N.idx [Inhabited T](hk: ∀x,(enc x).length=k) {xs:List T} (h:inR j xs.length=oA):(⟨.ep<|((xs.flatMap enc).drop<|j.toNat*k).take k,[],[]⟩:Eff)=⟨.ep<|enc<|nth xs j,[],[]⟩:=by
  rw[z0E hk h]
def N.slice(hk: ∀x,(enc x).length=k) {xs:List T} (hb:inS l h xs.length=oA):
    (⟨.lst (h.toNat-l.toNat) k<|((xs.flatMap enc).take<|h.toNat*k).drop<|l.toNat*k,[],[]⟩:Eff)=⟨.lst (cut xs l h).length k<|(cut xs l h).flatMap enc,[],[]⟩:=by
  have:=n0z.1 hb;rw[i0s hk,j0X hk]
  have:(cut xs l h).length=h.toNat-l.toNat:=by
    unfold cut;rw[aY,aB];omega
  rw[this];rfl
def N.app {xs ys:List T} {idx e:Nat} :(⟨v,rd,[(i, .gone),(idx, .vec (xs.length+ys.length) k e<|xs.flatMap enc++ys.flatMap enc)]⟩:Eff)=⟨v,rd,[(i, .gone),(idx, .vec (xs++ys).length k e<|(xs++ys).flatMap enc)]⟩:=by
  rw[ay,bC]
def N.make {z:T} {idx e:Nat} :(⟨v,rd,[(idx, .vec l.toNat k e (yC l.toNat<|enc z).flatten)]⟩:Eff)=⟨v,rd,[(idx, .vec (rep l z).length k e<|(rep l z).flatMap enc)]⟩:=by
  unfold rep;rw[List.length_replicate,List.flatMap_replicate]
def w0Z(hk: ∀x,(enc x).length=k) {xs:List T} {y:T} (h:inR j xs.length=oA):splice (xs.flatMap enc) (j.toNat*k) (enc y)=(c0X xs j y).flatMap enc:=by
  have hj:=g0g.1 h;have hl:j.toNat<xs.length:=by omega
  unfold splice c0X;rw[hk,i0s hk,show j.toNat*k+k=(j.toNat+1)*k from(bQ _ _).symm,j0X hk];rw[List.set_eq_take_append_cons_drop,wB hl,bC,aC]
theorem J0S(hk: ∀x,(enc x).length=k) {xs ys:List T} :splice (xs.flatMap enc) 0 ((ys.flatMap enc).take<|min ys.length xs.length*k)=(u0O xs ys).flatMap enc:=by
  unfold splice u0O;rw[i0s hk,List.take_zero,aU,aZ,l0X hk,aB,j0X hk,bC];congr 1;congr 1;rw[Nat.min_comm,<-List.take_eq_take_min];congr 1;rcases Nat.le_total ys.length xs.length with h|h;congr 1;omega;rw[bl dA,bl dA]
def H0b {xs ys:List T} :(u0O xs ys).length=xs.length:=by
  unfold u0O;rw[ay,aB,aY];omega
end
def N.store {enc:T->List SV} (hk: ∀x,(enc x).length=k) {e:Nat} {xs:List T} {y:T} (h:inR j xs.length=oA):
    (⟨v,rd,[(i, .vec xs.length k e<|splice (xs.flatMap enc) (j.toNat*k)<|enc y)]⟩:Eff)=⟨v,rd,[(i,a0r enc k e<|c0X xs j y)]⟩:=by
  rw[w0Z hk h];unfold a0r c0X;rw[cN]
def k0W {enc:T->List SV} (hk: ∀x,(enc x).length=k) {xs:List T} {y:T} (h:inR j xs.length=oA):vC (j.toNat*k+(enc y).length) (xs.flatMap enc).length=true:=by
  have hj:=g0g.1 h;rw[l0X hk,hk,cq,show j.toNat*k+k=(j.toNat+1)*k from(bQ _ _).symm];exact aJ _ dA
def f0N {enc:T->List SV} (hk: ∀x,(enc x).length=k)(hk0:k=1) {xs:List T} (h:inR j xs.length=oA):yD (j.toNat*k) (xs.flatMap enc).length=true:=by
  have hj:=g0g.1 h;subst hk0;rw[l0X hk,cZ];omega
theorem N.load1 [Inhabited T] {enc:T->List SV} {f:T->SV} (hk: ∀x,(enc x).length=1)(hf: ∀x,enc x=[f x]) {xs:List T} (h:inR j xs.length=oA):
    (⟨((xs.flatMap enc).drop<|j.toNat*1).headD .undef,rd,[]⟩:Eff)=⟨f<|nth xs j,rd,[]⟩:=by
  have h1:=z0E hk h;rw[hf]at h1
  cases hd:(xs.flatMap enc).drop (j.toNat*1)with
  |nil=>rw[hd]at h1;simp at h1
  |cons c r=>rw[hd]at h1;simp at h1;rw[h1];rfl
def N.copy {enc:T->List SV} (hk: ∀x,(enc x).length=k) {e:Nat} {xs ys:List T} :
    (⟨v,rd,[(i, .vec xs.length k e<|splice (xs.flatMap enc) 0<|(ys.flatMap enc).take<|min ys.length xs.length*k)]⟩:Eff)=⟨v,rd,[(i,a0r enc k e<|u0O xs ys)]⟩:=by
  rw[J0S hk];unfold a0r;rw[H0b]
def a0g(k:IntKind)(x:Int):(a0l k x).length=1:=rfl
def f0t (enc:T->List SV)(k:Nat)(x:List T):(k0j enc k x).length=1:=rfl
theorem k0B(s:List UInt8):s.map l0n=(b0l s).flatMap (a0l .u8):=by
  induction s with
  |nil=>rfl
  |cons b s ih=>rw[ao,b0l,ao,aC,ih];rfl
def d0w(s:List UInt8):(b0l s).length=s.length:=by simp[b0l]
def N.toBytes {s:List UInt8} :(⟨.lst s.length 1<|s.map l0n,[],[]⟩:Eff)=⟨lsv (a0l .u8) 1<|b0l s,[],[]⟩:=by
  unfold lsv;rw[k0B,d0w]
theorem G0E(s:List UInt8):(f0x s).map x0g=(f0x s).flatMap (a0l .i32):=by
  generalize f0x s=l
  induction l with
  |nil=>rfl
  |cons b s ih=>rw[ao,aC,ih];rfl
def N.toRunes {s:List UInt8} :(⟨.lst (f0x s).length 1<|(f0x s).map x0g,[],[]⟩:Eff)=⟨lsv (a0l .i32) 1<|f0x s,[],[]⟩:=by
  unfold lsv;rw[G0E]
def q0e(xs:List Int):List UInt8:=xs.flatMap λx=>(yI x).data.toList
theorem L0l(xs:List Int):(xs.flatMap<|a0l .i32).all p0F=true:=by
  induction xs with
  |nil=>rfl
  |cons x xs ih=>rw[aC,bW,ih];rfl
theorem N.toRStr {xs:List Int} :(⟨.str<|(xs.flatMap<|a0l .i32).flatMap x0h,rd,[]⟩:Eff)=⟨.str<|q0e xs,rd,[]⟩:=by
  have:(xs.flatMap<|a0l .i32).flatMap x0h=q0e xs:=by
    unfold q0e
    induction xs with
    |nil=>rfl
    |cons x xs ih=>rw[aC,bC,ih,aC];simp[a0l,x0h]
  rw[this]
theorem u0f(xs:List Int):(xs.flatMap<|a0l .u8).all p0e=true:=by
  induction xs with
  |nil=>rfl
  |cons x xs ih=>rw[aC,bW,ih];rfl
theorem N.toStr {xs:List Int} :(⟨.str<|(xs.flatMap<|a0l .u8).map byteOf,rd,[]⟩:Eff)=⟨.str<|e0Z xs,rd,[]⟩:=by
  have:(xs.flatMap<|a0l .u8).map byteOf=e0Z xs:=by
    induction xs with
    |nil=>rfl
    |cons x xs ih=>rw[aC,cA,ih];rfl
  rw[this]
section
variable {F : Fr} {P : Program} {L : LE} {H : a0f}
end
def e0y(fn:Func):Code:=fn.body.getD .skip
def cl:Code->Code| .seq a _=>a|_=> .skip
def cr:Code->Code| .seq _ b=>b|_=> .skip
def ct:Code->Code| .cond _ a _=>a|_=> .skip
def ce:Code->Code| .cond _ _ b=>b|_=> .skip
def cb:Code->Code| .block _ a=>a|_=> .skip
def cp:Code->Code| .loop a=>a|_=> .skip
def h0w:Code->Array Oper| .region _ ops _=>ops|_=> #[]
def s0m:Code->Bool| .seq _ _=>oA|_=>yA
def o0H(d:Bool):Code->Bool| .region _ _ b=>b==d|_=>yA
def z0u(i:Nat):Code->Bool| .block j _=>yB j i|_=>yA
def E0K(i:Nat):Code->Bool| .exit j=>yB j i|_=>yA
def E0J:Code->Bool| .loop _=>oA|_=>yA
def E0I:Code->Bool| .ret=>oA|_=>yA
def u0V:Code->Bool| .skip=>oA|_=>yA
def y0v(c:Code)(L:LE):Option SV:=match c with
  | .cond x _ _=>a0C (a0p L) x
  |_=>none
section
variable {F : Fr} {P : Program} {c : Code} {L : LE} {H : a0f} {Q : f0Z}
def A0n(h:s0m c=oA):c= .seq (cl c) (cr c):=by cases c<;>first|rfl|cases h
def K.seq(h:s0m c=oA)(k:J F P (cl c) L H<|l0u F P (cr c) Q):J F P c L H Q:=by
  rw[A0n h];exact J.seq k
def K.cutN (h:s0m c=oA)(R:S->LE×a0f)(st:S)(h1:J F P (cl c) L H<|cutN F R st)(h2:J F P (cr c) (R st).1 (R st).2 Q):J F P c L H Q:=by
  rw[A0n h];exact J.cutN R st h1 h2
def K.cutX (h:s0m c=oA)(R:S->LE×a0f)(x:S⊕X)(h1:J F P (cl c) L H<|cutX F R Q x)(h2: ∀st,x= .inl st->J F P (cr c) (R st).1 (R st).2 Q):J F P c L H Q:=by
  rw[A0n h];exact J.cutX R x h1 h2
theorem K.region(h:o0H yA c=oA)(k:RJ F P none (h0w c) 0 [] L H Q):J F P c L H Q:=by
  cases c<;>first|cases h|skip
  rename_i i ops d
  cases d with
  |false=>exact J.region k
  |true=>cases h
theorem K.draw(h:o0H oA c=oA)(hm:P.follows .mixedOrders=oA)(hB:vG .any (h0w c)=oA) (hH:H++yC (e0l<|h0w c) .res=H2) (hn:H.length=n)(k:RJ F P (wA n) (h0w c) 0 [] L H2 Q):J F P c L H Q:=by
  subst hH;subst hn;cases c<;>first|cases h|skip
  rename_i i ops d
  cases d with
  |true=>exact J.draw hm hB k
  |false=>cases h
theorem K.condT(h:y0v c L=wA (.bool oA))(k:J F P (ct c) L H Q):J F P c L H Q:=by
  cases c<;>first|cases h|skip
  exact J.cond (b:=oA) h k
theorem K.condF(h:y0v c L=wA (.bool yA))(k:J F P (ce c) L H Q):J F P c L H Q:=by
  cases c<;>first|cases h|skip
  exact J.cond (b:=yA) h k
theorem K.block(i:Nat)(h:z0u i c=oA)(k:J F P (cb c) L H<|vF i Q):J F P c L H Q:=by
  cases c<;>first|cases h|skip
  rename_i j a;have:=ae h;subst this;exact J.block k
def K.skip(h:u0V c=oA)(k:PJ F Q .normal L H):J F P c L H Q:=by
  cases c<;>first|cases h|skip
  exact J.skip k
def K.ret(h:E0I c=oA)(k:PJ F Q .ret L H):J F P c L H Q:=by
  cases c<;>first|cases h|skip
  exact J.ret k
theorem K.exit(i:Nat)(h:E0K i c=oA)(k:PJ F Q (.exit i) L H):J F P c L H Q:=by
  cases c<;>first|cases h|skip
  rename_i j;have:=ae h;subst this;exact J.exit k
def K.loop {step:S->Option (S⊕O)} {s0:S} {o:O} (h:E0J c=oA)(R:S->LE×a0f)(ho:a0m step n s0=wA o)(ts:List Nat)(hL:g0s ts L=(R s0).1)(hH:H=(R s0).2)
    (body: ∀s x,step s=wA x->J F P (cp c) (R s).1 (R s).2 (p0D F R Q o x)):J F P c L H Q:=by
  cases c<;>first|cases h|skip
  exact J.loopR R ho ts hL hH body
def RJ.end {m:Option Nat} {p:Nat} {tr:List (List Nat×List Nat)} (hp:vC ops.size p=oA)(h:PJ F Q .normal L H):RJ F P m ops p tr L H Q:=RJ.done (ag hp) h
end
theorem K.fn {P:Program} {f:FuncId} {fn:Func} (hf:P.funcs[f]?=wA fn)(hb:fn.body.isSome=oA)(hcal:b0q P f=oA)(hin:b0p fn.ntmps (e0y fn)=oA)
    {args:List SV} {H:a0f} {v:SV} {H':a0f} (hn:vC args.length fn.ntmps=oA)
    (h: ∀F:Fr,F.n=fn.ntmps->F.H0=H->(∀i,F.H0.length<=i->F.D0 i=none)->J F P (e0y fn) (e0M 0 args) H (u0p P fn F v H')):SC P f args H v H':=by
  unfold e0y at*
  cases hbb:fn.body with
  |none=>rw[hbb]at hb;cases hb
  |some c=>rw[hbb]at hin h;exact L0q hf hbb hcal hin (ag hn) h
theorem K.ret0 {fn:Func} {L:LE} {H:a0f} (he:e= .normal\/e= .ret)(hn:F.n=fn.ntmps)(hH:F.H0=[])(hdom: ∀i,F.H0.length<=i->F.D0 i=none)(hin:j0L fn.ntmps fn.results.toList=oA)(hret:u0K P fn.results.toList L H=wA v)(hr:SV.refs 0 v=oA):
    PJ F (u0p P fn F v []) e L H:=
  PJ.end (f:=λj=>j) he (by rw[hn];exact hin) hret (by rw[hH];exact Back.drop (H':=[]) (ex:=H) (aj _) hr rfl) hdom
theorem K.retV {fn:Func} {L:LE} {H:a0f} (σ:List Nat)(he:e= .normal\/e= .ret)(hn:F.n=fn.ntmps)(hH:F.H0=H0)(hdom: ∀i,F.H0.length<=i->F.D0 i=none)(hin:j0L fn.ntmps fn.results.toList=oA)(hret:u0K P fn.results.toList L H=wA v1)
    (hl:σ.length=H'.length) (hg:σ.map (λi=>H[i]?)=H'.map λen=>wA<|Ent.rn (a0Z σ) en) (hnd:σ.Nodup) (hr:H'.all (Ent.refs H'.length)=oA) (hk:σ.take H0.length=oB H0.length) (hle:vC H0.length H'.length=oA) (hv:v1=SV.rn (a0Z σ) v) (hvr:SV.refs H'.length v=oA):
    PJ F (u0p P fn F v H') e L H:=by
  refine PJ.end (f:=a0Z σ) he (by rw[hn];exact hin) hret ⟨Sel.of σ hl hg hnd hr,λj hj=> ?_,by rw[hH];exact ag hle,hv,hvr⟩ hdom;rw[hH]at hj;have:=congrArg (λl=>l[j]?) hk;simp only[aQ,wB hj,bu hj]at this;unfold a0Z;rw[am,this];rfl
theorem Good.le {K:Nat->Nat} {H:a0f} {s':SV} (h:Good w K D H r w' s H')(hl:Le s s'):Good w K D H r w' s' H':=by
  obtain⟨K',D',g,hi,hr⟩:=h;exact⟨K',D',g,hi,hl _ _ _ _ hr⟩
theorem PJ.res {fn:Func} {L:LE} {H:a0f} (hl:Le v1 v)(h:PJ F (u0p P fn F v1 H') e L H):PJ F (u0p P fn F v H') e L H:=λa w hs=>by
  obtain⟨h1,h2,r,h3,h4⟩:=h a w hs;exact⟨h1,h2,r,h3,h4.le hl⟩
theorem SC.frozen {e:Nat} (h:SC P f args [] (.vc 0) [.vec n k e cs]):SC P f args [] (.lst n k cs) []:=by
  refine⟨h.1,λw K D vals hlen hrep hi hG=> ?_⟩;refine(h.2 w K D vals hlen hrep hi hG).mono ?_;rintro ex w' ⟨r,he,hg⟩;refine⟨r,he, ?_⟩;obtain⟨K',D',g,hi',hr'⟩:=hg.freeze (i:=0) rfl;exact i0X g hi' hr' (Back.drop (H':=[]) (ex:=[.gone]) (aj _) rfl rfl) λi _=>hi.dom i<|bk _
def n0y {k:S->Option X} {x:X} {r:Option X} (h:a0j k (.inr x)=r):wA x=r:=h
def j0W {k:S->Option X} {s:S} {r:Option X} (h:a0j k (.inl s)=r):k s=r:=h
def big:Nat:=18446744073709551616
end
open Go Go.RowKit Go.ChangeShapes Go.WideShapes Go.ChangeAt
section
variable [Inhabited GT]
def e0x(P:Program) {H:Type} :Nat->TypeId->DataW H->List SV->Prop
  |0,_,_,_=>False
  |n+1,t,d,cs=>match P.underlying t with
    |some .bool=> ∃b,d= .lit (.bool b)/\cs=[.bool b]
    |some (.int k)=> ∃x,d= .lit (.int k x)/\cs=[.int k x]/\(Lit.int k x).wf=oA
    |some .string=> ∃l,d= .lit (.string l)/\cs=[.str l]
    |some (.slice e)=>(d= .nil/\cs=[.lst 0 (P.cellsOf e) []])\/ ∃(elems rest:List<|DataW H) (xs:List<|List SV),d= .slice elems rest/\cs=[.lst xs.length (P.cellsOf e) xs.flatten]/\xs.length=elems.length/\
        (∀x∈xs,x.length=P.cellsOf e)/\ ∀(i:Nat) y x,elems[i]?=wA y->xs[i]?=wA x->e0x P n e y x
    |some (.struct fs)=>cs.length=P.cellsOf t/\ ∃parts:List (DataW H),d= .agg parts/\parts.length=fs.size/\ ∀(i:Nat) (f:Field) p,fs[i]?=wA f->parts[i]?=wA p->e0x P n f.type p ((cs.drop f.offset).take<|P.cellsOf f.type)
    |some (.array m e)=>cs.length=P.cellsOf t/\ ∃parts:List (DataW H),d= .agg parts/\parts.length=m/\ ∀(i:Nat) p,parts[i]?=wA p->e0x P n e p ((cs.drop<|i*P.cellsOf e).take<|P.cellsOf e)
    |_=>False
def m0r(P:Program)(total:Nat):Nat->List Field->Bool
  |off,[]=>off==total
  |off,f::r=>(f.offset==off)&&m0r P total (off+P.cellsOf f.type) r
def n0j(P:Program):Nat->TypeId->Bool
  |0,_=>yA
  |n+1,t=>match P.underlying t with
    |some .bool=>oA
    |some (.int _)=>oA
    |some .string=>oA
    |some (.slice e)=>vA (0<P.cellsOf e)&&n0j P n e
    |some (.struct fs)=>m0r P (P.cellsOf t) 0 fs.toList&&fs.toList.all λf=>n0j P n f.type
    |some (.array m e)=>(P.cellsOf t==m*P.cellsOf e)&&n0j P n e
    |_=>yA
def KW(w:World):Nat->Nat:=λb=>match w.heap[b]? with
  |some (.cells c _ _)=>c.size
  |_=>0
theorem P0j(w:World)(b:Nat)(h:KW w b≠0):b<w.heap.size:=by
  unfold KW at h;split at h;rename_i c e f hb;exact(ak.1 hb).1;exact absurd rfl h
theorem L0r {b off:Nat} {v:Value} (h:w.cell? ⟨b,off,none⟩=wA v):off<KW w b:=by
  unfold World.cell? at h;unfold KW;simp only at h;split at h;rename_i c e f hb;rw[hb];simp at h;exact(ak.1 h).1;cases h
theorem z0H {Q:Nat->α->Prop} : ∀(n:Nat),(∀i,i<n-> ∃x,Q i x)-> ∃l:List α,l.length=n/\ ∀(i:Nat) x,l[i]?=wA x->Q i x:=by
  intro n
  induction n with
  |zero=>intro _;exact⟨[],rfl,λi x h=>by simp at h⟩
  |succ n ih=>
    intro h;obtain⟨l,hl,hq⟩:=ih λi hi=>h i dA
    obtain⟨x,hx⟩:=h n dA;refine⟨l++ [x],by simp[hl],λi y hy=> ?_⟩;rw[aM]at hy;split at hy;exact hq i y hy;rename_i hi
    have:i-l.length=0:=by
      have:=(ab.1 hy).1;simp at this;omega
    have hin:i=n:=by omega
    rw[this]at hy;simp at hy;subst hy;subst hin;exact hx
theorem q0L : ∀(l:List<|List α),(∀x∈l,x.length=k)->l.flatten.length=l.length*k:=by
  intro l
  induction l with
  |nil=>intro _;simp
  |cons x l ih=>
    intro h;rw[cR,ay,h x<|az ..,ih λy hy=>h y<|aq _ hy,aR,bQ];omega
theorem l0W (hk:0<k): ∀(l:List<|List α),(∀x∈l,x.length=k)-> ∀j,l.flatten[j]?=(l[j/k]?).bind λx=>x[j%k]?:=by
  intro l
  induction l with
  |nil=>intro _ j;simp
  |cons x l ih=>
    intro h j;have hx:=h x<|az ..;rw[cR,aM];split;rename_i hj;rw[hx]at hj;rw[Nat.div_eq_of_lt hj,cX hj];rfl;rename_i hj;rw[hx]at hj⊢;rw[ih λy hy=>h y<|aq _ hy]
    have h1:j/k=(j-k)/k+1:=by
      have:=Nat.div_eq_sub_div hk (show k<=j by omega);exact this
    have h2:j%k=(j-k)%k:=Nat.mod_eq_sub_mod dA;rw[h1,h2];simp
theorem r0R {K:Nat->Nat} {cs:List Value} {Q:Nat->List SV->Prop} : ∀(fl:List Field) (off i0:Nat),m0r P cs.length off fl=oA->
    (∀(i:Nat) f,fl[i]?=wA f-> ∃ss,CR w K D ((cs.drop f.offset).take<|P.cellsOf f.type) ss/\ss.length=P.cellsOf f.type/\a0Q ss=oA/\Q (i0+i) ss)->
    ∃ss,CR w K D (cs.drop off) ss/\a0Q ss=oA/\ ∀(i:Nat) f,fl[i]?=wA f->off<=f.offset/\Q (i0+i) ((ss.drop<|f.offset-off).take<|P.cellsOf f.type):=by
  intro fl
  induction fl with
  |nil=>
    intro off i0 h _;simp only[m0r,beq_iff_eq]at h;subst h;exact⟨[],by simpa using CR.nil,rfl,λi f hf=>by simp at hf⟩
  |cons f r ih=>
    intro off i0 h hq;simp only[m0r,aa,beq_iff_eq]at h;obtain⟨h1,h2⟩:=h;subst h1;obtain⟨s1,c1,l1,p1,q1⟩:=hq 0 f rfl
    obtain⟨s2,c2,p2,q2⟩:=ih (f.offset+P.cellsOf f.type) (i0+1) h2 (λi g hg=>by
      obtain⟨ss,a,b,pp,c⟩:=hq (i+1) g (by simpa using hg)
      exact⟨ss,a,b,pp,by rw[show i0+1+i=i0+(i+1)from by omega];exact c⟩)
    refine⟨s1++s2, ?_,by simp only[a0Q,bW,aa]at p1 p2⊢;exact⟨p1,p2⟩,λi g hg=> ?_⟩;have:=c1.append c2;rw[<-List.drop_drop,bv]at this;exact this
    cases i with
    |zero=>
      simp at hg;subst hg;refine⟨aj _, ?_⟩;rw[Nat.sub_self,cP,<-l1,List.take_left];exact q1
    |succ i=>
      obtain⟨p1,p2⟩:=q2 i g (by simpa using hg);refine⟨dA, ?_⟩
      have hd:(s1++s2).drop (g.offset-f.offset)=s2.drop (g.offset-(f.offset+P.cellsOf f.type)):=by
        rw[cY,bl dA,aU];congr 1;omega
      rw[hd,show i0+(i+1)=i0+1+i from by omega];exact p2
theorem y0u {total:Nat} : ∀(fl:List Field) (off:Nat),m0r P total off fl=oA->off<=total/\ ∀f∈fl,f.offset+P.cellsOf f.type<=total:=by
  intro fl
  induction fl with
  |nil=>intro off h;simp only[m0r,beq_iff_eq]at h;exact⟨dA,λf hf=>by cases hf⟩
  |cons f r ih=>
    intro off h;simp only[m0r,aa,beq_iff_eq]at h;obtain⟨h1,h2⟩:=h;obtain⟨i1,i2⟩:=ih _ h2;refine⟨dA,λg hg=> ?_⟩;rcases aT.1 hg with rfl|hg;omega;exact i2 g hg
def h0o (e k i : Nat) : Field := { name := "", type := e, offset := i * k, embedded := yA, tag := "", pkgPath := "", byteOffset := 0 }
def z0N {e:TypeId} : ∀(m i0:Nat),m0r P ((i0+m)*P.cellsOf e) (i0*P.cellsOf e) ((jH i0 m).map<|h0o e<|P.cellsOf e)=true:=by
  intro m
  induction m with
  |zero=>intro i0;simp[m0r]
  |succ m ih=>
    intro i0;simp only[List.range'_succ,ao,m0r,h0o,beq_self_eq_true,cz];have:=ih<|i0+1;rw[show i0*P.cellsOf e+P.cellsOf e=(i0+1)*P.cellsOf e from(bQ _ _).symm,show i0+(m+1)=i0+1+m from by omega];exact this
section
variable {H : Type} {enc : TypeId × Value -> H} {P : Program} {w : World}
theorem v0A: ∀(n:Nat) (t:TypeId) (fuel:Nat) (cs:List Value) (x:DataW H×List MemPlace),n0j P n t=oA->DataW.trod enc P w 0 (λ_=>oA) oA fuel t cs=wA x->
    ∃ss,CR w (KW w) (λ_=>none) cs ss/\a0Q ss=oA/\e0x P n t x.1 ss:=by
  intro n
  induction n with
  |zero=>intro t fuel cs x hp _;simp[n0j]at hp
  |succ n ih=>
    intro t fuel cs x hp h;unfold n0j at hp
    have single: ∀(v:Value) (s:SV),cs=[v]->Rep w (KW w) (λ_=>none) v s->s.plain=oA->CR w (KW w) (λ_=>none) cs [s]:=by
      intro v s hc hr h1;subst hc
      exact⟨rfl,λc hm=>by simp at hm;subst hm;exact x0B hr h1,λj v c hv hc=>by
        cases j with
        |zero=>simp at hv hc;subst hv;subst hc;exact hr
        |succ j=>simp at hv⟩
    split at hp;rename_i hu;obtain⟨b,hcs,hx⟩:=DataW.trod_bool hu h;exact⟨[.bool b],single _ _ hcs (.bool b) rfl,rfl,by unfold e0x;rw[hu,hx];exact⟨b,rfl,rfl⟩⟩;rename_i k hu;obtain⟨z,hcs,hx,hw⟩:=DataW.trod_int hu h;exact⟨[.int k z],single _ _ hcs (.int k z) rfl,rfl,by unfold e0x;rw[hu,hx];exact⟨z,rfl,rfl,hw⟩⟩;rename_i hu;obtain⟨s,hcs,hx,_⟩:=DataW.trod_string hu h;exact⟨[.str s.data.toList],single _ _ hcs (.str s) rfl,rfl,by unfold e0x;rw[hu,hx];exact⟨_,rfl,rfl⟩⟩;rename_i e hu;simp only[aa,decide_eq_true_eq]at hp;obtain⟨hk,hpe⟩:=hp;rcases DataW.trod_slice hu h with⟨hcs,hx⟩|⟨a,len,cap,elems,rest,m,_,hcs,hx,hb,hl,hm,hlen,hel,hsp,hns⟩;exact⟨[.lst 0 (P.cellsOf e) []],single _ _ hcs (.emp _ _ _) rfl,rfl,by unfold e0x;rw[hu,hx];exact .inl ⟨rfl,rfl⟩⟩
    -- each element by itself
    have each: ∀i,i<len-> ∃p:List Value×List SV,p.1.length=P.cellsOf e/\(CR w (KW w) (λ_=>none) p.1 p.2/\a0Q p.2=oA)/\(∀r,r<P.cellsOf e->w.cell? ((a.add<|i*P.cellsOf e).add r)=p.1[r]?)/\
        ∀y,elems[i]?=wA y->e0x P n e y.1 p.2:=by
      intro i hi;have h1:=hel i hi;have hil:i<elems.length:=by omega
      rw[af hil]at h1;simp only[Option.bind_eq_some_iff]at h1;obtain⟨vs,hvs,htr⟩:=h1;obtain⟨_,h3,h4⟩:=World.cells?_some hvs;obtain⟨ss,hcr,hpl,hsh⟩:=ih e m vs _ hpe htr;exact⟨(vs,ss),h3,⟨hcr,hpl⟩,h4,λy hy=>by rw[af hil]at hy;cases hy;exact hsh⟩
    obtain⟨l,hll,hlq⟩:=z0H len each
    have hget: ∀i,i<len-> ∃p,l[i]?=wA p:=λi hi=>⟨l[i]' dA,af dA⟩
    have hxs1: ∀x∈l.map (·.1),x.length=P.cellsOf e:=by
      intro x hx;obtain⟨p,hp,rfl⟩:=aW.1 hx;obtain⟨i,hi⟩:=bw.1 hp;exact(hlq i p hi).1
    have hxs2: ∀x∈l.map (·.2),x.length=P.cellsOf e:=by
      intro x hx;obtain⟨p,hp,rfl⟩:=aW.1 hx;obtain⟨i,hi⟩:=bw.1 hp;rw[(hlq i p hi).2.1.1.len];exact(hlq i p hi).1
    have hshow:e0x P (n+1) t x.1 [.lst len (P.cellsOf e) (l.map (·.2)).flatten]:=by
      unfold e0x;rw[hu,hx];refine .inr ⟨elems.map (·.1),rest.map (·.1),l.map (·.2),rfl,by rw[List.length_map,hll],by simp[hll,hlen],hxs2,λi y x hy hxx=> ?_⟩;rw[ar]at hy hxx
      cases hp:l[i]? with
      |none=>rw[hp]at hxx;cases hxx
      |some p=>
        rw[hp]at hxx;cases hxx
        cases he:elems[i]? with
        |none=>rw[he]at hy;cases hy
        |some y'=>rw[he]at hy;cases hy;exact(hlq i p hp).2.2.2 y' he
    refine⟨_,single _ _ hcs ?_ rfl,rfl,hshow⟩;by_cases h0:len=0;subst h0;have:l=[]:=aw hll;subst this;exact .emp _ _ _;obtain⟨b,off,spot⟩:=a
    have hcell: ∀i r,i<len->r<P.cellsOf e-> ∃p v,l[i]?=wA p/\p.1[r]?=wA v/\w.cell? (((⟨b,off,spot⟩:Addr).add<|i*P.cellsOf e).add r)=wA v:=by
      intro i r hi hr;obtain⟨p,hp⟩:=hget i hi;obtain⟨q1,q2,q3,q4⟩:=hlq i p hp;have hrl:r<p.1.length:=by omega
      exact⟨p,p.1[r],hp,af hrl,by rw[q3 r hr,af hrl]⟩
    have hspot:spot=none:=by
      obtain⟨p,v,_,_,hc⟩:=hcell 0 0 dA hk;have h1:((⟨b,off,spot⟩:Addr).add<|0*P.cellsOf e).add 0=⟨b,off,spot⟩:=by simp[Addr.add]
      rw[h1]at hc;have:=World.cell?_spot hc;simpa using this
    subst hspot;have hflat1:(l.map (·.1)).flatten.length=len*P.cellsOf e:=by rw[q0L _ hxs1];simp[hll]
    have hflat2:(l.map (·.2)).flatten.length=len*P.cellsOf e:=by rw[q0L _ hxs2];simp[hll]
    have hmem: ∀j v,(l.map (·.1)).flatten[j]?=wA v->w.cell? ⟨b,off+j,none⟩=wA v:=by
      intro j v hj;have hjl:=(ab.1 hj).1;rw[hflat1]at hjl;have hi:j/P.cellsOf e<len:=cK (by rw[db];exact hjl);have hr:j%P.cellsOf e<P.cellsOf e:=Nat.mod_lt _ hk;obtain⟨p,u,hp,hu',hc⟩:=hcell _ _ hi hr;rw[l0W hk _ hxs1,ar,hp]at hj;simp only[aV,ah]at hj;rw[hu']at hj;cases hj;rw[add_lit,add_lit]at hc
      have hjj:off+j/P.cellsOf e*P.cellsOf e+j%P.cellsOf e=off+j:=by
        have:=Nat.div_add_mod j<|P.cellsOf e;rw[db]at this;omega
      rw[hjj]at hc;exact hc
    refine .lst (P.cellsOf e) b off len cap (l.map (·.1)).flatten _ hk hflat1 (by rw[hflat2,hflat1]) hl hmem ?_ (λc hc=> ?_) (List.all_eq_true.2 λc hc=> ?_) λj v c hv hc=> ?_;rw[hflat1];have hpos:0<len*P.cellsOf e:=Nat.mul_pos dA hk;have hlast:len*P.cellsOf e-1<(l.map (·.1)).flatten.length:=by rw[hflat1];omega
    have:=L0r<|hmem _ _<|af hlast;omega;obtain⟨x,hx,hcx⟩:=List.mem_flatten.1 hc;obtain⟨p,hp,rfl⟩:=aW.1 hx;obtain⟨i,hi⟩:=bw.1 hp;exact(hlq i p hi).2.1.1.one c hcx;obtain⟨x,hx,hcx⟩:=List.mem_flatten.1 hc;obtain⟨p,hp,rfl⟩:=aW.1 hx;obtain⟨i,hi⟩:=bw.1 hp;exact List.all_eq_true.1 (hlq i p hi).2.1.2 c hcx;rw[l0W hk _ hxs1,ar]at hv;rw[l0W hk _ hxs2,ar]at hc
    cases hp:l[j/P.cellsOf e]? with
    |none=>rw[hp]at hv;cases hv
    |some p=>
      rw[hp]at hv hc;simp only[aV,ah]at hv hc;exact(hlq _ p hp).2.1.1.rep _ v c hv hc
    rename_i fs hu;simp only[aa,jD]at hp;obtain⟨hct,hpf⟩:=hp;obtain⟨xs,m,_,hx,hcl,hxl,hfs⟩:=DataW.trod_struct hu h;rw[<-hcl]at hct
    obtain⟨ss,hcr,hpl,hq⟩:=r0R (w:=w) (K:=KW w) (D:=λ_=>none) (Q:=λj ss=> ∀f p,fs.toList[j]?=wA f->xs[j]?=wA p->e0x P n f.type p.1 ss) fs.toList 0 0 hct (λi f hf=>by
      have hf':fs[i]?=wA f:=by simpa using hf
      have hil:i<xs.length:=by rw[hxl];exact(ak.1 hf').1
      have htr:=hfs i f hf';rw[af hil]at htr;obtain⟨ss,h1,hp1,h2⟩:=ih f.type m _ _ (hpf f<|aH hf) htr;refine⟨ss,h1, ?_,hp1,λg p hg hpp=> ?_⟩;have:=(y0u _ _ hct).2 f<|aH hf;rw[h1.len,aB,aY];omega;rw[aZ]at hg hpp;rw[hf]at hg;cases hg;rw[af hil]at hpp;cases hpp
      exact h2)
    refine⟨ss,by simpa using hcr,hpl, ?_⟩;unfold e0x;rw[hu,hx];refine⟨by have:=hcr.len;simp at this;omega,xs.map (·.1),rfl,by simp[hxl],λi f p hf hpp=> ?_⟩;rw[ar]at hpp
    cases hxi:xs[i]? with
    |none=>rw[hxi]at hpp;cases hpp
    |some y=>
      rw[hxi]at hpp;cases hpp;have hfl:fs.toList[i]?=wA f:=by simpa using hf
      have:=(hq i f hfl).2 f y (by simpa using hfl) (by simpa using hxi);simpa using this
    rename_i m e hu;simp only[aa,beq_iff_eq]at hp;obtain⟨hct,hpe⟩:=hp;obtain⟨xs,mm,_,hx,hcl,hxl,hfs⟩:=DataW.trod_array hu h
    have hcf:m0r P cs.length 0 ((jH 0 m).map<|h0o e<|P.cellsOf e)=true:=by
      have:=z0N (P:=P) (e:=e) m 0;rw[hcl,hct];simpa using this
    have hff: ∀(i:Nat) f,((jH 0 m).map<|h0o e<|P.cellsOf e)[i]?=wA f->i<m/\f=h0o e (P.cellsOf e) i:=by
      intro i f hf;rw[ar]at hf
      cases hr:(jH 0 m)[i]? with
      |none=>rw[hr]at hf;cases hf
      |some j=>
        rw[hr]at hf
        have hl:=(ab.1 hr)
        obtain⟨p1,p2⟩:=hl;simp at p1 p2;subst p2;cases hf;exact⟨p1,rfl⟩
    obtain⟨ss,hcr,hpl,hq⟩:=r0R (w:=w) (K:=KW w) (D:=λ_=>none) (Q:=λj ss=> ∀p,xs[j]?=wA p->e0x P n e p.1 ss) _ 0 0 hcf (λi f hf=>by
      obtain⟨him,rfl⟩:=hff i f hf;have hil:i<xs.length:=by omega
      have htr:=hfs i him;rw[af hil]at htr;obtain⟨ss,h1,hp1,h2⟩:=ih e mm _ _ hpe htr;refine⟨ss,h1, ?_,hp1,λp hpp=> ?_⟩;have h3:=(y0u _ _ hcf).2 _<|aH hf;rw[h1.len,aB,aY];simp only[h0o]at h3⊢;omega;rw[aZ]at hpp;rw[af hil]at hpp;cases hpp
      exact h2)
    refine⟨ss,by simpa using hcr,hpl, ?_⟩;unfold e0x;rw[hu,hx];refine⟨by have:=hcr.len;simp at this;omega,xs.map (·.1),rfl,by simp[hxl],λi p hpp=> ?_⟩;rw[ar]at hpp
    cases hxi:xs[i]? with
    |none=>rw[hxi]at hpp;cases hpp
    |some y=>
      rw[hxi]at hpp;cases hpp;have him:i<m:=by rw[<-hxl];exact(ab.1 hxi).1
      have hfi:((jH 0 m).map<|h0o e<|P.cellsOf e)[i]?=wA (h0o e (P.cellsOf e) i):=by
        rw[ar,List.getElem?_range' him];simp
      have:=(hq i _ hfi).2 y (by simpa using hxi);simpa [h0o]using this
    cases hp
end
def l0q(P:Program) {H:Type} (n:Nat)(t:TypeId)(d:DataW H)(s:SV):Prop:=
  match P.underlying t with
  |some (.struct _)=> ∃cs,s= .agg cs/\e0x P n t d cs
  |some (.array _ _)=> ∃cs,s= .agg cs/\e0x P n t d cs
  |_=>e0x P n t d [s]
section
variable {H : Type} {enc : TypeId × Value -> H} {P : Program} {w : World}
theorem D0q {r:Reach} {b0:Nat} {v:Value} {d:DataW H} {ps:List MemPlace} (hp:n0j P n t=oA)(hval:Value.okWide P w r b0 t v)(hd:DataW.Trod enc P w 0 (λ_=>oA) oA t v d ps):
    ∃s,Rep w (KW w) (λ_=>none) v s/\l0q P n t d s:=by
  obtain⟨fuel,hf⟩:=hd;obtain⟨ss,hcr,hpl,hsh⟩:=v0A n t fuel _ _ hp hf
  have q0c:v.cells= #[v]->(∀ss,e0x P n t d ss-> ∃s,ss=[s])->(∀s,e0x P n t d [s]->l0q P n t d s)-> ∃s,Rep w (KW w) (λ_=>none) v s/\l0q P n t d s:=by
    intro hc h1 h2;obtain⟨s,rfl⟩:=h1 ss hsh;exact⟨s,hcr.rep 0 v s (by rw[hc];rfl) rfl,h2 s hsh⟩
  cases n with
  |zero=>simp[n0j]at hp
  |succ n=>
    have hp':=hp;unfold n0j at hp;split at hp;rename_i hu;obtain⟨b,rfl⟩:=okWide_bool hu hval;refine q0c rfl (λss h=> ?_) (λs h=>by unfold l0q;rw[hu];exact h);unfold e0x at h;rw[hu]at h;obtain⟨b,_,rfl⟩:=h;exact⟨_,rfl⟩;rename_i k hu;obtain⟨b,rfl⟩:=okWide_int hu hval;refine q0c rfl (λss h=> ?_) (λs h=>by unfold l0q;rw[hu];exact h);unfold e0x at h;rw[hu]at h;obtain⟨b,_,rfl,_⟩:=h;exact⟨_,rfl⟩;rename_i hu;obtain⟨b,rfl⟩:=okWide_string hu hval;refine q0c rfl (λss h=> ?_) (λs h=>by unfold l0q;rw[hu];exact h);unfold e0x at h;rw[hu]at h;obtain⟨b,_,rfl⟩:=h;exact⟨_,rfl⟩;rename_i e hu;obtain⟨a,len,cap,rfl⟩:=okWide_slice hu hval;refine q0c rfl (λss h=> ?_) (λs h=>by unfold l0q;rw[hu];exact h);unfold e0x at h;rw[hu]at h;rcases h with⟨_,rfl⟩|⟨_,_,_,_,rfl,_⟩;exact⟨_,rfl⟩;exact⟨_,rfl⟩;rename_i fs hu;unfold Value.okWide at hval;rw[hu]at hval;obtain⟨cs,rfl,_,_⟩:=hval;refine⟨.agg ss, ?_,by unfold l0q;rw[hu];exact⟨ss,rfl,hsh⟩⟩;have:=Rep.agg _ _ hcr.len hcr.one hcr.rep;simpa [Value.cells]using this;rename_i m e hu;unfold Value.okWide at hval;rw[hu]at hval;obtain⟨cs,rfl,_,_⟩:=hval;refine⟨.agg ss, ?_,by unfold l0q;rw[hu];exact⟨ss,rfl,hsh⟩⟩;have:=Rep.agg _ _ hcr.len hcr.one hcr.rep;simpa [Value.cells]using this;cases hp
theorem C0t {r:Reach} {b0:Nat} : ∀(ts:List TypeId) (vs:List Value) (ds:List<|DataW H) (ps:List MemPlace),(∀t∈ts,n0j P n t=oA)->
    (∀(j:Nat) t v,ts[j]?=wA t->vs[j]?=wA v->Value.okWide P w r b0 t v)->DataW.TrodAll enc P w 0 (λ_=>oA) oA ts vs ds ps->
    ∃ss:List SV,ss.length=vs.length/\ds.length=ts.length/\ss.length=ts.length/\(∀(j:Nat) x c,vs[j]?=wA x->ss[j]?=wA c->Rep w (KW w) (λ_=>none) x c)/\
      (∀(j:Nat) t d s,ts[j]?=wA t->ds[j]?=wA d->ss[j]?=wA s->l0q P n t d s):=by
  intro ts
  induction ts with
  |nil=>
    intro vs ds ps _ _ h;cases vs<;>cases ds<;>first|exact⟨[],rfl,rfl,rfl,λj x c e=>by simp at e,λj t d s e=>by simp at e⟩|exact h.elim
  |cons t ts ih=>
    intro vs ds ps hp hv h
    cases vs with
    |nil=>cases ds<;>exact h.elim
    |cons v vs=>
      cases ds with
      |nil=>exact h.elim
      |cons d ds=>
        obtain⟨p,q,h1,h2,_⟩:=h;obtain⟨s,hr,hs⟩:=D0q (hp t<|az ..) (hv 0 t v rfl rfl) h1;obtain⟨ss,i1,i2,i3,i4,i5⟩:=ih vs ds q (λt ht=>hp t<|aq _ ht) (λj t v ht hvv=>hv (j+1) t v (by simpa using ht)<|by simpa using hvv) h2;refine⟨s::ss,by simp[i1],by simp[i2],by simp[i3],λj x c hx hc=> ?_,λj t' d' s' ht hd hs'=> ?_⟩
        cases j with
        |zero=>simp at hx hc;subst hx;subst hc;exact hr
        |succ j=>exact i4 j x c (by simpa using hx) (by simpa using hc)
        cases j with
        |zero=>simp at ht hd hs';subst ht;subst hd;subst hs';exact hs
        |succ j=>exact i5 j t' d' s' (by simpa using ht) (by simpa using hd) (by simpa using hs')
theorem H0x:HInv w (KW w) (λ_=>none) []:=
  ⟨λ_ _=>rfl,λi en h=>by simp at h,λi j en en' b c n c' n' h=>by simp at h,P0j w⟩
theorem not_mem_nil {D:DM} {b:Nat} : ¬Mem D [] b:=fun⟨i,en,c,n,h,_⟩=>by simp at h
theorem E0D {vals:List Value} {ss:List SV} (hl:ss.length=vals.length)(hr: ∀(j:Nat) x c,vals[j]?=wA x->ss[j]?=wA c->Rep w (KW w) (λ_=>none) x c)(h:SC P f ss [] (.bool oA) H')(hG:m0t w (KW w) λ_=>none):
    Calls P f vals.toArray w λe w'=>e= .returned (.bool oA)/\Below w.heap.size w w':=by
  refine(h.2 w (KW w) (λ_=>none) vals hl.symm hr H0x hG).mono ?_;rintro e w' ⟨r,rfl,K',D',g,_,hrep⟩;cases hrep;exact⟨rfl,g.os,g.tape,g.output,g.size,λk hk=>g.block k hk not_mem_nil⟩
theorem v0q {W W':World} (hl:laidOutB P=oA)(hb:Below W.heap.size W W'): ∀(ts:List TypeId) (vs:List Value) (ds:List<|DataW H) (ps:List MemPlace),(∀t∈ts,P.readableRec t=oA/\t<P.types.size)->
    DataW.TrodAll enc P W 0 (λ_=>oA) oA ts vs ds ps->(∀x∈ps,x.block<W.heap.size)->DataW.TrodAll enc P W' 0 (λb=>vA<|b<W.heap.size) oA ts vs ds ps:=by
  intro ts
  induction ts with
  |nil=>intro vs ds ps _ h _;cases vs<;>cases ds<;>first|exact h|exact h.elim
  |cons t ts ih=>
    intro vs ds ps ht h hps
    cases vs with
    |nil=>cases ds<;>exact h.elim
    |cons v vs=>
      cases ds with
      |nil=>exact h.elim
      |cons d ds=>
        obtain⟨p,q,h1,h2,rfl⟩:=h;obtain⟨r1,r2⟩:=ht t<|az ..;exact⟨p,q,Below.trod hl r1 r2 h1 hb λx hx=>hps x<|al.2<|.inl hx,ih vs ds q (λt hm=>ht t<|aq _ hm) h2 λx hx=>hps x<|al.2<|.inr hx,rfl⟩
theorem H0r {fn:Func} {s:ChangeSpec} {tb:TypeId} (hl:laidOutB P=oA)(htb:P.underlying tb=wA .bool)(hrt:fn.resultTypes= #[tb])(hv:s.vars=[])
    (hplain:fn.params.toList.all (λt=>n0j P n t&&P.readableRec t&&vA (t<P.types.size))=oA)
    {W:World} {args:Array Value} {ds gs:List (DataW H)} {before:List MemPlace}
    (hspec:ds.length=fn.params.toList.length->(s.fn H ds).results=[.lit<|.bool oA]/\(s.fn H ds).args=ds/\(s.fn H ds).vars=[])
    (hval: ∀(j:Nat) t v,fn.params[j]?=wA t->args[j]?=wA v->Value.okWide P W .any base t v)
    (hW:DataW.Whole enc P fn.params.toList s.vars yA W args.toList ds gs before)
    (main: ∀ss:List SV,gs=[]->ds.length=fn.params.toList.length->ss.length=fn.params.toList.length->(∀(j:Nat) t d x,fn.params.toList[j]?=wA t->ds[j]?=wA d->ss[j]?=wA x->l0q P n t d x)-> ∃H',SC P f ss [] (.bool oA) H') (hG:m0t W (KW W) λ_=>none):
    Calls P f args W λe W'=> ∃v,e= .returned v/\s.post enc P fn yA oA yA yA W args v W':=by
  have hW':=hW;obtain⟨p,q,hA,hV,rfl,_,_⟩:=hW;rw[hv]at hV;obtain⟨rfl,rfl⟩:=trodVars_none hV;simp only[jD,aa,decide_eq_true_eq]at hplain;obtain⟨ss,l1,l2,l3,hr,hs⟩:=C0t (P:=P) (w:=W) (n:=n) fn.params.toList args.toList ds p (λt ht=>(hplain t ht).1.1) (λj t v ht hvv=>hval j t v (by simpa using ht)<|by simpa using hvv) hA;obtain⟨H',hm⟩:=main ss rfl l2 l3 hs;have hc:=E0D (P:=P) (f:=f) l1 hr hm hG;have ha:args.toList.toArray=args:=by simp
  rw[ha]at hc;refine hc.mono λe W' ⟨he,hb⟩=> ?_
  obtain⟨e1,e2,e3⟩:=hspec l2;refine⟨_,he,ds,[],_,[],p++ [],[],hW', ?_, ?_, ?_,hb.frame _,λh=>by cases h⟩;rw[bH,e1,hrt];exact trodAll_mk1<|shut_bool htb _;rw[bH,e2,bH];exact v0q hl hb _ _ _ _ (λt ht=>⟨(hplain t ht).1.2,(hplain t ht).2⟩) hA (λx hx=>by have:=hW'.lt x (by simpa using hx);simpa using this);rw[bH,e3,hv];rfl
end
/-! Loops. -/
section
variable {S O : Type} {step : S -> Option (S ⊕ O)}
def g0S {s s':S} (h:step s=wA (.inl s')):a0m step (n+1) s=a0m step n s':=by
  simp only[a0m,h]
def j0U {s:S} {o:O} (h:step s=wA (.inr o)):a0m step (n+1) s=wA o:=by
  simp only[a0m,h]
theorem x0R(I:S->Prop)(g:S->Nat)(post:O->Prop)(hs: ∀s,I s->(∃s',step s=wA (.inl s')/\I s'/\g s'<g s)\/(∃o,step s=wA (.inr o)/\post o)):
    ∀(n:Nat) (s:S),I s->g s<n-> ∃o,a0m step n s=wA o/\post o:=by
  intro n
  induction n with
  |zero=>intro s _ h;omega
  |succ n ih=>
    intro s hi hg;rcases hs s hi with⟨s',h1,h2,h3⟩|⟨o,h1,h2⟩;rw[g0S h1];exact ih s' h2 dA;exact⟨o,j0U h1,h2⟩
end
def F0H (h:n<18446744073709551616):n<big:=h
def w64 {n:Int} (h1: -9223372036854775808<=n)(h2:n<=9223372036854775807):IntKind.i64.wrap n=n:=by
  unfold zA;simp only[oF,zH,cz,cv,aD,if_false,decide_eq_true_eq]
  first|omega|(split<;>rename_i hc<;>simp at hc<;>omega)
def w8 {n:Int} (h1:0<=n)(h2:n<=255):IntKind.u8.wrap n=n:=by
  unfold zA;simp only[oF,zH,cz,cv,aD,if_false,decide_eq_true_eq]
  first|omega|(split<;>rename_i hc<;>simp at hc<;>omega)
def k0M (h:i<n):inR (i:Int) n=true:=g0g.2 ⟨dA,dA⟩
def a0c {i:Int} (h1:0<=i)(h:i<n):inR i n=true:=g0g.2 ⟨h1,h⟩
def k0J [Inhabited T] {xs:List T} (h:i<xs.length):nth xs (i:Int)=xs[i]:=by
  unfold nth;rw[bF,am,af h];rfl
def G0L (h:n<=140737488400000):o0D n=true:=by simp[o0D,cq,h]
def a0e (h:n<=4294967296):room n=true:=by simp[room,cq,h]
def l0j (h1:0<=l)(h2:l<=h)(h3:h<=n):inS l h n=true:=n0z.2 ⟨h1,h2,h3⟩
def M0C {c:Int} (h1:0<=l)(h2:l<=c)(h3:c<=4294967296):mk l c=true:=I0p.2 ⟨h1,h2,h3⟩
def dT {p:Prop} [Decidable p](h:p):vA p=true:=decide_eq_true h
def dF {p:Prop} [Decidable p](h: ¬p):vA p=false:=decide_eq_false h
/-! Parameters. -/
section
open Go.ChangeShapes Go.WideShapes Go.ChangeAt
variable {P : Program} {H : Type}
def s0p(P:Program) {H:Type} (t:TypeId)(d:DataW H):Prop:= ∀n∈d.weights P t,n<=reachBytes
theorem p0o {ts:List TypeId} {ds:List (DataW H)} (h:(DataW.weightsEach P ts ds).all (· <=reachBytes)=oA) {j:Nat} {d:DataW H} (ht:ts[j]?=wA t)(hd:ds[j]?=wA d):s0p P t d:=
  λn hn=>by
    have:=List.all_eq_true.1 h _<|DataW.weights_mem_each ht hd n hn;simpa using this
def k0D {e:TypeId} {n:Nat} : ∀(l:List<|DataW H) (y:DataW H),y∈l->n∈y.weights P e->n∈DataW.weightsAll P e l
  | [],y,h,_=>by cases h
  |x::l,y,h,hn=>by
    simp only[DataW.weightsAll,al];rcases aT.1 h with rfl|h;exact .inl hn;exact .inr<|k0D l y h hn
theorem G0v {e:TypeId} {elems rest:List (DataW H)} (hu:P.underlying t=wA (.slice e))(h:s0p P t<|.slice elems rest) {y:DataW H} (hy:y∈elems):s0p P e y:=λn hn=>by
  refine h n ?_;simp only[DataW.weights,hu,aT,al];exact .inr<|.inl<|k0D elems y hy hn
def D0o {e:TypeId} {elems rest:List (DataW H)} (hu:P.underlying t=wA (.slice e))(hb:0<P.bytesOf e)(h:s0p P t<|.slice elems rest):elems.length<=140737488355328:=by
  have h1:=h ((elems.length+rest.length)*P.bytesOf e) (by simp[DataW.weights,hu]);have h2:=reachBytes_lt;have h3:elems.length<=(elems.length+rest.length)*P.bytesOf e:=aF (Nat.le_add_right _ _)<|Nat.le_mul_of_pos_right _ hb;omega
theorem B0x {parts:List (DataW H)} (hu:P.underlying t=wA (.struct fs))(h:s0p P t<|.agg parts) {f:Field} {p:DataW H} (hf:fs[i]?=wA f)(hp:parts[i]?=wA p):s0p P f.type p:=λn hn=>by
  refine h n ?_;simp only[DataW.weights,hu];exact DataW.weights_mem_each (j:=i) (by simp[hf]) hp n hn
def r0G(P:Program)(n:Nat)(t:TypeId) (enc:T->List SV)(Wf:T->Prop):Prop:= ∀ {H:Type} (d:DataW H) (cs:List SV),e0x P n t d cs->s0p P t d-> ∃x:T,cs=enc x/\Wf x
def WfL (Wf:T->Prop)(zs:List T):Prop:=zs.length<=140737488355328/\ ∀z∈zs,Wf z
def WfI(k:IntKind)(z:Int):Prop:=(Lit.int k z).wf=oA
def WfB(_:Bool):Prop:=True
def WfT(s:List UInt8):Prop:=s.length<=140737488355328
theorem c0Y {k:IntKind} (hu:P.underlying t=wA (.int k)):r0G P (n+1) t (a0l k) (WfI k):=λd cs h _=>by
  unfold e0x at h;rw[hu]at h;obtain⟨z,_,h2,hw⟩:=h;exact⟨z,h2,hw⟩
theorem o0d (hu:P.underlying t=wA .bool):r0G P (n+1) t H0I WfB:=λd cs h _=>by
  unfold e0x at h;rw[hu]at h;obtain⟨z,_,h2⟩:=h;exact⟨z,h2,trivial⟩
theorem g0m (hu:P.underlying t=wA .string):r0G P (n+1) t u0h WfT:=λd cs h hs=>by
  unfold e0x at h;rw[hu]at h;obtain⟨z,h1,h2⟩:=h;subst h1;refine⟨z,h2, ?_⟩;have h3:=hs z.length (by simp[DataW.weights]);have h4:=reachBytes_lt;unfold WfT;omega
theorem k0S {enc:T->List SV} {Wf:T->Prop} {e:TypeId} (hu:P.underlying t=wA (.slice e)) (hc:P.cellsOf e=k)(hb:yD 0 (P.bytesOf e)=oA)(hel:r0G P n e enc Wf):
    r0G P (n+1) t (k0j enc k) (WfL Wf):=λ{H} d cs h hs=>by
  unfold e0x at h;rw[hu]at h;simp only at h;rcases h with⟨rfl,h2⟩|⟨elems,rest,xs,rfl,h2,hl,hx,hall⟩;exact⟨[],by rw[h2,hc];rfl,dE,λz hz=>(by cases hz)⟩;rw[hc]at h2;have hlen:=D0o hu (by simpa [cZ]using hb) hs
  have key: ∀(xs:List<|List SV) (elems:List<|DataW H),(∀y∈elems,s0p P e y)->xs.length=elems.length->(∀(i:Nat) y x,elems[i]?=wA y->xs[i]?=wA x->e0x P n e y x)-> ∃zs:List T,xs.flatten=zs.flatMap enc/\(∀z∈zs,Wf z)/\elems.length=zs.length:=by
    intro xs
    induction xs with
    |nil=>intro elems _ hl _;exact⟨[],rfl,λz hz=>(by cases hz),by simpa using hl.symm⟩
    |cons x xs ih=>
      intro elems hsz hl h
      cases elems with
      |nil=>simp at hl
      |cons y elems=>
        obtain⟨zs,e1,e2,e3⟩:=ih elems (λy hy=>hsz y<|aq _ hy) (by simpa using hl) (λi y x hy hx=>h (i+1) y x (by simpa using hy)<|by simpa using hx);obtain⟨z,rfl,hw⟩:=hel y x (h 0 y x rfl rfl)<|hsz y<|az ..;refine⟨z::zs,by simp[e1],λz' hz'=> ?_,by simp[e3]⟩;rcases aT.1 hz' with rfl|hm;exact hw;exact e2 _ hm
  obtain⟨zs,e1,e2,e3⟩:=key xs elems (λy hy=>G0v hu hs hy) hl hall;exact⟨zs,by rw[h2,e1];unfold k0j;rw[hl,e3],dA,e2⟩
def l0y {d:DataW H} (hu:P.underlying t=wA (.struct fs))(h:l0q P n t d s): ∃cs,s= .agg cs/\e0x P n t d cs:=by
  unfold l0q at h;rw[hu]at h;exact h
def a0t {d:DataW H} (hu:P.underlying t=wA (.struct fs))(h:e0x P (n+1) t d cs)(hs:s0p P t d)(i:Nat)(ty:TypeId)(cs':List SV)
    (hf:(fs[i]?).map (λf=>(f.type,(cs.drop f.offset).take<|P.cellsOf f.type))=wA (ty,cs')): ∃p:DataW H,e0x P n ty p cs'/\s0p P ty p:=by
  unfold e0x at h;rw[hu]at h;obtain⟨_,parts,rfl,hl,hall⟩:=h
  cases hfi:fs[i]? with
  |none=>rw[hfi]at hf;cases hf
  |some f=>
    rw[hfi]at hf;simp only[aV,ai,aG]at hf;obtain⟨rfl,rfl⟩:=hf;have hi:=(ak.1 hfi).1;have hi':i<parts.length:=by omega
    exact⟨parts[i],hall i f _ hfi<|af hi',B0x hu hs hfi<|af hi'⟩
def j0v {d:DataW H} (hu:P.underlying t=wA (.struct fs))(h:e0x P (n+1) t d cs):cs.length=P.cellsOf t:=by
  unfold e0x at h;rw[hu]at h;exact h.1
def o0f {m:Nat} {e:TypeId} {d:DataW H} (hu:P.underlying t=wA (.array m e))(h:e0x P (n+1) t d cs)(hs:s0p P t d)(i:Nat)(cs':List SV)(hi:yD i m=oA)
    (hf:(cs.drop<|i*P.cellsOf e).take (P.cellsOf e)=cs'): ∃p:DataW H,e0x P n e p cs'/\s0p P e p:=by
  unfold e0x at h;rw[hu]at h;obtain⟨_,parts,rfl,hl,hall⟩:=h;have hi':i<parts.length:=by rw[hl];simpa [cZ]using hi
  refine⟨parts[i],by rw[<-hf];exact hall i _<|af hi',λn hn=>hs n ?_⟩;simp only[DataW.weights,hu];exact k0D parts _ (ca hi') hn
def B0y {m:Nat} {e:TypeId} {d:DataW H} (hu:P.underlying t=wA (.array m e))(h:e0x P (n+1) t d cs):cs.length=P.cellsOf t:=by
  unfold e0x at h;rw[hu]at h;exact h.1
end
def l1 {l:List α} (h:l.length=1): ∃a,l=[a]:=by
  match l,h with
  | [a],_=>exact⟨a,rfl⟩
def l2 {l:List α} (h:l.length=2): ∃a b,l=[a,b]:=by
  match l,h with
  | [a,b],_=>exact⟨a,b,rfl⟩
def l3 {l:List α} (h:l.length=3): ∃a b c,l=[a,b,c]:=by
  match l,h with
  | [a,b,c],_=>exact⟨a,b,c,rfl⟩
def l0p [DecidableEq α](x y:Option α):Option α:=if x=y then y else none
def N0D [DecidableEq α] {e:Bool} {x y:Option α} {r:α} (he:e=oA)(h:(bif e then l0p x y else y)=wA r):x=wA r:=by
  subst he;simp only[jC,l0p]at h;split at h;rename_i hxy;rw[hxy];exact h;cases h
def N0E [DecidableEq α] {e:Bool} {x y:Option α} {r:α} (h:(bif e then l0p x y else y)=wA r):y=wA r:=by
  cases e with
  |false=>exact h
  |true=>
    simp only[jC,l0p]at h;split at h;exact h;cases h
/-! A map is asked for a key that isn't known. -/
def D0u(k key:SV)(b:Bool):Bool:=match k0F k key with
  |some x=>x==b
  |none=>yA
def M0Y(k:SV):List (SV×SV)->Nat->Bool
  | [],_=>yA
  |e::_,0=>D0u k e.1 oA
  |e::r,j+1=>D0u k e.1 yA&&M0Y k r j
def H0j(k:SV):List (SV×SV)->Bool
  | []=>oA
  |e::r=>D0u k e.1 yA&&H0j k r
theorem r0a {k key:SV} (h:D0u k key b=oA):k0F k key=wA b:=by
  unfold D0u at h;split at h;rename_i x hx;simp at h;subst h;exact hx;cases h
def A0R {k:SV} : ∀(es:List<|SV×SV) (j:Nat) {e:SV×SV},es[j]?=wA e->M0Y k es j=oA->g0I es k=wA (wA e.2)
  | [],j,e,h,_=>by simp at h
  |x::es,0,e,h,hc=>by
    simp only[cy,ai]at h;subst h;simp only[M0Y]at hc;simp only[g0I,r0a hc]
  |x::es,j+1,e,h,hc=>by
    simp only[M0Y,aa]at hc;simp only[g0I,r0a hc.1];exact A0R es j (by simpa using h) hc.2
def x0I {k:SV} : ∀(es:List<|SV×SV),H0j k es=oA->g0I es k=wA none
  | [],_=>rfl
  |x::es,hc=>by
    simp only[H0j,aa]at hc;simp only[g0I,r0a hc.1];exact x0I es hc.2
def K0g(P:Program)(o:Oper)(ρ:Env)(H:a0f)(j:Option Nat):Option (Eff×Bool):=
  match o.op with
  | .lookup t m k ok=>match P.underlying t,a0C ρ m,a0C ρ k with
    |some (.map kt et),wA (.mp i),wA sk=>match H[i]? with
      |some (.map es)=>if t0H P kt sk=oA then(match j with
        |some j=>match es[j]? with
          |some e=>wA (⟨m0l ok e.2 oA,[i],[]⟩,M0Y sk es j)
          |none=>none
        |none=>match B0n P et with
          |some z=>wA (⟨m0l ok z yA,[i],[]⟩,H0j sk es)
          |none=>none)else none
      |_=>none
    |_,_,_=>none
  |_=>none
def z0s {k:SV} (h:t0H P kt k=oA):t0I P kt k=oA/\p0G P kt es k=g0I es k:=by
  cases k<;>first|exact⟨h,rfl⟩|(exfalso;unfold t0H at h;split at h<;>simp_all)
theorem z0q {H:a0f} {idx:Nat} {j:Option Nat} (h:K0g P o ρ H j=wA (ef,b))(hb:b=oA):a0E P o ρ H idx=wA ef:=by
  unfold K0g at h;split at h;rename_i t m k ok ho;split at h;rename_i kt et i sk hu hm hk;split at h;rename_i es hH;split at h;rename_i hkey
  have fin:k0K P t (a0C ρ m) (a0C ρ k) ok H=wA ef->a0E P o ρ H idx=wA ef:=by
    intro hl;unfold a0E a0k a0o;simp only[ho];exact hl
  refine fin ?_;unfold k0K;rw[hu,hm,hk];simp only[hH];obtain⟨hk1,hk2⟩:=z0s (es:=es) hkey;rw[wB hk1,hk2];split at h;rename_i j;split at h;rename_i e he;cases h;rw[A0R es j he hb];cases h;split at h;rename_i z hz;cases h;rw[x0I es hb,hz];cases h;cases h;cases h;cases h;cases h
section
variable {F : Fr} {P : Program} {L : LE} {H : a0f} {Q : f0Z} {m : Option Nat} {ops : Array Oper} {p : Nat} {tr : List (List Nat × List Nat)}
def E0s(P:Program)(m:Option Nat)(ops:Array Oper)(p:Nat)(tr:List<|List Nat×List Nat)(L:LE)(H:a0f)(j:Option Nat):Option (Option Nat×Eff×Bool×List (List Nat×List Nat)):=
  match ops.toList[p]? with
  |none=>none
  |some o=>match a0Y ops (a0p L) o with
    |some oA=>bif b0S o then none else match K0g P o (a0p L) H j with
      |some (ef,c)=>bif okM m ops p o ef tr H then wA (o.dst,ef,c,trM m ops p o ef tr)else none
      |none=>none
    |_=>none
theorem RJ.look(j:Option Nat) {c:Bool} (h:E0s P m ops p tr L H j=wA (d,ef,c,tr2))(hc:c=oA)(k:RJ F P m ops (p+1) tr2 (g0e L d ef.v) (b0a H ef.wr) Q):RJ F P m ops p tr L H Q:=by
  unfold E0s at h;split at h;cases h;rename_i o ho;split at h;rename_i hg
  cases hcc:b0S o with
  |true=>rw[hcc]at h;cases h
  |false=>
    rw[hcc]at h;simp only[wD]at h;split at h;rename_i ef2 c2 he
    cases hok:okM m ops p o ef2 tr H with
    |false=>rw[hok]at h;cases h
    |true=>
      rw[hok]at h;simp only[jC,ai,aG]at h;obtain⟨rfl,rfl,rfl,rfl⟩:=h;exact RJ.step ho hg hcc (z0q he hc) hok k
    cases h
  cases h
end
section
variable {F : Fr} {P : Program} {L : LE} {H : a0f} {Q : f0Z} {ops : Array Oper} {p : Nat} {tr : List (List Nat × List Nat)}
def k0x(P:Program)(t:TypeId):Bool:=match P.underlying t with
  |some (.slice _)=>oA
  |_=>yA
def A0Q:Operand->Bool
  | .const (.slice none 0 0)=>oA
  |_=>yA
def J0W(P:Program)(ops:Array Oper)(p:Nat)(L:LE):Option (Nat×Nat×Bool):=
  match ops.toList[p]? with
  |none=>none
  |some o=>match a0Y ops (a0p L) o,o.dst,o.op with
    |some oA,wA d, .binOp op t x y _=>match a0C (a0p L) x with
      |some (.lst n _ _)=>bif k0x P t&&A0Q y then(match op with
        | .eql=>wA (d,n,oA)
        | .neq=>wA (d,n,yA)
        |_=>none)else none
      |_=>none
    |_,_,_=>none
theorem x0i {ad:Option Addr} {c:Nat} (ht:k0x P t=oA):(do eqGuard .eql t x y (.slice ad n c) (.slice none 0 0);binOp .eql t (.slice ad n c) (.slice none 0 0):Sem Value).run P w= .ok (.bool ad.isNone) w:=by
  unfold k0x at ht;split at ht;rename_i e hu;rw[p0p _ _<|by rfl];simp only[binOp,zD,run_equal_slice_nil w t e ad n c hu,wC,jE];cases ht
theorem u0H {ad:Option Addr} {c:Nat} (ht:k0x P t=oA):(do eqGuard .neq t x y (.slice ad n c) (.slice none 0 0);binOp .neq t (.slice ad n c) (.slice none 0 0):Sem Value).run P w= .ok (.bool !ad.isNone) w:=by
  unfold k0x at ht;split at ht;rename_i e hu;rw[p0p _ _<|by rfl];simp only[binOp,zD,run_equal_slice_nil w t e ad n c hu,wC,jE];cases ht
theorem RJ.isNil {d:Nat} {eq:Bool} (h:J0W P ops p L=wA (d,n,eq))(k: ∀b:Bool,(b=oA->n=0)->RJ F P none ops (p+1) tr ((d, .bool<|bif eq then b else !b)::L) H Q):RJ F P none ops p tr L H Q:=by
  unfold J0W at h;split at h
  cases h
  · rename_i o ho
    split at h
    · rename_i d2 op t x y u hg hd ho2
      split at h
      · rename_i n2 k2 cs hx
        cases hty:(k0x P t&&A0Q y)with
        |false=>rw[hty]at h;cases h
        |true=>
          rw[hty]at h;simp only[aa]at hty;obtain⟨ht,hy⟩:=hty;intro hin a w hs;have hbo:Oper.inB F.n ops o=true:=List.all_eq_true.1 hin o<|p0c ho;obtain⟨hdf,K,D,hi⟩:=hs;rw[e0h ho];refine wpList_step λKK hKK=> ?_
          rw[b0C hi.slots (Oper.inB_guard hbo) hg,wB rfl]
          have hxb:Operand.inB F.n x=true:=by
            have h1:=Oper.inB_op hbo;unfold Op.inB at h1;rw[aS]at h1;exact h1 x (by simp[ho2,jB])
          have hr:=a0i hi.slots hxb hx
          have hyv:a.eval y= .slice none 0 0:=by
            cases y with
            |const v=>cases v<;>first|(cases hy;done)|(rename_i a1 b1 c1;cases a1<;>first|(cases hy;done)|(cases b1<;>first|(cases hy;done)|(cases c1<;>first|(cases hy;done)|rfl)))
            |_=>cases hy
          have hv: ∃ad c,a.eval x= .slice ad n2 c/\(ad.isNone=oA->n2=0):=by
            generalize a.eval x=v at hr
            cases hr with
            |emp k a cap=>exact⟨a,cap,rfl,λ_=>rfl⟩
            |lst k b off len cap vs cs hk hl hc hcap hm hK h1 hp hh=>exact⟨_,_,rfl,λh=>by cases h⟩
          obtain⟨ad,c,hv,hnn⟩:=hv
          have fin: ∀(b:Bool),(execOp a.eval o).run P w= .ok (.value<|.bool b) w->(d2,n2,eq)=(d,n,eq)->(∃b0:Bool,b=(bif eq then b0 else !b0)/\(b0=oA->n=0))->Oper.wp P o a w KK Q:=by
            rintro b hrun hdn ⟨b0,rfl,hb0⟩;simp only[aG,and_true]at hdn;obtain⟨rfl,rfl⟩:=hdn;unfold Oper.wp;rw[hrun];refine hKK _ _ (k b0 hb0 hin _ w ⟨by rw[a0M];exact hdf,K,D, ?_,hi.hinv,hi.grow⟩);have h9:=hi.slots.put (wA d2) (s:= .bool<|bif eq then b0 else !b0)<|.bool _;rw[b0b]at h9;rw[hd];exact h9
          have hex:execOp a.eval o=(do pure (Next.value<|<-(do eqGuard op t x y (a.eval x) (a.eval y);binOp op t (a.eval x) (a.eval y):Sem Value))):=by unfold execOp;rw[ho2]
          simp only[jC]at h;split at h;cases h;refine fin ad.isNone ?_ rfl ⟨ad.isNone,rfl,hnn⟩;rw[hex,hv,hyv];exact b0m<|x0i ht;cases h;refine fin (!ad.isNone) ?_ rfl ⟨ad.isNone,rfl,hnn⟩;rw[hex,hv,hyv];exact b0m<|u0H ht;cases h
      cases h
    cases h
end
section
variable {F : Fr} {P : Program} {m : Option Nat} {L : LE} {H : a0f} {Q : f0Z} {ops : Array Oper} {p : Nat} {tr : List (List Nat × List Nat)}
theorem RJ.pin(t:Nat) {kd:IntKind} {c:Int} (ht:lk L t= .int kd j)(hj:j=c)(h:RJ F P m ops p tr ((t, .int kd c)::L) H Q):RJ F P m ops p tr L H Q:=by
  subst hj
  have he:a0p ((t, .int kd j)::L)=a0p L:=by
    funext i;show lk ((t, .int kd j)::L) i=lk L i;simp only[lk]
    cases hb:yB i t with
    |false=>rfl
    |true=>
      have:=ae hb;subst this;rw[ht];rfl
  cases m with
  |none=>
    intro hall a w hs;exact h hall a w (by unfold Sees at hs⊢;rw[he];exact hs)
  |some base=>
    intro hl;have:=h hl;rw[he]at this;exact this
end
/-! Maps whose entries are a list of natives. -/
def r0r {K V:Type} (ek:K->SV)(ev:V->SV)(ms:List<|K×V):List (SV×SV):=ms.map λp=>(ek p.1,ev p.2)
def i0L {K V:Type} (eq:K->K->Bool):List (K×V)->K->Option V
  | [],_=>none
  |p::r,k=>bif eq k p.1 then wA p.2 else i0L eq r k
def D0C {K V:Type} {ek:K->SV} {ev:V->SV} (h1: ∀f a,SV.rn f (ek a)=ek a)(h2: ∀f b,SV.rn f (ev b)=ev b)(f:Nat->Nat)(ms:List<|K×V):Ent.rn f (.map<|r0r ek ev ms)= .map (r0r ek ev ms):=by
  simp only[Ent.rn,r0r,cg];congr 1;exact bG λp _=>by simp[h1,h2]
def x0s {K V:Type} {ek:K->SV} {ev:V->SV} (h1: ∀m a,SV.refs m (ek a)=oA)(h2: ∀m b,SV.refs m (ev b)=oA)(m:Nat)(ms:List<|K×V):Ent.refs m (.map<|r0r ek ev ms)=true:=by
  simp[Ent.refs,r0r,h1,h2]
def u0Z {P:Program} {kt:TypeId} {K V:Type} {ek:K->SV} {ev:V->SV} {eq:K->K->Bool} (heq: ∀a b,eqS P 9 kt (ek a) (ek b)=wA (eq a b))(x:K): ∀ms:List (K×V),m0D P kt (ek x) (r0r ek ev ms)=wA ((i0L eq ms x).map ev)
  | []=>rfl
  |p::ms=>by
    have ih:=u0Z (ev:=ev) heq x ms;simp only[r0r,ao,m0D,heq,i0L]at ih⊢
    cases eq x p.1 with
    |true=>rfl
    |false=>exact ih
section
variable {F : Fr} {P : Program} {m : Option Nat} {L : LE} {H : a0f} {Q : f0Z} {ops : Array Oper} {p : Nat} {tr : List (List Nat × List Nat)}
def E0q(P:Program)(o:Oper)(ρ:Env)(H:a0f):Option (TypeId×Nat×List (SV×SV)×List SV×SV×Bool):=
  match o.op with
  | .lookup t m k ok=>match P.underlying t,a0C ρ m,a0C ρ k with
    |some (.map kt et),wA (.mp i),wA (.agg cs)=>match H[i]?,B0n P et with
      |some (.map es),wA z=>if t0I P kt (.agg cs)=oA then wA (kt,i,es,cs,z,ok)else none
      |_,_=>none
    |_,_,_=>none
  |_=>none
theorem x0T {idx:Nat} {z:SV} {ok:Bool} (h:E0q P o ρ H=wA (kt,i,es,cs,z,ok)) {r:Option SV} (hf:m0D P kt (.agg cs) es=wA r):
    a0E P o ρ H idx=wA ⟨m0l ok (r.getD z) r.isSome,[i],[]⟩:=by
  unfold E0q at h
  split at h
  · rename_i t m k ok' ho
    split at h
    · rename_i kt' et i' cs' hu hm hk
      split at h
      · rename_i es' z' hH hz
        split at h<;>cases h
        rename_i hkey;unfold a0E a0k a0o;simp only[ho];unfold k0K;rw[hu,hm,hk];simp only[hH];rw[wB hkey];have:p0G P kt es (.agg cs)=wA r:=hf;rw[this,hz];cases r<;>rfl
      cases h
    cases h
  cases h
def E0r(P:Program)(m:Option Nat)(ops:Array Oper)(p:Nat)(tr:List<|List Nat×List Nat)(L:LE)(H:a0f):Option (Option Nat×TypeId×Nat×List (SV×SV)×List SV×SV×Bool×List (List Nat×List Nat)):=
  match ops.toList[p]? with
  |none=>none
  |some o=>match a0Y ops (a0p L) o with
    |some oA=>bif b0S o then none else match E0q P o (a0p L) H with
      |some (kt,i,es,cs,z,ok)=>bif okM m ops p o ⟨.undef,[i],[]⟩ tr H then wA (o.dst,kt,i,es,cs,z,ok,trM m ops p o ⟨.undef,[i],[]⟩ tr)else none
      |none=>none
    |_=>none
theorem RJ.lookD {K V:Type} (ek:K->SV)(ev:V->SV)(eq:K->K->Bool)(ms:List<|K×V)(x:K)(zv:V) {ok:Bool}
    (h:E0r P m ops p tr L H=wA (d,kt,i,r0r ek ev ms,cs,ev zv,ok,tr2)) (hcs:SV.agg cs=ek x) (heq: ∀a b,eqS P 9 kt (ek a) (ek b)=wA (eq a b))
    (k:RJ F P m ops (p+1) tr2 (g0e L d<|m0l ok (ev<|(i0L eq ms x).getD zv) (i0L eq ms x).isSome) H Q):RJ F P m ops p tr L H Q:=by
  unfold E0r at h;split at h
  cases h
  · rename_i o ho
    split at h
    · rename_i hg
      cases hcc:b0S o with
      |true=>rw[hcc]at h;cases h
      |false=>
        rw[hcc]at h;simp only[wD]at h
        split at h
        · rename_i kt2 i2 es2 cs2 z2 ok2 he
          cases hok:okM m ops p o ⟨.undef,[i2],[]⟩ tr H with
          |false=>rw[hok]at h;cases h
          |true=>
            rw[hok]at h;simp only[jC,ai,aG]at h;obtain⟨rfl,rfl,rfl,rfl,rfl,rfl,rfl,rfl⟩:=h;have hf:=u0Z (ev:=ev) heq x ms;rw[<-hcs]at hf;have hs:=x0T (idx:=I0y m ops p H) he hf;have e1:((i0L eq ms x).map ev).getD (ev zv)=ev ((i0L eq ms x).getD zv):=by cases i0L eq ms x<;>rfl
            have e2:((i0L eq ms x).map ev).isSome=(i0L eq ms x).isSome:=by cases i0L eq ms x<;>rfl
            rw[e1,e2]at hs;exact RJ.step ho hg hcc hs hok k
        cases h
    cases h
end
section
variable {F : Fr} {P : Program} {c : Code} {L : LE} {H : a0f} {Q : f0Z} {m : Option Nat} {ops : Array Oper} {p : Nat} {tr : List (List Nat × List Nat)}
/-! The rules under short names; the kernel checks their conditions. -/
theorem kE(h:PJ F Q .normal L H)(hp:vC ops.size p=true:=by kernel_rfl):RJ F P m ops p tr L H Q:=RJ.end hp h
theorem kEN {c:Code} {Q:f0Z} (h:J F P c L H Q)(hp:vC ops.size p=true:=by kernel_rfl):RJ F P m ops p tr L H (l0u F P c Q):=RJ.end hp<|PJ.next h
theorem kS(k:J F P (cl c) L H<|l0u F P (cr c) Q)(h:s0m c=true:=by kernel_rfl):J F P c L H Q:=K.seq h k
theorem kR(k:RJ F P none (h0w c) 0 [] L H Q)(h:o0H yA c=true:=by kernel_rfl):J F P c L H Q:=K.region h k
theorem kSR(k:RJ F P none (h0w<|cl c) 0 [] L H<|l0u F P (cr c) Q)(h:s0m c=true:=by kernel_rfl)(h2:o0H yA (cl c)=true:=by kernel_rfl):J F P c L H Q:=K.seq h<|K.region h2 k
theorem kT(k:J F P (ct c) L H Q)(h:y0v c L=wA (.bool oA):=by kernel_rfl):J F P c L H Q:=K.condT h k
theorem kF(k:J F P (ce c) L H Q)(h:y0v c L=wA (.bool yA):=by kernel_rfl):J F P c L H Q:=K.condF h k
theorem kX(k:PJ F Q .ret L H)(h:E0I c=true:=by kernel_rfl):J F P c L H Q:=K.ret h k
theorem kK(k:PJ F Q .normal L H)(h:u0V c=true:=by kernel_rfl):J F P c L H Q:=K.skip h k
def kC(q:Nat)(ts:List Nat)(k:RJ F P none ops (p+q) [] (g0s ts<|lOf<|j0x P none ops q p [] L H) (hOf<|j0x P none ops q p [] L H) Q)(h:(j0x P none ops q p [] L H).isSome=true:=by kernel_rfl):RJ F P none ops p [] L H Q:=RJ.segC q ts h k
def kD (q:Nat)(k:RJ F P (wA base) ops (p+q) (tOf<|j0x P (wA base) ops q p tr L H) (lOf<|j0x P (wA base) ops q p tr L H) (hOf<|j0x P (wA base) ops q p tr L H) Q)(h:(j0x P (wA base) ops q p tr L H).isSome=true:=by kernel_rfl):RJ F P (wA base) ops p tr L H Q:=RJ.segDC q h k
theorem kZ {fn:Func} (hn:F.n=fn.ntmps)(hH:F.H0=[])(hdom: ∀i,F.H0.length<=i->F.D0 i=none)(hin:j0L fn.ntmps fn.results.toList=true:=by kernel_rfl)(hret:u0K P fn.results.toList L H=wA v:=by kernel_rfl)(hr:SV.refs 0 v=true:=by kernel_rfl):
    PJ F (u0p P fn F v []) .ret L H:=K.ret0 (.inr rfl) hn hH hdom hin hret hr
theorem kFn {fn:Func}
    (h: ∀F:Fr,F.n=fn.ntmps->F.H0=H->(∀i,F.H0.length<=i->F.D0 i=none)->J F P (e0y fn) (e0M 0 args) H (u0p P fn F v H')) (hf:P.funcs[f]?=wA fn:=by kernel_rfl) (hb:fn.body.isSome=true:=by kernel_rfl) (hcal:b0q P f=true:=by kernel_rfl) (hin:b0p fn.ntmps (e0y fn)=true:=by kernel_rfl) (hn:vC args.length fn.ntmps=true:=by kernel_rfl):SC P f args H v H':=K.fn hf hb hcal hin hn h
def oi {a b:α} (h:wA a=wA b):a=b:=au h
end
theorem G0h {Q:Exit->Act->World->Prop} (I:Nat->Act->World->Prop)
    (hs: ∀n a w,I n a w->c.wp P (λe a' w'=>(e= .normal/\ ∃m,m<n/\I m a' w')\/(e≠ .normal/\Q e a' w')) a w) (h:I n a w):(Code.loop c).wp P Q a w:=by
  have key: ∀n a w,I n a w-> ∀(b:Frame) (k:List Item) (cs:List Frame),∃e a' w',Q e a' w'/\Arrives P (lone (b.at a (.code c:: .inLoop c::k)) cs w) b k cs e a' w':=by
    intro n
    induction n using Nat.strongRecOn with
    |_ n ih=>
      intro a w h b k cs;obtain⟨e,a₁,w₁,hq,harr⟩:=hs n a w h b (.inLoop c::k) cs;rcases hq with⟨rfl,m,hm,hi⟩|⟨hne,hq⟩;obtain⟨e₂,a₂,w₂,hq₂,harr₂⟩:=ih m hm a₁ w₁ hi b k cs;exact⟨e₂,a₂,w₂,hq₂, .of_steps (Steps.trans harr<|.one step_inLoop) harr₂⟩;refine⟨e,a₁,w₁,hq, ?_⟩
      cases e with
      |normal=>exact absurd rfl hne
      |exit id=>exact .pass (x:= .inLoop c) rfl (λ_ _=> .inl dE) harr
      |goto l=>exact .pass (x:= .inLoop c) rfl (λ_ _=> .inl dE) harr
      |ret=>exact .pass (x:= .inLoop c) rfl (λ_ _=> .inl dE) harr
      |panic ch=>exact .pass (x:= .inLoop c) rfl (λ_ _=> .inl dE) harr
      |outgrown=>exact .pass (x:= .inLoop c) rfl (λ_ _=> .inl dE) harr
  intro b k cs;obtain⟨e,a',w',hq,harr⟩:=key n a w h b k cs;exact⟨e,a',w',hq, .of_steps (.one step_loop) harr⟩
def t0F(n:Nat)(seen:Array Nat):Nat:=((oB n).filter λj=> !seen.contains j).length
theorem N0u {mes:Array MapEntry} {c:Nat} (h:N0Z mes c):mes.toList.map (·.born)=oB mes.size:=by
  apply bD;intro j;rw[ar];by_cases hj:j<mes.size;rw[bu hj,cH,aN hj];simp only[aV];rw[h.2 j mes[j]<|aN hj];rw[aA<|by simpa using hj,aA<|by simpa using hj];rfl
def C0d {mes:Array MapEntry} {c:Nat} {seen:Array Nat} (h:N0Z mes c):(leftOf mes seen).size=t0F mes.size seen:=by
  unfold t0F leftOf;rw[<-N0u h,List.filter_map,List.length_map,<-cx,Array.toList_filter];rfl
theorem E0A {seen:Array Nat} {j:Nat} (hj:j<n)(hs:seen.contains j=yA):t0F n (seen.push j)<t0F n seen:=by
  unfold t0F;refine filter_lt (λi=> !seen.contains i) (λi=> !(seen.push j).contains i) (λx hx=> ?_) j (by simpa using hs) (by rw[contains_push];simp) (oB n)<|bo.2 hj;rw[contains_push]at hx;simp at hx⊢;exact hx.1
theorem J0X (w:World)(ty:TypeId)(r bm since c0:Nat)(seen:Array Nat)(es:Array MapEntry)(clock:Nat)(hr:w.heap[r]?=wA (.mapIter (wA bm) since seen c0))(hb:w.heap[bm]?=wA (.map es clock))
    (hold: ∀x∈es.toList,x.born<since) (hsc:since<=c0):
    ((leftOf es seen).size=0/\(Instr.next (.pointer<|wA ⟨r,0,none⟩) yA ty).run P w= .ok (.tuple #[.bool yA]) w)\/
    ∃e∈(leftOf es seen).toList,∃w1:World,(w1=w\/w1=w.drew)/\(Instr.next (.pointer<|wA ⟨r,0,none⟩) yA ty).run P w= .ok (.tuple #[.bool oA,e.key,e.val]) { w1 with heap:=w1.heap.setIfInBounds r (.mapIter (wA bm) since (seen.push e.born) clock) } :=by
  have hrl:r<w.heap.size:=(ak.1 hr).1;simp only[Instr.next,getObj,zD,Sem.run,hr,hb,jF,next_test_false seen es since c0 hold hsc,aD,if_false];unfold leftOf;have hmem: ∀x∈(Array.filter (λe=> !seen.contains e.born) es).toList,x.born<since:=λx hx=>hold x (by simp at hx⊢;exact hx.1)
  generalize Array.filter (λe=> !seen.contains e.born) es=L at hmem⊢;have e1:L.filter (λx=>vA<|x.born<since)=L:=Array.filter_eq_self.2 (λx hx=>by simpa using hmem x (by simpa using hx))
  have e2:L.filter (λx=>vA<|x.born≥since)= #[]:=by
    rw[Array.filter_eq_empty_iff];intro x hx;have:=hmem x (by simpa using hx);simp;omega
  simp only[e1,e2,Array.append_empty];by_cases h0:L.size=0;left;have:L= #[]:=Array.eq_empty_of_size_eq_zero h0;subst this;refine⟨rfl, ?_⟩;simp[choose,Sem.run,Question.forced];right;have hne:L.isEmpty=false:=by simp[Array.isEmpty,h0]
  simp only[hne,aD,if_false,Array.empty_append,Array.size_map]
  have hch: ∃(j:Nat) (w1:World),j<L.size/\(w1=w\/w1=w.drew)/\(choose<|Question.mapNext L.size).run P w= .ok j w1:=by
    by_cases hf:L.size<=1;exact⟨0,w,dA, .inl rfl,by simp[choose,Sem.run,Question.forced,hf]⟩
    exact⟨_,w.drew,Nat.mod_lt _ dA, .inr rfl,by
      simp only[choose,Sem.run,Question.forced,decide_eq_true_eq,hf,if_false,Question.cut]
      rfl⟩
  obtain⟨j,w1,hj,hal,hrun⟩:=hch;refine⟨L[j],dE,w1,hal, ?_⟩
  have hget:w1.heap[r]?=wA (.mapIter (wA bm) since seen c0):=by
    rcases hal with rfl|rfl;exact hr;exact hr
  have hset: ∀o':Obj,(setObj r o').run P w1= .ok () { w1 with heap:=w1.heap.setIfInBounds r o' } :=λo'=>by
    simp only[setObj,Sem.run,hget]
  simp only[hrun,Array.getElem?_map,aN hj,aV,zD,hset,jF];rfl
section
variable {F : Fr} {P : Program} {L : LE} {H : a0f} {Q : f0Z} {ops : Array Oper} {p : Nat} {tr : List (List Nat × List Nat)}
def D0M(P:Program)(ops:Array Oper)(p:Nat)(L:LE)(H:a0f):Option (Option Nat×Nat×Nat):=
  match ops.toList[p]? with
  |some o=>match a0Y ops (a0p L) o,o.op with
    |some oA, .range t x=>match P.underlying t,a0C (a0p L) x with
      |some (.map _ _),wA (.mp i)=>match H[i]? with
        |some (.map es)=>wA (o.dst,i,es.length)
        |_=>none
      |_,_=>none
    |_,_=>none
  |none=>none
theorem RJ.range (h:D0M P ops p L H=wA (d,i,n))(k:RJ F P none ops (p+1) tr (g0e L d<|.ptr H.length 0) (H++ [.itr i n []]) Q):RJ F P none ops p tr L H Q:=by
  unfold D0M at h;split at h;rename_i o ho;split at h;rename_i t x hg hop;split at h;rename_i kt et i' hu hxe;split at h;rename_i es hH;simp only[ai,aG]at h;obtain⟨rfl,rfl,rfl⟩:=h;intro hin a w hs;have hbo:Oper.inB F.n ops o=true:=List.all_eq_true.1 hin o<|p0c ho;obtain⟨hd,K,D,hi⟩:=hs;rw[e0h ho];refine wpList_step λKK hKK=> ?_
  rw[b0C hi.slots (Oper.inB_guard hbo) hg,wB rfl]
  have hx:Operand.inB F.n x=true:=by
    have hb:=Oper.inB_op hbo;unfold Op.inB at hb;rw[hop]at hb;simpa [jB]using hb
  obtain⟨r,c,m,hvx,hdi⟩:=u0L<|a0i hi.slots hx hxe;obtain⟨r',mes,clock,h1,h2,h3,h4,hB,h5⟩:=hi.hinv.ent _ _ hH;rw[h1]at hdi;cases hdi
  have hrun:(execOp a.eval o).run P w= .ok (.value<|.pointer<|wA ⟨w.heap.size,0,none⟩) (w.alloc<|.mapIter (wA r) clock #[] clock):=by
    unfold execOp;rw[hop];exact b0m (by rw[hvx];exact run_range_map w t kt et r mes clock hu h3)
  have hK0:K w.heap.size=0:=by
    rcases bB (K w.heap.size)with h0|h0;exact h0;have:=hi.hinv.kw w.heap.size dA;omega
  have hold: ∀b,b<w.heap.size->(w.alloc<|.mapIter (wA r) clock #[] clock).heap[b]?=w.heap[b]?:=λb hb=>by show(w.heap.push _)[b]?=_;rw[bO,vB dA]
  have hcl:clock=es.length:=by rw[hB.1,h4]
  obtain⟨g,hi'⟩:=place (w':=w.alloc<|.mapIter (wA r) clock #[] clock) (en:= .itr i' es.length []) (b:=w.heap.size) (c:=0) (m:=0) hi.hinv (idx:=H.length) (.inl rfl) (x:=none) dE (.inl<|aj _) rfl rfl rfl dE (λb' _ hlt=>hold b' hlt)
    (λhr=>⟨_,r,clock,by simp[g0w],hK0,by subst hcl;show(w.heap.push _)[w.heap.size]?=_;simp,dA,hr _ _<|.mp i' r 0 0 h1⟩)
  rw[g0U]at g hi';have hset:h0L H H.length (.itr i' es.length [])=H++ [.itr i' es.length []]:=by unfold h0L;rw[vB dA]
  rw[hset]at g hi';unfold Oper.wp;rw[hrun];refine hKK _ _<|k hin _ _ ?_;refine⟨by rw[a0M];exact hd, ?_⟩;have:=hi.step (d:=o.dst) ⟨K,_,g,hi', .ptr H.length 0 w.heap.size 0 0<|by simp[g0w]⟩;rw[b0b]at this;exact this;cases h;cases h;cases h;cases h
theorem RJ.next {j:Nat} {s:List Nat} (ho:ops.toList[p]?=wA o)(hg:o.guard=none)(hop:o.op= .next x yA)(hxe:a0C (a0p L) x=wA (.ptr j 0))(hj:H[j]?=wA (.itr i n s))(hH:H[i]?=wA (.map es))(hn:es.length=n)
    (k0:t0F n s.toArray=0->RJ F P none ops (p+1) tr (g0e L o.dst<|.tup [.bool yA]) H Q)
    (k1: ∀b,b<n->s.contains b=yA->RJ F P none ops (p+1) tr (g0e L o.dst<|.tup [.bool oA, .undef, .undef]) (H.set j<|.itr i n<|s++ [b]) Q):RJ F P none ops p tr L H Q:=by
  intro hin a w hs;have hbo:Oper.inB F.n ops o=true:=List.all_eq_true.1 hin o<|p0c ho;obtain⟨hd,K,D,hi⟩:=hs;rw[e0h ho];refine wpList_step λKK hKK=> ?_
  rw[b0C hi.slots (Oper.inB_guard hbo) (b:=oA)<|by unfold a0Y;rw[hg],wB rfl]
  have hx:Operand.inB F.n x=true:=by
    have hb:=Oper.inB_op hbo;unfold Op.inB at hb;rw[hop]at hb;simpa [jB]using hb
  obtain⟨r,c,m,hvx,hdj⟩:=r0h<|a0i hi.slots hx hxe;obtain⟨r',bm,c0,e1,e2,e3,e4,e5⟩:=hi.hinv.ent _ _ hj;rw[e1]at hdj;cases hdj;obtain⟨rm,mes,clock,h1,h2,h3,h4,hB,h5⟩:=hi.hinv.ent _ _ hH;obtain⟨_,_,_,hv,hdi⟩:=u0L e5;cases hv;rw[h1]at hdi;cases hdi;have hsz:mes.size=n:=by rw[<-h4];exact hn
  have hold: ∀y∈mes.toList,y.born<n:=λy hy=>by
    obtain⟨q,hq,rfl⟩:=List.mem_iff_getElem.1 hy;have hq':q<mes.size:=by simpa using hq
    have:=hB.2 q mes[q]<|aN hq';have e:mes.toList[q]=mes[q]:=by simp
    rw[e,this];omega
  have hrv:(execOp a.eval o)=(do pure (Next.value<|<-Instr.next (a.eval x) yA o.type)):=by unfold execOp;rw[hop]
  rcases J0X (P:=P) w o.type r bm n c0 s.toArray mes clock e3 h3 hold dA with⟨hz,hrun⟩|⟨e,he,w1,hal,hrun⟩;unfold Oper.wp;rw[hrv,b0m<|by rw[hvx];exact hrun];refine hKK _ _ (k0 (by rw[C0d hB,hsz]at hz;exact hz) hin _ _ ⟨by rw[a0M];exact hd, ?_⟩)
  have:=hi.step (d:=o.dst) (Good.here hi.hinv (.tup [.bool yA] [.bool yA] rfl (λj v c hv hc=>by
    match j with
    |0=>simp at hv hc;subst hv;subst hc;exact .bool _
    |j+1=>simp at hv)))
  rw[b0b]at this;exact this;obtain⟨hm,hns⟩:=mem_left he;have hbn:=hold e hm
  have hw1:Grow w K D H w1 K D H/\HInv w1 K D H/\w1.heap=w.heap:=by
    rcases hal with rfl|rfl;exact⟨Grow.refl _ _ _ _,hi.hinv,rfl⟩;exact⟨Grow.drew _ _ _ _,hi.hinv.drew,rfl⟩
  obtain⟨g1,i1,hh⟩:=hw1;have hrl:r<w1.heap.size:=by rw[hh];exact(ak.1 e3).1
  obtain⟨g2,i2⟩:=modify (w':= { w1 with heap:=w1.heap.setIfInBounds r (.mapIter (wA bm) n (s.toArray.push e.born) clock) }) (en':= .itr i n<|s++ [e.born]) i1 hj rfl rfl e1 rfl rfl rfl dE (λb' hb'=>by
      show(w1.heap.setIfInBounds r _)[b']?=_
      rw[Array.getElem?_setIfInBounds_ne<|Ne.symm hb'])
    (λhr=>⟨r,bm,clock,e1,e2,by
      show(w1.heap.setIfInBounds r _)[r]?=_
      rw[Array.getElem?_setIfInBounds_self_of_lt hrl];simp,by rw[hB.1];omega,hr _ _<|.mp i bm 0 0 h1⟩)
  unfold Oper.wp;rw[hrv,b0m<|by rw[hvx];exact hrun];refine hKK _ _ (k1 e.born hbn (by simpa using hns) hin _ _ ⟨by rw[a0M];exact hd, ?_⟩)
  have:=hi.step (d:=o.dst) ⟨K,D,g1.trans g2,i2, .tup [.bool oA,e.key,e.val] [.bool oA, .undef, .undef] rfl (λj v c hv hc=>by
    match j with
    |0=>simp at hv hc;subst hv;subst hc;exact .bool _
    |1=>simp at hv hc;subst hc;exact .undef _
    |2=>simp at hv hc;subst hc;exact .undef _
    |j+3=>simp at hv)⟩
  rw[b0b]at this;exact this
def F0h(ops:Array Oper)(p:Nat)(L:LE)(H:a0f):Option (Option Nat×Nat×Nat×List Nat):=
  match ops.toList[p]? with
  |some o=>match a0Y ops (a0p L) o,o.op with
    |some oA, .entry x=>match a0C (a0p L) x with
      |some (.ptr j off)=>bif yB off 0 then(match H[j]? with
        |some (.itr i n s)=>wA (o.dst,i,n,s)
        |_=>none)else none
      |_=>none
    |_,_=>none
  |none=>none
theorem RJ.entry {b:Nat} {s:List Nat} {kv:SV×SV} (h:F0h ops p L H=wA (d,i,n,s++ [b]))(hH:H[i]?=wA (.map es))(hn:es.length=n)(hb:es[b]?=wA kv)
    (k:RJ F P none ops (p+1) tr (g0e L d<|.tup [kv.1,kv.2]) H Q):RJ F P none ops p tr L H Q:=by
  unfold F0h at h;split at h;rename_i o ho;split at h;rename_i x hg hop;split at h;rename_i j off hxe
  cases hz:yB off 0 with
  |false=>rw[hz]at h;cases h
  |true=>
    rw[hz]at h;simp only[jC]at h;have hoff:off=0:=by simpa using hz
    subst hoff;split at h;rename_i i' n' s' hj;simp only[ai,aG]at h;obtain⟨rfl,rfl,rfl,rfl⟩:=h;intro hin a w hs;have hbo:Oper.inB F.n ops o=true:=List.all_eq_true.1 hin o<|p0c ho;obtain⟨hd,K,D,hi⟩:=hs;rw[e0h ho];refine wpList_step λKK hKK=> ?_
    rw[b0C hi.slots (Oper.inB_guard hbo) hg,wB rfl]
    have hx:Operand.inB F.n x=true:=by
      have hb:=Oper.inB_op hbo;unfold Op.inB at hb;rw[hop]at hb;simpa [jB]using hb
    obtain⟨r,c,m,hvx,hdj⟩:=r0h<|a0i hi.slots hx hxe;obtain⟨r',bm,c0,e1,e2,e3,e4,e5⟩:=hi.hinv.ent _ _ hj;rw[e1]at hdj;cases hdj;obtain⟨rm,mes,clock,h1,h2,h3,h4,hB,h5⟩:=hi.hinv.ent _ _ hH;obtain⟨_,_,_,hv,hdi⟩:=u0L e5;cases hv;rw[h1]at hdi;cases hdi;have hbl:b<mes.size:=by rw[<-h4];exact(ab.1 hb).1
    have hme:=aN hbl;have hbo':=hB.2 b mes[b] hme;have hnd:(mes.toList.map (·.born)).Nodup:=by rw[N0u hB];exact List.nodup_range
    have hcc:clock=c0:=by rw[hB.1,<-h4,hn,e4]
    subst hcc
    have hrun:(Instr.entry<|.pointer<|wA ⟨r,0,none⟩).run P w= .ok (.tuple #[mes[b].key,mes[b].val]) w:=by
      have hf:mes.find? (·.born==mes[b].born)=wA mes[b]:=by rw[<-Array.find?_toList];exact find_born mes[b] mes.toList hnd dE
      have e3':w.heap[r]?=wA (.mapIter (wA bm) n' (s.toArray.push b) clock):=by rw[e3];simp
      rw[hbo']at hf;simp only[Instr.entry,getObj,zD,Sem.run,e3',h3,jF,Array.back?_push,bne_self_eq_false,aD,if_false,hf];rfl
    have hrv:(execOp a.eval o)=(do pure (Next.value<|<-Instr.entry (a.eval x))):=by unfold execOp;rw[hop]
    unfold Oper.wp;rw[hrv,b0m<|by rw[hvx];exact hrun];refine hKK _ _ (k hin _ _ ⟨by rw[a0M];exact hd, ?_⟩);obtain⟨q1,q2⟩:=h5 b mes[b] kv hme hb
    have:=hi.step (d:=o.dst) (Good.here hi.hinv (.tup [mes[b].key,mes[b].val] [kv.1,kv.2] rfl (λj v c hv hc=>by
      match j with
      |0=>simp at hv hc;subst hv;subst hc;exact q1
      |1=>simp at hv hc;subst hv;subst hc;exact q2
      |j+2=>simp at hv)))
    rw[b0b]at this;exact this;cases h
  cases h;cases h;cases h
def n0t {E X:Type} [DecidableEq X](f:E->Option (Unit⊕X)):List E->Option (Unit⊕X)
  | []=>wA (.inl ())
  |e::r=>match f e,n0t f r with
    |some (.inl _),y=>y
    |some (.inr x),wA (.inl _)=>wA (.inr x)
    |some (.inr x),wA (.inr y)=>if x=y then wA (.inr x)else none
    |_,_=>none
theorem z0n {E:Type} [DecidableEq X] {f:E->Option (Unit⊕X)} : ∀(ms:List E) (y:Unit⊕X),n0t f ms=wA y->
    (∀e∈ms,∃x,f e=wA x/\ ∀o,x= .inr o->y= .inr o)/\((∀e∈ms,f e=wA (.inl ()))->y= .inl ()):=by
  intro ms
  induction ms with
  |nil=>intro y h;cases h;exact⟨λe he=>by simp at he,λ_=>rfl⟩
  |cons a r ih=>
    intro y h;simp only[n0t]at h;split at h;rename_i u hf;obtain⟨i1,i2⟩:=ih y h;refine⟨λe he=> ?_,λhall=>i2 λe he=>hall e<|aq _ he⟩;rcases aT.1 he with rfl|he;exact⟨_,hf,λo ho=>by cases ho⟩;exact i1 e he;rename_i x u hf hr;cases h;obtain⟨i1,i2⟩:=ih _ hr;refine⟨λe he=> ?_,λhall=>by have:=hall a dE;rw[hf]at this;cases this⟩;rcases aT.1 he with rfl|he;exact⟨_,hf,λo ho=>ho⟩;obtain⟨x',hx',h'⟩:=i1 e he;refine⟨x',hx',λo ho=> ?_⟩;have:=h' o ho
    cases this
    · rename_i x z hf hr
      split at h<;>cases h
      rename_i hxz;subst hxz;obtain⟨i1,i2⟩:=ih _ hr;refine⟨λe he=> ?_,λhall=>by have:=hall a dE;rw[hf]at this;cases this⟩;rcases aT.1 he with rfl|he;exact⟨_,hf,λo ho=>ho⟩;exact i1 e he
    cases h
def O0u (F:Fr)(Q:f0Z)(L:LE)(H:a0f)(y x:Unit⊕X):f0Z:=λe a w=>match x with
  | .inl _=>e= .normal/\Sees F L H a w
  | .inr o=>e≠ .normal/\(y= .inr o->Q e a w)
theorem PJ.mapNext {L2:LE} {y:Unit⊕X} (ts:List Nat)(hL:g0s ts L=L2)(hH:H=H2):PJ F (O0u F Q L2 H2 y<|.inl ()) .normal L H:=λa w hs=>by
  subst hH;exact⟨rfl,by rw[<-hL];exact hs.keep<|k0L ts L⟩
theorem PJ.mapOut {L2:LE} {y:Unit⊕X} {o:X} (hne:e≠ .normal)(h:y= .inr o->PJ F Q e L H):PJ F (O0u F Q L2 H2 y<|.inr o) e L H:=λa w hs=>⟨hne,λhe=>h he a w hs⟩
def z0o(it tn tk b:Nat):Code->Bool
  | .seq (.region _ ops yA) (.seq (.cond (.tmp t) .skip<|.exit b') _)=>yB t tk&&(yB b' b&&match ops.toList with
    | [o0,o1]=>match o0.guard,o0.op,o0.dst,o1.guard,o1.op,o1.dst with
      |none, .next (.tmp it') yA,wA tn1,none, .extract (.tmp tn2) 0,wA tk'=>yB it' it&&(yB tn1 tn&&(yB tn2 tn&&yB tk' tk))
      |_,_,_,_,_,_=>yA
    |_=>yA)
  |_=>yA
theorem x0N {it tn tk b:Nat} (h:z0o it tn tk b c=oA): ∃id ops o0 o1 B,c= .seq (.region id ops yA) (.seq (.cond (.tmp tk) .skip<|.exit b) B)/\ops.toList=[o0,o1]/\
    o0.guard=none/\o0.op= .next (.tmp it) yA/\o0.dst=wA tn/\o1.guard=none/\o1.op= .extract (.tmp tn) 0/\o1.dst=wA tk:=by
  unfold z0o at h;split at h;rename_i id ops t b' B;simp only[aa]at h;obtain⟨h1,h2,h3⟩:=h;split at h3;rename_i o0 o1 hl;split at h3;rename_i it' tn1 tn2 tk' e1 e2 e3 e4 e5 e6;simp only[aa]at h3;obtain⟨q1,q2,q3,q4⟩:=h3;have h1:=ae h1;have h2:=ae h2;have q1:=ae q1;have q2:=ae q2;have q3:=ae q3;have q4:=ae q4;subst h1;subst h2;subst q1;subst q2;subst q3;subst q4;exact⟨id,ops,o0,o1,B,rfl,hl,e1,e2,e3,e4,e5,e6⟩;cases h3;cases h3;cases h
def C0e {s:List Nat} (h:t0F n s.toArray=0): ∀j,j<n->s.contains j=true:=by
  intro j hj;unfold t0F at h;have:=List.length_eq_zero_iff.1 h;rw[List.filter_eq_nil_iff]at this;have h2:=this j<|bo.2 hj;simpa using h2
def I0s {tk tn:Nat} {u:SV} {L2:LE} (hnk:tn≠tk)(htn:lk L2 tn= .undef)(t:Nat):lk ((tk,v)::L2) t=lk ((tk,v)::(tn,u)::L2) t\/lk ((tk,v)::L2) t= .undef:=by
  simp only[lk]
  cases h1:yB t tk with
  |true=>exact .inl rfl
  |false=>
    cases h2:yB t tn with
    |false=>exact .inl rfl
    |true=>have:=ae h2;subst this;exact .inr htn
theorem K.mapLoop {E:Type} [DecidableEq X] (it tn tk b j i:Nat) (h:E0J c=oA)(hc:z0o it tn tk b (cp c)=oA)(f:E->Option (Unit⊕X))(ms:List E)(enc:E->SV×SV) {y:Unit⊕X} (hy:n0t f ms=wA y)
    (ts:List Nat) {L2:LE} (hk:g0s ts L=L2) (hL:lk L2 it= .ptr j 0) (htn:lk L2 tn= .undef) (htk:lk L2 tk= .undef) (hne:yB tn tk=yA) (hni:yB tn it=yA) (Hs:List Nat->a0f) (hH:H=Hs []) (hS: ∀s s',(Hs s).set j (.itr i n s')=Hs s')
    (hj: ∀s,(Hs s)[j]?=wA (.itr i n s)) (hi: ∀s,(Hs s)[i]?=wA (.map<|ms.map enc)) (hn:(ms.map enc).length=n)
    (hx: ∀s,y= .inl ()->PJ F Q (.exit b) ((tk, .bool yA)::L2) (Hs s))
    (body: ∀s b' e x,(ms.map enc)[b']?=wA (enc e)->f e=wA x->J F P (cr<|cr<|cp c) ((tk, .bool oA)::L2) (Hs<|s++ [b']) (O0u F Q L2 (Hs<|s++ [b']) y x)):J F P c L H Q:=by
  cases c<;>first|cases h|skip
  rename_i c;obtain⟨m1,m2⟩:=z0n ms y hy;have hnm:ms.length=n:=by rw[<-hn];simp
  refine J.keep ts hk ?_;subst hH;obtain⟨id,ops,o0,o1,B,rfl,hl,g1,g2,g3,g4,g5,g6⟩:=x0N hc;intro hin a w hs;have hin':b0p F.n _=true:=hin;refine G0h (λn' a w=> ∃s,t0F n s.toArray=n'/\(∀q∈s,∀e,ms[q]?=wA e->f e=wA (.inl ()))/\Sees F L2 (Hs s) a w) ?_ (n:=t0F n #[]) ⟨[],rfl,λq hq=>by simp at hq,hs⟩;rintro n' a w ⟨s,hn',hdone,hs⟩;refine(?_:J F P (.seq (.region id ops yA)<|.seq (.cond (.tmp tk) .skip<|.exit b) B) L2 (Hs s) _) hin' a w hs;have hp0:ops.toList[0]?=wA o0:=by rw[hl];rfl
  have hp1:ops.toList[1]?=wA o1:=by rw[hl];rfl
  have hsz:ops.size=2:=by have:=congrArg List.length hl;simpa using this
  have hnk:tn≠tk:=λe=>by subst e;simp at hne
  have hnit:tn≠it:=λe=>by subst e;simp at hni
  refine J.seq (J.region<|RJ.next hp0 g1 g2 (congrArg wA hL) (hj s) (hi s) hn (λhz=> ?_) λq hq hqs=> ?_)
  · -- none is left
    rw[g3]
    have hall:y= .inl ():=m2 λe he=>by
      obtain⟨q,hq,rfl⟩:=List.mem_iff_getElem.1 he;have hc:=C0e hz q dA;exact hdone q (by simpa using hc) _ (af hq)
    refine RJ.step (ef:=⟨.bool yA,[],[]⟩) hp1 (by unfold a0Y;rw[g4]) (by unfold b0S;rw[g5]) ?_ rfl ?_;unfold a0E a0k;rw[g5];simp[a0C,a0p,g0e,lk]
    · rw[g6]
      refine RJ.done dA<|PJ.next<|J.seq<|J.cond (b:=yA) ?_<|J.exit<|PJ.passExit ?_;simp[a0C,a0p,g0e,lk];intro a' w' hs';exact .inr ⟨dE,hx s hall a' w'<|hs'.keep<|I0s hnk htn⟩
  · -- one more
    rw[g3]
    obtain⟨e,hqe⟩: ∃e,ms[q]?=wA e:=⟨ms[q]' dA,af dA⟩
    obtain⟨x,hfx,hox⟩:=m1 e<|aH hqe;refine RJ.step (ef:=⟨.bool oA,[],[]⟩) hp1 (by unfold a0Y;rw[g4]) (by unfold b0S;rw[g5]) ?_ rfl ?_;unfold a0E a0k;rw[g5];simp[a0C,a0p,g0e,lk]
    · rw[g6,hS]
      refine RJ.done dA<|PJ.next<|J.seq<|J.cond (b:=oA) ?_<|J.skip<|PJ.next ?_;simp[a0C,a0p,g0e,lk];intro hin2 a' w' hs';have hb:=body s q e x (by rw[ar,hqe];rfl) hfx hin2 a' w'<|hs'.keep<|I0s hnk htn;refine jJ (λee a2 w2 hq2=> ?_) hb
      cases x with
      |inl u=>
        obtain⟨rfl,hs2⟩:=hq2;refine .inl ⟨rfl,t0F n (s++ [q]).toArray, ?_,s++ [q],rfl,λq' hq' e' he'=> ?_,hs2⟩;rw[<-hn'];have:=E0A (seen:=s.toArray) hq (by simpa using hqs);simpa using this;rcases al.1 hq' with h1|h1;exact hdone q' h1 e' he';simp at h1;subst h1;rw[hqe]at he';cases he';exact hfx
      |inr o=>exact .inr ⟨hq2.1,hq2.2<|hox o rfl⟩
end
section
variable {F : Fr} {P : Program} {L : LE} {H : a0f} {Q : f0Z} {ops : Array Oper} {p : Nat} {tr : List (List Nat × List Nat)} {ρ : Env}
theorem St.openMap (hs:St F ρ H a w) (hi:H[i]?=wA (.pmap es)): ∃es',List.Perm es' es/\St F ρ (H.set i<|.map es') a w:=by
  obtain⟨hd,K,D,hv⟩:=hs;obtain⟨es',r,mes,clock,hp,h1,h2,h3,h4,hB,h5⟩:=hv.hinv.ent _ _ hi;obtain⟨g,hi'⟩:=modify (w':=w) (en':= .map es') hv.hinv hi rfl rfl h1 rfl rfl rfl rfl (λ_ _=>rfl) λ_=>⟨r,mes,clock,h1,h2,h3,h4,hB,h5⟩;exact⟨es',hp,hd,K,D,hv.slots,hi',hv.grow.trans g⟩
theorem St.closeMap (hs:St F ρ H a w) {es':List (SV×SV)} (hi:H[i]?=wA (.map es'))(hp:List.Perm es' es):St F ρ (H.set i<|.pmap es) a w:=by
  obtain⟨hd,K,D,hv⟩:=hs;obtain⟨r,mes,clock,h1,h2,h3,h4,hB,h5⟩:=hv.hinv.ent _ _ hi;obtain⟨g,hi'⟩:=modify (w':=w) (en':= .pmap es) hv.hinv hi rfl rfl h1 rfl rfl rfl rfl (λ_ _=>rfl) λ_=>⟨es',r,mes,clock,hp,h1,h2,h3,h4,hB,h5⟩;exact⟨hd,K,D,hv.slots,hi',hv.grow.trans g⟩
theorem RJ.openMap {B:Type} {ek:A->SV} {ev:B->SV} (ms:List<|A×B)(i:Nat)(Hs:List (A×B)->a0f)(hi:H[i]?=wA (.pmap<|r0r ek ev ms))(hs: ∀ms',H.set i (.map<|r0r ek ev ms')=Hs ms')
    (k: ∀ms',List.Perm ms' ms->RJ F P none ops p tr L (Hs ms') Q):RJ F P none ops p tr L H Q:=by
  intro hin a w hst;obtain⟨es',hp,hst'⟩:=hst.openMap hi;obtain⟨ms',hp',rfl⟩:=n0k ms es' hp;have:=hs ms';unfold r0r at this;rw[this]at hst';exact k ms' hp' hin a w hst'
open Classical in
noncomputable def v0h (f:List A->Option R)(ms:List A):Option R:=if∀ms',List.Perm ms' ms->f ms'=f ms then f ms else none
def v0g {f:List A->Option R} {ms:List A} {r:R} (h:v0h f ms=wA r)(ms':List A)(hp:List.Perm ms' ms):f ms'=wA r:=by
  unfold v0h at h;split at h;rename_i hall;rw[hall ms' hp];exact h;cases h
def y0A {f:List A->Option R} {ms:List A} {r:R} (h: ∀ms',List.Perm ms' ms->f ms'=wA r):v0h f ms=wA r:=by
  unfold v0h;rw[wB λms' hp=>by rw[h ms' hp,h ms<|.refl _]];exact h ms<|.refl _
/-! Laying it. -/
def mapLit(P:Program)(base kt:Nat):List Oper->Nat->LE->Option (List<|SV×Option (SV×SV))
  | [],_,_=>wA []
  |o::r,j,L=>match o.guard,o.op with
    |none, .makeMap _ none=>bif yB j 0 then(mapLit P base kt r (j+1)<|g0e L o.dst<|.mp base).map ((.mp base,none):: ·)else none
    |none, .insert t x k v=>match P.underlying t,a0C (a0p L) x,a0C (a0p L) k,a0C (a0p L) v,o.dst with
      |some (.map kt' _),wA (.mp b),wA ks,wA vs,none=>bif yB b base&&(yB kt' kt&&(t0I P kt ks&&o.after.toList.any λe=>zF .any e&&yB e.on 0))then(mapLit P base kt r (j+1) L).map ((.undef,wA (ks,vs)):: ·)else none
      |_,_,_,_,_=>none
    |none,_=>bif b0S o then none else match a0k P o (a0p L)with
      |some v=>(mapLit P base kt r (j+1)<|g0e L o.dst v).map ((v,none):: ·)
      |none=>none
    |_,_=>none
def G0k(o:Oper):List Nat:=o.op.operands.toList.filterMap fun| .tmp t=>wA t|_=>none
def t0B(ops:Array Oper):Bool:=
  (oB ops.size).all λj=>match ops[j]? with
    |some o=>o.after.toList.all (λe=>yD e.on j)&&((oB ops.size).all λj'=>match ops[j']? with
      |some o'=>match o'.dst with
        |some t=>(!(G0k o).contains t||o.after.toList.any λe=>zF .any e&&yB e.on j')&&(yB j j'||(match o.dst with|some t'=> !yB t t'|none=>oA))
        |none=>oA
      |none=>oA)
    |none=>oA
def M0x:Option (Option SV)->Bool
  |some none=>oA
  |_=>yA
def A0K(P:Program)(kt:Nat)(VI:List<|SV×Option (SV×SV)):Bool:=
  (oB VI.length).all λi=>(oB VI.length).all λj=>yB i j||(match VI[i]?,VI[j]? with
    |some (_,wA a),wA (_,wA b)=>M0x (p0G P kt [b] a.1)
    |_,_=>oA)
def w0M:List Oper->List (SV×Option (SV×SV))->LE->LE
  |o::r,v::s,L=>w0M r s (g0e L o.dst v.1)
  |_,_,L=>L
def esL:List (SV×Option (SV×SV))->Nat->(Nat->Bool)->List (SV×SV)
  | [],_,_=> []
  |vi::r,j,l=>(bif l j then vi.2.toList else [])++esL r (j+1) l
def q0O: ∀(VI:List<|SV×Option (SV×SV)) (j:Nat) (l l':Nat->Bool),(∀q,j<=q->l q=l' q)->esL VI j l=esL VI j l'
  | [],_,_,_,_=>rfl
  |vi::r,j,l,l',h=>by
    simp only[esL];rw[h j<|aj _,q0O r (j+1) l l' λq hq=>h q dA]
def A0Z: ∀(VI:List<|SV×Option (SV×SV)) (j:Nat) (l l':Nat->Bool),(∀q,j<=q->q<j+VI.length->l q=l' q)->esL VI j l=esL VI j l'
  | [],_,_,_,_=>rfl
  |vi::r,j,l,l',h=>by
    simp only[esL];rw[h j (aj _) dE,A0Z r (j+1) l l' λq hq hq2=>h q dA dD]
def F0c: ∀(VI:List<|SV×Option (SV×SV)) (j i:Nat) (l:Nat->Bool) (v:SV) (e:Option<|SV×SV),l i=yA->j<=i->VI[i-j]?=wA (v,e)->
    List.Perm (esL VI j l++e.toList) (esL VI j λq=>if q=i then oA else l q)
  | [],j,i,l,v,e,hl,hj,h=>by simp at h
  |vi::r,j,i,l,v,e,hl,hj,h=>by
    by_cases hij:i=j;subst hij;simp at h;subst h;have h1:esL r (i+1) (λq=>if q=i then oA else l q)=esL r (i+1) l:=q0O r (i+1) _ _ λq hq=>by rw[vB dA]
    simp only[esL,hl,wD,aU,if_true,jC,h1];exact List.perm_append_comm
    have h':r[i-(j+1)]?=wA (v,e):=by
      have:i-j=(i-(j+1))+1:=by omega
      rw[this]at h;simpa using h
    have ih:=F0c r (j+1) i l v e hl dA h';simp only[esL];rw[vB λe=>hij e.symm,aP];exact ih.append_left _
theorem A0Y: ∀(VI:List<|SV×Option (SV×SV)) (j i:Nat) (l:Nat->Bool) (v:SV),VI[i-j]?=wA (v,none)->j<=i->(esL VI j λq=>if q=i then oA else l q)=esL VI j l
  | [],j,i,l,v,h,_=>rfl
  |vi::r,j,i,l,v,h,hj=>by
    by_cases hij:i=j
    · subst hij
      simp at h;subst h;have h1:esL r (i+1) (λq=>if q=i then oA else l q)=esL r (i+1) l:=q0O r (i+1) _ _ λq hq=>by rw[vB dA]
      simp only[esL,h1];cases l i<;>simp
    have h':r[i-(j+1)]?=wA (v,none):=by
      have:i-j=(i-(j+1))+1:=by omega
      rw[this]at h;simpa using h
    simp only[esL];rw[vB λe=>hij e.symm,A0Y r (j+1) i l v h' dA]
def F0e: ∀(VI:List<|SV×Option (SV×SV)) (j:Nat) (l:Nat->Bool) (kv:SV×SV),kv∈esL VI j l-> ∃i v,j<=i/\l i=oA/\VI[i-j]?=wA (v,wA kv)
  | [],j,l,kv,h=>by simp[esL]at h
  |vi::r,j,l,kv,h=>by
    simp only[esL,al]at h;rcases h with h|h
    cases hl:l j with
    |false=>rw[hl]at h;simp at h
    |true=>
      rw[hl]at h;simp only[jC,Option.mem_toList]at h;exact⟨j,vi.1,aj _,hl,by simp;exact Prod.ext rfl h⟩
    obtain⟨i,v,h1,h2,h3⟩:=F0e r (j+1) l kv h;refine⟨i,v,dA,h2, ?_⟩;have:i-j=(i-(j+1))+1:=by omega
    rw[this];simpa using h3
def F0d: ∀(VI:List<|SV×Option (SV×SV)) (j:Nat) (l:Nat->Bool),(∀q,l q=oA-> ∀v e,VI[q-j]?=wA (v,e)->j<=q->e=none)->esL VI j l=[]
  | [],_,_,_=>rfl
  |vi::r,j,l,h=>by
    simp only[esL]
    have h1:esL r (j+1) l=[]:=F0d r (j+1) l λq hq v e he hj=>h q hq v e (by
      have:q-j=(q-(j+1))+1:=by omega
      rw[this];simpa using he) dA
    rw[h1]
    cases hl:l j with
    |false=>rfl
    |true=>
      have:=h j hl vi.1 vi.2 dE<|aj _;rw[this];rfl
theorem u0Y {P:Program} {kt:Nat} {k:SV} : ∀(es:List<|SV×SV),(∀e∈es,m0D P kt k [e]=wA none)->m0D P kt k es=wA none
  | [],_=>rfl
  |e::r,h=>by
    have h1:=h e<|az ..;have h2:=u0Y r λx hx=>h x (aq _ hx)
    cases hq:eqS P 9 kt k e.1 with
    |none=>simp[m0D,hq]at h1
    |some b=>
      cases b with
      |true=>simp[m0D,hq]at h1
      |false=>simp only[m0D,hq];exact h2
theorem u0X {k:SV} : ∀(es:List<|SV×SV),(∀e∈es,g0I [e] k=wA none)->g0I es k=wA none
  | [],_=>rfl
  |e::r,h=>by
    have h1:=h e<|az ..;have h2:=u0X r λx hx=>h x (aq _ hx)
    cases hq:k0F k e.1 with
    |none=>simp[g0I,hq]at h1
    |some b=>
      cases b with
      |true=>simp[g0I,hq]at h1
      |false=>simp only[g0I,hq];exact h2
def E0W {P:Program} {kt:Nat} {k:SV} (es:List<|SV×SV)(h: ∀e∈es,p0G P kt [e] k=wA none):p0G P kt es k=wA none:=by
  cases k<;>first|exact u0Y es h|exact u0X es h
def x0X {L:LE} {t:Nat} (h:d≠wA t):lk (g0e L d v) t=lk L t:=by
  cases d with
  |none=>rfl
  |some d=>
    simp only[g0e,lk]
    cases hb:yB t d with
    |false=>rfl
    |true=>exact absurd (by rw[ae hb]) h
def E0w {L:LE} {t:Nat} :lk (g0e L (wA t) v) t=v:=by simp[g0e,lk]
def o0o {t:Nat} : ∀(l:List Oper) (VI:List<|SV×Option (SV×SV)) (L:LE),(∀o∈l,o.dst≠wA t)->lk (w0M l VI L) t=lk L t
  | [],VI,L,_=>by cases VI<;>rfl
  |o::r,[],L,_=>rfl
  |o::r,v::s,L,h=>by
    simp only[w0M];rw[o0o r s _ λx hx=>h x<|aq _ hx,x0X<|h o<|az ..]
def E0x {t:Nat} : ∀(l:List Oper) (VI:List<|SV×Option (SV×SV)) (L:LE) (j:Nat) (o:Oper) (v:SV×Option (SV×SV)),l[j]?=wA o->o.dst=wA t->VI[j]?=wA v->(∀j' o',l[j']?=wA o'->j'≠j->o'.dst≠wA t)->lk (w0M l VI L) t=v.1
  | [],VI,L,j,o,v,h,_,_,_=>by simp at h
  |x::r,[],L,j,o,v,_,_,h,_=>by simp at h
  |x::r,y::s,L,0,o,v,h1,h2,h3,h4=>by
    simp at h1 h3;subst h1;subst h3;simp only[w0M]
    rw[o0o r s _ λz hz=>by
      obtain⟨q,hq⟩:=bw.1 hz
      exact h4 (q+1) z (by simpa using hq) dA,h2,E0w]
  |x::r,y::s,L,j+1,o,v,h1,h2,h3,h4=>by
    simp only[w0M];exact E0x r s _ j o v (by simpa using h1) h2 (by simpa using h3) λj' o' hj' hne=>h4 (j'+1) o' (by simpa using hj') dA
def A0b(P:Program)(base kt j:Nat)(o:Oper)(v:SV)(e:Option<|SV×SV)(ρ:Env):Prop:=
  o.guard=none/\((j=0/\(∃t,o.op= .makeMap t none)/\v= .mp base/\e=none)\/
    (∃t x k u et ks vs,o.op= .insert t x k u/\P.underlying t=wA (.map kt et)/\a0C ρ x=wA (.mp base)/\a0C ρ k=wA ks/\a0C ρ u=wA vs/\o.dst=none/\t0I P kt ks=oA/\(∃ed∈o.after,zF .any ed=oA/\ed.on=0)/\v= .undef/\e=wA (ks,vs))\/
    (b0S o=yA/\a0k P o ρ=wA v/\e=none))
theorem A0M {base kt:Nat} : ∀(l:List Oper) (j:Nat) (L:LE) (VI:List<|SV×Option (SV×SV)),mapLit P base kt l j L=wA VI->
    VI.length=l.length/\ ∀q o,l[q]?=wA o-> ∃v e,VI[q]?=wA (v,e)/\ ∃L',A0b P base kt (j+q) o v e (a0p L')/\ ∀t,(∀q' o',q<=q'->l[q']?=wA o'->o'.dst≠wA t)->lk (w0M l VI L) t=lk L' t
  | [],j,L,VI,h=>by
    cases h;exact⟨rfl,λq o hq=>by simp at hq⟩
  |o::r,j,L,VI,h=>by
    have key: ∀(v:SV) (e:Option<|SV×SV) (L2:LE),A0b P base kt j o v e (a0p L)->(mapLit P base kt r (j+1)<|g0e L o.dst v).map ((v,e):: ·)=wA VI->
        VI.length=(o::r).length/\ ∀q o',(o::r)[q]?=wA o'-> ∃v e,VI[q]?=wA (v,e)/\ ∃L',A0b P base kt (j+q) o' v e (a0p L')/\ ∀t,(∀q' o',q<=q'->(o::r)[q']?=wA o'->o'.dst≠wA t)->lk (w0M (o::r) VI L) t=lk L' t:=by
      intro v e _ hf hm
      cases hr:mapLit P base kt r (j+1) (g0e L o.dst v)with
      |none=>rw[hr]at hm;cases hm
      |some s=>
        rw[hr]at hm;cases hm;obtain⟨h1,h2⟩:=A0M r (j+1) _ s hr;refine⟨by simp[h1],λq o' hq=> ?_⟩
        cases q with
        |zero=>
          simp at hq;subst hq;refine⟨v,e,rfl,L,hf,λt ht=> ?_⟩;simp only[w0M]
          rw[o0o r s _ λz hz=>by
            obtain⟨q,hq⟩:=bw.1 hz
            exact ht (q+1) z dA<|by simpa using hq,x0X<|ht 0 o (aj _) rfl]
        |succ q=>
          obtain⟨v',e',h3,L',h4,h5⟩:=h2 q o' (by simpa using hq);refine⟨v',e',by simpa using h3,L',by rw[show j+(q+1)=j+1+q by omega];exact h4,λt ht=> ?_⟩;simp only[w0M];exact h5 t λq' o'' hq' ho=>ht (q'+1) o'' dA (by simpa using ho)
    unfold mapLit at h;split at h;rename_i tt hg hop
    cases hj:yB j 0 with
    |false=>rw[hj]at h;cases h
    |true=>
      rw[hj]at h;exact key _ _ L ⟨hg, .inl ⟨ae hj,⟨_,hop⟩,rfl,rfl⟩⟩ h
    rename_i tt x k u hg hop;split at h;rename_i kt' et b ks vs hu hx hk hv hd
    cases hc:(yB b base&&(yB kt' kt&&(t0I P kt ks&&o.after.toList.any λe=>zF .any e&&yB e.on 0)))with
    |false=>rw[hc]at h;cases h
    |true=>
      rw[hc]at h;simp only[aa,List.any_eq_true]at hc;obtain⟨c1,c2,c3,ed,c4,c5,c6⟩:=hc;have c1:=ae c1;have c2:=ae c2;have c6:=ae c6;subst c1;subst c2;refine key .undef (wA (ks,vs)) L ⟨hg, .inr<|.inl ⟨tt,x,k,u,et,ks,vs,hop,hu,hx,hk,hv,hd,c3,⟨ed,by simpa using c4,c5,c6⟩,rfl,rfl⟩⟩ ?_;rw[hd];exact h
    cases h;rename_i hg _ _
    cases hc:b0S o with
    |true=>rw[hc]at h;cases h
    |false=>
      rw[hc]at h;simp only[wD]at h;split at h;rename_i v hv;exact key v none L ⟨hg, .inr<|.inr ⟨hc,hv,rfl⟩⟩ h;cases h
    cases h
def P0L(F:Fr)(ops:Array Oper)(VI:List<|SV×Option (SV×SV))(L:LE)(H:a0f)(listed:Array Bool)(a:Act)(w:World):Prop:=
  listed.size=ops.size/\ ∃ρ,St F ρ (bif listed.getD 0 yA then H++ [.pmap<|esL VI 0 λq=>listed.getD q yA]else H) a w/\
    (∀j o t,listed.getD j yA=oA->ops[j]?=wA o->o.dst=wA t-> ∃v,VI[j]?=wA v/\ρ t=v.1)/\
    (∀t,(∀j o,ops[j]?=wA o->listed.getD j yA=oA->o.dst≠wA t)->ρ t=lk L t)/\
    (∀j v kv,listed.getD j yA=oA->VI[j]?=wA (v,wA kv)->listed.getD 0 yA=oA)
def H0p(ops:Array Oper)(listed:Array Bool):Nat:=((oB ops.size).filter λj=> !listed.getD j yA).length
def j0g (h:i<listed.size)(d:Bool):(listed.setIfInBounds i oA).getD i d=true:=by
  simp[Array.getD,h]
def e0g {j:Nat} (h:i<listed.size):(listed.setIfInBounds i oA).getD j yA=if j=i then oA else listed.getD j false:=by
  by_cases hj:j=i;subst hj;rw[wB rfl];exact j0g h yA;rw[vB hj];exact getD_set_ne yA<|Ne.symm hj
def z0x (h:i<listed.size):listed.getD i oA=listed.getD i false:=by simp[Array.getD,h]
structure P0h (ops:Array Oper):Prop where
  before: ∀(j:Nat) (o:Oper),ops[j]?=wA o-> ∀e∈o.after,e.on<j
  deps: ∀(j:Nat) (o:Oper) (j':Nat) (o':Oper) (t:Nat),ops[j]?=wA o->ops[j']?=wA o'->o'.dst=wA t->Operand.tmp t∈o.op.operands-> ∃e∈o.after,zF .any e=oA/\e.on=j'
  apart: ∀(j:Nat) (o:Oper) (j':Nat) (o':Oper) (t:Nat),ops[j]?=wA o->ops[j']?=wA o'->o'.dst=wA t->j≠j'->o.dst≠wA t
theorem x0L(h:t0B ops=oA):P0h ops:=by
  unfold t0B at h;have hj: ∀j o,ops[j]?=wA o->j<ops.size:=λj o ho=>(ak.1 ho).1
  have main: ∀j o,ops[j]?=wA o->o.after.toList.all (λe=>yD e.on j)=oA/\ ∀j' o',ops[j']?=wA o'-> ∀t,o'.dst=wA t->(((G0k o).contains t=yA\/(o.after.toList.any λe=>zF .any e&&yB e.on j')=oA)/\(j=j'\/o.dst≠wA t)):=by
    intro j o ho;have h1:=List.all_eq_true.1 h j<|bo.2<|hj j o ho;simp only[ho,aa]at h1;refine⟨h1.1,λj' o' ho' t ht=> ?_⟩;have h2:=List.all_eq_true.1 h1.2 j'<|bo.2<|hj j' o' ho';simp only[ho',ht,aa,bJ]at h2;obtain⟨h3,h4⟩:=h2;refine⟨h3.imp (λe=>by simpa using e) id,h4.imp ae λe hd=> ?_⟩;rw[hd]at e;simp at e
  refine⟨λj o ho e he=> ?_,λj o j' o' t ho ho' ht hm=> ?_,λj o j' o' t ho ho' ht hne=> ?_⟩;have:=List.all_eq_true.1 (main j o ho).1 e (by simpa using he);exact bE<|ag this;obtain⟨h1,_⟩:=(main j o ho).2 j' o' ho' t ht;rcases h1 with h1|h1;exfalso
  have:t∈G0k o:=by
    unfold G0k;rw[List.mem_filterMap];exact⟨.tmp t,by simpa using hm,rfl⟩
  simp[this]at h1;rw[List.any_eq_true]at h1;obtain⟨e,he,h2⟩:=h1;simp only[aa]at h2;exact⟨e,by simpa using he,h2.1,ae h2.2⟩;exact((main j o ho).2 j' o' ho' t ht).2.resolve_left hne
theorem A0N {ops:Array Oper} (hi:i<ops.size)(hs:listed.size=ops.size)(h:listed.getD i yA=yA):H0p ops (listed.setIfInBounds i oA)<H0p ops listed:=by
  unfold H0p;refine filter_lt (λj=> !listed.getD j yA) (λj=> !(listed.setIfInBounds i oA).getD j yA) (λx hx=> ?_) i (by rw[h];rfl) (by rw[j0g dA];rfl) _<|bo.2 hi;rw[e0g dA]at hx;by_cases hxi:x=i;rw[wB hxi]at hx;cases hx;rw[vB hxi]at hx;exact hx
theorem K.mapLit (kt:Nat) {VI:List (SV×Option (SV×SV))} {L2:LE} (h:o0H oA c=oA)(hm:P.follows .mixedOrders=oA)(hn:H.length=n)
    (hlit:Go.Sy.mapLit P n kt (h0w c).toList 0 L=wA VI) (hst:t0B (h0w c)=oA) (h0:(match(h0w c)[0]? with|some o=>(match o.op with| .makeMap _ none=>oA|_=>yA)|none=>yA)=oA)
    (hpair:A0K P kt VI=oA) (hes:(esL VI 0 λ_=>oA)=es) (ts:List Nat) (hL:g0s ts (w0M (h0w c).toList VI L)=L2) (k:PJ F Q .normal L2<|H++ [.pmap es]):J F P c L H Q:=by
  cases c<;>first|cases h|skip
  rename_i id ops dr;have hdr:dr=true:=by simpa [o0H]using h
  subst hdr;change Go.Sy.mapLit P n kt ops.toList 0 L=wA VI at hlit;change t0B ops=oA at hst;change (match ops[0]? with|some o=>(match o.op with| .makeMap _ none=>oA|_=>yA)|none=>yA)=oA at h0;change g0s ts (w0M ops.toList VI L)=L2 at hL;subst hn;intro hin a w hs;simp only[b0p,jD]at hin;obtain⟨hlen,hfact⟩:=A0M _ _ _ _ hlit;have ms:=x0L hst;have hget: ∀(j:Nat) (o:Oper),ops[j]?=wA o↔ops.toList[j]?=wA o:=λj o=>by rw[cH]
  obtain⟨o0,ho0,tt0,hop0⟩: ∃o,ops[0]?=wA o/\ ∃t,o.op= .makeMap t none:=by
    split at h0;rename_i o ho;split at h0;rename_i tt hop;exact⟨o,ho,tt,hop⟩;cases h0;cases h0
  have hpos:0<ops.size:=(ak.1 ho0).1
  -- the slots behind all
  have hfin: ∀(j:Nat) (o:Oper) (t:Nat),ops[j]?=wA o->o.dst=wA t-> ∃v:SV×Option (SV×SV),VI[j]?=wA v/\lk (w0M ops.toList VI L) t=v.1:=λj o t ho ht=>by
    obtain⟨v,e,hv,_⟩:=hfact j o<|(hget j o).1 ho;exact⟨(v,e),hv,E0x _ _ _ j o (v,e) ((hget j o).1 ho) ht hv λj' o' ho' hne=>ms.apart j' o' j o t ((hget j' o').2 ho') ho ht hne⟩
  have hoth: ∀(t:Nat),(∀(j:Nat) (o:Oper),ops[j]?=wA o->o.dst≠wA t)->lk (w0M ops.toList VI L) t=lk L t:=λt ht=>o0o _ _ _ λo ho=>by
    obtain⟨j,hj⟩:=bw.1 ho;exact ht j o ((hget j o).2 hj)
  refine wp_region_any hm ?_
  have step: ∀fuel listed a w,H0p ops listed<=fuel->P0L F ops VI L H listed a w->wpAny P .any ops Q fuel listed a w:=by
    have done: ∀listed a w,oG .any ops listed=[]->P0L F ops VI L H listed a w->Q .normal a w:=by
      rintro listed a w hr ⟨hsz,ρ,hst',h1,h2,_⟩
      have hall: ∀j,j<ops.size->listed.getD j yA=true:=by
        intro j
        induction j using Nat.strongRecOn with
        |_ j ih=>
          intro hj
          cases hl:listed.getD j yA with
          |true=>rfl
          |false=>
            exfalso
            have:j∈oG .any ops listed:=mem_ready.2 ⟨by rw[z0x dA];exact hl,ops[j],aN hj,λe he _=>by
              have:=ms.before j ops[j] (aN hj) e he
              exact ih e.on this dA⟩
            rw[hr]at this;cases this
      have hρ:ρ=a0p (w0M ops.toList VI L):=by
        funext t;by_cases ht: ∃(j:Nat) (o:Oper),ops[j]?=wA o/\o.dst=wA t;obtain⟨j,o,ho,hd⟩:=ht;obtain⟨v,hv,hv2⟩:=hfin j o t ho hd;obtain⟨v',hv',hv3⟩:=h1 j o t (hall j (ak.1 ho).1) ho hd;rw[hv]at hv';cases hv';rw[hv3];exact hv2.symm;rw[h2 t λj o ho _ hd=>ht ⟨j,o,ho,hd⟩];exact(hoth t λj o ho hd=>ht ⟨j,o,ho,hd⟩).symm
      rw[hall 0 hpos,jC,hρ]at hst'
      have hee:(esL VI 0 λq=>listed.getD q yA)=es:=by
        rw[<-hes];exact A0Z VI 0 _ _ λq _ hq=>hall q (by rw[hlen]at hq;simpa using hq)
      rw[hee]at hst';refine k a w ?_;rw[<-hL];exact Sees.keep (L:=w0M ops.toList VI L) hst' (k0L ts _)
    intro fuel
    induction fuel with
    |zero=>
      intro listed a w hle hI
      have hr:oG .any ops listed=[]:=by
        cases hrr:oG .any ops listed with
        |nil=>rfl
        |cons x xs=>
          exfalso;have hx:x∈oG .any ops listed:=by rw[hrr];simp
          obtain⟨hx1,o,ho,_⟩:=mem_ready.1 hx;have hxl:=(ak.1 ho).1;have hx2:listed.getD x yA=false:=by rw[<-z0x (by rw[hI.1];exact hxl)];exact hx1
          have:=A0N hxl hI.1 hx2;omega
      exact⟨hr,done listed a w hr hI⟩
    |succ fuel ih=>
      intro listed a w hle hI;refine⟨λhr=>done listed a w hr hI,λi hi=> ?_⟩;obtain⟨hi1,o,ho,hdep⟩:=mem_ready.1 hi;obtain⟨hsz,ρ,hst',h1,h2,h3⟩:=hI;have hil:i<ops.size:=(ak.1 ho).1;have hil':i<listed.size:=by omega
      have hiu:listed.getD i yA=false:=by rw[<-z0x hil'];exact hi1
      obtain⟨v,e,hVi,L',⟨hg,hf⟩,hagree⟩:=hfact i o<|(hget i o).1 ho;rw[aZ]at hf;have hbo:Oper.inB F.n ops o=true:=hin o (aL.2<|Array.mem_of_getElem? ho)
      -- its operands are what they are in the order of the text
      have hval: ∀x∈o.op.operands,a0C ρ x=a0C (a0p L') x:=by
        intro x hx
        cases x with
        |tmp t=>
          have hL':lk (w0M ops.toList VI L) t=lk L' t:=hagree t λq' o' hq ho' hd=>by
            obtain⟨ed,he,_,hon⟩:=ms.deps i o q' o' t ho ((hget q' o').2 ho') hd hx;have:=ms.before i o ho ed he;omega
          show wA (ρ t)=wA (lk L' t);rw[<-hL'];by_cases ht: ∃(j:Nat) (o:Oper),ops[j]?=wA o/\o.dst=wA t;obtain⟨j,oj,hoj,hd⟩:=ht;obtain⟨ed,he,hb,hon⟩:=ms.deps i o j oj t ho hoj hd hx;have hlj:=hdep ed he hb;rw[hon]at hlj;obtain⟨vj,hvj,hρ⟩:=h1 j oj t hlj hoj hd;obtain⟨v',hv',hv2⟩:=hfin j oj t hoj hd;rw[hvj]at hv';cases hv';rw[hρ,hv2];rw[h2 t λj o ho _ hd=>ht ⟨j,o,ho,hd⟩,hoth t λj o ho hd=>ht ⟨j,o,ho,hd⟩]
        |const c=>rfl
        |global g=>rfl
        |func f=>rfl
      have hlt:=A0N hil hsz hiu
      -- what is known behind it
      have next: ∀a' w',St F (m0M ρ o.dst v) (bif(listed.setIfInBounds i oA).getD 0 yA then H++ [.pmap<|esL VI 0 λq=>(listed.setIfInBounds i oA).getD q yA]else H) a' w'->
          (e=none\/listed.getD 0 yA=oA)->wpAny P .any ops Q fuel (listed.setIfInBounds i oA) a' w':=λa' w' hst2 hent=>by
        refine ih _ a' w' dA ⟨by simpa using hsz,m0M ρ o.dst v,hst2,λj oj t hj hoj hd=> ?_,λt ht=> ?_,λj v' kv hj hv'=> ?_⟩;rw[e0g hil']at hj;by_cases hji:j=i;subst hji;rw[ho]at hoj;cases hoj;exact⟨(v,e),hVi,by rw[hd];simp[m0M,upd]⟩;rw[vB hji]at hj;obtain⟨vj,hvj,hρ⟩:=h1 j oj t hj hoj hd;refine⟨vj,hvj, ?_⟩;have hne:=ms.apart i o j oj t ho hoj hd (λe=>hji e.symm)
        cases hod:o.dst with
        |none=>exact hρ
        |some d=>
          simp only[m0M,upd];rw[vB λe=>hne<|by rw[hod,e]];exact hρ
        · have hne:o.dst≠wA t:=ht i o ho (j0g hil' yA)
          have:=h2 t λj oj hoj hj=>ht j oj hoj (by rw[e0g hil'];split<;>simp[hj])
          cases hod:o.dst with
          |none=>exact this
          |some d=>
            simp only[m0M,upd];rw[vB λe=>hne<|by rw[hod,e]];exact this
        rw[e0g hil'];split;rfl;rw[e0g hil']at hj;by_cases hji:j=i;subst hji;rw[hVi]at hv';cases hv';rcases hent with h|h;cases h;exact h;rw[vB hji]at hj;exact h3 j v' kv hj hv'
      unfold wpOp;simp only[ho];have hgs:a0Y ops ρ o=wA true:=by unfold a0Y;rw[hg]
      rcases hf with⟨hi0,⟨tt,hop⟩,hv,he⟩|⟨tt,x,kk,u,et,ks,vs,hop,hu,hx,hk,hu2,hd,hkey,⟨ed,hed,hb0,hon0⟩,hv,he⟩|⟨hc,hv,he⟩
      · -- it makes the map
        subst hi0;subst hv;subst he;rw[hiu,wD]at hst';have hst0:=hst';obtain⟨hdef,K,D,hinv⟩:=hst';rw[b0C hinv.slots (Oper.inB_guard hbo) hgs,wB rfl];refine .inl ?_;have hev:a0E P o ρ H H.length=wA ⟨.mp H.length,[],[(H.length, .map [])]⟩\/True:= .inr trivial;have hmk:=u0U (P:=P) (a:=a) (o:=o) (t:=tt) hinv.hinv hop (idx:=H.length)<|.inl rfl;obtain⟨r,w',hrun,g⟩:=hmk;unfold Oper.wp;have hset:h0L H H.length (.map [])=H++ [.map []]:=by unfold h0L;rw[vB dA]
        rw[hset]at g
        have hnil:(esL VI 0 λq=>(listed.setIfInBounds 0 oA).getD q yA)=[]:=F0d VI 0 _ λq hq v' e' hv' _=>by
          rw[e0g hil']at hq;by_cases hq0:q=0;subst hq0;rw[bK,hVi]at hv';cases hv';rfl;rw[vB hq0]at hq
          cases e' with
          |none=>rfl
          |some kv=>
            exfalso;have:=h3 q v' kv hq (by simpa using hv');rw[hiu]at this;cases this
        have fin: ∀a',St F (m0M ρ o.dst<|.mp H.length) (H++ [.map []]) a' w'->wpAny P .any ops Q fuel (listed.setIfInBounds 0 oA) a' w':=λa' hs2=>by
          refine next a' w' ?_ (.inl rfl);rw[j0g hil' yA,jC,hnil];have:=hs2.closeMap (i:=H.length) (es:=[]) (es':=[]) dE<|.refl _;simpa using this
        rcases hrun with hrun|⟨hrun,hr⟩;rw[hrun];exact fin _ ⟨by rw[a0M];exact hdef,hinv.step g o.dst⟩;rw[hrun];subst hr;exact fin _ ⟨by rw[a0M];exact hdef,hinv.step g o.dst⟩
      · -- it lays an entry
        subst hv;subst he;have hl0:listed.getD 0 yA=true:=by have:=hdep ed hed hb0;rw[hon0]at this;exact this
        have hi0:i≠0:=λe=>by subst e;rw[hiu]at hl0;cases hl0
        rw[hl0,jC]at hst';obtain⟨es',hp,hst2⟩:=hst'.openMap (i:=H.length) (es:=esL VI 0 λq=>listed.getD q yA) (by rw[bU<|aj _,Nat.sub_self];rfl);have hset2:(H++ [Ent.pmap<|esL VI 0 λq=>listed.getD q yA]).set H.length (.map es')=H++ [.map es']:=by simp
        rw[hset2]at hst2;obtain⟨hdef,K,D,hinv⟩:=hst2;rw[b0C hinv.slots (Oper.inB_guard hbo) hgs,wB rfl];refine .inl ?_;have hxo: ∀y,y=x\/y=kk\/y=u->y∈o.op.operands:=λy hy=>by rw[hop];rcases hy with rfl|rfl|rfl<;>simp[jB]
        have hfn:p0G P kt es' ks=wA none:=E0W es' λkv hkv=>by
          obtain⟨q,vq,_,hq,hvq⟩:=F0e VI 0 _ kv<|hp.mem_iff.1 hkv;rw[bK]at hvq;have hqi:q≠i:=λe=>by subst e;rw[hiu]at hq;cases hq
          have hpp:=List.all_eq_true.1 (List.all_eq_true.1 hpair i<|bo.2 (ab.1 hVi).1) q<|bo.2 (ab.1 hvq).1;simp only[hVi,hvq,bJ]at hpp;rcases hpp with hpp|hpp;exact absurd (ae hpp).symm hqi;unfold M0x at hpp;split at hpp
          assumption
          cases hpp
        have hev:a0E P o ρ (H++ [.map es']) (H++ [Ent.map es']).length=wA ⟨.undef,[H.length],[(H.length, .map<|es'++ [(ks,vs)])]⟩:=by
          unfold a0E a0k a0o;simp only[hop];unfold l0U;rw[hu,hval x<|hxo x<|.inl rfl,hval kk<|hxo kk<|.inr<|.inl rfl,hval u<|hxo u<|.inr<|.inr rfl,hx,hk,hu2];simp only[bU<|aj _,Nat.sub_self,cy];rw[wB hkey,hfn]
        refine B0X hinv hdef (Oper.inB_op hbo) (.inl rfl) hev λa' w' hst3=> ?_
        refine next a' w' ?_ (.inr hl0)
        have ha:b0a (H++ [Ent.map es']) [(H.length, .map<|es'++ [(ks,vs)])]=H++ [.map<|es'++ [(ks,vs)]]:=by
          simp[b0a,h0L]
        rw[ha]at hst3;rw[e0g hil',vB λe=>hi0 e.symm,hl0,jC]
        have hpp:List.Perm (es'++ [(ks,vs)]) (esL VI 0 λq=>(listed.setIfInBounds i oA).getD q yA):=by
          have h3:=F0c VI 0 i (λq=>listed.getD q yA) .undef (wA (ks,vs)) hiu (bk _) (by rw[bK];exact hVi);have h4:(esL VI 0 λq=>(listed.setIfInBounds i oA).getD q yA)=esL VI 0 λq=>if q=i then oA else listed.getD q false:=q0O VI 0 _ _ λq _=>e0g hil'
          rw[h4];exact(hp.append_right _).trans (by simpa using h3)
        have:=hst3.closeMap (i:=H.length) (es:=esL VI 0 λq=>(listed.setIfInBounds i oA).getD q yA) dE hpp;simpa using this
      · -- something else
        subst he
        have hes2:(esL VI 0 λq=>(listed.setIfInBounds i oA).getD q yA)=esL VI 0 λq=>listed.getD q false:=by
          have h4:(esL VI 0 λq=>(listed.setIfInBounds i oA).getD q yA)=esL VI 0 λq=>if q=i then oA else listed.getD q false:=q0O VI 0 _ _ λq _=>e0g hil'
          rw[h4];exact A0Y VI 0 i _ v (by rw[bK];exact hVi) (bk _)
        have hi0:i≠0:=λe=>by
          subst e;rw[ho0]at ho;cases ho;unfold a0k at hv;rw[hop0]at hv;cases hv
        have hv2:a0k P o ρ=wA v:=by rw[p0a hval];exact hv
        obtain⟨hdef,K,D,hinv⟩:=hst';rw[b0C hinv.slots (Oper.inB_guard hbo) hgs,wB rfl];refine .inl ?_;refine B0X hinv hdef (Oper.inB_op hbo) (.inl rfl) (ef:=⟨v,[],[]⟩) (by unfold a0E;rw[hv2]) λa' w' hst3=> ?_
        refine next a' w' ?_ (.inl rfl);rw[hes2,e0g hil',vB λe=>hi0 e.symm];exact hst3
  have hfalse: ∀j,(vD ops.size yA).getD j yA=false:=λj=>by
    simp only[Array.getD];split;simp;rfl
  refine step ops.size _ a _ (aF (cI _ _) dE) ⟨dE,a0p L, ?_,λj o t hj=> ?_,λt _=>rfl,λj v kv hj=> ?_⟩;rw[hfalse,wD];obtain⟨hd,K,D,hi⟩:=hs;exact⟨hd,K,D,⟨hi.slots.mono λ_ _=>World.drew_rep,hi.hinv.drew,hi.grow.trans<|Grow.drew _ _ _ _⟩⟩;rw[hfalse]at hj;cases hj;rw[hfalse]at hj;cases hj
def O0v(r:Option<|List<|SV×Option (SV×SV)):List (SV×Option (SV×SV)):=match r with|some x=>x|none=> []
def K.mapLitC (kt:Nat) {L2:LE} (h:o0H oA c=oA)(hm:P.follows .mixedOrders=oA)(hn:H.length=n)
    (hlit:(Go.Sy.mapLit P n kt (h0w c).toList 0 L).isSome=oA) (hst:t0B (h0w c)=oA) (h0:(match(h0w c)[0]? with|some o=>(match o.op with| .makeMap _ none=>oA|_=>yA)|none=>yA)=oA)
    (hpair:A0K P kt (O0v<|Go.Sy.mapLit P n kt (h0w c).toList 0 L)=oA) (hes:(esL (O0v<|Go.Sy.mapLit P n kt (h0w c).toList 0 L) 0 λ_=>oA)=es) (ts:List Nat) (hL:g0s ts (w0M (h0w c).toList (O0v<|Go.Sy.mapLit P n kt (h0w c).toList 0 L) L)=L2)
    (k:PJ F Q .normal L2<|H++ [.pmap es]):J F P c L H Q:=by
  cases hr:Go.Sy.mapLit P n kt (h0w c).toList 0 L with
  |none=>rw[hr]at hlit;cases hlit
  |some VI=>
    rw[hr]at hpair hes hL;exact K.mapLit kt h hm hn hr hst h0 hpair hes ts hL k
def G0N {K V:Type} {ek:K->SV} {ev:V->SV} (h1: ∀f a,SV.rn f (ek a)=ek a)(h2: ∀f b,SV.rn f (ev b)=ev b)(f:Nat->Nat)(ms:List<|K×V):Ent.rn f (.pmap<|r0r ek ev ms)= .pmap (r0r ek ev ms):=by
  simp only[Ent.rn,r0r,cg];congr 1;exact bG λp _=>by simp[h1,h2]
def B0L {K V:Type} {ek:K->SV} {ev:V->SV} (h1: ∀m a,SV.refs m (ek a)=oA)(h2: ∀m b,SV.refs m (ev b)=oA)(m:Nat)(ms:List<|K×V):Ent.refs m (.pmap<|r0r ek ev ms)=true:=by
  simp[Ent.refs,r0r,h1,h2]
end
def z0h(P:Program)(o:Oper)(ρ:Env)(H:a0f)(idx:Nat):Option (Eff×Bool):=
  match o.op with
  | .slice t x none hi none=>match P.underlying t,a0C ρ x with
    |some (.array len e),wA (.ptr i off)=>match i0D ρ hi (len:Int)with
      |some h=>bif yD 0 (P.cellsOf e)then wA (⟨.sl i off h.toNat<|P.cellsOf e,[],[]⟩,inS 0 h len)else none
      |none=>none
    |_,_=>none
  | .store t x y=>match a0C ρ x,(a0C ρ y).bind SV.cells? with
    |some (.ptr i off),wA ps=>match H[i]? with
      |some (.box cs)=>bif yB ps.length (P.cellsOf t)&&yD 0 ps.length then wA (⟨.undef,[i],[(i, .box<|splice cs off ps)]⟩,vC (off+ps.length) cs.length)else none
      |_=>none
    |_,_=>none
  | .convert src dst x=>match P.underlying src,P.underlying dst,a0C ρ x with
    |some (.slice e),wA .string,wA (.sl j off n k)=>match P.underlying e,H[j]? with
      |some (.int .u8),wA (.box cs)=>bif i0W P src (.sl j off n k)&&yB k 1 then wA (⟨.str<|((cs.drop off).take<|n*1).map byteOf,[j],[]⟩,vC (off+n*1) cs.length&&(a0Q ((cs.drop off).take<|n*1)&&((cs.drop off).take<|n*1).all p0e))else none
      |_,_=>none
    |_,_,_=>none
  | .call c=>match c.callee with
    | .builtin .append=>match c.args.toList,c.argTypes.toList with
      | [x,y],[t,tx]=>match P.underlying t,a0C ρ x,a0C ρ y with
        |some (.slice e),wA .nl,wA (.sl j off n k)=>match H[j]? with
          |some (.box cs)=>bif i0W P tx (.sl j off n k)&&(yB k (P.cellsOf e)&&i0x P e (P.cellsOf e))then wA (⟨.vc idx,[j],[(idx, .vec n (P.cellsOf e) e<|(cs.drop off).take<|n*P.cellsOf e)]⟩,vC (off+n*P.cellsOf e) cs.length&&(a0Q ((cs.drop off).take<|n*P.cellsOf e)&&B0C P e n))else none
          |_=>none
        |some (.slice e),wA (.vc i),wA (.sl j off n k)=>match H[i]?,H[j]? with
          |some (.vec n' k' e' cs'),wA (.box cs)=>bif i0W P tx (.sl j off n k)&&(yB k k'&&(yB e e'&&i0x P e k'))then wA (⟨.vc idx,[i,j],[(i, .gone),(idx, .vec (n'+n) k' e<|cs'++(cs.drop off).take (n*k'))]⟩,vC (off+n*k') cs.length&&(a0Q ((cs.drop off).take<|n*k')&&B0C P e (n'+n)))else none
          |_,_=>none
        |_,_,_=>none
      |_,_=>none
    |_=>none
  |_=>none
theorem v0W {H:a0f} {idx:Nat} (h:z0h P o ρ H idx=wA (ef,b))(hb:b=oA):a0E P o ρ H idx=wA ef:=by
  unfold z0h at h;split at h;rename_i t x hi ho;split at h;rename_i len e i off hu hx;split at h;rename_i hh hbd
  cases hk:yD 0 (P.cellsOf e)with
  |false=>rw[hk]at h;cases h
  |true=>
    rw[hk]at h;simp only[jC,ai,aG]at h;obtain⟨rfl,rfl⟩:=h;obtain⟨q1,q2,q3⟩:=n0z.1 hb;have hk':0<P.cellsOf e:=ag hk;unfold a0E a0k a0o;simp only[ho,hu,hx,hbd];rw[wB ⟨q2,q3,hk'⟩]
  cases h;cases h;rename_i t x y ho;split at h;rename_i i off ps h1 h2;split at h;rename_i cs h3
  cases hk:(yB ps.length (P.cellsOf t)&&yD 0 ps.length)with
  |false=>rw[hk]at h;cases h
  |true=>
    rw[hk]at h;simp only[jC,ai,aG]at h;obtain⟨rfl,rfl⟩:=h;simp only[aa]at hk;have hle:off+ps.length<=cs.length:=ag hb;unfold a0E a0k a0o;simp only[ho,h1,h2,h3,b0L];rw[wB ⟨ae hk.1,ag hk.2,hle,λh=>by cases h⟩];rfl
  cases h;cases h;rename_i src dst x ho;split at h;rename_i e j off n k h1 h2 h3;split at h;rename_i cs he hj
  cases hk:(i0W P src (.sl j off n k)&&yB k 1)with
  |false=>rw[hk]at h;cases h
  |true=>
    rw[hk]at h;simp only[jC,ai,aG]at h;obtain⟨rfl,rfl⟩:=h;simp only[aa]at hk hb;have hk1:=ae hk.2;subst hk1;have hle:=ag hb.1
    have hsc:w0L 1 (.sl j off n 1) H=wA (n,(cs.drop off).take<|n*1,[j]):=by
      unfold w0L;simp only[hj];rw[wB ⟨trivial,hle,hb.2.1⟩]
    unfold a0E a0k a0o;simp only[ho,h1,h2,h3,he,hsc,t0X];rw[wB ⟨hk.1,hb.2.2⟩]
  cases h;cases h;rename_i c ho;split at h;rename_i hc;split at h;rename_i x y t tx ha ht;split at h;rename_i e j off n k hu hx hy;split at h;rename_i cs hj
  cases hk:(i0W P tx (.sl j off n k)&&(yB k (P.cellsOf e)&&i0x P e (P.cellsOf e)))with
  |false=>rw[hk]at h;cases h
  |true=>
    rw[hk]at h;simp only[jC,ai,aG]at h;obtain⟨rfl,rfl⟩:=h;simp only[aa]at hk hb;obtain⟨k1,k2,k3⟩:=hk;have k2:=ae k2;have hle:=ag hb.1
    have hsc:B0w P e (P.cellsOf e) tx (.sl j off n k) H=wA (n,(cs.drop off).take<|n*P.cellsOf e,[j]):=by
      unfold B0w;simp only[k1,if_true];unfold w0L;simp only[hj];rw[wB ⟨k2,hle,hb.2.1⟩]
    unfold a0E a0k a0o;simp only[ho,hc,z0Q];unfold n0Y;simp only[ha,ht,hu,hx,hy,hsc];rw[wB ⟨k3,rfl,s0u hb.2.2⟩]
  cases h;rename_i e i j off n k hu hx hy;split at h;rename_i n' k' e' cs' cs hi hj
  cases hk:(i0W P tx (.sl j off n k)&&(yB k k'&&(yB e e'&&i0x P e k')))with
  |false=>rw[hk]at h;cases h
  |true=>
    rw[hk]at h;simp only[jC,ai,aG]at h;obtain⟨rfl,rfl⟩:=h;simp only[aa]at hk hb;obtain⟨k1,k2,k3,k4⟩:=hk;have k2:=ae k2;have k3:=ae k3;have hle:=ag hb.1
    have hsc:B0w P e k' tx (.sl j off n k) H=wA (n,(cs.drop off).take<|n*k',[j]):=by
      unfold B0w;simp only[k1,if_true];unfold w0L;simp only[hj];rw[wB ⟨k2,hle,hb.2.1⟩]
    unfold a0E a0k a0o;simp only[ho,hc,z0Q];unfold n0Y;simp only[ha,ht,hu,hx,hy,hi,hsc];rw[wB ⟨k3,k4,rfl,s0u hb.2.2⟩]
  cases h;cases h;cases h;cases h;cases h
section
variable {F : Fr} {P : Program} {L : LE} {H : a0f} {Q : f0Z} {m : Option Nat} {ops : Array Oper} {p : Nat} {tr : List (List Nat × List Nat)}
def A0v(P:Program)(m:Option Nat)(ops:Array Oper)(p:Nat)(tr:List<|List Nat×List Nat)(L:LE)(H:a0f):Option (Option Nat×Eff×Bool×List (List Nat×List Nat)):=
  match ops.toList[p]? with
  |none=>none
  |some o=>match a0Y ops (a0p L) o with
    |some oA=>bif b0S o then none else match z0h P o (a0p L) H (I0y m ops p H)with
      |some (ef,c)=>bif okM m ops p o ef tr H then wA (o.dst,ef,c,trM m ops p o ef tr)else none
      |none=>none
    |_=>none
theorem RJ.relS {c:Bool} (h:A0v P m ops p tr L H=wA (d,ef,c,tr2))(hc:c=oA)(hn:c=oA->ef=ef')(hH:b0a H ef'.wr=H2)(k:RJ F P m ops (p+1) tr2 (g0e L d ef'.v) H2 Q):RJ F P m ops p tr L H Q:=by
  unfold A0v at h;have hn':=hn hc;subst hn';subst hH;split at h;cases h;rename_i o ho;split at h;rename_i hg
  cases hcc:b0S o with
  |true=>rw[hcc]at h;cases h
  |false=>
    rw[hcc]at h;simp only[wD]at h;split at h;rename_i ef2 c2 he
    cases hok:okM m ops p o ef2 tr H with
    |false=>rw[hok]at h;cases h
    |true=>
      rw[hok]at h;simp only[jC,ai,aG]at h;obtain⟨rfl,rfl,rfl,rfl⟩:=h;exact RJ.step ho hg hcc (v0W he hc) hok k
    cases h
  cases h
end
def inP(o:Nat)(j:Int)(n:Nat):Bool:=vA (0<=j)&&vA ((o:Int)+j<n)
def E0N {o:Nat} :inP o j n=oA↔0<=j/\(o:Int)+j<n:=by simp[inP]
section
variable {T : Type} {enc : T -> List SV} {k : Nat}
def N.storeB(hk: ∀x,(enc x).length=k) {o:Nat} {xs:List T} {y:T} (h:inP o j xs.length=oA):
    (⟨v,rd,[(i, .box<|splice (xs.flatMap enc) (o*k+j.toNat*k)<|enc y)]⟩:Eff)=⟨v,rd,[(i, .box<|(c0X xs ((o:Int)+j) y).flatMap enc)]⟩:=by
  obtain⟨h1,h2⟩:=E0N.1 h;rw[<-bS,show o+j.toNat=((o:Int)+j).toNat by omega,w0Z hk<|g0g.2 ⟨dA,h2⟩]
def w0X(hk: ∀x,(enc x).length=k) {o:Nat} {xs:List T} {y:T} (h:inP o j xs.length=oA):vC (o*k+j.toNat*k+(enc y).length) (xs.flatMap enc).length=true:=by
  obtain⟨h1,h2⟩:=E0N.1 h;rw[<-bS,show o+j.toNat=((o:Int)+j).toNat by omega];exact k0W hk<|g0g.2 ⟨dA,h2⟩
def w0V(hk: ∀x,(enc x).length=k)(xs:List T)(o:Nat) {n:Int} (hn:0<=n):((xs.flatMap enc).drop<|o*k).take (n.toNat*k)=(cut xs o<|(o:Int)+n).flatMap enc:=by
  rw[j0X hk,i0s hk];unfold cut;rw[show((o:Int)+n).toNat=o+n.toNat by omega,bF,List.drop_take];congr 2;omega
def H0n(hk: ∀x,(enc x).length=k) {xs:List T} {o:Nat} {n:Int} (h:inS o ((o:Int)+n) xs.length=oA):vC (o*k+n.toNat*k) (xs.flatMap enc).length=true:=by
  obtain⟨_,h1,h2⟩:=n0z.1 h;rw[<-bS,l0X hk,cq];exact aJ k dA
def K0V {xs:List T} {o:Nat} {n:Int} (h:inS o ((o:Int)+n) xs.length=oA):(cut xs o<|(o:Int)+n).length=n.toNat:=by
  obtain⟨_,h1,h2⟩:=n0z.1 h;simp[cut];omega
def B0S(hp: ∀x,a0Q (enc x)=oA)(xs:List T):a0Q (xs.flatMap enc)=true:=by
  induction xs with
  |nil=>rfl
  |cons x xs ih=>
    rw[aC];unfold a0Q at*;rw[bW,hp x,ih];rfl
def M0S {o:Nat} {n:Int} {len:Nat} (h:inS o ((o:Int)+n) len=oA):0<=n:=by
  obtain⟨_,h1,_⟩:=n0z.1 h;omega
end
section
variable {T : Type} {enc : T -> List SV} {k : Nat}
def N.appB(hk: ∀x,(enc x).length=k) {idx e o:Nat} {xs ys:List T} {n:Int} (h:inS o ((o:Int)+n) xs.length=oA):
    (⟨v,rd,[(i, .gone),(idx, .vec (ys.length+n.toNat) k e<|ys.flatMap enc++((xs.flatMap enc).drop<|o*k).take (n.toNat*k))]⟩:Eff)=⟨v,rd,[(i, .gone),(idx, .vec (ys++cut xs o ((o:Int)+n)).length k e<|(ys++cut xs o ((o:Int)+n)).flatMap enc)]⟩:=by
  rw[w0V hk xs o<|M0S h,ay,K0V h,bC]
def L0k(hk: ∀x,(enc x).length=k)(hp: ∀x,a0Q (enc x)=oA) {xs:List T} {o:Nat} {n:Int} {r:Bool} (h:inS o ((o:Int)+n) xs.length=oA)(hr:r=oA):
    (vC (o*k+n.toNat*k) (xs.flatMap enc).length&&(a0Q (((xs.flatMap enc).drop<|o*k).take<|n.toNat*k)&&r))=true:=by
  rw[w0V hk xs o<|M0S h,H0n hk h,B0S hp,hr];rfl
end
section
variable {F : Fr} {P : Program} {L : LE} {H : a0f} {Q : f0Z} {ops : Array Oper} {p : Nat} {tr : List (List Nat × List Nat)}
end
def u0J(f:Nat->Nat): ∀a b:List SV,SV.rnL f (a++b)=SV.rnL f a++SV.rnL f b
  | [],b=>rfl
  |x::a,b=>by simp only[bh,SV.rnL,u0J f a b]
def r0L(m:Nat): ∀a b:List SV,SV.refsL m (a++b)=(SV.refsL m a&&SV.refsL m b)
  | [],b=>by simp[SV.refsL]
  |x::a,b=>by simp only[bh,SV.refsL,r0L m a b,Bool.and_assoc]
def y0W {enc:T->List SV} (h: ∀f x,SV.rnL f (enc x)=enc x)(f:Nat->Nat)(xs:List T):Ent.rn f (.box<|xs.flatMap enc)= .box (xs.flatMap enc):=by
  simp only[Ent.rn];congr 1
  induction xs with
  |nil=>rfl
  |cons x xs ih=>rw[aC,u0J,h,ih]
def x0t {enc:T->List SV} (h: ∀m x,SV.refsL m (enc x)=oA)(m:Nat)(xs:List T):Ent.refs m (.box<|xs.flatMap enc)=true:=by
  simp only[Ent.refs]
  induction xs with
  |nil=>rfl
  |cons x xs ih=>rw[aC,r0L,h,ih];rfl
end
theorem H0s : ∀(l:List<|String×DataW Unit) (ps:List MemPlace),DataW.LaidVars P w l ps-> ∀nm d,(nm,d)∈l->
    ∃g t cs fuel p,P.globalNamed nm=wA g/\(P.globals[g]?).map (·.type)=wA t/\w.var? P nm=wA cs/\DataW.trod (λ_=>()) P w 0 (λ_=>oA) yA fuel t cs.toList=wA (d,p):=by
  intro l
  induction l with
  |nil=>intro ps _ nm d h;simp at h
  |cons x r ih=>
    intro ps h nm d hm;obtain⟨n,d'⟩:=x;obtain⟨g,t,cs,fuel,p,q,h1,h2,h3,h4,h5,_⟩:=h;rcases aT.1 hm with e|e;cases e;exact⟨g,t,cs,fuel,p,h1,h2,h3,h4⟩;exact ih q h5 nm d e
theorem q0K {laid:List (String×DataW Unit)} (hp:(laid.all λx=>x.2.handleName?.isNone)=oA)(h:laidMetH P laid w) {nm:String} {g t e:Nat} {k:IntKind} (ns:List Int)
    (hm:(nm,DataW.agg<|ns.map λz=> .lit<|.int k z)∈laid) (hg:P.globalNamed nm=wA g) (ht:(P.globals[g]?).map (·.type)=wA t) (hu:P.underlying t=wA (.array n e)) (hue:P.underlying e=wA (.int k)) (he:P.cellsOf e=1) (hct:P.cellsOf t=n):
    Rep w (KW w) (λ_=>none) (.pointer<|wA ⟨g,0,none⟩) (.ep<|ns.map<|SV.int k):=by
  rw[MakeChecks.laidMetH_plain _ _ _ hp]at h;obtain⟨ps,hl,_,_⟩:=h;obtain⟨g',t',cs,fuel,p,h1,h2,h3,h4⟩:=H0s _ _ hl _ _ hm;obtain rfl:=au<|hg.symm.trans h1;obtain rfl:=au<|ht.symm.trans h2;obtain⟨xs,m,_,ex,hlen,hxl,hel⟩:=DataW.trod_array hu h4;rw[hct]at hlen;have e3:ns.map (λz=>(DataW.lit (.int k z):DataW Unit))=xs.map (·.1):=DataW.agg.inj (Prod.mk.inj ex).1;have hnl:ns.length=n:=by have:=congrArg List.length e3;simpa [hxl]using this
  have hval:cs.toList=ns.map (vJ k):=by
    apply bD;intro i;by_cases hi:i<n;have hE:=hel i hi;rw[he,Nat.mul_one,af (dA:i<xs.length)]at hE;obtain⟨z,e1,e2,_⟩:=DataW.trod_int hue hE;have e4:=congrArg (λl=>l[i]?) e3;simp only[ar,af (dA:i<xs.length),af (dA:i<ns.length),e2,aV,ai,DataW.lit.injEq,Lit.int.injEq,true_and]at e4;rw[ar,af (dA:i<ns.length),aV,e4];have:((cs.toList.drop i).take 1)[0]?=wA (.int k z):=by rw[e1];rfl
    rw[aQ,wB dA,List.getElem?_drop]at this;simpa using this;rw[aA dA,aA dD]
  have hcell: ∀(j:Nat) v,(ns.map<|vJ k)[j]?=wA v->w.cell? ⟨g,0+j,none⟩=wA v:=λj v hj=>by
    rw[aZ,World.var?_cell h1 h3 j];rw[<-hval]at hj;simpa using hj
  refine .ep g 0 (ns.map<|vJ k) _ dE hcell ?_ (λv hv=> ?_) ?_ (λj v c hv hc=> ?_)
  · rw[aZ]
    have hsz:w.heap[g]?=none\/ ∃x,w.heap[g]?=wA x:=by cases w.heap[g]?<;>simp
    have hv3:=h3;simp only[World.var?,h1,ah]at hv3;unfold KW;split at hv3;rename_i c a b hb;rw[hb];cases hv3;have:=congrArg List.length hval;simp only[cx,List.length_map]at this⊢;omega;cases hv3
  obtain⟨z,_,rfl⟩:=aW.1 hv;rfl;simp only[a0Q,List.all_map,jD];intro z _;rfl;rw[ar]at hv hc
  cases hx:ns[j]? with
  |none=>rw[hx]at hv;cases hv
  |some z=>rw[hx]at hv hc;cases hv;cases hc;exact .int _ _
section
variable [Inhabited GT]
def csc:Code->Code| .scope a=>a|c=>c
def K0m:Code->Bool| .scope _=>oA|_=>yA
def K0n:Code->Bool| .label _=>oA|_=>yA
section
variable {F : Fr} {P : Program} {c : Code} {L : LE} {H : a0f} {Q : f0Z}
theorem K.scope(h:K0m c=oA)(k:J F P (csc c) L H<|Exit.noGoto Q):J F P c L H Q:=by
  cases c<;>first|cases h|skip
  exact λhin a w hs=>wp_scope_straight<|k hin a w hs
theorem K.label(h:K0n c=oA)(k:PJ F Q .normal L H):J F P c L H Q:=by
  cases c<;>first|cases h|skip
  exact λ_ a w hs=>wp_label<|k a w hs
end
theorem SC.byteIdx {s:List UInt8} {c:Int} (hc:b0q P f=oA)(h: ∀(b:ByteArray) (c:Int) (w:World),Calls P f #[.string b, .int .u8 c] w λe w'=>e= .returned (.int .i64<|Lib.indexByte b.data.toList c.toNat.toUInt8)/\w'=w):
    SC P f [.str s, .int .u8 c] [] (.int .i64<|Lib.indexByte s c.toNat.toUInt8) []:=by
  refine⟨hc,λw K D vals hl hrep hi hG=> ?_⟩
  match vals,hl,hrep with
  | [x,y],_,hrep=>
    have h0:=hrep 0 x _ rfl rfl;have h1:=hrep 1 y _ rfl rfl
    cases h0 with
    |str b=>
    cases h1 with
    |int _ _=>
    refine(h b c w).mono ?_;rintro e w' ⟨he,rfl⟩;exact⟨_,he,Good.here hi<|.int _ _⟩
def N0n {γ:Type} {f:α->Option γ} {g:β->Option γ} {a:α} {r:γ} (h:zG f g (.inl a)=wA r):f a=wA r:=h
def N0m {γ:Type} {f:α->Option γ} {g:β->Option γ} {b:β} {r:γ} (h:zG f g (.inr b)=wA r):g b=wA r:=h
section
variable {F : Fr} {P : Program} {c : Code} {L : LE} {H : a0f} {Q : f0Z} {ops : Array Oper} {p : Nat}
def kI [Inhabited T] {enc:T->List SV} {xs:List T} (d:Nat)(hk: ∀x,(enc x).length=k)(hm:inR j xs.length=oA)(kk:RJ F P none ops (p+1) [] (g0e L (wA d)<|.ep<|enc<|nth xs j) H Q)
    (h:u0s P none ops p [] L H=wA (wA d,⟨.ep<|((xs.flatMap enc).drop<|j.toNat*k).take k,[],[]⟩,inR j xs.length,[]):=by kernel_rfl):RJ F P none ops p [] L H Q:=
  RJ.rel h hm (λhc=>N.idx hk hc) rfl kk
def kG {s:List UInt8} (d:Nat)(hm:inR j s.length=oA)(kk:RJ F P none ops (p+1) [] (g0e L (wA d)<|.int .u8 (((s.getD j.toNat 0).toNat:Nat):Int)) H Q)
    (h:u0s P none ops p [] L H=wA (wA d,⟨.int .u8 (((s.getD j.toNat 0).toNat:Nat):Int),[],[]⟩,inR j s.length,[]):=by kernel_rfl):RJ F P none ops p [] L H Q:=
  RJ.rel h hm (λ_=>rfl) rfl kk
def kA (d:Nat)(hs:SC P f args [] v [])(kk:RJ F P none ops (p+1) [] (g0e L (wA d) v) H Q)(h:h0D none ops p [] L []=wA (wA d,f,args,[]):=by kernel_rfl)(hr:SV.refsL 0 args=true:=by kernel_rfl)(hv:SV.refs 0 v=true:=by kernel_rfl):RJ F P none ops p [] L H Q:=by
  refine RJ.call0 h hr ?_ hs hv kk;exact LeL.refl args
def kB {m:Option Nat} {tr:List (List Nat×List Nat)} {X Y:α} {r:α} (d:Nat)(h:(bif b then X else Y)=r)(h1:X=r->RJ F P m ops p tr ((d, .bool oA)::L) H Q)(h2:Y=r->RJ F P m ops p tr ((d, .bool yA)::L) H Q)
    (hd:lk L d= .bool b:=by kernel_rfl):RJ F P m ops p tr L H Q:=RJ.caseB d hd (λhb=>h1<|condT hb h) λhb=>h2<|condF hb h
variable {m : Option Nat} {tr tr2 : List (List Nat × List Nat)}
def kQ (d:Nat)(v:SV)(rd:List Nat)(hm:b=oA)(kk:RJ F P m ops (p+1) tr2 (g0e L (wA d) v) H Q)(h:u0s P m ops p tr L H=wA (wA d,⟨v,rd,[]⟩,b,tr2):=by kernel_rfl):RJ F P m ops p tr L H Q:=RJ.rel h hm (λ_=>rfl) rfl kk
def kJ [Inhabited T] {enc:T->List SV} {xs:List T} (d:Nat)(hk: ∀x,(enc x).length=k)(hm:inR j xs.length=oA)(kk:RJ F P m ops (p+1) tr2 (g0e L (wA d)<|.ep<|enc<|nth xs j) H Q)
    (h:u0s P m ops p tr L H=wA (wA d,⟨.ep<|((xs.flatMap enc).drop<|j.toNat*k).take k,[],[]⟩,inR j xs.length,tr2):=by kernel_rfl):RJ F P m ops p tr L H Q:=RJ.rel h hm (λhc=>N.idx hk hc) rfl kk
theorem kCG (d:Option Nat)(σ:List Nat)(hs:SC P f args0 H0 v0 H0')(kk:RJ F P none ops (p+1) [] (g0e L d v) H2 Q)(h:h0D none ops p [] L []=wA (d,f,args,[]):=by kernel_rfl)(ha:args=SV.rnL (a0Z σ) args0:=by kernel_rfl)
    (hl:σ.length=H0.length:=by kernel_rfl) (hg:σ.map (λi=>H[i]?)=H0.map (λen=>wA<|Ent.rn (a0Z σ) en):=by kernel_rfl) (hn:σ.Nodup:=by decide) (hr0:H0.all (Ent.refs H0.length)=true:=by kernel_rfl) (hlive:H0.all g0Z=true:=by kernel_rfl) (hr:SV.refsL H0.length args0=true:=by kernel_rfl)
    (hle':vC H0.length H0'.length=true:=by kernel_rfl) (hv:SV.rn (gOf (a0Z σ) H0.length H.length) v0=v:=by kernel_rfl) (hH:d0z (a0Z σ) H0.length H H0'=H2:=by kernel_rfl):RJ F P none ops p [] L H Q:=
  RJ.callG σ h ha hl hg hn hr0 hlive hr (LeL.refl _) hs hle' hv hH kk
theorem kW {L2:LE} (hm:F.H0=H0)(hdom: ∀i,F.H0.length<=i->F.D0 i=none)(σ:List Nat)(kk:PJ F Q e L2 H2)(hl:σ.length=H2.length:=by kernel_rfl)(hg:σ.map (λi=>H[i]?)=H2.map (λen=>wA<|Ent.rn (a0Z σ) en):=by kernel_rfl)(hn:σ.Nodup:=by decide)
    (hr:H2.all (Ent.refs H2.length)=true:=by kernel_rfl) (hk:σ.take H0.length=oB H0.length:=by kernel_rfl) (hv:L2.map (λp=>lk L p.1)=L2.map (λp=>SV.rn (a0Z σ) p.2):=by kernel_rfl) (hvr:L2.all (λp=>SV.refs H2.length p.2)=true:=by kernel_rfl):PJ F Q e L H:=
  PJ.wk (Wk.sel H0.length (by rw[hm]) hdom σ hl hg hn hr hk hv hvr) kk
theorem kLN {R:S->LE×a0f} {o:O} {s':S} (ts:List Nat)(hL:g0s ts L=(R s').1:=by kernel_rfl)(hH:H=(R s').2:=by kernel_rfl):PJ F (p0D F R Q o<|.inl s') .normal L H:=PJ.loopNext ts hL hH
theorem kb(i:Nat)(k:J F P (cb c) L H<|vF i Q)(h:z0u i c=true:=by kernel_rfl):J F P c L H Q:=K.block i h k
theorem kl {step:S->Option (S⊕O)} {s0:S} {o:O} (R:S->LE×a0f)(ho:a0m step n s0=wA o)(ts:List Nat)(body: ∀s x,step s=wA x->J F P (cp c) (R s).1 (R s).2 (p0D F R Q o x))(h:E0J c=true:=by kernel_rfl)(hL:g0s ts L=(R s0).1:=by kernel_rfl)(hH:H=(R s0).2:=by kernel_rfl):J F P c L H Q:=
  K.loop h R ho ts hL hH body
end
end
end Go.Sy
