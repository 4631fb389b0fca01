import Derived.Still
import Derived.KernelRfl
import Derived.ProofKit
import Derived.SizedLaws
import Derived.OpenShut
import Derived.Laws.Cover3
import Derived.Laws.IdiomRangeMap
import Derived.MakeChecks
import Derived.ChangeArms
import Derived.FnData
import Derived.Scope
import Derived.Lib.Bytealg
import Derived.Laws.Externs
import Derived.Test.YtafbfodcilkgmaaGreatDoorSa
set_option linter.all false
namespace Go.Sy
open Go Go.RowKit
open _root_.Array renaming replicate->yD
open Go.Code renaming wp_mono->zJ
open Go.Exit renaming inBlock->vF
open Go.IntKind renaming bits->yH,signed->oG,wrap->wA
open _root_.List renaming all_eq_true->wD,range->jC,range'->wH,replicate->oC
open _root_.Nat renaming beq->oB,ble->yC,blt->oD
open Go.Op renaming operands->wB
open _root_.Prod renaming fst->yE,snd->vK
open Go.Region renaming binds->wF,lexB->vG,lexFrom->zK,ready->jH
open Go.Result renaming andThen->oE,andThen_ok->vC
open Go.Sem renaming run_bind->zD,run_pure->vE
open _root_.Sum renaming elim->zG
open _root_.UInt8 renaming ofNat->wJ
open Go.Utf8 renaming encode->jJ
open Go.Value renaming int->oJ
open _root_.Decidable renaming decide->yA
open _root_.Bool renaming false->oA,true->jB
open _root_.Option renaming some->vA
variable {o:Oper}{ops:Array Oper}{base i id n k:Nat}{ef ef':Eff}{x y:Operand}{ρ ρ':Env}{H' H0 H0' H2:a0e}{f:FuncId}{args args0 cs args':List SV}{v0 v s v1 s0:SV}{en0:Ent}{d:Option Nat}{t kt:TypeId}{r:Value}{e:Exit}{w w':World}{D:DM}{g:Nat->Nat}{tm:Array Value}{a:Act}{c c1 c2:Code}{b:Bool}{tr2:List (List Nat×List Nat)}{S O X α β T V R:Type}{j l h:Int}{rd:List Nat}{F:Fr}{fs:Array Field}{es:List (SV×SV)}{listed:Array Bool}
section
variable [Inhabited GT]
def d0n(o:Oper):Bool:=
  match o.op with
  | .box _ _=>jB
  | .alloc _=>jB
  | .buildSlice _ _ _=>jB
  | .makeSlice _ _ _=>jB
  | .makeMap _ _=>jB
  | .call c=>match c.callee with
    | .builtin .append=>jB
    | .value _=>jB
    |_=>oA
  |_=>oA
theorem k0D(h:b0R o=jB):d0n o=true:=by
  unfold b0R at h;unfold d0n;split at h;rename_i c ho;split at h;rename_i f hf;simp[ho,hf];cases h;cases h
def f0G(ops:Array Oper)(base i:Nat):Nat:=base+((ops.toList.take i).filter d0n).length
def a0G(H:a0e):List (Nat×Ent)->a0e
  | []=>H
  |(i,en)::r=>a0G (H.set i en) r
def h0h(o:Oper):Bool:=
  match o.op with
  | .indexAddr _ _ _=>jB
  | .call c=>match c.callee with
    | .builtin .len=>jB
    |_=>oA
  |_=>oA
def h0T(o:Oper):Bool:=
  match o.op with
  | .store _ _ _=>jB
  |_=>oA
def F0V(x:Nat):List Nat:=[2*x,2*x+1]
def h0J(o:Oper)(ef:Eff):List Nat:=bif h0h o then ef.rd.map (λx=>2*x+1)else ef.rd.flatMap F0V
def g0D(ops:Array Oper)(base i:Nat)(o:Oper)(ef:Eff):List Nat:=(bif h0T o then ef.wr.map (λx=>2*x.1)else ef.wr.flatMap λx=>F0V x.1)++(if d0n o then F0V (f0G ops base i)else [])
def m0S(a b:Option Ent):Prop:=a=b\/(∃n k e cs cs',a=vA (.vec n k e cs)/\b=vA (.vec n k e cs'))\/ ∃cs cs',a=vA (.box cs)/\b=vA (.box cs')
theorem x0V{x:Nat}(h:x∈ef.wr.map yE):2*x∈g0D ops base i o ef:=by
  obtain⟨y,hy,rfl⟩:=be.1 h;unfold g0D;refine av.2 (.inl ?_)
  cases h0T o with
  |true=>exact be.2 ⟨y,hy,rfl⟩
  |false=>exact dc.2 ⟨y,hy,by simp[F0V]⟩
theorem M0G{x:Nat}(hs:h0T o=oA)(h:x∈ef.wr.map yE):2*x+1∈g0D ops base i o ef:=by
  obtain⟨y,hy,rfl⟩:=be.1 h;unfold g0D;refine av.2<|.inl ?_;rw[hs];exact dc.2 ⟨y,hy,by simp[F0V]⟩
def A0G(h:d0n o=jB):2*f0G ops base i∈g0D ops base i o ef:=by
  unfold g0D;rw[vB h];exact av.2 (.inr<|by simp[F0V])
def p0k{x:Nat}(hs:h0h o=oA)(h:x∈ef.rd):2*x∈h0J o ef:=by
  unfold h0J;rw[hs];exact dc.2 ⟨x,h,by simp[F0V]⟩
def L0M{x:Nat}(h:x∈ef.rd):2*x+1∈h0J o ef:=by
  unfold h0J
  cases h0h o with
  |true=>exact be.2 ⟨x,h,rfl⟩
  |false=>exact dc.2 ⟨x,h,by simp[F0V]⟩
theorem x0v{P:Program}{H:a0e}{idx:Nat}(hs:h0h o=jB)(h: ∀x∈o.op.operands,a0B ρ x=a0B ρ' x)(he:a0D P o ρ H idx=vA ef)(hr: ∀i∈ef.rd,m0S (H'[i]?)<|H[i]?):a0D P o ρ' H' idx=vA ef:=by
  have hloc:a0D P o ρ' H idx=vA ef:=n0j h he λ_ _=>rfl;clear he h;unfold a0D at hloc⊢;split;rename_i v hv;rw[hv]at hloc;exact hloc;rename_i hv;rw[hv]at hloc;simp only at hloc;unfold h0h at hs;split at hs;rename_i t x y ho;simp only[a0o,ho]at hloc⊢;split at hloc;rename_i e i kk j h1 h2 h3;split at hloc;rename_i n k e' cs hH;split at hloc;rename_i hc;cases hloc;rcases hr i dE with hq|⟨n',k',e2,cs1,cs2,q1,q2⟩|⟨cs1,cs2,q1,q2⟩;rw[hq,hH];simp only;rw[vB hc];rw[hH]at q2;cases q2;rw[q1];simp only;rw[vB hc];rw[hH]at q2;cases q2;cases hloc;cases hloc;cases hloc;rename_i c ho;split at hs;rename_i hc;simp only[a0o,ho,hc]at hloc⊢;split at hloc;rename_i x t h1 h2;split at hloc;rename_i e i h3 h4;split at hloc;rename_i n k e' cs hH;cases hloc;rcases hr i dE with hq|⟨n',k',e2,cs1,cs2,q1,q2⟩|⟨cs1,cs2,q1,q2⟩;rw[hq,hH];rw[hH]at q2;cases q2;rw[q1];rw[hH]at q2;cases q2;cases hloc;cases hloc;cases hloc;cases hs;cases hs
def s0m(r1 w1 r2 w2:List Nat):Bool:=w1.all (λx=> !r2.contains x&& !w2.contains x)&&w2.all λx=> !r1.contains x
def O0L(P:Program)(ρ:Env)(o:Oper)(H:a0e)(ef:Eff):Prop:=
  ∃f args g args0 H0 v0,g0w ρ o=vA (f,args)/\args=SV.rnL g args0/\Sel H g H0/\(∀en∈H0,h0e en=jB)/\SV.refsL H0.length args0=jB/\SV.refs H0.length v0=jB/\SC P f args0 H0 v0 H0/\
    ef=⟨SV.rn g v0,(jC H0.length).map g,[]⟩
def O0M(P:Program)(ρ:Env)(o:Oper)(H:a0e)(idx:Nat)(ef:Eff):Prop:=
  ∃f args v0 en0,g0w ρ o=vA (f,args)/\SV.refsL 0 args=jB/\SC P f args [] v0 [en0]/\(H[idx]?=vA .res/\ ∀g,Ent.rn g en0=en0)/\ef=⟨SV.rn (λ_=>idx) v0,[],[(idx,en0)]⟩
def o0W(g:Nat->Nat)(n:Nat)(H0':a0e):List (Nat×Ent):=(jC n).map λj=>(g j,Ent.rn g<|H0'.getD j .gone)
def O0K(P:Program)(ρ:Env)(o:Oper)(H:a0e)(ef:Eff):Prop:=
  ∃f args g args0 H0 v0 H0',g0w ρ o=vA (f,args)/\args=SV.rnL g args0/\Sel H g H0/\(∀en∈H0,h0e en=jB)/\SV.refsL H0.length args0=jB/\SV.refs H0.length v0=jB/\SC P f args0 H0 v0 H0'/\
    H0'.length=H0.length/\(∀(j:Nat) (en:Ent),H0'[j]?=vA en->Ent.refs H0.length en=jB)/\ef=⟨SV.rn g v0,(jC H0.length).map g,o0W g H0.length H0'⟩
def pOf(f:Nat->Nat)(m idx:Nat):Nat->Nat:=λj=>if j<m then f j else idx
def O0J(P:Program)(ρ:Env)(o:Oper)(H:a0e)(idx:Nat)(ef:Eff):Prop:=
  ∃f args g args0 H0 v0 H0',g0w ρ o=vA (f,args)/\args=SV.rnL g args0/\Sel H g H0/\(∀en∈H0,h0e en=jB)/\SV.refsL H0.length args0=jB/\SC P f args0 H0 v0 H0'/\
    H0'.length=H0.length+1/\H[idx]?=vA .res/\ef=⟨SV.rn (pOf g H0.length idx) v0,(jC H0.length).map g,o0W (pOf g H0.length idx) (H0.length+1) H0'⟩
def O0I(P:Program)(ρ:Env)(o:Oper)(H:a0e)(idx:Nat)(ef:Eff):Prop:=
  ∃f args g args0 H0 v0 en0,g0w ρ o=vA (f,args)/\args=SV.rnL g args0/\Sel H g H0/\(∀en∈H0,h0e en=jB)/\SV.refsL H0.length args0=jB/\SC P f args0 H0 v0 (H0++ [en0])/\
    H[idx]?=vA .res/\ef=⟨SV.rn (pOf g H0.length idx) v0,(jC H0.length).map g,[(idx,Ent.rn (pOf g H0.length idx) en0)]⟩
def N0o(P:Program)(ρ:Env)(o:Oper)(H:a0e)(idx:Nat)(ef:Eff):Prop:=O0L P ρ o H ef\/O0M P ρ o H idx ef\/O0K P ρ o H ef\/O0J P ρ o H idx ef\/O0I P ρ o H idx ef
def opD(P:Program)(ops:Array Oper)(base i:Nat)(o:Oper)(ρ:Env)(H:a0e)(ef:Eff):Prop:=
  match a0X ops ρ o with
  |some jB=>if b0R o then N0o P ρ o H (f0G ops base i) ef else
      (a0D P o ρ H (f0G ops base i)=vA ef\/(n0k P o ρ H (f0G ops base i)=vA ef/\d0n o=jB)\/j0Y P o ρ H=vA (ef,jB))/\(d0n o=jB->H[f0G ops base i]?=vA .res)/\ ∀x∈ef.wr,x.1<H.length
  |some oA=>ef=⟨.tup [],[],[]⟩
  |none=>False
def m0n(o:Oper)(rd fw:List Nat):List (List Nat×List Nat)->Nat->Bool
  | [],_=>jB
  |(r',w')::r,j=>(o.after.any (λe=>wF .any e&&e.on==j)||s0m r' w' rd fw)&&m0n o rd fw r (j+1)
def C0L(P:Program)(ops:Array Oper)(base:Nat):List (List Nat×List Nat)->List Oper->(Env->a0e->Prop)->Env->a0e->Prop
  |_,[],K,ρ,H=>K ρ H
  |tr,o::rest,K,ρ,H=> ∃ef,opD P ops base tr.length o ρ H ef/\m0n o (h0J o ef) (g0D ops base tr.length o ef) tr 0=jB/\C0L P ops base (tr++ [(h0J o ef,g0D ops base tr.length o ef)]) rest K (m0I ρ o.dst ef.v) (a0G H ef.wr)
theorem SC.place{P:Program}{H:a0e}{idx:Nat}(h:SC P f args [] v0 [en0])(hr:SV.refsL 0 args=jB)(hres:H[idx]?=vA .res)(hE: ∀g,Ent.rn g en0=en0):
    SC P f args H (SV.rn (λ_=>idx) v0) (H.set idx en0):=by
  refine⟨h.1,λw K D vals hlen hrep hi hG=> ?_⟩;have hil:idx<H.length:=(ab.1 hres).1;have hDi:D idx=none:=hi.ent idx _ hres
  have hsel:Sel H (λj=>j) []:=⟨λj en hj=>by simp at hj,λi j hi=>by simp at hi,λj en hj=>by simp at hj⟩
  have hrn: ∀(s:SV),SV.refs 0 s=jB->SV.rn (λj=>j) s=SV.rn (λj=>j) s:=λ_ _=>rfl
  refine(h.2 w K (m0q D (λj=>j) 0) vals hlen (λj x c hx hc=> ?_) (hsel.hinv hi)<|j0t hG).mono ?_;have hc0:=e0V hr j c hc
  have hid: ∀s,SV.refs 0 s=jB->Rep w K D x s->Rep w K (m0q D (λj=>j) 0) x s:=by
    intro s hs hx;have hu:=m0Y (D':=D) (g:=λj=>j) hx λ_ _ e=>e;exact h0q hu s rfl hs
  exact hid c hc0<|hrep j x c hx hc;rintro ex w' ⟨r,he,K',Ds,g,hi',hrr⟩;have nomem: ∀b,¬Mem (m0q D (λj=>j) 0) [] b:=by rintro b ⟨i,en,c,n,h1,_⟩;simp at h1
  have hDs: ∀j x,Ds j=vA x->(λi=>if i=idx then Ds 0 else D i) idx=vA x:=by
    intro j x hx
    cases j with
    |zero=>simpa using hx
    |succ j=>rw[hi'.dom (j+1) dE]at hx;cases hx
  have hnewb: ∀b c m,h0e en0=jB->Ds 0=vA (.at b c m)->w.heap.size<=b:=λb c m hlv hd=>by
    rcases g.new b ⟨0,_,c,m,rfl,hlv,hd⟩with h1|h1;exact absurd h1<|nomem b;exact h1
  have hget: ∀i en,(H.set idx en0)[i]?=vA en->(i=idx/\en=en0)\/(i≠idx/\H[i]?=vA en):=by
    intro i en hie;rw[aR]at hie;by_cases hii:idx=i;subst hii;rw[vB rfl,vB hil]at hie;cases hie;exact .inl ⟨rfl,rfl⟩;rw[yB hii]at hie;exact .inr ⟨Ne.symm hii,hie⟩
  refine⟨r,he,K',λi=>if i=idx then Ds 0 else D i,⟨g.os,g.tape,g.output,g.size,λb hb _=>g.block b hb<|nomem b,g.cells,g.le,λb hb _=>g.kk b hb<|nomem b,λi x hx=> ?_,λb hm=> ?_⟩,
    ⟨λi hle=> ?_,λi en hie=> ?_,λi j en en' b c m c' m' hie hje hl hl' hd hd'=> ?_,hi'.kw⟩,m0Y hrr hDs⟩
  by_cases hii:i=idx;subst hii;rw[hDi]at hx;cases hx;simp only[yB hii];exact hx;obtain⟨i,en,c,m,h1,h2,h3⟩:=hm;rcases hget i en h1 with⟨rfl,rfl⟩|⟨hne,h4⟩;simp only[vB rfl]at h3;exact .inr<|hnewb b c m h2 h3;simp only[yB hne]at h3;exact .inl ⟨i,en,c,m,h4,h2,h3⟩;simp only[df]at hle;simp only[yB (show i≠idx by omega)];exact hi.dom i hle;rcases hget i en hie with⟨rfl,rfl⟩|⟨hne,h4⟩;have h9:=F0d (D':=λq=>if q=i then Ds 0 else D q) (g:=λ_=>i) (hi'.ent 0 _ rfl) hDs (λhn=>by simpa using hn);rw[hE]at h9;exact h9
  refine(hi.ent i en h4).keep (λv s hr0=>hr0.mono g.cells g.le (λq x hx=>by
      by_cases hqi:q=idx;subst hqi;rw[hDi]at hx;cases hx
      simp only[yB hqi];exact hx)) (by simp only[yB hne]) (λb c m hl hd=> ?_)
  have hb:=(k0A hi ⟨i,en,c,m,h4,hl,hd⟩).1;exact⟨g.block b hb<|nomem b,g.kk b hb<|nomem b⟩
  · rcases hget i en hie with⟨rfl,rfl⟩|⟨hne,h4⟩<;>rcases hget j en' hje with⟨rfl,rfl⟩|⟨hne',h4'⟩
    rfl;exfalso;simp only[vB rfl]at hd;simp only[yB hne']at hd';have h1:=hnewb b c m hl hd;have h2:=(k0A hi ⟨j,en',c',m',h4',hl',hd'⟩).1;omega;exfalso;simp only[yB hne]at hd;simp only[vB rfl]at hd';have h1:=hnewb b c' m' hl' hd';have h2:=(k0A hi ⟨i,en,c,m,h4,hl,hd⟩).1;omega;simp only[yB hne]at hd;simp only[yB hne']at hd';exact hi.inj i j en en' b c m c' m' h4 h4' hl hl' hd hd'
section
variable {P : Program}{ops : Array Oper}{base : Nat}{md : Region.Mode}
def e0c: ∀(wr:List<|Nat×Ent) (H:a0e),(a0G H wr).length=H.length
  | [],H=>rfl
  |(i,en)::r,H=>by simp[a0G,e0c r]
def n0Q: ∀(wr:List<|Nat×Ent) (H:a0e),(∀x∈wr,x.1<H.length)->b0a H wr=a0G H wr
  | [],H,_=>rfl
  |(i,en)::r,H,h=>by
    simp only[b0a,a0G];have hi:=h (i,en)<|aB ..;have:h0Y H i en=H.set i en:=by unfold h0Y;rw[vB hi]
    rw[this];exact n0Q r _ (λx hx=>by rw[df];exact h x<|aq _ hx)
def n0P: ∀(wr:List<|Nat×Ent) (H:a0e) (i:Nat),i∉wr.map yE->(a0G H wr)[i]?=H[i]?
  | [],H,i,_=>rfl
  |(j,en)::r,H,i,h=>by
    simp only[ao,aY,not_or]at h;simp only[a0G];rw[n0P r _ i h.2,aR,yB<|Ne.symm h.1]
def u0v: ∀(wr:List<|Nat×Ent) (H:a0e) (i:Nat) (en:Ent),i∉wr.map yE->a0G (H.set i en) wr=(a0G H wr).set i en
  | [],H,i,en,_=>rfl
  |(j,en')::r,H,i,en,h=>by
    simp only[ao,aY,not_or]at h;simp only[a0G];rw[List.set_comm _ _ h.1,u0v r _ i en h.2]
def p0F: ∀(w1 w2:List<|Nat×Ent) (H:a0e),(∀x∈w1.map yE,x∉w2.map yE)->a0G (a0G H w1) w2=a0G (a0G H w2) w1
  | [],w2,H,_=>rfl
  |(i,en)::r,w2,H,h=>by
    simp only[a0G];have h1:=h i dE;rw[p0F r w2 _ λx hx=>h x<|by simp[hx],u0v w2 H i en h1]
def u0P{r1 w1 r2 w2:List Nat}(h:s0m r1 w1 r2 w2=jB):(∀x∈w1,x∉r2/\x∉w2)/\ ∀x∈w2,x∉r1/\x∉w1:=by
  simp only[s0m,aa,wD,cX,List.contains_eq_mem,decide_eq_false_iff_not]at h;exact⟨λx hx=>h.1 x hx,λx hx=>⟨h.2 x hx,λh1=>(h.1 x h1).2 hx⟩⟩
theorem l0s{d:Option Tmp}(h: ∀t,d=vA t->x≠ .tmp t):a0B (m0I ρ d v) x=a0B ρ x:=by
  cases d with
  |none=>rfl
  |some t=>
    cases x with
    |tmp u=>
      have hne:u≠t:=λe=>h t rfl (by rw[e])
      simp[a0B,m0I,upd,hne]
    |_=>rfl
theorem j0E{d:Option Tmp}(h: ∀t,d=vA t->t∉o.looksAt ops):a0X ops (m0I ρ d v) o=a0X ops ρ o:=by
  unfold a0X
  cases hg:o.guard with
  |none=>rfl
  |some p=>
    obtain⟨j,want⟩:=p;simp only
    cases hd:(ops[j]?).bind (·.dst)with
    |none=>rfl
    |some e=>
      simp only
      cases d with
      |none=>rfl
      |some t=>
        have hne:e≠t:=λhe=>h t rfl (by
          unfold Oper.looksAt;rw[hg];simp only[hd]
          exact av.2<|.inr<|by simp[he])
        simp[m0I,upd,hne]
theorem y0F{H:a0e}{idx:Nat}(hs:h0T o=jB)(he:a0D P o ρ H idx=vA ef)(x:Nat):m0S ((a0G H ef.wr)[x]?) (H[x]?):=by
  unfold h0T at hs;split at hs;rename_i t a b ho;unfold a0D at he;split at he;cases he;exact .inl rfl;simp only[a0o,ho]at he;split at he;rename_i i off ps h1 h2;split at he;rename_i en hH;split at he;rename_i cs hcs;split at he;cases he;simp only[a0G];rw[aR];by_cases hxi:i=x;subst hxi;have hil:=(ab.1 hH).1;rw[vB rfl,vB hil,hH]
  cases en with
  |vec n k e cs0=>exact .inr (.inl ⟨n,k,e,_,cs0,rfl,rfl⟩)
  |box cs0=>exact .inr (.inr ⟨_,cs0,rfl,rfl⟩)
  |res=>simp[b0H]at hcs
  |gone=>simp[b0H]at hcs
  |map es=>simp[b0H]at hcs
  |itr m n s=>simp[b0H]at hcs
  |lop tm ps as bd st pd=>simp[b0H]at hcs
  |dfr=>simp[b0H]at hcs
  |pmap es=>simp[b0H]at hcs
  rw[yB hxi];exact .inl rfl;cases he;cases he;cases he;cases he;cases hs
theorem e0I{t:Tmp}(h:t∉o.looksAt ops)(hx:x∈o.op.operands):x≠ .tmp t:=by
  intro e;subst e;refine h<|av.2<|.inl<|List.mem_filterMap.2 ⟨.tmp t,aO.2 hx,rfl⟩
theorem i0N(h: ∀x∈o.op.operands,a0B ρ x=a0B ρ' x):g0w ρ o=g0w ρ' o:=by
  unfold g0w;split;rename_i c ho;unfold s0D;split;rename_i f hf;rw[h f<|by simp[ho,wB,Call.operands,hf]];rw[r0m c.args.toList λx hx=>h x<|by simp only[ho,wB,Call.operands];exact bv.2<|.inr<|aO.1 hx];rfl;rfl
theorem i0u(h:b0R o=jB):h0h o=false:=by
  unfold b0R at h;unfold h0h;split at h;rename_i c ho;split at h;rename_i f hf;simp[ho,hf];cases h;cases h
theorem r0z(h:d0n o=jB):h0h o=false:=by
  unfold d0n at h;unfold h0h;cases ho:o.op<;>rw[ho]at h<;>simp only at h⊢ <;>first|rfl|(cases h;done)|skip
  rename_i c;split at h<;>rename_i hc<;>first|(cases h;done)|simp[hc]
def l0k(h:d0n o=jB):h0T o=false:=by
  unfold d0n at h;unfold h0T;cases ho:o.op<;>rw[ho]at h<;>simp only at h⊢ <;>first|rfl|(cases h;done)
theorem N0l{P:Program}{H:a0e}{r:Eff×Bool}(h:j0Y P o ρ H=vA r):h0h o=oA/\h0T o=false:=by
  unfold j0Y at h;split at h;rename_i ho;exact⟨by unfold h0h;rw[ho],by unfold h0T;rw[ho]⟩;rename_i ho;exact⟨by unfold h0h;rw[ho],by unfold h0T;rw[ho]⟩;rename_i c ho;split at h;rename_i hc _ _;exact⟨by unfold h0h;simp[ho,hc],by unfold h0T;rw[ho]⟩;cases h;cases h
def u0q(h:b0R o=jB):h0T o=false:=l0k<|k0D h
def q0r{H:a0e}(h:opD P ops base i o ρ H ef):
    (∀x,2*x∉g0D ops base i o ef->(a0G H ef.wr)[x]?=H[x]?)/\ ∀x,2*x+1∉g0D ops base i o ef->m0S ((a0G H ef.wr)[x]?) (H[x]?):=by
  refine⟨λx hx=>n0P _ _ _ λhm=>hx<|x0V hm,λx hx=> ?_⟩
  cases hst:h0T o with
  |false=>exact .inl (n0P _ _ _ λhm=>hx<|M0G hst hm)
  |true=>
    unfold opD at h;split at h;split at h;rename_i hc;rw[u0q hc]at hst;cases hst;rcases h.1 with h1|h1|h1;exact y0F hst h1 x;rw[l0k h1.2]at hst;cases hst;rw[(N0l h1).2]at hst;cases hst;subst h;exact .inl rfl;exact h.elim
theorem n0l{H:a0e}(hv: ∀x∈o.op.operands,a0B ρ x=a0B ρ' x)(hg:a0X ops ρ o=a0X ops ρ' o)(hl:H'.length=H.length)
    (hA: ∀x,2*x∈h0J o ef\/2*x∈g0D ops base i o ef->H'[x]?=H[x]?) (hB: ∀x,2*x+1∈h0J o ef->m0S (H'[x]?) (H[x]?)) (h:opD P ops base i o ρ H ef):opD P ops base i o ρ' H' ef:=by
  unfold opD at h⊢;rw[<-hg];split;rename_i hgt;rw[hgt]at h;simp only at h;split;rename_i hc;rw[vB hc]at h;rcases h with h|h|h|h|h;obtain⟨f,args,g,args0,H0,v0,h1,h2,h3,h4,h5,h6,h7,h8⟩:=h;refine .inl ⟨f,args,g,args0,H0,v0,by rw[<-i0N hv];exact h1,h2,⟨λj en hj=> ?_,h3.inj,h3.refs⟩,h4,h5,h6,h7,h8⟩;rw[hA (g j)<|.inl<|p0k (i0u hc)<|by rw[h8];exact be.2 ⟨j,br.2 (ab.1 hj).1,rfl⟩];exact h3.get j en hj;obtain⟨f,args,v0,en0,h1,h2,h3,⟨h4,hE⟩,h5⟩:=h;refine .inr (.inl ⟨f,args,v0,en0,by rw[<-i0N hv];exact h1,h2,h3,⟨?_,hE⟩,h5⟩);rw[hA _<|.inr<|A0G<|k0D hc];exact h4;obtain⟨f,args,g,args0,H0,v0,H0',h1,h2,h3,h4,h5,h6,h7,hl2,hr2,h8⟩:=h;refine .inr (.inr<|.inl ⟨f,args,g,args0,H0,v0,H0',by rw[<-i0N hv];exact h1,h2,⟨λj en hj=> ?_,h3.inj,h3.refs⟩,h4,h5,h6,h7,hl2,hr2,h8⟩);rw[hA (g j)<|.inl<|p0k (i0u hc)<|by rw[h8];exact be.2 ⟨j,br.2 (ab.1 hj).1,rfl⟩];exact h3.get j en hj;obtain⟨f,args,g,args0,H0,v0,H0',h1,h2,h3,h4,h5,h7,hl2,hres,h8⟩:=h;refine .inr (.inr<|.inr<|.inl ⟨f,args,g,args0,H0,v0,H0',by rw[<-i0N hv];exact h1,h2,⟨λj en hj=> ?_,h3.inj,h3.refs⟩,h4,h5,h7,hl2, ?_,h8⟩);rw[hA (g j)<|.inl<|p0k (i0u hc)<|by rw[h8];exact be.2 ⟨j,br.2 (ab.1 hj).1,rfl⟩];exact h3.get j en hj;rw[hA _<|.inr<|A0G<|k0D hc];exact hres;obtain⟨f,args,g,args0,H0,v0,en0,h1,h2,h3,h4,h5,h7,hres,h8⟩:=h;refine .inr (.inr<|.inr<|.inr ⟨f,args,g,args0,H0,v0,en0,by rw[<-i0N hv];exact h1,h2,⟨λj en hj=> ?_,h3.inj,h3.refs⟩,h4,h5,h7, ?_,h8⟩);rw[hA (g j)<|.inl<|p0k (i0u hc)<|by rw[h8];exact be.2 ⟨j,br.2 (ab.1 hj).1,rfl⟩];exact h3.get j en hj;rw[hA _<|.inr<|A0G<|k0D hc];exact hres;rename_i hc;rw[yB hc]at h;obtain⟨h1,h2,h3⟩:=h;refine⟨h1.imp (λh1=> ?_) λh1=>h1.imp (λh1=>⟨D0U hv h1.1 hl λx hx=>hA x<|.inl<|p0k (r0z h1.2) hx,h1.2⟩) λh1=>D0W hv h1 λx hx=>hA x<|.inl<|p0k (N0l h1).1 hx,λhcr=> ?_,λx hx=>by rw[hl];exact h3 x hx⟩
  cases hso:h0h o with
  |true=>exact x0v hso hv h1 (λx hx=>hB x<|L0M hx)
  |false=>exact n0j hv h1 (λx hx=>hA x<|.inl<|p0k hso hx)
  rw[hA _<|.inr<|A0G hcr];exact h2 hcr;rename_i hgf;rw[hgf]at h;exact h;rename_i hgn;rw[hgn]at h;exact h
theorem A0n{d e:Option Tmp}{u:SV}(h: ∀t,d=vA t->e≠vA t):m0I (m0I ρ d u) e v=m0I (m0I ρ e v) d u:=by
  cases d with
  |none=>rfl
  |some t=>
    cases e with
    |none=>rfl
    |some s=>
      have hne:t≠s:=λhe=>h t rfl (by rw[he])
      funext i;simp only[m0I,upd];split;rename_i h1;subst h1;rw[yB<|Ne.symm hne];rfl
def I0O(P:Program)(md:Region.Mode)(ops:Array Oper)(base:Nat)(effs:List Eff)(K:Env->a0e->Prop):Nat->Array Bool->Env->a0e->Prop
  |0,listed,ρ,H=>jH md ops listed=[]/\K ρ H
  |fuel+1,listed,ρ,H=>(jH md ops listed=[]->K ρ H)/\
    ∀i∈jH md ops listed,∃o ef,ops[i]?=vA o/\effs[i]?=vA ef/\opD P ops base i o ρ H ef/\I0O P md ops base effs K fuel (listed.setIfInBounds i jB) (m0I ρ o.dst ef.v) (a0G H ef.wr)
theorem C0l{effs:List Eff}{K:Env->a0e->Prop}{oi:Oper}{ei:Eff}(hi:ops[i]?=vA oi)(hei:effs[i]?=vA ei): ∀(fuel:Nat) (listed:Array Bool) (ρ:Env) (H:a0e),
    (∀j oj ej,ops[j]?=vA oj->effs[j]?=vA ej->j≠i->listed.getD j jB=oA->(∀e∈oj.after,wF md e=jB->e.on≠i)->oi.apart ops oj=jB/\s0m (h0J oi ei) (g0D ops base i oi ei) (h0J oj ej) (g0D ops base j oj ej)=jB)->
    i∈jH md ops listed->opD P ops base i oi ρ H ei->I0O P md ops base effs K fuel (listed.setIfInBounds i jB) (m0I ρ oi.dst ei.v) (a0G H ei.wr)->I0O P md ops base effs K (fuel+1) listed ρ H:=by
  intro fuel
  induction fuel with
  |zero=>
    intro listed ρ H _ hr hy h;refine⟨λh0=>(by rw[h0]at hr;cases hr),λj hj=> ?_⟩;by_cases hji:j=i;subst hji;exact⟨oi,ei,hi,hei,hy,h⟩;have:=ready_mono hj hji;rw[h.1]at this;cases this
  |succ fuel ih=>
    intro listed ρ H hfree hr hy h;refine⟨λh0=>(by rw[h0]at hr;cases hr),λj hj=> ?_⟩;by_cases hji:j=i;subst hji;exact⟨oi,ei,hi,hei,hy,h⟩;obtain⟨oj,ej,hoj,hej,hdj,hrest⟩:=h.2 j<|ready_mono hj hji;obtain⟨hjun,oj',hoj',hall⟩:=mem_ready.1 hj;rw[hoj]at hoj';cases hoj'
    have hnot: ∀e∈oj.after,wF md e=jB->e.on≠i:=λe he hb heq=>by
      have h1:=hall e he hb;have h0:=(mem_ready.1 hr).1;rw[heq]at h1;rcases bK i listed.size with h'|h';simp[h']at h0 h1;rw[h0]at h1;cases h1;simp[cA h']at h1
    obtain⟨hap,hdis⟩:=hfree j oj ej hoj hej hji hjun hnot;obtain⟨a1,a2,a3⟩:=Oper.apart_spec hap;obtain⟨d1,d2⟩:=u0P hdis;have hwi: ∀x,x∈ei.wr.map yE->2*x∈g0D ops base i oi ei:=λx hx=>x0V hx
    have hwj: ∀x,x∈ej.wr.map yE->2*x∈g0D ops base j oj ej:=λx hx=>x0V hx
    have shc: ∀ {a b:Option Ent},m0S a b->m0S b a:=λh=>by
      rcases h with h|⟨n,k,e,c1,c2,q1,q2⟩|⟨c1,c2,q1,q2⟩;exact .inl h.symm;exact .inr<|.inl ⟨n,k,e,c2,c1,q2,q1⟩;exact .inr (.inr ⟨c2,c1,q2,q1⟩)
    obtain⟨ki1,ki2⟩:=q0r hy
    -- j before i
    have hdj':opD P ops base j oj ρ H ej:=n0l (ρ:=m0I ρ oi.dst ei.v) (H:=a0G H ei.wr)
      (λx hx=>l0s λt ht=>e0I (a1 t ht) hx) (j0E a1) (by rw[e0c])
      (λx hx=>(ki1 x (λhm=>by
        have:=d1 _ hm;rcases hx with hx|hx;exact this.1 hx
        exact this.2 hx)).symm) (λx hx=>shc<|ki2 x λhm=>(d1 _ hm).1 hx) hdj
    obtain⟨kj1,kj2⟩:=q0r hdj'
    have hyi':opD P ops base i oi (m0I ρ oj.dst ej.v) (a0G H ej.wr) ei:=n0l (ρ:=ρ) (H:=H)
      (λx hx=>(l0s λt ht=>e0I (a3 t ht) hx).symm) (j0E a3).symm (by rw[e0c])
      (λx hx=>kj1 x (λhm=>by
        have:=d2 _ hm;rcases hx with hx|hx;exact this.1 hx
        exact this.2 hx)) (λx hx=>kj2 x λhm=>(d2 _ hm).1 hx) hy
    refine⟨oj,ej,hoj,hej,hdj', ?_⟩;refine ih (listed.setIfInBounds j jB) _ _ (λk ok ek hk hek hki hun hno=> ?_) (ready_mono hr<|Ne.symm hji) hyi' ?_;refine hfree k ok ek hk hek hki ?_ hno;by_cases hjk:j=k;subst hjk;exact hjun;rw[getD_set_ne jB hjk]at hun;exact hun;rw[Array.setIfInBounds_comm _ _ hji,<-A0n (ρ:=ρ) (u:=ei.v) (v:=ej.v) a2,<-p0F ei.wr ej.wr H λx hx hx2=>(d1 _<|hwi x hx).2<|hwj x hx2];exact hrest
def t0R{o:Oper}{rd fw:List Nat}: ∀(tr:List<|List Nat×List Nat) (j:Nat),m0n o rd fw tr j=jB-> ∀(k:Nat) (r' w':List Nat),tr[k]?=vA (r',w')->
    (∃e∈o.after,wF .any e=jB/\e.on=j+k)\/s0m r' w' rd fw=jB
  | [],j,_,k,r',w',hk=>by simp at hk
  |(r1,w1)::r,j,h,k,r',w',hk=>by
    simp only[m0n,aa,bQ]at h
    cases k with
    |zero=>
      simp at hk;obtain⟨rfl,rfl⟩:=hk;rcases h.1 with h1|h1;obtain⟨e,he,hb⟩:=Array.any_eq_true'.1 h1;simp only[aa,beq_iff_eq]at hb;exact .inl ⟨e,he,hb.1,hb.2⟩;exact .inr h1
    |succ k=>
      have:=t0R r (j+1) h.2 k r' w' (by simpa using hk);rw[show j+1+k=j+(k+1)from by omega]at this;exact this
def A0K(ops:Array Oper)(base:Nat)(ds:List<|Oper×Eff)(j:Nat):List (List Nat×List Nat):=
  match ds with
  | []=> []
  |(o,e)::r=>(h0J o e,g0D ops base j o e)::A0K ops base r (j+1)
def t0K: ∀(ds:List<|Oper×Eff) (j:Nat),(A0K ops base ds j).length=ds.length
  | [],_=>rfl
  |(o,e)::r,j=>by simp[A0K,t0K r]
def A0J: ∀(ds:List<|Oper×Eff) (j k:Nat) (o:Oper) (e:Eff),ds[k]?=vA (o,e)->(A0K ops base ds j)[k]?=vA (h0J o e,g0D ops base (j+k) o e)
  | [],j,k,o,e,h=>by simp at h
  |(o1,e1)::r,j,k,o,e,h=>by
    cases k with
    |zero=>simp at h;obtain⟨rfl,rfl⟩:=h;simp[A0K]
    |succ k=>
      have:=A0J r (j+1) k o e (by simpa using h);rw[show j+1+k=j+(k+1)from by omega]at this;simpa [A0K]using this
def t0L: ∀(ds:List<|Oper×Eff) (j:Nat) (o:Oper) (e:Eff),A0K ops base (ds++ [(o,e)]) j=A0K ops base ds j++ [(h0J o e,g0D ops base (j+ds.length) o e)]
  | [],j,o,e=>by simp[A0K]
  |(o1,e1)::r,j,o,e=>by
    simp only[bn,A0K,aU];rw[t0L r (j+1) o e,show j+1+r.length=j+(r.length+1)from by omega]
theorem s0L{K:Env->a0e->Prop}: ∀(l:List Oper) (tr:List<|Oper×Eff) (listed:Array Bool) (ρ:Env) (H:a0e),(∀j,l[j]?=ops[tr.length+j]?)->(∀(j:Nat) (o:Oper) (e:Eff),tr[j]?=vA (o,e)->ops[j]?=vA o)->
    (∀k,k<tr.length->listed.getD k jB=jB)->zK .any ops l.length tr.length listed=jB->C0L P ops base (A0K ops base tr 0) l K ρ H->
    ∃es:List Eff,es.length=l.length/\I0O P .any ops base (tr.map vK++es) K l.length listed ρ H/\
      ∀(i j:Nat) (oi oj:Oper) (ei ej:Eff),i<j->tr.length<=j->ops[i]?=vA oi->ops[j]?=vA oj->(tr.map vK++es)[i]?=vA ei->(tr.map vK++es)[j]?=vA ej->
        (∀e∈oj.after,wF .any e=jB->e.on≠i)->s0m (h0J oi ei) (g0D ops base i oi ei) (h0J oj ej) (g0D ops base j oj ej)=jB
  | [],tr,listed,ρ,H,hl,htr,hli,hB,h=>by
    refine⟨[],rfl,⟨by simpa [zK]using hB,h⟩,λi j oi oj ei ej hij hj hoi hoj hei hej=> ?_⟩;rw[bO,ar,aC hj]at hej;cases hej
  |o::l,tr,listed,ρ,H,hl,htr,hli,hB,h=>by
    have h0:ops[tr.length]?=vA o:=by simpa using (hl 0).symm
    simp only[aU,zK,aa]at hB;obtain⟨⟨hr,hf⟩,hB'⟩:=hB;simp only[C0L,t0K]at h;obtain⟨ef,hy,hcomp,hK⟩:=h;have hrd:tr.length∈jH .any ops listed:=by simpa using hr
    have hlt:tr.length<listed.size:=by
      have:=(mem_ready.1 hrd).1;rcases bK tr.length listed.size with h'|h';exact h';simp[cA h']at this
    have hfa:A0K ops base (tr++ [(o,ef)]) 0=A0K ops base tr 0++ [(h0J o ef,g0D ops base tr.length o ef)]:=by rw[t0L];simp
    rw[<-hfa]at hK
    obtain⟨es,hes,hany,hpairs⟩:=s0L l (tr++ [(o,ef)]) (listed.setIfInBounds tr.length jB) _ _ (λj=>by
        have:=hl<|j+1;simpa [Nat.add_assoc,Nat.add_comm 1 j]using this) (λj o' e' hj=>by
        rw[aP]at hj;split at hj;exact htr j o' e' hj;rename_i hjl
        have hz:j-tr.length=0:=by
          have:=(ab.1 hj).1;simp at this;omega
        rw[hz]at hj;simp at hj;obtain⟨rfl,rfl⟩:=hj;have:j=tr.length:=by omega
        rw[this];exact h0) (λk hk=>by
        simp only[az,aU,cm]at hk;by_cases hkt:k=tr.length;subst hkt;simp[Array.getD,hlt]
        rw[getD_set_ne jB<|Ne.symm hkt];exact hli k dA) (by simpa using hB') hK
    have hfull:(tr++ [(o,ef)]).map vK++es=tr.map vK++(ef::es):=by simp
    rw[hfull]at hany hpairs
    have heft:(tr.map vK++ef::es)[tr.length]?=vA ef:=by
      rw[bY dE];simp
    have hall: ∀(i j:Nat) (oi oj:Oper) (ei ej:Eff),i<j->tr.length<=j->ops[i]?=vA oi->ops[j]?=vA oj->(tr.map vK++ef::es)[i]?=vA ei->(tr.map vK++ef::es)[j]?=vA ej->
        (∀e∈oj.after,wF .any e=jB->e.on≠i)->s0m (h0J oi ei) (g0D ops base i oi ei) (h0J oj ej) (g0D ops base j oj ej)=true:=by
      intro i j oi oj ei ej hij hj hoi hoj hei hej hno;by_cases hjt:j=tr.length;subst hjt;rw[h0]at hoj;cases hoj;rw[heft]at hej;cases hej
      have hti: ∃p,tr[i]?=vA p:=⟨tr[i],af hij⟩
      obtain⟨⟨o',e'⟩,hp⟩:=hti;have h1:=htr i o' e' hp;rw[hoi]at h1;cases h1;rw[bI<|by simpa using hij,ar,hp]at hei;cases hei;have hft:=A0J (ops:=ops) (base:=base) tr 0 i oi _ hp;rcases t0R _ 0 hcomp i _ _ hft with⟨e,he,hb,hon⟩|hd;exact absurd (dA:e.on=i) (hno e he hb)
      rwa [bg]at hd
      exact hpairs i j oi oj ei ej hij dD hoi hoj hei hej hno
    refine⟨ef::es,by simp[hes], ?_,hall⟩;rw[aU];refine C0l h0 heft l.length listed ρ H (λj oj ej hoj hej hji hun hno=>⟨Region.free_spec h0 hf j oj hoj hji hun hno, ?_⟩) hrd hy hany
    have hjgt:tr.length<j:=by
      rcases bK tr.length j with h'|h';exact h';have:j<tr.length:=by omega
      rw[hli j this]at hun;cases hun
    exact hall tr.length j o oj ef ej hjgt dA h0 hoj heft hej hno
section
variable {F : Fr}{Q : Exit -> Act -> World -> Prop}
theorem B0K{H:a0e}(h:d0n o=oA)(i j:Nat):a0D P o ρ H i=a0D P o ρ H j:=by
  unfold a0D;split;rfl
  · unfold d0n at h
    cases ho:o.op<;>rw[ho]at h<;>simp only[a0o,ho]<;>first|rfl|(cases h;done)|skip
    rename_i c;split<;>first|rfl|(rename_i hc;simp only[hc]at h;cases h)
def m0e: ∀(a b:List<|Nat×Ent) (H:a0e),a0G H (a++b)=a0G (a0G H a) b
  | [],b,H=>rfl
  |(i,en)::a,b,H=>by simp only[bn,a0G];exact m0e a b _
theorem G0b{f:Nat->Nat}{H:a0e}(hs:Sel H f H0)(hl:H0'.length=H0.length)(hr: ∀(j:Nat) (en:Ent),H0'[j]?=vA en->Ent.refs H0.length en=jB):d0y f H0.length H H0'=a0G H (o0W f H0.length H0'):=by
  have key: ∀q,q<=H0.length->y0Q (gOf f H0.length H.length) H0' H q=a0G H ((jC q).map λj=>(f j,Ent.rn f<|H0'.getD j .gone)):=by
    intro q
    induction q with
    |zero=>intro _;rfl
    |succ q ih=>
      intro hq;have hen:H0'[q]?=vA (H0'[q]' dA):=af dA;have hg:gOf f H0.length H.length q=f q:=by simp[gOf,show q<H0.length by omega]
      simp only[y0Q,hen];rw[dg,cx,m0e,<-ih dA,hg]
      have hlt:f q<(y0Q (gOf f H0.length H.length) H0' H q).length:=by
        rw[ih dA,e0c];exact hs.lt dA
      simp only[ao,aI,a0G,h0Y,vB hlt];rw[am,hen,bu,t0N (f:=gOf f H0.length H.length) (g:=f) (m:=H0.length) (λi hi=>by simp[gOf,hi]) _<|hr q _ hen]
  unfold d0y o0W;rw[hl];exact key _<|ak _
theorem Good.put{H:a0e}{f:Nat->Nat}{K:Nat->Nat}{idx:Nat}(hg0:Good w K (m0q D f H0.length) H0 r w' v0 H0')(hs:Sel H f H0)(hi:HInv w K D H)
    (hlive: ∀en∈H0,h0e en=jB) (hl:H0'.length=H0.length+1) (hres:H[idx]?=vA .res):Good w K D H r w' (SV.rn (pOf f H0.length idx) v0) (a0G H<|o0W (pOf f H0.length idx) (H0.length+1) H0'):=by
  obtain⟨K',Ds',g,hi',hrep⟩:=hg0;have hil:idx<H.length:=(ab.1 hres).1;have hDi:D idx=none:=hi.ent idx _ hres
  have hfi: ∀j,j<H0.length->f j≠idx:=by
    intro j hj e;have h1:=hs.get j _<|af hj;rw[e,hres]at h1;have h2:=hlive _<|cK hj;have h3:=au h1;rw[<-h0x (f:=f),<-h3]at h2;cases h2
  generalize hg:pOf f H0.length idx=gg;have hgl: ∀j,j<H0.length->gg j=f j:=λj hj=>by rw[<-hg];simp[pOf,hj]
  have hgm:gg H0.length=idx:=by rw[<-hg];simp[pOf]
  have hglt: ∀j,j<H0.length+1->gg j<H.length:=λj hj=>by
    by_cases h:j<H0.length;rw[hgl j h];exact hs.lt h;rw[show j=H0.length by omega,hgm];exact hil
  have hginj: ∀i j,i<H0.length+1->j<H0.length+1->gg i=gg j->i=j:=by
    intro i j hi1 hj1 e;by_cases h1:i<H0.length<;>by_cases h2:j<H0.length
    rw[hgl i h1,hgl j h2]at e;exact hs.inj i j h1 h2 e;rw[hgl i h1,show j=H0.length by omega,hgm]at e;exact absurd e<|hfi i h1;rw[hgl j h2,show i=H0.length by omega,hgm]at e;exact absurd e.symm<|hfi j h2;omega
  have hput: ∀q,q<=H0.length+1->(∀j en,j<q->H0'[j]?=vA en->(a0G H<|o0W gg q H0')[gg j]?=vA (Ent.rn gg en))/\ ∀i,(∀j,j<q->gg j≠i)->(a0G H<|o0W gg q H0')[i]?=H[i]?:=by
    intro q
    induction q with
    |zero=>intro _;exact⟨λj en h=>absurd h<|cQ _,λi _=>rfl⟩
    |succ q ih=>
      intro hq;obtain⟨h2,h3⟩:=ih dA;have hen:H0'[q]?=vA (H0'[q]' dA):=af dA
      have hw:a0G H (o0W gg (q+1) H0')=(a0G H<|o0W gg q H0').set (gg q) (Ent.rn gg<|H0'[q]' dA):=by
        unfold o0W;rw[dg,cx,m0e];simp only[ao,aI,a0G];rw[am,hen,bu]
      have hlt:gg q<(a0G H<|o0W gg q H0').length:=by rw[e0c];exact hglt q dA
      rw[hw];refine⟨λj en hj hej=> ?_,λi hi3=> ?_⟩;by_cases hjq:j=q;subst hjq;rw[cB hlt];rw[hen]at hej;cases hej;rfl;rw[cq λe=>hjq (hginj q j dA dA e).symm];exact h2 j en dA hej;rw[cq<|hi3 q dA];exact h3 i λj hj=>hi3 j dA
  obtain⟨p2,p3⟩:=hput (H0.length+1) (ak _)
  -- entries that were handed v0F are somewhere
  have hsome: ∀j,j<H0.length-> ∃x,D (f j)=vA x:=by
    intro j hj;have hen:=af hj;have hlv:=hlive _<|cK hj;have he:=hi.ent _ _<|hs.get j _ hen;generalize H0[j]=en at hlv he
    cases en with
    |res=>cases hlv
    |gone=>cases hlv
    |box cs=>obtain⟨b,vs,e,h1,_⟩:=he;exact⟨_,h1⟩
    |vec n k e cs=>rcases he.2 with⟨h1,_⟩|⟨b,c,vs,rest,h1,_⟩<;>exact⟨_,h1⟩
    |map es=>obtain⟨r,mes,clock,h1,_⟩:=he;exact⟨_,h1⟩
    |itr i n' s=>obtain⟨r,bm,c0,h1,_⟩:=he;exact⟨_,h1⟩
    |lop tm ps as bd st pd=>obtain⟨l,r,h1,_⟩:=he;exact⟨_,h1⟩
    |dfr=>obtain⟨b,h1,_⟩:=he;exact⟨_,h1⟩
    |pmap es=>obtain⟨es',r,mes,clock,_,h1,_⟩:=he;exact⟨_,h1⟩
  let D':DM:=λi=>if i=idx then Ds' H0.length else D i
  have hDold: ∀i,i≠idx->D' i=D i:=λi hi=>by simp[D',hi]
  have hDs: ∀j,j<H0.length->Ds' j=D (f j):=by
    intro j hj;obtain⟨x,hx⟩:=hsome j hj;have:m0q D f H0.length j=vA x:=by simp[m0q,hj,hx]
    rw[g.dd j x this,hx]
  have hup: ∀j,j<H0.length+1->D' (gg j)=Ds' j:=by
    intro j hj1;by_cases hj:j<H0.length;rw[hgl j hj,hDold _<|hfi j hj,hDs j hj];rw[show j=H0.length by omega,hgm];simp[D']
  have hup2: ∀j x,Ds' j=vA x->D' (gg j)=vA x:=by
    intro j x hx;by_cases hj:j<H0.length+1;rw[hup j hj];exact hx;rw[hi'.dom j dA]at hx;cases hx
  have hdd: ∀i x,D i=vA x->D' i=vA x:=by
    intro i x hx;have:i≠idx:=λe=>by rw[e,hDi]at hx;cases hx
    rw[hDold i this];exact hx
  have hrep': ∀v s,Rep w K D v s->Rep w' K' D' v s:=λv s h1=>h1.mono g.cells g.le hdd
  -- an entry: an old one that was not handed v0F, or one of the call's
  have hcase: ∀i en,(a0G H<|o0W gg (H0.length+1) H0')[i]?=vA en->(∃j en0,H0'[j]?=vA en0/\i=gg j/\en=Ent.rn gg en0)\/((∀j,j<H0'.length->gg j≠i)/\H[i]?=vA en/\i≠idx):=by
    intro i en hi2;by_cases hex: ∃j,j<H0'.length/\gg j=i;obtain⟨j,hj,rfl⟩:=hex;have hen:=af hj;rw[p2 j _ dA hen]at hi2;cases hi2;exact .inl ⟨j,_,hen,rfl,rfl⟩;have hno: ∀j,j<H0'.length->gg j≠i:=λj hj e=>hex ⟨j,hj,e⟩
    rw[p3 i λj hj=>hno j dA]at hi2;exact .inr ⟨hno,hi2,λe=>hno H0.length dA<|by rw[hgm];exact e.symm⟩
  -- a block of the call's is old and handed v0F, or new
  have hblk: ∀j en0 b c n,H0'[j]?=vA en0->h0e en0=jB->Ds' j=vA (.at b c n)->Mem (m0q D f H0.length) H0 b\/w.heap.size<=b:=λj en0 b c n h1 h2 h3=>g.new b ⟨j,en0,c,n,h1,h2,h3⟩
  have hapart: ∀i en b c n,(∀j,j<H0'.length->gg j≠i)->H[i]?=vA en->h0e en=jB->D i=vA (.at b c n)-> ¬Mem (m0q D f H0.length) H0 b/\b<w.heap.size:=by
    intro i en b c n hno hie hli hdi;refine⟨fun⟨j,en0,c0,n0,h1,h2,h3⟩=> ?_,(k0A hi ⟨i,en,c,n,hie,hli,hdi⟩).1⟩;have hjl:=(ab.1 h1).1;simp only[m0q,hjl,if_true]at h3;have:=hi.inj i (f j) en _ b c n c0 n0 hie (hs.get j en0 h1) hli (by rw[h0x];exact h2) hdi h3;exact hno j dA (by rw[hgl j hjl];exact this.symm)
  refine⟨K',D',⟨g.os,g.tape,g.output,g.size,λb hb hm=>g.block b hb λh1=>hm<|hs.mem h1,g.cells,g.le,λb hb hm=>g.kk b hb λh1=>hm<|hs.mem h1,hdd,λb hm=> ?_⟩,
    ⟨λi hil2=> ?_,λi en hie=> ?_,λi j en en' b c n c' n' hie hje hli hlj hdi hdj=> ?_,hi'.kw⟩, ?_⟩
  obtain⟨i,en,c,n,h1,h2,h3⟩:=hm;rcases hcase i en h1 with⟨j,en0,q1,q2,q3⟩|⟨_,q2,q3⟩;subst q2;subst q3;rw[hup j<|by have:=(ab.1 q1).1;omega]at h3;rw[h0x]at h2;rcases hblk j en0 b c n q1 h2 h3 with h4|h4;exact .inl<|hs.mem h4;exact .inr h4;rw[hDold i q3]at h3;exact .inl ⟨i,en,c,n,q2,h2,h3⟩;rw[e0c]at hil2;rw[hDold i dA];exact hi.dom i hil2;rcases hcase i en hie with⟨j,en0,q1,q2,q3⟩|⟨q1,q2,q3⟩;subst q2;subst q3;exact F0d (hi'.ent j en0 q1) hup2 (λhn=>by rw[hup j<|by have:=(ab.1 q1).1;omega];exact hn);refine(hi.ent i en q2).keep hrep' (hDold i q3) λb c n hlv hd=> ?_;obtain⟨a1,a2⟩:=hapart i en b c n q1 q2 hlv hd;exact⟨g.block b a2 a1,g.kk b a2 a1⟩
  · rcases hcase i en hie with⟨ji,e1,q1,q2,q3⟩|⟨q1,q2,q3⟩<;>rcases hcase j en' hje with⟨jj,e2,r1,r2,r3⟩|⟨r1,r2,r3⟩
    subst q2;subst q3;subst r2;subst r3;rw[hup ji<|by have:=(ab.1 q1).1;omega]at hdi;rw[hup jj<|by have:=(ab.1 r1).1;omega]at hdj;rw[h0x]at hli hlj;rw[hi'.inj ji jj e1 e2 b c n c' n' q1 r1 hli hlj hdi hdj];exfalso;subst q2;subst q3;rw[hup ji<|by have:=(ab.1 q1).1;omega]at hdi;rw[h0x]at hli;rw[hDold j r3]at hdj;obtain⟨a1,a2⟩:=hapart j en' b c' n' r1 r2 hlj hdj;rcases hblk ji e1 b c n q1 hli hdi with h4|h4;exact a1 h4;omega;exfalso;subst r2;subst r3;rw[hup jj<|by have:=(ab.1 r1).1;omega]at hdj;rw[h0x]at hlj;rw[hDold i q3]at hdi;obtain⟨a1,a2⟩:=hapart i en b c n q1 q2 hli hdi;rcases hblk jj e2 b c' n' r1 hlj hdj with h4|h4;exact a1 h4;omega;rw[hDold i q3]at hdi;rw[hDold j r3]at hdj;exact hi.inj i j en en' b c n c' n' q2 r2 hli hlj hdi hdj
  exact m0Y hrep hup2
theorem SC.put{P:Program}{fid:FuncId}(h:SC P fid args0 H0 v0 H0'){H:a0e}{f:Nat->Nat}{idx:Nat}(hs:Sel H f H0)
    (hlive: ∀en∈H0,h0e en=jB) (ha:SV.refsL H0.length args0=jB) (hl:H0'.length=H0.length+1) (hres:H[idx]?=vA .res):
    SC P fid (SV.rnL f args0) H (SV.rn (pOf f H0.length idx) v0) (a0G H<|o0W (pOf f H0.length idx) (H0.length+1) H0'):=by
  refine⟨h.1,λw K D vals hlen hr hi hG=> ?_⟩;refine(h.2 w K (m0q D f H0.length) vals (by rw[hlen,b0O]) (λj x c hx hc=>h0q (hr j x (SV.rn f c) hx<|by rw[f0y,hc];rfl) c rfl<|e0V ha j c hc) (hs.hinv hi)<|j0t hG).mono ?_;rintro e w' ⟨r,he,hg⟩;exact⟨r,he,hg.put hs hi hlive hl hres⟩
theorem t0T: ∀(wr:List<|Nat×Ent) (H:a0e),(∀x∈wr,H[x.1]?=vA x.2)->a0G H wr=H
  | [],H,_=>rfl
  |(i,en)::r,H,h=>by
    have h1:=h (i,en) (aB ..)
    have he:H.set i en=H:=by
      refine bC λj=> ?_
      rw[aR];by_cases hj:i=j;subst hj;rw[vB rfl,vB (ab.1 h1).1,h1];rw[yB hj]
    simp only[a0G];rw[he];exact t0T r H λx hx=>h x<|aq _ hx
theorem L0r{H:a0e}{idx:Nat}(hs:Sel H g H0):a0G H (o0W (pOf g H0.length idx) (H0.length+1)<|H0++ [en0])=a0G H [(idx,Ent.rn (pOf g H0.length idx) en0)]:=by
  have e:o0W (pOf g H0.length idx) (H0.length+1) (H0++ [en0])=(o0W (pOf g H0.length idx) H0.length H0)++ [(idx,Ent.rn (pOf g H0.length idx) en0)]:=by
    unfold o0W;rw[dg,cx];congr 1;refine bH λj hj=> ?_
    have hj:=br.1 hj;rw[am,am,bI hj];simp[pOf,am]
  rw[e]
  have app: ∀(a b:List<|Nat×Ent) (H:a0e),a0G H (a++b)=a0G (a0G H a) b:=by
    intro a
    induction a with
    |nil=>intro b H;rfl
    |cons x a ih=>intro b H;obtain⟨i,en⟩:=x;simp only[bn,a0G];exact ih b _
  rw[app,t0T _ H λx hx=> ?_];obtain⟨j,hj,rfl⟩:=be.1 hx;have hj:=br.1 hj;have hget:=hs.get j _<|af hj;simp only[pOf,vB hj];rw[am,af hj,bu,hget];exact congrArg vA<|t0N (m:=H0.length) (λi hi=>(vB hi).symm) _<|hs.refs j _<|af hj
theorem t0U{effs:List Eff}{KS:Env->a0e->Prop}(hQ: ∀ρ H a w,St F ρ H a w->KS ρ H->Q .normal a w)(hb: ∀o∈ops.toList,Oper.inB F.n ops o=jB): ∀(fuel:Nat) (listed:Array Bool) (ρ:Env) (H:a0e) (a:Act) (w:World),
    St F ρ H a w->I0O P md ops base effs KS fuel listed ρ H->wpAny P md ops Q fuel listed a w:=by
  intro fuel
  induction fuel with
  |zero=>intro listed ρ H a w hst h;exact⟨h.1,hQ _ _ _ _ hst h.2⟩
  |succ fuel ih=>
    intro listed ρ H a w hst h;refine⟨λh0=>hQ _ _ _ _ hst<|h.1 h0,λi hi=> ?_⟩;obtain⟨o,ef,ho,hef,hd,hrest⟩:=h.2 i hi;have hbo:Oper.inB F.n ops o=true:=hb o<|aO.2<|Array.mem_of_getElem? ho;obtain⟨hdef,K,D,hinv⟩:=hst;unfold wpOp;simp only[ho];unfold opD at hd
    split at hd
    · rename_i hg
      rw[b0x hinv.slots (Oper.inB_guard hbo) hg,vB rfl];refine .inl ?_
      split at hd
      · rename_i hc
        rcases hd with⟨f,args,g,args0,H0,v0,h1,h2,h3,h4,h5,h6,h7,h8⟩|⟨f,args,v0,en0,h1,h2,h3,⟨h4,hE⟩,h5⟩|⟨f,args,g,args0,H0,v0,H0',h1,h2,h3,h4,h5,h6,h7,hl2,hr2,h8⟩|⟨f,args,g,args0,H0,v0,H0',h1,h2,h3,h4,h5,h7,hl2,hres,h8⟩|⟨f,args,g,args0,H0,v0,en0,h1,h2,h3,h4,h5,h7,hres,h8⟩
        case inr.inr.inr.inr=>
          subst h8;have hfr:=SC.put h7 h3 h4 h5 dE hres;rw[<-h2,L0r h3]at hfr;exact p0E hinv hdef (Oper.inB_op hbo) h1 hfr (λa' w' hst'=>ih _ _ _ _ _ hst' hrest)
        case inr.inr.inr.inl=>
          subst h8;have hfr:=SC.put h7 h3 h4 h5 hl2 hres;rw[<-h2]at hfr;exact p0E hinv hdef (Oper.inB_op hbo) h1 hfr (λa' w' hst'=>ih _ _ _ _ _ hst' hrest)
        case inr.inr.inl=>
          subst h8;have hfr:=SC.frame h7 h3 h4 h5<|Nat.le_of_eq hl2.symm;rw[<-h2,G0b h3 hl2 hr2,<-j0n (f:=g) (m:=H0.length) (λi hi=>by simp[gOf,hi]) v0 h6]at hfr;exact p0E hinv hdef (Oper.inB_op hbo) h1 hfr (λa' w' hst'=>ih _ _ _ _ _ hst' hrest)
        case inr.inl=>
          subst h5;exact p0E hinv hdef (Oper.inB_op hbo) h1 (SC.place h3 h2 h4 hE) (λa' w' hst'=>ih _ _ _ _ _ hst' hrest)
        subst h8;have hfr:=SC.frame h7 h3 h4 h5<|ak _;rw[<-h2]at hfr
        -- the frame leaves the entries and the value as they are
        rw[u0K h3,<-j0n (f:=g) (m:=H0.length) (λi hi=>by simp[gOf,hi]) v0 h6]at hfr;exact p0E hinv hdef (Oper.inB_op hbo) h1 hfr (λa' w' hst'=>ih _ _ _ _ _ hst' hrest)
      · obtain⟨h1,h2,h3⟩:=hd
        rw[<-n0Q _ _ h3]at hrest;rcases h1 with h1|h1|h1
        case inr.inl=>exact L0W hinv hdef (Oper.inB_op hbo) (.inr<|h2 h1.2) h1.1 λa' w' hst'=>ih _ _ _ _ _ hst' hrest
        case inr.inr=>exact L0X hinv hdef (Oper.inB_op hbo) h1 λa' w' hst'=>ih _ _ _ _ _ hst' hrest
        by_cases hcr:d0n o=jB;exact B0J hinv hdef (Oper.inB_op hbo) (.inr<|h2 hcr) h1 λa' w' hst'=>ih _ _ _ _ _ hst' hrest
        rw[B0K (by simpa using hcr) _ H.length]at h1;exact B0J hinv hdef (Oper.inB_op hbo) (.inl rfl) h1 λa' w' hst'=>ih _ _ _ _ _ hst' hrest
    rename_i hg;rw[b0x hinv.slots (Oper.inB_guard hbo) hg,yB dE];subst hd;exact ih _ _ _ _ _ ⟨by rw[a0L];exact hdef,K,D,v0A hinv o.dst⟩ hrest;exact hd.elim
theorem Inv.reserve{K:Nat->Nat}{H:a0e}(h:Inv F w K D H ρ tm)(m:Nat):Inv F w K D (H++oC m .res) ρ tm:=by
  have hget: ∀i en,(H++oC m Ent.res)[i]?=vA en->H[i]?=vA en\/(en= .res/\H.length<=i):=by
    intro i en hi;rw[aP]at hi;split at hi;exact .inl hi
    · rw[List.getElem?_replicate]at hi
      split at hi<;>cases hi
      exact .inr ⟨rfl,dA⟩
  have hmem: ∀b,Mem D (H++oC m .res) b->Mem D H b:=by
    rintro b ⟨i,en,c,n,h1,h2,h3⟩;rcases hget i en h1 with h4|⟨h4,_⟩;exact⟨i,en,c,n,h4,h2,h3⟩;subst h4;cases h2
  refine⟨h.slots,⟨λi hi=>h.hinv.dom i<|by simp at hi;omega,λi en hi=> ?_,λi j en en' b c n c' n' hi hj hl hl' hd hd'=> ?_,h.hinv.kw⟩, ?_⟩;rcases hget i en hi with h4|⟨h4,h5⟩;exact h.hinv.ent i en h4;subst h4;exact h.hinv.dom i h5;rcases hget i en hi with h4|⟨h4,_⟩;rcases hget j en' hj with h5|⟨h5,_⟩;exact h.hinv.inj i j en en' b c n c' n' h4 h5 hl hl' hd hd';subst h5;cases hl';subst h4;cases hl;have g:=h.grow;exact⟨g.os,g.tape,g.output,g.size,g.block,g.cells,g.le,g.kk,g.dd,λb hm=>g.new b<|hmem b hm⟩
def e0k(ops:Array Oper):Nat:=(ops.toList.filter d0n).length
theorem z0z{KS:Env->a0e->Prop}(hm:P.follows .mixedOrders=jB)(hB:vG .any ops=jB)(hQ: ∀ρ H a w,St F ρ H a w->KS ρ H->Q .normal a w)(hb: ∀o∈ops.toList,Oper.inB F.n ops o=jB){H:a0e}
    (hst:St F ρ H a w) (h:C0L P ops H.length [] ops.toList KS ρ<|H++oC (e0k ops) .res):(Code.region id ops jB).wp P Q a w:=by
  simp only[vG,aa]at hB;obtain⟨hd,K,D,hinv⟩:=hst;refine wp_region_any hm ?_;obtain⟨es,_,hany,_⟩:=s0L (base:=H.length) ops.toList [] (yD ops.size oA) ρ _ dE (λj o e hj=>by simp at hj) (λk hk=>absurd hk<|cQ _) (by simpa using hB.2) h;have hinv':=hinv.reserve (e0k ops)
  have hdrew:Inv F w.drew K D (H++oC (e0k ops) .res) ρ a.tmps:=⟨hinv'.slots.mono λ_ _=>World.drew_rep,hinv'.hinv.drew,hinv'.grow.trans<|Grow.drew _ _ _ _⟩
  exact t0U hQ hb ops.size _ ρ _ a _ ⟨hd,K,D,hdrew⟩ (by simpa using hany)
end
end
abbrev LE:=List<|Nat×SV
def lk:LE->Nat->SV
  | [],_=> .undef
  |(i,v)::r,t=>bif oB t i then v else lk r t
def a0p(L:LE):Env:=λt=>lk L t
def g0g(L:LE)(d:Option Nat)(v:SV):LE:=match d with
  |some d=>(d,v)::L
  |none=>L
theorem b0b(L:LE)(d:Option Nat)(v:SV):m0I (a0p L) d v=a0p (g0g L d v):=by
  cases d with
  |none=>rfl
  |some d=>
    funext t;simp only[m0I,upd,g0g,a0p,lk];by_cases h:t=d;subst h;simp
    have:oB t d=false:=by cases hb:oB t d with
      |false=>rfl
      |true=>exact absurd (ae hb) h
    rw[yB h,this];rfl
def g0r(ts:List Nat)(L:LE):LE:=ts.map λt=>(t,lk L t)
def Sees(F:Fr)(L:LE)(H:a0e)(a:Act)(w:World):Prop:=St F (a0p L) H a w
abbrev g0c:=Exit->Act->World->Prop
def b0n(n:Nat):Code->Bool
  | .region _ ops _=>ops.toList.all (Oper.inB n ops)
  | .seq a b=>b0n n a&&b0n n b
  | .cond c x y=>Operand.inB n c&&b0n n x&&b0n n y
  | .block _ c=>b0n n c
  | .loop c=>b0n n c
  | .scope c=>b0n n c
  |_=>jB
def J(F:Fr)(P:Program)(c:Code)(L:LE)(H:a0e)(Q:g0c):Prop:=b0n F.n c=jB-> ∀a w,Sees F L H a w->c.wp P Q a w
def PJ(F:Fr)(Q:g0c)(e:Exit)(L:LE)(H:a0e):Prop:= ∀a w,Sees F L H a w->Q e a w
def l0t(F:Fr)(P:Program)(c:Code)(Q:g0c):g0c:=Exit.then (λa w=>b0n F.n c=jB->c.wp P Q a w) Q
def RJ(F:Fr)(P:Program)(m:Option Nat)(ops:Array Oper)(p:Nat)(tr:List<|List Nat×List Nat)(L:LE)(H:a0e)(Q:g0c):Prop:=
  match m with
  |none=>ops.toList.all (Oper.inB F.n ops)=jB-> ∀a w,Sees F L H a w->wpList P ops Q (ops.toList.drop p) a w
  |some base=>tr.length=p->C0L P ops base tr (ops.toList.drop p) (fun ρ H=> ∀a w,St F ρ H a w->Q .normal a w) (a0p L) H
def I0s(m:Option Nat)(ops:Array Oper)(p:Nat)(H:a0e):Nat:=match m with
  |none=>H.length
  |some base=>f0G ops base p
def trM(m:Option Nat)(ops:Array Oper)(p:Nat)(o:Oper)(ef:Eff)(tr:List<|List Nat×List Nat):List (List Nat×List Nat):=match m with
  |none=>tr
  |some base=>tr++ [(h0J o ef,g0D ops base p o ef)]
def q0z(en:Option Ent):Bool:=match en with
  |some .res=>jB
  |_=>oA
def okM(m:Option Nat)(ops:Array Oper)(p:Nat)(o:Oper)(ef:Eff)(tr:List<|List Nat×List Nat)(H:a0e):Bool:=match m with
  |none=>jB
  |some base=>m0n o (h0J o ef) (g0D ops base p o ef) tr 0&&(!d0n o||q0z (H[f0G ops base p]?))&&ef.wr.all λx=>oD x.1 H.length
section
variable {F : Fr}{P : Program}{L : LE}{H : a0e}{Q : g0c}{m : Option Nat}{ops : Array Oper}{p : Nat}{tr : List (List Nat × List Nat)}
theorem Sees.keep{L2:LE}(h:Sees F L H a w)(hk: ∀t,lk L2 t=lk L t\/lk L2 t= .undef):Sees F L2 H a w:=by
  obtain⟨hd,K,D,hi⟩:=h;refine⟨hd,K,D,⟨⟨hi.slots.size,λi hin=> ?_,hi.slots.glob⟩,hi.hinv,hi.grow⟩⟩;have h1:=hi.slots.rep i hin;show Rep w K D _ (lk L2 i);rcases hk i with e|e;rw[e];exact h1;rw[e];exact .undef _
theorem k0P(ts:List Nat)(L:LE)(t:Nat):lk (g0r ts L) t=lk L t\/lk (g0r ts L) t= .undef:=by
  induction ts with
  |nil=>exact .inr rfl
  |cons s ts ih=>
    simp only[g0r,ao,lk]at ih⊢
    cases hb:oB t s with
    |true=>have:=ae hb;subst this;exact .inl rfl
    |false=>exact ih
theorem J.keep(ts:List Nat){L2:LE}(h2:g0r ts L=L2)(h:J F P c L2 H Q):J F P c L H Q:=
  λhin a w hs=>h hin a w (hs.keep<|by rw[<-h2];exact k0P ts L)
theorem J.skip(h:PJ F Q .normal L H):J F P .skip L H Q:=λ_ a w hs=>wp_skip<|h a w hs
theorem J.ret(h:PJ F Q .ret L H):J F P .ret L H Q:=λ_ a w hs=>wp_ret<|h a w hs
theorem J.exit(h:PJ F Q (.exit id) L H):J F P (.exit id) L H Q:=λ_ a w hs=>wp_exit<|h a w hs
theorem J.seq(h:J F P c1 L H<|l0t F P c2 Q):J F P (.seq c1 c2) L H Q:=λhin a w hs=>by
  simp only[b0n,aa]at hin;refine wp_seq<|zJ (λe a' w' hq=> ?_)<|h hin.1 a w hs;cases e<;>first|exact hq hin.2|exact hq
theorem PJ.next(h:J F P c L H Q):PJ F (l0t F P c Q) .normal L H:=λa w hs hin=>h hin a w hs
def PJ.passRet(h:PJ F Q .ret L H):PJ F (l0t F P c Q) .ret L H:=h
def PJ.passExit(h:PJ F Q (.exit id) L H):PJ F (l0t F P c Q) (.exit id) L H:=h
theorem J.block(h:J F P c L H<|vF id Q):J F P (.block id c) L H Q:=λhin a w hs=>wp_block<|h hin a w hs
def PJ.blockNormal(h:PJ F Q .normal L H):PJ F (vF id Q) .normal L H:=h
def PJ.blockRet(h:PJ F Q .ret L H):PJ F (vF id Q) .ret L H:=h
theorem PJ.blockOut(h:PJ F Q .normal L H):PJ F (vF id Q) (.exit id) L H:=λa w hs=>by
  show(if id=id then _ else _);rw[vB rfl];exact h a w hs
theorem PJ.blockPass{id':Nat}(hne:oB id' id=oA)(h:PJ F Q (.exit id') L H):PJ F (vF id Q) (.exit id') L H:=λa w hs=>by
  show(if id'=id then _ else _);rw[yB λe=>by subst e;simp at hne];exact h a w hs
theorem J.cond{c:Operand}{x y:Code}(hv:a0B (a0p L) c=vA (.bool b))(h:J F P (bif b then x else y) L H Q):J F P (.cond c x y) L H Q:=λhin a w hs=>by
  simp only[b0n,aa]at hin;obtain⟨hd,K,D,hi⟩:=hs;have hr:=a0i hi.slots hin.1.1 hv;generalize hva:a.eval c=v at hr;cases hr;refine wp_cond hva ?_;cases b;exact h hin.2 a w ⟨hd,K,D,hi⟩;exact h hin.1.2 a w ⟨hd,K,D,hi⟩
theorem J.region(h:RJ F P none ops 0 [] L H Q):J F P (.region id ops oA) L H Q:=λhin a w hs=>by
  simp only[b0n]at hin;exact wp_region_list<|h hin a w hs
theorem J.draw(hm:P.follows .mixedOrders=jB)(hB:vG .any ops=jB)(h:RJ F P (vA H.length) ops 0 [] L (H++oC (e0k ops) .res) Q):J F P (.region id ops jB) L H Q:=λhin a w hs=>by
  simp only[b0n,wD]at hin;exact z0z (KS:=fun ρ H=> ∀a w,St F ρ H a w->Q .normal a w) hm hB (fun ρ H a w hst hq=>hq a w hst) hin hs (by simpa using h rfl)
theorem RJ.done(hp:ops.size<=p)(h:PJ F Q .normal L H):RJ F P m ops p tr L H Q:=by
  have hd:ops.toList.drop p=[]:=bq (by simpa using hp)
  cases m with
  |none=>intro _ a w hs;rw[hd];exact h a w hs
  |some base=>intro _;rw[hd];exact λa w hs=>h a w hs
def e0g(ho:ops.toList[p]?=vA o):ops.toList.drop p=o::ops.toList.drop (p+1):=by
  obtain⟨h1,h2⟩:=ab.1 ho;rw[ca h1,h2]
def o0S(ho:ops.toList[p]?=vA o):o∈ops.toList:=aJ ho
theorem RJ.step(ho:ops.toList[p]?=vA o)(hg:a0X ops (a0p L) o=vA jB)(hc:b0R o=oA)(he:a0D P o (a0p L) H (I0s m ops p H)=vA ef)(hok:okM m ops p o ef tr H=jB)
    (h:RJ F P m ops (p+1) (trM m ops p o ef tr) (g0g L o.dst ef.v) (b0a H ef.wr) Q):RJ F P m ops p tr L H Q:=by
  cases m with
  |none=>
    intro hin a w hs;have hbo:Oper.inB F.n ops o=true:=List.all_eq_true.1 hin o<|o0S ho;obtain⟨hd,K,D,hi⟩:=hs;rw[e0g ho];refine wpList_step λKK hKK=> ?_
    rw[b0x hi.slots (Oper.inB_guard hbo) hg,vB rfl];exact B0J hi hd (Oper.inB_op hbo) (.inl rfl) he λa' w' hst'=>hKK _ _ (h hin a' w'<|by rw[b0b]at hst';exact hst')
  |some base=>
    intro hl;rw[e0g ho];simp only[okM,aa,bQ,wD]at hok;obtain⟨⟨k1,k2⟩,k3⟩:=hok;have k3': ∀x∈ef.wr,x.1<H.length:=λx hx=>bF (ag<|by simpa [oD]using k3 x hx)
    subst hl;refine⟨ef, ?_,k1, ?_⟩;unfold opD;rw[hg];simp only;rw[hc,yB dE];refine⟨.inl he,λhcr=> ?_,k3'⟩;rcases k2 with k2|k2;rw[hcr]at k2;cases k2;unfold q0z at k2;split at k2
    assumption
    cases k2;have:=h (by simp[trM]);rw[<-n0Q _ _ k3',b0b];exact this
theorem RJ.skip(ho:ops.toList[p]?=vA o)(hg:a0X ops (a0p L) o=vA oA)(hok:okM m ops p o ⟨.tup [],[],[]⟩ tr [.res]=jB\/True)
    (hk: ∀base,m=vA base->m0n o (h0J o ⟨.tup [],[],[]⟩) (g0D ops base p o ⟨.tup [],[],[]⟩) tr 0=jB)
    (h:RJ F P m ops (p+1) (trM m ops p o ⟨.tup [],[],[]⟩ tr) (g0g L o.dst<|.tup []) H Q):RJ F P m ops p tr L H Q:=by
  cases m with
  |none=>
    intro hin a w hs;have hbo:Oper.inB F.n ops o=true:=List.all_eq_true.1 hin o<|o0S ho;obtain⟨hd,K,D,hi⟩:=hs;rw[e0g ho];refine wpList_step λKK hKK=> ?_
    rw[b0x hi.slots (Oper.inB_guard hbo) hg,yB dE];exact hKK _ _ (h hin _ w ⟨by rw[a0L];exact hd,K,D,by have:=v0A hi o.dst;rw[b0b]at this;exact this⟩)
  |some base=>
    intro hl;rw[e0g ho];subst hl;refine⟨⟨.tup [],[],[]⟩, ?_,hk base rfl, ?_⟩;unfold opD;rw[hg];have:=h (by simp[trM]);rw[b0b];exact this
theorem RJ.call(ho:ops.toList[p]?=vA o)(hg:a0X ops (a0p L) o=vA jB)(hc:g0w (a0p L) o=vA (f,args))(hs:SC P f args H v H')
    (h:RJ F P none ops (p+1) tr (g0g L o.dst v) H' Q):RJ F P none ops p tr L H Q:=by
  intro hin a w hst;have hbo:Oper.inB F.n ops o=true:=List.all_eq_true.1 hin o<|o0S ho;obtain⟨hd,K,D,hi⟩:=hst;rw[e0g ho];refine wpList_step λKK hKK=> ?_
  rw[b0x hi.slots (Oper.inB_guard hbo) hg,vB rfl];exact p0E hi hd (Oper.inB_op hbo) hc hs λa' w' hst'=>hKK _ _ (h hin a' w'<|by rw[b0b]at hst';exact hst')
theorem q0A{r:FuncId×List SV}(h:g0w ρ o=vA r):b0R o=true:=by
  unfold g0w at h;split at h;rename_i c ho;unfold s0D at h;split at h;rename_i f hf;simp[b0R,ho,hf];cases h;cases h
def RJ.callD(ho:ops.toList[p]?=vA o)(hg:a0X ops (a0p L) o=vA jB)(hc:g0w (a0p L) o=vA (f,args))(ha:args=SV.rnL g args0)
    (hsel:Sel H g H0) (hlive: ∀en∈H0,h0e en=jB) (hr:SV.refsL H0.length args0=jB) (hv:SV.refs H0.length v0=jB) (hs:SC P f args0 H0 v0 H0)
    (hk: ∀base,m=vA base->m0n o (h0J o ⟨SV.rn g v0,(jC H0.length).map g,[]⟩) (g0D ops base p o ⟨SV.rn g v0,(jC H0.length).map g,[]⟩) tr 0=jB)
    (h:RJ F P m ops (p+1) (trM m ops p o ⟨SV.rn g v0,(jC H0.length).map g,[]⟩ tr) (g0g L o.dst<|SV.rn g v0) H Q):RJ F P m ops p tr L H Q:=by
  cases m with
  |none=>
    have hfr:=SC.frame hs hsel hlive hr<|ak _;rw[u0K hsel,<-j0n (f:=g) (m:=H0.length) (λi hi=>by simp[gOf,hi]) v0 hv,<-ha]at hfr;exact RJ.call ho hg hc hfr h
  |some base=>
    intro hl;rw[e0g ho];subst hl;refine⟨⟨SV.rn g v0,(jC H0.length).map g,[]⟩, ?_,hk base rfl, ?_⟩;unfold opD;rw[hg];simp only;rw[q0A hc,vB rfl];exact .inl ⟨f,args,g,args0,H0,v0,hc,ha,hsel,hlive,hr,hv,hs,rfl⟩;have:=h (by simp[trM]);rw[b0b];exact this
end
section
variable {F : Fr}{P : Program}{L : LE}{H : a0e}{Q : g0c}{m : Option Nat}{ops : Array Oper}{p : Nat}{tr : List (List Nat × List Nat)}
def j0K(P:Program)(m:Option Nat)(ops:Array Oper):Nat->Nat->List (List Nat×List Nat)->LE->a0e->Option (List (List Nat×List Nat)×LE×a0e)
  |0,_,tr,L,H=>vA (tr,L,H)
  |q+1,p,tr,L,H=>match ops.toList[p]? with
    |none=>none
    |some o=>match a0X ops (a0p L) o with
      |some jB=>bif b0R o then none else match a0D P o (a0p L) H (I0s m ops p H)with
        |some ef=>bif okM m ops p o ef tr H then j0K P m ops q (p+1) (trM m ops p o ef tr) (g0g L o.dst ef.v) (b0a H ef.wr)else none
        |none=>none
      |some oA=>bif(match m with|none=>jB|some base=>m0n o (h0J o ⟨.tup [],[],[]⟩) (g0D ops base p o ⟨.tup [],[],[]⟩) tr 0)then j0K P m ops q (p+1) (trM m ops p o ⟨.tup [],[],[]⟩ tr) (g0g L o.dst<|.tup []) H else none
      |none=>none
theorem n0Z: ∀(q p:Nat) (tr:List<|List Nat×List Nat) (L:LE) (H:a0e) (tr2:List<|List Nat×List Nat) (L2:LE) (H2:a0e),j0K P m ops q p tr L H=vA (tr2,L2,H2)->RJ F P m ops (p+q) tr2 L2 H2 Q->RJ F P m ops p tr L H Q:=by
  intro q
  induction q with
  |zero=>intro p tr L H tr2 L2 H2 h k;simp only[j0K]at h;cases h;exact k
  |succ q ih=>
    intro p tr L H tr2 L2 H2 h k;simp only[j0K]at h;rw[show p+(q+1)=p+1+q from by omega]at k;split at h;cases h;rename_i o ho;split at h;rename_i hg
    cases hc:b0R o with
    |true=>rw[hc]at h;cases h
    |false=>
      rw[hc]at h;simp only[vD]at h;split at h;rename_i ef he
      cases hok:okM m ops p o ef tr H with
      |false=>rw[hok]at h;cases h
      |true=>
        rw[hok]at h;exact RJ.step ho hg hc he hok (ih _ _ _ _ _ _ _ h k)
      cases h
    rename_i hg
    cases hb:(match m with|none=>jB|some base=>m0n o (h0J o ⟨.tup [],[],[]⟩) (g0D ops base p o ⟨.tup [],[],[]⟩) tr 0)with
    |false=>rw[hb]at h;cases h
    |true=>
      rw[hb]at h;refine RJ.skip ho hg (.inr trivial) (λbase hm=> ?_)<|ih _ _ _ _ _ _ _ h k;subst hm;exact hb
    cases h
theorem RJ.seg(q:Nat)(ts:List Nat){L2:LE}(h:(j0K P none ops q p [] L H).map (λr=>(g0r ts r.2.1,r.2.2))=vA (L2,H2))(k:RJ F P none ops (p+q) [] L2 H2 Q):RJ F P none ops p [] L H Q:=by
  cases hr:j0K P none ops q p [] L H with
  |none=>rw[hr]at h;cases h
  |some r=>
    obtain⟨tr1,L1,H1⟩:=r;rw[hr]at h;simp only[aZ,aj,aG]at h;obtain⟨rfl,rfl⟩:=h;refine n0Z q p [] L H tr1 L1 H1 hr ?_;intro hin a w hs;exact k hin a w<|hs.keep<|k0P ts L1
def RJ.segD(q:Nat){L2:LE}(h:j0K P (vA base) ops q p tr L H=vA (tr2,L2,H2))(k:RJ F P (vA base) ops (p+q) tr2 L2 H2 Q):RJ F P (vA base) ops p tr L H Q:=
  n0Z q p tr L H tr2 L2 H2 h k
def lOf(r:Option<|List (List Nat×List Nat)×LE×a0e):LE:=match r with|some x=>x.2.1|none=> []
def hOf(r:Option<|List (List Nat×List Nat)×LE×a0e):a0e:=match r with|some x=>x.2.2|none=> []
def tOf(r:Option<|List (List Nat×List Nat)×LE×a0e):List (List Nat×List Nat):=match r with|some x=>x.1|none=> []
theorem RJ.segC(q:Nat)(ts:List Nat)(h:(j0K P none ops q p [] L H).isSome=jB)(k:RJ F P none ops (p+q) [] (g0r ts<|lOf<|j0K P none ops q p [] L H) (hOf<|j0K P none ops q p [] L H) Q):RJ F P none ops p [] L H Q:=by
  refine RJ.seg q ts ?_ k
  cases hr:j0K P none ops q p [] L H with
  |none=>rw[hr]at h;cases h
  |some r=>rfl
theorem RJ.segDC(q:Nat)(h:(j0K P (vA base) ops q p tr L H).isSome=jB)(k:RJ F P (vA base) ops (p+q) (tOf<|j0K P (vA base) ops q p tr L H) (lOf<|j0K P (vA base) ops q p tr L H) (hOf<|j0K P (vA base) ops q p tr L H) Q):RJ F P (vA base) ops p tr L H Q:=by
  refine RJ.segD q ?_ k
  cases hr:j0K P (vA base) ops q p tr L H with
  |none=>rw[hr]at h;cases h
  |some r=>rfl
def Wk(F:Fr)(L:LE)(H:a0e)(L2:LE)(H2:a0e):Prop:= ∀a w,Sees F L H a w->Sees F L2 H2 a w
theorem J.wk{L2:LE}(h:Wk F L H L2 H2)(k:J F P c L2 H2 Q):J F P c L H Q:=λhin a w hs=>k hin a w<|h a w hs
theorem PJ.wk{L2:LE}(h:Wk F L H L2 H2)(k:PJ F Q e L2 H2):PJ F Q e L H:=λa w hs=>k a w<|h a w hs
theorem RJ.wk{L2:LE}(h:Wk F L H L2 H2)(k:RJ F P none ops p tr L2 H2 Q):RJ F P none ops p tr L H Q:=λhin a w hs=>k hin a w<|h a w hs
theorem o0h{d:Nat}(h:lk L d=v):a0p ((d,v)::L)=a0p L:=by
  funext t;simp only[a0p,lk]
  cases hb:oB t d with
  |true=>have:=ae hb;subst this;exact h.symm
  |false=>rfl
theorem J.caseB(d:Nat)(hd:lk L d= .bool b)(h1:b=jB->J F P c ((d, .bool jB)::L) H Q)(h2:b=oA->J F P c ((d, .bool oA)::L) H Q):J F P c L H Q:=by
  intro hin a w hs
  cases b with
  |true=>exact h1 rfl hin a w (by unfold Sees;rw[o0h hd];exact hs)
  |false=>exact h2 rfl hin a w (by unfold Sees;rw[o0h hd];exact hs)
theorem RJ.caseB(d:Nat)(hd:lk L d= .bool b)(h1:b=jB->RJ F P m ops p tr ((d, .bool jB)::L) H Q)(h2:b=oA->RJ F P m ops p tr ((d, .bool oA)::L) H Q):RJ F P m ops p tr L H Q:=by
  cases b with
  |true=>
    have:=h1 rfl
    cases m with
    |none=>intro hin a w hs;exact this hin a w (by unfold Sees;rw[o0h hd];exact hs)
    |some base=>intro hl;have t:=this hl;rw[o0h hd]at t;exact t
  |false=>
    have:=h2 rfl
    cases m with
    |none=>intro hin a w hs;exact this hin a w (by unfold Sees;rw[o0h hd];exact hs)
    |some base=>intro hl;have t:=this hl;rw[o0h hd]at t;exact t
/-! Loops. -/
def a0m{S O:Type}(step:S->Option (S⊕O)):Nat->S->Option O
  |0,_=>none
  |n+1,s=>match step s with
    |none=>none
    |some (.inr o)=>vA o
    |some (.inl s')=>a0m step n s'
theorem J.loop{step:S->Option (S⊕O)}{s0:S}{o:O}(R:S->LE×a0e)(ho:a0m step n s0=vA o)(hL:L=(R s0).1)(hH:H=(R s0).2)
    (body: ∀s x,step s=vA x->J F P c (R s).1 (R s).2 (λe a w=>match x with
      | .inl s'=>e= .normal/\Sees F (R s').1 (R s').2 a w
      | .inr o'=>e≠ .normal/\(o'=o->Q e a w))):J F P (.loop c) L H Q:=by
  subst hL;subst hH;intro hin;have hin':b0n F.n c=true:=hin;clear hin
  have key: ∀n s0,a0m step n s0=vA o-> ∀a w,Sees F (R s0).1 (R s0).2 a w-> ∀(b:Frame) (k:List Item) (cs:List Frame),∃e a' w',Q e a' w'/\Arrives P (lone (b.at a (.code c:: .inLoop c::k)) cs w) b k cs e a' w':=by
    intro n
    induction n with
    |zero=>intro s0 h;cases h
    |succ n ih=>
      intro s0 h a w hs b k cs;simp only[a0m]at h;split at h;cases h;rename_i o' hst;cases h;have hr:=body s0 _ hst hin' a w hs;obtain⟨e,a₁,w₁,⟨hne,hq⟩,harr⟩:=hr b (.inLoop c::k) cs;have hq:=hq rfl;refine⟨e,a₁,w₁,hq, ?_⟩
      cases e with
      |normal=>exact absurd rfl hne
      |exit id=>exact .pass (x:= .inLoop c) rfl (λ_ _=> .inl dE) harr
      |goto l=>exact .pass (x:= .inLoop c) rfl (λ_ _=> .inl dE) harr
      |ret=>exact .pass (x:= .inLoop c) rfl (λ_ _=> .inl dE) harr
      |panic ch=>exact .pass (x:= .inLoop c) rfl (λ_ _=> .inl dE) harr
      |outgrown=>exact .pass (x:= .inLoop c) rfl (λ_ _=> .inl dE) harr
      rename_i s' hst;have hr:=body s0 _ hst hin' a w hs;obtain⟨e,a₁,w₁,⟨rfl,hs'⟩,harr⟩:=hr b (.inLoop c::k) cs;obtain⟨e₂,a₂,w₂,hq₂,harr₂⟩:=ih s' h a₁ w₁ hs' b k cs;exact⟨e₂,a₂,w₂,hq₂, .of_steps (Steps.trans harr<|.one step_inLoop) harr₂⟩
  intro a w hs b k cs;obtain⟨e,a',w',hq,harr⟩:=key n s0 ho a w hs b k cs;exact⟨e,a',w',hq, .of_steps (.one step_loop) harr⟩
/-! Functions. -/
def y0O(P:Program)(L:LE)(H:a0e):ResultVar->Option SV
  | .tmp t=>vA (lk L t)
  | .cell t ty=>match lk L t with
    | .ptr b off=>match(H[b]?).bind b0H with
      |some cs=>b0q P ty (cs.drop off)
      |none=>none
    |_=>none
def L0j{α β:Type}(f:α->Option β):List α->Option (List β)
  | []=>vA []
  |x::r=>match f x,L0j f r with
    |some y,vA ys=>vA (y::ys)
    |_,_=>none
def u0z(P:Program)(rs:List ResultVar)(L:LE)(H:a0e):Option SV:=
  match rs with
  | [r]=>y0O P L H r
  |rs=>(L0j (y0O P L H) rs).map .tup
def e0p:List ResultVar->List Nat
  | []=> []
  | .tmp t::rs=>t::e0p rs
  | .cell t _::rs=>t::e0p rs
def j0R(n:Nat)(rs:List ResultVar):Bool:=(e0p rs).all λt=>yA<|t<n
def x0f(tm:Array Value)(r:ResultVar):Sem Value:=
  match r with
  | .tmp t=>pure (tm.getD t undef)
  | .cell a t=>do loadVar t (<-asAddr (tm.getD a undef))
def B0s(fn:Func)(tm:Array Value):results fn tm=(do
    let vs<-fn.results.mapM (x0f tm)
    pure (if h:vs.size=1 then vs[0]else .tuple vs)):=rfl
theorem D0C{K:Nat->Nat}(h:Inv F w K D H (a0p L) tm){r:ResultVar}(ht: ∀t∈e0p [r],t<F.n)(hs:y0O P L H r=vA s):
    ∃v,(x0f tm r).run P w= .ok v w/\Rep w K D v s:=by
  cases r with
  |tmp t=>
    simp only[y0O]at hs;cases hs;exact⟨_,rfl,h.slots.rep t<|ht t<|by simp[e0p]⟩
  |cell t ty=>
    simp only[y0O]at hs;have htn:=ht t (by simp[e0p]);split at hs;rename_i bi off hv;split at hs;rename_i cs hcs;have hr:=h.slots.rep t htn;rw[show a0p L t=lk L t from rfl,hv]at hr;obtain⟨b,c,m,hvx,hd⟩:=r0e hr
    cases hH:H[bi]? with
    |none=>rw[hH]at hcs;cases hcs
    |some en=>
      rw[hH]at hcs;obtain⟨vs,rest,e,hheap,hcr,_,_⟩:=w0b h.hinv hH hd hcs;have hrow:=(g0s hheap hcr).drop off;rw[bg]at hrow;obtain⟨v,hrun,hrep'⟩:=m0b (P:=P) hrow hs;refine⟨v, ?_,hrep'⟩;simp only[x0f,hvx];simp[asAddr,hrun]
    cases hs;cases hs
theorem B0t{K:Nat->Nat}(h:Inv F w K D H (a0p L) tm): ∀(rs:List ResultVar) (vs:List SV),(∀t∈e0p rs,t<F.n)->L0j (y0O P L H) rs=vA vs->
    ∃us,(rs.mapM<|x0f tm).run P w= .ok us w/\us.length=vs.length/\us.length=rs.length/\(∀(j:Nat) (v:Value) (c:SV),us[j]?=vA v->vs[j]?=vA c->Rep w K D v c):=by
  intro rs
  induction rs with
  |nil=>intro vs _ hv;simp[L0j]at hv;subst hv;exact⟨[],rfl,rfl,rfl,λj v c e=>by simp at e⟩
  |cons r rs ih=>
    intro vs ht hv;have htl:e0p (r::rs)=e0p [r]++e0p rs:=by cases r<;>rfl
    simp only[L0j]at hv;split at hv;rename_i s ss h1 h2;cases hv;obtain⟨u,hu1,hu2⟩:=D0C (P:=P) h (r:=r) (λt hm=>ht t<|by rw[htl];exact av.2<|.inl hm) h1;obtain⟨us,i1,i2,i3,i4⟩:=ih ss (λt hm=>ht t<|by rw[htl];exact av.2<|.inr hm) h2;refine⟨u::us, ?_,by simp[i2],by simp[i3],λj v c hv hc=> ?_⟩;simp only[cU,zD,hu1,vC,i1,vE]
    cases j with
    |zero=>simp at hv hc;subst hv;subst hc;exact hu2
    |succ j=>exact i4 j v c (by simpa using hv) (by simpa using hc)
    cases hv
def u0e(P:Program)(fn:Func)(F:Fr)(v:SV)(H':a0e):g0c:=λe a w=>(e= .normal\/e= .ret)/\a.defers=F.ds/\ ∃r,(results fn a.tmps).run P w= .ok r w/\Good F.w0 F.K0 F.D0 F.H0 r w v H'
structure Back(m0:Nat)(H:a0e)(f:Nat->Nat)(v1 v:SV)(H':a0e):Prop where
  sel:Sel H f H'
  keep: ∀j,j<m0->f j=j
  le:m0<=H'.length
  val:v1=SV.rn f v
  refs:SV.refs H'.length v=jB
mutual
def B0q: ∀(s:SV),SV.rn (λj=>j) s=s
  | .agg cs=>by simp only[SV.rn];rw[t0h cs]
  | .tup cs=>by simp only[SV.rn];rw[t0h cs]
  | .fn q a b=>by simp only[SV.rn];rw[t0h a,t0h b]
  | .ptr _ _=>rfl
  | .vc _=>rfl
  | .sl _ _ _ _=>rfl
  | .mp _=>rfl
  | .undef=>rfl
  | .bool _=>rfl
  | .int _ _=>rfl
  | .str _=>rfl
  | .nl=>rfl
  | .lst _ _ _=>rfl
  | .ep _=>rfl
  | .nilp=>rfl
  | .yld _=>rfl
def t0h: ∀(cs:List SV),SV.rnL (λj=>j) cs=cs
  | []=>rfl
  |c::cs=>by simp only[SV.rnL];rw[B0q c,t0h cs]
end
def I0w(en:Ent):Ent.rn (λj=>j) en=en:=by
  cases en<;>simp[Ent.rn,t0h,B0q]
theorem Back.drop{m0:Nat}{ex:a0e}(hle:m0<=H'.length)(hr:SV.refs H'.length v=jB)(hH:H'.all (Ent.refs H'.length)=jB):Back m0 (H'++ex) (λj=>j) v v H':=
  ⟨⟨λj en hj=>by rw[I0w,bI (ab.1 hj).1];exact hj,λi j _ _ e=>e,λj en hj=>List.all_eq_true.1 hH en<|aJ hj⟩,λ_ _=>rfl,hle,(B0q v).symm,hr⟩
theorem j0k{K:Nat->Nat}{w0:World}{K0:Nat->Nat}{D0:DM}{f:Nat->Nat}(hg:Grow w0 K0 D0 H0 w K D H)(hi:HInv w K D H)(hr:Rep w K D r v1)(hb:Back H0.length H f v1 v H')
    (hdom: ∀i,H0.length<=i->D0 i=none):Good w0 K0 D0 H0 r w v H':=by
  refine⟨K,m0q D f H'.length,⟨hg.os,hg.tape,hg.output,hg.size,hg.block,hg.cells,hg.le,hg.kk,λi x hx=> ?_,λb hm=>hg.new b<|hb.sel.mem hm⟩,hb.sel.hinv hi,h0q hr v hb.val hb.refs⟩
  have hil:i<H0.length:=by
    rcases bK i H0.length with h|h;exact h;rw[hdom i h]at hx;cases hx
  simp only[m0q,vB<|bk hil hb.le,hb.keep i hil];exact hg.dd i x hx
theorem t0i{fn:Func}{K:Nat->Nat}(hi:Inv F w K D H (a0p L) tm)(hin:j0R F.n fn.results.toList=jB)(hret:u0z P fn.results.toList L H=vA v1):
    ∃r,(results fn tm).run P w= .ok r w/\Rep w K D r v1:=by
  simp only[j0R,wD,decide_eq_true_eq]at hin
  have hres: ∀us,(fn.results.toList.mapM<|x0f tm).run P w= .ok us w->
      (results fn tm).run P w= .ok (if h:us.toArray.size=1 then us.toArray[0]else .tuple us.toArray) w:=by
    intro us hus;rw[B0s,Array.mapM_eq_mapM_toList];simp[hus]
  unfold u0z at hret;split at hret;rename_i rr hrs;rw[hrs]at hres hin;obtain⟨u,h1,h2⟩:=D0C (P:=P) hi hin hret;refine⟨u, ?_,h2⟩;have:=hres [u] (by simp[h1]);simpa using this;rename_i hne
  cases hm:L0j (y0O P L H) fn.results.toList with
  |none=>rw[hm]at hret;cases hret
  |some vs=>
    rw[hm]at hret;cases hret;obtain⟨us,h1,h2,h3,h4⟩:=B0t (P:=P) hi _ vs hin hm
    have hn1:us.length≠1:=by
      intro he1;obtain⟨x,hx⟩:=List.length_eq_one_iff.1<|h3.symm.trans he1;exact hne x hx
    refine⟨.tuple us.toArray,by have:=hres _ h1;rw[dif_neg<|by simpa using hn1]at this;exact this, .tup us vs h2.symm h4⟩
theorem PJ.end{fn:Func}{f:Nat->Nat}(he:e= .normal\/e= .ret)(hin:j0R F.n fn.results.toList=jB)(hret:u0z P fn.results.toList L H=vA v1)(hb:Back F.H0.length H f v1 v H')(hdom: ∀i,F.H0.length<=i->F.D0 i=none):
    PJ F (u0e P fn F v H') e L H:=by
  intro a w hs;obtain⟨hd,K,D,hi⟩:=hs;refine⟨he,hd, ?_⟩;obtain⟨r,h1,h2⟩:=t0i (P:=P) hi hin hret;exact⟨r,h1,j0k hi.grow hi.hinv h2 hb hdom⟩
def e0M:Nat->List SV->LE
  |_,[]=> []
  |i,v::r=>(i,v)::e0M (i+1) r
theorem l0N: ∀(args:List SV) (i t:Nat),lk (e0M i args) t=if i<=t then(args[t-i]?).getD .undef else .undef
  | [],i,t=>by simp[e0M,lk]
  |v::r,i,t=>by
    simp only[e0M,lk]
    cases hb:oB t i with
    |true=>have:=ae hb;subst this;simp
    |false=>
      have hne:t≠i:=λe=>by subst e;simp at hb
      simp only[vD];rw[l0N r (i+1) t];by_cases hle:i<=t;rw[vB hle,vB dA,show t-i=(t-(i+1))+1 from by omega];simp;rw[yB hle,yB dA]
theorem L0f{P:Program}{fn:Func}(hf:P.funcs[f]?=vA fn)(hb:fn.body=vA c)(hcal:b0o P f=jB)(hin:b0n fn.ntmps c=jB)
 {H:a0e} (hn:args.length<=fn.ntmps)
    (h: ∀F:Fr,F.n=fn.ntmps->F.H0=H->(∀i,F.H0.length<=i->F.D0 i=none)->J F P c (e0M 0 args) H (u0e P fn F v H')):SC P f args H v H':=by
  refine⟨hcal,λw K D vals hl hrep hi hG=> ?_⟩
  let F:Fr:=⟨fn.ntmps,w,K,D,H,[]⟩
  have hslots:Slots fn.ntmps w K D (a0p<|e0M 0 args) (vals.toArray++yD (fn.ntmps-vals.toArray.size) undef):=by
    refine⟨dD,λi hin=> ?_,hG⟩;show Rep w K D _ (lk (e0M 0 args) i);rw[l0N,vB<|bo _,bJ];by_cases hia:i<args.length;have hiv:i<vals.length:=by omega
    rw[af hia,bu]
    have hg:(vals.toArray++yD (fn.ntmps-vals.toArray.size) undef).getD i undef=vals[i]:=by
      rw[ba,bW<|by simpa using hiv];simp[hiv]
    rw[hg];exact hrep i _ _ (af hiv)<|af hia;rw[aC dA];exact .undef _
  have hst:Sees F (e0M 0 args) H { tmps:=vals.toArray++yD (fn.ntmps-vals.toArray.size) undef,defers:=[] } w:=⟨rfl,K,D,⟨hslots,hi,Grow.refl _ _ _ _⟩⟩
  refine calls_of_wp hf hb<|zJ (λe a' w' hq=> ?_)<|h F rfl rfl hi.dom hin _ w hst;obtain⟨he,hd,r,hr,hg⟩:=hq;rcases he with rfl|rfl<;>exact⟨hd,r,hr,r,rfl,hg⟩
end
mutual
def SV.fz(i:Nat)(s0:SV):SV->SV
  | .agg cs=> .agg (SV.fzL i s0 cs)
  | .tup cs=> .tup (SV.fzL i s0 cs)
  | .fn g a b=> .fn g (SV.fzL i s0 a) (SV.fzL i s0 b)
  | .vc j=>bif oB j i then s0 else .vc j
  | .ptr j off=> .ptr j off
  | .sl j off n k=> .sl j off n k
  | .mp j=> .mp j
  | .undef=> .undef
  | .bool b=> .bool b
  | .int k n=> .int k n
  | .str s=> .str s
  | .nl=> .nl
  | .lst n k cs=> .lst n k cs
  | .ep cs=> .ep cs
  | .nilp=> .nilp
  | .yld j=> .yld j
def SV.fzL(i:Nat)(s0:SV):List SV->List SV
  | []=> []
  |c::cs=>SV.fz i s0 c::SV.fzL i s0 cs
end
def r0v(i:Nat)(s0:SV): ∀(cs:List SV) (j:Nat),(SV.fzL i s0 cs)[j]?=(cs[j]?).map (SV.fz i s0)
  | [],j=>by simp[SV.fzL]
  |c::cs,j=>by
    cases j with
    |zero=>simp[SV.fzL]
    |succ j=>simpa [SV.fzL]using r0v i s0 cs j
def j0F(i:Nat)(s0:SV): ∀(cs:List SV),(SV.fzL i s0 cs).length=cs.length
  | []=>rfl
  |c::cs=>by simp[SV.fzL,j0F i s0 cs]
def Ent.fz(i:Nat)(s0:SV):Ent->Ent
  | .box cs=> .box (SV.fzL i s0 cs)
  |e=>e
section
variable {w : World}{K K' : Nat -> Nat}{D : DM}
theorem I0b(hm: ∀v s,Rep w K D v s->Rep w K' D v s)(h0: ∀v,Rep w K D v (.vc i)->Rep w K' D v s0){v:Value}(h:Rep w K D v s):Rep w K' D v (SV.fz i s0 s):=by
  induction h with
  |undef v=>exact .undef _
  |bool b=>exact .bool _
  |int k n=>exact .int _ _
  |str sb=>exact .str _
  |nl a=>exact .nl _
  |emp k a cap=>exact .emp _ _ _
  |lst k b off len cap vs cs hk hl hc hcap hmm hK h1 hp h _=>exact hm _ _ (.lst k b off len cap vs cs hk hl hc hcap hmm hK h1 hp h)
  |ep b off vs cs hc hmm hK h1 hp h _=>exact hm _ _ (.ep b off vs cs hc hmm hK h1 hp h)
  |agg vs cs hc h1 _ ih=>
    refine .agg vs _ (by rw[j0F,hc]) h1 λj v c hv hcc=> ?_;rw[r0v]at hcc
    cases hx:cs[j]? with
    |none=>rw[hx]at hcc;cases hcc
    |some x=>rw[hx]at hcc;cases hcc;exact ih j v x hv hx
  |tup vs cs hc _ ih=>
    refine .tup vs _ (by rw[j0F,hc]) λj v c hv hcc=> ?_;rw[r0v]at hcc
    cases hx:cs[j]? with
    |none=>rw[hx]at hcc;cases hcc
    |some x=>rw[hx]at hcc;cases hcc;exact ih j v x hv hx
  |ptr i off b c n hd=>exact .ptr _ _ b c n hd
  |vcn j a hd=>
    simp only[SV.fz]
    cases hb:oB j i with
    |true=>have:=ae hb;subst this;exact h0 _ (.vcn _ a hd)
    |false=>exact .vcn _ a hd
  |vc j b c n hd=>
    simp only[SV.fz]
    cases hb:oB j i with
    |true=>have:=ae hb;subst this;exact h0 _ (.vc _ b c n hd)
    |false=>exact .vc _ b c n hd
  |sl i off n k b c m' cap hd hn=>exact .sl _ _ _ _ b c m' cap hd hn
  |mp i r c n hd=>exact .mp _ r c n hd
  |fn q fs caps gs dcs hc hd _ _ ih ih'=>
    refine .fn q fs caps _ _ (by rw[j0F,hc]) (by rw[j0F,hd]) (λj v c hv hcc=> ?_) λj v c hv hcc=> ?_;rw[r0v]at hcc
    cases hx:gs[j]? with
    |none=>rw[hx]at hcc;cases hcc
    |some x=>rw[hx]at hcc;cases hcc;exact ih j v x hv hx
    rw[r0v]at hcc
    cases hx:dcs[j]? with
    |none=>rw[hx]at hcc;cases hcc
    |some x=>rw[hx]at hcc;cases hcc;exact ih' j v x hv hx
  |nilp=>exact .nilp
  |yld i l c n hd=>exact .yld _ l c n hd
theorem I0y{j:Nat}{en:Ent}(hr: ∀v s,Rep w K D v s->Rep w K' D v (SV.fz i s0 s))(hp: ∀v s,Rep w K D v s->Rep w K' D v s)(h:EntOk w K D j en)
    (hK: ∀b c n,h0e en=jB->D j=vA (.at b c n)->K' b=K b):EntOk w K' D j (Ent.fz i s0 en):=by
  cases en with
  |res=>exact h
  |gone=>trivial
  |box cs=>
    obtain⟨b,vs,e,h1,h2,h3,h4⟩:=h;refine⟨b,vs,e,h1,by rw[hK b 0 0 rfl h1];exact h2,h3,⟨by rw[j0F,h4.len],h4.one,λj v c hv hc=> ?_⟩⟩;rw[r0v]at hc
    cases hx:cs[j]? with
    |none=>rw[hx]at hc;cases hc
    |some x=>rw[hx]at hc;cases hc;exact hr _ _ (h4.rep j v x hv hx)
  |vec n k e cs=>exact h.keep (w':=w) hp rfl (λb c n' hl hd=>⟨rfl,hK b c n' hl hd⟩)
  |map es=>exact h.keep (w':=w) hp rfl (λb c n' hl hd=>⟨rfl,hK b c n' hl hd⟩)
  |pmap es=>exact h.keep (w':=w) hp rfl (λb c n' hl hd=>⟨rfl,hK b c n' hl hd⟩)
  |itr m n s=>exact h.keep (w':=w) hp rfl (λb c n' hl hd=>⟨rfl,hK b c n' hl hd⟩)
  |lop tm ps as bd st pd=>exact h.keep (w':=w) hp rfl (λb c n' hl hd=>⟨rfl,hK b c n' hl hd⟩)
  |dfr=>exact h.keep (w':=w) hp rfl λb c n' hl hd=>⟨rfl,hK b c n' hl hd⟩
def r0o(en:Ent):h0e (Ent.fz i s0 en)=h0e en:=by cases en<;>rfl
end
def fzE(i:Nat)(s0:SV)(L:LE):LE:=L.map λp=>(p.1,SV.fz i s0 p.2)
def x0O(i:Nat)(s0:SV): ∀(L:LE) (t:Nat),lk (fzE i s0 L) t=SV.fz i s0 (lk L t)
  | [],t=>rfl
  |(j,v)::r,t=>by
    simp only[fzE,ao,lk]
    cases oB t j with
    |true=>rfl
    |false=>exact x0O i s0 r t
def fzH(i:Nat)(s0:SV)(H:a0e):a0e:=(H.map<|Ent.fz i s0).set i .gone
section
variable {F : Fr}{P : Program}{L : LE}{H : a0e}
theorem Wk.freeze(i:Nat){e:TypeId}(hi:H[i]?=vA (.vec n k e cs)):Wk F L H (fzE i (.lst n k cs) L) (fzH i (.lst n k cs) H):=by
  intro a w hs;obtain⟨hd,K,D,h⟩:=hs;have hil:i<H.length:=(ab.1 hi).1;obtain⟨hp,hent⟩:=h.hinv.ent i _ hi
  have hget: ∀j en,(fzH i (.lst n k cs) H)[j]?=vA en->(j=i/\en= .gone)\/(j≠i/\ ∃en0,H[j]?=vA en0/\en=Ent.fz i (.lst n k cs) en0):=by
    intro j en hj;unfold fzH at hj;rw[aR]at hj;by_cases hji:i=j
    · subst hji
      rw[vB rfl]at hj;split at hj<;>cases hj
      exact .inl ⟨rfl,rfl⟩
    rw[yB hji,ar]at hj
    cases hx:H[j]? with
    |none=>rw[hx]at hj;cases hj
    |some en0=>rw[hx]at hj;cases hj;exact .inr ⟨Ne.symm hji,en0,rfl,rfl⟩
  -- what is settled from now on
  have key: ∃K':Nat->Nat,(∀b,K b<=K' b)/\(∀v,Rep w K D v (.vc i)->Rep w K' D v (.lst n k cs))/\(∀b,K' b≠K b->Mem D H b)/\(∀j en b c n',j≠i->H[j]?=vA en->h0e en=jB->D j=vA (.at b c n')->K' b=K b):=by
    rcases hent with⟨h1,h2,h3⟩|⟨b,c,vs,rest,h1,h2,h3,h4,h5,h6,h7,h8,h9⟩;subst h2;subst h3;refine⟨K,λ_=>ak _,λv hv=> ?_,λb hb=>absurd rfl hb,λ_ _ _ _ _ _ _ _ _=>rfl⟩
    cases hv with
    |vcn _ ad hd=>exact .emp _ _ _
    |vc _ b c n hd=>rw[h1]at hd;cases hd
    have hmono: ∀b',K b'<=(if b'=b then n*k else K b'):=λb'=>by
      split;rename_i e1;subst e1;omega;exact ak _
    refine⟨λb'=>if b'=b then n*k else K b',hmono,λv hv=> ?_,λb' hb'=> ?_,λj en b' c' n' hji hj hl hdj=> ?_⟩
    cases hv with
    |vcn _ ad hd=>rw[h1]at hd;cases hd
    |vc _ b' c' n' hd=>
      rw[h1]at hd;cases hd;have hrow:=g0s h6 h9;have hm: ∀v s,Rep w K D v s->Rep w (λb'=>if b'=b then n*k else K b') D v s:=λv s hr=>hr.mono (λ_ _ _=>rfl) hmono (λ_ _ e=>e)
      exact .lst k b 0 n c vs cs h3 h7 h9.len h4 hrow.mem (by simp[h7]) h9.one hp (λj v c hv hc=>hm _ _<|h9.rep j v c hv hc)
    have:b'=b:=by
      rcases Nat.decEq b' b with hne|he;exact absurd (yB hne) hb';exact he
    subst this;exact⟨i,_,c,n,hi,rfl,h1⟩;refine yB λe1=> ?_
    subst e1;exact hji (h.hinv.inj j i en _ b' c' n' c n hj hi hl rfl hdj h1)
  obtain⟨K',k1,k2,k3,k4⟩:=key;have hm: ∀v s,Rep w K D v s->Rep w K' D v s:=λv s hr=>hr.mono (λ_ _ _=>rfl) k1 (λ_ _ e=>e)
  have hf: ∀v s,Rep w K D v s->Rep w K' D v (SV.fz i (.lst n k cs) s):=λv s hr=>I0b hm k2 hr
  have hmem: ∀b,Mem D (fzH i (.lst n k cs) H) b->Mem D H b:=by
    rintro b ⟨j,en,c,n',q1,q2,q3⟩;rcases hget j en q1 with⟨_,rfl⟩|⟨_,en0,g1,rfl⟩;cases q2;rw[r0o]at q2;exact⟨j,en0,c,n',g1,q2,q3⟩
  have g:=h.grow
  refine⟨hd,K',D,⟨⟨h.slots.size,λt ht=> ?_,λg cs hg=>(h.slots.glob g cs hg).mono (λ_ _ _=>rfl) k1 λ_ _ e=>e⟩,⟨λj hj=>h.hinv.dom j<|by unfold fzH at hj;simpa using hj,λj en hj=> ?_,λj j' en en' b c n1 c' n1' hj hj' hl hl' hdj hdj'=> ?_,λb hb=> ?_⟩,
    ⟨g.os,g.tape,g.output,g.size,g.block,g.cells,λb=>aH (g.le b)<|k1 b,λb hb hmm=> ?_,g.dd,λb hmm=>g.new b<|hmem b hmm⟩⟩⟩
  show Rep w K' D _ (lk (fzE i (.lst n k cs) L) t);rw[x0O];exact hf _ _<|h.slots.rep t ht;rcases hget j en hj with⟨_,rfl⟩|⟨hne,en0,g1,rfl⟩;trivial;exact I0y hf hm (h.hinv.ent j en0 g1) λb c n' hl hdj=>k4 j en0 b c n' hne g1 hl hdj;rcases hget j en hj with⟨_,rfl⟩|⟨_,en0,g1,rfl⟩;cases hl;rcases hget j' en' hj' with⟨_,rfl⟩|⟨_,en0',g1',rfl⟩;cases hl';rw[r0o]at hl hl';exact h.hinv.inj j j' en0 en0' b c n1 c' n1' g1 g1' hl hl' hdj hdj';by_cases hbb:K' b=K b;rw[hbb]at hb;exact h.hinv.kw b hb;exact(k0A h.hinv<|k3 b hbb).1;by_cases hbb:K' b=K b;rw[hbb];exact g.kk b hb hmm;rcases g.new b (k3 b hbb)with q|q;exact absurd q hmm;omega
def m0K(D:DM)(i:Nat)(l:Loc):g0y D i l i=vA l:=by simp[g0y]
def o0X(D:DM){j:Nat}(l:Loc)(h:j≠i):g0y D i l j=D j:=by simp[g0y,h]
theorem Wk.move(i:Nat){e:TypeId}(hi:H[i]?=vA (.vec n k e cs)):Wk F L H (fzE i (.vc H.length) L) (fzH i (.vc H.length) H++ [.vec n k e cs]):=by
  intro a w hs;obtain⟨hd,K,D,h⟩:=hs;have hil:i<H.length:=(ab.1 hi).1;have hent:=h.hinv.ent i _ hi
  obtain⟨x,hx⟩: ∃x,D i=vA x:=by
    rcases hent.2 with⟨h1,_⟩|⟨b,c,_,_,h1,_⟩;exact⟨_,h1⟩;exact⟨_,h1⟩
  have hN:D H.length=none:=h.hinv.dom _ (ak _)
  have hDD: ∀j y,D j=vA y->g0y D H.length x j=vA y:=λj y hj=>by
    have:j≠H.length:=λe1=>by rw[e1,hN]at hj;cases hj
    rw[o0X D x this];exact hj
  have hm: ∀v s,Rep w K D v s->Rep w K (g0y D H.length x) v s:=λv s hr=>hr.mono (λ_ _ _=>rfl) (λ_=>ak _) hDD
  have h0: ∀v,Rep w K (g0y D H.length x) v (.vc i)->Rep w K (g0y D H.length x) v (.vc H.length):=λv hv=>by
    have e1:g0y D H.length x i=vA x:=hDD i x hx
    cases hv with
    |vcn _ ad hd=>rw[e1]at hd;exact .vcn _ ad (by rw[m0K];exact hd)
    |vc _ b c n hd=>rw[e1]at hd;exact .vc _ b c n (by rw[m0K];exact hd)
  have hf: ∀v s,Rep w K (g0y D H.length x) v s->Rep w K (g0y D H.length x) v (SV.fz i (.vc H.length) s):=λv s hr=>I0b (λ_ _ h=>h) h0 hr
  have hlen:(fzH i (.vc H.length) H).length=H.length:=by simp[fzH]
  have hget: ∀j en,(fzH i (.vc H.length) H++ [.vec n k e cs])[j]?=vA en->(j=i/\en= .gone)\/(j≠i/\j<H.length/\ ∃en0,H[j]?=vA en0/\en=Ent.fz i (.vc H.length) en0)\/(j=H.length/\en= .vec n k e cs):=by
    intro j en hj;rw[aP,hlen]at hj;by_cases hjl:j<H.length;rw[vB hjl]at hj;unfold fzH at hj;by_cases hji:i=j;subst hji;rw[cB<|by simpa using hil]at hj;cases hj;exact .inl ⟨rfl,rfl⟩;rw[cq hji,ar]at hj
    cases hxx:H[j]? with
    |none=>rw[hxx]at hj;cases hj
    |some en0=>rw[hxx]at hj;cases hj;exact .inr (.inl ⟨Ne.symm hji,hjl,en0,rfl,rfl⟩)
    rw[yB hjl]at hj
    have hj0:j-H.length=0:=by
      have:=(ab.1 hj).1;simp at this;omega
    rw[hj0]at hj;simp only[cv,aj]at hj;exact .inr (.inr ⟨dA,hj.symm⟩)
  have hmem: ∀b,Mem (g0y D H.length x) (fzH i (.vc H.length) H++ [.vec n k e cs]) b->Mem D H b:=by
    rintro b ⟨j,en,c,n',q1,q2,q3⟩;rcases hget j en q1 with⟨_,rfl⟩|⟨_,hjl,en0,g1,rfl⟩|⟨rfl,rfl⟩;cases q2;rw[r0o]at q2;rw[o0X D x dA]at q3;exact⟨j,en0,c,n',g1,q2,q3⟩;rw[m0K]at q3;exact⟨i,_,c,n',hi,rfl,by rw[hx];exact q3⟩
  have g:=h.grow
  refine⟨hd,K,g0y D H.length x,⟨⟨h.slots.size,λt ht=> ?_,j0t h.slots.glob⟩,⟨λj hj=> ?_,λj en hj=> ?_,λj j' en en' b c n1 c' n1' hj hj' hl hl' hdj hdj'=> ?_,λb hb=>h.hinv.kw b hb⟩,
    ⟨g.os,g.tape,g.output,g.size,g.block,g.cells,g.le,g.kk,λj y hj=>hDD j y<|g.dd j y hj,λb hmm=>g.new b<|hmem b hmm⟩⟩⟩
  show Rep w K _ _ (lk (fzE i (.vc H.length) L) t);rw[x0O];exact hf _ _<|hm _ _<|h.slots.rep t ht;rw[az,hlen]at hj;simp only[aU,cm]at hj;rw[o0X D x dA];exact h.hinv.dom j dA;rcases hget j en hj with⟨_,rfl⟩|⟨hne,hjl,en0,g1,rfl⟩|⟨rfl,rfl⟩;trivial;have he0:EntOk w K (g0y D H.length x) j en0:=(h.hinv.ent j en0 g1).keep hm (o0X D x dA) λ_ _ _ _ _=>⟨rfl,rfl⟩;exact I0y hf (λ_ _ h=>h) he0 λ_ _ _ _ _=>rfl;obtain⟨hp,hh⟩:=hent;refine⟨hp, ?_⟩;rcases hh with⟨h1,h2,h3⟩|⟨b,c,vs,rest,h1,h2,h3,h4,h5,h6,h7,h8,h9⟩;exact .inl ⟨by rw[m0K,<-hx];exact h1,h2,h3⟩;exact .inr ⟨b,c,vs,rest,by rw[m0K,<-hx];exact h1,h2,h3,h4,h5,h6,h7,h8,h9.mono hm⟩;rcases hget j en hj with⟨_,rfl⟩|⟨hne,hjl,en0,g1,rfl⟩|⟨rfl,rfl⟩;cases hl;rw[o0X D x dA]at hdj;rw[r0o]at hl;rcases hget j' en' hj' with⟨_,rfl⟩|⟨hne',hjl',en0',g1',rfl⟩|⟨rfl,rfl⟩;cases hl';rw[o0X D x dA]at hdj';rw[r0o]at hl';exact h.hinv.inj j j' en0 en0' b c n1 c' n1' g1 g1' hl hl' hdj hdj';rw[m0K,<-hx]at hdj';exact absurd (h.hinv.inj j i en0 _ b c n1 c' n1' g1 hi hl rfl hdj hdj') hne;rw[m0K,<-hx]at hdj;rcases hget j' en' hj' with⟨_,rfl⟩|⟨hne',hjl',en0',g1',rfl⟩|⟨rfl,rfl⟩;cases hl';rw[o0X D x dA]at hdj';rw[r0o]at hl';exact absurd (h.hinv.inj i j' _ en0' b c n1 c' n1' hi g1' rfl hl' hdj hdj').symm hne';rfl
def s0B{K:Nat->Nat}(h:HInv w K D H)(k:Nat)(e:TypeId):Grow w K D H w K (g0y D H.length .nil) (H++ [.vec 0 k e []])/\HInv w K (g0y D H.length .nil) (H++ [.vec 0 k e []]):=by
  have:=t0p h (idx:=H.length) (.inl rfl) none dE k e;rw[g0Z]at this;have hs:h0Y H H.length (.vec 0 k e [])=H++ [.vec 0 k e []]:=by unfold h0Y;rw[yB<|Nat.lt_irrefl _]
  rw[hs]at this;exact this
theorem Wk.viv(t k:Nat)(e:TypeId)(ht:lk L t= .nl):Wk F L H ((t, .vc H.length)::L) (H++ [.vec 0 k e []]):=by
  intro a w hs;obtain⟨hd,K,D,h⟩:=hs;obtain⟨g,hi⟩:=s0B h.hinv k e;refine⟨hd,K,_,⟨⟨h.slots.size,λi hin=> ?_,λgg cs hg=>g.rep<|h.slots.glob gg cs hg⟩,hi,h.grow.trans g⟩⟩;have hr:=g.rep<|h.slots.rep i hin;show Rep w K _ _ (lk _ i);simp only[lk]
  cases hb:oB i t with
  |true=>
    have:=ae hb;subst this;rw[show a0p L i=lk L i from rfl,ht]at hr;generalize a.tmps.getD i undef=x at hr⊢;cases hr;exact .vcn _ _ (by simp[g0y])
  |false=>exact hr
theorem Wk.vivBox(i off k:Nat)(e:TypeId)(hi:H[i]?=vA (.box cs))(ho:cs[off]?=vA .nl):Wk F L H L (H.set i (.box<|cs.set off<|.vc H.length)++ [.vec 0 k e []]):=by
  intro a w hs;obtain⟨hd,K,D,h⟩:=hs;obtain⟨g,hv⟩:=s0B h.hinv k e;have hil:i<H.length:=(ab.1 hi).1;have hi':(H++ [Ent.vec 0 k e []])[i]?=vA (.box cs):=by rw[bI hil];exact hi
  have hset:H.set i (.box<|cs.set off<|.vc H.length)++ [.vec 0 k e []]=(H++ [Ent.vec 0 k e []]).set i (.box<|cs.set off<|.vc H.length):=by
    rw[List.set_append_left _ _ hil]
  rw[hset];obtain⟨b,vs,e',h1,h2,h3,h4⟩:=hv.ent i _ hi'
  obtain⟨g2,hv2⟩:=modify (w':=w) (en':= .box<|cs.set off<|.vc H.length) hv hi' rfl rfl h1 rfl rfl rfl rfl (λ_ _=>rfl) (λhr=>⟨b,vs,e',h1,h2,h3,⟨by simp[h4.len],h4.one,λj v c hv' hc=>by
    rw[aR]at hc;by_cases hjo:off=j
    · subst hjo
      rw[vB rfl]at hc;split at hc<;>cases hc
      have h5:=h4.rep off v .nl hv' ho;cases h5;exact .vcn _ _ (by simp[g0y])
    rw[yB hjo]at hc
    exact h4.rep j v c hv' hc⟩⟩)
  exact⟨hd,K,_,⟨h.slots.mono λ_ _=>g.rep,hv2,(h.grow.trans g).trans g2⟩⟩
/-! Entries under other numbers. -/
def a0Y(σ:List Nat):Nat->Nat:=λj=>σ.getD j 0
theorem Sel.of(σ:List Nat)(hl:σ.length=H2.length)(hg:σ.map (λi=>H[i]?)=H2.map λen=>vA<|Ent.rn (a0Y σ) en)(hn:σ.Nodup)(hr:H2.all (Ent.refs H2.length)=jB):Sel H (a0Y σ) H2:=by
  refine⟨λj en hj=> ?_,λi j hi hj e=> ?_,λj en hj=>List.all_eq_true.1 hr en<|aJ hj⟩;have hjl:=(ab.1 hj).1;have h1:=congrArg (λl=>l[j]?) hg;simp only[ar,hj,aZ]at h1;have h2:σ[j]?=vA (σ[j]' dA):=af dA;rw[h2]at h1;simp only[aZ,aj]at h1;unfold a0Y;rw[am,h2];exact h1;unfold a0Y at e;rw[am,am,af dA,af dA]at e;exact(List.getElem_inj hn).1 (by simpa using e)
theorem Wk.sel{L2:LE}(m0:Nat)(hm:F.H0.length=m0)(hdom: ∀i,F.H0.length<=i->F.D0 i=none)(σ:List Nat)(hl:σ.length=H2.length)(hg:σ.map (λi=>H[i]?)=H2.map λen=>vA<|Ent.rn (a0Y σ) en)(hn:σ.Nodup)(hr:H2.all (Ent.refs H2.length)=jB)
    (hk:σ.take m0=jC m0) (hv:L2.map (λp=>lk L p.1)=L2.map λp=>SV.rn (a0Y σ) p.2) (hvr:L2.all (λp=>SV.refs H2.length p.2)=jB):Wk F L H L2 H2:=by
  have hsel:=Sel.of σ hl hg hn hr;intro a w hs;obtain⟨hd,K,D,h⟩:=hs
  have hlk: ∀(L3:LE) t,(∀p∈L3,p∈L2)->lk L3 t= .undef\/ ∃p∈L2,p.1=t/\lk L3 t=p.2:=by
    intro L3 t
    induction L3 with
    |nil=>intro _;exact .inl rfl
    |cons q r ih=>
      intro hmem;obtain⟨j,v⟩:=q;simp only[lk]
      cases hb:oB t j with
      |true=>have:=ae hb;subst this;exact .inr ⟨(t,v),hmem _<|aB ..,rfl,rfl⟩
      |false=>exact ih λp hp=>hmem p (aq _ hp)
  have hval: ∀p∈L2,lk L p.1=SV.rn (a0Y σ) p.2:=by
    intro p hp;obtain⟨j,hj⟩:=bA.1 hp;have:=congrArg (λl=>l[j]?) hv;simpa [ar,hj]using this
  have hkeep: ∀j,j<m0->a0Y σ j=j:=by
    intro j hj;have:=congrArg (λl=>l[j]?) hk;simp only[aM,vB hj,bw hj]at this;unfold a0Y;rw[am,this];rfl
  have hmle:m0<=H2.length:=by
    have:=congrArg List.length hk;simp at this;omega
  have g:=h.grow;refine⟨hd,K,m0q D (a0Y σ) H2.length,⟨⟨h.slots.size,λi hin=> ?_,j0t h.slots.glob⟩,hsel.hinv h.hinv,⟨g.os,g.tape,g.output,g.size,g.block,g.cells,g.le,g.kk,λi x hx=> ?_,λb hmm=>g.new b<|hsel.mem hmm⟩⟩⟩;have hr1:=h.slots.rep i hin;show Rep w K _ _ (lk L2 i);rcases hlk L2 i (λp hp=>hp)with e|⟨p,hp,rfl,e⟩;rw[e];exact .undef _;rw[e];refine h0q hr1 p.2 (hval p hp) ?_;exact List.all_eq_true.1 hvr p hp
  have hil:i<m0:=by
    rcases bK i m0 with h1|h1;exact h1;rw[hdom i dA]at hx;cases hx
  simp only[m0q,vB<|bk hil hmle,hkeep i hil];exact g.dd i x hx
end
def p0R:SV->Bool
  | .bool _=>jB
  | .int _ _=>jB
  | .str _=>jB
  | .tup cs=>cs.all λc=>match c with
    | .bool _=>jB
    | .int _ _=>jB
    | .str _=>jB
    |_=>oA
  |_=>oA
theorem B0u{K K':Nat->Nat}{D':DM}{v:Value}(hs:p0R s=jB)(h:Rep w K D v s):Rep w' K' D' v s:=by
  cases h with
  |bool b=>exact .bool _
  |int k n=>exact .int _ _
  |str sb=>exact .str _
  |tup vs cs hc h=>
    refine .tup vs cs hc λj v c hv hcc=> ?_;have hr:=h j v c hv hcc;simp only[p0R,wD]at hs;have h1:=hs c<|aJ hcc;cases hr<;>first|(cases h1;done)|exact .bool _|exact .int _ _|exact .str _
  |_=>cases hs
mutual
def SV.fzA(H:a0e):SV->SV
  | .agg cs=> .agg (SV.fzAL H cs)
  | .tup cs=> .tup (SV.fzAL H cs)
  | .fn g a b=> .fn g (SV.fzAL H a) (SV.fzAL H b)
  | .vc j=>match H[j]? with
    |some (.vec n k _ cs)=> .lst n k cs
    |_=> .undef
  | .ptr _ _=> .undef
  | .sl _ _ _ _=> .undef
  | .mp _=> .undef
  | .undef=> .undef
  | .bool b=> .bool b
  | .int k n=> .int k n
  | .str s=> .str s
  | .nl=> .nl
  | .lst n k cs=> .lst n k cs
  | .ep cs=> .ep cs
  | .nilp=> .nilp
  | .yld _=> .undef
def SV.fzAL(H:a0e):List SV->List SV
  | []=> []
  |c::cs=>SV.fzA H c::SV.fzAL H cs
end
def o0g(H:a0e): ∀(cs:List SV) (j:Nat),(SV.fzAL H cs)[j]?=(cs[j]?).map (SV.fzA H)
  | [],j=>by simp[SV.fzAL]
  |c::cs,j=>by
    cases j with
    |zero=>simp[SV.fzAL]
    |succ j=>simpa [SV.fzAL]using o0g H cs j
def i0k(H:a0e): ∀(cs:List SV),(SV.fzAL H cs).length=cs.length
  | []=>rfl
  |c::cs=>by simp[SV.fzAL,i0k H cs]
theorem J0t{K K':Nat->Nat}{H:a0e}(hm: ∀v s,s.plain=jB->Rep w K D v s->Rep w K' (λ_=>none) v s)(hK: ∀b,K b<=K' b)(h0: ∀j v,Rep w K D v (.vc j)->Rep w K' (λ_=>none) v (SV.fzA H<|.vc j)){v:Value}(h:Rep w K D v s):
    Rep w K' (λ_=>none) v (SV.fzA H s):=by
  induction h with
  |undef v=>exact .undef _
  |bool b=>exact .bool _
  |int k n=>exact .int _ _
  |str sb=>exact .str _
  |nl a=>exact .nl _
  |emp k a cap=>exact .emp _ _ _
  |lst k b off len cap vs cs hk hl hc hcap hmm hK h1 hp h _=>exact hm _ (.lst len k cs) rfl (.lst k b off len cap vs cs hk hl hc hcap hmm hK h1 hp h)
  |ep b off vs cs hc hmm hKb h1 hp h _=>
    exact .ep b off vs cs hc hmm (aH hKb<|hK b) h1 hp (λj v c hv hcc=>hm v c (f0c hp hcc)<|h j v c hv hcc)
  |agg vs cs hc h1 _ ih=>
    refine .agg vs _ (by rw[i0k,hc]) h1 λj v c hv hcc=> ?_;rw[o0g]at hcc
    cases hx:cs[j]? with
    |none=>rw[hx]at hcc;cases hcc
    |some x=>rw[hx]at hcc;cases hcc;exact ih j v x hv hx
  |tup vs cs hc _ ih=>
    refine .tup vs _ (by rw[i0k,hc]) λj v c hv hcc=> ?_;rw[o0g]at hcc
    cases hx:cs[j]? with
    |none=>rw[hx]at hcc;cases hcc
    |some x=>rw[hx]at hcc;cases hcc;exact ih j v x hv hx
  |ptr i off b c n hd=>exact .undef _
  |vcn j a hd=>exact h0 _ _ (.vcn _ a hd)
  |vc j b c n hd=>exact h0 _ _ (.vc _ b c n hd)
  |sl i off n k b c m' cap hd hn=>exact .undef _
  |mp i r c n hd=>exact .undef _
  |fn q fs caps gs dcs hc hd _ _ ih ih'=>
    refine .fn q fs caps _ _ (by rw[i0k,hc]) (by rw[i0k,hd]) (λj v c hv hcc=> ?_) λj v c hv hcc=> ?_;rw[o0g]at hcc
    cases hx:gs[j]? with
    |none=>rw[hx]at hcc;cases hcc
    |some x=>rw[hx]at hcc;cases hcc;exact ih j v x hv hx
    rw[o0g]at hcc
    cases hx:dcs[j]? with
    |none=>rw[hx]at hcc;cases hcc
    |some x=>rw[hx]at hcc;cases hcc;exact ih' j v x hv hx
  |nilp=>exact .nilp
  |yld i l c n hd=>exact .undef _
open Classical in
theorem SC.lend{P:Program}(hv:p0R v=jB)(h:SC P f (SV.fzAL H0 args0) [] v []):SC P f args0 H0 v H0:=by
  refine⟨h.1,λw K D vals hlen hr hi hG=> ?_⟩
  -- all blocks of lists are settled for as long as the call O0T
  have hmem: ∀b,Mem D H0 b->b<w.heap.size/\K b=0:=λb hm=>k0A hi hm
  let size (b:Nat):Nat:=match w.heap[b]? with
    |some (.cells c _ _)=>c.size
    |_=>0
  let K1:Nat->Nat:=λb=>if Mem D H0 b then size b else K b
  have hK1: ∀b,K b<=K1 b:=λb=>by
    show K b<=if Mem D H0 b then size b else K b
    split;rename_i hm;rw[(hmem b hm).2];exact bo _;exact ak _
  have hplain: ∀v s,s.plain=jB->Rep w K D v s->Rep w K1 (λ_=>none) v s:=λv s hp hr=>(hr.mono (K':=K1) (D':=D) (λ_ _ _=>rfl) hK1 λ_ _ e=>e).plain hp
  have hvec: ∀j x,Rep w K D x (.vc j)->Rep w K1 (λ_=>none) x (SV.fzA H0<|.vc j):=by
    intro j x hx;simp only[SV.fzA];split;rename_i n k e cs hj;obtain⟨hp,hent⟩:=hi.ent j _ hj;rcases hent with⟨h1,h2,h3⟩|⟨b,c,vs,rest,h1,h2,h3,h4,h5,h6,h7,h8,h9⟩;subst h2;subst h3
    cases hx with
    |vcn _ ad hd=>exact .emp _ _ _
    |vc _ b c n hd=>rw[h1]at hd;cases hd
    cases hx with
    |vcn _ ad hd=>rw[h1]at hd;cases hd
    |vc _ b' c' n' hd=>
      rw[h1]at hd;cases hd;have hrow:=g0s h6 h9
      have hKb:K1 b=(vs++rest).length:=by
        show(if Mem D H0 b then size b else K b)=_;rw[vB ⟨j,_,c,n,hj,rfl,h1⟩];show(match w.heap[b]? with|some (.cells c _ _)=>c.size|_=>0)=_;rw[h6];simp
      exact .lst k b 0 n c vs cs h3 h7 h9.len h4 hrow.mem (by rw[hKb,az];omega) h9.one hp (λj v c hv hc=>hplain _ _ (f0c hp hc)<|h9.rep j v c hv hc)
    exact .undef _
  have hi1:HInv w K1 (λ_=>none) []:=⟨λ_ _=>rfl,λi en hj=>by simp at hj,λi j en en' b c n c' n' hj=>by simp at hj,λb hb=>by
    by_cases hm:Mem D H0 b;exact(hmem b hm).1
    exact hi.kw b<|by simpa [K1,hm]using hb⟩
  refine(h.2 w K1 (λ_=>none) vals (by rw[hlen,i0k]) (λj x c hx hc=>by
    rw[o0g]at hc
    cases hy:args0[j]? with
    |none=>rw[hy]at hc;cases hc
    |some y=>rw[hy]at hc;cases hc;exact J0t hplain hK1 hvec<|hr j x y hx hy) hi1<|j0t λg cs hg=>(hG g cs hg).mono (K':=K1) (D':=D) (λ_ _ _=>rfl) hK1 λ_ _ e=>e).mono ?_
  rintro e w' ⟨r,he,K1',D1',g,hi',hrep⟩;have nomem: ∀b,¬Mem (λ_=>none) [] b:=by rintro b ⟨i,en,c,n,h1,_⟩;simp at h1
  let K':Nat->Nat:=λb=>if Mem D H0 b then 0 else K1' b
  have hKK: ∀b,K b<=K' b:=λb=>by
    show K b<=if Mem D H0 b then 0 else K1' b
    split;rename_i hm;rw[(hmem b hm).2];exact ak _;exact aH (hK1 b) (g.le b)
  have hcells: ∀b j,j<K b->w'.cell? ⟨b,j,none⟩=w.cell? ⟨b,j,none⟩:=λb j hj=>g.cells b j (bk hj<|hK1 b)
  have hrr: ∀v s,Rep w K D v s->Rep w' K' D v s:=λv s hr=>hr.mono hcells hKK (λ_ _ e=>e)
  refine⟨r,he,K',D,⟨g.os,g.tape,g.output,g.size,λb hb _=>g.block b hb<|nomem b,hcells,hKK,λb hb hm=> ?_,λ_ _ e=>e,λb hm=> .inl hm⟩,
    ⟨hi.dom,λi en hie=>(hi.ent i en hie).keep hrr rfl λb c n hl hd=> ?_,hi.inj,λb hb=> ?_⟩,B0u hv hrep⟩
  show(if Mem D H0 b then 0 else K1' b)=K b;rw[yB hm,g.kk b hb<|nomem b];show(if Mem D H0 b then size b else K b)=K b;rw[yB hm]
  have hm:Mem D H0 b:=⟨i,en,c,n,hie,hl,hd⟩
  refine⟨g.block b (hmem b hm).1<|nomem b, ?_⟩;show(if Mem D H0 b then 0 else K1' b)=K b;rw[vB hm,(hmem b hm).2];by_cases hm:Mem D H0 b;exact bk (hmem b hm).1 g.size;exact hi'.kw b (by simpa [K',hm]using hb)
def inR(j:Int)(n:Nat):Bool:=yA (0<=j)&&yA (j<n)
def inS(l h:Int)(n:Nat):Bool:=yA (0<=l)&&(yA (l<=h)&&yA (h<=n))
def room(n:Nat):Bool:=yC n 4294967296
def o0u(n:Nat):Bool:=yC n 140737488400000
def B0o(P:Program)(e:TypeId)(n:Nat):Bool:=bif o0k P e then o0u n else room n
def nz(y:Int):Bool:= !yA (y=0)
def sh(y:Int):Bool:= !yA (y<0)
def mk(l c:Int):Bool:=yA (0<=l)&&(yA (l<=c)&&yA (c<=4294967296))
def f0d:inR j n=jB↔0<=j/\j<n:=by simp[inR]
def n0s:inS l h n=jB↔0<=l/\l<=h/\h<=n:=by simp[inS]
def A0e:room n=jB↔C0t n:=by simp[room,C0t,co]
def a0J(h:room n=jB):o0u n=true:=by
  simp only[room,o0u,co]at*;omega
def s0u{P:Program}{e:TypeId}(h:B0o P e n=jB):RoomE P e n:=by
  unfold B0o at h;unfold RoomE
  cases hb:o0k P e with
  |true=>rw[hb]at h;simp only[o0u,wC,co]at h;exact .inr ⟨rfl,h⟩
  |false=>rw[hb]at h;exact .inl<|A0e.1 h
def A0u{y:Int}:nz y=jB↔y≠0:=by simp[nz]
def H0W{y:Int}:sh y=jB↔0<=y:=by simp[sh]
def I0k{c:Int}:mk l c=jB↔0<=l/\l<=c/\c<=4294967296:=by simp[mk]
def z0L(P:Program)(c:Call)(ρ:Env)(H:a0e)(idx:Nat):Option (Eff×Bool):=
  match c.args.toList,c.argTypes.toList with
  | [x,y],[t,tx]=>match P.underlying t,a0B ρ x,a0B ρ y with
    |some (.slice e),vA .nl,vA sy=>match B0i P e (P.cellsOf e) tx sy H with
      |some (m,cs2,rd)=>if i0K P e (P.cellsOf e)=jB then vA (⟨.vc idx,rd,[(idx, .vec m (P.cellsOf e) e cs2)]⟩,L0O sy&&B0o P e m)else none
      |none=>none
    |some (.slice e),vA (.vc i),vA sy=>match H[i]? with
      |some (.vec n k e' cs)=>match B0i P e k tx sy H with
        |some (m,cs2,rd)=>if e=e'/\i0K P e k=jB then vA (⟨.vc idx,i::rd,[(i, .gone),(idx, .vec (n+m) k e<|cs++cs2)]⟩,L0O sy&&B0o P e (n+m))else none
        |none=>none
      |_=>none
    |_,_,_=>none
  |_,_=>none
theorem w0q{P:Program}{c:Call}{H:a0e}{idx:Nat}(h:z0L P c ρ H idx=vA (ef,b))(hb:b=jB):n0R P c ρ H idx=vA ef:=by
  unfold z0L at h;unfold n0R;split at h;rename_i x y t tx hx hy;rw[hx,hy];simp only;split at h;rename_i e sy h1 h2 h3;rw[h1,h2,h3];simp only;split at h;rename_i m cs2 rd h4;rw[h4];simp only;split at h;rename_i h5;cases h;rw[vB ⟨h5,(bN.1 hb).1,s0u (bN.1 hb).2⟩];cases h;cases h;rename_i e i sy h1 h2 h3;rw[h1,h2,h3];simp only;split at h;rename_i n k e' cs h4;rw[h4];simp only;split at h;rename_i m cs2 rd h6;rw[h6];simp only;split at h;rename_i h5;cases h;rw[vB ⟨h5.1,h5.2,(bN.1 hb).1,s0u (bN.1 hb).2⟩];cases h;cases h;cases h;cases h;cases h
def E0I(P:Program)(t:TypeId)(sx sj:SV)(H:a0e):Option (Eff×Bool):=
  match P.underlying t,sx,sj with
  |some (.slice e), .lst n k cs, .int _ j=>if k=P.cellsOf e/\0<k then vA (⟨.ep<|(cs.drop<|j.toNat*k).take k,[],[]⟩,inR j n)else none
  |some (.slice e), .vc i, .int _ j=>match H[i]? with
    |some (.vec n k _ _)=>if k=P.cellsOf e/\0<k then vA (⟨.ptr i<|j.toNat*k,[i],[]⟩,inR j n)else none
    |_=>none
  |some (.slice e), .sl b off n k, .int _ j=>if k=P.cellsOf e/\0<k then vA (⟨.ptr b<|off+j.toNat*k,[],[]⟩,inR j n)else none
  |some (.array len e), .ptr b off, .int _ j=>if 0<P.cellsOf e then vA (⟨.ptr b<|off+j.toNat*P.cellsOf e,[],[]⟩,inR j len)else none
  |some (.array len e), .ep cs, .int _ j=>if 0<P.cellsOf e/\len*P.cellsOf e<=cs.length then vA (⟨.ep<|(cs.drop<|j.toNat*P.cellsOf e).take<|P.cellsOf e,[],[]⟩,inR j len)else none
  |_,_,_=>none
theorem x0T{P:Program}{H:a0e}{idx:Nat}{sx sj:SV}(ho:o.op= .indexAddr t x y)(hx:a0B ρ x=vA sx)(hy:a0B ρ y=vA sj)(h:E0I P t sx sj H=vA (ef,b))(hb:b=jB):a0D P o ρ H idx=vA ef:=by
  unfold E0I at h;unfold a0D a0k a0o;simp only[ho,hx,hy];split at h;rename_i e n k cs k' j hu;rw[hu];simp only;split at h;rename_i hk;cases h;have:=f0d.1 hb;rw[vB hk.1];unfold O0n;rw[vB ⟨hk.2,this⟩];cases h;rename_i e i k' j hu;rw[hu];simp only;split at h;rename_i n k e2 cs hH;rw[hH];simp only;split at h;rename_i hk;cases h;have:=f0d.1 hb;rw[vB ⟨hk.1,hk.2,this⟩];cases h;cases h;rename_i e bb off n k k' j hu;rw[hu];simp only;split at h;rename_i hk;cases h;have:=f0d.1 hb;rw[vB ⟨hk.1,hk.2,this⟩];cases h;rename_i len e bb off k' j hu;rw[hu];simp only;split at h;rename_i hk;cases h;have:=f0d.1 hb;rw[vB ⟨this.1,this.2,hk⟩];cases h;rename_i len e cs k' j hu;rw[hu];simp only;split at h;rename_i hk;cases h;have hj:=f0d.1 hb;have:(j.toNat+1)*P.cellsOf e<=cs.length:=aH (aK _ dA) hk.2;rw[vB ⟨hj.1,hj.2,this,hk.1⟩];cases h;cases h
def D0d(P:Program)(t:TypeId)(sx:SV)(ρ:Env)(lo hi:Option Operand):Option (Eff×Bool):=
  match P.underlying t,sx with
  |some (.slice e), .lst n k cs=>match i0O ρ lo 0,i0O ρ hi (n:Int)with
    |some l,vA h=>if k=P.cellsOf e/\0<k then vA (⟨.lst (h.toNat-l.toNat) k<|(cs.take<|h.toNat*k).drop<|l.toNat*k,[],[]⟩,inS l h n)else none
    |_,_=>none
  |some .string, .str s=>match i0O ρ lo 0,i0O ρ hi (s.length:Int)with
    |some l,vA h=>vA (⟨.str<|(s.take h.toNat).drop l.toNat,[],[]⟩,inS l h s.length)
    |_,_=>none
  |_,_=>none
theorem w0Q{P:Program}{lo hi:Option Operand}{H:a0e}{idx:Nat}{sx:SV}(ho:o.op= .slice t x lo hi none)(hx:a0B ρ x=vA sx)(h:D0d P t sx ρ lo hi=vA (ef,b))(hb:b=jB):a0D P o ρ H idx=vA ef:=by
  unfold D0d at h;unfold a0D a0k;simp only[ho,hx];split at h;rename_i e n k cs hu;rw[hu];simp only;split at h;rename_i l hh h1 h2;rw[h1,h2];simp only;split at h;rename_i hk;cases h;have:=n0s.1 hb;rw[vB hk.1];unfold D0e;rw[vB ⟨hk.2,this⟩];cases h;cases h;rename_i s hu;rw[hu];simp only;split at h;rename_i l hh h1 h2;rw[h1,h2];simp only;cases h;have:=n0s.1 hb;rw[vB ⟨this.1,this.2.1,dA⟩];cases h;cases h
def O0C(op:BinOp)(a b:SV):Option (SV×Bool):=
  match op,a,b with
  | .quo, .int k x, .int k' y=>if k=k' then vA (.int k<|k.wrap<|x.tdiv y,nz y)else none
  | .rem, .int k x, .int k' y=>if k=k' then vA (.int k<|x.tmod y,nz y)else none
  | .shl, .int k x, .int _ y=>vA (.int k<|k.wrap<|x*2^(min y.toNat k.bits),sh y)
  | .shr, .int k x, .int _ y=>vA (.int k<|x.fdiv<|2^(min y.toNat k.bits),sh y)
  | .add, .str s, .str t=>vA (.str<|s++t,room<|s.length+t.length)
  |_,_,_=>none
def C0e{bt:Bool}{op:BinOp}{a b:SV}{c:Bool}(h:O0C op a b=vA (v,c))(hc:c=jB):k0p bt op a b=vA v:=by
  unfold O0C at h;split at h;split at h;rename_i hk;cases h;simp only[k0p];rw[vB hk,yB<|A0u.1 hc];cases h;split at h;rename_i hk;cases h;simp only[k0p];rw[vB hk,yB<|A0u.1 hc];cases h;cases h;simp only[k0p];rw[yB<|by have:=H0W.1 hc;omega];cases h;simp only[k0p];rw[yB<|by have:=H0W.1 hc;omega];cases h;simp only[k0p];rw[vB<|A0e.1 hc];cases h
def N0S(P:Program)(t:TypeId):Bool:=match P.underlying t with
  |some (.int _)=>jB
  |some .bool=>jB
  |some .string=>jB
  |some (.slice _)=>jB
  |_=>oA
def v0M(P:Program)(o:Oper)(ρ:Env)(H:a0e)(idx:Nat):Option (Eff×Bool):=
  match o.op with
  | .indexAddr t x y=>match a0B ρ x,a0B ρ y with
    |some sx,vA sj=>E0I P t sx sj H
    |_,_=>none
  | .slice t x lo hi none=>match a0B ρ x with
    |some sx=>D0d P t sx ρ lo hi
    |none=>none
  | .index t x i=>match P.underlying t,a0B ρ x,a0B ρ i with
    |some .string,vA (.str s),vA (.int _ j)=>vA (⟨.int .u8 (s.getD j.toNat 0).toNat,[],[]⟩,inR j s.length)
    |some (.array n e),vA (.agg cs),vA (.int _ j)=>bif N0S P e&&(oB (P.cellsOf e) 1&&yC n cs.length)then vA (⟨(cs.drop<|j.toNat*1).headD .undef,[],[]⟩,inR j n)else none
    |_,_,_=>none
  | .binOp op t x y _=>match a0B ρ x,a0B ρ y with
    |some a,vA b=>match O0C op a b with
      |some (v,c)=>vA (⟨v,[],[]⟩,c)
      |none=>none
    |_,_=>none
  | .makeSlice t x y=>match P.underlying t,a0B ρ x,a0B ρ y with
    |some (.slice e),vA (.int _ l),vA (.int _ c)=>match r0T P e with
      |some zs=>if i0K P e (P.cellsOf e)=jB/\a0P zs=jB then vA (⟨.vc idx,[],[(idx, .vec l.toNat (P.cellsOf e) e (oC l.toNat zs).flatten)]⟩,mk l c)else none
      |none=>none
    |_,_,_=>none
  | .load t x=>match a0B ρ x with
    |some (.ptr i off)=>match H[i]? with
      |some (.vec n k e cs)=>match P.underlying t with
        |some (.int _)=>vA (⟨(cs.drop off).headD .undef,[i],[]⟩,oD off cs.length)
        |some .bool=>vA (⟨(cs.drop off).headD .undef,[i],[]⟩,oD off cs.length)
        |some .string=>vA (⟨(cs.drop off).headD .undef,[i],[]⟩,oD off cs.length)
        |some (.slice _)=>vA (⟨(cs.drop off).headD .undef,[i],[]⟩,oD off cs.length)
        |_=>none
      |_=>none
    |_=>none
  | .store t x y=>match a0B ρ x,(a0B ρ y).bind SV.cells? with
    |some (.ptr i off),vA ps=>match H[i]? with
      |some (.vec n k e cs)=>if ps.length=P.cellsOf t/\0<ps.length/\a0P ps=jB then vA (⟨.undef,[i],[(i, .vec n k e<|splice cs off ps)]⟩,yC (off+ps.length) cs.length)else none
      |_=>none
    |_,_=>none
  | .convert src dst x=>match P.underlying src,P.underlying dst,a0B ρ x with
    |some .string,vA (.slice e),vA (.str s)=>match P.underlying e with
      |some (.int .u8)=>vA (⟨.lst s.length 1<|s.map l0n,[],[]⟩,jB)
      |some (.int .i32)=>vA (⟨.lst (d0L s).length 1<|(d0L s).map w0U,[],[]⟩,jB)
      |_=>none
    |some (.slice e),vA .string,vA s=>match P.underlying e,w0v 1 s H with
      |some (.int .u8),vA (_,cs,rd)=>if j0j P src s=jB then vA (⟨.str<|cs.map byteOf,rd,[]⟩,cs.all o0U)else none
      |some (.int .i32),vA (_,cs,rd)=>if j0j P src s=jB then vA (⟨.str<|cs.flatMap w0V,rd,[]⟩,cs.all p0t)else none
      |_,_=>none
    |_,_,_=>none
  | .call c=>match c.callee with
    | .builtin .append=>z0L P c ρ H idx
    | .builtin .copy=>match F0m P c ρ H with
      |some ef=>vA (ef,jB)
      |none=>none
    |_=>none
  |_=>none
theorem q0q{P:Program}{H:a0e}{idx:Nat}(h:v0M P o ρ H idx=vA (ef,b))(hb:b=jB):a0D P o ρ H idx=vA ef:=by
  unfold v0M at h;split at h;rename_i t x y ho;split at h;rename_i sx sj h1 h2;exact x0T ho h1 h2 h hb;cases h;rename_i t x lo hi ho;split at h;rename_i sx h1;exact w0Q ho h1 h hb
  cases h
  · rename_i t x i ho
    split at h;rename_i s k j h1 h2 h3;cases h;obtain⟨q1,q2⟩:=f0d.1 hb;unfold a0D a0k;simp only[ho,h1,h2,h3];rw[vB q1];have hl:j.toNat<s.length:=by omega
    rw[af hl];simp only[am,af hl,bu]
    · rename_i n e cs k j h1 h2 h3
      cases h4:(N0S P e&&(oB (P.cellsOf e) 1&&yC n cs.length))with
      |false=>rw[h4]at h;cases h
      |true=>
        rw[h4]at h;simp only[wC,aj,aG]at h;obtain⟨rfl,rfl⟩:=h;simp only[aa]at h4;obtain⟨p1,p2,p3⟩:=h4;have p2:=ae p2;have p3:=ag p3;obtain⟨q1,q2⟩:=f0d.1 hb;unfold a0D a0k;simp only[ho,h1,h2,h3];rw[vB ⟨q1,q2⟩,p2];have hl:j.toNat*1<cs.length:=by omega
        rw[ca hl];unfold N0S at p1;simp only[b0q,List.headD];split at p1<;>first|(rename_i hu;simp only[hu];done)|(rename_i hu;simp only[hu];rfl)|cases p1
    cases h
  rename_i op t x y tt ho;split at h;rename_i a b' h1 h2;split at h;rename_i v c h3;cases h;unfold a0D a0k;simp only[ho,h1,h2,C0e h3 hb];cases h;cases h;rename_i t x y ho;split at h;rename_i e k1 l k2 c h1 h2 h3;split at h;rename_i zs h4;split at h;rename_i h5;cases h;obtain⟨q1,q2,q3⟩:=I0k.1 hb;unfold a0D a0k a0o;simp only[ho,h1,h2,h3,h4];rw[vB ⟨h5.1,q1,q2,q3,h5.2⟩];cases h;cases h
  cases h
  · rename_i t x ho
    split at h
    · rename_i i off h1
      split at h
      · rename_i n k e cs h2
        have fin: ∀(ut:_),P.underlying t=vA ut->(∀f,ut≠ .struct f)->(∀m e,ut≠ .array m e)->oD off cs.length=jB->a0D P o ρ H idx=vA ⟨(cs.drop off).headD .undef,[i],[]⟩:=by
          intro ut hu hn1 hn2 hlt;unfold a0D a0k a0o;simp only[ho,h1,h2,ah,b0H];have hl:off<cs.length:=bF (ag<|by simpa [oD]using hlt);rw[ca hl]
          have hcv:b0q P t (cs[off]::cs.drop (off+1))=vA cs[off]:=by
            unfold b0q;rw[hu];cases ut<;>first|rfl|exact absurd rfl (hn1 _)|exact absurd rfl (hn2 _ _)
          rw[hcv];rfl
        split at h;rename_i hu;cases h;exact fin _ hu (λ_=>dE) (λ_ _=>dE) hb;rename_i hu;cases h;exact fin _ hu (λ_=>dE) (λ_ _=>dE) hb;rename_i hu;cases h;exact fin _ hu (λ_=>dE) (λ_ _=>dE) hb;rename_i hu;cases h;exact fin _ hu (λ_=>dE) (λ_ _=>dE) hb;cases h
      cases h
    cases h
  rename_i t x y ho;split at h;rename_i i off ps h1 h2;split at h;rename_i n k e cs h3;split at h;rename_i h4;cases h;have hle:off+ps.length<=cs.length:=ag hb;unfold a0D a0k a0o;simp only[ho,h1,h2,h3,b0H];rw[vB ⟨h4.1,h4.2.1,hle,λ_=>h4.2.2⟩];rfl;cases h;cases h;cases h;rename_i src dst x ho;split at h;rename_i e s h1 h2 h3;split at h;rename_i he;cases h;unfold a0D a0k a0o;simp only[ho,h1,h2,h3,he,t0Q];rename_i he;cases h;unfold a0D a0k a0o;simp only[ho,h1,h2,h3,he,t0Q];cases h;rename_i e s h1 h2 h3;split at h;rename_i m cs rd he hsc;split at h;rename_i hty;cases h;unfold a0D a0k a0o;simp only[ho,h1,h2,h3,he,hsc,t0Q];rw[vB ⟨hty,hb⟩];cases h;rename_i m cs rd he hsc;split at h;rename_i hty;cases h;unfold a0D a0k a0o;simp only[ho,h1,h2,h3,he,hsc,t0Q];rw[vB ⟨hty,hb⟩];cases h;cases h;cases h;rename_i c ho;split at h;rename_i hc;unfold a0D a0k a0o;simp only[ho,hc,z0G];exact w0q h hb;rename_i hc;split at h;rename_i ef2 he;cases h;unfold a0D a0k a0o;simp only[ho,hc,z0G];exact he;cases h;cases h;cases h
section
variable {F : Fr}{P : Program}{L : LE}{H : a0e}{Q : g0c}{m : Option Nat}{ops : Array Oper}{p : Nat}{tr : List (List Nat × List Nat)}
def u0h(P:Program)(m:Option Nat)(ops:Array Oper)(p:Nat)(tr:List<|List Nat×List Nat)(L:LE)(H:a0e):Option (Option Nat×Eff×Bool×List (List Nat×List Nat)):=
  match ops.toList[p]? with
  |none=>none
  |some o=>match a0X ops (a0p L) o with
    |some jB=>bif b0R o then none else match v0M P o (a0p L) H (I0s m ops p H)with
      |some (ef,c)=>bif okM m ops p o ef tr H then vA (o.dst,ef,c,trM m ops p o ef tr)else none
      |none=>none
    |_=>none
theorem RJ.rel{c:Bool}(h:u0h P m ops p tr L H=vA (d,ef,c,tr2))(hc:c=jB)(hn:c=jB->ef=ef')(hH:b0a H ef'.wr=H2)(k:RJ F P m ops (p+1) tr2 (g0g L d ef'.v) H2 Q):RJ F P m ops p tr L H Q:=by
  unfold u0h at h;have hn':=hn hc;subst hn';subst hH;split at h;cases h;rename_i o ho;split at h;rename_i hg
  cases hcc:b0R o with
  |true=>rw[hcc]at h;cases h
  |false=>
    rw[hcc]at h;simp only[vD]at h;split at h;rename_i ef2 c2 he
    cases hok:okM m ops p o ef2 tr H with
    |false=>rw[hok]at h;cases h
    |true=>
      rw[hok]at h;simp only[wC,aj,aG]at h;obtain⟨rfl,rfl,rfl,rfl⟩:=h;exact RJ.step ho hg hcc (q0q he hc) hok k
    cases h
  cases h
def v0L(P:Program)(o:Oper)(ρ:Env)(H:a0e)(idx:Nat):Option (Eff×Bool):=
  match v0M P o ρ H idx with
  |some r=>vA r
  |none=>(a0D P o ρ H idx).map λef=>(ef,jB)
theorem u0k{P:Program}{H:a0e}{idx:Nat}(h:v0L P o ρ H idx=vA (ef,b))(hb:b=jB):a0D P o ρ H idx=vA ef:=by
  unfold v0L at h;split at h;rename_i r hr;cases h;exact q0q hr hb
  cases he:a0D P o ρ H idx with
  |none=>rw[he]at h;cases h
  |some e=>rw[he]at h;cases h;rfl
def I0d(P:Program)(base:Nat)(ops:Array Oper)(p:Nat)(tr:List<|List Nat×List Nat)(L:LE)(H:a0e):Option (Option Nat×Eff×Bool×List (List Nat×List Nat)):=
  match ops.toList[p]? with
  |none=>none
  |some o=>match a0X ops (a0p L) o with
    |some jB=>bif b0R o then none else bif d0n o then(match v0L P o (a0p L) H (f0G ops base p)with
      |some (ef,c)=>match t0I ef (f0G ops base p) H with
        |some efz=>bif okM (vA base) ops p o efz tr H then vA (o.dst,efz,c,trM (vA base) ops p o efz tr)else none
        |none=>none
      |none=>none)else none
    |_=>none
theorem RJ.relZ{c:Bool}(h:I0d P base ops p tr L H=vA (d,ef,c,tr2))(hc:c=jB)(hn:c=jB->ef=ef')(hH:b0a H ef'.wr=H2)(k:RJ F P (vA base) ops (p+1) tr2 (g0g L d ef'.v) H2 Q):RJ F P (vA base) ops p tr L H Q:=by
  unfold I0d at h;have hn':=hn hc;subst hn';subst hH;split at h;cases h;rename_i o ho;split at h;rename_i hg
  cases hcc:b0R o with
  |true=>rw[hcc]at h;cases h
  |false=>
    rw[hcc]at h
    cases hcr:d0n o with
    |false=>rw[hcr]at h;cases h
    |true=>
      rw[hcr]at h;simp only[vD,wC]at h;split at h;rename_i ef2 c2 he;split at h;rename_i efz hz
      cases hok:okM (vA base) ops p o efz tr H with
      |false=>rw[hok]at h;cases h
      |true=>
        rw[hok]at h;simp only[wC,aj,aG]at h;obtain⟨rfl,rfl,rfl,rfl⟩:=h;intro hl;rw[e0g ho];simp only[okM,aa,bQ,wD]at hok;obtain⟨⟨k1,k2⟩,k3⟩:=hok;have k3': ∀x∈efz.wr,x.1<H.length:=λx hx=>bF (ag<|by simpa [oD]using k3 x hx)
        subst hl;refine⟨efz, ?_,k1, ?_⟩;unfold opD;rw[hg];simp only;rw[hcc,yB dE];refine⟨.inr<|.inl ⟨?_,hcr⟩,λ_=> ?_,k3'⟩;unfold n0k;rw[u0k he hc];exact hz;rcases k2 with k2|k2;rw[hcr]at k2;cases k2;unfold q0z at k2;split at k2
        assumption
        cases k2;have:=k (by simp[trM]);rw[<-n0Q _ _ k3',b0b];exact this
      cases h;cases h
  cases h
/-! Cuts. -/
def a0j(k:S->Option X):S⊕X->Option X
  | .inl s=>k s
  | .inr x=>vA x
def a0W{m:Option α}{k:α->Option β}{r:β}(h:m.bind k=vA r): ∃y,m=vA y/\k y=vA r:=by
  cases m with
  |none=>cases h
  |some y=>exact⟨y,rfl,h⟩
def condT{x y:α}{r:α}(hb:b=jB)(h:(bif b then x else y)=r):x=r:=by subst hb;exact h
def condF{x y:α}{r:α}(hb:b=oA)(h:(bif b then x else y)=r):y=r:=by subst hb;exact h
def g0x{x:Option α}{r:α}(h:(bif b then x else none)=vA r):b=jB/\x=vA r:=by
  cases b with
  |true=>exact⟨rfl,h⟩
  |false=>cases h
def cutN(F:Fr)(R:S->LE×a0e)(st:S):g0c:=λe a w=>e= .normal/\Sees F (R st).1 (R st).2 a w
def cutX(F:Fr)(R:S->LE×a0e)(Q:g0c)(x:S⊕X):g0c:=λe a w=>match x with
  | .inl st=>e= .normal/\Sees F (R st).1 (R st).2 a w
  | .inr _=>e≠ .normal/\Q e a w
theorem J.cutN(R:S->LE×a0e)(st:S)(h1:J F P c1 L H<|cutN F R st)(h2:J F P c2 (R st).1 (R st).2 Q):J F P (.seq c1 c2) L H Q:=λhin a w hs=>by
  simp only[b0n,aa]at hin;refine wp_seq<|zJ (λe a' w' hq=> ?_)<|h1 hin.1 a w hs;obtain⟨rfl,hq⟩:=hq;exact h2 hin.2 a' w' hq
theorem J.cutX(R:S->LE×a0e)(x:S⊕X)(h1:J F P c1 L H<|cutX F R Q x)(h2: ∀st,x= .inl st->J F P c2 (R st).1 (R st).2 Q):J F P (.seq c1 c2) L H Q:=λhin a w hs=>by
  simp only[b0n,aa]at hin;refine wp_seq (zJ (λe a' w' hq=> ?_)<|h1 hin.1 a w hs)
  cases x with
  |inl st=>
    obtain⟨rfl,hq⟩:=hq;exact h2 st rfl hin.2 a' w' hq
  |inr r=>
    obtain⟨hne,hq⟩:=hq;cases e<;>first|exact absurd rfl hne|exact hq
theorem PJ.cutN{R:S->LE×a0e}{st:S}(ts:List Nat)(hL:g0r ts L=(R st).1)(hH:H=(R st).2):PJ F (cutN F R st) .normal L H:=λa w hs=>by
  subst hH;exact⟨rfl,by rw[<-hL];exact hs.keep<|k0P ts L⟩
theorem PJ.cutXl{R:S->LE×a0e}{st:S}(ts:List Nat)(hL:g0r ts L=(R st).1)(hH:H=(R st).2):PJ F (cutX (X:=X) F R Q<|.inl st) .normal L H:=λa w hs=>by
  subst hH;exact⟨rfl,by rw[<-hL];exact hs.keep<|k0P ts L⟩
theorem PJ.cutXr{R:S->LE×a0e}{x:X}(hne:e≠ .normal)(h:PJ F Q e L H):PJ F (cutX F R Q (.inr x:S⊕X)) e L H:=λa w hs=>⟨hne,h a w hs⟩
def p0r(F:Fr)(R:S->LE×a0e)(Q:g0c)(o:O)(x:S⊕O):g0c:=λe a w=>match x with
  | .inl s'=>e= .normal/\Sees F (R s').1 (R s').2 a w
  | .inr o'=>e≠ .normal/\(o'=o->Q e a w)
def J.loopR{step:S->Option (S⊕O)}{s0:S}{o:O}(R:S->LE×a0e)(ho:a0m step n s0=vA o)(ts:List Nat)(hL:g0r ts L=(R s0).1)(hH:H=(R s0).2)
    (body: ∀s x,step s=vA x->J F P c (R s).1 (R s).2 (p0r F R Q o x)):J F P (.loop c) L H Q:=
  J.keep ts hL (J.loop R ho rfl hH body)
theorem PJ.loopNext{R:S->LE×a0e}{o:O}{s':S}(ts:List Nat)(hL:g0r ts L=(R s').1)(hH:H=(R s').2):PJ F (p0r F R Q o<|.inl s') .normal L H:=λa w hs=>by
  subst hH;exact⟨rfl,by rw[<-hL];exact hs.keep<|k0P ts L⟩
theorem PJ.loopOut{R:S->LE×a0e}{o o':O}(hne:e≠ .normal)(h:o'=o->PJ F Q e L H):PJ F (p0r F R Q o<|.inr o') e L H:=λa w hs=>⟨hne,λhe=>h he a w hs⟩
def h0P(m:Option Nat)(ops:Array Oper)(p:Nat)(tr:List<|List Nat×List Nat)(L:LE)(rd:List Nat)(wr:List (Nat×Ent):=[]):Option (Option Nat×FuncId×List SV×List (List Nat×List Nat)):=
  match ops.toList[p]? with
  |none=>none
  |some o=>match a0X ops (a0p L) o with
    |some jB=>match g0w (a0p L) o with
      |some (f,args)=>bif(match m with|none=>jB|some base=>m0n o (h0J o ⟨.undef,rd,wr⟩) (g0D ops base p o ⟨.undef,rd,wr⟩) tr 0)then vA (o.dst,f,args,trM m ops p o ⟨.undef,rd,wr⟩ tr)else none
      |none=>none
    |_=>none
def e0h{wr:List (Nat×Ent)}(h:h0P m ops p tr L rd wr=vA (d,f,args,tr2)):
    ∃o,ops.toList[p]?=vA o/\a0X ops (a0p L) o=vA jB/\g0w (a0p L) o=vA (f,args)/\o.dst=d/\trM m ops p o ⟨.undef,rd,wr⟩ tr=tr2/\(∀base,m=vA base->m0n o (h0J o ⟨.undef,rd,wr⟩) (g0D ops base p o ⟨.undef,rd,wr⟩) tr 0=jB):=by
  unfold h0P at h;split at h;cases h;rename_i o ho;split at h;rename_i hg;split at h;rename_i f2 args2 hc
  cases hk:(match m with|none=>jB|some base=>m0n o (h0J o ⟨.undef,rd,wr⟩) (g0D ops base p o ⟨.undef,rd,wr⟩) tr 0)with
  |false=>rw[hk]at h;cases h
  |true=>
    rw[hk]at h;simp only[wC,aj,aG]at h;obtain⟨rfl,rfl,rfl,rfl⟩:=h;exact⟨o,ho,hg,hc,rfl,rfl,λbase hb=>by subst hb;exact hk⟩
  cases h;cases h
def v0d{wr:List (Nat×Ent)}:trM m ops p o ⟨v,rd,wr⟩ tr=trM m ops p o ⟨.undef,rd,wr⟩ tr:=by cases m<;>rfl
mutual
def y0P{m:Nat}: ∀ {s:SV},SV.refs 0 s=jB->SV.refs m s=jB
  | .agg cs,h=>by simp only[SV.refs]at h⊢;exact q0f h
  | .tup cs,h=>by simp only[SV.refs]at h⊢;exact q0f h
  | .ptr i off,h=>by simp[SV.refs]at h
  | .vc i,h=>by simp[SV.refs]at h
  | .sl i off n k,h=>by simp[SV.refs]at h
  | .mp i,h=>by simp[SV.refs]at h
  | .fn q a b,h=>by simp only[SV.refs,aa]at h⊢;exact⟨q0f h.1,q0f h.2⟩
  | .undef,_=>rfl
  | .bool _,_=>rfl
  | .int _ _,_=>rfl
  | .str _,_=>rfl
  | .nl,_=>rfl
  | .lst _ _ _,_=>rfl
  | .ep _,_=>rfl
  | .nilp,_=>rfl
  | .yld i,h=>by simp[SV.refs]at h
def q0f{m:Nat}: ∀ {cs:List SV},SV.refsL 0 cs=jB->SV.refsL m cs=jB
  | [],_=>rfl
  |c::cs,h=>by simp only[SV.refsL,aa]at h⊢;exact⟨y0P h.1,q0f h.2⟩
end
theorem Sel.nil{H:a0e}:Sel H g []:=⟨λj en hj=>by simp at hj,λi j hi=>by simp at hi,λj en hj=>by simp at hj⟩
theorem t0g(h:SV.refs 0 s=jB):SV.rn g s=s:=by
  rw[j0n (f:=g) (g:=λj=>j) (m:=0) (λi hi=>dA) s h,B0q]
theorem A0g{s:List SV}(h:SV.refsL 0 s=jB):SV.rnL g s=s:=by
  rw[i0C (f:=g) (g:=λj=>j) (m:=0) (λi hi=>dA) s h,t0h]
theorem RJ.call0(h:h0P m ops p tr L []=vA (d,f,args,tr2))(hr:SV.refsL 0 args=jB)(hle:LeL args args')(hs:SC P f args' [] v [])(hv:SV.refs 0 v=jB)
    (k:RJ F P m ops (p+1) tr2 (g0g L d v) H Q):RJ F P m ops p tr L H Q:=by
  obtain⟨o,ho,hg,hc,rfl,rfl,hk⟩:=e0h h;refine RJ.callD (g:=λj=>j) (args0:=args) (H0:=[]) (v0:=v) ho hg hc (by rw[A0g hr]) Sel.nil (λen hm=>by cases hm) hr hv (SC.weak hs hle) hk ?_;rw[t0g hv,cm,List.range_zero,aI,v0d];exact k
theorem RJ.callL{args1:List SV}(σ:List Nat)(h:h0P m ops p tr L σ=vA (d,f,args,tr2))(ha:args=SV.rnL (a0Y σ) args0)(hl:σ.length=H0.length)(hg:σ.map (λi=>H[i]?)=H0.map λen=>vA<|Ent.rn (a0Y σ) en)(hn:σ.Nodup)(hr0:H0.all (Ent.refs H0.length)=jB)
    (hlive:H0.all h0e=jB) (hr:SV.refsL H0.length args0=jB) (hfz:SV.fzAL H0 args0=args1) (hle:LeL args1 args') (hs:SC P f args' [] v []) (hsc:p0R v=jB) (hv:SV.refs 0 v=jB)
    (k:RJ F P m ops (p+1) tr2 (g0g L d v) H Q):RJ F P m ops p tr L H Q:=by
  obtain⟨o,ho,hgd,hc,rfl,rfl,hk⟩:=e0h h
  have hσ:(jC H0.length).map (a0Y σ)=σ:=by
    apply bC;intro i;rw[ar];by_cases hi:i<H0.length;rw[bw hi];simp only[aZ,a0Y,am];rw[af dA];rfl;rw[aC<|by simpa using hi,aC dA];rfl
  have hv':SV.refs H0.length v=true:=y0P hv;refine RJ.callD (g:=a0Y σ) (args0:=args0) (H0:=H0) (v0:=v) ho hgd hc ha (Sel.of σ hl hg hn hr0) (λen hm=>List.all_eq_true.1 hlive en hm) hr hv' (SC.lend hsc<|by rw[hfz];exact SC.weak hs hle) (λbase hb=> ?_) ?_;rw[hσ,t0g hv];exact hk base hb;rw[t0g hv,hσ,v0d];exact k
theorem RJ.callU(σ:List Nat)(h:h0P m ops p tr L σ=vA (d,f,args,tr2))(ha:args=SV.rnL (a0Y σ) args0)(hl:σ.length=H0.length)(hg:σ.map (λi=>H[i]?)=H0.map λen=>vA<|Ent.rn (a0Y σ) en)(hn:σ.Nodup)(hr0:H0.all (Ent.refs H0.length)=jB)
    (hlive:H0.all h0e=jB) (hr:SV.refsL H0.length args0=jB) (hle:LeL args0 args') (hs:SC P f args' H0 v H0) (hv:SV.refs 0 v=jB)
    (k:RJ F P m ops (p+1) tr2 (g0g L d v) H Q):RJ F P m ops p tr L H Q:=by
  obtain⟨o,ho,hgd,hc,rfl,rfl,hk⟩:=e0h h
  have hσ:(jC H0.length).map (a0Y σ)=σ:=by
    apply bC;intro i;rw[ar];by_cases hi:i<H0.length;rw[bw hi];simp only[aZ,a0Y,am];rw[af dA];rfl;rw[aC<|by simpa using hi,aC dA];rfl
  have hv':SV.refs H0.length v=true:=y0P hv;refine RJ.callD (g:=a0Y σ) (args0:=args0) (H0:=H0) (v0:=v) ho hgd hc ha (Sel.of σ hl hg hn hr0) (λen hm=>List.all_eq_true.1 hlive en hm) hr hv' (SC.weak hs hle) (λbase hb=> ?_) ?_;rw[hσ,t0g hv];exact hk base hb;rw[t0g hv,hσ,v0d];exact k
theorem RJ.callM(idx:Nat)(hidx:f0G ops base p=idx)(hres:q0z (H[idx]?)=jB)
    (h:h0P (vA base) ops p tr L [] [(idx,en0)]=vA (d,f,args,tr2)) (hr:SV.refsL 0 args=jB) (hle:LeL args args') (hs:SC P f args' [] v0 [en0]) (hv:SV.rn (λ_=>idx) v0=v) (hH:H.set idx en0=H2)
    (kk:RJ F P (vA base) ops (p+1) tr2 (g0g L d v) H2 Q) (hE: ∀g,Ent.rn g en0=en0:=by exact λ_=>rfl):RJ F P (vA base) ops p tr L H Q:=by
  obtain⟨o,ho,hg,hc,rfl,rfl,hk⟩:=e0h h;subst hv;subst hH;subst hidx;intro hl;rw[e0g ho];subst hl
  have hres':H[f0G ops base tr.length]?=vA .res:=by
    unfold q0z at hres;split at hres
    assumption
    cases hres
  refine⟨⟨SV.rn (λ_=>f0G ops base tr.length) v0,[],[(f0G ops base tr.length,en0)]⟩, ?_,hk base rfl, ?_⟩;unfold opD;rw[hg];simp only;rw[q0A hc,vB rfl];exact .inr<|.inl ⟨f,args,v0,en0,hc,hr,SC.weak hs hle,⟨hres',hE⟩,rfl⟩;have:=kk (by simp[trM]);rw[b0b];exact this
def F0a(h:SV.refsL 0 cs=jB): ∀g,Ent.rn g (.box cs)= .box cs:=λg=>congrArg Ent.box<|A0g h
theorem RJ.callG(σ:List Nat)(h:h0P none ops p tr L []=vA (d,f,args,tr2))(ha:args=SV.rnL (a0Y σ) args0)(hl:σ.length=H0.length)(hg:σ.map (λi=>H[i]?)=H0.map λen=>vA<|Ent.rn (a0Y σ) en)(hn:σ.Nodup)(hr0:H0.all (Ent.refs H0.length)=jB)
    (hlive:H0.all h0e=jB) (hr:SV.refsL H0.length args0=jB) (hle:LeL args0 args') (hs:SC P f args' H0 v0 H0') (hle':yC H0.length H0'.length=jB)
    (hv:SV.rn (gOf (a0Y σ) H0.length H.length) v0=v) (hH:d0y (a0Y σ) H0.length H H0'=H2)
    (k:RJ F P none ops (p+1) tr2 (g0g L d v) H2 Q):RJ F P none ops p tr L H Q:=by
  obtain⟨o,ho,hgd,hc,rfl,rfl,hk⟩:=e0h h;subst hv;subst hH;refine RJ.call ho hgd hc ?_ k;rw[ha];exact SC.frame (SC.weak hs hle) (Sel.of σ hl hg hn hr0) (λen hm=>List.all_eq_true.1 hlive en hm) hr<|ag hle'
end
def a0l(k:IntKind):Int->List SV:=λx=> [.int k x]
def H0C:Bool->List SV:=λx=> [.bool x]
def t0X:List UInt8->List SV:=λx=> [.str x]
def lsv(enc:T->List SV)(k:Nat)(xs:List T):SV:= .lst xs.length k<|xs.flatMap enc
def k0o(enc:T->List SV)(k:Nat):List T->List SV:=λxs=> [.lst xs.length k<|xs.flatMap enc]
def a0s(enc:T->List SV)(k e:Nat)(xs:List T):Ent:= .vec xs.length k e<|xs.flatMap enc
def nth[Inhabited T](xs:List T)(j:Int):T:=xs.getD j.toNat default
def cut(xs:List T)(l h:Int):List T:=(xs.take h.toNat).drop l.toNat
def rep(l:Int)(z:T):List T:=oC l.toNat z
def d0a(xs:List T)(j:Int)(y:T):List T:=xs.set j.toNat y
def v0F(xs ys:List T):List T:=ys.take xs.length++xs.drop ys.length
def b0j(s:List UInt8):List Int:=s.map λb=>(b.toNat:Int)
def e0Z(xs:List Int):List UInt8:=xs.map λx=>wJ x.toNat
def i0E(a b:Int):Int:=if a<b then b else a
def M0j(a b:Int):Int:=if b<a then b else a
def M0b[Inhabited T]{xs:List T}(h:inR j xs.length=jB):xs[j.toNat]?=vA (nth xs j):=by
  have:=f0d.1 h;have hl:j.toNat<xs.length:=by omega
  unfold nth;rw[am,af hl];rfl
section
variable {T : Type}{enc : T -> List SV}{k : Nat}
def l0S(hk: ∀x,(enc x).length=k): ∀xs:List T,(xs.flatMap enc).length=xs.length*k
  | []=>by simp
  |x::xs=>by rw[aD,az,hk,l0S hk xs,aU,bU];omega
def k0d(hk: ∀x,(enc x).length=k): ∀(xs:List T) (n:Nat),(xs.flatMap enc).drop (n*k)=(xs.drop n).flatMap enc
  | [],n=>by simp
  |x::xs,0=>by simp
  |x::xs,n+1=>by
    rw[aD,db,hk,bU,bq<|by rw[hk];omega,aV];rw[show n*k+k-k=n*k from by omega,k0d hk xs n,List.drop_succ_cons]
def i0G(hk: ∀x,(enc x).length=k): ∀(xs:List T) (n:Nat),(xs.flatMap enc).take (n*k)=(xs.take n).flatMap enc
  | [],n=>by simp
  |x::xs,0=>by simp
  |x::xs,n+1=>by
    rw[aD,List.take_append,hk,bU,aX<|by rw[hk];omega];rw[show n*k+k-k=n*k from by omega,i0G hk xs n,List.take_succ_cons,aD]
def z0u[Inhabited T](hk: ∀x,(enc x).length=k){xs:List T}(h:inR j xs.length=jB):((xs.flatMap enc).drop<|j.toNat*k).take k=enc (nth xs j):=by
  have hn:=M0b h;rw[k0d hk];have hl:=(ab.1 hn).1;rw[ca hl,aD,(ab.1 hn).2,<-hk (nth xs j),List.take_left]
def N.idx[Inhabited T](hk: ∀x,(enc x).length=k){xs:List T}(h:inR j xs.length=jB):(⟨.ep<|((xs.flatMap enc).drop<|j.toNat*k).take k,[],[]⟩:Eff)=⟨.ep<|enc<|nth xs j,[],[]⟩:=by
  rw[z0u hk h]
def N.slice(hk: ∀x,(enc x).length=k){xs:List T}(hb:inS l h xs.length=jB):
    (⟨.lst (h.toNat-l.toNat) k<|((xs.flatMap enc).take<|h.toNat*k).drop<|l.toNat*k,[],[]⟩:Eff)=⟨.lst (cut xs l h).length k<|(cut xs l h).flatMap enc,[],[]⟩:=by
  have:=n0s.1 hb;rw[i0G hk,k0d hk]
  have:(cut xs l h).length=h.toNat-l.toNat:=by
    unfold cut;rw[bc,aE];omega
  rw[this];rfl
def N.app{xs ys:List T}{idx e:Nat}:(⟨v,rd,[(i, .gone),(idx, .vec (xs.length+ys.length) k e<|xs.flatMap enc++ys.flatMap enc)]⟩:Eff)=⟨v,rd,[(i, .gone),(idx, .vec (xs++ys).length k e<|(xs++ys).flatMap enc)]⟩:=by
  rw[az,bT]
def N.make{z:T}{idx e:Nat}:(⟨v,rd,[(idx, .vec l.toNat k e (oC l.toNat<|enc z).flatten)]⟩:Eff)=⟨v,rd,[(idx, .vec (rep l z).length k e<|(rep l z).flatMap enc)]⟩:=by
  unfold rep;rw[List.length_replicate,List.flatMap_replicate]
def w0N(hk: ∀x,(enc x).length=k){xs:List T}{y:T}(h:inR j xs.length=jB):splice (xs.flatMap enc) (j.toNat*k) (enc y)=(d0a xs j y).flatMap enc:=by
  have hj:=f0d.1 h;have hl:j.toNat<xs.length:=by omega
  unfold splice d0a;rw[hk,i0G hk,show j.toNat*k+k=(j.toNat+1)*k from(bU _ _).symm,k0d hk];rw[List.set_eq_take_append_cons_drop,vB hl,bT,aD]
theorem J0E(hk: ∀x,(enc x).length=k){xs ys:List T}:splice (xs.flatMap enc) 0 ((ys.flatMap enc).take<|min ys.length xs.length*k)=(v0F xs ys).flatMap enc:=by
  unfold splice v0F;rw[i0G hk,List.take_zero,aV,bg,l0S hk,aE,k0d hk,bT];congr 1;congr 1;rw[Nat.min_comm,<-List.take_eq_take_min];congr 1;rcases Nat.le_total ys.length xs.length with h|h;congr 1;omega;rw[bq dA,bq dA]
def G0V{xs ys:List T}:(v0F xs ys).length=xs.length:=by
  unfold v0F;rw[az,aE,bc];omega
end
def N.store{enc:T->List SV}(hk: ∀x,(enc x).length=k){e:Nat}{xs:List T}{y:T}(h:inR j xs.length=jB):
    (⟨v,rd,[(i, .vec xs.length k e<|splice (xs.flatMap enc) (j.toNat*k)<|enc y)]⟩:Eff)=⟨v,rd,[(i,a0s enc k e<|d0a xs j y)]⟩:=by
  rw[w0N hk h];unfold a0s d0a;rw[df]
def k0X{enc:T->List SV}(hk: ∀x,(enc x).length=k){xs:List T}{y:T}(h:inR j xs.length=jB):yC (j.toNat*k+(enc y).length) (xs.flatMap enc).length=true:=by
  have hj:=f0d.1 h;rw[l0S hk,hk,co,show j.toNat*k+k=(j.toNat+1)*k from(bU _ _).symm];exact aK _ dA
def f0R{enc:T->List SV}(hk: ∀x,(enc x).length=k)(hk0:k=1){xs:List T}(h:inR j xs.length=jB):oD (j.toNat*k) (xs.flatMap enc).length=true:=by
  have hj:=f0d.1 h;subst hk0;rw[l0S hk,de];omega
theorem N.load1[Inhabited T]{enc:T->List SV}{f:T->SV}(hk: ∀x,(enc x).length=1)(hf: ∀x,enc x=[f x]){xs:List T}(h:inR j xs.length=jB):
    (⟨((xs.flatMap enc).drop<|j.toNat*1).headD .undef,rd,[]⟩:Eff)=⟨f<|nth xs j,rd,[]⟩:=by
  have h1:=z0u hk h;rw[hf]at h1
  cases hd:(xs.flatMap enc).drop (j.toNat*1)with
  |nil=>rw[hd]at h1;simp at h1
  |cons c r=>rw[hd]at h1;simp at h1;rw[h1];rfl
def N.copy{enc:T->List SV}(hk: ∀x,(enc x).length=k){e:Nat}{xs ys:List T}:
    (⟨v,rd,[(i, .vec xs.length k e<|splice (xs.flatMap enc) 0<|(ys.flatMap enc).take<|min ys.length xs.length*k)]⟩:Eff)=⟨v,rd,[(i,a0s enc k e<|v0F xs ys)]⟩:=by
  rw[J0E hk];unfold a0s;rw[G0V]
def a0g(k:IntKind)(x:Int):(a0l k x).length=1:=rfl
def f0s(enc:T->List SV)(k:Nat)(x:List T):(k0o enc k x).length=1:=rfl
theorem k0G(s:List UInt8):s.map l0n=(b0j s).flatMap (a0l .u8):=by
  induction s with
  |nil=>rfl
  |cons b s ih=>rw[ao,b0j,ao,aD,ih];rfl
def d0v(s:List UInt8):(b0j s).length=s.length:=by simp[b0j]
def N.toBytes{s:List UInt8}:(⟨.lst s.length 1<|s.map l0n,[],[]⟩:Eff)=⟨lsv (a0l .u8) 1<|b0j s,[],[]⟩:=by
  unfold lsv;rw[k0G,d0v]
theorem G0y(s:List UInt8):(d0L s).map w0U=(d0L s).flatMap (a0l .i32):=by
  generalize d0L s=l
  induction l with
  |nil=>rfl
  |cons b s ih=>rw[ao,aD,ih];rfl
def N.toRunes{s:List UInt8}:(⟨.lst (d0L s).length 1<|(d0L s).map w0U,[],[]⟩:Eff)=⟨lsv (a0l .i32) 1<|d0L s,[],[]⟩:=by
  unfold lsv;rw[G0y]
def p0T(xs:List Int):List UInt8:=xs.flatMap λx=>(jJ x).data.toList
theorem K0Y(xs:List Int):(xs.flatMap<|a0l .i32).all p0t=true:=by
  induction xs with
  |nil=>rfl
  |cons x xs ih=>rw[aD,ck,ih];rfl
theorem N.toRStr{xs:List Int}:(⟨.str<|(xs.flatMap<|a0l .i32).flatMap w0V,rd,[]⟩:Eff)=⟨.str<|p0T xs,rd,[]⟩:=by
  have:(xs.flatMap<|a0l .i32).flatMap w0V=p0T xs:=by
    unfold p0T
    induction xs with
    |nil=>rfl
    |cons x xs ih=>rw[aD,bT,ih,aD];simp[a0l,w0V]
  rw[this]
theorem t0V(xs:List Int):(xs.flatMap<|a0l .u8).all o0U=true:=by
  induction xs with
  |nil=>rfl
  |cons x xs ih=>rw[aD,ck,ih];rfl
theorem N.toStr{xs:List Int}:(⟨.str<|(xs.flatMap<|a0l .u8).map byteOf,rd,[]⟩:Eff)=⟨.str<|e0Z xs,rd,[]⟩:=by
  have:(xs.flatMap<|a0l .u8).map byteOf=e0Z xs:=by
    induction xs with
    |nil=>rfl
    |cons x xs ih=>rw[aD,cx,ih];rfl
  rw[this]
section
variable {F : Fr}{P : Program}{L : LE}{H : a0e}
end
def e0y(fn:Func):Code:=fn.body.getD .skip
def cl:Code->Code| .seq a _=>a|_=> .skip
def cr:Code->Code| .seq _ b=>b|_=> .skip
def ct:Code->Code| .cond _ a _=>a|_=> .skip
def ce:Code->Code| .cond _ _ b=>b|_=> .skip
def cb:Code->Code| .block _ a=>a|_=> .skip
def cp:Code->Code| .loop a=>a|_=> .skip
def h0I:Code->Array Oper| .region _ ops _=>ops|_=> #[]
def s0k:Code->Bool| .seq _ _=>jB|_=>oA
def o0x(d:Bool):Code->Bool| .region _ _ b=>b==d|_=>oA
def z0j(i:Nat):Code->Bool| .block j _=>oB j i|_=>oA
def E0G(i:Nat):Code->Bool| .exit j=>oB j i|_=>oA
def E0F:Code->Bool| .loop _=>jB|_=>oA
def E0E:Code->Bool| .ret=>jB|_=>oA
def u0J:Code->Bool| .skip=>jB|_=>oA
def y0l(c:Code)(L:LE):Option SV:=match c with
  | .cond x _ _=>a0B (a0p L) x
  |_=>none
section
variable {F : Fr}{P : Program}{c : Code}{L : LE}{H : a0e}{Q : g0c}
def A0a(h:s0k c=jB):c= .seq (cl c) (cr c):=by cases c<;>first|rfl|cases h
def K.seq(h:s0k c=jB)(k:J F P (cl c) L H<|l0t F P (cr c) Q):J F P c L H Q:=by
  rw[A0a h];exact J.seq k
def K.cutN(h:s0k c=jB)(R:S->LE×a0e)(st:S)(h1:J F P (cl c) L H<|cutN F R st)(h2:J F P (cr c) (R st).1 (R st).2 Q):J F P c L H Q:=by
  rw[A0a h];exact J.cutN R st h1 h2
def K.cutX(h:s0k c=jB)(R:S->LE×a0e)(x:S⊕X)(h1:J F P (cl c) L H<|cutX F R Q x)(h2: ∀st,x= .inl st->J F P (cr c) (R st).1 (R st).2 Q):J F P c L H Q:=by
  rw[A0a h];exact J.cutX R x h1 h2
theorem K.region(h:o0x oA c=jB)(k:RJ F P none (h0I c) 0 [] L H Q):J F P c L H Q:=by
  cases c<;>first|cases h|skip
  rename_i i ops d
  cases d with
  |false=>exact J.region k
  |true=>cases h
theorem K.draw(h:o0x jB c=jB)(hm:P.follows .mixedOrders=jB)(hB:vG .any (h0I c)=jB)(hH:H++oC (e0k<|h0I c) .res=H2)(hn:H.length=n)(k:RJ F P (vA n) (h0I c) 0 [] L H2 Q):J F P c L H Q:=by
  subst hH;subst hn;cases c<;>first|cases h|skip
  rename_i i ops d
  cases d with
  |true=>exact J.draw hm hB k
  |false=>cases h
theorem K.condT(h:y0l c L=vA (.bool jB))(k:J F P (ct c) L H Q):J F P c L H Q:=by
  cases c<;>first|cases h|skip
  exact J.cond (b:=jB) h k
theorem K.condF(h:y0l c L=vA (.bool oA))(k:J F P (ce c) L H Q):J F P c L H Q:=by
  cases c<;>first|cases h|skip
  exact J.cond (b:=oA) h k
theorem K.block(i:Nat)(h:z0j i c=jB)(k:J F P (cb c) L H<|vF i Q):J F P c L H Q:=by
  cases c<;>first|cases h|skip
  rename_i j a;have:=ae h;subst this;exact J.block k
def K.skip(h:u0J c=jB)(k:PJ F Q .normal L H):J F P c L H Q:=by
  cases c<;>first|cases h|skip
  exact J.skip k
def K.ret(h:E0E c=jB)(k:PJ F Q .ret L H):J F P c L H Q:=by
  cases c<;>first|cases h|skip
  exact J.ret k
theorem K.exit(i:Nat)(h:E0G i c=jB)(k:PJ F Q (.exit i) L H):J F P c L H Q:=by
  cases c<;>first|cases h|skip
  rename_i j;have:=ae h;subst this;exact J.exit k
def K.loop{step:S->Option (S⊕O)}{s0:S}{o:O}(h:E0F c=jB)(R:S->LE×a0e)(ho:a0m step n s0=vA o)(ts:List Nat)(hL:g0r ts L=(R s0).1)(hH:H=(R s0).2)
    (body: ∀s x,step s=vA x->J F P (cp c) (R s).1 (R s).2 (p0r F R Q o x)):J F P c L H Q:=by
  cases c<;>first|cases h|skip
  exact J.loopR R ho ts hL hH body
def RJ.end{m:Option Nat}{p:Nat}{tr:List (List Nat×List Nat)}(hp:yC ops.size p=jB)(h:PJ F Q .normal L H):RJ F P m ops p tr L H Q:=RJ.done (ag hp) h
end
theorem K.fn{P:Program}{f:FuncId}{fn:Func}(hf:P.funcs[f]?=vA fn)(hb:fn.body.isSome=jB)(hcal:b0o P f=jB)(hin:b0n fn.ntmps (e0y fn)=jB)
    {args:List SV} {H:a0e} {v:SV} {H':a0e} (hn:yC args.length fn.ntmps=jB)
    (h: ∀F:Fr,F.n=fn.ntmps->F.H0=H->(∀i,F.H0.length<=i->F.D0 i=none)->J F P (e0y fn) (e0M 0 args) H (u0e P fn F v H')):SC P f args H v H':=by
  unfold e0y at*
  cases hbb:fn.body with
  |none=>rw[hbb]at hb;cases hb
  |some c=>rw[hbb]at hin h;exact L0f hf hbb hcal hin (ag hn) h
theorem K.ret0{P:Program}{fn:Func}{L:LE}{H:a0e}(he:e= .normal\/e= .ret)(hn:F.n=fn.ntmps)(hH:F.H0=[])(hdom: ∀i,F.H0.length<=i->F.D0 i=none)(hin:j0R fn.ntmps fn.results.toList=jB)(hret:u0z P fn.results.toList L H=vA v)(hr:SV.refs 0 v=jB):
    PJ F (u0e P fn F v []) e L H:=
  PJ.end (f:=λj=>j) he (by rw[hn];exact hin) hret (by rw[hH];exact Back.drop (H':=[]) (ex:=H) (ak _) hr rfl) hdom
theorem K.retV{P:Program}{fn:Func}{L:LE}{H:a0e}(σ:List Nat)(he:e= .normal\/e= .ret)(hn:F.n=fn.ntmps)(hH:F.H0=H0)(hdom: ∀i,F.H0.length<=i->F.D0 i=none)(hin:j0R fn.ntmps fn.results.toList=jB)(hret:u0z P fn.results.toList L H=vA v1)
    (hl:σ.length=H'.length) (hg:σ.map (λi=>H[i]?)=H'.map λen=>vA<|Ent.rn (a0Y σ) en) (hnd:σ.Nodup) (hr:H'.all (Ent.refs H'.length)=jB) (hk:σ.take H0.length=jC H0.length) (hle:yC H0.length H'.length=jB) (hv:v1=SV.rn (a0Y σ) v) (hvr:SV.refs H'.length v=jB):
    PJ F (u0e P fn F v H') e L H:=by
  refine PJ.end (f:=a0Y σ) he (by rw[hn];exact hin) hret ⟨Sel.of σ hl hg hnd hr,λj hj=> ?_,by rw[hH];exact ag hle,hv,hvr⟩ hdom;rw[hH]at hj;have:=congrArg (λl=>l[j]?) hk;simp only[aM,vB hj,bw hj]at this;unfold a0Y;rw[am,this];rfl
theorem Good.le{K:Nat->Nat}{H:a0e}{s':SV}(h:Good w K D H r w' s H')(hl:Le s s'):Good w K D H r w' s' H':=by
  obtain⟨K',D',g,hi,hr⟩:=h;exact⟨K',D',g,hi,hl _ _ _ _ hr⟩
theorem PJ.res{P:Program}{fn:Func}{L:LE}{H:a0e}(hl:Le v1 v)(h:PJ F (u0e P fn F v1 H') e L H):PJ F (u0e P fn F v H') e L H:=λa w hs=>by
  obtain⟨h1,h2,r,h3,h4⟩:=h a w hs;exact⟨h1,h2,r,h3,h4.le hl⟩
theorem SC.frozen{P:Program}{e:Nat}(h:SC P f args [] (.vc 0) [.vec n k e cs]):SC P f args [] (.lst n k cs) []:=by
  refine⟨h.1,λw K D vals hlen hrep hi hG=> ?_⟩;refine(h.2 w K D vals hlen hrep hi hG).mono ?_;rintro ex w' ⟨r,he,hg⟩;refine⟨r,he, ?_⟩;obtain⟨K',D',g,hi',hr'⟩:=hg.freeze (i:=0) rfl;exact j0k g hi' hr' (Back.drop (H':=[]) (ex:=[.gone]) (ak _) rfl rfl) λi _=>hi.dom i<|bo _
def n0r{k:S->Option X}{x:X}{r:Option X}(h:a0j k (.inr x)=r):vA x=r:=h
def k0b{k:S->Option X}{s:S}{r:Option X}(h:a0j k (.inl s)=r):k s=r:=h
def big:Nat:=18446744073709551616
end
open Go Go.RowKit Go.ChangeShapes Go.WideShapes Go.ChangeAt
section
variable [Inhabited GT]
def e0x(P:Program){H:Type}:Nat->TypeId->DataW H->List SV->Prop
  |0,_,_,_=>False
  |n+1,t,d,cs=>match P.underlying t with
    |some .bool=> ∃b,d= .lit (.bool b)/\cs=[.bool b]
    |some (.int k)=> ∃x,d= .lit (.int k x)/\cs=[.int k x]/\(Lit.int k x).wf=jB
    |some .string=> ∃l,d= .lit (.string l)/\cs=[.str l]
    |some (.slice e)=>(d= .nil/\cs=[.lst 0 (P.cellsOf e) []])\/ ∃(elems rest:List<|DataW H) (xs:List<|List SV),d= .slice elems rest/\cs=[.lst xs.length (P.cellsOf e) xs.flatten]/\xs.length=elems.length/\
        (∀x∈xs,x.length=P.cellsOf e)/\ ∀(i:Nat) y x,elems[i]?=vA y->xs[i]?=vA x->e0x P n e y x
    |some (.struct fs)=>cs.length=P.cellsOf t/\ ∃parts:List (DataW H),d= .agg parts/\parts.length=fs.size/\ ∀(i:Nat) (f:Field) p,fs[i]?=vA f->parts[i]?=vA p->e0x P n f.type p ((cs.drop f.offset).take<|P.cellsOf f.type)
    |some (.array m e)=>cs.length=P.cellsOf t/\ ∃parts:List (DataW H),d= .agg parts/\parts.length=m/\ ∀(i:Nat) p,parts[i]?=vA p->e0x P n e p ((cs.drop<|i*P.cellsOf e).take<|P.cellsOf e)
    |_=>False
def m0m(P:Program)(total:Nat):Nat->List Field->Bool
  |off,[]=>off==total
  |off,f::r=>(f.offset==off)&&m0m P total (off+P.cellsOf f.type) r
def n0d(P:Program):Nat->TypeId->Bool
  |0,_=>oA
  |n+1,t=>match P.underlying t with
    |some .bool=>jB
    |some (.int _)=>jB
    |some .string=>jB
    |some (.slice e)=>yA (0<P.cellsOf e)&&n0d P n e
    |some (.struct fs)=>m0m P (P.cellsOf t) 0 fs.toList&&fs.toList.all λf=>n0d P n f.type
    |some (.array m e)=>(P.cellsOf t==m*P.cellsOf e)&&n0d P n e
    |_=>oA
def KW(w:World):Nat->Nat:=λb=>match w.heap[b]? with
  |some (.cells c _ _)=>c.size
  |_=>0
theorem O0H(w:World)(b:Nat)(h:KW w b≠0):b<w.heap.size:=by
  unfold KW at h;split at h;rename_i c e f hb;exact(al.1 hb).1;exact absurd rfl h
theorem L0g{b off:Nat}{v:Value}(h:w.cell? ⟨b,off,none⟩=vA v):off<KW w b:=by
  unfold World.cell? at h;unfold KW;simp only at h;split at h;rename_i c e f hb;rw[hb];simp at h;exact(al.1 h).1;cases h
theorem z0w{Q:Nat->α->Prop}: ∀(n:Nat),(∀i,i<n-> ∃x,Q i x)-> ∃l:List α,l.length=n/\ ∀(i:Nat) x,l[i]?=vA x->Q i x:=by
  intro n
  induction n with
  |zero=>intro _;exact⟨[],rfl,λi x h=>by simp at h⟩
  |succ n ih=>
    intro h;obtain⟨l,hl,hq⟩:=ih λi hi=>h i dA
    obtain⟨x,hx⟩:=h n dA;refine⟨l++ [x],by simp[hl],λi y hy=> ?_⟩;rw[aP]at hy;split at hy;exact hq i y hy;rename_i hi
    have:i-l.length=0:=by
      have:=(ab.1 hy).1;simp at this;omega
    have hin:i=n:=by omega
    rw[this]at hy;simp at hy;subst hy;subst hin;exact hx
theorem q0E: ∀(l:List<|List α),(∀x∈l,x.length=k)->l.flatten.length=l.length*k:=by
  intro l
  induction l with
  |nil=>intro _;simp
  |cons x l ih=>
    intro h;rw[List.flatten_cons,az,h x<|aB ..,ih λy hy=>h y<|aq _ hy,aU,bU];omega
theorem l0R(hk:0<k): ∀(l:List<|List α),(∀x∈l,x.length=k)-> ∀j,l.flatten[j]?=(l[j/k]?).bind λx=>x[j%k]?:=by
  intro l
  induction l with
  |nil=>intro _ j;simp
  |cons x l ih=>
    intro h j;have hx:=h x<|aB ..;rw[List.flatten_cons,aP];split;rename_i hj;rw[hx]at hj;rw[Nat.div_eq_of_lt hj,da hj];rfl;rename_i hj;rw[hx]at hj⊢;rw[ih λy hy=>h y<|aq _ hy]
    have h1:j/k=(j-k)/k+1:=by
      have:=Nat.div_eq_sub_div hk (show k<=j by omega);exact this
    have h2:j%k=(j-k)%k:=Nat.mod_eq_sub_mod dA;rw[h1,h2];simp
theorem r0O{P:Program}{K:Nat->Nat}{cs:List Value}{Q:Nat->List SV->Prop}: ∀(fl:List Field) (off i0:Nat),m0m P cs.length off fl=jB->
    (∀(i:Nat) f,fl[i]?=vA f-> ∃ss,CR w K D ((cs.drop f.offset).take<|P.cellsOf f.type) ss/\ss.length=P.cellsOf f.type/\a0P ss=jB/\Q (i0+i) ss)->
    ∃ss,CR w K D (cs.drop off) ss/\a0P ss=jB/\ ∀(i:Nat) f,fl[i]?=vA f->off<=f.offset/\Q (i0+i) ((ss.drop<|f.offset-off).take<|P.cellsOf f.type):=by
  intro fl
  induction fl with
  |nil=>
    intro off i0 h _;simp only[m0m,beq_iff_eq]at h;subst h;exact⟨[],by simpa using CR.nil,rfl,λi f hf=>by simp at hf⟩
  |cons f r ih=>
    intro off i0 h hq;simp only[m0m,aa,beq_iff_eq]at h;obtain⟨h1,h2⟩:=h;subst h1;obtain⟨s1,c1,l1,p1,q1⟩:=hq 0 f rfl
    obtain⟨s2,c2,p2,q2⟩:=ih (f.offset+P.cellsOf f.type) (i0+1) h2 (λi g hg=>by
      obtain⟨ss,a,b,pp,c⟩:=hq (i+1) g (by simpa using hg)
      exact⟨ss,a,b,pp,by rw[show i0+1+i=i0+(i+1)from by omega];exact c⟩)
    refine⟨s1++s2, ?_,by simp only[a0P,ck,aa]at p1 p2⊢;exact⟨p1,p2⟩,λi g hg=> ?_⟩;have:=c1.append c2;rw[<-List.drop_drop,bz]at this;exact this
    cases i with
    |zero=>
      simp at hg;subst hg;refine⟨ak _, ?_⟩;rw[Nat.sub_self,cV,<-l1,List.take_left];exact q1
    |succ i=>
      obtain⟨p1,p2⟩:=q2 i g (by simpa using hg);refine⟨dA, ?_⟩
      have hd:(s1++s2).drop (g.offset-f.offset)=s2.drop (g.offset-(f.offset+P.cellsOf f.type)):=by
        rw[db,bq dA,aV];congr 1;omega
      rw[hd,show i0+(i+1)=i0+1+i from by omega];exact p2
theorem y0k{P:Program}{total:Nat}: ∀(fl:List Field) (off:Nat),m0m P total off fl=jB->off<=total/\ ∀f∈fl,f.offset+P.cellsOf f.type<=total:=by
  intro fl
  induction fl with
  |nil=>intro off h;simp only[m0m,beq_iff_eq]at h;exact⟨dA,λf hf=>by cases hf⟩
  |cons f r ih=>
    intro off h;simp only[m0m,aa,beq_iff_eq]at h;obtain⟨h1,h2⟩:=h;obtain⟨i1,i2⟩:=ih _ h2;refine⟨dA,λg hg=> ?_⟩;rcases aY.1 hg with rfl|hg;omega;exact i2 g hg
def h0A(e k i : Nat): Field := { name := "", type := e, offset := i * k, embedded := oA, tag := "", pkgPath := "", byteOffset := 0 }
def z0D{P:Program}{e:TypeId}: ∀(m i0:Nat),m0m P ((i0+m)*P.cellsOf e) (i0*P.cellsOf e) ((wH i0 m).map<|h0A e<|P.cellsOf e)=true:=by
  intro m
  induction m with
  |zero=>intro i0;simp[m0m]
  |succ m ih=>
    intro i0;simp only[List.range'_succ,ao,m0m,h0A,beq_self_eq_true,cw];have:=ih<|i0+1;rw[show i0*P.cellsOf e+P.cellsOf e=(i0+1)*P.cellsOf e from(bU _ _).symm,show i0+(m+1)=i0+1+m from by omega];exact this
section
variable {H : Type}{enc : TypeId × Value -> H}{P : Program}{w : World}
theorem v0m: ∀(n:Nat) (t:TypeId) (fuel:Nat) (cs:List Value) (x:DataW H×List MemPlace),n0d P n t=jB->DataW.trod enc P w 0 (λ_=>jB) jB fuel t cs=vA x->
    ∃ss,CR w (KW w) (λ_=>none) cs ss/\a0P ss=jB/\e0x P n t x.1 ss:=by
  intro n
  induction n with
  |zero=>intro t fuel cs x hp _;simp[n0d]at hp
  |succ n ih=>
    intro t fuel cs x hp h;unfold n0d at hp
    have single: ∀(v:Value) (s:SV),cs=[v]->Rep w (KW w) (λ_=>none) v s->s.plain=jB->CR w (KW w) (λ_=>none) cs [s]:=by
      intro v s hc hr h1;subst hc
      exact⟨rfl,λc hm=>by simp at hm;subst hm;exact x0p hr h1,λj v c hv hc=>by
        cases j with
        |zero=>simp at hv hc;subst hv;subst hc;exact hr
        |succ j=>simp at hv⟩
    split at hp;rename_i hu;obtain⟨b,hcs,hx⟩:=DataW.trod_bool hu h;exact⟨[.bool b],single _ _ hcs (.bool b) rfl,rfl,by unfold e0x;rw[hu,hx];exact⟨b,rfl,rfl⟩⟩;rename_i k hu;obtain⟨z,hcs,hx,hw⟩:=DataW.trod_int hu h;exact⟨[.int k z],single _ _ hcs (.int k z) rfl,rfl,by unfold e0x;rw[hu,hx];exact⟨z,rfl,rfl,hw⟩⟩;rename_i hu;obtain⟨s,hcs,hx,_⟩:=DataW.trod_string hu h;exact⟨[.str s.data.toList],single _ _ hcs (.str s) rfl,rfl,by unfold e0x;rw[hu,hx];exact⟨_,rfl,rfl⟩⟩;rename_i e hu;simp only[aa,decide_eq_true_eq]at hp;obtain⟨hk,hpe⟩:=hp;rcases DataW.trod_slice hu h with⟨hcs,hx⟩|⟨a,len,cap,elems,rest,m,_,hcs,hx,hb,hl,hm,hlen,hel,hsp,hns⟩;exact⟨[.lst 0 (P.cellsOf e) []],single _ _ hcs (.emp _ _ _) rfl,rfl,by unfold e0x;rw[hu,hx];exact .inl ⟨rfl,rfl⟩⟩
    -- each element by itself
    have each: ∀i,i<len-> ∃p:List Value×List SV,p.1.length=P.cellsOf e/\(CR w (KW w) (λ_=>none) p.1 p.2/\a0P p.2=jB)/\(∀r,r<P.cellsOf e->w.cell? ((a.add<|i*P.cellsOf e).add r)=p.1[r]?)/\
        ∀y,elems[i]?=vA y->e0x P n e y.1 p.2:=by
      intro i hi;have h1:=hel i hi;have hil:i<elems.length:=by omega
      rw[af hil]at h1;simp only[Option.bind_eq_some_iff]at h1;obtain⟨vs,hvs,htr⟩:=h1;obtain⟨_,h3,h4⟩:=World.cells?_some hvs;obtain⟨ss,hcr,hpl,hsh⟩:=ih e m vs _ hpe htr;exact⟨(vs,ss),h3,⟨hcr,hpl⟩,h4,λy hy=>by rw[af hil]at hy;cases hy;exact hsh⟩
    obtain⟨l,hll,hlq⟩:=z0w len each
    have hget: ∀i,i<len-> ∃p,l[i]?=vA p:=λi hi=>⟨l[i]' dA,af dA⟩
    have hxs1: ∀x∈l.map (·.1),x.length=P.cellsOf e:=by
      intro x hx;obtain⟨p,hp,rfl⟩:=be.1 hx;obtain⟨i,hi⟩:=bA.1 hp;exact(hlq i p hi).1
    have hxs2: ∀x∈l.map (·.2),x.length=P.cellsOf e:=by
      intro x hx;obtain⟨p,hp,rfl⟩:=be.1 hx;obtain⟨i,hi⟩:=bA.1 hp;rw[(hlq i p hi).2.1.1.len];exact(hlq i p hi).1
    have hshow:e0x P (n+1) t x.1 [.lst len (P.cellsOf e) (l.map (·.2)).flatten]:=by
      unfold e0x;rw[hu,hx];refine .inr ⟨elems.map (·.1),rest.map (·.1),l.map (·.2),rfl,by rw[List.length_map,hll],by simp[hll,hlen],hxs2,λi y x hy hxx=> ?_⟩;rw[ar]at hy hxx
      cases hp:l[i]? with
      |none=>rw[hp]at hxx;cases hxx
      |some p=>
        rw[hp]at hxx;cases hxx
        cases he:elems[i]? with
        |none=>rw[he]at hy;cases hy
        |some y'=>rw[he]at hy;cases hy;exact(hlq i p hp).2.2.2 y' he
    refine⟨_,single _ _ hcs ?_ rfl,rfl,hshow⟩;by_cases h0:len=0;subst h0;have:l=[]:=ay hll;subst this;exact .emp _ _ _;obtain⟨b,off,spot⟩:=a
    have hcell: ∀i r,i<len->r<P.cellsOf e-> ∃p v,l[i]?=vA p/\p.1[r]?=vA v/\w.cell? (((⟨b,off,spot⟩:Addr).add<|i*P.cellsOf e).add r)=vA v:=by
      intro i r hi hr;obtain⟨p,hp⟩:=hget i hi;obtain⟨q1,q2,q3,q4⟩:=hlq i p hp;have hrl:r<p.1.length:=by omega
      exact⟨p,p.1[r],hp,af hrl,by rw[q3 r hr,af hrl]⟩
    have hspot:spot=none:=by
      obtain⟨p,v,_,_,hc⟩:=hcell 0 0 dA hk;have h1:((⟨b,off,spot⟩:Addr).add<|0*P.cellsOf e).add 0=⟨b,off,spot⟩:=by simp[Addr.add]
      rw[h1]at hc;have:=World.cell?_spot hc;simpa using this
    subst hspot;have hflat1:(l.map (·.1)).flatten.length=len*P.cellsOf e:=by rw[q0E _ hxs1];simp[hll]
    have hflat2:(l.map (·.2)).flatten.length=len*P.cellsOf e:=by rw[q0E _ hxs2];simp[hll]
    have hmem: ∀j v,(l.map (·.1)).flatten[j]?=vA v->w.cell? ⟨b,off+j,none⟩=vA v:=by
      intro j v hj;have hjl:=(ab.1 hj).1;rw[hflat1]at hjl;have hi:j/P.cellsOf e<len:=cL (by rw[dh];exact hjl);have hr:j%P.cellsOf e<P.cellsOf e:=Nat.mod_lt _ hk;obtain⟨p,u,hp,hu',hc⟩:=hcell _ _ hi hr;rw[l0R hk _ hxs1,ar,hp]at hj;simp only[aZ,ah]at hj;rw[hu']at hj;cases hj;rw[add_lit,add_lit]at hc
      have hjj:off+j/P.cellsOf e*P.cellsOf e+j%P.cellsOf e=off+j:=by
        have:=Nat.div_add_mod j<|P.cellsOf e;rw[dh]at this;omega
      rw[hjj]at hc;exact hc
    refine .lst (P.cellsOf e) b off len cap (l.map (·.1)).flatten _ hk hflat1 (by rw[hflat2,hflat1]) hl hmem ?_ (λc hc=> ?_) (List.all_eq_true.2 λc hc=> ?_) λj v c hv hc=> ?_;rw[hflat1];have hpos:0<len*P.cellsOf e:=Nat.mul_pos dA hk;have hlast:len*P.cellsOf e-1<(l.map (·.1)).flatten.length:=by rw[hflat1];omega
    have:=L0g<|hmem _ _<|af hlast;omega;obtain⟨x,hx,hcx⟩:=List.mem_flatten.1 hc;obtain⟨p,hp,rfl⟩:=be.1 hx;obtain⟨i,hi⟩:=bA.1 hp;exact(hlq i p hi).2.1.1.one c hcx;obtain⟨x,hx,hcx⟩:=List.mem_flatten.1 hc;obtain⟨p,hp,rfl⟩:=be.1 hx;obtain⟨i,hi⟩:=bA.1 hp;exact List.all_eq_true.1 (hlq i p hi).2.1.2 c hcx;rw[l0R hk _ hxs1,ar]at hv;rw[l0R hk _ hxs2,ar]at hc
    cases hp:l[j/P.cellsOf e]? with
    |none=>rw[hp]at hv;cases hv
    |some p=>
      rw[hp]at hv hc;simp only[aZ,ah]at hv hc;exact(hlq _ p hp).2.1.1.rep _ v c hv hc
    rename_i fs hu;simp only[aa,wD]at hp;obtain⟨hct,hpf⟩:=hp;obtain⟨xs,m,_,hx,hcl,hxl,hfs⟩:=DataW.trod_struct hu h;rw[<-hcl]at hct
    obtain⟨ss,hcr,hpl,hq⟩:=r0O (w:=w) (K:=KW w) (D:=λ_=>none) (Q:=λj ss=> ∀f p,fs.toList[j]?=vA f->xs[j]?=vA p->e0x P n f.type p.1 ss) fs.toList 0 0 hct (λi f hf=>by
      have hf':fs[i]?=vA f:=by simpa using hf
      have hil:i<xs.length:=by rw[hxl];exact(al.1 hf').1
      have htr:=hfs i f hf';rw[af hil]at htr;obtain⟨ss,h1,hp1,h2⟩:=ih f.type m _ _ (hpf f<|aJ hf) htr;refine⟨ss,h1, ?_,hp1,λg p hg hpp=> ?_⟩;have:=(y0k _ _ hct).2 f<|aJ hf;rw[h1.len,aE,bc];omega;rw[bg]at hg hpp;rw[hf]at hg;cases hg;rw[af hil]at hpp;cases hpp
      exact h2)
    refine⟨ss,by simpa using hcr,hpl, ?_⟩;unfold e0x;rw[hu,hx];refine⟨by have:=hcr.len;simp at this;omega,xs.map (·.1),rfl,by simp[hxl],λi f p hf hpp=> ?_⟩;rw[ar]at hpp
    cases hxi:xs[i]? with
    |none=>rw[hxi]at hpp;cases hpp
    |some y=>
      rw[hxi]at hpp;cases hpp;have hfl:fs.toList[i]?=vA f:=by simpa using hf
      have:=(hq i f hfl).2 f y (by simpa using hfl) (by simpa using hxi);simpa using this
    rename_i m e hu;simp only[aa,beq_iff_eq]at hp;obtain⟨hct,hpe⟩:=hp;obtain⟨xs,mm,_,hx,hcl,hxl,hfs⟩:=DataW.trod_array hu h
    have hcf:m0m P cs.length 0 ((wH 0 m).map<|h0A e<|P.cellsOf e)=true:=by
      have:=z0D (P:=P) (e:=e) m 0;rw[hcl,hct];simpa using this
    have hff: ∀(i:Nat) f,((wH 0 m).map<|h0A e<|P.cellsOf e)[i]?=vA f->i<m/\f=h0A e (P.cellsOf e) i:=by
      intro i f hf;rw[ar]at hf
      cases hr:(wH 0 m)[i]? with
      |none=>rw[hr]at hf;cases hf
      |some j=>
        rw[hr]at hf
        have hl:=(ab.1 hr)
        obtain⟨p1,p2⟩:=hl;simp at p1 p2;subst p2;cases hf;exact⟨p1,rfl⟩
    obtain⟨ss,hcr,hpl,hq⟩:=r0O (w:=w) (K:=KW w) (D:=λ_=>none) (Q:=λj ss=> ∀p,xs[j]?=vA p->e0x P n e p.1 ss) _ 0 0 hcf (λi f hf=>by
      obtain⟨him,rfl⟩:=hff i f hf;have hil:i<xs.length:=by omega
      have htr:=hfs i him;rw[af hil]at htr;obtain⟨ss,h1,hp1,h2⟩:=ih e mm _ _ hpe htr;refine⟨ss,h1, ?_,hp1,λp hpp=> ?_⟩;have h3:=(y0k _ _ hcf).2 _<|aJ hf;rw[h1.len,aE,bc];simp only[h0A]at h3⊢;omega;rw[bg]at hpp;rw[af hil]at hpp;cases hpp
      exact h2)
    refine⟨ss,by simpa using hcr,hpl, ?_⟩;unfold e0x;rw[hu,hx];refine⟨by have:=hcr.len;simp at this;omega,xs.map (·.1),rfl,by simp[hxl],λi p hpp=> ?_⟩;rw[ar]at hpp
    cases hxi:xs[i]? with
    |none=>rw[hxi]at hpp;cases hpp
    |some y=>
      rw[hxi]at hpp;cases hpp;have him:i<m:=by rw[<-hxl];exact(ab.1 hxi).1
      have hfi:((wH 0 m).map<|h0A e<|P.cellsOf e)[i]?=vA (h0A e (P.cellsOf e) i):=by
        rw[ar,List.getElem?_range' him];simp
      have:=(hq i _ hfi).2 y (by simpa using hxi);simpa [h0A]using this
    cases hp
end
def l0p(P:Program){H:Type}(n:Nat)(t:TypeId)(d:DataW H)(s:SV):Prop:=
  match P.underlying t with
  |some (.struct _)=> ∃cs,s= .agg cs/\e0x P n t d cs
  |some (.array _ _)=> ∃cs,s= .agg cs/\e0x P n t d cs
  |_=>e0x P n t d [s]
section
variable {H : Type}{enc : TypeId × Value -> H}{P : Program}{w : World}
theorem D0h{r:Reach}{b0:Nat}{v:Value}{d:DataW H}{ps:List MemPlace}(hp:n0d P n t=jB)(hval:Value.okWide P w r b0 t v)(hd:DataW.Trod enc P w 0 (λ_=>jB) jB t v d ps):
    ∃s,Rep w (KW w) (λ_=>none) v s/\l0p P n t d s:=by
  obtain⟨fuel,hf⟩:=hd;obtain⟨ss,hcr,hpl,hsh⟩:=v0m n t fuel _ _ hp hf
  have p0R:v.cells= #[v]->(∀ss,e0x P n t d ss-> ∃s,ss=[s])->(∀s,e0x P n t d [s]->l0p P n t d s)-> ∃s,Rep w (KW w) (λ_=>none) v s/\l0p P n t d s:=by
    intro hc h1 h2;obtain⟨s,rfl⟩:=h1 ss hsh;exact⟨s,hcr.rep 0 v s (by rw[hc];rfl) rfl,h2 s hsh⟩
  cases n with
  |zero=>simp[n0d]at hp
  |succ n=>
    have hp':=hp;unfold n0d at hp;split at hp;rename_i hu;obtain⟨b,rfl⟩:=okWide_bool hu hval;refine p0R rfl (λss h=> ?_) (λs h=>by unfold l0p;rw[hu];exact h);unfold e0x at h;rw[hu]at h;obtain⟨b,_,rfl⟩:=h;exact⟨_,rfl⟩;rename_i k hu;obtain⟨b,rfl⟩:=okWide_int hu hval;refine p0R rfl (λss h=> ?_) (λs h=>by unfold l0p;rw[hu];exact h);unfold e0x at h;rw[hu]at h;obtain⟨b,_,rfl,_⟩:=h;exact⟨_,rfl⟩;rename_i hu;obtain⟨b,rfl⟩:=okWide_string hu hval;refine p0R rfl (λss h=> ?_) (λs h=>by unfold l0p;rw[hu];exact h);unfold e0x at h;rw[hu]at h;obtain⟨b,_,rfl⟩:=h;exact⟨_,rfl⟩;rename_i e hu;obtain⟨a,len,cap,rfl⟩:=okWide_slice hu hval;refine p0R rfl (λss h=> ?_) (λs h=>by unfold l0p;rw[hu];exact h);unfold e0x at h;rw[hu]at h;rcases h with⟨_,rfl⟩|⟨_,_,_,_,rfl,_⟩;exact⟨_,rfl⟩;exact⟨_,rfl⟩;rename_i fs hu;unfold Value.okWide at hval;rw[hu]at hval;obtain⟨cs,rfl,_,_⟩:=hval;refine⟨.agg ss, ?_,by unfold l0p;rw[hu];exact⟨ss,rfl,hsh⟩⟩;have:=Rep.agg _ _ hcr.len hcr.one hcr.rep;simpa [Value.cells]using this;rename_i m e hu;unfold Value.okWide at hval;rw[hu]at hval;obtain⟨cs,rfl,_,_⟩:=hval;refine⟨.agg ss, ?_,by unfold l0p;rw[hu];exact⟨ss,rfl,hsh⟩⟩;have:=Rep.agg _ _ hcr.len hcr.one hcr.rep;simpa [Value.cells]using this;cases hp
theorem C0i{r:Reach}{b0:Nat}: ∀(ts:List TypeId) (vs:List Value) (ds:List<|DataW H) (ps:List MemPlace),(∀t∈ts,n0d P n t=jB)->
    (∀(j:Nat) t v,ts[j]?=vA t->vs[j]?=vA v->Value.okWide P w r b0 t v)->DataW.TrodAll enc P w 0 (λ_=>jB) jB ts vs ds ps->
    ∃ss:List SV,ss.length=vs.length/\ds.length=ts.length/\ss.length=ts.length/\(∀(j:Nat) x c,vs[j]?=vA x->ss[j]?=vA c->Rep w (KW w) (λ_=>none) x c)/\
      (∀(j:Nat) t d s,ts[j]?=vA t->ds[j]?=vA d->ss[j]?=vA s->l0p P n t d s):=by
  intro ts
  induction ts with
  |nil=>
    intro vs ds ps _ _ h;cases vs<;>cases ds<;>first|exact⟨[],rfl,rfl,rfl,λj x c e=>by simp at e,λj t d s e=>by simp at e⟩|exact h.elim
  |cons t ts ih=>
    intro vs ds ps hp hv h
    cases vs with
    |nil=>cases ds<;>exact h.elim
    |cons v vs=>
      cases ds with
      |nil=>exact h.elim
      |cons d ds=>
        obtain⟨p,q,h1,h2,_⟩:=h;obtain⟨s,hr,hs⟩:=D0h (hp t<|aB ..) (hv 0 t v rfl rfl) h1;obtain⟨ss,i1,i2,i3,i4,i5⟩:=ih vs ds q (λt ht=>hp t<|aq _ ht) (λj t v ht hvv=>hv (j+1) t v (by simpa using ht)<|by simpa using hvv) h2;refine⟨s::ss,by simp[i1],by simp[i2],by simp[i3],λj x c hx hc=> ?_,λj t' d' s' ht hd hs'=> ?_⟩
        cases j with
        |zero=>simp at hx hc;subst hx;subst hc;exact hr
        |succ j=>exact i4 j x c (by simpa using hx) (by simpa using hc)
        cases j with
        |zero=>simp at ht hd hs';subst ht;subst hd;subst hs';exact hs
        |succ j=>exact i5 j t' d' s' (by simpa using ht) (by simpa using hd) (by simpa using hs')
theorem H0s:HInv w (KW w) (λ_=>none) []:=
  ⟨λ_ _=>rfl,λi en h=>by simp at h,λi j en en' b c n c' n' h=>by simp at h,O0H w⟩
theorem not_mem_nil{D:DM}{b:Nat}: ¬Mem D [] b:=fun⟨i,en,c,n,h,_⟩=>by simp at h
theorem E0z{vals:List Value}{ss:List SV}(hl:ss.length=vals.length)(hr: ∀(j:Nat) x c,vals[j]?=vA x->ss[j]?=vA c->Rep w (KW w) (λ_=>none) x c)(h:SC P f ss [] (.bool jB) H')(hG:m0p w (KW w) λ_=>none):
    Calls P f vals.toArray w λe w'=>e= .returned (.bool jB)/\Below w.heap.size w w':=by
  refine(h.2 w (KW w) (λ_=>none) vals hl.symm hr H0s hG).mono ?_;rintro e w' ⟨r,rfl,K',D',g,_,hrep⟩;cases hrep;exact⟨rfl,g.os,g.tape,g.output,g.size,λk hk=>g.block k hk not_mem_nil⟩
theorem v0c{W W':World}(hl:laidOutB P=jB)(hb:Below W.heap.size W W'): ∀(ts:List TypeId) (vs:List Value) (ds:List<|DataW H) (ps:List MemPlace),(∀t∈ts,P.readableRec t=jB/\t<P.types.size)->
    DataW.TrodAll enc P W 0 (λ_=>jB) jB ts vs ds ps->(∀x∈ps,x.block<W.heap.size)->DataW.TrodAll enc P W' 0 (λb=>yA<|b<W.heap.size) jB ts vs ds ps:=by
  intro ts
  induction ts with
  |nil=>intro vs ds ps _ h _;cases vs<;>cases ds<;>first|exact h|exact h.elim
  |cons t ts ih=>
    intro vs ds ps ht h hps
    cases vs with
    |nil=>cases ds<;>exact h.elim
    |cons v vs=>
      cases ds with
      |nil=>exact h.elim
      |cons d ds=>
        obtain⟨p,q,h1,h2,rfl⟩:=h;obtain⟨r1,r2⟩:=ht t<|aB ..;exact⟨p,q,Below.trod hl r1 r2 h1 hb λx hx=>hps x<|av.2<|.inl hx,ih vs ds q (λt hm=>ht t<|aq _ hm) h2 λx hx=>hps x<|av.2<|.inr hx,rfl⟩
theorem H0m{fn:Func}{s:ChangeSpec}{tb:TypeId}(hl:laidOutB P=jB)(htb:P.underlying tb=vA .bool)(hrt:fn.resultTypes= #[tb])(hv:s.vars=[])
    (hplain:fn.params.toList.all (λt=>n0d P n t&&P.readableRec t&&yA (t<P.types.size))=jB)
    {W:World} {args:Array Value} {ds gs:List (DataW H)} {before:List MemPlace}
    (hspec:ds.length=fn.params.toList.length->(s.fn H ds).results=[.lit<|.bool jB]/\(s.fn H ds).args=ds/\(s.fn H ds).vars=[])
    (hval: ∀(j:Nat) t v,fn.params[j]?=vA t->args[j]?=vA v->Value.okWide P W .any base t v)
    (hW:DataW.Whole enc P fn.params.toList s.vars oA W args.toList ds gs before)
    (main: ∀ss:List SV,gs=[]->ds.length=fn.params.toList.length->ss.length=fn.params.toList.length->(∀(j:Nat) t d x,fn.params.toList[j]?=vA t->ds[j]?=vA d->ss[j]?=vA x->l0p P n t d x)-> ∃H',SC P f ss [] (.bool jB) H') (hG:m0p W (KW W) λ_=>none):
    Calls P f args W λe W'=> ∃v,e= .returned v/\s.post enc P fn oA jB oA oA W args v W':=by
  have hW':=hW;obtain⟨p,q,hA,hV,rfl,_,_⟩:=hW;rw[hv]at hV;obtain⟨rfl,rfl⟩:=trodVars_none hV;simp only[wD,aa,decide_eq_true_eq]at hplain;obtain⟨ss,l1,l2,l3,hr,hs⟩:=C0i (P:=P) (w:=W) (n:=n) fn.params.toList args.toList ds p (λt ht=>(hplain t ht).1.1) (λj t v ht hvv=>hval j t v (by simpa using ht)<|by simpa using hvv) hA;obtain⟨H',hm⟩:=main ss rfl l2 l3 hs;have hc:=E0z (P:=P) (f:=f) l1 hr hm hG;have ha:args.toList.toArray=args:=by simp
  rw[ha]at hc;refine hc.mono λe W' ⟨he,hb⟩=> ?_
  obtain⟨e1,e2,e3⟩:=hspec l2;refine⟨_,he,ds,[],_,[],p++ [],[],hW', ?_, ?_, ?_,hb.frame _,λh=>by cases h⟩;rw[bO,e1,hrt];exact trodAll_mk1<|shut_bool htb _;rw[bO,e2,bO];exact v0c hl hb _ _ _ _ (λt ht=>⟨(hplain t ht).1.2,(hplain t ht).2⟩) hA (λx hx=>by have:=hW'.lt x (by simpa using hx);simpa using this);rw[bO,e3,hv];rfl
end
/-! Loops. -/
section
variable {S O : Type}{step : S -> Option (S ⊕ O)}
def g0W{s s':S}(h:step s=vA (.inl s')):a0m step (n+1) s=a0m step n s':=by
  simp only[a0m,h]
def j0Z{s:S}{o:O}(h:step s=vA (.inr o)):a0m step (n+1) s=vA o:=by
  simp only[a0m,h]
theorem x0G(I:S->Prop)(g:S->Nat)(post:O->Prop)(hs: ∀s,I s->(∃s',step s=vA (.inl s')/\I s'/\g s'<g s)\/(∃o,step s=vA (.inr o)/\post o)):
    ∀(n:Nat) (s:S),I s->g s<n-> ∃o,a0m step n s=vA o/\post o:=by
  intro n
  induction n with
  |zero=>intro s _ h;omega
  |succ n ih=>
    intro s hi hg;rcases hs s hi with⟨s',h1,h2,h3⟩|⟨o,h1,h2⟩;rw[g0W h1];exact ih s' h2 dA;exact⟨o,j0Z h1,h2⟩
end
def F0x(h:n<18446744073709551616):n<big:=h
def w64{n:Int}(h1: -9223372036854775808<=n)(h2:n<=9223372036854775807):IntKind.i64.wrap n=n:=by
  unfold wA;simp only[oG,yH,cw,cG,aF,if_false,decide_eq_true_eq]
  first|omega|(split<;>rename_i hc<;>simp at hc<;>omega)
def w8{n:Int}(h1:0<=n)(h2:n<=255):IntKind.u8.wrap n=n:=by
  unfold wA;simp only[oG,yH,cw,cG,aF,if_false,decide_eq_true_eq]
  first|omega|(split<;>rename_i hc<;>simp at hc<;>omega)
def k0c(h:i<n):inR (i:Int) n=true:=f0d.2 ⟨dA,dA⟩
def a0c{i:Int}(h1:0<=i)(h:i<n):inR i n=true:=f0d.2 ⟨h1,h⟩
def p0q[Inhabited T]{xs:List T}(h:i<xs.length):nth xs (i:Int)=xs[i]:=by
  unfold nth;rw[bG,am,af h];rfl
def G0F(h:n<=140737488400000):o0u n=true:=by simp[o0u,co,h]
def a0f(h:n<=4294967296):room n=true:=by simp[room,co,h]
def l0i(h1:0<=l)(h2:l<=h)(h3:h<=n):inS l h n=true:=n0s.2 ⟨h1,h2,h3⟩
def M0i{c:Int}(h1:0<=l)(h2:l<=c)(h3:c<=4294967296):mk l c=true:=I0k.2 ⟨h1,h2,h3⟩
def dT{p:Prop}[Decidable p](h:p):yA p=true:=decide_eq_true h
def dF{p:Prop}[Decidable p](h: ¬p):yA p=false:=decide_eq_false h
def C0V{xs ys:List T}(h1:i<xs.length)(h2:i<ys.length)(ht:xs.take i=ys.take i)(he:xs[i]=ys[i]):xs.take (i+1)=ys.take (i+1):=by
  rw[bZ h1,bZ h2,ht,he]
def G0j{xs ys:List T}(h1:xs.length<=i)(h2:ys.length<=i)(ht:xs.take i=ys.take i):xs=ys:=by
  rwa [aX h1,aX h2]at ht
theorem D0m[Inhabited T][DecidableEq T]{xs ys:List T}(hl:xs.length=ys.length)(hb:xs.length<=4611686018427387904):
    a0m (λs:Int=>bif(yA<|s<(xs.length:Int))then(bif inR s xs.length then(bif inR s ys.length then(bif(yA<|¬(nth xs s)=(nth ys s))then(vA<|.inr<|.inr oA)else vA<|.inl<|wA .i64<|s+1)else none)else none)else vA<|.inr<|.inl ()) big 0=vA (if xs=ys then(.inl ():Unit⊕Bool)else .inr oA):=by
  obtain⟨o,h1,h2⟩:=x0G (step:=λs:Int=>(bif(yA<|s<(xs.length:Int))then(bif inR s xs.length then(bif inR s ys.length then(bif(yA<|¬(nth xs s)=(nth ys s))then(vA<|.inr<|.inr oA)else vA<|.inl<|wA .i64<|s+1)else none)else none)else(vA<|.inr<|.inl ()):Option<|Int⊕(Unit⊕Bool)))
    (λs=> ∃i:Nat,s=i/\i<=xs.length/\xs.take i=ys.take i) (λs=>xs.length-s.toNat) (λo=>o=if xs=ys then .inl ()else .inr oA) (λs hs=>by
      obtain⟨i,rfl,hi,ht⟩:=hs;rcases bK i xs.length with h|h;have hy:i<ys.length:=by omega
      rw[dT (show(i:Int)<xs.length by omega),k0c h,k0c hy,p0q h,p0q hy,w64 dA dA];by_cases he:xs[i]=ys[i];refine .inl ⟨(i:Int)+1, ?_,⟨i+1,dA,dA,C0V h hy ht he⟩,dA⟩;rw[dF<|by simpa using he];rfl;refine .inr ⟨.inr oA,by rw[dT he];rfl, ?_⟩;rw[yB];rintro rfl;exact he rfl;refine .inr ⟨.inl (),by rw[dF dA];rfl, ?_⟩
      rw[vB<|G0j h dA ht]) big 0 ⟨0,rfl,dA,dE⟩ (F0x dA)
  subst h2;exact h1
/-! Parameters. -/
section
open Go.ChangeShapes Go.WideShapes Go.ChangeAt
variable {P : Program}{H : Type}
def s0o(P:Program){H:Type}(t:TypeId)(d:DataW H):Prop:= ∀n∈d.weights P t,n<=reachBytes
theorem y0H{ts:List TypeId}{ds:List (DataW H)}(h:(DataW.weightsEach P ts ds).all (· <=reachBytes)=jB){j:Nat}{d:DataW H}(ht:ts[j]?=vA t)(hd:ds[j]?=vA d):s0o P t d:=
  λn hn=>by
    have:=List.all_eq_true.1 h _<|DataW.weights_mem_each ht hd n hn;simpa using this
def k0I{e:TypeId}{n:Nat}: ∀(l:List<|DataW H) (y:DataW H),y∈l->n∈y.weights P e->n∈DataW.weightsAll P e l
  | [],y,h,_=>by cases h
  |x::l,y,h,hn=>by
    simp only[DataW.weightsAll,av];rcases aY.1 h with rfl|h;exact .inl hn;exact .inr<|k0I l y h hn
theorem G0r{e:TypeId}{elems rest:List (DataW H)}(hu:P.underlying t=vA (.slice e))(h:s0o P t<|.slice elems rest){y:DataW H}(hy:y∈elems):s0o P e y:=λn hn=>by
  refine h n ?_;simp only[DataW.weights,hu,aY,av];exact .inr<|.inl<|k0I elems y hy hn
def D0f{e:TypeId}{elems rest:List (DataW H)}(hu:P.underlying t=vA (.slice e))(hb:0<P.bytesOf e)(h:s0o P t<|.slice elems rest):elems.length<=140737488355328:=by
  have h1:=h ((elems.length+rest.length)*P.bytesOf e) (by simp[DataW.weights,hu]);have h2:=reachBytes_lt;have h3:elems.length<=(elems.length+rest.length)*P.bytesOf e:=aH (Nat.le_add_right _ _)<|Nat.le_mul_of_pos_right _ hb;omega
theorem B0j{parts:List (DataW H)}(hu:P.underlying t=vA (.struct fs))(h:s0o P t<|.agg parts){f:Field}{p:DataW H}(hf:fs[i]?=vA f)(hp:parts[i]?=vA p):s0o P f.type p:=λn hn=>by
  refine h n ?_;simp only[DataW.weights,hu];exact DataW.weights_mem_each (j:=i) (by simp[hf]) hp n hn
def q0Q(P:Program)(n:Nat)(t:TypeId)(enc:T->List SV)(Wf:T->Prop):Prop:= ∀ {H:Type} (d:DataW H) (cs:List SV),e0x P n t d cs->s0o P t d-> ∃x:T,cs=enc x/\Wf x
def WfL(Wf:T->Prop)(zs:List T):Prop:=zs.length<=140737488355328/\ ∀z∈zs,Wf z
def WfI(k:IntKind)(z:Int):Prop:=(Lit.int k z).wf=jB
def WfB(_:Bool):Prop:=True
def WfT(s:List UInt8):Prop:=s.length<=140737488355328
theorem c0t{k:IntKind}(hu:P.underlying t=vA (.int k)):q0Q P (n+1) t (a0l k) (WfI k):=λd cs h _=>by
  unfold e0x at h;rw[hu]at h;obtain⟨z,_,h2,hw⟩:=h;exact⟨z,h2,hw⟩
theorem n0V(hu:P.underlying t=vA .bool):q0Q P (n+1) t H0C WfB:=λd cs h _=>by
  unfold e0x at h;rw[hu]at h;obtain⟨z,_,h2⟩:=h;exact⟨z,h2,trivial⟩
theorem g0m(hu:P.underlying t=vA .string):q0Q P (n+1) t t0X WfT:=λd cs h hs=>by
  unfold e0x at h;rw[hu]at h;obtain⟨z,h1,h2⟩:=h;subst h1;refine⟨z,h2, ?_⟩;have h3:=hs z.length (by simp[DataW.weights]);have h4:=reachBytes_lt;unfold WfT;omega
theorem k0T{enc:T->List SV}{Wf:T->Prop}{e:TypeId}(hu:P.underlying t=vA (.slice e))(hc:P.cellsOf e=k)(hb:oD 0 (P.bytesOf e)=jB)(hel:q0Q P n e enc Wf):
    q0Q P (n+1) t (k0o enc k) (WfL Wf):=λ{H} d cs h hs=>by
  unfold e0x at h;rw[hu]at h;simp only at h;rcases h with⟨rfl,h2⟩|⟨elems,rest,xs,rfl,h2,hl,hx,hall⟩;exact⟨[],by rw[h2,hc];rfl,dE,λz hz=>by cases hz⟩;rw[hc]at h2;have hlen:=D0f hu (by simpa [de]using hb) hs
  have key: ∀(xs:List<|List SV) (elems:List<|DataW H),(∀y∈elems,s0o P e y)->xs.length=elems.length->(∀(i:Nat) y x,elems[i]?=vA y->xs[i]?=vA x->e0x P n e y x)-> ∃zs:List T,xs.flatten=zs.flatMap enc/\(∀z∈zs,Wf z)/\elems.length=zs.length:=by
    intro xs
    induction xs with
    |nil=>intro elems _ hl _;exact⟨[],rfl,λz hz=>(by cases hz),by simpa using hl.symm⟩
    |cons x xs ih=>
      intro elems hsz hl h
      cases elems with
      |nil=>simp at hl
      |cons y elems=>
        obtain⟨zs,e1,e2,e3⟩:=ih elems (λy hy=>hsz y<|aq _ hy) (by simpa using hl) (λi y x hy hx=>h (i+1) y x (by simpa using hy)<|by simpa using hx);obtain⟨z,rfl,hw⟩:=hel y x (h 0 y x rfl rfl)<|hsz y<|aB ..;refine⟨z::zs,by simp[e1],λz' hz'=> ?_,by simp[e3]⟩;rcases aY.1 hz' with rfl|hm;exact hw;exact e2 _ hm
  obtain⟨zs,e1,e2,e3⟩:=key xs elems (λy hy=>G0r hu hs hy) hl hall;exact⟨zs,by rw[h2,e1];unfold k0o;rw[hl,e3],dA,e2⟩
def v0n{d:DataW H}(hu:P.underlying t=vA (.struct fs))(h:l0p P n t d s): ∃cs,s= .agg cs/\e0x P n t d cs:=by
  unfold l0p at h;rw[hu]at h;exact h
def a0q{d:DataW H}(hu:P.underlying t=vA (.struct fs))(h:e0x P (n+1) t d cs)(hs:s0o P t d)(i:Nat)(ty:TypeId)(cs':List SV)
    (hf:(fs[i]?).map (λf=>(f.type,(cs.drop f.offset).take<|P.cellsOf f.type))=vA (ty,cs')): ∃p:DataW H,e0x P n ty p cs'/\s0o P ty p:=by
  unfold e0x at h;rw[hu]at h;obtain⟨_,parts,rfl,hl,hall⟩:=h
  cases hfi:fs[i]? with
  |none=>rw[hfi]at hf;cases hf
  |some f=>
    rw[hfi]at hf;simp only[aZ,aj,aG]at hf;obtain⟨rfl,rfl⟩:=hf;have hi:=(al.1 hfi).1;have hi':i<parts.length:=by omega
    exact⟨parts[i],hall i f _ hfi<|af hi',B0j hu hs hfi<|af hi'⟩
def i0z{d:DataW H}(hu:P.underlying t=vA (.struct fs))(h:e0x P (n+1) t d cs):cs.length=P.cellsOf t:=by
  unfold e0x at h;rw[hu]at h;exact h.1
def n0Y{m:Nat}{e:TypeId}{d:DataW H}(hu:P.underlying t=vA (.array m e))(h:e0x P (n+1) t d cs)(hs:s0o P t d)(i:Nat)(cs':List SV)(hi:oD i m=jB)
    (hf:(cs.drop<|i*P.cellsOf e).take (P.cellsOf e)=cs'): ∃p:DataW H,e0x P n e p cs'/\s0o P e p:=by
  unfold e0x at h;rw[hu]at h;obtain⟨_,parts,rfl,hl,hall⟩:=h;have hi':i<parts.length:=by rw[hl];simpa [de]using hi
  refine⟨parts[i],by rw[<-hf];exact hall i _<|af hi',λn hn=>hs n ?_⟩;simp only[DataW.weights,hu];exact k0I parts _ (cK hi') hn
def B0k{m:Nat}{e:TypeId}{d:DataW H}(hu:P.underlying t=vA (.array m e))(h:e0x P (n+1) t d cs):cs.length=P.cellsOf t:=by
  unfold e0x at h;rw[hu]at h;exact h.1
end
def l1{l:List α}(h:l.length=1): ∃a,l=[a]:=by
  match l,h with
  | [a],_=>exact⟨a,rfl⟩
def l2{l:List α}(h:l.length=2): ∃a b,l=[a,b]:=by
  match l,h with
  | [a,b],_=>exact⟨a,b,rfl⟩
def l3{l:List α}(h:l.length=3): ∃a b c,l=[a,b,c]:=by
  match l,h with
  | [a,b,c],_=>exact⟨a,b,c,rfl⟩
def m0g[DecidableEq α](x y:Option α):Option α:=if x=y then y else none
def N0j[DecidableEq α]{e:Bool}{x y:Option α}{r:α}(he:e=jB)(h:(bif e then m0g x y else y)=vA r):x=vA r:=by
  subst he;simp only[wC,m0g]at h;split at h;rename_i hxy;rw[hxy];exact h;cases h
def N0k[DecidableEq α]{e:Bool}{x y:Option α}{r:α}(h:(bif e then m0g x y else y)=vA r):y=vA r:=by
  cases e with
  |false=>exact h
  |true=>
    simp only[wC,m0g]at h;split at h;exact h;cases h
/-! A map is asked for a key that isn't known. -/
def D0n(k key:SV)(b:Bool):Bool:=match k0K k key with
  |some x=>x==b
  |none=>oA
def M0C(k:SV):List (SV×SV)->Nat->Bool
  | [],_=>oA
  |e::_,0=>D0n k e.1 jB
  |e::r,j+1=>D0n k e.1 oA&&M0C k r j
def H0e(k:SV):List (SV×SV)->Bool
  | []=>jB
  |e::r=>D0n k e.1 oA&&H0e k r
theorem q0X{k key:SV}(h:D0n k key b=jB):k0K k key=vA b:=by
  unfold D0n at h;split at h;rename_i x hx;simp at h;subst h;exact hx;cases h
def A0E{k:SV}: ∀(es:List<|SV×SV) (j:Nat) {e:SV×SV},es[j]?=vA e->M0C k es j=jB->g0L es k=vA (vA e.2)
  | [],j,e,h,_=>by simp at h
  |x::es,0,e,h,hc=>by
    simp only[cv,aj]at h;subst h;simp only[M0C]at hc;simp only[g0L,q0X hc]
  |x::es,j+1,e,h,hc=>by
    simp only[M0C,aa]at hc;simp only[g0L,q0X hc.1];exact A0E es j (by simpa using h) hc.2
def x0x{k:SV}: ∀(es:List<|SV×SV),H0e k es=jB->g0L es k=vA none
  | [],_=>rfl
  |x::es,hc=>by
    simp only[H0e,aa]at hc;simp only[g0L,q0X hc.1];exact x0x es hc.2
def J0S(P:Program)(o:Oper)(ρ:Env)(H:a0e)(j:Option Nat):Option (Eff×Bool):=
  match o.op with
  | .lookup t m k ok=>match P.underlying t,a0B ρ m,a0B ρ k with
    |some (.map kt et),vA (.mp i),vA sk=>match H[i]? with
      |some (.map es)=>if t0C P kt sk=jB then(match j with
        |some j=>match es[j]? with
          |some e=>vA (⟨m0f ok e.2 jB,[i],[]⟩,M0C sk es j)
          |none=>none
        |none=>match A0Z P et with
          |some z=>vA (⟨m0f ok z oA,[i],[]⟩,H0e sk es)
          |none=>none)else none
      |_=>none
    |_,_,_=>none
  |_=>none
def z0i{P:Program}{k:SV}(h:t0C P kt k=jB):t0D P kt k=jB/\p0u P kt es k=g0L es k:=by
  cases k<;>first|exact⟨h,rfl⟩|(exfalso;unfold t0C at h;split at h<;>simp_all)
theorem z0h{P:Program}{H:a0e}{idx:Nat}{j:Option Nat}(h:J0S P o ρ H j=vA (ef,b))(hb:b=jB):a0D P o ρ H idx=vA ef:=by
  unfold J0S at h;split at h;rename_i t m k ok ho;split at h;rename_i kt et i sk hu hm hk;split at h;rename_i es hH;split at h;rename_i hkey
  have fin:k0O P t (a0B ρ m) (a0B ρ k) ok H=vA ef->a0D P o ρ H idx=vA ef:=by
    intro hl;unfold a0D a0k a0o;simp only[ho];exact hl
  refine fin ?_;unfold k0O;rw[hu,hm,hk];simp only[hH];obtain⟨hk1,hk2⟩:=z0i (es:=es) hkey;rw[vB hk1,hk2];split at h;rename_i j;split at h;rename_i e he;cases h;rw[A0E es j he hb];cases h;split at h;rename_i z hz;cases h;rw[x0x es hb,hz];cases h;cases h;cases h;cases h;cases h
section
variable {F : Fr}{P : Program}{L : LE}{H : a0e}{Q : g0c}{m : Option Nat}{ops : Array Oper}{p : Nat}{tr : List (List Nat × List Nat)}
def E0p(P:Program)(m:Option Nat)(ops:Array Oper)(p:Nat)(tr:List<|List Nat×List Nat)(L:LE)(H:a0e)(j:Option Nat):Option (Option Nat×Eff×Bool×List (List Nat×List Nat)):=
  match ops.toList[p]? with
  |none=>none
  |some o=>match a0X ops (a0p L) o with
    |some jB=>bif b0R o then none else match J0S P o (a0p L) H j with
      |some (ef,c)=>bif okM m ops p o ef tr H then vA (o.dst,ef,c,trM m ops p o ef tr)else none
      |none=>none
    |_=>none
theorem RJ.look(j:Option Nat){c:Bool}(h:E0p P m ops p tr L H j=vA (d,ef,c,tr2))(hc:c=jB)(k:RJ F P m ops (p+1) tr2 (g0g L d ef.v) (b0a H ef.wr) Q):RJ F P m ops p tr L H Q:=by
  unfold E0p at h;split at h;cases h;rename_i o ho;split at h;rename_i hg
  cases hcc:b0R o with
  |true=>rw[hcc]at h;cases h
  |false=>
    rw[hcc]at h;simp only[vD]at h;split at h;rename_i ef2 c2 he
    cases hok:okM m ops p o ef2 tr H with
    |false=>rw[hok]at h;cases h
    |true=>
      rw[hok]at h;simp only[wC,aj,aG]at h;obtain⟨rfl,rfl,rfl,rfl⟩:=h;exact RJ.step ho hg hcc (z0h he hc) hok k
    cases h
  cases h
end
section
variable {F : Fr}{P : Program}{L : LE}{H : a0e}{Q : g0c}{ops : Array Oper}{p : Nat}{tr : List (List Nat × List Nat)}
def k0B(P:Program)(t:TypeId):Bool:=match P.underlying t with
  |some (.slice _)=>jB
  |_=>oA
def A0D:Operand->Bool
  | .const (.slice none 0 0)=>jB
  |_=>oA
def J0I(P:Program)(ops:Array Oper)(p:Nat)(L:LE):Option (Nat×Nat×Bool):=
  match ops.toList[p]? with
  |none=>none
  |some o=>match a0X ops (a0p L) o,o.dst,o.op with
    |some jB,vA d, .binOp op t x y _=>match a0B (a0p L) x with
      |some (.lst n _ _)=>bif k0B P t&&A0D y then(match op with
        | .eql=>vA (d,n,jB)
        | .neq=>vA (d,n,oA)
        |_=>none)else none
      |_=>none
    |_,_,_=>none
theorem w0W{ad:Option Addr}{c:Nat}(ht:k0B P t=jB):(do eqGuard .eql t x y (.slice ad n c) (.slice none 0 0);binOp .eql t (.slice ad n c) (.slice none 0 0):Sem Value).run P w= .ok (.bool ad.isNone) w:=by
  unfold k0B at ht;split at ht;rename_i e hu;rw[p0c _ _<|by rfl];simp only[binOp,zD,run_equal_slice_nil w t e ad n c hu,vC,vE];cases ht
theorem u0w{ad:Option Addr}{c:Nat}(ht:k0B P t=jB):(do eqGuard .neq t x y (.slice ad n c) (.slice none 0 0);binOp .neq t (.slice ad n c) (.slice none 0 0):Sem Value).run P w= .ok (.bool !ad.isNone) w:=by
  unfold k0B at ht;split at ht;rename_i e hu;rw[p0c _ _<|by rfl];simp only[binOp,zD,run_equal_slice_nil w t e ad n c hu,vC,vE];cases ht
theorem RJ.isNil{d:Nat}{eq:Bool}(h:J0I P ops p L=vA (d,n,eq))(k: ∀b:Bool,(b=jB->n=0)->RJ F P none ops (p+1) tr ((d, .bool<|bif eq then b else !b)::L) H Q):RJ F P none ops p tr L H Q:=by
  unfold J0I at h;split at h
  cases h
  · rename_i o ho
    split at h
    · rename_i d2 op t x y u hg hd ho2
      split at h
      · rename_i n2 k2 cs hx
        cases hty:(k0B P t&&A0D y)with
        |false=>rw[hty]at h;cases h
        |true=>
          rw[hty]at h;simp only[aa]at hty;obtain⟨ht,hy⟩:=hty;intro hin a w hs;have hbo:Oper.inB F.n ops o=true:=List.all_eq_true.1 hin o<|o0S ho;obtain⟨hdf,K,D,hi⟩:=hs;rw[e0g ho];refine wpList_step λKK hKK=> ?_
          rw[b0x hi.slots (Oper.inB_guard hbo) hg,vB rfl]
          have hxb:Operand.inB F.n x=true:=by
            have h1:=Oper.inB_op hbo;unfold Op.inB at h1;rw[aT]at h1;exact h1 x (by simp[ho2,wB])
          have hr:=a0i hi.slots hxb hx
          have hyv:a.eval y= .slice none 0 0:=by
            cases y with
            |const v=>cases v<;>first|(cases hy;done)|(rename_i a1 b1 c1;cases a1<;>first|(cases hy;done)|(cases b1<;>first|(cases hy;done)|(cases c1<;>first|(cases hy;done)|rfl)))
            |_=>cases hy
          have hv: ∃ad c,a.eval x= .slice ad n2 c/\(ad.isNone=jB->n2=0):=by
            generalize a.eval x=v at hr
            cases hr with
            |emp k a cap=>exact⟨a,cap,rfl,λ_=>rfl⟩
            |lst k b off len cap vs cs hk hl hc hcap hm hK h1 hp hh=>exact⟨_,_,rfl,λh=>by cases h⟩
          obtain⟨ad,c,hv,hnn⟩:=hv
          have fin: ∀(b:Bool),(execOp a.eval o).run P w= .ok (.value<|.bool b) w->(d2,n2,eq)=(d,n,eq)->(∃b0:Bool,b=(bif eq then b0 else !b0)/\(b0=jB->n=0))->Oper.wp P o a w KK Q:=by
            rintro b hrun hdn ⟨b0,rfl,hb0⟩;simp only[aG,and_true]at hdn;obtain⟨rfl,rfl⟩:=hdn;unfold Oper.wp;rw[hrun];refine hKK _ _ (k b0 hb0 hin _ w ⟨by rw[a0L];exact hdf,K,D, ?_,hi.hinv,hi.grow⟩);have h9:=hi.slots.put (vA d2) (s:= .bool<|bif eq then b0 else !b0)<|.bool _;rw[b0b]at h9;rw[hd];exact h9
          have hex:execOp a.eval o=(do pure (Next.value<|<-(do eqGuard op t x y (a.eval x) (a.eval y);binOp op t (a.eval x) (a.eval y):Sem Value))):=by unfold execOp;rw[ho2]
          simp only[wC]at h;split at h;cases h;refine fin ad.isNone ?_ rfl ⟨ad.isNone,rfl,hnn⟩;rw[hex,hv,hyv];exact b0k<|w0W ht;cases h;refine fin (!ad.isNone) ?_ rfl ⟨ad.isNone,rfl,hnn⟩;rw[hex,hv,hyv];exact b0k<|u0w ht;cases h
      cases h
    cases h
end
section
variable {F : Fr}{P : Program}{m : Option Nat}{L : LE}{H : a0e}{Q : g0c}{ops : Array Oper}{p : Nat}{tr : List (List Nat × List Nat)}
theorem RJ.pin(t:Nat){kd:IntKind}{c:Int}(ht:lk L t= .int kd j)(hj:j=c)(h:RJ F P m ops p tr ((t, .int kd c)::L) H Q):RJ F P m ops p tr L H Q:=by
  subst hj
  have he:a0p ((t, .int kd j)::L)=a0p L:=by
    funext i;show lk ((t, .int kd j)::L) i=lk L i;simp only[lk]
    cases hb:oB i t with
    |false=>rfl
    |true=>
      have:=ae hb;subst this;rw[ht];rfl
  cases m with
  |none=>
    intro hall a w hs;exact h hall a w (by unfold Sees at hs⊢;rw[he];exact hs)
  |some base=>
    intro hl;have:=h hl;rw[he]at this;exact this
end
/-! Maps whose entries are a list of natives. -/
def r0n{K:Type}(ek:K->SV)(ev:V->SV)(ms:List<|K×V):List (SV×SV):=ms.map λp=>(ek p.1,ev p.2)
def i0W{K V:Type}(eq:K->K->Bool):List (K×V)->K->Option V
  | [],_=>none
  |p::r,k=>bif eq k p.1 then vA p.2 else i0W eq r k
def D0x{K:Type}{ek:K->SV}{ev:V->SV}(h1: ∀f a,SV.rn f (ek a)=ek a)(h2: ∀f b,SV.rn f (ev b)=ev b)(f:Nat->Nat)(ms:List<|K×V):Ent.rn f (.map<|r0n ek ev ms)= .map (r0n ek ev ms):=by
  simp only[Ent.rn,r0n,ci];congr 1;exact bH λp _=>by simp[h1,h2]
def x0g{K:Type}{ek:K->SV}{ev:V->SV}(h1: ∀m a,SV.refs m (ek a)=jB)(h2: ∀m b,SV.refs m (ev b)=jB)(m:Nat)(ms:List<|K×V):Ent.refs m (.map<|r0n ek ev ms)=true:=by
  simp[Ent.refs,r0n,h1,h2]
def u0N{P:Program}{kt:TypeId}{K V:Type}{ek:K->SV}{ev:V->SV}{eq:K->K->Bool}(heq: ∀a b,eqS P 9 kt (ek a) (ek b)=vA (eq a b))(x:K): ∀ms:List (K×V),m0z P kt (ek x) (r0n ek ev ms)=vA ((i0W eq ms x).map ev)
  | []=>rfl
  |p::ms=>by
    have ih:=u0N (ev:=ev) heq x ms;simp only[r0n,ao,m0z,heq,i0W]at ih⊢
    cases eq x p.1 with
    |true=>rfl
    |false=>exact ih
section
variable {F : Fr}{P : Program}{m : Option Nat}{L : LE}{H : a0e}{Q : g0c}{ops : Array Oper}{p : Nat}{tr : List (List Nat × List Nat)}
def E0n(P:Program)(o:Oper)(ρ:Env)(H:a0e):Option (TypeId×Nat×List (SV×SV)×List SV×SV×Bool):=
  match o.op with
  | .lookup t m k ok=>match P.underlying t,a0B ρ m,a0B ρ k with
    |some (.map kt et),vA (.mp i),vA (.agg cs)=>match H[i]?,A0Z P et with
      |some (.map es),vA z=>if t0D P kt (.agg cs)=jB then vA (kt,i,es,cs,z,ok)else none
      |_,_=>none
    |_,_,_=>none
  |_=>none
theorem x0I{idx:Nat}{z:SV}{ok:Bool}(h:E0n P o ρ H=vA (kt,i,es,cs,z,ok)){r:Option SV}(hf:m0z P kt (.agg cs) es=vA r):
    a0D P o ρ H idx=vA ⟨m0f ok (r.getD z) r.isSome,[i],[]⟩:=by
  unfold E0n at h
  split at h
  · rename_i t m k ok' ho
    split at h
    · rename_i kt' et i' cs' hu hm hk
      split at h
      · rename_i es' z' hH hz
        split at h<;>cases h
        rename_i hkey;unfold a0D a0k a0o;simp only[ho];unfold k0O;rw[hu,hm,hk];simp only[hH];rw[vB hkey];have:p0u P kt es (.agg cs)=vA r:=hf;rw[this,hz];cases r<;>rfl
      cases h
    cases h
  cases h
def E0o(P:Program)(m:Option Nat)(ops:Array Oper)(p:Nat)(tr:List<|List Nat×List Nat)(L:LE)(H:a0e):Option (Option Nat×TypeId×Nat×List (SV×SV)×List SV×SV×Bool×List (List Nat×List Nat)):=
  match ops.toList[p]? with
  |none=>none
  |some o=>match a0X ops (a0p L) o with
    |some jB=>bif b0R o then none else match E0n P o (a0p L) H with
      |some (kt,i,es,cs,z,ok)=>bif okM m ops p o ⟨.undef,[i],[]⟩ tr H then vA (o.dst,kt,i,es,cs,z,ok,trM m ops p o ⟨.undef,[i],[]⟩ tr)else none
      |none=>none
    |_=>none
theorem RJ.lookD{K:Type}(ek:K->SV)(ev:V->SV)(eq:K->K->Bool)(ms:List<|K×V)(x:K)(zv:V){ok:Bool}
    (h:E0o P m ops p tr L H=vA (d,kt,i,r0n ek ev ms,cs,ev zv,ok,tr2)) (hcs:SV.agg cs=ek x) (heq: ∀a b,eqS P 9 kt (ek a) (ek b)=vA (eq a b))
    (k:RJ F P m ops (p+1) tr2 (g0g L d<|m0f ok (ev<|(i0W eq ms x).getD zv) (i0W eq ms x).isSome) H Q):RJ F P m ops p tr L H Q:=by
  unfold E0o at h;split at h
  cases h
  · rename_i o ho
    split at h
    · rename_i hg
      cases hcc:b0R o with
      |true=>rw[hcc]at h;cases h
      |false=>
        rw[hcc]at h;simp only[vD]at h
        split at h
        · rename_i kt2 i2 es2 cs2 z2 ok2 he
          cases hok:okM m ops p o ⟨.undef,[i2],[]⟩ tr H with
          |false=>rw[hok]at h;cases h
          |true=>
            rw[hok]at h;simp only[wC,aj,aG]at h;obtain⟨rfl,rfl,rfl,rfl,rfl,rfl,rfl,rfl⟩:=h;have hf:=u0N (ev:=ev) heq x ms;rw[<-hcs]at hf;have hs:=x0I (idx:=I0s m ops p H) he hf;have e1:((i0W eq ms x).map ev).getD (ev zv)=ev ((i0W eq ms x).getD zv):=by cases i0W eq ms x<;>rfl
            have e2:((i0W eq ms x).map ev).isSome=(i0W eq ms x).isSome:=by cases i0W eq ms x<;>rfl
            rw[e1,e2]at hs;exact RJ.step ho hg hcc hs hok k
        cases h
    cases h
end
section
variable {F : Fr}{P : Program}{c : Code}{L : LE}{H : a0e}{Q : g0c}{m : Option Nat}{ops : Array Oper}{p : Nat}{tr : List (List Nat × List Nat)}
/-! The rules under short names; the kernel checks their conditions. -/
theorem kE(h:PJ F Q .normal L H)(hp:yC ops.size p=true:=by kernel_rfl):RJ F P m ops p tr L H Q:=RJ.end hp h
theorem kEN{c:Code}{Q:g0c}(h:J F P c L H Q)(hp:yC ops.size p=true:=by kernel_rfl):RJ F P m ops p tr L H (l0t F P c Q):=RJ.end hp<|PJ.next h
theorem kS(k:J F P (cl c) L H<|l0t F P (cr c) Q)(h:s0k c=true:=by kernel_rfl):J F P c L H Q:=K.seq h k
theorem kR(k:RJ F P none (h0I c) 0 [] L H Q)(h:o0x oA c=true:=by kernel_rfl):J F P c L H Q:=K.region h k
theorem kSR(k:RJ F P none (h0I<|cl c) 0 [] L H<|l0t F P (cr c) Q)(h:s0k c=true:=by kernel_rfl)(h2:o0x oA (cl c)=true:=by kernel_rfl):J F P c L H Q:=K.seq h<|K.region h2 k
theorem kT(k:J F P (ct c) L H Q)(h:y0l c L=vA (.bool jB):=by kernel_rfl):J F P c L H Q:=K.condT h k
theorem kF(k:J F P (ce c) L H Q)(h:y0l c L=vA (.bool oA):=by kernel_rfl):J F P c L H Q:=K.condF h k
theorem kX(k:PJ F Q .ret L H)(h:E0E c=true:=by kernel_rfl):J F P c L H Q:=K.ret h k
theorem kK(k:PJ F Q .normal L H)(h:u0J c=true:=by kernel_rfl):J F P c L H Q:=K.skip h k
def kC(q:Nat)(ts:List Nat)(k:RJ F P none ops (p+q) [] (g0r ts<|lOf<|j0K P none ops q p [] L H) (hOf<|j0K P none ops q p [] L H) Q)(h:(j0K P none ops q p [] L H).isSome=true:=by kernel_rfl):RJ F P none ops p [] L H Q:=RJ.segC q ts h k
def kD(q:Nat)(k:RJ F P (vA base) ops (p+q) (tOf<|j0K P (vA base) ops q p tr L H) (lOf<|j0K P (vA base) ops q p tr L H) (hOf<|j0K P (vA base) ops q p tr L H) Q)(h:(j0K P (vA base) ops q p tr L H).isSome=true:=by kernel_rfl):RJ F P (vA base) ops p tr L H Q:=RJ.segDC q h k
theorem kZ{fn:Func}(hn:F.n=fn.ntmps)(hH:F.H0=[])(hdom: ∀i,F.H0.length<=i->F.D0 i=none)(hin:j0R fn.ntmps fn.results.toList=true:=by kernel_rfl)(hret:u0z P fn.results.toList L H=vA v:=by kernel_rfl)(hr:SV.refs 0 v=true:=by kernel_rfl):
    PJ F (u0e P fn F v []) .ret L H:=K.ret0 (.inr rfl) hn hH hdom hin hret hr
theorem kFn{fn:Func}
    (h: ∀F:Fr,F.n=fn.ntmps->F.H0=H->(∀i,F.H0.length<=i->F.D0 i=none)->J F P (e0y fn) (e0M 0 args) H (u0e P fn F v H')) (hf:P.funcs[f]?=vA fn:=by kernel_rfl) (hb:fn.body.isSome=true:=by kernel_rfl) (hcal:b0o P f=true:=by kernel_rfl) (hin:b0n fn.ntmps (e0y fn)=true:=by kernel_rfl) (hn:yC args.length fn.ntmps=true:=by kernel_rfl):SC P f args H v H':=K.fn hf hb hcal hin hn h
def oi{a b:α}(h:vA a=vA b):a=b:=au h
end
theorem G0c{P:Program}{Q:Exit->Act->World->Prop}(I:Nat->Act->World->Prop)
    (hs: ∀n a w,I n a w->c.wp P (λe a' w'=>(e= .normal/\ ∃m,m<n/\I m a' w')\/(e≠ .normal/\Q e a' w')) a w) (h:I n a w):(Code.loop c).wp P Q a w:=by
  have key: ∀n a w,I n a w-> ∀(b:Frame) (k:List Item) (cs:List Frame),∃e a' w',Q e a' w'/\Arrives P (lone (b.at a (.code c:: .inLoop c::k)) cs w) b k cs e a' w':=by
    intro n
    induction n using Nat.strongRecOn with
    |_ n ih=>
      intro a w h b k cs;obtain⟨e,a₁,w₁,hq,harr⟩:=hs n a w h b (.inLoop c::k) cs;rcases hq with⟨rfl,m,hm,hi⟩|⟨hne,hq⟩;obtain⟨e₂,a₂,w₂,hq₂,harr₂⟩:=ih m hm a₁ w₁ hi b k cs;exact⟨e₂,a₂,w₂,hq₂, .of_steps (Steps.trans harr<|.one step_inLoop) harr₂⟩;refine⟨e,a₁,w₁,hq, ?_⟩
      cases e with
      |normal=>exact absurd rfl hne
      |exit id=>exact .pass (x:= .inLoop c) rfl (λ_ _=> .inl dE) harr
      |goto l=>exact .pass (x:= .inLoop c) rfl (λ_ _=> .inl dE) harr
      |ret=>exact .pass (x:= .inLoop c) rfl (λ_ _=> .inl dE) harr
      |panic ch=>exact .pass (x:= .inLoop c) rfl (λ_ _=> .inl dE) harr
      |outgrown=>exact .pass (x:= .inLoop c) rfl (λ_ _=> .inl dE) harr
  intro b k cs;obtain⟨e,a',w',hq,harr⟩:=key n a w h b k cs;exact⟨e,a',w',hq, .of_steps (.one step_loop) harr⟩
def t0A(n:Nat)(seen:Array Nat):Nat:=((jC n).filter λj=> !seen.contains j).length
theorem N0a{mes:Array MapEntry}{c:Nat}(h:N0F mes c):mes.toList.map (·.born)=jC mes.size:=by
  apply bC;intro j;rw[ar];by_cases hj:j<mes.size;rw[bw hj,cE,aQ hj];simp only[aZ];rw[h.2 j mes[j]<|aQ hj];rw[aC<|by simpa using hj,aC<|by simpa using hj];rfl
def B0Q{mes:Array MapEntry}{c:Nat}{seen:Array Nat}(h:N0F mes c):(leftOf mes seen).size=t0A mes.size seen:=by
  unfold t0A leftOf;rw[<-N0a h,List.filter_map,List.length_map,<-cu,Array.toList_filter];rfl
theorem E0w{seen:Array Nat}{j:Nat}(hj:j<n)(hs:seen.contains j=oA):t0A n (seen.push j)<t0A n seen:=by
  unfold t0A;refine filter_lt (λi=> !seen.contains i) (λi=> !(seen.push j).contains i) (λx hx=> ?_) j (by simpa using hs) (by rw[contains_push];simp) (jC n)<|br.2 hj;rw[contains_push]at hx;simp at hx⊢;exact hx.1
theorem J0J{P:Program}(w:World)(ty:TypeId)(r bm since c0:Nat)(seen:Array Nat)(es:Array MapEntry)(clock:Nat)(hr:w.heap[r]?=vA (.mapIter (vA bm) since seen c0))(hb:w.heap[bm]?=vA (.map es clock))
    (hold: ∀x∈es.toList,x.born<since) (hsc:since<=c0):
    ((leftOf es seen).size=0/\(Instr.next (.pointer<|vA ⟨r,0,none⟩) oA ty).run P w= .ok (.tuple #[.bool oA]) w)\/
    ∃e∈(leftOf es seen).toList,∃w1:World,(w1=w\/w1=w.drew)/\(Instr.next (.pointer<|vA ⟨r,0,none⟩) oA ty).run P w= .ok (.tuple #[.bool jB,e.key,e.val]) { w1 with heap:=w1.heap.setIfInBounds r (.mapIter (vA bm) since (seen.push e.born) clock) } :=by
  have hrl:r<w.heap.size:=(al.1 hr).1;simp only[Instr.next,getObj,zD,Sem.run,hr,hb,oE,next_test_false seen es since c0 hold hsc,aF,if_false];unfold leftOf;have hmem: ∀x∈(Array.filter (λe=> !seen.contains e.born) es).toList,x.born<since:=λx hx=>hold x (by simp at hx⊢;exact hx.1)
  generalize Array.filter (λe=> !seen.contains e.born) es=L at hmem⊢;have e1:L.filter (λx=>yA<|x.born<since)=L:=Array.filter_eq_self.2 (λx hx=>by simpa using hmem x (by simpa using hx))
  have e2:L.filter (λx=>yA<|x.born≥since)= #[]:=by
    rw[Array.filter_eq_empty_iff];intro x hx;have:=hmem x (by simpa using hx);simp;omega
  simp only[e1,e2,Array.append_empty];by_cases h0:L.size=0;left;have:L= #[]:=Array.eq_empty_of_size_eq_zero h0;subst this;refine⟨rfl, ?_⟩;simp[choose,Sem.run,Question.forced];right;have hne:L.isEmpty=false:=by simp[Array.isEmpty,h0]
  simp only[hne,aF,if_false,Array.empty_append,Array.size_map]
  have hch: ∃(j:Nat) (w1:World),j<L.size/\(w1=w\/w1=w.drew)/\(choose<|Question.mapNext L.size).run P w= .ok j w1:=by
    by_cases hf:L.size<=1;exact⟨0,w,dA, .inl rfl,by simp[choose,Sem.run,Question.forced,hf]⟩
    exact⟨_,w.drew,Nat.mod_lt _ dA, .inr rfl,by
      simp only[choose,Sem.run,Question.forced,decide_eq_true_eq,hf,if_false,Question.cut]
      rfl⟩
  obtain⟨j,w1,hj,hal,hrun⟩:=hch;refine⟨L[j],dE,w1,hal, ?_⟩
  have hget:w1.heap[r]?=vA (.mapIter (vA bm) since seen c0):=by
    rcases hal with rfl|rfl;exact hr;exact hr
  have hset: ∀o':Obj,(setObj r o').run P w1= .ok () { w1 with heap:=w1.heap.setIfInBounds r o' } :=λo'=>by
    simp only[setObj,Sem.run,hget]
  simp only[hrun,Array.getElem?_map,aQ hj,aZ,zD,hset,oE];rfl
section
variable {F : Fr}{P : Program}{L : LE}{H : a0e}{Q : g0c}{ops : Array Oper}{p : Nat}{tr : List (List Nat × List Nat)}
def D0I(P:Program)(ops:Array Oper)(p:Nat)(L:LE)(H:a0e):Option (Option Nat×Nat×Nat):=
  match ops.toList[p]? with
  |some o=>match a0X ops (a0p L) o,o.op with
    |some jB, .range t x=>match P.underlying t,a0B (a0p L) x with
      |some (.map _ _),vA (.mp i)=>match H[i]? with
        |some (.map es)=>vA (o.dst,i,es.length)
        |_=>none
      |_,_=>none
    |_,_=>none
  |none=>none
theorem RJ.range(h:D0I P ops p L H=vA (d,i,n))(k:RJ F P none ops (p+1) tr (g0g L d<|.ptr H.length 0) (H++ [.itr i n []]) Q):RJ F P none ops p tr L H Q:=by
  unfold D0I at h;split at h;rename_i o ho;split at h;rename_i t x hg hop;split at h;rename_i kt et i' hu hxe;split at h;rename_i es hH;simp only[aj,aG]at h;obtain⟨rfl,rfl,rfl⟩:=h;intro hin a w hs;have hbo:Oper.inB F.n ops o=true:=List.all_eq_true.1 hin o<|o0S ho;obtain⟨hd,K,D,hi⟩:=hs;rw[e0g ho];refine wpList_step λKK hKK=> ?_
  rw[b0x hi.slots (Oper.inB_guard hbo) hg,vB rfl]
  have hx:Operand.inB F.n x=true:=by
    have hb:=Oper.inB_op hbo;unfold Op.inB at hb;rw[hop]at hb;simpa [wB]using hb
  obtain⟨r,c,m,hvx,hdi⟩:=u0A<|a0i hi.slots hx hxe;obtain⟨r',mes,clock,h1,h2,h3,h4,hB,h5⟩:=hi.hinv.ent _ _ hH;rw[h1]at hdi;cases hdi
  have hrun:(execOp a.eval o).run P w= .ok (.value<|.pointer<|vA ⟨w.heap.size,0,none⟩) (w.alloc<|.mapIter (vA r) clock #[] clock):=by
    unfold execOp;rw[hop];exact b0k (by rw[hvx];exact run_range_map w t kt et r mes clock hu h3)
  have hK0:K w.heap.size=0:=by
    rcases bB (K w.heap.size)with h0|h0;exact h0;have:=hi.hinv.kw w.heap.size dA;omega
  have hold: ∀b,b<w.heap.size->(w.alloc<|.mapIter (vA r) clock #[] clock).heap[b]?=w.heap[b]?:=λb hb=>by show(w.heap.push _)[b]?=_;rw[bS,yB dA]
  have hcl:clock=es.length:=by rw[hB.1,h4]
  obtain⟨g,hi'⟩:=place (w':=w.alloc<|.mapIter (vA r) clock #[] clock) (en:= .itr i' es.length []) (b:=w.heap.size) (c:=0) (m:=0) hi.hinv (idx:=H.length) (.inl rfl) (x:=none) dE (.inl<|ak _) rfl rfl rfl dE (λb' _ hlt=>hold b' hlt)
    (λhr=>⟨_,r,clock,by simp[g0y],hK0,by subst hcl;show(w.heap.push _)[w.heap.size]?=_;simp,dA,hr _ _<|.mp i' r 0 0 h1⟩)
  rw[g0Z]at g hi';have hset:h0Y H H.length (.itr i' es.length [])=H++ [.itr i' es.length []]:=by unfold h0Y;rw[yB dA]
  rw[hset]at g hi';unfold Oper.wp;rw[hrun];refine hKK _ _<|k hin _ _ ?_;refine⟨by rw[a0L];exact hd, ?_⟩;have:=hi.step (d:=o.dst) ⟨K,_,g,hi', .ptr H.length 0 w.heap.size 0 0<|by simp[g0y]⟩;rw[b0b]at this;exact this;cases h;cases h;cases h;cases h
theorem RJ.next{j:Nat}{s:List Nat}(ho:ops.toList[p]?=vA o)(hg:o.guard=none)(hop:o.op= .next x oA)(hxe:a0B (a0p L) x=vA (.ptr j 0))(hj:H[j]?=vA (.itr i n s))(hH:H[i]?=vA (.map es))(hn:es.length=n)
    (k0:t0A n s.toArray=0->RJ F P none ops (p+1) tr (g0g L o.dst<|.tup [.bool oA]) H Q)
    (k1: ∀b,b<n->s.contains b=oA->RJ F P none ops (p+1) tr (g0g L o.dst<|.tup [.bool jB, .undef, .undef]) (H.set j<|.itr i n<|s++ [b]) Q):RJ F P none ops p tr L H Q:=by
  intro hin a w hs;have hbo:Oper.inB F.n ops o=true:=List.all_eq_true.1 hin o<|o0S ho;obtain⟨hd,K,D,hi⟩:=hs;rw[e0g ho];refine wpList_step λKK hKK=> ?_
  rw[b0x hi.slots (Oper.inB_guard hbo) (b:=jB)<|by unfold a0X;rw[hg],vB rfl]
  have hx:Operand.inB F.n x=true:=by
    have hb:=Oper.inB_op hbo;unfold Op.inB at hb;rw[hop]at hb;simpa [wB]using hb
  obtain⟨r,c,m,hvx,hdj⟩:=r0e<|a0i hi.slots hx hxe;obtain⟨r',bm,c0,e1,e2,e3,e4,e5⟩:=hi.hinv.ent _ _ hj;rw[e1]at hdj;cases hdj;obtain⟨rm,mes,clock,h1,h2,h3,h4,hB,h5⟩:=hi.hinv.ent _ _ hH;obtain⟨_,_,_,hv,hdi⟩:=u0A e5;cases hv;rw[h1]at hdi;cases hdi;have hsz:mes.size=n:=by rw[<-h4];exact hn
  have hold: ∀y∈mes.toList,y.born<n:=λy hy=>by
    obtain⟨q,hq,rfl⟩:=List.mem_iff_getElem.1 hy;have hq':q<mes.size:=by simpa using hq
    have:=hB.2 q mes[q]<|aQ hq';have e:mes.toList[q]=mes[q]:=by simp
    rw[e,this];omega
  have hrv:(execOp a.eval o)=(do pure (Next.value<|<-Instr.next (a.eval x) oA o.type)):=by unfold execOp;rw[hop]
  rcases J0J (P:=P) w o.type r bm n c0 s.toArray mes clock e3 h3 hold dA with⟨hz,hrun⟩|⟨e,he,w1,hal,hrun⟩;unfold Oper.wp;rw[hrv,b0k<|by rw[hvx];exact hrun];refine hKK _ _ (k0 (by rw[B0Q hB,hsz]at hz;exact hz) hin _ _ ⟨by rw[a0L];exact hd, ?_⟩)
  have:=hi.step (d:=o.dst) (Good.here hi.hinv (.tup [.bool oA] [.bool oA] rfl (λj v c hv hc=>by
    match j with
    |0=>simp at hv hc;subst hv;subst hc;exact .bool _
    |j+1=>simp at hv)))
  rw[b0b]at this;exact this;obtain⟨hm,hns⟩:=mem_left he;have hbn:=hold e hm
  have hw1:Grow w K D H w1 K D H/\HInv w1 K D H/\w1.heap=w.heap:=by
    rcases hal with rfl|rfl;exact⟨Grow.refl _ _ _ _,hi.hinv,rfl⟩;exact⟨Grow.drew _ _ _ _,hi.hinv.drew,rfl⟩
  obtain⟨g1,i1,hh⟩:=hw1;have hrl:r<w1.heap.size:=by rw[hh];exact(al.1 e3).1
  obtain⟨g2,i2⟩:=modify (w':= { w1 with heap:=w1.heap.setIfInBounds r (.mapIter (vA bm) n (s.toArray.push e.born) clock) }) (en':= .itr i n<|s++ [e.born]) i1 hj rfl rfl e1 rfl rfl rfl dE (λb' hb'=>by
      show(w1.heap.setIfInBounds r _)[b']?=_
      rw[Array.getElem?_setIfInBounds_ne<|Ne.symm hb'])
    (λhr=>⟨r,bm,clock,e1,e2,by
      show(w1.heap.setIfInBounds r _)[r]?=_
      rw[Array.getElem?_setIfInBounds_self_of_lt hrl];simp,by rw[hB.1];omega,hr _ _<|.mp i bm 0 0 h1⟩)
  unfold Oper.wp;rw[hrv,b0k<|by rw[hvx];exact hrun];refine hKK _ _ (k1 e.born hbn (by simpa using hns) hin _ _ ⟨by rw[a0L];exact hd, ?_⟩)
  have:=hi.step (d:=o.dst) ⟨K,D,g1.trans g2,i2, .tup [.bool jB,e.key,e.val] [.bool jB, .undef, .undef] rfl (λj v c hv hc=>by
    match j with
    |0=>simp at hv hc;subst hv;subst hc;exact .bool _
    |1=>simp at hv hc;subst hc;exact .undef _
    |2=>simp at hv hc;subst hc;exact .undef _
    |j+3=>simp at hv)⟩
  rw[b0b]at this;exact this
def F0c(ops:Array Oper)(p:Nat)(L:LE)(H:a0e):Option (Option Nat×Nat×Nat×List Nat):=
  match ops.toList[p]? with
  |some o=>match a0X ops (a0p L) o,o.op with
    |some jB, .entry x=>match a0B (a0p L) x with
      |some (.ptr j off)=>bif oB off 0 then(match H[j]? with
        |some (.itr i n s)=>vA (o.dst,i,n,s)
        |_=>none)else none
      |_=>none
    |_,_=>none
  |none=>none
theorem RJ.entry{b:Nat}{s:List Nat}{kv:SV×SV}(h:F0c ops p L H=vA (d,i,n,s++ [b]))(hH:H[i]?=vA (.map es))(hn:es.length=n)(hb:es[b]?=vA kv)
    (k:RJ F P none ops (p+1) tr (g0g L d<|.tup [kv.1,kv.2]) H Q):RJ F P none ops p tr L H Q:=by
  unfold F0c at h;split at h;rename_i o ho;split at h;rename_i x hg hop;split at h;rename_i j off hxe
  cases hz:oB off 0 with
  |false=>rw[hz]at h;cases h
  |true=>
    rw[hz]at h;simp only[wC]at h;have hoff:off=0:=by simpa using hz
    subst hoff;split at h;rename_i i' n' s' hj;simp only[aj,aG]at h;obtain⟨rfl,rfl,rfl,rfl⟩:=h;intro hin a w hs;have hbo:Oper.inB F.n ops o=true:=List.all_eq_true.1 hin o<|o0S ho;obtain⟨hd,K,D,hi⟩:=hs;rw[e0g ho];refine wpList_step λKK hKK=> ?_
    rw[b0x hi.slots (Oper.inB_guard hbo) hg,vB rfl]
    have hx:Operand.inB F.n x=true:=by
      have hb:=Oper.inB_op hbo;unfold Op.inB at hb;rw[hop]at hb;simpa [wB]using hb
    obtain⟨r,c,m,hvx,hdj⟩:=r0e<|a0i hi.slots hx hxe;obtain⟨r',bm,c0,e1,e2,e3,e4,e5⟩:=hi.hinv.ent _ _ hj;rw[e1]at hdj;cases hdj;obtain⟨rm,mes,clock,h1,h2,h3,h4,hB,h5⟩:=hi.hinv.ent _ _ hH;obtain⟨_,_,_,hv,hdi⟩:=u0A e5;cases hv;rw[h1]at hdi;cases hdi;have hbl:b<mes.size:=by rw[<-h4];exact(ab.1 hb).1
    have hme:=aQ hbl;have hbo':=hB.2 b mes[b] hme;have hnd:(mes.toList.map (·.born)).Nodup:=by rw[N0a hB];exact List.nodup_range
    have hcc:clock=c0:=by rw[hB.1,<-h4,hn,e4]
    subst hcc
    have hrun:(Instr.entry<|.pointer<|vA ⟨r,0,none⟩).run P w= .ok (.tuple #[mes[b].key,mes[b].val]) w:=by
      have hf:mes.find? (·.born==mes[b].born)=vA mes[b]:=by rw[<-Array.find?_toList];exact find_born mes[b] mes.toList hnd dE
      have e3':w.heap[r]?=vA (.mapIter (vA bm) n' (s.toArray.push b) clock):=by rw[e3];simp
      rw[hbo']at hf;simp only[Instr.entry,getObj,zD,Sem.run,e3',h3,oE,Array.back?_push,bne_self_eq_false,aF,if_false,hf];rfl
    have hrv:(execOp a.eval o)=(do pure (Next.value<|<-Instr.entry (a.eval x))):=by unfold execOp;rw[hop]
    unfold Oper.wp;rw[hrv,b0k<|by rw[hvx];exact hrun];refine hKK _ _ (k hin _ _ ⟨by rw[a0L];exact hd, ?_⟩);obtain⟨q1,q2⟩:=h5 b mes[b] kv hme hb
    have:=hi.step (d:=o.dst) (Good.here hi.hinv (.tup [mes[b].key,mes[b].val] [kv.1,kv.2] rfl (λj v c hv hc=>by
      match j with
      |0=>simp at hv hc;subst hv;subst hc;exact q1
      |1=>simp at hv hc;subst hv;subst hc;exact q2
      |j+2=>simp at hv)))
    rw[b0b]at this;exact this;cases h
  cases h;cases h;cases h
def n0n{E X:Type}[DecidableEq X](f:E->Option (Unit⊕X)):List E->Option (Unit⊕X)
  | []=>vA (.inl ())
  |e::r=>match f e,n0n f r with
    |some (.inl _),y=>y
    |some (.inr x),vA (.inl _)=>vA (.inr x)
    |some (.inr x),vA (.inr y)=>if x=y then vA (.inr x)else none
    |_,_=>none
theorem z0e{E:Type}[DecidableEq X]{f:E->Option (Unit⊕X)}: ∀(ms:List E) (y:Unit⊕X),n0n f ms=vA y->
    (∀e∈ms,∃x,f e=vA x/\ ∀o,x= .inr o->y= .inr o)/\((∀e∈ms,f e=vA (.inl ()))->y= .inl ()):=by
  intro ms
  induction ms with
  |nil=>intro y h;cases h;exact⟨λe he=>by simp at he,λ_=>rfl⟩
  |cons a r ih=>
    intro y h;simp only[n0n]at h;split at h;rename_i u hf;obtain⟨i1,i2⟩:=ih y h;refine⟨λe he=> ?_,λhall=>i2 λe he=>hall e<|aq _ he⟩;rcases aY.1 he with rfl|he;exact⟨_,hf,λo ho=>by cases ho⟩;exact i1 e he;rename_i x u hf hr;cases h;obtain⟨i1,i2⟩:=ih _ hr;refine⟨λe he=> ?_,λhall=>by have:=hall a dE;rw[hf]at this;cases this⟩;rcases aY.1 he with rfl|he;exact⟨_,hf,λo ho=>ho⟩;obtain⟨x',hx',h'⟩:=i1 e he;refine⟨x',hx',λo ho=> ?_⟩;have:=h' o ho
    cases this
    · rename_i x z hf hr
      split at h<;>cases h
      rename_i hxz;subst hxz;obtain⟨i1,i2⟩:=ih _ hr;refine⟨λe he=> ?_,λhall=>by have:=hall a dE;rw[hf]at this;cases this⟩;rcases aY.1 he with rfl|he;exact⟨_,hf,λo ho=>ho⟩;exact i1 e he
    cases h
def N0V(F:Fr)(Q:g0c)(L:LE)(H:a0e)(y x:Unit⊕X):g0c:=λe a w=>match x with
  | .inl _=>e= .normal/\Sees F L H a w
  | .inr o=>e≠ .normal/\(y= .inr o->Q e a w)
theorem PJ.mapNext{L2:LE}{y:Unit⊕X}(ts:List Nat)(hL:g0r ts L=L2)(hH:H=H2):PJ F (N0V F Q L2 H2 y<|.inl ()) .normal L H:=λa w hs=>by
  subst hH;exact⟨rfl,by rw[<-hL];exact hs.keep<|k0P ts L⟩
theorem PJ.mapOut{L2:LE}{y:Unit⊕X}{o:X}(hne:e≠ .normal)(h:y= .inr o->PJ F Q e L H):PJ F (N0V F Q L2 H2 y<|.inr o) e L H:=λa w hs=>⟨hne,λhe=>h he a w hs⟩
def z0f(it tn tk b:Nat):Code->Bool
  | .seq (.region _ ops oA) (.seq (.cond (.tmp t) .skip<|.exit b') _)=>oB t tk&&(oB b' b&&match ops.toList with
    | [o0,o1]=>match o0.guard,o0.op,o0.dst,o1.guard,o1.op,o1.dst with
      |none, .next (.tmp it') oA,vA tn1,none, .extract (.tmp tn2) 0,vA tk'=>oB it' it&&(oB tn1 tn&&(oB tn2 tn&&oB tk' tk))
      |_,_,_,_,_,_=>oA
    |_=>oA)
  |_=>oA
theorem x0C{it tn tk b:Nat}(h:z0f it tn tk b c=jB): ∃id ops o0 o1 B,c= .seq (.region id ops oA) (.seq (.cond (.tmp tk) .skip<|.exit b) B)/\ops.toList=[o0,o1]/\
    o0.guard=none/\o0.op= .next (.tmp it) oA/\o0.dst=vA tn/\o1.guard=none/\o1.op= .extract (.tmp tn) 0/\o1.dst=vA tk:=by
  unfold z0f at h;split at h;rename_i id ops t b' B;simp only[aa]at h;obtain⟨h1,h2,h3⟩:=h;split at h3;rename_i o0 o1 hl;split at h3;rename_i it' tn1 tn2 tk' e1 e2 e3 e4 e5 e6;simp only[aa]at h3;obtain⟨q1,q2,q3,q4⟩:=h3;have h1:=ae h1;have h2:=ae h2;have q1:=ae q1;have q2:=ae q2;have q3:=ae q3;have q4:=ae q4;subst h1;subst h2;subst q1;subst q2;subst q3;subst q4;exact⟨id,ops,o0,o1,B,rfl,hl,e1,e2,e3,e4,e5,e6⟩;cases h3;cases h3;cases h
def B0R{s:List Nat}(h:t0A n s.toArray=0): ∀j,j<n->s.contains j=true:=by
  intro j hj;unfold t0A at h;have:=cW.1 h;rw[List.filter_eq_nil_iff]at this;have h2:=this j<|br.2 hj;simpa using h2
def I0n{tk tn:Nat}{u:SV}{L2:LE}(hnk:tn≠tk)(htn:lk L2 tn= .undef)(t:Nat):lk ((tk,v)::L2) t=lk ((tk,v)::(tn,u)::L2) t\/lk ((tk,v)::L2) t= .undef:=by
  simp only[lk]
  cases h1:oB t tk with
  |true=>exact .inl rfl
  |false=>
    cases h2:oB t tn with
    |false=>exact .inl rfl
    |true=>have:=ae h2;subst this;exact .inr htn
theorem K.mapLoop{E:Type}[DecidableEq X](it tn tk b j i:Nat)(h:E0F c=jB)(hc:z0f it tn tk b (cp c)=jB)(f:E->Option (Unit⊕X))(ms:List E)(enc:E->SV×SV){y:Unit⊕X}(hy:n0n f ms=vA y)
    (ts:List Nat) {L2:LE} (hk:g0r ts L=L2) (hL:lk L2 it= .ptr j 0) (htn:lk L2 tn= .undef) (htk:lk L2 tk= .undef) (hne:oB tn tk=oA) (hni:oB tn it=oA) (Hs:List Nat->a0e) (hH:H=Hs []) (hS: ∀s s',(Hs s).set j (.itr i n s')=Hs s')
    (hj: ∀s,(Hs s)[j]?=vA (.itr i n s)) (hi: ∀s,(Hs s)[i]?=vA (.map<|ms.map enc)) (hn:(ms.map enc).length=n)
    (hx: ∀s,y= .inl ()->PJ F Q (.exit b) ((tk, .bool oA)::L2) (Hs s))
    (body: ∀s b' e x,(ms.map enc)[b']?=vA (enc e)->f e=vA x->J F P (cr<|cr<|cp c) ((tk, .bool jB)::L2) (Hs<|s++ [b']) (N0V F Q L2 (Hs<|s++ [b']) y x)):J F P c L H Q:=by
  cases c<;>first|cases h|skip
  rename_i c;obtain⟨m1,m2⟩:=z0e ms y hy;have hnm:ms.length=n:=by rw[<-hn];simp
  refine J.keep ts hk ?_;subst hH;obtain⟨id,ops,o0,o1,B,rfl,hl,g1,g2,g3,g4,g5,g6⟩:=x0C hc;intro hin a w hs;have hin':b0n F.n _=true:=hin;refine G0c (λn' a w=> ∃s,t0A n s.toArray=n'/\(∀q∈s,∀e,ms[q]?=vA e->f e=vA (.inl ()))/\Sees F L2 (Hs s) a w) ?_ (n:=t0A n #[]) ⟨[],rfl,λq hq=>by simp at hq,hs⟩;rintro n' a w ⟨s,hn',hdone,hs⟩;refine(?_:J F P (.seq (.region id ops oA)<|.seq (.cond (.tmp tk) .skip<|.exit b) B) L2 (Hs s) _) hin' a w hs;have hp0:ops.toList[0]?=vA o0:=by rw[hl];rfl
  have hp1:ops.toList[1]?=vA o1:=by rw[hl];rfl
  have hsz:ops.size=2:=by have:=congrArg List.length hl;simpa using this
  have hnk:tn≠tk:=λe=>by subst e;simp at hne
  have hnit:tn≠it:=λe=>by subst e;simp at hni
  refine J.seq (J.region<|RJ.next hp0 g1 g2 (congrArg vA hL) (hj s) (hi s) hn (λhz=> ?_) λq hq hqs=> ?_)
  · -- none is left
    rw[g3]
    have hall:y= .inl ():=m2 λe he=>by
      obtain⟨q,hq,rfl⟩:=List.mem_iff_getElem.1 he;have hc:=B0R hz q dA;exact hdone q (by simpa using hc) _ (af hq)
    refine RJ.step (ef:=⟨.bool oA,[],[]⟩) hp1 (by unfold a0X;rw[g4]) (by unfold b0R;rw[g5]) ?_ rfl ?_;unfold a0D a0k;rw[g5];simp[a0B,a0p,g0g,lk]
    · rw[g6]
      refine RJ.done dA<|PJ.next<|J.seq<|J.cond (b:=oA) ?_<|J.exit<|PJ.passExit ?_;simp[a0B,a0p,g0g,lk];intro a' w' hs';exact .inr ⟨dE,hx s hall a' w'<|hs'.keep<|I0n hnk htn⟩
  · -- one more
    rw[g3]
    obtain⟨e,hqe⟩: ∃e,ms[q]?=vA e:=⟨ms[q]' dA,af dA⟩
    obtain⟨x,hfx,hox⟩:=m1 e<|aJ hqe;refine RJ.step (ef:=⟨.bool jB,[],[]⟩) hp1 (by unfold a0X;rw[g4]) (by unfold b0R;rw[g5]) ?_ rfl ?_;unfold a0D a0k;rw[g5];simp[a0B,a0p,g0g,lk]
    · rw[g6,hS]
      refine RJ.done dA<|PJ.next<|J.seq<|J.cond (b:=jB) ?_<|J.skip<|PJ.next ?_;simp[a0B,a0p,g0g,lk];intro hin2 a' w' hs';have hb:=body s q e x (by rw[ar,hqe];rfl) hfx hin2 a' w'<|hs'.keep<|I0n hnk htn;refine zJ (λee a2 w2 hq2=> ?_) hb
      cases x with
      |inl u=>
        obtain⟨rfl,hs2⟩:=hq2;refine .inl ⟨rfl,t0A n (s++ [q]).toArray, ?_,s++ [q],rfl,λq' hq' e' he'=> ?_,hs2⟩;rw[<-hn'];have:=E0w (seen:=s.toArray) hq (by simpa using hqs);simpa using this;rcases av.1 hq' with h1|h1;exact hdone q' h1 e' he';simp at h1;subst h1;rw[hqe]at he';cases he';exact hfx
      |inr o=>exact .inr ⟨hq2.1,hq2.2<|hox o rfl⟩
end
section
variable {F : Fr}{P : Program}{L : LE}{H : a0e}{Q : g0c}{ops : Array Oper}{p : Nat}{tr : List (List Nat × List Nat)}{ρ : Env}
theorem St.openMap(hs:St F ρ H a w)(hi:H[i]?=vA (.pmap es)): ∃es',List.Perm es' es/\St F ρ (H.set i<|.map es') a w:=by
  obtain⟨hd,K,D,hv⟩:=hs;obtain⟨es',r,mes,clock,hp,h1,h2,h3,h4,hB,h5⟩:=hv.hinv.ent _ _ hi;obtain⟨g,hi'⟩:=modify (w':=w) (en':= .map es') hv.hinv hi rfl rfl h1 rfl rfl rfl rfl (λ_ _=>rfl) λ_=>⟨r,mes,clock,h1,h2,h3,h4,hB,h5⟩;exact⟨es',hp,hd,K,D,hv.slots,hi',hv.grow.trans g⟩
theorem St.closeMap(hs:St F ρ H a w){es':List (SV×SV)}(hi:H[i]?=vA (.map es'))(hp:List.Perm es' es):St F ρ (H.set i<|.pmap es) a w:=by
  obtain⟨hd,K,D,hv⟩:=hs;obtain⟨r,mes,clock,h1,h2,h3,h4,hB,h5⟩:=hv.hinv.ent _ _ hi;obtain⟨g,hi'⟩:=modify (w':=w) (en':= .pmap es) hv.hinv hi rfl rfl h1 rfl rfl rfl rfl (λ_ _=>rfl) λ_=>⟨es',r,mes,clock,hp,h1,h2,h3,h4,hB,h5⟩;exact⟨hd,K,D,hv.slots,hi',hv.grow.trans g⟩
theorem RJ.openMap{A B:Type}{ek:A->SV}{ev:B->SV}(ms:List<|A×B)(i:Nat)(Hs:List (A×B)->a0e)(hi:H[i]?=vA (.pmap<|r0n ek ev ms))(hs: ∀ms',H.set i (.map<|r0n ek ev ms')=Hs ms')
    (k: ∀ms',List.Perm ms' ms->RJ F P none ops p tr L (Hs ms') Q):RJ F P none ops p tr L H Q:=by
  intro hin a w hst;obtain⟨es',hp,hst'⟩:=hst.openMap hi;obtain⟨ms',hp',rfl⟩:=n0e ms es' hp;have:=hs ms';unfold r0n at this;rw[this]at hst';exact k ms' hp' hin a w hst'
open Classical in
noncomputable def u0U{A:Type}(f:List A->Option R)(ms:List A):Option R:=if∀ms',List.Perm ms' ms->f ms'=f ms then f ms else none
def u0T{A:Type}{f:List A->Option R}{ms:List A}{r:R}(h:u0U f ms=vA r)(ms':List A)(hp:List.Perm ms' ms):f ms'=vA r:=by
  unfold u0U at h;split at h;rename_i hall;rw[hall ms' hp];exact h;cases h
def y0q{A:Type}{f:List A->Option R}{ms:List A}{r:R}(h: ∀ms',List.Perm ms' ms->f ms'=vA r):u0U f ms=vA r:=by
  unfold u0U;rw[vB λms' hp=>by rw[h ms' hp,h ms<|.refl _]];exact h ms<|.refl _
/-! Laying it. -/
def mapLit(P:Program)(base kt:Nat):List Oper->Nat->LE->Option (List<|SV×Option (SV×SV))
  | [],_,_=>vA []
  |o::r,j,L=>match o.guard,o.op with
    |none, .makeMap _ none=>bif oB j 0 then(mapLit P base kt r (j+1)<|g0g L o.dst<|.mp base).map ((.mp base,none):: ·)else none
    |none, .insert t x k v=>match P.underlying t,a0B (a0p L) x,a0B (a0p L) k,a0B (a0p L) v,o.dst with
      |some (.map kt' _),vA (.mp b),vA ks,vA vs,none=>bif oB b base&&(oB kt' kt&&(t0D P kt ks&&o.after.toList.any λe=>wF .any e&&oB e.on 0))then(mapLit P base kt r (j+1) L).map ((.undef,vA (ks,vs)):: ·)else none
      |_,_,_,_,_=>none
    |none,_=>bif b0R o then none else match a0k P o (a0p L)with
      |some v=>(mapLit P base kt r (j+1)<|g0g L o.dst v).map ((v,none):: ·)
      |none=>none
    |_,_=>none
def G0f(o:Oper):List Nat:=o.op.operands.toList.filterMap fun| .tmp t=>vA t|_=>none
def t0w(ops:Array Oper):Bool:=
  (jC ops.size).all λj=>match ops[j]? with
    |some o=>o.after.toList.all (λe=>oD e.on j)&&((jC ops.size).all λj'=>match ops[j']? with
      |some o'=>match o'.dst with
        |some t=>(!(G0f o).contains t||o.after.toList.any λe=>wF .any e&&oB e.on j')&&(oB j j'||(match o.dst with|some t'=> !oB t t'|none=>jB))
        |none=>jB
      |none=>jB)
    |none=>jB
def M0c:Option (Option SV)->Bool
  |some none=>jB
  |_=>oA
def A0x(P:Program)(kt:Nat)(VI:List<|SV×Option (SV×SV)):Bool:=
  (jC VI.length).all λi=>(jC VI.length).all λj=>oB i j||(match VI[i]?,VI[j]? with
    |some (_,vA a),vA (_,vA b)=>M0c (p0u P kt [b] a.1)
    |_,_=>jB)
def w0w:List Oper->List (SV×Option (SV×SV))->LE->LE
  |o::r,v::s,L=>w0w r s (g0g L o.dst v.1)
  |_,_,L=>L
def esL:List (SV×Option (SV×SV))->Nat->(Nat->Bool)->List (SV×SV)
  | [],_,_=> []
  |vi::r,j,l=>(bif l j then vi.2.toList else [])++esL r (j+1) l
def q0H: ∀(VI:List<|SV×Option (SV×SV)) (j:Nat) (l l':Nat->Bool),(∀q,j<=q->l q=l' q)->esL VI j l=esL VI j l'
  | [],_,_,_,_=>rfl
  |vi::r,j,l,l',h=>by
    simp only[esL];rw[h j<|ak _,q0H r (j+1) l l' λq hq=>h q dA]
def A0M: ∀(VI:List<|SV×Option (SV×SV)) (j:Nat) (l l':Nat->Bool),(∀q,j<=q->q<j+VI.length->l q=l' q)->esL VI j l=esL VI j l'
  | [],_,_,_,_=>rfl
  |vi::r,j,l,l',h=>by
    simp only[esL];rw[h j (ak _) dE,A0M r (j+1) l l' λq hq hq2=>h q dA dD]
def E0X: ∀(VI:List<|SV×Option (SV×SV)) (j i:Nat) (l:Nat->Bool) (v:SV) (e:Option<|SV×SV),l i=oA->j<=i->VI[i-j]?=vA (v,e)->
    List.Perm (esL VI j l++e.toList) (esL VI j λq=>if q=i then jB else l q)
  | [],j,i,l,v,e,hl,hj,h=>by simp at h
  |vi::r,j,i,l,v,e,hl,hj,h=>by
    by_cases hij:i=j;subst hij;simp at h;subst h;have h1:esL r (i+1) (λq=>if q=i then jB else l q)=esL r (i+1) l:=q0H r (i+1) _ _ λq hq=>by rw[yB dA]
    simp only[esL,hl,vD,aV,if_true,wC,h1];exact List.perm_append_comm
    have h':r[i-(j+1)]?=vA (v,e):=by
      have:i-j=(i-(j+1))+1:=by omega
      rw[this]at h;simpa using h
    have ih:=E0X r (j+1) i l v e hl dA h';simp only[esL];rw[yB λe=>hij e.symm,aS];exact ih.append_left _
theorem A0L: ∀(VI:List<|SV×Option (SV×SV)) (j i:Nat) (l:Nat->Bool) (v:SV),VI[i-j]?=vA (v,none)->j<=i->(esL VI j λq=>if q=i then jB else l q)=esL VI j l
  | [],j,i,l,v,h,_=>rfl
  |vi::r,j,i,l,v,h,hj=>by
    by_cases hij:i=j
    · subst hij
      simp at h;subst h;have h1:esL r (i+1) (λq=>if q=i then jB else l q)=esL r (i+1) l:=q0H r (i+1) _ _ λq hq=>by rw[yB dA]
      simp only[esL,h1];cases l i<;>simp
    have h':r[i-(j+1)]?=vA (v,none):=by
      have:i-j=(i-(j+1))+1:=by omega
      rw[this]at h;simpa using h
    simp only[esL];rw[yB λe=>hij e.symm,A0L r (j+1) i l v h' dA]
def E0Z: ∀(VI:List<|SV×Option (SV×SV)) (j:Nat) (l:Nat->Bool) (kv:SV×SV),kv∈esL VI j l-> ∃i v,j<=i/\l i=jB/\VI[i-j]?=vA (v,vA kv)
  | [],j,l,kv,h=>by simp[esL]at h
  |vi::r,j,l,kv,h=>by
    simp only[esL,av]at h;rcases h with h|h
    cases hl:l j with
    |false=>rw[hl]at h;simp at h
    |true=>
      rw[hl]at h;simp only[wC,Option.mem_toList]at h;exact⟨j,vi.1,ak _,hl,by simp;exact Prod.ext rfl h⟩
    obtain⟨i,v,h1,h2,h3⟩:=E0Z r (j+1) l kv h;refine⟨i,v,dA,h2, ?_⟩;have:i-j=(i-(j+1))+1:=by omega
    rw[this];simpa using h3
def E0Y: ∀(VI:List<|SV×Option (SV×SV)) (j:Nat) (l:Nat->Bool),(∀q,l q=jB-> ∀v e,VI[q-j]?=vA (v,e)->j<=q->e=none)->esL VI j l=[]
  | [],_,_,_=>rfl
  |vi::r,j,l,h=>by
    simp only[esL]
    have h1:esL r (j+1) l=[]:=E0Y r (j+1) l λq hq v e he hj=>h q hq v e (by
      have:q-j=(q-(j+1))+1:=by omega
      rw[this];simpa using he) dA
    rw[h1]
    cases hl:l j with
    |false=>rfl
    |true=>
      have:=h j hl vi.1 vi.2 dE<|ak _;rw[this];rfl
theorem u0M{P:Program}{kt:Nat}{k:SV}: ∀(es:List<|SV×SV),(∀e∈es,m0z P kt k [e]=vA none)->m0z P kt k es=vA none
  | [],_=>rfl
  |e::r,h=>by
    have h1:=h e<|aB ..;have h2:=u0M r λx hx=>h x (aq _ hx)
    cases hq:eqS P 9 kt k e.1 with
    |none=>simp[m0z,hq]at h1
    |some b=>
      cases b with
      |true=>simp[m0z,hq]at h1
      |false=>simp only[m0z,hq];exact h2
theorem u0L{k:SV}: ∀(es:List<|SV×SV),(∀e∈es,g0L [e] k=vA none)->g0L es k=vA none
  | [],_=>rfl
  |e::r,h=>by
    have h1:=h e<|aB ..;have h2:=u0L r λx hx=>h x (aq _ hx)
    cases hq:k0K k e.1 with
    |none=>simp[g0L,hq]at h1
    |some b=>
      cases b with
      |true=>simp[g0L,hq]at h1
      |false=>simp only[g0L,hq];exact h2
def E0S{P:Program}{kt:Nat}{k:SV}(es:List<|SV×SV)(h: ∀e∈es,p0u P kt [e] k=vA none):p0u P kt es k=vA none:=by
  cases k<;>first|exact u0M es h|exact u0L es h
def x0N{L:LE}{t:Nat}(h:d≠vA t):lk (g0g L d v) t=lk L t:=by
  cases d with
  |none=>rfl
  |some d=>
    simp only[g0g,lk]
    cases hb:oB t d with
    |false=>rfl
    |true=>exact absurd (by rw[ae hb]) h
def E0s{L:LE}{t:Nat}:lk (g0g L (vA t) v) t=v:=by simp[g0g,lk]
def o0f{t:Nat}: ∀(l:List Oper) (VI:List<|SV×Option (SV×SV)) (L:LE),(∀o∈l,o.dst≠vA t)->lk (w0w l VI L) t=lk L t
  | [],VI,L,_=>by cases VI<;>rfl
  |o::r,[],L,_=>rfl
  |o::r,v::s,L,h=>by
    simp only[w0w];rw[o0f r s _ λx hx=>h x<|aq _ hx,x0N<|h o<|aB ..]
def E0t{t:Nat}: ∀(l:List Oper) (VI:List<|SV×Option (SV×SV)) (L:LE) (j:Nat) (o:Oper) (v:SV×Option (SV×SV)),l[j]?=vA o->o.dst=vA t->VI[j]?=vA v->(∀j' o',l[j']?=vA o'->j'≠j->o'.dst≠vA t)->lk (w0w l VI L) t=v.1
  | [],VI,L,j,o,v,h,_,_,_=>by simp at h
  |x::r,[],L,j,o,v,_,_,h,_=>by simp at h
  |x::r,y::s,L,0,o,v,h1,h2,h3,h4=>by
    simp at h1 h3;subst h1;subst h3;simp only[w0w]
    rw[o0f r s _ λz hz=>by
      obtain⟨q,hq⟩:=bA.1 hz
      exact h4 (q+1) z (by simpa using hq) dA,h2,E0s]
  |x::r,y::s,L,j+1,o,v,h1,h2,h3,h4=>by
    simp only[w0w];exact E0t r s _ j o v (by simpa using h1) h2 (by simpa using h3) λj' o' hj' hne=>h4 (j'+1) o' (by simpa using hj') dA
def z0O(P:Program)(base kt j:Nat)(o:Oper)(v:SV)(e:Option<|SV×SV)(ρ:Env):Prop:=
  o.guard=none/\((j=0/\(∃t,o.op= .makeMap t none)/\v= .mp base/\e=none)\/
    (∃t x k u et ks vs,o.op= .insert t x k u/\P.underlying t=vA (.map kt et)/\a0B ρ x=vA (.mp base)/\a0B ρ k=vA ks/\a0B ρ u=vA vs/\o.dst=none/\t0D P kt ks=jB/\(∃ed∈o.after,wF .any ed=jB/\ed.on=0)/\v= .undef/\e=vA (ks,vs))\/
    (b0R o=oA/\a0k P o ρ=vA v/\e=none))
theorem A0z{base kt:Nat}: ∀(l:List Oper) (j:Nat) (L:LE) (VI:List<|SV×Option (SV×SV)),mapLit P base kt l j L=vA VI->
    VI.length=l.length/\ ∀q o,l[q]?=vA o-> ∃v e,VI[q]?=vA (v,e)/\ ∃L',z0O P base kt (j+q) o v e (a0p L')/\ ∀t,(∀q' o',q<=q'->l[q']?=vA o'->o'.dst≠vA t)->lk (w0w l VI L) t=lk L' t
  | [],j,L,VI,h=>by
    cases h;exact⟨rfl,λq o hq=>by simp at hq⟩
  |o::r,j,L,VI,h=>by
    have key: ∀(v:SV) (e:Option<|SV×SV) (L2:LE),z0O P base kt j o v e (a0p L)->(mapLit P base kt r (j+1)<|g0g L o.dst v).map ((v,e):: ·)=vA VI->
        VI.length=(o::r).length/\ ∀q o',(o::r)[q]?=vA o'-> ∃v e,VI[q]?=vA (v,e)/\ ∃L',z0O P base kt (j+q) o' v e (a0p L')/\ ∀t,(∀q' o',q<=q'->(o::r)[q']?=vA o'->o'.dst≠vA t)->lk (w0w (o::r) VI L) t=lk L' t:=by
      intro v e _ hf hm
      cases hr:mapLit P base kt r (j+1) (g0g L o.dst v)with
      |none=>rw[hr]at hm;cases hm
      |some s=>
        rw[hr]at hm;cases hm;obtain⟨h1,h2⟩:=A0z r (j+1) _ s hr;refine⟨by simp[h1],λq o' hq=> ?_⟩
        cases q with
        |zero=>
          simp at hq;subst hq;refine⟨v,e,rfl,L,hf,λt ht=> ?_⟩;simp only[w0w]
          rw[o0f r s _ λz hz=>by
            obtain⟨q,hq⟩:=bA.1 hz
            exact ht (q+1) z dA<|by simpa using hq,x0N<|ht 0 o (ak _) rfl]
        |succ q=>
          obtain⟨v',e',h3,L',h4,h5⟩:=h2 q o' (by simpa using hq);refine⟨v',e',by simpa using h3,L',by rw[show j+(q+1)=j+1+q by omega];exact h4,λt ht=> ?_⟩;simp only[w0w];exact h5 t λq' o'' hq' ho=>ht (q'+1) o'' dA (by simpa using ho)
    unfold mapLit at h;split at h;rename_i tt hg hop
    cases hj:oB j 0 with
    |false=>rw[hj]at h;cases h
    |true=>
      rw[hj]at h;exact key _ _ L ⟨hg, .inl ⟨ae hj,⟨_,hop⟩,rfl,rfl⟩⟩ h
    rename_i tt x k u hg hop;split at h;rename_i kt' et b ks vs hu hx hk hv hd
    cases hc:(oB b base&&(oB kt' kt&&(t0D P kt ks&&o.after.toList.any λe=>wF .any e&&oB e.on 0)))with
    |false=>rw[hc]at h;cases h
    |true=>
      rw[hc]at h;simp only[aa,List.any_eq_true]at hc;obtain⟨c1,c2,c3,ed,c4,c5,c6⟩:=hc;have c1:=ae c1;have c2:=ae c2;have c6:=ae c6;subst c1;subst c2;refine key .undef (vA (ks,vs)) L ⟨hg, .inr<|.inl ⟨tt,x,k,u,et,ks,vs,hop,hu,hx,hk,hv,hd,c3,⟨ed,by simpa using c4,c5,c6⟩,rfl,rfl⟩⟩ ?_;rw[hd];exact h
    cases h;rename_i hg _ _
    cases hc:b0R o with
    |true=>rw[hc]at h;cases h
    |false=>
      rw[hc]at h;simp only[vD]at h;split at h;rename_i v hv;exact key v none L ⟨hg, .inr<|.inr ⟨hc,hv,rfl⟩⟩ h;cases h
    cases h
def P0j(F:Fr)(ops:Array Oper)(VI:List<|SV×Option (SV×SV))(L:LE)(H:a0e)(listed:Array Bool)(a:Act)(w:World):Prop:=
  listed.size=ops.size/\ ∃ρ,St F ρ (bif listed.getD 0 oA then H++ [.pmap<|esL VI 0 λq=>listed.getD q oA]else H) a w/\
    (∀j o t,listed.getD j oA=jB->ops[j]?=vA o->o.dst=vA t-> ∃v,VI[j]?=vA v/\ρ t=v.1)/\
    (∀t,(∀j o,ops[j]?=vA o->listed.getD j oA=jB->o.dst≠vA t)->ρ t=lk L t)/\
    (∀j v kv,listed.getD j oA=jB->VI[j]?=vA (v,vA kv)->listed.getD 0 oA=jB)
def H0k(ops:Array Oper)(listed:Array Bool):Nat:=((jC ops.size).filter λj=> !listed.getD j oA).length
def j0u(h:i<listed.size)(d:Bool):(listed.setIfInBounds i jB).getD i d=true:=by
  simp[Array.getD,h]
def e0f{j:Nat}(h:i<listed.size):(listed.setIfInBounds i jB).getD j oA=if j=i then jB else listed.getD j false:=by
  by_cases hj:j=i;subst hj;rw[vB rfl];exact j0u h oA;rw[yB hj];exact getD_set_ne oA<|Ne.symm hj
def z0n(h:i<listed.size):listed.getD i jB=listed.getD i false:=by simp[Array.getD,h]
structure O0F(ops:Array Oper):Prop where
  before: ∀(j:Nat) (o:Oper),ops[j]?=vA o-> ∀e∈o.after,e.on<j
  deps: ∀(j:Nat) (o:Oper) (j':Nat) (o':Oper) (t:Nat),ops[j]?=vA o->ops[j']?=vA o'->o'.dst=vA t->Operand.tmp t∈o.op.operands-> ∃e∈o.after,wF .any e=jB/\e.on=j'
  apart: ∀(j:Nat) (o:Oper) (j':Nat) (o':Oper) (t:Nat),ops[j]?=vA o->ops[j']?=vA o'->o'.dst=vA t->j≠j'->o.dst≠vA t
theorem x0A(h:t0w ops=jB):O0F ops:=by
  unfold t0w at h;have hj: ∀j o,ops[j]?=vA o->j<ops.size:=λj o ho=>(al.1 ho).1
  have main: ∀j o,ops[j]?=vA o->o.after.toList.all (λe=>oD e.on j)=jB/\ ∀j' o',ops[j']?=vA o'-> ∀t,o'.dst=vA t->(((G0f o).contains t=oA\/(o.after.toList.any λe=>wF .any e&&oB e.on j')=jB)/\(j=j'\/o.dst≠vA t)):=by
    intro j o ho;have h1:=List.all_eq_true.1 h j<|br.2<|hj j o ho;simp only[ho,aa]at h1;refine⟨h1.1,λj' o' ho' t ht=> ?_⟩;have h2:=List.all_eq_true.1 h1.2 j'<|br.2<|hj j' o' ho';simp only[ho',ht,aa,bQ]at h2;obtain⟨h3,h4⟩:=h2;refine⟨h3.imp (λe=>by simpa using e) id,h4.imp ae λe hd=> ?_⟩;rw[hd]at e;simp at e
  refine⟨λj o ho e he=> ?_,λj o j' o' t ho ho' ht hm=> ?_,λj o j' o' t ho ho' ht hne=> ?_⟩;have:=List.all_eq_true.1 (main j o ho).1 e (by simpa using he);exact bF<|ag this;obtain⟨h1,_⟩:=(main j o ho).2 j' o' ho' t ht;rcases h1 with h1|h1;exfalso
  have:t∈G0f o:=by
    unfold G0f;rw[List.mem_filterMap];exact⟨.tmp t,by simpa using hm,rfl⟩
  simp[this]at h1;rw[List.any_eq_true]at h1;obtain⟨e,he,h2⟩:=h1;simp only[aa]at h2;exact⟨e,by simpa using he,h2.1,ae h2.2⟩;exact((main j o ho).2 j' o' ho' t ht).2.resolve_left hne
theorem A0A{ops:Array Oper}(hi:i<ops.size)(hs:listed.size=ops.size)(h:listed.getD i oA=oA):H0k ops (listed.setIfInBounds i jB)<H0k ops listed:=by
  unfold H0k;refine filter_lt (λj=> !listed.getD j oA) (λj=> !(listed.setIfInBounds i jB).getD j oA) (λx hx=> ?_) i (by rw[h];rfl) (by rw[j0u dA];rfl) _<|br.2 hi;rw[e0f dA]at hx;by_cases hxi:x=i;rw[vB hxi]at hx;cases hx;rw[yB hxi]at hx;exact hx
theorem K.mapLit(kt:Nat){VI:List (SV×Option (SV×SV))}{L2:LE}(h:o0x jB c=jB)(hm:P.follows .mixedOrders=jB)(hn:H.length=n)
    (hlit:Go.Sy.mapLit P n kt (h0I c).toList 0 L=vA VI) (hst:t0w (h0I c)=jB) (h0:(match(h0I c)[0]? with|some o=>(match o.op with| .makeMap _ none=>jB|_=>oA)|none=>oA)=jB)
    (hpair:A0x P kt VI=jB) (hes:(esL VI 0 λ_=>jB)=es) (ts:List Nat) (hL:g0r ts (w0w (h0I c).toList VI L)=L2) (k:PJ F Q .normal L2<|H++ [.pmap es]):J F P c L H Q:=by
  cases c<;>first|cases h|skip
  rename_i id ops dr;have hdr:dr=true:=by simpa [o0x]using h
  subst hdr;change Go.Sy.mapLit P n kt ops.toList 0 L=vA VI at hlit;change t0w ops=jB at hst;change (match ops[0]? with|some o=>(match o.op with| .makeMap _ none=>jB|_=>oA)|none=>oA)=jB at h0;change g0r ts (w0w ops.toList VI L)=L2 at hL;subst hn;intro hin a w hs;simp only[b0n,wD]at hin;obtain⟨hlen,hfact⟩:=A0z _ _ _ _ hlit;have ms:=x0A hst;have hget: ∀(j:Nat) (o:Oper),ops[j]?=vA o↔ops.toList[j]?=vA o:=λj o=>by rw[cE]
  obtain⟨o0,ho0,tt0,hop0⟩: ∃o,ops[0]?=vA o/\ ∃t,o.op= .makeMap t none:=by
    split at h0;rename_i o ho;split at h0;rename_i tt hop;exact⟨o,ho,tt,hop⟩;cases h0;cases h0
  have hpos:0<ops.size:=(al.1 ho0).1
  -- the slots behind all
  have hfin: ∀(j:Nat) (o:Oper) (t:Nat),ops[j]?=vA o->o.dst=vA t-> ∃v:SV×Option (SV×SV),VI[j]?=vA v/\lk (w0w ops.toList VI L) t=v.1:=λj o t ho ht=>by
    obtain⟨v,e,hv,_⟩:=hfact j o<|(hget j o).1 ho;exact⟨(v,e),hv,E0t _ _ _ j o (v,e) ((hget j o).1 ho) ht hv λj' o' ho' hne=>ms.apart j' o' j o t ((hget j' o').2 ho') ho ht hne⟩
  have hoth: ∀(t:Nat),(∀(j:Nat) (o:Oper),ops[j]?=vA o->o.dst≠vA t)->lk (w0w ops.toList VI L) t=lk L t:=λt ht=>o0f _ _ _ λo ho=>by
    obtain⟨j,hj⟩:=bA.1 ho;exact ht j o ((hget j o).2 hj)
  refine wp_region_any hm ?_
  have step: ∀fuel listed a w,H0k ops listed<=fuel->P0j F ops VI L H listed a w->wpAny P .any ops Q fuel listed a w:=by
    have done: ∀listed a w,jH .any ops listed=[]->P0j F ops VI L H listed a w->Q .normal a w:=by
      rintro listed a w hr ⟨hsz,ρ,hst',h1,h2,_⟩
      have hall: ∀j,j<ops.size->listed.getD j oA=true:=by
        intro j
        induction j using Nat.strongRecOn with
        |_ j ih=>
          intro hj
          cases hl:listed.getD j oA with
          |true=>rfl
          |false=>
            exfalso
            have:j∈jH .any ops listed:=mem_ready.2 ⟨by rw[z0n dA];exact hl,ops[j],aQ hj,λe he _=>by
              have:=ms.before j ops[j] (aQ hj) e he
              exact ih e.on this dA⟩
            rw[hr]at this;cases this
      have hρ:ρ=a0p (w0w ops.toList VI L):=by
        funext t;by_cases ht: ∃(j:Nat) (o:Oper),ops[j]?=vA o/\o.dst=vA t;obtain⟨j,o,ho,hd⟩:=ht;obtain⟨v,hv,hv2⟩:=hfin j o t ho hd;obtain⟨v',hv',hv3⟩:=h1 j o t (hall j (al.1 ho).1) ho hd;rw[hv]at hv';cases hv';rw[hv3];exact hv2.symm;rw[h2 t λj o ho _ hd=>ht ⟨j,o,ho,hd⟩];exact(hoth t λj o ho hd=>ht ⟨j,o,ho,hd⟩).symm
      rw[hall 0 hpos,wC,hρ]at hst'
      have hee:(esL VI 0 λq=>listed.getD q oA)=es:=by
        rw[<-hes];exact A0M VI 0 _ _ λq _ hq=>hall q (by rw[hlen]at hq;simpa using hq)
      rw[hee]at hst';refine k a w ?_;rw[<-hL];exact Sees.keep (L:=w0w ops.toList VI L) hst' (k0P ts _)
    intro fuel
    induction fuel with
    |zero=>
      intro listed a w hle hI
      have hr:jH .any ops listed=[]:=by
        cases hrr:jH .any ops listed with
        |nil=>rfl
        |cons x xs=>
          exfalso;have hx:x∈jH .any ops listed:=by rw[hrr];simp
          obtain⟨hx1,o,ho,_⟩:=mem_ready.1 hx;have hxl:=(al.1 ho).1;have hx2:listed.getD x oA=false:=by rw[<-z0n (by rw[hI.1];exact hxl)];exact hx1
          have:=A0A hxl hI.1 hx2;omega
      exact⟨hr,done listed a w hr hI⟩
    |succ fuel ih=>
      intro listed a w hle hI;refine⟨λhr=>done listed a w hr hI,λi hi=> ?_⟩;obtain⟨hi1,o,ho,hdep⟩:=mem_ready.1 hi;obtain⟨hsz,ρ,hst',h1,h2,h3⟩:=hI;have hil:i<ops.size:=(al.1 ho).1;have hil':i<listed.size:=by omega
      have hiu:listed.getD i oA=false:=by rw[<-z0n hil'];exact hi1
      obtain⟨v,e,hVi,L',⟨hg,hf⟩,hagree⟩:=hfact i o<|(hget i o).1 ho;rw[bg]at hf;have hbo:Oper.inB F.n ops o=true:=hin o (aO.2<|Array.mem_of_getElem? ho)
      -- its operands are what they are in the order of the text
      have hval: ∀x∈o.op.operands,a0B ρ x=a0B (a0p L') x:=by
        intro x hx
        cases x with
        |tmp t=>
          have hL':lk (w0w ops.toList VI L) t=lk L' t:=hagree t λq' o' hq ho' hd=>by
            obtain⟨ed,he,_,hon⟩:=ms.deps i o q' o' t ho ((hget q' o').2 ho') hd hx;have:=ms.before i o ho ed he;omega
          show vA (ρ t)=vA (lk L' t);rw[<-hL'];by_cases ht: ∃(j:Nat) (o:Oper),ops[j]?=vA o/\o.dst=vA t;obtain⟨j,oj,hoj,hd⟩:=ht;obtain⟨ed,he,hb,hon⟩:=ms.deps i o j oj t ho hoj hd hx;have hlj:=hdep ed he hb;rw[hon]at hlj;obtain⟨vj,hvj,hρ⟩:=h1 j oj t hlj hoj hd;obtain⟨v',hv',hv2⟩:=hfin j oj t hoj hd;rw[hvj]at hv';cases hv';rw[hρ,hv2];rw[h2 t λj o ho _ hd=>ht ⟨j,o,ho,hd⟩,hoth t λj o ho hd=>ht ⟨j,o,ho,hd⟩]
        |const c=>rfl
        |global g=>rfl
        |func f=>rfl
      have hlt:=A0A hil hsz hiu
      -- what is known behind it
      have next: ∀a' w',St F (m0I ρ o.dst v) (bif(listed.setIfInBounds i jB).getD 0 oA then H++ [.pmap<|esL VI 0 λq=>(listed.setIfInBounds i jB).getD q oA]else H) a' w'->
          (e=none\/listed.getD 0 oA=jB)->wpAny P .any ops Q fuel (listed.setIfInBounds i jB) a' w':=λa' w' hst2 hent=>by
        refine ih _ a' w' dA ⟨by simpa using hsz,m0I ρ o.dst v,hst2,λj oj t hj hoj hd=> ?_,λt ht=> ?_,λj v' kv hj hv'=> ?_⟩;rw[e0f hil']at hj;by_cases hji:j=i;subst hji;rw[ho]at hoj;cases hoj;exact⟨(v,e),hVi,by rw[hd];simp[m0I,upd]⟩;rw[yB hji]at hj;obtain⟨vj,hvj,hρ⟩:=h1 j oj t hj hoj hd;refine⟨vj,hvj, ?_⟩;have hne:=ms.apart i o j oj t ho hoj hd (λe=>hji e.symm)
        cases hod:o.dst with
        |none=>exact hρ
        |some d=>
          simp only[m0I,upd];rw[yB λe=>hne<|by rw[hod,e]];exact hρ
        · have hne:o.dst≠vA t:=ht i o ho (j0u hil' oA)
          have:=h2 t λj oj hoj hj=>ht j oj hoj (by rw[e0f hil'];split<;>simp[hj])
          cases hod:o.dst with
          |none=>exact this
          |some d=>
            simp only[m0I,upd];rw[yB λe=>hne<|by rw[hod,e]];exact this
        rw[e0f hil'];split;rfl;rw[e0f hil']at hj;by_cases hji:j=i;subst hji;rw[hVi]at hv';cases hv';rcases hent with h|h;cases h;exact h;rw[yB hji]at hj;exact h3 j v' kv hj hv'
      unfold wpOp;simp only[ho];have hgs:a0X ops ρ o=vA true:=by unfold a0X;rw[hg]
      rcases hf with⟨hi0,⟨tt,hop⟩,hv,he⟩|⟨tt,x,kk,u,et,ks,vs,hop,hu,hx,hk,hu2,hd,hkey,⟨ed,hed,hb0,hon0⟩,hv,he⟩|⟨hc,hv,he⟩
      · -- it makes the map
        subst hi0;subst hv;subst he;rw[hiu,vD]at hst';have hst0:=hst';obtain⟨hdef,K,D,hinv⟩:=hst';rw[b0x hinv.slots (Oper.inB_guard hbo) hgs,vB rfl];refine .inl ?_;have hev:a0D P o ρ H H.length=vA ⟨.mp H.length,[],[(H.length, .map [])]⟩\/True:= .inr trivial;have hmk:=u0I (P:=P) (a:=a) (o:=o) (t:=tt) hinv.hinv hop (idx:=H.length)<|.inl rfl;obtain⟨r,w',hrun,g⟩:=hmk;unfold Oper.wp;have hset:h0Y H H.length (.map [])=H++ [.map []]:=by unfold h0Y;rw[yB dA]
        rw[hset]at g
        have hnil:(esL VI 0 λq=>(listed.setIfInBounds 0 jB).getD q oA)=[]:=E0Y VI 0 _ λq hq v' e' hv' _=>by
          rw[e0f hil']at hq;by_cases hq0:q=0;subst hq0;rw[bJ,hVi]at hv';cases hv';rfl;rw[yB hq0]at hq
          cases e' with
          |none=>rfl
          |some kv=>
            exfalso;have:=h3 q v' kv hq (by simpa using hv');rw[hiu]at this;cases this
        have fin: ∀a',St F (m0I ρ o.dst<|.mp H.length) (H++ [.map []]) a' w'->wpAny P .any ops Q fuel (listed.setIfInBounds 0 jB) a' w':=λa' hs2=>by
          refine next a' w' ?_ (.inl rfl);rw[j0u hil' oA,wC,hnil];have:=hs2.closeMap (i:=H.length) (es:=[]) (es':=[]) dE<|.refl _;simpa using this
        rcases hrun with hrun|⟨hrun,hr⟩;rw[hrun];exact fin _ ⟨by rw[a0L];exact hdef,hinv.step g o.dst⟩;rw[hrun];subst hr;exact fin _ ⟨by rw[a0L];exact hdef,hinv.step g o.dst⟩
      · -- it lays an entry
        subst hv;subst he;have hl0:listed.getD 0 oA=true:=by have:=hdep ed hed hb0;rw[hon0]at this;exact this
        have hi0:i≠0:=λe=>by subst e;rw[hiu]at hl0;cases hl0
        rw[hl0,wC]at hst';obtain⟨es',hp,hst2⟩:=hst'.openMap (i:=H.length) (es:=esL VI 0 λq=>listed.getD q oA) (by rw[bY<|ak _,Nat.sub_self];rfl);have hset2:(H++ [Ent.pmap<|esL VI 0 λq=>listed.getD q oA]).set H.length (.map es')=H++ [.map es']:=by simp
        rw[hset2]at hst2;obtain⟨hdef,K,D,hinv⟩:=hst2;rw[b0x hinv.slots (Oper.inB_guard hbo) hgs,vB rfl];refine .inl ?_;have hxo: ∀y,y=x\/y=kk\/y=u->y∈o.op.operands:=λy hy=>by rw[hop];rcases hy with rfl|rfl|rfl<;>simp[wB]
        have hfn:p0u P kt es' ks=vA none:=E0S es' λkv hkv=>by
          obtain⟨q,vq,_,hq,hvq⟩:=E0Z VI 0 _ kv<|hp.mem_iff.1 hkv;rw[bJ]at hvq;have hqi:q≠i:=λe=>by subst e;rw[hiu]at hq;cases hq
          have hpp:=List.all_eq_true.1 (List.all_eq_true.1 hpair i<|br.2 (ab.1 hVi).1) q<|br.2 (ab.1 hvq).1;simp only[hVi,hvq,bQ]at hpp;rcases hpp with hpp|hpp;exact absurd (ae hpp).symm hqi;unfold M0c at hpp;split at hpp
          assumption
          cases hpp
        have hev:a0D P o ρ (H++ [.map es']) (H++ [Ent.map es']).length=vA ⟨.undef,[H.length],[(H.length, .map<|es'++ [(ks,vs)])]⟩:=by
          unfold a0D a0k a0o;simp only[hop];unfold l0P;rw[hu,hval x<|hxo x<|.inl rfl,hval kk<|hxo kk<|.inr<|.inl rfl,hval u<|hxo u<|.inr<|.inr rfl,hx,hk,hu2];simp only[bY<|ak _,Nat.sub_self,cv];rw[vB hkey,hfn]
        refine B0J hinv hdef (Oper.inB_op hbo) (.inl rfl) hev λa' w' hst3=> ?_
        refine next a' w' ?_ (.inr hl0)
        have ha:b0a (H++ [Ent.map es']) [(H.length, .map<|es'++ [(ks,vs)])]=H++ [.map<|es'++ [(ks,vs)]]:=by
          simp[b0a,h0Y]
        rw[ha]at hst3;rw[e0f hil',yB λe=>hi0 e.symm,hl0,wC]
        have hpp:List.Perm (es'++ [(ks,vs)]) (esL VI 0 λq=>(listed.setIfInBounds i jB).getD q oA):=by
          have h3:=E0X VI 0 i (λq=>listed.getD q oA) .undef (vA (ks,vs)) hiu (bo _) (by rw[bJ];exact hVi);have h4:(esL VI 0 λq=>(listed.setIfInBounds i jB).getD q oA)=esL VI 0 λq=>if q=i then jB else listed.getD q false:=q0H VI 0 _ _ λq _=>e0f hil'
          rw[h4];exact(hp.append_right _).trans (by simpa using h3)
        have:=hst3.closeMap (i:=H.length) (es:=esL VI 0 λq=>(listed.setIfInBounds i jB).getD q oA) dE hpp;simpa using this
      · -- something else
        subst he
        have hes2:(esL VI 0 λq=>(listed.setIfInBounds i jB).getD q oA)=esL VI 0 λq=>listed.getD q false:=by
          have h4:(esL VI 0 λq=>(listed.setIfInBounds i jB).getD q oA)=esL VI 0 λq=>if q=i then jB else listed.getD q false:=q0H VI 0 _ _ λq _=>e0f hil'
          rw[h4];exact A0L VI 0 i _ v (by rw[bJ];exact hVi) (bo _)
        have hi0:i≠0:=λe=>by
          subst e;rw[ho0]at ho;cases ho;unfold a0k at hv;rw[hop0]at hv;cases hv
        have hv2:a0k P o ρ=vA v:=by rw[o0Q hval];exact hv
        obtain⟨hdef,K,D,hinv⟩:=hst';rw[b0x hinv.slots (Oper.inB_guard hbo) hgs,vB rfl];refine .inl ?_;refine B0J hinv hdef (Oper.inB_op hbo) (.inl rfl) (ef:=⟨v,[],[]⟩) (by unfold a0D;rw[hv2]) λa' w' hst3=> ?_
        refine next a' w' ?_ (.inl rfl);rw[hes2,e0f hil',yB λe=>hi0 e.symm];exact hst3
  have hfalse: ∀j,(yD ops.size oA).getD j oA=false:=λj=>by
    simp only[Array.getD];split;simp;rfl
  refine step ops.size _ a _ (aH (cH _ _) dE) ⟨dE,a0p L, ?_,λj o t hj=> ?_,λt _=>rfl,λj v kv hj=> ?_⟩;rw[hfalse,vD];obtain⟨hd,K,D,hi⟩:=hs;exact⟨hd,K,D,⟨hi.slots.mono λ_ _=>World.drew_rep,hi.hinv.drew,hi.grow.trans<|Grow.drew _ _ _ _⟩⟩;rw[hfalse]at hj;cases hj;rw[hfalse]at hj;cases hj
def N0W(r:Option<|List<|SV×Option (SV×SV)):List (SV×Option (SV×SV)):=match r with|some x=>x|none=> []
def K.mapLitC(kt:Nat){L2:LE}(h:o0x jB c=jB)(hm:P.follows .mixedOrders=jB)(hn:H.length=n)
    (hlit:(Go.Sy.mapLit P n kt (h0I c).toList 0 L).isSome=jB) (hst:t0w (h0I c)=jB) (h0:(match(h0I c)[0]? with|some o=>(match o.op with| .makeMap _ none=>jB|_=>oA)|none=>oA)=jB)
    (hpair:A0x P kt (N0W<|Go.Sy.mapLit P n kt (h0I c).toList 0 L)=jB) (hes:(esL (N0W<|Go.Sy.mapLit P n kt (h0I c).toList 0 L) 0 λ_=>jB)=es) (ts:List Nat) (hL:g0r ts (w0w (h0I c).toList (N0W<|Go.Sy.mapLit P n kt (h0I c).toList 0 L) L)=L2)
    (k:PJ F Q .normal L2<|H++ [.pmap es]):J F P c L H Q:=by
  cases hr:Go.Sy.mapLit P n kt (h0I c).toList 0 L with
  |none=>rw[hr]at hlit;cases hlit
  |some VI=>
    rw[hr]at hpair hes hL;exact K.mapLit kt h hm hn hr hst h0 hpair hes ts hL k
def G0H{K:Type}{ek:K->SV}{ev:V->SV}(h1: ∀f a,SV.rn f (ek a)=ek a)(h2: ∀f b,SV.rn f (ev b)=ev b)(f:Nat->Nat)(ms:List<|K×V):Ent.rn f (.pmap<|r0n ek ev ms)= .pmap (r0n ek ev ms):=by
  simp only[Ent.rn,r0n,ci];congr 1;exact bH λp _=>by simp[h1,h2]
def B0x{K:Type}{ek:K->SV}{ev:V->SV}(h1: ∀m a,SV.refs m (ek a)=jB)(h2: ∀m b,SV.refs m (ev b)=jB)(m:Nat)(ms:List<|K×V):Ent.refs m (.pmap<|r0n ek ev ms)=true:=by
  simp[Ent.refs,r0n,h1,h2]
end
def y0Y(P:Program)(o:Oper)(ρ:Env)(H:a0e)(idx:Nat):Option (Eff×Bool):=
  match o.op with
  | .slice t x none hi none=>match P.underlying t,a0B ρ x with
    |some (.array len e),vA (.ptr i off)=>match i0O ρ hi (len:Int)with
      |some h=>bif oD 0 (P.cellsOf e)then vA (⟨.sl i off h.toNat<|P.cellsOf e,[],[]⟩,inS 0 h len)else none
      |none=>none
    |_,_=>none
  | .store t x y=>match a0B ρ x,(a0B ρ y).bind SV.cells? with
    |some (.ptr i off),vA ps=>match H[i]? with
      |some (.box cs)=>bif oB ps.length (P.cellsOf t)&&oD 0 ps.length then vA (⟨.undef,[i],[(i, .box<|splice cs off ps)]⟩,yC (off+ps.length) cs.length)else none
      |_=>none
    |_,_=>none
  | .convert src dst x=>match P.underlying src,P.underlying dst,a0B ρ x with
    |some (.slice e),vA .string,vA (.sl j off n k)=>match P.underlying e,H[j]? with
      |some (.int .u8),vA (.box cs)=>bif j0j P src (.sl j off n k)&&oB k 1 then vA (⟨.str<|((cs.drop off).take<|n*1).map byteOf,[j],[]⟩,yC (off+n*1) cs.length&&(a0P ((cs.drop off).take<|n*1)&&((cs.drop off).take<|n*1).all o0U))else none
      |_,_=>none
    |_,_,_=>none
  | .call c=>match c.callee with
    | .builtin .append=>match c.args.toList,c.argTypes.toList with
      | [x,y],[t,tx]=>match P.underlying t,a0B ρ x,a0B ρ y with
        |some (.slice e),vA .nl,vA (.sl j off n k)=>match H[j]? with
          |some (.box cs)=>bif j0j P tx (.sl j off n k)&&(oB k (P.cellsOf e)&&i0K P e (P.cellsOf e))then vA (⟨.vc idx,[j],[(idx, .vec n (P.cellsOf e) e<|(cs.drop off).take<|n*P.cellsOf e)]⟩,yC (off+n*P.cellsOf e) cs.length&&(a0P ((cs.drop off).take<|n*P.cellsOf e)&&B0o P e n))else none
          |_=>none
        |some (.slice e),vA (.vc i),vA (.sl j off n k)=>match H[i]?,H[j]? with
          |some (.vec n' k' e' cs'),vA (.box cs)=>bif j0j P tx (.sl j off n k)&&(oB k k'&&(oB e e'&&i0K P e k'))then vA (⟨.vc idx,[i,j],[(i, .gone),(idx, .vec (n'+n) k' e<|cs'++(cs.drop off).take (n*k'))]⟩,yC (off+n*k') cs.length&&(a0P ((cs.drop off).take<|n*k')&&B0o P e (n'+n)))else none
          |_,_=>none
        |_,_,_=>none
      |_,_=>none
    |_=>none
  |_=>none
theorem v0K{P:Program}{H:a0e}{idx:Nat}(h:y0Y P o ρ H idx=vA (ef,b))(hb:b=jB):a0D P o ρ H idx=vA ef:=by
  unfold y0Y at h;split at h;rename_i t x hi ho;split at h;rename_i len e i off hu hx;split at h;rename_i hh hbd
  cases hk:oD 0 (P.cellsOf e)with
  |false=>rw[hk]at h;cases h
  |true=>
    rw[hk]at h;simp only[wC,aj,aG]at h;obtain⟨rfl,rfl⟩:=h;obtain⟨q1,q2,q3⟩:=n0s.1 hb;have hk':0<P.cellsOf e:=ag hk;unfold a0D a0k a0o;simp only[ho,hu,hx,hbd];rw[vB ⟨q2,q3,hk'⟩]
  cases h;cases h;rename_i t x y ho;split at h;rename_i i off ps h1 h2;split at h;rename_i cs h3
  cases hk:(oB ps.length (P.cellsOf t)&&oD 0 ps.length)with
  |false=>rw[hk]at h;cases h
  |true=>
    rw[hk]at h;simp only[wC,aj,aG]at h;obtain⟨rfl,rfl⟩:=h;simp only[aa]at hk;have hle:off+ps.length<=cs.length:=ag hb;unfold a0D a0k a0o;simp only[ho,h1,h2,h3,b0H];rw[vB ⟨ae hk.1,ag hk.2,hle,λh=>by cases h⟩];rfl
  cases h;cases h;rename_i src dst x ho;split at h;rename_i e j off n k h1 h2 h3;split at h;rename_i cs he hj
  cases hk:(j0j P src (.sl j off n k)&&oB k 1)with
  |false=>rw[hk]at h;cases h
  |true=>
    rw[hk]at h;simp only[wC,aj,aG]at h;obtain⟨rfl,rfl⟩:=h;simp only[aa]at hk hb;have hk1:=ae hk.2;subst hk1;have hle:=ag hb.1
    have hsc:w0v 1 (.sl j off n 1) H=vA (n,(cs.drop off).take<|n*1,[j]):=by
      unfold w0v;simp only[hj];rw[vB ⟨trivial,hle,hb.2.1⟩]
    unfold a0D a0k a0o;simp only[ho,h1,h2,h3,he,hsc,t0Q];rw[vB ⟨hk.1,hb.2.2⟩]
  cases h;cases h;rename_i c ho;split at h;rename_i hc;split at h;rename_i x y t tx ha ht;split at h;rename_i e j off n k hu hx hy;split at h;rename_i cs hj
  cases hk:(j0j P tx (.sl j off n k)&&(oB k (P.cellsOf e)&&i0K P e (P.cellsOf e)))with
  |false=>rw[hk]at h;cases h
  |true=>
    rw[hk]at h;simp only[wC,aj,aG]at h;obtain⟨rfl,rfl⟩:=h;simp only[aa]at hk hb;obtain⟨k1,k2,k3⟩:=hk;have k2:=ae k2;have hle:=ag hb.1
    have hsc:B0i P e (P.cellsOf e) tx (.sl j off n k) H=vA (n,(cs.drop off).take<|n*P.cellsOf e,[j]):=by
      unfold B0i;simp only[k1,if_true];unfold w0v;simp only[hj];rw[vB ⟨k2,hle,hb.2.1⟩]
    unfold a0D a0k a0o;simp only[ho,hc,z0G];unfold n0R;simp only[ha,ht,hu,hx,hy,hsc];rw[vB ⟨k3,rfl,s0u hb.2.2⟩]
  cases h;rename_i e i j off n k hu hx hy;split at h;rename_i n' k' e' cs' cs hi hj
  cases hk:(j0j P tx (.sl j off n k)&&(oB k k'&&(oB e e'&&i0K P e k')))with
  |false=>rw[hk]at h;cases h
  |true=>
    rw[hk]at h;simp only[wC,aj,aG]at h;obtain⟨rfl,rfl⟩:=h;simp only[aa]at hk hb;obtain⟨k1,k2,k3,k4⟩:=hk;have k2:=ae k2;have k3:=ae k3;have hle:=ag hb.1
    have hsc:B0i P e k' tx (.sl j off n k) H=vA (n,(cs.drop off).take<|n*k',[j]):=by
      unfold B0i;simp only[k1,if_true];unfold w0v;simp only[hj];rw[vB ⟨k2,hle,hb.2.1⟩]
    unfold a0D a0k a0o;simp only[ho,hc,z0G];unfold n0R;simp only[ha,ht,hu,hx,hy,hi,hsc];rw[vB ⟨k3,k4,rfl,s0u hb.2.2⟩]
  cases h;cases h;cases h;cases h;cases h
section
variable {F : Fr}{P : Program}{L : LE}{H : a0e}{Q : g0c}{m : Option Nat}{ops : Array Oper}{p : Nat}{tr : List (List Nat × List Nat)}
def A0i(P:Program)(m:Option Nat)(ops:Array Oper)(p:Nat)(tr:List<|List Nat×List Nat)(L:LE)(H:a0e):Option (Option Nat×Eff×Bool×List (List Nat×List Nat)):=
  match ops.toList[p]? with
  |none=>none
  |some o=>match a0X ops (a0p L) o with
    |some jB=>bif b0R o then none else match y0Y P o (a0p L) H (I0s m ops p H)with
      |some (ef,c)=>bif okM m ops p o ef tr H then vA (o.dst,ef,c,trM m ops p o ef tr)else none
      |none=>none
    |_=>none
theorem RJ.relS{c:Bool}(h:A0i P m ops p tr L H=vA (d,ef,c,tr2))(hc:c=jB)(hn:c=jB->ef=ef')(hH:b0a H ef'.wr=H2)(k:RJ F P m ops (p+1) tr2 (g0g L d ef'.v) H2 Q):RJ F P m ops p tr L H Q:=by
  unfold A0i at h;have hn':=hn hc;subst hn';subst hH;split at h;cases h;rename_i o ho;split at h;rename_i hg
  cases hcc:b0R o with
  |true=>rw[hcc]at h;cases h
  |false=>
    rw[hcc]at h;simp only[vD]at h;split at h;rename_i ef2 c2 he
    cases hok:okM m ops p o ef2 tr H with
    |false=>rw[hok]at h;cases h
    |true=>
      rw[hok]at h;simp only[wC,aj,aG]at h;obtain⟨rfl,rfl,rfl,rfl⟩:=h;exact RJ.step ho hg hcc (v0K he hc) hok k
    cases h
  cases h
end
def inP(o:Nat)(j:Int)(n:Nat):Bool:=yA (0<=j)&&yA ((o:Int)+j<n)
def E0J{o:Nat}:inP o j n=jB↔0<=j/\(o:Int)+j<n:=by simp[inP]
section
variable {T : Type}{enc : T -> List SV}{k : Nat}
def N.storeB(hk: ∀x,(enc x).length=k){o:Nat}{xs:List T}{y:T}(h:inP o j xs.length=jB):
    (⟨v,rd,[(i, .box<|splice (xs.flatMap enc) (o*k+j.toNat*k)<|enc y)]⟩:Eff)=⟨v,rd,[(i, .box<|(d0a xs ((o:Int)+j) y).flatMap enc)]⟩:=by
  obtain⟨h1,h2⟩:=E0J.1 h;rw[<-bV,show o+j.toNat=((o:Int)+j).toNat by omega,w0N hk<|f0d.2 ⟨dA,h2⟩]
def w0L(hk: ∀x,(enc x).length=k){o:Nat}{xs:List T}{y:T}(h:inP o j xs.length=jB):yC (o*k+j.toNat*k+(enc y).length) (xs.flatMap enc).length=true:=by
  obtain⟨h1,h2⟩:=E0J.1 h;rw[<-bV,show o+j.toNat=((o:Int)+j).toNat by omega];exact k0X hk<|f0d.2 ⟨dA,h2⟩
def w0J(hk: ∀x,(enc x).length=k)(xs:List T)(o:Nat){n:Int}(hn:0<=n):((xs.flatMap enc).drop<|o*k).take (n.toNat*k)=(cut xs o<|(o:Int)+n).flatMap enc:=by
  rw[k0d hk,i0G hk];unfold cut;rw[show((o:Int)+n).toNat=o+n.toNat by omega,bG,List.drop_take];congr 2;omega
def H0i(hk: ∀x,(enc x).length=k){xs:List T}{o:Nat}{n:Int}(h:inS o ((o:Int)+n) xs.length=jB):yC (o*k+n.toNat*k) (xs.flatMap enc).length=true:=by
  obtain⟨_,h1,h2⟩:=n0s.1 h;rw[<-bV,l0S hk,co];exact aK k dA
def K0K{xs:List T}{o:Nat}{n:Int}(h:inS o ((o:Int)+n) xs.length=jB):(cut xs o<|(o:Int)+n).length=n.toNat:=by
  obtain⟨_,h1,h2⟩:=n0s.1 h;simp[cut];omega
def B0E(hp: ∀x,a0P (enc x)=jB)(xs:List T):a0P (xs.flatMap enc)=true:=by
  induction xs with
  |nil=>rfl
  |cons x xs ih=>
    rw[aD];unfold a0P at*;rw[ck,hp x,ih];rfl
def M0x{o:Nat}{n:Int}{len:Nat}(h:inS o ((o:Int)+n) len=jB):0<=n:=by
  obtain⟨_,h1,_⟩:=n0s.1 h;omega
end
section
variable {T : Type}{enc : T -> List SV}{k : Nat}
def N.appB(hk: ∀x,(enc x).length=k){idx e o:Nat}{xs ys:List T}{n:Int}(h:inS o ((o:Int)+n) xs.length=jB):
    (⟨v,rd,[(i, .gone),(idx, .vec (ys.length+n.toNat) k e<|ys.flatMap enc++((xs.flatMap enc).drop<|o*k).take (n.toNat*k))]⟩:Eff)=⟨v,rd,[(i, .gone),(idx, .vec (ys++cut xs o ((o:Int)+n)).length k e<|(ys++cut xs o ((o:Int)+n)).flatMap enc)]⟩:=by
  rw[w0J hk xs o<|M0x h,az,K0K h,bT]
def K0X(hk: ∀x,(enc x).length=k)(hp: ∀x,a0P (enc x)=jB){xs:List T}{o:Nat}{n:Int}{r:Bool}(h:inS o ((o:Int)+n) xs.length=jB)(hr:r=jB):
    (yC (o*k+n.toNat*k) (xs.flatMap enc).length&&(a0P (((xs.flatMap enc).drop<|o*k).take<|n.toNat*k)&&r))=true:=by
  rw[w0J hk xs o<|M0x h,H0i hk h,B0E hp,hr];rfl
end
section
variable {F : Fr}{P : Program}{L : LE}{H : a0e}{Q : g0c}{ops : Array Oper}{p : Nat}{tr : List (List Nat × List Nat)}
end
def u0y(f:Nat->Nat): ∀a b:List SV,SV.rnL f (a++b)=SV.rnL f a++SV.rnL f b
  | [],b=>rfl
  |x::a,b=>by simp only[bn,SV.rnL,u0y f a b]
def r0I(m:Nat): ∀a b:List SV,SV.refsL m (a++b)=(SV.refsL m a&&SV.refsL m b)
  | [],b=>by simp[SV.refsL]
  |x::a,b=>by simp only[bn,SV.refsL,r0I m a b,Bool.and_assoc]
def y0N{enc:T->List SV}(h: ∀f x,SV.rnL f (enc x)=enc x)(f:Nat->Nat)(xs:List T):Ent.rn f (.box<|xs.flatMap enc)= .box (xs.flatMap enc):=by
  simp only[Ent.rn];congr 1
  induction xs with
  |nil=>rfl
  |cons x xs ih=>rw[aD,u0y,h,ih]
def x0h{enc:T->List SV}(h: ∀m x,SV.refsL m (enc x)=jB)(m:Nat)(xs:List T):Ent.refs m (.box<|xs.flatMap enc)=true:=by
  simp only[Ent.refs]
  induction xs with
  |nil=>rfl
  |cons x xs ih=>rw[aD,r0I,h,ih];rfl
end
theorem H0n{P:Program}: ∀(l:List<|String×DataW Unit) (ps:List MemPlace),DataW.LaidVars P w l ps-> ∀nm d,(nm,d)∈l->
    ∃g t cs fuel p,P.globalNamed nm=vA g/\(P.globals[g]?).map (·.type)=vA t/\w.var? P nm=vA cs/\DataW.trod (λ_=>()) P w 0 (λ_=>jB) oA fuel t cs.toList=vA (d,p):=by
  intro l
  induction l with
  |nil=>intro ps _ nm d h;simp at h
  |cons x r ih=>
    intro ps h nm d hm;obtain⟨n,d'⟩:=x;obtain⟨g,t,cs,fuel,p,q,h1,h2,h3,h4,h5,_⟩:=h;rcases aY.1 hm with e|e;cases e;exact⟨g,t,cs,fuel,p,h1,h2,h3,h4⟩;exact ih q h5 nm d e
theorem q0D{P:Program}{laid:List (String×DataW Unit)}(hp:(laid.all λx=>x.2.handleName?.isNone)=jB)(h:laidMetH P laid w){nm:String}{g t e:Nat}{k:IntKind}(ns:List Int)
    (hm:(nm,DataW.agg<|ns.map λz=> .lit<|.int k z)∈laid) (hg:P.globalNamed nm=vA g) (ht:(P.globals[g]?).map (·.type)=vA t) (hu:P.underlying t=vA (.array n e)) (hue:P.underlying e=vA (.int k)) (he:P.cellsOf e=1) (hct:P.cellsOf t=n):
    Rep w (KW w) (λ_=>none) (.pointer<|vA ⟨g,0,none⟩) (.ep<|ns.map<|SV.int k):=by
  rw[MakeChecks.laidMetH_plain _ _ _ hp]at h;obtain⟨ps,hl,_,_⟩:=h;obtain⟨g',t',cs,fuel,p,h1,h2,h3,h4⟩:=H0n _ _ hl _ _ hm;obtain rfl:=au<|hg.symm.trans h1;obtain rfl:=au<|ht.symm.trans h2;obtain⟨xs,m,_,ex,hlen,hxl,hel⟩:=DataW.trod_array hu h4;rw[hct]at hlen;have e3:ns.map (λz=>(DataW.lit (.int k z):DataW Unit))=xs.map (·.1):=DataW.agg.inj (Prod.mk.inj ex).1;have hnl:ns.length=n:=by have:=congrArg List.length e3;simpa [hxl]using this
  have hval:cs.toList=ns.map (oJ k):=by
    apply bC;intro i;by_cases hi:i<n;have hE:=hel i hi;rw[he,Nat.mul_one,af (dA:i<xs.length)]at hE;obtain⟨z,e1,e2,_⟩:=DataW.trod_int hue hE;have e4:=congrArg (λl=>l[i]?) e3;simp only[ar,af (dA:i<xs.length),af (dA:i<ns.length),e2,aZ,aj,DataW.lit.injEq,Lit.int.injEq,true_and]at e4;rw[ar,af (dA:i<ns.length),aZ,e4];have:((cs.toList.drop i).take 1)[0]?=vA (.int k z):=by rw[e1];rfl
    rw[aM,vB dA,cR]at this;simpa using this;rw[aC dA,aC dD]
  have hcell: ∀(j:Nat) v,(ns.map<|oJ k)[j]?=vA v->w.cell? ⟨g,0+j,none⟩=vA v:=λj v hj=>by
    rw[bg,World.var?_cell h1 h3 j];rw[<-hval]at hj;simpa using hj
  refine .ep g 0 (ns.map<|oJ k) _ dE hcell ?_ (λv hv=> ?_) ?_ (λj v c hv hc=> ?_)
  · rw[bg]
    have hsz:w.heap[g]?=none\/ ∃x,w.heap[g]?=vA x:=by cases w.heap[g]?<;>simp
    have hv3:=h3;simp only[World.var?,h1,ah]at hv3;unfold KW;split at hv3;rename_i c a b hb;rw[hb];cases hv3;have:=congrArg List.length hval;simp only[cu,List.length_map]at this⊢;omega;cases hv3
  obtain⟨z,_,rfl⟩:=be.1 hv;rfl;simp only[a0P,List.all_map,wD];intro z _;rfl;rw[ar]at hv hc
  cases hx:ns[j]? with
  |none=>rw[hx]at hv;cases hv
  |some z=>rw[hx]at hv hc;cases hv;cases hc;exact .int _ _
section
variable [Inhabited GT]
def csc:Code->Code| .scope a=>a|c=>c
def J0Z:Code->Bool| .scope _=>jB|_=>oA
def K0a:Code->Bool| .label _=>jB|_=>oA
section
variable {F : Fr}{P : Program}{c : Code}{L : LE}{H : a0e}{Q : g0c}
theorem K.scope(h:J0Z c=jB)(k:J F P (csc c) L H<|Exit.noGoto Q):J F P c L H Q:=by
  cases c<;>first|cases h|skip
  exact λhin a w hs=>wp_scope_straight<|k hin a w hs
theorem K.label(h:K0a c=jB)(k:PJ F Q .normal L H):J F P c L H Q:=by
  cases c<;>first|cases h|skip
  exact λ_ a w hs=>wp_label<|k a w hs
end
theorem SC.byteIdx{P:Program}{s:List UInt8}{c:Int}(hc:b0o P f=jB)(h: ∀(b:ByteArray) (c:Int) (w:World),Calls P f #[.string b, .int .u8 c] w λe w'=>e= .returned (.int .i64<|Lib.indexByte b.data.toList c.toNat.toUInt8)/\w'=w):
    SC P f [.str s, .int .u8 c] [] (.int .i64<|Lib.indexByte s c.toNat.toUInt8) []:=by
  refine⟨hc,λw K D vals hl hrep hi hG=> ?_⟩
  match vals,hl,hrep with
  | [x,y],_,hrep=>
    have h0:=hrep 0 x _ rfl rfl;have h1:=hrep 1 y _ rfl rfl
    cases h0 with
    |str b=>
    cases h1 with
    |int _ _=>
    refine(h b c w).mono ?_;rintro e w' ⟨he,rfl⟩;exact⟨_,he,Good.here hi<|.int _ _⟩
def M0S{γ:Type}{f:α->Option γ}{g:β->Option γ}{a:α}{r:γ}(h:zG f g (.inl a)=vA r):f a=vA r:=h
def M0R{γ:Type}{f:α->Option γ}{g:β->Option γ}{b:β}{r:γ}(h:zG f g (.inr b)=vA r):g b=vA r:=h
section
variable {F : Fr}{P : Program}{c : Code}{L : LE}{H : a0e}{Q : g0c}{ops : Array Oper}{p : Nat}
def kI[Inhabited T]{enc:T->List SV}{xs:List T}(d:Nat)(hk: ∀x,(enc x).length=k)(hm:inR j xs.length=jB)(kk:RJ F P none ops (p+1) [] (g0g L (vA d)<|.ep<|enc<|nth xs j) H Q)
    (h:u0h P none ops p [] L H=vA (vA d,⟨.ep<|((xs.flatMap enc).drop<|j.toNat*k).take k,[],[]⟩,inR j xs.length,[]):=by kernel_rfl):RJ F P none ops p [] L H Q:=
  RJ.rel h hm (λhc=>N.idx hk hc) rfl kk
def kG{s:List UInt8}(d:Nat)(hm:inR j s.length=jB)(kk:RJ F P none ops (p+1) [] (g0g L (vA d)<|.int .u8 (((s.getD j.toNat 0).toNat:Nat):Int)) H Q)
    (h:u0h P none ops p [] L H=vA (vA d,⟨.int .u8 (((s.getD j.toNat 0).toNat:Nat):Int),[],[]⟩,inR j s.length,[]):=by kernel_rfl):RJ F P none ops p [] L H Q:=
  RJ.rel h hm (λ_=>rfl) rfl kk
def kA(d:Nat)(hs:SC P f args [] v [])(kk:RJ F P none ops (p+1) [] (g0g L (vA d) v) H Q)(h:h0P none ops p [] L []=vA (vA d,f,args,[]):=by kernel_rfl)(hr:SV.refsL 0 args=true:=by kernel_rfl)(hv:SV.refs 0 v=true:=by kernel_rfl):RJ F P none ops p [] L H Q:=by
  refine RJ.call0 h hr ?_ hs hv kk;exact LeL.refl args
def kB{m:Option Nat}{tr:List (List Nat×List Nat)}{X Y:α}{r:α}(d:Nat)(h:(bif b then X else Y)=r)(h1:X=r->RJ F P m ops p tr ((d, .bool jB)::L) H Q)(h2:Y=r->RJ F P m ops p tr ((d, .bool oA)::L) H Q)
    (hd:lk L d= .bool b:=by kernel_rfl):RJ F P m ops p tr L H Q:=RJ.caseB d hd (λhb=>h1<|condT hb h) λhb=>h2<|condF hb h
variable {m : Option Nat}{tr tr2 : List (List Nat × List Nat)}
def kQ(d:Nat)(v:SV)(rd:List Nat)(hm:b=jB)(kk:RJ F P m ops (p+1) tr2 (g0g L (vA d) v) H Q)(h:u0h P m ops p tr L H=vA (vA d,⟨v,rd,[]⟩,b,tr2):=by kernel_rfl):RJ F P m ops p tr L H Q:=RJ.rel h hm (λ_=>rfl) rfl kk
def kJ[Inhabited T]{enc:T->List SV}{xs:List T}(d:Nat)(hk: ∀x,(enc x).length=k)(hm:inR j xs.length=jB)(kk:RJ F P m ops (p+1) tr2 (g0g L (vA d)<|.ep<|enc<|nth xs j) H Q)
    (h:u0h P m ops p tr L H=vA (vA d,⟨.ep<|((xs.flatMap enc).drop<|j.toNat*k).take k,[],[]⟩,inR j xs.length,tr2):=by kernel_rfl):RJ F P m ops p tr L H Q:=RJ.rel h hm (λhc=>N.idx hk hc) rfl kk
theorem kCG(d:Option Nat)(σ:List Nat)(hs:SC P f args0 H0 v0 H0')(kk:RJ F P none ops (p+1) [] (g0g L d v) H2 Q)(h:h0P none ops p [] L []=vA (d,f,args,[]):=by kernel_rfl)(ha:args=SV.rnL (a0Y σ) args0:=by kernel_rfl)
    (hl:σ.length=H0.length:=by kernel_rfl) (hg:σ.map (λi=>H[i]?)=H0.map (λen=>vA<|Ent.rn (a0Y σ) en):=by kernel_rfl) (hn:σ.Nodup:=by decide) (hr0:H0.all (Ent.refs H0.length)=true:=by kernel_rfl) (hlive:H0.all h0e=true:=by kernel_rfl) (hr:SV.refsL H0.length args0=true:=by kernel_rfl)
    (hle':yC H0.length H0'.length=true:=by kernel_rfl) (hv:SV.rn (gOf (a0Y σ) H0.length H.length) v0=v:=by kernel_rfl) (hH:d0y (a0Y σ) H0.length H H0'=H2:=by kernel_rfl):RJ F P none ops p [] L H Q:=
  RJ.callG σ h ha hl hg hn hr0 hlive hr (LeL.refl _) hs hle' hv hH kk
theorem kW{L2:LE}(hm:F.H0=H0)(hdom: ∀i,F.H0.length<=i->F.D0 i=none)(σ:List Nat)(kk:PJ F Q e L2 H2)(hl:σ.length=H2.length:=by kernel_rfl)(hg:σ.map (λi=>H[i]?)=H2.map (λen=>vA<|Ent.rn (a0Y σ) en):=by kernel_rfl)(hn:σ.Nodup:=by decide)
    (hr:H2.all (Ent.refs H2.length)=true:=by kernel_rfl) (hk:σ.take H0.length=jC H0.length:=by kernel_rfl) (hv:L2.map (λp=>lk L p.1)=L2.map (λp=>SV.rn (a0Y σ) p.2):=by kernel_rfl) (hvr:L2.all (λp=>SV.refs H2.length p.2)=true:=by kernel_rfl):PJ F Q e L H:=
  PJ.wk (Wk.sel H0.length (by rw[hm]) hdom σ hl hg hn hr hk hv hvr) kk
theorem kLN{R:S->LE×a0e}{o:O}{s':S}(ts:List Nat)(hL:g0r ts L=(R s').1:=by kernel_rfl)(hH:H=(R s').2:=by kernel_rfl):PJ F (p0r F R Q o<|.inl s') .normal L H:=PJ.loopNext ts hL hH
theorem kb(i:Nat)(k:J F P (cb c) L H<|vF i Q)(h:z0j i c=true:=by kernel_rfl):J F P c L H Q:=K.block i h k
theorem kl{step:S->Option (S⊕O)}{s0:S}{o:O}(R:S->LE×a0e)(ho:a0m step n s0=vA o)(ts:List Nat)(body: ∀s x,step s=vA x->J F P (cp c) (R s).1 (R s).2 (p0r F R Q o x))(h:E0F c=true:=by kernel_rfl)(hL:g0r ts L=(R s0).1:=by kernel_rfl)(hH:H=(R s0).2:=by kernel_rfl):J F P c L H Q:=
  K.loop h R ho ts hL hH body
end
end
end Go.Sy
