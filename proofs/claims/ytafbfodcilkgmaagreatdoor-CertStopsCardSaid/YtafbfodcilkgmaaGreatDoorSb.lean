import Derived.Still
import Derived.KernelRfl
import Derived.ProofKit
import Derived.SizedLaws
import Derived.OpenShut
import Derived.Laws.Cover3
import Derived.Laws.IdiomRangeMap
import Derived.MakeChecks
import Derived.ChangeArms
import Derived.FnData
import Derived.Scope
import Derived.Lib.Bytealg
import Derived.Laws.Externs
import Derived.Test.YtafbfodcilkgmaaGreatDoorSa
set_option linter.all false
namespace Go.Sy
open Go Go.RowKit
open _root_.Array renaming replicate->jE
open Go.Code renaming wp_mono->jJ
open Go.Exit renaming inBlock->zF
open Go.IntKind renaming bits->jI,signed->wH,wrap->oA
open _root_.List renaming all_eq_true->vD,range->yC,range'->jH,replicate->zD
open _root_.Nat renaming beq->vC,ble->qD,blt->qE
open Go.Op renaming operands->oB
open _root_.Prod renaming fst->yE,snd->qK
open Go.Region renaming binds->qF,lexB->zG,lexFrom->jK,ready->yG
open Go.Result renaming andThen->oE,andThen_ok->jD
open Go.Sem renaming run_bind->yD,run_pure->vE
open _root_.Sum renaming elim->qG
open _root_.UInt8 renaming ofNat->oI
open Go.Utf8 renaming encode->yI
open Go.Value renaming int->vJ
open _root_.Decidable renaming decide->wB
open _root_.Bool renaming false->vB,true->yB
open _root_.Option renaming some->qB
variable {o:Oper} {ops:Array Oper} {base i id n k:Nat} {ef ef':Eff} {x y:Operand} {P:Program} {ρ ρ':Env} {H' H0 H0' H2:a0e} {f:FuncId} {args args0 cs args':List SV} {v0 v s v1 s0:SV} {en0:Ent} {d:Option Nat} {t kt:TypeId} {r:Value} {e:Exit} {w w':World} {D:DM} {g:Nat->Nat} {tm:Array Value} {a:Act} {c c1 c2:Code} {b:Bool} {tr2:List (List Nat×List Nat)} {S O X α β T V A R:Type} {j l h:Int} {rd:List Nat} {F:Fr} {fs:Array Field} {es:List (SV×SV)} {listed:Array Bool}
section
variable [Inhabited GT]
def d0A(o:Oper):Bool:=
  match o.op with
  | .box _ _=>yB
  | .alloc _=>yB
  | .buildSlice _ _ _=>yB
  | .makeSlice _ _ _=>yB
  | .makeMap _ _=>yB
  | .call c=>match c.callee with
    | .builtin .append=>yB
    | .value _=>yB
    |_=>vB
  |_=>vB
theorem k0N (h:c0d o=yB):d0A o=true:=by
  unfold c0d at h;unfold d0A;split at h;rename_i c ho;split at h;rename_i f hf;simp[ho,hf];cases h;cases h
def f0R(ops:Array Oper)(base i:Nat):Nat:=base+((ops.toList.take i).filter d0A).length
def a0J(H:a0e):List (Nat×Ent)->a0e
  | []=>H
  |(i,en)::r=>a0J (H.set i en) r
def h0s(o:Oper):Bool:=
  match o.op with
  | .indexAddr _ _ _=>yB
  | .call c=>match c.callee with
    | .builtin .len=>yB
    |_=>vB
  |_=>vB
def i0g(o:Oper):Bool:=
  match o.op with
  | .store _ _ _=>yB
  |_=>vB
def E0W(x:Nat):List Nat:=[2*x,2*x+1]
def h0W(o:Oper)(ef:Eff):List Nat:=bif h0s o then ef.rd.map (λx=>2*x+1)else ef.rd.flatMap E0W
def g0R(ops:Array Oper)(base i:Nat)(o:Oper)(ef:Eff):List Nat:=(bif i0g o then ef.wr.map (λx=>2*x.1)else ef.wr.flatMap λx=>E0W x.1)++(if d0A o then E0W (f0R ops base i)else [])
def n0f(a b:Option Ent):Prop:=a=b\/(∃n k e cs cs',a=qB (.vec n k e cs)/\b=qB (.vec n k e cs'))\/ ∃cs cs',a=qB (.box cs)/\b=qB (.box cs')
theorem x0E {x:Nat} (h:x∈ef.wr.map yE):2*x∈g0R ops base i o ef:=by
  obtain⟨y,hy,rfl⟩:=aX.1 h;unfold g0R;refine au.2 (.inl ?_)
  cases i0g o with
  |true=>exact aX.2 ⟨y,hy,rfl⟩
  |false=>exact cP.2 ⟨y,hy,by simp[E0W]⟩
theorem L0g {x:Nat} (hs:i0g o=vB)(h:x∈ef.wr.map yE):2*x+1∈g0R ops base i o ef:=by
  obtain⟨y,hy,rfl⟩:=aX.1 h;unfold g0R;refine au.2 (.inl ?_);rw[hs];exact cP.2 ⟨y,hy,by simp[E0W]⟩
theorem A0k (h:d0A o=yB):2*f0R ops base i∈g0R ops base i o ef:=by
  unfold g0R;rw[qC h];exact au.2 (.inr (by simp[E0W]))
theorem p0w {x:Nat} (hs:h0s o=vB)(h:x∈ef.rd):2*x∈h0W o ef:=by
  unfold h0W;rw[hs];exact cP.2 ⟨x,h,by simp[E0W]⟩
theorem K0t {x:Nat} (h:x∈ef.rd):2*x+1∈h0W o ef:=by
  unfold h0W
  cases h0s o with
  |true=>exact aX.2 ⟨x,h,rfl⟩
  |false=>exact cP.2 ⟨x,h,by simp[E0W]⟩
theorem x0h {H:a0e} {idx:Nat} (hs:h0s o=yB)(h: ∀x∈o.op.operands,a0G ρ x=a0G ρ' x)(he:a0H P o ρ H idx=qB ef)(hr: ∀i∈ef.rd,n0f (H'[i]?) (H[i]?)):a0H P o ρ' H' idx=qB ef:=by
  have hloc:a0H P o ρ' H idx=qB ef:=n0z h he (λ_ _=>rfl);clear he h;unfold a0H at hloc⊢;split;rename_i v hv;rw[hv]at hloc;exact hloc;rename_i hv;rw[hv]at hloc;simp only at hloc;unfold h0s at hs;split at hs;rename_i t x y ho;simp only[a0q,ho]at hloc⊢;split at hloc;rename_i e i kk j h1 h2 h3;split at hloc;rename_i n k e' cs hH;split at hloc;rename_i hc;cases hloc;rcases hr i dB with hq|⟨n',k',e2,cs1,cs2,q1,q2⟩|⟨cs1,cs2,q1,q2⟩;rw[hq,hH];simp only;rw[qC hc];rw[hH]at q2;cases q2;rw[q1];simp only;rw[qC hc];rw[hH]at q2;cases q2;cases hloc;cases hloc;cases hloc;rename_i c ho;split at hs;rename_i hc;simp only[a0q,ho,hc]at hloc⊢;split at hloc;rename_i x t h1 h2;split at hloc;rename_i e i h3 h4;split at hloc;rename_i n k e' cs hH;cases hloc;rcases hr i dB with hq|⟨n',k',e2,cs1,cs2,q1,q2⟩|⟨cs1,cs2,q1,q2⟩;rw[hq,hH];rw[hH]at q2;cases q2;rw[q1];rw[hH]at q2;cases q2;cases hloc;cases hloc;cases hloc;cases hs;cases hs
def s0h(r1 w1 r2 w2:List Nat):Bool:=w1.all (λx=> !r2.contains x&& !w2.contains x)&&w2.all (λx=> !r1.contains x)
def N0e(P:Program)(ρ:Env)(o:Oper)(H:a0e)(ef:Eff):Prop:=
  ∃f args g args0 H0 v0,g0I ρ o=qB (f,args)/\args=SV.rnL g args0/\Sel H g H0/\(∀en∈H0,h0p en=yB)/\SV.refsL H0.length args0=yB/\SV.refs H0.length v0=yB/\SC P f args0 H0 v0 H0/\
    ef=⟨SV.rn g v0,(yC H0.length).map g,[]⟩
def N0f(P:Program)(ρ:Env)(o:Oper)(H:a0e)(idx:Nat)(ef:Eff):Prop:=
  ∃f args v0 en0,g0I ρ o=qB (f,args)/\SV.refsL 0 args=yB/\SC P f args [] v0 [en0]/\(H[idx]?=qB .res/\ ∀g,Ent.rn g en0=en0)/\ef=⟨SV.rn (λ_=>idx) v0,[],[(idx,en0)]⟩
def p0j(g:Nat->Nat)(n:Nat)(H0':a0e):List (Nat×Ent):=(yC n).map λj=>(g j,Ent.rn g (H0'.getD j .gone))
def N0d(P:Program)(ρ:Env)(o:Oper)(H:a0e)(ef:Eff):Prop:=
  ∃f args g args0 H0 v0 H0',g0I ρ o=qB (f,args)/\args=SV.rnL g args0/\Sel H g H0/\(∀en∈H0,h0p en=yB)/\SV.refsL H0.length args0=yB/\SV.refs H0.length v0=yB/\SC P f args0 H0 v0 H0'/\
    H0'.length=H0.length/\(∀(j:Nat) (en:Ent),H0'[j]?=qB en->Ent.refs H0.length en=yB)/\ef=⟨SV.rn g v0,(yC H0.length).map g,p0j g H0.length H0'⟩
def pOf(f:Nat->Nat)(m idx:Nat):Nat->Nat:=λj=>if j<m then f j else idx
def N0c(P:Program)(ρ:Env)(o:Oper)(H:a0e)(idx:Nat)(ef:Eff):Prop:=
  ∃f args g args0 H0 v0 H0',g0I ρ o=qB (f,args)/\args=SV.rnL g args0/\Sel H g H0/\(∀en∈H0,h0p en=yB)/\SV.refsL H0.length args0=yB/\SC P f args0 H0 v0 H0'/\
    H0'.length=H0.length+1/\H[idx]?=qB .res/\ef=⟨SV.rn (pOf g H0.length idx) v0,(yC H0.length).map g,p0j (pOf g H0.length idx) (H0.length+1) H0'⟩
def N0b(P:Program)(ρ:Env)(o:Oper)(H:a0e)(idx:Nat)(ef:Eff):Prop:=
  ∃f args g args0 H0 v0 en0,g0I ρ o=qB (f,args)/\args=SV.rnL g args0/\Sel H g H0/\(∀en∈H0,h0p en=yB)/\SV.refsL H0.length args0=yB/\SC P f args0 H0 v0 (H0++ [en0])/\
    H[idx]?=qB .res/\ef=⟨SV.rn (pOf g H0.length idx) v0,(yC H0.length).map g,[(idx,Ent.rn (pOf g H0.length idx) en0)]⟩
def L0K(P:Program)(ρ:Env)(o:Oper)(H:a0e)(idx:Nat)(ef:Eff):Prop:=N0e P ρ o H ef\/N0f P ρ o H idx ef\/N0d P ρ o H ef\/N0c P ρ o H idx ef\/N0b P ρ o H idx ef
def opD(P:Program)(ops:Array Oper)(base i:Nat)(o:Oper)(ρ:Env)(H:a0e)(ef:Eff):Prop:=
  match a0Z ops ρ o with
  |some yB=>if c0d o then L0K P ρ o H (f0R ops base i) ef else
      (a0H P o ρ H (f0R ops base i)=qB ef\/(n0A P o ρ H (f0R ops base i)=qB ef/\d0A o=yB)\/k0h P o ρ H=qB (ef,yB))/\(d0A o=yB->H[f0R ops base i]?=qB .res)/\ ∀x∈ef.wr,x.1<H.length
  |some vB=>ef=⟨.tup [],[],[]⟩
  |none=>False
def m0D(o:Oper)(rd fw:List Nat):List (List Nat×List Nat)->Nat->Bool
  | [],_=>yB
  |(r',w')::r,j=>(o.after.any (λe=>qF .any e&&e.on==j)||s0h r' w' rd fw)&&m0D o rd fw r (j+1)
def C0g(P:Program)(ops:Array Oper)(base:Nat):List (List Nat×List Nat)->List Oper->(Env->a0e->Prop)->Env->a0e->Prop
  |_,[],K,ρ,H=>K ρ H
  |tr,o::rest,K,ρ,H=> ∃ef,opD P ops base tr.length o ρ H ef/\m0D o (h0W o ef) (g0R ops base tr.length o ef) tr 0=yB/\C0g P ops base (tr++ [(h0W o ef,g0R ops base tr.length o ef)]) rest K (m0X ρ o.dst ef.v) (a0J H ef.wr)
theorem SC.place {H:a0e} {idx:Nat} (h:SC P f args [] v0 [en0])(hr:SV.refsL 0 args=yB)(hres:H[idx]?=qB .res)(hE: ∀g,Ent.rn g en0=en0):
    SC P f args H (SV.rn (λ_=>idx) v0) (H.set idx en0):=by
  refine⟨h.1,λw K D vals hlen hrep hi hG=> ?_⟩;have hil:idx<H.length:=(ab.1 hres).1;have hDi:D idx=none:=hi.ent idx _ hres
  have hsel:Sel H (λj=>j) []:=⟨λj en hj=>by simp at hj,λi j hi=>by simp at hi,λj en hj=>by simp at hj⟩
  have hrn: ∀(s:SV),SV.refs 0 s=yB->SV.rn (λj=>j) s=SV.rn (λj=>j) s:=λ_ _=>rfl
  refine(h.2 w K (m0F D (λj=>j) 0) vals hlen (λj x c hx hc=> ?_) (hsel.hinv hi) (j0C hG)).mono ?_;have hc0:=f0p hr j c hc
  have hid: ∀s,SV.refs 0 s=yB->Rep w K D x s->Rep w K (m0F D (λj=>j) 0) x s:=by
    intro s hs hx;have hu:=n0l (D':=D) (g:=λj=>j) hx (λ_ _ e=>e);exact h0B hu s rfl hs
  exact hid c hc0 (hrep j x c hx hc);rintro ex w' ⟨r,he,K',Ds,g,hi',hrr⟩;have nomem: ∀b,¬Mem (m0F D (λj=>j) 0) [] b:=by rintro b ⟨i,en,c,n,h1,_⟩;simp at h1
  have hDs: ∀j x,Ds j=qB x->(λi=>if i=idx then Ds 0 else D i) idx=qB x:=by
    intro j x hx
    cases j with
    |zero=>simpa using hx
    |succ j=>rw[hi'.dom (j+1) dB]at hx;cases hx
  have hnewb: ∀b c m,h0p en0=yB->Ds 0=qB (.at b c m)->w.heap.size<=b:=λb c m hlv hd=>by
    rcases g.new b ⟨0,_,c,m,rfl,hlv,hd⟩with h1|h1;exact absurd h1 (nomem b);exact h1
  have hget: ∀i en,(H.set idx en0)[i]?=qB en->(i=idx/\en=en0)\/(i≠idx/\H[i]?=qB en):=by
    intro i en hie;rw[aN]at hie;by_cases hii:idx=i;subst hii;rw[qC rfl,qC hil]at hie;cases hie;exact .inl ⟨rfl,rfl⟩;rw[wC hii]at hie;exact .inr ⟨Ne.symm hii,hie⟩
  refine⟨r,he,K',λi=>if i=idx then Ds 0 else D i,⟨g.os,g.tape,g.output,g.size,λb hb _=>g.block b hb (nomem b),g.cells,g.le,λb hb _=>g.kk b hb (nomem b),λi x hx=> ?_,λb hm=> ?_⟩,
    ⟨λi hle=> ?_,λi en hie=> ?_,λi j en en' b c m c' m' hie hje hl hl' hd hd'=> ?_,hi'.kw⟩,n0l hrr hDs⟩
  by_cases hii:i=idx;subst hii;rw[hDi]at hx;cases hx;simp only[wC hii];exact hx;obtain⟨i,en,c,m,h1,h2,h3⟩:=hm;rcases hget i en h1 with⟨rfl,rfl⟩|⟨hne,h4⟩;simp only[qC rfl]at h3;exact .inr (hnewb b c m h2 h3);simp only[wC hne]at h3;exact .inl ⟨i,en,c,m,h4,h2,h3⟩;simp only[List.length_set]at hle;simp only[wC (show i≠idx by omega)];exact hi.dom i hle;rcases hget i en hie with⟨rfl,rfl⟩|⟨hne,h4⟩;have h9:=E0n (D':=λq=>if q=i then Ds 0 else D q) (g:=λ_=>i) (hi'.ent 0 _ rfl) hDs (λhn=>by simpa using hn);rw[hE]at h9;exact h9
  refine(hi.ent i en h4).keep (λv s hr0=>hr0.mono g.cells g.le (λq x hx=>by
      by_cases hqi:q=idx;subst hqi;rw[hDi]at hx;cases hx
      simp only[wC hqi];exact hx)) (by simp only[wC hne]) (λb c m hl hd=> ?_)
  have hb:=(k0I hi ⟨i,en,c,m,h4,hl,hd⟩).1;exact⟨g.block b hb (nomem b),g.kk b hb (nomem b)⟩
  · rcases hget i en hie with⟨rfl,rfl⟩|⟨hne,h4⟩<;>rcases hget j en' hje with⟨rfl,rfl⟩|⟨hne',h4'⟩
    rfl;exfalso;simp only[qC rfl]at hd;simp only[wC hne']at hd';have h1:=hnewb b c m hl hd;have h2:=(k0I hi ⟨j,en',c',m',h4',hl',hd'⟩).1;omega;exfalso;simp only[wC hne]at hd;simp only[qC rfl]at hd';have h1:=hnewb b c' m' hl' hd';have h2:=(k0I hi ⟨i,en,c,m,h4,hl,hd⟩).1;omega;simp only[wC hne]at hd;simp only[wC hne']at hd';exact hi.inj i j en en' b c m c' m' h4 h4' hl hl' hd hd'
section
variable {P : Program} {ops : Array Oper} {base : Nat} {md : Region.Mode}
theorem e0v: ∀(wr:List (Nat×Ent)) (H:a0e),(a0J H wr).length=H.length
  | [],H=>rfl
  |(i,en)::r,H=>by simp[a0J,e0v r]
theorem o0f: ∀(wr:List (Nat×Ent)) (H:a0e),(∀x∈wr,x.1<H.length)->b0e H wr=a0J H wr
  | [],H,_=>rfl
  |(i,en)::r,H,h=>by
    simp only[b0e,a0J];have hi:=h (i,en) (aw ..);have:i0h H i en=H.set i en:=by unfold i0h;rw[qC hi]
    rw[this];exact o0f r _ (λx hx=>by rw[List.length_set];exact h x (ao _ hx))
theorem o0e: ∀(wr:List (Nat×Ent)) (H:a0e) (i:Nat),i∉wr.map yE->(a0J H wr)[i]?=H[i]?
  | [],H,i,_=>rfl
  |(j,en)::r,H,i,h=>by
    simp only[al,aS,not_or]at h;simp only[a0J];rw[o0e r _ i h.2,aN,wC (Ne.symm h.1)]
theorem u0r: ∀(wr:List (Nat×Ent)) (H:a0e) (i:Nat) (en:Ent),i∉wr.map yE->a0J (H.set i en) wr=(a0J H wr).set i en
  | [],H,i,en,_=>rfl
  |(j,en')::r,H,i,en,h=>by
    simp only[al,aS,not_or]at h;simp only[a0J];rw[List.set_comm _ _ h.1,u0r r _ i en h.2]
theorem p0N: ∀(w1 w2:List (Nat×Ent)) (H:a0e),(∀x∈w1.map yE,x∉w2.map yE)->a0J (a0J H w1) w2=a0J (a0J H w2) w1
  | [],w2,H,_=>rfl
  |(i,en)::r,w2,H,h=>by
    simp only[a0J];have h1:=h i dB;rw[p0N r w2 _ (λx hx=>h x (by simp[hx])),u0r w2 H i en h1]
theorem u0L {r1 w1 r2 w2:List Nat} (h:s0h r1 w1 r2 w2=yB):(∀x∈w1,x∉r2/\x∉w2)/\ ∀x∈w2,x∉r1/\x∉w1:=by
  simp only[s0h,aa,vD,cK,List.contains_eq_mem,decide_eq_false_iff_not]at h;exact⟨λx hx=>h.1 x hx,λx hx=>⟨h.2 x hx,λh1=>(h.1 x h1).2 hx⟩⟩
theorem l0J {d:Option Tmp} (h: ∀t,d=qB t->x≠ .tmp t):a0G (m0X ρ d v) x=a0G ρ x:=by
  cases d with
  |none=>rfl
  |some t=>
    cases x with
    |tmp u=>
      have hne:u≠t:=λe=>h t rfl (by rw[e])
      simp[a0G,m0X,upd,hne]
    |_=>rfl
theorem j0L {d:Option Tmp} (h: ∀t,d=qB t->t∉o.looksAt ops):a0Z ops (m0X ρ d v) o=a0Z ops ρ o:=by
  unfold a0Z
  cases hg:o.guard with
  |none=>rfl
  |some p=>
    obtain⟨j,want⟩:=p;simp only
    cases hd:(ops[j]?).bind (·.dst)with
    |none=>rfl
    |some e=>
      simp only
      cases d with
      |none=>rfl
      |some t=>
        have hne:e≠t:=λhe=>h t rfl (by
          unfold Oper.looksAt;rw[hg];simp only[hd]
          exact au.2 (.inr (by simp[he])))
        simp[m0X,upd,hne]
theorem y0n {H:a0e} {idx:Nat} (hs:i0g o=yB)(he:a0H P o ρ H idx=qB ef)(x:Nat):n0f ((a0J H ef.wr)[x]?) (H[x]?):=by
  unfold i0g at hs;split at hs;rename_i t a b ho;unfold a0H at he;split at he;cases he;exact .inl rfl;simp only[a0q,ho]at he;split at he;rename_i i off ps h1 h2;split at he;rename_i en hH;split at he;rename_i cs hcs;split at he;cases he;simp only[a0J];rw[aN];by_cases hxi:i=x;subst hxi;have hil:=(ab.1 hH).1;rw[qC rfl,qC hil,hH]
  cases en with
  |vec n k e cs0=>exact .inr (.inl ⟨n,k,e,_,cs0,rfl,rfl⟩)
  |box cs0=>exact .inr (.inr ⟨_,cs0,rfl,rfl⟩)
  |res=>simp[b0S]at hcs
  |gone=>simp[b0S]at hcs
  |map es=>simp[b0S]at hcs
  |itr m n s=>simp[b0S]at hcs
  |lop tm ps as bd st pd=>simp[b0S]at hcs
  |dfr=>simp[b0S]at hcs
  |pmap es=>simp[b0S]at hcs
  rw[wC hxi];exact .inl rfl;cases he;cases he;cases he;cases he;cases hs
theorem f0i {t:Tmp} (h:t∉o.looksAt ops) (hx:x∈o.op.operands):x≠ .tmp t:=by
  intro e;subst e;refine h (au.2 (.inl (List.mem_filterMap.2 ⟨.tmp t,aK.2 hx,rfl⟩)))
theorem i0Y (h: ∀x∈o.op.operands,a0G ρ x=a0G ρ' x):g0I ρ o=g0I ρ' o:=by
  unfold g0I;split;rename_i c ho;unfold s0z;split;rename_i f hf;rw[h f (by simp[ho,oB,Call.operands,hf])];rw[r0m c.args.toList (λx hx=>h x (by simp only[ho,oB,Call.operands];exact bn.2 (.inr (aK.1 hx))))];rfl;rfl
theorem i0x (h:c0d o=yB):h0s o=false:=by
  unfold c0d at h;unfold h0s;split at h;rename_i c ho;split at h;rename_i f hf;simp[ho,hf];cases h;cases h
theorem r0x (h:d0A o=yB):h0s o=false:=by
  unfold d0A at h;unfold h0s;cases ho:o.op<;>rw[ho]at h<;>simp only at h⊢ <;>first|rfl|(cases h;done)|skip
  rename_i c;split at h<;>rename_i hc<;>first|(cases h;done)|simp[hc]
theorem l0A (h:d0A o=yB):i0g o=false:=by
  unfold d0A at h;unfold i0g;cases ho:o.op<;>rw[ho]at h<;>simp only at h⊢ <;>first|rfl|(cases h;done)
theorem L0H {P:Program} {H:a0e} {r:Eff×Bool} (h:k0h P o ρ H=qB r):h0s o=vB/\i0g o=false:=by
  unfold k0h at h;split at h;rename_i ho;exact⟨by unfold h0s;rw[ho],by unfold i0g;rw[ho]⟩;rename_i ho;exact⟨by unfold h0s;rw[ho],by unfold i0g;rw[ho]⟩;rename_i c ho;split at h;rename_i hc _ _;exact⟨by unfold h0s;simp[ho,hc],by unfold i0g;rw[ho]⟩;cases h;cases h
theorem u0m (h:c0d o=yB):i0g o=false:=l0A (k0N h)
theorem q0v {H:a0e} (h:opD P ops base i o ρ H ef):
    (∀x,2*x∉g0R ops base i o ef->(a0J H ef.wr)[x]?=H[x]?)/\ ∀x,2*x+1∉g0R ops base i o ef->n0f ((a0J H ef.wr)[x]?) (H[x]?):=by
  refine⟨λx hx=>o0e _ _ _ (λhm=>hx (x0E hm)),λx hx=> ?_⟩
  cases hst:i0g o with
  |false=>exact .inl (o0e _ _ _ (λhm=>hx (L0g hst hm)))
  |true=>
    unfold opD at h;split at h;split at h;rename_i hc;rw[u0m hc]at hst;cases hst;rcases h.1 with h1|h1|h1;exact y0n hst h1 x;rw[l0A h1.2]at hst;cases hst;rw[(L0H h1).2]at hst;cases hst;subst h;exact .inl rfl;exact h.elim
theorem n0B {H:a0e} (hv: ∀x∈o.op.operands,a0G ρ x=a0G ρ' x)(hg:a0Z ops ρ o=a0Z ops ρ' o)(hl:H'.length=H.length)
    (hA: ∀x,2*x∈h0W o ef\/2*x∈g0R ops base i o ef->H'[x]?=H[x]?) (hB: ∀x,2*x+1∈h0W o ef->n0f (H'[x]?) (H[x]?)) (h:opD P ops base i o ρ H ef):opD P ops base i o ρ' H' ef:=by
  unfold opD at h⊢;rw[<-hg];split;rename_i hgt;rw[hgt]at h;simp only at h;split;rename_i hc;rw[qC hc]at h;rcases h with h|h|h|h|h;obtain⟨f,args,g,args0,H0,v0,h1,h2,h3,h4,h5,h6,h7,h8⟩:=h;refine .inl ⟨f,args,g,args0,H0,v0,by rw[<-i0Y hv];exact h1,h2,⟨λj en hj=> ?_,h3.inj,h3.refs⟩,h4,h5,h6,h7,h8⟩;rw[hA (g j) (.inl (p0w (i0x hc) (by rw[h8];exact aX.2 ⟨j,bh.2 (ab.1 hj).1,rfl⟩)))];exact h3.get j en hj;obtain⟨f,args,v0,en0,h1,h2,h3,⟨h4,hE⟩,h5⟩:=h;refine .inr (.inl ⟨f,args,v0,en0,by rw[<-i0Y hv];exact h1,h2,h3,⟨?_,hE⟩,h5⟩);rw[hA _ (.inr (A0k (k0N hc)))];exact h4;obtain⟨f,args,g,args0,H0,v0,H0',h1,h2,h3,h4,h5,h6,h7,hl2,hr2,h8⟩:=h;refine .inr (.inr (.inl ⟨f,args,g,args0,H0,v0,H0',by rw[<-i0Y hv];exact h1,h2,⟨λj en hj=> ?_,h3.inj,h3.refs⟩,h4,h5,h6,h7,hl2,hr2,h8⟩));rw[hA (g j) (.inl (p0w (i0x hc) (by rw[h8];exact aX.2 ⟨j,bh.2 (ab.1 hj).1,rfl⟩)))];exact h3.get j en hj;obtain⟨f,args,g,args0,H0,v0,H0',h1,h2,h3,h4,h5,h7,hl2,hres,h8⟩:=h;refine .inr (.inr (.inr (.inl ⟨f,args,g,args0,H0,v0,H0',by rw[<-i0Y hv];exact h1,h2,⟨λj en hj=> ?_,h3.inj,h3.refs⟩,h4,h5,h7,hl2, ?_,h8⟩)));rw[hA (g j) (.inl (p0w (i0x hc) (by rw[h8];exact aX.2 ⟨j,bh.2 (ab.1 hj).1,rfl⟩)))];exact h3.get j en hj;rw[hA _ (.inr (A0k (k0N hc)))];exact hres;obtain⟨f,args,g,args0,H0,v0,en0,h1,h2,h3,h4,h5,h7,hres,h8⟩:=h;refine .inr (.inr (.inr (.inr ⟨f,args,g,args0,H0,v0,en0,by rw[<-i0Y hv];exact h1,h2,⟨λj en hj=> ?_,h3.inj,h3.refs⟩,h4,h5,h7, ?_,h8⟩)));rw[hA (g j) (.inl (p0w (i0x hc) (by rw[h8];exact aX.2 ⟨j,bh.2 (ab.1 hj).1,rfl⟩)))];exact h3.get j en hj;rw[hA _ (.inr (A0k (k0N hc)))];exact hres;rename_i hc;rw[wC hc]at h;obtain⟨h1,h2,h3⟩:=h;refine⟨h1.imp (λh1=> ?_) (λh1=>h1.imp (λh1=>⟨D0f hv h1.1 hl (λx hx=>hA x (.inl (p0w (r0x h1.2) hx))),h1.2⟩) λh1=>D0h hv h1 (λx hx=>hA x (.inl (p0w (L0H h1).1 hx)))),λhcr=> ?_,λx hx=>by rw[hl];exact h3 x hx⟩
  cases hso:h0s o with
  |true=>exact x0h hso hv h1 (λx hx=>hB x (K0t hx))
  |false=>exact n0z hv h1 (λx hx=>hA x (.inl (p0w hso hx)))
  rw[hA _ (.inr (A0k hcr))];exact h2 hcr;rename_i hgf;rw[hgf]at h;exact h;rename_i hgn;rw[hgn]at h;exact h
theorem z0R {d e:Option Tmp} {u:SV} (h: ∀t,d=qB t->e≠qB t):m0X (m0X ρ d u) e v=m0X (m0X ρ e v) d u:=by
  cases d with
  |none=>rfl
  |some t=>
    cases e with
    |none=>rfl
    |some s=>
      have hne:t≠s:=λhe=>h t rfl (by rw[he])
      funext i;simp only[m0X,upd];split;rename_i h1;subst h1;rw[wC (Ne.symm hne)];rfl
def H0D(P:Program)(md:Region.Mode)(ops:Array Oper)(base:Nat)(effs:List Eff)(K:Env->a0e->Prop):Nat->Array Bool->Env->a0e->Prop
  |0,listed,ρ,H=>yG md ops listed=[]/\K ρ H
  |fuel+1,listed,ρ,H=>(yG md ops listed=[]->K ρ H)/\
    ∀i∈yG md ops listed,∃o ef,ops[i]?=qB o/\effs[i]?=qB ef/\opD P ops base i o ρ H ef/\H0D P md ops base effs K fuel (listed.setIfInBounds i yB) (m0X ρ o.dst ef.v) (a0J H ef.wr)
theorem B0I {effs:List Eff} {K:Env->a0e->Prop} {oi:Oper} {ei:Eff} (hi:ops[i]?=qB oi)(hei:effs[i]?=qB ei): ∀(fuel:Nat) (listed:Array Bool) (ρ:Env) (H:a0e),
    (∀j oj ej,ops[j]?=qB oj->effs[j]?=qB ej->j≠i->listed.getD j yB=vB->(∀e∈oj.after,qF md e=yB->e.on≠i)->oi.apart ops oj=yB/\s0h (h0W oi ei) (g0R ops base i oi ei) (h0W oj ej) (g0R ops base j oj ej)=yB)->
    i∈yG md ops listed->opD P ops base i oi ρ H ei->H0D P md ops base effs K fuel (listed.setIfInBounds i yB) (m0X ρ oi.dst ei.v) (a0J H ei.wr)->H0D P md ops base effs K (fuel+1) listed ρ H:=by
  intro fuel
  induction fuel with
  |zero=>
    intro listed ρ H _ hr hy h;refine⟨λh0=>(by rw[h0]at hr;cases hr),λj hj=> ?_⟩;by_cases hji:j=i;subst hji;exact⟨oi,ei,hi,hei,hy,h⟩;have:=ready_mono hj hji;rw[h.1]at this;cases this
  |succ fuel ih=>
    intro listed ρ H hfree hr hy h;refine⟨λh0=>(by rw[h0]at hr;cases hr),λj hj=> ?_⟩;by_cases hji:j=i;subst hji;exact⟨oi,ei,hi,hei,hy,h⟩;obtain⟨oj,ej,hoj,hej,hdj,hrest⟩:=h.2 j (ready_mono hj hji);obtain⟨hjun,oj',hoj',hall⟩:=mem_ready.1 hj;rw[hoj]at hoj';cases hoj'
    have hnot: ∀e∈oj.after,qF md e=yB->e.on≠i:=λe he hb heq=>by
      have h1:=hall e he hb;have h0:=(mem_ready.1 hr).1;rw[heq]at h1;rcases bL i listed.size with h'|h';simp[h']at h0 h1;rw[h0]at h1;cases h1;simp[cn h']at h1
    obtain⟨hap,hdis⟩:=hfree j oj ej hoj hej hji hjun hnot;obtain⟨a1,a2,a3⟩:=Oper.apart_spec hap;obtain⟨d1,d2⟩:=u0L hdis;have hwi: ∀x,x∈ei.wr.map yE->2*x∈g0R ops base i oi ei:=λx hx=>x0E hx
    have hwj: ∀x,x∈ej.wr.map yE->2*x∈g0R ops base j oj ej:=λx hx=>x0E hx
    have shc: ∀ {a b:Option Ent},n0f a b->n0f b a:=λh=>by
      rcases h with h|⟨n,k,e,c1,c2,q1,q2⟩|⟨c1,c2,q1,q2⟩;exact .inl h.symm;exact .inr (.inl ⟨n,k,e,c2,c1,q2,q1⟩);exact .inr (.inr ⟨c2,c1,q2,q1⟩)
    obtain⟨ki1,ki2⟩:=q0v hy
    -- j before i
    have hdj':opD P ops base j oj ρ H ej:=n0B (ρ:=m0X ρ oi.dst ei.v) (H:=a0J H ei.wr)
      (λx hx=>l0J λt ht=>f0i (a1 t ht) hx) (j0L a1) (by rw[e0v])
      (λx hx=>(ki1 x (λhm=>by
        have:=d1 _ hm;rcases hx with hx|hx;exact this.1 hx
        exact this.2 hx)).symm) (λx hx=>shc (ki2 x (λhm=>(d1 _ hm).1 hx))) hdj
    obtain⟨kj1,kj2⟩:=q0v hdj'
    have hyi':opD P ops base i oi (m0X ρ oj.dst ej.v) (a0J H ej.wr) ei:=n0B (ρ:=ρ) (H:=H)
      (λx hx=>(l0J λt ht=>f0i (a3 t ht) hx).symm) (j0L a3).symm (by rw[e0v])
      (λx hx=>kj1 x (λhm=>by
        have:=d2 _ hm;rcases hx with hx|hx;exact this.1 hx
        exact this.2 hx)) (λx hx=>kj2 x (λhm=>(d2 _ hm).1 hx)) hy
    refine⟨oj,ej,hoj,hej,hdj', ?_⟩;refine ih (listed.setIfInBounds j yB) _ _ (λk ok ek hk hek hki hun hno=> ?_) (ready_mono hr (Ne.symm hji)) hyi' ?_;refine hfree k ok ek hk hek hki ?_ hno;by_cases hjk:j=k;subst hjk;exact hjun;rw[getD_set_ne yB hjk]at hun;exact hun;rw[Array.setIfInBounds_comm _ _ hji,<-z0R (ρ:=ρ) (u:=ei.v) (v:=ej.v) a2,<-p0N ei.wr ej.wr H (λx hx hx2=>(d1 _ (hwi x hx)).2 (hwj x hx2))];exact hrest
theorem t0O {o:Oper} {rd fw:List Nat} : ∀(tr:List (List Nat×List Nat)) (j:Nat),m0D o rd fw tr j=yB-> ∀(k:Nat) (r' w':List Nat),tr[k]?=qB (r',w')->
    (∃e∈o.after,qF .any e=yB/\e.on=j+k)\/s0h r' w' rd fw=yB
  | [],j,_,k,r',w',hk=>by simp at hk
  |(r1,w1)::r,j,h,k,r',w',hk=>by
    simp only[m0D,aa,bH]at h
    cases k with
    |zero=>
      simp at hk;obtain⟨rfl,rfl⟩:=hk;rcases h.1 with h1|h1;obtain⟨e,he,hb⟩:=Array.any_eq_true'.1 h1;simp only[aa,beq_iff_eq]at hb;exact .inl ⟨e,he,hb.1,hb.2⟩;exact .inr h1
    |succ k=>
      have:=t0O r (j+1) h.2 k r' w' (by simpa using hk);rw[show j+1+k=j+(k+1)from by omega]at this;exact this
def A0o(ops:Array Oper)(base:Nat)(ds:List (Oper×Eff))(j:Nat):List (List Nat×List Nat):=
  match ds with
  | []=> []
  |(o,e)::r=>(h0W o e,g0R ops base j o e)::A0o ops base r (j+1)
theorem t0G: ∀(ds:List (Oper×Eff)) (j:Nat),(A0o ops base ds j).length=ds.length
  | [],_=>rfl
  |(o,e)::r,j=>by simp[A0o,t0G r]
theorem A0n: ∀(ds:List (Oper×Eff)) (j k:Nat) (o:Oper) (e:Eff),ds[k]?=qB (o,e)->(A0o ops base ds j)[k]?=qB (h0W o e,g0R ops base (j+k) o e)
  | [],j,k,o,e,h=>by simp at h
  |(o1,e1)::r,j,k,o,e,h=>by
    cases k with
    |zero=>simp at h;obtain⟨rfl,rfl⟩:=h;simp[A0o]
    |succ k=>
      have:=A0n r (j+1) k o e (by simpa using h);rw[show j+1+k=j+(k+1)from by omega]at this;simpa [A0o]using this
theorem t0H: ∀(ds:List (Oper×Eff)) (j:Nat) (o:Oper) (e:Eff),A0o ops base (ds++ [(o,e)]) j=A0o ops base ds j++ [(h0W o e,g0R ops base (j+ds.length) o e)]
  | [],j,o,e=>by simp[A0o]
  |(o1,e1)::r,j,o,e=>by
    simp only[be,A0o,aW];rw[t0H r (j+1) o e,show j+1+r.length=j+(r.length+1)from by omega]
theorem s0G {K:Env->a0e->Prop} : ∀(l:List Oper) (tr:List (Oper×Eff)) (listed:Array Bool) (ρ:Env) (H:a0e),(∀j,l[j]?=ops[tr.length+j]?)->(∀(j:Nat) (o:Oper) (e:Eff),tr[j]?=qB (o,e)->ops[j]?=qB o)->
    (∀k,k<tr.length->listed.getD k yB=yB)->jK .any ops l.length tr.length listed=yB->C0g P ops base (A0o ops base tr 0) l K ρ H->
    ∃es:List Eff,es.length=l.length/\H0D P .any ops base (tr.map qK++es) K l.length listed ρ H/\
      ∀(i j:Nat) (oi oj:Oper) (ei ej:Eff),i<j->tr.length<=j->ops[i]?=qB oi->ops[j]?=qB oj->(tr.map qK++es)[i]?=qB ei->(tr.map qK++es)[j]?=qB ej->
        (∀e∈oj.after,qF .any e=yB->e.on≠i)->s0h (h0W oi ei) (g0R ops base i oi ei) (h0W oj ej) (g0R ops base j oj ej)=yB
  | [],tr,listed,ρ,H,hl,htr,hli,hB,h=>by
    refine⟨[],rfl,⟨by simpa [jK]using hB,h⟩,λi j oi oj ei ej hij hj hoi hoj hei hej=> ?_⟩;rw[bG,aq,ay hj]at hej;cases hej
  |o::l,tr,listed,ρ,H,hl,htr,hli,hB,h=>by
    have h0:ops[tr.length]?=qB o:=by simpa using (hl 0).symm
    simp only[aW,jK,aa]at hB;obtain⟨⟨hr,hf⟩,hB'⟩:=hB;simp only[C0g,t0G]at h;obtain⟨ef,hy,hcomp,hK⟩:=h;have hrd:tr.length∈yG .any ops listed:=by simpa using hr
    have hlt:tr.length<listed.size:=by
      have:=(mem_ready.1 hrd).1;rcases bL tr.length listed.size with h'|h';exact h';simp[cn h']at this
    have hfa:A0o ops base (tr++ [(o,ef)]) 0=A0o ops base tr 0++ [(h0W o ef,g0R ops base tr.length o ef)]:=by rw[t0H];simp
    rw[<-hfa]at hK
    obtain⟨es,hes,hany,hpairs⟩:=s0G l (tr++ [(o,ef)]) (listed.setIfInBounds tr.length yB) _ _ (λj=>by
        have:=hl (j+1);simpa [Nat.add_assoc,Nat.add_comm 1 j]using this) (λj o' e' hj=>by
        rw[aL]at hj;split at hj;exact htr j o' e' hj;rename_i hjl
        have hz:j-tr.length=0:=by
          have:=(ab.1 hj).1;simp at this;omega
        rw[hz]at hj;simp at hj;obtain⟨rfl,rfl⟩:=hj;have:j=tr.length:=by omega
        rw[this];exact h0) (λk hk=>by
        simp only[aA,aW,bY]at hk;by_cases hkt:k=tr.length;subst hkt;simp[Array.getD,hlt]
        rw[getD_set_ne yB (Ne.symm hkt)];exact hli k cV) (by simpa using hB') hK
    have hfull:(tr++ [(o,ef)]).map qK++es=tr.map qK++(ef::es):=by simp
    rw[hfull]at hany hpairs
    have heft:(tr.map qK++ef::es)[tr.length]?=qB ef:=by
      rw[bN dB];simp
    have hall: ∀(i j:Nat) (oi oj:Oper) (ei ej:Eff),i<j->tr.length<=j->ops[i]?=qB oi->ops[j]?=qB oj->(tr.map qK++ef::es)[i]?=qB ei->(tr.map qK++ef::es)[j]?=qB ej->
        (∀e∈oj.after,qF .any e=yB->e.on≠i)->s0h (h0W oi ei) (g0R ops base i oi ei) (h0W oj ej) (g0R ops base j oj ej)=true:=by
      intro i j oi oj ei ej hij hj hoi hoj hei hej hno;by_cases hjt:j=tr.length;subst hjt;rw[h0]at hoj;cases hoj;rw[heft]at hej;cases hej
      have hti: ∃p,tr[i]?=qB p:=⟨tr[i],af hij⟩
      obtain⟨⟨o',e'⟩,hp⟩:=hti;have h1:=htr i o' e' hp;rw[hoi]at h1;cases h1;rw[bC (by simpa using hij),aq,hp]at hei;cases hei;have hft:=A0n (ops:=ops) (base:=base) tr 0 i oi _ hp;rcases t0O _ 0 hcomp i _ _ hft with⟨e,he,hb,hon⟩|hd;exact absurd (cV:e.on=i) (hno e he hb)
      rwa [aY]at hd
      exact hpairs i j oi oj ei ej hij dA hoi hoj hei hej hno
    refine⟨ef::es,by simp[hes], ?_,hall⟩;rw[aW];refine B0I h0 heft l.length listed ρ H (λj oj ej hoj hej hji hun hno=>⟨Region.free_spec h0 hf j oj hoj hji hun hno, ?_⟩) hrd hy hany
    have hjgt:tr.length<j:=by
      rcases bL tr.length j with h'|h';exact h';have:j<tr.length:=by omega
      rw[hli j this]at hun;cases hun
    exact hall tr.length j o oj ef ej hjgt cV h0 hoj heft hej hno
section
variable {F : Fr} {Q : Exit -> Act -> World -> Prop}
theorem B0l {H:a0e} (h:d0A o=vB)(i j:Nat):a0H P o ρ H i=a0H P o ρ H j:=by
  unfold a0H;split;rfl
  · unfold d0A at h
    cases ho:o.op<;>rw[ho]at h<;>simp only[a0q,ho]<;>first|rfl|(cases h;done)|skip
    rename_i c;split<;>first|rfl|(rename_i hc;simp only[hc]at h;cases h)
theorem m0t: ∀(a b:List (Nat×Ent)) (H:a0e),a0J H (a++b)=a0J (a0J H a) b
  | [],b,H=>rfl
  |(i,en)::a,b,H=>by simp only[be,a0J];exact m0t a b _
theorem F0b {f:Nat->Nat} {H:a0e} (hs:Sel H f H0)(hl:H0'.length=H0.length)(hr: ∀(j:Nat) (en:Ent),H0'[j]?=qB en->Ent.refs H0.length en=yB):d0M f H0.length H H0'=a0J H (p0j f H0.length H0'):=by
  have key: ∀q,q<=H0.length->y0y (gOf f H0.length H.length) H0' H q=a0J H ((yC q).map λj=>(f j,Ent.rn f (H0'.getD j .gone))):=by
    intro q
    induction q with
    |zero=>intro _;rfl
    |succ q ih=>
      intro hq;have hen:H0'[q]?=qB (H0'[q]' cV):=af cV;have hg:gOf f H0.length H.length q=f q:=by simp[gOf,show q<H0.length by omega]
      simp only[y0y,hen];rw[cR,cm,m0t,<-ih cV,hg]
      have hlt:f q<(y0y (gOf f H0.length H.length) H0' H q).length:=by
        rw[ih cV,e0v];exact hs.lt cV
      simp only[al,aE,a0J,i0h,qC hlt];rw[am,hen,bl,t0J (f:=gOf f H0.length H.length) (g:=f) (m:=H0.length) (λi hi=>by simp[gOf,hi]) _ (hr q _ hen)]
  unfold d0M p0j;rw[hl];exact key _ (aj _)
theorem Good.put {H:a0e} {f:Nat->Nat} {K:Nat->Nat} {idx:Nat} (hg0:Good w K (m0F D f H0.length) H0 r w' v0 H0')(hs:Sel H f H0)(hi:HInv w K D H)
    (hlive: ∀en∈H0,h0p en=yB) (hl:H0'.length=H0.length+1) (hres:H[idx]?=qB .res):Good w K D H r w' (SV.rn (pOf f H0.length idx) v0) (a0J H (p0j (pOf f H0.length idx) (H0.length+1) H0')):=by
  obtain⟨K',Ds',g,hi',hrep⟩:=hg0;have hil:idx<H.length:=(ab.1 hres).1;have hDi:D idx=none:=hi.ent idx _ hres
  have hfi: ∀j,j<H0.length->f j≠idx:=by
    intro j hj e;have h1:=hs.get j _ (af hj);rw[e,hres]at h1;have h2:=hlive _ (cz hj);have h3:=ar h1;rw[<-h0I (f:=f),<-h3]at h2;cases h2
  generalize hg:pOf f H0.length idx=gg;have hgl: ∀j,j<H0.length->gg j=f j:=λj hj=>by rw[<-hg];simp[pOf,hj]
  have hgm:gg H0.length=idx:=by rw[<-hg];simp[pOf]
  have hglt: ∀j,j<H0.length+1->gg j<H.length:=λj hj=>by
    by_cases h:j<H0.length;rw[hgl j h];exact hs.lt h;rw[show j=H0.length by omega,hgm];exact hil
  have hginj: ∀i j,i<H0.length+1->j<H0.length+1->gg i=gg j->i=j:=by
    intro i j hi1 hj1 e;by_cases h1:i<H0.length<;>by_cases h2:j<H0.length
    rw[hgl i h1,hgl j h2]at e;exact hs.inj i j h1 h2 e;rw[hgl i h1,show j=H0.length by omega,hgm]at e;exact absurd e (hfi i h1);rw[hgl j h2,show i=H0.length by omega,hgm]at e;exact absurd e.symm (hfi j h2);omega
  have hput: ∀q,q<=H0.length+1->(∀j en,j<q->H0'[j]?=qB en->(a0J H (p0j gg q H0'))[gg j]?=qB (Ent.rn gg en))/\ ∀i,(∀j,j<q->gg j≠i)->(a0J H (p0j gg q H0'))[i]?=H[i]?:=by
    intro q
    induction q with
    |zero=>intro _;exact⟨λj en h=>absurd h (cE _),λi _=>rfl⟩
    |succ q ih=>
      intro hq;obtain⟨h2,h3⟩:=ih cV;have hen:H0'[q]?=qB (H0'[q]' cV):=af cV
      have hw:a0J H (p0j gg (q+1) H0')=(a0J H (p0j gg q H0')).set (gg q) (Ent.rn gg (H0'[q]' cV)):=by
        unfold p0j;rw[cR,cm,m0t];simp only[al,aE,a0J];rw[am,hen,bl]
      have hlt:gg q<(a0J H (p0j gg q H0')).length:=by rw[e0v];exact hglt q cV
      rw[hw];refine⟨λj en hj hej=> ?_,λi hi3=> ?_⟩;by_cases hjq:j=q;subst hjq;rw[co hlt];rw[hen]at hej;cases hej;rfl;rw[cf (λe=>hjq (hginj q j cV cV e).symm)];exact h2 j en cV hej;rw[cf (hi3 q cV)];exact h3 i λj hj=>hi3 j cV
  obtain⟨p2,p3⟩:=hput (H0.length+1) (aj _)
  -- entries that were handed v0w are somewhere
  have hsome: ∀j,j<H0.length-> ∃x,D (f j)=qB x:=by
    intro j hj;have hen:=af hj;have hlv:=hlive _ (cz hj);have he:=hi.ent _ _ (hs.get j _ hen);generalize H0[j]=en at hlv he
    cases en with
    |res=>cases hlv
    |gone=>cases hlv
    |box cs=>obtain⟨b,vs,e,h1,_⟩:=he;exact⟨_,h1⟩
    |vec n k e cs=>rcases he.2 with⟨h1,_⟩|⟨b,c,vs,rest,h1,_⟩<;>exact⟨_,h1⟩
    |map es=>obtain⟨r,mes,clock,h1,_⟩:=he;exact⟨_,h1⟩
    |itr i n' s=>obtain⟨r,bm,c0,h1,_⟩:=he;exact⟨_,h1⟩
    |lop tm ps as bd st pd=>obtain⟨l,r,h1,_⟩:=he;exact⟨_,h1⟩
    |dfr=>obtain⟨b,h1,_⟩:=he;exact⟨_,h1⟩
    |pmap es=>obtain⟨es',r,mes,clock,_,h1,_⟩:=he;exact⟨_,h1⟩
  let D':DM:=λi=>if i=idx then Ds' H0.length else D i
  have hDold: ∀i,i≠idx->D' i=D i:=λi hi=>by simp[D',hi]
  have hDs: ∀j,j<H0.length->Ds' j=D (f j):=by
    intro j hj;obtain⟨x,hx⟩:=hsome j hj;have:m0F D f H0.length j=qB x:=by simp[m0F,hj,hx]
    rw[g.dd j x this,hx]
  have hup: ∀j,j<H0.length+1->D' (gg j)=Ds' j:=by
    intro j hj1;by_cases hj:j<H0.length;rw[hgl j hj,hDold _ (hfi j hj),hDs j hj];rw[show j=H0.length by omega,hgm];simp[D']
  have hup2: ∀j x,Ds' j=qB x->D' (gg j)=qB x:=by
    intro j x hx;by_cases hj:j<H0.length+1;rw[hup j hj];exact hx;rw[hi'.dom j cV]at hx;cases hx
  have hdd: ∀i x,D i=qB x->D' i=qB x:=by
    intro i x hx;have:i≠idx:=λe=>by rw[e,hDi]at hx;cases hx
    rw[hDold i this];exact hx
  have hrep': ∀v s,Rep w K D v s->Rep w' K' D' v s:=λv s h1=>h1.mono g.cells g.le hdd
  -- an entry: an old one that was not handed v0w, or one of the call's
  have hcase: ∀i en,(a0J H (p0j gg (H0.length+1) H0'))[i]?=qB en->(∃j en0,H0'[j]?=qB en0/\i=gg j/\en=Ent.rn gg en0)\/((∀j,j<H0'.length->gg j≠i)/\H[i]?=qB en/\i≠idx):=by
    intro i en hi2;by_cases hex: ∃j,j<H0'.length/\gg j=i;obtain⟨j,hj,rfl⟩:=hex;have hen:=af hj;rw[p2 j _ cV hen]at hi2;cases hi2;exact .inl ⟨j,_,hen,rfl,rfl⟩;have hno: ∀j,j<H0'.length->gg j≠i:=λj hj e=>hex ⟨j,hj,e⟩
    rw[p3 i (λj hj=>hno j cV)]at hi2;exact .inr ⟨hno,hi2,λe=>hno H0.length cV (by rw[hgm];exact e.symm)⟩
  -- a block of the call's is old and handed v0w, or new
  have hblk: ∀j en0 b c n,H0'[j]?=qB en0->h0p en0=yB->Ds' j=qB (.at b c n)->Mem (m0F D f H0.length) H0 b\/w.heap.size<=b:=λj en0 b c n h1 h2 h3=>g.new b ⟨j,en0,c,n,h1,h2,h3⟩
  have hapart: ∀i en b c n,(∀j,j<H0'.length->gg j≠i)->H[i]?=qB en->h0p en=yB->D i=qB (.at b c n)-> ¬Mem (m0F D f H0.length) H0 b/\b<w.heap.size:=by
    intro i en b c n hno hie hli hdi;refine⟨fun⟨j,en0,c0,n0,h1,h2,h3⟩=> ?_,(k0I hi ⟨i,en,c,n,hie,hli,hdi⟩).1⟩;have hjl:=(ab.1 h1).1;simp only[m0F,hjl,if_true]at h3;have:=hi.inj i (f j) en _ b c n c0 n0 hie (hs.get j en0 h1) hli (by rw[h0I];exact h2) hdi h3;exact hno j cV (by rw[hgl j hjl];exact this.symm)
  refine⟨K',D',⟨g.os,g.tape,g.output,g.size,λb hb hm=>g.block b hb (λh1=>hm (hs.mem h1)),g.cells,g.le,λb hb hm=>g.kk b hb (λh1=>hm (hs.mem h1)),hdd,λb hm=> ?_⟩,
    ⟨λi hil2=> ?_,λi en hie=> ?_,λi j en en' b c n c' n' hie hje hli hlj hdi hdj=> ?_,hi'.kw⟩, ?_⟩
  obtain⟨i,en,c,n,h1,h2,h3⟩:=hm;rcases hcase i en h1 with⟨j,en0,q1,q2,q3⟩|⟨_,q2,q3⟩;subst q2;subst q3;rw[hup j (by have:=(ab.1 q1).1;omega)]at h3;rw[h0I]at h2;rcases hblk j en0 b c n q1 h2 h3 with h4|h4;exact .inl (hs.mem h4);exact .inr h4;rw[hDold i q3]at h3;exact .inl ⟨i,en,c,n,q2,h2,h3⟩;rw[e0v]at hil2;rw[hDold i cV];exact hi.dom i hil2;rcases hcase i en hie with⟨j,en0,q1,q2,q3⟩|⟨q1,q2,q3⟩;subst q2;subst q3;exact E0n (hi'.ent j en0 q1) hup2 (λhn=>by rw[hup j (by have:=(ab.1 q1).1;omega)];exact hn);refine(hi.ent i en q2).keep hrep' (hDold i q3) (λb c n hlv hd=> ?_);obtain⟨a1,a2⟩:=hapart i en b c n q1 q2 hlv hd;exact⟨g.block b a2 a1,g.kk b a2 a1⟩
  · rcases hcase i en hie with⟨ji,e1,q1,q2,q3⟩|⟨q1,q2,q3⟩<;>rcases hcase j en' hje with⟨jj,e2,r1,r2,r3⟩|⟨r1,r2,r3⟩
    subst q2;subst q3;subst r2;subst r3;rw[hup ji (by have:=(ab.1 q1).1;omega)]at hdi;rw[hup jj (by have:=(ab.1 r1).1;omega)]at hdj;rw[h0I]at hli hlj;rw[hi'.inj ji jj e1 e2 b c n c' n' q1 r1 hli hlj hdi hdj];exfalso;subst q2;subst q3;rw[hup ji (by have:=(ab.1 q1).1;omega)]at hdi;rw[h0I]at hli;rw[hDold j r3]at hdj;obtain⟨a1,a2⟩:=hapart j en' b c' n' r1 r2 hlj hdj;rcases hblk ji e1 b c n q1 hli hdi with h4|h4;exact a1 h4;omega;exfalso;subst r2;subst r3;rw[hup jj (by have:=(ab.1 r1).1;omega)]at hdj;rw[h0I]at hlj;rw[hDold i q3]at hdi;obtain⟨a1,a2⟩:=hapart i en b c n q1 q2 hli hdi;rcases hblk jj e2 b c' n' r1 hlj hdj with h4|h4;exact a1 h4;omega;rw[hDold i q3]at hdi;rw[hDold j r3]at hdj;exact hi.inj i j en en' b c n c' n' q2 r2 hli hlj hdi hdj
  exact n0l hrep hup2
theorem SC.put {P:Program} {fid:FuncId} (h:SC P fid args0 H0 v0 H0') {H:a0e} {f:Nat->Nat} {idx:Nat} (hs:Sel H f H0)
    (hlive: ∀en∈H0,h0p en=yB) (ha:SV.refsL H0.length args0=yB) (hl:H0'.length=H0.length+1) (hres:H[idx]?=qB .res):
    SC P fid (SV.rnL f args0) H (SV.rn (pOf f H0.length idx) v0) (a0J H (p0j (pOf f H0.length idx) (H0.length+1) H0')):=by
  refine⟨h.1,λw K D vals hlen hr hi hG=> ?_⟩;refine(h.2 w K (m0F D f H0.length) vals (by rw[hlen,c0a]) (λj x c hx hc=>h0B (hr j x (SV.rn f c) hx (by rw[f0L,hc];rfl)) c rfl (f0p ha j c hc)) (hs.hinv hi) (j0C hG)).mono ?_;rintro e w' ⟨r,he,hg⟩;exact⟨r,he,hg.put hs hi hlive hl hres⟩
theorem t0Q: ∀(wr:List (Nat×Ent)) (H:a0e),(∀x∈wr,H[x.1]?=qB x.2)->a0J H wr=H
  | [],H,_=>rfl
  |(i,en)::r,H,h=>by
    have h1:=h (i,en) (aw ..)
    have he:H.set i en=H:=by
      refine bv λj=> ?_
      rw[aN];by_cases hj:i=j;subst hj;rw[qC rfl,qC (ab.1 h1).1,h1];rw[wC hj]
    simp only[a0J];rw[he];exact t0Q r H (λx hx=>h x (ao _ hx))
theorem K0a {H:a0e} {idx:Nat} (hs:Sel H g H0):a0J H (p0j (pOf g H0.length idx) (H0.length+1) (H0++ [en0]))=a0J H [(idx,Ent.rn (pOf g H0.length idx) en0)]:=by
  have e:p0j (pOf g H0.length idx) (H0.length+1) (H0++ [en0])=(p0j (pOf g H0.length idx) H0.length H0)++ [(idx,Ent.rn (pOf g H0.length idx) en0)]:=by
    unfold p0j;rw[cR,cm];congr 1;refine bB λj hj=> ?_
    have hj:=bh.1 hj;rw[am,am,bC hj];simp[pOf,am]
  rw[e]
  have app: ∀(a b:List (Nat×Ent)) (H:a0e),a0J H (a++b)=a0J (a0J H a) b:=by
    intro a
    induction a with
    |nil=>intro b H;rfl
    |cons x a ih=>intro b H;obtain⟨i,en⟩:=x;simp only[be,a0J];exact ih b _
  rw[app,t0Q _ H (λx hx=> ?_)];obtain⟨j,hj,rfl⟩:=aX.1 hx;have hj:=bh.1 hj;have hget:=hs.get j _ (af hj);simp only[pOf,qC hj];rw[am,af hj,bl,hget];exact congrArg qB (t0J (m:=H0.length) (λi hi=>(qC hi).symm) _ (hs.refs j _ (af hj)))
theorem t0R {effs:List Eff} {KS:Env->a0e->Prop} (hQ: ∀ρ H a w,St F ρ H a w->KS ρ H->Q .normal a w)(hb: ∀o∈ops.toList,Oper.inB F.n ops o=yB): ∀(fuel:Nat) (listed:Array Bool) (ρ:Env) (H:a0e) (a:Act) (w:World),
    St F ρ H a w->H0D P md ops base effs KS fuel listed ρ H->wpAny P md ops Q fuel listed a w:=by
  intro fuel
  induction fuel with
  |zero=>intro listed ρ H a w hst h;exact⟨h.1,hQ _ _ _ _ hst h.2⟩
  |succ fuel ih=>
    intro listed ρ H a w hst h;refine⟨λh0=>hQ _ _ _ _ hst (h.1 h0),λi hi=> ?_⟩;obtain⟨o,ef,ho,hef,hd,hrest⟩:=h.2 i hi;have hbo:Oper.inB F.n ops o=true:=hb o (aK.2 (Array.mem_of_getElem? ho));obtain⟨hdef,K,D,hinv⟩:=hst;unfold wpOp;simp only[ho];unfold opD at hd
    split at hd
    · rename_i hg
      rw[b0I hinv.slots (Oper.inB_guard hbo) hg,qC rfl];refine .inl ?_
      split at hd
      · rename_i hc
        rcases hd with⟨f,args,g,args0,H0,v0,h1,h2,h3,h4,h5,h6,h7,h8⟩|⟨f,args,v0,en0,h1,h2,h3,⟨h4,hE⟩,h5⟩|⟨f,args,g,args0,H0,v0,H0',h1,h2,h3,h4,h5,h6,h7,hl2,hr2,h8⟩|⟨f,args,g,args0,H0,v0,H0',h1,h2,h3,h4,h5,h7,hl2,hres,h8⟩|⟨f,args,g,args0,H0,v0,en0,h1,h2,h3,h4,h5,h7,hres,h8⟩
        case inr.inr.inr.inr=>
          subst h8;have hfr:=SC.put h7 h3 h4 h5 dB hres;rw[<-h2,K0a h3]at hfr;exact p0M hinv hdef (Oper.inB_op hbo) h1 hfr (λa' w' hst'=>ih _ _ _ _ _ hst' hrest)
        case inr.inr.inr.inl=>
          subst h8;have hfr:=SC.put h7 h3 h4 h5 hl2 hres;rw[<-h2]at hfr;exact p0M hinv hdef (Oper.inB_op hbo) h1 hfr (λa' w' hst'=>ih _ _ _ _ _ hst' hrest)
        case inr.inr.inl=>
          subst h8;have hfr:=SC.frame h7 h3 h4 h5 (Nat.le_of_eq hl2.symm);rw[<-h2,F0b h3 hl2 hr2,<-j0v (f:=g) (m:=H0.length) (λi hi=>by simp[gOf,hi]) v0 h6]at hfr;exact p0M hinv hdef (Oper.inB_op hbo) h1 hfr (λa' w' hst'=>ih _ _ _ _ _ hst' hrest)
        case inr.inl=>
          subst h5;exact p0M hinv hdef (Oper.inB_op hbo) h1 (SC.place h3 h2 h4 hE) (λa' w' hst'=>ih _ _ _ _ _ hst' hrest)
        subst h8;have hfr:=SC.frame h7 h3 h4 h5 (aj _);rw[<-h2]at hfr
        -- the frame leaves the entries and the value as they are
        rw[u0G h3,<-j0v (f:=g) (m:=H0.length) (λi hi=>by simp[gOf,hi]) v0 h6]at hfr;exact p0M hinv hdef (Oper.inB_op hbo) h1 hfr (λa' w' hst'=>ih _ _ _ _ _ hst' hrest)
      · obtain⟨h1,h2,h3⟩:=hd
        rw[<-o0f _ _ h3]at hrest;rcases h1 with h1|h1|h1
        case inr.inl=>exact K0C hinv hdef (Oper.inB_op hbo) (.inr (h2 h1.2)) h1.1 λa' w' hst'=>ih _ _ _ _ _ hst' hrest
        case inr.inr=>exact K0D hinv hdef (Oper.inB_op hbo) h1 λa' w' hst'=>ih _ _ _ _ _ hst' hrest
        by_cases hcr:d0A o=yB;exact B0k hinv hdef (Oper.inB_op hbo) (.inr (h2 hcr)) h1 λa' w' hst'=>ih _ _ _ _ _ hst' hrest
        rw[B0l (by simpa using hcr) _ H.length]at h1;exact B0k hinv hdef (Oper.inB_op hbo) (.inl rfl) h1 λa' w' hst'=>ih _ _ _ _ _ hst' hrest
    rename_i hg;rw[b0I hinv.slots (Oper.inB_guard hbo) hg,wC dB];subst hd;exact ih _ _ _ _ _ ⟨by rw[a0O];exact hdef,K,D,v0s hinv o.dst⟩ hrest;exact hd.elim
theorem Inv.reserve {K:Nat->Nat} {H:a0e} (h:Inv F w K D H ρ tm)(m:Nat):Inv F w K D (H++zD m .res) ρ tm:=by
  have hget: ∀i en,(H++zD m Ent.res)[i]?=qB en->H[i]?=qB en\/(en= .res/\H.length<=i):=by
    intro i en hi;rw[aL]at hi;split at hi;exact .inl hi
    · rw[List.getElem?_replicate]at hi
      split at hi<;>cases hi
      exact .inr ⟨rfl,cV⟩
  have hmem: ∀b,Mem D (H++zD m .res) b->Mem D H b:=by
    rintro b ⟨i,en,c,n,h1,h2,h3⟩;rcases hget i en h1 with h4|⟨h4,_⟩;exact⟨i,en,c,n,h4,h2,h3⟩;subst h4;cases h2
  refine⟨h.slots,⟨λi hi=>h.hinv.dom i (by simp at hi;omega),λi en hi=> ?_,λi j en en' b c n c' n' hi hj hl hl' hd hd'=> ?_,h.hinv.kw⟩, ?_⟩;rcases hget i en hi with h4|⟨h4,h5⟩;exact h.hinv.ent i en h4;subst h4;exact h.hinv.dom i h5;rcases hget i en hi with h4|⟨h4,_⟩;rcases hget j en' hj with h5|⟨h5,_⟩;exact h.hinv.inj i j en en' b c n c' n' h4 h5 hl hl' hd hd';subst h5;cases hl';subst h4;cases hl;have g:=h.grow;exact⟨g.os,g.tape,g.output,g.size,g.block,g.cells,g.le,g.kk,g.dd,λb hm=>g.new b (hmem b hm)⟩
def e0G(ops:Array Oper):Nat:=(ops.toList.filter d0A).length
theorem z0f {KS:Env->a0e->Prop} (hm:P.follows .mixedOrders=yB)(hB:zG .any ops=yB)(hQ: ∀ρ H a w,St F ρ H a w->KS ρ H->Q .normal a w)(hb: ∀o∈ops.toList,Oper.inB F.n ops o=yB) {H:a0e}
    (hst:St F ρ H a w) (h:C0g P ops H.length [] ops.toList KS ρ (H++zD (e0G ops) .res)):(Code.region id ops yB).wp P Q a w:=by
  simp only[zG,aa]at hB;obtain⟨hd,K,D,hinv⟩:=hst;refine wp_region_any hm ?_;obtain⟨es,_,hany,_⟩:=s0G (base:=H.length) ops.toList [] (jE ops.size vB) ρ _ dB (λj o e hj=>by simp at hj) (λk hk=>absurd hk (cE _)) (by simpa using hB.2) h;have hinv':=hinv.reserve (e0G ops)
  have hdrew:Inv F w.drew K D (H++zD (e0G ops) .res) ρ a.tmps:=⟨hinv'.slots.mono λ_ _=>World.drew_rep,hinv'.hinv.drew,hinv'.grow.trans (Grow.drew _ _ _ _)⟩
  exact t0R hQ hb ops.size _ ρ _ a _ ⟨hd,K,D,hdrew⟩ (by simpa using hany)
end
end
end
section
variable [Inhabited GT]
abbrev LE:=List (Nat×SV)
def lk:LE->Nat->SV
  | [],_=> .undef
  |(i,v)::r,t=>bif vC t i then v else lk r t
def a0r(L:LE):Env:=λt=>lk L t
def g0r(L:LE)(d:Option Nat)(v:SV):LE:=match d with
  |some d=>(d,v)::L
  |none=>L
theorem b0g(L:LE)(d:Option Nat)(v:SV):m0X (a0r L) d v=a0r (g0r L d v):=by
  cases d with
  |none=>rfl
  |some d=>
    funext t;simp only[m0X,upd,g0r,a0r,lk];by_cases h:t=d;subst h;simp
    have:vC t d=false:=by cases hb:vC t d with
      |false=>rfl
      |true=>exact absurd (ae hb) h
    rw[wC h,this];rfl
def g0F(ts:List Nat)(L:LE):LE:=ts.map λt=>(t,lk L t)
def Sees(F:Fr)(L:LE)(H:a0e)(a:Act)(w:World):Prop:=St F (a0r L) H a w
abbrev g0o:=Exit->Act->World->Prop
def b0t(n:Nat):Code->Bool
  | .region _ ops _=>ops.toList.all (Oper.inB n ops)
  | .seq a b=>b0t n a&&b0t n b
  | .cond c x y=>Operand.inB n c&&b0t n x&&b0t n y
  | .block _ c=>b0t n c
  | .loop c=>b0t n c
  | .scope c=>b0t n c
  |_=>yB
def J(F:Fr)(P:Program)(c:Code)(L:LE)(H:a0e)(Q:g0o):Prop:=b0t F.n c=yB-> ∀a w,Sees F L H a w->c.wp P Q a w
def PJ(F:Fr)(Q:g0o)(e:Exit)(L:LE)(H:a0e):Prop:= ∀a w,Sees F L H a w->Q e a w
def l0K(F:Fr)(P:Program)(c:Code)(Q:g0o):g0o:=Exit.then (λa w=>b0t F.n c=yB->c.wp P Q a w) Q
def RJ(F:Fr)(P:Program)(m:Option Nat)(ops:Array Oper)(p:Nat)(tr:List (List Nat×List Nat))(L:LE)(H:a0e)(Q:g0o):Prop:=
  match m with
  |none=>ops.toList.all (Oper.inB F.n ops)=yB-> ∀a w,Sees F L H a w->wpList P ops Q (ops.toList.drop p) a w
  |some base=>tr.length=p->C0g P ops base tr (ops.toList.drop p) (fun ρ H=> ∀a w,St F ρ H a w->Q .normal a w) (a0r L) H
def H0i(m:Option Nat)(ops:Array Oper)(p:Nat)(H:a0e):Nat:=match m with
  |none=>H.length
  |some base=>f0R ops base p
def trM(m:Option Nat)(ops:Array Oper)(p:Nat)(o:Oper)(ef:Eff)(tr:List (List Nat×List Nat)):List (List Nat×List Nat):=match m with
  |none=>tr
  |some base=>tr++ [(h0W o ef,g0R ops base p o ef)]
def q0A(en:Option Ent):Bool:=match en with
  |some .res=>yB
  |_=>vB
def okM(m:Option Nat)(ops:Array Oper)(p:Nat)(o:Oper)(ef:Eff)(tr:List (List Nat×List Nat))(H:a0e):Bool:=match m with
  |none=>yB
  |some base=>m0D o (h0W o ef) (g0R ops base p o ef) tr 0&&(!d0A o||q0A (H[f0R ops base p]?))&&ef.wr.all (λx=>qE x.1 H.length)
section
variable {F : Fr} {P : Program} {L : LE} {H : a0e} {Q : g0o} {m : Option Nat} {ops : Array Oper} {p : Nat} {tr : List (List Nat × List Nat)}
theorem Sees.keep {L2:LE} (h:Sees F L H a w)(hk: ∀t,lk L2 t=lk L t\/lk L2 t= .undef):Sees F L2 H a w:=by
  obtain⟨hd,K,D,hi⟩:=h;refine⟨hd,K,D,⟨⟨hi.slots.size,λi hin=> ?_,hi.slots.glob⟩,hi.hinv,hi.grow⟩⟩;have h1:=hi.slots.rep i hin;show Rep w K D _ (lk L2 i);rcases hk i with e|e;rw[e];exact h1;rw[e];exact .undef _
theorem k0Z(ts:List Nat)(L:LE)(t:Nat):lk (g0F ts L) t=lk L t\/lk (g0F ts L) t= .undef:=by
  induction ts with
  |nil=>exact .inr rfl
  |cons s ts ih=>
    simp only[g0F,al,lk]at ih⊢
    cases hb:vC t s with
    |true=>have:=ae hb;subst this;exact .inl rfl
    |false=>exact ih
theorem J.keep (ts:List Nat) {L2:LE} (h2:g0F ts L=L2)(h:J F P c L2 H Q):J F P c L H Q:=
  λhin a w hs=>h hin a w (hs.keep (by rw[<-h2];exact k0Z ts L))
theorem J.skip(h:PJ F Q .normal L H):J F P .skip L H Q:=λ_ a w hs=>wp_skip (h a w hs)
theorem J.ret(h:PJ F Q .ret L H):J F P .ret L H Q:=λ_ a w hs=>wp_ret (h a w hs)
theorem J.exit (h:PJ F Q (.exit id) L H):J F P (.exit id) L H Q:=λ_ a w hs=>wp_exit (h a w hs)
theorem J.seq (h:J F P c1 L H (l0K F P c2 Q)):J F P (.seq c1 c2) L H Q:=λhin a w hs=>by
  simp only[b0t,aa]at hin;refine wp_seq (jJ (λe a' w' hq=> ?_) (h hin.1 a w hs));cases e<;>first|exact hq hin.2|exact hq
theorem PJ.next (h:J F P c L H Q):PJ F (l0K F P c Q) .normal L H:=λa w hs hin=>h hin a w hs
theorem PJ.passRet (h:PJ F Q .ret L H):PJ F (l0K F P c Q) .ret L H:=h
theorem PJ.passExit (h:PJ F Q (.exit id) L H):PJ F (l0K F P c Q) (.exit id) L H:=h
theorem J.block (h:J F P c L H (zF id Q)):J F P (.block id c) L H Q:=λhin a w hs=>wp_block (h hin a w hs)
theorem PJ.blockNormal (h:PJ F Q .normal L H):PJ F (zF id Q) .normal L H:=h
theorem PJ.blockRet (h:PJ F Q .ret L H):PJ F (zF id Q) .ret L H:=h
theorem PJ.blockOut (h:PJ F Q .normal L H):PJ F (zF id Q) (.exit id) L H:=λa w hs=>by
  show(if id=id then _ else _);rw[qC rfl];exact h a w hs
theorem PJ.blockPass {id':Nat} (hne:vC id' id=vB)(h:PJ F Q (.exit id') L H):PJ F (zF id Q) (.exit id') L H:=λa w hs=>by
  show(if id'=id then _ else _);rw[wC (λe=>by subst e;simp at hne)];exact h a w hs
theorem J.cond {c:Operand} {x y:Code} (hv:a0G (a0r L) c=qB (.bool b))(h:J F P (bif b then x else y) L H Q):J F P (.cond c x y) L H Q:=λhin a w hs=>by
  simp only[b0t,aa]at hin;obtain⟨hd,K,D,hi⟩:=hs;have hr:=a0i hi.slots hin.1.1 hv;generalize hva:a.eval c=v at hr;cases hr;refine wp_cond hva ?_;cases b;exact h hin.2 a w ⟨hd,K,D,hi⟩;exact h hin.1.2 a w ⟨hd,K,D,hi⟩
theorem J.region (h:RJ F P none ops 0 [] L H Q):J F P (.region id ops vB) L H Q:=λhin a w hs=>by
  simp only[b0t]at hin;exact wp_region_list (h hin a w hs)
theorem J.draw (hm:P.follows .mixedOrders=yB)(hB:zG .any ops=yB)(h:RJ F P (qB H.length) ops 0 [] L (H++zD (e0G ops) .res) Q):J F P (.region id ops yB) L H Q:=λhin a w hs=>by
  simp only[b0t,vD]at hin;exact z0f (KS:=fun ρ H=> ∀a w,St F ρ H a w->Q .normal a w) hm hB (fun ρ H a w hst hq=>hq a w hst) hin hs (by simpa using h rfl)
theorem RJ.done(hp:ops.size<=p)(h:PJ F Q .normal L H):RJ F P m ops p tr L H Q:=by
  have hd:ops.toList.drop p=[]:=bg (by simpa using hp)
  cases m with
  |none=>intro _ a w hs;rw[hd];exact h a w hs
  |some base=>intro _;rw[hd];exact λa w hs=>h a w hs
theorem e0C (ho:ops.toList[p]?=qB o):ops.toList.drop p=o::ops.toList.drop (p+1):=by
  obtain⟨h1,h2⟩:=ab.1 ho;rw[bO h1,h2]
theorem p0d (ho:ops.toList[p]?=qB o):o∈ops.toList:=aI ho
theorem RJ.step (ho:ops.toList[p]?=qB o)(hg:a0Z ops (a0r L) o=qB yB)(hc:c0d o=vB)(he:a0H P o (a0r L) H (H0i m ops p H)=qB ef)(hok:okM m ops p o ef tr H=yB)
    (h:RJ F P m ops (p+1) (trM m ops p o ef tr) (g0r L o.dst ef.v) (b0e H ef.wr) Q):RJ F P m ops p tr L H Q:=by
  cases m with
  |none=>
    intro hin a w hs;have hbo:Oper.inB F.n ops o=true:=List.all_eq_true.1 hin o (p0d ho);obtain⟨hd,K,D,hi⟩:=hs;rw[e0C ho];refine wpList_step λKK hKK=> ?_
    rw[b0I hi.slots (Oper.inB_guard hbo) hg,qC rfl];exact B0k hi hd (Oper.inB_op hbo) (.inl rfl) he λa' w' hst'=>hKK _ _ (h hin a' w' (by rw[b0g]at hst';exact hst'))
  |some base=>
    intro hl;rw[e0C ho];simp only[okM,aa,bH,vD]at hok;obtain⟨⟨k1,k2⟩,k3⟩:=hok;have k3': ∀x∈ef.wr,x.1<H.length:=λx hx=>bz (ag (by simpa [qE]using k3 x hx))
    subst hl;refine⟨ef, ?_,k1, ?_⟩;unfold opD;rw[hg];simp only;rw[hc,wC dB];refine⟨.inl he,λhcr=> ?_,k3'⟩;rcases k2 with k2|k2;rw[hcr]at k2;cases k2;unfold q0A at k2;split at k2
    assumption
    cases k2;have:=h (by simp[trM]);rw[<-o0f _ _ k3',b0g];exact this
theorem RJ.skip (ho:ops.toList[p]?=qB o)(hg:a0Z ops (a0r L) o=qB vB)(hok:okM m ops p o ⟨.tup [],[],[]⟩ tr [.res]=yB\/True)
    (hk: ∀base,m=qB base->m0D o (h0W o ⟨.tup [],[],[]⟩) (g0R ops base p o ⟨.tup [],[],[]⟩) tr 0=yB)
    (h:RJ F P m ops (p+1) (trM m ops p o ⟨.tup [],[],[]⟩ tr) (g0r L o.dst (.tup [])) H Q):RJ F P m ops p tr L H Q:=by
  cases m with
  |none=>
    intro hin a w hs;have hbo:Oper.inB F.n ops o=true:=List.all_eq_true.1 hin o (p0d ho);obtain⟨hd,K,D,hi⟩:=hs;rw[e0C ho];refine wpList_step λKK hKK=> ?_
    rw[b0I hi.slots (Oper.inB_guard hbo) hg,wC dB];exact hKK _ _ (h hin _ w ⟨by rw[a0O];exact hd,K,D,by have:=v0s hi o.dst;rw[b0g]at this;exact this⟩)
  |some base=>
    intro hl;rw[e0C ho];subst hl;refine⟨⟨.tup [],[],[]⟩, ?_,hk base rfl, ?_⟩;unfold opD;rw[hg];have:=h (by simp[trM]);rw[b0g];exact this
theorem RJ.call (ho:ops.toList[p]?=qB o)(hg:a0Z ops (a0r L) o=qB yB)(hc:g0I (a0r L) o=qB (f,args))(hs:SC P f args H v H')
    (h:RJ F P none ops (p+1) tr (g0r L o.dst v) H' Q):RJ F P none ops p tr L H Q:=by
  intro hin a w hst;have hbo:Oper.inB F.n ops o=true:=List.all_eq_true.1 hin o (p0d ho);obtain⟨hd,K,D,hi⟩:=hst;rw[e0C ho];refine wpList_step λKK hKK=> ?_
  rw[b0I hi.slots (Oper.inB_guard hbo) hg,qC rfl];exact p0M hi hd (Oper.inB_op hbo) hc hs λa' w' hst'=>hKK _ _ (h hin a' w' (by rw[b0g]at hst';exact hst'))
theorem q0B {r:FuncId×List SV} (h:g0I ρ o=qB r):c0d o=true:=by
  unfold g0I at h;split at h;rename_i c ho;unfold s0z at h;split at h;rename_i f hf;simp[c0d,ho,hf];cases h;cases h
theorem RJ.callD (ho:ops.toList[p]?=qB o)(hg:a0Z ops (a0r L) o=qB yB)(hc:g0I (a0r L) o=qB (f,args))(ha:args=SV.rnL g args0)
    (hsel:Sel H g H0) (hlive: ∀en∈H0,h0p en=yB) (hr:SV.refsL H0.length args0=yB) (hv:SV.refs H0.length v0=yB) (hs:SC P f args0 H0 v0 H0)
    (hk: ∀base,m=qB base->m0D o (h0W o ⟨SV.rn g v0,(yC H0.length).map g,[]⟩) (g0R ops base p o ⟨SV.rn g v0,(yC H0.length).map g,[]⟩) tr 0=yB)
    (h:RJ F P m ops (p+1) (trM m ops p o ⟨SV.rn g v0,(yC H0.length).map g,[]⟩ tr) (g0r L o.dst (SV.rn g v0)) H Q):RJ F P m ops p tr L H Q:=by
  cases m with
  |none=>
    have hfr:=SC.frame hs hsel hlive hr (aj _);rw[u0G hsel,<-j0v (f:=g) (m:=H0.length) (λi hi=>by simp[gOf,hi]) v0 hv,<-ha]at hfr;exact RJ.call ho hg hc hfr h
  |some base=>
    intro hl;rw[e0C ho];subst hl;refine⟨⟨SV.rn g v0,(yC H0.length).map g,[]⟩, ?_,hk base rfl, ?_⟩;unfold opD;rw[hg];simp only;rw[q0B hc,qC rfl];exact .inl ⟨f,args,g,args0,H0,v0,hc,ha,hsel,hlive,hr,hv,hs,rfl⟩;have:=h (by simp[trM]);rw[b0g];exact this
end
end
section
variable [Inhabited GT]
section
variable {F : Fr} {P : Program} {L : LE} {H : a0e} {Q : g0o} {m : Option Nat} {ops : Array Oper} {p : Nat} {tr : List (List Nat × List Nat)}
def j0T(P:Program)(m:Option Nat)(ops:Array Oper):Nat->Nat->List (List Nat×List Nat)->LE->a0e->Option (List (List Nat×List Nat)×LE×a0e)
  |0,_,tr,L,H=>qB (tr,L,H)
  |q+1,p,tr,L,H=>match ops.toList[p]? with
    |none=>none
    |some o=>match a0Z ops (a0r L) o with
      |some yB=>bif c0d o then none else match a0H P o (a0r L) H (H0i m ops p H)with
        |some ef=>bif okM m ops p o ef tr H then j0T P m ops q (p+1) (trM m ops p o ef tr) (g0r L o.dst ef.v) (b0e H ef.wr)else none
        |none=>none
      |some vB=>bif(match m with|none=>yB|some base=>m0D o (h0W o ⟨.tup [],[],[]⟩) (g0R ops base p o ⟨.tup [],[],[]⟩) tr 0)then j0T P m ops q (p+1) (trM m ops p o ⟨.tup [],[],[]⟩ tr) (g0r L o.dst (.tup [])) H else none
      |none=>none
theorem o0n: ∀(q p:Nat) (tr:List (List Nat×List Nat)) (L:LE) (H:a0e) (tr2:List (List Nat×List Nat)) (L2:LE) (H2:a0e),j0T P m ops q p tr L H=qB (tr2,L2,H2)->RJ F P m ops (p+q) tr2 L2 H2 Q->RJ F P m ops p tr L H Q:=by
  intro q
  induction q with
  |zero=>intro p tr L H tr2 L2 H2 h k;simp only[j0T]at h;cases h;exact k
  |succ q ih=>
    intro p tr L H tr2 L2 H2 h k;simp only[j0T]at h;rw[show p+(q+1)=p+1+q from by omega]at k;split at h;cases h;rename_i o ho;split at h;rename_i hg
    cases hc:c0d o with
    |true=>rw[hc]at h;cases h
    |false=>
      rw[hc]at h;simp only[oD]at h;split at h;rename_i ef he
      cases hok:okM m ops p o ef tr H with
      |false=>rw[hok]at h;cases h
      |true=>
        rw[hok]at h;exact RJ.step ho hg hc he hok (ih _ _ _ _ _ _ _ h k)
      cases h
    rename_i hg
    cases hb:(match m with|none=>yB|some base=>m0D o (h0W o ⟨.tup [],[],[]⟩) (g0R ops base p o ⟨.tup [],[],[]⟩) tr 0)with
    |false=>rw[hb]at h;cases h
    |true=>
      rw[hb]at h;refine RJ.skip ho hg (.inr trivial) (λbase hm=> ?_) (ih _ _ _ _ _ _ _ h k);subst hm;exact hb
    cases h
theorem RJ.seg(q:Nat)(ts:List Nat) {L2:LE} (h:(j0T P none ops q p [] L H).map (λr=>(g0F ts r.2.1,r.2.2))=qB (L2,H2))(k:RJ F P none ops (p+q) [] L2 H2 Q):RJ F P none ops p [] L H Q:=by
  cases hr:j0T P none ops q p [] L H with
  |none=>rw[hr]at h;cases h
  |some r=>
    obtain⟨tr1,L1,H1⟩:=r;rw[hr]at h;simp only[aT,ah,aD]at h;obtain⟨rfl,rfl⟩:=h;refine o0n q p [] L H tr1 L1 H1 hr ?_;intro hin a w hs;exact k hin a w (hs.keep (k0Z ts L1))
theorem RJ.segD (q:Nat) {L2:LE} (h:j0T P (qB base) ops q p tr L H=qB (tr2,L2,H2))(k:RJ F P (qB base) ops (p+q) tr2 L2 H2 Q):RJ F P (qB base) ops p tr L H Q:=
  o0n q p tr L H tr2 L2 H2 h k
def lOf(r:Option (List (List Nat×List Nat)×LE×a0e)):LE:=match r with|some x=>x.2.1|none=> []
def hOf(r:Option (List (List Nat×List Nat)×LE×a0e)):a0e:=match r with|some x=>x.2.2|none=> []
def tOf(r:Option (List (List Nat×List Nat)×LE×a0e)):List (List Nat×List Nat):=match r with|some x=>x.1|none=> []
theorem RJ.segC(q:Nat)(ts:List Nat)(h:(j0T P none ops q p [] L H).isSome=yB)(k:RJ F P none ops (p+q) [] (g0F ts (lOf (j0T P none ops q p [] L H))) (hOf (j0T P none ops q p [] L H)) Q):RJ F P none ops p [] L H Q:=by
  refine RJ.seg q ts ?_ k
  cases hr:j0T P none ops q p [] L H with
  |none=>rw[hr]at h;cases h
  |some r=>rfl
theorem RJ.segDC (q:Nat)(h:(j0T P (qB base) ops q p tr L H).isSome=yB)(k:RJ F P (qB base) ops (p+q) (tOf (j0T P (qB base) ops q p tr L H)) (lOf (j0T P (qB base) ops q p tr L H)) (hOf (j0T P (qB base) ops q p tr L H)) Q):RJ F P (qB base) ops p tr L H Q:=by
  refine RJ.segD q ?_ k
  cases hr:j0T P (qB base) ops q p tr L H with
  |none=>rw[hr]at h;cases h
  |some r=>rfl
def Wk(F:Fr)(L:LE)(H:a0e)(L2:LE)(H2:a0e):Prop:= ∀a w,Sees F L H a w->Sees F L2 H2 a w
theorem J.wk {L2:LE} (h:Wk F L H L2 H2)(k:J F P c L2 H2 Q):J F P c L H Q:=λhin a w hs=>k hin a w (h a w hs)
theorem PJ.wk {L2:LE} (h:Wk F L H L2 H2)(k:PJ F Q e L2 H2):PJ F Q e L H:=λa w hs=>k a w (h a w hs)
theorem RJ.wk {L2:LE} (h:Wk F L H L2 H2)(k:RJ F P none ops p tr L2 H2 Q):RJ F P none ops p tr L H Q:=λhin a w hs=>k hin a w (h a w hs)
theorem o0u {d:Nat} (h:lk L d=v):a0r ((d,v)::L)=a0r L:=by
  funext t;simp only[a0r,lk]
  cases hb:vC t d with
  |true=>have:=ae hb;subst this;exact h.symm
  |false=>rfl
theorem J.caseB (d:Nat) (hd:lk L d= .bool b)(h1:b=yB->J F P c ((d, .bool yB)::L) H Q)(h2:b=vB->J F P c ((d, .bool vB)::L) H Q):J F P c L H Q:=by
  intro hin a w hs
  cases b with
  |true=>exact h1 rfl hin a w (by unfold Sees;rw[o0u hd];exact hs)
  |false=>exact h2 rfl hin a w (by unfold Sees;rw[o0u hd];exact hs)
theorem RJ.caseB(d:Nat) (hd:lk L d= .bool b)(h1:b=yB->RJ F P m ops p tr ((d, .bool yB)::L) H Q)(h2:b=vB->RJ F P m ops p tr ((d, .bool vB)::L) H Q):RJ F P m ops p tr L H Q:=by
  cases b with
  |true=>
    have:=h1 rfl
    cases m with
    |none=>intro hin a w hs;exact this hin a w (by unfold Sees;rw[o0u hd];exact hs)
    |some base=>intro hl;have t:=this hl;rw[o0u hd]at t;exact t
  |false=>
    have:=h2 rfl
    cases m with
    |none=>intro hin a w hs;exact this hin a w (by unfold Sees;rw[o0u hd];exact hs)
    |some base=>intro hl;have t:=this hl;rw[o0u hd]at t;exact t
/-! Loops. -/
def a0n {S O:Type} (step:S->Option (S⊕O)):Nat->S->Option O
  |0,_=>none
  |n+1,s=>match step s with
    |none=>none
    |some (.inr o)=>qB o
    |some (.inl s')=>a0n step n s'
theorem J.loop {step:S->Option (S⊕O)} {s0:S} {o:O} (R:S->LE×a0e)(ho:a0n step n s0=qB o)(hL:L=(R s0).1)(hH:H=(R s0).2)
    (body: ∀s x,step s=qB x->J F P c (R s).1 (R s).2 (λe a w=>match x with
      | .inl s'=>e= .normal/\Sees F (R s').1 (R s').2 a w
      | .inr o'=>e≠ .normal/\(o'=o->Q e a w))):J F P (.loop c) L H Q:=by
  subst hL;subst hH;intro hin;have hin':b0t F.n c=true:=hin;clear hin
  have key: ∀n s0,a0n step n s0=qB o-> ∀a w,Sees F (R s0).1 (R s0).2 a w-> ∀(b:Frame) (k:List Item) (cs:List Frame),∃e a' w',Q e a' w'/\Arrives P (lone (b.at a (.code c:: .inLoop c::k)) cs w) b k cs e a' w':=by
    intro n
    induction n with
    |zero=>intro s0 h;cases h
    |succ n ih=>
      intro s0 h a w hs b k cs;simp only[a0n]at h;split at h;cases h;rename_i o' hst;cases h;have hr:=body s0 _ hst hin' a w hs;obtain⟨e,a₁,w₁,⟨hne,hq⟩,harr⟩:=hr b (.inLoop c::k) cs;have hq:=hq rfl;refine⟨e,a₁,w₁,hq, ?_⟩
      cases e with
      |normal=>exact absurd rfl hne
      |exit id=>exact .pass (x:= .inLoop c) rfl (λ_ _=> .inl dB) harr
      |goto l=>exact .pass (x:= .inLoop c) rfl (λ_ _=> .inl dB) harr
      |ret=>exact .pass (x:= .inLoop c) rfl (λ_ _=> .inl dB) harr
      |panic ch=>exact .pass (x:= .inLoop c) rfl (λ_ _=> .inl dB) harr
      |outgrown=>exact .pass (x:= .inLoop c) rfl (λ_ _=> .inl dB) harr
      rename_i s' hst;have hr:=body s0 _ hst hin' a w hs;obtain⟨e,a₁,w₁,⟨rfl,hs'⟩,harr⟩:=hr b (.inLoop c::k) cs;obtain⟨e₂,a₂,w₂,hq₂,harr₂⟩:=ih s' h a₁ w₁ hs' b k cs;exact⟨e₂,a₂,w₂,hq₂, .of_steps (Steps.trans harr (.one step_inLoop)) harr₂⟩
  intro a w hs b k cs;obtain⟨e,a',w',hq,harr⟩:=key n s0 ho a w hs b k cs;exact⟨e,a',w',hq, .of_steps (.one step_loop) harr⟩
/-! Functions. -/
def y0w(P:Program)(L:LE)(H:a0e):ResultVar->Option SV
  | .tmp t=>qB (lk L t)
  | .cell t ty=>match lk L t with
    | .ptr b off=>match(H[b]?).bind b0S with
      |some cs=>b0w P ty (cs.drop off)
      |none=>none
    |_=>none
def J0Q {α β:Type} (f:α->Option β):List α->Option (List β)
  | []=>qB []
  |x::r=>match f x,J0Q f r with
    |some y,qB ys=>qB (y::ys)
    |_,_=>none
def u0v(P:Program)(rs:List ResultVar)(L:LE)(H:a0e):Option SV:=
  match rs with
  | [r]=>y0w P L H r
  |rs=>(J0Q (y0w P L H) rs).map .tup
def e0L:List ResultVar->List Nat
  | []=> []
  | .tmp t::rs=>t::e0L rs
  | .cell t _::rs=>t::e0L rs
def j0Z(n:Nat)(rs:List ResultVar):Bool:=(e0L rs).all (λt=>wB (t<n))
def w0S(tm:Array Value)(r:ResultVar):Sem Value:=
  match r with
  | .tmp t=>pure (tm.getD t undef)
  | .cell a t=>do loadVar t (<-asAddr (tm.getD a undef))
theorem A0T(fn:Func)(tm:Array Value):results fn tm=(do
    let vs<-fn.results.mapM (w0S tm)
    pure (if h:vs.size=1 then vs[0]else .tuple vs)):=rfl
theorem C0N {K:Nat->Nat} (h:Inv F w K D H (a0r L) tm) {r:ResultVar} (ht: ∀t∈e0L [r],t<F.n)(hs:y0w P L H r=qB s):
    ∃v,(w0S tm r).run P w= .ok v w/\Rep w K D v s:=by
  cases r with
  |tmp t=>
    simp only[y0w]at hs;cases hs;exact⟨_,rfl,h.slots.rep t (ht t (by simp[e0L]))⟩
  |cell t ty=>
    simp only[y0w]at hs;have htn:=ht t (by simp[e0L]);split at hs;rename_i bi off hv;split at hs;rename_i cs hcs;have hr:=h.slots.rep t htn;rw[show a0r L t=lk L t from rfl,hv]at hr;obtain⟨b,c,m,hvx,hd⟩:=r0f hr
    cases hH:H[bi]? with
    |none=>rw[hH]at hcs;cases hcs
    |some en=>
      rw[hH]at hcs;obtain⟨vs,rest,e,hheap,hcr,_,_⟩:=v0P h.hinv hH hd hcs;have hrow:=(g0G hheap hcr).drop off;rw[aY]at hrow;obtain⟨v,hrun,hrep'⟩:=m0q (P:=P) hrow hs;refine⟨v, ?_,hrep'⟩;simp only[w0S,hvx];simp[asAddr,hrun]
    cases hs;cases hs
theorem A0U {K:Nat->Nat} (h:Inv F w K D H (a0r L) tm): ∀(rs:List ResultVar) (vs:List SV),(∀t∈e0L rs,t<F.n)->J0Q (y0w P L H) rs=qB vs->
    ∃us,(rs.mapM (w0S tm)).run P w= .ok us w/\us.length=vs.length/\us.length=rs.length/\(∀(j:Nat) (v:Value) (c:SV),us[j]?=qB v->vs[j]?=qB c->Rep w K D v c):=by
  intro rs
  induction rs with
  |nil=>intro vs _ hv;simp[J0Q]at hv;subst hv;exact⟨[],rfl,rfl,rfl,λj v c e=>by simp at e⟩
  |cons r rs ih=>
    intro vs ht hv;have htl:e0L (r::rs)=e0L [r]++e0L rs:=by cases r<;>rfl
    simp only[J0Q]at hv;split at hv;rename_i s ss h1 h2;cases hv;obtain⟨u,hu1,hu2⟩:=C0N (P:=P) h (r:=r) (λt hm=>ht t (by rw[htl];exact au.2 (.inl hm))) h1;obtain⟨us,i1,i2,i3,i4⟩:=ih ss (λt hm=>ht t (by rw[htl];exact au.2 (.inr hm))) h2;refine⟨u::us, ?_,by simp[i2],by simp[i3],λj v c hv hc=> ?_⟩;simp only[cI,yD,hu1,jD,i1,vE]
    cases j with
    |zero=>simp at hv hc;subst hv;subst hc;exact hu2
    |succ j=>exact i4 j v c (by simpa using hv) (by simpa using hc)
    cases hv
def u0a(P:Program)(fn:Func)(F:Fr)(v:SV)(H':a0e):g0o:=λe a w=>(e= .normal\/e= .ret)/\a.defers=F.ds/\ ∃r,(results fn a.tmps).run P w= .ok r w/\Good F.w0 F.K0 F.D0 F.H0 r w v H'
structure Back (m0:Nat) (H:a0e) (f:Nat->Nat) (v1 v:SV) (H':a0e):Prop where
  sel:Sel H f H'
  keep: ∀j,j<m0->f j=j
  le:m0<=H'.length
  val:v1=SV.rn f v
  refs:SV.refs H'.length v=yB
mutual
theorem A0R: ∀(s:SV),SV.rn (λj=>j) s=s
  | .agg cs=>by simp only[SV.rn];rw[t0a cs]
  | .tup cs=>by simp only[SV.rn];rw[t0a cs]
  | .fn q a b=>by simp only[SV.rn];rw[t0a a,t0a b]
  | .ptr _ _=>rfl
  | .vc _=>rfl
  | .sl _ _ _ _=>rfl
  | .mp _=>rfl
  | .undef=>rfl
  | .bool _=>rfl
  | .int _ _=>rfl
  | .str _=>rfl
  | .nl=>rfl
  | .lst _ _ _=>rfl
  | .ep _=>rfl
  | .nilp=>rfl
  | .yld _=>rfl
theorem t0a: ∀(cs:List SV),SV.rnL (λj=>j) cs=cs
  | []=>rfl
  |c::cs=>by simp only[SV.rnL];rw[A0R c,t0a cs]
end
theorem H0l(en:Ent):Ent.rn (λj=>j) en=en:=by
  cases en<;>simp[Ent.rn,t0a,A0R]
theorem Back.drop {m0:Nat} {ex:a0e} (hle:m0<=H'.length)(hr:SV.refs H'.length v=yB)(hH:H'.all (Ent.refs H'.length)=yB):Back m0 (H'++ex) (λj=>j) v v H':=
  ⟨⟨λj en hj=>by rw[H0l,bC (ab.1 hj).1];exact hj,λi j _ _ e=>e,λj en hj=>List.all_eq_true.1 hH en (aI hj)⟩,λ_ _=>rfl,hle,(A0R v).symm,hr⟩
theorem j0t {K:Nat->Nat} {w0:World} {K0:Nat->Nat} {D0:DM} {f:Nat->Nat} (hg:Grow w0 K0 D0 H0 w K D H)(hi:HInv w K D H)(hr:Rep w K D r v1)(hb:Back H0.length H f v1 v H')
    (hdom: ∀i,H0.length<=i->D0 i=none):Good w0 K0 D0 H0 r w v H':=by
  refine⟨K,m0F D f H'.length,⟨hg.os,hg.tape,hg.output,hg.size,hg.block,hg.cells,hg.le,hg.kk,λi x hx=> ?_,λb hm=>hg.new b (hb.sel.mem hm)⟩,hb.sel.hinv hi,h0B hr v hb.val hb.refs⟩
  have hil:i<H0.length:=by
    rcases bL i H0.length with h|h;exact h;rw[hdom i h]at hx;cases hx
  simp only[m0F,qC (ba hil hb.le),hb.keep i hil];exact hg.dd i x hx
theorem t0b {fn:Func} {K:Nat->Nat} (hi:Inv F w K D H (a0r L) tm)(hin:j0Z F.n fn.results.toList=yB)(hret:u0v P fn.results.toList L H=qB v1):
    ∃r,(results fn tm).run P w= .ok r w/\Rep w K D r v1:=by
  simp only[j0Z,vD,decide_eq_true_eq]at hin
  have hres: ∀us,(fn.results.toList.mapM (w0S tm)).run P w= .ok us w->
      (results fn tm).run P w= .ok (if h:us.toArray.size=1 then us.toArray[0]else .tuple us.toArray) w:=by
    intro us hus;rw[A0T,Array.mapM_eq_mapM_toList];simp[hus]
  unfold u0v at hret;split at hret;rename_i rr hrs;rw[hrs]at hres hin;obtain⟨u,h1,h2⟩:=C0N (P:=P) hi hin hret;refine⟨u, ?_,h2⟩;have:=hres [u] (by simp[h1]);simpa using this;rename_i hne
  cases hm:J0Q (y0w P L H) fn.results.toList with
  |none=>rw[hm]at hret;cases hret
  |some vs=>
    rw[hm]at hret;cases hret;obtain⟨us,h1,h2,h3,h4⟩:=A0U (P:=P) hi _ vs hin hm
    have hn1:us.length≠1:=by
      intro he1;obtain⟨x,hx⟩:=List.length_eq_one_iff.1 (h3.symm.trans he1);exact hne x hx
    refine⟨.tuple us.toArray,by have:=hres _ h1;rw[dif_neg (by simpa using hn1)]at this;exact this, .tup us vs h2.symm h4⟩
theorem PJ.end {fn:Func} {f:Nat->Nat} (he:e= .normal\/e= .ret)(hin:j0Z F.n fn.results.toList=yB)(hret:u0v P fn.results.toList L H=qB v1)(hb:Back F.H0.length H f v1 v H')(hdom: ∀i,F.H0.length<=i->F.D0 i=none):
    PJ F (u0a P fn F v H') e L H:=by
  intro a w hs;obtain⟨hd,K,D,hi⟩:=hs;refine⟨he,hd, ?_⟩;obtain⟨r,h1,h2⟩:=t0b (P:=P) hi hin hret;exact⟨r,h1,j0t hi.grow hi.hinv h2 hb hdom⟩
def f0k:Nat->List SV->LE
  |_,[]=> []
  |i,v::r=>(i,v)::f0k (i+1) r
theorem m0c: ∀(args:List SV) (i t:Nat),lk (f0k i args) t=if i<=t then(args[t-i]?).getD .undef else .undef
  | [],i,t=>by simp[f0k,lk]
  |v::r,i,t=>by
    simp only[f0k,lk]
    cases hb:vC t i with
    |true=>have:=ae hb;subst this;simp
    |false=>
      have hne:t≠i:=λe=>by subst e;simp at hb
      simp only[oD];rw[m0c r (i+1) t];by_cases hle:i<=t;rw[qC hle,qC cV,show t-i=(t-(i+1))+1 from by omega];simp;rw[wC hle,wC cV]
theorem J0M {P:Program} {fn:Func} (hf:P.funcs[f]?=qB fn)(hb:fn.body=qB c)(hcal:b0u P f=yB)(hin:b0t fn.ntmps c=yB)
 {H:a0e} (hn:args.length<=fn.ntmps)
    (h: ∀F:Fr,F.n=fn.ntmps->F.H0=H->(∀i,F.H0.length<=i->F.D0 i=none)->J F P c (f0k 0 args) H (u0a P fn F v H')):SC P f args H v H':=by
  refine⟨hcal,λw K D vals hl hrep hi hG=> ?_⟩
  let F:Fr:=⟨fn.ntmps,w,K,D,H,[]⟩
  have hslots:Slots fn.ntmps w K D (a0r (f0k 0 args)) (vals.toArray++jE (fn.ntmps-vals.toArray.size) undef):=by
    refine⟨dA,λi hin=> ?_,hG⟩;show Rep w K D _ (lk (f0k 0 args) i);rw[m0c,qC (bf _),bD];by_cases hia:i<args.length;have hiv:i<vals.length:=by omega
    rw[af hia,bl]
    have hg:(vals.toArray++jE (fn.ntmps-vals.toArray.size) undef).getD i undef=vals[i]:=by
      rw[aU,bM (by simpa using hiv)];simp[hiv]
    rw[hg];exact hrep i _ _ (af hiv) (af hia);rw[ay cV];exact .undef _
  have hst:Sees F (f0k 0 args) H { tmps:=vals.toArray++jE (fn.ntmps-vals.toArray.size) undef,defers:=[] } w:=⟨rfl,K,D,⟨hslots,hi,Grow.refl _ _ _ _⟩⟩
  refine calls_of_wp hf hb (jJ (λe a' w' hq=> ?_) (h F rfl rfl hi.dom hin _ w hst));obtain⟨he,hd,r,hr,hg⟩:=hq;rcases he with rfl|rfl<;>exact⟨hd,r,hr,r,rfl,hg⟩
end
end
section
variable [Inhabited GT]
mutual
def SV.fz(i:Nat)(s0:SV):SV->SV
  | .agg cs=> .agg (SV.fzL i s0 cs)
  | .tup cs=> .tup (SV.fzL i s0 cs)
  | .fn g a b=> .fn g (SV.fzL i s0 a) (SV.fzL i s0 b)
  | .vc j=>bif vC j i then s0 else .vc j
  | .ptr j off=> .ptr j off
  | .sl j off n k=> .sl j off n k
  | .mp j=> .mp j
  | .undef=> .undef
  | .bool b=> .bool b
  | .int k n=> .int k n
  | .str s=> .str s
  | .nl=> .nl
  | .lst n k cs=> .lst n k cs
  | .ep cs=> .ep cs
  | .nilp=> .nilp
  | .yld j=> .yld j
def SV.fzL(i:Nat)(s0:SV):List SV->List SV
  | []=> []
  |c::cs=>SV.fz i s0 c::SV.fzL i s0 cs
end
theorem r0u(i:Nat)(s0:SV): ∀(cs:List SV) (j:Nat),(SV.fzL i s0 cs)[j]?=(cs[j]?).map (SV.fz i s0)
  | [],j=>by simp[SV.fzL]
  |c::cs,j=>by
    cases j with
    |zero=>simp[SV.fzL]
    |succ j=>simpa [SV.fzL]using r0u i s0 cs j
theorem j0M(i:Nat)(s0:SV): ∀(cs:List SV),(SV.fzL i s0 cs).length=cs.length
  | []=>rfl
  |c::cs=>by simp[SV.fzL,j0M i s0 cs]
def Ent.fz(i:Nat)(s0:SV):Ent->Ent
  | .box cs=> .box (SV.fzL i s0 cs)
  |e=>e
section
variable {w : World} {K K' : Nat -> Nat} {D : DM}
theorem G0R (hm: ∀v s,Rep w K D v s->Rep w K' D v s)(h0: ∀v,Rep w K D v (.vc i)->Rep w K' D v s0) {v:Value} (h:Rep w K D v s):Rep w K' D v (SV.fz i s0 s):=by
  induction h with
  |undef v=>exact .undef _
  |bool b=>exact .bool _
  |int k n=>exact .int _ _
  |str sb=>exact .str _
  |nl a=>exact .nl _
  |emp k a cap=>exact .emp _ _ _
  |lst k b off len cap vs cs hk hl hc hcap hmm hK h1 hp h _=>exact hm _ _ (.lst k b off len cap vs cs hk hl hc hcap hmm hK h1 hp h)
  |ep b off vs cs hc hmm hK h1 hp h _=>exact hm _ _ (.ep b off vs cs hc hmm hK h1 hp h)
  |agg vs cs hc h1 _ ih=>
    refine .agg vs _ (by rw[j0M,hc]) h1 (λj v c hv hcc=> ?_);rw[r0u]at hcc
    cases hx:cs[j]? with
    |none=>rw[hx]at hcc;cases hcc
    |some x=>rw[hx]at hcc;cases hcc;exact ih j v x hv hx
  |tup vs cs hc _ ih=>
    refine .tup vs _ (by rw[j0M,hc]) (λj v c hv hcc=> ?_);rw[r0u]at hcc
    cases hx:cs[j]? with
    |none=>rw[hx]at hcc;cases hcc
    |some x=>rw[hx]at hcc;cases hcc;exact ih j v x hv hx
  |ptr i off b c n hd=>exact .ptr _ _ b c n hd
  |vcn j a hd=>
    simp only[SV.fz]
    cases hb:vC j i with
    |true=>have:=ae hb;subst this;exact h0 _ (.vcn _ a hd)
    |false=>exact .vcn _ a hd
  |vc j b c n hd=>
    simp only[SV.fz]
    cases hb:vC j i with
    |true=>have:=ae hb;subst this;exact h0 _ (.vc _ b c n hd)
    |false=>exact .vc _ b c n hd
  |sl i off n k b c m' cap hd hn=>exact .sl _ _ _ _ b c m' cap hd hn
  |mp i r c n hd=>exact .mp _ r c n hd
  |fn q fs caps gs dcs hc hd _ _ ih ih'=>
    refine .fn q fs caps _ _ (by rw[j0M,hc]) (by rw[j0M,hd]) (λj v c hv hcc=> ?_) (λj v c hv hcc=> ?_);rw[r0u]at hcc
    cases hx:gs[j]? with
    |none=>rw[hx]at hcc;cases hcc
    |some x=>rw[hx]at hcc;cases hcc;exact ih j v x hv hx
    rw[r0u]at hcc
    cases hx:dcs[j]? with
    |none=>rw[hx]at hcc;cases hcc
    |some x=>rw[hx]at hcc;cases hcc;exact ih' j v x hv hx
  |nilp=>exact .nilp
  |yld i l c n hd=>exact .yld _ l c n hd
theorem H0n {j:Nat} {en:Ent} (hr: ∀v s,Rep w K D v s->Rep w K' D v (SV.fz i s0 s))(hp: ∀v s,Rep w K D v s->Rep w K' D v s)(h:EntOk w K D j en)
    (hK: ∀b c n,h0p en=yB->D j=qB (.at b c n)->K' b=K b):EntOk w K' D j (Ent.fz i s0 en):=by
  cases en with
  |res=>exact h
  |gone=>trivial
  |box cs=>
    obtain⟨b,vs,e,h1,h2,h3,h4⟩:=h;refine⟨b,vs,e,h1,by rw[hK b 0 0 rfl h1];exact h2,h3,⟨by rw[j0M,h4.len],h4.one,λj v c hv hc=> ?_⟩⟩;rw[r0u]at hc
    cases hx:cs[j]? with
    |none=>rw[hx]at hc;cases hc
    |some x=>rw[hx]at hc;cases hc;exact hr _ _ (h4.rep j v x hv hx)
  |vec n k e cs=>exact h.keep (w':=w) hp rfl (λb c n' hl hd=>⟨rfl,hK b c n' hl hd⟩)
  |map es=>exact h.keep (w':=w) hp rfl (λb c n' hl hd=>⟨rfl,hK b c n' hl hd⟩)
  |pmap es=>exact h.keep (w':=w) hp rfl (λb c n' hl hd=>⟨rfl,hK b c n' hl hd⟩)
  |itr m n s=>exact h.keep (w':=w) hp rfl (λb c n' hl hd=>⟨rfl,hK b c n' hl hd⟩)
  |lop tm ps as bd st pd=>exact h.keep (w':=w) hp rfl (λb c n' hl hd=>⟨rfl,hK b c n' hl hd⟩)
  |dfr=>exact h.keep (w':=w) hp rfl (λb c n' hl hd=>⟨rfl,hK b c n' hl hd⟩)
theorem r0n (en:Ent):h0p (Ent.fz i s0 en)=h0p en:=by cases en<;>rfl
end
def fzE(i:Nat)(s0:SV)(L:LE):LE:=L.map λp=>(p.1,SV.fz i s0 p.2)
theorem x0x(i:Nat)(s0:SV): ∀(L:LE) (t:Nat),lk (fzE i s0 L) t=SV.fz i s0 (lk L t)
  | [],t=>rfl
  |(j,v)::r,t=>by
    simp only[fzE,al,lk]
    cases vC t j with
    |true=>rfl
    |false=>exact x0x i s0 r t
def fzH(i:Nat)(s0:SV)(H:a0e):a0e:=(H.map (Ent.fz i s0)).set i .gone
section
variable {F : Fr} {P : Program} {L : LE} {H : a0e}
theorem Wk.freeze(i:Nat) {e:TypeId} (hi:H[i]?=qB (.vec n k e cs)):Wk F L H (fzE i (.lst n k cs) L) (fzH i (.lst n k cs) H):=by
  intro a w hs;obtain⟨hd,K,D,h⟩:=hs;have hil:i<H.length:=(ab.1 hi).1;obtain⟨hp,hent⟩:=h.hinv.ent i _ hi
  have hget: ∀j en,(fzH i (.lst n k cs) H)[j]?=qB en->(j=i/\en= .gone)\/(j≠i/\ ∃en0,H[j]?=qB en0/\en=Ent.fz i (.lst n k cs) en0):=by
    intro j en hj;unfold fzH at hj;rw[aN]at hj;by_cases hji:i=j
    · subst hji
      rw[qC rfl]at hj;split at hj<;>cases hj
      exact .inl ⟨rfl,rfl⟩
    rw[wC hji,aq]at hj
    cases hx:H[j]? with
    |none=>rw[hx]at hj;cases hj
    |some en0=>rw[hx]at hj;cases hj;exact .inr ⟨Ne.symm hji,en0,rfl,rfl⟩
  -- what is settled from now on
  have key: ∃K':Nat->Nat,(∀b,K b<=K' b)/\(∀v,Rep w K D v (.vc i)->Rep w K' D v (.lst n k cs))/\(∀b,K' b≠K b->Mem D H b)/\(∀j en b c n',j≠i->H[j]?=qB en->h0p en=yB->D j=qB (.at b c n')->K' b=K b):=by
    rcases hent with⟨h1,h2,h3⟩|⟨b,c,vs,rest,h1,h2,h3,h4,h5,h6,h7,h8,h9⟩;subst h2;subst h3;refine⟨K,λ_=>aj _,λv hv=> ?_,λb hb=>absurd rfl hb,λ_ _ _ _ _ _ _ _ _=>rfl⟩
    cases hv with
    |vcn _ ad hd=>exact .emp _ _ _
    |vc _ b c n hd=>rw[h1]at hd;cases hd
    have hmono: ∀b',K b'<=(if b'=b then n*k else K b'):=λb'=>by
      split;rename_i e1;subst e1;omega;exact aj _
    refine⟨λb'=>if b'=b then n*k else K b',hmono,λv hv=> ?_,λb' hb'=> ?_,λj en b' c' n' hji hj hl hdj=> ?_⟩
    cases hv with
    |vcn _ ad hd=>rw[h1]at hd;cases hd
    |vc _ b' c' n' hd=>
      rw[h1]at hd;cases hd;have hrow:=g0G h6 h9;have hm: ∀v s,Rep w K D v s->Rep w (λb'=>if b'=b then n*k else K b') D v s:=λv s hr=>hr.mono (λ_ _ _=>rfl) hmono (λ_ _ e=>e)
      exact .lst k b 0 n c vs cs h3 h7 h9.len h4 hrow.mem (by simp[h7]) h9.one hp (λj v c hv hc=>hm _ _ (h9.rep j v c hv hc))
    have:b'=b:=by
      rcases Nat.decEq b' b with hne|he;exact absurd (wC hne) hb';exact he
    subst this;exact⟨i,_,c,n,hi,rfl,h1⟩;refine wC λe1=> ?_
    subst e1;exact hji (h.hinv.inj j i en _ b' c' n' c n hj hi hl rfl hdj h1)
  obtain⟨K',k1,k2,k3,k4⟩:=key;have hm: ∀v s,Rep w K D v s->Rep w K' D v s:=λv s hr=>hr.mono (λ_ _ _=>rfl) k1 (λ_ _ e=>e)
  have hf: ∀v s,Rep w K D v s->Rep w K' D v (SV.fz i (.lst n k cs) s):=λv s hr=>G0R hm k2 hr
  have hmem: ∀b,Mem D (fzH i (.lst n k cs) H) b->Mem D H b:=by
    rintro b ⟨j,en,c,n',q1,q2,q3⟩;rcases hget j en q1 with⟨_,rfl⟩|⟨_,en0,g1,rfl⟩;cases q2;rw[r0n]at q2;exact⟨j,en0,c,n',g1,q2,q3⟩
  have g:=h.grow
  refine⟨hd,K',D,⟨⟨h.slots.size,λt ht=> ?_,λg cs hg=>(h.slots.glob g cs hg).mono (λ_ _ _=>rfl) k1 (λ_ _ e=>e)⟩,⟨λj hj=>h.hinv.dom j (by unfold fzH at hj;simpa using hj),λj en hj=> ?_,λj j' en en' b c n1 c' n1' hj hj' hl hl' hdj hdj'=> ?_,λb hb=> ?_⟩,
    ⟨g.os,g.tape,g.output,g.size,g.block,g.cells,λb=>aG (g.le b) (k1 b),λb hb hmm=> ?_,g.dd,λb hmm=>g.new b (hmem b hmm)⟩⟩⟩
  show Rep w K' D _ (lk (fzE i (.lst n k cs) L) t);rw[x0x];exact hf _ _ (h.slots.rep t ht);rcases hget j en hj with⟨_,rfl⟩|⟨hne,en0,g1,rfl⟩;trivial;exact H0n hf hm (h.hinv.ent j en0 g1) (λb c n' hl hdj=>k4 j en0 b c n' hne g1 hl hdj);rcases hget j en hj with⟨_,rfl⟩|⟨_,en0,g1,rfl⟩;cases hl;rcases hget j' en' hj' with⟨_,rfl⟩|⟨_,en0',g1',rfl⟩;cases hl';rw[r0n]at hl hl';exact h.hinv.inj j j' en0 en0' b c n1 c' n1' g1 g1' hl hl' hdj hdj';by_cases hbb:K' b=K b;rw[hbb]at hb;exact h.hinv.kw b hb;exact(k0I h.hinv (k3 b hbb)).1;by_cases hbb:K' b=K b;rw[hbb];exact g.kk b hb hmm;rcases g.new b (k3 b hbb)with q|q;exact absurd q hmm;omega
theorem m0Z(D:DM)(i:Nat)(l:Loc):g0L D i l i=qB l:=by simp[g0L]
theorem p0k(D:DM) {j:Nat} (l:Loc)(h:j≠i):g0L D i l j=D j:=by simp[g0L,h]
theorem Wk.move(i:Nat) {e:TypeId} (hi:H[i]?=qB (.vec n k e cs)):Wk F L H (fzE i (.vc H.length) L) (fzH i (.vc H.length) H++ [.vec n k e cs]):=by
  intro a w hs;obtain⟨hd,K,D,h⟩:=hs;have hil:i<H.length:=(ab.1 hi).1;have hent:=h.hinv.ent i _ hi
  obtain⟨x,hx⟩: ∃x,D i=qB x:=by
    rcases hent.2 with⟨h1,_⟩|⟨b,c,_,_,h1,_⟩;exact⟨_,h1⟩;exact⟨_,h1⟩
  have hN:D H.length=none:=h.hinv.dom _ (aj _)
  have hDD: ∀j y,D j=qB y->g0L D H.length x j=qB y:=λj y hj=>by
    have:j≠H.length:=λe1=>by rw[e1,hN]at hj;cases hj
    rw[p0k D x this];exact hj
  have hm: ∀v s,Rep w K D v s->Rep w K (g0L D H.length x) v s:=λv s hr=>hr.mono (λ_ _ _=>rfl) (λ_=>aj _) hDD
  have h0: ∀v,Rep w K (g0L D H.length x) v (.vc i)->Rep w K (g0L D H.length x) v (.vc H.length):=λv hv=>by
    have e1:g0L D H.length x i=qB x:=hDD i x hx
    cases hv with
    |vcn _ ad hd=>rw[e1]at hd;exact .vcn _ ad (by rw[m0Z];exact hd)
    |vc _ b c n hd=>rw[e1]at hd;exact .vc _ b c n (by rw[m0Z];exact hd)
  have hf: ∀v s,Rep w K (g0L D H.length x) v s->Rep w K (g0L D H.length x) v (SV.fz i (.vc H.length) s):=λv s hr=>G0R (λ_ _ h=>h) h0 hr
  have hlen:(fzH i (.vc H.length) H).length=H.length:=by simp[fzH]
  have hget: ∀j en,(fzH i (.vc H.length) H++ [.vec n k e cs])[j]?=qB en->(j=i/\en= .gone)\/(j≠i/\j<H.length/\ ∃en0,H[j]?=qB en0/\en=Ent.fz i (.vc H.length) en0)\/(j=H.length/\en= .vec n k e cs):=by
    intro j en hj;rw[aL,hlen]at hj;by_cases hjl:j<H.length;rw[qC hjl]at hj;unfold fzH at hj;by_cases hji:i=j;subst hji;rw[co (by simpa using hil)]at hj;cases hj;exact .inl ⟨rfl,rfl⟩;rw[cf hji,aq]at hj
    cases hxx:H[j]? with
    |none=>rw[hxx]at hj;cases hj
    |some en0=>rw[hxx]at hj;cases hj;exact .inr (.inl ⟨Ne.symm hji,hjl,en0,rfl,rfl⟩)
    rw[wC hjl]at hj
    have hj0:j-H.length=0:=by
      have:=(ab.1 hj).1;simp at this;omega
    rw[hj0]at hj;simp only[ci,ah]at hj;exact .inr (.inr ⟨cV,hj.symm⟩)
  have hmem: ∀b,Mem (g0L D H.length x) (fzH i (.vc H.length) H++ [.vec n k e cs]) b->Mem D H b:=by
    rintro b ⟨j,en,c,n',q1,q2,q3⟩;rcases hget j en q1 with⟨_,rfl⟩|⟨_,hjl,en0,g1,rfl⟩|⟨rfl,rfl⟩;cases q2;rw[r0n]at q2;rw[p0k D x cV]at q3;exact⟨j,en0,c,n',g1,q2,q3⟩;rw[m0Z]at q3;exact⟨i,_,c,n',hi,rfl,by rw[hx];exact q3⟩
  have g:=h.grow
  refine⟨hd,K,g0L D H.length x,⟨⟨h.slots.size,λt ht=> ?_,j0C h.slots.glob⟩,⟨λj hj=> ?_,λj en hj=> ?_,λj j' en en' b c n1 c' n1' hj hj' hl hl' hdj hdj'=> ?_,λb hb=>h.hinv.kw b hb⟩,
    ⟨g.os,g.tape,g.output,g.size,g.block,g.cells,g.le,g.kk,λj y hj=>hDD j y (g.dd j y hj),λb hmm=>g.new b (hmem b hmm)⟩⟩⟩
  show Rep w K _ _ (lk (fzE i (.vc H.length) L) t);rw[x0x];exact hf _ _ (hm _ _ (h.slots.rep t ht));rw[aA,hlen]at hj;simp only[aW,bY]at hj;rw[p0k D x cV];exact h.hinv.dom j cV;rcases hget j en hj with⟨_,rfl⟩|⟨hne,hjl,en0,g1,rfl⟩|⟨rfl,rfl⟩;trivial;have he0:EntOk w K (g0L D H.length x) j en0:=(h.hinv.ent j en0 g1).keep hm (p0k D x cV) (λ_ _ _ _ _=>⟨rfl,rfl⟩);exact H0n hf (λ_ _ h=>h) he0 (λ_ _ _ _ _=>rfl);obtain⟨hp,hh⟩:=hent;refine⟨hp, ?_⟩;rcases hh with⟨h1,h2,h3⟩|⟨b,c,vs,rest,h1,h2,h3,h4,h5,h6,h7,h8,h9⟩;exact .inl ⟨by rw[m0Z,<-hx];exact h1,h2,h3⟩;exact .inr ⟨b,c,vs,rest,by rw[m0Z,<-hx];exact h1,h2,h3,h4,h5,h6,h7,h8,h9.mono hm⟩;rcases hget j en hj with⟨_,rfl⟩|⟨hne,hjl,en0,g1,rfl⟩|⟨rfl,rfl⟩;cases hl;rw[p0k D x cV]at hdj;rw[r0n]at hl;rcases hget j' en' hj' with⟨_,rfl⟩|⟨hne',hjl',en0',g1',rfl⟩|⟨rfl,rfl⟩;cases hl';rw[p0k D x cV]at hdj';rw[r0n]at hl';exact h.hinv.inj j j' en0 en0' b c n1 c' n1' g1 g1' hl hl' hdj hdj';rw[m0Z,<-hx]at hdj';exact absurd (h.hinv.inj j i en0 _ b c n1 c' n1' g1 hi hl rfl hdj hdj') hne;rw[m0Z,<-hx]at hdj;rcases hget j' en' hj' with⟨_,rfl⟩|⟨hne',hjl',en0',g1',rfl⟩|⟨rfl,rfl⟩;cases hl';rw[p0k D x cV]at hdj';rw[r0n]at hl';exact absurd (h.hinv.inj i j' _ en0' b c n1 c' n1' hi g1' rfl hl' hdj hdj').symm hne';rfl
theorem s0x {K:Nat->Nat} (h:HInv w K D H)(k:Nat)(e:TypeId):Grow w K D H w K (g0L D H.length .nil) (H++ [.vec 0 k e []])/\HInv w K (g0L D H.length .nil) (H++ [.vec 0 k e []]):=by
  have:=t0i h (idx:=H.length) (.inl rfl) none dB k e;rw[h0h]at this;have hs:i0h H H.length (.vec 0 k e [])=H++ [.vec 0 k e []]:=by unfold i0h;rw[wC (Nat.lt_irrefl _)]
  rw[hs]at this;exact this
theorem Wk.viv(t k:Nat)(e:TypeId)(ht:lk L t= .nl):Wk F L H ((t, .vc H.length)::L) (H++ [.vec 0 k e []]):=by
  intro a w hs;obtain⟨hd,K,D,h⟩:=hs;obtain⟨g,hi⟩:=s0x h.hinv k e;refine⟨hd,K,_,⟨⟨h.slots.size,λi hin=> ?_,λgg cs hg=>g.rep (h.slots.glob gg cs hg)⟩,hi,h.grow.trans g⟩⟩;have hr:=g.rep (h.slots.rep i hin);show Rep w K _ _ (lk _ i);simp only[lk]
  cases hb:vC i t with
  |true=>
    have:=ae hb;subst this;rw[show a0r L i=lk L i from rfl,ht]at hr;generalize a.tmps.getD i undef=x at hr⊢;cases hr;exact .vcn _ _ (by simp[g0L])
  |false=>exact hr
theorem Wk.vivBox(i off k:Nat)(e:TypeId) (hi:H[i]?=qB (.box cs))(ho:cs[off]?=qB .nl):Wk F L H L (H.set i (.box (cs.set off (.vc H.length)))++ [.vec 0 k e []]):=by
  intro a w hs;obtain⟨hd,K,D,h⟩:=hs;obtain⟨g,hv⟩:=s0x h.hinv k e;have hil:i<H.length:=(ab.1 hi).1;have hi':(H++ [Ent.vec 0 k e []])[i]?=qB (.box cs):=by rw[bC hil];exact hi
  have hset:H.set i (.box (cs.set off (.vc H.length)))++ [.vec 0 k e []]=(H++ [Ent.vec 0 k e []]).set i (.box (cs.set off (.vc H.length))):=by
    rw[List.set_append_left _ _ hil]
  rw[hset];obtain⟨b,vs,e',h1,h2,h3,h4⟩:=hv.ent i _ hi'
  obtain⟨g2,hv2⟩:=modify (w':=w) (en':= .box (cs.set off (.vc H.length))) hv hi' rfl rfl h1 rfl rfl rfl rfl (λ_ _=>rfl) (λhr=>⟨b,vs,e',h1,h2,h3,⟨by simp[h4.len],h4.one,λj v c hv' hc=>by
    rw[aN]at hc;by_cases hjo:off=j
    · subst hjo
      rw[qC rfl]at hc;split at hc<;>cases hc
      have h5:=h4.rep off v .nl hv' ho;cases h5;exact .vcn _ _ (by simp[g0L])
    rw[wC hjo]at hc
    exact h4.rep j v c hv' hc⟩⟩)
  exact⟨hd,K,_,⟨h.slots.mono λ_ _=>g.rep,hv2,(h.grow.trans g).trans g2⟩⟩
/-! Entries under other numbers. -/
def b0b(σ:List Nat):Nat->Nat:=λj=>σ.getD j 0
theorem Sel.of (σ:List Nat)(hl:σ.length=H2.length)(hg:σ.map (λi=>H[i]?)=H2.map (λen=>qB (Ent.rn (b0b σ) en)))(hn:σ.Nodup)(hr:H2.all (Ent.refs H2.length)=yB):Sel H (b0b σ) H2:=by
  refine⟨λj en hj=> ?_,λi j hi hj e=> ?_,λj en hj=>List.all_eq_true.1 hr en (aI hj)⟩;have hjl:=(ab.1 hj).1;have h1:=congrArg (λl=>l[j]?) hg;simp only[aq,hj,aT]at h1;have h2:σ[j]?=qB (σ[j]' cV):=af cV;rw[h2]at h1;simp only[aT,ah]at h1;unfold b0b;rw[am,h2];exact h1;unfold b0b at e;rw[am,am,af cV,af cV]at e;exact(List.getElem_inj hn).1 (by simpa using e)
theorem Wk.sel {L2:LE} (m0:Nat)(hm:F.H0.length=m0)(hdom: ∀i,F.H0.length<=i->F.D0 i=none)(σ:List Nat)(hl:σ.length=H2.length)(hg:σ.map (λi=>H[i]?)=H2.map (λen=>qB (Ent.rn (b0b σ) en)))(hn:σ.Nodup)(hr:H2.all (Ent.refs H2.length)=yB)
    (hk:σ.take m0=yC m0) (hv:L2.map (λp=>lk L p.1)=L2.map (λp=>SV.rn (b0b σ) p.2)) (hvr:L2.all (λp=>SV.refs H2.length p.2)=yB):Wk F L H L2 H2:=by
  have hsel:=Sel.of σ hl hg hn hr;intro a w hs;obtain⟨hd,K,D,h⟩:=hs
  have hlk: ∀(L3:LE) t,(∀p∈L3,p∈L2)->lk L3 t= .undef\/ ∃p∈L2,p.1=t/\lk L3 t=p.2:=by
    intro L3 t
    induction L3 with
    |nil=>intro _;exact .inl rfl
    |cons q r ih=>
      intro hmem;obtain⟨j,v⟩:=q;simp only[lk]
      cases hb:vC t j with
      |true=>have:=ae hb;subst this;exact .inr ⟨(t,v),hmem _ (aw ..),rfl,rfl⟩
      |false=>exact ih λp hp=>hmem p (ao _ hp)
  have hval: ∀p∈L2,lk L p.1=SV.rn (b0b σ) p.2:=by
    intro p hp;obtain⟨j,hj⟩:=bq.1 hp;have:=congrArg (λl=>l[j]?) hv;simpa [aq,hj]using this
  have hkeep: ∀j,j<m0->b0b σ j=j:=by
    intro j hj;have:=congrArg (λl=>l[j]?) hk;simp only[aP,qC hj,bo hj]at this;unfold b0b;rw[am,this];rfl
  have hmle:m0<=H2.length:=by
    have:=congrArg List.length hk;simp at this;omega
  have g:=h.grow;refine⟨hd,K,m0F D (b0b σ) H2.length,⟨⟨h.slots.size,λi hin=> ?_,j0C h.slots.glob⟩,hsel.hinv h.hinv,⟨g.os,g.tape,g.output,g.size,g.block,g.cells,g.le,g.kk,λi x hx=> ?_,λb hmm=>g.new b (hsel.mem hmm)⟩⟩⟩;have hr1:=h.slots.rep i hin;show Rep w K _ _ (lk L2 i);rcases hlk L2 i (λp hp=>hp)with e|⟨p,hp,rfl,e⟩;rw[e];exact .undef _;rw[e];refine h0B hr1 p.2 (hval p hp) ?_;exact List.all_eq_true.1 hvr p hp
  have hil:i<m0:=by
    rcases bL i m0 with h1|h1;exact h1;rw[hdom i cV]at hx;cases hx
  simp only[m0F,qC (ba hil hmle),hkeep i hil];exact g.dd i x hx
end
def p0Z:SV->Bool
  | .bool _=>yB
  | .int _ _=>yB
  | .str _=>yB
  | .tup cs=>cs.all λc=>match c with
    | .bool _=>yB
    | .int _ _=>yB
    | .str _=>yB
    |_=>vB
  |_=>vB
theorem A0V {K K':Nat->Nat} {D':DM} {v:Value} (hs:p0Z s=yB)(h:Rep w K D v s):Rep w' K' D' v s:=by
  cases h with
  |bool b=>exact .bool _
  |int k n=>exact .int _ _
  |str sb=>exact .str _
  |tup vs cs hc h=>
    refine .tup vs cs hc (λj v c hv hcc=> ?_);have hr:=h j v c hv hcc;simp only[p0Z,vD]at hs;have h1:=hs c (aI hcc);cases hr<;>first|(cases h1;done)|exact .bool _|exact .int _ _|exact .str _
  |_=>cases hs
mutual
def SV.fzA(H:a0e):SV->SV
  | .agg cs=> .agg (SV.fzAL H cs)
  | .tup cs=> .tup (SV.fzAL H cs)
  | .fn g a b=> .fn g (SV.fzAL H a) (SV.fzAL H b)
  | .vc j=>match H[j]? with
    |some (.vec n k _ cs)=> .lst n k cs
    |_=> .undef
  | .ptr _ _=> .undef
  | .sl _ _ _ _=> .undef
  | .mp _=> .undef
  | .undef=> .undef
  | .bool b=> .bool b
  | .int k n=> .int k n
  | .str s=> .str s
  | .nl=> .nl
  | .lst n k cs=> .lst n k cs
  | .ep cs=> .ep cs
  | .nilp=> .nilp
  | .yld _=> .undef
def SV.fzAL(H:a0e):List SV->List SV
  | []=> []
  |c::cs=>SV.fzA H c::SV.fzAL H cs
end
theorem o0t(H:a0e): ∀(cs:List SV) (j:Nat),(SV.fzAL H cs)[j]?=(cs[j]?).map (SV.fzA H)
  | [],j=>by simp[SV.fzAL]
  |c::cs,j=>by
    cases j with
    |zero=>simp[SV.fzAL]
    |succ j=>simpa [SV.fzAL]using o0t H cs j
theorem i0p(H:a0e): ∀(cs:List SV),(SV.fzAL H cs).length=cs.length
  | []=>rfl
  |c::cs=>by simp[SV.fzAL,i0p H cs]
theorem I0h {K K':Nat->Nat} {H:a0e} (hm: ∀v s,s.plain=yB->Rep w K D v s->Rep w K' (λ_=>none) v s)(hK: ∀b,K b<=K' b)(h0: ∀j v,Rep w K D v (.vc j)->Rep w K' (λ_=>none) v (SV.fzA H (.vc j))) {v:Value} (h:Rep w K D v s):
    Rep w K' (λ_=>none) v (SV.fzA H s):=by
  induction h with
  |undef v=>exact .undef _
  |bool b=>exact .bool _
  |int k n=>exact .int _ _
  |str sb=>exact .str _
  |nl a=>exact .nl _
  |emp k a cap=>exact .emp _ _ _
  |lst k b off len cap vs cs hk hl hc hcap hmm hK h1 hp h _=>exact hm _ (.lst len k cs) rfl (.lst k b off len cap vs cs hk hl hc hcap hmm hK h1 hp h)
  |ep b off vs cs hc hmm hKb h1 hp h _=>
    exact .ep b off vs cs hc hmm (aG hKb (hK b)) h1 hp (λj v c hv hcc=>hm v c (f0w hp hcc) (h j v c hv hcc))
  |agg vs cs hc h1 _ ih=>
    refine .agg vs _ (by rw[i0p,hc]) h1 (λj v c hv hcc=> ?_);rw[o0t]at hcc
    cases hx:cs[j]? with
    |none=>rw[hx]at hcc;cases hcc
    |some x=>rw[hx]at hcc;cases hcc;exact ih j v x hv hx
  |tup vs cs hc _ ih=>
    refine .tup vs _ (by rw[i0p,hc]) (λj v c hv hcc=> ?_);rw[o0t]at hcc
    cases hx:cs[j]? with
    |none=>rw[hx]at hcc;cases hcc
    |some x=>rw[hx]at hcc;cases hcc;exact ih j v x hv hx
  |ptr i off b c n hd=>exact .undef _
  |vcn j a hd=>exact h0 _ _ (.vcn _ a hd)
  |vc j b c n hd=>exact h0 _ _ (.vc _ b c n hd)
  |sl i off n k b c m' cap hd hn=>exact .undef _
  |mp i r c n hd=>exact .undef _
  |fn q fs caps gs dcs hc hd _ _ ih ih'=>
    refine .fn q fs caps _ _ (by rw[i0p,hc]) (by rw[i0p,hd]) (λj v c hv hcc=> ?_) (λj v c hv hcc=> ?_);rw[o0t]at hcc
    cases hx:gs[j]? with
    |none=>rw[hx]at hcc;cases hcc
    |some x=>rw[hx]at hcc;cases hcc;exact ih j v x hv hx
    rw[o0t]at hcc
    cases hx:dcs[j]? with
    |none=>rw[hx]at hcc;cases hcc
    |some x=>rw[hx]at hcc;cases hcc;exact ih' j v x hv hx
  |nilp=>exact .nilp
  |yld i l c n hd=>exact .undef _
open Classical in
theorem SC.lend (hv:p0Z v=yB)(h:SC P f (SV.fzAL H0 args0) [] v []):SC P f args0 H0 v H0:=by
  refine⟨h.1,λw K D vals hlen hr hi hG=> ?_⟩
  -- all blocks of lists are settled for as long as the call N0l
  have hmem: ∀b,Mem D H0 b->b<w.heap.size/\K b=0:=λb hm=>k0I hi hm
  let size (b:Nat):Nat:=match w.heap[b]? with
    |some (.cells c _ _)=>c.size
    |_=>0
  let K1:Nat->Nat:=λb=>if Mem D H0 b then size b else K b
  have hK1: ∀b,K b<=K1 b:=λb=>by
    show K b<=if Mem D H0 b then size b else K b
    split;rename_i hm;rw[(hmem b hm).2];exact bf _;exact aj _
  have hplain: ∀v s,s.plain=yB->Rep w K D v s->Rep w K1 (λ_=>none) v s:=λv s hp hr=>(hr.mono (K':=K1) (D':=D) (λ_ _ _=>rfl) hK1 (λ_ _ e=>e)).plain hp
  have hvec: ∀j x,Rep w K D x (.vc j)->Rep w K1 (λ_=>none) x (SV.fzA H0 (.vc j)):=by
    intro j x hx;simp only[SV.fzA];split;rename_i n k e cs hj;obtain⟨hp,hent⟩:=hi.ent j _ hj;rcases hent with⟨h1,h2,h3⟩|⟨b,c,vs,rest,h1,h2,h3,h4,h5,h6,h7,h8,h9⟩;subst h2;subst h3
    cases hx with
    |vcn _ ad hd=>exact .emp _ _ _
    |vc _ b c n hd=>rw[h1]at hd;cases hd
    cases hx with
    |vcn _ ad hd=>rw[h1]at hd;cases hd
    |vc _ b' c' n' hd=>
      rw[h1]at hd;cases hd;have hrow:=g0G h6 h9
      have hKb:K1 b=(vs++rest).length:=by
        show(if Mem D H0 b then size b else K b)=_;rw[qC ⟨j,_,c,n,hj,rfl,h1⟩];show(match w.heap[b]? with|some (.cells c _ _)=>c.size|_=>0)=_;rw[h6];simp
      exact .lst k b 0 n c vs cs h3 h7 h9.len h4 hrow.mem (by rw[hKb,aA];omega) h9.one hp (λj v c hv hc=>hplain _ _ (f0w hp hc) (h9.rep j v c hv hc))
    exact .undef _
  have hi1:HInv w K1 (λ_=>none) []:=⟨λ_ _=>rfl,λi en hj=>by simp at hj,λi j en en' b c n c' n' hj=>by simp at hj,λb hb=>by
    by_cases hm:Mem D H0 b;exact(hmem b hm).1
    exact hi.kw b (by simpa [K1,hm]using hb)⟩
  refine(h.2 w K1 (λ_=>none) vals (by rw[hlen,i0p]) (λj x c hx hc=>by
    rw[o0t]at hc
    cases hy:args0[j]? with
    |none=>rw[hy]at hc;cases hc
    |some y=>rw[hy]at hc;cases hc;exact I0h hplain hK1 hvec (hr j x y hx hy)) hi1 (j0C λg cs hg=>(hG g cs hg).mono (K':=K1) (D':=D) (λ_ _ _=>rfl) hK1 (λ_ _ e=>e))).mono ?_
  rintro e w' ⟨r,he,K1',D1',g,hi',hrep⟩;have nomem: ∀b,¬Mem (λ_=>none) [] b:=by rintro b ⟨i,en,c,n,h1,_⟩;simp at h1
  let K':Nat->Nat:=λb=>if Mem D H0 b then 0 else K1' b
  have hKK: ∀b,K b<=K' b:=λb=>by
    show K b<=if Mem D H0 b then 0 else K1' b
    split;rename_i hm;rw[(hmem b hm).2];exact aj _;exact aG (hK1 b) (g.le b)
  have hcells: ∀b j,j<K b->w'.cell? ⟨b,j,none⟩=w.cell? ⟨b,j,none⟩:=λb j hj=>g.cells b j (ba hj (hK1 b))
  have hrr: ∀v s,Rep w K D v s->Rep w' K' D v s:=λv s hr=>hr.mono hcells hKK (λ_ _ e=>e)
  refine⟨r,he,K',D,⟨g.os,g.tape,g.output,g.size,λb hb _=>g.block b hb (nomem b),hcells,hKK,λb hb hm=> ?_,λ_ _ e=>e,λb hm=> .inl hm⟩,
    ⟨hi.dom,λi en hie=>(hi.ent i en hie).keep hrr rfl (λb c n hl hd=> ?_),hi.inj,λb hb=> ?_⟩,A0V hv hrep⟩
  show(if Mem D H0 b then 0 else K1' b)=K b;rw[wC hm,g.kk b hb (nomem b)];show(if Mem D H0 b then size b else K b)=K b;rw[wC hm]
  have hm:Mem D H0 b:=⟨i,en,c,n,hie,hl,hd⟩
  refine⟨g.block b (hmem b hm).1 (nomem b), ?_⟩;show(if Mem D H0 b then 0 else K1' b)=K b;rw[qC hm,(hmem b hm).2];by_cases hm:Mem D H0 b;exact ba (hmem b hm).1 g.size;exact hi'.kw b (by simpa [K',hm]using hb)
end
section
variable [Inhabited GT]
def inR(j:Int)(n:Nat):Bool:=wB (0<=j)&&wB (j<n)
def inS(l h:Int)(n:Nat):Bool:=wB (0<=l)&&(wB (l<=h)&&wB (h<=n))
def room(n:Nat):Bool:=qD n 4294967296
def o0F(n:Nat):Bool:=qD n 140737488400000
def A0P(P:Program)(e:TypeId)(n:Nat):Bool:=bif o0x P e then o0F n else room n
def nz(y:Int):Bool:= !wB (y=0)
def sh(y:Int):Bool:= !wB (y<0)
def mk(l c:Int):Bool:=wB (0<=l)&&(wB (l<=c)&&wB (c<=4294967296))
theorem g0X :inR j n=yB↔0<=j/\j<n:=by simp[inR]
theorem n0J :inS l h n=yB↔0<=l/\l<=h/\h<=n:=by simp[inS]
theorem z0I :room n=yB↔B0Q n:=by simp[room,B0Q,ca]
theorem a0N (h:room n=yB):o0F n=true:=by
  simp only[room,o0F,ca]at*;omega
theorem s0r {e:TypeId} (h:A0P P e n=yB):RoomE P e n:=by
  unfold A0P at h;unfold RoomE
  cases hb:o0x P e with
  |true=>rw[hb]at h;simp only[o0F,oC,ca]at h;exact .inr ⟨rfl,h⟩
  |false=>rw[hb]at h;exact .inl (z0I.1 h)
theorem z0X {y:Int} :nz y=yB↔y≠0:=by simp[nz]
theorem G0M {y:Int} :sh y=yB↔0<=y:=by simp[sh]
theorem G0Z {c:Int} :mk l c=yB↔0<=l/\l<=c/\c<=4294967296:=by simp[mk]
def z0r(P:Program)(c:Call)(ρ:Env)(H:a0e)(idx:Nat):Option (Eff×Bool):=
  match c.args.toList,c.argTypes.toList with
  | [x,y],[t,tx]=>match P.underlying t,a0G ρ x,a0G ρ y with
    |some (.slice e),qB .nl,qB sy=>match A0J P e (P.cellsOf e) tx sy H with
      |some (m,cs2,rd)=>if i0U P e (P.cellsOf e)=yB then qB (⟨.vc idx,rd,[(idx, .vec m (P.cellsOf e) e cs2)]⟩,K0v sy&&A0P P e m)else none
      |none=>none
    |some (.slice e),qB (.vc i),qB sy=>match H[i]? with
      |some (.vec n k e' cs)=>match A0J P e k tx sy H with
        |some (m,cs2,rd)=>if e=e'/\i0U P e k=yB then qB (⟨.vc idx,i::rd,[(i, .gone),(idx, .vec (n+m) k e (cs++cs2))]⟩,K0v sy&&A0P P e (n+m))else none
        |none=>none
      |_=>none
    |_,_,_=>none
  |_,_=>none
theorem w0g {c:Call} {H:a0e} {idx:Nat} (h:z0r P c ρ H idx=qB (ef,b))(hb:b=yB):o0g P c ρ H idx=qB ef:=by
  unfold z0r at h;unfold o0g;split at h;rename_i x y t tx hx hy;rw[hx,hy];simp only;split at h;rename_i e sy h1 h2 h3;rw[h1,h2,h3];simp only;split at h;rename_i m cs2 rd h4;rw[h4];simp only;split at h;rename_i h5;cases h;rw[qC ⟨h5,(bF.1 hb).1,s0r (bF.1 hb).2⟩];cases h;cases h;rename_i e i sy h1 h2 h3;rw[h1,h2,h3];simp only;split at h;rename_i n k e' cs h4;rw[h4];simp only;split at h;rename_i m cs2 rd h6;rw[h6];simp only;split at h;rename_i h5;cases h;rw[qC ⟨h5.1,h5.2,(bF.1 hb).1,s0r (bF.1 hb).2⟩];cases h;cases h;cases h;cases h;cases h
def D0S(P:Program)(t:TypeId)(sx sj:SV)(H:a0e):Option (Eff×Bool):=
  match P.underlying t,sx,sj with
  |some (.slice e), .lst n k cs, .int _ j=>if k=P.cellsOf e/\0<k then qB (⟨.ep ((cs.drop (j.toNat*k)).take k),[],[]⟩,inR j n)else none
  |some (.slice e), .vc i, .int _ j=>match H[i]? with
    |some (.vec n k _ _)=>if k=P.cellsOf e/\0<k then qB (⟨.ptr i (j.toNat*k),[i],[]⟩,inR j n)else none
    |_=>none
  |some (.slice e), .sl b off n k, .int _ j=>if k=P.cellsOf e/\0<k then qB (⟨.ptr b (off+j.toNat*k),[],[]⟩,inR j n)else none
  |some (.array len e), .ptr b off, .int _ j=>if 0<P.cellsOf e then qB (⟨.ptr b (off+j.toNat*P.cellsOf e),[],[]⟩,inR j len)else none
  |some (.array len e), .ep cs, .int _ j=>if 0<P.cellsOf e/\len*P.cellsOf e<=cs.length then qB (⟨.ep ((cs.drop (j.toNat*P.cellsOf e)).take (P.cellsOf e)),[],[]⟩,inR j len)else none
  |_,_,_=>none
theorem x0C {H:a0e} {idx:Nat} {sx sj:SV} (ho:o.op= .indexAddr t x y)(hx:a0G ρ x=qB sx)(hy:a0G ρ y=qB sj)(h:D0S P t sx sj H=qB (ef,b))(hb:b=yB):a0H P o ρ H idx=qB ef:=by
  unfold D0S at h;unfold a0H a0k a0q;simp only[ho,hx,hy];split at h;rename_i e n k cs k' j hu;rw[hu];simp only;split at h;rename_i hk;cases h;have:=g0X.1 hb;rw[qC hk.1];unfold M0J;rw[qC ⟨hk.2,this⟩];cases h;rename_i e i k' j hu;rw[hu];simp only;split at h;rename_i n k e2 cs hH;rw[hH];simp only;split at h;rename_i hk;cases h;have:=g0X.1 hb;rw[qC ⟨hk.1,hk.2,this⟩];cases h;cases h;rename_i e bb off n k k' j hu;rw[hu];simp only;split at h;rename_i hk;cases h;have:=g0X.1 hb;rw[qC ⟨hk.1,hk.2,this⟩];cases h;rename_i len e bb off k' j hu;rw[hu];simp only;split at h;rename_i hk;cases h;have:=g0X.1 hb;rw[qC ⟨this.1,this.2,hk⟩];cases h;rename_i len e cs k' j hu;rw[hu];simp only;split at h;rename_i hk;cases h;have hj:=g0X.1 hb;have:(j.toNat+1)*P.cellsOf e<=cs.length:=aG (aJ _ cV) hk.2;rw[qC ⟨hj.1,hj.2,this,hk.1⟩];cases h;cases h
def C0v(P:Program)(t:TypeId)(sx:SV)(ρ:Env)(lo hi:Option Operand):Option (Eff×Bool):=
  match P.underlying t,sx with
  |some (.slice e), .lst n k cs=>match i0Z ρ lo 0,i0Z ρ hi (n:Int)with
    |some l,qB h=>if k=P.cellsOf e/\0<k then qB (⟨.lst (h.toNat-l.toNat) k ((cs.take (h.toNat*k)).drop (l.toNat*k)),[],[]⟩,inS l h n)else none
    |_,_=>none
  |some .string, .str s=>match i0Z ρ lo 0,i0Z ρ hi (s.length:Int)with
    |some l,qB h=>qB (⟨.str ((s.take h.toNat).drop l.toNat),[],[]⟩,inS l h s.length)
    |_,_=>none
  |_,_=>none
theorem w0D {lo hi:Option Operand} {H:a0e} {idx:Nat} {sx:SV} (ho:o.op= .slice t x lo hi none)(hx:a0G ρ x=qB sx)(h:C0v P t sx ρ lo hi=qB (ef,b))(hb:b=yB):a0H P o ρ H idx=qB ef:=by
  unfold C0v at h;unfold a0H a0k;simp only[ho,hx];split at h;rename_i e n k cs hu;rw[hu];simp only;split at h;rename_i l hh h1 h2;rw[h1,h2];simp only;split at h;rename_i hk;cases h;have:=n0J.1 hb;rw[qC hk.1];unfold C0w;rw[qC ⟨hk.2,this⟩];cases h;cases h;rename_i s hu;rw[hu];simp only;split at h;rename_i l hh h1 h2;rw[h1,h2];simp only;cases h;have:=n0J.1 hb;rw[qC ⟨this.1,this.2.1,cV⟩];cases h;cases h
def M0V(op:BinOp)(a b:SV):Option (SV×Bool):=
  match op,a,b with
  | .quo, .int k x, .int k' y=>if k=k' then qB (.int k (k.wrap (x.tdiv y)),nz y)else none
  | .rem, .int k x, .int k' y=>if k=k' then qB (.int k (x.tmod y),nz y)else none
  | .shl, .int k x, .int _ y=>qB (.int k (k.wrap (x*2^(min y.toNat k.bits))),sh y)
  | .shr, .int k x, .int _ y=>qB (.int k (x.fdiv (2^(min y.toNat k.bits))),sh y)
  | .add, .str s, .str t=>qB (.str (s++t),room (s.length+t.length))
  |_,_,_=>none
theorem B0B {bt:Bool} {op:BinOp} {a b:SV} {c:Bool} (h:M0V op a b=qB (v,c))(hc:c=yB):k0z bt op a b=qB v:=by
  unfold M0V at h;split at h;split at h;rename_i hk;cases h;simp only[k0z];rw[qC hk,wC (z0X.1 hc)];cases h;split at h;rename_i hk;cases h;simp only[k0z];rw[qC hk,wC (z0X.1 hc)];cases h;cases h;simp only[k0z];rw[wC (by have:=G0M.1 hc;omega)];cases h;simp only[k0z];rw[wC (by have:=G0M.1 hc;omega)];cases h;simp only[k0z];rw[qC (z0I.1 hc)];cases h
def M0o(P:Program)(t:TypeId):Bool:=match P.underlying t with
  |some (.int _)=>yB
  |some .bool=>yB
  |some .string=>yB
  |some (.slice _)=>yB
  |_=>vB
def v0B(P:Program)(o:Oper)(ρ:Env)(H:a0e)(idx:Nat):Option (Eff×Bool):=
  match o.op with
  | .indexAddr t x y=>match a0G ρ x,a0G ρ y with
    |some sx,qB sj=>D0S P t sx sj H
    |_,_=>none
  | .slice t x lo hi none=>match a0G ρ x with
    |some sx=>C0v P t sx ρ lo hi
    |none=>none
  | .index t x i=>match P.underlying t,a0G ρ x,a0G ρ i with
    |some .string,qB (.str s),qB (.int _ j)=>qB (⟨.int .u8 (s.getD j.toNat 0).toNat,[],[]⟩,inR j s.length)
    |some (.array n e),qB (.agg cs),qB (.int _ j)=>bif M0o P e&&(vC (P.cellsOf e) 1&&qD n cs.length)then qB (⟨(cs.drop (j.toNat*1)).headD .undef,[],[]⟩,inR j n)else none
    |_,_,_=>none
  | .binOp op t x y _=>match a0G ρ x,a0G ρ y with
    |some a,qB b=>match M0V op a b with
      |some (v,c)=>qB (⟨v,[],[]⟩,c)
      |none=>none
    |_,_=>none
  | .makeSlice t x y=>match P.underlying t,a0G ρ x,a0G ρ y with
    |some (.slice e),qB (.int _ l),qB (.int _ c)=>match r0P P e with
      |some zs=>if i0U P e (P.cellsOf e)=yB/\a0Q zs=yB then qB (⟨.vc idx,[],[(idx, .vec l.toNat (P.cellsOf e) e (zD l.toNat zs).flatten)]⟩,mk l c)else none
      |none=>none
    |_,_,_=>none
  | .load t x=>match a0G ρ x with
    |some (.ptr i off)=>match H[i]? with
      |some (.vec n k e cs)=>match P.underlying t with
        |some (.int _)=>qB (⟨(cs.drop off).headD .undef,[i],[]⟩,qE off cs.length)
        |some .bool=>qB (⟨(cs.drop off).headD .undef,[i],[]⟩,qE off cs.length)
        |some .string=>qB (⟨(cs.drop off).headD .undef,[i],[]⟩,qE off cs.length)
        |some (.slice _)=>qB (⟨(cs.drop off).headD .undef,[i],[]⟩,qE off cs.length)
        |_=>none
      |_=>none
    |_=>none
  | .store t x y=>match a0G ρ x,(a0G ρ y).bind SV.cells? with
    |some (.ptr i off),qB ps=>match H[i]? with
      |some (.vec n k e cs)=>if ps.length=P.cellsOf t/\0<ps.length/\a0Q ps=yB then qB (⟨.undef,[i],[(i, .vec n k e (splice cs off ps))]⟩,qD (off+ps.length) cs.length)else none
      |_=>none
    |_,_=>none
  | .convert src dst x=>match P.underlying src,P.underlying dst,a0G ρ x with
    |some .string,qB (.slice e),qB (.str s)=>match P.underlying e with
      |some (.int .u8)=>qB (⟨.lst s.length 1 (s.map l0C),[],[]⟩,yB)
      |some (.int .i32)=>qB (⟨.lst (g0A s).length 1 ((g0A s).map w0I),[],[]⟩,yB)
      |_=>none
    |some (.slice e),qB .string,qB s=>match P.underlying e,w0l 1 s H with
      |some (.int .u8),qB (_,cs,rd)=>if j0s P src s=yB then qB (⟨.str (cs.map byteOf),rd,[]⟩,cs.all p0f)else none
      |some (.int .i32),qB (_,cs,rd)=>if j0s P src s=yB then qB (⟨.str (cs.flatMap w0J),rd,[]⟩,cs.all p0D)else none
      |_,_=>none
    |_,_,_=>none
  | .call c=>match c.callee with
    | .builtin .append=>z0r P c ρ H idx
    | .builtin .copy=>match E0u P c ρ H with
      |some ef=>qB (ef,yB)
      |none=>none
    |_=>none
  |_=>none
theorem q0u {H:a0e} {idx:Nat} (h:v0B P o ρ H idx=qB (ef,b))(hb:b=yB):a0H P o ρ H idx=qB ef:=by
  unfold v0B at h;split at h;rename_i t x y ho;split at h;rename_i sx sj h1 h2;exact x0C ho h1 h2 h hb;cases h;rename_i t x lo hi ho;split at h;rename_i sx h1;exact w0D ho h1 h hb
  cases h
  · rename_i t x i ho
    split at h;rename_i s k j h1 h2 h3;cases h;obtain⟨q1,q2⟩:=g0X.1 hb;unfold a0H a0k;simp only[ho,h1,h2,h3];rw[qC q1];have hl:j.toNat<s.length:=by omega
    rw[af hl];simp only[am,af hl,bl]
    · rename_i n e cs k j h1 h2 h3
      cases h4:(M0o P e&&(vC (P.cellsOf e) 1&&qD n cs.length))with
      |false=>rw[h4]at h;cases h
      |true=>
        rw[h4]at h;simp only[oC,ah,aD]at h;obtain⟨rfl,rfl⟩:=h;simp only[aa]at h4;obtain⟨p1,p2,p3⟩:=h4;have p2:=ae p2;have p3:=ag p3;obtain⟨q1,q2⟩:=g0X.1 hb;unfold a0H a0k;simp only[ho,h1,h2,h3];rw[qC ⟨q1,q2⟩,p2];have hl:j.toNat*1<cs.length:=by omega
        rw[bO hl];unfold M0o at p1;simp only[b0w,List.headD];split at p1<;>first|(rename_i hu;simp only[hu];done)|(rename_i hu;simp only[hu];rfl)|cases p1
    cases h
  rename_i op t x y tt ho;split at h;rename_i a b' h1 h2;split at h;rename_i v c h3;cases h;unfold a0H a0k;simp only[ho,h1,h2,B0B h3 hb];cases h;cases h;rename_i t x y ho;split at h;rename_i e k1 l k2 c h1 h2 h3;split at h;rename_i zs h4;split at h;rename_i h5;cases h;obtain⟨q1,q2,q3⟩:=G0Z.1 hb;unfold a0H a0k a0q;simp only[ho,h1,h2,h3,h4];rw[qC ⟨h5.1,q1,q2,q3,h5.2⟩];cases h;cases h
  cases h
  · rename_i t x ho
    split at h
    · rename_i i off h1
      split at h
      · rename_i n k e cs h2
        have fin: ∀(ut:_),P.underlying t=qB ut->(∀f,ut≠ .struct f)->(∀m e,ut≠ .array m e)->qE off cs.length=yB->a0H P o ρ H idx=qB ⟨(cs.drop off).headD .undef,[i],[]⟩:=by
          intro ut hu hn1 hn2 hlt;unfold a0H a0k a0q;simp only[ho,h1,h2,ai,b0S];have hl:off<cs.length:=bz (ag (by simpa [qE]using hlt));rw[bO hl]
          have hcv:b0w P t (cs[off]::cs.drop (off+1))=qB cs[off]:=by
            unfold b0w;rw[hu];cases ut<;>first|rfl|exact absurd rfl (hn1 _)|exact absurd rfl (hn2 _ _)
          rw[hcv];rfl
        split at h;rename_i hu;cases h;exact fin _ hu (λ_=>dB) (λ_ _=>dB) hb;rename_i hu;cases h;exact fin _ hu (λ_=>dB) (λ_ _=>dB) hb;rename_i hu;cases h;exact fin _ hu (λ_=>dB) (λ_ _=>dB) hb;rename_i hu;cases h;exact fin _ hu (λ_=>dB) (λ_ _=>dB) hb;cases h
      cases h
    cases h
  rename_i t x y ho;split at h;rename_i i off ps h1 h2;split at h;rename_i n k e cs h3;split at h;rename_i h4;cases h;have hle:off+ps.length<=cs.length:=ag hb;unfold a0H a0k a0q;simp only[ho,h1,h2,h3,b0S];rw[qC ⟨h4.1,h4.2.1,hle,λ_=>h4.2.2⟩];rfl;cases h;cases h;cases h;rename_i src dst x ho;split at h;rename_i e s h1 h2 h3;split at h;rename_i he;cases h;unfold a0H a0k a0q;simp only[ho,h1,h2,h3,he,t0N];rename_i he;cases h;unfold a0H a0k a0q;simp only[ho,h1,h2,h3,he,t0N];cases h;rename_i e s h1 h2 h3;split at h;rename_i m cs rd he hsc;split at h;rename_i hty;cases h;unfold a0H a0k a0q;simp only[ho,h1,h2,h3,he,hsc,t0N];rw[qC ⟨hty,hb⟩];cases h;rename_i m cs rd he hsc;split at h;rename_i hty;cases h;unfold a0H a0k a0q;simp only[ho,h1,h2,h3,he,hsc,t0N];rw[qC ⟨hty,hb⟩];cases h;cases h;cases h;rename_i c ho;split at h;rename_i hc;unfold a0H a0k a0q;simp only[ho,hc,z0m];exact w0g h hb;rename_i hc;split at h;rename_i ef2 he;cases h;unfold a0H a0k a0q;simp only[ho,hc,z0m];exact he;cases h;cases h;cases h
section
variable {F : Fr} {P : Program} {L : LE} {H : a0e} {Q : g0o} {m : Option Nat} {ops : Array Oper} {p : Nat} {tr : List (List Nat × List Nat)}
def u0d(P:Program)(m:Option Nat)(ops:Array Oper)(p:Nat)(tr:List (List Nat×List Nat))(L:LE)(H:a0e):Option (Option Nat×Eff×Bool×List (List Nat×List Nat)):=
  match ops.toList[p]? with
  |none=>none
  |some o=>match a0Z ops (a0r L) o with
    |some yB=>bif c0d o then none else match v0B P o (a0r L) H (H0i m ops p H)with
      |some (ef,c)=>bif okM m ops p o ef tr H then qB (o.dst,ef,c,trM m ops p o ef tr)else none
      |none=>none
    |_=>none
theorem RJ.rel {c:Bool} (h:u0d P m ops p tr L H=qB (d,ef,c,tr2))(hc:c=yB)(hn:c=yB->ef=ef')(hH:b0e H ef'.wr=H2)(k:RJ F P m ops (p+1) tr2 (g0r L d ef'.v) H2 Q):RJ F P m ops p tr L H Q:=by
  unfold u0d at h;have hn':=hn hc;subst hn';subst hH;split at h;cases h;rename_i o ho;split at h;rename_i hg
  cases hcc:c0d o with
  |true=>rw[hcc]at h;cases h
  |false=>
    rw[hcc]at h;simp only[oD]at h;split at h;rename_i ef2 c2 he
    cases hok:okM m ops p o ef2 tr H with
    |false=>rw[hok]at h;cases h
    |true=>
      rw[hok]at h;simp only[oC,ah,aD]at h;obtain⟨rfl,rfl,rfl,rfl⟩:=h;exact RJ.step ho hg hcc (q0u he hc) hok k
    cases h
  cases h
def v0A(P:Program)(o:Oper)(ρ:Env)(H:a0e)(idx:Nat):Option (Eff×Bool):=
  match v0B P o ρ H idx with
  |some r=>qB r
  |none=>(a0H P o ρ H idx).map λef=>(ef,yB)
theorem u0g {P:Program} {H:a0e} {idx:Nat} (h:v0A P o ρ H idx=qB (ef,b))(hb:b=yB):a0H P o ρ H idx=qB ef:=by
  unfold v0A at h;split at h;rename_i r hr;cases h;exact q0u hr hb
  cases he:a0H P o ρ H idx with
  |none=>rw[he]at h;cases h
  |some e=>rw[he]at h;cases h;rfl
def G0T(P:Program)(base:Nat)(ops:Array Oper)(p:Nat)(tr:List (List Nat×List Nat))(L:LE)(H:a0e):Option (Option Nat×Eff×Bool×List (List Nat×List Nat)):=
  match ops.toList[p]? with
  |none=>none
  |some o=>match a0Z ops (a0r L) o with
    |some yB=>bif c0d o then none else bif d0A o then(match v0A P o (a0r L) H (f0R ops base p)with
      |some (ef,c)=>match t0E ef (f0R ops base p) H with
        |some efz=>bif okM (qB base) ops p o efz tr H then qB (o.dst,efz,c,trM (qB base) ops p o efz tr)else none
        |none=>none
      |none=>none)else none
    |_=>none
theorem RJ.relZ {c:Bool} (h:G0T P base ops p tr L H=qB (d,ef,c,tr2))(hc:c=yB)(hn:c=yB->ef=ef')(hH:b0e H ef'.wr=H2)(k:RJ F P (qB base) ops (p+1) tr2 (g0r L d ef'.v) H2 Q):RJ F P (qB base) ops p tr L H Q:=by
  unfold G0T at h;have hn':=hn hc;subst hn';subst hH;split at h;cases h;rename_i o ho;split at h;rename_i hg
  cases hcc:c0d o with
  |true=>rw[hcc]at h;cases h
  |false=>
    rw[hcc]at h
    cases hcr:d0A o with
    |false=>rw[hcr]at h;cases h
    |true=>
      rw[hcr]at h;simp only[oD,oC]at h;split at h;rename_i ef2 c2 he;split at h;rename_i efz hz
      cases hok:okM (qB base) ops p o efz tr H with
      |false=>rw[hok]at h;cases h
      |true=>
        rw[hok]at h;simp only[oC,ah,aD]at h;obtain⟨rfl,rfl,rfl,rfl⟩:=h;intro hl;rw[e0C ho];simp only[okM,aa,bH,vD]at hok;obtain⟨⟨k1,k2⟩,k3⟩:=hok;have k3': ∀x∈efz.wr,x.1<H.length:=λx hx=>bz (ag (by simpa [qE]using k3 x hx))
        subst hl;refine⟨efz, ?_,k1, ?_⟩;unfold opD;rw[hg];simp only;rw[hcc,wC dB];refine⟨.inr (.inl ⟨?_,hcr⟩),λ_=> ?_,k3'⟩;unfold n0A;rw[u0g he hc];exact hz;rcases k2 with k2|k2;rw[hcr]at k2;cases k2;unfold q0A at k2;split at k2
        assumption
        cases k2;have:=k (by simp[trM]);rw[<-o0f _ _ k3',b0g];exact this
      cases h;cases h
  cases h
/-! Cuts. -/
def a0j (k:S->Option X):S⊕X->Option X
  | .inl s=>k s
  | .inr x=>qB x
theorem a0U {m:Option α} {k:α->Option β} {r:β} (h:m.bind k=qB r): ∃y,m=qB y/\k y=qB r:=by
  cases m with
  |none=>cases h
  |some y=>exact⟨y,rfl,h⟩
theorem condT {x y:α} {r:α} (hb:b=yB)(h:(bif b then x else y)=r):x=r:=by subst hb;exact h
theorem condF {x y:α} {r:α} (hb:b=vB)(h:(bif b then x else y)=r):y=r:=by subst hb;exact h
theorem g0J {x:Option α} {r:α} (h:(bif b then x else none)=qB r):b=yB/\x=qB r:=by
  cases b with
  |true=>exact⟨rfl,h⟩
  |false=>cases h
def cutN (F:Fr)(R:S->LE×a0e)(st:S):g0o:=λe a w=>e= .normal/\Sees F (R st).1 (R st).2 a w
def cutX (F:Fr)(R:S->LE×a0e)(Q:g0o)(x:S⊕X):g0o:=λe a w=>match x with
  | .inl st=>e= .normal/\Sees F (R st).1 (R st).2 a w
  | .inr _=>e≠ .normal/\Q e a w
theorem J.cutN (R:S->LE×a0e)(st:S)(h1:J F P c1 L H (cutN F R st))(h2:J F P c2 (R st).1 (R st).2 Q):J F P (.seq c1 c2) L H Q:=λhin a w hs=>by
  simp only[b0t,aa]at hin;refine wp_seq (jJ (λe a' w' hq=> ?_) (h1 hin.1 a w hs));obtain⟨rfl,hq⟩:=hq;exact h2 hin.2 a' w' hq
theorem J.cutX (R:S->LE×a0e)(x:S⊕X)(h1:J F P c1 L H (cutX F R Q x))(h2: ∀st,x= .inl st->J F P c2 (R st).1 (R st).2 Q):J F P (.seq c1 c2) L H Q:=λhin a w hs=>by
  simp only[b0t,aa]at hin;refine wp_seq (jJ (λe a' w' hq=> ?_) (h1 hin.1 a w hs))
  cases x with
  |inl st=>
    obtain⟨rfl,hq⟩:=hq;exact h2 st rfl hin.2 a' w' hq
  |inr r=>
    obtain⟨hne,hq⟩:=hq;cases e<;>first|exact absurd rfl hne|exact hq
theorem PJ.cutN {R:S->LE×a0e} {st:S} (ts:List Nat)(hL:g0F ts L=(R st).1)(hH:H=(R st).2):PJ F (cutN F R st) .normal L H:=λa w hs=>by
  subst hH;exact⟨rfl,by rw[<-hL];exact hs.keep (k0Z ts L)⟩
theorem PJ.cutXl {R:S->LE×a0e} {st:S} (ts:List Nat)(hL:g0F ts L=(R st).1)(hH:H=(R st).2):PJ F (cutX (X:=X) F R Q (.inl st)) .normal L H:=λa w hs=>by
  subst hH;exact⟨rfl,by rw[<-hL];exact hs.keep (k0Z ts L)⟩
theorem PJ.cutXr {R:S->LE×a0e} {x:X} (hne:e≠ .normal)(h:PJ F Q e L H):PJ F (cutX F R Q (.inr x:S⊕X)) e L H:=λa w hs=>⟨hne,h a w hs⟩
def p0B (F:Fr)(R:S->LE×a0e)(Q:g0o)(o:O)(x:S⊕O):g0o:=λe a w=>match x with
  | .inl s'=>e= .normal/\Sees F (R s').1 (R s').2 a w
  | .inr o'=>e≠ .normal/\(o'=o->Q e a w)
theorem J.loopR {step:S->Option (S⊕O)} {s0:S} {o:O} (R:S->LE×a0e)(ho:a0n step n s0=qB o)(ts:List Nat)(hL:g0F ts L=(R s0).1)(hH:H=(R s0).2)
    (body: ∀s x,step s=qB x->J F P c (R s).1 (R s).2 (p0B F R Q o x)):J F P (.loop c) L H Q:=
  J.keep ts hL (J.loop R ho rfl hH body)
theorem PJ.loopNext {R:S->LE×a0e} {o:O} {s':S} (ts:List Nat)(hL:g0F ts L=(R s').1)(hH:H=(R s').2):PJ F (p0B F R Q o (.inl s')) .normal L H:=λa w hs=>by
  subst hH;exact⟨rfl,by rw[<-hL];exact hs.keep (k0Z ts L)⟩
theorem PJ.loopOut {R:S->LE×a0e} {o o':O} (hne:e≠ .normal)(h:o'=o->PJ F Q e L H):PJ F (p0B F R Q o (.inr o')) e L H:=λa w hs=>⟨hne,λhe=>h he a w hs⟩
def i0c(m:Option Nat)(ops:Array Oper)(p:Nat)(tr:List (List Nat×List Nat))(L:LE)(rd:List Nat)(wr:List (Nat×Ent):=[]):Option (Option Nat×FuncId×List SV×List (List Nat×List Nat)):=
  match ops.toList[p]? with
  |none=>none
  |some o=>match a0Z ops (a0r L) o with
    |some yB=>match g0I (a0r L) o with
      |some (f,args)=>bif(match m with|none=>yB|some base=>m0D o (h0W o ⟨.undef,rd,wr⟩) (g0R ops base p o ⟨.undef,rd,wr⟩) tr 0)then qB (o.dst,f,args,trM m ops p o ⟨.undef,rd,wr⟩ tr)else none
      |none=>none
    |_=>none
theorem e0D {wr:List (Nat×Ent)} (h:i0c m ops p tr L rd wr=qB (d,f,args,tr2)):
    ∃o,ops.toList[p]?=qB o/\a0Z ops (a0r L) o=qB yB/\g0I (a0r L) o=qB (f,args)/\o.dst=d/\trM m ops p o ⟨.undef,rd,wr⟩ tr=tr2/\(∀base,m=qB base->m0D o (h0W o ⟨.undef,rd,wr⟩) (g0R ops base p o ⟨.undef,rd,wr⟩) tr 0=yB):=by
  unfold i0c at h;split at h;cases h;rename_i o ho;split at h;rename_i hg;split at h;rename_i f2 args2 hc
  cases hk:(match m with|none=>yB|some base=>m0D o (h0W o ⟨.undef,rd,wr⟩) (g0R ops base p o ⟨.undef,rd,wr⟩) tr 0)with
  |false=>rw[hk]at h;cases h
  |true=>
    rw[hk]at h;simp only[oC,ah,aD]at h;obtain⟨rfl,rfl,rfl,rfl⟩:=h;exact⟨o,ho,hg,hc,rfl,rfl,λbase hb=>by subst hb;exact hk⟩
  cases h;cases h
theorem u0X {wr:List (Nat×Ent)} :trM m ops p o ⟨v,rd,wr⟩ tr=trM m ops p o ⟨.undef,rd,wr⟩ tr:=by cases m<;>rfl
mutual
theorem y0x {m:Nat} : ∀ {s:SV},SV.refs 0 s=yB->SV.refs m s=yB
  | .agg cs,h=>by simp only[SV.refs]at h⊢;exact q0l h
  | .tup cs,h=>by simp only[SV.refs]at h⊢;exact q0l h
  | .ptr i off,h=>by simp[SV.refs]at h
  | .vc i,h=>by simp[SV.refs]at h
  | .sl i off n k,h=>by simp[SV.refs]at h
  | .mp i,h=>by simp[SV.refs]at h
  | .fn q a b,h=>by simp only[SV.refs,aa]at h⊢;exact⟨q0l h.1,q0l h.2⟩
  | .undef,_=>rfl
  | .bool _,_=>rfl
  | .int _ _,_=>rfl
  | .str _,_=>rfl
  | .nl,_=>rfl
  | .lst _ _ _,_=>rfl
  | .ep _,_=>rfl
  | .nilp,_=>rfl
  | .yld i,h=>by simp[SV.refs]at h
theorem q0l {m:Nat} : ∀ {cs:List SV},SV.refsL 0 cs=yB->SV.refsL m cs=yB
  | [],_=>rfl
  |c::cs,h=>by simp only[SV.refsL,aa]at h⊢;exact⟨y0x h.1,q0l h.2⟩
end
theorem Sel.nil {H:a0e} :Sel H g []:=⟨λj en hj=>by simp at hj,λi j hi=>by simp at hi,λj en hj=>by simp at hj⟩
theorem s0Z (h:SV.refs 0 s=yB):SV.rn g s=s:=by
  rw[j0v (f:=g) (g:=λj=>j) (m:=0) (λi hi=>cV) s h,A0R]
theorem z0K {s:List SV} (h:SV.refsL 0 s=yB):SV.rnL g s=s:=by
  rw[i0H (f:=g) (g:=λj=>j) (m:=0) (λi hi=>cV) s h,t0a]
theorem RJ.call0 (h:i0c m ops p tr L []=qB (d,f,args,tr2))(hr:SV.refsL 0 args=yB)(hle:LeL args args')(hs:SC P f args' [] v [])(hv:SV.refs 0 v=yB)
    (k:RJ F P m ops (p+1) tr2 (g0r L d v) H Q):RJ F P m ops p tr L H Q:=by
  obtain⟨o,ho,hg,hc,rfl,rfl,hk⟩:=e0D h;refine RJ.callD (g:=λj=>j) (args0:=args) (H0:=[]) (v0:=v) ho hg hc (by rw[z0K hr]) Sel.nil (λen hm=>by cases hm) hr hv (SC.weak hs hle) hk ?_;rw[s0Z hv,bY,List.range_zero,aE,u0X];exact k
theorem RJ.callL {args1:List SV} (σ:List Nat)(h:i0c m ops p tr L σ=qB (d,f,args,tr2))(ha:args=SV.rnL (b0b σ) args0)(hl:σ.length=H0.length)(hg:σ.map (λi=>H[i]?)=H0.map (λen=>qB (Ent.rn (b0b σ) en)))(hn:σ.Nodup)(hr0:H0.all (Ent.refs H0.length)=yB)
    (hlive:H0.all h0p=yB) (hr:SV.refsL H0.length args0=yB) (hfz:SV.fzAL H0 args0=args1) (hle:LeL args1 args') (hs:SC P f args' [] v []) (hsc:p0Z v=yB) (hv:SV.refs 0 v=yB)
    (k:RJ F P m ops (p+1) tr2 (g0r L d v) H Q):RJ F P m ops p tr L H Q:=by
  obtain⟨o,ho,hgd,hc,rfl,rfl,hk⟩:=e0D h
  have hσ:(yC H0.length).map (b0b σ)=σ:=by
    apply bv;intro i;rw[aq];by_cases hi:i<H0.length;rw[bo hi];simp only[aT,b0b,am];rw[af cV];rfl;rw[ay (by simpa using hi),ay cV];rfl
  have hv':SV.refs H0.length v=true:=y0x hv;refine RJ.callD (g:=b0b σ) (args0:=args0) (H0:=H0) (v0:=v) ho hgd hc ha (Sel.of σ hl hg hn hr0) (λen hm=>List.all_eq_true.1 hlive en hm) hr hv' (SC.lend hsc (by rw[hfz];exact SC.weak hs hle)) (λbase hb=> ?_) ?_;rw[hσ,s0Z hv];exact hk base hb;rw[s0Z hv,hσ,u0X];exact k
theorem RJ.callU (σ:List Nat)(h:i0c m ops p tr L σ=qB (d,f,args,tr2))(ha:args=SV.rnL (b0b σ) args0)(hl:σ.length=H0.length)(hg:σ.map (λi=>H[i]?)=H0.map (λen=>qB (Ent.rn (b0b σ) en)))(hn:σ.Nodup)(hr0:H0.all (Ent.refs H0.length)=yB)
    (hlive:H0.all h0p=yB) (hr:SV.refsL H0.length args0=yB) (hle:LeL args0 args') (hs:SC P f args' H0 v H0) (hv:SV.refs 0 v=yB)
    (k:RJ F P m ops (p+1) tr2 (g0r L d v) H Q):RJ F P m ops p tr L H Q:=by
  obtain⟨o,ho,hgd,hc,rfl,rfl,hk⟩:=e0D h
  have hσ:(yC H0.length).map (b0b σ)=σ:=by
    apply bv;intro i;rw[aq];by_cases hi:i<H0.length;rw[bo hi];simp only[aT,b0b,am];rw[af cV];rfl;rw[ay (by simpa using hi),ay cV];rfl
  have hv':SV.refs H0.length v=true:=y0x hv;refine RJ.callD (g:=b0b σ) (args0:=args0) (H0:=H0) (v0:=v) ho hgd hc ha (Sel.of σ hl hg hn hr0) (λen hm=>List.all_eq_true.1 hlive en hm) hr hv' (SC.weak hs hle) (λbase hb=> ?_) ?_;rw[hσ,s0Z hv];exact hk base hb;rw[s0Z hv,hσ,u0X];exact k
theorem RJ.callM (idx:Nat)(hidx:f0R ops base p=idx)(hres:q0A (H[idx]?)=yB)
    (h:i0c (qB base) ops p tr L [] [(idx,en0)]=qB (d,f,args,tr2)) (hr:SV.refsL 0 args=yB) (hle:LeL args args') (hs:SC P f args' [] v0 [en0]) (hv:SV.rn (λ_=>idx) v0=v) (hH:H.set idx en0=H2)
    (kk:RJ F P (qB base) ops (p+1) tr2 (g0r L d v) H2 Q) (hE: ∀g,Ent.rn g en0=en0:=by exact λ_=>rfl):RJ F P (qB base) ops p tr L H Q:=by
  obtain⟨o,ho,hg,hc,rfl,rfl,hk⟩:=e0D h;subst hv;subst hH;subst hidx;intro hl;rw[e0C ho];subst hl
  have hres':H[f0R ops base tr.length]?=qB .res:=by
    unfold q0A at hres;split at hres
    assumption
    cases hres
  refine⟨⟨SV.rn (λ_=>f0R ops base tr.length) v0,[],[(f0R ops base tr.length,en0)]⟩, ?_,hk base rfl, ?_⟩;unfold opD;rw[hg];simp only;rw[q0B hc,qC rfl];exact .inr (.inl ⟨f,args,v0,en0,hc,hr,SC.weak hs hle,⟨hres',hE⟩,rfl⟩);have:=kk (by simp[trM]);rw[b0g];exact this
theorem E0k (h:SV.refsL 0 cs=yB): ∀g,Ent.rn g (.box cs)= .box cs:=λg=>congrArg Ent.box (z0K h)
theorem RJ.callG (σ:List Nat)(h:i0c none ops p tr L []=qB (d,f,args,tr2))(ha:args=SV.rnL (b0b σ) args0)(hl:σ.length=H0.length)(hg:σ.map (λi=>H[i]?)=H0.map (λen=>qB (Ent.rn (b0b σ) en)))(hn:σ.Nodup)(hr0:H0.all (Ent.refs H0.length)=yB)
    (hlive:H0.all h0p=yB) (hr:SV.refsL H0.length args0=yB) (hle:LeL args0 args') (hs:SC P f args' H0 v0 H0') (hle':qD H0.length H0'.length=yB)
    (hv:SV.rn (gOf (b0b σ) H0.length H.length) v0=v) (hH:d0M (b0b σ) H0.length H H0'=H2)
    (k:RJ F P none ops (p+1) tr2 (g0r L d v) H2 Q):RJ F P none ops p tr L H Q:=by
  obtain⟨o,ho,hgd,hc,rfl,rfl,hk⟩:=e0D h;subst hv;subst hH;refine RJ.call ho hgd hc ?_ k;rw[ha];exact SC.frame (SC.weak hs hle) (Sel.of σ hl hg hn hr0) (λen hm=>List.all_eq_true.1 hlive en hm) hr (ag hle')
end
end
section
variable [Inhabited GT]
def a0l(k:IntKind):Int->List SV:=λx=> [.int k x]
def G0t:Bool->List SV:=λx=> [.bool x]
def t0T:List UInt8->List SV:=λx=> [.str x]
def lsv (enc:T->List SV)(k:Nat)(xs:List T):SV:= .lst xs.length k (xs.flatMap enc)
def k0y (enc:T->List SV)(k:Nat):List T->List SV:=λxs=> [.lst xs.length k (xs.flatMap enc)]
def a0x (enc:T->List SV)(k e:Nat)(xs:List T):Ent:= .vec xs.length k e (xs.flatMap enc)
def nth [Inhabited T](xs:List T)(j:Int):T:=xs.getD j.toNat default
def cut (xs:List T)(l h:Int):List T:=(xs.take h.toNat).drop l.toNat
def rep (l:Int)(z:T):List T:=zD l.toNat z
def b0c (xs:List T)(j:Int)(y:T):List T:=xs.set j.toNat y
def v0w (xs ys:List T):List T:=ys.take xs.length++xs.drop ys.length
def b0o(s:List UInt8):List Int:=s.map λb=>(b.toNat:Int)
def e0u(xs:List Int):List UInt8:=xs.map λx=>oI x.toNat
def s0e(a b:Int):Int:=if a<b then b else a
def L0Q(a b:Int):Int:=if b<a then b else a
theorem K0H [Inhabited T] {xs:List T} (h:inR j xs.length=yB):xs[j.toNat]?=qB (nth xs j):=by
  have:=g0X.1 h;have hl:j.toNat<xs.length:=by omega
  unfold nth;rw[am,af hl];rfl
section
variable {T : Type} {enc : T -> List SV} {k : Nat}
theorem m0i(hk: ∀x,(enc x).length=k): ∀xs:List T,(xs.flatMap enc).length=xs.length*k
  | []=>by simp
  |x::xs=>by rw[aC,aA,hk,m0i hk xs,aW,bK];omega
theorem k0l(hk: ∀x,(enc x).length=k): ∀(xs:List T) (n:Nat),(xs.flatMap enc).drop (n*k)=(xs.drop n).flatMap enc
  | [],n=>by simp
  |x::xs,0=>by simp
  |x::xs,n+1=>by
    rw[aC,cO,hk,bK,bg (by rw[hk];omega),bk];rw[show n*k+k-k=n*k from by omega,k0l hk xs n,List.drop_succ_cons]
theorem i0Q(hk: ∀x,(enc x).length=k): ∀(xs:List T) (n:Nat),(xs.flatMap enc).take (n*k)=(xs.take n).flatMap enc
  | [],n=>by simp
  |x::xs,0=>by simp
  |x::xs,n+1=>by
    rw[aC,List.take_append,hk,bK,List.take_of_length_le (by rw[hk];omega)];rw[show n*k+k-k=n*k from by omega,i0Q hk xs n,List.take_succ_cons,aC]
theorem z0a [Inhabited T](hk: ∀x,(enc x).length=k) {xs:List T} (h:inR j xs.length=yB):((xs.flatMap enc).drop (j.toNat*k)).take k=enc (nth xs j):=by
  have hn:=K0H h;rw[k0l hk];have hl:=(ab.1 hn).1;rw[bO hl,aC,(ab.1 hn).2,<-hk (nth xs j),List.take_left]
theorem N.idx [Inhabited T](hk: ∀x,(enc x).length=k) {xs:List T} (h:inR j xs.length=yB):(⟨.ep (((xs.flatMap enc).drop (j.toNat*k)).take k),[],[]⟩:Eff)=⟨.ep (enc (nth xs j)),[],[]⟩:=by
  rw[z0a hk h]
theorem N.slice(hk: ∀x,(enc x).length=k) {xs:List T} (hb:inS l h xs.length=yB):
    (⟨.lst (h.toNat-l.toNat) k (((xs.flatMap enc).take (h.toNat*k)).drop (l.toNat*k)),[],[]⟩:Eff)=⟨.lst (cut xs l h).length k ((cut xs l h).flatMap enc),[],[]⟩:=by
  have:=n0J.1 hb;rw[i0Q hk,k0l hk]
  have:(cut xs l h).length=h.toNat-l.toNat:=by
    unfold cut;rw[aV,aB];omega
  rw[this];rfl
theorem N.app {xs ys:List T} {idx e:Nat} :(⟨v,rd,[(i, .gone),(idx, .vec (xs.length+ys.length) k e (xs.flatMap enc++ys.flatMap enc))]⟩:Eff)=⟨v,rd,[(i, .gone),(idx, .vec (xs++ys).length k e ((xs++ys).flatMap enc))]⟩:=by
  rw[aA,bJ]
theorem N.make {z:T} {idx e:Nat} :(⟨v,rd,[(idx, .vec l.toNat k e (zD l.toNat (enc z)).flatten)]⟩:Eff)=⟨v,rd,[(idx, .vec (rep l z).length k e ((rep l z).flatMap enc))]⟩:=by
  unfold rep;rw[List.length_replicate,List.flatMap_replicate]
theorem w0A(hk: ∀x,(enc x).length=k) {xs:List T} {y:T} (h:inR j xs.length=yB):splice (xs.flatMap enc) (j.toNat*k) (enc y)=(b0c xs j y).flatMap enc:=by
  have hj:=g0X.1 h;have hl:j.toNat<xs.length:=by omega
  unfold splice b0c;rw[hk,i0Q hk,show j.toNat*k+k=(j.toNat+1)*k from(bK _ _).symm,k0l hk];rw[List.set_eq_take_append_cons_drop,qC hl,bJ,aC]
theorem I0r(hk: ∀x,(enc x).length=k) {xs ys:List T} :splice (xs.flatMap enc) 0 ((ys.flatMap enc).take (min ys.length xs.length*k))=(v0w xs ys).flatMap enc:=by
  unfold splice v0w;rw[i0Q hk,List.take_zero,bk,aY,m0i hk,aB,k0l hk,bJ];congr 1;congr 1;rw[Nat.min_comm,<-List.take_eq_take_min];congr 1;rcases Nat.le_total ys.length xs.length with h|h;congr 1;omega;rw[bg cV,bg cV]
theorem F0P {xs ys:List T} :(v0w xs ys).length=xs.length:=by
  unfold v0w;rw[aA,aB,aV];omega
end
theorem N.store {enc:T->List SV} (hk: ∀x,(enc x).length=k) {e:Nat} {xs:List T} {y:T} (h:inR j xs.length=yB):
    (⟨v,rd,[(i, .vec xs.length k e (splice (xs.flatMap enc) (j.toNat*k) (enc y)))]⟩:Eff)=⟨v,rd,[(i,a0x enc k e (b0c xs j y))]⟩:=by
  rw[w0A hk h];unfold a0x b0c;rw[List.length_set]
theorem l0j {enc:T->List SV} (hk: ∀x,(enc x).length=k) {xs:List T} {y:T} (h:inR j xs.length=yB):qD (j.toNat*k+(enc y).length) (xs.flatMap enc).length=true:=by
  have hj:=g0X.1 h;rw[m0i hk,hk,ca,show j.toNat*k+k=(j.toNat+1)*k from(bK _ _).symm];exact aJ _ cV
theorem g0k {enc:T->List SV} (hk: ∀x,(enc x).length=k)(hk0:k=1) {xs:List T} (h:inR j xs.length=yB):qE (j.toNat*k) (xs.flatMap enc).length=true:=by
  have hj:=g0X.1 h;subst hk0;rw[m0i hk,cQ];omega
theorem N.load1 [Inhabited T] {enc:T->List SV} {f:T->SV} (hk: ∀x,(enc x).length=1)(hf: ∀x,enc x=[f x]) {xs:List T} (h:inR j xs.length=yB):
    (⟨((xs.flatMap enc).drop (j.toNat*1)).headD .undef,rd,[]⟩:Eff)=⟨f (nth xs j),rd,[]⟩:=by
  have h1:=z0a hk h;rw[hf]at h1
  cases hd:(xs.flatMap enc).drop (j.toNat*1)with
  |nil=>rw[hd]at h1;simp at h1
  |cons c r=>rw[hd]at h1;simp at h1;rw[h1];rfl
theorem N.copy {enc:T->List SV} (hk: ∀x,(enc x).length=k) {e:Nat} {xs ys:List T} :
    (⟨v,rd,[(i, .vec xs.length k e (splice (xs.flatMap enc) 0 ((ys.flatMap enc).take (min ys.length xs.length*k))))]⟩:Eff)=⟨v,rd,[(i,a0x enc k e (v0w xs ys))]⟩:=by
  rw[I0r hk];unfold a0x;rw[F0P]
theorem a0g(k:IntKind)(x:Int):(a0l k x).length=1:=rfl
theorem f0I (enc:T->List SV)(k:Nat)(x:List T):(k0y enc k x).length=1:=rfl
theorem k0Q(s:List UInt8):s.map l0C=(b0o s).flatMap (a0l .u8):=by
  induction s with
  |nil=>rfl
  |cons b s ih=>rw[al,b0o,al,aC,ih];rfl
theorem d0I(s:List UInt8):(b0o s).length=s.length:=by simp[b0o]
theorem N.toBytes {s:List UInt8} :(⟨.lst s.length 1 (s.map l0C),[],[]⟩:Eff)=⟨lsv (a0l .u8) 1 (b0o s),[],[]⟩:=by
  unfold lsv;rw[k0Q,d0I]
theorem F0w(s:List UInt8):(g0A s).map w0I=(g0A s).flatMap (a0l .i32):=by
  generalize g0A s=l
  induction l with
  |nil=>rfl
  |cons b s ih=>rw[al,aC,ih];rfl
theorem N.toRunes {s:List UInt8} :(⟨.lst (g0A s).length 1 ((g0A s).map w0I),[],[]⟩:Eff)=⟨lsv (a0l .i32) 1 (g0A s),[],[]⟩:=by
  unfold lsv;rw[F0w]
def q0b(xs:List Int):List UInt8:=xs.flatMap λx=>(yI x).data.toList
theorem J0H(xs:List Int):(xs.flatMap (a0l .i32)).all p0D=true:=by
  induction xs with
  |nil=>rfl
  |cons x xs ih=>rw[aC,bX,ih];rfl
theorem N.toRStr {xs:List Int} :(⟨.str ((xs.flatMap (a0l .i32)).flatMap w0J),rd,[]⟩:Eff)=⟨.str (q0b xs),rd,[]⟩:=by
  have:(xs.flatMap (a0l .i32)).flatMap w0J=q0b xs:=by
    unfold q0b
    induction xs with
    |nil=>rfl
    |cons x xs ih=>rw[aC,bJ,ih,aC];simp[a0l,w0J]
  rw[this]
theorem t0S(xs:List Int):(xs.flatMap (a0l .u8)).all p0f=true:=by
  induction xs with
  |nil=>rfl
  |cons x xs ih=>rw[aC,bX,ih];rfl
theorem N.toStr {xs:List Int} :(⟨.str ((xs.flatMap (a0l .u8)).map byteOf),rd,[]⟩:Eff)=⟨.str (e0u xs),rd,[]⟩:=by
  have:(xs.flatMap (a0l .u8)).map byteOf=e0u xs:=by
    induction xs with
    |nil=>rfl
    |cons x xs ih=>rw[aC,cm,ih];rfl
  rw[this]
section
variable {F : Fr} {P : Program} {L : LE} {H : a0e}
end
end
section
variable [Inhabited GT]
def f0b(fn:Func):Code:=fn.body.getD .skip
def cl:Code->Code| .seq a _=>a|_=> .skip
def cr:Code->Code| .seq _ b=>b|_=> .skip
def ct:Code->Code| .cond _ a _=>a|_=> .skip
def ce:Code->Code| .cond _ _ b=>b|_=> .skip
def cb:Code->Code| .block _ a=>a|_=> .skip
def cp:Code->Code| .loop a=>a|_=> .skip
def h0V:Code->Array Oper| .region _ ops _=>ops|_=> #[]
def s0g:Code->Bool| .seq _ _=>yB|_=>vB
def o0I(d:Bool):Code->Bool| .region _ _ b=>b==d|_=>vB
def y0Q(i:Nat):Code->Bool| .block j _=>vC j i|_=>vB
def D0Q(i:Nat):Code->Bool| .exit j=>vC j i|_=>vB
def D0P:Code->Bool| .loop _=>yB|_=>vB
def D0O:Code->Bool| .ret=>yB|_=>vB
def u0F:Code->Bool| .skip=>yB|_=>vB
def x0T(c:Code)(L:LE):Option SV:=match c with
  | .cond x _ _=>a0G (a0r L) x
  |_=>none
section
variable {F : Fr} {P : Program} {c : Code} {L : LE} {H : a0e} {Q : g0o}
theorem z0F(h:s0g c=yB):c= .seq (cl c) (cr c):=by cases c<;>first|rfl|cases h
theorem K.seq(h:s0g c=yB)(k:J F P (cl c) L H (l0K F P (cr c) Q)):J F P c L H Q:=by
  rw[z0F h];exact J.seq k
theorem K.cutN (h:s0g c=yB)(R:S->LE×a0e)(st:S)(h1:J F P (cl c) L H (cutN F R st))(h2:J F P (cr c) (R st).1 (R st).2 Q):J F P c L H Q:=by
  rw[z0F h];exact J.cutN R st h1 h2
theorem K.cutX (h:s0g c=yB)(R:S->LE×a0e)(x:S⊕X)(h1:J F P (cl c) L H (cutX F R Q x))(h2: ∀st,x= .inl st->J F P (cr c) (R st).1 (R st).2 Q):J F P c L H Q:=by
  rw[z0F h];exact J.cutX R x h1 h2
theorem K.region(h:o0I vB c=yB)(k:RJ F P none (h0V c) 0 [] L H Q):J F P c L H Q:=by
  cases c<;>first|cases h|skip
  rename_i i ops d
  cases d with
  |false=>exact J.region k
  |true=>cases h
theorem K.draw(h:o0I yB c=yB)(hm:P.follows .mixedOrders=yB)(hB:zG .any (h0V c)=yB) (hH:H++zD (e0G (h0V c)) .res=H2) (hn:H.length=n)(k:RJ F P (qB n) (h0V c) 0 [] L H2 Q):J F P c L H Q:=by
  subst hH;subst hn;cases c<;>first|cases h|skip
  rename_i i ops d
  cases d with
  |true=>exact J.draw hm hB k
  |false=>cases h
theorem K.condT(h:x0T c L=qB (.bool yB))(k:J F P (ct c) L H Q):J F P c L H Q:=by
  cases c<;>first|cases h|skip
  exact J.cond (b:=yB) h k
theorem K.condF(h:x0T c L=qB (.bool vB))(k:J F P (ce c) L H Q):J F P c L H Q:=by
  cases c<;>first|cases h|skip
  exact J.cond (b:=vB) h k
theorem K.block(i:Nat)(h:y0Q i c=yB)(k:J F P (cb c) L H (zF i Q)):J F P c L H Q:=by
  cases c<;>first|cases h|skip
  rename_i j a;have:=ae h;subst this;exact J.block k
theorem K.skip(h:u0F c=yB)(k:PJ F Q .normal L H):J F P c L H Q:=by
  cases c<;>first|cases h|skip
  exact J.skip k
theorem K.ret(h:D0O c=yB)(k:PJ F Q .ret L H):J F P c L H Q:=by
  cases c<;>first|cases h|skip
  exact J.ret k
theorem K.exit(i:Nat)(h:D0Q i c=yB)(k:PJ F Q (.exit i) L H):J F P c L H Q:=by
  cases c<;>first|cases h|skip
  rename_i j;have:=ae h;subst this;exact J.exit k
theorem K.loop {step:S->Option (S⊕O)} {s0:S} {o:O} (h:D0P c=yB)(R:S->LE×a0e)(ho:a0n step n s0=qB o)(ts:List Nat)(hL:g0F ts L=(R s0).1)(hH:H=(R s0).2)
    (body: ∀s x,step s=qB x->J F P (cp c) (R s).1 (R s).2 (p0B F R Q o x)):J F P c L H Q:=by
  cases c<;>first|cases h|skip
  exact J.loopR R ho ts hL hH body
theorem RJ.end {m:Option Nat} {p:Nat} {tr:List (List Nat×List Nat)} (hp:qD ops.size p=yB)(h:PJ F Q .normal L H):RJ F P m ops p tr L H Q:=RJ.done (ag hp) h
end
theorem K.fn {P:Program} {f:FuncId} {fn:Func} (hf:P.funcs[f]?=qB fn)(hb:fn.body.isSome=yB)(hcal:b0u P f=yB)(hin:b0t fn.ntmps (f0b fn)=yB)
    {args:List SV} {H:a0e} {v:SV} {H':a0e} (hn:qD args.length fn.ntmps=yB)
    (h: ∀F:Fr,F.n=fn.ntmps->F.H0=H->(∀i,F.H0.length<=i->F.D0 i=none)->J F P (f0b fn) (f0k 0 args) H (u0a P fn F v H')):SC P f args H v H':=by
  unfold f0b at*
  cases hbb:fn.body with
  |none=>rw[hbb]at hb;cases hb
  |some c=>rw[hbb]at hin h;exact J0M hf hbb hcal hin (ag hn) h
theorem K.ret0 {fn:Func} {L:LE} {H:a0e} (he:e= .normal\/e= .ret)(hn:F.n=fn.ntmps)(hH:F.H0=[])(hdom: ∀i,F.H0.length<=i->F.D0 i=none)(hin:j0Z fn.ntmps fn.results.toList=yB)(hret:u0v P fn.results.toList L H=qB v)(hr:SV.refs 0 v=yB):
    PJ F (u0a P fn F v []) e L H:=
  PJ.end (f:=λj=>j) he (by rw[hn];exact hin) hret (by rw[hH];exact Back.drop (H':=[]) (ex:=H) (aj _) hr rfl) hdom
theorem K.retV {fn:Func} {L:LE} {H:a0e} (σ:List Nat)(he:e= .normal\/e= .ret)(hn:F.n=fn.ntmps)(hH:F.H0=H0)(hdom: ∀i,F.H0.length<=i->F.D0 i=none)(hin:j0Z fn.ntmps fn.results.toList=yB)(hret:u0v P fn.results.toList L H=qB v1)
    (hl:σ.length=H'.length) (hg:σ.map (λi=>H[i]?)=H'.map (λen=>qB (Ent.rn (b0b σ) en))) (hnd:σ.Nodup) (hr:H'.all (Ent.refs H'.length)=yB) (hk:σ.take H0.length=yC H0.length) (hle:qD H0.length H'.length=yB) (hv:v1=SV.rn (b0b σ) v) (hvr:SV.refs H'.length v=yB):
    PJ F (u0a P fn F v H') e L H:=by
  refine PJ.end (f:=b0b σ) he (by rw[hn];exact hin) hret ⟨Sel.of σ hl hg hnd hr,λj hj=> ?_,by rw[hH];exact ag hle,hv,hvr⟩ hdom;rw[hH]at hj;have:=congrArg (λl=>l[j]?) hk;simp only[aP,qC hj,bo hj]at this;unfold b0b;rw[am,this];rfl
theorem Good.le {K:Nat->Nat} {H:a0e} {s':SV} (h:Good w K D H r w' s H')(hl:Le s s'):Good w K D H r w' s' H':=by
  obtain⟨K',D',g,hi,hr⟩:=h;exact⟨K',D',g,hi,hl _ _ _ _ hr⟩
theorem PJ.res {fn:Func} {L:LE} {H:a0e} (hl:Le v1 v)(h:PJ F (u0a P fn F v1 H') e L H):PJ F (u0a P fn F v H') e L H:=λa w hs=>by
  obtain⟨h1,h2,r,h3,h4⟩:=h a w hs;exact⟨h1,h2,r,h3,h4.le hl⟩
theorem SC.frozen {e:Nat} (h:SC P f args [] (.vc 0) [.vec n k e cs]):SC P f args [] (.lst n k cs) []:=by
  refine⟨h.1,λw K D vals hlen hrep hi hG=> ?_⟩;refine(h.2 w K D vals hlen hrep hi hG).mono ?_;rintro ex w' ⟨r,he,hg⟩;refine⟨r,he, ?_⟩;obtain⟨K',D',g,hi',hr'⟩:=hg.freeze (i:=0) rfl;exact j0t g hi' hr' (Back.drop (H':=[]) (ex:=[.gone]) (aj _) rfl rfl) (λi _=>hi.dom i (bf _))
theorem n0I {k:S->Option X} {x:X} {r:Option X} (h:a0j k (.inr x)=r):qB x=r:=h
theorem k0k {k:S->Option X} {s:S} {r:Option X} (h:a0j k (.inl s)=r):k s=r:=h
def big:Nat:=18446744073709551616
end
open Go Go.RowKit Go.ChangeShapes Go.WideShapes Go.ChangeAt
section
variable [Inhabited GT]
def f0a(P:Program) {H:Type} :Nat->TypeId->DataW H->List SV->Prop
  |0,_,_,_=>False
  |n+1,t,d,cs=>match P.underlying t with
    |some .bool=> ∃b,d= .lit (.bool b)/\cs=[.bool b]
    |some (.int k)=> ∃x,d= .lit (.int k x)/\cs=[.int k x]/\(Lit.int k x).wf=yB
    |some .string=> ∃l,d= .lit (.string l)/\cs=[.str l]
    |some (.slice e)=>(d= .nil/\cs=[.lst 0 (P.cellsOf e) []])\/ ∃(elems rest:List (DataW H)) (xs:List (List SV)),d= .slice elems rest/\cs=[.lst xs.length (P.cellsOf e) xs.flatten]/\xs.length=elems.length/\
        (∀x∈xs,x.length=P.cellsOf e)/\ ∀(i:Nat) y x,elems[i]?=qB y->xs[i]?=qB x->f0a P n e y x
    |some (.struct fs)=>cs.length=P.cellsOf t/\ ∃parts:List (DataW H),d= .agg parts/\parts.length=fs.size/\ ∀(i:Nat) (f:Field) p,fs[i]?=qB f->parts[i]?=qB p->f0a P n f.type p ((cs.drop f.offset).take (P.cellsOf f.type))
    |some (.array m e)=>cs.length=P.cellsOf t/\ ∃parts:List (DataW H),d= .agg parts/\parts.length=m/\ ∀(i:Nat) p,parts[i]?=qB p->f0a P n e p ((cs.drop (i*P.cellsOf e)).take (P.cellsOf e))
    |_=>False
def m0C(P:Program)(total:Nat):Nat->List Field->Bool
  |off,[]=>off==total
  |off,f::r=>(f.offset==off)&&m0C P total (off+P.cellsOf f.type) r
def n0s(P:Program):Nat->TypeId->Bool
  |0,_=>vB
  |n+1,t=>match P.underlying t with
    |some .bool=>yB
    |some (.int _)=>yB
    |some .string=>yB
    |some (.slice e)=>wB (0<P.cellsOf e)&&n0s P n e
    |some (.struct fs)=>m0C P (P.cellsOf t) 0 fs.toList&&fs.toList.all λf=>n0s P n f.type
    |some (.array m e)=>(P.cellsOf t==m*P.cellsOf e)&&n0s P n e
    |_=>vB
def KW(w:World):Nat->Nat:=λb=>match w.heap[b]? with
  |some (.cells c _ _)=>c.size
  |_=>0
theorem N0a(w:World)(b:Nat)(h:KW w b≠0):b<w.heap.size:=by
  unfold KW at h;split at h;rename_i c e f hb;exact(ak.1 hb).1;exact absurd rfl h
theorem J0N {b off:Nat} {v:Value} (h:w.cell? ⟨b,off,none⟩=qB v):off<KW w b:=by
  unfold World.cell? at h;unfold KW;simp only at h;split at h;rename_i c e f hb;rw[hb];simp at h;exact(ak.1 h).1;cases h
theorem z0c {Q:Nat->α->Prop} : ∀(n:Nat),(∀i,i<n-> ∃x,Q i x)-> ∃l:List α,l.length=n/\ ∀(i:Nat) x,l[i]?=qB x->Q i x:=by
  intro n
  induction n with
  |zero=>intro _;exact⟨[],rfl,λi x h=>by simp at h⟩
  |succ n ih=>
    intro h;obtain⟨l,hl,hq⟩:=ih λi hi=>h i cV
    obtain⟨x,hx⟩:=h n cV;refine⟨l++ [x],by simp[hl],λi y hy=> ?_⟩;rw[aL]at hy;split at hy;exact hq i y hy;rename_i hi
    have:i-l.length=0:=by
      have:=(ab.1 hy).1;simp at this;omega
    have hin:i=n:=by omega
    rw[this]at hy;simp at hy;subst hy;subst hin;exact hx
theorem q0F : ∀(l:List (List α)),(∀x∈l,x.length=k)->l.flatten.length=l.length*k:=by
  intro l
  induction l with
  |nil=>intro _;simp
  |cons x l ih=>
    intro h;rw[List.flatten_cons,aA,h x (aw ..),ih λy hy=>h y (ao _ hy),aW,bK];omega
theorem m0h (hk:0<k): ∀(l:List (List α)),(∀x∈l,x.length=k)-> ∀j,l.flatten[j]?=(l[j/k]?).bind λx=>x[j%k]?:=by
  intro l
  induction l with
  |nil=>intro _ j;simp
  |cons x l ih=>
    intro h j;have hx:=h x (aw ..);rw[List.flatten_cons,aL];split;rename_i hj;rw[hx]at hj;rw[Nat.div_eq_of_lt hj,cN hj];rfl;rename_i hj;rw[hx]at hj⊢;rw[ih (λy hy=>h y (ao _ hy))]
    have h1:j/k=(j-k)/k+1:=by
      have:=Nat.div_eq_sub_div hk (show k<=j by omega);exact this
    have h2:j%k=(j-k)%k:=Nat.mod_eq_sub_mod cV;rw[h1,h2];simp
theorem r0K {K:Nat->Nat} {cs:List Value} {Q:Nat->List SV->Prop} : ∀(fl:List Field) (off i0:Nat),m0C P cs.length off fl=yB->
    (∀(i:Nat) f,fl[i]?=qB f-> ∃ss,CR w K D ((cs.drop f.offset).take (P.cellsOf f.type)) ss/\ss.length=P.cellsOf f.type/\a0Q ss=yB/\Q (i0+i) ss)->
    ∃ss,CR w K D (cs.drop off) ss/\a0Q ss=yB/\ ∀(i:Nat) f,fl[i]?=qB f->off<=f.offset/\Q (i0+i) ((ss.drop (f.offset-off)).take (P.cellsOf f.type)):=by
  intro fl
  induction fl with
  |nil=>
    intro off i0 h _;simp only[m0C,beq_iff_eq]at h;subst h;exact⟨[],by simpa using CR.nil,rfl,λi f hf=>by simp at hf⟩
  |cons f r ih=>
    intro off i0 h hq;simp only[m0C,aa,beq_iff_eq]at h;obtain⟨h1,h2⟩:=h;subst h1;obtain⟨s1,c1,l1,p1,q1⟩:=hq 0 f rfl
    obtain⟨s2,c2,p2,q2⟩:=ih (f.offset+P.cellsOf f.type) (i0+1) h2 (λi g hg=>by
      obtain⟨ss,a,b,pp,c⟩:=hq (i+1) g (by simpa using hg)
      exact⟨ss,a,b,pp,by rw[show i0+1+i=i0+(i+1)from by omega];exact c⟩)
    refine⟨s1++s2, ?_,by simp only[a0Q,bX,aa]at p1 p2⊢;exact⟨p1,p2⟩,λi g hg=> ?_⟩;have:=c1.append c2;rw[<-List.drop_drop,bp]at this;exact this
    cases i with
    |zero=>
      simp at hg;subst hg;refine⟨aj _, ?_⟩;rw[Nat.sub_self,cJ,<-l1,List.take_left];exact q1
    |succ i=>
      obtain⟨p1,p2⟩:=q2 i g (by simpa using hg);refine⟨cV, ?_⟩
      have hd:(s1++s2).drop (g.offset-f.offset)=s2.drop (g.offset-(f.offset+P.cellsOf f.type)):=by
        rw[cO,bg cV,bk];congr 1;omega
      rw[hd,show i0+(i+1)=i0+1+i from by omega];exact p2
theorem x0S {total:Nat} : ∀(fl:List Field) (off:Nat),m0C P total off fl=yB->off<=total/\ ∀f∈fl,f.offset+P.cellsOf f.type<=total:=by
  intro fl
  induction fl with
  |nil=>intro off h;simp only[m0C,beq_iff_eq]at h;exact⟨cV,λf hf=>by cases hf⟩
  |cons f r ih=>
    intro off h;simp only[m0C,aa,beq_iff_eq]at h;obtain⟨h1,h2⟩:=h;obtain⟨i1,i2⟩:=ih _ h2;refine⟨cV,λg hg=> ?_⟩;rcases aS.1 hg with rfl|hg;omega;exact i2 g hg
def h0L (e k i : Nat) : Field := { name := "", type := e, offset := i * k, embedded := vB, tag := "", pkgPath := "", byteOffset := 0 }
theorem z0j {e:TypeId} : ∀(m i0:Nat),m0C P ((i0+m)*P.cellsOf e) (i0*P.cellsOf e) ((jH i0 m).map (h0L e (P.cellsOf e)))=true:=by
  intro m
  induction m with
  |zero=>intro i0;simp[m0C]
  |succ m ih=>
    intro i0;simp only[List.range'_succ,al,m0C,h0L,beq_self_eq_true,ck];have:=ih (i0+1);rw[show i0*P.cellsOf e+P.cellsOf e=(i0+1)*P.cellsOf e from(bK _ _).symm,show i0+(m+1)=i0+1+m from by omega];exact this
section
variable {H : Type} {enc : TypeId × Value -> H} {P : Program} {w : World}
theorem v0e: ∀(n:Nat) (t:TypeId) (fuel:Nat) (cs:List Value) (x:DataW H×List MemPlace),n0s P n t=yB->DataW.trod enc P w 0 (λ_=>yB) yB fuel t cs=qB x->
    ∃ss,CR w (KW w) (λ_=>none) cs ss/\a0Q ss=yB/\f0a P n t x.1 ss:=by
  intro n
  induction n with
  |zero=>intro t fuel cs x hp _;simp[n0s]at hp
  |succ n ih=>
    intro t fuel cs x hp h;unfold n0s at hp
    have single: ∀(v:Value) (s:SV),cs=[v]->Rep w (KW w) (λ_=>none) v s->s.plain=yB->CR w (KW w) (λ_=>none) cs [s]:=by
      intro v s hc hr h1;subst hc
      exact⟨rfl,λc hm=>by simp at hm;subst hm;exact x0b hr h1,λj v c hv hc=>by
        cases j with
        |zero=>simp at hv hc;subst hv;subst hc;exact hr
        |succ j=>simp at hv⟩
    split at hp;rename_i hu;obtain⟨b,hcs,hx⟩:=DataW.trod_bool hu h;exact⟨[.bool b],single _ _ hcs (.bool b) rfl,rfl,by unfold f0a;rw[hu,hx];exact⟨b,rfl,rfl⟩⟩;rename_i k hu;obtain⟨z,hcs,hx,hw⟩:=DataW.trod_int hu h;exact⟨[.int k z],single _ _ hcs (.int k z) rfl,rfl,by unfold f0a;rw[hu,hx];exact⟨z,rfl,rfl,hw⟩⟩;rename_i hu;obtain⟨s,hcs,hx,_⟩:=DataW.trod_string hu h;exact⟨[.str s.data.toList],single _ _ hcs (.str s) rfl,rfl,by unfold f0a;rw[hu,hx];exact⟨_,rfl,rfl⟩⟩;rename_i e hu;simp only[aa,decide_eq_true_eq]at hp;obtain⟨hk,hpe⟩:=hp;rcases DataW.trod_slice hu h with⟨hcs,hx⟩|⟨a,len,cap,elems,rest,m,_,hcs,hx,hb,hl,hm,hlen,hel,hsp,hns⟩;exact⟨[.lst 0 (P.cellsOf e) []],single _ _ hcs (.emp _ _ _) rfl,rfl,by unfold f0a;rw[hu,hx];exact .inl ⟨rfl,rfl⟩⟩
    -- each element by itself
    have each: ∀i,i<len-> ∃p:List Value×List SV,p.1.length=P.cellsOf e/\(CR w (KW w) (λ_=>none) p.1 p.2/\a0Q p.2=yB)/\(∀r,r<P.cellsOf e->w.cell? ((a.add (i*P.cellsOf e)).add r)=p.1[r]?)/\
        ∀y,elems[i]?=qB y->f0a P n e y.1 p.2:=by
      intro i hi;have h1:=hel i hi;have hil:i<elems.length:=by omega
      rw[af hil]at h1;simp only[Option.bind_eq_some_iff]at h1;obtain⟨vs,hvs,htr⟩:=h1;obtain⟨_,h3,h4⟩:=World.cells?_some hvs;obtain⟨ss,hcr,hpl,hsh⟩:=ih e m vs _ hpe htr;exact⟨(vs,ss),h3,⟨hcr,hpl⟩,h4,λy hy=>by rw[af hil]at hy;cases hy;exact hsh⟩
    obtain⟨l,hll,hlq⟩:=z0c len each
    have hget: ∀i,i<len-> ∃p,l[i]?=qB p:=λi hi=>⟨l[i]' cV,af cV⟩
    have hxs1: ∀x∈l.map (·.1),x.length=P.cellsOf e:=by
      intro x hx;obtain⟨p,hp,rfl⟩:=aX.1 hx;obtain⟨i,hi⟩:=bq.1 hp;exact(hlq i p hi).1
    have hxs2: ∀x∈l.map (·.2),x.length=P.cellsOf e:=by
      intro x hx;obtain⟨p,hp,rfl⟩:=aX.1 hx;obtain⟨i,hi⟩:=bq.1 hp;rw[(hlq i p hi).2.1.1.len];exact(hlq i p hi).1
    have hshow:f0a P (n+1) t x.1 [.lst len (P.cellsOf e) (l.map (·.2)).flatten]:=by
      unfold f0a;rw[hu,hx];refine .inr ⟨elems.map (·.1),rest.map (·.1),l.map (·.2),rfl,by rw[List.length_map,hll],by simp[hll,hlen],hxs2,λi y x hy hxx=> ?_⟩;rw[aq]at hy hxx
      cases hp:l[i]? with
      |none=>rw[hp]at hxx;cases hxx
      |some p=>
        rw[hp]at hxx;cases hxx
        cases he:elems[i]? with
        |none=>rw[he]at hy;cases hy
        |some y'=>rw[he]at hy;cases hy;exact(hlq i p hp).2.2.2 y' he
    refine⟨_,single _ _ hcs ?_ rfl,rfl,hshow⟩;by_cases h0:len=0;subst h0;have:l=[]:=av hll;subst this;exact .emp _ _ _;obtain⟨b,off,spot⟩:=a
    have hcell: ∀i r,i<len->r<P.cellsOf e-> ∃p v,l[i]?=qB p/\p.1[r]?=qB v/\w.cell? (((⟨b,off,spot⟩:Addr).add (i*P.cellsOf e)).add r)=qB v:=by
      intro i r hi hr;obtain⟨p,hp⟩:=hget i hi;obtain⟨q1,q2,q3,q4⟩:=hlq i p hp;have hrl:r<p.1.length:=by omega
      exact⟨p,p.1[r],hp,af hrl,by rw[q3 r hr,af hrl]⟩
    have hspot:spot=none:=by
      obtain⟨p,v,_,_,hc⟩:=hcell 0 0 cV hk;have h1:((⟨b,off,spot⟩:Addr).add (0*P.cellsOf e)).add 0=⟨b,off,spot⟩:=by simp[Addr.add]
      rw[h1]at hc;have:=World.cell?_spot hc;simpa using this
    subst hspot;have hflat1:(l.map (·.1)).flatten.length=len*P.cellsOf e:=by rw[q0F _ hxs1];simp[hll]
    have hflat2:(l.map (·.2)).flatten.length=len*P.cellsOf e:=by rw[q0F _ hxs2];simp[hll]
    have hmem: ∀j v,(l.map (·.1)).flatten[j]?=qB v->w.cell? ⟨b,off+j,none⟩=qB v:=by
      intro j v hj;have hjl:=(ab.1 hj).1;rw[hflat1]at hjl;have hi:j/P.cellsOf e<len:=cA (by rw[cU];exact hjl);have hr:j%P.cellsOf e<P.cellsOf e:=Nat.mod_lt _ hk;obtain⟨p,u,hp,hu',hc⟩:=hcell _ _ hi hr;rw[m0h hk _ hxs1,aq,hp]at hj;simp only[aT,ai]at hj;rw[hu']at hj;cases hj;rw[add_lit,add_lit]at hc
      have hjj:off+j/P.cellsOf e*P.cellsOf e+j%P.cellsOf e=off+j:=by
        have:=Nat.div_add_mod j (P.cellsOf e);rw[cU]at this;omega
      rw[hjj]at hc;exact hc
    refine .lst (P.cellsOf e) b off len cap (l.map (·.1)).flatten _ hk hflat1 (by rw[hflat2,hflat1]) hl hmem ?_ (λc hc=> ?_) (List.all_eq_true.2 λc hc=> ?_) (λj v c hv hc=> ?_);rw[hflat1];have hpos:0<len*P.cellsOf e:=Nat.mul_pos cV hk;have hlast:len*P.cellsOf e-1<(l.map (·.1)).flatten.length:=by rw[hflat1];omega
    have:=J0N (hmem _ _ (af hlast));omega;obtain⟨x,hx,hcx⟩:=List.mem_flatten.1 hc;obtain⟨p,hp,rfl⟩:=aX.1 hx;obtain⟨i,hi⟩:=bq.1 hp;exact(hlq i p hi).2.1.1.one c hcx;obtain⟨x,hx,hcx⟩:=List.mem_flatten.1 hc;obtain⟨p,hp,rfl⟩:=aX.1 hx;obtain⟨i,hi⟩:=bq.1 hp;exact List.all_eq_true.1 (hlq i p hi).2.1.2 c hcx;rw[m0h hk _ hxs1,aq]at hv;rw[m0h hk _ hxs2,aq]at hc
    cases hp:l[j/P.cellsOf e]? with
    |none=>rw[hp]at hv;cases hv
    |some p=>
      rw[hp]at hv hc;simp only[aT,ai]at hv hc;exact(hlq _ p hp).2.1.1.rep _ v c hv hc
    rename_i fs hu;simp only[aa,vD]at hp;obtain⟨hct,hpf⟩:=hp;obtain⟨xs,m,_,hx,hcl,hxl,hfs⟩:=DataW.trod_struct hu h;rw[<-hcl]at hct
    obtain⟨ss,hcr,hpl,hq⟩:=r0K (w:=w) (K:=KW w) (D:=λ_=>none) (Q:=λj ss=> ∀f p,fs.toList[j]?=qB f->xs[j]?=qB p->f0a P n f.type p.1 ss) fs.toList 0 0 hct (λi f hf=>by
      have hf':fs[i]?=qB f:=by simpa using hf
      have hil:i<xs.length:=by rw[hxl];exact(ak.1 hf').1
      have htr:=hfs i f hf';rw[af hil]at htr;obtain⟨ss,h1,hp1,h2⟩:=ih f.type m _ _ (hpf f (aI hf)) htr;refine⟨ss,h1, ?_,hp1,λg p hg hpp=> ?_⟩;have:=(x0S _ _ hct).2 f (aI hf);rw[h1.len,aB,aV];omega;rw[aY]at hg hpp;rw[hf]at hg;cases hg;rw[af hil]at hpp;cases hpp
      exact h2)
    refine⟨ss,by simpa using hcr,hpl, ?_⟩;unfold f0a;rw[hu,hx];refine⟨by have:=hcr.len;simp at this;omega,xs.map (·.1),rfl,by simp[hxl],λi f p hf hpp=> ?_⟩;rw[aq]at hpp
    cases hxi:xs[i]? with
    |none=>rw[hxi]at hpp;cases hpp
    |some y=>
      rw[hxi]at hpp;cases hpp;have hfl:fs.toList[i]?=qB f:=by simpa using hf
      have:=(hq i f hfl).2 f y (by simpa using hfl) (by simpa using hxi);simpa using this
    rename_i m e hu;simp only[aa,beq_iff_eq]at hp;obtain⟨hct,hpe⟩:=hp;obtain⟨xs,mm,_,hx,hcl,hxl,hfs⟩:=DataW.trod_array hu h
    have hcf:m0C P cs.length 0 ((jH 0 m).map (h0L e (P.cellsOf e)))=true:=by
      have:=z0j (P:=P) (e:=e) m 0;rw[hcl,hct];simpa using this
    have hff: ∀(i:Nat) f,((jH 0 m).map (h0L e (P.cellsOf e)))[i]?=qB f->i<m/\f=h0L e (P.cellsOf e) i:=by
      intro i f hf;rw[aq]at hf
      cases hr:(jH 0 m)[i]? with
      |none=>rw[hr]at hf;cases hf
      |some j=>
        rw[hr]at hf
        have hl:=(ab.1 hr)
        obtain⟨p1,p2⟩:=hl;simp at p1 p2;subst p2;cases hf;exact⟨p1,rfl⟩
    obtain⟨ss,hcr,hpl,hq⟩:=r0K (w:=w) (K:=KW w) (D:=λ_=>none) (Q:=λj ss=> ∀p,xs[j]?=qB p->f0a P n e p.1 ss) _ 0 0 hcf (λi f hf=>by
      obtain⟨him,rfl⟩:=hff i f hf;have hil:i<xs.length:=by omega
      have htr:=hfs i him;rw[af hil]at htr;obtain⟨ss,h1,hp1,h2⟩:=ih e mm _ _ hpe htr;refine⟨ss,h1, ?_,hp1,λp hpp=> ?_⟩;have h3:=(x0S _ _ hcf).2 _ (aI hf);rw[h1.len,aB,aV];simp only[h0L]at h3⊢;omega;rw[aY]at hpp;rw[af hil]at hpp;cases hpp
      exact h2)
    refine⟨ss,by simpa using hcr,hpl, ?_⟩;unfold f0a;rw[hu,hx];refine⟨by have:=hcr.len;simp at this;omega,xs.map (·.1),rfl,by simp[hxl],λi p hpp=> ?_⟩;rw[aq]at hpp
    cases hxi:xs[i]? with
    |none=>rw[hxi]at hpp;cases hpp
    |some y=>
      rw[hxi]at hpp;cases hpp;have him:i<m:=by rw[<-hxl];exact(ab.1 hxi).1
      have hfi:((jH 0 m).map (h0L e (P.cellsOf e)))[i]?=qB (h0L e (P.cellsOf e) i):=by
        rw[aq,List.getElem?_range' him];simp
      have:=(hq i _ hfi).2 y (by simpa using hxi);simpa [h0L]using this
    cases hp
end
end
section
variable [Inhabited GT]
def l0G(P:Program) {H:Type} (n:Nat)(t:TypeId)(d:DataW H)(s:SV):Prop:=
  match P.underlying t with
  |some (.struct _)=> ∃cs,s= .agg cs/\f0a P n t d cs
  |some (.array _ _)=> ∃cs,s= .agg cs/\f0a P n t d cs
  |_=>f0a P n t d [s]
section
variable {H : Type} {enc : TypeId × Value -> H} {P : Program} {w : World}
theorem C0z {r:Reach} {b0:Nat} {v:Value} {d:DataW H} {ps:List MemPlace} (hp:n0s P n t=yB)(hval:Value.okWide P w r b0 t v)(hd:DataW.Trod enc P w 0 (λ_=>yB) yB t v d ps):
    ∃s,Rep w (KW w) (λ_=>none) v s/\l0G P n t d s:=by
  obtain⟨fuel,hf⟩:=hd;obtain⟨ss,hcr,hpl,hsh⟩:=v0e n t fuel _ _ hp hf
  have p0Z:v.cells= #[v]->(∀ss,f0a P n t d ss-> ∃s,ss=[s])->(∀s,f0a P n t d [s]->l0G P n t d s)-> ∃s,Rep w (KW w) (λ_=>none) v s/\l0G P n t d s:=by
    intro hc h1 h2;obtain⟨s,rfl⟩:=h1 ss hsh;exact⟨s,hcr.rep 0 v s (by rw[hc];rfl) rfl,h2 s hsh⟩
  cases n with
  |zero=>simp[n0s]at hp
  |succ n=>
    have hp':=hp;unfold n0s at hp;split at hp;rename_i hu;obtain⟨b,rfl⟩:=okWide_bool hu hval;refine p0Z rfl (λss h=> ?_) (λs h=>by unfold l0G;rw[hu];exact h);unfold f0a at h;rw[hu]at h;obtain⟨b,_,rfl⟩:=h;exact⟨_,rfl⟩;rename_i k hu;obtain⟨b,rfl⟩:=okWide_int hu hval;refine p0Z rfl (λss h=> ?_) (λs h=>by unfold l0G;rw[hu];exact h);unfold f0a at h;rw[hu]at h;obtain⟨b,_,rfl,_⟩:=h;exact⟨_,rfl⟩;rename_i hu;obtain⟨b,rfl⟩:=okWide_string hu hval;refine p0Z rfl (λss h=> ?_) (λs h=>by unfold l0G;rw[hu];exact h);unfold f0a at h;rw[hu]at h;obtain⟨b,_,rfl⟩:=h;exact⟨_,rfl⟩;rename_i e hu;obtain⟨a,len,cap,rfl⟩:=okWide_slice hu hval;refine p0Z rfl (λss h=> ?_) (λs h=>by unfold l0G;rw[hu];exact h);unfold f0a at h;rw[hu]at h;rcases h with⟨_,rfl⟩|⟨_,_,_,_,rfl,_⟩;exact⟨_,rfl⟩;exact⟨_,rfl⟩;rename_i fs hu;unfold Value.okWide at hval;rw[hu]at hval;obtain⟨cs,rfl,_,_⟩:=hval;refine⟨.agg ss, ?_,by unfold l0G;rw[hu];exact⟨ss,rfl,hsh⟩⟩;have:=Rep.agg _ _ hcr.len hcr.one hcr.rep;simpa [Value.cells]using this;rename_i m e hu;unfold Value.okWide at hval;rw[hu]at hval;obtain⟨cs,rfl,_,_⟩:=hval;refine⟨.agg ss, ?_,by unfold l0G;rw[hu];exact⟨ss,rfl,hsh⟩⟩;have:=Rep.agg _ _ hcr.len hcr.one hcr.rep;simpa [Value.cells]using this;cases hp
theorem B0F {r:Reach} {b0:Nat} : ∀(ts:List TypeId) (vs:List Value) (ds:List (DataW H)) (ps:List MemPlace),(∀t∈ts,n0s P n t=yB)->
    (∀(j:Nat) t v,ts[j]?=qB t->vs[j]?=qB v->Value.okWide P w r b0 t v)->DataW.TrodAll enc P w 0 (λ_=>yB) yB ts vs ds ps->
    ∃ss:List SV,ss.length=vs.length/\ds.length=ts.length/\ss.length=ts.length/\(∀(j:Nat) x c,vs[j]?=qB x->ss[j]?=qB c->Rep w (KW w) (λ_=>none) x c)/\
      (∀(j:Nat) t d s,ts[j]?=qB t->ds[j]?=qB d->ss[j]?=qB s->l0G P n t d s):=by
  intro ts
  induction ts with
  |nil=>
    intro vs ds ps _ _ h;cases vs<;>cases ds<;>first|exact⟨[],rfl,rfl,rfl,λj x c e=>by simp at e,λj t d s e=>by simp at e⟩|exact h.elim
  |cons t ts ih=>
    intro vs ds ps hp hv h
    cases vs with
    |nil=>cases ds<;>exact h.elim
    |cons v vs=>
      cases ds with
      |nil=>exact h.elim
      |cons d ds=>
        obtain⟨p,q,h1,h2,_⟩:=h;obtain⟨s,hr,hs⟩:=C0z (hp t (aw ..)) (hv 0 t v rfl rfl) h1;obtain⟨ss,i1,i2,i3,i4,i5⟩:=ih vs ds q (λt ht=>hp t (ao _ ht)) (λj t v ht hvv=>hv (j+1) t v (by simpa using ht) (by simpa using hvv)) h2;refine⟨s::ss,by simp[i1],by simp[i2],by simp[i3],λj x c hx hc=> ?_,λj t' d' s' ht hd hs'=> ?_⟩
        cases j with
        |zero=>simp at hx hc;subst hx;subst hc;exact hr
        |succ j=>exact i4 j x c (by simpa using hx) (by simpa using hc)
        cases j with
        |zero=>simp at ht hd hs';subst ht;subst hd;subst hs';exact hs
        |succ j=>exact i5 j t' d' s' (by simpa using ht) (by simpa using hd) (by simpa using hs')
theorem G0l:HInv w (KW w) (λ_=>none) []:=
  ⟨λ_ _=>rfl,λi en h=>by simp at h,λi j en en' b c n c' n' h=>by simp at h,N0a w⟩
theorem not_mem_nil {D:DM} {b:Nat} : ¬Mem D [] b:=fun⟨i,en,c,n,h,_⟩=>by simp at h
theorem D0J {vals:List Value} {ss:List SV} (hl:ss.length=vals.length)(hr: ∀(j:Nat) x c,vals[j]?=qB x->ss[j]?=qB c->Rep w (KW w) (λ_=>none) x c)(h:SC P f ss [] (.bool yB) H')(hG:m0E w (KW w) λ_=>none):
    Calls P f vals.toArray w λe w'=>e= .returned (.bool yB)/\Below w.heap.size w w':=by
  refine(h.2 w (KW w) (λ_=>none) vals hl.symm hr G0l hG).mono ?_;rintro e w' ⟨r,rfl,K',D',g,_,hrep⟩;cases hrep;exact⟨rfl,g.os,g.tape,g.output,g.size,λk hk=>g.block k hk not_mem_nil⟩
theorem u0W {W W':World} (hl:laidOutB P=yB)(hb:Below W.heap.size W W'): ∀(ts:List TypeId) (vs:List Value) (ds:List (DataW H)) (ps:List MemPlace),(∀t∈ts,P.readableRec t=yB/\t<P.types.size)->
    DataW.TrodAll enc P W 0 (λ_=>yB) yB ts vs ds ps->(∀x∈ps,x.block<W.heap.size)->DataW.TrodAll enc P W' 0 (λb=>wB (b<W.heap.size)) yB ts vs ds ps:=by
  intro ts
  induction ts with
  |nil=>intro vs ds ps _ h _;cases vs<;>cases ds<;>first|exact h|exact h.elim
  |cons t ts ih=>
    intro vs ds ps ht h hps
    cases vs with
    |nil=>cases ds<;>exact h.elim
    |cons v vs=>
      cases ds with
      |nil=>exact h.elim
      |cons d ds=>
        obtain⟨p,q,h1,h2,rfl⟩:=h;obtain⟨r1,r2⟩:=ht t (aw ..);exact⟨p,q,Below.trod hl r1 r2 h1 hb (λx hx=>hps x (au.2 (.inl hx))),ih vs ds q (λt hm=>ht t (ao _ hm)) h2 (λx hx=>hps x (au.2 (.inr hx))),rfl⟩
theorem G0f {fn:Func} {s:ChangeSpec} {tb:TypeId} (hl:laidOutB P=yB)(htb:P.underlying tb=qB .bool)(hrt:fn.resultTypes= #[tb])(hv:s.vars=[])
    (hplain:fn.params.toList.all (λt=>n0s P n t&&P.readableRec t&&wB (t<P.types.size))=yB)
    {W:World} {args:Array Value} {ds gs:List (DataW H)} {before:List MemPlace}
    (hspec:ds.length=fn.params.toList.length->(s.fn H ds).results=[.lit (.bool yB)]/\(s.fn H ds).args=ds/\(s.fn H ds).vars=[])
    (hval: ∀(j:Nat) t v,fn.params[j]?=qB t->args[j]?=qB v->Value.okWide P W .any base t v)
    (hW:DataW.Whole enc P fn.params.toList s.vars vB W args.toList ds gs before)
    (main: ∀ss:List SV,gs=[]->ds.length=fn.params.toList.length->ss.length=fn.params.toList.length->(∀(j:Nat) t d x,fn.params.toList[j]?=qB t->ds[j]?=qB d->ss[j]?=qB x->l0G P n t d x)-> ∃H',SC P f ss [] (.bool yB) H') (hG:m0E W (KW W) λ_=>none):
    Calls P f args W λe W'=> ∃v,e= .returned v/\s.post enc P fn vB yB vB vB W args v W':=by
  have hW':=hW;obtain⟨p,q,hA,hV,rfl,_,_⟩:=hW;rw[hv]at hV;obtain⟨rfl,rfl⟩:=trodVars_none hV;simp only[vD,aa,decide_eq_true_eq]at hplain;obtain⟨ss,l1,l2,l3,hr,hs⟩:=B0F (P:=P) (w:=W) (n:=n) fn.params.toList args.toList ds p (λt ht=>(hplain t ht).1.1) (λj t v ht hvv=>hval j t v (by simpa using ht) (by simpa using hvv)) hA;obtain⟨H',hm⟩:=main ss rfl l2 l3 hs;have hc:=D0J (P:=P) (f:=f) l1 hr hm hG;have ha:args.toList.toArray=args:=by simp
  rw[ha]at hc;refine hc.mono λe W' ⟨he,hb⟩=> ?_
  obtain⟨e1,e2,e3⟩:=hspec l2;refine⟨_,he,ds,[],_,[],p++ [],[],hW', ?_, ?_, ?_,hb.frame _,λh=>by cases h⟩;rw[bG,e1,hrt];exact trodAll_mk1 (shut_bool htb _);rw[bG,e2,bG];exact u0W hl hb _ _ _ _ (λt ht=>⟨(hplain t ht).1.2,(hplain t ht).2⟩) hA (λx hx=>by have:=hW'.lt x (by simpa using hx);simpa using this);rw[bG,e3,hv];rfl
end
end
section
variable [Inhabited GT]
/-! Loops. -/
section
variable {S O : Type} {step : S -> Option (S ⊕ O)}
theorem h0g {s s':S} (h:step s=qB (.inl s')):a0n step (n+1) s=a0n step n s':=by
  simp only[a0n,h]
theorem k0i {s:S} {o:O} (h:step s=qB (.inr o)):a0n step (n+1) s=qB o:=by
  simp only[a0n,h]
theorem D0t(I:S->Prop)(g:S->Nat)(post:O->Prop)(hs: ∀s,I s->(∃s',step s=qB (.inl s')/\I s'/\g s'<g s)\/(∃o,step s=qB (.inr o)/\post o)):
    ∀(n:Nat) (s:S),I s->g s<n-> ∃o,a0n step n s=qB o/\post o:=by
  intro n
  induction n with
  |zero=>intro s _ h;omega
  |succ n ih=>
    intro s hi hg;rcases hs s hi with⟨s',h1,h2,h3⟩|⟨o,h1,h2⟩;rw[h0g h1];exact ih s' h2 cV;exact⟨o,k0i h1,h2⟩
end
theorem J0D (h:n<18446744073709551616):n<big:=h
theorem w64 {n:Int} (h1: -9223372036854775808<=n)(h2:n<=9223372036854775807):IntKind.i64.wrap n=n:=by
  unfold oA;simp only[wH,jI,ck,cw,aF,if_false,decide_eq_true_eq]
  first|omega|(split<;>rename_i hc<;>simp at hc<;>omega)
theorem w8 {n:Int} (h1:0<=n)(h2:n<=255):IntKind.u8.wrap n=n:=by
  unfold oA;simp only[wH,jI,ck,cw,aF,if_false,decide_eq_true_eq]
  first|omega|(split<;>rename_i hc<;>simp at hc<;>omega)
theorem m0f (h:i<n):inR (i:Int) n=true:=g0X.2 ⟨cV,cV⟩
theorem a0c {i:Int} (h1:0<=i)(h:i<n):inR i n=true:=g0X.2 ⟨h1,h⟩
theorem t0p [Inhabited T] {xs:List T} (h:i<xs.length):nth xs (i:Int)=xs[i]:=by
  unfold nth;rw[bA,am,af h];rfl
theorem F0C (h:n<=140737488400000):o0F n=true:=by simp[o0F,ca,h]
theorem a0f (h:n<=4294967296):room n=true:=by simp[room,ca,h]
theorem k0K (h1:0<=l)(h2:l<=h)(h3:h<=n):inS l h n=true:=n0J.2 ⟨h1,h2,h3⟩
theorem K0M {c:Int} (h1:0<=l)(h2:l<=c)(h3:c<=4294967296):mk l c=true:=G0Z.2 ⟨h1,h2,h3⟩
theorem dT {p:Prop} [Decidable p](h:p):wB p=true:=decide_eq_true h
theorem dF {p:Prop} [Decidable p](h: ¬p):wB p=false:=decide_eq_false h
/-! Parameters. -/
section
open Go.ChangeShapes Go.WideShapes Go.ChangeAt
variable {P : Program} {H : Type}
def s0k(P:Program) {H:Type} (t:TypeId)(d:DataW H):Prop:= ∀n∈d.weights P t,n<=reachBytes
theorem y0p {ts:List TypeId} {ds:List (DataW H)} (h:(DataW.weightsEach P ts ds).all (· <=reachBytes)=yB) {j:Nat} {d:DataW H} (ht:ts[j]?=qB t)(hd:ds[j]?=qB d):s0k P t d:=
  λn hn=>by
    have:=List.all_eq_true.1 h _ (DataW.weights_mem_each ht hd n hn);simpa using this
theorem k0S {e:TypeId} {n:Nat} : ∀(l:List (DataW H)) (y:DataW H),y∈l->n∈y.weights P e->n∈DataW.weightsAll P e l
  | [],y,h,_=>by cases h
  |x::l,y,h,hn=>by
    simp only[DataW.weightsAll,au];rcases aS.1 h with rfl|h;exact .inl hn;exact .inr (k0S l y h hn)
theorem F0p {e:TypeId} {elems rest:List (DataW H)} (hu:P.underlying t=qB (.slice e))(h:s0k P t (.slice elems rest)) {y:DataW H} (hy:y∈elems):s0k P e y:=λn hn=>by
  refine h n ?_;simp only[DataW.weights,hu,aS,au];exact .inr (.inl (k0S elems y hy hn))
theorem C0x {e:TypeId} {elems rest:List (DataW H)} (hu:P.underlying t=qB (.slice e))(hb:0<P.bytesOf e)(h:s0k P t (.slice elems rest)):elems.length<=140737488355328:=by
  have h1:=h ((elems.length+rest.length)*P.bytesOf e) (by simp[DataW.weights,hu]);have h2:=reachBytes_lt;have h3:elems.length<=(elems.length+rest.length)*P.bytesOf e:=aG (Nat.le_add_right _ _) (Nat.le_mul_of_pos_right _ hb);omega
theorem A0K {parts:List (DataW H)} (hu:P.underlying t=qB (.struct fs))(h:s0k P t (.agg parts)) {f:Field} {p:DataW H} (hf:fs[i]?=qB f)(hp:parts[i]?=qB p):s0k P f.type p:=λn hn=>by
  refine h n ?_;simp only[DataW.weights,hu];exact DataW.weights_mem_each (j:=i) (by simp[hf]) hp n hn
def q0S(P:Program)(n:Nat)(t:TypeId) (enc:T->List SV)(Wf:T->Prop):Prop:= ∀ {H:Type} (d:DataW H) (cs:List SV),f0a P n t d cs->s0k P t d-> ∃x:T,cs=enc x/\Wf x
def WfL (Wf:T->Prop)(zs:List T):Prop:=zs.length<=140737488355328/\ ∀z∈zs,Wf z
def WfI(k:IntKind)(z:Int):Prop:=(Lit.int k z).wf=yB
def WfB(_:Bool):Prop:=True
def WfT(s:List UInt8):Prop:=s.length<=140737488355328
theorem c0B {k:IntKind} (hu:P.underlying t=qB (.int k)):q0S P (n+1) t (a0l k) (WfI k):=λd cs h _=>by
  unfold f0a at h;rw[hu]at h;obtain⟨z,_,h2,hw⟩:=h;exact⟨z,h2,hw⟩
theorem o0l (hu:P.underlying t=qB .bool):q0S P (n+1) t G0t WfB:=λd cs h _=>by
  unfold f0a at h;rw[hu]at h;obtain⟨z,_,h2⟩:=h;exact⟨z,h2,trivial⟩
theorem g0y (hu:P.underlying t=qB .string):q0S P (n+1) t t0T WfT:=λd cs h hs=>by
  unfold f0a at h;rw[hu]at h;obtain⟨z,h1,h2⟩:=h;subst h1;refine⟨z,h2, ?_⟩;have h3:=hs z.length (by simp[DataW.weights]);have h4:=reachBytes_lt;unfold WfT;omega
theorem l0e {enc:T->List SV} {Wf:T->Prop} {e:TypeId} (hu:P.underlying t=qB (.slice e)) (hc:P.cellsOf e=k)(hb:qE 0 (P.bytesOf e)=yB)(hel:q0S P n e enc Wf):
    q0S P (n+1) t (k0y enc k) (WfL Wf):=λ{H} d cs h hs=>by
  unfold f0a at h;rw[hu]at h;simp only at h;rcases h with⟨rfl,h2⟩|⟨elems,rest,xs,rfl,h2,hl,hx,hall⟩;exact⟨[],by rw[h2,hc];rfl,dB,λz hz=>(by cases hz)⟩;rw[hc]at h2;have hlen:=C0x hu (by simpa [cQ]using hb) hs
  have key: ∀(xs:List (List SV)) (elems:List (DataW H)),(∀y∈elems,s0k P e y)->xs.length=elems.length->(∀(i:Nat) y x,elems[i]?=qB y->xs[i]?=qB x->f0a P n e y x)-> ∃zs:List T,xs.flatten=zs.flatMap enc/\(∀z∈zs,Wf z)/\elems.length=zs.length:=by
    intro xs
    induction xs with
    |nil=>intro elems _ hl _;exact⟨[],rfl,λz hz=>(by cases hz),by simpa using hl.symm⟩
    |cons x xs ih=>
      intro elems hsz hl h
      cases elems with
      |nil=>simp at hl
      |cons y elems=>
        obtain⟨zs,e1,e2,e3⟩:=ih elems (λy hy=>hsz y (ao _ hy)) (by simpa using hl) (λi y x hy hx=>h (i+1) y x (by simpa using hy) (by simpa using hx));obtain⟨z,rfl,hw⟩:=hel y x (h 0 y x rfl rfl) (hsz y (aw ..));refine⟨z::zs,by simp[e1],λz' hz'=> ?_,by simp[e3]⟩;rcases aS.1 hz' with rfl|hm;exact hw;exact e2 _ hm
  obtain⟨zs,e1,e2,e3⟩:=key xs elems (λy hy=>F0p hu hs hy) hl hall;exact⟨zs,by rw[h2,e1];unfold k0y;rw[hl,e3],cV,e2⟩
theorem v0f {d:DataW H} (hu:P.underlying t=qB (.struct fs))(h:l0G P n t d s): ∃cs,s= .agg cs/\f0a P n t d cs:=by
  unfold l0G at h;rw[hu]at h;exact h
theorem a0s {d:DataW H} (hu:P.underlying t=qB (.struct fs))(h:f0a P (n+1) t d cs)(hs:s0k P t d)(i:Nat)(ty:TypeId)(cs':List SV)
    (hf:(fs[i]?).map (λf=>(f.type,(cs.drop f.offset).take (P.cellsOf f.type)))=qB (ty,cs')): ∃p:DataW H,f0a P n ty p cs'/\s0k P ty p:=by
  unfold f0a at h;rw[hu]at h;obtain⟨_,parts,rfl,hl,hall⟩:=h
  cases hfi:fs[i]? with
  |none=>rw[hfi]at hf;cases hf
  |some f=>
    rw[hfi]at hf;simp only[aT,ah,aD]at hf;obtain⟨rfl,rfl⟩:=hf;have hi:=(ak.1 hfi).1;have hi':i<parts.length:=by omega
    exact⟨parts[i],hall i f _ hfi (af hi'),A0K hu hs hfi (af hi')⟩
theorem i0C {d:DataW H} (hu:P.underlying t=qB (.struct fs))(h:f0a P (n+1) t d cs):cs.length=P.cellsOf t:=by
  unfold f0a at h;rw[hu]at h;exact h.1
theorem o0m {m:Nat} {e:TypeId} {d:DataW H} (hu:P.underlying t=qB (.array m e))(h:f0a P (n+1) t d cs)(hs:s0k P t d)(i:Nat)(cs':List SV)(hi:qE i m=yB)
    (hf:(cs.drop (i*P.cellsOf e)).take (P.cellsOf e)=cs'): ∃p:DataW H,f0a P n e p cs'/\s0k P e p:=by
  unfold f0a at h;rw[hu]at h;obtain⟨_,parts,rfl,hl,hall⟩:=h;have hi':i<parts.length:=by rw[hl];simpa [cQ]using hi
  refine⟨parts[i],by rw[<-hf];exact hall i _ (af hi'),λn hn=>hs n ?_⟩;simp only[DataW.weights,hu];exact k0S parts _ (cz hi') hn
theorem A0L {m:Nat} {e:TypeId} {d:DataW H} (hu:P.underlying t=qB (.array m e))(h:f0a P (n+1) t d cs):cs.length=P.cellsOf t:=by
  unfold f0a at h;rw[hu]at h;exact h.1
end
theorem l1 {l:List α} (h:l.length=1): ∃a,l=[a]:=by
  match l,h with
  | [a],_=>exact⟨a,rfl⟩
theorem l2 {l:List α} (h:l.length=2): ∃a b,l=[a,b]:=by
  match l,h with
  | [a,b],_=>exact⟨a,b,rfl⟩
theorem l3 {l:List α} (h:l.length=3): ∃a b c,l=[a,b,c]:=by
  match l,h with
  | [a,b,c],_=>exact⟨a,b,c,rfl⟩
end
section
variable [Inhabited GT]
def o0h [DecidableEq α](x y:Option α):Option α:=if x=y then y else none
theorem L0F [DecidableEq α] {e:Bool} {x y:Option α} {r:α} (he:e=yB)(h:(bif e then o0h x y else y)=qB r):x=qB r:=by
  subst he;simp only[oC,o0h]at h;split at h;rename_i hxy;rw[hxy];exact h;cases h
theorem L0G [DecidableEq α] {e:Bool} {x y:Option α} {r:α} (h:(bif e then o0h x y else y)=qB r):y=qB r:=by
  cases e with
  |false=>exact h
  |true=>
    simp only[oC,o0h]at h;split at h;exact h;cases h
/-! A map is asked for a key that isn't known. -/
def C0C(k key:SV)(b:Bool):Bool:=match k0U k key with
  |some x=>x==b
  |none=>vB
def L0e(k:SV):List (SV×SV)->Nat->Bool
  | [],_=>vB
  |e::_,0=>C0C k e.1 yB
  |e::r,j+1=>C0C k e.1 vB&&L0e k r j
def F0X(k:SV):List (SV×SV)->Bool
  | []=>yB
  |e::r=>C0C k e.1 vB&&F0X k r
theorem q0Y {k key:SV} (h:C0C k key b=yB):k0U k key=qB b:=by
  unfold C0C at h;split at h;rename_i x hx;simp at h;subst h;exact hx;cases h
theorem A0i {k:SV} : ∀(es:List (SV×SV)) (j:Nat) {e:SV×SV},es[j]?=qB e->L0e k es j=yB->g0Y es k=qB (qB e.2)
  | [],j,e,h,_=>by simp at h
  |x::es,0,e,h,hc=>by
    simp only[ci,ah]at h;subst h;simp only[L0e]at hc;simp only[g0Y,q0Y hc]
  |x::es,j+1,e,h,hc=>by
    simp only[L0e,aa]at hc;simp only[g0Y,q0Y hc.1];exact A0i es j (by simpa using h) hc.2
theorem x0i {k:SV} : ∀(es:List (SV×SV)),F0X k es=yB->g0Y es k=qB none
  | [],_=>rfl
  |x::es,hc=>by
    simp only[F0X,aa]at hc;simp only[g0Y,q0Y hc.1];exact x0i es hc.2
def I0E(P:Program)(o:Oper)(ρ:Env)(H:a0e)(j:Option Nat):Option (Eff×Bool):=
  match o.op with
  | .lookup t m k ok=>match P.underlying t,a0G ρ m,a0G ρ k with
    |some (.map kt et),qB (.mp i),qB sk=>match H[i]? with
      |some (.map es)=>if t0y P kt sk=yB then(match j with
        |some j=>match es[j]? with
          |some e=>qB (⟨m0v ok e.2 yB,[i],[]⟩,L0e sk es j)
          |none=>none
        |none=>match A0A P et with
          |some z=>qB (⟨m0v ok z vB,[i],[]⟩,F0X sk es)
          |none=>none)else none
      |_=>none
    |_,_,_=>none
  |_=>none
theorem y0P {k:SV} (h:t0y P kt k=yB):t0z P kt k=yB/\p0E P kt es k=g0Y es k:=by
  cases k<;>first|exact⟨h,rfl⟩|(exfalso;unfold t0y at h;split at h<;>simp_all)
theorem y0O {H:a0e} {idx:Nat} {j:Option Nat} (h:I0E P o ρ H j=qB (ef,b))(hb:b=yB):a0H P o ρ H idx=qB ef:=by
  unfold I0E at h;split at h;rename_i t m k ok ho;split at h;rename_i kt et i sk hu hm hk;split at h;rename_i es hH;split at h;rename_i hkey
  have fin:k0Y P t (a0G ρ m) (a0G ρ k) ok H=qB ef->a0H P o ρ H idx=qB ef:=by
    intro hl;unfold a0H a0k a0q;simp only[ho];exact hl
  refine fin ?_;unfold k0Y;rw[hu,hm,hk];simp only[hH];obtain⟨hk1,hk2⟩:=y0P (es:=es) hkey;rw[qC hk1,hk2];split at h;rename_i j;split at h;rename_i e he;cases h;rw[A0i es j he hb];cases h;split at h;rename_i z hz;cases h;rw[x0i es hb,hz];cases h;cases h;cases h;cases h;cases h
section
variable {F : Fr} {P : Program} {L : LE} {H : a0e} {Q : g0o} {m : Option Nat} {ops : Array Oper} {p : Nat} {tr : List (List Nat × List Nat)}
def D0z(P:Program)(m:Option Nat)(ops:Array Oper)(p:Nat)(tr:List (List Nat×List Nat))(L:LE)(H:a0e)(j:Option Nat):Option (Option Nat×Eff×Bool×List (List Nat×List Nat)):=
  match ops.toList[p]? with
  |none=>none
  |some o=>match a0Z ops (a0r L) o with
    |some yB=>bif c0d o then none else match I0E P o (a0r L) H j with
      |some (ef,c)=>bif okM m ops p o ef tr H then qB (o.dst,ef,c,trM m ops p o ef tr)else none
      |none=>none
    |_=>none
theorem RJ.look(j:Option Nat) {c:Bool} (h:D0z P m ops p tr L H j=qB (d,ef,c,tr2))(hc:c=yB)(k:RJ F P m ops (p+1) tr2 (g0r L d ef.v) (b0e H ef.wr) Q):RJ F P m ops p tr L H Q:=by
  unfold D0z at h;split at h;cases h;rename_i o ho;split at h;rename_i hg
  cases hcc:c0d o with
  |true=>rw[hcc]at h;cases h
  |false=>
    rw[hcc]at h;simp only[oD]at h;split at h;rename_i ef2 c2 he
    cases hok:okM m ops p o ef2 tr H with
    |false=>rw[hok]at h;cases h
    |true=>
      rw[hok]at h;simp only[oC,ah,aD]at h;obtain⟨rfl,rfl,rfl,rfl⟩:=h;exact RJ.step ho hg hcc (y0O he hc) hok k
    cases h
  cases h
end
section
variable {F : Fr} {P : Program} {L : LE} {H : a0e} {Q : g0o} {ops : Array Oper} {p : Nat} {tr : List (List Nat × List Nat)}
def k0J(P:Program)(t:TypeId):Bool:=match P.underlying t with
  |some (.slice _)=>yB
  |_=>vB
def A0h:Operand->Bool
  | .const (.slice none 0 0)=>yB
  |_=>vB
def I0v(P:Program)(ops:Array Oper)(p:Nat)(L:LE):Option (Nat×Nat×Bool):=
  match ops.toList[p]? with
  |none=>none
  |some o=>match a0Z ops (a0r L) o,o.dst,o.op with
    |some yB,qB d, .binOp op t x y _=>match a0G (a0r L) x with
      |some (.lst n _ _)=>bif k0J P t&&A0h y then(match op with
        | .eql=>qB (d,n,yB)
        | .neq=>qB (d,n,vB)
        |_=>none)else none
      |_=>none
    |_,_,_=>none
theorem w0K {ad:Option Addr} {c:Nat} (ht:k0J P t=yB):(do eqGuard .eql t x y (.slice ad n c) (.slice none 0 0);binOp .eql t (.slice ad n c) (.slice none 0 0):Sem Value).run P w= .ok (.bool ad.isNone) w:=by
  unfold k0J at ht;split at ht;rename_i e hu;rw[p0p _ _ (by rfl)];simp only[binOp,yD,run_equal_slice_nil w t e ad n c hu,jD,vE];cases ht
theorem u0s {ad:Option Addr} {c:Nat} (ht:k0J P t=yB):(do eqGuard .neq t x y (.slice ad n c) (.slice none 0 0);binOp .neq t (.slice ad n c) (.slice none 0 0):Sem Value).run P w= .ok (.bool !ad.isNone) w:=by
  unfold k0J at ht;split at ht;rename_i e hu;rw[p0p _ _ (by rfl)];simp only[binOp,yD,run_equal_slice_nil w t e ad n c hu,jD,vE];cases ht
theorem RJ.isNil {d:Nat} {eq:Bool} (h:I0v P ops p L=qB (d,n,eq))(k: ∀b:Bool,(b=yB->n=0)->RJ F P none ops (p+1) tr ((d, .bool (bif eq then b else !b))::L) H Q):RJ F P none ops p tr L H Q:=by
  unfold I0v at h;split at h
  cases h
  · rename_i o ho
    split at h
    · rename_i d2 op t x y u hg hd ho2
      split at h
      · rename_i n2 k2 cs hx
        cases hty:(k0J P t&&A0h y)with
        |false=>rw[hty]at h;cases h
        |true=>
          rw[hty]at h;simp only[aa]at hty;obtain⟨ht,hy⟩:=hty;intro hin a w hs;have hbo:Oper.inB F.n ops o=true:=List.all_eq_true.1 hin o (p0d ho);obtain⟨hdf,K,D,hi⟩:=hs;rw[e0C ho];refine wpList_step λKK hKK=> ?_
          rw[b0I hi.slots (Oper.inB_guard hbo) hg,qC rfl]
          have hxb:Operand.inB F.n x=true:=by
            have h1:=Oper.inB_op hbo;unfold Op.inB at h1;rw[aQ]at h1;exact h1 x (by simp[ho2,oB])
          have hr:=a0i hi.slots hxb hx
          have hyv:a.eval y= .slice none 0 0:=by
            cases y with
            |const v=>cases v<;>first|(cases hy;done)|(rename_i a1 b1 c1;cases a1<;>first|(cases hy;done)|(cases b1<;>first|(cases hy;done)|(cases c1<;>first|(cases hy;done)|rfl)))
            |_=>cases hy
          have hv: ∃ad c,a.eval x= .slice ad n2 c/\(ad.isNone=yB->n2=0):=by
            generalize a.eval x=v at hr
            cases hr with
            |emp k a cap=>exact⟨a,cap,rfl,λ_=>rfl⟩
            |lst k b off len cap vs cs hk hl hc hcap hm hK h1 hp hh=>exact⟨_,_,rfl,λh=>by cases h⟩
          obtain⟨ad,c,hv,hnn⟩:=hv
          have fin: ∀(b:Bool),(execOp a.eval o).run P w= .ok (.value (.bool b)) w->(d2,n2,eq)=(d,n,eq)->(∃b0:Bool,b=(bif eq then b0 else !b0)/\(b0=yB->n=0))->Oper.wp P o a w KK Q:=by
            rintro b hrun hdn ⟨b0,rfl,hb0⟩;simp only[aD,and_true]at hdn;obtain⟨rfl,rfl⟩:=hdn;unfold Oper.wp;rw[hrun];refine hKK _ _ (k b0 hb0 hin _ w ⟨by rw[a0O];exact hdf,K,D, ?_,hi.hinv,hi.grow⟩);have h9:=hi.slots.put (qB d2) (s:= .bool (bif eq then b0 else !b0)) (.bool _);rw[b0g]at h9;rw[hd];exact h9
          have hex:execOp a.eval o=(do pure (Next.value (<-(do eqGuard op t x y (a.eval x) (a.eval y);binOp op t (a.eval x) (a.eval y):Sem Value)))):=by unfold execOp;rw[ho2]
          simp only[oC]at h;split at h;cases h;refine fin ad.isNone ?_ rfl ⟨ad.isNone,rfl,hnn⟩;rw[hex,hv,hyv];exact b0q (w0K ht);cases h;refine fin (!ad.isNone) ?_ rfl ⟨ad.isNone,rfl,hnn⟩;rw[hex,hv,hyv];exact b0q (u0s ht);cases h
      cases h
    cases h
end
section
variable {F : Fr} {P : Program} {m : Option Nat} {L : LE} {H : a0e} {Q : g0o} {ops : Array Oper} {p : Nat} {tr : List (List Nat × List Nat)}
theorem RJ.pin(t:Nat) {kd:IntKind} {c:Int} (ht:lk L t= .int kd j)(hj:j=c)(h:RJ F P m ops p tr ((t, .int kd c)::L) H Q):RJ F P m ops p tr L H Q:=by
  subst hj
  have he:a0r ((t, .int kd j)::L)=a0r L:=by
    funext i;show lk ((t, .int kd j)::L) i=lk L i;simp only[lk]
    cases hb:vC i t with
    |false=>rfl
    |true=>
      have:=ae hb;subst this;rw[ht];rfl
  cases m with
  |none=>
    intro hall a w hs;exact h hall a w (by unfold Sees at hs⊢;rw[he];exact hs)
  |some base=>
    intro hl;have:=h hl;rw[he]at this;exact this
end
/-! Maps whose entries are a list of natives. -/
def d0r {K:Type} (ek:K->SV)(ev:V->SV)(ms:List (K×V)):List (SV×SV):=ms.map λp=>(ek p.1,ev p.2)
def j0e {K V:Type} (eq:K->K->Bool):List (K×V)->K->Option V
  | [],_=>none
  |p::r,k=>bif eq k p.1 then qB p.2 else j0e eq r k
theorem f0y {K:Type} {ek:K->SV} {ev:V->SV} (h1: ∀f a,SV.rn f (ek a)=ek a)(h2: ∀f b,SV.rn f (ev b)=ev b)(f:Nat->Nat)(ms:List (K×V)):Ent.rn f (.map (d0r ek ev ms))= .map (d0r ek ev ms):=by
  simp only[Ent.rn,d0r,bW];congr 1;exact bB λp _=>by simp[h1,h2]
theorem d0L {K:Type} {ek:K->SV} {ev:V->SV} (h1: ∀m a,SV.refs m (ek a)=yB)(h2: ∀m b,SV.refs m (ev b)=yB)(m:Nat)(ms:List (K×V)):Ent.refs m (.map (d0r ek ev ms))=true:=by
  simp[Ent.refs,d0r,h1,h2]
theorem u0J {P:Program} {kt:TypeId} {K V:Type} {ek:K->SV} {ev:V->SV} {eq:K->K->Bool} (heq: ∀a b,eqS P 9 kt (ek a) (ek b)=qB (eq a b))(x:K): ∀ms:List (K×V),m0O P kt (ek x) (d0r ek ev ms)=qB ((j0e eq ms x).map ev)
  | []=>rfl
  |p::ms=>by
    have ih:=u0J (ev:=ev) heq x ms;simp only[d0r,al,m0O,heq,j0e]at ih⊢
    cases eq x p.1 with
    |true=>rfl
    |false=>exact ih
section
variable {F : Fr} {P : Program} {m : Option Nat} {L : LE} {H : a0e} {Q : g0o} {ops : Array Oper} {p : Nat} {tr : List (List Nat × List Nat)}
def D0x(P:Program)(o:Oper)(ρ:Env)(H:a0e):Option (TypeId×Nat×List (SV×SV)×List SV×SV×Bool):=
  match o.op with
  | .lookup t m k ok=>match P.underlying t,a0G ρ m,a0G ρ k with
    |some (.map kt et),qB (.mp i),qB (.agg cs)=>match H[i]?,A0A P et with
      |some (.map es),qB z=>if t0z P kt (.agg cs)=yB then qB (kt,i,es,cs,z,ok)else none
      |_,_=>none
    |_,_,_=>none
  |_=>none
theorem x0s {idx:Nat} {z:SV} {ok:Bool} (h:D0x P o ρ H=qB (kt,i,es,cs,z,ok)) {r:Option SV} (hf:m0O P kt (.agg cs) es=qB r):
    a0H P o ρ H idx=qB ⟨m0v ok (r.getD z) r.isSome,[i],[]⟩:=by
  unfold D0x at h
  split at h
  · rename_i t m k ok' ho
    split at h
    · rename_i kt' et i' cs' hu hm hk
      split at h
      · rename_i es' z' hH hz
        split at h<;>cases h
        rename_i hkey;unfold a0H a0k a0q;simp only[ho];unfold k0Y;rw[hu,hm,hk];simp only[hH];rw[qC hkey];have:p0E P kt es (.agg cs)=qB r:=hf;rw[this,hz];cases r<;>rfl
      cases h
    cases h
  cases h
def D0y(P:Program)(m:Option Nat)(ops:Array Oper)(p:Nat)(tr:List (List Nat×List Nat))(L:LE)(H:a0e):Option (Option Nat×TypeId×Nat×List (SV×SV)×List SV×SV×Bool×List (List Nat×List Nat)):=
  match ops.toList[p]? with
  |none=>none
  |some o=>match a0Z ops (a0r L) o with
    |some yB=>bif c0d o then none else match D0x P o (a0r L) H with
      |some (kt,i,es,cs,z,ok)=>bif okM m ops p o ⟨.undef,[i],[]⟩ tr H then qB (o.dst,kt,i,es,cs,z,ok,trM m ops p o ⟨.undef,[i],[]⟩ tr)else none
      |none=>none
    |_=>none
theorem RJ.lookD {K:Type} (ek:K->SV)(ev:V->SV)(eq:K->K->Bool)(ms:List (K×V))(x:K)(zv:V) {ok:Bool}
    (h:D0y P m ops p tr L H=qB (d,kt,i,d0r ek ev ms,cs,ev zv,ok,tr2)) (hcs:SV.agg cs=ek x) (heq: ∀a b,eqS P 9 kt (ek a) (ek b)=qB (eq a b))
    (k:RJ F P m ops (p+1) tr2 (g0r L d (m0v ok (ev ((j0e eq ms x).getD zv)) (j0e eq ms x).isSome)) H Q):RJ F P m ops p tr L H Q:=by
  unfold D0y at h;split at h
  cases h
  · rename_i o ho
    split at h
    · rename_i hg
      cases hcc:c0d o with
      |true=>rw[hcc]at h;cases h
      |false=>
        rw[hcc]at h;simp only[oD]at h
        split at h
        · rename_i kt2 i2 es2 cs2 z2 ok2 he
          cases hok:okM m ops p o ⟨.undef,[i2],[]⟩ tr H with
          |false=>rw[hok]at h;cases h
          |true=>
            rw[hok]at h;simp only[oC,ah,aD]at h;obtain⟨rfl,rfl,rfl,rfl,rfl,rfl,rfl,rfl⟩:=h;have hf:=u0J (ev:=ev) heq x ms;rw[<-hcs]at hf;have hs:=x0s (idx:=H0i m ops p H) he hf;have e1:((j0e eq ms x).map ev).getD (ev zv)=ev ((j0e eq ms x).getD zv):=by cases j0e eq ms x<;>rfl
            have e2:((j0e eq ms x).map ev).isSome=(j0e eq ms x).isSome:=by cases j0e eq ms x<;>rfl
            rw[e1,e2]at hs;exact RJ.step ho hg hcc hs hok k
        cases h
    cases h
end
section
variable {F : Fr} {P : Program} {c : Code} {L : LE} {H : a0e} {Q : g0o} {m : Option Nat} {ops : Array Oper} {p : Nat} {tr : List (List Nat × List Nat)}
/-! The rules under short names; the kernel checks their conditions. -/
theorem kE(h:PJ F Q .normal L H)(hp:qD ops.size p=true:=by kernel_rfl):RJ F P m ops p tr L H Q:=RJ.end hp h
theorem kEN {c:Code} {Q:g0o} (h:J F P c L H Q)(hp:qD ops.size p=true:=by kernel_rfl):RJ F P m ops p tr L H (l0K F P c Q):=RJ.end hp (PJ.next h)
theorem kS(k:J F P (cl c) L H (l0K F P (cr c) Q))(h:s0g c=true:=by kernel_rfl):J F P c L H Q:=K.seq h k
theorem kR(k:RJ F P none (h0V c) 0 [] L H Q)(h:o0I vB c=true:=by kernel_rfl):J F P c L H Q:=K.region h k
theorem kSR(k:RJ F P none (h0V (cl c)) 0 [] L H (l0K F P (cr c) Q))(h:s0g c=true:=by kernel_rfl)(h2:o0I vB (cl c)=true:=by kernel_rfl):J F P c L H Q:=K.seq h (K.region h2 k)
theorem kT(k:J F P (ct c) L H Q)(h:x0T c L=qB (.bool yB):=by kernel_rfl):J F P c L H Q:=K.condT h k
theorem kF(k:J F P (ce c) L H Q)(h:x0T c L=qB (.bool vB):=by kernel_rfl):J F P c L H Q:=K.condF h k
theorem kX(k:PJ F Q .ret L H)(h:D0O c=true:=by kernel_rfl):J F P c L H Q:=K.ret h k
theorem kK(k:PJ F Q .normal L H)(h:u0F c=true:=by kernel_rfl):J F P c L H Q:=K.skip h k
theorem kC(q:Nat)(ts:List Nat)(k:RJ F P none ops (p+q) [] (g0F ts (lOf (j0T P none ops q p [] L H))) (hOf (j0T P none ops q p [] L H)) Q)(h:(j0T P none ops q p [] L H).isSome=true:=by kernel_rfl):RJ F P none ops p [] L H Q:=RJ.segC q ts h k
theorem kD (q:Nat)(k:RJ F P (qB base) ops (p+q) (tOf (j0T P (qB base) ops q p tr L H)) (lOf (j0T P (qB base) ops q p tr L H)) (hOf (j0T P (qB base) ops q p tr L H)) Q)(h:(j0T P (qB base) ops q p tr L H).isSome=true:=by kernel_rfl):RJ F P (qB base) ops p tr L H Q:=RJ.segDC q h k
theorem kZ {fn:Func} (hn:F.n=fn.ntmps)(hH:F.H0=[])(hdom: ∀i,F.H0.length<=i->F.D0 i=none)(hin:j0Z fn.ntmps fn.results.toList=true:=by kernel_rfl)(hret:u0v P fn.results.toList L H=qB v:=by kernel_rfl)(hr:SV.refs 0 v=true:=by kernel_rfl):
    PJ F (u0a P fn F v []) .ret L H:=K.ret0 (.inr rfl) hn hH hdom hin hret hr
theorem kFn {fn:Func}
    (h: ∀F:Fr,F.n=fn.ntmps->F.H0=H->(∀i,F.H0.length<=i->F.D0 i=none)->J F P (f0b fn) (f0k 0 args) H (u0a P fn F v H')) (hf:P.funcs[f]?=qB fn:=by kernel_rfl) (hb:fn.body.isSome=true:=by kernel_rfl) (hcal:b0u P f=true:=by kernel_rfl) (hin:b0t fn.ntmps (f0b fn)=true:=by kernel_rfl) (hn:qD args.length fn.ntmps=true:=by kernel_rfl):SC P f args H v H':=K.fn hf hb hcal hin hn h
theorem oi {a b:α} (h:qB a=qB b):a=b:=ar h
end
end
section
variable [Inhabited GT]
theorem F0c {Q:Exit->Act->World->Prop} (I:Nat->Act->World->Prop)
    (hs: ∀n a w,I n a w->c.wp P (λe a' w'=>(e= .normal/\ ∃m,m<n/\I m a' w')\/(e≠ .normal/\Q e a' w')) a w) (h:I n a w):(Code.loop c).wp P Q a w:=by
  have key: ∀n a w,I n a w-> ∀(b:Frame) (k:List Item) (cs:List Frame),∃e a' w',Q e a' w'/\Arrives P (lone (b.at a (.code c:: .inLoop c::k)) cs w) b k cs e a' w':=by
    intro n
    induction n using Nat.strongRecOn with
    |_ n ih=>
      intro a w h b k cs;obtain⟨e,a₁,w₁,hq,harr⟩:=hs n a w h b (.inLoop c::k) cs;rcases hq with⟨rfl,m,hm,hi⟩|⟨hne,hq⟩;obtain⟨e₂,a₂,w₂,hq₂,harr₂⟩:=ih m hm a₁ w₁ hi b k cs;exact⟨e₂,a₂,w₂,hq₂, .of_steps (Steps.trans harr (.one step_inLoop)) harr₂⟩;refine⟨e,a₁,w₁,hq, ?_⟩
      cases e with
      |normal=>exact absurd rfl hne
      |exit id=>exact .pass (x:= .inLoop c) rfl (λ_ _=> .inl dB) harr
      |goto l=>exact .pass (x:= .inLoop c) rfl (λ_ _=> .inl dB) harr
      |ret=>exact .pass (x:= .inLoop c) rfl (λ_ _=> .inl dB) harr
      |panic ch=>exact .pass (x:= .inLoop c) rfl (λ_ _=> .inl dB) harr
      |outgrown=>exact .pass (x:= .inLoop c) rfl (λ_ _=> .inl dB) harr
  intro b k cs;obtain⟨e,a',w',hq,harr⟩:=key n a w h b k cs;exact⟨e,a',w',hq, .of_steps (.one step_loop) harr⟩
def t0w(n:Nat)(seen:Array Nat):Nat:=((yC n).filter λj=> !seen.contains j).length
theorem L0z {mes:Array MapEntry} {c:Nat} (h:M0b mes c):mes.toList.map (·.born)=yC mes.size:=by
  apply bv;intro j;rw[aq];by_cases hj:j<mes.size;rw[bo hj,cv,aM hj];simp only[aT];rw[h.2 j mes[j] (aM hj)];rw[ay (by simpa using hj),ay (by simpa using hj)];rfl
theorem B0p {mes:Array MapEntry} {c:Nat} {seen:Array Nat} (h:M0b mes c):(leftOf mes seen).size=t0w mes.size seen:=by
  unfold t0w leftOf;rw[<-L0z h,List.filter_map,List.length_map,<-cg,Array.toList_filter];rfl
theorem D0G {seen:Array Nat} {j:Nat} (hj:j<n)(hs:seen.contains j=vB):t0w n (seen.push j)<t0w n seen:=by
  unfold t0w;refine filter_lt (λi=> !seen.contains i) (λi=> !(seen.push j).contains i) (λx hx=> ?_) j (by simpa using hs) (by rw[contains_push];simp) (yC n) (bh.2 hj);rw[contains_push]at hx;simp at hx⊢;exact hx.1
theorem I0w (w:World)(ty:TypeId)(r bm since c0:Nat)(seen:Array Nat)(es:Array MapEntry)(clock:Nat)(hr:w.heap[r]?=qB (.mapIter (qB bm) since seen c0))(hb:w.heap[bm]?=qB (.map es clock))
    (hold: ∀x∈es.toList,x.born<since) (hsc:since<=c0):
    ((leftOf es seen).size=0/\(Instr.next (.pointer (qB ⟨r,0,none⟩)) vB ty).run P w= .ok (.tuple #[.bool vB]) w)\/
    ∃e∈(leftOf es seen).toList,∃w1:World,(w1=w\/w1=w.drew)/\(Instr.next (.pointer (qB ⟨r,0,none⟩)) vB ty).run P w= .ok (.tuple #[.bool yB,e.key,e.val]) { w1 with heap:=w1.heap.setIfInBounds r (.mapIter (qB bm) since (seen.push e.born) clock) } :=by
  have hrl:r<w.heap.size:=(ak.1 hr).1;simp only[Instr.next,getObj,yD,Sem.run,hr,hb,oE,next_test_false seen es since c0 hold hsc,aF,if_false];unfold leftOf;have hmem: ∀x∈(Array.filter (λe=> !seen.contains e.born) es).toList,x.born<since:=λx hx=>hold x (by simp at hx⊢;exact hx.1)
  generalize Array.filter (λe=> !seen.contains e.born) es=L at hmem⊢;have e1:L.filter (λx=>wB (x.born<since))=L:=Array.filter_eq_self.2 (λx hx=>by simpa using hmem x (by simpa using hx))
  have e2:L.filter (λx=>wB (x.born≥since))= #[]:=by
    rw[Array.filter_eq_empty_iff];intro x hx;have:=hmem x (by simpa using hx);simp;omega
  simp only[e1,e2,Array.append_empty];by_cases h0:L.size=0;left;have:L= #[]:=Array.eq_empty_of_size_eq_zero h0;subst this;refine⟨rfl, ?_⟩;simp[choose,Sem.run,Question.forced];right;have hne:L.isEmpty=false:=by simp[Array.isEmpty,h0]
  simp only[hne,aF,if_false,Array.empty_append,Array.size_map]
  have hch: ∃(j:Nat) (w1:World),j<L.size/\(w1=w\/w1=w.drew)/\(choose (Question.mapNext L.size)).run P w= .ok j w1:=by
    by_cases hf:L.size<=1;exact⟨0,w,cV, .inl rfl,by simp[choose,Sem.run,Question.forced,hf]⟩
    exact⟨_,w.drew,Nat.mod_lt _ cV, .inr rfl,by
      simp only[choose,Sem.run,Question.forced,decide_eq_true_eq,hf,if_false,Question.cut]
      rfl⟩
  obtain⟨j,w1,hj,hal,hrun⟩:=hch;refine⟨L[j],dB,w1,hal, ?_⟩
  have hget:w1.heap[r]?=qB (.mapIter (qB bm) since seen c0):=by
    rcases hal with rfl|rfl;exact hr;exact hr
  have hset: ∀o':Obj,(setObj r o').run P w1= .ok () { w1 with heap:=w1.heap.setIfInBounds r o' } :=λo'=>by
    simp only[setObj,Sem.run,hget]
  simp only[hrun,Array.getElem?_map,aM hj,aT,yD,hset,oE];rfl
section
variable {F : Fr} {P : Program} {L : LE} {H : a0e} {Q : g0o} {ops : Array Oper} {p : Nat} {tr : List (List Nat × List Nat)}
def C0T(P:Program)(ops:Array Oper)(p:Nat)(L:LE)(H:a0e):Option (Option Nat×Nat×Nat):=
  match ops.toList[p]? with
  |some o=>match a0Z ops (a0r L) o,o.op with
    |some yB, .range t x=>match P.underlying t,a0G (a0r L) x with
      |some (.map _ _),qB (.mp i)=>match H[i]? with
        |some (.map es)=>qB (o.dst,i,es.length)
        |_=>none
      |_,_=>none
    |_,_=>none
  |none=>none
theorem RJ.range (h:C0T P ops p L H=qB (d,i,n))(k:RJ F P none ops (p+1) tr (g0r L d (.ptr H.length 0)) (H++ [.itr i n []]) Q):RJ F P none ops p tr L H Q:=by
  unfold C0T at h;split at h;rename_i o ho;split at h;rename_i t x hg hop;split at h;rename_i kt et i' hu hxe;split at h;rename_i es hH;simp only[ah,aD]at h;obtain⟨rfl,rfl,rfl⟩:=h;intro hin a w hs;have hbo:Oper.inB F.n ops o=true:=List.all_eq_true.1 hin o (p0d ho);obtain⟨hd,K,D,hi⟩:=hs;rw[e0C ho];refine wpList_step λKK hKK=> ?_
  rw[b0I hi.slots (Oper.inB_guard hbo) hg,qC rfl]
  have hx:Operand.inB F.n x=true:=by
    have hb:=Oper.inB_op hbo;unfold Op.inB at hb;rw[hop]at hb;simpa [oB]using hb
  obtain⟨r,c,m,hvx,hdi⟩:=u0w (a0i hi.slots hx hxe);obtain⟨r',mes,clock,h1,h2,h3,h4,hB,h5⟩:=hi.hinv.ent _ _ hH;rw[h1]at hdi;cases hdi
  have hrun:(execOp a.eval o).run P w= .ok (.value (.pointer (qB ⟨w.heap.size,0,none⟩))) (w.alloc (.mapIter (qB r) clock #[] clock)):=by
    unfold execOp;rw[hop];exact b0q (by rw[hvx];exact run_range_map w t kt et r mes clock hu h3)
  have hK0:K w.heap.size=0:=by
    rcases br (K w.heap.size)with h0|h0;exact h0;have:=hi.hinv.kw w.heap.size cV;omega
  have hold: ∀b,b<w.heap.size->(w.alloc (.mapIter (qB r) clock #[] clock)).heap[b]?=w.heap[b]?:=λb hb=>by show(w.heap.push _)[b]?=_;rw[bI,wC cV]
  have hcl:clock=es.length:=by rw[hB.1,h4]
  obtain⟨g,hi'⟩:=place (w':=w.alloc (.mapIter (qB r) clock #[] clock)) (en:= .itr i' es.length []) (b:=w.heap.size) (c:=0) (m:=0) hi.hinv (idx:=H.length) (.inl rfl) (x:=none) dB (.inl (aj _)) rfl rfl rfl dB (λb' _ hlt=>hold b' hlt)
    (λhr=>⟨_,r,clock,by simp[g0L],hK0,by subst hcl;show(w.heap.push _)[w.heap.size]?=_;simp,cV,hr _ _ (.mp i' r 0 0 h1)⟩)
  rw[h0h]at g hi';have hset:i0h H H.length (.itr i' es.length [])=H++ [.itr i' es.length []]:=by unfold i0h;rw[wC cV]
  rw[hset]at g hi';unfold Oper.wp;rw[hrun];refine hKK _ _ (k hin _ _ ?_);refine⟨by rw[a0O];exact hd, ?_⟩;have:=hi.step (d:=o.dst) ⟨K,_,g,hi', .ptr H.length 0 w.heap.size 0 0 (by simp[g0L])⟩;rw[b0g]at this;exact this;cases h;cases h;cases h;cases h
theorem RJ.next {j:Nat} {s:List Nat} (ho:ops.toList[p]?=qB o)(hg:o.guard=none)(hop:o.op= .next x vB)(hxe:a0G (a0r L) x=qB (.ptr j 0))(hj:H[j]?=qB (.itr i n s))(hH:H[i]?=qB (.map es))(hn:es.length=n)
    (k0:t0w n s.toArray=0->RJ F P none ops (p+1) tr (g0r L o.dst (.tup [.bool vB])) H Q)
    (k1: ∀b,b<n->s.contains b=vB->RJ F P none ops (p+1) tr (g0r L o.dst (.tup [.bool yB, .undef, .undef])) (H.set j (.itr i n (s++ [b]))) Q):RJ F P none ops p tr L H Q:=by
  intro hin a w hs;have hbo:Oper.inB F.n ops o=true:=List.all_eq_true.1 hin o (p0d ho);obtain⟨hd,K,D,hi⟩:=hs;rw[e0C ho];refine wpList_step λKK hKK=> ?_
  rw[b0I hi.slots (Oper.inB_guard hbo) (b:=yB) (by unfold a0Z;rw[hg]),qC rfl]
  have hx:Operand.inB F.n x=true:=by
    have hb:=Oper.inB_op hbo;unfold Op.inB at hb;rw[hop]at hb;simpa [oB]using hb
  obtain⟨r,c,m,hvx,hdj⟩:=r0f (a0i hi.slots hx hxe);obtain⟨r',bm,c0,e1,e2,e3,e4,e5⟩:=hi.hinv.ent _ _ hj;rw[e1]at hdj;cases hdj;obtain⟨rm,mes,clock,h1,h2,h3,h4,hB,h5⟩:=hi.hinv.ent _ _ hH;obtain⟨_,_,_,hv,hdi⟩:=u0w e5;cases hv;rw[h1]at hdi;cases hdi;have hsz:mes.size=n:=by rw[<-h4];exact hn
  have hold: ∀y∈mes.toList,y.born<n:=λy hy=>by
    obtain⟨q,hq,rfl⟩:=List.mem_iff_getElem.1 hy;have hq':q<mes.size:=by simpa using hq
    have:=hB.2 q mes[q] (aM hq');have e:mes.toList[q]=mes[q]:=by simp
    rw[e,this];omega
  have hrv:(execOp a.eval o)=(do pure (Next.value (<-Instr.next (a.eval x) vB o.type))):=by unfold execOp;rw[hop]
  rcases I0w (P:=P) w o.type r bm n c0 s.toArray mes clock e3 h3 hold cV with⟨hz,hrun⟩|⟨e,he,w1,hal,hrun⟩;unfold Oper.wp;rw[hrv,b0q (by rw[hvx];exact hrun)];refine hKK _ _ (k0 (by rw[B0p hB,hsz]at hz;exact hz) hin _ _ ⟨by rw[a0O];exact hd, ?_⟩)
  have:=hi.step (d:=o.dst) (Good.here hi.hinv (.tup [.bool vB] [.bool vB] rfl (λj v c hv hc=>by
    match j with
    |0=>simp at hv hc;subst hv;subst hc;exact .bool _
    |j+1=>simp at hv)))
  rw[b0g]at this;exact this;obtain⟨hm,hns⟩:=mem_left he;have hbn:=hold e hm
  have hw1:Grow w K D H w1 K D H/\HInv w1 K D H/\w1.heap=w.heap:=by
    rcases hal with rfl|rfl;exact⟨Grow.refl _ _ _ _,hi.hinv,rfl⟩;exact⟨Grow.drew _ _ _ _,hi.hinv.drew,rfl⟩
  obtain⟨g1,i1,hh⟩:=hw1;have hrl:r<w1.heap.size:=by rw[hh];exact(ak.1 e3).1
  obtain⟨g2,i2⟩:=modify (w':= { w1 with heap:=w1.heap.setIfInBounds r (.mapIter (qB bm) n (s.toArray.push e.born) clock) }) (en':= .itr i n (s++ [e.born])) i1 hj rfl rfl e1 rfl rfl rfl dB (λb' hb'=>by
      show(w1.heap.setIfInBounds r _)[b']?=_
      rw[Array.getElem?_setIfInBounds_ne (Ne.symm hb')])
    (λhr=>⟨r,bm,clock,e1,e2,by
      show(w1.heap.setIfInBounds r _)[r]?=_
      rw[Array.getElem?_setIfInBounds_self_of_lt hrl];simp,by rw[hB.1];omega,hr _ _ (.mp i bm 0 0 h1)⟩)
  unfold Oper.wp;rw[hrv,b0q (by rw[hvx];exact hrun)];refine hKK _ _ (k1 e.born hbn (by simpa using hns) hin _ _ ⟨by rw[a0O];exact hd, ?_⟩)
  have:=hi.step (d:=o.dst) ⟨K,D,g1.trans g2,i2, .tup [.bool yB,e.key,e.val] [.bool yB, .undef, .undef] rfl (λj v c hv hc=>by
    match j with
    |0=>simp at hv hc;subst hv;subst hc;exact .bool _
    |1=>simp at hv hc;subst hc;exact .undef _
    |2=>simp at hv hc;subst hc;exact .undef _
    |j+3=>simp at hv)⟩
  rw[b0g]at this;exact this
def E0m(ops:Array Oper)(p:Nat)(L:LE)(H:a0e):Option (Option Nat×Nat×Nat×List Nat):=
  match ops.toList[p]? with
  |some o=>match a0Z ops (a0r L) o,o.op with
    |some yB, .entry x=>match a0G (a0r L) x with
      |some (.ptr j off)=>bif vC off 0 then(match H[j]? with
        |some (.itr i n s)=>qB (o.dst,i,n,s)
        |_=>none)else none
      |_=>none
    |_,_=>none
  |none=>none
theorem RJ.entry {b:Nat} {s:List Nat} {kv:SV×SV} (h:E0m ops p L H=qB (d,i,n,s++ [b]))(hH:H[i]?=qB (.map es))(hn:es.length=n)(hb:es[b]?=qB kv)
    (k:RJ F P none ops (p+1) tr (g0r L d (.tup [kv.1,kv.2])) H Q):RJ F P none ops p tr L H Q:=by
  unfold E0m at h;split at h;rename_i o ho;split at h;rename_i x hg hop;split at h;rename_i j off hxe
  cases hz:vC off 0 with
  |false=>rw[hz]at h;cases h
  |true=>
    rw[hz]at h;simp only[oC]at h;have hoff:off=0:=by simpa using hz
    subst hoff;split at h;rename_i i' n' s' hj;simp only[ah,aD]at h;obtain⟨rfl,rfl,rfl,rfl⟩:=h;intro hin a w hs;have hbo:Oper.inB F.n ops o=true:=List.all_eq_true.1 hin o (p0d ho);obtain⟨hd,K,D,hi⟩:=hs;rw[e0C ho];refine wpList_step λKK hKK=> ?_
    rw[b0I hi.slots (Oper.inB_guard hbo) hg,qC rfl]
    have hx:Operand.inB F.n x=true:=by
      have hb:=Oper.inB_op hbo;unfold Op.inB at hb;rw[hop]at hb;simpa [oB]using hb
    obtain⟨r,c,m,hvx,hdj⟩:=r0f (a0i hi.slots hx hxe);obtain⟨r',bm,c0,e1,e2,e3,e4,e5⟩:=hi.hinv.ent _ _ hj;rw[e1]at hdj;cases hdj;obtain⟨rm,mes,clock,h1,h2,h3,h4,hB,h5⟩:=hi.hinv.ent _ _ hH;obtain⟨_,_,_,hv,hdi⟩:=u0w e5;cases hv;rw[h1]at hdi;cases hdi;have hbl:b<mes.size:=by rw[<-h4];exact(ab.1 hb).1
    have hme:=aM hbl;have hbo':=hB.2 b mes[b] hme;have hnd:(mes.toList.map (·.born)).Nodup:=by rw[L0z hB];exact List.nodup_range
    have hcc:clock=c0:=by rw[hB.1,<-h4,hn,e4]
    subst hcc
    have hrun:(Instr.entry (.pointer (qB ⟨r,0,none⟩))).run P w= .ok (.tuple #[mes[b].key,mes[b].val]) w:=by
      have hf:mes.find? (·.born==mes[b].born)=qB mes[b]:=by rw[<-Array.find?_toList];exact find_born mes[b] mes.toList hnd dB
      have e3':w.heap[r]?=qB (.mapIter (qB bm) n' (s.toArray.push b) clock):=by rw[e3];simp
      rw[hbo']at hf;simp only[Instr.entry,getObj,yD,Sem.run,e3',h3,oE,Array.back?_push,bne_self_eq_false,aF,if_false,hf];rfl
    have hrv:(execOp a.eval o)=(do pure (Next.value (<-Instr.entry (a.eval x)))):=by unfold execOp;rw[hop]
    unfold Oper.wp;rw[hrv,b0q (by rw[hvx];exact hrun)];refine hKK _ _ (k hin _ _ ⟨by rw[a0O];exact hd, ?_⟩);obtain⟨q1,q2⟩:=h5 b mes[b] kv hme hb
    have:=hi.step (d:=o.dst) (Good.here hi.hinv (.tup [mes[b].key,mes[b].val] [kv.1,kv.2] rfl (λj v c hv hc=>by
      match j with
      |0=>simp at hv hc;subst hv;subst hc;exact q1
      |1=>simp at hv hc;subst hv;subst hc;exact q2
      |j+2=>simp at hv)))
    rw[b0g]at this;exact this;cases h
  cases h;cases h;cases h
def n0D {E X:Type} [DecidableEq X](f:E->Option (Unit⊕X)):List E->Option (Unit⊕X)
  | []=>qB (.inl ())
  |e::r=>match f e,n0D f r with
    |some (.inl _),y=>y
    |some (.inr x),qB (.inl _)=>qB (.inr x)
    |some (.inr x),qB (.inr y)=>if x=y then qB (.inr x)else none
    |_,_=>none
theorem y0L {E:Type} [DecidableEq X] {f:E->Option (Unit⊕X)} : ∀(ms:List E) (y:Unit⊕X),n0D f ms=qB y->
    (∀e∈ms,∃x,f e=qB x/\ ∀o,x= .inr o->y= .inr o)/\((∀e∈ms,f e=qB (.inl ()))->y= .inl ()):=by
  intro ms
  induction ms with
  |nil=>intro y h;cases h;exact⟨λe he=>by simp at he,λ_=>rfl⟩
  |cons a r ih=>
    intro y h;simp only[n0D]at h;split at h;rename_i u hf;obtain⟨i1,i2⟩:=ih y h;refine⟨λe he=> ?_,λhall=>i2 λe he=>hall e (ao _ he)⟩;rcases aS.1 he with rfl|he;exact⟨_,hf,λo ho=>by cases ho⟩;exact i1 e he;rename_i x u hf hr;cases h;obtain⟨i1,i2⟩:=ih _ hr;refine⟨λe he=> ?_,λhall=>by have:=hall a dB;rw[hf]at this;cases this⟩;rcases aS.1 he with rfl|he;exact⟨_,hf,λo ho=>ho⟩;obtain⟨x',hx',h'⟩:=i1 e he;refine⟨x',hx',λo ho=> ?_⟩;have:=h' o ho
    cases this
    · rename_i x z hf hr
      split at h<;>cases h
      rename_i hxz;subst hxz;obtain⟨i1,i2⟩:=ih _ hr;refine⟨λe he=> ?_,λhall=>by have:=hall a dB;rw[hf]at this;cases this⟩;rcases aS.1 he with rfl|he;exact⟨_,hf,λo ho=>ho⟩;exact i1 e he
    cases h
def M0r (F:Fr)(Q:g0o)(L:LE)(H:a0e)(y x:Unit⊕X):g0o:=λe a w=>match x with
  | .inl _=>e= .normal/\Sees F L H a w
  | .inr o=>e≠ .normal/\(y= .inr o->Q e a w)
theorem PJ.mapNext {L2:LE} {y:Unit⊕X} (ts:List Nat)(hL:g0F ts L=L2)(hH:H=H2):PJ F (M0r F Q L2 H2 y (.inl ())) .normal L H:=λa w hs=>by
  subst hH;exact⟨rfl,by rw[<-hL];exact hs.keep (k0Z ts L)⟩
theorem PJ.mapOut {L2:LE} {y:Unit⊕X} {o:X} (hne:e≠ .normal)(h:y= .inr o->PJ F Q e L H):PJ F (M0r F Q L2 H2 y (.inr o)) e L H:=λa w hs=>⟨hne,λhe=>h he a w hs⟩
def y0M(it tn tk b:Nat):Code->Bool
  | .seq (.region _ ops vB) (.seq (.cond (.tmp t) .skip (.exit b')) _)=>vC t tk&&(vC b' b&&match ops.toList with
    | [o0,o1]=>match o0.guard,o0.op,o0.dst,o1.guard,o1.op,o1.dst with
      |none, .next (.tmp it') vB,qB tn1,none, .extract (.tmp tn2) 0,qB tk'=>vC it' it&&(vC tn1 tn&&(vC tn2 tn&&vC tk' tk))
      |_,_,_,_,_,_=>vB
    |_=>vB)
  |_=>vB
theorem x0n {it tn tk b:Nat} (h:y0M it tn tk b c=yB): ∃id ops o0 o1 B,c= .seq (.region id ops vB) (.seq (.cond (.tmp tk) .skip (.exit b)) B)/\ops.toList=[o0,o1]/\
    o0.guard=none/\o0.op= .next (.tmp it) vB/\o0.dst=qB tn/\o1.guard=none/\o1.op= .extract (.tmp tn) 0/\o1.dst=qB tk:=by
  unfold y0M at h;split at h;rename_i id ops t b' B;simp only[aa]at h;obtain⟨h1,h2,h3⟩:=h;split at h3;rename_i o0 o1 hl;split at h3;rename_i it' tn1 tn2 tk' e1 e2 e3 e4 e5 e6;simp only[aa]at h3;obtain⟨q1,q2,q3,q4⟩:=h3;have h1:=ae h1;have h2:=ae h2;have q1:=ae q1;have q2:=ae q2;have q3:=ae q3;have q4:=ae q4;subst h1;subst h2;subst q1;subst q2;subst q3;subst q4;exact⟨id,ops,o0,o1,B,rfl,hl,e1,e2,e3,e4,e5,e6⟩;cases h3;cases h3;cases h
theorem B0q {s:List Nat} (h:t0w n s.toArray=0): ∀j,j<n->s.contains j=true:=by
  intro j hj;unfold t0w at h;have:=List.length_eq_zero_iff.1 h;rw[List.filter_eq_nil_iff]at this;have h2:=this j (bh.2 hj);simpa using h2
theorem H0d {tk tn:Nat} {u:SV} {L2:LE} (hnk:tn≠tk)(htn:lk L2 tn= .undef)(t:Nat):lk ((tk,v)::L2) t=lk ((tk,v)::(tn,u)::L2) t\/lk ((tk,v)::L2) t= .undef:=by
  simp only[lk]
  cases h1:vC t tk with
  |true=>exact .inl rfl
  |false=>
    cases h2:vC t tn with
    |false=>exact .inl rfl
    |true=>have:=ae h2;subst this;exact .inr htn
theorem K.mapLoop {E:Type} [DecidableEq X] (it tn tk b j i:Nat) (h:D0P c=yB)(hc:y0M it tn tk b (cp c)=yB)(f:E->Option (Unit⊕X))(ms:List E)(enc:E->SV×SV) {y:Unit⊕X} (hy:n0D f ms=qB y)
    (ts:List Nat) {L2:LE} (hk:g0F ts L=L2) (hL:lk L2 it= .ptr j 0) (htn:lk L2 tn= .undef) (htk:lk L2 tk= .undef) (hne:vC tn tk=vB) (hni:vC tn it=vB) (Hs:List Nat->a0e) (hH:H=Hs []) (hS: ∀s s',(Hs s).set j (.itr i n s')=Hs s')
    (hj: ∀s,(Hs s)[j]?=qB (.itr i n s)) (hi: ∀s,(Hs s)[i]?=qB (.map (ms.map enc))) (hn:(ms.map enc).length=n)
    (hx: ∀s,y= .inl ()->PJ F Q (.exit b) ((tk, .bool vB)::L2) (Hs s))
    (body: ∀s b' e x,(ms.map enc)[b']?=qB (enc e)->f e=qB x->J F P (cr (cr (cp c))) ((tk, .bool yB)::L2) (Hs (s++ [b'])) (M0r F Q L2 (Hs (s++ [b'])) y x)):J F P c L H Q:=by
  cases c<;>first|cases h|skip
  rename_i c;obtain⟨m1,m2⟩:=y0L ms y hy;have hnm:ms.length=n:=by rw[<-hn];simp
  refine J.keep ts hk ?_;subst hH;obtain⟨id,ops,o0,o1,B,rfl,hl,g1,g2,g3,g4,g5,g6⟩:=x0n hc;intro hin a w hs;have hin':b0t F.n _=true:=hin;refine F0c (λn' a w=> ∃s,t0w n s.toArray=n'/\(∀q∈s,∀e,ms[q]?=qB e->f e=qB (.inl ()))/\Sees F L2 (Hs s) a w) ?_ (n:=t0w n #[]) ⟨[],rfl,λq hq=>by simp at hq,hs⟩;rintro n' a w ⟨s,hn',hdone,hs⟩;refine(?_:J F P (.seq (.region id ops vB) (.seq (.cond (.tmp tk) .skip (.exit b)) B)) L2 (Hs s) _) hin' a w hs;have hp0:ops.toList[0]?=qB o0:=by rw[hl];rfl
  have hp1:ops.toList[1]?=qB o1:=by rw[hl];rfl
  have hsz:ops.size=2:=by have:=congrArg List.length hl;simpa using this
  have hnk:tn≠tk:=λe=>by subst e;simp at hne
  have hnit:tn≠it:=λe=>by subst e;simp at hni
  refine J.seq (J.region (RJ.next hp0 g1 g2 (congrArg qB hL) (hj s) (hi s) hn (λhz=> ?_) (λq hq hqs=> ?_)))
  · -- none is left
    rw[g3]
    have hall:y= .inl ():=m2 λe he=>by
      obtain⟨q,hq,rfl⟩:=List.mem_iff_getElem.1 he;have hc:=B0q hz q cV;exact hdone q (by simpa using hc) _ (af hq)
    refine RJ.step (ef:=⟨.bool vB,[],[]⟩) hp1 (by unfold a0Z;rw[g4]) (by unfold c0d;rw[g5]) ?_ rfl ?_;unfold a0H a0k;rw[g5];simp[a0G,a0r,g0r,lk]
    · rw[g6]
      refine RJ.done cV (PJ.next (J.seq (J.cond (b:=vB) ?_ (J.exit (PJ.passExit ?_)))));simp[a0G,a0r,g0r,lk];intro a' w' hs';exact .inr ⟨dB,hx s hall a' w' (hs'.keep (H0d hnk htn))⟩
  · -- one more
    rw[g3]
    obtain⟨e,hqe⟩: ∃e,ms[q]?=qB e:=⟨ms[q]' cV,af cV⟩
    obtain⟨x,hfx,hox⟩:=m1 e (aI hqe);refine RJ.step (ef:=⟨.bool yB,[],[]⟩) hp1 (by unfold a0Z;rw[g4]) (by unfold c0d;rw[g5]) ?_ rfl ?_;unfold a0H a0k;rw[g5];simp[a0G,a0r,g0r,lk]
    · rw[g6,hS]
      refine RJ.done cV (PJ.next (J.seq (J.cond (b:=yB) ?_ (J.skip (PJ.next ?_)))));simp[a0G,a0r,g0r,lk];intro hin2 a' w' hs';have hb:=body s q e x (by rw[aq,hqe];rfl) hfx hin2 a' w' (hs'.keep (H0d hnk htn));refine jJ (λee a2 w2 hq2=> ?_) hb
      cases x with
      |inl u=>
        obtain⟨rfl,hs2⟩:=hq2;refine .inl ⟨rfl,t0w n (s++ [q]).toArray, ?_,s++ [q],rfl,λq' hq' e' he'=> ?_,hs2⟩;rw[<-hn'];have:=D0G (seen:=s.toArray) hq (by simpa using hqs);simpa using this;rcases au.1 hq' with h1|h1;exact hdone q' h1 e' he';simp at h1;subst h1;rw[hqe]at he';cases he';exact hfx
      |inr o=>exact .inr ⟨hq2.1,hq2.2 (hox o rfl)⟩
end
end
section
variable [Inhabited GT]
section
variable {F : Fr} {P : Program} {L : LE} {H : a0e} {Q : g0o} {ops : Array Oper} {p : Nat} {tr : List (List Nat × List Nat)} {ρ : Env}
theorem St.openMap (hs:St F ρ H a w) (hi:H[i]?=qB (.pmap es)): ∃es',List.Perm es' es/\St F ρ (H.set i (.map es')) a w:=by
  obtain⟨hd,K,D,hv⟩:=hs;obtain⟨es',r,mes,clock,hp,h1,h2,h3,h4,hB,h5⟩:=hv.hinv.ent _ _ hi;obtain⟨g,hi'⟩:=modify (w':=w) (en':= .map es') hv.hinv hi rfl rfl h1 rfl rfl rfl rfl (λ_ _=>rfl) (λ_=>⟨r,mes,clock,h1,h2,h3,h4,hB,h5⟩);exact⟨es',hp,hd,K,D,hv.slots,hi',hv.grow.trans g⟩
theorem St.closeMap (hs:St F ρ H a w) {es':List (SV×SV)} (hi:H[i]?=qB (.map es'))(hp:List.Perm es' es):St F ρ (H.set i (.pmap es)) a w:=by
  obtain⟨hd,K,D,hv⟩:=hs;obtain⟨r,mes,clock,h1,h2,h3,h4,hB,h5⟩:=hv.hinv.ent _ _ hi;obtain⟨g,hi'⟩:=modify (w':=w) (en':= .pmap es) hv.hinv hi rfl rfl h1 rfl rfl rfl rfl (λ_ _=>rfl) (λ_=>⟨es',r,mes,clock,hp,h1,h2,h3,h4,hB,h5⟩);exact⟨hd,K,D,hv.slots,hi',hv.grow.trans g⟩
theorem RJ.openMap {B:Type} {ek:A->SV} {ev:B->SV} (ms:List (A×B))(i:Nat)(Hs:List (A×B)->a0e)(hi:H[i]?=qB (.pmap (d0r ek ev ms)))(hs: ∀ms',H.set i (.map (d0r ek ev ms'))=Hs ms')
    (k: ∀ms',List.Perm ms' ms->RJ F P none ops p tr L (Hs ms') Q):RJ F P none ops p tr L H Q:=by
  intro hin a w hst;obtain⟨es',hp,hst'⟩:=hst.openMap hi;obtain⟨ms',hp',rfl⟩:=n0t ms es' hp;have:=hs ms';unfold d0r at this;rw[this]at hst';exact k ms' hp' hin a w hst'
open Classical in
noncomputable def u0P (f:List A->Option R)(ms:List A):Option R:=if∀ms',List.Perm ms' ms->f ms'=f ms then f ms else none
theorem u0O {f:List A->Option R} {ms:List A} {r:R} (h:u0P f ms=qB r)(ms':List A)(hp:List.Perm ms' ms):f ms'=qB r:=by
  unfold u0P at h;split at h;rename_i hall;rw[hall ms' hp];exact h;cases h
theorem x0Y {f:List A->Option R} {ms:List A} {r:R} (h: ∀ms',List.Perm ms' ms->f ms'=qB r):u0P f ms=qB r:=by
  unfold u0P;rw[qC (λms' hp=>by rw[h ms' hp,h ms (.refl _)])];exact h ms (.refl _)
/-! Laying it. -/
def mapLit(P:Program)(base kt:Nat):List Oper->Nat->LE->Option (List (SV×Option (SV×SV)))
  | [],_,_=>qB []
  |o::r,j,L=>match o.guard,o.op with
    |none, .makeMap _ none=>bif vC j 0 then(mapLit P base kt r (j+1) (g0r L o.dst (.mp base))).map ((.mp base,none):: ·)else none
    |none, .insert t x k v=>match P.underlying t,a0G (a0r L) x,a0G (a0r L) k,a0G (a0r L) v,o.dst with
      |some (.map kt' _),qB (.mp b),qB ks,qB vs,none=>bif vC b base&&(vC kt' kt&&(t0z P kt ks&&o.after.toList.any λe=>qF .any e&&vC e.on 0))then(mapLit P base kt r (j+1) L).map ((.undef,qB (ks,vs)):: ·)else none
      |_,_,_,_,_=>none
    |none,_=>bif c0d o then none else match a0k P o (a0r L)with
      |some v=>(mapLit P base kt r (j+1) (g0r L o.dst v)).map ((v,none):: ·)
      |none=>none
    |_,_=>none
def F0f(o:Oper):List Nat:=o.op.operands.toList.filterMap fun| .tmp t=>qB t|_=>none
def t0s(ops:Array Oper):Bool:=
  (yC ops.size).all λj=>match ops[j]? with
    |some o=>o.after.toList.all (λe=>qE e.on j)&&((yC ops.size).all λj'=>match ops[j']? with
      |some o'=>match o'.dst with
        |some t=>(!(F0f o).contains t||o.after.toList.any λe=>qF .any e&&vC e.on j')&&(vC j j'||(match o.dst with|some t'=> !vC t t'|none=>yB))
        |none=>yB
      |none=>yB)
    |none=>yB
def K0I:Option (Option SV)->Bool
  |some none=>yB
  |_=>vB
def A0b(P:Program)(kt:Nat)(VI:List (SV×Option (SV×SV))):Bool:=
  (yC VI.length).all λi=>(yC VI.length).all λj=>vC i j||(match VI[i]?,VI[j]? with
    |some (_,qB a),qB (_,qB b)=>K0I (p0E P kt [b] a.1)
    |_,_=>yB)
def w0m:List Oper->List (SV×Option (SV×SV))->LE->LE
  |o::r,v::s,L=>w0m r s (g0r L o.dst v.1)
  |_,_,L=>L
def esL:List (SV×Option (SV×SV))->Nat->(Nat->Bool)->List (SV×SV)
  | [],_,_=> []
  |vi::r,j,l=>(bif l j then vi.2.toList else [])++esL r (j+1) l
theorem q0I: ∀(VI:List (SV×Option (SV×SV))) (j:Nat) (l l':Nat->Bool),(∀q,j<=q->l q=l' q)->esL VI j l=esL VI j l'
  | [],_,_,_,_=>rfl
  |vi::r,j,l,l',h=>by
    simp only[esL];rw[h j (aj _),q0I r (j+1) l l' λq hq=>h q cV]
theorem A0q: ∀(VI:List (SV×Option (SV×SV))) (j:Nat) (l l':Nat->Bool),(∀q,j<=q->q<j+VI.length->l q=l' q)->esL VI j l=esL VI j l'
  | [],_,_,_,_=>rfl
  |vi::r,j,l,l',h=>by
    simp only[esL];rw[h j (aj _) dB,A0q r (j+1) l l' λq hq hq2=>h q cV dA]
theorem E0h: ∀(VI:List (SV×Option (SV×SV))) (j i:Nat) (l:Nat->Bool) (v:SV) (e:Option (SV×SV)),l i=vB->j<=i->VI[i-j]?=qB (v,e)->
    List.Perm (esL VI j l++e.toList) (esL VI j λq=>if q=i then yB else l q)
  | [],j,i,l,v,e,hl,hj,h=>by simp at h
  |vi::r,j,i,l,v,e,hl,hj,h=>by
    by_cases hij:i=j;subst hij;simp at h;subst h;have h1:esL r (i+1) (λq=>if q=i then yB else l q)=esL r (i+1) l:=q0I r (i+1) _ _ λq hq=>by rw[wC cV]
    simp only[esL,hl,oD,bk,if_true,oC,h1];exact List.perm_append_comm
    have h':r[i-(j+1)]?=qB (v,e):=by
      have:i-j=(i-(j+1))+1:=by omega
      rw[this]at h;simpa using h
    have ih:=E0h r (j+1) i l v e hl cV h';simp only[esL];rw[wC (λe=>hij e.symm),aO];exact ih.append_left _
theorem A0p: ∀(VI:List (SV×Option (SV×SV))) (j i:Nat) (l:Nat->Bool) (v:SV),VI[i-j]?=qB (v,none)->j<=i->(esL VI j λq=>if q=i then yB else l q)=esL VI j l
  | [],j,i,l,v,h,_=>rfl
  |vi::r,j,i,l,v,h,hj=>by
    by_cases hij:i=j
    · subst hij
      simp at h;subst h;have h1:esL r (i+1) (λq=>if q=i then yB else l q)=esL r (i+1) l:=q0I r (i+1) _ _ λq hq=>by rw[wC cV]
      simp only[esL,h1];cases l i<;>simp
    have h':r[i-(j+1)]?=qB (v,none):=by
      have:i-j=(i-(j+1))+1:=by omega
      rw[this]at h;simpa using h
    simp only[esL];rw[wC (λe=>hij e.symm),A0p r (j+1) i l v h' cV]
theorem E0j: ∀(VI:List (SV×Option (SV×SV))) (j:Nat) (l:Nat->Bool) (kv:SV×SV),kv∈esL VI j l-> ∃i v,j<=i/\l i=yB/\VI[i-j]?=qB (v,qB kv)
  | [],j,l,kv,h=>by simp[esL]at h
  |vi::r,j,l,kv,h=>by
    simp only[esL,au]at h;rcases h with h|h
    cases hl:l j with
    |false=>rw[hl]at h;simp at h
    |true=>
      rw[hl]at h;simp only[oC,Option.mem_toList]at h;exact⟨j,vi.1,aj _,hl,by simp;exact Prod.ext rfl h⟩
    obtain⟨i,v,h1,h2,h3⟩:=E0j r (j+1) l kv h;refine⟨i,v,cV,h2, ?_⟩;have:i-j=(i-(j+1))+1:=by omega
    rw[this];simpa using h3
theorem E0i: ∀(VI:List (SV×Option (SV×SV))) (j:Nat) (l:Nat->Bool),(∀q,l q=yB-> ∀v e,VI[q-j]?=qB (v,e)->j<=q->e=none)->esL VI j l=[]
  | [],_,_,_=>rfl
  |vi::r,j,l,h=>by
    simp only[esL]
    have h1:esL r (j+1) l=[]:=E0i r (j+1) l λq hq v e he hj=>h q hq v e (by
      have:q-j=(q-(j+1))+1:=by omega
      rw[this];simpa using he) cV
    rw[h1]
    cases hl:l j with
    |false=>rfl
    |true=>
      have:=h j hl vi.1 vi.2 dB (aj _);rw[this];rfl
theorem u0I {P:Program} {kt:Nat} {k:SV} : ∀(es:List (SV×SV)),(∀e∈es,m0O P kt k [e]=qB none)->m0O P kt k es=qB none
  | [],_=>rfl
  |e::r,h=>by
    have h1:=h e (aw ..);have h2:=u0I r λx hx=>h x (ao _ hx)
    cases hq:eqS P 9 kt k e.1 with
    |none=>simp[m0O,hq]at h1
    |some b=>
      cases b with
      |true=>simp[m0O,hq]at h1
      |false=>simp only[m0O,hq];exact h2
theorem u0H {k:SV} : ∀(es:List (SV×SV)),(∀e∈es,g0Y [e] k=qB none)->g0Y es k=qB none
  | [],_=>rfl
  |e::r,h=>by
    have h1:=h e (aw ..);have h2:=u0H r λx hx=>h x (ao _ hx)
    cases hq:k0U k e.1 with
    |none=>simp[g0Y,hq]at h1
    |some b=>
      cases b with
      |true=>simp[g0Y,hq]at h1
      |false=>simp only[g0Y,hq];exact h2
theorem E0c {P:Program} {kt:Nat} {k:SV} (es:List (SV×SV))(h: ∀e∈es,p0E P kt [e] k=qB none):p0E P kt es k=qB none:=by
  cases k<;>first|exact u0I es h|exact u0H es h
theorem x0w {L:LE} {t:Nat} (h:d≠qB t):lk (g0r L d v) t=lk L t:=by
  cases d with
  |none=>rfl
  |some d=>
    simp only[g0r,lk]
    cases hb:vC t d with
    |false=>rfl
    |true=>exact absurd (by rw[ae hb]) h
theorem D0C {L:LE} {t:Nat} :lk (g0r L (qB t) v) t=v:=by simp[g0r,lk]
theorem o0s {t:Nat} : ∀(l:List Oper) (VI:List (SV×Option (SV×SV))) (L:LE),(∀o∈l,o.dst≠qB t)->lk (w0m l VI L) t=lk L t
  | [],VI,L,_=>by cases VI<;>rfl
  |o::r,[],L,_=>rfl
  |o::r,v::s,L,h=>by
    simp only[w0m];rw[o0s r s _ λx hx=>h x (ao _ hx),x0w (h o (aw ..))]
theorem D0D {t:Nat} : ∀(l:List Oper) (VI:List (SV×Option (SV×SV))) (L:LE) (j:Nat) (o:Oper) (v:SV×Option (SV×SV)),l[j]?=qB o->o.dst=qB t->VI[j]?=qB v->(∀j' o',l[j']?=qB o'->j'≠j->o'.dst≠qB t)->lk (w0m l VI L) t=v.1
  | [],VI,L,j,o,v,h,_,_,_=>by simp at h
  |x::r,[],L,j,o,v,_,_,h,_=>by simp at h
  |x::r,y::s,L,0,o,v,h1,h2,h3,h4=>by
    simp at h1 h3;subst h1;subst h3;simp only[w0m]
    rw[o0s r s _ λz hz=>by
      obtain⟨q,hq⟩:=bq.1 hz
      exact h4 (q+1) z (by simpa using hq) cV,h2,D0C]
  |x::r,y::s,L,j+1,o,v,h1,h2,h3,h4=>by
    simp only[w0m];exact D0D r s _ j o v (by simpa using h1) h2 (by simpa using h3) λj' o' hj' hne=>h4 (j'+1) o' (by simpa using hj') cV
def z0v(P:Program)(base kt j:Nat)(o:Oper)(v:SV)(e:Option (SV×SV))(ρ:Env):Prop:=
  o.guard=none/\((j=0/\(∃t,o.op= .makeMap t none)/\v= .mp base/\e=none)\/
    (∃t x k u et ks vs,o.op= .insert t x k u/\P.underlying t=qB (.map kt et)/\a0G ρ x=qB (.mp base)/\a0G ρ k=qB ks/\a0G ρ u=qB vs/\o.dst=none/\t0z P kt ks=yB/\(∃ed∈o.after,qF .any ed=yB/\ed.on=0)/\v= .undef/\e=qB (ks,vs))\/
    (c0d o=vB/\a0k P o ρ=qB v/\e=none))
theorem A0d {base kt:Nat} : ∀(l:List Oper) (j:Nat) (L:LE) (VI:List (SV×Option (SV×SV))),mapLit P base kt l j L=qB VI->
    VI.length=l.length/\ ∀q o,l[q]?=qB o-> ∃v e,VI[q]?=qB (v,e)/\ ∃L',z0v P base kt (j+q) o v e (a0r L')/\ ∀t,(∀q' o',q<=q'->l[q']?=qB o'->o'.dst≠qB t)->lk (w0m l VI L) t=lk L' t
  | [],j,L,VI,h=>by
    cases h;exact⟨rfl,λq o hq=>by simp at hq⟩
  |o::r,j,L,VI,h=>by
    have key: ∀(v:SV) (e:Option (SV×SV)) (L2:LE),z0v P base kt j o v e (a0r L)->(mapLit P base kt r (j+1) (g0r L o.dst v)).map ((v,e):: ·)=qB VI->
        VI.length=(o::r).length/\ ∀q o',(o::r)[q]?=qB o'-> ∃v e,VI[q]?=qB (v,e)/\ ∃L',z0v P base kt (j+q) o' v e (a0r L')/\ ∀t,(∀q' o',q<=q'->(o::r)[q']?=qB o'->o'.dst≠qB t)->lk (w0m (o::r) VI L) t=lk L' t:=by
      intro v e _ hf hm
      cases hr:mapLit P base kt r (j+1) (g0r L o.dst v)with
      |none=>rw[hr]at hm;cases hm
      |some s=>
        rw[hr]at hm;cases hm;obtain⟨h1,h2⟩:=A0d r (j+1) _ s hr;refine⟨by simp[h1],λq o' hq=> ?_⟩
        cases q with
        |zero=>
          simp at hq;subst hq;refine⟨v,e,rfl,L,hf,λt ht=> ?_⟩;simp only[w0m]
          rw[o0s r s _ λz hz=>by
            obtain⟨q,hq⟩:=bq.1 hz
            exact ht (q+1) z cV (by simpa using hq),x0w (ht 0 o (aj _) rfl)]
        |succ q=>
          obtain⟨v',e',h3,L',h4,h5⟩:=h2 q o' (by simpa using hq);refine⟨v',e',by simpa using h3,L',by rw[show j+(q+1)=j+1+q by omega];exact h4,λt ht=> ?_⟩;simp only[w0m];exact h5 t λq' o'' hq' ho=>ht (q'+1) o'' cV (by simpa using ho)
    unfold mapLit at h;split at h;rename_i tt hg hop
    cases hj:vC j 0 with
    |false=>rw[hj]at h;cases h
    |true=>
      rw[hj]at h;exact key _ _ L ⟨hg, .inl ⟨ae hj,⟨_,hop⟩,rfl,rfl⟩⟩ h
    rename_i tt x k u hg hop;split at h;rename_i kt' et b ks vs hu hx hk hv hd
    cases hc:(vC b base&&(vC kt' kt&&(t0z P kt ks&&o.after.toList.any λe=>qF .any e&&vC e.on 0)))with
    |false=>rw[hc]at h;cases h
    |true=>
      rw[hc]at h;simp only[aa,List.any_eq_true]at hc;obtain⟨c1,c2,c3,ed,c4,c5,c6⟩:=hc;have c1:=ae c1;have c2:=ae c2;have c6:=ae c6;subst c1;subst c2;refine key .undef (qB (ks,vs)) L ⟨hg, .inr (.inl ⟨tt,x,k,u,et,ks,vs,hop,hu,hx,hk,hv,hd,c3,⟨ed,by simpa using c4,c5,c6⟩,rfl,rfl⟩)⟩ ?_;rw[hd];exact h
    cases h;rename_i hg _ _
    cases hc:c0d o with
    |true=>rw[hc]at h;cases h
    |false=>
      rw[hc]at h;simp only[oD]at h;split at h;rename_i v hv;exact key v none L ⟨hg, .inr (.inr ⟨hc,hv,rfl⟩)⟩ h;cases h
    cases h
def N0z(F:Fr)(ops:Array Oper)(VI:List (SV×Option (SV×SV)))(L:LE)(H:a0e)(listed:Array Bool)(a:Act)(w:World):Prop:=
  listed.size=ops.size/\ ∃ρ,St F ρ (bif listed.getD 0 vB then H++ [.pmap (esL VI 0 λq=>listed.getD q vB)]else H) a w/\
    (∀j o t,listed.getD j vB=yB->ops[j]?=qB o->o.dst=qB t-> ∃v,VI[j]?=qB v/\ρ t=v.1)/\
    (∀t,(∀j o,ops[j]?=qB o->listed.getD j vB=yB->o.dst≠qB t)->ρ t=lk L t)/\
    (∀j v kv,listed.getD j vB=yB->VI[j]?=qB (v,qB kv)->listed.getD 0 vB=yB)
def G0d(ops:Array Oper)(listed:Array Bool):Nat:=((yC ops.size).filter λj=> !listed.getD j vB).length
theorem j0D (h:i<listed.size)(d:Bool):(listed.setIfInBounds i yB).getD i d=true:=by
  simp[Array.getD,h]
theorem e0B {j:Nat} (h:i<listed.size):(listed.setIfInBounds i yB).getD j vB=if j=i then yB else listed.getD j false:=by
  by_cases hj:j=i;subst hj;rw[qC rfl];exact j0D h vB;rw[wC hj];exact getD_set_ne vB (Ne.symm hj)
theorem y0T (h:i<listed.size):listed.getD i yB=listed.getD i false:=by simp[Array.getD,h]
structure M0Y (ops:Array Oper):Prop where
  before: ∀(j:Nat) (o:Oper),ops[j]?=qB o-> ∀e∈o.after,e.on<j
  deps: ∀(j:Nat) (o:Oper) (j':Nat) (o':Oper) (t:Nat),ops[j]?=qB o->ops[j']?=qB o'->o'.dst=qB t->Operand.tmp t∈o.op.operands-> ∃e∈o.after,qF .any e=yB/\e.on=j'
  apart: ∀(j:Nat) (o:Oper) (j':Nat) (o':Oper) (t:Nat),ops[j]?=qB o->ops[j']?=qB o'->o'.dst=qB t->j≠j'->o.dst≠qB t
theorem x0l(h:t0s ops=yB):M0Y ops:=by
  unfold t0s at h;have hj: ∀j o,ops[j]?=qB o->j<ops.size:=λj o ho=>(ak.1 ho).1
  have main: ∀j o,ops[j]?=qB o->o.after.toList.all (λe=>qE e.on j)=yB/\ ∀j' o',ops[j']?=qB o'-> ∀t,o'.dst=qB t->(((F0f o).contains t=vB\/(o.after.toList.any λe=>qF .any e&&vC e.on j')=yB)/\(j=j'\/o.dst≠qB t)):=by
    intro j o ho;have h1:=List.all_eq_true.1 h j (bh.2 (hj j o ho));simp only[ho,aa]at h1;refine⟨h1.1,λj' o' ho' t ht=> ?_⟩;have h2:=List.all_eq_true.1 h1.2 j' (bh.2 (hj j' o' ho'));simp only[ho',ht,aa,bH]at h2;obtain⟨h3,h4⟩:=h2;refine⟨h3.imp (λe=>by simpa using e) id,h4.imp ae λe hd=> ?_⟩;rw[hd]at e;simp at e
  refine⟨λj o ho e he=> ?_,λj o j' o' t ho ho' ht hm=> ?_,λj o j' o' t ho ho' ht hne=> ?_⟩;have:=List.all_eq_true.1 (main j o ho).1 e (by simpa using he);exact bz (ag this);obtain⟨h1,_⟩:=(main j o ho).2 j' o' ho' t ht;rcases h1 with h1|h1;exfalso
  have:t∈F0f o:=by
    unfold F0f;rw[List.mem_filterMap];exact⟨.tmp t,by simpa using hm,rfl⟩
  simp[this]at h1;rw[List.any_eq_true]at h1;obtain⟨e,he,h2⟩:=h1;simp only[aa]at h2;exact⟨e,by simpa using he,h2.1,ae h2.2⟩;exact((main j o ho).2 j' o' ho' t ht).2.resolve_left hne
theorem A0e {ops:Array Oper} (hi:i<ops.size)(hs:listed.size=ops.size)(h:listed.getD i vB=vB):G0d ops (listed.setIfInBounds i yB)<G0d ops listed:=by
  unfold G0d;refine filter_lt (λj=> !listed.getD j vB) (λj=> !(listed.setIfInBounds i yB).getD j vB) (λx hx=> ?_) i (by rw[h];rfl) (by rw[j0D cV];rfl) _ (bh.2 hi);rw[e0B cV]at hx;by_cases hxi:x=i;rw[qC hxi]at hx;cases hx;rw[wC hxi]at hx;exact hx
theorem K.mapLit (kt:Nat) {VI:List (SV×Option (SV×SV))} {L2:LE} (h:o0I yB c=yB)(hm:P.follows .mixedOrders=yB)(hn:H.length=n)
    (hlit:Go.Sy.mapLit P n kt (h0V c).toList 0 L=qB VI) (hst:t0s (h0V c)=yB) (h0:(match(h0V c)[0]? with|some o=>(match o.op with| .makeMap _ none=>yB|_=>vB)|none=>vB)=yB)
    (hpair:A0b P kt VI=yB) (hes:(esL VI 0 λ_=>yB)=es) (ts:List Nat) (hL:g0F ts (w0m (h0V c).toList VI L)=L2) (k:PJ F Q .normal L2 (H++ [.pmap es])):J F P c L H Q:=by
  cases c<;>first|cases h|skip
  rename_i id ops dr;have hdr:dr=true:=by simpa [o0I]using h
  subst hdr;change Go.Sy.mapLit P n kt ops.toList 0 L=qB VI at hlit;change t0s ops=yB at hst;change (match ops[0]? with|some o=>(match o.op with| .makeMap _ none=>yB|_=>vB)|none=>vB)=yB at h0;change g0F ts (w0m ops.toList VI L)=L2 at hL;subst hn;intro hin a w hs;simp only[b0t,vD]at hin;obtain⟨hlen,hfact⟩:=A0d _ _ _ _ hlit;have ms:=x0l hst;have hget: ∀(j:Nat) (o:Oper),ops[j]?=qB o↔ops.toList[j]?=qB o:=λj o=>by rw[cv]
  obtain⟨o0,ho0,tt0,hop0⟩: ∃o,ops[0]?=qB o/\ ∃t,o.op= .makeMap t none:=by
    split at h0;rename_i o ho;split at h0;rename_i tt hop;exact⟨o,ho,tt,hop⟩;cases h0;cases h0
  have hpos:0<ops.size:=(ak.1 ho0).1
  -- the slots behind all
  have hfin: ∀(j:Nat) (o:Oper) (t:Nat),ops[j]?=qB o->o.dst=qB t-> ∃v:SV×Option (SV×SV),VI[j]?=qB v/\lk (w0m ops.toList VI L) t=v.1:=λj o t ho ht=>by
    obtain⟨v,e,hv,_⟩:=hfact j o ((hget j o).1 ho);exact⟨(v,e),hv,D0D _ _ _ j o (v,e) ((hget j o).1 ho) ht hv λj' o' ho' hne=>ms.apart j' o' j o t ((hget j' o').2 ho') ho ht hne⟩
  have hoth: ∀(t:Nat),(∀(j:Nat) (o:Oper),ops[j]?=qB o->o.dst≠qB t)->lk (w0m ops.toList VI L) t=lk L t:=λt ht=>o0s _ _ _ λo ho=>by
    obtain⟨j,hj⟩:=bq.1 ho;exact ht j o ((hget j o).2 hj)
  refine wp_region_any hm ?_
  have step: ∀fuel listed a w,G0d ops listed<=fuel->N0z F ops VI L H listed a w->wpAny P .any ops Q fuel listed a w:=by
    have done: ∀listed a w,yG .any ops listed=[]->N0z F ops VI L H listed a w->Q .normal a w:=by
      rintro listed a w hr ⟨hsz,ρ,hst',h1,h2,_⟩
      have hall: ∀j,j<ops.size->listed.getD j vB=true:=by
        intro j
        induction j using Nat.strongRecOn with
        |_ j ih=>
          intro hj
          cases hl:listed.getD j vB with
          |true=>rfl
          |false=>
            exfalso
            have:j∈yG .any ops listed:=mem_ready.2 ⟨by rw[y0T cV];exact hl,ops[j],aM hj,λe he _=>by
              have:=ms.before j ops[j] (aM hj) e he
              exact ih e.on this cV⟩
            rw[hr]at this;cases this
      have hρ:ρ=a0r (w0m ops.toList VI L):=by
        funext t;by_cases ht: ∃(j:Nat) (o:Oper),ops[j]?=qB o/\o.dst=qB t;obtain⟨j,o,ho,hd⟩:=ht;obtain⟨v,hv,hv2⟩:=hfin j o t ho hd;obtain⟨v',hv',hv3⟩:=h1 j o t (hall j (ak.1 ho).1) ho hd;rw[hv]at hv';cases hv';rw[hv3];exact hv2.symm;rw[h2 t λj o ho _ hd=>ht ⟨j,o,ho,hd⟩];exact(hoth t λj o ho hd=>ht ⟨j,o,ho,hd⟩).symm
      rw[hall 0 hpos,oC,hρ]at hst'
      have hee:(esL VI 0 λq=>listed.getD q vB)=es:=by
        rw[<-hes];exact A0q VI 0 _ _ λq _ hq=>hall q (by rw[hlen]at hq;simpa using hq)
      rw[hee]at hst';refine k a w ?_;rw[<-hL];exact Sees.keep (L:=w0m ops.toList VI L) hst' (k0Z ts _)
    intro fuel
    induction fuel with
    |zero=>
      intro listed a w hle hI
      have hr:yG .any ops listed=[]:=by
        cases hrr:yG .any ops listed with
        |nil=>rfl
        |cons x xs=>
          exfalso;have hx:x∈yG .any ops listed:=by rw[hrr];simp
          obtain⟨hx1,o,ho,_⟩:=mem_ready.1 hx;have hxl:=(ak.1 ho).1;have hx2:listed.getD x vB=false:=by rw[<-y0T (by rw[hI.1];exact hxl)];exact hx1
          have:=A0e hxl hI.1 hx2;omega
      exact⟨hr,done listed a w hr hI⟩
    |succ fuel ih=>
      intro listed a w hle hI;refine⟨λhr=>done listed a w hr hI,λi hi=> ?_⟩;obtain⟨hi1,o,ho,hdep⟩:=mem_ready.1 hi;obtain⟨hsz,ρ,hst',h1,h2,h3⟩:=hI;have hil:i<ops.size:=(ak.1 ho).1;have hil':i<listed.size:=by omega
      have hiu:listed.getD i vB=false:=by rw[<-y0T hil'];exact hi1
      obtain⟨v,e,hVi,L',⟨hg,hf⟩,hagree⟩:=hfact i o ((hget i o).1 ho);rw[aY]at hf;have hbo:Oper.inB F.n ops o=true:=hin o (aK.2 (Array.mem_of_getElem? ho))
      -- its operands are what they are in the order of the text
      have hval: ∀x∈o.op.operands,a0G ρ x=a0G (a0r L') x:=by
        intro x hx
        cases x with
        |tmp t=>
          have hL':lk (w0m ops.toList VI L) t=lk L' t:=hagree t λq' o' hq ho' hd=>by
            obtain⟨ed,he,_,hon⟩:=ms.deps i o q' o' t ho ((hget q' o').2 ho') hd hx;have:=ms.before i o ho ed he;omega
          show qB (ρ t)=qB (lk L' t);rw[<-hL'];by_cases ht: ∃(j:Nat) (o:Oper),ops[j]?=qB o/\o.dst=qB t;obtain⟨j,oj,hoj,hd⟩:=ht;obtain⟨ed,he,hb,hon⟩:=ms.deps i o j oj t ho hoj hd hx;have hlj:=hdep ed he hb;rw[hon]at hlj;obtain⟨vj,hvj,hρ⟩:=h1 j oj t hlj hoj hd;obtain⟨v',hv',hv2⟩:=hfin j oj t hoj hd;rw[hvj]at hv';cases hv';rw[hρ,hv2];rw[h2 t λj o ho _ hd=>ht ⟨j,o,ho,hd⟩,hoth t λj o ho hd=>ht ⟨j,o,ho,hd⟩]
        |const c=>rfl
        |global g=>rfl
        |func f=>rfl
      have hlt:=A0e hil hsz hiu
      -- what is known behind it
      have next: ∀a' w',St F (m0X ρ o.dst v) (bif(listed.setIfInBounds i yB).getD 0 vB then H++ [.pmap (esL VI 0 λq=>(listed.setIfInBounds i yB).getD q vB)]else H) a' w'->
          (e=none\/listed.getD 0 vB=yB)->wpAny P .any ops Q fuel (listed.setIfInBounds i yB) a' w':=λa' w' hst2 hent=>by
        refine ih _ a' w' cV ⟨by simpa using hsz,m0X ρ o.dst v,hst2,λj oj t hj hoj hd=> ?_,λt ht=> ?_,λj v' kv hj hv'=> ?_⟩;rw[e0B hil']at hj;by_cases hji:j=i;subst hji;rw[ho]at hoj;cases hoj;exact⟨(v,e),hVi,by rw[hd];simp[m0X,upd]⟩;rw[wC hji]at hj;obtain⟨vj,hvj,hρ⟩:=h1 j oj t hj hoj hd;refine⟨vj,hvj, ?_⟩;have hne:=ms.apart i o j oj t ho hoj hd (λe=>hji e.symm)
        cases hod:o.dst with
        |none=>exact hρ
        |some d=>
          simp only[m0X,upd];rw[wC (λe=>hne (by rw[hod,e]))];exact hρ
        · have hne:o.dst≠qB t:=ht i o ho (j0D hil' vB)
          have:=h2 t λj oj hoj hj=>ht j oj hoj (by rw[e0B hil'];split<;>simp[hj])
          cases hod:o.dst with
          |none=>exact this
          |some d=>
            simp only[m0X,upd];rw[wC (λe=>hne (by rw[hod,e]))];exact this
        rw[e0B hil'];split;rfl;rw[e0B hil']at hj;by_cases hji:j=i;subst hji;rw[hVi]at hv';cases hv';rcases hent with h|h;cases h;exact h;rw[wC hji]at hj;exact h3 j v' kv hj hv'
      unfold wpOp;simp only[ho];have hgs:a0Z ops ρ o=qB true:=by unfold a0Z;rw[hg]
      rcases hf with⟨hi0,⟨tt,hop⟩,hv,he⟩|⟨tt,x,kk,u,et,ks,vs,hop,hu,hx,hk,hu2,hd,hkey,⟨ed,hed,hb0,hon0⟩,hv,he⟩|⟨hc,hv,he⟩
      · -- it makes the map
        subst hi0;subst hv;subst he;rw[hiu,oD]at hst';have hst0:=hst';obtain⟨hdef,K,D,hinv⟩:=hst';rw[b0I hinv.slots (Oper.inB_guard hbo) hgs,qC rfl];refine .inl ?_;have hev:a0H P o ρ H H.length=qB ⟨.mp H.length,[],[(H.length, .map [])]⟩\/True:= .inr trivial;have hmk:=u0E (P:=P) (a:=a) (o:=o) (t:=tt) hinv.hinv hop (idx:=H.length) (.inl rfl);obtain⟨r,w',hrun,g⟩:=hmk;unfold Oper.wp;have hset:i0h H H.length (.map [])=H++ [.map []]:=by unfold i0h;rw[wC cV]
        rw[hset]at g
        have hnil:(esL VI 0 λq=>(listed.setIfInBounds 0 yB).getD q vB)=[]:=E0i VI 0 _ λq hq v' e' hv' _=>by
          rw[e0B hil']at hq;by_cases hq0:q=0;subst hq0;rw[bD,hVi]at hv';cases hv';rfl;rw[wC hq0]at hq
          cases e' with
          |none=>rfl
          |some kv=>
            exfalso;have:=h3 q v' kv hq (by simpa using hv');rw[hiu]at this;cases this
        have fin: ∀a',St F (m0X ρ o.dst (.mp H.length)) (H++ [.map []]) a' w'->wpAny P .any ops Q fuel (listed.setIfInBounds 0 yB) a' w':=λa' hs2=>by
          refine next a' w' ?_ (.inl rfl);rw[j0D hil' vB,oC,hnil];have:=hs2.closeMap (i:=H.length) (es:=[]) (es':=[]) dB (.refl _);simpa using this
        rcases hrun with hrun|⟨hrun,hr⟩;rw[hrun];exact fin _ ⟨by rw[a0O];exact hdef,hinv.step g o.dst⟩;rw[hrun];subst hr;exact fin _ ⟨by rw[a0O];exact hdef,hinv.step g o.dst⟩
      · -- it lays an entry
        subst hv;subst he;have hl0:listed.getD 0 vB=true:=by have:=hdep ed hed hb0;rw[hon0]at this;exact this
        have hi0:i≠0:=λe=>by subst e;rw[hiu]at hl0;cases hl0
        rw[hl0,oC]at hst';obtain⟨es',hp,hst2⟩:=hst'.openMap (i:=H.length) (es:=esL VI 0 λq=>listed.getD q vB) (by rw[bN (aj _),Nat.sub_self];rfl);have hset2:(H++ [Ent.pmap (esL VI 0 λq=>listed.getD q vB)]).set H.length (.map es')=H++ [.map es']:=by simp
        rw[hset2]at hst2;obtain⟨hdef,K,D,hinv⟩:=hst2;rw[b0I hinv.slots (Oper.inB_guard hbo) hgs,qC rfl];refine .inl ?_;have hxo: ∀y,y=x\/y=kk\/y=u->y∈o.op.operands:=λy hy=>by rw[hop];rcases hy with rfl|rfl|rfl<;>simp[oB]
        have hfn:p0E P kt es' ks=qB none:=E0c es' λkv hkv=>by
          obtain⟨q,vq,_,hq,hvq⟩:=E0j VI 0 _ kv (hp.mem_iff.1 hkv);rw[bD]at hvq;have hqi:q≠i:=λe=>by subst e;rw[hiu]at hq;cases hq
          have hpp:=List.all_eq_true.1 (List.all_eq_true.1 hpair i (bh.2 (ab.1 hVi).1)) q (bh.2 (ab.1 hvq).1);simp only[hVi,hvq,bH]at hpp;rcases hpp with hpp|hpp;exact absurd (ae hpp).symm hqi;unfold K0I at hpp;split at hpp
          assumption
          cases hpp
        have hev:a0H P o ρ (H++ [.map es']) (H++ [Ent.map es']).length=qB ⟨.undef,[H.length],[(H.length, .map (es'++ [(ks,vs)]))]⟩:=by
          unfold a0H a0k a0q;simp only[hop];unfold m0e;rw[hu,hval x (hxo x (.inl rfl)),hval kk (hxo kk (.inr (.inl rfl))),hval u (hxo u (.inr (.inr rfl))),hx,hk,hu2];simp only[bN (aj _),Nat.sub_self,ci];rw[qC hkey,hfn]
        refine B0k hinv hdef (Oper.inB_op hbo) (.inl rfl) hev λa' w' hst3=> ?_
        refine next a' w' ?_ (.inr hl0)
        have ha:b0e (H++ [Ent.map es']) [(H.length, .map (es'++ [(ks,vs)]))]=H++ [.map (es'++ [(ks,vs)])]:=by
          simp[b0e,i0h]
        rw[ha]at hst3;rw[e0B hil',wC (λe=>hi0 e.symm),hl0,oC]
        have hpp:List.Perm (es'++ [(ks,vs)]) (esL VI 0 λq=>(listed.setIfInBounds i yB).getD q vB):=by
          have h3:=E0h VI 0 i (λq=>listed.getD q vB) .undef (qB (ks,vs)) hiu (bf _) (by rw[bD];exact hVi);have h4:(esL VI 0 λq=>(listed.setIfInBounds i yB).getD q vB)=esL VI 0 λq=>if q=i then yB else listed.getD q false:=q0I VI 0 _ _ λq _=>e0B hil'
          rw[h4];exact(hp.append_right _).trans (by simpa using h3)
        have:=hst3.closeMap (i:=H.length) (es:=esL VI 0 λq=>(listed.setIfInBounds i yB).getD q vB) dB hpp;simpa using this
      · -- something else
        subst he
        have hes2:(esL VI 0 λq=>(listed.setIfInBounds i yB).getD q vB)=esL VI 0 λq=>listed.getD q false:=by
          have h4:(esL VI 0 λq=>(listed.setIfInBounds i yB).getD q vB)=esL VI 0 λq=>if q=i then yB else listed.getD q false:=q0I VI 0 _ _ λq _=>e0B hil'
          rw[h4];exact A0p VI 0 i _ v (by rw[bD];exact hVi) (bf _)
        have hi0:i≠0:=λe=>by
          subst e;rw[ho0]at ho;cases ho;unfold a0k at hv;rw[hop0]at hv;cases hv
        have hv2:a0k P o ρ=qB v:=by rw[p0b hval];exact hv
        obtain⟨hdef,K,D,hinv⟩:=hst';rw[b0I hinv.slots (Oper.inB_guard hbo) hgs,qC rfl];refine .inl ?_;refine B0k hinv hdef (Oper.inB_op hbo) (.inl rfl) (ef:=⟨v,[],[]⟩) (by unfold a0H;rw[hv2]) λa' w' hst3=> ?_
        refine next a' w' ?_ (.inl rfl);rw[hes2,e0B hil',wC (λe=>hi0 e.symm)];exact hst3
  have hfalse: ∀j,(jE ops.size vB).getD j vB=false:=λj=>by
    simp only[Array.getD];split;simp;rfl
  refine step ops.size _ a _ (aG (List.length_filter_le _ _) dB) ⟨dB,a0r L, ?_,λj o t hj=> ?_,λt _=>rfl,λj v kv hj=> ?_⟩;rw[hfalse,oD];obtain⟨hd,K,D,hi⟩:=hs;exact⟨hd,K,D,⟨hi.slots.mono λ_ _=>World.drew_rep,hi.hinv.drew,hi.grow.trans (Grow.drew _ _ _ _)⟩⟩;rw[hfalse]at hj;cases hj;rw[hfalse]at hj;cases hj
def M0s(r:Option (List (SV×Option (SV×SV)))):List (SV×Option (SV×SV)):=match r with|some x=>x|none=> []
theorem K.mapLitC (kt:Nat) {L2:LE} (h:o0I yB c=yB)(hm:P.follows .mixedOrders=yB)(hn:H.length=n)
    (hlit:(Go.Sy.mapLit P n kt (h0V c).toList 0 L).isSome=yB) (hst:t0s (h0V c)=yB) (h0:(match(h0V c)[0]? with|some o=>(match o.op with| .makeMap _ none=>yB|_=>vB)|none=>vB)=yB)
    (hpair:A0b P kt (M0s (Go.Sy.mapLit P n kt (h0V c).toList 0 L))=yB) (hes:(esL (M0s (Go.Sy.mapLit P n kt (h0V c).toList 0 L)) 0 λ_=>yB)=es) (ts:List Nat) (hL:g0F ts (w0m (h0V c).toList (M0s (Go.Sy.mapLit P n kt (h0V c).toList 0 L)) L)=L2)
    (k:PJ F Q .normal L2 (H++ [.pmap es])):J F P c L H Q:=by
  cases hr:Go.Sy.mapLit P n kt (h0V c).toList 0 L with
  |none=>rw[hr]at hlit;cases hlit
  |some VI=>
    rw[hr]at hpair hes hL;exact K.mapLit kt h hm hn hr hst h0 hpair hes ts hL k
theorem v0n {K:Type} {ek:K->SV} {ev:V->SV} (h1: ∀f a,SV.rn f (ek a)=ek a)(h2: ∀f b,SV.rn f (ev b)=ev b)(f:Nat->Nat)(ms:List (K×V)):Ent.rn f (.pmap (d0r ek ev ms))= .pmap (d0r ek ev ms):=by
  simp only[Ent.rn,d0r,bW];congr 1;exact bB λp _=>by simp[h1,h2]
theorem A0Y {K:Type} {ek:K->SV} {ev:V->SV} (h1: ∀m a,SV.refs m (ek a)=yB)(h2: ∀m b,SV.refs m (ev b)=yB)(m:Nat)(ms:List (K×V)):Ent.refs m (.pmap (d0r ek ev ms))=true:=by
  simp[Ent.refs,d0r,h1,h2]
end
end
section
variable [Inhabited GT]
def y0F(P:Program)(o:Oper)(ρ:Env)(H:a0e)(idx:Nat):Option (Eff×Bool):=
  match o.op with
  | .slice t x none hi none=>match P.underlying t,a0G ρ x with
    |some (.array len e),qB (.ptr i off)=>match i0Z ρ hi (len:Int)with
      |some h=>bif qE 0 (P.cellsOf e)then qB (⟨.sl i off h.toNat (P.cellsOf e),[],[]⟩,inS 0 h len)else none
      |none=>none
    |_,_=>none
  | .store t x y=>match a0G ρ x,(a0G ρ y).bind SV.cells? with
    |some (.ptr i off),qB ps=>match H[i]? with
      |some (.box cs)=>bif vC ps.length (P.cellsOf t)&&qE 0 ps.length then qB (⟨.undef,[i],[(i, .box (splice cs off ps))]⟩,qD (off+ps.length) cs.length)else none
      |_=>none
    |_,_=>none
  | .convert src dst x=>match P.underlying src,P.underlying dst,a0G ρ x with
    |some (.slice e),qB .string,qB (.sl j off n k)=>match P.underlying e,H[j]? with
      |some (.int .u8),qB (.box cs)=>bif j0s P src (.sl j off n k)&&vC k 1 then qB (⟨.str (((cs.drop off).take (n*1)).map byteOf),[j],[]⟩,qD (off+n*1) cs.length&&(a0Q ((cs.drop off).take (n*1))&&((cs.drop off).take (n*1)).all p0f))else none
      |_,_=>none
    |_,_,_=>none
  | .call c=>match c.callee with
    | .builtin .append=>match c.args.toList,c.argTypes.toList with
      | [x,y],[t,tx]=>match P.underlying t,a0G ρ x,a0G ρ y with
        |some (.slice e),qB .nl,qB (.sl j off n k)=>match H[j]? with
          |some (.box cs)=>bif j0s P tx (.sl j off n k)&&(vC k (P.cellsOf e)&&i0U P e (P.cellsOf e))then qB (⟨.vc idx,[j],[(idx, .vec n (P.cellsOf e) e ((cs.drop off).take (n*P.cellsOf e)))]⟩,qD (off+n*P.cellsOf e) cs.length&&(a0Q ((cs.drop off).take (n*P.cellsOf e))&&A0P P e n))else none
          |_=>none
        |some (.slice e),qB (.vc i),qB (.sl j off n k)=>match H[i]?,H[j]? with
          |some (.vec n' k' e' cs'),qB (.box cs)=>bif j0s P tx (.sl j off n k)&&(vC k k'&&(vC e e'&&i0U P e k'))then qB (⟨.vc idx,[i,j],[(i, .gone),(idx, .vec (n'+n) k' e (cs'++(cs.drop off).take (n*k')))]⟩,qD (off+n*k') cs.length&&(a0Q ((cs.drop off).take (n*k'))&&A0P P e (n'+n)))else none
          |_,_=>none
        |_,_,_=>none
      |_,_=>none
    |_=>none
  |_=>none
theorem v0z {H:a0e} {idx:Nat} (h:y0F P o ρ H idx=qB (ef,b))(hb:b=yB):a0H P o ρ H idx=qB ef:=by
  unfold y0F at h;split at h;rename_i t x hi ho;split at h;rename_i len e i off hu hx;split at h;rename_i hh hbd
  cases hk:qE 0 (P.cellsOf e)with
  |false=>rw[hk]at h;cases h
  |true=>
    rw[hk]at h;simp only[oC,ah,aD]at h;obtain⟨rfl,rfl⟩:=h;obtain⟨q1,q2,q3⟩:=n0J.1 hb;have hk':0<P.cellsOf e:=ag hk;unfold a0H a0k a0q;simp only[ho,hu,hx,hbd];rw[qC ⟨q2,q3,hk'⟩]
  cases h;cases h;rename_i t x y ho;split at h;rename_i i off ps h1 h2;split at h;rename_i cs h3
  cases hk:(vC ps.length (P.cellsOf t)&&qE 0 ps.length)with
  |false=>rw[hk]at h;cases h
  |true=>
    rw[hk]at h;simp only[oC,ah,aD]at h;obtain⟨rfl,rfl⟩:=h;simp only[aa]at hk;have hle:off+ps.length<=cs.length:=ag hb;unfold a0H a0k a0q;simp only[ho,h1,h2,h3,b0S];rw[qC ⟨ae hk.1,ag hk.2,hle,λh=>by cases h⟩];rfl
  cases h;cases h;rename_i src dst x ho;split at h;rename_i e j off n k h1 h2 h3;split at h;rename_i cs he hj
  cases hk:(j0s P src (.sl j off n k)&&vC k 1)with
  |false=>rw[hk]at h;cases h
  |true=>
    rw[hk]at h;simp only[oC,ah,aD]at h;obtain⟨rfl,rfl⟩:=h;simp only[aa]at hk hb;have hk1:=ae hk.2;subst hk1;have hle:=ag hb.1
    have hsc:w0l 1 (.sl j off n 1) H=qB (n,(cs.drop off).take (n*1),[j]):=by
      unfold w0l;simp only[hj];rw[qC ⟨trivial,hle,hb.2.1⟩]
    unfold a0H a0k a0q;simp only[ho,h1,h2,h3,he,hsc,t0N];rw[qC ⟨hk.1,hb.2.2⟩]
  cases h;cases h;rename_i c ho;split at h;rename_i hc;split at h;rename_i x y t tx ha ht;split at h;rename_i e j off n k hu hx hy;split at h;rename_i cs hj
  cases hk:(j0s P tx (.sl j off n k)&&(vC k (P.cellsOf e)&&i0U P e (P.cellsOf e)))with
  |false=>rw[hk]at h;cases h
  |true=>
    rw[hk]at h;simp only[oC,ah,aD]at h;obtain⟨rfl,rfl⟩:=h;simp only[aa]at hk hb;obtain⟨k1,k2,k3⟩:=hk;have k2:=ae k2;have hle:=ag hb.1
    have hsc:A0J P e (P.cellsOf e) tx (.sl j off n k) H=qB (n,(cs.drop off).take (n*P.cellsOf e),[j]):=by
      unfold A0J;simp only[k1,if_true];unfold w0l;simp only[hj];rw[qC ⟨k2,hle,hb.2.1⟩]
    unfold a0H a0k a0q;simp only[ho,hc,z0m];unfold o0g;simp only[ha,ht,hu,hx,hy,hsc];rw[qC ⟨k3,rfl,s0r hb.2.2⟩]
  cases h;rename_i e i j off n k hu hx hy;split at h;rename_i n' k' e' cs' cs hi hj
  cases hk:(j0s P tx (.sl j off n k)&&(vC k k'&&(vC e e'&&i0U P e k')))with
  |false=>rw[hk]at h;cases h
  |true=>
    rw[hk]at h;simp only[oC,ah,aD]at h;obtain⟨rfl,rfl⟩:=h;simp only[aa]at hk hb;obtain⟨k1,k2,k3,k4⟩:=hk;have k2:=ae k2;have k3:=ae k3;have hle:=ag hb.1
    have hsc:A0J P e k' tx (.sl j off n k) H=qB (n,(cs.drop off).take (n*k'),[j]):=by
      unfold A0J;simp only[k1,if_true];unfold w0l;simp only[hj];rw[qC ⟨k2,hle,hb.2.1⟩]
    unfold a0H a0k a0q;simp only[ho,hc,z0m];unfold o0g;simp only[ha,ht,hu,hx,hy,hi,hsc];rw[qC ⟨k3,k4,rfl,s0r hb.2.2⟩]
  cases h;cases h;cases h;cases h;cases h
section
variable {F : Fr} {P : Program} {L : LE} {H : a0e} {Q : g0o} {m : Option Nat} {ops : Array Oper} {p : Nat} {tr : List (List Nat × List Nat)}
def z0M(P:Program)(m:Option Nat)(ops:Array Oper)(p:Nat)(tr:List (List Nat×List Nat))(L:LE)(H:a0e):Option (Option Nat×Eff×Bool×List (List Nat×List Nat)):=
  match ops.toList[p]? with
  |none=>none
  |some o=>match a0Z ops (a0r L) o with
    |some yB=>bif c0d o then none else match y0F P o (a0r L) H (H0i m ops p H)with
      |some (ef,c)=>bif okM m ops p o ef tr H then qB (o.dst,ef,c,trM m ops p o ef tr)else none
      |none=>none
    |_=>none
theorem RJ.relS {c:Bool} (h:z0M P m ops p tr L H=qB (d,ef,c,tr2))(hc:c=yB)(hn:c=yB->ef=ef')(hH:b0e H ef'.wr=H2)(k:RJ F P m ops (p+1) tr2 (g0r L d ef'.v) H2 Q):RJ F P m ops p tr L H Q:=by
  unfold z0M at h;have hn':=hn hc;subst hn';subst hH;split at h;cases h;rename_i o ho;split at h;rename_i hg
  cases hcc:c0d o with
  |true=>rw[hcc]at h;cases h
  |false=>
    rw[hcc]at h;simp only[oD]at h;split at h;rename_i ef2 c2 he
    cases hok:okM m ops p o ef2 tr H with
    |false=>rw[hok]at h;cases h
    |true=>
      rw[hok]at h;simp only[oC,ah,aD]at h;obtain⟨rfl,rfl,rfl,rfl⟩:=h;exact RJ.step ho hg hcc (v0z he hc) hok k
    cases h
  cases h
end
def inP(o:Nat)(j:Int)(n:Nat):Bool:=wB (0<=j)&&wB ((o:Int)+j<n)
theorem D0T {o:Nat} :inP o j n=yB↔0<=j/\(o:Int)+j<n:=by simp[inP]
section
variable {T : Type} {enc : T -> List SV} {k : Nat}
theorem N.storeB(hk: ∀x,(enc x).length=k) {o:Nat} {xs:List T} {y:T} (h:inP o j xs.length=yB):
    (⟨v,rd,[(i, .box (splice (xs.flatMap enc) (o*k+j.toNat*k) (enc y)))]⟩:Eff)=⟨v,rd,[(i, .box ((b0c xs ((o:Int)+j) y).flatMap enc))]⟩:=by
  obtain⟨h1,h2⟩:=D0T.1 h;rw[<-bV,show o+j.toNat=((o:Int)+j).toNat by omega,w0A hk (g0X.2 ⟨cV,h2⟩)]
theorem w0y(hk: ∀x,(enc x).length=k) {o:Nat} {xs:List T} {y:T} (h:inP o j xs.length=yB):qD (o*k+j.toNat*k+(enc y).length) (xs.flatMap enc).length=true:=by
  obtain⟨h1,h2⟩:=D0T.1 h;rw[<-bV,show o+j.toNat=((o:Int)+j).toNat by omega];exact l0j hk (g0X.2 ⟨cV,h2⟩)
theorem w0w(hk: ∀x,(enc x).length=k)(xs:List T)(o:Nat) {n:Int} (hn:0<=n):((xs.flatMap enc).drop (o*k)).take (n.toNat*k)=(cut xs o ((o:Int)+n)).flatMap enc:=by
  rw[k0l hk,i0Q hk];unfold cut;rw[show((o:Int)+n).toNat=o+n.toNat by omega,bA,List.drop_take];congr 2;omega
theorem G0b(hk: ∀x,(enc x).length=k) {xs:List T} {o:Nat} {n:Int} (h:inS o ((o:Int)+n) xs.length=yB):qD (o*k+n.toNat*k) (xs.flatMap enc).length=true:=by
  obtain⟨_,h1,h2⟩:=n0J.1 h;rw[<-bV,m0i hk,ca];exact aJ k cV
theorem J0v {xs:List T} {o:Nat} {n:Int} (h:inS o ((o:Int)+n) xs.length=yB):(cut xs o ((o:Int)+n)).length=n.toNat:=by
  obtain⟨_,h1,h2⟩:=n0J.1 h;simp[cut];omega
theorem B0f(hp: ∀x,a0Q (enc x)=yB)(xs:List T):a0Q (xs.flatMap enc)=true:=by
  induction xs with
  |nil=>rfl
  |cons x xs ih=>
    rw[aC];unfold a0Q at*;rw[bX,hp x,ih];rfl
theorem K0Z {o:Nat} {n:Int} {len:Nat} (h:inS o ((o:Int)+n) len=yB):0<=n:=by
  obtain⟨_,h1,_⟩:=n0J.1 h;omega
end
section
variable {T : Type} {enc : T -> List SV} {k : Nat}
theorem N.appB(hk: ∀x,(enc x).length=k) {idx e o:Nat} {xs ys:List T} {n:Int} (h:inS o ((o:Int)+n) xs.length=yB):
    (⟨v,rd,[(i, .gone),(idx, .vec (ys.length+n.toNat) k e (ys.flatMap enc++((xs.flatMap enc).drop (o*k)).take (n.toNat*k)))]⟩:Eff)=⟨v,rd,[(i, .gone),(idx, .vec (ys++cut xs o ((o:Int)+n)).length k e ((ys++cut xs o ((o:Int)+n)).flatMap enc))]⟩:=by
  rw[w0w hk xs o (K0Z h),aA,J0v h,bJ]
theorem J0G(hk: ∀x,(enc x).length=k)(hp: ∀x,a0Q (enc x)=yB) {xs:List T} {o:Nat} {n:Int} {r:Bool} (h:inS o ((o:Int)+n) xs.length=yB)(hr:r=yB):
    (qD (o*k+n.toNat*k) (xs.flatMap enc).length&&(a0Q (((xs.flatMap enc).drop (o*k)).take (n.toNat*k))&&r))=true:=by
  rw[w0w hk xs o (K0Z h),G0b hk h,B0f hp,hr];rfl
end
section
variable {F : Fr} {P : Program} {L : LE} {H : a0e} {Q : g0o} {ops : Array Oper} {p : Nat} {tr : List (List Nat × List Nat)}
end
theorem u0u(f:Nat->Nat): ∀a b:List SV,SV.rnL f (a++b)=SV.rnL f a++SV.rnL f b
  | [],b=>rfl
  |x::a,b=>by simp only[be,SV.rnL,u0u f a b]
theorem r0F(m:Nat): ∀a b:List SV,SV.refsL m (a++b)=(SV.refsL m a&&SV.refsL m b)
  | [],b=>by simp[SV.refsL]
  |x::a,b=>by simp only[be,SV.refsL,r0F m a b,Bool.and_assoc]
theorem y0v {enc:T->List SV} (h: ∀f x,SV.rnL f (enc x)=enc x)(f:Nat->Nat)(xs:List T):Ent.rn f (.box (xs.flatMap enc))= .box (xs.flatMap enc):=by
  simp only[Ent.rn];congr 1
  induction xs with
  |nil=>rfl
  |cons x xs ih=>rw[aC,u0u,h,ih]
theorem w0T {enc:T->List SV} (h: ∀m x,SV.refsL m (enc x)=yB)(m:Nat)(xs:List T):Ent.refs m (.box (xs.flatMap enc))=true:=by
  simp only[Ent.refs]
  induction xs with
  |nil=>rfl
  |cons x xs ih=>rw[aC,r0F,h,ih];rfl
end
theorem G0g : ∀(l:List (String×DataW Unit)) (ps:List MemPlace),DataW.LaidVars P w l ps-> ∀nm d,(nm,d)∈l->
    ∃g t cs fuel p,P.globalNamed nm=qB g/\(P.globals[g]?).map (·.type)=qB t/\w.var? P nm=qB cs/\DataW.trod (λ_=>()) P w 0 (λ_=>yB) vB fuel t cs.toList=qB (d,p):=by
  intro l
  induction l with
  |nil=>intro ps _ nm d h;simp at h
  |cons x r ih=>
    intro ps h nm d hm;obtain⟨n,d'⟩:=x;obtain⟨g,t,cs,fuel,p,q,h1,h2,h3,h4,h5,_⟩:=h;rcases aS.1 hm with e|e;cases e;exact⟨g,t,cs,fuel,p,h1,h2,h3,h4⟩;exact ih q h5 nm d e
theorem q0E {laid:List (String×DataW Unit)} (hp:(laid.all λx=>x.2.handleName?.isNone)=yB)(h:laidMetH P laid w) {nm:String} {g t e:Nat} {k:IntKind} (ns:List Int)
    (hm:(nm,DataW.agg (ns.map λz=> .lit (.int k z)))∈laid) (hg:P.globalNamed nm=qB g) (ht:(P.globals[g]?).map (·.type)=qB t) (hu:P.underlying t=qB (.array n e)) (hue:P.underlying e=qB (.int k)) (he:P.cellsOf e=1) (hct:P.cellsOf t=n):
    Rep w (KW w) (λ_=>none) (.pointer (qB ⟨g,0,none⟩)) (.ep (ns.map (SV.int k))):=by
  rw[MakeChecks.laidMetH_plain _ _ _ hp]at h;obtain⟨ps,hl,_,_⟩:=h;obtain⟨g',t',cs,fuel,p,h1,h2,h3,h4⟩:=G0g _ _ hl _ _ hm;obtain rfl:=ar (hg.symm.trans h1);obtain rfl:=ar (ht.symm.trans h2);obtain⟨xs,m,_,ex,hlen,hxl,hel⟩:=DataW.trod_array hu h4;rw[hct]at hlen;have e3:ns.map (λz=>(DataW.lit (.int k z):DataW Unit))=xs.map (·.1):=DataW.agg.inj (Prod.mk.inj ex).1;have hnl:ns.length=n:=by have:=congrArg List.length e3;simpa [hxl]using this
  have hval:cs.toList=ns.map (vJ k):=by
    apply bv;intro i;by_cases hi:i<n;have hE:=hel i hi;rw[he,Nat.mul_one,af (cV:i<xs.length)]at hE;obtain⟨z,e1,e2,_⟩:=DataW.trod_int hue hE;have e4:=congrArg (λl=>l[i]?) e3;simp only[aq,af (cV:i<xs.length),af (cV:i<ns.length),e2,aT,ah,DataW.lit.injEq,Lit.int.injEq,true_and]at e4;rw[aq,af (cV:i<ns.length),aT,e4];have:((cs.toList.drop i).take 1)[0]?=qB (.int k z):=by rw[e1];rfl
    rw[aP,qC cV,List.getElem?_drop]at this;simpa using this;rw[ay cV,ay dA]
  have hcell: ∀(j:Nat) v,(ns.map (vJ k))[j]?=qB v->w.cell? ⟨g,0+j,none⟩=qB v:=λj v hj=>by
    rw[aY,World.var?_cell h1 h3 j];rw[<-hval]at hj;simpa using hj
  refine .ep g 0 (ns.map (vJ k)) _ dB hcell ?_ (λv hv=> ?_) ?_ (λj v c hv hc=> ?_)
  · rw[aY]
    have hsz:w.heap[g]?=none\/ ∃x,w.heap[g]?=qB x:=by cases w.heap[g]?<;>simp
    have hv3:=h3;simp only[World.var?,h1,ai]at hv3;unfold KW;split at hv3;rename_i c a b hb;rw[hb];cases hv3;have:=congrArg List.length hval;simp only[cg,List.length_map]at this⊢;omega;cases hv3
  obtain⟨z,_,rfl⟩:=aX.1 hv;rfl;simp only[a0Q,List.all_map,vD];intro z _;rfl;rw[aq]at hv hc
  cases hx:ns[j]? with
  |none=>rw[hx]at hv;cases hv
  |some z=>rw[hx]at hv hc;cases hv;cases hc;exact .int _ _
section
variable [Inhabited GT]
def csc:Code->Code| .scope a=>a|c=>c
def I0L:Code->Bool| .scope _=>yB|_=>vB
def I0M:Code->Bool| .label _=>yB|_=>vB
section
variable {F : Fr} {P : Program} {c : Code} {L : LE} {H : a0e} {Q : g0o}
theorem K.scope(h:I0L c=yB)(k:J F P (csc c) L H (Exit.noGoto Q)):J F P c L H Q:=by
  cases c<;>first|cases h|skip
  exact λhin a w hs=>wp_scope_straight (k hin a w hs)
theorem K.label(h:I0M c=yB)(k:PJ F Q .normal L H):J F P c L H Q:=by
  cases c<;>first|cases h|skip
  exact λ_ a w hs=>wp_label (k a w hs)
end
theorem SC.byteIdx {s:List UInt8} {c:Int} (hc:b0u P f=yB)(h: ∀(b:ByteArray) (c:Int) (w:World),Calls P f #[.string b, .int .u8 c] w λe w'=>e= .returned (.int .i64 (Lib.indexByte b.data.toList c.toNat.toUInt8))/\w'=w):
    SC P f [.str s, .int .u8 c] [] (.int .i64 (Lib.indexByte s c.toNat.toUInt8)) []:=by
  refine⟨hc,λw K D vals hl hrep hi hG=> ?_⟩
  match vals,hl,hrep with
  | [x,y],_,hrep=>
    have h0:=hrep 0 x _ rfl rfl;have h1:=hrep 1 y _ rfl rfl
    cases h0 with
    |str b=>
    cases h1 with
    |int _ _=>
    refine(h b c w).mono ?_;rintro e w' ⟨he,rfl⟩;exact⟨_,he,Good.here hi (.int _ _)⟩
theorem L0r {γ:Type} {f:α->Option γ} {g:β->Option γ} {a:α} {r:γ} (h:qG f g (.inl a)=qB r):f a=qB r:=h
theorem L0q {γ:Type} {f:α->Option γ} {g:β->Option γ} {b:β} {r:γ} (h:qG f g (.inr b)=qB r):g b=qB r:=h
end
section
variable [Inhabited GT]
section
variable {F : Fr} {P : Program} {c : Code} {L : LE} {H : a0e} {Q : g0o} {ops : Array Oper} {p : Nat}
theorem kI [Inhabited T] {enc:T->List SV} {xs:List T} (d:Nat)(hk: ∀x,(enc x).length=k)(hm:inR j xs.length=yB)(kk:RJ F P none ops (p+1) [] (g0r L (qB d) (.ep (enc (nth xs j)))) H Q)
    (h:u0d P none ops p [] L H=qB (qB d,⟨.ep (((xs.flatMap enc).drop (j.toNat*k)).take k),[],[]⟩,inR j xs.length,[]):=by kernel_rfl):RJ F P none ops p [] L H Q:=
  RJ.rel h hm (λhc=>N.idx hk hc) rfl kk
theorem kG {s:List UInt8} (d:Nat)(hm:inR j s.length=yB)(kk:RJ F P none ops (p+1) [] (g0r L (qB d) (.int .u8 (((s.getD j.toNat 0).toNat:Nat):Int))) H Q)
    (h:u0d P none ops p [] L H=qB (qB d,⟨.int .u8 (((s.getD j.toNat 0).toNat:Nat):Int),[],[]⟩,inR j s.length,[]):=by kernel_rfl):RJ F P none ops p [] L H Q:=
  RJ.rel h hm (λ_=>rfl) rfl kk
theorem kA (d:Nat)(hs:SC P f args [] v [])(kk:RJ F P none ops (p+1) [] (g0r L (qB d) v) H Q)(h:i0c none ops p [] L []=qB (qB d,f,args,[]):=by kernel_rfl)(hr:SV.refsL 0 args=true:=by kernel_rfl)(hv:SV.refs 0 v=true:=by kernel_rfl):RJ F P none ops p [] L H Q:=by
  refine RJ.call0 h hr ?_ hs hv kk;exact LeL.refl args
theorem kB {m:Option Nat} {tr:List (List Nat×List Nat)} {X Y:α} {r:α} (d:Nat)(h:(bif b then X else Y)=r)(h1:X=r->RJ F P m ops p tr ((d, .bool yB)::L) H Q)(h2:Y=r->RJ F P m ops p tr ((d, .bool vB)::L) H Q)
    (hd:lk L d= .bool b:=by kernel_rfl):RJ F P m ops p tr L H Q:=RJ.caseB d hd (λhb=>h1 (condT hb h)) (λhb=>h2 (condF hb h))
variable {m : Option Nat} {tr tr2 : List (List Nat × List Nat)}
theorem kQ (d:Nat)(v:SV)(rd:List Nat)(hm:b=yB)(kk:RJ F P m ops (p+1) tr2 (g0r L (qB d) v) H Q)(h:u0d P m ops p tr L H=qB (qB d,⟨v,rd,[]⟩,b,tr2):=by kernel_rfl):RJ F P m ops p tr L H Q:=RJ.rel h hm (λ_=>rfl) rfl kk
theorem kJ [Inhabited T] {enc:T->List SV} {xs:List T} (d:Nat)(hk: ∀x,(enc x).length=k)(hm:inR j xs.length=yB)(kk:RJ F P m ops (p+1) tr2 (g0r L (qB d) (.ep (enc (nth xs j)))) H Q)
    (h:u0d P m ops p tr L H=qB (qB d,⟨.ep (((xs.flatMap enc).drop (j.toNat*k)).take k),[],[]⟩,inR j xs.length,tr2):=by kernel_rfl):RJ F P m ops p tr L H Q:=RJ.rel h hm (λhc=>N.idx hk hc) rfl kk
theorem kCG (d:Option Nat)(σ:List Nat)(hs:SC P f args0 H0 v0 H0')(kk:RJ F P none ops (p+1) [] (g0r L d v) H2 Q)(h:i0c none ops p [] L []=qB (d,f,args,[]):=by kernel_rfl)(ha:args=SV.rnL (b0b σ) args0:=by kernel_rfl)
    (hl:σ.length=H0.length:=by kernel_rfl) (hg:σ.map (λi=>H[i]?)=H0.map (λen=>qB (Ent.rn (b0b σ) en)):=by kernel_rfl) (hn:σ.Nodup:=by decide) (hr0:H0.all (Ent.refs H0.length)=true:=by kernel_rfl) (hlive:H0.all h0p=true:=by kernel_rfl) (hr:SV.refsL H0.length args0=true:=by kernel_rfl)
    (hle':qD H0.length H0'.length=true:=by kernel_rfl) (hv:SV.rn (gOf (b0b σ) H0.length H.length) v0=v:=by kernel_rfl) (hH:d0M (b0b σ) H0.length H H0'=H2:=by kernel_rfl):RJ F P none ops p [] L H Q:=
  RJ.callG σ h ha hl hg hn hr0 hlive hr (LeL.refl _) hs hle' hv hH kk
theorem kW {L2:LE} (hm:F.H0=H0)(hdom: ∀i,F.H0.length<=i->F.D0 i=none)(σ:List Nat)(kk:PJ F Q e L2 H2)(hl:σ.length=H2.length:=by kernel_rfl)(hg:σ.map (λi=>H[i]?)=H2.map (λen=>qB (Ent.rn (b0b σ) en)):=by kernel_rfl)(hn:σ.Nodup:=by decide)
    (hr:H2.all (Ent.refs H2.length)=true:=by kernel_rfl) (hk:σ.take H0.length=yC H0.length:=by kernel_rfl) (hv:L2.map (λp=>lk L p.1)=L2.map (λp=>SV.rn (b0b σ) p.2):=by kernel_rfl) (hvr:L2.all (λp=>SV.refs H2.length p.2)=true:=by kernel_rfl):PJ F Q e L H:=
  PJ.wk (Wk.sel H0.length (by rw[hm]) hdom σ hl hg hn hr hk hv hvr) kk
theorem kLN {R:S->LE×a0e} {o:O} {s':S} (ts:List Nat)(hL:g0F ts L=(R s').1:=by kernel_rfl)(hH:H=(R s').2:=by kernel_rfl):PJ F (p0B F R Q o (.inl s')) .normal L H:=PJ.loopNext ts hL hH
theorem kb(i:Nat)(k:J F P (cb c) L H (zF i Q))(h:y0Q i c=true:=by kernel_rfl):J F P c L H Q:=K.block i h k
theorem kl {step:S->Option (S⊕O)} {s0:S} {o:O} (R:S->LE×a0e)(ho:a0n step n s0=qB o)(ts:List Nat)(body: ∀s x,step s=qB x->J F P (cp c) (R s).1 (R s).2 (p0B F R Q o x))(h:D0P c=true:=by kernel_rfl)(hL:g0F ts L=(R s0).1:=by kernel_rfl)(hH:H=(R s0).2:=by kernel_rfl):J F P c L H Q:=
  K.loop h R ho ts hL hH body
end
end
end Go.Sy
