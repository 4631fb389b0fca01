import Derived.Still
import Derived.KernelRfl
import Derived.ProofKit
import Derived.SizedLaws
import Derived.OpenShut
import Derived.Laws.Cover3
import Derived.Laws.IdiomRangeMap
import Derived.MakeChecks
import Derived.ChangeArms
import Derived.FnData
import Derived.Scope
import Derived.Lib.Bytealg
import Derived.Laws.Externs
import Derived.Test.YtenbbnahajjhnaaGreatDoorSa
set_option linter.all false
namespace Go.Sy
open Go Go.RowKit
open _root_.Array renaming getD->yF,replicate->vD
open Go.Code renaming wp_mono->jI
open Go.Exit renaming inBlock->vF
open Go.IntKind renaming bits->jG,signed->qF,wrap->jA
open _root_.List renaming all_eq_true->qD,range->wC,range'->vG,replicate->wD
open _root_.Nat renaming beq->jC,ble->oC,blt->jE
open Go.Op renaming operands->qB
open _root_.Prod renaming fst->yE,snd->jJ
open Go.Region renaming binds->oD,lexB->qG,lexFrom->oI,ready->vE
open Go.Result renaming andThen->oE,andThen_ok->yC
open Go.Sem renaming run_bind->zD,run_pure->qE
open _root_.Sum renaming elim->yD
open _root_.UInt8 renaming ofNat->zG
open Go.Utf8 renaming encode->oH
open Go.Value renaming int->vI
open _root_.Decidable renaming decide->vA
open _root_.Bool renaming false->oA,true->yA
open _root_.Option renaming some->qA
variable {o:Oper} {ops:Array Oper} {base i id n k:Nat} {ef ef':Eff} {x y:Operand} {P:Program} {ρ ρ':Env} {H' H0 H0' H2:a0e} {f:FuncId} {args args0 cs args':List SV} {v0 v s v1 s0:SV} {en0:Ent} {d:Option Nat} {t e kt:TypeId} {w w':World} {D:DM} {r:Value} {g:Nat->Nat} {tm:Array Value} {a:Act} {c c1 c2:Code} {b:Bool} {tr2:List (List Nat×List Nat)} {S O X α β T V A R:Type} {j l h:Int} {rd:List Nat} {F:Fr} {fs:Array Field} {es:List (SV×SV)} {listed:Array Bool}
section
variable [Inhabited GT]
def c0H(o:Oper):Bool:=
  match o.op with
  | .box _ _=>yA
  | .alloc _=>yA
  | .buildSlice _ _ _=>yA
  | .makeSlice _ _ _=>yA
  | .makeMap _ _=>yA
  | .call c=>match c.callee with
    | .builtin .append=>yA
    | .value _=>yA
    |_=>oA
  |_=>oA
theorem i0n (h:b0M o=yA):c0H o=true:=by
  unfold b0M at h;unfold c0H;split at h;rename_i c ho;split at h;rename_i f hf;simp[ho,hf];cases h;cases h
def d0S(ops:Array Oper)(base i:Nat):Nat:=base+((ops.toList.take i).filter c0H).length
def a0Q(H:a0e):List (Nat×Ent)->a0e
  | []=>H
  |(i,en)::r=>a0Q (H.set i en) r
def i0u(o:Oper):Bool:=
  match o.op with
  | .indexAddr _ _ _=>yA
  | .call c=>match c.callee with
    | .builtin .len=>yA
    |_=>oA
  |_=>oA
def j0w(o:Oper):Bool:=
  match o.op with
  | .store _ _ _=>yA
  |_=>oA
def B0M(x:Nat):List Nat:=[2*x,2*x+1]
def f0M(o:Oper)(ef:Eff):List Nat:=bif i0u o then ef.rd.map (λx=>2*x+1)else ef.rd.flatMap B0M
def e0L(ops:Array Oper)(base i:Nat)(o:Oper)(ef:Eff):List Nat:=(bif j0w o then ef.wr.map (λx=>2*x.1)else ef.wr.flatMap λx=>B0M x.1)++(if c0H o then B0M (d0S ops base i)else [])
def k0F(a b:Option Ent):Prop:=a=b\/(∃n k e cs cs',a=qA (.vec n k e cs)/\b=qA (.vec n k e cs'))\/ ∃cs cs',a=qA (.box cs)/\b=qA (.box cs')
theorem u0n {x:Nat} (h:x∈ef.wr.map yE):2*x∈e0L ops base i o ef:=by
  obtain⟨y,hy,rfl⟩:=aN.1 h;unfold e0L;refine aw.2 (.inl ?_)
  cases j0w o with
  |true=>exact aN.2 ⟨y,hy,rfl⟩
  |false=>exact bl.2 ⟨y,hy,by simp[B0M]⟩
theorem I0a {x:Nat} (hs:j0w o=oA)(h:x∈ef.wr.map yE):2*x+1∈e0L ops base i o ef:=by
  obtain⟨y,hy,rfl⟩:=aN.1 h;unfold e0L;refine aw.2 (.inl ?_);rw[hs];exact bl.2 ⟨y,hy,by simp[B0M]⟩
theorem w0S (h:c0H o=yA):2*d0S ops base i∈e0L ops base i o ef:=by
  unfold e0L;rw[yB h];exact aw.2 (.inr (by simp[B0M]))
theorem n0O {x:Nat} (hs:i0u o=oA)(h:x∈ef.rd):2*x∈f0M o ef:=by
  unfold f0M;rw[hs];exact bl.2 ⟨x,h,by simp[B0M]⟩
theorem H0u {x:Nat} (h:x∈ef.rd):2*x+1∈f0M o ef:=by
  unfold f0M
  cases i0u o with
  |true=>exact aN.2 ⟨x,h,rfl⟩
  |false=>exact bl.2 ⟨x,h,by simp[B0M]⟩
theorem t0I {H:a0e} {idx:Nat} (hs:i0u o=yA)(h: ∀x∈o.op.operands,a0L ρ x=a0L ρ' x)(he:a0E P o ρ H idx=qA ef)(hr: ∀i∈ef.rd,k0F (H'[i]?) (H[i]?)):a0E P o ρ' H' idx=qA ef:=by
  have hloc:a0E P o ρ' H idx=qA ef:=g0o h he (λ_ _=>rfl);clear he h;unfold a0E at hloc⊢;split;rename_i v hv;rw[hv]at hloc;exact hloc;rename_i hv;rw[hv]at hloc;simp only at hloc;unfold i0u at hs;split at hs;rename_i t x y ho;simp only[a0p,ho]at hloc⊢;split at hloc;rename_i e i kk j h1 h2 h3;split at hloc;rename_i n k e' cs hH;split at hloc;rename_i hc;cases hloc;rcases hr i (by simp)with hq|⟨n',k',e2,cs1,cs2,q1,q2⟩|⟨cs1,cs2,q1,q2⟩;rw[hq,hH];simp only;rw[yB hc];rw[hH]at q2;cases q2;rw[q1];simp only;rw[yB hc];rw[hH]at q2;cases q2;cases hloc;cases hloc;cases hloc;rename_i c ho;split at hs;rename_i hc;simp only[a0p,ho,hc]at hloc⊢;split at hloc;rename_i x t h1 h2;split at hloc;rename_i e i h3 h4;split at hloc;rename_i n k e' cs hH;cases hloc;rcases hr i (by simp)with hq|⟨n',k',e2,cs1,cs2,q1,q2⟩|⟨cs1,cs2,q1,q2⟩;rw[hq,hH];rw[hH]at q2;cases q2;rw[q1];rw[hH]at q2;cases q2;cases hloc;cases hloc;cases hloc;cases hs;cases hs
def o0Y(r1 w1 r2 w2:List Nat):Bool:=w1.all (λx=> !r2.contains x&& !w2.contains x)&&w2.all (λx=> !r1.contains x)
def J0T(P:Program)(ρ:Env)(o:Oper)(H:a0e)(ef:Eff):Prop:=
  ∃f args g args0 H0 v0,d0L ρ o=qA (f,args)/\args=SV.rnL g args0/\Sel H g H0/\(∀en∈H0,e0y en=yA)/\SV.refsL H0.length args0=yA/\SV.refs H0.length v0=yA/\SC P f args0 H0 v0 H0/\
    ef=⟨SV.rn g v0,(wC H0.length).map g,[]⟩
def J0U(P:Program)(ρ:Env)(o:Oper)(H:a0e)(idx:Nat)(ef:Eff):Prop:=
  ∃f args v0 en0,d0L ρ o=qA (f,args)/\SV.refsL 0 args=yA/\SC P f args [] v0 [en0]/\(H[idx]?=qA .res/\ ∀g,Ent.rn g en0=en0)/\ef=⟨SV.rn (λ_=>idx) v0,[],[(idx,en0)]⟩
def m0j(g:Nat->Nat)(n:Nat)(H0':a0e):List (Nat×Ent):=(wC n).map λj=>(g j,Ent.rn g (H0'.getD j .gone))
def J0S(P:Program)(ρ:Env)(o:Oper)(H:a0e)(ef:Eff):Prop:=
  ∃f args g args0 H0 v0 H0',d0L ρ o=qA (f,args)/\args=SV.rnL g args0/\Sel H g H0/\(∀en∈H0,e0y en=yA)/\SV.refsL H0.length args0=yA/\SV.refs H0.length v0=yA/\SC P f args0 H0 v0 H0'/\
    H0'.length=H0.length/\(∀(j:Nat) (en:Ent),H0'[j]?=qA en->Ent.refs H0.length en=yA)/\ef=⟨SV.rn g v0,(wC H0.length).map g,m0j g H0.length H0'⟩
def pOf(f:Nat->Nat)(m idx:Nat):Nat->Nat:=λj=>if j<m then f j else idx
def J0R(P:Program)(ρ:Env)(o:Oper)(H:a0e)(idx:Nat)(ef:Eff):Prop:=
  ∃f args g args0 H0 v0 H0',d0L ρ o=qA (f,args)/\args=SV.rnL g args0/\Sel H g H0/\(∀en∈H0,e0y en=yA)/\SV.refsL H0.length args0=yA/\SC P f args0 H0 v0 H0'/\
    H0'.length=H0.length+1/\H[idx]?=qA .res/\ef=⟨SV.rn (pOf g H0.length idx) v0,(wC H0.length).map g,m0j (pOf g H0.length idx) (H0.length+1) H0'⟩
def J0Q(P:Program)(ρ:Env)(o:Oper)(H:a0e)(idx:Nat)(ef:Eff):Prop:=
  ∃f args g args0 H0 v0 en0,d0L ρ o=qA (f,args)/\args=SV.rnL g args0/\Sel H g H0/\(∀en∈H0,e0y en=yA)/\SV.refsL H0.length args0=yA/\SC P f args0 H0 v0 (H0++ [en0])/\
    H[idx]?=qA .res/\ef=⟨SV.rn (pOf g H0.length idx) v0,(wC H0.length).map g,[(idx,Ent.rn (pOf g H0.length idx) en0)]⟩
def I0w(P:Program)(ρ:Env)(o:Oper)(H:a0e)(idx:Nat)(ef:Eff):Prop:=J0T P ρ o H ef\/J0U P ρ o H idx ef\/J0S P ρ o H ef\/J0R P ρ o H idx ef\/J0Q P ρ o H idx ef
def opD(P:Program)(ops:Array Oper)(base i:Nat)(o:Oper)(ρ:Env)(H:a0e)(ef:Eff):Prop:=
  match b0n ops ρ o with
  |some yA=>if b0M o then I0w P ρ o H (d0S ops base i) ef else
      (a0E P o ρ H (d0S ops base i)=qA ef\/(k0V P o ρ H (d0S ops base i)=qA ef/\c0H o=yA))/\(c0H o=yA->H[d0S ops base i]?=qA .res)/\ ∀x∈ef.wr,x.1<H.length
  |some oA=>ef=⟨.tup [],[],[]⟩
  |none=>False
def k0g(o:Oper)(rd fw:List Nat):List (List Nat×List Nat)->Nat->Bool
  | [],_=>yA
  |(r',w')::r,j=>(o.after.any (λe=>oD .any e&&e.on==j)||o0Y r' w' rd fw)&&k0g o rd fw r (j+1)
def y0Q(P:Program)(ops:Array Oper)(base:Nat):List (List Nat×List Nat)->List Oper->(Env->a0e->Prop)->Env->a0e->Prop
  |_,[],K,ρ,H=>K ρ H
  |tr,o::rest,K,ρ,H=> ∃ef,opD P ops base tr.length o ρ H ef/\k0g o (f0M o ef) (e0L ops base tr.length o ef) tr 0=yA/\y0Q P ops base (tr++ [(f0M o ef,e0L ops base tr.length o ef)]) rest K (g0R ρ o.dst ef.v) (a0Q H ef.wr)
theorem SC.place {H:a0e} {idx:Nat} (h:SC P f args [] v0 [en0])(hr:SV.refsL 0 args=yA)(hres:H[idx]?=qA .res)(hE: ∀g,Ent.rn g en0=en0):
    SC P f args H (SV.rn (λ_=>idx) v0) (H.set idx en0):=by
  refine⟨h.1,λw K D vals hlen hrep hi hG=> ?_⟩;have hil:idx<H.length:=(ae.1 hres).1;have hDi:D idx=none:=hi.ent idx _ hres
  have hsel:Sel H (λj=>j) []:=⟨λj en hj=>by simp at hj,λi j hi=>by simp at hi,λj en hj=>by simp at hj⟩
  have hrn: ∀(s:SV),SV.refs 0 s=yA->SV.rn (λj=>j) s=SV.rn (λj=>j) s:=λ_ _=>rfl
  refine(h.2 w K (k0l D (λj=>j) 0) vals hlen (λj x c hx hc=> ?_) (hsel.hinv hi) (g0Y hG)).mono ?_;have hc0:=d0A hr j c hc
  have hid: ∀s,SV.refs 0 s=yA->Rep w K D x s->Rep w K (k0l D (λj=>j) 0) x s:=by
    intro s hs hx;have hu:=k0J (D':=D) (g:=λj=>j) hx (λ_ _ e=>e);exact f0o hu s rfl hs
  exact hid c hc0 (hrep j x c hx hc);rintro ex w' ⟨r,he,K',Ds,g,hi',hrr⟩;have nomem: ∀b,¬Mem (k0l D (λj=>j) 0) [] b:=by rintro b ⟨i,en,c,n,h1,_⟩;simp at h1
  have hDs: ∀j x,Ds j=qA x->(λi=>if i=idx then Ds 0 else D i) idx=qA x:=by
    intro j x hx
    cases j with
    |zero=>simpa using hx
    |succ j=>rw[hi'.dom (j+1) (by simp)]at hx;cases hx
  have hnewb: ∀b c m,e0y en0=yA->Ds 0=qA (.at b c m)->w.heap.size<=b:=λb c m hlv hd=>by
    rcases g.new b ⟨0,_,c,m,rfl,hlv,hd⟩with h1|h1;exact absurd h1 (nomem b);exact h1
  have hget: ∀i en,(H.set idx en0)[i]?=qA en->(i=idx/\en=en0)\/(i≠idx/\H[i]?=qA en):=by
    intro i en hie;rw[aW]at hie;by_cases hii:idx=i;subst hii;rw[yB rfl,yB hil]at hie;cases hie;exact .inl ⟨rfl,rfl⟩;rw[oB hii]at hie;exact .inr ⟨Ne.symm hii,hie⟩
  refine⟨r,he,K',λi=>if i=idx then Ds 0 else D i,⟨g.os,g.tape,g.output,g.size,λb hb _=>g.block b hb (nomem b),g.cells,g.le,λb hb _=>g.kk b hb (nomem b),λi x hx=> ?_,λb hm=> ?_⟩,
    ⟨λi hle=> ?_,λi en hie=> ?_,λi j en en' b c m c' m' hie hje hl hl' hd hd'=> ?_,hi'.kw⟩,k0J hrr hDs⟩
  by_cases hii:i=idx;subst hii;rw[hDi]at hx;cases hx;simp only[oB hii];exact hx;obtain⟨i,en,c,m,h1,h2,h3⟩:=hm;rcases hget i en h1 with⟨rfl,rfl⟩|⟨hne,h4⟩;simp only[yB rfl]at h3;exact .inr (hnewb b c m h2 h3);simp only[oB hne]at h3;exact .inl ⟨i,en,c,m,h4,h2,h3⟩;simp only[List.length_set]at hle;simp only[oB (show i≠idx by omega)];exact hi.dom i hle;rcases hget i en hie with⟨rfl,rfl⟩|⟨hne,h4⟩;have h9:=A0Y (D':=λq=>if q=i then Ds 0 else D q) (g:=λ_=>i) (hi'.ent 0 _ rfl) hDs (λhn=>by simpa using hn);rw[hE]at h9;exact h9
  refine(hi.ent i en h4).keep (λv s hr0=>hr0.mono g.cells g.le (λq x hx=>by
      by_cases hqi:q=idx;subst hqi;rw[hDi]at hx;cases hx
      simp only[oB hqi];exact hx)) (by simp only[oB hne]) (λb c m hl hd=> ?_)
  have hb:=(j0a hi ⟨i,en,c,m,h4,hl,hd⟩).1;exact⟨g.block b hb (nomem b),g.kk b hb (nomem b)⟩
  · rcases hget i en hie with⟨rfl,rfl⟩|⟨hne,h4⟩<;>rcases hget j en' hje with⟨rfl,rfl⟩|⟨hne',h4'⟩
    rfl;exfalso;simp only[yB rfl]at hd;simp only[oB hne']at hd';have h1:=hnewb b c m hl hd;have h2:=(j0a hi ⟨j,en',c',m',h4',hl',hd'⟩).1;omega;exfalso;simp only[oB hne]at hd;simp only[yB rfl]at hd';have h1:=hnewb b c' m' hl' hd';have h2:=(j0a hi ⟨i,en,c,m,h4,hl,hd⟩).1;omega;simp only[oB hne]at hd;simp only[oB hne']at hd';exact hi.inj i j en en' b c m c' m' h4 h4' hl hl' hd hd'
section
variable {P : Program} {ops : Array Oper} {base : Nat} {md : Region.Mode}
theorem d0d: ∀(wr:List (Nat×Ent)) (H:a0e),(a0Q H wr).length=H.length
  | [],H=>rfl
  |(i,en)::r,H=>by simp[a0Q,d0d r]
theorem n0y: ∀(wr:List (Nat×Ent)) (H:a0e),(∀x∈wr,x.1<H.length)->b0H H wr=a0Q H wr
  | [],H,_=>rfl
  |(i,en)::r,H,h=>by
    simp only[b0H,a0Q];have hi:=h (i,en) (av ..);have:g0i H i en=H.set i en:=by unfold g0i;rw[yB hi]
    rw[this];exact n0y r _ (λx hx=>by rw[List.length_set];exact h x (ao _ hx))
theorem l0x: ∀(wr:List (Nat×Ent)) (H:a0e) (i:Nat),i∉wr.map yE->(a0Q H wr)[i]?=H[i]?
  | [],H,i,_=>rfl
  |(j,en)::r,H,i,h=>by
    simp only[ah,aG,not_or]at h;simp only[a0Q];rw[l0x r _ i h.2,aW,oB (Ne.symm h.1)]
theorem r0b: ∀(wr:List (Nat×Ent)) (H:a0e) (i:Nat) (en:Ent),i∉wr.map yE->a0Q (H.set i en) wr=(a0Q H wr).set i en
  | [],H,i,en,_=>rfl
  |(j,en')::r,H,i,en,h=>by
    simp only[ah,aG,not_or]at h;simp only[a0Q];rw[List.set_comm _ _ h.1,r0b r _ i en h.2]
theorem m0D: ∀(w1 w2:List (Nat×Ent)) (H:a0e),(∀x∈w1.map yE,x∉w2.map yE)->a0Q (a0Q H w1) w2=a0Q (a0Q H w2) w1
  | [],w2,H,_=>rfl
  |(i,en)::r,w2,H,h=>by
    simp only[a0Q];have h1:=h i (by simp);rw[m0D r w2 _ (λx hx=>h x (by simp[hx])),r0b w2 H i en h1]
theorem r0t {r1 w1 r2 w2:List Nat} (h:o0Y r1 w1 r2 w2=yA):(∀x∈w1,x∉r2/\x∉w2)/\ ∀x∈w2,x∉r1/\x∉w1:=by
  simp only[o0Y,aa,qD,cJ,List.contains_eq_mem,decide_eq_false_iff_not]at h;exact⟨λx hx=>h.1 x hx,λx hx=>⟨h.2 x hx,λh1=>(h.1 x h1).2 hx⟩⟩
theorem i0a {d:Option Tmp} (h: ∀t,d=qA t->x≠ .tmp t):a0L (g0R ρ d v) x=a0L ρ x:=by
  cases d with
  |none=>rfl
  |some t=>
    cases x with
    |tmp u=>
      have hne:u≠t:=λe=>h t rfl (by rw[e])
      simp[a0L,g0R,upd,hne]
    |_=>rfl
theorem h0h {d:Option Tmp} (h: ∀t,d=qA t->t∉o.looksAt ops):b0n ops (g0R ρ d v) o=b0n ops ρ o:=by
  unfold b0n
  cases hg:o.guard with
  |none=>rfl
  |some p=>
    obtain⟨j,want⟩:=p;simp only
    cases hd:(ops[j]?).bind (·.dst)with
    |none=>rfl
    |some e=>
      simp only
      cases d with
      |none=>rfl
      |some t=>
        have hne:e≠t:=λhe=>h t rfl (by
          unfold Oper.looksAt;rw[hg];simp only[hd]
          exact aw.2 (.inr (by simp[he])))
        simp[g0R,upd,hne]
theorem u0X {H:a0e} {idx:Nat} (hs:j0w o=yA)(he:a0E P o ρ H idx=qA ef)(x:Nat):k0F ((a0Q H ef.wr)[x]?) (H[x]?):=by
  unfold j0w at hs;split at hs;rename_i t a b ho;unfold a0E at he;split at he;cases he;exact .inl rfl;simp only[a0p,ho]at he;split at he;rename_i i off ps h1 h2;split at he;rename_i en hH;split at he;rename_i cs hcs;split at he;cases he;simp only[a0Q];rw[aW];by_cases hxi:i=x;subst hxi;have hil:=(ae.1 hH).1;rw[yB rfl,yB hil,hH]
  cases en with
  |vec n k e cs0=>exact .inr (.inl ⟨n,k,e,_,cs0,rfl,rfl⟩)
  |box cs0=>exact .inr (.inr ⟨_,cs0,rfl,rfl⟩)
  |res=>simp[b0R]at hcs
  |gone=>simp[b0R]at hcs
  |map es=>simp[b0R]at hcs
  |itr m n s=>simp[b0R]at hcs
  |lop tm ps as bd st pd=>simp[b0R]at hcs
  |dfr=>simp[b0R]at hcs
  |pmap es=>simp[b0R]at hcs
  rw[oB hxi];exact .inl rfl;cases he;cases he;cases he;cases he;cases hs
theorem d0s {t:Tmp} (h:t∉o.looksAt ops) (hx:x∈o.op.operands):x≠ .tmp t:=by
  intro e;subst e;refine h (aw.2 (.inl (List.mem_filterMap.2 ⟨.tmp t,aD.2 hx,rfl⟩)))
theorem d0W (h: ∀x∈o.op.operands,a0L ρ x=a0L ρ' x):d0L ρ o=d0L ρ' o:=by
  unfold d0L;split;rename_i c ho;unfold p0p;split;rename_i f hf;rw[h f (by simp[ho,qB,Call.operands,hf])];rw[n0X c.args.toList (λx hx=>h x (by simp only[ho,qB,Call.operands];exact bQ.2 (.inr (aD.1 hx))))];rfl;rfl
theorem g0e (h:b0M o=yA):i0u o=false:=by
  unfold b0M at h;unfold i0u;split at h;rename_i c ho;split at h;rename_i f hf;simp[ho,hf];cases h;cases h
theorem o0l (h:c0H o=yA):i0u o=false:=by
  unfold c0H at h;unfold i0u;cases ho:o.op<;>rw[ho]at h<;>simp only at h⊢ <;>first|rfl|(cases h;done)|skip
  rename_i c;split at h<;>rename_i hc<;>first|(cases h;done)|simp[hc]
theorem j0i (h:c0H o=yA):j0w o=false:=by
  unfold c0H at h;unfold j0w;cases ho:o.op<;>rw[ho]at h<;>simp only at h⊢ <;>first|rfl|(cases h;done)
theorem q0R (h:b0M o=yA):j0w o=false:=j0i (i0n h)
theorem m0Z {H:a0e} (h:opD P ops base i o ρ H ef):
    (∀x,2*x∉e0L ops base i o ef->(a0Q H ef.wr)[x]?=H[x]?)/\ ∀x,2*x+1∉e0L ops base i o ef->k0F ((a0Q H ef.wr)[x]?) (H[x]?):=by
  refine⟨λx hx=>l0x _ _ _ (λhm=>hx (u0n hm)),λx hx=> ?_⟩
  cases hst:j0w o with
  |false=>exact .inl (l0x _ _ _ (λhm=>hx (I0a hst hm)))
  |true=>
    unfold opD at h;split at h;split at h;rename_i hc;rw[q0R hc]at hst;cases hst;rcases h.1 with h1|h1;exact u0X hst h1 x;rw[j0i h1.2]at hst;cases hst;subst h;exact .inl rfl;exact h.elim
theorem k0W {H:a0e} (hv: ∀x∈o.op.operands,a0L ρ x=a0L ρ' x)(hg:b0n ops ρ o=b0n ops ρ' o)(hl:H'.length=H.length)
    (hA: ∀x,2*x∈f0M o ef\/2*x∈e0L ops base i o ef->H'[x]?=H[x]?) (hB: ∀x,2*x+1∈f0M o ef->k0F (H'[x]?) (H[x]?)) (h:opD P ops base i o ρ H ef):opD P ops base i o ρ' H' ef:=by
  unfold opD at h⊢;rw[<-hg];split;rename_i hgt;rw[hgt]at h;simp only at h;split;rename_i hc;rw[yB hc]at h;rcases h with h|h|h|h|h;obtain⟨f,args,g,args0,H0,v0,h1,h2,h3,h4,h5,h6,h7,h8⟩:=h;refine .inl ⟨f,args,g,args0,H0,v0,by rw[<-d0W hv];exact h1,h2,⟨λj en hj=> ?_,h3.inj,h3.refs⟩,h4,h5,h6,h7,h8⟩;rw[hA (g j) (.inl (n0O (g0e hc) (by rw[h8];exact aN.2 ⟨j,bf.2 (ae.1 hj).1,rfl⟩)))];exact h3.get j en hj;obtain⟨f,args,v0,en0,h1,h2,h3,⟨h4,hE⟩,h5⟩:=h;refine .inr (.inl ⟨f,args,v0,en0,by rw[<-d0W hv];exact h1,h2,h3,⟨?_,hE⟩,h5⟩);rw[hA _ (.inr (w0S (i0n hc)))];exact h4;obtain⟨f,args,g,args0,H0,v0,H0',h1,h2,h3,h4,h5,h6,h7,hl2,hr2,h8⟩:=h;refine .inr (.inr (.inl ⟨f,args,g,args0,H0,v0,H0',by rw[<-d0W hv];exact h1,h2,⟨λj en hj=> ?_,h3.inj,h3.refs⟩,h4,h5,h6,h7,hl2,hr2,h8⟩));rw[hA (g j) (.inl (n0O (g0e hc) (by rw[h8];exact aN.2 ⟨j,bf.2 (ae.1 hj).1,rfl⟩)))];exact h3.get j en hj;obtain⟨f,args,g,args0,H0,v0,H0',h1,h2,h3,h4,h5,h7,hl2,hres,h8⟩:=h;refine .inr (.inr (.inr (.inl ⟨f,args,g,args0,H0,v0,H0',by rw[<-d0W hv];exact h1,h2,⟨λj en hj=> ?_,h3.inj,h3.refs⟩,h4,h5,h7,hl2, ?_,h8⟩)));rw[hA (g j) (.inl (n0O (g0e hc) (by rw[h8];exact aN.2 ⟨j,bf.2 (ae.1 hj).1,rfl⟩)))];exact h3.get j en hj;rw[hA _ (.inr (w0S (i0n hc)))];exact hres;obtain⟨f,args,g,args0,H0,v0,en0,h1,h2,h3,h4,h5,h7,hres,h8⟩:=h;refine .inr (.inr (.inr (.inr ⟨f,args,g,args0,H0,v0,en0,by rw[<-d0W hv];exact h1,h2,⟨λj en hj=> ?_,h3.inj,h3.refs⟩,h4,h5,h7, ?_,h8⟩)));rw[hA (g j) (.inl (n0O (g0e hc) (by rw[h8];exact aN.2 ⟨j,bf.2 (ae.1 hj).1,rfl⟩)))];exact h3.get j en hj;rw[hA _ (.inr (w0S (i0n hc)))];exact hres;rename_i hc;rw[oB hc]at h;obtain⟨h1,h2,h3⟩:=h;refine⟨h1.imp (λh1=> ?_) (λh1=>⟨z0Q hv h1.1 hl (λx hx=>hA x (.inl (n0O (o0l h1.2) hx))),h1.2⟩),λhcr=> ?_,λx hx=>by rw[hl];exact h3 x hx⟩
  cases hso:i0u o with
  |true=>exact t0I hso hv h1 (λx hx=>hB x (H0u hx))
  |false=>exact g0o hv h1 (λx hx=>hA x (.inl (n0O hso hx)))
  rw[hA _ (.inr (w0S hcr))];exact h2 hcr;rename_i hgf;rw[hgf]at h;exact h;rename_i hgn;rw[hgn]at h;exact h
theorem r0Z {d e:Option Tmp} {u:SV} (h: ∀t,d=qA t->e≠qA t):g0R (g0R ρ d u) e v=g0R (g0R ρ e v) d u:=by
  cases d with
  |none=>rfl
  |some t=>
    cases e with
    |none=>rfl
    |some s=>
      have hne:t≠s:=λhe=>h t rfl (by rw[he])
      funext i;simp only[g0R,upd];split;rename_i h1;subst h1;rw[oB (Ne.symm hne)];rfl
def B0N(P:Program)(md:Region.Mode)(ops:Array Oper)(base:Nat)(effs:List Eff)(K:Env->a0e->Prop):Nat->Array Bool->Env->a0e->Prop
  |0,listed,ρ,H=>vE md ops listed=[]/\K ρ H
  |fuel+1,listed,ρ,H=>(vE md ops listed=[]->K ρ H)/\
    ∀i∈vE md ops listed,∃o ef,ops[i]?=qA o/\effs[i]?=qA ef/\opD P ops base i o ρ H ef/\B0N P md ops base effs K fuel (listed.setIfInBounds i yA) (g0R ρ o.dst ef.v) (a0Q H ef.wr)
theorem y0r {effs:List Eff} {K:Env->a0e->Prop} {oi:Oper} {ei:Eff} (hi:ops[i]?=qA oi)(hei:effs[i]?=qA ei): ∀(fuel:Nat) (listed:Array Bool) (ρ:Env) (H:a0e),
    (∀j oj ej,ops[j]?=qA oj->effs[j]?=qA ej->j≠i->listed.getD j yA=oA->(∀e∈oj.after,oD md e=yA->e.on≠i)->oi.apart ops oj=yA/\o0Y (f0M oi ei) (e0L ops base i oi ei) (f0M oj ej) (e0L ops base j oj ej)=yA)->
    i∈vE md ops listed->opD P ops base i oi ρ H ei->B0N P md ops base effs K fuel (listed.setIfInBounds i yA) (g0R ρ oi.dst ei.v) (a0Q H ei.wr)->B0N P md ops base effs K (fuel+1) listed ρ H:=by
  intro fuel
  induction fuel with
  |zero=>
    intro listed ρ H _ hr hy h;refine⟨λh0=>(by rw[h0]at hr;cases hr),λj hj=> ?_⟩;by_cases hji:j=i;subst hji;exact⟨oi,ei,hi,hei,hy,h⟩;have:=ready_mono hj hji;rw[h.1]at this;cases this
  |succ fuel ih=>
    intro listed ρ H hfree hr hy h;refine⟨λh0=>(by rw[h0]at hr;cases hr),λj hj=> ?_⟩;by_cases hji:j=i;subst hji;exact⟨oi,ei,hi,hei,hy,h⟩;obtain⟨oj,ej,hoj,hej,hdj,hrest⟩:=h.2 j (ready_mono hj hji);obtain⟨hjun,oj',hoj',hall⟩:=mem_ready.1 hj;rw[hoj]at hoj';cases hoj'
    have hnot: ∀e∈oj.after,oD md e=yA->e.on≠i:=λe he hb heq=>by
      have h1:=hall e he hb;have h0:=(mem_ready.1 hr).1;rw[heq]at h1;rcases bC i listed.size with h'|h';simp[h']at h0 h1;rw[h0]at h1;cases h1;simp[cH h']at h1
    obtain⟨hap,hdis⟩:=hfree j oj ej hoj hej hji hjun hnot;obtain⟨a1,a2,a3⟩:=Oper.apart_spec hap;obtain⟨d1,d2⟩:=r0t hdis;have hwi: ∀x,x∈ei.wr.map yE->2*x∈e0L ops base i oi ei:=λx hx=>u0n hx
    have hwj: ∀x,x∈ej.wr.map yE->2*x∈e0L ops base j oj ej:=λx hx=>u0n hx
    have shc: ∀ {a b:Option Ent},k0F a b->k0F b a:=λh=>by
      rcases h with h|⟨n,k,e,c1,c2,q1,q2⟩|⟨c1,c2,q1,q2⟩;exact .inl h.symm;exact .inr (.inl ⟨n,k,e,c2,c1,q2,q1⟩);exact .inr (.inr ⟨c2,c1,q2,q1⟩)
    obtain⟨ki1,ki2⟩:=m0Z hy
    -- j before i
    have hdj':opD P ops base j oj ρ H ej:=k0W (ρ:=g0R ρ oi.dst ei.v) (H:=a0Q H ei.wr)
      (λx hx=>i0a λt ht=>d0s (a1 t ht) hx) (h0h a1) (by rw[d0d])
      (λx hx=>(ki1 x (λhm=>by
        have:=d1 _ hm;rcases hx with hx|hx;exact this.1 hx
        exact this.2 hx)).symm) (λx hx=>shc (ki2 x (λhm=>(d1 _ hm).1 hx))) hdj
    obtain⟨kj1,kj2⟩:=m0Z hdj'
    have hyi':opD P ops base i oi (g0R ρ oj.dst ej.v) (a0Q H ej.wr) ei:=k0W (ρ:=ρ) (H:=H)
      (λx hx=>(i0a λt ht=>d0s (a3 t ht) hx).symm) (h0h a3).symm (by rw[d0d])
      (λx hx=>kj1 x (λhm=>by
        have:=d2 _ hm;rcases hx with hx|hx;exact this.1 hx
        exact this.2 hx)) (λx hx=>kj2 x (λhm=>(d2 _ hm).1 hx)) hy
    refine⟨oj,ej,hoj,hej,hdj', ?_⟩;refine ih (listed.setIfInBounds j yA) _ _ (λk ok ek hk hek hki hun hno=> ?_) (ready_mono hr (Ne.symm hji)) hyi' ?_;refine hfree k ok ek hk hek hki ?_ hno;by_cases hjk:j=k;subst hjk;exact hjun;rw[getD_set_ne yA hjk]at hun;exact hun;rw[Array.setIfInBounds_comm _ _ hji,<-r0Z (ρ:=ρ) (u:=ei.v) (v:=ej.v) a2,<-m0D ei.wr ej.wr H (λx hx hx2=>(d1 _ (hwi x hx)).2 (hwj x hx2))];exact hrest
theorem q0x {o:Oper} {rd fw:List Nat} : ∀(tr:List (List Nat×List Nat)) (j:Nat),k0g o rd fw tr j=yA-> ∀(k:Nat) (r' w':List Nat),tr[k]?=qA (r',w')->
    (∃e∈o.after,oD .any e=yA/\e.on=j+k)\/o0Y r' w' rd fw=yA
  | [],j,_,k,r',w',hk=>by simp at hk
  |(r1,w1)::r,j,h,k,r',w',hk=>by
    simp only[k0g,aa,bF]at h
    cases k with
    |zero=>
      simp at hk;obtain⟨rfl,rfl⟩:=hk;rcases h.1 with h1|h1;obtain⟨e,he,hb⟩:=Array.any_eq_true'.1 h1;simp only[aa,beq_iff_eq]at hb;exact .inl ⟨e,he,hb.1,hb.2⟩;exact .inr h1
    |succ k=>
      have:=q0x r (j+1) h.2 k r' w' (by simpa using hk);rw[show j+1+k=j+(k+1)from by omega]at this;exact this
def y0b(ops:Array Oper)(base:Nat)(ds:List (Oper×Eff))(j:Nat):List (List Nat×List Nat):=
  match ds with
  | []=> []
  |(o,e)::r=>(f0M o e,e0L ops base j o e)::y0b ops base r (j+1)
theorem q0o: ∀(ds:List (Oper×Eff)) (j:Nat),(y0b ops base ds j).length=ds.length
  | [],_=>rfl
  |(o,e)::r,j=>by simp[y0b,q0o r]
theorem w0V: ∀(ds:List (Oper×Eff)) (j k:Nat) (o:Oper) (e:Eff),ds[k]?=qA (o,e)->(y0b ops base ds j)[k]?=qA (f0M o e,e0L ops base (j+k) o e)
  | [],j,k,o,e,h=>by simp at h
  |(o1,e1)::r,j,k,o,e,h=>by
    cases k with
    |zero=>simp at h;obtain⟨rfl,rfl⟩:=h;simp[y0b]
    |succ k=>
      have:=w0V r (j+1) k o e (by simpa using h);rw[show j+1+k=j+(k+1)from by omega]at this;simpa [y0b]using this
theorem q0p: ∀(ds:List (Oper×Eff)) (j:Nat) (o:Oper) (e:Eff),y0b ops base (ds++ [(o,e)]) j=y0b ops base ds j++ [(f0M o e,e0L ops base (j+ds.length) o e)]
  | [],j,o,e=>by simp[y0b]
  |(o1,e1)::r,j,o,e=>by
    simp only[aK,y0b,aC];rw[q0p r (j+1) o e,show j+1+r.length=j+(r.length+1)from by omega]
theorem p0A {K:Env->a0e->Prop} : ∀(l:List Oper) (tr:List (Oper×Eff)) (listed:Array Bool) (ρ:Env) (H:a0e),(∀j,l[j]?=ops[tr.length+j]?)->(∀(j:Nat) (o:Oper) (e:Eff),tr[j]?=qA (o,e)->ops[j]?=qA o)->
    (∀k,k<tr.length->listed.getD k yA=yA)->oI .any ops l.length tr.length listed=yA->y0Q P ops base (y0b ops base tr 0) l K ρ H->
    ∃es:List Eff,es.length=l.length/\B0N P .any ops base (tr.map jJ++es) K l.length listed ρ H/\
      ∀(i j:Nat) (oi oj:Oper) (ei ej:Eff),i<j->tr.length<=j->ops[i]?=qA oi->ops[j]?=qA oj->(tr.map jJ++es)[i]?=qA ei->(tr.map jJ++es)[j]?=qA ej->
        (∀e∈oj.after,oD .any e=yA->e.on≠i)->o0Y (f0M oi ei) (e0L ops base i oi ei) (f0M oj ej) (e0L ops base j oj ej)=yA
  | [],tr,listed,ρ,H,hl,htr,hli,hB,h=>by
    refine⟨[],rfl,⟨by simpa [oI]using hB,h⟩,λi j oi oj ei ej hij hj hoi hoj hei hej=> ?_⟩;rw[cn,ar,aE hj]at hej;cases hej
  |o::l,tr,listed,ρ,H,hl,htr,hli,hB,h=>by
    have h0:ops[tr.length]?=qA o:=by simpa using (hl 0).symm
    simp only[aC,oI,aa]at hB;obtain⟨⟨hr,hf⟩,hB'⟩:=hB;simp only[y0Q,q0o]at h;obtain⟨ef,hy,hcomp,hK⟩:=h;have hrd:tr.length∈vE .any ops listed:=by simpa using hr
    have hlt:tr.length<listed.size:=by
      have:=(mem_ready.1 hrd).1;rcases bC tr.length listed.size with h'|h';exact h';simp[cH h']at this
    have hfa:y0b ops base (tr++ [(o,ef)]) 0=y0b ops base tr 0++ [(f0M o ef,e0L ops base tr.length o ef)]:=by rw[q0p];simp
    rw[<-hfa]at hK
    obtain⟨es,hes,hany,hpairs⟩:=p0A l (tr++ [(o,ef)]) (listed.setIfInBounds tr.length yA) _ _ (λj=>by
        have:=hl (j+1);simpa [Nat.add_assoc,Nat.add_comm 1 j]using this) (λj o' e' hj=>by
        rw[aS]at hj;split at hj;exact htr j o' e' hj;rename_i hjl
        have hz:j-tr.length=0:=by
          have:=(ae.1 hj).1;simp at this;omega
        rw[hz]at hj;simp at hj;obtain⟨rfl,rfl⟩:=hj;have:j=tr.length:=by omega
        rw[this];exact h0) (λk hk=>by
        simp only[ac,aC,aH]at hk;by_cases hkt:k=tr.length;subst hkt;simp[yF,hlt]
        rw[getD_set_ne yA (Ne.symm hkt)];exact hli k (by omega)) (by simpa using hB') hK
    have hfull:(tr++ [(o,ef)]).map jJ++es=tr.map jJ++(ef::es):=by simp
    rw[hfull]at hany hpairs
    have heft:(tr.map jJ++ef::es)[tr.length]?=qA ef:=by
      rw[bq (by simp)];simp
    have hall: ∀(i j:Nat) (oi oj:Oper) (ei ej:Eff),i<j->tr.length<=j->ops[i]?=qA oi->ops[j]?=qA oj->(tr.map jJ++ef::es)[i]?=qA ei->(tr.map jJ++ef::es)[j]?=qA ej->
        (∀e∈oj.after,oD .any e=yA->e.on≠i)->o0Y (f0M oi ei) (e0L ops base i oi ei) (f0M oj ej) (e0L ops base j oj ej)=true:=by
      intro i j oi oj ei ej hij hj hoi hoj hei hej hno;by_cases hjt:j=tr.length;subst hjt;rw[h0]at hoj;cases hoj;rw[heft]at hej;cases hej
      have hti: ∃p,tr[i]?=qA p:=⟨tr[i],ag hij⟩
      obtain⟨⟨o',e'⟩,hp⟩:=hti;have h1:=htr i o' e' hp;rw[hoi]at h1;cases h1;rw[aU (by simpa using hij),ar,hp]at hei;cases hei;have hft:=w0V (ops:=ops) (base:=base) tr 0 i oi _ hp;rcases q0x _ 0 hcomp i _ _ hft with⟨e,he,hb,hon⟩|hd;exact absurd (by omega:e.on=i) (hno e he hb)
      rwa [bh]at hd
      exact hpairs i j oi oj ei ej hij (by simp;omega) hoi hoj hei hej hno
    refine⟨ef::es,by simp[hes], ?_,hall⟩;rw[aC];refine y0r h0 heft l.length listed ρ H (λj oj ej hoj hej hji hun hno=>⟨Region.free_spec h0 hf j oj hoj hji hun hno, ?_⟩) hrd hy hany
    have hjgt:tr.length<j:=by
      rcases bC tr.length j with h'|h';exact h';have:j<tr.length:=by omega
      rw[hli j this]at hun;cases hun
    exact hall tr.length j o oj ef ej hjgt (by omega) h0 hoj heft hej hno
section
variable {F : Fr} {Q : Exit -> Act -> World -> Prop}
theorem n0V {H:a0e} (h:c0H o=oA)(i j:Nat):a0E P o ρ H i=a0E P o ρ H j:=by
  unfold a0E;split;rfl
  · unfold c0H at h
    cases ho:o.op<;>rw[ho]at h<;>simp only[a0p,ho]<;>first|rfl|(cases h;done)|skip
    rename_i c;split<;>first|rfl|(rename_i hc;simp only[hc]at h;cases h)
theorem j0X: ∀(a b:List (Nat×Ent)) (H:a0e),a0Q H (a++b)=a0Q (a0Q H a) b
  | [],b,H=>rfl
  |(i,en)::a,b,H=>by simp only[aK,a0Q];exact j0X a b _
theorem B0X {f:Nat->Nat} {H:a0e} (hs:Sel H f H0)(hl:H0'.length=H0.length)(hr: ∀(j:Nat) (en:Ent),H0'[j]?=qA en->Ent.refs H0.length en=yA):c0E f H0.length H H0'=a0Q H (m0j f H0.length H0'):=by
  have key: ∀q,q<=H0.length->v0g (gOf f H0.length H.length) H0' H q=a0Q H ((wC q).map λj=>(f j,Ent.rn f (H0'.getD j .gone))):=by
    intro q
    induction q with
    |zero=>intro _;rfl
    |succ q ih=>
      intro hq;have hen:H0'[q]?=qA (H0'[q]'(by omega)):=ag (by omega);have hg:gOf f H0.length H.length q=f q:=by simp[gOf,show q<H0.length by omega]
      simp only[v0g,hen];rw[cW,bM,j0X,<-ih (by omega),hg]
      have hlt:f q<(v0g (gOf f H0.length H.length) H0' H q).length:=by
        rw[ih (by omega),d0d];exact hs.lt (by omega)
      simp only[ah,aA,a0Q,g0i,yB hlt];rw[au,hen,be,q0q (f:=gOf f H0.length H.length) (g:=f) (m:=H0.length) (λi hi=>by simp[gOf,hi]) _ (hr q _ hen)]
  unfold c0E m0j;rw[hl];exact key _ (am _)
theorem Good.put {H:a0e} {f:Nat->Nat} {K:Nat->Nat} {idx:Nat} (hg0:Good w K (k0l D f H0.length) H0 r w' v0 H0')(hs:Sel H f H0)(hi:HInv w K D H)
    (hlive: ∀en∈H0,e0y en=yA) (hl:H0'.length=H0.length+1) (hres:H[idx]?=qA .res):Good w K D H r w' (SV.rn (pOf f H0.length idx) v0) (a0Q H (m0j (pOf f H0.length idx) (H0.length+1) H0')):=by
  obtain⟨K',Ds',g,hi',hrep⟩:=hg0;have hil:idx<H.length:=(ae.1 hres).1;have hDi:D idx=none:=hi.ent idx _ hres
  have hfi: ∀j,j<H0.length->f j≠idx:=by
    intro j hj e;have h1:=hs.get j _ (ag hj);rw[e,hres]at h1;have h2:=hlive _ (cf hj);have h3:=al h1;rw[<-f0z (f:=f),<-h3]at h2;cases h2
  generalize hg:pOf f H0.length idx=gg;have hgl: ∀j,j<H0.length->gg j=f j:=λj hj=>by rw[<-hg];simp[pOf,hj]
  have hgm:gg H0.length=idx:=by rw[<-hg];simp[pOf]
  have hglt: ∀j,j<H0.length+1->gg j<H.length:=λj hj=>by
    by_cases h:j<H0.length;rw[hgl j h];exact hs.lt h;rw[show j=H0.length by omega,hgm];exact hil
  have hginj: ∀i j,i<H0.length+1->j<H0.length+1->gg i=gg j->i=j:=by
    intro i j hi1 hj1 e;by_cases h1:i<H0.length<;>by_cases h2:j<H0.length
    rw[hgl i h1,hgl j h2]at e;exact hs.inj i j h1 h2 e;rw[hgl i h1,show j=H0.length by omega,hgm]at e;exact absurd e (hfi i h1);rw[hgl j h2,show i=H0.length by omega,hgm]at e;exact absurd e.symm (hfi j h2);omega
  have hput: ∀q,q<=H0.length+1->(∀j en,j<q->H0'[j]?=qA en->(a0Q H (m0j gg q H0'))[gg j]?=qA (Ent.rn gg en))/\ ∀i,(∀j,j<q->gg j≠i)->(a0Q H (m0j gg q H0'))[i]?=H[i]?:=by
    intro q
    induction q with
    |zero=>intro _;exact⟨λj en h=>absurd h (cU _),λi _=>rfl⟩
    |succ q ih=>
      intro hq;obtain⟨h2,h3⟩:=ih (by omega);have hen:H0'[q]?=qA (H0'[q]'(by omega)):=ag (by omega)
      have hw:a0Q H (m0j gg (q+1) H0')=(a0Q H (m0j gg q H0')).set (gg q) (Ent.rn gg (H0'[q]'(by omega))):=by
        unfold m0j;rw[cW,bM,j0X];simp only[ah,aA,a0Q];rw[au,hen,be]
      have hlt:gg q<(a0Q H (m0j gg q H0')).length:=by rw[d0d];exact hglt q (by omega)
      rw[hw];refine⟨λj en hj hej=> ?_,λi hi3=> ?_⟩;by_cases hjq:j=q;subst hjq;rw[cI hlt];rw[hen]at hej;cases hej;rfl;rw[cz (λe=>hjq (hginj q j (by omega) (by omega) e).symm)];exact h2 j en (by omega) hej;rw[cz (hi3 q (by omega))];exact h3 i λj hj=>hi3 j (by omega)
  obtain⟨p2,p3⟩:=hput (H0.length+1) (am _)
  -- entries that were handed G0R are somewhere
  have hsome: ∀j,j<H0.length-> ∃x,D (f j)=qA x:=by
    intro j hj;have hen:=ag hj;have hlv:=hlive _ (cf hj);have he:=hi.ent _ _ (hs.get j _ hen);generalize H0[j]=en at hlv he
    cases en with
    |res=>cases hlv
    |gone=>cases hlv
    |box cs=>obtain⟨b,vs,e,h1,_⟩:=he;exact⟨_,h1⟩
    |vec n k e cs=>rcases he.2 with⟨h1,_⟩|⟨b,c,vs,rest,h1,_⟩<;>exact⟨_,h1⟩
    |map es=>obtain⟨r,mes,clock,h1,_⟩:=he;exact⟨_,h1⟩
    |itr i n' s=>obtain⟨r,bm,c0,h1,_⟩:=he;exact⟨_,h1⟩
    |lop tm ps as bd st pd=>obtain⟨l,r,h1,_⟩:=he;exact⟨_,h1⟩
    |dfr=>obtain⟨b,h1,_⟩:=he;exact⟨_,h1⟩
    |pmap es=>obtain⟨es',r,mes,clock,_,h1,_⟩:=he;exact⟨_,h1⟩
  let D':DM:=λi=>if i=idx then Ds' H0.length else D i
  have hDold: ∀i,i≠idx->D' i=D i:=λi hi=>by simp[D',hi]
  have hDs: ∀j,j<H0.length->Ds' j=D (f j):=by
    intro j hj;obtain⟨x,hx⟩:=hsome j hj;have:k0l D f H0.length j=qA x:=by simp[k0l,hj,hx]
    rw[g.dd j x this,hx]
  have hup: ∀j,j<H0.length+1->D' (gg j)=Ds' j:=by
    intro j hj1;by_cases hj:j<H0.length;rw[hgl j hj,hDold _ (hfi j hj),hDs j hj];rw[show j=H0.length by omega,hgm];simp[D']
  have hup2: ∀j x,Ds' j=qA x->D' (gg j)=qA x:=by
    intro j x hx;by_cases hj:j<H0.length+1;rw[hup j hj];exact hx;rw[hi'.dom j (by omega)]at hx;cases hx
  have hdd: ∀i x,D i=qA x->D' i=qA x:=by
    intro i x hx;have:i≠idx:=λe=>by rw[e,hDi]at hx;cases hx
    rw[hDold i this];exact hx
  have hrep': ∀v s,Rep w K D v s->Rep w' K' D' v s:=λv s h1=>h1.mono g.cells g.le hdd
  -- an entry: an old one that was not handed G0R, or one of the call's
  have hcase: ∀i en,(a0Q H (m0j gg (H0.length+1) H0'))[i]?=qA en->(∃j en0,H0'[j]?=qA en0/\i=gg j/\en=Ent.rn gg en0)\/((∀j,j<H0'.length->gg j≠i)/\H[i]?=qA en/\i≠idx):=by
    intro i en hi2;by_cases hex: ∃j,j<H0'.length/\gg j=i;obtain⟨j,hj,rfl⟩:=hex;have hen:=ag hj;rw[p2 j _ (by omega) hen]at hi2;cases hi2;exact .inl ⟨j,_,hen,rfl,rfl⟩;have hno: ∀j,j<H0'.length->gg j≠i:=λj hj e=>hex ⟨j,hj,e⟩
    rw[p3 i (λj hj=>hno j (by omega))]at hi2;exact .inr ⟨hno,hi2,λe=>hno H0.length (by omega) (by rw[hgm];exact e.symm)⟩
  -- a block of the call's is old and handed G0R, or new
  have hblk: ∀j en0 b c n,H0'[j]?=qA en0->e0y en0=yA->Ds' j=qA (.at b c n)->Mem (k0l D f H0.length) H0 b\/w.heap.size<=b:=λj en0 b c n h1 h2 h3=>g.new b ⟨j,en0,c,n,h1,h2,h3⟩
  have hapart: ∀i en b c n,(∀j,j<H0'.length->gg j≠i)->H[i]?=qA en->e0y en=yA->D i=qA (.at b c n)-> ¬Mem (k0l D f H0.length) H0 b/\b<w.heap.size:=by
    intro i en b c n hno hie hli hdi;refine⟨fun⟨j,en0,c0,n0,h1,h2,h3⟩=> ?_,(j0a hi ⟨i,en,c,n,hie,hli,hdi⟩).1⟩;have hjl:=(ae.1 h1).1;simp only[k0l,hjl,if_true]at h3;have:=hi.inj i (f j) en _ b c n c0 n0 hie (hs.get j en0 h1) hli (by rw[f0z];exact h2) hdi h3;exact hno j (by omega) (by rw[hgl j hjl];exact this.symm)
  refine⟨K',D',⟨g.os,g.tape,g.output,g.size,λb hb hm=>g.block b hb (λh1=>hm (hs.mem h1)),g.cells,g.le,λb hb hm=>g.kk b hb (λh1=>hm (hs.mem h1)),hdd,λb hm=> ?_⟩,
    ⟨λi hil2=> ?_,λi en hie=> ?_,λi j en en' b c n c' n' hie hje hli hlj hdi hdj=> ?_,hi'.kw⟩, ?_⟩
  obtain⟨i,en,c,n,h1,h2,h3⟩:=hm;rcases hcase i en h1 with⟨j,en0,q1,q2,q3⟩|⟨_,q2,q3⟩;subst q2;subst q3;rw[hup j (by have:=(ae.1 q1).1;omega)]at h3;rw[f0z]at h2;rcases hblk j en0 b c n q1 h2 h3 with h4|h4;exact .inl (hs.mem h4);exact .inr h4;rw[hDold i q3]at h3;exact .inl ⟨i,en,c,n,q2,h2,h3⟩;rw[d0d]at hil2;rw[hDold i (by omega)];exact hi.dom i hil2;rcases hcase i en hie with⟨j,en0,q1,q2,q3⟩|⟨q1,q2,q3⟩;subst q2;subst q3;exact A0Y (hi'.ent j en0 q1) hup2 (λhn=>by rw[hup j (by have:=(ae.1 q1).1;omega)];exact hn);refine(hi.ent i en q2).keep hrep' (hDold i q3) (λb c n hlv hd=> ?_);obtain⟨a1,a2⟩:=hapart i en b c n q1 q2 hlv hd;exact⟨g.block b a2 a1,g.kk b a2 a1⟩
  · rcases hcase i en hie with⟨ji,e1,q1,q2,q3⟩|⟨q1,q2,q3⟩<;>rcases hcase j en' hje with⟨jj,e2,r1,r2,r3⟩|⟨r1,r2,r3⟩
    subst q2;subst q3;subst r2;subst r3;rw[hup ji (by have:=(ae.1 q1).1;omega)]at hdi;rw[hup jj (by have:=(ae.1 r1).1;omega)]at hdj;rw[f0z]at hli hlj;rw[hi'.inj ji jj e1 e2 b c n c' n' q1 r1 hli hlj hdi hdj];exfalso;subst q2;subst q3;rw[hup ji (by have:=(ae.1 q1).1;omega)]at hdi;rw[f0z]at hli;rw[hDold j r3]at hdj;obtain⟨a1,a2⟩:=hapart j en' b c' n' r1 r2 hlj hdj;rcases hblk ji e1 b c n q1 hli hdi with h4|h4;exact a1 h4;omega;exfalso;subst r2;subst r3;rw[hup jj (by have:=(ae.1 r1).1;omega)]at hdj;rw[f0z]at hlj;rw[hDold i q3]at hdi;obtain⟨a1,a2⟩:=hapart i en b c n q1 q2 hli hdi;rcases hblk jj e2 b c' n' r1 hlj hdj with h4|h4;exact a1 h4;omega;rw[hDold i q3]at hdi;rw[hDold j r3]at hdj;exact hi.inj i j en en' b c n c' n' q2 r2 hli hlj hdi hdj
  exact k0J hrep hup2
theorem SC.put {P:Program} {fid:FuncId} (h:SC P fid args0 H0 v0 H0') {H:a0e} {f:Nat->Nat} {idx:Nat} (hs:Sel H f H0)
    (hlive: ∀en∈H0,e0y en=yA) (ha:SV.refsL H0.length args0=yA) (hl:H0'.length=H0.length+1) (hres:H[idx]?=qA .res):
    SC P fid (SV.rnL f args0) H (SV.rn (pOf f H0.length idx) v0) (a0Q H (m0j (pOf f H0.length idx) (H0.length+1) H0')):=by
  refine⟨h.1,λw K D vals hlen hr hi hG=> ?_⟩;refine(h.2 w K (k0l D f H0.length) vals (by rw[hlen,b0X]) (λj x c hx hc=>f0o (hr j x (SV.rn f c) hx (by rw[d0O,hc];rfl)) c rfl (d0A ha j c hc)) (hs.hinv hi) (g0Y hG)).mono ?_;rintro e w' ⟨r,he,hg⟩;exact⟨r,he,hg.put hs hi hlive hl hres⟩
theorem q0A: ∀(wr:List (Nat×Ent)) (H:a0e),(∀x∈wr,H[x.1]?=qA x.2)->a0Q H wr=H
  | [],H,_=>rfl
  |(i,en)::r,H,h=>by
    have h1:=h (i,en) (av ..)
    have he:H.set i en=H:=by
      refine bz λj=> ?_
      rw[aW];by_cases hj:i=j;subst hj;rw[yB rfl,yB (ae.1 h1).1,h1];rw[oB hj]
    simp only[a0Q];rw[he];exact q0A r H (λx hx=>h x (ao _ hx))
theorem H0c {H:a0e} {idx:Nat} (hs:Sel H g H0):a0Q H (m0j (pOf g H0.length idx) (H0.length+1) (H0++ [en0]))=a0Q H [(idx,Ent.rn (pOf g H0.length idx) en0)]:=by
  have e:m0j (pOf g H0.length idx) (H0.length+1) (H0++ [en0])=(m0j (pOf g H0.length idx) H0.length H0)++ [(idx,Ent.rn (pOf g H0.length idx) en0)]:=by
    unfold m0j;rw[cW,bM];congr 1;refine bn λj hj=> ?_
    have hj:=bf.1 hj;rw[au,au,aU hj];simp[pOf,au]
  rw[e]
  have app: ∀(a b:List (Nat×Ent)) (H:a0e),a0Q H (a++b)=a0Q (a0Q H a) b:=by
    intro a
    induction a with
    |nil=>intro b H;rfl
    |cons x a ih=>intro b H;obtain⟨i,en⟩:=x;simp only[aK,a0Q];exact ih b _
  rw[app,q0A _ H (λx hx=> ?_)];obtain⟨j,hj,rfl⟩:=aN.1 hx;have hj:=bf.1 hj;have hget:=hs.get j _ (ag hj);simp only[pOf,yB hj];rw[au,ag hj,be,hget];exact congrArg qA (q0q (m:=H0.length) (λi hi=>(yB hi).symm) _ (hs.refs j _ (ag hj)))
theorem q0B {effs:List Eff} {KS:Env->a0e->Prop} (hQ: ∀ρ H a w,St F ρ H a w->KS ρ H->Q .normal a w)(hb: ∀o∈ops.toList,Oper.inB F.n ops o=yA): ∀(fuel:Nat) (listed:Array Bool) (ρ:Env) (H:a0e) (a:Act) (w:World),
    St F ρ H a w->B0N P md ops base effs KS fuel listed ρ H->wpAny P md ops Q fuel listed a w:=by
  intro fuel
  induction fuel with
  |zero=>intro listed ρ H a w hst h;exact⟨h.1,hQ _ _ _ _ hst h.2⟩
  |succ fuel ih=>
    intro listed ρ H a w hst h;refine⟨λh0=>hQ _ _ _ _ hst (h.1 h0),λi hi=> ?_⟩;obtain⟨o,ef,ho,hef,hd,hrest⟩:=h.2 i hi;have hbo:Oper.inB F.n ops o=true:=hb o (aD.2 (Array.mem_of_getElem? ho));obtain⟨hdef,K,D,hinv⟩:=hst;unfold wpOp;simp only[ho];unfold opD at hd
    split at hd
    · rename_i hg
      rw[b0U hinv.slots (Oper.inB_guard hbo) hg,yB rfl];refine .inl ?_
      split at hd
      · rename_i hc
        rcases hd with⟨f,args,g,args0,H0,v0,h1,h2,h3,h4,h5,h6,h7,h8⟩|⟨f,args,v0,en0,h1,h2,h3,⟨h4,hE⟩,h5⟩|⟨f,args,g,args0,H0,v0,H0',h1,h2,h3,h4,h5,h6,h7,hl2,hr2,h8⟩|⟨f,args,g,args0,H0,v0,H0',h1,h2,h3,h4,h5,h7,hl2,hres,h8⟩|⟨f,args,g,args0,H0,v0,en0,h1,h2,h3,h4,h5,h7,hres,h8⟩
        case inr.inr.inr.inr=>
          subst h8;have hfr:=SC.put h7 h3 h4 h5 (by simp) hres;rw[<-h2,H0c h3]at hfr;exact l0t hinv hdef (Oper.inB_op hbo) h1 hfr (λa' w' hst'=>ih _ _ _ _ _ hst' hrest)
        case inr.inr.inr.inl=>
          subst h8;have hfr:=SC.put h7 h3 h4 h5 hl2 hres;rw[<-h2]at hfr;exact l0t hinv hdef (Oper.inB_op hbo) h1 hfr (λa' w' hst'=>ih _ _ _ _ _ hst' hrest)
        case inr.inr.inl=>
          subst h8;have hfr:=SC.frame h7 h3 h4 h5 (Nat.le_of_eq hl2.symm);rw[<-h2,B0X h3 hl2 hr2,<-g0Q (f:=g) (m:=H0.length) (λi hi=>by simp[gOf,hi]) v0 h6]at hfr;exact l0t hinv hdef (Oper.inB_op hbo) h1 hfr (λa' w' hst'=>ih _ _ _ _ _ hst' hrest)
        case inr.inl=>
          subst h5;exact l0t hinv hdef (Oper.inB_op hbo) h1 (SC.place h3 h2 h4 hE) (λa' w' hst'=>ih _ _ _ _ _ hst' hrest)
        subst h8;have hfr:=SC.frame h7 h3 h4 h5 (am _);rw[<-h2]at hfr
        -- the frame leaves the entries and the value as they are
        rw[r0o h3,<-g0Q (f:=g) (m:=H0.length) (λi hi=>by simp[gOf,hi]) v0 h6]at hfr;exact l0t hinv hdef (Oper.inB_op hbo) h1 hfr (λa' w' hst'=>ih _ _ _ _ _ hst' hrest)
      · obtain⟨h1,h2,h3⟩:=hd
        rw[<-n0y _ _ h3]at hrest;rcases h1 with h1|h1
        case inr=>exact H0B hinv hdef (Oper.inB_op hbo) (.inr (h2 h1.2)) h1.1 λa' w' hst'=>ih _ _ _ _ _ hst' hrest
        by_cases hcr:c0H o=yA;exact v0p hinv hdef (Oper.inB_op hbo) (.inr (h2 hcr)) h1 λa' w' hst'=>ih _ _ _ _ _ hst' hrest
        rw[n0V (by simpa using hcr) _ H.length]at h1;exact v0p hinv hdef (Oper.inB_op hbo) (.inl rfl) h1 λa' w' hst'=>ih _ _ _ _ _ hst' hrest
    rename_i hg;rw[b0U hinv.slots (Oper.inB_guard hbo) hg,oB (by simp)];subst hd;exact ih _ _ _ _ _ ⟨by rw[b0g];exact hdef,K,D,r0Y hinv o.dst⟩ hrest;exact hd.elim
theorem Inv.reserve {K:Nat->Nat} {H:a0e} (h:Inv F w K D H ρ tm)(m:Nat):Inv F w K D (H++wD m .res) ρ tm:=by
  have hget: ∀i en,(H++wD m Ent.res)[i]?=qA en->H[i]?=qA en\/(en= .res/\H.length<=i):=by
    intro i en hi;rw[aS]at hi;split at hi;exact .inl hi
    · rw[List.getElem?_replicate]at hi
      split at hi<;>cases hi
      exact .inr ⟨rfl,by omega⟩
  have hmem: ∀b,Mem D (H++wD m .res) b->Mem D H b:=by
    rintro b ⟨i,en,c,n,h1,h2,h3⟩;rcases hget i en h1 with h4|⟨h4,_⟩;exact⟨i,en,c,n,h4,h2,h3⟩;subst h4;cases h2
  refine⟨h.slots,⟨λi hi=>h.hinv.dom i (by simp at hi;omega),λi en hi=> ?_,λi j en en' b c n c' n' hi hj hl hl' hd hd'=> ?_,h.hinv.kw⟩, ?_⟩;rcases hget i en hi with h4|⟨h4,h5⟩;exact h.hinv.ent i en h4;subst h4;exact h.hinv.dom i h5;rcases hget i en hi with h4|⟨h4,_⟩;rcases hget j en' hj with h5|⟨h5,_⟩;exact h.hinv.inj i j en en' b c n c' n' h4 h5 hl hl' hd hd';subst h5;cases hl';subst h4;cases hl;have g:=h.grow;exact⟨g.os,g.tape,g.output,g.size,g.block,g.cells,g.le,g.kk,g.dd,λb hm=>g.new b (hmem b hm)⟩
def d0J(ops:Array Oper):Nat:=(ops.toList.filter c0H).length
theorem v0U {KS:Env->a0e->Prop} (hm:P.follows .mixedOrders=yA)(hB:qG .any ops=yA)(hQ: ∀ρ H a w,St F ρ H a w->KS ρ H->Q .normal a w)(hb: ∀o∈ops.toList,Oper.inB F.n ops o=yA) {H:a0e}
    (hst:St F ρ H a w) (h:y0Q P ops H.length [] ops.toList KS ρ (H++wD (d0J ops) .res)):(Code.region id ops yA).wp P Q a w:=by
  simp only[qG,aa]at hB;obtain⟨hd,K,D,hinv⟩:=hst;refine wp_region_any hm ?_;obtain⟨es,_,hany,_⟩:=p0A (base:=H.length) ops.toList [] (vD ops.size oA) ρ _ (by simp) (λj o e hj=>by simp at hj) (λk hk=>absurd hk (cU _)) (by simpa using hB.2) h;have hinv':=hinv.reserve (d0J ops)
  have hdrew:Inv F w.drew K D (H++wD (d0J ops) .res) ρ a.tmps:=⟨hinv'.slots.mono λ_ _=>World.drew_rep,hinv'.hinv.drew,hinv'.grow.trans (Grow.drew _ _ _ _)⟩
  exact q0B hQ hb ops.size _ ρ _ a _ ⟨hd,K,D,hdrew⟩ (by simpa using hany)
end
end
end
section
variable [Inhabited GT]
abbrev LE:=List (Nat×SV)
def lk:LE->Nat->SV
  | [],_=> .undef
  |(i,v)::r,t=>bif jC t i then v else lk r t
def a0w(L:LE):Env:=λt=>lk L t
def e0n(L:LE)(d:Option Nat)(v:SV):LE:=match d with
  |some d=>(d,v)::L
  |none=>L
theorem b0o(L:LE)(d:Option Nat)(v:SV):g0R (a0w L) d v=a0w (e0n L d v):=by
  cases d with
  |none=>rfl
  |some d=>
    funext t;simp only[g0R,upd,e0n,a0w,lk];by_cases h:t=d;subst h;simp
    have:jC t d=false:=by cases hb:jC t d with
      |false=>rfl
      |true=>exact absurd (af hb) h
    rw[oB h,this];rfl
def f0K(ts:List Nat)(L:LE):LE:=ts.map λt=>(t,lk L t)
def Sees(F:Fr)(L:LE)(H:a0e)(a:Act)(w:World):Prop:=St F (a0w L) H a w
abbrev e0G:=Exit->Act->World->Prop
def b0G(n:Nat):Code->Bool
  | .region _ ops _=>ops.toList.all (Oper.inB n ops)
  | .seq a b=>b0G n a&&b0G n b
  | .cond c x y=>Operand.inB n c&&b0G n x&&b0G n y
  | .block _ c=>b0G n c
  | .loop c=>b0G n c
  | .scope c=>b0G n c
  |_=>yA
def J(F:Fr)(P:Program)(c:Code)(L:LE)(H:a0e)(Q:e0G):Prop:=b0G F.n c=yA-> ∀a w,Sees F L H a w->c.wp P Q a w
def PJ(F:Fr)(Q:e0G)(e:Exit)(L:LE)(H:a0e):Prop:= ∀a w,Sees F L H a w->Q e a w
def k0k(F:Fr)(P:Program)(c:Code)(Q:e0G):e0G:=Exit.then (λa w=>b0G F.n c=yA->c.wp P Q a w) Q
def RJ(F:Fr)(P:Program)(m:Option Nat)(ops:Array Oper)(p:Nat)(tr:List (List Nat×List Nat))(L:LE)(H:a0e)(Q:e0G):Prop:=
  match m with
  |none=>ops.toList.all (Oper.inB F.n ops)=yA-> ∀a w,Sees F L H a w->wpList P ops Q (ops.toList.drop p) a w
  |some base=>tr.length=p->y0Q P ops base tr (ops.toList.drop p) (fun ρ H=> ∀a w,St F ρ H a w->Q .normal a w) (a0w L) H
def B0K(m:Option Nat)(ops:Array Oper)(p:Nat)(H:a0e):Nat:=match m with
  |none=>H.length
  |some base=>d0S ops base p
def trM(m:Option Nat)(ops:Array Oper)(p:Nat)(o:Oper)(ef:Eff)(tr:List (List Nat×List Nat)):List (List Nat×List Nat):=match m with
  |none=>tr
  |some base=>tr++ [(f0M o ef,e0L ops base p o ef)]
def n0i(en:Option Ent):Bool:=match en with
  |some .res=>yA
  |_=>oA
def okM(m:Option Nat)(ops:Array Oper)(p:Nat)(o:Oper)(ef:Eff)(tr:List (List Nat×List Nat))(H:a0e):Bool:=match m with
  |none=>yA
  |some base=>k0g o (f0M o ef) (e0L ops base p o ef) tr 0&&(!c0H o||n0i (H[d0S ops base p]?))&&ef.wr.all (λx=>jE x.1 H.length)
section
variable {F : Fr} {P : Program} {L : LE} {H : a0e} {Q : e0G} {m : Option Nat} {ops : Array Oper} {p : Nat} {tr : List (List Nat × List Nat)}
theorem Sees.keep {L2:LE} (h:Sees F L H a w)(hk: ∀t,lk L2 t=lk L t\/lk L2 t= .undef):Sees F L2 H a w:=by
  obtain⟨hd,K,D,hi⟩:=h;refine⟨hd,K,D,⟨⟨hi.slots.size,λi hin=> ?_,hi.slots.glob⟩,hi.hinv,hi.grow⟩⟩;have h1:=hi.slots.rep i hin;show Rep w K D _ (lk L2 i);rcases hk i with e|e;rw[e];exact h1;rw[e];exact .undef _
theorem i0H(ts:List Nat)(L:LE)(t:Nat):lk (f0K ts L) t=lk L t\/lk (f0K ts L) t= .undef:=by
  induction ts with
  |nil=>exact .inr rfl
  |cons s ts ih=>
    simp only[f0K,ah,lk]at ih⊢
    cases hb:jC t s with
    |true=>have:=af hb;subst this;exact .inl rfl
    |false=>exact ih
theorem J.keep (ts:List Nat) {L2:LE} (h2:f0K ts L=L2)(h:J F P c L2 H Q):J F P c L H Q:=
  λhin a w hs=>h hin a w (hs.keep (by rw[<-h2];exact i0H ts L))
theorem J.skip(h:PJ F Q .normal L H):J F P .skip L H Q:=λ_ a w hs=>wp_skip (h a w hs)
theorem J.ret(h:PJ F Q .ret L H):J F P .ret L H Q:=λ_ a w hs=>wp_ret (h a w hs)
theorem J.exit (h:PJ F Q (.exit id) L H):J F P (.exit id) L H Q:=λ_ a w hs=>wp_exit (h a w hs)
theorem J.seq (h:J F P c1 L H (k0k F P c2 Q)):J F P (.seq c1 c2) L H Q:=λhin a w hs=>by
  simp only[b0G,aa]at hin;refine wp_seq (jI (λe a' w' hq=> ?_) (h hin.1 a w hs));cases e<;>first|exact hq hin.2|exact hq
theorem PJ.next (h:J F P c L H Q):PJ F (k0k F P c Q) .normal L H:=λa w hs hin=>h hin a w hs
theorem PJ.passRet (h:PJ F Q .ret L H):PJ F (k0k F P c Q) .ret L H:=h
theorem PJ.passExit (h:PJ F Q (.exit id) L H):PJ F (k0k F P c Q) (.exit id) L H:=h
theorem J.block (h:J F P c L H (vF id Q)):J F P (.block id c) L H Q:=λhin a w hs=>wp_block (h hin a w hs)
theorem PJ.blockNormal (h:PJ F Q .normal L H):PJ F (vF id Q) .normal L H:=h
theorem PJ.blockRet (h:PJ F Q .ret L H):PJ F (vF id Q) .ret L H:=h
theorem PJ.blockOut (h:PJ F Q .normal L H):PJ F (vF id Q) (.exit id) L H:=λa w hs=>by
  show(if id=id then _ else _);rw[yB rfl];exact h a w hs
theorem PJ.blockPass {id':Nat} (hne:jC id' id=oA)(h:PJ F Q (.exit id') L H):PJ F (vF id Q) (.exit id') L H:=λa w hs=>by
  show(if id'=id then _ else _);rw[oB (λe=>by subst e;simp at hne)];exact h a w hs
theorem J.cond {c:Operand} {x y:Code} (hv:a0L (a0w L) c=qA (.bool b))(h:J F P (bif b then x else y) L H Q):J F P (.cond c x y) L H Q:=λhin a w hs=>by
  simp only[b0G,aa]at hin;obtain⟨hd,K,D,hi⟩:=hs;have hr:=a0h hi.slots hin.1.1 hv;generalize hva:a.eval c=v at hr;cases hr;refine wp_cond hva ?_;cases b;exact h hin.2 a w ⟨hd,K,D,hi⟩;exact h hin.1.2 a w ⟨hd,K,D,hi⟩
theorem J.region (h:RJ F P none ops 0 [] L H Q):J F P (.region id ops oA) L H Q:=λhin a w hs=>by
  simp only[b0G]at hin;exact wp_region_list (h hin a w hs)
theorem J.draw (hm:P.follows .mixedOrders=yA)(hB:qG .any ops=yA)(h:RJ F P (qA H.length) ops 0 [] L (H++wD (d0J ops) .res) Q):J F P (.region id ops yA) L H Q:=λhin a w hs=>by
  simp only[b0G,qD]at hin;exact v0U (KS:=fun ρ H=> ∀a w,St F ρ H a w->Q .normal a w) hm hB (fun ρ H a w hst hq=>hq a w hst) hin hs (by simpa using h rfl)
theorem RJ.done(hp:ops.size<=p)(h:PJ F Q .normal L H):RJ F P m ops p tr L H Q:=by
  have hd:ops.toList.drop p=[]:=ci (by simpa using hp)
  cases m with
  |none=>intro _ a w hs;rw[hd];exact h a w hs
  |some base=>intro _;rw[hd];exact λa w hs=>h a w hs
theorem d0F (ho:ops.toList[p]?=qA o):ops.toList.drop p=o::ops.toList.drop (p+1):=by
  obtain⟨h1,h2⟩:=ae.1 ho;rw[bv h1,h2]
theorem n0b (ho:ops.toList[p]?=qA o):o∈ops.toList:=aM ho
theorem RJ.step (ho:ops.toList[p]?=qA o)(hg:b0n ops (a0w L) o=qA yA)(hc:b0M o=oA)(he:a0E P o (a0w L) H (B0K m ops p H)=qA ef)(hok:okM m ops p o ef tr H=yA)
    (h:RJ F P m ops (p+1) (trM m ops p o ef tr) (e0n L o.dst ef.v) (b0H H ef.wr) Q):RJ F P m ops p tr L H Q:=by
  cases m with
  |none=>
    intro hin a w hs;have hbo:Oper.inB F.n ops o=true:=List.all_eq_true.1 hin o (n0b ho);obtain⟨hd,K,D,hi⟩:=hs;rw[d0F ho];refine wpList_step λKK hKK=> ?_
    rw[b0U hi.slots (Oper.inB_guard hbo) hg,yB rfl];exact v0p hi hd (Oper.inB_op hbo) (.inl rfl) he λa' w' hst'=>hKK _ _ (h hin a' w' (by rw[b0o]at hst';exact hst'))
  |some base=>
    intro hl;rw[d0F ho];simp only[okM,aa,bF,qD]at hok;obtain⟨⟨k1,k2⟩,k3⟩:=hok;have k3': ∀x∈ef.wr,x.1<H.length:=λx hx=>bL (aj (by simpa [jE]using k3 x hx))
    subst hl;refine⟨ef, ?_,k1, ?_⟩;unfold opD;rw[hg];simp only;rw[hc,oB (by simp)];refine⟨.inl he,λhcr=> ?_,k3'⟩;rcases k2 with k2|k2;rw[hcr]at k2;cases k2;unfold n0i at k2;split at k2
    assumption
    cases k2;have:=h (by simp[trM]);rw[<-n0y _ _ k3',b0o];exact this
theorem RJ.skip (ho:ops.toList[p]?=qA o)(hg:b0n ops (a0w L) o=qA oA)(hok:okM m ops p o ⟨.tup [],[],[]⟩ tr [.res]=yA\/True)
    (hk: ∀base,m=qA base->k0g o (f0M o ⟨.tup [],[],[]⟩) (e0L ops base p o ⟨.tup [],[],[]⟩) tr 0=yA)
    (h:RJ F P m ops (p+1) (trM m ops p o ⟨.tup [],[],[]⟩ tr) (e0n L o.dst (.tup [])) H Q):RJ F P m ops p tr L H Q:=by
  cases m with
  |none=>
    intro hin a w hs;have hbo:Oper.inB F.n ops o=true:=List.all_eq_true.1 hin o (n0b ho);obtain⟨hd,K,D,hi⟩:=hs;rw[d0F ho];refine wpList_step λKK hKK=> ?_
    rw[b0U hi.slots (Oper.inB_guard hbo) hg,oB (by simp)];exact hKK _ _ (h hin _ w ⟨by rw[b0g];exact hd,K,D,by have:=r0Y hi o.dst;rw[b0o]at this;exact this⟩)
  |some base=>
    intro hl;rw[d0F ho];subst hl;refine⟨⟨.tup [],[],[]⟩, ?_,hk base rfl, ?_⟩;unfold opD;rw[hg];have:=h (by simp[trM]);rw[b0o];exact this
theorem RJ.call (ho:ops.toList[p]?=qA o)(hg:b0n ops (a0w L) o=qA yA)(hc:d0L (a0w L) o=qA (f,args))(hs:SC P f args H v H')
    (h:RJ F P none ops (p+1) tr (e0n L o.dst v) H' Q):RJ F P none ops p tr L H Q:=by
  intro hin a w hst;have hbo:Oper.inB F.n ops o=true:=List.all_eq_true.1 hin o (n0b ho);obtain⟨hd,K,D,hi⟩:=hst;rw[d0F ho];refine wpList_step λKK hKK=> ?_
  rw[b0U hi.slots (Oper.inB_guard hbo) hg,yB rfl];exact l0t hi hd (Oper.inB_op hbo) hc hs λa' w' hst'=>hKK _ _ (h hin a' w' (by rw[b0o]at hst';exact hst'))
theorem n0j {r:FuncId×List SV} (h:d0L ρ o=qA r):b0M o=true:=by
  unfold d0L at h;split at h;rename_i c ho;unfold p0p at h;split at h;rename_i f hf;simp[b0M,ho,hf];cases h;cases h
theorem RJ.callD (ho:ops.toList[p]?=qA o)(hg:b0n ops (a0w L) o=qA yA)(hc:d0L (a0w L) o=qA (f,args))(ha:args=SV.rnL g args0)
    (hsel:Sel H g H0) (hlive: ∀en∈H0,e0y en=yA) (hr:SV.refsL H0.length args0=yA) (hv:SV.refs H0.length v0=yA) (hs:SC P f args0 H0 v0 H0)
    (hk: ∀base,m=qA base->k0g o (f0M o ⟨SV.rn g v0,(wC H0.length).map g,[]⟩) (e0L ops base p o ⟨SV.rn g v0,(wC H0.length).map g,[]⟩) tr 0=yA)
    (h:RJ F P m ops (p+1) (trM m ops p o ⟨SV.rn g v0,(wC H0.length).map g,[]⟩ tr) (e0n L o.dst (SV.rn g v0)) H Q):RJ F P m ops p tr L H Q:=by
  cases m with
  |none=>
    have hfr:=SC.frame hs hsel hlive hr (am _);rw[r0o hsel,<-g0Q (f:=g) (m:=H0.length) (λi hi=>by simp[gOf,hi]) v0 hv,<-ha]at hfr;exact RJ.call ho hg hc hfr h
  |some base=>
    intro hl;rw[d0F ho];subst hl;refine⟨⟨SV.rn g v0,(wC H0.length).map g,[]⟩, ?_,hk base rfl, ?_⟩;unfold opD;rw[hg];simp only;rw[n0j hc,yB rfl];exact .inl ⟨f,args,g,args0,H0,v0,hc,ha,hsel,hlive,hr,hv,hs,rfl⟩;have:=h (by simp[trM]);rw[b0o];exact this
end
end
section
variable [Inhabited GT]
section
variable {F : Fr} {P : Program} {L : LE} {H : a0e} {Q : e0G} {m : Option Nat} {ops : Array Oper} {p : Nat} {tr : List (List Nat × List Nat)}
def j0s(P:Program)(m:Option Nat)(ops:Array Oper):Nat->Nat->List (List Nat×List Nat)->LE->a0e->Option (List (List Nat×List Nat)×LE×a0e)
  |0,_,tr,L,H=>qA (tr,L,H)
  |q+1,p,tr,L,H=>match ops.toList[p]? with
    |none=>none
    |some o=>match b0n ops (a0w L) o with
      |some yA=>bif b0M o then none else match a0E P o (a0w L) H (B0K m ops p H)with
        |some ef=>bif okM m ops p o ef tr H then j0s P m ops q (p+1) (trM m ops p o ef tr) (e0n L o.dst ef.v) (b0H H ef.wr)else none
        |none=>none
      |some oA=>bif(match m with|none=>yA|some base=>k0g o (f0M o ⟨.tup [],[],[]⟩) (e0L ops base p o ⟨.tup [],[],[]⟩) tr 0)then j0s P m ops q (p+1) (trM m ops p o ⟨.tup [],[],[]⟩ tr) (e0n L o.dst (.tup [])) H else none
      |none=>none
theorem l0D: ∀(q p:Nat) (tr:List (List Nat×List Nat)) (L:LE) (H:a0e) (tr2:List (List Nat×List Nat)) (L2:LE) (H2:a0e),j0s P m ops q p tr L H=qA (tr2,L2,H2)->RJ F P m ops (p+q) tr2 L2 H2 Q->RJ F P m ops p tr L H Q:=by
  intro q
  induction q with
  |zero=>intro p tr L H tr2 L2 H2 h k;simp only[j0s]at h;cases h;exact k
  |succ q ih=>
    intro p tr L H tr2 L2 H2 h k;simp only[j0s]at h;rw[show p+(q+1)=p+1+q from by omega]at k;split at h;cases h;rename_i o ho;split at h;rename_i hg
    cases hc:b0M o with
    |true=>rw[hc]at h;cases h
    |false=>
      rw[hc]at h;simp only[vC]at h;split at h;rename_i ef he
      cases hok:okM m ops p o ef tr H with
      |false=>rw[hok]at h;cases h
      |true=>
        rw[hok]at h;exact RJ.step ho hg hc he hok (ih _ _ _ _ _ _ _ h k)
      cases h
    rename_i hg
    cases hb:(match m with|none=>yA|some base=>k0g o (f0M o ⟨.tup [],[],[]⟩) (e0L ops base p o ⟨.tup [],[],[]⟩) tr 0)with
    |false=>rw[hb]at h;cases h
    |true=>
      rw[hb]at h;refine RJ.skip ho hg (.inr trivial) (λbase hm=> ?_) (ih _ _ _ _ _ _ _ h k);subst hm;exact hb
    cases h
theorem RJ.seg(q:Nat)(ts:List Nat) {L2:LE} (h:(j0s P none ops q p [] L H).map (λr=>(f0K ts r.2.1,r.2.2))=qA (L2,H2))(k:RJ F P none ops (p+q) [] L2 H2 Q):RJ F P none ops p [] L H Q:=by
  cases hr:j0s P none ops q p [] L H with
  |none=>rw[hr]at h;cases h
  |some r=>
    obtain⟨tr1,L1,H1⟩:=r;rw[hr]at h;simp only[aT,ak,aP]at h;obtain⟨rfl,rfl⟩:=h;refine l0D q p [] L H tr1 L1 H1 hr ?_;intro hin a w hs;exact k hin a w (hs.keep (i0H ts L1))
theorem RJ.segD (q:Nat) {L2:LE} (h:j0s P (qA base) ops q p tr L H=qA (tr2,L2,H2))(k:RJ F P (qA base) ops (p+q) tr2 L2 H2 Q):RJ F P (qA base) ops p tr L H Q:=
  l0D q p tr L H tr2 L2 H2 h k
def lOf(r:Option (List (List Nat×List Nat)×LE×a0e)):LE:=match r with|some x=>x.2.1|none=> []
def hOf(r:Option (List (List Nat×List Nat)×LE×a0e)):a0e:=match r with|some x=>x.2.2|none=> []
def tOf(r:Option (List (List Nat×List Nat)×LE×a0e)):List (List Nat×List Nat):=match r with|some x=>x.1|none=> []
theorem RJ.segDC (q:Nat)(h:(j0s P (qA base) ops q p tr L H).isSome=yA)(k:RJ F P (qA base) ops (p+q) (tOf (j0s P (qA base) ops q p tr L H)) (lOf (j0s P (qA base) ops q p tr L H)) (hOf (j0s P (qA base) ops q p tr L H)) Q):RJ F P (qA base) ops p tr L H Q:=by
  refine RJ.segD q ?_ k
  cases hr:j0s P (qA base) ops q p tr L H with
  |none=>rw[hr]at h;cases h
  |some r=>rfl
def Wk(F:Fr)(L:LE)(H:a0e)(L2:LE)(H2:a0e):Prop:= ∀a w,Sees F L H a w->Sees F L2 H2 a w
theorem J.wk {L2:LE} (h:Wk F L H L2 H2)(k:J F P c L2 H2 Q):J F P c L H Q:=λhin a w hs=>k hin a w (h a w hs)
theorem PJ.wk {e:Exit} {L2:LE} (h:Wk F L H L2 H2)(k:PJ F Q e L2 H2):PJ F Q e L H:=λa w hs=>k a w (h a w hs)
theorem RJ.wk {L2:LE} (h:Wk F L H L2 H2)(k:RJ F P none ops p tr L2 H2 Q):RJ F P none ops p tr L H Q:=λhin a w hs=>k hin a w (h a w hs)
theorem l0N {d:Nat} (h:lk L d=v):a0w ((d,v)::L)=a0w L:=by
  funext t;simp only[a0w,lk]
  cases hb:jC t d with
  |true=>have:=af hb;subst this;exact h.symm
  |false=>rfl
theorem J.caseB (d:Nat) (hd:lk L d= .bool b)(h1:b=yA->J F P c ((d, .bool yA)::L) H Q)(h2:b=oA->J F P c ((d, .bool oA)::L) H Q):J F P c L H Q:=by
  intro hin a w hs
  cases b with
  |true=>exact h1 rfl hin a w (by unfold Sees;rw[l0N hd];exact hs)
  |false=>exact h2 rfl hin a w (by unfold Sees;rw[l0N hd];exact hs)
theorem RJ.caseB(d:Nat) (hd:lk L d= .bool b)(h1:b=yA->RJ F P m ops p tr ((d, .bool yA)::L) H Q)(h2:b=oA->RJ F P m ops p tr ((d, .bool oA)::L) H Q):RJ F P m ops p tr L H Q:=by
  cases b with
  |true=>
    have:=h1 rfl
    cases m with
    |none=>intro hin a w hs;exact this hin a w (by unfold Sees;rw[l0N hd];exact hs)
    |some base=>intro hl;have t:=this hl;rw[l0N hd]at t;exact t
  |false=>
    have:=h2 rfl
    cases m with
    |none=>intro hin a w hs;exact this hin a w (by unfold Sees;rw[l0N hd];exact hs)
    |some base=>intro hl;have t:=this hl;rw[l0N hd]at t;exact t
/-! Loops. -/
def a0B {S O:Type} (step:S->Option (S⊕O)):Nat->S->Option O
  |0,_=>none
  |n+1,s=>match step s with
    |none=>none
    |some (.inr o)=>qA o
    |some (.inl s')=>a0B step n s'
theorem J.loop {step:S->Option (S⊕O)} {s0:S} {o:O} (R:S->LE×a0e)(ho:a0B step n s0=qA o)(hL:L=(R s0).1)(hH:H=(R s0).2)
    (body: ∀s x,step s=qA x->J F P c (R s).1 (R s).2 (λe a w=>match x with
      | .inl s'=>e= .normal/\Sees F (R s').1 (R s').2 a w
      | .inr o'=>e≠ .normal/\(o'=o->Q e a w))):J F P (.loop c) L H Q:=by
  subst hL;subst hH;intro hin;have hin':b0G F.n c=true:=hin;clear hin
  have key: ∀n s0,a0B step n s0=qA o-> ∀a w,Sees F (R s0).1 (R s0).2 a w-> ∀(b:Frame) (k:List Item) (cs:List Frame),∃e a' w',Q e a' w'/\Arrives P (lone (b.at a (.code c:: .inLoop c::k)) cs w) b k cs e a' w':=by
    intro n
    induction n with
    |zero=>intro s0 h;cases h
    |succ n ih=>
      intro s0 h a w hs b k cs;simp only[a0B]at h;split at h;cases h;rename_i o' hst;cases h;have hr:=body s0 _ hst hin' a w hs;obtain⟨e,a₁,w₁,⟨hne,hq⟩,harr⟩:=hr b (.inLoop c::k) cs;have hq:=hq rfl;refine⟨e,a₁,w₁,hq, ?_⟩
      cases e with
      |normal=>exact absurd rfl hne
      |exit id=>exact .pass (x:= .inLoop c) rfl (λ_ _=> .inl (by simp)) harr
      |goto l=>exact .pass (x:= .inLoop c) rfl (λ_ _=> .inl (by simp)) harr
      |ret=>exact .pass (x:= .inLoop c) rfl (λ_ _=> .inl (by simp)) harr
      |panic ch=>exact .pass (x:= .inLoop c) rfl (λ_ _=> .inl (by simp)) harr
      |outgrown=>exact .pass (x:= .inLoop c) rfl (λ_ _=> .inl (by simp)) harr
      rename_i s' hst;have hr:=body s0 _ hst hin' a w hs;obtain⟨e,a₁,w₁,⟨rfl,hs'⟩,harr⟩:=hr b (.inLoop c::k) cs;obtain⟨e₂,a₂,w₂,hq₂,harr₂⟩:=ih s' h a₁ w₁ hs' b k cs;exact⟨e₂,a₂,w₂,hq₂, .of_steps (Steps.trans harr (.one step_inLoop)) harr₂⟩
  intro a w hs b k cs;obtain⟨e,a',w',hq,harr⟩:=key n s0 ho a w hs b k cs;exact⟨e,a',w',hq, .of_steps (.one step_loop) harr⟩
/-! Functions. -/
def v0f(P:Program)(L:LE)(H:a0e):ResultVar->Option SV
  | .tmp t=>qA (lk L t)
  | .cell t ty=>match lk L t with
    | .ptr b off=>match(H[b]?).bind b0R with
      |some cs=>b0B P ty (cs.drop off)
      |none=>none
    |_=>none
def G0S {α β:Type} (f:α->Option β):List α->Option (List β)
  | []=>qA []
  |x::r=>match f x,G0S f r with
    |some y,qA ys=>qA (y::ys)
    |_,_=>none
def r0W(P:Program)(rs:List ResultVar)(L:LE)(H:a0e):Option SV:=
  match rs with
  | [r]=>v0f P L H r
  |rs=>(G0S (v0f P L H) rs).map .tup
def d0r:List ResultVar->List Nat
  | []=> []
  | .tmp t::rs=>t::d0r rs
  | .cell t _::rs=>t::d0r rs
def i0w(n:Nat)(rs:List ResultVar):Bool:=(d0r rs).all (λt=>vA (t<n))
def t0t(tm:Array Value)(r:ResultVar):Sem Value:=
  match r with
  | .tmp t=>pure (tm.getD t undef)
  | .cell a t=>do loadVar t (<-asAddr (tm.getD a undef))
theorem x0I(fn:Func)(tm:Array Value):results fn tm=(do
    let vs<-fn.results.mapM (t0t tm)
    pure (if h:vs.size=1 then vs[0]else .tuple vs)):=rfl
theorem z0u {K:Nat->Nat} (h:Inv F w K D H (a0w L) tm) {r:ResultVar} (ht: ∀t∈d0r [r],t<F.n)(hs:v0f P L H r=qA s):
    ∃v,(t0t tm r).run P w= .ok v w/\Rep w K D v s:=by
  cases r with
  |tmp t=>
    simp only[v0f]at hs;cases hs;exact⟨_,rfl,h.slots.rep t (ht t (by simp[d0r]))⟩
  |cell t ty=>
    simp only[v0f]at hs;have htn:=ht t (by simp[d0r]);split at hs;rename_i bi off hv;split at hs;rename_i cs hcs;have hr:=h.slots.rep t htn;rw[show a0w L t=lk L t from rfl,hv]at hr;obtain⟨b,c,m,hvx,hd⟩:=n0M hr
    cases hH:H[bi]? with
    |none=>rw[hH]at hcs;cases hcs
    |some en=>
      rw[hH]at hcs;obtain⟨vs,rest,e,hheap,hcr,_,_⟩:=v0R h.hinv hH hd hcs;have hrow:=(f0D hheap hcr).drop off;rw[bh]at hrow;obtain⟨v,hrun,hrep'⟩:=j0S (P:=P) hrow hs;refine⟨v, ?_,hrep'⟩;simp only[t0t,hvx];simp[asAddr,hrun]
    cases hs;cases hs
theorem x0J {K:Nat->Nat} (h:Inv F w K D H (a0w L) tm): ∀(rs:List ResultVar) (vs:List SV),(∀t∈d0r rs,t<F.n)->G0S (v0f P L H) rs=qA vs->
    ∃us,(rs.mapM (t0t tm)).run P w= .ok us w/\us.length=vs.length/\us.length=rs.length/\(∀(j:Nat) (v:Value) (c:SV),us[j]?=qA v->vs[j]?=qA c->Rep w K D v c):=by
  intro rs
  induction rs with
  |nil=>intro vs _ hv;simp[G0S]at hv;subst hv;exact⟨[],rfl,rfl,rfl,λj v c e=>by simp at e⟩
  |cons r rs ih=>
    intro vs ht hv;have htl:d0r (r::rs)=d0r [r]++d0r rs:=by cases r<;>rfl
    simp only[G0S]at hv;split at hv;rename_i s ss h1 h2;cases hv;obtain⟨u,hu1,hu2⟩:=z0u (P:=P) h (r:=r) (λt hm=>ht t (by rw[htl];exact aw.2 (.inl hm))) h1;obtain⟨us,i1,i2,i3,i4⟩:=ih ss (λt hm=>ht t (by rw[htl];exact aw.2 (.inr hm))) h2;refine⟨u::us, ?_,by simp[i2],by simp[i3],λj v c hv hc=> ?_⟩;simp only[da,zD,hu1,yC,i1,qE]
    cases j with
    |zero=>simp at hv hc;subst hv;subst hc;exact hu2
    |succ j=>exact i4 j v c (by simpa using hv) (by simpa using hc)
    cases hv
def r0f(P:Program)(fn:Func)(F:Fr)(v:SV)(H':a0e):e0G:=λe a w=>(e= .normal\/e= .ret)/\a.defers=F.ds/\ ∃r,(results fn a.tmps).run P w= .ok r w/\Good F.w0 F.K0 F.D0 F.H0 r w v H'
structure Back (m0:Nat) (H:a0e) (f:Nat->Nat) (v1 v:SV) (H':a0e):Prop where
  sel:Sel H f H'
  keep: ∀j,j<m0->f j=j
  le:m0<=H'.length
  val:v1=SV.rn f v
  refs:SV.refs H'.length v=yA
mutual
theorem x0G: ∀(s:SV),SV.rn (λj=>j) s=s
  | .agg cs=>by simp only[SV.rn];rw[p0O cs]
  | .tup cs=>by simp only[SV.rn];rw[p0O cs]
  | .fn q a b=>by simp only[SV.rn];rw[p0O a,p0O b]
  | .ptr _ _=>rfl
  | .vc _=>rfl
  | .sl _ _ _ _=>rfl
  | .mp _=>rfl
  | .undef=>rfl
  | .bool _=>rfl
  | .int _ _=>rfl
  | .str _=>rfl
  | .nl=>rfl
  | .lst _ _ _=>rfl
  | .ep _=>rfl
  | .nilp=>rfl
  | .yld _=>rfl
theorem p0O: ∀(cs:List SV),SV.rnL (λj=>j) cs=cs
  | []=>rfl
  |c::cs=>by simp only[SV.rnL];rw[x0G c,p0O cs]
end
theorem E0o(en:Ent):Ent.rn (λj=>j) en=en:=by
  cases en<;>simp[Ent.rn,p0O,x0G]
theorem Back.drop {m0:Nat} {ex:a0e} (hle:m0<=H'.length)(hr:SV.refs H'.length v=yA)(hH:H'.all (Ent.refs H'.length)=yA):Back m0 (H'++ex) (λj=>j) v v H':=
  ⟨⟨λj en hj=>by rw[E0o,aU (ae.1 hj).1];exact hj,λi j _ _ e=>e,λj en hj=>List.all_eq_true.1 hH en (aM hj)⟩,λ_ _=>rfl,hle,(x0G v).symm,hr⟩
theorem j0y {K:Nat->Nat} {w0:World} {K0:Nat->Nat} {D0:DM} {f:Nat->Nat} (hg:Grow w0 K0 D0 H0 w K D H)(hi:HInv w K D H)(hr:Rep w K D r v1)(hb:Back H0.length H f v1 v H')
    (hdom: ∀i,H0.length<=i->D0 i=none):Good w0 K0 D0 H0 r w v H':=by
  refine⟨K,k0l D f H'.length,⟨hg.os,hg.tape,hg.output,hg.size,hg.block,hg.cells,hg.le,hg.kk,λi x hx=> ?_,λb hm=>hg.new b (hb.sel.mem hm)⟩,hb.sel.hinv hi,f0o hr v hb.val hb.refs⟩
  have hil:i<H0.length:=by
    rcases bC i H0.length with h|h;exact h;rw[hdom i h]at hx;cases hx
  simp only[k0l,yB (aX hil hb.le),hb.keep i hil];exact hg.dd i x hx
theorem p0P {fn:Func} {K:Nat->Nat} (hi:Inv F w K D H (a0w L) tm)(hin:i0w F.n fn.results.toList=yA)(hret:r0W P fn.results.toList L H=qA v1):
    ∃r,(results fn tm).run P w= .ok r w/\Rep w K D r v1:=by
  simp only[i0w,qD,decide_eq_true_eq]at hin
  have hres: ∀us,(fn.results.toList.mapM (t0t tm)).run P w= .ok us w->
      (results fn tm).run P w= .ok (if h:us.toArray.size=1 then us.toArray[0]else .tuple us.toArray) w:=by
    intro us hus;rw[x0I,Array.mapM_eq_mapM_toList];simp[hus]
  unfold r0W at hret;split at hret;rename_i rr hrs;rw[hrs]at hres hin;obtain⟨u,h1,h2⟩:=z0u (P:=P) hi hin hret;refine⟨u, ?_,h2⟩;have:=hres [u] (by simp[h1]);simpa using this;rename_i hne
  cases hm:G0S (v0f P L H) fn.results.toList with
  |none=>rw[hm]at hret;cases hret
  |some vs=>
    rw[hm]at hret;cases hret;obtain⟨us,h1,h2,h3,h4⟩:=x0J (P:=P) hi _ vs hin hm
    have hn1:us.length≠1:=by
      intro he1;obtain⟨x,hx⟩:=List.length_eq_one_iff.1 (h3.symm.trans he1);exact hne x hx
    refine⟨.tuple us.toArray,by have:=hres _ h1;rw[dif_neg (by simpa using hn1)]at this;exact this, .tup us vs h2.symm h4⟩
theorem PJ.end {fn:Func} {e:Exit} {f:Nat->Nat} (he:e= .normal\/e= .ret)(hin:i0w F.n fn.results.toList=yA)(hret:r0W P fn.results.toList L H=qA v1)(hb:Back F.H0.length H f v1 v H')(hdom: ∀i,F.H0.length<=i->F.D0 i=none):
    PJ F (r0f P fn F v H') e L H:=by
  intro a w hs;obtain⟨hd,K,D,hi⟩:=hs;refine⟨he,hd, ?_⟩;obtain⟨r,h1,h2⟩:=p0P (P:=P) hi hin hret;exact⟨r,h1,j0y hi.grow hi.hinv h2 hb hdom⟩
def e0z:Nat->List SV->LE
  |_,[]=> []
  |i,v::r=>(i,v)::e0z (i+1) r
theorem l0I: ∀(args:List SV) (i t:Nat),lk (e0z i args) t=if i<=t then(args[t-i]?).getD .undef else .undef
  | [],i,t=>by simp[e0z,lk]
  |v::r,i,t=>by
    simp only[e0z,lk]
    cases hb:jC t i with
    |true=>have:=af hb;subst this;simp
    |false=>
      have hne:t≠i:=λe=>by subst e;simp at hb
      simp only[vC];rw[l0I r (i+1) t];by_cases hle:i<=t;rw[yB hle,yB (by omega),show t-i=(t-(i+1))+1 from by omega];simp;rw[oB hle,oB (by omega)]
theorem G0K {P:Program} {fn:Func} (hf:P.funcs[f]?=qA fn)(hb:fn.body=qA c)(hcal:b0J P f=yA)(hin:b0G fn.ntmps c=yA)
 {H:a0e} (hn:args.length<=fn.ntmps)
    (h: ∀F:Fr,F.n=fn.ntmps->F.H0=H->(∀i,F.H0.length<=i->F.D0 i=none)->J F P c (e0z 0 args) H (r0f P fn F v H')):SC P f args H v H':=by
  refine⟨hcal,λw K D vals hl hrep hi hG=> ?_⟩
  let F:Fr:=⟨fn.ntmps,w,K,D,H,[]⟩
  have hslots:Slots fn.ntmps w K D (a0w (e0z 0 args)) (vals.toArray++vD (fn.ntmps-vals.toArray.size) undef):=by
    refine⟨by simp;omega,λi hin=> ?_,hG⟩;show Rep w K D _ (lk (e0z 0 args) i);rw[l0I,yB (bp _),bV];by_cases hia:i<args.length;have hiv:i<vals.length:=by omega
    rw[ag hia,be]
    have hg:(vals.toArray++vD (fn.ntmps-vals.toArray.size) undef).getD i undef=vals[i]:=by
      rw[bg,bP (by simpa using hiv)];simp[hiv]
    rw[hg];exact hrep i _ _ (ag hiv) (ag hia);rw[aE (by omega)];exact .undef _
  have hst:Sees F (e0z 0 args) H { tmps:=vals.toArray++vD (fn.ntmps-vals.toArray.size) undef,defers:=[] } w:=⟨rfl,K,D,⟨hslots,hi,Grow.refl _ _ _ _⟩⟩
  refine calls_of_wp hf hb (jI (λe a' w' hq=> ?_) (h F rfl rfl hi.dom hin _ w hst));obtain⟨he,hd,r,hr,hg⟩:=hq;rcases he with rfl|rfl<;>exact⟨hd,r,hr,r,rfl,hg⟩
end
end
section
variable [Inhabited GT]
mutual
def SV.fz(i:Nat)(s0:SV):SV->SV
  | .agg cs=> .agg (SV.fzL i s0 cs)
  | .tup cs=> .tup (SV.fzL i s0 cs)
  | .fn g a b=> .fn g (SV.fzL i s0 a) (SV.fzL i s0 b)
  | .vc j=>bif jC j i then s0 else .vc j
  | .ptr j off=> .ptr j off
  | .sl j off n k=> .sl j off n k
  | .mp j=> .mp j
  | .undef=> .undef
  | .bool b=> .bool b
  | .int k n=> .int k n
  | .str s=> .str s
  | .nl=> .nl
  | .lst n k cs=> .lst n k cs
  | .ep cs=> .ep cs
  | .nilp=> .nilp
  | .yld j=> .yld j
def SV.fzL(i:Nat)(s0:SV):List SV->List SV
  | []=> []
  |c::cs=>SV.fz i s0 c::SV.fzL i s0 cs
end
theorem o0i(i:Nat)(s0:SV): ∀(cs:List SV) (j:Nat),(SV.fzL i s0 cs)[j]?=(cs[j]?).map (SV.fz i s0)
  | [],j=>by simp[SV.fzL]
  |c::cs,j=>by
    cases j with
    |zero=>simp[SV.fzL]
    |succ j=>simpa [SV.fzL]using o0i i s0 cs j
theorem h0i(i:Nat)(s0:SV): ∀(cs:List SV),(SV.fzL i s0 cs).length=cs.length
  | []=>rfl
  |c::cs=>by simp[SV.fzL,h0i i s0 cs]
def Ent.fz(i:Nat)(s0:SV):Ent->Ent
  | .box cs=> .box (SV.fzL i s0 cs)
  |e=>e
section
variable {w : World} {K K' : Nat -> Nat} {D : DM}
theorem D0X (hm: ∀v s,Rep w K D v s->Rep w K' D v s)(h0: ∀v,Rep w K D v (.vc i)->Rep w K' D v s0) {v:Value} (h:Rep w K D v s):Rep w K' D v (SV.fz i s0 s):=by
  induction h with
  |undef v=>exact .undef _
  |bool b=>exact .bool _
  |int k n=>exact .int _ _
  |str sb=>exact .str _
  |nl a=>exact .nl _
  |emp k a cap=>exact .emp _ _ _
  |lst k b off len cap vs cs hk hl hc hcap hmm hK h1 hp h _=>exact hm _ _ (.lst k b off len cap vs cs hk hl hc hcap hmm hK h1 hp h)
  |ep b off vs cs hc hmm hK h1 hp h _=>exact hm _ _ (.ep b off vs cs hc hmm hK h1 hp h)
  |agg vs cs hc h1 _ ih=>
    refine .agg vs _ (by rw[h0i,hc]) h1 (λj v c hv hcc=> ?_);rw[o0i]at hcc
    cases hx:cs[j]? with
    |none=>rw[hx]at hcc;cases hcc
    |some x=>rw[hx]at hcc;cases hcc;exact ih j v x hv hx
  |tup vs cs hc _ ih=>
    refine .tup vs _ (by rw[h0i,hc]) (λj v c hv hcc=> ?_);rw[o0i]at hcc
    cases hx:cs[j]? with
    |none=>rw[hx]at hcc;cases hcc
    |some x=>rw[hx]at hcc;cases hcc;exact ih j v x hv hx
  |ptr i off b c n hd=>exact .ptr _ _ b c n hd
  |vcn j a hd=>
    simp only[SV.fz]
    cases hb:jC j i with
    |true=>have:=af hb;subst this;exact h0 _ (.vcn _ a hd)
    |false=>exact .vcn _ a hd
  |vc j b c n hd=>
    simp only[SV.fz]
    cases hb:jC j i with
    |true=>have:=af hb;subst this;exact h0 _ (.vc _ b c n hd)
    |false=>exact .vc _ b c n hd
  |sl i off n k b c m' cap hd hn=>exact .sl _ _ _ _ b c m' cap hd hn
  |mp i r c n hd=>exact .mp _ r c n hd
  |fn q fs caps gs dcs hc hd _ _ ih ih'=>
    refine .fn q fs caps _ _ (by rw[h0i,hc]) (by rw[h0i,hd]) (λj v c hv hcc=> ?_) (λj v c hv hcc=> ?_);rw[o0i]at hcc
    cases hx:gs[j]? with
    |none=>rw[hx]at hcc;cases hcc
    |some x=>rw[hx]at hcc;cases hcc;exact ih j v x hv hx
    rw[o0i]at hcc
    cases hx:dcs[j]? with
    |none=>rw[hx]at hcc;cases hcc
    |some x=>rw[hx]at hcc;cases hcc;exact ih' j v x hv hx
  |nilp=>exact .nilp
  |yld i l c n hd=>exact .yld _ l c n hd
theorem E0q {j:Nat} {en:Ent} (hr: ∀v s,Rep w K D v s->Rep w K' D v (SV.fz i s0 s))(hp: ∀v s,Rep w K D v s->Rep w K' D v s)(h:EntOk w K D j en)
    (hK: ∀b c n,e0y en=yA->D j=qA (.at b c n)->K' b=K b):EntOk w K' D j (Ent.fz i s0 en):=by
  cases en with
  |res=>exact h
  |gone=>trivial
  |box cs=>
    obtain⟨b,vs,e,h1,h2,h3,h4⟩:=h;refine⟨b,vs,e,h1,by rw[hK b 0 0 rfl h1];exact h2,h3,⟨by rw[h0i,h4.len],h4.one,λj v c hv hc=> ?_⟩⟩;rw[o0i]at hc
    cases hx:cs[j]? with
    |none=>rw[hx]at hc;cases hc
    |some x=>rw[hx]at hc;cases hc;exact hr _ _ (h4.rep j v x hv hx)
  |vec n k e cs=>exact h.keep (w':=w) hp rfl (λb c n' hl hd=>⟨rfl,hK b c n' hl hd⟩)
  |map es=>exact h.keep (w':=w) hp rfl (λb c n' hl hd=>⟨rfl,hK b c n' hl hd⟩)
  |pmap es=>exact h.keep (w':=w) hp rfl (λb c n' hl hd=>⟨rfl,hK b c n' hl hd⟩)
  |itr m n s=>exact h.keep (w':=w) hp rfl (λb c n' hl hd=>⟨rfl,hK b c n' hl hd⟩)
  |lop tm ps as bd st pd=>exact h.keep (w':=w) hp rfl (λb c n' hl hd=>⟨rfl,hK b c n' hl hd⟩)
  |dfr=>exact h.keep (w':=w) hp rfl (λb c n' hl hd=>⟨rfl,hK b c n' hl hd⟩)
theorem n0Y (en:Ent):e0y (Ent.fz i s0 en)=e0y en:=by cases en<;>rfl
end
def fzE(i:Nat)(s0:SV)(L:LE):LE:=L.map λp=>(p.1,SV.fz i s0 p.2)
theorem u0c(i:Nat)(s0:SV): ∀(L:LE) (t:Nat),lk (fzE i s0 L) t=SV.fz i s0 (lk L t)
  | [],t=>rfl
  |(j,v)::r,t=>by
    simp only[fzE,ah,lk]
    cases jC t j with
    |true=>rfl
    |false=>exact u0c i s0 r t
def fzH(i:Nat)(s0:SV)(H:a0e):a0e:=(H.map (Ent.fz i s0)).set i .gone
section
variable {F : Fr} {P : Program} {L : LE} {H : a0e}
theorem Wk.freeze(i:Nat) (hi:H[i]?=qA (.vec n k e cs)):Wk F L H (fzE i (.lst n k cs) L) (fzH i (.lst n k cs) H):=by
  intro a w hs;obtain⟨hd,K,D,h⟩:=hs;have hil:i<H.length:=(ae.1 hi).1;obtain⟨hp,hent⟩:=h.hinv.ent i _ hi
  have hget: ∀j en,(fzH i (.lst n k cs) H)[j]?=qA en->(j=i/\en= .gone)\/(j≠i/\ ∃en0,H[j]?=qA en0/\en=Ent.fz i (.lst n k cs) en0):=by
    intro j en hj;unfold fzH at hj;rw[aW]at hj;by_cases hji:i=j
    · subst hji
      rw[yB rfl]at hj;split at hj<;>cases hj
      exact .inl ⟨rfl,rfl⟩
    rw[oB hji,ar]at hj
    cases hx:H[j]? with
    |none=>rw[hx]at hj;cases hj
    |some en0=>rw[hx]at hj;cases hj;exact .inr ⟨Ne.symm hji,en0,rfl,rfl⟩
  -- what is settled from now on
  have key: ∃K':Nat->Nat,(∀b,K b<=K' b)/\(∀v,Rep w K D v (.vc i)->Rep w K' D v (.lst n k cs))/\(∀b,K' b≠K b->Mem D H b)/\(∀j en b c n',j≠i->H[j]?=qA en->e0y en=yA->D j=qA (.at b c n')->K' b=K b):=by
    rcases hent with⟨h1,h2,h3⟩|⟨b,c,vs,rest,h1,h2,h3,h4,h5,h6,h7,h8,h9⟩;subst h2;subst h3;refine⟨K,λ_=>am _,λv hv=> ?_,λb hb=>absurd rfl hb,λ_ _ _ _ _ _ _ _ _=>rfl⟩
    cases hv with
    |vcn _ ad hd=>exact .emp _ _ _
    |vc _ b c n hd=>rw[h1]at hd;cases hd
    have hmono: ∀b',K b'<=(if b'=b then n*k else K b'):=λb'=>by
      split;rename_i e1;subst e1;omega;exact am _
    refine⟨λb'=>if b'=b then n*k else K b',hmono,λv hv=> ?_,λb' hb'=> ?_,λj en b' c' n' hji hj hl hdj=> ?_⟩
    cases hv with
    |vcn _ ad hd=>rw[h1]at hd;cases hd
    |vc _ b' c' n' hd=>
      rw[h1]at hd;cases hd;have hrow:=f0D h6 h9;have hm: ∀v s,Rep w K D v s->Rep w (λb'=>if b'=b then n*k else K b') D v s:=λv s hr=>hr.mono (λ_ _ _=>rfl) hmono (λ_ _ e=>e)
      exact .lst k b 0 n c vs cs h3 h7 h9.len h4 hrow.mem (by simp[h7]) h9.one hp (λj v c hv hc=>hm _ _ (h9.rep j v c hv hc))
    have:b'=b:=by
      rcases Nat.decEq b' b with hne|he;exact absurd (oB hne) hb';exact he
    subst this;exact⟨i,_,c,n,hi,rfl,h1⟩;refine oB λe1=> ?_
    subst e1;exact hji (h.hinv.inj j i en _ b' c' n' c n hj hi hl rfl hdj h1)
  obtain⟨K',k1,k2,k3,k4⟩:=key;have hm: ∀v s,Rep w K D v s->Rep w K' D v s:=λv s hr=>hr.mono (λ_ _ _=>rfl) k1 (λ_ _ e=>e)
  have hf: ∀v s,Rep w K D v s->Rep w K' D v (SV.fz i (.lst n k cs) s):=λv s hr=>D0X hm k2 hr
  have hmem: ∀b,Mem D (fzH i (.lst n k cs) H) b->Mem D H b:=by
    rintro b ⟨j,en,c,n',q1,q2,q3⟩;rcases hget j en q1 with⟨_,rfl⟩|⟨_,en0,g1,rfl⟩;cases q2;rw[n0Y]at q2;exact⟨j,en0,c,n',g1,q2,q3⟩
  have g:=h.grow
  refine⟨hd,K',D,⟨⟨h.slots.size,λt ht=> ?_,λg cs hg=>(h.slots.glob g cs hg).mono (λ_ _ _=>rfl) k1 (λ_ _ e=>e)⟩,⟨λj hj=>h.hinv.dom j (by unfold fzH at hj;simpa using hj),λj en hj=> ?_,λj j' en en' b c n1 c' n1' hj hj' hl hl' hdj hdj'=> ?_,λb hb=> ?_⟩,
    ⟨g.os,g.tape,g.output,g.size,g.block,g.cells,λb=>az (g.le b) (k1 b),λb hb hmm=> ?_,g.dd,λb hmm=>g.new b (hmem b hmm)⟩⟩⟩
  show Rep w K' D _ (lk (fzE i (.lst n k cs) L) t);rw[u0c];exact hf _ _ (h.slots.rep t ht);rcases hget j en hj with⟨_,rfl⟩|⟨hne,en0,g1,rfl⟩;trivial;exact E0q hf hm (h.hinv.ent j en0 g1) (λb c n' hl hdj=>k4 j en0 b c n' hne g1 hl hdj);rcases hget j en hj with⟨_,rfl⟩|⟨_,en0,g1,rfl⟩;cases hl;rcases hget j' en' hj' with⟨_,rfl⟩|⟨_,en0',g1',rfl⟩;cases hl';rw[n0Y]at hl hl';exact h.hinv.inj j j' en0 en0' b c n1 c' n1' g1 g1' hl hl' hdj hdj';by_cases hbb:K' b=K b;rw[hbb]at hb;exact h.hinv.kw b hb;exact(j0a h.hinv (k3 b hbb)).1;by_cases hbb:K' b=K b;rw[hbb];exact g.kk b hb hmm;rcases g.new b (k3 b hbb)with q|q;exact absurd q hmm;omega
theorem k0B(D:DM)(i:Nat)(l:Loc):e0H D i l i=qA l:=by simp[e0H]
theorem m0k(D:DM) {j:Nat} (l:Loc)(h:j≠i):e0H D i l j=D j:=by simp[e0H,h]
theorem Wk.move(i:Nat) (hi:H[i]?=qA (.vec n k e cs)):Wk F L H (fzE i (.vc H.length) L) (fzH i (.vc H.length) H++ [.vec n k e cs]):=by
  intro a w hs;obtain⟨hd,K,D,h⟩:=hs;have hil:i<H.length:=(ae.1 hi).1;have hent:=h.hinv.ent i _ hi
  obtain⟨x,hx⟩: ∃x,D i=qA x:=by
    rcases hent.2 with⟨h1,_⟩|⟨b,c,_,_,h1,_⟩;exact⟨_,h1⟩;exact⟨_,h1⟩
  have hN:D H.length=none:=h.hinv.dom _ (am _)
  have hDD: ∀j y,D j=qA y->e0H D H.length x j=qA y:=λj y hj=>by
    have:j≠H.length:=λe1=>by rw[e1,hN]at hj;cases hj
    rw[m0k D x this];exact hj
  have hm: ∀v s,Rep w K D v s->Rep w K (e0H D H.length x) v s:=λv s hr=>hr.mono (λ_ _ _=>rfl) (λ_=>am _) hDD
  have h0: ∀v,Rep w K (e0H D H.length x) v (.vc i)->Rep w K (e0H D H.length x) v (.vc H.length):=λv hv=>by
    have e1:e0H D H.length x i=qA x:=hDD i x hx
    cases hv with
    |vcn _ ad hd=>rw[e1]at hd;exact .vcn _ ad (by rw[k0B];exact hd)
    |vc _ b c n hd=>rw[e1]at hd;exact .vc _ b c n (by rw[k0B];exact hd)
  have hf: ∀v s,Rep w K (e0H D H.length x) v s->Rep w K (e0H D H.length x) v (SV.fz i (.vc H.length) s):=λv s hr=>D0X (λ_ _ h=>h) h0 hr
  have hlen:(fzH i (.vc H.length) H).length=H.length:=by simp[fzH]
  have hget: ∀j en,(fzH i (.vc H.length) H++ [.vec n k e cs])[j]?=qA en->(j=i/\en= .gone)\/(j≠i/\j<H.length/\ ∃en0,H[j]?=qA en0/\en=Ent.fz i (.vc H.length) en0)\/(j=H.length/\en= .vec n k e cs):=by
    intro j en hj;rw[aS,hlen]at hj;by_cases hjl:j<H.length;rw[yB hjl]at hj;unfold fzH at hj;by_cases hji:i=j;subst hji;rw[cI (by simpa using hil)]at hj;cases hj;exact .inl ⟨rfl,rfl⟩;rw[cz hji,ar]at hj
    cases hxx:H[j]? with
    |none=>rw[hxx]at hj;cases hj
    |some en0=>rw[hxx]at hj;cases hj;exact .inr (.inl ⟨Ne.symm hji,hjl,en0,rfl,rfl⟩)
    rw[oB hjl]at hj
    have hj0:j-H.length=0:=by
      have:=(ae.1 hj).1;simp at this;omega
    rw[hj0]at hj;simp only[cD,ak]at hj;exact .inr (.inr ⟨by omega,hj.symm⟩)
  have hmem: ∀b,Mem (e0H D H.length x) (fzH i (.vc H.length) H++ [.vec n k e cs]) b->Mem D H b:=by
    rintro b ⟨j,en,c,n',q1,q2,q3⟩;rcases hget j en q1 with⟨_,rfl⟩|⟨_,hjl,en0,g1,rfl⟩|⟨rfl,rfl⟩;cases q2;rw[n0Y]at q2;rw[m0k D x (by omega)]at q3;exact⟨j,en0,c,n',g1,q2,q3⟩;rw[k0B]at q3;exact⟨i,_,c,n',hi,rfl,by rw[hx];exact q3⟩
  have g:=h.grow
  refine⟨hd,K,e0H D H.length x,⟨⟨h.slots.size,λt ht=> ?_,g0Y h.slots.glob⟩,⟨λj hj=> ?_,λj en hj=> ?_,λj j' en en' b c n1 c' n1' hj hj' hl hl' hdj hdj'=> ?_,λb hb=>h.hinv.kw b hb⟩,
    ⟨g.os,g.tape,g.output,g.size,g.block,g.cells,g.le,g.kk,λj y hj=>hDD j y (g.dd j y hj),λb hmm=>g.new b (hmem b hmm)⟩⟩⟩
  show Rep w K _ _ (lk (fzE i (.vc H.length) L) t);rw[u0c];exact hf _ _ (hm _ _ (h.slots.rep t ht));rw[ac,hlen]at hj;simp only[aC,aH]at hj;rw[m0k D x (by omega)];exact h.hinv.dom j (by omega);rcases hget j en hj with⟨_,rfl⟩|⟨hne,hjl,en0,g1,rfl⟩|⟨rfl,rfl⟩;trivial;have he0:EntOk w K (e0H D H.length x) j en0:=(h.hinv.ent j en0 g1).keep hm (m0k D x (by omega)) (λ_ _ _ _ _=>⟨rfl,rfl⟩);exact E0q hf (λ_ _ h=>h) he0 (λ_ _ _ _ _=>rfl);obtain⟨hp,hh⟩:=hent;refine⟨hp, ?_⟩;rcases hh with⟨h1,h2,h3⟩|⟨b,c,vs,rest,h1,h2,h3,h4,h5,h6,h7,h8,h9⟩;exact .inl ⟨by rw[k0B,<-hx];exact h1,h2,h3⟩;exact .inr ⟨b,c,vs,rest,by rw[k0B,<-hx];exact h1,h2,h3,h4,h5,h6,h7,h8,h9.mono hm⟩;rcases hget j en hj with⟨_,rfl⟩|⟨hne,hjl,en0,g1,rfl⟩|⟨rfl,rfl⟩;cases hl;rw[m0k D x (by omega)]at hdj;rw[n0Y]at hl;rcases hget j' en' hj' with⟨_,rfl⟩|⟨hne',hjl',en0',g1',rfl⟩|⟨rfl,rfl⟩;cases hl';rw[m0k D x (by omega)]at hdj';rw[n0Y]at hl';exact h.hinv.inj j j' en0 en0' b c n1 c' n1' g1 g1' hl hl' hdj hdj';rw[k0B,<-hx]at hdj';exact absurd (h.hinv.inj j i en0 _ b c n1 c' n1' g1 hi hl rfl hdj hdj') hne;rw[k0B,<-hx]at hdj;rcases hget j' en' hj' with⟨_,rfl⟩|⟨hne',hjl',en0',g1',rfl⟩|⟨rfl,rfl⟩;cases hl';rw[m0k D x (by omega)]at hdj';rw[n0Y]at hl';exact absurd (h.hinv.inj i j' _ en0' b c n1 c' n1' hi g1' rfl hl' hdj hdj').symm hne';rfl
theorem p0k {K:Nat->Nat} (h:HInv w K D H)(k:Nat)(e:TypeId):Grow w K D H w K (e0H D H.length .nil) (H++ [.vec 0 k e []])/\HInv w K (e0H D H.length .nil) (H++ [.vec 0 k e []]):=by
  have:=p0S h (idx:=H.length) (.inl rfl) none (by simp) k e;rw[f0d]at this;have hs:g0i H H.length (.vec 0 k e [])=H++ [.vec 0 k e []]:=by unfold g0i;rw[oB (Nat.lt_irrefl _)]
  rw[hs]at this;exact this
theorem Wk.viv(t k:Nat)(e:TypeId)(ht:lk L t= .nl):Wk F L H ((t, .vc H.length)::L) (H++ [.vec 0 k e []]):=by
  intro a w hs;obtain⟨hd,K,D,h⟩:=hs;obtain⟨g,hi⟩:=p0k h.hinv k e;refine⟨hd,K,_,⟨⟨h.slots.size,λi hin=> ?_,λgg cs hg=>g.rep (h.slots.glob gg cs hg)⟩,hi,h.grow.trans g⟩⟩;have hr:=g.rep (h.slots.rep i hin);show Rep w K _ _ (lk _ i);simp only[lk]
  cases hb:jC i t with
  |true=>
    have:=af hb;subst this;rw[show a0w L i=lk L i from rfl,ht]at hr;generalize a.tmps.getD i undef=x at hr⊢;cases hr;exact .vcn _ _ (by simp[e0H])
  |false=>exact hr
theorem Wk.vivBox(i off k:Nat)(e:TypeId) (hi:H[i]?=qA (.box cs))(ho:cs[off]?=qA .nl):Wk F L H L (H.set i (.box (cs.set off (.vc H.length)))++ [.vec 0 k e []]):=by
  intro a w hs;obtain⟨hd,K,D,h⟩:=hs;obtain⟨g,hv⟩:=p0k h.hinv k e;have hil:i<H.length:=(ae.1 hi).1;have hi':(H++ [Ent.vec 0 k e []])[i]?=qA (.box cs):=by rw[aU hil];exact hi
  have hset:H.set i (.box (cs.set off (.vc H.length)))++ [.vec 0 k e []]=(H++ [Ent.vec 0 k e []]).set i (.box (cs.set off (.vc H.length))):=by
    rw[List.set_append_left _ _ hil]
  rw[hset];obtain⟨b,vs,e',h1,h2,h3,h4⟩:=hv.ent i _ hi'
  obtain⟨g2,hv2⟩:=modify (w':=w) (en':= .box (cs.set off (.vc H.length))) hv hi' rfl rfl h1 rfl rfl rfl rfl (λ_ _=>rfl) (λhr=>⟨b,vs,e',h1,h2,h3,⟨by simp[h4.len],h4.one,λj v c hv' hc=>by
    rw[aW]at hc;by_cases hjo:off=j
    · subst hjo
      rw[yB rfl]at hc;split at hc<;>cases hc
      have h5:=h4.rep off v .nl hv' ho;cases h5;exact .vcn _ _ (by simp[e0H])
    rw[oB hjo]at hc
    exact h4.rep j v c hv' hc⟩⟩)
  exact⟨hd,K,_,⟨h.slots.mono λ_ _=>g.rep,hv2,(h.grow.trans g).trans g2⟩⟩
/-! Entries under other numbers. -/
def a0Y(σ:List Nat):Nat->Nat:=λj=>σ.getD j 0
theorem Sel.of (σ:List Nat)(hl:σ.length=H2.length)(hg:σ.map (λi=>H[i]?)=H2.map (λen=>qA (Ent.rn (a0Y σ) en)))(hn:σ.Nodup)(hr:H2.all (Ent.refs H2.length)=yA):Sel H (a0Y σ) H2:=by
  refine⟨λj en hj=> ?_,λi j hi hj e=> ?_,λj en hj=>List.all_eq_true.1 hr en (aM hj)⟩;have hjl:=(ae.1 hj).1;have h1:=congrArg (λl=>l[j]?) hg;simp only[ar,hj,aT]at h1;have h2:σ[j]?=qA (σ[j]'(by omega)):=ag (by omega);rw[h2]at h1;simp only[aT,ak]at h1;unfold a0Y;rw[au,h2];exact h1;unfold a0Y at e;rw[au,au,ag (by omega),ag (by omega)]at e;exact(List.getElem_inj hn).1 (by simpa using e)
theorem Wk.sel {L2:LE} (m0:Nat)(hm:F.H0.length=m0)(hdom: ∀i,F.H0.length<=i->F.D0 i=none)(σ:List Nat)(hl:σ.length=H2.length)(hg:σ.map (λi=>H[i]?)=H2.map (λen=>qA (Ent.rn (a0Y σ) en)))(hn:σ.Nodup)(hr:H2.all (Ent.refs H2.length)=yA)
    (hk:σ.take m0=wC m0) (hv:L2.map (λp=>lk L p.1)=L2.map (λp=>SV.rn (a0Y σ) p.2)) (hvr:L2.all (λp=>SV.refs H2.length p.2)=yA):Wk F L H L2 H2:=by
  have hsel:=Sel.of σ hl hg hn hr;intro a w hs;obtain⟨hd,K,D,h⟩:=hs
  have hlk: ∀(L3:LE) t,(∀p∈L3,p∈L2)->lk L3 t= .undef\/ ∃p∈L2,p.1=t/\lk L3 t=p.2:=by
    intro L3 t
    induction L3 with
    |nil=>intro _;exact .inl rfl
    |cons q r ih=>
      intro hmem;obtain⟨j,v⟩:=q;simp only[lk]
      cases hb:jC t j with
      |true=>have:=af hb;subst this;exact .inr ⟨(t,v),hmem _ (av ..),rfl,rfl⟩
      |false=>exact ih λp hp=>hmem p (ao _ hp)
  have hval: ∀p∈L2,lk L p.1=SV.rn (a0Y σ) p.2:=by
    intro p hp;obtain⟨j,hj⟩:=bo.1 hp;have:=congrArg (λl=>l[j]?) hv;simpa [ar,hj]using this
  have hkeep: ∀j,j<m0->a0Y σ j=j:=by
    intro j hj;have:=congrArg (λl=>l[j]?) hk;simp only[ba,yB hj,bw hj]at this;unfold a0Y;rw[au,this];rfl
  have hmle:m0<=H2.length:=by
    have:=congrArg List.length hk;simp at this;omega
  have g:=h.grow;refine⟨hd,K,k0l D (a0Y σ) H2.length,⟨⟨h.slots.size,λi hin=> ?_,g0Y h.slots.glob⟩,hsel.hinv h.hinv,⟨g.os,g.tape,g.output,g.size,g.block,g.cells,g.le,g.kk,λi x hx=> ?_,λb hmm=>g.new b (hsel.mem hmm)⟩⟩⟩;have hr1:=h.slots.rep i hin;show Rep w K _ _ (lk L2 i);rcases hlk L2 i (λp hp=>hp)with e|⟨p,hp,rfl,e⟩;rw[e];exact .undef _;rw[e];refine f0o hr1 p.2 (hval p hp) ?_;exact List.all_eq_true.1 hvr p hp
  have hil:i<m0:=by
    rcases bC i m0 with h1|h1;exact h1;rw[hdom i (by omega)]at hx;cases hx
  simp only[k0l,yB (aX hil hmle),hkeep i hil];exact g.dd i x hx
end
def m0K:SV->Bool
  | .bool _=>yA
  | .int _ _=>yA
  | .str _=>yA
  | .tup cs=>cs.all λc=>match c with
    | .bool _=>yA
    | .int _ _=>yA
    | .str _=>yA
    |_=>oA
  |_=>oA
theorem x0K {K K':Nat->Nat} {D':DM} {v:Value} (hs:m0K s=yA)(h:Rep w K D v s):Rep w' K' D' v s:=by
  cases h with
  |bool b=>exact .bool _
  |int k n=>exact .int _ _
  |str sb=>exact .str _
  |tup vs cs hc h=>
    refine .tup vs cs hc (λj v c hv hcc=> ?_);have hr:=h j v c hv hcc;simp only[m0K,qD]at hs;have h1:=hs c (aM hcc);cases hr<;>first|(cases h1;done)|exact .bool _|exact .int _ _|exact .str _
  |_=>cases hs
mutual
def SV.fzA(H:a0e):SV->SV
  | .agg cs=> .agg (SV.fzAL H cs)
  | .tup cs=> .tup (SV.fzAL H cs)
  | .fn g a b=> .fn g (SV.fzAL H a) (SV.fzAL H b)
  | .vc j=>match H[j]? with
    |some (.vec n k _ cs)=> .lst n k cs
    |_=> .undef
  | .ptr _ _=> .undef
  | .sl _ _ _ _=> .undef
  | .mp _=> .undef
  | .undef=> .undef
  | .bool b=> .bool b
  | .int k n=> .int k n
  | .str s=> .str s
  | .nl=> .nl
  | .lst n k cs=> .lst n k cs
  | .ep cs=> .ep cs
  | .nilp=> .nilp
  | .yld _=> .undef
def SV.fzAL(H:a0e):List SV->List SV
  | []=> []
  |c::cs=>SV.fzA H c::SV.fzAL H cs
end
theorem l0L(H:a0e): ∀(cs:List SV) (j:Nat),(SV.fzAL H cs)[j]?=(cs[j]?).map (SV.fzA H)
  | [],j=>by simp[SV.fzAL]
  |c::cs,j=>by
    cases j with
    |zero=>simp[SV.fzAL]
    |succ j=>simpa [SV.fzAL]using l0L H cs j
theorem f0Z(H:a0e): ∀(cs:List SV),(SV.fzAL H cs).length=cs.length
  | []=>rfl
  |c::cs=>by simp[SV.fzAL,f0Z H cs]
theorem F0a {K K':Nat->Nat} {H:a0e} (hm: ∀v s,s.plain=yA->Rep w K D v s->Rep w K' (λ_=>none) v s)(hK: ∀b,K b<=K' b)(h0: ∀j v,Rep w K D v (.vc j)->Rep w K' (λ_=>none) v (SV.fzA H (.vc j))) {v:Value} (h:Rep w K D v s):
    Rep w K' (λ_=>none) v (SV.fzA H s):=by
  induction h with
  |undef v=>exact .undef _
  |bool b=>exact .bool _
  |int k n=>exact .int _ _
  |str sb=>exact .str _
  |nl a=>exact .nl _
  |emp k a cap=>exact .emp _ _ _
  |lst k b off len cap vs cs hk hl hc hcap hmm hK h1 hp h _=>exact hm _ (.lst len k cs) rfl (.lst k b off len cap vs cs hk hl hc hcap hmm hK h1 hp h)
  |ep b off vs cs hc hmm hKb h1 hp h _=>
    exact .ep b off vs cs hc hmm (az hKb (hK b)) h1 hp (λj v c hv hcc=>hm v c (d0D hp hcc) (h j v c hv hcc))
  |agg vs cs hc h1 _ ih=>
    refine .agg vs _ (by rw[f0Z,hc]) h1 (λj v c hv hcc=> ?_);rw[l0L]at hcc
    cases hx:cs[j]? with
    |none=>rw[hx]at hcc;cases hcc
    |some x=>rw[hx]at hcc;cases hcc;exact ih j v x hv hx
  |tup vs cs hc _ ih=>
    refine .tup vs _ (by rw[f0Z,hc]) (λj v c hv hcc=> ?_);rw[l0L]at hcc
    cases hx:cs[j]? with
    |none=>rw[hx]at hcc;cases hcc
    |some x=>rw[hx]at hcc;cases hcc;exact ih j v x hv hx
  |ptr i off b c n hd=>exact .undef _
  |vcn j a hd=>exact h0 _ _ (.vcn _ a hd)
  |vc j b c n hd=>exact h0 _ _ (.vc _ b c n hd)
  |sl i off n k b c m' cap hd hn=>exact .undef _
  |mp i r c n hd=>exact .undef _
  |fn q fs caps gs dcs hc hd _ _ ih ih'=>
    refine .fn q fs caps _ _ (by rw[f0Z,hc]) (by rw[f0Z,hd]) (λj v c hv hcc=> ?_) (λj v c hv hcc=> ?_);rw[l0L]at hcc
    cases hx:gs[j]? with
    |none=>rw[hx]at hcc;cases hcc
    |some x=>rw[hx]at hcc;cases hcc;exact ih j v x hv hx
    rw[l0L]at hcc
    cases hx:dcs[j]? with
    |none=>rw[hx]at hcc;cases hcc
    |some x=>rw[hx]at hcc;cases hcc;exact ih' j v x hv hx
  |nilp=>exact .nilp
  |yld i l c n hd=>exact .undef _
open Classical in
theorem SC.lend (hv:m0K v=yA)(h:SC P f (SV.fzAL H0 args0) [] v []):SC P f args0 H0 v H0:=by
  refine⟨h.1,λw K D vals hlen hr hi hG=> ?_⟩
  -- all blocks of lists are settled for as long as the call runs
  have hmem: ∀b,Mem D H0 b->b<w.heap.size/\K b=0:=λb hm=>j0a hi hm
  let size (b:Nat):Nat:=match w.heap[b]? with
    |some (.cells c _ _)=>c.size
    |_=>0
  let K1:Nat->Nat:=λb=>if Mem D H0 b then size b else K b
  have hK1: ∀b,K b<=K1 b:=λb=>by
    show K b<=if Mem D H0 b then size b else K b
    split;rename_i hm;rw[(hmem b hm).2];exact bp _;exact am _
  have hplain: ∀v s,s.plain=yA->Rep w K D v s->Rep w K1 (λ_=>none) v s:=λv s hp hr=>(hr.mono (K':=K1) (D':=D) (λ_ _ _=>rfl) hK1 (λ_ _ e=>e)).plain hp
  have hvec: ∀j x,Rep w K D x (.vc j)->Rep w K1 (λ_=>none) x (SV.fzA H0 (.vc j)):=by
    intro j x hx;simp only[SV.fzA];split;rename_i n k e cs hj;obtain⟨hp,hent⟩:=hi.ent j _ hj;rcases hent with⟨h1,h2,h3⟩|⟨b,c,vs,rest,h1,h2,h3,h4,h5,h6,h7,h8,h9⟩;subst h2;subst h3
    cases hx with
    |vcn _ ad hd=>exact .emp _ _ _
    |vc _ b c n hd=>rw[h1]at hd;cases hd
    cases hx with
    |vcn _ ad hd=>rw[h1]at hd;cases hd
    |vc _ b' c' n' hd=>
      rw[h1]at hd;cases hd;have hrow:=f0D h6 h9
      have hKb:K1 b=(vs++rest).length:=by
        show(if Mem D H0 b then size b else K b)=_;rw[yB ⟨j,_,c,n,hj,rfl,h1⟩];show(match w.heap[b]? with|some (.cells c _ _)=>c.size|_=>0)=_;rw[h6];simp
      exact .lst k b 0 n c vs cs h3 h7 h9.len h4 hrow.mem (by rw[hKb,ac];omega) h9.one hp (λj v c hv hc=>hplain _ _ (d0D hp hc) (h9.rep j v c hv hc))
    exact .undef _
  have hi1:HInv w K1 (λ_=>none) []:=⟨λ_ _=>rfl,λi en hj=>by simp at hj,λi j en en' b c n c' n' hj=>by simp at hj,λb hb=>by
    by_cases hm:Mem D H0 b;exact(hmem b hm).1
    exact hi.kw b (by simpa [K1,hm]using hb)⟩
  refine(h.2 w K1 (λ_=>none) vals (by rw[hlen,f0Z]) (λj x c hx hc=>by
    rw[l0L]at hc
    cases hy:args0[j]? with
    |none=>rw[hy]at hc;cases hc
    |some y=>rw[hy]at hc;cases hc;exact F0a hplain hK1 hvec (hr j x y hx hy)) hi1 (g0Y λg cs hg=>(hG g cs hg).mono (K':=K1) (D':=D) (λ_ _ _=>rfl) hK1 (λ_ _ e=>e))).mono ?_
  rintro e w' ⟨r,he,K1',D1',g,hi',hrep⟩;have nomem: ∀b,¬Mem (λ_=>none) [] b:=by rintro b ⟨i,en,c,n,h1,_⟩;simp at h1
  let K':Nat->Nat:=λb=>if Mem D H0 b then 0 else K1' b
  have hKK: ∀b,K b<=K' b:=λb=>by
    show K b<=if Mem D H0 b then 0 else K1' b
    split;rename_i hm;rw[(hmem b hm).2];exact am _;exact az (hK1 b) (g.le b)
  have hcells: ∀b j,j<K b->w'.cell? ⟨b,j,none⟩=w.cell? ⟨b,j,none⟩:=λb j hj=>g.cells b j (aX hj (hK1 b))
  have hrr: ∀v s,Rep w K D v s->Rep w' K' D v s:=λv s hr=>hr.mono hcells hKK (λ_ _ e=>e)
  refine⟨r,he,K',D,⟨g.os,g.tape,g.output,g.size,λb hb _=>g.block b hb (nomem b),hcells,hKK,λb hb hm=> ?_,λ_ _ e=>e,λb hm=> .inl hm⟩,
    ⟨hi.dom,λi en hie=>(hi.ent i en hie).keep hrr rfl (λb c n hl hd=> ?_),hi.inj,λb hb=> ?_⟩,x0K hv hrep⟩
  show(if Mem D H0 b then 0 else K1' b)=K b;rw[oB hm,g.kk b hb (nomem b)];show(if Mem D H0 b then size b else K b)=K b;rw[oB hm]
  have hm:Mem D H0 b:=⟨i,en,c,n,hie,hl,hd⟩
  refine⟨g.block b (hmem b hm).1 (nomem b), ?_⟩;show(if Mem D H0 b then 0 else K1' b)=K b;rw[yB hm,(hmem b hm).2];by_cases hm:Mem D H0 b;exact aX (hmem b hm).1 g.size;exact hi'.kw b (by simpa [K',hm]using hb)
end
section
variable [Inhabited GT]
def inR(j:Int)(n:Nat):Bool:=vA (0<=j)&&vA (j<n)
def inS(l h:Int)(n:Nat):Bool:=vA (0<=l)&&(vA (l<=h)&&vA (h<=n))
def room(n:Nat):Bool:=oC n 4294967296
def i0V(n:Nat):Bool:=oC n 140737488400000
def x0E(P:Program)(e:TypeId)(n:Nat):Bool:=bif l0S P e then i0V n else room n
def nz(y:Int):Bool:= !vA (y=0)
def sh(y:Int):Bool:= !vA (y<0)
def mk(l c:Int):Bool:=vA (0<=l)&&(vA (l<=c)&&vA (c<=4294967296))
theorem e0T :inR j n=yA↔0<=j/\j<n:=by simp[inR]
theorem l0i :inS l h n=yA↔0<=l/\l<=h/\h<=n:=by simp[inS]
theorem w0w :room n=yA↔y0A n:=by simp[room,y0A,cO]
theorem a0R (h:room n=yA):i0V n=true:=by
  simp only[room,i0V,cO]at*;omega
theorem p0g (h:x0E P e n=yA):RoomE P e n:=by
  unfold x0E at h;unfold RoomE
  cases hb:l0S P e with
  |true=>rw[hb]at h;simp only[i0V,qC,cO]at h;exact .inr ⟨rfl,h⟩
  |false=>rw[hb]at h;exact .inl (w0w.1 h)
theorem E0d {y:Int} :nz y=yA↔y≠0:=by simp[nz]
theorem D0U {y:Int} :sh y=yA↔0<=y:=by simp[sh]
theorem H0K {c:Int} :mk l c=yA↔0<=l/\l<=c/\c<=4294967296:=by simp[mk]
def w0g(P:Program)(c:Call)(ρ:Env)(H:a0e)(idx:Nat):Option (Eff×Bool):=
  match c.args.toList,c.argTypes.toList with
  | [x,y],[t,tx]=>match P.underlying t,a0L ρ x,a0L ρ y with
    |some (.slice e),qA .nl,qA sy=>match x0A P e (P.cellsOf e) tx sy H with
      |some (m,cs2,rd)=>if g0u P e (P.cellsOf e)=yA then qA (⟨.vc idx,rd,[(idx, .vec m (P.cellsOf e) e cs2)]⟩,H0w sy&&x0E P e m)else none
      |none=>none
    |some (.slice e),qA (.vc i),qA sy=>match H[i]? with
      |some (.vec n k e' cs)=>match x0A P e k tx sy H with
        |some (m,cs2,rd)=>if e=e'/\g0u P e k=yA then qA (⟨.vc idx,i::rd,[(i, .gone),(idx, .vec (n+m) k e (cs++cs2))]⟩,H0w sy&&x0E P e (n+m))else none
        |none=>none
      |_=>none
    |_,_,_=>none
  |_,_=>none
theorem s0P {c:Call} {H:a0e} {idx:Nat} (h:w0g P c ρ H idx=qA (ef,b))(hb:b=yA):l0y P c ρ H idx=qA ef:=by
  unfold w0g at h;unfold l0y;split at h;rename_i x y t tx hx hy;rw[hx,hy];simp only;split at h;rename_i e sy h1 h2 h3;rw[h1,h2,h3];simp only;split at h;rename_i m cs2 rd h4;rw[h4];simp only;split at h;rename_i h5;cases h;rw[yB ⟨h5,(bJ.1 hb).1,p0g (bJ.1 hb).2⟩];cases h;cases h;rename_i e i sy h1 h2 h3;rw[h1,h2,h3];simp only;split at h;rename_i n k e' cs h4;rw[h4];simp only;split at h;rename_i m cs2 rd h6;rw[h6];simp only;split at h;rename_i h5;cases h;rw[yB ⟨h5.1,h5.2,(bJ.1 hb).1,p0g (bJ.1 hb).2⟩];cases h;cases h;cases h;cases h;cases h
def A0E(P:Program)(t:TypeId)(sx sj:SV)(H:a0e):Option (Eff×Bool):=
  match P.underlying t,sx,sj with
  |some (.slice e), .lst n k cs, .int _ j=>if k=P.cellsOf e/\0<k then qA (⟨.ep ((cs.drop (j.toNat*k)).take k),[],[]⟩,inR j n)else none
  |some (.slice e), .vc i, .int _ j=>match H[i]? with
    |some (.vec n k _ _)=>if k=P.cellsOf e/\0<k then qA (⟨.ptr i (j.toNat*k),[i],[]⟩,inR j n)else none
    |_=>none
  |some (.slice e), .sl b off n k, .int _ j=>if k=P.cellsOf e/\0<k then qA (⟨.ptr b (off+j.toNat*k),[],[]⟩,inR j n)else none
  |some (.array len e), .ptr b off, .int _ j=>if 0<P.cellsOf e then qA (⟨.ptr b (off+j.toNat*P.cellsOf e),[],[]⟩,inR j len)else none
  |some (.array len e), .ep cs, .int _ j=>if 0<P.cellsOf e/\len*P.cellsOf e<=cs.length then qA (⟨.ep ((cs.drop (j.toNat*P.cellsOf e)).take (P.cellsOf e)),[],[]⟩,inR j len)else none
  |_,_,_=>none
theorem u0j {H:a0e} {idx:Nat} {sx sj:SV} (ho:o.op= .indexAddr t x y)(hx:a0L ρ x=qA sx)(hy:a0L ρ y=qA sj)(h:A0E P t sx sj H=qA (ef,b))(hb:b=yA):a0E P o ρ H idx=qA ef:=by
  unfold A0E at h;unfold a0E a0i a0p;simp only[ho,hx,hy];split at h;rename_i e n k cs k' j hu;rw[hu];simp only;split at h;rename_i hk;cases h;have:=e0T.1 hb;rw[yB hk.1];unfold J0A;rw[yB ⟨hk.2,this⟩];cases h;rename_i e i k' j hu;rw[hu];simp only;split at h;rename_i n k e2 cs hH;rw[hH];simp only;split at h;rename_i hk;cases h;have:=e0T.1 hb;rw[yB ⟨hk.1,hk.2,this⟩];cases h;cases h;rename_i e bb off n k k' j hu;rw[hu];simp only;split at h;rename_i hk;cases h;have:=e0T.1 hb;rw[yB ⟨hk.1,hk.2,this⟩];cases h;rename_i len e bb off k' j hu;rw[hu];simp only;split at h;rename_i hk;cases h;have:=e0T.1 hb;rw[yB ⟨this.1,this.2,hk⟩];cases h;rename_i len e cs k' j hu;rw[hu];simp only;split at h;rename_i hk;cases h;have hj:=e0T.1 hb;have:(j.toNat+1)*P.cellsOf e<=cs.length:=az (aY _ (by omega)) hk.2;rw[yB ⟨hj.1,hj.2,this,hk.1⟩];cases h;cases h
def z0e(P:Program)(t:TypeId)(sx:SV)(ρ:Env)(lo hi:Option Operand):Option (Eff×Bool):=
  match P.underlying t,sx with
  |some (.slice e), .lst n k cs=>match g0x ρ lo 0,g0x ρ hi (n:Int)with
    |some l,qA h=>if k=P.cellsOf e/\0<k then qA (⟨.lst (h.toNat-l.toNat) k ((cs.take (h.toNat*k)).drop (l.toNat*k)),[],[]⟩,inS l h n)else none
    |_,_=>none
  |some .string, .str s=>match g0x ρ lo 0,g0x ρ hi (s.length:Int)with
    |some l,qA h=>qA (⟨.str ((s.take h.toNat).drop l.toNat),[],[]⟩,inS l h s.length)
    |_,_=>none
  |_,_=>none
theorem t0j {lo hi:Option Operand} {H:a0e} {idx:Nat} {sx:SV} (ho:o.op= .slice t x lo hi none)(hx:a0L ρ x=qA sx)(h:z0e P t sx ρ lo hi=qA (ef,b))(hb:b=yA):a0E P o ρ H idx=qA ef:=by
  unfold z0e at h;unfold a0E a0i;simp only[ho,hx];split at h;rename_i e n k cs hu;rw[hu];simp only;split at h;rename_i l hh h1 h2;rw[h1,h2];simp only;split at h;rename_i hk;cases h;have:=l0i.1 hb;rw[yB hk.1];unfold z0f;rw[yB ⟨hk.2,this⟩];cases h;cases h;rename_i s hu;rw[hu];simp only;split at h;rename_i l hh h1 h2;rw[h1,h2];simp only;cases h;have:=l0i.1 hb;rw[yB ⟨this.1,this.2.1,by omega⟩];cases h;cases h
def J0J(op:BinOp)(a b:SV):Option (SV×Bool):=
  match op,a,b with
  | .quo, .int k x, .int k' y=>if k=k' then qA (.int k (k.wrap (x.tdiv y)),nz y)else none
  | .rem, .int k x, .int k' y=>if k=k' then qA (.int k (x.tmod y),nz y)else none
  | .shl, .int k x, .int _ y=>qA (.int k (k.wrap (x*2^(min y.toNat k.bits))),sh y)
  | .shr, .int k x, .int _ y=>qA (.int k (x.fdiv (2^(min y.toNat k.bits))),sh y)
  | .add, .str s, .str t=>qA (.str (s++t),room (s.length+t.length))
  |_,_,_=>none
theorem y0l {bt:Bool} {op:BinOp} {a b:SV} {c:Bool} (h:J0J op a b=qA (v,c))(hc:c=yA):h0Y bt op a b=qA v:=by
  unfold J0J at h;split at h;split at h;rename_i hk;cases h;simp only[h0Y];rw[yB hk,oB (E0d.1 hc)];cases h;split at h;rename_i hk;cases h;simp only[h0Y];rw[yB hk,oB (E0d.1 hc)];cases h;cases h;simp only[h0Y];rw[oB (by have:=D0U.1 hc;omega)];cases h;simp only[h0Y];rw[oB (by have:=D0U.1 hc;omega)];cases h;simp only[h0Y];rw[yB (w0w.1 hc)];cases h
def J0e(P:Program)(t:TypeId):Bool:=match P.underlying t with
  |some (.int _)=>yA
  |some .bool=>yA
  |some .string=>yA
  |some (.slice _)=>yA
  |_=>oA
def s0i(P:Program)(o:Oper)(ρ:Env)(H:a0e)(idx:Nat):Option (Eff×Bool):=
  match o.op with
  | .indexAddr t x y=>match a0L ρ x,a0L ρ y with
    |some sx,qA sj=>A0E P t sx sj H
    |_,_=>none
  | .slice t x lo hi none=>match a0L ρ x with
    |some sx=>z0e P t sx ρ lo hi
    |none=>none
  | .index t x i=>match P.underlying t,a0L ρ x,a0L ρ i with
    |some .string,qA (.str s),qA (.int _ j)=>qA (⟨.int .u8 (s.getD j.toNat 0).toNat,[],[]⟩,inR j s.length)
    |some (.array n e),qA (.agg cs),qA (.int _ j)=>bif J0e P e&&(jC (P.cellsOf e) 1&&oC n cs.length)then qA (⟨(cs.drop (j.toNat*1)).headD .undef,[],[]⟩,inR j n)else none
    |_,_,_=>none
  | .binOp op t x y _=>match a0L ρ x,a0L ρ y with
    |some a,qA b=>match J0J op a b with
      |some (v,c)=>qA (⟨v,[],[]⟩,c)
      |none=>none
    |_,_=>none
  | .makeSlice t x y=>match P.underlying t,a0L ρ x,a0L ρ y with
    |some (.slice e),qA (.int _ l),qA (.int _ c)=>match o0K P e with
      |some zs=>if g0u P e (P.cellsOf e)=yA/\b0b zs=yA then qA (⟨.vc idx,[],[(idx, .vec l.toNat (P.cellsOf e) e (wD l.toNat zs).flatten)]⟩,mk l c)else none
      |none=>none
    |_,_,_=>none
  | .load t x=>match a0L ρ x with
    |some (.ptr i off)=>match H[i]? with
      |some (.vec n k e cs)=>match P.underlying t with
        |some (.int _)=>qA (⟨(cs.drop off).headD .undef,[i],[]⟩,jE off cs.length)
        |some .bool=>qA (⟨(cs.drop off).headD .undef,[i],[]⟩,jE off cs.length)
        |some .string=>qA (⟨(cs.drop off).headD .undef,[i],[]⟩,jE off cs.length)
        |some (.slice _)=>qA (⟨(cs.drop off).headD .undef,[i],[]⟩,jE off cs.length)
        |_=>none
      |_=>none
    |_=>none
  | .store t x y=>match a0L ρ x,(a0L ρ y).bind SV.cells? with
    |some (.ptr i off),qA ps=>match H[i]? with
      |some (.vec n k e cs)=>if ps.length=P.cellsOf t/\0<ps.length/\b0b ps=yA then qA (⟨.undef,[i],[(i, .vec n k e (splice cs off ps))]⟩,oC (off+ps.length) cs.length)else none
      |_=>none
    |_,_=>none
  | .convert src dst x=>match P.underlying src,P.underlying dst,a0L ρ x with
    |some .string,qA (.slice e),qA (.str s)=>match P.underlying e with
      |some (.int .u8)=>qA (⟨.lst s.length 1 (s.map i0r),[],[]⟩,yA)
      |some (.int .i32)=>qA (⟨.lst (f0L s).length 1 ((f0L s).map t0l),[],[]⟩,yA)
      |_=>none
    |some (.slice e),qA .string,qA s=>match P.underlying e,s0U 1 s H with
      |some (.int .u8),qA (_,cs,rd)=>if g0P P src s=yA then qA (⟨.str (cs.map n0w),rd,[]⟩,cs.all o0C)else none
      |some (.int .i32),qA (_,cs,rd)=>if g0P P src s=yA then qA (⟨.str (cs.flatMap t0m),rd,[]⟩,cs.all m0u)else none
      |_,_=>none
    |_,_,_=>none
  | .call c=>match c.callee with
    | .builtin .append=>w0g P c ρ H idx
    | .builtin .copy=>match B0n P c ρ H with
      |some ef=>qA (ef,yA)
      |none=>none
    |_=>none
  |_=>none
theorem m0Y {H:a0e} {idx:Nat} (h:s0i P o ρ H idx=qA (ef,b))(hb:b=yA):a0E P o ρ H idx=qA ef:=by
  unfold s0i at h;split at h;rename_i t x y ho;split at h;rename_i sx sj h1 h2;exact u0j ho h1 h2 h hb;cases h;rename_i t x lo hi ho;split at h;rename_i sx h1;exact t0j ho h1 h hb
  cases h
  · rename_i t x i ho
    split at h;rename_i s k j h1 h2 h3;cases h;obtain⟨q1,q2⟩:=e0T.1 hb;unfold a0E a0i;simp only[ho,h1,h2,h3];rw[yB q1];have hl:j.toNat<s.length:=by omega
    rw[ag hl];simp only[au,ag hl,be]
    · rename_i n e cs k j h1 h2 h3
      cases h4:(J0e P e&&(jC (P.cellsOf e) 1&&oC n cs.length))with
      |false=>rw[h4]at h;cases h
      |true=>
        rw[h4]at h;simp only[qC,ak,aP]at h;obtain⟨rfl,rfl⟩:=h;simp only[aa]at h4;obtain⟨p1,p2,p3⟩:=h4;have p2:=af p2;have p3:=aj p3;obtain⟨q1,q2⟩:=e0T.1 hb;unfold a0E a0i;simp only[ho,h1,h2,h3];rw[yB ⟨q1,q2⟩,p2];have hl:j.toNat*1<cs.length:=by omega
        rw[bv hl];unfold J0e at p1;simp only[b0B,List.headD];split at p1<;>first|(rename_i hu;simp only[hu];done)|(rename_i hu;simp only[hu];rfl)|cases p1
    cases h
  rename_i op t x y tt ho;split at h;rename_i a b' h1 h2;split at h;rename_i v c h3;cases h;unfold a0E a0i;simp only[ho,h1,h2,y0l h3 hb];cases h;cases h;rename_i t x y ho;split at h;rename_i e k1 l k2 c h1 h2 h3;split at h;rename_i zs h4;split at h;rename_i h5;cases h;obtain⟨q1,q2,q3⟩:=H0K.1 hb;unfold a0E a0i a0p;simp only[ho,h1,h2,h3,h4];rw[yB ⟨h5.1,q1,q2,q3,h5.2⟩];cases h;cases h
  cases h
  · rename_i t x ho
    split at h
    · rename_i i off h1
      split at h
      · rename_i n k e cs h2
        have fin: ∀(ut:_),P.underlying t=qA ut->(∀f,ut≠ .struct f)->(∀m e,ut≠ .array m e)->jE off cs.length=yA->a0E P o ρ H idx=qA ⟨(cs.drop off).headD .undef,[i],[]⟩:=by
          intro ut hu hn1 hn2 hlt;unfold a0E a0i a0p;simp only[ho,h1,h2,ab,b0R];have hl:off<cs.length:=bL (aj (by simpa [jE]using hlt));rw[bv hl]
          have hcv:b0B P t (cs[off]::cs.drop (off+1))=qA cs[off]:=by
            unfold b0B;rw[hu];cases ut<;>first|rfl|exact absurd rfl (hn1 _)|exact absurd rfl (hn2 _ _)
          rw[hcv];rfl
        split at h;rename_i hu;cases h;exact fin _ hu (λ_=>by simp) (λ_ _=>by simp) hb;rename_i hu;cases h;exact fin _ hu (λ_=>by simp) (λ_ _=>by simp) hb;rename_i hu;cases h;exact fin _ hu (λ_=>by simp) (λ_ _=>by simp) hb;rename_i hu;cases h;exact fin _ hu (λ_=>by simp) (λ_ _=>by simp) hb;cases h
      cases h
    cases h
  rename_i t x y ho;split at h;rename_i i off ps h1 h2;split at h;rename_i n k e cs h3;split at h;rename_i h4;cases h;have hle:off+ps.length<=cs.length:=aj hb;unfold a0E a0i a0p;simp only[ho,h1,h2,h3,b0R];rw[yB ⟨h4.1,h4.2.1,hle,λ_=>h4.2.2⟩];rfl;cases h;cases h;cases h;rename_i src dst x ho;split at h;rename_i e s h1 h2 h3;split at h;rename_i he;cases h;unfold a0E a0i a0p;simp only[ho,h1,h2,h3,he,q0w];rename_i he;cases h;unfold a0E a0i a0p;simp only[ho,h1,h2,h3,he,q0w];cases h;rename_i e s h1 h2 h3;split at h;rename_i m cs rd he hsc;split at h;rename_i hty;cases h;unfold a0E a0i a0p;simp only[ho,h1,h2,h3,he,hsc,q0w];rw[yB ⟨hty,hb⟩];cases h;rename_i m cs rd he hsc;split at h;rename_i hty;cases h;unfold a0E a0i a0p;simp only[ho,h1,h2,h3,he,hsc,q0w];rw[yB ⟨hty,hb⟩];cases h;cases h;cases h;rename_i c ho;split at h;rename_i hc;unfold a0E a0i a0p;simp only[ho,hc,w0c];exact s0P h hb;rename_i hc;split at h;rename_i ef2 he;cases h;unfold a0E a0i a0p;simp only[ho,hc,w0c];exact he;cases h;cases h;cases h
section
variable {F : Fr} {P : Program} {L : LE} {H : a0e} {Q : e0G} {m : Option Nat} {ops : Array Oper} {p : Nat} {tr : List (List Nat × List Nat)}
def p0Q(P:Program)(m:Option Nat)(ops:Array Oper)(p:Nat)(tr:List (List Nat×List Nat))(L:LE)(H:a0e):Option (Option Nat×Eff×Bool×List (List Nat×List Nat)):=
  match ops.toList[p]? with
  |none=>none
  |some o=>match b0n ops (a0w L) o with
    |some yA=>bif b0M o then none else match s0i P o (a0w L) H (B0K m ops p H)with
      |some (ef,c)=>bif okM m ops p o ef tr H then qA (o.dst,ef,c,trM m ops p o ef tr)else none
      |none=>none
    |_=>none
theorem RJ.rel {c:Bool} (h:p0Q P m ops p tr L H=qA (d,ef,c,tr2))(hc:c=yA)(hn:c=yA->ef=ef')(hH:b0H H ef'.wr=H2)(k:RJ F P m ops (p+1) tr2 (e0n L d ef'.v) H2 Q):RJ F P m ops p tr L H Q:=by
  unfold p0Q at h;have hn':=hn hc;subst hn';subst hH;split at h;cases h;rename_i o ho;split at h;rename_i hg
  cases hcc:b0M o with
  |true=>rw[hcc]at h;cases h
  |false=>
    rw[hcc]at h;simp only[vC]at h;split at h;rename_i ef2 c2 he
    cases hok:okM m ops p o ef2 tr H with
    |false=>rw[hok]at h;cases h
    |true=>
      rw[hok]at h;simp only[qC,ak,aP]at h;obtain⟨rfl,rfl,rfl,rfl⟩:=h;exact RJ.step ho hg hcc (m0Y he hc) hok k
    cases h
  cases h
def s0h(P:Program)(o:Oper)(ρ:Env)(H:a0e)(idx:Nat):Option (Eff×Bool):=
  match s0i P o ρ H idx with
  |some r=>qA r
  |none=>(a0E P o ρ H idx).map λef=>(ef,yA)
theorem q0I {P:Program} {H:a0e} {idx:Nat} (h:s0h P o ρ H idx=qA (ef,b))(hb:b=yA):a0E P o ρ H idx=qA ef:=by
  unfold s0h at h;split at h;rename_i r hr;cases h;exact m0Y hr hb
  cases he:a0E P o ρ H idx with
  |none=>rw[he]at h;cases h
  |some e=>rw[he]at h;cases h;rfl
def D0Z(P:Program)(base:Nat)(ops:Array Oper)(p:Nat)(tr:List (List Nat×List Nat))(L:LE)(H:a0e):Option (Option Nat×Eff×Bool×List (List Nat×List Nat)):=
  match ops.toList[p]? with
  |none=>none
  |some o=>match b0n ops (a0w L) o with
    |some yA=>bif b0M o then none else bif c0H o then(match s0h P o (a0w L) H (d0S ops base p)with
      |some (ef,c)=>match q0m ef (d0S ops base p) H with
        |some efz=>bif okM (qA base) ops p o efz tr H then qA (o.dst,efz,c,trM (qA base) ops p o efz tr)else none
        |none=>none
      |none=>none)else none
    |_=>none
theorem RJ.relZ {c:Bool} (h:D0Z P base ops p tr L H=qA (d,ef,c,tr2))(hc:c=yA)(hn:c=yA->ef=ef')(hH:b0H H ef'.wr=H2)(k:RJ F P (qA base) ops (p+1) tr2 (e0n L d ef'.v) H2 Q):RJ F P (qA base) ops p tr L H Q:=by
  unfold D0Z at h;have hn':=hn hc;subst hn';subst hH;split at h;cases h;rename_i o ho;split at h;rename_i hg
  cases hcc:b0M o with
  |true=>rw[hcc]at h;cases h
  |false=>
    rw[hcc]at h
    cases hcr:c0H o with
    |false=>rw[hcr]at h;cases h
    |true=>
      rw[hcr]at h;simp only[vC,qC]at h;split at h;rename_i ef2 c2 he;split at h;rename_i efz hz
      cases hok:okM (qA base) ops p o efz tr H with
      |false=>rw[hok]at h;cases h
      |true=>
        rw[hok]at h;simp only[qC,ak,aP]at h;obtain⟨rfl,rfl,rfl,rfl⟩:=h;intro hl;rw[d0F ho];simp only[okM,aa,bF,qD]at hok;obtain⟨⟨k1,k2⟩,k3⟩:=hok;have k3': ∀x∈efz.wr,x.1<H.length:=λx hx=>bL (aj (by simpa [jE]using k3 x hx))
        subst hl;refine⟨efz, ?_,k1, ?_⟩;unfold opD;rw[hg];simp only;rw[hcc,oB (by simp)];refine⟨.inr ⟨?_,hcr⟩,λ_=> ?_,k3'⟩;unfold k0V;rw[q0I he hc];exact hz;rcases k2 with k2|k2;rw[hcr]at k2;cases k2;unfold n0i at k2;split at k2
        assumption
        cases k2;have:=k (by simp[trM]);rw[<-n0y _ _ k3',b0o];exact this
      cases h;cases h
  cases h
/-! Cuts. -/
def a0x (k:S->Option X):S⊕X->Option X
  | .inl s=>k s
  | .inr x=>qA x
theorem a0I {m:Option α} {k:α->Option β} {r:β} (h:m.bind k=qA r): ∃y,m=qA y/\k y=qA r:=by
  cases m with
  |none=>cases h
  |some y=>exact⟨y,rfl,h⟩
theorem condT {x y:α} {r:α} (hb:b=yA)(h:(bif b then x else y)=r):x=r:=by subst hb;exact h
theorem condF {x y:α} {r:α} (hb:b=oA)(h:(bif b then x else y)=r):y=r:=by subst hb;exact h
theorem c0l {x:Option α} {r:α} (h:(bif b then x else none)=qA r):b=yA/\x=qA r:=by
  cases b with
  |true=>exact⟨rfl,h⟩
  |false=>cases h
def cutN (F:Fr)(R:S->LE×a0e)(st:S):e0G:=λe a w=>e= .normal/\Sees F (R st).1 (R st).2 a w
def cutX (F:Fr)(R:S->LE×a0e)(Q:e0G)(x:S⊕X):e0G:=λe a w=>match x with
  | .inl st=>e= .normal/\Sees F (R st).1 (R st).2 a w
  | .inr _=>e≠ .normal/\Q e a w
theorem J.cutN (R:S->LE×a0e)(st:S)(h1:J F P c1 L H (cutN F R st))(h2:J F P c2 (R st).1 (R st).2 Q):J F P (.seq c1 c2) L H Q:=λhin a w hs=>by
  simp only[b0G,aa]at hin;refine wp_seq (jI (λe a' w' hq=> ?_) (h1 hin.1 a w hs));obtain⟨rfl,hq⟩:=hq;exact h2 hin.2 a' w' hq
theorem J.cutX (R:S->LE×a0e)(x:S⊕X)(h1:J F P c1 L H (cutX F R Q x))(h2: ∀st,x= .inl st->J F P c2 (R st).1 (R st).2 Q):J F P (.seq c1 c2) L H Q:=λhin a w hs=>by
  simp only[b0G,aa]at hin;refine wp_seq (jI (λe a' w' hq=> ?_) (h1 hin.1 a w hs))
  cases x with
  |inl st=>
    obtain⟨rfl,hq⟩:=hq;exact h2 st rfl hin.2 a' w' hq
  |inr r=>
    obtain⟨hne,hq⟩:=hq;cases e<;>first|exact absurd rfl hne|exact hq
theorem PJ.cutN {R:S->LE×a0e} {st:S} (ts:List Nat)(hL:f0K ts L=(R st).1)(hH:H=(R st).2):PJ F (cutN F R st) .normal L H:=λa w hs=>by
  subst hH;exact⟨rfl,by rw[<-hL];exact hs.keep (i0H ts L)⟩
theorem PJ.cutXl {R:S->LE×a0e} {st:S} (ts:List Nat)(hL:f0K ts L=(R st).1)(hH:H=(R st).2):PJ F (cutX (X:=X) F R Q (.inl st)) .normal L H:=λa w hs=>by
  subst hH;exact⟨rfl,by rw[<-hL];exact hs.keep (i0H ts L)⟩
theorem PJ.cutXr {R:S->LE×a0e} {x:X} {e:Exit} (hne:e≠ .normal)(h:PJ F Q e L H):PJ F (cutX F R Q (.inr x:S⊕X)) e L H:=λa w hs=>⟨hne,h a w hs⟩
def n0d (F:Fr)(R:S->LE×a0e)(Q:e0G)(o:O)(x:S⊕O):e0G:=λe a w=>match x with
  | .inl s'=>e= .normal/\Sees F (R s').1 (R s').2 a w
  | .inr o'=>e≠ .normal/\(o'=o->Q e a w)
theorem J.loopR {step:S->Option (S⊕O)} {s0:S} {o:O} (R:S->LE×a0e)(ho:a0B step n s0=qA o)(ts:List Nat)(hL:f0K ts L=(R s0).1)(hH:H=(R s0).2)
    (body: ∀s x,step s=qA x->J F P c (R s).1 (R s).2 (n0d F R Q o x)):J F P (.loop c) L H Q:=
  J.keep ts hL (J.loop R ho rfl hH body)
theorem PJ.loopNext {R:S->LE×a0e} {o:O} {s':S} (ts:List Nat)(hL:f0K ts L=(R s').1)(hH:H=(R s').2):PJ F (n0d F R Q o (.inl s')) .normal L H:=λa w hs=>by
  subst hH;exact⟨rfl,by rw[<-hL];exact hs.keep (i0H ts L)⟩
theorem PJ.loopOut {R:S->LE×a0e} {o o':O} {e:Exit} (hne:e≠ .normal)(h:o'=o->PJ F Q e L H):PJ F (n0d F R Q o (.inr o')) e L H:=λa w hs=>⟨hne,λhe=>h he a w hs⟩
def f0G(m:Option Nat)(ops:Array Oper)(p:Nat)(tr:List (List Nat×List Nat))(L:LE)(rd:List Nat)(wr:List (Nat×Ent):=[]):Option (Option Nat×FuncId×List SV×List (List Nat×List Nat)):=
  match ops.toList[p]? with
  |none=>none
  |some o=>match b0n ops (a0w L) o with
    |some yA=>match d0L (a0w L) o with
      |some (f,args)=>bif(match m with|none=>yA|some base=>k0g o (f0M o ⟨.undef,rd,wr⟩) (e0L ops base p o ⟨.undef,rd,wr⟩) tr 0)then qA (o.dst,f,args,trM m ops p o ⟨.undef,rd,wr⟩ tr)else none
      |none=>none
    |_=>none
theorem d0w {wr:List (Nat×Ent)} (h:f0G m ops p tr L rd wr=qA (d,f,args,tr2)):
    ∃o,ops.toList[p]?=qA o/\b0n ops (a0w L) o=qA yA/\d0L (a0w L) o=qA (f,args)/\o.dst=d/\trM m ops p o ⟨.undef,rd,wr⟩ tr=tr2/\(∀base,m=qA base->k0g o (f0M o ⟨.undef,rd,wr⟩) (e0L ops base p o ⟨.undef,rd,wr⟩) tr 0=yA):=by
  unfold f0G at h;split at h;cases h;rename_i o ho;split at h;rename_i hg;split at h;rename_i f2 args2 hc
  cases hk:(match m with|none=>yA|some base=>k0g o (f0M o ⟨.undef,rd,wr⟩) (e0L ops base p o ⟨.undef,rd,wr⟩) tr 0)with
  |false=>rw[hk]at h;cases h
  |true=>
    rw[hk]at h;simp only[qC,ak,aP]at h;obtain⟨rfl,rfl,rfl,rfl⟩:=h;exact⟨o,ho,hg,hc,rfl,rfl,λbase hb=>by subst hb;exact hk⟩
  cases h;cases h
theorem w0o {wr:List (Nat×Ent)} :trM m ops p o ⟨v,rd,wr⟩ tr=trM m ops p o ⟨.undef,rd,wr⟩ tr:=by cases m<;>rfl
mutual
theorem z0y {m:Nat} : ∀ {s:SV},SV.refs 0 s=yA->SV.refs m s=yA
  | .agg cs,h=>by simp only[SV.refs]at h⊢;exact m0P h
  | .tup cs,h=>by simp only[SV.refs]at h⊢;exact m0P h
  | .ptr i off,h=>by simp[SV.refs]at h
  | .vc i,h=>by simp[SV.refs]at h
  | .sl i off n k,h=>by simp[SV.refs]at h
  | .mp i,h=>by simp[SV.refs]at h
  | .fn q a b,h=>by simp only[SV.refs,aa]at h⊢;exact⟨m0P h.1,m0P h.2⟩
  | .undef,_=>rfl
  | .bool _,_=>rfl
  | .int _ _,_=>rfl
  | .str _,_=>rfl
  | .nl,_=>rfl
  | .lst _ _ _,_=>rfl
  | .ep _,_=>rfl
  | .nilp,_=>rfl
  | .yld i,h=>by simp[SV.refs]at h
theorem m0P {m:Nat} : ∀ {cs:List SV},SV.refsL 0 cs=yA->SV.refsL m cs=yA
  | [],_=>rfl
  |c::cs,h=>by simp only[SV.refsL,aa]at h⊢;exact⟨z0y h.1,m0P h.2⟩
end
theorem Sel.nil {H:a0e} :Sel H g []:=⟨λj en hj=>by simp at hj,λi j hi=>by simp at hi,λj en hj=>by simp at hj⟩
theorem v0e (h:SV.refs 0 s=yA):SV.rn g s=s:=by
  rw[g0Q (f:=g) (g:=λj=>j) (m:=0) (λi hi=>by omega) s h,x0G]
theorem C0z {s:List SV} (h:SV.refsL 0 s=yA):SV.rnL g s=s:=by
  rw[g0k (f:=g) (g:=λj=>j) (m:=0) (λi hi=>by omega) s h,p0O]
theorem RJ.call0 (h:f0G m ops p tr L []=qA (d,f,args,tr2))(hr:SV.refsL 0 args=yA)(hle:LeL args args')(hs:SC P f args' [] v [])(hv:SV.refs 0 v=yA)
    (k:RJ F P m ops (p+1) tr2 (e0n L d v) H Q):RJ F P m ops p tr L H Q:=by
  obtain⟨o,ho,hg,hc,rfl,rfl,hk⟩:=d0w h;refine RJ.callD (g:=λj=>j) (args0:=args) (H0:=[]) (v0:=v) ho hg hc (by rw[C0z hr]) Sel.nil (λen hm=>by cases hm) hr hv (SC.weak hs hle) hk ?_;rw[v0e hv,aH,List.range_zero,aA,w0o];exact k
theorem RJ.callL {args1:List SV} (σ:List Nat)(h:f0G m ops p tr L σ=qA (d,f,args,tr2))(ha:args=SV.rnL (a0Y σ) args0)(hl:σ.length=H0.length)(hg:σ.map (λi=>H[i]?)=H0.map (λen=>qA (Ent.rn (a0Y σ) en)))(hn:σ.Nodup)(hr0:H0.all (Ent.refs H0.length)=yA)
    (hlive:H0.all e0y=yA) (hr:SV.refsL H0.length args0=yA) (hfz:SV.fzAL H0 args0=args1) (hle:LeL args1 args') (hs:SC P f args' [] v []) (hsc:m0K v=yA) (hv:SV.refs 0 v=yA)
    (k:RJ F P m ops (p+1) tr2 (e0n L d v) H Q):RJ F P m ops p tr L H Q:=by
  obtain⟨o,ho,hgd,hc,rfl,rfl,hk⟩:=d0w h
  have hσ:(wC H0.length).map (a0Y σ)=σ:=by
    apply bz;intro i;rw[ar];by_cases hi:i<H0.length;rw[bw hi];simp only[aT,a0Y,au];rw[ag (by omega)];rfl;rw[aE (by simpa using hi),aE (by omega)];rfl
  have hv':SV.refs H0.length v=true:=z0y hv;refine RJ.callD (g:=a0Y σ) (args0:=args0) (H0:=H0) (v0:=v) ho hgd hc ha (Sel.of σ hl hg hn hr0) (λen hm=>List.all_eq_true.1 hlive en hm) hr hv' (SC.lend hsc (by rw[hfz];exact SC.weak hs hle)) (λbase hb=> ?_) ?_;rw[hσ,v0e hv];exact hk base hb;rw[v0e hv,hσ,w0o];exact k
theorem RJ.callM (idx:Nat)(hidx:d0S ops base p=idx)(hres:n0i (H[idx]?)=yA)
    (h:f0G (qA base) ops p tr L [] [(idx,en0)]=qA (d,f,args,tr2)) (hr:SV.refsL 0 args=yA) (hle:LeL args args') (hs:SC P f args' [] v0 [en0]) (hv:SV.rn (λ_=>idx) v0=v) (hH:H.set idx en0=H2)
    (kk:RJ F P (qA base) ops (p+1) tr2 (e0n L d v) H2 Q) (hE: ∀g,Ent.rn g en0=en0:=by exact λ_=>rfl):RJ F P (qA base) ops p tr L H Q:=by
  obtain⟨o,ho,hg,hc,rfl,rfl,hk⟩:=d0w h;subst hv;subst hH;subst hidx;intro hl;rw[d0F ho];subst hl
  have hres':H[d0S ops base tr.length]?=qA .res:=by
    unfold n0i at hres;split at hres
    assumption
    cases hres
  refine⟨⟨SV.rn (λ_=>d0S ops base tr.length) v0,[],[(d0S ops base tr.length,en0)]⟩, ?_,hk base rfl, ?_⟩;unfold opD;rw[hg];simp only;rw[n0j hc,yB rfl];exact .inr (.inl ⟨f,args,v0,en0,hc,hr,SC.weak hs hle,⟨hres',hE⟩,rfl⟩);have:=kk (by simp[trM]);rw[b0o];exact this
theorem RJ.callG (σ:List Nat)(h:f0G none ops p tr L []=qA (d,f,args,tr2))(ha:args=SV.rnL (a0Y σ) args0)(hl:σ.length=H0.length)(hg:σ.map (λi=>H[i]?)=H0.map (λen=>qA (Ent.rn (a0Y σ) en)))(hn:σ.Nodup)(hr0:H0.all (Ent.refs H0.length)=yA)
    (hlive:H0.all e0y=yA) (hr:SV.refsL H0.length args0=yA) (hle:LeL args0 args') (hs:SC P f args' H0 v0 H0') (hle':oC H0.length H0'.length=yA)
    (hv:SV.rn (gOf (a0Y σ) H0.length H.length) v0=v) (hH:c0E (a0Y σ) H0.length H H0'=H2)
    (k:RJ F P none ops (p+1) tr2 (e0n L d v) H2 Q):RJ F P none ops p tr L H Q:=by
  obtain⟨o,ho,hgd,hc,rfl,rfl,hk⟩:=d0w h;subst hv;subst hH;refine RJ.call ho hgd hc ?_ k;rw[ha];exact SC.frame (SC.weak hs hle) (Sel.of σ hl hg hn hr0) (λen hm=>List.all_eq_true.1 hlive en hm) hr (aj hle')
end
end
section
variable [Inhabited GT]
def a0l(k:IntKind):Int->List SV:=λx=> [.int k x]
def k0d:List UInt8->List SV:=λx=> [.str x]
def lsv (enc:T->List SV)(k:Nat)(xs:List T):SV:= .lst xs.length k (xs.flatMap enc)
def k0e (enc:T->List SV)(k:Nat):List T->List SV:=λxs=> [.lst xs.length k (xs.flatMap enc)]
def a0t (enc:T->List SV)(k e:Nat)(xs:List T):Ent:= .vec xs.length k e (xs.flatMap enc)
def nth [Inhabited T](xs:List T)(j:Int):T:=xs.getD j.toNat default
def cut (xs:List T)(l h:Int):List T:=(xs.take h.toNat).drop l.toNat
def rep (l:Int)(z:T):List T:=wD l.toNat z
def a0W (xs:List T)(j:Int)(y:T):List T:=xs.set j.toNat y
def G0R (xs ys:List T):List T:=ys.take xs.length++xs.drop ys.length
def a0P(s:List UInt8):List Int:=s.map λb=>(b.toNat:Int)
def i0p(xs:List Int):List UInt8:=xs.map λx=>zG x.toNat
def F0u(a b:Int):Int:=if a<b then b else a
def J0j(a b:Int):Int:=if b<a then b else a
theorem H0E [Inhabited T] {xs:List T} (h:inR j xs.length=yA):xs[j.toNat]?=qA (nth xs j):=by
  have:=e0T.1 h;have hl:j.toNat<xs.length:=by omega
  unfold nth;rw[au,ag hl];rfl
section
variable {T : Type} {enc : T -> List SV} {k : Nat}
theorem p0m(hk: ∀x,(enc x).length=k): ∀xs:List T,(xs.flatMap enc).length=xs.length*k
  | []=>by simp
  |x::xs=>by rw[ap,ac,hk,p0m hk xs,aC,bT];omega
theorem l0k(hk: ∀x,(enc x).length=k): ∀(xs:List T) (n:Nat),(xs.flatMap enc).drop (n*k)=(xs.drop n).flatMap enc
  | [],n=>by simp
  |x::xs,0=>by simp
  |x::xs,n+1=>by
    rw[ap,List.drop_append,hk,bT,ci (by rw[hk];omega),aR];rw[show n*k+k-k=n*k from by omega,l0k hk xs n,List.drop_succ_cons]
theorem h0B(hk: ∀x,(enc x).length=k): ∀(xs:List T) (n:Nat),(xs.flatMap enc).take (n*k)=(xs.take n).flatMap enc
  | [],n=>by simp
  |x::xs,0=>by simp
  |x::xs,n+1=>by
    rw[ap,List.take_append,hk,bT,List.take_of_length_le (by rw[hk];omega)];rw[show n*k+k-k=n*k from by omega,h0B hk xs n,List.take_succ_cons,ap]
theorem v0L [Inhabited T](hk: ∀x,(enc x).length=k) {xs:List T} (h:inR j xs.length=yA):((xs.flatMap enc).drop (j.toNat*k)).take k=enc (nth xs j):=by
  have hn:=H0E h;rw[l0k hk];have hl:=(ae.1 hn).1;rw[bv hl,ap,(ae.1 hn).2,<-hk (nth xs j),List.take_left]
theorem N.idx [Inhabited T](hk: ∀x,(enc x).length=k) {xs:List T} (h:inR j xs.length=yA):(⟨.ep (((xs.flatMap enc).drop (j.toNat*k)).take k),[],[]⟩:Eff)=⟨.ep (enc (nth xs j)),[],[]⟩:=by
  rw[v0L hk h]
theorem N.slice(hk: ∀x,(enc x).length=k) {xs:List T} (hb:inS l h xs.length=yA):
    (⟨.lst (h.toNat-l.toNat) k (((xs.flatMap enc).take (h.toNat*k)).drop (l.toNat*k)),[],[]⟩:Eff)=⟨.lst (cut xs l h).length k ((cut xs l h).flatMap enc),[],[]⟩:=by
  have:=l0i.1 hb;rw[h0B hk,l0k hk]
  have:(cut xs l h).length=h.toNat-l.toNat:=by
    unfold cut;rw[bk,aQ];omega
  rw[this];rfl
theorem N.app {xs ys:List T} {idx e:Nat} :(⟨v,rd,[(i, .gone),(idx, .vec (xs.length+ys.length) k e (xs.flatMap enc++ys.flatMap enc))]⟩:Eff)=⟨v,rd,[(i, .gone),(idx, .vec (xs++ys).length k e ((xs++ys).flatMap enc))]⟩:=by
  rw[ac,cR]
theorem t0g(hk: ∀x,(enc x).length=k) {xs:List T} {y:T} (h:inR j xs.length=yA):splice (xs.flatMap enc) (j.toNat*k) (enc y)=(a0W xs j y).flatMap enc:=by
  have hj:=e0T.1 h;have hl:j.toNat<xs.length:=by omega
  unfold splice a0W;rw[hk,h0B hk,show j.toNat*k+k=(j.toNat+1)*k from(bT _ _).symm,l0k hk];rw[List.set_eq_take_append_cons_drop,yB hl,cR,ap]
end
theorem N.store {enc:T->List SV} (hk: ∀x,(enc x).length=k) {e:Nat} {xs:List T} {y:T} (h:inR j xs.length=yA):
    (⟨v,rd,[(i, .vec xs.length k e (splice (xs.flatMap enc) (j.toNat*k) (enc y)))]⟩:Eff)=⟨v,rd,[(i,a0t enc k e (a0W xs j y))]⟩:=by
  rw[t0g hk h];unfold a0t a0W;rw[List.length_set]
theorem i0R {enc:T->List SV} (hk: ∀x,(enc x).length=k) {xs:List T} {y:T} (h:inR j xs.length=yA):oC (j.toNat*k+(enc y).length) (xs.flatMap enc).length=true:=by
  have hj:=e0T.1 h;rw[p0m hk,hk,cO,show j.toNat*k+k=(j.toNat+1)*k from(bT _ _).symm];exact aY _ (by omega)
theorem C0W {enc:T->List SV} (hk: ∀x,(enc x).length=k)(hk0:k=1) {xs:List T} (h:inR j xs.length=yA):jE (j.toNat*k) (xs.flatMap enc).length=true:=by
  have hj:=e0T.1 h;subst hk0;rw[p0m hk,Nat.blt_eq];omega
theorem N.load1 [Inhabited T] {enc:T->List SV} {f:T->SV} (hk: ∀x,(enc x).length=1)(hf: ∀x,enc x=[f x]) {xs:List T} (h:inR j xs.length=yA):
    (⟨((xs.flatMap enc).drop (j.toNat*1)).headD .undef,rd,[]⟩:Eff)=⟨f (nth xs j),rd,[]⟩:=by
  have h1:=v0L hk h;rw[hf]at h1
  cases hd:(xs.flatMap enc).drop (j.toNat*1)with
  |nil=>rw[hd]at h1;simp at h1
  |cons c r=>rw[hd]at h1;simp at h1;rw[h1];rfl
theorem a0n(k:IntKind)(x:Int):(a0l k x).length=1:=rfl
theorem n0t(x:List UInt8):(k0d x).length=1:=rfl
theorem p0n (enc:T->List SV)(k:Nat)(x:List T):(k0e enc k x).length=1:=rfl
theorem h0b(s:List UInt8):s.map i0r=(a0P s).flatMap (a0l .u8):=by
  induction s with
  |nil=>rfl
  |cons b s ih=>rw[ah,a0P,ah,ap,ih];rfl
theorem c0q(s:List UInt8):(a0P s).length=s.length:=by simp[a0P]
theorem N.toBytes {s:List UInt8} :(⟨.lst s.length 1 (s.map i0r),[],[]⟩:Eff)=⟨lsv (a0l .u8) 1 (a0P s),[],[]⟩:=by
  unfold lsv;rw[h0b,c0q]
theorem C0t(s:List UInt8):(f0L s).map t0l=(f0L s).flatMap (a0l .i32):=by
  generalize f0L s=l
  induction l with
  |nil=>rfl
  |cons b s ih=>rw[ah,ap,ih];rfl
theorem N.toRunes {s:List UInt8} :(⟨.lst (f0L s).length 1 ((f0L s).map t0l),[],[]⟩:Eff)=⟨lsv (a0l .i32) 1 (f0L s),[],[]⟩:=by
  unfold lsv;rw[C0t]
def m0L(xs:List Int):List UInt8:=xs.flatMap λx=>(oH x).data.toList
theorem G0G(xs:List Int):(xs.flatMap (a0l .i32)).all m0u=true:=by
  induction xs with
  |nil=>rfl
  |cons x xs ih=>rw[ap,bU,ih];rfl
theorem N.toRStr {xs:List Int} :(⟨.str ((xs.flatMap (a0l .i32)).flatMap t0m),rd,[]⟩:Eff)=⟨.str (m0L xs),rd,[]⟩:=by
  have:(xs.flatMap (a0l .i32)).flatMap t0m=m0L xs:=by
    unfold m0L
    induction xs with
    |nil=>rfl
    |cons x xs ih=>rw[ap,cR,ih,ap];simp[a0l,t0m]
  rw[this]
theorem s0Q(xs:List Int):(xs.flatMap (a0l .u8)).all o0C=true:=by
  induction xs with
  |nil=>rfl
  |cons x xs ih=>rw[ap,bU,ih];rfl
theorem N.toStr {xs:List Int} :(⟨.str ((xs.flatMap (a0l .u8)).map n0w),rd,[]⟩:Eff)=⟨.str (i0p xs),rd,[]⟩:=by
  have:(xs.flatMap (a0l .u8)).map n0w=i0p xs:=by
    induction xs with
    |nil=>rfl
    |cons x xs ih=>rw[ap,bM,ih];rfl
  rw[this]
section
variable {F : Fr} {P : Program} {L : LE} {H : a0e}
end
end
section
variable [Inhabited GT]
def e0F(fn:Func):Code:=fn.body.getD .skip
def cl:Code->Code| .seq a _=>a|_=> .skip
def cr:Code->Code| .seq _ b=>b|_=> .skip
def ct:Code->Code| .cond _ a _=>a|_=> .skip
def ce:Code->Code| .cond _ _ b=>b|_=> .skip
def cb:Code->Code| .block _ a=>a|_=> .skip
def cp:Code->Code| .loop a=>a|_=> .skip
def f0J:Code->Array Oper| .region _ ops _=>ops|_=> #[]
def q0j:Code->Bool| .seq _ _=>yA|_=>oA
def m0v(d:Bool):Code->Bool| .region _ _ b=>b==d|_=>oA
def A0B(i:Nat):Code->Bool| .block j _=>jC j i|_=>oA
def A0A(i:Nat):Code->Bool| .exit j=>jC j i|_=>oA
def A0z:Code->Bool| .loop _=>yA|_=>oA
def D0g:Code->Bool| .ret=>yA|_=>oA
def u0h:Code->Bool| .skip=>yA|_=>oA
def v0Z(c:Code)(L:LE):Option SV:=match c with
  | .cond x _ _=>a0L (a0w L) x
  |_=>none
section
variable {F : Fr} {P : Program} {c : Code} {L : LE} {H : a0e} {Q : e0G}
theorem w0t(h:q0j c=yA):c= .seq (cl c) (cr c):=by cases c<;>first|rfl|cases h
theorem K.seq(h:q0j c=yA)(k:J F P (cl c) L H (k0k F P (cr c) Q)):J F P c L H Q:=by
  rw[w0t h];exact J.seq k
theorem K.cutN (h:q0j c=yA)(R:S->LE×a0e)(st:S)(h1:J F P (cl c) L H (cutN F R st))(h2:J F P (cr c) (R st).1 (R st).2 Q):J F P c L H Q:=by
  rw[w0t h];exact J.cutN R st h1 h2
theorem K.cutX (h:q0j c=yA)(R:S->LE×a0e)(x:S⊕X)(h1:J F P (cl c) L H (cutX F R Q x))(h2: ∀st,x= .inl st->J F P (cr c) (R st).1 (R st).2 Q):J F P c L H Q:=by
  rw[w0t h];exact J.cutX R x h1 h2
theorem K.region(h:m0v oA c=yA)(k:RJ F P none (f0J c) 0 [] L H Q):J F P c L H Q:=by
  cases c<;>first|cases h|skip
  rename_i i ops d
  cases d with
  |false=>exact J.region k
  |true=>cases h
theorem K.draw(h:m0v yA c=yA)(hm:P.follows .mixedOrders=yA)(hB:qG .any (f0J c)=yA) (hH:H++wD (d0J (f0J c)) .res=H2) (hn:H.length=n)(k:RJ F P (qA n) (f0J c) 0 [] L H2 Q):J F P c L H Q:=by
  subst hH;subst hn;cases c<;>first|cases h|skip
  rename_i i ops d
  cases d with
  |true=>exact J.draw hm hB k
  |false=>cases h
theorem K.condT(h:v0Z c L=qA (.bool yA))(k:J F P (ct c) L H Q):J F P c L H Q:=by
  cases c<;>first|cases h|skip
  exact J.cond (b:=yA) h k
theorem K.condF(h:v0Z c L=qA (.bool oA))(k:J F P (ce c) L H Q):J F P c L H Q:=by
  cases c<;>first|cases h|skip
  exact J.cond (b:=oA) h k
theorem K.block(i:Nat)(h:A0B i c=yA)(k:J F P (cb c) L H (vF i Q)):J F P c L H Q:=by
  cases c<;>first|cases h|skip
  rename_i j a;have:=af h;subst this;exact J.block k
theorem K.skip(h:u0h c=yA)(k:PJ F Q .normal L H):J F P c L H Q:=by
  cases c<;>first|cases h|skip
  exact J.skip k
theorem K.ret(h:D0g c=yA)(k:PJ F Q .ret L H):J F P c L H Q:=by
  cases c<;>first|cases h|skip
  exact J.ret k
theorem K.exit(i:Nat)(h:A0A i c=yA)(k:PJ F Q (.exit i) L H):J F P c L H Q:=by
  cases c<;>first|cases h|skip
  rename_i j;have:=af h;subst this;exact J.exit k
theorem K.loop {step:S->Option (S⊕O)} {s0:S} {o:O} (h:A0z c=yA)(R:S->LE×a0e)(ho:a0B step n s0=qA o)(ts:List Nat)(hL:f0K ts L=(R s0).1)(hH:H=(R s0).2)
    (body: ∀s x,step s=qA x->J F P (cp c) (R s).1 (R s).2 (n0d F R Q o x)):J F P c L H Q:=by
  cases c<;>first|cases h|skip
  exact J.loopR R ho ts hL hH body
theorem RJ.end {m:Option Nat} {p:Nat} {tr:List (List Nat×List Nat)} (hp:oC ops.size p=yA)(h:PJ F Q .normal L H):RJ F P m ops p tr L H Q:=RJ.done (aj hp) h
end
theorem K.fn {P:Program} {f:FuncId} {fn:Func} (hf:P.funcs[f]?=qA fn)(hb:fn.body.isSome=yA)(hcal:b0J P f=yA)(hin:b0G fn.ntmps (e0F fn)=yA)
    {args:List SV} {H:a0e} {v:SV} {H':a0e} (hn:oC args.length fn.ntmps=yA)
    (h: ∀F:Fr,F.n=fn.ntmps->F.H0=H->(∀i,F.H0.length<=i->F.D0 i=none)->J F P (e0F fn) (e0z 0 args) H (r0f P fn F v H')):SC P f args H v H':=by
  unfold e0F at*
  cases hbb:fn.body with
  |none=>rw[hbb]at hb;cases hb
  |some c=>rw[hbb]at hin h;exact G0K hf hbb hcal hin (aj hn) h
theorem K.ret0 {fn:Func} {e:Exit} {L:LE} {H:a0e} (he:e= .normal\/e= .ret)(hn:F.n=fn.ntmps)(hH:F.H0=[])(hdom: ∀i,F.H0.length<=i->F.D0 i=none)(hin:i0w fn.ntmps fn.results.toList=yA)(hret:r0W P fn.results.toList L H=qA v)(hr:SV.refs 0 v=yA):
    PJ F (r0f P fn F v []) e L H:=
  PJ.end (f:=λj=>j) he (by rw[hn];exact hin) hret (by rw[hH];exact Back.drop (H':=[]) (ex:=H) (am _) hr rfl) hdom
theorem K.retV {fn:Func} {e:Exit} {L:LE} {H:a0e} (σ:List Nat)(he:e= .normal\/e= .ret)(hn:F.n=fn.ntmps)(hH:F.H0=H0)(hdom: ∀i,F.H0.length<=i->F.D0 i=none)(hin:i0w fn.ntmps fn.results.toList=yA)(hret:r0W P fn.results.toList L H=qA v1)
    (hl:σ.length=H'.length) (hg:σ.map (λi=>H[i]?)=H'.map (λen=>qA (Ent.rn (a0Y σ) en))) (hnd:σ.Nodup) (hr:H'.all (Ent.refs H'.length)=yA) (hk:σ.take H0.length=wC H0.length) (hle:oC H0.length H'.length=yA) (hv:v1=SV.rn (a0Y σ) v) (hvr:SV.refs H'.length v=yA):
    PJ F (r0f P fn F v H') e L H:=by
  refine PJ.end (f:=a0Y σ) he (by rw[hn];exact hin) hret ⟨Sel.of σ hl hg hnd hr,λj hj=> ?_,by rw[hH];exact aj hle,hv,hvr⟩ hdom;rw[hH]at hj;have:=congrArg (λl=>l[j]?) hk;simp only[ba,yB hj,bw hj]at this;unfold a0Y;rw[au,this];rfl
theorem Good.le {K:Nat->Nat} {H:a0e} {s':SV} (h:Good w K D H r w' s H')(hl:Le s s'):Good w K D H r w' s' H':=by
  obtain⟨K',D',g,hi,hr⟩:=h;exact⟨K',D',g,hi,hl _ _ _ _ hr⟩
theorem PJ.res {fn:Func} {e:Exit} {L:LE} {H:a0e} (hl:Le v1 v)(h:PJ F (r0f P fn F v1 H') e L H):PJ F (r0f P fn F v H') e L H:=λa w hs=>by
  obtain⟨h1,h2,r,h3,h4⟩:=h a w hs;exact⟨h1,h2,r,h3,h4.le hl⟩
theorem c0A {k:S->Option X} {x:X} {r:Option X} (h:a0x k (.inr x)=r):qA x=r:=h
theorem l0h {k:S->Option X} {s:S} {r:Option X} (h:a0x k (.inl s)=r):k s=r:=h
def big:Nat:=18446744073709551616
theorem D0Q {x:Int} (h:(Lit.int .i64 x).wf=yA): -9223372036854775808<=x/\x<9223372036854775808:=by
  simp[Lit.wf,IntKind.min,IntKind.max,qF,jG]at h;omega
theorem x0p {x:Int} (h:(Lit.int .u8 x).wf=yA):0<=x/\x<256:=by
  simp[Lit.wf,IntKind.min,IntKind.max,qF,jG]at h;omega
end
open Go Go.RowKit Go.ChangeShapes Go.WideShapes Go.ChangeAt
section
variable [Inhabited GT]
def d0y(P:Program) {H:Type} :Nat->TypeId->DataW H->List SV->Prop
  |0,_,_,_=>False
  |n+1,t,d,cs=>match P.underlying t with
    |some .bool=> ∃b,d= .lit (.bool b)/\cs=[.bool b]
    |some (.int k)=> ∃x,d= .lit (.int k x)/\cs=[.int k x]/\(Lit.int k x).wf=yA
    |some .string=> ∃l,d= .lit (.string l)/\cs=[.str l]
    |some (.slice e)=>(d= .nil/\cs=[.lst 0 (P.cellsOf e) []])\/ ∃(elems rest:List (DataW H)) (xs:List (List SV)),d= .slice elems rest/\cs=[.lst xs.length (P.cellsOf e) xs.flatten]/\xs.length=elems.length/\
        (∀x∈xs,x.length=P.cellsOf e)/\ ∀(i:Nat) y x,elems[i]?=qA y->xs[i]?=qA x->d0y P n e y x
    |some (.struct fs)=>cs.length=P.cellsOf t/\ ∃c0f:List (DataW H),d= .agg c0f/\c0f.length=fs.size/\ ∀(i:Nat) (f:Field) p,fs[i]?=qA f->c0f[i]?=qA p->d0y P n f.type p ((cs.drop f.offset).take (P.cellsOf f.type))
    |some (.array m e)=>cs.length=P.cellsOf t/\ ∃c0f:List (DataW H),d= .agg c0f/\c0f.length=m/\ ∀(i:Nat) p,c0f[i]?=qA p->d0y P n e p ((cs.drop (i*P.cellsOf e)).take (P.cellsOf e))
    |_=>False
def k0f(P:Program)(total:Nat):Nat->List Field->Bool
  |off,[]=>off==total
  |off,f::r=>(f.offset==off)&&k0f P total (off+P.cellsOf f.type) r
def k0M(P:Program):Nat->TypeId->Bool
  |0,_=>oA
  |n+1,t=>match P.underlying t with
    |some .bool=>yA
    |some (.int _)=>yA
    |some .string=>yA
    |some (.slice e)=>vA (0<P.cellsOf e)&&k0M P n e
    |some (.struct fs)=>k0f P (P.cellsOf t) 0 fs.toList&&fs.toList.all λf=>k0M P n f.type
    |some (.array m e)=>(P.cellsOf t==m*P.cellsOf e)&&k0M P n e
    |_=>oA
def KW(w:World):Nat->Nat:=λb=>match w.heap[b]? with
  |some (.cells c _ _)=>c.size
  |_=>0
theorem J0P(w:World)(b:Nat)(h:KW w b≠0):b<w.heap.size:=by
  unfold KW at h;split at h;rename_i c e f hb;exact(ai.1 hb).1;exact absurd rfl h
theorem G0L {b off:Nat} {v:Value} (h:w.cell? ⟨b,off,none⟩=qA v):off<KW w b:=by
  unfold World.cell? at h;unfold KW;simp only at h;split at h;rename_i c e f hb;rw[hb];simp at h;exact(ai.1 h).1;cases h
theorem v0N {Q:Nat->α->Prop} : ∀(n:Nat),(∀i,i<n-> ∃x,Q i x)-> ∃l:List α,l.length=n/\ ∀(i:Nat) x,l[i]?=qA x->Q i x:=by
  intro n
  induction n with
  |zero=>intro _;exact⟨[],rfl,λi x h=>by simp at h⟩
  |succ n ih=>
    intro h;obtain⟨l,hl,hq⟩:=ih λi hi=>h i (by omega)
    obtain⟨x,hx⟩:=h n (by omega);refine⟨l++ [x],by simp[hl],λi y hy=> ?_⟩;rw[aS]at hy;split at hy;exact hq i y hy;rename_i hi
    have:i-l.length=0:=by
      have:=(ae.1 hy).1;simp at this;omega
    have hin:i=n:=by omega
    rw[this]at hy;simp at hy;subst hy;subst hin;exact hx
theorem n0n : ∀(l:List (List α)),(∀x∈l,x.length=k)->l.flatten.length=l.length*k:=by
  intro l
  induction l with
  |nil=>intro _;simp
  |cons x l ih=>
    intro h;rw[bW,ac,h x (av ..),ih λy hy=>h y (ao _ hy),aC,bT];omega
theorem j0J (hk:0<k): ∀(l:List (List α)),(∀x∈l,x.length=k)-> ∀j,l.flatten[j]?=(l[j/k]?).bind λx=>x[j%k]?:=by
  intro l
  induction l with
  |nil=>intro _ j;simp
  |cons x l ih=>
    intro h j;have hx:=h x (av ..);rw[bW,aS];split;rename_i hj;rw[hx]at hj;rw[Nat.div_eq_of_lt hj,df hj];rfl;rename_i hj;rw[hx]at hj⊢;rw[ih (λy hy=>h y (ao _ hy))]
    have h1:j/k=(j-k)/k+1:=by
      have:=Nat.div_eq_sub_div hk (show k<=j by omega);exact this
    have h2:j%k=(j-k)%k:=Nat.mod_eq_sub_mod (by omega);rw[h1,h2];simp
theorem o0F {K:Nat->Nat} {cs:List Value} {Q:Nat->List SV->Prop} : ∀(fl:List Field) (off i0:Nat),k0f P cs.length off fl=yA->
    (∀(i:Nat) f,fl[i]?=qA f-> ∃ss,CR w K D ((cs.drop f.offset).take (P.cellsOf f.type)) ss/\ss.length=P.cellsOf f.type/\b0b ss=yA/\Q (i0+i) ss)->
    ∃ss,CR w K D (cs.drop off) ss/\b0b ss=yA/\ ∀(i:Nat) f,fl[i]?=qA f->off<=f.offset/\Q (i0+i) ((ss.drop (f.offset-off)).take (P.cellsOf f.type)):=by
  intro fl
  induction fl with
  |nil=>
    intro off i0 h _;simp only[k0f,beq_iff_eq]at h;subst h;exact⟨[],by simpa using CR.nil,rfl,λi f hf=>by simp at hf⟩
  |cons f r ih=>
    intro off i0 h hq;simp only[k0f,aa,beq_iff_eq]at h;obtain⟨h1,h2⟩:=h;subst h1;obtain⟨s1,c1,l1,p1,q1⟩:=hq 0 f rfl
    obtain⟨s2,c2,p2,q2⟩:=ih (f.offset+P.cellsOf f.type) (i0+1) h2 (λi g hg=>by
      obtain⟨ss,a,b,pp,c⟩:=hq (i+1) g (by simpa using hg)
      exact⟨ss,a,b,pp,by rw[show i0+1+i=i0+(i+1)from by omega];exact c⟩)
    refine⟨s1++s2, ?_,by simp only[b0b,bU,aa]at p1 p2⊢;exact⟨p1,p2⟩,λi g hg=> ?_⟩;have:=c1.append c2;rw[<-List.drop_drop,aV]at this;exact this
    cases i with
    |zero=>
      simp at hg;subst hg;refine⟨am _, ?_⟩;rw[Nat.sub_self,List.drop_zero,<-l1,List.take_left];exact q1
    |succ i=>
      obtain⟨p1,p2⟩:=q2 i g (by simpa using hg);refine⟨by omega, ?_⟩
      have hd:(s1++s2).drop (g.offset-f.offset)=s2.drop (g.offset-(f.offset+P.cellsOf f.type)):=by
        rw[List.drop_append,ci (by omega),aR];congr 1;omega
      rw[hd,show i0+(i+1)=i0+1+i from by omega];exact p2
theorem u0C {total:Nat} : ∀(fl:List Field) (off:Nat),k0f P total off fl=yA->off<=total/\ ∀f∈fl,f.offset+P.cellsOf f.type<=total:=by
  intro fl
  induction fl with
  |nil=>intro off h;simp only[k0f,beq_iff_eq]at h;exact⟨by omega,λf hf=>by cases hf⟩
  |cons f r ih=>
    intro off h;simp only[k0f,aa,beq_iff_eq]at h;obtain⟨h1,h2⟩:=h;obtain⟨i1,i2⟩:=ih _ h2;refine⟨by omega,λg hg=> ?_⟩;rcases aG.1 hg with rfl|hg;omega;exact i2 g hg
def f0C (e k i : Nat) : Field := { name := "", type := e, offset := i * k, embedded := oA, tag := "", pkgPath := "", byteOffset := 0 }
theorem v0Y : ∀(m i0:Nat),k0f P ((i0+m)*P.cellsOf e) (i0*P.cellsOf e) ((vG i0 m).map (f0C e (P.cellsOf e)))=true:=by
  intro m
  induction m with
  |zero=>intro i0;simp[k0f]
  |succ m ih=>
    intro i0;simp only[List.range'_succ,ah,k0f,f0C,beq_self_eq_true,bX];have:=ih (i0+1);rw[show i0*P.cellsOf e+P.cellsOf e=(i0+1)*P.cellsOf e from(bT _ _).symm,show i0+(m+1)=i0+1+m from by omega];exact this
section
variable {H : Type} {enc : TypeId × Value -> H} {P : Program} {w : World}
theorem r0O: ∀(n:Nat) (t:TypeId) (fuel:Nat) (cs:List Value) (x:DataW H×List MemPlace),k0M P n t=yA->DataW.trod enc P w 0 (λ_=>yA) yA fuel t cs=qA x->
    ∃ss,CR w (KW w) (λ_=>none) cs ss/\b0b ss=yA/\d0y P n t x.1 ss:=by
  intro n
  induction n with
  |zero=>intro t fuel cs x hp _;simp[k0M]at hp
  |succ n ih=>
    intro t fuel cs x hp h;unfold k0M at hp
    have single: ∀(v:Value) (s:SV),cs=[v]->Rep w (KW w) (λ_=>none) v s->s.plain=yA->CR w (KW w) (λ_=>none) cs [s]:=by
      intro v s hc hr h1;subst hc
      exact⟨rfl,λc hm=>by simp at hm;subst hm;exact t0B hr h1,λj v c hv hc=>by
        cases j with
        |zero=>simp at hv hc;subst hv;subst hc;exact hr
        |succ j=>simp at hv⟩
    split at hp;rename_i hu;obtain⟨b,hcs,hx⟩:=DataW.trod_bool hu h;exact⟨[.bool b],single _ _ hcs (.bool b) rfl,rfl,by unfold d0y;rw[hu,hx];exact⟨b,rfl,rfl⟩⟩;rename_i k hu;obtain⟨z,hcs,hx,hw⟩:=DataW.trod_int hu h;exact⟨[.int k z],single _ _ hcs (.int k z) rfl,rfl,by unfold d0y;rw[hu,hx];exact⟨z,rfl,rfl,hw⟩⟩;rename_i hu;obtain⟨s,hcs,hx,_⟩:=DataW.trod_string hu h;exact⟨[.str s.data.toList],single _ _ hcs (.str s) rfl,rfl,by unfold d0y;rw[hu,hx];exact⟨_,rfl,rfl⟩⟩;rename_i e hu;simp only[aa,decide_eq_true_eq]at hp;obtain⟨hk,hpe⟩:=hp;rcases DataW.trod_slice hu h with⟨hcs,hx⟩|⟨a,len,cap,elems,rest,m,_,hcs,hx,hb,hl,hm,hlen,hel,hsp,hns⟩;exact⟨[.lst 0 (P.cellsOf e) []],single _ _ hcs (.emp _ _ _) rfl,rfl,by unfold d0y;rw[hu,hx];exact .inl ⟨rfl,rfl⟩⟩
    -- each element by itself
    have each: ∀i,i<len-> ∃p:List Value×List SV,p.1.length=P.cellsOf e/\(CR w (KW w) (λ_=>none) p.1 p.2/\b0b p.2=yA)/\(∀r,r<P.cellsOf e->w.cell? ((a.add (i*P.cellsOf e)).add r)=p.1[r]?)/\
        ∀y,elems[i]?=qA y->d0y P n e y.1 p.2:=by
      intro i hi;have h1:=hel i hi;have hil:i<elems.length:=by omega
      rw[ag hil]at h1;simp only[Option.bind_eq_some_iff]at h1;obtain⟨vs,hvs,htr⟩:=h1;obtain⟨_,h3,h4⟩:=World.cells?_some hvs;obtain⟨ss,hcr,hpl,hsh⟩:=ih e m vs _ hpe htr;exact⟨(vs,ss),h3,⟨hcr,hpl⟩,h4,λy hy=>by rw[ag hil]at hy;cases hy;exact hsh⟩
    obtain⟨l,hll,hlq⟩:=v0N len each
    have hget: ∀i,i<len-> ∃p,l[i]?=qA p:=λi hi=>⟨l[i]'(by omega),ag (by omega)⟩
    have hxs1: ∀x∈l.map (·.1),x.length=P.cellsOf e:=by
      intro x hx;obtain⟨p,hp,rfl⟩:=aN.1 hx;obtain⟨i,hi⟩:=bo.1 hp;exact(hlq i p hi).1
    have hxs2: ∀x∈l.map (·.2),x.length=P.cellsOf e:=by
      intro x hx;obtain⟨p,hp,rfl⟩:=aN.1 hx;obtain⟨i,hi⟩:=bo.1 hp;rw[(hlq i p hi).2.1.1.len];exact(hlq i p hi).1
    have hshow:d0y P (n+1) t x.1 [.lst len (P.cellsOf e) (l.map (·.2)).flatten]:=by
      unfold d0y;rw[hu,hx];refine .inr ⟨elems.map (·.1),rest.map (·.1),l.map (·.2),rfl,by rw[cV,hll],by simp[hll,hlen],hxs2,λi y x hy hxx=> ?_⟩;rw[ar]at hy hxx
      cases hp:l[i]? with
      |none=>rw[hp]at hxx;cases hxx
      |some p=>
        rw[hp]at hxx;cases hxx
        cases he:elems[i]? with
        |none=>rw[he]at hy;cases hy
        |some y'=>rw[he]at hy;cases hy;exact(hlq i p hp).2.2.2 y' he
    refine⟨_,single _ _ hcs ?_ rfl,rfl,hshow⟩;by_cases h0:len=0;subst h0;have:l=[]:=aq hll;subst this;exact .emp _ _ _;obtain⟨b,off,spot⟩:=a
    have hcell: ∀i r,i<len->r<P.cellsOf e-> ∃p v,l[i]?=qA p/\p.1[r]?=qA v/\w.cell? (((⟨b,off,spot⟩:Addr).add (i*P.cellsOf e)).add r)=qA v:=by
      intro i r hi hr;obtain⟨p,hp⟩:=hget i hi;obtain⟨q1,q2,q3,q4⟩:=hlq i p hp;have hrl:r<p.1.length:=by omega
      exact⟨p,p.1[r],hp,ag hrl,by rw[q3 r hr,ag hrl]⟩
    have hspot:spot=none:=by
      obtain⟨p,v,_,_,hc⟩:=hcell 0 0 (by omega) hk;have h1:((⟨b,off,spot⟩:Addr).add (0*P.cellsOf e)).add 0=⟨b,off,spot⟩:=by simp[Addr.add]
      rw[h1]at hc;have:=World.cell?_spot hc;simpa using this
    subst hspot;have hflat1:(l.map (·.1)).flatten.length=len*P.cellsOf e:=by rw[n0n _ hxs1];simp[hll]
    have hflat2:(l.map (·.2)).flatten.length=len*P.cellsOf e:=by rw[n0n _ hxs2];simp[hll]
    have hmem: ∀j v,(l.map (·.1)).flatten[j]?=qA v->w.cell? ⟨b,off+j,none⟩=qA v:=by
      intro j v hj;have hjl:=(ae.1 hj).1;rw[hflat1]at hjl;have hi:j/P.cellsOf e<len:=cP (by rw[ck];exact hjl);have hr:j%P.cellsOf e<P.cellsOf e:=Nat.mod_lt _ hk;obtain⟨p,u,hp,hu',hc⟩:=hcell _ _ hi hr;rw[j0J hk _ hxs1,ar,hp]at hj;simp only[aT,ab]at hj;rw[hu']at hj;cases hj;rw[add_lit,add_lit]at hc
      have hjj:off+j/P.cellsOf e*P.cellsOf e+j%P.cellsOf e=off+j:=by
        have:=Nat.div_add_mod j (P.cellsOf e);rw[ck]at this;omega
      rw[hjj]at hc;exact hc
    refine .lst (P.cellsOf e) b off len cap (l.map (·.1)).flatten _ hk hflat1 (by rw[hflat2,hflat1]) hl hmem ?_ (λc hc=> ?_) (List.all_eq_true.2 λc hc=> ?_) (λj v c hv hc=> ?_);rw[hflat1];have hpos:0<len*P.cellsOf e:=Nat.mul_pos (by omega) hk;have hlast:len*P.cellsOf e-1<(l.map (·.1)).flatten.length:=by rw[hflat1];omega
    have:=G0L (hmem _ _ (ag hlast));omega;obtain⟨x,hx,hcx⟩:=List.mem_flatten.1 hc;obtain⟨p,hp,rfl⟩:=aN.1 hx;obtain⟨i,hi⟩:=bo.1 hp;exact(hlq i p hi).2.1.1.one c hcx;obtain⟨x,hx,hcx⟩:=List.mem_flatten.1 hc;obtain⟨p,hp,rfl⟩:=aN.1 hx;obtain⟨i,hi⟩:=bo.1 hp;exact List.all_eq_true.1 (hlq i p hi).2.1.2 c hcx;rw[j0J hk _ hxs1,ar]at hv;rw[j0J hk _ hxs2,ar]at hc
    cases hp:l[j/P.cellsOf e]? with
    |none=>rw[hp]at hv;cases hv
    |some p=>
      rw[hp]at hv hc;simp only[aT,ab]at hv hc;exact(hlq _ p hp).2.1.1.rep _ v c hv hc
    rename_i fs hu;simp only[aa,qD]at hp;obtain⟨hct,hpf⟩:=hp;obtain⟨xs,m,_,hx,hcl,hxl,hfs⟩:=DataW.trod_struct hu h;rw[<-hcl]at hct
    obtain⟨ss,hcr,hpl,hq⟩:=o0F (w:=w) (K:=KW w) (D:=λ_=>none) (Q:=λj ss=> ∀f p,fs.toList[j]?=qA f->xs[j]?=qA p->d0y P n f.type p.1 ss) fs.toList 0 0 hct (λi f hf=>by
      have hf':fs[i]?=qA f:=by simpa using hf
      have hil:i<xs.length:=by rw[hxl];exact(ai.1 hf').1
      have htr:=hfs i f hf';rw[ag hil]at htr;obtain⟨ss,h1,hp1,h2⟩:=ih f.type m _ _ (hpf f (aM hf)) htr;refine⟨ss,h1, ?_,hp1,λg p hg hpp=> ?_⟩;have:=(u0C _ _ hct).2 f (aM hf);rw[h1.len,aQ,bk];omega;rw[bh]at hg hpp;rw[hf]at hg;cases hg;rw[ag hil]at hpp;cases hpp
      exact h2)
    refine⟨ss,by simpa using hcr,hpl, ?_⟩;unfold d0y;rw[hu,hx];refine⟨by have:=hcr.len;simp at this;omega,xs.map (·.1),rfl,by simp[hxl],λi f p hf hpp=> ?_⟩;rw[ar]at hpp
    cases hxi:xs[i]? with
    |none=>rw[hxi]at hpp;cases hpp
    |some y=>
      rw[hxi]at hpp;cases hpp;have hfl:fs.toList[i]?=qA f:=by simpa using hf
      have:=(hq i f hfl).2 f y (by simpa using hfl) (by simpa using hxi);simpa using this
    rename_i m e hu;simp only[aa,beq_iff_eq]at hp;obtain⟨hct,hpe⟩:=hp;obtain⟨xs,mm,_,hx,hcl,hxl,hfs⟩:=DataW.trod_array hu h
    have hcf:k0f P cs.length 0 ((vG 0 m).map (f0C e (P.cellsOf e)))=true:=by
      have:=v0Y (P:=P) (e:=e) m 0;rw[hcl,hct];simpa using this
    have hff: ∀(i:Nat) f,((vG 0 m).map (f0C e (P.cellsOf e)))[i]?=qA f->i<m/\f=f0C e (P.cellsOf e) i:=by
      intro i f hf;rw[ar]at hf
      cases hr:(vG 0 m)[i]? with
      |none=>rw[hr]at hf;cases hf
      |some j=>
        rw[hr]at hf
        have hl:=(ae.1 hr)
        obtain⟨p1,p2⟩:=hl;simp at p1 p2;subst p2;cases hf;exact⟨p1,rfl⟩
    obtain⟨ss,hcr,hpl,hq⟩:=o0F (w:=w) (K:=KW w) (D:=λ_=>none) (Q:=λj ss=> ∀p,xs[j]?=qA p->d0y P n e p.1 ss) _ 0 0 hcf (λi f hf=>by
      obtain⟨him,rfl⟩:=hff i f hf;have hil:i<xs.length:=by omega
      have htr:=hfs i him;rw[ag hil]at htr;obtain⟨ss,h1,hp1,h2⟩:=ih e mm _ _ hpe htr;refine⟨ss,h1, ?_,hp1,λp hpp=> ?_⟩;have h3:=(u0C _ _ hcf).2 _ (aM hf);rw[h1.len,aQ,bk];simp only[f0C]at h3⊢;omega;rw[bh]at hpp;rw[ag hil]at hpp;cases hpp
      exact h2)
    refine⟨ss,by simpa using hcr,hpl, ?_⟩;unfold d0y;rw[hu,hx];refine⟨by have:=hcr.len;simp at this;omega,xs.map (·.1),rfl,by simp[hxl],λi p hpp=> ?_⟩;rw[ar]at hpp
    cases hxi:xs[i]? with
    |none=>rw[hxi]at hpp;cases hpp
    |some y=>
      rw[hxi]at hpp;cases hpp;have him:i<m:=by rw[<-hxl];exact(ae.1 hxi).1
      have hfi:((vG 0 m).map (f0C e (P.cellsOf e)))[i]?=qA (f0C e (P.cellsOf e) i):=by
        rw[ar,List.getElem?_range' him];simp
      have:=(hq i _ hfi).2 y (by simpa using hxi);simpa [f0C]using this
    cases hp
end
end
section
variable [Inhabited GT]
def j0r(P:Program) {H:Type} (n:Nat)(t:TypeId)(d:DataW H)(s:SV):Prop:=
  match P.underlying t with
  |some (.struct _)=> ∃cs,s= .agg cs/\d0y P n t d cs
  |some (.array _ _)=> ∃cs,s= .agg cs/\d0y P n t d cs
  |_=>d0y P n t d [s]
section
variable {H : Type} {enc : TypeId × Value -> H} {P : Program} {w : World}
theorem z0k {r:Reach} {b0:Nat} {v:Value} {d:DataW H} {ps:List MemPlace} (hp:k0M P n t=yA)(hval:Value.okWide P w r b0 t v)(hd:DataW.Trod enc P w 0 (λ_=>yA) yA t v d ps):
    ∃s,Rep w (KW w) (λ_=>none) v s/\j0r P n t d s:=by
  obtain⟨fuel,hf⟩:=hd;obtain⟨ss,hcr,hpl,hsh⟩:=r0O n t fuel _ _ hp hf
  have m0K:v.cells= #[v]->(∀ss,d0y P n t d ss-> ∃s,ss=[s])->(∀s,d0y P n t d [s]->j0r P n t d s)-> ∃s,Rep w (KW w) (λ_=>none) v s/\j0r P n t d s:=by
    intro hc h1 h2;obtain⟨s,rfl⟩:=h1 ss hsh;exact⟨s,hcr.rep 0 v s (by rw[hc];rfl) rfl,h2 s hsh⟩
  cases n with
  |zero=>simp[k0M]at hp
  |succ n=>
    have hp':=hp;unfold k0M at hp;split at hp;rename_i hu;obtain⟨b,rfl⟩:=okWide_bool hu hval;refine m0K rfl (λss h=> ?_) (λs h=>by unfold j0r;rw[hu];exact h);unfold d0y at h;rw[hu]at h;obtain⟨b,_,rfl⟩:=h;exact⟨_,rfl⟩;rename_i k hu;obtain⟨b,rfl⟩:=okWide_int hu hval;refine m0K rfl (λss h=> ?_) (λs h=>by unfold j0r;rw[hu];exact h);unfold d0y at h;rw[hu]at h;obtain⟨b,_,rfl,_⟩:=h;exact⟨_,rfl⟩;rename_i hu;obtain⟨b,rfl⟩:=okWide_string hu hval;refine m0K rfl (λss h=> ?_) (λs h=>by unfold j0r;rw[hu];exact h);unfold d0y at h;rw[hu]at h;obtain⟨b,_,rfl⟩:=h;exact⟨_,rfl⟩;rename_i e hu;obtain⟨a,len,cap,rfl⟩:=okWide_slice hu hval;refine m0K rfl (λss h=> ?_) (λs h=>by unfold j0r;rw[hu];exact h);unfold d0y at h;rw[hu]at h;rcases h with⟨_,rfl⟩|⟨_,_,_,_,rfl,_⟩;exact⟨_,rfl⟩;exact⟨_,rfl⟩;rename_i fs hu;unfold Value.okWide at hval;rw[hu]at hval;obtain⟨cs,rfl,_,_⟩:=hval;refine⟨.agg ss, ?_,by unfold j0r;rw[hu];exact⟨ss,rfl,hsh⟩⟩;have:=Rep.agg _ _ hcr.len hcr.one hcr.rep;simpa [Value.cells]using this;rename_i m e hu;unfold Value.okWide at hval;rw[hu]at hval;obtain⟨cs,rfl,_,_⟩:=hval;refine⟨.agg ss, ?_,by unfold j0r;rw[hu];exact⟨ss,rfl,hsh⟩⟩;have:=Rep.agg _ _ hcr.len hcr.one hcr.rep;simpa [Value.cells]using this;cases hp
theorem y0o {r:Reach} {b0:Nat} : ∀(ts:List TypeId) (vs:List Value) (ds:List (DataW H)) (ps:List MemPlace),(∀t∈ts,k0M P n t=yA)->
    (∀(j:Nat) t v,ts[j]?=qA t->vs[j]?=qA v->Value.okWide P w r b0 t v)->DataW.TrodAll enc P w 0 (λ_=>yA) yA ts vs ds ps->
    ∃ss:List SV,ss.length=vs.length/\ds.length=ts.length/\ss.length=ts.length/\(∀(j:Nat) x c,vs[j]?=qA x->ss[j]?=qA c->Rep w (KW w) (λ_=>none) x c)/\
      (∀(j:Nat) t d s,ts[j]?=qA t->ds[j]?=qA d->ss[j]?=qA s->j0r P n t d s):=by
  intro ts
  induction ts with
  |nil=>
    intro vs ds ps _ _ h;cases vs<;>cases ds<;>first|exact⟨[],rfl,rfl,rfl,λj x c e=>by simp at e,λj t d s e=>by simp at e⟩|exact h.elim
  |cons t ts ih=>
    intro vs ds ps hp hv h
    cases vs with
    |nil=>cases ds<;>exact h.elim
    |cons v vs=>
      cases ds with
      |nil=>exact h.elim
      |cons d ds=>
        obtain⟨p,q,h1,h2,_⟩:=h;obtain⟨s,hr,hs⟩:=z0k (hp t (av ..)) (hv 0 t v rfl rfl) h1;obtain⟨ss,i1,i2,i3,i4,i5⟩:=ih vs ds q (λt ht=>hp t (ao _ ht)) (λj t v ht hvv=>hv (j+1) t v (by simpa using ht) (by simpa using hvv)) h2;refine⟨s::ss,by simp[i1],by simp[i2],by simp[i3],λj x c hx hc=> ?_,λj t' d' s' ht hd hs'=> ?_⟩
        cases j with
        |zero=>simp at hx hc;subst hx;subst hc;exact hr
        |succ j=>exact i4 j x c (by simpa using hx) (by simpa using hc)
        cases j with
        |zero=>simp at ht hd hs';subst ht;subst hd;subst hs';exact hs
        |succ j=>exact i5 j t' d' s' (by simpa using ht) (by simpa using hd) (by simpa using hs')
theorem D0j:HInv w (KW w) (λ_=>none) []:=
  ⟨λ_ _=>rfl,λi en h=>by simp at h,λi j en en' b c n c' n' h=>by simp at h,J0P w⟩
theorem not_mem_nil {D:DM} {b:Nat} : ¬Mem D [] b:=fun⟨i,en,c,n,h,_⟩=>by simp at h
theorem A0u {vals:List Value} {ss:List SV} (hl:ss.length=vals.length)(hr: ∀(j:Nat) x c,vals[j]?=qA x->ss[j]?=qA c->Rep w (KW w) (λ_=>none) x c)(h:SC P f ss [] (.bool yA) H')(hG:k0j w (KW w) λ_=>none):
    Calls P f vals.toArray w λe w'=>e= .returned (.bool yA)/\Below w.heap.size w w':=by
  refine(h.2 w (KW w) (λ_=>none) vals hl.symm hr D0j hG).mono ?_;rintro e w' ⟨r,rfl,K',D',g,_,hrep⟩;cases hrep;exact⟨rfl,g.os,g.tape,g.output,g.size,λk hk=>g.block k hk not_mem_nil⟩
theorem r0H {W W':World} (hl:laidOutB P=yA)(hb:Below W.heap.size W W'): ∀(ts:List TypeId) (vs:List Value) (ds:List (DataW H)) (ps:List MemPlace),(∀t∈ts,P.readableRec t=yA/\t<P.types.size)->
    DataW.TrodAll enc P W 0 (λ_=>yA) yA ts vs ds ps->(∀x∈ps,x.block<W.heap.size)->DataW.TrodAll enc P W' 0 (λb=>vA (b<W.heap.size)) yA ts vs ds ps:=by
  intro ts
  induction ts with
  |nil=>intro vs ds ps _ h _;cases vs<;>cases ds<;>first|exact h|exact h.elim
  |cons t ts ih=>
    intro vs ds ps ht h hps
    cases vs with
    |nil=>cases ds<;>exact h.elim
    |cons v vs=>
      cases ds with
      |nil=>exact h.elim
      |cons d ds=>
        obtain⟨p,q,h1,h2,rfl⟩:=h;obtain⟨r1,r2⟩:=ht t (av ..);exact⟨p,q,Below.trod hl r1 r2 h1 hb (λx hx=>hps x (aw.2 (.inl hx))),ih vs ds q (λt hm=>ht t (ao _ hm)) h2 (λx hx=>hps x (aw.2 (.inr hx))),rfl⟩
theorem D0d {fn:Func} {s:ChangeSpec} {tb:TypeId} (hl:laidOutB P=yA)(htb:P.underlying tb=qA .bool)(hrt:fn.resultTypes= #[tb])(hv:s.vars=[])
    (hplain:fn.params.toList.all (λt=>k0M P n t&&P.readableRec t&&vA (t<P.types.size))=yA)
    {W:World} {args:Array Value} {ds gs:List (DataW H)} {before:List MemPlace}
    (hspec:ds.length=fn.params.toList.length->(s.fn H ds).results=[.lit (.bool yA)]/\(s.fn H ds).args=ds/\(s.fn H ds).vars=[])
    (hval: ∀(j:Nat) t v,fn.params[j]?=qA t->args[j]?=qA v->Value.okWide P W .any base t v)
    (hW:DataW.Whole enc P fn.params.toList s.vars oA W args.toList ds gs before)
    (main: ∀ss:List SV,gs=[]->ds.length=fn.params.toList.length->ss.length=fn.params.toList.length->(∀(j:Nat) t d x,fn.params.toList[j]?=qA t->ds[j]?=qA d->ss[j]?=qA x->j0r P n t d x)-> ∃H',SC P f ss [] (.bool yA) H') (hG:k0j W (KW W) λ_=>none):
    Calls P f args W λe W'=> ∃v,e= .returned v/\s.post enc P fn oA yA oA oA W args v W':=by
  have hW':=hW;obtain⟨p,q,hA,hV,rfl,_,_⟩:=hW;rw[hv]at hV;obtain⟨rfl,rfl⟩:=trodVars_none hV;simp only[qD,aa,decide_eq_true_eq]at hplain;obtain⟨ss,l1,l2,l3,hr,hs⟩:=y0o (P:=P) (w:=W) (n:=n) fn.params.toList args.toList ds p (λt ht=>(hplain t ht).1.1) (λj t v ht hvv=>hval j t v (by simpa using ht) (by simpa using hvv)) hA;obtain⟨H',hm⟩:=main ss rfl l2 l3 hs;have hc:=A0u (P:=P) (f:=f) l1 hr hm hG;have ha:args.toList.toArray=args:=by simp
  rw[ha]at hc;refine hc.mono λe W' ⟨he,hb⟩=> ?_
  obtain⟨e1,e2,e3⟩:=hspec l2;refine⟨_,he,ds,[],_,[],p++ [],[],hW', ?_, ?_, ?_,hb.frame _,λh=>by cases h⟩;rw[cn,e1,hrt];exact trodAll_mk1 (shut_bool htb _);rw[cn,e2,cn];exact r0H hl hb _ _ _ _ (λt ht=>⟨(hplain t ht).1.2,(hplain t ht).2⟩) hA (λx hx=>by have:=hW'.lt x (by simpa using hx);simpa using this);rw[cn,e3,hv];rfl
end
end
section
variable [Inhabited GT]
/-! Loops. -/
section
variable {S O : Type} {step : S -> Option (S ⊕ O)}
theorem a0J {s s':S} (h:step s=qA (.inl s')):a0B step (n+1) s=a0B step n s':=by
  simp only[a0B,h]
theorem d0C {s:S} {o:O} (h:step s=qA (.inr o)):a0B step (n+1) s=qA o:=by
  simp only[a0B,h]
theorem A0c(I:S->Prop)(g:S->Nat)(post:O->Prop)(hs: ∀s,I s->(∃s',step s=qA (.inl s')/\I s'/\g s'<g s)\/(∃o,step s=qA (.inr o)/\post o)):
    ∀(n:Nat) (s:S),I s->g s<n-> ∃o,a0B step n s=qA o/\post o:=by
  intro n
  induction n with
  |zero=>intro s _ h;omega
  |succ n ih=>
    intro s hi hg;rcases hs s hi with⟨s',h1,h2,h3⟩|⟨o,h1,h2⟩;rw[a0J h1];exact ih s' h2 (by omega);exact⟨o,d0C h1,h2⟩
end
theorem G0C (h:n<18446744073709551616):n<big:=h
theorem w64 {n:Int} (h1: -9223372036854775808<=n)(h2:n<=9223372036854775807):IntKind.i64.wrap n=n:=by
  unfold jA;simp only[qF,jG,bX,ca,aI,if_false,decide_eq_true_eq]
  first|omega|(split<;>rename_i hc<;>simp at hc<;>omega)
theorem w8 {n:Int} (h1:0<=n)(h2:n<=255):IntKind.u8.wrap n=n:=by
  unfold jA;simp only[qF,jG,bX,ca,aI,if_false,decide_eq_true_eq]
  first|omega|(split<;>rename_i hc<;>simp at hc<;>omega)
theorem m0w (h:i<n):inR (i:Int) n=true:=e0T.2 ⟨by omega,by omega⟩
theorem a0C {i:Int} (h1:0<=i)(h:i<n):inR i n=true:=e0T.2 ⟨h1,h⟩
theorem s0j [Inhabited T] {xs:List T} (h:i<xs.length):nth xs (i:Int)=xs[i]:=by
  unfold nth;rw[aJ,au,ag h];rfl
theorem C0y (h:n<=140737488400000):i0V n=true:=by simp[i0V,cO,h]
theorem a0z (h:n<=4294967296):room n=true:=by simp[room,cO,h]
theorem i0k (h1:0<=l)(h2:l<=h)(h3:h<=n):inS l h n=true:=l0i.2 ⟨h1,h2,h3⟩
theorem dT {p:Prop} [Decidable p](h:p):vA p=true:=decide_eq_true h
theorem dF {p:Prop} [Decidable p](h: ¬p):vA p=false:=decide_eq_false h
/-! Parameters. -/
section
open Go.ChangeShapes Go.WideShapes Go.ChangeAt
variable {P : Program} {H : Type}
def o0Z(P:Program) {H:Type} (t:TypeId)(d:DataW H):Prop:= ∀n∈d.weights P t,n<=reachBytes
theorem u0Z {ts:List TypeId} {ds:List (DataW H)} (h:(DataW.weightsEach P ts ds).all (· <=reachBytes)=yA) {j:Nat} {d:DataW H} (ht:ts[j]?=qA t)(hd:ds[j]?=qA d):o0Z P t d:=
  λn hn=>by
    have:=List.all_eq_true.1 h _ (DataW.weights_mem_each ht hd n hn);simpa using this
theorem i0t {e:TypeId} {n:Nat} : ∀(l:List (DataW H)) (y:DataW H),y∈l->n∈y.weights P e->n∈DataW.weightsAll P e l
  | [],y,h,_=>by cases h
  |x::l,y,h,hn=>by
    simp only[DataW.weightsAll,aw];rcases aG.1 h with rfl|h;exact .inl hn;exact .inr (i0t l y h hn)
theorem C0n {elems rest:List (DataW H)} (hu:P.underlying t=qA (.slice e))(h:o0Z P t (.slice elems rest)) {y:DataW H} (hy:y∈elems):o0Z P e y:=λn hn=>by
  refine h n ?_;simp only[DataW.weights,hu,aG,aw];exact .inr (.inl (i0t elems y hy hn))
theorem z0h {elems rest:List (DataW H)} (hu:P.underlying t=qA (.slice e))(hb:0<P.bytesOf e)(h:o0Z P t (.slice elems rest)):elems.length<=140737488355328:=by
  have h1:=h ((elems.length+rest.length)*P.bytesOf e) (by simp[DataW.weights,hu]);have h2:=reachBytes_lt;have h3:elems.length<=(elems.length+rest.length)*P.bytesOf e:=az (Nat.le_add_right _ _) (Nat.le_mul_of_pos_right _ hb);omega
theorem x0B {c0f:List (DataW H)} (hu:P.underlying t=qA (.struct fs))(h:o0Z P t (.agg c0f)) {f:Field} {p:DataW H} (hf:fs[i]?=qA f)(hp:c0f[i]?=qA p):o0Z P f.type p:=λn hn=>by
  refine h n ?_;simp only[DataW.weights,hu];exact DataW.weights_mem_each (j:=i) (by simp[hf]) hp n hn
def B0E(P:Program)(n:Nat)(t:TypeId) (enc:T->List SV)(Wf:T->Prop):Prop:= ∀ {H:Type} (d:DataW H) (cs:List SV),d0y P n t d cs->o0Z P t d-> ∃x:T,cs=enc x/\Wf x
def WfL (Wf:T->Prop)(zs:List T):Prop:=zs.length<=140737488355328/\ ∀z∈zs,Wf z
def WfI(k:IntKind)(z:Int):Prop:=(Lit.int k z).wf=yA
theorem h0k {k:IntKind} (hu:P.underlying t=qA (.int k)):B0E P (n+1) t (a0l k) (WfI k):=λd cs h _=>by
  unfold d0y at h;rw[hu]at h;obtain⟨z,_,h2,hw⟩:=h;exact⟨z,h2,hw⟩
theorem x0u {enc:T->List SV} {Wf:T->Prop} (hu:P.underlying t=qA (.slice e)) (hc:P.cellsOf e=k)(hb:jE 0 (P.bytesOf e)=yA)(hel:B0E P n e enc Wf):
    B0E P (n+1) t (k0e enc k) (WfL Wf):=λ{H} d cs h hs=>by
  unfold d0y at h;rw[hu]at h;simp only at h;rcases h with⟨rfl,h2⟩|⟨elems,rest,xs,rfl,h2,hl,hx,hall⟩;exact⟨[],by rw[h2,hc];rfl,by simp,λz hz=>(by cases hz)⟩;rw[hc]at h2;have hlen:=z0h hu (by simpa [Nat.blt_eq]using hb) hs
  have key: ∀(xs:List (List SV)) (elems:List (DataW H)),(∀y∈elems,o0Z P e y)->xs.length=elems.length->(∀(i:Nat) y x,elems[i]?=qA y->xs[i]?=qA x->d0y P n e y x)-> ∃zs:List T,xs.flatten=zs.flatMap enc/\(∀z∈zs,Wf z)/\elems.length=zs.length:=by
    intro xs
    induction xs with
    |nil=>intro elems _ hl _;exact⟨[],rfl,λz hz=>(by cases hz),by simpa using hl.symm⟩
    |cons x xs ih=>
      intro elems hsz hl h
      cases elems with
      |nil=>simp at hl
      |cons y elems=>
        obtain⟨zs,e1,e2,e3⟩:=ih elems (λy hy=>hsz y (ao _ hy)) (by simpa using hl) (λi y x hy hx=>h (i+1) y x (by simpa using hy) (by simpa using hx));obtain⟨z,rfl,hw⟩:=hel y x (h 0 y x rfl rfl) (hsz y (av ..));refine⟨z::zs,by simp[e1],λz' hz'=> ?_,by simp[e3]⟩;rcases aG.1 hz' with rfl|hm;exact hw;exact e2 _ hm
  obtain⟨zs,e1,e2,e3⟩:=key xs elems (λy hy=>C0n hu hs hy) hl hall;exact⟨zs,by rw[h2,e1];unfold k0e;rw[hl,e3],by omega,e2⟩
theorem r0P {d:DataW H} (hu:P.underlying t=qA (.struct fs))(h:j0r P n t d s): ∃cs,s= .agg cs/\d0y P n t d cs:=by
  unfold j0r at h;rw[hu]at h;exact h
theorem j0x {d:DataW H} (hu:P.underlying t=qA (.struct fs))(h:d0y P (n+1) t d cs)(hs:o0Z P t d)(i:Nat)(ty:TypeId)(cs':List SV)
    (hf:(fs[i]?).map (λf=>(f.type,(cs.drop f.offset).take (P.cellsOf f.type)))=qA (ty,cs')): ∃p:DataW H,d0y P n ty p cs'/\o0Z P ty p:=by
  unfold d0y at h;rw[hu]at h;obtain⟨_,c0f,rfl,hl,hall⟩:=h
  cases hfi:fs[i]? with
  |none=>rw[hfi]at hf;cases hf
  |some f=>
    rw[hfi]at hf;simp only[aT,ak,aP]at hf;obtain⟨rfl,rfl⟩:=hf;have hi:=(ai.1 hfi).1;have hi':i<c0f.length:=by omega
    exact⟨c0f[i],hall i f _ hfi (ag hi'),x0B hu hs hfi (ag hi')⟩
theorem z0j {d:DataW H} (hu:P.underlying t=qA (.struct fs))(h:d0y P (n+1) t d cs):cs.length=P.cellsOf t:=by
  unfold d0y at h;rw[hu]at h;exact h.1
theorem l0C {m:Nat} {d:DataW H} (hu:P.underlying t=qA (.array m e))(h:d0y P (n+1) t d cs)(hs:o0Z P t d)(i:Nat)(cs':List SV)(hi:jE i m=yA)
    (hf:(cs.drop (i*P.cellsOf e)).take (P.cellsOf e)=cs'): ∃p:DataW H,d0y P n e p cs'/\o0Z P e p:=by
  unfold d0y at h;rw[hu]at h;obtain⟨_,c0f,rfl,hl,hall⟩:=h;have hi':i<c0f.length:=by rw[hl];simpa [Nat.blt_eq]using hi
  refine⟨c0f[i],by rw[<-hf];exact hall i _ (ag hi'),λn hn=>hs n ?_⟩;simp only[DataW.weights,hu];exact i0t c0f _ (cf hi') hn
theorem x0C {m:Nat} {d:DataW H} (hu:P.underlying t=qA (.array m e))(h:d0y P (n+1) t d cs):cs.length=P.cellsOf t:=by
  unfold d0y at h;rw[hu]at h;exact h.1
end
theorem l1 {l:List α} (h:l.length=1): ∃a,l=[a]:=by
  match l,h with
  | [a],_=>exact⟨a,rfl⟩
theorem l2 {l:List α} (h:l.length=2): ∃a b,l=[a,b]:=by
  match l,h with
  | [a,b],_=>exact⟨a,b,rfl⟩
theorem l3 {l:List α} (h:l.length=3): ∃a b c,l=[a,b,c]:=by
  match l,h with
  | [a,b,c],_=>exact⟨a,b,c,rfl⟩
theorem l4 {l:List α} (h:l.length=4): ∃a b c d,l=[a,b,c,d]:=by
  match l,h with
  | [a,b,c,d],_=>exact⟨a,b,c,d,rfl⟩
end
section
variable [Inhabited GT]
def agree [DecidableEq α](x y:Option α):Option α:=if x=y then y else none
theorem r0D [DecidableEq α] {e:Bool} {x y:Option α} {r:α} (he:e=yA)(h:(bif e then agree x y else y)=qA r):x=qA r:=by
  subst he;simp only[qC,agree]at h;split at h;rename_i hxy;rw[hxy];exact h;cases h
theorem r0E [DecidableEq α] {e:Bool} {x y:Option α} {r:α} (h:(bif e then agree x y else y)=qA r):y=qA r:=by
  cases e with
  |false=>exact h
  |true=>
    simp only[qC,agree]at h;split at h;exact h;cases h
theorem y0s [DecidableEq α] {e:Bool} {x y:Option α} (h:e=yA->x=y):(bif e then agree x y else y)=y:=by
  cases e with
  |false=>rfl
  |true=>simp only[qC,agree];rw[yB (h rfl)]
/-! A map is asked for a key that isn't known. -/
def m0o(k key:SV)(b:Bool):Bool:=match e0u k key with
  |some x=>x==b
  |none=>oA
def q0l(k:SV):List (SV×SV)->Nat->Bool
  | [],_=>oA
  |e::_,0=>m0o k e.1 yA
  |e::r,j+1=>m0o k e.1 oA&&q0l k r j
def l0Y(k:SV):List (SV×SV)->Bool
  | []=>yA
  |e::r=>m0o k e.1 oA&&l0Y k r
theorem n0H {k key:SV} (h:m0o k key b=yA):e0u k key=qA b:=by
  unfold m0o at h;split at h;rename_i x hx;simp at h;subst h;exact hx;cases h
theorem w0R {k:SV} : ∀(es:List (SV×SV)) (j:Nat) {e:SV×SV},es[j]?=qA e->q0l k es j=yA->e0A es k=qA (qA e.2)
  | [],j,e,h,_=>by simp at h
  |x::es,0,e,h,hc=>by
    simp only[cD,ak]at h;subst h;simp only[q0l]at hc;simp only[e0A,n0H hc]
  |x::es,j+1,e,h,hc=>by
    simp only[q0l,aa]at hc;simp only[e0A,n0H hc.1];exact w0R es j (by simpa using h) hc.2
theorem t0L {k:SV} : ∀(es:List (SV×SV)),l0Y k es=yA->e0A es k=qA none
  | [],_=>rfl
  |x::es,hc=>by
    simp only[l0Y,aa]at hc;simp only[e0A,n0H hc.1];exact t0L es hc.2
def F0v(P:Program)(o:Oper)(ρ:Env)(H:a0e)(j:Option Nat):Option (Eff×Bool):=
  match o.op with
  | .lookup t m k ok=>match P.underlying t,a0L ρ m,a0L ρ k with
    |some (.map kt et),qA (.mp i),qA sk=>match H[i]? with
      |some (.map es)=>if q0e P kt sk=yA then(match j with
        |some j=>match es[j]? with
          |some e=>qA (⟨j0Z ok e.2 yA,[i],[]⟩,q0l sk es j)
          |none=>none
        |none=>match x0m P et with
          |some z=>qA (⟨j0Z ok z oA,[i],[]⟩,l0Y sk es)
          |none=>none)else none
      |_=>none
    |_,_,_=>none
  |_=>none
theorem v0z {k:SV} (h:q0e P kt k=yA):n0Z P kt k=yA/\k0y P kt es k=e0A es k:=by
  cases k<;>first|exact⟨h,rfl⟩|(exfalso;unfold q0e at h;split at h<;>simp_all)
theorem v0x {H:a0e} {idx:Nat} {j:Option Nat} (h:F0v P o ρ H j=qA (ef,b))(hb:b=yA):a0E P o ρ H idx=qA ef:=by
  unfold F0v at h;split at h;rename_i t m k ok ho;split at h;rename_i kt et i sk hu hm hk;split at h;rename_i es hH;split at h;rename_i hkey
  have fin:i0F P t (a0L ρ m) (a0L ρ k) ok H=qA ef->a0E P o ρ H idx=qA ef:=by
    intro hl;unfold a0E a0i a0p;simp only[ho];exact hl
  refine fin ?_;unfold i0F;rw[hu,hm,hk];simp only[hH];obtain⟨hk1,hk2⟩:=v0z (es:=es) hkey;rw[yB hk1,hk2];split at h;rename_i j;split at h;rename_i e he;cases h;rw[w0R es j he hb];cases h;split at h;rename_i z hz;cases h;rw[t0L es hb,hz];cases h;cases h;cases h;cases h;cases h
section
variable {F : Fr} {P : Program} {L : LE} {H : a0e} {Q : e0G} {m : Option Nat} {ops : Array Oper} {p : Nat} {tr : List (List Nat × List Nat)}
def E0e(P:Program)(m:Option Nat)(ops:Array Oper)(p:Nat)(tr:List (List Nat×List Nat))(L:LE)(H:a0e)(j:Option Nat):Option (Option Nat×Eff×Bool×List (List Nat×List Nat)):=
  match ops.toList[p]? with
  |none=>none
  |some o=>match b0n ops (a0w L) o with
    |some yA=>bif b0M o then none else match F0v P o (a0w L) H j with
      |some (ef,c)=>bif okM m ops p o ef tr H then qA (o.dst,ef,c,trM m ops p o ef tr)else none
      |none=>none
    |_=>none
theorem RJ.look(j:Option Nat) {c:Bool} (h:E0e P m ops p tr L H j=qA (d,ef,c,tr2))(hc:c=yA)(k:RJ F P m ops (p+1) tr2 (e0n L d ef.v) (b0H H ef.wr) Q):RJ F P m ops p tr L H Q:=by
  unfold E0e at h;split at h;cases h;rename_i o ho;split at h;rename_i hg
  cases hcc:b0M o with
  |true=>rw[hcc]at h;cases h
  |false=>
    rw[hcc]at h;simp only[vC]at h;split at h;rename_i ef2 c2 he
    cases hok:okM m ops p o ef2 tr H with
    |false=>rw[hok]at h;cases h
    |true=>
      rw[hok]at h;simp only[qC,ak,aP]at h;obtain⟨rfl,rfl,rfl,rfl⟩:=h;exact RJ.step ho hg hcc (v0x he hc) hok k
    cases h
  cases h
end
section
variable {F : Fr} {P : Program} {L : LE} {H : a0e} {Q : e0G} {ops : Array Oper} {p : Nat} {tr : List (List Nat × List Nat)}
def i0j(P:Program)(t:TypeId):Bool:=match P.underlying t with
  |some (.slice _)=>yA
  |_=>oA
def w0N:Operand->Bool
  | .const (.slice none 0 0)=>yA
  |_=>oA
def H0H(P:Program)(ops:Array Oper)(p:Nat)(L:LE):Option (Nat×Nat×Bool):=
  match ops.toList[p]? with
  |none=>none
  |some o=>match b0n ops (a0w L) o,o.dst,o.op with
    |some yA,qA d, .binOp op t x y _=>match a0L (a0w L) x with
      |some (.lst n _ _)=>bif i0j P t&&w0N y then(match op with
        | .eql=>qA (d,n,yA)
        | .neq=>qA (d,n,oA)
        |_=>none)else none
      |_=>none
    |_,_,_=>none
theorem t0n {ad:Option Addr} {c:Nat} (ht:i0j P t=yA):(do eqGuard .eql t x y (.slice ad n c) (.slice none 0 0);binOp .eql t (.slice ad n c) (.slice none 0 0):Sem Value).run P w= .ok (.bool ad.isNone) w:=by
  unfold i0j at ht;split at ht;rename_i e hu;rw[m0p _ _ (by rfl)];simp only[binOp,zD,run_equal_slice_nil w t e ad n c hu,yC,qE];cases ht
theorem r0c {ad:Option Addr} {c:Nat} (ht:i0j P t=yA):(do eqGuard .neq t x y (.slice ad n c) (.slice none 0 0);binOp .neq t (.slice ad n c) (.slice none 0 0):Sem Value).run P w= .ok (.bool !ad.isNone) w:=by
  unfold i0j at ht;split at ht;rename_i e hu;rw[m0p _ _ (by rfl)];simp only[binOp,zD,run_equal_slice_nil w t e ad n c hu,yC,qE];cases ht
theorem RJ.isNil {d:Nat} {eq:Bool} (h:H0H P ops p L=qA (d,n,eq))(k: ∀b:Bool,(b=yA->n=0)->RJ F P none ops (p+1) tr ((d, .bool (bif eq then b else !b))::L) H Q):RJ F P none ops p tr L H Q:=by
  unfold H0H at h;split at h
  cases h
  · rename_i o ho
    split at h
    · rename_i d2 op t x y u hg hd ho2
      split at h
      · rename_i n2 k2 cs hx
        cases hty:(i0j P t&&w0N y)with
        |false=>rw[hty]at h;cases h
        |true=>
          rw[hty]at h;simp only[aa]at hty;obtain⟨ht,hy⟩:=hty;intro hin a w hs;have hbo:Oper.inB F.n ops o=true:=List.all_eq_true.1 hin o (n0b ho);obtain⟨hdf,K,D,hi⟩:=hs;rw[d0F ho];refine wpList_step λKK hKK=> ?_
          rw[b0U hi.slots (Oper.inB_guard hbo) hg,yB rfl]
          have hxb:Operand.inB F.n x=true:=by
            have h1:=Oper.inB_op hbo;unfold Op.inB at h1;rw[aZ]at h1;exact h1 x (by simp[ho2,qB])
          have hr:=a0h hi.slots hxb hx
          have hyv:a.eval y= .slice none 0 0:=by
            cases y with
            |const v=>cases v<;>first|(cases hy;done)|(rename_i a1 b1 c1;cases a1<;>first|(cases hy;done)|(cases b1<;>first|(cases hy;done)|(cases c1<;>first|(cases hy;done)|rfl)))
            |_=>cases hy
          have hv: ∃ad c,a.eval x= .slice ad n2 c/\(ad.isNone=yA->n2=0):=by
            generalize a.eval x=v at hr
            cases hr with
            |emp k a cap=>exact⟨a,cap,rfl,λ_=>rfl⟩
            |lst k b off len cap vs cs hk hl hc hcap hm hK h1 hp hh=>exact⟨_,_,rfl,λh=>by cases h⟩
          obtain⟨ad,c,hv,hnn⟩:=hv
          have fin: ∀(b:Bool),(execOp a.eval o).run P w= .ok (.value (.bool b)) w->(d2,n2,eq)=(d,n,eq)->(∃b0:Bool,b=(bif eq then b0 else !b0)/\(b0=yA->n=0))->Oper.wp P o a w KK Q:=by
            rintro b hrun hdn ⟨b0,rfl,hb0⟩;simp only[aP,and_true]at hdn;obtain⟨rfl,rfl⟩:=hdn;unfold Oper.wp;rw[hrun];refine hKK _ _ (k b0 hb0 hin _ w ⟨by rw[b0g];exact hdf,K,D, ?_,hi.hinv,hi.grow⟩);have h9:=hi.slots.put (qA d2) (s:= .bool (bif eq then b0 else !b0)) (.bool _);rw[b0o]at h9;rw[hd];exact h9
          have hex:execOp a.eval o=(do pure (Next.value (<-(do eqGuard op t x y (a.eval x) (a.eval y);binOp op t (a.eval x) (a.eval y):Sem Value)))):=by unfold execOp;rw[ho2]
          simp only[qC]at h;split at h;cases h;refine fin ad.isNone ?_ rfl ⟨ad.isNone,rfl,hnn⟩;rw[hex,hv,hyv];exact b0u (t0n ht);cases h;refine fin (!ad.isNone) ?_ rfl ⟨ad.isNone,rfl,hnn⟩;rw[hex,hv,hyv];exact b0u (r0c ht);cases h
      cases h
    cases h
end
section
variable {F : Fr} {P : Program} {m : Option Nat} {L : LE} {H : a0e} {Q : e0G} {ops : Array Oper} {p : Nat} {tr : List (List Nat × List Nat)}
theorem RJ.pin(t:Nat) {kd:IntKind} {c:Int} (ht:lk L t= .int kd j)(hj:j=c)(h:RJ F P m ops p tr ((t, .int kd c)::L) H Q):RJ F P m ops p tr L H Q:=by
  subst hj
  have he:a0w ((t, .int kd j)::L)=a0w L:=by
    funext i;show lk ((t, .int kd j)::L) i=lk L i;simp only[lk]
    cases hb:jC i t with
    |false=>rfl
    |true=>
      have:=af hb;subst this;rw[ht];rfl
  cases m with
  |none=>
    intro hall a w hs;exact h hall a w (by unfold Sees at hs⊢;rw[he];exact hs)
  |some base=>
    intro hl;have:=h hl;rw[he]at this;exact this
end
theorem N.copyBox [Inhabited T] {enc:T->List SV} (hk: ∀x,(enc x).length=k) {off:Nat} {ys:List T} (hm:oC n ys.length=yA):
    (⟨.int .i64 ((min ys.length n:Nat):Int),rd,[(i, .box (splice cs off ((ys.flatMap enc).take (min ys.length n*k))))]⟩:Eff)
      =⟨.int .i64 (n:Int),rd,[(i, .box (splice cs off (((wC n).map λj:Nat=>nth ys (j:Int)).flatMap enc)))]⟩:=by
  have h:n<=ys.length:=aj hm;have e1:min ys.length n=n:=Nat.min_eq_right h;rw[e1,h0B hk]
  have e2:ys.take n=(wC n).map λj:Nat=>nth ys (j:Int):=by
    apply List.ext_getElem;simp;omega;intro j h1 h2;simp at h1 h2;rw[List.getElem_take,List.getElem_map,List.getElem_range,s0j (by omega)]
  rw[e2]
/-! Maps whose entries are a list of natives. -/
def b0P {K:Type} (ek:K->SV)(ev:V->SV)(ms:List (K×V)):List (SV×SV):=ms.map λp=>(ek p.1,ev p.2)
def e0q {K V:Type} (eq:K->K->Bool):List (K×V)->K->Option V
  | [],_=>none
  |p::r,k=>bif eq k p.1 then qA p.2 else e0q eq r k
theorem c0w {K:Type} {ek:K->SV} {ev:V->SV} (h1: ∀f a,SV.rn f (ek a)=ek a)(h2: ∀f b,SV.rn f (ev b)=ev b)(f:Nat->Nat)(ms:List (K×V)):Ent.rn f (.map (b0P ek ev ms))= .map (b0P ek ev ms):=by
  simp only[Ent.rn,b0P,bO];congr 1;exact bn λp _=>by simp[h1,h2]
theorem b0v {K:Type} {ek:K->SV} {ev:V->SV} (h1: ∀m a,SV.refs m (ek a)=yA)(h2: ∀m b,SV.refs m (ev b)=yA)(m:Nat)(ms:List (K×V)):Ent.refs m (.map (b0P ek ev ms))=true:=by
  simp[Ent.refs,b0P,h1,h2]
theorem o0j {P:Program} {kt:TypeId} {K V:Type} {ek:K->SV} {ev:V->SV} {eq:K->K->Bool} (heq: ∀a b,eqS P 9 kt (ek a) (ek b)=qA (eq a b))(x:K): ∀ms:List (K×V),j0K P kt (ek x) (b0P ek ev ms)=qA ((e0q eq ms x).map ev)
  | []=>rfl
  |p::ms=>by
    have ih:=o0j (ev:=ev) heq x ms;simp only[b0P,ah,j0K,heq,e0q]at ih⊢
    cases eq x p.1 with
    |true=>rfl
    |false=>exact ih
section
variable {F : Fr} {P : Program} {m : Option Nat} {L : LE} {H : a0e} {Q : e0G} {ops : Array Oper} {p : Nat} {tr : List (List Nat × List Nat)}
def A0g(P:Program)(o:Oper)(ρ:Env)(H:a0e):Option (TypeId×Nat×List (SV×SV)×List SV×SV×Bool):=
  match o.op with
  | .lookup t m k ok=>match P.underlying t,a0L ρ m,a0L ρ k with
    |some (.map kt et),qA (.mp i),qA (.agg cs)=>match H[i]?,x0m P et with
      |some (.map es),qA z=>if n0Z P kt (.agg cs)=yA then qA (kt,i,es,cs,z,ok)else none
      |_,_=>none
    |_,_,_=>none
  |_=>none
theorem t0V {idx:Nat} {z:SV} {ok:Bool} (h:A0g P o ρ H=qA (kt,i,es,cs,z,ok)) {r:Option SV} (hf:j0K P kt (.agg cs) es=qA r):
    a0E P o ρ H idx=qA ⟨j0Z ok (r.getD z) r.isSome,[i],[]⟩:=by
  unfold A0g at h
  split at h
  · rename_i t m k ok' ho
    split at h
    · rename_i kt' et i' cs' hu hm hk
      split at h
      · rename_i es' z' hH hz
        split at h<;>cases h
        rename_i hkey;unfold a0E a0i a0p;simp only[ho];unfold i0F;rw[hu,hm,hk];simp only[hH];rw[yB hkey];have:k0y P kt es (.agg cs)=qA r:=hf;rw[this,hz];cases r<;>rfl
      cases h
    cases h
  cases h
def A0h(P:Program)(m:Option Nat)(ops:Array Oper)(p:Nat)(tr:List (List Nat×List Nat))(L:LE)(H:a0e):Option (Option Nat×TypeId×Nat×List (SV×SV)×List SV×SV×Bool×List (List Nat×List Nat)):=
  match ops.toList[p]? with
  |none=>none
  |some o=>match b0n ops (a0w L) o with
    |some yA=>bif b0M o then none else match A0g P o (a0w L) H with
      |some (kt,i,es,cs,z,ok)=>bif okM m ops p o ⟨.undef,[i],[]⟩ tr H then qA (o.dst,kt,i,es,cs,z,ok,trM m ops p o ⟨.undef,[i],[]⟩ tr)else none
      |none=>none
    |_=>none
theorem RJ.lookD {K:Type} (ek:K->SV)(ev:V->SV)(eq:K->K->Bool)(ms:List (K×V))(x:K)(zv:V) {ok:Bool}
    (h:A0h P m ops p tr L H=qA (d,kt,i,b0P ek ev ms,cs,ev zv,ok,tr2)) (hcs:SV.agg cs=ek x) (heq: ∀a b,eqS P 9 kt (ek a) (ek b)=qA (eq a b))
    (k:RJ F P m ops (p+1) tr2 (e0n L d (j0Z ok (ev ((e0q eq ms x).getD zv)) (e0q eq ms x).isSome)) H Q):RJ F P m ops p tr L H Q:=by
  unfold A0h at h;split at h
  cases h
  · rename_i o ho
    split at h
    · rename_i hg
      cases hcc:b0M o with
      |true=>rw[hcc]at h;cases h
      |false=>
        rw[hcc]at h;simp only[vC]at h
        split at h
        · rename_i kt2 i2 es2 cs2 z2 ok2 he
          cases hok:okM m ops p o ⟨.undef,[i2],[]⟩ tr H with
          |false=>rw[hok]at h;cases h
          |true=>
            rw[hok]at h;simp only[qC,ak,aP]at h;obtain⟨rfl,rfl,rfl,rfl,rfl,rfl,rfl,rfl⟩:=h;have hf:=o0j (ev:=ev) heq x ms;rw[<-hcs]at hf;have hs:=t0V (idx:=B0K m ops p H) he hf;have e1:((e0q eq ms x).map ev).getD (ev zv)=ev ((e0q eq ms x).getD zv):=by cases e0q eq ms x<;>rfl
            have e2:((e0q eq ms x).map ev).isSome=(e0q eq ms x).isSome:=by cases e0q eq ms x<;>rfl
            rw[e1,e2]at hs;exact RJ.step ho hg hcc hs hok k
        cases h
    cases h
def F0J(P:Program)(o:Oper)(ρ:Env)(H:a0e):Option (TypeId×Nat×List (SV×SV)×List SV×SV):=
  match o.op with
  | .mapUpdate t m k v=>match P.underlying t,a0L ρ m,a0L ρ k,a0L ρ v with
    |some (.map kt _),qA (.mp i),qA (.agg cs),qA sv=>match H[i]? with
      |some (.map es)=>if n0Z P kt (.agg cs)=yA then qA (kt,i,es,cs,sv)else none
      |_=>none
    |_,_,_,_=>none
  | .insert t m k v=>match P.underlying t,a0L ρ m,a0L ρ k,a0L ρ v with
    |some (.map kt _),qA (.mp i),qA (.agg cs),qA sv=>match H[i]? with
      |some (.map es)=>if n0Z P kt (.agg cs)=yA then qA (kt,i,es,cs,sv)else none
      |_=>none
    |_,_,_,_=>none
  |_=>none
theorem v0B {idx:Nat} {sv:SV} (h:F0J P o ρ H=qA (kt,i,es,cs,sv))(hf:j0K P kt (.agg cs) es=qA none):
    a0E P o ρ H idx=qA ⟨.undef,[i],[(i, .map (es++ [(.agg cs,sv)]))]⟩:=by
  unfold F0J at h
  split at h
  · rename_i t m k v ho
    split at h
    · rename_i kt' et i' cs' sv' hu hm hk hv
      split at h
      · rename_i es' hH
        split at h<;>cases h
        rename_i hkey;unfold a0E a0i a0p;simp only[ho];unfold g0D;rw[hu,hm,hk,hv];simp only[hH];rw[yB hkey];have:k0y P kt es (.agg cs)=qA none:=hf;rw[this]
      cases h
    cases h
  · rename_i t m k v ho
    split at h
    · rename_i kt' et i' cs' sv' hu hm hk hv
      split at h
      · rename_i es' hH
        split at h<;>cases h
        rename_i hkey;unfold a0E a0i a0p;simp only[ho];unfold g0D;rw[hu,hm,hk,hv];simp only[hH];rw[yB hkey];have:k0y P kt es (.agg cs)=qA none:=hf;rw[this]
      cases h
    cases h
  cases h
def E0i(P:Program)(m:Option Nat)(ops:Array Oper)(p:Nat)(tr:List (List Nat×List Nat))(L:LE)(H:a0e):Option (Option Nat×TypeId×Nat×List (SV×SV)×List SV×SV×List (List Nat×List Nat)):=
  match ops.toList[p]? with
  |none=>none
  |some o=>match b0n ops (a0w L) o with
    |some yA=>bif b0M o then none else match F0J P o (a0w L) H with
      |some (kt,i,es,cs,sv)=>bif okM m ops p o ⟨.undef,[i],[(i, .map [])]⟩ tr H then qA (o.dst,kt,i,es,cs,sv,trM m ops p o ⟨.undef,[i],[(i, .map [])]⟩ tr)else none
      |none=>none
    |_=>none
theorem RJ.insD {K:Type} (ek:K->SV)(ev:V->SV)(eq:K->K->Bool)(ms:List (K×V))(x:K)(y:V) {sv:SV}
    (h:E0i P m ops p tr L H=qA (d,kt,i,b0P ek ev ms,cs,sv,tr2)) (hcs:SV.agg cs=ek x) (hsv:sv=ev y) (heq: ∀a b,eqS P 9 kt (ek a) (ek b)=qA (eq a b)) (hm:(e0q eq ms x).isNone=yA)
    (hH:g0i H i (.map (b0P ek ev (ms++ [(x,y)])))=H2) (k:RJ F P m ops (p+1) tr2 (e0n L d .undef) H2 Q):RJ F P m ops p tr L H Q:=by
  subst hH;unfold E0i at h;split at h;cases h;rename_i o ho;split at h;rename_i hg
  cases hcc:b0M o with
  |true=>rw[hcc]at h;cases h
  |false=>
    rw[hcc]at h;simp only[vC]at h;split at h;rename_i kt2 i2 es2 cs2 sv2 he
    cases hok:okM m ops p o ⟨.undef,[i2],[(i2, .map [])]⟩ tr H with
    |false=>rw[hok]at h;cases h
    |true=>
      rw[hok]at h;simp only[qC,ak,aP]at h;obtain⟨rfl,rfl,rfl,rfl,rfl,rfl,rfl⟩:=h;have hf:=o0j (ev:=ev) heq x ms;rw[<-hcs]at hf;have hn:e0q eq ms x=none:=by simpa using hm
      rw[hn]at hf;have hs:=v0B (idx:=B0K m ops p H) he hf;have e1:b0P ek ev ms++ [(SV.agg cs2,sv2)]=b0P ek ev (ms++ [(x,y)]):=by simp[b0P,hcs,hsv]
      rw[e1]at hs;exact RJ.step ho hg hcc hs hok k
    cases h
  cases h
end
section
variable {F : Fr} {P : Program} {c : Code} {L : LE} {H : a0e} {Q : e0G} {m : Option Nat} {ops : Array Oper} {p : Nat} {tr : List (List Nat × List Nat)}
/-! The rules under short names; the kernel checks their conditions. -/
theorem kE(h:PJ F Q .normal L H)(hp:oC ops.size p=true:=by kernel_rfl):RJ F P m ops p tr L H Q:=RJ.end hp h
theorem kEN {c:Code} {Q:e0G} (h:J F P c L H Q)(hp:oC ops.size p=true:=by kernel_rfl):RJ F P m ops p tr L H (k0k F P c Q):=RJ.end hp (PJ.next h)
theorem kS(k:J F P (cl c) L H (k0k F P (cr c) Q))(h:q0j c=true:=by kernel_rfl):J F P c L H Q:=K.seq h k
theorem kR(k:RJ F P none (f0J c) 0 [] L H Q)(h:m0v oA c=true:=by kernel_rfl):J F P c L H Q:=K.region h k
theorem kSR(k:RJ F P none (f0J (cl c)) 0 [] L H (k0k F P (cr c) Q))(h:q0j c=true:=by kernel_rfl)(h2:m0v oA (cl c)=true:=by kernel_rfl):J F P c L H Q:=K.seq h (K.region h2 k)
theorem kT(k:J F P (ct c) L H Q)(h:v0Z c L=qA (.bool yA):=by kernel_rfl):J F P c L H Q:=K.condT h k
theorem kF(k:J F P (ce c) L H Q)(h:v0Z c L=qA (.bool oA):=by kernel_rfl):J F P c L H Q:=K.condF h k
theorem kX(k:PJ F Q .ret L H)(h:D0g c=true:=by kernel_rfl):J F P c L H Q:=K.ret h k
theorem kK(k:PJ F Q .normal L H)(h:u0h c=true:=by kernel_rfl):J F P c L H Q:=K.skip h k
theorem kD (q:Nat)(k:RJ F P (qA base) ops (p+q) (tOf (j0s P (qA base) ops q p tr L H)) (lOf (j0s P (qA base) ops q p tr L H)) (hOf (j0s P (qA base) ops q p tr L H)) Q)(h:(j0s P (qA base) ops q p tr L H).isSome=true:=by kernel_rfl):RJ F P (qA base) ops p tr L H Q:=RJ.segDC q h k
theorem kZ {fn:Func} (hn:F.n=fn.ntmps)(hH:F.H0=[])(hdom: ∀i,F.H0.length<=i->F.D0 i=none)(hin:i0w fn.ntmps fn.results.toList=true:=by kernel_rfl)(hret:r0W P fn.results.toList L H=qA v:=by kernel_rfl)(hr:SV.refs 0 v=true:=by kernel_rfl):
    PJ F (r0f P fn F v []) .ret L H:=K.ret0 (.inr rfl) hn hH hdom hin hret hr
theorem kFn {fn:Func}
    (h: ∀F:Fr,F.n=fn.ntmps->F.H0=H->(∀i,F.H0.length<=i->F.D0 i=none)->J F P (e0F fn) (e0z 0 args) H (r0f P fn F v H')) (hf:P.funcs[f]?=qA fn:=by kernel_rfl) (hb:fn.body.isSome=true:=by kernel_rfl) (hcal:b0J P f=true:=by kernel_rfl) (hin:b0G fn.ntmps (e0F fn)=true:=by kernel_rfl) (hn:oC args.length fn.ntmps=true:=by kernel_rfl):SC P f args H v H':=K.fn hf hb hcal hin hn h
theorem oi {a b:α} (h:qA a=qA b):a=b:=al h
end
end
section
variable [Inhabited GT]
theorem B0Y {Q:Exit->Act->World->Prop} (I:Nat->Act->World->Prop)
    (hs: ∀n a w,I n a w->c.wp P (λe a' w'=>(e= .normal/\ ∃m,m<n/\I m a' w')\/(e≠ .normal/\Q e a' w')) a w) (h:I n a w):(Code.loop c).wp P Q a w:=by
  have key: ∀n a w,I n a w-> ∀(b:Frame) (k:List Item) (cs:List Frame),∃e a' w',Q e a' w'/\Arrives P (lone (b.at a (.code c:: .inLoop c::k)) cs w) b k cs e a' w':=by
    intro n
    induction n using Nat.strongRecOn with
    |_ n ih=>
      intro a w h b k cs;obtain⟨e,a₁,w₁,hq,harr⟩:=hs n a w h b (.inLoop c::k) cs;rcases hq with⟨rfl,m,hm,hi⟩|⟨hne,hq⟩;obtain⟨e₂,a₂,w₂,hq₂,harr₂⟩:=ih m hm a₁ w₁ hi b k cs;exact⟨e₂,a₂,w₂,hq₂, .of_steps (Steps.trans harr (.one step_inLoop)) harr₂⟩;refine⟨e,a₁,w₁,hq, ?_⟩
      cases e with
      |normal=>exact absurd rfl hne
      |exit id=>exact .pass (x:= .inLoop c) rfl (λ_ _=> .inl (by simp)) harr
      |goto l=>exact .pass (x:= .inLoop c) rfl (λ_ _=> .inl (by simp)) harr
      |ret=>exact .pass (x:= .inLoop c) rfl (λ_ _=> .inl (by simp)) harr
      |panic ch=>exact .pass (x:= .inLoop c) rfl (λ_ _=> .inl (by simp)) harr
      |outgrown=>exact .pass (x:= .inLoop c) rfl (λ_ _=> .inl (by simp)) harr
  intro b k cs;obtain⟨e,a',w',hq,harr⟩:=key n a w h b k cs;exact⟨e,a',w',hq, .of_steps (.one step_loop) harr⟩
def q0c(n:Nat)(seen:Array Nat):Nat:=((wC n).filter λj=> !seen.contains j).length
theorem I0q {mes:Array MapEntry} {c:Nat} (h:I0R mes c):mes.toList.map (·.born)=wC mes.size:=by
  apply bz;intro j;rw[ar];by_cases hj:j<mes.size;rw[bw hj,cM,aL hj];simp only[aT];rw[h.2 j mes[j] (aL hj)];rw[aE (by simpa using hj),aE (by simpa using hj)];rfl
theorem x0U {mes:Array MapEntry} {c:Nat} {seen:Array Nat} (h:I0R mes c):(leftOf mes seen).size=q0c mes.size seen:=by
  unfold q0c leftOf;rw[<-I0q h,List.filter_map,cV,<-cC,Array.toList_filter];rfl
theorem A0q {seen:Array Nat} {j:Nat} (hj:j<n)(hs:seen.contains j=oA):q0c n (seen.push j)<q0c n seen:=by
  unfold q0c;refine filter_lt (λi=> !seen.contains i) (λi=> !(seen.push j).contains i) (λx hx=> ?_) j (by simpa using hs) (by rw[contains_push];simp) (wC n) (bf.2 hj);rw[contains_push]at hx;simp at hx⊢;exact hx.1
theorem F0p (w:World)(ty:TypeId)(r bm since c0:Nat)(seen:Array Nat)(es:Array MapEntry)(clock:Nat)(hr:w.heap[r]?=qA (.mapIter (qA bm) since seen c0))(hb:w.heap[bm]?=qA (.map es clock))
    (hold: ∀x∈es.toList,x.born<since) (hsc:since<=c0):
    ((leftOf es seen).size=0/\(Instr.next (.pointer (qA ⟨r,0,none⟩)) oA ty).run P w= .ok (.tuple #[.bool oA]) w)\/
    ∃e∈(leftOf es seen).toList,∃w1:World,(w1=w\/w1=w.drew)/\(Instr.next (.pointer (qA ⟨r,0,none⟩)) oA ty).run P w= .ok (.tuple #[.bool yA,e.key,e.val]) { w1 with heap:=w1.heap.setIfInBounds r (.mapIter (qA bm) since (seen.push e.born) clock) } :=by
  have hrl:r<w.heap.size:=(ai.1 hr).1;simp only[Instr.next,getObj,zD,Sem.run,hr,hb,oE,next_test_false seen es since c0 hold hsc,aI,if_false];unfold leftOf;have hmem: ∀x∈(Array.filter (λe=> !seen.contains e.born) es).toList,x.born<since:=λx hx=>hold x (by simp at hx⊢;exact hx.1)
  generalize Array.filter (λe=> !seen.contains e.born) es=L at hmem⊢;have e1:L.filter (λx=>vA (x.born<since))=L:=Array.filter_eq_self.2 (λx hx=>by simpa using hmem x (by simpa using hx))
  have e2:L.filter (λx=>vA (x.born≥since))= #[]:=by
    rw[Array.filter_eq_empty_iff];intro x hx;have:=hmem x (by simpa using hx);simp;omega
  simp only[e1,e2,Array.append_empty];by_cases h0:L.size=0;left;have:L= #[]:=Array.eq_empty_of_size_eq_zero h0;subst this;refine⟨rfl, ?_⟩;simp[choose,Sem.run,Question.forced];right;have hne:L.isEmpty=false:=by simp[Array.isEmpty,h0]
  simp only[hne,aI,if_false,Array.empty_append,Array.size_map]
  have hch: ∃(j:Nat) (w1:World),j<L.size/\(w1=w\/w1=w.drew)/\(choose (Question.mapNext L.size)).run P w= .ok j w1:=by
    by_cases hf:L.size<=1;exact⟨0,w,by omega, .inl rfl,by simp[choose,Sem.run,Question.forced,hf]⟩
    exact⟨_,w.drew,Nat.mod_lt _ (by omega), .inr rfl,by
      simp only[choose,Sem.run,Question.forced,decide_eq_true_eq,hf,if_false,Question.cut]
      rfl⟩
  obtain⟨j,w1,hj,hal,hrun⟩:=hch;refine⟨L[j],by simp,w1,hal, ?_⟩
  have hget:w1.heap[r]?=qA (.mapIter (qA bm) since seen c0):=by
    rcases hal with rfl|rfl;exact hr;exact hr
  have hset: ∀o':Obj,(setObj r o').run P w1= .ok () { w1 with heap:=w1.heap.setIfInBounds r o' } :=λo'=>by
    simp only[setObj,Sem.run,hget]
  simp only[hrun,Array.getElem?_map,aL hj,aT,zD,hset,oE];rfl
section
variable {F : Fr} {P : Program} {L : LE} {H : a0e} {Q : e0G} {ops : Array Oper} {p : Nat} {tr : List (List Nat × List Nat)}
def z0C(P:Program)(ops:Array Oper)(p:Nat)(L:LE)(H:a0e):Option (Option Nat×Nat×Nat):=
  match ops.toList[p]? with
  |some o=>match b0n ops (a0w L) o,o.op with
    |some yA, .range t x=>match P.underlying t,a0L (a0w L) x with
      |some (.map _ _),qA (.mp i)=>match H[i]? with
        |some (.map es)=>qA (o.dst,i,es.length)
        |_=>none
      |_,_=>none
    |_,_=>none
  |none=>none
theorem RJ.range (h:z0C P ops p L H=qA (d,i,n))(k:RJ F P none ops (p+1) tr (e0n L d (.ptr H.length 0)) (H++ [.itr i n []]) Q):RJ F P none ops p tr L H Q:=by
  unfold z0C at h;split at h;rename_i o ho;split at h;rename_i t x hg hop;split at h;rename_i kt et i' hu hxe;split at h;rename_i es hH;simp only[ak,aP]at h;obtain⟨rfl,rfl,rfl⟩:=h;intro hin a w hs;have hbo:Oper.inB F.n ops o=true:=List.all_eq_true.1 hin o (n0b ho);obtain⟨hd,K,D,hi⟩:=hs;rw[d0F ho];refine wpList_step λKK hKK=> ?_
  rw[b0U hi.slots (Oper.inB_guard hbo) hg,yB rfl]
  have hx:Operand.inB F.n x=true:=by
    have hb:=Oper.inB_op hbo;unfold Op.inB at hb;rw[hop]at hb;simpa [qB]using hb
  obtain⟨r,c,m,hvx,hdi⟩:=r0g (a0h hi.slots hx hxe);obtain⟨r',mes,clock,h1,h2,h3,h4,hB,h5⟩:=hi.hinv.ent _ _ hH;rw[h1]at hdi;cases hdi
  have hrun:(execOp a.eval o).run P w= .ok (.value (.pointer (qA ⟨w.heap.size,0,none⟩))) (w.alloc (.mapIter (qA r) clock #[] clock)):=by
    unfold execOp;rw[hop];exact b0u (by rw[hvx];exact run_range_map w t kt et r mes clock hu h3)
  have hK0:K w.heap.size=0:=by
    rcases br (K w.heap.size)with h0|h0;exact h0;have:=hi.hinv.kw w.heap.size (by omega);omega
  have hold: ∀b,b<w.heap.size->(w.alloc (.mapIter (qA r) clock #[] clock)).heap[b]?=w.heap[b]?:=λb hb=>by show(w.heap.push _)[b]?=_;rw[bN,oB (by omega)]
  have hcl:clock=es.length:=by rw[hB.1,h4]
  obtain⟨g,hi'⟩:=place (w':=w.alloc (.mapIter (qA r) clock #[] clock)) (en:= .itr i' es.length []) (b:=w.heap.size) (c:=0) (m:=0) hi.hinv (idx:=H.length) (.inl rfl) (x:=none) (by simp) (.inl (am _)) rfl rfl rfl (by simp) (λb' _ hlt=>hold b' hlt)
    (λhr=>⟨_,r,clock,by simp[e0H],hK0,by subst hcl;show(w.heap.push _)[w.heap.size]?=_;simp,by omega,hr _ _ (.mp i' r 0 0 h1)⟩)
  rw[f0d]at g hi';have hset:g0i H H.length (.itr i' es.length [])=H++ [.itr i' es.length []]:=by unfold g0i;rw[oB (by omega)]
  rw[hset]at g hi';unfold Oper.wp;rw[hrun];refine hKK _ _ (k hin _ _ ?_);refine⟨by rw[b0g];exact hd, ?_⟩;have:=hi.step (d:=o.dst) ⟨K,_,g,hi', .ptr H.length 0 w.heap.size 0 0 (by simp[e0H])⟩;rw[b0o]at this;exact this;cases h;cases h;cases h;cases h
theorem RJ.next {j:Nat} {s:List Nat} (ho:ops.toList[p]?=qA o)(hg:o.guard=none)(hop:o.op= .next x oA)(hxe:a0L (a0w L) x=qA (.ptr j 0))(hj:H[j]?=qA (.itr i n s))(hH:H[i]?=qA (.map es))(hn:es.length=n)
    (k0:q0c n s.toArray=0->RJ F P none ops (p+1) tr (e0n L o.dst (.tup [.bool oA])) H Q)
    (k1: ∀b,b<n->s.contains b=oA->RJ F P none ops (p+1) tr (e0n L o.dst (.tup [.bool yA, .undef, .undef])) (H.set j (.itr i n (s++ [b]))) Q):RJ F P none ops p tr L H Q:=by
  intro hin a w hs;have hbo:Oper.inB F.n ops o=true:=List.all_eq_true.1 hin o (n0b ho);obtain⟨hd,K,D,hi⟩:=hs;rw[d0F ho];refine wpList_step λKK hKK=> ?_
  rw[b0U hi.slots (Oper.inB_guard hbo) (b:=yA) (by unfold b0n;rw[hg]),yB rfl]
  have hx:Operand.inB F.n x=true:=by
    have hb:=Oper.inB_op hbo;unfold Op.inB at hb;rw[hop]at hb;simpa [qB]using hb
  obtain⟨r,c,m,hvx,hdj⟩:=n0M (a0h hi.slots hx hxe);obtain⟨r',bm,c0,e1,e2,e3,e4,e5⟩:=hi.hinv.ent _ _ hj;rw[e1]at hdj;cases hdj;obtain⟨rm,mes,clock,h1,h2,h3,h4,hB,h5⟩:=hi.hinv.ent _ _ hH;obtain⟨_,_,_,hv,hdi⟩:=r0g e5;cases hv;rw[h1]at hdi;cases hdi;have hsz:mes.size=n:=by rw[<-h4];exact hn
  have hold: ∀y∈mes.toList,y.born<n:=λy hy=>by
    obtain⟨q,hq,rfl⟩:=List.mem_iff_getElem.1 hy;have hq':q<mes.size:=by simpa using hq
    have:=hB.2 q mes[q] (aL hq');have e:mes.toList[q]=mes[q]:=by simp
    rw[e,this];omega
  have hrv:(execOp a.eval o)=(do pure (Next.value (<-Instr.next (a.eval x) oA o.type))):=by unfold execOp;rw[hop]
  rcases F0p (P:=P) w o.type r bm n c0 s.toArray mes clock e3 h3 hold (by omega)with⟨hz,hrun⟩|⟨e,he,w1,hal,hrun⟩;unfold Oper.wp;rw[hrv,b0u (by rw[hvx];exact hrun)];refine hKK _ _ (k0 (by rw[x0U hB,hsz]at hz;exact hz) hin _ _ ⟨by rw[b0g];exact hd, ?_⟩)
  have:=hi.step (d:=o.dst) (Good.here hi.hinv (.tup [.bool oA] [.bool oA] rfl (λj v c hv hc=>by
    match j with
    |0=>simp at hv hc;subst hv;subst hc;exact .bool _
    |j+1=>simp at hv)))
  rw[b0o]at this;exact this;obtain⟨hm,hns⟩:=mem_left he;have hbn:=hold e hm
  have hw1:Grow w K D H w1 K D H/\HInv w1 K D H/\w1.heap=w.heap:=by
    rcases hal with rfl|rfl;exact⟨Grow.refl _ _ _ _,hi.hinv,rfl⟩;exact⟨Grow.drew _ _ _ _,hi.hinv.drew,rfl⟩
  obtain⟨g1,i1,hh⟩:=hw1;have hrl:r<w1.heap.size:=by rw[hh];exact(ai.1 e3).1
  obtain⟨g2,i2⟩:=modify (w':= { w1 with heap:=w1.heap.setIfInBounds r (.mapIter (qA bm) n (s.toArray.push e.born) clock) }) (en':= .itr i n (s++ [e.born])) i1 hj rfl rfl e1 rfl rfl rfl (by simp) (λb' hb'=>by
      show(w1.heap.setIfInBounds r _)[b']?=_
      rw[Array.getElem?_setIfInBounds_ne (Ne.symm hb')])
    (λhr=>⟨r,bm,clock,e1,e2,by
      show(w1.heap.setIfInBounds r _)[r]?=_
      rw[Array.getElem?_setIfInBounds_self_of_lt hrl];simp,by rw[hB.1];omega,hr _ _ (.mp i bm 0 0 h1)⟩)
  unfold Oper.wp;rw[hrv,b0u (by rw[hvx];exact hrun)];refine hKK _ _ (k1 e.born hbn (by simpa using hns) hin _ _ ⟨by rw[b0g];exact hd, ?_⟩)
  have:=hi.step (d:=o.dst) ⟨K,D,g1.trans g2,i2, .tup [.bool yA,e.key,e.val] [.bool yA, .undef, .undef] rfl (λj v c hv hc=>by
    match j with
    |0=>simp at hv hc;subst hv;subst hc;exact .bool _
    |1=>simp at hv hc;subst hc;exact .undef _
    |2=>simp at hv hc;subst hc;exact .undef _
    |j+3=>simp at hv)⟩
  rw[b0o]at this;exact this
def A0X(ops:Array Oper)(p:Nat)(L:LE)(H:a0e):Option (Option Nat×Nat×Nat×List Nat):=
  match ops.toList[p]? with
  |some o=>match b0n ops (a0w L) o,o.op with
    |some yA, .entry x=>match a0L (a0w L) x with
      |some (.ptr j off)=>bif jC off 0 then(match H[j]? with
        |some (.itr i n s)=>qA (o.dst,i,n,s)
        |_=>none)else none
      |_=>none
    |_,_=>none
  |none=>none
theorem RJ.entry {b:Nat} {s:List Nat} {kv:SV×SV} (h:A0X ops p L H=qA (d,i,n,s++ [b]))(hH:H[i]?=qA (.map es))(hn:es.length=n)(hb:es[b]?=qA kv)
    (k:RJ F P none ops (p+1) tr (e0n L d (.tup [kv.1,kv.2])) H Q):RJ F P none ops p tr L H Q:=by
  unfold A0X at h;split at h;rename_i o ho;split at h;rename_i x hg hop;split at h;rename_i j off hxe
  cases hz:jC off 0 with
  |false=>rw[hz]at h;cases h
  |true=>
    rw[hz]at h;simp only[qC]at h;have hoff:off=0:=by simpa using hz
    subst hoff;split at h;rename_i i' n' s' hj;simp only[ak,aP]at h;obtain⟨rfl,rfl,rfl,rfl⟩:=h;intro hin a w hs;have hbo:Oper.inB F.n ops o=true:=List.all_eq_true.1 hin o (n0b ho);obtain⟨hd,K,D,hi⟩:=hs;rw[d0F ho];refine wpList_step λKK hKK=> ?_
    rw[b0U hi.slots (Oper.inB_guard hbo) hg,yB rfl]
    have hx:Operand.inB F.n x=true:=by
      have hb:=Oper.inB_op hbo;unfold Op.inB at hb;rw[hop]at hb;simpa [qB]using hb
    obtain⟨r,c,m,hvx,hdj⟩:=n0M (a0h hi.slots hx hxe);obtain⟨r',bm,c0,e1,e2,e3,e4,e5⟩:=hi.hinv.ent _ _ hj;rw[e1]at hdj;cases hdj;obtain⟨rm,mes,clock,h1,h2,h3,h4,hB,h5⟩:=hi.hinv.ent _ _ hH;obtain⟨_,_,_,hv,hdi⟩:=r0g e5;cases hv;rw[h1]at hdi;cases hdi;have hbl:b<mes.size:=by rw[<-h4];exact(ae.1 hb).1
    have hme:=aL hbl;have hbo':=hB.2 b mes[b] hme;have hnd:(mes.toList.map (·.born)).Nodup:=by rw[I0q hB];exact List.nodup_range
    have hcc:clock=c0:=by rw[hB.1,<-h4,hn,e4]
    subst hcc
    have hrun:(Instr.entry (.pointer (qA ⟨r,0,none⟩))).run P w= .ok (.tuple #[mes[b].key,mes[b].val]) w:=by
      have hf:mes.find? (·.born==mes[b].born)=qA mes[b]:=by rw[<-Array.find?_toList];exact find_born mes[b] mes.toList hnd (by simp)
      have e3':w.heap[r]?=qA (.mapIter (qA bm) n' (s.toArray.push b) clock):=by rw[e3];simp
      rw[hbo']at hf;simp only[Instr.entry,getObj,zD,Sem.run,e3',h3,oE,Array.back?_push,bne_self_eq_false,aI,if_false,hf];rfl
    have hrv:(execOp a.eval o)=(do pure (Next.value (<-Instr.entry (a.eval x)))):=by unfold execOp;rw[hop]
    unfold Oper.wp;rw[hrv,b0u (by rw[hvx];exact hrun)];refine hKK _ _ (k hin _ _ ⟨by rw[b0g];exact hd, ?_⟩);obtain⟨q1,q2⟩:=h5 b mes[b] kv hme hb
    have:=hi.step (d:=o.dst) (Good.here hi.hinv (.tup [mes[b].key,mes[b].val] [kv.1,kv.2] rfl (λj v c hv hc=>by
      match j with
      |0=>simp at hv hc;subst hv;subst hc;exact q1
      |1=>simp at hv hc;subst hv;subst hc;exact q2
      |j+2=>simp at hv)))
    rw[b0o]at this;exact this;cases h
  cases h;cases h;cases h
def k0Z {E X:Type} [DecidableEq X](f:E->Option (Unit⊕X)):List E->Option (Unit⊕X)
  | []=>qA (.inl ())
  |e::r=>match f e,k0Z f r with
    |some (.inl _),y=>y
    |some (.inr x),qA (.inl _)=>qA (.inr x)
    |some (.inr x),qA (.inr y)=>if x=y then qA (.inr x)else none
    |_,_=>none
theorem v0u {E:Type} [DecidableEq X] {f:E->Option (Unit⊕X)} : ∀(ms:List E) (y:Unit⊕X),k0Z f ms=qA y->
    (∀e∈ms,∃x,f e=qA x/\ ∀o,x= .inr o->y= .inr o)/\((∀e∈ms,f e=qA (.inl ()))->y= .inl ()):=by
  intro ms
  induction ms with
  |nil=>intro y h;cases h;exact⟨λe he=>by simp at he,λ_=>rfl⟩
  |cons a r ih=>
    intro y h;simp only[k0Z]at h;split at h;rename_i u hf;obtain⟨i1,i2⟩:=ih y h;refine⟨λe he=> ?_,λhall=>i2 λe he=>hall e (ao _ he)⟩;rcases aG.1 he with rfl|he;exact⟨_,hf,λo ho=>by cases ho⟩;exact i1 e he;rename_i x u hf hr;cases h;obtain⟨i1,i2⟩:=ih _ hr;refine⟨λe he=> ?_,λhall=>by have:=hall a (by simp);rw[hf]at this;cases this⟩;rcases aG.1 he with rfl|he;exact⟨_,hf,λo ho=>ho⟩;obtain⟨x',hx',h'⟩:=i1 e he;refine⟨x',hx',λo ho=> ?_⟩;have:=h' o ho
    cases this
    · rename_i x z hf hr
      split at h<;>cases h
      rename_i hxz;subst hxz;obtain⟨i1,i2⟩:=ih _ hr;refine⟨λe he=> ?_,λhall=>by have:=hall a (by simp);rw[hf]at this;cases this⟩;rcases aG.1 he with rfl|he;exact⟨_,hf,λo ho=>ho⟩;exact i1 e he
    cases h
def J0k (F:Fr)(Q:e0G)(L:LE)(H:a0e)(y x:Unit⊕X):e0G:=λe a w=>match x with
  | .inl _=>e= .normal/\Sees F L H a w
  | .inr o=>e≠ .normal/\(y= .inr o->Q e a w)
theorem PJ.mapNext {L2:LE} {y:Unit⊕X} (ts:List Nat)(hL:f0K ts L=L2)(hH:H=H2):PJ F (J0k F Q L2 H2 y (.inl ())) .normal L H:=λa w hs=>by
  subst hH;exact⟨rfl,by rw[<-hL];exact hs.keep (i0H ts L)⟩
theorem PJ.mapOut {L2:LE} {y:Unit⊕X} {o:X} {e:Exit} (hne:e≠ .normal)(h:y= .inr o->PJ F Q e L H):PJ F (J0k F Q L2 H2 y (.inr o)) e L H:=λa w hs=>⟨hne,λhe=>h he a w hs⟩
def v0v(it tn tk b:Nat):Code->Bool
  | .seq (.region _ ops oA) (.seq (.cond (.tmp t) .skip (.exit b')) _)=>jC t tk&&(jC b' b&&match ops.toList with
    | [o0,o1]=>match o0.guard,o0.op,o0.dst,o1.guard,o1.op,o1.dst with
      |none, .next (.tmp it') oA,qA tn1,none, .extract (.tmp tn2) 0,qA tk'=>jC it' it&&(jC tn1 tn&&(jC tn2 tn&&jC tk' tk))
      |_,_,_,_,_,_=>oA
    |_=>oA)
  |_=>oA
theorem t0Q {it tn tk b:Nat} (h:v0v it tn tk b c=yA): ∃id ops o0 o1 B,c= .seq (.region id ops oA) (.seq (.cond (.tmp tk) .skip (.exit b)) B)/\ops.toList=[o0,o1]/\
    o0.guard=none/\o0.op= .next (.tmp it) oA/\o0.dst=qA tn/\o1.guard=none/\o1.op= .extract (.tmp tn) 0/\o1.dst=qA tk:=by
  unfold v0v at h;split at h;rename_i id ops t b' B;simp only[aa]at h;obtain⟨h1,h2,h3⟩:=h;split at h3;rename_i o0 o1 hl;split at h3;rename_i it' tn1 tn2 tk' e1 e2 e3 e4 e5 e6;simp only[aa]at h3;obtain⟨q1,q2,q3,q4⟩:=h3;have h1:=af h1;have h2:=af h2;have q1:=af q1;have q2:=af q2;have q3:=af q3;have q4:=af q4;subst h1;subst h2;subst q1;subst q2;subst q3;subst q4;exact⟨id,ops,o0,o1,B,rfl,hl,e1,e2,e3,e4,e5,e6⟩;cases h3;cases h3;cases h
theorem x0V {s:List Nat} (h:q0c n s.toArray=0): ∀j,j<n->s.contains j=true:=by
  intro j hj;unfold q0c at h;have:=List.length_eq_zero_iff.1 h;rw[List.filter_eq_nil_iff]at this;have h2:=this j (bf.2 hj);simpa using h2
theorem E0f {tk tn:Nat} {u:SV} {L2:LE} (hnk:tn≠tk)(htn:lk L2 tn= .undef)(t:Nat):lk ((tk,v)::L2) t=lk ((tk,v)::(tn,u)::L2) t\/lk ((tk,v)::L2) t= .undef:=by
  simp only[lk]
  cases h1:jC t tk with
  |true=>exact .inl rfl
  |false=>
    cases h2:jC t tn with
    |false=>exact .inl rfl
    |true=>have:=af h2;subst this;exact .inr htn
theorem K.mapLoop {E:Type} [DecidableEq X] (it tn tk b j i:Nat) (h:A0z c=yA)(hc:v0v it tn tk b (cp c)=yA)(f:E->Option (Unit⊕X))(ms:List E)(enc:E->SV×SV) {y:Unit⊕X} (hy:k0Z f ms=qA y)
    (ts:List Nat) {L2:LE} (hk:f0K ts L=L2) (hL:lk L2 it= .ptr j 0) (htn:lk L2 tn= .undef) (htk:lk L2 tk= .undef) (hne:jC tn tk=oA) (hni:jC tn it=oA) (Hs:List Nat->a0e) (hH:H=Hs []) (hS: ∀s s',(Hs s).set j (.itr i n s')=Hs s')
    (hj: ∀s,(Hs s)[j]?=qA (.itr i n s)) (hi: ∀s,(Hs s)[i]?=qA (.map (ms.map enc))) (hn:(ms.map enc).length=n)
    (hx: ∀s,y= .inl ()->PJ F Q (.exit b) ((tk, .bool oA)::L2) (Hs s))
    (body: ∀s b' e x,(ms.map enc)[b']?=qA (enc e)->f e=qA x->J F P (cr (cr (cp c))) ((tk, .bool yA)::L2) (Hs (s++ [b'])) (J0k F Q L2 (Hs (s++ [b'])) y x)):J F P c L H Q:=by
  cases c<;>first|cases h|skip
  rename_i c;obtain⟨m1,m2⟩:=v0u ms y hy;have hnm:ms.length=n:=by rw[<-hn];simp
  refine J.keep ts hk ?_;subst hH;obtain⟨id,ops,o0,o1,B,rfl,hl,g1,g2,g3,g4,g5,g6⟩:=t0Q hc;intro hin a w hs;have hin':b0G F.n _=true:=hin;refine B0Y (λn' a w=> ∃s,q0c n s.toArray=n'/\(∀q∈s,∀e,ms[q]?=qA e->f e=qA (.inl ()))/\Sees F L2 (Hs s) a w) ?_ (n:=q0c n #[]) ⟨[],rfl,λq hq=>by simp at hq,hs⟩;rintro n' a w ⟨s,hn',hdone,hs⟩;refine(?_:J F P (.seq (.region id ops oA) (.seq (.cond (.tmp tk) .skip (.exit b)) B)) L2 (Hs s) _) hin' a w hs;have hp0:ops.toList[0]?=qA o0:=by rw[hl];rfl
  have hp1:ops.toList[1]?=qA o1:=by rw[hl];rfl
  have hsz:ops.size=2:=by have:=congrArg List.length hl;simpa using this
  have hnk:tn≠tk:=λe=>by subst e;simp at hne
  have hnit:tn≠it:=λe=>by subst e;simp at hni
  refine J.seq (J.region (RJ.next hp0 g1 g2 (congrArg qA hL) (hj s) (hi s) hn (λhz=> ?_) (λq hq hqs=> ?_)))
  · -- none is left
    rw[g3]
    have hall:y= .inl ():=m2 λe he=>by
      obtain⟨q,hq,rfl⟩:=List.mem_iff_getElem.1 he;have hc:=x0V hz q (by omega);exact hdone q (by simpa using hc) _ (ag hq)
    refine RJ.step (ef:=⟨.bool oA,[],[]⟩) hp1 (by unfold b0n;rw[g4]) (by unfold b0M;rw[g5]) ?_ rfl ?_;unfold a0E a0i;rw[g5];simp[a0L,a0w,e0n,lk]
    · rw[g6]
      refine RJ.done (by omega) (PJ.next (J.seq (J.cond (b:=oA) ?_ (J.exit (PJ.passExit ?_)))));simp[a0L,a0w,e0n,lk];intro a' w' hs';exact .inr ⟨by simp,hx s hall a' w' (hs'.keep (E0f hnk htn))⟩
  · -- one more
    rw[g3]
    obtain⟨e,hqe⟩: ∃e,ms[q]?=qA e:=⟨ms[q]'(by omega),ag (by omega)⟩
    obtain⟨x,hfx,hox⟩:=m1 e (aM hqe);refine RJ.step (ef:=⟨.bool yA,[],[]⟩) hp1 (by unfold b0n;rw[g4]) (by unfold b0M;rw[g5]) ?_ rfl ?_;unfold a0E a0i;rw[g5];simp[a0L,a0w,e0n,lk]
    · rw[g6,hS]
      refine RJ.done (by omega) (PJ.next (J.seq (J.cond (b:=yA) ?_ (J.skip (PJ.next ?_)))));simp[a0L,a0w,e0n,lk];intro hin2 a' w' hs';have hb:=body s q e x (by rw[ar,hqe];rfl) hfx hin2 a' w' (hs'.keep (E0f hnk htn));refine jI (λee a2 w2 hq2=> ?_) hb
      cases x with
      |inl u=>
        obtain⟨rfl,hs2⟩:=hq2;refine .inl ⟨rfl,q0c n (s++ [q]).toArray, ?_,s++ [q],rfl,λq' hq' e' he'=> ?_,hs2⟩;rw[<-hn'];have:=A0q (seen:=s.toArray) hq (by simpa using hqs);simpa using this;rcases aw.1 hq' with h1|h1;exact hdone q' h1 e' he';simp at h1;subst h1;rw[hqe]at he';cases he';exact hfx
      |inr o=>exact .inr ⟨hq2.1,hq2.2 (hox o rfl)⟩
end
end
section
variable [Inhabited GT]
section
variable {F : Fr} {P : Program} {L : LE} {H : a0e} {Q : e0G} {ops : Array Oper} {p : Nat} {tr : List (List Nat × List Nat)} {ρ : Env}
theorem St.openMap (hs:St F ρ H a w) (hi:H[i]?=qA (.pmap es)): ∃es',List.Perm es' es/\St F ρ (H.set i (.map es')) a w:=by
  obtain⟨hd,K,D,hv⟩:=hs;obtain⟨es',r,mes,clock,hp,h1,h2,h3,h4,hB,h5⟩:=hv.hinv.ent _ _ hi;obtain⟨g,hi'⟩:=modify (w':=w) (en':= .map es') hv.hinv hi rfl rfl h1 rfl rfl rfl rfl (λ_ _=>rfl) (λ_=>⟨r,mes,clock,h1,h2,h3,h4,hB,h5⟩);exact⟨es',hp,hd,K,D,hv.slots,hi',hv.grow.trans g⟩
theorem St.closeMap (hs:St F ρ H a w) {es':List (SV×SV)} (hi:H[i]?=qA (.map es'))(hp:List.Perm es' es):St F ρ (H.set i (.pmap es)) a w:=by
  obtain⟨hd,K,D,hv⟩:=hs;obtain⟨r,mes,clock,h1,h2,h3,h4,hB,h5⟩:=hv.hinv.ent _ _ hi;obtain⟨g,hi'⟩:=modify (w':=w) (en':= .pmap es) hv.hinv hi rfl rfl h1 rfl rfl rfl rfl (λ_ _=>rfl) (λ_=>⟨es',r,mes,clock,hp,h1,h2,h3,h4,hB,h5⟩);exact⟨hd,K,D,hv.slots,hi',hv.grow.trans g⟩
theorem RJ.openMap {B:Type} {ek:A->SV} {ev:B->SV} (ms:List (A×B))(i:Nat)(Hs:List (A×B)->a0e)(hi:H[i]?=qA (.pmap (b0P ek ev ms)))(hs: ∀ms',H.set i (.map (b0P ek ev ms'))=Hs ms')
    (k: ∀ms',List.Perm ms' ms->RJ F P none ops p tr L (Hs ms') Q):RJ F P none ops p tr L H Q:=by
  intro hin a w hst;obtain⟨es',hp,hst'⟩:=hst.openMap hi;obtain⟨ms',hp',rfl⟩:=k0N ms es' hp;have:=hs ms';unfold b0P at this;rw[this]at hst';exact k ms' hp' hin a w hst'
open Classical in
noncomputable def r0B (f:List A->Option R)(ms:List A):Option R:=if∀ms',List.Perm ms' ms->f ms'=f ms then f ms else none
theorem r0A {f:List A->Option R} {ms:List A} {r:R} (h:r0B f ms=qA r)(ms':List A)(hp:List.Perm ms' ms):f ms'=qA r:=by
  unfold r0B at h;split at h;rename_i hall;rw[hall ms' hp];exact h;cases h
theorem u0I {f:List A->Option R} {ms:List A} {r:R} (h: ∀ms',List.Perm ms' ms->f ms'=qA r):r0B f ms=qA r:=by
  unfold r0B;rw[yB (λms' hp=>by rw[h ms' hp,h ms (.refl _)])];exact h ms (.refl _)
/-! Laying it. -/
def mapLit(P:Program)(base kt:Nat):List Oper->Nat->LE->Option (List (SV×Option (SV×SV)))
  | [],_,_=>qA []
  |o::r,j,L=>match o.guard,o.op with
    |none, .makeMap _ none=>bif jC j 0 then(mapLit P base kt r (j+1) (e0n L o.dst (.mp base))).map ((.mp base,none):: ·)else none
    |none, .insert t x k v=>match P.underlying t,a0L (a0w L) x,a0L (a0w L) k,a0L (a0w L) v,o.dst with
      |some (.map kt' _),qA (.mp b),qA ks,qA vs,none=>bif jC b base&&(jC kt' kt&&(n0Z P kt ks&&o.after.toList.any λe=>oD .any e&&jC e.on 0))then(mapLit P base kt r (j+1) L).map ((.undef,qA (ks,vs)):: ·)else none
      |_,_,_,_,_=>none
    |none,_=>bif b0M o then none else match a0i P o (a0w L)with
      |some v=>(mapLit P base kt r (j+1) (e0n L o.dst v)).map ((v,none):: ·)
      |none=>none
    |_,_=>none
def C0b(o:Oper):List Nat:=o.op.operands.toList.filterMap fun| .tmp t=>qA t|_=>none
def p0Y(ops:Array Oper):Bool:=
  (wC ops.size).all λj=>match ops[j]? with
    |some o=>o.after.toList.all (λe=>jE e.on j)&&((wC ops.size).all λj'=>match ops[j']? with
      |some o'=>match o'.dst with
        |some t=>(!(C0b o).contains t||o.after.toList.any λe=>oD .any e&&jC e.on j')&&(jC j j'||(match o.dst with|some t'=> !jC t t'|none=>yA))
        |none=>yA
      |none=>yA)
    |none=>yA
def H0F:Option (Option SV)->Bool
  |some none=>yA
  |_=>oA
def w0H(P:Program)(kt:Nat)(VI:List (SV×Option (SV×SV))):Bool:=
  (wC VI.length).all λi=>(wC VI.length).all λj=>jC i j||(match VI[i]?,VI[j]? with
    |some (_,qA a),qA (_,qA b)=>H0F (k0y P kt [b] a.1)
    |_,_=>yA)
def s0V:List Oper->List (SV×Option (SV×SV))->LE->LE
  |o::r,v::s,L=>s0V r s (e0n L o.dst v.1)
  |_,_,L=>L
def esL:List (SV×Option (SV×SV))->Nat->(Nat->Bool)->List (SV×SV)
  | [],_,_=> []
  |vi::r,j,l=>(bif l j then vi.2.toList else [])++esL r (j+1) l
theorem n0s: ∀(VI:List (SV×Option (SV×SV))) (j:Nat) (l l':Nat->Bool),(∀q,j<=q->l q=l' q)->esL VI j l=esL VI j l'
  | [],_,_,_,_=>rfl
  |vi::r,j,l,l',h=>by
    simp only[esL];rw[h j (am _),n0s r (j+1) l l' λq hq=>h q (by omega)]
theorem w0Y: ∀(VI:List (SV×Option (SV×SV))) (j:Nat) (l l':Nat->Bool),(∀q,j<=q->q<j+VI.length->l q=l' q)->esL VI j l=esL VI j l'
  | [],_,_,_,_=>rfl
  |vi::r,j,l,l',h=>by
    simp only[esL];rw[h j (am _) (by simp),w0Y r (j+1) l l' λq hq hq2=>h q (by omega) (by simp;omega)]
theorem A0T: ∀(VI:List (SV×Option (SV×SV))) (j i:Nat) (l:Nat->Bool) (v:SV) (e:Option (SV×SV)),l i=oA->j<=i->VI[i-j]?=qA (v,e)->
    List.Perm (esL VI j l++e.toList) (esL VI j λq=>if q=i then yA else l q)
  | [],j,i,l,v,e,hl,hj,h=>by simp at h
  |vi::r,j,i,l,v,e,hl,hj,h=>by
    by_cases hij:i=j;subst hij;simp at h;subst h;have h1:esL r (i+1) (λq=>if q=i then yA else l q)=esL r (i+1) l:=n0s r (i+1) _ _ λq hq=>by rw[oB (by omega)]
    simp only[esL,hl,vC,aR,if_true,qC,h1];exact List.perm_append_comm
    have h':r[i-(j+1)]?=qA (v,e):=by
      have:i-j=(i-(j+1))+1:=by omega
      rw[this]at h;simpa using h
    have ih:=A0T r (j+1) i l v e hl (by omega) h';simp only[esL];rw[oB (λe=>hij e.symm),aB];exact ih.append_left _
theorem w0X: ∀(VI:List (SV×Option (SV×SV))) (j i:Nat) (l:Nat->Bool) (v:SV),VI[i-j]?=qA (v,none)->j<=i->(esL VI j λq=>if q=i then yA else l q)=esL VI j l
  | [],j,i,l,v,h,_=>rfl
  |vi::r,j,i,l,v,h,hj=>by
    by_cases hij:i=j
    · subst hij
      simp at h;subst h;have h1:esL r (i+1) (λq=>if q=i then yA else l q)=esL r (i+1) l:=n0s r (i+1) _ _ λq hq=>by rw[oB (by omega)]
      simp only[esL,h1];cases l i<;>simp
    have h':r[i-(j+1)]?=qA (v,none):=by
      have:i-j=(i-(j+1))+1:=by omega
      rw[this]at h;simpa using h
    simp only[esL];rw[oB (λe=>hij e.symm),w0X r (j+1) i l v h' (by omega)]
theorem A0V: ∀(VI:List (SV×Option (SV×SV))) (j:Nat) (l:Nat->Bool) (kv:SV×SV),kv∈esL VI j l-> ∃i v,j<=i/\l i=yA/\VI[i-j]?=qA (v,qA kv)
  | [],j,l,kv,h=>by simp[esL]at h
  |vi::r,j,l,kv,h=>by
    simp only[esL,aw]at h;rcases h with h|h
    cases hl:l j with
    |false=>rw[hl]at h;simp at h
    |true=>
      rw[hl]at h;simp only[qC,Option.mem_toList]at h;exact⟨j,vi.1,am _,hl,by simp;exact Prod.ext rfl h⟩
    obtain⟨i,v,h1,h2,h3⟩:=A0V r (j+1) l kv h;refine⟨i,v,by omega,h2, ?_⟩;have:i-j=(i-(j+1))+1:=by omega
    rw[this];simpa using h3
theorem A0U: ∀(VI:List (SV×Option (SV×SV))) (j:Nat) (l:Nat->Bool),(∀q,l q=yA-> ∀v e,VI[q-j]?=qA (v,e)->j<=q->e=none)->esL VI j l=[]
  | [],_,_,_=>rfl
  |vi::r,j,l,h=>by
    simp only[esL]
    have h1:esL r (j+1) l=[]:=A0U r (j+1) l λq hq v e he hj=>h q hq v e (by
      have:q-j=(q-(j+1))+1:=by omega
      rw[this];simpa using he) (by omega)
    rw[h1]
    cases hl:l j with
    |false=>rfl
    |true=>
      have:=h j hl vi.1 vi.2 (by simp) (am _);rw[this];rfl
theorem r0q {P:Program} {kt:Nat} {k:SV} : ∀(es:List (SV×SV)),(∀e∈es,j0K P kt k [e]=qA none)->j0K P kt k es=qA none
  | [],_=>rfl
  |e::r,h=>by
    have h1:=h e (av ..);have h2:=r0q r λx hx=>h x (ao _ hx)
    cases hq:eqS P 9 kt k e.1 with
    |none=>simp[j0K,hq]at h1
    |some b=>
      cases b with
      |true=>simp[j0K,hq]at h1
      |false=>simp only[j0K,hq];exact h2
theorem r0p {k:SV} : ∀(es:List (SV×SV)),(∀e∈es,e0A [e] k=qA none)->e0A es k=qA none
  | [],_=>rfl
  |e::r,h=>by
    have h1:=h e (av ..);have h2:=r0p r λx hx=>h x (ao _ hx)
    cases hq:e0u k e.1 with
    |none=>simp[e0A,hq]at h1
    |some b=>
      cases b with
      |true=>simp[e0A,hq]at h1
      |false=>simp only[e0A,hq];exact h2
theorem A0Q {P:Program} {kt:Nat} {k:SV} (es:List (SV×SV))(h: ∀e∈es,k0y P kt [e] k=qA none):k0y P kt es k=qA none:=by
  cases k<;>first|exact r0q es h|exact r0p es h
theorem u0b {L:LE} {t:Nat} (h:d≠qA t):lk (e0n L d v) t=lk L t:=by
  cases d with
  |none=>rfl
  |some d=>
    simp only[e0n,lk]
    cases hb:jC t d with
    |false=>rfl
    |true=>exact absurd (by rw[af hb]) h
theorem A0k {L:LE} {t:Nat} :lk (e0n L (qA t) v) t=v:=by simp[e0n,lk]
theorem l0J {t:Nat} : ∀(l:List Oper) (VI:List (SV×Option (SV×SV))) (L:LE),(∀o∈l,o.dst≠qA t)->lk (s0V l VI L) t=lk L t
  | [],VI,L,_=>by cases VI<;>rfl
  |o::r,[],L,_=>rfl
  |o::r,v::s,L,h=>by
    simp only[s0V];rw[l0J r s _ λx hx=>h x (ao _ hx),u0b (h o (av ..))]
theorem A0n {t:Nat} : ∀(l:List Oper) (VI:List (SV×Option (SV×SV))) (L:LE) (j:Nat) (o:Oper) (v:SV×Option (SV×SV)),l[j]?=qA o->o.dst=qA t->VI[j]?=qA v->(∀j' o',l[j']?=qA o'->j'≠j->o'.dst≠qA t)->lk (s0V l VI L) t=v.1
  | [],VI,L,j,o,v,h,_,_,_=>by simp at h
  |x::r,[],L,j,o,v,_,_,h,_=>by simp at h
  |x::r,y::s,L,0,o,v,h1,h2,h3,h4=>by
    simp at h1 h3;subst h1;subst h3;simp only[s0V]
    rw[l0J r s _ λz hz=>by
      obtain⟨q,hq⟩:=bo.1 hz
      exact h4 (q+1) z (by simpa using hq) (by omega),h2,A0k]
  |x::r,y::s,L,j+1,o,v,h1,h2,h3,h4=>by
    simp only[s0V];exact A0n r s _ j o v (by simpa using h1) h2 (by simpa using h3) λj' o' hj' hne=>h4 (j'+1) o' (by simpa using hj') (by omega)
def w0k(P:Program)(base kt j:Nat)(o:Oper)(v:SV)(e:Option (SV×SV))(ρ:Env):Prop:=
  o.guard=none/\((j=0/\(∃t,o.op= .makeMap t none)/\v= .mp base/\e=none)\/
    (∃t x k u et ks vs,o.op= .insert t x k u/\P.underlying t=qA (.map kt et)/\a0L ρ x=qA (.mp base)/\a0L ρ k=qA ks/\a0L ρ u=qA vs/\o.dst=none/\n0Z P kt ks=yA/\(∃ed∈o.after,oD .any ed=yA/\ed.on=0)/\v= .undef/\e=qA (ks,vs))\/
    (b0M o=oA/\a0i P o ρ=qA v/\e=none))
theorem w0K {base kt:Nat} : ∀(l:List Oper) (j:Nat) (L:LE) (VI:List (SV×Option (SV×SV))),mapLit P base kt l j L=qA VI->
    VI.length=l.length/\ ∀q o,l[q]?=qA o-> ∃v e,VI[q]?=qA (v,e)/\ ∃L',w0k P base kt (j+q) o v e (a0w L')/\ ∀t,(∀q' o',q<=q'->l[q']?=qA o'->o'.dst≠qA t)->lk (s0V l VI L) t=lk L' t
  | [],j,L,VI,h=>by
    cases h;exact⟨rfl,λq o hq=>by simp at hq⟩
  |o::r,j,L,VI,h=>by
    have key: ∀(v:SV) (e:Option (SV×SV)) (L2:LE),w0k P base kt j o v e (a0w L)->(mapLit P base kt r (j+1) (e0n L o.dst v)).map ((v,e):: ·)=qA VI->
        VI.length=(o::r).length/\ ∀q o',(o::r)[q]?=qA o'-> ∃v e,VI[q]?=qA (v,e)/\ ∃L',w0k P base kt (j+q) o' v e (a0w L')/\ ∀t,(∀q' o',q<=q'->(o::r)[q']?=qA o'->o'.dst≠qA t)->lk (s0V (o::r) VI L) t=lk L' t:=by
      intro v e _ hf hm
      cases hr:mapLit P base kt r (j+1) (e0n L o.dst v)with
      |none=>rw[hr]at hm;cases hm
      |some s=>
        rw[hr]at hm;cases hm;obtain⟨h1,h2⟩:=w0K r (j+1) _ s hr;refine⟨by simp[h1],λq o' hq=> ?_⟩
        cases q with
        |zero=>
          simp at hq;subst hq;refine⟨v,e,rfl,L,hf,λt ht=> ?_⟩;simp only[s0V]
          rw[l0J r s _ λz hz=>by
            obtain⟨q,hq⟩:=bo.1 hz
            exact ht (q+1) z (by omega) (by simpa using hq),u0b (ht 0 o (am _) rfl)]
        |succ q=>
          obtain⟨v',e',h3,L',h4,h5⟩:=h2 q o' (by simpa using hq);refine⟨v',e',by simpa using h3,L',by rw[show j+(q+1)=j+1+q by omega];exact h4,λt ht=> ?_⟩;simp only[s0V];exact h5 t λq' o'' hq' ho=>ht (q'+1) o'' (by omega) (by simpa using ho)
    unfold mapLit at h;split at h;rename_i tt hg hop
    cases hj:jC j 0 with
    |false=>rw[hj]at h;cases h
    |true=>
      rw[hj]at h;exact key _ _ L ⟨hg, .inl ⟨af hj,⟨_,hop⟩,rfl,rfl⟩⟩ h
    rename_i tt x k u hg hop;split at h;rename_i kt' et b ks vs hu hx hk hv hd
    cases hc:(jC b base&&(jC kt' kt&&(n0Z P kt ks&&o.after.toList.any λe=>oD .any e&&jC e.on 0)))with
    |false=>rw[hc]at h;cases h
    |true=>
      rw[hc]at h;simp only[aa,cg]at hc;obtain⟨c1,c2,c3,ed,c4,c5,c6⟩:=hc;have c1:=af c1;have c2:=af c2;have c6:=af c6;subst c1;subst c2;refine key .undef (qA (ks,vs)) L ⟨hg, .inr (.inl ⟨tt,x,k,u,et,ks,vs,hop,hu,hx,hk,hv,hd,c3,⟨ed,by simpa using c4,c5,c6⟩,rfl,rfl⟩)⟩ ?_;rw[hd];exact h
    cases h;rename_i hg _ _
    cases hc:b0M o with
    |true=>rw[hc]at h;cases h
    |false=>
      rw[hc]at h;simp only[vC]at h;split at h;rename_i v hv;exact key v none L ⟨hg, .inr (.inr ⟨hc,hv,rfl⟩)⟩ h;cases h
    cases h
def K0k(F:Fr)(ops:Array Oper)(VI:List (SV×Option (SV×SV)))(L:LE)(H:a0e)(listed:Array Bool)(a:Act)(w:World):Prop:=
  listed.size=ops.size/\ ∃ρ,St F ρ (bif listed.getD 0 oA then H++ [.pmap (esL VI 0 λq=>listed.getD q oA)]else H) a w/\
    (∀j o t,listed.getD j oA=yA->ops[j]?=qA o->o.dst=qA t-> ∃v,VI[j]?=qA v/\ρ t=v.1)/\
    (∀t,(∀j o,ops[j]?=qA o->listed.getD j oA=yA->o.dst≠qA t)->ρ t=lk L t)/\
    (∀j v kv,listed.getD j oA=yA->VI[j]?=qA (v,qA kv)->listed.getD 0 oA=yA)
def D0b(ops:Array Oper)(listed:Array Bool):Nat:=((wC ops.size).filter λj=> !listed.getD j oA).length
theorem g0Z (h:i<listed.size)(d:Bool):(listed.setIfInBounds i yA).getD i d=true:=by
  simp[yF,h]
theorem d0h {j:Nat} (h:i<listed.size):(listed.setIfInBounds i yA).getD j oA=if j=i then yA else listed.getD j false:=by
  by_cases hj:j=i;subst hj;rw[yB rfl];exact g0Z h oA;rw[oB hj];exact getD_set_ne oA (Ne.symm hj)
theorem v0D (h:i<listed.size):listed.getD i yA=listed.getD i false:=by simp[yF,h]
structure J0N (ops:Array Oper):Prop where
  before: ∀(j:Nat) (o:Oper),ops[j]?=qA o-> ∀e∈o.after,e.on<j
  deps: ∀(j:Nat) (o:Oper) (j':Nat) (o':Oper) (t:Nat),ops[j]?=qA o->ops[j']?=qA o'->o'.dst=qA t->Operand.tmp t∈o.op.operands-> ∃e∈o.after,oD .any e=yA/\e.on=j'
  apart: ∀(j:Nat) (o:Oper) (j':Nat) (o':Oper) (t:Nat),ops[j]?=qA o->ops[j']?=qA o'->o'.dst=qA t->j≠j'->o.dst≠qA t
theorem t0O(h:p0Y ops=yA):J0N ops:=by
  unfold p0Y at h;have hj: ∀j o,ops[j]?=qA o->j<ops.size:=λj o ho=>(ai.1 ho).1
  have main: ∀j o,ops[j]?=qA o->o.after.toList.all (λe=>jE e.on j)=yA/\ ∀j' o',ops[j']?=qA o'-> ∀t,o'.dst=qA t->(((C0b o).contains t=oA\/(o.after.toList.any λe=>oD .any e&&jC e.on j')=yA)/\(j=j'\/o.dst≠qA t)):=by
    intro j o ho;have h1:=List.all_eq_true.1 h j (bf.2 (hj j o ho));simp only[ho,aa]at h1;refine⟨h1.1,λj' o' ho' t ht=> ?_⟩;have h2:=List.all_eq_true.1 h1.2 j' (bf.2 (hj j' o' ho'));simp only[ho',ht,aa,bF]at h2;obtain⟨h3,h4⟩:=h2;refine⟨h3.imp (λe=>by simpa using e) id,h4.imp af λe hd=> ?_⟩;rw[hd]at e;simp at e
  refine⟨λj o ho e he=> ?_,λj o j' o' t ho ho' ht hm=> ?_,λj o j' o' t ho ho' ht hne=> ?_⟩;have:=List.all_eq_true.1 (main j o ho).1 e (by simpa using he);exact bL (aj this);obtain⟨h1,_⟩:=(main j o ho).2 j' o' ho' t ht;rcases h1 with h1|h1;exfalso
  have:t∈C0b o:=by
    unfold C0b;rw[List.mem_filterMap];exact⟨.tmp t,by simpa using hm,rfl⟩
  simp[this]at h1;rw[cg]at h1;obtain⟨e,he,h2⟩:=h1;simp only[aa]at h2;exact⟨e,by simpa using he,h2.1,af h2.2⟩;exact((main j o ho).2 j' o' ho' t ht).2.resolve_left hne
theorem w0L {ops:Array Oper} (hi:i<ops.size)(hs:listed.size=ops.size)(h:listed.getD i oA=oA):D0b ops (listed.setIfInBounds i yA)<D0b ops listed:=by
  unfold D0b;refine filter_lt (λj=> !listed.getD j oA) (λj=> !(listed.setIfInBounds i yA).getD j oA) (λx hx=> ?_) i (by rw[h];rfl) (by rw[g0Z (by omega)];rfl) _ (bf.2 hi);rw[d0h (by omega)]at hx;by_cases hxi:x=i;rw[yB hxi]at hx;cases hx;rw[oB hxi]at hx;exact hx
theorem K.mapLit (kt:Nat) {VI:List (SV×Option (SV×SV))} {L2:LE} (h:m0v yA c=yA)(hm:P.follows .mixedOrders=yA)(hn:H.length=n)
    (hlit:Go.Sy.mapLit P n kt (f0J c).toList 0 L=qA VI) (hst:p0Y (f0J c)=yA) (h0:(match(f0J c)[0]? with|some o=>(match o.op with| .makeMap _ none=>yA|_=>oA)|none=>oA)=yA)
    (hpair:w0H P kt VI=yA) (hes:(esL VI 0 λ_=>yA)=es) (ts:List Nat) (hL:f0K ts (s0V (f0J c).toList VI L)=L2) (k:PJ F Q .normal L2 (H++ [.pmap es])):J F P c L H Q:=by
  cases c<;>first|cases h|skip
  rename_i id ops dr;have hdr:dr=true:=by simpa [m0v]using h
  subst hdr;change Go.Sy.mapLit P n kt ops.toList 0 L=qA VI at hlit;change p0Y ops=yA at hst;change (match ops[0]? with|some o=>(match o.op with| .makeMap _ none=>yA|_=>oA)|none=>oA)=yA at h0;change f0K ts (s0V ops.toList VI L)=L2 at hL;subst hn;intro hin a w hs;simp only[b0G,qD]at hin;obtain⟨hlen,hfact⟩:=w0K _ _ _ _ hlit;have ms:=t0O hst;have hget: ∀(j:Nat) (o:Oper),ops[j]?=qA o↔ops.toList[j]?=qA o:=λj o=>by rw[cM]
  obtain⟨o0,ho0,tt0,hop0⟩: ∃o,ops[0]?=qA o/\ ∃t,o.op= .makeMap t none:=by
    split at h0;rename_i o ho;split at h0;rename_i tt hop;exact⟨o,ho,tt,hop⟩;cases h0;cases h0
  have hpos:0<ops.size:=(ai.1 ho0).1
  -- the slots behind all
  have hfin: ∀(j:Nat) (o:Oper) (t:Nat),ops[j]?=qA o->o.dst=qA t-> ∃v:SV×Option (SV×SV),VI[j]?=qA v/\lk (s0V ops.toList VI L) t=v.1:=λj o t ho ht=>by
    obtain⟨v,e,hv,_⟩:=hfact j o ((hget j o).1 ho);exact⟨(v,e),hv,A0n _ _ _ j o (v,e) ((hget j o).1 ho) ht hv λj' o' ho' hne=>ms.apart j' o' j o t ((hget j' o').2 ho') ho ht hne⟩
  have hoth: ∀(t:Nat),(∀(j:Nat) (o:Oper),ops[j]?=qA o->o.dst≠qA t)->lk (s0V ops.toList VI L) t=lk L t:=λt ht=>l0J _ _ _ λo ho=>by
    obtain⟨j,hj⟩:=bo.1 ho;exact ht j o ((hget j o).2 hj)
  refine wp_region_any hm ?_
  have step: ∀fuel listed a w,D0b ops listed<=fuel->K0k F ops VI L H listed a w->wpAny P .any ops Q fuel listed a w:=by
    have done: ∀listed a w,vE .any ops listed=[]->K0k F ops VI L H listed a w->Q .normal a w:=by
      rintro listed a w hr ⟨hsz,ρ,hst',h1,h2,_⟩
      have hall: ∀j,j<ops.size->listed.getD j oA=true:=by
        intro j
        induction j using Nat.strongRecOn with
        |_ j ih=>
          intro hj
          cases hl:listed.getD j oA with
          |true=>rfl
          |false=>
            exfalso
            have:j∈vE .any ops listed:=mem_ready.2 ⟨by rw[v0D (by omega)];exact hl,ops[j],aL hj,λe he _=>by
              have:=ms.before j ops[j] (aL hj) e he
              exact ih e.on this (by omega)⟩
            rw[hr]at this;cases this
      have hρ:ρ=a0w (s0V ops.toList VI L):=by
        funext t;by_cases ht: ∃(j:Nat) (o:Oper),ops[j]?=qA o/\o.dst=qA t;obtain⟨j,o,ho,hd⟩:=ht;obtain⟨v,hv,hv2⟩:=hfin j o t ho hd;obtain⟨v',hv',hv3⟩:=h1 j o t (hall j (ai.1 ho).1) ho hd;rw[hv]at hv';cases hv';rw[hv3];exact hv2.symm;rw[h2 t λj o ho _ hd=>ht ⟨j,o,ho,hd⟩];exact(hoth t λj o ho hd=>ht ⟨j,o,ho,hd⟩).symm
      rw[hall 0 hpos,qC,hρ]at hst'
      have hee:(esL VI 0 λq=>listed.getD q oA)=es:=by
        rw[<-hes];exact w0Y VI 0 _ _ λq _ hq=>hall q (by rw[hlen]at hq;simpa using hq)
      rw[hee]at hst';refine k a w ?_;rw[<-hL];exact Sees.keep (L:=s0V ops.toList VI L) hst' (i0H ts _)
    intro fuel
    induction fuel with
    |zero=>
      intro listed a w hle hI
      have hr:vE .any ops listed=[]:=by
        cases hrr:vE .any ops listed with
        |nil=>rfl
        |cons x xs=>
          exfalso;have hx:x∈vE .any ops listed:=by rw[hrr];simp
          obtain⟨hx1,o,ho,_⟩:=mem_ready.1 hx;have hxl:=(ai.1 ho).1;have hx2:listed.getD x oA=false:=by rw[<-v0D (by rw[hI.1];exact hxl)];exact hx1
          have:=w0L hxl hI.1 hx2;omega
      exact⟨hr,done listed a w hr hI⟩
    |succ fuel ih=>
      intro listed a w hle hI;refine⟨λhr=>done listed a w hr hI,λi hi=> ?_⟩;obtain⟨hi1,o,ho,hdep⟩:=mem_ready.1 hi;obtain⟨hsz,ρ,hst',h1,h2,h3⟩:=hI;have hil:i<ops.size:=(ai.1 ho).1;have hil':i<listed.size:=by omega
      have hiu:listed.getD i oA=false:=by rw[<-v0D hil'];exact hi1
      obtain⟨v,e,hVi,L',⟨hg,hf⟩,hagree⟩:=hfact i o ((hget i o).1 ho);rw[bh]at hf;have hbo:Oper.inB F.n ops o=true:=hin o (aD.2 (Array.mem_of_getElem? ho))
      -- its operands are what they are in the order of the text
      have hval: ∀x∈o.op.operands,a0L ρ x=a0L (a0w L') x:=by
        intro x hx
        cases x with
        |tmp t=>
          have hL':lk (s0V ops.toList VI L) t=lk L' t:=hagree t λq' o' hq ho' hd=>by
            obtain⟨ed,he,_,hon⟩:=ms.deps i o q' o' t ho ((hget q' o').2 ho') hd hx;have:=ms.before i o ho ed he;omega
          show qA (ρ t)=qA (lk L' t);rw[<-hL'];by_cases ht: ∃(j:Nat) (o:Oper),ops[j]?=qA o/\o.dst=qA t;obtain⟨j,oj,hoj,hd⟩:=ht;obtain⟨ed,he,hb,hon⟩:=ms.deps i o j oj t ho hoj hd hx;have hlj:=hdep ed he hb;rw[hon]at hlj;obtain⟨vj,hvj,hρ⟩:=h1 j oj t hlj hoj hd;obtain⟨v',hv',hv2⟩:=hfin j oj t hoj hd;rw[hvj]at hv';cases hv';rw[hρ,hv2];rw[h2 t λj o ho _ hd=>ht ⟨j,o,ho,hd⟩,hoth t λj o ho hd=>ht ⟨j,o,ho,hd⟩]
        |const c=>rfl
        |global g=>rfl
        |func f=>rfl
      have hlt:=w0L hil hsz hiu
      -- what is known behind it
      have next: ∀a' w',St F (g0R ρ o.dst v) (bif(listed.setIfInBounds i yA).getD 0 oA then H++ [.pmap (esL VI 0 λq=>(listed.setIfInBounds i yA).getD q oA)]else H) a' w'->
          (e=none\/listed.getD 0 oA=yA)->wpAny P .any ops Q fuel (listed.setIfInBounds i yA) a' w':=λa' w' hst2 hent=>by
        refine ih _ a' w' (by omega) ⟨by simpa using hsz,g0R ρ o.dst v,hst2,λj oj t hj hoj hd=> ?_,λt ht=> ?_,λj v' kv hj hv'=> ?_⟩;rw[d0h hil']at hj;by_cases hji:j=i;subst hji;rw[ho]at hoj;cases hoj;exact⟨(v,e),hVi,by rw[hd];simp[g0R,upd]⟩;rw[oB hji]at hj;obtain⟨vj,hvj,hρ⟩:=h1 j oj t hj hoj hd;refine⟨vj,hvj, ?_⟩;have hne:=ms.apart i o j oj t ho hoj hd (λe=>hji e.symm)
        cases hod:o.dst with
        |none=>exact hρ
        |some d=>
          simp only[g0R,upd];rw[oB (λe=>hne (by rw[hod,e]))];exact hρ
        · have hne:o.dst≠qA t:=ht i o ho (g0Z hil' oA)
          have:=h2 t λj oj hoj hj=>ht j oj hoj (by rw[d0h hil'];split<;>simp[hj])
          cases hod:o.dst with
          |none=>exact this
          |some d=>
            simp only[g0R,upd];rw[oB (λe=>hne (by rw[hod,e]))];exact this
        rw[d0h hil'];split;rfl;rw[d0h hil']at hj;by_cases hji:j=i;subst hji;rw[hVi]at hv';cases hv';rcases hent with h|h;cases h;exact h;rw[oB hji]at hj;exact h3 j v' kv hj hv'
      unfold wpOp;simp only[ho];have hgs:b0n ops ρ o=qA true:=by unfold b0n;rw[hg]
      rcases hf with⟨hi0,⟨tt,hop⟩,hv,he⟩|⟨tt,x,kk,u,et,ks,vs,hop,hu,hx,hk,hu2,hd,hkey,⟨ed,hed,hb0,hon0⟩,hv,he⟩|⟨hc,hv,he⟩
      · -- it makes the map
        subst hi0;subst hv;subst he;rw[hiu,vC]at hst';have hst0:=hst';obtain⟨hdef,K,D,hinv⟩:=hst';rw[b0U hinv.slots (Oper.inB_guard hbo) hgs,yB rfl];refine .inl ?_;have hev:a0E P o ρ H H.length=qA ⟨.mp H.length,[],[(H.length, .map [])]⟩\/True:= .inr trivial;have hmk:=r0m (P:=P) (a:=a) (o:=o) (t:=tt) hinv.hinv hop (idx:=H.length) (.inl rfl);obtain⟨r,w',hrun,g⟩:=hmk;unfold Oper.wp;have hset:g0i H H.length (.map [])=H++ [.map []]:=by unfold g0i;rw[oB (by omega)]
        rw[hset]at g
        have hnil:(esL VI 0 λq=>(listed.setIfInBounds 0 yA).getD q oA)=[]:=A0U VI 0 _ λq hq v' e' hv' _=>by
          rw[d0h hil']at hq;by_cases hq0:q=0;subst hq0;rw[bV,hVi]at hv';cases hv';rfl;rw[oB hq0]at hq
          cases e' with
          |none=>rfl
          |some kv=>
            exfalso;have:=h3 q v' kv hq (by simpa using hv');rw[hiu]at this;cases this
        have fin: ∀a',St F (g0R ρ o.dst (.mp H.length)) (H++ [.map []]) a' w'->wpAny P .any ops Q fuel (listed.setIfInBounds 0 yA) a' w':=λa' hs2=>by
          refine next a' w' ?_ (.inl rfl);rw[g0Z hil' oA,qC,hnil];have:=hs2.closeMap (i:=H.length) (es:=[]) (es':=[]) (by simp) (.refl _);simpa using this
        rcases hrun with hrun|⟨hrun,hr⟩;rw[hrun];exact fin _ ⟨by rw[b0g];exact hdef,hinv.step g o.dst⟩;rw[hrun];subst hr;exact fin _ ⟨by rw[b0g];exact hdef,hinv.step g o.dst⟩
      · -- it lays an entry
        subst hv;subst he;have hl0:listed.getD 0 oA=true:=by have:=hdep ed hed hb0;rw[hon0]at this;exact this
        have hi0:i≠0:=λe=>by subst e;rw[hiu]at hl0;cases hl0
        rw[hl0,qC]at hst';obtain⟨es',hp,hst2⟩:=hst'.openMap (i:=H.length) (es:=esL VI 0 λq=>listed.getD q oA) (by rw[bq (am _),Nat.sub_self];rfl);have hset2:(H++ [Ent.pmap (esL VI 0 λq=>listed.getD q oA)]).set H.length (.map es')=H++ [.map es']:=by simp
        rw[hset2]at hst2;obtain⟨hdef,K,D,hinv⟩:=hst2;rw[b0U hinv.slots (Oper.inB_guard hbo) hgs,yB rfl];refine .inl ?_;have hxo: ∀y,y=x\/y=kk\/y=u->y∈o.op.operands:=λy hy=>by rw[hop];rcases hy with rfl|rfl|rfl<;>simp[qB]
        have hfn:k0y P kt es' ks=qA none:=A0Q es' λkv hkv=>by
          obtain⟨q,vq,_,hq,hvq⟩:=A0V VI 0 _ kv (hp.mem_iff.1 hkv);rw[bV]at hvq;have hqi:q≠i:=λe=>by subst e;rw[hiu]at hq;cases hq
          have hpp:=List.all_eq_true.1 (List.all_eq_true.1 hpair i (bf.2 (ae.1 hVi).1)) q (bf.2 (ae.1 hvq).1);simp only[hVi,hvq,bF]at hpp;rcases hpp with hpp|hpp;exact absurd (af hpp).symm hqi;unfold H0F at hpp;split at hpp
          assumption
          cases hpp
        have hev:a0E P o ρ (H++ [.map es']) (H++ [Ent.map es']).length=qA ⟨.undef,[H.length],[(H.length, .map (es'++ [(ks,vs)]))]⟩:=by
          unfold a0E a0i a0p;simp only[hop];unfold g0D;rw[hu,hval x (hxo x (.inl rfl)),hval kk (hxo kk (.inr (.inl rfl))),hval u (hxo u (.inr (.inr rfl))),hx,hk,hu2];simp only[bq (am _),Nat.sub_self,cD];rw[yB hkey,hfn]
        refine v0p hinv hdef (Oper.inB_op hbo) (.inl rfl) hev λa' w' hst3=> ?_
        refine next a' w' ?_ (.inr hl0)
        have ha:b0H (H++ [Ent.map es']) [(H.length, .map (es'++ [(ks,vs)]))]=H++ [.map (es'++ [(ks,vs)])]:=by
          simp[b0H,g0i]
        rw[ha]at hst3;rw[d0h hil',oB (λe=>hi0 e.symm),hl0,qC]
        have hpp:List.Perm (es'++ [(ks,vs)]) (esL VI 0 λq=>(listed.setIfInBounds i yA).getD q oA):=by
          have h3:=A0T VI 0 i (λq=>listed.getD q oA) .undef (qA (ks,vs)) hiu (bp _) (by rw[bV];exact hVi);have h4:(esL VI 0 λq=>(listed.setIfInBounds i yA).getD q oA)=esL VI 0 λq=>if q=i then yA else listed.getD q false:=n0s VI 0 _ _ λq _=>d0h hil'
          rw[h4];exact(hp.append_right _).trans (by simpa using h3)
        have:=hst3.closeMap (i:=H.length) (es:=esL VI 0 λq=>(listed.setIfInBounds i yA).getD q oA) (by simp) hpp;simpa using this
      · -- something else
        subst he
        have hes2:(esL VI 0 λq=>(listed.setIfInBounds i yA).getD q oA)=esL VI 0 λq=>listed.getD q false:=by
          have h4:(esL VI 0 λq=>(listed.setIfInBounds i yA).getD q oA)=esL VI 0 λq=>if q=i then yA else listed.getD q false:=n0s VI 0 _ _ λq _=>d0h hil'
          rw[h4];exact w0X VI 0 i _ v (by rw[bV];exact hVi) (bp _)
        have hi0:i≠0:=λe=>by
          subst e;rw[ho0]at ho;cases ho;unfold a0i at hv;rw[hop0]at hv;cases hv
        have hv2:a0i P o ρ=qA v:=by rw[m0e hval];exact hv
        obtain⟨hdef,K,D,hinv⟩:=hst';rw[b0U hinv.slots (Oper.inB_guard hbo) hgs,yB rfl];refine .inl ?_;refine v0p hinv hdef (Oper.inB_op hbo) (.inl rfl) (ef:=⟨v,[],[]⟩) (by unfold a0E;rw[hv2]) λa' w' hst3=> ?_
        refine next a' w' ?_ (.inl rfl);rw[hes2,d0h hil',oB (λe=>hi0 e.symm)];exact hst3
  have hfalse: ∀j,(vD ops.size oA).getD j oA=false:=λj=>by
    simp only[yF];split;simp;rfl
  refine step ops.size _ a _ (az (List.length_filter_le _ _) (by simp)) ⟨by simp,a0w L, ?_,λj o t hj=> ?_,λt _=>rfl,λj v kv hj=> ?_⟩;rw[hfalse,vC];obtain⟨hd,K,D,hi⟩:=hs;exact⟨hd,K,D,⟨hi.slots.mono λ_ _=>World.drew_rep,hi.hinv.drew,hi.grow.trans (Grow.drew _ _ _ _)⟩⟩;rw[hfalse]at hj;cases hj;rw[hfalse]at hj;cases hj
def J0l(r:Option (List (SV×Option (SV×SV)))):List (SV×Option (SV×SV)):=match r with|some x=>x|none=> []
theorem K.mapLitC (kt:Nat) {L2:LE} (h:m0v yA c=yA)(hm:P.follows .mixedOrders=yA)(hn:H.length=n)
    (hlit:(Go.Sy.mapLit P n kt (f0J c).toList 0 L).isSome=yA) (hst:p0Y (f0J c)=yA) (h0:(match(f0J c)[0]? with|some o=>(match o.op with| .makeMap _ none=>yA|_=>oA)|none=>oA)=yA)
    (hpair:w0H P kt (J0l (Go.Sy.mapLit P n kt (f0J c).toList 0 L))=yA) (hes:(esL (J0l (Go.Sy.mapLit P n kt (f0J c).toList 0 L)) 0 λ_=>yA)=es) (ts:List Nat) (hL:f0K ts (s0V (f0J c).toList (J0l (Go.Sy.mapLit P n kt (f0J c).toList 0 L)) L)=L2)
    (k:PJ F Q .normal L2 (H++ [.pmap es])):J F P c L H Q:=by
  cases hr:Go.Sy.mapLit P n kt (f0J c).toList 0 L with
  |none=>rw[hr]at hlit;cases hlit
  |some VI=>
    rw[hr]at hpair hes hL;exact K.mapLit kt h hm hn hr hst h0 hpair hes ts hL k
theorem r0T {K:Type} {ek:K->SV} {ev:V->SV} (h1: ∀f a,SV.rn f (ek a)=ek a)(h2: ∀f b,SV.rn f (ev b)=ev b)(f:Nat->Nat)(ms:List (K×V)):Ent.rn f (.pmap (b0P ek ev ms))= .pmap (b0P ek ev ms):=by
  simp only[Ent.rn,b0P,bO];congr 1;exact bn λp _=>by simp[h1,h2]
theorem x0M {K:Type} {ek:K->SV} {ev:V->SV} (h1: ∀m a,SV.refs m (ek a)=yA)(h2: ∀m b,SV.refs m (ev b)=yA)(m:Nat)(ms:List (K×V)):Ent.refs m (.pmap (b0P ek ev ms))=true:=by
  simp[Ent.refs,b0P,h1,h2]
end
end
section
variable [Inhabited GT]
def v0q(P:Program)(o:Oper)(ρ:Env)(H:a0e)(idx:Nat):Option (Eff×Bool):=
  match o.op with
  | .slice t x none hi none=>match P.underlying t,a0L ρ x with
    |some (.array len e),qA (.ptr i off)=>match g0x ρ hi (len:Int)with
      |some h=>bif jE 0 (P.cellsOf e)then qA (⟨.sl i off h.toNat (P.cellsOf e),[],[]⟩,inS 0 h len)else none
      |none=>none
    |_,_=>none
  | .store t x y=>match a0L ρ x,(a0L ρ y).bind SV.cells? with
    |some (.ptr i off),qA ps=>match H[i]? with
      |some (.box cs)=>bif jC ps.length (P.cellsOf t)&&jE 0 ps.length then qA (⟨.undef,[i],[(i, .box (splice cs off ps))]⟩,oC (off+ps.length) cs.length)else none
      |_=>none
    |_,_=>none
  | .convert src dst x=>match P.underlying src,P.underlying dst,a0L ρ x with
    |some (.slice e),qA .string,qA (.sl j off n k)=>match P.underlying e,H[j]? with
      |some (.int .u8),qA (.box cs)=>bif g0P P src (.sl j off n k)&&jC k 1 then qA (⟨.str (((cs.drop off).take (n*1)).map n0w),[j],[]⟩,oC (off+n*1) cs.length&&(b0b ((cs.drop off).take (n*1))&&((cs.drop off).take (n*1)).all o0C))else none
      |_,_=>none
    |_,_,_=>none
  | .call c=>match c.callee with
    | .builtin .append=>match c.args.toList,c.argTypes.toList with
      | [x,y],[t,tx]=>match P.underlying t,a0L ρ x,a0L ρ y with
        |some (.slice e),qA .nl,qA (.sl j off n k)=>match H[j]? with
          |some (.box cs)=>bif g0P P tx (.sl j off n k)&&(jC k (P.cellsOf e)&&g0u P e (P.cellsOf e))then qA (⟨.vc idx,[j],[(idx, .vec n (P.cellsOf e) e ((cs.drop off).take (n*P.cellsOf e)))]⟩,oC (off+n*P.cellsOf e) cs.length&&(b0b ((cs.drop off).take (n*P.cellsOf e))&&x0E P e n))else none
          |_=>none
        |some (.slice e),qA (.vc i),qA (.sl j off n k)=>match H[i]?,H[j]? with
          |some (.vec n' k' e' cs'),qA (.box cs)=>bif g0P P tx (.sl j off n k)&&(jC k k'&&(jC e e'&&g0u P e k'))then qA (⟨.vc idx,[i,j],[(i, .gone),(idx, .vec (n'+n) k' e (cs'++(cs.drop off).take (n*k')))]⟩,oC (off+n*k') cs.length&&(b0b ((cs.drop off).take (n*k'))&&x0E P e (n'+n)))else none
          |_,_=>none
        |_,_,_=>none
      |_,_=>none
    |_=>none
  |_=>none
theorem s0g {H:a0e} {idx:Nat} (h:v0q P o ρ H idx=qA (ef,b))(hb:b=yA):a0E P o ρ H idx=qA ef:=by
  unfold v0q at h;split at h;rename_i t x hi ho;split at h;rename_i len e i off hu hx;split at h;rename_i hh hbd
  cases hk:jE 0 (P.cellsOf e)with
  |false=>rw[hk]at h;cases h
  |true=>
    rw[hk]at h;simp only[qC,ak,aP]at h;obtain⟨rfl,rfl⟩:=h;obtain⟨q1,q2,q3⟩:=l0i.1 hb;have hk':0<P.cellsOf e:=aj hk;unfold a0E a0i a0p;simp only[ho,hu,hx,hbd];rw[yB ⟨q2,q3,hk'⟩]
  cases h;cases h;rename_i t x y ho;split at h;rename_i i off ps h1 h2;split at h;rename_i cs h3
  cases hk:(jC ps.length (P.cellsOf t)&&jE 0 ps.length)with
  |false=>rw[hk]at h;cases h
  |true=>
    rw[hk]at h;simp only[qC,ak,aP]at h;obtain⟨rfl,rfl⟩:=h;simp only[aa]at hk;have hle:off+ps.length<=cs.length:=aj hb;unfold a0E a0i a0p;simp only[ho,h1,h2,h3,b0R];rw[yB ⟨af hk.1,aj hk.2,hle,λh=>by cases h⟩];rfl
  cases h;cases h;rename_i src dst x ho;split at h;rename_i e j off n k h1 h2 h3;split at h;rename_i cs he hj
  cases hk:(g0P P src (.sl j off n k)&&jC k 1)with
  |false=>rw[hk]at h;cases h
  |true=>
    rw[hk]at h;simp only[qC,ak,aP]at h;obtain⟨rfl,rfl⟩:=h;simp only[aa]at hk hb;have hk1:=af hk.2;subst hk1;have hle:=aj hb.1
    have hsc:s0U 1 (.sl j off n 1) H=qA (n,(cs.drop off).take (n*1),[j]):=by
      unfold s0U;simp only[hj];rw[yB ⟨trivial,hle,hb.2.1⟩]
    unfold a0E a0i a0p;simp only[ho,h1,h2,h3,he,hsc,q0w];rw[yB ⟨hk.1,hb.2.2⟩]
  cases h;cases h;rename_i c ho;split at h;rename_i hc;split at h;rename_i x y t tx ha ht;split at h;rename_i e j off n k hu hx hy;split at h;rename_i cs hj
  cases hk:(g0P P tx (.sl j off n k)&&(jC k (P.cellsOf e)&&g0u P e (P.cellsOf e)))with
  |false=>rw[hk]at h;cases h
  |true=>
    rw[hk]at h;simp only[qC,ak,aP]at h;obtain⟨rfl,rfl⟩:=h;simp only[aa]at hk hb;obtain⟨k1,k2,k3⟩:=hk;have k2:=af k2;have hle:=aj hb.1
    have hsc:x0A P e (P.cellsOf e) tx (.sl j off n k) H=qA (n,(cs.drop off).take (n*P.cellsOf e),[j]):=by
      unfold x0A;simp only[k1,if_true];unfold s0U;simp only[hj];rw[yB ⟨k2,hle,hb.2.1⟩]
    unfold a0E a0i a0p;simp only[ho,hc,w0c];unfold l0y;simp only[ha,ht,hu,hx,hy,hsc];rw[yB ⟨k3,rfl,p0g hb.2.2⟩]
  cases h;rename_i e i j off n k hu hx hy;split at h;rename_i n' k' e' cs' cs hi hj
  cases hk:(g0P P tx (.sl j off n k)&&(jC k k'&&(jC e e'&&g0u P e k')))with
  |false=>rw[hk]at h;cases h
  |true=>
    rw[hk]at h;simp only[qC,ak,aP]at h;obtain⟨rfl,rfl⟩:=h;simp only[aa]at hk hb;obtain⟨k1,k2,k3,k4⟩:=hk;have k2:=af k2;have k3:=af k3;have hle:=aj hb.1
    have hsc:x0A P e k' tx (.sl j off n k) H=qA (n,(cs.drop off).take (n*k'),[j]):=by
      unfold x0A;simp only[k1,if_true];unfold s0U;simp only[hj];rw[yB ⟨k2,hle,hb.2.1⟩]
    unfold a0E a0i a0p;simp only[ho,hc,w0c];unfold l0y;simp only[ha,ht,hu,hx,hy,hi,hsc];rw[yB ⟨k3,k4,rfl,p0g hb.2.2⟩]
  cases h;cases h;cases h;cases h;cases h
section
variable {F : Fr} {P : Program} {L : LE} {H : a0e} {Q : e0G} {m : Option Nat} {ops : Array Oper} {p : Nat} {tr : List (List Nat × List Nat)}
def z0w(P:Program)(m:Option Nat)(ops:Array Oper)(p:Nat)(tr:List (List Nat×List Nat))(L:LE)(H:a0e):Option (Option Nat×Eff×Bool×List (List Nat×List Nat)):=
  match ops.toList[p]? with
  |none=>none
  |some o=>match b0n ops (a0w L) o with
    |some yA=>bif b0M o then none else match v0q P o (a0w L) H (B0K m ops p H)with
      |some (ef,c)=>bif okM m ops p o ef tr H then qA (o.dst,ef,c,trM m ops p o ef tr)else none
      |none=>none
    |_=>none
theorem RJ.relS {c:Bool} (h:z0w P m ops p tr L H=qA (d,ef,c,tr2))(hc:c=yA)(hn:c=yA->ef=ef')(hH:b0H H ef'.wr=H2)(k:RJ F P m ops (p+1) tr2 (e0n L d ef'.v) H2 Q):RJ F P m ops p tr L H Q:=by
  unfold z0w at h;have hn':=hn hc;subst hn';subst hH;split at h;cases h;rename_i o ho;split at h;rename_i hg
  cases hcc:b0M o with
  |true=>rw[hcc]at h;cases h
  |false=>
    rw[hcc]at h;simp only[vC]at h;split at h;rename_i ef2 c2 he
    cases hok:okM m ops p o ef2 tr H with
    |false=>rw[hok]at h;cases h
    |true=>
      rw[hok]at h;simp only[qC,ak,aP]at h;obtain⟨rfl,rfl,rfl,rfl⟩:=h;exact RJ.step ho hg hcc (s0g he hc) hok k
    cases h
  cases h
end
def inP(o:Nat)(j:Int)(n:Nat):Bool:=vA (0<=j)&&vA ((o:Int)+j<n)
theorem A0F {o:Nat} :inP o j n=yA↔0<=j/\(o:Int)+j<n:=by simp[inP]
section
variable {T : Type} {enc : T -> List SV} {k : Nat}
theorem N.storeB(hk: ∀x,(enc x).length=k) {o:Nat} {xs:List T} {y:T} (h:inP o j xs.length=yA):
    (⟨v,rd,[(i, .box (splice (xs.flatMap enc) (o*k+j.toNat*k) (enc y)))]⟩:Eff)=⟨v,rd,[(i, .box ((a0W xs ((o:Int)+j) y).flatMap enc))]⟩:=by
  obtain⟨h1,h2⟩:=A0F.1 h;rw[<-cG,show o+j.toNat=((o:Int)+j).toNat by omega,t0g hk (e0T.2 ⟨by omega,h2⟩)]
theorem y0Y(hk: ∀x,(enc x).length=k) {o:Nat} {xs:List T} {y:T} (h:inP o j xs.length=yA):oC (o*k+j.toNat*k+(enc y).length) (xs.flatMap enc).length=true:=by
  obtain⟨h1,h2⟩:=A0F.1 h;rw[<-cG,show o+j.toNat=((o:Int)+j).toNat by omega];exact i0R hk (e0T.2 ⟨by omega,h2⟩)
theorem t0d(hk: ∀x,(enc x).length=k)(xs:List T)(o:Nat) {n:Int} (hn:0<=n):((xs.flatMap enc).drop (o*k)).take (n.toNat*k)=(cut xs o ((o:Int)+n)).flatMap enc:=by
  rw[l0k hk,h0B hk];unfold cut;rw[show((o:Int)+n).toNat=o+n.toNat by omega,aJ,cZ];congr 2;omega
theorem C0Z(hk: ∀x,(enc x).length=k) {xs:List T} {o:Nat} {n:Int} (h:inS o ((o:Int)+n) xs.length=yA):oC (o*k+n.toNat*k) (xs.flatMap enc).length=true:=by
  obtain⟨_,h1,h2⟩:=l0i.1 h;rw[<-cG,p0m hk,cO];exact aY k (by omega)
theorem G0p {xs:List T} {o:Nat} {n:Int} (h:inS o ((o:Int)+n) xs.length=yA):(cut xs o ((o:Int)+n)).length=n.toNat:=by
  obtain⟨_,h1,h2⟩:=l0i.1 h;simp[cut];omega
theorem x0R(hp: ∀x,b0b (enc x)=yA)(xs:List T):b0b (xs.flatMap enc)=true:=by
  induction xs with
  |nil=>rfl
  |cons x xs ih=>
    rw[ap];unfold b0b at*;rw[bU,hp x,ih];rfl
theorem H0X {o:Nat} {n:Int} {len:Nat} (h:inS o ((o:Int)+n) len=yA):0<=n:=by
  obtain⟨_,h1,_⟩:=l0i.1 h;omega
end
section
variable {T : Type} {enc : T -> List SV} {k : Nat}
theorem N.appB(hk: ∀x,(enc x).length=k) {idx e o:Nat} {xs ys:List T} {n:Int} (h:inS o ((o:Int)+n) xs.length=yA):
    (⟨v,rd,[(i, .gone),(idx, .vec (ys.length+n.toNat) k e (ys.flatMap enc++((xs.flatMap enc).drop (o*k)).take (n.toNat*k)))]⟩:Eff)=⟨v,rd,[(i, .gone),(idx, .vec (ys++cut xs o ((o:Int)+n)).length k e ((ys++cut xs o ((o:Int)+n)).flatMap enc))]⟩:=by
  rw[t0d hk xs o (H0X h),ac,G0p h,cR]
theorem G0F(hk: ∀x,(enc x).length=k)(hp: ∀x,b0b (enc x)=yA) {xs:List T} {o:Nat} {n:Int} {r:Bool} (h:inS o ((o:Int)+n) xs.length=yA)(hr:r=yA):
    (oC (o*k+n.toNat*k) (xs.flatMap enc).length&&(b0b (((xs.flatMap enc).drop (o*k)).take (n.toNat*k))&&r))=true:=by
  rw[t0d hk xs o (H0X h),C0Z hk h,x0R hp,hr];rfl
end
section
variable {F : Fr} {P : Program} {L : LE} {H : a0e} {Q : e0G} {ops : Array Oper} {p : Nat} {tr : List (List Nat × List Nat)}
end
theorem r0e(f:Nat->Nat): ∀a b:List SV,SV.rnL f (a++b)=SV.rnL f a++SV.rnL f b
  | [],b=>rfl
  |x::a,b=>by simp only[aK,SV.rnL,r0e f a b]
theorem o0y(m:Nat): ∀a b:List SV,SV.refsL m (a++b)=(SV.refsL m a&&SV.refsL m b)
  | [],b=>by simp[SV.refsL]
  |x::a,b=>by simp only[aK,SV.refsL,o0y m a b,Bool.and_assoc]
theorem r0U {enc:T->List SV} (h: ∀f x,SV.rnL f (enc x)=enc x)(f:Nat->Nat)(xs:List T):Ent.rn f (.box (xs.flatMap enc))= .box (xs.flatMap enc):=by
  simp only[Ent.rn];congr 1
  induction xs with
  |nil=>rfl
  |cons x xs ih=>rw[ap,r0e,h,ih]
theorem p0R {enc:T->List SV} (h: ∀m x,SV.refsL m (enc x)=yA)(m:Nat)(xs:List T):Ent.refs m (.box (xs.flatMap enc))=true:=by
  simp only[Ent.refs]
  induction xs with
  |nil=>rfl
  |cons x xs ih=>rw[ap,o0y,h,ih];rfl
end
theorem D0e : ∀(l:List (String×DataW Unit)) (ps:List MemPlace),DataW.LaidVars P w l ps-> ∀nm d,(nm,d)∈l->
    ∃g t cs fuel p,P.globalNamed nm=qA g/\(P.globals[g]?).map (·.type)=qA t/\w.var? P nm=qA cs/\DataW.trod (λ_=>()) P w 0 (λ_=>yA) oA fuel t cs.toList=qA (d,p):=by
  intro l
  induction l with
  |nil=>intro ps _ nm d h;simp at h
  |cons x r ih=>
    intro ps h nm d hm;obtain⟨n,d'⟩:=x;obtain⟨g,t,cs,fuel,p,q,h1,h2,h3,h4,h5,_⟩:=h;rcases aG.1 hm with e|e;cases e;exact⟨g,t,cs,fuel,p,h1,h2,h3,h4⟩;exact ih q h5 nm d e
theorem n0m {laid:List (String×DataW Unit)} (hp:(laid.all λx=>x.2.handleName?.isNone)=yA)(h:laidMetH P laid w) {nm:String} {g t e:Nat} {k:IntKind} (ns:List Int)
    (hm:(nm,DataW.agg (ns.map λz=> .lit (.int k z)))∈laid) (hg:P.globalNamed nm=qA g) (ht:(P.globals[g]?).map (·.type)=qA t) (hu:P.underlying t=qA (.array n e)) (hue:P.underlying e=qA (.int k)) (he:P.cellsOf e=1) (hct:P.cellsOf t=n):
    Rep w (KW w) (λ_=>none) (.pointer (qA ⟨g,0,none⟩)) (.ep (ns.map (SV.int k))):=by
  rw[MakeChecks.laidMetH_plain _ _ _ hp]at h;obtain⟨ps,hl,_,_⟩:=h;obtain⟨g',t',cs,fuel,p,h1,h2,h3,h4⟩:=D0e _ _ hl _ _ hm;obtain rfl:=al (hg.symm.trans h1);obtain rfl:=al (ht.symm.trans h2);obtain⟨xs,m,_,ex,hlen,hxl,hel⟩:=DataW.trod_array hu h4;rw[hct]at hlen;have e3:ns.map (λz=>(DataW.lit (.int k z):DataW Unit))=xs.map (·.1):=DataW.agg.inj (bA ex).1;have hnl:ns.length=n:=by have:=congrArg List.length e3;simpa [hxl]using this
  have hval:cs.toList=ns.map (vI k):=by
    apply bz;intro i;by_cases hi:i<n;have hE:=hel i hi;rw[he,Nat.mul_one,ag (by omega:i<xs.length)]at hE;obtain⟨z,e1,e2,_⟩:=DataW.trod_int hue hE;have e4:=congrArg (λl=>l[i]?) e3;simp only[ar,ag (by omega:i<xs.length),ag (by omega:i<ns.length),e2,aT,ak,DataW.lit.injEq,Lit.int.injEq,true_and]at e4;rw[ar,ag (by omega:i<ns.length),aT,e4];have:((cs.toList.drop i).take 1)[0]?=qA (.int k z):=by rw[e1];rfl
    rw[ba,yB (by omega),List.getElem?_drop]at this;simpa using this;rw[aE (by omega),aE (by simp;omega)]
  have hcell: ∀(j:Nat) v,(ns.map (vI k))[j]?=qA v->w.cell? ⟨g,0+j,none⟩=qA v:=λj v hj=>by
    rw[bh,World.var?_cell h1 h3 j];rw[<-hval]at hj;simpa using hj
  refine .ep g 0 (ns.map (vI k)) _ (by simp) hcell ?_ (λv hv=> ?_) ?_ (λj v c hv hc=> ?_)
  · rw[bh]
    have hsz:w.heap[g]?=none\/ ∃x,w.heap[g]?=qA x:=by cases w.heap[g]?<;>simp
    have hv3:=h3;simp only[World.var?,h1,ab]at hv3;unfold KW;split at hv3;rename_i c a b hb;rw[hb];cases hv3;have:=congrArg List.length hval;simp only[cC,cV]at this⊢;omega;cases hv3
  obtain⟨z,_,rfl⟩:=aN.1 hv;rfl;simp only[b0b,List.all_map,qD];intro z _;rfl;rw[ar]at hv hc
  cases hx:ns[j]? with
  |none=>rw[hx]at hv;cases hv
  |some z=>rw[hx]at hv hc;cases hv;cases hc;exact .int _ _
section
variable [Inhabited GT]
def csc:Code->Code| .scope a=>a|c=>c
def F0E:Code->Bool| .scope _=>yA|_=>oA
def F0F:Code->Bool| .label _=>yA|_=>oA
section
variable {F : Fr} {P : Program} {c : Code} {L : LE} {H : a0e} {Q : e0G}
theorem K.scope(h:F0E c=yA)(k:J F P (csc c) L H (Exit.noGoto Q)):J F P c L H Q:=by
  cases c<;>first|cases h|skip
  exact λhin a w hs=>wp_scope_straight (k hin a w hs)
theorem K.label(h:F0F c=yA)(k:PJ F Q .normal L H):J F P c L H Q:=by
  cases c<;>first|cases h|skip
  exact λ_ a w hs=>wp_label (k a w hs)
theorem PJ.scR(h:PJ F Q .ret L H):PJ F (Exit.noGoto Q) .ret L H:=h
end
theorem SC.byteIdx {s:List UInt8} {c:Int} (hc:b0J P f=yA)(h: ∀(b:ByteArray) (c:Int) (w:World),Calls P f #[.string b, .int .u8 c] w λe w'=>e= .returned (.int .i64 (Lib.indexByte b.data.toList c.toNat.toUInt8))/\w'=w):
    SC P f [.str s, .int .u8 c] [] (.int .i64 (Lib.indexByte s c.toNat.toUInt8)) []:=by
  refine⟨hc,λw K D vals hl hrep hi hG=> ?_⟩
  match vals,hl,hrep with
  | [x,y],_,hrep=>
    have h0:=hrep 0 x _ rfl rfl;have h1:=hrep 1 y _ rfl rfl
    cases h0 with
    |str b=>
    cases h1 with
    |int _ _=>
    refine(h b c w).mono ?_;rintro e w' ⟨he,rfl⟩;exact⟨_,he,Good.here hi (.int _ _)⟩
theorem g0t {γ:Type} {f:α->Option γ} {g:β->Option γ} {a:α} {r:γ} (h:yD f g (.inl a)=qA r):f a=qA r:=h
theorem g0s {γ:Type} {f:α->Option γ} {g:β->Option γ} {b:β} {r:γ} (h:yD f g (.inr b)=qA r):g b=qA r:=h
end
section
variable [Inhabited GT]
section
variable {F : Fr} {P : Program} {c : Code} {L : LE} {H : a0e} {Q : e0G} {ops : Array Oper} {p : Nat}
theorem kI [Inhabited T] {enc:T->List SV} {xs:List T} (d:Nat)(hk: ∀x,(enc x).length=k)(hm:inR j xs.length=yA)(kk:RJ F P none ops (p+1) [] (e0n L (qA d) (.ep (enc (nth xs j)))) H Q)
    (h:p0Q P none ops p [] L H=qA (qA d,⟨.ep (((xs.flatMap enc).drop (j.toNat*k)).take k),[],[]⟩,inR j xs.length,[]):=by kernel_rfl):RJ F P none ops p [] L H Q:=
  RJ.rel h hm (λhc=>N.idx hk hc) rfl kk
theorem kG {s:List UInt8} (d:Nat)(hm:inR j s.length=yA)(kk:RJ F P none ops (p+1) [] (e0n L (qA d) (.int .u8 (((s.getD j.toNat 0).toNat:Nat):Int))) H Q)
    (h:p0Q P none ops p [] L H=qA (qA d,⟨.int .u8 (((s.getD j.toNat 0).toNat:Nat):Int),[],[]⟩,inR j s.length,[]):=by kernel_rfl):RJ F P none ops p [] L H Q:=
  RJ.rel h hm (λ_=>rfl) rfl kk
theorem kA (d:Nat)(hs:SC P f args [] v [])(kk:RJ F P none ops (p+1) [] (e0n L (qA d) v) H Q)(h:f0G none ops p [] L []=qA (qA d,f,args,[]):=by kernel_rfl)(hr:SV.refsL 0 args=true:=by kernel_rfl)(hv:SV.refs 0 v=true:=by kernel_rfl):RJ F P none ops p [] L H Q:=by
  refine RJ.call0 h hr ?_ hs hv kk;exact LeL.refl args
theorem kB {m:Option Nat} {tr:List (List Nat×List Nat)} {X Y:α} {r:α} (d:Nat)(h:(bif b then X else Y)=r)(h1:X=r->RJ F P m ops p tr ((d, .bool yA)::L) H Q)(h2:Y=r->RJ F P m ops p tr ((d, .bool oA)::L) H Q)
    (hd:lk L d= .bool b:=by kernel_rfl):RJ F P m ops p tr L H Q:=RJ.caseB d hd (λhb=>h1 (condT hb h)) (λhb=>h2 (condF hb h))
variable {m : Option Nat} {tr tr2 : List (List Nat × List Nat)}
theorem kQ (d:Nat)(v:SV)(rd:List Nat)(hm:b=yA)(kk:RJ F P m ops (p+1) tr2 (e0n L (qA d) v) H Q)(h:p0Q P m ops p tr L H=qA (qA d,⟨v,rd,[]⟩,b,tr2):=by kernel_rfl):RJ F P m ops p tr L H Q:=RJ.rel h hm (λ_=>rfl) rfl kk
theorem kJ [Inhabited T] {enc:T->List SV} {xs:List T} (d:Nat)(hk: ∀x,(enc x).length=k)(hm:inR j xs.length=yA)(kk:RJ F P m ops (p+1) tr2 (e0n L (qA d) (.ep (enc (nth xs j)))) H Q)
    (h:p0Q P m ops p tr L H=qA (qA d,⟨.ep (((xs.flatMap enc).drop (j.toNat*k)).take k),[],[]⟩,inR j xs.length,tr2):=by kernel_rfl):RJ F P m ops p tr L H Q:=RJ.rel h hm (λhc=>N.idx hk hc) rfl kk
theorem kCG (d:Option Nat)(σ:List Nat)(hs:SC P f args0 H0 v0 H0')(kk:RJ F P none ops (p+1) [] (e0n L d v) H2 Q)(h:f0G none ops p [] L []=qA (d,f,args,[]):=by kernel_rfl)(ha:args=SV.rnL (a0Y σ) args0:=by kernel_rfl)
    (hl:σ.length=H0.length:=by kernel_rfl) (hg:σ.map (λi=>H[i]?)=H0.map (λen=>qA (Ent.rn (a0Y σ) en)):=by kernel_rfl) (hn:σ.Nodup:=by decide) (hr0:H0.all (Ent.refs H0.length)=true:=by kernel_rfl) (hlive:H0.all e0y=true:=by kernel_rfl) (hr:SV.refsL H0.length args0=true:=by kernel_rfl)
    (hle':oC H0.length H0'.length=true:=by kernel_rfl) (hv:SV.rn (gOf (a0Y σ) H0.length H.length) v0=v:=by kernel_rfl) (hH:c0E (a0Y σ) H0.length H H0'=H2:=by kernel_rfl):RJ F P none ops p [] L H Q:=
  RJ.callG σ h ha hl hg hn hr0 hlive hr (LeL.refl _) hs hle' hv hH kk
theorem kb(i:Nat)(k:J F P (cb c) L H (vF i Q))(h:A0B i c=true:=by kernel_rfl):J F P c L H Q:=K.block i h k
theorem kl {step:S->Option (S⊕O)} {s0:S} {o:O} (R:S->LE×a0e)(ho:a0B step n s0=qA o)(ts:List Nat)(body: ∀s x,step s=qA x->J F P (cp c) (R s).1 (R s).2 (n0d F R Q o x))(h:A0z c=true:=by kernel_rfl)(hL:f0K ts L=(R s0).1:=by kernel_rfl)(hH:H=(R s0).2:=by kernel_rfl):J F P c L H Q:=
  K.loop h R ho ts hL hH body
end
end
end Go.Sy
