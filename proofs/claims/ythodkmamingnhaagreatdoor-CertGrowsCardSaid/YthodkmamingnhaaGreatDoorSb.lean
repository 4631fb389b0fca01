import Derived.Still
import Derived.KernelRfl
import Derived.ProofKit
import Derived.SizedLaws
import Derived.OpenShut
import Derived.Laws.Cover3
import Derived.Laws.IdiomRangeMap
import Derived.MakeChecks
import Derived.ChangeArms
import Derived.FnData
import Derived.Scope
import Derived.Lib.Bytealg
import Derived.Laws.Externs
import Derived.Test.YthodkmamingnhaaGreatDoorSa
set_option linter.all false
namespace Go.Sy
open Go Go.RowKit
section
variable [Inhabited GT]
def c0U(o:Oper):Bool:=
  match o.op with
  | .box _ _=>true
  | .alloc _=>true
  | .buildSlice _ _ _=>true
  | .makeSlice _ _ _=>true
  | .makeMap _ _=>true
  | .call c=>match c.callee with
    | .builtin .append=>true
    | .value _=>true
    |_=>false
  |_=>false
theorem h0r {o:Oper} (h:b0T o=true):c0U o=true:=by
  unfold b0T at h
  unfold c0U
  split at h
  rename_i c ho
  split at h
  rename_i f hf
  simp[ho,hf]
  cases h
  cases h
def e0c(ops:Array Oper)(base i:Nat):Nat:=base+((ops.toList.take i).filter c0U).length
def a0I(H:a0f):List (Nat×Ent)->a0f
  | []=>H
  |(i,en)::r=>a0I (H.set i en) r
def h0v(o:Oper):Bool:=
  match o.op with
  | .indexAddr _ _ _=>true
  | .call c=>match c.callee with
    | .builtin .len=>true
    |_=>false
  |_=>false
def h0Y(o:Oper):Bool:=
  match o.op with
  | .store _ _ _=>true
  |_=>false
def w0W(x:Nat):List Nat:=[2*x,2*x+1]
def f0D(o:Oper)(ef:Eff):List Nat:=bif h0v o then ef.rd.map (λx=>2*x+1)else ef.rd.flatMap w0W
def e0D(ops:Array Oper)(base i:Nat)(o:Oper)(ef:Eff):List Nat:=(bif h0Y o then ef.wr.map (λx=>2*x.1)else ef.wr.flatMap λx=>w0W x.1)++(if c0U o then w0W (e0c ops base i)else [])
def j0b(a b:Option Ent):Prop:=a=b\/(∃n k e cs cs',a=some (.vec n k e cs)/\b=some (.vec n k e cs'))\/ ∃cs cs',a=some (.box cs)/\b=some (.box cs')
theorem q0U {ops:Array Oper} {base i:Nat} {o:Oper} {ef:Eff} {x:Nat} (h:x∈ef.wr.map Prod.fst):2*x∈e0D ops base i o ef:=by
  obtain⟨y,hy,rfl⟩:=aR.1 h
  unfold e0D
  refine av.2 (.inl ?_)
  cases h0Y o with
  |true=>exact aR.2 ⟨y,hy,rfl⟩
  |false=>exact cm.2 ⟨y,hy,by simp[w0W]⟩
theorem B0u {ops:Array Oper} {base i:Nat} {o:Oper} {ef:Eff} {x:Nat} (hs:h0Y o=false)(h:x∈ef.wr.map Prod.fst):2*x+1∈e0D ops base i o ef:=by
  obtain⟨y,hy,rfl⟩:=aR.1 h
  unfold e0D
  refine av.2 (.inl ?_)
  rw[hs]
  exact cm.2 ⟨y,hy,by simp[w0W]⟩
theorem t0h {ops:Array Oper} {base i:Nat} {o:Oper} {ef:Eff} (h:c0U o=true):2*e0c ops base i∈e0D ops base i o ef:=by
  unfold e0D
  rw[if_pos h]
  exact av.2 (.inr (by simp[w0W]))
theorem m0b {o:Oper} {ef:Eff} {x:Nat} (hs:h0v o=false)(h:x∈ef.rd):2*x∈f0D o ef:=by
  unfold f0D
  rw[hs]
  exact cm.2 ⟨x,h,by simp[w0W]⟩
theorem A0T {o:Oper} {ef:Eff} {x:Nat} (h:x∈ef.rd):2*x+1∈f0D o ef:=by
  unfold f0D
  cases h0v o with
  |true=>exact aR.2 ⟨x,h,rfl⟩
  |false=>exact cm.2 ⟨x,h,by simp[w0W]⟩
theorem q0w {P:Program} {o:Oper} {ρ ρ':Env} {H H':a0f} {idx:Nat} {ef:Eff} (hs:h0v o=true)(h: ∀x∈o.op.operands,a0F ρ x=a0F ρ' x)(he:a0E P o ρ H idx=some ef)(hr: ∀i∈ef.rd,j0b (H'[i]?) (H[i]?)):a0E P o ρ' H' idx=some ef:=by
  have hloc:a0E P o ρ' H idx=some ef:=j0n h he (λ_ _=>rfl)
  clear he h
  unfold a0E at hloc⊢
  split
  rename_i v hv
  rw[hv]at hloc
  exact hloc
  rename_i hv
  rw[hv]at hloc
  simp only at hloc
  unfold h0v at hs
  split at hs
  rename_i t x y ho
  simp only[a0q,ho]at hloc⊢
  split at hloc
  rename_i e i kk j h1 h2 h3
  split at hloc
  rename_i n k e' cs hH
  split at hloc
  rename_i hc
  cases hloc
  rcases hr i (by simp)with hq|⟨n',k',e2,cs1,cs2,q1,q2⟩|⟨cs1,cs2,q1,q2⟩
  rw[hq,hH];simp only;rw[if_pos hc]
  rw[hH]at q2;cases q2
  rw[q1];simp only;rw[if_pos hc]
  rw[hH]at q2;cases q2
  cases hloc
  cases hloc
  cases hloc
  rename_i c ho
  split at hs
  rename_i hc
  simp only[a0q,ho,hc]at hloc⊢
  split at hloc
  rename_i x t h1 h2
  split at hloc
  rename_i e i h3 h4
  split at hloc
  rename_i n k e' cs hH
  cases hloc
  rcases hr i (by simp)with hq|⟨n',k',e2,cs1,cs2,q1,q2⟩|⟨cs1,cs2,q1,q2⟩
  rw[hq,hH]
  rw[hH]at q2;cases q2
  rw[q1]
  rw[hH]at q2;cases q2
  cases hloc
  cases hloc
  cases hloc
  cases hs
  cases hs
def m0P(r1 w1 r2 w2:List Nat):Bool:=w1.all (λx=> !r2.contains x&& !w2.contains x)&&w2.all (λx=> !r1.contains x)
def C0A(P:Program)(ρ:Env)(o:Oper)(H:a0f)(ef:Eff):Prop:=
  ∃f args g args0 H0 v0,e0B ρ o=some (f,args)/\args=SV.rnL g args0/\Sel H g H0/\(∀en∈H0,f0z en=true)/\SV.refsL H0.length args0=true/\SV.refs H0.length v0=true/\SC P f args0 H0 v0 H0/\
    ef=⟨SV.rn g v0,(List.range H0.length).map g,[]⟩
def C0B(P:Program)(ρ:Env)(o:Oper)(H:a0f)(idx:Nat)(ef:Eff):Prop:=
  ∃f args v0 en0,e0B ρ o=some (f,args)/\SV.refsL 0 args=true/\SC P f args [] v0 [en0]/\(H[idx]?=some .res/\ ∀g,Ent.rn g en0=en0)/\ef=⟨SV.rn (λ_=>idx) v0,[],[(idx,en0)]⟩
def k0E(g:Nat->Nat)(n:Nat)(H0':a0f):List (Nat×Ent):=(List.range n).map λj=>(g j,Ent.rn g (H0'.getD j .gone))
def C0z(P:Program)(ρ:Env)(o:Oper)(H:a0f)(ef:Eff):Prop:=
  ∃f args g args0 H0 v0 H0',e0B ρ o=some (f,args)/\args=SV.rnL g args0/\Sel H g H0/\(∀en∈H0,f0z en=true)/\SV.refsL H0.length args0=true/\SV.refs H0.length v0=true/\SC P f args0 H0 v0 H0'/\
    H0'.length=H0.length/\(∀(j:Nat) (en:Ent),H0'[j]?=some en->Ent.refs H0.length en=true)/\ef=⟨SV.rn g v0,(List.range H0.length).map g,k0E g H0.length H0'⟩
def pOf(f:Nat->Nat)(m idx:Nat):Nat->Nat:=λj=>if j<m then f j else idx
def C0y(P:Program)(ρ:Env)(o:Oper)(H:a0f)(idx:Nat)(ef:Eff):Prop:=
  ∃f args g args0 H0 v0 H0',e0B ρ o=some (f,args)/\args=SV.rnL g args0/\Sel H g H0/\(∀en∈H0,f0z en=true)/\SV.refsL H0.length args0=true/\SC P f args0 H0 v0 H0'/\
    H0'.length=H0.length+1/\H[idx]?=some .res/\ef=⟨SV.rn (pOf g H0.length idx) v0,(List.range H0.length).map g,k0E (pOf g H0.length idx) (H0.length+1) H0'⟩
def C0x(P:Program)(ρ:Env)(o:Oper)(H:a0f)(idx:Nat)(ef:Eff):Prop:=
  ∃f args g args0 H0 v0 en0,e0B ρ o=some (f,args)/\args=SV.rnL g args0/\Sel H g H0/\(∀en∈H0,f0z en=true)/\SV.refsL H0.length args0=true/\SC P f args0 H0 v0 (H0++ [en0])/\
    H[idx]?=some .res/\ef=⟨SV.rn (pOf g H0.length idx) v0,(List.range H0.length).map g,[(idx,Ent.rn (pOf g H0.length idx) en0)]⟩
def B0O(P:Program)(ρ:Env)(o:Oper)(H:a0f)(idx:Nat)(ef:Eff):Prop:=C0A P ρ o H ef\/C0B P ρ o H idx ef\/C0z P ρ o H ef\/C0y P ρ o H idx ef\/C0x P ρ o H idx ef
def opD(P:Program)(ops:Array Oper)(base i:Nat)(o:Oper)(ρ:Env)(H:a0f)(ef:Eff):Prop:=
  match b0i ops ρ o with
  |some true=>if b0T o then B0O P ρ o H (e0c ops base i) ef else
      (a0E P o ρ H (e0c ops base i)=some ef\/(j0o P o ρ H (e0c ops base i)=some ef/\c0U o=true))/\(c0U o=true->H[e0c ops base i]?=some .res)/\ ∀x∈ef.wr,x.1<H.length
  |some false=>ef=⟨.tup [],[],[]⟩
  |none=>False
def i0B(o:Oper)(rd fw:List Nat):List (List Nat×List Nat)->Nat->Bool
  | [],_=>true
  |(r',w')::r,j=>(o.after.any (λe=>Region.binds .any e&&e.on==j)||m0P r' w' rd fw)&&i0B o rd fw r (j+1)
def u0I(P:Program)(ops:Array Oper)(base:Nat):List (List Nat×List Nat)->List Oper->(Env->a0f->Prop)->Env->a0f->Prop
  |_,[],K,ρ,H=>K ρ H
  |tr,o::rest,K,ρ,H=> ∃ef,opD P ops base tr.length o ρ H ef/\i0B o (f0D o ef) (e0D ops base tr.length o ef) tr 0=true/\u0I P ops base (tr++ [(f0D o ef,e0D ops base tr.length o ef)]) rest K (j0e ρ o.dst ef.v) (a0I H ef.wr)
theorem SC.place {P:Program} {f:FuncId} {args:List SV} {v0:SV} {en0:Ent} {H:a0f} {idx:Nat} (h:SC P f args [] v0 [en0])(hr:SV.refsL 0 args=true)(hres:H[idx]?=some .res)(hE: ∀g,Ent.rn g en0=en0):
    SC P f args H (SV.rn (λ_=>idx) v0) (H.set idx en0):=by
  refine⟨h.1,λw K D vals hlen hrep hi hG=> ?_⟩
  have hil:idx<H.length:=(ab.1 hres).1
  have hDi:D idx=none:=hi.ent idx _ hres
  have hsel:Sel H (λj=>j) []:=⟨λj en hj=>by simp at hj,λi j hi=>by simp at hi,λj en hj=>by simp at hj⟩
  have hrn: ∀(s:SV),SV.refs 0 s=true->SV.rn (λj=>j) s=SV.rn (λj=>j) s:=λ_ _=>rfl
  refine(h.2 w K (i0F D (λj=>j) 0) vals hlen (λj x c hx hc=> ?_) (hsel.hinv hi) (g0F hG)).mono ?_
  have hc0:=d0M hr j c hc
  have hid: ∀s,SV.refs 0 s=true->Rep w K D x s->Rep w K (i0F D (λj=>j) 0) x s:=by
    intro s hs hx
    have hu:=j0d (D':=D) (g:=λj=>j) hx (λ_ _ e=>e)
    exact f0e hu s rfl hs
  exact hid c hc0 (hrep j x c hx hc)
  rintro ex w' ⟨r,he,K',Ds,g,hi',hrr⟩
  have nomem: ∀b,¬Mem (i0F D (λj=>j) 0) [] b:=by rintro b ⟨i,en,c,n,h1,_⟩;simp at h1
  have hDs: ∀j x,Ds j=some x->(λi=>if i=idx then Ds 0 else D i) idx=some x:=by
    intro j x hx
    cases j with
    |zero=>simpa using hx
    |succ j=>rw[hi'.dom (j+1) (by simp)]at hx;cases hx
  have hnewb: ∀b c m,f0z en0=true->Ds 0=some (.at b c m)->w.heap.size<=b:=λb c m hlv hd=>by
    rcases g.new b ⟨0,_,c,m,rfl,hlv,hd⟩with h1|h1
    exact absurd h1 (nomem b)
    exact h1
  have hget: ∀i en,(H.set idx en0)[i]?=some en->(i=idx/\en=en0)\/(i≠idx/\H[i]?=some en):=by
    intro i en hie
    rw[aL]at hie
    by_cases hii:idx=i
    subst hii
    rw[if_pos rfl,if_pos hil]at hie
    cases hie
    exact .inl ⟨rfl,rfl⟩
    rw[if_neg hii]at hie
    exact .inr ⟨Ne.symm hii,hie⟩
  refine⟨r,he,K',λi=>if i=idx then Ds 0 else D i,⟨g.os,g.tape,g.output,g.size,λb hb _=>g.block b hb (nomem b),g.cells,g.le,λb hb _=>g.kk b hb (nomem b),λi x hx=> ?_,λb hm=> ?_⟩,
    ⟨λi hle=> ?_,λi en hie=> ?_,λi j en en' b c m c' m' hie hje hl hl' hd hd'=> ?_,hi'.kw⟩,j0d hrr hDs⟩
  by_cases hii:i=idx
  subst hii;rw[hDi]at hx;cases hx
  simp only[if_neg hii];exact hx
  obtain⟨i,en,c,m,h1,h2,h3⟩:=hm
  rcases hget i en h1 with⟨rfl,rfl⟩|⟨hne,h4⟩
  simp only[if_pos rfl]at h3
  exact .inr (hnewb b c m h2 h3)
  simp only[if_neg hne]at h3
  exact .inl ⟨i,en,c,m,h4,h2,h3⟩
  simp only[List.length_set]at hle
  simp only[if_neg (show i≠idx by omega)]
  exact hi.dom i hle
  rcases hget i en hie with⟨rfl,rfl⟩|⟨hne,h4⟩
  have h9:=w0x (D':=λq=>if q=i then Ds 0 else D q) (g:=λ_=>i) (hi'.ent 0 _ rfl) hDs (λhn=>by simpa using hn)
  rw[hE]at h9
  exact h9
  refine(hi.ent i en h4).keep (λv s hr0=>hr0.mono g.cells g.le (λq x hx=>by
      by_cases hqi:q=idx
      subst hqi;rw[hDi]at hx;cases hx
      simp only[if_neg hqi];exact hx)) (by simp only[if_neg hne]) (λb c m hl hd=> ?_)
  have hb:=(h0M hi ⟨i,en,c,m,h4,hl,hd⟩).1
  exact⟨g.block b hb (nomem b),g.kk b hb (nomem b)⟩
  · rcases hget i en hie with⟨rfl,rfl⟩|⟨hne,h4⟩<;>rcases hget j en' hje with⟨rfl,rfl⟩|⟨hne',h4'⟩
    rfl
    exfalso
    simp only[if_pos rfl]at hd
    simp only[if_neg hne']at hd'
    have h1:=hnewb b c m hl hd
    have h2:=(h0M hi ⟨j,en',c',m',h4',hl',hd'⟩).1
    omega
    exfalso
    simp only[if_neg hne]at hd
    simp only[if_pos rfl]at hd'
    have h1:=hnewb b c' m' hl' hd'
    have h2:=(h0M hi ⟨i,en,c,m,h4,hl,hd⟩).1
    omega
    simp only[if_neg hne]at hd
    simp only[if_neg hne']at hd'
    exact hi.inj i j en en' b c m c' m' h4 h4' hl hl' hd hd'
section
variable {P : Program} {ops : Array Oper} {base : Nat} {md : Region.Mode}
theorem d0l: ∀(wr:List (Nat×Ent)) (H:a0f),(a0I H wr).length=H.length
  | [],H=>rfl
  |(i,en)::r,H=>by simp[a0I,d0l r]
theorem l0K: ∀(wr:List (Nat×Ent)) (H:a0f),(∀x∈wr,x.1<H.length)->b0t H wr=a0I H wr
  | [],H,_=>rfl
  |(i,en)::r,H,h=>by
    simp only[b0t,a0I]
    have hi:=h (i,en) (ar ..)
    have:g0m H i en=H.set i en:=by unfold g0m;rw[if_pos hi]
    rw[this]
    exact l0K r _ (λx hx=>by rw[List.length_set];exact h x (am _ hx))
theorem j0R: ∀(wr:List (Nat×Ent)) (H:a0f) (i:Nat),i∉wr.map Prod.fst->(a0I H wr)[i]?=H[i]?
  | [],H,i,_=>rfl
  |(j,en)::r,H,i,h=>by
    simp only[aj,aO,not_or]at h
    simp only[a0I]
    rw[j0R r _ i h.2,aL,if_neg (Ne.symm h.1)]
theorem o0l: ∀(wr:List (Nat×Ent)) (H:a0f) (i:Nat) (en:Ent),i∉wr.map Prod.fst->a0I (H.set i en) wr=(a0I H wr).set i en
  | [],H,i,en,_=>rfl
  |(j,en')::r,H,i,en,h=>by
    simp only[aj,aO,not_or]at h
    simp only[a0I]
    rw[List.set_comm _ _ h.1,o0l r _ i en h.2]
theorem k0Y: ∀(w1 w2:List (Nat×Ent)) (H:a0f),(∀x∈w1.map Prod.fst,x∉w2.map Prod.fst)->a0I (a0I H w1) w2=a0I (a0I H w2) w1
  | [],w2,H,_=>rfl
  |(i,en)::r,w2,H,h=>by
    simp only[a0I]
    have h1:=h i (by simp)
    rw[k0Y r w2 _ (λx hx=>h x (by simp[hx])),o0l w2 H i en h1]
theorem o0E {r1 w1 r2 w2:List Nat} (h:m0P r1 w1 r2 w2=true):(∀x∈w1,x∉r2/\x∉w2)/\ ∀x∈w2,x∉r1/\x∉w1:=by
  simp only[m0P,aa,List.all_eq_true,ci,List.contains_eq_mem,decide_eq_false_iff_not]at h
  exact⟨λx hx=>h.1 x hx,λx hx=>⟨h.2 x hx,λh1=>(h.1 x h1).2 hx⟩⟩
theorem h0X {ρ:Env} {d:Option Tmp} {v:SV} {x:Operand} (h: ∀t,d=some t->x≠ .tmp t):a0F (j0e ρ d v) x=a0F ρ x:=by
  cases d with
  |none=>rfl
  |some t=>
    cases x with
    |tmp u=>
      have hne:u≠t:=λe=>h t rfl (by rw[e])
      simp[a0F,j0e,upd,hne]
    |_=>rfl
theorem g0L {o:Oper} {ρ:Env} {d:Option Tmp} {v:SV} (h: ∀t,d=some t->t∉o.looksAt ops):b0i ops (j0e ρ d v) o=b0i ops ρ o:=by
  unfold b0i
  cases hg:o.guard with
  |none=>rfl
  |some p=>
    obtain⟨j,want⟩:=p
    simp only
    cases hd:(ops[j]?).bind (·.dst)with
    |none=>rfl
    |some e=>
      simp only
      cases d with
      |none=>rfl
      |some t=>
        have hne:e≠t:=λhe=>h t rfl (by
          unfold Oper.looksAt
          rw[hg]
          simp only[hd]
          exact av.2 (.inr (by simp[he])))
        simp[j0e,upd,hne]
theorem r0z {o:Oper} {ρ:Env} {H:a0f} {idx:Nat} {ef:Eff} (hs:h0Y o=true)(he:a0E P o ρ H idx=some ef)(x:Nat):j0b ((a0I H ef.wr)[x]?) (H[x]?):=by
  unfold h0Y at hs
  split at hs
  rename_i t a b ho
  unfold a0E at he
  split at he
  cases he;exact .inl rfl
  simp only[a0q,ho]at he
  split at he
  rename_i i off ps h1 h2
  split at he
  rename_i en hH
  split at he
  rename_i cs hcs
  split at he
  cases he
  simp only[a0I]
  rw[aL]
  by_cases hxi:i=x
  subst hxi
  have hil:=(ab.1 hH).1
  rw[if_pos rfl,if_pos hil,hH]
  cases en with
  |vec n k e cs0=>exact .inr (.inl ⟨n,k,e,_,cs0,rfl,rfl⟩)
  |box cs0=>exact .inr (.inr ⟨_,cs0,rfl,rfl⟩)
  |res=>simp[b0F]at hcs
  |gone=>simp[b0F]at hcs
  |map es=>simp[b0F]at hcs
  |itr m n s=>simp[b0F]at hcs
  |lop tm ps as bd st pd=>simp[b0F]at hcs
  |dfr=>simp[b0F]at hcs
  |pmap es=>simp[b0F]at hcs
  rw[if_neg hxi];exact .inl rfl
  cases he
  cases he
  cases he
  cases he
  cases hs
theorem d0G {o:Oper} {t:Tmp} (h:t∉o.looksAt ops) {x:Operand} (hx:x∈o.op.operands):x≠ .tmp t:=by
  intro e
  subst e
  refine h (av.2 (.inl (List.mem_filterMap.2 ⟨.tmp t,aC.2 hx,rfl⟩)))
theorem g0i {o:Oper} {ρ ρ':Env} (h: ∀x∈o.op.operands,a0F ρ x=a0F ρ' x):e0B ρ o=e0B ρ' o:=by
  unfold e0B
  split
  rename_i c ho
  unfold n0a
  split
  rename_i f hf
  rw[h f (by simp[ho,Op.operands,Call.operands,hf])]
  rw[m0f c.args.toList (λx hx=>h x (by simp only[ho,Op.operands,Call.operands];exact bw.2 (.inr (aC.1 hx))))]
  rfl
  rfl
theorem f0U {o:Oper} (h:b0T o=true):h0v o=false:=by
  unfold b0T at h
  unfold h0v
  split at h
  rename_i c ho
  split at h
  rename_i f hf
  simp[ho,hf]
  cases h
  cases h
theorem m0s {o:Oper} (h:c0U o=true):h0v o=false:=by
  unfold c0U at h
  unfold h0v
  cases ho:o.op<;>rw[ho]at h<;>simp only at h⊢ <;>first|rfl|(cases h;done)|skip
  rename_i c
  split at h<;>rename_i hc<;>first|(cases h;done)|simp[hc]
theorem h0R {o:Oper} (h:c0U o=true):h0Y o=false:=by
  unfold c0U at h
  unfold h0Y
  cases ho:o.op<;>rw[ho]at h<;>simp only at h⊢ <;>first|rfl|(cases h;done)
theorem o0g {o:Oper} (h:b0T o=true):h0Y o=false:=h0R (h0r h)
theorem l0r {i:Nat} {o:Oper} {ρ:Env} {H:a0f} {ef:Eff} (h:opD P ops base i o ρ H ef):
    (∀x,2*x∉e0D ops base i o ef->(a0I H ef.wr)[x]?=H[x]?)/\ ∀x,2*x+1∉e0D ops base i o ef->j0b ((a0I H ef.wr)[x]?) (H[x]?):=by
  refine⟨λx hx=>j0R _ _ _ (λhm=>hx (q0U hm)),λx hx=> ?_⟩
  cases hst:h0Y o with
  |false=>exact .inl (j0R _ _ _ (λhm=>hx (B0u hst hm)))
  |true=>
    unfold opD at h
    split at h
    split at h
    rename_i hc
    rw[o0g hc]at hst;cases hst
    rcases h.1 with h1|h1
    exact r0z hst h1 x
    rw[h0R h1.2]at hst;cases hst
    subst h;exact .inl rfl
    exact h.elim
theorem j0p {i:Nat} {o:Oper} {ρ ρ':Env} {H H':a0f} {ef:Eff} (hv: ∀x∈o.op.operands,a0F ρ x=a0F ρ' x)(hg:b0i ops ρ o=b0i ops ρ' o)(hl:H'.length=H.length)
    (hA: ∀x,2*x∈f0D o ef\/2*x∈e0D ops base i o ef->H'[x]?=H[x]?) (hB: ∀x,2*x+1∈f0D o ef->j0b (H'[x]?) (H[x]?)) (h:opD P ops base i o ρ H ef):opD P ops base i o ρ' H' ef:=by
  unfold opD at h⊢
  rw[<-hg]
  split
  rename_i hgt
  rw[hgt]at h
  simp only at h
  split
  rename_i hc
  rw[if_pos hc]at h
  rcases h with h|h|h|h|h
  obtain⟨f,args,g,args0,H0,v0,h1,h2,h3,h4,h5,h6,h7,h8⟩:=h
  refine .inl ⟨f,args,g,args0,H0,v0,by rw[<-g0i hv];exact h1,h2,⟨λj en hj=> ?_,h3.inj,h3.refs⟩,h4,h5,h6,h7,h8⟩
  rw[hA (g j) (.inl (m0b (f0U hc) (by rw[h8];exact aR.2 ⟨j,aV.2 (ab.1 hj).1,rfl⟩)))]
  exact h3.get j en hj
  obtain⟨f,args,v0,en0,h1,h2,h3,⟨h4,hE⟩,h5⟩:=h
  refine .inr (.inl ⟨f,args,v0,en0,by rw[<-g0i hv];exact h1,h2,h3,⟨?_,hE⟩,h5⟩)
  rw[hA _ (.inr (t0h (h0r hc)))]
  exact h4
  obtain⟨f,args,g,args0,H0,v0,H0',h1,h2,h3,h4,h5,h6,h7,hl2,hr2,h8⟩:=h
  refine .inr (.inr (.inl ⟨f,args,g,args0,H0,v0,H0',by rw[<-g0i hv];exact h1,h2,⟨λj en hj=> ?_,h3.inj,h3.refs⟩,h4,h5,h6,h7,hl2,hr2,h8⟩))
  rw[hA (g j) (.inl (m0b (f0U hc) (by rw[h8];exact aR.2 ⟨j,aV.2 (ab.1 hj).1,rfl⟩)))]
  exact h3.get j en hj
  obtain⟨f,args,g,args0,H0,v0,H0',h1,h2,h3,h4,h5,h7,hl2,hres,h8⟩:=h
  refine .inr (.inr (.inr (.inl ⟨f,args,g,args0,H0,v0,H0',by rw[<-g0i hv];exact h1,h2,⟨λj en hj=> ?_,h3.inj,h3.refs⟩,h4,h5,h7,hl2, ?_,h8⟩)))
  rw[hA (g j) (.inl (m0b (f0U hc) (by rw[h8];exact aR.2 ⟨j,aV.2 (ab.1 hj).1,rfl⟩)))]
  exact h3.get j en hj
  rw[hA _ (.inr (t0h (h0r hc)))]
  exact hres
  obtain⟨f,args,g,args0,H0,v0,en0,h1,h2,h3,h4,h5,h7,hres,h8⟩:=h
  refine .inr (.inr (.inr (.inr ⟨f,args,g,args0,H0,v0,en0,by rw[<-g0i hv];exact h1,h2,⟨λj en hj=> ?_,h3.inj,h3.refs⟩,h4,h5,h7, ?_,h8⟩)))
  rw[hA (g j) (.inl (m0b (f0U hc) (by rw[h8];exact aR.2 ⟨j,aV.2 (ab.1 hj).1,rfl⟩)))]
  exact h3.get j en hj
  rw[hA _ (.inr (t0h (h0r hc)))]
  exact hres
  rename_i hc
  rw[if_neg hc]at h
  obtain⟨h1,h2,h3⟩:=h
  refine⟨h1.imp (λh1=> ?_) (λh1=>⟨v0B hv h1.1 hl (λx hx=>hA x (.inl (m0b (m0s h1.2) hx))),h1.2⟩),λhcr=> ?_,λx hx=>by rw[hl];exact h3 x hx⟩
  cases hso:h0v o with
  |true=>exact q0w hso hv h1 (λx hx=>hB x (A0T hx))
  |false=>exact j0n hv h1 (λx hx=>hA x (.inl (m0b hso hx)))
  rw[hA _ (.inr (t0h hcr))]
  exact h2 hcr
  rename_i hgf
  rw[hgf]at h
  exact h
  rename_i hgn
  rw[hgn]at h
  exact h
theorem s0T {ρ:Env} {d e:Option Tmp} {u v:SV} (h: ∀t,d=some t->e≠some t):j0e (j0e ρ d u) e v=j0e (j0e ρ e v) d u:=by
  cases d with
  |none=>rfl
  |some t=>
    cases e with
    |none=>rfl
    |some s=>
      have hne:t≠s:=λhe=>h t rfl (by rw[he])
      funext i
      simp only[j0e,upd]
      split
      rename_i h1;subst h1;rw[if_neg (Ne.symm hne)]
      rfl
def z0d(P:Program)(md:Region.Mode)(ops:Array Oper)(base:Nat)(effs:List Eff)(K:Env->a0f->Prop):Nat->Array Bool->Env->a0f->Prop
  |0,listed,ρ,H=>Region.ready md ops listed=[]/\K ρ H
  |fuel+1,listed,ρ,H=>(Region.ready md ops listed=[]->K ρ H)/\
    ∀i∈Region.ready md ops listed,∃o ef,ops[i]?=some o/\effs[i]?=some ef/\opD P ops base i o ρ H ef/\z0d P md ops base effs K fuel (listed.setIfInBounds i true) (j0e ρ o.dst ef.v) (a0I H ef.wr)
theorem u0r {effs:List Eff} {K:Env->a0f->Prop} {i:Nat} {oi:Oper} {ei:Eff} (hi:ops[i]?=some oi)(hei:effs[i]?=some ei): ∀(fuel:Nat) (listed:Array Bool) (ρ:Env) (H:a0f),
    (∀j oj ej,ops[j]?=some oj->effs[j]?=some ej->j≠i->listed.getD j true=false->(∀e∈oj.after,Region.binds md e=true->e.on≠i)->oi.apart ops oj=true/\m0P (f0D oi ei) (e0D ops base i oi ei) (f0D oj ej) (e0D ops base j oj ej)=true)->
    i∈Region.ready md ops listed->opD P ops base i oi ρ H ei->z0d P md ops base effs K fuel (listed.setIfInBounds i true) (j0e ρ oi.dst ei.v) (a0I H ei.wr)->z0d P md ops base effs K (fuel+1) listed ρ H:=by
  intro fuel
  induction fuel with
  |zero=>
    intro listed ρ H _ hr hy h
    refine⟨λh0=>(by rw[h0]at hr;cases hr),λj hj=> ?_⟩
    by_cases hji:j=i
    subst hji;exact⟨oi,ei,hi,hei,hy,h⟩
    have:=ready_mono hj hji
    rw[h.1]at this
    cases this
  |succ fuel ih=>
    intro listed ρ H hfree hr hy h
    refine⟨λh0=>(by rw[h0]at hr;cases hr),λj hj=> ?_⟩
    by_cases hji:j=i
    subst hji;exact⟨oi,ei,hi,hei,hy,h⟩
    obtain⟨oj,ej,hoj,hej,hdj,hrest⟩:=h.2 j (ready_mono hj hji)
    obtain⟨hjun,oj',hoj',hall⟩:=mem_ready.1 hj
    rw[hoj]at hoj';cases hoj'
    have hnot: ∀e∈oj.after,Region.binds md e=true->e.on≠i:=λe he hb heq=>by
      have h1:=hall e he hb
      have h0:=(mem_ready.1 hr).1
      rw[heq]at h1
      rcases br i listed.size with h'|h'
      simp[h']at h0 h1;rw[h0]at h1;cases h1
      simp[bN h']at h1
    obtain⟨hap,hdis⟩:=hfree j oj ej hoj hej hji hjun hnot
    obtain⟨a1,a2,a3⟩:=Oper.apart_spec hap
    obtain⟨d1,d2⟩:=o0E hdis
    have hwi: ∀x,x∈ei.wr.map Prod.fst->2*x∈e0D ops base i oi ei:=λx hx=>q0U hx
    have hwj: ∀x,x∈ej.wr.map Prod.fst->2*x∈e0D ops base j oj ej:=λx hx=>q0U hx
    have shc: ∀ {a b:Option Ent},j0b a b->j0b b a:=λh=>by
      rcases h with h|⟨n,k,e,c1,c2,q1,q2⟩|⟨c1,c2,q1,q2⟩
      exact .inl h.symm
      exact .inr (.inl ⟨n,k,e,c2,c1,q2,q1⟩)
      exact .inr (.inr ⟨c2,c1,q2,q1⟩)
    obtain⟨ki1,ki2⟩:=l0r hy
    -- j before i
    have hdj':opD P ops base j oj ρ H ej:=j0p (ρ:=j0e ρ oi.dst ei.v) (H:=a0I H ei.wr)
      (λx hx=>h0X λt ht=>d0G (a1 t ht) hx) (g0L a1) (by rw[d0l])
      (λx hx=>(ki1 x (λhm=>by
        have:=d1 _ hm
        rcases hx with hx|hx
        exact this.1 hx
        exact this.2 hx)).symm) (λx hx=>shc (ki2 x (λhm=>(d1 _ hm).1 hx))) hdj
    obtain⟨kj1,kj2⟩:=l0r hdj'
    have hyi':opD P ops base i oi (j0e ρ oj.dst ej.v) (a0I H ej.wr) ei:=j0p (ρ:=ρ) (H:=H)
      (λx hx=>(h0X λt ht=>d0G (a3 t ht) hx).symm) (g0L a3).symm (by rw[d0l])
      (λx hx=>kj1 x (λhm=>by
        have:=d2 _ hm
        rcases hx with hx|hx
        exact this.1 hx
        exact this.2 hx)) (λx hx=>kj2 x (λhm=>(d2 _ hm).1 hx)) hy
    refine⟨oj,ej,hoj,hej,hdj', ?_⟩
    refine ih (listed.setIfInBounds j true) _ _ (λk ok ek hk hek hki hun hno=> ?_) (ready_mono hr (Ne.symm hji)) hyi' ?_
    refine hfree k ok ek hk hek hki ?_ hno
    by_cases hjk:j=k
    subst hjk;exact hjun
    rw[getD_set_ne true hjk]at hun;exact hun
    rw[Array.setIfInBounds_comm _ _ hji,<-s0T (ρ:=ρ) (u:=ei.v) (v:=ej.v) a2,<-k0Y ei.wr ej.wr H (λx hx hx2=>(d1 _ (hwi x hx)).2 (hwj x hx2))]
    exact hrest
theorem n0S {o:Oper} {rd fw:List Nat} : ∀(tr:List (List Nat×List Nat)) (j:Nat),i0B o rd fw tr j=true-> ∀(k:Nat) (r' w':List Nat),tr[k]?=some (r',w')->
    (∃e∈o.after,Region.binds .any e=true/\e.on=j+k)\/m0P r' w' rd fw=true
  | [],j,_,k,r',w',hk=>by simp at hk
  |(r1,w1)::r,j,h,k,r',w',hk=>by
    simp only[i0B,aa,bB]at h
    cases k with
    |zero=>
      simp at hk
      obtain⟨rfl,rfl⟩:=hk
      rcases h.1 with h1|h1
      obtain⟨e,he,hb⟩:=Array.any_eq_true'.1 h1
      simp only[aa,beq_iff_eq]at hb
      exact .inl ⟨e,he,hb.1,hb.2⟩
      exact .inr h1
    |succ k=>
      have:=n0S r (j+1) h.2 k r' w' (by simpa using hk)
      rw[show j+1+k=j+(k+1)from by omega]at this
      exact this
def u0g(ops:Array Oper)(base:Nat)(ds:List (Oper×Eff))(j:Nat):List (List Nat×List Nat):=
  match ds with
  | []=> []
  |(o,e)::r=>(f0D o e,e0D ops base j o e)::u0g ops base r (j+1)
theorem n0O: ∀(ds:List (Oper×Eff)) (j:Nat),(u0g ops base ds j).length=ds.length
  | [],_=>rfl
  |(o,e)::r,j=>by simp[u0g,n0O r]
theorem t0k: ∀(ds:List (Oper×Eff)) (j k:Nat) (o:Oper) (e:Eff),ds[k]?=some (o,e)->(u0g ops base ds j)[k]?=some (f0D o e,e0D ops base (j+k) o e)
  | [],j,k,o,e,h=>by simp at h
  |(o1,e1)::r,j,k,o,e,h=>by
    cases k with
    |zero=>simp at h;obtain⟨rfl,rfl⟩:=h;simp[u0g]
    |succ k=>
      have:=t0k r (j+1) k o e (by simpa using h)
      rw[show j+1+k=j+(k+1)from by omega]at this
      simpa [u0g]using this
theorem n0P: ∀(ds:List (Oper×Eff)) (j:Nat) (o:Oper) (e:Eff),u0g ops base (ds++ [(o,e)]) j=u0g ops base ds j++ [(f0D o e,e0D ops base (j+ds.length) o e)]
  | [],j,o,e=>by simp[u0g]
  |(o1,e1)::r,j,o,e=>by
    simp only[cn,u0g,aS]
    rw[n0P r (j+1) o e,show j+1+r.length=j+(r.length+1)from by omega]
theorem p0U {K:Env->a0f->Prop} : ∀(l:List Oper) (tr:List (Oper×Eff)) (listed:Array Bool) (ρ:Env) (H:a0f),(∀j,l[j]?=ops[tr.length+j]?)->(∀(j:Nat) (o:Oper) (e:Eff),tr[j]?=some (o,e)->ops[j]?=some o)->
    (∀k,k<tr.length->listed.getD k true=true)->Region.lexFrom .any ops l.length tr.length listed=true->u0I P ops base (u0g ops base tr 0) l K ρ H->
    ∃es:List Eff,es.length=l.length/\z0d P .any ops base (tr.map Prod.snd++es) K l.length listed ρ H/\
      ∀(i j:Nat) (oi oj:Oper) (ei ej:Eff),i<j->tr.length<=j->ops[i]?=some oi->ops[j]?=some oj->(tr.map Prod.snd++es)[i]?=some ei->(tr.map Prod.snd++es)[j]?=some ej->
        (∀e∈oj.after,Region.binds .any e=true->e.on≠i)->m0P (f0D oi ei) (e0D ops base i oi ei) (f0D oj ej) (e0D ops base j oj ej)=true
  | [],tr,listed,ρ,H,hl,htr,hli,hB,h=>by
    refine⟨[],rfl,⟨by simpa [Region.lexFrom]using hB,h⟩,λi j oi oj ei ej hij hj hoi hoj hei hej=> ?_⟩
    rw[bF,al,aw hj]at hej
    cases hej
  |o::l,tr,listed,ρ,H,hl,htr,hli,hB,h=>by
    have h0:ops[tr.length]?=some o:=by simpa using (hl 0).symm
    simp only[aS,Region.lexFrom,aa]at hB
    obtain⟨⟨hr,hf⟩,hB'⟩:=hB
    simp only[u0I,n0O]at h
    obtain⟨ef,hy,hcomp,hK⟩:=h
    have hrd:tr.length∈Region.ready .any ops listed:=by simpa using hr
    have hlt:tr.length<listed.size:=by
      have:=(mem_ready.1 hrd).1
      rcases br tr.length listed.size with h'|h'
      exact h'
      simp[bN h']at this
    have hfa:u0g ops base (tr++ [(o,ef)]) 0=u0g ops base tr 0++ [(f0D o ef,e0D ops base tr.length o ef)]:=by rw[n0P];simp
    rw[<-hfa]at hK
    obtain⟨es,hes,hany,hpairs⟩:=p0U l (tr++ [(o,ef)]) (listed.setIfInBounds tr.length true) _ _ (λj=>by
        have:=hl (j+1)
        simpa [Nat.add_assoc,Nat.add_comm 1 j]using this) (λj o' e' hj=>by
        rw[aD]at hj
        split at hj
        exact htr j o' e' hj
        rename_i hjl
        have hz:j-tr.length=0:=by
          have:=(ab.1 hj).1
          simp at this;omega
        rw[hz]at hj
        simp at hj
        obtain⟨rfl,rfl⟩:=hj
        have:j=tr.length:=by omega
        rw[this];exact h0) (λk hk=>by
        simp only[ay,aS,bM]at hk
        by_cases hkt:k=tr.length
        subst hkt;simp[Array.getD,hlt]
        rw[getD_set_ne true (Ne.symm hkt)];exact hli k (by omega)) (by simpa using hB') hK
    have hfull:(tr++ [(o,ef)]).map Prod.snd++es=tr.map Prod.snd++(ef::es):=by simp
    rw[hfull]at hany hpairs
    have heft:(tr.map Prod.snd++ef::es)[tr.length]?=some ef:=by
      rw[bv (by simp)];simp
    have hall: ∀(i j:Nat) (oi oj:Oper) (ei ej:Eff),i<j->tr.length<=j->ops[i]?=some oi->ops[j]?=some oj->(tr.map Prod.snd++ef::es)[i]?=some ei->(tr.map Prod.snd++ef::es)[j]?=some ej->
        (∀e∈oj.after,Region.binds .any e=true->e.on≠i)->m0P (f0D oi ei) (e0D ops base i oi ei) (f0D oj ej) (e0D ops base j oj ej)=true:=by
      intro i j oi oj ei ej hij hj hoi hoj hei hej hno
      by_cases hjt:j=tr.length
      subst hjt
      rw[h0]at hoj;cases hoj
      rw[heft]at hej;cases hej
      have hti: ∃p,tr[i]?=some p:=⟨tr[i],ac hij⟩
      obtain⟨⟨o',e'⟩,hp⟩:=hti
      have h1:=htr i o' e' hp
      rw[hoi]at h1;cases h1
      rw[bz (by simpa using hij),al,hp]at hei
      cases hei
      have hft:=t0k (ops:=ops) (base:=base) tr 0 i oi _ hp
      rcases n0S _ 0 hcomp i _ _ hft with⟨e,he,hb,hon⟩|hd
      exact absurd (by omega:e.on=i) (hno e he hb)
      rwa [aW]at hd
      exact hpairs i j oi oj ei ej hij (by simp;omega) hoi hoj hei hej hno
    refine⟨ef::es,by simp[hes], ?_,hall⟩
    rw[aS]
    refine u0r h0 heft l.length listed ρ H (λj oj ej hoj hej hji hun hno=>⟨Region.free_spec h0 hf j oj hoj hji hun hno, ?_⟩) hrd hy hany
    have hjgt:tr.length<j:=by
      rcases br tr.length j with h'|h'
      exact h'
      have:j<tr.length:=by omega
      rw[hli j this]at hun;cases hun
    exact hall tr.length j o oj ef ej hjgt (by omega) h0 hoj heft hej hno
section
variable {F : Fr} {Q : Exit -> Act -> World -> Prop}
theorem t0W {o:Oper} {ρ:Env} {H:a0f} (h:c0U o=false)(i j:Nat):a0E P o ρ H i=a0E P o ρ H j:=by
  unfold a0E
  split
  rfl
  · unfold c0U at h
    cases ho:o.op<;>rw[ho]at h<;>simp only[a0q,ho]<;>first|rfl|(cases h;done)|skip
    rename_i c
    split<;>first|rfl|(rename_i hc;simp only[hc]at h;cases h)
theorem i0v: ∀(a b:List (Nat×Ent)) (H:a0f),a0I H (a++b)=a0I (a0I H a) b
  | [],b,H=>rfl
  |(i,en)::a,b,H=>by simp only[cn,a0I];exact i0v a b _
theorem x0a {f:Nat->Nat} {H H0 H0':a0f} (hs:Sel H f H0)(hl:H0'.length=H0.length)(hr: ∀(j:Nat) (en:Ent),H0'[j]?=some en->Ent.refs H0.length en=true):d0q f H0.length H H0'=a0I H (k0E f H0.length H0'):=by
  have key: ∀q,q<=H0.length->r0K (gOf f H0.length H.length) H0' H q=a0I H ((List.range q).map λj=>(f j,Ent.rn f (H0'.getD j .gone))):=by
    intro q
    induction q with
    |zero=>intro _;rfl
    |succ q ih=>
      intro hq
      have hen:H0'[q]?=some (H0'[q]'(by omega)):=ac (by omega)
      have hg:gOf f H0.length H.length q=f q:=by simp[gOf,show q<H0.length by omega]
      simp only[r0K,hen]
      rw[cu,cf,i0v,<-ih (by omega),hg]
      have hlt:f q<(r0K (gOf f H0.length H.length) H0' H q).length:=by
        rw[ih (by omega),d0l]
        exact hs.lt (by omega)
      simp only[aj,aF,a0I,g0m,if_pos hlt]
      rw[ak,hen,ba,n0Q (f:=gOf f H0.length H.length) (g:=f) (m:=H0.length) (λi hi=>by simp[gOf,hi]) _ (hr q _ hen)]
  unfold d0q k0E
  rw[hl]
  exact key _ (ai _)
theorem Good.put {H0 H0':a0f} {v0:SV} {H:a0f} {f:Nat->Nat} {w w':World} {K:Nat->Nat} {D:DM} {r:Value} {idx:Nat} (hg0:Good w K (i0F D f H0.length) H0 r w' v0 H0')(hs:Sel H f H0)(hi:HInv w K D H)
    (hlive: ∀en∈H0,f0z en=true) (hl:H0'.length=H0.length+1) (hres:H[idx]?=some .res):Good w K D H r w' (SV.rn (pOf f H0.length idx) v0) (a0I H (k0E (pOf f H0.length idx) (H0.length+1) H0')):=by
  obtain⟨K',Ds',g,hi',hrep⟩:=hg0
  have hil:idx<H.length:=(ab.1 hres).1
  have hDi:D idx=none:=hi.ent idx _ hres
  have hfi: ∀j,j<H0.length->f j≠idx:=by
    intro j hj e
    have h1:=hs.get j _ (ac hj)
    rw[e,hres]at h1
    have h2:=hlive _ (bX hj)
    have h3:=au h1
    rw[<-f0l (f:=f),<-h3]at h2
    cases h2
  generalize hg:pOf f H0.length idx=gg
  have hgl: ∀j,j<H0.length->gg j=f j:=λj hj=>by rw[<-hg];simp[pOf,hj]
  have hgm:gg H0.length=idx:=by rw[<-hg];simp[pOf]
  have hglt: ∀j,j<H0.length+1->gg j<H.length:=λj hj=>by
    by_cases h:j<H0.length
    rw[hgl j h];exact hs.lt h
    rw[show j=H0.length by omega,hgm];exact hil
  have hginj: ∀i j,i<H0.length+1->j<H0.length+1->gg i=gg j->i=j:=by
    intro i j hi1 hj1 e
    by_cases h1:i<H0.length<;>by_cases h2:j<H0.length
    rw[hgl i h1,hgl j h2]at e;exact hs.inj i j h1 h2 e
    rw[hgl i h1,show j=H0.length by omega,hgm]at e;exact absurd e (hfi i h1)
    rw[hgl j h2,show i=H0.length by omega,hgm]at e;exact absurd e.symm (hfi j h2)
    omega
  have hput: ∀q,q<=H0.length+1->(∀j en,j<q->H0'[j]?=some en->(a0I H (k0E gg q H0'))[gg j]?=some (Ent.rn gg en))/\ ∀i,(∀j,j<q->gg j≠i)->(a0I H (k0E gg q H0'))[i]?=H[i]?:=by
    intro q
    induction q with
    |zero=>intro _;exact⟨λj en h=>absurd h (cq _),λi _=>rfl⟩
    |succ q ih=>
      intro hq
      obtain⟨h2,h3⟩:=ih (by omega)
      have hen:H0'[q]?=some (H0'[q]'(by omega)):=ac (by omega)
      have hw:a0I H (k0E gg (q+1) H0')=(a0I H (k0E gg q H0')).set (gg q) (Ent.rn gg (H0'[q]'(by omega))):=by
        unfold k0E
        rw[cu,cf,i0v]
        simp only[aj,aF,a0I]
        rw[ak,hen,ba]
      have hlt:gg q<(a0I H (k0E gg q H0')).length:=by rw[d0l];exact hglt q (by omega)
      rw[hw]
      refine⟨λj en hj hej=> ?_,λi hi3=> ?_⟩
      by_cases hjq:j=q
      subst hjq
      rw[bO hlt]
      rw[hen]at hej;cases hej;rfl
      rw[bH (λe=>hjq (hginj q j (by omega) (by omega) e).symm)]
      exact h2 j en (by omega) hej
      rw[bH (hi3 q (by omega))]
      exact h3 i λj hj=>hi3 j (by omega)
  obtain⟨p2,p3⟩:=hput (H0.length+1) (ai _)
  -- entries that were handed A0F are somewhere
  have hsome: ∀j,j<H0.length-> ∃x,D (f j)=some x:=by
    intro j hj
    have hen:=ac hj
    have hlv:=hlive _ (bX hj)
    have he:=hi.ent _ _ (hs.get j _ hen)
    generalize H0[j]=en at hlv he
    cases en with
    |res=>cases hlv
    |gone=>cases hlv
    |box cs=>obtain⟨b,vs,e,h1,_⟩:=he;exact⟨_,h1⟩
    |vec n k e cs=>rcases he.2 with⟨h1,_⟩|⟨b,c,vs,rest,h1,_⟩<;>exact⟨_,h1⟩
    |map es=>obtain⟨r,mes,clock,h1,_⟩:=he;exact⟨_,h1⟩
    |itr i n' s=>obtain⟨r,bm,c0,h1,_⟩:=he;exact⟨_,h1⟩
    |lop tm ps as bd st pd=>obtain⟨l,r,h1,_⟩:=he;exact⟨_,h1⟩
    |dfr=>obtain⟨b,h1,_⟩:=he;exact⟨_,h1⟩
    |pmap es=>obtain⟨es',r,mes,clock,_,h1,_⟩:=he;exact⟨_,h1⟩
  let D':DM:=λi=>if i=idx then Ds' H0.length else D i
  have hDold: ∀i,i≠idx->D' i=D i:=λi hi=>by simp[D',hi]
  have hDs: ∀j,j<H0.length->Ds' j=D (f j):=by
    intro j hj
    obtain⟨x,hx⟩:=hsome j hj
    have:i0F D f H0.length j=some x:=by simp[i0F,hj,hx]
    rw[g.dd j x this,hx]
  have hup: ∀j,j<H0.length+1->D' (gg j)=Ds' j:=by
    intro j hj1
    by_cases hj:j<H0.length
    rw[hgl j hj,hDold _ (hfi j hj),hDs j hj]
    rw[show j=H0.length by omega,hgm]
    simp[D']
  have hup2: ∀j x,Ds' j=some x->D' (gg j)=some x:=by
    intro j x hx
    by_cases hj:j<H0.length+1
    rw[hup j hj];exact hx
    rw[hi'.dom j (by omega)]at hx;cases hx
  have hdd: ∀i x,D i=some x->D' i=some x:=by
    intro i x hx
    have:i≠idx:=λe=>by rw[e,hDi]at hx;cases hx
    rw[hDold i this];exact hx
  have hrep': ∀v s,Rep w K D v s->Rep w' K' D' v s:=λv s h1=>h1.mono g.cells g.le hdd
  -- an entry: an old one that was not handed A0F, or one of the call's
  have hcase: ∀i en,(a0I H (k0E gg (H0.length+1) H0'))[i]?=some en->(∃j en0,H0'[j]?=some en0/\i=gg j/\en=Ent.rn gg en0)\/((∀j,j<H0'.length->gg j≠i)/\H[i]?=some en/\i≠idx):=by
    intro i en hi2
    by_cases hex: ∃j,j<H0'.length/\gg j=i
    obtain⟨j,hj,rfl⟩:=hex
    have hen:=ac hj
    rw[p2 j _ (by omega) hen]at hi2
    cases hi2
    exact .inl ⟨j,_,hen,rfl,rfl⟩
    have hno: ∀j,j<H0'.length->gg j≠i:=λj hj e=>hex ⟨j,hj,e⟩
    rw[p3 i (λj hj=>hno j (by omega))]at hi2
    exact .inr ⟨hno,hi2,λe=>hno H0.length (by omega) (by rw[hgm];exact e.symm)⟩
  -- a block of the call's is old and handed A0F, or new
  have hblk: ∀j en0 b c n,H0'[j]?=some en0->f0z en0=true->Ds' j=some (.at b c n)->Mem (i0F D f H0.length) H0 b\/w.heap.size<=b:=λj en0 b c n h1 h2 h3=>g.new b ⟨j,en0,c,n,h1,h2,h3⟩
  have hapart: ∀i en b c n,(∀j,j<H0'.length->gg j≠i)->H[i]?=some en->f0z en=true->D i=some (.at b c n)-> ¬Mem (i0F D f H0.length) H0 b/\b<w.heap.size:=by
    intro i en b c n hno hie hli hdi
    refine⟨fun⟨j,en0,c0,n0,h1,h2,h3⟩=> ?_,(h0M hi ⟨i,en,c,n,hie,hli,hdi⟩).1⟩
    have hjl:=(ab.1 h1).1
    simp only[i0F,hjl,if_true]at h3
    have:=hi.inj i (f j) en _ b c n c0 n0 hie (hs.get j en0 h1) hli (by rw[f0l];exact h2) hdi h3
    exact hno j (by omega) (by rw[hgl j hjl];exact this.symm)
  refine⟨K',D',⟨g.os,g.tape,g.output,g.size,λb hb hm=>g.block b hb (λh1=>hm (hs.mem h1)),g.cells,g.le,λb hb hm=>g.kk b hb (λh1=>hm (hs.mem h1)),hdd,λb hm=> ?_⟩,
    ⟨λi hil2=> ?_,λi en hie=> ?_,λi j en en' b c n c' n' hie hje hli hlj hdi hdj=> ?_,hi'.kw⟩, ?_⟩
  obtain⟨i,en,c,n,h1,h2,h3⟩:=hm
  rcases hcase i en h1 with⟨j,en0,q1,q2,q3⟩|⟨_,q2,q3⟩
  subst q2;subst q3
  rw[hup j (by have:=(ab.1 q1).1;omega)]at h3
  rw[f0l]at h2
  rcases hblk j en0 b c n q1 h2 h3 with h4|h4
  exact .inl (hs.mem h4)
  exact .inr h4
  rw[hDold i q3]at h3
  exact .inl ⟨i,en,c,n,q2,h2,h3⟩
  rw[d0l]at hil2
  rw[hDold i (by omega)]
  exact hi.dom i hil2
  rcases hcase i en hie with⟨j,en0,q1,q2,q3⟩|⟨q1,q2,q3⟩
  subst q2;subst q3
  exact w0x (hi'.ent j en0 q1) hup2 (λhn=>by rw[hup j (by have:=(ab.1 q1).1;omega)];exact hn)
  refine(hi.ent i en q2).keep hrep' (hDold i q3) (λb c n hlv hd=> ?_)
  obtain⟨a1,a2⟩:=hapart i en b c n q1 q2 hlv hd
  exact⟨g.block b a2 a1,g.kk b a2 a1⟩
  · rcases hcase i en hie with⟨ji,e1,q1,q2,q3⟩|⟨q1,q2,q3⟩<;>rcases hcase j en' hje with⟨jj,e2,r1,r2,r3⟩|⟨r1,r2,r3⟩
    subst q2;subst q3;subst r2;subst r3
    rw[hup ji (by have:=(ab.1 q1).1;omega)]at hdi
    rw[hup jj (by have:=(ab.1 r1).1;omega)]at hdj
    rw[f0l]at hli hlj
    rw[hi'.inj ji jj e1 e2 b c n c' n' q1 r1 hli hlj hdi hdj]
    exfalso
    subst q2;subst q3
    rw[hup ji (by have:=(ab.1 q1).1;omega)]at hdi
    rw[f0l]at hli
    rw[hDold j r3]at hdj
    obtain⟨a1,a2⟩:=hapart j en' b c' n' r1 r2 hlj hdj
    rcases hblk ji e1 b c n q1 hli hdi with h4|h4
    exact a1 h4
    omega
    exfalso
    subst r2;subst r3
    rw[hup jj (by have:=(ab.1 r1).1;omega)]at hdj
    rw[f0l]at hlj
    rw[hDold i q3]at hdi
    obtain⟨a1,a2⟩:=hapart i en b c n q1 q2 hli hdi
    rcases hblk jj e2 b c' n' r1 hlj hdj with h4|h4
    exact a1 h4
    omega
    rw[hDold i q3]at hdi
    rw[hDold j r3]at hdj
    exact hi.inj i j en en' b c n c' n' q2 r2 hli hlj hdi hdj
  exact j0d hrep hup2
theorem SC.put {P:Program} {fid:FuncId} {args0:List SV} {H0:a0f} {v0:SV} {H0':a0f} (h:SC P fid args0 H0 v0 H0') {H:a0f} {f:Nat->Nat} {idx:Nat} (hs:Sel H f H0)
    (hlive: ∀en∈H0,f0z en=true) (ha:SV.refsL H0.length args0=true) (hl:H0'.length=H0.length+1) (hres:H[idx]?=some .res):
    SC P fid (SV.rnL f args0) H (SV.rn (pOf f H0.length idx) v0) (a0I H (k0E (pOf f H0.length idx) (H0.length+1) H0')):=by
  refine⟨h.1,λw K D vals hlen hr hi hG=> ?_⟩
  refine(h.2 w K (i0F D f H0.length) vals (by rw[hlen,b0M]) (λj x c hx hc=>f0e (hr j x (SV.rn f c) hx (by rw[d0Z,hc];rfl)) c rfl (d0M ha j c hc)) (hs.hinv hi) (g0F hG)).mono ?_
  rintro e w' ⟨r,he,hg⟩
  exact⟨r,he,hg.put hs hi hlive hl hres⟩
theorem n0U: ∀(wr:List (Nat×Ent)) (H:a0f),(∀x∈wr,H[x.1]?=some x.2)->a0I H wr=H
  | [],H,_=>rfl
  |(i,en)::r,H,h=>by
    have h1:=h (i,en) (ar ..)
    have he:H.set i en=H:=by
      refine bh λj=> ?_
      rw[aL]
      by_cases hj:i=j
      subst hj
      rw[if_pos rfl,if_pos (ab.1 h1).1,h1]
      rw[if_neg hj]
    simp only[a0I]
    rw[he]
    exact n0U r H (λx hx=>h x (am _ hx))
theorem A0K {H H0:a0f} {g:Nat->Nat} {idx:Nat} {en0:Ent} (hs:Sel H g H0):a0I H (k0E (pOf g H0.length idx) (H0.length+1) (H0++ [en0]))=a0I H [(idx,Ent.rn (pOf g H0.length idx) en0)]:=by
  have e:k0E (pOf g H0.length idx) (H0.length+1) (H0++ [en0])=(k0E (pOf g H0.length idx) H0.length H0)++ [(idx,Ent.rn (pOf g H0.length idx) en0)]:=by
    unfold k0E
    rw[cu,cf]
    congr 1
    refine bk λj hj=> ?_
    have hj:=aV.1 hj
    rw[ak,ak,bz hj]
    simp[pOf,ak]
  rw[e]
  have app: ∀(a b:List (Nat×Ent)) (H:a0f),a0I H (a++b)=a0I (a0I H a) b:=by
    intro a
    induction a with
    |nil=>intro b H;rfl
    |cons x a ih=>intro b H;obtain⟨i,en⟩:=x;simp only[cn,a0I];exact ih b _
  rw[app,n0U _ H (λx hx=> ?_)]
  obtain⟨j,hj,rfl⟩:=aR.1 hx
  have hj:=aV.1 hj
  have hget:=hs.get j _ (ac hj)
  simp only[pOf,if_pos hj]
  rw[ak,ac hj,ba,hget]
  exact congrArg some (n0Q (m:=H0.length) (λi hi=>(if_pos hi).symm) _ (hs.refs j _ (ac hj)))
theorem r0i {effs:List Eff} {KS:Env->a0f->Prop} (hQ: ∀ρ H a w,St F ρ H a w->KS ρ H->Q .normal a w)(hb: ∀o∈ops.toList,Oper.inB F.n ops o=true): ∀(fuel:Nat) (listed:Array Bool) (ρ:Env) (H:a0f) (a:Act) (w:World),
    St F ρ H a w->z0d P md ops base effs KS fuel listed ρ H->wpAny P md ops Q fuel listed a w:=by
  intro fuel
  induction fuel with
  |zero=>intro listed ρ H a w hst h;exact⟨h.1,hQ _ _ _ _ hst h.2⟩
  |succ fuel ih=>
    intro listed ρ H a w hst h
    refine⟨λh0=>hQ _ _ _ _ hst (h.1 h0),λi hi=> ?_⟩
    obtain⟨o,ef,ho,hef,hd,hrest⟩:=h.2 i hi
    have hbo:Oper.inB F.n ops o=true:=hb o (aC.2 (Array.mem_of_getElem? ho))
    obtain⟨hdef,K,D,hinv⟩:=hst
    unfold wpOp
    simp only[ho]
    unfold opD at hd
    split at hd
    · rename_i hg
      rw[b0H hinv.slots (Oper.inB_guard hbo) hg,if_pos rfl]
      refine .inl ?_
      split at hd
      · rename_i hc
        rcases hd with⟨f,args,g,args0,H0,v0,h1,h2,h3,h4,h5,h6,h7,h8⟩|⟨f,args,v0,en0,h1,h2,h3,⟨h4,hE⟩,h5⟩|⟨f,args,g,args0,H0,v0,H0',h1,h2,h3,h4,h5,h6,h7,hl2,hr2,h8⟩|⟨f,args,g,args0,H0,v0,H0',h1,h2,h3,h4,h5,h7,hl2,hres,h8⟩|⟨f,args,g,args0,H0,v0,en0,h1,h2,h3,h4,h5,h7,hres,h8⟩
        case inr.inr.inr.inr=>
          subst h8
          have hfr:=SC.put h7 h3 h4 h5 (by simp) hres
          rw[<-h2,A0K h3]at hfr
          exact k0X hinv hdef (Oper.inB_op hbo) h1 hfr (λa' w' hst'=>ih _ _ _ _ _ hst' hrest)
        case inr.inr.inr.inl=>
          subst h8
          have hfr:=SC.put h7 h3 h4 h5 hl2 hres
          rw[<-h2]at hfr
          exact k0X hinv hdef (Oper.inB_op hbo) h1 hfr (λa' w' hst'=>ih _ _ _ _ _ hst' hrest)
        case inr.inr.inl=>
          subst h8
          have hfr:=SC.frame h7 h3 h4 h5 (Nat.le_of_eq hl2.symm)
          rw[<-h2,x0a h3 hl2 hr2,<-g0z (f:=g) (m:=H0.length) (λi hi=>by simp[gOf,hi]) v0 h6]at hfr
          exact k0X hinv hdef (Oper.inB_op hbo) h1 hfr (λa' w' hst'=>ih _ _ _ _ _ hst' hrest)
        case inr.inl=>
          subst h5
          exact k0X hinv hdef (Oper.inB_op hbo) h1 (SC.place h3 h2 h4 hE) (λa' w' hst'=>ih _ _ _ _ _ hst' hrest)
        subst h8
        have hfr:=SC.frame h7 h3 h4 h5 (ai _)
        rw[<-h2]at hfr
        -- the frame leaves the entries and the value as they are
        rw[o0z h3,<-g0z (f:=g) (m:=H0.length) (λi hi=>by simp[gOf,hi]) v0 h6]at hfr
        exact k0X hinv hdef (Oper.inB_op hbo) h1 hfr (λa' w' hst'=>ih _ _ _ _ _ hst' hrest)
      · obtain⟨h1,h2,h3⟩:=hd
        rw[<-l0K _ _ h3]at hrest
        rcases h1 with h1|h1
        case inr=>exact B0a hinv hdef (Oper.inB_op hbo) (.inr (h2 h1.2)) h1.1 λa' w' hst'=>ih _ _ _ _ _ hst' hrest
        by_cases hcr:c0U o=true
        exact t0V hinv hdef (Oper.inB_op hbo) (.inr (h2 hcr)) h1 λa' w' hst'=>ih _ _ _ _ _ hst' hrest
        rw[t0W (by simpa using hcr) _ H.length]at h1
        exact t0V hinv hdef (Oper.inB_op hbo) (.inl rfl) h1 λa' w' hst'=>ih _ _ _ _ _ hst' hrest
    rename_i hg
    rw[b0H hinv.slots (Oper.inB_guard hbo) hg,if_neg (by simp)]
    subst hd
    exact ih _ _ _ _ _ ⟨by rw[a0T];exact hdef,K,D,p0a hinv o.dst⟩ hrest
    exact hd.elim
theorem Inv.reserve {w:World} {K:Nat->Nat} {D:DM} {H:a0f} {ρ:Env} {tm:Array Value} (h:Inv F w K D H ρ tm)(m:Nat):Inv F w K D (H++List.replicate m .res) ρ tm:=by
  have hget: ∀i en,(H++List.replicate m Ent.res)[i]?=some en->H[i]?=some en\/(en= .res/\H.length<=i):=by
    intro i en hi
    rw[aD]at hi
    split at hi
    exact .inl hi
    · rw[List.getElem?_replicate]at hi
      split at hi<;>cases hi
      exact .inr ⟨rfl,by omega⟩
  have hmem: ∀b,Mem D (H++List.replicate m .res) b->Mem D H b:=by
    rintro b ⟨i,en,c,n,h1,h2,h3⟩
    rcases hget i en h1 with h4|⟨h4,_⟩
    exact⟨i,en,c,n,h4,h2,h3⟩
    subst h4;cases h2
  refine⟨h.slots,⟨λi hi=>h.hinv.dom i (by simp at hi;omega),λi en hi=> ?_,λi j en en' b c n c' n' hi hj hl hl' hd hd'=> ?_,h.hinv.kw⟩, ?_⟩
  rcases hget i en hi with h4|⟨h4,h5⟩
  exact h.hinv.ent i en h4
  subst h4;exact h.hinv.dom i h5
  rcases hget i en hi with h4|⟨h4,_⟩
  rcases hget j en' hj with h5|⟨h5,_⟩
  exact h.hinv.inj i j en en' b c n c' n' h4 h5 hl hl' hd hd'
  subst h5;cases hl'
  subst h4;cases hl
  have g:=h.grow
  exact⟨g.os,g.tape,g.output,g.size,g.block,g.cells,g.le,g.kk,g.dd,λb hm=>g.new b (hmem b hm)⟩
def f0k(ops:Array Oper):Nat:=(ops.toList.filter c0U).length
theorem s0q {KS:Env->a0f->Prop} (hm:P.follows .mixedOrders=true)(hB:Region.lexB .any ops=true)(hQ: ∀ρ H a w,St F ρ H a w->KS ρ H->Q .normal a w)(hb: ∀o∈ops.toList,Oper.inB F.n ops o=true) {id:Nat} {ρ:Env} {H:a0f} {a:Act} {w:World}
    (hst:St F ρ H a w) (h:u0I P ops H.length [] ops.toList KS ρ (H++List.replicate (f0k ops) .res)):(Code.region id ops true).wp P Q a w:=by
  simp only[Region.lexB,aa]at hB
  obtain⟨hd,K,D,hinv⟩:=hst
  refine wp_region_any hm ?_
  obtain⟨es,_,hany,_⟩:=p0U (base:=H.length) ops.toList [] (Array.replicate ops.size false) ρ _ (by simp) (λj o e hj=>by simp at hj) (λk hk=>absurd hk (cq _)) (by simpa using hB.2) h
  have hinv':=hinv.reserve (f0k ops)
  have hdrew:Inv F w.drew K D (H++List.replicate (f0k ops) .res) ρ a.tmps:=⟨hinv'.slots.mono λ_ _=>World.drew_rep,hinv'.hinv.drew,hinv'.grow.trans (Grow.drew _ _ _ _)⟩
  exact r0i hQ hb ops.size _ ρ _ a _ ⟨hd,K,D,hdrew⟩ (by simpa using hany)
end
end
end
section
variable [Inhabited GT]
abbrev LE:=List (Nat×SV)
def lk:LE->Nat->SV
  | [],_=> .undef
  |(i,v)::r,t=>bif Nat.beq t i then v else lk r t
def a0v(L:LE):Env:=λt=>lk L t
def f0d(L:LE)(d:Option Nat)(v:SV):LE:=match d with
  |some d=>(d,v)::L
  |none=>L
theorem b0e(L:LE)(d:Option Nat)(v:SV):j0e (a0v L) d v=a0v (f0d L d v):=by
  cases d with
  |none=>rfl
  |some d=>
    funext t
    simp only[j0e,upd,f0d,a0v,lk]
    by_cases h:t=d
    subst h;simp
    have:Nat.beq t d=false:=by cases hb:Nat.beq t d with
      |false=>rfl
      |true=>exact absurd (ae hb) h
    rw[if_neg h,this];rfl
def g0q(ts:List Nat)(L:LE):LE:=ts.map λt=>(t,lk L t)
def Sees(F:Fr)(L:LE)(H:a0f)(a:Act)(w:World):Prop:=St F (a0v L) H a w
abbrev f0C:=Exit->Act->World->Prop
def b0E(n:Nat):Code->Bool
  | .region _ ops _=>ops.toList.all (Oper.inB n ops)
  | .seq a b=>b0E n a&&b0E n b
  | .cond c x y=>Operand.inB n c&&b0E n x&&b0E n y
  | .block _ c=>b0E n c
  | .loop c=>b0E n c
  | .scope c=>b0E n c
  |_=>true
def J(F:Fr)(P:Program)(c:Code)(L:LE)(H:a0f)(Q:f0C):Prop:=b0E F.n c=true-> ∀a w,Sees F L H a w->c.wp P Q a w
def PJ(F:Fr)(Q:f0C)(e:Exit)(L:LE)(H:a0f):Prop:= ∀a w,Sees F L H a w->Q e a w
def i0X(F:Fr)(P:Program)(c:Code)(Q:f0C):f0C:=Exit.then (λa w=>b0E F.n c=true->c.wp P Q a w) Q
def RJ(F:Fr)(P:Program)(m:Option Nat)(ops:Array Oper)(p:Nat)(tr:List (List Nat×List Nat))(L:LE)(H:a0f)(Q:f0C):Prop:=
  match m with
  |none=>ops.toList.all (Oper.inB F.n ops)=true-> ∀a w,Sees F L H a w->wpList P ops Q (ops.toList.drop p) a w
  |some base=>tr.length=p->u0I P ops base tr (ops.toList.drop p) (fun ρ H=> ∀a w,St F ρ H a w->Q .normal a w) (a0v L) H
def y0M(m:Option Nat)(ops:Array Oper)(p:Nat)(H:a0f):Nat:=match m with
  |none=>H.length
  |some base=>e0c ops base p
def trM(m:Option Nat)(ops:Array Oper)(p:Nat)(o:Oper)(ef:Eff)(tr:List (List Nat×List Nat)):List (List Nat×List Nat):=match m with
  |none=>tr
  |some base=>tr++ [(f0D o ef,e0D ops base p o ef)]
def l0y(en:Option Ent):Bool:=match en with
  |some .res=>true
  |_=>false
def okM(m:Option Nat)(ops:Array Oper)(p:Nat)(o:Oper)(ef:Eff)(tr:List (List Nat×List Nat))(H:a0f):Bool:=match m with
  |none=>true
  |some base=>i0B o (f0D o ef) (e0D ops base p o ef) tr 0&&(!c0U o||l0y (H[e0c ops base p]?))&&ef.wr.all (λx=>Nat.blt x.1 H.length)
section
variable {F : Fr} {P : Program} {L : LE} {H : a0f} {Q : f0C} {m : Option Nat} {ops : Array Oper} {p : Nat} {tr : List (List Nat × List Nat)}
theorem Sees.keep {L2:LE} {a:Act} {w:World} (h:Sees F L H a w)(hk: ∀t,lk L2 t=lk L t\/lk L2 t= .undef):Sees F L2 H a w:=by
  obtain⟨hd,K,D,hi⟩:=h
  refine⟨hd,K,D,⟨⟨hi.slots.size,λi hin=> ?_,hi.slots.glob⟩,hi.hinv,hi.grow⟩⟩
  have h1:=hi.slots.rep i hin
  show Rep w K D _ (lk L2 i)
  rcases hk i with e|e
  rw[e];exact h1
  rw[e];exact .undef _
theorem h0F(ts:List Nat)(L:LE)(t:Nat):lk (g0q ts L) t=lk L t\/lk (g0q ts L) t= .undef:=by
  induction ts with
  |nil=>exact .inr rfl
  |cons s ts ih=>
    simp only[g0q,aj,lk]at ih⊢
    cases hb:Nat.beq t s with
    |true=>have:=ae hb;subst this;exact .inl rfl
    |false=>exact ih
theorem J.keep {c:Code} (ts:List Nat) {L2:LE} (h2:g0q ts L=L2)(h:J F P c L2 H Q):J F P c L H Q:=
  λhin a w hs=>h hin a w (hs.keep (by rw[<-h2];exact h0F ts L))
theorem J.skip(h:PJ F Q .normal L H):J F P .skip L H Q:=λ_ a w hs=>wp_skip (h a w hs)
theorem J.ret(h:PJ F Q .ret L H):J F P .ret L H Q:=λ_ a w hs=>wp_ret (h a w hs)
theorem J.exit {id:Nat} (h:PJ F Q (.exit id) L H):J F P (.exit id) L H Q:=λ_ a w hs=>wp_exit (h a w hs)
theorem J.seq {c1 c2:Code} (h:J F P c1 L H (i0X F P c2 Q)):J F P (.seq c1 c2) L H Q:=λhin a w hs=>by
  simp only[b0E,aa]at hin
  refine wp_seq (Code.wp_mono (λe a' w' hq=> ?_) (h hin.1 a w hs))
  cases e<;>first|exact hq hin.2|exact hq
theorem PJ.next {c:Code} (h:J F P c L H Q):PJ F (i0X F P c Q) .normal L H:=λa w hs hin=>h hin a w hs
theorem PJ.passRet {c:Code} (h:PJ F Q .ret L H):PJ F (i0X F P c Q) .ret L H:=h
theorem PJ.passExit {c:Code} {id:Nat} (h:PJ F Q (.exit id) L H):PJ F (i0X F P c Q) (.exit id) L H:=h
theorem J.block {id:Nat} {c:Code} (h:J F P c L H (Exit.inBlock id Q)):J F P (.block id c) L H Q:=λhin a w hs=>wp_block (h hin a w hs)
theorem PJ.blockNormal {id:Nat} (h:PJ F Q .normal L H):PJ F (Exit.inBlock id Q) .normal L H:=h
theorem PJ.blockRet {id:Nat} (h:PJ F Q .ret L H):PJ F (Exit.inBlock id Q) .ret L H:=h
theorem PJ.blockOut {id:Nat} (h:PJ F Q .normal L H):PJ F (Exit.inBlock id Q) (.exit id) L H:=λa w hs=>by
  show(if id=id then _ else _)
  rw[if_pos rfl];exact h a w hs
theorem PJ.blockPass {id id':Nat} (hne:Nat.beq id' id=false)(h:PJ F Q (.exit id') L H):PJ F (Exit.inBlock id Q) (.exit id') L H:=λa w hs=>by
  show(if id'=id then _ else _)
  rw[if_neg (λe=>by subst e;simp at hne)];exact h a w hs
theorem J.cond {c:Operand} {x y:Code} {b:Bool} (hv:a0F (a0v L) c=some (.bool b))(h:J F P (bif b then x else y) L H Q):J F P (.cond c x y) L H Q:=λhin a w hs=>by
  simp only[b0E,aa]at hin
  obtain⟨hd,K,D,hi⟩:=hs
  have hr:=a0e hi.slots hin.1.1 hv
  generalize hva:a.eval c=v at hr
  cases hr
  refine wp_cond hva ?_
  cases b
  exact h hin.2 a w ⟨hd,K,D,hi⟩
  exact h hin.1.2 a w ⟨hd,K,D,hi⟩
theorem J.region {id:Nat} (h:RJ F P none ops 0 [] L H Q):J F P (.region id ops false) L H Q:=λhin a w hs=>by
  simp only[b0E]at hin
  exact wp_region_list (h hin a w hs)
theorem J.draw {id:Nat} (hm:P.follows .mixedOrders=true)(hB:Region.lexB .any ops=true)(h:RJ F P (some H.length) ops 0 [] L (H++List.replicate (f0k ops) .res) Q):J F P (.region id ops true) L H Q:=λhin a w hs=>by
  simp only[b0E,List.all_eq_true]at hin
  exact s0q (KS:=fun ρ H=> ∀a w,St F ρ H a w->Q .normal a w) hm hB (fun ρ H a w hst hq=>hq a w hst) hin hs (by simpa using h rfl)
theorem RJ.done(hp:ops.size<=p)(h:PJ F Q .normal L H):RJ F P m ops p tr L H Q:=by
  have hd:ops.toList.drop p=[]:=bD (by simpa using hp)
  cases m with
  |none=>intro _ a w hs;rw[hd];exact h a w hs
  |some base=>intro _;rw[hd];exact λa w hs=>h a w hs
theorem d0V {o:Oper} (ho:ops.toList[p]?=some o):ops.toList.drop p=o::ops.toList.drop (p+1):=by
  obtain⟨h1,h2⟩:=ab.1 ho
  rw[bA h1,h2]
theorem l0s {o:Oper} (ho:ops.toList[p]?=some o):o∈ops.toList:=aA ho
theorem RJ.step {o:Oper} {ef:Eff} (ho:ops.toList[p]?=some o)(hg:b0i ops (a0v L) o=some true)(hc:b0T o=false)(he:a0E P o (a0v L) H (y0M m ops p H)=some ef)(hok:okM m ops p o ef tr H=true)
    (h:RJ F P m ops (p+1) (trM m ops p o ef tr) (f0d L o.dst ef.v) (b0t H ef.wr) Q):RJ F P m ops p tr L H Q:=by
  cases m with
  |none=>
    intro hin a w hs
    have hbo:Oper.inB F.n ops o=true:=List.all_eq_true.1 hin o (l0s ho)
    obtain⟨hd,K,D,hi⟩:=hs
    rw[d0V ho]
    refine wpList_step λKK hKK=> ?_
    rw[b0H hi.slots (Oper.inB_guard hbo) hg,if_pos rfl]
    exact t0V hi hd (Oper.inB_op hbo) (.inl rfl) he λa' w' hst'=>hKK _ _ (h hin a' w' (by rw[b0e]at hst';exact hst'))
  |some base=>
    intro hl
    rw[d0V ho]
    simp only[okM,aa,bB,List.all_eq_true]at hok
    obtain⟨⟨k1,k2⟩,k3⟩:=hok
    have k3': ∀x∈ef.wr,x.1<H.length:=λx hx=>bn (af (by simpa [Nat.blt]using k3 x hx))
    subst hl
    refine⟨ef, ?_,k1, ?_⟩
    unfold opD
    rw[hg]
    simp only
    rw[hc,if_neg (by simp)]
    refine⟨.inl he,λhcr=> ?_,k3'⟩
    rcases k2 with k2|k2
    rw[hcr]at k2;cases k2
    unfold l0y at k2
    split at k2
    assumption
    cases k2
    have:=h (by simp[trM])
    rw[<-l0K _ _ k3',b0e]
    exact this
theorem RJ.skip {o:Oper} (ho:ops.toList[p]?=some o)(hg:b0i ops (a0v L) o=some false)(hok:okM m ops p o ⟨.tup [],[],[]⟩ tr [.res]=true\/True)
    (hk: ∀base,m=some base->i0B o (f0D o ⟨.tup [],[],[]⟩) (e0D ops base p o ⟨.tup [],[],[]⟩) tr 0=true)
    (h:RJ F P m ops (p+1) (trM m ops p o ⟨.tup [],[],[]⟩ tr) (f0d L o.dst (.tup [])) H Q):RJ F P m ops p tr L H Q:=by
  cases m with
  |none=>
    intro hin a w hs
    have hbo:Oper.inB F.n ops o=true:=List.all_eq_true.1 hin o (l0s ho)
    obtain⟨hd,K,D,hi⟩:=hs
    rw[d0V ho]
    refine wpList_step λKK hKK=> ?_
    rw[b0H hi.slots (Oper.inB_guard hbo) hg,if_neg (by simp)]
    exact hKK _ _ (h hin _ w ⟨by rw[a0T];exact hd,K,D,by have:=p0a hi o.dst;rw[b0e]at this;exact this⟩)
  |some base=>
    intro hl
    rw[d0V ho]
    subst hl
    refine⟨⟨.tup [],[],[]⟩, ?_,hk base rfl, ?_⟩
    unfold opD;rw[hg]
    have:=h (by simp[trM])
    rw[b0e]
    exact this
theorem RJ.call {o:Oper} {f:FuncId} {args:List SV} {v:SV} {H':a0f} (ho:ops.toList[p]?=some o)(hg:b0i ops (a0v L) o=some true)(hc:e0B (a0v L) o=some (f,args))(hs:SC P f args H v H')
    (h:RJ F P none ops (p+1) tr (f0d L o.dst v) H' Q):RJ F P none ops p tr L H Q:=by
  intro hin a w hst
  have hbo:Oper.inB F.n ops o=true:=List.all_eq_true.1 hin o (l0s ho)
  obtain⟨hd,K,D,hi⟩:=hst
  rw[d0V ho]
  refine wpList_step λKK hKK=> ?_
  rw[b0H hi.slots (Oper.inB_guard hbo) hg,if_pos rfl]
  exact k0X hi hd (Oper.inB_op hbo) hc hs λa' w' hst'=>hKK _ _ (h hin a' w' (by rw[b0e]at hst';exact hst'))
theorem l0z {o:Oper} {ρ:Env} {r:FuncId×List SV} (h:e0B ρ o=some r):b0T o=true:=by
  unfold e0B at h
  split at h
  rename_i c ho
  unfold n0a at h
  split at h
  rename_i f hf
  simp[b0T,ho,hf]
  cases h
  cases h
theorem RJ.callD {o:Oper} {f:FuncId} {args args0:List SV} {g:Nat->Nat} {H0:a0f} {v0:SV} (ho:ops.toList[p]?=some o)(hg:b0i ops (a0v L) o=some true)(hc:e0B (a0v L) o=some (f,args))(ha:args=SV.rnL g args0)
    (hsel:Sel H g H0) (hlive: ∀en∈H0,f0z en=true) (hr:SV.refsL H0.length args0=true) (hv:SV.refs H0.length v0=true) (hs:SC P f args0 H0 v0 H0)
    (hk: ∀base,m=some base->i0B o (f0D o ⟨SV.rn g v0,(List.range H0.length).map g,[]⟩) (e0D ops base p o ⟨SV.rn g v0,(List.range H0.length).map g,[]⟩) tr 0=true)
    (h:RJ F P m ops (p+1) (trM m ops p o ⟨SV.rn g v0,(List.range H0.length).map g,[]⟩ tr) (f0d L o.dst (SV.rn g v0)) H Q):RJ F P m ops p tr L H Q:=by
  cases m with
  |none=>
    have hfr:=SC.frame hs hsel hlive hr (ai _)
    rw[o0z hsel,<-g0z (f:=g) (m:=H0.length) (λi hi=>by simp[gOf,hi]) v0 hv,<-ha]at hfr
    exact RJ.call ho hg hc hfr h
  |some base=>
    intro hl
    rw[d0V ho]
    subst hl
    refine⟨⟨SV.rn g v0,(List.range H0.length).map g,[]⟩, ?_,hk base rfl, ?_⟩
    unfold opD
    rw[hg]
    simp only
    rw[l0z hc,if_pos rfl]
    exact .inl ⟨f,args,g,args0,H0,v0,hc,ha,hsel,hlive,hr,hv,hs,rfl⟩
    have:=h (by simp[trM])
    rw[b0e]
    exact this
end
end
section
variable [Inhabited GT]
section
variable {F : Fr} {P : Program} {L : LE} {H : a0f} {Q : f0C} {m : Option Nat} {ops : Array Oper} {p : Nat} {tr : List (List Nat × List Nat)}
def i0a(P:Program)(m:Option Nat)(ops:Array Oper):Nat->Nat->List (List Nat×List Nat)->LE->a0f->Option (List (List Nat×List Nat)×LE×a0f)
  |0,_,tr,L,H=>some (tr,L,H)
  |q+1,p,tr,L,H=>match ops.toList[p]? with
    |none=>none
    |some o=>match b0i ops (a0v L) o with
      |some true=>bif b0T o then none else match a0E P o (a0v L) H (y0M m ops p H)with
        |some ef=>bif okM m ops p o ef tr H then i0a P m ops q (p+1) (trM m ops p o ef tr) (f0d L o.dst ef.v) (b0t H ef.wr)else none
        |none=>none
      |some false=>bif(match m with|none=>true|some base=>i0B o (f0D o ⟨.tup [],[],[]⟩) (e0D ops base p o ⟨.tup [],[],[]⟩) tr 0)then i0a P m ops q (p+1) (trM m ops p o ⟨.tup [],[],[]⟩ tr) (f0d L o.dst (.tup [])) H else none
      |none=>none
theorem l0X: ∀(q p:Nat) (tr:List (List Nat×List Nat)) (L:LE) (H:a0f) (tr2:List (List Nat×List Nat)) (L2:LE) (H2:a0f),i0a P m ops q p tr L H=some (tr2,L2,H2)->RJ F P m ops (p+q) tr2 L2 H2 Q->RJ F P m ops p tr L H Q:=by
  intro q
  induction q with
  |zero=>intro p tr L H tr2 L2 H2 h k;simp only[i0a]at h;cases h;exact k
  |succ q ih=>
    intro p tr L H tr2 L2 H2 h k
    simp only[i0a]at h
    rw[show p+(q+1)=p+1+q from by omega]at k
    split at h
    cases h
    rename_i o ho
    split at h
    rename_i hg
    cases hc:b0T o with
    |true=>rw[hc]at h;cases h
    |false=>
      rw[hc]at h
      simp only[cond_false]at h
      split at h
      rename_i ef he
      cases hok:okM m ops p o ef tr H with
      |false=>rw[hok]at h;cases h
      |true=>
        rw[hok]at h
        exact RJ.step ho hg hc he hok (ih _ _ _ _ _ _ _ h k)
      cases h
    rename_i hg
    cases hb:(match m with|none=>true|some base=>i0B o (f0D o ⟨.tup [],[],[]⟩) (e0D ops base p o ⟨.tup [],[],[]⟩) tr 0)with
    |false=>rw[hb]at h;cases h
    |true=>
      rw[hb]at h
      refine RJ.skip ho hg (.inr trivial) (λbase hm=> ?_) (ih _ _ _ _ _ _ _ h k)
      subst hm;exact hb
    cases h
theorem RJ.seg(q:Nat)(ts:List Nat) {L2:LE} {H2:a0f} (h:(i0a P none ops q p [] L H).map (λr=>(g0q ts r.2.1,r.2.2))=some (L2,H2))(k:RJ F P none ops (p+q) [] L2 H2 Q):RJ F P none ops p [] L H Q:=by
  cases hr:i0a P none ops q p [] L H with
  |none=>rw[hr]at h;cases h
  |some r=>
    obtain⟨tr1,L1,H1⟩:=r
    rw[hr]at h
    simp only[aP,ag,aB]at h
    obtain⟨rfl,rfl⟩:=h
    refine l0X q p [] L H tr1 L1 H1 hr ?_
    intro hin a w hs
    exact k hin a w (hs.keep (h0F ts L1))
theorem RJ.segD {base:Nat} (q:Nat) {tr2:List (List Nat×List Nat)} {L2:LE} {H2:a0f} (h:i0a P (some base) ops q p tr L H=some (tr2,L2,H2))(k:RJ F P (some base) ops (p+q) tr2 L2 H2 Q):RJ F P (some base) ops p tr L H Q:=
  l0X q p tr L H tr2 L2 H2 h k
def lOf(r:Option (List (List Nat×List Nat)×LE×a0f)):LE:=match r with|some x=>x.2.1|none=> []
def hOf(r:Option (List (List Nat×List Nat)×LE×a0f)):a0f:=match r with|some x=>x.2.2|none=> []
def tOf(r:Option (List (List Nat×List Nat)×LE×a0f)):List (List Nat×List Nat):=match r with|some x=>x.1|none=> []
theorem RJ.segDC {base:Nat} (q:Nat)(h:(i0a P (some base) ops q p tr L H).isSome=true)(k:RJ F P (some base) ops (p+q) (tOf (i0a P (some base) ops q p tr L H)) (lOf (i0a P (some base) ops q p tr L H)) (hOf (i0a P (some base) ops q p tr L H)) Q):RJ F P (some base) ops p tr L H Q:=by
  refine RJ.segD q ?_ k
  cases hr:i0a P (some base) ops q p tr L H with
  |none=>rw[hr]at h;cases h
  |some r=>rfl
def Wk(F:Fr)(L:LE)(H:a0f)(L2:LE)(H2:a0f):Prop:= ∀a w,Sees F L H a w->Sees F L2 H2 a w
theorem J.wk {c:Code} {L2:LE} {H2:a0f} (h:Wk F L H L2 H2)(k:J F P c L2 H2 Q):J F P c L H Q:=λhin a w hs=>k hin a w (h a w hs)
theorem PJ.wk {e:Exit} {L2:LE} {H2:a0f} (h:Wk F L H L2 H2)(k:PJ F Q e L2 H2):PJ F Q e L H:=λa w hs=>k a w (h a w hs)
theorem RJ.wk {L2:LE} {H2:a0f} (h:Wk F L H L2 H2)(k:RJ F P none ops p tr L2 H2 Q):RJ F P none ops p tr L H Q:=λhin a w hs=>k hin a w (h a w hs)
theorem k0e {d:Nat} {v:SV} (h:lk L d=v):a0v ((d,v)::L)=a0v L:=by
  funext t
  simp only[a0v,lk]
  cases hb:Nat.beq t d with
  |true=>have:=ae hb;subst this;exact h.symm
  |false=>rfl
theorem J.caseB {c:Code} (d:Nat) {b:Bool} (hd:lk L d= .bool b)(h1:b=true->J F P c ((d, .bool true)::L) H Q)(h2:b=false->J F P c ((d, .bool false)::L) H Q):J F P c L H Q:=by
  intro hin a w hs
  cases b with
  |true=>exact h1 rfl hin a w (by unfold Sees;rw[k0e hd];exact hs)
  |false=>exact h2 rfl hin a w (by unfold Sees;rw[k0e hd];exact hs)
theorem RJ.caseB(d:Nat) {b:Bool} (hd:lk L d= .bool b)(h1:b=true->RJ F P m ops p tr ((d, .bool true)::L) H Q)(h2:b=false->RJ F P m ops p tr ((d, .bool false)::L) H Q):RJ F P m ops p tr L H Q:=by
  cases b with
  |true=>
    have:=h1 rfl
    cases m with
    |none=>intro hin a w hs;exact this hin a w (by unfold Sees;rw[k0e hd];exact hs)
    |some base=>intro hl;have t:=this hl;rw[k0e hd]at t;exact t
  |false=>
    have:=h2 rfl
    cases m with
    |none=>intro hin a w hs;exact this hin a w (by unfold Sees;rw[k0e hd];exact hs)
    |some base=>intro hl;have t:=this hl;rw[k0e hd]at t;exact t
/-! Loops. -/
def a0x {S O:Type} (step:S->Option (S⊕O)):Nat->S->Option O
  |0,_=>none
  |n+1,s=>match step s with
    |none=>none
    |some (.inr o)=>some o
    |some (.inl s')=>a0x step n s'
theorem J.loop {S O:Type} {c:Code} {step:S->Option (S⊕O)} {n:Nat} {s0:S} {o:O} (R:S->LE×a0f)(ho:a0x step n s0=some o)(hL:L=(R s0).1)(hH:H=(R s0).2)
    (body: ∀s x,step s=some x->J F P c (R s).1 (R s).2 (λe a w=>match x with
      | .inl s'=>e= .normal/\Sees F (R s').1 (R s').2 a w
      | .inr o'=>e≠ .normal/\(o'=o->Q e a w))):J F P (.loop c) L H Q:=by
  subst hL;subst hH
  intro hin
  have hin':b0E F.n c=true:=hin
  clear hin
  have key: ∀n s0,a0x step n s0=some o-> ∀a w,Sees F (R s0).1 (R s0).2 a w-> ∀(b:Frame) (k:List Item) (cs:List Frame),∃e a' w',Q e a' w'/\Arrives P (lone (b.at a (.code c:: .inLoop c::k)) cs w) b k cs e a' w':=by
    intro n
    induction n with
    |zero=>intro s0 h;cases h
    |succ n ih=>
      intro s0 h a w hs b k cs
      simp only[a0x]at h
      split at h
      cases h
      rename_i o' hst
      cases h
      have hr:=body s0 _ hst hin' a w hs
      obtain⟨e,a₁,w₁,⟨hne,hq⟩,harr⟩:=hr b (.inLoop c::k) cs
      have hq:=hq rfl
      refine⟨e,a₁,w₁,hq, ?_⟩
      cases e with
      |normal=>exact absurd rfl hne
      |exit id=>exact .pass (x:= .inLoop c) rfl (λ_ _=> .inl (by simp)) harr
      |goto l=>exact .pass (x:= .inLoop c) rfl (λ_ _=> .inl (by simp)) harr
      |ret=>exact .pass (x:= .inLoop c) rfl (λ_ _=> .inl (by simp)) harr
      |panic ch=>exact .pass (x:= .inLoop c) rfl (λ_ _=> .inl (by simp)) harr
      |outgrown=>exact .pass (x:= .inLoop c) rfl (λ_ _=> .inl (by simp)) harr
      rename_i s' hst
      have hr:=body s0 _ hst hin' a w hs
      obtain⟨e,a₁,w₁,⟨rfl,hs'⟩,harr⟩:=hr b (.inLoop c::k) cs
      obtain⟨e₂,a₂,w₂,hq₂,harr₂⟩:=ih s' h a₁ w₁ hs' b k cs
      exact⟨e₂,a₂,w₂,hq₂, .of_steps (Steps.trans harr (.one step_inLoop)) harr₂⟩
  intro a w hs b k cs
  obtain⟨e,a',w',hq,harr⟩:=key n s0 ho a w hs b k cs
  exact⟨e,a',w',hq, .of_steps (.one step_loop) harr⟩
/-! Functions. -/
def r0I(P:Program)(L:LE)(H:a0f):ResultVar->Option SV
  | .tmp t=>some (lk L t)
  | .cell t ty=>match lk L t with
    | .ptr b off=>match(H[b]?).bind b0F with
      |some cs=>b0j P ty (cs.drop off)
      |none=>none
    |_=>none
def A0G {α β:Type} (f:α->Option β):List α->Option (List β)
  | []=>some []
  |x::r=>match f x,A0G f r with
    |some y,some ys=>some (y::ys)
    |_,_=>none
def r0r(P:Program)(rs:List ResultVar)(L:LE)(H:a0f):Option SV:=
  match rs with
  | [r]=>r0I P L H r
  |rs=>(A0G (r0I P L H) rs).map .tup
def d0F:List ResultVar->List Nat
  | []=> []
  | .tmp t::rs=>t::d0F rs
  | .cell t _::rs=>t::d0F rs
def i0G(n:Nat)(rs:List ResultVar):Bool:=(d0F rs).all (λt=>decide (t<n))
def q0k(tm:Array Value)(r:ResultVar):Sem Value:=
  match r with
  | .tmp t=>pure (tm.getD t undef)
  | .cell a t=>do loadVar t (<-asAddr (tm.getD a undef))
theorem t0L(fn:Func)(tm:Array Value):results fn tm=(do
    let vs<-fn.results.mapM (q0k tm)
    pure (if h:vs.size=1 then vs[0]else .tuple vs)):=rfl
theorem v0l {w:World} {K:Nat->Nat} {D:DM} {tm:Array Value} (h:Inv F w K D H (a0v L) tm) {r:ResultVar} {s:SV} (ht: ∀t∈d0F [r],t<F.n)(hs:r0I P L H r=some s):
    ∃v,(q0k tm r).run P w= .ok v w/\Rep w K D v s:=by
  cases r with
  |tmp t=>
    simp only[r0I]at hs
    cases hs
    exact⟨_,rfl,h.slots.rep t (ht t (by simp[d0F]))⟩
  |cell t ty=>
    simp only[r0I]at hs
    have htn:=ht t (by simp[d0F])
    split at hs
    rename_i bi off hv
    split at hs
    rename_i cs hcs
    have hr:=h.slots.rep t htn
    rw[show a0v L t=lk L t from rfl,hv]at hr
    obtain⟨b,c,m,hvx,hd⟩:=l0Z hr
    cases hH:H[bi]? with
    |none=>rw[hH]at hcs;cases hcs
    |some en=>
      rw[hH]at hcs
      obtain⟨vs,rest,e,hheap,hcr,_,_⟩:=s0o h.hinv hH hd hcs
      have hrow:=(f0u hheap hcr).drop off
      rw[aW]at hrow
      obtain⟨v,hrun,hrep'⟩:=i0s (P:=P) hrow hs
      refine⟨v, ?_,hrep'⟩
      simp only[q0k,hvx]
      simp[asAddr,hrun]
    cases hs
    cases hs
theorem t0M {w:World} {K:Nat->Nat} {D:DM} {tm:Array Value} (h:Inv F w K D H (a0v L) tm): ∀(rs:List ResultVar) (vs:List SV),(∀t∈d0F rs,t<F.n)->A0G (r0I P L H) rs=some vs->
    ∃us,(rs.mapM (q0k tm)).run P w= .ok us w/\us.length=vs.length/\us.length=rs.length/\(∀(j:Nat) (v:Value) (c:SV),us[j]?=some v->vs[j]?=some c->Rep w K D v c):=by
  intro rs
  induction rs with
  |nil=>intro vs _ hv;simp[A0G]at hv;subst hv;exact⟨[],rfl,rfl,rfl,λj v c e=>by simp at e⟩
  |cons r rs ih=>
    intro vs ht hv
    have htl:d0F (r::rs)=d0F [r]++d0F rs:=by cases r<;>rfl
    simp only[A0G]at hv
    split at hv
    rename_i s ss h1 h2
    cases hv
    obtain⟨u,hu1,hu2⟩:=v0l (P:=P) h (r:=r) (λt hm=>ht t (by rw[htl];exact av.2 (.inl hm))) h1
    obtain⟨us,i1,i2,i3,i4⟩:=ih ss (λt hm=>ht t (by rw[htl];exact av.2 (.inr hm))) h2
    refine⟨u::us, ?_,by simp[i2],by simp[i3],λj v c hv hc=> ?_⟩
    simp only[cg,Sem.run_bind,hu1,Result.andThen_ok,i1,Sem.run_pure]
    cases j with
    |zero=>simp at hv hc;subst hv;subst hc;exact hu2
    |succ j=>exact i4 j v c (by simpa using hv) (by simpa using hc)
    cases hv
def s0P(P:Program)(fn:Func)(F:Fr)(v:SV)(H':a0f):f0C:=λe a w=>(e= .normal\/e= .ret)/\a.defers=F.ds/\ ∃r,(results fn a.tmps).run P w= .ok r w/\Good F.w0 F.K0 F.D0 F.H0 r w v H'
structure Back (m0:Nat) (H:a0f) (f:Nat->Nat) (v1 v:SV) (H':a0f):Prop where
  sel:Sel H f H'
  keep: ∀j,j<m0->f j=j
  le:m0<=H'.length
  val:v1=SV.rn f v
  refs:SV.refs H'.length v=true
mutual
theorem t0J: ∀(s:SV),SV.rn (λj=>j) s=s
  | .agg cs=>by simp only[SV.rn];rw[n0p cs]
  | .tup cs=>by simp only[SV.rn];rw[n0p cs]
  | .fn q a b=>by simp only[SV.rn];rw[n0p a,n0p b]
  | .ptr _ _=>rfl
  | .vc _=>rfl
  | .sl _ _ _ _=>rfl
  | .mp _=>rfl
  | .undef=>rfl
  | .bool _=>rfl
  | .int _ _=>rfl
  | .str _=>rfl
  | .nl=>rfl
  | .lst _ _ _=>rfl
  | .ep _=>rfl
  | .nilp=>rfl
  | .yld _=>rfl
theorem n0p: ∀(cs:List SV),SV.rnL (λj=>j) cs=cs
  | []=>rfl
  |c::cs=>by simp only[SV.rnL];rw[t0J c,n0p cs]
end
theorem y0P(en:Ent):Ent.rn (λj=>j) en=en:=by
  cases en<;>simp[Ent.rn,n0p,t0J]
theorem Back.drop {m0:Nat} {H' ex:a0f} {v:SV} (hle:m0<=H'.length)(hr:SV.refs H'.length v=true)(hH:H'.all (Ent.refs H'.length)=true):Back m0 (H'++ex) (λj=>j) v v H':=
  ⟨⟨λj en hj=>by rw[y0P,bz (ab.1 hj).1];exact hj,λi j _ _ e=>e,λj en hj=>List.all_eq_true.1 hH en (aA hj)⟩,λ_ _=>rfl,hle,(t0J v).symm,hr⟩
theorem h0Z {w:World} {K:Nat->Nat} {D:DM} {w0:World} {K0:Nat->Nat} {D0:DM} {H0 H':a0f} {f:Nat->Nat} {r:Value} {v1 v:SV} (hg:Grow w0 K0 D0 H0 w K D H)(hi:HInv w K D H)(hr:Rep w K D r v1)(hb:Back H0.length H f v1 v H')
    (hdom: ∀i,H0.length<=i->D0 i=none):Good w0 K0 D0 H0 r w v H':=by
  refine⟨K,i0F D f H'.length,⟨hg.os,hg.tape,hg.output,hg.size,hg.block,hg.cells,hg.le,hg.kk,λi x hx=> ?_,λb hm=>hg.new b (hb.sel.mem hm)⟩,hb.sel.hinv hi,f0e hr v hb.val hb.refs⟩
  have hil:i<H0.length:=by
    rcases br i H0.length with h|h
    exact h
    rw[hdom i h]at hx;cases hx
  simp only[i0F,if_pos (aU hil hb.le),hb.keep i hil]
  exact hg.dd i x hx
theorem n0q {fn:Func} {v1:SV} {w:World} {K:Nat->Nat} {D:DM} {tm:Array Value} (hi:Inv F w K D H (a0v L) tm)(hin:i0G F.n fn.results.toList=true)(hret:r0r P fn.results.toList L H=some v1):
    ∃r,(results fn tm).run P w= .ok r w/\Rep w K D r v1:=by
  simp only[i0G,List.all_eq_true,decide_eq_true_eq]at hin
  have hres: ∀us,(fn.results.toList.mapM (q0k tm)).run P w= .ok us w->
      (results fn tm).run P w= .ok (if h:us.toArray.size=1 then us.toArray[0]else .tuple us.toArray) w:=by
    intro us hus
    rw[t0L,Array.mapM_eq_mapM_toList]
    simp[hus]
  unfold r0r at hret
  split at hret
  rename_i rr hrs
  rw[hrs]at hres hin
  obtain⟨u,h1,h2⟩:=v0l (P:=P) hi hin hret
  refine⟨u, ?_,h2⟩
  have:=hres [u] (by simp[h1])
  simpa using this
  rename_i hne
  cases hm:A0G (r0I P L H) fn.results.toList with
  |none=>rw[hm]at hret;cases hret
  |some vs=>
    rw[hm]at hret
    cases hret
    obtain⟨us,h1,h2,h3,h4⟩:=t0M (P:=P) hi _ vs hin hm
    have hn1:us.length≠1:=by
      intro he1
      obtain⟨x,hx⟩:=List.length_eq_one_iff.1 (h3.symm.trans he1)
      exact hne x hx
    refine⟨.tuple us.toArray,by have:=hres _ h1;rw[dif_neg (by simpa using hn1)]at this;exact this, .tup us vs h2.symm h4⟩
theorem PJ.end {fn:Func} {e:Exit} {v v1:SV} {H':a0f} {f:Nat->Nat} (he:e= .normal\/e= .ret)(hin:i0G F.n fn.results.toList=true)(hret:r0r P fn.results.toList L H=some v1)(hb:Back F.H0.length H f v1 v H')(hdom: ∀i,F.H0.length<=i->F.D0 i=none):
    PJ F (s0P P fn F v H') e L H:=by
  intro a w hs
  obtain⟨hd,K,D,hi⟩:=hs
  refine⟨he,hd, ?_⟩
  obtain⟨r,h1,h2⟩:=n0q (P:=P) hi hin hret
  exact⟨r,h1,h0Z hi.grow hi.hinv h2 hb hdom⟩
def f0b:Nat->List SV->LE
  |_,[]=> []
  |i,v::r=>(i,v)::f0b (i+1) r
theorem k0b: ∀(args:List SV) (i t:Nat),lk (f0b i args) t=if i<=t then(args[t-i]?).getD .undef else .undef
  | [],i,t=>by simp[f0b,lk]
  |v::r,i,t=>by
    simp only[f0b,lk]
    cases hb:Nat.beq t i with
    |true=>have:=ae hb;subst this;simp
    |false=>
      have hne:t≠i:=λe=>by subst e;simp at hb
      simp only[cond_false]
      rw[k0b r (i+1) t]
      by_cases hle:i<=t
      rw[if_pos hle,if_pos (by omega),show t-i=(t-(i+1))+1 from by omega]
      simp
      rw[if_neg hle,if_neg (by omega)]
theorem A0D {P:Program} {f:FuncId} {fn:Func} {c:Code} (hf:P.funcs[f]?=some fn)(hb:fn.body=some c)(hcal:b0P P f=true)(hin:b0E fn.ntmps c=true)
    {args:List SV} {H:a0f} {v:SV} {H':a0f} (hn:args.length<=fn.ntmps)
    (h: ∀F:Fr,F.n=fn.ntmps->F.H0=H->(∀i,F.H0.length<=i->F.D0 i=none)->J F P c (f0b 0 args) H (s0P P fn F v H')):SC P f args H v H':=by
  refine⟨hcal,λw K D vals hl hrep hi hG=> ?_⟩
  let F:Fr:=⟨fn.ntmps,w,K,D,H,[]⟩
  have hslots:Slots fn.ntmps w K D (a0v (f0b 0 args)) (vals.toArray++Array.replicate (fn.ntmps-vals.toArray.size) undef):=by
    refine⟨by simp;omega,λi hin=> ?_,hG⟩
    show Rep w K D _ (lk (f0b 0 args) i)
    rw[k0b,if_pos (bg _),bC]
    by_cases hia:i<args.length
    have hiv:i<vals.length:=by omega
    rw[ac hia,ba]
    have hg:(vals.toArray++Array.replicate (fn.ntmps-vals.toArray.size) undef).getD i undef=vals[i]:=by
      rw[aT,bu (by simpa using hiv)]
      simp[hiv]
    rw[hg]
    exact hrep i _ _ (ac hiv) (ac hia)
    rw[aw (by omega)]
    exact .undef _
  have hst:Sees F (f0b 0 args) H { tmps:=vals.toArray++Array.replicate (fn.ntmps-vals.toArray.size) undef,defers:=[] } w:=⟨rfl,K,D,⟨hslots,hi,Grow.refl _ _ _ _⟩⟩
  refine calls_of_wp hf hb (Code.wp_mono (λe a' w' hq=> ?_) (h F rfl rfl hi.dom hin _ w hst))
  obtain⟨he,hd,r,hr,hg⟩:=hq
  rcases he with rfl|rfl<;>exact⟨hd,r,hr,r,rfl,hg⟩
end
end
section
variable [Inhabited GT]
mutual
def SV.fz(i:Nat)(s0:SV):SV->SV
  | .agg cs=> .agg (SV.fzL i s0 cs)
  | .tup cs=> .tup (SV.fzL i s0 cs)
  | .fn g a b=> .fn g (SV.fzL i s0 a) (SV.fzL i s0 b)
  | .vc j=>bif Nat.beq j i then s0 else .vc j
  | .ptr j off=> .ptr j off
  | .sl j off n k=> .sl j off n k
  | .mp j=> .mp j
  | .undef=> .undef
  | .bool b=> .bool b
  | .int k n=> .int k n
  | .str s=> .str s
  | .nl=> .nl
  | .lst n k cs=> .lst n k cs
  | .ep cs=> .ep cs
  | .nilp=> .nilp
  | .yld j=> .yld j
def SV.fzL(i:Nat)(s0:SV):List SV->List SV
  | []=> []
  |c::cs=>SV.fz i s0 c::SV.fzL i s0 cs
end
theorem m0o(i:Nat)(s0:SV): ∀(cs:List SV) (j:Nat),(SV.fzL i s0 cs)[j]?=(cs[j]?).map (SV.fz i s0)
  | [],j=>by simp[SV.fzL]
  |c::cs,j=>by
    cases j with
    |zero=>simp[SV.fzL]
    |succ j=>simpa [SV.fzL]using m0o i s0 cs j
theorem g0M(i:Nat)(s0:SV): ∀(cs:List SV),(SV.fzL i s0 cs).length=cs.length
  | []=>rfl
  |c::cs=>by simp[SV.fzL,g0M i s0 cs]
def Ent.fz(i:Nat)(s0:SV):Ent->Ent
  | .box cs=> .box (SV.fzL i s0 cs)
  |e=>e
section
variable {w : World} {K K' : Nat -> Nat} {D : DM}
theorem y0y {i:Nat} {s0:SV} (hm: ∀v s,Rep w K D v s->Rep w K' D v s)(h0: ∀v,Rep w K D v (.vc i)->Rep w K' D v s0) {v:Value} {s:SV} (h:Rep w K D v s):Rep w K' D v (SV.fz i s0 s):=by
  induction h with
  |undef v=>exact .undef _
  |bool b=>exact .bool _
  |int k n=>exact .int _ _
  |str sb=>exact .str _
  |nl a=>exact .nl _
  |emp k a cap=>exact .emp _ _ _
  |lst k b off len cap vs cs hk hl hc hcap hmm hK h1 hp h _=>exact hm _ _ (.lst k b off len cap vs cs hk hl hc hcap hmm hK h1 hp h)
  |ep b off vs cs hc hmm hK h1 hp h _=>exact hm _ _ (.ep b off vs cs hc hmm hK h1 hp h)
  |agg vs cs hc h1 _ ih=>
    refine .agg vs _ (by rw[g0M,hc]) h1 (λj v c hv hcc=> ?_)
    rw[m0o]at hcc
    cases hx:cs[j]? with
    |none=>rw[hx]at hcc;cases hcc
    |some x=>rw[hx]at hcc;cases hcc;exact ih j v x hv hx
  |tup vs cs hc _ ih=>
    refine .tup vs _ (by rw[g0M,hc]) (λj v c hv hcc=> ?_)
    rw[m0o]at hcc
    cases hx:cs[j]? with
    |none=>rw[hx]at hcc;cases hcc
    |some x=>rw[hx]at hcc;cases hcc;exact ih j v x hv hx
  |ptr i off b c n hd=>exact .ptr _ _ b c n hd
  |vcn j a hd=>
    simp only[SV.fz]
    cases hb:Nat.beq j i with
    |true=>have:=ae hb;subst this;exact h0 _ (.vcn _ a hd)
    |false=>exact .vcn _ a hd
  |vc j b c n hd=>
    simp only[SV.fz]
    cases hb:Nat.beq j i with
    |true=>have:=ae hb;subst this;exact h0 _ (.vc _ b c n hd)
    |false=>exact .vc _ b c n hd
  |sl i off n k b c m' cap hd hn=>exact .sl _ _ _ _ b c m' cap hd hn
  |mp i r c n hd=>exact .mp _ r c n hd
  |fn q fs caps gs dcs hc hd _ _ ih ih'=>
    refine .fn q fs caps _ _ (by rw[g0M,hc]) (by rw[g0M,hd]) (λj v c hv hcc=> ?_) (λj v c hv hcc=> ?_)
    rw[m0o]at hcc
    cases hx:gs[j]? with
    |none=>rw[hx]at hcc;cases hcc
    |some x=>rw[hx]at hcc;cases hcc;exact ih j v x hv hx
    rw[m0o]at hcc
    cases hx:dcs[j]? with
    |none=>rw[hx]at hcc;cases hcc
    |some x=>rw[hx]at hcc;cases hcc;exact ih' j v x hv hx
  |nilp=>exact .nilp
  |yld i l c n hd=>exact .yld _ l c n hd
theorem y0R {i j:Nat} {s0:SV} {en:Ent} (hr: ∀v s,Rep w K D v s->Rep w K' D v (SV.fz i s0 s))(hp: ∀v s,Rep w K D v s->Rep w K' D v s)(h:EntOk w K D j en)
    (hK: ∀b c n,f0z en=true->D j=some (.at b c n)->K' b=K b):EntOk w K' D j (Ent.fz i s0 en):=by
  cases en with
  |res=>exact h
  |gone=>trivial
  |box cs=>
    obtain⟨b,vs,e,h1,h2,h3,h4⟩:=h
    refine⟨b,vs,e,h1,by rw[hK b 0 0 rfl h1];exact h2,h3,⟨by rw[g0M,h4.len],h4.one,λj v c hv hc=> ?_⟩⟩
    rw[m0o]at hc
    cases hx:cs[j]? with
    |none=>rw[hx]at hc;cases hc
    |some x=>rw[hx]at hc;cases hc;exact hr _ _ (h4.rep j v x hv hx)
  |vec n k e cs=>exact h.keep (w':=w) hp rfl (λb c n' hl hd=>⟨rfl,hK b c n' hl hd⟩)
  |map es=>exact h.keep (w':=w) hp rfl (λb c n' hl hd=>⟨rfl,hK b c n' hl hd⟩)
  |pmap es=>exact h.keep (w':=w) hp rfl (λb c n' hl hd=>⟨rfl,hK b c n' hl hd⟩)
  |itr m n s=>exact h.keep (w':=w) hp rfl (λb c n' hl hd=>⟨rfl,hK b c n' hl hd⟩)
  |lop tm ps as bd st pd=>exact h.keep (w':=w) hp rfl (λb c n' hl hd=>⟨rfl,hK b c n' hl hd⟩)
  |dfr=>exact h.keep (w':=w) hp rfl (λb c n' hl hd=>⟨rfl,hK b c n' hl hd⟩)
theorem m0g {i:Nat} {s0:SV} (en:Ent):f0z (Ent.fz i s0 en)=f0z en:=by cases en<;>rfl
end
def fzE(i:Nat)(s0:SV)(L:LE):LE:=L.map λp=>(p.1,SV.fz i s0 p.2)
theorem q0L(i:Nat)(s0:SV): ∀(L:LE) (t:Nat),lk (fzE i s0 L) t=SV.fz i s0 (lk L t)
  | [],t=>rfl
  |(j,v)::r,t=>by
    simp only[fzE,aj,lk]
    cases Nat.beq t j with
    |true=>rfl
    |false=>exact q0L i s0 r t
def fzH(i:Nat)(s0:SV)(H:a0f):a0f:=(H.map (Ent.fz i s0)).set i .gone
section
variable {F : Fr} {P : Program} {L : LE} {H : a0f}
theorem Wk.freeze(i:Nat) {n k:Nat} {e:TypeId} {cs:List SV} (hi:H[i]?=some (.vec n k e cs)):Wk F L H (fzE i (.lst n k cs) L) (fzH i (.lst n k cs) H):=by
  intro a w hs
  obtain⟨hd,K,D,h⟩:=hs
  have hil:i<H.length:=(ab.1 hi).1
  obtain⟨hp,hent⟩:=h.hinv.ent i _ hi
  have hget: ∀j en,(fzH i (.lst n k cs) H)[j]?=some en->(j=i/\en= .gone)\/(j≠i/\ ∃en0,H[j]?=some en0/\en=Ent.fz i (.lst n k cs) en0):=by
    intro j en hj
    unfold fzH at hj
    rw[aL]at hj
    by_cases hji:i=j
    · subst hji
      rw[if_pos rfl]at hj
      split at hj<;>cases hj
      exact .inl ⟨rfl,rfl⟩
    rw[if_neg hji,al]at hj
    cases hx:H[j]? with
    |none=>rw[hx]at hj;cases hj
    |some en0=>rw[hx]at hj;cases hj;exact .inr ⟨Ne.symm hji,en0,rfl,rfl⟩
  -- what is settled from now on
  have key: ∃K':Nat->Nat,(∀b,K b<=K' b)/\(∀v,Rep w K D v (.vc i)->Rep w K' D v (.lst n k cs))/\(∀b,K' b≠K b->Mem D H b)/\(∀j en b c n',j≠i->H[j]?=some en->f0z en=true->D j=some (.at b c n')->K' b=K b):=by
    rcases hent with⟨h1,h2,h3⟩|⟨b,c,vs,rest,h1,h2,h3,h4,h5,h6,h7,h8,h9⟩
    subst h2;subst h3
    refine⟨K,λ_=>ai _,λv hv=> ?_,λb hb=>absurd rfl hb,λ_ _ _ _ _ _ _ _ _=>rfl⟩
    cases hv with
    |vcn _ ad hd=>exact .emp _ _ _
    |vc _ b c n hd=>rw[h1]at hd;cases hd
    have hmono: ∀b',K b'<=(if b'=b then n*k else K b'):=λb'=>by
      split
      rename_i e1;subst e1;omega
      exact ai _
    refine⟨λb'=>if b'=b then n*k else K b',hmono,λv hv=> ?_,λb' hb'=> ?_,λj en b' c' n' hji hj hl hdj=> ?_⟩
    cases hv with
    |vcn _ ad hd=>rw[h1]at hd;cases hd
    |vc _ b' c' n' hd=>
      rw[h1]at hd;cases hd
      have hrow:=f0u h6 h9
      have hm: ∀v s,Rep w K D v s->Rep w (λb'=>if b'=b then n*k else K b') D v s:=λv s hr=>hr.mono (λ_ _ _=>rfl) hmono (λ_ _ e=>e)
      exact .lst k b 0 n c vs cs h3 h7 h9.len h4 hrow.mem (by simp[h7]) h9.one hp (λj v c hv hc=>hm _ _ (h9.rep j v c hv hc))
    have:b'=b:=by
      rcases Nat.decEq b' b with hne|he
      exact absurd (if_neg hne) hb'
      exact he
    subst this
    exact⟨i,_,c,n,hi,rfl,h1⟩
    refine if_neg λe1=> ?_
    subst e1
    exact hji (h.hinv.inj j i en _ b' c' n' c n hj hi hl rfl hdj h1)
  obtain⟨K',k1,k2,k3,k4⟩:=key
  have hm: ∀v s,Rep w K D v s->Rep w K' D v s:=λv s hr=>hr.mono (λ_ _ _=>rfl) k1 (λ_ _ e=>e)
  have hf: ∀v s,Rep w K D v s->Rep w K' D v (SV.fz i (.lst n k cs) s):=λv s hr=>y0y hm k2 hr
  have hmem: ∀b,Mem D (fzH i (.lst n k cs) H) b->Mem D H b:=by
    rintro b ⟨j,en,c,n',q1,q2,q3⟩
    rcases hget j en q1 with⟨_,rfl⟩|⟨_,en0,g1,rfl⟩
    cases q2
    rw[m0g]at q2;exact⟨j,en0,c,n',g1,q2,q3⟩
  have g:=h.grow
  refine⟨hd,K',D,⟨⟨h.slots.size,λt ht=> ?_,λg cs hg=>(h.slots.glob g cs hg).mono (λ_ _ _=>rfl) k1 (λ_ _ e=>e)⟩,⟨λj hj=>h.hinv.dom j (by unfold fzH at hj;simpa using hj),λj en hj=> ?_,λj j' en en' b c n1 c' n1' hj hj' hl hl' hdj hdj'=> ?_,λb hb=> ?_⟩,
    ⟨g.os,g.tape,g.output,g.size,g.block,g.cells,λb=>aI (g.le b) (k1 b),λb hb hmm=> ?_,g.dd,λb hmm=>g.new b (hmem b hmm)⟩⟩⟩
  show Rep w K' D _ (lk (fzE i (.lst n k cs) L) t)
  rw[q0L]
  exact hf _ _ (h.slots.rep t ht)
  rcases hget j en hj with⟨_,rfl⟩|⟨hne,en0,g1,rfl⟩
  trivial
  exact y0R hf hm (h.hinv.ent j en0 g1) (λb c n' hl hdj=>k4 j en0 b c n' hne g1 hl hdj)
  rcases hget j en hj with⟨_,rfl⟩|⟨_,en0,g1,rfl⟩
  cases hl
  rcases hget j' en' hj' with⟨_,rfl⟩|⟨_,en0',g1',rfl⟩
  cases hl'
  rw[m0g]at hl hl'
  exact h.hinv.inj j j' en0 en0' b c n1 c' n1' g1 g1' hl hl' hdj hdj'
  by_cases hbb:K' b=K b
  rw[hbb]at hb;exact h.hinv.kw b hb
  exact(h0M h.hinv (k3 b hbb)).1
  by_cases hbb:K' b=K b
  rw[hbb];exact g.kk b hb hmm
  rcases g.new b (k3 b hbb)with q|q
  exact absurd q hmm
  omega
theorem i0V(D:DM)(i:Nat)(l:Loc):e0E D i l i=some l:=by simp[e0E]
theorem k0F(D:DM) {i j:Nat} (l:Loc)(h:j≠i):e0E D i l j=D j:=by simp[e0E,h]
theorem Wk.move(i:Nat) {n k:Nat} {e:TypeId} {cs:List SV} (hi:H[i]?=some (.vec n k e cs)):Wk F L H (fzE i (.vc H.length) L) (fzH i (.vc H.length) H++ [.vec n k e cs]):=by
  intro a w hs
  obtain⟨hd,K,D,h⟩:=hs
  have hil:i<H.length:=(ab.1 hi).1
  have hent:=h.hinv.ent i _ hi
  obtain⟨x,hx⟩: ∃x,D i=some x:=by
    rcases hent.2 with⟨h1,_⟩|⟨b,c,_,_,h1,_⟩
    exact⟨_,h1⟩
    exact⟨_,h1⟩
  have hN:D H.length=none:=h.hinv.dom _ (ai _)
  have hDD: ∀j y,D j=some y->e0E D H.length x j=some y:=λj y hj=>by
    have:j≠H.length:=λe1=>by rw[e1,hN]at hj;cases hj
    rw[k0F D x this];exact hj
  have hm: ∀v s,Rep w K D v s->Rep w K (e0E D H.length x) v s:=λv s hr=>hr.mono (λ_ _ _=>rfl) (λ_=>ai _) hDD
  have h0: ∀v,Rep w K (e0E D H.length x) v (.vc i)->Rep w K (e0E D H.length x) v (.vc H.length):=λv hv=>by
    have e1:e0E D H.length x i=some x:=hDD i x hx
    cases hv with
    |vcn _ ad hd=>rw[e1]at hd;exact .vcn _ ad (by rw[i0V];exact hd)
    |vc _ b c n hd=>rw[e1]at hd;exact .vc _ b c n (by rw[i0V];exact hd)
  have hf: ∀v s,Rep w K (e0E D H.length x) v s->Rep w K (e0E D H.length x) v (SV.fz i (.vc H.length) s):=λv s hr=>y0y (λ_ _ h=>h) h0 hr
  have hlen:(fzH i (.vc H.length) H).length=H.length:=by simp[fzH]
  have hget: ∀j en,(fzH i (.vc H.length) H++ [.vec n k e cs])[j]?=some en->(j=i/\en= .gone)\/(j≠i/\j<H.length/\ ∃en0,H[j]?=some en0/\en=Ent.fz i (.vc H.length) en0)\/(j=H.length/\en= .vec n k e cs):=by
    intro j en hj
    rw[aD,hlen]at hj
    by_cases hjl:j<H.length
    rw[if_pos hjl]at hj
    unfold fzH at hj
    by_cases hji:i=j
    subst hji
    rw[bO (by simpa using hil)]at hj
    cases hj;exact .inl ⟨rfl,rfl⟩
    rw[bH hji,al]at hj
    cases hxx:H[j]? with
    |none=>rw[hxx]at hj;cases hj
    |some en0=>rw[hxx]at hj;cases hj;exact .inr (.inl ⟨Ne.symm hji,hjl,en0,rfl,rfl⟩)
    rw[if_neg hjl]at hj
    have hj0:j-H.length=0:=by
      have:=(ab.1 hj).1
      simp at this;omega
    rw[hj0]at hj
    simp only[bK,ag]at hj
    exact .inr (.inr ⟨by omega,hj.symm⟩)
  have hmem: ∀b,Mem (e0E D H.length x) (fzH i (.vc H.length) H++ [.vec n k e cs]) b->Mem D H b:=by
    rintro b ⟨j,en,c,n',q1,q2,q3⟩
    rcases hget j en q1 with⟨_,rfl⟩|⟨_,hjl,en0,g1,rfl⟩|⟨rfl,rfl⟩
    cases q2
    rw[m0g]at q2;rw[k0F D x (by omega)]at q3;exact⟨j,en0,c,n',g1,q2,q3⟩
    rw[i0V]at q3;exact⟨i,_,c,n',hi,rfl,by rw[hx];exact q3⟩
  have g:=h.grow
  refine⟨hd,K,e0E D H.length x,⟨⟨h.slots.size,λt ht=> ?_,g0F h.slots.glob⟩,⟨λj hj=> ?_,λj en hj=> ?_,λj j' en en' b c n1 c' n1' hj hj' hl hl' hdj hdj'=> ?_,λb hb=>h.hinv.kw b hb⟩,
    ⟨g.os,g.tape,g.output,g.size,g.block,g.cells,g.le,g.kk,λj y hj=>hDD j y (g.dd j y hj),λb hmm=>g.new b (hmem b hmm)⟩⟩⟩
  show Rep w K _ _ (lk (fzE i (.vc H.length) L) t)
  rw[q0L]
  exact hf _ _ (hm _ _ (h.slots.rep t ht))
  rw[ay,hlen]at hj
  simp only[aS,bM]at hj
  rw[k0F D x (by omega)];exact h.hinv.dom j (by omega)
  rcases hget j en hj with⟨_,rfl⟩|⟨hne,hjl,en0,g1,rfl⟩|⟨rfl,rfl⟩
  trivial
  have he0:EntOk w K (e0E D H.length x) j en0:=(h.hinv.ent j en0 g1).keep hm (k0F D x (by omega)) (λ_ _ _ _ _=>⟨rfl,rfl⟩)
  exact y0R hf (λ_ _ h=>h) he0 (λ_ _ _ _ _=>rfl)
  obtain⟨hp,hh⟩:=hent
  refine⟨hp, ?_⟩
  rcases hh with⟨h1,h2,h3⟩|⟨b,c,vs,rest,h1,h2,h3,h4,h5,h6,h7,h8,h9⟩
  exact .inl ⟨by rw[i0V,<-hx];exact h1,h2,h3⟩
  exact .inr ⟨b,c,vs,rest,by rw[i0V,<-hx];exact h1,h2,h3,h4,h5,h6,h7,h8,h9.mono hm⟩
  rcases hget j en hj with⟨_,rfl⟩|⟨hne,hjl,en0,g1,rfl⟩|⟨rfl,rfl⟩
  cases hl
  rw[k0F D x (by omega)]at hdj
  rw[m0g]at hl
  rcases hget j' en' hj' with⟨_,rfl⟩|⟨hne',hjl',en0',g1',rfl⟩|⟨rfl,rfl⟩
  cases hl'
  rw[k0F D x (by omega)]at hdj'
  rw[m0g]at hl'
  exact h.hinv.inj j j' en0 en0' b c n1 c' n1' g1 g1' hl hl' hdj hdj'
  rw[i0V,<-hx]at hdj'
  exact absurd (h.hinv.inj j i en0 _ b c n1 c' n1' g1 hi hl rfl hdj hdj') hne
  rw[i0V,<-hx]at hdj
  rcases hget j' en' hj' with⟨_,rfl⟩|⟨hne',hjl',en0',g1',rfl⟩|⟨rfl,rfl⟩
  cases hl'
  rw[k0F D x (by omega)]at hdj'
  rw[m0g]at hl'
  exact absurd (h.hinv.inj i j' _ en0' b c n1 c' n1' hi g1' rfl hl' hdj hdj').symm hne'
  rfl
theorem p0u {w:World} {K:Nat->Nat} {D:DM} (h:HInv w K D H)(k:Nat)(e:TypeId):Grow w K D H w K (e0E D H.length .nil) (H++ [.vec 0 k e []])/\HInv w K (e0E D H.length .nil) (H++ [.vec 0 k e []]):=by
  have:=n0s h (idx:=H.length) (.inl rfl) none (by simp) k e
  rw[e0T]at this
  have hs:g0m H H.length (.vec 0 k e [])=H++ [.vec 0 k e []]:=by unfold g0m;rw[if_neg (Nat.lt_irrefl _)]
  rw[hs]at this
  exact this
theorem Wk.viv(t k:Nat)(e:TypeId)(ht:lk L t= .nl):Wk F L H ((t, .vc H.length)::L) (H++ [.vec 0 k e []]):=by
  intro a w hs
  obtain⟨hd,K,D,h⟩:=hs
  obtain⟨g,hi⟩:=p0u h.hinv k e
  refine⟨hd,K,_,⟨⟨h.slots.size,λi hin=> ?_,λgg cs hg=>g.rep (h.slots.glob gg cs hg)⟩,hi,h.grow.trans g⟩⟩
  have hr:=g.rep (h.slots.rep i hin)
  show Rep w K _ _ (lk _ i)
  simp only[lk]
  cases hb:Nat.beq i t with
  |true=>
    have:=ae hb
    subst this
    rw[show a0v L i=lk L i from rfl,ht]at hr
    generalize a.tmps.getD i undef=x at hr⊢
    cases hr
    exact .vcn _ _ (by simp[e0E])
  |false=>exact hr
/-! Entries under other numbers. -/
def b0r(σ:List Nat):Nat->Nat:=λj=>σ.getD j 0
theorem Sel.of {H2:a0f} (σ:List Nat)(hl:σ.length=H2.length)(hg:σ.map (λi=>H[i]?)=H2.map (λen=>some (Ent.rn (b0r σ) en)))(hn:σ.Nodup)(hr:H2.all (Ent.refs H2.length)=true):Sel H (b0r σ) H2:=by
  refine⟨λj en hj=> ?_,λi j hi hj e=> ?_,λj en hj=>List.all_eq_true.1 hr en (aA hj)⟩
  have hjl:=(ab.1 hj).1
  have h1:=congrArg (λl=>l[j]?) hg
  simp only[al,hj,aP]at h1
  have h2:σ[j]?=some (σ[j]'(by omega)):=ac (by omega)
  rw[h2]at h1
  simp only[aP,ag]at h1
  unfold b0r
  rw[ak,h2]
  exact h1
  unfold b0r at e
  rw[ak,ak,ac (by omega),ac (by omega)]at e
  exact(List.getElem_inj hn).1 (by simpa using e)
theorem Wk.sel {L2:LE} {H2:a0f} (m0:Nat)(hm:F.H0.length=m0)(hdom: ∀i,F.H0.length<=i->F.D0 i=none)(σ:List Nat)(hl:σ.length=H2.length)(hg:σ.map (λi=>H[i]?)=H2.map (λen=>some (Ent.rn (b0r σ) en)))(hn:σ.Nodup)(hr:H2.all (Ent.refs H2.length)=true)
    (hk:σ.take m0=List.range m0) (hv:L2.map (λp=>lk L p.1)=L2.map (λp=>SV.rn (b0r σ) p.2)) (hvr:L2.all (λp=>SV.refs H2.length p.2)=true):Wk F L H L2 H2:=by
  have hsel:=Sel.of σ hl hg hn hr
  intro a w hs
  obtain⟨hd,K,D,h⟩:=hs
  have hlk: ∀(L3:LE) t,(∀p∈L3,p∈L2)->lk L3 t= .undef\/ ∃p∈L2,p.1=t/\lk L3 t=p.2:=by
    intro L3 t
    induction L3 with
    |nil=>intro _;exact .inl rfl
    |cons q r ih=>
      intro hmem
      obtain⟨j,v⟩:=q
      simp only[lk]
      cases hb:Nat.beq t j with
      |true=>have:=ae hb;subst this;exact .inr ⟨(t,v),hmem _ (ar ..),rfl,rfl⟩
      |false=>exact ih λp hp=>hmem p (am _ hp)
  have hval: ∀p∈L2,lk L p.1=SV.rn (b0r σ) p.2:=by
    intro p hp
    obtain⟨j,hj⟩:=aY.1 hp
    have:=congrArg (λl=>l[j]?) hv
    simpa [al,hj]using this
  have hkeep: ∀j,j<m0->b0r σ j=j:=by
    intro j hj
    have:=congrArg (λl=>l[j]?) hk
    simp only[aM,if_pos hj,bf hj]at this
    unfold b0r
    rw[ak,this];rfl
  have hmle:m0<=H2.length:=by
    have:=congrArg List.length hk
    simp at this;omega
  have g:=h.grow
  refine⟨hd,K,i0F D (b0r σ) H2.length,⟨⟨h.slots.size,λi hin=> ?_,g0F h.slots.glob⟩,hsel.hinv h.hinv,⟨g.os,g.tape,g.output,g.size,g.block,g.cells,g.le,g.kk,λi x hx=> ?_,λb hmm=>g.new b (hsel.mem hmm)⟩⟩⟩
  have hr1:=h.slots.rep i hin
  show Rep w K _ _ (lk L2 i)
  rcases hlk L2 i (λp hp=>hp)with e|⟨p,hp,rfl,e⟩
  rw[e];exact .undef _
  rw[e]
  refine f0e hr1 p.2 (hval p hp) ?_
  exact List.all_eq_true.1 hvr p hp
  have hil:i<m0:=by
    rcases br i m0 with h1|h1
    exact h1
    rw[hdom i (by omega)]at hx;cases hx
  simp only[i0F,if_pos (aU hil hmle),hkeep i hil]
  exact g.dd i x hx
end
def l0h:SV->Bool
  | .bool _=>true
  | .int _ _=>true
  | .str _=>true
  | .tup cs=>cs.all λc=>match c with
    | .bool _=>true
    | .int _ _=>true
    | .str _=>true
    |_=>false
  |_=>false
theorem t0N {w w':World} {K K':Nat->Nat} {D D':DM} {v:Value} {s:SV} (hs:l0h s=true)(h:Rep w K D v s):Rep w' K' D' v s:=by
  cases h with
  |bool b=>exact .bool _
  |int k n=>exact .int _ _
  |str sb=>exact .str _
  |tup vs cs hc h=>
    refine .tup vs cs hc (λj v c hv hcc=> ?_)
    have hr:=h j v c hv hcc
    simp only[l0h,List.all_eq_true]at hs
    have h1:=hs c (aA hcc)
    cases hr<;>first|(cases h1;done)|exact .bool _|exact .int _ _|exact .str _
  |_=>cases hs
mutual
def SV.fzA(H:a0f):SV->SV
  | .agg cs=> .agg (SV.fzAL H cs)
  | .tup cs=> .tup (SV.fzAL H cs)
  | .fn g a b=> .fn g (SV.fzAL H a) (SV.fzAL H b)
  | .vc j=>match H[j]? with
    |some (.vec n k _ cs)=> .lst n k cs
    |_=> .undef
  | .ptr _ _=> .undef
  | .sl _ _ _ _=> .undef
  | .mp _=> .undef
  | .undef=> .undef
  | .bool b=> .bool b
  | .int k n=> .int k n
  | .str s=> .str s
  | .nl=> .nl
  | .lst n k cs=> .lst n k cs
  | .ep cs=> .ep cs
  | .nilp=> .nilp
  | .yld _=> .undef
def SV.fzAL(H:a0f):List SV->List SV
  | []=> []
  |c::cs=>SV.fzA H c::SV.fzAL H cs
end
theorem k0d(H:a0f): ∀(cs:List SV) (j:Nat),(SV.fzAL H cs)[j]?=(cs[j]?).map (SV.fzA H)
  | [],j=>by simp[SV.fzAL]
  |c::cs,j=>by
    cases j with
    |zero=>simp[SV.fzAL]
    |succ j=>simpa [SV.fzAL]using k0d H cs j
theorem f0Q(H:a0f): ∀(cs:List SV),(SV.fzAL H cs).length=cs.length
  | []=>rfl
  |c::cs=>by simp[SV.fzAL,f0Q H cs]
theorem z0v {w:World} {K K':Nat->Nat} {D:DM} {H:a0f} (hm: ∀v s,s.plain=true->Rep w K D v s->Rep w K' (λ_=>none) v s)(hK: ∀b,K b<=K' b)(h0: ∀j v,Rep w K D v (.vc j)->Rep w K' (λ_=>none) v (SV.fzA H (.vc j))) {v:Value} {s:SV} (h:Rep w K D v s):
    Rep w K' (λ_=>none) v (SV.fzA H s):=by
  induction h with
  |undef v=>exact .undef _
  |bool b=>exact .bool _
  |int k n=>exact .int _ _
  |str sb=>exact .str _
  |nl a=>exact .nl _
  |emp k a cap=>exact .emp _ _ _
  |lst k b off len cap vs cs hk hl hc hcap hmm hK h1 hp h _=>exact hm _ (.lst len k cs) rfl (.lst k b off len cap vs cs hk hl hc hcap hmm hK h1 hp h)
  |ep b off vs cs hc hmm hKb h1 hp h _=>
    exact .ep b off vs cs hc hmm (aI hKb (hK b)) h1 hp (λj v c hv hcc=>hm v c (d0Q hp hcc) (h j v c hv hcc))
  |agg vs cs hc h1 _ ih=>
    refine .agg vs _ (by rw[f0Q,hc]) h1 (λj v c hv hcc=> ?_)
    rw[k0d]at hcc
    cases hx:cs[j]? with
    |none=>rw[hx]at hcc;cases hcc
    |some x=>rw[hx]at hcc;cases hcc;exact ih j v x hv hx
  |tup vs cs hc _ ih=>
    refine .tup vs _ (by rw[f0Q,hc]) (λj v c hv hcc=> ?_)
    rw[k0d]at hcc
    cases hx:cs[j]? with
    |none=>rw[hx]at hcc;cases hcc
    |some x=>rw[hx]at hcc;cases hcc;exact ih j v x hv hx
  |ptr i off b c n hd=>exact .undef _
  |vcn j a hd=>exact h0 _ _ (.vcn _ a hd)
  |vc j b c n hd=>exact h0 _ _ (.vc _ b c n hd)
  |sl i off n k b c m' cap hd hn=>exact .undef _
  |mp i r c n hd=>exact .undef _
  |fn q fs caps gs dcs hc hd _ _ ih ih'=>
    refine .fn q fs caps _ _ (by rw[f0Q,hc]) (by rw[f0Q,hd]) (λj v c hv hcc=> ?_) (λj v c hv hcc=> ?_)
    rw[k0d]at hcc
    cases hx:gs[j]? with
    |none=>rw[hx]at hcc;cases hcc
    |some x=>rw[hx]at hcc;cases hcc;exact ih j v x hv hx
    rw[k0d]at hcc
    cases hx:dcs[j]? with
    |none=>rw[hx]at hcc;cases hcc
    |some x=>rw[hx]at hcc;cases hcc;exact ih' j v x hv hx
  |nilp=>exact .nilp
  |yld i l c n hd=>exact .undef _
open Classical in
theorem SC.lend {P:Program} {f:FuncId} {args0:List SV} {H0:a0f} {v:SV} (hv:l0h v=true)(h:SC P f (SV.fzAL H0 args0) [] v []):SC P f args0 H0 v H0:=by
  refine⟨h.1,λw K D vals hlen hr hi hG=> ?_⟩
  -- all blocks of lists are settled for as long as the call runs
  have hmem: ∀b,Mem D H0 b->b<w.heap.size/\K b=0:=λb hm=>h0M hi hm
  let size (b:Nat):Nat:=match w.heap[b]? with
    |some (.cells c _ _)=>c.size
    |_=>0
  let K1:Nat->Nat:=λb=>if Mem D H0 b then size b else K b
  have hK1: ∀b,K b<=K1 b:=λb=>by
    show K b<=if Mem D H0 b then size b else K b
    split
    rename_i hm;rw[(hmem b hm).2];exact bg _
    exact ai _
  have hplain: ∀v s,s.plain=true->Rep w K D v s->Rep w K1 (λ_=>none) v s:=λv s hp hr=>(hr.mono (K':=K1) (D':=D) (λ_ _ _=>rfl) hK1 (λ_ _ e=>e)).plain hp
  have hvec: ∀j x,Rep w K D x (.vc j)->Rep w K1 (λ_=>none) x (SV.fzA H0 (.vc j)):=by
    intro j x hx
    simp only[SV.fzA]
    split
    rename_i n k e cs hj
    obtain⟨hp,hent⟩:=hi.ent j _ hj
    rcases hent with⟨h1,h2,h3⟩|⟨b,c,vs,rest,h1,h2,h3,h4,h5,h6,h7,h8,h9⟩
    subst h2;subst h3
    cases hx with
    |vcn _ ad hd=>exact .emp _ _ _
    |vc _ b c n hd=>rw[h1]at hd;cases hd
    cases hx with
    |vcn _ ad hd=>rw[h1]at hd;cases hd
    |vc _ b' c' n' hd=>
      rw[h1]at hd;cases hd
      have hrow:=f0u h6 h9
      have hKb:K1 b=(vs++rest).length:=by
        show(if Mem D H0 b then size b else K b)=_
        rw[if_pos ⟨j,_,c,n,hj,rfl,h1⟩]
        show(match w.heap[b]? with|some (.cells c _ _)=>c.size|_=>0)=_
        rw[h6];simp
      exact .lst k b 0 n c vs cs h3 h7 h9.len h4 hrow.mem (by rw[hKb,ay];omega) h9.one hp (λj v c hv hc=>hplain _ _ (d0Q hp hc) (h9.rep j v c hv hc))
    exact .undef _
  have hi1:HInv w K1 (λ_=>none) []:=⟨λ_ _=>rfl,λi en hj=>by simp at hj,λi j en en' b c n c' n' hj=>by simp at hj,λb hb=>by
    by_cases hm:Mem D H0 b
    exact(hmem b hm).1
    exact hi.kw b (by simpa [K1,hm]using hb)⟩
  refine(h.2 w K1 (λ_=>none) vals (by rw[hlen,f0Q]) (λj x c hx hc=>by
    rw[k0d]at hc
    cases hy:args0[j]? with
    |none=>rw[hy]at hc;cases hc
    |some y=>rw[hy]at hc;cases hc;exact z0v hplain hK1 hvec (hr j x y hx hy)) hi1 (g0F λg cs hg=>(hG g cs hg).mono (K':=K1) (D':=D) (λ_ _ _=>rfl) hK1 (λ_ _ e=>e))).mono ?_
  rintro e w' ⟨r,he,K1',D1',g,hi',hrep⟩
  have nomem: ∀b,¬Mem (λ_=>none) [] b:=by rintro b ⟨i,en,c,n,h1,_⟩;simp at h1
  let K':Nat->Nat:=λb=>if Mem D H0 b then 0 else K1' b
  have hKK: ∀b,K b<=K' b:=λb=>by
    show K b<=if Mem D H0 b then 0 else K1' b
    split
    rename_i hm;rw[(hmem b hm).2];exact ai _
    exact aI (hK1 b) (g.le b)
  have hcells: ∀b j,j<K b->w'.cell? ⟨b,j,none⟩=w.cell? ⟨b,j,none⟩:=λb j hj=>g.cells b j (aU hj (hK1 b))
  have hrr: ∀v s,Rep w K D v s->Rep w' K' D v s:=λv s hr=>hr.mono hcells hKK (λ_ _ e=>e)
  refine⟨r,he,K',D,⟨g.os,g.tape,g.output,g.size,λb hb _=>g.block b hb (nomem b),hcells,hKK,λb hb hm=> ?_,λ_ _ e=>e,λb hm=> .inl hm⟩,
    ⟨hi.dom,λi en hie=>(hi.ent i en hie).keep hrr rfl (λb c n hl hd=> ?_),hi.inj,λb hb=> ?_⟩,t0N hv hrep⟩
  show(if Mem D H0 b then 0 else K1' b)=K b
  rw[if_neg hm,g.kk b hb (nomem b)]
  show(if Mem D H0 b then size b else K b)=K b
  rw[if_neg hm]
  have hm:Mem D H0 b:=⟨i,en,c,n,hie,hl,hd⟩
  refine⟨g.block b (hmem b hm).1 (nomem b), ?_⟩
  show(if Mem D H0 b then 0 else K1' b)=K b
  rw[if_pos hm,(hmem b hm).2]
  by_cases hm:Mem D H0 b
  exact aU (hmem b hm).1 g.size
  exact hi'.kw b (by simpa [K',hm]using hb)
end
section
variable [Inhabited GT]
def inR(j:Int)(n:Nat):Bool:=decide (0<=j)&&decide (j<n)
def inS(l h:Int)(n:Nat):Bool:=decide (0<=l)&&(decide (l<=h)&&decide (h<=n))
def room(n:Nat):Bool:=Nat.ble n 4294967296
def A0Q(n:Nat):Bool:=Nat.ble n 140737488400000
def t0H(P:Program)(e:TypeId)(n:Nat):Bool:=bif k0g P e then A0Q n else room n
def nz(y:Int):Bool:= !decide (y=0)
def sh(y:Int):Bool:= !decide (y<0)
def mk(l c:Int):Bool:=decide (0<=l)&&(decide (l<=c)&&decide (c<=4294967296))
theorem e0I {j:Int} {n:Nat} :inR j n=true↔0<=j/\j<n:=by simp[inR]
theorem n0J {l h:Int} {n:Nat} :inS l h n=true↔0<=l/\l<=h/\h<=n:=by simp[inS]
theorem s0N {n:Nat} :room n=true↔u0z n:=by simp[room,u0z,Nat.ble_eq]
theorem m0X {P:Program} {e:TypeId} {n:Nat} (h:t0H P e n=true):RoomE P e n:=by
  unfold t0H at h
  unfold RoomE
  cases hb:k0g P e with
  |true=>rw[hb]at h;simp only[A0Q,cond_true,Nat.ble_eq]at h;exact .inr ⟨rfl,h⟩
  |false=>rw[hb]at h;exact .inl (s0N.1 h)
theorem y0D {y:Int} :nz y=true↔y≠0:=by simp[nz]
theorem y0v {y:Int} :sh y=true↔0<=y:=by simp[sh]
theorem B0i {l c:Int} :mk l c=true↔0<=l/\l<=c/\c<=4294967296:=by simp[mk]
def s0A(P:Program)(c:Call)(ρ:Env)(H:a0f)(idx:Nat):Option (Eff×Bool):=
  match c.args.toList,c.argTypes.toList with
  | [x,y],[t,tx]=>match P.underlying t,a0F ρ x,a0F ρ y with
    |some (.slice e),some .nl,some sy=>match t0B P e (P.cellsOf e) tx sy H with
      |some (m,cs2,rd)=>if g0g P e (P.cellsOf e)=true then some (⟨.vc idx,rd,[(idx, .vec m (P.cellsOf e) e cs2)]⟩,A0V sy&&t0H P e m)else none
      |none=>none
    |some (.slice e),some (.vc i),some sy=>match H[i]? with
      |some (.vec n k e' cs)=>match t0B P e k tx sy H with
        |some (m,cs2,rd)=>if e=e'/\g0g P e k=true then some (⟨.vc idx,i::rd,[(i, .gone),(idx, .vec (n+m) k e (cs++cs2))]⟩,A0V sy&&t0H P e (n+m))else none
        |none=>none
      |_=>none
    |_,_,_=>none
  |_,_=>none
theorem p0I {P:Program} {c:Call} {ρ:Env} {H:a0f} {idx:Nat} {ef:Eff} {b:Bool} (h:s0A P c ρ H idx=some (ef,b))(hb:b=true):j0S P c ρ H idx=some ef:=by
  unfold s0A at h
  unfold j0S
  split at h
  rename_i x y t tx hx hy
  rw[hx,hy]
  simp only
  split at h
  rename_i e sy h1 h2 h3
  rw[h1,h2,h3]
  simp only
  split at h
  rename_i m cs2 rd h4
  rw[h4]
  simp only
  split at h
  rename_i h5
  cases h
  rw[if_pos ⟨h5,(bY.1 hb).1,m0X (bY.1 hb).2⟩]
  cases h
  cases h
  rename_i e i sy h1 h2 h3
  rw[h1,h2,h3]
  simp only
  split at h
  rename_i n k e' cs h4
  rw[h4]
  simp only
  split at h
  rename_i m cs2 rd h6
  rw[h6]
  simp only
  split at h
  rename_i h5
  cases h
  rw[if_pos ⟨h5.1,h5.2,(bY.1 hb).1,m0X (bY.1 hb).2⟩]
  cases h
  cases h
  cases h
  cases h
  cases h
def w0f(P:Program)(t:TypeId)(sx sj:SV)(H:a0f):Option (Eff×Bool):=
  match P.underlying t,sx,sj with
  |some (.slice e), .lst n k cs, .int _ j=>if k=P.cellsOf e/\0<k then some (⟨.ep ((cs.drop (j.toNat*k)).take k),[],[]⟩,inR j n)else none
  |some (.slice e), .vc i, .int _ j=>match H[i]? with
    |some (.vec n k _ _)=>if k=P.cellsOf e/\0<k then some (⟨.ptr i (j.toNat*k),[i],[]⟩,inR j n)else none
    |_=>none
  |some (.slice e), .sl b off n k, .int _ j=>if k=P.cellsOf e/\0<k then some (⟨.ptr b (off+j.toNat*k),[],[]⟩,inR j n)else none
  |some (.array len e), .ptr b off, .int _ j=>if 0<P.cellsOf e then some (⟨.ptr b (off+j.toNat*P.cellsOf e),[],[]⟩,inR j len)else none
  |some (.array len e), .ep cs, .int _ j=>if 0<P.cellsOf e/\len*P.cellsOf e<=cs.length then some (⟨.ep ((cs.drop (j.toNat*P.cellsOf e)).take (P.cellsOf e)),[],[]⟩,inR j len)else none
  |_,_,_=>none
theorem q0R {P:Program} {t:TypeId} {x y:Operand} {o:Oper} {ρ:Env} {H:a0f} {idx:Nat} {sx sj:SV} {ef:Eff} {b:Bool} (ho:o.op= .indexAddr t x y)(hx:a0F ρ x=some sx)(hy:a0F ρ y=some sj)(h:w0f P t sx sj H=some (ef,b))(hb:b=true):a0E P o ρ H idx=some ef:=by
  unfold w0f at h
  unfold a0E a0g a0q
  simp only[ho,hx,hy]
  split at h
  rename_i e n k cs k' j hu
  rw[hu]
  simp only
  split at h
  rename_i hk
  cases h
  have:=e0I.1 hb
  rw[if_pos hk.1]
  unfold C0m
  rw[if_pos ⟨hk.2,this⟩]
  cases h
  rename_i e i k' j hu
  rw[hu]
  simp only
  split at h
  rename_i n k e2 cs hH
  rw[hH]
  simp only
  split at h
  rename_i hk
  cases h
  have:=e0I.1 hb
  rw[if_pos ⟨hk.1,hk.2,this⟩]
  cases h
  cases h
  rename_i e bb off n k k' j hu
  rw[hu]
  simp only
  split at h
  rename_i hk
  cases h
  have:=e0I.1 hb
  rw[if_pos ⟨hk.1,hk.2,this⟩]
  cases h
  rename_i len e bb off k' j hu
  rw[hu]
  simp only
  split at h
  rename_i hk
  cases h
  have:=e0I.1 hb
  rw[if_pos ⟨this.1,this.2,hk⟩]
  cases h
  rename_i len e cs k' j hu
  rw[hu]
  simp only
  split at h
  rename_i hk
  cases h
  have hj:=e0I.1 hb
  have:(j.toNat+1)*P.cellsOf e<=cs.length:=aI (aQ _ (by omega)) hk.2
  rw[if_pos ⟨hj.1,hj.2,this,hk.1⟩]
  cases h
  cases h
def u0X(P:Program)(t:TypeId)(sx:SV)(ρ:Env)(lo hi:Option Operand):Option (Eff×Bool):=
  match P.underlying t,sx with
  |some (.slice e), .lst n k cs=>match g0j ρ lo 0,g0j ρ hi (n:Int)with
    |some l,some h=>if k=P.cellsOf e/\0<k then some (⟨.lst (h.toNat-l.toNat) k ((cs.take (h.toNat*k)).drop (l.toNat*k)),[],[]⟩,inS l h n)else none
    |_,_=>none
  |some .string, .str s=>match g0j ρ lo 0,g0j ρ hi (s.length:Int)with
    |some l,some h=>some (⟨.str ((s.take h.toNat).drop l.toNat),[],[]⟩,inS l h s.length)
    |_,_=>none
  |_,_=>none
theorem q0b {P:Program} {t:TypeId} {x:Operand} {lo hi:Option Operand} {o:Oper} {ρ:Env} {H:a0f} {idx:Nat} {sx:SV} {ef:Eff} {b:Bool} (ho:o.op= .slice t x lo hi none)(hx:a0F ρ x=some sx)(h:u0X P t sx ρ lo hi=some (ef,b))(hb:b=true):a0E P o ρ H idx=some ef:=by
  unfold u0X at h
  unfold a0E a0g
  simp only[ho,hx]
  split at h
  rename_i e n k cs hu
  rw[hu]
  simp only
  split at h
  rename_i l hh h1 h2
  rw[h1,h2]
  simp only
  split at h
  rename_i hk
  cases h
  have:=n0J.1 hb
  rw[if_pos hk.1]
  unfold u0Y
  rw[if_pos ⟨hk.2,this⟩]
  cases h
  cases h
  rename_i s hu
  rw[hu]
  simp only
  split at h
  rename_i l hh h1 h2
  rw[h1,h2]
  simp only
  cases h
  have:=n0J.1 hb
  rw[if_pos ⟨this.1,this.2.1,by omega⟩]
  cases h
  cases h
def C0t(op:BinOp)(a b:SV):Option (SV×Bool):=
  match op,a,b with
  | .quo, .int k x, .int k' y=>if k=k' then some (.int k (k.wrap (x.tdiv y)),nz y)else none
  | .rem, .int k x, .int k' y=>if k=k' then some (.int k (x.tmod y),nz y)else none
  | .shl, .int k x, .int _ y=>some (.int k (k.wrap (x*2^(min y.toNat k.bits))),sh y)
  | .shr, .int k x, .int _ y=>some (.int k (x.fdiv (2^(min y.toNat k.bits))),sh y)
  | .add, .str s, .str t=>some (.str (s++t),room (s.length+t.length))
  |_,_,_=>none
theorem u0m {bt:Bool} {op:BinOp} {a b v:SV} {c:Bool} (h:C0t op a b=some (v,c))(hc:c=true):h0l bt op a b=some v:=by
  unfold C0t at h
  split at h
  split at h
  rename_i hk;cases h;simp only[h0l];rw[if_pos hk,if_neg (y0D.1 hc)]
  cases h
  split at h
  rename_i hk;cases h;simp only[h0l];rw[if_pos hk,if_neg (y0D.1 hc)]
  cases h
  cases h;simp only[h0l];rw[if_neg (by have:=y0v.1 hc;omega)]
  cases h;simp only[h0l];rw[if_neg (by have:=y0v.1 hc;omega)]
  cases h;simp only[h0l];rw[if_pos (s0N.1 hc)]
  cases h
def C0e(P:Program)(t:TypeId):Bool:=match P.underlying t with
  |some (.int _)=>true
  |some .bool=>true
  |some .string=>true
  |some (.slice _)=>true
  |_=>false
def p0h(P:Program)(o:Oper)(ρ:Env)(H:a0f)(idx:Nat):Option (Eff×Bool):=
  match o.op with
  | .indexAddr t x y=>match a0F ρ x,a0F ρ y with
    |some sx,some sj=>w0f P t sx sj H
    |_,_=>none
  | .slice t x lo hi none=>match a0F ρ x with
    |some sx=>u0X P t sx ρ lo hi
    |none=>none
  | .index t x i=>match P.underlying t,a0F ρ x,a0F ρ i with
    |some .string,some (.str s),some (.int _ j)=>some (⟨.int .u8 (s.getD j.toNat 0).toNat,[],[]⟩,inR j s.length)
    |some (.array n e),some (.agg cs),some (.int _ j)=>bif C0e P e&&(Nat.beq (P.cellsOf e) 1&&Nat.ble n cs.length)then some (⟨(cs.drop (j.toNat*1)).headD .undef,[],[]⟩,inR j n)else none
    |_,_,_=>none
  | .binOp op t x y _=>match a0F ρ x,a0F ρ y with
    |some a,some b=>match C0t op a b with
      |some (v,c)=>some (⟨v,[],[]⟩,c)
      |none=>none
    |_,_=>none
  | .makeSlice t x y=>match P.underlying t,a0F ρ x,a0F ρ y with
    |some (.slice e),some (.int _ l),some (.int _ c)=>match m0I P e with
      |some zs=>if g0g P e (P.cellsOf e)=true/\b0f zs=true then some (⟨.vc idx,[],[(idx, .vec l.toNat (P.cellsOf e) e (List.replicate l.toNat zs).flatten)]⟩,mk l c)else none
      |none=>none
    |_,_,_=>none
  | .load t x=>match a0F ρ x with
    |some (.ptr i off)=>match H[i]? with
      |some (.vec n k e cs)=>match P.underlying t with
        |some (.int _)=>some (⟨(cs.drop off).headD .undef,[i],[]⟩,Nat.blt off cs.length)
        |some .bool=>some (⟨(cs.drop off).headD .undef,[i],[]⟩,Nat.blt off cs.length)
        |some .string=>some (⟨(cs.drop off).headD .undef,[i],[]⟩,Nat.blt off cs.length)
        |some (.slice _)=>some (⟨(cs.drop off).headD .undef,[i],[]⟩,Nat.blt off cs.length)
        |_=>none
      |_=>none
    |_=>none
  | .store t x y=>match a0F ρ x,(a0F ρ y).bind SV.cells? with
    |some (.ptr i off),some ps=>match H[i]? with
      |some (.vec n k e cs)=>if ps.length=P.cellsOf t/\0<ps.length/\b0f ps=true then some (⟨.undef,[i],[(i, .vec n k e (splice cs off ps))]⟩,Nat.ble (off+ps.length) cs.length)else none
      |_=>none
    |_,_=>none
  | .convert src dst x=>match P.underlying src,P.underlying dst,a0F ρ x with
    |some .string,some (.slice e),some (.str s)=>match P.underlying e with
      |some (.int .u8)=>some (⟨.lst s.length 1 (s.map l0H),[],[]⟩,true)
      |some (.int .i32)=>some (⟨.lst (e0R s).length 1 ((e0R s).map o0m),[],[]⟩,true)
      |_=>none
    |some (.slice e),some .string,some s=>match P.underlying e,p0N 1 s H with
      |some (.int .u8),some (_,cs,rd)=>if g0y P src s=true then some (⟨.str (cs.map byteOf),rd,[]⟩,cs.all i0z)else none
      |some (.int .i32),some (_,cs,rd)=>if g0y P src s=true then some (⟨.str (cs.flatMap runeB),rd,[]⟩,cs.all j0w)else none
      |_,_=>none
    |_,_,_=>none
  | .call c=>match c.callee with
    | .builtin .append=>s0A P c ρ H idx
    | .builtin .copy=>match w0A P c ρ H with
      |some ef=>some (ef,true)
      |none=>none
    |_=>none
  |_=>none
theorem l0q {P:Program} {o:Oper} {ρ:Env} {H:a0f} {idx:Nat} {ef:Eff} {b:Bool} (h:p0h P o ρ H idx=some (ef,b))(hb:b=true):a0E P o ρ H idx=some ef:=by
  unfold p0h at h
  split at h
  rename_i t x y ho
  split at h
  rename_i sx sj h1 h2
  exact q0R ho h1 h2 h hb
  cases h
  rename_i t x lo hi ho
  split at h
  rename_i sx h1
  exact q0b ho h1 h hb
  cases h
  · rename_i t x i ho
    split at h
    rename_i s k j h1 h2 h3
    cases h
    obtain⟨q1,q2⟩:=e0I.1 hb
    unfold a0E a0g
    simp only[ho,h1,h2,h3]
    rw[if_pos q1]
    have hl:j.toNat<s.length:=by omega
    rw[ac hl]
    simp only[ak,ac hl,ba]
    · rename_i n e cs k j h1 h2 h3
      cases h4:(C0e P e&&(Nat.beq (P.cellsOf e) 1&&Nat.ble n cs.length))with
      |false=>rw[h4]at h;cases h
      |true=>
        rw[h4]at h
        simp only[cond_true,ag,aB]at h
        obtain⟨rfl,rfl⟩:=h
        simp only[aa]at h4
        obtain⟨p1,p2,p3⟩:=h4
        have p2:=ae p2
        have p3:=af p3
        obtain⟨q1,q2⟩:=e0I.1 hb
        unfold a0E a0g
        simp only[ho,h1,h2,h3]
        rw[if_pos ⟨q1,q2⟩,p2]
        have hl:j.toNat*1<cs.length:=by omega
        rw[bA hl]
        unfold C0e at p1
        simp only[b0j,List.headD]
        split at p1<;>first|(rename_i hu;simp only[hu];done)|(rename_i hu;simp only[hu];rfl)|cases p1
    cases h
  rename_i op t x y tt ho
  split at h
  rename_i a b' h1 h2
  split at h
  rename_i v c h3
  cases h
  unfold a0E a0g
  simp only[ho,h1,h2,u0m h3 hb]
  cases h
  cases h
  rename_i t x y ho
  split at h
  rename_i e k1 l k2 c h1 h2 h3
  split at h
  rename_i zs h4
  split at h
  rename_i h5
  cases h
  obtain⟨q1,q2,q3⟩:=B0i.1 hb
  unfold a0E a0g a0q
  simp only[ho,h1,h2,h3,h4]
  rw[if_pos ⟨h5.1,q1,q2,q3,h5.2⟩]
  cases h
  cases h
  cases h
  · rename_i t x ho
    split at h
    · rename_i i off h1
      split at h
      · rename_i n k e cs h2
        have fin: ∀(ut:_),P.underlying t=some ut->(∀f,ut≠ .struct f)->(∀m e,ut≠ .array m e)->Nat.blt off cs.length=true->a0E P o ρ H idx=some ⟨(cs.drop off).headD .undef,[i],[]⟩:=by
          intro ut hu hn1 hn2 hlt
          unfold a0E a0g a0q
          simp only[ho,h1,h2,aq,b0F]
          have hl:off<cs.length:=bn (af (by simpa [Nat.blt]using hlt))
          rw[bA hl]
          have hcv:b0j P t (cs[off]::cs.drop (off+1))=some cs[off]:=by
            unfold b0j
            rw[hu]
            cases ut<;>first|rfl|exact absurd rfl (hn1 _)|exact absurd rfl (hn2 _ _)
          rw[hcv]
          rfl
        split at h
        rename_i hu;cases h;exact fin _ hu (λ_=>by simp) (λ_ _=>by simp) hb
        rename_i hu;cases h;exact fin _ hu (λ_=>by simp) (λ_ _=>by simp) hb
        rename_i hu;cases h;exact fin _ hu (λ_=>by simp) (λ_ _=>by simp) hb
        rename_i hu;cases h;exact fin _ hu (λ_=>by simp) (λ_ _=>by simp) hb
        cases h
      cases h
    cases h
  rename_i t x y ho
  split at h
  rename_i i off ps h1 h2
  split at h
  rename_i n k e cs h3
  split at h
  rename_i h4
  cases h
  have hle:off+ps.length<=cs.length:=af hb
  unfold a0E a0g a0q
  simp only[ho,h1,h2,h3,b0F]
  rw[if_pos ⟨h4.1,h4.2.1,hle,λ_=>h4.2.2⟩]
  rfl
  cases h
  cases h
  cases h
  rename_i src dst x ho
  split at h
  rename_i e s h1 h2 h3
  split at h
  rename_i he
  cases h
  unfold a0E a0g a0q
  simp only[ho,h1,h2,h3,he,n0R]
  rename_i he
  cases h
  unfold a0E a0g a0q
  simp only[ho,h1,h2,h3,he,n0R]
  cases h
  rename_i e s h1 h2 h3
  split at h
  rename_i m cs rd he hsc
  split at h
  rename_i hty
  cases h
  unfold a0E a0g a0q
  simp only[ho,h1,h2,h3,he,hsc,n0R]
  rw[if_pos ⟨hty,hb⟩]
  cases h
  rename_i m cs rd he hsc
  split at h
  rename_i hty
  cases h
  unfold a0E a0g a0q
  simp only[ho,h1,h2,h3,he,hsc,n0R]
  rw[if_pos ⟨hty,hb⟩]
  cases h
  cases h
  cases h
  rename_i c ho
  split at h
  rename_i hc
  unfold a0E a0g a0q
  simp only[ho,hc,s0w]
  exact p0I h hb
  rename_i hc
  split at h
  rename_i ef2 he
  cases h
  unfold a0E a0g a0q
  simp only[ho,hc,s0w]
  exact he
  cases h
  cases h
  cases h
section
variable {F : Fr} {P : Program} {L : LE} {H : a0f} {Q : f0C} {m : Option Nat} {ops : Array Oper} {p : Nat} {tr : List (List Nat × List Nat)}
def o0X(P:Program)(m:Option Nat)(ops:Array Oper)(p:Nat)(tr:List (List Nat×List Nat))(L:LE)(H:a0f):Option (Option Nat×Eff×Bool×List (List Nat×List Nat)):=
  match ops.toList[p]? with
  |none=>none
  |some o=>match b0i ops (a0v L) o with
    |some true=>bif b0T o then none else match p0h P o (a0v L) H (y0M m ops p H)with
      |some (ef,c)=>bif okM m ops p o ef tr H then some (o.dst,ef,c,trM m ops p o ef tr)else none
      |none=>none
    |_=>none
theorem RJ.rel {d:Option Nat} {ef ef':Eff} {c:Bool} {tr2:List (List Nat×List Nat)} {H2:a0f} (h:o0X P m ops p tr L H=some (d,ef,c,tr2))(hc:c=true)(hn:c=true->ef=ef')(hH:b0t H ef'.wr=H2)(k:RJ F P m ops (p+1) tr2 (f0d L d ef'.v) H2 Q):RJ F P m ops p tr L H Q:=by
  unfold o0X at h
  have hn':=hn hc
  subst hn'
  subst hH
  split at h
  cases h
  rename_i o ho
  split at h
  rename_i hg
  cases hcc:b0T o with
  |true=>rw[hcc]at h;cases h
  |false=>
    rw[hcc]at h
    simp only[cond_false]at h
    split at h
    rename_i ef2 c2 he
    cases hok:okM m ops p o ef2 tr H with
    |false=>rw[hok]at h;cases h
    |true=>
      rw[hok]at h
      simp only[cond_true,ag,aB]at h
      obtain⟨rfl,rfl,rfl,rfl⟩:=h
      exact RJ.step ho hg hcc (l0q he hc) hok k
    cases h
  cases h
def p0g(P:Program)(o:Oper)(ρ:Env)(H:a0f)(idx:Nat):Option (Eff×Bool):=
  match p0h P o ρ H idx with
  |some r=>some r
  |none=>(a0E P o ρ H idx).map λef=>(ef,true)
theorem o0a {P:Program} {o:Oper} {ρ:Env} {H:a0f} {idx:Nat} {ef:Eff} {b:Bool} (h:p0g P o ρ H idx=some (ef,b))(hb:b=true):a0E P o ρ H idx=some ef:=by
  unfold p0g at h
  split at h
  rename_i r hr;cases h;exact l0q hr hb
  cases he:a0E P o ρ H idx with
  |none=>rw[he]at h;cases h
  |some e=>rw[he]at h;cases h;rfl
def y0z(P:Program)(base:Nat)(ops:Array Oper)(p:Nat)(tr:List (List Nat×List Nat))(L:LE)(H:a0f):Option (Option Nat×Eff×Bool×List (List Nat×List Nat)):=
  match ops.toList[p]? with
  |none=>none
  |some o=>match b0i ops (a0v L) o with
    |some true=>bif b0T o then none else bif c0U o then(match p0g P o (a0v L) H (e0c ops base p)with
      |some (ef,c)=>match n0L ef (e0c ops base p) H with
        |some efz=>bif okM (some base) ops p o efz tr H then some (o.dst,efz,c,trM (some base) ops p o efz tr)else none
        |none=>none
      |none=>none)else none
    |_=>none
theorem RJ.relZ {base:Nat} {d:Option Nat} {ef ef':Eff} {c:Bool} {tr2:List (List Nat×List Nat)} {H2:a0f} (h:y0z P base ops p tr L H=some (d,ef,c,tr2))(hc:c=true)(hn:c=true->ef=ef')(hH:b0t H ef'.wr=H2)(k:RJ F P (some base) ops (p+1) tr2 (f0d L d ef'.v) H2 Q):RJ F P (some base) ops p tr L H Q:=by
  unfold y0z at h
  have hn':=hn hc
  subst hn'
  subst hH
  split at h
  cases h
  rename_i o ho
  split at h
  rename_i hg
  cases hcc:b0T o with
  |true=>rw[hcc]at h;cases h
  |false=>
    rw[hcc]at h
    cases hcr:c0U o with
    |false=>rw[hcr]at h;cases h
    |true=>
      rw[hcr]at h
      simp only[cond_false,cond_true]at h
      split at h
      rename_i ef2 c2 he
      split at h
      rename_i efz hz
      cases hok:okM (some base) ops p o efz tr H with
      |false=>rw[hok]at h;cases h
      |true=>
        rw[hok]at h
        simp only[cond_true,ag,aB]at h
        obtain⟨rfl,rfl,rfl,rfl⟩:=h
        intro hl
        rw[d0V ho]
        simp only[okM,aa,bB,List.all_eq_true]at hok
        obtain⟨⟨k1,k2⟩,k3⟩:=hok
        have k3': ∀x∈efz.wr,x.1<H.length:=λx hx=>bn (af (by simpa [Nat.blt]using k3 x hx))
        subst hl
        refine⟨efz, ?_,k1, ?_⟩
        unfold opD
        rw[hg]
        simp only
        rw[hcc,if_neg (by simp)]
        refine⟨.inr ⟨?_,hcr⟩,λ_=> ?_,k3'⟩
        unfold j0o
        rw[o0a he hc]
        exact hz
        rcases k2 with k2|k2
        rw[hcr]at k2;cases k2
        unfold l0y at k2
        split at k2
        assumption
        cases k2
        have:=k (by simp[trM])
        rw[<-l0K _ _ k3',b0e]
        exact this
      cases h
      cases h
  cases h
/-! Cuts. -/
def a0m {S X:Type} (k:S->Option X):S⊕X->Option X
  | .inl s=>k s
  | .inr x=>some x
theorem a0l {α β:Type} {m:Option α} {k:α->Option β} {r:β} (h:m.bind k=some r): ∃y,m=some y/\k y=some r:=by
  cases m with
  |none=>cases h
  |some y=>exact⟨y,rfl,h⟩
theorem condT {α:Type} {b:Bool} {x y:α} {r:α} (hb:b=true)(h:(bif b then x else y)=r):x=r:=by subst hb;exact h
theorem condF {α:Type} {b:Bool} {x y:α} {r:α} (hb:b=false)(h:(bif b then x else y)=r):y=r:=by subst hb;exact h
theorem b0k {α:Type} {b:Bool} {x:Option α} {r:α} (h:(bif b then x else none)=some r):b=true/\x=some r:=by
  cases b with
  |true=>exact⟨rfl,h⟩
  |false=>cases h
def cutN {S:Type} (F:Fr)(R:S->LE×a0f)(st:S):f0C:=λe a w=>e= .normal/\Sees F (R st).1 (R st).2 a w
def cutX {S X:Type} (F:Fr)(R:S->LE×a0f)(Q:f0C)(x:S⊕X):f0C:=λe a w=>match x with
  | .inl st=>e= .normal/\Sees F (R st).1 (R st).2 a w
  | .inr _=>e≠ .normal/\Q e a w
theorem J.cutN {S:Type} {c1 c2:Code} (R:S->LE×a0f)(st:S)(h1:J F P c1 L H (cutN F R st))(h2:J F P c2 (R st).1 (R st).2 Q):J F P (.seq c1 c2) L H Q:=λhin a w hs=>by
  simp only[b0E,aa]at hin
  refine wp_seq (Code.wp_mono (λe a' w' hq=> ?_) (h1 hin.1 a w hs))
  obtain⟨rfl,hq⟩:=hq
  exact h2 hin.2 a' w' hq
theorem J.cutX {S X:Type} {c1 c2:Code} (R:S->LE×a0f)(x:S⊕X)(h1:J F P c1 L H (cutX F R Q x))(h2: ∀st,x= .inl st->J F P c2 (R st).1 (R st).2 Q):J F P (.seq c1 c2) L H Q:=λhin a w hs=>by
  simp only[b0E,aa]at hin
  refine wp_seq (Code.wp_mono (λe a' w' hq=> ?_) (h1 hin.1 a w hs))
  cases x with
  |inl st=>
    obtain⟨rfl,hq⟩:=hq
    exact h2 st rfl hin.2 a' w' hq
  |inr r=>
    obtain⟨hne,hq⟩:=hq
    cases e<;>first|exact absurd rfl hne|exact hq
theorem PJ.cutN {S:Type} {R:S->LE×a0f} {st:S} (ts:List Nat)(hL:g0q ts L=(R st).1)(hH:H=(R st).2):PJ F (cutN F R st) .normal L H:=λa w hs=>by
  subst hH
  exact⟨rfl,by rw[<-hL];exact hs.keep (h0F ts L)⟩
theorem PJ.cutXl {S X:Type} {R:S->LE×a0f} {st:S} (ts:List Nat)(hL:g0q ts L=(R st).1)(hH:H=(R st).2):PJ F (cutX (X:=X) F R Q (.inl st)) .normal L H:=λa w hs=>by
  subst hH
  exact⟨rfl,by rw[<-hL];exact hs.keep (h0F ts L)⟩
theorem PJ.cutXr {S X:Type} {R:S->LE×a0f} {x:X} {e:Exit} (hne:e≠ .normal)(h:PJ F Q e L H):PJ F (cutX F R Q (.inr x:S⊕X)) e L H:=λa w hs=>⟨hne,h a w hs⟩
def p0k {S O:Type} (F:Fr)(R:S->LE×a0f)(Q:f0C)(o:O)(x:S⊕O):f0C:=λe a w=>match x with
  | .inl s'=>e= .normal/\Sees F (R s').1 (R s').2 a w
  | .inr o'=>e≠ .normal/\(o'=o->Q e a w)
theorem J.loopR {S O:Type} {c:Code} {step:S->Option (S⊕O)} {n:Nat} {s0:S} {o:O} (R:S->LE×a0f)(ho:a0x step n s0=some o)(ts:List Nat)(hL:g0q ts L=(R s0).1)(hH:H=(R s0).2)
    (body: ∀s x,step s=some x->J F P c (R s).1 (R s).2 (p0k F R Q o x)):J F P (.loop c) L H Q:=
  J.keep ts hL (J.loop R ho rfl hH body)
theorem PJ.loopNext {S O:Type} {R:S->LE×a0f} {o:O} {s':S} (ts:List Nat)(hL:g0q ts L=(R s').1)(hH:H=(R s').2):PJ F (p0k F R Q o (.inl s')) .normal L H:=λa w hs=>by
  subst hH
  exact⟨rfl,by rw[<-hL];exact hs.keep (h0F ts L)⟩
theorem PJ.loopOut {S O:Type} {R:S->LE×a0f} {o o':O} {e:Exit} (hne:e≠ .normal)(h:o'=o->PJ F Q e L H):PJ F (p0k F R Q o (.inr o')) e L H:=λa w hs=>⟨hne,λhe=>h he a w hs⟩
def h0d(m:Option Nat)(ops:Array Oper)(p:Nat)(tr:List (List Nat×List Nat))(L:LE)(rd:List Nat)(wr:List (Nat×Ent):=[]):Option (Option Nat×FuncId×List SV×List (List Nat×List Nat)):=
  match ops.toList[p]? with
  |none=>none
  |some o=>match b0i ops (a0v L) o with
    |some true=>match e0B (a0v L) o with
      |some (f,args)=>bif(match m with|none=>true|some base=>i0B o (f0D o ⟨.undef,rd,wr⟩) (e0D ops base p o ⟨.undef,rd,wr⟩) tr 0)then some (o.dst,f,args,trM m ops p o ⟨.undef,rd,wr⟩ tr)else none
      |none=>none
    |_=>none
theorem e0N {d:Option Nat} {f:FuncId} {args:List SV} {rd:List Nat} {wr:List (Nat×Ent)} {tr2:List (List Nat×List Nat)} (h:h0d m ops p tr L rd wr=some (d,f,args,tr2)):
    ∃o,ops.toList[p]?=some o/\b0i ops (a0v L) o=some true/\e0B (a0v L) o=some (f,args)/\o.dst=d/\trM m ops p o ⟨.undef,rd,wr⟩ tr=tr2/\(∀base,m=some base->i0B o (f0D o ⟨.undef,rd,wr⟩) (e0D ops base p o ⟨.undef,rd,wr⟩) tr 0=true):=by
  unfold h0d at h
  split at h
  cases h
  rename_i o ho
  split at h
  rename_i hg
  split at h
  rename_i f2 args2 hc
  cases hk:(match m with|none=>true|some base=>i0B o (f0D o ⟨.undef,rd,wr⟩) (e0D ops base p o ⟨.undef,rd,wr⟩) tr 0)with
  |false=>rw[hk]at h;cases h
  |true=>
    rw[hk]at h
    simp only[cond_true,ag,aB]at h
    obtain⟨rfl,rfl,rfl,rfl⟩:=h
    exact⟨o,ho,hg,hc,rfl,rfl,λbase hb=>by subst hb;exact hk⟩
  cases h
  cases h
theorem s0H {o:Oper} {v:SV} {rd:List Nat} {wr:List (Nat×Ent)} :trM m ops p o ⟨v,rd,wr⟩ tr=trM m ops p o ⟨.undef,rd,wr⟩ tr:=by cases m<;>rfl
mutual
theorem v0o {m:Nat} : ∀ {s:SV},SV.refs 0 s=true->SV.refs m s=true
  | .agg cs,h=>by simp only[SV.refs]at h⊢;exact l0m h
  | .tup cs,h=>by simp only[SV.refs]at h⊢;exact l0m h
  | .ptr i off,h=>by simp[SV.refs]at h
  | .vc i,h=>by simp[SV.refs]at h
  | .sl i off n k,h=>by simp[SV.refs]at h
  | .mp i,h=>by simp[SV.refs]at h
  | .fn q a b,h=>by simp only[SV.refs,aa]at h⊢;exact⟨l0m h.1,l0m h.2⟩
  | .undef,_=>rfl
  | .bool _,_=>rfl
  | .int _ _,_=>rfl
  | .str _,_=>rfl
  | .nl,_=>rfl
  | .lst _ _ _,_=>rfl
  | .ep _,_=>rfl
  | .nilp,_=>rfl
  | .yld i,h=>by simp[SV.refs]at h
theorem l0m {m:Nat} : ∀ {cs:List SV},SV.refsL 0 cs=true->SV.refsL m cs=true
  | [],_=>rfl
  |c::cs,h=>by simp only[SV.refsL,aa]at h⊢;exact⟨v0o h.1,l0m h.2⟩
end
theorem Sel.nil {H:a0f} {g:Nat->Nat} :Sel H g []:=⟨λj en hj=>by simp at hj,λi j hi=>by simp at hi,λj en hj=>by simp at hj⟩
theorem r0H {g:Nat->Nat} {s:SV} (h:SV.refs 0 s=true):SV.rn g s=s:=by
  rw[g0z (f:=g) (g:=λj=>j) (m:=0) (λi hi=>by omega) s h,t0J]
theorem x0z {g:Nat->Nat} {s:List SV} (h:SV.refsL 0 s=true):SV.rnL g s=s:=by
  rw[f0Z (f:=g) (g:=λj=>j) (m:=0) (λi hi=>by omega) s h,n0p]
theorem RJ.call0 {d:Option Nat} {f:FuncId} {args args':List SV} {v:SV} {tr2:List (List Nat×List Nat)} (h:h0d m ops p tr L []=some (d,f,args,tr2))(hr:SV.refsL 0 args=true)(hle:LeL args args')(hs:SC P f args' [] v [])(hv:SV.refs 0 v=true)
    (k:RJ F P m ops (p+1) tr2 (f0d L d v) H Q):RJ F P m ops p tr L H Q:=by
  obtain⟨o,ho,hg,hc,rfl,rfl,hk⟩:=e0N h
  refine RJ.callD (g:=λj=>j) (args0:=args) (H0:=[]) (v0:=v) ho hg hc (by rw[x0z hr]) Sel.nil (λen hm=>by cases hm) hr hv (SC.weak hs hle) hk ?_
  rw[r0H hv,bM,List.range_zero,aF,s0H]
  exact k
theorem RJ.callL {d:Option Nat} {f:FuncId} {args args0 args1 args':List SV} {v:SV} {tr2:List (List Nat×List Nat)} {H0:a0f} (σ:List Nat)(h:h0d m ops p tr L σ=some (d,f,args,tr2))(ha:args=SV.rnL (b0r σ) args0)(hl:σ.length=H0.length)(hg:σ.map (λi=>H[i]?)=H0.map (λen=>some (Ent.rn (b0r σ) en)))(hn:σ.Nodup)(hr0:H0.all (Ent.refs H0.length)=true)
    (hlive:H0.all f0z=true) (hr:SV.refsL H0.length args0=true) (hfz:SV.fzAL H0 args0=args1) (hle:LeL args1 args') (hs:SC P f args' [] v []) (hsc:l0h v=true) (hv:SV.refs 0 v=true)
    (k:RJ F P m ops (p+1) tr2 (f0d L d v) H Q):RJ F P m ops p tr L H Q:=by
  obtain⟨o,ho,hgd,hc,rfl,rfl,hk⟩:=e0N h
  have hσ:(List.range H0.length).map (b0r σ)=σ:=by
    apply bh
    intro i
    rw[al]
    by_cases hi:i<H0.length
    rw[bf hi]
    simp only[aP,b0r,ak]
    rw[ac (by omega)];rfl
    rw[aw (by simpa using hi),aw (by omega)];rfl
  have hv':SV.refs H0.length v=true:=v0o hv
  refine RJ.callD (g:=b0r σ) (args0:=args0) (H0:=H0) (v0:=v) ho hgd hc ha (Sel.of σ hl hg hn hr0) (λen hm=>List.all_eq_true.1 hlive en hm) hr hv' (SC.lend hsc (by rw[hfz];exact SC.weak hs hle)) (λbase hb=> ?_) ?_
  rw[hσ,r0H hv]
  exact hk base hb
  rw[r0H hv,hσ,s0H]
  exact k
theorem RJ.callM {base:Nat} {d:Option Nat} {f:FuncId} {args args':List SV} {v0 v:SV} {en0:Ent} {tr2:List (List Nat×List Nat)} {H2:a0f} (idx:Nat)(hidx:e0c ops base p=idx)(hres:l0y (H[idx]?)=true)
    (h:h0d (some base) ops p tr L [] [(idx,en0)]=some (d,f,args,tr2)) (hr:SV.refsL 0 args=true) (hle:LeL args args') (hs:SC P f args' [] v0 [en0]) (hv:SV.rn (λ_=>idx) v0=v) (hH:H.set idx en0=H2)
    (kk:RJ F P (some base) ops (p+1) tr2 (f0d L d v) H2 Q) (hE: ∀g,Ent.rn g en0=en0:=by exact λ_=>rfl):RJ F P (some base) ops p tr L H Q:=by
  obtain⟨o,ho,hg,hc,rfl,rfl,hk⟩:=e0N h
  subst hv;subst hH;subst hidx
  intro hl
  rw[d0V ho]
  subst hl
  have hres':H[e0c ops base tr.length]?=some .res:=by
    unfold l0y at hres
    split at hres
    assumption
    cases hres
  refine⟨⟨SV.rn (λ_=>e0c ops base tr.length) v0,[],[(e0c ops base tr.length,en0)]⟩, ?_,hk base rfl, ?_⟩
  unfold opD
  rw[hg]
  simp only
  rw[l0z hc,if_pos rfl]
  exact .inr (.inl ⟨f,args,v0,en0,hc,hr,SC.weak hs hle,⟨hres',hE⟩,rfl⟩)
  have:=kk (by simp[trM])
  rw[b0e]
  exact this
theorem RJ.callG {d:Option Nat} {f:FuncId} {args args0 args':List SV} {v0 v:SV} {tr2:List (List Nat×List Nat)} {H0 H0' H2:a0f} (σ:List Nat)(h:h0d none ops p tr L []=some (d,f,args,tr2))(ha:args=SV.rnL (b0r σ) args0)(hl:σ.length=H0.length)(hg:σ.map (λi=>H[i]?)=H0.map (λen=>some (Ent.rn (b0r σ) en)))(hn:σ.Nodup)(hr0:H0.all (Ent.refs H0.length)=true)
    (hlive:H0.all f0z=true) (hr:SV.refsL H0.length args0=true) (hle:LeL args0 args') (hs:SC P f args' H0 v0 H0') (hle':Nat.ble H0.length H0'.length=true)
    (hv:SV.rn (gOf (b0r σ) H0.length H.length) v0=v) (hH:d0q (b0r σ) H0.length H H0'=H2)
    (k:RJ F P none ops (p+1) tr2 (f0d L d v) H2 Q):RJ F P none ops p tr L H Q:=by
  obtain⟨o,ho,hgd,hc,rfl,rfl,hk⟩:=e0N h
  subst hv;subst hH
  refine RJ.call ho hgd hc ?_ k
  rw[ha]
  exact SC.frame (SC.weak hs hle) (Sel.of σ hl hg hn hr0) (λen hm=>List.all_eq_true.1 hlive en hm) hr (af hle')
end
end
section
variable [Inhabited GT]
def a0s(k:IntKind):Int->List SV:=λx=> [.int k x]
def A0q:Bool->List SV:=λx=> [.bool x]
def n0W:List UInt8->List SV:=λx=> [.str x]
def lsv {T:Type} (enc:T->List SV)(k:Nat)(xs:List T):SV:= .lst xs.length k (xs.flatMap enc)
def f0c {T:Type} (enc:T->List SV)(k:Nat):List T->List SV:=λxs=> [.lst xs.length k (xs.flatMap enc)]
def a0H {T:Type} (enc:T->List SV)(k e:Nat)(xs:List T):Ent:= .vec xs.length k e (xs.flatMap enc)
def nth {T:Type} [Inhabited T](xs:List T)(j:Int):T:=xs.getD j.toNat default
def cut {T:Type} (xs:List T)(l h:Int):List T:=(xs.take h.toNat).drop l.toNat
def rep {T:Type} (l:Int)(z:T):List T:=List.replicate l.toNat z
def m0J {T:Type} (xs:List T)(j:Int)(y:T):List T:=xs.set j.toNat y
def A0F {T:Type} (xs ys:List T):List T:=ys.take xs.length++xs.drop ys.length
def i0C(s:List UInt8):List Int:=s.map λb=>(b.toNat:Int)
def c0S(xs:List Int):List UInt8:=xs.map λx=>UInt8.ofNat x.toNat
def l0O(a b:Int):Int:=if a<b then b else a
def C0G(a b:Int):Int:=if b<a then b else a
theorem B0d {T:Type} [Inhabited T] {xs:List T} {j:Int} (h:inR j xs.length=true):xs[j.toNat]?=some (nth xs j):=by
  have:=e0I.1 h
  have hl:j.toNat<xs.length:=by omega
  unfold nth
  rw[ak,ac hl];rfl
section
variable {T : Type} {enc : T -> List SV} {k : Nat}
theorem p0v(hk: ∀x,(enc x).length=k): ∀xs:List T,(xs.flatMap enc).length=xs.length*k
  | []=>by simp
  |x::xs=>by rw[az,ay,hk,p0v hk xs,aS,bp];omega
theorem l0D(hk: ∀x,(enc x).length=k): ∀(xs:List T) (n:Nat),(xs.flatMap enc).drop (n*k)=(xs.drop n).flatMap enc
  | [],n=>by simp
  |x::xs,0=>by simp
  |x::xs,n+1=>by
    rw[az,List.drop_append,hk,bp,bD (by rw[hk];omega),cd]
    rw[show n*k+k-k=n*k from by omega,l0D hk xs n,List.drop_succ_cons]
theorem n0M(hk: ∀x,(enc x).length=k): ∀(xs:List T) (n:Nat),(xs.flatMap enc).take (n*k)=(xs.take n).flatMap enc
  | [],n=>by simp
  |x::xs,0=>by simp
  |x::xs,n+1=>by
    rw[az,List.take_append,hk,bp,List.take_of_length_le (by rw[hk];omega)]
    rw[show n*k+k-k=n*k from by omega,n0M hk xs n,List.take_succ_cons,az]
theorem s0j [Inhabited T](hk: ∀x,(enc x).length=k) {xs:List T} {j:Int} (h:inR j xs.length=true):((xs.flatMap enc).drop (j.toNat*k)).take k=enc (nth xs j):=by
  have hn:=B0d h
  rw[l0D hk]
  have hl:=(ab.1 hn).1
  rw[bA hl,az,(ab.1 hn).2,<-hk (nth xs j),List.take_left]
theorem N.idx [Inhabited T](hk: ∀x,(enc x).length=k) {xs:List T} {j:Int} (h:inR j xs.length=true):(⟨.ep (((xs.flatMap enc).drop (j.toNat*k)).take k),[],[]⟩:Eff)=⟨.ep (enc (nth xs j)),[],[]⟩:=by
  rw[s0j hk h]
theorem N.slice(hk: ∀x,(enc x).length=k) {xs:List T} {l h:Int} (hb:inS l h xs.length=true):
    (⟨.lst (h.toNat-l.toNat) k (((xs.flatMap enc).take (h.toNat*k)).drop (l.toNat*k)),[],[]⟩:Eff)=⟨.lst (cut xs l h).length k ((cut xs l h).flatMap enc),[],[]⟩:=by
  have:=n0J.1 hb
  rw[n0M hk,l0D hk]
  have:(cut xs l h).length=h.toNat-l.toNat:=by
    unfold cut;rw[bc,aJ];omega
  rw[this]
  rfl
theorem N.app {v:SV} {rd:List Nat} {xs ys:List T} {i idx e:Nat} :(⟨v,rd,[(i, .gone),(idx, .vec (xs.length+ys.length) k e (xs.flatMap enc++ys.flatMap enc))]⟩:Eff)=⟨v,rd,[(i, .gone),(idx, .vec (xs++ys).length k e ((xs++ys).flatMap enc))]⟩:=by
  rw[ay,List.flatMap_append]
theorem p0Y(hk: ∀x,(enc x).length=k) {xs:List T} {j:Int} {y:T} (h:inR j xs.length=true):splice (xs.flatMap enc) (j.toNat*k) (enc y)=(m0J xs j y).flatMap enc:=by
  have hj:=e0I.1 h
  have hl:j.toNat<xs.length:=by omega
  unfold splice m0J
  rw[hk,n0M hk,show j.toNat*k+k=(j.toNat+1)*k from(bp _ _).symm,l0D hk]
  rw[List.set_eq_take_append_cons_drop,if_pos hl,List.flatMap_append,az]
end
theorem N.store {T:Type} {enc:T->List SV} {k:Nat} (hk: ∀x,(enc x).length=k) {v:SV} {rd:List Nat} {i e:Nat} {xs:List T} {j:Int} {y:T} (h:inR j xs.length=true):
    (⟨v,rd,[(i, .vec xs.length k e (splice (xs.flatMap enc) (j.toNat*k) (enc y)))]⟩:Eff)=⟨v,rd,[(i,a0H enc k e (m0J xs j y))]⟩:=by
  rw[p0Y hk h]
  unfold a0H m0J
  rw[List.length_set]
theorem p0W {T:Type} {enc:T->List SV} {k:Nat} (hk: ∀x,(enc x).length=k) {xs:List T} {j:Int} {y:T} (h:inR j xs.length=true):Nat.ble (j.toNat*k+(enc y).length) (xs.flatMap enc).length=true:=by
  have hj:=e0I.1 h
  rw[p0v hk,hk,Nat.ble_eq,show j.toNat*k+k=(j.toNat+1)*k from(bp _ _).symm]
  exact aQ _ (by omega)
theorem h0p {T:Type} {enc:T->List SV} {k:Nat} (hk: ∀x,(enc x).length=k)(hk0:k=1) {xs:List T} {j:Int} (h:inR j xs.length=true):Nat.blt (j.toNat*k) (xs.flatMap enc).length=true:=by
  have hj:=e0I.1 h
  subst hk0
  rw[p0v hk,Nat.blt_eq]
  omega
theorem N.load1 {T:Type} [Inhabited T] {enc:T->List SV} {rd:List Nat} {f:T->SV} (hk: ∀x,(enc x).length=1)(hf: ∀x,enc x=[f x]) {xs:List T} {j:Int} (h:inR j xs.length=true):
    (⟨((xs.flatMap enc).drop (j.toNat*1)).headD .undef,rd,[]⟩:Eff)=⟨f (nth xs j),rd,[]⟩:=by
  have h1:=s0j hk h
  rw[hf]at h1
  cases hd:(xs.flatMap enc).drop (j.toNat*1)with
  |nil=>rw[hd]at h1;simp at h1
  |cons c r=>rw[hd]at h1;simp at h1;rw[h1];rfl
theorem a0r(k:IntKind)(x:Int):(a0s k x).length=1:=rfl
theorem i0o {T:Type} (enc:T->List SV)(k:Nat)(x:List T):(f0c enc k x).length=1:=rfl
theorem y0l(s:List UInt8):s.map l0H=(i0C s).flatMap (a0s .u8):=by
  induction s with
  |nil=>rfl
  |cons b s ih=>rw[aj,i0C,aj,az,ih];rfl
theorem h0T(s:List UInt8):(i0C s).length=s.length:=by simp[i0C]
theorem N.toBytes {s:List UInt8} :(⟨.lst s.length 1 (s.map l0H),[],[]⟩:Eff)=⟨lsv (a0s .u8) 1 (i0C s),[],[]⟩:=by
  unfold lsv
  rw[y0l,h0T]
theorem x0s(s:List UInt8):(e0R s).map o0m=(e0R s).flatMap (a0s .i32):=by
  generalize e0R s=l
  induction l with
  |nil=>rfl
  |cons b s ih=>rw[aj,az,ih];rfl
theorem N.toRunes {s:List UInt8} :(⟨.lst (e0R s).length 1 ((e0R s).map o0m),[],[]⟩:Eff)=⟨lsv (a0s .i32) 1 (e0R s),[],[]⟩:=by
  unfold lsv
  rw[x0s]
def l0j(xs:List Int):List UInt8:=xs.flatMap λx=>(Utf8.encode x).data.toList
theorem A0A(xs:List Int):(xs.flatMap (a0s .i32)).all j0w=true:=by
  induction xs with
  |nil=>rfl
  |cons x xs ih=>rw[az,bL,ih];rfl
theorem N.toRStr {xs:List Int} {rd:List Nat} :(⟨.str ((xs.flatMap (a0s .i32)).flatMap runeB),rd,[]⟩:Eff)=⟨.str (l0j xs),rd,[]⟩:=by
  have:(xs.flatMap (a0s .i32)).flatMap runeB=l0j xs:=by
    unfold l0j
    induction xs with
    |nil=>rfl
    |cons x xs ih=>rw[az,List.flatMap_append,ih,az];simp[a0s,runeB]
  rw[this]
theorem p0J(xs:List Int):(xs.flatMap (a0s .u8)).all i0z=true:=by
  induction xs with
  |nil=>rfl
  |cons x xs ih=>rw[az,bL,ih];rfl
theorem N.toStr {xs:List Int} {rd:List Nat} :(⟨.str ((xs.flatMap (a0s .u8)).map byteOf),rd,[]⟩:Eff)=⟨.str (c0S xs),rd,[]⟩:=by
  have:(xs.flatMap (a0s .u8)).map byteOf=c0S xs:=by
    induction xs with
    |nil=>rfl
    |cons x xs ih=>rw[az,cf,ih];rfl
  rw[this]
section
variable {F : Fr} {P : Program} {L : LE} {H : a0f}
end
end
section
variable [Inhabited GT]
def f0A(fn:Func):Code:=fn.body.getD .skip
def cl:Code->Code| .seq a _=>a|_=> .skip
def cr:Code->Code| .seq _ b=>b|_=> .skip
def ct:Code->Code| .cond _ a _=>a|_=> .skip
def ce:Code->Code| .cond _ _ b=>b|_=> .skip
def cb:Code->Code| .block _ a=>a|_=> .skip
def cp:Code->Code| .loop a=>a|_=> .skip
def h0g:Code->Array Oper| .region _ ops _=>ops|_=> #[]
def n0I:Code->Bool| .seq _ _=>true|_=>false
def m0m(d:Bool):Code->Bool| .region _ _ b=>b==d|_=>false
def w0d(i:Nat):Code->Bool| .block j _=>Nat.beq j i|_=>false
def w0c(i:Nat):Code->Bool| .exit j=>Nat.beq j i|_=>false
def w0b:Code->Bool| .loop _=>true|_=>false
def x0X:Code->Bool| .ret=>true|_=>false
def q0P:Code->Bool| .skip=>true|_=>false
def u0l(c:Code)(L:LE):Option SV:=match c with
  | .cond x _ _=>a0F (a0v L) x
  |_=>none
section
variable {F : Fr} {P : Program} {c : Code} {L : LE} {H : a0f} {Q : f0C}
theorem s0K(h:n0I c=true):c= .seq (cl c) (cr c):=by cases c<;>first|rfl|cases h
theorem K.seq(h:n0I c=true)(k:J F P (cl c) L H (i0X F P (cr c) Q)):J F P c L H Q:=by
  rw[s0K h];exact J.seq k
theorem K.cutN {S:Type} (h:n0I c=true)(R:S->LE×a0f)(st:S)(h1:J F P (cl c) L H (cutN F R st))(h2:J F P (cr c) (R st).1 (R st).2 Q):J F P c L H Q:=by
  rw[s0K h];exact J.cutN R st h1 h2
theorem K.cutX {S X:Type} (h:n0I c=true)(R:S->LE×a0f)(x:S⊕X)(h1:J F P (cl c) L H (cutX F R Q x))(h2: ∀st,x= .inl st->J F P (cr c) (R st).1 (R st).2 Q):J F P c L H Q:=by
  rw[s0K h];exact J.cutX R x h1 h2
theorem K.region(h:m0m false c=true)(k:RJ F P none (h0g c) 0 [] L H Q):J F P c L H Q:=by
  cases c<;>first|cases h|skip
  rename_i i ops d
  cases d with
  |false=>exact J.region k
  |true=>cases h
theorem K.draw(h:m0m true c=true)(hm:P.follows .mixedOrders=true)(hB:Region.lexB .any (h0g c)=true) {H2:a0f} (hH:H++List.replicate (f0k (h0g c)) .res=H2) {n:Nat} (hn:H.length=n)(k:RJ F P (some n) (h0g c) 0 [] L H2 Q):J F P c L H Q:=by
  subst hH;subst hn
  cases c<;>first|cases h|skip
  rename_i i ops d
  cases d with
  |true=>exact J.draw hm hB k
  |false=>cases h
theorem K.condT(h:u0l c L=some (.bool true))(k:J F P (ct c) L H Q):J F P c L H Q:=by
  cases c<;>first|cases h|skip
  exact J.cond (b:=true) h k
theorem K.condF(h:u0l c L=some (.bool false))(k:J F P (ce c) L H Q):J F P c L H Q:=by
  cases c<;>first|cases h|skip
  exact J.cond (b:=false) h k
theorem K.block(i:Nat)(h:w0d i c=true)(k:J F P (cb c) L H (Exit.inBlock i Q)):J F P c L H Q:=by
  cases c<;>first|cases h|skip
  rename_i j a
  have:=ae h
  subst this
  exact J.block k
theorem K.skip(h:q0P c=true)(k:PJ F Q .normal L H):J F P c L H Q:=by
  cases c<;>first|cases h|skip
  exact J.skip k
theorem K.ret(h:x0X c=true)(k:PJ F Q .ret L H):J F P c L H Q:=by
  cases c<;>first|cases h|skip
  exact J.ret k
theorem K.exit(i:Nat)(h:w0c i c=true)(k:PJ F Q (.exit i) L H):J F P c L H Q:=by
  cases c<;>first|cases h|skip
  rename_i j
  have:=ae h
  subst this
  exact J.exit k
theorem K.loop {S O:Type} {step:S->Option (S⊕O)} {n:Nat} {s0:S} {o:O} (h:w0b c=true)(R:S->LE×a0f)(ho:a0x step n s0=some o)(ts:List Nat)(hL:g0q ts L=(R s0).1)(hH:H=(R s0).2)
    (body: ∀s x,step s=some x->J F P (cp c) (R s).1 (R s).2 (p0k F R Q o x)):J F P c L H Q:=by
  cases c<;>first|cases h|skip
  exact J.loopR R ho ts hL hH body
theorem RJ.end {m:Option Nat} {ops:Array Oper} {p:Nat} {tr:List (List Nat×List Nat)} (hp:Nat.ble ops.size p=true)(h:PJ F Q .normal L H):RJ F P m ops p tr L H Q:=RJ.done (af hp) h
end
theorem K.fn {P:Program} {f:FuncId} {fn:Func} (hf:P.funcs[f]?=some fn)(hb:fn.body.isSome=true)(hcal:b0P P f=true)(hin:b0E fn.ntmps (f0A fn)=true)
    {args:List SV} {H:a0f} {v:SV} {H':a0f} (hn:Nat.ble args.length fn.ntmps=true)
    (h: ∀F:Fr,F.n=fn.ntmps->F.H0=H->(∀i,F.H0.length<=i->F.D0 i=none)->J F P (f0A fn) (f0b 0 args) H (s0P P fn F v H')):SC P f args H v H':=by
  unfold f0A at*
  cases hbb:fn.body with
  |none=>rw[hbb]at hb;cases hb
  |some c=>rw[hbb]at hin h;exact A0D hf hbb hcal hin (af hn) h
theorem K.ret0 {F:Fr} {P:Program} {fn:Func} {e:Exit} {L:LE} {H:a0f} {v:SV} (he:e= .normal\/e= .ret)(hn:F.n=fn.ntmps)(hH:F.H0=[])(hdom: ∀i,F.H0.length<=i->F.D0 i=none)(hin:i0G fn.ntmps fn.results.toList=true)(hret:r0r P fn.results.toList L H=some v)(hr:SV.refs 0 v=true):
    PJ F (s0P P fn F v []) e L H:=
  PJ.end (f:=λj=>j) he (by rw[hn];exact hin) hret (by rw[hH];exact Back.drop (H':=[]) (ex:=H) (ai _) hr rfl) hdom
theorem K.retV {F:Fr} {P:Program} {fn:Func} {e:Exit} {L:LE} {H H0 H':a0f} {v v1:SV} (σ:List Nat)(he:e= .normal\/e= .ret)(hn:F.n=fn.ntmps)(hH:F.H0=H0)(hdom: ∀i,F.H0.length<=i->F.D0 i=none)(hin:i0G fn.ntmps fn.results.toList=true)(hret:r0r P fn.results.toList L H=some v1)
    (hl:σ.length=H'.length) (hg:σ.map (λi=>H[i]?)=H'.map (λen=>some (Ent.rn (b0r σ) en))) (hnd:σ.Nodup) (hr:H'.all (Ent.refs H'.length)=true) (hk:σ.take H0.length=List.range H0.length) (hle:Nat.ble H0.length H'.length=true) (hv:v1=SV.rn (b0r σ) v) (hvr:SV.refs H'.length v=true):
    PJ F (s0P P fn F v H') e L H:=by
  refine PJ.end (f:=b0r σ) he (by rw[hn];exact hin) hret ⟨Sel.of σ hl hg hnd hr,λj hj=> ?_,by rw[hH];exact af hle,hv,hvr⟩ hdom
  rw[hH]at hj
  have:=congrArg (λl=>l[j]?) hk
  simp only[aM,if_pos hj,bf hj]at this
  unfold b0r
  rw[ak,this];rfl
theorem Good.le {w:World} {K:Nat->Nat} {D:DM} {H H':a0f} {r:Value} {w':World} {s s':SV} (h:Good w K D H r w' s H')(hl:Le s s'):Good w K D H r w' s' H':=by
  obtain⟨K',D',g,hi,hr⟩:=h
  exact⟨K',D',g,hi,hl _ _ _ _ hr⟩
theorem PJ.res {F:Fr} {P:Program} {fn:Func} {e:Exit} {L:LE} {H:a0f} {v v1:SV} {H':a0f} (hl:Le v1 v)(h:PJ F (s0P P fn F v1 H') e L H):PJ F (s0P P fn F v H') e L H:=λa w hs=>by
  obtain⟨h1,h2,r,h3,h4⟩:=h a w hs
  exact⟨h1,h2,r,h3,h4.le hl⟩
theorem b0S {S X:Type} {k:S->Option X} {x:X} {r:Option X} (h:a0m k (.inr x)=r):some x=r:=h
theorem l0x {S X:Type} {k:S->Option X} {s:S} {r:Option X} (h:a0m k (.inl s)=r):k s=r:=h
def big:Nat:=18446744073709551616
end
open Go Go.RowKit Go.ChangeShapes Go.WideShapes Go.ChangeAt
section
variable [Inhabited GT]
def d0C(P:Program) {H:Type} :Nat->TypeId->DataW H->List SV->Prop
  |0,_,_,_=>False
  |n+1,t,d,cs=>match P.underlying t with
    |some .bool=> ∃b,d= .lit (.bool b)/\cs=[.bool b]
    |some (.int k)=> ∃x,d= .lit (.int k x)/\cs=[.int k x]/\(Lit.int k x).wf=true
    |some .string=> ∃l,d= .lit (.string l)/\cs=[.str l]
    |some (.slice e)=>(d= .nil/\cs=[.lst 0 (P.cellsOf e) []])\/ ∃(elems rest:List (DataW H)) (xs:List (List SV)),d= .slice elems rest/\cs=[.lst xs.length (P.cellsOf e) xs.flatten]/\xs.length=elems.length/\
        (∀x∈xs,x.length=P.cellsOf e)/\ ∀(i:Nat) y x,elems[i]?=some y->xs[i]?=some x->d0C P n e y x
    |some (.struct fs)=>cs.length=P.cellsOf t/\ ∃parts:List (DataW H),d= .agg parts/\parts.length=fs.size/\ ∀(i:Nat) (f:Field) p,fs[i]?=some f->parts[i]?=some p->d0C P n f.type p ((cs.drop f.offset).take (P.cellsOf f.type))
    |some (.array m e)=>cs.length=P.cellsOf t/\ ∃parts:List (DataW H),d= .agg parts/\parts.length=m/\ ∀(i:Nat) p,parts[i]?=some p->d0C P n e p ((cs.drop (i*P.cellsOf e)).take (P.cellsOf e))
    |_=>False
def i0A(P:Program)(total:Nat):Nat->List Field->Bool
  |off,[]=>off==total
  |off,f::r=>(f.offset==off)&&i0A P total (off+P.cellsOf f.type) r
def j0g(P:Program):Nat->TypeId->Bool
  |0,_=>false
  |n+1,t=>match P.underlying t with
    |some .bool=>true
    |some (.int _)=>true
    |some .string=>true
    |some (.slice e)=>decide (0<P.cellsOf e)&&j0g P n e
    |some (.struct fs)=>i0A P (P.cellsOf t) 0 fs.toList&&fs.toList.all λf=>j0g P n f.type
    |some (.array m e)=>(P.cellsOf t==m*P.cellsOf e)&&j0g P n e
    |_=>false
def KW(w:World):Nat->Nat:=λb=>match w.heap[b]? with
  |some (.cells c _ _)=>c.size
  |_=>0
theorem C0w(w:World)(b:Nat)(h:KW w b≠0):b<w.heap.size:=by
  unfold KW at h
  split at h
  rename_i c e f hb;exact(ah.1 hb).1
  exact absurd rfl h
theorem A0E {w:World} {b off:Nat} {v:Value} (h:w.cell? ⟨b,off,none⟩=some v):off<KW w b:=by
  unfold World.cell? at h
  unfold KW
  simp only at h
  split at h
  rename_i c e f hb
  rw[hb]
  simp at h
  exact(ah.1 h).1
  cases h
theorem s0l {α:Type} {Q:Nat->α->Prop} : ∀(n:Nat),(∀i,i<n-> ∃x,Q i x)-> ∃l:List α,l.length=n/\ ∀(i:Nat) x,l[i]?=some x->Q i x:=by
  intro n
  induction n with
  |zero=>intro _;exact⟨[],rfl,λi x h=>by simp at h⟩
  |succ n ih=>
    intro h
    obtain⟨l,hl,hq⟩:=ih λi hi=>h i (by omega)
    obtain⟨x,hx⟩:=h n (by omega)
    refine⟨l++ [x],by simp[hl],λi y hy=> ?_⟩
    rw[aD]at hy
    split at hy
    exact hq i y hy
    rename_i hi
    have:i-l.length=0:=by
      have:=(ab.1 hy).1
      simp at this;omega
    have hin:i=n:=by omega
    rw[this]at hy
    simp at hy
    subst hy;subst hin;exact hx
theorem l0C {α:Type} {k:Nat} : ∀(l:List (List α)),(∀x∈l,x.length=k)->l.flatten.length=l.length*k:=by
  intro l
  induction l with
  |nil=>intro _;simp
  |cons x l ih=>
    intro h
    rw[List.flatten_cons,ay,h x (ar ..),ih λy hy=>h y (am _ hy),aS,bp]
    omega
theorem i0k {α:Type} {k:Nat} (hk:0<k): ∀(l:List (List α)),(∀x∈l,x.length=k)-> ∀j,l.flatten[j]?=(l[j/k]?).bind λx=>x[j%k]?:=by
  intro l
  induction l with
  |nil=>intro _ j;simp
  |cons x l ih=>
    intro h j
    have hx:=h x (ar ..)
    rw[List.flatten_cons,aD]
    split
    rename_i hj
    rw[hx]at hj
    rw[Nat.div_eq_of_lt hj,Nat.mod_eq_of_lt hj]
    rfl
    rename_i hj
    rw[hx]at hj⊢
    rw[ih (λy hy=>h y (am _ hy))]
    have h1:j/k=(j-k)/k+1:=by
      have:=Nat.div_eq_sub_div hk (show k<=j by omega)
      exact this
    have h2:j%k=(j-k)%k:=Nat.mod_eq_sub_mod (by omega)
    rw[h1,h2]
    simp
theorem m0D {P:Program} {w:World} {K:Nat->Nat} {D:DM} {cs:List Value} {Q:Nat->List SV->Prop} : ∀(fl:List Field) (off i0:Nat),i0A P cs.length off fl=true->
    (∀(i:Nat) f,fl[i]?=some f-> ∃ss,CR w K D ((cs.drop f.offset).take (P.cellsOf f.type)) ss/\ss.length=P.cellsOf f.type/\b0f ss=true/\Q (i0+i) ss)->
    ∃ss,CR w K D (cs.drop off) ss/\b0f ss=true/\ ∀(i:Nat) f,fl[i]?=some f->off<=f.offset/\Q (i0+i) ((ss.drop (f.offset-off)).take (P.cellsOf f.type)):=by
  intro fl
  induction fl with
  |nil=>
    intro off i0 h _
    simp only[i0A,beq_iff_eq]at h
    subst h
    exact⟨[],by simpa using CR.nil,rfl,λi f hf=>by simp at hf⟩
  |cons f r ih=>
    intro off i0 h hq
    simp only[i0A,aa,beq_iff_eq]at h
    obtain⟨h1,h2⟩:=h
    subst h1
    obtain⟨s1,c1,l1,p1,q1⟩:=hq 0 f rfl
    obtain⟨s2,c2,p2,q2⟩:=ih (f.offset+P.cellsOf f.type) (i0+1) h2 (λi g hg=>by
      obtain⟨ss,a,b,pp,c⟩:=hq (i+1) g (by simpa using hg)
      exact⟨ss,a,b,pp,by rw[show i0+1+i=i0+(i+1)from by omega];exact c⟩)
    refine⟨s1++s2, ?_,by simp only[b0f,bL,aa]at p1 p2⊢;exact⟨p1,p2⟩,λi g hg=> ?_⟩
    have:=c1.append c2
    rw[<-List.drop_drop,bR]at this
    exact this
    cases i with
    |zero=>
      simp at hg;subst hg
      refine⟨ai _, ?_⟩
      rw[Nat.sub_self,List.drop_zero,<-l1,List.take_left]
      exact q1
    |succ i=>
      obtain⟨p1,p2⟩:=q2 i g (by simpa using hg)
      refine⟨by omega, ?_⟩
      have hd:(s1++s2).drop (g.offset-f.offset)=s2.drop (g.offset-(f.offset+P.cellsOf f.type)):=by
        rw[List.drop_append,bD (by omega),cd]
        congr 1
        omega
      rw[hd,show i0+(i+1)=i0+1+i from by omega]
      exact p2
theorem r0d {P:Program} {total:Nat} : ∀(fl:List Field) (off:Nat),i0A P total off fl=true->off<=total/\ ∀f∈fl,f.offset+P.cellsOf f.type<=total:=by
  intro fl
  induction fl with
  |nil=>intro off h;simp only[i0A,beq_iff_eq]at h;exact⟨by omega,λf hf=>by cases hf⟩
  |cons f r ih=>
    intro off h
    simp only[i0A,aa,beq_iff_eq]at h
    obtain⟨h1,h2⟩:=h
    obtain⟨i1,i2⟩:=ih _ h2
    refine⟨by omega,λg hg=> ?_⟩
    rcases aO.1 hg with rfl|hg
    omega
    exact i2 g hg
def f0o (e k i : Nat) : Field := { name := "", type := e, offset := i * k, embedded := false, tag := "", pkgPath := "", byteOffset := 0 }
theorem s0u {P:Program} {e:TypeId} : ∀(m i0:Nat),i0A P ((i0+m)*P.cellsOf e) (i0*P.cellsOf e) ((List.range' i0 m).map (f0o e (P.cellsOf e)))=true:=by
  intro m
  induction m with
  |zero=>intro i0;simp[i0A]
  |succ m ih=>
    intro i0
    simp only[List.range'_succ,aj,i0A,f0o,beq_self_eq_true,Bool.true_and]
    have:=ih (i0+1)
    rw[show i0*P.cellsOf e+P.cellsOf e=(i0+1)*P.cellsOf e from(bp _ _).symm,show i0+(m+1)=i0+1+m from by omega]
    exact this
section
variable {H : Type} {enc : TypeId × Value -> H} {P : Program} {w : World}
theorem o0R: ∀(n:Nat) (t:TypeId) (fuel:Nat) (cs:List Value) (x:DataW H×List MemPlace),j0g P n t=true->DataW.trod enc P w 0 (λ_=>true) true fuel t cs=some x->
    ∃ss,CR w (KW w) (λ_=>none) cs ss/\b0f ss=true/\d0C P n t x.1 ss:=by
  intro n
  induction n with
  |zero=>intro t fuel cs x hp _;simp[j0g]at hp
  |succ n ih=>
    intro t fuel cs x hp h
    unfold j0g at hp
    have single: ∀(v:Value) (s:SV),cs=[v]->Rep w (KW w) (λ_=>none) v s->s.plain=true->CR w (KW w) (λ_=>none) cs [s]:=by
      intro v s hc hr h1
      subst hc
      exact⟨rfl,λc hm=>by simp at hm;subst hm;exact q0q hr h1,λj v c hv hc=>by
        cases j with
        |zero=>simp at hv hc;subst hv;subst hc;exact hr
        |succ j=>simp at hv⟩
    split at hp
    rename_i hu
    obtain⟨b,hcs,hx⟩:=DataW.trod_bool hu h
    exact⟨[.bool b],single _ _ hcs (.bool b) rfl,rfl,by unfold d0C;rw[hu,hx];exact⟨b,rfl,rfl⟩⟩
    rename_i k hu
    obtain⟨z,hcs,hx,hw⟩:=DataW.trod_int hu h
    exact⟨[.int k z],single _ _ hcs (.int k z) rfl,rfl,by unfold d0C;rw[hu,hx];exact⟨z,rfl,rfl,hw⟩⟩
    rename_i hu
    obtain⟨s,hcs,hx,_⟩:=DataW.trod_string hu h
    exact⟨[.str s.data.toList],single _ _ hcs (.str s) rfl,rfl,by unfold d0C;rw[hu,hx];exact⟨_,rfl,rfl⟩⟩
    rename_i e hu
    simp only[aa,decide_eq_true_eq]at hp
    obtain⟨hk,hpe⟩:=hp
    rcases DataW.trod_slice hu h with⟨hcs,hx⟩|⟨a,len,cap,elems,rest,m,_,hcs,hx,hb,hl,hm,hlen,hel,hsp,hns⟩
    exact⟨[.lst 0 (P.cellsOf e) []],single _ _ hcs (.emp _ _ _) rfl,rfl,by unfold d0C;rw[hu,hx];exact .inl ⟨rfl,rfl⟩⟩
    -- each element by itself
    have each: ∀i,i<len-> ∃p:List Value×List SV,p.1.length=P.cellsOf e/\(CR w (KW w) (λ_=>none) p.1 p.2/\b0f p.2=true)/\(∀r,r<P.cellsOf e->w.cell? ((a.add (i*P.cellsOf e)).add r)=p.1[r]?)/\
        ∀y,elems[i]?=some y->d0C P n e y.1 p.2:=by
      intro i hi
      have h1:=hel i hi
      have hil:i<elems.length:=by omega
      rw[ac hil]at h1
      simp only[Option.bind_eq_some_iff]at h1
      obtain⟨vs,hvs,htr⟩:=h1
      obtain⟨_,h3,h4⟩:=World.cells?_some hvs
      obtain⟨ss,hcr,hpl,hsh⟩:=ih e m vs _ hpe htr
      exact⟨(vs,ss),h3,⟨hcr,hpl⟩,h4,λy hy=>by rw[ac hil]at hy;cases hy;exact hsh⟩
    obtain⟨l,hll,hlq⟩:=s0l len each
    have hget: ∀i,i<len-> ∃p,l[i]?=some p:=λi hi=>⟨l[i]'(by omega),ac (by omega)⟩
    have hxs1: ∀x∈l.map (·.1),x.length=P.cellsOf e:=by
      intro x hx
      obtain⟨p,hp,rfl⟩:=aR.1 hx
      obtain⟨i,hi⟩:=aY.1 hp
      exact(hlq i p hi).1
    have hxs2: ∀x∈l.map (·.2),x.length=P.cellsOf e:=by
      intro x hx
      obtain⟨p,hp,rfl⟩:=aR.1 hx
      obtain⟨i,hi⟩:=aY.1 hp
      rw[(hlq i p hi).2.1.1.len];exact(hlq i p hi).1
    have hshow:d0C P (n+1) t x.1 [.lst len (P.cellsOf e) (l.map (·.2)).flatten]:=by
      unfold d0C
      rw[hu,hx]
      refine .inr ⟨elems.map (·.1),rest.map (·.1),l.map (·.2),rfl,by rw[List.length_map,hll],by simp[hll,hlen],hxs2,λi y x hy hxx=> ?_⟩
      rw[al]at hy hxx
      cases hp:l[i]? with
      |none=>rw[hp]at hxx;cases hxx
      |some p=>
        rw[hp]at hxx;cases hxx
        cases he:elems[i]? with
        |none=>rw[he]at hy;cases hy
        |some y'=>rw[he]at hy;cases hy;exact(hlq i p hp).2.2.2 y' he
    refine⟨_,single _ _ hcs ?_ rfl,rfl,hshow⟩
    by_cases h0:len=0
    subst h0
    have:l=[]:=ao hll
    subst this
    exact .emp _ _ _
    obtain⟨b,off,spot⟩:=a
    have hcell: ∀i r,i<len->r<P.cellsOf e-> ∃p v,l[i]?=some p/\p.1[r]?=some v/\w.cell? (((⟨b,off,spot⟩:Addr).add (i*P.cellsOf e)).add r)=some v:=by
      intro i r hi hr
      obtain⟨p,hp⟩:=hget i hi
      obtain⟨q1,q2,q3,q4⟩:=hlq i p hp
      have hrl:r<p.1.length:=by omega
      exact⟨p,p.1[r],hp,ac hrl,by rw[q3 r hr,ac hrl]⟩
    have hspot:spot=none:=by
      obtain⟨p,v,_,_,hc⟩:=hcell 0 0 (by omega) hk
      have h1:((⟨b,off,spot⟩:Addr).add (0*P.cellsOf e)).add 0=⟨b,off,spot⟩:=by simp[Addr.add]
      rw[h1]at hc
      have:=World.cell?_spot hc
      simpa using this
    subst hspot
    have hflat1:(l.map (·.1)).flatten.length=len*P.cellsOf e:=by rw[l0C _ hxs1];simp[hll]
    have hflat2:(l.map (·.2)).flatten.length=len*P.cellsOf e:=by rw[l0C _ hxs2];simp[hll]
    have hmem: ∀j v,(l.map (·.1)).flatten[j]?=some v->w.cell? ⟨b,off+j,none⟩=some v:=by
      intro j v hj
      have hjl:=(ab.1 hj).1
      rw[hflat1]at hjl
      have hi:j/P.cellsOf e<len:=Nat.div_lt_of_lt_mul (by rw[Nat.mul_comm];exact hjl)
      have hr:j%P.cellsOf e<P.cellsOf e:=Nat.mod_lt _ hk
      obtain⟨p,u,hp,hu',hc⟩:=hcell _ _ hi hr
      rw[i0k hk _ hxs1,al,hp]at hj
      simp only[aP,aq]at hj
      rw[hu']at hj;cases hj
      rw[add_lit,add_lit]at hc
      have hjj:off+j/P.cellsOf e*P.cellsOf e+j%P.cellsOf e=off+j:=by
        have:=Nat.div_add_mod j (P.cellsOf e)
        rw[Nat.mul_comm]at this;omega
      rw[hjj]at hc
      exact hc
    refine .lst (P.cellsOf e) b off len cap (l.map (·.1)).flatten _ hk hflat1 (by rw[hflat2,hflat1]) hl hmem ?_ (λc hc=> ?_) (List.all_eq_true.2 λc hc=> ?_) (λj v c hv hc=> ?_)
    rw[hflat1]
    have hpos:0<len*P.cellsOf e:=Nat.mul_pos (by omega) hk
    have hlast:len*P.cellsOf e-1<(l.map (·.1)).flatten.length:=by rw[hflat1];omega
    have:=A0E (hmem _ _ (ac hlast))
    omega
    obtain⟨x,hx,hcx⟩:=List.mem_flatten.1 hc
    obtain⟨p,hp,rfl⟩:=aR.1 hx
    obtain⟨i,hi⟩:=aY.1 hp
    exact(hlq i p hi).2.1.1.one c hcx
    obtain⟨x,hx,hcx⟩:=List.mem_flatten.1 hc
    obtain⟨p,hp,rfl⟩:=aR.1 hx
    obtain⟨i,hi⟩:=aY.1 hp
    exact List.all_eq_true.1 (hlq i p hi).2.1.2 c hcx
    rw[i0k hk _ hxs1,al]at hv
    rw[i0k hk _ hxs2,al]at hc
    cases hp:l[j/P.cellsOf e]? with
    |none=>rw[hp]at hv;cases hv
    |some p=>
      rw[hp]at hv hc
      simp only[aP,aq]at hv hc
      exact(hlq _ p hp).2.1.1.rep _ v c hv hc
    rename_i fs hu
    simp only[aa,List.all_eq_true]at hp
    obtain⟨hct,hpf⟩:=hp
    obtain⟨xs,m,_,hx,hcl,hxl,hfs⟩:=DataW.trod_struct hu h
    rw[<-hcl]at hct
    obtain⟨ss,hcr,hpl,hq⟩:=m0D (w:=w) (K:=KW w) (D:=λ_=>none) (Q:=λj ss=> ∀f p,fs.toList[j]?=some f->xs[j]?=some p->d0C P n f.type p.1 ss) fs.toList 0 0 hct (λi f hf=>by
      have hf':fs[i]?=some f:=by simpa using hf
      have hil:i<xs.length:=by rw[hxl];exact(ah.1 hf').1
      have htr:=hfs i f hf'
      rw[ac hil]at htr
      obtain⟨ss,h1,hp1,h2⟩:=ih f.type m _ _ (hpf f (aA hf)) htr
      refine⟨ss,h1, ?_,hp1,λg p hg hpp=> ?_⟩
      have:=(r0d _ _ hct).2 f (aA hf)
      rw[h1.len,aJ,bc];omega
      rw[aW]at hg hpp
      rw[hf]at hg;cases hg
      rw[ac hil]at hpp;cases hpp
      exact h2)
    refine⟨ss,by simpa using hcr,hpl, ?_⟩
    unfold d0C
    rw[hu,hx]
    refine⟨by have:=hcr.len;simp at this;omega,xs.map (·.1),rfl,by simp[hxl],λi f p hf hpp=> ?_⟩
    rw[al]at hpp
    cases hxi:xs[i]? with
    |none=>rw[hxi]at hpp;cases hpp
    |some y=>
      rw[hxi]at hpp;cases hpp
      have hfl:fs.toList[i]?=some f:=by simpa using hf
      have:=(hq i f hfl).2 f y (by simpa using hfl) (by simpa using hxi)
      simpa using this
    rename_i m e hu
    simp only[aa,beq_iff_eq]at hp
    obtain⟨hct,hpe⟩:=hp
    obtain⟨xs,mm,_,hx,hcl,hxl,hfs⟩:=DataW.trod_array hu h
    have hcf:i0A P cs.length 0 ((List.range' 0 m).map (f0o e (P.cellsOf e)))=true:=by
      have:=s0u (P:=P) (e:=e) m 0
      rw[hcl,hct]
      simpa using this
    have hff: ∀(i:Nat) f,((List.range' 0 m).map (f0o e (P.cellsOf e)))[i]?=some f->i<m/\f=f0o e (P.cellsOf e) i:=by
      intro i f hf
      rw[al]at hf
      cases hr:(List.range' 0 m)[i]? with
      |none=>rw[hr]at hf;cases hf
      |some j=>
        rw[hr]at hf
        have hl:=(ab.1 hr)
        obtain⟨p1,p2⟩:=hl
        simp at p1 p2
        subst p2
        cases hf
        exact⟨p1,rfl⟩
    obtain⟨ss,hcr,hpl,hq⟩:=m0D (w:=w) (K:=KW w) (D:=λ_=>none) (Q:=λj ss=> ∀p,xs[j]?=some p->d0C P n e p.1 ss) _ 0 0 hcf (λi f hf=>by
      obtain⟨him,rfl⟩:=hff i f hf
      have hil:i<xs.length:=by omega
      have htr:=hfs i him
      rw[ac hil]at htr
      obtain⟨ss,h1,hp1,h2⟩:=ih e mm _ _ hpe htr
      refine⟨ss,h1, ?_,hp1,λp hpp=> ?_⟩
      have h3:=(r0d _ _ hcf).2 _ (aA hf)
      rw[h1.len,aJ,bc]
      simp only[f0o]at h3⊢
      omega
      rw[aW]at hpp
      rw[ac hil]at hpp;cases hpp
      exact h2)
    refine⟨ss,by simpa using hcr,hpl, ?_⟩
    unfold d0C
    rw[hu,hx]
    refine⟨by have:=hcr.len;simp at this;omega,xs.map (·.1),rfl,by simp[hxl],λi p hpp=> ?_⟩
    rw[al]at hpp
    cases hxi:xs[i]? with
    |none=>rw[hxi]at hpp;cases hpp
    |some y=>
      rw[hxi]at hpp;cases hpp
      have him:i<m:=by rw[<-hxl];exact(ab.1 hxi).1
      have hfi:((List.range' 0 m).map (f0o e (P.cellsOf e)))[i]?=some (f0o e (P.cellsOf e) i):=by
        rw[al,List.getElem?_range' him];simp
      have:=(hq i _ hfi).2 y (by simpa using hxi)
      simpa [f0o]using this
    cases hp
end
end
section
variable [Inhabited GT]
def h0V(P:Program) {H:Type} (n:Nat)(t:TypeId)(d:DataW H)(s:SV):Prop:=
  match P.underlying t with
  |some (.struct _)=> ∃cs,s= .agg cs/\d0C P n t d cs
  |some (.array _ _)=> ∃cs,s= .agg cs/\d0C P n t d cs
  |_=>d0C P n t d [s]
section
variable {H : Type} {enc : TypeId × Value -> H} {P : Program} {w : World}
theorem v0b {n:Nat} {t:TypeId} {r:Reach} {b0:Nat} {v:Value} {d:DataW H} {ps:List MemPlace} (hp:j0g P n t=true)(hval:Value.okWide P w r b0 t v)(hd:DataW.Trod enc P w 0 (λ_=>true) true t v d ps):
    ∃s,Rep w (KW w) (λ_=>none) v s/\h0V P n t d s:=by
  obtain⟨fuel,hf⟩:=hd
  obtain⟨ss,hcr,hpl,hsh⟩:=o0R n t fuel _ _ hp hf
  have l0h:v.cells= #[v]->(∀ss,d0C P n t d ss-> ∃s,ss=[s])->(∀s,d0C P n t d [s]->h0V P n t d s)-> ∃s,Rep w (KW w) (λ_=>none) v s/\h0V P n t d s:=by
    intro hc h1 h2
    obtain⟨s,rfl⟩:=h1 ss hsh
    exact⟨s,hcr.rep 0 v s (by rw[hc];rfl) rfl,h2 s hsh⟩
  cases n with
  |zero=>simp[j0g]at hp
  |succ n=>
    have hp':=hp
    unfold j0g at hp
    split at hp
    rename_i hu
    obtain⟨b,rfl⟩:=okWide_bool hu hval
    refine l0h rfl (λss h=> ?_) (λs h=>by unfold h0V;rw[hu];exact h)
    unfold d0C at h;rw[hu]at h
    obtain⟨b,_,rfl⟩:=h
    exact⟨_,rfl⟩
    rename_i k hu
    obtain⟨b,rfl⟩:=okWide_int hu hval
    refine l0h rfl (λss h=> ?_) (λs h=>by unfold h0V;rw[hu];exact h)
    unfold d0C at h;rw[hu]at h
    obtain⟨b,_,rfl,_⟩:=h
    exact⟨_,rfl⟩
    rename_i hu
    obtain⟨b,rfl⟩:=okWide_string hu hval
    refine l0h rfl (λss h=> ?_) (λs h=>by unfold h0V;rw[hu];exact h)
    unfold d0C at h;rw[hu]at h
    obtain⟨b,_,rfl⟩:=h
    exact⟨_,rfl⟩
    rename_i e hu
    obtain⟨a,len,cap,rfl⟩:=okWide_slice hu hval
    refine l0h rfl (λss h=> ?_) (λs h=>by unfold h0V;rw[hu];exact h)
    unfold d0C at h;rw[hu]at h
    rcases h with⟨_,rfl⟩|⟨_,_,_,_,rfl,_⟩
    exact⟨_,rfl⟩
    exact⟨_,rfl⟩
    rename_i fs hu
    unfold Value.okWide at hval
    rw[hu]at hval
    obtain⟨cs,rfl,_,_⟩:=hval
    refine⟨.agg ss, ?_,by unfold h0V;rw[hu];exact⟨ss,rfl,hsh⟩⟩
    have:=Rep.agg _ _ hcr.len hcr.one hcr.rep
    simpa [Value.cells]using this
    rename_i m e hu
    unfold Value.okWide at hval
    rw[hu]at hval
    obtain⟨cs,rfl,_,_⟩:=hval
    refine⟨.agg ss, ?_,by unfold h0V;rw[hu];exact⟨ss,rfl,hsh⟩⟩
    have:=Rep.agg _ _ hcr.len hcr.one hcr.rep
    simpa [Value.cells]using this
    cases hp
theorem u0p {n:Nat} {r:Reach} {b0:Nat} : ∀(ts:List TypeId) (vs:List Value) (ds:List (DataW H)) (ps:List MemPlace),(∀t∈ts,j0g P n t=true)->
    (∀(j:Nat) t v,ts[j]?=some t->vs[j]?=some v->Value.okWide P w r b0 t v)->DataW.TrodAll enc P w 0 (λ_=>true) true ts vs ds ps->
    ∃ss:List SV,ss.length=vs.length/\ds.length=ts.length/\ss.length=ts.length/\(∀(j:Nat) x c,vs[j]?=some x->ss[j]?=some c->Rep w (KW w) (λ_=>none) x c)/\
      (∀(j:Nat) t d s,ts[j]?=some t->ds[j]?=some d->ss[j]?=some s->h0V P n t d s):=by
  intro ts
  induction ts with
  |nil=>
    intro vs ds ps _ _ h
    cases vs<;>cases ds<;>first|exact⟨[],rfl,rfl,rfl,λj x c e=>by simp at e,λj t d s e=>by simp at e⟩|exact h.elim
  |cons t ts ih=>
    intro vs ds ps hp hv h
    cases vs with
    |nil=>cases ds<;>exact h.elim
    |cons v vs=>
      cases ds with
      |nil=>exact h.elim
      |cons d ds=>
        obtain⟨p,q,h1,h2,_⟩:=h
        obtain⟨s,hr,hs⟩:=v0b (hp t (ar ..)) (hv 0 t v rfl rfl) h1
        obtain⟨ss,i1,i2,i3,i4,i5⟩:=ih vs ds q (λt ht=>hp t (am _ ht)) (λj t v ht hvv=>hv (j+1) t v (by simpa using ht) (by simpa using hvv)) h2
        refine⟨s::ss,by simp[i1],by simp[i2],by simp[i3],λj x c hx hc=> ?_,λj t' d' s' ht hd hs'=> ?_⟩
        cases j with
        |zero=>simp at hx hc;subst hx;subst hc;exact hr
        |succ j=>exact i4 j x c (by simpa using hx) (by simpa using hc)
        cases j with
        |zero=>simp at ht hd hs';subst ht;subst hd;subst hs';exact hs
        |succ j=>exact i5 j t' d' s' (by simpa using ht) (by simpa using hd) (by simpa using hs')
theorem x0Z:HInv w (KW w) (λ_=>none) []:=
  ⟨λ_ _=>rfl,λi en h=>by simp at h,λi j en en' b c n c' n' h=>by simp at h,C0w w⟩
theorem not_mem_nil {D:DM} {b:Nat} : ¬Mem D [] b:=fun⟨i,en,c,n,h,_⟩=>by simp at h
theorem v0Y {f:FuncId} {vals:List Value} {ss:List SV} {H':a0f} (hl:ss.length=vals.length)(hr: ∀(j:Nat) x c,vals[j]?=some x->ss[j]?=some c->Rep w (KW w) (λ_=>none) x c)(h:SC P f ss [] (.bool true) H')(hG:i0E w (KW w) λ_=>none):
    Calls P f vals.toArray w λe w'=>e= .returned (.bool true)/\Below w.heap.size w w':=by
  refine(h.2 w (KW w) (λ_=>none) vals hl.symm hr x0Z hG).mono ?_
  rintro e w' ⟨r,rfl,K',D',g,_,hrep⟩
  cases hrep
  exact⟨rfl,g.os,g.tape,g.output,g.size,λk hk=>g.block k hk not_mem_nil⟩
theorem o0L {W W':World} (hl:laidOutB P=true)(hb:Below W.heap.size W W'): ∀(ts:List TypeId) (vs:List Value) (ds:List (DataW H)) (ps:List MemPlace),(∀t∈ts,P.readableRec t=true/\t<P.types.size)->
    DataW.TrodAll enc P W 0 (λ_=>true) true ts vs ds ps->(∀x∈ps,x.block<W.heap.size)->DataW.TrodAll enc P W' 0 (λb=>decide (b<W.heap.size)) true ts vs ds ps:=by
  intro ts
  induction ts with
  |nil=>intro vs ds ps _ h _;cases vs<;>cases ds<;>first|exact h|exact h.elim
  |cons t ts ih=>
    intro vs ds ps ht h hps
    cases vs with
    |nil=>cases ds<;>exact h.elim
    |cons v vs=>
      cases ds with
      |nil=>exact h.elim
      |cons d ds=>
        obtain⟨p,q,h1,h2,rfl⟩:=h
        obtain⟨r1,r2⟩:=ht t (ar ..)
        exact⟨p,q,Below.trod hl r1 r2 h1 hb (λx hx=>hps x (av.2 (.inl hx))),ih vs ds q (λt hm=>ht t (am _ hm)) h2 (λx hx=>hps x (av.2 (.inr hx))),rfl⟩
theorem x0U {f:FuncId} {fn:Func} {s:ChangeSpec} {n:Nat} {tb:TypeId} (hl:laidOutB P=true)(htb:P.underlying tb=some .bool)(hrt:fn.resultTypes= #[tb])(hv:s.vars=[])
    (hplain:fn.params.toList.all (λt=>j0g P n t&&P.readableRec t&&decide (t<P.types.size))=true)
    {W:World} {base:Nat} {args:Array Value} {ds gs:List (DataW H)} {before:List MemPlace}
    (hspec:ds.length=fn.params.toList.length->(s.fn H ds).results=[.lit (.bool true)]/\(s.fn H ds).args=ds/\(s.fn H ds).vars=[])
    (hval: ∀(j:Nat) t v,fn.params[j]?=some t->args[j]?=some v->Value.okWide P W .any base t v)
    (hW:DataW.Whole enc P fn.params.toList s.vars false W args.toList ds gs before)
    (main: ∀ss:List SV,gs=[]->ds.length=fn.params.toList.length->ss.length=fn.params.toList.length->(∀(j:Nat) t d x,fn.params.toList[j]?=some t->ds[j]?=some d->ss[j]?=some x->h0V P n t d x)-> ∃H',SC P f ss [] (.bool true) H') (hG:i0E W (KW W) λ_=>none):
    Calls P f args W λe W'=> ∃v,e= .returned v/\s.post enc P fn false true false false W args v W':=by
  have hW':=hW
  obtain⟨p,q,hA,hV,rfl,_,_⟩:=hW
  rw[hv]at hV
  obtain⟨rfl,rfl⟩:=trodVars_none hV
  simp only[List.all_eq_true,aa,decide_eq_true_eq]at hplain
  obtain⟨ss,l1,l2,l3,hr,hs⟩:=u0p (P:=P) (w:=W) (n:=n) fn.params.toList args.toList ds p (λt ht=>(hplain t ht).1.1) (λj t v ht hvv=>hval j t v (by simpa using ht) (by simpa using hvv)) hA
  obtain⟨H',hm⟩:=main ss rfl l2 l3 hs
  have hc:=v0Y (P:=P) (f:=f) l1 hr hm hG
  have ha:args.toList.toArray=args:=by simp
  rw[ha]at hc
  refine hc.mono λe W' ⟨he,hb⟩=> ?_
  obtain⟨e1,e2,e3⟩:=hspec l2
  refine⟨_,he,ds,[],_,[],p++ [],[],hW', ?_, ?_, ?_,hb.frame _,λh=>by cases h⟩
  rw[bF,e1,hrt]
  exact trodAll_mk1 (shut_bool htb _)
  rw[bF,e2,bF]
  exact o0L hl hb _ _ _ _ (λt ht=>⟨(hplain t ht).1.2,(hplain t ht).2⟩) hA (λx hx=>by have:=hW'.lt x (by simpa using hx);simpa using this)
  rw[bF,e3,hv];rfl
end
end
section
variable [Inhabited GT]
/-! Loops. -/
section
variable {S O : Type} {step : S -> Option (S ⊕ O)}
theorem f0N {n:Nat} {s s':S} (h:step s=some (.inl s')):a0x step (n+1) s=a0x step n s':=by
  simp only[a0x,h]
theorem h0N {n:Nat} {s:S} {o:O} (h:step s=some (.inr o)):a0x step (n+1) s=some o:=by
  simp only[a0x,h]
end
theorem w64 {n:Int} (h1: -9223372036854775808<=n)(h2:n<=9223372036854775807):IntKind.i64.wrap n=n:=by
  unfold IntKind.wrap
  simp only[IntKind.signed,IntKind.bits,Bool.true_and,Bool.false_and,aH,if_false,decide_eq_true_eq]
  first|omega|(split<;>rename_i hc<;>simp at hc<;>omega)
theorem s0a {i n:Nat} (h:i<n):inR (i:Int) n=true:=e0I.2 ⟨by omega,by omega⟩
theorem a0i {i:Int} {n:Nat} (h1:0<=i)(h:i<n):inR i n=true:=e0I.2 ⟨h1,h⟩
theorem p0i {T:Type} [Inhabited T] {xs:List T} {i:Nat} (h:i<xs.length):nth xs (i:Int)=xs[i]:=by
  unfold nth
  rw[Int.toNat_natCast,ak,ac h];rfl
theorem a0k {n:Nat} (h:n<=4294967296):room n=true:=by simp[room,Nat.ble_eq,h]
theorem q0T {l h:Int} {n:Nat} (h1:0<=l)(h2:l<=h)(h3:h<=n):inS l h n=true:=n0J.2 ⟨h1,h2,h3⟩
theorem dT {p:Prop} [Decidable p](h:p):decide p=true:=decide_eq_true h
theorem dF {p:Prop} [Decidable p](h: ¬p):decide p=false:=decide_eq_false h
/-! Parameters. -/
section
open Go.ChangeShapes Go.WideShapes Go.ChangeAt
variable {P : Program} {H : Type}
def m0R(P:Program) {H:Type} (t:TypeId)(d:DataW H):Prop:= ∀n∈d.weights P t,n<=reachBytes
theorem r0B {ts:List TypeId} {ds:List (DataW H)} (h:(DataW.weightsEach P ts ds).all (· <=reachBytes)=true) {j:Nat} {t:TypeId} {d:DataW H} (ht:ts[j]?=some t)(hd:ds[j]?=some d):m0R P t d:=
  λn hn=>by
    have:=List.all_eq_true.1 h _ (DataW.weights_mem_each ht hd n hn)
    simpa using this
theorem h0u {e:TypeId} {n:Nat} : ∀(l:List (DataW H)) (y:DataW H),y∈l->n∈y.weights P e->n∈DataW.weightsAll P e l
  | [],y,h,_=>by cases h
  |x::l,y,h,hn=>by
    simp only[DataW.weightsAll,av]
    rcases aO.1 h with rfl|h
    exact .inl hn
    exact .inr (h0u l y h hn)
theorem x0l {t e:TypeId} {elems rest:List (DataW H)} (hu:P.underlying t=some (.slice e))(h:m0R P t (.slice elems rest)) {y:DataW H} (hy:y∈elems):m0R P e y:=λn hn=>by
  refine h n ?_
  simp only[DataW.weights,hu,aO,av]
  exact .inr (.inl (h0u elems y hy hn))
theorem u0Z {t e:TypeId} {elems rest:List (DataW H)} (hu:P.underlying t=some (.slice e))(hb:0<P.bytesOf e)(h:m0R P t (.slice elems rest)):elems.length<=140737488355328:=by
  have h1:=h ((elems.length+rest.length)*P.bytesOf e) (by simp[DataW.weights,hu])
  have h2:=reachBytes_lt
  have h3:elems.length<=(elems.length+rest.length)*P.bytesOf e:=aI (Nat.le_add_right _ _) (Nat.le_mul_of_pos_right _ hb)
  omega
theorem t0C {t:TypeId} {fs:Array Field} {parts:List (DataW H)} (hu:P.underlying t=some (.struct fs))(h:m0R P t (.agg parts)) {i:Nat} {f:Field} {p:DataW H} (hf:fs[i]?=some f)(hp:parts[i]?=some p):m0R P f.type p:=λn hn=>by
  refine h n ?_
  simp only[DataW.weights,hu]
  exact DataW.weights_mem_each (j:=i) (by simp[hf]) hp n hn
def m0v(P:Program)(n:Nat)(t:TypeId) {T:Type} (enc:T->List SV)(Wf:T->Prop):Prop:= ∀ {H:Type} (d:DataW H) (cs:List SV),d0C P n t d cs->m0R P t d-> ∃x:T,cs=enc x/\Wf x
def WfL {T:Type} (Wf:T->Prop)(zs:List T):Prop:=zs.length<=140737488355328/\ ∀z∈zs,Wf z
def WfI(k:IntKind)(z:Int):Prop:=(Lit.int k z).wf=true
def WfB(_:Bool):Prop:=True
def WfT(s:List UInt8):Prop:=s.length<=140737488355328
theorem c0p {n:Nat} {t:TypeId} {k:IntKind} (hu:P.underlying t=some (.int k)):m0v P (n+1) t (a0s k) (WfI k):=λd cs h _=>by
  unfold d0C at h
  rw[hu]at h
  obtain⟨z,_,h2,hw⟩:=h
  exact⟨z,h2,hw⟩
theorem l0P {n:Nat} {t:TypeId} (hu:P.underlying t=some .bool):m0v P (n+1) t A0q WfB:=λd cs h _=>by
  unfold d0C at h
  rw[hu]at h
  obtain⟨z,_,h2⟩:=h
  exact⟨z,h2,trivial⟩
theorem e0v {n:Nat} {t:TypeId} (hu:P.underlying t=some .string):m0v P (n+1) t n0W WfT:=λd cs h hs=>by
  unfold d0C at h
  rw[hu]at h
  obtain⟨z,h1,h2⟩:=h
  subst h1
  refine⟨z,h2, ?_⟩
  have h3:=hs z.length (by simp[DataW.weights])
  have h4:=reachBytes_lt
  unfold WfT
  omega
theorem j0V {T:Type} {enc:T->List SV} {Wf:T->Prop} {n:Nat} {t e:TypeId} (hu:P.underlying t=some (.slice e)) {k:Nat} (hc:P.cellsOf e=k)(hb:Nat.blt 0 (P.bytesOf e)=true)(hel:m0v P n e enc Wf):
    m0v P (n+1) t (f0c enc k) (WfL Wf):=λ{H} d cs h hs=>by
  unfold d0C at h
  rw[hu]at h
  simp only at h
  rcases h with⟨rfl,h2⟩|⟨elems,rest,xs,rfl,h2,hl,hx,hall⟩
  exact⟨[],by rw[h2,hc];rfl,by simp,λz hz=>(by cases hz)⟩
  rw[hc]at h2
  have hlen:=u0Z hu (by simpa [Nat.blt_eq]using hb) hs
  have key: ∀(xs:List (List SV)) (elems:List (DataW H)),(∀y∈elems,m0R P e y)->xs.length=elems.length->(∀(i:Nat) y x,elems[i]?=some y->xs[i]?=some x->d0C P n e y x)-> ∃zs:List T,xs.flatten=zs.flatMap enc/\(∀z∈zs,Wf z)/\elems.length=zs.length:=by
    intro xs
    induction xs with
    |nil=>intro elems _ hl _;exact⟨[],rfl,λz hz=>(by cases hz),by simpa using hl.symm⟩
    |cons x xs ih=>
      intro elems hsz hl h
      cases elems with
      |nil=>simp at hl
      |cons y elems=>
        obtain⟨zs,e1,e2,e3⟩:=ih elems (λy hy=>hsz y (am _ hy)) (by simpa using hl) (λi y x hy hx=>h (i+1) y x (by simpa using hy) (by simpa using hx))
        obtain⟨z,rfl,hw⟩:=hel y x (h 0 y x rfl rfl) (hsz y (ar ..))
        refine⟨z::zs,by simp[e1],λz' hz'=> ?_,by simp[e3]⟩
        rcases aO.1 hz' with rfl|hm
        exact hw
        exact e2 _ hm
  obtain⟨zs,e1,e2,e3⟩:=key xs elems (λy hy=>x0l hu hs hy) hl hall
  exact⟨zs,by rw[h2,e1];unfold f0c;rw[hl,e3],by omega,e2⟩
theorem o0S {n:Nat} {t:TypeId} {fs:Array Field} {d:DataW H} {s:SV} (hu:P.underlying t=some (.struct fs))(h:h0V P n t d s): ∃cs,s= .agg cs/\d0C P n t d cs:=by
  unfold h0V at h
  rw[hu]at h
  exact h
theorem a0t {n:Nat} {t:TypeId} {fs:Array Field} {d:DataW H} {cs:List SV} (hu:P.underlying t=some (.struct fs))(h:d0C P (n+1) t d cs)(hs:m0R P t d)(i:Nat)(ty:TypeId)(cs':List SV)
    (hf:(fs[i]?).map (λf=>(f.type,(cs.drop f.offset).take (P.cellsOf f.type)))=some (ty,cs')): ∃p:DataW H,d0C P n ty p cs'/\m0R P ty p:=by
  unfold d0C at h
  rw[hu]at h
  obtain⟨_,parts,rfl,hl,hall⟩:=h
  cases hfi:fs[i]? with
  |none=>rw[hfi]at hf;cases hf
  |some f=>
    rw[hfi]at hf
    simp only[aP,ag,aB]at hf
    obtain⟨rfl,rfl⟩:=hf
    have hi:=(ah.1 hfi).1
    have hi':i<parts.length:=by omega
    exact⟨parts[i],hall i f _ hfi (ac hi'),t0C hu hs hfi (ac hi')⟩
theorem g0N {n:Nat} {t:TypeId} {fs:Array Field} {d:DataW H} {cs:List SV} (hu:P.underlying t=some (.struct fs))(h:d0C P (n+1) t d cs):cs.length=P.cellsOf t:=by
  unfold d0C at h
  rw[hu]at h
  exact h.1
theorem j0X {n m:Nat} {t e:TypeId} {d:DataW H} {cs:List SV} (hu:P.underlying t=some (.array m e))(h:d0C P (n+1) t d cs)(hs:m0R P t d)(i:Nat)(cs':List SV)(hi:Nat.blt i m=true)
    (hf:(cs.drop (i*P.cellsOf e)).take (P.cellsOf e)=cs'): ∃p:DataW H,d0C P n e p cs'/\m0R P e p:=by
  unfold d0C at h
  rw[hu]at h
  obtain⟨_,parts,rfl,hl,hall⟩:=h
  have hi':i<parts.length:=by rw[hl];simpa [Nat.blt_eq]using hi
  refine⟨parts[i],by rw[<-hf];exact hall i _ (ac hi'),λn hn=>hs n ?_⟩
  simp only[DataW.weights,hu]
  exact h0u parts _ (bX hi') hn
theorem t0D {n m:Nat} {t e:TypeId} {d:DataW H} {cs:List SV} (hu:P.underlying t=some (.array m e))(h:d0C P (n+1) t d cs):cs.length=P.cellsOf t:=by
  unfold d0C at h
  rw[hu]at h
  exact h.1
end
theorem l1 {α:Type} {l:List α} (h:l.length=1): ∃a,l=[a]:=by
  match l,h with
  | [a],_=>exact⟨a,rfl⟩
theorem l2 {α:Type} {l:List α} (h:l.length=2): ∃a b,l=[a,b]:=by
  match l,h with
  | [a,b],_=>exact⟨a,b,rfl⟩
theorem l3 {α:Type} {l:List α} (h:l.length=3): ∃a b c,l=[a,b,c]:=by
  match l,h with
  | [a,b,c],_=>exact⟨a,b,c,rfl⟩
end
section
variable [Inhabited GT]
def l0a {α:Type} [DecidableEq α](x y:Option α):Option α:=if x=y then y else none
theorem r0k {α:Type} [DecidableEq α] {e:Bool} {x y:Option α} {r:α} (he:e=true)(h:(bif e then l0a x y else y)=some r):x=some r:=by
  subst he
  simp only[cond_true,l0a]at h
  split at h
  rename_i hxy;rw[hxy];exact h
  cases h
theorem r0l {α:Type} [DecidableEq α] {e:Bool} {x y:Option α} {r:α} (h:(bif e then l0a x y else y)=some r):y=some r:=by
  cases e with
  |false=>exact h
  |true=>
    simp only[cond_true,l0a]at h
    split at h
    exact h
    cases h
/-! A map is asked for a key that isn't known. -/
def k0H(k key:SV)(b:Bool):Bool:=match e0F k key with
  |some x=>x==b
  |none=>false
def n0K(k:SV):List (SV×SV)->Nat->Bool
  | [],_=>false
  |e::_,0=>k0H k e.1 true
  |e::r,j+1=>k0H k e.1 false&&n0K k r j
def k0i(k:SV):List (SV×SV)->Bool
  | []=>true
  |e::r=>k0H k e.1 false&&k0i k r
theorem l0S {k key:SV} {b:Bool} (h:k0H k key b=true):e0F k key=some b:=by
  unfold k0H at h
  split at h
  rename_i x hx;simp at h;subst h;exact hx
  cases h
theorem t0f {k:SV} : ∀(es:List (SV×SV)) (j:Nat) {e:SV×SV},es[j]?=some e->n0K k es j=true->e0J es k=some (some e.2)
  | [],j,e,h,_=>by simp at h
  |x::es,0,e,h,hc=>by
    simp only[bK,ag]at h
    subst h
    simp only[n0K]at hc
    simp only[e0J,l0S hc]
  |x::es,j+1,e,h,hc=>by
    simp only[n0K,aa]at hc
    simp only[e0J,l0S hc.1]
    exact t0f es j (by simpa using h) hc.2
theorem q0y {k:SV} : ∀(es:List (SV×SV)),k0i k es=true->e0J es k=some none
  | [],_=>rfl
  |x::es,hc=>by
    simp only[k0i,aa]at hc
    simp only[e0J,l0S hc.1]
    exact q0y es hc.2
def z0K(P:Program)(o:Oper)(ρ:Env)(H:a0f)(j:Option Nat):Option (Eff×Bool):=
  match o.op with
  | .lookup t m k ok=>match P.underlying t,a0F ρ m,a0F ρ k with
    |some (.map kt et),some (.mp i),some sk=>match H[i]? with
      |some (.map es)=>if n0C P kt sk=true then(match j with
        |some j=>match es[j]? with
          |some e=>some (⟨i0w ok e.2 true,[i],[]⟩,n0K sk es j)
          |none=>none
        |none=>match t0v P et with
          |some z=>some (⟨i0w ok z false,[i],[]⟩,k0i sk es)
          |none=>none)else none
      |_=>none
    |_,_,_=>none
  |_=>none
theorem r0Y {P:Program} {kt:TypeId} {es:List (SV×SV)} {k:SV} (h:n0C P kt k=true):n0D P kt k=true/\k0N P kt es k=e0J es k:=by
  cases k<;>first|exact⟨h,rfl⟩|(exfalso;unfold n0C at h;split at h<;>simp_all)
theorem r0X {P:Program} {o:Oper} {ρ:Env} {H:a0f} {idx:Nat} {j:Option Nat} {ef:Eff} {b:Bool} (h:z0K P o ρ H j=some (ef,b))(hb:b=true):a0E P o ρ H idx=some ef:=by
  unfold z0K at h
  split at h
  rename_i t m k ok ho
  split at h
  rename_i kt et i sk hu hm hk
  split at h
  rename_i es hH
  split at h
  rename_i hkey
  have fin:h0E P t (a0F ρ m) (a0F ρ k) ok H=some ef->a0E P o ρ H idx=some ef:=by
    intro hl
    unfold a0E a0g a0q
    simp only[ho]
    exact hl
  refine fin ?_
  unfold h0E
  rw[hu,hm,hk]
  simp only[hH]
  obtain⟨hk1,hk2⟩:=r0Y (es:=es) hkey
  rw[if_pos hk1,hk2]
  split at h
  rename_i j
  split at h
  rename_i e he
  cases h
  rw[t0f es j he hb]
  cases h
  split at h
  rename_i z hz
  cases h
  rw[q0y es hb,hz]
  cases h
  cases h
  cases h
  cases h
  cases h
section
variable {F : Fr} {P : Program} {L : LE} {H : a0f} {Q : f0C} {m : Option Nat} {ops : Array Oper} {p : Nat} {tr : List (List Nat × List Nat)}
def y0F(P:Program)(m:Option Nat)(ops:Array Oper)(p:Nat)(tr:List (List Nat×List Nat))(L:LE)(H:a0f)(j:Option Nat):Option (Option Nat×Eff×Bool×List (List Nat×List Nat)):=
  match ops.toList[p]? with
  |none=>none
  |some o=>match b0i ops (a0v L) o with
    |some true=>bif b0T o then none else match z0K P o (a0v L) H j with
      |some (ef,c)=>bif okM m ops p o ef tr H then some (o.dst,ef,c,trM m ops p o ef tr)else none
      |none=>none
    |_=>none
theorem RJ.look(j:Option Nat) {d:Option Nat} {ef:Eff} {c:Bool} {tr2:List (List Nat×List Nat)} (h:y0F P m ops p tr L H j=some (d,ef,c,tr2))(hc:c=true)(k:RJ F P m ops (p+1) tr2 (f0d L d ef.v) (b0t H ef.wr) Q):RJ F P m ops p tr L H Q:=by
  unfold y0F at h
  split at h
  cases h
  rename_i o ho
  split at h
  rename_i hg
  cases hcc:b0T o with
  |true=>rw[hcc]at h;cases h
  |false=>
    rw[hcc]at h
    simp only[cond_false]at h
    split at h
    rename_i ef2 c2 he
    cases hok:okM m ops p o ef2 tr H with
    |false=>rw[hok]at h;cases h
    |true=>
      rw[hok]at h
      simp only[cond_true,ag,aB]at h
      obtain⟨rfl,rfl,rfl,rfl⟩:=h
      exact RJ.step ho hg hcc (r0X he hc) hok k
    cases h
  cases h
end
section
variable {F : Fr} {P : Program} {L : LE} {H : a0f} {Q : f0C} {ops : Array Oper} {p : Nat} {tr : List (List Nat × List Nat)}
def h0q(P:Program)(t:TypeId):Bool:=match P.underlying t with
  |some (.slice _)=>true
  |_=>false
def t0e:Operand->Bool
  | .const (.slice none 0 0)=>true
  |_=>false
def B0g(P:Program)(ops:Array Oper)(p:Nat)(L:LE):Option (Nat×Nat×Bool):=
  match ops.toList[p]? with
  |none=>none
  |some o=>match b0i ops (a0v L) o,o.dst,o.op with
    |some true,some d, .binOp op t x y _=>match a0F (a0v L) x with
      |some (.lst n _ _)=>bif h0q P t&&t0e y then(match op with
        | .eql=>some (d,n,true)
        | .neq=>some (d,n,false)
        |_=>none)else none
      |_=>none
    |_,_,_=>none
theorem q0e {w:World} {t:TypeId} {x y:Operand} {ad:Option Addr} {n c:Nat} (ht:h0q P t=true):(do eqGuard .eql t x y (.slice ad n c) (.slice none 0 0);binOp .eql t (.slice ad n c) (.slice none 0 0):Sem Value).run P w= .ok (.bool ad.isNone) w:=by
  unfold h0q at ht
  split at ht
  rename_i e hu
  rw[k0I _ _ (by rfl)]
  simp only[binOp,Sem.run_bind,run_equal_slice_nil w t e ad n c hu,Result.andThen_ok,Sem.run_pure]
  cases ht
theorem o0n {w:World} {t:TypeId} {x y:Operand} {ad:Option Addr} {n c:Nat} (ht:h0q P t=true):(do eqGuard .neq t x y (.slice ad n c) (.slice none 0 0);binOp .neq t (.slice ad n c) (.slice none 0 0):Sem Value).run P w= .ok (.bool !ad.isNone) w:=by
  unfold h0q at ht
  split at ht
  rename_i e hu
  rw[k0I _ _ (by rfl)]
  simp only[binOp,Sem.run_bind,run_equal_slice_nil w t e ad n c hu,Result.andThen_ok,Sem.run_pure]
  cases ht
theorem RJ.isNil {d n:Nat} {eq:Bool} (h:B0g P ops p L=some (d,n,eq))(k: ∀b:Bool,(b=true->n=0)->RJ F P none ops (p+1) tr ((d, .bool (bif eq then b else !b))::L) H Q):RJ F P none ops p tr L H Q:=by
  unfold B0g at h
  split at h
  cases h
  · rename_i o ho
    split at h
    · rename_i d2 op t x y u hg hd ho2
      split at h
      · rename_i n2 k2 cs hx
        cases hty:(h0q P t&&t0e y)with
        |false=>rw[hty]at h;cases h
        |true=>
          rw[hty]at h
          simp only[aa]at hty
          obtain⟨ht,hy⟩:=hty
          intro hin a w hs
          have hbo:Oper.inB F.n ops o=true:=List.all_eq_true.1 hin o (l0s ho)
          obtain⟨hdf,K,D,hi⟩:=hs
          rw[d0V ho]
          refine wpList_step λKK hKK=> ?_
          rw[b0H hi.slots (Oper.inB_guard hbo) hg,if_pos rfl]
          have hxb:Operand.inB F.n x=true:=by
            have h1:=Oper.inB_op hbo
            unfold Op.inB at h1
            rw[aK]at h1
            exact h1 x (by simp[ho2,Op.operands])
          have hr:=a0e hi.slots hxb hx
          have hyv:a.eval y= .slice none 0 0:=by
            cases y with
            |const v=>cases v<;>first|(cases hy;done)|(rename_i a1 b1 c1;cases a1<;>first|(cases hy;done)|(cases b1<;>first|(cases hy;done)|(cases c1<;>first|(cases hy;done)|rfl)))
            |_=>cases hy
          have hv: ∃ad c,a.eval x= .slice ad n2 c/\(ad.isNone=true->n2=0):=by
            generalize a.eval x=v at hr
            cases hr with
            |emp k a cap=>exact⟨a,cap,rfl,λ_=>rfl⟩
            |lst k b off len cap vs cs hk hl hc hcap hm hK h1 hp hh=>exact⟨_,_,rfl,λh=>by cases h⟩
          obtain⟨ad,c,hv,hnn⟩:=hv
          have fin: ∀(b:Bool),(execOp a.eval o).run P w= .ok (.value (.bool b)) w->(d2,n2,eq)=(d,n,eq)->(∃b0:Bool,b=(bif eq then b0 else !b0)/\(b0=true->n=0))->Oper.wp P o a w KK Q:=by
            rintro b hrun hdn ⟨b0,rfl,hb0⟩
            simp only[aB,and_true]at hdn
            obtain⟨rfl,rfl⟩:=hdn
            unfold Oper.wp
            rw[hrun]
            refine hKK _ _ (k b0 hb0 hin _ w ⟨by rw[a0T];exact hdf,K,D, ?_,hi.hinv,hi.grow⟩)
            have h9:=hi.slots.put (some d2) (s:= .bool (bif eq then b0 else !b0)) (.bool _)
            rw[b0e]at h9
            rw[hd]
            exact h9
          have hex:execOp a.eval o=(do pure (Next.value (<-(do eqGuard op t x y (a.eval x) (a.eval y);binOp op t (a.eval x) (a.eval y):Sem Value)))):=by unfold execOp;rw[ho2]
          simp only[cond_true]at h
          split at h
          cases h
          refine fin ad.isNone ?_ rfl ⟨ad.isNone,rfl,hnn⟩
          rw[hex,hv,hyv]
          exact b0d (q0e ht)
          cases h
          refine fin (!ad.isNone) ?_ rfl ⟨ad.isNone,rfl,hnn⟩
          rw[hex,hv,hyv]
          exact b0d (o0n ht)
          cases h
      cases h
    cases h
end
section
variable {F : Fr} {P : Program} {m : Option Nat} {L : LE} {H : a0f} {Q : f0C} {ops : Array Oper} {p : Nat} {tr : List (List Nat × List Nat)}
theorem RJ.pin(t:Nat) {kd:IntKind} {j c:Int} (ht:lk L t= .int kd j)(hj:j=c)(h:RJ F P m ops p tr ((t, .int kd c)::L) H Q):RJ F P m ops p tr L H Q:=by
  subst hj
  have he:a0v ((t, .int kd j)::L)=a0v L:=by
    funext i
    show lk ((t, .int kd j)::L) i=lk L i
    simp only[lk]
    cases hb:Nat.beq i t with
    |false=>rfl
    |true=>
      have:=ae hb
      subst this
      rw[ht];rfl
  cases m with
  |none=>
    intro hall a w hs
    exact h hall a w (by unfold Sees at hs⊢;rw[he];exact hs)
  |some base=>
    intro hl
    have:=h hl
    rw[he]at this
    exact this
end
/-! Maps whose entries are a list of natives. -/
def c0B {K V:Type} (ek:K->SV)(ev:V->SV)(ms:List (K×V)):List (SV×SV):=ms.map λp=>(ek p.1,ev p.2)
def g0n {K V:Type} (eq:K->K->Bool):List (K×V)->K->Option V
  | [],_=>none
  |p::r,k=>bif eq k p.1 then some p.2 else g0n eq r k
theorem d0S {K V:Type} {ek:K->SV} {ev:V->SV} (h1: ∀f a,SV.rn f (ek a)=ek a)(h2: ∀f b,SV.rn f (ev b)=ev b)(f:Nat->Nat)(ms:List (K×V)):Ent.rn f (.map (c0B ek ev ms))= .map (c0B ek ev ms):=by
  simp only[Ent.rn,c0B,bE]
  congr 1
  exact bk λp _=>by simp[h1,h2]
theorem c0M {K V:Type} {ek:K->SV} {ev:V->SV} (h1: ∀m a,SV.refs m (ek a)=true)(h2: ∀m b,SV.refs m (ev b)=true)(m:Nat)(ms:List (K×V)):Ent.refs m (.map (c0B ek ev ms))=true:=by
  simp[Ent.refs,c0B,h1,h2]
theorem o0C {P:Program} {kt:TypeId} {K V:Type} {ek:K->SV} {ev:V->SV} {eq:K->K->Bool} (heq: ∀a b,eqS P 9 kt (ek a) (ek b)=some (eq a b))(x:K): ∀ms:List (K×V),i0M P kt (ek x) (c0B ek ev ms)=some ((g0n eq ms x).map ev)
  | []=>rfl
  |p::ms=>by
    have ih:=o0C (ev:=ev) heq x ms
    simp only[c0B,aj,i0M,heq,g0n]at ih⊢
    cases eq x p.1 with
    |true=>rfl
    |false=>exact ih
section
variable {F : Fr} {P : Program} {m : Option Nat} {L : LE} {H : a0f} {Q : f0C} {ops : Array Oper} {p : Nat} {tr : List (List Nat × List Nat)}
def v0O(P:Program)(o:Oper)(ρ:Env)(H:a0f):Option (TypeId×Nat×List (SV×SV)×List SV×SV×Bool):=
  match o.op with
  | .lookup t m k ok=>match P.underlying t,a0F ρ m,a0F ρ k with
    |some (.map kt et),some (.mp i),some (.agg cs)=>match H[i]?,t0v P et with
      |some (.map es),some z=>if n0D P kt (.agg cs)=true then some (kt,i,es,cs,z,ok)else none
      |_,_=>none
    |_,_,_=>none
  |_=>none
theorem q0I {o:Oper} {ρ:Env} {idx:Nat} {kt:TypeId} {i:Nat} {es:List (SV×SV)} {cs:List SV} {z:SV} {ok:Bool} (h:v0O P o ρ H=some (kt,i,es,cs,z,ok)) {r:Option SV} (hf:i0M P kt (.agg cs) es=some r):
    a0E P o ρ H idx=some ⟨i0w ok (r.getD z) r.isSome,[i],[]⟩:=by
  unfold v0O at h
  split at h
  · rename_i t m k ok' ho
    split at h
    · rename_i kt' et i' cs' hu hm hk
      split at h
      · rename_i es' z' hH hz
        split at h<;>cases h
        rename_i hkey
        unfold a0E a0g a0q
        simp only[ho]
        unfold h0E
        rw[hu,hm,hk]
        simp only[hH]
        rw[if_pos hkey]
        have:k0N P kt es (.agg cs)=some r:=hf
        rw[this,hz]
        cases r<;>rfl
      cases h
    cases h
  cases h
def v0P(P:Program)(m:Option Nat)(ops:Array Oper)(p:Nat)(tr:List (List Nat×List Nat))(L:LE)(H:a0f):Option (Option Nat×TypeId×Nat×List (SV×SV)×List SV×SV×Bool×List (List Nat×List Nat)):=
  match ops.toList[p]? with
  |none=>none
  |some o=>match b0i ops (a0v L) o with
    |some true=>bif b0T o then none else match v0O P o (a0v L) H with
      |some (kt,i,es,cs,z,ok)=>bif okM m ops p o ⟨.undef,[i],[]⟩ tr H then some (o.dst,kt,i,es,cs,z,ok,trM m ops p o ⟨.undef,[i],[]⟩ tr)else none
      |none=>none
    |_=>none
theorem RJ.lookD {K V:Type} (ek:K->SV)(ev:V->SV)(eq:K->K->Bool)(ms:List (K×V))(x:K)(zv:V) {d:Option Nat} {kt:TypeId} {i:Nat} {cs:List SV} {ok:Bool} {tr2:List (List Nat×List Nat)}
    (h:v0P P m ops p tr L H=some (d,kt,i,c0B ek ev ms,cs,ev zv,ok,tr2)) (hcs:SV.agg cs=ek x) (heq: ∀a b,eqS P 9 kt (ek a) (ek b)=some (eq a b))
    (k:RJ F P m ops (p+1) tr2 (f0d L d (i0w ok (ev ((g0n eq ms x).getD zv)) (g0n eq ms x).isSome)) H Q):RJ F P m ops p tr L H Q:=by
  unfold v0P at h
  split at h
  cases h
  · rename_i o ho
    split at h
    · rename_i hg
      cases hcc:b0T o with
      |true=>rw[hcc]at h;cases h
      |false=>
        rw[hcc]at h
        simp only[cond_false]at h
        split at h
        · rename_i kt2 i2 es2 cs2 z2 ok2 he
          cases hok:okM m ops p o ⟨.undef,[i2],[]⟩ tr H with
          |false=>rw[hok]at h;cases h
          |true=>
            rw[hok]at h
            simp only[cond_true,ag,aB]at h
            obtain⟨rfl,rfl,rfl,rfl,rfl,rfl,rfl,rfl⟩:=h
            have hf:=o0C (ev:=ev) heq x ms
            rw[<-hcs]at hf
            have hs:=q0I (idx:=y0M m ops p H) he hf
            have e1:((g0n eq ms x).map ev).getD (ev zv)=ev ((g0n eq ms x).getD zv):=by cases g0n eq ms x<;>rfl
            have e2:((g0n eq ms x).map ev).isSome=(g0n eq ms x).isSome:=by cases g0n eq ms x<;>rfl
            rw[e1,e2]at hs
            exact RJ.step ho hg hcc hs hok k
        cases h
    cases h
end
section
variable {F : Fr} {P : Program} {c : Code} {L : LE} {H : a0f} {Q : f0C} {m : Option Nat} {ops : Array Oper} {p : Nat} {tr : List (List Nat × List Nat)}
/-! The rules under short names; the kernel checks their conditions. -/
theorem kE(h:PJ F Q .normal L H)(hp:Nat.ble ops.size p=true:=by kernel_rfl):RJ F P m ops p tr L H Q:=RJ.end hp h
theorem kEN {c:Code} {Q:f0C} (h:J F P c L H Q)(hp:Nat.ble ops.size p=true:=by kernel_rfl):RJ F P m ops p tr L H (i0X F P c Q):=RJ.end hp (PJ.next h)
theorem kS(k:J F P (cl c) L H (i0X F P (cr c) Q))(h:n0I c=true:=by kernel_rfl):J F P c L H Q:=K.seq h k
theorem kR(k:RJ F P none (h0g c) 0 [] L H Q)(h:m0m false c=true:=by kernel_rfl):J F P c L H Q:=K.region h k
theorem kSR(k:RJ F P none (h0g (cl c)) 0 [] L H (i0X F P (cr c) Q))(h:n0I c=true:=by kernel_rfl)(h2:m0m false (cl c)=true:=by kernel_rfl):J F P c L H Q:=K.seq h (K.region h2 k)
theorem kT(k:J F P (ct c) L H Q)(h:u0l c L=some (.bool true):=by kernel_rfl):J F P c L H Q:=K.condT h k
theorem kF(k:J F P (ce c) L H Q)(h:u0l c L=some (.bool false):=by kernel_rfl):J F P c L H Q:=K.condF h k
theorem kX(k:PJ F Q .ret L H)(h:x0X c=true:=by kernel_rfl):J F P c L H Q:=K.ret h k
theorem kK(k:PJ F Q .normal L H)(h:q0P c=true:=by kernel_rfl):J F P c L H Q:=K.skip h k
theorem kD {base:Nat} (q:Nat)(k:RJ F P (some base) ops (p+q) (tOf (i0a P (some base) ops q p tr L H)) (lOf (i0a P (some base) ops q p tr L H)) (hOf (i0a P (some base) ops q p tr L H)) Q)(h:(i0a P (some base) ops q p tr L H).isSome=true:=by kernel_rfl):RJ F P (some base) ops p tr L H Q:=RJ.segDC q h k
theorem kZ {fn:Func} {v:SV} (hn:F.n=fn.ntmps)(hH:F.H0=[])(hdom: ∀i,F.H0.length<=i->F.D0 i=none)(hin:i0G fn.ntmps fn.results.toList=true:=by kernel_rfl)(hret:r0r P fn.results.toList L H=some v:=by kernel_rfl)(hr:SV.refs 0 v=true:=by kernel_rfl):
    PJ F (s0P P fn F v []) .ret L H:=K.ret0 (.inr rfl) hn hH hdom hin hret hr
theorem kFn {f:FuncId} {fn:Func} {args:List SV} {v:SV} {H':a0f}
    (h: ∀F:Fr,F.n=fn.ntmps->F.H0=H->(∀i,F.H0.length<=i->F.D0 i=none)->J F P (f0A fn) (f0b 0 args) H (s0P P fn F v H')) (hf:P.funcs[f]?=some fn:=by kernel_rfl) (hb:fn.body.isSome=true:=by kernel_rfl) (hcal:b0P P f=true:=by kernel_rfl) (hin:b0E fn.ntmps (f0A fn)=true:=by kernel_rfl) (hn:Nat.ble args.length fn.ntmps=true:=by kernel_rfl):SC P f args H v H':=K.fn hf hb hcal hin hn h
theorem oi {α:Type} {a b:α} (h:some a=some b):a=b:=au h
end
end
section
variable [Inhabited GT]
theorem x0b {P:Program} {c:Code} {Q:Exit->Act->World->Prop} (I:Nat->Act->World->Prop)
    (hs: ∀n a w,I n a w->c.wp P (λe a' w'=>(e= .normal/\ ∃m,m<n/\I m a' w')\/(e≠ .normal/\Q e a' w')) a w) {n:Nat} {a:Act} {w:World} (h:I n a w):(Code.loop c).wp P Q a w:=by
  have key: ∀n a w,I n a w-> ∀(b:Frame) (k:List Item) (cs:List Frame),∃e a' w',Q e a' w'/\Arrives P (lone (b.at a (.code c:: .inLoop c::k)) cs w) b k cs e a' w':=by
    intro n
    induction n using Nat.strongRecOn with
    |_ n ih=>
      intro a w h b k cs
      obtain⟨e,a₁,w₁,hq,harr⟩:=hs n a w h b (.inLoop c::k) cs
      rcases hq with⟨rfl,m,hm,hi⟩|⟨hne,hq⟩
      obtain⟨e₂,a₂,w₂,hq₂,harr₂⟩:=ih m hm a₁ w₁ hi b k cs
      exact⟨e₂,a₂,w₂,hq₂, .of_steps (Steps.trans harr (.one step_inLoop)) harr₂⟩
      refine⟨e,a₁,w₁,hq, ?_⟩
      cases e with
      |normal=>exact absurd rfl hne
      |exit id=>exact .pass (x:= .inLoop c) rfl (λ_ _=> .inl (by simp)) harr
      |goto l=>exact .pass (x:= .inLoop c) rfl (λ_ _=> .inl (by simp)) harr
      |ret=>exact .pass (x:= .inLoop c) rfl (λ_ _=> .inl (by simp)) harr
      |panic ch=>exact .pass (x:= .inLoop c) rfl (λ_ _=> .inl (by simp)) harr
      |outgrown=>exact .pass (x:= .inLoop c) rfl (λ_ _=> .inl (by simp)) harr
  intro b k cs
  obtain⟨e,a',w',hq,harr⟩:=key n a w h b k cs
  exact⟨e,a',w',hq, .of_steps (.one step_loop) harr⟩
def n0A(n:Nat)(seen:Array Nat):Nat:=((List.range n).filter λj=> !seen.contains j).length
theorem B0I {mes:Array MapEntry} {c:Nat} (h:C0b mes c):mes.toList.map (·.born)=List.range mes.size:=by
  apply bh
  intro j
  rw[al]
  by_cases hj:j<mes.size
  rw[bf hj,bS,aN hj]
  simp only[aP]
  rw[h.2 j mes[j] (aN hj)]
  rw[aw (by simpa using hj),aw (by simpa using hj)];rfl
theorem u0a {mes:Array MapEntry} {c:Nat} {seen:Array Nat} (h:C0b mes c):(leftOf mes seen).size=n0A mes.size seen:=by
  unfold n0A leftOf
  rw[<-B0I h,List.filter_map,List.length_map,<-bJ,Array.toList_filter]
  rfl
theorem v0V {n:Nat} {seen:Array Nat} {j:Nat} (hj:j<n)(hs:seen.contains j=false):n0A n (seen.push j)<n0A n seen:=by
  unfold n0A
  refine filter_lt (λi=> !seen.contains i) (λi=> !(seen.push j).contains i) (λx hx=> ?_) j (by simpa using hs) (by rw[contains_push];simp) (List.range n) (aV.2 hj)
  rw[contains_push]at hx
  simp at hx⊢
  exact hx.1
theorem z0H {P:Program} (w:World)(ty:TypeId)(r bm since c0:Nat)(seen:Array Nat)(es:Array MapEntry)(clock:Nat)(hr:w.heap[r]?=some (.mapIter (some bm) since seen c0))(hb:w.heap[bm]?=some (.map es clock))
    (hold: ∀x∈es.toList,x.born<since) (hsc:since<=c0):
    ((leftOf es seen).size=0/\(Instr.next (.pointer (some ⟨r,0,none⟩)) false ty).run P w= .ok (.tuple #[.bool false]) w)\/
    ∃e∈(leftOf es seen).toList,∃w1:World,(w1=w\/w1=w.drew)/\(Instr.next (.pointer (some ⟨r,0,none⟩)) false ty).run P w= .ok (.tuple #[.bool true,e.key,e.val]) { w1 with heap:=w1.heap.setIfInBounds r (.mapIter (some bm) since (seen.push e.born) clock) } :=by
  have hrl:r<w.heap.size:=(ah.1 hr).1
  simp only[Instr.next,getObj,Sem.run_bind,Sem.run,hr,hb,Result.andThen,next_test_false seen es since c0 hold hsc,aH,if_false]
  unfold leftOf
  have hmem: ∀x∈(Array.filter (λe=> !seen.contains e.born) es).toList,x.born<since:=λx hx=>hold x (by simp at hx⊢;exact hx.1)
  generalize Array.filter (λe=> !seen.contains e.born) es=L at hmem⊢
  have e1:L.filter (λx=>decide (x.born<since))=L:=Array.filter_eq_self.2 (λx hx=>by simpa using hmem x (by simpa using hx))
  have e2:L.filter (λx=>decide (x.born≥since))= #[]:=by
    rw[Array.filter_eq_empty_iff]
    intro x hx
    have:=hmem x (by simpa using hx)
    simp
    omega
  simp only[e1,e2,Array.append_empty]
  by_cases h0:L.size=0
  left
  have:L= #[]:=Array.eq_empty_of_size_eq_zero h0
  subst this
  refine⟨rfl, ?_⟩
  simp[choose,Sem.run,Question.forced]
  right
  have hne:L.isEmpty=false:=by simp[Array.isEmpty,h0]
  simp only[hne,aH,if_false,Array.empty_append,Array.size_map]
  have hch: ∃(j:Nat) (w1:World),j<L.size/\(w1=w\/w1=w.drew)/\(choose (Question.mapNext L.size)).run P w= .ok j w1:=by
    by_cases hf:L.size<=1
    exact⟨0,w,by omega, .inl rfl,by simp[choose,Sem.run,Question.forced,hf]⟩
    exact⟨_,w.drew,Nat.mod_lt _ (by omega), .inr rfl,by
      simp only[choose,Sem.run,Question.forced,decide_eq_true_eq,hf,if_false,Question.cut]
      rfl⟩
  obtain⟨j,w1,hj,hal,hrun⟩:=hch
  refine⟨L[j],by simp,w1,hal, ?_⟩
  have hget:w1.heap[r]?=some (.mapIter (some bm) since seen c0):=by
    rcases hal with rfl|rfl
    exact hr
    exact hr
  have hset: ∀o':Obj,(setObj r o').run P w1= .ok () { w1 with heap:=w1.heap.setIfInBounds r o' } :=λo'=>by
    simp only[setObj,Sem.run,hget]
  simp only[hrun,Array.getElem?_map,aN hj,aP,Sem.run_bind,hset,Result.andThen]
  rfl
section
variable {F : Fr} {P : Program} {L : LE} {H : a0f} {Q : f0C} {ops : Array Oper} {p : Nat} {tr : List (List Nat × List Nat)}
def v0s(P:Program)(ops:Array Oper)(p:Nat)(L:LE)(H:a0f):Option (Option Nat×Nat×Nat):=
  match ops.toList[p]? with
  |some o=>match b0i ops (a0v L) o,o.op with
    |some true, .range t x=>match P.underlying t,a0F (a0v L) x with
      |some (.map _ _),some (.mp i)=>match H[i]? with
        |some (.map es)=>some (o.dst,i,es.length)
        |_=>none
      |_,_=>none
    |_,_=>none
  |none=>none
theorem RJ.range {d:Option Nat} {i n:Nat} (h:v0s P ops p L H=some (d,i,n))(k:RJ F P none ops (p+1) tr (f0d L d (.ptr H.length 0)) (H++ [.itr i n []]) Q):RJ F P none ops p tr L H Q:=by
  unfold v0s at h
  split at h
  rename_i o ho
  split at h
  rename_i t x hg hop
  split at h
  rename_i kt et i' hu hxe
  split at h
  rename_i es hH
  simp only[ag,aB]at h
  obtain⟨rfl,rfl,rfl⟩:=h
  intro hin a w hs
  have hbo:Oper.inB F.n ops o=true:=List.all_eq_true.1 hin o (l0s ho)
  obtain⟨hd,K,D,hi⟩:=hs
  rw[d0V ho]
  refine wpList_step λKK hKK=> ?_
  rw[b0H hi.slots (Oper.inB_guard hbo) hg,if_pos rfl]
  have hx:Operand.inB F.n x=true:=by
    have hb:=Oper.inB_op hbo
    unfold Op.inB at hb
    rw[hop]at hb
    simpa [Op.operands]using hb
  obtain⟨r,c,m,hvx,hdi⟩:=o0p (a0e hi.slots hx hxe)
  obtain⟨r',mes,clock,h1,h2,h3,h4,hB,h5⟩:=hi.hinv.ent _ _ hH
  rw[h1]at hdi;cases hdi
  have hrun:(execOp a.eval o).run P w= .ok (.value (.pointer (some ⟨w.heap.size,0,none⟩))) (w.alloc (.mapIter (some r) clock #[] clock)):=by
    unfold execOp
    rw[hop]
    exact b0d (by rw[hvx];exact run_range_map w t kt et r mes clock hu h3)
  have hK0:K w.heap.size=0:=by
    rcases aZ (K w.heap.size)with h0|h0
    exact h0
    have:=hi.hinv.kw w.heap.size (by omega);omega
  have hold: ∀b,b<w.heap.size->(w.alloc (.mapIter (some r) clock #[] clock)).heap[b]?=w.heap[b]?:=λb hb=>by show(w.heap.push _)[b]?=_;rw[bo,if_neg (by omega)]
  have hcl:clock=es.length:=by rw[hB.1,h4]
  obtain⟨g,hi'⟩:=place (w':=w.alloc (.mapIter (some r) clock #[] clock)) (en:= .itr i' es.length []) (b:=w.heap.size) (c:=0) (m:=0) hi.hinv (idx:=H.length) (.inl rfl) (x:=none) (by simp) (.inl (ai _)) rfl rfl rfl (by simp) (λb' _ hlt=>hold b' hlt)
    (λhr=>⟨_,r,clock,by simp[e0E],hK0,by subst hcl;show(w.heap.push _)[w.heap.size]?=_;simp,by omega,hr _ _ (.mp i' r 0 0 h1)⟩)
  rw[e0T]at g hi'
  have hset:g0m H H.length (.itr i' es.length [])=H++ [.itr i' es.length []]:=by unfold g0m;rw[if_neg (by omega)]
  rw[hset]at g hi'
  unfold Oper.wp
  rw[hrun]
  refine hKK _ _ (k hin _ _ ?_)
  refine⟨by rw[a0T];exact hd, ?_⟩
  have:=hi.step (d:=o.dst) ⟨K,_,g,hi', .ptr H.length 0 w.heap.size 0 0 (by simp[e0E])⟩
  rw[b0e]at this
  exact this
  cases h
  cases h
  cases h
  cases h
theorem RJ.next {o:Oper} {x:Operand} {j i n:Nat} {s:List Nat} {es:List (SV×SV)} (ho:ops.toList[p]?=some o)(hg:o.guard=none)(hop:o.op= .next x false)(hxe:a0F (a0v L) x=some (.ptr j 0))(hj:H[j]?=some (.itr i n s))(hH:H[i]?=some (.map es))(hn:es.length=n)
    (k0:n0A n s.toArray=0->RJ F P none ops (p+1) tr (f0d L o.dst (.tup [.bool false])) H Q)
    (k1: ∀b,b<n->s.contains b=false->RJ F P none ops (p+1) tr (f0d L o.dst (.tup [.bool true, .undef, .undef])) (H.set j (.itr i n (s++ [b]))) Q):RJ F P none ops p tr L H Q:=by
  intro hin a w hs
  have hbo:Oper.inB F.n ops o=true:=List.all_eq_true.1 hin o (l0s ho)
  obtain⟨hd,K,D,hi⟩:=hs
  rw[d0V ho]
  refine wpList_step λKK hKK=> ?_
  rw[b0H hi.slots (Oper.inB_guard hbo) (b:=true) (by unfold b0i;rw[hg]),if_pos rfl]
  have hx:Operand.inB F.n x=true:=by
    have hb:=Oper.inB_op hbo
    unfold Op.inB at hb
    rw[hop]at hb
    simpa [Op.operands]using hb
  obtain⟨r,c,m,hvx,hdj⟩:=l0Z (a0e hi.slots hx hxe)
  obtain⟨r',bm,c0,e1,e2,e3,e4,e5⟩:=hi.hinv.ent _ _ hj
  rw[e1]at hdj;cases hdj
  obtain⟨rm,mes,clock,h1,h2,h3,h4,hB,h5⟩:=hi.hinv.ent _ _ hH
  obtain⟨_,_,_,hv,hdi⟩:=o0p e5
  cases hv
  rw[h1]at hdi;cases hdi
  have hsz:mes.size=n:=by rw[<-h4];exact hn
  have hold: ∀y∈mes.toList,y.born<n:=λy hy=>by
    obtain⟨q,hq,rfl⟩:=List.mem_iff_getElem.1 hy
    have hq':q<mes.size:=by simpa using hq
    have:=hB.2 q mes[q] (aN hq')
    have e:mes.toList[q]=mes[q]:=by simp
    rw[e,this];omega
  have hrv:(execOp a.eval o)=(do pure (Next.value (<-Instr.next (a.eval x) false o.type))):=by unfold execOp;rw[hop]
  rcases z0H (P:=P) w o.type r bm n c0 s.toArray mes clock e3 h3 hold (by omega)with⟨hz,hrun⟩|⟨e,he,w1,hal,hrun⟩
  unfold Oper.wp
  rw[hrv,b0d (by rw[hvx];exact hrun)]
  refine hKK _ _ (k0 (by rw[u0a hB,hsz]at hz;exact hz) hin _ _ ⟨by rw[a0T];exact hd, ?_⟩)
  have:=hi.step (d:=o.dst) (Good.here hi.hinv (.tup [.bool false] [.bool false] rfl (λj v c hv hc=>by
    match j with
    |0=>simp at hv hc;subst hv;subst hc;exact .bool _
    |j+1=>simp at hv)))
  rw[b0e]at this
  exact this
  obtain⟨hm,hns⟩:=mem_left he
  have hbn:=hold e hm
  have hw1:Grow w K D H w1 K D H/\HInv w1 K D H/\w1.heap=w.heap:=by
    rcases hal with rfl|rfl
    exact⟨Grow.refl _ _ _ _,hi.hinv,rfl⟩
    exact⟨Grow.drew _ _ _ _,hi.hinv.drew,rfl⟩
  obtain⟨g1,i1,hh⟩:=hw1
  have hrl:r<w1.heap.size:=by rw[hh];exact(ah.1 e3).1
  obtain⟨g2,i2⟩:=modify (w':= { w1 with heap:=w1.heap.setIfInBounds r (.mapIter (some bm) n (s.toArray.push e.born) clock) }) (en':= .itr i n (s++ [e.born])) i1 hj rfl rfl e1 rfl rfl rfl (by simp) (λb' hb'=>by
      show(w1.heap.setIfInBounds r _)[b']?=_
      rw[Array.getElem?_setIfInBounds_ne (Ne.symm hb')])
    (λhr=>⟨r,bm,clock,e1,e2,by
      show(w1.heap.setIfInBounds r _)[r]?=_
      rw[Array.getElem?_setIfInBounds_self_of_lt hrl];simp,by rw[hB.1];omega,hr _ _ (.mp i bm 0 0 h1)⟩)
  unfold Oper.wp
  rw[hrv,b0d (by rw[hvx];exact hrun)]
  refine hKK _ _ (k1 e.born hbn (by simpa using hns) hin _ _ ⟨by rw[a0T];exact hd, ?_⟩)
  have:=hi.step (d:=o.dst) ⟨K,D,g1.trans g2,i2, .tup [.bool true,e.key,e.val] [.bool true, .undef, .undef] rfl (λj v c hv hc=>by
    match j with
    |0=>simp at hv hc;subst hv;subst hc;exact .bool _
    |1=>simp at hv hc;subst hc;exact .undef _
    |2=>simp at hv hc;subst hc;exact .undef _
    |j+3=>simp at hv)⟩
  rw[b0e]at this
  exact this
def w0w(ops:Array Oper)(p:Nat)(L:LE)(H:a0f):Option (Option Nat×Nat×Nat×List Nat):=
  match ops.toList[p]? with
  |some o=>match b0i ops (a0v L) o,o.op with
    |some true, .entry x=>match a0F (a0v L) x with
      |some (.ptr j off)=>bif Nat.beq off 0 then(match H[j]? with
        |some (.itr i n s)=>some (o.dst,i,n,s)
        |_=>none)else none
      |_=>none
    |_,_=>none
  |none=>none
theorem RJ.entry {d:Option Nat} {i n b:Nat} {s:List Nat} {es:List (SV×SV)} {kv:SV×SV} (h:w0w ops p L H=some (d,i,n,s++ [b]))(hH:H[i]?=some (.map es))(hn:es.length=n)(hb:es[b]?=some kv)
    (k:RJ F P none ops (p+1) tr (f0d L d (.tup [kv.1,kv.2])) H Q):RJ F P none ops p tr L H Q:=by
  unfold w0w at h
  split at h
  rename_i o ho
  split at h
  rename_i x hg hop
  split at h
  rename_i j off hxe
  cases hz:Nat.beq off 0 with
  |false=>rw[hz]at h;cases h
  |true=>
    rw[hz]at h
    simp only[cond_true]at h
    have hoff:off=0:=by simpa using hz
    subst hoff
    split at h
    rename_i i' n' s' hj
    simp only[ag,aB]at h
    obtain⟨rfl,rfl,rfl,rfl⟩:=h
    intro hin a w hs
    have hbo:Oper.inB F.n ops o=true:=List.all_eq_true.1 hin o (l0s ho)
    obtain⟨hd,K,D,hi⟩:=hs
    rw[d0V ho]
    refine wpList_step λKK hKK=> ?_
    rw[b0H hi.slots (Oper.inB_guard hbo) hg,if_pos rfl]
    have hx:Operand.inB F.n x=true:=by
      have hb:=Oper.inB_op hbo
      unfold Op.inB at hb
      rw[hop]at hb
      simpa [Op.operands]using hb
    obtain⟨r,c,m,hvx,hdj⟩:=l0Z (a0e hi.slots hx hxe)
    obtain⟨r',bm,c0,e1,e2,e3,e4,e5⟩:=hi.hinv.ent _ _ hj
    rw[e1]at hdj;cases hdj
    obtain⟨rm,mes,clock,h1,h2,h3,h4,hB,h5⟩:=hi.hinv.ent _ _ hH
    obtain⟨_,_,_,hv,hdi⟩:=o0p e5
    cases hv
    rw[h1]at hdi;cases hdi
    have hbl:b<mes.size:=by rw[<-h4];exact(ab.1 hb).1
    have hme:=aN hbl
    have hbo':=hB.2 b mes[b] hme
    have hnd:(mes.toList.map (·.born)).Nodup:=by rw[B0I hB];exact List.nodup_range
    have hcc:clock=c0:=by rw[hB.1,<-h4,hn,e4]
    subst hcc
    have hrun:(Instr.entry (.pointer (some ⟨r,0,none⟩))).run P w= .ok (.tuple #[mes[b].key,mes[b].val]) w:=by
      have hf:mes.find? (·.born==mes[b].born)=some mes[b]:=by rw[<-Array.find?_toList];exact find_born mes[b] mes.toList hnd (by simp)
      have e3':w.heap[r]?=some (.mapIter (some bm) n' (s.toArray.push b) clock):=by rw[e3];simp
      rw[hbo']at hf
      simp only[Instr.entry,getObj,Sem.run_bind,Sem.run,e3',h3,Result.andThen,Array.back?_push,bne_self_eq_false,aH,if_false,hf]
      rfl
    have hrv:(execOp a.eval o)=(do pure (Next.value (<-Instr.entry (a.eval x)))):=by unfold execOp;rw[hop]
    unfold Oper.wp
    rw[hrv,b0d (by rw[hvx];exact hrun)]
    refine hKK _ _ (k hin _ _ ⟨by rw[a0T];exact hd, ?_⟩)
    obtain⟨q1,q2⟩:=h5 b mes[b] kv hme hb
    have:=hi.step (d:=o.dst) (Good.here hi.hinv (.tup [mes[b].key,mes[b].val] [kv.1,kv.2] rfl (λj v c hv hc=>by
      match j with
      |0=>simp at hv hc;subst hv;subst hc;exact q1
      |1=>simp at hv hc;subst hv;subst hc;exact q2
      |j+2=>simp at hv)))
    rw[b0e]at this
    exact this
    cases h
  cases h
  cases h
  cases h
def j0s {E X:Type} [DecidableEq X](f:E->Option (Unit⊕X)):List E->Option (Unit⊕X)
  | []=>some (.inl ())
  |e::r=>match f e,j0s f r with
    |some (.inl _),y=>y
    |some (.inr x),some (.inl _)=>some (.inr x)
    |some (.inr x),some (.inr y)=>if x=y then some (.inr x)else none
    |_,_=>none
theorem r0U {E X:Type} [DecidableEq X] {f:E->Option (Unit⊕X)} : ∀(ms:List E) (y:Unit⊕X),j0s f ms=some y->
    (∀e∈ms,∃x,f e=some x/\ ∀o,x= .inr o->y= .inr o)/\((∀e∈ms,f e=some (.inl ()))->y= .inl ()):=by
  intro ms
  induction ms with
  |nil=>intro y h;cases h;exact⟨λe he=>by simp at he,λ_=>rfl⟩
  |cons a r ih=>
    intro y h
    simp only[j0s]at h
    split at h
    rename_i u hf
    obtain⟨i1,i2⟩:=ih y h
    refine⟨λe he=> ?_,λhall=>i2 λe he=>hall e (am _ he)⟩
    rcases aO.1 he with rfl|he
    exact⟨_,hf,λo ho=>by cases ho⟩
    exact i1 e he
    rename_i x u hf hr
    cases h
    obtain⟨i1,i2⟩:=ih _ hr
    refine⟨λe he=> ?_,λhall=>by have:=hall a (by simp);rw[hf]at this;cases this⟩
    rcases aO.1 he with rfl|he
    exact⟨_,hf,λo ho=>ho⟩
    obtain⟨x',hx',h'⟩:=i1 e he
    refine⟨x',hx',λo ho=> ?_⟩
    have:=h' o ho
    cases this
    · rename_i x z hf hr
      split at h<;>cases h
      rename_i hxz
      subst hxz
      obtain⟨i1,i2⟩:=ih _ hr
      refine⟨λe he=> ?_,λhall=>by have:=hall a (by simp);rw[hf]at this;cases this⟩
      rcases aO.1 he with rfl|he
      exact⟨_,hf,λo ho=>ho⟩
      exact i1 e he
    cases h
def C0h {X:Type} (F:Fr)(Q:f0C)(L:LE)(H:a0f)(y x:Unit⊕X):f0C:=λe a w=>match x with
  | .inl _=>e= .normal/\Sees F L H a w
  | .inr o=>e≠ .normal/\(y= .inr o->Q e a w)
theorem PJ.mapNext {X:Type} {L2:LE} {H2:a0f} {y:Unit⊕X} (ts:List Nat)(hL:g0q ts L=L2)(hH:H=H2):PJ F (C0h F Q L2 H2 y (.inl ())) .normal L H:=λa w hs=>by
  subst hH
  exact⟨rfl,by rw[<-hL];exact hs.keep (h0F ts L)⟩
theorem PJ.mapOut {X:Type} {L2:LE} {H2:a0f} {y:Unit⊕X} {o:X} {e:Exit} (hne:e≠ .normal)(h:y= .inr o->PJ F Q e L H):PJ F (C0h F Q L2 H2 y (.inr o)) e L H:=λa w hs=>⟨hne,λhe=>h he a w hs⟩
def r0V(it tn tk b:Nat):Code->Bool
  | .seq (.region _ ops false) (.seq (.cond (.tmp t) .skip (.exit b')) _)=>Nat.beq t tk&&(Nat.beq b' b&&match ops.toList with
    | [o0,o1]=>match o0.guard,o0.op,o0.dst,o1.guard,o1.op,o1.dst with
      |none, .next (.tmp it') false,some tn1,none, .extract (.tmp tn2) 0,some tk'=>Nat.beq it' it&&(Nat.beq tn1 tn&&(Nat.beq tn2 tn&&Nat.beq tk' tk))
      |_,_,_,_,_,_=>false
    |_=>false)
  |_=>false
theorem q0D {it tn tk b:Nat} {c:Code} (h:r0V it tn tk b c=true): ∃id ops o0 o1 B,c= .seq (.region id ops false) (.seq (.cond (.tmp tk) .skip (.exit b)) B)/\ops.toList=[o0,o1]/\
    o0.guard=none/\o0.op= .next (.tmp it) false/\o0.dst=some tn/\o1.guard=none/\o1.op= .extract (.tmp tn) 0/\o1.dst=some tk:=by
  unfold r0V at h
  split at h
  rename_i id ops t b' B
  simp only[aa]at h
  obtain⟨h1,h2,h3⟩:=h
  split at h3
  rename_i o0 o1 hl
  split at h3
  rename_i it' tn1 tn2 tk' e1 e2 e3 e4 e5 e6
  simp only[aa]at h3
  obtain⟨q1,q2,q3,q4⟩:=h3
  have h1:=ae h1
  have h2:=ae h2
  have q1:=ae q1
  have q2:=ae q2
  have q3:=ae q3
  have q4:=ae q4
  subst h1;subst h2;subst q1;subst q2;subst q3;subst q4
  exact⟨id,ops,o0,o1,B,rfl,hl,e1,e2,e3,e4,e5,e6⟩
  cases h3
  cases h3
  cases h
theorem u0b {n:Nat} {s:List Nat} (h:n0A n s.toArray=0): ∀j,j<n->s.contains j=true:=by
  intro j hj
  unfold n0A at h
  have:=List.length_eq_zero_iff.1 h
  rw[List.filter_eq_nil_iff]at this
  have h2:=this j (aV.2 hj)
  simpa using h2
theorem y0G {tk tn:Nat} {u v:SV} {L2:LE} (hnk:tn≠tk)(htn:lk L2 tn= .undef)(t:Nat):lk ((tk,v)::L2) t=lk ((tk,v)::(tn,u)::L2) t\/lk ((tk,v)::L2) t= .undef:=by
  simp only[lk]
  cases h1:Nat.beq t tk with
  |true=>exact .inl rfl
  |false=>
    cases h2:Nat.beq t tn with
    |false=>exact .inl rfl
    |true=>have:=ae h2;subst this;exact .inr htn
theorem K.mapLoop {E X:Type} [DecidableEq X] {c:Code} (it tn tk b j i:Nat) {n:Nat} (h:w0b c=true)(hc:r0V it tn tk b (cp c)=true)(f:E->Option (Unit⊕X))(ms:List E)(enc:E->SV×SV) {y:Unit⊕X} (hy:j0s f ms=some y)
    (ts:List Nat) {L2:LE} (hk:g0q ts L=L2) (hL:lk L2 it= .ptr j 0) (htn:lk L2 tn= .undef) (htk:lk L2 tk= .undef) (hne:Nat.beq tn tk=false) (hni:Nat.beq tn it=false) (Hs:List Nat->a0f) (hH:H=Hs []) (hS: ∀s s',(Hs s).set j (.itr i n s')=Hs s')
    (hj: ∀s,(Hs s)[j]?=some (.itr i n s)) (hi: ∀s,(Hs s)[i]?=some (.map (ms.map enc))) (hn:(ms.map enc).length=n)
    (hx: ∀s,y= .inl ()->PJ F Q (.exit b) ((tk, .bool false)::L2) (Hs s))
    (body: ∀s b' e x,(ms.map enc)[b']?=some (enc e)->f e=some x->J F P (cr (cr (cp c))) ((tk, .bool true)::L2) (Hs (s++ [b'])) (C0h F Q L2 (Hs (s++ [b'])) y x)):J F P c L H Q:=by
  cases c<;>first|cases h|skip
  rename_i c
  obtain⟨m1,m2⟩:=r0U ms y hy
  have hnm:ms.length=n:=by rw[<-hn];simp
  refine J.keep ts hk ?_
  subst hH
  obtain⟨id,ops,o0,o1,B,rfl,hl,g1,g2,g3,g4,g5,g6⟩:=q0D hc
  intro hin a w hs
  have hin':b0E F.n _=true:=hin
  refine x0b (λn' a w=> ∃s,n0A n s.toArray=n'/\(∀q∈s,∀e,ms[q]?=some e->f e=some (.inl ()))/\Sees F L2 (Hs s) a w) ?_ (n:=n0A n #[]) ⟨[],rfl,λq hq=>by simp at hq,hs⟩
  rintro n' a w ⟨s,hn',hdone,hs⟩
  refine(?_:J F P (.seq (.region id ops false) (.seq (.cond (.tmp tk) .skip (.exit b)) B)) L2 (Hs s) _) hin' a w hs
  have hp0:ops.toList[0]?=some o0:=by rw[hl];rfl
  have hp1:ops.toList[1]?=some o1:=by rw[hl];rfl
  have hsz:ops.size=2:=by have:=congrArg List.length hl;simpa using this
  have hnk:tn≠tk:=λe=>by subst e;simp at hne
  have hnit:tn≠it:=λe=>by subst e;simp at hni
  refine J.seq (J.region (RJ.next hp0 g1 g2 (congrArg some hL) (hj s) (hi s) hn (λhz=> ?_) (λq hq hqs=> ?_)))
  · -- none is left
    rw[g3]
    have hall:y= .inl ():=m2 λe he=>by
      obtain⟨q,hq,rfl⟩:=List.mem_iff_getElem.1 he
      have hc:=u0b hz q (by omega)
      exact hdone q (by simpa using hc) _ (ac hq)
    refine RJ.step (ef:=⟨.bool false,[],[]⟩) hp1 (by unfold b0i;rw[g4]) (by unfold b0T;rw[g5]) ?_ rfl ?_
    unfold a0E a0g
    rw[g5]
    simp[a0F,a0v,f0d,lk]
    · rw[g6]
      refine RJ.done (by omega) (PJ.next (J.seq (J.cond (b:=false) ?_ (J.exit (PJ.passExit ?_)))))
      simp[a0F,a0v,f0d,lk]
      intro a' w' hs'
      exact .inr ⟨by simp,hx s hall a' w' (hs'.keep (y0G hnk htn))⟩
  · -- one more
    rw[g3]
    obtain⟨e,hqe⟩: ∃e,ms[q]?=some e:=⟨ms[q]'(by omega),ac (by omega)⟩
    obtain⟨x,hfx,hox⟩:=m1 e (aA hqe)
    refine RJ.step (ef:=⟨.bool true,[],[]⟩) hp1 (by unfold b0i;rw[g4]) (by unfold b0T;rw[g5]) ?_ rfl ?_
    unfold a0E a0g
    rw[g5]
    simp[a0F,a0v,f0d,lk]
    · rw[g6,hS]
      refine RJ.done (by omega) (PJ.next (J.seq (J.cond (b:=true) ?_ (J.skip (PJ.next ?_)))))
      simp[a0F,a0v,f0d,lk]
      intro hin2 a' w' hs'
      have hb:=body s q e x (by rw[al,hqe];rfl) hfx hin2 a' w' (hs'.keep (y0G hnk htn))
      refine Code.wp_mono (λee a2 w2 hq2=> ?_) hb
      cases x with
      |inl u=>
        obtain⟨rfl,hs2⟩:=hq2
        refine .inl ⟨rfl,n0A n (s++ [q]).toArray, ?_,s++ [q],rfl,λq' hq' e' he'=> ?_,hs2⟩
        rw[<-hn']
        have:=v0V (seen:=s.toArray) hq (by simpa using hqs)
        simpa using this
        rcases av.1 hq' with h1|h1
        exact hdone q' h1 e' he'
        simp at h1;subst h1;rw[hqe]at he';cases he';exact hfx
      |inr o=>exact .inr ⟨hq2.1,hq2.2 (hox o rfl)⟩
end
end
section
variable [Inhabited GT]
section
variable {F : Fr} {P : Program} {L : LE} {H : a0f} {Q : f0C} {ops : Array Oper} {p : Nat} {tr : List (List Nat × List Nat)} {ρ : Env}
theorem St.openMap {a:Act} {w:World} (hs:St F ρ H a w) {i:Nat} {es:List (SV×SV)} (hi:H[i]?=some (.pmap es)): ∃es',List.Perm es' es/\St F ρ (H.set i (.map es')) a w:=by
  obtain⟨hd,K,D,hv⟩:=hs
  obtain⟨es',r,mes,clock,hp,h1,h2,h3,h4,hB,h5⟩:=hv.hinv.ent _ _ hi
  obtain⟨g,hi'⟩:=modify (w':=w) (en':= .map es') hv.hinv hi rfl rfl h1 rfl rfl rfl rfl (λ_ _=>rfl) (λ_=>⟨r,mes,clock,h1,h2,h3,h4,hB,h5⟩)
  exact⟨es',hp,hd,K,D,hv.slots,hi',hv.grow.trans g⟩
theorem St.closeMap {a:Act} {w:World} (hs:St F ρ H a w) {i:Nat} {es es':List (SV×SV)} (hi:H[i]?=some (.map es'))(hp:List.Perm es' es):St F ρ (H.set i (.pmap es)) a w:=by
  obtain⟨hd,K,D,hv⟩:=hs
  obtain⟨r,mes,clock,h1,h2,h3,h4,hB,h5⟩:=hv.hinv.ent _ _ hi
  obtain⟨g,hi'⟩:=modify (w':=w) (en':= .pmap es) hv.hinv hi rfl rfl h1 rfl rfl rfl rfl (λ_ _=>rfl) (λ_=>⟨es',r,mes,clock,hp,h1,h2,h3,h4,hB,h5⟩)
  exact⟨hd,K,D,hv.slots,hi',hv.grow.trans g⟩
theorem RJ.openMap {A B:Type} {ek:A->SV} {ev:B->SV} (ms:List (A×B))(i:Nat)(Hs:List (A×B)->a0f)(hi:H[i]?=some (.pmap (c0B ek ev ms)))(hs: ∀ms',H.set i (.map (c0B ek ev ms'))=Hs ms')
    (k: ∀ms',List.Perm ms' ms->RJ F P none ops p tr L (Hs ms') Q):RJ F P none ops p tr L H Q:=by
  intro hin a w hst
  obtain⟨es',hp,hst'⟩:=hst.openMap hi
  obtain⟨ms',hp',rfl⟩:=j0h ms es' hp
  have:=hs ms'
  unfold c0B at this
  rw[this]at hst'
  exact k ms' hp' hin a w hst'
open Classical in
noncomputable def o0H {A R:Type} (f:List A->Option R)(ms:List A):Option R:=if∀ms',List.Perm ms' ms->f ms'=f ms then f ms else none
theorem o0G {A R:Type} {f:List A->Option R} {ms:List A} {r:R} (h:o0H f ms=some r)(ms':List A)(hp:List.Perm ms' ms):f ms'=some r:=by
  unfold o0H at h
  split at h
  rename_i hall;rw[hall ms' hp];exact h
  cases h
theorem r0j {A R:Type} {f:List A->Option R} {ms:List A} {r:R} (h: ∀ms',List.Perm ms' ms->f ms'=some r):o0H f ms=some r:=by
  unfold o0H
  rw[if_pos (λms' hp=>by rw[h ms' hp,h ms (.refl _)])]
  exact h ms (.refl _)
/-! Laying it. -/
def mapLit(P:Program)(base kt:Nat):List Oper->Nat->LE->Option (List (SV×Option (SV×SV)))
  | [],_,_=>some []
  |o::r,j,L=>match o.guard,o.op with
    |none, .makeMap _ none=>bif Nat.beq j 0 then(mapLit P base kt r (j+1) (f0d L o.dst (.mp base))).map ((.mp base,none):: ·)else none
    |none, .insert t x k v=>match P.underlying t,a0F (a0v L) x,a0F (a0v L) k,a0F (a0v L) v,o.dst with
      |some (.map kt' _),some (.mp b),some ks,some vs,none=>bif Nat.beq b base&&(Nat.beq kt' kt&&(n0D P kt ks&&o.after.toList.any λe=>Region.binds .any e&&Nat.beq e.on 0))then(mapLit P base kt r (j+1) L).map ((.undef,some (ks,vs)):: ·)else none
      |_,_,_,_,_=>none
    |none,_=>bif b0T o then none else match a0g P o (a0v L)with
      |some v=>(mapLit P base kt r (j+1) (f0d L o.dst v)).map ((v,none):: ·)
      |none=>none
    |_,_=>none
def x0d(o:Oper):List Nat:=o.op.operands.toList.filterMap fun| .tmp t=>some t|_=>none
def n0w(ops:Array Oper):Bool:=
  (List.range ops.size).all λj=>match ops[j]? with
    |some o=>o.after.toList.all (λe=>Nat.blt e.on j)&&((List.range ops.size).all λj'=>match ops[j']? with
      |some o'=>match o'.dst with
        |some t=>(!(x0d o).contains t||o.after.toList.any λe=>Region.binds .any e&&Nat.beq e.on j')&&(Nat.beq j j'||(match o.dst with|some t'=> !Nat.beq t t'|none=>true))
        |none=>true
      |none=>true)
    |none=>true
def B0e:Option (Option SV)->Bool
  |some none=>true
  |_=>false
def s0Z(P:Program)(kt:Nat)(VI:List (SV×Option (SV×SV))):Bool:=
  (List.range VI.length).all λi=>(List.range VI.length).all λj=>Nat.beq i j||(match VI[i]?,VI[j]? with
    |some (_,some a),some (_,some b)=>B0e (k0N P kt [b] a.1)
    |_,_=>true)
def p0O:List Oper->List (SV×Option (SV×SV))->LE->LE
  |o::r,v::s,L=>p0O r s (f0d L o.dst v.1)
  |_,_,L=>L
def esL:List (SV×Option (SV×SV))->Nat->(Nat->Bool)->List (SV×SV)
  | [],_,_=> []
  |vi::r,j,l=>(bif l j then vi.2.toList else [])++esL r (j+1) l
theorem l0G: ∀(VI:List (SV×Option (SV×SV))) (j:Nat) (l l':Nat->Bool),(∀q,j<=q->l q=l' q)->esL VI j l=esL VI j l'
  | [],_,_,_,_=>rfl
  |vi::r,j,l,l',h=>by
    simp only[esL]
    rw[h j (ai _),l0G r (j+1) l l' λq hq=>h q (by omega)]
theorem t0m: ∀(VI:List (SV×Option (SV×SV))) (j:Nat) (l l':Nat->Bool),(∀q,j<=q->q<j+VI.length->l q=l' q)->esL VI j l=esL VI j l'
  | [],_,_,_,_=>rfl
  |vi::r,j,l,l',h=>by
    simp only[esL]
    rw[h j (ai _) (by simp),t0m r (j+1) l l' λq hq hq2=>h q (by omega) (by simp;omega)]
theorem w0s: ∀(VI:List (SV×Option (SV×SV))) (j i:Nat) (l:Nat->Bool) (v:SV) (e:Option (SV×SV)),l i=false->j<=i->VI[i-j]?=some (v,e)->
    List.Perm (esL VI j l++e.toList) (esL VI j λq=>if q=i then true else l q)
  | [],j,i,l,v,e,hl,hj,h=>by simp at h
  |vi::r,j,i,l,v,e,hl,hj,h=>by
    by_cases hij:i=j
    subst hij
    simp at h
    subst h
    have h1:esL r (i+1) (λq=>if q=i then true else l q)=esL r (i+1) l:=l0G r (i+1) _ _ λq hq=>by rw[if_neg (by omega)]
    simp only[esL,hl,cond_false,cd,if_true,cond_true,h1]
    exact List.perm_append_comm
    have h':r[i-(j+1)]?=some (v,e):=by
      have:i-j=(i-(j+1))+1:=by omega
      rw[this]at h
      simpa using h
    have ih:=w0s r (j+1) i l v e hl (by omega) h'
    simp only[esL]
    rw[if_neg (λe=>hij e.symm),bP]
    exact ih.append_left _
theorem t0l: ∀(VI:List (SV×Option (SV×SV))) (j i:Nat) (l:Nat->Bool) (v:SV),VI[i-j]?=some (v,none)->j<=i->(esL VI j λq=>if q=i then true else l q)=esL VI j l
  | [],j,i,l,v,h,_=>rfl
  |vi::r,j,i,l,v,h,hj=>by
    by_cases hij:i=j
    · subst hij
      simp at h
      subst h
      have h1:esL r (i+1) (λq=>if q=i then true else l q)=esL r (i+1) l:=l0G r (i+1) _ _ λq hq=>by rw[if_neg (by omega)]
      simp only[esL,h1]
      cases l i<;>simp
    have h':r[i-(j+1)]?=some (v,none):=by
      have:i-j=(i-(j+1))+1:=by omega
      rw[this]at h
      simpa using h
    simp only[esL]
    rw[if_neg (λe=>hij e.symm),t0l r (j+1) i l v h' (by omega)]
theorem w0u: ∀(VI:List (SV×Option (SV×SV))) (j:Nat) (l:Nat->Bool) (kv:SV×SV),kv∈esL VI j l-> ∃i v,j<=i/\l i=true/\VI[i-j]?=some (v,some kv)
  | [],j,l,kv,h=>by simp[esL]at h
  |vi::r,j,l,kv,h=>by
    simp only[esL,av]at h
    rcases h with h|h
    cases hl:l j with
    |false=>rw[hl]at h;simp at h
    |true=>
      rw[hl]at h
      simp only[cond_true,Option.mem_toList]at h
      exact⟨j,vi.1,ai _,hl,by simp;exact Prod.ext rfl h⟩
    obtain⟨i,v,h1,h2,h3⟩:=w0u r (j+1) l kv h
    refine⟨i,v,by omega,h2, ?_⟩
    have:i-j=(i-(j+1))+1:=by omega
    rw[this]
    simpa using h3
theorem w0t: ∀(VI:List (SV×Option (SV×SV))) (j:Nat) (l:Nat->Bool),(∀q,l q=true-> ∀v e,VI[q-j]?=some (v,e)->j<=q->e=none)->esL VI j l=[]
  | [],_,_,_=>rfl
  |vi::r,j,l,h=>by
    simp only[esL]
    have h1:esL r (j+1) l=[]:=w0t r (j+1) l λq hq v e he hj=>h q hq v e (by
      have:q-j=(q-(j+1))+1:=by omega
      rw[this];simpa using he) (by omega)
    rw[h1]
    cases hl:l j with
    |false=>rfl
    |true=>
      have:=h j hl vi.1 vi.2 (by simp) (ai _)
      rw[this];rfl
theorem o0B {P:Program} {kt:Nat} {k:SV} : ∀(es:List (SV×SV)),(∀e∈es,i0M P kt k [e]=some none)->i0M P kt k es=some none
  | [],_=>rfl
  |e::r,h=>by
    have h1:=h e (ar ..)
    have h2:=o0B r λx hx=>h x (am _ hx)
    cases hq:eqS P 9 kt k e.1 with
    |none=>simp[i0M,hq]at h1
    |some b=>
      cases b with
      |true=>simp[i0M,hq]at h1
      |false=>simp only[i0M,hq];exact h2
theorem o0A {k:SV} : ∀(es:List (SV×SV)),(∀e∈es,e0J [e] k=some none)->e0J es k=some none
  | [],_=>rfl
  |e::r,h=>by
    have h1:=h e (ar ..)
    have h2:=o0A r λx hx=>h x (am _ hx)
    cases hq:e0F k e.1 with
    |none=>simp[e0J,hq]at h1
    |some b=>
      cases b with
      |true=>simp[e0J,hq]at h1
      |false=>simp only[e0J,hq];exact h2
theorem w0p {P:Program} {kt:Nat} {k:SV} (es:List (SV×SV))(h: ∀e∈es,k0N P kt [e] k=some none):k0N P kt es k=some none:=by
  cases k<;>first|exact o0B es h|exact o0A es h
theorem q0K {L:LE} {d:Option Nat} {v:SV} {t:Nat} (h:d≠some t):lk (f0d L d v) t=lk L t:=by
  cases d with
  |none=>rfl
  |some d=>
    simp only[f0d,lk]
    cases hb:Nat.beq t d with
    |false=>rfl
    |true=>exact absurd (by rw[ae hb]) h
theorem v0S {L:LE} {v:SV} {t:Nat} :lk (f0d L (some t) v) t=v:=by simp[f0d,lk]
theorem k0c {t:Nat} : ∀(l:List Oper) (VI:List (SV×Option (SV×SV))) (L:LE),(∀o∈l,o.dst≠some t)->lk (p0O l VI L) t=lk L t
  | [],VI,L,_=>by cases VI<;>rfl
  |o::r,[],L,_=>rfl
  |o::r,v::s,L,h=>by
    simp only[p0O]
    rw[k0c r s _ λx hx=>h x (am _ hx),q0K (h o (ar ..))]
theorem v0T {t:Nat} : ∀(l:List Oper) (VI:List (SV×Option (SV×SV))) (L:LE) (j:Nat) (o:Oper) (v:SV×Option (SV×SV)),l[j]?=some o->o.dst=some t->VI[j]?=some v->(∀j' o',l[j']?=some o'->j'≠j->o'.dst≠some t)->lk (p0O l VI L) t=v.1
  | [],VI,L,j,o,v,h,_,_,_=>by simp at h
  |x::r,[],L,j,o,v,_,_,h,_=>by simp at h
  |x::r,y::s,L,0,o,v,h1,h2,h3,h4=>by
    simp at h1 h3
    subst h1;subst h3
    simp only[p0O]
    rw[k0c r s _ λz hz=>by
      obtain⟨q,hq⟩:=aY.1 hz
      exact h4 (q+1) z (by simpa using hq) (by omega),h2,v0S]
  |x::r,y::s,L,j+1,o,v,h1,h2,h3,h4=>by
    simp only[p0O]
    exact v0T r s _ j o v (by simpa using h1) h2 (by simpa using h3) λj' o' hj' hne=>h4 (j'+1) o' (by simpa using hj') (by omega)
def s0D(P:Program)(base kt j:Nat)(o:Oper)(v:SV)(e:Option (SV×SV))(ρ:Env):Prop:=
  o.guard=none/\((j=0/\(∃t,o.op= .makeMap t none)/\v= .mp base/\e=none)\/
    (∃t x k u et ks vs,o.op= .insert t x k u/\P.underlying t=some (.map kt et)/\a0F ρ x=some (.mp base)/\a0F ρ k=some ks/\a0F ρ u=some vs/\o.dst=none/\n0D P kt ks=true/\(∃ed∈o.after,Region.binds .any ed=true/\ed.on=0)/\v= .undef/\e=some (ks,vs))\/
    (b0T o=false/\a0g P o ρ=some v/\e=none))
theorem t0b {base kt:Nat} : ∀(l:List Oper) (j:Nat) (L:LE) (VI:List (SV×Option (SV×SV))),mapLit P base kt l j L=some VI->
    VI.length=l.length/\ ∀q o,l[q]?=some o-> ∃v e,VI[q]?=some (v,e)/\ ∃L',s0D P base kt (j+q) o v e (a0v L')/\ ∀t,(∀q' o',q<=q'->l[q']?=some o'->o'.dst≠some t)->lk (p0O l VI L) t=lk L' t
  | [],j,L,VI,h=>by
    cases h
    exact⟨rfl,λq o hq=>by simp at hq⟩
  |o::r,j,L,VI,h=>by
    have key: ∀(v:SV) (e:Option (SV×SV)) (L2:LE),s0D P base kt j o v e (a0v L)->(mapLit P base kt r (j+1) (f0d L o.dst v)).map ((v,e):: ·)=some VI->
        VI.length=(o::r).length/\ ∀q o',(o::r)[q]?=some o'-> ∃v e,VI[q]?=some (v,e)/\ ∃L',s0D P base kt (j+q) o' v e (a0v L')/\ ∀t,(∀q' o',q<=q'->(o::r)[q']?=some o'->o'.dst≠some t)->lk (p0O (o::r) VI L) t=lk L' t:=by
      intro v e _ hf hm
      cases hr:mapLit P base kt r (j+1) (f0d L o.dst v)with
      |none=>rw[hr]at hm;cases hm
      |some s=>
        rw[hr]at hm
        cases hm
        obtain⟨h1,h2⟩:=t0b r (j+1) _ s hr
        refine⟨by simp[h1],λq o' hq=> ?_⟩
        cases q with
        |zero=>
          simp at hq;subst hq
          refine⟨v,e,rfl,L,hf,λt ht=> ?_⟩
          simp only[p0O]
          rw[k0c r s _ λz hz=>by
            obtain⟨q,hq⟩:=aY.1 hz
            exact ht (q+1) z (by omega) (by simpa using hq),q0K (ht 0 o (ai _) rfl)]
        |succ q=>
          obtain⟨v',e',h3,L',h4,h5⟩:=h2 q o' (by simpa using hq)
          refine⟨v',e',by simpa using h3,L',by rw[show j+(q+1)=j+1+q by omega];exact h4,λt ht=> ?_⟩
          simp only[p0O]
          exact h5 t λq' o'' hq' ho=>ht (q'+1) o'' (by omega) (by simpa using ho)
    unfold mapLit at h
    split at h
    rename_i tt hg hop
    cases hj:Nat.beq j 0 with
    |false=>rw[hj]at h;cases h
    |true=>
      rw[hj]at h
      exact key _ _ L ⟨hg, .inl ⟨ae hj,⟨_,hop⟩,rfl,rfl⟩⟩ h
    rename_i tt x k u hg hop
    split at h
    rename_i kt' et b ks vs hu hx hk hv hd
    cases hc:(Nat.beq b base&&(Nat.beq kt' kt&&(n0D P kt ks&&o.after.toList.any λe=>Region.binds .any e&&Nat.beq e.on 0)))with
    |false=>rw[hc]at h;cases h
    |true=>
      rw[hc]at h
      simp only[aa,List.any_eq_true]at hc
      obtain⟨c1,c2,c3,ed,c4,c5,c6⟩:=hc
      have c1:=ae c1
      have c2:=ae c2
      have c6:=ae c6
      subst c1;subst c2
      refine key .undef (some (ks,vs)) L ⟨hg, .inr (.inl ⟨tt,x,k,u,et,ks,vs,hop,hu,hx,hk,hv,hd,c3,⟨ed,by simpa using c4,c5,c6⟩,rfl,rfl⟩)⟩ ?_
      rw[hd]
      exact h
    cases h
    rename_i hg _ _
    cases hc:b0T o with
    |true=>rw[hc]at h;cases h
    |false=>
      rw[hc]at h
      simp only[cond_false]at h
      split at h
      rename_i v hv
      exact key v none L ⟨hg, .inr (.inr ⟨hc,hv,rfl⟩)⟩ h
      cases h
    cases h
def C0K(F:Fr)(ops:Array Oper)(VI:List (SV×Option (SV×SV)))(L:LE)(H:a0f)(listed:Array Bool)(a:Act)(w:World):Prop:=
  listed.size=ops.size/\ ∃ρ,St F ρ (bif listed.getD 0 false then H++ [.pmap (esL VI 0 λq=>listed.getD q false)]else H) a w/\
    (∀j o t,listed.getD j false=true->ops[j]?=some o->o.dst=some t-> ∃v,VI[j]?=some v/\ρ t=v.1)/\
    (∀t,(∀j o,ops[j]?=some o->listed.getD j false=true->o.dst≠some t)->ρ t=lk L t)/\
    (∀j v kv,listed.getD j false=true->VI[j]?=some (v,some kv)->listed.getD 0 false=true)
def x0S(ops:Array Oper)(listed:Array Bool):Nat:=((List.range ops.size).filter λj=> !listed.getD j false).length
theorem g0G {listed:Array Bool} {i:Nat} (h:i<listed.size)(d:Bool):(listed.setIfInBounds i true).getD i d=true:=by
  simp[Array.getD,h]
theorem d0n {listed:Array Bool} {i j:Nat} (h:i<listed.size):(listed.setIfInBounds i true).getD j false=if j=i then true else listed.getD j false:=by
  by_cases hj:j=i
  subst hj;rw[if_pos rfl];exact g0G h false
  rw[if_neg hj];exact getD_set_ne false (Ne.symm hj)
theorem s0c {listed:Array Bool} {i:Nat} (h:i<listed.size):listed.getD i true=listed.getD i false:=by simp[Array.getD,h]
structure C0v (ops:Array Oper):Prop where
  before: ∀(j:Nat) (o:Oper),ops[j]?=some o-> ∀e∈o.after,e.on<j
  deps: ∀(j:Nat) (o:Oper) (j':Nat) (o':Oper) (t:Nat),ops[j]?=some o->ops[j']?=some o'->o'.dst=some t->Operand.tmp t∈o.op.operands-> ∃e∈o.after,Region.binds .any e=true/\e.on=j'
  apart: ∀(j:Nat) (o:Oper) (j':Nat) (o':Oper) (t:Nat),ops[j]?=some o->ops[j']?=some o'->o'.dst=some t->j≠j'->o.dst≠some t
theorem q0B(h:n0w ops=true):C0v ops:=by
  unfold n0w at h
  have hj: ∀j o,ops[j]?=some o->j<ops.size:=λj o ho=>(ah.1 ho).1
  have main: ∀j o,ops[j]?=some o->o.after.toList.all (λe=>Nat.blt e.on j)=true/\ ∀j' o',ops[j']?=some o'-> ∀t,o'.dst=some t->(((x0d o).contains t=false\/(o.after.toList.any λe=>Region.binds .any e&&Nat.beq e.on j')=true)/\(j=j'\/o.dst≠some t)):=by
    intro j o ho
    have h1:=List.all_eq_true.1 h j (aV.2 (hj j o ho))
    simp only[ho,aa]at h1
    refine⟨h1.1,λj' o' ho' t ht=> ?_⟩
    have h2:=List.all_eq_true.1 h1.2 j' (aV.2 (hj j' o' ho'))
    simp only[ho',ht,aa,bB]at h2
    obtain⟨h3,h4⟩:=h2
    refine⟨h3.imp (λe=>by simpa using e) id,h4.imp ae λe hd=> ?_⟩
    rw[hd]at e
    simp at e
  refine⟨λj o ho e he=> ?_,λj o j' o' t ho ho' ht hm=> ?_,λj o j' o' t ho ho' ht hne=> ?_⟩
  have:=List.all_eq_true.1 (main j o ho).1 e (by simpa using he)
  exact bn (af this)
  obtain⟨h1,_⟩:=(main j o ho).2 j' o' ho' t ht
  rcases h1 with h1|h1
  exfalso
  have:t∈x0d o:=by
    unfold x0d
    rw[List.mem_filterMap]
    exact⟨.tmp t,by simpa using hm,rfl⟩
  simp[this]at h1
  rw[List.any_eq_true]at h1
  obtain⟨e,he,h2⟩:=h1
  simp only[aa]at h2
  exact⟨e,by simpa using he,h2.1,ae h2.2⟩
  exact((main j o ho).2 j' o' ho' t ht).2.resolve_left hne
theorem t0c {ops:Array Oper} {listed:Array Bool} {i:Nat} (hi:i<ops.size)(hs:listed.size=ops.size)(h:listed.getD i false=false):x0S ops (listed.setIfInBounds i true)<x0S ops listed:=by
  unfold x0S
  refine filter_lt (λj=> !listed.getD j false) (λj=> !(listed.setIfInBounds i true).getD j false) (λx hx=> ?_) i (by rw[h];rfl) (by rw[g0G (by omega)];rfl) _ (aV.2 hi)
  rw[d0n (by omega)]at hx
  by_cases hxi:x=i
  rw[if_pos hxi]at hx;cases hx
  rw[if_neg hxi]at hx;exact hx
theorem K.mapLit {c:Code} (kt:Nat) {VI:List (SV×Option (SV×SV))} {es:List (SV×SV)} {L2:LE} {n:Nat} (h:m0m true c=true)(hm:P.follows .mixedOrders=true)(hn:H.length=n)
    (hlit:Go.Sy.mapLit P n kt (h0g c).toList 0 L=some VI) (hst:n0w (h0g c)=true) (h0:(match(h0g c)[0]? with|some o=>(match o.op with| .makeMap _ none=>true|_=>false)|none=>false)=true)
    (hpair:s0Z P kt VI=true) (hes:(esL VI 0 λ_=>true)=es) (ts:List Nat) (hL:g0q ts (p0O (h0g c).toList VI L)=L2) (k:PJ F Q .normal L2 (H++ [.pmap es])):J F P c L H Q:=by
  cases c<;>first|cases h|skip
  rename_i id ops dr
  have hdr:dr=true:=by simpa [m0m]using h
  subst hdr
  change Go.Sy.mapLit P n kt ops.toList 0 L=some VI at hlit
  change n0w ops=true at hst
  change (match ops[0]? with|some o=>(match o.op with| .makeMap _ none=>true|_=>false)|none=>false)=true at h0
  change g0q ts (p0O ops.toList VI L)=L2 at hL
  subst hn
  intro hin a w hs
  simp only[b0E,List.all_eq_true]at hin
  obtain⟨hlen,hfact⟩:=t0b _ _ _ _ hlit
  have ms:=q0B hst
  have hget: ∀(j:Nat) (o:Oper),ops[j]?=some o↔ops.toList[j]?=some o:=λj o=>by rw[bS]
  obtain⟨o0,ho0,tt0,hop0⟩: ∃o,ops[0]?=some o/\ ∃t,o.op= .makeMap t none:=by
    split at h0
    rename_i o ho
    split at h0
    rename_i tt hop;exact⟨o,ho,tt,hop⟩
    cases h0
    cases h0
  have hpos:0<ops.size:=(ah.1 ho0).1
  -- the slots behind all
  have hfin: ∀(j:Nat) (o:Oper) (t:Nat),ops[j]?=some o->o.dst=some t-> ∃v:SV×Option (SV×SV),VI[j]?=some v/\lk (p0O ops.toList VI L) t=v.1:=λj o t ho ht=>by
    obtain⟨v,e,hv,_⟩:=hfact j o ((hget j o).1 ho)
    exact⟨(v,e),hv,v0T _ _ _ j o (v,e) ((hget j o).1 ho) ht hv λj' o' ho' hne=>ms.apart j' o' j o t ((hget j' o').2 ho') ho ht hne⟩
  have hoth: ∀(t:Nat),(∀(j:Nat) (o:Oper),ops[j]?=some o->o.dst≠some t)->lk (p0O ops.toList VI L) t=lk L t:=λt ht=>k0c _ _ _ λo ho=>by
    obtain⟨j,hj⟩:=aY.1 ho
    exact ht j o ((hget j o).2 hj)
  refine wp_region_any hm ?_
  have step: ∀fuel listed a w,x0S ops listed<=fuel->C0K F ops VI L H listed a w->wpAny P .any ops Q fuel listed a w:=by
    have done: ∀listed a w,Region.ready .any ops listed=[]->C0K F ops VI L H listed a w->Q .normal a w:=by
      rintro listed a w hr ⟨hsz,ρ,hst',h1,h2,_⟩
      have hall: ∀j,j<ops.size->listed.getD j false=true:=by
        intro j
        induction j using Nat.strongRecOn with
        |_ j ih=>
          intro hj
          cases hl:listed.getD j false with
          |true=>rfl
          |false=>
            exfalso
            have:j∈Region.ready .any ops listed:=mem_ready.2 ⟨by rw[s0c (by omega)];exact hl,ops[j],aN hj,λe he _=>by
              have:=ms.before j ops[j] (aN hj) e he
              exact ih e.on this (by omega)⟩
            rw[hr]at this;cases this
      have hρ:ρ=a0v (p0O ops.toList VI L):=by
        funext t
        by_cases ht: ∃(j:Nat) (o:Oper),ops[j]?=some o/\o.dst=some t
        obtain⟨j,o,ho,hd⟩:=ht
        obtain⟨v,hv,hv2⟩:=hfin j o t ho hd
        obtain⟨v',hv',hv3⟩:=h1 j o t (hall j (ah.1 ho).1) ho hd
        rw[hv]at hv';cases hv'
        rw[hv3];exact hv2.symm
        rw[h2 t λj o ho _ hd=>ht ⟨j,o,ho,hd⟩]
        exact(hoth t λj o ho hd=>ht ⟨j,o,ho,hd⟩).symm
      rw[hall 0 hpos,cond_true,hρ]at hst'
      have hee:(esL VI 0 λq=>listed.getD q false)=es:=by
        rw[<-hes]
        exact t0m VI 0 _ _ λq _ hq=>hall q (by rw[hlen]at hq;simpa using hq)
      rw[hee]at hst'
      refine k a w ?_
      rw[<-hL]
      exact Sees.keep (L:=p0O ops.toList VI L) hst' (h0F ts _)
    intro fuel
    induction fuel with
    |zero=>
      intro listed a w hle hI
      have hr:Region.ready .any ops listed=[]:=by
        cases hrr:Region.ready .any ops listed with
        |nil=>rfl
        |cons x xs=>
          exfalso
          have hx:x∈Region.ready .any ops listed:=by rw[hrr];simp
          obtain⟨hx1,o,ho,_⟩:=mem_ready.1 hx
          have hxl:=(ah.1 ho).1
          have hx2:listed.getD x false=false:=by rw[<-s0c (by rw[hI.1];exact hxl)];exact hx1
          have:=t0c hxl hI.1 hx2
          omega
      exact⟨hr,done listed a w hr hI⟩
    |succ fuel ih=>
      intro listed a w hle hI
      refine⟨λhr=>done listed a w hr hI,λi hi=> ?_⟩
      obtain⟨hi1,o,ho,hdep⟩:=mem_ready.1 hi
      obtain⟨hsz,ρ,hst',h1,h2,h3⟩:=hI
      have hil:i<ops.size:=(ah.1 ho).1
      have hil':i<listed.size:=by omega
      have hiu:listed.getD i false=false:=by rw[<-s0c hil'];exact hi1
      obtain⟨v,e,hVi,L',⟨hg,hf⟩,hagree⟩:=hfact i o ((hget i o).1 ho)
      rw[aW]at hf
      have hbo:Oper.inB F.n ops o=true:=hin o (aC.2 (Array.mem_of_getElem? ho))
      -- its operands are what they are in the order of the text
      have hval: ∀x∈o.op.operands,a0F ρ x=a0F (a0v L') x:=by
        intro x hx
        cases x with
        |tmp t=>
          have hL':lk (p0O ops.toList VI L) t=lk L' t:=hagree t λq' o' hq ho' hd=>by
            obtain⟨ed,he,_,hon⟩:=ms.deps i o q' o' t ho ((hget q' o').2 ho') hd hx
            have:=ms.before i o ho ed he
            omega
          show some (ρ t)=some (lk L' t)
          rw[<-hL']
          by_cases ht: ∃(j:Nat) (o:Oper),ops[j]?=some o/\o.dst=some t
          obtain⟨j,oj,hoj,hd⟩:=ht
          obtain⟨ed,he,hb,hon⟩:=ms.deps i o j oj t ho hoj hd hx
          have hlj:=hdep ed he hb
          rw[hon]at hlj
          obtain⟨vj,hvj,hρ⟩:=h1 j oj t hlj hoj hd
          obtain⟨v',hv',hv2⟩:=hfin j oj t hoj hd
          rw[hvj]at hv';cases hv'
          rw[hρ,hv2]
          rw[h2 t λj o ho _ hd=>ht ⟨j,o,ho,hd⟩,hoth t λj o ho hd=>ht ⟨j,o,ho,hd⟩]
        |const c=>rfl
        |global g=>rfl
        |func f=>rfl
      have hlt:=t0c hil hsz hiu
      -- what is known behind it
      have next: ∀a' w',St F (j0e ρ o.dst v) (bif(listed.setIfInBounds i true).getD 0 false then H++ [.pmap (esL VI 0 λq=>(listed.setIfInBounds i true).getD q false)]else H) a' w'->
          (e=none\/listed.getD 0 false=true)->wpAny P .any ops Q fuel (listed.setIfInBounds i true) a' w':=λa' w' hst2 hent=>by
        refine ih _ a' w' (by omega) ⟨by simpa using hsz,j0e ρ o.dst v,hst2,λj oj t hj hoj hd=> ?_,λt ht=> ?_,λj v' kv hj hv'=> ?_⟩
        rw[d0n hil']at hj
        by_cases hji:j=i
        subst hji
        rw[ho]at hoj;cases hoj
        exact⟨(v,e),hVi,by rw[hd];simp[j0e,upd]⟩
        rw[if_neg hji]at hj
        obtain⟨vj,hvj,hρ⟩:=h1 j oj t hj hoj hd
        refine⟨vj,hvj, ?_⟩
        have hne:=ms.apart i o j oj t ho hoj hd (λe=>hji e.symm)
        cases hod:o.dst with
        |none=>exact hρ
        |some d=>
          simp only[j0e,upd]
          rw[if_neg (λe=>hne (by rw[hod,e]))]
          exact hρ
        · have hne:o.dst≠some t:=ht i o ho (g0G hil' false)
          have:=h2 t λj oj hoj hj=>ht j oj hoj (by rw[d0n hil'];split<;>simp[hj])
          cases hod:o.dst with
          |none=>exact this
          |some d=>
            simp only[j0e,upd]
            rw[if_neg (λe=>hne (by rw[hod,e]))]
            exact this
        rw[d0n hil']
        split
        rfl
        rw[d0n hil']at hj
        by_cases hji:j=i
        subst hji
        rw[hVi]at hv';cases hv'
        rcases hent with h|h
        cases h
        exact h
        rw[if_neg hji]at hj
        exact h3 j v' kv hj hv'
      unfold wpOp
      simp only[ho]
      have hgs:b0i ops ρ o=some true:=by unfold b0i;rw[hg]
      rcases hf with⟨hi0,⟨tt,hop⟩,hv,he⟩|⟨tt,x,kk,u,et,ks,vs,hop,hu,hx,hk,hu2,hd,hkey,⟨ed,hed,hb0,hon0⟩,hv,he⟩|⟨hc,hv,he⟩
      · -- it makes the map
        subst hi0
        subst hv;subst he
        rw[hiu,cond_false]at hst'
        have hst0:=hst'
        obtain⟨hdef,K,D,hinv⟩:=hst'
        rw[b0H hinv.slots (Oper.inB_guard hbo) hgs,if_pos rfl]
        refine .inl ?_
        have hev:a0E P o ρ H H.length=some ⟨.mp H.length,[],[(H.length, .map [])]⟩\/True:= .inr trivial
        have hmk:=o0x (P:=P) (a:=a) (o:=o) (t:=tt) hinv.hinv hop (idx:=H.length) (.inl rfl)
        obtain⟨r,w',hrun,g⟩:=hmk
        unfold Oper.wp
        have hset:g0m H H.length (.map [])=H++ [.map []]:=by unfold g0m;rw[if_neg (by omega)]
        rw[hset]at g
        have hnil:(esL VI 0 λq=>(listed.setIfInBounds 0 true).getD q false)=[]:=w0t VI 0 _ λq hq v' e' hv' _=>by
          rw[d0n hil']at hq
          by_cases hq0:q=0
          subst hq0;rw[bC,hVi]at hv';cases hv';rfl
          rw[if_neg hq0]at hq
          cases e' with
          |none=>rfl
          |some kv=>
            exfalso
            have:=h3 q v' kv hq (by simpa using hv')
            rw[hiu]at this;cases this
        have fin: ∀a',St F (j0e ρ o.dst (.mp H.length)) (H++ [.map []]) a' w'->wpAny P .any ops Q fuel (listed.setIfInBounds 0 true) a' w':=λa' hs2=>by
          refine next a' w' ?_ (.inl rfl)
          rw[g0G hil' false,cond_true,hnil]
          have:=hs2.closeMap (i:=H.length) (es:=[]) (es':=[]) (by simp) (.refl _)
          simpa using this
        rcases hrun with hrun|⟨hrun,hr⟩
        rw[hrun]
        exact fin _ ⟨by rw[a0T];exact hdef,hinv.step g o.dst⟩
        rw[hrun];subst hr
        exact fin _ ⟨by rw[a0T];exact hdef,hinv.step g o.dst⟩
      · -- it lays an entry
        subst hv;subst he
        have hl0:listed.getD 0 false=true:=by have:=hdep ed hed hb0;rw[hon0]at this;exact this
        have hi0:i≠0:=λe=>by subst e;rw[hiu]at hl0;cases hl0
        rw[hl0,cond_true]at hst'
        obtain⟨es',hp,hst2⟩:=hst'.openMap (i:=H.length) (es:=esL VI 0 λq=>listed.getD q false) (by rw[bv (ai _),Nat.sub_self];rfl)
        have hset2:(H++ [Ent.pmap (esL VI 0 λq=>listed.getD q false)]).set H.length (.map es')=H++ [.map es']:=by simp
        rw[hset2]at hst2
        obtain⟨hdef,K,D,hinv⟩:=hst2
        rw[b0H hinv.slots (Oper.inB_guard hbo) hgs,if_pos rfl]
        refine .inl ?_
        have hxo: ∀y,y=x\/y=kk\/y=u->y∈o.op.operands:=λy hy=>by rw[hop];rcases hy with rfl|rfl|rfl<;>simp[Op.operands]
        have hfn:k0N P kt es' ks=some none:=w0p es' λkv hkv=>by
          obtain⟨q,vq,_,hq,hvq⟩:=w0u VI 0 _ kv (hp.mem_iff.1 hkv)
          rw[bC]at hvq
          have hqi:q≠i:=λe=>by subst e;rw[hiu]at hq;cases hq
          have hpp:=List.all_eq_true.1 (List.all_eq_true.1 hpair i (aV.2 (ab.1 hVi).1)) q (aV.2 (ab.1 hvq).1)
          simp only[hVi,hvq,bB]at hpp
          rcases hpp with hpp|hpp
          exact absurd (ae hpp).symm hqi
          unfold B0e at hpp
          split at hpp
          assumption
          cases hpp
        have hev:a0E P o ρ (H++ [.map es']) (H++ [Ent.map es']).length=some ⟨.undef,[H.length],[(H.length, .map (es'++ [(ks,vs)]))]⟩:=by
          unfold a0E a0g a0q
          simp only[hop]
          unfold i0i
          rw[hu,hval x (hxo x (.inl rfl)),hval kk (hxo kk (.inr (.inl rfl))),hval u (hxo u (.inr (.inr rfl))),hx,hk,hu2]
          simp only[bv (ai _),Nat.sub_self,bK]
          rw[if_pos hkey,hfn]
        refine t0V hinv hdef (Oper.inB_op hbo) (.inl rfl) hev λa' w' hst3=> ?_
        refine next a' w' ?_ (.inr hl0)
        have ha:b0t (H++ [Ent.map es']) [(H.length, .map (es'++ [(ks,vs)]))]=H++ [.map (es'++ [(ks,vs)])]:=by
          simp[b0t,g0m]
        rw[ha]at hst3
        rw[d0n hil',if_neg (λe=>hi0 e.symm),hl0,cond_true]
        have hpp:List.Perm (es'++ [(ks,vs)]) (esL VI 0 λq=>(listed.setIfInBounds i true).getD q false):=by
          have h3:=w0s VI 0 i (λq=>listed.getD q false) .undef (some (ks,vs)) hiu (bg _) (by rw[bC];exact hVi)
          have h4:(esL VI 0 λq=>(listed.setIfInBounds i true).getD q false)=esL VI 0 λq=>if q=i then true else listed.getD q false:=l0G VI 0 _ _ λq _=>d0n hil'
          rw[h4]
          exact(hp.append_right _).trans (by simpa using h3)
        have:=hst3.closeMap (i:=H.length) (es:=esL VI 0 λq=>(listed.setIfInBounds i true).getD q false) (by simp) hpp
        simpa using this
      · -- something else
        subst he
        have hes2:(esL VI 0 λq=>(listed.setIfInBounds i true).getD q false)=esL VI 0 λq=>listed.getD q false:=by
          have h4:(esL VI 0 λq=>(listed.setIfInBounds i true).getD q false)=esL VI 0 λq=>if q=i then true else listed.getD q false:=l0G VI 0 _ _ λq _=>d0n hil'
          rw[h4]
          exact t0l VI 0 i _ v (by rw[bC];exact hVi) (bg _)
        have hi0:i≠0:=λe=>by
          subst e
          rw[ho0]at ho;cases ho
          unfold a0g at hv
          rw[hop0]at hv
          cases hv
        have hv2:a0g P o ρ=some v:=by rw[k0A hval];exact hv
        obtain⟨hdef,K,D,hinv⟩:=hst'
        rw[b0H hinv.slots (Oper.inB_guard hbo) hgs,if_pos rfl]
        refine .inl ?_
        refine t0V hinv hdef (Oper.inB_op hbo) (.inl rfl) (ef:=⟨v,[],[]⟩) (by unfold a0E;rw[hv2]) λa' w' hst3=> ?_
        refine next a' w' ?_ (.inl rfl)
        rw[hes2,d0n hil',if_neg (λe=>hi0 e.symm)]
        exact hst3
  have hfalse: ∀j,(Array.replicate ops.size false).getD j false=false:=λj=>by
    simp only[Array.getD]
    split
    simp
    rfl
  refine step ops.size _ a _ (aI (List.length_filter_le _ _) (by simp)) ⟨by simp,a0v L, ?_,λj o t hj=> ?_,λt _=>rfl,λj v kv hj=> ?_⟩
  rw[hfalse,cond_false]
  obtain⟨hd,K,D,hi⟩:=hs
  exact⟨hd,K,D,⟨hi.slots.mono λ_ _=>World.drew_rep,hi.hinv.drew,hi.grow.trans (Grow.drew _ _ _ _)⟩⟩
  rw[hfalse]at hj;cases hj
  rw[hfalse]at hj;cases hj
def C0i(r:Option (List (SV×Option (SV×SV)))):List (SV×Option (SV×SV)):=match r with|some x=>x|none=> []
theorem K.mapLitC {c:Code} (kt:Nat) {es:List (SV×SV)} {L2:LE} {n:Nat} (h:m0m true c=true)(hm:P.follows .mixedOrders=true)(hn:H.length=n)
    (hlit:(Go.Sy.mapLit P n kt (h0g c).toList 0 L).isSome=true) (hst:n0w (h0g c)=true) (h0:(match(h0g c)[0]? with|some o=>(match o.op with| .makeMap _ none=>true|_=>false)|none=>false)=true)
    (hpair:s0Z P kt (C0i (Go.Sy.mapLit P n kt (h0g c).toList 0 L))=true) (hes:(esL (C0i (Go.Sy.mapLit P n kt (h0g c).toList 0 L)) 0 λ_=>true)=es) (ts:List Nat) (hL:g0q ts (p0O (h0g c).toList (C0i (Go.Sy.mapLit P n kt (h0g c).toList 0 L)) L)=L2)
    (k:PJ F Q .normal L2 (H++ [.pmap es])):J F P c L H Q:=by
  cases hr:Go.Sy.mapLit P n kt (h0g c).toList 0 L with
  |none=>rw[hr]at hlit;cases hlit
  |some VI=>
    rw[hr]at hpair hes hL
    exact K.mapLit kt h hm hn hr hst h0 hpair hes ts hL k
theorem o0V {K V:Type} {ek:K->SV} {ev:V->SV} (h1: ∀f a,SV.rn f (ek a)=ek a)(h2: ∀f b,SV.rn f (ev b)=ev b)(f:Nat->Nat)(ms:List (K×V)):Ent.rn f (.pmap (c0B ek ev ms))= .pmap (c0B ek ev ms):=by
  simp only[Ent.rn,c0B,bE]
  congr 1
  exact bk λp _=>by simp[h1,h2]
theorem t0O {K V:Type} {ek:K->SV} {ev:V->SV} (h1: ∀m a,SV.refs m (ek a)=true)(h2: ∀m b,SV.refs m (ev b)=true)(m:Nat)(ms:List (K×V)):Ent.refs m (.pmap (c0B ek ev ms))=true:=by
  simp[Ent.refs,c0B,h1,h2]
end
end
section
variable [Inhabited GT]
def r0P(P:Program)(o:Oper)(ρ:Env)(H:a0f)(idx:Nat):Option (Eff×Bool):=
  match o.op with
  | .slice t x none hi none=>match P.underlying t,a0F ρ x with
    |some (.array len e),some (.ptr i off)=>match g0j ρ hi (len:Int)with
      |some h=>bif Nat.blt 0 (P.cellsOf e)then some (⟨.sl i off h.toNat (P.cellsOf e),[],[]⟩,inS 0 h len)else none
      |none=>none
    |_,_=>none
  | .store t x y=>match a0F ρ x,(a0F ρ y).bind SV.cells? with
    |some (.ptr i off),some ps=>match H[i]? with
      |some (.box cs)=>bif Nat.beq ps.length (P.cellsOf t)&&Nat.blt 0 ps.length then some (⟨.undef,[i],[(i, .box (splice cs off ps))]⟩,Nat.ble (off+ps.length) cs.length)else none
      |_=>none
    |_,_=>none
  | .convert src dst x=>match P.underlying src,P.underlying dst,a0F ρ x with
    |some (.slice e),some .string,some (.sl j off n k)=>match P.underlying e,H[j]? with
      |some (.int .u8),some (.box cs)=>bif g0y P src (.sl j off n k)&&Nat.beq k 1 then some (⟨.str (((cs.drop off).take (n*1)).map byteOf),[j],[]⟩,Nat.ble (off+n*1) cs.length&&(b0f ((cs.drop off).take (n*1))&&((cs.drop off).take (n*1)).all i0z))else none
      |_,_=>none
    |_,_,_=>none
  | .call c=>match c.callee with
    | .builtin .append=>match c.args.toList,c.argTypes.toList with
      | [x,y],[t,tx]=>match P.underlying t,a0F ρ x,a0F ρ y with
        |some (.slice e),some .nl,some (.sl j off n k)=>match H[j]? with
          |some (.box cs)=>bif g0y P tx (.sl j off n k)&&(Nat.beq k (P.cellsOf e)&&g0g P e (P.cellsOf e))then some (⟨.vc idx,[j],[(idx, .vec n (P.cellsOf e) e ((cs.drop off).take (n*P.cellsOf e)))]⟩,Nat.ble (off+n*P.cellsOf e) cs.length&&(b0f ((cs.drop off).take (n*P.cellsOf e))&&t0H P e n))else none
          |_=>none
        |some (.slice e),some (.vc i),some (.sl j off n k)=>match H[i]?,H[j]? with
          |some (.vec n' k' e' cs'),some (.box cs)=>bif g0y P tx (.sl j off n k)&&(Nat.beq k k'&&(Nat.beq e e'&&g0g P e k'))then some (⟨.vc idx,[i,j],[(i, .gone),(idx, .vec (n'+n) k' e (cs'++(cs.drop off).take (n*k')))]⟩,Nat.ble (off+n*k') cs.length&&(b0f ((cs.drop off).take (n*k'))&&t0H P e (n'+n)))else none
          |_,_=>none
        |_,_,_=>none
      |_,_=>none
    |_=>none
  |_=>none
theorem p0f {P:Program} {o:Oper} {ρ:Env} {H:a0f} {idx:Nat} {ef:Eff} {b:Bool} (h:r0P P o ρ H idx=some (ef,b))(hb:b=true):a0E P o ρ H idx=some ef:=by
  unfold r0P at h
  split at h
  rename_i t x hi ho
  split at h
  rename_i len e i off hu hx
  split at h
  rename_i hh hbd
  cases hk:Nat.blt 0 (P.cellsOf e)with
  |false=>rw[hk]at h;cases h
  |true=>
    rw[hk]at h
    simp only[cond_true,ag,aB]at h
    obtain⟨rfl,rfl⟩:=h
    obtain⟨q1,q2,q3⟩:=n0J.1 hb
    have hk':0<P.cellsOf e:=af hk
    unfold a0E a0g a0q
    simp only[ho,hu,hx,hbd]
    rw[if_pos ⟨q2,q3,hk'⟩]
  cases h
  cases h
  rename_i t x y ho
  split at h
  rename_i i off ps h1 h2
  split at h
  rename_i cs h3
  cases hk:(Nat.beq ps.length (P.cellsOf t)&&Nat.blt 0 ps.length)with
  |false=>rw[hk]at h;cases h
  |true=>
    rw[hk]at h
    simp only[cond_true,ag,aB]at h
    obtain⟨rfl,rfl⟩:=h
    simp only[aa]at hk
    have hle:off+ps.length<=cs.length:=af hb
    unfold a0E a0g a0q
    simp only[ho,h1,h2,h3,b0F]
    rw[if_pos ⟨ae hk.1,af hk.2,hle,λh=>by cases h⟩]
    rfl
  cases h
  cases h
  rename_i src dst x ho
  split at h
  rename_i e j off n k h1 h2 h3
  split at h
  rename_i cs he hj
  cases hk:(g0y P src (.sl j off n k)&&Nat.beq k 1)with
  |false=>rw[hk]at h;cases h
  |true=>
    rw[hk]at h
    simp only[cond_true,ag,aB]at h
    obtain⟨rfl,rfl⟩:=h
    simp only[aa]at hk hb
    have hk1:=ae hk.2
    subst hk1
    have hle:=af hb.1
    have hsc:p0N 1 (.sl j off n 1) H=some (n,(cs.drop off).take (n*1),[j]):=by
      unfold p0N
      simp only[hj]
      rw[if_pos ⟨trivial,hle,hb.2.1⟩]
    unfold a0E a0g a0q
    simp only[ho,h1,h2,h3,he,hsc,n0R]
    rw[if_pos ⟨hk.1,hb.2.2⟩]
  cases h
  cases h
  rename_i c ho
  split at h
  rename_i hc
  split at h
  rename_i x y t tx ha ht
  split at h
  rename_i e j off n k hu hx hy
  split at h
  rename_i cs hj
  cases hk:(g0y P tx (.sl j off n k)&&(Nat.beq k (P.cellsOf e)&&g0g P e (P.cellsOf e)))with
  |false=>rw[hk]at h;cases h
  |true=>
    rw[hk]at h
    simp only[cond_true,ag,aB]at h
    obtain⟨rfl,rfl⟩:=h
    simp only[aa]at hk hb
    obtain⟨k1,k2,k3⟩:=hk
    have k2:=ae k2
    have hle:=af hb.1
    have hsc:t0B P e (P.cellsOf e) tx (.sl j off n k) H=some (n,(cs.drop off).take (n*P.cellsOf e),[j]):=by
      unfold t0B
      simp only[k1,if_true]
      unfold p0N
      simp only[hj]
      rw[if_pos ⟨k2,hle,hb.2.1⟩]
    unfold a0E a0g a0q
    simp only[ho,hc,s0w]
    unfold j0S
    simp only[ha,ht,hu,hx,hy,hsc]
    rw[if_pos ⟨k3,rfl,m0X hb.2.2⟩]
  cases h
  rename_i e i j off n k hu hx hy
  split at h
  rename_i n' k' e' cs' cs hi hj
  cases hk:(g0y P tx (.sl j off n k)&&(Nat.beq k k'&&(Nat.beq e e'&&g0g P e k')))with
  |false=>rw[hk]at h;cases h
  |true=>
    rw[hk]at h
    simp only[cond_true,ag,aB]at h
    obtain⟨rfl,rfl⟩:=h
    simp only[aa]at hk hb
    obtain⟨k1,k2,k3,k4⟩:=hk
    have k2:=ae k2
    have k3:=ae k3
    have hle:=af hb.1
    have hsc:t0B P e k' tx (.sl j off n k) H=some (n,(cs.drop off).take (n*k'),[j]):=by
      unfold t0B
      simp only[k1,if_true]
      unfold p0N
      simp only[hj]
      rw[if_pos ⟨k2,hle,hb.2.1⟩]
    unfold a0E a0g a0q
    simp only[ho,hc,s0w]
    unfold j0S
    simp only[ha,ht,hu,hx,hy,hi,hsc]
    rw[if_pos ⟨k3,k4,rfl,m0X hb.2.2⟩]
  cases h
  cases h
  cases h
  cases h
  cases h
section
variable {F : Fr} {P : Program} {L : LE} {H : a0f} {Q : f0C} {m : Option Nat} {ops : Array Oper} {p : Nat} {tr : List (List Nat × List Nat)}
def v0n(P:Program)(m:Option Nat)(ops:Array Oper)(p:Nat)(tr:List (List Nat×List Nat))(L:LE)(H:a0f):Option (Option Nat×Eff×Bool×List (List Nat×List Nat)):=
  match ops.toList[p]? with
  |none=>none
  |some o=>match b0i ops (a0v L) o with
    |some true=>bif b0T o then none else match r0P P o (a0v L) H (y0M m ops p H)with
      |some (ef,c)=>bif okM m ops p o ef tr H then some (o.dst,ef,c,trM m ops p o ef tr)else none
      |none=>none
    |_=>none
theorem RJ.relS {d:Option Nat} {ef ef':Eff} {c:Bool} {tr2:List (List Nat×List Nat)} {H2:a0f} (h:v0n P m ops p tr L H=some (d,ef,c,tr2))(hc:c=true)(hn:c=true->ef=ef')(hH:b0t H ef'.wr=H2)(k:RJ F P m ops (p+1) tr2 (f0d L d ef'.v) H2 Q):RJ F P m ops p tr L H Q:=by
  unfold v0n at h
  have hn':=hn hc
  subst hn'
  subst hH
  split at h
  cases h
  rename_i o ho
  split at h
  rename_i hg
  cases hcc:b0T o with
  |true=>rw[hcc]at h;cases h
  |false=>
    rw[hcc]at h
    simp only[cond_false]at h
    split at h
    rename_i ef2 c2 he
    cases hok:okM m ops p o ef2 tr H with
    |false=>rw[hok]at h;cases h
    |true=>
      rw[hok]at h
      simp only[cond_true,ag,aB]at h
      obtain⟨rfl,rfl,rfl,rfl⟩:=h
      exact RJ.step ho hg hcc (p0f he hc) hok k
    cases h
  cases h
end
def inP(o:Nat)(j:Int)(n:Nat):Bool:=decide (0<=j)&&decide ((o:Int)+j<n)
theorem w0g {o:Nat} {j:Int} {n:Nat} :inP o j n=true↔0<=j/\(o:Int)+j<n:=by simp[inP]
section
variable {T : Type} {enc : T -> List SV} {k : Nat}
theorem N.storeB(hk: ∀x,(enc x).length=k) {v:SV} {rd:List Nat} {i o:Nat} {xs:List T} {j:Int} {y:T} (h:inP o j xs.length=true):
    (⟨v,rd,[(i, .box (splice (xs.flatMap enc) (o*k+j.toNat*k) (enc y)))]⟩:Eff)=⟨v,rd,[(i, .box ((m0J xs ((o:Int)+j) y).flatMap enc))]⟩:=by
  obtain⟨h1,h2⟩:=w0g.1 h
  rw[<-bZ,show o+j.toNat=((o:Int)+j).toNat by omega,p0Y hk (e0I.2 ⟨by omega,h2⟩)]
theorem u0U(hk: ∀x,(enc x).length=k) {o:Nat} {xs:List T} {j:Int} {y:T} (h:inP o j xs.length=true):Nat.ble (o*k+j.toNat*k+(enc y).length) (xs.flatMap enc).length=true:=by
  obtain⟨h1,h2⟩:=w0g.1 h
  rw[<-bZ,show o+j.toNat=((o:Int)+j).toNat by omega]
  exact p0W hk (e0I.2 ⟨by omega,h2⟩)
end
section
variable {T : Type} {enc : T -> List SV} {k : Nat}
end
section
variable {F : Fr} {P : Program} {L : LE} {H : a0f} {Q : f0C} {ops : Array Oper} {p : Nat} {tr : List (List Nat × List Nat)}
end
end
theorem x0V {P:Program} {w:World} : ∀(l:List (String×DataW Unit)) (ps:List MemPlace),DataW.LaidVars P w l ps-> ∀nm d,(nm,d)∈l->
    ∃g t cs fuel p,P.globalNamed nm=some g/\(P.globals[g]?).map (·.type)=some t/\w.var? P nm=some cs/\DataW.trod (λ_=>()) P w 0 (λ_=>true) false fuel t cs.toList=some (d,p):=by
  intro l
  induction l with
  |nil=>intro ps _ nm d h;simp at h
  |cons x r ih=>
    intro ps h nm d hm
    obtain⟨n,d'⟩:=x
    obtain⟨g,t,cs,fuel,p,q,h1,h2,h3,h4,h5,_⟩:=h
    rcases aO.1 hm with e|e
    cases e;exact⟨g,t,cs,fuel,p,h1,h2,h3,h4⟩
    exact ih q h5 nm d e
theorem l0B {P:Program} {w:World} {laid:List (String×DataW Unit)} (hp:(laid.all λx=>x.2.handleName?.isNone)=true)(h:laidMetH P laid w) {nm:String} {g t e:Nat} {n:Nat} {k:IntKind} (ns:List Int)
    (hm:(nm,DataW.agg (ns.map λz=> .lit (.int k z)))∈laid) (hg:P.globalNamed nm=some g) (ht:(P.globals[g]?).map (·.type)=some t) (hu:P.underlying t=some (.array n e)) (hue:P.underlying e=some (.int k)) (he:P.cellsOf e=1) (hct:P.cellsOf t=n):
    Rep w (KW w) (λ_=>none) (.pointer (some ⟨g,0,none⟩)) (.ep (ns.map (SV.int k))):=by
  rw[MakeChecks.laidMetH_plain _ _ _ hp]at h
  obtain⟨ps,hl,_,_⟩:=h
  obtain⟨g',t',cs,fuel,p,h1,h2,h3,h4⟩:=x0V _ _ hl _ _ hm
  obtain rfl:=au (hg.symm.trans h1)
  obtain rfl:=au (ht.symm.trans h2)
  obtain⟨xs,m,_,ex,hlen,hxl,hel⟩:=DataW.trod_array hu h4
  rw[hct]at hlen
  have e3:ns.map (λz=>(DataW.lit (.int k z):DataW Unit))=xs.map (·.1):=DataW.agg.inj (Prod.mk.inj ex).1
  have hnl:ns.length=n:=by have:=congrArg List.length e3;simpa [hxl]using this
  have hval:cs.toList=ns.map (Value.int k):=by
    apply bh
    intro i
    by_cases hi:i<n
    have hE:=hel i hi
    rw[he,Nat.mul_one,ac (by omega:i<xs.length)]at hE
    obtain⟨z,e1,e2,_⟩:=DataW.trod_int hue hE
    have e4:=congrArg (λl=>l[i]?) e3
    simp only[al,ac (by omega:i<xs.length),ac (by omega:i<ns.length),e2,aP,ag,DataW.lit.injEq,Lit.int.injEq,true_and]at e4
    rw[al,ac (by omega:i<ns.length),aP,e4]
    have:((cs.toList.drop i).take 1)[0]?=some (.int k z):=by rw[e1];rfl
    rw[aM,if_pos (by omega),List.getElem?_drop]at this
    simpa using this
    rw[aw (by omega),aw (by simp;omega)]
  have hcell: ∀(j:Nat) v,(ns.map (Value.int k))[j]?=some v->w.cell? ⟨g,0+j,none⟩=some v:=λj v hj=>by
    rw[aW,World.var?_cell h1 h3 j]
    rw[<-hval]at hj
    simpa using hj
  refine .ep g 0 (ns.map (Value.int k)) _ (by simp) hcell ?_ (λv hv=> ?_) ?_ (λj v c hv hc=> ?_)
  · rw[aW]
    have hsz:w.heap[g]?=none\/ ∃x,w.heap[g]?=some x:=by cases w.heap[g]?<;>simp
    have hv3:=h3
    simp only[World.var?,h1,aq]at hv3
    unfold KW
    split at hv3
    rename_i c a b hb
    rw[hb]
    cases hv3
    have:=congrArg List.length hval
    simp only[bJ,List.length_map]at this⊢
    omega
    cases hv3
  obtain⟨z,_,rfl⟩:=aR.1 hv;rfl
  simp only[b0f,List.all_map,List.all_eq_true];intro z _;rfl
  rw[al]at hv hc
  cases hx:ns[j]? with
  |none=>rw[hx]at hv;cases hv
  |some z=>rw[hx]at hv hc;cases hv;cases hc;exact .int _ _
section
variable [Inhabited GT]
section
variable {F : Fr} {P : Program} {c : Code} {L : LE} {H : a0f} {Q : f0C}
end
theorem k0T {α β γ:Type} {f:α->Option γ} {g:β->Option γ} {a:α} {r:γ} (h:Sum.elim f g (.inl a)=some r):f a=some r:=h
theorem k0S {α β γ:Type} {f:α->Option γ} {g:β->Option γ} {b:β} {r:γ} (h:Sum.elim f g (.inr b)=some r):g b=some r:=h
end
section
variable [Inhabited GT]
section
variable {F : Fr} {P : Program} {c : Code} {L : LE} {H : a0f} {Q : f0C} {ops : Array Oper} {p : Nat}
theorem kI {T:Type} [Inhabited T] {enc:T->List SV} {k:Nat} {xs:List T} {j:Int} (d:Nat)(hk: ∀x,(enc x).length=k)(hm:inR j xs.length=true)(kk:RJ F P none ops (p+1) [] (f0d L (some d) (.ep (enc (nth xs j)))) H Q)
    (h:o0X P none ops p [] L H=some (some d,⟨.ep (((xs.flatMap enc).drop (j.toNat*k)).take k),[],[]⟩,inR j xs.length,[]):=by kernel_rfl):RJ F P none ops p [] L H Q:=
  RJ.rel h hm (λhc=>N.idx hk hc) rfl kk
theorem kG {s:List UInt8} {j:Int} (d:Nat)(hm:inR j s.length=true)(kk:RJ F P none ops (p+1) [] (f0d L (some d) (.int .u8 (((s.getD j.toNat 0).toNat:Nat):Int))) H Q)
    (h:o0X P none ops p [] L H=some (some d,⟨.int .u8 (((s.getD j.toNat 0).toNat:Nat):Int),[],[]⟩,inR j s.length,[]):=by kernel_rfl):RJ F P none ops p [] L H Q:=
  RJ.rel h hm (λ_=>rfl) rfl kk
theorem kA {f:FuncId} {args:List SV} {v:SV} (d:Nat)(hs:SC P f args [] v [])(kk:RJ F P none ops (p+1) [] (f0d L (some d) v) H Q)(h:h0d none ops p [] L []=some (some d,f,args,[]):=by kernel_rfl)(hr:SV.refsL 0 args=true:=by kernel_rfl)(hv:SV.refs 0 v=true:=by kernel_rfl):RJ F P none ops p [] L H Q:=by
  refine RJ.call0 h hr ?_ hs hv kk
  exact LeL.refl args
theorem kB {α:Type} {m:Option Nat} {tr:List (List Nat×List Nat)} {b:Bool} {X Y:α} {r:α} (d:Nat)(h:(bif b then X else Y)=r)(h1:X=r->RJ F P m ops p tr ((d, .bool true)::L) H Q)(h2:Y=r->RJ F P m ops p tr ((d, .bool false)::L) H Q)
    (hd:lk L d= .bool b:=by kernel_rfl):RJ F P m ops p tr L H Q:=RJ.caseB d hd (λhb=>h1 (condT hb h)) (λhb=>h2 (condF hb h))
variable {m : Option Nat} {tr tr2 : List (List Nat × List Nat)}
theorem kQ {b:Bool} (d:Nat)(v:SV)(rd:List Nat)(hm:b=true)(kk:RJ F P m ops (p+1) tr2 (f0d L (some d) v) H Q)(h:o0X P m ops p tr L H=some (some d,⟨v,rd,[]⟩,b,tr2):=by kernel_rfl):RJ F P m ops p tr L H Q:=RJ.rel h hm (λ_=>rfl) rfl kk
theorem kJ {T:Type} [Inhabited T] {enc:T->List SV} {k:Nat} {xs:List T} {j:Int} (d:Nat)(hk: ∀x,(enc x).length=k)(hm:inR j xs.length=true)(kk:RJ F P m ops (p+1) tr2 (f0d L (some d) (.ep (enc (nth xs j)))) H Q)
    (h:o0X P m ops p tr L H=some (some d,⟨.ep (((xs.flatMap enc).drop (j.toNat*k)).take k),[],[]⟩,inR j xs.length,tr2):=by kernel_rfl):RJ F P m ops p tr L H Q:=RJ.rel h hm (λhc=>N.idx hk hc) rfl kk
theorem kCG {f:FuncId} {args args0:List SV} {v0 v:SV} {H0 H0' H2:a0f} (d:Option Nat)(σ:List Nat)(hs:SC P f args0 H0 v0 H0')(kk:RJ F P none ops (p+1) [] (f0d L d v) H2 Q)(h:h0d none ops p [] L []=some (d,f,args,[]):=by kernel_rfl)(ha:args=SV.rnL (b0r σ) args0:=by kernel_rfl)
    (hl:σ.length=H0.length:=by kernel_rfl) (hg:σ.map (λi=>H[i]?)=H0.map (λen=>some (Ent.rn (b0r σ) en)):=by kernel_rfl) (hn:σ.Nodup:=by decide) (hr0:H0.all (Ent.refs H0.length)=true:=by kernel_rfl) (hlive:H0.all f0z=true:=by kernel_rfl) (hr:SV.refsL H0.length args0=true:=by kernel_rfl)
    (hle':Nat.ble H0.length H0'.length=true:=by kernel_rfl) (hv:SV.rn (gOf (b0r σ) H0.length H.length) v0=v:=by kernel_rfl) (hH:d0q (b0r σ) H0.length H H0'=H2:=by kernel_rfl):RJ F P none ops p [] L H Q:=
  RJ.callG σ h ha hl hg hn hr0 hlive hr (LeL.refl _) hs hle' hv hH kk
theorem kb(i:Nat)(k:J F P (cb c) L H (Exit.inBlock i Q))(h:w0d i c=true:=by kernel_rfl):J F P c L H Q:=K.block i h k
theorem kl {S O:Type} {step:S->Option (S⊕O)} {n:Nat} {s0:S} {o:O} (R:S->LE×a0f)(ho:a0x step n s0=some o)(ts:List Nat)(body: ∀s x,step s=some x->J F P (cp c) (R s).1 (R s).2 (p0k F R Q o x))(h:w0b c=true:=by kernel_rfl)(hL:g0q ts L=(R s0).1:=by kernel_rfl)(hH:H=(R s0).2:=by kernel_rfl):J F P c L H Q:=
  K.loop h R ho ts hL hH body
end
end
end Go.Sy
