/-
 The second shadow machine: maps that are written out, their entries laid in whatever order.
-/
import Derived.Test.YtcapcgbamehojaaGreatDoorSyMR
namespace Go.Sy
open Go Go.RowKit
set_option linter.unusedSimpArgs false
set_option linter.unusedVariables false
set_option linter.unusedSectionVars false
variable [Inhabited GT]
section
variable {F : Fr} {P : Program} {L : LE} {H : a0o} {Q : h0f} {ops : Array Oper} {p : Nat} {tr : List (List Nat × List Nat)} {ρ : Env}
theorem St.openMap {a:Act} {w:World} (hs:St F ρ H a w) {i:Nat} {es:List (SV×SV)} (hi:H[i]?=some (.pmap es)): ∃es',List.Perm es' es∧St F ρ (H.set i (.map es')) a w:=by
 obtain⟨hd,K,D,hv⟩:=hs
 obtain⟨es',r,mes,clock,hp,h1,h2,h3,h4,hB,h5⟩:=hv.hinv.ent _ _ hi
 obtain⟨g,hi'⟩:=modify (w':=w) (en':= .map es') hv.hinv hi rfl rfl h1 rfl rfl rfl rfl (fun _ _=>rfl) (fun _=>⟨r,mes,clock,h1,h2,h3,h4,hB,h5⟩)
 exact⟨es',hp,hd,K,D,hv.slots,hi',hv.grow.trans g⟩
theorem St.closeMap {a:Act} {w:World} (hs:St F ρ H a w) {i:Nat} {es es':List (SV×SV)} (hi:H[i]?=some (.map es'))(hp:List.Perm es' es):St F ρ (H.set i (.pmap es)) a w:=by
 obtain⟨hd,K,D,hv⟩:=hs
 obtain⟨r,mes,clock,h1,h2,h3,h4,hB,h5⟩:=hv.hinv.ent _ _ hi
 obtain⟨g,hi'⟩:=modify (w':=w) (en':= .pmap es) hv.hinv hi rfl rfl h1 rfl rfl rfl rfl (fun _ _=>rfl) (fun _=>⟨es',r,mes,clock,hp,h1,h2,h3,h4,hB,h5⟩)
 exact⟨hd,K,D,hv.slots,hi',hv.grow.trans g⟩
theorem RJ.openMap {A B:Type} {ek:A→SV} {ev:B→SV} (ms:List (A×B))(i:Nat)(Hs:List (A×B)→a0o)(hi:H[i]?=some (.pmap (c0a ek ev ms)))(hs: ∀ms',H.set i (.map (c0a ek ev ms'))=Hs ms')
  (k: ∀ms',List.Perm ms' ms→RJ F P none ops p tr L (Hs ms') Q):RJ F P none ops p tr L H Q:=by
 intro hin a w hst
 obtain⟨es',hp,hst'⟩:=hst.openMap hi
 obtain⟨ms',hp',rfl⟩:=j0I ms es' hp
 have:=hs ms'
 unfold c0a at this
 rw[this]at hst'
 exact k ms' hp' hin a w hst'
open Classical in
noncomputable def p0p {A R:Type} (f:List A→Option R)(ms:List A):Option R:=if∀ms',List.Perm ms' ms→f ms'=f ms then f ms else none
theorem p0o {A R:Type} {f:List A→Option R} {ms:List A} {r:R} (h:p0p f ms=some r)(ms':List A)(hp:List.Perm ms' ms):f ms'=some r:=by
 unfold p0p at h
 split at h
 ·rename_i hall;rw[hall ms' hp];exact h
 ·cases h
theorem r0I {A R:Type} {f:List A→Option R} {ms:List A} {r:R} (h: ∀ms',List.Perm ms' ms→f ms'=some r):p0p f ms=some r:=by
 unfold p0p
 rw[if_pos (fun ms' hp=>by rw[h ms' hp,h ms (.refl _)])]
 exact h ms (.refl _)
/-! Laying it. -/
def mapLit(P:Program)(base kt:Nat):List Oper→Nat→LE→Option (List (SV×Option (SV×SV)))
 | [],_,_=>some []
 |o::r,j,L=>match o.guard,o.op with
  |none, .makeMap _ none=>bif Nat.beq j 0 then(mapLit P base kt r (j+1) (g0e L o.dst (.mp base))).map ((.mp base,none):: ·)else none
  |none, .insert t x k v=>match P.underlying t,a0Y (b0s L) x,a0Y (b0s L) k,a0Y (b0s L) v,o.dst with
   |some (.map kt' _),some (.mp b),some ks,some vs,none=>bif Nat.beq b base&&(Nat.beq kt' kt&&(o0k P kt ks&&o.after.toList.any fun e=>Region.binds .any e&&Nat.beq e.on 0))then(mapLit P base kt r (j+1) L).map ((.undef,some (ks,vs)):: ·)else none
   |_,_,_,_,_=>none
  |none,_=>bif c0B o then none else match a0k P o (b0s L)with
   |some v=>(mapLit P base kt r (j+1) (g0e L o.dst v)).map ((v,none):: ·)
   |none=>none
  |_,_=>none
def x0f(o:Oper):List Nat:=o.op.operands.toList.filterMap fun| .tmp t=>some t|_=>none
def o0c(ops:Array Oper):Bool:=
 (List.range ops.size).all fun j=>match ops[j]? with
  |some o=>o.after.toList.all (fun e=>Nat.blt e.on j)&&((List.range ops.size).all fun j'=>match ops[j']? with
   |some o'=>match o'.dst with
    |some t=>(!(x0f o).contains t||o.after.toList.any fun e=>Region.binds .any e&&Nat.beq e.on j')&&(Nat.beq j j'||(match o.dst with|some t'=> !Nat.beq t t'|none=>true))
    |none=>true
   |none=>true)
  |none=>true
def A0y:Option (Option SV)→Bool
 |some none=>true
 |_=>false
def t0r(P:Program)(kt:Nat)(VI:List (SV×Option (SV×SV))):Bool:=
 (List.range VI.length).all fun i=>(List.range VI.length).all fun j=>Nat.beq i j||(match VI[i]?,VI[j]? with
  |some (_,some a),some (_,some b)=>A0y (k0J P kt [b] a.1)
  |_,_=>true)
def q0p:List Oper→List (SV×Option (SV×SV))→LE→LE
 |o::r,v::s,L=>q0p r s (g0e L o.dst v.1)
 |_,_,L=>L
def esL:List (SV×Option (SV×SV))→Nat→(Nat→Bool)→List (SV×SV)
 | [],_,_=> []
 |vi::r,j,l=>(bif l j then vi.2.toList else [])++esL r (j+1) l
theorem m0a: ∀(VI:List (SV×Option (SV×SV))) (j:Nat) (l l':Nat→Bool),(∀q,j≤q→l q=l' q)→esL VI j l=esL VI j l'
 | [],_,_,_,_=>rfl
 |vi::r,j,l,l',h=>by
  simp only[esL]
  rw[h j (ak _),m0a r (j+1) l l' fun q hq=>h q (by omega)]
theorem t0G: ∀(VI:List (SV×Option (SV×SV))) (j:Nat) (l l':Nat→Bool),(∀q,j≤q→q<j+VI.length→l q=l' q)→esL VI j l=esL VI j l'
 | [],_,_,_,_=>rfl
 |vi::r,j,l,l',h=>by
  simp only[esL]
  rw[h j (ak _) (by simp),t0G r (j+1) l l' fun q hq hq2=>h q (by omega) (by simp;omega)]
theorem w0u: ∀(VI:List (SV×Option (SV×SV))) (j i:Nat) (l:Nat→Bool) (v:SV) (e:Option (SV×SV)),l i=false→j≤i→VI[i-j]?=some (v,e)→
  List.Perm (esL VI j l++e.toList) (esL VI j fun q=>if q=i then true else l q)
 | [],j,i,l,v,e,hl,hj,h=>by simp at h
 |vi::r,j,i,l,v,e,hl,hj,h=>by
  by_cases hij:i=j
  ·subst hij
   simp at h
   subst h
   have h1:esL r (i+1) (fun q=>if q=i then true else l q)=esL r (i+1) l:=m0a r (i+1) _ _ fun q hq=>by rw[if_neg (by omega)]
   simp only[esL,hl,cond_false,bu,if_true,cond_true,h1]
   exact List.perm_append_comm
  ·have h':r[i-(j+1)]?=some (v,e):=by
    have:i-j=(i-(j+1))+1:=by omega
    rw[this]at h
    simpa using h
   have ih:=w0u r (j+1) i l v e hl (by omega) h'
   simp only[esL]
   rw[if_neg (fun e=>hij e.symm),aL]
   exact ih.append_left _
theorem t0F: ∀(VI:List (SV×Option (SV×SV))) (j i:Nat) (l:Nat→Bool) (v:SV),VI[i-j]?=some (v,none)→j≤i→(esL VI j fun q=>if q=i then true else l q)=esL VI j l
 | [],j,i,l,v,h,_=>rfl
 |vi::r,j,i,l,v,h,hj=>by
  by_cases hij:i=j
  ·subst hij
   simp at h
   subst h
   have h1:esL r (i+1) (fun q=>if q=i then true else l q)=esL r (i+1) l:=m0a r (i+1) _ _ fun q hq=>by rw[if_neg (by omega)]
   simp only[esL,h1]
   cases l i<;>simp
  ·have h':r[i-(j+1)]?=some (v,none):=by
    have:i-j=(i-(j+1))+1:=by omega
    rw[this]at h
    simpa using h
   simp only[esL]
   rw[if_neg (fun e=>hij e.symm),t0F r (j+1) i l v h' (by omega)]
theorem w0w: ∀(VI:List (SV×Option (SV×SV))) (j:Nat) (l:Nat→Bool) (kv:SV×SV),kv∈esL VI j l→ ∃i v,j≤i∧l i=true∧VI[i-j]?=some (v,some kv)
 | [],j,l,kv,h=>by simp[esL]at h
 |vi::r,j,l,kv,h=>by
  simp only[esL,au]at h
  rcases h with h|h
  ·cases hl:l j with
   |false=>rw[hl]at h;simp at h
   |true=>
    rw[hl]at h
    simp only[cond_true,Option.mem_toList]at h
    exact⟨j,vi.1,ak _,hl,by simp;exact Prod.ext rfl h⟩
  ·obtain⟨i,v,h1,h2,h3⟩:=w0w r (j+1) l kv h
   refine⟨i,v,by omega,h2, ?_⟩
   have:i-j=(i-(j+1))+1:=by omega
   rw[this]
   simpa using h3
theorem w0v: ∀(VI:List (SV×Option (SV×SV))) (j:Nat) (l:Nat→Bool),(∀q,l q=true→ ∀v e,VI[q-j]?=some (v,e)→j≤q→e=none)→esL VI j l=[]
 | [],_,_,_=>rfl
 |vi::r,j,l,h=>by
  simp only[esL]
  have h1:esL r (j+1) l=[]:=w0v r (j+1) l fun q hq v e he hj=>h q hq v e (by
   have:q-j=(q-(j+1))+1:=by omega
   rw[this];simpa using he) (by omega)
  rw[h1]
  cases hl:l j with
  |false=>rfl
  |true=>
   have:=h j hl vi.1 vi.2 (by simp) (ak _)
   rw[this];rfl
theorem p0i {P:Program} {kt:Nat} {k:SV} : ∀(es:List (SV×SV)),(∀e∈es,j0o P kt k [e]=some none)→j0o P kt k es=some none
 | [],_=>rfl
 |e::r,h=>by
  have h1:=h e (ar ..)
  have h2:=p0i r fun x hx=>h x (ao _ hx)
  cases hq:eqS P 9 kt k e.1 with
  |none=>simp[j0o,hq]at h1
  |some b=>
   cases b with
   |true=>simp[j0o,hq]at h1
   |false=>simp only[j0o,hq];exact h2
theorem p0h {k:SV} : ∀(es:List (SV×SV)),(∀e∈es,e0K [e] k=some none)→e0K es k=some none
 | [],_=>rfl
 |e::r,h=>by
  have h1:=h e (ar ..)
  have h2:=p0h r fun x hx=>h x (ao _ hx)
  cases hq:e0F k e.1 with
  |none=>simp[e0K,hq]at h1
  |some b=>
   cases b with
   |true=>simp[e0K,hq]at h1
   |false=>simp only[e0K,hq];exact h2
theorem w0s {P:Program} {kt:Nat} {k:SV} (es:List (SV×SV))(h: ∀e∈es,k0J P kt [e] k=some none):k0J P kt es k=some none:=by
 cases k<;>first|exact p0i es h|exact p0h es h
theorem r0j {L:LE} {d:Option Nat} {v:SV} {t:Nat} (h:d≠some t):lk (g0e L d v) t=lk L t:=by
 cases d with
 |none=>rfl
 |some d=>
  simp only[g0e,lk]
  cases hb:Nat.beq t d with
  |false=>rfl
  |true=>exact absurd (by rw[af hb]) h
theorem v0S {L:LE} {v:SV} {t:Nat} :lk (g0e L (some t) v) t=v:=by simp[g0e,lk]
theorem k0x {t:Nat} : ∀(l:List Oper) (VI:List (SV×Option (SV×SV))) (L:LE),(∀o∈l,o.dst≠some t)→lk (q0p l VI L) t=lk L t
 | [],VI,L,_=>by cases VI<;>rfl
 |o::r,[],L,_=>rfl
 |o::r,v::s,L,h=>by
  simp only[q0p]
  rw[k0x r s _ fun x hx=>h x (ao _ hx),r0j (h o (ar ..))]
theorem v0U {t:Nat} : ∀(l:List Oper) (VI:List (SV×Option (SV×SV))) (L:LE) (j:Nat) (o:Oper) (v:SV×Option (SV×SV)),l[j]?=some o→o.dst=some t→VI[j]?=some v→(∀j' o',l[j']?=some o'→j'≠j→o'.dst≠some t)→lk (q0p l VI L) t=v.1
 | [],VI,L,j,o,v,h,_,_,_=>by simp at h
 |x::r,[],L,j,o,v,_,_,h,_=>by simp at h
 |x::r,y::s,L,0,o,v,h1,h2,h3,h4=>by
  simp at h1 h3
  subst h1;subst h3
  simp only[q0p]
  rw[k0x r s _ fun z hz=>by
   obtain⟨q,hq⟩:=be.1 hz
   exact h4 (q+1) z (by simpa using hq) (by omega),h2,v0S]
 |x::r,y::s,L,j+1,o,v,h1,h2,h3,h4=>by
  simp only[q0p]
  exact v0U r s _ j o v (by simpa using h1) h2 (by simpa using h3) fun j' o' hj' hne=>h4 (j'+1) o' (by simpa using hj') (by omega)
def s0V(P:Program)(base kt j:Nat)(o:Oper)(v:SV)(e:Option (SV×SV))(ρ:Env):Prop:=
 o.guard=none∧((j=0∧(∃t,o.op= .makeMap t none)∧v= .mp base∧e=none)∨
  (∃t x k u et ks vs,o.op= .insert t x k u∧P.underlying t=some (.map kt et)∧a0Y ρ x=some (.mp base)∧a0Y ρ k=some ks∧a0Y ρ u=some vs∧o.dst=none∧o0k P kt ks=true∧(∃ed∈o.after,Region.binds .any ed=true∧ed.on=0)∧v= .undef∧e=some (ks,vs))∨
  (c0B o=false∧a0k P o ρ=some v∧e=none))
theorem t0t {base kt:Nat} : ∀(l:List Oper) (j:Nat) (L:LE) (VI:List (SV×Option (SV×SV))),mapLit P base kt l j L=some VI→
  VI.length=l.length∧ ∀q o,l[q]?=some o→ ∃v e,VI[q]?=some (v,e)∧ ∃L',s0V P base kt (j+q) o v e (b0s L')∧ ∀t,(∀q' o',q≤q'→l[q']?=some o'→o'.dst≠some t)→lk (q0p l VI L) t=lk L' t
 | [],j,L,VI,h=>by
  cases h
  exact⟨rfl,fun q o hq=>by simp at hq⟩
 |o::r,j,L,VI,h=>by
  have key: ∀(v:SV) (e:Option (SV×SV)) (L2:LE),s0V P base kt j o v e (b0s L)→(mapLit P base kt r (j+1) (g0e L o.dst v)).map ((v,e):: ·)=some VI→
    VI.length=(o::r).length∧ ∀q o',(o::r)[q]?=some o'→ ∃v e,VI[q]?=some (v,e)∧ ∃L',s0V P base kt (j+q) o' v e (b0s L')∧ ∀t,(∀q' o',q≤q'→(o::r)[q']?=some o'→o'.dst≠some t)→lk (q0p (o::r) VI L) t=lk L' t:=by
   intro v e _ hf hm
   cases hr:mapLit P base kt r (j+1) (g0e L o.dst v)with
   |none=>rw[hr]at hm;cases hm
   |some s=>
    rw[hr]at hm
    cases hm
    obtain⟨h1,h2⟩:=t0t r (j+1) _ s hr
    refine⟨by simp[h1],fun q o' hq=> ?_⟩
    cases q with
    |zero=>
     simp at hq;subst hq
     refine⟨v,e,rfl,L,hf,fun t ht=> ?_⟩
     simp only[q0p]
     rw[k0x r s _ fun z hz=>by
      obtain⟨q,hq⟩:=be.1 hz
      exact ht (q+1) z (by omega) (by simpa using hq),r0j (ht 0 o (ak _) rfl)]
    |succ q=>
     obtain⟨v',e',h3,L',h4,h5⟩:=h2 q o' (by simpa using hq)
     refine⟨v',e',by simpa using h3,L',by rw[show j+(q+1)=j+1+q by omega];exact h4,fun t ht=> ?_⟩
     simp only[q0p]
     exact h5 t fun q' o'' hq' ho=>ht (q'+1) o'' (by omega) (by simpa using ho)
  unfold mapLit at h
  split at h
  ·rename_i tt hg hop
   cases hj:Nat.beq j 0 with
   |false=>rw[hj]at h;cases h
   |true=>
    rw[hj]at h
    exact key _ _ L ⟨hg, .inl ⟨af hj,⟨_,hop⟩,rfl,rfl⟩⟩ h
  ·rename_i tt x k u hg hop
   split at h
   ·rename_i kt' et b ks vs hu hx hk hv hd
    cases hc:(Nat.beq b base&&(Nat.beq kt' kt&&(o0k P kt ks&&o.after.toList.any fun e=>Region.binds .any e&&Nat.beq e.on 0)))with
    |false=>rw[hc]at h;cases h
    |true=>
     rw[hc]at h
     simp only[ac,List.any_eq_true]at hc
     obtain⟨c1,c2,c3,ed,c4,c5,c6⟩:=hc
     have c1:=af c1
     have c2:=af c2
     have c6:=af c6
     subst c1;subst c2
     refine key .undef (some (ks,vs)) L ⟨hg, .inr (.inl ⟨tt,x,k,u,et,ks,vs,hop,hu,hx,hk,hv,hd,c3,⟨ed,by simpa using c4,c5,c6⟩,rfl,rfl⟩)⟩ ?_
     rw[hd]
     exact h
   ·cases h
  ·rename_i hg _ _
   cases hc:c0B o with
   |true=>rw[hc]at h;cases h
   |false=>
    rw[hc]at h
    simp only[cond_false]at h
    split at h
    ·rename_i v hv
     exact key v none L ⟨hg, .inr (.inr ⟨hc,hv,rfl⟩)⟩ h
    ·cases h
  ·cases h
def B0L(F:Fr)(ops:Array Oper)(VI:List (SV×Option (SV×SV)))(L:LE)(H:a0o)(listed:Array Bool)(a:Act)(w:World):Prop:=
 listed.size=ops.size∧ ∃ρ,St F ρ (bif listed.getD 0 false then H++ [.pmap (esL VI 0 fun q=>listed.getD q false)]else H) a w∧
  (∀j o t,listed.getD j false=true→ops[j]?=some o→o.dst=some t→ ∃v,VI[j]?=some v∧ρ t=v.1)∧
  (∀t,(∀j o,ops[j]?=some o→listed.getD j false=true→o.dst≠some t)→ρ t=lk L t)∧
  (∀j v kv,listed.getD j false=true→VI[j]?=some (v,some kv)→listed.getD 0 false=true)
def x0N(ops:Array Oper)(listed:Array Bool):Nat:=((List.range ops.size).filter fun j=> !listed.getD j false).length
theorem g0F {listed:Array Bool} {i:Nat} (h:i<listed.size)(d:Bool):(listed.setIfInBounds i true).getD i d=true:=by
 simp[Array.getD,h]
theorem d0j {listed:Array Bool} {i j:Nat} (h:i<listed.size):(listed.setIfInBounds i true).getD j false=if j=i then true else listed.getD j false:=by
 by_cases hj:j=i
 ·subst hj;rw[if_pos rfl];exact g0F h false
 ·rw[if_neg hj];exact getD_set_ne false (Ne.symm hj)
theorem s0z {listed:Array Bool} {i:Nat} (h:i<listed.size):listed.getD i true=listed.getD i false:=by simp[Array.getD,h]
structure B0v (ops:Array Oper):Prop where
 before: ∀(j:Nat) (o:Oper),ops[j]?=some o→ ∀e∈o.after,e.on<j
 deps: ∀(j:Nat) (o:Oper) (j':Nat) (o':Oper) (t:Nat),ops[j]?=some o→ops[j']?=some o'→o'.dst=some t→Operand.tmp t∈o.op.operands→ ∃e∈o.after,Region.binds .any e=true∧e.on=j'
 apart: ∀(j:Nat) (o:Oper) (j':Nat) (o':Oper) (t:Nat),ops[j]?=some o→ops[j']?=some o'→o'.dst=some t→j≠j'→o.dst≠some t
theorem q0Z(h:o0c ops=true):B0v ops:=by
 unfold o0c at h
 have hj: ∀j o,ops[j]?=some o→j<ops.size:=fun j o ho=>(aj.1 ho).1
 have main: ∀j o,ops[j]?=some o→o.after.toList.all (fun e=>Nat.blt e.on j)=true∧ ∀j' o',ops[j']?=some o'→ ∀t,o'.dst=some t→(((x0f o).contains t=false∨(o.after.toList.any fun e=>Region.binds .any e&&Nat.beq e.on j')=true)∧(j=j'∨o.dst≠some t)):=by
  intro j o ho
  have h1:=List.all_eq_true.1 h j (bf.2 (hj j o ho))
  simp only[ho,ac]at h1
  refine⟨h1.1,fun j' o' ho' t ht=> ?_⟩
  have h2:=List.all_eq_true.1 h1.2 j' (bf.2 (hj j' o' ho'))
  simp only[ho',ht,ac,ba]at h2
  obtain⟨h3,h4⟩:=h2
  refine⟨h3.imp (fun e=>by simpa using e) id,h4.imp af fun e hd=> ?_⟩
  rw[hd]at e
  simp at e
 refine⟨fun j o ho e he=> ?_,fun j o j' o' t ho ho' ht hm=> ?_,fun j o j' o' t ho ho' ht hne=> ?_⟩
 ·have:=List.all_eq_true.1 (main j o ho).1 e (by simpa using he)
  exact bY (aq this)
 ·obtain⟨h1,_⟩:=(main j o ho).2 j' o' ho' t ht
  rcases h1 with h1|h1
  ·exfalso
   have:t∈x0f o:=by
    unfold x0f
    rw[List.mem_filterMap]
    exact⟨.tmp t,by simpa using hm,rfl⟩
   simp[this]at h1
  ·rw[List.any_eq_true]at h1
   obtain⟨e,he,h2⟩:=h1
   simp only[ac]at h2
   exact⟨e,by simpa using he,h2.1,af h2.2⟩
 ·exact((main j o ho).2 j' o' ho' t ht).2.resolve_left hne
theorem t0v {ops:Array Oper} {listed:Array Bool} {i:Nat} (hi:i<ops.size)(hs:listed.size=ops.size)(h:listed.getD i false=false):x0N ops (listed.setIfInBounds i true)<x0N ops listed:=by
 unfold x0N
 refine filter_lt (fun j=> !listed.getD j false) (fun j=> !(listed.setIfInBounds i true).getD j false) (fun x hx=> ?_) i (by rw[h];rfl) (by rw[g0F (by omega)];rfl) _ (bf.2 hi)
 rw[d0j (by omega)]at hx
 by_cases hxi:x=i
 ·rw[if_pos hxi]at hx;cases hx
 ·rw[if_neg hxi]at hx;exact hx
theorem K.mapLit {c:Code} (kt:Nat) {VI:List (SV×Option (SV×SV))} {es:List (SV×SV)} {L2:LE} {n:Nat} (h:l0S true c=true)(hm:P.follows .mixedOrders=true)(hn:H.length=n)
  (hlit:Go.Sy.mapLit P n kt (h0h c).toList 0 L=some VI) (hst:o0c (h0h c)=true) (h0:(match(h0h c)[0]? with|some o=>(match o.op with| .makeMap _ none=>true|_=>false)|none=>false)=true)
  (hpair:t0r P kt VI=true) (hes:(esL VI 0 fun _=>true)=es) (ts:List Nat) (hL:h0O ts (q0p (h0h c).toList VI L)=L2) (k:PJ F Q .normal L2 (H++ [.pmap es])):J F P c L H Q:=by
 cases c<;>first|cases h|skip
 rename_i id ops dr
 have hdr:dr=true:=by simpa [l0S]using h
 subst hdr
 change Go.Sy.mapLit P n kt ops.toList 0 L=some VI at hlit
 change o0c ops=true at hst
 change (match ops[0]? with|some o=>(match o.op with| .makeMap _ none=>true|_=>false)|none=>false)=true at h0
 change h0O ts (q0p ops.toList VI L)=L2 at hL
 subst hn
 intro hin a w hs
 simp only[d0e,List.all_eq_true]at hin
 obtain⟨hlen,hfact⟩:=t0t _ _ _ _ hlit
 have ms:=q0Z hst
 have hget: ∀(j:Nat) (o:Oper),ops[j]?=some o↔ops.toList[j]?=some o:=fun j o=>by rw[bZ]
 obtain⟨o0,ho0,tt0,hop0⟩: ∃o,ops[0]?=some o∧ ∃t,o.op= .makeMap t none:=by
  split at h0
  ·rename_i o ho
   split at h0
   ·rename_i tt hop;exact⟨o,ho,tt,hop⟩
   ·cases h0
  ·cases h0
 have hpos:0<ops.size:=(aj.1 ho0).1
 -- the slots behind all
 have hfin: ∀(j:Nat) (o:Oper) (t:Nat),ops[j]?=some o→o.dst=some t→ ∃v:SV×Option (SV×SV),VI[j]?=some v∧lk (q0p ops.toList VI L) t=v.1:=fun j o t ho ht=>by
  obtain⟨v,e,hv,_⟩:=hfact j o ((hget j o).1 ho)
  exact⟨(v,e),hv,v0U _ _ _ j o (v,e) ((hget j o).1 ho) ht hv fun j' o' ho' hne=>ms.apart j' o' j o t ((hget j' o').2 ho') ho ht hne⟩
 have hoth: ∀(t:Nat),(∀(j:Nat) (o:Oper),ops[j]?=some o→o.dst≠some t)→lk (q0p ops.toList VI L) t=lk L t:=fun t ht=>k0x _ _ _ fun o ho=>by
  obtain⟨j,hj⟩:=be.1 ho
  exact ht j o ((hget j o).2 hj)
 refine wp_region_any hm ?_
 have step: ∀fuel listed a w,x0N ops listed≤fuel→B0L F ops VI L H listed a w→wpAny P .any ops Q fuel listed a w:=by
  have done: ∀listed a w,Region.ready .any ops listed=[]→B0L F ops VI L H listed a w→Q .normal a w:=by
   rintro listed a w hr ⟨hsz,ρ,hst',h1,h2,_⟩
   have hall: ∀j,j<ops.size→listed.getD j false=true:=by
    intro j
    induction j using Nat.strongRecOn with
    |_ j ih=>
     intro hj
     cases hl:listed.getD j false with
     |true=>rfl
     |false=>
      exfalso
      have:j∈Region.ready .any ops listed:=mem_ready.2 ⟨by rw[s0z (by omega)];exact hl,ops[j],aW hj,fun e he _=>by
       have:=ms.before j ops[j] (aW hj) e he
       exact ih e.on this (by omega)⟩
      rw[hr]at this;cases this
   have hρ:ρ=b0s (q0p ops.toList VI L):=by
    funext t
    by_cases ht: ∃(j:Nat) (o:Oper),ops[j]?=some o∧o.dst=some t
    ·obtain⟨j,o,ho,hd⟩:=ht
     obtain⟨v,hv,hv2⟩:=hfin j o t ho hd
     obtain⟨v',hv',hv3⟩:=h1 j o t (hall j (aj.1 ho).1) ho hd
     rw[hv]at hv';cases hv'
     rw[hv3];exact hv2.symm
    ·rw[h2 t fun j o ho _ hd=>ht ⟨j,o,ho,hd⟩]
     exact(hoth t fun j o ho hd=>ht ⟨j,o,ho,hd⟩).symm
   rw[hall 0 hpos,cond_true,hρ]at hst'
   have hee:(esL VI 0 fun q=>listed.getD q false)=es:=by
    rw[←hes]
    exact t0G VI 0 _ _ fun q _ hq=>hall q (by rw[hlen]at hq;simpa using hq)
   rw[hee]at hst'
   refine k a w ?_
   rw[←hL]
   exact Sees.keep (L:=q0p ops.toList VI L) hst' (i0G ts _)
  intro fuel
  induction fuel with
  |zero=>
   intro listed a w hle hI
   have hr:Region.ready .any ops listed=[]:=by
    cases hrr:Region.ready .any ops listed with
    |nil=>rfl
    |cons x xs=>
     exfalso
     have hx:x∈Region.ready .any ops listed:=by rw[hrr];simp
     obtain⟨hx1,o,ho,_⟩:=mem_ready.1 hx
     have hxl:=(aj.1 ho).1
     have hx2:listed.getD x false=false:=by rw[←s0z (by rw[hI.1];exact hxl)];exact hx1
     have:=t0v hxl hI.1 hx2
     omega
   exact⟨hr,done listed a w hr hI⟩
  |succ fuel ih=>
   intro listed a w hle hI
   refine⟨fun hr=>done listed a w hr hI,fun i hi=> ?_⟩
   obtain⟨hi1,o,ho,hdep⟩:=mem_ready.1 hi
   obtain⟨hsz,ρ,hst',h1,h2,h3⟩:=hI
   have hil:i<ops.size:=(aj.1 ho).1
   have hil':i<listed.size:=by omega
   have hiu:listed.getD i false=false:=by rw[←s0z hil'];exact hi1
   obtain⟨v,e,hVi,L',⟨hg,hf⟩,hagree⟩:=hfact i o ((hget i o).1 ho)
   rw[aU]at hf
   have hbo:Oper.inB F.n ops o=true:=hin o (aS.2 (Array.mem_of_getElem? ho))
   -- its operands are what they are in the order of the text
   have hval: ∀x∈o.op.operands,a0Y ρ x=a0Y (b0s L') x:=by
    intro x hx
    cases x with
    |tmp t=>
     have hL':lk (q0p ops.toList VI L) t=lk L' t:=hagree t fun q' o' hq ho' hd=>by
      obtain⟨ed,he,_,hon⟩:=ms.deps i o q' o' t ho ((hget q' o').2 ho') hd hx
      have:=ms.before i o ho ed he
      omega
     show some (ρ t)=some (lk L' t)
     rw[←hL']
     by_cases ht: ∃(j:Nat) (o:Oper),ops[j]?=some o∧o.dst=some t
     ·obtain⟨j,oj,hoj,hd⟩:=ht
      obtain⟨ed,he,hb,hon⟩:=ms.deps i o j oj t ho hoj hd hx
      have hlj:=hdep ed he hb
      rw[hon]at hlj
      obtain⟨vj,hvj,hρ⟩:=h1 j oj t hlj hoj hd
      obtain⟨v',hv',hv2⟩:=hfin j oj t hoj hd
      rw[hvj]at hv';cases hv'
      rw[hρ,hv2]
     ·rw[h2 t fun j o ho _ hd=>ht ⟨j,o,ho,hd⟩,hoth t fun j o ho hd=>ht ⟨j,o,ho,hd⟩]
    |const c=>rfl
    |global g=>rfl
    |func f=>rfl
   have hlt:=t0v hil hsz hiu
   -- what is known behind it
   have next: ∀a' w',St F (k0U ρ o.dst v) (bif(listed.setIfInBounds i true).getD 0 false then H++ [.pmap (esL VI 0 fun q=>(listed.setIfInBounds i true).getD q false)]else H) a' w'→
     (e=none∨listed.getD 0 false=true)→wpAny P .any ops Q fuel (listed.setIfInBounds i true) a' w':=fun a' w' hst2 hent=>by
    refine ih _ a' w' (by omega) ⟨by simpa using hsz,k0U ρ o.dst v,hst2,fun j oj t hj hoj hd=> ?_,fun t ht=> ?_,fun j v' kv hj hv'=> ?_⟩
    ·rw[d0j hil']at hj
     by_cases hji:j=i
     ·subst hji
      rw[ho]at hoj;cases hoj
      exact⟨(v,e),hVi,by rw[hd];simp[k0U,upd]⟩
     ·rw[if_neg hji]at hj
      obtain⟨vj,hvj,hρ⟩:=h1 j oj t hj hoj hd
      refine⟨vj,hvj, ?_⟩
      have hne:=ms.apart i o j oj t ho hoj hd (fun e=>hji e.symm)
      cases hod:o.dst with
      |none=>exact hρ
      |some d=>
       simp only[k0U,upd]
       rw[if_neg (fun e=>hne (by rw[hod,e]))]
       exact hρ
    ·have hne:o.dst≠some t:=ht i o ho (g0F hil' false)
     have:=h2 t fun j oj hoj hj=>ht j oj hoj (by rw[d0j hil'];split<;>simp[hj])
     cases hod:o.dst with
     |none=>exact this
     |some d=>
      simp only[k0U,upd]
      rw[if_neg (fun e=>hne (by rw[hod,e]))]
      exact this
    ·rw[d0j hil']
     split
     ·rfl
     ·rw[d0j hil']at hj
      by_cases hji:j=i
      ·subst hji
       rw[hVi]at hv';cases hv'
       rcases hent with h|h
       ·cases h
       ·exact h
      ·rw[if_neg hji]at hj
       exact h3 j v' kv hj hv'
   unfold wpOp
   simp only[ho]
   have hgs:c0P ops ρ o=some true:=by unfold c0P;rw[hg]
   rcases hf with⟨hi0,⟨tt,hop⟩,hv,he⟩|⟨tt,x,kk,u,et,ks,vs,hop,hu,hx,hk,hu2,hd,hkey,⟨ed,hed,hb0,hon0⟩,hv,he⟩|⟨hc,hv,he⟩
   ·-- it makes the map
    subst hi0
    subst hv;subst he
    rw[hiu,cond_false]at hst'
    have hst0:=hst'
    obtain⟨hdef,K,D,hinv⟩:=hst'
    rw[c0h hinv.slots (Oper.inB_guard hbo) hgs,if_pos rfl]
    refine .inl ?_
    have hev:a0Z P o ρ H H.length=some ⟨.mp H.length,[],[(H.length, .map [])]⟩∨True:= .inr trivial
    have hmk:=p0c (P:=P) (a:=a) (o:=o) (t:=tt) hinv.hinv hop (idx:=H.length) (.inl rfl)
    obtain⟨r,w',hrun,g⟩:=hmk
    unfold Oper.wp
    have hset:g0w H H.length (.map [])=H++ [.map []]:=by unfold g0w;rw[if_neg (by omega)]
    rw[hset]at g
    have hnil:(esL VI 0 fun q=>(listed.setIfInBounds 0 true).getD q false)=[]:=w0v VI 0 _ fun q hq v' e' hv' _=>by
     rw[d0j hil']at hq
     by_cases hq0:q=0
     ·subst hq0;rw[bN,hVi]at hv';cases hv';rfl
     ·rw[if_neg hq0]at hq
      cases e' with
      |none=>rfl
      |some kv=>
       exfalso
       have:=h3 q v' kv hq (by simpa using hv')
       rw[hiu]at this;cases this
    have fin: ∀a',St F (k0U ρ o.dst (.mp H.length)) (H++ [.map []]) a' w'→wpAny P .any ops Q fuel (listed.setIfInBounds 0 true) a' w':=fun a' hs2=>by
     refine next a' w' ?_ (.inl rfl)
     rw[g0F hil' false,cond_true,hnil]
     have:=hs2.closeMap (i:=H.length) (es:=[]) (es':=[]) (by simp) (.refl _)
     simpa using this
    rcases hrun with hrun|⟨hrun,hr⟩
    ·rw[hrun]
     exact fin _ ⟨by rw[b0D];exact hdef,hinv.step g o.dst⟩
    ·rw[hrun];subst hr
     exact fin _ ⟨by rw[b0D];exact hdef,hinv.step g o.dst⟩
   ·-- it lays an entry
    subst hv;subst he
    have hl0:listed.getD 0 false=true:=by have:=hdep ed hed hb0;rw[hon0]at this;exact this
    have hi0:i≠0:=fun e=>by subst e;rw[hiu]at hl0;cases hl0
    rw[hl0,cond_true]at hst'
    obtain⟨es',hp,hst2⟩:=hst'.openMap (i:=H.length) (es:=esL VI 0 fun q=>listed.getD q false) (by rw[cm (ak _),Nat.sub_self];rfl)
    have hset2:(H++ [Ent.pmap (esL VI 0 fun q=>listed.getD q false)]).set H.length (.map es')=H++ [.map es']:=by simp
    rw[hset2]at hst2
    obtain⟨hdef,K,D,hinv⟩:=hst2
    rw[c0h hinv.slots (Oper.inB_guard hbo) hgs,if_pos rfl]
    refine .inl ?_
    have hxo: ∀y,y=x∨y=kk∨y=u→y∈o.op.operands:=fun y hy=>by rw[hop];rcases hy with rfl|rfl|rfl<;>simp[Op.operands]
    have hfn:k0J P kt es' ks=some none:=w0s es' fun kv hkv=>by
     obtain⟨q,vq,_,hq,hvq⟩:=w0w VI 0 _ kv (hp.mem_iff.1 hkv)
     rw[bN]at hvq
     have hqi:q≠i:=fun e=>by subst e;rw[hiu]at hq;cases hq
     have hpp:=List.all_eq_true.1 (List.all_eq_true.1 hpair i (bf.2 (ab.1 hVi).1)) q (bf.2 (ab.1 hvq).1)
     simp only[hVi,hvq,ba]at hpp
     rcases hpp with hpp|hpp
     ·exact absurd (af hpp).symm hqi
     ·unfold A0y at hpp
      split at hpp
      ·assumption
      ·cases hpp
    have hev:a0Z P o ρ (H++ [.map es']) (H++ [Ent.map es']).length=some ⟨.undef,[H.length],[(H.length, .map (es'++ [(ks,vs)]))]⟩:=by
     unfold a0Z a0k a0w
     simp only[hop]
     unfold h0P
     rw[hu,hval x (hxo x (.inl rfl)),hval kk (hxo kk (.inr (.inl rfl))),hval u (hxo u (.inr (.inr rfl))),hx,hk,hu2]
     simp only[cm (ak _),Nat.sub_self,bW]
     rw[if_pos hkey,hfn]
    refine v0C hinv hdef (Oper.inB_op hbo) (.inl rfl) hev fun a' w' hst3=> ?_
    refine next a' w' ?_ (.inr hl0)
    have ha:b0M (H++ [Ent.map es']) [(H.length, .map (es'++ [(ks,vs)]))]=H++ [.map (es'++ [(ks,vs)])]:=by
     simp[b0M,g0w]
    rw[ha]at hst3
    rw[d0j hil',if_neg (fun e=>hi0 e.symm),hl0,cond_true]
    have hpp:List.Perm (es'++ [(ks,vs)]) (esL VI 0 fun q=>(listed.setIfInBounds i true).getD q false):=by
     have h3:=w0u VI 0 i (fun q=>listed.getD q false) .undef (some (ks,vs)) hiu (co _) (by rw[bN];exact hVi)
     have h4:(esL VI 0 fun q=>(listed.setIfInBounds i true).getD q false)=esL VI 0 fun q=>if q=i then true else listed.getD q false:=m0a VI 0 _ _ fun q _=>d0j hil'
     rw[h4]
     exact(hp.append_right _).trans (by simpa using h3)
    have:=hst3.closeMap (i:=H.length) (es:=esL VI 0 fun q=>(listed.setIfInBounds i true).getD q false) (by simp) hpp
    simpa using this
   ·-- something else
    subst he
    have hes2:(esL VI 0 fun q=>(listed.setIfInBounds i true).getD q false)=esL VI 0 fun q=>listed.getD q false:=by
     have h4:(esL VI 0 fun q=>(listed.setIfInBounds i true).getD q false)=esL VI 0 fun q=>if q=i then true else listed.getD q false:=m0a VI 0 _ _ fun q _=>d0j hil'
     rw[h4]
     exact t0F VI 0 i _ v (by rw[bN];exact hVi) (co _)
    have hi0:i≠0:=fun e=>by
     subst e
     rw[ho0]at ho;cases ho
     unfold a0k at hv
     rw[hop0]at hv
     cases hv
    have hv2:a0k P o ρ=some v:=by rw[k0V hval];exact hv
    obtain⟨hdef,K,D,hinv⟩:=hst'
    rw[c0h hinv.slots (Oper.inB_guard hbo) hgs,if_pos rfl]
    refine .inl ?_
    refine v0C hinv hdef (Oper.inB_op hbo) (.inl rfl) (ef:=⟨v,[],[]⟩) (by unfold a0Z;rw[hv2]) fun a' w' hst3=> ?_
    refine next a' w' ?_ (.inl rfl)
    rw[hes2,d0j hil',if_neg (fun e=>hi0 e.symm)]
    exact hst3
 have hfalse: ∀j,(Array.replicate ops.size false).getD j false=false:=fun j=>by
  simp only[Array.getD]
  split
  ·simp
  ·rfl
 refine step ops.size _ a _ (aV (List.length_filter_le _ _) (by simp)) ⟨by simp,b0s L, ?_,fun j o t hj=> ?_,fun t _=>rfl,fun j v kv hj=> ?_⟩
 ·rw[hfalse,cond_false]
  obtain⟨hd,K,D,hi⟩:=hs
  exact⟨hd,K,D,⟨hi.slots.mono fun _ _=>World.drew_rep,hi.hinv.drew,hi.grow.trans (Grow.drew _ _ _ _)⟩⟩
 ·rw[hfalse]at hj;cases hj
 ·rw[hfalse]at hj;cases hj
def B0n(r:Option (List (SV×Option (SV×SV)))):List (SV×Option (SV×SV)):=match r with|some x=>x|none=> []
theorem K.mapLitC {c:Code} (kt:Nat) {es:List (SV×SV)} {L2:LE} {n:Nat} (h:l0S true c=true)(hm:P.follows .mixedOrders=true)(hn:H.length=n)
  (hlit:(Go.Sy.mapLit P n kt (h0h c).toList 0 L).isSome=true) (hst:o0c (h0h c)=true) (h0:(match(h0h c)[0]? with|some o=>(match o.op with| .makeMap _ none=>true|_=>false)|none=>false)=true)
  (hpair:t0r P kt (B0n (Go.Sy.mapLit P n kt (h0h c).toList 0 L))=true) (hes:(esL (B0n (Go.Sy.mapLit P n kt (h0h c).toList 0 L)) 0 fun _=>true)=es) (ts:List Nat) (hL:h0O ts (q0p (h0h c).toList (B0n (Go.Sy.mapLit P n kt (h0h c).toList 0 L)) L)=L2)
  (k:PJ F Q .normal L2 (H++ [.pmap es])):J F P c L H Q:=by
 cases hr:Go.Sy.mapLit P n kt (h0h c).toList 0 L with
 |none=>rw[hr]at hlit;cases hlit
 |some VI=>
  rw[hr]at hpair hes hL
  exact K.mapLit kt h hm hn hr hst h0 hpair hes ts hL k
theorem p0D {K V:Type} {ek:K→SV} {ev:V→SV} (h1: ∀f a,SV.rn f (ek a)=ek a)(h2: ∀f b,SV.rn f (ev b)=ev b)(f:Nat→Nat)(ms:List (K×V)):Ent.rn f (.pmap (c0a ek ev ms))= .pmap (c0a ek ev ms):=by
 simp only[Ent.rn,c0a,bT]
 congr 1
 exact bV fun p _=>by simp[h1,h2]
theorem u0o {K V:Type} {ek:K→SV} {ev:V→SV} (h1: ∀m a,SV.refs m (ek a)=true)(h2: ∀m b,SV.refs m (ev b)=true)(m:Nat)(ms:List (K×V)):Ent.refs m (.pmap (c0a ek ev ms))=true:=by
 simp[Ent.refs,c0a,h1,h2]
end
end Go.Sy
