/-
 The second shadow machine, part 16: from what a row reads to shadow values, and from a law's contract to its row.
-/
import Derived.Test.YtcapcgbamehojaaGreatDoorSyO
import Derived.ProofKit
import Derived.SizedLaws
import Derived.OpenShut
namespace Go.Sy
open Go Go.RowKit Go.ChangeShapes Go.WideShapes Go.ChangeAt
set_option linter.unusedSimpArgs false
set_option linter.unusedVariables false
set_option linter.unusedSectionVars false
variable [Inhabited GT]
def e0s(P:Program) {H:Type} :Nat→TypeId→DataW H→List SV→Prop
 |0,_,_,_=>False
 |n+1,t,d,cs=>match P.underlying t with
  |some .bool=> ∃b,d= .lit (.bool b)∧cs=[.bool b]
  |some (.int k)=> ∃x,d= .lit (.int k x)∧cs=[.int k x]∧(Lit.int k x).wf=true
  |some .string=> ∃l,d= .lit (.string l)∧cs=[.str l]
  |some (.slice e)=>(d= .nil∧cs=[.lst 0 (P.cellsOf e) []])∨ ∃(elems rest:List (DataW H)) (xs:List (List SV)),d= .slice elems rest∧cs=[.lst xs.length (P.cellsOf e) xs.flatten]∧xs.length=elems.length∧
    (∀x∈xs,x.length=P.cellsOf e)∧ ∀(i:Nat) y x,elems[i]?=some y→xs[i]?=some x→e0s P n e y x
  |some (.struct fs)=>cs.length=P.cellsOf t∧ ∃parts:List (DataW H),d= .agg parts∧parts.length=fs.size∧ ∀(i:Nat) (f:Field) p,fs[i]?=some f→parts[i]?=some p→e0s P n f.type p ((cs.drop f.offset).take (P.cellsOf f.type))
  |some (.array m e)=>cs.length=P.cellsOf t∧ ∃parts:List (DataW H),d= .agg parts∧parts.length=m∧ ∀(i:Nat) p,parts[i]?=some p→e0s P n e p ((cs.drop (i*P.cellsOf e)).take (P.cellsOf e))
  |_=>False
def i0Y(P:Program)(total:Nat):Nat→List Field→Bool
 |off,[]=>off==total
 |off,f::r=>(f.offset==off)&&i0Y P total (off+P.cellsOf f.type) r
def j0H(P:Program):Nat→TypeId→Bool
 |0,_=>false
 |n+1,t=>match P.underlying t with
  |some .bool=>true
  |some (.int _)=>true
  |some .string=>true
  |some (.slice e)=>decide (0<P.cellsOf e)&&j0H P n e
  |some (.struct fs)=>i0Y P (P.cellsOf t) 0 fs.toList&&fs.toList.all fun f=>j0H P n f.type
  |some (.array m e)=>(P.cellsOf t==m*P.cellsOf e)&&j0H P n e
  |_=>false
def KW(w:World):Nat→Nat:=fun b=>match w.heap[b]? with
 |some (.cells c _ _)=>c.size
 |_=>0
theorem B0w(w:World)(b:Nat)(h:KW w b≠0):b<w.heap.size:=by
 unfold KW at h
 split at h
 ·rename_i c e f hb;exact(aj.1 hb).1
 ·exact absurd rfl h
theorem A0c {w:World} {b off:Nat} {v:Value} (h:w.cell? ⟨b,off,none⟩=some v):off<KW w b:=by
 unfold World.cell? at h
 unfold KW
 simp only at h
 split at h
 ·rename_i c e f hb
  rw[hb]
  simp at h
  exact(aj.1 h).1
 ·cases h
theorem s0G {α:Type} {Q:Nat→α→Prop} : ∀(n:Nat),(∀i,i<n→ ∃x,Q i x)→ ∃l:List α,l.length=n∧ ∀(i:Nat) x,l[i]?=some x→Q i x:=by
 intro n
 induction n with
 |zero=>intro _;exact⟨[],rfl,fun i x h=>by simp at h⟩
 |succ n ih=>
  intro h
  obtain⟨l,hl,hq⟩:=ih fun i hi=>h i (by omega)
  obtain⟨x,hx⟩:=h n (by omega)
  refine⟨l++ [x],by simp[hl],fun i y hy=> ?_⟩
  rw[aD]at hy
  split at hy
  ·exact hq i y hy
  ·rename_i hi
   have:i-l.length=0:=by
    have:=(ab.1 hy).1
    simp at this;omega
   have hin:i=n:=by omega
   rw[this]at hy
   simp at hy
   subst hy;subst hin;exact hx
theorem l0X {α:Type} {k:Nat} : ∀(l:List (List α)),(∀x∈l,x.length=k)→l.flatten.length=l.length*k:=by
 intro l
 induction l with
 |nil=>intro _;simp
 |cons x l ih=>
  intro h
  rw[List.flatten_cons,ag,h x (ar ..),ih fun y hy=>h y (ao _ hy),aJ,bH]
  omega
theorem i0I {α:Type} {k:Nat} (hk:0<k): ∀(l:List (List α)),(∀x∈l,x.length=k)→ ∀j,l.flatten[j]?=(l[j/k]?).bind fun x=>x[j%k]?:=by
 intro l
 induction l with
 |nil=>intro _ j;simp
 |cons x l ih=>
  intro h j
  have hx:=h x (ar ..)
  rw[List.flatten_cons,aD]
  split
  ·rename_i hj
   rw[hx]at hj
   rw[Nat.div_eq_of_lt hj,Nat.mod_eq_of_lt hj]
   rfl
  ·rename_i hj
   rw[hx]at hj⊢
   rw[ih (fun y hy=>h y (ao _ hy))]
   have h1:j/k=(j-k)/k+1:=by
    have:=Nat.div_eq_sub_div hk (show k≤j by omega)
    exact this
   have h2:j%k=(j-k)%k:=Nat.mod_eq_sub_mod (by omega)
   rw[h1,h2]
   simp
theorem m0Q {P:Program} {w:World} {K:Nat→Nat} {D:DM} {cs:List Value} {Q:Nat→List SV→Prop} : ∀(fl:List Field) (off i0:Nat),i0Y P cs.length off fl=true→
  (∀(i:Nat) f,fl[i]?=some f→ ∃ss,CR w K D ((cs.drop f.offset).take (P.cellsOf f.type)) ss∧ss.length=P.cellsOf f.type∧b0x ss=true∧Q (i0+i) ss)→
  ∃ss,CR w K D (cs.drop off) ss∧b0x ss=true∧ ∀(i:Nat) f,fl[i]?=some f→off≤f.offset∧Q (i0+i) ((ss.drop (f.offset-off)).take (P.cellsOf f.type)):=by
 intro fl
 induction fl with
 |nil=>
  intro off i0 h _
  simp only[i0Y,beq_iff_eq]at h
  subst h
  exact⟨[],by simpa using CR.nil,rfl,fun i f hf=>by simp at hf⟩
 |cons f r ih=>
  intro off i0 h hq
  simp only[i0Y,ac,beq_iff_eq]at h
  obtain⟨h1,h2⟩:=h
  subst h1
  obtain⟨s1,c1,l1,p1,q1⟩:=hq 0 f rfl
  obtain⟨s2,c2,p2,q2⟩:=ih (f.offset+P.cellsOf f.type) (i0+1) h2 (fun i g hg=>by
   obtain⟨ss,a,b,pp,c⟩:=hq (i+1) g (by simpa using hg)
   exact⟨ss,a,b,pp,by rw[show i0+1+i=i0+(i+1)from by omega];exact c⟩)
  refine⟨s1++s2, ?_,by simp only[b0x,aN,ac]at p1 p2⊢;exact⟨p1,p2⟩,fun i g hg=> ?_⟩
  ·have:=c1.append c2
   rw[←List.drop_drop,ca]at this
   exact this
  ·cases i with
   |zero=>
    simp at hg;subst hg
    refine⟨ak _, ?_⟩
    rw[Nat.sub_self,List.drop_zero,←l1,List.take_left]
    exact q1
   |succ i=>
    obtain⟨p1,p2⟩:=q2 i g (by simpa using hg)
    refine⟨by omega, ?_⟩
    have hd:(s1++s2).drop (g.offset-f.offset)=s2.drop (g.offset-(f.offset+P.cellsOf f.type)):=by
     rw[cz,aY (by omega),bu]
     congr 1
     omega
    rw[hd,show i0+(i+1)=i0+1+i from by omega]
    exact p2
theorem r0z {P:Program} {total:Nat} : ∀(fl:List Field) (off:Nat),i0Y P total off fl=true→off≤total∧ ∀f∈fl,f.offset+P.cellsOf f.type≤total:=by
 intro fl
 induction fl with
 |nil=>intro off h;simp only[i0Y,beq_iff_eq]at h;exact⟨by omega,fun f hf=>by cases hf⟩
 |cons f r ih=>
  intro off h
  simp only[i0Y,ac,beq_iff_eq]at h
  obtain⟨h1,h2⟩:=h
  obtain⟨i1,i2⟩:=ih _ h2
  refine⟨by omega,fun g hg=> ?_⟩
  rcases aG.1 hg with rfl|hg
  ·omega
  ·exact i2 g hg
def f0r (e k i : Nat) : Field := { name := "", type := e, offset := i * k, embedded := false, tag := "", pkgPath := "", byteOffset := 0 }
theorem s0N {P:Program} {e:TypeId} : ∀(m i0:Nat),i0Y P ((i0+m)*P.cellsOf e) (i0*P.cellsOf e) ((List.range' i0 m).map (f0r e (P.cellsOf e)))=true:=by
 intro m
 induction m with
 |zero=>intro i0;simp[i0Y]
 |succ m ih=>
  intro i0
  simp only[List.range'_succ,ah,i0Y,f0r,beq_self_eq_true,bI]
  have:=ih (i0+1)
  rw[show i0*P.cellsOf e+P.cellsOf e=(i0+1)*P.cellsOf e from(bH _ _).symm,show i0+(m+1)=i0+1+m from by omega]
  exact this
section
variable {H : Type} {enc : TypeId × Value → H} {P : Program} {w : World}
theorem p0y: ∀(n:Nat) (t:TypeId) (fuel:Nat) (cs:List Value) (x:DataW H×List MemPlace),j0H P n t=true→DataW.trod enc P w 0 (fun _=>true) true fuel t cs=some x→
  ∃ss,CR w (KW w) (fun _=>none) cs ss∧b0x ss=true∧e0s P n t x.1 ss:=by
 intro n
 induction n with
 |zero=>intro t fuel cs x hp _;simp[j0H]at hp
 |succ n ih=>
  intro t fuel cs x hp h
  unfold j0H at hp
  have single: ∀(v:Value) (s:SV),cs=[v]→Rep w (KW w) (fun _=>none) v s→s.plain=true→CR w (KW w) (fun _=>none) cs [s]:=by
   intro v s hc hr h1
   subst hc
   exact⟨rfl,fun c hm=>by simp at hm;subst hm;exact q0N hr h1,fun j v c hv hc=>by
    cases j with
    |zero=>simp at hv hc;subst hv;subst hc;exact hr
    |succ j=>simp at hv⟩
  split at hp
  ·rename_i hu
   obtain⟨b,hcs,hx⟩:=DataW.trod_bool hu h
   exact⟨[.bool b],single _ _ hcs (.bool b) rfl,rfl,by unfold e0s;rw[hu,hx];exact⟨b,rfl,rfl⟩⟩
  ·rename_i k hu
   obtain⟨z,hcs,hx,hw⟩:=DataW.trod_int hu h
   exact⟨[.int k z],single _ _ hcs (.int k z) rfl,rfl,by unfold e0s;rw[hu,hx];exact⟨z,rfl,rfl,hw⟩⟩
  ·rename_i hu
   obtain⟨s,hcs,hx,_⟩:=DataW.trod_string hu h
   exact⟨[.str s.data.toList],single _ _ hcs (.str s) rfl,rfl,by unfold e0s;rw[hu,hx];exact⟨_,rfl,rfl⟩⟩
  ·rename_i e hu
   simp only[ac,decide_eq_true_eq]at hp
   obtain⟨hk,hpe⟩:=hp
   rcases DataW.trod_slice hu h with⟨hcs,hx⟩|⟨a,len,cap,elems,rest,m,_,hcs,hx,hb,hl,hm,hlen,hel,hsp,hns⟩
   ·exact⟨[.lst 0 (P.cellsOf e) []],single _ _ hcs (.emp _ _ _) rfl,rfl,by unfold e0s;rw[hu,hx];exact .inl ⟨rfl,rfl⟩⟩
   ·-- each element by itself
    have each: ∀i,i<len→ ∃p:List Value×List SV,p.1.length=P.cellsOf e∧(CR w (KW w) (fun _=>none) p.1 p.2∧b0x p.2=true)∧(∀r,r<P.cellsOf e→w.cell? ((a.add (i*P.cellsOf e)).add r)=p.1[r]?)∧
      ∀y,elems[i]?=some y→e0s P n e y.1 p.2:=by
     intro i hi
     have h1:=hel i hi
     have hil:i<elems.length:=by omega
     rw[ae hil]at h1
     simp only[Option.bind_eq_some_iff]at h1
     obtain⟨vs,hvs,htr⟩:=h1
     obtain⟨_,h3,h4⟩:=World.cells?_some hvs
     obtain⟨ss,hcr,hpl,hsh⟩:=ih e m vs _ hpe htr
     exact⟨(vs,ss),h3,⟨hcr,hpl⟩,h4,fun y hy=>by rw[ae hil]at hy;cases hy;exact hsh⟩
    obtain⟨l,hll,hlq⟩:=s0G len each
    have hget: ∀i,i<len→ ∃p,l[i]?=some p:=fun i hi=>⟨l[i]'(by omega),ae (by omega)⟩
    have hxs1: ∀x∈l.map (·.1),x.length=P.cellsOf e:=by
     intro x hx
     obtain⟨p,hp,rfl⟩:=aK.1 hx
     obtain⟨i,hi⟩:=be.1 hp
     exact(hlq i p hi).1
    have hxs2: ∀x∈l.map (·.2),x.length=P.cellsOf e:=by
     intro x hx
     obtain⟨p,hp,rfl⟩:=aK.1 hx
     obtain⟨i,hi⟩:=be.1 hp
     rw[(hlq i p hi).2.1.1.len];exact(hlq i p hi).1
    have hshow:e0s P (n+1) t x.1 [.lst len (P.cellsOf e) (l.map (·.2)).flatten]:=by
     unfold e0s
     rw[hu,hx]
     refine .inr ⟨elems.map (·.1),rest.map (·.1),l.map (·.2),rfl,by rw[cq,hll],by simp[hll,hlen],hxs2,fun i y x hy hxx=> ?_⟩
     rw[am]at hy hxx
     cases hp:l[i]? with
     |none=>rw[hp]at hxx;cases hxx
     |some p=>
      rw[hp]at hxx;cases hxx
      cases he:elems[i]? with
      |none=>rw[he]at hy;cases hy
      |some y'=>rw[he]at hy;cases hy;exact(hlq i p hp).2.2.2 y' he
    refine⟨_,single _ _ hcs ?_ rfl,rfl,hshow⟩
    by_cases h0:len=0
    ·subst h0
     have:l=[]:=al hll
     subst this
     exact .emp _ _ _
    ·obtain⟨b,off,spot⟩:=a
     have hcell: ∀i r,i<len→r<P.cellsOf e→ ∃p v,l[i]?=some p∧p.1[r]?=some v∧w.cell? (((⟨b,off,spot⟩:Addr).add (i*P.cellsOf e)).add r)=some v:=by
      intro i r hi hr
      obtain⟨p,hp⟩:=hget i hi
      obtain⟨q1,q2,q3,q4⟩:=hlq i p hp
      have hrl:r<p.1.length:=by omega
      exact⟨p,p.1[r],hp,ae hrl,by rw[q3 r hr,ae hrl]⟩
     have hspot:spot=none:=by
      obtain⟨p,v,_,_,hc⟩:=hcell 0 0 (by omega) hk
      have h1:((⟨b,off,spot⟩:Addr).add (0*P.cellsOf e)).add 0=⟨b,off,spot⟩:=by simp[Addr.add]
      rw[h1]at hc
      have:=World.cell?_spot hc
      simpa using this
     subst hspot
     have hflat1:(l.map (·.1)).flatten.length=len*P.cellsOf e:=by rw[l0X _ hxs1];simp[hll]
     have hflat2:(l.map (·.2)).flatten.length=len*P.cellsOf e:=by rw[l0X _ hxs2];simp[hll]
     have hmem: ∀j v,(l.map (·.1)).flatten[j]?=some v→w.cell? ⟨b,off+j,none⟩=some v:=by
      intro j v hj
      have hjl:=(ab.1 hj).1
      rw[hflat1]at hjl
      have hi:j/P.cellsOf e<len:=Nat.div_lt_of_lt_mul (by rw[Nat.mul_comm];exact hjl)
      have hr:j%P.cellsOf e<P.cellsOf e:=Nat.mod_lt _ hk
      obtain⟨p,u,hp,hu',hc⟩:=hcell _ _ hi hr
      rw[i0I hk _ hxs1,am,hp]at hj
      simp only[aI,aa]at hj
      rw[hu']at hj;cases hj
      rw[add_lit,add_lit]at hc
      have hjj:off+j/P.cellsOf e*P.cellsOf e+j%P.cellsOf e=off+j:=by
       have:=Nat.div_add_mod j (P.cellsOf e)
       rw[Nat.mul_comm]at this;omega
      rw[hjj]at hc
      exact hc
     refine .lst (P.cellsOf e) b off len cap (l.map (·.1)).flatten _ hk hflat1 (by rw[hflat2,hflat1]) hl hmem ?_ (fun c hc=> ?_) (List.all_eq_true.2 fun c hc=> ?_) (fun j v c hv hc=> ?_)
     ·rw[hflat1]
      have hpos:0<len*P.cellsOf e:=Nat.mul_pos (by omega) hk
      have hlast:len*P.cellsOf e-1<(l.map (·.1)).flatten.length:=by rw[hflat1];omega
      have:=A0c (hmem _ _ (ae hlast))
      omega
     ·obtain⟨x,hx,hcx⟩:=List.mem_flatten.1 hc
      obtain⟨p,hp,rfl⟩:=aK.1 hx
      obtain⟨i,hi⟩:=be.1 hp
      exact(hlq i p hi).2.1.1.one c hcx
     ·obtain⟨x,hx,hcx⟩:=List.mem_flatten.1 hc
      obtain⟨p,hp,rfl⟩:=aK.1 hx
      obtain⟨i,hi⟩:=be.1 hp
      exact List.all_eq_true.1 (hlq i p hi).2.1.2 c hcx
     ·rw[i0I hk _ hxs1,am]at hv
      rw[i0I hk _ hxs2,am]at hc
      cases hp:l[j/P.cellsOf e]? with
      |none=>rw[hp]at hv;cases hv
      |some p=>
       rw[hp]at hv hc
       simp only[aI,aa]at hv hc
       exact(hlq _ p hp).2.1.1.rep _ v c hv hc
  ·rename_i fs hu
   simp only[ac,List.all_eq_true]at hp
   obtain⟨hct,hpf⟩:=hp
   obtain⟨xs,m,_,hx,hcl,hxl,hfs⟩:=DataW.trod_struct hu h
   rw[←hcl]at hct
   obtain⟨ss,hcr,hpl,hq⟩:=m0Q (w:=w) (K:=KW w) (D:=fun _=>none) (Q:=fun j ss=> ∀f p,fs.toList[j]?=some f→xs[j]?=some p→e0s P n f.type p.1 ss) fs.toList 0 0 hct (fun i f hf=>by
    have hf':fs[i]?=some f:=by simpa using hf
    have hil:i<xs.length:=by rw[hxl];exact(aj.1 hf').1
    have htr:=hfs i f hf'
    rw[ae hil]at htr
    obtain⟨ss,h1,hp1,h2⟩:=ih f.type m _ _ (hpf f (aF hf)) htr
    refine⟨ss,h1, ?_,hp1,fun g p hg hpp=> ?_⟩
    ·have:=(r0z _ _ hct).2 f (aF hf)
     rw[h1.len,aH,aO];omega
    ·rw[aU]at hg hpp
     rw[hf]at hg;cases hg
     rw[ae hil]at hpp;cases hpp
     exact h2)
   refine⟨ss,by simpa using hcr,hpl, ?_⟩
   unfold e0s
   rw[hu,hx]
   refine⟨by have:=hcr.len;simp at this;omega,xs.map (·.1),rfl,by simp[hxl],fun i f p hf hpp=> ?_⟩
   rw[am]at hpp
   cases hxi:xs[i]? with
   |none=>rw[hxi]at hpp;cases hpp
   |some y=>
    rw[hxi]at hpp;cases hpp
    have hfl:fs.toList[i]?=some f:=by simpa using hf
    have:=(hq i f hfl).2 f y (by simpa using hfl) (by simpa using hxi)
    simpa using this
  ·rename_i m e hu
   simp only[ac,beq_iff_eq]at hp
   obtain⟨hct,hpe⟩:=hp
   obtain⟨xs,mm,_,hx,hcl,hxl,hfs⟩:=DataW.trod_array hu h
   have hcf:i0Y P cs.length 0 ((List.range' 0 m).map (f0r e (P.cellsOf e)))=true:=by
    have:=s0N (P:=P) (e:=e) m 0
    rw[hcl,hct]
    simpa using this
   have hff: ∀(i:Nat) f,((List.range' 0 m).map (f0r e (P.cellsOf e)))[i]?=some f→i<m∧f=f0r e (P.cellsOf e) i:=by
    intro i f hf
    rw[am]at hf
    cases hr:(List.range' 0 m)[i]? with
    |none=>rw[hr]at hf;cases hf
    |some j=>
     rw[hr]at hf
     have hl:=(ab.1 hr)
     obtain⟨p1,p2⟩:=hl
     simp at p1 p2
     subst p2
     cases hf
     exact⟨p1,rfl⟩
   obtain⟨ss,hcr,hpl,hq⟩:=m0Q (w:=w) (K:=KW w) (D:=fun _=>none) (Q:=fun j ss=> ∀p,xs[j]?=some p→e0s P n e p.1 ss) _ 0 0 hcf (fun i f hf=>by
    obtain⟨him,rfl⟩:=hff i f hf
    have hil:i<xs.length:=by omega
    have htr:=hfs i him
    rw[ae hil]at htr
    obtain⟨ss,h1,hp1,h2⟩:=ih e mm _ _ hpe htr
    refine⟨ss,h1, ?_,hp1,fun p hpp=> ?_⟩
    ·have h3:=(r0z _ _ hcf).2 _ (aF hf)
     rw[h1.len,aH,aO]
     simp only[f0r]at h3⊢
     omega
    ·rw[aU]at hpp
     rw[ae hil]at hpp;cases hpp
     exact h2)
   refine⟨ss,by simpa using hcr,hpl, ?_⟩
   unfold e0s
   rw[hu,hx]
   refine⟨by have:=hcr.len;simp at this;omega,xs.map (·.1),rfl,by simp[hxl],fun i p hpp=> ?_⟩
   rw[am]at hpp
   cases hxi:xs[i]? with
   |none=>rw[hxi]at hpp;cases hpp
   |some y=>
    rw[hxi]at hpp;cases hpp
    have him:i<m:=by rw[←hxl];exact(ab.1 hxi).1
    have hfi:((List.range' 0 m).map (f0r e (P.cellsOf e)))[i]?=some (f0r e (P.cellsOf e) i):=by
     rw[am,List.getElem?_range' him];simp
    have:=(hq i _ hfi).2 y (by simpa using hxi)
    simpa [f0r]using this
  ·cases hp
end
end Go.Sy
