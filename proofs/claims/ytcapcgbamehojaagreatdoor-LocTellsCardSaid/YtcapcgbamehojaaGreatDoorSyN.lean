/-
 The second shadow machine, part 14: more rules; loops; functions.
-/
import Derived.Test.YtcapcgbamehojaaGreatDoorSyM
namespace Go.Sy
open Go Go.RowKit
set_option linter.unusedSimpArgs false
set_option linter.unusedVariables false
set_option linter.unusedSectionVars false
variable [Inhabited GT]
section
variable {F : Fr} {P : Program} {L : LE} {H : a0o} {Q : h0f} {m : Option Nat} {ops : Array Oper} {p : Nat} {tr : List (List Nat × List Nat)}
def i0v(P:Program)(m:Option Nat)(ops:Array Oper):Nat→Nat→List (List Nat×List Nat)→LE→a0o→Option (List (List Nat×List Nat)×LE×a0o)
 |0,_,tr,L,H=>some (tr,L,H)
 |q+1,p,tr,L,H=>match ops.toList[p]? with
  |none=>none
  |some o=>match c0P ops (b0s L) o with
   |some true=>bif c0B o then none else match a0Z P o (b0s L) H (y0y m ops p H)with
    |some ef=>bif okM m ops p o ef tr H then i0v P m ops q (p+1) (trM m ops p o ef tr) (g0e L o.dst ef.v) (b0M H ef.wr)else none
    |none=>none
   |some false=>bif(match m with|none=>true|some base=>i0Z o (k0H o ⟨.tup [],[],[]⟩) (i0H ops base p o ⟨.tup [],[],[]⟩) tr 0)then i0v P m ops q (p+1) (trM m ops p o ⟨.tup [],[],[]⟩ tr) (g0e L o.dst (.tup [])) H else none
   |none=>none
theorem m0r: ∀(q p:Nat) (tr:List (List Nat×List Nat)) (L:LE) (H:a0o) (tr2:List (List Nat×List Nat)) (L2:LE) (H2:a0o),i0v P m ops q p tr L H=some (tr2,L2,H2)→RJ F P m ops (p+q) tr2 L2 H2 Q→RJ F P m ops p tr L H Q:=by
 intro q
 induction q with
 |zero=>intro p tr L H tr2 L2 H2 h k;simp only[i0v]at h;cases h;exact k
 |succ q ih=>
  intro p tr L H tr2 L2 H2 h k
  simp only[i0v]at h
  rw[show p+(q+1)=p+1+q from by omega]at k
  split at h
  ·cases h
  ·rename_i o ho
   split at h
   ·rename_i hg
    cases hc:c0B o with
    |true=>rw[hc]at h;cases h
    |false=>
     rw[hc]at h
     simp only[cond_false]at h
     split at h
     ·rename_i ef he
      cases hok:okM m ops p o ef tr H with
      |false=>rw[hok]at h;cases h
      |true=>
       rw[hok]at h
       exact RJ.step ho hg hc he hok (ih _ _ _ _ _ _ _ h k)
     ·cases h
   ·rename_i hg
    cases hb:(match m with|none=>true|some base=>i0Z o (k0H o ⟨.tup [],[],[]⟩) (i0H ops base p o ⟨.tup [],[],[]⟩) tr 0)with
    |false=>rw[hb]at h;cases h
    |true=>
     rw[hb]at h
     refine RJ.skip ho hg (.inr trivial) (fun base hm=> ?_) (ih _ _ _ _ _ _ _ h k)
     subst hm;exact hb
   ·cases h
theorem RJ.seg(q:Nat)(ts:List Nat) {L2:LE} {H2:a0o} (h:(i0v P none ops q p [] L H).map (fun r=>(h0O ts r.2.1,r.2.2))=some (L2,H2))(k:RJ F P none ops (p+q) [] L2 H2 Q):RJ F P none ops p [] L H Q:=by
 cases hr:i0v P none ops q p [] L H with
 |none=>rw[hr]at h;cases h
 |some r=>
  obtain⟨tr1,L1,H1⟩:=r
  rw[hr]at h
  simp only[aI,ai,aP]at h
  obtain⟨rfl,rfl⟩:=h
  refine m0r q p [] L H tr1 L1 H1 hr ?_
  intro hin a w hs
  exact k hin a w (hs.keep (i0G ts L1))
theorem RJ.segD {base:Nat} (q:Nat) {tr2:List (List Nat×List Nat)} {L2:LE} {H2:a0o} (h:i0v P (some base) ops q p tr L H=some (tr2,L2,H2))(k:RJ F P (some base) ops (p+q) tr2 L2 H2 Q):RJ F P (some base) ops p tr L H Q:=
 m0r q p tr L H tr2 L2 H2 h k
def lOf(r:Option (List (List Nat×List Nat)×LE×a0o)):LE:=match r with|some x=>x.2.1|none=> []
def hOf(r:Option (List (List Nat×List Nat)×LE×a0o)):a0o:=match r with|some x=>x.2.2|none=> []
def tOf(r:Option (List (List Nat×List Nat)×LE×a0o)):List (List Nat×List Nat):=match r with|some x=>x.1|none=> []
theorem RJ.segDC {base:Nat} (q:Nat)(h:(i0v P (some base) ops q p tr L H).isSome=true)(k:RJ F P (some base) ops (p+q) (tOf (i0v P (some base) ops q p tr L H)) (lOf (i0v P (some base) ops q p tr L H)) (hOf (i0v P (some base) ops q p tr L H)) Q):RJ F P (some base) ops p tr L H Q:=by
 refine RJ.segD q ?_ k
 cases hr:i0v P (some base) ops q p tr L H with
 |none=>rw[hr]at h;cases h
 |some r=>rfl
def Wk(F:Fr)(L:LE)(H:a0o)(L2:LE)(H2:a0o):Prop:= ∀a w,Sees F L H a w→Sees F L2 H2 a w
theorem J.wk {c:Code} {L2:LE} {H2:a0o} (h:Wk F L H L2 H2)(k:J F P c L2 H2 Q):J F P c L H Q:=fun hin a w hs=>k hin a w (h a w hs)
theorem PJ.wk {e:Exit} {L2:LE} {H2:a0o} (h:Wk F L H L2 H2)(k:PJ F Q e L2 H2):PJ F Q e L H:=fun a w hs=>k a w (h a w hs)
theorem RJ.wk {L2:LE} {H2:a0o} (h:Wk F L H L2 H2)(k:RJ F P none ops p tr L2 H2 Q):RJ F P none ops p tr L H Q:=fun hin a w hs=>k hin a w (h a w hs)
theorem Wk.trans {L2 L3:LE} {H2 H3:a0o} (h:Wk F L H L2 H2)(h':Wk F L2 H2 L3 H3):Wk F L H L3 H3:=fun a w hs=>h' a w (h a w hs)
theorem h0t {d:Nat} {v:SV} (h:lk L d=v):b0s ((d,v)::L)=b0s L:=by
 funext t
 simp only[b0s,lk]
 cases hb:Nat.beq t d with
 |true=>have:=af hb;subst this;exact h.symm
 |false=>rfl
theorem J.caseB {c:Code} (d:Nat) {b:Bool} (hd:lk L d= .bool b)(h1:b=true→J F P c ((d, .bool true)::L) H Q)(h2:b=false→J F P c ((d, .bool false)::L) H Q):J F P c L H Q:=by
 intro hin a w hs
 cases b with
 |true=>exact h1 rfl hin a w (by unfold Sees;rw[h0t hd];exact hs)
 |false=>exact h2 rfl hin a w (by unfold Sees;rw[h0t hd];exact hs)
theorem RJ.caseB(d:Nat) {b:Bool} (hd:lk L d= .bool b)(h1:b=true→RJ F P m ops p tr ((d, .bool true)::L) H Q)(h2:b=false→RJ F P m ops p tr ((d, .bool false)::L) H Q):RJ F P m ops p tr L H Q:=by
 cases b with
 |true=>
  have:=h1 rfl
  cases m with
  |none=>intro hin a w hs;exact this hin a w (by unfold Sees;rw[h0t hd];exact hs)
  |some base=>intro hl;have t:=this hl;rw[h0t hd]at t;exact t
 |false=>
  have:=h2 rfl
  cases m with
  |none=>intro hin a w hs;exact this hin a w (by unfold Sees;rw[h0t hd];exact hs)
  |some base=>intro hl;have t:=this hl;rw[h0t hd]at t;exact t
theorem PJ.caseB {e:Exit} (d:Nat) {b:Bool} (hd:lk L d= .bool b)(h1:b=true→PJ F Q e ((d, .bool true)::L) H)(h2:b=false→PJ F Q e ((d, .bool false)::L) H):PJ F Q e L H:=by
 intro a w hs
 cases b with
 |true=>exact h1 rfl a w (by unfold Sees;rw[h0t hd];exact hs)
 |false=>exact h2 rfl a w (by unfold Sees;rw[h0t hd];exact hs)
/-! Loops. -/
def a0s {S O:Type} (step:S→Option (S⊕O)):Nat→S→Option O
 |0,_=>none
 |n+1,s=>match step s with
  |none=>none
  |some (.inr o)=>some o
  |some (.inl s')=>a0s step n s'
theorem J.loop {S O:Type} {c:Code} {step:S→Option (S⊕O)} {n:Nat} {s0:S} {o:O} (R:S→LE×a0o)(ho:a0s step n s0=some o)(hL:L=(R s0).1)(hH:H=(R s0).2)
  (body: ∀s x,step s=some x→J F P c (R s).1 (R s).2 (fun e a w=>match x with
   | .inl s'=>e= .normal∧Sees F (R s').1 (R s').2 a w
   | .inr o'=>e≠ .normal∧(o'=o→Q e a w))):J F P (.loop c) L H Q:=by
 subst hL;subst hH
 intro hin
 have hin':d0e F.n c=true:=hin
 clear hin
 have key: ∀n s0,a0s step n s0=some o→ ∀a w,Sees F (R s0).1 (R s0).2 a w→ ∀(b:Frame) (k:List Item) (cs:List Frame),∃e a' w',Q e a' w'∧Arrives P (lone (b.at a (.code c:: .inLoop c::k)) cs w) b k cs e a' w':=by
  intro n
  induction n with
  |zero=>intro s0 h;cases h
  |succ n ih=>
   intro s0 h a w hs b k cs
   simp only[a0s]at h
   split at h
   ·cases h
   ·rename_i o' hst
    cases h
    have hr:=body s0 _ hst hin' a w hs
    obtain⟨e,a₁,w₁,⟨hne,hq⟩,harr⟩:=hr b (.inLoop c::k) cs
    have hq:=hq rfl
    refine⟨e,a₁,w₁,hq, ?_⟩
    cases e with
    |normal=>exact absurd rfl hne
    |exit id=>exact .pass (x:= .inLoop c) rfl (fun _ _=> .inl (by simp)) harr
    |goto l=>exact .pass (x:= .inLoop c) rfl (fun _ _=> .inl (by simp)) harr
    |ret=>exact .pass (x:= .inLoop c) rfl (fun _ _=> .inl (by simp)) harr
    |panic ch=>exact .pass (x:= .inLoop c) rfl (fun _ _=> .inl (by simp)) harr
    |outgrown=>exact .pass (x:= .inLoop c) rfl (fun _ _=> .inl (by simp)) harr
   ·rename_i s' hst
    have hr:=body s0 _ hst hin' a w hs
    obtain⟨e,a₁,w₁,⟨rfl,hs'⟩,harr⟩:=hr b (.inLoop c::k) cs
    obtain⟨e₂,a₂,w₂,hq₂,harr₂⟩:=ih s' h a₁ w₁ hs' b k cs
    exact⟨e₂,a₂,w₂,hq₂, .of_steps (Steps.trans harr (.one step_inLoop)) harr₂⟩
 intro a w hs b k cs
 obtain⟨e,a',w',hq,harr⟩:=key n s0 ho a w hs b k cs
 exact⟨e,a',w',hq, .of_steps (.one step_loop) harr⟩
/-! Functions. -/
def r0Y(P:Program)(L:LE)(H:a0o):ResultVar→Option SV
 | .tmp t=>some (lk L t)
 | .cell t ty=>match lk L t with
  | .ptr b off=>match(H[b]?).bind d0E with
   |some cs=>b0T P ty (cs.drop off)
   |none=>none
  |_=>none
def A0g {α β:Type} (f:α→Option β):List α→Option (List β)
 | []=>some []
 |x::r=>match f x,A0g f r with
  |some y,some ys=>some (y::ys)
  |_,_=>none
def x0a(P:Program)(rs:List ResultVar)(L:LE)(H:a0o):Option SV:=
 match rs with
 | [r]=>r0Y P L H r
 |rs=>(A0g (r0Y P L H) rs).map .tup
def h0C:List ResultVar→List Nat
 | []=> []
 | .tmp t::rs=>t::h0C rs
 | .cell t _::rs=>t::h0C rs
def o0F(n:Nat)(rs:List ResultVar):Bool:=(h0C rs).all (fun t=>decide (t<n))
def q0H(tm:Array Value)(r:ResultVar):Sem Value:=
 match r with
 | .tmp t=>pure (tm.getD t undef)
 | .cell a t=>do loadVar t (←asAddr (tm.getD a undef))
theorem u0l(fn:Func)(tm:Array Value):results fn tm=(do
  let vs←fn.results.mapM (q0H tm)
  pure (if h:vs.size=1 then vs[0]else .tuple vs)):=rfl
theorem v0r {w:World} {K:Nat→Nat} {D:DM} {tm:Array Value} (h:Inv F w K D H (b0s L) tm) {r:ResultVar} {s:SV} (ht: ∀t∈h0C [r],t<F.n)(hs:r0Y P L H r=some s):
  ∃v,(q0H tm r).run P w= .ok v w∧Rep w K D v s:=by
 cases r with
 |tmp t=>
  simp only[r0Y]at hs
  cases hs
  exact⟨_,rfl,h.slots.rep t (ht t (by simp[h0C]))⟩
 |cell t ty=>
  simp only[r0Y]at hs
  have htn:=ht t (by simp[h0C])
  split at hs
  ·rename_i bi off hv
   split at hs
   ·rename_i cs hcs
    have hr:=h.slots.rep t htn
    rw[show b0s L t=lk L t from rfl,hv]at hr
    obtain⟨b,c,m,hvx,hd⟩:=m0t hr
    cases hH:H[bi]? with
    |none=>rw[hH]at hcs;cases hcs
    |some en=>
     rw[hH]at hcs
     obtain⟨vs,rest,e,hheap,hcr,_,_⟩:=s0H h.hinv hH hd hcs
     have hrow:=(f0v hheap hcr).drop off
     rw[aU]at hrow
     obtain⟨v,hrun,hrep'⟩:=i0O (P:=P) hrow hs
     refine⟨v, ?_,hrep'⟩
     simp only[q0H,hvx]
     simp[asAddr,hrun]
   ·cases hs
  ·cases hs
theorem u0m {w:World} {K:Nat→Nat} {D:DM} {tm:Array Value} (h:Inv F w K D H (b0s L) tm): ∀(rs:List ResultVar) (vs:List SV),(∀t∈h0C rs,t<F.n)→A0g (r0Y P L H) rs=some vs→
  ∃us,(rs.mapM (q0H tm)).run P w= .ok us w∧us.length=vs.length∧us.length=rs.length∧(∀(j:Nat) (v:Value) (c:SV),us[j]?=some v→vs[j]?=some c→Rep w K D v c):=by
 intro rs
 induction rs with
 |nil=>intro vs _ hv;simp[A0g]at hv;subst hv;exact⟨[],rfl,rfl,rfl,fun j v c e=>by simp at e⟩
 |cons r rs ih=>
  intro vs ht hv
  have htl:h0C (r::rs)=h0C [r]++h0C rs:=by cases r<;>rfl
  simp only[A0g]at hv
  split at hv
  ·rename_i s ss h1 h2
   cases hv
   obtain⟨u,hu1,hu2⟩:=v0r (P:=P) h (r:=r) (fun t hm=>ht t (by rw[htl];exact au.2 (.inl hm))) h1
   obtain⟨us,i1,i2,i3,i4⟩:=ih ss (fun t hm=>ht t (by rw[htl];exact au.2 (.inr hm))) h2
   refine⟨u::us, ?_,by simp[i2],by simp[i3],fun j v c hv hc=> ?_⟩
   ·simp only[cv,Sem.run_bind,hu1,Result.andThen_ok,i1,Sem.run_pure]
   ·cases j with
    |zero=>simp at hv hc;subst hv;subst hc;exact hu2
    |succ j=>exact i4 j v c (by simpa using hv) (by simpa using hc)
  ·cases hv
def u0k(P:Program)(fn:Func)(F:Fr)(v:SV)(H':a0o):h0f:=fun e a w=>(e= .normal∨e= .ret)∧a.defers=F.ds∧ ∃r,(results fn a.tmps).run P w= .ok r w∧Good F.w0 F.K0 F.D0 F.H0 r w v H'
structure Back (m0:Nat) (H:a0o) (f:Nat→Nat) (v1 v:SV) (H':a0o):Prop where
 sel:Sel H f H'
 keep: ∀j,j<m0→f j=j
 le:m0≤H'.length
 val:v1=SV.rn f v
 refs:SV.refs H'.length v=true
mutual
theorem x0y: ∀(s:SV),SV.rn (fun j=>j) s=s
 | .agg cs=>by simp only[SV.rn];rw[n0R cs]
 | .tup cs=>by simp only[SV.rn];rw[n0R cs]
 | .fn q a b=>by simp only[SV.rn];rw[n0R a,n0R b]
 | .ptr _ _=>rfl
 | .vc _=>rfl
 | .sl _ _ _ _=>rfl
 | .mp _=>rfl
 | .undef=>rfl
 | .bool _=>rfl
 | .int _ _=>rfl
 | .str _=>rfl
 | .nl=>rfl
 | .lst _ _ _=>rfl
 | .ep _=>rfl
 | .nilp=>rfl
theorem n0R: ∀(cs:List SV),SV.rnL (fun j=>j) cs=cs
 | []=>rfl
 |c::cs=>by simp only[SV.rnL];rw[x0y c,n0R cs]
end
theorem A0N(en:Ent):Ent.rn (fun j=>j) en=en:=by
 cases en<;>simp[Ent.rn,n0R,x0y]
theorem Back.drop {m0:Nat} {H' ex:a0o} {v:SV} (hle:m0≤H'.length)(hr:SV.refs H'.length v=true)(hH:H'.all (Ent.refs H'.length)=true):Back m0 (H'++ex) (fun j=>j) v v H':=
 ⟨⟨fun j en hj=>by rw[A0N,bQ (ab.1 hj).1];exact hj,fun i j _ _ e=>e,fun j en hj=>List.all_eq_true.1 hH en (aF hj)⟩,fun _ _=>rfl,hle,(x0y v).symm,hr⟩
theorem p0B {w:World} {K:Nat→Nat} {D:DM} {w0:World} {K0:Nat→Nat} {D0:DM} {H0 H':a0o} {f:Nat→Nat} {r:Value} {v1 v:SV} (hg:Grow w0 K0 D0 H0 w K D H)(hi:HInv w K D H)(hr:Rep w K D r v1)(hb:Back H0.length H f v1 v H')
  (hdom: ∀i,H0.length≤i→D0 i=none):Good w0 K0 D0 H0 r w v H':=by
 refine⟨K,j0c D f H'.length,⟨hg.os,hg.tape,hg.output,hg.size,hg.block,hg.cells,hg.le,hg.kk,fun i x hx=> ?_,fun b hm=>hg.new b (hb.sel.mem hm)⟩,hb.sel.hinv hi,f0L hr v hb.val hb.refs⟩
 have hil:i<H0.length:=by
  rcases bK i H0.length with h|h
  ·exact h
  ·rw[hdom i h]at hx;cases hx
 simp only[j0c,if_pos (aT hil hb.le),hb.keep i hil]
 exact hg.dd i x hx
theorem v0p {fn:Func} {v1:SV} {w:World} {K:Nat→Nat} {D:DM} {tm:Array Value} (hi:Inv F w K D H (b0s L) tm)(hin:o0F F.n fn.results.toList=true)(hret:x0a P fn.results.toList L H=some v1):
  ∃r,(results fn tm).run P w= .ok r w∧Rep w K D r v1:=by
 simp only[o0F,List.all_eq_true,decide_eq_true_eq]at hin
 have hres: ∀us,(fn.results.toList.mapM (q0H tm)).run P w= .ok us w→
   (results fn tm).run P w= .ok (if h:us.toArray.size=1 then us.toArray[0]else .tuple us.toArray) w:=by
  intro us hus
  rw[u0l,Array.mapM_eq_mapM_toList]
  simp[hus]
 unfold x0a at hret
 split at hret
 ·rename_i rr hrs
  rw[hrs]at hres hin
  obtain⟨u,h1,h2⟩:=v0r (P:=P) hi hin hret
  refine⟨u, ?_,h2⟩
  have:=hres [u] (by simp[h1])
  simpa using this
 ·rename_i hne
  cases hm:A0g (r0Y P L H) fn.results.toList with
  |none=>rw[hm]at hret;cases hret
  |some vs=>
   rw[hm]at hret
   cases hret
   obtain⟨us,h1,h2,h3,h4⟩:=u0m (P:=P) hi _ vs hin hm
   have hn1:us.length≠1:=by
    intro he1
    obtain⟨x,hx⟩:=cx.1 (h3.symm.trans he1)
    exact hne x hx
   refine⟨.tuple us.toArray,by have:=hres _ h1;rw[dif_neg (by simpa using hn1)]at this;exact this, .tup us vs h2.symm h4⟩
theorem PJ.end {fn:Func} {e:Exit} {v v1:SV} {H':a0o} {f:Nat→Nat} (he:e= .normal∨e= .ret)(hin:o0F F.n fn.results.toList=true)(hret:x0a P fn.results.toList L H=some v1)(hb:Back F.H0.length H f v1 v H')(hdom: ∀i,F.H0.length≤i→F.D0 i=none):
  PJ F (u0k P fn F v H') e L H:=by
 intro a w hs
 obtain⟨hd,K,D,hi⟩:=hs
 refine⟨he,hd, ?_⟩
 obtain⟨r,h1,h2⟩:=v0p (P:=P) hi hin hret
 exact⟨r,h1,p0B hi.grow hi.hinv h2 hb hdom⟩
def i0j:Nat→List SV→LE
 |_,[]=> []
 |i,v::r=>(i,v)::i0j (i+1) r
theorem p0V: ∀(args:List SV) (i t:Nat),lk (i0j i args) t=if i≤t then(args[t-i]?).getD .undef else .undef
 | [],i,t=>by simp[i0j,lk]
 |v::r,i,t=>by
  simp only[i0j,lk]
  cases hb:Nat.beq t i with
  |true=>have:=af hb;subst this;simp
  |false=>
   have hne:t≠i:=fun e=>by subst e;simp at hb
   simp only[cond_false]
   rw[p0V r (i+1) t]
   by_cases hle:i≤t
   ·rw[if_pos hle,if_pos (by omega),show t-i=(t-(i+1))+1 from by omega]
    simp
   ·rw[if_neg hle,if_neg (by omega)]
theorem A0b {P:Program} {f:FuncId} {fn:Func} {c:Code} (hf:P.funcs[f]?=some fn)(hb:fn.body=some c)(hcal:c0N P f=true)(hin:d0e fn.ntmps c=true)
  {args:List SV} {H:a0o} {v:SV} {H':a0o} (hn:args.length≤fn.ntmps)
  (h: ∀F:Fr,F.n=fn.ntmps→F.H0=H→(∀i,F.H0.length≤i→F.D0 i=none)→J F P c (i0j 0 args) H (u0k P fn F v H')):SC P f args H v H':=by
 refine⟨hcal,fun w K D vals hl hrep hi hG=> ?_⟩
 let F:Fr:=⟨fn.ntmps,w,K,D,H,[]⟩
 have hslots:Slots fn.ntmps w K D (b0s (i0j 0 args)) (vals.toArray++Array.replicate (fn.ntmps-vals.toArray.size) undef):=by
  refine⟨by simp;omega,fun i hin=> ?_,hG⟩
  show Rep w K D _ (lk (i0j 0 args) i)
  rw[p0V,if_pos (co _),bN]
  by_cases hia:i<args.length
  ·have hiv:i<vals.length:=by omega
   rw[ae hia,bJ]
   have hg:(vals.toArray++Array.replicate (fn.ntmps-vals.toArray.size) undef).getD i undef=vals[i]:=by
    rw[bD,ck (by simpa using hiv)]
    simp[hiv]
   rw[hg]
   exact hrep i _ _ (ae hiv) (ae hia)
  ·rw[aw (by omega)]
   exact .undef _
 have hst:Sees F (i0j 0 args) H { tmps:=vals.toArray++Array.replicate (fn.ntmps-vals.toArray.size) undef,defers:=[] } w:=⟨rfl,K,D,⟨hslots,hi,Grow.refl _ _ _ _⟩⟩
 refine calls_of_wp hf hb (Code.wp_mono (fun e a' w' hq=> ?_) (h F rfl rfl hi.dom hin _ w hst))
 obtain⟨he,hd,r,hr,hg⟩:=hq
 rcases he with rfl|rfl<;>exact⟨hd,r,hr,r,rfl,hg⟩
end
end Go.Sy
