/-
 What those functions come to, told by plain functions of lists and numbers. Conditions: as each theorem says.
-/
import Derived.Test.YtcapcgbamehojaaGreatDoorGd
import Derived.Test.YtcapcgbamehojaaGreatDoorSyZ
namespace Go.Proofs.YtcapcgbamehojaaGreatDoor
open Go Go.Sy Go.RowKit Go.ChangeShapes Go.WideShapes Go.ChangeAt
set_option linter.unusedVariables false
set_option linter.unusedSimpArgs false
set_option maxRecDepth 100000
set_option maxHeartbeats 4000000
/-! Two patterns are compared. -/
theorem y0z {T S O:Type} [Inhabited T] [DecidableEq T] {xs ys:List T} (hlen:xs.length=ys.length)(hb:xs.length≤4611686018427387904)(ok bad:O) {step:Int→Option (Int⊕O)}
  (hs: ∀i:Nat,i<xs.length→step (i:Int)=some (if nth xs (i:Int)=nth ys (i:Int)then .inl ((i:Int)+1)else .inr bad)) (he:step (xs.length:Int)=some (.inr ok)):
  a0s step big 0=some (if xs=ys then ok else bad):=by
 obtain⟨o,h1,h2⟩:=d0t (step:=step) xs.length (fun i=>(i:Int)) (fun i=> ∀j,j<i→nth xs (j:Int)=nth ys (j:Int)) (fun o=>o=if xs=ys then ok else bad) rfl (fun j hj=>by omega) (fun i hi hI=>by
  rw[hs i hi]
  by_cases c:nth xs (i:Int)=nth ys (i:Int)
  ·left
   rw[if_pos c]
   refine⟨by simp,fun j hj=> ?_⟩
   by_cases e:j=i
   ·subst e;exact c
   ·exact hI j (by omega)
  ·right
   rw[if_neg c]
   refine⟨bad,rfl, ?_⟩
   rw[if_neg (fun e=>c (by rw[e]))]) (fun hI=>⟨ok,he,by
  rw[if_pos]
  apply List.ext_getElem hlen
  intro i h1 h2
  have:=hI i h1
  rwa [d0M h1,d0M h2]at this⟩) (by omega)
 have h1':a0s step big 0=some o:=h1
 rw[h1',h2]
theorem q0v {x y:List a0b} (hl:x.length≤4611686018427387904):h0x x y=some (decide (x=y)):=by
 unfold h0x
 by_cases h:x.length=y.length
 ·rw[dF (by omega)]
  simp only[cond_false]
  rw[y0z (S:=Unit) h (by omega) (.inl ():Unit⊕Bool) (.inr false)]
  ·by_cases e:x=y
   ·rw[if_pos e,dT e];rfl
   ·rw[if_neg e,dF e];rfl
  ·intro i hi
   rw[dT (by omega),g0Y hi,g0Y (by omega),w64 (by omega) (by omega)]
   simp only[cond_true]
   generalize nth x (i:Int)=a
   generalize nth y (i:Int)=b
   obtain⟨a1,a2⟩:=a
   obtain⟨b1,b2⟩:=b
   by_cases h1:a1=b1<;>by_cases h2:a2=b2<;>simp[h1,h2]
  ·rw[g0m];rfl
 ·rw[dT (by omega),dF (by rintro rfl;exact h rfl)];rfl
def A0h(a:a0y):Prop:=a.a_.length≤4611686018427387904∧a.b_.length≤4611686018427387904∧a.i_.length≤4611686018427387904∧a.h_.length≤4611686018427387904
def z0i(a:a0y):Prop:= -2147483648≤a.f_∧a.f_<2147483648
theorem z0a {a b:a0y} (hl:A0h a)(ha:z0i a)(hb:z0i b):l0J a b=some (decide (a=b)):=by
 obtain⟨l1,l2,l3,l4⟩:=hl
 unfold l0J g0V
 rw[q0v l1,q0v l2,q0v l3,q0v l4]
 simp only[aa]
 rw[w64 (n:=a.f_) (by have:=ha.1;omega) (by have:=ha.2;omega),w64 (n:=b.f_) (by have:=hb.1;omega) (by have:=hb.2;omega)]
 obtain⟨p1,p2,p3,p4,p5,p6,p7,p8,p9,p10,p11,p12,p13,p14,p15,p16,p17⟩:=a
 obtain⟨q1,q2,q3,q4,q5,q6,q7,q8,q9,q10,q11,q12,q13,q14,q15,q16,q17⟩:=b
 simp only[a0y.mk.injEq]
 by_cases hn:p6=q6∧p7=q7∧p8=q8∧p9=q9∧p10=q10∧p11=q11∧p12=q12∧p13=q13∧p14=q14∧p16=q16∧p17=q17
 ·obtain⟨rfl,rfl,rfl,rfl,rfl,rfl,rfl,rfl,rfl,rfl,rfl⟩:=hn
  simp only[decide_true,Bool.and_self,cond_true,true_and,and_true]
  by_cases h1:p1=q1<;>by_cases h2:p2=q2<;>by_cases h3:p3=q3<;>by_cases h4:p4=q4<;>cases p5<;>cases q5<;>cases p15<;>cases q15<;>simp[h1,h2,h3,h4]
 ·rw[show((decide (p6=q6))&&((decide (p7=q7))&&((decide (p8=q8))&&((decide (p9=q9))&&((decide (p10=q10))&&((decide (p11=q11))&&((decide (p12=q12))&&((decide (p13=q13))&&((decide (p14=q14))&&((decide (p16=q16))&&((decide (p17=q17))&&true)))))))))))=false from by
   cases hb:((decide (p6=q6))&&((decide (p7=q7))&&((decide (p8=q8))&&((decide (p9=q9))&&((decide (p10=q10))&&((decide (p11=q11))&&((decide (p12=q12))&&((decide (p13=q13))&&((decide (p14=q14))&&((decide (p16=q16))&&((decide (p17=q17))&&true)))))))))))
   ·rfl
   ·simp only[ac,decide_eq_true_eq,and_true]at hb
    exact absurd hb hn]
  simp only[cond_false,aa]
  congr 1
  refine(decide_eq_false fun h=>hn ?_).symm
  obtain⟨_,_,_,_,_,e6,e7,e8,e9,e10,e11,e12,e13,e14,_,e16,e17⟩:=h
  exact⟨e6,e7,e8,e9,e10,e11,e12,e13,e14,e16,e17⟩
/-! Parsers that always answer. -/
theorem p0O {S O:Type} {step:S→Option (S⊕O)} (I:S→Prop)(μ:S→Nat)(post:O→Prop) {s0:S} (h0:I s0)(hb:μ s0<18446744073709551616)
  (hs: ∀s,I s→(∃s',step s=some (.inl s')∧I s'∧μ s'<μ s)∨ ∃o,step s=some (.inr o)∧post o): ∃o,a0s step big s0=some o∧post o:=by
 have key: ∀m s,I s→μ s<m→ ∃o,a0s step m s=some o∧post o:=by
  intro m
  induction m with
  |zero=>intro s _ h;omega
  |succ m ih=>
   intro s hi hm
   rcases hs s hi with⟨s',h1,h2,h3⟩|⟨o,h1,h2⟩
   ·rw[b0v h1];exact ih s' h2 (by omega)
   ·exact⟨o,b0F h1,h2⟩
 exact key big s0 h0 hb
def Tot {α:Type} (x:Option α)(p:α→Prop):Prop:= ∃o,x=some o∧p o
theorem tR {α:Type} {a:α} {p:α→Prop} (h:p a):Tot (some a) p:=⟨a,rfl,h⟩
theorem tB {α β:Type} {x:Option α} {k:α→Option β} {p:α→Prop} {q:β→Prop} (h:Tot x p)(hk: ∀o,p o→Tot (k o) q):Tot (Option.bind x k) q:=by
 obtain⟨o,rfl,h⟩:=h;exact hk o h
theorem tI {α:Type} {b:Bool} {t e:Option α} {p:α→Prop} (ht:b=true→Tot t p)(he:b=false→Tot e p):Tot (bif b then t else e) p:=by
 cases b with
 |true=>exact ht rfl
 |false=>exact he rfl
theorem tY {α:Type} {b:Bool} {t e:Option α} {p:α→Prop} (h:b=true)(ht:Tot t p):Tot (bif b then t else e) p:=by subst h;exact ht
theorem Tot.mono {α:Type} {x:Option α} {p q:α→Prop} (h:Tot x p)(hq: ∀o,p o→q o):Tot x q:=by obtain⟨o,h1,h2⟩:=h;exact⟨o,h1,hq o h2⟩
def B0o {S X:Type} (k:S→Option X)(p:X→Prop):S⊕X→Prop
 | .inl s=>Tot (k s) p
 | .inr r=>p r
theorem tJ {S X:Type} {x:Option (S⊕X)} {k:S→Option X} {p:X→Prop} (h:Tot x (B0o k p)):Tot (Option.bind x (a0g k)) p:=by
 obtain⟨o,rfl,h⟩:=h
 cases o with
 |inl s=>exact h
 |inr r=>exact⟨r,rfl,h⟩
theorem tL {S O:Type} {step:S→Option (S⊕O)} (I:S→Prop)(μ:S→Nat) {post:O→Prop} {s0:S} (h0:I s0)(hb:μ s0<18446744073709551616)
  (hs: ∀s,I s→Tot (step s) (fun x=>match x with| .inl s'=>I s'∧μ s'<μ s| .inr o=>post o)):Tot (a0s step big s0) post:=by
 refine p0O I μ post h0 hb (fun s hi=> ?_)
 obtain⟨x,h1,h2⟩:=hs s hi
 cases x with
 |inl s'=>exact .inl ⟨s',h1,h2⟩
 |inr o=>exact .inr ⟨o,h1,h2⟩
theorem Tot.any {α:Type} {x:Option α} {p:α→Prop} (h:Tot x p):Tot x (fun _=>True):=h.mono (fun _ _=>trivial)
theorem dTT {p:Prop} [Decidable p](h:decide p=true):p:=of_decide_eq_true h
theorem dFF {p:Prop} [Decidable p](h:decide p=false): ¬p:=of_decide_eq_false h
theorem t0w(x:Int):Tot (a0B x) (fun _=>True):=by
 unfold a0B
 refine tB (p:=fun _=>True) ?_ (fun _ _=>tR trivial)
 repeat' (first|exact tR trivial|refine tI (fun _=> ?_) (fun _=> ?_))
theorem t0f(x:Int):Tot (b0k x) (fun n=>0≤n∧n≤4∧(a0B x=some true→1≤n)):=by
 unfold b0k
 obtain⟨b,hb,_⟩:=t0w x
 rw[hb]
 cases b with
 |false=>exact⟨0,rfl,by omega,by omega,fun h=>by cases h⟩
 |true=>
  show Tot (bif _ then _ else _) _
  repeat' (first|exact tR ⟨by omega,by omega,fun _=>by omega⟩|refine tI (fun _=> ?_) (fun _=> ?_))
theorem w0J(x:Int):Tot (b0S x) (fun l=>l.length≤4):=by
 unfold b0S
 refine tB (t0f x) (fun _ _=> ?_)
 repeat' (first|exact tR (by simp)|refine tI (fun _=> ?_) (fun _=> ?_))
theorem p0v(x:Int):Tot (a0R x) (fun l=>l.length≤4):=by
 unfold a0R
 exact tB (w0J x) (fun o h=>tR (by simpa [a0q]using h))
theorem n0F(x:Int):Tot (a0Q x) (fun _=>True):=by
 unfold a0Q
 refine tJ (tB (p:=fun _=>True) ?_ (fun b _=> ?_))
 ·repeat' (first|exact tR trivial|refine tI (fun _=> ?_) (fun _=> ?_))
 ·refine tI (fun _=>tR trivial) (fun _=>tR ?_)
  refine tJ (tL (fun s=>0≤s∧s≤11) (fun s=>(11-s).toNat) (by omega) (by omega) (fun s hs=> ?_))
  refine tI (fun h=> ?_) (fun _=>tR (tR trivial))
  have h:=dTT h
  refine tY (a0J (by omega) (by simpa using h)) (tI (fun _=>tR trivial) (fun _=>tR ?_))
  rw[w64 (by omega) (by omega)];omega
theorem x0r(x:Int):Tot (c0l x) (fun _=>True):=by
 unfold c0l
 repeat' (first|exact tR trivial|refine tI (fun _=> ?_) (fun _=> ?_))
def atV(l:List Int)(i:Int):Int:=if i<l.length then nth l i else-1
theorem j0a {l:List Int} {i:Int} (h:0≤i):a0l l i=some (atV l i):=by
 unfold a0l atV
 by_cases hi:i<l.length
 ·rw[dT hi,if_pos hi,a0J h hi];rfl
 ·rw[dF hi,if_neg hi];rfl
theorem h0d {l:List Int} {i c:Int} (hc:atV l i=c)(h:c≠ -1):i<l.length:=by
 unfold atV at hc
 split at hc
 ·assumption
 ·exact absurd hc.symm h
theorem l0P {l:List Int} {i c:Int} (hl:l.length≤10000)(h:0≤i)(hi:i≤l.length)(hc:c≠ -1):Tot (a0G l i c) (fun n=>0≤n∧i+n≤l.length):=by
 unfold a0G
 refine tB (p:=fun n=>0≤n∧i+n≤l.length) ?_ (fun _ h=>tR h)
 refine tL (fun s=>0≤s∧i+s≤l.length) (fun s=>(l.length-i-s).toNat) (by omega) (by omega) (fun s hs=> ?_)
 rw[w64 (n:=i+s) (by omega) (by omega),j0a (by omega)]
 show Tot (bif _ then _ else _) _
 refine tI (fun hh=>tR ?_) (fun _=>tR hs)
 have:=h0d (dTT hh) hc
 rw[w64 (by omega) (by omega)];omega
def g0a(p:a0y):Int×Int×Int×Int×Int×Int×Int×Int×Int×Bool:=(p.n_,p.j_,p.p_,p.k_,p.e_,p.g_,p.l_,p.m_,p.d_,p.G_)
def B0r(t g1 g2:Int):Prop:=(g1=0∧g2=0)∨(0<g1∧0<g2∧g1<t∧(t≤g1+g2→g2=g1))
def i0P:Int×Int×Int×Int×Int×Int×Int×Int×Int×Bool→Prop:=fun(ha,mi,nf,xf,g1,g2,ns,xs,ex,ep)=>
 0≤ha∧0≤mi∧0≤nf∧nf≤xf∧0≤ns∧ns≤xs∧0≤ex∧(ex=0→ep=false)∧(ns=0→xs=0∧0<ha+mi)∧(0<ns→ha=0∧mi=0∧nf=0∧xf=0)∧B0r (ha+mi) g1 g2
def y0P:Int×Int×Int×Int×Int×Int×Int×Int×Int×Bool:=(0,0,0,0,0,0,0,0,0,false)
theorem p0J {p:a0y} {l:List Int} {i w:Int} (hl:l.length≤10000)(h:0≤i)(hi:i≤l.length):Tot (a0K p l i w) (fun o=>0≤o.2.1∧(o.2.2=true→o.2.1≤l.length)∧g0a o.1=g0a p):=by
 unfold a0K
 refine tJ (tB (p:=fun _=>True) ?_ (fun b _=> ?_))
 ·refine tI (fun _=>tR trivial) (fun _=> ?_)
  rw[j0a h];exact tR trivial
 ·refine tI (fun _=>tR ⟨h,fun _=>hi,rfl⟩) (fun _=>tR ?_)
  show Tot _ _
  rw[w64 (n:=i+1) (by omega) (by omega)]
  refine tI (fun _=>tR ⟨by simp only;omega,fun h=>(by cases h),rfl⟩) (fun hh=> ?_)
  have:=dFF hh
  refine tY (a0J (by omega) (by omega)) (tR ⟨?_,fun _=> ?_,rfl⟩)
  ·simp only;rw[w64 (by omega) (by omega)];omega
  ·simp only;rw[w64 (by omega) (by omega)];omega
theorem m0g {l:List Int} {i:Int} (hl:l.length≤10000)(h:0≤i)(hi:i≤l.length):Tot (a0H l i) (fun o=>0≤o.2.1∧o.2.1≤l.length):=by
 unfold a0H
 refine tJ (tL (fun s:Int×List a0b=>0≤s.1∧s.1≤(l.length:Int)∧(s.2.length:Int)≤s.1) (fun s=>((l.length:Int)-s.1).toNat) ⟨h,hi,by simpa using h⟩ (by simp only;omega) (fun s hs=> ?_))
 refine tI (fun hh=> ?_) (fun hh=>tR (tR ⟨hs.1,hs.2.1⟩))
 have hlt:=dTT hh
 refine tY (a0J hs.1 hlt) (tB (x0r _) (fun y _=>tB (n0F _) (fun y2 _=> ?_)))
 have e1:IntKind.wrap .i64 (s.1+1)=s.1+1:=w64 (by omega) (by omega)
 rw[e1]
 refine tI (fun _=>tY (a0h (by simp;omega)) (tR ⟨⟨by simp only;omega,by simp only;omega,by simp;omega⟩,by simp only;omega⟩)) (fun _=> ?_)
 refine tI (fun _=>tI (fun _=>tR ⟨hs.1,hs.2.1⟩) (fun _=>tY (a0h (by simp;omega)) (tR ⟨⟨by simp only;omega,by simp only;omega,by simp;omega⟩,by simp only;omega⟩))) (fun _=> ?_)
 rw[j0a (by omega)]
 show Tot (bif _ then _ else _) _
 refine tI (fun hq=> ?_) (fun hq=> ?_)
 ·have:=h0d (dTT hq) (by omega)
  refine tY (a0h (by simp;omega)) (tR ?_)
  have e2:IntKind.wrap .i64 (s.1+2)=s.1+2:=w64 (by omega) (by omega)
  rw[e2]
  exact⟨⟨by simp only;omega,by simp only;omega,by simp;omega⟩,by simp only;omega⟩
 ·refine tB (p:=fun o:Int×List a0b=>s.1+1≤o.1∧o.1≤(l.length:Int)∧(o.2.length:Int)≤o.1) ?_ (fun o ho=> ?_)
  ·refine tL (fun t:Int×List a0b=>s.1+1≤t.1∧t.1≤(l.length:Int)∧(t.2.length:Int)≤t.1) (fun t=>((l.length:Int)-t.1).toNat) ⟨by simp only;omega,by simp only;omega,by simp only;omega⟩ (by simp only;omega) (fun t ht=> ?_)
   have f1:IntKind.wrap .i64 (t.1+1)=t.1+1:=w64 (by omega) (by omega)
   rw[f1]
   refine tJ (tB (p:=fun b=>b=true→t.1<l.length∧(nth l t.1=39→t.1+1<l.length)) ?_ (fun b hb=> ?_))
   ·refine tI (fun hh=> ?_) (fun _=>tR (fun h=>by cases h))
    have h3:=dTT hh
    refine tY (a0J (by omega) h3) (tI (fun hn=>tR (fun _=>⟨h3,fun he=>absurd he (dTT hn)⟩)) (fun _=> ?_))
    rw[j0a (by omega)]
    exact tR (fun hb=>⟨h3,fun _=>h0d (dTT hb) (by omega)⟩)
   ·cases b with
    |false=>exact tR ht
    |true=>
     obtain⟨g1,g2⟩:=hb rfl
     refine tR (show Tot _ _ from ?_)
     refine tY (a0J (by omega) g1) (tY (a0h (by simp;omega)) ?_)
     refine tB (p:=fun v=>t.1≤v∧v<l.length) (tY (a0J (by omega) g1) (tI (fun hh=>tR ⟨by omega,g2 (dTT hh)⟩) (fun _=>tR ⟨by omega,g1⟩))) (fun v hv=>tR ?_)
     have f2:IntKind.wrap .i64 (v+1)=v+1:=w64 (by omega) (by omega)
     rw[f2]
     exact⟨⟨by simp only;omega,by simp only;omega,by simp;omega⟩,by simp only;omega⟩
  ·refine tI (fun _=>tR ⟨hs.1,hs.2.1⟩) (fun hh=>tR ?_)
   have h3:=dFF hh
   have f1:IntKind.wrap .i64 (o.1+1)=o.1+1:=w64 (by omega) (by omega)
   rw[f1]
   exact⟨⟨by simp only;omega,by simp only;omega,by simp only;omega⟩,by simp only;omega⟩
/-! Patterns that are read. -/
def atP(l:List Int)(i mi:Int):Prop:=atV l i=48∨(atV l i=35∧mi=0)
theorem u0r {p:a0y} {l:List Int} {i:Int} (hl:l.length≤10000)(h:0≤i)(hi:i≤l.length)(hp:p.n_=0∧p.j_=0∧p.e_=0∧p.g_=0):
  Tot (b0p p l i) (fun o=>0≤o.2.1∧o.2.1≤l.length∧(o.2.2=true→0≤o.1.n_∧0≤o.1.j_∧0<o.1.n_+o.1.j_∧B0r (o.1.n_+o.1.j_) o.1.e_ o.1.g_)∧o.1.p_=p.p_∧o.1.k_=p.k_∧o.1.l_=p.l_∧o.1.m_=p.m_∧o.1.d_=p.d_∧o.1.G_=p.G_):=by
 unfold b0p
 obtain⟨p1,p2,p3,p4⟩:=hp
 refine tL (fun s:Int×Int×Int×Int×List Int=>(0≤s.1∧s.1≤(l.length:Int)∧(s.2.2.2.2.length:Int)≤s.1)∧0≤s.2.1∧0≤s.2.2.1∧0≤s.2.2.2.1∧s.2.2.1+s.2.2.2.1≤s.1∧(s.2.2.2.2.length=0→s.2.2.1+s.2.2.2.1=s.2.1)∧(s.2.2.2.2.length=1→s.2.1<s.2.2.1+s.2.2.2.1)∧(2≤s.2.2.2.2.length→1≤nth s.2.2.2.2 1∧s.2.1+nth s.2.2.2.2 1<s.2.2.1+s.2.2.2.1)∧(s.2.2.2.2≠ []→s.2.1=0→atP l s.1 s.2.2.2.1))
  (fun s=>((l.length:Int)-s.1).toNat) ⟨⟨h,hi,by simpa using h⟩,by simp only;omega,by simp only;omega,by simp only;omega,by simp only;omega,fun _=>by simp only;omega,fun h=>by simp at h,fun h=>by simp at h,fun h=>by simp at h⟩ (by simp only;omega) (fun s hs=> ?_)
 obtain⟨s1,n,ha,mi,gr⟩:=s
 obtain⟨⟨q1,q2,q3⟩,q4,q5,q6,q7,q8,q9,q10,q11⟩:=hs
 simp only at q1 q2 q3 q4 q5 q6 q7 q8 q9 q10 q11⊢
 have e1:IntKind.wrap .i64 (s1+1)=s1+1:=w64 (by omega) (by omega)
 rw[e1,j0a q1,j0a (l:=l) (i:=s1+1) (by omega)]
 show Tot (Option.bind _ _) _
 refine tJ (tB (p:=fun b=>b=decide (atV l s1=35∧mi=0)) ?_ (fun b hb=> ?_))
 ·refine tI (fun hq=>tR ?_) (fun hq=>tR ?_)
  ·have:=dTT hq;simp[this]
  ·have:=dFF hq;simp[this]
 ·by_cases c1:atV l s1=35∧mi=0
  ·rw[dT c1]at hb
   subst hb
   have hin:=h0d c1.1 (by omega)
   have e2:IntKind.wrap .i64 (n+1)=n+1:=w64 (by omega) (by omega)
   have e3:IntKind.wrap .i64 (ha+1)=ha+1:=w64 (by omega) (by omega)
   rw[e2,e3]
   exact tR ⟨⟨⟨by simp only;omega,by simp only;omega,by simp only;omega⟩,by simp only;omega,by simp only;omega,by simp only;omega,by simp only;omega,fun g=>by have:=q8 g;simp only;omega,fun g=>by have:=q9 g;simp only;omega,fun g=>by have:=q10 g;exact⟨this.1,by simp only;omega⟩,fun _ g=>by simp only at g;omega⟩,by simp only;omega⟩
  ·rw[dF c1]at hb
   subst hb
   refine tR (show Tot _ _ from ?_)
   refine tI (fun hq=> ?_) (fun hq0=> ?_)
   ·have:=h0d (dTT hq) (by omega)
    have e2:IntKind.wrap .i64 (n+1)=n+1:=w64 (by omega) (by omega)
    have e3:IntKind.wrap .i64 (mi+1)=mi+1:=w64 (by omega) (by omega)
    rw[e2,e3]
    exact tR ⟨⟨⟨by simp only;omega,by simp only;omega,by simp only;omega⟩,by simp only;omega,by simp only;omega,by simp only;omega,by simp only;omega,fun g=>by have:=q8 g;simp only;omega,fun g=>by have:=q9 g;simp only;omega,fun g=>by have:=q10 g;exact⟨this.1,by simp only;omega⟩,fun _ g=>by simp only at g;omega⟩,by simp only;omega⟩
   ·have hq0:=dFF hq0
    have hnat: ¬atP l s1 mi:=fun h=>h.elim hq0 c1
    refine tJ (tB (p:=fun b=>b=true→s1<l.length∧0<n∧atP l (s1+1) mi) ?_ (fun b hb=> ?_))
    ·refine tI (fun hq=> ?_) (fun _=>tR (fun h=>by cases h))
     have hin:=h0d (dTT hq) (by omega)
     refine tI (fun hq1=> ?_) (fun _=>tR (fun h=>by cases h))
     have hn:=dTT hq1
     refine tI (fun hq2=>tR (fun _=>⟨hin,hn, .inl (dTT hq2)⟩)) (fun _=>tI (fun hq2=>tR (fun h3=>⟨hin,hn, .inr ⟨dTT hq2,dTT h3⟩⟩)) (fun _=>tR (fun h=>by cases h)))
    ·cases b with
     |true=>
      obtain⟨h2,h3,h4⟩:=hb rfl
      refine tJ (tB (p:=fun b=>b=false→2≤gr.length→nth gr 1=n) ?_ (fun b hb=> ?_))
      ·refine tI (fun hq=> ?_) (fun hq=>tR (fun _ g=>absurd (show(gr.length:Int)≥2 by omega) (dFF hq)))
       have hq:=dTT hq
       exact tY (a0J (by omega) (by omega)) (tY (a0J (by omega) (by omega)) (tR (fun g _=>by have:=dFF g;omega)))
      ·cases b with
       |true=>exact tR ⟨q1,q2,fun h=>(by cases h),rfl,rfl,rfl,rfl,rfl,rfl⟩
       |false=>
        have hb:=hb rfl
        refine tR (show Tot _ _ from tY (a0h (by simp;omega)) (tR ?_))
        refine⟨⟨⟨by simp only;omega,by simp only;omega,by simp;omega⟩,by simp only;omega,by simp only;omega,by simp only;omega,by simp only;omega,fun g=>by simp at g,fun g=> ?_,fun g=> ?_,fun _ _=>h4⟩,by simp only;omega⟩
        ·simp at g
         have:=q8 (by simp[g])
         simp only;omega
        ·simp only[ag,aJ,bX]at g
         by_cases g1:gr.length=1
         ·obtain⟨x,rfl⟩:=cx.1 g1
          have:=q9 g1
          have e5:nth ([x]++ [n]) 1=n:=rfl
          simp only
          rw[e5]
          exact⟨by omega,by omega⟩
         ·have g2:2≤gr.length:=by omega
          have e5:nth (gr++ [n]) 1=nth gr 1:=by
           unfold nth
           simp only[av]
           rw[bQ (by omega)]
          have:=q10 g2
          simp only
          rw[e5]
          exact⟨this.1,by omega⟩
     |false=>
      refine tR (show Tot _ _ from ?_)
      have e4:IntKind.wrap .i64 (ha+mi)=ha+mi:=w64 (by omega) (by omega)
      rw[e4]
      have hn0:gr≠ []→0<n:=fun g=>by
       rcases Int.lt_or_le 0 n with h|h
       ·exact h
       ·exact absurd (q11 g (by omega)) hnat
      refine tB (p:=fun y=>y=if gr.length=1 then(n,n)else(0,0)) ?_ (fun y hy=>tB (p:=fun z=>z=if 1<gr.length then(n,nth gr 1)else y) ?_ (fun z hz=>tR ⟨q1,q2,fun h=>⟨q5,q6,dTT h, ?_⟩,rfl,rfl,rfl,rfl,rfl,rfl⟩))
      ·refine tI (fun hq=>tR ?_) (fun hq=>tR ?_)
       ·have:=dTT hq;rw[if_pos (by omega)]
       ·have:=dFF hq;rw[if_neg (by omega),p3,p4]
      ·refine tI (fun hq=> ?_) (fun hq=>tR ?_)
       ·have hq:=dTT hq
        refine tY (a0J (by omega) (by omega)) (tY (a0J (by omega) (by omega)) (tR ?_))
        rw[if_pos (by omega)]
       ·have:=dFF hq;rw[if_neg (by omega)]
      ·subst hz;subst hy
       simp only
       unfold B0r
       by_cases g0:gr=[]
       ·subst g0
        exact .inl ⟨rfl,rfl⟩
       ·have g1:0<gr.length:=List.length_pos_iff.2 g0
        have:=hn0 g0
        by_cases g2:gr.length=1
        ·rw[if_pos g2,if_neg (by omega)]
         have:=q9 g2
         exact .inr ⟨by simp only;omega,by simp only;omega,by simp only;omega,fun _=>rfl⟩
        ·have g3:2≤gr.length:=by omega
         rw[if_pos (by omega)]
         have:=q10 g3
         exact .inr ⟨by simp only;omega,by simp only;omega,by simp only;omega,fun h=>by simp only at h;omega⟩
theorem u0t {p:a0y} {l:List Int} {i:Int} (hl:l.length≤10000)(h:0≤i)(hi:i≤l.length)(hp:g0a p=y0P):
  Tot (b0q p l i) (fun o=>0≤o.2.1∧o.2.1≤l.length∧(o.2.2=true→i0P (g0a o.1))):=by
 simp only[g0a,y0P,aP]at hp
 obtain⟨p1,p2,p3,p4,p5,p6,p7,p8,p9,p10⟩:=hp
 unfold b0q
 refine tB (l0P hl h hi (by omega)) (fun n hn=> ?_)
 have e1:IntKind.wrap .i64 (i+n)=i+n:=w64 (by omega) (by omega)
 rw[e1]
 refine tJ (Tot.mono (p:=fun x=>match x with
  | .inl s=>(0≤s.1∧s.1≤l.length)∧s.2.2.2.2.2.2.2.2.2.2.2.2.2.2.1=0∧s.2.2.2.2.2.2.2.2.2.2.2.2.2.2.2.1=false∧i0P (s.2.2.2.2.2.2.1,s.2.2.2.2.2.2.2.1,s.2.2.2.2.2.2.2.2.1,s.2.2.2.2.2.2.2.2.2.1,s.2.2.2.2.2.2.2.2.2.2.1,s.2.2.2.2.2.2.2.2.2.2.2.1,s.2.2.2.2.2.2.2.2.2.2.2.2.1,s.2.2.2.2.2.2.2.2.2.2.2.2.2.1,0,false)
  | .inr r=>0≤r.2.1∧r.2.1≤l.length∧(r.2.2=true→i0P (g0a r.1))) ?_ (fun x hx=> ?_))
 ·refine tI (fun hq=> ?_) (fun hq=> ?_)
  ·have hq:=dTT hq
   refine tB (l0P hl (i:=i+n) (by omega) (by omega) (by omega)) (fun m hm=>tR ?_)
   rw[w64 (n:=i+n+m) (by omega) (by omega),w64 (n:=n+m) (by omega) (by omega)]
   refine⟨⟨by simp only;omega,by simp only;omega⟩,p9,p10, ?_⟩
   simp only[i0P,p1,p2,p3,p4,p5,p6]
   exact⟨by omega,by omega,by omega,by omega,by omega,by omega,by omega,fun _=>trivial,fun _=>by omega,fun _=>⟨trivial,trivial,trivial,trivial⟩, .inl ⟨rfl,rfl⟩⟩
  ·have hq:=dFF hq
   refine tB (u0r hl h hi ⟨p1,p2,p5,p6⟩) (fun y hy=> ?_)
   obtain⟨y1,y2,y3,y4,y5,y6,y7,y8,y9⟩:=hy
   refine tI (fun _=>tR ⟨y1,y2,fun h=>(by cases h)⟩) (fun hok=> ?_)
   obtain⟨z1,z2,z3,z4⟩:=y3 (by simpa using hok)
   rw[j0a y1]
   show Tot (bif _ then _ else _) _
   refine tI (fun hq=> ?_) (fun _=>tR ⟨⟨y1,y2⟩,by simp only[y8,p9],by simp only[y9,p10], ?_⟩)
   ·have hin:=h0d (dTT hq) (by omega)
    have f1:IntKind.wrap .i64 (y.2.1+1)=y.2.1+1:=w64 (by omega) (by omega)
    rw[f1]
    refine tB (l0P hl (i:=y.2.1+1) (by omega) (by omega) (by omega)) (fun a ha=> ?_)
    have f2:IntKind.wrap .i64 (y.2.1+1+a)=y.2.1+1+a:=w64 (by omega) (by omega)
    rw[f2]
    refine tB (l0P hl (i:=y.2.1+1+a) (by omega) (by omega) (by omega)) (fun b hb=> ?_)
    have f3:IntKind.wrap .i64 (y.2.1+1+a+b)=y.2.1+1+a+b:=w64 (by omega) (by omega)
    have f4:IntKind.wrap .i64 (a+b)=a+b:=w64 (by omega) (by omega)
    rw[f3,f4]
    refine tI (fun _=>tR ⟨by simp only;omega,by simp only;omega,fun h=>(by cases h)⟩) (fun _=>tR ⟨⟨by simp only;omega,by simp only;omega⟩,by simp only[y8,p9],by simp only[y9,p10], ?_⟩)
    simp only[i0P,y6,y7,p7,p8]
    exact⟨z1,z2,by omega,by omega,by omega,by omega,by omega,fun _=>trivial,fun _=>⟨trivial,z3⟩,fun h=>by omega,z4⟩
   ·simp only[i0P,y4,y5,y6,y7,p3,p4,p7,p8]
    exact⟨z1,z2,by omega,by omega,by omega,by omega,by omega,fun _=>trivial,fun _=>⟨trivial,z3⟩,fun h=>by omega,z4⟩
 ·cases x with
  |inr r=>exact hx
  |inl s=>
   obtain⟨⟨s1,s2⟩,s3,s4,s5⟩:=hx
   show Tot (Option.bind _ _) _
   rw[j0a s1]
   show Tot (bif _ then _ else _) _
   refine tI (fun _=>tR ⟨s1,s2,fun _=> ?_⟩) (fun hq=> ?_)
   ·simp only[g0a,s3,s4];exact s5
   have hq:atV l s.1=69:=by have:=dFF hq;omega
   have hin:=h0d hq (by omega)
   have f1:IntKind.wrap .i64 (s.1+1)=s.1+1:=w64 (by omega) (by omega)
   rw[f1,j0a (by omega)]
   refine tB (p:=fun t:Int×Bool=>0≤t.1∧t.1≤(l.length:Int)) ?_ (fun t ht=> ?_)
   ·show Tot (bif _ then _ else _) _
    refine tI (fun hq=> ?_) (fun _=>tR ⟨by simp only;omega,by simp only;omega⟩)
    have:=h0d (dTT hq) (by omega)
    rw[w64 (n:=s.1+1+1) (by omega) (by omega)]
    exact tR ⟨by simp only;omega,by simp only;omega⟩
   ·refine tB (l0P hl ht.1 ht.2 (by omega)) (fun n hn=>tR ?_)
    rw[w64 (n:=t.1+n) (by omega) (by omega)]
    refine⟨by simp only;omega,by simp only;omega,fun hex=> ?_⟩
    have hex:=dTT hex
    simp only[g0a,i0P]at s5⊢
    obtain⟨c1,c2,c3,c4,c5,c6,c7,c8,c9,c10,c11⟩:=s5
    exact⟨c1,c2,c3,c4,c5,c6,by omega,fun h=>by omega,c9,c10,c11⟩
theorem w0q {l:List Int} (hl:l.length≤10000):Tot (b0m l) (fun o=>o.2.2.2.2=true→i0P (g0a o.1)∧0≤o.2.1∧o.2.2.1≤l.length∧0≤o.2.2.2.1∧o.2.2.2.1≤l.length):=by
 unfold b0m
 refine tB (p0J hl (by omega) (by omega)) (fun a ha=>tI (fun _=>tR (fun h=>by cases h)) (fun h1=> ?_))
 have h1:a.2.2=true:=by simpa using h1
 refine tB (m0g hl ha.1 (ha.2.1 h1)) (fun b hb=>tI (fun _=>tR (fun h=>by cases h)) (fun h2=> ?_))
 refine tB (p0J hl hb.1 hb.2) (fun c hc=>tI (fun _=>tR (fun h=>by cases h)) (fun h3=> ?_))
 have h3:c.2.2=true:=by simpa using h3
 have hpc:g0a c.1=y0P:=hc.2.2.trans ha.2.2
 refine tB (u0t hl hc.1 (hc.2.1 h3) hpc) (fun d hd=>tI (fun _=>tR (fun h=>by cases h)) (fun h4=> ?_))
 have h4:d.2.2=true:=by simpa using h4
 refine tB (p0J hl hd.1 hd.2.1) (fun e he=>tI (fun _=>tR (fun h=>by cases h)) (fun h5=> ?_))
 have h5:e.2.2=true:=by simpa using h5
 refine tB (m0g hl he.1 (he.2.1 h5)) (fun f hf=>tI (fun _=>tR (fun h=>by cases h)) (fun h6=> ?_))
 refine tB (p0J hl hf.1 hf.2) (fun g hg=>tR (fun h7=>⟨?_,hc.1,hd.2.1,hg.1,hg.2.1 h7⟩))
 have hn:g0a g.1=g0a d.1:=hg.2.2.trans he.2.2
 rw[hn]
 exact hd.2.2 h4
theorem w0U {l:List Int} {i:Int} (hl:l.length≤10000)(h:0≤i):Tot (a0H l i) (fun _=>True):=by
 by_cases hi:i≤l.length
 ·exact(m0g hl h hi).any
 ·unfold a0H
  refine tJ (tL (fun s:Int×List a0b=>(l.length:Int)<s.1) (fun _=>0) (by simp only;omega) (by decide) (fun s hs=> ?_))
  rw[dF (show¬s.1<(l.length:Int) by omega)]
  exact tR (tR trivial)
theorem u0f {p:a0y} {l:List Int} {i a b:Int} (hl:l.length≤10000)(h:0≤i)(hi:i≤l.length)(ha:0≤a)(hb:b≤l.length):
  Tot (b0o p l i a b) (fun o=>g0a o.1=g0a p):=by
 unfold b0o
 refine tB (m0g hl h hi) (fun c hc=>tI (fun _=>tR rfl) (fun _=> ?_))
 refine tJ (Tot.mono (p:=fun x=>match x with| .inl s=>0≤s| .inr r=>g0a r.1=g0a p) ?_ (fun x hx=> ?_))
 ·refine tL (fun s:Int×Int=>0≤s.1∧s.1≤(l.length:Int)+s.2∧0≤s.2) (fun s=>(b-s.2).toNat) ⟨hc.1,by simp only;omega,ha⟩ (by simp only;omega) (fun s hs=> ?_)
  refine tI (fun hh=> ?_) (fun _=>tR hs.1)
  have hh:=dTT hh
  rw[j0a hs.1]
  show Tot (bif _ then _ else _) _
  refine tY (a0J hs.2.2 (by omega)) (tI (fun _=>tR rfl) (fun hq=>tR ?_))
  have e1:IntKind.wrap .i64 (s.1+1)=s.1+1:=w64 (by omega) (by omega)
  have e2:IntKind.wrap .i64 (s.2+1)=s.2+1:=w64 (by omega) (by omega)
  rw[e1,e2]
  exact⟨⟨by simp only;omega,by simp only;omega,by simp only;omega⟩,by simp only;omega⟩
 ·cases x with
  |inr r=>exact hx
  |inl s=>
   show Tot _ _
   exact tB (w0U hl hx) (fun d hd=>tR rfl)
/-! Texts of patterns, read: there is an answer. -/
theorem u0Y {b:List Int} {at' k n:Int} (hl:b.length≤100000)(h:0≤at')(ha:at'≤b.length)(hk:0≤k)(hk2:k≤3):Tot (a0p b at' k n) (fun _=>True):=by
 unfold a0p
 rw[w64 (n:=at'+k) (by omega) (by omega)]
 refine tI (fun _=>tR trivial) (fun hh=> ?_)
 have hh:=dFF hh
 refine tJ (tL (fun s:Int×Int=>1≤s.2∧s.2≤k+1) (fun s=>(k+1-s.2).toNat) ⟨by simp only;omega,by simp only;omega⟩ (by simp only;omega) (fun s hs=> ?_))
 refine tI (fun hq=> ?_) (fun _=>tR (tR trivial))
 have hq:=dTT hq
 have e1:IntKind.wrap .i64 (at'+s.2)=at'+s.2:=w64 (by omega) (by omega)
 have e2:IntKind.wrap .i64 (s.2+1)=s.2+1:=w64 (by omega) (by omega)
 rw[e1,e2]
 refine tJ (tY (a0J (by omega) (by omega)) ?_)
 refine tJ (tB (p:=fun _=>True) ?_ (fun c _=> ?_))
 ·exact tI (fun _=>tR trivial) (fun _=>tR trivial)
 ·cases c with
  |true=>exact tR trivial
  |false=>exact tR (tR (tR ⟨⟨by simp only;omega,by simp only;omega⟩,by simp only;omega⟩))
theorem z0m {b:List Int} {at':Int} (hl:b.length≤100000)(h:0≤at')(ha:at'<b.length):Tot (a0S b at') (fun n=>n<0∨a0B (IntKind.wrap .i32 n)=some true):=by
 unfold a0S
 refine tY (a0J h ha) ?_
 have ht: ∀k n,0≤k→k≤3→Tot (a0p b at' k n) (fun _=>True):=fun k n h1 h2=>u0Y hl h (by omega) h1 h2
 refine tB (p:=fun _=>True) (tI (fun _=>tR trivial) (fun _=>tR trivial)) (fun a _=> ?_)
 refine tB (p:=fun _=>True) ?_ (fun a _=>tB (p:=fun _=>True) ?_ (fun a _=>tB (p:=fun _=>True) ?_ (fun a _=> ?_)))
 ·refine tB (p:=fun _=>True) (tI (fun _=>tR trivial) (fun _=>tR trivial)) (fun _ _=>tI (fun _=>tB (ht 1 _ (by omega) (by omega)) (fun _ _=>tR trivial)) (fun _=>tR trivial))
 ·refine tB (p:=fun _=>True) (tI (fun _=>tR trivial) (fun _=>tR trivial)) (fun _ _=>tI (fun _=>tB (ht 2 _ (by omega) (by omega)) (fun _ _=>tR trivial)) (fun _=>tR trivial))
 ·refine tB (p:=fun _=>True) (tI (fun _=>tR trivial) (fun _=>tR trivial)) (fun _ _=>tI (fun _=>tB (ht 3 _ (by omega) (by omega)) (fun _ _=>tR trivial)) (fun _=>tR trivial))
 ·obtain⟨v,hv,_⟩:=t0w (IntKind.wrap .i32 a.1)
  rw[hv]
  show Tot (Option.bind _ _) _
  refine tJ (tB (p:=fun c=>c=false→v=true) (tI (fun _=>tR (fun h=>by cases h)) (fun _=>tR (fun h=>by simpa using h))) (fun c hc=> ?_))
  cases c with
  |true=>exact tR (.inl (by decide))
  |false=>exact tR (tR (.inr (by rw[hv,hc rfl])))
theorem u0E {b:List Int} (hl:b.length≤100000):Tot (a0L b) (fun _=>True):=by
 unfold a0L
 refine tJ (tL (fun s:Int×List Int=>0≤s.1∧s.1≤(b.length:Int)+4∧(s.2.length:Int)≤s.1) (fun s=>((b.length:Int)+4-s.1).toNat) ⟨by simp only;omega,by simp only;omega,by simp⟩ (by simp only;omega) (fun s hs=> ?_))
 refine tI (fun hq=> ?_) (fun _=>tR (tR trivial))
 have hq:=dTT hq
 refine tB (z0m hl hs.1 hq) (fun n hn=>tI (fun _=>tR trivial) (fun hneg=> ?_))
 have hneg:=dFF hneg
 have his:=hn.resolve_left hneg
 refine tY (a0h (by simp;omega)) (tB (t0f _) (fun z hz=>tR ?_))
 have h1:=hz.2.2 his
 have e1:IntKind.wrap .i64 (s.1+z)=s.1+z:=w64 (by omega) (by omega)
 rw[e1]
 exact⟨⟨by simp only;omega,by simp only;omega,by simp;omega⟩,by simp only;omega⟩
theorem j0y {t:List UInt8} {n:Int} (ht:t.length≤1)(hn:n≤1000):Tot (a0V t n) (fun l=>l.length≤1000):=by
 unfold a0V
 refine tB (p:=fun l=>l.length≤1000) ?_ (fun _ h=>tR h)
 refine tL (fun s:List UInt8×Int=>0≤s.2∧s.2≤1000∧(s.1.length:Int)≤s.2) (fun s=>(1000-s.2).toNat) ⟨by simp only;omega,by simp only;omega,by simp⟩ (by simp only;omega) (fun s hs=> ?_)
 refine tI (fun hq=> ?_) (fun _=>tR (by simp only;omega))
 have hq:=dTT hq
 refine tY (a0h (by omega)) (tR ?_)
 have e1:IntKind.wrap .i64 (s.2+1)=s.2+1:=w64 (by omega) (by omega)
 rw[e1]
 exact⟨⟨by simp only;omega,by simp only;omega,by simp;omega⟩,by simp only;omega⟩
def r0L(p:a0y):Prop:=(0≤p.n_∧p.n_≤40)∧(0≤p.j_∧p.j_≤40)∧(0≤p.p_∧p.p_≤40)∧(0≤p.k_∧p.k_≤40)∧(0≤p.e_∧p.e_≤40)∧(0≤p.g_∧p.g_≤40)∧(0≤p.l_∧p.l_≤40)∧(0≤p.m_∧p.m_≤40)∧(0≤p.d_∧p.d_≤40)
theorem o0a {p:a0y} (hp:r0L p):Tot (b0r p) (fun l=>l.length≤8000):=by
 obtain⟨c1,c2,c3,c4,c5,c6,c7,c8,c9⟩:=hp
 unfold b0r
 have e0:IntKind.wrap .i64 (p.n_+p.j_)=p.n_+p.j_:=w64 (by omega) (by omega)
 have e1:IntKind.wrap .i64 (p.m_-p.l_)=p.m_-p.l_:=w64 (by omega) (by omega)
 have e2:IntKind.wrap .i64 (p.k_-p.p_)=p.k_-p.p_:=w64 (by omega) (by omega)
 rw[e0,e1,e2]
 refine tB (p:=fun l=>l.length≤200) ?_ (fun a ha=> ?_)
 ·refine tL (fun s:List UInt8×Int=>0≤s.2∧s.2≤80∧(s.1.length:Int)≤2*s.2) (fun s=>(80-s.2).toNat) ⟨by simp only;omega,by simp only;omega,by simp⟩ (by simp only;omega) (fun s hs=> ?_)
  refine tI (fun hq=> ?_) (fun _=>tR (by simp only;omega))
  have hq:=dTT hq
  have f1:IntKind.wrap .i64 (s.2+1)=s.2+1:=w64 (by omega) (by omega)
  rw[f1]
  refine tB (p:=fun l=>(l.length:Int)≤s.1.length+2) ?_ (fun b hb=>tR ⟨⟨by simp only;omega,by simp only;omega,by simp only;omega⟩,by simp only;omega⟩)
  refine tB (p:=fun l=>(l.length:Int)≤s.1.length+1) ?_ (fun b hb=> ?_)
  ·refine tB (p:=fun _=>True) ?_ (fun g _=>tI (fun _=>tY (a0h (by simp;omega)) (tR (by simp))) (fun _=>tR (by omega)))
   refine tI (fun _=>tI (fun _=>tR trivial) (fun _=>tI (fun _=>tI (fun hg=> ?_) (fun _=>tR trivial)) (fun _=>tR trivial))) (fun _=>tR trivial)
   have hg:=dTT hg
   exact tY (by unfold nz;rw[dF (by omega)];rfl) (tR trivial)
  ·exact tI (fun _=>tY (a0h (by simp;omega)) (tR (by simp;omega))) (fun _=>tY (a0h (by simp;omega)) (tR (by simp;omega)))
 ·refine tB (j0y (by simp) (by omega)) (fun b hb=>tB (j0y (by simp) (by omega)) (fun c hc=> ?_))
  refine tY (a0h (by omega)) (tY (a0h (by simp;omega)) ?_)
  refine tB (p:=fun l=>l.length≤5000) ?_ (fun d hd=> ?_)
  ·refine tI (fun _=>tY (a0h (by simp;omega)) (tB (j0y (by simp) (by omega)) (fun e he=>tY (a0h (by simp;omega)) (tB (j0y (by simp) (by omega)) (fun f hf=>tY (a0h (by simp;omega)) (tR (by simp;omega))))))) (fun _=>tR (by simp;omega))
  ·refine tB (p:=fun l=>l.length≤8000) ?_ (fun d hd=>tR hd)
   refine tI (fun _=>tY (a0h (by simp;omega)) (tB (p:=fun l=>l.length≤5002) ?_ (fun e he=>tB (j0y (by simp) (by omega)) (fun f hf=>tY (a0h (by omega)) (tR (by simp;omega)))))) (fun _=>tR (by omega))
   exact tI (fun _=>tY (a0h (by simp;omega)) (tR (by simp;omega))) (fun _=>tR (by simp;omega))
theorem i0q {l:List a0b} (hl:l.length≤300):Tot (a0P l) (fun t=>t.length≤3000):=by
 unfold a0P
 refine tB (p:=fun s=>s.1.length≤2999) ?_ (fun s hs=>tB (p:=fun t=>t.length≤3000) (tI (fun _=>tY (a0h (by simp;omega)) (tR (by simp;omega))) (fun _=>tR (by omega))) (fun _ h=>tR h))
 refine tL (fun s:List UInt8×Bool×Int=>0≤s.2.2∧s.2.2≤(l.length:Int)∧(s.1.length:Int)≤8*s.2.2) (fun s=>((l.length:Int)-s.2.2).toNat) ⟨by simp only;omega,by simp only;omega,by simp⟩ (by simp only;omega) (fun s hs=> ?_)
 refine tI (fun hq=> ?_) (fun _=>tR (by simp only;omega))
 have hq:=dTT hq
 have hin:=a0J hs.1 hq
 have f1:IntKind.wrap .i64 (s.2.2+1)=s.2.2+1:=w64 (by omega) (by omega)
 rw[f1]
 refine tB (p:=fun t=>(t.1.length:Int)≤s.1.length+8) ?_ (fun t ht=>tR ⟨⟨by simp only;omega,by simp only;omega,by simp only;omega⟩,by simp only;omega⟩)
 refine tY hin (tB (n0F _) (fun sp _=>tB (p:=fun _=>True) ?_ (fun ap _=>tB (p:=fun _=>True) ?_ (fun qu _=>tB (p:=fun t=>(t.1.length:Int)≤s.1.length+1) ?_ (fun t ht=> ?_)))))
 ·exact tY hin (tI (fun _=>tY hin (tR trivial)) (fun _=>tR trivial))
 ·exact tY hin (tI (fun _=>tR trivial) (fun _=>tR trivial))
 ·exact tB (p:=fun _=>True) (tI (fun _=>tR trivial) (fun _=>tR trivial)) (fun _ _=>tI (fun _=>tY (a0h (by simp;omega)) (tR (by simp))) (fun _=>tR (by simp only;omega)))
 ·have sgn: ∀c:UInt8,Tot (bif room (t.1.length+([c]:List UInt8).length)then(some ((t.1++([c]:List UInt8)),t.2))else none) (fun u=>(u.1.length:Int)≤s.1.length+8):=fun c=>tY (a0h (by simp;omega)) (tR (by simp;omega))
  refine tY hin (tI (fun _=>tY hin (tB (p0v _) (fun x hx=>tY (a0h (by omega)) (tI (fun _=>tY (a0h (by simp;omega)) (tR (by simp;omega))) (fun _=>tR (by simp;omega)))))) (fun _=>tI (fun _=>sgn _) (fun _=>tI (fun _=>sgn _) (fun _=>tI (fun _=>sgn _) (fun _=>tI (fun _=> ?_) (fun _=>tR (by simp only;omega)))))))
  exact tB (p0v _) (fun x hx=>tY (a0h (by omega)) (tR (by simp;omega)))
theorem k0v(p:a0y)(w:Int):Tot (b0a p w) (fun t=>t.length≤5):=by
 unfold b0a
 exact tI (fun _=>tB (p0v _) (fun x hx=>tY (a0h (by simp;omega)) (tR (by simp;omega)))) (fun _=>tR (by simp))
theorem n0U {p:a0y} (hp:r0L p)(h1:p.a_.length≤300)(h2:p.b_.length≤300)(h3:p.i_.length≤300)(h4:p.h_.length≤300):Tot (b0j p) (fun t=>t.length≤50000):=by
 unfold b0j
 refine tB (k0v p 1) (fun a ha=>tB (i0q h1) (fun b hb=>tY (a0h (by omega)) ?_))
 refine tB (k0v p 2) (fun c hc=>tY (a0h (by simp;omega)) (tB (o0a hp) (fun d hd=>tY (a0h (by simp;omega)) ?_)))
 refine tB (k0v p 3) (fun e he=>tY (a0h (by simp;omega)) (tB (i0q h2) (fun f hf=>tY (a0h (by simp;omega)) ?_)))
 refine tB (k0v p 4) (fun g hg=>tY (a0h (by simp;omega)) ?_)
 refine tB (p:=fun t=>t.length≤50000) ?_ (fun _ h=>tR h)
 refine tI (fun _=> ?_) (fun _=>tR (by simp;omega))
 refine tY (a0h (by simp;omega)) (tB (i0q h3) (fun i hi=>tY (a0h (by simp;omega)) (tB (o0a hp) (fun j hj=>tY (a0h (by simp;omega)) (tB (i0q h4) (fun k hk=>tY (a0h (by simp;omega)) (tR (by simp;omega))))))))
theorem j0M {t:List UInt8} (ht:t.length≤100000):Tot (a0m t) (fun o=>o.2.2=0→i0P (g0a o.1)):=by
 unfold a0m
 refine tB (u0E (by rw[f0S];exact ht)) (fun d _=>tI (fun _=>tR (fun h=>by cases h)) (fun _=>tI (fun _=>tR (fun h=>by cases h)) (fun h1=> ?_)))
 have h1:=dFF h1
 have hl:d.1.length≤10000:=by omega
 refine tB (w0q hl) (fun f hf=> ?_)
 refine tB (p:=fun s=>s.2.1=true→i0P (s.2.2.2.2.2.2.2.1,s.2.2.2.2.2.2.2.2.1,s.2.2.2.2.2.2.2.2.2.1,s.2.2.2.2.2.2.2.2.2.2.1,s.2.2.2.2.2.2.2.2.2.2.2.1,s.2.2.2.2.2.2.2.2.2.2.2.2.1,s.2.2.2.2.2.2.2.2.2.2.2.2.2.1,s.2.2.2.2.2.2.2.2.2.2.2.2.2.2.1,s.2.2.2.2.2.2.2.2.2.2.2.2.2.2.2.1,s.2.2.2.2.2.2.2.2.2.2.2.2.2.2.2.2.1)) ?_ (fun s hs=> ?_)
 ·refine tB (p:=fun b=>b=true→f.2.2.2.2=true∧f.2.2.2.1<d.1.length) ?_ (fun b hb=> ?_)
  ·refine tI (fun hq=> ?_) (fun _=>tR (fun h=>by cases h))
   rw[j0a (hf hq).2.2.2.1]
   exact tR (fun h=>⟨hq,h0d (dTT h) (by omega)⟩)
  ·refine tI (fun hq=> ?_) (fun _=>tR (fun h=>(hf h).1))
   obtain⟨g1,g2⟩:=hb hq
   have g:=hf g1
   have f1:IntKind.wrap .i64 (f.2.2.2.1+1)=f.2.2.2.1+1:=w64 (by omega) (by omega)
   rw[f1]
   exact tB (u0f hl (by omega) (by omega) g.2.1 g.2.2.1) (fun o ho=>tR (fun _=>by have g0:=g.1;rw[←ho]at g0;exact g0))
 ·refine tJ (tB (p:=fun b=>b=false→s.2.1=true) (tI (fun _=>tR (fun h=>by cases h)) (fun h=>tR (fun _=>by simpa using h))) (fun b hb=> ?_))
  cases b with
  |true=>exact tR (fun h=>by cases h)
  |false=>
   have hs:=hs (hb rfl)
   refine tR (show Tot _ _ from tJ (tB (p:=fun _=>True) ?_ (fun b _=> ?_)))
   ·repeat' (first|exact tR trivial|refine tI (fun _=> ?_) (fun _=> ?_))
   ·cases b with
    |true=>exact tR (fun h=>by cases h)
    |false=>exact tR (tR (fun _=>hs))
theorem p0u {x y:List a0b} (hl:x.length≤4611686018427387904):c0k x y=some (decide (x=y)):=q0v hl
theorem n0i {a b:a0y} (hl:A0h a):c0m a b=some (decide (a=b)):=by
 obtain⟨l1,l2,l3,l4⟩:=hl
 unfold c0m
 rw[p0u l1,p0u l2,p0u l3,p0u l4]
 simp only[aa]
 obtain⟨p1,p2,p3,p4,p5,p6,p7,p8,p9,p10,p11,p12,p13,p14,p15,p16,p17⟩:=a
 obtain⟨q1,q2,q3,q4,q5,q6,q7,q8,q9,q10,q11,q12,q13,q14,q15,q16,q17⟩:=b
 simp only[a0y.mk.injEq]
 by_cases h1:p1=q1
 ·by_cases h2:p2=q2
  ·by_cases h3:p3=q3
   ·by_cases h4:p4=q4
    ·by_cases h16:p16=q16
     ·by_cases h17:p17=q17
      ·by_cases h6:p6=q6<;>by_cases h7:p7=q7<;>by_cases h10:p10=q10<;>by_cases h11:p11=q11<;>cases p5<;>cases q5<;>cases p15<;>cases q15<;>simp[h1,h2,h3,h4,h6,h7,h10,h11,h16,h17,a0g]<;>(by_cases h8:p8=q8<;>by_cases h9:p9=q9<;>by_cases h12:p12=q12<;>by_cases h13:p13=q13<;>simp[h8,h9,h12,h13])
      ·cases p5<;>cases q5<;>simp[h1,h2,h3,h4,h16,h17,a0g]
     ·cases p5<;>cases q5<;>simp[h1,h2,h3,h4,h16,a0g]
    ·simp[h1,h2,h3,h4,a0g]
   ·simp[h1,h2,h3,a0g]
  ·by_cases h3:p3=q3<;>simp[h1,h2,h3,a0g]
 ·by_cases h3:p3=q3<;>simp[h1,h3,a0g]
theorem l0D {l:List a0b} (hl:l.length≤1000):Tot (b0e l) (fun _=>True):=by
 unfold b0e
 refine tJ (tL (fun s:Int=>0≤s∧s≤(l.length:Int)) (fun s=>((l.length:Int)-s).toNat) ⟨by omega,by omega⟩ (by omega) (fun s hs=> ?_))
 refine tI (fun hq=> ?_) (fun _=>tR (tR trivial))
 have hq:=dTT hq
 have f1:IntKind.wrap .i64 (s+1)=s+1:=w64 (by omega) (by omega)
 rw[f1]
 exact tY (a0J hs.1 hq) (tB (t0w _) (fun _ _=>tI (fun _=>tR trivial) (fun _=>tR ⟨⟨by omega,by omega⟩,by omega⟩)))
def y0m(p:a0y):Prop:=r0L p∧i0P (g0a p)∧ ∃t i,b0j p=some t∧a0m t=some (p,i,0)
theorem u0q {p:a0y} (h1:p.a_.length≤300)(h2:p.b_.length≤300)(h3:p.i_.length≤300)(h4:p.h_.length≤300):Tot (a0X p) (fun b=>b=true→y0m p):=by
 unfold a0X
 generalize hL:([p.n_,p.j_,p.p_,p.k_,p.e_,p.g_,p.l_,p.m_,p.d_]:List Int)=L
 have hlen:L.length=9:=by rw[←hL];rfl
 refine tJ (tL (fun s:Int=>0≤s∧s≤(L.length:Int)∧ ∀j:Nat,(j:Int)<s→0≤nth L j∧nth L j≤40) (fun s=>((L.length:Int)-s).toNat) ⟨by omega,by omega,fun j hj=>by omega⟩ (by omega) (fun s hs=> ?_))
 refine tI (fun hq=> ?_) (fun hq=>tR (show Tot _ _ from ?_))
 ·have hq:=dTT hq
  have hin:=a0J hs.1 hq
  refine tJ (tB (p:=fun b=>b=false→0≤nth L s∧nth L s≤40) ?_ (fun b hb=> ?_))
  ·refine tY hin (tY hin (tI (fun _=>tR (fun h=>by cases h)) (fun g1=>tY hin (tY hin (tR (fun g2=> ?_))))))
   have g1:=dFF g1
   have g2:=dFF g2
   omega
  ·cases b with
   |true=>exact tR (fun h=>by cases h)
   |false=>
    have hb:=hb rfl
    refine tR (show Tot _ _ from tR ?_)
    have f1:IntKind.wrap .i64 (s+1)=s+1:=w64 (by omega) (by omega)
    rw[f1]
    refine⟨⟨by omega,by omega,fun j hj=> ?_⟩,by omega⟩
    by_cases hjs:(j:Int)<s
    ·exact hs.2.2 j hjs
    ·have:(j:Int)=s:=by omega
     rw[this];exact hb
 ·have hq:=dFF hq
  have hall:=hs.2.2
  have hs9:s=9:=by omega
  subst hs9
  subst hL
  have hc:r0L p:=⟨hall 0 (by omega),hall 1 (by omega),hall 2 (by omega),hall 3 (by omega),hall 4 (by omega),hall 5 (by omega),hall 6 (by omega),hall 7 (by omega),hall 8 (by omega)⟩
  have r1:=l0D (l:=p.a_) (by omega)
  have r2:=l0D (l:=p.b_) (by omega)
  have r3:=l0D (l:=p.i_) (by omega)
  have r4:=l0D (l:=p.h_) (by omega)
  refine tB (t0w _) (fun _ _=> ?_)
  refine tB (p:=fun _=>True) (tB r1 (fun _ _=>tI (fun _=>tB r2 (fun _ _=>tR trivial)) (fun _=>tR trivial))) (fun _ _=> ?_)
  refine tB (p:=fun _=>True) (tB r3 (fun _ _=>tI (fun _=>tB r4 (fun _ _=>tR trivial)) (fun _=>tR trivial))) (fun _ _=> ?_)
  refine tJ (tB (p:=fun _=>True) ?_ (fun b _=> ?_))
  ·repeat' (first|exact tR trivial|refine tI (fun _=> ?_) (fun _=> ?_))
  ·cases b with
   |true=>exact tR (fun h=>by cases h)
   |false=>
    obtain⟨t,ht,htl⟩:=n0U hc h1 h2 h3 h4
    rw[ht]
    obtain⟨o,ho,hoc⟩:=j0M (t:=t) (by omega)
    refine tR (show Tot _ _ from ?_)
    show Tot (Option.bind (a0m t) _) _
    rw[ho]
    show Tot (Option.bind _ _) _
    refine tB (p:=fun b=>b=true→y0m p) (tI (fun g=> ?_) (fun _=>tR (fun h=>by cases h))) (fun _ h=>tR h)
    rw[n0i ⟨by omega,by omega,by omega,by omega⟩]
    refine tR (fun e=> ?_)
    have e:=dTT e
    have g2:=dTT g
    obtain⟨o1,o2,o3⟩:=o
    simp only at e g2
    subst e;subst g2
    exact⟨hc,hoc rfl,t,o2,ht,ho⟩
/-! The text of a number. -/
def asc(l:List Int):Prop:= ∀c∈l,0≤c∧c<128
theorem n0G {n:Int} (h0:0≤n)(h1:n≤121):d0A n=some n:=by
 unfold d0A t0q B0f
 congr 1
 repeat' split
 all_goals omega
theorem h0Z {out:List Int} {c n:Int} (h0:0≤n)(h1:n≤121)(ho:out.length≤1000000):b0n out c n=some (out++List.replicate n.toNat c):=by
 unfold b0n
 rw[n0G h0 h1]
 simp only[aa]
 obtain⟨m,rfl⟩: ∃m:Nat,n=m:=⟨n.toNat,by omega⟩
 have hm:m≤121:=by omega
 obtain⟨o,h2,h3⟩:=d0t (step:=fun(s33:Int×(List Int))=>(bif(decide (s33.1<(m:Int)))then(bif room (s33.2.length+([c]:List Int).length)then(some (.inl ((IntKind.wrap .i64 (s33.1+1)),(s33.2++([c]:List Int)))))else none)else(some (.inr s33.2)))) m (fun i=>((i:Int),out++List.replicate i c)) (fun _=>True) (fun o=>o=out++List.replicate m c) (s0:=(0,out)) (by simp) trivial (fun i hi _=>by
  left
  refine⟨?_,trivial⟩
  simp only
  rw[dT (by omega),a0h (by simp;omega),w64 (by omega) (by omega)]
  simp only[cond_true]
  congr 1
  rw[aL,←List.replicate_succ']
  rfl) (fun _=>⟨out++List.replicate m c,by simp only;rw[dF (by omega)];rfl,rfl⟩) (by omega)
 rw[h2,h3]
 simp
def o0D(g1 g2 n:Int):Bool:=decide (1≤g1)&&(decide (g1≤n)&&(decide (n=g1)||(decide (0<g2)&&decide ((n-g1)%g2=0))))
theorem u0y {p:a0y} {n:Int} (h0:0≤n)(h1:n≤1000)(hc:0≤p.e_∧p.e_≤40)(hc2:0≤p.g_∧p.g_≤40):e0g p n=some (o0D p.e_ p.g_ n):=by
 unfold e0g o0D
 by_cases c1:p.e_<1
 ·rw[dT c1,dF (show¬1≤p.e_ by omega)];rfl
 ·rw[dF c1,dT (show 1≤p.e_ by omega)]
  by_cases c2:n<p.e_
  ·rw[dT c2,dF (show¬p.e_≤n by omega)];rfl
  ·rw[dF c2,dT (show p.e_≤n by omega)]
   by_cases c3:n=p.e_
   ·rw[dT c3];rfl
   ·rw[dF c3]
    by_cases c4:p.g_>0
    ·rw[dT c4,w64 (n:=n-p.e_) (by omega) (by omega)]
     have hz:nz p.g_=true:=by unfold nz;rw[dF (by omega)];rfl
     rw[hz,bq (by omega)]
     simp[a0g]
    ·rw[dF c4];simp[a0g]
def plc(g1 g2:Int)(t ha:Nat)(i:Nat):List Int:=(if 0<i∧o0D g1 g2 ((t:Int)-i)=true then [44]else [])++ [if i<ha then 35 else 48]
def p0G(g1 g2:Int)(t ha n:Nat):List Int:=(List.range n).flatMap (plc g1 g2 t ha)
theorem n0X(g1 g2:Int)(t ha n:Nat):p0G g1 g2 t ha (n+1)=p0G g1 g2 t ha n++plc g1 g2 t ha n:=by
 unfold p0G;rw[cB,bd];simp
theorem z0f(g1 g2:Int)(t ha i:Nat):(plc g1 g2 t ha i).length≤2:=by
 unfold plc;split<;>simp
theorem n0j(g1 g2:Int)(t ha:Nat): ∀n,(p0G g1 g2 t ha n).length≤2*n
 |0=>by simp[p0G]
 |n+1=>by
  rw[n0X,ag]
  have:=n0j g1 g2 t ha n
  have:=z0f g1 g2 t ha n
  omega
theorem v0v {p:a0y} {out:List Int} {ha mi:Nat} (hh:p.n_=ha)(hm:p.j_=mi)(h1:ha≤40)(h2:mi≤40)(hc:0≤p.e_∧p.e_≤40)(hc2:0≤p.g_∧p.g_≤40)(ho:out.length≤1000000):
  e0t out p=some (out++p0G p.e_ p.g_ (ha+mi) ha (ha+mi)):=by
 unfold e0t
 rw[hh,hm,n0G (by omega) (by omega),n0G (by omega) (by omega)]
 simp only[aa]
 rw[w64 (n:=(ha:Int)+mi) (by omega) (by omega)]
 generalize hst:(fun(s357:Int×(List Int))=>(bif(decide (s357.1<(ha:Int)+mi))then(Option.bind (Option.bind (Option.bind (bif(decide (s357.1>0))then(Option.bind (e0g p ((IntKind.wrap .i64 ((ha:Int)+mi-s357.1)))) fun y688=>(some y688))else(some false)) fun(s680:Bool)=>(bif s680 then(bif room (s357.2.length+([44]:List Int).length)then(some (s357.2++([44]:List Int)))else none)else(some s357.2))) fun(s669:(List Int))=>(bif(decide (s357.1<(ha:Int)))then(bif room (s669.length+([35]:List Int).length)then(some (s669++([35]:List Int)))else none)else(bif room (s669.length+([48]:List Int).length)then(some (s669++([48]:List Int)))else none))) fun(s643:(List Int))=>(some (.inl ((IntKind.wrap .i64 (s357.1+1)),s643):(Int×List Int)⊕List Int)))else(some (.inr s357.2))))=step
 obtain⟨o,g2,g3⟩:=d0t (step:=step) (ha+mi) (fun i=>((i:Int),out++p0G p.e_ p.g_ (ha+mi) ha i)) (fun _=>True) (fun o=>o=out++p0G p.e_ p.g_ (ha+mi) ha (ha+mi)) (s0:=(0,out)) (by simp[p0G]) trivial (fun i hi _=>by
  left
  refine⟨?_,trivial⟩
  subst hst
  have hl:=n0j p.e_ p.g_ (ha+mi) ha i
  generalize hP:p0G p.e_ p.g_ (ha+mi) ha i=P at hl
  simp only
  rw[dT (show(i:Int)<(ha:Int)+mi by omega),w64 (n:=(ha:Int)+mi-i) (by omega) (by omega),u0y (by omega) (by omega) hc hc2,w64 (n:=(i:Int)+1) (by omega) (by omega),n0X,hP]
  have hrm: ∀(x:List Int) (c:Int),x.length≤1000300→room (x.length+([c]:List Int).length)=true:=fun x c hx=>a0h (by simp;omega)
  have hPl:(out++P).length≤1000200:=by simp;omega
  have hcast:((ha+mi:Nat):Int)-i=(ha:Int)+mi-i:=by omega
  unfold plc
  rw[hcast]
  simp only[cond_true]
  generalize hgb:o0D p.e_ p.g_ ((ha:Int)+mi-i)=gb
  have hA:(Option.bind (bif(decide ((i:Int)>0))then(Option.bind (some gb) fun y688=>(some y688))else(some false)) fun(s680:Bool)=>(bif s680 then(bif room ((out++P).length+([44]:List Int).length)then(some (out++P++([44]:List Int)))else none)else(some (out++P))))=some (out++P++(if 0<i∧gb=true then [44]else [])):=by
   by_cases c0:0<i
   ·rw[dT (show(i:Int)>0 by omega),hrm _ _ (by omega)]
    cases gb<;>simp[c0]
   ·rw[dF (show¬(i:Int)>0 by omega),if_neg (fun h=>c0 h.1)];simp
  rw[hA]
  simp only[aa]
  have hL:(out++P++(if 0<i∧gb=true then [44]else [])).length≤1000300:=by
   rw[ag]
   have:(if 0<i∧gb=true then([44]:List Int)else []).length≤1:=by split<;>simp
   omega
  rw[hrm _ _ hL,hrm _ _ hL]
  by_cases c1:i<ha
  ·rw[dT (show(i:Int)<ha by omega),if_pos c1]
   simp[aL]
  ·rw[dF (show¬(i:Int)<ha by omega),if_neg c1]
   simp[aL]) (fun _=>⟨_,by subst hst;simp only;rw[dF (by omega)];rfl,rfl⟩) (by omega)
 rw[g2,g3]
 rfl
def sgL(p:a0y):List Int:=List.replicate p.l_.toNat 64++List.replicate (p.m_-p.l_).toNat 35
def frL(p:a0y):List Int:=if p.k_=0 then []else 46::(List.replicate p.p_.toNat 48++List.replicate (p.k_-p.p_).toNat 35)
def exL(p:a0y):List Int:=if p.d_=0 then []else 69::((if p.G_=true then [43]else [])++List.replicate p.d_.toNat 48)
def plL(p:a0y):List Int:=p0G p.e_ p.g_ (p.n_+p.j_).toNat p.n_.toNat (p.n_+p.j_).toNat
def o0J(p:a0y):List Int:=(if 0<p.l_ then sgL p else plL p++frL p)++exL p
theorem q0V {p:a0y} (hc:r0L p)(hn:i0P (g0a p)):e0Z p=some (o0J p)∧(o0J p).length≤400:=by
 obtain⟨⟨a1,a2⟩,⟨b1,b2⟩,⟨c1,c2⟩,⟨d1,d2⟩,e1,f1,⟨g1,g2⟩,⟨h1,h2⟩,⟨i1,i2⟩⟩:=hc
 obtain⟨n1,n2,n3,n4,n5,n6,n7,n8,n9,n10,n11⟩:=hn
 have hpl:(plL p).length≤160:=by
  have:=n0j p.e_ p.g_ (p.n_+p.j_).toNat p.n_.toNat (p.n_+p.j_).toNat
  unfold plL;omega
 have hfr:(frL p).length≤90:=by unfold frL;split<;>simp;omega
 have hsg:(sgL p).length≤90:=by unfold sgL;simp;omega
 have hex:(exL p).length≤50:=by
  unfold exL;split
  ·simp
  ·split<;>simp<;>omega
 have hlen:(o0J p).length≤400:=by
  unfold o0J
  rw[ag]
  split
  ·omega
  ·rw[ag];omega
 refine⟨?_,hlen⟩
 unfold e0Z
 have hE: ∀s:List Int,s.length≤1000→(Option.bind (bif(decide (¬p.d_=0))then(bif room (s.length+([69]:List Int).length)then(Option.bind (bif p.G_ then(bif room ((s++([69]:List Int)).length+([43]:List Int).length)then(some (((s++([69]:List Int))++([43]:List Int))))else none)else(some (s++([69]:List Int)))) fun(s117:(List Int))=>(Option.bind (b0n s117 48 p.d_) fun y126=>(some y126)))else none)else(some s)) fun(s104:(List Int))=>(some s104))=some (s++exL p):=by
  intro s hs
  unfold exL
  by_cases h0:p.d_=0
  ·rw[dF (fun h=>h h0),if_pos h0];simp
  ·rw[dT h0,if_neg h0,a0h (by simp;omega),a0h (by simp;omega)]
   cases hep:p.G_ with
   |true=>
    simp only[cond_true,aa]
    rw[h0Z (by omega) (by omega) (by simp;omega)]
    simp
   |false=>
    simp only[cond_true,cond_false,aa]
    rw[h0Z (by omega) (by omega) (by simp;omega)]
    simp
 by_cases hs:0<p.l_
 ·have hA:(Option.bind (bif(decide (p.l_>0))then(some true)else(some (decide (p.m_>0)))) fun(s48:Bool)=>(bif s48 then(Option.bind (b0n ([]:List Int) 64 p.l_) fun y59=>(Option.bind (d0A p.l_) fun y62=>(Option.bind (b0n y59 35 (IntKind.wrap .i64 (p.m_-y62))) fun y65=>(some y65))))else(Option.bind (e0t ([]:List Int) p) fun y68=>(bif(decide (¬p.k_=0))then(bif room (y68.length+([46]:List Int).length)then(Option.bind (b0n (y68++([46]:List Int)) 48 p.p_) fun y75=>(Option.bind (d0A p.p_) fun y78=>(Option.bind (b0n y75 35 (IntKind.wrap .i64 (p.k_-y78))) fun y81=>(some y81))))else none)else(some y68)))))=some (sgL p):=by
   rw[dT hs,h0Z (by omega) (by omega) (by simp),n0G (by omega) (by omega)]
   simp only[cond_true,aa]
   rw[w64 (n:=p.m_-p.l_) (by omega) (by omega),h0Z (by omega) (by omega) (by simp;omega)]
   simp[sgL]
  rw[hA]
  refine(hE (sgL p) (by omega)).trans ?_
  unfold o0J
  rw[if_pos hs]
 ·have hs0:p.l_=0:=by omega
  have hx0:=(n9 hs0).1
  have hA:(Option.bind (bif(decide (p.l_>0))then(some true)else(some (decide (p.m_>0)))) fun(s48:Bool)=>(bif s48 then(Option.bind (b0n ([]:List Int) 64 p.l_) fun y59=>(Option.bind (d0A p.l_) fun y62=>(Option.bind (b0n y59 35 (IntKind.wrap .i64 (p.m_-y62))) fun y65=>(some y65))))else(Option.bind (e0t ([]:List Int) p) fun y68=>(bif(decide (¬p.k_=0))then(bif room (y68.length+([46]:List Int).length)then(Option.bind (b0n (y68++([46]:List Int)) 48 p.p_) fun y75=>(Option.bind (d0A p.p_) fun y78=>(Option.bind (b0n y75 35 (IntKind.wrap .i64 (p.k_-y78))) fun y81=>(some y81))))else none)else(some y68)))))=some (plL p++frL p):=by
   obtain⟨ha,hha⟩: ∃m:Nat,p.n_=m:=⟨p.n_.toNat,by omega⟩
   obtain⟨mi,hmi⟩: ∃m:Nat,p.j_=m:=⟨p.j_.toNat,by omega⟩
   have hpe:plL p=p0G p.e_ p.g_ (ha+mi) ha (ha+mi):=by
    unfold plL;rw[hha,hmi,show((ha:Int)+mi).toNat=ha+mi by omega,show(ha:Int).toNat=ha by omega]
   rw[dF hs,dF (show¬p.m_>0 by omega),v0v (out:=[]) hha hmi (by omega) (by omega) e1 f1 (by simp)]
   simp only[cond_false,aa,bu]
   rw[←hpe]
   unfold frL
   by_cases h0:p.k_=0
   ·rw[dF (fun h=>h h0),if_pos h0];simp
   ·rw[dT h0,if_neg h0,a0h (by simp;omega),h0Z (by omega) (by omega) (by simp;omega),n0G (by omega) (by omega)]
    simp only[cond_true,aa]
    rw[w64 (n:=p.k_-p.p_) (by omega) (by omega),h0Z (by omega) (by omega) (by simp;omega)]
    simp
  rw[hA]
  refine(hE (plL p++frL p) (by rw[ag];omega)).trans ?_
  unfold o0J
  rw[if_neg hs]
theorem y0f(g1 g2:Int)(t ha n:Nat):asc (p0G g1 g2 t ha n):=by
 intro c hc
 unfold p0G at hc
 obtain⟨i,_,hi⟩:=bw.1 hc
 unfold plc at hi
 rcases au.1 hi with h|h
 ·split at h
  ·simp at h;subst h;omega
  ·simp at h
 ·simp at h;subst h;split<;>omega
theorem w0O(p:a0y):asc (o0J p):=by
 intro c hc
 unfold o0J at hc
 rcases au.1 hc with h|h
 ·split at h
  ·unfold sgL at h
   rcases au.1 h with h|h<;>(have:=cu h;omega)
  ·rcases au.1 h with h|h
   ·exact y0f _ _ _ _ _ c h
   ·unfold frL at h
    split at h
    ·simp at h
    ·rcases aG.1 h with h|h
     ·omega
     ·rcases au.1 h with h|h<;>(have:=cu h;omega)
 ·unfold exL at h
  split at h
  ·simp at h
  ·rcases aG.1 h with h|h
   ·omega
   ·rcases au.1 h with h|h
    ·split at h
     ·simp at h;omega
     ·simp at h
    ·have:=cu h;omega
/-! What the reader's steps come to. -/
section
variable {l : List Int} {a3 a4 a5 a6 a7 a8 : Int} {b8 b9 : List a0b} {b : Bool}
theorem s0s {c on i:Int} (hl:l.length≤10000)(h0:0≤i+on)(h1:i+on≤20000)(hc:c≠ -1):a0F c on l i a3 a4 a5 a6 a7=some (decide (atV l (i+on)=c)):=by
 unfold a0F atV
 rw[w64 (n:=i+on) (by omega) (by omega)]
 by_cases h:i+on<l.length
 ·rw[dT h,a0J h0 h,if_pos h];rfl
 ·rw[dF h,if_neg h,dF (show¬(-1:Int)=c by omega)];rfl
theorem k0l {c i:Int} (hl:l.length≤10000)(h0:0≤i)(h1:i≤20000)(hc:c≠ -1):a0e c l i a3 a4 a5 a6 a7=some (if atV l i=c then(true,i+1)else(false,i)):=by
 unfold a0e
 rw[s0s hl (by omega) (by omega) hc,bn,w64 (n:=i+1) (by omega) (by omega)]
 by_cases h:atV l i=c
 ·rw[dT h,if_pos h];rfl
 ·rw[dF h,if_neg h];rfl
def Mn(l:List Int)(i c n:Int):Prop:=0≤n∧(∀j,0≤j→j<n→atV l (i+j)=c)∧atV l (i+n)≠c
theorem Mn.unique {i c n m:Int} (h:Mn l i c n)(h':Mn l i c m):n=m:=by
 obtain⟨a1,a2,a3⟩:=h
 obtain⟨b1,b2,b3⟩:=h'
 rcases Int.lt_trichotomy n m with hlt|heq|hgt
 ·exact absurd (b2 n a1 hlt) a3
 ·exact heq
 ·exact absurd (a2 m b1 hgt) b3
theorem z0v {c i:Int} (hl:l.length≤10000)(h0:0≤i)(h1:i≤l.length)(hc:c≠ -1): ∃n,a0I c l i a3 a4 a5 a6 a7=some (n,i+n)∧Mn l i c n∧i+n≤l.length:=by
 unfold a0I
 obtain⟨o,h2,h3,h4,h5,h6⟩:=p0O (step:=fun(s33:Int×Int)=>(Option.bind (a0e c l s33.2 a3 a4 a5 a6 a7) fun y52=>(bif y52.1 then(some (.inl ((IntKind.wrap .i64 (s33.1+1)),y52.2)))else(some (.inr (s33.1,y52.2)))))) (fun s=>s.2=i+s.1∧0≤s.1∧s.2≤l.length∧ ∀j,0≤j→j<s.1→atV l (i+j)=c) (fun s=>((l.length:Int)-s.2).toNat) (fun o=>o.2=i+o.1∧0≤o.1∧o.2≤l.length∧Mn l i c o.1) (s0:=(0,i)) ⟨by simp,by simp,h1,fun j a b=>by simp only at b;omega⟩ (by simp only;omega) (fun s hs=>by
  obtain⟨s1,s2⟩:=s
  obtain⟨q1,q2,q3,q4⟩:=hs
  simp only at q1 q2 q3 q4⊢
  rw[k0l hl (by omega) (by omega) hc]
  by_cases h:atV l s2=c
  ·left
   have hin:=h0d h hc
   rw[if_pos h,w64 (n:=s1+1) (by omega) (by omega)]
   refine⟨(s1+1,s2+1),rfl,⟨by simp only;omega,by simp only;omega,by simp only;omega,fun j a b=> ?_⟩,by simp only;omega⟩
   by_cases hj:j<s1
   ·exact q4 j a hj
   ·rw[show i+j=s2 by simp only at b;omega];exact h
  ·right
   rw[if_neg h]
   exact⟨(s1,s2),rfl,q1,q2,q3,q2,q4,by rw[←q1];exact h⟩)
 rw[h2]
 obtain⟨o1,o2⟩:=o
 simp only at h3 h4 h5 h6⊢
 subst h3
 exact⟨o1,rfl,h6,h5⟩
def y0p(l:List Int)(i mi:Int):Prop:=atV l i=48∨(mi=0∧atV l i=35)
instance {l:List Int} {i mi:Int} :Decidable (y0p l i mi):=inferInstanceAs (Decidable (_∨_))
def q0s(l:List Int)(since i mi:Int):Prop:=0<since∧atV l i=44∧y0p l (i+1) mi
instance {l:List Int} {s i mi:Int} :Decidable (q0s l s i mi):=inferInstanceAs (Decidable (_∧_))
variable {c10 c12 c13 c14 c15 c16 c17 c18 c20 c21 c22 : Int} {c19 : Bool}
theorem n0k {on i mi:Int} (hl:l.length≤10000)(h0:0≤i+on)(h1:i+on≤20000):b0A on l i a3 a4 a5 a6 a7 b8 b c10 mi c12 c13 c14 c15 c16 c17 c18 c19 c20 c21=some (decide (y0p l (i+on) mi)):=by
 unfold b0A y0p
 rw[s0s hl h0 h1 (by omega),s0s hl h0 h1 (by omega)]
 by_cases h:atV l (i+on)=48
 ·rw[dT h];simp[h]
 ·rw[dF h]
  by_cases h2:mi=0
  ·rw[dT h2];simp[h,h2]
  ·rw[dF h2];simp[h,h2]
theorem q0b {since i mi:Int} (hl:l.length≤10000)(h0:0≤i)(h1:i≤10000):b0C since l i a3 a4 a5 a6 a7 b8 b c10 mi c12 c13 c14 c15 c16 c17 c18 c19 c20 c21=some (decide (q0s l since i mi)):=by
 unfold b0C
 rw[s0s hl (by omega) (by omega) (by omega),n0k hl (by omega) (by omega),bn]
 by_cases h:since>0
 ·rw[dT h]
  by_cases h2:atV l i=44
  ·rw[dT h2]
   by_cases h3:y0p l (i+1) mi
   ·rw[dT h3,dT (show q0s l since i mi from⟨h,h2,h3⟩)];rfl
   ·rw[dF h3,dF (show¬q0s l since i mi from fun hh=>h3 hh.2.2)];rfl
  ·rw[dF h2,dF (show¬q0s l since i mi from fun hh=>h2 hh.2.1)];rfl
 ·rw[dF h,dF (show¬q0s l since i mi from fun hh=>h hh.1)];rfl
theorem p0m {commas since i mi g2:Int} (hl:l.length≤10000)(h0:0≤i)(h1:i≤10000):
  b0d commas since l i a3 a4 a5 a6 a7 b8 b c10 mi c12 c13 c14 g2 c16 c17 c18 c19 c20 c21=some (if commas=0∨ ¬q0s l since i mi then .inl g2 else if commas>1∧since≠g2 then .inr ()else .inl since):=by
 unfold b0d
 rw[q0b hl h0 h1]
 by_cases h:commas=0
 ·rw[dT h,if_pos (.inl h)];rfl
 ·rw[dF h]
  by_cases h2:q0s l since i mi
  ·rw[dT h2,if_neg (by simp[h,h2])]
   simp only[cond_false,aa,aA,a0g]
   by_cases h3:commas>1
   ·rw[dT h3]
    by_cases h4:since=g2
    ·rw[dF (fun h=>h h4),if_neg (by simp[h4])];rfl
    ·rw[dT h4,if_pos ⟨h3,h4⟩];rfl
   ·rw[dF h3,if_neg (by simp[h3])];rfl
  ·rw[dF h2,if_pos (.inr h2)];rfl
theorem o0T(x:Int):d0i x=some (decide (x=35∨x=64∨x=44∨x=46∨x=59∨x=42∨x=37∨x=45∨x=43∨x=39∨x=69∨x=164∨(48≤x∧x≤57))):=by
 unfold d0i
 by_cases h1:x=35<;>by_cases h2:x=64<;>by_cases h3:x=44<;>by_cases h4:x=46<;>by_cases h5:x=59<;>by_cases h6:x=42<;>first
  |(simp[h1,h2,h3,h4,h5,h6,a0g];done)
  |(by_cases h7:x=37<;>by_cases h8:x=45<;>by_cases h9:x=43<;>by_cases h10:x=39<;>by_cases h11:x=69<;>by_cases h12:x=164<;>by_cases h13:48≤x<;>by_cases h14:x≤57<;>simp[h1,h2,h3,h4,h5,h6,h7,h8,h9,h10,h11,h12,h13,h14,a0g])
theorem v0z {w i pd pa:Int} (hl:l.length≤10000)(h0:0≤i)(h1:i≤l.length):
  b0P w l i a3 a4 a5 a6 a7 b c10 c12 c13 c14 c15 c16 c17 c18 c20 c19 pd pa=some (if pa≠0∨atV l i≠42 then .inl (i,pd,pa)else if i+1=l.length then .inr (i+1,i+1)else .inl (i+2,atV l (i+1),w)):=by
 unfold b0P
 rw[k0l hl h0 (by omega) (by omega)]
 by_cases h:pa=0
 ·rw[dF (fun hh=>hh h)]
  by_cases h2:atV l i=42
  ·have hin:=h0d h2 (by omega)
   rw[if_pos h2,if_neg (by simp[h,h2])]
   simp only[cond_false,aa,aA,a0g]
   by_cases h3:i+1=l.length
   ·rw[dT h3,if_pos h3];rfl
   ·rw[dF h3,if_neg h3,a0J (i:=i+1) (by omega) (by omega),w64 (n:=i+1+1) (by omega) (by omega)]
    simp only[cond_false,aa,cond_true,a0g]
    unfold atV
    rw[if_pos (by omega)]
    congr 2
    simp;omega
  ·rw[if_neg h2,if_pos (c:=pa≠0∨atV l i≠42) (.inr h2)];rfl
 ·rw[dT h,if_pos (c:=pa≠0∨atV l i≠42) (.inl h)];rfl
theorem v0A {w i pd pa:Int} (hl:l.length≤10000)(h0:0≤i)(h1:i≤l.length):
  b0O w l i a3 a4 a5 a6 a7 b8 b c10 c12 c13 c14 c15 c16 c17 c18 c20 c19 pd pa=some (if pa≠0∨atV l i≠42 then .inl (i,pd,pa)else if i+1=l.length then .inr (i+1,i+1)else .inl (i+2,atV l (i+1),w)):=v0z (b:=b) (c10:=c10) (c12:=c12) (c13:=c13) (c14:=c14) (c15:=c15) (c16:=c16) (c17:=c17) (c18:=c18) (c20:=c20) (c19:=c19) hl h0 h1
theorem z0j {w i pd pa:Int} (hl:l.length≤10000)(h0:0≤i)(h1:i≤l.length):
  c0t w l i a3 a4 a5 a6 a7 b8 b9 b c10 c12 c13 c14 c15 c16 c17 c18 c20 c19 pd pa=some (if pa≠0∨atV l i≠42 then .inl (i,pd,pa)else if i+1=l.length then .inr (i+1,i+1)else .inl (i+2,atV l (i+1),w)):=v0z (b:=b) (c10:=c10) (c12:=c12) (c13:=c13) (c14:=c14) (c15:=c15) (c16:=c16) (c17:=c17) (c18:=c18) (c20:=c20) (c19:=c19) hl h0 h1
end
/-! The text of a number, read: the places. -/
def cmP(g1 g2:Int)(t i:Nat):Prop:=0<i∧o0D g1 g2 ((t:Int)-i)=true
instance {g1 g2:Int} {t i:Nat} :Decidable (cmP g1 g2 t i):=inferInstanceAs (Decidable (_∧_))
theorem x0V {g1 g2 n:Int} :o0D g1 g2 n=true↔1≤g1∧g1≤n∧(n=g1∨(0<g2∧(n-g1)%g2=0)):=by
 unfold o0D
 simp only[ac,ba,decide_eq_true_eq]
section
variable {g1 g2 : Int} {t ha : Nat} {rest : List Int}
end
/-! Runes as bytes, and back. -/
theorem u8w(n:Int):IntKind.u8.wrap n=n%256:=by
 unfold IntKind.wrap
 simp only[IntKind.signed,IntKind.bits,Bool.false_and,aE,if_false]
 rfl
theorem p0k(p:Int→Prop)(h: ∀k:Fin 256,p (k.val:Int)) {x:Int} (h0:0≤x)(h1:x<256):p x:=by
 obtain⟨n,rfl⟩:=bB h0
 exact h ⟨n,by omega⟩
theorem z0Z {x:Int} (h0:0≤x)(h1:x<256):bits .and .u8 x 63=x%64:=p0k (fun x=>bits .and .u8 x 63=x%64) (by decide+kernel) h0 h1
def e0u(x:Int):Bool:=decide (0≤x∧x≤1114111∧(x<55296∨57343<x))
def g0k(x:Int):List Int:=if x<128 then [x]else if x<2048 then [192+x/64,128+x%64]else if x<65536 then [224+x/4096,128+x/64%64,128+x%64]else [240+x/262144,128+x/4096%64,128+x/64%64,128+x%64]
def d0X(x:Int):Int:=if e0u x then(if x<128 then 1 else if x<2048 then 2 else if x<65536 then 3 else 4)else 0
theorem B0p(x:Int):l0x x=some (e0u x):=by
 unfold l0x e0u
 by_cases h1:0≤x<;>by_cases h2:x≤1114111<;>by_cases h3:x<55296<;>simp[h1,h2,h3]
theorem p0x(x:Int):g0v x=some (d0X x):=by
 unfold g0v d0X
 rw[B0p]
 cases h:e0u x
 ·simp
 ·by_cases h1:x<128<;>by_cases h2:x<2048<;>by_cases h3:x<65536<;>simp[h1,h2,h3]
theorem m0x {S O:Type} {step:S→Option (S⊕O)} {o:O} : ∀(n:Nat) (s:S),a0s step n s=some o→ ∀m,n≤m→a0s step m s=some o:=by
 intro n
 induction n with
 |zero=>intro s h;cases h
 |succ n ih=>
  intro s h m hm
  obtain⟨k,rfl⟩: ∃k,m=k+1:=⟨m-1,by omega⟩
  simp only[a0s]at h⊢
  split at h
  ·cases h
  ·exact h
  ·exact ih _ h k (by omega)
theorem g0C {S O:Type} {step:S→Option (S⊕O)} {o:O} {s:S} (n:Nat)(h:a0s step n s=some o)(hn:n≤1000):a0s step big s=some o:=m0x n s h _ (by unfold big;omega)
theorem z0G {a b:Int} (hb:0<b):Int.fdiv a b=a/b:=Int.fdiv_eq_ediv_of_nonneg _ (by omega)
theorem i0L(x:Int):(g0k x).length≤4:=by
 unfold g0k;split;simp;split;simp;split<;>simp
def a0T(xs:List Int):List Int:=xs.flatMap g0k
theorem k0j(xs:List Int):(a0T xs).length≤4*xs.length:=by
 induction xs with
 |nil=>simp[a0T]
 |cons x xs ih=>
  have:=i0L x
  simp only[a0T,aC,ag,aJ]at ih⊢
  omega
theorem r0w {x:Int} (hr:e0u x=true):((g0k x).length:Int)=d0X x:=by
 unfold g0k d0X
 rw[hr]
 by_cases h1:x<128<;>by_cases h2:x<2048<;>by_cases h3:x<65536<;>simp[h1,h2,h3]
theorem n0V(c:Int):c0A c=some (if c<128 then 1 else if c/32=6 then 2 else if c/16=14 then 3 else if c/8=30 then 4 else 0):=by
 unfold c0A
 rw[z0G (by decide),z0G (by decide),z0G (by decide)]
 by_cases h1:c<128<;>by_cases h2:c/32=6<;>by_cases h3:c/16=14<;>by_cases h4:c/8=30<;>simp[h1,h2,h3,h4]
theorem n63 {x:Int} (h0:0≤x)(h1:x<256):bits .andNot .u8 x 63=x/64*64:=p0k (fun x=>bits .andNot .u8 x 63=x/64*64) (by decide+kernel) h0 h1
theorem n0 {x:Int} (h0:0≤x)(h1:x<256):bits .andNot .u8 x 0=x:=p0k (fun x=>bits .andNot .u8 x 0=x) (by decide+kernel) h0 h1
theorem B0H {x:Int} (h0:0≤x)(h1:x<32):bits .andNot .u8 (192+x) 192=x:=p0k (fun x=>x<32→bits .andNot .u8 (192+x) 192=x) (by decide+kernel) h0 (by omega) h1
theorem B0G {x:Int} (h0:0≤x)(h1:x<16):bits .andNot .u8 (224+x) 224=x:=p0k (fun x=>x<16→bits .andNot .u8 (224+x) 224=x) (by decide+kernel) h0 (by omega) h1
theorem B0F {x:Int} (h0:0≤x)(h1:x<8):bits .andNot .u8 (240+x) 240=x:=p0k (fun x=>x<8→bits .andNot .u8 (240+x) 240=x) (by decide+kernel) h0 (by omega) h1
theorem t63 {y:Int} (h0:0≤y)(h1:y<64):bits .andNot .u8 (128+y) 63=128:=by rw[n63 (by omega) (by omega)];omega
theorem a63 {y:Int} (h0:0≤y)(h1:y<64):bits .and .u8 (128+y) 63=y:=by rw[z0Z (by omega) (by omega)];omega
theorem o32 {r y:Int} (h0:0≤r)(h1:r<32768)(h2:0≤y)(h3:y<64):bits .or .i32 (IntKind.wrap .i32 (r*64)) (IntKind.wrap .i32 y)=r*64+y:=by
 rw[w32 (by omega) (by omega),w32 (by omega) (by omega)]
 exact i32_or6 _ _ (by omega) (by omega) (by omega) h2 h3
theorem u0z {x:Int} {rest:List Int} (hr:e0u x=true)(hl:rest.length≤1000000):d0Y (g0k x++rest)=some (x,d0X x):=by
 have hb:0≤x∧x≤1114111∧(x<55296∨57343<x):=by simpa [e0u]using hr
 have hsz:=p0x x
 generalize hq:g0k x++rest=q
 unfold d0Y
 by_cases h1:x<128
 ·have he:g0k x=[x]:=by unfold g0k;rw[if_pos h1]
  have hs:d0X x=1:=by unfold d0X;rw[hr];simp[h1]
  rw[he]at hq
  simp only[List.singleton_append]at hq
  have hn:nth q 0=x:=by subst hq;rfl
  have hql:q.length=rest.length+1:=by subst hq;simp
  have hi:inR 0 q.length=true:=a0J (by omega) (by omega)
  have hin:inS 1 1 q.length=true:=m0O (by omega) (by omega) (by omega)
  have hm:f0U 1=some 0:=rfl
  have hc:cut q 1 1=[]:=by subst hq;simp[cut]
  have hp:c0A x=some 1:=by rw[n0V,if_pos h1]
  rw[hi,hn,hp]
  simp only[cond_true,aa]
  rw[dF (show¬(1:Int)=0 by omega),dF (show¬(1:Int)>(q.length:Int) by omega)]
  simp only[cond_false,aa,a0g,hm,hin,cond_true,hc]
  rw[n0 (by omega) (by omega),w32 (by omega) (by omega),g0C 1 rfl (by omega)]
  simp only[aa,a0g]
  rw[hsz,hs];rfl
 ·by_cases h2:x<2048
  ·have he:g0k x=[192+x/64,128+x%64]:=by unfold g0k;rw[if_neg h1,if_pos h2]
   have hs:d0X x=2:=by unfold d0X;rw[hr];simp[h1,h2]
   rw[he]at hq
   simp only[bL,bu]at hq
   have hn:nth q 0=192+x/64:=by subst hq;rfl
   have hql:q.length=rest.length+2:=by subst hq;simp
   have hi:inR 0 q.length=true:=a0J (by omega) (by omega)
   have hin:inS 1 2 q.length=true:=m0O (by omega) (by omega) (by omega)
   have hm:f0U 2=some 192:=rfl
   have hc:cut q 1 2=[128+x%64]:=by subst hq;simp[cut]
   have hp:c0A (192+x/64)=some 2:=by rw[n0V,if_neg (by omega),if_pos (by omega)]
   rw[hi,hn,hp]
   simp only[cond_true,aa]
   rw[dF (show¬(2:Int)=0 by omega),dF (show¬(2:Int)>(q.length:Int) by omega)]
   simp only[cond_false,aa,a0g,hm,hin,cond_true,hc]
   rw[B0H (by omega) (by omega),w32 (by omega) (by omega),g0C (o:= .inl x) 2 ?_ (by omega)]
   ·simp only[aa,a0g]
    rw[hsz,hs];rfl
   ·simp only[a0s]
    have k0:nth [128+x%64] 0=128+x%64:=rfl
    have i0:inR 0 1=true:=by decide
    have wz:IntKind.wrap .i64 (0+1)=1:=by decide
    have e1:bits .or .i32 (IntKind.wrap .i32 (x/64*64)) (IntKind.wrap .i32 (x%64))=x:=by rw[o32 (by omega) (by omega) (by omega) (by omega)];omega
    simp only[List.length_singleton,k0,i0,t63 (show 0≤x%64 by omega) (by omega),a63 (show 0≤x%64 by omega) (by omega),e1,wz]
    rfl
  ·by_cases h3:x<65536
   ·have he:g0k x=[224+x/4096,128+x/64%64,128+x%64]:=by unfold g0k;rw[if_neg h1,if_neg h2,if_pos h3]
    have hs:d0X x=3:=by unfold d0X;rw[hr];simp[h1,h2,h3]
    rw[he]at hq
    simp only[bL,bu]at hq
    have hn:nth q 0=224+x/4096:=by subst hq;rfl
    have hql:q.length=rest.length+3:=by subst hq;simp
    have hi:inR 0 q.length=true:=a0J (by omega) (by omega)
    have hin:inS 1 3 q.length=true:=m0O (by omega) (by omega) (by omega)
    have hm:f0U 3=some 224:=rfl
    have hc:cut q 1 3=[128+x/64%64,128+x%64]:=by subst hq;simp[cut]
    have hp:c0A (224+x/4096)=some 3:=by rw[n0V,if_neg (by omega),if_neg (by omega),if_pos (by omega)]
    rw[hi,hn,hp]
    simp only[cond_true,aa]
    rw[dF (show¬(3:Int)=0 by omega),dF (show¬(3:Int)>(q.length:Int) by omega)]
    simp only[cond_false,aa,a0g,hm,hin,cond_true,hc]
    rw[B0G (by omega) (by omega),w32 (by omega) (by omega),g0C (o:= .inl x) 3 ?_ (by omega)]
    ·simp only[aa,a0g]
     rw[hsz,hs];rfl
    ·simp only[a0s]
     have k0:nth [128+x/64%64,128+x%64] 0=128+x/64%64:=rfl
     have k1:nth [128+x/64%64,128+x%64] 1=128+x%64:=rfl
     have i0:inR 0 2=true:=by decide
     have i1:inR 1 2=true:=by decide
     have wz:IntKind.wrap .i64 (0+1)=1:=by decide
     have wz1:IntKind.wrap .i64 (1+1)=2:=by decide
     have e1:bits .or .i32 (IntKind.wrap .i32 (x/4096*64)) (IntKind.wrap .i32 (x/64%64))=x/64:=by rw[o32 (by omega) (by omega) (by omega) (by omega)];omega
     have e2:bits .or .i32 (IntKind.wrap .i32 (x/64*64)) (IntKind.wrap .i32 (x%64))=x:=by rw[o32 (by omega) (by omega) (by omega) (by omega)];omega
     simp only[aJ,bX,aU,Nat.reduceAdd,k0,i0,t63 (show 0≤x/64%64 by omega) (by omega),a63 (show 0≤x/64%64 by omega) (by omega),e1,wz]
     have d0:decide ((0:Int)<((2:Nat):Int))=true:=by decide
     have d1:decide ((1:Int)<((2:Nat):Int))=true:=by decide
     have d2:decide ((2:Int)<((2:Nat):Int))=false:=by decide
     simp only[d0,d1,d2,cond_true,cond_false,not_true_eq_false,decide_false,k1,i1,t63 (show 0≤x%64 by omega) (by omega),a63 (show 0≤x%64 by omega) (by omega),e2,wz1]
   ·have he:g0k x=[240+x/262144,128+x/4096%64,128+x/64%64,128+x%64]:=by unfold g0k;rw[if_neg h1,if_neg h2,if_neg h3]
    have hs:d0X x=4:=by unfold d0X;rw[hr];simp[h1,h2,h3]
    rw[he]at hq
    simp only[bL,bu]at hq
    have hn:nth q 0=240+x/262144:=by subst hq;rfl
    have hql:q.length=rest.length+4:=by subst hq;simp
    have hi:inR 0 q.length=true:=a0J (by omega) (by omega)
    have hin:inS 1 4 q.length=true:=m0O (by omega) (by omega) (by omega)
    have hm:f0U 4=some 240:=rfl
    have hc:cut q 1 4=[128+x/4096%64,128+x/64%64,128+x%64]:=by subst hq;simp[cut]
    have hp:c0A (240+x/262144)=some 4:=by rw[n0V,if_neg (by omega),if_neg (by omega),if_neg (by omega),if_pos (by omega)]
    rw[hi,hn,hp]
    simp only[cond_true,aa]
    rw[dF (show¬(4:Int)=0 by omega),dF (show¬(4:Int)>(q.length:Int) by omega)]
    simp only[cond_false,aa,a0g,hm,hin,cond_true,hc]
    rw[B0F (by omega) (by omega),w32 (by omega) (by omega),g0C (o:= .inl x) 4 ?_ (by omega)]
    ·simp only[aa,a0g]
     rw[hsz,hs];rfl
    ·simp only[a0s]
     have k0:nth [128+x/4096%64,128+x/64%64,128+x%64] 0=128+x/4096%64:=rfl
     have k1:nth [128+x/4096%64,128+x/64%64,128+x%64] 1=128+x/64%64:=rfl
     have k2:nth [128+x/4096%64,128+x/64%64,128+x%64] 2=128+x%64:=rfl
     have i0:inR 0 3=true:=by decide
     have i1:inR 1 3=true:=by decide
     have i2:inR 2 3=true:=by decide
     have wz:IntKind.wrap .i64 (0+1)=1:=by decide
     have wz1:IntKind.wrap .i64 (1+1)=2:=by decide
     have wz2:IntKind.wrap .i64 (2+1)=3:=by decide
     have e0:bits .or .i32 (IntKind.wrap .i32 (x/262144*64)) (IntKind.wrap .i32 (x/4096%64))=x/4096:=by rw[o32 (by omega) (by omega) (by omega) (by omega)];omega
     have e1:bits .or .i32 (IntKind.wrap .i32 (x/4096*64)) (IntKind.wrap .i32 (x/64%64))=x/64:=by rw[o32 (by omega) (by omega) (by omega) (by omega)];omega
     have e2:bits .or .i32 (IntKind.wrap .i32 (x/64*64)) (IntKind.wrap .i32 (x%64))=x:=by rw[o32 (by omega) (by omega) (by omega) (by omega)];omega
     have d0:decide ((0:Int)<((3:Nat):Int))=true:=by decide
     have d1:decide ((1:Int)<((3:Nat):Int))=true:=by decide
     have d2:decide ((2:Int)<((3:Nat):Int))=true:=by decide
     have d3:decide ((3:Int)<((3:Nat):Int))=false:=by decide
     simp only[aJ,bX,aU,Nat.reduceAdd,k0,i0,t63 (show 0≤x/4096%64 by omega) (by omega),a63 (show 0≤x/4096%64 by omega) (by omega),e0,wz]
     simp only[d0,d1,d2,d3,cond_true,cond_false,not_true_eq_false,decide_false,k1,i1,t63 (show 0≤x/64%64 by omega) (by omega),a63 (show 0≤x/64%64 by omega) (by omega),e1,wz1]
     simp only[d0,d1,d2,d3,cond_true,cond_false,not_true_eq_false,decide_false,k2,i2,t63 (show 0≤x%64 by omega) (by omega),a63 (show 0≤x%64 by omega) (by omega),e2,wz2]
theorem o0r {L:List Int} (hL:L.all e0u=true)(hl:L.length≤200000):c0Q (a0T L)=some (L,0,0):=by
 have hE:=k0j L
 unfold c0Q
 generalize hX:a0T L=X
 have hXl:X.length=(a0T L).length:=by subst hX;simp
 generalize hst:(fun(s57:Int×(List Int))=>((bif(decide (s57.1<(X.length:Int)))then(bif inS s57.1 (X.length:Int) X.length then(Option.bind (d0Y (cut X s57.1 (X.length:Int))) fun y96=>(bif(decide (y96.2=0))then(some (.inr (.inr (([]:List Int),s57.1,3))))else(bif room (s57.2.length+([y96.1]:List Int).length)then(some (.inl ((IntKind.wrap .i64 (s57.1+y96.2)),(s57.2++([y96.1]:List Int)))))else none)))else none)else(some (.inr (.inl s57.2)))):Option ((Int×(List Int))⊕((List Int)⊕((List Int)×Int×Int)))))=step
 obtain⟨o,h1,h2⟩:=v0K (step:=step)
  (fun s=> ∃j:Nat,j≤L.length∧s.1=((a0T (L.take j)).length:Int)∧s.2=L.take j) (fun s=>X.length-s.1.toNat)
  (fun o=>o= .inl L) (fun s hs=>by
   obtain⟨s1,out⟩:=s
   obtain⟨j,hj,hs1,ho⟩:=hs
   simp only at hs1 ho
   have hpre:a0T L=a0T (L.take j)++a0T (L.drop j):=by
    unfold a0T;rw[←bd,ca]
   have htake:=k0j (L.take j)
   have hple:(a0T (L.take j)).length≤(a0T L).length:=by rw[hpre,ag];omega
   rcases bK j L.length with h|h
   ·have hcut:cut X s1 (X.length:Int)=a0T (L.drop j):=by
     unfold cut
     rw[Int.toNat_natCast,bA,hs1,Int.toNat_natCast,←hX,hpre,List.drop_left]
    have hrj:e0u L[j]=true:=List.all_eq_true.1 hL _ (bk h)
    have hd:a0T (L.drop j)=g0k L[j]++a0T (L.drop (j+1)):=by
     unfold a0T;rw[bl h,aC]
    have hsz:=r0w hrj
    have hne:d0X L[j]≠0:=by
     unfold d0X;rw[hrj];simp only[if_true];split;omega;split;omega;split<;>omega
    have hpos:0<d0X L[j]:=by omega
    have hle4:=i0L L[j]
    have hdl:=k0j (L.drop (j+1))
    rw[aO]at hdl
    have hplt:(a0T (L.take j)).length+(g0k L[j]).length≤(a0T L).length:=by rw[hpre,hd,ag,ag];omega
    subst hst
    simp only
    rw[dT (show s1<(X.length:Int) by omega),m0O (by omega) (by omega) (by omega),hcut]
    simp only[cond_true]
    rw[hd,u0z hrj (by omega)]
    simp only[aa]
    rw[dF hne]
    simp only[cond_false]
    have hrm:room (out.length+([L[j]]:List Int).length)=true:=a0h (by subst ho;simp;omega)
    rw[hrm]
    have hnext:a0T (L.take (j+1))=a0T (L.take j)++g0k L[j]:=by
     rw[bc h];unfold a0T;rw[bd];simp
    refine .inl ⟨(s1+d0X L[j],out++ [L[j]]), ?_,⟨j+1,by omega, ?_,by simp only;rw[ho,bc h]⟩,by simp only;omega⟩
    ·rw[w64 (by omega) (by omega)];rfl
    ·simp only;rw[hnext,ag,hs1,←hsz];omega
   ·have hj':j=L.length:=by omega
    subst hj'
    rw[bA]at hs1 ho
    subst hst
    simp only
    rw[dF (show¬s1<(X.length:Int) by omega),ho]
    exact .inr ⟨_,rfl,rfl⟩) big (0,[]) ⟨0,by omega,by simp[a0T],rfl⟩ (z0V (by simp only;omega))
 rw[h1,h2]
 rfl
theorem is1 {x:Int} (h0: -2147483648≤x)(h1:x≤2147483647):a0B x=some (e0u x):=by
 unfold a0B e0u
 rw[w64 (by omega) (by omega)]
 by_cases h1:0≤x<;>by_cases h2:x≤1114111<;>by_cases h3:x<55296<;>by_cases h4:x>57343<;>first|omega|simp[h1,h2,h3,h4]
theorem y0Y {x:Int} (h0: -2147483648≤x)(h1:x≤2147483647):b0k x=some (d0X x):=by
 unfold b0k d0X
 rw[is1 h0 h1]
 cases h:e0u x
 ·simp
 ·by_cases h1:x<128<;>by_cases h2:x<2048<;>by_cases h3:x<65536<;>simp[h1,h2,h3]
theorem f0q {x:Int} :e0u x=true↔0≤x∧x≤1114111∧(x<55296∨57343<x):=by simp[e0u]
theorem A0W {x:Int} (hr:e0u x=true):b0S x=some (g0k x):=by
 have hb:=f0q.1 hr
 unfold b0S g0k
 rw[y0Y (by omega) (by omega)]
 unfold d0X
 rw[hr,w64 (n:=x) (by omega) (by omega),cn (by omega),cn (by omega),cn (by omega),bq (by omega),w64 (n:=x/64) (by omega) (by omega),w64 (n:=x/4096) (by omega) (by omega),w64 (n:=x/262144) (by omega) (by omega),bq (by omega),bq (by omega),w64 (n:=192+x/64) (by omega) (by omega),w64 (n:=224+x/4096) (by omega) (by omega),w64 (n:=240+x/262144) (by omega) (by omega),w64 (n:=128+x%64) (by omega) (by omega),w64 (n:=128+x/64%64) (by omega) (by omega),w64 (n:=128+x/4096%64) (by omega) (by omega)]
 simp only[if_true,aa,u8w]
 by_cases h1:x<128
 ·rw[if_pos h1,if_pos h1,show x%256=x by omega];rfl
 ·by_cases h2:x<2048
  ·rw[if_neg h1,if_neg h1,if_pos h2,if_pos h2,show(192+x/64)%256=192+x/64 by omega,show(128+x%64)%256=128+x%64 by omega];rfl
  ·by_cases h3:x<65536
   ·rw[if_neg h1,if_neg h1,if_neg h2,if_neg h2,if_pos h3,if_pos h3,show(224+x/4096)%256=224+x/4096 by omega,show(128+x%64)%256=128+x%64 by omega,show(128+x/64%64)%256=128+x/64%64 by omega];rfl
   ·rw[if_neg h1,if_neg h1,if_neg h2,if_neg h2,if_neg h3,if_neg h3,show(240+x/262144)%256=240+x/262144 by omega,show(128+x%64)%256=128+x%64 by omega,show(128+x/64%64)%256=128+x/64%64 by omega,show(128+x/4096%64)%256=128+x/4096%64 by omega];rfl
theorem y0T {x:Int} (hr:e0u x=true):a0R x=some (a0q (g0k x)):=by
 unfold a0R
 rw[A0W hr];rfl
theorem g0I {b:List Int} {at' k v j y:Int} (hl:b.length≤1000000)(h0:0≤at')(hk:1≤k∧k≤3)(hj:1≤j∧j≤k)(hin:at'+k<b.length)(hv:0≤v∧v≤100000000)(hy:0≤y∧y<64)(hb:nth b (at'+j)=128+y):
  (fun(s306:Int×Int)=>((bif(decide (s306.2≤k))then(Option.bind (bif inR (IntKind.wrap .i64 (at'+s306.2)) b.length then(Option.bind (Option.bind (bif(decide (((IntKind.wrap .i64 ((nth b (IntKind.wrap .i64 (at'+s306.2))))))<128))then(some true)else(some ((decide (((IntKind.wrap .i64 ((nth b (IntKind.wrap .i64 (at'+s306.2))))))>191))))) fun(s585:Bool)=>(bif s585 then(some (.inr (.inr (.inr (.inr (-1))))))else(some (.inl ())))) (a0g fun(s577:Unit)=>(some (.inl ()))))else none) (a0g fun(s552:Unit)=>(some (.inl ((IntKind.wrap .i64 (((IntKind.wrap .i64 ((IntKind.wrap .i64 (s306.1*64))+((IntKind.wrap .i64 ((nth b (IntKind.wrap .i64 (at'+s306.2)))))))))-128)),(IntKind.wrap .i64 (s306.2+1)))))))else(some (.inr (.inl s306.1)))):Option ((Int×Int)⊕(Int⊕Int)))) (v,j)=some (.inl (v*64+y,j+1)):=by
 simp only
 rw[dT hj.2,w64 (n:=at'+j) (by omega) (by omega),a0J (by omega) (by omega),hb,w64 (n:=128+y) (by omega) (by omega),dF (show¬128+y<128 by omega),dF (show¬128+y>191 by omega)]
 simp only[cond_true,cond_false,aa,a0g]
 rw[w64 (n:=v*64) (by omega) (by omega),w64 (n:=v*64+(128+y)) (by omega) (by omega),w64 (n:=v*64+(128+y)-128) (by omega) (by omega),w64 (n:=j+1) (by omega) (by omega),show v*64+(128+y)-128=v*64+y by omega]
/-! A row of runes, read back. -/
theorem y0W {b:List Int} {at' v y1:Int} (hl:b.length≤1000000)(h0:0≤at')(hin:at'+1<b.length)(hv:0≤v∧v<64)(h1:0≤y1∧y1<64)(e1:nth b (at'+1)=128+y1):a0p b at' 1 v=some (v*64+y1):=by
 unfold a0p
 rw[w64 (n:=at'+1) (by omega) (by omega),dF (show¬at'+1≥(b.length:Int) by omega)]
 simp only[cond_false]
 rw[g0C (o:= .inl (v*64+y1)) 2 ?_ (by omega)]
 ·rfl
 ·rw[b0v (g0I hl h0 (by omega) (by omega) hin (by omega) h1 e1)]
  exact b0F (by simp only;rw[dF (by omega)];rfl)
theorem y0V {b:List Int} {at' v y1 y2:Int} (hl:b.length≤1000000)(h0:0≤at')(hin:at'+2<b.length)(hv:0≤v∧v<64)(h1:0≤y1∧y1<64)(e1:nth b (at'+1)=128+y1)(h2:0≤y2∧y2<64)(e2:nth b (at'+2)=128+y2):a0p b at' 2 v=some ((v*64+y1)*64+y2):=by
 unfold a0p
 rw[w64 (n:=at'+2) (by omega) (by omega),dF (show¬at'+2≥(b.length:Int) by omega)]
 simp only[cond_false]
 rw[g0C (o:= .inl ((v*64+y1)*64+y2)) 3 ?_ (by omega)]
 ·rfl
 ·rw[b0v (g0I hl h0 (by omega) (by omega) hin (by omega) h1 e1),b0v (g0I hl h0 (by omega) (by omega) hin (by omega) h2 (by rw[←e2];congr 1))]
  exact b0F (by simp only;rw[dF (by omega)];rfl)
theorem y0U {b:List Int} {at' v y1 y2 y3:Int} (hl:b.length≤1000000)(h0:0≤at')(hin:at'+3<b.length)(hv:0≤v∧v<64)(h1:0≤y1∧y1<64)(e1:nth b (at'+1)=128+y1)(h2:0≤y2∧y2<64)(e2:nth b (at'+2)=128+y2)(h3:0≤y3∧y3<64)(e3:nth b (at'+3)=128+y3):a0p b at' 3 v=some (((v*64+y1)*64+y2)*64+y3):=by
 unfold a0p
 rw[w64 (n:=at'+3) (by omega) (by omega),dF (show¬at'+3≥(b.length:Int) by omega)]
 simp only[cond_false]
 rw[g0C (o:= .inl (((v*64+y1)*64+y2)*64+y3)) 4 ?_ (by omega)]
 ·rfl
 ·rw[b0v (g0I hl h0 (by omega) (by omega) hin (by omega) h1 e1),b0v (g0I hl h0 (by omega) (by omega) hin (by omega) h2 (by rw[←e2];congr 1)),b0v (g0I hl h0 (by omega) (by omega) hin (by omega) h3 (by rw[←e3];congr 1))]
  exact b0F (by simp only;rw[dF (by omega)];rfl)
theorem z0q {pre l:List Int} {j:Nat} (hj:j<l.length):nth (pre++l) ((pre.length:Int)+j)=nth l (j:Int):=by
 rw[show(pre.length:Int)+(j:Int)=((pre.length+j:Nat):Int) by omega,d0M (by simp;omega),d0M hj]
 simp
theorem x0J {pre rest:List Int} {x:Int} (hr:e0u x=true)(hl:pre.length+rest.length≤900000):a0S (pre++(g0k x++rest)) (pre.length:Int)=some x:=by
 have hb:=f0q.1 hr
 have h4:=i0L x
 have hlen:(pre++(g0k x++rest)).length≤1000000:=by simp;omega
 have hat: ∀j:Nat,j<(g0k x++rest).length→nth (pre++(g0k x++rest)) ((pre.length:Int)+j)=nth (g0k x++rest) (j:Int):=fun j hj=>z0q hj
 unfold a0S
 by_cases h1:x<128
 ·have he:g0k x=[x]:=by unfold g0k;rw[if_pos h1]
  rw[he]at hat hlen⊢
  have e0:=hat 0 (by simp)
  simp only[bn,cA]at e0
  rw[a0J (by omega) (by simp;omega),e0]
  have e0':nth ([x]++rest) 0=x:=rfl
  rw[e0',w64 (n:=x) (by omega) (by omega),dT h1,dF (show¬x≥192 by omega),dF (show¬x≥224 by omega),dF (show¬x≥240 by omega)]
  simp only[cond_true,cond_false,aa]
  rw[w32 (n:=x) (by omega) (by omega),is1 (by omega) (by omega),hr,dF (show¬x<0 by omega)]
  rfl
 ·by_cases h2:x<2048
  ·have he:g0k x=[192+x/64,128+x%64]:=by unfold g0k;rw[if_neg h1,if_pos h2]
   rw[he]at hat hlen⊢
   have e0:=hat 0 (by simp)
   have e1:=hat 1 (by simp)
   simp only[bn,cA]at e0
   have e0':nth ([192+x/64,128+x%64]++rest) 0=192+x/64:=rfl
   have e1':nth ([192+x/64,128+x%64]++rest) (1:Nat)=128+x%64:=rfl
   rw[a0J (by omega) (by simp;omega),e0,e0',w64 (n:=192+x/64) (by omega) (by omega),dF (show¬192+x/64<128 by omega),dT (show 192+x/64≥192 by omega),dT (show 192+x/64<224 by omega),dF (show¬192+x/64≥224 by omega),dF (show¬192+x/64≥240 by omega),show 192+x/64-192=x/64 by omega,w64 (n:=x/64) (by omega) (by omega)]
   rw[y0W hlen (by omega) (by simp;omega) (by omega) (show 0≤x%64∧x%64<64 by omega) (e1.trans e1'),show x/64*64+x%64=x by omega]
   simp only[cond_true,cond_false,aa]
   rw[w32 (n:=x) (by omega) (by omega),is1 (by omega) (by omega),hr,dF (show¬x<128 by omega)]
   rfl
  ·by_cases h3:x<65536
   ·have he:g0k x=[224+x/4096,128+x/64%64,128+x%64]:=by unfold g0k;rw[if_neg h1,if_neg h2,if_pos h3]
    rw[he]at hat hlen⊢
    have e0:=hat 0 (by simp)
    have e1:=hat 1 (by simp)
    have e2:=hat 2 (by simp)
    simp only[bn,cA]at e0
    have e0':nth ([224+x/4096,128+x/64%64,128+x%64]++rest) 0=224+x/4096:=rfl
    have e1':nth ([224+x/4096,128+x/64%64,128+x%64]++rest) (1:Nat)=128+x/64%64:=rfl
    have e2':nth ([224+x/4096,128+x/64%64,128+x%64]++rest) (2:Nat)=128+x%64:=rfl
    rw[a0J (by omega) (by simp;omega),e0,e0',w64 (n:=224+x/4096) (by omega) (by omega),dF (show¬224+x/4096<128 by omega),dT (show 224+x/4096≥192 by omega),dF (show¬224+x/4096<224 by omega),dT (show 224+x/4096≥224 by omega),dT (show 224+x/4096<240 by omega),dF (show¬224+x/4096≥240 by omega),show 224+x/4096-224=x/4096 by omega,w64 (n:=x/4096) (by omega) (by omega)]
    rw[y0V hlen (by omega) (by simp;omega) (by omega) (show 0≤x/64%64∧x/64%64<64 by omega) (e1.trans e1') (show 0≤x%64∧x%64<64 by omega) (e2.trans e2'),show(x/4096*64+x/64%64)*64+x%64=x by omega]
    simp only[cond_true,cond_false,aa]
    rw[w32 (n:=x) (by omega) (by omega),is1 (by omega) (by omega),hr,dF (show¬x<2048 by omega)]
    rfl
   ·have he:g0k x=[240+x/262144,128+x/4096%64,128+x/64%64,128+x%64]:=by unfold g0k;rw[if_neg h1,if_neg h2,if_neg h3]
    rw[he]at hat hlen⊢
    have e0:=hat 0 (by simp)
    have e1:=hat 1 (by simp)
    have e2:=hat 2 (by simp)
    have e3:=hat 3 (by simp)
    simp only[bn,cA]at e0
    have e0':nth ([240+x/262144,128+x/4096%64,128+x/64%64,128+x%64]++rest) 0=240+x/262144:=rfl
    have e1':nth ([240+x/262144,128+x/4096%64,128+x/64%64,128+x%64]++rest) (1:Nat)=128+x/4096%64:=rfl
    have e2':nth ([240+x/262144,128+x/4096%64,128+x/64%64,128+x%64]++rest) (2:Nat)=128+x/64%64:=rfl
    have e3':nth ([240+x/262144,128+x/4096%64,128+x/64%64,128+x%64]++rest) (3:Nat)=128+x%64:=rfl
    rw[a0J (by omega) (by simp;omega),e0,e0',w64 (n:=240+x/262144) (by omega) (by omega),dF (show¬240+x/262144<128 by omega),dT (show 240+x/262144≥192 by omega),dF (show¬240+x/262144<224 by omega),dT (show 240+x/262144≥224 by omega),dF (show¬240+x/262144<240 by omega),dT (show 240+x/262144≥240 by omega),dT (show 240+x/262144<248 by omega),show 240+x/262144-240=x/262144 by omega,w64 (n:=x/262144) (by omega) (by omega)]
    rw[y0U hlen (by omega) (by simp;omega) (by omega) (show 0≤x/4096%64∧x/4096%64<64 by omega) (e1.trans e1') (show 0≤x/64%64∧x/64%64<64 by omega) (e2.trans e2') (show 0≤x%64∧x%64<64 by omega) (e3.trans e3'),show((x/262144*64+x/4096%64)*64+x/64%64)*64+x%64=x by omega]
    simp only[cond_true,cond_false,aa]
    rw[w32 (n:=x) (by omega) (by omega),is1 (by omega) (by omega),hr,dF (show¬x<65536 by omega)]
    rfl
theorem m0b(x y:List Int):a0T (x++y)=a0T x++a0T y:=by unfold a0T;rw[bd]
theorem j0F {L:List Int} (hL:L.all e0u=true)(hl:L.length≤20000):a0L (a0T L)=some (L,0,0):=by
 have hE:=k0j L
 unfold a0L
 generalize hX:a0T L=X at hE
 generalize hst:(fun(s63:Int×(List Int))=>((bif(decide (s63.1<(X.length:Int)))then(Option.bind (a0S X s63.1) fun y105=>(bif(decide (y105<0))then(some (.inr (.inr (([]:List Int),s63.1,3))))else(bif room (s63.2.length+([(IntKind.wrap .i32 y105)]:List Int).length)then(Option.bind (b0k (IntKind.wrap .i32 y105)) fun y115=>(some (.inl ((IntKind.wrap .i64 (s63.1+y115)),(s63.2++([(IntKind.wrap .i32 y105)]:List Int))))))else none)))else(some (.inr (.inl s63.2)))):Option ((Int×(List Int))⊕((List Int)⊕((List Int)×Int×Int)))))=step
 obtain⟨o,h1,h2⟩:=d0t (step:=step) L.length (fun j=>(((a0T (L.take j)).length:Int),L.take j)) (fun _=>True) (fun o=>o= .inl L) (s0:=(0,[])) (by simp[a0T]) trivial (fun j hj _=>by
  left
  refine⟨?_,trivial⟩
  have hrj:e0u L[j]=true:=List.all_eq_true.1 hL _ (bk hj)
  have hb:=f0q.1 hrj
  have hX2:X=a0T (L.take j)++(g0k L[j]++a0T (L.drop (j+1))):=by
   rw[←hX]
   have e1:a0T (L.drop j)=g0k L[j]++a0T (L.drop (j+1)):=by unfold a0T;rw[bl hj,aC]
   rw[←e1,←m0b,ca]
  have hsz:=r0w hrj
  have hne:0<d0X L[j]:=by
   unfold d0X;rw[hrj];simp only[if_true];split;omega;split;omega;split<;>omega
  have h4:=i0L L[j]
  have hlt:(a0T (L.take j)).length+((g0k L[j]).length+(a0T (L.drop (j+1))).length)=X.length:=by rw[hX2,ag,ag]
  have hone:a0S X ((a0T (L.take j)).length:Int)=some L[j]:=by rw[hX2];exact x0J hrj (by omega)
  have hnext:a0T (L.take (j+1))=a0T (L.take j)++g0k L[j]:=by
   rw[bc hj,m0b];simp[a0T]
  subst hst
  simp only
  rw[dT (by omega),hone]
  simp only[cond_true,aa]
  rw[dF (show¬L[j]<0 by omega),w32 (n:=L[j]) (by omega) (by omega),y0Y (by omega) (by omega),a0h (by simp;omega)]
  simp only[cond_true,cond_false,aa]
  rw[w64 (by omega) (by omega),hnext,bc hj,ag,←hsz,Int.natCast_add]) (fun _=>⟨.inl L,by subst hst;simp only;rw[bA,hX,dF (by omega)];rfl,rfl⟩) (by omega)
 rw[h1,h2]
 rfl
theorem w0B {x c:Int} (hr:e0u x=true)(hc:c∈g0k x):0≤c∧c<256:=by
 have hb:=f0q.1 hr
 unfold g0k at hc
 split at hc
 ·simp at hc;omega
 ·split at hc
  ·simp at hc;omega
  ·split at hc<;>(simp at hc;omega)
theorem p0l: ∀ {l:List Int},(∀c∈l,0≤c∧c<256)→a0N (a0q l)=l
 | [],_=>rfl
 |c::l,h=>by
  have h1:=h c (ar ..)
  have ih:=p0l (l:=l) (fun x hx=>h x (ao _ hx))
  unfold a0N a0q at*
  simp only[ah,bT]at ih⊢
  congr 1
  have h3:(UInt8.ofNat c.toNat).toNat=c.toNat%256:=UInt8.toNat_ofNat'
  rw[h3];omega
theorem n0r {L:List Int} (hL:L.all e0u=true):a0N (a0q (a0T L))=a0T L:=by
 refine p0l (fun c hc=> ?_)
 unfold a0T at hc
 obtain⟨x,hx,hcx⟩:=bw.1 hc
 exact w0B (List.all_eq_true.1 hL x hx) hcx
theorem c0R(x y:List Int):a0q (x++y)=a0q x++a0q y:=by simp[a0q]
theorem t0j {x:Int} (hr:e0u x=true):(Utf8.encode x).data.toList=a0q (g0k x):=by
 have hb:=f0q.1 hr
 have hv:Utf8.valid x=true:=by
  unfold Utf8.valid
  simp only[ba,ac,decide_eq_true_eq]
  omega
 unfold Utf8.encode g0k a0q
 simp only[hv,if_true]
 by_cases h1:x<128
 ·rw[if_pos (by omega),if_pos h1];rfl
 ·rw[if_neg (by omega),if_neg h1]
  by_cases h2:x<2048
  ·rw[if_pos (by omega),if_pos h2]
   simp only[ah,ay]
   rw[show(192+x/64).toNat=192+x.toNat/64 by omega,show(128+x%64).toNat=128+x.toNat%64 by omega]
  ·rw[if_neg (by omega),if_neg h2]
   by_cases h3:x<65536
   ·rw[if_pos (by omega),if_pos h3]
    simp only[ah,ay]
    rw[show(224+x/4096).toNat=224+x.toNat/4096 by omega,show(128+x/64%64).toNat=128+x.toNat/64%64 by omega,show(128+x%64).toNat=128+x.toNat%64 by omega]
   ·rw[if_neg (by omega),if_neg h3]
    simp only[ah,ay]
    rw[show(240+x/262144).toNat=240+x.toNat/262144 by omega,show(128+x/4096%64).toNat=128+x.toNat/4096%64 by omega,show(128+x/64%64).toNat=128+x.toNat/64%64 by omega,show(128+x%64).toNat=128+x.toNat%64 by omega]
/-! The text of a pattern, as runes. -/
def spc(x:Int):Bool:=decide (x=35∨x=64∨x=44∨x=46∨x=59∨x=42∨x=37∨x=45∨x=43∨x=39∨x=69∨x=164∨(48≤x∧x≤57))
theorem B0E(x:Int):a0Q x=some (spc x):=by
 unfold a0Q
 generalize hS:([35,64,44,46,59,42,37,45,43,39,69]:List UInt8)=S
 by_cases h1:(48≤x∧x≤57)∨x=164
 ·have h2:spc x=true:=by unfold spc;rw[dT];omega
  rw[h2]
  by_cases a:x≥48<;>by_cases b:x≤57<;>by_cases c:x=164<;>first|omega|simp[a,b,c,a0g]
 ·have hA:(Option.bind (bif(decide (x≥48))then(bif(decide (x≤57))then(some true)else(some (decide (x=164))))else(some (decide (x=164)))) fun(s33:Bool)=>(bif s33 then(some (.inr true))else(some (.inl ()):Option (Unit⊕Bool))))=some (.inl ()):=by
   by_cases a:x≥48<;>by_cases b:x≤57<;>by_cases c:x=164<;>first|omega|simp[a,b,c]
  rw[hA]
  simp only[aa,a0g]
  obtain⟨o,g1,g2⟩:=d0t (step:=(fun(s92:Int)=>(bif(decide (s92<11))then(bif inR s92 S.length then(bif(decide (((IntKind.wrap .i32 ((((S.getD (s92:Int).toNat 0).toNat:Nat):Int))))=x))then(some (.inr (.inr true)))else(some (.inl (IntKind.wrap .i64 (s92+1)))))else none)else(some (.inr (.inl ()))):Option (Int⊕(Unit⊕Bool))))) 11 (fun i=>(i:Int)) (fun i=> ∀j:Nat,j<i→nth ([35,64,44,46,59,42,37,45,43,39,69]:List Int) (j:Int)≠x) (fun o=>o=if spc x=true then .inr true else .inl ()) (s0:=0) rfl (fun j hj=>by omega) (fun i hi hI=>by
   have hv:IntKind.wrap .i32 (((S.getD (i:Int).toNat 0).toNat:Nat):Int)=nth ([35,64,44,46,59,42,37,45,43,39,69]:List Int) (i:Int):=by
    subst hS
    have key: ∀k:Fin 11,IntKind.wrap .i32 (((([35,64,44,46,59,42,37,45,43,39,69]:List UInt8).getD (k.val:Int).toNat 0).toNat:Nat):Int)=nth ([35,64,44,46,59,42,37,45,43,39,69]:List Int) (k.val:Int):=by decide+kernel
    exact key ⟨i,hi⟩
   have hSl:S.length=11:=by subst hS;rfl
   rw[dT (show(i:Int)<11 by omega),g0Y (by omega),hv,w64 (n:=(i:Int)+1) (by omega) (by omega)]
   simp only[cond_true]
   by_cases c:nth ([35,64,44,46,59,42,37,45,43,39,69]:List Int) (i:Int)=x
   ·right
    rw[dT c]
    refine⟨_,rfl, ?_⟩
    have hs:spc x=true:=by
     unfold spc
     rw[dT]
     have hm:x∈([35,64,44,46,59,42,37,45,43,39,69]:List Int):=by rw[←c,d0M (by simp;omega)];exact bk _
     simp at hm
     omega
    rw[if_pos hs]
   ·left
    rw[dF c]
    refine⟨by simp,fun j hj=> ?_⟩
    by_cases e:j=i
    ·subst e;exact c
    ·exact hI j (by omega)) (fun hI=>⟨.inl (),by rw[dF (by omega)];rfl,by
   have n0:=hI 0 (by omega);have n1:=hI 1 (by omega);have n2:=hI 2 (by omega);have n3:=hI 3 (by omega);have n4:=hI 4 (by omega);have n5:=hI 5 (by omega);have n6:=hI 6 (by omega);have n7:=hI 7 (by omega);have n8:=hI 8 (by omega);have n9:=hI 9 (by omega);have n10:=hI 10 (by omega)
   have hs:spc x=false:=by
    unfold spc
    refine dF ?_
    simp[nth]at n0 n1 n2 n3 n4 n5 n6 n7 n8 n9 n10
    omega
   rw[if_neg (by simp[hs])]⟩) (by omega)
  rw[g1,g2]
  cases spc x<;>rfl
theorem q0w {c:UInt8} {n:Int} (h0:0≤n)(h1:n≤1000):a0V [c] n=some (List.replicate n.toNat c):=by
 unfold a0V
 obtain⟨m,rfl⟩: ∃m:Nat,n=m:=⟨n.toNat,by omega⟩
 obtain⟨o,h2,h3⟩:=d0t (step:=fun(s27:(List UInt8)×Int)=>(bif(decide (s27.2<(m:Int)))then(bif room (s27.1.length+([c]:List UInt8).length)then(some (.inl ((s27.1++([c]:List UInt8)),(IntKind.wrap .i64 (s27.2+1)))))else none)else(some (.inr s27.1)))) m (fun i=>(List.replicate i c,(i:Int))) (fun _=>True) (fun o=>o=List.replicate m c) (s0:=([],0)) (by simp) trivial (fun i hi _=>by
  left
  refine⟨?_,trivial⟩
  simp only
  rw[dT (by omega),a0h (by simp;omega),w64 (by omega) (by omega)]
  simp only[cond_true]
  congr 1
  rw[←List.replicate_succ']
  rfl) (fun _=>⟨_,by simp only;rw[dF (by omega)];rfl,rfl⟩) (by omega)
 rw[h2,h3]
 simp
theorem g0M(n:Nat)(c:Int):a0q (List.replicate n c)=List.replicate n (UInt8.ofNat c.toNat):=by simp[a0q]
def dgt(ha k:Nat):Int:=if k<ha then 35 else 48
def r0P(g1 g2:Int)(t ha:Nat):Nat→List Int
 |0=> []
 |n+1=>dgt ha (t-1-n)::((if o0D g1 g2 n=true then [44]else [])++r0P g1 g2 t ha n)
theorem u0Z(g1 g2:Int)(t ha n:Nat):r0P g1 g2 t ha (n+1)=dgt ha (t-1-n)::((if o0D g1 g2 n=true then [44]else [])++r0P g1 g2 t ha n):=rfl
theorem t0d(g1 g2:Int)(t ha:Nat): ∀n,(r0P g1 g2 t ha n).length≤2*n
 |0=>by simp[r0P]
 |n+1=>by
  have:=t0d g1 g2 t ha n
  unfold r0P
  split<;>simp<;>omega
theorem v0a(g1 g2:Int)(t ha:Nat): ∀n,n≤t→p0G g1 g2 t ha (t-n)++((if n<t∧o0D g1 g2 n=true then [44]else [])++r0P g1 g2 t ha n)=p0G g1 g2 t ha t
 |0,_=>by
  have:o0D g1 g2 ((0:Nat):Int)=false:=by
   cases h:o0D g1 g2 ((0:Nat):Int)
   ·rfl
   ·have:=(x0V.1 h);omega
  rw[this]
  simp[r0P]
 |n+1,h=>by
  have ih:=v0a g1 g2 t ha n (by omega)
  rw[←ih,show t-n=(t-(n+1))+1 by omega,n0X]
  rw[u0Z]
  unfold plc dgt
  rw[show((t:Int)-(t-(n+1):Nat))=((n+1:Nat):Int) by omega,show t-1-n=t-(n+1) by omega]
  by_cases g:o0D g1 g2 ((n+1:Nat):Int)=true<;>by_cases g':o0D g1 g2 (n:Int)=true<;>by_cases h1:n+1<t
  all_goals(first|rw[if_pos (c:=0<t-(n+1)∧_) ⟨by omega,g⟩]|rw[if_neg (c:=0<t-(n+1)∧_) (fun hh=>g hh.2)]|rw[if_neg (c:=0<t-(n+1)∧_) (fun hh=>absurd hh.1 (by omega))])
  all_goals(first|rw[if_pos (c:=n+1<t∧_) ⟨by omega,g⟩]|rw[if_neg (c:=n+1<t∧_) (fun hh=>g hh.2)]|rw[if_neg (c:=n+1<t∧_) (fun hh=>absurd hh.1 (by omega))])
  all_goals(first|rw[if_pos (c:=n<t∧_) ⟨by omega,g'⟩,if_pos g']|rw[if_neg (c:=n<t∧_) (fun hh=>g' hh.2),if_neg g'])
  all_goals simp[aL]
theorem x0k(g1 g2:Int)(t ha:Nat):r0P g1 g2 t ha t=p0G g1 g2 t ha t:=by
 have:=v0a g1 g2 t ha t (by omega)
 rw[if_neg (by omega),Nat.sub_self]at this
 simpa [p0G]using this
theorem z0p {p:a0y} (hc:r0L p)(hn:i0P (g0a p)):b0r p=some (a0q (o0J p)):=by
 obtain⟨⟨a1,a2⟩,⟨b1,b2⟩,⟨c1,c2⟩,⟨d1,d2⟩,e1,f1,⟨g1,g2⟩,⟨h1,h2⟩,⟨i1,i2⟩⟩:=hc
 obtain⟨n1,n2,n3,n4,n5,n6,n7,n8,n9,n10,n11⟩:=hn
 unfold b0r
 obtain⟨ha,hha⟩: ∃m:Nat,p.n_=m:=⟨p.n_.toNat,by omega⟩
 obtain⟨mi,hmi⟩: ∃m:Nat,p.j_=m:=⟨p.j_.toNat,by omega⟩
 have hpe:plL p=p0G p.e_ p.g_ (ha+mi) ha (ha+mi):=by
  unfold plL;rw[hha,hmi,show((ha:Int)+mi).toNat=ha+mi by omega,show(ha:Int).toNat=ha by omega]
 rw[hha,hmi,w64 (n:=(ha:Int)+mi) (by omega) (by omega)]
 generalize hst:(fun(s519:(List UInt8)×Int)=>((bif(decide (s519.2<(ha:Int)+mi))then(Option.bind (Option.bind (Option.bind (bif(decide (p.e_>0))then(bif(decide (s519.2=p.e_))then(some true)else(bif(decide (s519.2>p.e_))then(bif(decide (p.g_>0))then(bif nz p.g_ then(some ((decide (((Int.tmod (IntKind.wrap .i64 (s519.2-p.e_)) p.g_))=0))))else none)else(some false))else(some false)))else(some false)) fun(s1003:Bool)=>(bif s1003 then(bif room (([44]:List UInt8).length+s519.1.length)then(some (([44]:List UInt8)++s519.1))else none)else(some s519.1))) fun(s985:(List UInt8))=>(bif(decide (s519.2<(mi:Int)))then(bif room (([48]:List UInt8).length+s985.length)then(some (([48]:List UInt8)++s985))else none)else(bif room (([35]:List UInt8).length+s985.length)then(some (([35]:List UInt8)++s985))else none))) fun(s945:(List UInt8))=>(some (.inl (s945,(IntKind.wrap .i64 (s519.2+1))))))else(some (.inr s519.1))):Option (((List UInt8)×Int)⊕(List UInt8))))=step
 obtain⟨o,q1,q2⟩:=d0t (step:=step) (ha+mi) (fun n=>(a0q (r0P p.e_ p.g_ (ha+mi) ha n),(n:Int))) (fun _=>True) (fun o=>o=a0q (plL p)) (s0:=([],0)) rfl trivial (fun n hi _=>by
  left
  refine⟨?_,trivial⟩
  subst hst
  have hl:=t0d p.e_ p.g_ (ha+mi) ha n
  have hbl:(a0q (r0P p.e_ p.g_ (ha+mi) ha n)).length=(r0P p.e_ p.g_ (ha+mi) ha n).length:=by simp[a0q]
  have hsu:r0P p.e_ p.g_ (ha+mi) ha (n+1)=dgt ha (ha+mi-1-n)::((if o0D p.e_ p.g_ n=true then [44]else [])++r0P p.e_ p.g_ (ha+mi) ha n):=rfl
  rw[hsu]
  generalize r0P p.e_ p.g_ (ha+mi) ha n=P at*
  simp only
  rw[dT (show(n:Int)<(ha:Int)+mi by omega),w64 (n:=(n:Int)+1) (by omega) (by omega)]
  have hG:(bif(decide (p.e_>0))then(bif(decide ((n:Int)=p.e_))then(some true)else(bif(decide ((n:Int)>p.e_))then(bif(decide (p.g_>0))then(bif nz p.g_ then(some ((decide (((Int.tmod (IntKind.wrap .i64 ((n:Int)-p.e_)) p.g_))=0))))else none)else(some false))else(some false)))else(some false))=some (o0D p.e_ p.g_ n):=by
   unfold o0D
   by_cases c1:p.e_>0
   ·rw[dT c1,dT (show 1≤p.e_ by omega)]
    by_cases c2:(n:Int)=p.e_
    ·rw[dT c2,dT (show p.e_≤(n:Int) by omega)];rfl
    ·rw[dF c2]
     by_cases c3:(n:Int)>p.e_
     ·rw[dT c3,dT (show p.e_≤(n:Int) by omega),w64 (n:=(n:Int)-p.e_) (by omega) (by omega),bq (by omega)]
      by_cases c4:p.g_>0
      ·rw[dT c4,show nz p.g_=true by unfold nz;rw[dF (by omega)];rfl];simp
      ·rw[dF c4];rfl
     ·rw[dF c3,dF (show¬p.e_≤(n:Int) by omega)];rfl
   ·rw[dF c1,dF (show¬1≤p.e_ by omega)];rfl
  rw[hG]
  have hrm: ∀(x:List UInt8) (c:UInt8),x.length≤1000→room (([c]:List UInt8).length+x.length)=true:=fun x c hx=>a0h (by simp;omega)
  have hA:(Option.bind (some (o0D p.e_ p.g_ n)) fun(s1003:Bool)=>(bif s1003 then(bif room (([44]:List UInt8).length+(a0q P).length)then(some (([44]:List UInt8)++a0q P))else none)else(some (a0q P))))=some (a0q ((if o0D p.e_ p.g_ n=true then [44]else [])++P)):=by
   rw[hrm _ _ (by omega)]
   cases o0D p.e_ p.g_ n<;>rfl
  rw[hA]
  simp only[aa,cond_true]
  have hL:(a0q ((if o0D p.e_ p.g_ n=true then [44]else [])++P)).length≤1000:=by
   unfold a0q
   rw[cq,ag]
   have:(if o0D p.e_ p.g_ n=true then([44]:List Int)else []).length≤1:=by split<;>simp
   omega
  rw[hrm _ _ hL,hrm _ _ hL]
  unfold dgt
  by_cases c1:n<mi
  ·rw[dT (show(n:Int)<mi by omega),if_neg (c:=ha+mi-1-n<ha) (by omega)];rfl
  ·rw[dF (show¬(n:Int)<mi by omega),if_pos (c:=ha+mi-1-n<ha) (by omega)];rfl) (fun _=>⟨_,by subst hst;simp only;rw[dF (by omega)];rfl,by rw[x0k,hpe]⟩) (by omega)
 rw[q1,q2]
 simp only[aa]
 have hpl:(plL p).length≤160:=by
  have:=n0j p.e_ p.g_ (ha+mi) ha (ha+mi)
  rw[hpe];omega
 have hbl:(a0q (plL p)).length≤160:=by simp[a0q];exact hpl
 rw[q0w g1 (by omega),w64 (n:=p.m_-p.l_) (by omega) (by omega),q0w (by omega) (by omega),q0w c1 (by omega),w64 (n:=p.k_-p.p_) (by omega) (by omega),q0w (by omega) (by omega),q0w i1 (by omega)]
 simp only[aa]
 have hS:a0q (sgL p)=List.replicate p.l_.toNat 64++List.replicate (p.m_-p.l_).toNat 35:=by
  unfold sgL;rw[c0R,g0M,g0M];rfl
 have hSl:(sgL p).length≤90:=by unfold sgL;simp;omega
 rw[a0h (by simp;omega),a0h (by simp;omega)]
 simp only[cond_true]
 rw[←hS]
 have hF:(bif(decide (p.k_>0))then(bif room ((a0q (sgL p)++a0q (plL p)).length+([46]:List UInt8).length)then(bif room ((((a0q (sgL p)++a0q (plL p))++([46]:List UInt8))).length+(List.replicate p.p_.toNat (48:UInt8)).length)then(bif room (((((((a0q (sgL p)++a0q (plL p))++([46]:List UInt8)))++List.replicate p.p_.toNat (48:UInt8)))).length+(List.replicate (p.k_-p.p_).toNat (35:UInt8)).length)then(some ((((((((a0q (sgL p)++a0q (plL p))++([46]:List UInt8)))++List.replicate p.p_.toNat (48:UInt8)))++List.replicate (p.k_-p.p_).toNat (35:UInt8)))))else none)else none)else none)else(some (a0q (sgL p)++a0q (plL p))))=some (a0q (sgL p++(plL p++frL p))):=by
  have hb2:(a0q (sgL p)).length≤90:=by simp[a0q];exact hSl
  unfold frL
  by_cases h0:p.k_=0
  ·rw[dF (by omega),if_pos h0];simp[c0R]
  ·rw[dT (show p.k_>0 by omega),if_neg h0,a0h (by simp;omega),a0h (by simp;omega),a0h (by simp;omega)]
   rw[c0R,c0R,show∀l:List Int,a0q (46::l)=46::a0q l from fun _=>rfl,c0R,g0M,g0M]
   simp[aL]
 rw[hF]
 simp only[aa]
 have hb3:(a0q (sgL p++(plL p++frL p))).length≤400:=by
  have hfr:(frL p).length≤90:=by unfold frL;split<;>simp;omega
  simp[a0q];omega
 have hN:o0J p=(sgL p++(plL p++frL p))++exL p:=by
  unfold o0J
  by_cases hs:0<p.l_
  ·obtain⟨z1,z2,z3,z4⟩:=n10 hs
   have e1:plL p=[]:=by rw[hpe,show ha+mi=0 by omega];rfl
   have e2:frL p=[]:=by unfold frL;rw[if_pos z4]
   rw[if_pos hs,e1,e2];simp
  ·have e1:sgL p=[]:=by
    unfold sgL
    have hz:p.l_=0:=by omega
    have:=(n9 hz).1
    rw[hz,this];rfl
   rw[if_neg hs,e1];simp
 rw[hN]
 generalize sgL p++(plL p++frL p)=S at*
 unfold exL
 by_cases h0:p.d_=0
 ·rw[dF (by omega),if_pos h0];simp
 ·rw[dT (show p.d_>0 by omega),if_neg h0,a0h (by simp;omega),a0h (by simp;omega)]
  simp only[cond_true]
  cases hep:p.G_ with
  |true=>
   simp only[cond_true,aa]
   rw[a0h (by simp;omega),if_pos trivial,c0R,show∀l:List Int,a0q (69::l)=69::a0q l from fun _=>rfl,c0R,g0M]
   simp[a0q]
  |false=>
   simp only[cond_false,aa]
   rw[a0h (by simp;omega),if_neg (by simp),c0R,show∀l:List Int,a0q (69::l)=69::a0q l from fun _=>rfl,c0R,g0M]
   simp[a0q]
/-! An affix as runes. -/
def qN(q:Bool)(t:a0b):Bool:=if t.x_=0∧t.R_=39 then q else(decide (t.x_=0)&&spc t.R_)
def pcL(t:a0b):List Int:=if t.x_=0 then(if t.R_=39 then [39,39]else [t.R_])else if t.x_=1 then [45]else if t.x_=2 then [43]else if t.x_=3 then [37]else if t.x_=4 then [164]else []
def A0j(s:Bool×List Int)(t:a0b):Bool×List Int:=(qN s.1 t,s.2++((if(qN s.1 t !=s.1)=true then [39]else [])++pcL t))
def m0U(l:List a0b):Bool×List Int:=l.foldl A0j (false,[])
def j0v(l:List a0b):List Int:=(m0U l).2++(if(m0U l).1=true then [39]else [])
theorem m0h {l:List a0b} {i:Nat} (h:i<l.length):m0U (l.take (i+1))=A0j (m0U (l.take i)) l[i]:=by
 unfold m0U
 rw[bc h,List.foldl_append];rfl
def d0r(l:List a0b):Bool:=l.all (fun t=>e0u t.R_)
theorem A0t {t:a0b} (h:e0u t.R_=true):(pcL t).all e0u=true∧(pcL t).length≤2:=by
 unfold pcL
 split
 ·split
  ·exact⟨by decide,by simp⟩
  ·exact⟨by simp[h],by simp⟩
 ·split
  ·exact⟨by decide,by simp⟩
  ·split
   ·exact⟨by decide,by simp⟩
   ·split
    ·exact⟨by decide,by simp⟩
    ·split
     ·exact⟨by decide,by simp⟩
     ·exact⟨by decide,by simp⟩
theorem v0w(t:a0b):(pcL t).length≤2:=by
 unfold pcL;repeat' split
 all_goals simp
theorem w0V {l:List a0b} (h:d0r l=true): ∀i,i≤l.length→(m0U (l.take i)).2.all e0u=true
 |0,_=>by simp[m0U]
 |i+1,hi=>by
  rw[m0h (by omega)]
  have hr:e0u (l[i].R_)=true:=List.all_eq_true.1 h _ (bk _)
  have ih:=w0V h i (by omega)
  have h39:e0u 39=true:=by decide
  unfold A0j
  simp only[aN,ih,(A0t hr).1,Bool.and_true,bI]
  split<;>simp[h39]
theorem k0E {l:List a0b} : ∀i,i≤l.length→(m0U (l.take i)).2.length≤3*i
 |0,_=>by simp[m0U]
 |i+1,hi=>by
  rw[m0h (by omega)]
  have ih:=k0E (l:=l) i (by omega)
  have:=v0w l[i]
  unfold A0j
  simp only[ag]
  have:(if(qN (m0U (l.take i)).1 l[i] !=(m0U (l.take i)).1)=true then([39]:List Int)else []).length≤1:=by split<;>simp
  omega
theorem q0o {l:List a0b} (h:d0r l=true):(j0v l).all e0u=true:=by
 have:=w0V h l.length (by omega)
 rw[bA]at this
 unfold j0v
 rw[aN,this]
 split<;>decide
theorem d0q(l:List a0b):(j0v l).length≤3*l.length+1:=by
 have:=k0E (l:=l) l.length (by omega)
 rw[bA]at this
 unfold j0v
 rw[ag]
 split<;>simp<;>omega
theorem m0c(l:List Int):(a0q l).length=l.length:=by simp[a0q]
theorem d0W(l:List Int):(a0q (a0T l)).length≤4*l.length:=by rw[m0c];exact k0j l
theorem e0L(x y:List Int):a0q (a0T (x++y))=a0q (a0T x)++a0q (a0T y):=by rw[m0b,c0R]
theorem n0h {l:List a0b} (h:d0r l=true)(hl:l.length≤300):a0P l=some (a0q (a0T (j0v l))):=by
 unfold a0P
 generalize hst:(fun(s633:(List UInt8)×Bool×Int)=>((bif(decide (s633.2.2<(l.length:Int)))then(Option.bind (bif inR s633.2.2 l.length then(Option.bind (a0Q ((nth l s633.2.2).R_)) fun y1160=>(Option.bind (bif inR s633.2.2 l.length then(bif(decide (((nth l s633.2.2).x_)=0))then(bif inR s633.2.2 l.length then(some ((decide (((nth l s633.2.2).R_)=39))))else none)else(some false))else none) fun(s1168:Bool)=>(Option.bind (bif inR s633.2.2 l.length then(bif(decide (((nth l s633.2.2).x_)=0))then(some y1160)else(some false))else none) fun(s1182:Bool)=>(Option.bind (Option.bind (bif(!s1168)then(some (s1182 !=s633.2.1))else(some false)) fun(s1214:Bool)=>(bif s1214 then(bif room (s633.1.length+([39]:List UInt8).length)then(some ((s633.1++([39]:List UInt8)),s1182))else none)else(some (s633.1,s633.2.1)))) fun(s1206:(List UInt8)×Bool)=>(bif inR s633.2.2 l.length then(bif(decide (((nth l s633.2.2).x_)=0))then(bif inR s633.2.2 l.length then(Option.bind (a0R ((nth l s633.2.2).R_)) fun y1231=>(bif room (s1206.1.length+y1231.length)then(bif s1168 then(bif room ((s1206.1++y1231).length+([39]:List UInt8).length)then(some (((s1206.1++y1231)++([39]:List UInt8)),s1206.2))else none)else(some ((s1206.1++y1231),s1206.2)))else none))else none)else(bif(decide (((nth l s633.2.2).x_)=1))then(bif room (s1206.1.length+([45]:List UInt8).length)then(some ((s1206.1++([45]:List UInt8)),s1206.2))else none)else(bif(decide (((nth l s633.2.2).x_)=2))then(bif room (s1206.1.length+([43]:List UInt8).length)then(some ((s1206.1++([43]:List UInt8)),s1206.2))else none)else(bif(decide (((nth l s633.2.2).x_)=3))then(bif room (s1206.1.length+([37]:List UInt8).length)then(some ((s1206.1++([37]:List UInt8)),s1206.2))else none)else(bif(decide (((nth l s633.2.2).x_)=4))then(Option.bind (a0R 164) fun y1254=>(bif room (s1206.1.length+y1254.length)then(some ((s1206.1++y1254),s1206.2))else none))else(some (s1206.1,s1206.2)))))))else none)))))else none) fun(s1154:(List UInt8)×Bool)=>(some (.inl (s1154.1,s1154.2,(IntKind.wrap .i64 (s633.2.2+1))))))else(some (.inr (s633.1,s633.2.1)))):Option (((List UInt8)×Bool×Int)⊕((List UInt8)×Bool))))=step
 obtain⟨o,q1,q2⟩:=d0t (step:=step) l.length (fun i=>(a0q (a0T (m0U (l.take i)).2),(m0U (l.take i)).1,(i:Int))) (fun _=>True) (fun o=>o=(a0q (a0T (m0U l).2),(m0U l).1)) (s0:=([],false,0)) rfl trivial (fun i hi _=>by
  left
  refine⟨?_,trivial⟩
  have hr:e0u (l[i].R_)=true:=List.all_eq_true.1 h _ (bk _)
  have hln:=k0E (l:=l) i (by omega)
  have hbl:=d0W (m0U (l.take i)).2
  rw[m0h hi]
  subst hst
  generalize m0U (l.take i)=F at hln hbl
  obtain⟨q,out⟩:=F
  simp only at hln hbl⊢
  rw[dT (show(i:Int)<(l.length:Int) by omega),g0Y hi,w64 (n:=(i:Int)+1) (by omega) (by omega),d0M hi]
  generalize l[i]=t at hr
  obtain⟨k,r⟩:=t
  simp only at hr⊢
  rw[B0E,y0T hr]
  simp only[aa,cond_true]
  have hA: ∀(s:Bool),((Option.bind (bif(!(decide (k=0)&&decide (r=39)))then(some (s !=q))else(some false)) fun(s1214:Bool)=>(bif s1214 then(bif room ((a0q (a0T out)).length+([39]:List UInt8).length)then(some ((a0q (a0T out)++([39]:List UInt8)),s))else none)else(some (a0q (a0T out),q)))):Option (List UInt8×Bool))=some (a0q (a0T (out++(if((if k=0∧r=39 then q else s) !=q)=true then [39]else []))),if k=0∧r=39 then q else s):=by
   intro s
   rw[a0h (by simp;omega)]
   by_cases h1:k=0∧r=39
   ·rw[dT h1.1,dT h1.2,if_pos h1]
    simp
   ·rw[show(decide (k=0)&&decide (r=39))=false by rw[←Bool.decide_and];exact dF h1,if_neg h1]
    cases s<;>cases q<;>simp[m0b,c0R]<;>rfl
  have hB:(bif(decide (k=0))then(some ((decide (r=39))))else(some false):Option Bool)=some (decide (k=0)&&decide (r=39)):=by cases decide (k=0)<;>rfl
  have hC:(bif(decide (k=0))then(some (spc r))else(some false):Option Bool)=some (decide (k=0)&&spc r):=by cases decide (k=0)<;>rfl
  rw[hB,hC]
  simp only[aa]
  rw[hA]
  simp only[aa]
  have hq:qN q ⟨k,r⟩=if k=0∧r=39 then q else(decide (k=0)&&spc r):=rfl
  unfold A0j
  simp only
  rw[←hq]
  generalize qN q ⟨k,r⟩=q'
  rw[←aL]
  have hol:(out++(if(q' !=q)=true then [39]else [])).length≤3*i+1:=by
   rw[ag];split<;>simp<;>omega
  generalize out++(if(q' !=q)=true then [39]else [])=out' at*
  have hbl':=d0W out'
  have h164:a0R 164=some (a0q (g0k 164)):=y0T (by decide)
  have hel:(a0q (g0k r)).length≤4:=by rw[m0c];exact i0L r
  have hel2:(a0q (g0k 164)).length≤4:=by rw[m0c];exact i0L 164
  rw[h164]
  simp only[aa]
  rw[e0L]
  unfold pcL
  simp only
  rw[a0h (by omega),a0h (by simp;omega),a0h (by simp;omega),a0h (by simp;omega)]
  by_cases k0:k=0
  ·rw[dT k0,if_pos k0]
   by_cases r9:r=39
   ·rw[dT r9,if_pos r9];subst r9;simp;rfl
   ·rw[dF r9,if_neg r9];simp[a0T]
  ·rw[dF k0,if_neg k0]
   by_cases k1:k=1
   ·rw[dT k1,if_pos k1];rfl
   ·rw[dF k1,if_neg k1]
    by_cases k2:k=2
    ·rw[dT k2,if_pos k2];rfl
    ·rw[dF k2,if_neg k2]
     by_cases k3:k=3
     ·rw[dT k3,if_pos k3,a0h (by simp;omega)];rfl
     ·rw[dF k3,if_neg k3]
      by_cases k4:k=4
      ·rw[dT k4,if_pos k4]
       rw[a0h (n:=(a0q (a0T out')).length+(a0q (g0k 164)).length) (by omega)]
       simp[a0T]
      ·rw[dF k4,if_neg k4];simp[a0T,a0q]) (fun _=>⟨_,by subst hst;simp only;rw[dF (by omega)];rfl,by rw[bA]⟩) (by omega)
 rw[q1,q2]
 simp only[aa]
 have hln:=k0E (l:=l) l.length (by omega)
 rw[bA]at hln
 have hbl:=d0W (m0U l).2
 unfold j0v
 rw[a0h (by simp;omega),e0L]
 cases(m0U l).1
 ·simp[a0T,a0q]
 ·simp;rfl
def n0m(p:a0y)(w:Int):List Int:=if p.y_=w then [42,p.f_]else []
theorem d0n(p:a0y)(w:Int):(n0m p w).length≤2:=by unfold n0m;split<;>simp
theorem p0I {p:a0y} (w:Int)(h:e0u p.f_=true):b0a p w=some (a0q (a0T (n0m p w))):=by
 unfold b0a n0m
 by_cases h1:p.y_=w
 ·rw[dT h1,if_pos h1,y0T h]
  have hel:(a0q (g0k p.f_)).length≤4:=by rw[m0c];exact i0L _
  simp only[cond_true,aa]
  rw[a0h (by simp;omega)]
  simp[a0T,a0q]
  rfl
 ·rw[dF h1,if_neg h1];rfl
theorem w0P: ∀ {l:List Int},asc l→a0T l=l
 | [],_=>rfl
 |c::l,h=>by
  have h1:=h c (ar ..)
  have ih:=w0P (l:=l) (fun x hx=>h x (ao _ hx))
  have e:a0T (c::l)=g0k c++a0T l:=rfl
  rw[e,ih]
  unfold g0k
  rw[if_pos h1.2];rfl
theorem A0Z {l:List Int} (h:asc l):l.all e0u=true:=by
 refine List.all_eq_true.2 (fun c hc=> ?_)
 have:=h c hc
 exact f0q.2 (by omega)
def txL(p:a0y):List Int:=n0m p 1++(j0v p.a_++(n0m p 2++(o0J p++(n0m p 3++(j0v p.b_++(n0m p 4++(if p.D_=true then 59::(j0v p.i_++(o0J p++j0v p.h_))else [])))))))
theorem p0N {p:a0y} (hc:r0L p)(hn:i0P (g0a p)):(o0J p).length≤400:=(q0V hc hn).2
theorem t0b {p:a0y} (hc:r0L p)(hn:i0P (g0a p))(h1:p.a_.length≤300)(h2:p.b_.length≤300)(h3:p.i_.length≤300)(h4:p.h_.length≤300)(o0:e0u p.f_=true)(o1:d0r p.a_=true)(o2:d0r p.b_=true)(o3:d0r p.i_=true)(o4:d0r p.h_=true):b0j p=some (a0q (a0T (txL p))):=by
 have hN:=z0p hc hn
 rw[←w0P (w0O p)]at hN
 unfold b0j
 rw[p0I 1 o0,p0I 2 o0,p0I 3 o0,p0I 4 o0,n0h o1 h1,n0h o2 h2,n0h o3 h3,n0h o4 h4,hN]
 simp only[aa]
 have b1:=d0W (n0m p 1);have b2:=d0W (n0m p 2);have b3:=d0W (n0m p 3);have b4:=d0W (n0m p 4)
 have a1:=d0n p 1;have a2:=d0n p 2;have a3:=d0n p 3;have a4:=d0n p 4
 have c1:=d0W (j0v p.a_);have c2:=d0W (j0v p.b_);have c3:=d0W (j0v p.i_);have c4:=d0W (j0v p.h_)
 have d1:=d0q p.a_;have d2:=d0q p.b_;have d3:=d0q p.i_;have d4:=d0q p.h_
 have e1:=d0W (o0J p);have e2:=p0N hc hn
 unfold txL
 rw[e0L,e0L,e0L,e0L,e0L,e0L,e0L]
 generalize a0q (a0T (n0m p 1))=A1 at*
 generalize a0q (a0T (n0m p 2))=A2 at*
 generalize a0q (a0T (n0m p 3))=A3 at*
 generalize a0q (a0T (n0m p 4))=A4 at*
 have hneg:a0q (a0T (if p.D_=true then 59::(j0v p.i_++(o0J p++j0v p.h_))else []))=if p.D_=true then 59::(a0q (a0T (j0v p.i_))++(a0q (a0T (o0J p))++a0q (a0T (j0v p.h_))))else []:=by
  split
  ·rw[show(59:Int)::(j0v p.i_++(o0J p++j0v p.h_))=[59]++(j0v p.i_++(o0J p++j0v p.h_))from rfl,e0L,e0L,e0L];rfl
  ·rfl
 rw[hneg]
 generalize a0q (a0T (j0v p.a_))=C1 at*
 generalize a0q (a0T (j0v p.b_))=C2 at*
 generalize a0q (a0T (j0v p.i_))=C3 at*
 generalize a0q (a0T (j0v p.h_))=C4 at*
 generalize a0q (a0T (o0J p))=N at*
 rw[a0h (by omega),a0h (by simp;omega),a0h (by simp;omega),a0h (by simp;omega),a0h (by simp;omega),a0h (by simp;omega)]
 simp only[cond_true]
 cases p.D_ with
 |true=>
  rw[a0h (by simp;omega),a0h (by simp;omega),a0h (by simp;omega),a0h (by simp;omega)]
  simp[aL]
 |false=>simp[aL]
theorem u0R {p:a0y} (o0:e0u p.f_=true)(o1:d0r p.a_=true)(o2:d0r p.b_=true)(o3:d0r p.i_=true)(o4:d0r p.h_=true):(txL p).all e0u=true:=by
 have hp: ∀w,(n0m p w).all e0u=true:=fun w=>by
  unfold n0m;split
  ·simp[o0];decide
  ·rfl
 have hn:=A0Z (w0O p)
 unfold txL
 simp only[aN,hp,q0o o1,q0o o2,hn,bI]
 split
 ·rw[az,aN,aN,q0o o3,q0o o4,hn];decide
 ·rfl
/-! The text of a number, read: all of it. -/
/-! A number's text, parsed; what a right pattern is, to the letter. -/
def B0g(p:a0y):Prop:=p.n_+p.j_≤40∧p.k_≤40∧p.m_≤40∧p.d_≤40
theorem t0i {l:List a0b} (hw: ∀z∈l,-2147483648≤z.R_∧z.R_<2147483648)(hl:l.length≤1000):b0e l=some (d0r l):=by
 unfold b0e
 obtain⟨o,g1,g2⟩:=d0t (step:=(fun(s54:Int)=>((bif(decide (s54<(l.length:Int)))then(bif inR s54 l.length then(Option.bind (a0B ((nth l s54).R_)) fun y91=>(bif(!y91)then(some (.inr (.inr false)))else(some (.inl (IntKind.wrap .i64 (s54+1))))))else none)else(some (.inr (.inl ())))):Option (Int⊕(Unit⊕Bool))))) l.length (fun i=>(i:Int)) (fun i=> ∀j (hj:j<l.length),j<i→e0u (l[j].R_)=true) (fun o=>o=if d0r l=true then .inl ()else .inr false) (s0:=0) rfl (fun j _ hj=>by omega) (fun i hi hI=>by
  have hr:=hw _ (bk hi)
  rw[dT (show(i:Int)<(l.length:Int) by omega),g0Y hi,d0M hi,is1 (by omega) (by omega),w64 (n:=(i:Int)+1) (by omega) (by omega)]
  simp only[cond_true,aa]
  cases c:e0u (l[i].R_)with
  |true=>
   left
   refine⟨by simp,fun j hj hji=> ?_⟩
   by_cases e:j=i
   ·subst e;exact c
   ·exact hI j hj (by omega)
  |false=>
   right
   refine⟨_,rfl, ?_⟩
   rw[if_neg (fun h=>by
    have:=List.all_eq_true.1 h _ (bk hi)
    simp[c]at this)]) (fun hI=>⟨.inl (),by rw[dF (by omega)];rfl,by
  rw[if_pos]
  refine List.all_eq_true.2 (fun t ht=> ?_)
  obtain⟨j,hj,rfl⟩:=List.getElem_of_mem ht
  exact hI j hj hj⟩) (by omega)
 have h1:a0s (fun(s54:Int)=>((bif(decide (s54<(l.length:Int)))then(bif inR s54 l.length then(Option.bind (a0B ((nth l s54).R_)) fun y91=>(bif(!y91)then(some (.inr (.inr false)))else(some (.inl (IntKind.wrap .i64 (s54+1))))))else none)else(some (.inr (.inl ())))):Option (Int⊕(Unit⊕Bool)))) big 0=some o:=g1
 rw[h1,g2]
 cases d0r l<;>rfl
def o0W(p:a0y):Prop:=r0L p∧e0u p.f_=true∧(d0r p.a_=true∧d0r p.b_=true∧d0r p.i_=true∧d0r p.h_=true)∧ ∃t i,b0j p=some t∧a0m t=some (p,i,0)
def B0K(p:a0y):Prop:=(∀z∈p.a_,-2147483648≤z.R_∧z.R_<2147483648)∧(∀z∈p.b_,-2147483648≤z.R_∧z.R_<2147483648)∧(∀z∈p.i_,-2147483648≤z.R_∧z.R_<2147483648)∧(∀z∈p.h_,-2147483648≤z.R_∧z.R_<2147483648)∧ -2147483648≤p.f_∧p.f_<2147483648
theorem A0p {p:a0y} (w:B0K p)(h1:p.a_.length≤300)(h2:p.b_.length≤300)(h3:p.i_.length≤300)(h4:p.h_.length≤300):Tot (a0X p) (fun b=>b=true↔o0W p):=by
 obtain⟨w1,w2,w3,w4,w5,w6⟩:=w
 unfold a0X
 rw[t0i w1 (by omega),t0i w2 (by omega),t0i w3 (by omega),t0i w4 (by omega),is1 (by omega) (by omega)]
 have hno: ∀ {q:Prop},¬q→((false=true)↔q):=fun h=>⟨fun e=>(by cases e),fun e=>absurd e h⟩
 generalize hL:([p.n_,p.j_,p.p_,p.k_,p.e_,p.g_,p.l_,p.m_,p.d_]:List Int)=L
 have hlen:L.length=9:=by rw[←hL];rfl
 have hcI:r0L p↔ ∀j:Nat,j<9→0≤nth L j∧nth L j≤40:=by
  subst hL
  constructor
  ·rintro⟨c1,c2,c3,c4,c5,c6,c7,c8,c9⟩ j hj
   match j,hj with
   |0,_=>exact c1
   |1,_=>exact c2
   |2,_=>exact c3
   |3,_=>exact c4
   |4,_=>exact c5
   |5,_=>exact c6
   |6,_=>exact c7
   |7,_=>exact c8
   |8,_=>exact c9
  ·intro h
   exact⟨h 0 (by omega),h 1 (by omega),h 2 (by omega),h 3 (by omega),h 4 (by omega),h 5 (by omega),h 6 (by omega),h 7 (by omega),h 8 (by omega)⟩
 refine tJ (tL (fun s:Int=>0≤s∧s≤(L.length:Int)∧ ∀j:Nat,(j:Int)<s→0≤nth L j∧nth L j≤40) (fun s=>((L.length:Int)-s).toNat) ⟨by omega,by omega,fun j hj=>by omega⟩ (by omega) (fun s hs=> ?_))
 refine tI (fun hq=> ?_) (fun hq=>tR (show Tot _ _ from ?_))
 ·have hq:=dTT hq
  have hin:=a0J hs.1 hq
  refine tJ (tB (p:=fun b=>b=false↔0≤nth L s∧nth L s≤40) ?_ (fun b hb=> ?_))
  ·refine tY hin (tY hin (tI (fun g=>tR ?_) (fun g1=>tY hin (tY hin (tR ?_)))))
   ·have g:=dTT g
    exact⟨fun h=>(by cases h),fun h=>(by omega)⟩
   ·have g1:=dFF g1
    constructor
    ·intro g2;have g2:=dFF g2;omega
    ·intro h;exact dF (by omega)
  ·cases b with
   |true=>
    refine tR (hno (fun h=> ?_))
    have h2:=hcI.1 h.1 s.toNat (by omega)
    rw[show((s.toNat:Nat):Int)=s by omega]at h2
    have:=hb.2 h2
    cases this
   |false=>
    have hb:=hb.1 rfl
    refine tR (show Tot _ _ from tR ?_)
    have f1:IntKind.wrap .i64 (s+1)=s+1:=w64 (by omega) (by omega)
    rw[f1]
    refine⟨⟨by omega,by omega,fun j hj=> ?_⟩,by omega⟩
    by_cases hjs:(j:Int)<s
    ·exact hs.2.2 j hjs
    ·have:(j:Int)=s:=by omega
     rw[this];exact hb
 ·have hq:=dFF hq
  have hall:=hs.2.2
  have hs9:s=9:=by omega
  have hc:r0L p:=hcI.2 (fun j hj=>hall j (by omega))
  simp only[aa]
  have hA:(bif d0r p.a_ then(some (d0r p.b_))else(some false))=some (d0r p.a_&&d0r p.b_):=by cases d0r p.a_<;>rfl
  have hB:(bif d0r p.i_ then(some (d0r p.h_))else(some false))=some (d0r p.i_&&d0r p.h_):=by cases d0r p.i_<;>rfl
  rw[hA,hB]
  simp only[aa]
  by_cases hv:e0u p.f_=true∧(d0r p.a_=true∧d0r p.b_=true∧d0r p.i_=true∧d0r p.h_=true)
  ·obtain⟨v0,v1,v2,v3,v4⟩:=hv
   rw[v0,v1,v2,v3,v4]
   simp only[Bool.and_self,aA,cond_false,aa,a0g]
   obtain⟨t,ht,htl⟩:=n0U hc h1 h2 h3 h4
   rw[ht]
   obtain⟨o,ho,hoc⟩:=j0M (t:=t) (by omega)
   show Tot (Option.bind (a0m t) _) _
   rw[ho]
   show Tot (Option.bind _ _) _
   obtain⟨o1,o2,o3⟩:=o
   refine tB (p:=fun b=>b=true↔o0W p) (tI (fun g=> ?_) (fun g=>tR (hno (fun h=> ?_)))) (fun _ h=>tR h)
   ·rw[n0i ⟨by omega,by omega,by omega,by omega⟩]
    have g2:=dTT g
    simp only at g2
    subst g2
    refine tR ⟨fun e=> ?_,fun h=> ?_⟩
    ·have e:=dTT e
     simp only at e
     subst e
     exact⟨hc,v0,⟨v1,v2,v3,v4⟩,t,o2,ht,ho⟩
    ·obtain⟨_,_,_,t',i',e1,e2⟩:=h
     rw[ht]at e1
     cases e1
     rw[ho]at e2
     cases e2
     exact dT rfl
   ·obtain⟨_,_,_,t',i',e1,e2⟩:=h
    rw[ht]at e1
    cases e1
    rw[ho]at e2
    cases e2
    exact absurd rfl (dFF g)
  ·have hf:(bif(!e0u p.f_)then(some true)else(bif(!(d0r p.a_&&d0r p.b_))then(some true)else(some (!(d0r p.i_&&d0r p.h_)))))=some true:=by
    cases c0:e0u p.f_ with
    |false=>rfl
    |true=>
     cases c1:d0r p.a_ with
     |false=>rfl
     |true=>
      cases c2:d0r p.b_ with
      |false=>rfl
      |true=>
       cases c3:d0r p.i_ with
       |false=>rfl
       |true=>
        cases c4:d0r p.h_ with
        |false=>rfl
        |true=>exact absurd ⟨c0,c1,c2,c3,c4⟩ hv
   rw[hf]
   exact tR (hno (fun h=>hv ⟨h.2.1,h.2.2.1⟩))
theorem i0Q {α β:Type} {x:Option α} {k:α→Option β} {r:β} (h:Option.bind x k=some r): ∃a,x=some a∧k a=some r:=by
 cases x with
 |none=>cases h
 |some a=>exact⟨a,rfl,h⟩
theorem v0x {t:List UInt8} {d:List Int} {z:Int} {p:a0y} {i:Int} (hd:a0L (a0N t)=some (d,z,0))(hc:r0L p)(h:a0m t=some (p,i,0)):d.length≤120∧B0g p:=by
 unfold a0m at h
 rw[hd]at h
 simp only[aa,not_true_eq_false,decide_false,cond_false]at h
 by_cases h120:(d.length:Int)>120
 ·rw[dT h120]at h
  simp at h
 ·rw[dF h120]at h
  simp only[cond_false]at h
  obtain⟨y,hy,h⟩:=i0Q h
  obtain⟨s,hs,h⟩:=i0Q h
  obtain⟨u,hu,h⟩:=i0Q h
  refine⟨by omega, ?_⟩
  cases u with
  |inr r=>
   have h:some r=some (p,i,0):=h
   obtain⟨b,hb,hu⟩:=i0Q hu
   cases b with
   |true=>
    simp only[cond_true,ai,Sum.inr.injEq]at hu
    subst hu
    simp at h
   |false=>simp at hu
  |inl x=>
   simp only[a0g]at h
   obtain⟨v,hv,h⟩:=i0Q h
   cases v with
   |inr r=>
    have h:some r=some (p,i,0):=h
    obtain⟨b,hb,hv⟩:=i0Q hv
    cases b with
    |true=>
     simp only[cond_true,ai,Sum.inr.injEq]at hv
     subst hv
     simp at h
    |false=>simp at hv
   |inl x2=>
    simp only[a0g,ai,aP,and_true]at h
    obtain⟨h,_⟩:=h
    obtain⟨b,hb,hv⟩:=i0Q hv
    cases b with
    |true=>simp at hv
    |false=>
     obtain⟨⟨a1,a2⟩,⟨b1,b2⟩,_⟩:=hc
     have hk:s.2.2.2.2.2.2.2.1=p.n_∧s.2.2.2.2.2.2.2.2.1=p.j_∧s.2.2.2.2.2.2.2.2.2.2.1=p.k_∧s.2.2.2.2.2.2.2.2.2.2.2.2.2.2.1=p.m_∧s.2.2.2.2.2.2.2.2.2.2.2.2.2.2.2.1=p.d_:=by
      rw[←h];exact⟨rfl,rfl,rfl,rfl,rfl⟩
     obtain⟨k1,k2,k3,k4,k5⟩:=hk
     rw[k1,k2,k3,k4,k5,w64 (n:=p.n_+p.j_) (by omega) (by omega)]at hb
     by_cases c1:p.n_+p.j_>40
     ·rw[dT c1]at hb;cases hb
     ·rw[dF c1]at hb
      by_cases c2:p.k_>40
      ·rw[dT c2]at hb;cases hb
      ·rw[dF c2]at hb
       by_cases c3:p.m_>40
       ·rw[dT c3]at hb;cases hb
       ·rw[dF c3]at hb
        by_cases c4:p.d_>40
        ·rw[dT c4]at hb;cases hb
        ·exact⟨by omega,by omega,by omega,by omega⟩
theorem r0X {p:a0y} (h1:p.a_.length≤300)(h2:p.b_.length≤300)(h3:p.i_.length≤300)(h4:p.h_.length≤300)(h:o0W p):i0P (g0a p)∧b0j p=some (a0q (a0T (txL p)))∧(txL p).length≤120∧B0g p∧ ∃i,a0m (a0q (a0T (txL p)))=some (p,i,0):=by
 obtain⟨hc,v0,⟨v1,v2,v3,v4⟩,t,i,e1,e2⟩:=h
 obtain⟨t',ht,htl⟩:=n0U hc h1 h2 h3 h4
 rw[ht]at e1;cases e1
 obtain⟨o,ho,hoc⟩:=j0M (t:=t) (by omega)
 rw[ho]at e2;cases e2
 have hn:=hoc rfl
 have hT:=t0b hc hn h1 h2 h3 h4 v0 v1 v2 v3 v4
 rw[ht]at hT;cases hT
 have hok:=u0R (p:=p) v0 v1 v2 v3 v4
 have hl:(txL p).length≤20000:=by
  have a1:=d0n p 1;have a2:=d0n p 2;have a3:=d0n p 3;have a4:=d0n p 4
  have d1:=d0q p.a_;have d2:=d0q p.b_;have d3:=d0q p.i_;have d4:=d0q p.h_
  have e2:=p0N hc hn
  unfold txL
  simp only[ag]
  have:(if p.D_=true then 59::(j0v p.i_++(o0J p++j0v p.h_))else []).length≤5000:=by
   split
   ·simp only[aJ,ag];omega
   ·simp
  omega
 have hd:=j0F hok hl
 rw[←n0r hok]at hd
 have hlm:=v0x hd hc ho
 exact⟨hn,ht,hlm.1,hlm.2,i,ho⟩
theorem tN {α:Type} {b:Bool} {t e:Option α} {p:α→Prop} (h:b=false)(he:Tot e p):Tot (bif b then t else e) p:=by subst h;exact he
theorem tW {S O:Type} {step:S→Option (S⊕O)} (ix:S→Int)(n:Nat)(I:S→Prop) {post:O→Prop} {s0:S} (hn:n≤4294967296)(h0:I s0∧0≤ix s0∧ix s0≤n)
  (hs: ∀s,I s→0≤ix s→ix s<n→Tot (step s) (fun x=>match x with| .inl s'=>I s'∧ix s'=ix s+1| .inr o=>post o)) (he: ∀s,I s→ix s=n→Tot (step s) (fun x=>match x with| .inl _=>False| .inr o=>post o)):Tot (a0s step big s0) post:=by
 refine tL (fun s=>I s∧0≤ix s∧ix s≤n) (fun s=>((n:Int)-ix s).toNat) h0 (by omega) (fun s hi=> ?_)
 by_cases h:ix s=n
 ·refine Tot.mono (he s hi.1 h) (fun o ho=> ?_)
  cases o with
  |inl _=>exact absurd ho id
  |inr _=>exact ho
 ·refine Tot.mono (hs s hi.1 hi.2.1 (by omega)) (fun o ho=> ?_)
  cases o with
  |inl s'=>exact⟨⟨ho.1,by rw[ho.2];omega,by rw[ho.2];omega⟩,by rw[ho.2];omega⟩
  |inr _=>exact ho
theorem i0D {T:Type} [Inhabited T] {l:List T} {i:Int} (h0:0≤i)(h1:i<l.length):nth l i∈l:=by
 obtain⟨k,rfl⟩:=bB h0
 rw[d0M (by omega)];exact bk _
/-! Two readers side by side: affixes. -/
theorem n0p {S1 S2 O1 O2:Type} {step1:S1→Option (S1⊕O1)} {step2:S2→Option (S2⊕O2)} (I:S1→S2→Prop)(μ:S1→Nat)(R:O1→O2→Prop) {a:S1} {b:S2} (h0:I a b)(hb:μ a<1000000)
  (hs: ∀s t,I s t→(∃s' t',step1 s=some (.inl s')∧step2 t=some (.inl t')∧I s' t'∧μ s'<μ s)∨(∃o1 o2,step1 s=some (.inr o1)∧(step2 t=some (.inr o2)∨ ∃t',step2 t=some (.inl t')∧step2 t'=some (.inr o2))∧R o1 o2)):
  ∃o1 o2,a0s step1 big a=some o1∧a0s step2 big b=some o2∧R o1 o2:=by
 have key: ∀m s t,I s t→μ s<m→ ∃o1 o2,a0s step1 (m+1) s=some o1∧a0s step2 (m+1) t=some o2∧R o1 o2:=by
  intro m
  induction m with
  |zero=>intro s t _ h;omega
  |succ m ih=>
   intro s t hi hm
   rcases hs s t hi with⟨s',t',h1,h2,h3,h4⟩|⟨o1,o2,h1,h2,h3⟩
   ·rw[b0v h1,b0v h2];exact ih s' t' h3 (by omega)
   ·refine⟨o1,o2,b0F h1, ?_,h3⟩
    rcases h2 with h2|⟨t',h2,h4⟩
    ·exact b0F h2
    ·rw[b0v h2];exact b0F h4
 obtain⟨o1,o2,h1,h2,h3⟩:=key 1000000 a b h0 hb
 exact⟨o1,o2,m0x _ _ h1 _ (by unfold big;omega),m0x _ _ h2 _ (by unfold big;omega),h3⟩
section
variable {l : List Int}
theorem g0u {i:Int} (h:0≤i):a0l l i=some (atV l i):=j0a h
theorem p0n {i:Int} (h:i<l.length):nth l i=atV l i:=by unfold atV;rw[if_pos h]
theorem p0s {i a2 a3 a4 a5 a6:Int} (hl:l.length≤10000)(h0:0≤i)(h1:i≤19000):b0l l i a2 a3 a4 a5 a6=some (if atV l i=39∧atV l (i+1)=39 then(true,i+2)else(false,i)):=by
 unfold b0l
 rw[s0s hl (by omega) (by omega) (by omega),s0s hl (by omega) (by omega) (by omega),bn,w64 (n:=i+2) (by omega) (by omega)]
 by_cases a:atV l i=39
 ·rw[dT a]
  by_cases b:atV l (i+1)=39
  ·rw[dT b,if_pos ⟨a,b⟩];rfl
  ·rw[dF b,if_neg (fun h=>b h.2)];rfl
 ·rw[dF a,if_neg (fun h=>a h.1)];rfl
def m0Y(l:List Int)(ts:List a0b):Prop:= ∀t∈ts,(t.x_=0∧(t.R_∈l∨t.R_=39))∨(t.R_=0∧1≤t.x_∧t.x_≤4)
theorem k0t {ts:List a0b} {t:a0b} (h:m0Y l ts)(ht:(t.x_=0∧(t.R_∈l∨t.R_=39))∨(t.R_=0∧1≤t.x_∧t.x_≤4)):m0Y l (ts++ [t]):=by
 intro x hx
 rcases au.1 hx with h1|h1
 ·exact h x h1
 ·simp at h1;subst h1;exact ht
theorem r0Z {k a2:Int} {ts:List a0b} (hl:l.length≤10000)(h0:0≤k)(hk:k<l.length)(hq:atV l k=39)(hn: ¬atV l (k+1)=39)(hts:(ts.length:Int)≤k)(hin:m0Y l ts):
  ∃s us,(a0s (fun(s3007:Int×(List a0b))=>(Option.bind (Option.bind (bif(decide (s3007.1<(l.length:Int)))then(bif inR s3007.1 l.length then(bif(decide (¬(nth l s3007.1)=39))then(some true)else(Option.bind (a0l l (IntKind.wrap .i64 (s3007.1+1))) fun y3232=>(some (decide (y3232=39)))))else none)else(some false)) fun(s3220:Bool)=>(bif s3220 then(some (.inl ()))else(some (.inr (.inr (s3007.1,s3007.2)))))) (a0g fun(s3205:Unit)=>(bif inR s3007.1 l.length then(bif room (s3007.2.length+(([(⟨0,(nth l s3007.1)⟩:a0b)]:List a0b)).length)then(Option.bind (bif inR s3007.1 l.length then(bif(decide ((nth l s3007.1)=39))then(some (IntKind.wrap .i64 (s3007.1+1)))else(some s3007.1))else none) fun(s3247:Int)=>(some (.inl ((IntKind.wrap .i64 (s3247+1)),(s3007.2++(([(⟨0,(nth l s3007.1)⟩:a0b)]:List a0b)))))))else none)else none)))) big (k+1,ts):Option (Int×List a0b))=some (s,us)∧(k+1≤s)∧m0Y l us∧(us.length:Int)≤s∧((s≥l.length∧ ∃e,a0E l k a2 1 2 3 4 ts=some (.inr e))∨(s<l.length∧us≠ []∧a0E l k a2 1 2 3 4 ts=some (.inl (s+1,us)))):=by
 have hQ:a0E l k a2 1 2 3 4 ts=(Option.bind (a0s (fun(s85:Int×(List a0b))=>((bif(decide (s85.1<(l.length:Int)))then(Option.bind (b0l l s85.1 a2 1 2 3 4) fun y137=>(bif y137.1 then(bif room (s85.2.length+([(⟨0,39⟩:a0b)]:List a0b).length)then(some (.inl (y137.2,(s85.2++([(⟨0,39⟩:a0b)]:List a0b)))))else none)else(Option.bind (a0e 39 l y137.2 a2 1 2 3 4) fun y144=>(bif y144.1 then(some (.inr (.inr (.inl (y144.2,s85.2)))))else(bif inR y144.2 l.length then(bif room (s85.2.length+(([(⟨0,(nth l y144.2)⟩:a0b)]:List a0b)).length)then(some (.inl ((IntKind.wrap .i64 (y144.2+1)),(s85.2++(([(⟨0,(nth l y144.2)⟩:a0b)]:List a0b))))))else none)else none)))))else(some (.inr (.inl s85.1)))):Option ((Int×(List a0b))⊕(Int⊕((Int×(List a0b))⊕Int))))) big (k+1,ts)) (a0g fun(s80:Int)=>(Option.bind (a0r k l s80 a2 1 2 3 4) fun y157=>(some (.inr s80))))):=by
  unfold a0E
  rw[p0s hl (by omega) (by omega),if_neg (fun h=>hn h.2)]
  simp only[aa,cond_false]
  rw[w64 (n:=k+1) (by omega) (by omega)]
 rw[hQ]
 generalize hst1:(fun(s85:Int×(List a0b))=>((bif(decide (s85.1<(l.length:Int)))then(Option.bind (b0l l s85.1 a2 1 2 3 4) fun y137=>(bif y137.1 then(bif room (s85.2.length+([(⟨0,39⟩:a0b)]:List a0b).length)then(some (.inl (y137.2,(s85.2++([(⟨0,39⟩:a0b)]:List a0b)))))else none)else(Option.bind (a0e 39 l y137.2 a2 1 2 3 4) fun y144=>(bif y144.1 then(some (.inr (.inr (.inl (y144.2,s85.2)))))else(bif inR y144.2 l.length then(bif room (s85.2.length+(([(⟨0,(nth l y144.2)⟩:a0b)]:List a0b)).length)then(some (.inl ((IntKind.wrap .i64 (y144.2+1)),(s85.2++(([(⟨0,(nth l y144.2)⟩:a0b)]:List a0b))))))else none)else none)))))else(some (.inr (.inl s85.1)))):Option ((Int×(List a0b))⊕(Int⊕((Int×(List a0b))⊕Int)))))=step1
 generalize hst2:(fun(s3007:Int×(List a0b))=>((Option.bind (Option.bind (bif(decide (s3007.1<(l.length:Int)))then(bif inR s3007.1 l.length then(bif(decide (¬(nth l s3007.1)=39))then(some true)else(Option.bind (a0l l (IntKind.wrap .i64 (s3007.1+1))) fun y3232=>(some (decide (y3232=39)))))else none)else(some false)) fun(s3220:Bool)=>(bif s3220 then(some (.inl ()))else(some (.inr (.inr (s3007.1,s3007.2)))))) (a0g fun(s3205:Unit)=>(bif inR s3007.1 l.length then(bif room (s3007.2.length+(([(⟨0,(nth l s3007.1)⟩:a0b)]:List a0b)).length)then(Option.bind (bif inR s3007.1 l.length then(bif(decide ((nth l s3007.1)=39))then(some (IntKind.wrap .i64 (s3007.1+1)))else(some s3007.1))else none) fun(s3247:Int)=>(some (.inl ((IntKind.wrap .i64 (s3247+1)),(s3007.2++(([(⟨0,(nth l s3007.1)⟩:a0b)]:List a0b)))))))else none)else none))):Option ((Int×(List a0b))⊕(Int×(List a0b)))))=step2
 have hrun:=n0p (step1:=step1) (step2:=step2) (a:=(k+1,ts)) (b:=(k+1,ts)) (fun s t=>t=s∧(k+1≤s.1)∧(s.1≤l.length)∧((s.2.length:Int)≤s.1)∧m0Y l s.2∧(s.1=k+1∨s.2≠ [])) (fun s=>((l.length:Int)-s.1).toNat)
  (fun o1 o2=>(k+1≤o2.1)∧m0Y l o2.2∧((o2.2.length:Int)≤o2.1)∧((o2.1≥l.length∧ ∃e,o1= .inl e)∨(o2.1<l.length∧o2.2≠ []∧o1= .inr (.inl (o2.1+1,o2.2)))))
  ⟨rfl,by simp only;omega,by simp only;omega,by simp only;omega,hin, .inl rfl⟩ (by simp only;omega) (fun s t hs=> ?_)
 ·obtain⟨o1,o2,e1,e2,g1,g2,g3,hR⟩:=hrun
  rw[e1,e2]
  refine⟨o2.1,o2.2,rfl,g1,g2,g3, ?_⟩
  rcases hR with⟨h1,e,rfl⟩|⟨h1,h2,rfl⟩
  ·exact .inl ⟨h1,e,rfl⟩
  ·exact .inr ⟨h1,h2,rfl⟩
 ·obtain⟨rfl,p1,p2,p3,p4,p5⟩:=hs
  obtain⟨j,us⟩:=t
  simp only at p1 p2 p3 p4 p5
  subst hst1;subst hst2
  simp only
  by_cases hj:j<l.length
  ·have hinR:=a0J (by omega) hj
   have hmem:=i0D (by omega) hj
   have hv:nth l j=atV l j:=p0n hj
   have rm: ∀x:a0b,room (us.length+ [x].length)=true:=fun x=>a0h (by simp;omega)
   rw[dT hj,hinR,p0s hl (by omega) (by omega),g0u (by rw[w64 (by omega) (by omega)];omega),w64 (n:=j+1) (by omega) (by omega),rm,rm,hv]
   simp only[cond_true,aa]
   by_cases c1:atV l j=39
   ·rw[dT c1,dF (show¬ ¬atV l j=39 by omega)]
    simp only[cond_true,cond_false,aa]
    by_cases c2:atV l (j+1)=39
    ·left
     have hj2:=h0d c2 (by omega)
     rw[dT c2,if_pos ⟨c1,c2⟩]
     simp only[cond_true,aa,a0g]
     rw[w64 (n:=j+1+1) (by omega) (by omega),c1,show j+1+1=j+2 by omega]
     exact⟨_,_,rfl,rfl,⟨rfl,by simp only;omega,by simp only;omega,by simp;omega,k0t p4 (.inl ⟨rfl, .inr rfl⟩), .inr (by simp)⟩,by simp only;omega⟩
    ·right
     rw[dF c2,if_neg (fun h=>c2 h.2)]
     simp only[cond_false,aa,a0g]
     rw[k0l hl (by omega) (by omega) (by omega),if_pos c1]
     refine⟨_,_,rfl, .inl rfl,p1,p4,p3, .inr ⟨hj, ?_,rfl⟩⟩
     rcases p5 with h|h
     ·rw[h]at c1;exact absurd c1 hn
     ·exact h
   ·left
    rw[dF c1,dT c1,if_neg (fun h=>c1 h.1)]
    simp only[cond_true,cond_false,aa,a0g]
    rw[k0l hl (by omega) (by omega) (by omega),if_neg c1]
    simp only[cond_true,cond_false,aa]
    rw[hinR,rm,hv,w64 (n:=j+1) (by omega) (by omega)]
    rw[hv]at hmem
    exact⟨_,_,rfl,rfl,⟨rfl,by simp only;omega,by simp only;omega,by simp;omega,k0t p4 (.inl ⟨rfl, .inl hmem⟩), .inr (by simp)⟩,by simp only;omega⟩
  ·right
   rw[dF hj]
   exact⟨_,_,rfl, .inl rfl,p1,p4,p3, .inl ⟨by simp only;omega,_,rfl⟩⟩
def A0d(l:List Int)(ts:List a0b):Prop:=m0Y l ts∧(ts.length:Int)≤l.length
theorem k0D {i a2:Int} (hl:l.length≤10000)(h0:0≤i)(hi:i≤l.length):
  (∃ts j,a0M l i a2 1 2 3 4=some (.inl (ts,j))∧a0H l i=some (ts,j,true)∧(i≤j∧j≤l.length)∧A0d l ts∧(ts=[]→j=i))∨
  (∃e ts j,a0M l i a2 1 2 3 4=some (.inr e)∧a0H l i=some (ts,j,false)):=by
 unfold a0M a0H
 generalize hst1:(fun(s354:Int×(List a0b))=>((bif(decide (s354.1<(l.length:Int)))then(bif inR s354.1 l.length then(bif(decide ((nth l s354.1)=45))then(Option.bind (bif room (s354.2.length+([(⟨1,0⟩:a0b)]:List a0b).length)then(some ())else none) fun(s596:Unit)=>(some (.inl ((IntKind.wrap .i64 (s354.1+1)),(s354.2++([(⟨1,0⟩:a0b)]:List a0b))))))else(bif(decide ((nth l s354.1)=43))then(Option.bind (bif room (s354.2.length+([(⟨2,0⟩:a0b)]:List a0b).length)then(some ())else none) fun(s607:Unit)=>(some (.inl ((IntKind.wrap .i64 (s354.1+1)),(s354.2++([(⟨2,0⟩:a0b)]:List a0b))))))else(bif(decide ((nth l s354.1)=37))then(Option.bind (bif room (s354.2.length+([(⟨3,0⟩:a0b)]:List a0b).length)then(some ())else none) fun(s618:Unit)=>(some (.inl ((IntKind.wrap .i64 (s354.1+1)),(s354.2++([(⟨3,0⟩:a0b)]:List a0b))))))else(bif(decide ((nth l s354.1)=164))then(Option.bind (bif room (s354.2.length+([(⟨4,0⟩:a0b)]:List a0b).length)then(some ())else none) fun(s629:Unit)=>(some (.inl ((IntKind.wrap .i64 (s354.1+1)),(s354.2++([(⟨4,0⟩:a0b)]:List a0b))))))else(Option.bind (Option.bind (a0F 39 0 l s354.1 a2 1 2 3 4) fun y670=>(bif y670 then(Option.bind (a0E l s354.1 a2 1 2 3 4 s354.2) fun y676=>(Sum.elim (fun y679=>(some (.inr (.inl (y679.1,y679.2))))) (fun y680=>(some (.inr (.inr (.inr (.inr (y680,s354.1))))))) y676))else(Option.bind (d0i (nth l s354.1)) fun y689=>(bif y689 then(some (.inr (.inr (.inr (.inl (s354.2,s354.1))))))else(bif room (s354.2.length+(([(⟨0,(nth l s354.1)⟩:a0b)]:List a0b)).length)then(some (.inl ()))else none))))) (a0g fun(s665:Unit)=>(some (.inl ((IntKind.wrap .i64 (s354.1+1)),(s354.2++(([(⟨0,(nth l s354.1)⟩:a0b)]:List a0b))))))))))))else none)else(some (.inr (.inl (s354.1,s354.2))))):Option ((Int×(List a0b))⊕((Int×(List a0b))⊕((List a0b)×Int⊕(Int×Int))))))=step1
 generalize hst2:(fun(s1635:Int×(List a0b))=>((bif(decide (s1635.1<(l.length:Int)))then(bif inR s1635.1 l.length then(Option.bind (c0l (nth l s1635.1)) fun y2726=>(Option.bind (a0Q (nth l s1635.1)) fun y2729=>(bif(decide (y2726>0))then(bif room (s1635.2.length+([(⟨y2726,0⟩:a0b)]:List a0b).length)then(some (.inl ((IntKind.wrap .i64 (s1635.1+1)),(s1635.2++([(⟨y2726,0⟩:a0b)]:List a0b)))))else none)else(bif(decide (¬(nth l s1635.1)=39))then(bif y2729 then(some (.inr (.inr (s1635.2,s1635.1,true))))else(bif room (s1635.2.length+(([(⟨0,(nth l s1635.1)⟩:a0b)]:List a0b)).length)then(some (.inl ((IntKind.wrap .i64 (s1635.1+1)),(s1635.2++(([(⟨0,(nth l s1635.1)⟩:a0b)]:List a0b))))))else none))else(Option.bind (a0l l (IntKind.wrap .i64 (s1635.1+1))) fun y2746=>(bif(decide (y2746=39))then(bif room (s1635.2.length+([(⟨0,39⟩:a0b)]:List a0b).length)then(some (.inl ((IntKind.wrap .i64 (s1635.1+2)),(s1635.2++([(⟨0,39⟩:a0b)]:List a0b)))))else none)else(Option.bind (a0s (fun(s3007:Int×(List a0b))=>(Option.bind (Option.bind (bif(decide (s3007.1<(l.length:Int)))then(bif inR s3007.1 l.length then(bif(decide (¬(nth l s3007.1)=39))then(some true)else(Option.bind (a0l l (IntKind.wrap .i64 (s3007.1+1))) fun y3232=>(some (decide (y3232=39)))))else none)else(some false)) fun(s3220:Bool)=>(bif s3220 then(some (.inl ()))else(some (.inr (.inr (s3007.1,s3007.2)))))) (a0g fun(s3205:Unit)=>(bif inR s3007.1 l.length then(bif room (s3007.2.length+(([(⟨0,(nth l s3007.1)⟩:a0b)]:List a0b)).length)then(Option.bind (bif inR s3007.1 l.length then(bif(decide ((nth l s3007.1)=39))then(some (IntKind.wrap .i64 (s3007.1+1)))else(some s3007.1))else none) fun(s3247:Int)=>(some (.inl ((IntKind.wrap .i64 (s3247+1)),(s3007.2++(([(⟨0,(nth l s3007.1)⟩:a0b)]:List a0b)))))))else none)else none)))) big ((IntKind.wrap .i64 (s1635.1+1)),s1635.2)) fun(s3002:Int×(List a0b))=>(bif(decide (s3002.1≥(l.length:Int)))then(some (.inr (.inr (([]:List a0b),s1635.1,false))))else(some (.inl ((IntKind.wrap .i64 (s3002.1+1)),s3002.2)))))))))))else none)else(some (.inr (.inl (s1635.1,s1635.2))))):Option ((Int×(List a0b))⊕((Int×(List a0b))⊕((List a0b)×Int×Bool)))))=step2
 have hrun:=n0p (step1:=step1) (step2:=step2) (a:=(i,[])) (b:=(i,[])) (fun s t=>t=s∧(i≤s.1∧s.1≤l.length)∧((s.2.length:Int)≤s.1)∧m0Y l s.2∧(s.2=[]→s.1=i)) (fun s=>((l.length:Int)-s.1).toNat)
  (fun o1 o2=>(∃ts j,(o1= .inl (j,ts)∧o2= .inl (j,ts)∨o1= .inr (.inl (ts,j))∧o2= .inr (ts,j,true))∧(i≤j∧j≤l.length)∧A0d l ts∧(ts=[]→j=i))∨ ∃e ts j,o1= .inr (.inr e)∧o2= .inr (ts,j,false))
  ⟨rfl,⟨by simp only;omega,hi⟩,by simpa using h0,fun t ht=>by simp at ht,fun _=>rfl⟩ (by simp only;omega) (fun s t hs=> ?_)
 ·obtain⟨o1,o2,e1,e2,hR⟩:=hrun
  rw[e1,e2]
  rcases hR with⟨ts,j,h1|h1,h2,h3,h4⟩|⟨e,ts,j,h1,h2⟩
  ·obtain⟨rfl,rfl⟩:=h1
   exact .inl ⟨ts,j,rfl,rfl,h2,h3,h4⟩
  ·obtain⟨rfl,rfl⟩:=h1
   exact .inl ⟨ts,j,rfl,rfl,h2,h3,h4⟩
  ·subst h1;subst h2
   exact .inr ⟨e,ts,j,rfl,rfl⟩
 ·obtain⟨rfl,⟨p1,p2⟩,p3,p4,p5⟩:=hs
  obtain⟨k,ts⟩:=t
  simp only at p1 p2 p3 p4 p5
  subst hst1;subst hst2
  simp only
  by_cases hk:k<l.length
  ·have hin:=a0J (by omega) hk
   have hmem:=i0D (by omega) hk
   rw[dT hk,hin,w64 (n:=k+1) (by omega) (by omega),w64 (n:=k+2) (by omega) (by omega),s0s hl (by omega) (by omega) (by omega),bn,←p0n hk,B0E,o0T,g0u (by omega)]
   have rm: ∀x:a0b,room (ts.length+ [x].length)=true:=fun x=>a0h (by simp;omega)
   have rm0: ∀x:a0b,room (ts.length+1)=true:=fun x=>a0h (by omega)
   simp only[cond_true,aa]
   rw[rm,rm,rm,rm,rm,rm]
   have hsp:decide (nth l k=35∨nth l k=64∨nth l k=44∨nth l k=46∨nth l k=59∨nth l k=42∨nth l k=37∨nth l k=45∨nth l k=43∨nth l k=39∨nth l k=69∨nth l k=164∨(48≤nth l k∧nth l k≤57))=spc (nth l k):=rfl
   rw[hsp]
   have hv:nth l k=atV l k:=p0n hk
   generalize hc:nth l k=c at*
   unfold c0l
   have nx: ∀(r:a0b),((r.x_=0∧(r.R_∈l∨r.R_=39))∨(r.R_=0∧1≤r.x_∧r.x_≤4))→(i≤k+1∧k+1≤(l.length:Int))∧(((ts++ [r]).length:Int)≤k+1)∧m0Y l (ts++ [r])∧(ts++ [r]=[]→k+1=i):=fun r hr=>⟨by omega,by simp;omega,k0t p4 hr,fun h=>by simp at h⟩
   by_cases c1:c=45
   ·left
    rw[dT c1]
    simp only[cond_true,cond_false,aa]
    rw[dT (show(1:Int)>0 by omega),rm]
    exact⟨(k+1,ts++ [⟨1,0⟩]),_,rfl,rfl,⟨rfl,nx ⟨1,0⟩ (.inr ⟨rfl,by decide,by decide⟩)⟩,by simp only;omega⟩
   ·rw[dF c1]
    by_cases c2:c=43
    ·left
     rw[dT c2]
     simp only[cond_true,cond_false,aa]
     rw[dT (show(2:Int)>0 by omega),rm]
     exact⟨(k+1,ts++ [⟨2,0⟩]),_,rfl,rfl,⟨rfl,nx ⟨2,0⟩ (.inr ⟨rfl,by decide,by decide⟩)⟩,by simp only;omega⟩
    ·rw[dF c2]
     by_cases c3:c=37
     ·left
      rw[dT c3]
      simp only[cond_true,cond_false,aa]
      rw[dT (show(3:Int)>0 by omega),rm]
      exact⟨(k+1,ts++ [⟨3,0⟩]),_,rfl,rfl,⟨rfl,nx ⟨3,0⟩ (.inr ⟨rfl,by decide,by decide⟩)⟩,by simp only;omega⟩
     ·rw[dF c3]
      by_cases c4:c=164
      ·left
       rw[dT c4]
       simp only[cond_true,cond_false,aa]
       rw[dT (show(4:Int)>0 by omega),rm]
       exact⟨(k+1,ts++ [⟨4,0⟩]),_,rfl,rfl,⟨rfl,nx ⟨4,0⟩ (.inr ⟨rfl,by decide,by decide⟩)⟩,by simp only;omega⟩
      ·rw[dF c4]
       simp only[cond_true,cond_false,aa]
       rw[dF (show¬(0:Int)>0 by omega)]
       by_cases c5:c=39
       ·rw[dT c5,dF (show¬ ¬c=39 by omega)]
        simp only[cond_true,cond_false,aa]
        by_cases c6:atV l (k+1)=39
        ·left
         have hk2:=h0d c6 (by omega)
         rw[dT c6]
         unfold a0E
         rw[p0s hl (by omega) (by omega),if_pos ⟨by omega,c6⟩]
         simp only[cond_true,aa]
         rw[rm]
         exact⟨(k+2,ts++ [⟨0,39⟩]),_,rfl,rfl,⟨rfl,⟨by simp only;omega,by simp only;omega⟩,by simp;omega,k0t p4 (.inl ⟨rfl, .inr rfl⟩),fun h=>by simp at h⟩,by simp only;omega⟩
        ·obtain⟨s,us,q1,q2,q3,q4,q5⟩:=r0Z (a2:=a2) hl (by omega) hk (by omega) c6 p3 p4
         rw[dF c6]
         simp only[cond_false]
         rw[q1]
         simp only[aa]
         rcases q5 with⟨g1,e,g2⟩|⟨g1,g2,g3⟩
         ·right
          rw[dT g1,g2]
          exact⟨_,_,rfl, .inl rfl, .inr ⟨_,_,_,rfl,rfl⟩⟩
         ·left
          rw[dF (show¬s≥(l.length:Int) by omega),g3,w64 (n:=s+1) (by omega) (by omega)]
          exact⟨(s+1,us),_,rfl,rfl,⟨rfl,⟨by simp only;omega,by simp only;omega⟩,by simp only;omega,q3,fun h=>absurd h g2⟩,by simp only;omega⟩
       ·rw[dF c5,dT c5]
        simp only[cond_true,cond_false,aa]
        cases hsc:spc c with
        |true=>
         right
         exact⟨_,_,rfl, .inl rfl, .inl ⟨ts,k, .inr ⟨rfl,rfl⟩,by omega,⟨p4,by omega⟩,p5⟩⟩
        |false=>
         left
         exact⟨(k+1,ts++ [⟨0,c⟩]),_,rfl,rfl,⟨rfl,nx ⟨0,c⟩ (.inl ⟨rfl, .inl hmem⟩)⟩,by simp only;omega⟩
  ·rw[dF hk]
   right
   exact⟨_,_,rfl, .inl rfl, .inl ⟨ts,k, .inl ⟨rfl,rfl⟩,by omega,⟨p4,by omega⟩,p5⟩⟩
end
/-! Two readers side by side: places. -/
section
variable {l : List Int} {a2 a3 a4 a5 a6 : Int} {b7 : List a0b} {b8 : Bool} {c11 c12 c15 c16 c17 c19 c20 : Int} {c18 : Bool}
def B0d(p:a0y)(h m g1 g2:Int):a0y:=⟨p.a_,p.b_,p.i_,p.h_,p.D_,h,m,p.p_,p.k_,g1,g2,p.l_,p.m_,p.d_,p.G_,p.f_,p.y_⟩
theorem s0b {i:Int} {p:a0y} (hl:l.length≤400)(h0:0≤i)(hi:i≤l.length)(z1:p.n_=0)(z2:p.j_=0)(z3:p.e_=0)(z4:p.g_=0):
  (∃pos h m g1 g2,b0f l i a2 a3 a4 a5 a6 b7 b8 0 0 c11 c12 0 0 c15 c16 c17 c18 c19 c20=some (.inl (pos,h,m,g1,g2))∧b0p p l i=some (B0d p h m g1 g2,pos,true)∧(i≤pos∧pos≤l.length)∧(0≤h∧h≤400)∧(0≤m∧m≤400))∨
  (∃e q pos,b0f l i a2 a3 a4 a5 a6 b7 b8 0 0 c11 c12 0 0 c15 c16 c17 c18 c19 c20=some (.inr e)∧b0p p l i=some (q,pos,false)):=by
 have hl0:=hl
 replace hl:l.length≤10000:=by omega
 unfold b0f b0p
 rw[z1,z2]
 generalize hst1:(fun(s300:Int×Int×Int×Int×Int×Int)=>((Option.bind (Option.bind (Option.bind (b0A 0 l s300.2.2.1 a2 a3 a4 a5 a6 b7 b8 s300.2.2.2.1 s300.2.2.2.2.1 c11 c12 0 s300.2.2.2.2.2 c15 c16 c17 c18 c19 c20) fun y545=>(bif y545 then(some true)else(Option.bind (b0C s300.2.1 l s300.2.2.1 a2 a3 a4 a5 a6 b7 b8 s300.2.2.2.1 s300.2.2.2.2.1 c11 c12 0 s300.2.2.2.2.2 c15 c16 c17 c18 c19 c20) fun y551=>(some y551)))) fun(s540:Bool)=>(bif s540 then(some (.inl ()))else(some (.inr (.inr (.inl (s300.1,s300.2.1,s300.2.2.1,s300.2.2.2.1,s300.2.2.2.2.1,s300.2.2.2.2.2))))))) (a0g fun(s526:Unit)=>(Option.bind (a0e 44 l s300.2.2.1 a2 a3 a4 a5 a6) fun y560=>(bif y560.1 then(some (.inl ((IntKind.wrap .i64 (s300.1+1)),0,y560.2,s300.2.2.2.1,s300.2.2.2.2.1,s300.2.2.2.2.2)))else(Option.bind (Option.bind (a0e 48 l y560.2 a2 a3 a4 a5 a6) fun y577=>(bif y577.1 then(some (y577.2,s300.2.2.2.1,(IntKind.wrap .i64 (s300.2.2.2.2.1+1))))else(some ((IntKind.wrap .i64 (y577.2+1)),(IntKind.wrap .i64 (s300.2.2.2.1+1)),s300.2.2.2.2.1)))) fun(s572:Int×Int×Int)=>(Option.bind (b0d s300.1 (IntKind.wrap .i64 (s300.2.1+1)) l s572.1 a2 a3 a4 a5 a6 b7 b8 s572.2.1 s572.2.2 c11 c12 0 s300.2.2.2.2.2 c15 c16 c17 c18 c19 c20) fun y583=>(Sum.elim (fun y586=>(some (.inl (s300.1,(IntKind.wrap .i64 (s300.2.1+1)),s572.1,s572.2.1,s572.2.2,y586)))) (fun y587=>(some (.inr (.inr (.inr (s572.1,s572.1,s572.2.1,s572.2.2,s300.2.2.2.2.2)))))) y583))))))):Option ((Int×Int×Int×Int×Int×Int)⊕((Int×Int×Int×Int×Int×Int)⊕((Int×Int×Int×Int×Int)⊕(Int×Int×Int×Int×Int))))))=step1
 generalize hst2:(fun(s1:Int×Int×Int×Int×(List Int))=>((Option.bind (a0l l s1.1) fun y442=>(Option.bind (a0l l (IntKind.wrap .i64 (s1.1+1))) fun y445=>(Option.bind (Option.bind (bif(decide (y442=35))then(some (decide (s1.2.2.2.1=0)))else(some false)) fun(s471:Bool)=>(bif s471 then(some (.inr (.inl ((IntKind.wrap .i64 (s1.1+1)),(IntKind.wrap .i64 (s1.2.1+1)),(IntKind.wrap .i64 (s1.2.2.1+1)),s1.2.2.2.1,s1.2.2.2.2))))else(some (.inl ())))) (a0g fun(s463:Unit)=>(bif(decide (y442=48))then(some (.inl ((IntKind.wrap .i64 (s1.1+1)),(IntKind.wrap .i64 (s1.2.1+1)),s1.2.2.1,(IntKind.wrap .i64 (s1.2.2.2.1+1)),s1.2.2.2.2)))else(Option.bind (Option.bind (bif(decide (y442=44))then(bif(decide (s1.2.1>0))then(bif(decide (y445=48))then(some true)else(bif(decide (y445=35))then(some (decide (s1.2.2.2.1=0)))else(some false)))else(some false))else(some false)) fun(s586:Bool)=>(bif s586 then(Option.bind (Option.bind (bif(decide ((s1.2.2.2.2.length:Int)≥2))then(bif inR 1 s1.2.2.2.2.length then(bif inR 1 s1.2.2.2.2.length then(some ((decide (¬(nth s1.2.2.2.2 1)=s1.2.1))))else none)else none)else(some false)) fun(s638:Bool)=>(bif s638 then(some (.inr (.inr (.inr ((⟨p.a_,p.b_,p.i_,p.h_,p.D_,s1.2.2.1,s1.2.2.2.1,p.p_,p.k_,p.e_,p.g_,p.l_,p.m_,p.d_,p.G_,p.f_,p.y_⟩:a0y),s1.1,false)))))else(some (.inl ())))) (a0g fun(s628:Unit)=>(bif room (s1.2.2.2.2.length+([s1.2.1]:List Int).length)then(some (.inr (.inl ((IntKind.wrap .i64 (s1.1+1)),0,s1.2.2.1,s1.2.2.2.1,(s1.2.2.2.2++([s1.2.1]:List Int))))))else none)))else(some (.inl ())))) (a0g fun(s569:Unit)=>(Option.bind (bif(decide ((s1.2.2.2.2.length:Int)=1))then(some (s1.2.1,s1.2.1))else(some (p.e_,p.g_))) fun(s660:Int×Int)=>(Option.bind (bif(decide ((s1.2.2.2.2.length:Int)>1))then(bif inR 1 s1.2.2.2.2.length then(bif inR 1 s1.2.2.2.2.length then(some (s1.2.1,(nth s1.2.2.2.2 1)))else none)else none)else(some (s660.1,s660.2))) fun(s673:Int×Int)=>(some (.inr ((⟨p.a_,p.b_,p.i_,p.h_,p.D_,s1.2.2.1,s1.2.2.2.1,p.p_,p.k_,s673.1,s673.2,p.l_,p.m_,p.d_,p.G_,p.f_,p.y_⟩:a0y),s1.1,(decide ((IntKind.wrap .i64 (s1.2.2.1+s1.2.2.2.1))>0)))))))))))))):Option ((Int×Int×Int×Int×(List Int))⊕(a0y×Int×Bool))))=step2
 -- a place is read
 have s_pl: ∀(k sn pos h m g:Int),0≤k→k≤1000→0≤sn→sn≤1000→0≤pos→pos<l.length→0≤h→h≤1000→0≤m→m≤1000→(atV l pos=48∨(m=0∧atV l pos=35))→
   step1 (k,sn,pos,h,m,g)=(if k=0∨ ¬q0s l (sn+1) (pos+1) (if atV l pos=48 then m+1 else m)then some (.inl (k,sn+1,pos+1,(if atV l pos=48 then h else h+1),(if atV l pos=48 then m+1 else m),g))else if k>1∧sn+1≠g then some (.inr (.inr (.inr (pos+1,pos+1,(if atV l pos=48 then h else h+1),(if atV l pos=48 then m+1 else m),g))))else some (.inl (k,sn+1,pos+1,(if atV l pos=48 then h else h+1),(if atV l pos=48 then m+1 else m),sn+1))):=by
  intro k sn pos h m g q1 q2 q3 q4 q5 q6 q7 q8 q9 q10 hd
  subst hst1
  simp only
  rw[n0k hl (by omega) (by omega),bn,dT (show y0p l pos m from hd),k0l hl q5 (by omega) (by omega),if_neg (show¬atV l pos=44 by omega)]
  simp only[cond_true,cond_false,aa,a0g]
  rw[k0l hl q5 (by omega) (by omega),w64 (n:=sn+1) (by omega) (by omega),w64 (n:=m+1) (by omega) (by omega),w64 (n:=h+1) (by omega) (by omega)]
  by_cases h48:atV l pos=48
  ·simp only[h48,if_true,cond_true,aa]
   rw[p0m hl (by omega) (by omega)]
   split
   ·rfl
   ·split<;>rfl
  ·simp only[h48,if_false,cond_false,aa]
   rw[w64 (n:=pos+1) (by omega) (by omega),p0m hl (by omega) (by omega)]
   split
   ·rfl
   ·split<;>rfl
 have s_cm: ∀(k sn pos h m g:Int),0≤k→k≤1000→0≤pos→pos<l.length→q0s l sn pos m→step1 (k,sn,pos,h,m,g)=some (.inl (k+1,0,pos+1,h,m,g)):=by
  intro k sn pos h m g q1 q2 q5 q6 hd
  subst hst1
  simp only
  rw[n0k hl (by omega) (by omega),bn,dF (show¬y0p l pos m by rintro(h|⟨_,h⟩)<;>(have:=hd.2.1;omega)),q0b hl q5 (by omega),dT hd]
  simp only[cond_true,cond_false,aa,a0g]
  rw[k0l hl q5 (by omega) (by omega),if_pos hd.2.1,w64 (n:=k+1) (by omega) (by omega)]
  rfl
 have hrun:=n0p (step1:=step1) (step2:=step2) (a:=(0,0,i,0,0,0)) (b:=(i,0,0,0,[]))
  (fun s t=> ∃(k sn j h m g:Int) (gs:List Int),s=(k,sn,j,h,m,g)∧t=(j,sn,h,m,gs)∧(i≤j∧j≤l.length)∧(0≤sn∧sn≤j)∧(0≤h∧h≤j)∧(0≤m∧m≤j)∧k=(gs.length:Int)∧k≤j∧(k=0→g=0)∧(2≤k→g=nth gs 1)∧(k=1→q0s l sn j m→g=sn)∧(2≤k→q0s l sn j m→sn=nth gs 1))
  (fun s=>((l.length:Int)-s.2.2.1).toNat)
  (fun o1 o2=>(∃k sn j h m g g1 g2:Int,o1= .inl (k,sn,j,h,m,g)∧o2=(B0d p h m g1 g2,j,decide (h+m>0))∧(i≤j∧j≤l.length)∧(0≤h∧h≤j)∧(0≤m∧m≤j)∧((k=0∧g1=0∧g2=g)∨(k=1∧g1=sn∧g2=sn)∨(2≤k∧g1=sn∧g2=g)))∨ ∃e q pos,o1= .inr (.inr e)∧o2=(q,pos,false))
  ⟨0,0,i,0,0,0,[],rfl,rfl,by omega,by omega,by omega,by omega,rfl,by omega,fun _=>rfl,fun h=>by omega,fun h=>by omega,fun h=>by omega⟩ (by simp only;omega) (fun s t hs=> ?_)
 ·obtain⟨o1,o2,e1,e2,hR⟩:=hrun
  rw[e1,e2]
  rcases hR with⟨k,sn,j,h,m,g,g1,g2,rfl,rfl,h2,h3,h4,h5⟩|⟨e,q,pos,rfl,rfl⟩
  ·simp only[aa,a0g]
   rw[w64 (n:=h+m) (by omega) (by omega)]
   by_cases hz:h+m=0
   ·right
    rw[dT hz,dF (show¬h+m>0 by omega)]
    exact⟨_,_,_,rfl,rfl⟩
   ·left
    rw[dF hz,dT (show h+m>0 by omega)]
    simp only[cond_false,aa,a0g]
    refine⟨j,h,m,g1,g2, ?_,rfl,h2,by omega,by omega⟩
    rcases h5 with⟨rfl,rfl,rfl⟩|⟨rfl,rfl,rfl⟩|⟨q1,rfl,rfl⟩
    ·rfl
    ·rfl
    ·rw[dF (show¬k=0 by omega),dF (show¬k=1 by omega)];rfl
  ·exact .inr ⟨e,q,pos,rfl,rfl⟩
 ·obtain⟨k,sn,j,h,m,g,gs,rfl,rfl,⟨p1,p2⟩,⟨p3,p4⟩,⟨p5,p6⟩,⟨p7,p8⟩,p9,p10,f0,f1,f2,f3⟩:=hs
  -- the other reader's steps
  have r_pl: ∀(j sn h m:Int),0≤j→j≤10000→0≤sn→sn≤10000→0≤h→h≤10000→0≤m→m≤10000→(atV l j=48∨(m=0∧atV l j=35))→step2 (j,sn,h,m,gs)=some (.inl (j+1,sn+1,(if atV l j=48 then h else h+1),(if atV l j=48 then m+1 else m),gs)):=by
   intro j sn h m q1 q2 q3 q4 q5 q6 q7 q8 hd
   subst hst2
   simp only
   rw[g0u q1,g0u (by rw[w64 (by omega) (by omega)];omega),w64 (n:=j+1) (by omega) (by omega),w64 (n:=sn+1) (by omega) (by omega),w64 (n:=h+1) (by omega) (by omega),w64 (n:=m+1) (by omega) (by omega)]
   simp only[aa]
   by_cases c1:atV l j=48
   ·rw[dF (show¬atV l j=35 by omega),dT c1,if_pos c1,if_pos c1];rfl
   ·rcases hd with hd|⟨hd1,hd2⟩
    ·exact absurd hd c1
    ·rw[dT hd2,dT hd1,if_neg c1,if_neg c1];rfl
  have r_cm: ∀(j sn h m:Int),0≤j→j≤10000→0≤sn→sn≤10000→0≤h→h≤10000→0≤m→m≤10000→q0s l sn j m→step2 (j,sn,h,m,gs)=if(gs.length:Int)≥2∧ ¬nth gs 1=sn then some (.inr (B0d p h m p.e_ p.g_,j,false))else some (.inl (j+1,0,h,m,gs++ [sn])):=by
   intro j sn h m q1 q2 q3 q4 q5 q6 q7 q8 hd
   subst hst2
   obtain⟨d1,d2,d3⟩:=hd
   simp only
   rw[g0u q1,g0u (by rw[w64 (by omega) (by omega)];omega),w64 (n:=j+1) (by omega) (by omega)]
   simp only[aa]
   rw[dF (show¬atV l j=35 by omega),dF (show¬atV l j=48 by omega),dT d2,dT (show sn>0 from d1)]
   simp only[cond_true,cond_false,aa,a0g]
   have hnx:(Option.bind (bif decide (atV l (j+1)=48)then some true else bif decide (atV l (j+1)=35)then some (decide (m=0))else some false) fun(b:Bool)=>some b)=some true:=by
    rcases d3 with d3|⟨d3,d4⟩
    ·rw[dT d3];rfl
    ·rw[dF (show¬atV l (j+1)=48 by omega),dT d4,dT d3];rfl
   have hnx2:(bif decide (atV l (j+1)=48)then some true else bif decide (atV l (j+1)=35)then some (decide (m=0))else some false)=some true:=by
    rcases d3 with d3|⟨d3,d4⟩
    ·rw[dT d3];rfl
    ·rw[dF (show¬atV l (j+1)=48 by omega),dT d4,dT d3];rfl
   rw[hnx2]
   simp only[cond_true,aa]
   rw[a0h (by simp;omega)]
   by_cases e1:(gs.length:Int)≥2
   ·rw[dT e1,a0J (by omega) (by omega)]
    by_cases e2:nth gs 1=sn
    ·rw[dF (fun hh=>hh e2),if_neg (fun hh=>hh.2 e2)];rfl
    ·rw[dT e2,if_pos ⟨e1,e2⟩];rfl
   ·rw[dF e1,if_neg (fun hh=>e1 hh.1)];rfl
  by_cases hd:atV l j=48∨(m=0∧atV l j=35)
  ·have hjl:j<l.length:=by
    rcases hd with hd|hd
    ·exact h0d hd (by omega)
    ·exact h0d hd.2 (by omega)
   have e1:=s_pl k sn j h m g (by omega) (by omega) (by omega) (by omega) (by omega) hjl (by omega) (by omega) (by omega) (by omega) hd
   have e2:=r_pl j sn h m (by omega) (by omega) (by omega) (by omega) (by omega) (by omega) (by omega) (by omega) hd
   have hb1:0≤(if atV l j=48 then h else h+1)∧(if atV l j=48 then h else h+1)≤j+1:=by split<;>omega
   have hb2:0≤(if atV l j=48 then m+1 else m)∧(if atV l j=48 then m+1 else m)≤j+1:=by split<;>omega
   generalize(if atV l j=48 then h else h+1)=h' at*
   generalize(if atV l j=48 then m+1 else m)=m' at*
   by_cases hx:k=0∨ ¬q0s l (sn+1) (j+1) m'
   ·rw[if_pos hx]at e1
    left
    refine⟨_,_,e1,e2,⟨k,sn+1,j+1,h',m',g,gs,rfl,rfl,by omega,by omega,by omega,by omega,p9,by omega,f0,f1,fun hk hc=> ?_,fun hk hc=> ?_⟩,by simp only;omega⟩
    ·rcases hx with hx|hx
     ·omega
     ·exact absurd hc hx
    ·rcases hx with hx|hx
     ·omega
     ·exact absurd hc hx
   ·rw[if_neg hx]at e1
    have hc:q0s l (sn+1) (j+1) m':=by
     by_cases hc:q0s l (sn+1) (j+1) m'
     ·exact hc
     ·exact absurd (.inr hc) hx
    have hk0: ¬k=0:=fun hk=>hx (.inl hk)
    by_cases hy:k>1∧sn+1≠g
    ·rw[if_pos hy]at e1
     right
     have e3:=r_cm (j+1) (sn+1) h' m' (by omega) (by omega) (by omega) (by omega) (by omega) (by omega) (by omega) (by omega) hc
     rw[if_pos ⟨by omega,fun hh=>hy.2 (by rw[f1 (by omega)];exact hh.symm)⟩]at e3
     exact⟨_,_,e1, .inr ⟨_,e2,e3⟩, .inr ⟨_,_,_,rfl,rfl⟩⟩
    ·rw[if_neg hy]at e1
     left
     refine⟨_,_,e1,e2,⟨k,sn+1,j+1,h',m',sn+1,gs,rfl,rfl,by omega,by omega,by omega,by omega,p9,by omega,fun hk=>absurd hk hk0,fun hk=> ?_,fun _ _=>rfl,fun hk _=> ?_⟩,by simp only;omega⟩
     ·rw[←f1 hk]
      rcases Int.lt_trichotomy (sn+1) g with h1|h1|h1
      ·exact absurd ⟨by omega,by omega⟩ hy
      ·exact h1
      ·exact absurd ⟨by omega,by omega⟩ hy
     ·rw[←f1 hk]
      rcases Int.lt_trichotomy (sn+1) g with h1|h1|h1
      ·exact absurd ⟨by omega,by omega⟩ hy
      ·exact h1
      ·exact absurd ⟨by omega,by omega⟩ hy
  ·by_cases hc:q0s l sn j m
   ·have hjl:j<l.length:=h0d hc.2.1 (by omega)
    have e1:=s_cm k sn j h m g (by omega) (by omega) (by omega) hjl hc
    have e2:=r_cm j sn h m (by omega) (by omega) (by omega) (by omega) (by omega) (by omega) (by omega) (by omega) hc
    rw[if_neg (fun hh=>hh.2 (f3 (by omega) hc).symm)]at e2
    left
    have hno: ∀ {q:Prop},q0s l 0 (j+1) m→q:=fun hh=>absurd hh.1 (by omega)
    refine⟨_,_,e1,e2,⟨k+1,0,j+1,h,m,g,gs++ [sn],rfl,rfl,by omega,by omega,by omega,by omega,by simp;omega,by omega,fun hk=>by omega,fun hk=> ?_,fun _ hh=>hno hh,fun _ hh=>hno hh⟩,by simp only;omega⟩
    ·by_cases hk1:k=1
     ·rw[f2 hk1 hc]
      have hg1:gs.length=1:=by omega
      obtain⟨x,rfl⟩:=cx.1 hg1
      rfl
     ·rw[f1 (by omega)]
      have hg1:1<gs.length:=by omega
      show nth gs ((1:Nat):Int)=nth (gs++ [sn]) ((1:Nat):Int)
      rw[d0M hg1,d0M (by simp;omega),List.getElem_append_left]
   ·right
    have e1:step1 (k,sn,j,h,m,g)=some (.inr (.inl (k,sn,j,h,m,g))):=by
     subst hst1
     simp only
     rw[n0k hl (by omega) (by omega),bn,dF (show¬y0p l j m from hd),q0b hl (by omega) (by omega),dF hc]
     rfl
    have e2: ∃g1 g2,step2 (j,sn,h,m,gs)=some (.inr (B0d p h m g1 g2,j,decide (h+m>0)))∧((k=0∧g1=0∧g2=g)∨(k=1∧g1=sn∧g2=sn)∨(2≤k∧g1=sn∧g2=g)):=by
     subst hst2
     simp only
     rw[g0u (by omega),g0u (by rw[w64 (by omega) (by omega)];omega),w64 (n:=j+1) (by omega) (by omega),w64 (n:=h+m) (by omega) (by omega)]
     simp only[aa]
     have hp1:(Option.bind (bif decide (atV l j=35)then some (decide (m=0))else some false) fun(s471:Bool)=>(bif s471 then(some (.inr (.inl ((j+1),(IntKind.wrap .i64 (sn+1)),(IntKind.wrap .i64 (h+1)),m,gs))))else(some (.inl ())):Option (Unit⊕((Int×Int×Int×Int×(List Int))⊕(a0y×Int×Bool)))))=some (.inl ()):=by
      by_cases q1:atV l j=35
      ·rw[dT q1,dF (show¬m=0 from fun hm=>hd (.inr ⟨hm,q1⟩))];rfl
      ·rw[dF q1];rfl
     rw[hp1]
     simp only[aa,a0g]
     rw[dF (show¬atV l j=48 from fun hh=>hd (.inl hh))]
     have hp2:(bif decide (atV l j=44)then(bif decide (sn>0)then(bif decide (atV l (j+1)=48)then(some true)else(bif decide (atV l (j+1)=35)then(some (decide (m=0)))else(some false)))else(some false))else(some false))=some false:=by
      by_cases q1:atV l j=44
      ·rw[dT q1]
       by_cases q2:sn>0
       ·rw[dT q2]
        by_cases q3:atV l (j+1)=48
        ·exact absurd ⟨q2,q1, .inl q3⟩ hc
        ·rw[dF q3]
         by_cases q4:atV l (j+1)=35
         ·rw[dT q4,dF (show¬m=0 from fun hm=>hc ⟨q2,q1, .inr ⟨hm,q4⟩⟩)];rfl
         ·rw[dF q4];rfl
       ·rw[dF q2];rfl
      ·rw[dF q1];rfl
     simp only[cond_false]
     rw[hp2]
     simp only[cond_false,aa,a0g]
     rcases(show(gs.length:Int)=0∨(gs.length:Int)=1∨(gs.length:Int)≥2 by omega)with q|q|q
     ·rw[dF (show¬(gs.length:Int)=1 by omega),dF (show¬(gs.length:Int)>1 by omega)]
      exact⟨p.e_,p.g_,rfl, .inl ⟨by omega,z3,by rw[z4,f0 (by omega)]⟩⟩
     ·rw[dT q,dF (show¬(gs.length:Int)>1 by omega)]
      exact⟨sn,sn,rfl, .inr (.inl ⟨by omega,rfl,rfl⟩)⟩
     ·rw[dF (show¬(gs.length:Int)=1 by omega),dT (show(gs.length:Int)>1 by omega),a0J (by omega) (by omega)]
      exact⟨sn,nth gs 1,rfl, .inr (.inr ⟨by omega,rfl,(f1 (by omega)).symm⟩)⟩
    obtain⟨g1,g2,e2,e3⟩:=e2
    exact⟨_,_,e1, .inl e2, .inl ⟨k,sn,j,h,m,g,g1,g2,rfl,rfl,⟨p1,p2⟩,⟨p5,p6⟩,⟨p7,p8⟩,e3⟩⟩
theorem x0A {i c:Int} (hl:l.length≤10000)(h0:0≤i)(h1:i≤l.length)(hc:c≠ -1): ∃n,a0G l i c=some n∧Mn l i c n∧i+n≤l.length:=by
 unfold a0G
 obtain⟨o,h2,h3,h4,h5⟩:=p0O (step:=fun(s33:Int)=>(Option.bind (a0l l (IntKind.wrap .i64 (i+s33))) fun y52=>(bif(decide (y52=c))then(some (.inl (IntKind.wrap .i64 (s33+1))))else(some (.inr s33))))) (fun s=>0≤s∧i+s≤l.length∧ ∀j,0≤j→j<s→atV l (i+j)=c) (fun s=>((l.length:Int)-(i+s)).toNat) (fun o=>0≤o∧i+o≤l.length∧Mn l i c o) (s0:=0) ⟨by omega,by omega,fun j a b=>by omega⟩ (by omega) (fun s hs=>by
  obtain⟨q2,q3,q4⟩:=hs
  rw[w64 (n:=i+s) (by omega) (by omega),g0u (by omega)]
  simp only[aa]
  by_cases h:atV l (i+s)=c
  ·left
   have hin:=h0d h hc
   rw[dT h,w64 (n:=s+1) (by omega) (by omega)]
   refine⟨s+1,rfl,⟨by omega,by omega,fun j a b=> ?_⟩,by omega⟩
   by_cases hj:j<s
   ·exact q4 j a hj
   ·rw[show j=s by omega];exact h
  ·right
   rw[dF h]
   exact⟨s,rfl,q2,q3,q2,q4,h⟩)
 rw[h2]
 exact⟨o,rfl,h5,h4⟩
theorem i0c {i c b2 b3 b4 b5 b6:Int} (hl:l.length≤10000)(h0:0≤i)(h1:i≤l.length)(hc:c≠ -1): ∃n,a0I c l i b2 b3 b4 b5 b6=some (n,i+n)∧a0G l i c=some n∧0≤n∧i+n≤l.length:=by
 obtain⟨n,e1,m1,e2⟩:=z0v (a3:=b2) (a4:=b3) (a5:=b4) (a6:=b5) (a7:=b6) hl h0 h1 hc
 obtain⟨m,e3,m2,_⟩:=x0A hl h0 h1 hc
 have:=m1.unique m2
 subst this
 exact⟨n,e1,e3,m1.1,e2⟩
def mkP(pre suf npre nsuf:List a0b)(neg:Bool)(pad pa h m nf xf g1 g2 ns xs ex:Int)(ep:Bool):a0y:=⟨pre,suf,npre,nsuf,neg,h,m,nf,xf,g1,g2,ns,xs,ex,ep,pad,pa⟩
theorem s0i {i pad pa:Int} {pre suf npre nsuf:List a0b} {neg:Bool} (hl:l.length≤400)(h0:0≤i)(hi:i≤l.length):
  (∃pos h m nf xf g1 g2 ns xs ex ep,b0g l i a2 a3 a4 a5 a6 b7 b8 0 0 0 0 0 0 0 0 0 false c19 c20=some (.inl (pos,h,m,nf,xf,g1,g2,ns,xs,ex,ep))∧b0q (mkP pre suf npre nsuf neg pad pa 0 0 0 0 0 0 0 0 0 false) l i=some (mkP pre suf npre nsuf neg pad pa h m nf xf g1 g2 ns xs ex ep,pos,true)∧(i≤pos∧pos≤l.length)∧(0≤h∧h≤400)∧(0≤m∧m≤400))∨
  (∃e q pos,b0g l i a2 a3 a4 a5 a6 b7 b8 0 0 0 0 0 0 0 0 0 false c19 c20=some (.inr e)∧b0q (mkP pre suf npre nsuf neg pad pa 0 0 0 0 0 0 0 0 0 false) l i=some (q,pos,false)):=by
 have hl0:=hl
 replace hl:l.length≤10000:=by omega
 -- what stands behind the places
 have hE: ∀(j h m nf xf g1 g2 ns xs:Int),0≤j→j≤l.length→i≤j→
   (∃pos ex ep,(a0g fun(s28:Int×Int×Int×Int×Int×Int×Int×Int)=>(Option.bind (a0e 69 l s28.1 a2 a3 a4 a5 a6) fun y57=>(bif(!y57.1)then(some (.inl (y57.2,s28.2.1,s28.2.2.1,s28.2.2.2.1,s28.2.2.2.2.1,s28.2.2.2.2.2.1,s28.2.2.2.2.2.2.1,ns,s28.2.2.2.2.2.2.2,0,false)))else(Option.bind (a0e 43 l y57.2 a2 a3 a4 a5 a6) fun y63=>(Option.bind (a0I 48 l y63.2 a2 a3 a4 a5 a6) fun y66=>(bif(decide (y66.1=0))then(Option.bind (a0r y66.2 l y66.2 a2 a3 a4 a5 a6) fun y72=>(some (.inr (y66.2,y66.2,s28.2.1,s28.2.2.1,s28.2.2.2.1,s28.2.2.2.2.1,s28.2.2.2.2.2.1,s28.2.2.2.2.2.2.1,ns,s28.2.2.2.2.2.2.2,y66.1,y63.1))))else(some (.inl (y66.2,s28.2.1,s28.2.2.1,s28.2.2.2.1,s28.2.2.2.2.1,s28.2.2.2.2.2.1,s28.2.2.2.2.2.2.1,ns,s28.2.2.2.2.2.2.2,y66.1,y63.1))))))))) (.inl (j,h,m,nf,xf,g1,g2,xs))=(some (.inl (pos,h,m,nf,xf,g1,g2,ns,xs,ex,ep)):Option ((Int×Int×Int×Int×Int×Int×Int×Int×Int×Int×Bool)⊕(Int×Int×Int×Int×Int×Int×Int×Int×Int×Int×Int×Bool)))∧
    (a0g fun(s33:Int×(List a0b)×(List a0b)×(List a0b)×(List a0b)×Bool×Int×Int×Int×Int×Int×Int×Int×Int×Int×Bool×Int×Int)=>(Option.bind (a0l l s33.1) fun y67=>(bif(decide (¬y67=69))then(some ((⟨s33.2.1,s33.2.2.1,s33.2.2.2.1,s33.2.2.2.2.1,s33.2.2.2.2.2.1,s33.2.2.2.2.2.2.1,s33.2.2.2.2.2.2.2.1,s33.2.2.2.2.2.2.2.2.1,s33.2.2.2.2.2.2.2.2.2.1,s33.2.2.2.2.2.2.2.2.2.2.1,s33.2.2.2.2.2.2.2.2.2.2.2.1,s33.2.2.2.2.2.2.2.2.2.2.2.2.1,s33.2.2.2.2.2.2.2.2.2.2.2.2.2.1,s33.2.2.2.2.2.2.2.2.2.2.2.2.2.2.1,s33.2.2.2.2.2.2.2.2.2.2.2.2.2.2.2.1,s33.2.2.2.2.2.2.2.2.2.2.2.2.2.2.2.2.1,s33.2.2.2.2.2.2.2.2.2.2.2.2.2.2.2.2.2⟩:a0y),s33.1,true))else(Option.bind (Option.bind (a0l l (IntKind.wrap .i64 (s33.1+1))) fun y84=>(bif(decide (y84=43))then(some ((IntKind.wrap .i64 ((IntKind.wrap .i64 (s33.1+1))+1)),true))else(some ((IntKind.wrap .i64 (s33.1+1)),s33.2.2.2.2.2.2.2.2.2.2.2.2.2.2.2.1)))) fun(s79:Int×Bool)=>(Option.bind (a0G l s79.1 48) fun y90=>(some ((⟨s33.2.1,s33.2.2.1,s33.2.2.2.1,s33.2.2.2.2.1,s33.2.2.2.2.2.1,s33.2.2.2.2.2.2.1,s33.2.2.2.2.2.2.2.1,s33.2.2.2.2.2.2.2.2.1,s33.2.2.2.2.2.2.2.2.2.1,s33.2.2.2.2.2.2.2.2.2.2.1,s33.2.2.2.2.2.2.2.2.2.2.2.1,s33.2.2.2.2.2.2.2.2.2.2.2.2.1,s33.2.2.2.2.2.2.2.2.2.2.2.2.2.1,y90,s79.2,s33.2.2.2.2.2.2.2.2.2.2.2.2.2.2.2.2.1,s33.2.2.2.2.2.2.2.2.2.2.2.2.2.2.2.2.2⟩:a0y),(IntKind.wrap .i64 (s79.1+y90)),(decide (y90>0))))))))) (.inl (j,pre,suf,npre,nsuf,neg,h,m,nf,xf,g1,g2,ns,xs,0,false,pad,pa))=(some (mkP pre suf npre nsuf neg pad pa h m nf xf g1 g2 ns xs ex ep,pos,true):Option (a0y×Int×Bool))∧(i≤pos∧pos≤l.length))∨
   (∃e q pos,(a0g fun(s28:Int×Int×Int×Int×Int×Int×Int×Int)=>(Option.bind (a0e 69 l s28.1 a2 a3 a4 a5 a6) fun y57=>(bif(!y57.1)then(some (.inl (y57.2,s28.2.1,s28.2.2.1,s28.2.2.2.1,s28.2.2.2.2.1,s28.2.2.2.2.2.1,s28.2.2.2.2.2.2.1,ns,s28.2.2.2.2.2.2.2,0,false)))else(Option.bind (a0e 43 l y57.2 a2 a3 a4 a5 a6) fun y63=>(Option.bind (a0I 48 l y63.2 a2 a3 a4 a5 a6) fun y66=>(bif(decide (y66.1=0))then(Option.bind (a0r y66.2 l y66.2 a2 a3 a4 a5 a6) fun y72=>(some (.inr (y66.2,y66.2,s28.2.1,s28.2.2.1,s28.2.2.2.1,s28.2.2.2.2.1,s28.2.2.2.2.2.1,s28.2.2.2.2.2.2.1,ns,s28.2.2.2.2.2.2.2,y66.1,y63.1))))else(some (.inl (y66.2,s28.2.1,s28.2.2.1,s28.2.2.2.1,s28.2.2.2.2.1,s28.2.2.2.2.2.1,s28.2.2.2.2.2.2.1,ns,s28.2.2.2.2.2.2.2,y66.1,y63.1))))))))) (.inl (j,h,m,nf,xf,g1,g2,xs))=(some (.inr e):Option ((Int×Int×Int×Int×Int×Int×Int×Int×Int×Int×Bool)⊕(Int×Int×Int×Int×Int×Int×Int×Int×Int×Int×Int×Bool)))∧
    (a0g fun(s33:Int×(List a0b)×(List a0b)×(List a0b)×(List a0b)×Bool×Int×Int×Int×Int×Int×Int×Int×Int×Int×Bool×Int×Int)=>(Option.bind (a0l l s33.1) fun y67=>(bif(decide (¬y67=69))then(some ((⟨s33.2.1,s33.2.2.1,s33.2.2.2.1,s33.2.2.2.2.1,s33.2.2.2.2.2.1,s33.2.2.2.2.2.2.1,s33.2.2.2.2.2.2.2.1,s33.2.2.2.2.2.2.2.2.1,s33.2.2.2.2.2.2.2.2.2.1,s33.2.2.2.2.2.2.2.2.2.2.1,s33.2.2.2.2.2.2.2.2.2.2.2.1,s33.2.2.2.2.2.2.2.2.2.2.2.2.1,s33.2.2.2.2.2.2.2.2.2.2.2.2.2.1,s33.2.2.2.2.2.2.2.2.2.2.2.2.2.2.1,s33.2.2.2.2.2.2.2.2.2.2.2.2.2.2.2.1,s33.2.2.2.2.2.2.2.2.2.2.2.2.2.2.2.2.1,s33.2.2.2.2.2.2.2.2.2.2.2.2.2.2.2.2.2⟩:a0y),s33.1,true))else(Option.bind (Option.bind (a0l l (IntKind.wrap .i64 (s33.1+1))) fun y84=>(bif(decide (y84=43))then(some ((IntKind.wrap .i64 ((IntKind.wrap .i64 (s33.1+1))+1)),true))else(some ((IntKind.wrap .i64 (s33.1+1)),s33.2.2.2.2.2.2.2.2.2.2.2.2.2.2.2.1)))) fun(s79:Int×Bool)=>(Option.bind (a0G l s79.1 48) fun y90=>(some ((⟨s33.2.1,s33.2.2.1,s33.2.2.2.1,s33.2.2.2.2.1,s33.2.2.2.2.2.1,s33.2.2.2.2.2.2.1,s33.2.2.2.2.2.2.2.1,s33.2.2.2.2.2.2.2.2.1,s33.2.2.2.2.2.2.2.2.2.1,s33.2.2.2.2.2.2.2.2.2.2.1,s33.2.2.2.2.2.2.2.2.2.2.2.1,s33.2.2.2.2.2.2.2.2.2.2.2.2.1,s33.2.2.2.2.2.2.2.2.2.2.2.2.2.1,y90,s79.2,s33.2.2.2.2.2.2.2.2.2.2.2.2.2.2.2.2.1,s33.2.2.2.2.2.2.2.2.2.2.2.2.2.2.2.2.2⟩:a0y),(IntKind.wrap .i64 (s79.1+y90)),(decide (y90>0))))))))) (.inl (j,pre,suf,npre,nsuf,neg,h,m,nf,xf,g1,g2,ns,xs,0,false,pad,pa))=(some (q,pos,false):Option (a0y×Int×Bool))):=by
  intro j h m nf xf g1 g2 ns xs j0 j1 j2
  simp only[a0g]
  rw[k0l hl j0 (by omega) (by omega),g0u j0]
  simp only[aa]
  by_cases c1:atV l j=69
  ·have hjl:=h0d c1 (by omega)
   rw[if_pos c1,dF (show¬ ¬atV l j=69 from fun hh=>hh c1),w64 (n:=j+1) (by omega) (by omega),g0u (by omega),w64 (n:=j+1+1) (by omega) (by omega)]
   simp only[aA,cond_false,aa]
   rw[k0l hl (by omega) (by omega) (by omega)]
   by_cases c2:atV l (j+1)=43
   ·have hjl2:=h0d c2 (by omega)
    rw[if_pos c2,dT c2]
    simp only[cond_true,aa]
    obtain⟨n,e1,e2,e3,e4⟩:=i0c (l:=l) (i:=j+1+1) (c:=48) (b2:=a2) (b3:=a3) (b4:=a4) (b5:=a5) (b6:=a6) hl (by omega) (by omega) (by omega)
    rw[e1,e2]
    simp only[aa]
    rw[w64 (n:=j+1+1+n) (by omega) (by omega)]
    by_cases c3:n=0
    ·right
     rw[dT c3,dF (show¬n>0 by omega)]
     exact⟨_,_,_,rfl,rfl⟩
    ·left
     rw[dF c3,dT (show n>0 by omega)]
     exact⟨_,_,_,rfl,rfl,by omega,by omega⟩
   ·rw[if_neg c2,dF c2]
    simp only[cond_false,aa]
    obtain⟨n,e1,e2,e3,e4⟩:=i0c (l:=l) (i:=j+1) (c:=48) (b2:=a2) (b3:=a3) (b4:=a4) (b5:=a5) (b6:=a6) hl (by omega) (by omega) (by omega)
    rw[e1,e2]
    simp only[aa]
    rw[w64 (n:=j+1+n) (by omega) (by omega)]
    by_cases c3:n=0
    ·right
     rw[dT c3,dF (show¬n>0 by omega)]
     exact⟨_,_,_,rfl,rfl⟩
    ·left
     rw[dF c3,dT (show n>0 by omega)]
     exact⟨_,_,_,rfl,rfl,by omega,by omega⟩
  ·left
   rw[if_neg c1,dT c1]
   exact⟨j,0,false,rfl,rfl,j2,j1⟩
 obtain⟨n,e1,e2,e3,e4⟩:=i0c (l:=l) (i:=i) (c:=64) (b2:=a2) (b3:=a3) (b4:=a4) (b5:=a5) (b6:=a6) hl h0 hi (by omega)
 unfold b0g b0q
 rw[e1,e2]
 simp only[aa]
 by_cases hn:n>0
 ·rw[dT hn]
  simp only[cond_true]
  rw[w64 (n:=i+n) (by omega) (by omega)]
  obtain⟨m,f1,f2,f3,f4⟩:=i0c (l:=l) (i:=i+n) (c:=35) (b2:=a2) (b3:=a3) (b4:=a4) (b5:=a5) (b6:=a6) hl (by omega) (by omega) (by omega)
  rw[f1,f2]
  simp only[aa]
  rw[w64 (n:=i+n+m) (by omega) (by omega),w64 (n:=n+m) (by omega) (by omega)]
  rcases hE (i+n+m) 0 0 0 0 0 0 n (n+m) (by omega) (by omega) (by omega)with⟨pos,ex,ep,g1,g2,g3⟩|⟨e,q,pos,g1,g2⟩
  ·rw[g1]
   exact .inl ⟨pos,0,0,0,0,0,0,n,n+m,ex,ep,rfl,g2,g3,by omega,by omega⟩
  ·rw[g1]
   exact .inr ⟨e,q,pos,rfl,g2⟩
 ·rw[dF hn]
  have hn0:n=0:=by omega
  subst hn0
  simp only[cond_false]
  rw[show i+0=i by omega]
  rcases s0b (a2:=a2) (a3:=a3) (a4:=a4) (a5:=a5) (a6:=a6) (b7:=b7) (b8:=b8) (c11:=0) (c12:=0) (c15:=0) (c16:=0) (c17:=0) (c18:=false) (c19:=c19) (c20:=c20) (p:=mkP pre suf npre nsuf neg pad pa 0 0 0 0 0 0 0 0 0 false) hl0 h0 hi rfl rfl rfl rfl with⟨j,h,m,g1,g2,f1,f2,f3,f4,f5⟩|⟨e,q,pos,f1,f2⟩
  ·rw[f1,f2]
   simp only[aa,br,aA,cond_false]
   unfold b0u
   rw[k0l hl (by omega) (by omega) (by omega),g0u (by omega)]
   simp only[aa]
   by_cases c1:atV l j=46
   ·have hjl:=h0d c1 (by omega)
    rw[if_pos c1,dT c1,w64 (n:=j+1) (by omega) (by omega)]
    simp only[aA,cond_false,cond_true]
    obtain⟨nf,k1,k2,k3,k4⟩:=i0c (l:=l) (i:=j+1) (c:=48) (b2:=a2) (b3:=a3) (b4:=a4) (b5:=a5) (b6:=a6) hl (by omega) (by omega) (by omega)
    rw[k1,k2]
    simp only[aa]
    rw[w64 (n:=j+1+nf) (by omega) (by omega)]
    obtain⟨xf,u1,u2,u3,u4⟩:=i0c (l:=l) (i:=j+1+nf) (c:=35) (b2:=a2) (b3:=a3) (b4:=a4) (b5:=a5) (b6:=a6) hl (by omega) (by omega) (by omega)
    rw[u1,u2]
    simp only[aa]
    rw[w64 (n:=nf+xf) (by omega) (by omega),w64 (n:=j+1+nf+xf) (by omega) (by omega)]
    by_cases c2:nf+xf=0
    ·right
     rw[dT c2]
     exact⟨_,_,_,rfl,rfl⟩
    ·rw[dF c2]
     simp only[cond_false,aa,br]
     rcases hE (j+1+nf+xf) h m nf (nf+xf) g1 g2 0 0 (by omega) (by omega) (by omega)with⟨pos,ex,ep,q1,q2,q3⟩|⟨e,q,pos,q1,q2⟩
     ·rw[q1]
      exact .inl ⟨pos,h,m,nf,nf+xf,g1,g2,0,0,ex,ep,rfl,q2,q3,f4,f5⟩
     ·rw[q1]
      exact .inr ⟨e,q,pos,rfl,q2⟩
   ·rw[if_neg c1,dF c1]
    simp only[Bool.not_false,cond_true,cond_false,aa,br]
    rcases hE j h m 0 0 g1 g2 0 0 (by omega) (by omega) (by omega)with⟨pos,ex,ep,q1,q2,q3⟩|⟨e,q,pos,q1,q2⟩
    ·rw[q1]
     exact .inl ⟨pos,h,m,0,0,g1,g2,0,0,ex,ep,rfl,q2,q3,f4,f5⟩
    ·rw[q1]
     exact .inr ⟨e,q,pos,rfl,q2⟩
  ·right
   rw[f1,f2]
   exact⟨_,_,_,rfl,rfl⟩
end
/-! Two readers side by side: patterns. -/
section
variable {l : List Int}
def A0f(l:List Int)(i pd pa w:Int):(Int×Int×Int)⊕(Int×Int):=if pa≠0∨atV l i≠42 then .inl (i,pd,pa)else if i+1=l.length then .inr (i+1,i+1)else .inl (i+2,atV l (i+1),w)
theorem p0K {i pd pa w h m nf xf g1 g2 ns xs ex:Int} {ep neg:Bool} {pre suf npre nsuf:List a0b} (hl:l.length≤400)(h0:0≤i)(hi:i≤l.length)(hpa:0≤pa)(hw:0<w):
  (∃j pd' pa',A0f l i pd pa w= .inl (j,pd',pa')∧a0K (mkP pre suf npre nsuf neg pd pa h m nf xf g1 g2 ns xs ex ep) l i w=some (mkP pre suf npre nsuf neg pd' pa' h m nf xf g1 g2 ns xs ex ep,j,true)∧(i≤j∧j≤l.length)∧0≤pa'∧(pa'≠0∨atV l j≠42)∧(pd'=pd∨pd'∈l))∨
  (∃e q pos,A0f l i pd pa w= .inr e∧a0K (mkP pre suf npre nsuf neg pd pa h m nf xf g1 g2 ns xs ex ep) l i w=some (q,pos,false)):=by
 unfold a0K A0f
 have hpp:(mkP pre suf npre nsuf neg pd pa h m nf xf g1 g2 ns xs ex ep).y_=pa:=rfl
 rw[hpp,g0u h0,w64 (n:=i+1) (by omega) (by omega),w64 (n:=i+2) (by omega) (by omega)]
 simp only[aa]
 by_cases c1:pa>0
 ·left
  rw[dT c1,if_pos (.inl (by omega))]
  exact⟨i,pd,pa,rfl,rfl,by omega,hpa, .inl (by omega), .inl rfl⟩
 ·rw[dF c1]
  by_cases c2:atV l i=42
  ·have hin:=h0d c2 (by omega)
   rw[dF (fun hh=>hh c2),if_neg (fun hh=>by rcases hh with hh|hh;omega;exact hh c2)]
   simp only[cond_false,aa,a0g]
   by_cases c3:i+1=l.length
   ·right
    rw[if_pos c3,dT (show i+1≥(l.length:Int) by omega)]
    exact⟨_,_,_,rfl,rfl⟩
   ·left
    rw[if_neg c3,dF (show¬i+1≥(l.length:Int) by omega),a0J (by omega) (by omega),←p0n (show i+1<(l.length:Int) by omega)]
    exact⟨i+2,nth l (i+1),w,rfl,rfl,by omega,by omega, .inl (by omega), .inr (i0D (by omega) (by omega))⟩
  ·left
   rw[dT c2,if_pos (.inr c2)]
   exact⟨i,pd,pa,rfl,rfl,by omega,hpa, .inr c2, .inl rfl⟩
theorem x0G {i pd pa w h m nf xf g1 g2 ns xs ex:Int} {ep neg:Bool} {pre suf npre nsuf:List a0b} (h0:0≤i)(hpa:0≤pa)(hn:pa≠0∨atV l i≠42):
  a0K (mkP pre suf npre nsuf neg pd pa h m nf xf g1 g2 ns xs ex ep) l i w=some (mkP pre suf npre nsuf neg pd pa h m nf xf g1 g2 ns xs ex ep,i,true):=by
 unfold a0K
 have hpp:(mkP pre suf npre nsuf neg pd pa h m nf xf g1 g2 ns xs ex ep).y_=pa:=rfl
 rw[hpp,g0u h0]
 simp only[aa]
 by_cases c1:pa>0
 ·rw[dT c1];rfl
 ·rcases hn with hn|hn
  ·omega
  ·rw[dF c1,dT hn];rfl
theorem y0q {i pd pa w h m nf xf g1 g2 ns xs ex:Int} {ep neg:Bool} {ts pre suf npre nsuf:List a0b} (hl:l.length≤400)(h0:0≤i)(hi:i≤l.length)(hpa:0≤pa)(hw:0<w)(hts:ts=[]→(pa≠0∨atV l i≠42)):
  (∃j pd' pa',(bif(decide ((ts.length:Int)>0))then(Option.bind (some (A0f l i pd pa w)) fun y35=>(Sum.elim (fun y38=>(some (.inl (y38.1,y38.2.1,y38.2.2)))) (fun y39=>(some (.inr (.inr (y39.1,y39.2))))) y35))else(some (.inl (i,pd,pa))):Option ((Int×Int×Int)⊕((a0y×Int)⊕(Int×Int))))=some (.inl (j,pd',pa'))∧a0K (mkP pre suf npre nsuf neg pd pa h m nf xf g1 g2 ns xs ex ep) l i w=some (mkP pre suf npre nsuf neg pd' pa' h m nf xf g1 g2 ns xs ex ep,j,true)∧(i≤j∧j≤l.length)∧0≤pa'∧(pd'=pd∨pd'∈l))∨
  (∃e q pos,(bif(decide ((ts.length:Int)>0))then(Option.bind (some (A0f l i pd pa w)) fun y35=>(Sum.elim (fun y38=>(some (.inl (y38.1,y38.2.1,y38.2.2)))) (fun y39=>(some (.inr (.inr (y39.1,y39.2))))) y35))else(some (.inl (i,pd,pa))):Option ((Int×Int×Int)⊕((a0y×Int)⊕(Int×Int))))=some (.inr (.inr e))∧a0K (mkP pre suf npre nsuf neg pd pa h m nf xf g1 g2 ns xs ex ep) l i w=some (q,pos,false)):=by
 by_cases c:(ts.length:Int)>0
 ·rw[dT c]
  rcases p0K (pd:=pd) (pa:=pa) (w:=w) (h:=h) (m:=m) (nf:=nf) (xf:=xf) (g1:=g1) (g2:=g2) (ns:=ns) (xs:=xs) (ex:=ex) (ep:=ep) (neg:=neg) (pre:=pre) (suf:=suf) (npre:=npre) (nsuf:=nsuf) hl h0 hi hpa hw with⟨j,d3,w3,e3,r3,b3,wb3,n3,m3⟩|⟨e,q,pos,e3,r3⟩
  ·rw[e3,r3]
   exact .inl ⟨j,d3,w3,rfl,rfl,b3,wb3,m3⟩
  ·rw[e3,r3]
   exact .inr ⟨e,q,pos,rfl,rfl⟩
 ·have hts2:ts=[]:=al (by omega)
  rw[dF c,x0G h0 hpa (hts hts2)]
  exact .inl ⟨i,pd,pa,rfl,rfl,by omega,hpa, .inl rfl⟩
theorem A0R {s e j:Int} (h0:0≤s)(h1:s≤e)(h2:e≤l.length)(hj0:0≤j)(hj:j<e-s):nth (cut l s e) j=nth l (s+j)∧(cut l s e).length=(e-s).toNat:=by
 have hlen:(cut l s e).length=(e-s).toNat:=by simp[cut];omega
 refine⟨?_,hlen⟩
 obtain⟨k,rfl⟩: ∃k:Nat,j=k:=⟨j.toNat,by omega⟩
 rw[d0M (by omega),show s+(k:Int)=((s.toNat+k:Nat):Int) by omega,d0M (by omega)]
 simp[cut]
theorem x0Z {s e:Int} (h0:0≤s)(h1:s≤e)(h2:e≤l.length):(cut l s e).length=(e-s).toNat:=by simp[cut];omega
theorem u0K {s e j a2 a3 a4 a5 a6:Int} {us:List a0b} {p:a0y} (hl:l.length≤400)(h0:0≤s)(h1:s≤e)(h2:e≤l.length)(hj0:0≤j)(hj:j≤l.length)(hpos: ∀c∈l,0≤c):
  (∃k,a0s (fun(s136:Int×Int)=>((bif(decide (s136.1<((cut l s e).length:Int)))then(Option.bind (bif inR s136.1 (cut l s e).length then(Option.bind (a0e (nth (cut l s e) s136.1) l s136.2 a2 a3 a4 a5 a6) fun y243=>(bif(!y243.1)then(Option.bind (a0r y243.2 l y243.2 a2 a3 a4 a5 a6) fun y249=>(some (.inr (.inr (.inr (.inr (y243.2,y243.2)))))))else(some (.inl y243.2))))else none) (a0g fun(s237:Int)=>(some (.inl ((IntKind.wrap .i64 (s136.1+1)),s237)))))else(some (.inr (.inl s136.2)))):Option ((Int×Int)⊕(Int⊕((Int×(List a0b)×(List a0b))⊕(Int×Int)))))) big (0,j)=some (.inl k)∧a0s (fun(s60:Int×Int)=>((bif(decide (s60.2<e))then(Option.bind (a0l l s60.1) fun y96=>(bif inR s60.2 l.length then(bif(decide (¬y96=(nth l s60.2)))then(some (.inr (.inr ((⟨p.a_,p.b_,us,p.h_,true,p.n_,p.j_,p.p_,p.k_,p.e_,p.g_,p.l_,p.m_,p.d_,p.G_,p.f_,p.y_⟩:a0y),s60.1,false))))else(some (.inl ((IntKind.wrap .i64 (s60.1+1)),(IntKind.wrap .i64 (s60.2+1))))))else none))else(some (.inr (.inl s60.1)))):Option ((Int×Int)⊕(Int⊕(a0y×Int×Bool))))) big (j,s)=some (.inl k)∧(j≤k∧k≤l.length))∨
  (∃e1 q pos,a0s (fun(s136:Int×Int)=>((bif(decide (s136.1<((cut l s e).length:Int)))then(Option.bind (bif inR s136.1 (cut l s e).length then(Option.bind (a0e (nth (cut l s e) s136.1) l s136.2 a2 a3 a4 a5 a6) fun y243=>(bif(!y243.1)then(Option.bind (a0r y243.2 l y243.2 a2 a3 a4 a5 a6) fun y249=>(some (.inr (.inr (.inr (.inr (y243.2,y243.2)))))))else(some (.inl y243.2))))else none) (a0g fun(s237:Int)=>(some (.inl ((IntKind.wrap .i64 (s136.1+1)),s237)))))else(some (.inr (.inl s136.2)))):Option ((Int×Int)⊕(Int⊕((Int×(List a0b)×(List a0b))⊕(Int×Int)))))) big (0,j)=some (.inr (.inr e1))∧a0s (fun(s60:Int×Int)=>((bif(decide (s60.2<e))then(Option.bind (a0l l s60.1) fun y96=>(bif inR s60.2 l.length then(bif(decide (¬y96=(nth l s60.2)))then(some (.inr (.inr ((⟨p.a_,p.b_,us,p.h_,true,p.n_,p.j_,p.p_,p.k_,p.e_,p.g_,p.l_,p.m_,p.d_,p.G_,p.f_,p.y_⟩:a0y),s60.1,false))))else(some (.inl ((IntKind.wrap .i64 (s60.1+1)),(IntKind.wrap .i64 (s60.2+1))))))else none))else(some (.inr (.inl s60.1)))):Option ((Int×Int)⊕(Int⊕(a0y×Int×Bool))))) big (j,s)=some (.inr (q,pos,false))):=by
 generalize hst1:(fun(s136:Int×Int)=>((bif(decide (s136.1<((cut l s e).length:Int)))then(Option.bind (bif inR s136.1 (cut l s e).length then(Option.bind (a0e (nth (cut l s e) s136.1) l s136.2 a2 a3 a4 a5 a6) fun y243=>(bif(!y243.1)then(Option.bind (a0r y243.2 l y243.2 a2 a3 a4 a5 a6) fun y249=>(some (.inr (.inr (.inr (.inr (y243.2,y243.2)))))))else(some (.inl y243.2))))else none) (a0g fun(s237:Int)=>(some (.inl ((IntKind.wrap .i64 (s136.1+1)),s237)))))else(some (.inr (.inl s136.2)))):Option ((Int×Int)⊕(Int⊕((Int×(List a0b)×(List a0b))⊕(Int×Int))))))=step1
 generalize hst2:(fun(s60:Int×Int)=>((bif(decide (s60.2<e))then(Option.bind (a0l l s60.1) fun y96=>(bif inR s60.2 l.length then(bif(decide (¬y96=(nth l s60.2)))then(some (.inr (.inr ((⟨p.a_,p.b_,us,p.h_,true,p.n_,p.j_,p.p_,p.k_,p.e_,p.g_,p.l_,p.m_,p.d_,p.G_,p.f_,p.y_⟩:a0y),s60.1,false))))else(some (.inl ((IntKind.wrap .i64 (s60.1+1)),(IntKind.wrap .i64 (s60.2+1))))))else none))else(some (.inr (.inl s60.1)))):Option ((Int×Int)⊕(Int⊕(a0y×Int×Bool)))))=step2
 have hcl:=x0Z (l:=l) h0 h1 h2
 have hrun:=n0p (step1:=step1) (step2:=step2) (a:=(0,j)) (b:=(j,s)) (fun x y=>(0≤x.1∧x.1≤e-s)∧y.2=s+x.1∧y.1=x.2∧(j≤x.2∧x.2≤l.length)) (fun x=>(e-s-x.1).toNat)
  (fun o1 o2=>(∃k,o1= .inl k∧o2= .inl k∧(j≤k∧k≤l.length))∨ ∃e1 q pos,o1= .inr (.inr e1)∧o2= .inr (q,pos,false)) ⟨⟨by simp only;omega,by simp only;omega⟩,by simp,rfl,by simp only;omega⟩ (by simp only;omega) (fun x y hs=> ?_)
 ·obtain⟨o1,o2,e1,e2,hR⟩:=hrun
  rw[e1,e2]
  rcases hR with⟨k,rfl,rfl,h⟩|⟨e3,q,pos,rfl,rfl⟩
  ·exact .inl ⟨k,rfl,rfl,h⟩
  ·exact .inr ⟨e3,q,pos,rfl,rfl⟩
 ·obtain⟨x1,x2⟩:=x
  obtain⟨y1,y2⟩:=y
  obtain⟨⟨p1,p2⟩,p3,p4,p5⟩:=hs
  simp only at p1 p2 p3 p4 p5
  subst p3;subst p4
  subst hst1;subst hst2
  simp only
  by_cases hx:x1<e-s
  ·obtain⟨hc,_⟩:=A0R (l:=l) h0 h1 h2 p1 hx
   have hm:nth l (s+x1)=atV l (s+x1):=p0n (by omega)
   have hne:nth l (s+x1)∈l:=i0D (by omega) (by omega)
   rw[dT (show x1<((cut l s e).length:Int) by omega),a0J p1 (by omega),hc,dT (show s+x1<e by omega),g0u (by omega),a0J (by omega) (by omega),w64 (n:=x1+1) (by omega) (by omega),w64 (n:=y1+1) (by omega) (by omega),w64 (n:=s+x1+1) (by omega) (by omega)]
   simp only[cond_true,aa]
   by_cases hin:y1<l.length
   ·have hlt:l.length≤10000:=by omega
    have heat:a0e (nth l (s+x1)) l y1 a2 a3 a4 a5 a6=some (if atV l y1=nth l (s+x1)then(true,y1+1)else(false,y1)):=by
     unfold a0e a0F
     rw[w64 (n:=y1+0) (by omega) (by omega),bn,dT hin,a0J (by omega) hin,w64 (n:=y1+1) (by omega) (by omega),p0n hin]
     by_cases h:atV l y1=nth l (s+x1)
     ·rw[if_pos h,dT h];rfl
     ·rw[if_neg h,dF h];rfl
    rw[heat]
    by_cases h:atV l y1=nth l (s+x1)
    ·left
     rw[if_pos h,dF (fun hh=>hh h)]
     exact⟨_,_,rfl,rfl,⟨⟨by simp only;omega,by simp only;omega⟩,by simp only;omega,rfl,by simp only;omega⟩,by simp only;omega⟩
    ·right
     rw[if_neg h,dT h]
     exact⟨_,_,rfl, .inl rfl, .inr ⟨_,_,_,rfl,rfl⟩⟩
   ·right
    have heat:a0e (nth l (s+x1)) l y1 a2 a3 a4 a5 a6=some (false,y1):=by
     unfold a0e a0F
     rw[w64 (n:=y1+0) (by omega) (by omega),bn,dF hin];rfl
    rw[heat]
    have hv:atV l y1= -1:=by unfold atV;rw[if_neg hin]
    have hge:=hpos _ hne
    rw[hv,dT (show¬(-1:Int)=nth l (s+x1) by omega)]
    exact⟨_,_,rfl, .inl rfl, .inr ⟨_,_,_,rfl,rfl⟩⟩
  ·right
   rw[dF (show¬x1<((cut l s e).length:Int) by omega),dF (show¬s+x1<e by omega)]
   exact⟨_,_,rfl, .inl rfl, .inl ⟨_,rfl,rfl,p5⟩⟩
def B0e(l:List Int):Option (Int×Bool×(List a0b)×(List a0b)×(List a0b)×(List a0b)×Bool×Int×Int×Int×Int×Int×Int×Int×Int×Int×Bool×Int×Int):=Option.bind (b0m l) fun y10=>(Option.bind (bif y10.2.2.2.2 then(Option.bind (a0l l y10.2.2.2.1) fun y55=>(some (decide (y55=59))))else(some false)) fun(s47:Bool)=>(bif s47 then(Option.bind (b0o y10.1 l (IntKind.wrap .i64 (y10.2.2.2.1+1)) y10.2.1 y10.2.2.1) fun y61=>(some (y61.2.1,y61.2.2,y61.1.a_,y61.1.b_,y61.1.i_,y61.1.h_,y61.1.D_,y61.1.n_,y61.1.j_,y61.1.p_,y61.1.k_,y61.1.e_,y61.1.g_,y61.1.l_,y61.1.m_,y61.1.d_,y61.1.G_,y61.1.f_,y61.1.y_)))else(some (y10.2.2.2.1,y10.2.2.2.2,y10.1.a_,y10.1.b_,y10.1.i_,y10.1.h_,y10.1.D_,y10.1.n_,y10.1.j_,y10.1.p_,y10.1.k_,y10.1.e_,y10.1.g_,y10.1.l_,y10.1.m_,y10.1.d_,y10.1.G_,y10.1.f_,y10.1.y_))))
def B0D(pos:Int)(ok:Bool)(q:a0y):Int×Bool×(List a0b)×(List a0b)×(List a0b)×(List a0b)×Bool×Int×Int×Int×Int×Int×Int×Int×Int×Int×Bool×Int×Int:=(pos,ok,q.a_,q.b_,q.i_,q.h_,q.D_,q.n_,q.j_,q.p_,q.k_,q.e_,q.g_,q.l_,q.m_,q.d_,q.G_,q.f_,q.y_)
def inP(l:List Int)(q:a0y):Prop:=A0d l q.a_∧A0d l q.b_∧A0d l q.i_∧A0d l q.h_∧(q.f_=0∨q.f_∈l)∧(0≤q.n_∧q.n_≤400)∧(0≤q.j_∧q.j_≤400)∧0≤q.y_
theorem q0O(hl:l.length≤400)(hpos: ∀c∈l,0≤c):
  (∃q,b0c l 0 0 1 2 3 4=some (.inl (q,(l.length:Int)))∧B0e l=some (B0D (l.length:Int) true q)∧inP l q)∨
  ((∃e,b0c l 0 0 1 2 3 4=some (.inr e))∧ ∃s,B0e l=some s∧(s.2.1=false∨s.1<l.length)):=by
 have hl0:l.length≤10000:=by omega
 unfold b0c B0e b0m
 have hz:(⟨([]:List a0b),([]:List a0b),([]:List a0b),([]:List a0b),false,0,0,0,0,0,0,0,0,0,false,0,0⟩:a0y)=mkP [] [] [] [] false 0 0 0 0 0 0 0 0 0 0 0 false:=rfl
 rw[hz,v0z hl0 (by omega) (by omega)]
 have hF: ∀(i pd pa w:Int),(if pa≠0∨atV l i≠42 then .inl (i,pd,pa)else if i+1=l.length then .inr (i+1,i+1)else .inl (i+2,atV l (i+1),w):(Int×Int×Int)⊕(Int×Int))=A0f l i pd pa w:=fun _ _ _ _=>rfl
 rw[hF]
 -- the first pad
 rcases p0K (l:=l) (i:=0) (pd:=0) (pa:=0) (w:=1) (h:=0) (m:=0) (nf:=0) (xf:=0) (g1:=0) (g2:=0) (ns:=0) (xs:=0) (ex:=0) (ep:=false) (neg:=false) (pre:=[]) (suf:=[]) (npre:=[]) (nsuf:=[]) hl (by omega) (by omega) (by omega) (by omega)with⟨i1,d1,w1,e1,r1,b1,wb1,n1,m1⟩|⟨e,q,pos,e1,r1⟩
 case inr=>rw[e1,r1];exact .inr ⟨⟨_,rfl⟩,_,rfl, .inl rfl⟩
 rw[e1,r1]
 simp only[aa,br,aA,cond_false]
 -- the prefix
 rcases k0D (l:=l) (i:=i1) (a2:=0) hl0 (by omega) (by omega)with⟨ts,i2,e2,r2,b2,t2,f2⟩|⟨e,ts,pos,e2,r2⟩
 case inr=>rw[e2,r2];exact .inr ⟨⟨_,rfl⟩,_,rfl, .inl rfl⟩
 rw[e2,r2]
 simp only[aa,br,aA,cond_false]
 -- the pad behind it
 have hP1:(⟨ts,(mkP [] [] [] [] false d1 w1 0 0 0 0 0 0 0 0 0 false).b_,(mkP [] [] [] [] false d1 w1 0 0 0 0 0 0 0 0 0 false).i_,(mkP [] [] [] [] false d1 w1 0 0 0 0 0 0 0 0 0 false).h_,(mkP [] [] [] [] false d1 w1 0 0 0 0 0 0 0 0 0 false).D_,(mkP [] [] [] [] false d1 w1 0 0 0 0 0 0 0 0 0 false).n_,(mkP [] [] [] [] false d1 w1 0 0 0 0 0 0 0 0 0 false).j_,(mkP [] [] [] [] false d1 w1 0 0 0 0 0 0 0 0 0 false).p_,(mkP [] [] [] [] false d1 w1 0 0 0 0 0 0 0 0 0 false).k_,(mkP [] [] [] [] false d1 w1 0 0 0 0 0 0 0 0 0 false).e_,(mkP [] [] [] [] false d1 w1 0 0 0 0 0 0 0 0 0 false).g_,(mkP [] [] [] [] false d1 w1 0 0 0 0 0 0 0 0 0 false).l_,(mkP [] [] [] [] false d1 w1 0 0 0 0 0 0 0 0 0 false).m_,(mkP [] [] [] [] false d1 w1 0 0 0 0 0 0 0 0 0 false).d_,(mkP [] [] [] [] false d1 w1 0 0 0 0 0 0 0 0 0 false).G_,(mkP [] [] [] [] false d1 w1 0 0 0 0 0 0 0 0 0 false).f_,(mkP [] [] [] [] false d1 w1 0 0 0 0 0 0 0 0 0 false).y_⟩:a0y)=mkP ts [] [] [] false d1 w1 0 0 0 0 0 0 0 0 0 false:=rfl
 rw[hP1,v0A hl0 (by omega) (by omega),hF]
 rcases y0q (l:=l) (i:=i2) (pd:=d1) (pa:=w1) (w:=2) (h:=0) (m:=0) (nf:=0) (xf:=0) (g1:=0) (g2:=0) (ns:=0) (xs:=0) (ex:=0) (ep:=false) (neg:=false) (ts:=ts) (pre:=ts) (suf:=[]) (npre:=[]) (nsuf:=[]) hl (by omega) (by omega) wb1 (by omega) (fun h=>by rw[f2 h];exact n1)with⟨i3,d3,w3,e3,r3,b3,wb3,m3⟩|⟨e,q,pos,e3,r3⟩
 case inr=>rw[e3,r3];exact .inr ⟨⟨_,rfl⟩,_,rfl, .inl rfl⟩
 have m3':d3=0∨d3∈l:=by
  rcases m3 with h|h
  ·rw[h];exact m1
  ·exact .inr h
 rw[e3,r3]
 simp only[aa,br,aA,cond_false,a0g]
 -- the number
 rcases s0i (l:=l) (i:=i3) (a2:=0) (a3:=1) (a4:=2) (a5:=3) (a6:=4) (b7:=ts) (b8:=false) (c19:=d3) (c20:=w3) (pad:=d3) (pa:=w3) (pre:=ts) (suf:=[]) (npre:=[]) (nsuf:=[]) (neg:=false) hl (by omega) (by omega)with⟨i4,h,m,nf,xf,g1,g2,ns,xs,ex,ep,e4,r4,b4,bh,bm⟩|⟨e,q,pos,e4,r4⟩
 case inr=>rw[e4,r4];exact .inr ⟨⟨_,rfl⟩,_,rfl, .inl rfl⟩
 rw[e4,r4]
 simp only[aa,br,aA,cond_false,a0g]
 rw[m0O (by omega) (by omega) (by omega)]
 simp only[cond_true]
 -- the pad behind it
 rw[v0A hl0 (by omega) (by omega),hF]
 rcases p0K (l:=l) (i:=i4) (pd:=d3) (pa:=w3) (w:=3) (h:=h) (m:=m) (nf:=nf) (xf:=xf) (g1:=g1) (g2:=g2) (ns:=ns) (xs:=xs) (ex:=ex) (ep:=ep) (neg:=false) (pre:=ts) (suf:=[]) (npre:=[]) (nsuf:=[]) hl (by omega) (by omega) wb3 (by omega)with⟨i5,d5,w5,e5,r5,b5,wb5,n5,m5⟩|⟨e,q,pos,e5,r5⟩
 case inr=>rw[e5,r5];exact .inr ⟨⟨_,rfl⟩,_,rfl, .inl rfl⟩
 have m5':d5=0∨d5∈l:=by
  rcases m5 with h|h
  ·rw[h];exact m3'
  ·exact .inr h
 rw[e5,r5]
 simp only[aa,br,aA,cond_false]
 -- the suffix
 rcases k0D (l:=l) (i:=i5) (a2:=0) hl0 (by omega) (by omega)with⟨us,i6,e6,r6,b6,t6,f6⟩|⟨e,us,pos,e6,r6⟩
 case inr=>rw[e6,r6];exact .inr ⟨⟨_,rfl⟩,_,rfl, .inl rfl⟩
 rw[e6,r6]
 simp only[aa,br,aA,cond_false]
 have hP2:(⟨(mkP ts [] [] [] false d5 w5 h m nf xf g1 g2 ns xs ex ep).a_,us,(mkP ts [] [] [] false d5 w5 h m nf xf g1 g2 ns xs ex ep).i_,(mkP ts [] [] [] false d5 w5 h m nf xf g1 g2 ns xs ex ep).h_,(mkP ts [] [] [] false d5 w5 h m nf xf g1 g2 ns xs ex ep).D_,(mkP ts [] [] [] false d5 w5 h m nf xf g1 g2 ns xs ex ep).n_,(mkP ts [] [] [] false d5 w5 h m nf xf g1 g2 ns xs ex ep).j_,(mkP ts [] [] [] false d5 w5 h m nf xf g1 g2 ns xs ex ep).p_,(mkP ts [] [] [] false d5 w5 h m nf xf g1 g2 ns xs ex ep).k_,(mkP ts [] [] [] false d5 w5 h m nf xf g1 g2 ns xs ex ep).e_,(mkP ts [] [] [] false d5 w5 h m nf xf g1 g2 ns xs ex ep).g_,(mkP ts [] [] [] false d5 w5 h m nf xf g1 g2 ns xs ex ep).l_,(mkP ts [] [] [] false d5 w5 h m nf xf g1 g2 ns xs ex ep).m_,(mkP ts [] [] [] false d5 w5 h m nf xf g1 g2 ns xs ex ep).d_,(mkP ts [] [] [] false d5 w5 h m nf xf g1 g2 ns xs ex ep).G_,(mkP ts [] [] [] false d5 w5 h m nf xf g1 g2 ns xs ex ep).f_,(mkP ts [] [] [] false d5 w5 h m nf xf g1 g2 ns xs ex ep).y_⟩:a0y)=mkP ts us [] [] false d5 w5 h m nf xf g1 g2 ns xs ex ep:=rfl
 rw[hP2,z0j hl0 (by omega) (by omega),hF]
 rcases y0q (l:=l) (i:=i6) (pd:=d5) (pa:=w5) (w:=4) (h:=h) (m:=m) (nf:=nf) (xf:=xf) (g1:=g1) (g2:=g2) (ns:=ns) (xs:=xs) (ex:=ex) (ep:=ep) (neg:=false) (ts:=us) (pre:=ts) (suf:=us) (npre:=[]) (nsuf:=[]) hl (by omega) (by omega) wb5 (by omega) (fun h=>by rw[f6 h];exact n5)with⟨i7,d7,w7,e7,r7,b7,wb7,m7⟩|⟨e,q,pos,e7,r7⟩
 case inr=>rw[e7,r7];exact .inr ⟨⟨_,rfl⟩,_,rfl, .inl rfl⟩
 have m7':d7=0∨d7∈l:=by
  rcases m7 with h|h
  ·rw[h];exact m5'
  ·exact .inr h
 rw[e7,r7]
 simp only[aa,br,cond_true,a0g]
 rw[g0u (by omega),k0l hl0 (by omega) (by omega) (by omega)]
 simp only[aa]
 by_cases c:atV l i7=59
 ·have hin:=h0d c (by omega)
  rw[if_pos c,dT c,w64 (n:=i7+1) (by omega) (by omega)]
  simp only[cond_true]
  unfold b0t b0o
  -- the negative prefix
  rcases k0D (l:=l) (i:=i7+1) (a2:=0) hl0 (by omega) (by omega)with⟨vs,i8,e8,r8,b8,t8,f8⟩|⟨e,vs,pos,e8,r8⟩
  case inr=>rw[e8,r8];exact .inr ⟨⟨_,rfl⟩,_,rfl, .inl rfl⟩
  rw[e8,r8]
  simp only[aa,br,aA,cond_false]
  -- the number, again
  rcases u0K (l:=l) (s:=i3) (e:=i4) (j:=i8) (a2:=0) (a3:=1) (a4:=2) (a5:=3) (a6:=4) (us:=vs) (p:=mkP ts us [] [] false d7 w7 h m nf xf g1 g2 ns xs ex ep) hl (by omega) (by omega) (by omega) (by omega) (by omega) hpos with⟨i9,e9,r9,b9⟩|⟨e,q,pos,e9,r9⟩
  case inr=>rw[e9,r9];exact .inr ⟨⟨_,rfl⟩,_,rfl, .inl rfl⟩
  rw[e9,r9]
  simp only[aa,a0g]
  -- the negative suffix
  rcases k0D (l:=l) (i:=i9) (a2:=0) hl0 (by omega) (by omega)with⟨ws,i10,e10,r10,b10,t10,f10⟩|⟨e,ws,pos,e10,r10⟩
  case inr=>rw[e10,r10];exact .inr ⟨⟨_,rfl⟩,_,rfl, .inl rfl⟩
  rw[e10,r10]
  simp only[aa,br,a0g]
  by_cases cc:i10<l.length
  ·right
   rw[dT cc]
   exact⟨⟨_,rfl⟩,_,rfl, .inr cc⟩
  ·left
   have hq:i10=l.length:=by omega
   subst hq
   rw[dF cc]
   exact⟨mkP ts us vs ws true d7 w7 h m nf xf g1 g2 ns xs ex ep,rfl,rfl,t2,t6,t8,t10,m7',bh,bm,show 0≤w7 by omega⟩
 ·rw[if_neg c,dF c]
  simp only[cond_false,aa,a0g]
  by_cases cc:i7<l.length
  ·right
   rw[dT cc]
   exact⟨⟨_,rfl⟩,_,rfl, .inr cc⟩
  ·left
   have hq:i7=l.length:=by omega
   subst hq
   rw[dF cc]
   exact⟨mkP ts us [] [] false d7 w7 h m nf xf g1 g2 ns xs ex ep,rfl,rfl,t2,t6,⟨fun t ht=>absurd ht bM,by simp[mkP]⟩,⟨fun t ht=>absurd ht bM,by simp[mkP]⟩,m7',bh,bm,show 0≤w7 by omega⟩
end
/-! A pattern's text, by either hand. -/
theorem l0B(n:Int):Tot (d0A n) (fun m=>0≤m∧m≤121):=by
 unfold d0A t0q B0f
 refine tR ?_
 repeat' split
 all_goals omega
theorem h0Y {out:List Int} {c n:Int} (ho:out.length≤1000000):Tot (b0n out c n) (fun o=>o.length≤out.length+121):=by
 unfold b0n
 refine tB (p:=fun o=>o.length≤out.length+121) (tB (l0B n) (fun m hm=> ?_)) (fun _ h=>tR h)
 refine tL (fun s:Int×List Int=>0≤s.1∧s.1≤m∧(s.2.length:Int)=out.length+s.1) (fun s=>(m-s.1).toNat) ⟨by simp only;omega,by simp only;omega,by simp⟩ (by simp only;omega) (fun s hs=> ?_)
 refine tI (fun hq=> ?_) (fun _=>tR (by simp only;omega))
 have hq:=dTT hq
 refine tY (a0h (by simp;omega)) (tR ?_)
 have e1:IntKind.wrap .i64 (s.1+1)=s.1+1:=w64 (by omega) (by omega)
 rw[e1]
 exact⟨⟨by simp only;omega,by simp only;omega,by simp;omega⟩,by simp only;omega⟩
theorem s0y(p:a0y)(n:Int):Tot (e0g p n) (fun _=>True):=by
 unfold e0g
 refine tJ (tB (p:=fun _=>True) ?_ (fun b _=>tI (fun _=>tR trivial) (fun _=>tR (show Tot _ _ from ?_))))
 ·exact tI (fun _=>tR trivial) (fun _=>tR trivial)
 ·refine tB (p:=fun _=>True) ?_ (fun _ _=>tR trivial)
  refine tI (fun _=>tR trivial) (fun _=>tI (fun hg=> ?_) (fun _=>tR trivial))
  have hg:=dTT hg
  exact tY (by unfold nz;rw[dF (by omega)];rfl) (tR trivial)
theorem s0L(p:a0y):Tot (e0t [] p) (fun o=>o.length≤500):=by
 unfold e0t
 refine tB (l0B _) (fun a ha=>tB (l0B _) (fun b hb=> ?_))
 have e0:IntKind.wrap .i64 (a+b)=a+b:=w64 (by omega) (by omega)
 rw[e0]
 refine tB (p:=fun o=>o.length≤500) ?_ (fun _ h=>tR h)
 refine tL (fun s:Int×List Int=>0≤s.1∧s.1≤a+b∧(s.2.length:Int)≤2*s.1) (fun s=>(a+b-s.1).toNat) ⟨by simp only;omega,by simp only;omega,by simp⟩ (by simp only;omega) (fun s hs=> ?_)
 refine tI (fun hq=> ?_) (fun _=>tR (by simp only;omega))
 have hq:=dTT hq
 have e1:IntKind.wrap .i64 (s.1+1)=s.1+1:=w64 (by omega) (by omega)
 rw[e1]
 refine tB (p:=fun o=>(o.length:Int)≤s.2.length+2) ?_ (fun o ho=>tR ⟨⟨by simp only;omega,by simp only;omega,by simp only;omega⟩,by simp only;omega⟩)
 refine tB (p:=fun o=>(o.length:Int)≤s.2.length+1) ?_ (fun o ho=>tI (fun _=>tY (a0h (by simp;omega)) (tR (by simp;omega))) (fun _=>tY (a0h (by simp;omega)) (tR (by simp;omega))))
 refine tB (p:=fun _=>True) (tI (fun _=>tB (s0y _ _) (fun _ _=>tR trivial)) (fun _=>tR trivial)) (fun g _=> ?_)
 exact tI (fun _=>tY (a0h (by simp;omega)) (tR (by simp))) (fun _=>tR (by omega))
theorem s0P(p:a0y):Tot (e0Z p) (fun o=>o.length≤1500):=by
 unfold e0Z
 refine tB (p:=fun o=>o.length≤1000) ?_ (fun o ho=>tB (p:=fun o=>o.length≤1500) ?_ (fun _ h=>tR h))
 ·refine tB (p:=fun _=>True) (tI (fun _=>tR trivial) (fun _=>tR trivial)) (fun b _=>tI (fun _=> ?_) (fun _=> ?_))
  ·exact tB (h0Y (by simp)) (fun x hx=>tB (l0B _) (fun y _=>tB (h0Y (by simp at hx;omega)) (fun z hz=>tR (by simp at hx;omega))))
  ·refine tB (s0L p) (fun x hx=>tI (fun _=>tY (a0h (by simp;omega)) ?_) (fun _=>tR (by omega)))
   exact tB (h0Y (by simp;omega)) (fun y hy=>tB (l0B _) (fun _ _=>tB (h0Y (by simp at hy;omega)) (fun z hz=>tR (by simp at hy;omega))))
 ·refine tI (fun _=>tY (a0h (by simp;omega)) ?_) (fun _=>tR (by omega))
  refine tB (p:=fun x=>x.length≤o.length+2) (tI (fun _=>tY (a0h (by simp;omega)) (tR (by simp))) (fun _=>tR (by simp))) (fun x hx=> ?_)
  exact tB (h0Y (by omega)) (fun y hy=>tR (by omega))
theorem B0j {p:a0y} {out:List Int} {w:Int} (ho:out.length≤1000000):j0K out p w=some (out++n0m p w):=by
 unfold j0K n0m
 by_cases h:p.y_=w
 ·rw[dF (fun hh=>hh h),if_pos h,a0h (by simp;omega)];rfl
 ·rw[dT h,if_neg h];simp
theorem A0T(t:a0b):i0b t=some (pcL t):=by
 unfold i0b pcL e0X
 obtain⟨k,r⟩:=t
 simp only
 by_cases k0:k=0
 ·rw[dT k0,if_pos k0]
  by_cases r9:r=39
  ·rw[dT r9,if_pos r9,r9];rfl
  ·rw[dF r9,if_neg r9];rfl
 ·rw[dF k0,if_neg k0]
  by_cases k1:k=1
  ·subst k1;rfl
  ·by_cases k2:k=2
   ·subst k2;rfl
   ·by_cases k3:k=3
    ·subst k3;rfl
    ·by_cases k4:k=4
     ·subst k4;rfl
     ·rw[if_neg k1,if_neg k2,if_neg k3,if_neg k4]
      simp only[k0X]
      rw[dF (show¬(1:Int)=k by omega),dF (show¬(2:Int)=k by omega),dF (show¬(3:Int)=k by omega),dF (show¬(4:Int)=k by omega)]
      rfl
theorem t0O {out:List Int} {l:List a0b} (ho:out.length≤1000000)(hl:l.length≤300):f0Z out l=some (out++j0v l):=by
 unfold f0Z
 generalize hst:(fun(s519:Bool×Int×(List Int))=>((bif(decide (s519.2.1<(l.length:Int)))then(Option.bind (bif inR s519.2.1 l.length then(Option.bind (bif(decide (((nth l s519.2.1).x_)=0))then(some ((decide (((nth l s519.2.1).R_)=39))))else(some false)) fun(s952:Bool)=>(Option.bind (bif s952 then(bif s519.1 then(some true)else(bif(!s952)then(bif(decide (((nth l s519.2.1).x_)=0))then(Option.bind (d0i ((nth l s519.2.1).R_)) fun y1001=>(some y1001))else(some false))else(some false)))else(bif(!s952)then(bif(decide (((nth l s519.2.1).x_)=0))then(Option.bind (d0i ((nth l s519.2.1).R_)) fun y1010=>(some y1010))else(some false))else(some false))) fun(s984:Bool)=>(Option.bind (bif(s984 !=s519.1)then(bif room (s519.2.2.length+([39]:List Int).length)then(some (s984,(s519.2.2++([39]:List Int))))else none)else(some (s519.1,s519.2.2))) fun(s1017:Bool×(List Int))=>(Option.bind (i0b (nth l s519.2.1)) fun y1026=>(bif room (s1017.2.length+y1026.length)then(some (s1017.1,(s1017.2++y1026)))else none)))))else none) fun(s943:Bool×(List Int))=>(some (.inl (s943.1,(IntKind.wrap .i64 (s519.2.1+1)),s943.2))))else(some (.inr (s519.1,s519.2.2)))):Option ((Bool×Int×(List Int))⊕(Bool×(List Int)))))=step
 obtain⟨o,q1,q2⟩:=d0t (step:=step) l.length (fun i=>((m0U (l.take i)).1,(i:Int),out++(m0U (l.take i)).2)) (fun _=>True) (fun o=>o=((m0U l).1,out++(m0U l).2)) (s0:=(false,0,out)) (by simp[m0U]) trivial (fun i hi _=>by
  left
  refine⟨?_,trivial⟩
  have hln:=k0E (l:=l) i (by omega)
  rw[m0h hi]
  subst hst
  generalize m0U (l.take i)=F at hln
  obtain⟨q,u⟩:=F
  simp only at hln⊢
  rw[dT (show(i:Int)<(l.length:Int) by omega),g0Y hi,w64 (n:=(i:Int)+1) (by omega) (by omega),d0M hi,A0T]
  have hpl:=v0w l[i]
  generalize hpc:pcL l[i]=pc at hpl
  unfold A0j
  rw[hpc]
  generalize l[i]=t
  obtain⟨k,r⟩:=t
  simp only
  rw[o0T]
  have hsp:decide (r=35∨r=64∨r=44∨r=46∨r=59∨r=42∨r=37∨r=45∨r=43∨r=39∨r=69∨r=164∨(48≤r∧r≤57))=spc r:=rfl
  rw[hsp]
  simp only[cond_true,aa]
  have hB:(bif(decide (k=0))then(some ((decide (r=39))))else(some false):Option Bool)=some (decide (k=0)&&decide (r=39)):=by cases decide (k=0)<;>rfl
  rw[hB]
  simp only[aa]
  have hQ:(bif(decide (k=0)&&decide (r=39))then(bif q then(some true)else(bif(!(decide (k=0)&&decide (r=39)))then(bif(decide (k=0))then(some (spc r))else(some false))else(some false)))else(bif(!(decide (k=0)&&decide (r=39)))then(bif(decide (k=0))then(some (spc r))else(some false))else(some false)):Option Bool)=some (qN q ⟨k,r⟩):=by
   unfold qN
   simp only
   by_cases h1:k=0∧r=39
   ·rw[dT h1.1,dT h1.2,if_pos h1];cases q<;>rfl
   ·rw[show(decide (k=0)&&decide (r=39))=false by rw[←Bool.decide_and];exact dF h1,if_neg h1]
    cases decide (k=0)<;>rfl
  rw[hQ]
  simp only[aa]
  generalize qN q ⟨k,r⟩=q'
  have hC:(bif(q' !=q)then(bif room ((out++u).length+([39]:List Int).length)then(some (q',(out++u++([39]:List Int))))else none)else(some (q,out++u)):Option (Bool×List Int))=some (q',out++(u++(if(q' !=q)=true then [39]else []))):=by
   rw[a0h (by simp;omega)]
   cases q'<;>cases q<;>simp
  rw[hC]
  simp only[aa]
  have hlu:(if(q' !=q)=true then([39]:List Int)else []).length≤1:=by split<;>simp
  rw[a0h (by simp only[ag];omega)]
  simp only[cond_true,aa,aL]
  rfl) (fun _=>⟨_,by subst hst;simp only;rw[dF (by omega)];rfl,by rw[bA]⟩) (by omega)
 rw[q1,q2]
 simp only[aa]
 have hln:=k0E (l:=l) l.length (by omega)
 rw[bA]at hln
 unfold j0v
 rw[a0h (by simp;omega)]
 cases(m0U l).1
 ·simp
 ·simp
def txN(N:List Int)(p:a0y):List Int:=n0m p 1++(j0v p.a_++(n0m p 2++(N++(n0m p 3++(j0v p.b_++(n0m p 4++(if p.D_=true then 59::(j0v p.i_++(N++j0v p.h_))else [])))))))
theorem y0S {N:List Int} {p:a0y} (hN:N.length≤1500)(h1:p.a_.length≤300)(h2:p.b_.length≤300)(h3:p.i_.length≤300)(h4:p.h_.length≤300):(txN N p).length≤20000:=by
 have a1:=d0n p 1;have a2:=d0n p 2;have a3:=d0n p 3;have a4:=d0n p 4
 have d1:=d0q p.a_;have d2:=d0q p.b_;have d3:=d0q p.i_;have d4:=d0q p.h_
 unfold txN
 simp only[ag]
 have:(if p.D_=true then 59::(j0v p.i_++(N++j0v p.h_))else []).length≤5000:=by
  split
  ·simp only[aJ,ag];omega
  ·simp
 omega
theorem m0I {N:List Int} {p:a0y} (hp:e0Z p=some N)(hN:N.length≤1500)(h1:p.a_.length≤300)(h2:p.b_.length≤300)(h3:p.i_.length≤300)(h4:p.h_.length≤300):f0M p=some (txN N p):=by
 have a1:=d0n p 1;have a2:=d0n p 2;have a3:=d0n p 3;have a4:=d0n p 4
 have d1:=d0q p.a_;have d2:=d0q p.b_;have d3:=d0q p.i_;have d4:=d0q p.h_
 unfold f0M
 rw[hp]
 simp only[aa]
 rw[B0j (by simp)]
 simp only[aa]
 rw[t0O (by simp;omega) h1]
 simp only[aa]
 rw[B0j (by simp;omega)]
 simp only[aa]
 rw[a0h (by simp;omega)]
 simp only[cond_true]
 rw[B0j (by simp;omega)]
 simp only[aa]
 rw[t0O (by simp;omega) h2]
 simp only[aa]
 rw[B0j (by simp;omega)]
 simp only[aa]
 unfold txN
 cases p.D_ with
 |true=>
  simp only[cond_true]
  rw[a0h (by simp;omega)]
  simp only[cond_true]
  rw[t0O (by simp;omega) h3]
  simp only[aa]
  rw[a0h (by simp;omega)]
  simp only[cond_true]
  rw[t0O (by simp;omega) h4]
  simp[aL]
 |false=>simp[aL]
def q0r(x:Int):Int:=if e0u x then x else 65533
theorem A0L(l:List Int):(l.map q0r).all e0u=true:=by
 refine List.all_eq_true.2 (fun c hc=> ?_)
 obtain⟨x,_,rfl⟩:=aK.1 hc
 unfold q0r
 split
 ·assumption
 ·decide
theorem w0p: ∀ {l:List Int},l.all e0u=true→l.map q0r=l
 | [],_=>rfl
 |c::l,h=>by
  rw[az,ac]at h
  rw[ah,w0p h.2]
  unfold q0r
  rw[if_pos h.1]
theorem x0w(x:Int):(Utf8.encode x).data.toList=a0q (g0k (q0r x)):=by
 unfold q0r
 cases h:e0u x with
 |true=>rw[if_pos rfl,t0j h]
 |false=>
  rw[if_neg (by simp),←t0j (show e0u 65533=true by decide)]
  have hv:Utf8.valid x=false:=by
   cases hv:Utf8.valid x
   ·rfl
   ·exfalso
    unfold Utf8.valid at hv
    simp only[ba,ac,decide_eq_true_eq]at hv
    have:e0u x=true:=f0q.2 (by omega)
    rw[this]at h;cases h
  have hv2:Utf8.valid 65533=true:=by decide
  unfold Utf8.encode
  rw[hv,hv2]
  rfl
theorem q0C: ∀(l:List Int),m0H l=a0q (a0T (l.map q0r))
 | []=>rfl
 |c::l=>by
  have ih:=q0C l
  have e1:a0T ((c::l).map q0r)=g0k (q0r c)++a0T (l.map q0r):=rfl
  have e2:m0H (c::l)=(Utf8.encode c).data.toList++m0H l:=rfl
  rw[e1,e2,ih,x0w,c0R]
theorem t0u {a b c d:Int} :((t0q ((t0q ((t0q a b)) c)) d)>40)↔(a>40∨b>40∨c>40∨d>40):=by
 unfold t0q
 repeat' split
 all_goals omega
theorem o0Z {t:List UInt8} {l:List Int} {z z':Int} (hd1:c0Q (a0N t)=some (l,z,0))(hd2:a0L (a0N t)=some (l,z',0))(hpos: ∀c∈l,0≤c):
  (∃q,e0J t=some (q,0,0)∧a0m t=some (q,0,0)∧inP l q∧B0g q)∨((∃q i e,e0J t=some (q,i,e)∧e≠0)∧ ∃q i e,a0m t=some (q,i,e)∧e≠0):=by
 have hmid: ∀ {K:Int×Bool×(List a0b)×(List a0b)×(List a0b)×(List a0b)×Bool×Int×Int×Int×Int×Int×Int×Int×Int×Int×Bool×Int×Int→Option (a0y×Int×Int)} {x:Option (a0y×Int×Int×Int×Bool)} {f:a0y×Int×Int×Int×Bool→Option (Int×Bool×(List a0b)×(List a0b)×(List a0b)×(List a0b)×Bool×Int×Int×Int×Int×Int×Int×Int×Int×Int×Bool×Int×Int)},Option.bind x (fun y=>Option.bind (f y) K)=Option.bind (Option.bind x f) K:=by
  intro K x f
  cases x<;>rfl
 unfold e0J a0m
 rw[hd1,hd2]
 simp only[aa,not_true_eq_false,decide_false,cond_false]
 by_cases h120:(l.length:Int)>120
 ·rw[dT h120]
  exact .inr ⟨⟨_,_,_,rfl,by decide⟩,_,_,_,rfl,by decide⟩
 ·rw[dF h120]
  simp only[cond_false]
  rw[hmid]
  have hrm:(Option.bind (b0m l) fun y10=>(Option.bind (bif y10.2.2.2.2 then(Option.bind (a0l l y10.2.2.2.1) fun y55=>(some (decide (y55=59))))else(some false)) fun(s47:Bool)=>(bif s47 then(Option.bind (b0o y10.1 l (IntKind.wrap .i64 (y10.2.2.2.1+1)) y10.2.1 y10.2.2.1) fun y61=>(some (y61.2.1,y61.2.2,y61.1.a_,y61.1.b_,y61.1.i_,y61.1.h_,y61.1.D_,y61.1.n_,y61.1.j_,y61.1.p_,y61.1.k_,y61.1.e_,y61.1.g_,y61.1.l_,y61.1.m_,y61.1.d_,y61.1.G_,y61.1.f_,y61.1.y_)))else(some (y10.2.2.2.1,y10.2.2.2.2,y10.1.a_,y10.1.b_,y10.1.i_,y10.1.h_,y10.1.D_,y10.1.n_,y10.1.j_,y10.1.p_,y10.1.k_,y10.1.e_,y10.1.g_,y10.1.l_,y10.1.m_,y10.1.d_,y10.1.G_,y10.1.f_,y10.1.y_)))))=B0e l:=rfl
  rw[hrm]
  unfold n0l e0X
  simp only[aa]
  rcases q0O (l:=l) (by omega) hpos with⟨q,e1,e2,e3⟩|⟨⟨e,e1⟩,s,e2,e3⟩
  ·rw[e1,e2]
   have hk:g0z l (l.length:Int) 0 1 2 3 4 q.a_ q.b_ q.i_ q.h_ q.D_ q.n_ q.j_ q.p_ q.k_ q.e_ q.g_ q.l_ q.m_ q.d_ q.G_ q.f_ q.y_ 0 true=some ():=rfl
   simp only[aa,br]
   rw[hk]
   simp only[aa,aA,cond_false]
   unfold B0D
   simp only[aA,cond_false,aa]
   rw[dF (show¬(l.length:Int)<(l.length:Int) by omega)]
   simp only[cond_false,aa,a0g]
   have hh:=e3.2.2.2.2.2.1
   have hm:=e3.2.2.2.2.2.2
   by_cases hl:IntKind.wrap .i64 (q.n_+q.j_)>40∨q.k_>40∨q.m_>40∨q.d_>40
   ·right
    rw[dT (t0u.2 hl)]
    have hb:(bif(decide ((IntKind.wrap .i64 (q.n_+q.j_))>40))then(some true)else(bif(decide (q.k_>40))then(some true)else(bif(decide (q.m_>40))then(some true)else(some (decide (q.d_>40))))))=some true:=by
     by_cases c1:IntKind.wrap .i64 (q.n_+q.j_)>40
     ·rw[dT c1];rfl
     ·rw[dF c1]
      by_cases c2:q.k_>40
      ·rw[dT c2];rfl
      ·rw[dF c2]
       by_cases c3:q.m_>40
       ·rw[dT c3];rfl
       ·rw[dF c3,dT (show q.d_>40 by omega)];rfl
    rw[hb]
    exact⟨⟨_,_,_,rfl,by decide⟩,_,_,_,rfl,by decide⟩
   ·left
    rw[dF (fun h=>hl (t0u.1 h)),dF (show¬IntKind.wrap .i64 (q.n_+q.j_)>40 by omega),dF (show¬q.k_>40 by omega),dF (show¬q.m_>40 by omega),dF (show¬q.d_>40 by omega)]
    refine⟨q,rfl,rfl,e3, ?_⟩
    rw[w64 (n:=q.n_+q.j_) (by omega) (by omega)]at hl
    exact⟨by omega,by omega,by omega,by omega⟩
  ·right
   rw[e1,e2]
   refine⟨⟨_,_,_,rfl,by decide⟩, ?_⟩
   simp only[aa]
   have hb:(bif(!s.2.1)then(some true)else(some ((decide (s.1<(l.length:Int))))))=some true:=by
    cases h:s.2.1 with
    |false=>rfl
    |true=>
     rcases e3 with e3|e3
     ·rw[h]at e3;cases e3
     ·rw[dT e3];rfl
   rw[hb]
   exact⟨_,_,_,rfl,by decide⟩
theorem n0o {S S' O O':Type} {f:S→Option (S⊕O)} {g:S'→Option (S'⊕O')} (G:O→Prop)(R:S→S'→Prop)(Ro:O→O'→Prop)(hn: ∀s s' t,R s s'→f s=some (.inl t)→ ∃t',g s'=some (.inl t')∧R t t')(ho: ∀s s' o,R s s'→f s=some (.inr o)→G o→ ∃o',g s'=some (.inr o')∧Ro o o'): ∀(n:Nat) (s:S) (s':S') (o:O),R s s'→a0s f n s=some o→G o→Tot (a0s g n s') (Ro o)
 |0,_,_,_,_,h,_=>by cases h
 |n+1,s,s',o,hR,h,hG=>by
  simp only[a0s]at h⊢
  cases hf:f s with
  |none=>rw[hf]at h;cases h
  |some q=>
   rw[hf]at h
   cases q with
   |inl t=>
    obtain⟨t',e,hR'⟩:=hn s s' t hR hf
    rw[e];exact n0o G R Ro hn ho n t t' o hR' h hG
   |inr x=>
    obtain rfl:=aZ h
    obtain⟨o',e,h'⟩:=ho s s' _ hR hf hG
    rw[e];exact⟨o',rfl,h'⟩
def nol:List Int:=[48,1632,1776,1984,2406,2534,2662,2790,2918,3046,3174,3302,3430,3664,3792,3872,6112,6160,65296,120782]
def j0V(r z:Int):Bool:=decide (z≤r)&&decide (r≤z+9)
def dig(r:Int):Int×Bool:=match nol.find? (j0V r)with
 |some z=>(r-z,true)
 |none=>(0,false)
theorem l0N {z:Int} (h:z∈nol):48≤z∧z≤120782:=by
 have:nol.all (fun z=>decide (48≤z)&&decide (z≤120782))=true:=by decide+kernel
 have h2:=List.all_eq_true.1 this z h
 simpa using h2
theorem j0X {p:Int→Bool} {l:List Int} (h:l.all (fun z=> !p z)=true):l.find? p=none:=by
 rw[List.find?_eq_none]
 intro x hx
 have:=List.all_eq_true.1 h x hx
 simpa using this
theorem t0C {p:Int→Bool} {pre suf:List Int} {x:Int} (h:pre.all (fun z=> !p z)=true)(hx:p x=true):(pre++x::suf).find? p=some x:=by
 rw[List.find?_append,j0X h]
 simp[hx]
theorem s0W {r:Int} (h1: -2147483648≤r)(h2:r<2147483648):e0q r=some (dig r):=by
 unfold e0q
 refine f0T (fun o=>o=(match nol.find? (j0V r)with|some z=> .inr (r-z,true)|none=> .inl ())) (g0B nol (fun pre=>(pre.length:Int)) (fun pre=>pre.all (fun z=> !j0V r z)=true) _ rfl rfl (fun pre x suf h hi=> ?_) (fun hi=> ?_) (by decide)) ?_
 ·have hx:=l0N (show x∈nol by rw[h];simp)
  have hlen:pre.length<20:=by have:=congrArg List.length h;simp[nol]at this;omega
  rw[show k0_=pre++x::suf from h,dT (show(pre.length:Int)<20 by omega),g0Y (by omega),e0S,w32 (n:=x+9) (by omega) (by omega),w64 (n:=(pre.length:Int)+1) (by omega) (by omega)]
  cases hd:j0V r x with
  |true=>
   right
   unfold j0V at hd
   simp only[ac,decide_eq_true_eq]at hd
   rw[dT hd.1,dT hd.2,w32 (n:=r-x) (by omega) (by omega),w64 (n:=r-x) (by omega) (by omega)]
   refine⟨_,rfl, ?_⟩
   rw[h,t0C hi (by unfold j0V;rw[dT hd.1,dT hd.2];rfl)]
  |false=>
   left
   refine⟨?_,by rw[aN,hi];simp[hd]⟩
   have hl:((pre++ [x]).length:Int)=(pre.length:Int)+1:=by simp
   unfold j0V at hd
   by_cases hxr:x≤r
   ·rw[dT hxr]at hd⊢
    simp only[bI]at hd
    simp only[cond_true,hd,aa,cond_false,a0g,hl]
   ·rw[dF hxr]
    simp only[cond_false,cond_true,aa,a0g,hl]
 ·refine⟨.inl (), ?_,by rw[j0X hi]⟩
  rw[dF (show¬((nol.length:Int)<20) by decide)];rfl
 ·rintro o rfl
  unfold dig
  cases nol.find? (j0V r)<;>rfl
theorem t0I {r:Int} (h:(dig r).2=true): ∃z∈nol,0≤(dig r).1∧(dig r).1≤9∧r=z+(dig r).1:=by
 unfold dig at h⊢
 cases hf:nol.find? (j0V r)with
 |none=>rw[hf]at h;cases h
 |some z=>
  have hz:=List.find?_some hf
  unfold j0V at hz
  simp only[ac,decide_eq_true_eq]at hz
  exact⟨z,List.mem_of_find?_eq_some hf,by show 0≤r-z;omega,by show r-z≤9;omega,by show r=z+(r-z);omega⟩
theorem y0H {z:Int} (hz:z∈nol) {k:Nat} (hk:k<10):dig (z+(k:Int))=((k:Int),true):=by
 have:nol.all (fun z=>(List.range 10).all fun k=>decide (dig (z+(k:Int))=((k:Int),true)))=true:=by decide+kernel
 have h2:=List.all_eq_true.1 (List.all_eq_true.1 this z hz) k (bf.2 hk)
 simpa using h2
theorem u0D {r:Int} (h:(dig r).2=true)(h0:(dig r).1=0):r∈nol:=by
 obtain⟨z,hz,_,_,he⟩:=t0I h
 rw[h0]at he
 rw[he];simpa using hz
def isZ(r:Int):Bool:=(dig r).2&&decide ((dig r).1=0)
theorem o0l {r:Int} :isZ r=true↔r∈nol:=by
 unfold isZ
 simp only[ac,decide_eq_true_eq]
 constructor
 ·rintro⟨h1,h2⟩;exact u0D h1 h2
 ·intro h
  have:=y0H h (k:=0) (by omega)
  simp at this
  rw[this];exact⟨rfl,rfl⟩
theorem v0l {r:Int} (h1: -2147483648≤r)(h2:r<2147483648):c0Y r=some (dig r):=by
 unfold c0Y b0X
 rw[w64 (n:=r) (by omega) (by omega)]
 simp only[aa]
 refine f0T (fun o=>o=(match nol.find? (j0V r)with|some z=> .inr (r-z,true)|none=> .inl ())) (g0B nol (fun pre=>(pre.length:Int)) (fun pre=>pre.all (fun z=> !j0V r z)=true) _ rfl rfl (fun pre x suf h hi=> ?_) (fun hi=> ?_) (by decide)) ?_
 ·have hx:=l0N (show x∈nol by rw[h];simp)
  have hlen:pre.length<20:=by have:=congrArg List.length h;simp[nol]at this;omega
  have hn:([48,1632,1776,1984,2406,2534,2662,2790,2918,3046,3174,3302,3430,3664,3792,3872,6112,6160,65296,120782]:List Int)=pre++x::suf:=h
  have hcount: ∃o,a0s (fun(s601:Int)=>(bif(decide (s601<10))then(bif inR (pre.length:Int) (pre++x::suf).length then(bif(decide (((IntKind.wrap .i64 ((IntKind.wrap .i64 (nth (pre++x::suf) (pre.length:Int)))+s601)))=r))then(some (.inr (.inr (.inr (.inr (s601,true))))))else(some (.inl (IntKind.wrap .i64 (s601+1)))))else none)else(some (.inr (.inl ()))))) big 0=some o∧
    o=(if j0V r x=true then(.inr (.inr (.inr (r-x,true))):Unit⊕(Int⊕(Unit⊕(Int×Bool))))else .inl ()):=by
   refine d0t 10 (fun i=>(i:Int)) (fun i=> ∀j:Nat,j<i→ ¬x+(j:Int)=r) _ rfl (fun j hj=>by omega) (fun i hi hno=> ?_) (fun hno=> ?_) (by omega)
   ·rw[dT (show(i:Int)<10 by omega),g0Y (by simp),e0S,w64 (n:=x) (by omega) (by omega),w64 (n:=x+(i:Int)) (by omega) (by omega),w64 (n:=(i:Int)+1) (by omega) (by omega)]
    by_cases he:x+(i:Int)=r
    ·right
     rw[dT he]
     refine⟨_,rfl, ?_⟩
     rw[if_pos (by unfold j0V;rw[dT (by omega),dT (by omega)];rfl)]
     have:(i:Int)=r-x:=by omega
     rw[this]
    ·left
     rw[dF he]
     refine⟨by simp,fun j hj=> ?_⟩
     by_cases hji:j=i
     ·subst hji;exact he
     ·exact hno j (by omega)
   ·refine⟨.inl (),by rw[dF (show¬((10:Nat):Int)<10 by decide)];rfl, ?_⟩
    rw[if_neg]
    intro hd
    unfold j0V at hd
    simp only[ac,decide_eq_true_eq]at hd
    exact hno (r-x).toNat (by omega) (by omega)
  obtain⟨o,ho1,ho2⟩:=hcount
  rw[hn,h0p]
  simp only[cond_true]
  rw[ho1]
  simp only[aa]
  cases hd:j0V r x with
  |true=>
   right
   rw[hd,if_pos rfl]at ho2
   subst ho2
   refine⟨_,rfl, ?_⟩
   rw[h,t0C hi hd]
  |false=>
   left
   rw[hd,if_neg (by simp)]at ho2
   subst ho2
   refine⟨?_,by rw[aN,hi];simp[hd]⟩
   simp only[a0g]
   rw[w64 (n:=(pre.length:Int)+1) (by omega) (by omega)]
   simp
 ·refine⟨.inl (), ?_,by rw[j0X hi]⟩
  rw[show([48,1632,1776,1984,2406,2534,2662,2790,2918,3046,3174,3302,3430,3664,3792,3872,6112,6160,65296,120782]:List Int)=nol from rfl,g0m];rfl
 ·rintro o rfl
  unfold dig
  cases nol.find? (j0V r)<;>rfl
theorem x0u {r:Int} :d0v r=some (isZ r):=by
 unfold d0v b0X
 simp only[aa]
 refine f0T (fun o=>o=(if r∈nol then .inr true else .inl ())) (g0B nol (fun pre=>(pre.length:Int)) (fun pre=> ¬r∈pre) _ rfl (by simp) (fun pre x suf h hi=> ?_) (fun hi=> ?_) (by decide)) ?_
 ·have hlen:pre.length<20:=by have:=congrArg List.length h;simp[nol]at this;omega
  rw[show([48,1632,1776,1984,2406,2534,2662,2790,2918,3046,3174,3302,3430,3664,3792,3872,6112,6160,65296,120782]:List Int)=pre++x::suf from h,h0p,f0P,e0S,w64 (n:=(pre.length:Int)+1) (by omega) (by omega)]
  by_cases he:x=r
  ·right
   rw[dT he]
   refine⟨_,rfl, ?_⟩
   rw[if_pos (by rw[h];simp[he])]
  ·left
   rw[dF he]
   exact⟨by simp,by simp[hi,Ne.symm he]⟩
 ·refine⟨.inl (), ?_,by rw[if_neg hi]⟩
  rw[show([48,1632,1776,1984,2406,2534,2662,2790,2918,3046,3174,3302,3430,3664,3792,3872,6112,6160,65296,120782]:List Int)=nol from rfl,g0m];rfl
 ·rintro o rfl
  by_cases hm:r∈nol
  ·rw[if_pos hm,o0l.2 hm];rfl
  ·rw[if_neg hm]
   have:isZ r=false:=by cases hz:isZ r with
    |false=>rfl
    |true=>exact absurd (o0l.1 hz) hm
   rw[this];rfl
def isR(r:Int):Bool:=decide (0≤r)&&(decide (r≤1114111)&&(decide (r<55296)||decide (57343<r)))
theorem A0V {r:Int} :l0x r=some (isR r):=by
 unfold l0x isR
 by_cases h1:0≤r
 ·rw[dT (show r≥0 from h1)]
  by_cases h2:r≤1114111
  ·rw[dT h2]
   by_cases h3:r<55296
   ·rw[dT h3];rfl
   ·rw[dF h3]
    by_cases h4:r>57343
    ·rw[dT h4];rfl
    ·rw[dF h4];rfl
  ·rw[dF h2];rfl
 ·rw[dF (show¬r≥0 from h1)];rfl
def cls(r:Int):Int:=if isR r=true then(if bits .and .i32 r 65534=65534 then 3 else if l0F.any (s0x r)=true then tab r else if(dig r).2=true then 5 else 0)else 6
theorem t0c {r:Int} (h1: -2147483648≤r)(h2:r<2147483648) {ms:List (a0n×Int)} (hp:List.Perm ms l0F):a0x r ms=some (cls r,ms):=by
 rw[n0C hp,A0V,aa,s0W h1 h2]
 unfold cls
 cases isR r with
 |false=>rfl
 |true=>
  simp only[aA,cond_false,if_true]
  by_cases c:bits .and .i32 r 65534=65534
  ·rw[dT c,if_pos c];rfl
  ·rw[dF c,if_neg c]
   cases l0F.any (s0x r)with
   |true=>rfl
   |false=>cases h:(dig r).2<;>simp[h]
theorem w0S(n:Nat):(n&&&65534=65534)↔65534≤n%65536:=by
 have h1:n&&&65534=(n%65536)&&&65534:=by
  apply Nat.eq_of_testBit_eq
  intro i
  rw[Nat.testBit_and,Nat.testBit_and,show(65536:Nat)=2^16 by decide,Nat.testBit_mod_two_pow]
  by_cases hi:i<16
  ·simp[hi]
  ·have:(65534:Nat).testBit i=false:=Nat.testBit_lt_two_pow (aT (show(65534:Nat)<2^16 by decide) (Nat.pow_le_pow_right (by omega) (by omega)))
   simp[this]
 rw[h1]
 have h2:n%65536<65536:=Nat.mod_lt _ (by omega)
 generalize n%65536=m at h2
 constructor
 ·intro h
  rcases bK m 65534 with hm|hm
  ·have:=Nat.and_le_left (n:=m) (m:=65534)
   omega
  ·exact hm
 ·intro h
  obtain rfl|rfl:m=65534∨m=65535:=by omega
  ·decide
  ·decide
theorem z0Y {r:Int} (h1:0≤r)(h2:r<2147483648):bits .and .i32 r 65534=((r.toNat&&&65534:Nat):Int):=by
 obtain⟨n,rfl⟩:=bB h1
 have hn:n<2147483648:=by omega
 have hle:n&&&65534≤65534:=Nat.and_le_right
 have ho: ∀a:Nat,a<4294967296→(BitVec.ofInt 32 (a:Int)).toNat=a:=fun a ha=>by
  rw[BitVec.ofInt_natCast,BitVec.toNat_ofNat];exact Nat.mod_eq_of_lt (by omega)
 show IntKind.i32.wrap ((BitVec.ofInt 32 (n:Int)&&&BitVec.ofInt 32 ((65534:Nat):Int)).toNat:Int)=_
 rw[BitVec.toNat_and,ho n (by omega),ho 65534 (by omega),w32 (by omega) (by omega)]
 simp
def u0M(r:Int):Bool:=decide (r<32)||decide (127≤r)&&decide (r≤159)
def g0f(r:Int):Bool:=decide (r=1564)||(decide (r=8206)||(decide (r=8207)||(decide (8234≤r)&&decide (r≤8238)||decide (8294≤r)&&decide (r≤8297))))
def q0W(r:Int):Bool:=decide (64976≤r)&&decide (r≤65007)||decide (65534≤r%65536)
def o0O(r:Int):Bool:=decide (r=32)||(decide (r=160)||(decide (r=5760)||(decide (8192≤r)&&decide (r≤8202)||(decide (r=8232)||(decide (r=8233)||(decide (r=8239)||(decide (r=8287)||decide (r=12288))))))))
def j0j(r:Int):Int:=bif isR r then(bif u0M r then 1 else bif g0f r then 2 else bif q0W r then 3 else bif o0O r then 4 else bif(dig r).2 then 5 else 0)else 6
theorem y0L {r:Int} (h1: -2147483648≤r)(h2:r<2147483648):cls r=j0j r:=by
 unfold cls j0j
 cases hr:isR r with
 |false=>rfl
 |true=>
  simp only[if_true,cond_true]
  unfold isR at hr
  simp only[ac,ba,decide_eq_true_eq]at hr
  obtain⟨r0,r1,r2⟩:=hr
  have hb:(bits .and .i32 r 65534=65534)↔65534≤r%65536:=by
   rw[z0Y r0 h2]
   have:=w0S r.toNat
   omega
  by_cases hp:65534≤r%65536
  ·rw[if_pos (hb.2 hp)]
   have c1:u0M r=false:=by unfold u0M;rw[dF (by omega),dF (show¬r≤159 by omega)];simp
   have c2:g0f r=false:=by
    unfold g0f
    rw[dF (show¬r=1564 by omega),dF (show¬r=8206 by omega),dF (show¬r=8207 by omega),dF (show¬r≤8238 by omega),dF (show¬r≤8297 by omega)];simp
   have c3:q0W r=true:=by unfold q0W;rw[dT hp];simp
   rw[c1,c2,c3];rfl
  ·rw[if_neg (fun h=>hp (hb.1 h))]
   have hn:q0W r=(decide (64976≤r)&&decide (r≤65007)):=by unfold q0W;rw[dF hp];simp
   rw[hn]
   generalize(dig r).2=dg
   simp only[tab,l0F,List.any_cons,List.any_nil,List.find?_cons,List.find?_nil,s0x,Bool.or_false]
   by_cases a1:r≤31
   ·rw[dT (show(0:Int)≤r from r0),dT a1,show u0M r=true by unfold u0M;rw[dT (show r<32 by omega)];rfl];rfl
   rw[dF a1]
   by_cases a2:127≤r∧r≤159
   ·rw[dT a2.1,dT a2.2,show u0M r=true by unfold u0M;rw[dT a2.1,dT a2.2];simp];simp
   rw[show u0M r=false by unfold u0M;rw[dF (show¬r<32 by omega)];simp;omega,show(decide (127≤r)&&decide (r≤159))=false by simp;omega]
   by_cases t1:g0f r=true
   ·rw[t1]
    unfold g0f at t1
    simp only[ba,ac,decide_eq_true_eq]at t1
    rcases t1 with h|h|h|⟨h,h'⟩|⟨h,h'⟩
    ·subst h;simp
    ·subst h;simp
    ·subst h;simp
    ·rw[dF (show¬r≤1564 by omega),dF (show¬r≤8207 by omega),dT h,dT h'];simp
    ·rw[dF (show¬r≤1564 by omega),dF (show¬r≤8207 by omega),dF (show¬r≤8238 by omega),dT h,dT h'];simp
   have t1':g0f r=false:=by simpa using t1
   rw[t1']
   have u1:(decide (1564≤r)&&decide (r≤1564))=false∧(decide (8206≤r)&&decide (r≤8207))=false∧(decide (8234≤r)&&decide (r≤8238))=false∧(decide (8294≤r)&&decide (r≤8297))=false:=by
    unfold g0f at t1'
    simp only[Bool.or_eq_false_iff,Bool.and_eq_false_iff,decide_eq_false_iff_not]at t1'⊢
    omega
   rw[u1.1,u1.2.1,u1.2.2.1,u1.2.2.2]
   by_cases n1:64976≤r∧r≤65007
   ·rw[dT n1.1,dT n1.2];simp
   rw[show(decide (64976≤r)&&decide (r≤65007))=false by simp;omega]
   by_cases b1:o0O r=true
   ·rw[b1]
    unfold o0O at b1
    simp only[ba,ac,decide_eq_true_eq]at b1
    rcases b1 with h|h|h|⟨h,h'⟩|h|h|h|h|h
    ·subst h;simp
    ·subst h;simp
    ·subst h;simp
    ·rw[dF (show¬r≤32 by omega),dF (show¬r≤160 by omega),dF (show¬r≤5760 by omega),dT h,dT h'];simp
    ·subst h;simp
    ·subst h;simp
    ·subst h;simp
    ·subst h;simp
    ·subst h;simp
   have b1':o0O r=false:=by simpa using b1
   rw[b1']
   have u2:(decide (32≤r)&&decide (r≤32))=false∧(decide (160≤r)&&decide (r≤160))=false∧(decide (5760≤r)&&decide (r≤5760))=false∧(decide (8192≤r)&&decide (r≤8202))=false∧(decide (8232≤r)&&decide (r≤8233))=false∧(decide (8239≤r)&&decide (r≤8239))=false∧(decide (8287≤r)&&decide (r≤8287))=false∧(decide (12288≤r)&&decide (r≤12288))=false:=by
    unfold o0O at b1'
    simp only[Bool.or_eq_false_iff,Bool.and_eq_false_iff,decide_eq_false_iff_not]at b1'⊢
    omega
   rw[u2.1,u2.2.1,u2.2.2.1,u2.2.2.2.1,u2.2.2.2.2.1,u2.2.2.2.2.2.1,u2.2.2.2.2.2.2.1,u2.2.2.2.2.2.2.2]
   cases dg<;>simp
theorem A0o {r:Int} (h1: -2147483648≤r)(h2:r<2147483648):a0B r=some (isR r):=by
 unfold a0B isR
 rw[w64 (n:=r) (by omega) (by omega)]
 by_cases a:0≤r
 ·rw[dT (show r≥0 from a)]
  by_cases b:r<55296
  ·rw[dT b,dT (show r≤1114111 by omega)];rfl
  ·rw[dF b]
   by_cases c:r>57343
   ·rw[dT c]
    cases decide (r≤1114111)<;>rfl
   ·rw[dF c]
    cases decide (r≤1114111)<;>rfl
 ·rw[dF (show¬r≥0 from a),dF (show¬r>57343 by omega)];rfl
theorem t0W {r:Int} :c0y r=some (g0f r):=by
 unfold c0y g0f
 simp only[ge_iff_le]
 cases decide (r=1564)<;>cases decide (r=8206)<;>cases decide (r=8207)<;>cases decide (8234≤r)<;>cases decide (r≤8238)<;>cases decide (8294≤r)<;>rfl
theorem y0b {r:Int} :c0X r=some (o0O r):=by
 unfold c0X o0O
 simp only[ge_iff_le]
 cases decide (r=32)<;>cases decide (r=160)<;>cases decide (r=5760)<;>cases decide (8192≤r)<;>cases decide (r≤8202)<;>cases decide (r=8232)<;>cases decide (r=8233)<;>cases decide (r=8239)<;>cases decide (r=8287)<;>rfl
theorem t0m {r:Int} (h1: -2147483648≤r)(h2:r<2147483648):c0s r=some (j0j r):=by
 unfold c0s j0j
 rw[w64 (n:=r) (by omega) (by omega),A0o h1 h2,t0W,y0b,v0l h1 h2]
 simp only[aa]
 cases hr:isR r with
 |false=>rfl
 |true=>
  have r0:0≤r:=by unfold isR at hr;simp only[ac,decide_eq_true_eq]at hr;exact hr.1
  have hm:Int.tmod r 65536=r%65536:=bq r0
  rw[hm]
  unfold u0M q0W
  simp only[ge_iff_le]
  cases decide (r<32)<;>cases decide (127≤r)<;>cases decide (r≤159)<;>cases g0f r<;>cases decide (64976≤r)<;>cases decide (r≤65007)<;>cases decide (65534≤r%65536)<;>cases o0O r<;>cases(dig r).2<;>rfl
def q0q(l:List Int):Prop:= ∀r∈l,-2147483648≤r∧r<2147483648
theorem z0e(r:Int):0≤j0j r∧j0j r≤6:=by
 unfold j0j
 cases isR r<;>cases u0M r<;>cases g0f r<;>cases q0W r<;>cases o0O r<;>cases(dig r).2<;>decide
def okC(c:Int):Bool:=decide (c=0)||(decide (c=4)||(decide (c=5)||decide (c=2)))
def z0U(l:List Int):Bool:=l.all fun r=>okC (j0j r)
theorem z0T {l:List Int} (hl:l.length≤4294967296)(hp:q0q l):i0n l=some (z0U l):=by
 unfold i0n c0I
 simp only[aa]
 have hm:List.Perm l0F l0F:=List.Perm.refl _
 show Option.bind (a0s _ big (0,l0F)) _=_
 refine f0T (fun o=>o=if l.all (fun r=>okC (j0j r))=true then .inl ()else .inr false) ⟨_,i0E (fun r=>okC (j0j r)) l (fun pre=>((pre.length:Int),l0F)) (.inl ()) (.inr false) rfl (fun pre r suf h=> ?_) ?_ (by omega),rfl⟩ ?_
 ·have hr:=hp r (by rw[h];simp)
  have hl':(pre++r::suf).length≤4611686018427387904:=by rw[←h];omega
  simp only[]
  rw[h,h0p,f0P,e0S,t0c hr.1 hr.2 hm,y0L hr.1 hr.2]
  simp only[cond_true,aa]
  rw[m0X hl']
  unfold okC
  cases decide (j0j r=0)<;>cases decide (j0j r=4)<;>cases decide (j0j r=5)<;>cases decide (j0j r=2)<;>simp[a0g]
 ·simp only[]
  rw[g0m];rfl
 ·rintro o rfl
  show _=some (l.all _)
  cases l.all (fun r=>okC (j0j r))<;>rfl
theorem x0D {l:List Int} (hl:l.length≤4294967296)(hp:q0q l):d0w l=some (z0U l):=by
 unfold d0w
 refine f0T (fun o=>o=if l.all (fun r=>okC (j0j r))=true then .inl ()else .inr false) ⟨_,i0E (fun r=>okC (j0j r)) l (fun pre=>(pre.length:Int)) (.inl ()) (.inr false) rfl (fun pre r suf h=> ?_) ?_ (by omega),rfl⟩ ?_
 ·have hr:=hp r (by rw[h];simp)
  have hl':(pre++r::suf).length≤4611686018427387904:=by rw[←h];omega
  rw[h,h0p,f0P,e0S,t0m hr.1 hr.2]
  simp only[cond_true,aa]
  rw[m0X hl']
  obtain⟨c0,c1⟩:=z0e r
  unfold okC
  generalize j0j r=c at c0 c1
  obtain rfl|rfl|rfl|rfl|rfl|rfl|rfl:c=0∨c=1∨c=2∨c=3∨c=4∨c=5∨c=6:=by omega
  all_goals simp[a0g]
 ·rw[g0m];rfl
 ·rintro o rfl
  show _=some (l.all _)
  cases l.all (fun r=>okC (j0j r))<;>rfl
def h0y:Int→List Int→Bool
 |o,[]=>decide (o=0)
 |o,r::l=>if 8234≤r∧r≤8238 then false else if 8294≤r∧r≤8296 then h0y (o+1) l else if r=8297 then(if o=0 then false else h0y (o-1) l)else h0y o l
def opn(l:List Int):Int:=l.foldl (fun o r=>if 8294≤r∧r≤8296 then o+1 else if r=8297 then o-1 else o) 0
theorem n0n(l:List Int)(r:Int):opn (l++ [r])=if 8294≤r∧r≤8296 then opn l+1 else if r=8297 then opn l-1 else opn l:=by
 simp[opn,List.foldl_append]
def TI(l pre:List Int):Prop:=(∀suf,l=pre++suf→h0y 0 l=h0y (opn pre) suf)∧0≤opn pre∧opn pre≤pre.length
theorem x0h {l:List Int} (hl:l.length≤4294967296):h0a l=some (h0y 0 l):=by
 unfold h0a
 refine f0T (fun o=>(o= .inr false∧h0y 0 l=false)∨ ∃q,o= .inl q∧h0y 0 l=decide (q=0)) (g0B l (fun pre=>(opn pre,(pre.length:Int))) (TI l) _ rfl ⟨fun suf h=>by rw[h];rfl,aB _,aB _⟩ (fun pre r suf h hi=> ?_) (fun hi=> ?_) (by omega)) ?_
 ·obtain⟨i1,i2,i3⟩:=hi
  have hl':(pre++r::suf).length≤4611686018427387904:=by rw[←h];omega
  have hpl:pre.length<l.length:=by rw[h];simp
  have e:=i1 (r::suf) h
  simp only[h0y]at e
  have hsnoc:(((pre++ [r]).length:Nat):Int)=(pre.length:Int)+1:=by simp
  have nxt: ∀q,h0y 0 l=h0y q suf→opn (pre++ [r])=q→0≤q→q≤(pre.length:Int)+1→TI (pre++r::suf) (pre++ [r]):=fun q h1 h2 h3 h4=>by
   rw[←h]
   exact⟨fun s hs=>by
   rw[h2]
   have:suf=s:=by
    have h5:=h.symm.trans hs
    simpa using h5
   rw[←this];exact h1,by rw[h2];exact h3,by rw[h2,hsnoc];exact h4⟩
  simp only[]
  rw[h,h0p,f0P,e0S,m0X hl']
  by_cases a:8234≤r∧r≤8238
  ·right
   rw[if_pos a]at e
   rw[dT a.1,dT a.2]
   exact⟨_,rfl, .inl ⟨rfl,by rw[←h];exact e⟩⟩
  ·rw[if_neg a]at e
   have a':(bif decide (8234≤r)then some (decide (r≤8238))else some false)=some false:=by
    by_cases q:8234≤r
    ·rw[dT q,dF (fun z=>a ⟨q,z⟩)];rfl
    ·rw[dF q];rfl
   rw[a']
   by_cases b:8294≤r∧r≤8296
   ·left
    rw[if_pos b]at e
    have hs:=n0n pre r
    rw[if_pos b]at hs
    rw[dT b.1,dT b.2,w64 (n:=opn pre+1) (by omega) (by omega),hs]
    exact⟨rfl,nxt _ e hs (by omega) (by omega)⟩
   ·rw[if_neg b]at e
    have b':(bif decide (8294≤r)then some (decide (r≤8296))else some false)=some false:=by
     by_cases q:8294≤r
     ·rw[dT q,dF (fun z=>b ⟨q,z⟩)];rfl
     ·rw[dF q];rfl
    rw[b']
    have hs:=n0n pre r
    rw[if_neg b]at hs
    by_cases c:r=8297
    ·rw[if_pos c]at e hs
     rw[dT c]
     by_cases d:opn pre=0
     ·right
      rw[if_pos d]at e
      rw[dT d]
      exact⟨_,rfl, .inl ⟨rfl,by rw[←h];exact e⟩⟩
     ·left
      rw[if_neg d]at e
      rw[dF d,w64 (n:=opn pre-1) (by omega) (by omega),hs]
      exact⟨rfl,nxt _ e hs (by omega) (by omega)⟩
    ·left
     rw[if_neg c]at e hs
     rw[dF c,hs]
     exact⟨rfl,nxt _ e hs (by omega) (by omega)⟩
 ·refine⟨.inl (opn l),by simp only[];rw[g0m];rfl, .inr ⟨_,rfl, ?_⟩⟩
  rw[hi.1 [] (by simp)];rfl
 ·rintro o (⟨rfl,h⟩|⟨q,rfl,h⟩)
  ·rw[h];rfl
  ·rw[h];rfl
theorem v0n {l:List Int} (hl:l.length≤4294967296)(hp:q0q l):c0Z l=some (h0y 0 l):=by
 unfold c0Z
 refine f0T (fun o=>(o= .inr false∧h0y 0 l=false)∨ ∃q,o= .inl q∧h0y 0 l=decide (q=0)) (g0B l (fun pre=>(opn pre,(pre.length:Int))) (TI l) _ rfl ⟨fun suf h=>by rw[h];rfl,aB _,aB _⟩ (fun pre r suf h hi=> ?_) (fun hi=> ?_) (by omega)) ?_
 ·obtain⟨i1,i2,i3⟩:=hi
  have hr:=hp r (by rw[h];simp)
  have hl':(pre++r::suf).length≤4611686018427387904:=by rw[←h];omega
  have hpl:pre.length<l.length:=by rw[h];simp
  have e:=i1 (r::suf) h
  simp only[h0y]at e
  have hsnoc:(((pre++ [r]).length:Nat):Int)=(pre.length:Int)+1:=by simp
  have nxt: ∀q,h0y 0 l=h0y q suf→opn (pre++ [r])=q→0≤q→q≤(pre.length:Int)+1→TI (pre++r::suf) (pre++ [r]):=fun q h1 h2 h3 h4=>by
   rw[←h]
   exact⟨fun s hs=>by
   rw[h2]
   have:suf=s:=by
    have h5:=h.symm.trans hs
    simpa using h5
   rw[←this];exact h1,by rw[h2];exact h3,by rw[h2,hsnoc];exact h4⟩
  simp only[ge_iff_le]
  rw[h,h0p,f0P,e0S,m0X hl',w64 (n:=r) (by omega) (by omega)]
  by_cases a:8234≤r∧r≤8238
  ·right
   rw[if_pos a]at e
   rw[dT a.1,dT a.2]
   exact⟨_,rfl, .inl ⟨rfl,by rw[←h];exact e⟩⟩
  ·rw[if_neg a]at e
   have a':(bif decide (8234≤r)then some (decide (r≤8238))else some false)=some false:=by
    by_cases q:8234≤r
    ·rw[dT q,dF (fun z=>a ⟨q,z⟩)];rfl
    ·rw[dF q];rfl
   rw[a']
   by_cases b:8294≤r∧r≤8296
   ·left
    rw[if_pos b]at e
    have hs:=n0n pre r
    rw[if_pos b]at hs
    rw[dT b.1,dT b.2,w64 (n:=opn pre+1) (by omega) (by omega),hs,dF (show¬r=8297 by omega)]
    exact⟨rfl,nxt _ e hs (by omega) (by omega)⟩
   ·rw[if_neg b]at e
    have b':(bif decide (8294≤r)then some (decide (r≤8296))else some false)=some false:=by
     by_cases q:8294≤r
     ·rw[dT q,dF (fun z=>b ⟨q,z⟩)];rfl
     ·rw[dF q];rfl
    rw[b']
    have hs:=n0n pre r
    rw[if_neg b]at hs
    by_cases c:r=8297
    ·rw[if_pos c]at e hs
     rw[dT c]
     by_cases d:opn pre=0
     ·right
      rw[if_pos d]at e
      rw[show opn pre=0 from d]
      exact⟨_,rfl, .inl ⟨rfl,by rw[←h];exact e⟩⟩
     ·left
      rw[if_neg d]at e
      simp only[aa,cond_false,a0g,cond_true]
      rw[dF d,w64 (n:=opn pre-1) (by omega) (by omega),hs]
      exact⟨rfl,nxt _ e hs (by omega) (by omega)⟩
    ·left
     rw[if_neg c]at e hs
     rw[dF c,hs]
     exact⟨rfl,nxt _ e hs (by omega) (by omega)⟩
 ·refine⟨.inl (opn l),by simp only[];rw[g0m];rfl, .inr ⟨_,rfl, ?_⟩⟩
  rw[hi.1 [] (by simp)];rfl
 ·rintro o (⟨rfl,h⟩|⟨q,rfl,h⟩)
  ·rw[h];rfl
  ·rw[h];rfl
end Go.Proofs.YtcapcgbamehojaaGreatDoor
