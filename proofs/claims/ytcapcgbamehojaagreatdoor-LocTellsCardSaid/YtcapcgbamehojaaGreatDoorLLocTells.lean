/-
  The statement LocTellsCard is proved: at every input the law answers true, and its input reads as it did. Conditions: those of the card (package variables are as the program text lays them).
-/
import Derived.Test.YtcapcgbamehojaaGreatDoorP
import Derived.Test.YtcapcgbamehojaaGreatDoorSyGL
import Derived.Test.YtcapcgbamehojaaGreatDoorCards
import Derived.Test.YtcapcgbamehojaaGreatDoorTie
import Derived.ProofKit
import Derived.SizedLaws
import Derived.LaidMore
import Derived.SevenTiedAt
namespace Go.Proofs.YtcapcgbamehojaaGreatDoor
open Go Go.Sy Go.RowKit Go.ChangeShapes Go.WideShapes Go.ChangeAt
set_option linter.unusedVariables false
set_option linter.unusedSimpArgs false
set_option maxRecDepth 100000
set_option maxHeartbeats 4000000

theorem Tryz.own:ownKnob Tryz.prog.godebug=none:=by kernel_rfl
theorem Tryz.laidOut:laidOutB Tryz.prog=true:=by kernel_rfl

theorem A0D {α:Type} {l:List α} (h:l.length=3): ∃a0 a1 a2,l=[a0,a1,a2]:=by
  match l,h with
  | [a0,a1,a2],_=>exact⟨a0,a1,a2,rfl⟩
theorem A0C {α:Type} {l:List α} (h:l.length=7): ∃a0 a1 a2 a3 a4 a5 a6,l=[a0,a1,a2,a3,a4,a5,a6]:=by
  match l,h with
  | [a0,a1,a2,a3,a4,a5,a6],_=>exact⟨a0,a1,a2,a3,a4,a5,a6,rfl⟩
theorem z0y {α:Type} {l:List α} (h:l.length=13): ∃a0 a1 a2 a3 a4 a5 a6 a7 a8 a9 a10 a11 a12,l=[a0,a1,a2,a3,a4,a5,a6,a7,a8,a9,a10,a11,a12]:=by
  match l,h with
  | [a0,a1,a2,a3,a4,a5,a6,a7,a8,a9,a10,a11,a12],_=>exact⟨a0,a1,a2,a3,a4,a5,a6,a7,a8,a9,a10,a11,a12,rfl⟩
/-- Its numbers are numbers of their kinds, its lists no longer than memory. -/
def t0Q(x:c0n):Prop:=(WfI .i32) x.E_∧(WfI .i32) x.B_∧(WfI .i32) x.z_∧(WfI .i32) x.w_∧(WfI .i32) x.v_∧(WfI .i32) x.u_∧(WfI .i32) x.d_
theorem u0X {n:Nat} :s0U Tryz.prog (n+2) 23 a0d t0Q:=fun d cs h hs=>by
  have hl:cs.length=7:=(n0J Tryz.underlying23 h).trans (by kernel_rfl)
  obtain⟨c0,c1,c2,c3,c4,c5,c6,rfl⟩:=A0C hl
  obtain⟨p0,h0,z0⟩:=b0I Tryz.underlying23 h hs 0 21 [c0] (by kernel_rfl)
  obtain⟨x0,e0,w0⟩: ∃x:Int,[c0]=(a0u .i32) x∧(WfI .i32) x:=(d0Z Tryz.underlying21) p0 _ h0 z0
  obtain⟨p1,h1,z1⟩:=b0I Tryz.underlying23 h hs 1 21 [c1] (by kernel_rfl)
  obtain⟨x1,e1,w1⟩: ∃x:Int,[c1]=(a0u .i32) x∧(WfI .i32) x:=(d0Z Tryz.underlying21) p1 _ h1 z1
  obtain⟨p2,h2,z2⟩:=b0I Tryz.underlying23 h hs 2 21 [c2] (by kernel_rfl)
  obtain⟨x2,e2,w2⟩: ∃x:Int,[c2]=(a0u .i32) x∧(WfI .i32) x:=(d0Z Tryz.underlying21) p2 _ h2 z2
  obtain⟨p3,h3,z3⟩:=b0I Tryz.underlying23 h hs 3 21 [c3] (by kernel_rfl)
  obtain⟨x3,e3,w3⟩: ∃x:Int,[c3]=(a0u .i32) x∧(WfI .i32) x:=(d0Z Tryz.underlying21) p3 _ h3 z3
  obtain⟨p4,h4,z4⟩:=b0I Tryz.underlying23 h hs 4 21 [c4] (by kernel_rfl)
  obtain⟨x4,e4,w4⟩: ∃x:Int,[c4]=(a0u .i32) x∧(WfI .i32) x:=(d0Z Tryz.underlying21) p4 _ h4 z4
  obtain⟨p5,h5,z5⟩:=b0I Tryz.underlying23 h hs 5 21 [c5] (by kernel_rfl)
  obtain⟨x5,e5,w5⟩: ∃x:Int,[c5]=(a0u .i32) x∧(WfI .i32) x:=(d0Z Tryz.underlying21) p5 _ h5 z5
  obtain⟨p6,h6,z6⟩:=b0I Tryz.underlying23 h hs 6 21 [c6] (by kernel_rfl)
  obtain⟨x6,e6,w6⟩: ∃x:Int,[c6]=(a0u .i32) x∧(WfI .i32) x:=(d0Z Tryz.underlying21) p6 _ h6 z6
  refine⟨⟨x0,x1,x2,x3,x4,x5,x6⟩, ?_,⟨w0,w1,w2,w3,w4,w5,w6⟩⟩
  show [c0]++ [c1]++ [c2]++ [c3]++ [c4]++ [c5]++ [c6]=((a0u .i32) x0++(a0u .i32) x1++(a0u .i32) x2++(a0u .i32) x3++(a0u .i32) x4++(a0u .i32) x5++(a0u .i32) x6)
  rw[e0,e1,e2,e3,e4,e5,e6]
/-- Its numbers are numbers of their kinds, its lists no longer than memory. -/
def w0W(x:m0i):Prop:=(WfI .i64) x.L_∧(WfI .i64) x.Q_∧WfT x.T_
theorem u0W {n:Nat} :s0U Tryz.prog (n+2) 26 b0b w0W:=fun d cs h hs=>by
  have hl:cs.length=3:=(n0J Tryz.underlying26 h).trans (by kernel_rfl)
  obtain⟨c0,c1,c2,rfl⟩:=A0D hl
  obtain⟨p0,h0,z0⟩:=b0I Tryz.underlying26 h hs 0 3 [c0] (by kernel_rfl)
  obtain⟨x0,e0,w0⟩: ∃x:Int,[c0]=(a0u .i64) x∧(WfI .i64) x:=(d0Z Tryz.underlying3) p0 _ h0 z0
  obtain⟨p1,h1,z1⟩:=b0I Tryz.underlying26 h hs 1 3 [c1] (by kernel_rfl)
  obtain⟨x1,e1,w1⟩: ∃x:Int,[c1]=(a0u .i64) x∧(WfI .i64) x:=(d0Z Tryz.underlying3) p1 _ h1 z1
  obtain⟨p2,h2,z2⟩:=b0I Tryz.underlying26 h hs 2 9 [c2] (by kernel_rfl)
  obtain⟨x2,e2,w2⟩: ∃x:List UInt8,[c2]=A0i x∧WfT x:=(q0y Tryz.underlying9) p2 _ h2 z2
  refine⟨⟨x0,x1,x2⟩, ?_,⟨w0,w1,w2⟩⟩
  show [c0]++ [c1]++ [c2]=((a0u .i64) x0++(a0u .i64) x1++A0i x2)
  rw[e0,e1,e2]
/-- Its numbers are numbers of their kinds, its lists no longer than memory. -/
def y0O(x:A0k):Prop:=t0Q x.S_∧(WfI .i64) x.P_∧WfT x.O_∧(WfL (WfI .i32)) x.M_∧w0W x.C_
theorem u0V {n:Nat} :s0U Tryz.prog (n+3) 28 p0Y y0O:=fun d cs h hs=>by
  have hl:cs.length=13:=(n0J Tryz.underlying28 h).trans (by kernel_rfl)
  obtain⟨c0,c1,c2,c3,c4,c5,c6,c7,c8,c9,c10,c11,c12,rfl⟩:=z0y hl
  obtain⟨p0,h0,z0⟩:=b0I Tryz.underlying28 h hs 0 23 [c0,c1,c2,c3,c4,c5,c6] (by kernel_rfl)
  obtain⟨x0,e0,w0⟩: ∃x:c0n,[c0,c1,c2,c3,c4,c5,c6]=a0d x∧t0Q x:=u0X p0 _ h0 z0
  obtain⟨p1,h1,z1⟩:=b0I Tryz.underlying28 h hs 1 3 [c7] (by kernel_rfl)
  obtain⟨x1,e1,w1⟩: ∃x:Int,[c7]=(a0u .i64) x∧(WfI .i64) x:=(d0Z Tryz.underlying3) p1 _ h1 z1
  obtain⟨p2,h2,z2⟩:=b0I Tryz.underlying28 h hs 2 9 [c8] (by kernel_rfl)
  obtain⟨x2,e2,w2⟩: ∃x:List UInt8,[c8]=A0i x∧WfT x:=(q0y Tryz.underlying9) p2 _ h2 z2
  obtain⟨p3,h3,z3⟩:=b0I Tryz.underlying28 h hs 3 24 [c9] (by kernel_rfl)
  obtain⟨x3,e3,w3⟩: ∃x:List Int,[c9]=(k0P (a0u .i32) 1) x∧(WfL (WfI .i32)) x:=(t0Y (enc:=(a0u .i32)) (Wf:=(WfI .i32)) Tryz.underlying24 (k:=1) (by kernel_rfl) (by kernel_rfl) (d0Z Tryz.underlying21)) p3 _ h3 z3
  obtain⟨p4,h4,z4⟩:=b0I Tryz.underlying28 h hs 4 26 [c10,c11,c12] (by kernel_rfl)
  obtain⟨x4,e4,w4⟩: ∃x:m0i,[c10,c11,c12]=b0b x∧w0W x:=u0W p4 _ h4 z4
  refine⟨⟨x0,x1,x2,x3,x4⟩, ?_,⟨w0,w1,w2,w3,w4⟩⟩
  show [c0,c1,c2,c3,c4,c5,c6]++ [c7]++ [c8]++ [c9]++ [c10,c11,c12]=(a0d x0++(a0u .i64) x1++A0i x2++(k0P (a0u .i32) 1) x3++b0b x4)
  rw[e0,e1,e2,e3,e4]
theorem v0t {r:Int} :decide (j0j r=5)=(dig r).2:=by
  cases hd:(dig r).2 with
  |false=>
    rw[dF]
    unfold j0j
    rw[hd]
    cases isR r<;>cases u0M r<;>cases g0f r<;>cases q0W r<;>cases o0O r<;>decide
  |true=>
    obtain⟨z,hz,k0,k1,he⟩:=t0I hd
    have:nol.all (fun z=>(List.range 10).all fun k=>decide (j0j (z+(k:Int))=5))=true:=by decide+kernel
    have h2:=List.all_eq_true.1 (List.all_eq_true.1 this z hz) (dig r).1.toNat (bf.2 (by omega))
    rw[Int.toNat_of_nonneg k0,←he]at h2
    exact h2
def btw(s:c0n)(x:Int):Bool:=decide (x=s.B_)||(decide (x=s.z_)||decide (x=s.d_))
theorem w0L(s:c0n)(x:Int):f0H s x=some (btw s x):=by
  unfold f0H btw
  cases decide (x=s.B_)<;>cases decide (x=s.z_)<;>rfl
def inN(s:c0n)(x:Int):Bool:=(dig x).2||btw s x
theorem t0h {s:c0n} {l:List Int} (hl:l.length≤4294967296)(hp:q0q l):h0o s l=some ((l.all fun r=> !inN s r)&&(z0U l&&h0y 0 l)):=by
  unfold h0o
  refine f0T (fun o=>o=if l.all (fun r=> !inN s r)=true then .inl ()else .inr false) ⟨_,i0E (fun r=> !inN s r) l (fun pre=>(pre.length:Int)) (.inl ()) (.inr false) rfl (fun pre r suf h=> ?_) ?_ (by omega),rfl⟩ ?_
  · have hr:=hp r (by rw[h];simp)
    have hl':(pre++r::suf).length≤4611686018427387904:=by rw[←h];omega
    rw[h,h0p,f0P,e0S,s0W hr.1 hr.2,w0L]
    simp only[cond_true,aa]
    rw[m0X hl']
    unfold inN
    cases(dig r).2<;>cases btw s r<;>rfl
  · rw[g0m];rfl
  · rintro o rfl
    rw[z0T hl hp,x0h hl]
    cases l.all (fun r=> !inN s r)<;>cases z0U l<;>rfl
/-- Is it a digit of the locale's own? -/
def inZ(s:c0n)(x:Int):Bool:=decide (s.E_≤x)&&decide (x≤s.E_+9)
theorem z0E {s:c0n} {x:Int} (hz:isZ s.E_=true)(h:inZ s x=true):(dig x).2=true:=by
  unfold inZ at h
  simp only[ac,decide_eq_true_eq]at h
  obtain⟨k,hk⟩:=bB (show 0≤x-s.E_ by omega)
  rw[show x=s.E_+(k:Int) by omega,y0H (o0l.1 hz) (by omega)]
theorem t0V {s:c0n} {x:Int} (hz:isZ s.E_=true)(h1: -2147483648≤x)(h2:x<2147483648):Tot (c0U s x) (fun v=>v.2=inZ s x):=by
  have hs:=l0N (o0l.1 hz)
  unfold c0U inZ
  refine tJ (tW (fun s:Int=>s) 10 (fun i=> ∀k:Int,0≤k→k<i→s.E_+k≠x) (by decide) ⟨fun k a b=>by omega,aB _,by decide⟩ (fun i hi g0 g1=> ?_) (fun i hi e=>tN (dF (by omega)) (tR (show Tot _ _ from tR ?_))))
  · have g1:i<10:=g1
    rw[w64 (n:=s.E_) (by omega) (by omega),w64 (n:=s.E_+i) (by omega) (by omega),w64 (n:=x) (by omega) (by omega),w64 (n:=i+1) (by omega) (by omega)]
    refine tY (dT g1) (tI (fun h=>tR ?_) (fun h=>tR ⟨fun k k0 k1=> ?_,rfl⟩))
    · have h:=dTT h
      show true=_
      rw[dT (show s.E_≤x by omega),dT (show x≤s.E_+9 by omega)];rfl
    · by_cases e:k=i
      · subst e;exact dFF h
      · exact hi k k0 (by omega)
  · show false=_
    by_cases e1:s.E_≤x
    · by_cases e2:x≤s.E_+9
      · exact absurd (by omega) (hi (x-s.E_) (by omega) (by omega))
      · rw[dF e2];simp
    · rw[dF e1];rfl
theorem p0e {s:c0n} {x:Int} (hz:isZ s.E_=true)(h1: -2147483648≤x)(h2:x<2147483648):b0K s x=some (inZ s x||btw s x):=by
  obtain⟨v,e,hv⟩:=t0V hz h1 h2
  unfold b0K
  rw[e,aa,hv]
  unfold btw
  cases inZ s x<;>cases decide (x=s.B_)<;>cases decide (x=s.z_)<;>rfl
theorem x0Q {s:c0n} {x:Int} (hz:isZ s.E_=true)(h1: -2147483648≤x)(h2:x<2147483648):e0W s x=some (inZ s x||btw s x):=by
  have hs:=l0N (o0l.1 hz)
  unfold e0W l0z
  rw[w64 (n:=s.E_) (by omega) (by omega),w64 (n:=x) (by omega) (by omega),w64 (n:=x-s.E_) (by omega) (by omega),w0L]
  unfold inZ
  by_cases e1:s.E_≤x
  · rw[dF (show¬x-s.E_<0 by omega),dT e1]
    by_cases e2:x≤s.E_+9
    · rw[dF (show¬x-s.E_>9 by omega),dT e2];rfl
    · rw[dT (show x-s.E_>9 by omega),dF e2];rfl
  · rw[dT (show x-s.E_<0 by omega),dF e1];rfl
/-- May a row stand beside a number? -/
def n0f(s:c0n)(l:List Int):Bool:=(l.all fun r=> !inN s r)&&(z0U l&&h0y 0 l)
theorem r0D {s:c0n} {l:List Int} (hz:isZ s.E_=true)(hl:l.length≤4294967296)(hp:q0q l):c0F s l=some (n0f s l):=by
  unfold c0F n0f
  rw[x0D hl hp,v0n hl hp]
  simp only[aa]
  cases z0U l with
  |false=>simp[a0g]
  |true=>
    cases h0y 0 l with
    |false=>simp[a0g]
    |true=>
      simp only[aA,cond_false,aa,a0g,Bool.and_self,Bool.and_true]
      refine f0T (fun o=>o=if l.all (fun r=> !inN s r)=true then .inl ()else .inr false) ⟨_,i0E (fun r=> !inN s r) l (fun pre=>(pre.length:Int)) (.inl ()) (.inr false) rfl (fun pre r suf h=> ?_) ?_ (by omega),rfl⟩ ?_
      · have hr:=hp r (by rw[h];simp)
        have hl':(pre++r::suf).length≤4611686018427387904:=by rw[←h];omega
        rw[h,h0p,f0P,e0S,p0e hz hr.1 hr.2,t0m hr.1 hr.2]
        simp only[cond_true,aa]
        rw[m0X hl',v0t]
        have hd:=z0E (x:=r) hz
        unfold inN
        cases h1:inZ s r with
        |true=>rw[hd h1];rfl
        |false=>cases(dig r).2<;>cases btw s r<;>rfl
      · rw[g0m];rfl
      · rintro o rfl
        cases l.all (fun r=> !inN s r)<;>rfl

def w0j(s:c0n):Prop:= ∀x∈ [s.B_,s.z_,s.w_,s.v_,s.u_,s.d_],-2147483648≤x∧x<2147483648
def v0Y(x:a0y)(n:Nat):Prop:=x.a_.length≤n∧x.b_.length≤n∧x.i_.length≤n∧x.h_.length≤n
theorem z0S {l:List Int} (hl:l.length≤4294967296):Tot (f0Y l) (fun r=>r=l):=by
  unfold f0Y
  refine tI (fun h=> ?_) (fun _=>tY (a0h hl) (tR rfl))
  obtain rfl:=al (af h)
  exact⟨[],by show n0g (some []) (some [])=_;simp[n0g],rfl⟩
theorem q0c {l:List a0b} (hl:l.length≤4294967296):Tot (e0r l) (fun r=>r=l):=by
  unfold e0r
  refine tI (fun h=> ?_) (fun _=>tY (a0h hl) (tR rfl))
  obtain rfl:=al (af h)
  exact⟨[],by show n0g (some []) (some [])=_;simp[n0g],rfl⟩
/-- Tokens whose runes are numbers of 32 bits. -/
def tk(l:List a0b):Prop:= ∀t∈l,-2147483648≤t.R_∧t.R_<2147483648
theorem A0l {x y:List a0b} (hx:tk x)(hy:tk y):tk (x++y):=fun t ht=>(au.1 ht).elim (hx t) (hy t)
theorem w0i {x y:List Int} (hx:q0q x)(hy:q0q y):q0q (x++y):=fun t ht=>(au.1 ht).elim (hx t) (hy t)
def x0b(a:l0w):Prop:=(a.a_.length≤1000000∧q0q a.a_)∧a.b_.length≤1000000∧q0q a.b_
theorem y0h {s:c0n} {a:l0w} (ha:x0b a):f0d s a=h0o s (a.a_++a.b_):=by
  obtain⟨⟨h1,_⟩,h2,_⟩:=ha
  unfold f0d
  obtain⟨c,e,rfl⟩:=z0S (l:=a.a_) (by omega)
  rw[e,aa,a0h (by omega)]
  cases h0o s (a.a_++a.b_)<;>rfl
theorem w0D {l:List a0b} {k:Int} (hl:l.length≤4294967296):Tot (b0V l k) (fun _=>True):=by
  unfold b0V
  refine tB (p:=fun _=>True) (tW (fun s:Int×Int=>s.2) l.length (fun _=>True) hl ⟨trivial,aB _,by simp⟩ (fun s _ g0 g1=>tY (dT g1) (tB (p:=fun _=>True) (tY (a0J g0 g1) (tI (fun _=>tR trivial) (fun _=>tR trivial))) (fun _ _=>tR ⟨trivial,w64 (by omega) (by omega)⟩))) (fun s _ e=>tN (dF (by omega)) (tR trivial))) (fun _ _=>tR trivial)
theorem A0F {l put:List a0b} (hl:l.length≤1000)(ht:tk l)(hp:put.length≤1)(hu:tk put):Tot (b0h l put) (fun r=>r.length≤1001∧tk r):=by
  unfold b0h
  exact tB (q0c (by omega)) (fun c hc=>tY (a0h (by subst hc;omega)) (tR (by subst hc;exact⟨by simp;omega,A0l hu ht⟩)))
theorem x0t {T:Type} (l:List T)(i:Int)(x:T):(n0L l i x).length=l.length:=by simp[n0L]
theorem s0Y {l:List a0b} (hl:l.length≤1000)(ht:tk l):Tot (c0C l) (fun r=>r.length≤1001∧tk r):=by
  unfold c0C
  obtain⟨c,e,hc⟩:=q0c (l:=l) (by omega)
  rw[e,aa]
  have hl:c.length≤1000:=by rw[hc];exact hl
  have ht:tk c:=by rw[hc];exact ht
  refine tB (p:=fun r:List a0b=>r.length≤1001∧tk r) (tW (fun s:Int×List a0b=>s.1) c.length (fun s=>s.2.length=c.length∧tk s.2) (by omega) ⟨⟨rfl,ht⟩,aB _,Int.natCast_nonneg _⟩ (fun s hs g0 g1=>tY (dT g1) ?_) (fun s hs e=>tN (dF (by omega)) (tR ⟨by have:=hs.1;omega,hs.2⟩))) (fun _ h=>tR h)
  obtain⟨hs,ht⟩:=hs
  have hi:inR s.1 s.2.length=true:=a0J g0 (by omega)
  refine tB (p:=fun r:List a0b=>r.length=c.length∧tk r) (tY hi (tY hi (tI (fun _=>tY hi (tY hi (tR ⟨by rw[x0t];exact hs,fun t h=> ?_⟩))) (fun _=>tR ⟨hs,ht⟩)))) (fun r hr=>tR ⟨hr,w64 (by omega) (by omega)⟩)
  unfold n0L at h
  rcases List.mem_or_eq_of_mem_set h with h|rfl
  · exact ht t h
  · decide
theorem x0q {p:a0y} (hp:v0Y p 1000)(ht:tk p.a_∧tk p.b_∧tk p.i_∧tk p.h_)(s:Int):Tot (b0L p s) (fun r=>(r.1.length≤1001∧tk r.1)∧r.2.length≤1001∧tk r.2):=by
  unfold b0L
  obtain⟨p1,p2,p3,p4⟩:=hp
  obtain⟨t1,t2,t3,t4⟩:=ht
  have c1:([]:List a0b).length≤1:=by simp
  have c2: ∀t:a0b,([t]:List a0b).length≤1:=fun t=>by simp
  have k1:tk []:=fun t h=>by cases h
  have k2: ∀k:Int,tk [⟨k,0⟩]:=fun k t h=>by obtain rfl:=List.mem_singleton.1 h;exact⟨show(-2147483648:Int)≤0 by decide,show(0:Int)<2147483648 by decide⟩
  have two: ∀ {x y:List a0b} {a:List a0b},x.length≤1000→tk x→y.length≤1000→tk y→a.length≤1→tk a→Tot (Option.bind (b0h x a) fun y0=>Option.bind (b0h y []) fun y1=>some (y0,y1)) (fun r=>(r.1.length≤1001∧tk r.1)∧r.2.length≤1001∧tk r.2):=fun hx hxt hy hyt ha hat=>tB (A0F hx hxt ha hat) (fun a ha=>tB (A0F hy hyt c1 k1) (fun c hc=>tR ⟨ha,hc⟩))
  refine tI (fun _=>tI (fun _=>two p3 t3 p4 t4 c1 k1) (fun _=>two p1 t1 p2 t2 (c2 _) (k2 _))) (fun _=>tI (fun _=> ?_) (fun _=>two p1 t1 p2 t2 c1 k1))
  refine tJ (tB (p:=fun _=>True) (tI (fun _=>tB (w0D (by omega)) (fun _ _=>tB (w0D (by omega)) (fun _ _=>tR trivial))) (fun _=>tR trivial)) (fun _ _=>tI (fun _=>tB (s0Y p3 t3) (fun a ha=>tB (s0Y p4 t4) (fun c hc=>tR ⟨ha,hc⟩))) (fun _=>tR (two p1 t1 p2 t2 (c2 _) (k2 _)))))
/-- A loop that answers where another one does. -/
theorem t0s {S O:Type} {f g:S→Option (S⊕O)} (hs: ∀s o,f s=some o→g s=some o): ∀(n:Nat) (s:S) (o:O),a0s f n s=some o→a0s g n s=some o
  |0,_,_,h=>by cases h
  |n+1,s,o,h=>by
    simp only[a0s]at h⊢
    cases hf:f s with
    |none=>rw[hf]at h;cases h
    |some q=>
      rw[hf]at h
      rw[hs s q hf]
      cases q with
      |inl s'=>exact t0s hs n s' o h
      |inr o'=>exact h
theorem n0S {l:List a0b} {s:c0n} {c r:List Int} (h:d0g l s c=some r):b0W l s c=some r:=by
  unfold d0g at h
  unfold b0W
  obtain⟨_,_,h⟩:=a0f h
  obtain⟨o,h1,h2⟩:=a0f h
  rw[t0s (fun s o hf=> ?_) big _ o h1]
  · exact h2
  cases hb:decide (s.1<(l.length:Int))with
  |false=>rw[hb]at hf;exact hf
  |true=>
    rw[hb]at hf
    simp only[cond_true]at hf⊢
    obtain⟨u,h3,h4⟩:=a0f hf
    obtain⟨hi,h3⟩:=b0y h3
    rw[hi]
    simp only[cond_true]
    have key: ∀ {x:Option (List Int)},x=some u→(Option.bind x fun s2=>some (Sum.inl (IntKind.wrap .i64 (s.1+1),s2)):Option ((Int×List Int)⊕List Int))=some o:=fun e=>by rw[e];exact h4
    apply key
    revert h3
    cases decide ((nth l s.1).x_=0)with
    |true=>exact id
    |false=>
      cases decide ((nth l s.1).x_=1)with
      |true=>exact id
      |false=>
        cases decide ((nth l s.1).x_=2)with
        |true=>exact id
        |false=>
          cases decide ((nth l s.1).x_=3)with
          |true=>exact id
          |false=>
            cases decide ((nth l s.1).x_=4)with
            |true=>exact id
            |false=>
              intro h3
              obtain⟨_,h3⟩:=b0y h3
              rw[bE]at h3
              exact h3
theorem h0M {l put r:List a0b} (hp:put.length≤1)(h:b0h l put=some r):r=put++l∧room (put.length+l.length)=true:=by
  unfold b0h at h
  obtain⟨c,h1,h2⟩:=a0f h
  have hc:c=put:=by
    unfold e0r at h1
    match put,hp with
    | [],_=>exact(oi ((show n0g (some ([]:List a0b)) (some [])=some [] by simp[n0g]).symm.trans h1)).symm
    | [t],_=>exact(oi ((show(bif room 1 then some [t]else none)=some [t]from rfl).symm.trans h1)).symm
  subst hc
  obtain⟨h3,h4⟩:=b0y h2
  exact⟨(oi h4).symm,h3⟩
theorem o0R {l r:List a0b} (hl:l.length≤1000)(h:c0C l=some r):b0J l=some r:=by
  unfold c0C at h
  unfold b0J
  obtain⟨c,h0,h⟩:=a0f h
  obtain⟨c',e,hc⟩:=q0c (l:=l) (by omega)
  rw[hc]at e
  obtain rfl:=oi (e.symm.trans h0)
  obtain⟨o,h1,h2⟩:=a0f h
  have key:=n0o (fun _=>True) (fun(s t:Int×List a0b)=>t.1=s.1∧0≤s.1∧s.1≤l.length∧(t.2.length:Int)=s.1∧s.2=t.2++l.drop s.1.toNat) (fun o o'=>o'=o)
    (g:=fun(s0:Int×(List a0b))=>(bif(decide (s0.1<(l.length:Int)))then(Option.bind (bif inR s0.1 l.length then(bif(decide (((nth l s0.1).x_)=1))then(bif room (s0.2.length+([(⟨2,0⟩:a0b)]:List a0b).length)then(some ((s0.2++([(⟨2,0⟩:a0b)]:List a0b))))else none)else(bif inR s0.1 l.length then(bif room (s0.2.length+([(nth l s0.1)]:List a0b).length)then(some ((s0.2++([(nth l s0.1)]:List a0b))))else none)else none))else none) fun(s2:(List a0b))=>(some (.inl ((IntKind.wrap .i64 (s0.1+1)),s2))))else(some (.inr s0.2))))
    (fun s t u hR hf=> ?_) (fun s t u hR hf _=> ?_) big (0,l) (0,[]) o ⟨rfl,aB _,by simp,rfl,rfl⟩ h1 trivial
  · obtain⟨o',e',rfl⟩:=key
    rw[e'];exact h2
  all_goals
    obtain⟨i,ys⟩:=s
    obtain⟨j,out⟩:=t
    obtain⟨q1,r0,r1,r2,r3⟩:=hR
    simp only at q1 r0 r1 r2 r3 hf⊢
    subst q1
    subst r3
  · by_cases hlt:j<l.length
    · rw[dT hlt]at hf⊢
      have hd:l.drop j.toNat=nth l j::l.drop (j+1).toNat:=by
        obtain⟨k,rfl⟩:=bB r0
        rw[d0M (by omega)]
        show l.drop k=_::l.drop (k+1)
        rw[←bl]
      have hn:nth (out++l.drop j.toNat) j=nth l j:=by
        rw[hd,←r2];exact e0S
      rw[hn]at hf
      obtain⟨y,h3,hf⟩:=a0f hf
      obtain rfl:=Sum.inl.inj (oi hf)
      rw[a0J r0 hlt]
      obtain⟨hi,h3⟩:=b0y h3
      rw[hi]at h3
      simp only[cond_true]at h3⊢
      have e1:IntKind.wrap .i64 (j+1)=j+1:=w64 (by omega) (by omega)
      by_cases hk:(nth l j).x_=1
      · rw[dT hk]at h3⊢
        simp only[cond_true]at h3⊢
        obtain rfl:=oi h3
        rw[a0h (by simp;omega)]
        refine⟨_,rfl,rfl,by omega,by omega,by simp;omega, ?_⟩
        rw[hd,e1]
        unfold n0L
        have:j.toNat=out.length:=by omega
        simp[this]
      · rw[dF hk]at h3⊢
        simp only[cond_false]at h3⊢
        obtain rfl:=oi h3
        rw[a0h (by simp;omega)]
        refine⟨_,rfl,rfl,by omega,by omega,by simp;omega, ?_⟩
        rw[hd,e1]
        simp
    · rw[dF hlt]at hf;cases hf
  · by_cases hlt:j<l.length
    · rw[dT hlt]at hf
      obtain⟨y,h3,hf⟩:=a0f hf
      cases hf
    · rw[dF hlt]at hf⊢
      obtain rfl:=Sum.inr.inj (oi hf)
      refine⟨_,rfl, ?_⟩
      have:l.drop j.toNat=[]:=aY (by omega)
      rw[this];simp
theorem u0b {p:a0y} {g:Int} {r:List a0b×List a0b} (hp:v0Y p 1000)(hg:g=0∨g=1∨g=2)(h:b0L p g=some r):c0H p g=some r:=by
  unfold b0L at h
  unfold c0H
  have c1:([]:List a0b).length≤1:=by simp
  rcases hg with rfl|rfl|rfl
  · obtain⟨a,h1,h⟩:=a0f (show(Option.bind (b0h p.a_ []) fun y=>Option.bind (b0h p.b_ []) fun z=>some (y,z))=some r from h)
    obtain⟨c,h2,h⟩:=a0f h
    obtain⟨rfl,_⟩:=h0M c1 h1
    obtain⟨rfl,_⟩:=h0M c1 h2
    exact h
  · cases hn:p.D_ with
    |true=>
      rw[hn]at h
      obtain⟨a,h1,h⟩:=a0f (show(Option.bind (b0h p.i_ []) fun y=>Option.bind (b0h p.h_ []) fun z=>some (y,z))=some r from h)
      obtain⟨c,h2,h⟩:=a0f h
      obtain⟨rfl,_⟩:=h0M c1 h1
      obtain⟨rfl,_⟩:=h0M c1 h2
      exact h
    |false=>
      rw[hn]at h
      obtain⟨a,h1,h⟩:=a0f (show(Option.bind (b0h p.a_ [⟨1,0⟩]) fun y=>Option.bind (b0h p.b_ []) fun z=>some (y,z))=some r from h)
      obtain⟨c,h2,h⟩:=a0f h
      obtain⟨rfl,hr⟩:=h0M (by simp) h1
      obtain⟨rfl,_⟩:=h0M c1 h2
      show(bif room (([(⟨1,0⟩:a0b)]:List a0b).length+p.a_.length)then some _ else none)=_
      rw[hr];exact h
  · obtain⟨x,h1,h⟩:=a0f (show(Option.bind (Option.bind (bif p.D_ then(Option.bind (b0V p.i_ 1) fun y4=>(Option.bind (b0V p.h_ 1) fun y5=>(some ((decide ((IntKind.wrap .i64 (y4+y5))>0))))))else(some false)) fun s0=>_) _)=some r from h)
    obtain⟨b,h2,h3⟩:=a0f h1
    show Option.bind (Option.bind (bif p.D_ then(Option.bind (b0V p.i_ 1) fun y4=>(Option.bind (b0V p.h_ 1) fun y5=>(some ((decide ((IntKind.wrap .i64 (y4+y5))>0))))))else(some false)) fun s0=>_) _=_
    rw[h2,aa]
    cases b with
    |true=>
      obtain⟨a,h4,h3⟩:=a0f (show(Option.bind (c0C p.i_) fun y6=>Option.bind (c0C p.h_) fun y7=>some (Sum.inr (y6,y7)))=some x from h3)
      obtain⟨c,h5,h3⟩:=a0f h3
      obtain rfl:=oi h3
      show Option.bind (Option.bind (b0J p.i_) fun y2=>Option.bind (b0J p.h_) fun y3=>some (Sum.inr (y2,y3))) _=_
      rw[o0R hp.2.2.1 h4,aa,o0R hp.2.2.2 h5]
      exact h
    |false=>
      obtain rfl:=oi h3
      obtain⟨a,h1,h⟩:=a0f (show(Option.bind (b0h p.a_ [⟨2,0⟩]) fun y=>Option.bind (b0h p.b_ []) fun z=>some (y,z))=some r from h)
      obtain⟨c,h2,h⟩:=a0f h
      obtain⟨rfl,hr⟩:=h0M (by simp) h1
      obtain⟨rfl,_⟩:=h0M c1 h2
      show(bif room (([(⟨2,0⟩:a0b)]:List a0b).length+p.a_.length)then some _ else none)=_
      rw[hr];exact h
theorem p0a {p:a0y} {s:c0n} {g:Int} {c:List Int} {a:l0w} (hp:v0Y p 1000)(hg:g=0∨g=1∨g=2)(h:c0p p s g c=some a):b0G p s g c=some a:=by
  unfold c0p at h
  unfold b0G
  obtain⟨y,h1,h⟩:=a0f h
  obtain⟨z,h2,h⟩:=a0f h
  obtain⟨w,h3,h⟩:=a0f h
  rw[u0b hp hg h1,aa,n0S h2,aa,n0S h3]
  exact h
theorem y0A {x y:List Int} (hl:x.length≤4611686018427387904):d0x x y=some (decide (x=y)):=by
  unfold d0x
  by_cases h:x.length=y.length
  · rw[dF (by omega)]
    simp only[cond_false]
    rw[y0z (S:=Unit) h (by omega) (.inl ():Unit⊕Bool) (.inr false)]
    · by_cases e:x=y
      · rw[if_pos e,dT e];rfl
      · rw[if_neg e,dF e];rfl
    · intro i hi
      rw[dT (by omega),g0Y hi,g0Y (by omega),w64 (by omega) (by omega)]
      simp only[cond_true]
      by_cases h1:nth x (i:Int)=nth y (i:Int)
      · rw[if_pos h1,dF (not_not_intro h1)];rfl
      · rw[if_neg h1,dT h1];rfl
    · rw[g0m];rfl
  · rw[dT (by omega),dF (by rintro rfl;exact h rfl)];rfl
theorem q0k {a c:l0w} (ha:x0b a):b0Y a c=some (decide (a=c)):=by
  unfold b0Y
  rw[y0A (aV ha.1.1 (by decide)),y0A (aV ha.2.1 (by decide))]
  obtain⟨a1,a2⟩:=a
  obtain⟨c1,c2⟩:=c
  by_cases h1:a1=c1
  · subst h1
    by_cases h2:a2=c2
    · subst h2;simp
    · simp[h2]
  · simp[h1]
theorem r0F {a c:l0w} (ha:x0b a):c0E a c=some (decide (a=c)):=by
  rw[←q0k ha]
  unfold b0Y c0E
  show(Option.bind (d0x a.a_ c.a_) _)=_
  cases d0x a.a_ c.a_<;>rfl
/-- The runes of a piece. -/
def pcV(s:c0n)(c:List Int)(t:a0b):List Int:=if t.x_=0 then [t.R_]else if t.x_=1 then [s.w_]else if t.x_=2 then [s.v_]else if t.x_=3 then [s.u_]else if t.x_=4 then c else []
theorem z0h {s:c0n} {c:List Int} {t:a0b} (hc:c.length≤900):(pcV s c t).length≤900:=by
  unfold pcV
  repeat' split
  all_goals first|exact hc|simp
theorem A0s {s:c0n} {c:List Int} {t:a0b} (hs:w0j s)(hc:q0q c)(ht: -2147483648≤t.R_∧t.R_<2147483648):q0q (pcV s c t):=by
  unfold w0j at hs
  unfold pcV
  have one: ∀x:Int,-2147483648≤x∧x<2147483648→q0q [x]:=fun x hx y hy=>by obtain rfl:=List.mem_singleton.1 hy;exact hx
  split
  · exact one _ ht
  · split
    · exact one _ (hs _ (by simp))
    · split
      · exact one _ (hs _ (by simp))
      · split
        · exact one _ (hs _ (by simp))
        · split
          · exact hc
          · exact fun x hx=>by cases hx
theorem t0B {s:c0n} {c:List Int} (hc:c.length≤900): ∀l:List a0b,(l.flatMap (pcV s c)).length≤l.length*900
  | []=>by simp
  |t::l=>by
    have h1:=t0B (s:=s) hc l
    have h2:=z0h (s:=s) (t:=t) hc
    rw[aC,ag,aJ,bH];omega
theorem o0X {l:List a0b} {s:c0n} {c:List Int} (hl:l.length≤1001)(hc:c.length≤900):d0g l s c=some (l.flatMap (pcV s c)):=by
  unfold d0g
  rw[show e0x s c=some ()from rfl,aa]
  refine f0T (fun q=>q=l.flatMap (pcV s c)) (g0B l (fun pre=>((pre.length:Int),pre.flatMap (pcV s c))) (fun _=>True) _ rfl trivial (fun pre t suf h _=> ?_) (fun _=>⟨_,by rw[g0m];rfl,rfl⟩) (by omega)) (fun q hq=>by rw[hq])
  have hb:(pre++t::suf).length≤4611686018427387904:=by rw[←h];omega
  have hln:=t0B (s:=s) hc pre
  have hpl:pre.length≤1001:=by rw[h]at hl;simp at hl;omega
  left
  refine⟨?_,trivial⟩
  rw[h,h0p,f0P,e0S,m0X hb,bd]
  simp only[cond_true,aC,List.flatMap_nil,bE]
  have rm: ∀y:List Int,y.length≤900→room ((pre.flatMap (pcV s c)).length+y.length)=true:=fun y hy=>a0h (by omega)
  by_cases k0:t.x_=0
  · rw[dT k0,show pcV s c t=[t.R_]from if_pos k0,rm [t.R_] (by simp)];rfl
  by_cases k1:t.x_=1
  · rw[dF k0,dT k1,show pcV s c t=[s.w_] by unfold pcV;rw[if_neg k0,if_pos k1],rm [s.w_] (by simp)];rfl
  by_cases k2:t.x_=2
  · rw[dF k0,dF k1,dT k2,show pcV s c t=[s.v_] by unfold pcV;rw[if_neg k0,if_neg k1,if_pos k2],rm [s.v_] (by simp)];rfl
  by_cases k3:t.x_=3
  · rw[dF k0,dF k1,dF k2,dT k3,show pcV s c t=[s.u_] by unfold pcV;rw[if_neg k0,if_neg k1,if_neg k2,if_pos k3],rm [s.u_] (by simp)];rfl
  by_cases k4:t.x_=4
  · rw[dF k0,dF k1,dF k2,dF k3,dT k4,show pcV s c t=c by unfold pcV;rw[if_neg k0,if_neg k1,if_neg k2,if_neg k3,if_pos k4],rm c (hc)];rfl
  rw[dF k0,dF k1,dF k2,dF k3,dF k4,show pcV s c t=[] by unfold pcV;rw[if_neg k0,if_neg k1,if_neg k2,if_neg k3,if_neg k4],rm [] (by simp),bE];rfl
/-- What is told for a sign. -/
def afV(s:c0n)(c:List Int)(r:List a0b×List a0b):l0w:=⟨r.1.flatMap (pcV s c),r.2.flatMap (pcV s c)⟩
def tkP(p:a0y):Prop:=tk p.a_∧tk p.b_∧tk p.i_∧tk p.h_
theorem A0K {s:c0n} {c:List Int} (hs:w0j s)(hc:q0q c) {l:List a0b} (ht:tk l):q0q (l.flatMap (pcV s c)):=fun x hx=>by
  obtain⟨t,h1,h2⟩:=bw.1 hx
  exact A0s hs hc (ht t h1) x h2
theorem z0X {p:a0y} {s:c0n} {c:List Int} (hs:w0j s)(hc:c.length≤900)(hc2:q0q c) {g:Int} (hp:v0Y p 1000)(ht:tkP p):Tot (c0p p s g c) (fun a=>x0b a∧ ∃r,b0L p g=some r∧a=afV s c r):=by
  unfold c0p
  obtain⟨r,e,⟨r1,r2⟩,r3,r4⟩:=x0q hp ht g
  rw[e,aa,o0X r1 hc,aa,o0X r3 hc,aa]
  have l1:=t0B (s:=s) hc r.1
  have l2:=t0B (s:=s) hc r.2
  exact tR ⟨⟨⟨by simp only;omega,A0K hs hc2 r2⟩,by simp only;omega,A0K hs hc2 r4⟩,r,rfl,rfl⟩
theorem m0G {s:c0n} {a:l0w} (hz:isZ s.E_=true)(ha:x0b a):f0d s a=some (n0f s (a.a_++a.b_))∧c0j s a=some (n0f s (a.a_++a.b_)):=by
  rw[y0h ha]
  obtain⟨⟨h1,h3⟩,h2,h4⟩:=ha
  refine⟨t0h (by simp;omega) (w0i h3 h4), ?_⟩
  unfold c0j
  rw[a0h (by omega),a0h (by omega),r0D hz (by simp;omega) (w0i h3 h4)]
  rfl

/-! Patterns of a style, by either hand. -/
def B0a(A:i0W):Prop:=x0b A.s_∧x0b A.q_∧x0b A.A_
def w0H(s:c0n)(a:l0w):Bool:=n0f s (a.a_++a.b_)
def k0q(s:c0n)(A:i0W):Bool:=w0H s A.s_&&(w0H s A.q_&&(w0H s A.A_&&(!decide (A.s_=A.q_)&& !decide (A.q_=A.A_))))
def l0v(a:l0w)(x:Int):Bool:=decide (x∈a.a_++a.b_)
def y0e(A:i0W)(x:Int):Bool:=l0v A.s_ x||(l0v A.q_ x||l0v A.A_ x)
/-- What stands around, told by pieces. -/
def u0S(p:a0y)(s:c0n)(c:List Int)(A:i0W):Prop:= ∃r0 r1 r2,b0L p 0=some r0∧b0L p 1=some r1∧b0L p 2=some r2∧A=⟨afV s c r0,afV s c r1,afV s c r2⟩
theorem q0l {p:a0y} {s:c0n} {c:List Int} (hs:w0j s)(hc:c.length≤900)(hc2:q0q c)(hp:v0Y p 1000)(ht:tkP p):Tot (d0J s p c) (fun A=>B0a A∧u0S p s c A∧c0p p s 0 c=some A.s_∧c0p p s 1 c=some A.q_∧c0p p s 2 c=some A.A_):=by
  unfold d0J
  obtain⟨a0,e0,h0,r0,q0,f0⟩:=z0X (g:=0) hs hc hc2 hp ht
  obtain⟨a1,e1,h1,r1,q1,f1⟩:=z0X (g:=1) hs hc hc2 hp ht
  obtain⟨a2,e2,h2,r2,q2,f2⟩:=z0X (g:=2) hs hc hc2 hp ht
  rw[e0,e1,e2]
  exact tR ⟨⟨h0,h1,h2⟩,⟨r0,r1,r2,q0,q1,q2,by rw[f0,f1,f2]⟩,rfl,rfl,rfl⟩
theorem n0B {p:a0y} {s:c0n} {c:List Int} (hz:isZ s.E_=true)(hp:v0Y p 1000) {A:i0W} (hA:B0a A)(e:d0J s p c=some A)(e0:c0p p s 0 c=some A.s_)(e1:c0p p s 1 c=some A.q_)(e2:c0p p s 2 c=some A.A_):d0B s p c=some (k0q s A)∧b0R s p c=some (k0q s A):=by
  obtain⟨h0,h1,h2⟩:=hA
  obtain⟨c0,d0⟩:=m0G hz h0
  obtain⟨c1,d1⟩:=m0G hz h1
  obtain⟨c2,d2⟩:=m0G hz h2
  constructor
  · unfold d0B
    rw[e,aa,c0,c1,c2,q0k h0,q0k h1]
    unfold k0q w0H
    generalize n0f s (A.s_.a_++A.s_.b_)=b0
    generalize n0f s (A.q_.a_++A.q_.b_)=b1
    generalize n0f s (A.A_.a_++A.A_.b_)=b2
    generalize decide (A.s_=A.q_)=b3
    generalize decide (A.q_=A.A_)=b4
    cases b0 with
    |false=>rfl
    |true=>
      cases b1 with
      |false=>rfl
      |true=>
        cases b2 with
        |false=>rfl
        |true=>cases b3<;>cases b4<;>rfl
  · unfold b0R
    rw[p0a hp (.inl rfl) e0,p0a hp (.inr (.inl rfl)) e1,p0a hp (.inr (.inr rfl)) e2]
    simp only[aa]
    rw[d0,d1,d2,r0F h0,r0F h1]
    unfold k0q w0H
    cases n0f s (A.s_.a_++A.s_.b_)<;>cases n0f s (A.q_.a_++A.q_.b_)<;>cases n0f s (A.A_.a_++A.A_.b_)<;>cases decide (A.s_=A.q_)<;>cases decide (A.q_=A.A_)<;>rfl
theorem s0O {l:List Int} {x:Int} (hl:l.length≤4294967296):a0U l x=some (decide (x∈l)):=by
  have key:Tot (f0X l x) (fun r=>0≤r↔x∈l):=by
    unfold f0X
    refine tJ (tW (fun s:Int=>s) l.length (fun i=> ∀k:Int,0≤k→k<i→nth l k≠x) hl ⟨fun k a b=>by omega,aB _,by simp⟩ (fun i hi g0 g1=>tY (dT g1) (tY (a0J g0 g1) (tI (fun e=>tR ?_) (fun e=>tR ⟨fun k k0 k1=> ?_,w64 (by omega) (by omega)⟩)))) (fun i hi e=>tN (dF (by omega)) (tR (show Tot _ _ from tR ?_))))
    · exact⟨fun _=>by rw[dTT e];exact i0D g0 g1,fun _=>g0⟩
    · rw[w64 (n:=i+1) (by omega) (by omega)]at k1
      by_cases h:k=i
      · subst h;exact fun h=>dFF e h.symm
      · exact hi k k0 (by omega)
    · refine⟨fun h=>by omega,fun h=> ?_⟩
      obtain⟨k,hk,hx⟩:=List.getElem_of_mem h
      exact absurd (by rw[d0M hk];exact hx) (hi (k:Int) (by omega) (by omega))
  obtain⟨r,e,h⟩:=key
  unfold a0U
  rw[e,aa]
  congr 1
  exact decide_eq_decide.2 h
theorem w0M {p:a0y} {s:c0n} {c:List Int} {x:Int} (hp:v0Y p 1000) {A:i0W} (hA:B0a A)(e0:c0p p s 0 c=some A.s_)(e1:c0p p s 1 c=some A.q_)(e2:c0p p s 2 c=some A.A_):c0G s p c x=some (y0e A x):=by
  have inner: ∀(i:Int) (a:l0w),x0b a→b0G p s i c=some a→i+1≤3→0≤i→(Option.bind (Option.bind (b0G p s i c) fun y0=>(bif room y0.a_.length then(bif room (y0.a_.length+y0.b_.length)then(a0s (fun(s0:Int)=>(bif(decide (s0<((y0.a_++y0.b_).length:Int)))then(bif inR s0 (y0.a_++y0.b_).length then(bif inR s0 (y0.a_++y0.b_).length then(bif(decide ((nth (y0.a_++y0.b_) s0)=x))then(some (.inr (.inr (.inr (.inr true)))))else(some (.inl (IntKind.wrap .i64 (s0+1)))))else none)else none)else(some (.inr (.inl ()))))) big 0)else none)else none)) (a0g fun(s2:Unit)=>(some (.inl (IntKind.wrap .i64 (i+1))))):Option (Int⊕(Unit⊕Bool)))=some (if l0v a x=true then .inr (.inr true)else .inl (i+1)):=fun i a ha e hi hi0=>by
    obtain⟨⟨h1,_⟩,h2,_⟩:=ha
    rw[e,aa,a0h (by omega),a0h (by omega)]
    simp only[cond_true]
    rw[i0E (fun r=> !decide (r=x)) (a.a_++a.b_) (fun pre=>(pre.length:Int)) (.inl ()) (.inr (.inr (.inr true))) (s0:=(0:Int)) rfl (fun pre r suf h=> ?_) (by rw[g0m];rfl) (by simp;omega)]
    · unfold l0v
      rw[w64 (n:=i+1) (by omega) (by omega)]
      by_cases hm:x∈a.a_++a.b_
      · rw[dT hm,if_neg (fun h=>by have:=List.all_eq_true.1 h x hm;simp at this)];rfl
      · rw[dF hm,if_pos (List.all_eq_true.2 fun r hr=>by
          have: ¬r=x:=fun e=>hm (e▸hr)
          simp[this])];rfl
    · have hb:(pre++r::suf).length≤4611686018427387904:=by rw[←h];simp;omega
      rw[h,h0p,f0P,e0S,m0X hb]
      cases decide (r=x)<;>rfl
  obtain⟨h0,h1,h2⟩:=hA
  have i0:=inner 0 _ h0 (p0a hp (.inl rfl) e0) (by omega) (by omega)
  have i1:=inner 1 _ h1 (p0a hp (.inr (.inl rfl)) e1) (by omega) (by omega)
  have i2:=inner 2 _ h2 (p0a hp (.inr (.inr rfl)) e2) (by omega) (by omega)
  unfold c0G y0e
  rw[g0C (o:=if l0v A.s_ x=true then .inr true else if l0v A.q_ x=true then .inr true else if l0v A.A_ x=true then .inr true else .inl ()) 5 ?_ (by omega)]
  · cases l0v A.s_ x<;>cases l0v A.q_ x<;>cases l0v A.A_ x<;>rfl
  · cases b0:l0v A.s_ x with
    |true=>
      rw[b0]at i0
      exact b0F i0
    |false=>
      rw[b0]at i0
      rw[b0v (s':=(1:Int)) i0]
      cases b1:l0v A.q_ x with
      |true=>
        rw[b1]at i1
        exact b0F i1
      |false=>
        rw[b1]at i1
        rw[b0v (s':=(2:Int)) i1]
        cases b2:l0v A.A_ x with
        |true=>
          rw[b2]at i2
          exact b0F i2
        |false=>
          rw[b2]at i2
          rw[b0v (s':=(3:Int)) i2]
          exact b0F rfl

def ra(l:List Int)(i:Int):Prop:=0≤i∧i≤(l.length:Int)
theorem v0j {x:Int} (h:d0X x≠0):e0u x=true:=by
  unfold d0X at h
  cases c:e0u x with
  |true=>rfl
  |false=>rw[c]at h;exact absurd rfl h
theorem z0F {l:List Int} (h0:0<l.length)(hl:l.length≤100000):Tot (d0Y l) (fun r=>(0≤r.2∧r.2≤l.length)∧(r.2≠0→e0u r.1=true)):=by
  unfold d0Y
  have i0:inR 0 l.length=true:=a0J (aB _) (by omega)
  refine tY i0 (tB (p:=fun n=>0≤n∧n≤4) ?_ (fun y hy=> ?_))
  · unfold c0A
    repeat' (first|exact tR ⟨by omega,by omega⟩|refine tI (fun _=> ?_) (fun _=> ?_))
  refine tJ (tB (p:=fun r=>r=false→1≤y∧y≤l.length) (tI (fun _=>tR (fun h=>by cases h)) (fun e=>tR (fun h=> ?_))) (fun r hr=>tI (fun _=>tR ⟨⟨aB _,by simp only;omega⟩,fun h=>absurd rfl h⟩) (fun e=>tR (show Tot _ _ from ?_))))
  · have:=dFF e;have:=dFF h;omega
  obtain⟨y1,y2⟩:=hr e
  refine tY i0 (tB (p:=fun _=>True) ?_ (fun m _=> ?_))
  · unfold f0U
    repeat' (first|exact tR trivial|refine tI (fun _=> ?_) (fun _=> ?_))
  have hc:(cut l 1 y).length≤l.length:=by unfold cut;simp;omega
  refine tJ (tY (m0O (by omega) y1 y2) (tW (fun s:Int×Int=>s.2) (cut l 1 y).length (fun _=>True) (by omega) ⟨trivial,aB _,by simp⟩ (fun s _ g0 g1=> ?_) (fun s _ e=> ?_)))
  · refine tY (dT g1)<|tY (a0J g0 g1) (tI (fun _=>tR ⟨⟨aB _,by simp only;omega⟩,fun h=>absurd rfl h⟩) (fun _=>tR ⟨trivial,w64 (by omega) (by omega)⟩))
  · rw[dF (show¬s.2<((cut l 1 y).length:Int) by omega)]
    exact tR (tB (p:=fun n=>n=d0X s.1) ⟨_,p0x _,rfl⟩ (fun z hz=>tI (fun _=>tR ⟨⟨aB _,by simp only;omega⟩,fun h=>absurd rfl h⟩) (fun e=>tR ⟨⟨by simp only;omega,y2⟩,fun h=>v0j (by have:=dFF e;simp only at h⊢;omega)⟩)))
theorem t0J {l:List Int} (hl:l.length≤100000):Tot (c0Q l) (fun r=>r.1.length≤l.length∧r.1.all e0u=true):=by
  unfold c0Q
  refine tJ (tL (fun s:Int×List Int=>ra l s.1∧(s.2.length:Int)≤s.1∧s.2.all e0u=true) (fun s=>((l.length:Int)-s.1).toNat) ⟨⟨aB _,by simp only;omega⟩,by simp,rfl⟩ (by simp only;omega) (fun s hs=> ?_))
  obtain⟨⟨g0,g1⟩,g2,g3⟩:=hs
  refine tI (fun hlt=> ?_) (fun _=>tR (tR ⟨by simp only;omega,g3⟩))
  have hlt:=dTT hlt
  have hc:((cut l s.1 (l.length:Int)).length:Int)=(l.length:Int)-s.1:=by unfold cut;simp;omega
  refine tY (m0O g0 g1 (by omega)) (tB (z0F (by omega) (by omega)) (fun y hy=>tI (fun _=>tR (show([]:List Int).length≤_∧_ from⟨by simp,rfl⟩)) (fun hn=>tY (a0h (by simp;omega)) (tR ?_))))
  have hn:=dFF hn
  rw[w64 (n:=s.1+y.2) (by omega) (by omega)]
  exact⟨⟨⟨by simp only;omega,by simp only;omega⟩,by simp;omega,by rw[aN,g3];simp[hy.2 hn]⟩,by simp only;omega⟩
theorem l0M {l:List Int} {a q:Int} (h0:0≤a)(h2:q≤(l.length:Int)) {m:Int} (hm0:0≤m)(hm:a+m<q):nth (cut l a q) m=nth l (a+m):=by
  obtain⟨k,rfl⟩:=bB hm0
  have hj:a.toNat+k<l.length:=by omega
  rw[show a+(k:Int)=((a.toNat+k:Nat):Int) by omega,d0M hj,d0M (by unfold cut;simp;omega)]
  unfold cut
  rw[List.getElem_drop,List.getElem_take]
theorem o0s {l:List Int} {j k:Int} (h0:0≤j)(h1:j≤k)(h2:k≤(l.length:Int)):(((cut l j k).length:Nat):Int)=k-j:=by
  unfold cut
  simp only[aO,aH]
  omega
def byP(b:List Int):Prop:= ∀c∈b,0≤c∧c<256
def bnd(k:Int)(s:Int×Int):Prop:=0≤s.1∧((s.2=0∧(k=3→s.1<8)∧(k=2→s.1<16)∧s.1<32)∨(s.2=1∧(k=3→s.1<512)∧(k=2→s.1<1024)∧s.1<2048)∨(s.2=2∧(k=3→s.1<32768)∧s.1<65536)∨(s.2=3∧s.1<2097152))
def tlP(l:List Int)(y0:Int)(s0:Int×Int):Option ((Int×Int)⊕(Int⊕(Int×Int))):=(bif(decide (s0.2<((cut l 1 y0).length:Int)))then(bif inR s0.2 (cut l 1 y0).length then(bif(decide (¬((bits .andNot .u8 (nth (cut l 1 y0) s0.2) 63))=128))then(some (.inr (.inr (0,0))))else(some (.inl ((bits .or .i32 (IntKind.wrap .i32 (s0.1*64)) ((IntKind.wrap .i32 ((bits .and .u8 (nth (cut l 1 y0) s0.2) 63))))),(IntKind.wrap .i64 (s0.2+1))))))else none)else(some (.inr (.inl s0.1))))
theorem t0Z {b:List Int} {a k v:Int} {q:Int⊕(Int×Int)} (hb:byP b)(hl:b.length≤100000)(h0:0≤a)(hk:1≤k∧k≤3)(hin:a+k<b.length)(hv:bnd k (v,0))(h:a0s (tlP (cut b a (b.length:Int)) (k+1)) big (v,0)=some q):(∃r,q= .inl r∧a0p b a k v=some r∧0≤r∧(k=1→r<2048)∧(k=2→r<65536)∧r<2097152)∨(q= .inr (0,0)∧a0p b a k v=some (-1)):=by
  have l1:(((cut b a (b.length:Int)).length:Nat):Int)=b.length-a:=o0s h0 (by omega) (aB _)
  have l2:(((cut (cut b a (b.length:Int)) 1 (k+1)).length:Nat):Int)=k:=by rw[o0s (by omega) (by omega) (by omega)];omega
  obtain⟨o,e,hR⟩:=n0o (f:=tlP (cut b a (b.length:Int)) (k+1)) (g:=(fun(s0:Int×Int)=>(bif(decide (s0.2≤k))then(Option.bind (bif inR (IntKind.wrap .i64 (a+s0.2)) b.length then(Option.bind (Option.bind (bif(decide (((IntKind.wrap .i64 ((nth b (IntKind.wrap .i64 (a+s0.2))))))<128))then(some true)else(some ((decide (((IntKind.wrap .i64 ((nth b (IntKind.wrap .i64 (a+s0.2))))))>191))))) fun(s1:Bool)=>(bif s1 then(some (.inr (.inr (.inr (.inr (-1))))))else(some (.inl ())))) (a0g fun(s3:Unit)=>(some (.inl ()))))else none) (a0g fun(s4:Unit)=>(some (.inl ((IntKind.wrap .i64 (((IntKind.wrap .i64 ((IntKind.wrap .i64 (s0.1*64))+((IntKind.wrap .i64 ((nth b (IntKind.wrap .i64 (a+s0.2)))))))))-128)),(IntKind.wrap .i64 (s0.2+1)))))))else(some (.inr (.inl s0.1))):Option ((Int×Int)⊕(Int⊕Int))))) (fun _=>True) (fun s s'=>s'=(s.1,s.2+1)∧0≤s.2∧s.2≤k∧bnd k s) (fun o o'=>(∃r,o= .inl r∧o'= .inl r∧0≤r∧(k=1→r<2048)∧(k=2→r<65536)∧r<2097152)∨(o= .inr (0,0)∧o'= .inr (-1))) (fun s s' t hR hf=>by
    obtain⟨rfl,g0,g1,g2⟩:=hR
    unfold tlP at hf
    by_cases hlt:s.2<k
    · have hn:nth (cut (cut b a (b.length:Int)) 1 (k+1)) s.2=nth b (a+(s.2+1)):=by
        rw[l0M (by omega) (by omega) g0 (by omega),l0M h0 (aB _) (by omega) (by omega)]
        congr 1;omega
      have hm:=hb _ (i0D (l:=b) (i:=a+(s.2+1)) (by omega) (by omega))
      rw[dT (by omega),a0J g0 (by omega),hn,n63 hm.1 hm.2,z0Z hm.1 hm.2]at hf
      simp only[cond_true]at hf
      by_cases hc:nth b (a+(s.2+1))/64*64=128
      · rw[dF (not_not_intro hc)]at hf
        obtain rfl:=Sum.inl.inj (oi hf)
        simp only
        unfold bnd at g2
        rw[o32 (by omega) (by omega) (by omega) (by omega),w64 (n:=s.2+1) (by omega) (by omega)]
        refine⟨_, ?_,rfl,by omega,by omega,by unfold bnd;simp only;omega⟩
        rw[dT (show s.2+1≤k by omega),w64 (n:=a+(s.2+1)) (by omega) (by omega),a0J (by omega) (by omega),w64 (n:=nth b (a+(s.2+1))) (by omega) (by omega),dF (show¬nth b (a+(s.2+1))<128 by omega),dF (show¬nth b (a+(s.2+1))>191 by omega)]
        simp only[cond_true,cond_false,aa,a0g]
        rw[w64 (n:=s.1*64) (by omega) (by omega),w64 (n:=s.1*64+nth b (a+(s.2+1))) (by omega) (by omega),w64 (n:=s.1*64+nth b (a+(s.2+1))-128) (by omega) (by omega),w64 (n:=s.2+1+1) (by omega) (by omega),show s.1*64+nth b (a+(s.2+1))-128=s.1*64+nth b (a+(s.2+1))%64 by omega]
      · rw[dT hc]at hf;cases hf
    · rw[dF (by omega)]at hf;cases hf) (fun s s' o hR hf hG=>by
    obtain⟨rfl,g0,g1,g2⟩:=hR
    unfold tlP at hf
    by_cases hlt:s.2<k
    · have hn:nth (cut (cut b a (b.length:Int)) 1 (k+1)) s.2=nth b (a+(s.2+1)):=by
        rw[l0M (by omega) (by omega) g0 (by omega),l0M h0 (aB _) (by omega) (by omega)]
        congr 1;omega
      have hm:=hb _ (i0D (l:=b) (i:=a+(s.2+1)) (by omega) (by omega))
      rw[dT (by omega),a0J g0 (by omega),hn,n63 hm.1 hm.2,z0Z hm.1 hm.2]at hf
      simp only[cond_true]at hf
      by_cases hc:nth b (a+(s.2+1))/64*64=128
      · rw[dF (not_not_intro hc)]at hf;cases hf
      · rw[dT hc]at hf
        obtain rfl:=Sum.inr.inj (oi hf)
        refine⟨.inr (-1), ?_, .inr ⟨rfl,rfl⟩⟩
        simp only
        rw[dT (show s.2+1≤k by omega),w64 (n:=a+(s.2+1)) (by omega) (by omega),a0J (by omega) (by omega),w64 (n:=nth b (a+(s.2+1))) (by omega) (by omega)]
        by_cases c1:nth b (a+(s.2+1))<128
        · rw[dT c1];rfl
        · rw[dF c1,dT (show nth b (a+(s.2+1))>191 by omega)];rfl
    · rw[dF (by omega)]at hf
      obtain rfl:=Sum.inr.inj (oi hf)
      simp only
      unfold bnd at g2
      exact⟨.inl s.1,by rw[dF (by omega)];rfl, .inl ⟨_,rfl,rfl,by omega,by omega,by omega,by omega⟩⟩) big (v,0) (v,1) q ⟨rfl,aB _,by simp only;omega,hv⟩ h trivial
  have ht:a0p b a k v=Option.bind (some o) (a0g fun s2=>some s2):=by
    unfold a0p
    rw[w64 (n:=a+k) (by omega) (by omega),dF (show¬a+k≥(b.length:Int) by omega)]
    exact congrArg (fun o=>Option.bind o _) e
  rcases hR with⟨r,rfl,rfl,h3,h4⟩|⟨rfl,rfl⟩
  · exact .inl ⟨r,rfl,ht,h3,h4⟩
  · exact .inr ⟨rfl,ht⟩
theorem x0p {x:Int} (h:d0X x≠0):e0u x=true:=v0j h
/-- What is behind a first byte that says so many more. -/
theorem z0n {b:List Int} {a r n c k mk least:Int} (hb:byP b)(hl:b.length≤100000)(h0:0≤a)(h1:a<b.length)(hk:(k=1∧mk=192∧least=128∧192≤c∧c<224)∨(k=2∧mk=224∧least=2048∧224≤c∧c<240)∨(k=3∧mk=240∧least=65536∧240≤c∧c<248))
    (h:Option.bind (Option.bind (bif decide (k+1=0)then some true else some (decide (k+1>((cut b a (b.length:Int)).length:Int)))) fun s1=>bif s1 then some (.inr ((0:Int),(0:Int)))else some (.inl ())) (a0g fun(_:Unit)=>bif true then Option.bind (f0U (k+1)) fun y1=>Option.bind (bif inS 1 (k+1) (cut b a (b.length:Int)).length then a0s (tlP (cut b a (b.length:Int)) (k+1)) big (IntKind.wrap .i32 (bits .andNot .u8 c y1),0)else none) (a0g fun s2=>Option.bind (g0v s2) fun y2=>bif decide (¬y2=k+1)then some (0,0)else some (s2,k+1))else none)=some (r,n)):
    ∃v,a0p b a k (c-mk)=some v∧ -1≤v∧v<2097152∧((n≠0∧ ¬(v<least∨e0u v=false)∧r=v∧d0X r=n∧a+n≤b.length)∨(n=0∧(v<least∨e0u v=false))):=by
  have l1:(((cut b a (b.length:Int)).length:Nat):Int)=b.length-a:=o0s h0 (by omega) (aB _)
  rw[dF (show¬k+1=0 by omega)]at h
  by_cases hy:k+1>((cut b a (b.length:Int)).length:Int)
  · rw[dT hy]at h
    obtain⟨rfl,rfl⟩:=bo (oi h)
    refine⟨-1, ?_,by omega,by omega, .inr ⟨rfl, .inl (by omega)⟩⟩
    unfold a0p
    rw[w64 (n:=a+k) (by omega) (by omega),dT (show a+k≥(b.length:Int) by omega)];rfl
  · rw[dF hy]at h
    have hm:f0U (k+1)=some mk:=by rcases hk with⟨rfl,rfl,_⟩|⟨rfl,rfl,_⟩|⟨rfl,rfl,_⟩<;>rfl
    obtain⟨q,e5,h⟩:=a0f (show Option.bind (bif inS 1 (k+1) (cut b a (b.length:Int)).length then a0s (tlP (cut b a (b.length:Int)) (k+1)) big (IntKind.wrap .i32 (bits .andNot .u8 c mk),0)else none) (a0g fun s2=>Option.bind (g0v s2) fun y2=>bif decide (¬y2=k+1)then some (0,0)else some (s2,k+1))=some (r,n) by
      simp only[cond_false,cond_true,aa,a0g]at h
      rw[hm]at h;exact h)
    obtain⟨_,e5⟩:=b0y e5
    have hbt:bits .andNot .u8 c mk=c-mk:=by
      rcases hk with⟨_,rfl,_,h⟩|⟨_,rfl,_,h⟩|⟨_,rfl,_,h⟩
      · have:=B0H (x:=c-192) (by omega) (by omega);rwa [show 192+(c-192)=c by omega]at this
      · have:=B0G (x:=c-224) (by omega) (by omega);rwa [show 224+(c-224)=c by omega]at this
      · have:=B0F (x:=c-240) (by omega) (by omega);rwa [show 240+(c-240)=c by omega]at this
    rw[hbt,w32 (n:=c-mk) (by omega) (by omega)]at e5
    rcases t0Z (k:=k) hb hl h0 (by omega) (by omega) ⟨by simp only;omega, .inl ⟨rfl,by simp only;omega,by simp only;omega,by simp only;omega⟩⟩ e5 with⟨v,rfl,t1,t2,t3,t4,t5⟩|⟨rfl,t1⟩
    · refine⟨v,t1,by omega,t5, ?_⟩
      obtain⟨z,e6,h⟩:=a0f (show(Option.bind (g0v v) _)=some (r,n)from h)
      rw[p0x]at e6
      obtain rfl:=oi e6
      have hs:d0X v=k+1↔ ¬(v<least∨e0u v=false):=by
        unfold d0X
        cases hr:e0u v with
        |false=>simp;omega
        |true=>
          simp only[if_true]
          constructor
          · intro e
            split at e<;>(try split at e)<;>(try split at e)<;>(rintro(h|h)<;>first|omega|cases h)
          · intro e
            have e: ¬v<least:=fun h=>e (.inl h)
            split<;>(try split)<;>(try split)<;>omega
      by_cases hz:d0X v=k+1
      · rw[dF (not_not_intro hz)]at h
        obtain⟨rfl,rfl⟩:=bo (oi h)
        exact .inl ⟨by omega,hs.1 hz,rfl,hz,by omega⟩
      · rw[dT hz]at h
        obtain⟨rfl,rfl⟩:=bo (oi h)
        exact .inr ⟨rfl,Classical.not_not.1 fun e=>hz (hs.2 e)⟩
    · obtain⟨rfl,rfl⟩:=bo (oi h)
      exact⟨-1,t1,by omega,by omega, .inr ⟨rfl, .inl (by omega)⟩⟩
theorem x0K {b:List Int} {a r n:Int} (hb:byP b)(hl:b.length≤100000)(h0:0≤a)(h1:a<b.length)(h:d0Y (cut b a (b.length:Int))=some (r,n)):(n≠0∧a0S b a=some r∧e0u r=true∧d0X r=n∧a+n≤b.length)∨(n=0∧ ∃v,a0S b a=some v∧v<0):=by
  have l1:(((cut b a (b.length:Int)).length:Nat):Int)=b.length-a:=o0s h0 (by omega) (aB _)
  have hm:=hb _ (i0D (l:=b) (i:=a) h0 h1)
  have hc0:nth (cut b a (b.length:Int)) 0=nth b a:=by rw[l0M h0 (aB _) (aB _) (by omega),bn]
  unfold d0Y at h
  rw[hc0,a0J (by omega) (by omega),n0V]at h
  simp only[cond_true,aa]at h
  unfold a0S
  rw[a0J h0 h1]
  generalize hc:nth b a=c at*
  rw[w64 (n:=c) (by omega) (by omega)]
  simp only[cond_true]
  have fin: ∀v least:Int,-1≤v→v<2097152→(Option.bind (a0B (IntKind.wrap .i32 v)) fun y3=>Option.bind (Option.bind (bif decide (v<least)then some true else some (!y3)) fun s7=>bif s7 then some (.inr (-1))else some (.inl ())) (a0g fun(_:Unit)=>some v))=some (if v<least∨e0u v=false then-1 else v):=fun v least v0 v1=>by
    rw[w32 (n:=v) (by omega) (by omega),is1 (by omega) (by omega)]
    by_cases hlst:v<least
    · rw[dT hlst,if_pos (.inl hlst)];rfl
    · rw[dF hlst]
      cases hr:e0u v with
      |true=>rw[if_neg (by rintro(h|h);exact hlst h;cases h)];rfl
      |false=>rw[if_pos (.inr rfl)];rfl
  have done: ∀ {v least:Int} {R:Option Int},R=some (if v<least∨e0u v=false then-1 else v)→((n≠0∧ ¬(v<least∨e0u v=false)∧r=v∧d0X r=n∧a+n≤b.length)∨(n=0∧(v<least∨e0u v=false)))→(n≠0∧R=some r∧e0u r=true∧d0X r=n∧a+n≤b.length)∨(n=0∧ ∃v,R=some v∧v<0):=fun hR hv=>by
    rcases hv with⟨k1,k2,rfl,k4,k5⟩|⟨k1,k2⟩
    · rw[if_neg k2]at hR
      exact .inl ⟨k1,hR,x0p (by omega),k4,k5⟩
    · rw[if_pos k2]at hR
      exact .inr ⟨k1,-1,hR,by omega⟩
  by_cases c1:c<128
  · rw[if_pos c1]at h
    rw[dT c1,dF (show¬c≥192 by omega),dF (show¬c≥224 by omega),dF (show¬c≥240 by omega)]
    simp only[cond_true,cond_false,aa]
    rw[dF (show¬(1:Int)=0 by omega),dF (show¬(1:Int)>((cut b a (b.length:Int)).length:Int) by omega)]at h
    simp only[cond_true,cond_false,aa,a0g]at h
    obtain⟨m,e4,h⟩:=a0f h
    obtain rfl:=oi (show some (0:Int)=some m from e4)
    obtain⟨q,e5,h⟩:=a0f h
    obtain⟨_,e5⟩:=b0y e5
    have e5:a0s (tlP (cut b a (b.length:Int)) 1) big (IntKind.wrap .i32 (bits .andNot .u8 c 0),0)=some q:=e5
    rw[n0 hm.1 hm.2,w32 (n:=c) (by omega) (by omega)]at e5
    have hq:q= .inl c:=by
      have:tlP (cut b a (b.length:Int)) 1 (c,0)=some (.inr (.inl c)):=by
        unfold tlP
        rw[dF (by have:=o0s (l:=cut b a (b.length:Int)) (show(0:Int)≤1 by omega) (aB 1) (by omega);simp only;omega)];rfl
      exact(oi ((b0F this).symm.trans e5)).symm
    subst hq
    obtain⟨z,e6,h⟩:=a0f (show(Option.bind (g0v c) _)=some (r,n)from h)
    rw[p0x]at e6
    obtain rfl:=oi e6
    have hr:e0u c=true:=decide_eq_true ⟨hm.1,by omega,by omega⟩
    have hz:d0X c=1:=by unfold d0X;rw[hr,if_pos rfl,if_pos c1]
    rw[hz]at h
    obtain⟨rfl,rfl⟩:=bo (oi (show some (c,(1:Int))=some (r,n)from h))
    exact done (fin c 0 (by omega) (by omega)) (.inl ⟨by omega,by(rintro(h|h);omega;rw[hr]at h;cases h),rfl,hz,by omega⟩)
  · rw[if_neg c1]at h
    rw[dF c1]
    simp only[cond_false,aa]
    by_cases c2:192≤c∧c<224
    · rw[if_pos (by omega)]at h
      obtain⟨v,t1,t2,t3,t4⟩:=z0n (k:=1) hb hl h0 h1 (.inl ⟨rfl,rfl,rfl,c2⟩) h
      rw[dT (show c≥192 by omega),dT (show c<224 by omega),dF (show¬c≥224 by omega),dF (show¬c≥240 by omega),w64 (n:=c-192) (by omega) (by omega),t1]
      simp only[cond_true,cond_false,aa]
      exact done (fin v 128 t2 t3) t4
    · rw[if_neg (by omega)]at h
      by_cases c3:224≤c∧c<240
      · rw[if_pos (by omega)]at h
        obtain⟨v,t1,t2,t3,t4⟩:=z0n (k:=2) hb hl h0 h1 (.inr (.inl ⟨rfl,rfl,rfl,c3⟩)) h
        rw[dT (show c≥192 by omega),dF (show¬c<224 by omega),dT (show c≥224 by omega),dT (show c<240 by omega),dF (show¬c≥240 by omega),w64 (n:=c-224) (by omega) (by omega),t1]
        simp only[cond_true,cond_false,aa]
        exact done (fin v 2048 t2 t3) t4
      · rw[if_neg (by omega)]at h
        by_cases c4:240≤c∧c<248
        · rw[if_pos (by omega)]at h
          obtain⟨v,t1,t2,t3,t4⟩:=z0n (k:=3) hb hl h0 h1 (.inr (.inr ⟨rfl,rfl,rfl,c4⟩)) h
          rw[dT (show c≥192 by omega),dF (show¬c<224 by omega),dT (show c≥224 by omega),dF (show¬c<240 by omega),dT (show c≥240 by omega),dT (show c<248 by omega),w64 (n:=c-240) (by omega) (by omega),t1]
          simp only[cond_true,cond_false,aa]
          exact done (fin v 65536 t2 t3) t4
        · rw[if_neg (by omega)]at h
          obtain⟨rfl,rfl⟩:=bo (oi (show some ((0:Int),(0:Int))=some (r,n)from h))
          have hb3:(bif decide (c≥192)then some (decide (c<224))else some false)=some false:=by
            by_cases d:c≥192
            · rw[dT d,dF (by omega)];rfl
            · rw[dF d];rfl
          have hb4:(bif decide (c≥224)then some (decide (c<240))else some false)=some false:=by
            by_cases d:c≥224
            · rw[dT d,dF (by omega)];rfl
            · rw[dF d];rfl
          have hb5:(bif decide (c≥240)then some (decide (c<248))else some false)=some false:=by
            by_cases d:c≥240
            · rw[dT d,dF (by omega)];rfl
            · rw[dF d];rfl
          rw[hb3,hb4,hb5]
          simp only[cond_false,aa]
          exact .inr ⟨trivial,-1,(fin (-1) 0 (by omega) (by omega)).trans (by rw[if_pos (.inl (by omega))]),by omega⟩
def dcP(b:List Int)(s0:Int×List Int):Option ((Int×List Int)⊕(List Int⊕(List Int×Int×Int))):=(bif(decide (s0.1<(b.length:Int)))then(bif inS s0.1 (b.length:Int) b.length then(Option.bind (d0Y (cut b s0.1 (b.length:Int))) fun y0=>(bif(decide (y0.2=0))then(some (.inr (.inr (([]:List Int),s0.1,3))))else(bif room (s0.2.length+([y0.1]:List Int).length)then(some (.inl ((IntKind.wrap .i64 (s0.1+y0.2)),(s0.2++([y0.1]:List Int)))))else none)))else none)else(some (.inr (.inl s0.2))))
def dcR(b:List Int)(s0:Int×List Int):Option ((Int×List Int)⊕(List Int⊕(List Int×Int×Int))):=(bif(decide (s0.1<(b.length:Int)))then(Option.bind (a0S b s0.1) fun y0=>(bif(decide (y0<0))then(some (.inr (.inr (([]:List Int),s0.1,3))))else(bif room (s0.2.length+([(IntKind.wrap .i32 y0)]:List Int).length)then(Option.bind (b0k (IntKind.wrap .i32 y0)) fun y1=>(some (.inl ((IntKind.wrap .i64 (s0.1+y1)),(s0.2++([(IntKind.wrap .i32 y0)]:List Int))))))else none)))else(some (.inr (.inl s0.2))))
theorem w0C {b:List Int} (hb:byP b)(hl:b.length≤100000) {s:Int×List Int} (h0:0≤s.1) {z:(Int×List Int)⊕(List Int⊕(List Int×Int×Int))} (h:dcP b s=some z):dcR b s=some z∧ ∀t,z= .inl t→0≤t.1:=by
  unfold dcP at h
  unfold dcR
  by_cases hlt:s.1<(b.length:Int)
  · rw[dT hlt]at h⊢
    obtain⟨_,h⟩:=b0y (show(bif inS s.1 (b.length:Int) b.length then _ else none)=some z from h)
    obtain⟨⟨r,n⟩,e,h⟩:=a0f h
    rcases x0K hb hl h0 hlt e with⟨hn,k1,k2,k3,k4⟩|⟨rfl,v,k1,k2⟩
    · rw[dF hn]at h
      obtain⟨e2,h⟩:=b0y (show(bif room (s.2.length+([r]:List Int).length)then _ else none)=some z from h)
      have hr:=of_decide_eq_true k2
      obtain rfl:=oi h
      have hn0:0<n:=by
        rw[←k3]
        unfold d0X;rw[k2];simp only[if_true];split;omega;split;omega;split<;>omega
      refine⟨?_,fun t ht=>by obtain rfl:=Sum.inl.inj ht;simp only;rw[w64 (by omega) (by omega)];omega⟩
      rw[k1]
      simp only[cond_true,aa]
      rw[dF (show¬r<0 by omega),w32 (n:=r) (by omega) (by omega),e2,y0Y (by omega) (by omega),k3]
      rfl
    · obtain rfl:=oi h
      refine⟨?_,fun t ht=>by cases ht⟩
      rw[k1]
      simp only[cond_true,aa]
      rw[dT k2];rfl
  · rw[dF hlt]at h⊢
    exact⟨h,fun t ht=>by subst ht;cases h⟩
theorem s0K {b:List Int} (hb:byP b)(hl:b.length≤100000):a0L b=c0Q b:=by
  obtain⟨o,e,_⟩:=t0J hl
  rw[e]
  unfold c0Q at e
  obtain⟨q,e1,e2⟩:=a0f e
  obtain⟨o',e3,rfl⟩:=n0o (f:=dcP b) (g:=dcR b) (fun _=>True) (fun s s':Int×List Int=>s'=s∧0≤s.1) (fun o o'=>o'=o) (fun s s' t hR hf=>by
    obtain⟨rfl,g0⟩:=hR
    obtain⟨e,h⟩:=w0C hb hl g0 hf
    exact⟨t,e,rfl,h t rfl⟩) (fun s s' o hR hf _=>by
    obtain⟨rfl,g0⟩:=hR
    exact⟨_,(w0C hb hl g0 hf).1,rfl⟩) big (0,[]) (0,[]) q ⟨rfl,aB _⟩ e1 trivial
  rw[←e2]
  unfold a0L
  exact congrArg (fun o=>Option.bind o _) e3

theorem j0x {l:List Int} {ts:List a0b} (hl:l.all e0u=true)(h:m0Y l ts):d0r ts=true:=by
  refine List.all_eq_true.2 (fun t ht=> ?_)
  rcases h t ht with⟨_,h1|h1⟩|⟨h1,_⟩
  · exact List.all_eq_true.1 hl _ h1
  · rw[h1];decide
  · rw[h1];decide
theorem y0K {q:a0y} (hn:i0P (g0a q))(hl:B0g q):r0L q:=by
  obtain⟨n1,n2,n3,n4,n5,n6,n7,n8,n9,n10,n11⟩:=hn
  obtain⟨l1,l2,l3,l4⟩:=hl
  have hg:(0≤q.e_∧q.e_≤40)∧(0≤q.g_∧q.g_≤40):=by
    rcases n11 with⟨h1,h2⟩|⟨h1,h2,h3,h4⟩
    · omega
    · by_cases hc:q.n_+q.j_≤q.e_+q.g_
      · have:=h4 hc;omega
      · omega
  exact⟨by omega,by omega,by omega,by omega,hg.1,hg.2,by omega,by omega,by omega⟩
theorem r0A {a:a0y} (hc:r0L a)(hn:i0P (g0a a))(h1:a.a_.length≤300)(h2:a.b_.length≤300)(h3:a.i_.length≤300)(h4:a.h_.length≤300):f0M a=some (txL a):=m0I (q0V hc hn).1 (by have:=p0N hc hn;omega) h1 h2 h3 h4
theorem u0j {a:a0y} (w:B0K a)(h1:a.a_.length≤300)(h2:a.b_.length≤300)(h3:a.i_.length≤300)(h4:a.h_.length≤300): ∃b,a0X a=some b∧j0L a=some b∧(b=true→o0W a):=by
  obtain⟨b,hb,hr⟩:=A0p w h1 h2 h3 h4
  obtain⟨N,hN,hNl⟩:=s0P a
  have hP:=m0I hN hNl h1 h2 h3 h4
  have hlen:=y0S hNl h1 h2 h3 h4
  have hok:=A0L (txN N a)
  have hll:((txN N a).map q0r).length≤20000:=by rw[cq];exact hlen
  have hT:l0I a=some (a0q (a0T ((txN N a).map q0r))):=by
    unfold l0I
    rw[hP]
    simp only[aa]
    rw[q0C]
  have hd1:=o0r hok (by omega)
  have hd2:=j0F hok hll
  rw[←n0r hok]at hd1 hd2
  -- of a right pattern the texts are the same
  have hsame:o0W a→(txN N a).map q0r=txL a∧ ∃i,a0m (a0q (a0T ((txN N a).map q0r)))=some (a,i,0):=by
    intro hx
    obtain⟨hn,ht,_,_,i,hp⟩:=r0X h1 h2 h3 h4 hx
    have h5:=r0A hx.1 hn h1 h2 h3 h4
    rw[hP]at h5
    have h6:txN N a=txL a:=by injection h5
    obtain⟨_,v0,⟨v1,v2,v3,v4⟩,_⟩:=hx
    have h7:(txN N a).map q0r=txL a:=by rw[h6,w0p (u0R v0 v1 v2 v3 v4)]
    rw[h7]
    exact⟨rfl,i,hp⟩
  have htl:(a0q (a0T ((txN N a).map q0r))).length≤100000:=by
    have:=d0W ((txN N a).map q0r)
    omega
  generalize hL:(txN N a).map q0r=L at*
  refine⟨b,hb, ?_,hr.1⟩
  have hposL: ∀c∈L,0≤c:=fun c hc=>(f0q.1 (List.all_eq_true.1 hok c hc)).1
  -- w0K decoders give the same row
  have hE1:c0Q (a0N (a0q (a0T L)))=some (L,0,0):=by rw[n0r hok];exact o0r hok (by omega)
  have hE2:a0L (a0N (a0q (a0T L)))=some (L,0,0):=by rw[n0r hok];exact j0F hok hll
  unfold j0L
  rw[hT]
  simp only[aa]
  rcases o0Z hE1 hE2 hposL with⟨q,e1,e2,e3,e4⟩|⟨⟨q,i,e,e1,e2⟩,q',i',e',e3,e4⟩
  · rw[e1]
    simp only[aa]
    obtain⟨t1,t2,t3,t4,t5,t6,t7⟩:=e3
    have hqp:e0u q.f_=true:=by
      rcases t5 with h|h
      · rw[h];decide
      · exact List.all_eq_true.1 hok _ h
    have hqp2:z0i q:=by have:=f0q.1 hqp;exact⟨by omega,by omega⟩
    rw[show decide True=true from rfl,z0a ⟨by omega,by omega,by omega,by omega⟩ ⟨w.2.2.2.2.1,w.2.2.2.2.2⟩ hqp2]
    simp only[cond_true,aa]
    congr 1
    by_cases hq:a=q
    · subst hq
      rw[dT rfl]
      obtain⟨o,ho,hoc⟩:=j0M htl
      rw[e2]at ho
      cases ho
      have hn:=hoc rfl
      have hc:=y0K hn e4
      have o1:=j0x hok t1.1
      have o2:=j0x hok t2.1
      have o3:=j0x hok t3.1
      have o4:=j0x hok t4.1
      have h5:=r0A hc hn h1 h2 h3 h4
      rw[hP]at h5
      have h6:txN N a=txL a:=by injection h5
      have h7:L=txL a:=by rw[←hL,h6,w0p (u0R hqp o1 o2 o3 o4)]
      have hx:o0W a:=⟨hc,hqp,⟨o1,o2,o3,o4⟩,_,0,t0b hc hn h1 h2 h3 h4 hqp o1 o2 o3 o4,by rw[←h7];exact e2⟩
      exact(hr.2 hx).symm
    · rw[dF hq]
      cases b with
      |false=>rfl
      |true=>
        obtain⟨_,i,hp⟩:=hsame (hr.1 rfl)
        rw[e2]at hp
        cases hp
        exact absurd rfl hq
  · rw[e1]
    simp only[aa]
    rw[dF e2]
    simp only[cond_false,aa]
    congr 1
    cases b with
    |false=>rfl
    |true=>
      obtain⟨_,i,hp⟩:=hsame (hr.1 rfl)
      rw[e3]at hp
      cases hp
      exact absurd rfl e4

/-! A text is read as a pattern, by either hand. -/
def zP:a0y:=(⟨([]:List a0b),([]:List a0b),([]:List a0b),([]:List a0b),false,0,0,0,0,0,0,0,0,0,false,0,0⟩:a0y)
theorem x0C {t:List UInt8} {q:a0y} {i e:Int} (h:a0m t=some (q,i,e))(he:e≠0):q=zP:=by
  unfold a0m at h
  obtain⟨y2,_,h⟩:=a0f h
  cases c1:decide (¬y2.2.2=0)with
  |true=>rw[c1]at h;exact(bo (oi h)).1.symm
  |false=>
    rw[c1]at h
    cases c2:decide ((y2.1.length:Int)>120)with
    |true=>rw[c2]at h;exact(bo (oi h)).1.symm
    |false=>
      rw[c2]at h
      obtain⟨y0,_,h⟩:=a0f (show(Option.bind (b0m y2.1) _)=_ from h)
      obtain⟨s0,_,h⟩:=a0f h
      obtain⟨u,h1,h⟩:=a0f h
      obtain⟨b1,_,h1⟩:=a0f h1
      cases b1 with
      |true=>obtain rfl:=oi h1;exact(bo (oi h)).1.symm
      |false=>
        obtain rfl:=oi h1
        obtain⟨v,h2,h⟩:=a0f h
        obtain⟨b2,_,h2⟩:=a0f h2
        cases b2 with
        |true=>obtain rfl:=oi h2;exact(bo (oi h)).1.symm
        |false=>
          obtain rfl:=oi h2
          exact absurd (bo (bo (oi h)).2).2.symm he
/-- What is known of a pattern that was read. -/
def w0k(p:a0y):Prop:=v0Y p 120∧tkP p∧r0L p∧i0P (g0a p)∧(∀t∈p.a_++p.b_,0≤t.x_∧t.x_≤4)∧(∀t∈p.i_++p.h_,0≤t.x_∧t.x_≤4)∧ -2147483648≤p.f_∧p.f_<2147483648∧0≤p.y_
theorem q0I {t:List UInt8} (ht:t.length≤400): ∃p ok q i e b,h0q t=some (p,ok)∧a0m t=some (q,i,e)∧a0X q=some b∧(ok=true→p=q∧e=0∧b=true∧w0k p)∧(ok=false→e≠0∨b=false):=by
  have hbl:(a0N t).length≤100000:=by rw[f0S];omega
  have hby:byP (a0N t):=fun c hc=>by
    obtain⟨b,_,rfl⟩:=aK.1 hc
    have:=UInt8.toNat_lt b
    omega
  obtain⟨⟨l,z,e0⟩,hd1,hl,hok⟩:=t0J hbl
  simp only at hl hok
  have hd2:=s0K hby hbl
  rw[hd1]at hd2
  obtain⟨bz,hbz,_⟩:=u0q (p:=zP) (by simp[zP]) (by simp[zP]) (by simp[zP]) (by simp[zP])
  have bad:(∃p i e,e0J t=some (p,i,e)∧e≠0)→(∃q i e,a0m t=some (q,i,e)∧e≠0)→ ∃p ok q i e b,h0q t=some (p,ok)∧a0m t=some (q,i,e)∧a0X q=some b∧(ok=true→p=q∧e=0∧b=true∧w0k p)∧(ok=false→e≠0∨b=false):=fun⟨p,i,e,h1,h2⟩ ⟨q,i',e',h3,h4⟩=>by
    have hq:=x0C h3 h4
    subst hq
    refine⟨p,false,zP,i',e',bz, ?_,h3,hbz,(fun h=>by cases h),fun _=> .inl h4⟩
    unfold h0q
    rw[h1,aa,dF h2];rfl
  by_cases hz:e0=0
  · subst hz
    have hpos: ∀c∈l,0≤c:=fun c hc=>(f0q.1 (List.all_eq_true.1 hok c hc)).1
    rcases o0Z hd1 hd2 hpos with⟨q,h1,h2,h3,h4⟩|⟨h1,h2⟩
    · have hl120:l.length≤120:=by
        rcases bK 120 l.length with h|h
        · exfalso
          unfold e0J at h1
          rw[hd1,aa,dF (not_not_intro rfl),dT (show(l.length:Int)>120 by omega)]at h1
          cases(bo (bo (oi h1)).2).2
        · exact h
      obtain⟨⟨t1,k1⟩,⟨t2,k2⟩,⟨t3,k3⟩,⟨t4,k4⟩,t5,t6,t7⟩:=h3
      have rb: ∀ {x:Int},e0u x=true→ -2147483648≤x∧x<2147483648:=fun h=>by have:=f0q.1 h;omega
      have tkO: ∀ {ts:List a0b},m0Y l ts→tk ts:=fun h t ht=>rb (List.all_eq_true.1 (j0x hok h) t ht)
      have kd: ∀ {ts:List a0b},m0Y l ts→ ∀t∈ts,0≤t.x_∧t.x_≤4:=fun h t ht=>by
        rcases h t ht with⟨h1,_⟩|⟨_,h2,h3⟩<;>omega
      have hpad: -2147483648≤q.f_∧q.f_<2147483648:=by
        rcases t5 with h|h
        · rw[h];omega
        · exact rb (List.all_eq_true.1 hok _ h)
      obtain⟨o,ho,hoc⟩:=j0M (t:=t) (by omega)
      rw[h2]at ho
      cases ho
      have hn:=hoc rfl
      have hc:=y0K hn h4
      obtain⟨b,hb1,hb2,_⟩:=u0j (a:=q) ⟨tkO t1,tkO t2,tkO t3,tkO t4,hpad.1,hpad.2⟩ (by omega) (by omega) (by omega) (by omega)
      have hpa:=t7.2
      refine⟨q,b,q,0,0,b, ?_,h2,hb1,fun hb=>⟨rfl,rfl,hb,⟨by omega,by omega,by omega,by omega⟩,⟨tkO t1,tkO t2,tkO t3,tkO t4⟩,hc,hn,fun t ht=> ?_,fun t ht=> ?_,hpad.1,hpad.2,hpa⟩,fun hb=> .inr hb⟩
      · unfold h0q
        rw[h1,aa,dT rfl,hb2];rfl
      · rcases au.1 ht with h|h
        · exact kd t1 t h
        · exact kd t2 t h
      · rcases au.1 ht with h|h
        · exact kd t3 t h
        · exact kd t4 t h
    · exact bad h1 h2
  · refine bad ?_ ?_
    · unfold e0J
      rw[hd1,aa,dT hz]
      exact⟨_,_,_,rfl,hz⟩
    · unfold a0m
      rw[hd2,aa,dT hz]
      exact⟨_,_,_,rfl,by decide⟩

/-! How often a kind of piece stands there. -/
def cnt(l:List a0b)(k:Int):Nat:=(l.filter fun t=>decide (t.x_=k)).length
theorem t0N(l:List a0b)(k:Int):cnt l k≤l.length:=List.length_filter_le _ _
theorem s0Q(x y:List a0b)(k:Int):cnt (x++y) k=cnt x k+cnt y k:=by unfold cnt;rw[List.filter_append,ag]
theorem w0F(t:a0b)(k:Int):cnt [t] k=if t.x_=k then 1 else 0:=by
  unfold cnt
  by_cases h:t.x_=k<;>simp[h]
theorem t0K {l:List a0b} {k:Int} (hl:l.length≤4294967296):b0V l k=some (cnt l k:Int):=by
  unfold b0V
  refine f0T (fun q=>q=(cnt l k:Int)) (g0B l (fun pre=>((cnt pre k:Int),(pre.length:Int))) (fun _=>True) _ rfl trivial (fun pre t suf h _=> ?_) (fun _=>⟨_,by rw[g0m];rfl,rfl⟩) (by omega)) (fun q hq=>by rw[hq])
  left
  refine⟨?_,trivial⟩
  have hb:(pre++t::suf).length≤4611686018427387904:=by rw[←h];omega
  have hc:=t0N pre k
  have hpl:pre.length≤l.length:=by rw[h];simp
  rw[h,h0p,f0P,e0S,m0X hb,s0Q,w0F,w64 (n:=(cnt pre k:Int)+1) (by omega) (by omega)]
  by_cases hk:t.x_=k
  · rw[dT hk,if_pos hk];rfl
  · rw[dF hk,if_neg hk];rfl
def r0E(g:Int)(l:List a0b)(m:Int):Bool:=decide ((cnt l 3:Int)=if g=1 then 1 else 0)&&(decide ((cnt l 4:Int)=if g=3 then 1 else 0)&&(decide ((cnt l 2:Int)=0)&&decide ((cnt l 1:Int)≤m)))
theorem n0Z {x y:List a0b} {g m:Int} (hx:x.length≤1000)(hy:y.length≤1000):f0N x y g m=some (r0E g (x++y) m):=by
  have one: ∀k:Int,c0q k x y=some ((cnt (x++y) k:Nat):Int):=fun k=>by
    have h1:=t0N x k
    have h2:=t0N y k
    unfold c0q
    rw[t0K (by omega),aa,t0K (by omega),aa,w64 (by omega) (by omega),s0Q]
    congr 1
  have hg:(bif(decide (g=1))then(some ((1:Int),(0:Int)))else(bif(decide (g=3))then(some (0,1))else(some (0,0))))=some ((if g=1 then 1 else 0),(if g=3 then 1 else 0)):=by
    by_cases h1:g=1
    · rw[dT h1,if_pos h1,if_neg (by omega)];rfl
    · by_cases h3:g=3
      · rw[dF h1,dT h3,if_neg h1,if_pos h3];rfl
      · rw[dF h1,dF h3,if_neg h1,if_neg h3];rfl
  unfold f0N r0E
  rw[hg,aa,one 3,one 4,one 2,one 1]
  simp only[aa]
  generalize decide ((cnt (x++y) 3:Int)=if g=1 then 1 else 0)=b1
  generalize decide ((cnt (x++y) 4:Int)=if g=3 then 1 else 0)=b2
  generalize decide ((cnt (x++y) 2:Int)=0)=b3
  generalize decide ((cnt (x++y) 1:Int)≤m)=b4
  cases b1<;>cases b2<;>cases b3<;>cases b4<;>rfl
theorem q0j {l:List a0b} {g m:Int} (hl:l.length≤4294967296)(hk: ∀t∈l,0≤t.x_∧t.x_≤4):b0Q g l m=some (r0E g l m):=by
  unfold b0Q
  refine f0T (fun q=>q=((cnt l 0:Int),(cnt l 1:Int),(cnt l 2:Int),(cnt l 3:Int),(cnt l 4:Int))) (g0B l (fun pre=>((pre.length:Int),(cnt pre 0:Int),(cnt pre 1:Int),(cnt pre 2:Int),(cnt pre 3:Int),(cnt pre 4:Int))) (fun _=>True) _ rfl trivial (fun pre t suf h _=> ?_) (fun _=>⟨_,by rw[g0m];rfl,rfl⟩) (by omega)) ?_
  · left
    refine⟨?_,trivial⟩
    have hb:(pre++t::suf).length≤4611686018427387904:=by rw[←h];omega
    have hpl:pre.length≤l.length:=by rw[h];simp
    have c:=fun k=>t0N pre k
    have e0:=hk t (by rw[h];simp)
    have w:=fun k:Int=>w64 (n:=(cnt pre k:Int)+1) (by omega) (by have:=c k;omega)
    rw[h,h0p,f0P,e0S]
    simp only[cond_true,m0X hb,w,s0Q,w0F]
    rcases(show t.x_=0∨t.x_=1∨t.x_=2∨t.x_=3∨t.x_=4 by omega)with e|e|e|e|e<;>rw[e]<;>rfl
  · rintro q rfl
    have hg: ∀k:Int,(bif decide (g=k)then some (1:Int)else some 0)=some (if g=k then 1 else 0):=fun k=>by
      by_cases h1:g=k
      · rw[dT h1,if_pos h1];rfl
      · rw[dF h1,if_neg h1];rfl
    rw[hg 1,hg 3]
    simp only[aa]
    unfold r0E
    generalize decide ((cnt l 3:Int)=if g=1 then 1 else 0)=b1
    generalize decide ((cnt l 4:Int)=if g=3 then 1 else 0)=b2
    generalize decide ((cnt l 2:Int)=0)=b3
    generalize decide ((cnt l 1:Int)≤m)=b4
    cases b1<;>cases b2<;>cases b3<;>cases b4<;>rfl
theorem z0o {r:Int} (h1: -2147483648≤r)(h2:r<2147483648):k0B r=some (j0j r):=by
  unfold k0B
  show Option.bind (a0x r l0F) _=_
  rw[t0c h1 h2 (List.Perm.refl _),y0L h1 h2];rfl
/-- May the padding stand there? -/
def s0g(s:c0n)(p:a0y)(A:i0W):Bool:=decide (p.y_=0)||((decide (j0j p.f_=0)||decide (j0j p.f_=4))&&(!(inZ s p.f_||btw s p.f_)&& !y0e A p.f_))
theorem v0y {s:c0n} {p:a0y} {A:i0W} (hz:isZ s.E_=true)(h1: -2147483648≤p.f_)(h2:p.f_<2147483648)(hA:B0a A)(e:d0J s p []=some A):i0d s p=some (s0g s p A):=by
  unfold i0d s0g
  by_cases h0:p.y_=0
  · rw[dT h0];rfl
  rw[dF h0,z0o h1 h2,x0Q hz h1 h2]
  simp only[cond_false,aa,Bool.false_or]
  generalize hN:(inZ s p.f_||btw s p.f_)=N
  have hb:(bif decide (¬j0j p.f_=0)then(bif decide (¬j0j p.f_=4)then some true else some N)else some N)=some (!((decide (j0j p.f_=0)||decide (j0j p.f_=4))&& !N)):=by
    by_cases a0:j0j p.f_=0
    · rw[dT a0,dF (not_not_intro a0)];cases N<;>rfl
    · by_cases a4:j0j p.f_=4
      · rw[dF a0,dT a0,dT a4,dF (not_not_intro a4)];cases N<;>rfl
      · rw[dF a0,dT a0,dF a4,dT a4];cases N<;>rfl
  rw[hb,aa,←Bool.and_assoc]
  generalize hV:((decide (j0j p.f_=0)||decide (j0j p.f_=4))&& !N)=V
  cases V with
  |false=>rfl
  |true=>
    simp only[aA,cond_false,aa,a0g,bI]
    rw[e,aa]
    have inner: ∀(k:Int) (a:l0w),x0b a→0≤k→k≤3→(Option.bind (Option.bind (Option.bind (a0U a.a_ p.f_) fun y4=>(bif y4 then(some true)else(Option.bind (a0U a.b_ p.f_) fun y5=>(some y5)))) fun(s2:Bool)=>(bif s2 then(some (.inr (.inr (.inr false))))else(some (.inl k)))) (a0g fun(s5:Int)=>(some (.inl (IntKind.wrap .i64 (s5+1))))):Option (Int⊕(Unit⊕Bool)))=some (if l0v a p.f_=true then .inr (.inr false)else .inl (k+1)):=fun k a ha k0 k3=>by
      obtain⟨⟨l1,_⟩,l2,_⟩:=ha
      have hw:IntKind.wrap .i64 (k+1)=k+1:=w64 (by omega) (by omega)
      rw[s0O (by omega),s0O (by omega),show l0v a p.f_=(decide (p.f_∈a.a_)||decide (p.f_∈a.b_)) by unfold l0v;simp[au]]
      cases decide (p.f_∈a.a_)with
      |true=>rfl
      |false=>
        cases decide (p.f_∈a.b_)with
        |true=>rfl
        |false=>show some (Sum.inl (IntKind.wrap .i64 (k+1)))=_;rw[hw];rfl
    obtain⟨q0,q1,q2⟩:=hA
    have i0:=inner 0 _ q0 (by omega) (by omega)
    have i1:=inner 1 _ q1 (by omega) (by omega)
    have i2:=inner 2 _ q2 (by omega) (by omega)
    unfold y0e
    rw[g0C (o:=if l0v A.s_ p.f_=true then .inr false else if l0v A.q_ p.f_=true then .inr false else if l0v A.A_ p.f_=true then .inr false else .inl ()) 5 ?_ (by omega)]
    · cases l0v A.s_ p.f_<;>cases l0v A.q_ p.f_<;>cases l0v A.A_ p.f_<;>rfl
    · cases b0:l0v A.s_ p.f_ with
      |true=>
        rw[b0]at i0
        exact b0F i0
      |false=>
        rw[b0]at i0
        rw[b0v (s':=(1:Int)) i0]
        cases b1:l0v A.q_ p.f_ with
        |true=>
          rw[b1]at i1
          exact b0F i1
        |false=>
          rw[b1]at i1
          rw[b0v (s':=(2:Int)) i1]
          cases b2:l0v A.A_ p.f_ with
          |true=>
            rw[b2]at i2
            exact b0F i2
          |false=>
            rw[b2]at i2
            rw[b0v (s':=(3:Int)) i2]
            exact b0F rfl
theorem o0V {s:c0n} {p:a0y} {c:List Int} {A:i0W} (hz:isZ s.E_=true)(hp:v0Y p 1000)(h1: -2147483648≤p.f_)(h2:p.f_<2147483648)(hA:B0a A)(e0:c0p p s 0 c=some A.s_)(e1:c0p p s 1 c=some A.q_)(e2:c0p p s 2 c=some A.A_):c0i s p c=some (s0g s p A):=by
  unfold c0i s0g
  rw[t0m h1 h2,p0e hz h1 h2,w0M hp hA e0 e1 e2]
  simp only[aa]
  generalize(inZ s p.f_||btw s p.f_)=N
  generalize y0e A p.f_=B
  generalize decide (p.y_=0)=b1
  generalize decide (j0j p.f_=0)=b2
  generalize decide (j0j p.f_=4)=b3
  cases b1<;>cases b2<;>cases b3<;>cases N<;>cases B<;>rfl
/-- What a style asks of the numbers. -/
def y0t(g:Int)(p:a0y):Bool:=if g=2 then decide (p.d_>0)&&(decide (p.n_=0)&&(decide (p.e_=0)&&decide (p.j_=1)))else decide (p.d_=0)&&(decide (p.j_>0)||(decide (p.l_>0)&&(decide (g=0)||decide (g=1))))
theorem s0h {p:a0y} {g:Int} :g0b p g=some (y0t g p):=by
  unfold g0b y0t
  by_cases h2:g=2
  · rw[dT h2,if_pos h2]
    cases decide (p.d_>0)<;>cases decide (p.n_=0)<;>cases decide (p.e_=0)<;>cases decide (p.j_=1)<;>rfl
  · rw[dF h2,if_neg h2]
    cases decide (p.d_=0)<;>cases decide (p.j_>0)<;>cases decide (p.l_>0)<;>cases decide (g=0)<;>cases decide (g=1)<;>rfl
theorem u0h {p:a0y} {g:Int} (hc:r0L p)(g0:0≤g)(g3:g≤3): ∃u v,(bif(decide (g=2))then(bif(decide (p.d_=0))then(some true)else(bif(decide (p.n_>0))then(some true)else(bif(decide (p.e_>0))then(some true)else(bif(decide (¬p.j_=1))then(some true)else(bif(decide (¬g=2))then(some (decide (p.d_>0)))else(some false))))))else(bif(decide (¬g=2))then(some (decide (p.d_>0)))else(some false)))=some u∧(bif(decide (p.j_=0))then(bif(decide (p.l_=0))then(some true)else(some (decide (g>1))))else(some false))=some v∧y0t g p=(!u&& !v):=by
  obtain⟨c1,c2,c3,c4,c5,c6,c7,c8,c9⟩:=hc
  have pos: ∀ {x:Int},0≤x→decide (x>0)= !decide (x=0):=fun {x} h=>by
    by_cases e:x=0
    · rw[dT e,dF (by omega)];rfl
    · rw[dF e,dT (by omega)];rfl
  unfold y0t
  rw[pos c1.1,pos c2.1,pos c5.1,pos c7.1,pos c9.1,decide_not,decide_not]
  by_cases h2:g=2
  · rw[dT h2,if_pos h2,dT (show g>1 by omega)]
    by_cases d:p.j_=1
    · rw[dT d,dF (show¬p.j_=0 by omega)]
      cases decide (p.d_=0)<;>cases decide (p.n_=0)<;>cases decide (p.e_=0)<;>exact⟨_,_,rfl,rfl,rfl⟩
    · rw[dF d]
      cases decide (p.d_=0)<;>cases decide (p.n_=0)<;>cases decide (p.e_=0)<;>cases decide (p.j_=0)<;>cases decide (p.l_=0)<;>exact⟨_,_,rfl,rfl,rfl⟩
  · have hg:decide (g>1)= !(decide (g=0)||decide (g=1)):=by
      by_cases a:g=0
      · rw[dT a,dF (by omega)];rfl
      · by_cases b:g=1
        · rw[dF a,dT b,dF (by omega)];rfl
        · rw[dF a,dF b,dT (by omega)];rfl
    rw[dF h2,if_neg h2,hg]
    generalize(decide (g=0)||decide (g=1))=k
    cases decide (p.d_=0)<;>cases decide (p.j_=0)<;>cases decide (p.l_=0)<;>cases k<;>exact⟨_,_,rfl,rfl,rfl⟩

theorem B0N {p:a0y} {r:List a0b×List a0b} (h:b0L p 0=some r):r=(p.a_,p.b_):=by
  unfold b0L at h
  obtain⟨a,h1,h⟩:=a0f (show(Option.bind (b0h p.a_ []) fun y=>Option.bind (b0h p.b_ []) fun z=>some (y,z))=some r from h)
  obtain⟨c,h2,h⟩:=a0f h
  obtain⟨rfl,_⟩:=h0M (by simp) h1
  obtain⟨rfl,_⟩:=h0M (by simp) h2
  exact(oi h).symm
theorem s0c {s:c0n} {c:List Int} {t:a0b} {x:Int} :x∈pcV s c t↔x∈pcV s [] t∨(t.x_=4∧x∈c):=by
  unfold pcV
  by_cases k0:t.x_=0
  · rw[if_pos k0,if_pos k0];simp[k0]
  rw[if_neg k0,if_neg k0]
  by_cases k1:t.x_=1
  · rw[if_pos k1,if_pos k1];simp[k1]
  rw[if_neg k1,if_neg k1]
  by_cases k2:t.x_=2
  · rw[if_pos k2,if_pos k2];simp[k2]
  rw[if_neg k2,if_neg k2]
  by_cases k3:t.x_=3
  · rw[if_pos k3,if_pos k3];simp[k3]
  rw[if_neg k3,if_neg k3]
  by_cases k4:t.x_=4
  · rw[if_pos k4,if_pos k4];simp[k4]
  rw[if_neg k4,if_neg k4];simp[k4]
theorem A0J {s:c0n} {c:List Int} {x:Int} {l:List a0b} :x∈l.flatMap (pcV s c)↔x∈l.flatMap (pcV s [])∨((∃t∈l,t.x_=4)∧x∈c):=by
  rw[bw,bw]
  constructor
  · rintro⟨t,h1,h2⟩
    rcases s0c.1 h2 with h|⟨h,h3⟩
    · exact .inl ⟨t,h1,h⟩
    · exact .inr ⟨⟨t,h1,h⟩,h3⟩
  · rintro(⟨t,h1,h⟩|⟨⟨t,h1,h⟩,h3⟩)
    · exact⟨t,h1,s0c.2 (.inl h)⟩
    · exact⟨t,h1,s0c.2 (.inr ⟨h,h3⟩)⟩
theorem q0i {s:c0n} {c:List Int} {r:List a0b×List a0b} {x:Int} :l0v (afV s c r) x=true↔l0v (afV s [] r) x=true∨((∃t∈r.1++r.2,t.x_=4)∧x∈c):=by
  have one: ∀d:List Int,l0v (afV s d r) x=true↔x∈(r.1++r.2).flatMap (pcV s d):=fun d=>by
    unfold l0v afV
    simp only
    rw[decide_eq_true_eq,bd]
  rw[one,one,A0J]
/-- With the sign put in, its runes stand beside, and no others. -/
theorem y0d {p:a0y} {s:c0n} {c:List Int} {A B:i0W} {x:Int} (hA:u0S p s [] A)(hB:u0S p s c B)(h4:cnt (p.a_++p.b_) 4=1):y0e B x=(y0e A x||decide (x∈c)):=by
  obtain⟨r0,r1,r2,a0,a1,a2,rfl⟩:=hA
  obtain⟨r0',r1',r2',b0,b1,b2,rfl⟩:=hB
  obtain rfl:=oi (a0.symm.trans b0)
  obtain rfl:=oi (a1.symm.trans b1)
  obtain rfl:=oi (a2.symm.trans b2)
  obtain rfl:=B0N a0
  have hk: ∃t∈p.a_++p.b_,t.x_=4:=by
    unfold cnt at h4
    obtain⟨t,ht⟩:=List.exists_mem_of_length_pos (show 0<((p.a_++p.b_).filter fun t=>decide (t.x_=4)).length by omega)
    obtain⟨h1,h2⟩:=List.mem_filter.1 ht
    exact⟨t,h1,of_decide_eq_true h2⟩
  rw[Bool.eq_iff_iff]
  unfold y0e
  simp only[ba,decide_eq_true_eq]
  rw[q0i (c:=c),q0i (c:=c),q0i (c:=c)]
  constructor
  · rintro((h|⟨_,h⟩)|(h|⟨_,h⟩)|h|⟨_,h⟩)
    · exact .inl (.inl h)
    · exact .inr h
    · exact .inl (.inr (.inl h))
    · exact .inr h
    · exact .inl (.inr (.inr h))
    · exact .inr h
  · rintro((h|h|h)|h)
    · exact .inl (.inl h)
    · exact .inr (.inl (.inl h))
    · exact .inr (.inr (.inl h))
    · exact .inl (.inr ⟨hk,h⟩)
theorem A0M {T:Type} {c:Bool} {z:T} {f:Unit→Option T} :Option.bind (bif c then some (.inr z)else some (.inl ())) (a0g f)=(bif c then some z else f ()):=by cases c<;>rfl
theorem A0U {T:Type} {a:Bool} {z y:T} :(bif a then some z else some y)=some (bif a then z else y):=by cases a<;>rfl
theorem y0J {T:Type} {a b:Bool} {z y:T} :(bif a then z else bif b then z else y)=(bif(a||b)then z else y):=by cases a<;>cases b<;>rfl
theorem A0e {x:Int} (h:0≤x):decide (x>0)= !decide (x=0):=by
  by_cases e:x=0
  · rw[dT e,dF (by omega)];rfl
  · rw[dF e,dT (by omega)];rfl
theorem v0W {p:a0y} (h:v0Y p 120):v0Y p 1000:=by
  obtain⟨h1,h2,h3,h4⟩:=h
  exact⟨by omega,by omega,by omega,by omega⟩
/-- Money by either hand, for a pattern of its style. -/
theorem u0u {s:c0n} {p:a0y} {c:List Int} {A:i0W} (hs:w0j s)(hz:isZ s.E_=true)(hp:w0k p)(hc:c.length≤50)(hc2:q0q c)(hA:u0S p s [] A)(h4:cnt (p.a_++p.b_) 4=1)(hpd:s0g s p A=true): ∃m,i0h s p c=some m∧c0T s p c=some m:=by
  obtain⟨hl,ht,_,_,_,_,p1,p2,_⟩:=hp
  have hl:=v0W hl
  obtain⟨B,eB,hB,tB,e0,e1,e2⟩:=q0l (s:=s) (p:=p) (c:=c) hs (by omega) hc2 hl ht
  obtain⟨d1,d2⟩:=n0B hz hl hB eB e0 e1 e2
  have hpB:s0g s p B=(decide (p.y_=0)|| !decide (p.f_∈c)):=by
    unfold s0g at hpd⊢
    rw[y0d hA tB h4]
    revert hpd
    generalize decide (p.y_=0)=b1
    generalize decide (j0j p.f_=0)=b2
    generalize decide (j0j p.f_=4)=b3
    generalize(inZ s p.f_||btw s p.f_)=b4
    generalize y0e A p.f_=b5
    generalize decide (p.f_∈c)=b6
    cases b1<;>cases b2<;>cases b3<;>cases b4<;>cases b5<;>cases b6<;>decide
  have hcont:(bif(decide (¬p.y_=0))then(Option.bind (a0U c p.f_) fun y1=>(some y1))else(some false))=some (!s0g s p B):=by
    rw[hpB,decide_not,s0O (by omega)]
    cases decide (p.y_=0)<;>cases decide (p.f_∈c)<;>rfl
  unfold i0h c0T
  rw[hcont,d1,d2,t0h (by omega) hc2,r0D hz (by omega) hc2,o0V hz hl p1 p2 hB e0 e1 e2]
  unfold n0f
  simp only[aa]
  generalize((c.all fun r=> !inN s r)&&(z0U c&&h0y 0 c))=b1
  generalize s0g s p B=b2
  generalize k0q s B=b3
  by_cases l0:c.length=0
  · rw[dT (show(c.length:Int)=0 by omega),dF (show¬(c.length:Int)≥1 by omega)]
    exact⟨false,rfl,rfl⟩
  rw[dF (show¬(c.length:Int)=0 by omega),dT (show(c.length:Int)≥1 by omega)]
  by_cases l2:c.length≤20
  · rw[dF (show¬(c.length:Int)>20 by omega),dT (show(c.length:Int)≤20 by omega)]
    cases b1<;>cases b2<;>cases b3<;>exact⟨_,rfl,rfl⟩
  · rw[dT (show(c.length:Int)>20 by omega),dF (show¬(c.length:Int)≤20 by omega)]
    exact⟨false,rfl,rfl⟩
theorem r0k {p:a0y} (h:w0k p):A0h p:=by
  obtain⟨⟨h1,h2,h3,h4⟩,_⟩:=h
  exact⟨by omega,by omega,by omega,by omega⟩
theorem p0d:A0h zP:=by unfold zP;exact⟨by simp,by simp,by simp,by simp⟩
/-- A pattern of a style, by either hand. -/
theorem q0P {s:c0n} {g:Int} {t:List UInt8} (hs:w0j s)(hz:isZ s.E_=true)(ht:t.length≤400): ∃r,c0g s g t=some r∧c0w s g t=some r∧A0h r.1∧(r.2=true→w0k r.1∧r0E g (r.1.a_++r.1.b_) 0=true∧ ∃A,u0S r.1 s [] A∧s0g s r.1 A=true):=by
  obtain⟨p,ok,q,i,e,b,h1,h2,h3,h4,h5⟩:=q0I ht
  unfold c0g c0w
  rw[h1,h2,aa,aa,h3,aa]
  cases ok with
  |false=>
    refine⟨(zP,false),rfl, ?_,p0d,fun h=>by cases h⟩
    rcases h5 rfl with h|rfl
    · rw[dT h];rfl
    · cases decide (¬e=0)<;>rfl
  |true=>
    obtain⟨rfl,rfl,rfl,hg⟩:=h4 rfl
    by_cases g0:g<0
    · refine⟨(zP,false), ?_, ?_,p0d,fun h=>by cases h⟩<;> · rw[dT g0];rfl
    by_cases g3:g>3
    · refine⟨(zP,false), ?_, ?_,p0d,fun h=>by cases h⟩<;> · rw[dF g0,dT g3];rfl
    rw[dF g0,dF g3]
    simp only[aA,cond_false,aa,a0g]
    have hgg:=hg
    obtain⟨hl,hk,hc,_,k1,k2,p1,p2,_⟩:=hgg
    have hl:=v0W hl
    obtain⟨A,eA,hA,tA,e0,e1,e2⟩:=q0l (s:=s) (p:=p) (c:=[]) hs (by simp) (fun x hx=>by cases hx) hl hk
    obtain⟨d1,d2⟩:=n0B hz hl hA eA e0 e1 e2
    obtain⟨u,v,f1,f2,f3⟩:=u0h hc (show 0≤g by omega) (show g≤3 by omega)
    obtain⟨l1,l2,l3,l4⟩:=hl
    refine⟨bif y0t g p&&(r0E g (p.a_++p.b_) 0&&((!p.D_||r0E g (p.i_++p.h_) 1)&&(k0q s A&&s0g s p A)))then(p,true)else(zP,false), ?_, ?_, ?_, ?_⟩
    · rw[s0h,aa,n0Z l1 l2,aa,n0Z l3 l4,d1,v0y hz p1 p2 hA eA]
      simp only[aa]
      generalize y0t g p=b1
      generalize r0E g (p.a_++p.b_) 0=b2
      generalize r0E g (p.i_++p.h_) 1=b3
      generalize k0q s A=b4
      generalize s0g s p A=b5
      cases hn:p.D_<;>cases b1<;>cases b2<;>cases b3<;>cases b4<;>cases b5<;>rfl
    · rw[dF (not_not_intro trivial),f3]
      simp only[cond_false]
      rw[f1,f2,a0h (by omega),a0h (by omega),a0h (by omega),a0h (by omega),q0j (by simp;omega) k1,q0j (by simp;omega) k2,d2,o0V hz ⟨l1,l2,l3,l4⟩ p1 p2 hA e0 e1 e2]
      simp only[aa,cond_true]
      generalize r0E g (p.a_++p.b_) 0=b2
      generalize r0E g (p.i_++p.h_) 1=b3
      generalize k0q s A=b4
      generalize s0g s p A=b5
      cases u with
      |true=>cases v<;>rfl
      |false=>
        cases v with
        |true=>rfl
        |false=>cases hn:p.D_<;>cases b2<;>cases b3<;>cases b4<;>cases b5<;>rfl
    · cases y0t g p&&(r0E g (p.a_++p.b_) 0&&((!p.D_||r0E g (p.i_++p.h_) 1)&&(k0q s A&&s0g s p A)))
      · exact p0d
      · exact r0k hg
    · cases hb:y0t g p&&(r0E g (p.a_++p.b_) 0&&((!p.D_||r0E g (p.i_++p.h_) 1)&&(k0q s A&&s0g s p A)))with
      |false=>intro h;cases h
      |true=>
        intro _
        simp only[ac]at hb
        exact⟨hg,hb.2.1,A,tA,hb.2.2.2.2⟩

def A0B(c:Int):Bool:=(decide (97≤c)&&decide (c≤122))||(decide (65≤c)&&decide (c≤90))
def t0a(c:Int):Bool:=A0B c||(decide (c=45)||(decide (48≤c)&&decide (c≤57)))
theorem v0V(c:Int):g0J c=some (A0B c):=by
  unfold g0J f0O A0B
  cases decide (97≤c)<;>cases decide (c≤122)<;>cases decide (65≤c)<;>cases decide (c≤90)<;>rfl
theorem A0n(c:Int):(Option.bind (g0J c) fun y0=>(bif(!y0)then(bif(decide (¬c=45))then(bif(decide (c<48))then(some true)else(some ((decide (c>57)))))else(some false))else(some false)))=some (!t0a c):=by
  rw[v0V]
  unfold t0a
  simp only[aa]
  cases A0B c with
  |true=>rfl
  |false=>
    simp only[Bool.not_false,cond_true,Bool.false_or]
    by_cases h1:c=45
    · subst h1;rfl
    · rw[dT h1,dF h1]
      by_cases h2:c<48
      · rw[dT h2,dF (show¬48≤c by omega)];rfl
      · rw[dF h2,dT (show 48≤c by omega)]
        by_cases h3:c>57
        · rw[dT h3,dF (show¬c≤57 by omega)];rfl
        · rw[dF h3,dT (show c≤57 by omega)];rfl
def x0j(s:List UInt8):Bool:= !decide (s.length=0)&&(decide (s.length≤20)&&(a0N s).all t0a)
theorem A0m(s:List UInt8):l0j s=some (x0j s):=by
  unfold l0j x0j
  by_cases h0:s.length=0
  · rw[dT (show(s.length:Int)=0 by omega),dT h0];rfl
  rw[dF (show¬(s.length:Int)=0 by omega),dF h0]
  by_cases h1:s.length≤20
  · rw[dF (show¬(s.length:Int)>20 by omega),dT h1]
    simp only[cond_false,aa,a0g,Bool.not_false,bI]
    have hL:(a0N s).length=s.length:=f0S s
    refine f0T (fun o=>o=if(a0N s).all t0a=true then .inl ()else .inr false) ⟨_,i0E t0a (a0N s) (fun pre=>(pre.length:Int)) (.inl ()) (.inr false) rfl (fun pre r suf h=> ?_) ?_ (by omega),rfl⟩ ?_
    · have hl':(pre++r::suf).length≤4611686018427387904:=by rw[←h];omega
      rw[h,h0p,f0P,e0S,A0n]
      simp only[cond_true,aa]
      rw[m0X hl']
      cases t0a r<;>simp[a0g]
    · rw[g0m];rfl
    · rintro o rfl
      cases(a0N s).all t0a<;>rfl
  · rw[dT (show(s.length:Int)>20 by omega),dF h1];rfl

theorem z0t(k:Int):(Option.bind (j0G k) fun y2=>some (y2==([]:List UInt8)))=some (decide (k<0)||decide (k>5)):=by
  unfold j0G i0a
  by_cases h0:k<0
  · rw[dT h0];rfl
  by_cases h1:k>5
  · rw[dF h0,dT h1,dT (show k≥6 by omega)];rfl
  rw[dF h0,dF h1,dF (show¬k≥6 by omega)]
  rcases(show k=0∨k=1∨k=2∨k=3∨k=4∨k=5 by omega)with rfl|rfl|rfl|rfl|rfl|rfl<;>rfl
theorem y0I {a b:Bool} :(bif a then some true else some b)=some (a||b):=by cases a<;>rfl
/-- A short form by either hand. -/
theorem u0d {s:c0n} {c:m0i} (hs:w0j s)(hz:isZ s.E_=true)(ht:c.T_.length≤400): ∃r,g0W s c=some r∧c0S s c=some r∧A0h r.1:=by
  obtain⟨p,ok,q,i,e,b,h1,h2,h3,h4,h5⟩:=q0I ht
  unfold g0W c0S
  rw[h1,h2,aa,aa,h3,aa]
  cases ok with
  |false=>
    refine⟨(zP,false),rfl, ?_,p0d⟩
    rcases h5 rfl with h|rfl
    · rw[dT h];rfl
    · cases decide (¬e=0)<;>rfl
  |true=>
    obtain⟨rfl,rfl,rfl,hg⟩:=h4 rfl
    have hgg:=hg
    obtain⟨hl,hk,hc,_,k1,k2,p1,p2,hpa⟩:=hgg
    have hl:=v0W hl
    obtain⟨A,eA,hA,tA,e0,e1,e2⟩:=q0l (s:=s) (p:=p) (c:=[]) hs (by simp) (fun x hx=>by cases hx) hl hk
    obtain⟨d1,d2⟩:=n0B hz hl hA eA e0 e1 e2
    obtain⟨c1,c2,c3,c4,c5,c6,c7,c8,c9⟩:=hc
    obtain⟨l1,l2,l3,l4⟩:=hl
    simp only[aA,cond_false]
    rw[z0t,d1,d2,n0Z l1 l2,q0j (by simp;omega) k1,a0h (by omega),a0h (by omega),A0e c1.1,A0e c5.1,A0e c4.1,A0e c7.1,A0e c9.1,A0e hpa,dF (not_not_intro trivial)]
    generalize decide (c.L_<2)=m1
    generalize decide (c.L_>30)=m2
    generalize decide (c.Q_<0)=m3
    generalize decide (c.Q_>5)=m4
    generalize decide (p.j_<1)=m5
    generalize decide (p.j_≥c.L_)=m6
    generalize decide (IntKind.wrap .i64 ((p.a_.length:Int)+(p.b_.length:Int))=0)=m7
    generalize decide (p.n_=0)=n1
    generalize decide (p.e_=0)=n2
    generalize decide (p.k_=0)=n3
    generalize decide (p.l_=0)=n4
    generalize decide (p.d_=0)=n5
    generalize decide (p.y_=0)=n6
    generalize r0E 0 (p.a_++p.b_) 0=a1
    generalize k0q s A=a2
    have hz2:((⟨([]:List a0b),([]:List a0b),([]:List a0b),([]:List a0b),false,0,0,0,0,0,0,0,0,0,false,0,0⟩:a0y),false)=(zP,false):=rfl
    rw[hz2]
    have hlz:=p0d
    generalize zP=Z at*
    refine⟨bif m1||(m2||(m3||(m4||(m5||(m6||(p.D_||(m7||(!n1||(!n2||(!n3||(!n4||(!n5||(!n6||(!a1|| !a2))))))))))))))then(Z,false)else(p,true), ?_, ?_, ?_⟩
    · simp only[aa,y0I,A0M]
      simp only[A0U,y0J,Bool.and_true,Bool.not_and,Bool.or_assoc]
    · simp only[aa,cond_true,y0I,A0M]
      simp only[A0U,y0J,Bool.and_true,Bool.not_and,Bool.or_assoc,Bool.false_or]
      refine congrArg (fun b:Bool=>some (bif b then(Z,false)else(p,true))) ?_
      ac_rfl
    · cases m1||(m2||(m3||(m4||(m5||(m6||(p.D_||(m7||(!n1||(!n2||(!n3||(!n4||(!n5||(!n6||(!a1|| !a2))))))))))))))
      · exact r0k hg
      · exact hlz

theorem ltN {a b:Int} :decide (a<b)= !decide (b≤a):=by
  by_cases h:b≤a
  · rw[dT h,dF (by omega)];rfl
  · rw[dF h,dT (by omega)];rfl
theorem gtN {a b:Int} :decide (a>b)= !decide (a≤b):=by
  by_cases h:a≤b
  · rw[dT h,dF (by omega)];rfl
  · rw[dF h,dT (by omega)];rfl
theorem z0b(s:List UInt8)(hs:s.length≤100000):d0H s=some (x0j s):=by
  unfold d0H x0j
  rw[i0E (fun r:UInt8=>t0a ((r.toNat:Nat):Int)) s (fun pre=>(pre.length:Int)) (.inl ()) (.inr false) (s0:=(0:Int)) rfl (fun pre r suf h=> ?_) (by rw[g0m];rfl) (by omega),aa]
  · have hb:(a0N s).all t0a=s.all (fun r:UInt8=>t0a ((r.toNat:Nat):Int)):=by
      unfold a0N
      rw[List.all_map];rfl
    rw[hb]
    by_cases h0:s.length=0
    · rw[dT h0,dF (show¬(s.length:Int)≥1 by omega)]
      cases s.all (fun r:UInt8=>t0a ((r.toNat:Nat):Int))<;>rfl
    rw[dF h0,dT (show(s.length:Int)≥1 by omega)]
    by_cases h1:s.length≤20
    · rw[dT h1,dT (show(s.length:Int)≤20 by omega)]
      cases s.all (fun r:UInt8=>t0a ((r.toNat:Nat):Int))<;>rfl
    · rw[dF h1,dF (show¬(s.length:Int)≤20 by omega)]
      cases s.all (fun r:UInt8=>t0a ((r.toNat:Nat):Int))<;>rfl
  · have hb:(pre++r::suf).length≤4611686018427387904:=by rw[←h];omega
    have hr:(pre++r::suf).getD (pre.length:Int).toNat 0=r:=by simp
    rw[h,h0p,f0P,hr,m0X hb]
    generalize((r.toNat:Nat):Int)=c
    unfold t0a A0B
    simp only[ltN,gtN,decide_not]
    cases decide (97≤c)<;>cases decide (c≤122)<;>cases decide (65≤c)<;>cases decide (c≤90)<;>cases decide (48≤c)<;>cases decide (c≤57)<;>cases decide (c=45)<;>rfl

theorem A0H {s:c0n} (hs:w0j s):Tot (d0u s) (fun b=>b=true→isZ s.E_=true):=by
  unfold d0u
  unfold w0j at hs
  generalize hL:([s.B_,s.z_,s.w_,s.v_,s.u_,s.d_]:List Int)=L at hs
  have hlen:L.length=6:=by rw[←hL];rfl
  refine tJ (tW (fun s:Int=>s) L.length (fun _=>True) (by omega) ⟨trivial,aB _,by omega⟩ (fun i _ g0 g1=> ?_) (fun i _ e=>tN (dF (by omega)) (tR ?_)))
  · have hin:=a0J g0 g1
    have hr:=hs _ (i0D g0 g1)
    refine tY (dT g1) (tJ (tY hin (tY hin ?_)))
    rw[t0m hr.1 hr.2,aa]
    refine tJ (tB (p:=fun _=>True) (tI (fun _=>tR trivial) (fun _=>tR trivial)) (fun b _=>tI (fun _=>tR (fun h=>by cases h)) (fun _=>tR (show Tot _ _ from ?_))))
    refine tW (fun s:Int=>s) i.toNat (fun _=>True) (by omega) ⟨trivial,aB _,show(0:Int)≤(i.toNat:Int) by omega⟩ (fun k _ k0 k1=> ?_) (fun k _ e=>tN (dF (by omega)) (tR ?_))
    · have hk:=a0J (n:=L.length) k0 (show k<(L.length:Int) by omega)
      exact tY (dT (by omega)) (tY hk (tY hk (tY hin (tY hin (tI (fun _=>tR (fun h=>by cases h)) (fun _=>tR ⟨trivial,w64 (by omega) (by omega)⟩))))))
    · exact tR ⟨trivial,w64 (by omega) (by omega)⟩
  · rw[x0u]
    exact tR (fun h=>h)

theorem u0c:d0V=some true:=by kernel_rfl
theorem y0Z {s:c0n} (w:t0Q s):w0j s:=by
  obtain⟨_,w1,w2,w3,w4,w5,w6⟩:=w
  intro x hx
  simp only[aG,bM,or_false]at hx
  rcases hx with rfl|rfl|rfl|rfl|rfl|rfl
  · exact n0y w1
  · exact n0y w2
  · exact n0y w3
  · exact n0y w4
  · exact n0y w5
  · exact n0y w6
theorem u0L(x:A0k)(w:y0O x):d0d x=some true:=by
  obtain⟨w0,_,_,w3,_⟩:=w
  have hs:=y0Z w0
  obtain⟨g,eg,hz⟩:=A0H hs
  unfold d0d
  rw[u0c,aa,eg,aa]
  cases g with
  |false=>rfl
  |true=>
    have hz:=hz rfl
    by_cases l1:(x.O_.length:Int)>400
    · rw[dT l1];rfl
    by_cases l2:(x.M_.length:Int)>50
    · rw[dF l1,dT l2];rfl
    by_cases l3:(x.C_.T_.length:Int)>400
    · rw[dF l1,dF l2,dT l3];rfl
    rw[dF l1,dF l2,dF l3]
    simp only[aA,cond_false,aa,a0g]
    obtain⟨⟨p,ok⟩,a1,a2,a3,a4⟩:=q0P (s:=x.S_) (g:=x.P_) (t:=x.O_) hs hz (by omega)
    obtain⟨⟨q,qk⟩,b1,b2,b3⟩:=u0d (s:=x.S_) (c:=x.C_) hs hz (by omega)
    rw[a1,a2,b1,b2]
    simp only[aa]at a3 a4 b3⊢
    rw[n0i a3,n0i b3,dT rfl,dT rfl,A0m,z0b _ (by omega)]
    have hne: ∀b:Bool,(b !=b)=false:=fun b=>by cases b<;>rfl
    simp only[aa,aA,cond_false,hne]
    have hpow:(bif qk then(Option.bind (g0X x.C_ q) fun y6=>(Option.bind (d0R x.C_ q) fun y7=>(some (decide (¬y6=y7)))))else(some false))=some false:=by
      cases qk with
      |false=>rfl
      |true=>
        show some (decide (¬IntKind.wrap .i64 (x.C_.L_-q.j_)=IntKind.wrap .i64 (x.C_.L_-q.j_)))=_
        rw[dF (not_not_intro rfl)]
    rw[hpow]
    simp only[aa,cond_false,cond_true]
    cases ok with
    |false=>rfl
    |true=>
      by_cases h3:x.P_=3
      · obtain⟨hg,hk,A,tA,hp⟩:=a4 rfl
        have h4:cnt (p.a_++p.b_) 4=1:=by
          unfold r0E at hk
          simp only[ac,decide_eq_true_eq]at hk
          have:=hk.2.1
          rw[if_pos h3]at this
          omega
        obtain⟨m,m1,m2⟩:=u0u (c:=x.M_) hs hz hg (by omega) (fun z hz=>n0y (w3.2 z hz)) tA h4 hp
        rw[m1,m2,dF (not_not_intro h3)]
        cases m<;>rfl
      · rw[dT h3];rfl

def o0K {H : Type} : List (String × DataW H) := [("math/bits.deBruijn32tab", Rows.laid_math_bits_deBruijn32tab), ("math/bits.deBruijn64tab", Rows.laid_math_bits_deBruijn64tab), ("internal/strconv.uint64pow10", Rows.laid_internal_strconv_uint64pow10), ("exergue/class.noughts", Rows.laid_exergue_class_noughts)]
theorem x0Y(os:Os)(args:Array Value):laidMetH Tryz.prog o0K ((World.doorLaid Tryz.prog 4000 os).forCall (fun _ _=>0) ⟨#[],args,[]⟩).memory:=
  laidMetH_of_parts3 (fuel:=8) (laidMet_of_run' 8 (by kernel_rfl) (by kernel_rfl)) (by kernel_rfl) (by kernel_rfl)

/-- Package variables hold what they are said to. -/
theorem x0W {W:World} (hL:laidMetH Tryz.prog o0K W):k0Y W (KW W) fun _=>none:=fun g cs h=>by
  have hh:(o0K (H:=Unit)).all (fun x=>x.2.handleName?.isNone)=true:=by kernel_rfl
  by_cases h0:g=0
  · subst h0
    obtain rfl:=aZ (show some [.int .i32 48, .int .i32 1632, .int .i32 1776, .int .i32 1984, .int .i32 2406, .int .i32 2534, .int .i32 2662, .int .i32 2790, .int .i32 2918, .int .i32 3046, .int .i32 3174, .int .i32 3302, .int .i32 3430, .int .i32 3664, .int .i32 3792, .int .i32 3872, .int .i32 6112, .int .i32 6160, .int .i32 65296, .int .i32 120782]=some cs from h)
    exact l0W hh hL (nm := "exergue/class.noughts") (t := 172) (e := 21) (n := 20) (k := .i32) [48, 1632, 1776, 1984, 2406, 2534, 2662, 2790, 2918, 3046, 3174, 3302, 3430, 3664, 3792, 3872, 6112, 6160, 65296, 120782] (by unfold o0K; simp only [aG, bM, or_false]; first | exact Or.inl rfl | exact Or.inr (Or.inl rfl) | exact Or.inr (Or.inr (Or.inl rfl)) | exact Or.inr rfl | exact Or.inr (Or.inr rfl) | exact Or.inr (Or.inr (Or.inr rfl)) | rfl) (by kernel_rfl) (by kernel_rfl) Tryz.underlying172 Tryz.underlying21 (by kernel_rfl) (by kernel_rfl)
  by_cases h2:g=2
  · subst h2
    obtain rfl:=aZ (show some [.int .u64 1, .int .u64 10, .int .u64 100, .int .u64 1000, .int .u64 10000, .int .u64 100000, .int .u64 1000000, .int .u64 10000000, .int .u64 100000000, .int .u64 1000000000, .int .u64 10000000000, .int .u64 100000000000, .int .u64 1000000000000, .int .u64 10000000000000, .int .u64 100000000000000, .int .u64 1000000000000000, .int .u64 10000000000000000, .int .u64 100000000000000000, .int .u64 1000000000000000000, .int .u64 10000000000000000000]=some cs from h)
    exact l0W hh hL (nm := "internal/strconv.uint64pow10") (t := 250) (e := 241) (n := 20) (k := .u64) [1, 10, 100, 1000, 10000, 100000, 1000000, 10000000, 100000000, 1000000000, 10000000000, 100000000000, 1000000000000, 10000000000000, 100000000000000, 1000000000000000, 10000000000000000, 100000000000000000, 1000000000000000000, 10000000000000000000] (by unfold o0K; simp only [aG, bM, or_false]; first | exact Or.inl rfl | exact Or.inr (Or.inl rfl) | exact Or.inr (Or.inr (Or.inl rfl)) | exact Or.inr rfl | exact Or.inr (Or.inr rfl) | exact Or.inr (Or.inr (Or.inr rfl)) | rfl) (by kernel_rfl) (by kernel_rfl) Tryz.underlying250 Tryz.underlying241 (by kernel_rfl) (by kernel_rfl)
  by_cases h3:g=3
  · subst h3
    obtain rfl:=aZ (show some [.int .u8 0, .int .u8 1, .int .u8 28, .int .u8 2, .int .u8 29, .int .u8 14, .int .u8 24, .int .u8 3, .int .u8 30, .int .u8 22, .int .u8 20, .int .u8 15, .int .u8 25, .int .u8 17, .int .u8 4, .int .u8 8, .int .u8 31, .int .u8 27, .int .u8 13, .int .u8 23, .int .u8 21, .int .u8 19, .int .u8 16, .int .u8 7, .int .u8 26, .int .u8 12, .int .u8 18, .int .u8 6, .int .u8 11, .int .u8 5, .int .u8 10, .int .u8 9]=some cs from h)
    exact l0W hh hL (nm := "math/bits.deBruijn32tab") (t := 257) (e := 5) (n := 32) (k := .u8) [0, 1, 28, 2, 29, 14, 24, 3, 30, 22, 20, 15, 25, 17, 4, 8, 31, 27, 13, 23, 21, 19, 16, 7, 26, 12, 18, 6, 11, 5, 10, 9] (by unfold o0K; simp only [aG, bM, or_false]; first | exact Or.inl rfl | exact Or.inr (Or.inl rfl) | exact Or.inr (Or.inr (Or.inl rfl)) | exact Or.inr rfl | exact Or.inr (Or.inr rfl) | exact Or.inr (Or.inr (Or.inr rfl)) | rfl) (by kernel_rfl) (by kernel_rfl) Tryz.underlying257 Tryz.underlying5 (by kernel_rfl) (by kernel_rfl)
  by_cases h4:g=4
  · subst h4
    obtain rfl:=aZ (show some [.int .u8 0, .int .u8 1, .int .u8 56, .int .u8 2, .int .u8 57, .int .u8 49, .int .u8 28, .int .u8 3, .int .u8 61, .int .u8 58, .int .u8 42, .int .u8 50, .int .u8 38, .int .u8 29, .int .u8 17, .int .u8 4, .int .u8 62, .int .u8 47, .int .u8 59, .int .u8 36, .int .u8 45, .int .u8 43, .int .u8 51, .int .u8 22, .int .u8 53, .int .u8 39, .int .u8 33, .int .u8 30, .int .u8 24, .int .u8 18, .int .u8 12, .int .u8 5, .int .u8 63, .int .u8 55, .int .u8 48, .int .u8 27, .int .u8 60, .int .u8 41, .int .u8 37, .int .u8 16, .int .u8 46, .int .u8 35, .int .u8 44, .int .u8 21, .int .u8 52, .int .u8 32, .int .u8 23, .int .u8 11, .int .u8 54, .int .u8 26, .int .u8 40, .int .u8 15, .int .u8 34, .int .u8 20, .int .u8 31, .int .u8 10, .int .u8 25, .int .u8 14, .int .u8 19, .int .u8 9, .int .u8 13, .int .u8 8, .int .u8 7, .int .u8 6]=some cs from h)
    exact l0W hh hL (nm := "math/bits.deBruijn64tab") (t := 258) (e := 5) (n := 64) (k := .u8) [0, 1, 56, 2, 57, 49, 28, 3, 61, 58, 42, 50, 38, 29, 17, 4, 62, 47, 59, 36, 45, 43, 51, 22, 53, 39, 33, 30, 24, 18, 12, 5, 63, 55, 48, 27, 60, 41, 37, 16, 46, 35, 44, 21, 52, 32, 23, 11, 54, 26, 40, 15, 34, 20, 31, 10, 25, 14, 19, 9, 13, 8, 7, 6] (by unfold o0K; simp only [aG, bM, or_false]; first | exact Or.inl rfl | exact Or.inr (Or.inl rfl) | exact Or.inr (Or.inr (Or.inl rfl)) | exact Or.inr rfl | exact Or.inr (Or.inr rfl) | exact Or.inr (Or.inr (Or.inr rfl)) | rfl) (by kernel_rfl) (by kernel_rfl) Tryz.underlying258 Tryz.underlying5 (by kernel_rfl) (by kernel_rfl)
  exfalso
  have:x0U g=none:=by
    unfold x0U
    split<;>first|rfl|(exfalso;simp_all)
  rw[show B0h g=x0U g from rfl,this]at h
  cases h

set_option maxRecDepth 100000 in
theorem o0C(os:Os)(started:os.Started)(H:Type)(enc:TypeId×Value→H):
    ReturnsInHanded {} Tryz.checked os 3 .any (fun w args=>(Rows.locTellsSpec.pre enc Tryz.prog Tryz.f3 [] false w args∧laidMetH Tryz.prog o0K w)∧sizedMet enc Tryz.prog Tryz.f3 (OpenSpec.ofChange Rows.locTellsSpec) false w args) (Rows.locTellsSpec.post enc Tryz.prog Tryz.f3 false true false false):=by
  refine returnsInHanded_of_change_and (C:=Tryz.checked) (X:=fun w _=>laidMetH Tryz.prog o0K w) (fun _ _ _ hh h=>h.of_heap hh) Tryz.own started (by kernel_rfl) Tryz.func3
    (ChangeSpec.witness_shaped (enc:=enc) (C:=Tryz.checked) (os:=os) (X:=fun w _=>laidMetH Tryz.prog o0K w) false (World.doorLaid Tryz.prog 4000 os) #[.agg #[.int .i32 0, .int .i32 0, .int .i32 0, .int .i32 0, .int .i32 0, .int .i32 0, .int .i32 0, .int .i64 0, .string ⟨#[]⟩, .slice none 0 0, .int .i64 0, .int .i64 0, .string ⟨#[]⟩]] 8 rfl (World.shaped_of_RefB (by kernel_rfl) (by kernel_rfl)) (by kernel_rfl) (by kernel_rfl) (by kernel_rfl) (x0Y os _)) ?_
  intro W base args ds gs before hval0 hW _ hsz0 hL _
  have hsz:(DataW.weightsEach Tryz.prog (Tryz.f3.params.toList++Rows.locTellsSpec.plain.varTypes Tryz.prog) (ds++gs)).all (· ≤reachBytes)=true:=hsz0
  clear hsz0
  refine x0O (P:=Tryz.prog) (n:=3) (tb:=4) Tryz.laidOut Tryz.underlying4 rfl rfl (by kernel_rfl) (fun h=> ?_) hval0 hW ?_ (x0W hL)
  · rw[Tryz.params3]at h
    obtain⟨d0,rfl⟩:=l1 h
    exact⟨rfl,rfl,rfl⟩
  · intro ss hg hl1 hl2 hs
    subst hg
    rw[Tryz.params3]at hl1 hl2 hs hsz
    obtain⟨d0,rfl⟩:=l1 hl1
    obtain⟨s0,rfl⟩:=l1 hl2
    obtain⟨cs0,rfl,hc0⟩:=p0z Tryz.underlying28 (hs 0 28 _ _ rfl rfl rfl)
    obtain⟨a0,rfl,w0⟩:=u0V (n:=0) _ _ hc0 (r0S hsz (j:=0) rfl rfl)
    exact⟨[],i0k (u0L a0 w0)⟩
theorem r0J:Rows.LocTellsSaid:=
  OpenClaim.holds_of_wide 3 Tryz.f3 rfl rfl rfl rfl rfl rfl rfl ⟨rfl,rfl,rfl,rfl,rfl⟩ rfl rfl rfl rfl rfl (by kernel_rfl) Tryz.func3 (by kernel_rfl)
    (of_decide_eq_true (by kernel_rfl)) (by unfold Func.isWrapper;first|(rw[if_pos (by decide+kernel)];kernel_rfl)|(rw[if_neg (by decide+kernel)];exact⟨rfl,rfl⟩))
    (fun os started H enc _=>o0C os started H enc)

theorem LocTells_holds:Rows.LocTellsCardSaid:=
  Claim7.holds_tied_plain_at .later [] [.data, .data, .data, .data] true (true, "de599d8f743361fb38ba7e693bad57f7b00ee969443c7958de219e14c746c2b3") false
    r0J (fun _ h=>by cases h) (by kernel_rfl) (fun _ h=>by cases h) locTells_row_tie rfl ⟨rfl,rfl⟩ (by kernel_rfl) rfl
    (fun f fn hf hfn=>by
      obtain rfl : f = 3 := aZ ((show Tryz.prog.funcNamed "exergue/exerguelaw15.LocTells" = some 3 by kernel_rfl).symm.trans hf) |>.symm
      obtain rfl:fn=Tryz.f3:=(aZ (Tryz.func3.symm.trans hfn)).symm
      exact⟨by kernel_rfl,fun j t ht=>by
        rw[Tryz.params3]at ht
        have hm:t∈ [28]:=by simpa using Array.mem_of_getElem? ht
        have hall:([28].all fun u=> !Tryz.prog.wantsStandIn u)=true:=by kernel_rfl
        exact(show Tryz.prog.wantsStandIn t=false by simpa using List.all_eq_true.1 hall t hm)⟩)
    (by kernel_rfl)

end Go.Proofs.YtcapcgbamehojaaGreatDoor
