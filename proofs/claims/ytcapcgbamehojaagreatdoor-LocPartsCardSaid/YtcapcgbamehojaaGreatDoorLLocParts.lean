/-
  The statement LocPartsCard is proved: at every input the law answers true, and its input reads as it did. Conditions: those of the card (package variables are as the program text lays them).
-/
import Derived.Test.YtcapcgbamehojaaGreatDoorP
import Derived.Test.YtcapcgbamehojaaGreatDoorSyGL
import Derived.Test.YtcapcgbamehojaaGreatDoorCards
import Derived.Test.YtcapcgbamehojaaGreatDoorTie
import Derived.ProofKit
import Derived.SizedLaws
import Derived.LaidMore
import Derived.SevenTiedAt
namespace Go.Proofs.YtcapcgbamehojaaGreatDoor
open Go Go.Sy Go.RowKit Go.ChangeShapes Go.WideShapes Go.ChangeAt
set_option linter.unusedVariables false
set_option linter.unusedSimpArgs false
set_option maxRecDepth 100000
set_option maxHeartbeats 4000000

theorem Tryz.own:ownKnob Tryz.prog.godebug=none:=by kernel_rfl
theorem Tryz.laidOut:laidOutB Tryz.prog=true:=by kernel_rfl

theorem z0A {α:Type} {l:List α} (h:l.length=2): ∃a0 a1,l=[a0,a1]:=by
  match l,h with
  | [a0,a1],_=>exact⟨a0,a1,rfl⟩
theorem w0V {α:Type} {l:List α} (h:l.length=3): ∃a0 a1 a2,l=[a0,a1,a2]:=by
  match l,h with
  | [a0,a1,a2],_=>exact⟨a0,a1,a2,rfl⟩
theorem z0z {α:Type} {l:List α} (h:l.length=4): ∃a0 a1 a2 a3,l=[a0,a1,a2,a3]:=by
  match l,h with
  | [a0,a1,a2,a3],_=>exact⟨a0,a1,a2,a3,rfl⟩
theorem z0y {α:Type} {l:List α} (h:l.length=7): ∃a0 a1 a2 a3 a4 a5 a6,l=[a0,a1,a2,a3,a4,a5,a6]:=by
  match l,h with
  | [a0,a1,a2,a3,a4,a5,a6],_=>exact⟨a0,a1,a2,a3,a4,a5,a6,rfl⟩
theorem x0Z {α:Type} {l:List α} (h:l.length=15): ∃a0 a1 a2 a3 a4 a5 a6 a7 a8 a9 a10 a11 a12 a13 a14,l=[a0,a1,a2,a3,a4,a5,a6,a7,a8,a9,a10,a11,a12,a13,a14]:=by
  match l,h with
  | [a0,a1,a2,a3,a4,a5,a6,a7,a8,a9,a10,a11,a12,a13,a14],_=>exact⟨a0,a1,a2,a3,a4,a5,a6,a7,a8,a9,a10,a11,a12,a13,a14,rfl⟩
/-- Its numbers are numbers of their kinds, its lists no longer than memory. -/
def r0J(x:e0h):Prop:=(WfI .i32) x.u_∧(WfI .i32) x.m_∧(WfI .i32) x.o_∧(WfI .i32) x.l_∧(WfI .i32) x.k_∧(WfI .i32) x.j_∧(WfI .i32) x.i_
theorem s0Y {n:Nat} :n0d Tryz.prog (n+2) 23 a0w r0J:=fun d cs h hs=>by
  have hl:cs.length=7:=(i0x Tryz.underlying23 h).trans (by kernel_rfl)
  obtain⟨c0,c1,c2,c3,c4,c5,c6,rfl⟩:=z0y hl
  obtain⟨p0,h0,z0⟩:=a0S Tryz.underlying23 h hs 0 21 [c0] (by kernel_rfl)
  obtain⟨x0,e0,w0⟩: ∃x:Int,[c0]=(a0q .i32) x∧(WfI .i32) x:=(d0I Tryz.underlying21) p0 _ h0 z0
  obtain⟨p1,h1,z1⟩:=a0S Tryz.underlying23 h hs 1 21 [c1] (by kernel_rfl)
  obtain⟨x1,e1,w1⟩: ∃x:Int,[c1]=(a0q .i32) x∧(WfI .i32) x:=(d0I Tryz.underlying21) p1 _ h1 z1
  obtain⟨p2,h2,z2⟩:=a0S Tryz.underlying23 h hs 2 21 [c2] (by kernel_rfl)
  obtain⟨x2,e2,w2⟩: ∃x:Int,[c2]=(a0q .i32) x∧(WfI .i32) x:=(d0I Tryz.underlying21) p2 _ h2 z2
  obtain⟨p3,h3,z3⟩:=a0S Tryz.underlying23 h hs 3 21 [c3] (by kernel_rfl)
  obtain⟨x3,e3,w3⟩: ∃x:Int,[c3]=(a0q .i32) x∧(WfI .i32) x:=(d0I Tryz.underlying21) p3 _ h3 z3
  obtain⟨p4,h4,z4⟩:=a0S Tryz.underlying23 h hs 4 21 [c4] (by kernel_rfl)
  obtain⟨x4,e4,w4⟩: ∃x:Int,[c4]=(a0q .i32) x∧(WfI .i32) x:=(d0I Tryz.underlying21) p4 _ h4 z4
  obtain⟨p5,h5,z5⟩:=a0S Tryz.underlying23 h hs 5 21 [c5] (by kernel_rfl)
  obtain⟨x5,e5,w5⟩: ∃x:Int,[c5]=(a0q .i32) x∧(WfI .i32) x:=(d0I Tryz.underlying21) p5 _ h5 z5
  obtain⟨p6,h6,z6⟩:=a0S Tryz.underlying23 h hs 6 21 [c6] (by kernel_rfl)
  obtain⟨x6,e6,w6⟩: ∃x:Int,[c6]=(a0q .i32) x∧(WfI .i32) x:=(d0I Tryz.underlying21) p6 _ h6 z6
  refine⟨⟨x0,x1,x2,x3,x4,x5,x6⟩, ?_,⟨w0,w1,w2,w3,w4,w5,w6⟩⟩
  show [c0]++ [c1]++ [c2]++ [c3]++ [c4]++ [c5]++ [c6]=((a0q .i32) x0++(a0q .i32) x1++(a0q .i32) x2++(a0q .i32) x3++(a0q .i32) x4++(a0q .i32) x5++(a0q .i32) x6)
  rw[e0,e1,e2,e3,e4,e5,e6]
/-- Its numbers are numbers of their kinds, its lists no longer than memory. -/
def v0b(x:y0T):Prop:=WfT x.e_∧WfT x.f_∧WfT x.n_∧WfT x.s_
theorem s0W {n:Nat} :n0d Tryz.prog (n+2) 42 m0D v0b:=fun d cs h hs=>by
  have hl:cs.length=4:=(r0T Tryz.underlying42 h).trans (by kernel_rfl)
  obtain⟨c0,c1,c2,c3,rfl⟩:=z0z hl
  obtain⟨p0,h0,z0⟩:=j0k Tryz.underlying42 h hs 0 [c0] (by kernel_rfl) (by kernel_rfl)
  obtain⟨x0,e0,w0⟩: ∃x:List UInt8,[c0]=n0w x∧WfT x:=(e0L Tryz.underlying9) p0 _ h0 z0
  obtain⟨p1,h1,z1⟩:=j0k Tryz.underlying42 h hs 1 [c1] (by kernel_rfl) (by kernel_rfl)
  obtain⟨x1,e1,w1⟩: ∃x:List UInt8,[c1]=n0w x∧WfT x:=(e0L Tryz.underlying9) p1 _ h1 z1
  obtain⟨p2,h2,z2⟩:=j0k Tryz.underlying42 h hs 2 [c2] (by kernel_rfl) (by kernel_rfl)
  obtain⟨x2,e2,w2⟩: ∃x:List UInt8,[c2]=n0w x∧WfT x:=(e0L Tryz.underlying9) p2 _ h2 z2
  obtain⟨p3,h3,z3⟩:=j0k Tryz.underlying42 h hs 3 [c3] (by kernel_rfl) (by kernel_rfl)
  obtain⟨x3,e3,w3⟩: ∃x:List UInt8,[c3]=n0w x∧WfT x:=(e0L Tryz.underlying9) p3 _ h3 z3
  refine⟨⟨x0,x1,x2,x3⟩, ?_,⟨w0,w1,w2,w3⟩⟩
  show [c0]++ [c1]++ [c2]++ [c3]=(n0w x0++n0w x1++n0w x2++n0w x3)
  rw[e0,e1,e2,e3]
/-- Its numbers are numbers of their kinds, its lists no longer than memory. -/
def p0U(x:k0S):Prop:=(WfI .i64) x.F_∧WfT x.H_
theorem s0T {n:Nat} :n0d Tryz.prog (n+2) 92 c0h p0U:=fun d cs h hs=>by
  have hl:cs.length=2:=(i0x Tryz.underlying92 h).trans (by kernel_rfl)
  obtain⟨c0,c1,rfl⟩:=z0A hl
  obtain⟨p0,h0,z0⟩:=a0S Tryz.underlying92 h hs 0 3 [c0] (by kernel_rfl)
  obtain⟨x0,e0,w0⟩: ∃x:Int,[c0]=(a0q .i64) x∧(WfI .i64) x:=(d0I Tryz.underlying3) p0 _ h0 z0
  obtain⟨p1,h1,z1⟩:=a0S Tryz.underlying92 h hs 1 9 [c1] (by kernel_rfl)
  obtain⟨x1,e1,w1⟩: ∃x:List UInt8,[c1]=n0w x∧WfT x:=(e0L Tryz.underlying9) p1 _ h1 z1
  refine⟨⟨x0,x1⟩, ?_,⟨w0,w1⟩⟩
  show [c0]++ [c1]=((a0q .i64) x0++n0w x1)
  rw[e0,e1]
/-- Its numbers are numbers of their kinds, its lists no longer than memory. -/
def p0V(x:l0S):Prop:=WfT x.z_∧WfT x.A_∧(WfI .i64) x.af_
theorem s0U {n:Nat} :n0d Tryz.prog (n+2) 59 d0D p0V:=fun d cs h hs=>by
  have hl:cs.length=3:=(i0x Tryz.underlying59 h).trans (by kernel_rfl)
  obtain⟨c0,c1,c2,rfl⟩:=w0V hl
  obtain⟨p0,h0,z0⟩:=a0S Tryz.underlying59 h hs 0 9 [c0] (by kernel_rfl)
  obtain⟨x0,e0,w0⟩: ∃x:List UInt8,[c0]=n0w x∧WfT x:=(e0L Tryz.underlying9) p0 _ h0 z0
  obtain⟨p1,h1,z1⟩:=a0S Tryz.underlying59 h hs 1 9 [c1] (by kernel_rfl)
  obtain⟨x1,e1,w1⟩: ∃x:List UInt8,[c1]=n0w x∧WfT x:=(e0L Tryz.underlying9) p1 _ h1 z1
  obtain⟨p2,h2,z2⟩:=a0S Tryz.underlying59 h hs 2 3 [c2] (by kernel_rfl)
  obtain⟨x2,e2,w2⟩: ∃x:Int,[c2]=(a0q .i64) x∧(WfI .i64) x:=(d0I Tryz.underlying3) p2 _ h2 z2
  refine⟨⟨x0,x1,x2⟩, ?_,⟨w0,w1,w2⟩⟩
  show [c0]++ [c1]++ [c2]=(n0w x0++n0w x1++(a0q .i64) x2)
  rw[e0,e1,e2]
/-- Its numbers are numbers of their kinds, its lists no longer than memory. -/
def p0W(x:i0s):Prop:=(WfI .i64) x.G_∧(WfI .i64) x.F_∧WfT x.D_
theorem s0X {n:Nat} :n0d Tryz.prog (n+2) 26 a0Z p0W:=fun d cs h hs=>by
  have hl:cs.length=3:=(i0x Tryz.underlying26 h).trans (by kernel_rfl)
  obtain⟨c0,c1,c2,rfl⟩:=w0V hl
  obtain⟨p0,h0,z0⟩:=a0S Tryz.underlying26 h hs 0 3 [c0] (by kernel_rfl)
  obtain⟨x0,e0,w0⟩: ∃x:Int,[c0]=(a0q .i64) x∧(WfI .i64) x:=(d0I Tryz.underlying3) p0 _ h0 z0
  obtain⟨p1,h1,z1⟩:=a0S Tryz.underlying26 h hs 1 3 [c1] (by kernel_rfl)
  obtain⟨x1,e1,w1⟩: ∃x:Int,[c1]=(a0q .i64) x∧(WfI .i64) x:=(d0I Tryz.underlying3) p1 _ h1 z1
  obtain⟨p2,h2,z2⟩:=a0S Tryz.underlying26 h hs 2 9 [c2] (by kernel_rfl)
  obtain⟨x2,e2,w2⟩: ∃x:List UInt8,[c2]=n0w x∧WfT x:=(e0L Tryz.underlying9) p2 _ h2 z2
  refine⟨⟨x0,x1,x2⟩, ?_,⟨w0,w1,w2⟩⟩
  show [c0]++ [c1]++ [c2]=((a0q .i64) x0++(a0q .i64) x1++n0w x2)
  rw[e0,e1,e2]
/-- Its numbers are numbers of their kinds, its lists no longer than memory. -/
def r0I(x:l0A):Prop:=WfT x.x_∧r0J x.S_∧v0b x.g_∧(WfL p0U) x.w_∧(WfL p0V) x.d_∧(WfL p0W) x.b_
theorem s0V {n:Nat} :n0d Tryz.prog (n+4) 47 a0J r0I:=fun d cs h hs=>by
  have hl:cs.length=15:=(i0x Tryz.underlying47 h).trans (by kernel_rfl)
  obtain⟨c0,c1,c2,c3,c4,c5,c6,c7,c8,c9,c10,c11,c12,c13,c14,rfl⟩:=x0Z hl
  obtain⟨p0,h0,z0⟩:=a0S Tryz.underlying47 h hs 0 9 [c0] (by kernel_rfl)
  obtain⟨x0,e0,w0⟩: ∃x:List UInt8,[c0]=n0w x∧WfT x:=(e0L Tryz.underlying9) p0 _ h0 z0
  obtain⟨p1,h1,z1⟩:=a0S Tryz.underlying47 h hs 1 23 [c1,c2,c3,c4,c5,c6,c7] (by kernel_rfl)
  obtain⟨x1,e1,w1⟩: ∃x:e0h,[c1,c2,c3,c4,c5,c6,c7]=a0w x∧r0J x:=s0Y p1 _ h1 z1
  obtain⟨p2,h2,z2⟩:=a0S Tryz.underlying47 h hs 2 42 [c8,c9,c10,c11] (by kernel_rfl)
  obtain⟨x2,e2,w2⟩: ∃x:y0T,[c8,c9,c10,c11]=m0D x∧v0b x:=s0W p2 _ h2 z2
  obtain⟨p3,h3,z3⟩:=a0S Tryz.underlying47 h hs 3 43 [c12] (by kernel_rfl)
  obtain⟨x3,e3,w3⟩: ∃x:List k0S,[c12]=(c0q c0h 2) x∧(WfL p0U) x:=(k0U (enc:=c0h) (Wf:=p0U) Tryz.underlying43 (k:=2) (by kernel_rfl) (by kernel_rfl) s0T) p3 _ h3 z3
  obtain⟨p4,h4,z4⟩:=a0S Tryz.underlying47 h hs 4 44 [c13] (by kernel_rfl)
  obtain⟨x4,e4,w4⟩: ∃x:List l0S,[c13]=(c0q d0D 3) x∧(WfL p0V) x:=(k0U (enc:=d0D) (Wf:=p0V) Tryz.underlying44 (k:=3) (by kernel_rfl) (by kernel_rfl) s0U) p4 _ h4 z4
  obtain⟨p5,h5,z5⟩:=a0S Tryz.underlying47 h hs 5 45 [c14] (by kernel_rfl)
  obtain⟨x5,e5,w5⟩: ∃x:List i0s,[c14]=(c0q a0Z 3) x∧(WfL p0W) x:=(k0U (enc:=a0Z) (Wf:=p0W) Tryz.underlying45 (k:=3) (by kernel_rfl) (by kernel_rfl) s0X) p5 _ h5 z5
  refine⟨⟨x0,x1,x2,x3,x4,x5⟩, ?_,⟨w0,w1,w2,w3,w4,w5⟩⟩
  show [c0]++ [c1,c2,c3,c4,c5,c6,c7]++ [c8,c9,c10,c11]++ [c12]++ [c13]++ [c14]=(n0w x0++a0w x1++m0D x2++(c0q c0h 2) x3++(c0q d0D 3) x4++(c0q a0Z 3) x5)
  rw[e0,e1,e2,e3,e4,e5]
def tot {T:Type} (f:T→Nat)(l:List T):Nat:=(l.map f).sum
theorem n0G {T:Type} (f:T→Nat)(l:List T)(x:T):tot f (l++ [x])=tot f l+f x:=by simp[tot]
theorem n0f {T:Type} {f:T→Nat} {B:Nat} : ∀ {l:List T},(∀x∈l,f x≤B)→tot f l≤l.length*B
  | [],_=>by simp[tot]
  |x::l,h=>by
    have h1:=h x (ap ..)
    have h2:=n0f (l:=l) fun y hy=>h y (aj _ hy)
    simp only[tot,ah,List.sum_cons,ak,bp]at h2⊢
    omega
theorem q0b {T:Type} (f:T→Nat): ∀ {l:List T} {x:T},x∈l→f x≤tot f l
  |y::l,x,h=>by
    simp only[tot,ah,List.sum_cons]
    rcases aN.1 h with rfl|h
    · omega
    · have:=q0b f h;simp only[tot]at this;omega
theorem A0q {T:Type} (f:T→Nat)(a b:List T):tot f (a++b)=tot f a+tot f b:=by simp[tot]
def pS(x0:l0A)(s0:Int×Int):Option ((Int×Int)⊕Int):=
  (bif(decide (s0.2<4))then(bif(decide (s0.2=0))then(some (.inl ((IntKind.wrap .i64 (s0.1+(x0.g_.e_.length:Int))),(IntKind.wrap .i64 (0+1)))))else(bif(decide (s0.2=1))then(some (.inl ((IntKind.wrap .i64 (s0.1+(x0.g_.f_.length:Int))),(IntKind.wrap .i64 (1+1)))))else(bif(decide (s0.2=2))then(some (.inl ((IntKind.wrap .i64 (s0.1+(x0.g_.n_.length:Int))),(IntKind.wrap .i64 (2+1)))))else(bif(decide (s0.2=3))then(some (.inl ((IntKind.wrap .i64 (s0.1+(x0.g_.s_.length:Int))),(IntKind.wrap .i64 (3+1)))))else none))))else(some (.inr s0.1)))
def rS(xs:List k0S)(s2:Int×Int):Option ((Int×Int)⊕Int):=
  (bif(decide (s2.2<(xs.length:Int)))then(bif inR s2.2 xs.length then(some (.inl ((IntKind.wrap .i64 (s2.1+((((nth xs s2.2).H_).length:Int)))),(IntKind.wrap .i64 (s2.2+1)))))else none)else(some (.inr s2.1)))
def cS(xs:List l0S)(s1:Int×Int):Option ((Int×Int)⊕Int):=
  (bif(decide (s1.2<(xs.length:Int)))then(bif inR s1.2 xs.length then(bif inR s1.2 xs.length then(some (.inl ((IntKind.wrap .i64 (((IntKind.wrap .i64 (s1.1+((((nth xs s1.2).z_).length:Int)))))+((((nth xs s1.2).A_).length:Int)))),(IntKind.wrap .i64 (s1.2+1)))))else none)else none)else(some (.inr s1.1)))
def A0f(xs:List i0s)(s3:Int×Int):Option ((Int×Int)⊕Int):=
  (bif(decide (s3.2<(xs.length:Int)))then(bif inR s3.2 xs.length then(some (.inl ((IntKind.wrap .i64 (s3.1+((((nth xs s3.2).D_).length:Int)))),(IntKind.wrap .i64 (s3.2+1)))))else none)else(some (.inr s3.1)))
theorem v0u(x0:l0A):c0M x0=(Option.bind (a0l (pS x0) big ((x0.x_.length:Int),0)) fun(s4:Int)=>(Option.bind (Option.bind (bif(decide ((x0.w_.length:Int)>8))then(some true)else(bif(decide ((x0.d_.length:Int)>105))then(some true)else(some ((decide ((x0.b_.length:Int)>95)))))) fun(s5:Bool)=>(bif s5 then(some (.inr false))else(some (.inl ())))) (a0j fun(s9:Unit)=>(Option.bind (a0l (rS x0.w_) big (s4,0)) fun(s6:Int)=>(Option.bind (a0l (cS x0.d_) big (s6,0)) fun(s7:Int)=>(Option.bind (a0l (A0f x0.b_) big (s7,0)) fun(s8:Int)=>(some (decide (s8≤6000))))))))):=rfl
def x0L(l:l0A):Nat:=l.x_.length+l.g_.e_.length+l.g_.f_.length+l.g_.n_.length+l.g_.s_.length
theorem B0n {l:l0A} (w:r0I l):a0l (pS l) big ((l.x_.length:Int),0)=some ((x0L l:Nat):Int):=by
  obtain⟨w0,_,⟨w1,w2,w3,w4⟩,_⟩:=w
  unfold WfT at w0 w1 w2 w3 w4
  have hb:big=18446744073709551611+1+1+1+1+1:=rfl
  rw[hb]
  refine(e0a (s':=((l.x_.length:Int)+l.g_.e_.length,1)) ?_).trans ?_
  · show some (Sum.inl (_,_))=_
    rw[w64 (n:=(l.x_.length:Int)+l.g_.e_.length) (by omega) (by omega)];rfl
  refine(e0a (s':=((l.x_.length:Int)+l.g_.e_.length+l.g_.f_.length,2)) ?_).trans ?_
  · show some (Sum.inl (_,_))=_
    rw[w64 (n:=(l.x_.length:Int)+l.g_.e_.length+l.g_.f_.length) (by omega) (by omega)];rfl
  refine(e0a (s':=((l.x_.length:Int)+l.g_.e_.length+l.g_.f_.length+l.g_.n_.length,3)) ?_).trans ?_
  · show some (Sum.inl (_,_))=_
    rw[w64 (n:=(l.x_.length:Int)+l.g_.e_.length+l.g_.f_.length+l.g_.n_.length) (by omega) (by omega)];rfl
  refine(e0a (s':=((l.x_.length:Int)+l.g_.e_.length+l.g_.f_.length+l.g_.n_.length+l.g_.s_.length,4)) ?_).trans ?_
  · show some (Sum.inl (_,_))=_
    rw[w64 (n:=(l.x_.length:Int)+l.g_.e_.length+l.g_.f_.length+l.g_.n_.length+l.g_.s_.length) (by omega) (by omega)];rfl
  refine e0T ?_
  show some (Sum.inr _)=_
  unfold x0L
  simp
theorem B0m {xs:List k0S} {a:Nat} (ha:a≤9007199254740992)(hx:xs.length≤8)(w: ∀x∈xs,p0U x):a0l (rS xs) big ((a:Int),0)=some ((a+tot (fun x=>x.H_.length) xs:Nat):Int):=by
  refine m0q xs (fun pre=>(((a+tot (fun x:k0S=>x.H_.length) pre:Nat):Int),(pre.length:Int))) _ (by simp[tot]) (fun pre x suf h=> ?_) ?_ (by omega)
  · have hb:=n0f (f:=fun x:k0S=>x.H_.length) (l:=pre) (B:=140737488355328) fun y hy=>(w y (by rw[h];simp[hy])).2
    have hxw:x.H_.length≤140737488355328:=(w x (by rw[h];simp)).2
    have hl:pre.length≤8:=by rw[h]at hx;simp at hx;omega
    simp only[rS]
    rw[h,h0m,f0B,e0S,n0G,l0W (by rw[←h];omega)]
    simp only[cond_true]
    rw[w64 (by omega) (by omega)]
    simp only[ai,Sum.inl.injEq,aF,and_true]
    omega
  · simp only[rS];rw[f0E];rfl
theorem B0s {xs:List i0s} {a:Nat} (ha:a≤90071992547409920)(hx:xs.length≤95)(w: ∀x∈xs,p0W x):a0l (A0f xs) big ((a:Int),0)=some ((a+tot (fun x=>x.D_.length) xs:Nat):Int):=by
  refine m0q xs (fun pre=>(((a+tot (fun x:i0s=>x.D_.length) pre:Nat):Int),(pre.length:Int))) _ (by simp[tot]) (fun pre x suf h=> ?_) ?_ (by omega)
  · have hb:=n0f (f:=fun x:i0s=>x.D_.length) (l:=pre) (B:=140737488355328) fun y hy=>(w y (by rw[h];simp[hy])).2.2
    have hxw:x.D_.length≤140737488355328:=(w x (by rw[h];simp)).2.2
    have hl:pre.length≤95:=by rw[h]at hx;simp at hx;omega
    simp only[A0f]
    rw[h,h0m,f0B,e0S,n0G,l0W (by rw[←h];omega)]
    simp only[cond_true]
    rw[w64 (by omega) (by omega)]
    simp only[ai,Sum.inl.injEq,aF,and_true]
    omega
  · simp only[A0f];rw[f0E];rfl
theorem B0y {xs:List l0S} {a:Nat} (ha:a≤18014398509481984)(hx:xs.length≤105)(w: ∀x∈xs,p0V x):a0l (cS xs) big ((a:Int),0)=some ((a+tot (fun x=>x.z_.length+x.A_.length) xs:Nat):Int):=by
  refine m0q xs (fun pre=>(((a+tot (fun x:l0S=>x.z_.length+x.A_.length) pre:Nat):Int),(pre.length:Int))) _ (by simp[tot]) (fun pre x suf h=> ?_) ?_ (by omega)
  · have hb:=n0f (f:=fun x:l0S=>x.z_.length+x.A_.length) (l:=pre) (B:=281474976710656) fun y hy=>by
      have h1:y.z_.length≤140737488355328:=(w y (by rw[h];simp[hy])).1
      have h2:y.A_.length≤140737488355328:=(w y (by rw[h];simp[hy])).2.1
      omega
    have h1:x.z_.length≤140737488355328:=(w x (by rw[h];simp)).1
    have h2:x.A_.length≤140737488355328:=(w x (by rw[h];simp)).2.1
    have hl:pre.length≤105:=by rw[h]at hx;simp at hx;omega
    simp only[cS]
    rw[h,h0m,f0B,e0S,n0G,l0W (by rw[←h];omega)]
    simp only[cond_true]
    rw[w64 (n:=((a+tot (fun x:l0S=>x.z_.length+x.A_.length) pre:Nat):Int)+(x.z_.length:Int)) (by omega) (by omega),w64 (by omega) (by omega)]
    simp only[ai,Sum.inl.injEq,aF,and_true]
    omega
  · simp only[cS];rw[f0E];rfl
theorem v0v {l:l0A} (w:r0I l): ∃b,c0M l=some b∧(b=true→l.w_.length≤8∧l.d_.length≤105∧l.b_.length≤95∧
    x0L l+tot (fun x=>x.H_.length) l.w_+tot (fun x=>x.z_.length+x.A_.length) l.d_+tot (fun x=>x.D_.length) l.b_≤6000):=by
  rw[v0u,B0n w,aa]
  obtain⟨w0,_,⟨w1,w2,w3,w4⟩,wr,wc,wk⟩:=w
  unfold WfT at w0 w1 w2 w3 w4
  by_cases h1:l.w_.length≤8
  · rw[dF (show¬(l.w_.length:Int)>8 by omega)]
    by_cases h2:l.d_.length≤105
    · rw[dF (show¬(l.d_.length:Int)>105 by omega)]
      by_cases h3:l.b_.length≤95
      · rw[dF (show¬(l.b_.length:Int)>95 by omega)]
        simp only[cond_false,aa,a0j]
        have hp:x0L l≤703687441776640:=by unfold x0L;omega
        have b1:=n0f (f:=fun x:k0S=>x.H_.length) (l:=l.w_) (B:=140737488355328) fun y hy=>(wr.2 y hy).2
        have b2:=n0f (f:=fun x:l0S=>x.z_.length+x.A_.length) (l:=l.d_) (B:=281474976710656) fun y hy=>by
          have q1:y.z_.length≤140737488355328:=(wc.2 y hy).1
          have q2:y.A_.length≤140737488355328:=(wc.2 y hy).2.1
          omega
        rw[B0m (by omega) h1 wr.2,aa,B0y (by omega) h2 wc.2,aa,B0s (by omega) h3 wk.2,aa]
        refine⟨_,rfl,fun h=>⟨h1,h2,h3, ?_⟩⟩
        have:=of_decide_eq_true h
        omega
      · rw[dT (show(l.b_.length:Int)>95 by omega)]
        exact⟨false,rfl,fun h=>by cases h⟩
    · rw[dT (show(l.d_.length:Int)>105 by omega)]
      exact⟨false,rfl,fun h=>by cases h⟩
  · rw[dT (show(l.w_.length:Int)>8 by omega)]
    exact⟨false,rfl,fun h=>by cases h⟩
theorem r0U:d0H=some true:=by kernel_rfl
theorem x0X {l:l0A} (h2:l.w_.length≤8∧l.d_.length≤105∧l.b_.length≤95∧
    x0L l+tot (fun x=>x.H_.length) l.w_+tot (fun x=>x.z_.length+x.A_.length) l.d_+tot (fun x=>x.D_.length) l.b_≤6000):y0X l:=by
  obtain⟨h1,h2,h3,h4⟩:=h2
  unfold x0L at h4
  refine⟨⟨by omega,by omega,by omega,by omega⟩,by omega,⟨by omega,fun c hc=> ?_⟩,by omega,fun c hc=> ?_⟩
  · have:=q0b (fun x:l0S=>x.z_.length+x.A_.length) hc
    omega
  · have:=q0b (fun x:i0s=>x.D_.length) hc
    omega
theorem x0r {s:e0h} (w:r0J s):A0g s∧ -2147483648≤s.u_∧s.u_<2147483648:=by
  obtain⟨w0,w1,w2,w3,w4,w5,w6⟩:=w
  refine⟨?_,l0V w0⟩
  intro x hx
  simp only[sgs,aN,cx,or_false]at hx
  rcases hx with rfl|rfl|rfl|rfl|rfl|rfl
  · exact l0V w1
  · exact l0V w2
  · exact l0V w3
  · exact l0V w4
  · exact l0V w5
  · exact l0V w6
theorem byI(s:List UInt8):byP (a0k s):=fun c hc=>by
  obtain⟨b,_,rfl⟩:=aU.1 hc
  have:=UInt8.toNat_lt b
  omega
def fl(p:d0b):(List a0c)×(List a0c)×(List a0c)×(List a0c)×Bool×Int×Int×Int×Int×Int×Int×Int×Int×Int×Bool×Int×Int:=(p.r_,p.q_,p.B_,p.E_,p.J_,p.Y_,p.M_,p.X_,p.Q_,p.I_,p.N_,p.O_,p.T_,p.i_,p.W_,p.y_,p.V_)
theorem s0D(l:l0A)(w:r0I l):c0g l=some true:=by
  obtain⟨b,hb,hs⟩:=v0v w
  have key:Tot (c0g l) (fun b=>b=true):=by
    unfold c0g
    rw[r0U,aa,hb,aa]
    cases b with
    |false=>exact tR rfl
    |true=>
      have hs:=hs rfl
      have hP:=x0X hs
      obtain⟨⟨q0,q1,q2,q3⟩,qr,⟨qc,qs⟩,qk,_⟩:=id hP
      simp only[bk,cond_false]
      obtain⟨r,hr⟩:=y0E hP
      have hc:=hr
      rw[r0G]at hc
      rw[hr,aa]
      by_cases h0:r.2.2=0
      · rw[B0z]at hc
        obtain⟨⟨w0,p0⟩,⟨w1,p1⟩,⟨w2,p2⟩,⟨w3,p3⟩,⟨w4,p4⟩,⟨w5,p5⟩,_⟩:=(z0Y _ _ _ _ _ _ _ _).1 ⟨r,hc,h0⟩
        obtain⟨t,ht,e⟩:=a0d p0
        obtain rfl:=(aX (oi e)).2
        obtain⟨g,hg,e⟩:=a0d p1
        obtain rfl:=(aX (oi e)).2
        obtain⟨⟨m,a,f⟩,hm,e⟩:=a0d p3
        have hf:f=0:=of_decide_eq_true (aX (oi e)).2
        subst hf
        obtain⟨s1,s2⟩:=x0r w.2.1
        have hg2:=y0j s1 s2 hg
        obtain⟨m',hm2⟩:=x0D qr hm
        obtain⟨cn,y,hy,hcur⟩:=w0v qc p4
        obtain⟨kn,hcomp⟩:=s0z qk p5
        obtain⟨⟨f0,h0'⟩,⟨f1,h1'⟩,⟨f2,h2'⟩,⟨f3,h3'⟩⟩:=v0S p2
        have hyf:=oi (hy.symm.trans h3')
        subst hyf
        simp only at hcur ht hg2 hm2 h0' h1' h2' h3' hcomp cn kn
        rw[dF (not_not_intro h0),hm2,ht,hg2]
        simp only[cond_false,aa,bk]
        rw[dF (not_not_intro trivial),dF (show¬(l.d_.length:Int)>100 by omega),dF (show¬(l.b_.length:Int)>90 by omega)]
        simp only[cond_false,aa,a0j]
        refine tJ (Tot.mono (p:=fun o=>o= .inl (fl f3)) (tL (fun s=>(s.1=0∨s.1=1∨s.1=2∨s.1=3∨s.1=4)∧(s.1=4→s.2=fl f3)) (fun s=>(4-s.1).toNat) ⟨.inl rfl,fun h=>by cases h⟩ (by decide) (fun s hi=> ?_)) (fun o ho=> ?_))
        · obtain⟨k,z⟩:=s
          obtain⟨hi,hz⟩:=hi
          simp only at hi hz⊢
          rcases hi with rfl|rfl|rfl|rfl|rfl
          · rw[h0',show IntKind.wrap .i64 (0+1)=1 by decide];exact tR ⟨⟨by simp,fun h=>by simp at h⟩,by simp⟩
          · rw[h1',show IntKind.wrap .i64 (1+1)=2 by decide];exact tR ⟨⟨by simp,fun h=>by simp at h⟩,by simp⟩
          · rw[h2',show IntKind.wrap .i64 (2+1)=3 by decide];exact tR ⟨⟨by simp,fun h=>by simp at h⟩,by simp⟩
          · rw[h3',show IntKind.wrap .i64 (3+1)=4 by decide];exact tR ⟨⟨by simp,fun _=>rfl⟩,by simp⟩
          · obtain rfl:=hz rfl
            exact tR rfl
        · subst ho
          refine(show Tot _ _ from tJ (tW (fun s:Int=>s) l.d_.length (fun _=>True) (by omega) ⟨trivial,ag _,by simp⟩ (fun i _ g0 g1=> ?_) (fun i _ e=>tN (dF (by omega)) (tR (show Tot _ _ from tJ (tW (fun s:Int=>s) l.b_.length (fun _=>True) (by omega) ⟨trivial,ag _,by simp⟩ (fun i _ g0 g1=> ?_) (fun i _ e=>tN (dF (by omega)) (tR (tR rfl)))))))))
          · obtain⟨⟨g,e,d1,d2⟩,d3⟩:=hcur i g0 g1
            have hi:=a0r g0 g1
            have hsl:=qs _ (d0A g0 g1)
            have dd:=u0O (byI _) (by rw[a0K];exact hsl) d1
            refine tY (dT g1) ?_
            rw[dd]
            simp only[aa]
            rw[dF (not_not_intro trivial)]
            simp only[cond_false]
            have d2':e0m l.S_ ⟨(fl f3).1,(fl f3).2.1,(fl f3).2.2.1,(fl f3).2.2.2.1,(fl f3).2.2.2.2.1,(fl f3).2.2.2.2.2.1,(fl f3).2.2.2.2.2.2.1,(fl f3).2.2.2.2.2.2.2.1,(fl f3).2.2.2.2.2.2.2.2.1,(fl f3).2.2.2.2.2.2.2.2.2.1,(fl f3).2.2.2.2.2.2.2.2.2.2.1,(fl f3).2.2.2.2.2.2.2.2.2.2.2.1,(fl f3).2.2.2.2.2.2.2.2.2.2.2.2.1,(fl f3).2.2.2.2.2.2.2.2.2.2.2.2.2.1,(fl f3).2.2.2.2.2.2.2.2.2.2.2.2.2.2.1,(fl f3).2.2.2.2.2.2.2.2.2.2.2.2.2.2.2.1,(fl f3).2.2.2.2.2.2.2.2.2.2.2.2.2.2.2.2⟩ g=some true:=d2
            rw[d2']
            have ei:IntKind.wrap .i64 (i+1)=i+1:=w64 (by omega) (by omega)
            rw[ei]
            refine tJ (tY hi (tB (p:=fun b=>b=false) ?_ (fun b hb=> ?_)))
            · simp only[aa,bk,cond_false]
              by_cases hp:i>0
              · rw[dT hp,hi,w64 (n:=i-1) (by omega) (by omega),a0r (show 0≤i-1 by omega) (show i-1<(l.d_.length:Int) by omega)]
                simp only[cond_true]
                exact tR (d3 hp)
              · rw[dF hp];exact tR rfl
            · subst hb
              exact tR (show Tot _ _ from tR ⟨trivial,rfl⟩)
          · obtain⟨⟨p,hp⟩,hfst⟩:=hcomp i g0 g1
            have hi:=a0r g0 g1
            have ei:IntKind.wrap .i64 (i+1)=i+1:=w64 (by omega) (by omega)
            refine tY (dT g1) ?_
            rw[hp,ei]
            simp only[aa]
            refine tJ (tY hi (tY hi (tB (u0A qk hfst) (fun f hf=>tB (p:=fun b=>b=false) ?_ (fun b hb=> ?_)))))
            · rw[a0r hf.1 hf.2.1,dF (not_not_intro hf.2.2)]
              exact tR rfl
            · subst hb
              exact tR (show Tot _ _ from tR ⟨trivial,rfl⟩)
      · rw[dT h0]
        rcases y0D _ _ _ _ _ _ _ hc with e|e
        · exact absurd e h0
        · simp only[cond_true,aa]
          rw[dT e];exact tR rfl
  obtain⟨b,e,rfl⟩:=key
  exact e

def m0V {H : Type} : List (String × DataW H) := [("math/bits.deBruijn32tab", Rows.laid_math_bits_deBruijn32tab), ("math/bits.deBruijn64tab", Rows.laid_math_bits_deBruijn64tab), ("internal/strconv.uint64pow10", Rows.laid_internal_strconv_uint64pow10), ("exergue/class.noughts", Rows.laid_exergue_class_noughts)]
theorem w0s(os:Os)(args:Array Value):laidMetH Tryz.prog m0V ((World.doorLaid Tryz.prog 4000 os).forCall (fun _ _=>0) ⟨#[],args,[]⟩).memory:=
  laidMetH_of_parts3 (fuel:=8) (laidMet_of_run' 8 (by kernel_rfl) (by kernel_rfl)) (by kernel_rfl) (by kernel_rfl)

/-- Package variables hold what they are said to. -/
theorem w0q {W:World} (hL:laidMetH Tryz.prog m0V W):j0Q W (KW W) fun _=>none:=fun g cs h=>by
  have hh:(m0V (H:=Unit)).all (fun x=>x.2.handleName?.isNone)=true:=by kernel_rfl
  by_cases h0:g=0
  · subst h0
    obtain rfl:=aC (show some [.int .i32 48, .int .i32 1632, .int .i32 1776, .int .i32 1984, .int .i32 2406, .int .i32 2534, .int .i32 2662, .int .i32 2790, .int .i32 2918, .int .i32 3046, .int .i32 3174, .int .i32 3302, .int .i32 3430, .int .i32 3664, .int .i32 3792, .int .i32 3872, .int .i32 6112, .int .i32 6160, .int .i32 65296, .int .i32 120782]=some cs from h)
    exact k0H hh hL (nm := "exergue/class.noughts") (t := 172) (e := 21) (n := 20) (k := .i32) [48, 1632, 1776, 1984, 2406, 2534, 2662, 2790, 2918, 3046, 3174, 3302, 3430, 3664, 3792, 3872, 6112, 6160, 65296, 120782] (by unfold m0V; simp only [aN, cx, or_false]; first | exact Or.inl rfl | exact Or.inr (Or.inl rfl) | exact Or.inr (Or.inr (Or.inl rfl)) | exact Or.inr rfl | exact Or.inr (Or.inr rfl) | exact Or.inr (Or.inr (Or.inr rfl)) | rfl) (by kernel_rfl) (by kernel_rfl) Tryz.underlying172 Tryz.underlying21 (by kernel_rfl) (by kernel_rfl)
  by_cases h2:g=2
  · subst h2
    obtain rfl:=aC (show some [.int .u64 1, .int .u64 10, .int .u64 100, .int .u64 1000, .int .u64 10000, .int .u64 100000, .int .u64 1000000, .int .u64 10000000, .int .u64 100000000, .int .u64 1000000000, .int .u64 10000000000, .int .u64 100000000000, .int .u64 1000000000000, .int .u64 10000000000000, .int .u64 100000000000000, .int .u64 1000000000000000, .int .u64 10000000000000000, .int .u64 100000000000000000, .int .u64 1000000000000000000, .int .u64 10000000000000000000]=some cs from h)
    exact k0H hh hL (nm := "internal/strconv.uint64pow10") (t := 250) (e := 241) (n := 20) (k := .u64) [1, 10, 100, 1000, 10000, 100000, 1000000, 10000000, 100000000, 1000000000, 10000000000, 100000000000, 1000000000000, 10000000000000, 100000000000000, 1000000000000000, 10000000000000000, 100000000000000000, 1000000000000000000, 10000000000000000000] (by unfold m0V; simp only [aN, cx, or_false]; first | exact Or.inl rfl | exact Or.inr (Or.inl rfl) | exact Or.inr (Or.inr (Or.inl rfl)) | exact Or.inr rfl | exact Or.inr (Or.inr rfl) | exact Or.inr (Or.inr (Or.inr rfl)) | rfl) (by kernel_rfl) (by kernel_rfl) Tryz.underlying250 Tryz.underlying241 (by kernel_rfl) (by kernel_rfl)
  by_cases h3:g=3
  · subst h3
    obtain rfl:=aC (show some [.int .u8 0, .int .u8 1, .int .u8 28, .int .u8 2, .int .u8 29, .int .u8 14, .int .u8 24, .int .u8 3, .int .u8 30, .int .u8 22, .int .u8 20, .int .u8 15, .int .u8 25, .int .u8 17, .int .u8 4, .int .u8 8, .int .u8 31, .int .u8 27, .int .u8 13, .int .u8 23, .int .u8 21, .int .u8 19, .int .u8 16, .int .u8 7, .int .u8 26, .int .u8 12, .int .u8 18, .int .u8 6, .int .u8 11, .int .u8 5, .int .u8 10, .int .u8 9]=some cs from h)
    exact k0H hh hL (nm := "math/bits.deBruijn32tab") (t := 257) (e := 5) (n := 32) (k := .u8) [0, 1, 28, 2, 29, 14, 24, 3, 30, 22, 20, 15, 25, 17, 4, 8, 31, 27, 13, 23, 21, 19, 16, 7, 26, 12, 18, 6, 11, 5, 10, 9] (by unfold m0V; simp only [aN, cx, or_false]; first | exact Or.inl rfl | exact Or.inr (Or.inl rfl) | exact Or.inr (Or.inr (Or.inl rfl)) | exact Or.inr rfl | exact Or.inr (Or.inr rfl) | exact Or.inr (Or.inr (Or.inr rfl)) | rfl) (by kernel_rfl) (by kernel_rfl) Tryz.underlying257 Tryz.underlying5 (by kernel_rfl) (by kernel_rfl)
  by_cases h4:g=4
  · subst h4
    obtain rfl:=aC (show some [.int .u8 0, .int .u8 1, .int .u8 56, .int .u8 2, .int .u8 57, .int .u8 49, .int .u8 28, .int .u8 3, .int .u8 61, .int .u8 58, .int .u8 42, .int .u8 50, .int .u8 38, .int .u8 29, .int .u8 17, .int .u8 4, .int .u8 62, .int .u8 47, .int .u8 59, .int .u8 36, .int .u8 45, .int .u8 43, .int .u8 51, .int .u8 22, .int .u8 53, .int .u8 39, .int .u8 33, .int .u8 30, .int .u8 24, .int .u8 18, .int .u8 12, .int .u8 5, .int .u8 63, .int .u8 55, .int .u8 48, .int .u8 27, .int .u8 60, .int .u8 41, .int .u8 37, .int .u8 16, .int .u8 46, .int .u8 35, .int .u8 44, .int .u8 21, .int .u8 52, .int .u8 32, .int .u8 23, .int .u8 11, .int .u8 54, .int .u8 26, .int .u8 40, .int .u8 15, .int .u8 34, .int .u8 20, .int .u8 31, .int .u8 10, .int .u8 25, .int .u8 14, .int .u8 19, .int .u8 9, .int .u8 13, .int .u8 8, .int .u8 7, .int .u8 6]=some cs from h)
    exact k0H hh hL (nm := "math/bits.deBruijn64tab") (t := 258) (e := 5) (n := 64) (k := .u8) [0, 1, 56, 2, 57, 49, 28, 3, 61, 58, 42, 50, 38, 29, 17, 4, 62, 47, 59, 36, 45, 43, 51, 22, 53, 39, 33, 30, 24, 18, 12, 5, 63, 55, 48, 27, 60, 41, 37, 16, 46, 35, 44, 21, 52, 32, 23, 11, 54, 26, 40, 15, 34, 20, 31, 10, 25, 14, 19, 9, 13, 8, 7, 6] (by unfold m0V; simp only [aN, cx, or_false]; first | exact Or.inl rfl | exact Or.inr (Or.inl rfl) | exact Or.inr (Or.inr (Or.inl rfl)) | exact Or.inr rfl | exact Or.inr (Or.inr rfl) | exact Or.inr (Or.inr (Or.inr rfl)) | rfl) (by kernel_rfl) (by kernel_rfl) Tryz.underlying258 Tryz.underlying5 (by kernel_rfl) (by kernel_rfl)
  exfalso
  have:w0p g=none:=by
    unfold w0p
    split<;>first|rfl|(exfalso;simp_all)
  rw[show A0h g=w0p g from rfl,this]at h
  cases h

set_option maxRecDepth 100000 in
theorem m0O(os:Os)(started:os.Started)(H:Type)(enc:TypeId×Value→H):
    ReturnsInHanded {} Tryz.checked os 4 .any (fun w args=>(Rows.locPartsSpec.pre enc Tryz.prog Tryz.f4 [] false w args∧laidMetH Tryz.prog m0V w)∧sizedMet enc Tryz.prog Tryz.f4 (OpenSpec.ofChange Rows.locPartsSpec) false w args) (Rows.locPartsSpec.post enc Tryz.prog Tryz.f4 false true false false):=by
  refine returnsInHanded_of_change_and (C:=Tryz.checked) (X:=fun w _=>laidMetH Tryz.prog m0V w) (fun _ _ _ hh h=>h.of_heap hh) Tryz.own started (by kernel_rfl) Tryz.func4
    (ChangeSpec.witness_shaped (enc:=enc) (C:=Tryz.checked) (os:=os) (X:=fun w _=>laidMetH Tryz.prog m0V w) false (World.doorLaid Tryz.prog 4000 os) #[.agg #[.string ⟨#[]⟩, .int .i32 0, .int .i32 0, .int .i32 0, .int .i32 0, .int .i32 0, .int .i32 0, .int .i32 0, .string ⟨#[]⟩, .string ⟨#[]⟩, .string ⟨#[]⟩, .string ⟨#[]⟩, .slice none 0 0, .slice none 0 0, .slice none 0 0]] 8 rfl (World.shaped_of_RefB (by kernel_rfl) (by kernel_rfl)) (by kernel_rfl) (by kernel_rfl) (by kernel_rfl) (w0s os _)) ?_
  intro W base args ds gs before hval0 hW _ hsz0 hL _
  have hsz:(DataW.weightsEach Tryz.prog (Tryz.f4.params.toList++Rows.locPartsSpec.plain.varTypes Tryz.prog) (ds++gs)).all (· ≤reachBytes)=true:=hsz0
  clear hsz0
  refine w0g (P:=Tryz.prog) (n:=4) (tb:=4) Tryz.laidOut Tryz.underlying4 rfl rfl (by kernel_rfl) (fun h=> ?_) hval0 hW ?_ (w0q hL)
  · rw[Tryz.params4]at h
    obtain⟨d0,rfl⟩:=l1 h
    exact⟨rfl,rfl,rfl⟩
  · intro ss hg hl1 hl2 hs
    subst hg
    rw[Tryz.params4]at hl1 hl2 hs hsz
    obtain⟨d0,rfl⟩:=l1 hl1
    obtain⟨s0,rfl⟩:=l1 hl2
    obtain⟨cs0,rfl,hc0⟩:=n0L Tryz.underlying47 (hs 0 47 _ _ rfl rfl rfl)
    obtain⟨a0,rfl,w0⟩:=s0V (n:=0) _ _ hc0 (q0f hsz (j:=0) rfl rfl)
    exact⟨[],h0v (s0D a0 w0)⟩
theorem p0X:Rows.LocPartsSaid:=
  OpenClaim.holds_of_wide 4 Tryz.f4 rfl rfl rfl rfl rfl rfl rfl ⟨rfl,rfl,rfl,rfl,rfl⟩ rfl rfl rfl rfl rfl (by kernel_rfl) Tryz.func4 (by kernel_rfl)
    (of_decide_eq_true (by kernel_rfl)) (by unfold Func.isWrapper;first|(rw[if_pos (by decide+kernel)];kernel_rfl)|(rw[if_neg (by decide+kernel)];exact⟨rfl,rfl⟩))
    (fun os started H enc _=>m0O os started H enc)

theorem LocParts_holds:Rows.LocPartsCardSaid:=
  Claim7.holds_tied_plain_at .later [] [.data, .data, .data, .data] true (true, "de599d8f743361fb38ba7e693bad57f7b00ee969443c7958de219e14c746c2b3") false
    p0X (fun _ h=>by cases h) (by kernel_rfl) (fun _ h=>by cases h) locParts_row_tie rfl ⟨rfl,rfl⟩ (by kernel_rfl) rfl
    (fun f fn hf hfn=>by
      obtain rfl : f = 4 := aC ((show Tryz.prog.funcNamed "exergue/exerguelaw15.LocParts" = some 4 by kernel_rfl).symm.trans hf) |>.symm
      obtain rfl:fn=Tryz.f4:=(aC (Tryz.func4.symm.trans hfn)).symm
      exact⟨by kernel_rfl,fun j t ht=>by
        rw[Tryz.params4]at ht
        have hm:t∈ [47]:=by simpa using Array.mem_of_getElem? ht
        have hall:([47].all fun u=> !Tryz.prog.wantsStandIn u)=true:=by kernel_rfl
        exact(show Tryz.prog.wantsStandIn t=false by simpa using List.all_eq_true.1 hall t hm)⟩)
    (by kernel_rfl)

end Go.Proofs.YtcapcgbamehojaaGreatDoor
