/-
  The statement CertSamesCard is proved: at every input the law answers true, and its input reads as it did. Conditions: those of the card (package variables are as the program text lays them).
-/
import Derived.Test.YtjlgflhfihmabaaGreatDoorJ
import Derived.Test.YtjlgflhfihmabaaGreatDoorP
import Derived.Test.YtjlgflhfihmabaaGreatDoorCards
import Derived.Test.YtjlgflhfihmabaaGreatDoorTie
import Derived.ProofKit
import Derived.SizedLaws
import Derived.LaidMore
import Derived.SevenTiedAt
set_option linter.all false
namespace Go.Proofs.YtjlgflhfihmabaaGreatDoor
open Go Go.Sy Go.RowKit Go.ChangeShapes Go.WideShapes Go.ChangeAt
set_option maxRecDepth 100000
set_option maxHeartbeats 4000000

theorem Tryz.own:ownKnob Tryz.prog.godebug=none:=by kernel_rfl
theorem Tryz.laidOut:laidOutB Tryz.prog=true:=by kernel_rfl

theorem B0g {α:Type} {l:List α} (h:l.length=2): ∃a0 a1,l=[a0,a1]:=by
  match l,h with
  | [a0,a1],_=>exact⟨a0,a1,rfl⟩
theorem y0H {α:Type} {l:List α} (h:l.length=3): ∃a0 a1 a2,l=[a0,a1,a2]:=by
  match l,h with
  | [a0,a1,a2],_=>exact⟨a0,a1,a2,rfl⟩
theorem B0f {α:Type} {l:List α} (h:l.length=4): ∃a0 a1 a2 a3,l=[a0,a1,a2,a3]:=by
  match l,h with
  | [a0,a1,a2,a3],_=>exact⟨a0,a1,a2,a3,rfl⟩
theorem B0e {α:Type} {l:List α} (h:l.length=7): ∃a0 a1 a2 a3 a4 a5 a6,l=[a0,a1,a2,a3,a4,a5,a6]:=by
  match l,h with
  | [a0,a1,a2,a3,a4,a5,a6],_=>exact⟨a0,a1,a2,a3,a4,a5,a6,rfl⟩
theorem z0N {α:Type} {l:List α} (h:l.length=15): ∃a0 a1 a2 a3 a4 a5 a6 a7 a8 a9 a10 a11 a12 a13 a14,l=[a0,a1,a2,a3,a4,a5,a6,a7,a8,a9,a10,a11,a12,a13,a14]:=by
  match l,h with
  | [a0,a1,a2,a3,a4,a5,a6,a7,a8,a9,a10,a11,a12,a13,a14],_=>exact⟨a0,a1,a2,a3,a4,a5,a6,a7,a8,a9,a10,a11,a12,a13,a14,rfl⟩
/-- Its numbers are numbers of their kinds, its lists no longer than memory. -/
def w0P(x:c0U):Prop:=(WfI .i32) x.I_/\(WfI .i32) x.o_/\(WfI .i32) x.n_/\(WfI .i32) x.k_/\(WfI .i32) x.j_/\(WfI .i32) x.l_/\(WfI .i32) x.d_
theorem u0N {n:Nat} :o0n Tryz.prog (n+2) 23 a0d w0P:=λd cs h hs=>by
  have hl:cs.length=7:=(j0c Tryz.underlying23 h).trans (by kernel_rfl)
  obtain⟨c0,c1,c2,c3,c4,c5,c6,rfl⟩:=B0e hl
  obtain⟨p0,h0,z0⟩:=a0N Tryz.underlying23 h hs 0 21 [c0] (by kernel_rfl)
  obtain⟨x0,e0,w0⟩: ∃x:Int,[c0]=(a0v .i32) x/\(WfI .i32) x:=(d0Z Tryz.underlying21) p0 _ h0 z0
  obtain⟨p1,h1,z1⟩:=a0N Tryz.underlying23 h hs 1 21 [c1] (by kernel_rfl)
  obtain⟨x1,e1,w1⟩: ∃x:Int,[c1]=(a0v .i32) x/\(WfI .i32) x:=(d0Z Tryz.underlying21) p1 _ h1 z1
  obtain⟨p2,h2,z2⟩:=a0N Tryz.underlying23 h hs 2 21 [c2] (by kernel_rfl)
  obtain⟨x2,e2,w2⟩: ∃x:Int,[c2]=(a0v .i32) x/\(WfI .i32) x:=(d0Z Tryz.underlying21) p2 _ h2 z2
  obtain⟨p3,h3,z3⟩:=a0N Tryz.underlying23 h hs 3 21 [c3] (by kernel_rfl)
  obtain⟨x3,e3,w3⟩: ∃x:Int,[c3]=(a0v .i32) x/\(WfI .i32) x:=(d0Z Tryz.underlying21) p3 _ h3 z3
  obtain⟨p4,h4,z4⟩:=a0N Tryz.underlying23 h hs 4 21 [c4] (by kernel_rfl)
  obtain⟨x4,e4,w4⟩: ∃x:Int,[c4]=(a0v .i32) x/\(WfI .i32) x:=(d0Z Tryz.underlying21) p4 _ h4 z4
  obtain⟨p5,h5,z5⟩:=a0N Tryz.underlying23 h hs 5 21 [c5] (by kernel_rfl)
  obtain⟨x5,e5,w5⟩: ∃x:Int,[c5]=(a0v .i32) x/\(WfI .i32) x:=(d0Z Tryz.underlying21) p5 _ h5 z5
  obtain⟨p6,h6,z6⟩:=a0N Tryz.underlying23 h hs 6 21 [c6] (by kernel_rfl)
  obtain⟨x6,e6,w6⟩: ∃x:Int,[c6]=(a0v .i32) x/\(WfI .i32) x:=(d0Z Tryz.underlying21) p6 _ h6 z6
  refine⟨⟨x0,x1,x2,x3,x4,x5,x6⟩, ?_,⟨w0,w1,w2,w3,w4,w5,w6⟩⟩
  show [c0]++ [c1]++ [c2]++ [c3]++ [c4]++ [c5]++ [c6]=((a0v .i32) x0++(a0v .i32) x1++(a0v .i32) x2++(a0v .i32) x3++(a0v .i32) x4++(a0v .i32) x5++(a0v .i32) x6)
  rw[e0,e1,e2,e3,e4,e5,e6]
/-- Its numbers are numbers of their kinds, its lists no longer than memory. -/
def w0O(x:z0e):Prop:=WfT x.h_/\WfT x.i_/\WfT x.m_/\WfT x.v_
theorem u0M {n:Nat} :o0n Tryz.prog (n+2) 24 p0B w0O:=λd cs h hs=>by
  have hl:cs.length=4:=(t0G Tryz.underlying24 h).trans (by kernel_rfl)
  obtain⟨c0,c1,c2,c3,rfl⟩:=B0f hl
  obtain⟨p0,h0,z0⟩:=j0Y Tryz.underlying24 h hs 0 [c0] (by kernel_rfl) (by kernel_rfl)
  obtain⟨x0,e0,w0⟩: ∃x:List UInt8,[c0]=o0K x/\WfT x:=(f0e Tryz.underlying9) p0 _ h0 z0
  obtain⟨p1,h1,z1⟩:=j0Y Tryz.underlying24 h hs 1 [c1] (by kernel_rfl) (by kernel_rfl)
  obtain⟨x1,e1,w1⟩: ∃x:List UInt8,[c1]=o0K x/\WfT x:=(f0e Tryz.underlying9) p1 _ h1 z1
  obtain⟨p2,h2,z2⟩:=j0Y Tryz.underlying24 h hs 2 [c2] (by kernel_rfl) (by kernel_rfl)
  obtain⟨x2,e2,w2⟩: ∃x:List UInt8,[c2]=o0K x/\WfT x:=(f0e Tryz.underlying9) p2 _ h2 z2
  obtain⟨p3,h3,z3⟩:=j0Y Tryz.underlying24 h hs 3 [c3] (by kernel_rfl) (by kernel_rfl)
  obtain⟨x3,e3,w3⟩: ∃x:List UInt8,[c3]=o0K x/\WfT x:=(f0e Tryz.underlying9) p3 _ h3 z3
  refine⟨⟨x0,x1,x2,x3⟩, ?_,⟨w0,w1,w2,w3⟩⟩
  show [c0]++ [c1]++ [c2]++ [c3]=(o0K x0++o0K x1++o0K x2++o0K x3)
  rw[e0,e1,e2,e3]
/-- Its numbers are numbers of their kinds, its lists no longer than memory. -/
def r0w(x:m0G):Prop:=(WfI .i64) x.T_/\WfT x.V_
theorem u0L {n:Nat} :o0n Tryz.prog (n+2) 61 b0N r0w:=λd cs h hs=>by
  have hl:cs.length=2:=(j0c Tryz.underlying61 h).trans (by kernel_rfl)
  obtain⟨c0,c1,rfl⟩:=B0g hl
  obtain⟨p0,h0,z0⟩:=a0N Tryz.underlying61 h hs 0 3 [c0] (by kernel_rfl)
  obtain⟨x0,e0,w0⟩: ∃x:Int,[c0]=(a0v .i64) x/\(WfI .i64) x:=(d0Z Tryz.underlying3) p0 _ h0 z0
  obtain⟨p1,h1,z1⟩:=a0N Tryz.underlying61 h hs 1 9 [c1] (by kernel_rfl)
  obtain⟨x1,e1,w1⟩: ∃x:List UInt8,[c1]=o0K x/\WfT x:=(f0e Tryz.underlying9) p1 _ h1 z1
  refine⟨⟨x0,x1⟩, ?_,⟨w0,w1⟩⟩
  show [c0]++ [c1]=((a0v .i64) x0++o0K x1)
  rw[e0,e1]
/-- Its numbers are numbers of their kinds, its lists no longer than memory. -/
def r0v(x:m0Q):Prop:=WfT x.Q_/\WfT x.M_/\(WfI .i64) x.Y_
theorem u0K {n:Nat} :o0n Tryz.prog (n+2) 63 c0s r0v:=λd cs h hs=>by
  have hl:cs.length=3:=(j0c Tryz.underlying63 h).trans (by kernel_rfl)
  obtain⟨c0,c1,c2,rfl⟩:=y0H hl
  obtain⟨p0,h0,z0⟩:=a0N Tryz.underlying63 h hs 0 9 [c0] (by kernel_rfl)
  obtain⟨x0,e0,w0⟩: ∃x:List UInt8,[c0]=o0K x/\WfT x:=(f0e Tryz.underlying9) p0 _ h0 z0
  obtain⟨p1,h1,z1⟩:=a0N Tryz.underlying63 h hs 1 9 [c1] (by kernel_rfl)
  obtain⟨x1,e1,w1⟩: ∃x:List UInt8,[c1]=o0K x/\WfT x:=(f0e Tryz.underlying9) p1 _ h1 z1
  obtain⟨p2,h2,z2⟩:=a0N Tryz.underlying63 h hs 2 3 [c2] (by kernel_rfl)
  obtain⟨x2,e2,w2⟩: ∃x:Int,[c2]=(a0v .i64) x/\(WfI .i64) x:=(d0Z Tryz.underlying3) p2 _ h2 z2
  refine⟨⟨x0,x1,x2⟩, ?_,⟨w0,w1,w2⟩⟩
  show [c0]++ [c1]++ [c2]=(o0K x0++o0K x1++(a0v .i64) x2)
  rw[e0,e1,e2]
/-- Its numbers are numbers of their kinds, its lists no longer than memory. -/
def r0u(x:j0V):Prop:=(WfI .i64) x.W_/\(WfI .i64) x.T_/\WfT x.K_
theorem u0J {n:Nat} :o0n Tryz.prog (n+2) 65 b0x r0u:=λd cs h hs=>by
  have hl:cs.length=3:=(j0c Tryz.underlying65 h).trans (by kernel_rfl)
  obtain⟨c0,c1,c2,rfl⟩:=y0H hl
  obtain⟨p0,h0,z0⟩:=a0N Tryz.underlying65 h hs 0 3 [c0] (by kernel_rfl)
  obtain⟨x0,e0,w0⟩: ∃x:Int,[c0]=(a0v .i64) x/\(WfI .i64) x:=(d0Z Tryz.underlying3) p0 _ h0 z0
  obtain⟨p1,h1,z1⟩:=a0N Tryz.underlying65 h hs 1 3 [c1] (by kernel_rfl)
  obtain⟨x1,e1,w1⟩: ∃x:Int,[c1]=(a0v .i64) x/\(WfI .i64) x:=(d0Z Tryz.underlying3) p1 _ h1 z1
  obtain⟨p2,h2,z2⟩:=a0N Tryz.underlying65 h hs 2 9 [c2] (by kernel_rfl)
  obtain⟨x2,e2,w2⟩: ∃x:List UInt8,[c2]=o0K x/\WfT x:=(f0e Tryz.underlying9) p2 _ h2 z2
  refine⟨⟨x0,x1,x2⟩, ?_,⟨w0,w1,w2⟩⟩
  show [c0]++ [c1]++ [c2]=((a0v .i64) x0++(a0v .i64) x1++o0K x2)
  rw[e0,e1,e2]
/-- Its numbers are numbers of their kinds, its lists no longer than memory. -/
def o0a(x:f0d):Prop:=WfT x.x_/\w0P x.S_/\w0O x.a_/\(WfL r0w) x.s_/\(WfL r0v) x.f_/\(WfL r0u) x.c_
theorem p0Z {n:Nat} :o0n Tryz.prog (n+4) 29 a0p o0a:=λd cs h hs=>by
  have hl:cs.length=15:=(j0c Tryz.underlying29 h).trans (by kernel_rfl)
  obtain⟨c0,c1,c2,c3,c4,c5,c6,c7,c8,c9,c10,c11,c12,c13,c14,rfl⟩:=z0N hl
  obtain⟨p0,h0,z0⟩:=a0N Tryz.underlying29 h hs 0 9 [c0] (by kernel_rfl)
  obtain⟨x0,e0,w0⟩: ∃x:List UInt8,[c0]=o0K x/\WfT x:=(f0e Tryz.underlying9) p0 _ h0 z0
  obtain⟨p1,h1,z1⟩:=a0N Tryz.underlying29 h hs 1 23 [c1,c2,c3,c4,c5,c6,c7] (by kernel_rfl)
  obtain⟨x1,e1,w1⟩: ∃x:c0U,[c1,c2,c3,c4,c5,c6,c7]=a0d x/\w0P x:=u0N p1 _ h1 z1
  obtain⟨p2,h2,z2⟩:=a0N Tryz.underlying29 h hs 2 24 [c8,c9,c10,c11] (by kernel_rfl)
  obtain⟨x2,e2,w2⟩: ∃x:z0e,[c8,c9,c10,c11]=p0B x/\w0O x:=u0M p2 _ h2 z2
  obtain⟨p3,h3,z3⟩:=a0N Tryz.underlying29 h hs 3 25 [c12] (by kernel_rfl)
  obtain⟨x3,e3,w3⟩: ∃x:List m0G,[c12]=(f0v b0N 2) x/\(WfL r0w) x:=(l0M (enc:=b0N) (Wf:=r0w) Tryz.underlying25 (k:=2) (by kernel_rfl) (by kernel_rfl) u0L) p3 _ h3 z3
  obtain⟨p4,h4,z4⟩:=a0N Tryz.underlying29 h hs 4 26 [c13] (by kernel_rfl)
  obtain⟨x4,e4,w4⟩: ∃x:List m0Q,[c13]=(f0v c0s 3) x/\(WfL r0v) x:=(l0M (enc:=c0s) (Wf:=r0v) Tryz.underlying26 (k:=3) (by kernel_rfl) (by kernel_rfl) u0K) p4 _ h4 z4
  obtain⟨p5,h5,z5⟩:=a0N Tryz.underlying29 h hs 5 27 [c14] (by kernel_rfl)
  obtain⟨x5,e5,w5⟩: ∃x:List j0V,[c14]=(f0v b0x 3) x/\(WfL r0u) x:=(l0M (enc:=b0x) (Wf:=r0u) Tryz.underlying27 (k:=3) (by kernel_rfl) (by kernel_rfl) u0J) p5 _ h5 z5
  refine⟨⟨x0,x1,x2,x3,x4,x5⟩, ?_,⟨w0,w1,w2,w3,w4,w5⟩⟩
  show [c0]++ [c1,c2,c3,c4,c5,c6,c7]++ [c8,c9,c10,c11]++ [c12]++ [c13]++ [c14]=(o0K x0++a0d x1++p0B x2++(f0v b0N 2) x3++(f0v c0s 3) x4++(f0v b0x 3) x5)
  rw[e0,e1,e2,e3,e4,e5]
def tot {T:Type} (f:T->Nat)(l:List T):Nat:=(l.map f).sum
theorem o0R {T:Type} (f:T->Nat)(l:List T)(x:T):tot f (l++ [x])=tot f l+f x:=by simp[tot]
theorem o0p {T:Type} {f:T->Nat} {B:Nat} : ∀ {l:List T},(∀x∈l,f x<=B)->tot f l<=l.length*B
  | [],_=>by simp[tot]
  |x::l,h=>by
    have h1:=h x (au ..)
    have h2:=o0p (l:=l) λy hy=>h y (am _ hy)
    simp only[tot,aj,List.sum_cons,aS,bq]at h2⊢
    omega
theorem r0C {T:Type} (f:T->Nat): ∀ {l:List T} {x:T},x∈l->f x<=tot f l
  |y::l,x,h=>by
    simp only[tot,aj,List.sum_cons]
    rcases aO.1 h with rfl|h
    · omega
    · have:=r0C f h;simp only[tot]at this;omega
def pS(x0:f0d)(s0:Int×Int):Option ((Int×Int)⊕Int):=
  (bif(decide (s0.2<4))then(bif(decide (s0.2=0))then(some (.inl ((IntKind.wrap .i64 (s0.1+(x0.a_.h_.length:Int))),(IntKind.wrap .i64 (0+1)))))else(bif(decide (s0.2=1))then(some (.inl ((IntKind.wrap .i64 (s0.1+(x0.a_.i_.length:Int))),(IntKind.wrap .i64 (1+1)))))else(bif(decide (s0.2=2))then(some (.inl ((IntKind.wrap .i64 (s0.1+(x0.a_.m_.length:Int))),(IntKind.wrap .i64 (2+1)))))else(bif(decide (s0.2=3))then(some (.inl ((IntKind.wrap .i64 (s0.1+(x0.a_.v_.length:Int))),(IntKind.wrap .i64 (3+1)))))else none))))else(some (.inr s0.1)))
def rS(xs:List m0G)(s2:Int×Int):Option ((Int×Int)⊕Int):=
  (bif(decide (s2.2<(xs.length:Int)))then(bif inR s2.2 xs.length then(some (.inl ((IntKind.wrap .i64 (s2.1+((((nth xs s2.2).V_).length:Int)))),(IntKind.wrap .i64 (s2.2+1)))))else none)else(some (.inr s2.1)))
def cS(xs:List m0Q)(s1:Int×Int):Option ((Int×Int)⊕Int):=
  (bif(decide (s1.2<(xs.length:Int)))then(bif inR s1.2 xs.length then(bif inR s1.2 xs.length then(some (.inl ((IntKind.wrap .i64 (((IntKind.wrap .i64 (s1.1+((((nth xs s1.2).Q_).length:Int)))))+((((nth xs s1.2).M_).length:Int)))),(IntKind.wrap .i64 (s1.2+1)))))else none)else none)else(some (.inr s1.1)))
def B0P(xs:List j0V)(s3:Int×Int):Option ((Int×Int)⊕Int):=
  (bif(decide (s3.2<(xs.length:Int)))then(bif inR s3.2 xs.length then(some (.inl ((IntKind.wrap .i64 (s3.1+((((nth xs s3.2).K_).length:Int)))),(IntKind.wrap .i64 (s3.2+1)))))else none)else(some (.inr s3.1)))
theorem x0e(x0:f0d):c0x x0=(Option.bind (a0t (pS x0) big ((x0.x_.length:Int),0)) fun(s4:Int)=>(Option.bind (Option.bind (bif(decide ((x0.s_.length:Int)>8))then(some true)else(bif(decide ((x0.f_.length:Int)>105))then(some true)else(some ((decide ((x0.c_.length:Int)>95)))))) fun(s5:Bool)=>(bif s5 then(some (.inr false))else(some (.inl ())))) (a0l fun(s9:Unit)=>(Option.bind (a0t (rS x0.s_) big (s4,0)) fun(s6:Int)=>(Option.bind (a0t (cS x0.f_) big (s6,0)) fun(s7:Int)=>(Option.bind (a0t (B0P x0.c_) big (s7,0)) fun(s8:Int)=>(some (decide (s8<=6000))))))))):=rfl
def y0z(l:f0d):Nat:=l.x_.length+l.a_.h_.length+l.a_.i_.length+l.a_.m_.length+l.a_.v_.length
theorem C0L {l:f0d} (w:o0a l):a0t (pS l) big ((l.x_.length:Int),0)=some ((y0z l:Nat):Int):=by
  obtain⟨w0,_,⟨w1,w2,w3,w4⟩,_⟩:=w
  unfold WfT at w0 w1 w2 w3 w4
  have hb:big=18446744073709551611+1+1+1+1+1:=rfl
  rw[hb]
  refine(f0M (s':=((l.x_.length:Int)+l.a_.h_.length,1)) ?_).trans ?_
  · show some (Sum.inl (_,_))=_
    rw[w64 (n:=(l.x_.length:Int)+l.a_.h_.length) (by omega) (by omega)];rfl
  refine(f0M (s':=((l.x_.length:Int)+l.a_.h_.length+l.a_.i_.length,2)) ?_).trans ?_
  · show some (Sum.inl (_,_))=_
    rw[w64 (n:=(l.x_.length:Int)+l.a_.h_.length+l.a_.i_.length) (by omega) (by omega)];rfl
  refine(f0M (s':=((l.x_.length:Int)+l.a_.h_.length+l.a_.i_.length+l.a_.m_.length,3)) ?_).trans ?_
  · show some (Sum.inl (_,_))=_
    rw[w64 (n:=(l.x_.length:Int)+l.a_.h_.length+l.a_.i_.length+l.a_.m_.length) (by omega) (by omega)];rfl
  refine(f0M (s':=((l.x_.length:Int)+l.a_.h_.length+l.a_.i_.length+l.a_.m_.length+l.a_.v_.length,4)) ?_).trans ?_
  · show some (Sum.inl (_,_))=_
    rw[w64 (n:=(l.x_.length:Int)+l.a_.h_.length+l.a_.i_.length+l.a_.m_.length+l.a_.v_.length) (by omega) (by omega)];rfl
  refine h0O ?_
  show some (Sum.inr _)=_
  unfold y0z
  simp
theorem C0J {xs:List m0G} {a:Nat} (ha:a<=9007199254740992)(hx:xs.length<=8)(w: ∀x∈xs,r0w x):a0t (rS xs) big ((a:Int),0)=some ((a+tot (λx=>x.V_.length) xs:Nat):Int):=by
  refine n0y xs (λpre=>(((a+tot (λx:m0G=>x.V_.length) pre:Nat):Int),(pre.length:Int))) _ (by simp[tot]) (λpre x suf h=> ?_) ?_ (by omega)
  · have hb:=o0p (f:=λx:m0G=>x.V_.length) (l:=pre) (B:=140737488355328) λy hy=>(w y (by rw[h];simp[hy])).2
    have hxw:x.V_.length<=140737488355328:=(w x (by rw[h];simp)).2
    have hl:pre.length<=8:=by rw[h]at hx;simp at hx;omega
    simp only[rS]
    rw[h,v0F,s0g,r0V,o0R,z0g (by rw[<-h];omega)]
    simp only[cond_true]
    rw[w64 (by omega) (by omega)]
    simp only[ag,Sum.inl.injEq,aB,and_true]
    omega
  · simp only[rS];rw[q0L];rfl
theorem C0O {xs:List j0V} {a:Nat} (ha:a<=90071992547409920)(hx:xs.length<=95)(w: ∀x∈xs,r0u x):a0t (B0P xs) big ((a:Int),0)=some ((a+tot (λx=>x.K_.length) xs:Nat):Int):=by
  refine n0y xs (λpre=>(((a+tot (λx:j0V=>x.K_.length) pre:Nat):Int),(pre.length:Int))) _ (by simp[tot]) (λpre x suf h=> ?_) ?_ (by omega)
  · have hb:=o0p (f:=λx:j0V=>x.K_.length) (l:=pre) (B:=140737488355328) λy hy=>(w y (by rw[h];simp[hy])).2.2
    have hxw:x.K_.length<=140737488355328:=(w x (by rw[h];simp)).2.2
    have hl:pre.length<=95:=by rw[h]at hx;simp at hx;omega
    simp only[B0P]
    rw[h,v0F,s0g,r0V,o0R,z0g (by rw[<-h];omega)]
    simp only[cond_true]
    rw[w64 (by omega) (by omega)]
    simp only[ag,Sum.inl.injEq,aB,and_true]
    omega
  · simp only[B0P];rw[q0L];rfl
theorem D0p {xs:List m0Q} {a:Nat} (ha:a<=18014398509481984)(hx:xs.length<=105)(w: ∀x∈xs,r0v x):a0t (cS xs) big ((a:Int),0)=some ((a+tot (λx=>x.Q_.length+x.M_.length) xs:Nat):Int):=by
  refine n0y xs (λpre=>(((a+tot (λx:m0Q=>x.Q_.length+x.M_.length) pre:Nat):Int),(pre.length:Int))) _ (by simp[tot]) (λpre x suf h=> ?_) ?_ (by omega)
  · have hb:=o0p (f:=λx:m0Q=>x.Q_.length+x.M_.length) (l:=pre) (B:=281474976710656) λy hy=>by
      have h1:y.Q_.length<=140737488355328:=(w y (by rw[h];simp[hy])).1
      have h2:y.M_.length<=140737488355328:=(w y (by rw[h];simp[hy])).2.1
      omega
    have h1:x.Q_.length<=140737488355328:=(w x (by rw[h];simp)).1
    have h2:x.M_.length<=140737488355328:=(w x (by rw[h];simp)).2.1
    have hl:pre.length<=105:=by rw[h]at hx;simp at hx;omega
    simp only[cS]
    rw[h,v0F,s0g,r0V,o0R,z0g (by rw[<-h];omega)]
    simp only[cond_true]
    rw[w64 (n:=((a+tot (λx:m0Q=>x.Q_.length+x.M_.length) pre:Nat):Int)+(x.Q_.length:Int)) (by omega) (by omega),w64 (by omega) (by omega)]
    simp only[ag,Sum.inl.injEq,aB,and_true]
    omega
  · simp only[cS];rw[q0L];rfl

theorem s0M {l:f0d} (w:o0a l): ∃b,c0x l=some b/\(b=true->l.s_.length<=8/\l.f_.length<=105/\l.c_.length<=95/\
    y0z l+tot (λx=>x.V_.length) l.s_+tot (λx=>x.Q_.length+x.M_.length) l.f_+tot (λx=>x.K_.length) l.c_<=6000):=by
  rw[x0e,C0L w,ao]
  obtain⟨w0,_,⟨w1,w2,w3,w4⟩,wr,wc,wk⟩:=w
  unfold WfT at w0 w1 w2 w3 w4
  by_cases h1:l.s_.length<=8
  · rw[dF (show¬(l.s_.length:Int)>8 by omega)]
    by_cases h2:l.f_.length<=105
    · rw[dF (show¬(l.f_.length:Int)>105 by omega)]
      by_cases h3:l.c_.length<=95
      · rw[dF (show¬(l.c_.length:Int)>95 by omega)]
        simp only[cond_false,ao,a0l]
        have hp:y0z l<=703687441776640:=by unfold y0z;omega
        have b1:=o0p (f:=λx:m0G=>x.V_.length) (l:=l.s_) (B:=140737488355328) λy hy=>(wr.2 y hy).2
        have b2:=o0p (f:=λx:m0Q=>x.Q_.length+x.M_.length) (l:=l.f_) (B:=281474976710656) λy hy=>by
          have q1:y.Q_.length<=140737488355328:=(wc.2 y hy).1
          have q2:y.M_.length<=140737488355328:=(wc.2 y hy).2.1
          omega
        rw[C0J (by omega) h1 wr.2,ao,D0p (by omega) h2 wc.2,ao,C0O (by omega) h3 wk.2,ao]
        refine⟨_,rfl,λh=>⟨h1,h2,h3, ?_⟩⟩
        have:=of_decide_eq_true h
        omega
      · rw[dT (show(l.c_.length:Int)>95 by omega)]
        exact⟨false,rfl,λh=>by cases h⟩
    · rw[dT (show(l.f_.length:Int)>105 by omega)]
      exact⟨false,rfl,λh=>by cases h⟩
  · rw[dT (show(l.s_.length:Int)>8 by omega)]
    exact⟨false,rfl,λh=>by cases h⟩

theorem p0C {l:f0d} (w:o0a l)(h2:l.s_.length<=8/\l.f_.length<=105/\l.c_.length<=95/\
    y0z l+tot (λx=>x.V_.length) l.s_+tot (λx=>x.Q_.length+x.M_.length) l.f_+tot (λx=>x.K_.length) l.c_<=6000):
    (l.x_.length<=4294967296/\(l.a_.h_.length<=100000/\l.a_.i_.length<=100000/\l.a_.m_.length<=100000/\l.a_.v_.length<=100000))/\l.s_.length<=8/\l.f_.length<=105/\(∀c∈l.f_,c.M_.length<=6000)/\l.c_.length<=95/\ ∀c∈l.c_,c.K_.length<=6000:=by
  obtain⟨h1,h2,h3,h4⟩:=h2
  unfold y0z at h4
  refine⟨⟨by omega,by omega,by omega,by omega,by omega⟩,h1,h2,λc hc=> ?_,h3,λc hc=> ?_⟩
  · have:=r0C (λx:m0Q=>x.Q_.length+x.M_.length) hc
    omega
  · have:=r0C (λx:j0V=>x.K_.length) hc
    omega
theorem y0M {l:f0d} (w:o0a l)(h:l.s_.length<=8/\l.f_.length<=105/\l.c_.length<=95/\
    y0z l+tot (λx=>x.V_.length) l.s_+tot (λx=>x.Q_.length+x.M_.length) l.f_+tot (λx=>x.K_.length) l.c_<=6000):Tot (c0I l) (λ_=>True):=by
  obtain⟨⟨f0,f1⟩,f2,f3,f4,f5,f6⟩:=p0C w h
  unfold c0I
  exact tB (x0y f0 f1 f2 f3 f4 f5 f6) (λ_ _=>tR trivial)
theorem o0o(a:f0d)(wa:o0a a)(b:f0d)(wb:o0a b):c0g a b=some true:=by
  obtain⟨sa,ea,ha⟩:=s0M wa
  obtain⟨sb,eb,hb⟩:=s0M wb
  have key:Tot (c0g a b) (λr=>r=true):=by
    unfold c0g
    rw[show f0s=some true from rfl,ao,ea,ao]
    refine tJ (Tot.mono (p:=λx:Unit⊕Bool=>match x with| .inl _=>sa=true/\sb=true| .inr r=>r=true) (tB (p:=λc=>c=false->sa=true/\sb=true) ?_ (λc hc=>tI (λ_=>tR rfl) (λe=>tR (hc e)))) (λx hx=> ?_))
    · cases sa with
      |false=>exact tR (λh=>by cases h)
      |true=>
        show Tot (Option.bind _ _) _
        rw[eb,ao]
        cases sb with
        |false=>exact tR (λh=>by cases h)
        |true=>
          show Tot (Option.bind _ _) _
          exact tB (y0M wa (ha rfl)) (λ_ _=>tI (λ_=>tR (λh=>by cases h)) (λ_=>tB (y0M wb (hb rfl)) (λ_ _=>tR (λ_=>⟨rfl,rfl⟩))))
    · cases x with
      |inr r=>exact hx
      |inl u=>
        obtain⟨⟨f0,f1⟩,f2,f3,f4,f5,f6⟩:=p0C wa (ha hx.1)
        obtain⟨⟨g0,g1⟩,g2,g3,g4,g5,g6⟩:=p0C wb (hb hx.2)
        obtain⟨ca,oa,la⟩:=B0C f1 f2 f3 f4 f5 f6
        obtain⟨cb,ob,lb⟩:=B0C g1 g2 g3 g4 g5 g6
        show Tot (Option.bind (Option.bind (j0Q a) _) _) _
        rw[oa,ao,ob,ao,y0f (by rw[la];omega) (by rw[la];omega) (by rw[la];omega),ao,t0K (by omega) (by omega) (by omega),ao,ao]
        refine tR ?_
        by_cases e:a=b
        · subst e
          have:ca=cb:=aq (oa.symm.trans ob)
          simp[this]
        · have: ¬ca=cb:=λh=>e (by rw[<-la,<-lb,h])
          simp[e,this]
  obtain⟨r,h,rfl⟩:=key
  exact h

def o0f {H : Type} : List (String × DataW H) := [("math/bits.deBruijn32tab", Rows.laid_math_bits_deBruijn32tab), ("math/bits.deBruijn64tab", Rows.laid_math_bits_deBruijn64tab), ("internal/strconv.uint64pow10", Rows.laid_internal_strconv_uint64pow10), ("exergue/class.noughts", Rows.laid_exergue_class_noughts)]
theorem y0c(os:Os)(args:Array Value):laidMetH Tryz.prog o0f ((World.doorLaid Tryz.prog 4000 os).forCall (λ_ _=>0) ⟨#[],args,[]⟩).memory:=
  laidMetH_of_parts3 (fuel:=8) (laidMet_of_run' 8 (by kernel_rfl) (by kernel_rfl)) (by kernel_rfl) (by kernel_rfl)

/-- Package variables hold what they are said to. -/
theorem x0X {W:World} (hL:laidMetH Tryz.prog o0f W):i0F W (KW W) λ_=>none:=λg cs h=>by
  have hh:(o0f (H:=Unit)).all (λx=>x.2.handleName?.isNone)=true:=by kernel_rfl
  by_cases h0:g=0
  · subst h0
    obtain rfl:=aq (show some [.int .i32 48, .int .i32 1632, .int .i32 1776, .int .i32 1984, .int .i32 2406, .int .i32 2534, .int .i32 2662, .int .i32 2790, .int .i32 2918, .int .i32 3046, .int .i32 3174, .int .i32 3302, .int .i32 3430, .int .i32 3664, .int .i32 3792, .int .i32 3872, .int .i32 6112, .int .i32 6160, .int .i32 65296, .int .i32 120782]=some cs from h)
    exact l0A hh hL (nm := "exergue/class.noughts") (t := 366) (e := 21) (n := 20) (k := .i32) [48, 1632, 1776, 1984, 2406, 2534, 2662, 2790, 2918, 3046, 3174, 3302, 3430, 3664, 3792, 3872, 6112, 6160, 65296, 120782] (by unfold o0f; simp only [aO, cq, or_false]; first | exact Or.inl rfl | exact Or.inr (Or.inl rfl) | exact Or.inr (Or.inr (Or.inl rfl)) | exact Or.inr rfl | exact Or.inr (Or.inr rfl) | exact Or.inr (Or.inr (Or.inr rfl)) | rfl) (by kernel_rfl) (by kernel_rfl) Tryz.underlying366 Tryz.underlying21 (by kernel_rfl) (by kernel_rfl)
  by_cases h2:g=2
  · subst h2
    obtain rfl:=aq (show some [.int .u64 1, .int .u64 10, .int .u64 100, .int .u64 1000, .int .u64 10000, .int .u64 100000, .int .u64 1000000, .int .u64 10000000, .int .u64 100000000, .int .u64 1000000000, .int .u64 10000000000, .int .u64 100000000000, .int .u64 1000000000000, .int .u64 10000000000000, .int .u64 100000000000000, .int .u64 1000000000000000, .int .u64 10000000000000000, .int .u64 100000000000000000, .int .u64 1000000000000000000, .int .u64 10000000000000000000]=some cs from h)
    exact l0A hh hL (nm := "internal/strconv.uint64pow10") (t := 461) (e := 365) (n := 20) (k := .u64) [1, 10, 100, 1000, 10000, 100000, 1000000, 10000000, 100000000, 1000000000, 10000000000, 100000000000, 1000000000000, 10000000000000, 100000000000000, 1000000000000000, 10000000000000000, 100000000000000000, 1000000000000000000, 10000000000000000000] (by unfold o0f; simp only [aO, cq, or_false]; first | exact Or.inl rfl | exact Or.inr (Or.inl rfl) | exact Or.inr (Or.inr (Or.inl rfl)) | exact Or.inr rfl | exact Or.inr (Or.inr rfl) | exact Or.inr (Or.inr (Or.inr rfl)) | rfl) (by kernel_rfl) (by kernel_rfl) Tryz.underlying461 Tryz.underlying365 (by kernel_rfl) (by kernel_rfl)
  by_cases h3:g=3
  · subst h3
    obtain rfl:=aq (show some [.int .u8 0, .int .u8 1, .int .u8 28, .int .u8 2, .int .u8 29, .int .u8 14, .int .u8 24, .int .u8 3, .int .u8 30, .int .u8 22, .int .u8 20, .int .u8 15, .int .u8 25, .int .u8 17, .int .u8 4, .int .u8 8, .int .u8 31, .int .u8 27, .int .u8 13, .int .u8 23, .int .u8 21, .int .u8 19, .int .u8 16, .int .u8 7, .int .u8 26, .int .u8 12, .int .u8 18, .int .u8 6, .int .u8 11, .int .u8 5, .int .u8 10, .int .u8 9]=some cs from h)
    exact l0A hh hL (nm := "math/bits.deBruijn32tab") (t := 475) (e := 5) (n := 32) (k := .u8) [0, 1, 28, 2, 29, 14, 24, 3, 30, 22, 20, 15, 25, 17, 4, 8, 31, 27, 13, 23, 21, 19, 16, 7, 26, 12, 18, 6, 11, 5, 10, 9] (by unfold o0f; simp only [aO, cq, or_false]; first | exact Or.inl rfl | exact Or.inr (Or.inl rfl) | exact Or.inr (Or.inr (Or.inl rfl)) | exact Or.inr rfl | exact Or.inr (Or.inr rfl) | exact Or.inr (Or.inr (Or.inr rfl)) | rfl) (by kernel_rfl) (by kernel_rfl) Tryz.underlying475 Tryz.underlying5 (by kernel_rfl) (by kernel_rfl)
  by_cases h4:g=4
  · subst h4
    obtain rfl:=aq (show some [.int .u8 0, .int .u8 1, .int .u8 56, .int .u8 2, .int .u8 57, .int .u8 49, .int .u8 28, .int .u8 3, .int .u8 61, .int .u8 58, .int .u8 42, .int .u8 50, .int .u8 38, .int .u8 29, .int .u8 17, .int .u8 4, .int .u8 62, .int .u8 47, .int .u8 59, .int .u8 36, .int .u8 45, .int .u8 43, .int .u8 51, .int .u8 22, .int .u8 53, .int .u8 39, .int .u8 33, .int .u8 30, .int .u8 24, .int .u8 18, .int .u8 12, .int .u8 5, .int .u8 63, .int .u8 55, .int .u8 48, .int .u8 27, .int .u8 60, .int .u8 41, .int .u8 37, .int .u8 16, .int .u8 46, .int .u8 35, .int .u8 44, .int .u8 21, .int .u8 52, .int .u8 32, .int .u8 23, .int .u8 11, .int .u8 54, .int .u8 26, .int .u8 40, .int .u8 15, .int .u8 34, .int .u8 20, .int .u8 31, .int .u8 10, .int .u8 25, .int .u8 14, .int .u8 19, .int .u8 9, .int .u8 13, .int .u8 8, .int .u8 7, .int .u8 6]=some cs from h)
    exact l0A hh hL (nm := "math/bits.deBruijn64tab") (t := 476) (e := 5) (n := 64) (k := .u8) [0, 1, 56, 2, 57, 49, 28, 3, 61, 58, 42, 50, 38, 29, 17, 4, 62, 47, 59, 36, 45, 43, 51, 22, 53, 39, 33, 30, 24, 18, 12, 5, 63, 55, 48, 27, 60, 41, 37, 16, 46, 35, 44, 21, 52, 32, 23, 11, 54, 26, 40, 15, 34, 20, 31, 10, 25, 14, 19, 9, 13, 8, 7, 6] (by unfold o0f; simp only [aO, cq, or_false]; first | exact Or.inl rfl | exact Or.inr (Or.inl rfl) | exact Or.inr (Or.inr (Or.inl rfl)) | exact Or.inr rfl | exact Or.inr (Or.inr rfl) | exact Or.inr (Or.inr (Or.inr rfl)) | rfl) (by kernel_rfl) (by kernel_rfl) Tryz.underlying476 Tryz.underlying5 (by kernel_rfl) (by kernel_rfl)
  exfalso
  have:x0W g=none:=by
    unfold x0W
    split<;>first|rfl|(exfalso;simp_all)
  rw[show B0R g=x0W g from rfl,this]at h
  cases h

theorem w0g {P:Program} (h:P.funcs.toList.any Func.goes=false)(f:FuncId):P.goes f=false:=by
  have h1: ∀fn∈P.funcs.toList,fn.goes=false:=λfn hm=>by
    rw[List.any_eq_false]at h
    simpa using h fn hm
  have h2:P.funcs.any Func.goes=false:=by rw[<-Array.any_toList];exact h
  unfold Program.goes
  rw[h2,Bool.and_false,Bool.or_false,List.any_eq_false]
  intro g _
  cases hg:P.funcs[g]? with
  |none=>simp
  |some fn=>
    have hm:fn∈P.funcs.toList:=by
      rw[aC]
      exact Array.mem_of_getElem? hg
    simp[h1 fn hm]
theorem go0:Tryz.prog.funcs.toList.any Func.goes=false:=by kernel_rfl
theorem w0h(s:String):false=Tryz.prog.goesFrom s:=by
  unfold Program.goesFrom
  cases Tryz.prog.funcNamed s with
  |none=>rfl
  |some f=>exact(w0g go0 f).symm
theorem z0V:false=Rows.certSamesRow.goesBy Tryz.prog:=by
  show false=(Tryz.prog.goesFrom _||false)
  rw[Bool.or_false];exact w0h _
set_option maxRecDepth 100000 in
theorem m0S(os:Os)(started:os.Started)(H:Type)(enc:TypeId×Value->H):
    ReturnsInHanded {} Tryz.checked os 3 .any (λw args=>(Rows.certSamesSpec.pre enc Tryz.prog Tryz.f3 [] false w args/\laidMetH Tryz.prog o0f w)/\sizedMet enc Tryz.prog Tryz.f3 (OpenSpec.ofChange Rows.certSamesSpec) false w args) (Rows.certSamesSpec.post enc Tryz.prog Tryz.f3 false true false false):=by
  refine returnsInHanded_of_change_and (C:=Tryz.checked) (X:=λw _=>laidMetH Tryz.prog o0f w) (λ_ _ _ hh h=>h.of_heap hh) Tryz.own started (by kernel_rfl) Tryz.func3
    (ChangeSpec.witness_shaped (enc:=enc) (C:=Tryz.checked) (os:=os) (X:=λw _=>laidMetH Tryz.prog o0f w) false (World.doorLaid Tryz.prog 4000 os) #[.agg #[.string ⟨#[]⟩, .int .i32 0, .int .i32 0, .int .i32 0, .int .i32 0, .int .i32 0, .int .i32 0, .int .i32 0, .string ⟨#[]⟩, .string ⟨#[]⟩, .string ⟨#[]⟩, .string ⟨#[]⟩, .slice none 0 0, .slice none 0 0, .slice none 0 0], .agg #[.string ⟨#[]⟩, .int .i32 0, .int .i32 0, .int .i32 0, .int .i32 0, .int .i32 0, .int .i32 0, .int .i32 0, .string ⟨#[]⟩, .string ⟨#[]⟩, .string ⟨#[]⟩, .string ⟨#[]⟩, .slice none 0 0, .slice none 0 0, .slice none 0 0]] 8 rfl (World.shaped_of_RefB (by kernel_rfl) (by kernel_rfl)) (by kernel_rfl) (by kernel_rfl) (by kernel_rfl) (y0c os _)) ?_
  intro W base args ds gs before hval0 hW _ hsz0 hL _
  have hsz:(DataW.weightsEach Tryz.prog (Tryz.f3.params.toList++Rows.certSamesSpec.plain.varTypes Tryz.prog) (ds++gs)).all (· <=reachBytes)=true:=hsz0
  clear hsz0
  refine x0Q (P:=Tryz.prog) (n:=4) (tb:=4) Tryz.laidOut Tryz.underlying4 rfl rfl (by kernel_rfl) (λh=> ?_) hval0 hW ?_ (x0X hL)
  · rw[Tryz.params3]at h
    obtain⟨d0,d1,rfl⟩:=l2 h
    exact⟨rfl,rfl,rfl⟩
  · intro ss hg hl1 hl2 hs
    subst hg
    rw[Tryz.params3]at hl1 hl2 hs hsz
    obtain⟨d0,d1,rfl⟩:=l2 hl1
    obtain⟨s0,s1,rfl⟩:=l2 hl2
    obtain⟨cs0,rfl,hc0⟩:=l0d Tryz.underlying29 (hs 0 29 _ _ rfl rfl rfl)
    obtain⟨a0,rfl,w0⟩:=p0Z (n:=0) _ _ hc0 (n0l hsz (j:=0) rfl rfl)
    obtain⟨cs1,rfl,hc1⟩:=l0d Tryz.underlying29 (hs 1 29 _ _ rfl rfl rfl)
    obtain⟨a1,rfl,w1⟩:=p0Z (n:=0) _ _ hc1 (n0l hsz (j:=1) rfl rfl)
    exact⟨[],h0H (o0o a0 w0 a1 w1)⟩
theorem p0Q:Rows.CertSamesSaid:=
  OpenClaim.holds_of_wide 3 Tryz.f3 rfl rfl rfl rfl rfl rfl rfl ⟨rfl,rfl,rfl,rfl,rfl⟩ rfl rfl rfl rfl rfl (by kernel_rfl) Tryz.func3 qJ
    (of_decide_eq_true (by kernel_rfl)) (by unfold Func.isWrapper;first|(rw[if_pos (by decide+kernel)];kernel_rfl)|(rw[if_neg (by decide+kernel)];exact⟨rfl,rfl⟩))
    (λos started H enc _=>m0S os started H enc)

theorem CertSames_holds:Rows.CertSamesCardSaid:=
  Claim7.holds_tied_plain_at .later [] [.data, .data, .data, .data] true (true, "15804dc7fe5a2562284dc5cb2c878cc423931ca054b0435eedb89837d5b45441") false
    p0Q (λ_ h=>by cases h) (by kernel_rfl) (λ_ h=>by cases h) certSames_row_tie rfl ⟨rfl,rfl⟩ (by kernel_rfl) rfl
    (λf fn hf hfn=>by
      obtain rfl : f = 3 := aq ((show Tryz.prog.funcNamed "exergue/exerguelaw20.CertSames" = some 3 by kernel_rfl).symm.trans hf) |>.symm
      obtain rfl:fn=Tryz.f3:=(aq (Tryz.func3.symm.trans hfn)).symm
      exact⟨by kernel_rfl,λj t ht=>by
        rw[Tryz.params3]at ht
        have hm:t∈ [29,29]:=by simpa using Array.mem_of_getElem? ht
        have hall:([29,29].all λu=> !Tryz.prog.wantsStandIn u)=true:=by kernel_rfl
        exact(show Tryz.prog.wantsStandIn t=false by simpa using List.all_eq_true.1 hall t hm)⟩)
    z0V

end Go.Proofs.YtjlgflhfihmabaaGreatDoor
