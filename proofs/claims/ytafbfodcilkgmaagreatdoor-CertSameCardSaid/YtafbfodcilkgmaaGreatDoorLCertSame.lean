/-
  The statement CertSameCard is proved: at every input the law answers true, and its input reads as it did. Conditions: those of the card (package variables are as the program text lays them).
-/
import Derived.Test.YtafbfodcilkgmaaGreatDoorJ
import Derived.Test.YtafbfodcilkgmaaGreatDoorP
import Derived.Test.YtafbfodcilkgmaaGreatDoorCards
import Derived.Test.YtafbfodcilkgmaaGreatDoorTie
import Derived.ProofKit
import Derived.SizedLaws
import Derived.LaidMore
import Derived.SevenTiedAt
set_option linter.all false
namespace Go.Proofs.YtafbfodcilkgmaaGreatDoor
open Go Go.Sy Go.RowKit Go.ChangeShapes Go.WideShapes Go.ChangeAt
open Go.IntKind renaming bits->zH,signed->oF,wrap->zA
open _root_.Option renaming bind->jA,some->wA
open _root_.Or renaming inl->yK,inr->yF
open _root_.Decidable renaming decide->vA
open _root_.Bool renaming false->yA,true->oA
set_option maxRecDepth 100000
set_option maxHeartbeats 4000000

def Tryz.own:ownKnob Tryz.prog.godebug=none:=by kernel_rfl
def Tryz.laidOut:laidOutB Tryz.prog=true:=by kernel_rfl

def M0E {α:Type} {l:List α} (h:l.length=2): ∃a0 a1,l=[a0,a1]:=by
  match l,h with
  | [a0,a1],_=>exact⟨a0,a1,rfl⟩
def E0y {α:Type} {l:List α} (h:l.length=3): ∃a0 a1 a2,l=[a0,a1,a2]:=by
  match l,h with
  | [a0,a1,a2],_=>exact⟨a0,a1,a2,rfl⟩
def M0D {α:Type} {l:List α} (h:l.length=4): ∃a0 a1 a2 a3,l=[a0,a1,a2,a3]:=by
  match l,h with
  | [a0,a1,a2,a3],_=>exact⟨a0,a1,a2,a3,rfl⟩
def I0t {α:Type} {l:List α} (h:l.length=7): ∃a0 a1 a2 a3 a4 a5 a6,l=[a0,a1,a2,a3,a4,a5,a6]:=by
  match l,h with
  | [a0,a1,a2,a3,a4,a5,a6],_=>exact⟨a0,a1,a2,a3,a4,a5,a6,rfl⟩
def K0i {α:Type} {l:List α} (h:l.length=15): ∃a0 a1 a2 a3 a4 a5 a6 a7 a8 a9 a10 a11 a12 a13 a14,l=[a0,a1,a2,a3,a4,a5,a6,a7,a8,a9,a10,a11,a12,a13,a14]:=by
  match l,h with
  | [a0,a1,a2,a3,a4,a5,a6,a7,a8,a9,a10,a11,a12,a13,a14],_=>exact⟨a0,a1,a2,a3,a4,a5,a6,a7,a8,a9,a10,a11,a12,a13,a14,rfl⟩
def B0l(x:b0z):Prop:=(WfI .i32) x.Z_/\(WfI .i32) x.n_/\(WfI .i32) x.z_/\(WfI .i32) x.u_/\(WfI .i32) x.o_/\(WfI .i32) x.v_/\(WfI .i32) x.i_
def D0e {n:Nat} :r0G Tryz.prog (n+2) 23 a0q B0l:=λd cs h hs=>by
  have hl:cs.length=7:=(j0v Tryz.underlying23 h).trans dB;obtain⟨c0,c1,c2,c3,c4,c5,c6,rfl⟩:=I0t hl;obtain⟨p0,h0,z0⟩:=a0t Tryz.underlying23 h hs 0 21 [c0] dB;obtain⟨x0,e0,w0⟩: ∃x:Int,[c0]=(a0l .i32) x/\(WfI .i32) x:=(c0Y Tryz.underlying21) p0 _ h0 z0;obtain⟨p1,h1,z1⟩:=a0t Tryz.underlying23 h hs 1 21 [c1] dB;obtain⟨x1,e1,w1⟩: ∃x:Int,[c1]=(a0l .i32) x/\(WfI .i32) x:=(c0Y Tryz.underlying21) p1 _ h1 z1;obtain⟨p2,h2,z2⟩:=a0t Tryz.underlying23 h hs 2 21 [c2] dB;obtain⟨x2,e2,w2⟩: ∃x:Int,[c2]=(a0l .i32) x/\(WfI .i32) x:=(c0Y Tryz.underlying21) p2 _ h2 z2;obtain⟨p3,h3,z3⟩:=a0t Tryz.underlying23 h hs 3 21 [c3] dB;obtain⟨x3,e3,w3⟩: ∃x:Int,[c3]=(a0l .i32) x/\(WfI .i32) x:=(c0Y Tryz.underlying21) p3 _ h3 z3;obtain⟨p4,h4,z4⟩:=a0t Tryz.underlying23 h hs 4 21 [c4] dB;obtain⟨x4,e4,w4⟩: ∃x:Int,[c4]=(a0l .i32) x/\(WfI .i32) x:=(c0Y Tryz.underlying21) p4 _ h4 z4;obtain⟨p5,h5,z5⟩:=a0t Tryz.underlying23 h hs 5 21 [c5] dB;obtain⟨x5,e5,w5⟩: ∃x:Int,[c5]=(a0l .i32) x/\(WfI .i32) x:=(c0Y Tryz.underlying21) p5 _ h5 z5;obtain⟨p6,h6,z6⟩:=a0t Tryz.underlying23 h hs 6 21 [c6] dB;obtain⟨x6,e6,w6⟩: ∃x:Int,[c6]=(a0l .i32) x/\(WfI .i32) x:=(c0Y Tryz.underlying21) p6 _ h6 z6;refine⟨⟨x0,x1,x2,x3,x4,x5,x6⟩, ?_,⟨w0,w1,w2,w3,w4,w5,w6⟩⟩;show [c0]++ [c1]++ [c2]++ [c3]++ [c4]++ [c5]++ [c6]=((a0l .i32) x0++(a0l .i32) x1++(a0l .i32) x2++(a0l .i32) x3++(a0l .i32) x4++(a0l .i32) x5++(a0l .i32) x6);rw[e0,e1,e2,e3,e4,e5,e6]
def F0T(x:L0o):Prop:=WfT x.g_/\WfT x.h_/\WfT x.m_/\WfT x.s_
def D0d {n:Nat} :r0G Tryz.prog (n+2) 24 w0r F0T:=λd cs h hs=>by
  have hl:cs.length=4:=(B0y Tryz.underlying24 h).trans dB;obtain⟨c0,c1,c2,c3,rfl⟩:=M0D hl;obtain⟨p0,h0,z0⟩:=o0f Tryz.underlying24 h hs 0 [c0] dB dB;obtain⟨x0,e0,w0⟩: ∃x:List UInt8,[c0]=u0h x/\WfT x:=(g0m Tryz.underlying9) p0 _ h0 z0;obtain⟨p1,h1,z1⟩:=o0f Tryz.underlying24 h hs 1 [c1] dB dB;obtain⟨x1,e1,w1⟩: ∃x:List UInt8,[c1]=u0h x/\WfT x:=(g0m Tryz.underlying9) p1 _ h1 z1;obtain⟨p2,h2,z2⟩:=o0f Tryz.underlying24 h hs 2 [c2] dB dB;obtain⟨x2,e2,w2⟩: ∃x:List UInt8,[c2]=u0h x/\WfT x:=(g0m Tryz.underlying9) p2 _ h2 z2;obtain⟨p3,h3,z3⟩:=o0f Tryz.underlying24 h hs 3 [c3] dB dB;obtain⟨x3,e3,w3⟩: ∃x:List UInt8,[c3]=u0h x/\WfT x:=(g0m Tryz.underlying9) p3 _ h3 z3;refine⟨⟨x0,x1,x2,x3⟩, ?_,⟨w0,w1,w2,w3⟩⟩;show [c0]++ [c1]++ [c2]++ [c3]=(u0h x0++u0h x1++u0h x2++u0h x3);rw[e0,e1,e2,e3]
def y0E(x:p0T):Prop:=(WfI .i64) x.al_/\WfT x.at_
def C0Z {n:Nat} :r0G Tryz.prog (n+2) 74 c0C y0E:=λd cs h hs=>by
  have hl:cs.length=2:=(j0v Tryz.underlying74 h).trans dB;obtain⟨c0,c1,rfl⟩:=M0E hl;obtain⟨p0,h0,z0⟩:=a0t Tryz.underlying74 h hs 0 3 [c0] dB;obtain⟨x0,e0,w0⟩: ∃x:Int,[c0]=(a0l .i64) x/\(WfI .i64) x:=(c0Y Tryz.underlying3) p0 _ h0 z0;obtain⟨p1,h1,z1⟩:=a0t Tryz.underlying74 h hs 1 9 [c1] dB;obtain⟨x1,e1,w1⟩: ∃x:List UInt8,[c1]=u0h x/\WfT x:=(g0m Tryz.underlying9) p1 _ h1 z1;refine⟨⟨x0,x1⟩, ?_,⟨w0,w1⟩⟩;show [c0]++ [c1]=((a0l .i64) x0++u0h x1);rw[e0,e1]
def y0D(x:p0g):Prop:=WfT x.aa_/\WfT x.r_/\(WfI .i64) x.bj_
def C0Y {n:Nat} :r0G Tryz.prog (n+2) 77 c0B y0D:=λd cs h hs=>by
  have hl:cs.length=3:=(j0v Tryz.underlying77 h).trans dB;obtain⟨c0,c1,c2,rfl⟩:=E0y hl;obtain⟨p0,h0,z0⟩:=a0t Tryz.underlying77 h hs 0 9 [c0] dB;obtain⟨x0,e0,w0⟩: ∃x:List UInt8,[c0]=u0h x/\WfT x:=(g0m Tryz.underlying9) p0 _ h0 z0;obtain⟨p1,h1,z1⟩:=a0t Tryz.underlying77 h hs 1 9 [c1] dB;obtain⟨x1,e1,w1⟩: ∃x:List UInt8,[c1]=u0h x/\WfT x:=(g0m Tryz.underlying9) p1 _ h1 z1;obtain⟨p2,h2,z2⟩:=a0t Tryz.underlying77 h hs 2 3 [c2] dB;obtain⟨x2,e2,w2⟩: ∃x:Int,[c2]=(a0l .i64) x/\(WfI .i64) x:=(c0Y Tryz.underlying3) p2 _ h2 z2;refine⟨⟨x0,x1,x2⟩, ?_,⟨w0,w1,w2⟩⟩;show [c0]++ [c1]++ [c2]=(u0h x0++u0h x1++(a0l .i64) x2);rw[e0,e1,e2]
def y0C(x:j0s):Prop:=(WfI .i64) x.ak_/\(WfI .i64) x.al_/\WfT x.X_
def C0X {n:Nat} :r0G Tryz.prog (n+2) 80 a0O y0C:=λd cs h hs=>by
  have hl:cs.length=3:=(j0v Tryz.underlying80 h).trans dB;obtain⟨c0,c1,c2,rfl⟩:=E0y hl;obtain⟨p0,h0,z0⟩:=a0t Tryz.underlying80 h hs 0 3 [c0] dB;obtain⟨x0,e0,w0⟩: ∃x:Int,[c0]=(a0l .i64) x/\(WfI .i64) x:=(c0Y Tryz.underlying3) p0 _ h0 z0;obtain⟨p1,h1,z1⟩:=a0t Tryz.underlying80 h hs 1 3 [c1] dB;obtain⟨x1,e1,w1⟩: ∃x:Int,[c1]=(a0l .i64) x/\(WfI .i64) x:=(c0Y Tryz.underlying3) p1 _ h1 z1;obtain⟨p2,h2,z2⟩:=a0t Tryz.underlying80 h hs 2 9 [c2] dB;obtain⟨x2,e2,w2⟩: ∃x:List UInt8,[c2]=u0h x/\WfT x:=(g0m Tryz.underlying9) p2 _ h2 z2;refine⟨⟨x0,x1,x2⟩, ?_,⟨w0,w1,w2⟩⟩;show [c0]++ [c1]++ [c2]=((a0l .i64) x0++(a0l .i64) x1++u0h x2);rw[e0,e1,e2]
def v0j(x:f0f):Prop:=WfT x.O_/\B0l x.S_/\F0T x.b_/\(WfL y0E) x.B_/\(WfL y0D) x.k_/\(WfL y0C) x.c_
def D0c {n:Nat} :r0G Tryz.prog (n+4) 29 c0D v0j:=λd cs h hs=>by
  have hl:cs.length=15:=(j0v Tryz.underlying29 h).trans dB;obtain⟨c0,c1,c2,c3,c4,c5,c6,c7,c8,c9,c10,c11,c12,c13,c14,rfl⟩:=K0i hl;obtain⟨p0,h0,z0⟩:=a0t Tryz.underlying29 h hs 0 9 [c0] dB;obtain⟨x0,e0,w0⟩: ∃x:List UInt8,[c0]=u0h x/\WfT x:=(g0m Tryz.underlying9) p0 _ h0 z0;obtain⟨p1,h1,z1⟩:=a0t Tryz.underlying29 h hs 1 23 [c1,c2,c3,c4,c5,c6,c7] dB;obtain⟨x1,e1,w1⟩: ∃x:b0z,[c1,c2,c3,c4,c5,c6,c7]=a0q x/\B0l x:=D0e p1 _ h1 z1;obtain⟨p2,h2,z2⟩:=a0t Tryz.underlying29 h hs 2 24 [c8,c9,c10,c11] dB;obtain⟨x2,e2,w2⟩: ∃x:L0o,[c8,c9,c10,c11]=w0r x/\F0T x:=D0d p2 _ h2 z2;obtain⟨p3,h3,z3⟩:=a0t Tryz.underlying29 h hs 3 25 [c12] dB;obtain⟨x3,e3,w3⟩: ∃x:List p0T,[c12]=(k0j c0C 2) x/\(WfL y0E) x:=(k0S (enc:=c0C) (Wf:=y0E) Tryz.underlying25 (k:=2) dB dB C0Z) p3 _ h3 z3;obtain⟨p4,h4,z4⟩:=a0t Tryz.underlying29 h hs 4 26 [c13] dB;obtain⟨x4,e4,w4⟩: ∃x:List p0g,[c13]=(k0j c0B 3) x/\(WfL y0D) x:=(k0S (enc:=c0B) (Wf:=y0D) Tryz.underlying26 (k:=3) dB dB C0Y) p4 _ h4 z4;obtain⟨p5,h5,z5⟩:=a0t Tryz.underlying29 h hs 5 27 [c14] dB;obtain⟨x5,e5,w5⟩: ∃x:List j0s,[c14]=(k0j a0O 3) x/\(WfL y0C) x:=(k0S (enc:=a0O) (Wf:=y0C) Tryz.underlying27 (k:=3) dB dB C0X) p5 _ h5 z5;refine⟨⟨x0,x1,x2,x3,x4,x5⟩, ?_,⟨w0,w1,w2,w3,w4,w5⟩⟩;show [c0]++ [c1,c2,c3,c4,c5,c6,c7]++ [c8,c9,c10,c11]++ [c12]++ [c13]++ [c14]=(u0h x0++a0q x1++w0r x2++(k0j c0C 2) x3++(k0j c0B 3) x4++(k0j a0O 3) x5);rw[e0,e1,e2,e3,e4,e5]
def I0Y(x:p0h):Prop:=(WfI .i64) x.V_/\(WfI .i64) x.as_/\WfT x.aa_/\(WfL<|WfI .i32) x.r_/\WfB x.aw_/\WfB x.au_/\WfB x.o_
def D0b {n:Nat} :r0G Tryz.prog (n+3) 32 k0N I0Y:=λd cs h hs=>by
  have hl:cs.length=7:=(j0v Tryz.underlying32 h).trans dB;obtain⟨c0,c1,c2,c3,c4,c5,c6,rfl⟩:=I0t hl;obtain⟨p0,h0,z0⟩:=a0t Tryz.underlying32 h hs 0 3 [c0] dB;obtain⟨x0,e0,w0⟩: ∃x:Int,[c0]=(a0l .i64) x/\(WfI .i64) x:=(c0Y Tryz.underlying3) p0 _ h0 z0;obtain⟨p1,h1,z1⟩:=a0t Tryz.underlying32 h hs 1 3 [c1] dB;obtain⟨x1,e1,w1⟩: ∃x:Int,[c1]=(a0l .i64) x/\(WfI .i64) x:=(c0Y Tryz.underlying3) p1 _ h1 z1;obtain⟨p2,h2,z2⟩:=a0t Tryz.underlying32 h hs 2 9 [c2] dB;obtain⟨x2,e2,w2⟩: ∃x:List UInt8,[c2]=u0h x/\WfT x:=(g0m Tryz.underlying9) p2 _ h2 z2;obtain⟨p3,h3,z3⟩:=a0t Tryz.underlying32 h hs 3 30 [c3] dB;obtain⟨x3,e3,w3⟩: ∃x:List Int,[c3]=(k0j (a0l .i32) 1) x/\(WfL<|WfI .i32) x:=(k0S (enc:=(a0l .i32)) (Wf:=(WfI .i32)) Tryz.underlying30 (k:=1) dB dB<|c0Y Tryz.underlying21) p3 _ h3 z3;obtain⟨p4,h4,z4⟩:=a0t Tryz.underlying32 h hs 4 4 [c4] dB;obtain⟨x4,e4,w4⟩: ∃x:Bool,[c4]=H0I x/\WfB x:=(o0d Tryz.underlying4) p4 _ h4 z4;obtain⟨p5,h5,z5⟩:=a0t Tryz.underlying32 h hs 5 4 [c5] dB;obtain⟨x5,e5,w5⟩: ∃x:Bool,[c5]=H0I x/\WfB x:=(o0d Tryz.underlying4) p5 _ h5 z5;obtain⟨p6,h6,z6⟩:=a0t Tryz.underlying32 h hs 6 4 [c6] dB;obtain⟨x6,e6,w6⟩: ∃x:Bool,[c6]=H0I x/\WfB x:=(o0d Tryz.underlying4) p6 _ h6 z6;refine⟨⟨x0,x1,x2,x3,x4,x5,x6⟩, ?_,⟨w0,w1,w2,w3,w4,w5,w6⟩⟩;show [c0]++ [c1]++ [c2]++ [c3]++ [c4]++ [c5]++ [c6]=((a0l .i64) x0++(a0l .i64) x1++u0h x2++(k0j (a0l .i32) 1) x3++H0I x4++H0I x5++H0I x6);rw[e0,e1,e2,e3,e4,e5,e6]
def I0X(x:a0X):Prop:=WfB x.A_/\(WfL<|WfI .u8) x.D_/\(WfI .i64) x.E_
def D0a {n:Nat} :r0G Tryz.prog (n+3) 35 a0D I0X:=λd cs h hs=>by
  have hl:cs.length=3:=(j0v Tryz.underlying35 h).trans dB;obtain⟨c0,c1,c2,rfl⟩:=E0y hl;obtain⟨p0,h0,z0⟩:=a0t Tryz.underlying35 h hs 0 4 [c0] dB;obtain⟨x0,e0,w0⟩: ∃x:Bool,[c0]=H0I x/\WfB x:=(o0d Tryz.underlying4) p0 _ h0 z0;obtain⟨p1,h1,z1⟩:=a0t Tryz.underlying35 h hs 1 33 [c1] dB;obtain⟨x1,e1,w1⟩: ∃x:List Int,[c1]=(k0j (a0l .u8) 1) x/\(WfL<|WfI .u8) x:=(k0S (enc:=(a0l .u8)) (Wf:=(WfI .u8)) Tryz.underlying33 (k:=1) dB dB<|c0Y Tryz.underlying5) p1 _ h1 z1;obtain⟨p2,h2,z2⟩:=a0t Tryz.underlying35 h hs 2 3 [c2] dB;obtain⟨x2,e2,w2⟩: ∃x:Int,[c2]=(a0l .i64) x/\(WfI .i64) x:=(c0Y Tryz.underlying3) p2 _ h2 z2;refine⟨⟨x0,x1,x2⟩, ?_,⟨w0,w1,w2⟩⟩;show [c0]++ [c1]++ [c2]=(H0I x0++(k0j (a0l .u8) 1) x1++(a0l .i64) x2);rw[e0,e1,e2]
def tot {T:Type} (f:T->Nat)(l:List T):Nat:=(l.map f).sum
def v0s {T:Type} (f:T->Nat)(l:List T)(x:T):tot f (l++ [x])=tot f l+f x:=by simp[tot]
def u0E {T:Type} {f:T->Nat} {B:Nat} : ∀ {l:List T},(∀x∈l,f x<=B)->tot f l<=l.length*B
  | [],_=>by simp[tot]
  |x::l,h=>by
    have h1:=h x<|az ..;have h2:=u0E (l:=l) λy hy=>h y (aq _ hy)
    simp only[tot,ao,List.sum_cons,aR,bQ]at h2⊢;omega
def y0K {T:Type} (f:T->Nat): ∀ {l:List T} {x:T},x∈l->f x<=tot f l
  |y::l,x,h=>by
    simp only[tot,ao,List.sum_cons];rcases aT.1 h with rfl|h;omega;have:=y0K f h;simp only[tot]at this;omega
def pS(x0:f0f)(s0:Int×Int):Option ((Int×Int)⊕Int):=
  (bif(vA<|s0.2<4)then(bif(vA<|s0.2=0)then(wA<|.inl ((zA .i64<|s0.1+(x0.b_.g_.length:Int)),(zA .i64<|0+1)))else(bif(vA<|s0.2=1)then(wA<|.inl ((zA .i64<|s0.1+(x0.b_.h_.length:Int)),(zA .i64<|1+1)))else(bif(vA<|s0.2=2)then(wA<|.inl ((zA .i64<|s0.1+(x0.b_.m_.length:Int)),(zA .i64<|2+1)))else(bif(vA<|s0.2=3)then(wA<|.inl ((zA .i64<|s0.1+(x0.b_.s_.length:Int)),(zA .i64<|3+1)))else none))))else(wA<|.inr s0.1))
def rS(xs:List p0T)(s2:Int×Int):Option ((Int×Int)⊕Int):=
  (bif(vA<|s2.2<(xs.length:Int))then(bif inR s2.2 xs.length then(wA<|.inl ((zA .i64<|s2.1+((((nth xs s2.2).at_).length:Int))),(zA .i64<|s2.2+1)))else none)else(wA<|.inr s2.1))
def cS(xs:List p0g)(s1:Int×Int):Option ((Int×Int)⊕Int):=
  (bif(vA<|s1.2<(xs.length:Int))then(bif inR s1.2 xs.length then(bif inR s1.2 xs.length then(wA<|.inl ((zA .i64<|((zA .i64<|s1.1+((((nth xs s1.2).aa_).length:Int))))+((((nth xs s1.2).r_).length:Int))),(zA .i64<|s1.2+1)))else none)else none)else(wA<|.inr s1.1))
def N0R(xs:List j0s)(s3:Int×Int):Option ((Int×Int)⊕Int):=
  (bif(vA<|s3.2<(xs.length:Int))then(bif inR s3.2 xs.length then(wA<|.inl ((zA .i64<|s3.1+((((nth xs s3.2).X_).length:Int))),(zA .i64<|s3.2+1)))else none)else(wA<|.inr s3.1))
def G0s(x0:f0f):f0k x0=(jA (a0m (pS x0) big ((x0.O_.length:Int),0)) λ(s4:Int)=>(jA (jA (bif(vA<|(x0.B_.length:Int)>8)then(wA oA)else(bif(vA<|(x0.k_.length:Int)>105)then(wA oA)else(wA<|(vA<|(x0.c_.length:Int)>95)))) λ(s5:Bool)=>(bif s5 then(wA<|.inr yA)else(wA<|.inl ())))<|a0j λ(s9:Unit)=>(jA (a0m (rS x0.B_) big (s4,0)) λ(s6:Int)=>(jA (a0m (cS x0.k_) big (s6,0)) λ(s7:Int)=>(jA (a0m (N0R x0.c_) big (s7,0)) λ(s8:Int)=>(wA<|vA<|s8<=6000)))))):=rfl
def I0k(l:f0f):Nat:=l.O_.length+l.b_.g_.length+l.b_.h_.length+l.b_.m_.length+l.b_.s_.length
def P0Q {l:f0f} (w:v0j l):a0m (pS l) big ((l.O_.length:Int),0)=wA ((I0k l:Nat):Int):=by
  obtain⟨w0,_,⟨w1,w2,w3,w4⟩,_⟩:=w;unfold WfT at w0 w1 w2 w3 w4;have hb:big=18446744073709551611+1+1+1+1+1:=rfl;rw[hb];refine(g0S (s':=((l.O_.length:Int)+l.b_.g_.length,1)) ?_).trans ?_;show wA (Sum.inl (_,_))=_;rw[w64 (n:=(l.O_.length:Int)+l.b_.g_.length) dA dA];rfl;refine(g0S (s':=((l.O_.length:Int)+l.b_.g_.length+l.b_.h_.length,2)) ?_).trans ?_;show wA (Sum.inl (_,_))=_;rw[w64 (n:=(l.O_.length:Int)+l.b_.g_.length+l.b_.h_.length) dA dA];rfl;refine(g0S (s':=((l.O_.length:Int)+l.b_.g_.length+l.b_.h_.length+l.b_.m_.length,3)) ?_).trans ?_;show wA (Sum.inl (_,_))=_;rw[w64 (n:=(l.O_.length:Int)+l.b_.g_.length+l.b_.h_.length+l.b_.m_.length) dA dA];rfl;refine(g0S (s':=((l.O_.length:Int)+l.b_.g_.length+l.b_.h_.length+l.b_.m_.length+l.b_.s_.length,4)) ?_).trans ?_;show wA (Sum.inl (_,_))=_;rw[w64 (n:=(l.O_.length:Int)+l.b_.g_.length+l.b_.h_.length+l.b_.m_.length+l.b_.s_.length) dA dA];rfl;refine j0U ?_;show wA (Sum.inr _)=_;unfold I0k;simp
def P0O {xs:List p0T} {a:Nat} (ha:a<=9007199254740992)(hx:xs.length<=8)(w: ∀x∈xs,y0E x):a0m (rS xs) big ((a:Int),0)=wA ((a+tot (λx=>x.at_.length) xs:Nat):Int):=by
  refine t0C xs (λpre=>(((a+tot (λx:p0T=>x.at_.length) pre:Nat):Int),(pre.length:Int))) _ (by simp[tot]) (λpre x suf h=> ?_) ?_ dA;have hb:=u0E (f:=λx:p0T=>x.at_.length) (l:=pre) (B:=140737488355328) λy hy=>(w y<|by rw[h];simp[hy]).2
  have hxw:x.at_.length<=140737488355328:=(w x<|by rw[h];simp).2;have hl:pre.length<=8:=by rw[h]at hx;simp at hx;omega
  simp only[rS];rw[h,E0l,z0w,z0j,v0s,J0f<|by rw[<-h];omega];simp only[jC];rw[w64 dA dA];simp only[ai,Sum.inl.injEq,aG,and_true];omega;simp only[rS];rw[A0L];rfl
def P0U {xs:List j0s} {a:Nat} (ha:a<=90071992547409920)(hx:xs.length<=95)(w: ∀x∈xs,y0C x):a0m (N0R xs) big ((a:Int),0)=wA ((a+tot (λx=>x.X_.length) xs:Nat):Int):=by
  refine t0C xs (λpre=>(((a+tot (λx:j0s=>x.X_.length) pre:Nat):Int),(pre.length:Int))) _ (by simp[tot]) (λpre x suf h=> ?_) ?_ dA;have hb:=u0E (f:=λx:j0s=>x.X_.length) (l:=pre) (B:=140737488355328) λy hy=>(w y<|by rw[h];simp[hy]).2.2
  have hxw:x.X_.length<=140737488355328:=(w x<|by rw[h];simp).2.2;have hl:pre.length<=95:=by rw[h]at hx;simp at hx;omega
  simp only[N0R];rw[h,E0l,z0w,z0j,v0s,J0f<|by rw[<-h];omega];simp only[jC];rw[w64 dA dA];simp only[ai,Sum.inl.injEq,aG,and_true];omega;simp only[N0R];rw[A0L];rfl
def Q0w {xs:List p0g} {a:Nat} (ha:a<=18014398509481984)(hx:xs.length<=105)(w: ∀x∈xs,y0D x):a0m (cS xs) big ((a:Int),0)=wA ((a+tot (λx=>x.aa_.length+x.r_.length) xs:Nat):Int):=by
  refine t0C xs (λpre=>(((a+tot (λx:p0g=>x.aa_.length+x.r_.length) pre:Nat):Int),(pre.length:Int))) _ (by simp[tot]) (λpre x suf h=> ?_) ?_ dA
  have hb:=u0E (f:=λx:p0g=>x.aa_.length+x.r_.length) (l:=pre) (B:=281474976710656) λy hy=>by
    have h1:y.aa_.length<=140737488355328:=(w y<|by rw[h];simp[hy]).1;have h2:y.r_.length<=140737488355328:=(w y<|by rw[h];simp[hy]).2.1;omega
  have h1:x.aa_.length<=140737488355328:=(w x<|by rw[h];simp).1;have h2:x.r_.length<=140737488355328:=(w x<|by rw[h];simp).2.1;have hl:pre.length<=105:=by rw[h]at hx;simp at hx;omega
  simp only[cS];rw[h,E0l,z0w,z0j,v0s,J0f<|by rw[<-h];omega];simp only[jC];rw[w64 (n:=((a+tot (λx:p0g=>x.aa_.length+x.r_.length) pre:Nat):Int)+(x.aa_.length:Int)) dA dA,w64 dA dA];simp only[ai,Sum.inl.injEq,aG,and_true];omega;simp only[cS];rw[A0L];rfl

def G0t {l:f0f} (w:v0j l): ∃b,f0k l=wA b/\(b=oA->l.B_.length<=8/\l.k_.length<=105/\l.c_.length<=95/\
    I0k l+tot (λx=>x.at_.length) l.B_+tot (λx=>x.aa_.length+x.r_.length) l.k_+tot (λx=>x.X_.length) l.c_<=6000):=by
  rw[G0s,P0Q w,ah];obtain⟨w0,_,⟨w1,w2,w3,w4⟩,wr,wc,wk⟩:=w;unfold WfT at w0 w1 w2 w3 w4;by_cases h1:l.B_.length<=8;rw[dF (show¬(l.B_.length:Int)>8 by omega)];by_cases h2:l.k_.length<=105;rw[dF (show¬(l.k_.length:Int)>105 by omega)];by_cases h3:l.c_.length<=95;rw[dF (show¬(l.c_.length:Int)>95 by omega)];simp only[wD,ah,a0j];have hp:I0k l<=703687441776640:=by unfold I0k;omega
  have b1:=u0E (f:=λx:p0T=>x.at_.length) (l:=l.B_) (B:=140737488355328) λy hy=>(wr.2 y hy).2
  have b2:=u0E (f:=λx:p0g=>x.aa_.length+x.r_.length) (l:=l.k_) (B:=281474976710656) λy hy=>by
    have q1:y.aa_.length<=140737488355328:=(wc.2 y hy).1;have q2:y.r_.length<=140737488355328:=(wc.2 y hy).2.1;omega
  rw[P0O dA h1 wr.2,ah,Q0w dA h2 wc.2,ah,P0U dA h3 wk.2,ah];refine⟨_,rfl,λh=>⟨h1,h2,h3, ?_⟩⟩;have:=wF h;omega;rw[dT (show(l.c_.length:Int)>95 by omega)];exact⟨yA,rfl,λh=>by cases h⟩;rw[dT (show(l.k_.length:Int)>105 by omega)];exact⟨yA,rfl,λh=>by cases h⟩;rw[dT (show(l.B_.length:Int)>8 by omega)];exact⟨yA,rfl,λh=>by cases h⟩

def A0S {l:f0f} (h2:l.B_.length<=8/\l.k_.length<=105/\l.c_.length<=95/\
    I0k l+tot (λx=>x.at_.length) l.B_+tot (λx=>x.aa_.length+x.r_.length) l.k_+tot (λx=>x.X_.length) l.c_<=6000):
    (l.O_.length<=4294967296/\(l.b_.g_.length<=100000/\l.b_.h_.length<=100000/\l.b_.m_.length<=100000/\l.b_.s_.length<=100000))/\l.B_.length<=8/\l.k_.length<=105/\(∀c∈l.k_,c.r_.length<=6000)/\l.c_.length<=95/\ ∀c∈l.c_,c.X_.length<=6000:=by
  obtain⟨h1,h2,h3,h4⟩:=h2;unfold I0k at h4;refine⟨⟨dA,dA,dA,dA,dA⟩,h1,h2,λc hc=> ?_,h3,λc hc=> ?_⟩;have:=y0K (λx:p0g=>x.aa_.length+x.r_.length) hc;omega;have:=y0K (λx:j0s=>x.X_.length) hc;omega
def N0a {l:f0f} (h:l.B_.length<=8/\l.k_.length<=105/\l.c_.length<=95/\
    I0k l+tot (λx=>x.at_.length) l.B_+tot (λx=>x.aa_.length+x.r_.length) l.k_+tot (λx=>x.X_.length) l.c_<=6000):Tot (e0s l) (λ_=>True):=by
  obtain⟨⟨f0,f1⟩,f2,f3,f4,f5,f6⟩:=A0S h;unfold e0s;exact tB (G0S f0 f1 f2 f3 f4 f5 f6) dJ
def G0P {d:a0X} (hl:d.D_.length<=140737488355328):Tot (f0p d) (λ_=>True):=by
  unfold f0p;refine Tot.joinT (tL (λs:Int=>0<=s/\s<=d.D_.length) (λs=>((d.D_.length:Int)-s).toNat) ⟨dA,dA⟩ dA λs hs=>tI (λe=> ?_) dI) λ_=>tI dI λe=>tB (p:=λ_=>True) (tI (λ_=> ?_) dI) dJ;have e:=dTT e;refine tY (a0c hs.1 e)<|tI dI λ_=>tR ?_;rw[w64 (n:=s+1) dA dA];exact⟨⟨dA,dA⟩,dA⟩;have e:=dFF e;rw[w64 (n:=(d.D_.length:Int)-1) dA dA];exact tY (a0c dG dA)<|tI (λ_=>tY (a0c dA dA)<|tI (λ_=>tI dI dI) dI) dI
def E0h(d:a0X):Prop:=d.D_.length<=40/\ -60<=d.E_/\d.E_<=60
def J0Y {d:a0X} (hl:d.D_.length<=140737488355328):Tot (f0U d) (λr=>r=oA->E0h d):=by
  unfold f0U;exact tB (G0P hl) (λ_ _=>tB (p:=λr=>r=oA->E0h d) (tI (λ_=>tI (λe1=>tI (λe2=>tR λe3=>⟨by have:=dTT e1;omega,by have:=dTT e2;omega,dTT e3⟩) λ_=>tR dH) λ_=>tR dH) λ_=>tR dH) λ_ h=>tR h)
def H0i {l:f0f} {q:p0h} {d:a0X} (wl:v0j l)(wq:q.r_.length<=140737488355328)(hd:d.D_.length<=140737488355328):Tot (d0n l q d) (λr=>r=oA->E0t l/\q.r_.length<=50/\E0h d):=by
  obtain⟨sa,ea,ha⟩:=G0t wl
  have hL:sa=oA->E0t l:=λh=>by
    obtain⟨⟨f0,f1⟩,f2,f3,f4,f5,f6⟩:=A0S<|ha h;exact⟨f1,f2,f3,f4,f5,f6⟩
  unfold d0n;rw[ea,ah];refine tB (J0Y hd) (λnd hn=>tJ<|Tot.mono (p:=λx:Unit⊕Bool=>match x with| .inl _=>sa=oA/\q.r_.length<=50/\E0h d| .inr r=>r=yA) (tB (p:=λc=>c=yA->sa=oA/\q.r_.length<=50/\E0h d) ?_ λc hc=>tI (λ_=>tR rfl) λe=>tR<|hc e) λx hx=> ?_)
  · refine tI (λ_=>tR dH) (λe1=>tI (λ_=>tR dH) λe2=>tI (λ_=>tR dH) λe3=>tR λ_=>⟨by cases sa<;>simp_all,by have:=dFF e3;omega,hn<|by cases nd<;>simp_all⟩)
  cases x with
  |inl u=>exact tB (N0a<|ha hx.1) (λ_ _=>tR λ_=>⟨hL hx.1,hx.2⟩)
  |inr r=>exact λh=>by rw[show r=yA from hx]at h;cases h
def I0m {f r:Int} {k:Nat} (hk:k<=4000000000):o0e ⟨f,r,[]⟩ k=wA ⟨f,r,[]⟩:=by
  unfold o0e;show(bif mk (0:Int) (zA .i64<|0+(k:Int))then wA (⟨f,r,u0O (rep 0 (0:Int)) []⟩:m0o)else none)=_;rw[w64 dA dA,M0C dG dA dA];rfl
def M0h {l:List Int} {f r:Int} (hl:l.length<=1300000000)(hf:l.length<=f/\f<=100000000000)(hr:l.length<=r/\r<=100000000000):Tot (s0r ⟨f,r,[]⟩ l) (λo=>o=(⟨f-l.length,r-l.length,l⟩,0)):=by
  unfold s0r;rw[I0m dA,ah];refine tJ (tW (λs:Int×Int×Int×List Int=>s.1) l.length (λs=>s.2.1=f-s.1/\s.2.2.1=r-s.1/\s.2.2.2=l.take s.1.toNat) dA ⟨⟨by show f=f-0;omega,by show r=r-0;omega,by show []=l.take 0;simp⟩,by show(0:Int)<=0;decide,by show(0:Int)<=_;omega⟩ (λs hs h0 h1=>tY (dT h1)<|tY (a0c h0 h1) ?_) λs hs e=>tN (dF dA)<|tR (show Tot _ _ from tR ?_));obtain⟨i1,i3,i5⟩:=hs;unfold m0R;have hlen:(l.take s.1.toNat).length=s.1.toNat:=by rw[aB];omega
  rw[show(vA<|(⟨s.2.1,s.2.2.1,s.2.2.2⟩:m0o).ax_<1)=yA from dF (show¬s.2.1<1 by omega)];have w:zA .i64 ((⟨s.2.1,s.2.2.1,s.2.2.2⟩:m0o).ax_-1)=s.2.1-1:=w64 (n:=s.2.1-1) dA dA;rw[w];refine tB (p:=λy:m0o×Int=>y=(⟨s.2.1-1,s.2.2.1,s.2.2.2⟩,0)) (tR rfl) λy hy=> ?_;subst hy;refine tN (dF<|by show¬ ¬(0:Int)=0;decide) (tN (dF (show¬s.2.2.1<=0 by omega))<|tY (a0e<|by show s.2.2.2.length+1<=_;rw[i5,hlen];omega)<|tR ?_);have w1:zA .i64 (s.2.2.1-1)=s.2.2.1-1:=w64 dA dA;rw[nxn h0 (bg h1) dA];show(s.2.1-1=f-(s.1+1)/\zA .i64 (s.2.2.1-1)=r-(s.1+1)/\s.2.2.2++ [nth l s.1]=l.take (s.1+1).toNat)/\s.1+1=s.1+1;rw[w1];refine⟨⟨dA,dA, ?_⟩,rfl⟩
  obtain⟨n,hn⟩: ∃n:Nat,s.1=n:=⟨s.1.toNat,dA⟩
  rw[i5,hn];have:n<l.length:=by omega
  rw[k0J this];show l.take n++ [l[n]]=l.take (n+1);simp;obtain⟨i1,i3,i5⟩:=hs;have e:s.1=l.length:=e;have i5:s.2.2.2=l:=by rw[i5,e];simp
  show(((⟨s.2.1,s.2.2.1,s.2.2.2⟩:m0o),(0:Int)))=_;rw[i5,i1,i3,e]
def K0X {c:C0D} {q:p0h} {d:a0X} {o:List Int×Int} (hd:d.D_.length<=40)(ho:b0Y c.L_ q d=wA o)(hl:o.1.length<=99900):
    Tot (s0D c q d 100000 100000) (λy=>(o.2≠0->y=(⟨100000,100000,[]⟩,o.2))/\(o.2=0->y=(⟨100000-(d.D_.length+1)-o.1.length,100000-o.1.length,o.1⟩,0))):=by
  unfold s0D v0v s0P;rw[dF (dG: ¬(100000:Int)<0),w64 (n:=(d.D_.length:Int)+1) dA dA];refine tB (p:=λy:m0o×Int=>y=(⟨100000,100000,[]⟩,0)) (tR rfl) λy hy=> ?_;subst hy;refine tN (dF<|by show¬ ¬(0:Int)=0;decide) ?_;rw[ho];refine tB (p:=λy=>y=o) (tR rfl) λy hy=> ?_;subst hy;refine tI (λe=>tR ⟨λ_=>rfl,λh=>absurd h<|dTT e⟩) λe=> ?_;have e:y.2=0:=by have:=dFF e;omega
  have ow:=I0m (f:=100000) (r:=100000) (k:=0) dA;rw[show o0e _ 0=wA ⟨100000,100000,[]⟩from ow,ah,dF (dA: ¬(d.D_.length:Int)+1<0)];unfold m0R;rw[show(vA<|(⟨100000,100000,[]⟩:m0o).ax_<(d.D_.length:Int)+1)=yA from dF (show¬(100000:Int)<_ by omega)];have w:zA .i64 ((⟨100000,100000,[]⟩:m0o).ax_-((d.D_.length:Int)+1))=100000-(d.D_.length+1):=w64 (n:=100000-(d.D_.length+1)) dA dA;rw[w];refine tB (p:=λz:m0o×Int=>z=(⟨100000-(d.D_.length+1),100000,[]⟩,0)) (tR rfl) λz hz=> ?_;subst hz;exact tN (dF<|by show¬ ¬(0:Int)=0;decide) (tB (M0h dA ⟨dA,dA⟩ ⟨dA,dG⟩) λp hp=>tR ⟨λh=>absurd e h,λ_=>by rw[hp]⟩)
def L0f {c:C0D} {q:p0h} {d:a0X} {o:List Int×Int} (ho:b0Y c.L_ q d=wA o)(hl:o.1.length<=99900)(hv:o.2=0->V o.1):Tot (o0s c q d) (λy=>(o.2≠0->y=([],o.2))/\(o.2=0->y=(n0Q o.1,0))):=by
  unfold o0s;rw[ho,ah];refine tI (λe=>tR ⟨λ_=>rfl,λh=>absurd h<|dTT e⟩) λe=> ?_;have e:o.2=0:=by have:=dFF e;omega
  rw[F0k dA,wB (hv e).all];exact tR ⟨λh=>absurd e h,λ_=>rfl⟩
def L0Z {x:List Int} (hl:x.length<=4294967296):Tot (g0D x x) (λr=>r=oA):=by
  unfold g0D;refine tN (dF dA)<|tJ<|tW (λs:Int=>s) x.length (λ_=>True) hl ⟨trivial,dG,dA⟩ (λs _ h0 h1=>tY (dT h1)<|tY (a0c h0 h1)<|tY (a0c h0 h1)<|tN (dF dA)<|tR ⟨trivial,nxn h0 (bg h1) hl⟩) λs _ e=>tN (dF dA)<|tR<|tR rfl
def G0A {x y:List Int} (hl:x.length<=4294967296)(h:x=y):b0i x y=wA true:=by
  subst h
  have:Tot (b0i x x) (λr=>r=oA):=by
    unfold b0i;refine tN (dF dA) (tJ<|tW (λs:Int=>s) x.length (λ_=>True) hl ⟨trivial,dG,dA⟩ (λs _ h0 h1=>tY (dT h1)<|tY (a0c h0 h1)<|tY (a0c h0 h1)<|tN (dF dA)<|tR ⟨trivial,nxn h0 (bg h1) hl⟩) λs _ e=>tN (dF dA)<|tR<|tR rfl)
  obtain⟨r,h,rfl⟩:=this;exact h
def P0q {n:Int} (h0: -2147483648<=n)(h1:n<=2147483647):zA .i32 n=n:=by
  unfold zA;simp only[oF,zH];simp;omega
def L0w(x:Int):Prop:= -2147483648<=x/\x<=2147483647
def r0y {x:Int} (h:WfI .i32 x):L0w x:=by
  have:(vA (IntKind.i32.min<=x)&&vA (x<=IntKind.i32.max))=true:=h;simp only[aa,decide_eq_true_eq]at this;exact⟨this.1,this.2⟩
def O0I {x:Int} (h:L0w x):Im (a0J x) (λb=>b=oA->okR x):=by
  unfold L0w at h;unfold a0J;rw[w64 (n:=x) dA dA];exact qC (p:=λb=>b=oA->okR x) (qD (λe0=>qD (λe1=>qA λ_=> .inl ⟨by have:=dTT e0;omega,dTT e1⟩) λ_=>qD (λe2=>qA λe3=> .inr ⟨by have:=dTT e2;omega,dTT e3⟩) λ_=>qA dH) λ_=>qD (λe2=>qA λe3=> .inr ⟨by have:=dTT e2;omega,dTT e3⟩) λ_=>qA dH) λ_ h=>qA h
def O0t {x:Int} (h:L0w x):Im (c0h x) (λc=>c≠6->okR x):=by
  unfold c0h;refine qC (O0I h) λb hb=>qB λ_=>qB λ_=>qB λ_=>qD (λ_=>qA λh=>absurd rfl h) λe=> ?_;have q:=hb<|nt e;exact λ_ _ _=>q
def L0B {x:Int} :Im (d0u x) (λb=>b=oA-> ∀y:Int,0<=y->y<=255->okR (zA .i32<|x+zA .i32 y)):=by
  have key: ∀n∈([48,1632,1776,1984,2406,2534,2662,2790,2918,3046,3174,3302,3430,3664,3792,3872,6112,6160,65296,120782]:List Int),0<=n/\n+255<=1114111/\(n+255<55296\/57343<n):=by decide
  unfold d0u d0h;refine qC (p:=λl=>l=([48,1632,1776,1984,2406,2534,2662,2790,2918,3046,3174,3302,3430,3664,3792,3872,6112,6160,65296,120782]:List Int)) (qA rfl) (λl hl=>qG (λ_=>True) (qK (λ_=>True) trivial λs _=>qE (qD (λhi=>qD (λe=>qA λ_ y h0 h1=> ?_) λ_=>qA trivial) λ_=>qQ)<|qA trivial) λ_ _=>qA dH)
  have hm:nth l s∈l:=by
    have:=g0g.1 hi;exact c0x this.1 this.2
  have e:=dTT e;rw[hl]at hm;obtain⟨k1,k2,k3⟩:=key _ hm;rw[hl]at e;rw[e]at k1 k2 k3;rw[P0q (n:=y) dA dA,P0q dA dA];unfold okR;omega
def H0z {s:b0z} (ws:B0l s):Im (d0q s) (λb=>b=oA->zOK s):=by
  obtain⟨_,w1,w2,w3,w4,w5,w6⟩:=ws
  have hw: ∀x∈([s.n_,s.z_,s.u_,s.o_,s.v_,s.i_]:List Int),L0w x:=λx hx=>by
    simp only[aT,cf,or_false]at hx;rcases hx with rfl|rfl|rfl|rfl|rfl|rfl;exact r0y w1;exact r0y w2;exact r0y w3;exact r0y w4;exact r0y w5;exact r0y w6
  unfold d0q;generalize hL:([s.n_,s.z_,s.u_,s.o_,s.v_,s.i_]:List Int)=L at hw;refine qG (λ_=>V L) (qK (λk:Int=>0<=k/\ ∀r∈L.take k.toNat,okR r) ⟨av _,dE⟩ λk hk=>qD (λe=> ?_) λe=>qA (show V L from ?_)) λ_ hv=>qC L0B λb hb=>qA λh=>⟨hb h, ?_⟩;have e:=dTT e;refine qG (λ_=>okR<|nth L k) (qH<|qH<|qC (O0t<|v0Z (p:=L0w) hw ⟨dG,dG⟩ k) λc hc=>qG (λ_=>okR<|nth L k) (qC (p:=λb=>b=yA->c=0\/c=4) (qD (λe=>qA λh=> .inr<|by have:=dFF h;omega) λe=>qA λ_=> .inl<|by have:=dFF e;omega) λb hb=>qD (λ_=>qA dH) λe=>qA<|hc<|by have:=hb e;omega) λ_ h=>qK (λ_=>True) trivial λ_ _=>qE (qH<|qH<|qH<|qH<|qE (qA dH)<|qA trivial)<|qA h) λ_ h=>qA ?_;show 0<=zA .i64 (k+1)/\ ∀r∈L.take (zA .i64<|k+1).toNat,okR r;have hl6:L.length=6:=by rw[<-hL];rfl
  rw[w64 (n:=k+1) dA dA];exact⟨dA,L0L hk.1 e hk.2 h⟩;have e:=dFF e;have h:=hk.2;rw[bn dA]at h;exact h;rw[<-hL]at hv;exact⟨hv _ dE,hv _ dE,hv _ dE,hv _ dE,hv _ dE,hv _ dE⟩
def M0z {l:f0f} {q:p0h} {d:a0X} (wl:v0j l):Im (d0n l q d) (λb=>b=oA->zOK l.S_):=by
  obtain⟨_,ws,_⟩:=wl;unfold d0n e0s d0S;refine qB (λ_=>qB λ_=>qF (qB λ_=>qE (qP dH) qO) λ_=>qC (p:=λb=>b=oA->zOK l.S_) (qC (p:=λy:Int×Int×Int=>y.2.2=0->zOK l.S_) (qB λ_=>qE (qA λh=>by have h:(8:Int)=0:=h;omega)<|qC (H0z ws) λb hb=>qD (λ_=>qA λh=>by have h:(8:Int)=0:=h;omega) λe=> ?_) λy hy=>qA λh=>hy<|dTT h) λ_ h=>qA h);have z:=hb<|nt e;exact λ_ _ _=>z
def w0K(l:f0f)(wl:v0j l)(q:p0h)(wq:I0Y q)(d:a0X)(wd:I0X d):d0W l q d=wA true:=by
  obtain⟨_,_,_,ws,_⟩:=wq;obtain⟨_,wd,_⟩:=wd
  have hu:U d.D_:=λx hx=>by
    have:(vA (IntKind.u8.min<=x)&&vA (x<=IntKind.u8.max))=true:=wd.2 x hx;simp only[aa,decide_eq_true_eq]at this;exact⟨this.1,this.2⟩
  have key:Tot (d0W l q d) (λr=>r=oA):=by
    unfold d0W;rw[show h0u=wA oA from rfl,ah];refine tB ((H0i wl ws.1 wd.1).im<|M0z wl) λn hn=>tI (λ_=>tR rfl) λe=> ?_;obtain⟨⟨hL,hq,hd1,hd2,hd3⟩,hz⟩:=And.intro (hn.1<|nt e)<|hn.2<|nt e;obtain⟨f1,f2,f3,f4,f5,f6⟩:=id hL;obtain⟨c,oc,_,hcl⟩:=O0Z f1 f2 f3 f4 f5 f6
    have hdb:k0Q d:=⟨dA,dA,dA⟩
    obtain⟨o,ho,_,hv,hlo⟩:=(H0C (d:=d) hL hq hdb).im<|H0B hL hz hq hdb hu;have ho':b0Y c.L_ q d=wA o:=by rw[hcl];exact ho
    obtain⟨y,hy,y1,y2⟩:=K0X hd1 ho' hlo;obtain⟨b,hb,b1,b2⟩:=L0f ho' hlo λ_=>hv;rw[oc,ah,ho,ah,hy,ah,hb,ah];by_cases e0:o.2=0;have y2:=y2 e0;have b2:=b2 e0;obtain⟨x,hx,rfl⟩:=F0l (xs:=o.1) dA hv.all;refine tN (dF dA) ?_;rw[hx,ah,y2,b2];refine tB (p:=λr=>r=oA) ?_ λ_ h=>tR h;show Tot (bif oA then _ else _) _;refine tY rfl<|tY (dT rfl)<|tY (dT rfl)<|tY (dT rfl) ?_;show Tot (jA (b0i o.1 o.1) _) _;rw[G0A dA rfl];refine tB (p:=λr=>r=oA) (tR rfl) (λ_ h7=>tY h7<|tB (L0Z<|by show(n0Q o.1).length<=_;have:=t0U o.1;omega) λr hr=>tY hr ?_);rw[w64 (n:=100000-(o.1.length:Int)) dA dA,w64 (n:=100000-(o.1.length:Int)-d.D_.length) dA dA,w64 (n:=100000-(o.1.length:Int)-d.D_.length-1) dA dA];exact tY (dT (show(100000:Int)-(d.D_.length+1)-o.1.length=_ by omega))<|tR<|dT rfl;have y1:=y1 e0;have b1:=b1 e0;refine tY (dT e0) ?_;rw[y1,b1];refine tB (p:=λr=>r=oA) ?_ λ_ h=>tR h;show Tot (bif oA then _ else _) _;refine tY rfl<|tY (dT rfl)<|tY (dT rfl)<|tR ?_;show vA (zA .i64 (((0:Nat):Int)+((0:Nat):Int))=0)=oA;decide
  obtain⟨r,h,rfl⟩:=key;exact h

def u0w {H : Type} : List (String × DataW H) := [("math/bits.deBruijn32tab", Rows.laid_math_bits_deBruijn32tab), ("math/bits.deBruijn64tab", Rows.laid_math_bits_deBruijn64tab), ("internal/strconv.uint64pow10", Rows.laid_internal_strconv_uint64pow10), ("exergue/class.noughts", Rows.laid_exergue_class_noughts)]
def H0L(os:Os)(args:Array Value):laidMetH Tryz.prog u0w ((World.doorLaid Tryz.prog 4000 os).forCall (λ_ _=>0) ⟨#[],args,[]⟩).memory:=
  laidMetH_of_parts3 (fuel:=8) (laidMet_of_run' 8 dB dB) dB dB

def H0A {W:World} (hL:laidMetH Tryz.prog u0w W):m0t W (KW W) λ_=>none:=λg cs h=>by
  have hh:(u0w (H:=Unit)).all (λx=>x.2.handleName?.isNone)=true:=by kernel_rfl
  by_cases h0:g=0;subst h0;obtain rfl:=au (show wA [.int .i32 48, .int .i32 1632, .int .i32 1776, .int .i32 1984, .int .i32 2406, .int .i32 2534, .int .i32 2662, .int .i32 2790, .int .i32 2918, .int .i32 3046, .int .i32 3174, .int .i32 3302, .int .i32 3430, .int .i32 3664, .int .i32 3792, .int .i32 3872, .int .i32 6112, .int .i32 6160, .int .i32 65296, .int .i32 120782]=wA cs from h);exact q0K hh hL (nm := "exergue/class.noughts") (t := 409) (e := 21) (n := 20) (k := .i32) [48, 1632, 1776, 1984, 2406, 2534, 2662, 2790, 2918, 3046, 3174, 3302, 3430, 3664, 3792, 3872, 6112, 6160, 65296, 120782] (by unfold u0w; simp only [aT, cf, or_false]; first | exact yK rfl | exact yF (yK rfl) | exact yF (yF<|yK rfl) | exact yF rfl | exact yF (yF rfl) | exact yF (yF<|yF rfl) | rfl) dB dB Tryz.underlying409 Tryz.underlying21 dB dB;by_cases h2:g=2;subst h2;obtain rfl:=au (show wA [.int .u64 1, .int .u64 10, .int .u64 100, .int .u64 1000, .int .u64 10000, .int .u64 100000, .int .u64 1000000, .int .u64 10000000, .int .u64 100000000, .int .u64 1000000000, .int .u64 10000000000, .int .u64 100000000000, .int .u64 1000000000000, .int .u64 10000000000000, .int .u64 100000000000000, .int .u64 1000000000000000, .int .u64 10000000000000000, .int .u64 100000000000000000, .int .u64 1000000000000000000, .int .u64 10000000000000000000]=wA cs from h);exact q0K hh hL (nm := "internal/strconv.uint64pow10") (t := 478) (e := 408) (n := 20) (k := .u64) [1, 10, 100, 1000, 10000, 100000, 1000000, 10000000, 100000000, 1000000000, 10000000000, 100000000000, 1000000000000, 10000000000000, 100000000000000, 1000000000000000, 10000000000000000, 100000000000000000, 1000000000000000000, 10000000000000000000] (by unfold u0w; simp only [aT, cf, or_false]; first | exact yK rfl | exact yF (yK rfl) | exact yF (yF<|yK rfl) | exact yF rfl | exact yF (yF rfl) | exact yF (yF<|yF rfl) | rfl) dB dB Tryz.underlying478 Tryz.underlying408 dB dB;by_cases h3:g=3;subst h3;obtain rfl:=au (show wA [.int .u8 0, .int .u8 1, .int .u8 28, .int .u8 2, .int .u8 29, .int .u8 14, .int .u8 24, .int .u8 3, .int .u8 30, .int .u8 22, .int .u8 20, .int .u8 15, .int .u8 25, .int .u8 17, .int .u8 4, .int .u8 8, .int .u8 31, .int .u8 27, .int .u8 13, .int .u8 23, .int .u8 21, .int .u8 19, .int .u8 16, .int .u8 7, .int .u8 26, .int .u8 12, .int .u8 18, .int .u8 6, .int .u8 11, .int .u8 5, .int .u8 10, .int .u8 9]=wA cs from h);exact q0K hh hL (nm := "math/bits.deBruijn32tab") (t := 484) (e := 5) (n := 32) (k := .u8) [0, 1, 28, 2, 29, 14, 24, 3, 30, 22, 20, 15, 25, 17, 4, 8, 31, 27, 13, 23, 21, 19, 16, 7, 26, 12, 18, 6, 11, 5, 10, 9] (by unfold u0w; simp only [aT, cf, or_false]; first | exact yK rfl | exact yF (yK rfl) | exact yF (yF<|yK rfl) | exact yF rfl | exact yF (yF rfl) | exact yF (yF<|yF rfl) | rfl) dB dB Tryz.underlying484 Tryz.underlying5 dB dB;by_cases h4:g=4;subst h4;obtain rfl:=au (show wA [.int .u8 0, .int .u8 1, .int .u8 56, .int .u8 2, .int .u8 57, .int .u8 49, .int .u8 28, .int .u8 3, .int .u8 61, .int .u8 58, .int .u8 42, .int .u8 50, .int .u8 38, .int .u8 29, .int .u8 17, .int .u8 4, .int .u8 62, .int .u8 47, .int .u8 59, .int .u8 36, .int .u8 45, .int .u8 43, .int .u8 51, .int .u8 22, .int .u8 53, .int .u8 39, .int .u8 33, .int .u8 30, .int .u8 24, .int .u8 18, .int .u8 12, .int .u8 5, .int .u8 63, .int .u8 55, .int .u8 48, .int .u8 27, .int .u8 60, .int .u8 41, .int .u8 37, .int .u8 16, .int .u8 46, .int .u8 35, .int .u8 44, .int .u8 21, .int .u8 52, .int .u8 32, .int .u8 23, .int .u8 11, .int .u8 54, .int .u8 26, .int .u8 40, .int .u8 15, .int .u8 34, .int .u8 20, .int .u8 31, .int .u8 10, .int .u8 25, .int .u8 14, .int .u8 19, .int .u8 9, .int .u8 13, .int .u8 8, .int .u8 7, .int .u8 6]=wA cs from h);exact q0K hh hL (nm := "math/bits.deBruijn64tab") (t := 485) (e := 5) (n := 64) (k := .u8) [0, 1, 56, 2, 57, 49, 28, 3, 61, 58, 42, 50, 38, 29, 17, 4, 62, 47, 59, 36, 45, 43, 51, 22, 53, 39, 33, 30, 24, 18, 12, 5, 63, 55, 48, 27, 60, 41, 37, 16, 46, 35, 44, 21, 52, 32, 23, 11, 54, 26, 40, 15, 34, 20, 31, 10, 25, 14, 19, 9, 13, 8, 7, 6] (by unfold u0w; simp only [aT, cf, or_false]; first | exact yK rfl | exact yF (yK rfl) | exact yF (yF<|yK rfl) | exact yF rfl | exact yF (yF rfl) | exact yF (yF<|yF rfl) | rfl) dB dB Tryz.underlying485 Tryz.underlying5 dB dB;exfalso
  have:H0y g=none:=by
    unfold H0y;split<;>first|rfl|(exfalso;simp_all)
  rw[show N0T g=H0y g from rfl,this]at h;cases h

def E0Q {P:Program} (h:P.funcs.toList.any Func.goes=yA)(f:FuncId):P.goes f=false:=by
  have h1: ∀fn∈P.funcs.toList,fn.goes=false:=λfn hm=>by
    rw[List.any_eq_false]at h;simpa using h fn hm
  have h2:P.funcs.any Func.goes=false:=by rw[<-Array.any_toList];exact h
  unfold Program.goes;rw[h2,Bool.and_false,Bool.or_false,List.any_eq_false];intro g _
  cases hg:P.funcs[g]? with
  |none=>simp
  |some fn=>
    have hm:fn∈P.funcs.toList:=by
      rw[aL];exact Array.mem_of_getElem? hg
    simp[h1 fn hm]
def go0:Tryz.prog.funcs.toList.any Func.goes=false:=by kernel_rfl
def E0R(s:String):yA=Tryz.prog.goesFrom s:=by
  unfold Program.goesFrom
  cases Tryz.prog.funcNamed s with
  |none=>rfl
  |some f=>exact(E0Q go0 f).symm
def K0w:yA=Rows.certSameRow.goesBy Tryz.prog:=by
  show yA=(Tryz.prog.goesFrom _||false);rw[Bool.or_false];exact E0R _
set_option maxRecDepth 100000 in
def u0g(os:Os)(started:os.Started)(H:Type)(enc:TypeId×Value->H):
    ReturnsInHanded {} Tryz.checked os 4 .any (λw args=>(Rows.certSameSpec.pre enc Tryz.prog Tryz.f4 [] yA w args/\laidMetH Tryz.prog u0w w)/\sizedMet enc Tryz.prog Tryz.f4 (OpenSpec.ofChange Rows.certSameSpec) yA w args) (Rows.certSameSpec.post enc Tryz.prog Tryz.f4 yA oA yA yA):=by
  refine returnsInHanded_of_change_and (C:=Tryz.checked) (X:=λw _=>laidMetH Tryz.prog u0w w) (λ_ _ _ hh h=>h.of_heap hh) Tryz.own started dB Tryz.func4
    (ChangeSpec.witness_shaped (enc:=enc) (C:=Tryz.checked) (os:=os) (X:=λw _=>laidMetH Tryz.prog u0w w) yA (World.doorLaid Tryz.prog 4000 os) #[.agg #[.string ⟨#[]⟩, .int .i32 0, .int .i32 0, .int .i32 0, .int .i32 0, .int .i32 0, .int .i32 0, .int .i32 0, .string ⟨#[]⟩, .string ⟨#[]⟩, .string ⟨#[]⟩, .string ⟨#[]⟩, .slice none 0 0, .slice none 0 0, .slice none 0 0], .agg #[.int .i64 0, .int .i64 0, .string ⟨#[]⟩, .slice none 0 0, .bool yA, .bool yA, .bool yA], .agg #[.bool yA, .slice none 0 0, .int .i64 0]] 8 rfl (World.shaped_of_RefB dB dB) dB dB dB (H0L os _)) ?_
  intro W base args ds gs before hval0 hW _ hsz0 hL _;have hsz:(DataW.weightsEach Tryz.prog (Tryz.f4.params.toList++Rows.certSameSpec.plain.varTypes Tryz.prog)<|ds++gs).all (· <=reachBytes)=true:=hsz0;clear hsz0;refine H0r (P:=Tryz.prog) (n:=4) (tb:=4) Tryz.laidOut Tryz.underlying4 rfl rfl dB (λh=> ?_) hval0 hW ?_<|H0A hL;rw[Tryz.params4]at h;obtain⟨d0,d1,d2,rfl⟩:=l3 h;exact⟨rfl,rfl,rfl⟩;intro ss hg hl1 hl2 hs;subst hg;rw[Tryz.params4]at hl1 hl2 hs hsz;obtain⟨d0,d1,d2,rfl⟩:=l3 hl1;obtain⟨s0,s1,s2,rfl⟩:=l3 hl2;obtain⟨cs0,rfl,hc0⟩:=l0y Tryz.underlying29<|hs 0 29 _ _ rfl rfl rfl;obtain⟨a0,rfl,w0⟩:=D0c (n:=0) _ _ hc0<|p0o hsz (j:=0) rfl rfl;obtain⟨cs1,rfl,hc1⟩:=l0y Tryz.underlying32<|hs 1 32 _ _ rfl rfl rfl;obtain⟨a1,rfl,w1⟩:=D0b (n:=1) _ _ hc1<|p0o hsz (j:=1) rfl rfl;obtain⟨cs2,rfl,hc2⟩:=l0y Tryz.underlying35<|hs 2 35 _ _ rfl rfl rfl;obtain⟨a2,rfl,w2⟩:=D0a (n:=1) _ _ hc2<|p0o hsz (j:=2) rfl rfl;exact⟨[],l0l<|w0K a0 w0 a1 w1 a2 w2⟩
def y0F:Rows.CertSameSaid:=
  OpenClaim.holds_of_wide 4 Tryz.f4 rfl rfl rfl rfl rfl rfl rfl ⟨rfl,rfl,rfl,rfl,rfl⟩ rfl rfl rfl rfl rfl dB Tryz.func4 qJ
    (wF dB) (by unfold Func.isWrapper;first|(rw[wB<|by decide+kernel];kernel_rfl)|(rw[vB<|by decide+kernel];exact⟨rfl,rfl⟩))
    (λos started H enc _=>u0g os started H enc)

theorem CertSame_holds:Rows.CertSameCardSaid:=
  Claim7.holds_tied_plain_at .later [] [.data, .data, .data, .data] oA (oA, "c506bdc50fc89279cc88e470994b36ad160b1e57bffd288459224d24eab5d144") yA
    y0F (λ_ h=>by cases h) dB (λ_ h=>by cases h) certSame_row_tie rfl ⟨rfl,rfl⟩ dB rfl
    (λf fn hf hfn=>by
      obtain rfl : f = 4 := au ((show Tryz.prog.funcNamed "exergue/exerguelaw20.CertSame" = wA 4 by kernel_rfl).symm.trans hf) |>.symm;obtain rfl:fn=Tryz.f4:=(au<|Tryz.func4.symm.trans hfn).symm
      exact⟨dB,λj t ht=>by
        rw[Tryz.params4]at ht;have hm:t∈ [29,32,35]:=by simpa using Array.mem_of_getElem? ht
        have hall:([29,32,35].all λu=> !Tryz.prog.wantsStandIn u)=true:=by kernel_rfl
        exact(show Tryz.prog.wantsStandIn t=yA by simpa using List.all_eq_true.1 hall t hm)⟩)
    K0w

end Go.Proofs.YtafbfodcilkgmaaGreatDoor
