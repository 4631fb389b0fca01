/-
  The statement CertBoundsCard is proved: at every input the law answers true, and its input reads as it did. Conditions: those of the card (package variables are as the program text lays them).
-/
import Derived.Test.YtafbfodcilkgmaaGreatDoorJ
import Derived.Test.YtafbfodcilkgmaaGreatDoorP
import Derived.Test.YtafbfodcilkgmaaGreatDoorCards
import Derived.Test.YtafbfodcilkgmaaGreatDoorTie
import Derived.ProofKit
import Derived.SizedLaws
import Derived.LaidMore
import Derived.SevenTiedAt
set_option linter.all false
namespace Go.Proofs.YtafbfodcilkgmaaGreatDoor
open Go Go.Sy Go.RowKit Go.ChangeShapes Go.WideShapes Go.ChangeAt
open _root_.Int renaming tdiv->wE,tmod->jD
open Go.IntKind renaming bits->yH,signed->oG,wrap->wA
open _root_.Nat renaming beq->oB
open _root_.Option renaming bind->jA,some->vA
open _root_.Or renaming inl->jL,inr->yF
open _root_.Decidable renaming decide->yA
open _root_.Bool renaming false->oA,true->jB
set_option maxRecDepth 100000
set_option maxHeartbeats 4000000

def Tryz.own:ownKnob Tryz.prog.godebug=none:=by kernel_rfl
def Tryz.laidOut:laidOutB Tryz.prog=true:=by kernel_rfl

def M0l{α:Type}{l:List α}(h:l.length=2): ∃a0 a1,l=[a0,a1]:=by
  match l,h with
  | [a0,a1],_=>exact⟨a0,a1,rfl⟩
def E0u{α:Type}{l:List α}(h:l.length=3): ∃a0 a1 a2,l=[a0,a1,a2]:=by
  match l,h with
  | [a0,a1,a2],_=>exact⟨a0,a1,a2,rfl⟩
def M0k{α:Type}{l:List α}(h:l.length=4): ∃a0 a1 a2 a3,l=[a0,a1,a2,a3]:=by
  match l,h with
  | [a0,a1,a2,a3],_=>exact⟨a0,a1,a2,a3,rfl⟩
def I0o{α:Type}{l:List α}(h:l.length=7): ∃a0 a1 a2 a3 a4 a5 a6,l=[a0,a1,a2,a3,a4,a5,a6]:=by
  match l,h with
  | [a0,a1,a2,a3,a4,a5,a6],_=>exact⟨a0,a1,a2,a3,a4,a5,a6,rfl⟩
def J0V{α:Type}{l:List α}(h:l.length=15): ∃a0 a1 a2 a3 a4 a5 a6 a7 a8 a9 a10 a11 a12 a13 a14,l=[a0,a1,a2,a3,a4,a5,a6,a7,a8,a9,a10,a11,a12,a13,a14]:=by
  match l,h with
  | [a0,a1,a2,a3,a4,a5,a6,a7,a8,a9,a10,a11,a12,a13,a14],_=>exact⟨a0,a1,a2,a3,a4,a5,a6,a7,a8,a9,a10,a11,a12,a13,a14,rfl⟩
def J0U{α:Type}{l:List α}(h:l.length=27): ∃a0 a1 a2 a3 a4 a5 a6 a7 a8 a9 a10 a11 a12 a13 a14 a15 a16 a17 a18 a19 a20 a21 a22 a23 a24 a25 a26,l=[a0,a1,a2,a3,a4,a5,a6,a7,a8,a9,a10,a11,a12,a13,a14,a15,a16,a17,a18,a19,a20,a21,a22,a23,a24,a25,a26]:=by
  match l,h with
  | [a0,a1,a2,a3,a4,a5,a6,a7,a8,a9,a10,a11,a12,a13,a14,a15,a16,a17,a18,a19,a20,a21,a22,a23,a24,a25,a26],_=>exact⟨a0,a1,a2,a3,a4,a5,a6,a7,a8,a9,a10,a11,a12,a13,a14,a15,a16,a17,a18,a19,a20,a21,a22,a23,a24,a25,a26,rfl⟩
def F0O(x:b0I):Prop:=(WfI .i32) x.ai_/\(WfI .i32) x.u_/\(WfI .i32) x.J_/\(WfI .i32) x.y_/\(WfI .i32) x.v_/\(WfI .i32) x.z_/\(WfI .i32) x.k_
def C0U{n:Nat}:q0Q Tryz.prog (n+2) 23 a0r F0O:=λd cs h hs=>by
  have hl:cs.length=7:=(i0z Tryz.underlying23 h).trans dB;obtain⟨c0,c1,c2,c3,c4,c5,c6,rfl⟩:=I0o hl;obtain⟨p0,h0,z0⟩:=a0q Tryz.underlying23 h hs 0 21 [c0] dB;obtain⟨x0,e0,w0⟩: ∃x:Int,[c0]=(a0l .i32) x/\(WfI .i32) x:=(c0t Tryz.underlying21) p0 _ h0 z0;obtain⟨p1,h1,z1⟩:=a0q Tryz.underlying23 h hs 1 21 [c1] dB;obtain⟨x1,e1,w1⟩: ∃x:Int,[c1]=(a0l .i32) x/\(WfI .i32) x:=(c0t Tryz.underlying21) p1 _ h1 z1;obtain⟨p2,h2,z2⟩:=a0q Tryz.underlying23 h hs 2 21 [c2] dB;obtain⟨x2,e2,w2⟩: ∃x:Int,[c2]=(a0l .i32) x/\(WfI .i32) x:=(c0t Tryz.underlying21) p2 _ h2 z2;obtain⟨p3,h3,z3⟩:=a0q Tryz.underlying23 h hs 3 21 [c3] dB;obtain⟨x3,e3,w3⟩: ∃x:Int,[c3]=(a0l .i32) x/\(WfI .i32) x:=(c0t Tryz.underlying21) p3 _ h3 z3;obtain⟨p4,h4,z4⟩:=a0q Tryz.underlying23 h hs 4 21 [c4] dB;obtain⟨x4,e4,w4⟩: ∃x:Int,[c4]=(a0l .i32) x/\(WfI .i32) x:=(c0t Tryz.underlying21) p4 _ h4 z4;obtain⟨p5,h5,z5⟩:=a0q Tryz.underlying23 h hs 5 21 [c5] dB;obtain⟨x5,e5,w5⟩: ∃x:Int,[c5]=(a0l .i32) x/\(WfI .i32) x:=(c0t Tryz.underlying21) p5 _ h5 z5;obtain⟨p6,h6,z6⟩:=a0q Tryz.underlying23 h hs 6 21 [c6] dB;obtain⟨x6,e6,w6⟩: ∃x:Int,[c6]=(a0l .i32) x/\(WfI .i32) x:=(c0t Tryz.underlying21) p6 _ h6 z6;refine⟨⟨x0,x1,x2,x3,x4,x5,x6⟩, ?_,⟨w0,w1,w2,w3,w4,w5,w6⟩⟩;show [c0]++ [c1]++ [c2]++ [c3]++ [c4]++ [c5]++ [c6]=((a0l .i32) x0++(a0l .i32) x1++(a0l .i32) x2++(a0l .i32) x3++(a0l .i32) x4++(a0l .i32) x5++(a0l .i32) x6);rw[e0,e1,e2,e3,e4,e5,e6]
def F0N(x:L0d):Prop:=WfT x.g_/\WfT x.h_/\WfT x.o_/\WfT x.t_
def C0T{n:Nat}:q0Q Tryz.prog (n+2) 24 w0e F0N:=λd cs h hs=>by
  have hl:cs.length=4:=(B0k Tryz.underlying24 h).trans dB;obtain⟨c0,c1,c2,c3,rfl⟩:=M0k hl;obtain⟨p0,h0,z0⟩:=n0Y Tryz.underlying24 h hs 0 [c0] dB dB;obtain⟨x0,e0,w0⟩: ∃x:List UInt8,[c0]=t0X x/\WfT x:=(g0m Tryz.underlying9) p0 _ h0 z0;obtain⟨p1,h1,z1⟩:=n0Y Tryz.underlying24 h hs 1 [c1] dB dB;obtain⟨x1,e1,w1⟩: ∃x:List UInt8,[c1]=t0X x/\WfT x:=(g0m Tryz.underlying9) p1 _ h1 z1;obtain⟨p2,h2,z2⟩:=n0Y Tryz.underlying24 h hs 2 [c2] dB dB;obtain⟨x2,e2,w2⟩: ∃x:List UInt8,[c2]=t0X x/\WfT x:=(g0m Tryz.underlying9) p2 _ h2 z2;obtain⟨p3,h3,z3⟩:=n0Y Tryz.underlying24 h hs 3 [c3] dB dB;obtain⟨x3,e3,w3⟩: ∃x:List UInt8,[c3]=t0X x/\WfT x:=(g0m Tryz.underlying9) p3 _ h3 z3;refine⟨⟨x0,x1,x2,x3⟩, ?_,⟨w0,w1,w2,w3⟩⟩;show [c0]++ [c1]++ [c2]++ [c3]=(t0X x0++t0X x1++t0X x2++t0X x3);rw[e0,e1,e2,e3]
def y0u(x:p0J):Prop:=(WfI .i64) x.av_/\WfT x.ba_
def C0O{n:Nat}:q0Q Tryz.prog (n+2) 74 c0o y0u:=λd cs h hs=>by
  have hl:cs.length=2:=(i0z Tryz.underlying74 h).trans dB;obtain⟨c0,c1,rfl⟩:=M0l hl;obtain⟨p0,h0,z0⟩:=a0q Tryz.underlying74 h hs 0 3 [c0] dB;obtain⟨x0,e0,w0⟩: ∃x:Int,[c0]=(a0l .i64) x/\(WfI .i64) x:=(c0t Tryz.underlying3) p0 _ h0 z0;obtain⟨p1,h1,z1⟩:=a0q Tryz.underlying74 h hs 1 9 [c1] dB;obtain⟨x1,e1,w1⟩: ∃x:List UInt8,[c1]=t0X x/\WfT x:=(g0m Tryz.underlying9) p1 _ h1 z1;refine⟨⟨x0,x1⟩, ?_,⟨w0,w1⟩⟩;show [c0]++ [c1]=((a0l .i64) x0++t0X x1);rw[e0,e1]
def y0t(x:p0I):Prop:=WfT x.ag_/\WfT x.m_/\(WfI .i64) x.at_
def C0N{n:Nat}:q0Q Tryz.prog (n+2) 77 c0n y0t:=λd cs h hs=>by
  have hl:cs.length=3:=(i0z Tryz.underlying77 h).trans dB;obtain⟨c0,c1,c2,rfl⟩:=E0u hl;obtain⟨p0,h0,z0⟩:=a0q Tryz.underlying77 h hs 0 9 [c0] dB;obtain⟨x0,e0,w0⟩: ∃x:List UInt8,[c0]=t0X x/\WfT x:=(g0m Tryz.underlying9) p0 _ h0 z0;obtain⟨p1,h1,z1⟩:=a0q Tryz.underlying77 h hs 1 9 [c1] dB;obtain⟨x1,e1,w1⟩: ∃x:List UInt8,[c1]=t0X x/\WfT x:=(g0m Tryz.underlying9) p1 _ h1 z1;obtain⟨p2,h2,z2⟩:=a0q Tryz.underlying77 h hs 2 3 [c2] dB;obtain⟨x2,e2,w2⟩: ∃x:Int,[c2]=(a0l .i64) x/\(WfI .i64) x:=(c0t Tryz.underlying3) p2 _ h2 z2;refine⟨⟨x0,x1,x2⟩, ?_,⟨w0,w1,w2⟩⟩;show [c0]++ [c1]++ [c2]=(t0X x0++t0X x1++(a0l .i64) x2);rw[e0,e1,e2]
def y0s(x:i0P):Prop:=(WfI .i64) x.ae_/\(WfI .i64) x.av_/\WfT x.aj_
def C0M{n:Nat}:q0Q Tryz.prog (n+2) 80 a0I y0s:=λd cs h hs=>by
  have hl:cs.length=3:=(i0z Tryz.underlying80 h).trans dB;obtain⟨c0,c1,c2,rfl⟩:=E0u hl;obtain⟨p0,h0,z0⟩:=a0q Tryz.underlying80 h hs 0 3 [c0] dB;obtain⟨x0,e0,w0⟩: ∃x:Int,[c0]=(a0l .i64) x/\(WfI .i64) x:=(c0t Tryz.underlying3) p0 _ h0 z0;obtain⟨p1,h1,z1⟩:=a0q Tryz.underlying80 h hs 1 3 [c1] dB;obtain⟨x1,e1,w1⟩: ∃x:Int,[c1]=(a0l .i64) x/\(WfI .i64) x:=(c0t Tryz.underlying3) p1 _ h1 z1;obtain⟨p2,h2,z2⟩:=a0q Tryz.underlying80 h hs 2 9 [c2] dB;obtain⟨x2,e2,w2⟩: ∃x:List UInt8,[c2]=t0X x/\WfT x:=(g0m Tryz.underlying9) p2 _ h2 z2;refine⟨⟨x0,x1,x2⟩, ?_,⟨w0,w1,w2⟩⟩;show [c0]++ [c1]++ [c2]=((a0l .i64) x0++(a0l .i64) x1++t0X x2);rw[e0,e1,e2]
def u0W(x:d0G):Prop:=WfT x.Z_/\F0O x.S_/\F0N x.d_/\(WfL y0u) x.M_/\(WfL y0t) x.j_/\(WfL y0s) x.c_
def C0S{n:Nat}:q0Q Tryz.prog (n+4) 29 c0p u0W:=λd cs h hs=>by
  have hl:cs.length=15:=(i0z Tryz.underlying29 h).trans dB;obtain⟨c0,c1,c2,c3,c4,c5,c6,c7,c8,c9,c10,c11,c12,c13,c14,rfl⟩:=J0V hl;obtain⟨p0,h0,z0⟩:=a0q Tryz.underlying29 h hs 0 9 [c0] dB;obtain⟨x0,e0,w0⟩: ∃x:List UInt8,[c0]=t0X x/\WfT x:=(g0m Tryz.underlying9) p0 _ h0 z0;obtain⟨p1,h1,z1⟩:=a0q Tryz.underlying29 h hs 1 23 [c1,c2,c3,c4,c5,c6,c7] dB;obtain⟨x1,e1,w1⟩: ∃x:b0I,[c1,c2,c3,c4,c5,c6,c7]=a0r x/\F0O x:=C0U p1 _ h1 z1;obtain⟨p2,h2,z2⟩:=a0q Tryz.underlying29 h hs 2 24 [c8,c9,c10,c11] dB;obtain⟨x2,e2,w2⟩: ∃x:L0d,[c8,c9,c10,c11]=w0e x/\F0N x:=C0T p2 _ h2 z2;obtain⟨p3,h3,z3⟩:=a0q Tryz.underlying29 h hs 3 25 [c12] dB;obtain⟨x3,e3,w3⟩: ∃x:List p0J,[c12]=(k0o c0o 2) x/\(WfL y0u) x:=(k0T (enc:=c0o) (Wf:=y0u) Tryz.underlying25 (k:=2) dB dB C0O) p3 _ h3 z3;obtain⟨p4,h4,z4⟩:=a0q Tryz.underlying29 h hs 4 26 [c13] dB;obtain⟨x4,e4,w4⟩: ∃x:List p0I,[c13]=(k0o c0n 3) x/\(WfL y0t) x:=(k0T (enc:=c0n) (Wf:=y0t) Tryz.underlying26 (k:=3) dB dB C0N) p4 _ h4 z4;obtain⟨p5,h5,z5⟩:=a0q Tryz.underlying29 h hs 5 27 [c14] dB;obtain⟨x5,e5,w5⟩: ∃x:List i0P,[c14]=(k0o a0I 3) x/\(WfL y0s) x:=(k0T (enc:=a0I) (Wf:=y0s) Tryz.underlying27 (k:=3) dB dB C0M) p5 _ h5 z5;refine⟨⟨x0,x1,x2,x3,x4,x5⟩, ?_,⟨w0,w1,w2,w3,w4,w5⟩⟩;show [c0]++ [c1,c2,c3,c4,c5,c6,c7]++ [c8,c9,c10,c11]++ [c12]++ [c13]++ [c14]=(t0X x0++a0r x1++w0e x2++(k0o c0o 2) x3++(k0o c0n 3) x4++(k0o a0I 3) x5);rw[e0,e1,e2,e3,e4,e5]
def F0M(x:m0o):Prop:=(WfI .i64) x.n_/\(WfI .i64) x.ap_/\WfT x.ag_/\(WfL<|WfI .i32) x.m_/\WfB x.al_/\WfB x.az_/\WfB x.v_
def C0R{n:Nat}:q0Q Tryz.prog (n+3) 32 i0X F0M:=λd cs h hs=>by
  have hl:cs.length=7:=(i0z Tryz.underlying32 h).trans dB;obtain⟨c0,c1,c2,c3,c4,c5,c6,rfl⟩:=I0o hl;obtain⟨p0,h0,z0⟩:=a0q Tryz.underlying32 h hs 0 3 [c0] dB;obtain⟨x0,e0,w0⟩: ∃x:Int,[c0]=(a0l .i64) x/\(WfI .i64) x:=(c0t Tryz.underlying3) p0 _ h0 z0;obtain⟨p1,h1,z1⟩:=a0q Tryz.underlying32 h hs 1 3 [c1] dB;obtain⟨x1,e1,w1⟩: ∃x:Int,[c1]=(a0l .i64) x/\(WfI .i64) x:=(c0t Tryz.underlying3) p1 _ h1 z1;obtain⟨p2,h2,z2⟩:=a0q Tryz.underlying32 h hs 2 9 [c2] dB;obtain⟨x2,e2,w2⟩: ∃x:List UInt8,[c2]=t0X x/\WfT x:=(g0m Tryz.underlying9) p2 _ h2 z2;obtain⟨p3,h3,z3⟩:=a0q Tryz.underlying32 h hs 3 30 [c3] dB;obtain⟨x3,e3,w3⟩: ∃x:List Int,[c3]=(k0o (a0l .i32) 1) x/\(WfL<|WfI .i32) x:=(k0T (enc:=(a0l .i32)) (Wf:=(WfI .i32)) Tryz.underlying30 (k:=1) dB dB<|c0t Tryz.underlying21) p3 _ h3 z3;obtain⟨p4,h4,z4⟩:=a0q Tryz.underlying32 h hs 4 4 [c4] dB;obtain⟨x4,e4,w4⟩: ∃x:Bool,[c4]=H0C x/\WfB x:=(n0V Tryz.underlying4) p4 _ h4 z4;obtain⟨p5,h5,z5⟩:=a0q Tryz.underlying32 h hs 5 4 [c5] dB;obtain⟨x5,e5,w5⟩: ∃x:Bool,[c5]=H0C x/\WfB x:=(n0V Tryz.underlying4) p5 _ h5 z5;obtain⟨p6,h6,z6⟩:=a0q Tryz.underlying32 h hs 6 4 [c6] dB;obtain⟨x6,e6,w6⟩: ∃x:Bool,[c6]=H0C x/\WfB x:=(n0V Tryz.underlying4) p6 _ h6 z6;refine⟨⟨x0,x1,x2,x3,x4,x5,x6⟩, ?_,⟨w0,w1,w2,w3,w4,w5,w6⟩⟩;show [c0]++ [c1]++ [c2]++ [c3]++ [c4]++ [c5]++ [c6]=((a0l .i64) x0++(a0l .i64) x1++t0X x2++(k0o (a0l .i32) 1) x3++H0C x4++H0C x5++H0C x6);rw[e0,e1,e2,e3,e4,e5,e6]
def F0L(x:a0V):Prop:=WfB x.A_/\(WfL<|WfI .u8) x.D_/\(WfI .i64) x.E_
def C0Q{n:Nat}:q0Q Tryz.prog (n+3) 35 a0C F0L:=λd cs h hs=>by
  have hl:cs.length=3:=(i0z Tryz.underlying35 h).trans dB;obtain⟨c0,c1,c2,rfl⟩:=E0u hl;obtain⟨p0,h0,z0⟩:=a0q Tryz.underlying35 h hs 0 4 [c0] dB;obtain⟨x0,e0,w0⟩: ∃x:Bool,[c0]=H0C x/\WfB x:=(n0V Tryz.underlying4) p0 _ h0 z0;obtain⟨p1,h1,z1⟩:=a0q Tryz.underlying35 h hs 1 33 [c1] dB;obtain⟨x1,e1,w1⟩: ∃x:List Int,[c1]=(k0o (a0l .u8) 1) x/\(WfL<|WfI .u8) x:=(k0T (enc:=(a0l .u8)) (Wf:=(WfI .u8)) Tryz.underlying33 (k:=1) dB dB<|c0t Tryz.underlying5) p1 _ h1 z1;obtain⟨p2,h2,z2⟩:=a0q Tryz.underlying35 h hs 2 3 [c2] dB;obtain⟨x2,e2,w2⟩: ∃x:Int,[c2]=(a0l .i64) x/\(WfI .i64) x:=(c0t Tryz.underlying3) p2 _ h2 z2;refine⟨⟨x0,x1,x2⟩, ?_,⟨w0,w1,w2⟩⟩;show [c0]++ [c1]++ [c2]=(H0C x0++(k0o (a0l .u8) 1) x1++(a0l .i64) x2);rw[e0,e1,e2]
def I0P(x:L0m):Prop:=u0W x.L_/\F0M x.Q_/\F0L x.D_/\(WfI .i64) x.X_/\(WfI .i64) x.ax_
def C0P{n:Nat}:q0Q Tryz.prog (n+5) 37 z0x I0P:=λd cs h hs=>by
  have hl:cs.length=27:=(i0z Tryz.underlying37 h).trans dB;obtain⟨c0,c1,c2,c3,c4,c5,c6,c7,c8,c9,c10,c11,c12,c13,c14,c15,c16,c17,c18,c19,c20,c21,c22,c23,c24,c25,c26,rfl⟩:=J0U hl;obtain⟨p0,h0,z0⟩:=a0q Tryz.underlying37 h hs 0 29 [c0,c1,c2,c3,c4,c5,c6,c7,c8,c9,c10,c11,c12,c13,c14] dB;obtain⟨x0,e0,w0⟩: ∃x:d0G,[c0,c1,c2,c3,c4,c5,c6,c7,c8,c9,c10,c11,c12,c13,c14]=c0p x/\u0W x:=C0S p0 _ h0 z0;obtain⟨p1,h1,z1⟩:=a0q Tryz.underlying37 h hs 1 32 [c15,c16,c17,c18,c19,c20,c21] dB;obtain⟨x1,e1,w1⟩: ∃x:m0o,[c15,c16,c17,c18,c19,c20,c21]=i0X x/\F0M x:=C0R p1 _ h1 z1;obtain⟨p2,h2,z2⟩:=a0q Tryz.underlying37 h hs 2 35 [c22,c23,c24] dB;obtain⟨x2,e2,w2⟩: ∃x:a0V,[c22,c23,c24]=a0C x/\F0L x:=C0Q p2 _ h2 z2;obtain⟨p3,h3,z3⟩:=a0q Tryz.underlying37 h hs 3 3 [c25] dB;obtain⟨x3,e3,w3⟩: ∃x:Int,[c25]=(a0l .i64) x/\(WfI .i64) x:=(c0t Tryz.underlying3) p3 _ h3 z3;obtain⟨p4,h4,z4⟩:=a0q Tryz.underlying37 h hs 4 3 [c26] dB;obtain⟨x4,e4,w4⟩: ∃x:Int,[c26]=(a0l .i64) x/\(WfI .i64) x:=(c0t Tryz.underlying3) p4 _ h4 z4;refine⟨⟨x0,x1,x2,x3,x4⟩, ?_,⟨w0,w1,w2,w3,w4⟩⟩;show [c0,c1,c2,c3,c4,c5,c6,c7,c8,c9,c10,c11,c12,c13,c14]++ [c15,c16,c17,c18,c19,c20,c21]++ [c22,c23,c24]++ [c25]++ [c26]=(c0p x0++i0X x1++a0C x2++(a0l .i64) x3++(a0l .i64) x4);rw[e0,e1,e2,e3,e4]
def tot{T:Type}(f:T->Nat)(l:List T):Nat:=(l.map f).sum
def v0e{T:Type}(f:T->Nat)(l:List T)(x:T):tot f (l++ [x])=tot f l+f x:=by simp[tot]
def u0t{T:Type}{f:T->Nat}{B:Nat}: ∀ {l:List T},(∀x∈l,f x<=B)->tot f l<=l.length*B
  | [],_=>by simp[tot]
  |x::l,h=>by
    have h1:=h x<|aB ..;have h2:=u0t (l:=l) λy hy=>h y (aq _ hy)
    simp only[tot,ao,List.sum_cons,aU,bU]at h2⊢;omega
def y0B{T:Type}(f:T->Nat): ∀ {l:List T} {x:T},x∈l->f x<=tot f l
  |y::l,x,h=>by
    simp only[tot,ao,List.sum_cons];rcases aY.1 h with rfl|h;omega;have:=y0B f h;simp only[tot]at this;omega
def pS(x0:d0G)(s0:Int×Int):Option ((Int×Int)⊕Int):=
  (bif(yA<|s0.2<4)then(bif(yA<|s0.2=0)then(vA<|.inl ((wA .i64<|s0.1+(x0.d_.g_.length:Int)),(wA .i64<|0+1)))else bif(yA<|s0.2=1)then(vA<|.inl ((wA .i64<|s0.1+(x0.d_.h_.length:Int)),(wA .i64<|1+1)))else bif(yA<|s0.2=2)then(vA<|.inl ((wA .i64<|s0.1+(x0.d_.o_.length:Int)),(wA .i64<|2+1)))else bif(yA<|s0.2=3)then(vA<|.inl ((wA .i64<|s0.1+(x0.d_.t_.length:Int)),(wA .i64<|3+1)))else none)else vA<|.inr s0.1)
def rS(xs:List p0J)(s2:Int×Int):Option ((Int×Int)⊕Int):=
  (bif(yA<|s2.2<(xs.length:Int))then(bif inR s2.2 xs.length then(vA<|.inl ((wA .i64<|s2.1+(((nth xs s2.2).ba_).length:Int)),(wA .i64<|s2.2+1)))else none)else vA<|.inr s2.1)
def cS(xs:List p0I)(s1:Int×Int):Option ((Int×Int)⊕Int):=
  (bif(yA<|s1.2<(xs.length:Int))then(bif inR s1.2 xs.length then(bif inR s1.2 xs.length then(vA<|.inl ((wA .i64<|(wA .i64<|s1.1+(((nth xs s1.2).ag_).length:Int))+(((nth xs s1.2).m_).length:Int)),(wA .i64<|s1.2+1)))else none)else none)else vA<|.inr s1.1)
def N0x(xs:List i0P)(s3:Int×Int):Option ((Int×Int)⊕Int):=
  (bif(yA<|s3.2<(xs.length:Int))then(bif inR s3.2 xs.length then(vA<|.inl ((wA .i64<|s3.1+(((nth xs s3.2).aj_).length:Int)),(wA .i64<|s3.2+1)))else none)else vA<|.inr s3.1)
def G0o(x0:d0G):f0j x0=(jA (a0m (pS x0) big ((x0.Z_.length:Int),0)) λ(s4:Int)=>jA (jA (bif(yA<|(x0.M_.length:Int)>8)then(vA jB)else bif(yA<|(x0.j_.length:Int)>105)then(vA jB)else vA<|yA<|(x0.c_.length:Int)>95) λ(s5:Bool)=>bif s5 then(vA<|.inr oA)else vA<|.inl ())<|a0j λ(s9:Unit)=>jA (a0m (rS x0.M_) big (s4,0)) λ(s6:Int)=>jA (a0m (cS x0.j_) big (s6,0)) λ(s7:Int)=>jA (a0m (N0x x0.c_) big (s7,0)) λ(s8:Int)=>vA<|yA<|s8<=6000):=rfl
def I0e(l:d0G):Nat:=l.Z_.length+l.d_.g_.length+l.d_.h_.length+l.d_.o_.length+l.d_.t_.length
def P0o{l:d0G}(w:u0W l):a0m (pS l) big ((l.Z_.length:Int),0)=vA ((I0e l:Nat):Int):=by
  obtain⟨w0,_,⟨w1,w2,w3,w4⟩,_⟩:=w;unfold WfT at w0 w1 w2 w3 w4;have hb:big=18446744073709551611+1+1+1+1+1:=rfl;rw[hb];refine(g0W (s':=((l.Z_.length:Int)+l.d_.g_.length,1)) ?_).trans ?_;show vA (Sum.inl (_,_))=_;rw[w64 (n:=(l.Z_.length:Int)+l.d_.g_.length) dA dA];rfl;refine(g0W (s':=((l.Z_.length:Int)+l.d_.g_.length+l.d_.h_.length,2)) ?_).trans ?_;show vA (Sum.inl (_,_))=_;rw[w64 (n:=(l.Z_.length:Int)+l.d_.g_.length+l.d_.h_.length) dA dA];rfl;refine(g0W (s':=((l.Z_.length:Int)+l.d_.g_.length+l.d_.h_.length+l.d_.o_.length,3)) ?_).trans ?_;show vA (Sum.inl (_,_))=_;rw[w64 (n:=(l.Z_.length:Int)+l.d_.g_.length+l.d_.h_.length+l.d_.o_.length) dA dA];rfl;refine(g0W (s':=((l.Z_.length:Int)+l.d_.g_.length+l.d_.h_.length+l.d_.o_.length+l.d_.t_.length,4)) ?_).trans ?_;show vA (Sum.inl (_,_))=_;rw[w64 (n:=(l.Z_.length:Int)+l.d_.g_.length+l.d_.h_.length+l.d_.o_.length+l.d_.t_.length) dA dA];rfl;refine j0Z ?_;show vA (Sum.inr _)=_;unfold I0e;simp
def P0m{xs:List p0J}{a:Nat}(ha:a<=9007199254740992)(hx:xs.length<=8)(w: ∀x∈xs,y0u x):a0m (rS xs) big ((a:Int),0)=vA ((a+tot (λx=>x.ba_.length) xs:Nat):Int):=by
  refine t0x xs (λpre=>(((a+tot (λx:p0J=>x.ba_.length) pre:Nat):Int),(pre.length:Int))) _ (by simp[tot]) (λpre x suf h=> ?_) ?_ dA;have hb:=u0t (f:=λx:p0J=>x.ba_.length) (l:=pre) (B:=140737488355328) λy hy=>(w y<|by rw[h];simp[hy]).2
  have hxw:x.ba_.length<=140737488355328:=(w x<|by rw[h];simp).2;have hl:pre.length<=8:=by rw[h]at hx;simp at hx;omega
  simp only[rS];rw[h,E0g,z0l,z0a,v0e,I0V<|by rw[<-h];omega];simp only[wC];rw[w64 dA dA];simp only[aj,Sum.inl.injEq,aG,and_true];omega;simp only[rS];rw[A0y];rfl
def P0s{xs:List i0P}{a:Nat}(ha:a<=90071992547409920)(hx:xs.length<=95)(w: ∀x∈xs,y0s x):a0m (N0x xs) big ((a:Int),0)=vA ((a+tot (λx=>x.aj_.length) xs:Nat):Int):=by
  refine t0x xs (λpre=>(((a+tot (λx:i0P=>x.aj_.length) pre:Nat):Int),(pre.length:Int))) _ (by simp[tot]) (λpre x suf h=> ?_) ?_ dA;have hb:=u0t (f:=λx:i0P=>x.aj_.length) (l:=pre) (B:=140737488355328) λy hy=>(w y<|by rw[h];simp[hy]).2.2
  have hxw:x.aj_.length<=140737488355328:=(w x<|by rw[h];simp).2.2;have hl:pre.length<=95:=by rw[h]at hx;simp at hx;omega
  simp only[N0x];rw[h,E0g,z0l,z0a,v0e,I0V<|by rw[<-h];omega];simp only[wC];rw[w64 dA dA];simp only[aj,Sum.inl.injEq,aG,and_true];omega;simp only[N0x];rw[A0y];rfl
def P0U{xs:List p0I}{a:Nat}(ha:a<=18014398509481984)(hx:xs.length<=105)(w: ∀x∈xs,y0t x):a0m (cS xs) big ((a:Int),0)=vA ((a+tot (λx=>x.ag_.length+x.m_.length) xs:Nat):Int):=by
  refine t0x xs (λpre=>(((a+tot (λx:p0I=>x.ag_.length+x.m_.length) pre:Nat):Int),(pre.length:Int))) _ (by simp[tot]) (λpre x suf h=> ?_) ?_ dA
  have hb:=u0t (f:=λx:p0I=>x.ag_.length+x.m_.length) (l:=pre) (B:=281474976710656) λy hy=>by
    have h1:y.ag_.length<=140737488355328:=(w y<|by rw[h];simp[hy]).1;have h2:y.m_.length<=140737488355328:=(w y<|by rw[h];simp[hy]).2.1;omega
  have h1:x.ag_.length<=140737488355328:=(w x<|by rw[h];simp).1;have h2:x.m_.length<=140737488355328:=(w x<|by rw[h];simp).2.1;have hl:pre.length<=105:=by rw[h]at hx;simp at hx;omega
  simp only[cS];rw[h,E0g,z0l,z0a,v0e,I0V<|by rw[<-h];omega];simp only[wC];rw[w64 (n:=((a+tot (λx:p0I=>x.ag_.length+x.m_.length) pre:Nat):Int)+(x.ag_.length:Int)) dA dA,w64 dA dA];simp only[aj,Sum.inl.injEq,aG,and_true];omega;simp only[cS];rw[A0y];rfl

def G0p{l:d0G}(w:u0W l): ∃b,f0j l=vA b/\(b=jB->l.M_.length<=8/\l.j_.length<=105/\l.c_.length<=95/\
    I0e l+tot (λx=>x.ba_.length) l.M_+tot (λx=>x.ag_.length+x.m_.length) l.j_+tot (λx=>x.aj_.length) l.c_<=6000):=by
  rw[G0o,P0o w,ah];obtain⟨w0,_,⟨w1,w2,w3,w4⟩,wr,wc,wk⟩:=w;unfold WfT at w0 w1 w2 w3 w4;by_cases h1:l.M_.length<=8;rw[dF (show¬(l.M_.length:Int)>8 by omega)];by_cases h2:l.j_.length<=105;rw[dF (show¬(l.j_.length:Int)>105 by omega)];by_cases h3:l.c_.length<=95;rw[dF (show¬(l.c_.length:Int)>95 by omega)];simp only[vD,ah,a0j];have hp:I0e l<=703687441776640:=by unfold I0e;omega
  have b1:=u0t (f:=λx:p0J=>x.ba_.length) (l:=l.M_) (B:=140737488355328) λy hy=>(wr.2 y hy).2
  have b2:=u0t (f:=λx:p0I=>x.ag_.length+x.m_.length) (l:=l.j_) (B:=281474976710656) λy hy=>by
    have q1:y.ag_.length<=140737488355328:=(wc.2 y hy).1;have q2:y.m_.length<=140737488355328:=(wc.2 y hy).2.1;omega
  rw[P0m dA h1 wr.2,ah,P0U dA h2 wc.2,ah,P0s dA h3 wk.2,ah];refine⟨_,rfl,λh=>⟨h1,h2,h3, ?_⟩⟩;have:=jF h;omega;rw[dT (show(l.c_.length:Int)>95 by omega)];exact⟨oA,rfl,λh=>by cases h⟩;rw[dT (show(l.j_.length:Int)>105 by omega)];exact⟨oA,rfl,λh=>by cases h⟩;rw[dT (show(l.M_.length:Int)>8 by omega)];exact⟨oA,rfl,λh=>by cases h⟩

def A0F{l:d0G}(h2:l.M_.length<=8/\l.j_.length<=105/\l.c_.length<=95/\
    I0e l+tot (λx=>x.ba_.length) l.M_+tot (λx=>x.ag_.length+x.m_.length) l.j_+tot (λx=>x.aj_.length) l.c_<=6000):
    (l.Z_.length<=4294967296/\(l.d_.g_.length<=100000/\l.d_.h_.length<=100000/\l.d_.o_.length<=100000/\l.d_.t_.length<=100000))/\l.M_.length<=8/\l.j_.length<=105/\(∀c∈l.j_,c.m_.length<=6000)/\l.c_.length<=95/\ ∀c∈l.c_,c.aj_.length<=6000:=by
  obtain⟨h1,h2,h3,h4⟩:=h2;unfold I0e at h4;refine⟨⟨dA,dA,dA,dA,dA⟩,h1,h2,λc hc=> ?_,h3,λc hc=> ?_⟩;have:=y0B (λx:p0I=>x.ag_.length+x.m_.length) hc;omega;have:=y0B (λx:i0P=>x.aj_.length) hc;omega
def M0E{l:d0G}(h:l.M_.length<=8/\l.j_.length<=105/\l.c_.length<=95/\
    I0e l+tot (λx=>x.ba_.length) l.M_+tot (λx=>x.ag_.length+x.m_.length) l.j_+tot (λx=>x.aj_.length) l.c_<=6000):Tot (d0p l) (λ_=>True):=by
  obtain⟨⟨f0,f1⟩,f2,f3,f4,f5,f6⟩:=A0F h;unfold d0p;exact tB (G0N f0 f1 f2 f3 f4 f5 f6) dJ
def G0K{d:a0V}(hl:d.D_.length<=140737488355328):Tot (c0Y d) (λ_=>True):=by
  unfold c0Y;refine Tot.joinT (tL (λs:Int=>0<=s/\s<=d.D_.length) (λs=>((d.D_.length:Int)-s).toNat) ⟨dA,dA⟩ dA λs hs=>tI (λe=> ?_) dI) λ_=>tI dI λe=>tB (p:=λ_=>True) (tI (λ_=> ?_) dI) dJ;have e:=dTT e;refine tY (a0c hs.1 e)<|tI dI λ_=>tR ?_;rw[w64 (n:=s+1) dA dA];exact⟨⟨dA,dA⟩,dA⟩;have e:=dFF e;rw[w64 (n:=(d.D_.length:Int)-1) dA dA];exact tY (a0c dG dA)<|tI (λ_=>tY (a0c dA dA)<|tI (λ_=>tI dI dI) dI) dI
def E0b(d:a0V):Prop:=d.D_.length<=40/\ -60<=d.E_/\d.E_<=60
def J0K{d:a0V}(hl:d.D_.length<=140737488355328):Tot (e0t d) (λr=>r=jB->E0b d):=by
  unfold e0t;exact tB (G0K hl) (λ_ _=>tB (p:=λr=>r=jB->E0b d) (tI (λ_=>tI (λe1=>tI (λe2=>tR λe3=>⟨by have:=dTT e1;omega,by have:=dTT e2;omega,dTT e3⟩) λ_=>tR dH) λ_=>tR dH) λ_=>tR dH) λ_ h=>tR h)
def H0d{l:d0G}{q:m0o}{d:a0V}(wl:u0W l)(wq:q.m_.length<=140737488355328)(hd:d.D_.length<=140737488355328):Tot (d0o l q d) (λr=>r=jB->x0L l/\q.m_.length<=50/\E0b d):=by
  obtain⟨sa,ea,ha⟩:=G0p wl
  have hL:sa=jB->x0L l:=λh=>by
    obtain⟨⟨f0,f1⟩,f2,f3,f4,f5,f6⟩:=A0F<|ha h;exact⟨f1,f2,f3,f4,f5,f6⟩
  unfold d0o;rw[ea,ah];refine tB (J0K hd) (λnd hn=>tJ<|Tot.mono (p:=λx:Unit⊕Bool=>match x with| .inl _=>sa=jB/\q.m_.length<=50/\E0b d| .inr r=>r=oA) (tB (p:=λc=>c=oA->sa=jB/\q.m_.length<=50/\E0b d) ?_ λc hc=>tI (λ_=>tR rfl) λe=>tR<|hc e) λx hx=> ?_)
  · refine tI (λ_=>tR dH) (λe1=>tI (λ_=>tR dH) λe2=>tI (λ_=>tR dH) λe3=>tR λ_=>⟨by cases sa<;>simp_all,by have:=dFF e3;omega,hn<|by cases nd<;>simp_all⟩)
  cases x with
  |inl u=>exact tB (M0E<|ha hx.1) (λ_ _=>tR λ_=>⟨hL hx.1,hx.2⟩)
  |inr r=>exact λh=>by rw[show r=oA from hx]at h;cases h
def I0g{f r:Int}{k:Nat}(hk:k<=4000000000):n0W ⟨f,r,[]⟩ k=vA ⟨f,r,[]⟩:=by
  unfold n0W;show(bif mk (0:Int) (wA .i64<|0+(k:Int))then vA (⟨f,r,v0F (rep 0 (0:Int)) []⟩:k0R)else none)=_;rw[w64 dA dA,M0i dG dA dA];rfl
def F9(l:List Int):Prop:= ∀x∈l,0<=x/\x<=9
def F9.nil:F9 []:=λ_ h=>by cases h
def F9.app{a b:List Int}(ha:F9 a)(hb:F9 b):F9 (a++b):=λx hx=>(av.1 hx).elim (ha x)<|hb x
def F9.one{x:Int}(h:0<=x/\x<=9):F9 [x]:=λy hy=>by rw[aN]at hy;rw[hy];exact h
def F9.nth{l:List Int}(h:F9 l)(i:Int):0<=nth l i/\nth l i<=9:=by
  unfold Go.Sy.nth;rw[am]
  cases e:l[i.toNat]? with
  |none=>exact⟨dG,dG⟩
  |some x=>exact h x<|aJ e
def F9.set{l:List Int}(h:F9 l){v:Int}(hv:0<=v/\v<=9)(i:Int):F9 (d0a l i v):=λx hx=>by
  unfold d0a at hx;rcases List.mem_or_eq_of_mem_set hx with e|rfl;exact h x e;exact hv
def F9.cut{l:List Int}(h:F9 l)(a b:Int):F9 (cut l a b):=λx hx=>h x<|bM<|bL hx
def qF{S X:Type}{x:Option (S⊕X)}{k:S->Option X}{q:X->Prop}(h:Im x (λy=> ∀r,y= .inr r->q r))(hk: ∀s,Im (k s) q):Im (jA x<|a0j k) q:=
  qG (λ_=>True) (λy e=>by have:=h y e;cases y with|inl s=>trivial|inr r=>exact this r rfl) (λs _=>hk s)
def qK{S X:Type}{s:S}{q:X->Prop}:Im (vA (Sum.inl s:S⊕X)) (λy=> ∀r,y= .inr r->q r):=qA (λr e=>by cases e)
def qL{S X:Type}{r:X}{q:X->Prop}(h:q r):Im (vA (Sum.inr r:S⊕X)) (λy=> ∀r,y= .inr r->q r):=qA (λr e=>by cases e;exact h)
def qH{α:Type}{b:Bool}{t:Option α}{p:α->Prop}(h:Im t p):Im (bif b then t else Option.none) p:=qE h qS
def qT{S O:Type}{step:S->Option (S⊕O)}{q:O->Prop}(I:S->Prop){s0:S}(h0:I s0)(hs: ∀s,I s->Im (step s) (λy=>match y with| .inl s=>I s| .inr o=>q o)):Im (a0m step big s0) q:=qP I h0 hs _
def Im.no{α:Type}{x:Option α}{p:α->Prop}(h:False):Im x p:=h.elim
def u8c{n:Int}(h:0<=n/\n<=9):wA .u8 n=n:=by
  unfold wA;simp only[oG,yH];simp;omega
def I0u{l:List Int}(h:F9 l):Im (g0O l) (λr=>r=jB):=by
  unfold g0O;exact qF (qT (λ_=>True) trivial λs _=>qE (qH<|qD (λe=>Im.no<|by have:=dTT e;have:=h.nth s;omega) λ_=>qA trivial)<|qA λr e=>by cases e) λ_=>qA rfl
def D0y{d:a0V}(hf:F9 d.D_)(h0:d.D_.length=0->d.E_=0)(h1:d.D_.length≠0->d.D_.length<=1000/\(-1000<=d.E_/\d.E_<=1000)/\nth d.D_ 0≠0/\nth d.D_ (d.D_.length-1)≠0):Im (f0M d) (λr=>r=jB):=by
  unfold f0M;refine qD (λe=>qA<|dT<|h0<|by have:=dTT e;omega) λe=> ?_;obtain⟨g1,g2,g3,g4⟩:=h1 (by have:=dFF e;omega);refine qG (λ_=>True) (qC (p:=λb=>b=oA) (qD (λe=>Im.no<|by have:=dTT e;omega) λ_=>qD (λe=>Im.no<|by have:=dTT e;omega) λ_=>qA<|dF dA) λb hb=>qD (λe=>by rw[hb]at e;cases e) λ_=>qA trivial) λ_ _=> ?_;rw[w64 (n:=(d.D_.length:Int)-1) dA dA];exact qC (p:=λr=>r=jB) (qH<|qD (λ_=>qH<|qD (λ_=>qC (I0u hf) λ_ h=>qA h) λe=>Im.no<|dFF e g4) λe=>Im.no<|dFF e g3) λ_ h=>qA h
def P(a b:Int)(d:a0V):Prop:=F9 d.D_/\(d.D_.length=0->d.E_=0)/\(d.D_.length≠0->(nth d.D_ 0≠0/\nth d.D_ (d.D_.length-1)≠0)/\a<=d.E_/\d.E_+d.D_.length<=b)
def P.mono{a b a' b':Int}{d:a0V}(h:P a b d)(ha:a'<=a)(hb:b<=b'):P a' b' d:=⟨h.1,h.2.1,λn=>⟨(h.2.2 n).1,by have:=(h.2.2 n).2;omega,by have:=(h.2.2 n).2;omega⟩⟩
def P0{n:Bool}{a b:Int}:P a b ⟨n,[],0⟩:=⟨F9.nil,λ_=>rfl,λh=>absurd rfl h⟩
def P.right{a b:Int}{d:a0V}(h:P a b d)(ha: -1000<=a)(hb:b<=1000)(hl:b<=a+1000):Im (f0M d) (λr=>r=jB):=
  D0y h.1 h.2.1 (λn=>by have q:=h.2.2 n;exact⟨dA,⟨dA,dA⟩,q.1⟩)
def nt{b:Bool}(h:(!b)=oA):b=true:=by simpa using h
def I0i{l:List Int}{i j k:Int}(hi:0<=i)(hk:0<=k)(hj:i+k<j)(hl:j<=l.length):nth (cut l i j) k=nth l (i+k):=by
  unfold nth cut;rw[am,am,cR,aM];rw[vB dA,show i.toNat+k.toNat=(i+k).toNat by omega]
def x0w{b:Bool}{l:List Int}{e:Int}(hf:F9 l)(hl:l.length<=900)(h0: -1000<=e)(h1:e+l.length<=1000):Im (j0v b l e) (λr=>r.2=0/\P e (e+l.length) r.1):=by
  unfold j0v;refine qC (I0u hf) (λy hy=>qD (λe=>by rw[hy]at e;cases e) λ_=>qG (λ_=>True) (qC (p:=λb=>b=oA) (qD (λe=>Im.no<|by have:=dTT e;omega) λ_=>qA<|dF dA) λb hb=>qD (λe=>by rw[hb]at e;cases e) λ_=>qA trivial) λ_ _=> ?_);refine qC (p:=λi:Int=>(0<=i/\i<=l.length)/\(i<l.length->nth l i≠0)) (qT (λi:Int=>0<=i/\i<=l.length) ⟨ai _,dE⟩ λs hs=> ?_) λi hi=> ?_;refine qG (λ_=>s<l.length) (qC (p:=λc=>(c=jB->s<l.length)/\(c=oA->s<l.length->nth l s≠0)) (qD (λe=>qH<|qA ⟨λ_=>dTT e,λh _=>dFF h⟩) λe=>qA ⟨λh=>(by cases h),λ_ h=>absurd h<|dFF e⟩) λc hc=>qD (λe=>qA<|hc.1 e) λe=>qA ⟨hs,hc.2 e⟩) λ_ h=>qA ?_;show 0<=wA .i64 (s+1)/\wA .i64 (s+1)<=l.length;rw[w64 (n:=s+1) dA dA];omega;obtain⟨⟨i0,i1⟩,i2⟩:=hi;refine qC (p:=λj:Int=>(i<=j/\j<=l.length)/\(i<j->nth l (j-1)≠0)) (qT (λj:Int=>i<=j/\j<=l.length) ⟨i1,ai _⟩ λs hs=> ?_) λj hj=> ?_;rw[w64 (n:=s-1) dA dA];exact qG (λ_=>i<s) (qC (p:=λc=>(c=jB->i<s)/\(c=oA->i<s->nth l (s-1)≠0)) (qD (λe=>qH<|qA ⟨λ_=>dTT e,λh _=>dFF h⟩) λe=>qA ⟨λh=>(by cases h),λ_ h=>absurd h<|dFF e⟩) λc hc=>qD (λe=>qA<|hc.1 e) λe=>qA ⟨hs,hc.2 e⟩) (λ_ h=>qA (show i<=s-1/\s-1<=l.length by omega));obtain⟨⟨j0,j1⟩,j2⟩:=hj;refine qD (λ_=>qA ⟨rfl,P0⟩) λe'=>qH ?_;have hij:i<j:=by have:=dFF e';omega
  have hc:((cut l i j).length:Int)=j-i:=by unfold cut;simp;omega
  have n0:(cut l i j).length≠0:=by omega
  rw[z0E dA,ah,w64 (n:=e+l.length) dA dA,w64 (n:=e+l.length-j) dA dA]
  have hn:nth (cut l i j) 0≠0/\nth (cut l i j) ((cut l i j).length-1)≠0:=by
    rw[hc,I0i i0 dA dA j1,I0i i0 dA dA j1,Int.add_zero,show i+(j-i-1)=j-1 by omega];exact⟨i2 dA,j2 hij⟩
  have hr:Im (f0M ⟨b,cut l i j,e+l.length-j⟩) (λr=>r=jB):=D0y (hf.cut _ _) (λh=>absurd h n0) (λ_=>⟨by show(cut l i j).length<=_;omega,⟨by show-1000<=e+l.length-j;omega,by show e+l.length-j<=1000;omega⟩,hn⟩);exact qC hr (λr h=>qD (λe=>by rw[h]at e;cases e) λ_=>qA ⟨rfl,hf.cut _ _,λh=>absurd h n0,λ_=>⟨hn,by show e<=e+l.length-j;omega,by show e+l.length-j+((cut l i j).length:Int)<=_;omega⟩⟩)
def q0U{a b n:Int}{d:a0V}(h:P a b d)(ha: -1000<=a+n)(hb:b+n<=1000)(hn: -2000<=n/\n<=2000)(hl:b<=a+1000):Im (g0t d n) (λr=>r.2=0/\P (a+n) (b+n) r.1/\r.1.D_=d.D_/\r.1.E_=if d.D_.length=0 then 0 else d.E_+n):=by
  obtain⟨p1,p2,p3⟩:=h
  have hd:d.D_.length<=1000:=by
    by_cases n:d.D_.length=0;omega;have:=p3 n;omega
  unfold g0t;refine qG (λ_=>True) (qC (p:=λb=>b=oA) (qD (λe=>Im.no<|by have:=dTT e;omega) λ_=>qA<|dF dA) λb hb=>qD (λe=>by rw[hb]at e;cases e) λ_=>qA trivial) λ_ _=> ?_;rw[z0E dA,ah];refine qD (λe=>qA ⟨rfl,⟨p1,p2,λh=>absurd (dTT e)<|by show¬(d.D_.length:Int)=0;exact λg=>h<|by show d.D_.length=0;omega⟩,rfl, ?_⟩) λe=> ?_;have:=dTT e;rw[vB dA];exact p2 dA;have e:=dFF e;obtain⟨q0,q1,q2⟩:=p3 dA;rw[w64 (n:=d.E_+n) dA dA,yB (show¬d.D_.length=0 by omega)];exact qG (λ_=>True) (qC (p:=λb=>b=oA) (qD (λe=>Im.no<|by have:=dTT e;omega) λ_=>qA<|dF dA) λb hb=>qD (λe=>by rw[hb]at e;cases e) λ_=>qA trivial) (λ_ _=>qA ⟨rfl,⟨p1,λh=>absurd h<|by show¬d.D_.length=0;omega,λ_=>⟨q0,by show a+n<=d.E_+n;omega,by show d.E_+n+d.D_.length<=_;omega⟩⟩,rfl,rfl⟩)
def M0U{d:r0E}{i:Int}(h:F9 d.u_.D_):Im (d0I d i) (λx=>0<=x/\x<=9):=by
  unfold d0I;exact qF (qB λ_=>qE (qL ⟨dG,dG⟩) qK) λ_=>qH<|qA<|h.nth _
def O0t{d:a0V}{i:Int}(h:F9 d.D_):Im (r0N d i) (λx=>0<=x/\x<=9):=by
  unfold r0N;exact qF (qB λ_=>qE (qL ⟨dG,dG⟩) qK) λ_=>qB λ_=>qC (M0U (d:=⟨d⟩) h) λ_ h=>qA h
def B0O{a b:Int}{d:a0V}(h:P a b d)(ha: -1000<=a)(hb:b<=1000)(hl:b<=a+1000):Im (i0m d) (λm=>m=if d.D_.length=0 then 0 else d.E_+d.D_.length-1):=by
  unfold i0m e0R;refine qC (p:=λm=>m=if d.D_.length=0 then 0 else d.E_+d.D_.length-1) (qD (λe=>qA ?_) λe=>qA ?_) λ_ h=>qA h;rw[vB<|by have:=dTT e;show d.D_.length=0;have:(d.D_.length:Int)=0:=this;omega];have e: ¬(d.D_.length:Int)=0:=dFF e;have:=h.2.2 dA;rw[yB dA];show wA .i64 (wA .i64 (d.E_+d.D_.length)-1)=_;rw[w64 (n:=d.E_+d.D_.length) dA dA,w64 dA dA]
def J0d{d:a0V}{p m:Int}(hf:F9 d.D_)(hp: -2000<=p/\p<=2000)(hm: -2000<=m/\m<=2000)(hg:Im (i0m d) λx=>x=m):Im (i0c d 1 p) (λr=>r.2=0/\F9 r.1/\(r.1.length:Int)<=max 0 (m-p+1)):=by
  unfold i0c;refine qC (p:=λr:Int×List Int=>r.1=0/\F9 r.2/\(r.2.length:Int)<=max 0 (m-p+1)) (qC hg λx hx=> ?_) λ_ h=>qA h;refine qT (λs:Int×Int×List Int=>s.1=0/\F9 s.2.2/\(s.2.2.length:Int)=m-s.2.1/\(s.2.1=m\/p-1<=s.2.1)/\s.2.1<=m) ⟨rfl,F9.nil,by simp[hx], .inl hx,by rw[hx];exact ai _⟩ λs hs=> ?_;obtain⟨s1,s2,s3,s4,s5⟩:=hs;refine qD (λe=>qC (O0t hf) λy hy=>qH<|qH<|qH<|qA ?_) (λe=>qA (show s.1=0/\F9 s.2.2/\(s.2.2.length:Int)<=_ from⟨s1,s2,by have:=dFF e;omega⟩));have e:=dTT e
  have wy:wA .i64 (wA .i64 (s.1*10)+wA .i64 y)=y:=by
    rw[s1,w64 (n:=0*10) dA dA,w64 (n:=y) dA dA,w64 dA dA];omega
  rw[wy,show wE y 1=y from Int.tdiv_one y,show jD y 1=0 from Int.tmod_one y,w64 (n:=y) dA dA,u8c hy,w64 (n:=s.2.1-1) dA dA];exact⟨rfl,s2.app<|F9.one hy,by show((s.2.2++ [y]).length:Int)=m-(s.2.1-1);simp;omega, .inr<|by show p-1<=s.2.1-1;omega,by show s.2.1-1<=m;omega⟩
def M0e{l:List Int}(h:F9 l)(hl:l.length<=100000):Im (g0T l) (λr=>F9 r/\r.length<=l.length+1):=by
  refine qO ?_<|qQ<|D0w hl;unfold g0T;refine qG (λl:List Int=>F9 l) (qT (λs:Int×List Int=>F9 s.2) h λs hs=>qE (qH<|qH<|qD (λe=>qH<|qH<|qH<|qH<|qA ?_) λ_=>qH<|qH<|qA<|hs.set ⟨dG,dG⟩ _)<|qA hs) λs hs=>qH<|qA<|(F9.one (x:=1) ⟨dG,dG⟩).app hs;have e:=dTT e;have:=hs.nth s.1;rw[u8c (n:=nth s.2 s.1+1) dA];exact hs.set dA _
def N0O{l:List Int}(h:F9 l)(hl:l.length<=100000):Im (c0A l) (λr=>F9 r/\r.length=l.length):=by
  refine qO ?_<|qQ<|J0r hl;unfold c0A;exact qT (λs:Int×Int×List Int=>F9 s.2.2) h λs hs=>qE (qH<|qH<|qH<|qH<|qH<|qH<|qH<|qH<|qA<|(hs.set (hs.nth _) _).set (hs.nth _) _)<|qA hs
def J0a{l:List Int}(h:F9 l)(hl:l.length<=90000):Im (i0b l 1) (λr=>F9 r/\r.length<=l.length):=by
  unfold i0b;rw[w64 (n:=(l.length:Int)-1) dA dA];refine qC (p:=λr:Int×List Int=>r.1=0/\F9 r.2/\r.2.length<=l.length) (qT (λs:Int×Int×List Int=>s.1=0/\F9 s.2.2/\(s.2.2.length:Int)+s.2.1+1=l.length/\ -1<=s.2.1/\s.2.1<l.length) ⟨rfl,F9.nil,dE,by show(-1:Int)<=l.length-1;omega,by show(l.length:Int)-1<_;omega⟩ λs hs=> ?_) λr hr=> ?_;obtain⟨s1,s2,s3,s4,s5⟩:=hs;refine qD (λe=>qH<|qH<|qA ?_) λ_=>qA (show s.1=0/\F9 s.2.2/\s.2.2.length<=l.length from⟨s1,s2,dA⟩);have e:=dTT e;have hy:=h.nth s.2.1;generalize nth l s.2.1=y at hy
  have wy:wA .i64 (s.1+wA .i64 (wA .i64 y*1))=y:=by
    rw[s1,Int.mul_one,w64 (n:=y) dA dA,w64 (n:=y) dA dA,w64 dA dA];omega
  rw[wy,show jD y 10=y from Int.tmod_eq_of_lt dA dA,show wE y 10=0 from Int.tdiv_eq_zero_of_lt dA dA,u8c hy,w64 (n:=s.2.1-1) dA dA];exact⟨rfl,s2.app<|F9.one hy,by show((s.2.2++ [y]).length:Int)+(s.2.1-1)+1=_;simp;omega,by show-1<=s.2.1-1;omega,by show s.2.1-1<_;omega⟩;obtain⟨r1,r2,r3⟩:=hr;refine qC (p:=λq:List Int=>F9 q/\q.length<=l.length) (qT (λs:Int×List Int=>s.1=0/\F9 s.2/\s.2.length<=l.length) ⟨r1,r2,r3⟩ λs hs=>qD (λe=>Im.no<|by have:=dTT e;omega) λ_=>qA hs.2) λq hq=>qC (N0O hq.1 dA) λz hz=>qA ⟨hz.1,dA⟩
def K0U(d:a0V)(p:Int):Im (g0J d p) (λr=>r=jB->d.D_.length≠0/\d.E_<p):=by
  unfold g0J;exact qC (p:=λr=>r=jB->d.D_.length≠0/\d.E_<p) (qD (λe=>qA λh=>⟨by have:=dTT e;omega,dTT h⟩) λ_=>qA dH) λ_ h=>qA h
def P0b{m:Int}(h:0<=m/\m<=7):Im (k0v m) (λr=>r=jB):=by
  unfold k0v;exact qC (p:=λr=>r=jB) (qD (λe=>qA<|dT h.2) λe=>Im.no<|by have:=dFF e;omega) λ_ h=>qA h
def L0u{p:Int}(h: -1000<=p/\p<=1000):Im (j0A 1 p) (λr=>r=jB):=by
  unfold j0A;exact qC (p:=λr=>r=jB) (qD (λ_=>qD (λ_=>qD (λe3=>qA<|dT h.2) λe=>Im.no<|by have:=dFF e;omega) λe=>Im.no<|by have:=dFF e;omega) λe=>Im.no<|by have:=dFF e;omega) λ_ h=>qA h
def w0E{b:Bool}{l:List Int}(h:F9 l)(hl:l.length<=3001):Im (bif b then(jA (g0T l) λy=>vA y)else vA l) (λr=>F9 r/\r.length<=l.length+1):=
  qE (qC (M0e h dA) λ_ h=>qA h) (qA ⟨h,dA⟩)
def M0w{a b B p m:Int}{d:a0V}(h:P a b d)(ha: -300<=a)(hb:b<=300)(hp: -400<=p/\p<=300)(hm:0<=m/\m<=7)(h1:b+1<=B)(h2:p+1<=B)(h3:B<=301):Im (j0Q d 1 p m) (λr=>r.2=0/\P a B r.1):=by
  have ng: ∀ {x:Bool},x=jB->(!x)=false:=λh=>by rw[h];rfl
  have hl:d.D_.length<=600:=by
    by_cases n:d.D_.length=0;omega;have:=h.2.2 n;omega
  unfold j0Q;refine qG (λ_=>True) (qC (p:=λb=>b=oA) (qC (P0b hm) λx hx=>qD (λe=>by rw[ng hx]at e;cases e) λ_=>qC (L0u dA) λy hy=>qD (λe=>by rw[ng hy]at e;cases e) λ_=>qC (h.right dA dA dA) λz hz=>qA<|ng hz) λb hb=>qD (λe=>by rw[hb]at e;cases e) λ_=>qA trivial) (λ_ _=> ?_)
  have hmg: -2000<=(if d.D_.length=0 then(0:Int)else d.E_+d.D_.length-1)/\(if d.D_.length=0 then(0:Int)else d.E_+d.D_.length-1)<=2000:=by
    by_cases n:d.D_.length=0;rw[vB n];exact⟨dG,dG⟩;have:=h.2.2 n;rw[yB n];omega
  refine qC (J0d (p:=p) h.1 dA (m:=if d.D_.length=0 then 0 else d.E_+d.D_.length-1) hmg<|B0O h dA dA dA) λy hy=> ?_;obtain⟨y1,y2,y3⟩:=hy;refine qG (λ_=>d.D_.length≠0/\d.E_<p) (qC (p:=λc=>c=oA->d.D_.length≠0/\d.E_<p) (qD (λ_=>qC (K0U d p) λc hc=>qA λh=>hc<|nt h) λe=>absurd y1<|dFF e) λc hc=>qD (λ_=>qC (p:=λr=>r.2=0/\P a B r.1) ?_ λr hr=>qA hr) λe=>qA<|hc e) λ_ hE=> ?_;by_cases n:d.D_.length=0;have e0:=h.2.1 n;have d0:d.D_=[]:=cW.1 n;rw[d0,e0]
  exact λr hr=>by
    have q:=x0w (b:=d.A_) (l:=[]) (e:=0) F9.nil dE dG dE r hr;refine⟨q.1,q.2.1,q.2.2.1,λk=> ?_⟩;have:=(q.2.2.2 k).2;simp at this;omega
  have q:=h.2.2 n
  exact λr hr=>by
    have w:=x0w h.1 dA dA dA r hr;exact⟨w.1,w.2.mono dA dA⟩
  obtain⟨n,hE⟩:=hE;have q:=h.2.2 n;rw[yB n]at y3;refine qB λs=>qB λhf=>qC (p:=λr:List Int=>F9 r/\r.length<=y.1.length+1) ?_ λr hr=>qC (J0a hr.1 dA) λt ht=>qC (p:=λr=>r.2=0/\P a B r.1) (λr e=> ?_) λ_ h=>qA h;have k:y.1.length<=3001:=by omega
  unfold j0m k0t k0s h0p h0o h0n h0m h0l h0k;simp only[ah];exact qE (w0E y2 k)<|qE (w0E y2 k)<|qE (w0E y2 k)<|qE (w0E y2 k)<|qE (qB λ_=>w0E y2 k)<|qE (qB λ_=>w0E y2 k)<|qE (qB λ_=>w0E y2 k)<|qE (qB λ_=>w0E y2 k) qS;have w:=x0w ht.1 dA dA dA r e;exact⟨w.1,w.2.mono dA dA⟩
def J0f{a b n m:Int}{d:a0V}(h:P a b d)(ha: -160<=a)(hb:b<=299)(hn:1<=n/\n<=200)(hm:0<=m/\m<=7):Im (i0B d n m) (λr=>r.2=0/\P a (b+1) r.1):=by
  have ng: ∀ {x:Bool},x=jB->(!x)=false:=λh=>by rw[h];rfl
  unfold i0B;refine qG (λ_=>True) (qC (p:=λb=>b=oA) (qD (λe=>Im.no<|by have:=dTT e;omega) λ_=>qC (P0b hm) λx hx=>qD (λe=>by rw[ng hx]at e;cases e) λ_=>qC (h.right dA dA dA) λz hz=>qA<|ng hz) λb hb=>qD (λe=>by rw[hb]at e;cases e) λ_=>qA trivial) λ_ _=> ?_;refine qG (λ_=>d.D_.length≠0) (qC (p:=λc=>c=oA->d.D_.length≠0) (qD (λ_=>qA dH) λe=>qB λ_=>qA λ_=>by have:=dFF e;omega) λc hc=>qD (λ_=>qC (p:=λr=>r.2=0/\P a (b+1) r.1) ?_ λr hr=>qA hr) λe=>qA<|hc e) λ_ hE=> ?_;by_cases n:d.D_.length=0;have e0:=h.2.1 n;have d0:d.D_=[]:=cW.1 n;rw[d0,e0]
  exact λr hr=>by
    have q:=x0w (b:=d.A_) (l:=[]) (e:=0) F9.nil dE dG dE r hr;refine⟨q.1,q.2.1,q.2.2.1,λk=> ?_⟩;have:=(q.2.2.2 k).2;simp at this;omega
  have q:=h.2.2 n
  exact λr hr=>by
    have w:=x0w h.1 dA dA dA r hr;exact⟨w.1,w.2.mono dA dA⟩
  have q:=h.2.2 hE;refine qC (B0O h dA dA dA) λg hg=> ?_;rw[yB hE]at hg;rw[w64 (n:=g-n) dA dA,w64 (n:=g-n+1) dA dA];exact qC (M0w h dA dA dA hm (ai _) dA dA) λ_ h=>qA h
def O0Q{a b p m:Int}{d:a0V}(h:P a b d)(ha: -300<=a)(hb:b<=299)(hp: -400<=p/\p<=0)(hm:0<=m/\m<=7):Im (l0z d p m) (λr=>r.2=0/\P a (max (b+1) 1) r.1):=by
  unfold l0z;exact qC (M0w h ha dA dA hm dA dA dA) λ_ h=>qA h
def r0A(n:Int):Im (d0w n) (λr=>r=max 0 (min n 1000)):=by
  unfold d0w i0E M0j;refine qA ?_
  repeat' split
  all_goals omega
def G0n{a b g m:Int}{p:a0h}{d:a0V}(h:P a b d)(ha: -160<=a)(hb:b<=299)(hp:H0a p)(hg: -1<=g/\g<=4)(hm:0<=m/\m<=7):Im (h0X p g d m) (λr=>r.2=0/\P a (max (b+1) 1) r.1/\(p.k_>0->P a (b+1) r.1)):=by
  obtain⟨p1,p2,p3,p4,p5,p6⟩:=hp;unfold h0X;refine qD (λe=>qC (r0A _) λc hc=> ?_) (λe=>qD (λe5=>qC (J0f h ha hb (by have:=dTT e5;omega) hm) λr hr=>qA ⟨hr.1,hr.2.mono (ai _) dA,λ_=>hr.2⟩) λ_=>qD (λe6=> ?_) λ_=> ?_);rw[w64 (n:=c+1) dA dA];exact qC (J0f h ha hb dA hm) λr hr=>qA ⟨hr.1,hr.2.mono (ai _) dA,λ_=>hr.2⟩;have e6:=dTT e6;rw[w64 (n:=0-g) dA dA];exact qC (O0Q h dA hb dA hm) λr hr=>qA ⟨hr.1,hr.2,λk=>absurd k<|dFF e⟩;rw[w64 (n:=0-p.H_) dA dA];exact qC (O0Q h dA hb dA hm) λr hr=>qA ⟨hr.1,hr.2,λk=>absurd k<|dFF e⟩
def N0d{a b:Int}{p:a0h}{d:a0V}(h:P a b d)(ha: -400<=a)(hb:b<=400)(hab:a<=b):Im (j0z p d) (λr=>(p.k_<1->P a b r.1)/\(0<p.k_->P (1-(b-a)) 1 r.1/\(r.2=0\/(a<=r.2/\r.2<=b-1)))):=by
  unfold j0z;refine qD (λe=>qA ⟨λ_=>h,λk=>absurd (dTT e)<|by show¬p.k_<1;omega⟩) λe=>qC (B0O h dA dA dA) λm hm=> ?_;have e:=dFF e;by_cases n:d.D_.length=0;rw[vB n]at hm;rw[hm,w64 (n:=0-0) dA dA];exact qC (q0U (n:=0-0) h dA dA dA dA) (λr hr=>qA ⟨λk=>absurd k e,λ_=>⟨⟨hr.2.1.1,hr.2.1.2.1,λk=>absurd (show r.1.D_.length=0 by rw[hr.2.2.1];exact n) k⟩, .inl rfl⟩⟩);rw[yB n]at hm;have q:=h.2.2 n;rw[w64 (n:=0-m) dA dA];refine qC (q0U (n:=0-m) h dA dA dA dA) (λr hr=>qA ⟨λk=>absurd k e,λ_=>⟨⟨hr.2.1.1,hr.2.1.2.1,λk=>⟨(hr.2.1.2.2 k).1, ?_⟩⟩, .inr ⟨by show a<=m;omega,by show m<=_;omega⟩⟩⟩);have g:=hr.2.2.2;rw[yB n]at g;show _<=r.1.E_/\r.1.E_+(r.1.D_.length:Int)<=1;rw[hr.2.2.1,g];omega
def F0I{a b L:Int}{p:a0h}{d:a0V}(h:P a b d)(ha: -1000<=a)(hb:b<=1000)(hl:b<=a+1000)(hL:p.w_<=L/\1<=L):Im (h0V p d) (λr=>r<=max L b):=by
  unfold h0V;refine qC (r0A _) (λc hc=>qC (p:=λs:Int=>s<=L) (qB λ_=>qE (qA<|by show(1:Int)<=L;omega)<|qA dA) λs hs=>qD (λ_=>qA<|by show s<=_;omega) λe=>qC (B0O h ha hb hl) λm hm=>qA ?_);have e:=dFF e;have n:d.D_.length≠0:=by omega
  have q:=h.2.2 n;rw[yB n]at hm;rw[w64 (n:=m+1) dA dA];exact q0t dA dA
def A0W{a b g:Int}{p:a0h}{d:a0V}(h:P a b d)(ha: -1000<=a)(hb:b<=1000)(hl:b<=a+1000)(hp:H0a p)(hg:g<=4):Im (g0S p g d) (λr=>r<=40+max 0 (0-a)):=by
  obtain⟨p1,p2,p3,p4,p5,p6⟩:=hp
  have hE:0-d.E_<=max 0 (0-a)/\ -1000<=0-d.E_/\0-d.E_<=1000:=by
    by_cases n:d.D_.length=0;rw[h.2.1 n];omega;have:=h.2.2 n;omega
  unfold g0S;refine qC (r0A _) λc hc=>qC (p:=λs:Int=>s<=40+max 0 (0-a)) (qE (qA dA)<|qE (qC (r0A _) λk hk=>qC (B0O h ha hb hl) λm hm=>qA ?_)<|qE (qC (r0A _) λk hk=>qA dA)<|qA dA) λs hs=>qA ?_;by_cases n:d.D_.length=0;rw[vB n]at hm;rw[w64 (n:=k-1) dA dA,w64 (n:=k-1-m) dA dA];omega;have q:=h.2.2 n;rw[yB n]at hm;rw[w64 (n:=k-1) dA dA,w64 (n:=k-1-m) dA dA];omega;rw[w64 (n:=0-d.E_) dA dA];exact q0t (q0t dA hs) dA
def v0W{x0 x1:Int}{b:Bool}{l:List Int}{e:Int}(h1:x1<=100000):Im (b0X x0 x1 b l e) (λr=>(r.length:Int)<=max 0 x1):=by
  unfold b0X;refine qC (p:=λr:List Int=>(r.length:Int)<=max 0 x1) (qT (λs:Int×List Int=>0<=s.1/\(s.2.length:Int)=s.1/\(s.1<=x1\/s.1=0)) ⟨ai _,rfl, .inr rfl⟩ λs hs=>qD (λc=>qB λy=>qH<|qA ?_) λc=>qA (show(s.2.length:Int)<=max 0 x1 by omega)) λ_ h=>qA h;have c:=dTT c;show 0<=wA .i64 (s.1+1)/\((s.2++ [y]).length:Int)=wA .i64 (s.1+1)/\(wA .i64 (s.1+1)<=x1\/wA .i64 (s.1+1)=0);rw[w64 (n:=s.1+1) dA dA];exact⟨dA,dD, .inl dA⟩
def y0b{a b g L:Int}{p:a0h}{d:a0V}(h:P a b d)(ha: -400<=a)(hb:b<=400)(hab:a<=b)(hp:H0a p)(hg:g<=4)(hL:p.w_<=L/\1<=L/\L<=1000)(hE:0<p.k_->p.w_=1):Im (d0K p g d) (λr=>(p.k_<1->(r.1.length:Int)<=max L b/\(r.2.1.length:Int)<=40+max 0 (0-a))/\(0<p.k_->(r.1.length:Int)<=1/\(r.2.1.length:Int)<=40+(b-a)/\(r.2.2=0\/(a<=r.2.2/\r.2.2<=b-1)))):=by
  unfold d0K;refine qB λ_=>qE (qA ⟨λ_=>⟨dD,dD⟩,λ_=>⟨dE,dD, .inl rfl⟩⟩)<|qC (N0d h ha hb hab) λy hy=> ?_;by_cases e:0<p.k_;obtain⟨y1,y2⟩:=hy.2 e;have m1:=hE e;exact qC (F0I (L:=1) y1 dA dA dA ⟨dA,dA⟩) (λw hw=>qC (v0W dA) λf hf=>qC (A0W y1 dA dA dA hp hg) λv hv=>qC (v0W dA) λf2 hf2=>qA ⟨λk=>absurd k dA,λ_=>⟨by show(f.length:Int)<=1;omega,by show(f2.length:Int)<=_;omega,y2⟩⟩);have y1:=hy.1 dA;exact qC (F0I (L:=L) y1 dA dA dA ⟨dA,dA⟩) (λw hw=>qC (v0W dA) λf hf=>qC (A0W y1 dA dA dA hp hg) λv hv=>qC (v0W dA) λf2 hf2=>qA ⟨λ_=>⟨by show(f.length:Int)<=_;omega,by show(f2.length:Int)<=_;omega⟩,λk=>absurd k e⟩)
def z0m{s:b0I}{l:List Int}{a b:Int}(hl:l.length<=100000):Im (g0H s l a b) (λr=>r.length<=2*l.length):=by
  unfold g0H;refine qC (p:=λr:List Int=>r.length<=2*l.length) (qT (λk:Int×List Int=>0<=k.1/\(k.2.length:Int)<=2*k.1/\k.1<=l.length) ⟨ai _,dE,dE⟩ λk hk=>qD (λe=> ?_) λe=>qA (show k.2.length<=_ by omega)) λ_ h=>qA h;have e:=dTT e;refine qC (p:=λr:List Int=>(r.length:Int)<=2*k.1+2) (qC (p:=λr:List Int=>(r.length:Int)<=2*k.1+1) (qB λ_=>qE (qH<|qA dD)<|qA dA) λr hr=>qH<|qH<|qA dD) λr hr=>qA ?_;show 0<=wA .i64 (k.1+1)/\(r.length:Int)<=2*wA .i64 (k.1+1)/\wA .i64 (k.1+1)<=l.length;rw[w64 (n:=k.1+1) dA dA];exact⟨dA,dA,dA⟩
def A0P{s:b0I}{l:List Int}(hl:l.length<=100000):Im (g0R s l) (λr=>r.length<=l.length):=by
  unfold g0R;refine qC (p:=λr:List Int=>r.length<=l.length) (qT (λk:Int×List Int=>0<=k.1/\(k.2.length:Int)=k.1/\k.1<=l.length) ⟨ai _,rfl,dE⟩ λk hk=>qD (λe=>qH<|qH<|qA ?_) λe=>qA (show k.2.length<=_ by omega)) λ_ h=>qA h;have e:=dTT e;show 0<=wA .i64 (k.1+1)/\_=wA .i64 (k.1+1)/\wA .i64 (k.1+1)<=l.length;rw[w64 (n:=k.1+1) dA dA];exact⟨dA,dD,dA⟩
def M0I{s:b0I}{p:a0h}{e M:Int}(he: -M<=e/\e<=M)(hM:M<=1000)(hp:p.k_<=40):Im (f0a s p e) (λr=>(r.length:Int)<=M+41):=by
  unfold f0a;refine qC (p:=λr:Int×List Int=>(0<=r.1/\r.1<=M)/\r.2.length<=1) (qD (λc=>qH<|qA ?_) λc=>qE (qH<|qA ⟨⟨by have:=dFF c;show 0<=e;omega,he.2⟩,dE⟩)<|qA ⟨⟨by have:=dFF c;show 0<=e;omega,he.2⟩,dE⟩) (λr hr=>qC (r0A _) λy1 c1=>qC (qQ<|D0c (M+40).toNat big r.1 y1 (by unfold big;omega) dA hr.1.1 dA ?_) λy2 g2=>qC (A0P dA) λy0 g0=>qH<|qA dD);have c:=dTT c;rw[w64 (n:=0-e) dA dA];exact⟨⟨by show 0<=0-e;omega,by show 0-e<=M;omega⟩,dE⟩;have:i0E y1 0<=40:=q0t dA dA;omega
def I0T{a b g M:Int}{s:b0I}{p:a0h}{d:a0V}(h:P a b d)(ha: -400<=a)(hb:b<=400)(hab:a<=b)(hp:H0a p)(hg:g<=4)(hE:0<p.k_->p.w_=1)(hM: -M<=a/\b<=M+1/\M<=1000/\0<=M):Im (h0W s p g d) (λr=>(p.k_<1->(r.length:Int)<=2*max 40 b+41+max 0 (0-a))/\(0<p.k_->(r.length:Int)<=85+(b-a)+M)):=by
  unfold h0W;refine qC (y0b (L:=40) h ha hb hab hp hg ⟨hp.1.2,dG,dG⟩ hE) λy hy=> ?_;by_cases e:0<p.k_;obtain⟨y1,y2,y3⟩:=hy.2 e;refine qC (z0m dA) λu hu=>qC (p:=λr:List Int=>(r.length:Int)<=43+(b-a)) (qE (qH<|qC (A0P dA) λv hv=>qH<|qA dD)<|qA dA) λw hw=>qC (p:=λr:List Int=>(r.length:Int)<=85+(b-a)+M) (qD (λ_=>qH<|qC (M0I (M:=M) dA dA hp.2.2.2.2.2) λv hv=>qH<|qA dD) λk=>absurd e<|dFF k) λr hr=>qA ⟨λk=>absurd k dA,λ_=>hr⟩;obtain⟨y1,y2⟩:=hy.1 dA;refine qC (z0m dA) λu hu=>qC (p:=λr:List Int=>(r.length:Int)<=2*max 40 b+41+max 0 (0-a)) (qE (qH<|qC (A0P dA) λv hv=>qH<|qA dD)<|qA dA) λw hw=>qC (p:=λr:List Int=>(r.length:Int)<=2*max 40 b+41+max 0 (0-a)) (qD (λk=>absurd (dTT k) e) λ_=>qA hw) λr hr=>qA ⟨λ_=>hr,λk=>absurd k e⟩
def M0D{n:Int}:Im (h0U [] n) (λr=>r=[]):=by
  unfold h0U;exact qB λ_=>qB λ_=>qA rfl
def C0W{T:Type}[Inhabited T]{l:List T}{s:Int}(h0:0<=s)(h1:s<l.length):l.take (s+1).toNat=l.take s.toNat++ [nth l s]:=by
  obtain⟨i,rfl⟩: ∃i:Nat,s=i:=⟨s.toNat,dA⟩
  have hi:i<l.length:=by omega
  rw[show((i:Int)+1).toNat=i+1 by omega,bZ hi,p0q hi];rfl
def H0I{l:List (List Int)}(hl:l.length<=4294967296):Im (f0P l) (λr=>r=l.flatten):=by
  unfold f0P;refine qB λn=>qC M0D λy hy=> ?_;rw[hy];refine qC (qT (λk:Int×List Int=>0<=k.1/\k.2=(l.take k.1.toNat).flatten) ⟨ai _,dE⟩ λk hk=>qD (λe=>qH<|qH<|qA ?_) λe=>qA (show k.2=_ from ?_)) λ_ h=>qA h;have e:=dTT e;show 0<=wA .i64 (k.1+1)/\k.2++nth l k.1=(l.take (wA .i64<|k.1+1).toNat).flatten;rw[w64 (n:=k.1+1) dA dA,C0W hk.1 e,hk.2];exact⟨dA,dE⟩;have e:=dFF e;rw[hk.2,aX dA]
def L0S{p:a0h}{a:f0u}{o:List Int}{wd X:Int}(hw:p.U_=0\/e0Y p=vA wd)(hwd:0<=wd/\wd<=20000000)(ha:(a.e_.length:Int)+o.length+a.i_.length<=X)(hX:wd<=X)(hX2:X<=100000000):Im (i0d p a o) (λr=>(r.length:Int)<=X):=by
  unfold i0d;refine qC (p:=λk:Int=>0<=k/\k+a.e_.length+o.length+a.i_.length<=X) (qD (λe=> ?_) λ_=>qA ⟨dG,dA⟩) (λk hk=>qC (qQ<|L0K hk.1 dA) λy hy=>qC (p:=λs:List Int×List Int×List Int×List Int=>(s.1.length+s.2.1.length+s.2.2.1.length+s.2.2.2.length:Int)<=k) ?_ λs hs=>qC (H0I dE) λr hr=>qA ?_)
  · rw[hw.resolve_left<|dTT e,ah]
    refine qA ?_;rw[w64 (n:=wd-a.e_.length) dA dA,w64 (n:=wd-a.e_.length-o.length) dA dA,w64 (n:=wd-a.e_.length-o.length-a.i_.length) dA dA];unfold i0E;split<;>omega
  exact qE (qA dD)<|qE (qA dD)<|qE (qA dD)<|qE (qA dD)<|qA dD;rw[hr];simp;omega
def row(s:b0I)(cur:List Int)(t:a0b):List Int:=if t.aa_=0 then [t.R_]else if t.aa_=1 then [s.y_]else if t.aa_=2 then [s.v_]else if t.aa_=3 then [s.z_]else if t.aa_=4 then cur else []
def x0d{l:List a0b}{s:b0I}{cur:List Int}(hl:l.length<=4294967296):Im (e0S l s cur) (λr=>r=l.flatMap (row s cur)):=by
  unfold e0S;refine qB λ_=>qC (qT (λk:Int×List Int=>0<=k.1/\k.2=(l.take k.1.toNat).flatMap (row s cur)) ⟨ai _,dE⟩ λk hk=>qD (λe=> ?_) λe=>qA (show k.2=_ from ?_)) λ_ h=>qA h;have e:=dTT e;refine qC (p:=λr=>r=k.2++row s cur (nth l k.1)) (qH ?_) λr hr=>qA ?_;unfold row;refine qD (λe=>qH<|qA<|by rw[vB<|dTT e]) λe=> ?_;rw[yB<|dFF e];refine qD (λe=>qH<|qA<|by rw[vB<|dTT e]) λe=> ?_;rw[yB<|dFF e];refine qD (λe=>qH<|qA<|by rw[vB<|dTT e]) λe=> ?_;rw[yB<|dFF e];refine qD (λe=>qH<|qA<|by rw[vB<|dTT e]) λe=> ?_;rw[yB<|dFF e];exact qD (λe=>qH<|qA<|by rw[vB<|dTT e]) (λe=>qH<|qA<|by rw[yB<|dFF e]);show 0<=wA .i64 (k.1+1)/\r=(l.take (wA .i64<|k.1+1).toNat).flatMap (row s cur);rw[w64 (n:=k.1+1) dA dA,C0W hk.1 e,hr,hk.2];exact⟨dA,dE⟩;have e:=dFF e;rw[hk.2,aX dA]
def c4(l:List a0b):Nat:=(l.filter λt=>yA<|t.aa_=4).length
def A0d(s:b0I)(cur:List Int): ∀l:List a0b,(l.flatMap<|row s cur).length=(l.flatMap<|row s []).length+c4 l*cur.length
  | []=>by simp[c4]
  |t::l=>by
    have ih:=A0d s cur l
    have h:(row s cur t).length=(row s [] t).length+(if t.aa_=4 then cur.length else 0):=by
      unfold row
      repeat' split
      all_goals simp_all
    unfold c4 at*;rw[aD,az,aD,az,cN];by_cases e:t.aa_=4;rw[vB e]at h;simp only[e,decide_true,if_true,aU,bV]at*;omega;rw[yB e]at h;simp only[e,decide_false,aF,if_false]at*;omega
def F0l{l:List a0b}{k:Int}(hl:l.length<=4294967296):Im (e0U l k) (λn=>n=((l.filter λt=>yA<|t.aa_=k).length:Int)):=by
  unfold e0U;refine qC (qT (λs:Int×Int=>0<=s.2/\s.1=(((l.take s.2.toNat).filter λt=>yA<|t.aa_=k).length:Int)) ⟨ai _,dE⟩ λs hs=>qD (λe=> ?_) λe=>qA (show s.1=_ from ?_)) λ_ h=>qA h;have e:=dTT e;have hb:((l.take s.2.toNat).filter λt=>yA<|t.aa_=k).length<=l.length:=aH (cH _ _) (by rw[aE];omega);refine qC (p:=λr:Int=>r=s.1+if(nth l s.2).aa_=k then 1 else 0) (qH<|qD (λe=>qA ?_) λe=>qA ?_) λr hr=>qA ?_;rw[vB<|dTT e,w64 dA dA];rw[yB<|dFF e];omega;show 0<=wA .i64 (s.2+1)/\r=(((l.take (wA .i64<|s.2+1).toNat).filter λt=>yA<|t.aa_=k).length:Int);rw[w64 (n:=s.2+1) dA dA,C0W hs.1 e,hr,hs.2,List.filter_append,az];refine⟨dA, ?_⟩;by_cases c:(nth l s.2).aa_=k;simp[c];simp[c];have e:=dFF e;rw[hs.2,aX dA]
def A0p{a b:List a0b}{st m:Int}(ha:a.length<=4294967296)(hb:b.length<=4294967296):Im (g0X a b st m) (λr=>r=jB->c4 a+c4 b<=1):=by
  unfold g0X c0N;refine qC (p:=λs:Int×Int=>s.2<=1) (qE (qA dG)<|qE (qA dG)<|qA dG) λs hs=>qC (p:=λr=>r=jB->c4 a+c4 b<=1) ?_ λ_ h=>qA h;refine qB λ_=>qE (qC (p:=λn:Int=>n=c4 a+c4 b) (qC (F0l ha) λx hx=>qC (F0l hb) λy hy=>qA ?_) λn hn=>qD (λe=> ?_) λ_=>qA dH)<|qA dH;have h1:(a.filter λt=>yA<|t.aa_=4).length<=a.length:=cH _ _;have h2:(b.filter λt=>yA<|t.aa_=4).length<=b.length:=cH _ _;rw[hx,hy,w64 dA dA];rfl;have e:=dTT e;exact λ_ _ _=>by omega
def cpy{T:Type}[DecidableEq T]{l:List T}:Im (bif(oB l.length 0)then m0g (vA ([]:List T)) (bif room l.length then(vA l)else none)else bif room l.length then(vA l)else none) (λr=>r=l):=by
  have h:Im (bif room l.length then(vA l)else none) (λr=>r=l):=qH<|qA rfl;refine qE ?_ h;intro o e;unfold m0g at e;split at e;exact h o e;cases e
def B0S{l put:List a0b}:Im (c0R l put) (λr=>r=put++l):=by
  unfold c0R f0N;exact qC cpy (λy hy=>qH<|qA<|by rw[hy])
def I0L{t:a0b}(h:t.aa_≠4): ∀(l:List a0b) (i:Nat),c4 (l.set i t)<=c4 l
  | [],_=>by simp
  |x::l,0=>by
    unfold c4;rw[cz,cN,cN];simp only[h,decide_false,aF,if_false];split<;>simp
  |x::l,i+1=>by
    have:=I0L h l i;unfold c4 at*;rw[cy,cN,cN];split<;>simp<;>omega
def z0V{l:List a0b}:Im (f0O l) (λr=>r.length=l.length/\c4 r<=c4 l):=by
  unfold f0O f0N;refine qC cpy λy hy=> ?_;rw[hy];exact qC (p:=λr:List a0b=>r.length=l.length/\c4 r<=c4 l) (qT (λs:Int×List a0b=>s.2.length=l.length/\c4 s.2<=c4 l) ⟨rfl,ak _⟩ λs hs=>qE (qC (p:=λr:List a0b=>r.length=l.length/\c4 r<=c4 l) (qH<|qH<|qE (qH<|qH<|qA ⟨by unfold d0a;rw[df];exact hs.1,aH (I0L (by show(2:Int)≠4;decide) _ _) hs.2⟩)<|qA hs) λr hr=>qA hr)<|qA hs) λ_ h=>qA h
def K0R{t:a0b}{l:List a0b}(ht:t.aa_≠4):c4 ([t]++l)=c4 l:=by
  unfold c4;simp[ht]
def CP(p:a0h):Prop:=c4 p.e_+c4 p.i_<=1/\(p.A_=jB->c4 p.K_+c4 p.G_<=1)
def z0X{p:a0h}{g:Int}{n:Nat}(h:CP p)(hp:g0C p n):Im (e0C p g) (λy=>c4 y.1+c4 y.2<=1/\y.1.length<=n+1/\y.2.length<=n+1):=by
  obtain⟨h1,h2⟩:=h;obtain⟨p1,p2,p3,p4⟩:=hp
  have k1: ∀k:Int,k≠4->Im (jA (c0R p.e_ [⟨k,0⟩]) λy2=>jA (c0R p.i_ ([]:List a0b)) λy3=>vA (y2,y3)) (λy=>c4 y.1+c4 y.2<=1/\y.1.length<=n+1/\y.2.length<=n+1):=λk e4=>
    qC B0S (λy hy=>qC B0S (λz hz=>qA (by
      rw[hy,hz,aV,K0R<|by exact e4]
      exact⟨h1,dD,by show p.i_.length<=_;omega⟩)))
  unfold e0C;refine qE (qD (λe=>qC B0S λy hy=>qC B0S λz hz=>qA ?_) λ_=>k1 1 dG)<|qE (qF (qC (p:=λb=>b=jB->p.A_=jB) (qD (λe=>qB λ_=>qB λ_=>qA λ_=>e) λ_=>qA dH) λb hb=>qD (λe=> ?_) λ_=>qK) λ_=>k1 2 dG)<|qC B0S λy hy=>qC B0S λz hz=>qA ?_;rw[hy,hz,aV,aV];exact⟨h2 e,by show p.K_.length<=_;omega,by show p.G_.length<=_;omega⟩;have n3:=h2<|hb e;exact qC z0V (λy hy=>qC z0V λz hz=>qL ⟨by have:=hy.2;have:=hz.2;show c4 y+c4 z<=1;omega,by show y.length<=_;rw[hy.1];omega,by show z.length<=_;rw[hz.1];omega⟩);rw[hy,hz,aV,aV];exact⟨h1,by show p.e_.length<=_;omega,by show p.i_.length<=_;omega⟩
def F0H{p:a0h}{s:b0I}{g:Int}{cur:List Int}(h:CP p)(hp:g0C p 1000):Im (c0s p s g cur) (λa=> ∃y,e0C p g=vA y/\c4 y.1+c4 y.2<=1/\a.e_=y.1.flatMap (row s cur)/\a.i_=y.2.flatMap (row s cur)):=by
  unfold c0s;exact qC (p:=λy=>e0C p g=vA y/\(c4 y.1+c4 y.2<=1/\y.1.length<=1001/\y.2.length<=1001)) (λy e=>⟨e,z0X h hp y e⟩) λy hy=>qC (x0d dA) λa ha=>qC (x0d dA) λb hb=>qA ⟨y,hy.1,hy.2.1,ha,hb⟩
def N0g{p:a0h}{s:b0I}{g:Int}{cur:List Int}{a a0:f0u}(h:CP p)(hp:g0C p 1000)(h0:c0s p s g []=vA a0)(h1:c0s p s g cur=vA a):a.e_.length+a.i_.length<=a0.e_.length+a0.i_.length+cur.length:=by
  obtain⟨y,e1,k,e2,e3⟩:=F0H h hp a h1;obtain⟨z,g1,_,g2,g3⟩:=F0H h hp a0 h0;rw[e1]at g1;cases g1;rw[e2,e3,g2,g3,A0d s cur y.1,A0d s cur y.2];have:c4 y.1*cur.length+c4 y.2*cur.length<=1*cur.length:=by rw[<-bV];exact aK _ k
  omega
def E0i{t:List UInt8}(ht:t.length<=100000):Im (l0K t) (λr=>g0C r.1 120/\H0a r.1):=by
  unfold l0K;exact qC (qQ<|y0W ht) λy hy=>qB λ_=>qA hy
def B0M{p:a0h}{k:Int}:Im (g0Y p k) (λb=>b=jB->0<p.k_->p.w_=1):=by
  unfold g0Y;exact qE (qC (p:=λb=>b=jB->0<p.k_->p.w_=1) (qE (qE (qE (qA λh _=>dTT h)<|qA dH)<|qA dH)<|qA dH) λ_ h=>qA h)<|qB λ_=>qC (p:=λb=>b=jB->0<p.k_->p.w_=1) (qD (λe=>λ_ _ _ k=>absurd (dTT e) dA) λ_=>qA dH) λ_ h=>qA h
def BP(p:a0h):Prop:=H0a p/\(0<p.k_->p.w_=1)/\CP p/\g0C p 120
def BP0:BP (⟨([]:List a0b),([]:List a0b),([]:List a0b),([]:List a0b),oA,0,0,0,0,0,0,0,0,0,oA,0,0⟩:a0h):=⟨⟨⟨dE,dE⟩,dE,⟨dE,dE⟩,dE,dE,dE⟩,λh=>(by cases h),⟨dG,λh=>by cases h⟩,dE,dE,dE,dE⟩
def BP.len{p:a0h}(h:BP p):g0C p 1000:=by
  obtain⟨_,_,_,h1,h2,h3,h4⟩:=h;exact⟨dA,dA,dA,dA⟩
def q0k{s:b0I}{k:Int}{t:List UInt8}(ht:t.length<=100000):Im (a0O s k t) (λr=>BP r.1):=by
  unfold a0O;refine qC (E0i ht) λy hy=> ?_;obtain⟨⟨h1,h2,h3,h4⟩,hn⟩:=id hy;refine qF (qB λ_=>qE (qL BP0) qK) λ_=> ?_;refine qG (λ_=>BP y.1) (qC (p:=λb=>b=oA->BP y.1) (qC B0M λm hm=>qD (λ_=>qA dH) λe0=>qC (A0p dA dA) λb hb=>qD (λ_=>qA dH) λe=>qD (λ_=>qC (A0p dA dA) λc hc=>qA λh=>⟨hn,hm<|nt e0,⟨hb<|nt e,λ_=>hc<|nt h⟩,hy.1⟩) λn=>qA λ_=>⟨hn,hm<|nt e0,⟨hb<|nt e,λh=>by rw[n]at h;cases h⟩,hy.1⟩) λb hb=>qD (λ_=>qA BP0) λe=>qA<|hb e) λ_ hc=> ?_;exact qF (qB λ_=>qE (qL BP0) qK) λ_=>qA hc
def D0i{s:b0I}{c:i0P}(ht:c.aj_.length<=100000):Im (b0v s c) (λr=>g0C r.1 1000/\(r.1.w_=0\/(1<=r.1.w_/\r.1.w_<c.ae_/\r.1.w_<=40))):=by
  have l0:g0C (⟨([]:List a0b),([]:List a0b),([]:List a0b),([]:List a0b),oA,0,0,0,0,0,0,0,0,0,oA,0,0⟩:a0h) 1000:=⟨dE,dE,dE,dE⟩
  unfold b0v;refine qC (E0i ht) λy hy=>qF (qB λ_=>qE (qL ⟨l0, .inl rfl⟩) qK) λ_=> ?_;obtain⟨⟨h1,h2,h3,h4⟩,hn⟩:=hy
  have hl:g0C y.1 1000:=⟨dA,dA,dA,dA⟩
  refine qG (λ_=>1<=y.1.w_/\y.1.w_<c.ae_/\y.1.w_<=40) (qC (p:=λb=>b=oA->1<=y.1.w_/\y.1.w_<c.ae_/\y.1.w_<=40) (qD (λ_=>qA dH) λe1=>qD (λ_=>qA dH) λe2=> ?_) λb hb=>qD (λ_=>qA ⟨l0, .inl rfl⟩) λe=>qA<|hb e) λ_ hm=>qE (qA ⟨l0, .inl rfl⟩)<|qF (qB λ_=>qE (qL ⟨l0, .inl rfl⟩) qK) λ_=>qA ⟨hl, .inr hm⟩;have e1:=dFF e1;have e2:=dFF e2;have:=hn.1.2
  exact λ_ _ _=>⟨dA,dA,this⟩
def A(m:Int)(p:a0h)(s:b0I)(cur:List Int):Prop:= ∀(g:Int) (a:f0u),0<=g->g<=2->c0s p s g cur=vA a->(a.e_.length:Int)+a.i_.length<=m
def A.mono{m m':Int}{p:a0h}{s:b0I}{cur:List Int}(h:A m p s cur)(hm:m<=m'):A m' p s cur:=λg a h0 h2 e=>bf (h g a h0 h2 e) hm
def N0u{a b:Int}:a<=i0E a b/\b<=i0E a b:=by unfold i0E;split<;>omega
def F0F{p:a0h}{c:List Int}(hp:g0C p 1000)(hc:c.length<=6100){x2 x3 x4 x5 x6 x7 x8 x9 x10 x11 x12 x13 x14 x15 x16 x17}:Im (c0m p c x2 x3 x4 x5 x6 x7 x8 x9 x10 x11 x12 x13 x14 x15 x16 x17) (λm=>x17<=m/\A m p ⟨x3,x4,x5,x6,x7,x8,x9⟩ c):=by
  unfold c0m;refine qT (λs:Int×Int=>0<=s.1/\x17<=s.2/\ ∀(g:Int) (a:f0u),0<=g->g<s.1->c0s p ⟨x3,x4,x5,x6,x7,x8,x9⟩ g c=vA a->(a.e_.length:Int)+a.i_.length<=s.2) ⟨ai _,ai _,λg a h0 h1=>absurd h1<|by show¬g<0;omega⟩ (λs hs=>qD (λe=>qC (p:=λa=>c0s p ⟨x3,x4,x5,x6,x7,x8,x9⟩ s.1 c=vA a/\C0n a) (λa e=>⟨e,qQ (w0r hp hc) a e⟩) λa ha=>qA ?_) λe=>qA (show x17<=s.2/\A s.2 p ⟨x3,x4,x5,x6,x7,x8,x9⟩ c from⟨hs.2.1,λg a h0 h2=>hs.2.2 g a h0<|by have:=dFF e;omega⟩));obtain⟨h0,h1,h2⟩:=hs;obtain⟨e1,a1,a2⟩:=ha;have e:=dTT e;rw[w64 (n:=s.1+1) dA dA,w64 (n:=(a.e_.length:Int)+a.i_.length) dA dA];refine⟨by show 0<=s.1+1;omega,bf h1 N0u.1,λg b g0 g1 eb=> ?_⟩;have g1:g<s.1+1:=g1;show(b.e_.length:Int)+b.i_.length<=i0E s.2 (a.e_.length+a.i_.length);by_cases q:g=s.1;rw[q,e1]at eb;cases eb;exact N0u.2;exact bf (h2 g b g0 dA eb) N0u.1
def q0s{T:Type}[Inhabited T]{l:List T}{p:T->Prop}{s:Int}(h0:0<=s)(h1:s<l.length)(h: ∀r∈l.take s.toNat,p r)(hn:p<|nth l s): ∀r∈l.take (s+1).toNat,p r:=by
  rw[C0W h0 h1];intro r hr;rcases av.1 hr with h2|h2;exact h r h2;rw[aN]at h2;rw[h2];exact hn
def arP(l:d0G)(k m:Int):Prop:= ∀p,b0V l k=vA p->A m p l.S_ []/\(k=3-> ∀c∈l.j_,A m p l.S_<|d0L c.m_)/\(k=4-> ∀c∈l.c_,∀y,b0v l.S_ c=vA y->A m y.1 l.S_ [])
def H0O{l:d0G}{k:Int}(hk:0<=k/\k<=4)(hl:x0L l):Im (i0n l k) (arP l k):=by
  obtain⟨hp,hr,hc,hs,hm,ht⟩:=hl;unfold i0n;refine qC (p:=λp=>b0V l k=vA p/\g0C p 1000) (λp e=>⟨e,qQ (F0k hk hp) p e⟩) λp h1=>qC (F0F h1.2 dE) λm hm0=>qC (p:=λn=>m<=n/\(k=3-> ∀c∈l.j_,A n p l.S_<|d0L c.m_)/\(k=4-> ∀c∈l.c_,∀y,b0v l.S_ c=vA y->A n y.1 l.S_ [])) ?_ λn hn=>qA λq hq=> ?_;refine qD (λe3=> ?_) λn3=>qD (λe4=> ?_) λn4=>qA ⟨ai _,λh=>absurd h<|dFF n3,λh=>absurd h<|dFF n4⟩;refine qT (λs:Int×Int=>0<=s.1/\m<=s.2/\ ∀c∈l.j_.take s.1.toNat,A s.2 p l.S_<|d0L c.m_) ⟨ai _,ai _,dE⟩ (λs h=>qD (λe=>qH<|qC (F0F h1.2 ?_) λn hn=>qA ?_) λe=>qA ⟨h.2.1,λ_=> ?_,λk4=>absurd k4<|by have:=dTT e3;omega⟩);have:=hs _<|b0J h.1<|dTT e;have:=s0W (nth l.j_ s.1).m_;omega;have e:=dTT e;show 0<=wA .i64 (s.1+1)/\m<=n/\ ∀c∈l.j_.take (wA .i64<|s.1+1).toNat,A n p l.S_ (d0L c.m_);rw[w64 (n:=s.1+1) dA dA];exact⟨dA,bf h.2.1 hn.1,q0s h.1 e (λc hc=>(h.2.2 c hc).mono hn.1) hn.2⟩;have e:=dFF e;have q:=h.2.2;rw[aX dA]at q;exact q;refine qT (λs:Int×Int=>0<=s.1/\m<=s.2/\ ∀c∈l.c_.take s.1.toNat,∀y,b0v l.S_ c=vA y->A s.2 y.1 l.S_ []) ⟨ai _,ai _,dE⟩ λs h=>qD (λe=>qH<|qC (p:=λy=>b0v l.S_ (nth l.c_ s.1)=vA y/\g0C y.1 1000) (λy e'=>⟨e',(D0i ?_ y e').1⟩) λy hy=>qC (F0F hy.2 dE) λn hn=>qA ?_) λe=>qA ⟨h.2.1,λk3=>absurd k3<|dFF n3,λ_=> ?_⟩;have:=ht _<|b0J h.1<|dTT e;omega;have e:=dTT e;show 0<=wA .i64 (s.1+1)/\m<=n/\ ∀c∈l.c_.take (wA .i64<|s.1+1).toNat,∀y,b0v l.S_ c=vA y->A n y.1 l.S_ [];rw[w64 (n:=s.1+1) dA dA];refine⟨dA,bf h.2.1 hn.1,q0s h.1 e (λc hc y hy=>(h.2.2 c hc y hy).mono hn.1) λz hz=> ?_⟩;rw[hy.1]at hz;cases hz;exact hn.2;have e:=dFF e;have q:=h.2.2;rw[aX dA]at q;exact q;rw[h1.1]at hq;cases hq;exact⟨hm0.2.mono hn.1,hn.2⟩
def wiP(l:d0G)(k w:Int):Prop:= ∀p,b0V l k=vA p->k=4\/p.U_=0\/e0Y p=vA w
def w0C{l:d0G}{k:Int}:Im (g0v l k) (wiP l k):=by
  unfold g0v;refine qC (p:=λp=>b0V l k=vA p) (λ_ e=>e) λp h1=> ?_;have key: ∀ {w},(k=4\/p.U_=0\/e0Y p=vA w)->wiP l k w:=λh q hq=>by rw[h1]at hq;cases hq;exact h
  exact qF (qC (p:=λb=>b=jB->k=4\/p.U_=0) (qD (λe=>qA λ_=> .inl<|dTT e) λ_=>qA λh=> .inr<|dTT h) λb hb=>qD (λe=>qL<|key<|(hb e).imp id .inl) λ_=>qK) λ_=>qC (p:=λw=>e0Y p=vA w) (λ_ e=>e) λw hw=>qA<|key<|.inr<|.inr hw
def aw(l:d0G)(c:w0x)(k:Int)(m w:Int):Prop:=arP l k m/\wiP l k w
def P0p{l:d0G}(hl:x0L l):Im (p0D l) (λc=>aw l c 0 c.O_.g_ c.P_.g_/\aw l c 1 c.O_.h_ c.P_.h_/\aw l c 2 c.O_.o_ c.P_.o_/\aw l c 3 c.O_.t_ c.P_.t_/\aw l c 4 c.O_.a4_ c.P_.a4_):=by
  have hl':=hl;obtain⟨hp,hr,hc,hs,hm,ht⟩:=hl';unfold p0D q0L s0F q0O;rw[p0A dA,p0A dA,p0A dA];simp only[ah];have w0:wA .i64 (0+1)=1:=by decide
  have w1:wA .i64 (1+1)=2:=by decide
  have w2:wA .i64 (2+1)=3:=by decide
  have w3:wA .i64 (3+1)=4:=by decide
  have w4:wA .i64 (4+1)=5:=by decide
  rw[w0,w1,w2,w3,w4];refine qC (p:=λs:Int×Int×Int×Int×Int×Int×Int×Int×Int×Int=>(arP l 0 s.1/\wiP l 0 s.2.2.2.2.2.1)/\(arP l 1 s.2.1/\wiP l 1 s.2.2.2.2.2.2.1)/\(arP l 2 s.2.2.1/\wiP l 2 s.2.2.2.2.2.2.2.1)/\(arP l 3 s.2.2.2.1/\wiP l 3 s.2.2.2.2.2.2.2.2.1)/\(arP l 4 s.2.2.2.2.1/\wiP l 4 s.2.2.2.2.2.2.2.2.2)) (qT (λs:Int×Int×Int×Int×Int×Int×Int×Int×Int×Int×Int=>(0<=s.1/\s.1<=5)/\(0<s.1->arP l 0 s.2.1/\wiP l 0 s.2.2.2.2.2.2.1)/\(1<s.1->arP l 1 s.2.2.1/\wiP l 1 s.2.2.2.2.2.2.2.1)/\(2<s.1->arP l 2 s.2.2.2.1/\wiP l 2 s.2.2.2.2.2.2.2.2.1)/\(3<s.1->arP l 3 s.2.2.2.2.1/\wiP l 3 s.2.2.2.2.2.2.2.2.2.1)/\(4<s.1->arP l 4 s.2.2.2.2.2.1/\wiP l 4 s.2.2.2.2.2.2.2.2.2.2)) ⟨⟨dG,dG⟩,λh=>absurd h dG,λh=>absurd h dG,λh=>absurd h dG,λh=>absurd h dG,λh=>absurd h dG⟩ λs hs=>qD (λe=> ?_) λe=>qA ?_) (λs hs=>qA hs)
  · obtain⟨⟨b0,b5⟩,q0,q1,q2,q3,q4⟩:=hs
    have e:=dTT e;refine qC (H0O ⟨b0,dA⟩ hl) λm hm=> ?_;refine qD (λe0=>qC w0C λw hw=>qA ?_) (λn0=>qD (λe0=>qC w0C λw hw=>qA ?_) λn1=>qD (λe0=>qC w0C λw hw=>qA ?_) λn2=>qD (λe0=>qC w0C λw hw=>qA ?_) λn3=>qD (λe0=>qC w0C λw hw=>qA ?_) λ_=>qS)
    all_goals(have e0:=dTT e0;rw[e0]at hm;refine⟨⟨dC,dC⟩,λh=> ?_,λh=> ?_,λh=> ?_,λh=> ?_,λh=> ?_⟩)
    all_goals first
      |exact⟨hm,hw⟩
      |exact q0 (by simp only at h;omega)
      |exact q1 (by simp only at h;omega)
      |exact q2 (by simp only at h;omega)
      |exact q3 (by simp only at h;omega)
      |exact q4 (by simp only at h;omega)
      |exact absurd h dC
  have e:=dFF e;obtain⟨⟨b0,b5⟩,q0,q1,q2,q3,q4⟩:=hs;exact⟨q0 dA,q1 dA,q2 dA,q3 dA,q4 dA⟩
def D0j{s:b0I}{c:i0P}:Im (b0l s c) (λr=>r.2=jB->2<=c.ae_):=by
  unfold b0l;refine qB (λ_=>qB λ_=>qG (λ_=>2<=c.ae_) (qC (p:=λb=>b=oA->2<=c.ae_) (qE (qA dH)<|qE (qA dH)<|qD (λ_=>qA dH) λe=>λ_ _ _=>by have:=dFF e;omega) λb hb=>qD (λ_=>qA dH) λe=>qA<|hb e) λ_ h=>λ_ _ _=>h)
def F0q{l:d0G}(hl:l.c_.length<=95):Im (c0l l) (λm=>m<0-> ∀c∈l.c_,2<=c.ae_):=by
  unfold c0l;refine qG (λ_=> ∀c∈l.c_,2<=c.ae_) (qT (λs:Int=>0<=s/\ ∀c∈l.c_.take s.toNat,2<=c.ae_) ⟨ai _,dE⟩ λs hs=>qD (λe=> ?_) λe=>qA ?_) λ_ h=>qA λ_=>h;have no:s<0-> ∀c∈l.c_,2<=c.ae_:=λh=>absurd h dA
  refine qG (λ_=>2<=(nth l.c_ s).ae_) (qH<|qC D0j λy hy=>qG (λ_=>2<=(nth l.c_ s).ae_) (qC (p:=λb=>b=oA->2<=(nth l.c_ s).ae_) (qE (qA dH)<|qA λh=>hy<|nt h) λb hb=>qD (λ_=>qA no) λe=>qA<|hb e) λ_ h=>qG (λ_=>True) (qB λ_=>qE (qA no)<|qA trivial) λ_ _=>qB λ_=>qG (λ_=>True) (qB λ_=>qE (qA no)<|qA trivial) λ_ _=>qH<|qB λ_=>qB λ_=>qH<|qB λ_=>qE (qA no)<|qA h) λ_ h=>qA ?_;have e:=dTT e;show 0<=wA .i64 (s+1)/\ ∀c∈l.c_.take (wA .i64<|s+1).toNat,2<=c.ae_;rw[w64 (n:=s+1) dA dA];exact⟨dA,q0s hs.1 e hs.2 h⟩;have e:=dFF e;have q:=hs.2;rw[aX dA]at q;exact q
def J0O{l:d0G}{p:a0h}(hl:l.j_.length<=105):Im (c0U l p) (λm=>m<0-> ∀c∈l.j_,0<=c.at_/\c.at_<=4):=by
  unfold c0U;refine qG (λ_=> ∀c∈l.j_,0<=c.at_/\c.at_<=4) (qT (λs:List UInt8×Int=>0<=s.2/\ ∀c∈l.j_.take s.2.toNat,0<=c.at_/\c.at_<=4) ⟨ai _,dE⟩ λs hs=>qD (λe=> ?_) λe=>qA ?_) λ_ h=>qA λ_=>h;have no:s.2<0-> ∀c∈l.j_,0<=c.at_/\c.at_<=4:=λh=>absurd h dA
  refine qG (λ_=>0<=(nth l.j_ s.2).at_/\(nth l.j_ s.2).at_<=4) (qH<|qB λ_=>qB λ_=>qB λ_=>qG (λ_=>0<=(nth l.j_ s.2).at_/\(nth l.j_ s.2).at_<=4) (qC (p:=λb=>b=oA->0<=(nth l.j_ s.2).at_/\(nth l.j_ s.2).at_<=4) (qE (qA dH)<|qE (qA dH)<|qD (λ_=>qA dH) λe1=>qD (λ_=>qA dH) λe2=>λ_ _ _=>⟨by have:=dFF e1;omega,by have:=dFF e2;omega⟩) λb hb=>qD (λ_=>qA no) λe=>qA<|hb e) λ_ h=>qA h) λ_ h=>qA ?_;have e:=dTT e;show 0<=wA .i64 (s.2+1)/\ ∀c∈l.j_.take (wA .i64<|s.2+1).toNat,0<=c.at_/\c.at_<=4;rw[w64 (n:=s.2+1) dA dA];exact⟨dA,q0s hs.1 e hs.2 h⟩;have e:=dFF e;have q:=hs.2;rw[aX dA]at q;exact q
def s0l(l:d0G):Prop:=(∀c∈l.j_,0<=c.at_/\c.at_<=4)/\ ∀c∈l.c_,2<=c.ae_
def M0F{l:d0G}(hl:l.j_.length<=105)(hm:l.c_.length<=95):Im (d0p l) (λb=>b=jB->s0l l):=by
  have no:(8:Int)=0->s0l l:=λh=>by omega
  unfold d0p d0T;refine qC (p:=λy:Int×Int×Int=>y.2.2=0->s0l l) (qB λ_=>qE (qA no)<|qB λ_=>qE (qA no)<|qG (λ_=>True) (qT (λ_=>True) trivial λs _=> ?_) λ_ _=>qB λ_=>qE (qA no)<|qC (J0O hl) λm h1=>qD (λ_=>qA no) λe1=>qC (F0q hm) λk h2=>qD (λ_=>qA no) λe2=> ?_) λy hy=>qA λh=>hy<|dTT h;exact qE (qE (qB λ_=>qE (qA no)<|qA trivial)<|qE (qB λ_=>qE (qA no)<|qA trivial)<|qE (qB λ_=>qE (qA no)<|qA trivial)<|qH<|qB λ_=>qE (qA no)<|qA trivial) (qA trivial)
  have g:s0l l:=⟨h1<|by have:=dFF e1;omega,h2<|by have:=dFF e2;omega⟩
  exact λ_ _ _=>g
def G0L{d:a0V}(hu: ∀x∈d.D_,0<=x)(hl:d.D_.length<=1000000):Im (c0Y d) (λr=>r=jB->P d.E_ (d.E_+d.D_.length) d):=by
  unfold c0Y;refine qG (λ_=> ∀x∈d.D_,x<=9) (qT (λs:Int=>0<=s/\ ∀x∈d.D_.take s.toNat,x<=9) ⟨ai _,dE⟩ λs hs=>qD (λe=>qH<|qD (λ_=>qA dH) λe9=>qA ?_) λe=>qA ?_) λ_ h9=> ?_;have e:=dTT e;show 0<=wA .i64 (s+1)/\ ∀c∈d.D_.take (wA .i64<|s+1).toNat,c<=9;rw[w64 (n:=s+1) dA dA];exact⟨dA,q0s hs.1 e hs.2<|by have:=dFF e9;omega⟩;have e:=dFF e;have q:=hs.2;rw[aX dA]at q;exact q
  have hf:F9 d.D_:=λx hx=>⟨hu x hx,h9 x hx⟩
  refine qD (λe=>qA λh=>⟨hf,λ_=>dTT h,λn=>absurd (dTT e)<|by show¬(d.D_.length:Int)=0;omega⟩) λe=> ?_;have e: ¬(d.D_.length:Int)=0:=dFF e;rw[w64 (n:=(d.D_.length:Int)-1) dA dA];refine qC (p:=λr=>r=jB->P d.E_ (d.E_+d.D_.length) d) (qE (qH<|qD (λe1=>qH<|qD (λe2=> ?_) λ_=>qA dH) λ_=>qA dH)<|qA dH) λ_ h=>qA h;have e1:=dTT e1;have e2:=dTT e2
  exact λ_ _ _=>⟨hf,λn=>absurd n dA,λ_=>⟨⟨dA,dA⟩,ai _,ai _⟩⟩
def M0f{l:d0G}{q:m0o}{d:a0V}(hu: ∀x∈d.D_,0<=x)(hl:d.D_.length<=1000000)(hc:l.j_.length<=105)(hm:l.c_.length<=95):Im (d0o l q d) (λb=>b=jB->s0l l/\P d.E_ (d.E_+d.D_.length) d):=by
  unfold d0o e0t;refine qB λa=>qC (p:=λb=>b=jB->P d.E_ (d.E_+d.D_.length) d) (qC (G0L hu hl) λy hy=>qC (p:=λb=>b=jB->P d.E_ (d.E_+d.D_.length) d) (qD (λe=>λ_ _ _=>hy e) λ_=>qA dH) λ_ h=>qA h) λb hb=>qG (λ_=>P d.E_ (d.E_+d.D_.length) d) (qC (p:=λc=>c=oA->P d.E_ (d.E_+d.D_.length) d) (qE (qA dH)<|qD (λ_=>qA dH) λe=>λ_ _ _=>hb<|nt e) λc hc=>qD (λ_=>qA dH) λe=>qA<|hc e) λ_ hp=>qC (M0F hc hm) λg hg=>qA λh=>⟨hg h,hp⟩
def WB(l:d0G)(q:m0o)(w:c0Z):Prop:=w.ac_=q/\w.l_=l/\(0<=q.n_/\q.n_<=4)/\(0<=q.ap_/\q.ap_<=7)/\b0V l q.n_=vA w.p_/\BP w.p_/\(-1<=w.bf_/\w.bf_<=4)/\(w.ar_=[]\/(q.n_=3/\(w.ar_=q.m_\/ ∃c∈l.j_,w.ar_=d0L c.m_)))
def O0w{l:d0G}{q:m0o}(hg: ∀c∈l.j_,0<=c.at_/\c.at_<=4){x0 x1:Int}{x2:List UInt8}{x4 x5 x6:Bool}{x7 x15 x16 x17 x18:List UInt8}{x8 x9 x10 x11 x12 x13 x14:Int}{x19 x21 x26 x27 x28 x29 x30 x31 x32 x33 x34 x35 x36 x37 x38}{x22 x23 x24 x25:List a0b}:Im (b0p x0 x1 x2 q.m_ x4 x5 x6 x7 x8 x9 x10 x11 x12 x13 x14 x15 x16 x17 x18 x19 l.j_ x21 x22 x23 x24 x25 x26 x27 x28 x29 x30 x31 x32 x33 x34 x35 x36 x37 x38<|-1) (λr=>r.1=jB->(r.2.1=q.m_\/ ∃c∈l.j_,r.2.1=d0L c.m_)/\(-1<=r.2.2/\r.2.2<=4)):=by
  unfold b0p;refine qB λy=>qE (qA dH)<|qD (λhi=> ?_) λ_=>qS;have hm:nth l.j_ y∈l.j_:=by have:=f0d.1 hi;exact b0J this.1 this.2
  have hd:=hg _ hm;exact qE (qH<|qA λ_=>⟨.inr ⟨_,hm,rfl⟩,by show-1<=(nth l.j_ y).at_;omega,hd.2⟩) (qB λb=>qA λ_=>⟨.inl rfl,by show-1<=(nth l.j_ y).at_;omega,hd.2⟩)
def F0z{l:d0G}{q:m0o}(hl:x0L l)(hg:s0l l):Im (f0z l q) (λr=>r.2=9\/(r.2=0/\WB l q r.1)):=by
  obtain⟨⟨p0,p1,p2,p3⟩,_,_,hs,_,hc⟩:=hl;unfold f0z;refine qG (λ_=>(0<=q.n_/\q.n_<=4)/\(0<=q.ap_/\q.ap_<=7)) (qC (p:=λb=>b=oA->(0<=q.n_/\q.n_<=4)/\(0<=q.ap_/\q.ap_<=7)) (qD (λ_=>qA dH) λe0=>qD (λ_=>qA dH) λe4=>qC (qQ<|G0J q.ap_) λb hb=>qA λh=>⟨⟨by have:=dFF e0;omega,by have:=dFF e4;omega⟩,hb<|nt h⟩) λb hb=>qD (λ_=>qA<|.inl rfl) λe=>qA<|hb e) λ_ hq=> ?_;refine qC (p:=λk:Int=>k=if q.n_=4 then 0 else q.n_) (qD (λe=>qA<|by rw[vB<|dTT e]) λe=>qA<|by rw[yB<|dFF e]) λk hk=> ?_;refine qC (p:=λs:T17=>b0V l q.n_=vA ⟨s.1,s.2.1,s.2.2.1,s.2.2.2.1,s.2.2.2.2.1,s.2.2.2.2.2.1,s.2.2.2.2.2.2.1,s.2.2.2.2.2.2.2.1,s.2.2.2.2.2.2.2.2.1,s.2.2.2.2.2.2.2.2.2.1,s.2.2.2.2.2.2.2.2.2.2.1,s.2.2.2.2.2.2.2.2.2.2.2.1,s.2.2.2.2.2.2.2.2.2.2.2.2.1,s.2.2.2.2.2.2.2.2.2.2.2.2.2.1,s.2.2.2.2.2.2.2.2.2.2.2.2.2.2.1,s.2.2.2.2.2.2.2.2.2.2.2.2.2.2.2.1,s.2.2.2.2.2.2.2.2.2.2.2.2.2.2.2.2⟩/\BP ⟨s.1,s.2.1,s.2.2.1,s.2.2.2.1,s.2.2.2.2.1,s.2.2.2.2.2.1,s.2.2.2.2.2.2.1,s.2.2.2.2.2.2.2.1,s.2.2.2.2.2.2.2.2.1,s.2.2.2.2.2.2.2.2.2.1,s.2.2.2.2.2.2.2.2.2.2.1,s.2.2.2.2.2.2.2.2.2.2.2.1,s.2.2.2.2.2.2.2.2.2.2.2.2.1,s.2.2.2.2.2.2.2.2.2.2.2.2.2.1,s.2.2.2.2.2.2.2.2.2.2.2.2.2.2.1,s.2.2.2.2.2.2.2.2.2.2.2.2.2.2.2.1,s.2.2.2.2.2.2.2.2.2.2.2.2.2.2.2.2⟩) ?_ (λs hp=> ?_)
  have cp:b0V l q.n_=(bif(yA<|k=0)then(jA (a0O l.S_ k l.d_.g_) λy15=>vA y15.1)else bif(yA<|k=1)then(jA (a0O l.S_ k l.d_.h_) λy21=>vA y21.1)else bif(yA<|k=2)then(jA (a0O l.S_ k l.d_.o_) λy27=>vA y27.1)else bif(yA<|k=3)then(jA (a0O l.S_ k l.d_.t_) λy33=>vA y33.1)else none):=by
    unfold b0V;rw[hk];by_cases e:q.n_=4;rw[dT e,vB e];rfl;rw[dF e,yB e];rfl
  rw[cp];refine qD (λe=> ?_) λe=> ?_;rw[e];exact qC (p:=λy=>a0O l.S_ k l.d_.g_=vA y/\BP y.1) (λy h=>⟨h,q0k p0 y h⟩) (λy h=>qA ⟨by rw[h.1];rfl,h.2⟩);rw[e];refine qD (λe=> ?_) λe=> ?_;rw[e];exact qC (p:=λy=>a0O l.S_ k l.d_.h_=vA y/\BP y.1) (λy h=>⟨h,q0k p1 y h⟩) (λy h=>qA ⟨by rw[h.1];rfl,h.2⟩);rw[e];refine qD (λe=> ?_) λe=> ?_;rw[e];exact qC (p:=λy=>a0O l.S_ k l.d_.o_=vA y/\BP y.1) (λy h=>⟨h,q0k p2 y h⟩) (λy h=>qA ⟨by rw[h.1];rfl,h.2⟩);rw[e];refine qD (λe=> ?_) λe=>qS;rw[e];exact qC (p:=λy=>a0O l.S_ k l.d_.t_=vA y/\BP y.1) (λy h=>⟨h,q0k p3 y h⟩) (λy h=>qA ⟨by rw[h.1];rfl,h.2⟩);refine qG (λc:List Int×Int=>(-1<=c.2/\c.2<=4)/\(c.1=[]\/(q.n_=3/\(c.1=q.m_\/ ∃x∈l.j_,c.1=d0L x.m_)))) (qC (p:=λr:Bool×List Int×Int=>r.1=oA->(-1<=r.2.2/\r.2.2<=4)/\(r.2.1=[]\/(q.n_=3/\(r.2.1=q.m_\/ ∃x∈l.j_,r.2.1=d0L x.m_)))) (qD (λe3=>qC (O0w hg.1) λy hy=>qD (λ_=>qA dH) λe=>qE (qB λ_=>qA λ_=>⟨(hy<|nt e).2, .inr ⟨dTT e3,(hy<|nt e).1⟩⟩)<|qA λ_=>⟨(hy<|nt e).2, .inr ⟨dTT e3,(hy<|nt e).1⟩⟩) λ_=>qE (qB λ_=>qA λ_=>⟨⟨by show(-1:Int)<= -1;decide,by show(-1:Int)<=4;decide⟩, .inl rfl⟩)<|qA λ_=>⟨⟨by show(-1:Int)<= -1;decide,by show(-1:Int)<=4;decide⟩, .inl rfl⟩) λr hr=>qD (λ_=>qA<|.inl rfl) λe=>qA<|hr e) λc hc'=>qA<|.inr ⟨rfl,rfl,rfl,hq.1,hq.2,hp.1,hp.2,hc'.1,hc'.2⟩
def D0L{l:d0G}{m:Int}(hl:x0L l)(hg:s0l l)(hm:m<=100000):Im (e0z l m) (λr=>0<=r.1/\(r.1=0\/r.1<=m)):=by
  obtain⟨_,_,_,_,_,hc⟩:=hl;unfold e0z;refine qG (λ_=>True) (qT (λ_=>True) trivial λs _=>qE (qD (λhi=> ?_) λ_=>qS)<|qA trivial) λ_ _=>qA ⟨ai _, .inl rfl⟩;have hm2:nth l.c_ s∈l.c_:=by have:=f0d.1 hi;exact b0J this.1 this.2
  have h2:=hg.2 _ hm2;have h6:=hc _ hm2;refine qD (λe=>qC (D0i dA) λy hy=> ?_) λ_=>qA trivial;have e:=dTT e;unfold l0g;rw[ah];refine qA ?_;show 0<=wA .i64 ((nth l.c_ s).ae_-y.1.w_)/\_;rw[w64 (n:=(nth l.c_ s).ae_-y.1.w_) dA dA];exact⟨dA, .inr<|by show(nth l.c_ s).ae_-y.1.w_<=m;omega⟩
def E0f{a b:Int}{d:a0V}(h:P a b d)(ha: -900<=a)(hb:b<=900)(hl:b<=a+1000):Im (g0U d) (λm=> -900<=m/\m<=max 1 b):=by
  unfold g0U;refine qC (B0O h dA dA hl) λm hm=>qA ?_;by_cases n:d.D_.length=0;rw[vB n]at hm;rw[w64 (n:=m+1) dA dA];omega;rw[yB n]at hm;have:=h.2.2 n;rw[w64 (n:=m+1) dA dA];omega
def D0u{l:d0G}{q:m0o}{w:c0Z}{a b:Int}{d:a0V}(hl:x0L l)(hg:s0l l)(hw:WB l q w)(h:P a b d)(ha: -100<=a)(hb:b<=150):Im (c0j w d) (λr=>r.2=0/\P a (max (b+1) (if q.n_=1 then-1 else 1)) r.1):=by
  obtain⟨rfl,rfl,w3,w4,w5,w6,w7,w8⟩:=hw
  have bp: ∀ {a b:Int} {d:a0V},P a b d-> -100<=a->b<=160->Im (a0K w d) (λr=>r.2=0/\P a (max (b+1) 1) r.1):=λh ha hb=>by
    unfold a0K;exact qC (G0n h dA dA w6.1 w7 w4) (λr hr=>qA ⟨hr.1,hr.2.1⟩)
  have z: ∀ {y:a0V×Int} {t e:Option (a0V×Int)} {p:a0V×Int->Prop},y.2=0->Im e p->Im (bif(yA<|¬y.2=0)then t else e) p:=λh k=>qD (λe=>absurd h<|dTT e) (λ_=>k)
  unfold c0j;refine qD (λe=>qC (bp h ha dA) λr hr=>qA ⟨hr.1,by rw[yB<|by have:=dTT e;omega];exact hr.2⟩) (λ_=>qD (λe=>qC (p:=λr=>r.2=0/\P a (max (b+1) (if w.ac_.n_=1 then-1 else 1)) r.1) ?_ λr hr=>qA hr) λe1=>qD (λ_=>qC (bp h ha dA) λr hr=>qA ⟨hr.1,by rw[yB<|dFF e1];exact hr.2⟩) λ_=>qD (λ_=>qC (bp h ha dA) λr hr=>qA ⟨hr.1,by rw[yB<|dFF e1];exact hr.2⟩) λ_=>qH<|qC (p:=λr=>r.2=0/\P a (max (b+1) (if w.ac_.n_=1 then-1 else 1)) r.1) ?_ λr hr=>qA hr);rw[vB<|dTT e];unfold c0v;exact qC (q0U (n:=2) h dA dA dA dA) λr hr=>z hr.1<|qC (bp hr.2.1 dA dA) λr2 h2=>z h2.1<|qC (q0U (n:= -2) h2.2 dA dA dA dA) λr3 h3=>qA ⟨h3.1,h3.2.1.mono dA dA⟩;rw[yB<|dFF e1];unfold b0Q;refine qC (E0f h dA dA dA) λm hm=>qC (D0L hl hg dA) λy hy=>qC (E0f h dA dA dA) λm2 hm2=> ?_;rw[w64 (n:=m2-y.1) dA dA]
  have k:1<=i0E 2 (m2-y.1)/\i0E 2 (m2-y.1)<=200:=⟨bf dG (N0u (a:=2) (b:=m2-y.1)).1,q0t dG dA⟩
  exact qC (J0f h dA dA k w4) λr hr=>qA ⟨hr.1,hr.2.mono (ai _) dA⟩
def L0z{w:c0Z}{d:a0V}:Im (c0B w d) (λg=>0<=g/\g<=2):=by
  unfold c0B;exact qE (qA ⟨dG,dG⟩)<|qE (qA ⟨dG,dG⟩)<|qA ⟨dG,dG⟩
def C0E{w:c0Z}{a b m wd X M:Int}{r:a0V}(h:P a b r)(ha: -400<=a)(hb:b<=400)(hab:a<=b)(hp:BP w.p_)(hg:w.bf_<=4)(hA:A m w.p_ w.l_.S_ w.ar_)(hM: -M<=a/\b<=M+1/\M<=1000/\0<=M)(hw:w.p_.U_=0\/e0Y w.p_=vA wd)(hwd:0<=wd/\wd<=20000000)(x1:2*max 40 b+41+max 0 (0-a)+m<=X)(x2:85+(b-a)+M+m<=X)(x3:wd<=X)(x4:X<=100000000):Im (a0Z w r) (λo=>o.2=0/\(o.1.length:Int)<=X):=by
  unfold a0Z;refine qC L0z λg hg'=>qC (p:=λa=>(a.e_.length:Int)+a.i_.length<=m) (λa e=>hA g a hg'.1 hg'.2 e) λf hf=>qC (I0T (M:=M) h ha hb hab hp.1 hg hp.2.1 hM) λo ho=>qC (L0S hw hwd ?_ x3 x4) λr hr=>qA ⟨rfl,hr⟩;by_cases e:0<w.p_.k_;have:=ho.2 e;omega;have:=ho.1 dA;omega
def B0V{w:c0Z}{a b m wd X M:Int}{r:a0V}(h:P a b r)(ha: -300<=a)(hb:b<=300)(hab:a<=b)(hp:BP w.p_)(hg:w.bf_<=4)(hA:A m w.p_ w.l_.S_ w.ar_)(hM: -M<=a+2/\b+2<=M+1/\M<=1000/\0<=M)(hw:w.p_.U_=0\/e0Y w.p_=vA wd)(hwd:0<=wd/\wd<=20000000)(x1:2*max 40 (b+2)+41+max 0 (0-(a+2))+m<=X)(x2:85+(b-a)+M+m<=X)(x3:wd<=X)(x4:X<=100000000):Im (b0P w r) (λo=>o.2=0/\(o.1.length:Int)<=X):=by
  unfold b0P;exact qC (q0U (n:=2) h dA dA dA dA) λy hy=>qD (λe=>absurd hy.1<|dTT e) λ_=>qC (C0E (M:=M) hy.2.1 dA dA dA hp hg hA hM hw hwd x1 dA x3 x4) λo ho=>qA ho
def zP:a0h:=⟨[],[],[],[],oA,0,0,0,0,0,0,0,0,0,oA,0,0⟩
def G0t{s:b0I}:Im (b0v s ⟨0,0,[]⟩) (λr=>r.1=zP):=by
  unfold b0v;exact qB (λ_=>qG (λ_=>False) (qC (p:=λb=>b=jB) (qE (qA rfl)<|qD (λ_=>qA rfl) λe=>absurd (dFF e)<|by show¬ ¬(0:Int)<2;decide) λb hb=>qD (λ_=>qA rfl) λe=>by rw[hb]at e;cases e) λ_ h=>h.elim)
def v0u(s:b0I): ∀l:List a0b,(l.flatMap<|row s []).length<=l.length
  | []=>by simp
  |t::l=>by
    have ih:=v0u s l
    have h:(row s [] t).length<=1:=by
      unfold row
      repeat' split
      all_goals simp
    rw[aD,az,aU];omega
def zA{s:b0I}{m:Int}(hm:0<=m):A (m+2) zP s []:=λg a _ _ e=>by
  have cp:CP zP:=⟨dG,λh=>by cases h⟩
  have lp:g0C zP 0:=⟨ak _,ak _,ak _,ak _⟩
  obtain⟨y,e1,_,e2,e3⟩:=F0H cp ⟨dG,dG,dG,dG⟩ a e;have k:=z0X cp lp y e1;have r1:=v0u s y.1;have r2:=v0u s y.2;rw[e2,e3];omega
def F0p{l:d0G}{w:c0Z}{n:Int}{o:g0b}{m:Int}(hl:w.l_=l)(hm:0<=m)(hA: ∀c∈l.c_,∀y,b0v l.S_ c=vA y->A m y.1 l.S_ []):Im (c0k w n o) (λp=>A (m+2) p l.S_ []):=by
  subst hl;unfold c0k;refine qB λ_=>qB λ_=>qC (p:=λs:Int×Int×List UInt8=>(⟨s.1,s.2.1,s.2.2⟩:i0P)=⟨0,0,[]⟩\/(⟨s.1,s.2.1,s.2.2⟩:i0P)∈w.l_.c_) (qT (λs:Int×Int×Int×List UInt8=>(⟨s.2.1,s.2.2.1,s.2.2.2⟩:i0P)=⟨0,0,[]⟩\/(⟨s.2.1,s.2.2.1,s.2.2.2⟩:i0P)∈w.l_.c_) (.inl rfl) λs hs=>qE (qC (p:=λs:Int×Int×List UInt8=>(⟨s.1,s.2.1,s.2.2⟩:i0P)=⟨0,0,[]⟩\/(⟨s.1,s.2.1,s.2.2⟩:i0P)∈w.l_.c_) (qD (λhi=>qB λ_=>qE (qA<|.inr ?_)<|qA hs) λ_=>qS) λs hs=>qA hs)<|qA hs) λs hs=> ?_;have:=f0d.1 hi;exact b0J this.1 this.2;rcases hs with e|e;rw[e];exact qC G0t (λy hy=>qA<|by rw[hy];exact zA hm);exact qC (p:=λy=>b0v w.l_.S_ ⟨s.1,s.2.1,s.2.2⟩=vA y) (λ_ e=>e) λy hy=>qA<|(hA _ e y hy).mono dA
def F0Z{w:c0Z}{a b m X:Int}{r:a0V}(hl:x0L w.l_)(hg:s0l w.l_)(h:P a b r)(ha: -150<=a)(hb:b<=200)(hab:a<=b)(hm:0<=m)(hc:w.ar_=[])(hA:A m w.p_ w.l_.S_ [])(hS: ∀c∈w.l_.c_,∀y,b0v w.l_.S_ c=vA y->A m y.1 w.l_.S_ [])(x1:2*max 1 b+41+max 0 (max 1 b-a)+max 0 (0-a)+m+2<=X):Im (c0T w r) (λo=>o.2=0/\(o.1.length:Int)<=X):=by
  unfold c0T;refine qC (E0f h dA dA dA) λg hg'=>qC (D0L hl hg dA) λy hy=> ?_;rw[w64 (n:=0-y.1) dA dA];refine qC (q0U (n:=0-y.1) h dA dA dA dA) λz hz=>qD (λe=>absurd hz.1<|dTT e) λ_=> ?_;refine qC (y0b (L:=1) hz.2.1 dA dA dA ⟨⟨dE,dE⟩,dE,⟨dE,dE⟩,dE,dE,dE⟩ dG ⟨dE,dG,dG⟩ λh=>absurd h dE) λf hf=> ?_;obtain⟨f1,f2⟩:=hf.1 dE;refine qC (z0m dA) λu hu=>qC (p:=λs:List Int=>(s.length:Int)<=2*max 1 b+41+max 0 (max 1 b-a)+max 0 (0-a)) (qE (qH<|qC (A0P dA) λv hv=>qH<|qA dD)<|qA dA) λv hv=>qC (p:=λs:T17=>A (m+2) ⟨s.1,s.2.1,s.2.2.1,s.2.2.2.1,s.2.2.2.2.1,s.2.2.2.2.2.1,s.2.2.2.2.2.2.1,s.2.2.2.2.2.2.2.1,s.2.2.2.2.2.2.2.2.1,s.2.2.2.2.2.2.2.2.2.1,s.2.2.2.2.2.2.2.2.2.2.1,s.2.2.2.2.2.2.2.2.2.2.2.1,s.2.2.2.2.2.2.2.2.2.2.2.2.1,s.2.2.2.2.2.2.2.2.2.2.2.2.2.1,s.2.2.2.2.2.2.2.2.2.2.2.2.2.2.1,s.2.2.2.2.2.2.2.2.2.2.2.2.2.2.2.1,s.2.2.2.2.2.2.2.2.2.2.2.2.2.2.2.2⟩ w.l_.S_ []) (qE (qB λ_=>qC (F0p rfl hm hS) λ_ h=>qA h)<|qA<|hA.mono dA) λs hs=>qC L0z λg hg2=> ?_;rw[hc];exact qC (p:=λa=>(a.e_.length:Int)+a.i_.length<=m+2) (λa e=>hs g a hg2.1 hg2.2 e) (λq hq=>qH<|qH<|qA ⟨rfl,by show(((q.e_++v)++q.i_).length:Int)<=X;simp;omega⟩)
def H0z{l:List Int}(hl:l.length<=4294967296):Im (j0G l) (λr=>r.length<=6*l.length):=by
  unfold j0G;refine qB (λ_=>qC (p:=λr:List Int=>r.length<=6*l.length) (qT (λk:Int×List Int=>0<=k.1/\(k.2.length:Int)<=6*k.1/\k.1<=l.length) ⟨ai _,dE,dE⟩ λk hk=>qD (λe=> ?_) λe=>qA (show k.2.length<=_ by omega)) λ_ h=>qA h);have e:=dTT e;refine qC (p:=λr:List Int=>(r.length:Int)<=6*k.1+6) (qH ?_) (λr hr=>qA ?_)
  · repeat' (first|refine qE (qH<|qA dD) ?_|exact qH<|qA dD)
  show 0<=wA .i64 (k.1+1)/\(r.length:Int)<=6*wA .i64 (k.1+1)/\wA .i64 (k.1+1)<=l.length;rw[w64 (n:=k.1+1) dA dA];exact⟨dA,dA,dA⟩
def O0x{l:d0G}{q:m0o}{w:c0Z}{m:Int}(hw:WB l q w)(ha:arP l q.n_ m)(hq:q.m_.length<=6100):A (m+q.m_.length) w.p_ w.l_.S_ w.ar_:=by
  obtain⟨rfl,rfl,w3,w4,w5,w6,w7,w8⟩:=hw;obtain⟨a1,a2,a3⟩:=ha _ w5;rcases w8 with e|⟨e3,e|⟨c,hc,e⟩⟩;rw[e];exact a1.mono dA;rw[e];intro g a h0 h2 ea;obtain⟨b,hb,_⟩:=w0r (p:=w.p_) (s:=w.l_.S_) (g:=g) (cur:=[]) w6.len dE;have:=N0g w6.2.2.1 w6.len hb ea;have:=a1 g b h0 h2 hb;omega;rw[e];exact(a2 e3 c hc).mono dA
def C0B{l:d0G}{q:m0o}{w:c0Z}{a n m wd X:Int}{r:a0V}(hl:x0L l)(hg:s0l l)(hw:WB l q w)(h:P a (max (a+n+1) (if q.n_=1 then-1 else 1)) r)(ha: -60<=a/\a<=60)(hn:0<=n/\n<=40)(har:arP l q.n_ m)(hwi:wiP l q.n_ wd)(hm:0<=m/\m<=20000000)(hwd:0<=wd/\wd<=20000000)(hq:q.m_.length<=50)(x1:2*n+3*max a (0-a)+130+m+q.m_.length<=X)(x3:wd<=X)(x4:X<=100000000):Im (c0i w r) (λo=>o.2=0/\(o.1.length:Int)<=X):=by
  have hA:=O0x hw har dA;obtain⟨rfl,rfl,w3,w4,w5,w6,w7,w8⟩:=hw;have pad:w.ac_.n_≠4->w.p_.U_=0\/e0Y w.p_=vA wd:=λh4=>(hwi _ w5).resolve_left h4
  have wh:w.ac_.n_≠1->w.ac_.n_≠4->Im (a0Z w r) (λo=>o.2=0/\(o.1.length:Int)<=X):=λe1 e4=>by
    rw[yB e1]at h;exact C0E (M:=n+max a (0-a)+1) h dA dA dA w6 w7.2 hA ⟨dA,dA,dA,dA⟩ (pad e4) hwd dA dA x3 x4
  unfold c0i;refine qD (λe=>qC (wh (by have:=dTT e;omega)<|by have:=dTT e;omega) λ_ h=>qA h) (λ_=>qD (λe=>qC (p:=λo:List Int×Int=>o.2=0/\(o.1.length:Int)<=X) ?_ λ_ h=>qA h) λ_=>qD (λe=>qC (wh (by have:=dTT e;omega)<|by have:=dTT e;omega) λ_ h=>qA h) λ_=>qD (λe=>qC (wh (by have:=dTT e;omega)<|by have:=dTT e;omega) λ_ h=>qA h) λ_=>qD (λe=>qC (p:=λo:List Int×Int=>o.2=0/\(o.1.length:Int)<=X) ?_ λ_ h=>qA h) λ_=>qS);have e:=dTT e;rw[vB e]at h;exact B0V (M:=n+max a (0-a)+3) h dA dA dA w6 w7.2 hA ⟨dA,dA,dA,dA⟩ (pad dA) hwd dA dA x3 x4;have e:=dTT e;rw[yB dA]at h;obtain⟨a1,_,a3⟩:=har _ w5;have hc:w.ar_=[]:=w8.resolve_right (λk=>by have:=k.1;omega);exact F0Z (m:=m) hl hg h dA dA dA hm.1 hc a1 (a3 e) dA
def J0B{l:d0G}{q:m0o}{d:a0V}{m wd X:Int}(hl:x0L l)(hg:s0l l)(h:P d.E_ (d.E_+d.D_.length) d)(ha: -60<=d.E_/\d.E_<=60)(hn:d.D_.length<=40)(har:arP l q.n_ m)(hwi:wiP l q.n_ wd)(hm:0<=m/\m<=20000000)(hwd:0<=wd/\wd<=20000000)(hq:q.m_.length<=50)(x1:2*(d.D_.length:Int)+3*max d.E_ (0-d.E_)+130+m+q.m_.length<=X)(x3:wd<=X)(x4:X<=100000000):Im (f0A l q d) (λr=>(r.2=9\/r.2=0)/\(r.1.length:Int)<=X):=by
  unfold f0A;refine qC (F0z hl hg) λw hw=>qD (λe=>qA ⟨.inl<|hw.resolve_right λk=>dTT e k.1,dD⟩) λe=> ?_;have e:=dFF e;have hw:=(hw.resolve_left λk=>e dA).2;exact qC (D0u hl hg hw h dA dA) λr hr=>qD (λe=>absurd hr.1<|dTT e) λ_=>qC (C0B (n:=d.D_.length) hl hg hw hr.2 ha dA har hwi hm hwd hq x1 x3 x4) λo ho=>qA ⟨.inr ho.1,ho.2⟩
def H0w{l:d0G}{q:m0o}{d:a0V}{m wd X:Int}(hl:x0L l)(hg:s0l l)(h:P d.E_ (d.E_+d.D_.length) d)(ha: -60<=d.E_/\d.E_<=60)(hn:d.D_.length<=40)(har:arP l q.n_ m)(hwi:wiP l q.n_ wd)(hm:0<=m/\m<=20000000)(hwd:0<=wd/\wd<=20000000)(hq:q.m_.length<=50)(x1:2*(d.D_.length:Int)+3*max d.E_ (0-d.E_)+130+m+q.m_.length<=X)(x3:wd<=X)(x4:X<=100000000):Im (c0G l q d) (λr=>(r.2=9\/r.2=0)/\(r.1.length:Int)<=if q.al_ then X*6 else X):=by
  unfold c0G;refine qC (J0B hl hg h ha hn har hwi hm hwd hq x1 x3 x4) (λy hy=>qC (p:=λr:List Int=>(r.length:Int)<=if q.al_ then X*6 else X) (qC (p:=λb=>b=jB->q.al_=jB) (qE (qA id)<|qA dH) λb hb=>qD (λe=>qC (H0z<|by have:=hy.2;omega) λr hr=>qA ?_) λ_=>qA ?_) λ_ h=>qA ⟨hy.1,h⟩);have:=hy.2;rw[vB<|hb e];omega
  · have:=hy.2
    split<;>omega
def N0Q{l:List Int}{f r:Int}(hl:l.length<=1300000000)(hf:0<=f/\f<=100000000000)(hr:0<=r/\r<=100000000000):Tot (s0r ⟨f,r,[]⟩ l) (λo=>(l.length<=f->l.length<=r->o=(⟨f-l.length,r-l.length,l⟩,0))/\(f<l.length->l.length<=r->o.2=4)/\(l.length<=f->r<l.length->o.2=5)):=by
  unfold s0r;rw[I0g dA,ah];refine tJ (tW (λs:Int×Int×Int×List Int=>s.1) l.length (λs=>s.2.1=f-s.1/\0<=s.2.1/\s.2.2.1=r-s.1/\0<=s.2.2.1/\s.2.2.2=l.take s.1.toNat) dA ⟨⟨by show f=f-0;omega,hf.1,by show r=r-0;omega,hr.1,by show []=l.take 0;simp⟩,by show(0:Int)<=0;decide,by show(0:Int)<=_;omega⟩ (λs hs h0 h1=>tY (dT h1)<|tY (a0c h0 h1) ?_) λs hs e=>tN (dF dA)<|tR (show Tot _ _ from tR ?_));obtain⟨i1,i2,i3,i4,i5⟩:=hs;unfold m0N;have hlen:(l.take s.1.toNat).length=s.1.toNat:=by rw[aE];omega
  by_cases c:s.2.1<1;rw[show(yA<|(⟨s.2.1,s.2.2.1,s.2.2.2⟩:k0R).bc_<1)=jB from dT c]
  exact tB (p:=λy:k0R×Int=>y=(⟨0,s.2.2.1,s.2.2.2⟩,4)) (tR rfl) (λy hy=>by
    subst hy
    exact tY (dT<|by show¬(4:Int)=0;decide)<|tR ⟨λh=>absurd h dA,λ_ _=>rfl,λh=>absurd h dA⟩)
  rw[show(yA<|(⟨s.2.1,s.2.2.1,s.2.2.2⟩:k0R).bc_<1)=oA from dF c];have w:wA .i64 ((⟨s.2.1,s.2.2.1,s.2.2.2⟩:k0R).bc_-1)=s.2.1-1:=w64 (n:=s.2.1-1) dA dA;rw[w];refine tB (p:=λy:k0R×Int=>y=(⟨s.2.1-1,s.2.2.1,s.2.2.2⟩,0)) (tR rfl) λy hy=> ?_;subst hy;refine tN (dF<|by show¬ ¬(0:Int)=0;decide)<|tI (λe=> ?_) λe=> ?_;have e:s.2.2.1<=0:=dTT e;exact tR ⟨λ_ h=>absurd h dA,λ_ h=>absurd h dA,λ_ _=>rfl⟩;have e: ¬s.2.2.1<=0:=dFF e;refine tY (a0f<|by show s.2.2.2.length+1<=_;rw[i5,hlen];omega)<|tR ?_;have w1:wA .i64 (s.2.2.1-1)=s.2.2.1-1:=w64 dA dA;rw[nxn h0 (bD h1) dA];show(s.2.1-1=f-(s.1+1)/\0<=s.2.1-1/\wA .i64 (s.2.2.1-1)=r-(s.1+1)/\0<=wA .i64 (s.2.2.1-1)/\s.2.2.2++ [nth l s.1]=l.take (s.1+1).toNat)/\s.1+1=s.1+1;rw[w1,i5,C0W h0 h1];exact⟨⟨dA,dA,dA,dA,rfl⟩,rfl⟩;obtain⟨i1,i2,i3,i4,i5⟩:=hs;have i5:s.2.2.2=l:=by rw[i5,e];simp
  refine⟨λ_ _=> ?_,λh=>absurd h dA,λ_ h=>absurd h dA⟩;show((⟨s.2.1,s.2.2.1,s.2.2.2⟩:k0R),(0:Int))=_;rw[i5,i1,i3,e]
def G0z{c:w0x}{q:m0o}{d:a0V}{f r:Int}{o:List Int×Int}(hd:d.D_.length<=40)(hf:0<=f/\f<=100000000000)(hr:0<=r/\r<=100000000000)(ho:c0G c.L_ q d=vA o)(hl:o.1.length<=1200000000):
    Tot (j0w c q d f r) (λy=>(o.2≠0->y.2=o.2/\y.1.af_=[])/\(o.2=0->((d.D_.length:Int)+1+o.1.length<=f->o.1.length<=r->y=(⟨f-(d.D_.length+1)-o.1.length,r-o.1.length,o.1⟩,0))/\(f<(d.D_.length:Int)+1+o.1.length->o.1.length<=r->y.2=4)/\((d.D_.length:Int)+1+o.1.length<=f->r<o.1.length->y.2=5))):=by
  unfold j0w v0h s0M;rw[dF (dA: ¬f<0),dF (dA: ¬r<0),w64 (n:=(d.D_.length:Int)+1) dA dA];refine tB (p:=λy:k0R×Int=>y=(⟨f,r,[]⟩,0)) (tR rfl) λy hy=> ?_;subst hy;refine tN (dF<|by show¬ ¬(0:Int)=0;decide) ?_;rw[ho];refine tB (p:=λy=>y=o) (tR rfl) λy hy=> ?_;subst hy;refine tI (λe=>tR ⟨λ_=>⟨rfl,rfl⟩,λh=>absurd h<|dTT e⟩) λe=> ?_;have e:y.2=0:=by have:=dFF e;omega
  have ow:=I0g (f:=f) (r:=r) (k:=0) dA;rw[show n0W _ 0=vA ⟨f,r,[]⟩from ow,ah,dF (dA: ¬(d.D_.length:Int)+1<0)];unfold m0N;by_cases c:f<d.D_.length+1;rw[show(yA<|(⟨f,r,[]⟩:k0R).bc_<(d.D_.length:Int)+1)=jB from dT c];refine tB (p:=λz:k0R×Int=>z=(⟨0,r,[]⟩,4)) (tR rfl) λz hz=> ?_;subst hz;exact tY (dT<|by show¬(4:Int)=0;decide)<|tR ⟨λh=>absurd e h,λ_=>⟨λh=>absurd h dA,λ_ _=>rfl,λh=>absurd h dA⟩⟩;rw[show(yA<|(⟨f,r,[]⟩:k0R).bc_<(d.D_.length:Int)+1)=oA from dF c];have w:wA .i64 ((⟨f,r,[]⟩:k0R).bc_-((d.D_.length:Int)+1))=f-(d.D_.length+1):=w64 (n:=f-(d.D_.length+1)) dA dA;rw[w];refine tB (p:=λz:k0R×Int=>z=(⟨f-(d.D_.length+1),r,[]⟩,0)) (tR rfl) λz hz=> ?_;subst hz;refine tN (dF<|by show¬ ¬(0:Int)=0;decide)<|tB (N0Q dA ⟨dA,dA⟩ hr) λp hp=>tR ⟨λh=>absurd e h,λ_=>⟨λh1 h2=>hp.1 dA h2,λh1 h2=>hp.2.1 dA h2,λh1 h2=>hp.2.2 dA h2⟩⟩
def sel(x:L0c)(k:Int):Int:=if k=0 then x.g_ else if k=1 then x.h_ else if k=2 then x.o_ else if k=3 then x.t_ else x.a4_
def bX(c:w0x)(q:m0o)(n e:Int):Int:=max (2*n+3*e+130+sel c.O_ q.n_+q.m_.length)<|sel c.P_ q.n_
def K0T{c:w0x}{q:m0o}{n e:Int}(hs:0<=q.n_/\q.n_<=4)(hn:0<=n/\n<=1000)(he:0<=e/\e<=1000)(hq:q.m_.length<=50)(hc:ofB c):Tot (l0m c q n e) (λb=>b=if q.al_ then bX c q n e*6 else bX c q n e):=by
  have key: ∀m w:Int,inB m->inB w-> ∀X,X=max (2*n+3*e+130+m+q.m_.length) w->Tot (jA (bif q.al_ then(vA<|wA .i64<|(i0E (wA .i64<|(wA .i64<|(wA .i64<|(wA .i64<|(wA .i64<|2*n)+(wA .i64<|3*e))+130)+m)+(q.m_.length:Int)) w)*6)else vA<|i0E (wA .i64<|(wA .i64<|(wA .i64<|(wA .i64<|(wA .i64<|2*n)+(wA .i64<|3*e))+130)+m)+(q.m_.length:Int)) w) λ(s42:Int)=>vA s42) (λb=>b=if q.al_ then X*6 else X):=λm w hm hw X hX=>by
    unfold inB at hm hw;rw[w64 (n:=2*n) dA dA,w64 (n:=3*e) dA dA,w64 (n:=2*n+3*e) dA dA,w64 (n:=2*n+3*e+130) dA dA,w64 (n:=2*n+3*e+130+m) dA dA,w64 (n:=2*n+3*e+130+m+q.m_.length) dA dA];have hM:i0E (2*n+3*e+130+m+q.m_.length) w=X:=by rw[hX];unfold i0E;split<;>omega
    rw[hM,w64 (n:=X*6) dA dA];refine tB (p:=λb=>b=if q.al_ then X*6 else X) (tI (λh=>tR ?_) λh=>tR ?_) λ_ h=>tR h;rw[vB h];rw[yB<|by rw[h];decide]
  obtain⟨⟨c0,c1,c2,c3,c4⟩,d0,d1,d2,d3,d4⟩:=hc;unfold l0m;refine tJ<|tB (p:=λb=>b=oA) (tN (dF dA)<|tR<|dF dA) λb hb=>tN hb<|tR (show Tot _ _ from ?_);refine tI (λh=>key _ _ c0 d0 _ ?_) λn0=>tI (λh=>key _ _ c1 d1 _ ?_) λn1=>tI (λh=>key _ _ c2 d2 _ ?_) λn2=>tI (λh=>key _ _ c3 d3 _ ?_) λn3=>tI (λh=>key _ _ c4 d4 _ ?_) λn4=> ?_;unfold bX sel;rw[dTT h];rfl;unfold bX sel;rw[dTT h];rfl;unfold bX sel;rw[dTT h];rfl;unfold bX sel;rw[dTT h];rfl;unfold bX sel;rw[dTT h];rfl;have:=dFF n0;have:=dFF n1;have:=dFF n2;have:=dFF n3;have:=dFF n4;omega
def N0e{l:d0G}{c:w0x}{k:Int}(hk:0<=k/\k<=4)(h:aw l c 0 c.O_.g_ c.P_.g_/\aw l c 1 c.O_.h_ c.P_.h_/\aw l c 2 c.O_.o_ c.P_.o_/\aw l c 3 c.O_.t_ c.P_.t_/\aw l c 4 c.O_.a4_ c.P_.a4_):aw l c k (sel c.O_ k) (sel c.P_ k):=by
  obtain⟨h0,h1,h2,h3,h4⟩:=h;have:k=0\/k=1\/k=2\/k=3\/k=4:=by omega
  rcases this with rfl|rfl|rfl|rfl|rfl;exact h0;exact h1;exact h2;exact h3;exact h4
def K0f{c:w0x}{k:Int}(h:ofB c):inB (sel c.O_ k)/\inB (sel c.P_ k):=by
  obtain⟨⟨c0,c1,c2,c3,c4⟩,d0,d1,d2,d3,d4⟩:=h;unfold sel
  repeat' split
  all_goals exact⟨by assumption,by assumption⟩
def t0W(a:L0m)(wa:I0P a):d0m a=vA true:=by
  obtain⟨wl,⟨_,_,_,ws,_⟩,⟨_,wd,_⟩,_,wm⟩:=wa
  have hu: ∀x∈a.D_.D_,0<=x:=λx hx=>by
    have:(yA (IntKind.u8.min<=x)&&yA (x<=IntKind.u8.max))=true:=wd.2 x hx;simp only[aa,decide_eq_true_eq]at this;exact this.1
  have key:Tot (d0m a) (λr=>r=jB):=by
    unfold d0m;rw[show h0G=vA jB from rfl,ah];obtain⟨n,on,hn⟩:=H0d wl (q:=a.Q_) (d:=a.D_) ws.1 wd.1;rw[on,ah]
    cases n with
    |false=>exact tR rfl
    |true=> ?_
    obtain⟨hL,hq,hd1,hd2,hd3⟩:=hn rfl;obtain⟨f1,f2,f3,f4,f5,f6⟩:=id hL;obtain⟨hg,hP⟩:=M0f hu dA f3 f5 _ on rfl;refine tJ (tB (p:=λb=>b=oA->(0<=a.X_/\a.X_<=100)/\1<=a.ax_) (tN rfl<|tI (λ_=>tR dH) λe0=>tI (λ_=>tR dH) λe1=>tR λe2=>⟨⟨by have:=dFF e0;omega,by have:=dFF e1;omega⟩,by have:=dFF e2;omega⟩) λb hb=>tI (λ_=>tR rfl) λe=>tR (show Tot _ _ from ?_));obtain⟨⟨m0,m1⟩,l1⟩:=hb e;obtain⟨c,oc,hcb,hcl⟩:=O0z f1 f2 f3 f4 f5 f6;have haw:=P0p hL c oc;obtain⟨o,ho,hlo⟩:=H0v (d:=a.D_) hL hq ⟨dA,dA,dA⟩;have ho':c0G c.L_ a.Q_ a.D_=vA o:=by rw[hcl];exact ho
    rw[oc,ah];refine tJ (tB (p:=λb=>(b=jB-> ¬(0<=a.Q_.n_/\a.Q_.n_<=4))/\(b=oA->0<=a.Q_.n_/\a.Q_.n_<=4)) (tI (λe=>tR ⟨λ_=>by have:=dTT e;omega,λh=>by cases h⟩) λe0=>tR ⟨λe=>by have:=dTT e;omega,λe=>⟨by have:=dFF e0;omega,by have:=dFF e;omega⟩⟩) λb hb2=>tI (λeb=> ?_) λeb=>tR (show Tot _ _ from ?_));have hs:=hb2.1 eb
    have o9:o.2=9:=by
      have hb0:Im (f0z a.L_ a.Q_) (λr=>r.2=9):=λr hr=>by
        rcases F0z hL hg r hr with h|h;exact h;exact absurd h.2.2.2.1 hs
      have:Im (c0G a.L_ a.Q_ a.D_) (λr=>r.2=9):=by
        unfold c0G f0A;exact qC (p:=λr:List Int×Int=>r.2=9) (qC hb0 λy hy=>qD (λ_=>qA hy) λe=>absurd (show¬y.2=0 by omega)<|dFF e) (λy hy=>qB λ_=>qA hy)
      exact this o ho
    obtain⟨y,hy,y1,_⟩:=G0z (c:=c) (q:=a.Q_) (d:=a.D_) (f:=10) (r:=10) hd1 ⟨dG,dG⟩ ⟨dG,dG⟩ ho' hlo;rw[hy,ah];have:=(y1 dA).1;exact tB (p:=λb=>b=jB) (tY rfl<|tR<|dT dA) (λb hb=>tR hb)
    · have hs:=hb2.2 eb
      have hE:i0E a.D_.E_ (0-a.D_.E_)=max a.D_.E_ (0-a.D_.E_):=by unfold i0E;split<;>omega
      rw[w64 (n:=(a.D_.D_.length:Int)+a.X_) dA dA,w64 (n:=0-a.D_.E_) dA dA,hE,w64 (n:=max a.D_.E_ (0-a.D_.E_)+a.X_) dA dA];obtain⟨bd,hbd,eb0⟩:=K0T (c:=c) (q:=a.Q_) (n:=a.D_.D_.length+a.X_) (e:=max a.D_.E_ (0-a.D_.E_)+a.X_) hs ⟨dA,dA⟩ ⟨dA,dA⟩ hq hcb;obtain⟨⟨iA0,iA1⟩,iW0,iW1⟩:=K0f (k:=a.Q_.n_) hcb;obtain⟨aA,aW⟩:=N0e hs haw;have hX:0<=bX c a.Q_ (a.D_.D_.length+a.X_) (max a.D_.E_ (0-a.D_.E_)+a.X_)/\bX c a.Q_ (a.D_.D_.length+a.X_) (max a.D_.E_ (0-a.D_.E_)+a.X_)<=30000000:=by unfold bX;omega
      obtain⟨g1,g2⟩:=H0w (X:=bX c a.Q_ (a.D_.D_.length+a.X_)<|max a.D_.E_ (0-a.D_.E_)+a.X_) hL hg hP ⟨hd2,hd3⟩ hd1 aA aW ⟨iA0,iA1⟩ ⟨iW0,iW1⟩ hq (by unfold bX;omega) (by unfold bX;omega) dA o ho;rw[<-eb0]at g2;have hbd0:0<=bd/\bd<=180000000:=by rw[eb0];split<;>omega
      unfold r0C;rw[hbd,ah,ah,w64 (n:=bd+(a.D_.D_.length+a.X_)) dA dA,w64 (n:=bd+(a.D_.D_.length+a.X_)+1) dA dA,ah];obtain⟨y,hy,y1,y2⟩:=G0z (c:=c) (q:=a.Q_) (d:=a.D_) (f:=bd+(a.D_.D_.length+a.X_)+1) (r:=bd) hd1 ⟨dA,dA⟩ ⟨dA,dA⟩ ho' hlo;rw[hy,ah];rcases g1 with g1|g1;obtain⟨z1,z2⟩:=y1 dA;exact tY (dT dA) (tB (p:=λb=>b=jB) (tY rfl<|tY (dT dA)<|tR<|by rw[z2];rfl) λb hb=>tR hb);have e:=(y2 g1).1 dA g2;subst e;refine tN (dF<|by show¬ ¬(0:Int)=0;decide) ?_;have w1:wA .i64 (bd+(a.D_.D_.length+a.X_)+1-(bd+(a.D_.D_.length+a.X_)+1-(a.D_.D_.length+1)-o.1.length))=a.D_.D_.length+1+o.1.length:=by rw[w64 dA dA];omega
      have w2:wA .i64 (wA .i64 ((a.D_.D_.length:Int)+1)+o.1.length)=a.D_.D_.length+1+o.1.length:=by rw[w64 (n:=(a.D_.D_.length:Int)+1) dA dA,w64 dA dA]
      have w3:wA .i64 (bd-o.1.length)=bd-o.1.length:=w64 dA dA;refine tJ (tB (p:=λb=>b=oA) (tN (dF (show¬(o.1.length:Int)>bd by omega))<|tN (dF ?_)<|tN (dF ?_)<|tR<|dF ?_) λb hb=>tN hb<|tR (show Tot _ _ from ?_));show¬ ¬wA .i64 (bd+(a.D_.D_.length+a.X_)+1-(bd+(a.D_.D_.length+a.X_)+1-(a.D_.D_.length+1)-o.1.length))=wA .i64 (wA .i64 ((a.D_.D_.length:Int)+1)+o.1.length);rw[w1,w2];exact λh=>h rfl
      show¬ ¬bd-(o.1.length:Int)=wA .i64 (bd-o.1.length);rw[w3];exact λh=>h rfl
      show¬bd+(a.D_.D_.length+a.X_)+1-(a.D_.D_.length+1)-o.1.length<0
      omega;show Tot (bif yA (a.ax_>(o.1.length:Int))then _ else _) _;refine tI (λ_=>tR rfl) λel=> ?_;have el:=dFF el;show Tot (jA (j0w c a.Q_ a.D_ (wA .i64<|wA .i64 (bd+(a.D_.D_.length+a.X_)+1-(bd+(a.D_.D_.length+a.X_)+1-(a.D_.D_.length+1)-o.1.length))-a.ax_) bd) λy232=>jA (j0w c a.Q_ a.D_ (bd+(a.D_.D_.length+a.X_)+1)<|wA .i64<|(o.1.length:Int)-a.ax_) λy235=>jA (bif jB then(bif(yA<|y232.2=4)then(vA<|yA<|y235.2=5)else vA oA)else vA oA) λ(s244:Bool)=>vA s244) _;rw[w1,w64 (n:=(a.D_.D_.length:Int)+1+o.1.length-a.ax_) dA dA,w64 (n:=(o.1.length:Int)-a.ax_) dA dA];obtain⟨u,hu1,_,u2⟩:=G0z (c:=c) (q:=a.Q_) (d:=a.D_) (f:=a.D_.D_.length+1+o.1.length-a.ax_) (r:=bd) hd1 ⟨dA,dA⟩ ⟨dA,dA⟩ ho' hlo;obtain⟨v,hv1,_,v2⟩:=G0z (c:=c) (q:=a.Q_) (d:=a.D_) (f:=bd+(a.D_.D_.length+a.X_)+1) (r:=o.1.length-a.ax_) hd1 ⟨dA,dA⟩ ⟨dA,dA⟩ ho' hlo;rw[hu1,ah,hv1,ah];have k4:=(u2 g1).2.1 dA dA;have k5:=(v2 g1).2.2 dA dA;exact tB (p:=λb=>b=jB) (tY rfl<|tY (dT k4)<|tR<|dT k5) (λb hb=>tR hb)
  obtain⟨r,h,rfl⟩:=key;exact h

def u0l{H : Type}: List (String × DataW H) := [("math/bits.deBruijn32tab", Rows.laid_math_bits_deBruijn32tab), ("math/bits.deBruijn64tab", Rows.laid_math_bits_deBruijn64tab), ("internal/strconv.uint64pow10", Rows.laid_internal_strconv_uint64pow10), ("exergue/class.noughts", Rows.laid_exergue_class_noughts)]
def H0E(os:Os)(args:Array Value):laidMetH Tryz.prog u0l ((World.doorLaid Tryz.prog 4000 os).forCall (λ_ _=>0) ⟨#[],args,[]⟩).memory:=
  laidMetH_of_parts3 (fuel:=8) (laidMet_of_run' 8 dB dB) dB dB

def H0u{W:World}(hL:laidMetH Tryz.prog u0l W):m0p W (KW W) λ_=>none:=λg cs h=>by
  have hh:(u0l (H:=Unit)).all (λx=>x.2.handleName?.isNone)=true:=by kernel_rfl
  by_cases h0:g=0;subst h0;obtain rfl:=au (show vA [.int .i32 48, .int .i32 1632, .int .i32 1776, .int .i32 1984, .int .i32 2406, .int .i32 2534, .int .i32 2662, .int .i32 2790, .int .i32 2918, .int .i32 3046, .int .i32 3174, .int .i32 3302, .int .i32 3430, .int .i32 3664, .int .i32 3792, .int .i32 3872, .int .i32 6112, .int .i32 6160, .int .i32 65296, .int .i32 120782]=vA cs from h);exact q0D hh hL (nm := "exergue/class.noughts") (t := 409) (e := 21) (n := 20) (k := .i32) [48, 1632, 1776, 1984, 2406, 2534, 2662, 2790, 2918, 3046, 3174, 3302, 3430, 3664, 3792, 3872, 6112, 6160, 65296, 120782] (by unfold u0l; simp only [aY, cM, or_false]; first | exact jL rfl | exact yF (jL rfl) | exact yF (yF<|jL rfl) | exact yF rfl | exact yF (yF rfl) | exact yF (yF<|yF rfl) | rfl) dB dB Tryz.underlying409 Tryz.underlying21 dB dB;by_cases h2:g=2;subst h2;obtain rfl:=au (show vA [.int .u64 1, .int .u64 10, .int .u64 100, .int .u64 1000, .int .u64 10000, .int .u64 100000, .int .u64 1000000, .int .u64 10000000, .int .u64 100000000, .int .u64 1000000000, .int .u64 10000000000, .int .u64 100000000000, .int .u64 1000000000000, .int .u64 10000000000000, .int .u64 100000000000000, .int .u64 1000000000000000, .int .u64 10000000000000000, .int .u64 100000000000000000, .int .u64 1000000000000000000, .int .u64 10000000000000000000]=vA cs from h);exact q0D hh hL (nm := "internal/strconv.uint64pow10") (t := 478) (e := 408) (n := 20) (k := .u64) [1, 10, 100, 1000, 10000, 100000, 1000000, 10000000, 100000000, 1000000000, 10000000000, 100000000000, 1000000000000, 10000000000000, 100000000000000, 1000000000000000, 10000000000000000, 100000000000000000, 1000000000000000000, 10000000000000000000] (by unfold u0l; simp only [aY, cM, or_false]; first | exact jL rfl | exact yF (jL rfl) | exact yF (yF<|jL rfl) | exact yF rfl | exact yF (yF rfl) | exact yF (yF<|yF rfl) | rfl) dB dB Tryz.underlying478 Tryz.underlying408 dB dB;by_cases h3:g=3;subst h3;obtain rfl:=au (show vA [.int .u8 0, .int .u8 1, .int .u8 28, .int .u8 2, .int .u8 29, .int .u8 14, .int .u8 24, .int .u8 3, .int .u8 30, .int .u8 22, .int .u8 20, .int .u8 15, .int .u8 25, .int .u8 17, .int .u8 4, .int .u8 8, .int .u8 31, .int .u8 27, .int .u8 13, .int .u8 23, .int .u8 21, .int .u8 19, .int .u8 16, .int .u8 7, .int .u8 26, .int .u8 12, .int .u8 18, .int .u8 6, .int .u8 11, .int .u8 5, .int .u8 10, .int .u8 9]=vA cs from h);exact q0D hh hL (nm := "math/bits.deBruijn32tab") (t := 484) (e := 5) (n := 32) (k := .u8) [0, 1, 28, 2, 29, 14, 24, 3, 30, 22, 20, 15, 25, 17, 4, 8, 31, 27, 13, 23, 21, 19, 16, 7, 26, 12, 18, 6, 11, 5, 10, 9] (by unfold u0l; simp only [aY, cM, or_false]; first | exact jL rfl | exact yF (jL rfl) | exact yF (yF<|jL rfl) | exact yF rfl | exact yF (yF rfl) | exact yF (yF<|yF rfl) | rfl) dB dB Tryz.underlying484 Tryz.underlying5 dB dB;by_cases h4:g=4;subst h4;obtain rfl:=au (show vA [.int .u8 0, .int .u8 1, .int .u8 56, .int .u8 2, .int .u8 57, .int .u8 49, .int .u8 28, .int .u8 3, .int .u8 61, .int .u8 58, .int .u8 42, .int .u8 50, .int .u8 38, .int .u8 29, .int .u8 17, .int .u8 4, .int .u8 62, .int .u8 47, .int .u8 59, .int .u8 36, .int .u8 45, .int .u8 43, .int .u8 51, .int .u8 22, .int .u8 53, .int .u8 39, .int .u8 33, .int .u8 30, .int .u8 24, .int .u8 18, .int .u8 12, .int .u8 5, .int .u8 63, .int .u8 55, .int .u8 48, .int .u8 27, .int .u8 60, .int .u8 41, .int .u8 37, .int .u8 16, .int .u8 46, .int .u8 35, .int .u8 44, .int .u8 21, .int .u8 52, .int .u8 32, .int .u8 23, .int .u8 11, .int .u8 54, .int .u8 26, .int .u8 40, .int .u8 15, .int .u8 34, .int .u8 20, .int .u8 31, .int .u8 10, .int .u8 25, .int .u8 14, .int .u8 19, .int .u8 9, .int .u8 13, .int .u8 8, .int .u8 7, .int .u8 6]=vA cs from h);exact q0D hh hL (nm := "math/bits.deBruijn64tab") (t := 485) (e := 5) (n := 64) (k := .u8) [0, 1, 56, 2, 57, 49, 28, 3, 61, 58, 42, 50, 38, 29, 17, 4, 62, 47, 59, 36, 45, 43, 51, 22, 53, 39, 33, 30, 24, 18, 12, 5, 63, 55, 48, 27, 60, 41, 37, 16, 46, 35, 44, 21, 52, 32, 23, 11, 54, 26, 40, 15, 34, 20, 31, 10, 25, 14, 19, 9, 13, 8, 7, 6] (by unfold u0l; simp only [aY, cM, or_false]; first | exact jL rfl | exact yF (jL rfl) | exact yF (yF<|jL rfl) | exact yF rfl | exact yF (yF rfl) | exact yF (yF<|yF rfl) | rfl) dB dB Tryz.underlying485 Tryz.underlying5 dB dB;exfalso
  have:H0t g=none:=by
    unfold H0t;split<;>first|rfl|(exfalso;simp_all)
  rw[show N0z g=H0t g from rfl,this]at h;cases h

def E0M{P:Program}(h:P.funcs.toList.any Func.goes=oA)(f:FuncId):P.goes f=false:=by
  have h1: ∀fn∈P.funcs.toList,fn.goes=false:=λfn hm=>by
    rw[List.any_eq_false]at h;simpa using h fn hm
  have h2:P.funcs.any Func.goes=false:=by rw[<-Array.any_toList];exact h
  unfold Program.goes;rw[h2,Bool.and_false,Bool.or_false,List.any_eq_false];intro g _
  cases hg:P.funcs[g]? with
  |none=>simp
  |some fn=>
    have hm:fn∈P.funcs.toList:=by
      rw[aO];exact Array.mem_of_getElem? hg
    simp[h1 fn hm]
def go0:Tryz.prog.funcs.toList.any Func.goes=false:=by kernel_rfl
def E0N(s:String):oA=Tryz.prog.goesFrom s:=by
  unfold Program.goesFrom
  cases Tryz.prog.funcNamed s with
  |none=>rfl
  |some f=>exact(E0M go0 f).symm
def K0k:oA=Rows.certBoundsRow.goesBy Tryz.prog:=by
  show oA=(Tryz.prog.goesFrom _||false);rw[Bool.or_false];exact E0N _
set_option maxRecDepth 100000 in
def r0F(os:Os)(started:os.Started)(H:Type)(enc:TypeId×Value->H):
    ReturnsInHanded {} Tryz.checked os 3 .any (λw args=>(Rows.certBoundsSpec.pre enc Tryz.prog Tryz.f3 [] oA w args/\laidMetH Tryz.prog u0l w)/\sizedMet enc Tryz.prog Tryz.f3 (OpenSpec.ofChange Rows.certBoundsSpec) oA w args) (Rows.certBoundsSpec.post enc Tryz.prog Tryz.f3 oA jB oA oA):=by
  refine returnsInHanded_of_change_and (C:=Tryz.checked) (X:=λw _=>laidMetH Tryz.prog u0l w) (λ_ _ _ hh h=>h.of_heap hh) Tryz.own started dB Tryz.func3
    (ChangeSpec.witness_shaped (enc:=enc) (C:=Tryz.checked) (os:=os) (X:=λw _=>laidMetH Tryz.prog u0l w) oA (World.doorLaid Tryz.prog 4000 os) #[.agg #[.string ⟨#[]⟩, .int .i32 0, .int .i32 0, .int .i32 0, .int .i32 0, .int .i32 0, .int .i32 0, .int .i32 0, .string ⟨#[]⟩, .string ⟨#[]⟩, .string ⟨#[]⟩, .string ⟨#[]⟩, .slice none 0 0, .slice none 0 0, .slice none 0 0, .int .i64 0, .int .i64 0, .string ⟨#[]⟩, .slice none 0 0, .bool oA, .bool oA, .bool oA, .bool oA, .slice none 0 0, .int .i64 0, .int .i64 0, .int .i64 0]] 8 rfl (World.shaped_of_RefB dB dB) dB dB dB (H0E os _)) ?_
  intro W base args ds gs before hval0 hW _ hsz0 hL _;have hsz:(DataW.weightsEach Tryz.prog (Tryz.f3.params.toList++Rows.certBoundsSpec.plain.varTypes Tryz.prog)<|ds++gs).all (· <=reachBytes)=true:=hsz0;clear hsz0;refine H0m (P:=Tryz.prog) (n:=5) (tb:=4) Tryz.laidOut Tryz.underlying4 rfl rfl dB (λh=> ?_) hval0 hW ?_<|H0u hL;rw[Tryz.params3]at h;obtain⟨d0,rfl⟩:=l1 h;exact⟨rfl,rfl,rfl⟩;intro ss hg hl1 hl2 hs;subst hg;rw[Tryz.params3]at hl1 hl2 hs hsz;obtain⟨d0,rfl⟩:=l1 hl1;obtain⟨s0,rfl⟩:=l1 hl2;obtain⟨cs0,rfl,hc0⟩:=v0n Tryz.underlying37<|hs 0 37 _ _ rfl rfl rfl;obtain⟨a0,rfl,w0⟩:=C0P (n:=0) _ _ hc0<|y0H hsz (j:=0) rfl rfl;exact⟨[],k0n<|t0W a0 w0⟩
def u0s:Rows.CertBoundsSaid:=
  OpenClaim.holds_of_wide 3 Tryz.f3 rfl rfl rfl rfl rfl rfl rfl ⟨rfl,rfl,rfl,rfl,rfl⟩ rfl rfl rfl rfl rfl dB Tryz.func3 qJ
    (jF dB) (by unfold Func.isWrapper;first|(rw[vB<|by decide+kernel];kernel_rfl)|(rw[yB<|by decide+kernel];exact⟨rfl,rfl⟩))
    (λos started H enc _=>r0F os started H enc)

theorem CertBounds_holds:Rows.CertBoundsCardSaid:=
  Claim7.holds_tied_plain_at .later [] [.data, .data, .data, .data] jB (jB, "c506bdc50fc89279cc88e470994b36ad160b1e57bffd288459224d24eab5d144") oA
    u0s (λ_ h=>by cases h) dB (λ_ h=>by cases h) certBounds_row_tie rfl ⟨rfl,rfl⟩ dB rfl
    (λf fn hf hfn=>by
      obtain rfl : f = 3 := au ((show Tryz.prog.funcNamed "exergue/exerguelaw20.CertBounds" = vA 3 by kernel_rfl).symm.trans hf) |>.symm;obtain rfl:fn=Tryz.f3:=(au<|Tryz.func3.symm.trans hfn).symm
      exact⟨dB,λj t ht=>by
        rw[Tryz.params3]at ht;have hm:t∈ [37]:=by simpa using Array.mem_of_getElem? ht
        have hall:([37].all λu=> !Tryz.prog.wantsStandIn u)=true:=by kernel_rfl
        exact(show Tryz.prog.wantsStandIn t=oA by simpa using List.all_eq_true.1 hall t hm)⟩)
    K0k

end Go.Proofs.YtafbfodcilkgmaaGreatDoor
