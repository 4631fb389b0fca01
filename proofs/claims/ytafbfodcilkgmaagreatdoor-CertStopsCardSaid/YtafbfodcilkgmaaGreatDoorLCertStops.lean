/-
  The statement CertStopsCard is proved: at every input the law answers true, and its input reads as it did. Conditions: those of the card (package variables are as the program text lays them).
-/
import Derived.Test.YtafbfodcilkgmaaGreatDoorJ
import Derived.Test.YtafbfodcilkgmaaGreatDoorP
import Derived.Test.YtafbfodcilkgmaaGreatDoorCards
import Derived.Test.YtafbfodcilkgmaaGreatDoorTie
import Derived.ProofKit
import Derived.SizedLaws
import Derived.LaidMore
import Derived.SevenTiedAt
set_option linter.all false
namespace Go.Proofs.YtafbfodcilkgmaaGreatDoor
open Go Go.Sy Go.RowKit Go.ChangeShapes Go.WideShapes Go.ChangeAt
open Go.IntKind renaming wrap->oA
open _root_.Option renaming bind->jB,some->qB
open _root_.Or renaming inl->vK,inr->yF
open _root_.Decidable renaming decide->wB
open _root_.Bool renaming false->vB,true->yB
set_option maxRecDepth 100000
set_option maxHeartbeats 4000000

theorem Tryz.own:ownKnob Tryz.prog.godebug=none:=by kernel_rfl
theorem Tryz.laidOut:laidOutB Tryz.prog=true:=by kernel_rfl

theorem K0O {α:Type} {l:List α} (h:l.length=2): ∃a0 a1,l=[a0,a1]:=by
  match l,h with
  | [a0,a1],_=>exact⟨a0,a1,rfl⟩
theorem D0E {α:Type} {l:List α} (h:l.length=3): ∃a0 a1 a2,l=[a0,a1,a2]:=by
  match l,h with
  | [a0,a1,a2],_=>exact⟨a0,a1,a2,rfl⟩
theorem K0N {α:Type} {l:List α} (h:l.length=4): ∃a0 a1 a2 a3,l=[a0,a1,a2,a3]:=by
  match l,h with
  | [a0,a1,a2,a3],_=>exact⟨a0,a1,a2,a3,rfl⟩
theorem H0e {α:Type} {l:List α} (h:l.length=7): ∃a0 a1 a2 a3 a4 a5 a6,l=[a0,a1,a2,a3,a4,a5,a6]:=by
  match l,h with
  | [a0,a1,a2,a3,a4,a5,a6],_=>exact⟨a0,a1,a2,a3,a4,a5,a6,rfl⟩
theorem I0H {α:Type} {l:List α} (h:l.length=15): ∃a0 a1 a2 a3 a4 a5 a6 a7 a8 a9 a10 a11 a12 a13 a14,l=[a0,a1,a2,a3,a4,a5,a6,a7,a8,a9,a10,a11,a12,a13,a14]:=by
  match l,h with
  | [a0,a1,a2,a3,a4,a5,a6,a7,a8,a9,a10,a11,a12,a13,a14],_=>exact⟨a0,a1,a2,a3,a4,a5,a6,a7,a8,a9,a10,a11,a12,a13,a14,rfl⟩
theorem I0G {α:Type} {l:List α} (h:l.length=27): ∃a0 a1 a2 a3 a4 a5 a6 a7 a8 a9 a10 a11 a12 a13 a14 a15 a16 a17 a18 a19 a20 a21 a22 a23 a24 a25 a26,l=[a0,a1,a2,a3,a4,a5,a6,a7,a8,a9,a10,a11,a12,a13,a14,a15,a16,a17,a18,a19,a20,a21,a22,a23,a24,a25,a26]:=by
  match l,h with
  | [a0,a1,a2,a3,a4,a5,a6,a7,a8,a9,a10,a11,a12,a13,a14,a15,a16,a17,a18,a19,a20,a21,a22,a23,a24,a25,a26],_=>exact⟨a0,a1,a2,a3,a4,a5,a6,a7,a8,a9,a10,a11,a12,a13,a14,a15,a16,a17,a18,a19,a20,a21,a22,a23,a24,a25,a26,rfl⟩
/-- Its numbers are numbers of their kinds, its lists no longer than memory. -/
def E0Q(x:c0J):Prop:=(WfI .i32) x.aa_/\(WfI .i32) x.k_/\(WfI .i32) x.v_/\(WfI .i32) x.s_/\(WfI .i32) x.n_/\(WfI .i32) x.u_/\(WfI .i32) x.e_
theorem C0p {n:Nat} :q0S Tryz.prog (n+2) 23 a0t E0Q:=λd cs h hs=>by
  have hl:cs.length=7:=(i0C Tryz.underlying23 h).trans cY;obtain⟨c0,c1,c2,c3,c4,c5,c6,rfl⟩:=H0e hl;obtain⟨p0,h0,z0⟩:=a0s Tryz.underlying23 h hs 0 21 [c0] cY;obtain⟨x0,e0,w0⟩: ∃x:Int,[c0]=(a0l .i32) x/\(WfI .i32) x:=(c0B Tryz.underlying21) p0 _ h0 z0;obtain⟨p1,h1,z1⟩:=a0s Tryz.underlying23 h hs 1 21 [c1] cY;obtain⟨x1,e1,w1⟩: ∃x:Int,[c1]=(a0l .i32) x/\(WfI .i32) x:=(c0B Tryz.underlying21) p1 _ h1 z1;obtain⟨p2,h2,z2⟩:=a0s Tryz.underlying23 h hs 2 21 [c2] cY;obtain⟨x2,e2,w2⟩: ∃x:Int,[c2]=(a0l .i32) x/\(WfI .i32) x:=(c0B Tryz.underlying21) p2 _ h2 z2;obtain⟨p3,h3,z3⟩:=a0s Tryz.underlying23 h hs 3 21 [c3] cY;obtain⟨x3,e3,w3⟩: ∃x:Int,[c3]=(a0l .i32) x/\(WfI .i32) x:=(c0B Tryz.underlying21) p3 _ h3 z3;obtain⟨p4,h4,z4⟩:=a0s Tryz.underlying23 h hs 4 21 [c4] cY;obtain⟨x4,e4,w4⟩: ∃x:Int,[c4]=(a0l .i32) x/\(WfI .i32) x:=(c0B Tryz.underlying21) p4 _ h4 z4;obtain⟨p5,h5,z5⟩:=a0s Tryz.underlying23 h hs 5 21 [c5] cY;obtain⟨x5,e5,w5⟩: ∃x:Int,[c5]=(a0l .i32) x/\(WfI .i32) x:=(c0B Tryz.underlying21) p5 _ h5 z5;obtain⟨p6,h6,z6⟩:=a0s Tryz.underlying23 h hs 6 21 [c6] cY;obtain⟨x6,e6,w6⟩: ∃x:Int,[c6]=(a0l .i32) x/\(WfI .i32) x:=(c0B Tryz.underlying21) p6 _ h6 z6;refine⟨⟨x0,x1,x2,x3,x4,x5,x6⟩, ?_,⟨w0,w1,w2,w3,w4,w5,w6⟩⟩;show [c0]++ [c1]++ [c2]++ [c3]++ [c4]++ [c5]++ [c6]=((a0l .i32) x0++(a0l .i32) x1++(a0l .i32) x2++(a0l .i32) x3++(a0l .i32) x4++(a0l .i32) x5++(a0l .i32) x6);rw[e0,e1,e2,e3,e4,e5,e6]
/-- Its numbers are numbers of their kinds, its lists no longer than memory. -/
def E0P(x:H0F):Prop:=WfT x.d_/\WfT x.f_/\WfT x.m_/\WfT x.t_
theorem C0o {n:Nat} :q0S Tryz.prog (n+2) 24 v0T E0P:=λd cs h hs=>by
  have hl:cs.length=4:=(A0L Tryz.underlying24 h).trans cY;obtain⟨c0,c1,c2,c3,rfl⟩:=K0N hl;obtain⟨p0,h0,z0⟩:=o0m Tryz.underlying24 h hs 0 [c0] cY cY;obtain⟨x0,e0,w0⟩: ∃x:List UInt8,[c0]=t0T x/\WfT x:=(g0y Tryz.underlying9) p0 _ h0 z0;obtain⟨p1,h1,z1⟩:=o0m Tryz.underlying24 h hs 1 [c1] cY cY;obtain⟨x1,e1,w1⟩: ∃x:List UInt8,[c1]=t0T x/\WfT x:=(g0y Tryz.underlying9) p1 _ h1 z1;obtain⟨p2,h2,z2⟩:=o0m Tryz.underlying24 h hs 2 [c2] cY cY;obtain⟨x2,e2,w2⟩: ∃x:List UInt8,[c2]=t0T x/\WfT x:=(g0y Tryz.underlying9) p2 _ h2 z2;obtain⟨p3,h3,z3⟩:=o0m Tryz.underlying24 h hs 3 [c3] cY cY;obtain⟨x3,e3,w3⟩: ∃x:List UInt8,[c3]=t0T x/\WfT x:=(g0y Tryz.underlying9) p3 _ h3 z3;refine⟨⟨x0,x1,x2,x3⟩, ?_,⟨w0,w1,w2,w3⟩⟩;show [c0]++ [c1]++ [c2]++ [c3]=(t0T x0++t0T x1++t0T x2++t0T x3);rw[e0,e1,e2,e3]
/-- Its numbers are numbers of their kinds, its lists no longer than memory. -/
def y0c(x:p0i):Prop:=(WfI .i64) x.am_/\WfT x.ax_
theorem C0j {n:Nat} :q0S Tryz.prog (n+2) 74 c0y y0c:=λd cs h hs=>by
  have hl:cs.length=2:=(i0C Tryz.underlying74 h).trans cY;obtain⟨c0,c1,rfl⟩:=K0O hl;obtain⟨p0,h0,z0⟩:=a0s Tryz.underlying74 h hs 0 3 [c0] cY;obtain⟨x0,e0,w0⟩: ∃x:Int,[c0]=(a0l .i64) x/\(WfI .i64) x:=(c0B Tryz.underlying3) p0 _ h0 z0;obtain⟨p1,h1,z1⟩:=a0s Tryz.underlying74 h hs 1 9 [c1] cY;obtain⟨x1,e1,w1⟩: ∃x:List UInt8,[c1]=t0T x/\WfT x:=(g0y Tryz.underlying9) p1 _ h1 z1;refine⟨⟨x0,x1⟩, ?_,⟨w0,w1⟩⟩;show [c0]++ [c1]=((a0l .i64) x0++t0T x1);rw[e0,e1]
/-- Its numbers are numbers of their kinds, its lists no longer than memory. -/
def y0b(x:p0h):Prop:=WfT x.Z_/\WfT x.x_/\(WfI .i64) x.bi_
theorem C0i {n:Nat} :q0S Tryz.prog (n+2) 77 c0x y0b:=λd cs h hs=>by
  have hl:cs.length=3:=(i0C Tryz.underlying77 h).trans cY;obtain⟨c0,c1,c2,rfl⟩:=D0E hl;obtain⟨p0,h0,z0⟩:=a0s Tryz.underlying77 h hs 0 9 [c0] cY;obtain⟨x0,e0,w0⟩: ∃x:List UInt8,[c0]=t0T x/\WfT x:=(g0y Tryz.underlying9) p0 _ h0 z0;obtain⟨p1,h1,z1⟩:=a0s Tryz.underlying77 h hs 1 9 [c1] cY;obtain⟨x1,e1,w1⟩: ∃x:List UInt8,[c1]=t0T x/\WfT x:=(g0y Tryz.underlying9) p1 _ h1 z1;obtain⟨p2,h2,z2⟩:=a0s Tryz.underlying77 h hs 2 3 [c2] cY;obtain⟨x2,e2,w2⟩: ∃x:Int,[c2]=(a0l .i64) x/\(WfI .i64) x:=(c0B Tryz.underlying3) p2 _ h2 z2;refine⟨⟨x0,x1,x2⟩, ?_,⟨w0,w1,w2⟩⟩;show [c0]++ [c1]++ [c2]=(t0T x0++t0T x1++(a0l .i64) x2);rw[e0,e1,e2]
/-- Its numbers are numbers of their kinds, its lists no longer than memory. -/
def y0a(x:k0A):Prop:=(WfI .i64) x.al_/\(WfI .i64) x.am_/\WfT x.ad_
theorem C0h {n:Nat} :q0S Tryz.prog (n+2) 80 a0M y0a:=λd cs h hs=>by
  have hl:cs.length=3:=(i0C Tryz.underlying80 h).trans cY;obtain⟨c0,c1,c2,rfl⟩:=D0E hl;obtain⟨p0,h0,z0⟩:=a0s Tryz.underlying80 h hs 0 3 [c0] cY;obtain⟨x0,e0,w0⟩: ∃x:Int,[c0]=(a0l .i64) x/\(WfI .i64) x:=(c0B Tryz.underlying3) p0 _ h0 z0;obtain⟨p1,h1,z1⟩:=a0s Tryz.underlying80 h hs 1 3 [c1] cY;obtain⟨x1,e1,w1⟩: ∃x:Int,[c1]=(a0l .i64) x/\(WfI .i64) x:=(c0B Tryz.underlying3) p1 _ h1 z1;obtain⟨p2,h2,z2⟩:=a0s Tryz.underlying80 h hs 2 9 [c2] cY;obtain⟨x2,e2,w2⟩: ∃x:List UInt8,[c2]=t0T x/\WfT x:=(g0y Tryz.underlying9) p2 _ h2 z2;refine⟨⟨x0,x1,x2⟩, ?_,⟨w0,w1,w2⟩⟩;show [c0]++ [c1]++ [c2]=((a0l .i64) x0++(a0l .i64) x1++t0T x2);rw[e0,e1,e2]
/-- Its numbers are numbers of their kinds, its lists no longer than memory. -/
def u0R(x:f0x):Prop:=WfT x.B_/\E0Q x.S_/\E0P x.b_/\(WfL y0c) x.K_/\(WfL y0b) x.j_/\(WfL y0a) x.c_
theorem C0n {n:Nat} :q0S Tryz.prog (n+4) 29 c0z u0R:=λd cs h hs=>by
  have hl:cs.length=15:=(i0C Tryz.underlying29 h).trans cY;obtain⟨c0,c1,c2,c3,c4,c5,c6,c7,c8,c9,c10,c11,c12,c13,c14,rfl⟩:=I0H hl;obtain⟨p0,h0,z0⟩:=a0s Tryz.underlying29 h hs 0 9 [c0] cY;obtain⟨x0,e0,w0⟩: ∃x:List UInt8,[c0]=t0T x/\WfT x:=(g0y Tryz.underlying9) p0 _ h0 z0;obtain⟨p1,h1,z1⟩:=a0s Tryz.underlying29 h hs 1 23 [c1,c2,c3,c4,c5,c6,c7] cY;obtain⟨x1,e1,w1⟩: ∃x:c0J,[c1,c2,c3,c4,c5,c6,c7]=a0t x/\E0Q x:=C0p p1 _ h1 z1;obtain⟨p2,h2,z2⟩:=a0s Tryz.underlying29 h hs 2 24 [c8,c9,c10,c11] cY;obtain⟨x2,e2,w2⟩: ∃x:H0F,[c8,c9,c10,c11]=v0T x/\E0P x:=C0o p2 _ h2 z2;obtain⟨p3,h3,z3⟩:=a0s Tryz.underlying29 h hs 3 25 [c12] cY;obtain⟨x3,e3,w3⟩: ∃x:List p0i,[c12]=(k0y c0y 2) x/\(WfL y0c) x:=(l0e (enc:=c0y) (Wf:=y0c) Tryz.underlying25 (k:=2) cY cY C0j) p3 _ h3 z3;obtain⟨p4,h4,z4⟩:=a0s Tryz.underlying29 h hs 4 26 [c13] cY;obtain⟨x4,e4,w4⟩: ∃x:List p0h,[c13]=(k0y c0x 3) x/\(WfL y0b) x:=(l0e (enc:=c0x) (Wf:=y0b) Tryz.underlying26 (k:=3) cY cY C0i) p4 _ h4 z4;obtain⟨p5,h5,z5⟩:=a0s Tryz.underlying29 h hs 5 27 [c14] cY;obtain⟨x5,e5,w5⟩: ∃x:List k0A,[c14]=(k0y a0M 3) x/\(WfL y0a) x:=(l0e (enc:=a0M) (Wf:=y0a) Tryz.underlying27 (k:=3) cY cY C0h) p5 _ h5 z5;refine⟨⟨x0,x1,x2,x3,x4,x5⟩, ?_,⟨w0,w1,w2,w3,w4,w5⟩⟩;show [c0]++ [c1,c2,c3,c4,c5,c6,c7]++ [c8,c9,c10,c11]++ [c12]++ [c13]++ [c14]=(t0T x0++a0t x1++v0T x2++(k0y c0y 2) x3++(k0y c0x 3) x4++(k0y a0M 3) x5);rw[e0,e1,e2,e3,e4,e5]
/-- Its numbers are numbers of their kinds, its lists no longer than memory. -/
def E0O(x:s0B):Prop:=(WfI .i64) x.X_/\(WfI .i64) x.as_/\WfT x.Z_/\(WfL (WfI .i32)) x.x_/\WfB x.ay_/\WfB x.aw_/\WfB x.n_
theorem C0m {n:Nat} :q0S Tryz.prog (n+3) 32 l0b E0O:=λd cs h hs=>by
  have hl:cs.length=7:=(i0C Tryz.underlying32 h).trans cY;obtain⟨c0,c1,c2,c3,c4,c5,c6,rfl⟩:=H0e hl;obtain⟨p0,h0,z0⟩:=a0s Tryz.underlying32 h hs 0 3 [c0] cY;obtain⟨x0,e0,w0⟩: ∃x:Int,[c0]=(a0l .i64) x/\(WfI .i64) x:=(c0B Tryz.underlying3) p0 _ h0 z0;obtain⟨p1,h1,z1⟩:=a0s Tryz.underlying32 h hs 1 3 [c1] cY;obtain⟨x1,e1,w1⟩: ∃x:Int,[c1]=(a0l .i64) x/\(WfI .i64) x:=(c0B Tryz.underlying3) p1 _ h1 z1;obtain⟨p2,h2,z2⟩:=a0s Tryz.underlying32 h hs 2 9 [c2] cY;obtain⟨x2,e2,w2⟩: ∃x:List UInt8,[c2]=t0T x/\WfT x:=(g0y Tryz.underlying9) p2 _ h2 z2;obtain⟨p3,h3,z3⟩:=a0s Tryz.underlying32 h hs 3 30 [c3] cY;obtain⟨x3,e3,w3⟩: ∃x:List Int,[c3]=(k0y (a0l .i32) 1) x/\(WfL (WfI .i32)) x:=(l0e (enc:=(a0l .i32)) (Wf:=(WfI .i32)) Tryz.underlying30 (k:=1) cY cY (c0B Tryz.underlying21)) p3 _ h3 z3;obtain⟨p4,h4,z4⟩:=a0s Tryz.underlying32 h hs 4 4 [c4] cY;obtain⟨x4,e4,w4⟩: ∃x:Bool,[c4]=G0t x/\WfB x:=(o0l Tryz.underlying4) p4 _ h4 z4;obtain⟨p5,h5,z5⟩:=a0s Tryz.underlying32 h hs 5 4 [c5] cY;obtain⟨x5,e5,w5⟩: ∃x:Bool,[c5]=G0t x/\WfB x:=(o0l Tryz.underlying4) p5 _ h5 z5;obtain⟨p6,h6,z6⟩:=a0s Tryz.underlying32 h hs 6 4 [c6] cY;obtain⟨x6,e6,w6⟩: ∃x:Bool,[c6]=G0t x/\WfB x:=(o0l Tryz.underlying4) p6 _ h6 z6;refine⟨⟨x0,x1,x2,x3,x4,x5,x6⟩, ?_,⟨w0,w1,w2,w3,w4,w5,w6⟩⟩;show [c0]++ [c1]++ [c2]++ [c3]++ [c4]++ [c5]++ [c6]=((a0l .i64) x0++(a0l .i64) x1++t0T x2++(k0y (a0l .i32) 1) x3++G0t x4++G0t x5++G0t x6);rw[e0,e1,e2,e3,e4,e5,e6]
/-- Its numbers are numbers of their kinds, its lists no longer than memory. -/
def E0N(x:b0v):Prop:=WfB x.o_/\(WfL (WfI .u8)) x.D_/\(WfI .i64) x.E_
theorem C0l {n:Nat} :q0S Tryz.prog (n+3) 35 a0C E0N:=λd cs h hs=>by
  have hl:cs.length=3:=(i0C Tryz.underlying35 h).trans cY;obtain⟨c0,c1,c2,rfl⟩:=D0E hl;obtain⟨p0,h0,z0⟩:=a0s Tryz.underlying35 h hs 0 4 [c0] cY;obtain⟨x0,e0,w0⟩: ∃x:Bool,[c0]=G0t x/\WfB x:=(o0l Tryz.underlying4) p0 _ h0 z0;obtain⟨p1,h1,z1⟩:=a0s Tryz.underlying35 h hs 1 33 [c1] cY;obtain⟨x1,e1,w1⟩: ∃x:List Int,[c1]=(k0y (a0l .u8) 1) x/\(WfL (WfI .u8)) x:=(l0e (enc:=(a0l .u8)) (Wf:=(WfI .u8)) Tryz.underlying33 (k:=1) cY cY (c0B Tryz.underlying5)) p1 _ h1 z1;obtain⟨p2,h2,z2⟩:=a0s Tryz.underlying35 h hs 2 3 [c2] cY;obtain⟨x2,e2,w2⟩: ∃x:Int,[c2]=(a0l .i64) x/\(WfI .i64) x:=(c0B Tryz.underlying3) p2 _ h2 z2;refine⟨⟨x0,x1,x2⟩, ?_,⟨w0,w1,w2⟩⟩;show [c0]++ [c1]++ [c2]=(G0t x0++(k0y (a0l .u8) 1) x1++(a0l .i64) x2);rw[e0,e1,e2]
/-- Its numbers are numbers of their kinds, its lists no longer than memory. -/
def H0E(x:J0T):Prop:=u0R x.L_/\E0O x.Q_/\E0N x.D_/\(WfI .u8) x.ae_/\(WfI .u8) x.af_
theorem C0k {n:Nat} :q0S Tryz.prog (n+5) 60 z0d H0E:=λd cs h hs=>by
  have hl:cs.length=27:=(i0C Tryz.underlying60 h).trans cY;obtain⟨c0,c1,c2,c3,c4,c5,c6,c7,c8,c9,c10,c11,c12,c13,c14,c15,c16,c17,c18,c19,c20,c21,c22,c23,c24,c25,c26,rfl⟩:=I0G hl;obtain⟨p0,h0,z0⟩:=a0s Tryz.underlying60 h hs 0 29 [c0,c1,c2,c3,c4,c5,c6,c7,c8,c9,c10,c11,c12,c13,c14] cY;obtain⟨x0,e0,w0⟩: ∃x:f0x,[c0,c1,c2,c3,c4,c5,c6,c7,c8,c9,c10,c11,c12,c13,c14]=c0z x/\u0R x:=C0n p0 _ h0 z0;obtain⟨p1,h1,z1⟩:=a0s Tryz.underlying60 h hs 1 32 [c15,c16,c17,c18,c19,c20,c21] cY;obtain⟨x1,e1,w1⟩: ∃x:s0B,[c15,c16,c17,c18,c19,c20,c21]=l0b x/\E0O x:=C0m p1 _ h1 z1;obtain⟨p2,h2,z2⟩:=a0s Tryz.underlying60 h hs 2 35 [c22,c23,c24] cY;obtain⟨x2,e2,w2⟩: ∃x:b0v,[c22,c23,c24]=a0C x/\E0N x:=C0l p2 _ h2 z2;obtain⟨p3,h3,z3⟩:=a0s Tryz.underlying60 h hs 3 5 [c25] cY;obtain⟨x3,e3,w3⟩: ∃x:Int,[c25]=(a0l .u8) x/\(WfI .u8) x:=(c0B Tryz.underlying5) p3 _ h3 z3;obtain⟨p4,h4,z4⟩:=a0s Tryz.underlying60 h hs 4 5 [c26] cY;obtain⟨x4,e4,w4⟩: ∃x:Int,[c26]=(a0l .u8) x/\(WfI .u8) x:=(c0B Tryz.underlying5) p4 _ h4 z4;refine⟨⟨x0,x1,x2,x3,x4⟩, ?_,⟨w0,w1,w2,w3,w4⟩⟩;show [c0,c1,c2,c3,c4,c5,c6,c7,c8,c9,c10,c11,c12,c13,c14]++ [c15,c16,c17,c18,c19,c20,c21]++ [c22,c23,c24]++ [c25]++ [c26]=(c0z x0++l0b x1++a0C x2++(a0l .u8) x3++(a0l .u8) x4);rw[e0,e1,e2,e3,e4]
def tot {T:Type} (f:T->Nat)(l:List T):Nat:=(l.map f).sum
theorem u0Y {T:Type} (f:T->Nat)(l:List T)(x:T):tot f (l++ [x])=tot f l+f x:=by simp[tot]
theorem u0p {T:Type} {f:T->Nat} {B:Nat} : ∀ {l:List T},(∀x∈l,f x<=B)->tot f l<=l.length*B
  | [],_=>by simp[tot]
  |x::l,h=>by
    have h1:=h x (aw ..);have h2:=u0p (l:=l) λy hy=>h y (ao _ hy)
    simp only[tot,al,List.sum_cons,aW,bK]at h2⊢;omega
theorem y0j {T:Type} (f:T->Nat): ∀ {l:List T} {x:T},x∈l->f x<=tot f l
  |y::l,x,h=>by
    simp only[tot,al,List.sum_cons];rcases aS.1 h with rfl|h;omega;have:=y0j f h;simp only[tot]at this;omega
def pS(x0:f0x)(s0:Int×Int):Option ((Int×Int)⊕Int):=
  (bif(wB (s0.2<4))then(bif(wB (s0.2=0))then(qB (.inl ((oA .i64 (s0.1+(x0.b_.d_.length:Int))),(oA .i64 (0+1)))))else(bif(wB (s0.2=1))then(qB (.inl ((oA .i64 (s0.1+(x0.b_.f_.length:Int))),(oA .i64 (1+1)))))else(bif(wB (s0.2=2))then(qB (.inl ((oA .i64 (s0.1+(x0.b_.m_.length:Int))),(oA .i64 (2+1)))))else(bif(wB (s0.2=3))then(qB (.inl ((oA .i64 (s0.1+(x0.b_.t_.length:Int))),(oA .i64 (3+1)))))else none))))else(qB (.inr s0.1)))
def rS(xs:List p0i)(s2:Int×Int):Option ((Int×Int)⊕Int):=
  (bif(wB (s2.2<(xs.length:Int)))then(bif inR s2.2 xs.length then(qB (.inl ((oA .i64 (s2.1+((((nth xs s2.2).ax_).length:Int)))),(oA .i64 (s2.2+1)))))else none)else(qB (.inr s2.1)))
def cS(xs:List p0h)(s1:Int×Int):Option ((Int×Int)⊕Int):=
  (bif(wB (s1.2<(xs.length:Int)))then(bif inR s1.2 xs.length then(bif inR s1.2 xs.length then(qB (.inl ((oA .i64 (((oA .i64 (s1.1+((((nth xs s1.2).Z_).length:Int)))))+((((nth xs s1.2).x_).length:Int)))),(oA .i64 (s1.2+1)))))else none)else none)else(qB (.inr s1.1)))
def L0T(xs:List k0A)(s3:Int×Int):Option ((Int×Int)⊕Int):=
  (bif(wB (s3.2<(xs.length:Int)))then(bif inR s3.2 xs.length then(qB (.inl ((oA .i64 (s3.1+((((nth xs s3.2).ad_).length:Int)))),(oA .i64 (s3.2+1)))))else none)else(qB (.inr s3.1)))
theorem F0m(x0:f0x):e0b x0=(jB (a0n (pS x0) big ((x0.B_.length:Int),0)) fun(s4:Int)=>(jB (jB (bif(wB ((x0.K_.length:Int)>8))then(qB yB)else(bif(wB ((x0.j_.length:Int)>105))then(qB yB)else(qB ((wB ((x0.c_.length:Int)>95)))))) fun(s5:Bool)=>(bif s5 then(qB (.inr vB))else(qB (.inl ())))) (a0j fun(s9:Unit)=>(jB (a0n (rS x0.K_) big (s4,0)) fun(s6:Int)=>(jB (a0n (cS x0.j_) big (s6,0)) fun(s7:Int)=>(jB (a0n (L0T x0.c_) big (s7,0)) fun(s8:Int)=>(qB (wB (s8<=6000))))))))):=rfl
def G0U(l:f0x):Nat:=l.B_.length+l.b_.d_.length+l.b_.f_.length+l.b_.m_.length+l.b_.t_.length
theorem N0E {l:f0x} (w:u0R l):a0n (pS l) big ((l.B_.length:Int),0)=qB ((G0U l:Nat):Int):=by
  obtain⟨w0,_,⟨w1,w2,w3,w4⟩,_⟩:=w;unfold WfT at w0 w1 w2 w3 w4;have hb:big=18446744073709551611+1+1+1+1+1:=rfl;rw[hb];refine(h0g (s':=((l.B_.length:Int)+l.b_.d_.length,1)) ?_).trans ?_;show qB (Sum.inl (_,_))=_;rw[w64 (n:=(l.B_.length:Int)+l.b_.d_.length) cV cV];rfl;refine(h0g (s':=((l.B_.length:Int)+l.b_.d_.length+l.b_.f_.length,2)) ?_).trans ?_;show qB (Sum.inl (_,_))=_;rw[w64 (n:=(l.B_.length:Int)+l.b_.d_.length+l.b_.f_.length) cV cV];rfl;refine(h0g (s':=((l.B_.length:Int)+l.b_.d_.length+l.b_.f_.length+l.b_.m_.length,3)) ?_).trans ?_;show qB (Sum.inl (_,_))=_;rw[w64 (n:=(l.B_.length:Int)+l.b_.d_.length+l.b_.f_.length+l.b_.m_.length) cV cV];rfl;refine(h0g (s':=((l.B_.length:Int)+l.b_.d_.length+l.b_.f_.length+l.b_.m_.length+l.b_.t_.length,4)) ?_).trans ?_;show qB (Sum.inl (_,_))=_;rw[w64 (n:=(l.B_.length:Int)+l.b_.d_.length+l.b_.f_.length+l.b_.m_.length+l.b_.t_.length) cV cV];rfl;refine k0i ?_;show qB (Sum.inr _)=_;unfold G0U;simp
theorem N0C {xs:List p0i} {a:Nat} (ha:a<=9007199254740992)(hx:xs.length<=8)(w: ∀x∈xs,y0c x):a0n (rS xs) big ((a:Int),0)=qB ((a+tot (λx=>x.ax_.length) xs:Nat):Int):=by
  refine t0t xs (λpre=>(((a+tot (λx:p0i=>x.ax_.length) pre:Nat):Int),(pre.length:Int))) _ (by simp[tot]) (λpre x suf h=> ?_) ?_ cV;have hb:=u0p (f:=λx:p0i=>x.ax_.length) (l:=pre) (B:=140737488355328) λy hy=>(w y (by rw[h];simp[hy])).2
  have hxw:x.ax_.length<=140737488355328:=(w x (by rw[h];simp)).2;have hl:pre.length<=8:=by rw[h]at hx;simp at hx;omega
  simp only[rS];rw[h,D0q,y0S,y0H,u0Y,H0K (by rw[<-h];omega)];simp only[oC];rw[w64 cV cV];simp only[ah,Sum.inl.injEq,aD,and_true];omega;simp only[rS];rw[A0c];rfl
theorem N0H {xs:List k0A} {a:Nat} (ha:a<=90071992547409920)(hx:xs.length<=95)(w: ∀x∈xs,y0a x):a0n (L0T xs) big ((a:Int),0)=qB ((a+tot (λx=>x.ad_.length) xs:Nat):Int):=by
  refine t0t xs (λpre=>(((a+tot (λx:k0A=>x.ad_.length) pre:Nat):Int),(pre.length:Int))) _ (by simp[tot]) (λpre x suf h=> ?_) ?_ cV;have hb:=u0p (f:=λx:k0A=>x.ad_.length) (l:=pre) (B:=140737488355328) λy hy=>(w y (by rw[h];simp[hy])).2.2
  have hxw:x.ad_.length<=140737488355328:=(w x (by rw[h];simp)).2.2;have hl:pre.length<=95:=by rw[h]at hx;simp at hx;omega
  simp only[L0T];rw[h,D0q,y0S,y0H,u0Y,H0K (by rw[<-h];omega)];simp only[oC];rw[w64 cV cV];simp only[ah,Sum.inl.injEq,aD,and_true];omega;simp only[L0T];rw[A0c];rfl
theorem O0j {xs:List p0h} {a:Nat} (ha:a<=18014398509481984)(hx:xs.length<=105)(w: ∀x∈xs,y0b x):a0n (cS xs) big ((a:Int),0)=qB ((a+tot (λx=>x.Z_.length+x.x_.length) xs:Nat):Int):=by
  refine t0t xs (λpre=>(((a+tot (λx:p0h=>x.Z_.length+x.x_.length) pre:Nat):Int),(pre.length:Int))) _ (by simp[tot]) (λpre x suf h=> ?_) ?_ cV
  have hb:=u0p (f:=λx:p0h=>x.Z_.length+x.x_.length) (l:=pre) (B:=281474976710656) λy hy=>by
    have h1:y.Z_.length<=140737488355328:=(w y (by rw[h];simp[hy])).1;have h2:y.x_.length<=140737488355328:=(w y (by rw[h];simp[hy])).2.1;omega
  have h1:x.Z_.length<=140737488355328:=(w x (by rw[h];simp)).1;have h2:x.x_.length<=140737488355328:=(w x (by rw[h];simp)).2.1;have hl:pre.length<=105:=by rw[h]at hx;simp at hx;omega
  simp only[cS];rw[h,D0q,y0S,y0H,u0Y,H0K (by rw[<-h];omega)];simp only[oC];rw[w64 (n:=((a+tot (λx:p0h=>x.Z_.length+x.x_.length) pre:Nat):Int)+(x.Z_.length:Int)) cV cV,w64 cV cV];simp only[ah,Sum.inl.injEq,aD,and_true];omega;simp only[cS];rw[A0c];rfl

theorem F0n {l:f0x} (w:u0R l): ∃b,e0b l=qB b/\(b=yB->l.K_.length<=8/\l.j_.length<=105/\l.c_.length<=95/\
    G0U l+tot (λx=>x.ax_.length) l.K_+tot (λx=>x.Z_.length+x.x_.length) l.j_+tot (λx=>x.ad_.length) l.c_<=6000):=by
  rw[F0m,N0E w,ai];obtain⟨w0,_,⟨w1,w2,w3,w4⟩,wr,wc,wk⟩:=w;unfold WfT at w0 w1 w2 w3 w4;by_cases h1:l.K_.length<=8;rw[dF (show¬(l.K_.length:Int)>8 by omega)];by_cases h2:l.j_.length<=105;rw[dF (show¬(l.j_.length:Int)>105 by omega)];by_cases h3:l.c_.length<=95;rw[dF (show¬(l.c_.length:Int)>95 by omega)];simp only[oD,ai,a0j];have hp:G0U l<=703687441776640:=by unfold G0U;omega
  have b1:=u0p (f:=λx:p0i=>x.ax_.length) (l:=l.K_) (B:=140737488355328) λy hy=>(wr.2 y hy).2
  have b2:=u0p (f:=λx:p0h=>x.Z_.length+x.x_.length) (l:=l.j_) (B:=281474976710656) λy hy=>by
    have q1:y.Z_.length<=140737488355328:=(wc.2 y hy).1;have q2:y.x_.length<=140737488355328:=(wc.2 y hy).2.1;omega
  rw[N0C cV h1 wr.2,ai,O0j cV h2 wc.2,ai,N0H cV h3 wk.2,ai];refine⟨_,rfl,λh=>⟨h1,h2,h3, ?_⟩⟩;have:=jF h;omega;rw[dT (show(l.c_.length:Int)>95 by omega)];exact⟨vB,rfl,λh=>by cases h⟩;rw[dT (show(l.j_.length:Int)>105 by omega)];exact⟨vB,rfl,λh=>by cases h⟩;rw[dT (show(l.K_.length:Int)>8 by omega)];exact⟨vB,rfl,λh=>by cases h⟩

theorem A0j {l:f0x} (h2:l.K_.length<=8/\l.j_.length<=105/\l.c_.length<=95/\
    G0U l+tot (λx=>x.ax_.length) l.K_+tot (λx=>x.Z_.length+x.x_.length) l.j_+tot (λx=>x.ad_.length) l.c_<=6000):
    (l.B_.length<=4294967296/\(l.b_.d_.length<=100000/\l.b_.f_.length<=100000/\l.b_.m_.length<=100000/\l.b_.t_.length<=100000))/\l.K_.length<=8/\l.j_.length<=105/\(∀c∈l.j_,c.x_.length<=6000)/\l.c_.length<=95/\ ∀c∈l.c_,c.ad_.length<=6000:=by
  obtain⟨h1,h2,h3,h4⟩:=h2;unfold G0U at h4;refine⟨⟨cV,cV,cV,cV,cV⟩,h1,h2,λc hc=> ?_,h3,λc hc=> ?_⟩;have:=y0j (λx:p0h=>x.Z_.length+x.x_.length) hc;omega;have:=y0j (λx:k0A=>x.ad_.length) hc;omega
theorem L0f {l:f0x} (h:l.K_.length<=8/\l.j_.length<=105/\l.c_.length<=95/\
    G0U l+tot (λx=>x.ax_.length) l.K_+tot (λx=>x.Z_.length+x.x_.length) l.j_+tot (λx=>x.ad_.length) l.c_<=6000):Tot (e0P l) (λ_=>True):=by
  obtain⟨⟨f0,f1⟩,f2,f3,f4,f5,f6⟩:=A0j h;unfold e0P;exact tB (F0H f0 f1 f2 f3 f4 f5 f6) dD
/-! The tank, and what a certified run comes to. -/
theorem F0F {d:b0v} (hl:d.D_.length<=140737488355328):Tot (e0l d) (λ_=>True):=by
  unfold e0l;refine Tot.joinT (tL (λs:Int=>0<=s/\s<=d.D_.length) (λs=>((d.D_.length:Int)-s).toNat) ⟨cV,cV⟩ cV (λs hs=>tI (λe=> ?_) cX)) (λ_=>tI cX (λe=>tB (p:=λ_=>True) (tI (λ_=> ?_) cX) dD));have e:=dTT e;refine tY (a0c hs.1 e) (tI cX (λ_=>tR ?_));rw[w64 (n:=s+1) cV cV];exact⟨⟨cV,cV⟩,cV⟩;have e:=dFF e;rw[w64 (n:=(d.D_.length:Int)-1) cV cV];exact tY (a0c dC cV) (tI (λ_=>tY (a0c cV cV) (tI (λ_=>tI cX cX) cX)) cX)
def D0m(d:b0v):Prop:=d.D_.length<=40/\ -60<=d.E_/\d.E_<=60
theorem I0x {d:b0v} (hl:d.D_.length<=140737488355328):Tot (e0W d) (λr=>r=yB->D0m d):=by
  unfold e0W;exact tB (F0F hl) (λ_ _=>tB (p:=λr=>r=yB->D0m d) (tI (λ_=>tI (λe1=>tI (λe2=>tR (λe3=>⟨by have:=dTT e1;omega,by have:=dTT e2;omega,dTT e3⟩)) (λ_=>tR cW)) (λ_=>tR cW)) (λ_=>tR cW)) (λ_ h=>tR h))
theorem F0W {l:f0x} {q:s0B} {d:b0v} (wl:u0R l)(wq:q.x_.length<=140737488355328)(hd:d.D_.length<=140737488355328):Tot (e0N l q d) (λr=>r=yB->H0c l/\q.x_.length<=50/\D0m d):=by
  obtain⟨sa,ea,ha⟩:=F0n wl
  have hL:sa=yB->H0c l:=λh=>by
    obtain⟨⟨f0,f1⟩,f2,f3,f4,f5,f6⟩:=A0j (ha h);exact⟨f1,f2,f3,f4,f5,f6⟩
  unfold e0N;rw[ea,ai];refine tB (I0x hd) (λnd hn=>tJ (Tot.mono (p:=λx:Unit⊕Bool=>match x with| .inl _=>sa=yB/\q.x_.length<=50/\D0m d| .inr r=>r=vB) (tB (p:=λc=>c=vB->sa=yB/\q.x_.length<=50/\D0m d) ?_ (λc hc=>tI (λ_=>tR rfl) (λe=>tR (hc e)))) (λx hx=> ?_)))
  · refine tI (λ_=>tR cW) (λe1=>tI (λ_=>tR cW) (λe2=>tI (λ_=>tR cW) (λe3=>tR (λ_=>⟨by cases sa<;>simp_all,by have:=dFF e3;omega,hn (by cases nd<;>simp_all)⟩))))
  cases x with
  |inl u=>exact tB (L0f (ha hx.1)) (λ_ _=>tR (λ_=>⟨hL hx.1,hx.2⟩))
  |inr r=>exact λh=>by rw[show r=vB from hx]at h;cases h
theorem G0W {f r:Int} {k:Nat} (hk:k<=4000000000):l0L ⟨f,r,[]⟩ k=qB ⟨f,r,[]⟩:=by
  unfold l0L;show(bif mk (0:Int) (oA .i64 (0+(k:Int)))then qB (⟨f,r,v0w (rep 0 (0:Int)) []⟩:l0d)else none)=_;rw[w64 cV cV,K0M dC cV cV];rfl
/-- What is put: as much of the runes as fuel and room bear. -/
theorem M0m {l:List Int} {f r:Int} (hl:l.length<=1300000000)(hf:0<=f/\f<=100000000000)(hr:0<=r/\r<=100000000000):Tot (p0S ⟨f,r,[]⟩ l) (λo=> ∃k,o.1.Y_=l.take k/\k<=l.length/\(k:Int)<=r/\(o.2=0/\k=l.length/\(l.length:Int)<=f\/o.2=4/\k<l.length/\f<l.length\/o.2=5/\k<l.length)):=by
  unfold p0S;rw[G0W cV,ai];refine tJ (tW (λs:Int×Int×Int×List Int=>s.1) l.length (λs=>s.2.1=f-s.1/\0<=s.2.1/\s.2.2.1=r-s.1/\0<=s.2.2.1/\s.2.2.2=l.take s.1.toNat) cV ⟨⟨by show f=f-0;omega,hf.1,by show r=r-0;omega,hr.1,by show []=l.take 0;simp⟩,by show(0:Int)<=0;decide,by show(0:Int)<=_;omega⟩ (λs hs h0 h1=>tY (dT h1) (tY (a0c h0 h1) ?_)) (λs hs e=>tN (dF cV) (tR (show Tot _ _ from tR ?_))));obtain⟨i1,i2,i3,i4,i5⟩:=hs;unfold l0f;have hlen:(l.take s.1.toNat).length=s.1.toNat:=by rw[aB];omega
  by_cases c:s.2.1<1;rw[show(wB ((⟨s.2.1,s.2.2.1,s.2.2.2⟩:l0d).ae_<1))=yB from dT c]
  exact tB (p:=λy:l0d×Int=>y=(⟨0,s.2.2.1,s.2.2.2⟩,4)) (tR rfl) (λy hy=>by
    subst hy
    exact tY (dT (by show¬(4:Int)=0;decide)) (tR ⟨s.1.toNat,i5,cV,cV, .inr (.inl ⟨rfl,cV,cV⟩)⟩))
  rw[show(wB ((⟨s.2.1,s.2.2.1,s.2.2.2⟩:l0d).ae_<1))=vB from dF c];have w:oA .i64 ((⟨s.2.1,s.2.2.1,s.2.2.2⟩:l0d).ae_-1)=s.2.1-1:=w64 (n:=s.2.1-1) cV cV;rw[w];refine tB (p:=λy:l0d×Int=>y=(⟨s.2.1-1,s.2.2.1,s.2.2.2⟩,0)) (tR rfl) (λy hy=> ?_);subst hy;refine tN (dF (by show¬ ¬(0:Int)=0;decide)) (tI (λe=> ?_) (λe=> ?_));have e:s.2.2.1<=0:=dTT e;exact tR ⟨s.1.toNat,i5,cV,cV, .inr (.inr ⟨rfl,cV⟩)⟩;have e: ¬s.2.2.1<=0:=dFF e;refine tY (a0f (by show s.2.2.2.length+1<=_;rw[i5,hlen];omega)) (tR ?_);have w1:oA .i64 (s.2.2.1-1)=s.2.2.1-1:=w64 cV cV;rw[nxn h0 (bu h1) cV];show(s.2.1-1=f-(s.1+1)/\0<=s.2.1-1/\oA .i64 (s.2.2.1-1)=r-(s.1+1)/\0<=oA .i64 (s.2.2.1-1)/\s.2.2.2++ [nth l s.1]=l.take (s.1+1).toNat)/\s.1+1=s.1+1;rw[w1];refine⟨⟨cV,cV,cV,cV, ?_⟩,rfl⟩
  obtain⟨n,hn⟩: ∃n:Nat,s.1=n:=⟨s.1.toNat,cV⟩
  rw[i5,hn];have:n<l.length:=by omega
  rw[t0p this];show l.take n++ [l[n]]=l.take (n+1);simp;obtain⟨i1,i2,i3,i4,i5⟩:=hs;refine⟨l.length, ?_,aj _,cV, .inl ⟨rfl,rfl,cV⟩⟩;show s.2.2.2=_;rw[i5,e];simp
theorem L0w {c:G0F} {q:s0B} {d:b0v} {f r:Int} {o:List Int×Int} (hd:d.D_.length<=40)(hf:0<=f/\f<=100000000000)(hr:0<=r/\r<=100000000000)(ho:f0h c.L_ q d=qB o)(hl:o.1.length<=1200000000):
    Tot (q0K c q d f r) (λy=>(o.2≠0/\y.2=o.2\/o.2=0/\ ∃k,y.1.Y_=o.1.take k/\k<=o.1.length/\(k:Int)<=r/\(y.2=0/\k=o.1.length/\(o.1.length:Int)+d.D_.length+1<=f\/(y.2=4\/y.2=5)/\(k<o.1.length\/f<d.D_.length+1)))):=by
  unfold q0K s0o p0T;rw[dF (cV: ¬f<0),dF (cV: ¬r<0),w64 (n:=(d.D_.length:Int)+1) cV cV];refine tB (p:=λy:l0d×Int=>y=(⟨f,r,[]⟩,0)) (tR rfl) (λy hy=> ?_);subst hy;refine tN (dF (by show¬ ¬(0:Int)=0;decide)) ?_;rw[ho];refine tB (p:=λy=>y=o) (tR rfl) (λy hy=> ?_);subst hy;refine tI (λe=>tR (.inl ⟨dTT e,rfl⟩)) (λe=> ?_);have e:y.2=0:=by have:=dFF e;omega
  have ow:=G0W (f:=f) (r:=r) (k:=0) cV;rw[show l0L _ 0=qB ⟨f,r,[]⟩from ow,ai,dF (cV: ¬(d.D_.length:Int)+1<0)];unfold l0f;by_cases c:f<d.D_.length+1;rw[show(wB ((⟨f,r,[]⟩:l0d).ae_<(d.D_.length:Int)+1))=yB from dT c];refine tB (p:=λz:l0d×Int=>z=(⟨0,r,[]⟩,4)) (tR rfl) (λz hz=> ?_);subst hz;exact tY (dT (by show¬(4:Int)=0;decide)) (tR (.inr ⟨e,0,dB,cV,cV, .inr ⟨.inl rfl, .inr c⟩⟩));rw[show(wB ((⟨f,r,[]⟩:l0d).ae_<(d.D_.length:Int)+1))=vB from dF c];have w:oA .i64 ((⟨f,r,[]⟩:l0d).ae_-((d.D_.length:Int)+1))=f-(d.D_.length+1):=w64 (n:=f-(d.D_.length+1)) cV cV;rw[w];refine tB (p:=λz:l0d×Int=>z=(⟨f-(d.D_.length+1),r,[]⟩,0)) (tR rfl) (λz hz=> ?_);subst hz;refine tN (dF (by show¬ ¬(0:Int)=0;decide)) (tB (M0m cV ⟨cV,cV⟩ hr) (λp hp=>tR (.inr ⟨e, ?_⟩)));obtain⟨k,h1,h2,h3,h4⟩:=hp;refine⟨k,h1,h2,h3, ?_⟩;rcases h4 with⟨g1,g2,g3⟩|⟨g1,g2,g3⟩|⟨g1,g2⟩;exact .inl ⟨g1,g2,cV⟩;exact .inr ⟨.inl g1, .inl g2⟩;exact .inr ⟨.inr g1, .inl g2⟩
theorem F0s {x y:List Int} (hl:x.length<=4294967296)(h:x=y):b0E x y=qB true:=by
  subst h;unfold b0E;rw[dF (cV: ¬ ¬(x.length:Int)=x.length)]
  obtain⟨o,h1,h2⟩:Tot (a0n (fun(s0:Int)=>(bif(wB (s0<(x.length:Int)))then(bif inR s0 x.length then(bif inR s0 x.length then(bif(wB (¬(nth x s0)=(nth x s0)))then(qB (.inr (.inr vB)))else(qB (.inl (oA .i64 (s0+1)))))else none)else none)else(qB (.inr (.inl ()))))) big 0) (λo:Unit⊕Bool=>o= .inl ()):=
    tW (λs:Int=>s) x.length (λ_=>True) hl ⟨trivial,dC,cV⟩ (λs _ h0 h1=>tY (dT h1) (tY (a0c h0 h1) (tY (a0c h0 h1) (tN (dF cV) (tR ⟨trivial,nxn h0 (bu h1) hl⟩))))) (λs _ e=>tN (dF cV) (tR rfl))
  show jB (a0n _ big 0) _=_;rw[h1,h2];rfl
theorem u0o(a:J0T)(wa:H0E a):c0I a=qB true:=by
  obtain⟨wl,⟨_,_,_,ws,_⟩,⟨_,wd,_⟩,wf,wr⟩:=wa
  have hf:0<=a.ae_/\a.ae_<=255:=by
    have:(wB (IntKind.u8.min<=a.ae_)&&wB (a.ae_<=IntKind.u8.max))=true:=wf;simp only[aa,decide_eq_true_eq]at this;exact⟨this.1,this.2⟩
  have hr:0<=a.af_/\a.af_<=255:=by
    have:(wB (IntKind.u8.min<=a.af_)&&wB (a.af_<=IntKind.u8.max))=true:=wr;simp only[aa,decide_eq_true_eq]at this;exact⟨this.1,this.2⟩
  have key:Tot (c0I a) (λr=>r=yB):=by
    unfold c0I;rw[show h0P=qB yB from rfl,ai,w64 (n:=a.ae_) cV cV,w64 (n:=a.af_) cV cV];refine tB (F0W wl ws.1 wd.1) (λn hn=>tI (λ_=>tR rfl) (λe=> ?_));obtain⟨hL,hq,hd1,hd2,hd3⟩:=hn (by cases n<;>simp_all);have hL':=hL;obtain⟨f1,f2,f3,f4,f5,f6⟩:=hL';obtain⟨c,oc,_,hcl⟩:=M0S f1 f2 f3 f4 f5 f6;obtain⟨o,ho,hlo⟩:=G0o (d:=a.D_) hL hq ⟨cV,cV,cV⟩;obtain⟨y,hy,hp⟩:=L0w (c:=c) (q:=a.Q_) (d:=a.D_) (f:=a.ae_) (r:=a.af_) hd1 ⟨hf.1,cV⟩ ⟨hr.1,cV⟩ (by rw[hcl];exact ho) hlo;rw[oc,ai,ho,ai,hy,ai];rcases hp with⟨e1,e2⟩|⟨e1,k,k1,k2,k3,k4⟩;exact tY (dT e1) (tB (p:=λr=>r=yB) (tR (dT e2)) (λ_ h=>tR h));refine tN (dF cV) ?_;have hk:(y.1.Y_.length:Int)=k:=by rw[k1,aB];omega
    refine tJ (tB (p:=λs=>s=vB) (tN (dF cV) (tN (dF cV) (tY (k0K dC cV cV) ?_))) (λs hs=>tN hs (tR (show Tot _ _ from ?_))));rw[F0s cV (by rw[hk,k1];simp[cut])];exact tR rfl;rw[w64 (n:=(o.1.length:Int)+a.D_.D_.length) cV cV,w64 (n:=(o.1.length:Int)+a.D_.D_.length+1) cV cV];refine tB (p:=λr=>r=yB) ?_ (λ_ h=>tR h);show Tot (bif wB _ then _ else _) _;rcases k4 with⟨g1,g2,g3⟩|⟨g1,g2⟩;rw[dT (show(y.1.Y_.length:Int)=o.1.length by omega),dT g1,dT (show a.ae_≥(o.1.length:Int)+a.D_.D_.length+1 by omega)];exact tR rfl
    have h45:Tot (bif wB (y.2=0)then qB yB else(bif wB (y.2=4)then qB yB else qB (wB (y.2=5)))) (λr=>r=yB):=
      tI (λ_=>tR rfl) (λ_=>tI (λ_=>tR rfl) (λe=>tR (dT (by have:=dFF e;omega))))
    have h0:wB (y.2=0)=false:=dF cV;refine tI (λe=> ?_) (λ_=>tY (by rw[h0];rfl) h45);have e:=dTT e;exact tY (by rw[h0,dF (show¬a.ae_≥(o.1.length:Int)+a.D_.D_.length+1 by omega)];rfl) h45
  obtain⟨r,h,rfl⟩:=key;exact h

def u0h {H : Type} : List (String × DataW H) := [("math/bits.deBruijn32tab", Rows.laid_math_bits_deBruijn32tab), ("math/bits.deBruijn64tab", Rows.laid_math_bits_deBruijn64tab), ("internal/strconv.uint64pow10", Rows.laid_internal_strconv_uint64pow10), ("exergue/class.noughts", Rows.laid_exergue_class_noughts)]
theorem G0v(os:Os)(args:Array Value):laidMetH Tryz.prog u0h ((World.doorLaid Tryz.prog 4000 os).forCall (λ_ _=>0) ⟨#[],args,[]⟩).memory:=
  laidMetH_of_parts3 (fuel:=8) (laidMet_of_run' 8 cY cY) cY cY

/-- Package variables hold what they are said to. -/
theorem G0n {W:World} (hL:laidMetH Tryz.prog u0h W):m0E W (KW W) λ_=>none:=λg cs h=>by
  have hh:(u0h (H:=Unit)).all (λx=>x.2.handleName?.isNone)=true:=by kernel_rfl
  by_cases h0:g=0;subst h0;obtain rfl:=ar (show qB [.int .i32 48, .int .i32 1632, .int .i32 1776, .int .i32 1984, .int .i32 2406, .int .i32 2534, .int .i32 2662, .int .i32 2790, .int .i32 2918, .int .i32 3046, .int .i32 3174, .int .i32 3302, .int .i32 3430, .int .i32 3664, .int .i32 3792, .int .i32 3872, .int .i32 6112, .int .i32 6160, .int .i32 65296, .int .i32 120782]=qB cs from h);exact q0E hh hL (nm := "exergue/class.noughts") (t := 409) (e := 21) (n := 20) (k := .i32) [48, 1632, 1776, 1984, 2406, 2534, 2662, 2790, 2918, 3046, 3174, 3302, 3430, 3664, 3792, 3872, 6112, 6160, 65296, 120782] (by unfold u0h; simp only [aS, cB, or_false]; first | exact vK rfl | exact yF (vK rfl) | exact yF (yF (vK rfl)) | exact yF rfl | exact yF (yF rfl) | exact yF (yF (yF rfl)) | rfl) cY cY Tryz.underlying409 Tryz.underlying21 cY cY;by_cases h2:g=2;subst h2;obtain rfl:=ar (show qB [.int .u64 1, .int .u64 10, .int .u64 100, .int .u64 1000, .int .u64 10000, .int .u64 100000, .int .u64 1000000, .int .u64 10000000, .int .u64 100000000, .int .u64 1000000000, .int .u64 10000000000, .int .u64 100000000000, .int .u64 1000000000000, .int .u64 10000000000000, .int .u64 100000000000000, .int .u64 1000000000000000, .int .u64 10000000000000000, .int .u64 100000000000000000, .int .u64 1000000000000000000, .int .u64 10000000000000000000]=qB cs from h);exact q0E hh hL (nm := "internal/strconv.uint64pow10") (t := 478) (e := 408) (n := 20) (k := .u64) [1, 10, 100, 1000, 10000, 100000, 1000000, 10000000, 100000000, 1000000000, 10000000000, 100000000000, 1000000000000, 10000000000000, 100000000000000, 1000000000000000, 10000000000000000, 100000000000000000, 1000000000000000000, 10000000000000000000] (by unfold u0h; simp only [aS, cB, or_false]; first | exact vK rfl | exact yF (vK rfl) | exact yF (yF (vK rfl)) | exact yF rfl | exact yF (yF rfl) | exact yF (yF (yF rfl)) | rfl) cY cY Tryz.underlying478 Tryz.underlying408 cY cY;by_cases h3:g=3;subst h3;obtain rfl:=ar (show qB [.int .u8 0, .int .u8 1, .int .u8 28, .int .u8 2, .int .u8 29, .int .u8 14, .int .u8 24, .int .u8 3, .int .u8 30, .int .u8 22, .int .u8 20, .int .u8 15, .int .u8 25, .int .u8 17, .int .u8 4, .int .u8 8, .int .u8 31, .int .u8 27, .int .u8 13, .int .u8 23, .int .u8 21, .int .u8 19, .int .u8 16, .int .u8 7, .int .u8 26, .int .u8 12, .int .u8 18, .int .u8 6, .int .u8 11, .int .u8 5, .int .u8 10, .int .u8 9]=qB cs from h);exact q0E hh hL (nm := "math/bits.deBruijn32tab") (t := 484) (e := 5) (n := 32) (k := .u8) [0, 1, 28, 2, 29, 14, 24, 3, 30, 22, 20, 15, 25, 17, 4, 8, 31, 27, 13, 23, 21, 19, 16, 7, 26, 12, 18, 6, 11, 5, 10, 9] (by unfold u0h; simp only [aS, cB, or_false]; first | exact vK rfl | exact yF (vK rfl) | exact yF (yF (vK rfl)) | exact yF rfl | exact yF (yF rfl) | exact yF (yF (yF rfl)) | rfl) cY cY Tryz.underlying484 Tryz.underlying5 cY cY;by_cases h4:g=4;subst h4;obtain rfl:=ar (show qB [.int .u8 0, .int .u8 1, .int .u8 56, .int .u8 2, .int .u8 57, .int .u8 49, .int .u8 28, .int .u8 3, .int .u8 61, .int .u8 58, .int .u8 42, .int .u8 50, .int .u8 38, .int .u8 29, .int .u8 17, .int .u8 4, .int .u8 62, .int .u8 47, .int .u8 59, .int .u8 36, .int .u8 45, .int .u8 43, .int .u8 51, .int .u8 22, .int .u8 53, .int .u8 39, .int .u8 33, .int .u8 30, .int .u8 24, .int .u8 18, .int .u8 12, .int .u8 5, .int .u8 63, .int .u8 55, .int .u8 48, .int .u8 27, .int .u8 60, .int .u8 41, .int .u8 37, .int .u8 16, .int .u8 46, .int .u8 35, .int .u8 44, .int .u8 21, .int .u8 52, .int .u8 32, .int .u8 23, .int .u8 11, .int .u8 54, .int .u8 26, .int .u8 40, .int .u8 15, .int .u8 34, .int .u8 20, .int .u8 31, .int .u8 10, .int .u8 25, .int .u8 14, .int .u8 19, .int .u8 9, .int .u8 13, .int .u8 8, .int .u8 7, .int .u8 6]=qB cs from h);exact q0E hh hL (nm := "math/bits.deBruijn64tab") (t := 485) (e := 5) (n := 64) (k := .u8) [0, 1, 56, 2, 57, 49, 28, 3, 61, 58, 42, 50, 38, 29, 17, 4, 62, 47, 59, 36, 45, 43, 51, 22, 53, 39, 33, 30, 24, 18, 12, 5, 63, 55, 48, 27, 60, 41, 37, 16, 46, 35, 44, 21, 52, 32, 23, 11, 54, 26, 40, 15, 34, 20, 31, 10, 25, 14, 19, 9, 13, 8, 7, 6] (by unfold u0h; simp only [aS, cB, or_false]; first | exact vK rfl | exact yF (vK rfl) | exact yF (yF (vK rfl)) | exact yF rfl | exact yF (yF rfl) | exact yF (yF (yF rfl)) | rfl) cY cY Tryz.underlying485 Tryz.underlying5 cY cY;exfalso
  have:G0m g=none:=by
    unfold G0m;split<;>first|rfl|(exfalso;simp_all)
  rw[show L0V g=G0m g from rfl,this]at h;cases h

theorem D0W {P:Program} (h:P.funcs.toList.any Func.goes=vB)(f:FuncId):P.goes f=false:=by
  have h1: ∀fn∈P.funcs.toList,fn.goes=false:=λfn hm=>by
    rw[List.any_eq_false]at h;simpa using h fn hm
  have h2:P.funcs.any Func.goes=false:=by rw[<-Array.any_toList];exact h
  unfold Program.goes;rw[h2,Bool.and_false,Bool.or_false,List.any_eq_false];intro g _
  cases hg:P.funcs[g]? with
  |none=>simp
  |some fn=>
    have hm:fn∈P.funcs.toList:=by
      rw[aK];exact Array.mem_of_getElem? hg
    simp[h1 fn hm]
theorem go0:Tryz.prog.funcs.toList.any Func.goes=false:=by kernel_rfl
theorem D0X(s:String):vB=Tryz.prog.goesFrom s:=by
  unfold Program.goesFrom
  cases Tryz.prog.funcNamed s with
  |none=>rfl
  |some f=>exact(D0W go0 f).symm
theorem I0V:vB=Rows.certStopsRow.goesBy Tryz.prog:=by
  show vB=(Tryz.prog.goesFrom _||false);rw[Bool.or_false];exact D0X _
set_option maxRecDepth 100000 in
theorem s0l(os:Os)(started:os.Started)(H:Type)(enc:TypeId×Value->H):
    ReturnsInHanded {} Tryz.checked os 5 .any (λw args=>(Rows.certStopsSpec.pre enc Tryz.prog Tryz.f5 [] vB w args/\laidMetH Tryz.prog u0h w)/\sizedMet enc Tryz.prog Tryz.f5 (OpenSpec.ofChange Rows.certStopsSpec) vB w args) (Rows.certStopsSpec.post enc Tryz.prog Tryz.f5 vB yB vB vB):=by
  refine returnsInHanded_of_change_and (C:=Tryz.checked) (X:=λw _=>laidMetH Tryz.prog u0h w) (λ_ _ _ hh h=>h.of_heap hh) Tryz.own started cY Tryz.func5
    (ChangeSpec.witness_shaped (enc:=enc) (C:=Tryz.checked) (os:=os) (X:=λw _=>laidMetH Tryz.prog u0h w) vB (World.doorLaid Tryz.prog 4000 os) #[.agg #[.string ⟨#[]⟩, .int .i32 0, .int .i32 0, .int .i32 0, .int .i32 0, .int .i32 0, .int .i32 0, .int .i32 0, .string ⟨#[]⟩, .string ⟨#[]⟩, .string ⟨#[]⟩, .string ⟨#[]⟩, .slice none 0 0, .slice none 0 0, .slice none 0 0, .int .i64 0, .int .i64 0, .string ⟨#[]⟩, .slice none 0 0, .bool vB, .bool vB, .bool vB, .bool vB, .slice none 0 0, .int .i64 0, .int .u8 0, .int .u8 0]] 8 rfl (World.shaped_of_RefB cY cY) cY cY cY (G0v os _)) ?_
  intro W base args ds gs before hval0 hW _ hsz0 hL _;have hsz:(DataW.weightsEach Tryz.prog (Tryz.f5.params.toList++Rows.certStopsSpec.plain.varTypes Tryz.prog) (ds++gs)).all (· <=reachBytes)=true:=hsz0;clear hsz0;refine G0f (P:=Tryz.prog) (n:=5) (tb:=4) Tryz.laidOut Tryz.underlying4 rfl rfl cY (λh=> ?_) hval0 hW ?_ (G0n hL);rw[Tryz.params5]at h;obtain⟨d0,rfl⟩:=l1 h;exact⟨rfl,rfl,rfl⟩;intro ss hg hl1 hl2 hs;subst hg;rw[Tryz.params5]at hl1 hl2 hs hsz;obtain⟨d0,rfl⟩:=l1 hl1;obtain⟨s0,rfl⟩:=l1 hl2;obtain⟨cs0,rfl,hc0⟩:=v0f Tryz.underlying60 (hs 0 60 _ _ rfl rfl rfl);obtain⟨a0,rfl,w0⟩:=C0k (n:=0) _ _ hc0 (y0p hsz (j:=0) rfl rfl);exact⟨[],l0a (u0o a0 w0)⟩
theorem w0k:Rows.CertStopsSaid:=
  OpenClaim.holds_of_wide 5 Tryz.f5 rfl rfl rfl rfl rfl rfl rfl ⟨rfl,rfl,rfl,rfl,rfl⟩ rfl rfl rfl rfl rfl cY Tryz.func5 qJ
    (jF cY) (by unfold Func.isWrapper;first|(rw[qC (by decide+kernel)];kernel_rfl)|(rw[wC (by decide+kernel)];exact⟨rfl,rfl⟩))
    (λos started H enc _=>s0l os started H enc)

theorem CertStops_holds:Rows.CertStopsCardSaid:=
  Claim7.holds_tied_plain_at .later [] [.data, .data, .data, .data] yB (yB, "c506bdc50fc89279cc88e470994b36ad160b1e57bffd288459224d24eab5d144") vB
    w0k (λ_ h=>by cases h) cY (λ_ h=>by cases h) certStops_row_tie rfl ⟨rfl,rfl⟩ cY rfl
    (λf fn hf hfn=>by
      obtain rfl : f = 5 := ar ((show Tryz.prog.funcNamed "exergue/exerguelaw20.CertStops" = qB 5 by kernel_rfl).symm.trans hf) |>.symm;obtain rfl:fn=Tryz.f5:=(ar (Tryz.func5.symm.trans hfn)).symm
      exact⟨cY,λj t ht=>by
        rw[Tryz.params5]at ht;have hm:t∈ [60]:=by simpa using Array.mem_of_getElem? ht
        have hall:([60].all λu=> !Tryz.prog.wantsStandIn u)=true:=by kernel_rfl
        exact(show Tryz.prog.wantsStandIn t=vB by simpa using List.all_eq_true.1 hall t hm)⟩)
    I0V

end Go.Proofs.YtafbfodcilkgmaaGreatDoor
