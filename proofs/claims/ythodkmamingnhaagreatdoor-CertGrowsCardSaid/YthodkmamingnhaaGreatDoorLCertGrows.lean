/-
  The statement CertGrowsCard is proved: at every input the law answers true, and its input reads as it did. Conditions: those of the card (package variables are as the program text lays them).
-/
import Derived.Test.YthodkmamingnhaaGreatDoorJ
import Derived.Test.YthodkmamingnhaaGreatDoorP
import Derived.Test.YthodkmamingnhaaGreatDoorCards
import Derived.Test.YthodkmamingnhaaGreatDoorTie
import Derived.ProofKit
import Derived.SizedLaws
import Derived.LaidMore
import Derived.SevenTiedAt
set_option linter.all false
namespace Go.Proofs.YthodkmamingnhaaGreatDoor
open Go Go.Sy Go.RowKit Go.ChangeShapes Go.WideShapes Go.ChangeAt
set_option maxRecDepth 100000
set_option maxHeartbeats 4000000

theorem Tryz.own:ownKnob Tryz.prog.godebug=none:=by kernel_rfl
theorem Tryz.laidOut:laidOutB Tryz.prog=true:=by kernel_rfl

theorem B0k {α:Type} {l:List α} (h:l.length=2): ∃a0 a1,l=[a0,a1]:=by
  match l,h with
  | [a0,a1],_=>exact⟨a0,a1,rfl⟩
theorem y0I {α:Type} {l:List α} (h:l.length=3): ∃a0 a1 a2,l=[a0,a1,a2]:=by
  match l,h with
  | [a0,a1,a2],_=>exact⟨a0,a1,a2,rfl⟩
theorem B0j {α:Type} {l:List α} (h:l.length=4): ∃a0 a1 a2 a3,l=[a0,a1,a2,a3]:=by
  match l,h with
  | [a0,a1,a2,a3],_=>exact⟨a0,a1,a2,a3,rfl⟩
theorem y0H {α:Type} {l:List α} (h:l.length=7): ∃a0 a1 a2 a3 a4 a5 a6,l=[a0,a1,a2,a3,a4,a5,a6]:=by
  match l,h with
  | [a0,a1,a2,a3,a4,a5,a6],_=>exact⟨a0,a1,a2,a3,a4,a5,a6,rfl⟩
theorem z0N {α:Type} {l:List α} (h:l.length=15): ∃a0 a1 a2 a3 a4 a5 a6 a7 a8 a9 a10 a11 a12 a13 a14,l=[a0,a1,a2,a3,a4,a5,a6,a7,a8,a9,a10,a11,a12,a13,a14]:=by
  match l,h with
  | [a0,a1,a2,a3,a4,a5,a6,a7,a8,a9,a10,a11,a12,a13,a14],_=>exact⟨a0,a1,a2,a3,a4,a5,a6,a7,a8,a9,a10,a11,a12,a13,a14,rfl⟩
theorem z0M {α:Type} {l:List α} (h:l.length=25): ∃a0 a1 a2 a3 a4 a5 a6 a7 a8 a9 a10 a11 a12 a13 a14 a15 a16 a17 a18 a19 a20 a21 a22 a23 a24,l=[a0,a1,a2,a3,a4,a5,a6,a7,a8,a9,a10,a11,a12,a13,a14,a15,a16,a17,a18,a19,a20,a21,a22,a23,a24]:=by
  match l,h with
  | [a0,a1,a2,a3,a4,a5,a6,a7,a8,a9,a10,a11,a12,a13,a14,a15,a16,a17,a18,a19,a20,a21,a22,a23,a24],_=>exact⟨a0,a1,a2,a3,a4,a5,a6,a7,a8,a9,a10,a11,a12,a13,a14,a15,a16,a17,a18,a19,a20,a21,a22,a23,a24,rfl⟩
/-- Its numbers are numbers of their kinds, its lists no longer than memory. -/
def w0T(x:c0T):Prop:=(WfI .i32) x.Y_/\(WfI .i32) x.t_/\(WfI .i32) x.r_/\(WfI .i32) x.k_/\(WfI .i32) x.j_/\(WfI .i32) x.m_/\(WfI .i32) x.b_
theorem u0Q {n:Nat} :m0v Tryz.prog (n+2) 23 a0d w0T:=λd cs h hs=>by
  have hl:cs.length=7:=(g0N Tryz.underlying23 h).trans (by kernel_rfl)
  obtain⟨c0,c1,c2,c3,c4,c5,c6,rfl⟩:=y0H hl
  obtain⟨p0,h0,z0⟩:=a0t Tryz.underlying23 h hs 0 21 [c0] (by kernel_rfl)
  obtain⟨x0,e0,w0⟩: ∃x:Int,[c0]=(a0s .i32) x/\(WfI .i32) x:=(c0p Tryz.underlying21) p0 _ h0 z0
  obtain⟨p1,h1,z1⟩:=a0t Tryz.underlying23 h hs 1 21 [c1] (by kernel_rfl)
  obtain⟨x1,e1,w1⟩: ∃x:Int,[c1]=(a0s .i32) x/\(WfI .i32) x:=(c0p Tryz.underlying21) p1 _ h1 z1
  obtain⟨p2,h2,z2⟩:=a0t Tryz.underlying23 h hs 2 21 [c2] (by kernel_rfl)
  obtain⟨x2,e2,w2⟩: ∃x:Int,[c2]=(a0s .i32) x/\(WfI .i32) x:=(c0p Tryz.underlying21) p2 _ h2 z2
  obtain⟨p3,h3,z3⟩:=a0t Tryz.underlying23 h hs 3 21 [c3] (by kernel_rfl)
  obtain⟨x3,e3,w3⟩: ∃x:Int,[c3]=(a0s .i32) x/\(WfI .i32) x:=(c0p Tryz.underlying21) p3 _ h3 z3
  obtain⟨p4,h4,z4⟩:=a0t Tryz.underlying23 h hs 4 21 [c4] (by kernel_rfl)
  obtain⟨x4,e4,w4⟩: ∃x:Int,[c4]=(a0s .i32) x/\(WfI .i32) x:=(c0p Tryz.underlying21) p4 _ h4 z4
  obtain⟨p5,h5,z5⟩:=a0t Tryz.underlying23 h hs 5 21 [c5] (by kernel_rfl)
  obtain⟨x5,e5,w5⟩: ∃x:Int,[c5]=(a0s .i32) x/\(WfI .i32) x:=(c0p Tryz.underlying21) p5 _ h5 z5
  obtain⟨p6,h6,z6⟩:=a0t Tryz.underlying23 h hs 6 21 [c6] (by kernel_rfl)
  obtain⟨x6,e6,w6⟩: ∃x:Int,[c6]=(a0s .i32) x/\(WfI .i32) x:=(c0p Tryz.underlying21) p6 _ h6 z6
  refine⟨⟨x0,x1,x2,x3,x4,x5,x6⟩, ?_,⟨w0,w1,w2,w3,w4,w5,w6⟩⟩
  show [c0]++ [c1]++ [c2]++ [c3]++ [c4]++ [c5]++ [c6]=((a0s .i32) x0++(a0s .i32) x1++(a0s .i32) x2++(a0s .i32) x3++(a0s .i32) x4++(a0s .i32) x5++(a0s .i32) x6)
  rw[e0,e1,e2,e3,e4,e5,e6]
/-- Its numbers are numbers of their kinds, its lists no longer than memory. -/
def w0S(x:A0J):Prop:=WfT x.g_/\WfT x.h_/\WfT x.n_/\WfT x.x_
theorem u0P {n:Nat} :m0v Tryz.prog (n+2) 24 p0x w0S:=λd cs h hs=>by
  have hl:cs.length=4:=(t0D Tryz.underlying24 h).trans (by kernel_rfl)
  obtain⟨c0,c1,c2,c3,rfl⟩:=B0j hl
  obtain⟨p0,h0,z0⟩:=j0X Tryz.underlying24 h hs 0 [c0] (by kernel_rfl) (by kernel_rfl)
  obtain⟨x0,e0,w0⟩: ∃x:List UInt8,[c0]=n0W x/\WfT x:=(e0v Tryz.underlying9) p0 _ h0 z0
  obtain⟨p1,h1,z1⟩:=j0X Tryz.underlying24 h hs 1 [c1] (by kernel_rfl) (by kernel_rfl)
  obtain⟨x1,e1,w1⟩: ∃x:List UInt8,[c1]=n0W x/\WfT x:=(e0v Tryz.underlying9) p1 _ h1 z1
  obtain⟨p2,h2,z2⟩:=j0X Tryz.underlying24 h hs 2 [c2] (by kernel_rfl) (by kernel_rfl)
  obtain⟨x2,e2,w2⟩: ∃x:List UInt8,[c2]=n0W x/\WfT x:=(e0v Tryz.underlying9) p2 _ h2 z2
  obtain⟨p3,h3,z3⟩:=j0X Tryz.underlying24 h hs 3 [c3] (by kernel_rfl) (by kernel_rfl)
  obtain⟨x3,e3,w3⟩: ∃x:List UInt8,[c3]=n0W x/\WfT x:=(e0v Tryz.underlying9) p3 _ h3 z3
  refine⟨⟨x0,x1,x2,x3⟩, ?_,⟨w0,w1,w2,w3⟩⟩
  show [c0]++ [c1]++ [c2]++ [c3]=(n0W x0++n0W x1++n0W x2++n0W x3)
  rw[e0,e1,e2,e3]
/-- Its numbers are numbers of their kinds, its lists no longer than memory. -/
def r0p(x:o0h):Prop:=(WfI .i64) x.af_/\WfT x.ag_
theorem u0L {n:Nat} :m0v Tryz.prog (n+2) 67 c0d r0p:=λd cs h hs=>by
  have hl:cs.length=2:=(g0N Tryz.underlying67 h).trans (by kernel_rfl)
  obtain⟨c0,c1,rfl⟩:=B0k hl
  obtain⟨p0,h0,z0⟩:=a0t Tryz.underlying67 h hs 0 3 [c0] (by kernel_rfl)
  obtain⟨x0,e0,w0⟩: ∃x:Int,[c0]=(a0s .i64) x/\(WfI .i64) x:=(c0p Tryz.underlying3) p0 _ h0 z0
  obtain⟨p1,h1,z1⟩:=a0t Tryz.underlying67 h hs 1 9 [c1] (by kernel_rfl)
  obtain⟨x1,e1,w1⟩: ∃x:List UInt8,[c1]=n0W x/\WfT x:=(e0v Tryz.underlying9) p1 _ h1 z1
  refine⟨⟨x0,x1⟩, ?_,⟨w0,w1⟩⟩
  show [c0]++ [c1]=((a0s .i64) x0++n0W x1)
  rw[e0,e1]
/-- Its numbers are numbers of their kinds, its lists no longer than memory. -/
def r0o(x:o0J):Prop:=WfT x.V_/\WfT x.l_/\(WfI .i64) x.aq_
theorem u0K {n:Nat} :m0v Tryz.prog (n+2) 70 c0Q r0o:=λd cs h hs=>by
  have hl:cs.length=3:=(g0N Tryz.underlying70 h).trans (by kernel_rfl)
  obtain⟨c0,c1,c2,rfl⟩:=y0I hl
  obtain⟨p0,h0,z0⟩:=a0t Tryz.underlying70 h hs 0 9 [c0] (by kernel_rfl)
  obtain⟨x0,e0,w0⟩: ∃x:List UInt8,[c0]=n0W x/\WfT x:=(e0v Tryz.underlying9) p0 _ h0 z0
  obtain⟨p1,h1,z1⟩:=a0t Tryz.underlying70 h hs 1 9 [c1] (by kernel_rfl)
  obtain⟨x1,e1,w1⟩: ∃x:List UInt8,[c1]=n0W x/\WfT x:=(e0v Tryz.underlying9) p1 _ h1 z1
  obtain⟨p2,h2,z2⟩:=a0t Tryz.underlying70 h hs 2 3 [c2] (by kernel_rfl)
  obtain⟨x2,e2,w2⟩: ∃x:Int,[c2]=(a0s .i64) x/\(WfI .i64) x:=(c0p Tryz.underlying3) p2 _ h2 z2
  refine⟨⟨x0,x1,x2⟩, ?_,⟨w0,w1,w2⟩⟩
  show [c0]++ [c1]++ [c2]=(n0W x0++n0W x1++(a0s .i64) x2)
  rw[e0,e1,e2]
/-- Its numbers are numbers of their kinds, its lists no longer than memory. -/
def r0n(x:l0b):Prop:=(WfI .i64) x.ah_/\(WfI .i64) x.af_/\WfT x.Z_
theorem u0J {n:Nat} :m0v Tryz.prog (n+2) 73 b0L r0n:=λd cs h hs=>by
  have hl:cs.length=3:=(g0N Tryz.underlying73 h).trans (by kernel_rfl)
  obtain⟨c0,c1,c2,rfl⟩:=y0I hl
  obtain⟨p0,h0,z0⟩:=a0t Tryz.underlying73 h hs 0 3 [c0] (by kernel_rfl)
  obtain⟨x0,e0,w0⟩: ∃x:Int,[c0]=(a0s .i64) x/\(WfI .i64) x:=(c0p Tryz.underlying3) p0 _ h0 z0
  obtain⟨p1,h1,z1⟩:=a0t Tryz.underlying73 h hs 1 3 [c1] (by kernel_rfl)
  obtain⟨x1,e1,w1⟩: ∃x:Int,[c1]=(a0s .i64) x/\(WfI .i64) x:=(c0p Tryz.underlying3) p1 _ h1 z1
  obtain⟨p2,h2,z2⟩:=a0t Tryz.underlying73 h hs 2 9 [c2] (by kernel_rfl)
  obtain⟨x2,e2,w2⟩: ∃x:List UInt8,[c2]=n0W x/\WfT x:=(e0v Tryz.underlying9) p2 _ h2 z2
  refine⟨⟨x0,x1,x2⟩, ?_,⟨w0,w1,w2⟩⟩
  show [c0]++ [c1]++ [c2]=((a0s .i64) x0++(a0s .i64) x1++n0W x2)
  rw[e0,e1,e2]
/-- Its numbers are numbers of their kinds, its lists no longer than memory. -/
def r0q(x:g0l):Prop:=WfT x.J_/\w0T x.S_/\w0S x.a_/\(WfL r0p) x.T_/\(WfL r0o) x.i_/\(WfL r0n) x.f_
theorem u0O {n:Nat} :m0v Tryz.prog (n+4) 29 a0y r0q:=λd cs h hs=>by
  have hl:cs.length=15:=(g0N Tryz.underlying29 h).trans (by kernel_rfl)
  obtain⟨c0,c1,c2,c3,c4,c5,c6,c7,c8,c9,c10,c11,c12,c13,c14,rfl⟩:=z0N hl
  obtain⟨p0,h0,z0⟩:=a0t Tryz.underlying29 h hs 0 9 [c0] (by kernel_rfl)
  obtain⟨x0,e0,w0⟩: ∃x:List UInt8,[c0]=n0W x/\WfT x:=(e0v Tryz.underlying9) p0 _ h0 z0
  obtain⟨p1,h1,z1⟩:=a0t Tryz.underlying29 h hs 1 23 [c1,c2,c3,c4,c5,c6,c7] (by kernel_rfl)
  obtain⟨x1,e1,w1⟩: ∃x:c0T,[c1,c2,c3,c4,c5,c6,c7]=a0d x/\w0T x:=u0Q p1 _ h1 z1
  obtain⟨p2,h2,z2⟩:=a0t Tryz.underlying29 h hs 2 24 [c8,c9,c10,c11] (by kernel_rfl)
  obtain⟨x2,e2,w2⟩: ∃x:A0J,[c8,c9,c10,c11]=p0x x/\w0S x:=u0P p2 _ h2 z2
  obtain⟨p3,h3,z3⟩:=a0t Tryz.underlying29 h hs 3 25 [c12] (by kernel_rfl)
  obtain⟨x3,e3,w3⟩: ∃x:List o0h,[c12]=(f0c c0d 2) x/\(WfL r0p) x:=(j0V (enc:=c0d) (Wf:=r0p) Tryz.underlying25 (k:=2) (by kernel_rfl) (by kernel_rfl) u0L) p3 _ h3 z3
  obtain⟨p4,h4,z4⟩:=a0t Tryz.underlying29 h hs 4 26 [c13] (by kernel_rfl)
  obtain⟨x4,e4,w4⟩: ∃x:List o0J,[c13]=(f0c c0Q 3) x/\(WfL r0o) x:=(j0V (enc:=c0Q) (Wf:=r0o) Tryz.underlying26 (k:=3) (by kernel_rfl) (by kernel_rfl) u0K) p4 _ h4 z4
  obtain⟨p5,h5,z5⟩:=a0t Tryz.underlying29 h hs 5 27 [c14] (by kernel_rfl)
  obtain⟨x5,e5,w5⟩: ∃x:List l0b,[c14]=(f0c b0L 3) x/\(WfL r0n) x:=(j0V (enc:=b0L) (Wf:=r0n) Tryz.underlying27 (k:=3) (by kernel_rfl) (by kernel_rfl) u0J) p5 _ h5 z5
  refine⟨⟨x0,x1,x2,x3,x4,x5⟩, ?_,⟨w0,w1,w2,w3,w4,w5⟩⟩
  show [c0]++ [c1,c2,c3,c4,c5,c6,c7]++ [c8,c9,c10,c11]++ [c12]++ [c13]++ [c14]=(n0W x0++a0d x1++p0x x2++(f0c c0d 2) x3++(f0c c0Q 3) x4++(f0c b0L 3) x5)
  rw[e0,e1,e2,e3,e4,e5]
/-- Its numbers are numbers of their kinds, its lists no longer than memory. -/
def w0R(x:t0t):Prop:=(WfI .i64) x.F_/\(WfI .i64) x.ak_/\WfT x.V_/\(WfL (WfI .i32)) x.l_/\WfB x.ac_/\WfB x.aj_/\WfB x.j_
theorem u0N {n:Nat} :m0v Tryz.prog (n+3) 32 g0r w0R:=λd cs h hs=>by
  have hl:cs.length=7:=(g0N Tryz.underlying32 h).trans (by kernel_rfl)
  obtain⟨c0,c1,c2,c3,c4,c5,c6,rfl⟩:=y0H hl
  obtain⟨p0,h0,z0⟩:=a0t Tryz.underlying32 h hs 0 3 [c0] (by kernel_rfl)
  obtain⟨x0,e0,w0⟩: ∃x:Int,[c0]=(a0s .i64) x/\(WfI .i64) x:=(c0p Tryz.underlying3) p0 _ h0 z0
  obtain⟨p1,h1,z1⟩:=a0t Tryz.underlying32 h hs 1 3 [c1] (by kernel_rfl)
  obtain⟨x1,e1,w1⟩: ∃x:Int,[c1]=(a0s .i64) x/\(WfI .i64) x:=(c0p Tryz.underlying3) p1 _ h1 z1
  obtain⟨p2,h2,z2⟩:=a0t Tryz.underlying32 h hs 2 9 [c2] (by kernel_rfl)
  obtain⟨x2,e2,w2⟩: ∃x:List UInt8,[c2]=n0W x/\WfT x:=(e0v Tryz.underlying9) p2 _ h2 z2
  obtain⟨p3,h3,z3⟩:=a0t Tryz.underlying32 h hs 3 30 [c3] (by kernel_rfl)
  obtain⟨x3,e3,w3⟩: ∃x:List Int,[c3]=(f0c (a0s .i32) 1) x/\(WfL (WfI .i32)) x:=(j0V (enc:=(a0s .i32)) (Wf:=(WfI .i32)) Tryz.underlying30 (k:=1) (by kernel_rfl) (by kernel_rfl) (c0p Tryz.underlying21)) p3 _ h3 z3
  obtain⟨p4,h4,z4⟩:=a0t Tryz.underlying32 h hs 4 4 [c4] (by kernel_rfl)
  obtain⟨x4,e4,w4⟩: ∃x:Bool,[c4]=A0q x/\WfB x:=(l0P Tryz.underlying4) p4 _ h4 z4
  obtain⟨p5,h5,z5⟩:=a0t Tryz.underlying32 h hs 5 4 [c5] (by kernel_rfl)
  obtain⟨x5,e5,w5⟩: ∃x:Bool,[c5]=A0q x/\WfB x:=(l0P Tryz.underlying4) p5 _ h5 z5
  obtain⟨p6,h6,z6⟩:=a0t Tryz.underlying32 h hs 6 4 [c6] (by kernel_rfl)
  obtain⟨x6,e6,w6⟩: ∃x:Bool,[c6]=A0q x/\WfB x:=(l0P Tryz.underlying4) p6 _ h6 z6
  refine⟨⟨x0,x1,x2,x3,x4,x5,x6⟩, ?_,⟨w0,w1,w2,w3,w4,w5,w6⟩⟩
  show [c0]++ [c1]++ [c2]++ [c3]++ [c4]++ [c5]++ [c6]=((a0s .i64) x0++(a0s .i64) x1++n0W x2++(f0c (a0s .i32) 1) x3++A0q x4++A0q x5++A0q x6)
  rw[e0,e1,e2,e3,e4,e5,e6]
/-- Its numbers are numbers of their kinds, its lists no longer than memory. -/
def z0e(x:A0I):Prop:=r0q x.L_/\w0R x.Q_/\(WfI .u16) x.N_/\(WfI .u16) x.E_/\(WfI .u8) x.ad_
theorem u0M {n:Nat} :m0v Tryz.prog (n+5) 35 s0p z0e:=λd cs h hs=>by
  have hl:cs.length=25:=(g0N Tryz.underlying35 h).trans (by kernel_rfl)
  obtain⟨c0,c1,c2,c3,c4,c5,c6,c7,c8,c9,c10,c11,c12,c13,c14,c15,c16,c17,c18,c19,c20,c21,c22,c23,c24,rfl⟩:=z0M hl
  obtain⟨p0,h0,z0⟩:=a0t Tryz.underlying35 h hs 0 29 [c0,c1,c2,c3,c4,c5,c6,c7,c8,c9,c10,c11,c12,c13,c14] (by kernel_rfl)
  obtain⟨x0,e0,w0⟩: ∃x:g0l,[c0,c1,c2,c3,c4,c5,c6,c7,c8,c9,c10,c11,c12,c13,c14]=a0y x/\r0q x:=u0O p0 _ h0 z0
  obtain⟨p1,h1,z1⟩:=a0t Tryz.underlying35 h hs 1 32 [c15,c16,c17,c18,c19,c20,c21] (by kernel_rfl)
  obtain⟨x1,e1,w1⟩: ∃x:t0t,[c15,c16,c17,c18,c19,c20,c21]=g0r x/\w0R x:=u0N p1 _ h1 z1
  obtain⟨p2,h2,z2⟩:=a0t Tryz.underlying35 h hs 2 33 [c22] (by kernel_rfl)
  obtain⟨x2,e2,w2⟩: ∃x:Int,[c22]=(a0s .u16) x/\(WfI .u16) x:=(c0p Tryz.underlying33) p2 _ h2 z2
  obtain⟨p3,h3,z3⟩:=a0t Tryz.underlying35 h hs 3 33 [c23] (by kernel_rfl)
  obtain⟨x3,e3,w3⟩: ∃x:Int,[c23]=(a0s .u16) x/\(WfI .u16) x:=(c0p Tryz.underlying33) p3 _ h3 z3
  obtain⟨p4,h4,z4⟩:=a0t Tryz.underlying35 h hs 4 5 [c24] (by kernel_rfl)
  obtain⟨x4,e4,w4⟩: ∃x:Int,[c24]=(a0s .u8) x/\(WfI .u8) x:=(c0p Tryz.underlying5) p4 _ h4 z4
  refine⟨⟨x0,x1,x2,x3,x4⟩, ?_,⟨w0,w1,w2,w3,w4⟩⟩
  show [c0,c1,c2,c3,c4,c5,c6,c7,c8,c9,c10,c11,c12,c13,c14]++ [c15,c16,c17,c18,c19,c20,c21]++ [c22]++ [c23]++ [c24]=(a0y x0++g0r x1++(a0s .u16) x2++(a0s .u16) x3++(a0s .u8) x4)
  rw[e0,e1,e2,e3,e4]
def tot {T:Type} (f:T->Nat)(l:List T):Nat:=(l.map f).sum
theorem o0M {T:Type} (f:T->Nat)(l:List T)(x:T):tot f (l++ [x])=tot f l+f x:=by simp[tot]
theorem o0j {T:Type} {f:T->Nat} {B:Nat} : ∀ {l:List T},(∀x∈l,f x<=B)->tot f l<=l.length*B
  | [],_=>by simp[tot]
  |x::l,h=>by
    have h1:=h x (ar ..)
    have h2:=o0j (l:=l) λy hy=>h y (am _ hy)
    simp only[tot,aj,List.sum_cons,aS,bp]at h2⊢
    omega
theorem r0x {T:Type} (f:T->Nat): ∀ {l:List T} {x:T},x∈l->f x<=tot f l
  |y::l,x,h=>by
    simp only[tot,aj,List.sum_cons]
    rcases aO.1 h with rfl|h
    omega
    have:=r0x f h;simp only[tot]at this;omega
def pS(x0:g0l)(s0:Int×Int):Option ((Int×Int)⊕Int):=
  (bif(decide (s0.2<4))then(bif(decide (s0.2=0))then(some (.inl ((IntKind.wrap .i64 (s0.1+(x0.a_.g_.length:Int))),(IntKind.wrap .i64 (0+1)))))else(bif(decide (s0.2=1))then(some (.inl ((IntKind.wrap .i64 (s0.1+(x0.a_.h_.length:Int))),(IntKind.wrap .i64 (1+1)))))else(bif(decide (s0.2=2))then(some (.inl ((IntKind.wrap .i64 (s0.1+(x0.a_.n_.length:Int))),(IntKind.wrap .i64 (2+1)))))else(bif(decide (s0.2=3))then(some (.inl ((IntKind.wrap .i64 (s0.1+(x0.a_.x_.length:Int))),(IntKind.wrap .i64 (3+1)))))else none))))else(some (.inr s0.1)))
def rS(xs:List o0h)(s2:Int×Int):Option ((Int×Int)⊕Int):=
  (bif(decide (s2.2<(xs.length:Int)))then(bif inR s2.2 xs.length then(some (.inl ((IntKind.wrap .i64 (s2.1+((((nth xs s2.2).ag_).length:Int)))),(IntKind.wrap .i64 (s2.2+1)))))else none)else(some (.inr s2.1)))
def cS(xs:List o0J)(s1:Int×Int):Option ((Int×Int)⊕Int):=
  (bif(decide (s1.2<(xs.length:Int)))then(bif inR s1.2 xs.length then(bif inR s1.2 xs.length then(some (.inl ((IntKind.wrap .i64 (((IntKind.wrap .i64 (s1.1+((((nth xs s1.2).V_).length:Int)))))+((((nth xs s1.2).l_).length:Int)))),(IntKind.wrap .i64 (s1.2+1)))))else none)else none)else(some (.inr s1.1)))
def B0U(xs:List l0b)(s3:Int×Int):Option ((Int×Int)⊕Int):=
  (bif(decide (s3.2<(xs.length:Int)))then(bif inR s3.2 xs.length then(some (.inl ((IntKind.wrap .i64 (s3.1+((((nth xs s3.2).Z_).length:Int)))),(IntKind.wrap .i64 (s3.2+1)))))else none)else(some (.inr s3.1)))
theorem x0i(x0:g0l):c0W x0=(Option.bind (a0x (pS x0) big ((x0.J_.length:Int),0)) fun(s4:Int)=>(Option.bind (Option.bind (bif(decide ((x0.T_.length:Int)>8))then(some true)else(bif(decide ((x0.i_.length:Int)>105))then(some true)else(some ((decide ((x0.f_.length:Int)>95)))))) fun(s5:Bool)=>(bif s5 then(some (.inr false))else(some (.inl ())))) (a0m fun(s9:Unit)=>(Option.bind (a0x (rS x0.T_) big (s4,0)) fun(s6:Int)=>(Option.bind (a0x (cS x0.i_) big (s6,0)) fun(s7:Int)=>(Option.bind (a0x (B0U x0.f_) big (s7,0)) fun(s8:Int)=>(some (decide (s8<=6000))))))))):=rfl
def y0A(l:g0l):Nat:=l.J_.length+l.a_.g_.length+l.a_.h_.length+l.a_.n_.length+l.a_.x_.length
theorem C0P {l:g0l} (w:r0q l):a0x (pS l) big ((l.J_.length:Int),0)=some ((y0A l:Nat):Int):=by
  obtain⟨w0,_,⟨w1,w2,w3,w4⟩,_⟩:=w
  unfold WfT at w0 w1 w2 w3 w4
  have hb:big=18446744073709551611+1+1+1+1+1:=rfl
  rw[hb]
  refine(f0N (s':=((l.J_.length:Int)+l.a_.g_.length,1)) ?_).trans ?_
  show some (Sum.inl (_,_))=_
  rw[w64 (n:=(l.J_.length:Int)+l.a_.g_.length) (by omega) (by omega)];rfl
  refine(f0N (s':=((l.J_.length:Int)+l.a_.g_.length+l.a_.h_.length,2)) ?_).trans ?_
  show some (Sum.inl (_,_))=_
  rw[w64 (n:=(l.J_.length:Int)+l.a_.g_.length+l.a_.h_.length) (by omega) (by omega)];rfl
  refine(f0N (s':=((l.J_.length:Int)+l.a_.g_.length+l.a_.h_.length+l.a_.n_.length,3)) ?_).trans ?_
  show some (Sum.inl (_,_))=_
  rw[w64 (n:=(l.J_.length:Int)+l.a_.g_.length+l.a_.h_.length+l.a_.n_.length) (by omega) (by omega)];rfl
  refine(f0N (s':=((l.J_.length:Int)+l.a_.g_.length+l.a_.h_.length+l.a_.n_.length+l.a_.x_.length,4)) ?_).trans ?_
  show some (Sum.inl (_,_))=_
  rw[w64 (n:=(l.J_.length:Int)+l.a_.g_.length+l.a_.h_.length+l.a_.n_.length+l.a_.x_.length) (by omega) (by omega)];rfl
  refine h0N ?_
  show some (Sum.inr _)=_
  unfold y0A
  simp
theorem C0N {xs:List o0h} {a:Nat} (ha:a<=9007199254740992)(hx:xs.length<=8)(w: ∀x∈xs,r0p x):a0x (rS xs) big ((a:Int),0)=some ((a+tot (λx=>x.ag_.length) xs:Nat):Int):=by
  refine n0x xs (λpre=>(((a+tot (λx:o0h=>x.ag_.length) pre:Nat):Int),(pre.length:Int))) _ (by simp[tot]) (λpre x suf h=> ?_) ?_ (by omega)
  have hb:=o0j (f:=λx:o0h=>x.ag_.length) (l:=pre) (B:=140737488355328) λy hy=>(w y (by rw[h];simp[hy])).2
  have hxw:x.ag_.length<=140737488355328:=(w x (by rw[h];simp)).2
  have hl:pre.length<=8:=by rw[h]at hx;simp at hx;omega
  simp only[rS]
  rw[h,v0I,s0b,r0Q,o0M,z0g (by rw[<-h];omega)]
  simp only[cond_true]
  rw[w64 (by omega) (by omega)]
  simp only[ag,Sum.inl.injEq,aB,and_true]
  omega
  simp only[rS];rw[t0a];rfl
theorem C0T {xs:List l0b} {a:Nat} (ha:a<=90071992547409920)(hx:xs.length<=95)(w: ∀x∈xs,r0n x):a0x (B0U xs) big ((a:Int),0)=some ((a+tot (λx=>x.Z_.length) xs:Nat):Int):=by
  refine n0x xs (λpre=>(((a+tot (λx:l0b=>x.Z_.length) pre:Nat):Int),(pre.length:Int))) _ (by simp[tot]) (λpre x suf h=> ?_) ?_ (by omega)
  have hb:=o0j (f:=λx:l0b=>x.Z_.length) (l:=pre) (B:=140737488355328) λy hy=>(w y (by rw[h];simp[hy])).2.2
  have hxw:x.Z_.length<=140737488355328:=(w x (by rw[h];simp)).2.2
  have hl:pre.length<=95:=by rw[h]at hx;simp at hx;omega
  simp only[B0U]
  rw[h,v0I,s0b,r0Q,o0M,z0g (by rw[<-h];omega)]
  simp only[cond_true]
  rw[w64 (by omega) (by omega)]
  simp only[ag,Sum.inl.injEq,aB,and_true]
  omega
  simp only[B0U];rw[t0a];rfl
theorem D0r {xs:List o0J} {a:Nat} (ha:a<=18014398509481984)(hx:xs.length<=105)(w: ∀x∈xs,r0o x):a0x (cS xs) big ((a:Int),0)=some ((a+tot (λx=>x.V_.length+x.l_.length) xs:Nat):Int):=by
  refine n0x xs (λpre=>(((a+tot (λx:o0J=>x.V_.length+x.l_.length) pre:Nat):Int),(pre.length:Int))) _ (by simp[tot]) (λpre x suf h=> ?_) ?_ (by omega)
  have hb:=o0j (f:=λx:o0J=>x.V_.length+x.l_.length) (l:=pre) (B:=281474976710656) λy hy=>by
    have h1:y.V_.length<=140737488355328:=(w y (by rw[h];simp[hy])).1
    have h2:y.l_.length<=140737488355328:=(w y (by rw[h];simp[hy])).2.1
    omega
  have h1:x.V_.length<=140737488355328:=(w x (by rw[h];simp)).1
  have h2:x.l_.length<=140737488355328:=(w x (by rw[h];simp)).2.1
  have hl:pre.length<=105:=by rw[h]at hx;simp at hx;omega
  simp only[cS]
  rw[h,v0I,s0b,r0Q,o0M,z0g (by rw[<-h];omega)]
  simp only[cond_true]
  rw[w64 (n:=((a+tot (λx:o0J=>x.V_.length+x.l_.length) pre:Nat):Int)+(x.V_.length:Int)) (by omega) (by omega),w64 (by omega) (by omega)]
  simp only[ag,Sum.inl.injEq,aB,and_true]
  omega
  simp only[cS];rw[t0a];rfl

theorem x0j {l:g0l} (w:r0q l): ∃b,c0W l=some b/\(b=true->l.T_.length<=8/\l.i_.length<=105/\l.f_.length<=95/\
    y0A l+tot (λx=>x.ag_.length) l.T_+tot (λx=>x.V_.length+x.l_.length) l.i_+tot (λx=>x.Z_.length) l.f_<=6000):=by
  rw[x0i,C0P w,aq]
  obtain⟨w0,_,⟨w1,w2,w3,w4⟩,wr,wc,wk⟩:=w
  unfold WfT at w0 w1 w2 w3 w4
  by_cases h1:l.T_.length<=8
  rw[dF (show¬(l.T_.length:Int)>8 by omega)]
  by_cases h2:l.i_.length<=105
  rw[dF (show¬(l.i_.length:Int)>105 by omega)]
  by_cases h3:l.f_.length<=95
  rw[dF (show¬(l.f_.length:Int)>95 by omega)]
  simp only[cond_false,aq,a0m]
  have hp:y0A l<=703687441776640:=by unfold y0A;omega
  have b1:=o0j (f:=λx:o0h=>x.ag_.length) (l:=l.T_) (B:=140737488355328) λy hy=>(wr.2 y hy).2
  have b2:=o0j (f:=λx:o0J=>x.V_.length+x.l_.length) (l:=l.i_) (B:=281474976710656) λy hy=>by
    have q1:y.V_.length<=140737488355328:=(wc.2 y hy).1
    have q2:y.l_.length<=140737488355328:=(wc.2 y hy).2.1
    omega
  rw[C0N (by omega) h1 wr.2,aq,D0r (by omega) h2 wc.2,aq,C0T (by omega) h3 wk.2,aq]
  refine⟨_,rfl,λh=>⟨h1,h2,h3, ?_⟩⟩
  have:=of_decide_eq_true h
  omega
  rw[dT (show(l.f_.length:Int)>95 by omega)]
  exact⟨false,rfl,λh=>by cases h⟩
  rw[dT (show(l.i_.length:Int)>105 by omega)]
  exact⟨false,rfl,λh=>by cases h⟩
  rw[dT (show(l.T_.length:Int)>8 by omega)]
  exact⟨false,rfl,λh=>by cases h⟩

theorem t0g {l:g0l} (h2:l.T_.length<=8/\l.i_.length<=105/\l.f_.length<=95/\
    y0A l+tot (λx=>x.ag_.length) l.T_+tot (λx=>x.V_.length+x.l_.length) l.i_+tot (λx=>x.Z_.length) l.f_<=6000):
    (l.J_.length<=4294967296/\(l.a_.g_.length<=100000/\l.a_.h_.length<=100000/\l.a_.n_.length<=100000/\l.a_.x_.length<=100000))/\l.T_.length<=8/\l.i_.length<=105/\(∀c∈l.i_,c.l_.length<=6000)/\l.f_.length<=95/\ ∀c∈l.f_,c.Z_.length<=6000:=by
  obtain⟨h1,h2,h3,h4⟩:=h2
  unfold y0A at h4
  refine⟨⟨by omega,by omega,by omega,by omega,by omega⟩,h1,h2,λc hc=> ?_,h3,λc hc=> ?_⟩
  have:=r0x (λx:o0J=>x.V_.length+x.l_.length) hc
  omega
  have:=r0x (λx:l0b=>x.Z_.length) hc
  omega
theorem B0t {l:g0l} (h:l.T_.length<=8/\l.i_.length<=105/\l.f_.length<=95/\
    y0A l+tot (λx=>x.ag_.length) l.T_+tot (λx=>x.V_.length+x.l_.length) l.i_+tot (λx=>x.Z_.length) l.f_<=6000):Tot (d0s l) (λ_=>True):=by
  obtain⟨⟨f0,f1⟩,f2,f3,f4,f5,f6⟩:=t0g h
  unfold d0s
  exact tB (x0D f0 f1 f2 f3 f4 f5 f6) (λ_ _=>tR trivial)
/-- What a bound is made of: figures, powers, what stands around, and what is padded. -/
def s0x(A W L n e:Int):Int:=l0O (2*n+3*e+130+A+L) W
theorem l0J {A W L n e:Int} {h:Bool} (hA:inB A)(hW:inB W)(hL:0<=L/\L<=50)(hn:0<=n/\n<=2000)(he:0<=e/\e<=2000):
    (Option.bind (bif h then(some (IntKind.wrap .i64 ((l0O (IntKind.wrap .i64 ((IntKind.wrap .i64 ((IntKind.wrap .i64 ((IntKind.wrap .i64 ((IntKind.wrap .i64 (2*n))+(IntKind.wrap .i64 (3*e))))+130))+A))+L)) W)*6)))else(some (l0O (IntKind.wrap .i64 ((IntKind.wrap .i64 ((IntKind.wrap .i64 ((IntKind.wrap .i64 ((IntKind.wrap .i64 (2*n))+(IntKind.wrap .i64 (3*e))))+130))+A))+L)) W))) fun(s1:Int)=>some s1)=some (s0x A W L n e*(if h=true then 6 else 1)):=by
  obtain⟨a0,a1⟩:=hA
  obtain⟨w0,w1⟩:=hW
  rw[w64 (n:=2*n) (by omega) (by omega),w64 (n:=3*e) (by omega) (by omega),w64 (n:=2*n+3*e) (by omega) (by omega),w64 (n:=2*n+3*e+130) (by omega) (by omega),w64 (n:=2*n+3*e+130+A) (by omega) (by omega),w64 (n:=2*n+3*e+130+A+L) (by omega) (by omega)]
  have:0<=l0O (2*n+3*e+130+A+L) W/\l0O (2*n+3*e+130+A+L) W<=100000000:=by unfold l0O;split<;>omega
  rw[w64 (n:=l0O (2*n+3*e+130+A+L) W*6) (by omega) (by omega)]
  cases h with
  |true=>rfl
  |false=>show some _=some _;rw[if_neg (by decide),Int.mul_one];rfl
def arA(s:A0C)(k:Int):Int:=if k=0 then s.g_ else if k=1 then s.h_ else if k=2 then s.n_ else if k=3 then s.x_ else s.a4_
theorem A0y {c:u0y} {q:t0t} (hc:ofB c)(hs:0<=q.F_/\q.F_<=4)(hq:q.l_.length<=50) {n e:Int} (hn:0<=n/\n<=2000)(he:0<=e/\e<=2000):(inB (arA c.X_ q.F_)/\inB (arA c.W_ q.F_))/\d0R c q n e=some (s0x (arA c.X_ q.F_) (arA c.W_ q.F_) q.l_.length n e*(if q.ac_=true then 6 else 1)):=by
  obtain⟨⟨a0,a1,a2,a3,a4⟩,b0,b1,b2,b3,b4⟩:=hc
  unfold d0R arA
  rw[dF (show¬q.F_<0 by omega),dF (show¬q.F_≥5 by omega)]
  simp only[cond_false,aq,a0m]
  have hL:(0:Int)<=q.l_.length/\(q.l_.length:Int)<=50:=⟨by omega,by omega⟩
  by_cases e0:q.F_=0
  rw[dT e0,if_pos e0,if_pos e0];exact⟨⟨a0,b0⟩,l0J a0 b0 hL hn he⟩
  rw[dF e0,if_neg e0,if_neg e0]
  by_cases e1:q.F_=1
  rw[dT e1,if_pos e1,if_pos e1];exact⟨⟨a1,b1⟩,l0J a1 b1 hL hn he⟩
  rw[dF e1,if_neg e1,if_neg e1]
  by_cases e2:q.F_=2
  rw[dT e2,if_pos e2,if_pos e2];exact⟨⟨a2,b2⟩,l0J a2 b2 hL hn he⟩
  rw[dF e2,if_neg e2,if_neg e2]
  by_cases e3:q.F_=3
  rw[dT e3,if_pos e3,if_pos e3];exact⟨⟨a3,b3⟩,l0J a3 b3 hL hn he⟩
  rw[dF e3,if_neg e3,if_neg e3,dT (show q.F_=4 by omega)]
  exact⟨⟨a4,b4⟩,l0J a4 b4 hL hn he⟩
theorem B0J {c:u0y} {q:t0t} (hc:ofB c)(hs:0<=q.F_/\q.F_<=4)(hq:q.l_.length<=50): ∃A W,inB A/\inB W/\ ∀h n e,(0<=n/\n<=2000)->(0<=e/\e<=2000)->d0R c ⟨q.F_,q.ak_,q.V_,q.l_,h,q.aj_,q.j_⟩ n e=some (s0x A W q.l_.length n e*(if h=true then 6 else 1)):=
  ⟨_,_,(A0y hc hs hq (n:=0) (e:=0) (by omega) (by omega)).1.1,(A0y hc hs hq (n:=0) (e:=0) (by omega) (by omega)).1.2,λh n e hn he=>(A0y (q:=⟨q.F_,q.ak_,q.V_,q.l_,h,q.aj_,q.j_⟩) hc hs hq hn he).2⟩
theorem C0g:e0m (⟨false,([]:List Int),0⟩:w0X)=some true:=by kernel_rfl
theorem o0i(a:A0I)(wa:z0e a):c0f a=some true:=by
  obtain⟨wl,wq,wn,we,wm⟩:=wa
  obtain⟨sa,ea,ha⟩:=x0j wl
  have key:Tot (c0f a) (λr=>r=true):=by
    unfold c0f
    rw[show f0t=some true from rfl,aq]
    refine tJ (Tot.mono (p:=λx:Unit⊕Bool=>match x with| .inl _=>(sa=true/\a.Q_.l_.length<=50)/\(0<=a.Q_.F_/\a.Q_.F_<=4)/\a.N_<=1900/\a.E_<=1900| .inr r=>r=true) (tB (p:=λc=>c=false->(sa=true/\a.Q_.l_.length<=50)/\(0<=a.Q_.F_/\a.Q_.F_<=4)/\a.N_<=1900/\a.E_<=1900) ?_ (λc hc=>tI (λ_=>tR rfl) (λe=>tR (hc e)))) (λx hx=> ?_))
    · refine tB (p:=λr=>r=true->sa=true/\a.Q_.l_.length<=50) ?_ (λr hr=>tI (λ_=>tR (λh=>by cases h)) (λe=>tI (λ_=>tR (λh=>by cases h)) (λe1=>tI (λ_=>tR (λh=>by cases h)) (λe2=>tI (λ_=>tR (λh=>by cases h)) (λe3=>tR (λe4=>⟨hr (by cases r<;>simp_all),⟨by have:=dFF e1;omega,by have:=dFF e2;omega⟩,by have:=dFF e3;omega,by have:=dFF e4;omega⟩))))))
      unfold e0l
      rw[ea,aq,C0g,aq]
      refine tJ (Tot.mono (p:=λx:Unit⊕Bool=>match x with| .inl _=>sa=true/\a.Q_.l_.length<=50| .inr r=>r=false) (tB (p:=λc=>c=false->sa=true/\a.Q_.l_.length<=50) ?_ (λc hc=>tI (λ_=>tR rfl) (λe=>tR (hc e)))) (λx hx=> ?_))
      · refine tI (λ_=>tR (λh=>by cases h)) (λe1=>tI (λ_=>tR (λh=>by cases h)) (λ_=>tI (λ_=>tR (λh=>by cases h)) (λe2=>tR (λ_=>⟨by cases sa<;>simp_all,by have:=dFF e2;omega⟩))))
      cases x with
      |inl u=>exact tB (B0t (ha hx.1)) (λ_ _=>tR (λ_=>hx))
      |inr r=>exact λh=>by rw[show r=false from hx]at h;cases h
    · cases x with
      |inr r=>exact hx
      |inl u=>
        obtain⟨⟨hs,hq⟩,hy,hn,he⟩:=hx
        obtain⟨⟨f0,f1⟩,f2,f3,f4,f5,f6⟩:=t0g (ha hs)
        have hn:0<=a.N_/\a.N_<=1900:=by
          have:(decide (IntKind.u16.min<=a.N_)&&decide (a.N_<=IntKind.u16.max))=true:=wn
          simp only[aa,decide_eq_true_eq]at this
          exact⟨this.1,hn⟩
        have he:0<=a.E_/\a.E_<=1900:=by
          have:(decide (IntKind.u16.min<=a.E_)&&decide (a.E_<=IntKind.u16.max))=true:=we
          simp only[aa,decide_eq_true_eq]at this
          exact⟨this.1,he⟩
        have hm:0<=Int.tmod a.ad_ 100/\Int.tmod a.ad_ 100<100:=by
          have:(decide (IntKind.u8.min<=a.ad_)&&decide (a.ad_<=IntKind.u8.max))=true:=wm
          simp only[aa,decide_eq_true_eq]at this
          exact⟨Int.tmod_nonneg _ this.1,Int.tmod_lt_of_pos _ (by decide)⟩
        obtain⟨c,oc,lc⟩:=C0q f1 f2 f3 f4 f5 f6
        obtain⟨A,W,hA,hW,hb⟩:=B0J lc hy hq
        have hq':a.Q_=⟨a.Q_.F_,a.Q_.ak_,a.Q_.V_,a.Q_.l_,a.Q_.ac_,a.Q_.aj_,a.Q_.j_⟩:=rfl
        have bq:=hb a.Q_.ac_
        rw[<-hq']at bq
        show Tot (Option.bind (k0W a.L_) _) _
        rw[oc,aq,w64 (n:=a.N_) (by omega) (by omega),w64 (n:=a.E_) (by omega) (by omega),w64 (n:=Int.tmod a.ad_ 100) (by omega) (by omega),w64 (n:=a.N_+Int.tmod a.ad_ 100) (by omega) (by omega),w64 (n:=a.E_+Int.tmod a.ad_ 100) (by omega) (by omega)]
        generalize Int.tmod a.ad_ 100=k at hm⊢
        unfold k0f
        rw[bq a.N_ a.E_ (by omega) (by omega),aq,bq (a.N_+k) a.E_ (by omega) (by omega),bq a.N_ (a.E_+k) (by omega) (by omega),hb true a.N_ a.E_ (by omega) (by omega)]
        simp only[aq,cond_true]
        have m0:130<=s0x A W a.Q_.l_.length a.N_ a.E_/\s0x A W a.Q_.l_.length a.N_ a.E_<=100000000:=by obtain⟨z1,z2⟩:=hA;obtain⟨z3,z4⟩:=hW;unfold s0x l0O;split<;>omega
        have m1:s0x A W a.Q_.l_.length a.N_ a.E_<=s0x A W a.Q_.l_.length (a.N_+k) a.E_:=by unfold s0x l0O;repeat' split<;>omega
        have m2:s0x A W a.Q_.l_.length a.N_ a.E_<=s0x A W a.Q_.l_.length a.N_ (a.E_+k):=by unfold s0x l0O;repeat' split<;>omega
        generalize s0x A W a.Q_.l_.length a.N_ a.E_=x0 at m0 m1 m2⊢
        generalize s0x A W a.Q_.l_.length (a.N_+k) a.E_=x1 at m1⊢
        generalize s0x A W a.Q_.l_.length a.N_ (a.E_+k)=x2 at m2⊢
        have hh:(if a.Q_.ac_=true then(6:Int)else 1)=6\/(if a.Q_.ac_=true then(6:Int)else 1)=1:=by split<;>simp
        generalize(if a.Q_.ac_=true then(6:Int)else 1)=t at hh⊢
        rw[show(if True then(6:Int)else 1)=6 from if_pos trivial]
        have t1:130<=x0*t:=by rcases hh with rfl|rfl<;>omega
        have t2:x0*t<=x1*t:=by rcases hh with rfl|rfl<;>omega
        have t3:x0*t<=x2*t:=by rcases hh with rfl|rfl<;>omega
        have t4:x0*t<=x0*6:=by rcases hh with rfl|rfl<;>omega
        rw[dT (show x0*t≥130 by omega),dT (show x1*t≥x0*t by omega),dT (show x2*t≥x0*t by omega),dT (show x0*6≥x0*t by omega)]
        exact tR (by simp)
  obtain⟨r,h,rfl⟩:=key
  exact h

def o0b {H : Type} : List (String × DataW H) := [("math/bits.deBruijn32tab", Rows.laid_math_bits_deBruijn32tab), ("math/bits.deBruijn64tab", Rows.laid_math_bits_deBruijn64tab), ("internal/strconv.uint64pow10", Rows.laid_internal_strconv_uint64pow10), ("exergue/class.noughts", Rows.laid_exergue_class_noughts)]
theorem y0g(os:Os)(args:Array Value):laidMetH Tryz.prog o0b ((World.doorLaid Tryz.prog 4000 os).forCall (λ_ _=>0) ⟨#[],args,[]⟩).memory:=
  laidMetH_of_parts3 (fuel:=8) (laidMet_of_run' 8 (by kernel_rfl) (by kernel_rfl)) (by kernel_rfl) (by kernel_rfl)

/-- Package variables hold what they are said to. -/
theorem y0b {W:World} (hL:laidMetH Tryz.prog o0b W):i0E W (KW W) λ_=>none:=λg cs h=>by
  have hh:(o0b (H:=Unit)).all (λx=>x.2.handleName?.isNone)=true:=by kernel_rfl
  by_cases h0:g=0
  subst h0
  obtain rfl:=au (show some [.int .i32 48, .int .i32 1632, .int .i32 1776, .int .i32 1984, .int .i32 2406, .int .i32 2534, .int .i32 2662, .int .i32 2790, .int .i32 2918, .int .i32 3046, .int .i32 3174, .int .i32 3302, .int .i32 3430, .int .i32 3664, .int .i32 3792, .int .i32 3872, .int .i32 6112, .int .i32 6160, .int .i32 65296, .int .i32 120782]=some cs from h)
  exact l0B hh hL (nm := "exergue/class.noughts") (t := 368) (e := 21) (n := 20) (k := .i32) [48, 1632, 1776, 1984, 2406, 2534, 2662, 2790, 2918, 3046, 3174, 3302, 3430, 3664, 3792, 3872, 6112, 6160, 65296, 120782] (by unfold o0b; simp only [aO, co, or_false]; first | exact Or.inl rfl | exact Or.inr (Or.inl rfl) | exact Or.inr (Or.inr (Or.inl rfl)) | exact Or.inr rfl | exact Or.inr (Or.inr rfl) | exact Or.inr (Or.inr (Or.inr rfl)) | rfl) (by kernel_rfl) (by kernel_rfl) Tryz.underlying368 Tryz.underlying21 (by kernel_rfl) (by kernel_rfl)
  by_cases h2:g=2
  subst h2
  obtain rfl:=au (show some [.int .u64 1, .int .u64 10, .int .u64 100, .int .u64 1000, .int .u64 10000, .int .u64 100000, .int .u64 1000000, .int .u64 10000000, .int .u64 100000000, .int .u64 1000000000, .int .u64 10000000000, .int .u64 100000000000, .int .u64 1000000000000, .int .u64 10000000000000, .int .u64 100000000000000, .int .u64 1000000000000000, .int .u64 10000000000000000, .int .u64 100000000000000000, .int .u64 1000000000000000000, .int .u64 10000000000000000000]=some cs from h)
  exact l0B hh hL (nm := "internal/strconv.uint64pow10") (t := 466) (e := 367) (n := 20) (k := .u64) [1, 10, 100, 1000, 10000, 100000, 1000000, 10000000, 100000000, 1000000000, 10000000000, 100000000000, 1000000000000, 10000000000000, 100000000000000, 1000000000000000, 10000000000000000, 100000000000000000, 1000000000000000000, 10000000000000000000] (by unfold o0b; simp only [aO, co, or_false]; first | exact Or.inl rfl | exact Or.inr (Or.inl rfl) | exact Or.inr (Or.inr (Or.inl rfl)) | exact Or.inr rfl | exact Or.inr (Or.inr rfl) | exact Or.inr (Or.inr (Or.inr rfl)) | rfl) (by kernel_rfl) (by kernel_rfl) Tryz.underlying466 Tryz.underlying367 (by kernel_rfl) (by kernel_rfl)
  by_cases h3:g=3
  subst h3
  obtain rfl:=au (show some [.int .u8 0, .int .u8 1, .int .u8 28, .int .u8 2, .int .u8 29, .int .u8 14, .int .u8 24, .int .u8 3, .int .u8 30, .int .u8 22, .int .u8 20, .int .u8 15, .int .u8 25, .int .u8 17, .int .u8 4, .int .u8 8, .int .u8 31, .int .u8 27, .int .u8 13, .int .u8 23, .int .u8 21, .int .u8 19, .int .u8 16, .int .u8 7, .int .u8 26, .int .u8 12, .int .u8 18, .int .u8 6, .int .u8 11, .int .u8 5, .int .u8 10, .int .u8 9]=some cs from h)
  exact l0B hh hL (nm := "math/bits.deBruijn32tab") (t := 480) (e := 5) (n := 32) (k := .u8) [0, 1, 28, 2, 29, 14, 24, 3, 30, 22, 20, 15, 25, 17, 4, 8, 31, 27, 13, 23, 21, 19, 16, 7, 26, 12, 18, 6, 11, 5, 10, 9] (by unfold o0b; simp only [aO, co, or_false]; first | exact Or.inl rfl | exact Or.inr (Or.inl rfl) | exact Or.inr (Or.inr (Or.inl rfl)) | exact Or.inr rfl | exact Or.inr (Or.inr rfl) | exact Or.inr (Or.inr (Or.inr rfl)) | rfl) (by kernel_rfl) (by kernel_rfl) Tryz.underlying480 Tryz.underlying5 (by kernel_rfl) (by kernel_rfl)
  by_cases h4:g=4
  subst h4
  obtain rfl:=au (show some [.int .u8 0, .int .u8 1, .int .u8 56, .int .u8 2, .int .u8 57, .int .u8 49, .int .u8 28, .int .u8 3, .int .u8 61, .int .u8 58, .int .u8 42, .int .u8 50, .int .u8 38, .int .u8 29, .int .u8 17, .int .u8 4, .int .u8 62, .int .u8 47, .int .u8 59, .int .u8 36, .int .u8 45, .int .u8 43, .int .u8 51, .int .u8 22, .int .u8 53, .int .u8 39, .int .u8 33, .int .u8 30, .int .u8 24, .int .u8 18, .int .u8 12, .int .u8 5, .int .u8 63, .int .u8 55, .int .u8 48, .int .u8 27, .int .u8 60, .int .u8 41, .int .u8 37, .int .u8 16, .int .u8 46, .int .u8 35, .int .u8 44, .int .u8 21, .int .u8 52, .int .u8 32, .int .u8 23, .int .u8 11, .int .u8 54, .int .u8 26, .int .u8 40, .int .u8 15, .int .u8 34, .int .u8 20, .int .u8 31, .int .u8 10, .int .u8 25, .int .u8 14, .int .u8 19, .int .u8 9, .int .u8 13, .int .u8 8, .int .u8 7, .int .u8 6]=some cs from h)
  exact l0B hh hL (nm := "math/bits.deBruijn64tab") (t := 481) (e := 5) (n := 64) (k := .u8) [0, 1, 56, 2, 57, 49, 28, 3, 61, 58, 42, 50, 38, 29, 17, 4, 62, 47, 59, 36, 45, 43, 51, 22, 53, 39, 33, 30, 24, 18, 12, 5, 63, 55, 48, 27, 60, 41, 37, 16, 46, 35, 44, 21, 52, 32, 23, 11, 54, 26, 40, 15, 34, 20, 31, 10, 25, 14, 19, 9, 13, 8, 7, 6] (by unfold o0b; simp only [aO, co, or_false]; first | exact Or.inl rfl | exact Or.inr (Or.inl rfl) | exact Or.inr (Or.inr (Or.inl rfl)) | exact Or.inr rfl | exact Or.inr (Or.inr rfl) | exact Or.inr (Or.inr (Or.inr rfl)) | rfl) (by kernel_rfl) (by kernel_rfl) Tryz.underlying481 Tryz.underlying5 (by kernel_rfl) (by kernel_rfl)
  exfalso
  have:y0a g=none:=by
    unfold y0a
    split<;>first|rfl|(exfalso;simp_all)
  rw[show B0W g=y0a g from rfl,this]at h
  cases h

theorem w0j {P:Program} (h:P.funcs.toList.any Func.goes=false)(f:FuncId):P.goes f=false:=by
  have h1: ∀fn∈P.funcs.toList,fn.goes=false:=λfn hm=>by
    rw[List.any_eq_false]at h
    simpa using h fn hm
  have h2:P.funcs.any Func.goes=false:=by rw[<-Array.any_toList];exact h
  unfold Program.goes
  rw[h2,Bool.and_false,Bool.or_false,List.any_eq_false]
  intro g _
  cases hg:P.funcs[g]? with
  |none=>simp
  |some fn=>
    have hm:fn∈P.funcs.toList:=by
      rw[aC]
      exact Array.mem_of_getElem? hg
    simp[h1 fn hm]
theorem go0:Tryz.prog.funcs.toList.any Func.goes=false:=by kernel_rfl
theorem w0k(s:String):false=Tryz.prog.goesFrom s:=by
  unfold Program.goesFrom
  cases Tryz.prog.funcNamed s with
  |none=>rfl
  |some f=>exact(w0j go0 f).symm
theorem z0V:false=Rows.certGrowsRow.goesBy Tryz.prog:=by
  show false=(Tryz.prog.goesFrom _||false)
  rw[Bool.or_false];exact w0k _
set_option maxRecDepth 100000 in
theorem m0S(os:Os)(started:os.Started)(H:Type)(enc:TypeId×Value->H):
    ReturnsInHanded {} Tryz.checked os 3 .any (λw args=>(Rows.certGrowsSpec.pre enc Tryz.prog Tryz.f3 [] false w args/\laidMetH Tryz.prog o0b w)/\sizedMet enc Tryz.prog Tryz.f3 (OpenSpec.ofChange Rows.certGrowsSpec) false w args) (Rows.certGrowsSpec.post enc Tryz.prog Tryz.f3 false true false false):=by
  refine returnsInHanded_of_change_and (C:=Tryz.checked) (X:=λw _=>laidMetH Tryz.prog o0b w) (λ_ _ _ hh h=>h.of_heap hh) Tryz.own started (by kernel_rfl) Tryz.func3
    (ChangeSpec.witness_shaped (enc:=enc) (C:=Tryz.checked) (os:=os) (X:=λw _=>laidMetH Tryz.prog o0b w) false (World.doorLaid Tryz.prog 4000 os) #[.agg #[.string ⟨#[]⟩, .int .i32 0, .int .i32 0, .int .i32 0, .int .i32 0, .int .i32 0, .int .i32 0, .int .i32 0, .string ⟨#[]⟩, .string ⟨#[]⟩, .string ⟨#[]⟩, .string ⟨#[]⟩, .slice none 0 0, .slice none 0 0, .slice none 0 0, .int .i64 0, .int .i64 0, .string ⟨#[]⟩, .slice none 0 0, .bool false, .bool false, .bool false, .int .u16 0, .int .u16 0, .int .u8 0]] 8 rfl (World.shaped_of_RefB (by kernel_rfl) (by kernel_rfl)) (by kernel_rfl) (by kernel_rfl) (by kernel_rfl) (y0g os _)) ?_
  intro W base args ds gs before hval0 hW _ hsz0 hL _
  have hsz:(DataW.weightsEach Tryz.prog (Tryz.f3.params.toList++Rows.certGrowsSpec.plain.varTypes Tryz.prog) (ds++gs)).all (· <=reachBytes)=true:=hsz0
  clear hsz0
  refine x0U (P:=Tryz.prog) (n:=5) (tb:=4) Tryz.laidOut Tryz.underlying4 rfl rfl (by kernel_rfl) (λh=> ?_) hval0 hW ?_ (y0b hL)
  rw[Tryz.params3]at h
  obtain⟨d0,rfl⟩:=l1 h
  exact⟨rfl,rfl,rfl⟩
  intro ss hg hl1 hl2 hs
  subst hg
  rw[Tryz.params3]at hl1 hl2 hs hsz
  obtain⟨d0,rfl⟩:=l1 hl1
  obtain⟨s0,rfl⟩:=l1 hl2
  obtain⟨cs0,rfl,hc0⟩:=o0S Tryz.underlying35 (hs 0 35 _ _ rfl rfl rfl)
  obtain⟨a0,rfl,w0⟩:=u0M (n:=0) _ _ hc0 (r0B hsz (j:=0) rfl rfl)
  exact⟨[],h0G (o0i a0 w0)⟩
theorem p0M:Rows.CertGrowsSaid:=
  OpenClaim.holds_of_wide 3 Tryz.f3 rfl rfl rfl rfl rfl rfl rfl ⟨rfl,rfl,rfl,rfl,rfl⟩ rfl rfl rfl rfl rfl (by kernel_rfl) Tryz.func3 qJ
    (of_decide_eq_true (by kernel_rfl)) (by unfold Func.isWrapper;first|(rw[if_pos (by decide+kernel)];kernel_rfl)|(rw[if_neg (by decide+kernel)];exact⟨rfl,rfl⟩))
    (λos started H enc _=>m0S os started H enc)

theorem CertGrows_holds:Rows.CertGrowsCardSaid:=
  Claim7.holds_tied_plain_at .later [] [.data, .data, .data, .data] true (true, "3259a06217691dcd40705606b0ea54ef8583cd43d20f9232a54cfcbd97247008") false
    p0M (λ_ h=>by cases h) (by kernel_rfl) (λ_ h=>by cases h) certGrows_row_tie rfl ⟨rfl,rfl⟩ (by kernel_rfl) rfl
    (λf fn hf hfn=>by
      obtain rfl : f = 3 := au ((show Tryz.prog.funcNamed "exergue/exerguelaw20.CertGrows" = some 3 by kernel_rfl).symm.trans hf) |>.symm
      obtain rfl:fn=Tryz.f3:=(au (Tryz.func3.symm.trans hfn)).symm
      exact⟨by kernel_rfl,λj t ht=>by
        rw[Tryz.params3]at ht
        have hm:t∈ [35]:=by simpa using Array.mem_of_getElem? ht
        have hall:([35].all λu=> !Tryz.prog.wantsStandIn u)=true:=by kernel_rfl
        exact(show Tryz.prog.wantsStandIn t=false by simpa using List.all_eq_true.1 hall t hm)⟩)
    z0V

end Go.Proofs.YthodkmamingnhaaGreatDoor
