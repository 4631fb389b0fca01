/-
  What the functions of this program come to, as functions of natives, each with the proof that it does. No conditions.
-/
import Derived.Test.YtcapcgbamehojaaGreatDoorProg
import Derived.Test.YtcapcgbamehojaaGreatDoorSySL
import Derived.Test.YtcapcgbamehojaaGreatDoorSyPV
import Derived.Test.YtcapcgbamehojaaGreatDoorSyCC
import Derived.Test.YtcapcgbamehojaaGreatDoorSyKM
import Derived.Test.YtcapcgbamehojaaGreatDoorSyFS
import Derived.Test.YtcapcgbamehojaaGreatDoorSyGL
import Derived.Test.YtcapcgbamehojaaGreatDoorSySC
import Derived.Shelf.Strings.Search1
import Derived.Shelf.Lays
import Derived.Lib.ItoaLen
namespace Go.Proofs.YtcapcgbamehojaaGreatDoor
open Go Go.Sy Go.RowKit
set_option linter.unusedVariables false
set_option linter.unusedSimpArgs false
set_option maxRecDepth 100000
set_option maxHeartbeats 4000000
abbrev iL(x:Int):SV:= .int .i64 x
abbrev iM(x:Int):SV:= .int .i32 x
abbrev lB(x:List Int):SV:=lsv (a0q .u8) 1 x
abbrev lT(x:List (List UInt8)):SV:=lsv n0w 1 x
abbrev lI(x:List Int):SV:=lsv (a0q .i64) 1 x
abbrev lR(x:List Int):SV:=lsv (a0q .i32) 1 x
abbrev q12(a:List UInt8)(b0 b1 b2 b3 b4 b5 b6:Int)(c0 c1 c2 c3:List UInt8)(r:List SV):List SV:= .str a:: .int .i32 b0:: .int .i32 b1:: .int .i32 b2:: .int .i32 b3:: .int .i32 b4:: .int .i32 b5:: .int .i32 b6:: .str c0:: .str c1:: .str c2:: .str c3::r
def w0p:Nat→Option (List SV)
 |0=>some [.int .i32 48, .int .i32 1632, .int .i32 1776, .int .i32 1984, .int .i32 2406, .int .i32 2534, .int .i32 2662, .int .i32 2790, .int .i32 2918, .int .i32 3046, .int .i32 3174, .int .i32 3302, .int .i32 3430, .int .i32 3664, .int .i32 3792, .int .i32 3872, .int .i32 6112, .int .i32 6160, .int .i32 65296, .int .i32 120782]
 |2=>some [.int .u64 1, .int .u64 10, .int .u64 100, .int .u64 1000, .int .u64 10000, .int .u64 100000, .int .u64 1000000, .int .u64 10000000, .int .u64 100000000, .int .u64 1000000000, .int .u64 10000000000, .int .u64 100000000000, .int .u64 1000000000000, .int .u64 10000000000000, .int .u64 100000000000000, .int .u64 1000000000000000, .int .u64 10000000000000000, .int .u64 100000000000000000, .int .u64 1000000000000000000, .int .u64 10000000000000000000]
 |3=>some [.int .u8 0, .int .u8 1, .int .u8 28, .int .u8 2, .int .u8 29, .int .u8 14, .int .u8 24, .int .u8 3, .int .u8 30, .int .u8 22, .int .u8 20, .int .u8 15, .int .u8 25, .int .u8 17, .int .u8 4, .int .u8 8, .int .u8 31, .int .u8 27, .int .u8 13, .int .u8 23, .int .u8 21, .int .u8 19, .int .u8 16, .int .u8 7, .int .u8 26, .int .u8 12, .int .u8 18, .int .u8 6, .int .u8 11, .int .u8 5, .int .u8 10, .int .u8 9]
 |4=>some [.int .u8 0, .int .u8 1, .int .u8 56, .int .u8 2, .int .u8 57, .int .u8 49, .int .u8 28, .int .u8 3, .int .u8 61, .int .u8 58, .int .u8 42, .int .u8 50, .int .u8 38, .int .u8 29, .int .u8 17, .int .u8 4, .int .u8 62, .int .u8 47, .int .u8 59, .int .u8 36, .int .u8 45, .int .u8 43, .int .u8 51, .int .u8 22, .int .u8 53, .int .u8 39, .int .u8 33, .int .u8 30, .int .u8 24, .int .u8 18, .int .u8 12, .int .u8 5, .int .u8 63, .int .u8 55, .int .u8 48, .int .u8 27, .int .u8 60, .int .u8 41, .int .u8 37, .int .u8 16, .int .u8 46, .int .u8 35, .int .u8 44, .int .u8 21, .int .u8 52, .int .u8 32, .int .u8 23, .int .u8 11, .int .u8 54, .int .u8 26, .int .u8 40, .int .u8 15, .int .u8 34, .int .u8 20, .int .u8 31, .int .u8 10, .int .u8 25, .int .u8 14, .int .u8 19, .int .u8 9, .int .u8 13, .int .u8 8, .int .u8 7, .int .u8 6]
 |_=>none
instance :Inhabited GT:=⟨⟨w0p⟩⟩
abbrev SQ:=SC Tryz.prog
abbrev mQ(a b c d:Int):Ent:= .map [(iM 45,iL a),(iM 43,iL b),(iM 37,iL c),(iM 164,iL d)]
abbrev zQ:SV:= .agg [.nl, .nl, .nl, .nl, .bool false,iL 0,iL 0,iL 0,iL 0,iL 0,iL 0,iL 0,iL 0,iL 0, .bool false,iM 0,iL 0]
theorem kC0 {F:Fr} {P:Program} {L:LE} {H:a0m} {Q:g0t} {m:Option Nat} {ops:Array Oper} {p:Nat} {tr:List (List Nat×List Nat)} {f:FuncId} {args:List SV} {v:SV} (d:Option Nat)(tr2:List (List Nat×List Nat))(hs:SC P f args [] v [])(k:RJ F P m ops (p+1) tr2 (f0s L d v) H Q)(h:g0r m ops p tr L []=some (d,f,args,tr2):=by kernel_rfl)(hr:SV.refsL 0 args=true:=by kernel_rfl)(hv:SV.refs 0 v=true:=by kernel_rfl):RJ F P m ops p tr L H Q:=RJ.call0 h hr (LeL.refl _) hs hv k
structure e0h where
 u_:Int
 m_:Int
 o_:Int
 l_:Int
 k_:Int
 j_:Int
 i_:Int
 deriving Inhabited,DecidableEq
def a0w(x:e0h):List SV:=[.int .i32 x.u_, .int .i32 x.m_, .int .i32 x.o_, .int .i32 x.l_, .int .i32 x.k_, .int .i32 x.j_, .int .i32 x.i_]
theorem y0u(x:e0h):(a0w x).length=7:=rfl
structure y0T where
 e_:List UInt8
 f_:List UInt8
 n_:List UInt8
 s_:List UInt8
 deriving Inhabited,DecidableEq
def m0D(x:y0T):List SV:=[.str x.e_, .str x.f_, .str x.n_, .str x.s_]
theorem y0s(x:y0T):(m0D x).length=4:=rfl
structure k0S where
 F_:Int
 H_:List UInt8
 deriving Inhabited,DecidableEq
def c0h(x:k0S):List SV:=[.int .i64 x.F_, .str x.H_]
theorem c0Y(x:k0S):(c0h x).length=2:=rfl
structure l0S where
 z_:List UInt8
 A_:List UInt8
 af_:Int
 deriving Inhabited,DecidableEq
def d0D(x:l0S):List SV:=[.str x.z_, .str x.A_, .int .i64 x.af_]
theorem d0R(x:l0S):(d0D x).length=3:=rfl
structure i0s where
 G_:Int
 F_:Int
 D_:List UInt8
 deriving Inhabited,DecidableEq
def a0Z(x:i0s):List SV:=[.int .i64 x.G_, .int .i64 x.F_, .str x.D_]
theorem c0Z(x:i0s):(a0Z x).length=3:=rfl
structure l0A where
 x_:List UInt8
 S_:e0h
 g_:y0T
 w_:List k0S
 d_:List l0S
 b_:List i0s
 deriving Inhabited,DecidableEq
def a0J(x:l0A):List SV:=[.str x.x_, .int .i32 x.S_.u_, .int .i32 x.S_.m_, .int .i32 x.S_.o_, .int .i32 x.S_.l_, .int .i32 x.S_.k_, .int .i32 x.S_.j_, .int .i32 x.S_.i_, .str x.g_.e_, .str x.g_.f_, .str x.g_.n_, .str x.g_.s_,lsv c0h 2 x.w_,lsv d0D 3 x.d_,lsv a0Z 3 x.b_]
theorem y0r(x:l0A):(a0J x).length=15:=rfl
def c0R:Option (e0h):=
 (some (⟨48,46,44,45,43,37,69⟩:e0h))
theorem d0Q {r:e0h} (h:c0R=some r):SQ 32 [] [] (.agg (a0w r)) []:=by
 refine kFn (fn:=Tryz.f32) (fun F H D W=> ?_)
 unfold c0R at h
 exact kq (kq (kX (by cases h;exact kZ H D W)))
structure a0c where
 L_:Int
 R_:Int
 deriving Inhabited,DecidableEq
def a0a(x:a0c):List SV:=[.int .i64 x.L_, .int .i32 x.R_]
theorem d0n(x:a0c):(a0a x).length=2:=rfl
structure d0b where
 r_:List a0c
 q_:List a0c
 B_:List a0c
 E_:List a0c
 J_:Bool
 Y_:Int
 M_:Int
 X_:Int
 Q_:Int
 I_:Int
 N_:Int
 O_:Int
 T_:Int
 i_:Int
 W_:Bool
 y_:Int
 V_:Int
 deriving Inhabited,DecidableEq
def a0f(x:d0b):List SV:=[lsv a0a 2 x.r_,lsv a0a 2 x.q_,lsv a0a 2 x.B_,lsv a0a 2 x.E_, .bool x.J_, .int .i64 x.Y_, .int .i64 x.M_, .int .i64 x.X_, .int .i64 x.Q_, .int .i64 x.I_, .int .i64 x.N_, .int .i64 x.O_, .int .i64 x.T_, .int .i64 x.i_, .bool x.W_, .int .i32 x.y_, .int .i64 x.V_]
theorem y0t(x:d0b):(a0f x).length=17:=rfl
def e0A(x0:Int):Option (Int):=
 (bif(decide (x0<128))then(some 1)else(bif(decide ((Int.fdiv x0 32)=6))then(some 2)else(bif(decide ((Int.fdiv x0 16)=14))then(some 3)else(bif(decide ((Int.fdiv x0 8)=30))then(some 4)else(some 0)))))
theorem l0Y {x0 r:Int} (h:e0A x0=some r):SQ 158 [.int .u8 x0] [] (iL r) []:=by
 refine kFn (fn:=Tryz.f158) (fun F H D W=> ?_)
 unfold e0A at h
 exact kq (kS (kb 0 (kq (kBT 3 h (fun h0=>kq (kXp (by cases h0;exact kZ H D W))) (fun h1=>kq (kBT 6 h1 (fun h2=>kq (kXp (by cases h2;exact kZ H D W))) (fun h3=>kq (kBT 10 h3 (fun h4=>kq (kXp (by cases h4;exact kZ H D W))) (fun h5=>kq (kBT 14 h5 (fun h6=>kq (kXp (by cases h6;exact kZ H D W))) (fun h7=>kKn (kq (kX (by cases h7;exact kZ H D W))))))))))))))
def k0m(x0:Int):Option (Int):=
 (bif(decide (x0=2))then(some 192)else(bif(decide (x0=3))then(some 224)else(bif(decide (x0=4))then(some 240)else(some 0))))
theorem p0Z {x0 r:Int} (h:k0m x0=some r):SQ 159 [iL x0] [] (.int .u8 r) []:=by
 refine kFn (fn:=Tryz.f159) (fun F H D W=> ?_)
 unfold k0m at h
 exact kq (kS (kq (kb 0 (kq (kBT 4 h (fun h0=>kq (kXp (by cases h0;exact kZ H D W))) (fun h1=>kq (kBT 6 h1 (fun h2=>kq (kXp (by cases h2;exact kZ H D W))) (fun h3=>kq (kBT 8 h3 (fun h4=>kq (kXp (by cases h4;exact kZ H D W))) (fun h5=>kKn (kq (kX (by cases h5;exact kZ H D W)))))))))))))
def h0X(x0:Int):Option (Bool):=
 (Option.bind (bif(decide (x0≥0))then(bif(decide (x0≤1114111))then(bif(decide (x0<55296))then(some true)else(some (decide (x0>57343))))else(some false))else(some false)) fun(s0:Bool)=>(some s0))
theorem o0E {x0:Int} {r:Bool} (h:h0X x0=some r):SQ 150 [iM x0] [] (.bool r) []:=by
 refine kFn (fn:=Tryz.f150) (fun F H D W=> ?_)
 unfold h0X at h
 exact kq (kcN h (fun(s0:Bool)=>([(2, .bool s0)],[])) (fun s0 hy0=>km 3 (kB 5 hy0 (fun h1=>kc 4 (kB 9 h1 (fun h3=>kc 3 (kB 12 h3 (fun h5=>ke 5 (kNo h5 [2])) (fun h6=>ke 5 (kNo h6 [2])))) (fun h4=>ke 8 (kNo h4 [2])))) (fun h2=>ke 12 (kNo h2 [2])))) (fun s0 h0=>kX (by cases h0;exact kZ H D W)))
def f0H(x0:Int):Option (Int):=
 (Option.bind (h0X x0) fun y0=>(bif(!y0)then(some 0)else(bif(decide (x0<128))then(some 1)else(bif(decide (x0<2048))then(some 2)else(bif(decide (x0<65536))then(some 3)else(some 4))))))
theorem q0a {x0 r:Int} (h:f0H x0=some r):SQ 160 [iM x0] [] (iL r) []:=by
 refine kFn (fn:=Tryz.f160) (fun F H D W=> ?_)
 unfold f0H at h
 exact kq (kS (kb 0 (kn 1 (kAb 5 h (fun _=>o0E) (fun y0 h0=>kr 2 (kBT 3 h0 (fun h1=>kq (kXp (by cases h1;exact kZ H D W))) (fun h2=>kq (kBT 7 h2 (fun h3=>kq (kXp (by cases h3;exact kZ H D W))) (fun h4=>kq (kBT 10 h4 (fun h5=>kq (kXp (by cases h5;exact kZ H D W))) (fun h6=>kq (kBT 13 h6 (fun h7=>kq (kXp (by cases h7;exact kZ H D W))) (fun h8=>kKn (kq (kX (by cases h8;exact kZ H D W))))))))))))))))
def f0p(x0:List Int):Option (Int×Int):=
 (bif inR 0 x0.length then(Option.bind (e0A (nth x0 0)) fun y0=>(Option.bind (Option.bind (bif(decide (y0=0))then(some true)else(some ((decide (y0>(x0.length:Int)))))) fun(s1:Bool)=>(bif s1 then(some (.inr (0,0)))else(some (.inl ())))) (a0j fun(s3:Unit)=>(bif inR 0 x0.length then(Option.bind (k0m y0) fun y1=>(Option.bind (bif inS 1 y0 x0.length then(a0l (fun(s0:Int×Int)=>(bif(decide (s0.2<((cut x0 1 y0).length:Int)))then(bif inR s0.2 (cut x0 1 y0).length then(bif(decide (¬((bits .andNot .u8 (nth (cut x0 1 y0) s0.2) 63))=128))then(some (.inr (.inr (0,0))))else(some (.inl ((bits .or .i32 (IntKind.wrap .i32 (s0.1*64)) ((IntKind.wrap .i32 ((bits .and .u8 (nth (cut x0 1 y0) s0.2) 63))))),(IntKind.wrap .i64 (s0.2+1))))))else none)else(some (.inr (.inl s0.1))))) big ((IntKind.wrap .i32 (bits .andNot .u8 (nth x0 0) y1)),0))else none) (a0j fun(s2:Int)=>(Option.bind (f0H s2) fun y2=>(bif(decide (¬y2=y0))then(some (0,0))else(some (s2,y0)))))))else none))))else none)
theorem o0D {x0:List Int} {r:Int×Int} (h:f0p x0=some r):SQ 133 [lB x0] [] (.tup [iM r.1,iL r.2]) []:=by
 refine kFn (fn:=Tryz.f133) (fun F H D W=> ?_)
 unfold f0p at h
 refine kq (kn 1 (kIb 9 (a0x .u8) h (fun h0=>kc 1 (kAb 11 h0 (fun _=>l0Y) (fun y0 h1=>kr 1 (kcX h1 (fun(s3:Unit)=>([(0,lB x0),(2,iM 0),(3,iL 0),(4,iL y0)],[])) (fun y3 hy0 h2=> ?_) (fun s3 h3=> ?_)))))))
 ·exact kcN hy0 (fun(s1:Bool)=>([(0,lB x0),(2,iM 0),(3,iL 0),(4,iL y0),(19, .bool s1)],[])) (fun s1 hy1=>km 3 (kB 14 hy1 (fun h5=>ke 5 (kNo h5 [0,2,3,4,19])) (fun h6=>ke 5 (kNo h6 [0,2,3,4,19])))) (fun s1 h4=>kBT 19 h4 (fun h7=>kq (kX (kCx h7 h2 (fun h9=>by obtain rfl:=oi h9;exact kZ H D W)))) (fun h8=>kK (kXo h8 [0,2,3,4])))
 ·refine kS (kDr (kD 1 ?_))
  obtain⟨hm,h10⟩:=a0Q h3
  refine kJ 21 (tr2:=[([],[]),([],[])]) (a0x .u8) hm (kD 2 ?_)
  obtain⟨y1,hy2,h11⟩:=a0d h10
  refine kC0 (some 24) [([],[]),([],[]),([],[]),([],[]),([],[0,1])] (p0Z hy2) (kD 3 (kEN (kcX h11 (fun(s2:Int)=>([(2,iM 0),(3,iL 0),(4,iL y0),(5,iM s2)],[])) (fun y4 hy3 h12=> ?_) (fun s2 h13=> ?_))))
  ·refine kn 2 ?_
   obtain⟨hm,h14⟩:=a0Q hy3
   exact RJ.rel (d:=(some 29)) (ef:=⟨.lst ((y0:Int).toNat-(1:Int).toNat) 1 (((x0.flatMap (a0q .u8)).take ((y0:Int).toNat*1)).drop ((1:Int).toNat*1)),[],[]⟩) (ef':=⟨.lst (cut x0 1 y0).length 1 ((cut x0 1 y0).flatMap (a0q .u8)),[],[]⟩) (c:=inS 1 y0 x0.length) (tr2:=[]) (H2:=[.res]) (by kernel_rfl) hm (fun hc=>N.slice (a0x .u8) hc) (by kernel_rfl) (kr 2 (kb 0 (J.wk (Wk.sel (L2:=[(2,iM 0),(3,iL 0),(4,iL y0),(5,iM ((IntKind.wrap .i32 (bits .andNot .u8 (nth x0 0) y1)))),(29,lB (cut x0 1 y0)),(30,iL ((cut x0 1 y0).length:Int)),(31,iL 0)]) (H2:=[]) 0 (by rw[D];rfl) W [] (by kernel_rfl) (by kernel_rfl) (by decide) (by kernel_rfl) (by kernel_rfl) (by kernel_rfl) (by kernel_rfl)) (kl (fun(s0:Int×Int)=>([(2,iM 0),(3,iL 0),(4,iL y0),(5,iM s0.1),(29,lB (cut x0 1 y0)),(30,iL ((cut x0 1 y0).length:Int)),(31,iL s0.2)],[])) h14 [2,3,4,5,29,30,31] (fun s0 x116 hs0=>kq (kS (kBT 32 hs0 (fun h15=>kKN (kS (kb 1 (kSR (kIb 33 (a0x .u8) h15 (fun h17=>kr 2 (kS (kq (kBT 37 h17 (fun h18=>kq (kX (PJ.passRet (PJ.blockRet (PJ.passRet (kLx h18 (fun h20=>PJ.blockRet (kCx h20 h12 (fun h21=>by obtain rfl:=oi h21;exact kZ H D W))))))))) (fun h19=>kKN (kM (PJ.blockNormal (PJ.next (kM (kLo h19 [2,3,4,5,29,30,31]))))))))))))))) (fun h16=>kEp 0 (kLx h16 (fun h22=>PJ.blockOut (kXo h22 [2,3,4,5])))))))))))
  ·exact kS (kn 1 (kAb 46 h13 (fun _=>q0a) (fun y2 h23=>kr 2 (kBT 48 h23 (fun h24=>kq (kX (PJ.passRet (by cases h24;exact kZ H D W)))) (fun h25=>kKN (kq (kX (by cases h25;exact kZ H D W))))))))
def d0y(x0:List Int):Option ((List Int)×Int×Int):=
 (Option.bind (a0l (fun(s0:Int×(List Int))=>(bif(decide (s0.1<(x0.length:Int)))then(bif inS s0.1 (x0.length:Int) x0.length then(Option.bind (f0p (cut x0 s0.1 (x0.length:Int))) fun y0=>(bif(decide (y0.2=0))then(some (.inr (.inr (([]:List Int),s0.1,3))))else(bif room (s0.2.length+([y0.1]:List Int).length)then(some (.inl ((IntKind.wrap .i64 (s0.1+y0.2)),(s0.2++([y0.1]:List Int)))))else none)))else none)else(some (.inr (.inl s0.2))))) big (0,([]:List Int))) (a0j fun(s1:(List Int))=>(some (s1,0,0))))
theorem k0n {x0:List Int} {r:(List Int)×Int×Int} (h:d0y x0=some r):SQ 102 [lB x0] [] (.tup [lR r.1,iL r.2.1,iL r.2.2]) []:=by
 refine kFn (fn:=Tryz.f102) (fun F H D W=> ?_)
 unfold d0y at h
 refine kq (kq (kcX h (fun(s1:(List Int))=>([(2, .nl),(3,iL 0),(4,iL 0),(5, .vc 0)],[a0A (a0q .i32) 1 21 s1])) (fun y1 hy0 h0=> ?_) (fun s1 h1=> ?_)))
 ·refine kq (kb 0 (J.wk (Wk.viv 5 1 21 (by kernel_rfl)) (kl (fun(s0:Int×(List Int))=>([(0,lB x0),(2, .nl),(3,iL 0),(4,iL 0),(5, .vc 0),(6,iL s0.1)],[a0A (a0q .i32) 1 21 s0.2])) hy0 [0,2,3,4,5,6] (fun s0 x91 hs0=>kS (kq (kBT 12 hs0 (fun h2=> ?_) (fun h3=> ?_)))))))
  ·refine kKN (kb 1 (kn 2 ?_))
   obtain⟨hm,h4⟩:=a0Q h2
   exact RJ.rel (d:=(some 16)) (ef:=⟨.lst (((x0.length:Int):Int).toNat-(s0.1:Int).toNat) 1 (((x0.flatMap (a0q .u8)).take (((x0.length:Int):Int).toNat*1)).drop ((s0.1:Int).toNat*1)),[],[]⟩) (ef':=⟨.lst (cut x0 s0.1 (x0.length:Int)).length 1 ((cut x0 s0.1 (x0.length:Int)).flatMap (a0q .u8)),[],[]⟩) (c:=inS s0.1 (x0.length:Int) x0.length) (tr2:=[]) (H2:=[a0A (a0q .i32) 1 21 s0.2]) (by kernel_rfl) hm (fun hc=>N.slice (a0x .u8) hc) (by kernel_rfl) (kAb 17 h4 (fun _=>o0D) (fun y0 h5=>kr 5 (kS (kq (kBT 21 h5 (fun h6=>kq (kX (PJ.passRet (PJ.blockRet (kLx h6 (fun h8=>PJ.blockRet (kCx h8 h0 (fun h9=>by obtain rfl:=oi h9;exact PJ.res (v1:= .tup [.nl,iL s0.1,iL 3]) (Le.tup (.cons (Le.nl _) (LeL.refl _))) (kZ H D W))))))))) (fun h7=>kKN (kn 3 (kAp 26 0 2 1 21 [0,1] (a0q .i32) h7 (fun h10=>kr 1 (kM (PJ.blockNormal (kLW h10 D W [2]))))))))))))
  ·exact kEp 0 (kLx h3 (fun h11=>PJ.blockOut (kXo h11 [2,3,4,5])))
 ·exact kq (kX (by obtain rfl:=oi h1;exact PJ.wk (Wk.freeze 0 (n:=s1.length) (k:=1) (e:=21) (cs:=s1.flatMap (a0q .i32)) (by kernel_rfl)) (kZ H D W)))
def f0t:Option (Unit):=
 (some ())
theorem i0C {r:Unit} (h:f0t=some r):SQ 142 [] [] (.mp 0) [mQ 1 2 3 4]:=by
 refine kFn (fn:=Tryz.f142) (fun F H D W=> ?_)
 unfold f0t at h
 exact kq (kq (kX (by obtain rfl:=oi h;exact kRV [0] (.inr rfl) H D W)))
def a0X(x0 x1:Int)(x2:List Int)(x3 x4 x5 x6 x7 x8:Int):Option (Bool):=
 (Option.bind (bif(decide ((IntKind.wrap .i64 (x3+x1))<(x2.length:Int)))then(bif inR (IntKind.wrap .i64 (x3+x1)) x2.length then(some ((decide (((nth x2 (IntKind.wrap .i64 (x3+x1))))=x0))))else none)else(some false)) fun(s0:Bool)=>(some s0))
theorem b0x {x0 x1:Int} {x2:List Int} {x3 x4 x5 x6 x7 x8:Int} {r:Bool} (h:a0X x0 x1 x2 x3 x4 x5 x6 x7 x8=some r):SQ 181 [.ptr 0 0,iM x0,iL x1] [.box [lR x2, .mp 1,iL x3,iL x4],mQ x5 x6 x7 x8] (.bool r) [.box [lR x2, .mp 1,iL x3,iL x4],mQ x5 x6 x7 x8]:=by
 refine kFn (fn:=Tryz.f181) (fun F H D W=> ?_)
 unfold a0X at h
 refine kq (kcN h (fun(s0:Bool)=>([(6, .bool s0)],[.box [lR x2, .mp 1,iL x3,iL x4],mQ x5 x6 x7 x8])) (fun s0 hy0=> ?_) (fun s0 h0=> ?_))
 ·refine kDr (kD 13 (kB 19 hy0 (fun h1=> ?_) (fun h2=> ?_)))
  ·refine kD 10 ?_
   obtain⟨hm,h3⟩:=a0Q h1
   exact kJ 30 (tr2:=[([],[]),([],[]),([],[]),([0,1],[]),([],[]),([],[]),([],[]),([],[]),([],[]),([0,1],[]),([],[]),([],[]),([],[]),([],[]),([],[]),([],[]),([0,1],[]),([],[]),([],[]),([],[]),([0,1],[]),([],[]),([],[]),([],[])]) (a0x .i32) hm (kD 5 (kE (kNo h3 [6])))
  ·exact kD 16 (kE (kNo h2 [6]))
 ·exact kX (by obtain rfl:=oi h0;exact kRV [0,1] (.inr rfl) H D W)
def a0t(x0:Int)(x1:List Int)(x2 x3 x4 x5 x6 x7:Int):Option (Bool×Int):=
 (Option.bind (a0X x0 0 x1 x2 x3 x4 x5 x6 x7) fun y0=>(bif(!y0)then(some (false,x2))else(some (true,(IntKind.wrap .i64 (x2+1))))))
theorem a0C {x0:Int} {x1:List Int} {x2 x3 x4 x5 x6 x7:Int} {r:Bool×Int} (h:a0t x0 x1 x2 x3 x4 x5 x6 x7=some r):SQ 165 [.ptr 0 0,iM x0] [.box [lR x1, .mp 1,iL x2,iL x3],mQ x4 x5 x6 x7] (.bool r.1) [.box [lR x1, .mp 1,iL r.2,iL x3],mQ x4 x5 x6 x7]:=by
 refine kFn (fn:=Tryz.f165) (fun F H D W=> ?_)
 unfold a0t at h
 refine kq (kS (kn 2 ?_))
 obtain⟨y0,hy0,h0⟩:=a0d h
 exact kCg (some 7) [0,1] (b0x hy0) (kr 1 (kBT 8 h0 (fun h1=>kq (kX (PJ.passRet (by obtain rfl:=oi h1;exact kRV [0,1] (.inr rfl) H D W)))) (fun h2=>kKN (kq (kq (kX (by obtain rfl:=oi h2;exact kRV [0,1] (.inr rfl) H D W)))))))
def a0I(x0:Int)(x1:List Int)(x2 x3 x4 x5 x6 x7:Int):Option (Unit):=
 (some ())
theorem a0E {x0:Int} {x1:List Int} {x2 x3 x4 x5 x6 x7:Int} {r:Unit} (h:a0I x0 x1 x2 x3 x4 x5 x6 x7=some r):SP Tryz.prog 167 [.ptr 0 0,iL x0] [.box [lR x1, .mp 1,iL x2,iL x3],mQ x4 x5 x6 x7] [.box [.undef, .mp 1,iL x2,iL x0],mQ x4 x5 x6 x7]:=by
 refine B0t (fn:=Tryz.f167) (fun F H D W=> ?_)
 unfold a0I at h
 exact kq (kR (RJ.panic (d:=8) (by kernel_rfl) (by obtain rfl:=oi h;exact PP.wk (Wk.undefs 0 [true,false,false,false] (cs:=[lR x1, .mp 1,iL x2,iL x0]) (by kernel_rfl)) (kPV [0,1] D W)) (by rw[H];kernel_rfl)))
def b0N(x0:Int)(x1:List Int)(x2 x3 x4 x5 x6 x7:Int)(x8:Bool)(x9 x10 x11 x12 x13 x14 x15 x16 x17:Int)(x18:Bool)(x19 x20:Int):Option ((Int×Int×Int)⊕(Int×Int)):=
 (Option.bind (Option.bind (bif(decide (¬x20=0))then(some (true,x2))else(Option.bind (a0t 42 x1 x2 x3 x4 x5 x6 x7) fun y0=>(some ((!y0.1),y0.2)))) fun(s1:Bool×Int)=>(bif s1.1 then(some (.inr (.inl (s1.2,x19,x20))))else(some (.inl s1.2)))) (a0j fun(s0:Int)=>(Option.bind (bif(decide (s0=(x1.length:Int)))then(Option.bind (a0I s0 x1 s0 x3 x4 x5 x6 x7) fun y1=>(some (.inr (.inr (s0,s0)))))else(some (.inl ()))) (a0j fun(s2:Unit)=>(bif inR s0 x1.length then(some (.inl ((IntKind.wrap .i64 (s0+1)),(nth x1 s0),x0)))else none)))))
theorem f0g {x0:Int} {x1:List Int} {x2 x3 x4 x5 x6 x7:Int} {x8:Bool} {x9 x10 x11 x12 x13 x14 x15 x16 x17:Int} {x18:Bool} {x19 x20:Int} {r:(Int×Int×Int)⊕(Int×Int)} (h:b0N x0 x1 x2 x3 x4 x5 x6 x7 x8 x9 x10 x11 x12 x13 x14 x15 x16 x17 x18 x19 x20=some r):(∀a,r= .inl a→SQ 162 [.ptr 0 0, .ptr 2 0,iL x0] [.box [lR x1, .mp 1,iL x2,iL x3],mQ x4 x5 x6 x7, .box [.nl, .nl, .nl, .nl, .bool x8,iL x9,iL x10,iL x11,iL x12,iL x13,iL x14,iL x15,iL x16,iL x17, .bool x18,iM x19,iL x20]] (.tup []) [.box [lR x1, .mp 1,iL a.1,iL x3],mQ x4 x5 x6 x7, .box [.nl, .nl, .nl, .nl, .bool x8,iL x9,iL x10,iL x11,iL x12,iL x13,iL x14,iL x15,iL x16,iL x17, .bool x18,iM a.2.1,iL a.2.2]])∧(∀a,r= .inr a→SP Tryz.prog 162 [.ptr 0 0, .ptr 2 0,iL x0] [.box [lR x1, .mp 1,iL x2,iL x3],mQ x4 x5 x6 x7, .box [.nl, .nl, .nl, .nl, .bool x8,iL x9,iL x10,iL x11,iL x12,iL x13,iL x14,iL x15,iL x16,iL x17, .bool x18,iM x19,iL x20]] [.box [.undef, .mp 1,iL a.1,iL a.2],mQ x4 x5 x6 x7, .box [.undef, .undef, .undef, .undef, .bool x8,iL x9,iL x10,iL x11,iL x12,iL x13,iL x14,iL x15,iL x16,iL x17, .bool x18,iM x19,iL x20]]):=by
 refine u0k (fn:=Tryz.f162) _ _ _ (fun F H D W=> ?_)
 unfold b0N at h
 refine kcX h (fun(s0:Int)=>([(0, .ptr 0 0),(1, .ptr 2 0),(2,iL x0)],[.box [lR x1, .mp 1,iL s0,iL x3],mQ x4 x5 x6 x7, .box [.nl, .nl, .nl, .nl, .bool x8,iL x9,iL x10,iL x11,iL x12,iL x13,iL x14,iL x15,iL x16,iL x17, .bool x18,iM x19,iL x20]])) (fun y2 hy0 h0=> ?_) (fun s0 h1=> ?_)
 ·refine kcN hy0 (fun(s1:Bool×Int)=>([(0, .ptr 0 0),(1, .ptr 2 0),(2,iL x0),(15, .bool s1.1)],[.box [lR x1, .mp 1,iL s1.2,iL x3],mQ x4 x5 x6 x7, .box [.nl, .nl, .nl, .nl, .bool x8,iL x9,iL x10,iL x11,iL x12,iL x13,iL x14,iL x15,iL x16,iL x17, .bool x18,iM x19,iL x20]])) (fun s1 hy1=> ?_) (fun s1 h2=> ?_)
  ·refine km 6 (kB 11 hy1 (fun h3=> ?_) (fun h4=> ?_))
   ·exact ke 4 (kNo h3 [0,1,2,15])
   ·refine kc 1 ?_
    obtain⟨y0,hy2,h5⟩:=a0d h4
    exact kCg (some 13) [0,1] (a0C hy2) (ke 2 (kNo h5 [0,1,2,15]))
  ·exact kBT 15 h2 (fun h6=>kX (kCx h6 h0 (fun h8=>by obtain rfl:=oi h8;exact kRV [0,1,2] (.inr rfl) H D W))) (fun h7=>kK (kXo h7 [0,1,2]))
 ·refine kcX h1 (fun(s2:Unit)=>([(0, .ptr 0 0),(1, .ptr 2 0),(2,iL x0)],[.box [lR x1, .mp 1,iL s0,iL x3],mQ x4 x5 x6 x7, .box [.nl, .nl, .nl, .nl, .bool x8,iL x9,iL x10,iL x11,iL x12,iL x13,iL x14,iL x15,iL x16,iL x17, .bool x18,iM x19,iL x20]])) (fun y3 hy3 h9=> ?_) (fun s2 h10=> ?_)
  ·refine kS (kDr (kD 10 (kEN (kBT 25 hy3 (fun h11=> ?_) (fun h12=> ?_)))))
   ·refine km 5 ?_
    obtain⟨y1,hy4,h13⟩:=a0d h11
    refine kCP (some 31) [0,1] (a0E hy4) ?_
    obtain rfl:=oi h13
    have h14:=b0P h9
    exact PP.cutXr (by obtain rfl:=oi h14;exact PP.wk (Wk.undefs 2 [true,true,true,true,false,false,false,false,false,false,false,false,false,false,false,false,false] (cs:=[.nl, .nl, .nl, .nl, .bool x8,iL x9,iL x10,iL x11,iL x12,iL x13,iL x14,iL x15,iL x16,iL x17, .bool x18,iM x19,iL x20]) (by kernel_rfl)) (kPV [0,1,2] D W))
   ·exact kK (kXo h12 [0,1,2])
  ·refine kS (kDr (kD 10 ?_))
   obtain⟨hm,h15⟩:=a0Q h10
   exact kJ 42 (tr2:=[([],[]),([],[]),([],[]),([],[]),([],[]),([0,1],[]),([],[]),([],[]),([],[]),([0,1],[]),([],[])]) (a0x .i32) hm (kD 8 (kEN (kM (by obtain rfl:=oi h15;exact kRV [0,1,2] (.inl rfl) H D W))))
theorem i0o {x0:Int} {x1:List Int} {x2 x3 x4 x5 x6 x7:Int} {x8:Bool} {x9 x10 x11 x12 x13 x14 x15 x16 x17:Int} {x18:Bool} {x19 x20:Int} {r:Int×Int×Int} (h:b0N x0 x1 x2 x3 x4 x5 x6 x7 x8 x9 x10 x11 x12 x13 x14 x15 x16 x17 x18 x19 x20=some (.inl r)):SQ 162 [.ptr 0 0, .ptr 2 0,iL x0] [.box [lR x1, .mp 1,iL x2,iL x3],mQ x4 x5 x6 x7, .box [.nl, .nl, .nl, .nl, .bool x8,iL x9,iL x10,iL x11,iL x12,iL x13,iL x14,iL x15,iL x16,iL x17, .bool x18,iM x19,iL x20]] (.tup []) [.box [lR x1, .mp 1,iL r.1,iL x3],mQ x4 x5 x6 x7, .box [.nl, .nl, .nl, .nl, .bool x8,iL x9,iL x10,iL x11,iL x12,iL x13,iL x14,iL x15,iL x16,iL x17, .bool x18,iM r.2.1,iL r.2.2]]:=(f0g h).1 _ rfl
theorem i0n {x0:Int} {x1:List Int} {x2 x3 x4 x5 x6 x7:Int} {x8:Bool} {x9 x10 x11 x12 x13 x14 x15 x16 x17:Int} {x18:Bool} {x19 x20:Int} {r:Int×Int} (h:b0N x0 x1 x2 x3 x4 x5 x6 x7 x8 x9 x10 x11 x12 x13 x14 x15 x16 x17 x18 x19 x20=some (.inr r)):SP Tryz.prog 162 [.ptr 0 0, .ptr 2 0,iL x0] [.box [lR x1, .mp 1,iL x2,iL x3],mQ x4 x5 x6 x7, .box [.nl, .nl, .nl, .nl, .bool x8,iL x9,iL x10,iL x11,iL x12,iL x13,iL x14,iL x15,iL x16,iL x17, .bool x18,iM x19,iL x20]] [.box [.undef, .mp 1,iL r.1,iL r.2],mQ x4 x5 x6 x7, .box [.undef, .undef, .undef, .undef, .bool x8,iL x9,iL x10,iL x11,iL x12,iL x13,iL x14,iL x15,iL x16,iL x17, .bool x18,iM x19,iL x20]]:=(f0g h).2 _ rfl
def b0U(x0:List Int)(x1 x2 x3 x4 x5 x6:Int):Option (Bool×Int):=
 (Option.bind (Option.bind (Option.bind (a0X 39 0 x0 x1 x2 x3 x4 x5 x6) fun y0=>(bif(!y0)then(some true)else(Option.bind (a0X 39 1 x0 x1 x2 x3 x4 x5 x6) fun y1=>(some (!y1))))) fun(s0:Bool)=>(bif s0 then(some (.inr (false,x1)))else(some (.inl ())))) (a0j fun(s1:Unit)=>(some (true,(IntKind.wrap .i64 (x1+2))))))
theorem e0N {x0:List Int} {x1 x2 x3 x4 x5 x6:Int} {r:Bool×Int} (h:b0U x0 x1 x2 x3 x4 x5 x6=some r):SQ 200 [.ptr 0 0] [.box [lR x0, .mp 1,iL x1,iL x2],mQ x3 x4 x5 x6] (.bool r.1) [.box [lR x0, .mp 1,iL r.2,iL x2],mQ x3 x4 x5 x6]:=by
 refine kFn (fn:=Tryz.f200) (fun F H D W=> ?_)
 unfold b0U at h
 refine kq (kcX h (fun(s1:Unit)=>([(0, .ptr 0 0),(2, .bool false)],[.box [lR x0, .mp 1,iL x1,iL x2],mQ x3 x4 x5 x6])) (fun y2 hy0 h0=> ?_) (fun s1 h1=> ?_))
 ·refine kcN hy0 (fun(s0:Bool)=>([(0, .ptr 0 0),(2, .bool false),(10, .bool s0)],[.box [lR x0, .mp 1,iL x1,iL x2],mQ x3 x4 x5 x6])) (fun s0 hy1=> ?_) (fun s0 h2=> ?_)
  ·refine km 1 ?_
   obtain⟨y0,hy2,h3⟩:=a0d hy1
   refine kCg (some 4) [0,1] (b0x hy2) (kc 2 (kB 6 h3 (fun h4=> ?_) (fun h5=> ?_)))
   ·exact ke 4 (kNo h4 [0,2,10])
   ·refine kc 1 ?_
    obtain⟨y1,hy3,h6⟩:=a0d h5
    exact kCg (some 8) [0,1] (b0x hy3) (ke 2 (kNo h6 [0,2,10]))
  ·exact kBT 10 h2 (fun h7=>kq (kX (kCx h7 h0 (fun h9=>by obtain rfl:=oi h9;exact kRV [0,1] (.inr rfl) H D W)))) (fun h8=>kK (kXo h8 [0,2]))
 ·exact kq (kq (kX (by obtain rfl:=oi h1;exact kRV [0,1] (.inr rfl) H D W)))
def b0p(x0:List Int)(x1 x2 x3 x4 x5 x6:Int)(x7:List a0c):Option ((Int×(List a0c))⊕Int):=
 (Option.bind (b0U x0 x1 x2 x3 x4 x5 x6) fun y1=>(bif y1.1 then(bif room (x7.length+([(⟨0,39⟩:a0c)]:List a0c).length)then(some (.inl (y1.2,(x7++([(⟨0,39⟩:a0c)]:List a0c)))))else none)else(Option.bind (a0l (fun(s0:Int×(List a0c))=>(bif(decide (s0.1<(x0.length:Int)))then(Option.bind (b0U x0 s0.1 x2 x3 x4 x5 x6) fun y2=>(bif y2.1 then(bif room (s0.2.length+([(⟨0,39⟩:a0c)]:List a0c).length)then(some (.inl (y2.2,(s0.2++([(⟨0,39⟩:a0c)]:List a0c)))))else none)else(Option.bind (a0t 39 x0 y2.2 x2 x3 x4 x5 x6) fun y0=>(bif y0.1 then(some (.inr (.inr (.inl (y0.2,s0.2)))))else(bif inR y0.2 x0.length then(bif room (s0.2.length+(([(⟨0,(nth x0 y0.2)⟩:a0c)]:List a0c)).length)then(some (.inl ((IntKind.wrap .i64 (y0.2+1)),(s0.2++(([(⟨0,(nth x0 y0.2)⟩:a0c)]:List a0c))))))else none)else none)))))else(some (.inr (.inl s0.1))))) big ((IntKind.wrap .i64 (y1.2+1)),x7)) (a0j fun(s1:Int)=>(Option.bind (a0I x1 x0 s1 x2 x3 x4 x5 x6) fun y3=>(some (.inr s1)))))))
theorem e0j {x0:List Int} {x1 x2 x3 x4 x5 x6:Int} {x7:List a0c} {r:(Int×(List a0c))⊕Int} (h:b0p x0 x1 x2 x3 x4 x5 x6 x7=some r):(∀a,r= .inl a→SQ 182 [.ptr 0 0, .vc 2] [.box [lR x0, .mp 1,iL x1,iL x2],mQ x3 x4 x5 x6,a0A a0a 2 107 x7] (.vc 3) [.box [lR x0, .mp 1,iL a.1,iL x2],mQ x3 x4 x5 x6, .gone,a0A a0a 2 107 a.2])∧(∀a,r= .inr a→SP Tryz.prog 182 [.ptr 0 0, .vc 2] [.box [lR x0, .mp 1,iL x1,iL x2],mQ x3 x4 x5 x6,a0A a0a 2 107 x7] [.box [.undef, .mp 1,iL a,iL x1],mQ x3 x4 x5 x6, .gone]):=by
 refine u0k (fn:=Tryz.f182) _ _ _ (fun F H D W=> ?_)
 unfold b0p at h
 refine J.wk (Wk.move 2 (n:=x7.length) (k:=2) (e:=107) (cs:=x7.flatMap a0a) (by kernel_rfl)) (kq (kq (kS (kn 1 ?_))))
 obtain⟨y1,hy0,h0⟩:=a0d h
 refine kCg (some 11) [0,1] (e0N hy0) (kEN (kBT 11 h0 (fun h1=> ?_) (fun h2=> ?_)))
 ·exact kn 3 (kAp 15 3 5 2 107 [3,4] a0a h1 (fun h3=>kr 1 (kX (PJ.passRet (by obtain rfl:=oi h3;exact kRV [0,1,2,5] (.inr rfl) H D W)))))
 ·refine kKN (kq (kcX h2 (fun(s1:Int)=>([(0, .ptr 0 0),(4, .nl),(5,iL x1)],[.box [lR x0, .mp 1,iL s1,iL x2],mQ x3 x4 x5 x6, .gone])) (fun y4 hy1 h4=> ?_) (fun s1 h5=> ?_)))
  ·refine kb 0 (kl (fun(s0:Int×(List a0c))=>([(0, .ptr 0 0),(1, .vc 3),(4, .nl),(5,iL x1)],[.box [lR x0, .mp 1,iL s0.1,iL x2],mQ x3 x4 x5 x6, .gone,a0A a0a 2 107 s0.2])) hy1 [0,1,4,5] (fun s0 x133 hs0=>kS (kS (kDr (kD 10 (kEN (kBT 32 hs0 (fun h6=> ?_) (fun h7=> ?_))))))))
   ·refine kKN (kb 1 (kb 2 (kn 1 ?_)))
    obtain⟨y2,hy2,h8⟩:=a0d h6
    refine kCg (some 56) [0,1] (e0N hy2) (kr 1 (kBT 54 h8 (fun h9=> ?_) (fun h10=> ?_)))
    ·exact km 3 (kAp 60 3 5 2 107 [3,4] a0a h9 (fun h11=>ke 1 (PJ.blockNormal (PJ.blockNormal (kLW h11 D W [0,1,2,5])))))
    ·refine kn 1 ?_
     obtain⟨y0,hy3,h12⟩:=a0d h10
     refine kCg (some 63) [0,1] (a0C hy3) (kr 1 (kBT 61 h12 (fun h13=> ?_) (fun h14=> ?_)))
     ·exact kq (kXb (PJ.blockRet (kLx h13 (fun h15=>PJ.blockRet (kCx h15 h4 (fun h16=>by obtain rfl:=oi h16;exact kRV [0,1,2,3] (.inr rfl) H D W))))))
     ·refine kS (kDr (kD 9 ?_))
      obtain⟨hm,h17⟩:=a0Q h14
      refine kJ 42 (tr2:=[([],[]),([],[]),([],[]),([],[]),([0,1],[]),([],[]),([],[]),([],[]),([0,1],[]),([],[])]) (a0x .i32) hm (kD 3 ?_)
      obtain⟨hm,h18⟩:=a0Q h17
      exact RJ.rel (d:=(some 46)) (ef:=⟨.vc 5,[3,4],[(3, .gone),(5, .vec (s0.2.length+(([(⟨0,(nth x0 y0.2)⟩:a0c)]:List a0c)).length) 2 107 (s0.2.flatMap a0a++(([(⟨0,(nth x0 y0.2)⟩:a0c)]:List a0c)).flatMap a0a))]⟩) (ef':=⟨.vc 5,[3,4],[(3, .gone),(5,a0A a0a 2 107 (s0.2++(([(⟨0,(nth x0 y0.2)⟩:a0c)]:List a0c))))]⟩) (c:=room (s0.2.length+(([(⟨0,(nth x0 y0.2)⟩:a0c)]:List a0c)).length)) (tr2:=[([],[]),([],[]),([],[]),([],[]),([0,1],[]),([],[]),([],[]),([],[]),([0,1],[]),([],[]),([],[]),([],[]),([],[8,9,8,9]),([6,7,8,9],[6,7,10,11,10,11])]) (H2:=[.box [lR x0, .mp 1,iL y0.2,iL x2],mQ x3 x4 x5 x6, .gone, .gone,a0A a0a 2 107 (([(⟨0,(nth x0 y0.2)⟩:a0c)]:List a0c)),a0A a0a 2 107 ((s0.2++(([(⟨0,(nth x0 y0.2)⟩:a0c)]:List a0c))))]) (by kernel_rfl) hm (fun hc=>N.app) (by kernel_rfl) (kD 1 (kEN (kR (RJ.seg 8 [0,1,4,5] (L2:=[(0, .ptr 0 0),(1, .vc 5),(4, .nl),(5,iL x1)]) (H2:=[.box [lR x0, .mp 1,iL (IntKind.wrap .i64 (y0.2+1)),iL x2],mQ x3 x4 x5 x6, .gone, .gone,a0A a0a 2 107 (([(⟨0,(nth x0 y0.2)⟩:a0c)]:List a0c)),a0A a0a 2 107 ((s0.2++(([(⟨0,(nth x0 y0.2)⟩:a0c)]:List a0c))))]) (by kernel_rfl) (kE (PJ.blockNormal (PJ.blockNormal (kLW h18 D W [0,1,2,5]))))))))
   ·exact kEp 0 (kLx h7 (fun h19=>PJ.blockOut (kXW h19 D W [0,1,2])))
  ·refine kn 2 ?_
   obtain⟨y3,hy4,h20⟩:=a0d h5
   exact kCP (some 67) [0,1] (a0E hy4) (PP.next (by obtain rfl:=oi h20;exact kPV [0,1,2] D W))
theorem g0S {x0:List Int} {x1 x2 x3 x4 x5 x6:Int} {x7:List a0c} {r:Int×(List a0c)} (h:b0p x0 x1 x2 x3 x4 x5 x6 x7=some (.inl r)):SQ 182 [.ptr 0 0, .vc 2] [.box [lR x0, .mp 1,iL x1,iL x2],mQ x3 x4 x5 x6,a0A a0a 2 107 x7] (.vc 3) [.box [lR x0, .mp 1,iL r.1,iL x2],mQ x3 x4 x5 x6, .gone,a0A a0a 2 107 r.2]:=(e0j h).1 _ rfl
theorem g0R {x0:List Int} {x1 x2 x3 x4 x5 x6:Int} {x7:List a0c} {r:Int} (h:b0p x0 x1 x2 x3 x4 x5 x6 x7=some (.inr r)):SP Tryz.prog 182 [.ptr 0 0, .vc 2] [.box [lR x0, .mp 1,iL x1,iL x2],mQ x3 x4 x5 x6,a0A a0a 2 107 x7] [.box [.undef, .mp 1,iL r,iL x1],mQ x3 x4 x5 x6, .gone]:=(e0j h).2 _ rfl
def e0t(x0:Int):Option (Bool):=
 (Option.bind (Option.bind (bif(decide (x0=35))then(some true)else(bif(decide (x0=64))then(some true)else(bif(decide (x0=44))then(some true)else(bif(decide (x0=46))then(some true)else(bif(decide (x0=59))then(some true)else(bif(decide (x0=42))then(some true)else(bif(decide (x0=37))then(some true)else(bif(decide (x0=45))then(some true)else(bif(decide (x0=43))then(some true)else(bif(decide (x0=39))then(some true)else(bif(decide (x0=69))then(some true)else(some (decide (x0=164)))))))))))))) fun(s0:Bool)=>(bif s0 then(some (.inr true))else(some (.inl ())))) (a0j fun(s2:Unit)=>(Option.bind (bif(decide (x0≥48))then(some (decide (x0≤57)))else(some false)) fun(s1:Bool)=>(some s1))))
theorem g0Q {x0:Int} {r:Bool} (h:e0t x0=some r):SQ 183 [iM x0] [] (.bool r) []:=by
 refine kFn (fn:=Tryz.f183) (fun F H D W=> ?_)
 unfold e0t at h
 exact kq (kcX h (fun(s2:Unit)=>([(0,iM x0),(2, .bool false)],[])) (fun y0 hy0 h0=>kq (kb 0 (kcN hy0 (fun(s0:Bool)=>([(0,iM x0),(2, .bool false),(4, .bool s0)],[])) (fun s0 hy1=>kq (kBT 4 hy1 (fun h3=>kK (kNo h3 [0,2,4])) (fun h4=>kq (kBT 4 h4 (fun h5=>kK (kNo h5 [0,2,4])) (fun h6=>kq (kBT 4 h6 (fun h7=>kK (kNo h7 [0,2,4])) (fun h8=>kq (kBT 4 h8 (fun h9=>kK (kNo h9 [0,2,4])) (fun h10=>kq (kBT 4 h10 (fun h11=>kK (kNo h11 [0,2,4])) (fun h12=>kq (kBT 4 h12 (fun h13=>kK (kNo h13 [0,2,4])) (fun h14=>kSR (RJ.seg 2 [0,2,3,4] (L2:=[(0,iM x0),(2, .bool false),(3,iM x0),(4, .bool (decide (x0=37)))]) (H2:=[]) (by kernel_rfl) (kEN (kBT 4 h14 (fun h15=>kK (kNo h15 [0,2,4])) (fun h16=>kq (kBT 4 h16 (fun h17=>kK (kNo h17 [0,2,4])) (fun h18=>kq (kBT 4 h18 (fun h19=>kK (kNo h19 [0,2,4])) (fun h20=>kq (kBT 4 h20 (fun h21=>kK (kNo h21 [0,2,4])) (fun h22=>kq (kBT 4 h22 (fun h23=>kK (kNo h23 [0,2,4])) (fun h24=>kM (kNo h24 [0,2,4])))))))))))))))))))))))))) (fun s0 h2=>kBT 4 h2 (fun h25=>kq (kXb (kCx h25 h0 (fun h27=>by obtain rfl:=oi h27;exact kZ H D W)))) (fun h26=>kKb (kXo h26 [0,2])))))) (fun s2 h1=>kcN h1 (fun(s1:Bool)=>([(2, .bool s1)],[])) (fun s1 hy2=>km 3 (kB 19 hy2 (fun h29=>ke 4 (kNo h29 [2])) (fun h30=>ke 4 (kNo h30 [2])))) (fun s1 h28=>kX (by cases h28;exact kZ H D W))))
def a0O(x0:List Int)(x1 x2 x3 x4 x5 x6:Int):Option ((List a0c)×Int⊕(Int×Int)):=
 (Option.bind (a0l (fun(s0:Int×(List a0c))=>(bif(decide (s0.1<(x0.length:Int)))then(bif inR s0.1 x0.length then(bif(decide ((nth x0 s0.1)=45))then(Option.bind (bif room (s0.2.length+([(⟨x3,0⟩:a0c)]:List a0c).length)then(some ())else none) fun(s2:Unit)=>(some (.inl ((IntKind.wrap .i64 (s0.1+1)),(s0.2++([(⟨x3,0⟩:a0c)]:List a0c))))))else(bif(decide ((nth x0 s0.1)=43))then(Option.bind (bif room (s0.2.length+([(⟨x4,0⟩:a0c)]:List a0c).length)then(some ())else none) fun(s3:Unit)=>(some (.inl ((IntKind.wrap .i64 (s0.1+1)),(s0.2++([(⟨x4,0⟩:a0c)]:List a0c))))))else(bif(decide ((nth x0 s0.1)=37))then(Option.bind (bif room (s0.2.length+([(⟨x5,0⟩:a0c)]:List a0c).length)then(some ())else none) fun(s4:Unit)=>(some (.inl ((IntKind.wrap .i64 (s0.1+1)),(s0.2++([(⟨x5,0⟩:a0c)]:List a0c))))))else(bif(decide ((nth x0 s0.1)=164))then(Option.bind (bif room (s0.2.length+([(⟨x6,0⟩:a0c)]:List a0c).length)then(some ())else none) fun(s5:Unit)=>(some (.inl ((IntKind.wrap .i64 (s0.1+1)),(s0.2++([(⟨x6,0⟩:a0c)]:List a0c))))))else(Option.bind (Option.bind (a0X 39 0 x0 s0.1 x2 x3 x4 x5 x6) fun y2=>(bif y2 then(Option.bind (b0p x0 s0.1 x2 x3 x4 x5 x6 s0.2) fun y0=>(Sum.elim (fun y1=>(some (.inr (.inl (y1.1,y1.2))))) (fun y3=>(some (.inr (.inr (.inr (.inr (y3,s0.1))))))) y0))else(Option.bind (e0t (nth x0 s0.1)) fun y4=>(bif y4 then(some (.inr (.inr (.inr (.inl (s0.2,s0.1))))))else(bif room (s0.2.length+(([(⟨0,(nth x0 s0.1)⟩:a0c)]:List a0c)).length)then(some (.inl ()))else none))))) (a0j fun(s6:Unit)=>(some (.inl ((IntKind.wrap .i64 (s0.1+1)),(s0.2++(([(⟨0,(nth x0 s0.1)⟩:a0c)]:List a0c))))))))))))else none)else(some (.inr (.inl (s0.1,s0.2)))))) big (x1,([]:List a0c))) (a0j fun(s1:Int×(List a0c))=>(some (.inl (s1.2,s1.1)))))
theorem e0E {x0:List Int} {x1 x2 x3 x4 x5 x6:Int} {r:(List a0c)×Int⊕(Int×Int)} (h:a0O x0 x1 x2 x3 x4 x5 x6=some r):(∀a,r= .inl a→SQ 163 [.ptr 0 0] [.box [lR x0, .mp 1,iL x1,iL x2],mQ x3 x4 x5 x6] (lsv a0a 2 a.1) [.box [lR x0, .mp 1,iL a.2,iL x2],mQ x3 x4 x5 x6])∧(∀a,r= .inr a→SP Tryz.prog 163 [.ptr 0 0] [.box [lR x0, .mp 1,iL x1,iL x2],mQ x3 x4 x5 x6] [.box [.undef, .mp 1,iL a.1,iL a.2],mQ x3 x4 x5 x6]):=by
 refine u0k (fn:=Tryz.f163) _ _ _ (fun F H D W=> ?_)
 unfold a0O at h
 refine kq (kq (kcX h (fun(s1:Int×(List a0c))=>([(2, .nl),(3, .vc 2)],[.box [lR x0, .mp 1,iL s1.1,iL x2],mQ x3 x4 x5 x6,a0A a0a 2 107 s1.2])) (fun y5 hy1 h1=> ?_) (fun s1 h7=> ?_)))
 ·refine kb 0 (J.wk (Wk.viv 3 2 107 (by kernel_rfl)) (kl (fun(s0:Int×(List a0c))=>([(0, .ptr 0 0),(2, .nl),(3, .vc 2)],[.box [lR x0, .mp 1,iL s0.1,iL x2],mQ x3 x4 x5 x6,a0A a0a 2 107 s0.2])) hy1 [0,2,3] (fun s0 x586 hs0=>kS (kS (kDr (kD 10 (kEN (kBT 16 hs0 (fun h8=> ?_) (fun h9=> ?_)))))))))
  ·refine kKN (kb 1 (kS (kDr (kD 8 ?_))))
   obtain⟨hm,h2⟩:=a0Q h8
   refine kJ 25 (tr2:=[([],[]),([],[]),([],[]),([0,1],[]),([],[]),([],[]),([],[]),([0,1],[]),([],[])]) (a0x .i32) hm (kD 2 (kEN (kn 5 ?_)))
   cases hb0:(decide ((nth x0 s0.1)=45))
   ·have h3:=condF hb0 h2
    have hn594:=of_decide_eq_false hb0
    cases hb1:(decide ((nth x0 s0.1)=43))
    ·have h4:=condF hb1 h3
     have hn605:=of_decide_eq_false hb1
     cases hb2:(decide ((nth x0 s0.1)=37))
     ·have h5:=condF hb2 h4
      have hn616:=of_decide_eq_false hb2
      cases hb3:(decide ((nth x0 s0.1)=164))
      ·have h10:=condF hb3 h5
       have hn627:=of_decide_eq_false hb3
       refine RJ.look (none) (d:=some 33) (ef:=⟨.tup [iL 0, .bool false],[1],[]⟩) (c:=j0B (iM (nth x0 s0.1)) [(iM 45,iL x3),(iM 43,iL x4),(iM 37,iL x5),(iM 164,iL x6)]) (tr2:=[]) (by kernel_rfl) (by simp[m0y,j0B,j0W,e0i,hn594,hn605,hn616,hn627]) (kr 5 (kcX h10 (fun(s6:Unit)=>([(0, .ptr 0 0),(2, .nl),(3, .vc 2)],[.box [lR x0, .mp 1,iL s0.1,iL x2],mQ x3 x4 x5 x6,a0A a0a 2 107 ((s0.2++(([(⟨0,(nth x0 s0.1)⟩:a0c)]:List a0c))))])) (fun y6 hy2 h0=> ?_) (fun s6 h11=> ?_)))
       ·refine kb 2 (kq (kF (kn 1 ?_)))
        obtain⟨y2,hy3,h12⟩:=a0d hy2
        refine kCg (some 50) [0,1] (b0x hy3) (kr 1 (kBT 48 h12 (fun h13=> ?_) (fun h14=> ?_)))
        ·refine kSR (RJ.seg 2 [0,2,3,51,52] (L2:=[(0, .ptr 0 0),(2, .nl),(3, .vc 2),(51, .ptr 0 0),(52, .vc 2)]) (H2:=[.box [lR x0, .mp 1,iL s0.1,iL x2],mQ x3 x4 x5 x6,a0A a0a 2 107 s0.2]) (by kernel_rfl) ?_)
         obtain⟨y0,hy0,h6⟩:=a0d h13
         rcases y0 with y1|y3
         ·have h15:=k0h h6
          exact kCg (some 53) [0,1,2] (g0S hy0) (kr 1 (kEx 1 (PJ.blockPass (by kernel_rfl) (kCx h15 h0 (fun h16=>PJ.blockOut (kLW h16 D W [0,1,3]))))))
         ·have h17:=k0g h6
          refine kCP (some 53) [0,1,2] (g0R hy0) (PP.next (PP.block ?_))
          obtain rfl:=oi h17
          have h18:=b0P h0
          refine PP.cutXr (PP.block ?_)
          obtain rfl:=oi h18
          refine PP.loopOut (fun he0=> ?_)
          have h19:=congrArg some he0
          refine PP.block ?_
          obtain rfl:=oi h19
          have h20:=b0P h1
          exact PP.cutXr (by obtain rfl:=oi h20;exact kPV [0,1] D W)
        ·exact kSR (RJ.seg 1 [0,2,3,4,55] (L2:=[(0, .ptr 0 0),(2, .nl),(3, .vc 2),(4,iM (nth x0 s0.1)),(55,iM (nth x0 s0.1))]) (H2:=[.box [lR x0, .mp 1,iL s0.1,iL x2],mQ x3 x4 x5 x6,a0A a0a 2 107 s0.2]) (by kernel_rfl) (kAb 56 h14 (fun _=>g0Q) (fun y4 h21=>kr 1 (kBT 54 h21 (fun h22=>kq (kXb (kCx h22 h0 (fun h24=>PJ.blockRet (kLx h24 (fun h25=>PJ.blockRet (kCx h25 h1 (fun h26=>by obtain rfl:=oi h26;exact PJ.wk (Wk.freeze 2 (n:=s0.2.length) (k:=2) (e:=107) (cs:=s0.2.flatMap a0a) (by kernel_rfl)) (kRV [0,1] (.inr rfl) H D W))))))))) (fun h23=>km 4 (kAp 40 2 4 2 107 [2,3] a0a h23 (fun h27=>ke 1 (PJ.blockNormal (kXW h27 D W [0,1,4])))))))))
       ·exact kM (PJ.blockNormal (kLo h11 [0,2,3]))
      ·have h28:=condT hb3 h5
       have hn627:=of_decide_eq_true hb3
       exact RJ.look (some 3) (d:=some 33) (ef:=⟨.tup [iL x6, .bool true],[1],[]⟩) (c:=m0y (iM (nth x0 s0.1)) [(iM 45,iL x3),(iM 43,iL x4),(iM 37,iL x5),(iM 164,iL x6)] 3) (tr2:=[]) (by kernel_rfl) (by simp[m0y,j0B,j0W,e0i,hn594,hn605,hn616,hn627]) (kr 5 (kcN h28 (fun(s5:Unit)=>([(0, .ptr 0 0),(2, .nl),(3, .vc 2)],[.box [lR x0, .mp 1,iL s0.1,iL x2],mQ x3 x4 x5 x6,a0A a0a 2 107 ((s0.2++([(⟨x6,0⟩:a0c)]:List a0c)))])) (fun s5 hy4=>kb 2 (kq (kT (km 4 (kAp 47 2 4 2 107 [2,3] a0a hy4 (fun h30=>ke 1 (PJ.blockNormal (kNW h30 D W [0,1,4])))))))) (fun s5 h29=>kM (PJ.blockNormal (kLo h29 [0,2,3])))))
     ·have h31:=condT hb2 h4
      have hn616:=of_decide_eq_true hb2
      exact RJ.look (some 2) (d:=some 33) (ef:=⟨.tup [iL x5, .bool true],[1],[]⟩) (c:=m0y (iM (nth x0 s0.1)) [(iM 45,iL x3),(iM 43,iL x4),(iM 37,iL x5),(iM 164,iL x6)] 2) (tr2:=[]) (by kernel_rfl) (by simp[m0y,j0B,j0W,e0i,hn594,hn605,hn616]) (kr 5 (kcN h31 (fun(s4:Unit)=>([(0, .ptr 0 0),(2, .nl),(3, .vc 2)],[.box [lR x0, .mp 1,iL s0.1,iL x2],mQ x3 x4 x5 x6,a0A a0a 2 107 ((s0.2++([(⟨x5,0⟩:a0c)]:List a0c)))])) (fun s4 hy5=>kb 2 (kq (kT (km 4 (kAp 47 2 4 2 107 [2,3] a0a hy5 (fun h33=>ke 1 (PJ.blockNormal (kNW h33 D W [0,1,4])))))))) (fun s4 h32=>kM (PJ.blockNormal (kLo h32 [0,2,3])))))
    ·have h34:=condT hb1 h3
     have hn605:=of_decide_eq_true hb1
     exact RJ.look (some 1) (d:=some 33) (ef:=⟨.tup [iL x4, .bool true],[1],[]⟩) (c:=m0y (iM (nth x0 s0.1)) [(iM 45,iL x3),(iM 43,iL x4),(iM 37,iL x5),(iM 164,iL x6)] 1) (tr2:=[]) (by kernel_rfl) (by simp[m0y,j0B,j0W,e0i,hn594,hn605]) (kr 5 (kcN h34 (fun(s3:Unit)=>([(0, .ptr 0 0),(2, .nl),(3, .vc 2)],[.box [lR x0, .mp 1,iL s0.1,iL x2],mQ x3 x4 x5 x6,a0A a0a 2 107 ((s0.2++([(⟨x4,0⟩:a0c)]:List a0c)))])) (fun s3 hy6=>kb 2 (kq (kT (km 4 (kAp 47 2 4 2 107 [2,3] a0a hy6 (fun h36=>ke 1 (PJ.blockNormal (kNW h36 D W [0,1,4])))))))) (fun s3 h35=>kM (PJ.blockNormal (kLo h35 [0,2,3])))))
   ·have h37:=condT hb0 h2
    have hn594:=of_decide_eq_true hb0
    exact RJ.look (some 0) (d:=some 33) (ef:=⟨.tup [iL x3, .bool true],[1],[]⟩) (c:=m0y (iM (nth x0 s0.1)) [(iM 45,iL x3),(iM 43,iL x4),(iM 37,iL x5),(iM 164,iL x6)] 0) (tr2:=[]) (by kernel_rfl) (by simp[m0y,j0B,j0W,e0i,hn594]) (kr 5 (kcN h37 (fun(s2:Unit)=>([(0, .ptr 0 0),(2, .nl),(3, .vc 2)],[.box [lR x0, .mp 1,iL s0.1,iL x2],mQ x3 x4 x5 x6,a0A a0a 2 107 ((s0.2++([(⟨x3,0⟩:a0c)]:List a0c)))])) (fun s2 hy7=>kb 2 (kq (kT (km 4 (kAp 47 2 4 2 107 [2,3] a0a hy7 (fun h39=>ke 1 (PJ.blockNormal (kNW h39 D W [0,1,4])))))))) (fun s2 h38=>kM (PJ.blockNormal (kLo h38 [0,2,3])))))
  ·exact kEp 0 (kLx h9 (fun h40=>PJ.blockOut (kXo h40 [2,3])))
 ·exact kq (kX (by obtain rfl:=oi h7;exact PJ.wk (Wk.freeze 2 (n:=s1.2.length) (k:=2) (e:=107) (cs:=s1.2.flatMap a0a) (by kernel_rfl)) (kRV [0,1] (.inr rfl) H D W)))
theorem c0k {x0:List Int} {x1 x2 x3 x4 x5 x6:Int} {r:(List a0c)×Int} (h:a0O x0 x1 x2 x3 x4 x5 x6=some (.inl r)):SQ 163 [.ptr 0 0] [.box [lR x0, .mp 1,iL x1,iL x2],mQ x3 x4 x5 x6] (lsv a0a 2 r.1) [.box [lR x0, .mp 1,iL r.2,iL x2],mQ x3 x4 x5 x6]:=(e0E h).1 _ rfl
theorem c0j {x0:List Int} {x1 x2 x3 x4 x5 x6:Int} {r:Int×Int} (h:a0O x0 x1 x2 x3 x4 x5 x6=some (.inr r)):SP Tryz.prog 163 [.ptr 0 0] [.box [lR x0, .mp 1,iL x1,iL x2],mQ x3 x4 x5 x6] [.box [.undef, .mp 1,iL r.1,iL r.2],mQ x3 x4 x5 x6]:=(e0E h).2 _ rfl
def b0M(x0:Int)(x1:List Int)(x2 x3 x4 x5 x6 x7:Int)(x8:List a0c)(x9:Bool)(x10 x11 x12 x13 x14 x15 x16 x17 x18:Int)(x19:Bool)(x20 x21:Int):Option ((Int×Int×Int)⊕(Int×Int)):=
 (Option.bind (Option.bind (bif(decide (¬x21=0))then(some (true,x2))else(Option.bind (a0t 42 x1 x2 x3 x4 x5 x6 x7) fun y0=>(some ((!y0.1),y0.2)))) fun(s1:Bool×Int)=>(bif s1.1 then(some (.inr (.inl (s1.2,x20,x21))))else(some (.inl s1.2)))) (a0j fun(s0:Int)=>(Option.bind (bif(decide (s0=(x1.length:Int)))then(Option.bind (a0I s0 x1 s0 x3 x4 x5 x6 x7) fun y1=>(some (.inr (.inr (s0,s0)))))else(some (.inl ()))) (a0j fun(s2:Unit)=>(bif inR s0 x1.length then(some (.inl ((IntKind.wrap .i64 (s0+1)),(nth x1 s0),x0)))else none)))))
theorem f0d {x0:Int} {x1:List Int} {x2 x3 x4 x5 x6 x7:Int} {x8:List a0c} {x9:Bool} {x10 x11 x12 x13 x14 x15 x16 x17 x18:Int} {x19:Bool} {x20 x21:Int} {r:(Int×Int×Int)⊕(Int×Int)} (h:b0M x0 x1 x2 x3 x4 x5 x6 x7 x8 x9 x10 x11 x12 x13 x14 x15 x16 x17 x18 x19 x20 x21=some r):(∀a,r= .inl a→SQ 162 [.ptr 0 0, .ptr 2 0,iL x0] [.box [lR x1, .mp 1,iL x2,iL x3],mQ x4 x5 x6 x7, .box [lsv a0a 2 x8, .nl, .nl, .nl, .bool x9,iL x10,iL x11,iL x12,iL x13,iL x14,iL x15,iL x16,iL x17,iL x18, .bool x19,iM x20,iL x21]] (.tup []) [.box [lR x1, .mp 1,iL a.1,iL x3],mQ x4 x5 x6 x7, .box [lsv a0a 2 x8, .nl, .nl, .nl, .bool x9,iL x10,iL x11,iL x12,iL x13,iL x14,iL x15,iL x16,iL x17,iL x18, .bool x19,iM a.2.1,iL a.2.2]])∧(∀a,r= .inr a→SP Tryz.prog 162 [.ptr 0 0, .ptr 2 0,iL x0] [.box [lR x1, .mp 1,iL x2,iL x3],mQ x4 x5 x6 x7, .box [lsv a0a 2 x8, .nl, .nl, .nl, .bool x9,iL x10,iL x11,iL x12,iL x13,iL x14,iL x15,iL x16,iL x17,iL x18, .bool x19,iM x20,iL x21]] [.box [.undef, .mp 1,iL a.1,iL a.2],mQ x4 x5 x6 x7, .box [.undef, .undef, .undef, .undef, .bool x9,iL x10,iL x11,iL x12,iL x13,iL x14,iL x15,iL x16,iL x17,iL x18, .bool x19,iM x20,iL x21]]):=by
 refine u0k (fn:=Tryz.f162) _ _ _ (fun F H D W=> ?_)
 unfold b0M at h
 refine kcX h (fun(s0:Int)=>([(0, .ptr 0 0),(1, .ptr 2 0),(2,iL x0)],[.box [lR x1, .mp 1,iL s0,iL x3],mQ x4 x5 x6 x7, .box [lsv a0a 2 x8, .nl, .nl, .nl, .bool x9,iL x10,iL x11,iL x12,iL x13,iL x14,iL x15,iL x16,iL x17,iL x18, .bool x19,iM x20,iL x21]])) (fun y2 hy0 h0=> ?_) (fun s0 h1=> ?_)
 ·refine kcN hy0 (fun(s1:Bool×Int)=>([(0, .ptr 0 0),(1, .ptr 2 0),(2,iL x0),(15, .bool s1.1)],[.box [lR x1, .mp 1,iL s1.2,iL x3],mQ x4 x5 x6 x7, .box [lsv a0a 2 x8, .nl, .nl, .nl, .bool x9,iL x10,iL x11,iL x12,iL x13,iL x14,iL x15,iL x16,iL x17,iL x18, .bool x19,iM x20,iL x21]])) (fun s1 hy1=> ?_) (fun s1 h2=> ?_)
  ·refine km 6 (kB 11 hy1 (fun h3=> ?_) (fun h4=> ?_))
   ·exact ke 4 (kNo h3 [0,1,2,15])
   ·refine kc 1 ?_
    obtain⟨y0,hy2,h5⟩:=a0d h4
    exact kCg (some 13) [0,1] (a0C hy2) (ke 2 (kNo h5 [0,1,2,15]))
  ·exact kBT 15 h2 (fun h6=>kX (kCx h6 h0 (fun h8=>by obtain rfl:=oi h8;exact kRV [0,1,2] (.inr rfl) H D W))) (fun h7=>kK (kXo h7 [0,1,2]))
 ·refine kcX h1 (fun(s2:Unit)=>([(0, .ptr 0 0),(1, .ptr 2 0),(2,iL x0)],[.box [lR x1, .mp 1,iL s0,iL x3],mQ x4 x5 x6 x7, .box [lsv a0a 2 x8, .nl, .nl, .nl, .bool x9,iL x10,iL x11,iL x12,iL x13,iL x14,iL x15,iL x16,iL x17,iL x18, .bool x19,iM x20,iL x21]])) (fun y3 hy3 h9=> ?_) (fun s2 h10=> ?_)
  ·refine kS (kDr (kD 10 (kEN (kBT 25 hy3 (fun h11=> ?_) (fun h12=> ?_)))))
   ·refine km 5 ?_
    obtain⟨y1,hy4,h13⟩:=a0d h11
    refine kCP (some 31) [0,1] (a0E hy4) ?_
    obtain rfl:=oi h13
    have h14:=b0P h9
    exact PP.cutXr (by obtain rfl:=oi h14;exact PP.wk (Wk.undefs 2 [true,true,true,true,false,false,false,false,false,false,false,false,false,false,false,false,false] (cs:=[lsv a0a 2 x8, .nl, .nl, .nl, .bool x9,iL x10,iL x11,iL x12,iL x13,iL x14,iL x15,iL x16,iL x17,iL x18, .bool x19,iM x20,iL x21]) (by kernel_rfl)) (kPV [0,1,2] D W))
   ·exact kK (kXo h12 [0,1,2])
  ·refine kS (kDr (kD 10 ?_))
   obtain⟨hm,h15⟩:=a0Q h10
   exact kJ 42 (tr2:=[([],[]),([],[]),([],[]),([],[]),([],[]),([0,1],[]),([],[]),([],[]),([],[]),([0,1],[]),([],[])]) (a0x .i32) hm (kD 8 (kEN (kM (by obtain rfl:=oi h15;exact kRV [0,1,2] (.inl rfl) H D W))))
theorem f0f {x0:Int} {x1:List Int} {x2 x3 x4 x5 x6 x7:Int} {x8:List a0c} {x9:Bool} {x10 x11 x12 x13 x14 x15 x16 x17 x18:Int} {x19:Bool} {x20 x21:Int} {r:Int×Int×Int} (h:b0M x0 x1 x2 x3 x4 x5 x6 x7 x8 x9 x10 x11 x12 x13 x14 x15 x16 x17 x18 x19 x20 x21=some (.inl r)):SQ 162 [.ptr 0 0, .ptr 2 0,iL x0] [.box [lR x1, .mp 1,iL x2,iL x3],mQ x4 x5 x6 x7, .box [lsv a0a 2 x8, .nl, .nl, .nl, .bool x9,iL x10,iL x11,iL x12,iL x13,iL x14,iL x15,iL x16,iL x17,iL x18, .bool x19,iM x20,iL x21]] (.tup []) [.box [lR x1, .mp 1,iL r.1,iL x3],mQ x4 x5 x6 x7, .box [lsv a0a 2 x8, .nl, .nl, .nl, .bool x9,iL x10,iL x11,iL x12,iL x13,iL x14,iL x15,iL x16,iL x17,iL x18, .bool x19,iM r.2.1,iL r.2.2]]:=(f0d h).1 _ rfl
theorem f0e {x0:Int} {x1:List Int} {x2 x3 x4 x5 x6 x7:Int} {x8:List a0c} {x9:Bool} {x10 x11 x12 x13 x14 x15 x16 x17 x18:Int} {x19:Bool} {x20 x21:Int} {r:Int×Int} (h:b0M x0 x1 x2 x3 x4 x5 x6 x7 x8 x9 x10 x11 x12 x13 x14 x15 x16 x17 x18 x19 x20 x21=some (.inr r)):SP Tryz.prog 162 [.ptr 0 0, .ptr 2 0,iL x0] [.box [lR x1, .mp 1,iL x2,iL x3],mQ x4 x5 x6 x7, .box [lsv a0a 2 x8, .nl, .nl, .nl, .bool x9,iL x10,iL x11,iL x12,iL x13,iL x14,iL x15,iL x16,iL x17,iL x18, .bool x19,iM x20,iL x21]] [.box [.undef, .mp 1,iL r.1,iL r.2],mQ x4 x5 x6 x7, .box [.undef, .undef, .undef, .undef, .bool x9,iL x10,iL x11,iL x12,iL x13,iL x14,iL x15,iL x16,iL x17,iL x18, .bool x19,iM x20,iL x21]]:=(f0d h).2 _ rfl
def b0e(x0:Int)(x1:List Int)(x2 x3 x4 x5 x6 x7:Int):Option (Int×Int):=
 (Option.bind (a0l (fun(s0:Int×Int)=>(Option.bind (a0t x0 x1 s0.2 x3 x4 x5 x6 x7) fun y0=>(bif y0.1 then(some (.inl ((IntKind.wrap .i64 (s0.1+1)),y0.2)))else(some (.inr (s0.1,y0.2)))))) big (0,x2)) fun(s1:Int×Int)=>(some (s1.1,s1.2)))
theorem b0Z {x0:Int} {x1:List Int} {x2 x3 x4 x5 x6 x7:Int} {r:Int×Int} (h:b0e x0 x1 x2 x3 x4 x5 x6 x7=some r):SQ 184 [.ptr 0 0,iM x0] [.box [lR x1, .mp 1,iL x2,iL x3],mQ x4 x5 x6 x7] (iL r.1) [.box [lR x1, .mp 1,iL r.2,iL x3],mQ x4 x5 x6 x7]:=by
 refine kFn (fn:=Tryz.f184) (fun F H D W=> ?_)
 unfold b0e at h
 refine kq (kq (kcN h (fun(s1:Int×Int)=>([(4,iL 0),(5,iL s1.1)],[.box [lR x1, .mp 1,iL s1.2,iL x3],mQ x4 x5 x6 x7])) (fun s1 hy0=> ?_) (fun s1 h0=> ?_)))
 ·refine kb 0 (kl (fun(s0:Int×Int)=>([(0, .ptr 0 0),(1,iM x0),(4,iL 0),(5,iL s0.1)],[.box [lR x1, .mp 1,iL s0.2,iL x3],mQ x4 x5 x6 x7])) hy0 [0,1,4,5] (fun s0 x51 hs0=>kS (kn 2 ?_)))
  obtain⟨y0,hy1,h1⟩:=a0d hs0
  exact kCg (some 8) [0,1] (a0C hy1) (kEN (kBT 8 h1 (fun h2=>kKN (kb 1 (kM (PJ.blockNormal (kLo h2 [0,1,4,5]))))) (fun h3=>kEp 0 (kLx h3 (fun h4=>PJ.blockOut (kNo h4 [4,5]))))))
 ·exact kq (kX (by obtain rfl:=oi h0;exact kRV [0,1] (.inr rfl) H D W))
def b0V(x0:Int)(x1:List Int)(x2 x3 x4 x5 x6 x7:Int)(x8:List a0c)(x9:Bool)(x10 x11 x12 x13 x14 x15 x16 x17 x18:Int)(x19:Bool)(x20 x21:Int):Option (Bool):=
 (Option.bind (Option.bind (a0X 48 x0 x1 x2 x3 x4 x5 x6 x7) fun y0=>(bif y0 then(some true)else(bif(decide (x11=0))then(Option.bind (a0X 35 x0 x1 x2 x3 x4 x5 x6 x7) fun y1=>(some y1))else(some false)))) fun(s0:Bool)=>(some s0))
theorem e0O {x0:Int} {x1:List Int} {x2 x3 x4 x5 x6 x7:Int} {x8:List a0c} {x9:Bool} {x10 x11 x12 x13 x14 x15 x16 x17 x18:Int} {x19:Bool} {x20 x21:Int} {r:Bool} (h:b0V x0 x1 x2 x3 x4 x5 x6 x7 x8 x9 x10 x11 x12 x13 x14 x15 x16 x17 x18 x19 x20 x21=some r):SQ 201 [.ptr 0 0, .ptr 2 0,iL x0] [.box [lR x1, .mp 1,iL x2,iL x3],mQ x4 x5 x6 x7, .box [lsv a0a 2 x8, .nl, .nl, .nl, .bool x9,iL x10,iL x11,iL x12,iL x13,iL x14,iL x15,iL x16,iL x17,iL x18, .bool x19,iM x20,iL x21]] (.bool r) [.box [lR x1, .mp 1,iL x2,iL x3],mQ x4 x5 x6 x7, .box [lsv a0a 2 x8, .nl, .nl, .nl, .bool x9,iL x10,iL x11,iL x12,iL x13,iL x14,iL x15,iL x16,iL x17,iL x18, .bool x19,iM x20,iL x21]]:=by
 refine kFn (fn:=Tryz.f201) (fun F H D W=> ?_)
 unfold b0V at h
 refine kq (kcN h (fun(s0:Bool)=>([(6, .bool s0)],[.box [lR x1, .mp 1,iL x2,iL x3],mQ x4 x5 x6 x7, .box [lsv a0a 2 x8, .nl, .nl, .nl, .bool x9,iL x10,iL x11,iL x12,iL x13,iL x14,iL x15,iL x16,iL x17,iL x18, .bool x19,iM x20,iL x21]])) (fun s0 hy0=> ?_) (fun s0 h0=> ?_))
 ·refine km 2 ?_
  obtain⟨y0,hy1,h1⟩:=a0d hy0
  refine kCg (some 9) [0,1] (b0x hy1) (kc 1 (kB 10 h1 (fun h2=> ?_) (fun h3=> ?_)))
  ·exact ke 12 (kNo h2 [6])
  ·refine kc 6 (kB 16 h3 (fun h4=> ?_) (fun h5=> ?_))
   ·refine kc 2 ?_
    obtain⟨y1,hy2,h6⟩:=a0d h4
    exact kCg (some 19) [0,1] (b0x hy2) (ke 3 (kNo h6 [6]))
   ·exact ke 6 (kNo h5 [6])
 ·exact kX (by obtain rfl:=oi h0;exact kRV [0,1,2] (.inr rfl) H D W)
def b0W(x0:Int)(x1:List Int)(x2 x3 x4 x5 x6 x7:Int)(x8:List a0c)(x9:Bool)(x10 x11 x12 x13 x14 x15 x16 x17 x18:Int)(x19:Bool)(x20 x21:Int):Option (Bool):=
 (Option.bind (bif(decide (x0>0))then(Option.bind (a0X 44 0 x1 x2 x3 x4 x5 x6 x7) fun y0=>(bif y0 then(Option.bind (b0V 1 x1 x2 x3 x4 x5 x6 x7 x8 x9 x10 x11 x12 x13 x14 x15 x16 x17 x18 x19 x20 x21) fun y1=>(some y1))else(some false)))else(some false)) fun(s0:Bool)=>(some s0))
theorem e0P {x0:Int} {x1:List Int} {x2 x3 x4 x5 x6 x7:Int} {x8:List a0c} {x9:Bool} {x10 x11 x12 x13 x14 x15 x16 x17 x18:Int} {x19:Bool} {x20 x21:Int} {r:Bool} (h:b0W x0 x1 x2 x3 x4 x5 x6 x7 x8 x9 x10 x11 x12 x13 x14 x15 x16 x17 x18 x19 x20 x21=some r):SQ 202 [.ptr 0 0, .ptr 2 0,iL x0] [.box [lR x1, .mp 1,iL x2,iL x3],mQ x4 x5 x6 x7, .box [lsv a0a 2 x8, .nl, .nl, .nl, .bool x9,iL x10,iL x11,iL x12,iL x13,iL x14,iL x15,iL x16,iL x17,iL x18, .bool x19,iM x20,iL x21]] (.bool r) [.box [lR x1, .mp 1,iL x2,iL x3],mQ x4 x5 x6 x7, .box [lsv a0a 2 x8, .nl, .nl, .nl, .bool x9,iL x10,iL x11,iL x12,iL x13,iL x14,iL x15,iL x16,iL x17,iL x18, .bool x19,iM x20,iL x21]]:=by
 refine kFn (fn:=Tryz.f202) (fun F H D W=> ?_)
 unfold b0W at h
 refine kq (kcN h (fun(s0:Bool)=>([(6, .bool s0)],[.box [lR x1, .mp 1,iL x2,iL x3],mQ x4 x5 x6 x7, .box [lsv a0a 2 x8, .nl, .nl, .nl, .bool x9,iL x10,iL x11,iL x12,iL x13,iL x14,iL x15,iL x16,iL x17,iL x18, .bool x19,iM x20,iL x21]])) (fun s0 hy0=> ?_) (fun s0 h0=> ?_))
 ·refine km 3 (kB 9 hy0 (fun h1=> ?_) (fun h2=> ?_))
  ·refine kc 1 ?_
   obtain⟨y0,hy1,h3⟩:=a0d h1
   refine kCg (some 11) [0,1] (b0x hy1) (kc 2 (kB 13 h3 (fun h4=> ?_) (fun h5=> ?_)))
   ·refine kc 2 ?_
    obtain⟨y1,hy2,h6⟩:=a0d h4
    exact kCg (some 16) [0,1,2] (e0O hy2) (ke 2 (kNo h6 [6]))
   ·exact ke 5 (kNo h5 [6])
  ·exact ke 9 (kNo h2 [6])
 ·exact kX (by obtain rfl:=oi h0;exact kRV [0,1,2] (.inr rfl) H D W)
def b0l(x0 x1:Int)(x2:List Int)(x3 x4 x5 x6 x7 x8:Int)(x9:List a0c)(x10:Bool)(x11 x12 x13 x14 x15 x16 x17 x18 x19:Int)(x20:Bool)(x21 x22:Int):Option (Int⊕Unit):=
 (Option.bind (Option.bind (bif(decide (x0=0))then(some true)else(Option.bind (b0W x1 x2 x3 x4 x5 x6 x7 x8 x9 x10 x11 x12 x13 x14 x15 x16 x17 x18 x19 x20 x21 x22) fun y0=>(some (!y0)))) fun(s0:Bool)=>(bif s0 then(some (.inr (.inl x16)))else(some (.inl ())))) (a0j fun(s2:Unit)=>(Option.bind (Option.bind (bif(decide (x0>1))then(some (decide (¬x1=x16)))else(some false)) fun(s1:Bool)=>(bif s1 then(Option.bind (a0I x3 x2 x3 x4 x5 x6 x7 x8) fun y1=>(some (.inr (.inr ()))))else(some (.inl ())))) (a0j fun(s3:Unit)=>(some (.inl x1))))))
theorem e0g {x0 x1:Int} {x2:List Int} {x3 x4 x5 x6 x7 x8:Int} {x9:List a0c} {x10:Bool} {x11 x12 x13 x14 x15 x16 x17 x18 x19:Int} {x20:Bool} {x21 x22:Int} {r:Int⊕Unit} (h:b0l x0 x1 x2 x3 x4 x5 x6 x7 x8 x9 x10 x11 x12 x13 x14 x15 x16 x17 x18 x19 x20 x21 x22=some r):(∀a,r= .inl a→SQ 203 [.ptr 0 0, .ptr 2 0,iL x0,iL x1] [.box [lR x2, .mp 1,iL x3,iL x4],mQ x5 x6 x7 x8, .box [lsv a0a 2 x9, .nl, .nl, .nl, .bool x10,iL x11,iL x12,iL x13,iL x14,iL x15,iL x16,iL x17,iL x18,iL x19, .bool x20,iM x21,iL x22]] (.tup []) [.box [lR x2, .mp 1,iL x3,iL x4],mQ x5 x6 x7 x8, .box [lsv a0a 2 x9, .nl, .nl, .nl, .bool x10,iL x11,iL x12,iL x13,iL x14,iL x15,iL a,iL x17,iL x18,iL x19, .bool x20,iM x21,iL x22]])∧(∀a,r= .inr a→SP Tryz.prog 203 [.ptr 0 0, .ptr 2 0,iL x0,iL x1] [.box [lR x2, .mp 1,iL x3,iL x4],mQ x5 x6 x7 x8, .box [lsv a0a 2 x9, .nl, .nl, .nl, .bool x10,iL x11,iL x12,iL x13,iL x14,iL x15,iL x16,iL x17,iL x18,iL x19, .bool x20,iM x21,iL x22]] [.box [.undef, .mp 1,iL x3,iL x3],mQ x5 x6 x7 x8, .box [.undef, .undef, .undef, .undef, .bool x10,iL x11,iL x12,iL x13,iL x14,iL x15,iL x16,iL x17,iL x18,iL x19, .bool x20,iM x21,iL x22]]):=by
 refine u0k (fn:=Tryz.f203) _ _ _ (fun F H D W=> ?_)
 unfold b0l at h
 refine kcX h (fun(s2:Unit)=>([(0, .ptr 0 0),(1, .ptr 2 0),(2,iL x0),(3,iL x1)],[.box [lR x2, .mp 1,iL x3,iL x4],mQ x5 x6 x7 x8, .box [lsv a0a 2 x9, .nl, .nl, .nl, .bool x10,iL x11,iL x12,iL x13,iL x14,iL x15,iL x16,iL x17,iL x18,iL x19, .bool x20,iM x21,iL x22]])) (fun y2 hy0 h0=> ?_) (fun s2 h1=> ?_)
 ·refine kcN hy0 (fun(s0:Bool)=>([(0, .ptr 0 0),(1, .ptr 2 0),(2,iL x0),(3,iL x1),(16, .bool s0)],[.box [lR x2, .mp 1,iL x3,iL x4],mQ x5 x6 x7 x8, .box [lsv a0a 2 x9, .nl, .nl, .nl, .bool x10,iL x11,iL x12,iL x13,iL x14,iL x15,iL x16,iL x17,iL x18,iL x19, .bool x20,iM x21,iL x22]])) (fun s0 hy1=> ?_) (fun s0 h2=> ?_)
  ·refine km 3 (kB 10 hy1 (fun h3=> ?_) (fun h4=> ?_))
   ·exact ke 6 (kNo h3 [0,1,2,3,16])
   ·refine kc 3 ?_
    obtain⟨y0,hy2,h5⟩:=a0d h4
    exact kCg (some 14) [0,1,2] (e0P hy2) (ke 2 (kNo h5 [0,1,2,3,16]))
  ·exact kBT 16 h2 (fun h6=>kX (kCx h6 h0 (fun h8=>by obtain rfl:=oi h8;exact kRV [0,1,2] (.inr rfl) H D W))) (fun h7=>kK (kXo h7 [0,1,2,3]))
 ·refine kcX h1 (fun(s3:Unit)=>([(1, .ptr 2 0),(3,iL x1)],[.box [lR x2, .mp 1,iL x3,iL x4],mQ x5 x6 x7 x8, .box [lsv a0a 2 x9, .nl, .nl, .nl, .bool x10,iL x11,iL x12,iL x13,iL x14,iL x15,iL x16,iL x17,iL x18,iL x19, .bool x20,iM x21,iL x22]])) (fun y3 hy3 h9=> ?_) (fun s3 h10=> ?_)
  ·refine kcN hy3 (fun(s1:Bool)=>([(0, .ptr 0 0),(1, .ptr 2 0),(3,iL x1),(26, .bool s1)],[.box [lR x2, .mp 1,iL x3,iL x4],mQ x5 x6 x7 x8, .box [lsv a0a 2 x9, .nl, .nl, .nl, .bool x10,iL x11,iL x12,iL x13,iL x14,iL x15,iL x16,iL x17,iL x18,iL x19, .bool x20,iM x21,iL x22]])) (fun s1 hy4=> ?_) (fun s1 h11=> ?_)
   ·exact km 3 (kB 19 hy4 (fun h12=>ke 7 (kNo h12 [0,1,3,26])) (fun h13=>ke 7 (kNo h13 [0,1,3,26])))
   ·refine kBT 26 h11 (fun h14=> ?_) (fun h15=> ?_)
    ·refine km 5 ?_
     obtain⟨y1,hy5,h16⟩:=a0d h14
     refine kCP (some 32) [0,1] (a0E hy5) ?_
     obtain rfl:=oi h16
     have h17:=b0P h9
     exact PP.cutXr (by obtain rfl:=oi h17;exact PP.wk (Wk.undefs 2 [true,true,true,true,false,false,false,false,false,false,false,false,false,false,false,false,false] (cs:=[lsv a0a 2 x9, .nl, .nl, .nl, .bool x10,iL x11,iL x12,iL x13,iL x14,iL x15,iL x16,iL x17,iL x18,iL x19, .bool x20,iM x21,iL x22]) (by kernel_rfl)) (kPV [0,1,2] D W))
    ·exact kK (kXo h15 [1,3])
  ·exact kM (by obtain rfl:=oi h10;exact kRV [0,1,2] (.inl rfl) H D W)
theorem g0A {x0 x1:Int} {x2:List Int} {x3 x4 x5 x6 x7 x8:Int} {x9:List a0c} {x10:Bool} {x11 x12 x13 x14 x15 x16 x17 x18 x19:Int} {x20:Bool} {x21 x22 r:Int} (h:b0l x0 x1 x2 x3 x4 x5 x6 x7 x8 x9 x10 x11 x12 x13 x14 x15 x16 x17 x18 x19 x20 x21 x22=some (.inl r)):SQ 203 [.ptr 0 0, .ptr 2 0,iL x0,iL x1] [.box [lR x2, .mp 1,iL x3,iL x4],mQ x5 x6 x7 x8, .box [lsv a0a 2 x9, .nl, .nl, .nl, .bool x10,iL x11,iL x12,iL x13,iL x14,iL x15,iL x16,iL x17,iL x18,iL x19, .bool x20,iM x21,iL x22]] (.tup []) [.box [lR x2, .mp 1,iL x3,iL x4],mQ x5 x6 x7 x8, .box [lsv a0a 2 x9, .nl, .nl, .nl, .bool x10,iL x11,iL x12,iL x13,iL x14,iL x15,iL r,iL x17,iL x18,iL x19, .bool x20,iM x21,iL x22]]:=(e0g h).1 _ rfl
theorem g0z {x0 x1:Int} {x2:List Int} {x3 x4 x5 x6 x7 x8:Int} {x9:List a0c} {x10:Bool} {x11 x12 x13 x14 x15 x16 x17 x18 x19:Int} {x20:Bool} {x21 x22:Int} {r:Unit} (h:b0l x0 x1 x2 x3 x4 x5 x6 x7 x8 x9 x10 x11 x12 x13 x14 x15 x16 x17 x18 x19 x20 x21 x22=some (.inr r)):SP Tryz.prog 203 [.ptr 0 0, .ptr 2 0,iL x0,iL x1] [.box [lR x2, .mp 1,iL x3,iL x4],mQ x5 x6 x7 x8, .box [lsv a0a 2 x9, .nl, .nl, .nl, .bool x10,iL x11,iL x12,iL x13,iL x14,iL x15,iL x16,iL x17,iL x18,iL x19, .bool x20,iM x21,iL x22]] [.box [.undef, .mp 1,iL x3,iL x3],mQ x5 x6 x7 x8, .box [.undef, .undef, .undef, .undef, .bool x10,iL x11,iL x12,iL x13,iL x14,iL x15,iL x16,iL x17,iL x18,iL x19, .bool x20,iM x21,iL x22]]:=(e0g h).2 _ rfl
def b0q(x0:List Int)(x1 x2 x3 x4 x5 x6:Int)(x7:List a0c)(x8:Bool)(x9 x10 x11 x12 x13 x14 x15 x16 x17:Int)(x18:Bool)(x19 x20:Int):Option ((Int×Int×Int×Int×Int)⊕(Int×Int×Int×Int×Int)):=
 (Option.bind (a0l (fun(s0:Int×Int×Int×Int×Int×Int)=>(Option.bind (Option.bind (Option.bind (b0V 0 x0 s0.2.2.1 x2 x3 x4 x5 x6 x7 x8 s0.2.2.2.1 s0.2.2.2.2.1 x11 x12 x13 s0.2.2.2.2.2 x15 x16 x17 x18 x19 x20) fun y3=>(bif y3 then(some true)else(Option.bind (b0W s0.2.1 x0 s0.2.2.1 x2 x3 x4 x5 x6 x7 x8 s0.2.2.2.1 s0.2.2.2.2.1 x11 x12 x13 s0.2.2.2.2.2 x15 x16 x17 x18 x19 x20) fun y4=>(some y4)))) fun(s3:Bool)=>(bif s3 then(some (.inl ()))else(some (.inr (.inr (.inl (s0.1,s0.2.1,s0.2.2.1,s0.2.2.2.1,s0.2.2.2.2.1,s0.2.2.2.2.2))))))) (a0j fun(s4:Unit)=>(Option.bind (a0t 44 x0 s0.2.2.1 x2 x3 x4 x5 x6) fun y0=>(bif y0.1 then(some (.inl ((IntKind.wrap .i64 (s0.1+1)),0,y0.2,s0.2.2.2.1,s0.2.2.2.2.1,s0.2.2.2.2.2)))else(Option.bind (Option.bind (a0t 48 x0 y0.2 x2 x3 x4 x5 x6) fun y1=>(bif y1.1 then(some (y1.2,s0.2.2.2.1,(IntKind.wrap .i64 (s0.2.2.2.2.1+1))))else(some ((IntKind.wrap .i64 (y1.2+1)),(IntKind.wrap .i64 (s0.2.2.2.1+1)),s0.2.2.2.2.1)))) fun(s2:Int×Int×Int)=>(Option.bind (b0l s0.1 (IntKind.wrap .i64 (s0.2.1+1)) x0 s2.1 x2 x3 x4 x5 x6 x7 x8 s2.2.1 s2.2.2 x11 x12 x13 s0.2.2.2.2.2 x15 x16 x17 x18 x19 x20) fun y2=>(Sum.elim (fun y5=>(some (.inl (s0.1,(IntKind.wrap .i64 (s0.2.1+1)),s2.1,s2.2.1,s2.2.2,y5)))) (fun y6=>(some (.inr (.inr (.inr (s2.1,s2.1,s2.2.1,s2.2.2,s0.2.2.2.2.2)))))) y2)))))))) big (0,0,x1,x9,x10,x14)) (a0j fun(s1:Int×Int×Int×Int×Int×Int)=>(Option.bind (bif(decide ((IntKind.wrap .i64 (s1.2.2.2.1+s1.2.2.2.2.1))=0))then(Option.bind (a0I s1.2.2.1 x0 s1.2.2.1 x2 x3 x4 x5 x6) fun y7=>(some (.inr (.inr (s1.2.2.1,s1.2.2.1,s1.2.2.2.1,s1.2.2.2.2.1,s1.2.2.2.2.2)))))else(some (.inl ()))) (a0j fun(s5:Unit)=>(bif(decide (s1.1=0))then(some (.inl (s1.2.2.1,s1.2.2.2.1,s1.2.2.2.2.1,x13,s1.2.2.2.2.2)))else(bif(decide (s1.1=1))then(some (.inl (s1.2.2.1,s1.2.2.2.1,s1.2.2.2.2.1,s1.2.1,s1.2.1)))else(some (.inl (s1.2.2.1,s1.2.2.2.1,s1.2.2.2.2.1,s1.2.1,s1.2.2.2.2.2)))))))))
theorem e0k {x0:List Int} {x1 x2 x3 x4 x5 x6:Int} {x7:List a0c} {x8:Bool} {x9 x10 x11 x12 x13 x14 x15 x16 x17:Int} {x18:Bool} {x19 x20:Int} {r:(Int×Int×Int×Int×Int)⊕(Int×Int×Int×Int×Int)} (h:b0q x0 x1 x2 x3 x4 x5 x6 x7 x8 x9 x10 x11 x12 x13 x14 x15 x16 x17 x18 x19 x20=some r):(∀a,r= .inl a→SQ 185 [.ptr 0 0, .ptr 2 0] [.box [lR x0, .mp 1,iL x1,iL x2],mQ x3 x4 x5 x6, .box [lsv a0a 2 x7, .nl, .nl, .nl, .bool x8,iL x9,iL x10,iL x11,iL x12,iL x13,iL x14,iL x15,iL x16,iL x17, .bool x18,iM x19,iL x20]] (.tup []) [.box [lR x0, .mp 1,iL a.1,iL x2],mQ x3 x4 x5 x6, .box [lsv a0a 2 x7, .nl, .nl, .nl, .bool x8,iL a.2.1,iL a.2.2.1,iL x11,iL x12,iL a.2.2.2.1,iL a.2.2.2.2,iL x15,iL x16,iL x17, .bool x18,iM x19,iL x20]])∧(∀a,r= .inr a→SP Tryz.prog 185 [.ptr 0 0, .ptr 2 0] [.box [lR x0, .mp 1,iL x1,iL x2],mQ x3 x4 x5 x6, .box [lsv a0a 2 x7, .nl, .nl, .nl, .bool x8,iL x9,iL x10,iL x11,iL x12,iL x13,iL x14,iL x15,iL x16,iL x17, .bool x18,iM x19,iL x20]] [.box [.undef, .mp 1,iL a.1,iL a.2.1],mQ x3 x4 x5 x6, .box [.undef, .undef, .undef, .undef, .bool x8,iL a.2.2.1,iL a.2.2.2.1,iL x11,iL x12,iL x13,iL a.2.2.2.2,iL x15,iL x16,iL x17, .bool x18,iM x19,iL x20]]):=by
 refine u0k (fn:=Tryz.f185) _ _ _ (fun F H D W=> ?_)
 unfold b0q at h
 refine kq (kcX h (fun(s1:Int×Int×Int×Int×Int×Int)=>([(0, .ptr 0 0),(1, .ptr 2 0),(4,iL s1.1),(5,iL s1.2.1)],[.box [lR x0, .mp 1,iL s1.2.2.1,iL x2],mQ x3 x4 x5 x6, .box [lsv a0a 2 x7, .nl, .nl, .nl, .bool x8,iL s1.2.2.2.1,iL s1.2.2.2.2.1,iL x11,iL x12,iL x13,iL s1.2.2.2.2.2,iL x15,iL x16,iL x17, .bool x18,iM x19,iL x20]])) (fun y8 hy1 h1=> ?_) (fun s1 h2=> ?_))
 ·refine kb 0 (kl (fun(s0:Int×Int×Int×Int×Int×Int)=>([(0, .ptr 0 0),(1, .ptr 2 0),(4,iL s0.1),(5,iL s0.2.1)],[.box [lR x0, .mp 1,iL s0.2.2.1,iL x2],mQ x3 x4 x5 x6, .box [lsv a0a 2 x7, .nl, .nl, .nl, .bool x8,iL s0.2.2.2.1,iL s0.2.2.2.2.1,iL x11,iL x12,iL x13,iL s0.2.2.2.2.2,iL x15,iL x16,iL x17, .bool x18,iM x19,iL x20]])) hy1 [0,1,4,5] (fun s0 x496 hs0=>kcX hs0 (fun(s4:Unit)=>([(0, .ptr 0 0),(1, .ptr 2 0),(4,iL s0.1),(5,iL s0.2.1)],[.box [lR x0, .mp 1,iL s0.2.2.1,iL x2],mQ x3 x4 x5 x6, .box [lsv a0a 2 x7, .nl, .nl, .nl, .bool x8,iL s0.2.2.2.1,iL s0.2.2.2.2.1,iL x11,iL x12,iL x13,iL s0.2.2.2.2.2,iL x15,iL x16,iL x17, .bool x18,iM x19,iL x20]])) (fun y9 hy2 h3=> ?_) (fun s4 h4=> ?_)))
  ·refine kcN hy2 (fun(s3:Bool)=>([(0, .ptr 0 0),(1, .ptr 2 0),(4,iL s0.1),(5,iL s0.2.1),(14, .bool s3)],[.box [lR x0, .mp 1,iL s0.2.2.1,iL x2],mQ x3 x4 x5 x6, .box [lsv a0a 2 x7, .nl, .nl, .nl, .bool x8,iL s0.2.2.2.1,iL s0.2.2.2.2.1,iL x11,iL x12,iL x13,iL s0.2.2.2.2.2,iL x15,iL x16,iL x17, .bool x18,iM x19,iL x20]])) (fun s3 hy3=> ?_) (fun s3 h5=> ?_)
   ·refine km 2 ?_
    obtain⟨y3,hy4,h6⟩:=a0d hy3
    refine kCg (some 8) [0,1,2] (e0O hy4) (kc 1 (kB 9 h6 (fun h7=> ?_) (fun h8=> ?_)))
    ·exact ke 5 (kNo h7 [0,1,4,5,14])
    ·refine kc 3 ?_
     obtain⟨y4,hy5,h9⟩:=a0d h8
     exact kCg (some 13) [0,1,2] (e0P hy5) (ke 1 (kNo h9 [0,1,4,5,14]))
   ·exact kBT 14 h5 (fun h10=>kK (kXo h10 [0,1,4,5])) (fun h11=>kEx 0 (kCx h11 h3 (fun h12=>kLx h12 (fun h13=>PJ.blockOut (kXo h13 [0,1,4,5])))))
  ·refine kb 1 (kS (kn 1 ?_))
   obtain⟨y0,hy6,h14⟩:=a0d h4
   refine kCg (some 16) [0,1] (a0C hy6) (kEN (kBT 16 h14 (fun h15=> ?_) (fun h16=> ?_)))
   ·exact kq (kq (kEp 1 (PJ.blockOut (kLo h15 [0,1,4,5]))))
   ·refine kKN (kcN h16 (fun(s2:Int×Int×Int)=>([(0, .ptr 0 0),(1, .ptr 2 0),(4,iL s0.1),(5,iL s0.2.1)],[.box [lR x0, .mp 1,iL s2.1,iL x2],mQ x3 x4 x5 x6, .box [lsv a0a 2 x7, .nl, .nl, .nl, .bool x8,iL s2.2.1,iL s2.2.2,iL x11,iL x12,iL x13,iL s0.2.2.2.2.2,iL x15,iL x16,iL x17, .bool x18,iM x19,iL x20]])) (fun s2 hy7=> ?_) (fun s2 h17=> ?_))
    ·refine kn 1 ?_
     obtain⟨y1,hy8,h18⟩:=a0d hy7
     exact kCg (some 20) [0,1] (a0C hy8) (kEN (kBT 20 h18 (fun h19=>kM (kNo h19 [0,1,4,5])) (fun h20=>kq (kM (kNo h20 [0,1,4,5])))))
    ·refine kq (km 4 ?_)
     obtain⟨y2,hy0,h0⟩:=a0d h17
     rcases y2 with y5|y6
     ·have h21:=k0h h0
      exact kCg (some 48) [0,1,2] (g0A hy0) (kE (PJ.blockNormal (kLo h21 [0,1,4,5])))
     ·have h22:=k0g h0
      refine kCP (some 48) [0,1,2] (g0z hy0) (PP.block ?_)
      obtain rfl:=oi h22
      refine PP.loopOut (fun he1=> ?_)
      have h23:=congrArg some he1
      refine PP.block ?_
      obtain rfl:=oi h23
      have h24:=b0P h1
      exact PP.cutXr (by obtain rfl:=oi h24;exact kPV [0,1,2] D W)
 ·refine kcX h2 (fun(s5:Unit)=>([(1, .ptr 2 0),(4,iL s1.1),(5,iL s1.2.1)],[.box [lR x0, .mp 1,iL s1.2.2.1,iL x2],mQ x3 x4 x5 x6, .box [lsv a0a 2 x7, .nl, .nl, .nl, .bool x8,iL s1.2.2.2.1,iL s1.2.2.2.2.1,iL x11,iL x12,iL x13,iL s1.2.2.2.2.2,iL x15,iL x16,iL x17, .bool x18,iM x19,iL x20]])) (fun y10 hy9 h25=> ?_) (fun s5 h26=> ?_)
  ·refine kS (kDr (kD 10 (kEN (kBT 58 hy9 (fun h27=> ?_) (fun h28=> ?_)))))
   ·refine km 5 ?_
    obtain⟨y7,hy10,h29⟩:=a0d h27
    refine kCP (some 64) [0,1] (a0E hy10) ?_
    obtain rfl:=oi h29
    have h30:=b0P h25
    exact PP.cutXr (by obtain rfl:=oi h30;exact PP.wk (Wk.undefs 2 [true,true,true,true,false,false,false,false,false,false,false,false,false,false,false,false,false] (cs:=[lsv a0a 2 x7, .nl, .nl, .nl, .bool x8,iL s1.2.2.2.1,iL s1.2.2.2.2.1,iL x11,iL x12,iL x13,iL s1.2.2.2.2.2,iL x15,iL x16,iL x17, .bool x18,iM x19,iL x20]) (by kernel_rfl)) (kPV [0,1,2] D W))
   ·exact kK (kXo h28 [1,4,5])
  ·exact kq (kb 2 (kq (kBT 70 h26 (fun h31=>kKb (by obtain rfl:=oi h31;exact kRV [0,1,2] (.inl rfl) H D W)) (fun h32=>kq (kBT 72 h32 (fun h33=>kM (PJ.blockNormal (by obtain rfl:=oi h33;exact kRV [0,1,2] (.inl rfl) H D W))) (fun h34=>kM (PJ.blockNormal (by obtain rfl:=oi h34;exact kRV [0,1,2] (.inl rfl) H D W))))))))
theorem g0U {x0:List Int} {x1 x2 x3 x4 x5 x6:Int} {x7:List a0c} {x8:Bool} {x9 x10 x11 x12 x13 x14 x15 x16 x17:Int} {x18:Bool} {x19 x20:Int} {r:Int×Int×Int×Int×Int} (h:b0q x0 x1 x2 x3 x4 x5 x6 x7 x8 x9 x10 x11 x12 x13 x14 x15 x16 x17 x18 x19 x20=some (.inl r)):SQ 185 [.ptr 0 0, .ptr 2 0] [.box [lR x0, .mp 1,iL x1,iL x2],mQ x3 x4 x5 x6, .box [lsv a0a 2 x7, .nl, .nl, .nl, .bool x8,iL x9,iL x10,iL x11,iL x12,iL x13,iL x14,iL x15,iL x16,iL x17, .bool x18,iM x19,iL x20]] (.tup []) [.box [lR x0, .mp 1,iL r.1,iL x2],mQ x3 x4 x5 x6, .box [lsv a0a 2 x7, .nl, .nl, .nl, .bool x8,iL r.2.1,iL r.2.2.1,iL x11,iL x12,iL r.2.2.2.1,iL r.2.2.2.2,iL x15,iL x16,iL x17, .bool x18,iM x19,iL x20]]:=(e0k h).1 _ rfl
theorem g0T {x0:List Int} {x1 x2 x3 x4 x5 x6:Int} {x7:List a0c} {x8:Bool} {x9 x10 x11 x12 x13 x14 x15 x16 x17:Int} {x18:Bool} {x19 x20:Int} {r:Int×Int×Int×Int×Int} (h:b0q x0 x1 x2 x3 x4 x5 x6 x7 x8 x9 x10 x11 x12 x13 x14 x15 x16 x17 x18 x19 x20=some (.inr r)):SP Tryz.prog 185 [.ptr 0 0, .ptr 2 0] [.box [lR x0, .mp 1,iL x1,iL x2],mQ x3 x4 x5 x6, .box [lsv a0a 2 x7, .nl, .nl, .nl, .bool x8,iL x9,iL x10,iL x11,iL x12,iL x13,iL x14,iL x15,iL x16,iL x17, .bool x18,iM x19,iL x20]] [.box [.undef, .mp 1,iL r.1,iL r.2.1],mQ x3 x4 x5 x6, .box [.undef, .undef, .undef, .undef, .bool x8,iL r.2.2.1,iL r.2.2.2.1,iL x11,iL x12,iL x13,iL r.2.2.2.2,iL x15,iL x16,iL x17, .bool x18,iM x19,iL x20]]:=(e0k h).2 _ rfl
def b0f(x0:List Int)(x1 x2 x3 x4 x5 x6:Int)(x7:List a0c)(x8:Bool)(x9 x10 x11 x12 x13 x14 x15 x16 x17:Int)(x18:Bool)(x19 x20:Int):Option ((Int×Int×Int)⊕(Int×Int×Int×Int)):=
 (Option.bind (a0t 46 x0 x1 x2 x3 x4 x5 x6) fun y2=>(bif(!y2.1)then(some (.inl (y2.2,x11,x12)))else(Option.bind (b0e 48 x0 y2.2 x2 x3 x4 x5 x6) fun y1=>(Option.bind (b0e 35 x0 y1.2 x2 x3 x4 x5 x6) fun y0=>(bif(decide ((IntKind.wrap .i64 (y1.1+y0.1))=0))then(Option.bind (a0I y0.2 x0 y0.2 x2 x3 x4 x5 x6) fun y3=>(some (.inr (y0.2,y0.2,y1.1,(IntKind.wrap .i64 (y1.1+y0.1))))))else(some (.inl (y0.2,y1.1,(IntKind.wrap .i64 (y1.1+y0.1))))))))))
theorem d0M {x0:List Int} {x1 x2 x3 x4 x5 x6:Int} {x7:List a0c} {x8:Bool} {x9 x10 x11 x12 x13 x14 x15 x16 x17:Int} {x18:Bool} {x19 x20:Int} {r:(Int×Int×Int)⊕(Int×Int×Int×Int)} (h:b0f x0 x1 x2 x3 x4 x5 x6 x7 x8 x9 x10 x11 x12 x13 x14 x15 x16 x17 x18 x19 x20=some r):(∀a,r= .inl a→SQ 186 [.ptr 0 0, .ptr 2 0] [.box [lR x0, .mp 1,iL x1,iL x2],mQ x3 x4 x5 x6, .box [lsv a0a 2 x7, .nl, .nl, .nl, .bool x8,iL x9,iL x10,iL x11,iL x12,iL x13,iL x14,iL x15,iL x16,iL x17, .bool x18,iM x19,iL x20]] (.tup []) [.box [lR x0, .mp 1,iL a.1,iL x2],mQ x3 x4 x5 x6, .box [lsv a0a 2 x7, .nl, .nl, .nl, .bool x8,iL x9,iL x10,iL a.2.1,iL a.2.2,iL x13,iL x14,iL x15,iL x16,iL x17, .bool x18,iM x19,iL x20]])∧(∀a,r= .inr a→SP Tryz.prog 186 [.ptr 0 0, .ptr 2 0] [.box [lR x0, .mp 1,iL x1,iL x2],mQ x3 x4 x5 x6, .box [lsv a0a 2 x7, .nl, .nl, .nl, .bool x8,iL x9,iL x10,iL x11,iL x12,iL x13,iL x14,iL x15,iL x16,iL x17, .bool x18,iM x19,iL x20]] [.box [.undef, .mp 1,iL a.1,iL a.2.1],mQ x3 x4 x5 x6, .box [.undef, .undef, .undef, .undef, .bool x8,iL x9,iL x10,iL a.2.2.1,iL a.2.2.2,iL x13,iL x14,iL x15,iL x16,iL x17, .bool x18,iM x19,iL x20]]):=by
 refine u0k (fn:=Tryz.f186) _ _ _ (fun F H D W=> ?_)
 unfold b0f at h
 refine kS (kn 1 ?_)
 obtain⟨y2,hy0,h0⟩:=a0d h
 refine kCg (some 5) [0,1] (a0C hy0) (kr 1 (kBT 6 h0 (fun h1=> ?_) (fun h2=> ?_)))
 ·exact kX (PJ.passRet (by obtain rfl:=oi h1;exact kRV [0,1,2] (.inr rfl) H D W))
 ·refine kKN (kn 2 ?_)
  obtain⟨y1,hy1,h3⟩:=a0d h2
  refine kCg (some 9) [0,1] (b0Z hy1) (kr 3 (kS (kDr (kD 6 ?_))))
  obtain⟨y0,hy2,h4⟩:=a0d h3
  refine RJ.callWr (d:=(some 18)) (f:=184) (args:=[.ptr 0 0,iM 35]) (args0:=[.ptr 0 0,iM 35]) (v0:=iL y0.1) (v:=iL y0.1) (tr2:=[([],[]),([],[]),([],[]),([],[]),([4,5],[]),([],[]),([0,1,2,3],[0,1,2,3,6,7])]) (H0:=[.box [lR x0, .mp 1,iL y1.2,iL x2],mQ x3 x4 x5 x6]) (H0':=[.box [lR x0, .mp 1,iL y0.2,iL x2],mQ x3 x4 x5 x6]) (H2:=[.box [lR x0, .mp 1,iL y0.2,iL x2],mQ x3 x4 x5 x6, .box [lsv a0a 2 x7, .nl, .nl, .nl, .bool x8,iL x9,iL x10,iL y1.1,iL x12,iL x13,iL x14,iL x15,iL x16,iL x17, .bool x18,iM x19,iL x20], .res]) [0,1] (by kernel_rfl) (by kernel_rfl) (by kernel_rfl) (by kernel_rfl) (by decide) (by kernel_rfl) (by kernel_rfl) (by kernel_rfl) (LeL.refl _) (b0Z hy2) (by kernel_rfl) (by kernel_rfl) (by kernel_rfl) (by kernel_rfl) (by kernel_rfl) (kD 4 (kEN (kq (kBT 26 h4 (fun h5=> ?_) (fun h6=> ?_)))))
  ·refine km 5 ?_
   obtain⟨y3,hy3,h7⟩:=a0d h5
   exact kCP (some 32) [0,1] (a0E hy3) (by obtain rfl:=oi h7;exact PP.wk (Wk.undefs 2 [true,true,true,true,false,false,false,false,false,false,false,false,false,false,false,false,false] (cs:=[lsv a0a 2 x7, .nl, .nl, .nl, .bool x8,iL x9,iL x10,iL y1.1,iL (IntKind.wrap .i64 (y1.1+y0.1)),iL x13,iL x14,iL x15,iL x16,iL x17, .bool x18,iM x19,iL x20]) (by kernel_rfl)) (kPV [0,1,2] D W))
  ·exact kK (by obtain rfl:=oi h6;exact kRV [0,1,2] (.inl rfl) H D W)
theorem g0k {x0:List Int} {x1 x2 x3 x4 x5 x6:Int} {x7:List a0c} {x8:Bool} {x9 x10 x11 x12 x13 x14 x15 x16 x17:Int} {x18:Bool} {x19 x20:Int} {r:Int×Int×Int} (h:b0f x0 x1 x2 x3 x4 x5 x6 x7 x8 x9 x10 x11 x12 x13 x14 x15 x16 x17 x18 x19 x20=some (.inl r)):SQ 186 [.ptr 0 0, .ptr 2 0] [.box [lR x0, .mp 1,iL x1,iL x2],mQ x3 x4 x5 x6, .box [lsv a0a 2 x7, .nl, .nl, .nl, .bool x8,iL x9,iL x10,iL x11,iL x12,iL x13,iL x14,iL x15,iL x16,iL x17, .bool x18,iM x19,iL x20]] (.tup []) [.box [lR x0, .mp 1,iL r.1,iL x2],mQ x3 x4 x5 x6, .box [lsv a0a 2 x7, .nl, .nl, .nl, .bool x8,iL x9,iL x10,iL r.2.1,iL r.2.2,iL x13,iL x14,iL x15,iL x16,iL x17, .bool x18,iM x19,iL x20]]:=(d0M h).1 _ rfl
theorem g0j {x0:List Int} {x1 x2 x3 x4 x5 x6:Int} {x7:List a0c} {x8:Bool} {x9 x10 x11 x12 x13 x14 x15 x16 x17:Int} {x18:Bool} {x19 x20:Int} {r:Int×Int×Int×Int} (h:b0f x0 x1 x2 x3 x4 x5 x6 x7 x8 x9 x10 x11 x12 x13 x14 x15 x16 x17 x18 x19 x20=some (.inr r)):SP Tryz.prog 186 [.ptr 0 0, .ptr 2 0] [.box [lR x0, .mp 1,iL x1,iL x2],mQ x3 x4 x5 x6, .box [lsv a0a 2 x7, .nl, .nl, .nl, .bool x8,iL x9,iL x10,iL x11,iL x12,iL x13,iL x14,iL x15,iL x16,iL x17, .bool x18,iM x19,iL x20]] [.box [.undef, .mp 1,iL r.1,iL r.2.1],mQ x3 x4 x5 x6, .box [.undef, .undef, .undef, .undef, .bool x8,iL x9,iL x10,iL r.2.2.1,iL r.2.2.2,iL x13,iL x14,iL x15,iL x16,iL x17, .bool x18,iM x19,iL x20]]:=(d0M h).2 _ rfl
def b0r(x0:List Int)(x1 x2 x3 x4 x5 x6:Int)(x7:List a0c)(x8:Bool)(x9 x10 x11 x12 x13 x14 x15 x16 x17:Int)(x18:Bool)(x19 x20:Int):Option ((Int×Int×Int×Int×Int×Int×Int×Int×Int×Int×Bool)⊕(Int×Int×Int×Int×Int×Int×Int×Int×Int×Int×Int×Bool)):=
 (Option.bind (b0e 64 x0 x1 x2 x3 x4 x5 x6) fun y0=>(Option.bind (bif(decide (y0.1>0))then(Option.bind (b0e 35 x0 y0.2 x2 x3 x4 x5 x6) fun y3=>(some (.inl (y3.2,x9,x10,x11,x12,x13,x14,(IntKind.wrap .i64 (y0.1+y3.1))))))else(Option.bind (b0q x0 y0.2 x2 x3 x4 x5 x6 x7 x8 x9 x10 x11 x12 x13 x14 y0.1 x16 x17 x18 x19 x20) fun y9=>(Sum.elim (fun y1=>(Option.bind (b0f x0 y1.1 x2 x3 x4 x5 x6 x7 x8 y1.2.1 y1.2.2.1 x11 x12 y1.2.2.2.1 y1.2.2.2.2 y0.1 x16 x17 x18 x19 x20) fun y10=>(Sum.elim (fun y7=>(some (.inl (y7.1,y1.2.1,y1.2.2.1,y7.2.1,y7.2.2,y1.2.2.2.1,y1.2.2.2.2,x16)))) (fun y5=>(some (.inr (.inr (y5.1,y5.2.1,y1.2.1,y1.2.2.1,y5.2.2.1,y5.2.2.2,y1.2.2.2.1,y1.2.2.2.2,y0.1,x16,x17,x18))))) y10))) (fun y4=>(some (.inr (.inr (y4.1,y4.2.1,y4.2.2.1,y4.2.2.2.1,x11,x12,x13,y4.2.2.2.2,y0.1,x16,x17,x18))))) y9))) (a0j fun(s0:Int×Int×Int×Int×Int×Int×Int×Int)=>(Option.bind (a0t 69 x0 s0.1 x2 x3 x4 x5 x6) fun y8=>(bif(!y8.1)then(some (.inl (y8.2,s0.2.1,s0.2.2.1,s0.2.2.2.1,s0.2.2.2.2.1,s0.2.2.2.2.2.1,s0.2.2.2.2.2.2.1,y0.1,s0.2.2.2.2.2.2.2,x17,x18)))else(Option.bind (a0t 43 x0 y8.2 x2 x3 x4 x5 x6) fun y6=>(Option.bind (b0e 48 x0 y6.2 x2 x3 x4 x5 x6) fun y2=>(bif(decide (y2.1=0))then(Option.bind (a0I y2.2 x0 y2.2 x2 x3 x4 x5 x6) fun y11=>(some (.inr (y2.2,y2.2,s0.2.1,s0.2.2.1,s0.2.2.2.1,s0.2.2.2.2.1,s0.2.2.2.2.2.1,s0.2.2.2.2.2.2.1,y0.1,s0.2.2.2.2.2.2.2,y2.1,y6.1))))else(some (.inl (y2.2,s0.2.1,s0.2.2.1,s0.2.2.2.1,s0.2.2.2.2.1,s0.2.2.2.2.2.1,s0.2.2.2.2.2.2.1,y0.1,s0.2.2.2.2.2.2.2,y2.1,y6.1)))))))))))
theorem e0l {x0:List Int} {x1 x2 x3 x4 x5 x6:Int} {x7:List a0c} {x8:Bool} {x9 x10 x11 x12 x13 x14 x15 x16 x17:Int} {x18:Bool} {x19 x20:Int} {r:(Int×Int×Int×Int×Int×Int×Int×Int×Int×Int×Bool)⊕(Int×Int×Int×Int×Int×Int×Int×Int×Int×Int×Int×Bool)} (h:b0r x0 x1 x2 x3 x4 x5 x6 x7 x8 x9 x10 x11 x12 x13 x14 x15 x16 x17 x18 x19 x20=some r):(∀a,r= .inl a→SQ 164 [.ptr 0 0, .ptr 2 0] [.box [lR x0, .mp 1,iL x1,iL x2],mQ x3 x4 x5 x6, .box [lsv a0a 2 x7, .nl, .nl, .nl, .bool x8,iL x9,iL x10,iL x11,iL x12,iL x13,iL x14,iL x15,iL x16,iL x17, .bool x18,iM x19,iL x20]] (.tup []) [.box [lR x0, .mp 1,iL a.1,iL x2],mQ x3 x4 x5 x6, .box [lsv a0a 2 x7, .nl, .nl, .nl, .bool x8,iL a.2.1,iL a.2.2.1,iL a.2.2.2.1,iL a.2.2.2.2.1,iL a.2.2.2.2.2.1,iL a.2.2.2.2.2.2.1,iL a.2.2.2.2.2.2.2.1,iL a.2.2.2.2.2.2.2.2.1,iL a.2.2.2.2.2.2.2.2.2.1, .bool a.2.2.2.2.2.2.2.2.2.2,iM x19,iL x20]])∧(∀a,r= .inr a→SP Tryz.prog 164 [.ptr 0 0, .ptr 2 0] [.box [lR x0, .mp 1,iL x1,iL x2],mQ x3 x4 x5 x6, .box [lsv a0a 2 x7, .nl, .nl, .nl, .bool x8,iL x9,iL x10,iL x11,iL x12,iL x13,iL x14,iL x15,iL x16,iL x17, .bool x18,iM x19,iL x20]] [.box [.undef, .mp 1,iL a.1,iL a.2.1],mQ x3 x4 x5 x6, .box [.undef, .undef, .undef, .undef, .bool x8,iL a.2.2.1,iL a.2.2.2.1,iL a.2.2.2.2.1,iL a.2.2.2.2.2.1,iL a.2.2.2.2.2.2.1,iL a.2.2.2.2.2.2.2.1,iL a.2.2.2.2.2.2.2.2.1,iL a.2.2.2.2.2.2.2.2.2.1,iL a.2.2.2.2.2.2.2.2.2.2.1, .bool a.2.2.2.2.2.2.2.2.2.2.2,iM x19,iL x20]]):=by
 refine u0k (fn:=Tryz.f164) _ _ _ (fun F H D W=> ?_)
 unfold b0r at h
 refine kn 2 ?_
 obtain⟨y0,hy2,h3⟩:=a0d h
 refine kCg (some 6) [0,1] (b0Z hy2) (kr 3 (kcX h3 (fun(s0:Int×Int×Int×Int×Int×Int×Int×Int)=>([(0, .ptr 0 0),(1, .ptr 2 0)],[.box [lR x0, .mp 1,iL s0.1,iL x2],mQ x3 x4 x5 x6, .box [lsv a0a 2 x7, .nl, .nl, .nl, .bool x8,iL s0.2.1,iL s0.2.2.1,iL s0.2.2.2.1,iL s0.2.2.2.2.1,iL s0.2.2.2.2.2.1,iL s0.2.2.2.2.2.2.1,iL y0.1,iL s0.2.2.2.2.2.2.2,iL x17, .bool x18,iM x19,iL x20]])) (fun y12 hy3 h0=> ?_) (fun s0 h4=> ?_)))
 ·refine kq (kBT 13 hy3 (fun h5=> ?_) (fun h6=> ?_))
  ·refine kDr (kD 6 ?_)
   obtain⟨y3,hy4,h7⟩:=a0d h5
   exact RJ.callWr (d:=(some 20)) (f:=184) (args:=[.ptr 0 0,iM 35]) (args0:=[.ptr 0 0,iM 35]) (v0:=iL y3.1) (v:=iL y3.1) (tr2:=[([],[]),([],[]),([],[]),([],[]),([4,5],[]),([],[]),([0,1,2,3],[0,1,2,3,6,7])]) (H0:=[.box [lR x0, .mp 1,iL y0.2,iL x2],mQ x3 x4 x5 x6]) (H0':=[.box [lR x0, .mp 1,iL y3.2,iL x2],mQ x3 x4 x5 x6]) (H2:=[.box [lR x0, .mp 1,iL y3.2,iL x2],mQ x3 x4 x5 x6, .box [lsv a0a 2 x7, .nl, .nl, .nl, .bool x8,iL x9,iL x10,iL x11,iL x12,iL x13,iL x14,iL y0.1,iL x16,iL x17, .bool x18,iM x19,iL x20], .res]) [0,1] (by kernel_rfl) (by kernel_rfl) (by kernel_rfl) (by kernel_rfl) (by decide) (by kernel_rfl) (by kernel_rfl) (by kernel_rfl) (LeL.refl _) (b0Z hy4) (by kernel_rfl) (by kernel_rfl) (by kernel_rfl) (by kernel_rfl) (by kernel_rfl) (kD 4 (kE (kXW h7 D W [0,1,2])))
  ·refine kn 2 ?_
   obtain⟨y9,hy0,h1⟩:=a0d h6
   rcases y9 with y1|y4
   ·have h8:=k0h h1
    refine kCg (some 26) [0,1,2] (g0U hy0) (kEN (km 2 ?_))
    obtain⟨y10,hy1,h2⟩:=a0d h8
    rcases y10 with y7|y5
    ·have h9:=k0h h2
     exact kCg (some 29) [0,1,2] (g0k hy1) (kE (kXo h9 [0,1]))
    ·have h10:=k0g h2
     refine kCP (some 29) [0,1,2] (g0j hy1) ?_
     obtain rfl:=oi h10
     have h11:=b0P h0
     exact PP.cutXr (by obtain rfl:=oi h11;exact kPV [0,1,2] D W)
   ·have h12:=k0g h1
    refine kCP (some 26) [0,1,2] (g0T hy0) (PP.next ?_)
    obtain rfl:=oi h12
    have h13:=b0P h0
    exact PP.cutXr (by obtain rfl:=oi h13;exact kPV [0,1,2] D W)
 ·refine kS (kn 1 ?_)
  obtain⟨y8,hy5,h14⟩:=a0d h4
  refine kCg (some 31) [0,1] (a0C hy5) (kr 1 (kBT 32 h14 (fun h15=> ?_) (fun h16=> ?_)))
  ·exact kX (PJ.passRet (by obtain rfl:=oi h15;exact kRV [0,1,2] (.inr rfl) H D W))
  ·refine kKN (kn 2 ?_)
   obtain⟨y6,hy6,h17⟩:=a0d h16
   refine kCg (some 35) [0,1] (a0C hy6) (kr 3 (kn 2 ?_))
   obtain⟨y2,hy7,h18⟩:=a0d h17
   refine kCg (some 40) [0,1] (b0Z hy7) (kr 3 (kq (kBT 47 h18 (fun h19=> ?_) (fun h20=> ?_))))
   ·refine km 5 ?_
    obtain⟨y11,hy8,h21⟩:=a0d h19
    exact kCP (some 53) [0,1] (a0E hy8) (by obtain rfl:=oi h21;exact PP.wk (Wk.undefs 2 [true,true,true,true,false,false,false,false,false,false,false,false,false,false,false,false,false] (cs:=[lsv a0a 2 x7, .nl, .nl, .nl, .bool x8,iL s0.2.1,iL s0.2.2.1,iL s0.2.2.2.1,iL s0.2.2.2.2.1,iL s0.2.2.2.2.2.1,iL s0.2.2.2.2.2.2.1,iL y0.1,iL s0.2.2.2.2.2.2.2,iL y2.1, .bool y6.1,iM x19,iL x20]) (by kernel_rfl)) (kPV [0,1,2] D W))
   ·exact kK (by obtain rfl:=oi h20;exact kRV [0,1,2] (.inl rfl) H D W)
theorem g0W {x0:List Int} {x1 x2 x3 x4 x5 x6:Int} {x7:List a0c} {x8:Bool} {x9 x10 x11 x12 x13 x14 x15 x16 x17:Int} {x18:Bool} {x19 x20:Int} {r:Int×Int×Int×Int×Int×Int×Int×Int×Int×Int×Bool} (h:b0r x0 x1 x2 x3 x4 x5 x6 x7 x8 x9 x10 x11 x12 x13 x14 x15 x16 x17 x18 x19 x20=some (.inl r)):SQ 164 [.ptr 0 0, .ptr 2 0] [.box [lR x0, .mp 1,iL x1,iL x2],mQ x3 x4 x5 x6, .box [lsv a0a 2 x7, .nl, .nl, .nl, .bool x8,iL x9,iL x10,iL x11,iL x12,iL x13,iL x14,iL x15,iL x16,iL x17, .bool x18,iM x19,iL x20]] (.tup []) [.box [lR x0, .mp 1,iL r.1,iL x2],mQ x3 x4 x5 x6, .box [lsv a0a 2 x7, .nl, .nl, .nl, .bool x8,iL r.2.1,iL r.2.2.1,iL r.2.2.2.1,iL r.2.2.2.2.1,iL r.2.2.2.2.2.1,iL r.2.2.2.2.2.2.1,iL r.2.2.2.2.2.2.2.1,iL r.2.2.2.2.2.2.2.2.1,iL r.2.2.2.2.2.2.2.2.2.1, .bool r.2.2.2.2.2.2.2.2.2.2,iM x19,iL x20]]:=(e0l h).1 _ rfl
theorem g0V {x0:List Int} {x1 x2 x3 x4 x5 x6:Int} {x7:List a0c} {x8:Bool} {x9 x10 x11 x12 x13 x14 x15 x16 x17:Int} {x18:Bool} {x19 x20:Int} {r:Int×Int×Int×Int×Int×Int×Int×Int×Int×Int×Int×Bool} (h:b0r x0 x1 x2 x3 x4 x5 x6 x7 x8 x9 x10 x11 x12 x13 x14 x15 x16 x17 x18 x19 x20=some (.inr r)):SP Tryz.prog 164 [.ptr 0 0, .ptr 2 0] [.box [lR x0, .mp 1,iL x1,iL x2],mQ x3 x4 x5 x6, .box [lsv a0a 2 x7, .nl, .nl, .nl, .bool x8,iL x9,iL x10,iL x11,iL x12,iL x13,iL x14,iL x15,iL x16,iL x17, .bool x18,iM x19,iL x20]] [.box [.undef, .mp 1,iL r.1,iL r.2.1],mQ x3 x4 x5 x6, .box [.undef, .undef, .undef, .undef, .bool x8,iL r.2.2.1,iL r.2.2.2.1,iL r.2.2.2.2.1,iL r.2.2.2.2.2.1,iL r.2.2.2.2.2.2.1,iL r.2.2.2.2.2.2.2.1,iL r.2.2.2.2.2.2.2.2.1,iL r.2.2.2.2.2.2.2.2.2.1,iL r.2.2.2.2.2.2.2.2.2.2.1, .bool r.2.2.2.2.2.2.2.2.2.2.2,iM x19,iL x20]]:=(e0l h).2 _ rfl
def c0i(x0:Int)(x1:List Int)(x2 x3 x4 x5 x6 x7:Int)(x8 x9:List a0c)(x10:Bool)(x11 x12 x13 x14 x15 x16 x17 x18 x19:Int)(x20:Bool)(x21 x22:Int):Option ((Int×Int×Int)⊕(Int×Int)):=
 (Option.bind (Option.bind (bif(decide (¬x22=0))then(some (true,x2))else(Option.bind (a0t 42 x1 x2 x3 x4 x5 x6 x7) fun y0=>(some ((!y0.1),y0.2)))) fun(s1:Bool×Int)=>(bif s1.1 then(some (.inr (.inl (s1.2,x21,x22))))else(some (.inl s1.2)))) (a0j fun(s0:Int)=>(Option.bind (bif(decide (s0=(x1.length:Int)))then(Option.bind (a0I s0 x1 s0 x3 x4 x5 x6 x7) fun y1=>(some (.inr (.inr (s0,s0)))))else(some (.inl ()))) (a0j fun(s2:Unit)=>(bif inR s0 x1.length then(some (.inl ((IntKind.wrap .i64 (s0+1)),(nth x1 s0),x0)))else none)))))
theorem f0c {x0:Int} {x1:List Int} {x2 x3 x4 x5 x6 x7:Int} {x8 x9:List a0c} {x10:Bool} {x11 x12 x13 x14 x15 x16 x17 x18 x19:Int} {x20:Bool} {x21 x22:Int} {r:(Int×Int×Int)⊕(Int×Int)} (h:c0i x0 x1 x2 x3 x4 x5 x6 x7 x8 x9 x10 x11 x12 x13 x14 x15 x16 x17 x18 x19 x20 x21 x22=some r):(∀a,r= .inl a→SQ 162 [.ptr 0 0, .ptr 2 0,iL x0] [.box [lR x1, .mp 1,iL x2,iL x3],mQ x4 x5 x6 x7, .box [lsv a0a 2 x8,lsv a0a 2 x9, .nl, .nl, .bool x10,iL x11,iL x12,iL x13,iL x14,iL x15,iL x16,iL x17,iL x18,iL x19, .bool x20,iM x21,iL x22]] (.tup []) [.box [lR x1, .mp 1,iL a.1,iL x3],mQ x4 x5 x6 x7, .box [lsv a0a 2 x8,lsv a0a 2 x9, .nl, .nl, .bool x10,iL x11,iL x12,iL x13,iL x14,iL x15,iL x16,iL x17,iL x18,iL x19, .bool x20,iM a.2.1,iL a.2.2]])∧(∀a,r= .inr a→SP Tryz.prog 162 [.ptr 0 0, .ptr 2 0,iL x0] [.box [lR x1, .mp 1,iL x2,iL x3],mQ x4 x5 x6 x7, .box [lsv a0a 2 x8,lsv a0a 2 x9, .nl, .nl, .bool x10,iL x11,iL x12,iL x13,iL x14,iL x15,iL x16,iL x17,iL x18,iL x19, .bool x20,iM x21,iL x22]] [.box [.undef, .mp 1,iL a.1,iL a.2],mQ x4 x5 x6 x7, .box [.undef, .undef, .undef, .undef, .bool x10,iL x11,iL x12,iL x13,iL x14,iL x15,iL x16,iL x17,iL x18,iL x19, .bool x20,iM x21,iL x22]]):=by
 refine u0k (fn:=Tryz.f162) _ _ _ (fun F H D W=> ?_)
 unfold c0i at h
 refine kcX h (fun(s0:Int)=>([(0, .ptr 0 0),(1, .ptr 2 0),(2,iL x0)],[.box [lR x1, .mp 1,iL s0,iL x3],mQ x4 x5 x6 x7, .box [lsv a0a 2 x8,lsv a0a 2 x9, .nl, .nl, .bool x10,iL x11,iL x12,iL x13,iL x14,iL x15,iL x16,iL x17,iL x18,iL x19, .bool x20,iM x21,iL x22]])) (fun y2 hy0 h0=> ?_) (fun s0 h1=> ?_)
 ·refine kcN hy0 (fun(s1:Bool×Int)=>([(0, .ptr 0 0),(1, .ptr 2 0),(2,iL x0),(15, .bool s1.1)],[.box [lR x1, .mp 1,iL s1.2,iL x3],mQ x4 x5 x6 x7, .box [lsv a0a 2 x8,lsv a0a 2 x9, .nl, .nl, .bool x10,iL x11,iL x12,iL x13,iL x14,iL x15,iL x16,iL x17,iL x18,iL x19, .bool x20,iM x21,iL x22]])) (fun s1 hy1=> ?_) (fun s1 h2=> ?_)
  ·refine km 6 (kB 11 hy1 (fun h3=> ?_) (fun h4=> ?_))
   ·exact ke 4 (kNo h3 [0,1,2,15])
   ·refine kc 1 ?_
    obtain⟨y0,hy2,h5⟩:=a0d h4
    exact kCg (some 13) [0,1] (a0C hy2) (ke 2 (kNo h5 [0,1,2,15]))
  ·exact kBT 15 h2 (fun h6=>kX (kCx h6 h0 (fun h8=>by obtain rfl:=oi h8;exact kRV [0,1,2] (.inr rfl) H D W))) (fun h7=>kK (kXo h7 [0,1,2]))
 ·refine kcX h1 (fun(s2:Unit)=>([(0, .ptr 0 0),(1, .ptr 2 0),(2,iL x0)],[.box [lR x1, .mp 1,iL s0,iL x3],mQ x4 x5 x6 x7, .box [lsv a0a 2 x8,lsv a0a 2 x9, .nl, .nl, .bool x10,iL x11,iL x12,iL x13,iL x14,iL x15,iL x16,iL x17,iL x18,iL x19, .bool x20,iM x21,iL x22]])) (fun y3 hy3 h9=> ?_) (fun s2 h10=> ?_)
  ·refine kS (kDr (kD 10 (kEN (kBT 25 hy3 (fun h11=> ?_) (fun h12=> ?_)))))
   ·refine km 5 ?_
    obtain⟨y1,hy4,h13⟩:=a0d h11
    refine kCP (some 31) [0,1] (a0E hy4) ?_
    obtain rfl:=oi h13
    have h14:=b0P h9
    exact PP.cutXr (by obtain rfl:=oi h14;exact PP.wk (Wk.undefs 2 [true,true,true,true,false,false,false,false,false,false,false,false,false,false,false,false,false] (cs:=[lsv a0a 2 x8,lsv a0a 2 x9, .nl, .nl, .bool x10,iL x11,iL x12,iL x13,iL x14,iL x15,iL x16,iL x17,iL x18,iL x19, .bool x20,iM x21,iL x22]) (by kernel_rfl)) (kPV [0,1,2] D W))
   ·exact kK (kXo h12 [0,1,2])
  ·refine kS (kDr (kD 10 ?_))
   obtain⟨hm,h15⟩:=a0Q h10
   exact kJ 42 (tr2:=[([],[]),([],[]),([],[]),([],[]),([],[]),([0,1],[]),([],[]),([],[]),([],[]),([0,1],[]),([],[])]) (a0x .i32) hm (kD 8 (kEN (kM (by obtain rfl:=oi h15;exact kRV [0,1,2] (.inl rfl) H D W))))
theorem i0m {x0:Int} {x1:List Int} {x2 x3 x4 x5 x6 x7:Int} {x8 x9:List a0c} {x10:Bool} {x11 x12 x13 x14 x15 x16 x17 x18 x19:Int} {x20:Bool} {x21 x22:Int} {r:Int×Int×Int} (h:c0i x0 x1 x2 x3 x4 x5 x6 x7 x8 x9 x10 x11 x12 x13 x14 x15 x16 x17 x18 x19 x20 x21 x22=some (.inl r)):SQ 162 [.ptr 0 0, .ptr 2 0,iL x0] [.box [lR x1, .mp 1,iL x2,iL x3],mQ x4 x5 x6 x7, .box [lsv a0a 2 x8,lsv a0a 2 x9, .nl, .nl, .bool x10,iL x11,iL x12,iL x13,iL x14,iL x15,iL x16,iL x17,iL x18,iL x19, .bool x20,iM x21,iL x22]] (.tup []) [.box [lR x1, .mp 1,iL r.1,iL x3],mQ x4 x5 x6 x7, .box [lsv a0a 2 x8,lsv a0a 2 x9, .nl, .nl, .bool x10,iL x11,iL x12,iL x13,iL x14,iL x15,iL x16,iL x17,iL x18,iL x19, .bool x20,iM r.2.1,iL r.2.2]]:=(f0c h).1 _ rfl
theorem i0l {x0:Int} {x1:List Int} {x2 x3 x4 x5 x6 x7:Int} {x8 x9:List a0c} {x10:Bool} {x11 x12 x13 x14 x15 x16 x17 x18 x19:Int} {x20:Bool} {x21 x22:Int} {r:Int×Int} (h:c0i x0 x1 x2 x3 x4 x5 x6 x7 x8 x9 x10 x11 x12 x13 x14 x15 x16 x17 x18 x19 x20 x21 x22=some (.inr r)):SP Tryz.prog 162 [.ptr 0 0, .ptr 2 0,iL x0] [.box [lR x1, .mp 1,iL x2,iL x3],mQ x4 x5 x6 x7, .box [lsv a0a 2 x8,lsv a0a 2 x9, .nl, .nl, .bool x10,iL x11,iL x12,iL x13,iL x14,iL x15,iL x16,iL x17,iL x18,iL x19, .bool x20,iM x21,iL x22]] [.box [.undef, .mp 1,iL r.1,iL r.2],mQ x4 x5 x6 x7, .box [.undef, .undef, .undef, .undef, .bool x10,iL x11,iL x12,iL x13,iL x14,iL x15,iL x16,iL x17,iL x18,iL x19, .bool x20,iM x21,iL x22]]:=(f0c h).2 _ rfl
def b0d(x0 x1:List Int)(x2 x3 x4 x5 x6 x7:Int)(x8 x9:List a0c)(x10:Bool)(x11 x12 x13 x14 x15 x16 x17 x18 x19:Int)(x20:Bool)(x21 x22:Int):Option ((Int×(List a0c)×(List a0c))⊕(Int×Int)):=
 (Option.bind (a0O x1 x2 x3 x4 x5 x6 x7) fun y2=>(Sum.elim (fun y0=>(Option.bind (a0l (fun(s0:Int×Int)=>(bif(decide (s0.1<(x0.length:Int)))then(Option.bind (bif inR s0.1 x0.length then(Option.bind (a0t (nth x0 s0.1) x1 s0.2 x3 x4 x5 x6 x7) fun y1=>(bif(!y1.1)then(Option.bind (a0I y1.2 x1 y1.2 x3 x4 x5 x6 x7) fun y7=>(some (.inr (.inr (.inr (.inr (y1.2,y1.2)))))))else(some (.inl y1.2))))else none) (a0j fun(s1:Int)=>(some (.inl ((IntKind.wrap .i64 (s0.1+1)),s1)))))else(some (.inr (.inl s0.2))))) big (0,y0.2)) (a0j fun(s2:Int)=>(Option.bind (a0O x1 s2 x3 x4 x5 x6 x7) fun y3=>(Sum.elim (fun y4=>(some (.inl (y4.2,y0.1,y4.1)))) (fun y5=>(some (.inr (y5.1,y5.2)))) y3))))) (fun y6=>(some (.inr (y6.1,y6.2)))) y2))
theorem d0L {x0 x1:List Int} {x2 x3 x4 x5 x6 x7:Int} {x8 x9:List a0c} {x10:Bool} {x11 x12 x13 x14 x15 x16 x17 x18 x19:Int} {x20:Bool} {x21 x22:Int} {r:(Int×(List a0c)×(List a0c))⊕(Int×Int)} (h:b0d x0 x1 x2 x3 x4 x5 x6 x7 x8 x9 x10 x11 x12 x13 x14 x15 x16 x17 x18 x19 x20 x21 x22=some r):(∀a,r= .inl a→SQ 166 [.ptr 0 0, .ptr 2 0,lR x0] [.box [lR x1, .mp 1,iL x2,iL x3],mQ x4 x5 x6 x7, .box [lsv a0a 2 x8,lsv a0a 2 x9, .nl, .nl, .bool x10,iL x11,iL x12,iL x13,iL x14,iL x15,iL x16,iL x17,iL x18,iL x19, .bool x20,iM x21,iL x22]] (.tup []) [.box [lR x1, .mp 1,iL a.1,iL x3],mQ x4 x5 x6 x7, .box [lsv a0a 2 x8,lsv a0a 2 x9,lsv a0a 2 a.2.1,lsv a0a 2 a.2.2, .bool true,iL x11,iL x12,iL x13,iL x14,iL x15,iL x16,iL x17,iL x18,iL x19, .bool x20,iM x21,iL x22]])∧(∀a,r= .inr a→SP Tryz.prog 166 [.ptr 0 0, .ptr 2 0,lR x0] [.box [lR x1, .mp 1,iL x2,iL x3],mQ x4 x5 x6 x7, .box [lsv a0a 2 x8,lsv a0a 2 x9, .nl, .nl, .bool x10,iL x11,iL x12,iL x13,iL x14,iL x15,iL x16,iL x17,iL x18,iL x19, .bool x20,iM x21,iL x22]] [.box [.undef, .mp 1,iL a.1,iL a.2],mQ x4 x5 x6 x7, .box [.undef, .undef, .undef, .undef, .bool true,iL x11,iL x12,iL x13,iL x14,iL x15,iL x16,iL x17,iL x18,iL x19, .bool x20,iM x21,iL x22]]):=by
 refine u0k (fn:=Tryz.f166) _ _ _ (fun F H D W=> ?_)
 unfold b0d at h
 refine kq (kn 2 ?_)
 obtain⟨y2,hy0,h0⟩:=a0d h
 rcases y2 with y0|y6
 ·have h2:=k0h h0
  refine kCg (some 13) [0,1] (c0k hy0) (kr 3 (kcX h2 (fun(s2:Int)=>([(0, .ptr 0 0),(1, .ptr 2 0)],[.box [lR x1, .mp 1,iL s2,iL x3],mQ x4 x5 x6 x7, .box [lsv a0a 2 x8,lsv a0a 2 x9,lsv a0a 2 y0.1, .nl, .bool true,iL x11,iL x12,iL x13,iL x14,iL x15,iL x16,iL x17,iL x18,iL x19, .bool x20,iM x21,iL x22]])) (fun y8 hy2 h3=> ?_) (fun s2 h4=> ?_)))
  ·refine kq (kb 0 (kl (fun(s0:Int×Int)=>([(0, .ptr 0 0),(1, .ptr 2 0),(16,lR x0),(17,iL (x0.length:Int)),(18,iL s0.1)],[.box [lR x1, .mp 1,iL s0.2,iL x3],mQ x4 x5 x6 x7, .box [lsv a0a 2 x8,lsv a0a 2 x9,lsv a0a 2 y0.1, .nl, .bool true,iL x11,iL x12,iL x13,iL x14,iL x15,iL x16,iL x17,iL x18,iL x19, .bool x20,iM x21,iL x22]])) hy2 [0,1,16,17,18] (fun s0 x218 hs0=>kq (kS (kBT 19 hs0 (fun h5=> ?_) (fun h6=> ?_))))))
   ·refine kKN (kcX h5 (fun(s1:Int)=>([(0, .ptr 0 0),(1, .ptr 2 0),(16,lR x0),(17,iL (x0.length:Int)),(18,iL s0.1)],[.box [lR x1, .mp 1,iL s1,iL x3],mQ x4 x5 x6 x7, .box [lsv a0a 2 x8,lsv a0a 2 x9,lsv a0a 2 y0.1, .nl, .bool true,iL x11,iL x12,iL x13,iL x14,iL x15,iL x16,iL x17,iL x18,iL x19, .bool x20,iM x21,iL x22]])) (fun y9 hy3 h7=> ?_) (fun s1 h8=> ?_))
    ·refine kb 1 (kSR (kIb 20 (a0x .i32) hy3 (fun h9=>kr 2 (kn 2 ?_))))
     obtain⟨y1,hy4,h10⟩:=a0d h9
     refine kCg (some 24) [0,1] (a0C hy4) (kr 1 (kBT 25 h10 (fun h11=> ?_) (fun h12=> ?_)))
     ·refine km 5 ?_
      obtain⟨y7,hy5,h13⟩:=a0d h11
      refine kCP (some 31) [0,1] (a0E hy5) (PP.block ?_)
      obtain rfl:=oi h13
      have h14:=b0P h7
      refine PP.cutXr ?_
      obtain rfl:=oi h14
      refine PP.loopOut (fun he0=> ?_)
      have h15:=congrArg some he0
      refine PP.block ?_
      obtain rfl:=oi h15
      have h16:=b0P h3
      exact PP.cutXr (by obtain rfl:=oi h16;exact PP.wk (Wk.undefs 2 [true,true,true,true,false,false,false,false,false,false,false,false,false,false,false,false,false] (cs:=[lsv a0a 2 x8,lsv a0a 2 x9,lsv a0a 2 y0.1, .nl, .bool true,iL x11,iL x12,iL x13,iL x14,iL x15,iL x16,iL x17,iL x18,iL x19, .bool x20,iM x21,iL x22]) (by kernel_rfl)) (kPV [0,1,2] D W))
     ·exact kKb (kXo h12 [0,1,16,17,18])
    ·exact kM (kLo h8 [0,1,16,17,18])
   ·exact kEp 0 (kLx h6 (fun h17=>PJ.blockOut (kXo h17 [0,1])))
  ·refine km 2 ?_
   obtain⟨y3,hy1,h1⟩:=a0d h4
   rcases y3 with y4|y5
   ·have h18:=k0h h1
    exact kCg (some 35) [0,1] (c0k hy1) (ke 3 (by obtain rfl:=oi h18;exact kRV [0,1,2] (.inl rfl) H D W))
   ·have h19:=k0g h1
    exact kCP (some 35) [0,1] (c0j hy1) (by obtain rfl:=oi h19;exact PP.wk (Wk.undefs 2 [true,true,true,true,false,false,false,false,false,false,false,false,false,false,false,false,false] (cs:=[lsv a0a 2 x8,lsv a0a 2 x9,lsv a0a 2 y0.1, .nl, .bool true,iL x11,iL x12,iL x13,iL x14,iL x15,iL x16,iL x17,iL x18,iL x19, .bool x20,iM x21,iL x22]) (by kernel_rfl)) (kPV [0,1,2] D W))
 ·have h20:=k0g h0
  exact kCP (some 13) [0,1] (c0j hy0) (PP.next (by obtain rfl:=oi h20;exact PP.wk (Wk.undefs 2 [true,true,true,true,false,false,false,false,false,false,false,false,false,false,false,false,false] (cs:=[lsv a0a 2 x8,lsv a0a 2 x9, .nl, .nl, .bool true,iL x11,iL x12,iL x13,iL x14,iL x15,iL x16,iL x17,iL x18,iL x19, .bool x20,iM x21,iL x22]) (by kernel_rfl)) (kPV [0,1,2] D W)))
theorem g0i {x0 x1:List Int} {x2 x3 x4 x5 x6 x7:Int} {x8 x9:List a0c} {x10:Bool} {x11 x12 x13 x14 x15 x16 x17 x18 x19:Int} {x20:Bool} {x21 x22:Int} {r:Int×(List a0c)×(List a0c)} (h:b0d x0 x1 x2 x3 x4 x5 x6 x7 x8 x9 x10 x11 x12 x13 x14 x15 x16 x17 x18 x19 x20 x21 x22=some (.inl r)):SQ 166 [.ptr 0 0, .ptr 2 0,lR x0] [.box [lR x1, .mp 1,iL x2,iL x3],mQ x4 x5 x6 x7, .box [lsv a0a 2 x8,lsv a0a 2 x9, .nl, .nl, .bool x10,iL x11,iL x12,iL x13,iL x14,iL x15,iL x16,iL x17,iL x18,iL x19, .bool x20,iM x21,iL x22]] (.tup []) [.box [lR x1, .mp 1,iL r.1,iL x3],mQ x4 x5 x6 x7, .box [lsv a0a 2 x8,lsv a0a 2 x9,lsv a0a 2 r.2.1,lsv a0a 2 r.2.2, .bool true,iL x11,iL x12,iL x13,iL x14,iL x15,iL x16,iL x17,iL x18,iL x19, .bool x20,iM x21,iL x22]]:=(d0L h).1 _ rfl
theorem g0h {x0 x1:List Int} {x2 x3 x4 x5 x6 x7:Int} {x8 x9:List a0c} {x10:Bool} {x11 x12 x13 x14 x15 x16 x17 x18 x19:Int} {x20:Bool} {x21 x22:Int} {r:Int×Int} (h:b0d x0 x1 x2 x3 x4 x5 x6 x7 x8 x9 x10 x11 x12 x13 x14 x15 x16 x17 x18 x19 x20 x21 x22=some (.inr r)):SP Tryz.prog 166 [.ptr 0 0, .ptr 2 0,lR x0] [.box [lR x1, .mp 1,iL x2,iL x3],mQ x4 x5 x6 x7, .box [lsv a0a 2 x8,lsv a0a 2 x9, .nl, .nl, .bool x10,iL x11,iL x12,iL x13,iL x14,iL x15,iL x16,iL x17,iL x18,iL x19, .bool x20,iM x21,iL x22]] [.box [.undef, .mp 1,iL r.1,iL r.2],mQ x4 x5 x6 x7, .box [.undef, .undef, .undef, .undef, .bool true,iL x11,iL x12,iL x13,iL x14,iL x15,iL x16,iL x17,iL x18,iL x19, .bool x20,iM x21,iL x22]]:=(d0L h).2 _ rfl
def b0k(x0:List Int)(x1 x2 x3 x4 x5 x6:Int):Option ((d0b×Int)⊕(Int×Int)):=
 (Option.bind (b0N 1 x0 x1 x2 x3 x4 x5 x6 false 0 0 0 0 0 0 0 0 0 false 0 0) fun y9=>(Sum.elim (fun y4=>(Option.bind (a0O x0 y4.1 x2 x3 x4 x5 x6) fun y10=>(Sum.elim (fun y1=>(Option.bind (bif(decide ((y1.1.length:Int)>0))then(Option.bind (b0M 2 x0 y1.2 x2 x3 x4 x5 x6 y1.1 false 0 0 0 0 0 0 0 0 0 false y4.2.1 y4.2.2) fun y11=>(Sum.elim (fun y5=>(some (.inl (y5.1,y5.2.1,y5.2.2)))) (fun y12=>(some (.inr (.inr (y12.1,y12.2))))) y11))else(some (.inl (y1.2,y4.2.1,y4.2.2)))) (a0j fun(s0:Int×Int×Int)=>(Option.bind (b0r x0 s0.1 x2 x3 x4 x5 x6 y1.1 false 0 0 0 0 0 0 0 0 0 false s0.2.1 s0.2.2) fun y13=>(Sum.elim (fun y0=>(bif inS s0.1 y0.1 x0.length then(Option.bind (b0M 3 x0 y0.1 x2 x3 x4 x5 x6 y1.1 false y0.2.1 y0.2.2.1 y0.2.2.2.1 y0.2.2.2.2.1 y0.2.2.2.2.2.1 y0.2.2.2.2.2.2.1 y0.2.2.2.2.2.2.2.1 y0.2.2.2.2.2.2.2.2.1 y0.2.2.2.2.2.2.2.2.2.1 y0.2.2.2.2.2.2.2.2.2.2 s0.2.1 s0.2.2) fun y14=>(Sum.elim (fun y3=>(Option.bind (a0O x0 y3.1 x2 x3 x4 x5 x6) fun y15=>(Sum.elim (fun y2=>(Option.bind (bif(decide ((y2.1.length:Int)>0))then(Option.bind (c0i 4 x0 y2.2 x2 x3 x4 x5 x6 y1.1 y2.1 false y0.2.1 y0.2.2.1 y0.2.2.2.1 y0.2.2.2.2.1 y0.2.2.2.2.2.1 y0.2.2.2.2.2.2.1 y0.2.2.2.2.2.2.2.1 y0.2.2.2.2.2.2.2.2.1 y0.2.2.2.2.2.2.2.2.2.1 y0.2.2.2.2.2.2.2.2.2.2 y3.2.1 y3.2.2) fun y16=>(Sum.elim (fun y6=>(some (.inl (y6.1,y6.2.1,y6.2.2)))) (fun y17=>(some (.inr (.inr (y17.1,y17.2))))) y16))else(some (.inl (y2.2,y3.2.1,y3.2.2)))) (a0j fun(s2:Int×Int×Int)=>(Option.bind (Option.bind (a0t 59 x0 s2.1 x2 x3 x4 x5 x6) fun y7=>(bif y7.1 then(Option.bind (b0d (cut x0 s0.1 y0.1) x0 y7.2 x2 x3 x4 x5 x6 y1.1 y2.1 false y0.2.1 y0.2.2.1 y0.2.2.2.1 y0.2.2.2.2.1 y0.2.2.2.2.2.1 y0.2.2.2.2.2.2.1 y0.2.2.2.2.2.2.2.1 y0.2.2.2.2.2.2.2.2.1 y0.2.2.2.2.2.2.2.2.2.1 y0.2.2.2.2.2.2.2.2.2.2 s2.2.1 s2.2.2) fun y18=>(Sum.elim (fun y8=>(some (.inl (y8.1,y8.2.1,y8.2.2,true)))) (fun y19=>(some (.inr (.inr (y19.1,y19.2))))) y18))else(some (.inl (y7.2,([]:List a0c),([]:List a0c),false))))) (a0j fun(s1:Int×(List a0c)×(List a0c)×Bool)=>(Option.bind (bif(decide (s1.1<(x0.length:Int)))then(Option.bind (a0I s1.1 x0 s1.1 x2 x3 x4 x5 x6) fun y25=>(some (.inr (.inr (s1.1,s1.1)))))else(some (.inl ()))) (a0j fun(s3:Unit)=>(some (.inl ((⟨y1.1,y2.1,s1.2.1,s1.2.2.1,s1.2.2.2,y0.2.1,y0.2.2.1,y0.2.2.2.1,y0.2.2.2.2.1,y0.2.2.2.2.2.1,y0.2.2.2.2.2.2.1,y0.2.2.2.2.2.2.2.1,y0.2.2.2.2.2.2.2.2.1,y0.2.2.2.2.2.2.2.2.2.1,y0.2.2.2.2.2.2.2.2.2.2,s2.2.1,s2.2.2⟩:d0b),s1.1)))))))))) (fun y20=>(some (.inr (y20.1,y20.2)))) y15))) (fun y21=>(some (.inr (y21.1,y21.2)))) y14))else none)) (fun y22=>(some (.inr (y22.1,y22.2.1)))) y13))))) (fun y23=>(some (.inr (y23.1,y23.2)))) y10))) (fun y24=>(some (.inr (y24.1,y24.2)))) y9))
theorem e0f {x0:List Int} {x1 x2 x3 x4 x5 x6:Int} {r:(d0b×Int)⊕(Int×Int)} (h:b0k x0 x1 x2 x3 x4 x5 x6=some r):(∀a,r= .inl a→SQ 144 [.ptr 0 0] [.box [lR x0, .mp 1,iL x1,iL x2],mQ x3 x4 x5 x6] (.agg (a0f a.1)) [.box [lR x0, .mp 1,iL a.2,iL x2],mQ x3 x4 x5 x6])∧(∀a,r= .inr a→SP Tryz.prog 144 [.ptr 0 0] [.box [lR x0, .mp 1,iL x1,iL x2],mQ x3 x4 x5 x6] [.box [.undef, .mp 1,iL a.1,iL a.2],mQ x3 x4 x5 x6]):=by
 refine u0k (fn:=Tryz.f144) _ _ _ (fun F H D W=> ?_)
 unfold b0k at h
 refine kq (kq (kn 1 ?_))
 obtain⟨y9,hy0,h0⟩:=a0d h
 rcases y9 with y4|y24
 ·have h8:=k0h h0
  refine kCg (some 7) [0,1,3] (i0o hy0) (kEN (kn 1 ?_))
  obtain⟨y10,hy1,h1⟩:=a0d h8
  rcases y10 with y1|y23
  ·have h9:=k0h h1
   refine kCg (some 9) [0,1] (c0k hy1) (kr 2 (kcX h9 (fun(s0:Int×Int×Int)=>([(0, .ptr 0 0),(2, .ptr 2 0),(3, .ptr 3 0)],[.box [lR x0, .mp 1,iL s0.1,iL x2],mQ x3 x4 x5 x6, .box [.nl, .nl, .nl, .nl, .bool false,iL 0,iL 0,iL 0,iL 0,iL 0,iL 0,iL 0,iL 0,iL 0, .bool false,iM 0,iL 0], .box [lsv a0a 2 y1.1, .nl, .nl, .nl, .bool false,iL 0,iL 0,iL 0,iL 0,iL 0,iL 0,iL 0,iL 0,iL 0, .bool false,iM s0.2.1,iL s0.2.2]])) (fun y26 hy8 h10=> ?_) (fun s0 h11=> ?_)))
   ·refine kq (kBT 14 hy8 (fun h12=> ?_) (fun h13=> ?_))
    ·refine km 1 ?_
     obtain⟨y11,hy2,h2⟩:=a0d h12
     rcases y11 with y5|y12
     ·have h14:=k0h h2
      exact kCg (some 16) [0,1,3] (f0f hy2) (kE (kXo h14 [0,2,3]))
     ·have h15:=k0g h2
      refine kCP (some 16) [0,1,3] (f0e hy2) ?_
      obtain rfl:=oi h15
      have h16:=b0P h10
      exact PP.cutXr (by obtain rfl:=oi h16;exact kPV [0,1] D W)
    ·exact kK (kXo h13 [0,2,3])
   ·refine kq (kn 1 ?_)
    obtain⟨y13,hy3,h3⟩:=a0d h11
    rcases y13 with y0|y22
    ·have h17:=k0h h3
     refine kCg (some 22) [0,1,3] (g0W hy3) (kEN (kS (kDr (kD 9 ?_))))
     obtain⟨hm,h18⟩:=a0Q h17
     refine RJ.rel (d:=(some 32)) (ef:=⟨.lst ((y0.1:Int).toNat-(s0.1:Int).toNat) 1 (((x0.flatMap (a0q .i32)).take ((y0.1:Int).toNat*1)).drop ((s0.1:Int).toNat*1)),[],[]⟩) (ef':=⟨.lst (cut x0 s0.1 y0.1).length 1 ((cut x0 s0.1 y0.1).flatMap (a0q .i32)),[],[]⟩) (c:=inS s0.1 y0.1 x0.length) (tr2:=[([],[]),([],[]),([],[]),([0,1],[]),([],[]),([],[]),([],[]),([],[]),([0,1],[]),([],[])]) (H2:=[.box [lR x0, .mp 1,iL y0.1,iL x2],mQ x3 x4 x5 x6, .box [.nl, .nl, .nl, .nl, .bool false,iL 0,iL 0,iL 0,iL 0,iL 0,iL 0,iL 0,iL 0,iL 0, .bool false,iM 0,iL 0], .box [lsv a0a 2 y1.1, .nl, .nl, .nl, .bool false,iL y0.2.1,iL y0.2.2.1,iL y0.2.2.2.1,iL y0.2.2.2.2.1,iL y0.2.2.2.2.2.1,iL y0.2.2.2.2.2.2.1,iL y0.2.2.2.2.2.2.2.1,iL y0.2.2.2.2.2.2.2.2.1,iL y0.2.2.2.2.2.2.2.2.2.1, .bool y0.2.2.2.2.2.2.2.2.2.2,iM s0.2.1,iL s0.2.2]]) (by kernel_rfl) hm (fun hc=>N.slice (a0x .i32) hc) (by kernel_rfl) (kD 1 (kEN (kn 1 ?_)))
     obtain⟨y14,hy4,h4⟩:=a0d h18
     rcases y14 with y3|y21
     ·have h19:=k0h h4
      refine kCg (some 34) [0,1,3] (f0f hy4) (kEN (kn 1 ?_))
      obtain⟨y15,hy5,h5⟩:=a0d h19
      rcases y15 with y2|y20
      ·have h20:=k0h h5
       refine kCg (some 36) [0,1] (c0k hy5) (kr 2 (kcX h20 (fun(s2:Int×Int×Int)=>([(0, .ptr 0 0),(2, .ptr 2 0),(3, .ptr 3 0),(5,lR (cut x0 s0.1 y0.1))],[.box [lR x0, .mp 1,iL s2.1,iL x2],mQ x3 x4 x5 x6, .box [.nl, .nl, .nl, .nl, .bool false,iL 0,iL 0,iL 0,iL 0,iL 0,iL 0,iL 0,iL 0,iL 0, .bool false,iM 0,iL 0], .box [lsv a0a 2 y1.1,lsv a0a 2 y2.1, .nl, .nl, .bool false,iL y0.2.1,iL y0.2.2.1,iL y0.2.2.2.1,iL y0.2.2.2.2.1,iL y0.2.2.2.2.2.1,iL y0.2.2.2.2.2.2.1,iL y0.2.2.2.2.2.2.2.1,iL y0.2.2.2.2.2.2.2.2.1,iL y0.2.2.2.2.2.2.2.2.2.1, .bool y0.2.2.2.2.2.2.2.2.2.2,iM s2.2.1,iL s2.2.2]])) (fun y27 hy9 h21=> ?_) (fun s2 h22=> ?_)))
       ·refine kq (kBT 41 hy9 (fun h23=> ?_) (fun h24=> ?_))
        ·refine kR (RJ.seg 1 [0,2,3,5,42] (L2:=[(0, .ptr 0 0),(2, .ptr 2 0),(3, .ptr 3 0),(5,lR (cut x0 s0.1 y0.1)),(42, .ptr 0 0)]) (H2:=[.box [lR x0, .mp 1,iL y2.2,iL x2],mQ x3 x4 x5 x6, .box [.nl, .nl, .nl, .nl, .bool false,iL 0,iL 0,iL 0,iL 0,iL 0,iL 0,iL 0,iL 0,iL 0, .bool false,iM 0,iL 0], .box [lsv a0a 2 y1.1,lsv a0a 2 y2.1, .nl, .nl, .bool false,iL y0.2.1,iL y0.2.2.1,iL y0.2.2.2.1,iL y0.2.2.2.2.1,iL y0.2.2.2.2.2.1,iL y0.2.2.2.2.2.2.1,iL y0.2.2.2.2.2.2.2.1,iL y0.2.2.2.2.2.2.2.2.1,iL y0.2.2.2.2.2.2.2.2.2.1, .bool y0.2.2.2.2.2.2.2.2.2.2,iM y3.2.1,iL y3.2.2]]) (by kernel_rfl) ?_)
         obtain⟨y16,hy6,h6⟩:=a0d h23
         rcases y16 with y6|y17
         ·have h25:=k0h h6
          exact kCg (some 43) [0,1,3] (i0m hy6) (kE (kXo h25 [0,2,3,5]))
         ·have h26:=k0g h6
          refine kCP (some 43) [0,1,3] (i0l hy6) ?_
          obtain rfl:=oi h26
          have h27:=b0P h21
          exact PP.cutXr (by obtain rfl:=oi h27;exact kPV [0,1] D W)
        ·exact kK (kXo h24 [0,2,3,5])
       ·refine kcX h22 (fun(s1:Int×(List a0c)×(List a0c)×Bool)=>([(0, .ptr 0 0),(2, .ptr 2 0),(3, .ptr 3 0)],[.box [lR x0, .mp 1,iL s1.1,iL x2],mQ x3 x4 x5 x6, .box [.nl, .nl, .nl, .nl, .bool false,iL 0,iL 0,iL 0,iL 0,iL 0,iL 0,iL 0,iL 0,iL 0, .bool false,iM 0,iL 0], .box [lsv a0a 2 y1.1,lsv a0a 2 y2.1,lsv a0a 2 s1.2.1,lsv a0a 2 s1.2.2.1, .bool s1.2.2.2,iL y0.2.1,iL y0.2.2.1,iL y0.2.2.2.1,iL y0.2.2.2.2.1,iL y0.2.2.2.2.2.1,iL y0.2.2.2.2.2.2.1,iL y0.2.2.2.2.2.2.2.1,iL y0.2.2.2.2.2.2.2.2.1,iL y0.2.2.2.2.2.2.2.2.2.1, .bool y0.2.2.2.2.2.2.2.2.2.2,iM s2.2.1,iL s2.2.2]])) (fun y28 hy10 h28=> ?_) (fun s1 h29=> ?_)
        ·refine kn 1 ?_
         obtain⟨y7,hy11,h30⟩:=a0d hy10
         refine kCg (some 45) [0,1] (a0C hy11) (kEN (kBT 45 h30 (fun h31=> ?_) (fun h32=> ?_)))
         ·refine km 2 ?_
          obtain⟨y18,hy7,h7⟩:=a0d h31
          rcases y18 with y8|y19
          ·have h33:=k0h h7
           exact kCg (some 48) [0,1,3] (g0i hy7) (kE (kXo h33 [0,2,3]))
          ·have h34:=k0g h7
           refine kCP (some 48) [0,1,3] (g0h hy7) ?_
           obtain rfl:=oi h34
           have h35:=b0P h28
           exact PP.cutXr (by obtain rfl:=oi h35;exact kPV [0,1] D W)
         ·exact kK (PJ.wk (Wk.leBox 3 2 (cs:=[lsv a0a 2 y1.1,lsv a0a 2 y2.1, .nl, .nl, .bool false,iL y0.2.1,iL y0.2.2.1,iL y0.2.2.2.1,iL y0.2.2.2.2.1,iL y0.2.2.2.2.2.1,iL y0.2.2.2.2.2.2.1,iL y0.2.2.2.2.2.2.2.1,iL y0.2.2.2.2.2.2.2.2.1,iL y0.2.2.2.2.2.2.2.2.2.1, .bool y0.2.2.2.2.2.2.2.2.2.2,iM s2.2.1,iL s2.2.2]) (v:= .nl) (v':=lsv a0a 2 []) (by kernel_rfl) (by kernel_rfl) (Le.nl _)) (PJ.wk (Wk.leBox 3 3 (cs:=[lsv a0a 2 y1.1,lsv a0a 2 y2.1,lsv a0a 2 ([]:List a0c), .nl, .bool false,iL y0.2.1,iL y0.2.2.1,iL y0.2.2.2.1,iL y0.2.2.2.2.1,iL y0.2.2.2.2.2.1,iL y0.2.2.2.2.2.2.1,iL y0.2.2.2.2.2.2.2.1,iL y0.2.2.2.2.2.2.2.2.1,iL y0.2.2.2.2.2.2.2.2.2.1, .bool y0.2.2.2.2.2.2.2.2.2.2,iM s2.2.1,iL s2.2.2]) (v:= .nl) (v':=lsv a0a 2 []) (by kernel_rfl) (by kernel_rfl) (Le.nl _)) (kXo h32 [0,2,3])))
        ·refine kcX h29 (fun(s3:Unit)=>([(2, .ptr 2 0),(3, .ptr 3 0)],[.box [lR x0, .mp 1,iL s1.1,iL x2],mQ x3 x4 x5 x6, .box [.nl, .nl, .nl, .nl, .bool false,iL 0,iL 0,iL 0,iL 0,iL 0,iL 0,iL 0,iL 0,iL 0, .bool false,iM 0,iL 0], .box [lsv a0a 2 y1.1,lsv a0a 2 y2.1,lsv a0a 2 s1.2.1,lsv a0a 2 s1.2.2.1, .bool s1.2.2.2,iL y0.2.1,iL y0.2.2.1,iL y0.2.2.2.1,iL y0.2.2.2.2.1,iL y0.2.2.2.2.2.1,iL y0.2.2.2.2.2.2.1,iL y0.2.2.2.2.2.2.2.1,iL y0.2.2.2.2.2.2.2.2.1,iL y0.2.2.2.2.2.2.2.2.2.1, .bool y0.2.2.2.2.2.2.2.2.2.2,iM s2.2.1,iL s2.2.2]])) (fun y29 hy12 h36=> ?_) (fun s3 h37=> ?_)
         ·refine kS (kDr (kD 10 (kEN (kBT 58 hy12 (fun h38=> ?_) (fun h39=> ?_)))))
          ·refine km 5 ?_
           obtain⟨y25,hy13,h40⟩:=a0d h38
           refine kCP (some 64) [0,1] (a0E hy13) ?_
           obtain rfl:=oi h40
           have h41:=b0P h36
           exact PP.cutXr (by obtain rfl:=oi h41;exact kPV [0,1] D W)
          ·exact kK (kXo h39 [2,3])
         ·exact kq (kX (by obtain rfl:=oi h37;exact kRV [0,1] (.inr rfl) H D W))
      ·have h42:=k0g h5
       exact kCP (some 36) [0,1] (c0j hy5) (PP.next (by obtain rfl:=oi h42;exact kPV [0,1] D W))
     ·have h43:=k0g h4
      exact kCP (some 34) [0,1,3] (f0e hy4) (PP.next (by obtain rfl:=oi h43;exact kPV [0,1] D W))
    ·have h44:=k0g h3
     exact kCP (some 22) [0,1,3] (g0V hy3) (PP.next (by obtain rfl:=oi h44;exact kPV [0,1] D W))
  ·have h45:=k0g h1
   exact kCP (some 9) [0,1] (c0j hy1) (PP.next (by obtain rfl:=oi h45;exact kPV [0,1] D W))
 ·have h46:=k0g h0
  exact kCP (some 7) [0,1,3] (i0n hy0) (PP.next (by obtain rfl:=oi h46;exact kPV [0,1] D W))
theorem g0y {x0:List Int} {x1 x2 x3 x4 x5 x6:Int} {r:d0b×Int} (h:b0k x0 x1 x2 x3 x4 x5 x6=some (.inl r)):SQ 144 [.ptr 0 0] [.box [lR x0, .mp 1,iL x1,iL x2],mQ x3 x4 x5 x6] (.agg (a0f r.1)) [.box [lR x0, .mp 1,iL r.2,iL x2],mQ x3 x4 x5 x6]:=(e0f h).1 _ rfl
theorem g0x {x0:List Int} {x1 x2 x3 x4 x5 x6:Int} {r:Int×Int} (h:b0k x0 x1 x2 x3 x4 x5 x6=some (.inr r)):SP Tryz.prog 144 [.ptr 0 0] [.box [lR x0, .mp 1,iL x1,iL x2],mQ x3 x4 x5 x6] [.box [.undef, .mp 1,iL r.1,iL r.2],mQ x3 x4 x5 x6]:=(e0f h).2 _ rfl
def f0Q(x0:List Int)(x1 x2 x3 x4 x5 x6:Int)(x7 x8 x9 x10:List a0c)(x11:Bool)(x12 x13 x14 x15 x16 x17 x18 x19 x20:Int)(x21:Bool)(x22 x23 x24:Int)(x25:Bool):Option (Unit):=
 (some ())
theorem l0I {x0:List Int} {x1 x2 x3 x4 x5 x6:Int} {x7 x8 x9 x10:List a0c} {x11:Bool} {x12 x13 x14 x15 x16 x17 x18 x19 x20:Int} {x21:Bool} {x22 x23 x24:Int} {x25:Bool} {r:Unit} (h:f0Q x0 x1 x2 x3 x4 x5 x6 x7 x8 x9 x10 x11 x12 x13 x14 x15 x16 x17 x18 x19 x20 x21 x22 x23 x24 x25=some r):SD Tryz.prog 143 false [.ptr 0 0, .ptr 3 0, .ptr 4 0, .ptr 5 0] [.box [.ptr 1 0], .box [lR x0, .mp 2,iL x1,iL x2],mQ x3 x4 x5 x6, .box [lsv a0a 2 x7,lsv a0a 2 x8,lsv a0a 2 x9,lsv a0a 2 x10, .bool x11,iL x12,iL x13,iL x14,iL x15,iL x16,iL x17,iL x18,iL x19,iL x20, .bool x21,iM x22,iL x23], .box [iL x24], .box [.bool x25]] [.box [.ptr 1 0], .box [lR x0, .mp 2,iL x1,iL x2],mQ x3 x4 x5 x6, .box [lsv a0a 2 x7,lsv a0a 2 x8,lsv a0a 2 x9,lsv a0a 2 x10, .bool x11,iL x12,iL x13,iL x14,iL x15,iL x16,iL x17,iL x18,iL x19,iL x20, .bool x21,iM x22,iL x23], .box [iL x24], .box [.bool x25]]:=by
 refine B0f (fn:=Tryz.f143) false 4 5 (fun F H D W=> ?_)
 unfold f0Q at h
 exact kF (kK (by obtain rfl:=oi h;exact kRV [0,1,2,3,4,5] (.inl rfl) H D W))
def f0P(x0 x1 x2 x3 x4 x5:Int)(x6:Bool)(x7 x8 x9 x10 x11 x12 x13 x14 x15:Int)(x16:Bool)(x17 x18 x19:Int)(x20:Bool):Option (Unit):=
 (some ())
theorem l0H {x0 x1 x2 x3 x4 x5:Int} {x6:Bool} {x7 x8 x9 x10 x11 x12 x13 x14 x15:Int} {x16:Bool} {x17 x18 x19:Int} {x20:Bool} {r:Unit} (h:f0P x0 x1 x2 x3 x4 x5 x6 x7 x8 x9 x10 x11 x12 x13 x14 x15 x16 x17 x18 x19 x20=some r):SD Tryz.prog 143 true [.ptr 0 0, .ptr 3 0, .ptr 4 0, .ptr 5 0] [.box [.ptr 1 0], .box [.undef, .mp 2,iL x0,iL x1],mQ x2 x3 x4 x5, .box [.nl, .nl, .nl, .nl, .bool x6,iL x7,iL x8,iL x9,iL x10,iL x11,iL x12,iL x13,iL x14,iL x15, .bool x16,iM x17,iL x18], .box [iL x19], .box [.bool x20]] [.box [.ptr 1 0], .box [.undef, .mp 2,iL x0,iL x1],mQ x2 x3 x4 x5, .box [.nl, .nl, .nl, .nl, .bool false,iL 0,iL 0,iL 0,iL 0,iL 0,iL 0,iL 0,iL 0,iL 0, .bool false,iM 0,iL 0], .box [iL x1], .box [.bool false]]:=by
 refine B0f (fn:=Tryz.f143) true 4 5 (fun F H D W=> ?_)
 unfold f0P at h
 exact kT (kM (by obtain rfl:=oi h;exact kRV [0,1,2,3,4,5] (.inl rfl) H D W))
def k0x(x0:List Int):Option (d0b×Int×Bool):=
 (Option.bind f0t fun y3=>(Option.bind (b0k x0 0 0 1 2 3 4) fun y2=>(Sum.elim (fun y0=>(Option.bind (f0Q x0 y0.2 0 1 2 3 4 y0.1.r_ y0.1.q_ y0.1.B_ y0.1.E_ y0.1.J_ y0.1.Y_ y0.1.M_ y0.1.X_ y0.1.Q_ y0.1.I_ y0.1.N_ y0.1.O_ y0.1.T_ y0.1.i_ y0.1.W_ y0.1.y_ y0.1.V_ 0 true) fun y4=>(some (y0.1,0,true)))) (fun y1=>(Option.bind (f0P y1.1 y1.2 1 2 3 4 false 0 0 0 0 0 0 0 0 0 false 0 0 0 false) fun y5=>(some ((⟨([]:List a0c),([]:List a0c),([]:List a0c),([]:List a0c),false,0,0,0,0,0,0,0,0,0,false,0,0⟩:d0b),y1.2,false)))) y2)))
theorem q0n {x0:List Int} {r:d0b×Int×Bool} (h:k0x x0=some r):SQ 115 [lR x0] [] (.tup [.agg (a0f r.1),iL r.2.1, .bool r.2.2]) []:=by
 refine B0u (fn:=Tryz.f115) (fun F H D W hFds=> ?_)
 unfold k0x at h
 refine kq (kn 1 ?_)
 obtain⟨y3,hy1,h1⟩:=a0d h
 refine kCg (some 7) [] (i0C hy1) (kr 4 (kn 1 (RJ.defer (f:=143) (args:=[.ptr 5 0, .ptr 0 0, .ptr 1 0, .ptr 2 0]) (by kernel_rfl) hFds (fun w1 K1 D1 d1 hok hgr hFD1=>kEN (kn 1 ?_)))))
 obtain⟨y2,hy0,h0⟩:=a0d h1
 rcases y2 with y0|y1
 ·have h2:=k0h h0
  refine kCg (some 12) [4,3] (g0y hy0) (kr 3 (kX ?_))
  obtain⟨y4,hy2,h3⟩:=a0d h2
  exact by obtain rfl:=oi h3;exact PJ.retD (args:=[.ptr 5 0, .ptr 0 0, .ptr 1 0, .ptr 2 0]) (args0:=[.ptr 0 0, .ptr 3 0, .ptr 4 0, .ptr 5 0]) (H0:=[.box [.ptr 1 0], .box [lR x0, .mp 2,iL y0.2,iL 0],mQ 1 2 3 4, .box (a0f y0.1), .box [iL 0], .box [.bool true]]) (H0':=[.box [.ptr 1 0], .box [lR x0, .mp 2,iL y0.2,iL 0],mQ 1 2 3 4, .box (a0f y0.1), .box [iL 0], .box [.bool true]]) (H2:=[.box (a0f y0.1), .box [iL 0], .box [.bool true],mQ 1 2 3 4, .box [lR x0, .mp 3,iL y0.2,iL 0], .box [.ptr 4 0]]) (H1:=[]) (H':=[]) (v:= .tup [.agg (a0f y0.1),iL 0, .bool true]) (v1:= .tup [.agg (a0f y0.1),iL 0, .bool true]) [5,4,3,0,1,2] [] hok hgr rfl H (l0I hy2) (by kernel_rfl) (by kernel_rfl) (by kernel_rfl) (by decide) (by kernel_rfl) (by kernel_rfl) (by kernel_rfl) (by kernel_rfl) (by kernel_rfl) (by kernel_rfl) (by kernel_rfl) D W (by kernel_rfl) (by kernel_rfl) (by decide) (by kernel_rfl) (by kernel_rfl) (by kernel_rfl) (by kernel_rfl) (by kernel_rfl) (Le.refl _)
 ·have h4:=k0g h0
  refine kCP (some 12) [4,3] (g0x hy0) (PP.next ?_)
  obtain⟨y5,hy3,h5⟩:=a0d h4
  exact by obtain rfl:=oi h5;exact PP.retD (args:=[.ptr 5 0, .ptr 0 0, .ptr 1 0, .ptr 2 0]) (args0:=[.ptr 0 0, .ptr 3 0, .ptr 4 0, .ptr 5 0]) (H0:=[.box [.ptr 1 0], .box [.undef, .mp 2,iL y1.1,iL y1.2],mQ 1 2 3 4, .box [.nl, .nl, .nl, .nl, .bool false,iL 0,iL 0,iL 0,iL 0,iL 0,iL 0,iL 0,iL 0,iL 0, .bool false,iM 0,iL 0], .box [iL 0], .box [.bool false]]) (H0':=[.box [.ptr 1 0], .box [.undef, .mp 2,iL y1.1,iL y1.2],mQ 1 2 3 4, .box [.nl, .nl, .nl, .nl, .bool false,iL 0,iL 0,iL 0,iL 0,iL 0,iL 0,iL 0,iL 0,iL 0, .bool false,iM 0,iL 0], .box [iL y1.2], .box [.bool false]]) (H2:=[.box [.nl, .nl, .nl, .nl, .bool false,iL 0,iL 0,iL 0,iL 0,iL 0,iL 0,iL 0,iL 0,iL 0, .bool false,iM 0,iL 0], .box [iL y1.2], .box [.bool false],mQ 1 2 3 4, .box [.undef, .mp 3,iL y1.1,iL y1.2], .box [.ptr 4 0]]) (H1:=[]) (H':=[]) (v:= .tup [zQ,iL y1.2, .bool false]) (v1:= .tup [zQ,iL y1.2, .bool false]) [5,4,3,0,1,2] [] hok hgr rfl H (l0H hy3) (by kernel_rfl) (by kernel_rfl) (by kernel_rfl) (by decide) (by kernel_rfl) (by kernel_rfl) (by kernel_rfl) (by kernel_rfl) (by kernel_rfl) (by kernel_rfl) (by kernel_rfl) D W (by kernel_rfl) (by kernel_rfl) (by decide) (by kernel_rfl) (by kernel_rfl) (by kernel_rfl) (by kernel_rfl) (by kernel_rfl) (Le.tup (.cons (Le.agg (.cons (Le.nl _) (.cons (Le.nl _) (.cons (Le.nl _) (.cons (Le.nl _) (LeL.refl _)))))) (LeL.refl _)))
def h0l(x0:List UInt8):Option (d0b×Int×Int):=
 (Option.bind (d0y (a0k x0)) fun y1=>(bif(decide (¬y1.2.2=0))then(some ((⟨([]:List a0c),([]:List a0c),([]:List a0c),([]:List a0c),false,0,0,0,0,0,0,0,0,0,false,0,0⟩:d0b),y1.2.1,y1.2.2))else(bif(decide ((y1.1.length:Int)>120))then(some ((⟨([]:List a0c),([]:List a0c),([]:List a0c),([]:List a0c),false,0,0,0,0,0,0,0,0,0,false,0,0⟩:d0b),0,11))else(Option.bind (k0x y1.1) fun y0=>(bif(!y0.2.2)then(some ((⟨([]:List a0c),([]:List a0c),([]:List a0c),([]:List a0c),false,0,0,0,0,0,0,0,0,0,false,0,0⟩:d0b),y0.2.1,2))else(bif(decide (((v0Y ((v0Y ((v0Y (IntKind.wrap .i64 (y0.1.Y_+y0.1.M_)) y0.1.Q_)) y0.1.T_)) y0.1.i_))>40))then(some ((⟨([]:List a0c),([]:List a0c),([]:List a0c),([]:List a0c),false,0,0,0,0,0,0,0,0,0,false,0,0⟩:d0b),0,11))else(some (y0.1,0,0))))))))
theorem l0q {x0:List UInt8} {r:d0b×Int×Int} (h:h0l x0=some r):SQ 76 [.str x0] [] (.tup [.agg (a0f r.1),iL r.2.1,iL r.2.2]) []:=by
 refine kFn (fn:=Tryz.f76) (fun F H D W=> ?_)
 unfold h0l at h
 exact kq (kn 1 (RJ.rel (d:=(some 12)) (ef:=⟨.lst x0.length 1 (x0.map f0a),[],[]⟩) (ef':=⟨lB (a0k x0),[],[]⟩) (c:=true) (tr2:=[]) (H2:=[.box [.nl, .nl, .nl, .nl, .bool false,iL 0,iL 0,iL 0,iL 0,iL 0,iL 0,iL 0,iL 0,iL 0, .bool false,iM 0,iL 0]]) (by kernel_rfl) rfl (fun hc=>N.toBytes) (by kernel_rfl) (kAb 13 h (fun _=>k0n) (fun y1 h0=>kr 7 (kS (kq (kBT 18 h0 (fun h1=>kq (kX (PJ.passRet (by obtain rfl:=oi h1;exact PJ.res (v1:= .tup [zQ,iL y1.2.1,iL y1.2.2]) (Le.tup (.cons (Le.agg (.cons (Le.nl _) (.cons (Le.nl _) (.cons (Le.nl _) (.cons (Le.nl _) (LeL.refl _)))))) (LeL.refl _))) (kZ H D W))))) (fun h2=>kKN (kS (kq (kBT 24 h2 (fun h3=>kq (kX (PJ.passRet (by obtain rfl:=oi h3;exact PJ.res (v1:= .tup [zQ,iL 0,iL 11]) (Le.tup (.cons (Le.agg (.cons (Le.nl _) (.cons (Le.nl _) (.cons (Le.nl _) (.cons (Le.nl _) (LeL.refl _)))))) (LeL.refl _))) (kZ H D W))))) (fun h4=>kKN (kn 1 (kAb 28 h4 (fun _=>q0n) (fun y0 h5=>kr 8 (kS (kq (kBT 33 h5 (fun h6=>kSR (RJ.seg 5 [2,3,4,8] (L2:=[(2, .ptr 0 0),(3,iL y0.2.1),(4,iL 2),(8, .ptr 1 0)]) (H2:=[.box [.nl, .nl, .nl, .nl, .bool false,iL 0,iL 0,iL 0,iL 0,iL 0,iL 0,iL 0,iL 0,iL 0, .bool false,iM 0,iL 0], .box (a0f y0.1)]) (by kernel_rfl) (kEN (kX (PJ.passRet (by obtain rfl:=oi h6;exact PJ.res (v1:= .tup [zQ,iL y0.2.1,iL 2]) (Le.tup (.cons (Le.agg (.cons (Le.nl _) (.cons (Le.nl _) (.cons (Le.nl _) (.cons (Le.nl _) (LeL.refl _)))))) (LeL.refl _))) (kZ H D W))))))) (fun h7=>kKN (kS (kSR (RJ.seg 13 [2,3,4,8,48] (L2:=[(2, .ptr 0 0),(3,iL 0),(4,iL 0),(8, .ptr 1 0),(48, .bool ((decide (((v0Y ((v0Y ((v0Y (IntKind.wrap .i64 (y0.1.Y_+y0.1.M_)) y0.1.Q_)) y0.1.T_)) y0.1.i_))>40))))]) (H2:=[.box [.nl, .nl, .nl, .nl, .bool false,iL 0,iL 0,iL 0,iL 0,iL 0,iL 0,iL 0,iL 0,iL 0, .bool false,iM 0,iL 0], .box (a0f y0.1)]) (by kernel_rfl) (kEN (kBT 48 h7 (fun h8=>kq (kX (PJ.passRet (by obtain rfl:=oi h8;exact PJ.res (v1:= .tup [zQ,iL 0,iL 11]) (Le.tup (.cons (Le.agg (.cons (Le.nl _) (.cons (Le.nl _) (.cons (Le.nl _) (.cons (Le.nl _) (LeL.refl _)))))) (LeL.refl _))) (kZ H D W))))) (fun h9=>kKN (kq (kX (by cases h9;exact kZ H D W))))))))))))))))))))))))))))
def f0O(x0:Int):Option (Int):=
 (some (v0Y 0 (A0u x0 121)))
theorem g0g {x0 r:Int} (h:f0O x0=some r):SQ 188 [iL x0] [] (iL r) []:=by
 refine kFn (fn:=Tryz.f188) (fun F H D W=> ?_)
 unfold f0O at h
 exact kq (kq (kX (by cases h;exact kZ H D W)))
def d0Z(x0:List Int)(x1 x2:Int):Option (List Int):=
 (Option.bind (Option.bind (f0O x2) fun y0=>(a0l (fun(s0:Int×(List Int))=>(bif(decide (s0.1<y0))then(bif room (s0.2.length+([x1]:List Int).length)then(some (.inl ((IntKind.wrap .i64 (s0.1+1)),(s0.2++([x1]:List Int)))))else none)else(some (.inr s0.2)))) big (0,x0))) fun(s1:(List Int))=>(some s1))
theorem d0u {x0:List Int} {x1 x2:Int} {r:List Int} (h:d0Z x0 x1 x2=some r):SQ 187 [.vc 0,iM x1,iL x2] [a0A (a0q .i32) 1 21 x0] (.vc 1) [.gone,a0A (a0q .i32) 1 21 r]:=by
 refine kFn (fn:=Tryz.f187) (fun F H D W=> ?_)
 unfold d0Z at h
 exact J.wk (Wk.move 0 (n:=x0.length) (k:=1) (e:=21) (cs:=x0.flatMap (a0q .i32)) (by kernel_rfl)) (kq (kcN h (fun(s1:(List Int))=>([(0, .vc 1),(6, .nl)],[.gone,a0A (a0q .i32) 1 21 s1])) (fun s1 hy0=>kn 1 (kAb 8 hy0 (fun _=>g0g) (fun y0 h1=>kr 1 (kb 0 (kl (fun(s0:Int×(List Int))=>([(0, .vc 1),(1,iM x1),(6, .nl),(8,iL y0),(9,iL s0.1)],[.gone,a0A (a0q .i32) 1 21 s0.2])) h1 [0,1,6,8,9] (fun s0 x47 hs0=>kq (kS (kBT 10 hs0 (fun h2=>kKN (kS (kb 1 (km 3 (kAp 14 1 3 1 21 [1,2] (a0q .i32) h2 (fun h4=>ke 1 (PJ.blockNormal (PJ.next (kM (kLW h4 D W [0,3])))))))))) (fun h3=>kEp 0 (kLx h3 (fun h5=>PJ.blockOut (kNo h5 [0,6])))))))))))) (fun s1 h0=>kq (kX (by obtain rfl:=oi h0;exact kRV [0,1] (.inr rfl) H D W)))))
def g0n(x0:d0b)(x1:Int):Option (Bool):=
 (Option.bind (Option.bind (bif(decide (x0.I_<1))then(some true)else(some (decide (x1<x0.I_)))) fun(s0:Bool)=>(bif s0 then(some (.inr false))else(some (.inl ())))) (a0j fun(s2:Unit)=>(Option.bind (bif(decide (x1=x0.I_))then(some true)else(bif(decide (x0.N_>0))then(bif nz x0.N_ then(some ((decide (((Int.tmod (IntKind.wrap .i64 (x1-x0.I_)) x0.N_))=0))))else none)else(some false))) fun(s1:Bool)=>(some s1))))
theorem m0T {x0:d0b} {x1:Int} {r:Bool} (h:g0n x0 x1=some r):SQ 204 [.agg (a0f x0),iL x1] [] (.bool r) []:=by
 refine kFn (fn:=Tryz.f204) (fun F H D W=> ?_)
 unfold g0n at h
 refine kq (kcX h (fun(s2:Unit)=>([(1,iL x1),(2, .ptr 0 0),(4, .bool false)],[.box (a0f x0)])) (fun y0 hy0 h0=> ?_) (fun s2 h1=> ?_))
 ·exact kcN hy0 (fun(s0:Bool)=>([(1,iL x1),(2, .ptr 0 0),(4, .bool false),(13, .bool s0)],[.box (a0f x0)])) (fun s0 hy1=>km 4 (kB 8 hy1 (fun h3=>ke 5 (kNo h3 [1,2,4,13])) (fun h4=>ke 5 (kNo h4 [1,2,4,13])))) (fun s0 h2=>kBT 13 h2 (fun h5=>kq (kX (kCx h5 h0 (fun h7=>by obtain rfl:=oi h7;exact kZ H D W)))) (fun h6=>kK (kXo h6 [1,2,4])))
 ·refine kcN h1 (fun(s1:Bool)=>([(4, .bool s1)],[])) (fun s1 hy2=> ?_) (fun s1 h8=> ?_)
  ·refine km 5 (kB 18 hy2 (fun h9=> ?_) (fun h10=> ?_))
   ·exact ke 15 (kNW h9 D W [])
   ·refine kc 4 (kB 22 h10 (fun h11=> ?_) (fun h12=> ?_))
    ·refine kc 6 ?_
     obtain⟨hm,h13⟩:=a0Q h11
     exact kQ 29 (iL (Int.tmod (IntKind.wrap .i64 (x1-x0.I_)) x0.N_)) [] (tr2:=[]) hm (ke 4 (kNW h13 D W []))
    ·exact ke 11 (kNW h12 D W [])
  ·exact kX (by cases h8;exact kZ H D W)
def h0j(x0:List Int)(x1:d0b):Option (List Int):=
 (Option.bind (f0O x1.Y_) fun y0=>(Option.bind (f0O x1.M_) fun y1=>(Option.bind (a0l (fun(s0:Int×(List Int))=>(bif(decide (s0.1<(IntKind.wrap .i64 (y0+y1))))then(Option.bind (Option.bind (Option.bind (bif(decide (s0.1>0))then(Option.bind (g0n x1 ((IntKind.wrap .i64 ((IntKind.wrap .i64 (y0+y1))-s0.1)))) fun y2=>(some y2))else(some false)) fun(s2:Bool)=>(bif s2 then(bif room (s0.2.length+([44]:List Int).length)then(some (s0.2++([44]:List Int)))else none)else(some s0.2))) fun(s1:(List Int))=>(bif(decide (s0.1<y0))then(bif room (s1.length+([35]:List Int).length)then(some (s1++([35]:List Int)))else none)else(bif room (s1.length+([48]:List Int).length)then(some (s1++([48]:List Int)))else none))) fun(s3:(List Int))=>(some (.inl ((IntKind.wrap .i64 (s0.1+1)),s3))))else(some (.inr s0.2)))) big (0,x0)) fun(s4:(List Int))=>(some s4))))
theorem l0J {x0:List Int} {x1:d0b} {r:List Int} (h:h0j x0 x1=some r):SQ 189 [.vc 0, .agg (a0f x1)] [a0A (a0q .i32) 1 21 x0] (.vc 1) [.gone,a0A (a0q .i32) 1 21 r]:=by
 refine kFn (fn:=Tryz.f189) (fun F H D W=> ?_)
 unfold h0j at h
 exact J.wk (Wk.move 0 (n:=x0.length) (k:=1) (e:=21) (cs:=x0.flatMap (a0q .i32)) (by kernel_rfl)) (kq (kn 2 (kAb 10 h (fun _=>g0g) (fun y0 h0=>kr 1 (kn 3 (kAb 14 h0 (fun _=>g0g) (fun y1 h1=>kr 2 (kcN h1 (fun(s4:(List Int))=>([(0, .vc 1),(4, .nl)],[.gone,a0A (a0q .i32) 1 21 s4])) (fun s4 hy0=>kq (kb 0 (kl (fun(s0:Int×(List Int))=>([(0, .vc 1),(3, .ptr 2 0),(4, .nl),(5,iL y0),(6,iL (IntKind.wrap .i64 (y0+y1))),(16,iL (IntKind.wrap .i64 (y0+y1))),(17,iL s0.1)],[.gone,a0A (a0q .i32) 1 21 s0.2, .box (a0f x1)])) hy0 [0,3,4,5,6,16,17] (fun s0 x587 hs0=>kq (kS (kBT 18 hs0 (fun h3=>kKN (kcN h3 (fun(s3:(List Int))=>([(0, .vc 1),(3, .ptr 2 0),(4, .nl),(5,iL y0),(6,iL (IntKind.wrap .i64 (y0+y1))),(16,iL (IntKind.wrap .i64 (y0+y1))),(17,iL s0.1)],[.gone,a0A (a0q .i32) 1 21 s3, .box (a0f x1)])) (fun s3 hy1=>kb 1 (kq (kcN hy1 (fun(s1:(List Int))=>([(0, .vc 1),(3, .ptr 2 0),(4, .nl),(5,iL y0),(6,iL (IntKind.wrap .i64 (y0+y1))),(7,iL s0.1),(16,iL (IntKind.wrap .i64 (y0+y1))),(17,iL s0.1)],[.gone,a0A (a0q .i32) 1 21 s1, .box (a0f x1)])) (fun s1 hy2=>kcN hy2 (fun(s2:Bool)=>([(0, .vc 1),(3, .ptr 2 0),(4, .nl),(5,iL y0),(6,iL (IntKind.wrap .i64 (y0+y1))),(7,iL s0.1),(16,iL (IntKind.wrap .i64 (y0+y1))),(17,iL s0.1),(28, .bool s2)],[.gone,a0A (a0q .i32) 1 21 s0.2, .box (a0f x1)])) (fun s2 hy3=>km 3 (kB 22 hy3 (fun h8=>kc 4 (kAb 27 h8 (fun _=>m0T) (fun y2 h10=>ke 1 (kNo h10 [0,3,4,5,6,7,16,17,28])))) (fun h9=>ke 6 (kNo h9 [0,3,4,5,6,7,16,17,28])))) (fun s2 h7=>kBT 28 h7 (fun h11=>km 2 (kAp 31 1 4 1 21 [1,3] (a0q .i32) h11 (fun h13=>ke 1 (kNW h13 D W [0,4,2])))) (fun h12=>kK (kNo h12 [0,3,4,5,6,7,16,17])))) (fun s1 h6=>kq (kBT 34 h6 (fun h14=>km 2 (kAp 37 1 4 1 21 [1,3] (a0q .i32) h14 (fun h16=>ke 1 (PJ.blockNormal (kNW h16 D W [0,4,2]))))) (fun h15=>km 2 (kAp 40 1 4 1 21 [1,3] (a0q .i32) h15 (fun h17=>ke 1 (PJ.blockNormal (kNW h17 D W [0,4,2])))))))))) (fun s3 h5=>kM (kLo h5 [0,3,4,5,6,16,17])))) (fun h4=>kEp 0 (kLx h4 (fun h18=>PJ.blockOut (kNW h18 D W [0,1])))))))))) (fun s4 h2=>kq (kX (by obtain rfl:=oi h2;exact kRV [0,1] (.inr rfl) H D W)))))))))))
def h0k(x0:d0b):Option (List Int):=
 (Option.bind (Option.bind (bif(decide (x0.O_>0))then(some true)else(some (decide (x0.T_>0)))) fun(s2:Bool)=>(bif s2 then(Option.bind (d0Z ([]:List Int) 64 x0.O_) fun y5=>(Option.bind (f0O x0.O_) fun y0=>(Option.bind (d0Z y5 35 (IntKind.wrap .i64 (x0.T_-y0))) fun y2=>(some y2))))else(Option.bind (h0j ([]:List Int) x0) fun y3=>(bif(decide (¬x0.Q_=0))then(bif room (y3.length+([46]:List Int).length)then(Option.bind (d0Z (y3++([46]:List Int)) 48 x0.X_) fun y6=>(Option.bind (f0O x0.X_) fun y1=>(Option.bind (d0Z y6 35 (IntKind.wrap .i64 (x0.Q_-y1))) fun y4=>(some y4))))else none)else(some y3))))) fun(s0:(List Int))=>(Option.bind (bif(decide (¬x0.i_=0))then(bif room (s0.length+([69]:List Int).length)then(Option.bind (bif x0.W_ then(bif room ((s0++([69]:List Int)).length+([43]:List Int).length)then(some (((s0++([69]:List Int))++([43]:List Int))))else none)else(some (s0++([69]:List Int)))) fun(s3:(List Int))=>(Option.bind (d0Z s3 48 x0.i_) fun y7=>(some y7)))else none)else(some s0)) fun(s1:(List Int))=>(some s1)))
theorem n0W {x0:d0b} {r:List Int} (h:h0k x0=some r):SQ 168 [.agg (a0f x0)] [] (lR r) []:=by
 refine kFn (fn:=Tryz.f168) (fun F H D W=> ?_)
 unfold h0k at h
 refine kq (kq (kcN h (fun(s0:(List Int))=>([(1, .ptr 0 0),(2, .nl),(3, .vc 1)],[.box (a0f x0),a0A (a0q .i32) 1 21 s0])) (fun s0 hy0=> ?_) (fun s0 h0=> ?_)))
 ·refine kcN hy0 (fun(s2:Bool)=>([(1, .ptr 0 0),(2, .nl),(3, .nl),(11, .bool s2)],[.box (a0f x0)])) (fun s2 hy1=> ?_) (fun s2 h1=> ?_)
  ·exact km 4 (kB 7 hy1 (fun h2=>ke 4 (kNo h2 [1,2,3,11])) (fun h3=>ke 4 (kNo h3 [1,2,3,11])))
  ·refine kBT 11 h1 (fun h4=> ?_) (fun h5=> ?_)
   ·refine kn 3 ?_
    obtain⟨y5,hy2,h6⟩:=a0d h4
    refine RJ.wk (Wk.viv 12 1 21 (by kernel_rfl)) (kCg (some 15) [1] (d0u hy2) (kr 1 (kDr (kD 5 ?_))))
    obtain⟨y0,hy3,h7⟩:=a0d h6
    refine kC0 (some 21) [([],[]),([],[]),([0,1],[]),([],[]),([0,1],[]),([],[6,7])] (g0g hy3) (kD 1 ?_)
    obtain⟨y2,hy4,h8⟩:=a0d h7
    exact RJ.callX (d:=(some 23)) (f:=187) (args:=[.vc 2,iM 35,iL (IntKind.wrap .i64 (x0.T_-y0))]) (args0:=[.vc 0,iM 35,iL (IntKind.wrap .i64 (x0.T_-y0))]) (v0:= .vc 1) (v:= .vc 4) (tr2:=[([],[]),([],[]),([0,1],[]),([],[]),([0,1],[]),([],[6,7]),([],[]),([4,5],[4,5,8,9,8,9])]) (H0:=[a0A (a0q .i32) 1 21 y5]) (H0':=[.gone,a0A (a0q .i32) 1 21 y2]) (H2:=[.box (a0f x0), .gone, .gone, .res,a0A (a0q .i32) 1 21 y2]) 4 [2] (by kernel_rfl) (by kernel_rfl) (by kernel_rfl) (by kernel_rfl) (by kernel_rfl) (by kernel_rfl) (by decide) (by kernel_rfl) (by kernel_rfl) (by kernel_rfl) (LeL.refl _) (d0u hy4) (by kernel_rfl) (by kernel_rfl) (by kernel_rfl) (kD 1 (kE (kNW h8 D W [0,4])))
   ·refine kn 2 ?_
    obtain⟨y3,hy5,h9⟩:=a0d h5
    refine RJ.wk (Wk.viv 24 1 21 (by kernel_rfl)) (kCg (some 26) [1] (l0J hy5) (kr 1 (kq (kBT 29 h9 (fun h10=> ?_) (fun h11=> ?_)))))
    ·refine kn 2 (kAp 32 2 4 1 21 [2,3] (a0q .i32) h10 (fun h12=>kr 1 (kn 3 ?_)))
     obtain⟨y6,hy6,h13⟩:=a0d h12
     refine kCg (some 36) [4] (d0u hy6) (kr 1 (kDr (kD 5 ?_)))
     obtain⟨y1,hy7,h14⟩:=a0d h13
     refine kC0 (some 42) [([],[]),([],[]),([0,1],[]),([],[]),([0,1],[]),([],[12,13])] (g0g hy7) (kD 1 ?_)
     obtain⟨y4,hy8,h15⟩:=a0d h14
     exact RJ.callX (d:=(some 44)) (f:=187) (args:=[.vc 5,iM 35,iL (IntKind.wrap .i64 (x0.Q_-y1))]) (args0:=[.vc 0,iM 35,iL (IntKind.wrap .i64 (x0.Q_-y1))]) (v0:= .vc 1) (v:= .vc 7) (tr2:=[([],[]),([],[]),([0,1],[]),([],[]),([0,1],[]),([],[12,13]),([],[]),([10,11],[10,11,14,15,14,15])]) (H0:=[a0A (a0q .i32) 1 21 y6]) (H0':=[.gone,a0A (a0q .i32) 1 21 y4]) (H2:=[.box (a0f x0), .gone, .gone,a0A (a0q .i32) 1 21 ([46]:List Int), .gone, .gone, .res,a0A (a0q .i32) 1 21 y4]) 7 [5] (by kernel_rfl) (by kernel_rfl) (by kernel_rfl) (by kernel_rfl) (by kernel_rfl) (by kernel_rfl) (by decide) (by kernel_rfl) (by kernel_rfl) (by kernel_rfl) (LeL.refl _) (d0u hy8) (by kernel_rfl) (by kernel_rfl) (by kernel_rfl) (kD 1 (kE (kNW h15 D W [0,7])))
    ·exact kK (kNW h11 D W [0,2])
 ·refine kcN h0 (fun(s1:(List Int))=>([(2, .nl),(3, .vc 0)],[a0A (a0q .i32) 1 21 s1])) (fun s1 hy9=> ?_) (fun s1 h16=> ?_)
  ·refine kq (kBT 47 hy9 (fun h17=> ?_) (fun h18=> ?_))
   ·refine kn 2 (kAp 50 1 3 1 21 [1,2] (a0q .i32) h17 (fun h19=>kr 1 (kcN h19 (fun(s3:(List Int))=>([(1, .ptr 0 0),(2, .nl),(3, .vc 1)],[.box (a0f x0),a0A (a0q .i32) 1 21 s3])) (fun s3 hy10=> ?_) (fun s3 h20=> ?_))))
    ·exact kq (kBT 52 hy10 (fun h21=>km 2 (kAp 55 3 5 1 21 [3,4] (a0q .i32) h21 (fun h23=>ke 1 (kNW h23 D W [0,5])))) (fun h22=>kK (kNW h22 D W [0,3])))
    ·refine km 3 ?_
     obtain⟨y7,hy11,h24⟩:=a0d h20
     exact kCg (some 59) [1] (d0u hy11) (ke 1 (kNW h24 D W [2]))
   ·exact kK (kNW h18 D W [1])
  ·exact kq (kX (by obtain rfl:=oi h16;exact PJ.wk (Wk.freeze 0 (n:=s1.length) (k:=1) (e:=21) (cs:=s1.flatMap (a0q .i32)) (by kernel_rfl)) (kZ H D W)))
def i0E(x0:List Int)(x1:d0b)(x2:Int):Option (List Int):=
 (bif(decide (¬x1.V_=x2))then(some x0)else(bif room (x0.length+([42,x1.y_]:List Int).length)then(some (x0++([42,x1.y_]:List Int)))else none))
theorem f0R {x0:List Int} {x1:d0b} {x2:Int} {r:List Int} (h:i0E x0 x1 x2=some r):SQ 169 [.vc 0, .agg (a0f x1),iL x2] [a0A (a0q .i32) 1 21 x0] (.vc 1) [.gone,a0A (a0q .i32) 1 21 r]:=by
 refine kFn (fn:=Tryz.f169) (fun F H D W=> ?_)
 unfold i0E at h
 exact J.wk (Wk.move 0 (n:=x0.length) (k:=1) (e:=21) (cs:=x0.flatMap (a0q .i32)) (by kernel_rfl)) (kq (kS (kq (kBT 10 h (fun h0=>kq (kX (PJ.passRet (by obtain rfl:=oi h0;exact kRV [0,1] (.inr rfl) H D W)))) (fun h1=>kKN (kn 4 (kAp 16 1 4 1 21 [1,3] (a0q .i32) h1 (fun h2=>kr 1 (kX (by obtain rfl:=oi h2;exact kRV [0,4] (.inr rfl) H D W))))))))))
def i0D(x0:a0c):Option (List Int):=
 (bif(decide (x0.L_=0))then(bif(decide (x0.R_=39))then(some ([x0.R_,x0.R_]:List Int))else(some ([x0.R_]:List Int)))else(Option.bind (Option.bind f0t fun y0=>(Option.bind (i0K (fun(e41:Int×Int)=>(bif(decide (e41.2=x0.L_))then(some (.inr (.inr ([e41.1]:List Int))))else(some (.inl ())))) ([(45,1),(43,2),(37,3),(164,4)]:List (Int×Int))) (a0j fun(_:Unit)=>(some (.inl ()))))) (a0j fun(s0:Unit)=>(some ([]:List Int)))))
theorem p0c {x0:a0c} {r:List Int} (h:i0D x0=some r):SQ 190 [.agg (a0a x0)] [] (lR r) []:=by
 refine kFn (fn:=Tryz.f190) (fun F H D W=> ?_)
 unfold i0D at h
 refine kq (kS (kq (kBT 7 h (fun h1=> ?_) (fun h2=> ?_))))
 ·exact kS (kq (kBT 10 h1 (fun h3=>kq (kX (PJ.passRet (PJ.passRet (by obtain rfl:=oi h3;exact PJ.wk (Wk.freeze 1 (n:=([x0.R_,x0.R_]:List Int).length) (k:=1) (e:=21) (cs:=([x0.R_,x0.R_]:List Int).flatMap (a0q .i32)) (by kernel_rfl)) (kZ H D W)))))) (fun h4=>kKN (kq (kX (PJ.passRet (by obtain rfl:=oi h4;exact PJ.wk (Wk.freeze 1 (n:=([x0.R_]:List Int).length) (k:=1) (e:=21) (cs:=([x0.R_]:List Int).flatMap (a0q .i32)) (by kernel_rfl)) (kZ H D W))))))))
 ·refine kKN (kcX h2 (fun(s0:Unit)=>([(2, .nl)],[])) (fun y1 hy0 h5=> ?_) (fun s0 h6=> ?_))
  ·refine kSR ?_
   obtain⟨y0,hy1,h7⟩:=a0d hy0
   refine kCg (some 19) [] (i0C hy1) (RJ.range (d:=(some 20)) (i:=1) (n:=(b0O (fun k:Int=>iM k) (fun k:Int=>iL k) ([(45,1),(43,2),(37,3),(164,4)]:List (Int×Int))).length) (by kernel_rfl) (kEN (kb 0 (J.wk (Wk.sel (L2:=[(1, .ptr 0 0),(2, .nl),(20, .ptr 1 0)]) (H2:=[.box (a0a x0), .itr 2 ((b0O (fun k:Int=>iM k) (fun k:Int=>iL k) ([(45,1),(43,2),(37,3),(164,4)]:List (Int×Int))).length) ([]:List Nat), .map (b0O (fun k:Int=>iM k) (fun k:Int=>iL k) ([(45,1),(43,2),(37,3),(164,4)]:List (Int×Int)))]) 0 (by rw[D];rfl) W [0,2,1] (by kernel_rfl) (by simp only[ah,av,c0r (ek:=(fun k:Int=>iM k)) (ev:=(fun k:Int=>iL k)) (fun _ _=>rfl) (fun _ _=>rfl)];kernel_rfl) (by decide) (by simp only[aB,aG,b0C (ek:=(fun k:Int=>iM k)) (ev:=(fun k:Int=>iL k)) (fun _ _=>rfl) (fun _ _=>rfl)];kernel_rfl) (by kernel_rfl) (by kernel_rfl) (by kernel_rfl)) ?_))))
   obtain⟨y2,hy2,h0⟩:=a0d h7
   refine K.mapLoop 20 21 22 0 1 2 (n:=(b0O (fun k:Int=>iM k) (fun k:Int=>iL k) ([(45,1),(43,2),(37,3),(164,4)]:List (Int×Int))).length) (by kernel_rfl) (by kernel_rfl) _ _ (fun p:Int×Int=>((fun k:Int=>iM k) p.1,(fun k:Int=>iL k) p.2)) hy2 [1,2,20] (L2:=[(1, .ptr 0 0),(2, .nl),(20, .ptr 1 0)]) (by kernel_rfl) (by kernel_rfl) (by kernel_rfl) (by kernel_rfl) (by kernel_rfl) (by kernel_rfl) (fun sq=> [.box (a0a x0), .itr 2 ((b0O (fun k:Int=>iM k) (fun k:Int=>iL k) ([(45,1),(43,2),(37,3),(164,4)]:List (Int×Int))).length) sq, .map (b0O (fun k:Int=>iM k) (fun k:Int=>iL k) ([(45,1),(43,2),(37,3),(164,4)]:List (Int×Int)))]) (by kernel_rfl) (fun _ _=>by kernel_rfl) (fun _=>by kernel_rfl) (fun _=>by kernel_rfl) rfl (fun sv42 he0=> ?_) (fun sv42 bv43 e41 x51 hb0 hx38=> ?_)
   ·subst he0
    have h8:=k0D h0
    exact PJ.blockOut (kXW h8 D W [])
   ·refine kb 1 (kSR (RJ.entry (d:=(some 23)) (i:=2) (n:=(b0O (fun k:Int=>iM k) (fun k:Int=>iL k) ([(45,1),(43,2),(37,3),(164,4)]:List (Int×Int))).length) (b:=bv43) (s:=sv42) (kv:=((iM e41.1:SV),(iL e41.2:SV))) (by kernel_rfl) (by kernel_rfl) rfl hb0 (kr 4 (kq (kBT 29 hx38 (fun h9=> ?_) (fun h10=> ?_))))))
    ·refine kq (kXb ?_)
     obtain rfl:=oi h9
     refine PJ.mapOut (fun e=>nomatch e) (fun he1=> ?_)
     subst he1
     have h11:=b0P h0
     exact PJ.blockRet (kCx h11 h5 (fun h12=>by obtain rfl:=oi h12;exact PJ.wk (Wk.freeze 3 (n:=([e41.1]:List Int).length) (k:=1) (e:=21) (cs:=([e41.1]:List Int).flatMap (a0q .i32)) (by kernel_rfl)) (kZ H D W)))
    ·exact kKb (by obtain rfl:=oi h10;exact PJ.mapNext [1,2,20] (by kernel_rfl) (by kernel_rfl))
  ·exact kq (kX (by obtain rfl:=oi h6;exact PJ.res (v1:= .nl) (Le.nl _) (kZ H D W)))
def f0u(x0:List Int)(x1:List a0c):Option (List Int):=
 (Option.bind (a0l (fun(s0:Bool×Int×(List Int))=>(bif(decide (s0.2.1<(x1.length:Int)))then(Option.bind (bif inR s0.2.1 x1.length then(Option.bind (bif(decide (((nth x1 s0.2.1).L_)=0))then(some ((decide (((nth x1 s0.2.1).R_)=39))))else(some false)) fun(s3:Bool)=>(Option.bind (bif s3 then(bif s0.1 then(some true)else(bif(!s3)then(bif(decide (((nth x1 s0.2.1).L_)=0))then(Option.bind (e0t ((nth x1 s0.2.1).R_)) fun y1=>(some y1))else(some false))else(some false)))else(bif(!s3)then(bif(decide (((nth x1 s0.2.1).L_)=0))then(Option.bind (e0t ((nth x1 s0.2.1).R_)) fun y2=>(some y2))else(some false))else(some false))) fun(s5:Bool)=>(Option.bind (bif(s5 !=s0.1)then(bif room (s0.2.2.length+([39]:List Int).length)then(some (s5,(s0.2.2++([39]:List Int))))else none)else(some (s0.1,s0.2.2))) fun(s2:Bool×(List Int))=>(Option.bind (i0D (nth x1 s0.2.1)) fun y0=>(bif room (s2.2.length+y0.length)then(some (s2.1,(s2.2++y0)))else none)))))else none) fun(s4:Bool×(List Int))=>(some (.inl (s4.1,(IntKind.wrap .i64 (s0.2.1+1)),s4.2))))else(some (.inr (s0.1,s0.2.2))))) big (false,0,x0)) fun(s1:Bool×(List Int))=>(Option.bind (bif s1.1 then(bif room (s1.2.length+([39]:List Int).length)then(some (s1.2++([39]:List Int)))else none)else(some s1.2)) fun(s6:(List Int))=>(some s6)))
theorem e0Q {x0:List Int} {x1:List a0c} {r:List Int} (h:f0u x0 x1=some r):SQ 170 [.vc 0,lsv a0a 2 x1] [a0A (a0q .i32) 1 21 x0] (.vc 1) [.gone,a0A (a0q .i32) 1 21 r]:=by
 refine kFn (fn:=Tryz.f170) (fun F H D W=> ?_)
 unfold f0u at h
 exact J.wk (Wk.move 0 (n:=x0.length) (k:=1) (e:=21) (cs:=x0.flatMap (a0q .i32)) (by kernel_rfl)) (kq (kq (kcN h (fun(s1:Bool×(List Int))=>([(0, .vc 1),(4, .nl),(5, .bool s1.1)],[.gone,a0A (a0q .i32) 1 21 s1.2])) (fun s1 hy0=>kq (kb 0 (kl (fun(s0:Bool×Int×(List Int))=>([(0, .vc 1),(4, .nl),(5, .bool s0.1),(10,lsv a0a 2 x1),(11,iL (x1.length:Int)),(12,iL s0.2.1)],[.gone,a0A (a0q .i32) 1 21 s0.2.2])) hy0 [0,4,5,10,11,12] (fun s0 x857 hs0=>kq (kS (kBT 13 hs0 (fun h1=>kKN (kcN h1 (fun(s4:Bool×(List Int))=>([(0, .vc 1),(4, .nl),(5, .bool s4.1),(10,lsv a0a 2 x1),(11,iL (x1.length:Int)),(12,iL s0.2.1)],[.gone,a0A (a0q .i32) 1 21 s4.2])) (fun s4 hy1=>kb 1 (kSR (kIb 14 d0n hy1 (fun h4=>kr 3 (kcN h4 (fun(s3:Bool)=>([(0, .vc 1),(4, .nl),(5, .bool s0.1),(7, .ptr 2 0),(8, .bool s3),(10,lsv a0a 2 x1),(11,iL (x1.length:Int)),(12,iL s0.2.1)],[.gone,a0A (a0q .i32) 1 21 s0.2.2, .box [iL ((nth x1 s0.2.1).L_),iM ((nth x1 s0.2.1).R_)]])) (fun s3 hy2=>km 4 (kB 19 hy2 (fun h6=>ke 5 (kNo h6 [0,4,5,7,8,10,11,12])) (fun h7=>ke 5 (kNo h7 [0,4,5,7,8,10,11,12])))) (fun s3 h5=>kcN h5 (fun(s5:Bool)=>([(0, .vc 1),(4, .nl),(5, .bool s0.1),(7, .ptr 2 0),(9, .bool s5),(10,lsv a0a 2 x1),(11,iL (x1.length:Int)),(12,iL s0.2.1)],[.gone,a0A (a0q .i32) 1 21 s0.2.2, .box [iL ((nth x1 s0.2.1).L_),iM ((nth x1 s0.2.1).R_)]])) (fun s5 hy3=>km 2 (kB 25 hy3 (fun h9=>kc 3 (kB 28 h9 (fun h11=>ke 14 (kNo h11 [0,4,5,7,9,10,11,12])) (fun h12=>kc 3 (kB 31 h12 (fun h13=>kc 5 (kB 36 h13 (fun h15=>kc 2 (kAb 39 h15 (fun _=>g0Q) (fun y1 h17=>ke 3 (kNo h17 [0,4,5,7,9,10,11,12])))) (fun h16=>ke 6 (kNo h16 [0,4,5,7,9,10,11,12])))) (fun h14=>ke 11 (kNo h14 [0,4,5,7,9,10,11,12])))))) (fun h10=>kc 6 (kB 31 h10 (fun h18=>kc 5 (kB 36 h18 (fun h20=>kc 2 (kAb 39 h20 (fun _=>g0Q) (fun y2 h22=>ke 3 (kNo h22 [0,4,5,7,9,10,11,12])))) (fun h21=>ke 6 (kNo h21 [0,4,5,7,9,10,11,12])))) (fun h19=>ke 11 (kNo h19 [0,4,5,7,9,10,11,12])))))) (fun s5 h8=>kcN h8 (fun(s2:Bool×(List Int))=>([(0, .vc 1),(4, .nl),(5, .bool s2.1),(7, .ptr 2 0),(10,lsv a0a 2 x1),(11,iL (x1.length:Int)),(12,iL s0.2.1)],[.gone,a0A (a0q .i32) 1 21 s2.2, .box [iL ((nth x1 s0.2.1).L_),iM ((nth x1 s0.2.1).R_)]])) (fun s2 hy4=>kq (kBT 44 hy4 (fun h24=>kn 2 (kAp 47 1 4 1 21 [1,3] (a0q .i32) h24 (fun h26=>kr 1 (kM (kNW h26 D W [0,4,2]))))) (fun h25=>kK (kNo h25 [0,4,5,7,10,11,12])))) (fun s2 h23=>km 2 (kAb 51 h23 (fun _=>p0c) (fun y0 h27=>kAp 52 1 3 1 21 [1] (a0q .i32) h27 (fun h28=>ke 1 (PJ.blockNormal (kNW h28 D W [0,3]))))))))))))) (fun s4 h3=>kM (kLo h3 [0,4,5,10,11,12])))) (fun h2=>kEp 0 (kLx h2 (fun h29=>PJ.blockOut (kNo h29 [0,4,5])))))))))) (fun s1 h0=>kcN h0 (fun(s6:(List Int))=>([(0, .vc 1),(4, .nl)],[.gone,a0A (a0q .i32) 1 21 s6])) (fun s6 hy5=>kq (kBT 54 hy5 (fun h31=>km 2 (kAp 57 1 3 1 21 [1,2] (a0q .i32) h31 (fun h33=>ke 1 (kNW h33 D W [0,3])))) (fun h32=>kK (kNo h32 [0,4])))) (fun s6 h30=>kq (kX (by obtain rfl:=oi h30;exact kRV [0,1] (.inr rfl) H D W)))))))
def g0l(x0:d0b):Option (List Int):=
 (Option.bind (h0k x0) fun y0=>(Option.bind (i0E ([]:List Int) x0 1) fun y5=>(Option.bind (f0u y5 x0.r_) fun y6=>(Option.bind (i0E y6 x0 2) fun y3=>(bif room (y3.length+y0.length)then(Option.bind (i0E (y3++y0) x0 3) fun y7=>(Option.bind (f0u y7 x0.q_) fun y8=>(Option.bind (i0E y8 x0 4) fun y1=>(Option.bind (bif x0.J_ then(bif room (y1.length+([59]:List Int).length)then(Option.bind (f0u (y1++([59]:List Int)) x0.B_) fun y2=>(bif room (y2.length+y0.length)then(Option.bind (f0u (y2++y0) x0.E_) fun y4=>(some y4))else none))else none)else(some y1)) fun(s0:(List Int))=>(some s0)))))else none)))))
theorem m0S {x0:d0b} {r:List Int} (h:g0l x0=some r):SQ 145 [.agg (a0f x0)] [] (lR r) []:=by
 refine kFn (fn:=Tryz.f145) (fun F H D W=> ?_)
 unfold g0l at h
 refine kq (kn 1 (kAb 6 h (fun _=>n0W) (fun y0 h0=>kr 1 (kn 1 ?_))))
 obtain⟨y5,hy0,h1⟩:=a0d h0
 refine kCG (some 8) (args:=[.nl, .agg (a0f x0),iL 1]) (v:= .vc 2) (H2:=[.box (a0f x0), .gone,a0A (a0q .i32) 1 21 y5]) [] (SC.nil (args1:=[]) (args2:=[.agg (a0f x0),iL 1]) (H0:=[]) (k:=1) (e:=21) (f0R hy0)) (kr 1 (kn 3 ?_))
 obtain⟨y6,hy1,h2⟩:=a0d h1
 refine kCg (some 12) [2] (e0Q hy1) (kr 1 (kn 2 ?_))
 obtain⟨y3,hy2,h3⟩:=a0d h2
 refine kCg (some 15) [3] (f0R hy2) (RJ.seg 1 [1,2,3,4] (L2:=[(1, .ptr 0 0),(2, .nl),(3,lR y0),(4, .vc 4)]) (H2:=[.box (a0f x0), .gone, .gone, .gone,a0A (a0q .i32) 1 21 y3]) (by kernel_rfl) (kEN (kn 2 (kAp 18 4 5 1 21 [4] (a0q .i32) h3 (fun h4=>kr 1 (kn 2 ?_))))))
 obtain⟨y7,hy3,h5⟩:=a0d h4
 refine kCg (some 21) [5] (f0R hy3) (kr 1 (kn 3 ?_))
 obtain⟨y8,hy4,h6⟩:=a0d h5
 refine kCg (some 25) [6] (e0Q hy4) (kr 1 (kn 2 ?_))
 obtain⟨y1,hy5,h7⟩:=a0d h6
 refine kCg (some 28) [7] (f0R hy5) (kr 1 (kcN h7 (fun(s0:(List Int))=>([(2, .nl),(4, .vc 0)],[a0A (a0q .i32) 1 21 s0])) (fun s0 hy6=> ?_) (fun s0 h8=> ?_)))
 ·refine kSR (RJ.seg 2 [1,2,3,4,30] (L2:=[(1, .ptr 0 0),(2, .nl),(3,lR y0),(4, .vc 8),(30, .bool x0.J_)]) (H2:=[.box (a0f x0), .gone, .gone, .gone, .gone, .gone, .gone, .gone,a0A (a0q .i32) 1 21 y1]) (by kernel_rfl) (kEN (kBT 30 hy6 (fun h9=> ?_) (fun h10=> ?_))))
  ·refine kS (kDr (kD 2 ?_))
   obtain⟨hm,h11⟩:=a0Q h9
   refine RJ.rel (d:=(some 33)) (ef:=⟨.vc 10,[8,9],[(8, .gone),(10, .vec (y1.length+([59]:List Int).length) 1 21 (y1.flatMap (a0q .i32)++([59]:List Int).flatMap (a0q .i32)))]⟩) (ef':=⟨.vc 10,[8,9],[(8, .gone),(10,a0A (a0q .i32) 1 21 (y1++([59]:List Int)))]⟩) (c:=room (y1.length+([59]:List Int).length)) (tr2:=[([],[]),([],[18,19,18,19]),([16,17,18,19],[16,17,20,21,20,21])]) (H2:=[.box (a0f x0), .gone, .gone, .gone, .gone, .gone, .gone, .gone, .gone,a0A (a0q .i32) 1 21 ([59]:List Int),a0A (a0q .i32) 1 21 (y1++([59]:List Int)), .res]) (by kernel_rfl) hm (fun hc=>N.app) (by kernel_rfl) (kD 2 ?_)
   obtain⟨y2,hy7,h12⟩:=a0d h11
   refine RJ.callX (d:=(some 36)) (f:=170) (args:=[.vc 10,lsv a0a 2 x0.B_]) (args0:=[.vc 0,lsv a0a 2 x0.B_]) (v0:= .vc 1) (v:= .vc 11) (tr2:=[([],[]),([],[18,19,18,19]),([16,17,18,19],[16,17,20,21,20,21]),([],[]),([0,1],[]),([20,21],[20,21,22,23,22,23])]) (H0:=[a0A (a0q .i32) 1 21 (y1++([59]:List Int))]) (H0':=[.gone,a0A (a0q .i32) 1 21 y2]) (H2:=[.box (a0f x0), .gone, .gone, .gone, .gone, .gone, .gone, .gone, .gone,a0A (a0q .i32) 1 21 ([59]:List Int), .gone,a0A (a0q .i32) 1 21 y2]) 11 [10] (by kernel_rfl) (by kernel_rfl) (by kernel_rfl) (by kernel_rfl) (by kernel_rfl) (by kernel_rfl) (by decide) (by kernel_rfl) (by kernel_rfl) (by kernel_rfl) (LeL.refl _) (e0Q hy7) (by kernel_rfl) (by kernel_rfl) (by kernel_rfl) (kD 1 (kEN (kDr (kD 2 ?_))))
   obtain⟨hm,h13⟩:=a0Q h12
   refine RJ.rel (d:=(some 39)) (ef:=⟨.vc 12,[11],[(11, .gone),(12, .vec (y2.length+y0.length) 1 21 (y2.flatMap (a0q .i32)++y0.flatMap (a0q .i32)))]⟩) (ef':=⟨.vc 12,[11],[(11, .gone),(12,a0A (a0q .i32) 1 21 (y2++y0))]⟩) (c:=room (y2.length+y0.length)) (tr2:=[([],[]),([],[]),([22,23],[22,23,24,25,24,25])]) (H2:=[.box (a0f x0), .gone, .gone, .gone, .gone, .gone, .gone, .gone, .gone,a0A (a0q .i32) 1 21 ([59]:List Int), .gone, .gone,a0A (a0q .i32) 1 21 (y2++y0), .res]) (by kernel_rfl) hm (fun hc=>N.app) (by kernel_rfl) (kD 2 ?_)
   obtain⟨y4,hy8,h14⟩:=a0d h13
   exact RJ.callX (d:=(some 42)) (f:=170) (args:=[.vc 12,lsv a0a 2 x0.E_]) (args0:=[.vc 0,lsv a0a 2 x0.E_]) (v0:= .vc 1) (v:= .vc 13) (tr2:=[([],[]),([],[]),([22,23],[22,23,24,25,24,25]),([],[]),([0,1],[]),([24,25],[24,25,26,27,26,27])]) (H0:=[a0A (a0q .i32) 1 21 (y2++y0)]) (H0':=[.gone,a0A (a0q .i32) 1 21 y4]) (H2:=[.box (a0f x0), .gone, .gone, .gone, .gone, .gone, .gone, .gone, .gone,a0A (a0q .i32) 1 21 ([59]:List Int), .gone, .gone, .gone,a0A (a0q .i32) 1 21 y4]) 13 [12] (by kernel_rfl) (by kernel_rfl) (by kernel_rfl) (by kernel_rfl) (by kernel_rfl) (by kernel_rfl) (by decide) (by kernel_rfl) (by kernel_rfl) (by kernel_rfl) (LeL.refl _) (e0Q hy8) (by kernel_rfl) (by kernel_rfl) (by kernel_rfl) (kD 1 (kE (kNW h14 D W [13])))
  ·exact kK (kNW h10 D W [8])
 ·exact kq (kX (by obtain rfl:=oi h8;exact PJ.wk (Wk.freeze 0 (n:=s0.length) (k:=1) (e:=21) (cs:=s0.flatMap (a0q .i32)) (by kernel_rfl)) (kZ H D W)))
def l0O(x0:d0b):Option (List UInt8):=
 (Option.bind (g0l x0) fun y0=>(some (k0s y0)))
theorem q0o {x0:d0b} {r:List UInt8} (h:l0O x0=some r):SQ 116 [.agg (a0f x0)] [] (.str r) []:=by
 refine kFn (fn:=Tryz.f116) (fun F H D W=> ?_)
 unfold l0O at h
 exact kq (kn 1 (kAb 4 h (fun _=>m0S) (fun y0 h0=>RJ.rel (d:=(some 5)) (ef:=⟨.str ((y0.flatMap (a0q .i32)).flatMap Go.Sy.runeB),[],[]⟩) (ef':=⟨.str (k0s y0),[],[]⟩) (c:=(y0.flatMap (a0q .i32)).all i0Q) (tr2:=[]) (H2:=[.box (a0f x0)]) (by kernel_rfl) (y0O y0) (fun hc=>N.toRStr) (by kernel_rfl) (kr 1 (kX (by cases h0;exact kZ H D W))))))
structure v0c where
 e_:Int
 f_:Int
 n_:Int
 s_:Int
 P_:Int
 U_:Int
 a6_:Int
 a7_:Int
 Z_:Int
 a9_:Int
 ae_:Int
 deriving Inhabited,DecidableEq
def r0B(x:v0c):List SV:=[.int .i64 x.e_, .int .i64 x.f_, .int .i64 x.n_, .int .i64 x.s_, .int .i64 x.P_, .int .i64 x.U_, .int .i64 x.a6_, .int .i64 x.a7_, .int .i64 x.Z_, .int .i64 x.a9_, .int .i64 x.ae_]
theorem x0a(x:v0c):(r0B x).length=11:=rfl
def g0m(x0:d0b):Option (v0c):=
 (some (⟨x0.Y_,x0.M_,x0.X_,x0.Q_,x0.I_,x0.N_,x0.O_,x0.T_,x0.i_,(IntKind.wrap .i64 x0.y_),x0.V_⟩:v0c))
theorem j0O {x0:d0b} {r:v0c} (h:g0m x0=some r):SQ 146 [.agg (a0f x0)] [] (.agg (r0B r)) []:=by
 refine kFn (fn:=Tryz.f146) (fun F H D W=> ?_)
 unfold g0m at h
 exact kq (kq (kX (by cases h;exact kZ H D W)))
def g0K(x0 x1:List a0c):Option (Bool):=
 (bif(decide (¬(x0.length:Int)=(x1.length:Int)))then(some false)else(Option.bind (a0l (fun(s0:Int)=>(bif(decide (s0<(x0.length:Int)))then(bif inR s0 x0.length then(bif inR s0 x1.length then(bif(!((decide (((nth x0 s0).L_)=((nth x1 s0).L_)))&&((decide (((nth x0 s0).R_)=((nth x1 s0).R_)))&&true)))then(some (.inr (.inr false)))else(some (.inl (IntKind.wrap .i64 (s0+1)))))else none)else none)else(some (.inr (.inl ()))))) big 0) (a0j fun(s1:Unit)=>(some true))))
theorem f0X {x0 x1:List a0c} {r:Bool} (h:g0K x0 x1=some r):SQ 147 [lsv a0a 2 x0,lsv a0a 2 x1] [] (.bool r) []:=by
 refine kFn (fn:=Tryz.f147) (fun F H D W=> ?_)
 unfold g0K at h
 refine kq (kS (kq (kBT 10 h (fun h0=> ?_) (fun h1=> ?_))))
 ·exact kq (kX (PJ.passRet (by obtain rfl:=oi h0;exact kRV [] (.inr rfl) H D W)))
 ·refine kKN (kcX h1 (fun(s1:Unit)=>([(4, .bool false)],[])) (fun y0 hy0 h2=> ?_) (fun s1 h3=> ?_))
  ·refine kq (kb 0 (kl (fun(s0:Int)=>([(0,lsv a0a 2 x0),(1,lsv a0a 2 x1),(4, .bool false),(12,iL (x0.length:Int)),(13,iL s0)],[])) hy0 [0,1,4,12,13] (fun s0 x79 hs0=>kq (kS (kBT 14 hs0 (fun h4=> ?_) (fun h5=> ?_))))))
   ·refine kKN (kS (kb 1 (kq (kS (kDr (kD 2 ?_))))))
    obtain⟨hm,h6⟩:=a0Q h4
    refine kJ 18 (tr2:=[([],[]),([],[]),([],[])]) d0n hm (kD 3 ?_)
    obtain⟨hm,h7⟩:=a0Q h6
    exact kJ 22 (tr2:=[([],[]),([],[]),([],[]),([],[]),([],[]),([],[]),([],[])]) d0n hm (kD 2 (kEN (kBT 24 h7 (fun h8=>kq (kXp (kLx h8 (fun h10=>PJ.blockRet (kCx h10 h2 (fun h11=>by obtain rfl:=oi h11;exact kRV [] (.inr rfl) H D W)))))) (fun h9=>kKn (kM (kLo h9 [0,1,4,12,13]))))))
   ·exact kEp 0 (kLx h5 (fun h12=>PJ.blockOut (kXo h12 [4])))
  ·exact kq (kX (by obtain rfl:=oi h3;exact kRV [] (.inr rfl) H D W))
def k0y(x0 x1:d0b):Option (Bool):=
 (Option.bind (Option.bind (g0m x0) fun y0=>(Option.bind (g0m x1) fun y1=>(bif((decide (y0.e_=y1.e_))&&((decide (y0.f_=y1.f_))&&((decide (y0.n_=y1.n_))&&((decide (y0.s_=y1.s_))&&((decide (y0.P_=y1.P_))&&((decide (y0.U_=y1.U_))&&((decide (y0.a6_=y1.a6_))&&((decide (y0.a7_=y1.a7_))&&((decide (y0.Z_=y1.Z_))&&((decide (y0.a9_=y1.a9_))&&((decide (y0.ae_=y1.ae_))&&true)))))))))))then(bif(x0.J_==x1.J_)then(bif(x0.W_==x1.W_)then(Option.bind (g0K x0.r_ x1.r_) fun y2=>(bif y2 then(Option.bind (g0K x0.q_ x1.q_) fun y3=>(bif y3 then(Option.bind (g0K x0.B_ x1.B_) fun y4=>(bif y4 then(Option.bind (g0K x0.E_ x1.E_) fun y5=>(some y5))else(some false)))else(some false)))else(some false)))else(some false))else(some false))else(some false)))) fun(s0:Bool)=>(some s0))
theorem q0p {x0 x1:d0b} {r:Bool} (h:k0y x0 x1=some r):SQ 117 [.agg (a0f x0), .agg (a0f x1)] [] (.bool r) []:=by
 refine kFn (fn:=Tryz.f117) (fun F H D W=> ?_)
 unfold k0y at h
 refine kq (kcN h (fun(s0:Bool)=>([(4, .bool s0)],[])) (fun s0 hy0=> ?_) (fun s0 h0=> ?_))
 ·refine kDr (kD 1 ?_)
  obtain⟨y0,hy1,h1⟩:=a0d hy0
  refine kC0 (some 6) [([0,1],[]),([],[4,5])] (j0O hy1) (kD 1 ?_)
  obtain⟨y1,hy2,h2⟩:=a0d h1
  refine kC0 (some 8) [([0,1],[]),([],[4,5]),([2,3],[]),([],[6,7])] (j0O hy2) (kD 2 (kB 10 h2 (fun h3=> ?_) (fun h4=> ?_)))
  ·refine kD 7 (kB 17 h3 (fun h5=> ?_) (fun h6=> ?_))
   ·refine kD 7 (kB 24 h5 (fun h7=> ?_) (fun h8=> ?_))
    ·refine kD 4 ?_
     obtain⟨y2,hy3,h9⟩:=a0d h7
     refine kC0 (some 29) [([0,1],[]),([],[4,5]),([2,3],[]),([],[6,7]),([],[]),([],[]),([],[]),([0,1],[]),([],[]),([2,3],[]),([],[]),([],[]),([],[]),([],[]),([0,1],[]),([],[]),([2,3],[]),([],[]),([],[]),([],[]),([],[]),([0,1],[]),([],[]),([2,3],[]),([],[8,9])] (f0X hy3) (kD 2 (kB 31 h9 (fun h10=> ?_) (fun h11=> ?_)))
     ·refine kD 4 ?_
      obtain⟨y3,hy4,h12⟩:=a0d h10
      refine kC0 (some 36) [([0,1],[]),([],[4,5]),([2,3],[]),([],[6,7]),([],[]),([],[]),([],[]),([0,1],[]),([],[]),([2,3],[]),([],[]),([],[]),([],[]),([],[]),([0,1],[]),([],[]),([2,3],[]),([],[]),([],[]),([],[]),([],[]),([0,1],[]),([],[]),([2,3],[]),([],[8,9]),([],[]),([],[]),([],[]),([0,1],[]),([],[]),([2,3],[]),([],[10,11])] (f0X hy4) (kD 2 (kB 38 h12 (fun h13=> ?_) (fun h14=> ?_)))
      ·refine kD 4 ?_
       obtain⟨y4,hy5,h15⟩:=a0d h13
       refine kC0 (some 43) [([0,1],[]),([],[4,5]),([2,3],[]),([],[6,7]),([],[]),([],[]),([],[]),([0,1],[]),([],[]),([2,3],[]),([],[]),([],[]),([],[]),([],[]),([0,1],[]),([],[]),([2,3],[]),([],[]),([],[]),([],[]),([],[]),([0,1],[]),([],[]),([2,3],[]),([],[8,9]),([],[]),([],[]),([],[]),([0,1],[]),([],[]),([2,3],[]),([],[10,11]),([],[]),([],[]),([],[]),([0,1],[]),([],[]),([2,3],[]),([],[12,13])] (f0X hy5) (kD 2 (kB 45 h15 (fun h16=> ?_) (fun h17=> ?_)))
       ·refine kD 4 ?_
        obtain⟨y5,hy6,h18⟩:=a0d h16
        exact kC0 (some 50) [([0,1],[]),([],[4,5]),([2,3],[]),([],[6,7]),([],[]),([],[]),([],[]),([0,1],[]),([],[]),([2,3],[]),([],[]),([],[]),([],[]),([],[]),([0,1],[]),([],[]),([2,3],[]),([],[]),([],[]),([],[]),([],[]),([0,1],[]),([],[]),([2,3],[]),([],[8,9]),([],[]),([],[]),([],[]),([0,1],[]),([],[]),([2,3],[]),([],[10,11]),([],[]),([],[]),([],[]),([0,1],[]),([],[]),([2,3],[]),([],[12,13]),([],[]),([],[]),([],[]),([0,1],[]),([],[]),([2,3],[]),([],[14,15])] (f0X hy6) (kD 2 (kE (kNW h18 D W [])))
       ·exact kD 7 (kE (kNW h17 D W []))
      ·exact kD 14 (kE (kNW h14 D W []))
     ·exact kD 21 (kE (kNW h11 D W []))
    ·exact kD 28 (kE (kNW h8 D W []))
   ·exact kD 35 (kE (kNW h6 D W []))
  ·exact kD 42 (kE (kNW h4 D W []))
 ·exact kX (by cases h0;exact kZ H D W)
def i0F(x0:d0b):Option (Bool):=
 (Option.bind (l0O x0) fun y1=>(Option.bind (h0l y1) fun y0=>(Option.bind (bif(decide (y0.2.2=0))then(Option.bind (k0y x0 y0.1) fun y2=>(some y2))else(some false)) fun(s0:Bool)=>(some s0))))
theorem p0d {x0:d0b} {r:Bool} (h:i0F x0=some r):SQ 77 [.agg (a0f x0)] [] (.bool r) []:=by
 refine kFn (fn:=Tryz.f77) (fun F H D W=> ?_)
 unfold i0F at h
 exact kq (kn 1 (kAb 8 h (fun _=>q0o) (fun y1 h0=>kAb 9 h0 (fun _=>l0q) (fun y0 h1=>kr 8 (kcN h1 (fun(s0:Bool)=>([(2, .bool s0)],[])) (fun s0 hy0=>km 3 (kB 15 hy0 (fun h3=>kc 2 (kAb 18 h3 (fun _=>q0p) (fun y2 h5=>ke 2 (kNW h5 D W [])))) (fun h4=>ke 5 (kNW h4 D W [])))) (fun s0 h2=>kX (by cases h2;exact kZ H D W)))))))
def j0o(x0:List UInt8):Option (d0b×Bool):=
 (Option.bind (h0l x0) fun y0=>(Option.bind (bif(decide (y0.2.2=0))then(Option.bind (i0F y0.1) fun y1=>(some y1))else(some false)) fun(s0:Bool)=>(some (y0.1,s0))))
theorem m0r {x0:List UInt8} {r:d0b×Bool} (h:j0o x0=some r):SQ 37 [.str x0] [] (.tup [.agg (a0f r.1), .bool r.2]) []:=by
 refine kFn (fn:=Tryz.f37) (fun F H D W=> ?_)
 unfold j0o at h
 refine kq (kn 1 (kAb 9 h (fun _=>l0q) (fun y0 h0=>kr 8 (kcN h0 (fun(s0:Bool)=>([(2, .ptr 0 0),(3, .bool s0)],[.box (a0f y0.1)])) (fun s0 hy0=> ?_) (fun s0 h1=> ?_)))))
 ·refine kDr (kD 4 (kB 16 hy0 (fun h2=> ?_) (fun h3=> ?_)))
  ·refine kD 1 ?_
   obtain⟨y1,hy1,h4⟩:=a0d h2
   exact kC0 (some 18) [([2,3],[]),([],[]),([],[]),([],[]),([2,3],[]),([],[4,5])] (p0d hy1) (kD 3 (kE (kNW h4 D W [0])))
  ·exact kD 5 (kE (kNW h3 D W [0]))
 ·exact kX (by cases h1;exact kZ H D W)
def f0v(x0:d0b)(x1:Int):Option (Bool):=
 (bif(decide (x1=2))then(Option.bind (bif(decide (x0.i_>0))then(bif(decide (x0.Y_=0))then(bif(decide (x0.I_=0))then(some (decide (x0.M_=1)))else(some false))else(some false))else(some false)) fun(s0:Bool)=>(some s0))else(Option.bind (bif(decide (x0.O_>0))then(bif(decide (x1=0))then(some true)else(some (decide (x1=1))))else(some false)) fun(s1:Bool)=>(Option.bind (bif(decide (x0.i_=0))then(bif(decide (x0.M_>0))then(some true)else(some s1))else(some false)) fun(s2:Bool)=>(some s2))))
theorem m0s {x0:d0b} {x1:Int} {r:Bool} (h:f0v x0 x1=some r):SQ 38 [.agg (a0f x0),iL x1] [] (.bool r) []:=by
 refine kFn (fn:=Tryz.f38) (fun F H D W=> ?_)
 unfold f0v at h
 exact kq (kS (kq (kBT 7 h (fun h0=>kcN h0 (fun(s0:Bool)=>([(1,iL x1),(2, .ptr 0 0),(4, .bool s0)],[.box (a0f x0)])) (fun s0 hy0=>km 4 (kB 11 hy0 (fun h3=>kc 5 (kB 16 h3 (fun h5=>kc 5 (kB 21 h5 (fun h7=>ke 5 (kNo h7 [1,2,4])) (fun h8=>ke 5 (kNo h8 [1,2,4])))) (fun h6=>ke 10 (kNo h6 [1,2,4])))) (fun h4=>ke 15 (kNo h4 [1,2,4])))) (fun s0 h2=>kX (PJ.passRet (by cases h2;exact kZ H D W)))) (fun h1=>kKN (kcN h1 (fun(s1:Bool)=>([(2, .ptr 0 0),(4, .bool false),(5, .bool s1)],[.box (a0f x0)])) (fun s1 hy1=>km 4 (kB 29 hy1 (fun h10=>kc 3 (kB 32 h10 (fun h12=>ke 5 (kNo h12 [2,4,5])) (fun h13=>ke 5 (kNo h13 [2,4,5])))) (fun h11=>ke 8 (kNo h11 [2,4,5])))) (fun s1 h9=>kcN h9 (fun(s2:Bool)=>([(4, .bool s2)],[])) (fun s2 hy2=>km 4 (kB 40 hy2 (fun h15=>kc 4 (kB 44 h15 (fun h17=>ke 4 (kNW h17 D W [])) (fun h18=>ke 4 (kNW h18 D W [])))) (fun h16=>ke 8 (kNW h16 D W [])))) (fun s2 h14=>kX (by cases h14;exact kZ H D W))))))))
def d0U(x0:List a0c)(x1:Int):Option (Int):=
 (Option.bind (a0l (fun(s0:Int×Int)=>(bif(decide (s0.2<(x0.length:Int)))then(Option.bind (bif inR s0.2 x0.length then(bif(decide (((nth x0 s0.2).L_)=x1))then(some (IntKind.wrap .i64 (s0.1+1)))else(some s0.1))else none) fun(s1:Int)=>(some (.inl (s1,(IntKind.wrap .i64 (s0.2+1))))))else(some (.inr s0.1)))) big (0,0)) fun(s2:Int)=>(some s2))
theorem f0o {x0:List a0c} {x1 r:Int} (h:d0U x0 x1=some r):SQ 79 [lsv a0a 2 x0,iL x1] [] (iL r) []:=by
 refine kFn (fn:=Tryz.f79) (fun F H D W=> ?_)
 unfold d0U at h
 exact kq (kq (kcN h (fun(s2:Int)=>([(4,iL 0),(5,iL s2)],[])) (fun s2 hy0=>kq (kb 0 (kl (fun(s0:Int×Int)=>([(1,iL x1),(4,iL 0),(5,iL s0.1),(8,lsv a0a 2 x0),(9,iL (x0.length:Int)),(10,iL s0.2)],[])) hy0 [1,4,5,8,9,10] (fun s0 x101 hs0=>kq (kS (kBT 11 hs0 (fun h1=>kKN (kcN h1 (fun(s1:Int)=>([(1,iL x1),(4,iL 0),(5,iL s1),(8,lsv a0a 2 x0),(9,iL (x0.length:Int)),(10,iL s0.2)],[])) (fun s1 hy1=>kb 1 (kSR (kIb 12 d0n hy1 (fun h4=>kr 3 (kq (kBT 17 h4 (fun h5=>kM (PJ.blockNormal (kNW h5 D W []))) (fun h6=>kKb (kNW h6 D W [])))))))) (fun s1 h3=>kM (kLo h3 [1,4,5,8,9,10])))) (fun h2=>kEp 0 (kLx h2 (fun h7=>PJ.blockOut (kNo h7 [4,5])))))))))) (fun s2 h0=>kq (kX (by cases h0;exact kZ H D W)))))
def c0f(x0:Int)(x1 x2:List a0c):Option (Int):=
 (Option.bind (d0U x1 x0) fun y0=>(Option.bind (d0U x2 x0) fun y1=>(some (IntKind.wrap .i64 (y0+y1)))))
theorem d0F {x0:Int} {x1 x2:List a0c} {r:Int} (h:c0f x0 x1 x2=some r):SQ 78 [iL x0, .ptr 0 0, .ptr 1 0] [.box [lsv a0a 2 x1], .box [lsv a0a 2 x2]] (iL r) [.box [lsv a0a 2 x1], .box [lsv a0a 2 x2]]:=by
 refine kFn (fn:=Tryz.f78) (fun F H D W=> ?_)
 unfold c0f at h
 refine kq (kS (kDr (kD 2 ?_)))
 obtain⟨y0,hy0,h0⟩:=a0d h
 refine kC0 (some 7) [([0,1],[]),([],[]),([],[4,5])] (f0o hy0) (kD 2 ?_)
 obtain⟨y1,hy1,h1⟩:=a0d h0
 exact kC0 (some 10) [([0,1],[]),([],[]),([],[4,5]),([2,3],[]),([],[]),([],[6,7])] (f0o hy1) (kD 2 (kEN (kX (by obtain rfl:=oi h1;exact kRV [0,1] (.inr rfl) H D W))))
def f0m(x0 x1:List a0c)(x2 x3:Int):Option (Bool):=
 (Option.bind (bif(decide (x2=1))then(some (1,0))else(bif(decide (x2=3))then(some (0,1))else(some (0,0)))) fun(s0:Int×Int)=>(Option.bind (Option.bind (c0f 3 x0 x1) fun y0=>(bif(decide (y0=s0.1))then(Option.bind (c0f 4 x0 x1) fun y1=>(bif(decide (y1=s0.2))then(Option.bind (c0f 2 x0 x1) fun y2=>(bif(decide (y2=0))then(Option.bind (c0f 1 x0 x1) fun y3=>(some (decide (y3≤x3))))else(some false)))else(some false)))else(some false))) fun(s1:Bool)=>(some s1)))
theorem h0J {x0 x1:List a0c} {x2 x3:Int} {r:Bool} (h:f0m x0 x1 x2 x3=some r):SQ 39 [lsv a0a 2 x0,lsv a0a 2 x1,iL x2,iL x3] [] (.bool r) []:=by
 refine kFn (fn:=Tryz.f39) (fun F H D W=> ?_)
 unfold f0m at h
 refine kq (kq (kq (kcN h (fun(s0:Int×Int)=>([(3,iL x3),(8, .bool false),(9, .fn (.func 78) [] [.ptr 0 0, .ptr 1 0]),(10,iL s0.1),(11,iL s0.2)],[.box [lsv a0a 2 x0], .box [lsv a0a 2 x1]])) (fun s0 hy0=> ?_) (fun s0 h0=> ?_))))
 ·exact kq (kb 0 (kq (kBT 14 hy0 (fun h1=>kM (PJ.blockNormal (kNo h1 [3,8,9,10,11]))) (fun h2=>kq (kBT 16 h2 (fun h3=>kM (PJ.blockNormal (kNo h3 [3,8,9,10,11]))) (fun h4=>kKb (kNo h4 [3,8,9,10,11])))))))
 ·refine kcN h0 (fun(s1:Bool)=>([(8, .bool s1)],[])) (fun s1 hy1=> ?_) (fun s1 h5=> ?_)
  ·refine km 1 ?_
   obtain⟨y0,hy2,h6⟩:=a0d hy1
   refine kCg (some 19) [0,1] (d0F hy2) (kc 3 (kB 22 h6 (fun h7=> ?_) (fun h8=> ?_)))
   ·refine kc 1 ?_
    obtain⟨y1,hy3,h9⟩:=a0d h7
    refine kCg (some 24) [0,1] (d0F hy3) (kc 4 (kB 28 h9 (fun h10=> ?_) (fun h11=> ?_)))
    ·refine kc 1 ?_
     obtain⟨y2,hy4,h12⟩:=a0d h10
     refine kCg (some 30) [0,1] (d0F hy4) (kc 3 (kB 33 h12 (fun h13=> ?_) (fun h14=> ?_)))
     ·refine kc 1 ?_
      obtain⟨y3,hy5,h15⟩:=a0d h13
      exact kCg (some 35) [0,1] (d0F hy5) (ke 4 (kNW h15 D W []))
     ·exact ke 6 (kNW h14 D W [])
    ·exact ke 11 (kNW h11 D W [])
   ·exact ke 17 (kNW h8 D W [])
  ·exact kX (by cases h5;exact kZ H D W)
structure n0e where
 r_:List Int
 q_:List Int
 deriving Inhabited,DecidableEq
def k0f(x:n0e):List SV:=[lsv (a0q .i32) 1 x.r_,lsv (a0q .i32) 1 x.q_]
theorem y0q(x:n0e):(k0f x).length=2:=rfl
structure m0N where
 e_:n0e
 f_:n0e
 n_:n0e
 deriving Inhabited,DecidableEq
def d0d(x:m0N):List SV:=[lsv (a0q .i32) 1 x.e_.r_,lsv (a0q .i32) 1 x.e_.q_,lsv (a0q .i32) 1 x.f_.r_,lsv (a0q .i32) 1 x.f_.q_,lsv (a0q .i32) 1 x.n_.r_,lsv (a0q .i32) 1 x.n_.q_]
theorem x0c(x:m0N):(d0d x).length=6:=rfl
def e0H(x0:List a0c):Option (List a0c):=
 (bif(Nat.beq x0.length 0)then n0c (some ([]:List a0c)) (bif room x0.length then(some x0)else none)else(bif room x0.length then(some x0)else none))
theorem h0A {x0 r:List a0c} (h:e0H x0=some r):SQ 191 [lsv a0a 2 x0] [] (.vc 0) [a0A a0a 2 107 r]:=by
 refine kFn (fn:=Tryz.f191) (fun F H D W=> ?_)
 unfold e0H at h
 refine kq (kS (kn 1 (RJ.isNil (d:=4) (n:=x0.length) (eq:=true) (by kernel_rfl) (fun b hb0=> ?_))))
 cases b
 ·have h0:=x0h h
  refine kEN (kF (kKN (kn 2 ?_)))
  obtain⟨hm,h1⟩:=a0Q h0
  exact RJ.rel (d:=(some 7)) (ef':=⟨.vc 0,[],[(0, .vec x0.length 2 107 (x0.flatMap a0a))]⟩) (tr2:=[]) (H2:=[a0A a0a 2 107 x0]) (by kernel_rfl) hm (fun hc=>rfl) (by kernel_rfl) (kr 1 (kX (by obtain rfl:=oi h1;exact kRV [0] (.inr rfl) H D W)))
 ·have h2:=x0g (by rw[hb0 rfl];rfl) h
  exact kEN (kT (kq (kX (PJ.passRet (by obtain rfl:=oi h2;exact PJ.wk (Wk.viv 2 2 107 (by kernel_rfl)) (kRV [0] (.inr rfl) H D W))))))
def c0V(x0 x1:List a0c):Option (List a0c):=
 (Option.bind (e0H x1) fun y0=>(bif room (y0.length+x0.length)then(some (y0++x0))else none))
theorem d0o {x0 x1 r:List a0c} (h:c0V x0 x1=some r):SQ 171 [lsv a0a 2 x0,lsv a0a 2 x1] [] (lsv a0a 2 r) []:=by
 refine kFn (fn:=Tryz.f171) (fun F H D W=> ?_)
 unfold c0V at h
 refine kq (kn 1 ?_)
 obtain⟨y0,hy0,h0⟩:=a0d h
 exact kCg (some 6) [] (h0A hy0) (kc 1 (kAp 8 0 1 2 107 [0] a0a h0 (fun h1=>kr 1 (kX (by obtain rfl:=oi h1;exact PJ.wk (Wk.freeze 1 (n:=(y0++x0).length) (k:=2) (e:=107) (cs:=(y0++x0).flatMap a0a) (by kernel_rfl)) (kZ H D W))))))
def e0I(x0:List a0c):Option (List a0c):=
 (Option.bind (e0H x0) fun y0=>(Option.bind (a0l (fun(s0:Int×(List a0c))=>(bif(decide (s0.1<(y0.length:Int)))then(Option.bind (bif inR s0.1 s0.2.length then(bif inR s0.1 s0.2.length then(bif(decide (((nth s0.2 s0.1).L_)=1))then(bif inR s0.1 s0.2.length then(bif inR s0.1 s0.2.length then(some (b0u s0.2 s0.1 (⟨2,0⟩:a0c)))else none)else none)else(some s0.2))else none)else none) fun(s2:(List a0c))=>(some (.inl ((IntKind.wrap .i64 (s0.1+1)),s2))))else(some (.inr s0.2)))) big (0,y0)) fun(s1:(List a0c))=>(some s1)))
theorem j0h {x0 r:List a0c} (h:e0I x0=some r):SQ 172 [lsv a0a 2 x0] [] (lsv a0a 2 r) []:=by
 refine kFn (fn:=Tryz.f172) (fun F H D W=> ?_)
 unfold e0I at h
 refine kq (kn 1 ?_)
 obtain⟨y0,hy0,h0⟩:=a0d h
 refine kCg (some 6) [] (h0A hy0) (kr 1 (kcN h0 (fun(s1:(List a0c))=>([(0, .vc 0),(2, .nl)],[a0A a0a 2 107 s1])) (fun s1 hy1=> ?_) (fun s1 h1=> ?_)))
 ·refine kq (kb 0 (kl (fun(s0:Int×(List a0c))=>([(0, .vc 0),(2, .nl),(7, .vc 0),(8,iL (y0.length:Int)),(9,iL s0.1)],[a0A a0a 2 107 s0.2])) hy1 [0,2,7,8,9] (fun s0 x134 hs0=>kq (kS (kBT 10 hs0 (fun h2=> ?_) (fun h3=> ?_))))))
  ·refine kKN (kcN h2 (fun(s2:(List a0c))=>([(0, .vc 0),(2, .nl),(7, .vc 0),(8,iL (y0.length:Int)),(9,iL s0.1)],[a0A a0a 2 107 s2])) (fun s2 hy2=> ?_) (fun s2 h4=> ?_))
   ·refine kb 1 (kn 1 ?_)
    obtain⟨hm,h5⟩:=a0Q hy2
    refine kQ 12 (.ptr 0 ((s0.1:Int).toNat*2)) [0] (tr2:=[]) hm ?_
    obtain⟨hm,h6⟩:=a0Q h5
    refine RJ.loadS (d:=(some 13)) (i:=0) (enc:=a0a) (k:=2) (xs:=s0.2) (j:=s0.1) (tr2:=[]) (by kernel_rfl) d0n hm (kr 3 (kq (kBT 16 h6 (fun h7=> ?_) (fun h8=> ?_))))
    ·refine km 3 ?_
     obtain⟨hm,h9⟩:=a0Q h7
     refine kQ 20 (.ptr 0 ((s0.1:Int).toNat*2)) [0] (tr2:=[]) hm ?_
     obtain⟨hm,h10⟩:=a0Q h9
     exact RJ.rel (d:=none) (ef:=⟨.undef,[0],[(0, .vec (s0.2).length 2 107 (splice ((s0.2).flatMap a0a) ((s0.1:Int).toNat*2) (a0a (⟨2,0⟩:a0c))))]⟩) (ef':=⟨.undef,[0],[(0,a0A a0a 2 107 (b0u s0.2 s0.1 (⟨2,0⟩:a0c)))]⟩) (c:=Nat.ble (((s0.1:Int).toNat*2)+(a0a (⟨2,0⟩:a0c)).length) (s0.2.flatMap a0a).length) (tr2:=[]) (H2:=[a0A a0a 2 107 (b0u s0.2 s0.1 (⟨2,0⟩:a0c)), .box [iL ((nth s0.2 s0.1).L_),iM ((nth s0.2 s0.1).R_)]]) (by kernel_rfl) (o0I d0n hm) (fun hc=>N.store d0n hm) (by kernel_rfl) (kE (PJ.blockNormal (kNW h10 D W [0])))
    ·exact kKb (kNW h8 D W [0])
   ·exact kM (kLo h4 [0,2,7,8,9])
  ·exact kEp 0 (kLx h3 (fun h11=>PJ.blockOut (kNo h11 [0,2])))
 ·exact kq (kX (by obtain rfl:=oi h1;exact PJ.wk (Wk.freeze 0 (n:=s1.length) (k:=2) (e:=107) (cs:=s1.flatMap a0a) (by kernel_rfl)) (kZ H D W)))
def f0z(x0:d0b)(x1:Int):Option ((List a0c)×(List a0c)):=
 (bif(decide (x1=1))then(bif x0.J_ then(Option.bind (c0V x0.B_ ([]:List a0c)) fun y0=>(Option.bind (c0V x0.E_ ([]:List a0c)) fun y1=>(some (y0,y1))))else(Option.bind (c0V x0.r_ ([(⟨1,0⟩:a0c)]:List a0c)) fun y2=>(Option.bind (c0V x0.q_ ([]:List a0c)) fun y3=>(some (y2,y3)))))else(bif(decide (x1=2))then(Option.bind (Option.bind (bif x0.J_ then(Option.bind (d0U x0.B_ 1) fun y4=>(Option.bind (d0U x0.E_ 1) fun y5=>(some ((decide ((IntKind.wrap .i64 (y4+y5))>0))))))else(some false)) fun(s0:Bool)=>(bif s0 then(Option.bind (e0I x0.B_) fun y6=>(Option.bind (e0I x0.E_) fun y7=>(some (.inr (y6,y7)))))else(some (.inl ())))) (a0j fun(s1:Unit)=>(Option.bind (c0V x0.r_ ([(⟨2,0⟩:a0c)]:List a0c)) fun y8=>(Option.bind (c0V x0.q_ ([]:List a0c)) fun y9=>(some (y8,y9))))))else(Option.bind (c0V x0.r_ ([]:List a0c)) fun y10=>(Option.bind (c0V x0.q_ ([]:List a0c)) fun y11=>(some (y10,y11))))))
theorem m0M {x0:d0b} {x1:Int} {r:(List a0c)×(List a0c)} (h:f0z x0 x1=some r):SQ 148 [.agg (a0f x0),iL x1] [] (.tup [lsv a0a 2 r.1,lsv a0a 2 r.2]) []:=by
 refine kFn (fn:=Tryz.f148) (fun F H D W=> ?_)
 unfold f0z at h
 refine kq (kS (kq (kb 0 (kq (kBT 7 h (fun h0=> ?_) (fun h1=> ?_))))))
 ·refine kS (kq (kBT 10 h0 (fun h2=> ?_) (fun h3=> ?_)))
  ·refine kS (kDr (kD 2 ?_))
   obtain⟨y0,hy0,h4⟩:=a0d h2
   refine RJ.call0 (d:=(some 13)) (f:=171) (args:=[lsv a0a 2 x0.B_, .nl]) (v:=lsv a0a 2 y0) (tr2:=[([],[]),([0,1],[]),([],[2,3])]) (by kernel_rfl) (by kernel_rfl) (.cons (Le.refl _) (.cons (Le.nl _) .nil)) (d0o hy0) (by kernel_rfl) (kD 2 ?_)
   obtain⟨y1,hy1,h5⟩:=a0d h4
   exact RJ.call0 (d:=(some 16)) (f:=171) (args:=[lsv a0a 2 x0.E_, .nl]) (v:=lsv a0a 2 y1) (tr2:=[([],[]),([0,1],[]),([],[2,3]),([],[]),([0,1],[]),([],[4,5])]) (by kernel_rfl) (by kernel_rfl) (.cons (Le.refl _) (.cons (Le.nl _) .nil)) (d0o hy1) (by kernel_rfl) (kD 2 (kEN (kX (PJ.passRet (PJ.blockRet (PJ.passRet (by cases h5;exact kZ H D W)))))))
  ·refine kKN (kS (kDr (kD 3 (RJ.relZ (d:=(some 20)) (ef:=⟨.lst ([(⟨1,0⟩:a0c)]:List a0c).length 2 (([(⟨1,0⟩:a0c)]:List a0c).flatMap a0a),[],[(1, .vec ([(⟨1,0⟩:a0c)]:List a0c).length 2 107 (([(⟨1,0⟩:a0c)]:List a0c).flatMap a0a)),(1, .gone)]⟩) (ef':=⟨.lst ([(⟨1,0⟩:a0c)]:List a0c).length 2 (([(⟨1,0⟩:a0c)]:List a0c).flatMap a0a),[],[(1, .vec ([(⟨1,0⟩:a0c)]:List a0c).length 2 107 (([(⟨1,0⟩:a0c)]:List a0c).flatMap a0a)),(1, .gone)]⟩) (c:=true) (tr2:=[([],[]),([0,1],[]),([],[]),([],[2,3,2,3,2,3])]) (H2:=[.box (a0f x0), .gone, .res, .res]) (by kernel_rfl) rfl (fun hc=>rfl) (by kernel_rfl) ?_))))
   obtain⟨y2,hy2,h6⟩:=a0d h3
   refine kC0 (some 21) [([],[]),([0,1],[]),([],[]),([],[2,3,2,3,2,3]),([],[4,5])] (d0o hy2) (kD 2 ?_)
   obtain⟨y3,hy3,h7⟩:=a0d h6
   exact RJ.call0 (d:=(some 24)) (f:=171) (args:=[lsv a0a 2 x0.q_, .nl]) (v:=lsv a0a 2 y3) (tr2:=[([],[]),([0,1],[]),([],[]),([],[2,3,2,3,2,3]),([],[4,5]),([],[]),([0,1],[]),([],[6,7])]) (by kernel_rfl) (by kernel_rfl) (.cons (Le.refl _) (.cons (Le.nl _) .nil)) (d0o hy3) (by kernel_rfl) (kD 2 (kEN (kXp (by cases h7;exact kZ H D W))))
 ·refine kq (kBT 25 h1 (fun h8=> ?_) (fun h9=> ?_))
  ·refine kcX h8 (fun(s1:Unit)=>([(2, .ptr 0 0),(4, .nl),(5, .nl)],[.box (a0f x0)])) (fun y12 hy4 h10=> ?_) (fun s1 h11=> ?_)
   ·refine kcN hy4 (fun(s0:Bool)=>([(2, .ptr 0 0),(4, .nl),(5, .nl),(38, .bool s0)],[.box (a0f x0)])) (fun s0 hy5=> ?_) (fun s0 h12=> ?_)
    ·refine kDr (kD 3 (kB 29 hy5 (fun h13=> ?_) (fun h14=> ?_)))
     ·refine kD 2 ?_
      obtain⟨y4,hy6,h15⟩:=a0d h13
      refine kC0 (some 32) [([],[]),([0,1],[]),([],[]),([],[]),([0,1],[]),([],[2,3])] (f0o hy6) (kD 2 ?_)
      obtain⟨y5,hy7,h16⟩:=a0d h15
      exact kC0 (some 35) [([],[]),([0,1],[]),([],[]),([],[]),([0,1],[]),([],[2,3]),([],[]),([0,1],[]),([],[4,5])] (f0o hy7) (kD 3 (kE (kNW h16 D W [0])))
     ·exact kD 9 (kE (kNW h14 D W [0]))
    ·refine kBT 38 h12 (fun h17=> ?_) (fun h18=> ?_)
     ·refine kS (kDr (kD 2 ?_))
      obtain⟨y6,hy8,h19⟩:=a0d h17
      refine kC0 (some 41) [([],[]),([0,1],[]),([],[2,3])] (j0h hy8) (kD 2 ?_)
      obtain⟨y7,hy9,h20⟩:=a0d h19
      exact kC0 (some 44) [([],[]),([0,1],[]),([],[2,3]),([],[]),([0,1],[]),([],[4,5])] (j0h hy9) (kD 2 (kEN (kX (kCx h20 h10 (fun h21=>PJ.blockRet (PJ.passRet (by cases h21;exact kZ H D W)))))))
     ·exact kK (kXo h18 [2,4,5])
   ·refine kS (kDr (kD 3 (RJ.relZ (d:=(some 48)) (ef:=⟨.lst ([(⟨2,0⟩:a0c)]:List a0c).length 2 (([(⟨2,0⟩:a0c)]:List a0c).flatMap a0a),[],[(1, .vec ([(⟨2,0⟩:a0c)]:List a0c).length 2 107 (([(⟨2,0⟩:a0c)]:List a0c).flatMap a0a)),(1, .gone)]⟩) (ef':=⟨.lst ([(⟨2,0⟩:a0c)]:List a0c).length 2 (([(⟨2,0⟩:a0c)]:List a0c).flatMap a0a),[],[(1, .vec ([(⟨2,0⟩:a0c)]:List a0c).length 2 107 (([(⟨2,0⟩:a0c)]:List a0c).flatMap a0a)),(1, .gone)]⟩) (c:=true) (tr2:=[([],[]),([0,1],[]),([],[]),([],[2,3,2,3,2,3])]) (H2:=[.box (a0f x0), .gone, .res, .res]) (by kernel_rfl) rfl (fun hc=>rfl) (by kernel_rfl) ?_)))
    obtain⟨y8,hy10,h22⟩:=a0d h11
    refine kC0 (some 49) [([],[]),([0,1],[]),([],[]),([],[2,3,2,3,2,3]),([],[4,5])] (d0o hy10) (kD 2 ?_)
    obtain⟨y9,hy11,h23⟩:=a0d h22
    exact RJ.call0 (d:=(some 52)) (f:=171) (args:=[lsv a0a 2 x0.q_, .nl]) (v:=lsv a0a 2 y9) (tr2:=[([],[]),([0,1],[]),([],[]),([],[2,3,2,3,2,3]),([],[4,5]),([],[]),([0,1],[]),([],[6,7])]) (by kernel_rfl) (by kernel_rfl) (.cons (Le.refl _) (.cons (Le.nl _) .nil)) (d0o hy11) (by kernel_rfl) (kD 2 (kEN (kXp (by cases h23;exact kZ H D W))))
  ·refine kKn (kS (kDr (kD 2 ?_)))
   obtain⟨y10,hy12,h24⟩:=a0d h9
   refine RJ.call0 (d:=(some 55)) (f:=171) (args:=[lsv a0a 2 x0.r_, .nl]) (v:=lsv a0a 2 y10) (tr2:=[([],[]),([0,1],[]),([],[2,3])]) (by kernel_rfl) (by kernel_rfl) (.cons (Le.refl _) (.cons (Le.nl _) .nil)) (d0o hy12) (by kernel_rfl) (kD 2 ?_)
   obtain⟨y11,hy13,h25⟩:=a0d h24
   exact RJ.call0 (d:=(some 58)) (f:=171) (args:=[lsv a0a 2 x0.q_, .nl]) (v:=lsv a0a 2 y11) (tr2:=[([],[]),([0,1],[]),([],[2,3]),([],[]),([0,1],[]),([],[4,5])]) (by kernel_rfl) (by kernel_rfl) (.cons (Le.refl _) (.cons (Le.nl _) .nil)) (d0o hy13) (by kernel_rfl) (kD 2 (kEN (kX (by cases h25;exact kZ H D W))))
def e0d(x0:e0h)(x1:List Int):Option (Unit):=
 (some ())
theorem j0J {x0:e0h} {x1:List Int} {r:Unit} (h:e0d x0 x1=some r):SQ 173 [.agg (a0w x0),lR x1] [] (.mp 0) [.map [(iL 1, .vc 1),(iL 2, .vc 2),(iL 3, .vc 3),(iL 4,lR x1)],a0A (a0q .i32) 1 21 ([x0.l_]:List Int),a0A (a0q .i32) 1 21 ([x0.k_]:List Int),a0A (a0q .i32) 1 21 ([x0.j_]:List Int)]:=by
 refine kFn (fn:=Tryz.f173) (fun F H D W=> ?_)
 unfold e0d at h
 exact kq (kq (kX (by obtain rfl:=oi h;exact kRV [1,2,3,4] (.inr rfl) H D W)))
end Go.Proofs.YtcapcgbamehojaaGreatDoor
