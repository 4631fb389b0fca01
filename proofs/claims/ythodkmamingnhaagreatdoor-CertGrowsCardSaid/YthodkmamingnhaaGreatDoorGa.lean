import Derived.Test.YthodkmamingnhaaGreatDoorProg
import Derived.Test.YthodkmamingnhaaGreatDoorSc
import Derived.Shelf.Strings.Search1
import Derived.Shelf.Lays
import Derived.Lib.ItoaLen
set_option linter.all false
namespace Go.Proofs.YthodkmamingnhaaGreatDoor
open Go Go.Sy Go.RowKit
set_option maxRecDepth 100000
set_option maxHeartbeats 4000000
abbrev iL(x:Int):SV:= .int .i64 x
abbrev iM(x:Int):SV:= .int .i32 x
abbrev lB(x:List Int):SV:=lsv (a0s .u8) 1 x
abbrev lT(x:List (List UInt8)):SV:=lsv n0W 1 x
abbrev lI(x:List Int):SV:=lsv (a0s .i64) 1 x
abbrev lR(x:List Int):SV:=lsv (a0s .i32) 1 x
abbrev q12(a:List UInt8)(b0 b1 b2 b3 b4 b5 b6:Int)(c0 c1 c2 c3:List UInt8)(r:List SV):List SV:= .str a:: .int .i32 b0:: .int .i32 b1:: .int .i32 b2:: .int .i32 b3:: .int .i32 b4:: .int .i32 b5:: .int .i32 b6:: .str c0:: .str c1:: .str c2:: .str c3::r
def y0a:Nat->Option (List SV)
 |0=>some [.int .i32 48, .int .i32 1632, .int .i32 1776, .int .i32 1984, .int .i32 2406, .int .i32 2534, .int .i32 2662, .int .i32 2790, .int .i32 2918, .int .i32 3046, .int .i32 3174, .int .i32 3302, .int .i32 3430, .int .i32 3664, .int .i32 3792, .int .i32 3872, .int .i32 6112, .int .i32 6160, .int .i32 65296, .int .i32 120782]
 |2=>some [.int .u64 1, .int .u64 10, .int .u64 100, .int .u64 1000, .int .u64 10000, .int .u64 100000, .int .u64 1000000, .int .u64 10000000, .int .u64 100000000, .int .u64 1000000000, .int .u64 10000000000, .int .u64 100000000000, .int .u64 1000000000000, .int .u64 10000000000000, .int .u64 100000000000000, .int .u64 1000000000000000, .int .u64 10000000000000000, .int .u64 100000000000000000, .int .u64 1000000000000000000, .int .u64 10000000000000000000]
 |3=>some [.int .u8 0, .int .u8 1, .int .u8 28, .int .u8 2, .int .u8 29, .int .u8 14, .int .u8 24, .int .u8 3, .int .u8 30, .int .u8 22, .int .u8 20, .int .u8 15, .int .u8 25, .int .u8 17, .int .u8 4, .int .u8 8, .int .u8 31, .int .u8 27, .int .u8 13, .int .u8 23, .int .u8 21, .int .u8 19, .int .u8 16, .int .u8 7, .int .u8 26, .int .u8 12, .int .u8 18, .int .u8 6, .int .u8 11, .int .u8 5, .int .u8 10, .int .u8 9]
 |4=>some [.int .u8 0, .int .u8 1, .int .u8 56, .int .u8 2, .int .u8 57, .int .u8 49, .int .u8 28, .int .u8 3, .int .u8 61, .int .u8 58, .int .u8 42, .int .u8 50, .int .u8 38, .int .u8 29, .int .u8 17, .int .u8 4, .int .u8 62, .int .u8 47, .int .u8 59, .int .u8 36, .int .u8 45, .int .u8 43, .int .u8 51, .int .u8 22, .int .u8 53, .int .u8 39, .int .u8 33, .int .u8 30, .int .u8 24, .int .u8 18, .int .u8 12, .int .u8 5, .int .u8 63, .int .u8 55, .int .u8 48, .int .u8 27, .int .u8 60, .int .u8 41, .int .u8 37, .int .u8 16, .int .u8 46, .int .u8 35, .int .u8 44, .int .u8 21, .int .u8 52, .int .u8 32, .int .u8 23, .int .u8 11, .int .u8 54, .int .u8 26, .int .u8 40, .int .u8 15, .int .u8 34, .int .u8 20, .int .u8 31, .int .u8 10, .int .u8 25, .int .u8 14, .int .u8 19, .int .u8 9, .int .u8 13, .int .u8 8, .int .u8 7, .int .u8 6]
 |_=>none
instance :Inhabited GT:=⟨⟨y0a⟩⟩
abbrev SQ:=SC Tryz.prog
abbrev mQ(a b c d:Int):Ent:= .map [(iM 45,iL a),(iM 43,iL b),(iM 37,iL c),(iM 164,iL d)]
abbrev zQ:SV:= .agg [.nl, .nl, .nl, .nl, .bool false,iL 0,iL 0,iL 0,iL 0,iL 0,iL 0,iL 0,iL 0,iL 0, .bool false,iM 0,iL 0]
theorem kC0 {F:Fr} {P:Program} {L:LE} {H:a0f} {Q:f0C} {m:Option Nat} {ops:Array Oper} {p:Nat} {tr:List (List Nat×List Nat)} {f:FuncId} {args:List SV} {v:SV} (d:Option Nat)(tr2:List (List Nat×List Nat))(hs:SC P f args [] v [])(k:RJ F P m ops (p+1) tr2 (f0d L d v) H Q)(h:h0d m ops p tr L []=some (d,f,args,tr2):=by kernel_rfl)(hr:SV.refsL 0 args=true:=by kernel_rfl)(hv:SV.refs 0 v=true:=by kernel_rfl):RJ F P m ops p tr L H Q:=RJ.call0 h hr (LeL.refl _) hs hv k
structure c0T where
 Y_:Int
 t_:Int
 r_:Int
 k_:Int
 j_:Int
 m_:Int
 b_:Int
 deriving Inhabited,DecidableEq
def a0d(x:c0T):List SV:=[.int .i32 x.Y_, .int .i32 x.t_, .int .i32 x.r_, .int .i32 x.k_, .int .i32 x.j_, .int .i32 x.m_, .int .i32 x.b_]
theorem A0p(x:c0T):(a0d x).length=7:=rfl
structure A0J where
 g_:List UInt8
 h_:List UInt8
 n_:List UInt8
 x_:List UInt8
 deriving Inhabited,DecidableEq
def p0x(x:A0J):List SV:=[.str x.g_, .str x.h_, .str x.n_, .str x.x_]
theorem A0o(x:A0J):(p0x x).length=4:=rfl
structure o0h where
 af_:Int
 ag_:List UInt8
 deriving Inhabited,DecidableEq
def c0d(x:o0h):List SV:=[.int .i64 x.af_, .str x.ag_]
theorem e0K(x:o0h):(c0d x).length=2:=rfl
structure o0J where
 V_:List UInt8
 l_:List UInt8
 aq_:Int
 deriving Inhabited,DecidableEq
def c0Q(x:o0J):List SV:=[.str x.V_, .str x.l_, .int .i64 x.aq_]
theorem i0n(x:o0J):(c0Q x).length=3:=rfl
structure l0b where
 ah_:Int
 af_:Int
 Z_:List UInt8
 deriving Inhabited,DecidableEq
def b0L(x:l0b):List SV:=[.int .i64 x.ah_, .int .i64 x.af_, .str x.Z_]
theorem c0o(x:l0b):(b0L x).length=3:=rfl
structure g0l where
 J_:List UInt8
 S_:c0T
 a_:A0J
 T_:List o0h
 i_:List o0J
 f_:List l0b
 deriving Inhabited,DecidableEq
def a0y(x:g0l):List SV:=[.str x.J_, .int .i32 x.S_.Y_, .int .i32 x.S_.t_, .int .i32 x.S_.r_, .int .i32 x.S_.k_, .int .i32 x.S_.j_, .int .i32 x.S_.m_, .int .i32 x.S_.b_, .str x.a_.g_, .str x.a_.h_, .str x.a_.n_, .str x.a_.x_,lsv c0d 2 x.T_,lsv c0Q 3 x.i_,lsv b0L 3 x.f_]
theorem A0n(x:g0l):(a0y x).length=15:=rfl
structure t0t where
 F_:Int
 ak_:Int
 V_:List UInt8
 l_:List Int
 ac_:Bool
 aj_:Bool
 j_:Bool
 deriving Inhabited,DecidableEq
def g0r(x:t0t):List SV:=[.int .i64 x.F_, .int .i64 x.ak_, .str x.V_,lsv (a0s .i32) 1 x.l_, .bool x.ac_, .bool x.aj_, .bool x.j_]
theorem A0m(x:t0t):(g0r x).length=7:=rfl
structure A0I where
 L_:g0l
 Q_:t0t
 N_:Int
 E_:Int
 ad_:Int
 deriving Inhabited,DecidableEq
def s0p(x:A0I):List SV:=[.str x.L_.J_, .int .i32 x.L_.S_.Y_, .int .i32 x.L_.S_.t_, .int .i32 x.L_.S_.r_, .int .i32 x.L_.S_.k_, .int .i32 x.L_.S_.j_, .int .i32 x.L_.S_.m_, .int .i32 x.L_.S_.b_, .str x.L_.a_.g_, .str x.L_.a_.h_, .str x.L_.a_.n_, .str x.L_.a_.x_,lsv c0d 2 x.L_.T_,lsv c0Q 3 x.L_.i_,lsv b0L 3 x.L_.f_, .int .i64 x.Q_.F_, .int .i64 x.Q_.ak_, .str x.Q_.V_,lsv (a0s .i32) 1 x.Q_.l_, .bool x.Q_.ac_, .bool x.Q_.aj_, .bool x.Q_.j_, .int .u16 x.N_, .int .u16 x.E_, .int .u8 x.ad_]
theorem A0l(x:A0I):(s0p x).length=25:=rfl
structure w0X where
 O_:Bool
 D_:List Int
 E_:Int
 deriving Inhabited,DecidableEq
def m0r(x:w0X):List SV:=[.bool x.O_,lsv (a0s .u8) 1 x.D_, .int .i64 x.E_]
theorem A0k(x:w0X):(m0r x).length=3:=rfl
def c0W(x0:g0l):Option (Bool):=
 (Option.bind (a0x (fun(s0:Int×Int)=>(bif(decide (s0.2<4))then(bif(decide (s0.2=0))then(some (.inl ((IntKind.wrap .i64 (s0.1+(x0.a_.g_.length:Int))),(IntKind.wrap .i64 (0+1)))))else(bif(decide (s0.2=1))then(some (.inl ((IntKind.wrap .i64 (s0.1+(x0.a_.h_.length:Int))),(IntKind.wrap .i64 (1+1)))))else(bif(decide (s0.2=2))then(some (.inl ((IntKind.wrap .i64 (s0.1+(x0.a_.n_.length:Int))),(IntKind.wrap .i64 (2+1)))))else(bif(decide (s0.2=3))then(some (.inl ((IntKind.wrap .i64 (s0.1+(x0.a_.x_.length:Int))),(IntKind.wrap .i64 (3+1)))))else none))))else(some (.inr s0.1)))) big ((x0.J_.length:Int),0)) fun(s4:Int)=>(Option.bind (Option.bind (bif(decide ((x0.T_.length:Int)>8))then(some true)else(bif(decide ((x0.i_.length:Int)>105))then(some true)else(some ((decide ((x0.f_.length:Int)>95)))))) fun(s5:Bool)=>(bif s5 then(some (.inr false))else(some (.inl ())))) (a0m fun(s9:Unit)=>(Option.bind (a0x (fun(s2:Int×Int)=>(bif(decide (s2.2<(x0.T_.length:Int)))then(bif inR s2.2 x0.T_.length then(some (.inl ((IntKind.wrap .i64 (s2.1+((((nth x0.T_ s2.2).ag_).length:Int)))),(IntKind.wrap .i64 (s2.2+1)))))else none)else(some (.inr s2.1)))) big (s4,0)) fun(s6:Int)=>(Option.bind (a0x (fun(s1:Int×Int)=>(bif(decide (s1.2<(x0.i_.length:Int)))then(bif inR s1.2 x0.i_.length then(bif inR s1.2 x0.i_.length then(some (.inl ((IntKind.wrap .i64 (((IntKind.wrap .i64 (s1.1+((((nth x0.i_ s1.2).V_).length:Int)))))+((((nth x0.i_ s1.2).l_).length:Int)))),(IntKind.wrap .i64 (s1.2+1)))))else none)else none)else(some (.inr s1.1)))) big (s6,0)) fun(s7:Int)=>(Option.bind (a0x (fun(s3:Int×Int)=>(bif(decide (s3.2<(x0.f_.length:Int)))then(bif inR s3.2 x0.f_.length then(some (.inl ((IntKind.wrap .i64 (s3.1+((((nth x0.f_ s3.2).Z_).length:Int)))),(IntKind.wrap .i64 (s3.2+1)))))else none)else(some (.inr s3.1)))) big (s7,0)) fun(s8:Int)=>(some (decide (s8<=6000)))))))))
theorem j0y {x0:g0l} {r:Bool} (h:c0W x0=some r):SQ 17 [.agg (a0y x0)] [] (.bool r) []:=by
 refine kFn (fn:=Tryz.f17) (λF D W V=> ?_)
 unfold c0W at h
 refine kq (kq (kcN h (fun(s4:Int)=>([(1, .ptr 0 0),(2, .bool false),(3,iL s4)],[.box (a0y x0)])) (λs4 hy0=> ?_) (λs4 h4=> ?_)))
 ·refine kq (kb 0 (kl (fun(s0:Int×Int)=>([(1, .ptr 0 0),(2, .bool false),(3,iL s0.1),(4,iL s0.2)],[.box (a0y x0)])) hy0 [1,2,3,4] (λs0 x72 hs0=>kS (kq (kBT 12 hs0 (λh0=> ?_) (λh5=> ?_))))))
  ·refine kKN (kS (kb 1 (km 3 ?_)))
   cases hb0:(decide (s0.2=0))
   ·have h1:=condF hb0 h0
    cases hb1:(decide (s0.2=1))
    ·have h2:=condF hb1 h1
     cases hb2:(decide (s0.2=2))
     ·have h3:=condF hb2 h2
      cases hb3:(decide (s0.2=3))
      have h6:=condF hb3 h3
      cases h6
      ·have h7:=condT hb3 h3
       exact RJ.pin 16 (kd:= .i64) (by kernel_rfl) (of_decide_eq_true hb3) (RJ.pin 4 (kd:= .i64) (by kernel_rfl) (of_decide_eq_true hb3) (ke 5 (PJ.blockNormal (PJ.next (kM (kLo h7 [1,2,3,4]))))))
     ·have h8:=condT hb2 h2
      exact RJ.pin 16 (kd:= .i64) (by kernel_rfl) (of_decide_eq_true hb2) (RJ.pin 4 (kd:= .i64) (by kernel_rfl) (of_decide_eq_true hb2) (ke 5 (PJ.blockNormal (PJ.next (kM (kLo h8 [1,2,3,4]))))))
    ·have h9:=condT hb1 h1
     exact RJ.pin 16 (kd:= .i64) (by kernel_rfl) (of_decide_eq_true hb1) (RJ.pin 4 (kd:= .i64) (by kernel_rfl) (of_decide_eq_true hb1) (ke 5 (PJ.blockNormal (PJ.next (kM (kLo h9 [1,2,3,4]))))))
   ·have h10:=condT hb0 h0
    exact RJ.pin 16 (kd:= .i64) (by kernel_rfl) (of_decide_eq_true hb0) (RJ.pin 4 (kd:= .i64) (by kernel_rfl) (of_decide_eq_true hb0) (ke 5 (PJ.blockNormal (PJ.next (kM (kLo h10 [1,2,3,4]))))))
  exact kEp 0 (kLx h5 (λh11=>PJ.blockOut (kNo h11 [1,2,3])))
 ·refine kcX h4 (fun(s9:Unit)=>([(1, .ptr 0 0),(2, .bool false),(3,iL s4)],[.box (a0y x0)])) (λy0 hy1 h12=> ?_) (λs9 h13=> ?_)
  exact kcN hy1 (fun(s5:Bool)=>([(1, .ptr 0 0),(2, .bool false),(3,iL s4),(37, .bool s5)],[.box (a0y x0)])) (λs5 hy2=>km 5 (kB 26 hy2 (λh15=>ke 11 (kNo h15 [1,2,3,37])) (λh16=>kc 6 (kB 32 h16 (λh17=>ke 5 (kNo h17 [1,2,3,37])) (λh18=>ke 5 (kNo h18 [1,2,3,37])))))) (λs5 h14=>kBT 37 h14 (λh19=>kq (kX (kCx h19 h12 (λh21=>by obtain rfl:=oi h21;exact kZ D W V)))) (λh20=>kK (kXo h20 [1,2,3])))
  ·refine kcN h13 (fun(s6:Int)=>([(1, .ptr 0 0),(2, .bool false),(3,iL s6)],[.box (a0y x0)])) (λs6 hy3=> ?_) (λs6 h22=> ?_)
   ·exact kq (kb 2 (kl (fun(s2:Int×Int)=>([(1, .ptr 0 0),(2, .bool false),(3,iL s2.1),(5,iL s2.2)],[.box (a0y x0)])) hy3 [1,2,3,5] (λs2 x177 hs1=>kS (kq (kBT 42 hs1 (λh23=>kKN (kS (kb 3 (km 4 (kIb 49 e0K h23 (λh25=>ke 5 (PJ.blockNormal (PJ.next (kM (kLo h25 [1,2,3,5])))))))))) (λh24=>kEp 2 (kLx h24 (λh26=>PJ.blockOut (kNo h26 [1,2,3])))))))))
   ·refine kcN h22 (fun(s7:Int)=>([(1, .ptr 0 0),(2, .bool false),(3,iL s7)],[.box (a0y x0)])) (λs7 hy4=> ?_) (λs7 h27=> ?_)
    ·refine kq (kb 4 (kl (fun(s1:Int×Int)=>([(1, .ptr 0 0),(2, .bool false),(3,iL s1.1),(6,iL s1.2)],[.box (a0y x0)])) hy4 [1,2,3,6] (λs1 x229 hs2=>kS (kq (kBT 58 hs2 (λh28=> ?_) (λh29=> ?_))))))
     ·refine kKN (kS (kb 5 (kDr (kD 4 ?_))))
      obtain⟨hm,h30⟩:=b0k h28
      refine kJ 65 (tr2:=[([],[]),([],[]),([0,1],[]),([],[]),([],[])]) i0n hm (kD 7 ?_)
      obtain⟨hm,h31⟩:=b0k h30
      exact kJ 73 (tr2:=[([],[]),([],[]),([0,1],[]),([],[]),([],[]),([],[]),([],[]),([],[]),([],[]),([],[]),([0,1],[]),([],[]),([],[])]) i0n hm (kD 5 (kE (PJ.blockNormal (PJ.next (kM (kLo h31 [1,2,3,6]))))))
     exact kEp 4 (kLx h29 (λh32=>PJ.blockOut (kNo h32 [1,2,3])))
    ·exact kcN h27 (fun(s8:Int)=>([(2, .bool false),(3,iL s8)],[])) (λs8 hy5=>kq (kb 6 (kl (fun(s3:Int×Int)=>([(1, .ptr 0 0),(2, .bool false),(3,iL s3.1),(7,iL s3.2)],[.box (a0y x0)])) hy5 [1,2,3,7] (λs3 x277 hs3=>kS (kq (kBT 82 hs3 (λh34=>kKN (kS (kb 7 (km 4 (kIb 89 c0o h34 (λh36=>ke 5 (PJ.blockNormal (PJ.next (kM (kLo h36 [1,2,3,7])))))))))) (λh35=>kEp 6 (kLx h35 (λh37=>PJ.blockOut (kNW h37 W V [])))))))))) (λs8 h33=>kq (kX (by cases h33;exact kZ D W V)))
def f0r(x0:w0X):Option (Bool):=
 (Option.bind (a0x (fun(s0:Int)=>(bif(decide (s0<(x0.D_.length:Int)))then(bif inR s0 x0.D_.length then(bif(decide ((nth x0.D_ s0)>9))then(some (.inr (.inr false)))else(some (.inl (IntKind.wrap .i64 (s0+1)))))else none)else(some (.inr (.inl ()))))) big 0) (a0m fun(s2:Unit)=>(bif(decide ((x0.D_.length:Int)=0))then(some (decide (x0.E_=0)))else(Option.bind (bif(decide ((x0.D_.length:Int)<=1000))then(bif inR 0 x0.D_.length then(bif(decide ((nth x0.D_ 0)>0))then(bif inR ((IntKind.wrap .i64 ((x0.D_.length:Int)-1))) x0.D_.length then(bif(decide (((nth x0.D_ ((IntKind.wrap .i64 ((x0.D_.length:Int)-1)))))>0))then(bif(decide (x0.E_≥(-1000)))then(some (decide (x0.E_<=1000)))else(some false))else(some false))else none)else(some false))else none)else(some false)) fun(s1:Bool)=>(some s1)))))
theorem j0F {x0:w0X} {r:Bool} (h:f0r x0=some r):SQ 43 [.agg (m0r x0)] [] (.bool r) []:=by
 refine kFn (fn:=Tryz.f43) (λF D W V=> ?_)
 unfold f0r at h
 exact kq (kq (kcX h (fun(s2:Unit)=>([(1, .ptr 0 0),(2, .bool false),(3,iL (x0.D_.length:Int))],[.box (m0r x0)])) (λy0 hy0 h0=>kq (kb 0 (kl (fun(s0:Int)=>([(1, .ptr 0 0),(2, .bool false),(3,iL (x0.D_.length:Int)),(4,iL s0)],[.box (m0r x0)])) hy0 [1,2,3,4] (λs0 x71 hs0=>kS (kq (kBT 10 hs0 (λh2=>kKN (kS (kb 1 (kn 3 (kIb 16 (a0r .u8) h2 (λh4=>kr 2 (kBT 18 h4 (λh5=>kq (kXp (kLx h5 (λh7=>PJ.blockRet (kCx h7 h0 (λh8=>by obtain rfl:=oi h8;exact kZ D W V)))))) (λh6=>kKn (kM (kLo h6 [1,2,3,4])))))))))) (λh3=>kEp 0 (kLx h3 (λh9=>PJ.blockOut (kXo h9 [1,2,3])))))))))) (λs2 h1=>kS (kq (kBT 20 h1 (λh10=>kq (kX (PJ.passRet (by cases h10;exact kZ D W V)))) (λh11=>kKN (kcN h11 (fun(s1:Bool)=>([(2, .bool s1)],[])) (λs1 hy1=>km 3 (kB 26 hy1 (λh13=>kc 2 (kIb 29 (a0r .u8) h13 (λh15=>kc 4 (kB 33 h15 (λh16=>kc 4 (kIb 38 (a0r .u8) h16 (λh18=>kc 4 (kB 42 h18 (λh19=>kc 5 (kB 47 h19 (λh21=>ke 5 (kNW h21 W V [])) (λh22=>ke 5 (kNW h22 W V [])))) (λh20=>ke 10 (kNW h20 W V [])))))) (λh17=>ke 19 (kNW h17 W V [])))))) (λh14=>ke 26 (kNW h14 W V [])))) (λs1 h12=>kX (by cases h12;exact kZ D W V)))))))))
def e0m(x0:w0X):Option (Bool):=
 (Option.bind (f0r x0) λy0=>(Option.bind (bif y0 then(bif(decide ((x0.D_.length:Int)<=40))then(bif(decide (x0.E_≥(-60)))then(some (decide (x0.E_<=60)))else(some false))else(some false))else(some false)) fun(s0:Bool)=>(some s0)))
theorem k0u {x0:w0X} {r:Bool} (h:e0m x0=some r):SQ 18 [.agg (m0r x0)] [] (.bool r) []:=by
 refine kFn (fn:=Tryz.f18) (λF D W V=> ?_)
 unfold e0m at h
 exact kq (kn 1 (kAb 5 h (λ_=>j0F) (λy0 h0=>kr 1 (kcN h0 (fun(s0:Bool)=>([(2, .bool s0)],[])) (λs0 hy0=>km 2 (kB 7 hy0 (λh2=>kc 6 (kB 13 h2 (λh4=>kc 5 (kB 18 h4 (λh6=>ke 5 (kNW h6 W V [])) (λh7=>ke 5 (kNW h7 W V [])))) (λh5=>ke 10 (kNW h5 W V [])))) (λh3=>ke 16 (kNW h3 W V [])))) (λs0 h1=>kX (by cases h1;exact kZ D W V))))))
def d0O(x0:List UInt8):Option (Bool):=
 (Option.bind (a0x (fun(s0:Int)=>(bif(decide (s0<(x0.length:Int)))then(Option.bind (bif inR s0 x0.length then(Option.bind (bif(decide (((((x0.getD (s0:Int).toNat 0).toNat:Nat):Int))<97))then(bif(decide (((((x0.getD (s0:Int).toNat 0).toNat:Nat):Int))<65))then(bif(decide (((((x0.getD (s0:Int).toNat 0).toNat:Nat):Int))<48))then(some ((decide (¬((((x0.getD (s0:Int).toNat 0).toNat:Nat):Int))=45))))else(bif(decide (((((x0.getD (s0:Int).toNat 0).toNat:Nat):Int))>57))then(some ((decide (¬((((x0.getD (s0:Int).toNat 0).toNat:Nat):Int))=45))))else(some false)))else(bif(decide (((((x0.getD (s0:Int).toNat 0).toNat:Nat):Int))>90))then(bif(decide (((((x0.getD (s0:Int).toNat 0).toNat:Nat):Int))<48))then(some ((decide (¬((((x0.getD (s0:Int).toNat 0).toNat:Nat):Int))=45))))else(bif(decide (((((x0.getD (s0:Int).toNat 0).toNat:Nat):Int))>57))then(some ((decide (¬((((x0.getD (s0:Int).toNat 0).toNat:Nat):Int))=45))))else(some false)))else(some false)))else(bif(decide (((((x0.getD (s0:Int).toNat 0).toNat:Nat):Int))>122))then(bif(decide (((((x0.getD (s0:Int).toNat 0).toNat:Nat):Int))<65))then(bif(decide (((((x0.getD (s0:Int).toNat 0).toNat:Nat):Int))<48))then(some ((decide (¬((((x0.getD (s0:Int).toNat 0).toNat:Nat):Int))=45))))else(bif(decide (((((x0.getD (s0:Int).toNat 0).toNat:Nat):Int))>57))then(some ((decide (¬((((x0.getD (s0:Int).toNat 0).toNat:Nat):Int))=45))))else(some false)))else(bif(decide (((((x0.getD (s0:Int).toNat 0).toNat:Nat):Int))>90))then(bif(decide (((((x0.getD (s0:Int).toNat 0).toNat:Nat):Int))<48))then(some ((decide (¬((((x0.getD (s0:Int).toNat 0).toNat:Nat):Int))=45))))else(bif(decide (((((x0.getD (s0:Int).toNat 0).toNat:Nat):Int))>57))then(some ((decide (¬((((x0.getD (s0:Int).toNat 0).toNat:Nat):Int))=45))))else(some false)))else(some false)))else(some false))) fun(s1:Bool)=>(bif s1 then(some (.inr (.inr (.inr false))))else(some (.inl ()))))else none) (a0m fun(s3:Unit)=>(some (.inl (IntKind.wrap .i64 (s0+1))))))else(some (.inr (.inl ()))))) big 0) (a0m fun(s4:Unit)=>(Option.bind (bif(decide ((x0.length:Int)≥1))then(some ((decide ((x0.length:Int)<=20))))else(some false)) fun(s2:Bool)=>(some s2))))
theorem k0O {x0:List UInt8} {r:Bool} (h:d0O x0=some r):SQ 81 [.str x0] [] (.bool r) []:=by
 refine kFn (fn:=Tryz.f81) (λF D W V=> ?_)
 unfold d0O at h
 exact kq (kcX h (fun(s4:Unit)=>([(0, .str x0),(2, .bool false)],[])) (λy0 hy0 h0=>kq (kb 0 (kl (fun(s0:Int)=>([(0, .str x0),(2, .bool false),(3,iL s0)],[])) hy0 [0,2,3] (λs0 x1031 hs0=>kS (kq (kBT 8 hs0 (λh2=>kKN (kcX h2 (fun(s3:Unit)=>([(0, .str x0),(2, .bool false),(3,iL s0)],[])) (λy1 hy1 h4=>kb 1 (kn 2 (kGb 13 hy1 (λh6=>kr 1 (kcN h6 (fun(s1:Bool)=>([(0, .str x0),(2, .bool false),(3,iL s0),(39, .bool s1)],[])) (λs1 hy2=>km 3 (kB 16 hy2 (λh8=>kc 7 (kB 23 h8 (λh10=>kc 8 (kB 31 h10 (λh12=>ke 8 (kNo h12 [0,2,3,39])) (λh13=>kc 5 (kB 36 h13 (λh14=>ke 3 (kNo h14 [0,2,3,39])) (λh15=>ke 3 (kNo h15 [0,2,3,39])))))) (λh11=>kc 5 (kB 28 h11 (λh16=>kc 3 (kB 31 h16 (λh18=>ke 8 (kNo h18 [0,2,3,39])) (λh19=>kc 5 (kB 36 h19 (λh20=>ke 3 (kNo h20 [0,2,3,39])) (λh21=>ke 3 (kNo h21 [0,2,3,39])))))) (λh17=>ke 11 (kNo h17 [0,2,3,39])))))) (λh9=>kc 4 (kB 20 h9 (λh22=>kc 3 (kB 23 h22 (λh24=>kc 8 (kB 31 h24 (λh26=>ke 8 (kNo h26 [0,2,3,39])) (λh27=>kc 5 (kB 36 h27 (λh28=>ke 3 (kNo h28 [0,2,3,39])) (λh29=>ke 3 (kNo h29 [0,2,3,39])))))) (λh25=>kc 5 (kB 28 h25 (λh30=>kc 3 (kB 31 h30 (λh32=>ke 8 (kNo h32 [0,2,3,39])) (λh33=>kc 5 (kB 36 h33 (λh34=>ke 3 (kNo h34 [0,2,3,39])) (λh35=>ke 3 (kNo h35 [0,2,3,39])))))) (λh31=>ke 11 (kNo h31 [0,2,3,39])))))) (λh23=>ke 19 (kNo h23 [0,2,3,39])))))) (λs1 h7=>kBT 39 h7 (λh36=>kq (kXb (kCx h36 h4 (λh38=>kLx h38 (λh39=>PJ.blockRet (kCx h39 h0 (λh40=>by obtain rfl:=oi h40;exact kZ D W V))))))) (λh37=>kKb (kXo h37 [0,2,3])))))))) (λs3 h5=>kM (kLo h5 [0,2,3])))) (λh3=>kEp 0 (kLx h3 (λh41=>PJ.blockOut (kXo h41 [0,2])))))))))) (λs4 h1=>kcN h1 (fun(s2:Bool)=>([(2, .bool s2)],[])) (λs2 hy3=>km 4 (kB 43 hy3 (λh43=>ke 5 (kNo h43 [2])) (λh44=>ke 5 (kNo h44 [2])))) (λs2 h42=>kX (by cases h42;exact kZ D W V))))
def b0p(x0:Int):Option (Bool):=
 (Option.bind (bif(decide ((IntKind.wrap .i64 x0)≥0))then(bif(decide ((IntKind.wrap .i64 x0)<55296))then(some true)else(bif(decide ((IntKind.wrap .i64 x0)>57343))then(some ((decide ((IntKind.wrap .i64 x0)<=1114111))))else(some false)))else(bif(decide ((IntKind.wrap .i64 x0)>57343))then(some ((decide ((IntKind.wrap .i64 x0)<=1114111))))else(some false))) fun(s0:Bool)=>(some s0))
theorem d0i {x0:Int} {r:Bool} (h:b0p x0=some r):SQ 205 [iM x0] [] (.bool r) []:=by
 refine kFn (fn:=Tryz.f205) (λF D W V=> ?_)
 unfold b0p at h
 exact kq (kq (kcN h (fun(s0:Bool)=>([(2, .bool s0)],[])) (λs0 hy0=>km 3 (kB 8 hy0 (λh1=>kc 4 (kB 12 h1 (λh3=>ke 8 (kNo h3 [2])) (λh4=>kc 3 (kB 15 h4 (λh5=>ke 5 (kNo h5 [2])) (λh6=>ke 5 (kNo h6 [2])))))) (λh2=>kc 7 (kB 15 h2 (λh7=>ke 5 (kNo h7 [2])) (λh8=>ke 5 (kNo h8 [2])))))) (λs0 h0=>kX (by cases h0;exact kZ D W V))))
def d0p(x0:Int):Option (Bool):=
 (Option.bind (bif(decide (x0=1564))then(some true)else(bif(decide (x0=8206))then(some true)else(bif(decide (x0=8207))then(some true)else(bif(decide (x0≥8234))then(bif(decide (x0<=8238))then(some true)else(bif(decide (x0≥8294))then(some (decide (x0<=8297)))else(some false)))else(bif(decide (x0≥8294))then(some (decide (x0<=8297)))else(some false)))))) fun(s0:Bool)=>(some s0))
theorem i0m {x0:Int} {r:Bool} (h:d0p x0=some r):SQ 206 [iL x0] [] (.bool r) []:=by
 refine kFn (fn:=Tryz.f206) (λF D W V=> ?_)
 unfold d0p at h
 exact kq (kcN h (fun(s0:Bool)=>([(2, .bool s0)],[])) (λs0 hy0=>km 3 (kB 5 hy0 (λh1=>ke 24 (kNo h1 [2])) (λh2=>kc 4 (kB 9 h2 (λh3=>ke 20 (kNo h3 [2])) (λh4=>kc 4 (kB 13 h4 (λh5=>ke 16 (kNo h5 [2])) (λh6=>kc 3 (kB 16 h6 (λh7=>kc 5 (kB 21 h7 (λh9=>ke 8 (kNo h9 [2])) (λh10=>kc 3 (kB 24 h10 (λh11=>ke 5 (kNo h11 [2])) (λh12=>ke 5 (kNo h12 [2])))))) (λh8=>kc 8 (kB 24 h8 (λh13=>ke 5 (kNo h13 [2])) (λh14=>ke 5 (kNo h14 [2])))))))))))) (λs0 h0=>kX (by cases h0;exact kZ D W V)))
def d0X(x0:Int):Option (Bool):=
 (Option.bind (bif(decide (x0=32))then(some true)else(bif(decide (x0=160))then(some true)else(bif(decide (x0=5760))then(some true)else(bif(decide (x0≥8192))then(bif(decide (x0<=8202))then(some true)else(bif(decide (x0=8232))then(some true)else(bif(decide (x0=8233))then(some true)else(bif(decide (x0=8239))then(some true)else(bif(decide (x0=8287))then(some true)else(some (decide (x0=12288))))))))else(bif(decide (x0=8232))then(some true)else(bif(decide (x0=8233))then(some true)else(bif(decide (x0=8239))then(some true)else(bif(decide (x0=8287))then(some true)else(some (decide (x0=12288))))))))))) fun(s0:Bool)=>(some s0))
theorem j0G {x0:Int} {r:Bool} (h:d0X x0=some r):SQ 207 [iL x0] [] (.bool r) []:=by
 refine kFn (fn:=Tryz.f207) (λF D W V=> ?_)
 unfold d0X at h
 exact kq (kcN h (fun(s0:Bool)=>([(2, .bool s0)],[])) (λs0 hy0=>km 3 (kB 5 hy0 (λh1=>ke 36 (kNo h1 [2])) (λh2=>kc 4 (kB 9 h2 (λh3=>ke 32 (kNo h3 [2])) (λh4=>kc 4 (kB 13 h4 (λh5=>ke 28 (kNo h5 [2])) (λh6=>kc 3 (kB 16 h6 (λh7=>kc 5 (kB 21 h7 (λh9=>ke 20 (kNo h9 [2])) (λh10=>kc 4 (kB 25 h10 (λh11=>ke 16 (kNo h11 [2])) (λh12=>kc 4 (kB 29 h12 (λh13=>ke 12 (kNo h13 [2])) (λh14=>kc 4 (kB 33 h14 (λh15=>ke 8 (kNo h15 [2])) (λh16=>kc 4 (kB 37 h16 (λh17=>ke 4 (kNo h17 [2])) (λh18=>ke 4 (kNo h18 [2])))))))))))) (λh8=>kc 9 (kB 25 h8 (λh19=>ke 16 (kNo h19 [2])) (λh20=>kc 4 (kB 29 h20 (λh21=>ke 12 (kNo h21 [2])) (λh22=>kc 4 (kB 33 h22 (λh23=>ke 8 (kNo h23 [2])) (λh24=>kc 4 (kB 37 h24 (λh25=>ke 4 (kNo h25 [2])) (λh26=>ke 4 (kNo h26 [2])))))))))))))))))) (λs0 h0=>kX (by cases h0;exact kZ D W V)))
def c0F:Option (List Int):=
 (some ([48,1632,1776,1984,2406,2534,2662,2790,2918,3046,3174,3302,3430,3664,3792,3872,6112,6160,65296,120782]:List Int))
theorem f0s {r:List Int} (h:c0F=some r):SQ 209 [] [] (lR r) []:=by
 refine kFn (fn:=Tryz.f209) (λF D W V=> ?_)
 unfold c0F at h
 exact kq (kq (kX (by obtain rfl:=oi h;exact PJ.wk (Wk.freeze 0 (n:=([48,1632,1776,1984,2406,2534,2662,2790,2918,3046,3174,3302,3430,3664,3792,3872,6112,6160,65296,120782]:List Int).length) (k:=1) (e:=21) (cs:=([48,1632,1776,1984,2406,2534,2662,2790,2918,3046,3174,3302,3430,3664,3792,3872,6112,6160,65296,120782]:List Int).flatMap (a0s .i32)) (by kernel_rfl)) (kZ D W V))))
def d0g(x0:Int):Option (Int×Bool):=
 (Option.bind c0F λy0=>(Option.bind (a0x (fun(s0:Int)=>(bif(decide (s0<(y0.length:Int)))then(Option.bind (a0x (fun(s1:Int)=>(bif(decide (s1<10))then(bif inR s0 y0.length then(bif(decide (((IntKind.wrap .i64 ((IntKind.wrap .i64 (nth y0 s0))+s1)))=(IntKind.wrap .i64 x0)))then(some (.inr (.inr (.inr (.inr (s1,true))))))else(some (.inl (IntKind.wrap .i64 (s1+1)))))else none)else(some (.inr (.inl ()))))) big 0) (a0m fun(s2:Unit)=>(some (.inl (IntKind.wrap .i64 (s0+1))))))else(some (.inr (.inl ()))))) big 0) (a0m fun(s3:Unit)=>(some (0,false)))))
theorem j0H {x0:Int} {r:Int×Bool} (h:d0g x0=some r):SQ 208 [iM x0] [] (.tup [iL r.1, .bool r.2]) []:=by
 refine kFn (fn:=Tryz.f208) (λF D W V=> ?_)
 unfold d0g at h
 exact kq (kSR (kAb 7 h (λ_=>f0s) (λy0 h0=>kr 1 (kcX h0 (fun(s3:Unit)=>([(2,iL 0),(3, .bool false)],[])) (λy1 hy0 h1=>kq (kb 0 (kl (fun(s0:Int)=>([(0,iM x0),(2,iL 0),(3, .bool false),(4,lR y0),(5,iL s0)],[])) hy0 [0,2,3,4,5] (λs0 x544 hs0=>kS (kq (kBT 11 hs0 (λh3=>kKN (kcX h3 (fun(s2:Unit)=>([(0,iM x0),(2,iL 0),(3, .bool false),(4,lR y0),(5,iL s0)],[])) (λy2 hy1 h5=>kb 1 (kq (kb 2 (kl (fun(s1:Int)=>([(0,iM x0),(2,iL 0),(3, .bool false),(4,lR y0),(5,iL s0),(6,iL s1)],[])) hy1 [0,2,3,4,5,6] (λs1 x633 hs1=>kS (kq (kBT 15 hs1 (λh7=>kKN (kS (kb 3 (kn 2 (kIb 20 (a0r .i32) h7 (λh9=>kr 7 (kBT 27 h9 (λh10=>kq (kXp (kLx h10 (λh12=>PJ.blockRet (PJ.blockRet (kCx h12 h5 (λh13=>kLx h13 (λh14=>PJ.blockRet (kCx h14 h1 (λh15=>by obtain rfl:=oi h15;exact kZ D W V)))))))))) (λh11=>kKn (kM (kLo h11 [0,2,3,4,5,6])))))))))) (λh8=>kEp 2 (kLx h8 (λh16=>PJ.blockOut (PJ.blockNormal (kXo h16 [0,2,3,4,5])))))))))))) (λs2 h6=>kM (kLo h6 [0,2,3,4,5])))) (λh4=>kEp 0 (kLx h4 (λh17=>PJ.blockOut (kXo h17 [2,3])))))))))) (λs3 h2=>kq (kX (by cases h2;exact kZ D W V)))))))
def c0s(x0:Int):Option (Int):=
 (Option.bind (b0p x0) λy3=>(Option.bind (d0p (IntKind.wrap .i64 x0)) λy2=>(Option.bind (d0X (IntKind.wrap .i64 x0)) λy0=>(Option.bind (d0g x0) λy1=>(bif(!y3)then(some 6)else(Option.bind (Option.bind (bif(decide ((IntKind.wrap .i64 x0)<32))then(some true)else(bif(decide ((IntKind.wrap .i64 x0)≥127))then(some ((decide ((IntKind.wrap .i64 x0)<=159))))else(some false))) fun(s0:Bool)=>(bif s0 then(some (.inr 1))else(some (.inl ())))) (a0m fun(s2:Unit)=>(bif y2 then(some 2)else(Option.bind (Option.bind (bif(decide ((IntKind.wrap .i64 x0)≥64976))then(bif(decide ((IntKind.wrap .i64 x0)<=65007))then(some true)else(some ((decide ((Int.tmod (IntKind.wrap .i64 x0) 65536)≥65534)))))else(some ((decide ((Int.tmod (IntKind.wrap .i64 x0) 65536)≥65534))))) fun(s1:Bool)=>(bif s1 then(some (.inr 3))else(some (.inl ())))) (a0m fun(s3:Unit)=>(bif y0 then(some 4)else(bif y1.2 then(some 5)else(some 0)))))))))))))
theorem d0Y {x0 r:Int} (h:c0s x0=some r):SQ 133 [iM x0] [] (iL r) []:=by
 refine kFn (fn:=Tryz.f133) (λF D W V=> ?_)
 unfold c0s at h
 exact kq (kq (kn 1 (kAb 12 h (λ_=>d0i) (λy3 h0=>kr 1 (kn 1 (kAb 14 h0 (λ_=>i0m) (λy2 h1=>kr 1 (kn 1 (kAb 16 h1 (λ_=>j0G) (λy0 h2=>kr 1 (kn 1 (kAb 19 h2 (λ_=>j0H) (λy1 h3=>kr 5 (kS (kq (kBT 23 h3 (λh4=>kq (kX (PJ.passRet (by cases h4;exact kZ D W V)))) (λh5=>kKN (kcX h5 (fun(s2:Unit)=>([(2,iL 0),(3,iL (IntKind.wrap .i64 x0)),(5, .bool y2),(6, .bool y0),(8, .bool y1.2)],[])) (λy4 hy0 h6=>kcN hy0 (fun(s0:Bool)=>([(2,iL 0),(3,iL (IntKind.wrap .i64 x0)),(5, .bool y2),(6, .bool y0),(8, .bool y1.2),(33, .bool s0)],[])) (λs0 hy1=>km 3 (kB 26 hy1 (λh9=>ke 7 (kNo h9 [2,3,5,6,8,33])) (λh10=>kc 3 (kB 29 h10 (λh11=>ke 4 (kNo h11 [2,3,5,6,8,33])) (λh12=>ke 4 (kNo h12 [2,3,5,6,8,33])))))) (λs0 h8=>kBT 33 h8 (λh13=>kq (kX (kCx h13 h6 (λh15=>by obtain rfl:=oi h15;exact kZ D W V)))) (λh14=>kK (kXo h14 [2,3,5,6,8])))) (λs2 h7=>kS (kq (kBT 34 h7 (λh16=>kq (kX (PJ.passRet (by cases h16;exact kZ D W V)))) (λh17=>kKN (kcX h17 (fun(s3:Unit)=>([(2,iL 0),(6, .bool y0),(8, .bool y1.2)],[])) (λy5 hy2 h18=>kcN hy2 (fun(s1:Bool)=>([(2,iL 0),(6, .bool y0),(8, .bool y1.2),(45, .bool s1)],[])) (λs1 hy3=>km 3 (kB 37 hy3 (λh21=>kc 4 (kB 41 h21 (λh23=>ke 4 (kNo h23 [2,6,8,45])) (λh24=>ke 4 (kNo h24 [2,6,8,45])))) (λh22=>ke 8 (kNo h22 [2,6,8,45])))) (λs1 h20=>kBT 45 h20 (λh25=>kq (kX (kCx h25 h18 (λh27=>by obtain rfl:=oi h27;exact kZ D W V)))) (λh26=>kK (kXo h26 [2,6,8])))) (λs3 h19=>kS (kq (kBT 46 h19 (λh28=>kq (kX (PJ.passRet (by cases h28;exact kZ D W V)))) (λh29=>kKN (kS (kq (kBT 47 h29 (λh30=>kq (kX (PJ.passRet (by cases h30;exact kZ D W V)))) (λh31=>kKN (kq (kX (by cases h31;exact kZ D W V))))))))))))))))))))))))))))))))))
def d0z(x0:Int):Option (Bool):=
 (Option.bind c0F λy0=>(Option.bind (a0x (fun(s0:Int)=>(bif(decide (s0<(y0.length:Int)))then(bif inR s0 y0.length then(bif(decide ((nth y0 s0)=x0))then(some (.inr (.inr true)))else(some (.inl (IntKind.wrap .i64 (s0+1)))))else none)else(some (.inr (.inl ()))))) big 0) (a0m fun(s1:Unit)=>(some false))))
theorem k0v {x0:Int} {r:Bool} (h:d0z x0=some r):SQ 134 [iM x0] [] (.bool r) []:=by
 refine kFn (fn:=Tryz.f134) (λF D W V=> ?_)
 unfold d0z at h
 exact kq (kSR (kAb 5 h (λ_=>f0s) (λy0 h0=>kr 1 (kcX h0 (fun(s1:Unit)=>([(2, .bool false)],[])) (λy1 hy0 h1=>kq (kb 0 (kl (fun(s0:Int)=>([(0,iM x0),(2, .bool false),(3,lR y0),(4,iL s0)],[])) hy0 [0,2,3,4] (λs0 x74 hs0=>kS (kq (kBT 9 hs0 (λh3=>kKN (kS (kb 1 (kn 2 (kIb 14 (a0r .i32) h3 (λh5=>kr 3 (kBT 17 h5 (λh6=>kq (kXp (kLx h6 (λh8=>PJ.blockRet (kCx h8 h1 (λh9=>by obtain rfl:=oi h9;exact kZ D W V)))))) (λh7=>kKn (kM (kLo h7 [0,2,3,4])))))))))) (λh4=>kEp 0 (kLx h4 (λh10=>PJ.blockOut (kXo h10 [2])))))))))) (λs1 h2=>kq (kX (by cases h2;exact kZ D W V)))))))
def d0t(x0:c0T):Option (Bool):=
 (Option.bind (a0x (fun(s0:Int)=>(bif(decide (s0<(([x0.t_,x0.r_,x0.k_,x0.j_,x0.m_,x0.b_]:List Int).length:Int)))then(Option.bind (bif inR s0 ([x0.t_,x0.r_,x0.k_,x0.j_,x0.m_,x0.b_]:List Int).length then(bif inR s0 ([x0.t_,x0.r_,x0.k_,x0.j_,x0.m_,x0.b_]:List Int).length then(Option.bind (c0s (nth ([x0.t_,x0.r_,x0.k_,x0.j_,x0.m_,x0.b_]:List Int) s0)) λy0=>(Option.bind (Option.bind (bif(decide (¬y0=0))then(some (decide (¬y0=4)))else(some false)) fun(s2:Bool)=>(bif s2 then(some (.inr (.inr (.inr (.inr false)))))else(some (.inl ())))) (a0m fun(s3:Unit)=>(a0x (fun(s1:Int)=>(bif(decide (s1<s0))then(bif inR s1 ([x0.t_,x0.r_,x0.k_,x0.j_,x0.m_,x0.b_]:List Int).length then(bif inR s1 ([x0.t_,x0.r_,x0.k_,x0.j_,x0.m_,x0.b_]:List Int).length then(bif inR s0 ([x0.t_,x0.r_,x0.k_,x0.j_,x0.m_,x0.b_]:List Int).length then(bif inR s0 ([x0.t_,x0.r_,x0.k_,x0.j_,x0.m_,x0.b_]:List Int).length then(bif(decide ((nth ([x0.t_,x0.r_,x0.k_,x0.j_,x0.m_,x0.b_]:List Int) s1)=(nth ([x0.t_,x0.r_,x0.k_,x0.j_,x0.m_,x0.b_]:List Int) s0)))then(some (.inr (.inr (.inr (.inr false)))))else(some (.inl (IntKind.wrap .i64 (s1+1)))))else none)else none)else none)else none)else(some (.inr (.inl ()))))) big 0))))else none)else none) (a0m fun(s4:Unit)=>(some (.inl (IntKind.wrap .i64 (s0+1))))))else(some (.inr (.inl ()))))) big 0) (a0m fun(s5:Unit)=>(Option.bind (d0z x0.Y_) λy1=>(some y1))))
theorem k0m {x0:c0T} {r:Bool} (h:d0t x0=some r):SQ 82 [.agg (a0d x0)] [] (.bool r) []:=by
 refine kFn (fn:=Tryz.f82) (λF D W V=> ?_)
 unfold d0t at h
 refine kq (kq (kcX h (fun(s5:Unit)=>([(1, .ptr 0 0),(2, .bool false)],[.box (a0d x0)])) (λy2 hy0 h0=> ?_) (λs5 h2=> ?_)))
 refine kq (kb 0 (kl (fun(s0:Int)=>([(1, .ptr 0 0),(2, .bool false),(3, .vc 1),(4,iL s0)],[.box (a0d x0),a0H (a0s .i32) 1 21 ([x0.t_,x0.r_,x0.k_,x0.j_,x0.m_,x0.b_]:List Int)])) hy0 [1,2,3,4] (λs0 x1111 hs0=>kS (kq (kBT 23 hs0 (λh3=> ?_) (λh4=> ?_))))))
 refine kKN (kcX h3 (fun(s4:Unit)=>([(1, .ptr 0 0),(2, .bool false),(3, .vc 1),(4,iL s0)],[.box (a0d x0),a0H (a0s .i32) 1 21 ([x0.t_,x0.r_,x0.k_,x0.j_,x0.m_,x0.b_]:List Int)])) (λy3 hy1 h1=> ?_) (λs4 h5=> ?_))
 refine kb 1 (kn 2 ?_)
 obtain⟨hm,h6⟩:=b0k hy1
 refine kQ 28 (.ptr 1 ((s0:Int).toNat*1)) [1] (tr2:=[]) hm ?_
 obtain⟨hm,h7⟩:=b0k h6
 refine RJ.rel (d:=(some 29)) (ef:=⟨(((([x0.t_,x0.r_,x0.k_,x0.j_,x0.m_,x0.b_]:List Int)).flatMap (a0s .i32)).drop ((s0:Int).toNat*1)).headD .undef,[1],[]⟩) (ef':=⟨iM (nth ([x0.t_,x0.r_,x0.k_,x0.j_,x0.m_,x0.b_]:List Int) s0),[1],[]⟩) (c:=Nat.blt ((s0:Int).toNat*1) (([x0.t_,x0.r_,x0.k_,x0.j_,x0.m_,x0.b_]:List Int).flatMap (a0s .i32)).length) (tr2:=[]) (H2:=[.box (a0d x0),a0H (a0s .i32) 1 21 ([x0.t_,x0.r_,x0.k_,x0.j_,x0.m_,x0.b_]:List Int)]) (by kernel_rfl) (h0p (a0r .i32) rfl hm) (λhc=>N.load1 (a0r .i32) (λ_=>rfl) hm) (by kernel_rfl) (kAb 30 h7 (λ_=>d0Y) (λy0 h8=>kr 1 (kcX h8 (fun(s3:Unit)=>([(1, .ptr 0 0),(2, .bool false),(3, .vc 1),(4,iL s0)],[.box (a0d x0),a0H (a0s .i32) 1 21 ([x0.t_,x0.r_,x0.k_,x0.j_,x0.m_,x0.b_]:List Int)])) (λy4 hy2 h9=> ?_) (λs3 h10=> ?_))))
 exact kcN hy2 (fun(s2:Bool)=>([(1, .ptr 0 0),(2, .bool false),(3, .vc 1),(4,iL s0),(36, .bool s2)],[.box (a0d x0),a0H (a0s .i32) 1 21 ([x0.t_,x0.r_,x0.k_,x0.j_,x0.m_,x0.b_]:List Int)])) (λs2 hy3=>km 3 (kB 33 hy3 (λh12=>ke 3 (kNo h12 [1,2,3,4,36])) (λh13=>ke 3 (kNo h13 [1,2,3,4,36])))) (λs2 h11=>kBT 36 h11 (λh14=>kq (kX (kCx h14 h9 (λh16=>PJ.blockRet (kCx h16 h1 (λh17=>kLx h17 (λh18=>PJ.blockRet (kCx h18 h0 (λh19=>by obtain rfl:=oi h19;exact kZ D W V))))))))) (λh15=>kK (kXo h15 [1,2,3,4])))
 refine kq (kb 2 (kl (fun(s1:Int)=>([(1, .ptr 0 0),(2, .bool false),(3, .vc 1),(4,iL s0),(6,iL s1)],[.box (a0d x0),a0H (a0s .i32) 1 21 ([x0.t_,x0.r_,x0.k_,x0.j_,x0.m_,x0.b_]:List Int)])) h10 [1,2,3,4,6] (λs1 x1311 hs1=>kS (kq (kBT 39 hs1 (λh20=> ?_) (λh21=> ?_))))))
 refine kKN (kS (kb 3 (kS (kDr (kD 2 ?_)))))
 obtain⟨hm,h22⟩:=b0k h20
 refine kQ 44 (.ptr 1 ((s1:Int).toNat*1)) [1] (tr2:=[([],[]),([],[]),([3],[])]) hm ?_
 obtain⟨hm,h23⟩:=b0k h22
 refine RJ.rel (d:=(some 45)) (ef:=⟨(((([x0.t_,x0.r_,x0.k_,x0.j_,x0.m_,x0.b_]:List Int)).flatMap (a0s .i32)).drop ((s1:Int).toNat*1)).headD .undef,[1],[]⟩) (ef':=⟨iM (nth ([x0.t_,x0.r_,x0.k_,x0.j_,x0.m_,x0.b_]:List Int) s1),[1],[]⟩) (c:=Nat.blt ((s1:Int).toNat*1) (([x0.t_,x0.r_,x0.k_,x0.j_,x0.m_,x0.b_]:List Int).flatMap (a0s .i32)).length) (tr2:=[([],[]),([],[]),([3],[]),([2,3],[])]) (H2:=[.box (a0d x0),a0H (a0s .i32) 1 21 ([x0.t_,x0.r_,x0.k_,x0.j_,x0.m_,x0.b_]:List Int)]) (by kernel_rfl) (h0p (a0r .i32) rfl hm) (λhc=>N.load1 (a0r .i32) (λ_=>rfl) hm) (by kernel_rfl) (kD 2 ?_)
 obtain⟨hm,h24⟩:=b0k h23
 refine kQ 48 (.ptr 1 ((s0:Int).toNat*1)) [1] (tr2:=[([],[]),([],[]),([3],[]),([2,3],[]),([],[]),([],[]),([3],[])]) hm ?_
 obtain⟨hm,h25⟩:=b0k h24
 exact RJ.rel (d:=(some 49)) (ef:=⟨(((([x0.t_,x0.r_,x0.k_,x0.j_,x0.m_,x0.b_]:List Int)).flatMap (a0s .i32)).drop ((s0:Int).toNat*1)).headD .undef,[1],[]⟩) (ef':=⟨iM (nth ([x0.t_,x0.r_,x0.k_,x0.j_,x0.m_,x0.b_]:List Int) s0),[1],[]⟩) (c:=Nat.blt ((s0:Int).toNat*1) (([x0.t_,x0.r_,x0.k_,x0.j_,x0.m_,x0.b_]:List Int).flatMap (a0s .i32)).length) (tr2:=[([],[]),([],[]),([3],[]),([2,3],[]),([],[]),([],[]),([3],[]),([2,3],[])]) (H2:=[.box (a0d x0),a0H (a0s .i32) 1 21 ([x0.t_,x0.r_,x0.k_,x0.j_,x0.m_,x0.b_]:List Int)]) (by kernel_rfl) (h0p (a0r .i32) rfl hm) (λhc=>N.load1 (a0r .i32) (λ_=>rfl) hm) (by kernel_rfl) (kD 1 (kEN (kBT 50 h25 (λh26=>kq (kXp (kLx h26 (λh28=>PJ.blockRet (PJ.blockRet (kCx h28 h1 (λh29=>kLx h29 (λh30=>PJ.blockRet (kCx h30 h0 (λh31=>by obtain rfl:=oi h31;exact kZ D W V)))))))))) (λh27=>kKn (kM (kLo h27 [1,2,3,4,6]))))))
 exact kEp 2 (kLx h21 (λh32=>PJ.blockOut (PJ.blockNormal (kXo h32 [1,2,3,4]))))
 exact kM (kLo h5 [1,2,3,4])
 exact kEp 0 (kLx h4 (λh33=>PJ.blockOut (kXW h33 W V [0])))
 exact kn 2 (kAb 53 h2 (λ_=>k0v) (λy1 h34=>kr 1 (kX (by cases h34;exact kZ D W V))))
structure a0c where
 ae_:Int
 R_:Int
 deriving Inhabited,DecidableEq
def a0a(x:a0c):List SV:=[.int .i64 x.ae_, .int .i32 x.R_]
theorem a0C(x:a0c):(a0a x).length=2:=rfl
structure a0j where
 c_:List a0c
 e_:List a0c
 A_:List a0c
 y_:List a0c
 O_:Bool
 I_:Int
 z_:Int
 v_:Int
 o_:Int
 p_:Int
 w_:Int
 s_:Int
 u_:Int
 b_:Int
 U_:Bool
 B_:Int
 P_:Int
 deriving Inhabited,DecidableEq
def a0b(x:a0j):List SV:=[lsv a0a 2 x.c_,lsv a0a 2 x.e_,lsv a0a 2 x.A_,lsv a0a 2 x.y_, .bool x.O_, .int .i64 x.I_, .int .i64 x.z_, .int .i64 x.v_, .int .i64 x.o_, .int .i64 x.p_, .int .i64 x.w_, .int .i64 x.s_, .int .i64 x.u_, .int .i64 x.b_, .bool x.U_, .int .i32 x.B_, .int .i64 x.P_]
theorem y0Y(x:a0j):(a0b x).length=17:=rfl
def b0C(x0:List Int)(x1 x2 x3:Int):Option (Int):=
 (bif(decide ((IntKind.wrap .i64 (x1+x2))≥(x0.length:Int)))then(some (-1))else(Option.bind (a0x (fun(s0:Int×Int)=>(bif(decide (s0.2<=x2))then(Option.bind (bif inR (IntKind.wrap .i64 (x1+s0.2)) x0.length then(Option.bind (Option.bind (bif(decide (((IntKind.wrap .i64 ((nth x0 (IntKind.wrap .i64 (x1+s0.2))))))<128))then(some true)else(some ((decide (((IntKind.wrap .i64 ((nth x0 (IntKind.wrap .i64 (x1+s0.2))))))>191))))) fun(s1:Bool)=>(bif s1 then(some (.inr (.inr (.inr (.inr (-1))))))else(some (.inl ())))) (a0m fun(s3:Unit)=>(some (.inl ()))))else none) (a0m fun(s4:Unit)=>(some (.inl ((IntKind.wrap .i64 (((IntKind.wrap .i64 ((IntKind.wrap .i64 (s0.1*64))+((IntKind.wrap .i64 ((nth x0 (IntKind.wrap .i64 (x1+s0.2)))))))))-128)),(IntKind.wrap .i64 (s0.2+1)))))))else(some (.inr (.inl s0.1))))) big (x3,1)) (a0m fun(s2:Int)=>(some s2))))
theorem e0h {x0:List Int} {x1 x2 x3 r:Int} (h:b0C x0 x1 x2 x3=some r):SQ 292 [lB x0,iL x1,iL x2,iL x3] [] (iL r) []:=by
 refine kFn (fn:=Tryz.f292) (λF D W V=> ?_)
 unfold b0C at h
 exact kq (kS (kq (kBT 16 h (λh0=>kq (kX (PJ.passRet (by cases h0;exact kZ D W V)))) (λh1=>kKN (kcX h1 (fun(s2:Int)=>([(3,iL s2),(8,iL 0)],[])) (λy0 hy0 h2=>kq (kb 0 (kl (fun(s0:Int×Int)=>([(0,lB x0),(1,iL x1),(2,iL x2),(3,iL s0.1),(8,iL 0),(9,iL s0.2)],[])) hy0 [0,1,2,3,8,9] (λs0 x504 hs0=>kS (kq (kBT 19 hs0 (λh4=>kKN (kcX h4 (fun(s4:Unit)=>([(0,lB x0),(1,iL x1),(2,iL x2),(3,iL ((IntKind.wrap .i64 (((IntKind.wrap .i64 ((IntKind.wrap .i64 (s0.1*64))+((IntKind.wrap .i64 ((nth x0 (IntKind.wrap .i64 (x1+s0.2)))))))))-128)))),(8,iL 0),(9,iL s0.2)],[])) (λy1 hy1 h6=>kb 1 (kn 4 (kIb 26 (a0r .u8) hy1 (λh8=>kr 3 (kcX h8 (fun(s3:Unit)=>([(0,lB x0),(1,iL x1),(2,iL x2),(3,iL s0.1),(8,iL 0),(9,iL s0.2),(10,iL ((IntKind.wrap .i64 ((nth x0 (IntKind.wrap .i64 (x1+s0.2)))))))],[])) (λy2 hy2 h9=>kcN hy2 (fun(s1:Bool)=>([(0,lB x0),(1,iL x1),(2,iL x2),(3,iL s0.1),(8,iL 0),(9,iL s0.2),(10,iL ((IntKind.wrap .i64 ((nth x0 (IntKind.wrap .i64 (x1+s0.2))))))),(34, .bool s1)],[])) (λs1 hy3=>km 3 (kB 31 hy3 (λh12=>ke 3 (kNo h12 [0,1,2,3,8,9,10,34])) (λh13=>ke 3 (kNo h13 [0,1,2,3,8,9,10,34])))) (λs1 h11=>kBT 34 h11 (λh14=>kq (kX (kCx h14 h9 (λh16=>PJ.blockRet (kCx h16 h6 (λh17=>kLx h17 (λh18=>PJ.blockRet (kCx h18 h2 (λh19=>by obtain rfl:=oi h19;exact kZ D W V))))))))) (λh15=>kK (kXo h15 [0,1,2,3,8,9,10])))) (λs3 h10=>kM (PJ.blockNormal (kXo h10 [0,1,2,3,8,9])))))))) (λs4 h7=>kM (kLo h7 [0,1,2,3,8,9])))) (λh5=>kEp 0 (kLx h5 (λh20=>PJ.blockOut (kXo h20 [3,8])))))))))) (λs2 h3=>kq (kX (by cases h3;exact kZ D W V))))))))
def d0P(x0:List Int)(x1:Int):Option (Int):=
 (bif inR x1 x0.length then(Option.bind (bif(decide ((IntKind.wrap .i64 (nth x0 x1))<128))then(some (IntKind.wrap .i64 (nth x0 x1)))else(some (-1))) fun(s3:Int)=>(Option.bind (Option.bind (bif(decide ((IntKind.wrap .i64 (nth x0 x1))≥192))then(some ((decide ((IntKind.wrap .i64 (nth x0 x1))<224))))else(some false)) fun(s4:Bool)=>(bif s4 then(Option.bind (b0C x0 x1 1 ((IntKind.wrap .i64 ((IntKind.wrap .i64 (nth x0 x1))-192)))) λy0=>(some (y0,128)))else(some (s3,0)))) fun(s1:Int×Int)=>(Option.bind (Option.bind (bif(decide ((IntKind.wrap .i64 (nth x0 x1))≥224))then(some ((decide ((IntKind.wrap .i64 (nth x0 x1))<240))))else(some false)) fun(s5:Bool)=>(bif s5 then(Option.bind (b0C x0 x1 2 ((IntKind.wrap .i64 ((IntKind.wrap .i64 (nth x0 x1))-224)))) λy1=>(some (y1,2048)))else(some (s1.1,s1.2)))) fun(s2:Int×Int)=>(Option.bind (Option.bind (bif(decide ((IntKind.wrap .i64 (nth x0 x1))≥240))then(some ((decide ((IntKind.wrap .i64 (nth x0 x1))<248))))else(some false)) fun(s6:Bool)=>(bif s6 then(Option.bind (b0C x0 x1 3 ((IntKind.wrap .i64 ((IntKind.wrap .i64 (nth x0 x1))-240)))) λy2=>(some (y2,65536)))else(some (s2.1,s2.2)))) fun(s0:Int×Int)=>(Option.bind (b0p (IntKind.wrap .i32 s0.1)) λy3=>(Option.bind (Option.bind (bif(decide (s0.1<s0.2))then(some true)else(some (!y3))) fun(s7:Bool)=>(bif s7 then(some (.inr (-1)))else(some (.inl ())))) (a0m fun(s8:Unit)=>(some s0.1))))))))else none)
theorem k0Q {x0:List Int} {x1 r:Int} (h:d0P x0 x1=some r):SQ 226 [lB x0,iL x1] [] (iL r) []:=by
 refine kFn (fn:=Tryz.f226) (λF D W V=> ?_)
 unfold d0P at h
 exact kq (kn 2 (kIb 11 (a0r .u8) h (λh0=>kr 3 (kq (kq (kcN h0 (fun(s3:Int)=>([(0,lB x0),(1,iL x1),(4,iL 0),(5,iL (IntKind.wrap .i64 (nth x0 x1))),(6,iL s3),(7,iL 0)],[])) (λs3 hy0=>kq (kBT 15 hy0 (λh2=>kM (kNo h2 [0,1,4,5,6,7])) (λh3=>kK (kNo h3 [0,1,4,5,6,7])))) (λs3 h1=>kcN h1 (fun(s1:Int×Int)=>([(0,lB x0),(1,iL x1),(4,iL 0),(5,iL (IntKind.wrap .i64 (nth x0 x1))),(6,iL s1.1),(7,iL s1.2)],[])) (λs1 hy1=>kcN hy1 (fun(s4:Bool)=>([(0,lB x0),(1,iL x1),(4,iL 0),(5,iL (IntKind.wrap .i64 (nth x0 x1))),(6,iL s3),(7,iL 0),(22, .bool s4)],[])) (λs4 hy2=>km 3 (kB 19 hy2 (λh6=>ke 3 (kNo h6 [0,1,4,5,6,7,22])) (λh7=>ke 3 (kNo h7 [0,1,4,5,6,7,22])))) (λs4 h5=>kBT 22 h5 (λh8=>kn 4 (kAb 27 h8 (λ_=>e0h) (λy0 h10=>kr 1 (kM (kNo h10 [0,1,4,5,6,7]))))) (λh9=>kK (kNo h9 [0,1,4,5,6,7])))) (λs1 h4=>kcN h4 (fun(s2:Int×Int)=>([(0,lB x0),(1,iL x1),(4,iL 0),(5,iL (IntKind.wrap .i64 (nth x0 x1))),(6,iL s2.1),(7,iL s2.2)],[])) (λs2 hy3=>kcN hy3 (fun(s5:Bool)=>([(0,lB x0),(1,iL x1),(4,iL 0),(5,iL (IntKind.wrap .i64 (nth x0 x1))),(6,iL s1.1),(7,iL s1.2),(33, .bool s5)],[])) (λs5 hy4=>km 3 (kB 30 hy4 (λh13=>ke 3 (kNo h13 [0,1,4,5,6,7,33])) (λh14=>ke 3 (kNo h14 [0,1,4,5,6,7,33])))) (λs5 h12=>kBT 33 h12 (λh15=>kn 4 (kAb 38 h15 (λ_=>e0h) (λy1 h17=>kr 1 (kM (kNo h17 [0,1,4,5,6,7]))))) (λh16=>kK (kNo h16 [0,1,4,5,6,7])))) (λs2 h11=>kcN h11 (fun(s0:Int×Int)=>([(4,iL 0),(6,iL s0.1),(7,iL s0.2)],[])) (λs0 hy5=>kcN hy5 (fun(s6:Bool)=>([(0,lB x0),(1,iL x1),(4,iL 0),(5,iL (IntKind.wrap .i64 (nth x0 x1))),(6,iL s2.1),(7,iL s2.2),(44, .bool s6)],[])) (λs6 hy6=>km 3 (kB 41 hy6 (λh20=>ke 3 (kNo h20 [0,1,4,5,6,7,44])) (λh21=>ke 3 (kNo h21 [0,1,4,5,6,7,44])))) (λs6 h19=>kBT 44 h19 (λh22=>kn 4 (kAb 49 h22 (λ_=>e0h) (λy2 h24=>kr 1 (kM (kNo h24 [4,6,7]))))) (λh23=>kK (kNo h23 [4,6,7])))) (λs0 h18=>kn 2 (kAb 52 h18 (λ_=>d0i) (λy3 h25=>kr 1 (kcX h25 (fun(s8:Unit)=>([(4,iL 0),(6,iL s0.1)],[])) (λy4 hy7 h26=>kcN hy7 (fun(s7:Bool)=>([(4,iL 0),(6,iL s0.1),(59, .bool s7)],[])) (λs7 hy8=>km 4 (kB 56 hy8 (λh29=>ke 3 (kNo h29 [4,6,59])) (λh30=>ke 3 (kNo h30 [4,6,59])))) (λs7 h28=>kBT 59 h28 (λh31=>kq (kX (kCx h31 h26 (λh33=>by obtain rfl:=oi h33;exact kZ D W V)))) (λh32=>kK (kXo h32 [4,6])))) (λs8 h27=>kq (kX (by cases h27;exact kZ D W V))))))))))))))))
def c0K(x0:Int):Option (Int):=
 (Option.bind (b0p x0) λy0=>(bif(!y0)then(some 0)else(bif(decide (x0<128))then(some 1)else(bif(decide (x0<2048))then(some 2)else(bif(decide (x0<65536))then(some 3)else(some 4))))))
theorem g0w {x0 r:Int} (h:c0K x0=some r):SQ 227 [iM x0] [] (iL r) []:=by
 refine kFn (fn:=Tryz.f227) (λF D W V=> ?_)
 unfold c0K at h
 exact kq (kn 1 (kAb 5 h (λ_=>d0i) (λy0 h0=>kr 1 (kS (kq (kBT 7 h0 (λh1=>kq (kX (PJ.passRet (by cases h1;exact kZ D W V)))) (λh2=>kKN (kS (kq (kBT 9 h2 (λh3=>kq (kX (PJ.passRet (by cases h3;exact kZ D W V)))) (λh4=>kKN (kS (kq (kBT 11 h4 (λh5=>kq (kX (PJ.passRet (by cases h5;exact kZ D W V)))) (λh6=>kKN (kS (kq (kBT 13 h6 (λh7=>kq (kX (PJ.passRet (by cases h7;exact kZ D W V)))) (λh8=>kKN (kq (kX (by cases h8;exact kZ D W V))))))))))))))))))))))
def b0q(x0:List Int):Option ((List Int)×Int×Int):=
 (Option.bind (a0x (fun(s0:Int×(List Int))=>(bif(decide (s0.1<(x0.length:Int)))then(Option.bind (d0P x0 s0.1) λy0=>(bif(decide (y0<0))then(some (.inr (.inr (([]:List Int),s0.1,3))))else(bif room (s0.2.length+([(IntKind.wrap .i32 y0)]:List Int).length)then(Option.bind (c0K (IntKind.wrap .i32 y0)) λy1=>(some (.inl ((IntKind.wrap .i64 (s0.1+y1)),(s0.2++([(IntKind.wrap .i32 y0)]:List Int))))))else none)))else(some (.inr (.inl s0.2))))) big (0,([]:List Int))) (a0m fun(s1:(List Int))=>(some (s1,0,0))))
theorem f0L {x0:List Int} {r:(List Int)×Int×Int} (h:b0q x0=some r):SQ 142 [lB x0] [] (.tup [lR r.1,iL r.2.1,iL r.2.2]) []:=by
 refine kFn (fn:=Tryz.f142) (λF D W V=> ?_)
 unfold b0q at h
 exact kq (kq (kq (kcX h (fun(s1:(List Int))=>([(2, .nl),(3,iL 0),(4,iL 0),(5, .vc 0)],[a0H (a0s .i32) 1 21 s1])) (λy2 hy0 h0=>kb 0 (J.wk (Wk.viv 5 1 21 (by kernel_rfl)) (kl (fun(s0:Int×(List Int))=>([(0,lB x0),(2, .nl),(3,iL 0),(4,iL 0),(5, .vc 0),(6,iL s0.1)],[a0H (a0s .i32) 1 21 s0.2])) hy0 [0,2,3,4,5,6] (λs0 x101 hs0=>kS (kq (kBT 11 hs0 (λh2=>kKN (kb 1 (kn 2 (kAb 14 h2 (λ_=>k0Q) (λy0 h4=>kr 1 (kS (kq (kBT 16 h4 (λh5=>kq (kX (PJ.passRet (PJ.blockRet (kLx h5 (λh7=>PJ.blockRet (kCx h7 h0 (λh8=>by obtain rfl:=oi h8;exact PJ.res (v1:= .tup [.nl,iL s0.1,iL 3]) (Le.tup (.cons (Le.nl _) (LeL.refl _))) (kZ D W V))))))))) (λh6=>kKN (kn 4 (kAp 22 0 2 1 21 [0,1] (a0s .i32) h6 (λh9=>kr 1 (km 3 (kAb 26 h9 (λ_=>g0w) (λy1 h10=>ke 2 (PJ.blockNormal (kLW h10 W V [2]))))))))))))))))) (λh3=>kEp 0 (kLx h3 (λh11=>PJ.blockOut (kXo h11 [2,3,4,5])))))))))) (λs1 h1=>kq (kX (by obtain rfl:=oi h1;exact PJ.wk (Wk.freeze 0 (n:=s1.length) (k:=1) (e:=21) (cs:=s1.flatMap (a0s .i32)) (by kernel_rfl)) (kZ D W V)))))))
def a0K(x0:List Int)(x1:Int):Option (Int):=
 (bif(decide (x1<(x0.length:Int)))then(bif inR x1 x0.length then(some (nth x0 x1))else none)else(some (-1)))
theorem a0N {x0:List Int} {x1 r:Int} (h:a0K x0 x1=some r):SQ 211 [lR x0,iL x1] [] (iM r) []:=by
 refine kFn (fn:=Tryz.f211) (λF D W V=> ?_)
 unfold a0K at h
 exact kq (kS (kq (kBT 8 h (λh0=>kn 2 (kIb 11 (a0r .i32) h0 (λh2=>kr 2 (kX (PJ.passRet (by cases h2;exact kZ D W V)))))) (λh1=>kKN (kq (kX (by cases h1;exact kZ D W V)))))))
def b0s(x0:a0j)(x1:List Int)(x2 x3:Int):Option (a0j×Int×Bool):=
 (Option.bind (Option.bind (bif(decide (x0.P_>0))then(some true)else(Option.bind (a0K x1 x2) λy0=>(some (decide (¬y0=42))))) fun(s0:Bool)=>(bif s0 then(some (.inr (x0,x2,true)))else(some (.inl ())))) (a0m fun(s1:Unit)=>(bif(decide ((IntKind.wrap .i64 (x2+1))≥(x1.length:Int)))then(some (x0,(IntKind.wrap .i64 (x2+1)),false))else(bif inR (IntKind.wrap .i64 (x2+1)) x1.length then(some ((⟨x0.c_,x0.e_,x0.A_,x0.y_,x0.O_,x0.I_,x0.z_,x0.v_,x0.o_,x0.p_,x0.w_,x0.s_,x0.u_,x0.b_,x0.U_,(nth x1 (IntKind.wrap .i64 (x2+1))),x3⟩:a0j),(IntKind.wrap .i64 (x2+2)),true))else none))))
theorem d0K {x0:a0j} {x1:List Int} {x2 x3:Int} {r:a0j×Int×Bool} (h:b0s x0 x1 x2 x3=some r):SQ 276 [.agg (a0b x0),lR x1,iL x2,iL x3] [] (.tup [.agg (a0b r.1),iL r.2.1, .bool r.2.2]) []:=by
 refine kFn (fn:=Tryz.f276) (λF D W V=> ?_)
 unfold b0s at h
 exact kq (kcX h (fun(s1:Unit)=>([(1,lR x1),(2,iL x2),(3,iL x3),(4, .ptr 0 0),(8, .ptr 1 0),(9,iL 0),(10, .bool false)],[.box (a0b x0), .box [.nl, .nl, .nl, .nl, .bool false,iL 0,iL 0,iL 0,iL 0,iL 0,iL 0,iL 0,iL 0,iL 0, .bool false,iM 0,iL 0]])) (λy1 hy0 h0=>kcN hy0 (fun(s0:Bool)=>([(1,lR x1),(2,iL x2),(3,iL x3),(4, .ptr 0 0),(8, .ptr 1 0),(9,iL 0),(10, .bool false),(19, .bool s0)],[.box (a0b x0), .box [.nl, .nl, .nl, .nl, .bool false,iL 0,iL 0,iL 0,iL 0,iL 0,iL 0,iL 0,iL 0,iL 0, .bool false,iM 0,iL 0]])) (λs0 hy1=>km 4 (kB 14 hy1 (λh3=>ke 5 (kNo h3 [1,2,3,4,8,9,10,19])) (λh4=>kc 2 (kAb 17 h4 (λ_=>a0N) (λy0 h5=>ke 2 (kNo h5 [1,2,3,4,8,9,10,19])))))) (λs0 h2=>kBT 19 h2 (λh6=>kq (kX (kCx h6 h0 (λh8=>by obtain rfl:=oi h8;exact kZ D W V)))) (λh7=>kK (kXo h7 [1,2,3,4,8,9,10])))) (λs1 h1=>kS (kq (kBT 26 h1 (λh9=>kq (kX (PJ.passRet (by cases h9;exact kZ D W V)))) (λh10=>kKN (kn 3 (kIb 33 (a0r .i32) h10 (λh11=>kr 3 (kq (kq (kX (by cases h11;exact kZ D W V))))))))))))
def c0m(x0:Int):Option (Int):=
 (bif(decide (x0=45))then(some 1)else(bif(decide (x0=43))then(some 2)else(bif(decide (x0=37))then(some 3)else(bif(decide (x0=164))then(some 4)else(some 0)))))
theorem k0r {x0 r:Int} (h:c0m x0=some r):SQ 339 [iM x0] [] (iL r) []:=by
 refine kFn (fn:=Tryz.f339) (λF D W V=> ?_)
 unfold c0m at h
 exact kq (kS (kq (kb 0 (kq (kBT 4 h (λh0=>kq (kXp (by cases h0;exact kZ D W V))) (λh1=>kq (kBT 6 h1 (λh2=>kq (kXp (by cases h2;exact kZ D W V))) (λh3=>kq (kBT 8 h3 (λh4=>kq (kXp (by cases h4;exact kZ D W V))) (λh5=>kq (kBT 10 h5 (λh6=>kq (kXp (by cases h6;exact kZ D W V))) (λh7=>kKn (kq (kX (by cases h7;exact kZ D W V)))))))))))))))
def c0c(x0:Int):Option (Bool):=
 (Option.bind (Option.bind (bif(decide (x0≥48))then(bif(decide (x0<=57))then(some true)else(some (decide (x0=164))))else(some (decide (x0=164)))) fun(s1:Bool)=>(bif s1 then(some (.inr true))else(some (.inl ())))) (a0m fun(s2:Unit)=>(Option.bind (a0x (fun(s0:Int)=>(bif(decide (s0<11))then(bif inR s0 ([35,64,44,46,59,42,37,45,43,39,69]:List UInt8).length then(bif(decide (((IntKind.wrap .i32 ((((([35,64,44,46,59,42,37,45,43,39,69]:List UInt8).getD (s0:Int).toNat 0).toNat:Nat):Int))))=x0))then(some (.inr (.inr true)))else(some (.inl (IntKind.wrap .i64 (s0+1)))))else none)else(some (.inr (.inl ()))))) big 0) (a0m fun(s3:Unit)=>(some false)))))
theorem f0q {x0:Int} {r:Bool} (h:c0c x0=some r):SQ 340 [iM x0] [] (.bool r) []:=by
 refine kFn (fn:=Tryz.f340) (λF D W V=> ?_)
 unfold c0c at h
 exact kq (kcX h (fun(s2:Unit)=>([(0,iM x0),(2, .bool false)],[])) (λy0 hy0 h0=>kcN hy0 (fun(s1:Bool)=>([(0,iM x0),(2, .bool false),(13, .bool s1)],[])) (λs1 hy1=>km 3 (kB 6 hy1 (λh3=>kc 4 (kB 10 h3 (λh5=>ke 3 (kNo h5 [0,2,13])) (λh6=>ke 3 (kNo h6 [0,2,13])))) (λh4=>ke 7 (kNo h4 [0,2,13])))) (λs1 h2=>kBT 13 h2 (λh7=>kq (kX (kCx h7 h0 (λh9=>by obtain rfl:=oi h9;exact kZ D W V)))) (λh8=>kK (kXo h8 [0,2])))) (λs2 h1=>kcX h1 (fun(s3:Unit)=>([(2, .bool false)],[])) (λy1 hy2 h10=>kq (kb 0 (kl (fun(s0:Int)=>([(0,iM x0),(2, .bool false),(3,iL s0)],[])) hy2 [0,2,3] (λs0 x118 hs0=>kS (kq (kBT 15 hs0 (λh12=>kKN (kS (kb 1 (kn 1 (kGb 19 h12 (λh14=>kr 3 (kBT 22 h14 (λh15=>kq (kXp (kLx h15 (λh17=>PJ.blockRet (kCx h17 h10 (λh18=>by obtain rfl:=oi h18;exact kZ D W V)))))) (λh16=>kKn (kM (kLo h16 [0,2,3])))))))))) (λh13=>kEp 0 (kLx h13 (λh19=>PJ.blockOut (kXo h19 [2])))))))))) (λs3 h11=>kq (kX (by cases h11;exact kZ D W V)))))
def a0w(x0:List Int)(x1:Int):Option ((List a0c)×Int×Bool):=
 (Option.bind (a0x (fun(s0:Int×(List a0c))=>(bif(decide (s0.1<(x0.length:Int)))then(bif inR s0.1 x0.length then(Option.bind (c0m (nth x0 s0.1)) λy0=>(Option.bind (c0c (nth x0 s0.1)) λy1=>(bif(decide (y0>0))then(bif room (s0.2.length+([(⟨y0,0⟩:a0c)]:List a0c).length)then(some (.inl ((IntKind.wrap .i64 (s0.1+1)),(s0.2++([(⟨y0,0⟩:a0c)]:List a0c)))))else none)else(bif(decide (¬(nth x0 s0.1)=39))then(bif y1 then(some (.inr (.inr (s0.2,s0.1,true))))else(bif room (s0.2.length+(([(⟨0,(nth x0 s0.1)⟩:a0c)]:List a0c)).length)then(some (.inl ((IntKind.wrap .i64 (s0.1+1)),(s0.2++(([(⟨0,(nth x0 s0.1)⟩:a0c)]:List a0c))))))else none))else(Option.bind (a0K x0 (IntKind.wrap .i64 (s0.1+1))) λy2=>(bif(decide (y2=39))then(bif room (s0.2.length+([(⟨0,39⟩:a0c)]:List a0c).length)then(some (.inl ((IntKind.wrap .i64 (s0.1+2)),(s0.2++([(⟨0,39⟩:a0c)]:List a0c)))))else none)else(Option.bind (a0x (fun(s1:Int×(List a0c))=>(Option.bind (Option.bind (bif(decide (s1.1<(x0.length:Int)))then(bif inR s1.1 x0.length then(bif(decide (¬(nth x0 s1.1)=39))then(some true)else(Option.bind (a0K x0 (IntKind.wrap .i64 (s1.1+1))) λy3=>(some (decide (y3=39)))))else none)else(some false)) fun(s4:Bool)=>(bif s4 then(some (.inl ()))else(some (.inr (.inr (s1.1,s1.2)))))) (a0m fun(s6:Unit)=>(bif inR s1.1 x0.length then(bif room (s1.2.length+(([(⟨0,(nth x0 s1.1)⟩:a0c)]:List a0c)).length)then(Option.bind (bif inR s1.1 x0.length then(bif(decide ((nth x0 s1.1)=39))then(some (IntKind.wrap .i64 (s1.1+1)))else(some s1.1))else none) fun(s5:Int)=>(some (.inl ((IntKind.wrap .i64 (s5+1)),(s1.2++(([(⟨0,(nth x0 s1.1)⟩:a0c)]:List a0c)))))))else none)else none)))) big ((IntKind.wrap .i64 (s0.1+1)),s0.2)) fun(s2:Int×(List a0c))=>(bif(decide (s2.1≥(x0.length:Int)))then(some (.inr (.inr (([]:List a0c),s0.1,false))))else(some (.inl ((IntKind.wrap .i64 (s2.1+1)),s2.2)))))))))))else none)else(some (.inr (.inl (s0.1,s0.2)))))) big (x1,([]:List a0c))) (a0m fun(s3:Int×(List a0c))=>(some (s3.2,s3.1,true))))
theorem d0f {x0:List Int} {x1:Int} {r:(List a0c)×Int×Bool} (h:a0w x0 x1=some r):SQ 277 [lR x0,iL x1] [] (.tup [lsv a0a 2 r.1,iL r.2.1, .bool r.2.2]) []:=by
 refine kFn (fn:=Tryz.f277) (λF D W V=> ?_)
 unfold a0w at h
 exact kq (kq (kcX h (fun(s3:Int×(List a0c))=>([(1,iL s3.1),(4, .nl),(5,iL 0),(6, .bool false),(7, .vc 0)],[a0H a0a 2 225 s3.2])) (λy4 hy0 h0=>kb 0 (J.wk (Wk.viv 7 2 225 (by kernel_rfl)) (kl (fun(s0:Int×(List a0c))=>([(0,lR x0),(1,iL s0.1),(4, .nl),(5,iL 0),(6, .bool false),(7, .vc 0)],[a0H a0a 2 225 s0.2])) hy0 [0,1,4,5,6,7] (λs0 x2721 hs0=>kS (kq (kBT 15 hs0 (λh2=>kKN (kb 1 (kn 2 (kIb 18 (a0r .i32) h2 (λh4=>kr 2 (kn 1 (kAb 21 h4 (λ_=>k0r) (λy0 h5=>kr 1 (kn 1 (kAb 23 h5 (λ_=>f0q) (λy1 h6=>kr 1 (kS (kq (kBT 25 h6 (λh7=>kn 4 (kAp 30 0 2 2 225 [0,1] a0a h7 (λh9=>kr 1 (kq (kEp 1 (PJ.blockOut (kLW h9 W V [2]))))))) (λh8=>kKN (kS (kq (kBT 34 h8 (λh10=>kS (kq (kBT 35 h10 (λh12=>kq (kX (PJ.passRet (PJ.passRet (PJ.blockRet (kLx h12 (λh14=>PJ.blockRet (kCx h14 h0 (λh15=>by obtain rfl:=oi h15;exact PJ.wk (Wk.freeze 0 (n:=s0.2.length) (k:=2) (e:=225) (cs:=s0.2.flatMap a0a) (by kernel_rfl)) (kZ D W V)))))))))) (λh13=>kKN (kn 4 (kAp 42 0 2 2 225 [0,1] a0a h13 (λh16=>kr 1 (kq (kEp 1 (PJ.blockOut (kLW h16 W V [2]))))))))))) (λh11=>kKN (kS (kn 3 (kAb 48 h11 (λ_=>a0N) (λy2 h17=>kr 1 (kBT 49 h17 (λh18=>kn 3 (kAp 53 0 2 2 225 [0,1] a0a h18 (λh20=>kr 1 (kq (kEp 1 (PJ.blockOut (kLW h20 W V [2]))))))) (λh19=>kKN (kq (kq (kcN h19 (fun(s2:Int×(List a0c))=>([(0,lR x0),(1,iL s2.1),(4, .nl),(5,iL 0),(6, .bool false),(7, .vc 0),(11,iL s0.1)],[a0H a0a 2 225 s2.2])) (λs2 hy1=>kb 2 (kl (fun(s1:Int×(List a0c))=>([(0,lR x0),(1,iL s1.1),(4, .nl),(5,iL 0),(6, .bool false),(7, .vc 0),(11,iL s0.1)],[a0H a0a 2 225 s1.2])) hy1 [0,1,4,5,6,7,11] (λs1 x3173 hs1=>kcX hs1 (fun(s6:Unit)=>([(0,lR x0),(1,iL s1.1),(4, .nl),(5,iL 0),(6, .bool false),(7, .vc 0),(11,iL s0.1)],[a0H a0a 2 225 s1.2])) (λy5 hy2 h22=>kcN hy2 (fun(s4:Bool)=>([(0,lR x0),(1,iL s1.1),(4, .nl),(5,iL 0),(6, .bool false),(7, .vc 0),(11,iL s0.1),(76, .bool s4)],[a0H a0a 2 225 s1.2])) (λs4 hy3=>km 5 (kB 63 hy3 (λh25=>kc 2 (kIb 66 (a0r .i32) h25 (λh27=>kc 3 (kB 69 h27 (λh28=>ke 7 (kNo h28 [0,1,4,5,6,7,11,76])) (λh29=>kc 3 (kAb 73 h29 (λ_=>a0N) (λy3 h30=>ke 3 (kNo h30 [0,1,4,5,6,7,11,76])))))))) (λh26=>ke 13 (kNo h26 [0,1,4,5,6,7,11,76])))) (λs4 h24=>kBT 76 h24 (λh31=>kK (kXo h31 [0,1,4,5,6,7,11])) (λh32=>kEx 2 (kCx h32 h22 (λh33=>kLx h33 (λh34=>PJ.blockOut (kNo h34 [0,1,4,5,6,7,11]))))))) (λs6 h23=>kb 3 (kn 3 (kIb 80 (a0r .i32) h23 (λh35=>kc 3 (kAp 84 0 2 2 225 [0,1] a0a h35 (λh36=>kr 1 (kcN h36 (fun(s5:Int)=>([(0,lR x0),(1,iL s5),(4, .nl),(5,iL 0),(6, .bool false),(7, .vc 0),(11,iL s0.1)],[a0H a0a 2 225 ((s1.2++(([(⟨0,(nth x0 s1.1)⟩:a0c)]:List a0c))))])) (λs5 hy4=>kn 2 (kIb 87 (a0r .i32) hy4 (λh38=>kr 2 (kBT 89 h38 (λh39=>kM (kNW h39 W V [2])) (λh40=>kK (kNW h40 W V [2])))))) (λs5 h37=>kM (PJ.blockNormal (kLo h37 [0,1,4,5,6,7,11]))))))))))))) (λs2 h21=>kS (kq (kBT 97 h21 (λh41=>kq (kX (PJ.passRet (PJ.blockRet (kLx h41 (λh43=>PJ.blockRet (kCx h43 h0 (λh44=>by obtain rfl:=oi h44;exact PJ.res (v1:= .tup [.nl,iL s0.1, .bool false]) (Le.tup (.cons (Le.nl _) (LeL.refl _))) (kZ D W V))))))))) (λh42=>kKN (kM (PJ.blockNormal (kLo h42 [0,1,4,5,6,7]))))))))))))))))))))))))))))))))))) (λh3=>kEp 0 (kLx h3 (λh45=>PJ.blockOut (kXo h45 [1,4,5,6,7])))))))))) (λs3 h1=>kq (kX (by obtain rfl:=oi h1;exact PJ.wk (Wk.freeze 0 (n:=s3.2.length) (k:=2) (e:=225) (cs:=s3.2.flatMap a0a) (by kernel_rfl)) (kZ D W V))))))
def b0v(x0:List Int)(x1 x2:Int):Option (Int):=
 (Option.bind (a0x (fun(s0:Int)=>(Option.bind (a0K x0 (IntKind.wrap .i64 (x1+s0))) λy0=>(bif(decide (y0=x2))then(some (.inl (IntKind.wrap .i64 (s0+1))))else(some (.inr s0))))) big 0) fun(s1:Int)=>(some s1))
theorem c0E {x0:List Int} {x1 x2 r:Int} (h:b0v x0 x1 x2=some r):SQ 341 [lR x0,iL x1,iM x2] [] (iL r) []:=by
 refine kFn (fn:=Tryz.f341) (λF D W V=> ?_)
 unfold b0v at h
 exact kq (kq (kcN h (fun(s1:Int)=>([(6,iL 0),(7,iL s1)],[])) (λs1 hy0=>kb 0 (kl (fun(s0:Int)=>([(0,lR x0),(1,iL x1),(2,iM x2),(6,iL 0),(7,iL s0)],[])) hy0 [0,1,2,6,7] (λs0 x51 hs0=>kS (kn 4 (kAb 12 hs0 (λ_=>a0N) (λy0 h1=>kr 2 (kBT 14 h1 (λh2=>kKN (kb 1 (kM (PJ.blockNormal (kLo h2 [0,1,2,6,7]))))) (λh3=>kEp 0 (kLx h3 (λh4=>PJ.blockOut (kNo h4 [6,7]))))))))))) (λs1 h0=>kq (kX (by cases h0;exact kZ D W V)))))
def b0J(x0:a0j)(x1:List Int)(x2:Int):Option (a0j×Int×Bool):=
 (a0x (fun(s0:Int×Int×Int×Int×(List Int))=>(Option.bind (a0K x1 s0.1) λy0=>(Option.bind (a0K x1 (IntKind.wrap .i64 (s0.1+1))) λy1=>(Option.bind (Option.bind (bif(decide (y0=35))then(some (decide (s0.2.2.2.1=0)))else(some false)) fun(s3:Bool)=>(bif s3 then(some (.inr (.inl ((IntKind.wrap .i64 (s0.1+1)),(IntKind.wrap .i64 (s0.2.1+1)),(IntKind.wrap .i64 (s0.2.2.1+1)),s0.2.2.2.1,s0.2.2.2.2))))else(some (.inl ())))) (a0m fun(s6:Unit)=>(bif(decide (y0=48))then(some (.inl ((IntKind.wrap .i64 (s0.1+1)),(IntKind.wrap .i64 (s0.2.1+1)),s0.2.2.1,(IntKind.wrap .i64 (s0.2.2.2.1+1)),s0.2.2.2.2)))else(Option.bind (Option.bind (bif(decide (y0=44))then(bif(decide (s0.2.1>0))then(bif(decide (y1=48))then(some true)else(bif(decide (y1=35))then(some (decide (s0.2.2.2.1=0)))else(some false)))else(some false))else(some false)) fun(s4:Bool)=>(bif s4 then(Option.bind (Option.bind (bif(decide ((s0.2.2.2.2.length:Int)≥2))then(bif inR 1 s0.2.2.2.2.length then(bif inR 1 s0.2.2.2.2.length then(some ((decide (¬(nth s0.2.2.2.2 1)=s0.2.1))))else none)else none)else(some false)) fun(s5:Bool)=>(bif s5 then(some (.inr (.inr (.inr ((⟨x0.c_,x0.e_,x0.A_,x0.y_,x0.O_,s0.2.2.1,s0.2.2.2.1,x0.v_,x0.o_,x0.p_,x0.w_,x0.s_,x0.u_,x0.b_,x0.U_,x0.B_,x0.P_⟩:a0j),s0.1,false)))))else(some (.inl ())))) (a0m fun(s7:Unit)=>(bif room (s0.2.2.2.2.length+([s0.2.1]:List Int).length)then(some (.inr (.inl ((IntKind.wrap .i64 (s0.1+1)),0,s0.2.2.1,s0.2.2.2.1,(s0.2.2.2.2++([s0.2.1]:List Int))))))else none)))else(some (.inl ())))) (a0m fun(s8:Unit)=>(Option.bind (bif(decide ((s0.2.2.2.2.length:Int)=1))then(some (s0.2.1,s0.2.1))else(some (x0.p_,x0.w_))) fun(s1:Int×Int)=>(Option.bind (bif(decide ((s0.2.2.2.2.length:Int)>1))then(bif inR 1 s0.2.2.2.2.length then(bif inR 1 s0.2.2.2.2.length then(some (s0.2.1,(nth s0.2.2.2.2 1)))else none)else none)else(some (s1.1,s1.2))) fun(s2:Int×Int)=>(some (.inr ((⟨x0.c_,x0.e_,x0.A_,x0.y_,x0.O_,s0.2.2.1,s0.2.2.2.1,x0.v_,x0.o_,s2.1,s2.2,x0.s_,x0.u_,x0.b_,x0.U_,x0.B_,x0.P_⟩:a0j),s0.1,(decide ((IntKind.wrap .i64 (s0.2.2.1+s0.2.2.2.1))>0))))))))))))))) big (x2,0,x0.I_,x0.z_,([]:List Int)))
theorem i0S {x0:a0j} {x1:List Int} {x2:Int} {r:a0j×Int×Bool} (h:b0J x0 x1 x2=some r):SQ 342 [.agg (a0b x0),lR x1,iL x2] [] (.tup [.agg (a0b r.1),iL r.2.1, .bool r.2.2]) []:=by
 refine kFn (fn:=Tryz.f342) (λF D W V=> ?_)
 unfold b0J at h
 refine kq (kq (kq (kb 0 (J.wk (Wk.viv 9 1 3 (by kernel_rfl)) (kl (fun(s0:Int×Int×Int×Int×(List Int))=>([(1,lR x1),(2,iL s0.1),(3, .ptr 0 0),(6, .ptr 1 0),(7,iL 0),(8, .bool false),(9, .vc 2),(10,iL s0.2.1)],[.box [lsv a0a 2 x0.c_,lsv a0a 2 x0.e_,lsv a0a 2 x0.A_,lsv a0a 2 x0.y_, .bool x0.O_,iL s0.2.2.1,iL s0.2.2.2.1,iL x0.v_,iL x0.o_,iL x0.p_,iL x0.w_,iL x0.s_,iL x0.u_,iL x0.b_, .bool x0.U_,iM x0.B_,iL x0.P_], .box [.nl, .nl, .nl, .nl, .bool false,iL 0,iL 0,iL 0,iL 0,iL 0,iL 0,iL 0,iL 0,iL 0, .bool false,iM 0,iL 0],a0H (a0s .i64) 1 3 s0.2.2.2.2])) h [1,2,3,6,7,8,9,10] (λs0 x441 hs0=>kb 1 (kn 2 (kAb 15 hs0 (λ_=>a0N) (λy0 h1=>kr 1 (kn 3 (kAb 19 h1 (λ_=>a0N) (λy1 h2=>kr 1 (kcX h2 (fun(s6:Unit)=>([(1,lR x1),(2,iL s0.1),(3, .ptr 0 0),(6, .ptr 1 0),(7,iL 0),(8, .bool false),(9, .vc 2),(10,iL s0.2.1),(11,iM y0),(12,iM y1)],[.box [lsv a0a 2 x0.c_,lsv a0a 2 x0.e_,lsv a0a 2 x0.A_,lsv a0a 2 x0.y_, .bool x0.O_,iL s0.2.2.1,iL s0.2.2.2.1,iL x0.v_,iL x0.o_,iL x0.p_,iL x0.w_,iL x0.s_,iL x0.u_,iL x0.b_, .bool x0.U_,iM x0.B_,iL x0.P_], .box [.nl, .nl, .nl, .nl, .bool false,iL 0,iL 0,iL 0,iL 0,iL 0,iL 0,iL 0,iL 0,iL 0, .bool false,iM 0,iL 0],a0H (a0s .i64) 1 3 s0.2.2.2.2])) (λy2 hy0 h3=> ?_) (λs6 h4=> ?_))))))))))))))
 exact kcN hy0 (fun(s3:Bool)=>([(1,lR x1),(2,iL s0.1),(3, .ptr 0 0),(6, .ptr 1 0),(7,iL 0),(8, .bool false),(9, .vc 2),(10,iL s0.2.1),(11,iM y0),(12,iM y1),(26, .bool s3)],[.box [lsv a0a 2 x0.c_,lsv a0a 2 x0.e_,lsv a0a 2 x0.A_,lsv a0a 2 x0.y_, .bool x0.O_,iL s0.2.2.1,iL s0.2.2.2.1,iL x0.v_,iL x0.o_,iL x0.p_,iL x0.w_,iL x0.s_,iL x0.u_,iL x0.b_, .bool x0.U_,iM x0.B_,iL x0.P_], .box [.nl, .nl, .nl, .nl, .bool false,iL 0,iL 0,iL 0,iL 0,iL 0,iL 0,iL 0,iL 0,iL 0, .bool false,iM 0,iL 0],a0H (a0s .i64) 1 3 s0.2.2.2.2])) (λs3 hy1=>km 3 (kB 22 hy1 (λh6=>ke 4 (kNo h6 [1,2,3,6,7,8,9,10,11,12,26])) (λh7=>ke 4 (kNo h7 [1,2,3,6,7,8,9,10,11,12,26])))) (λs3 h5=>kBT 26 h5 (λh8=>kq (kq (kq (kEx 1 (kCx h8 h3 (λh10=>PJ.blockOut (kLo h10 [1,2,3,6,7,8,9,10]))))))) (λh9=>kK (kXo h9 [1,2,3,6,7,8,9,10,11,12])))
 refine kS (kq (kBT 36 h4 (λh11=> ?_) (λh12=> ?_)))
 exact kq (kq (kq (kEp 1 (PJ.blockOut (kLo h11 [1,2,3,6,7,8,9,10])))))
 refine kKN (kcX h12 (fun(s8:Unit)=>([(1,lR x1),(2,iL s0.1),(3, .ptr 0 0),(6, .ptr 1 0),(7,iL 0),(8, .bool false),(9, .vc 2),(10,iL s0.2.1)],[.box [lsv a0a 2 x0.c_,lsv a0a 2 x0.e_,lsv a0a 2 x0.A_,lsv a0a 2 x0.y_, .bool x0.O_,iL s0.2.2.1,iL s0.2.2.2.1,iL x0.v_,iL x0.o_,iL x0.p_,iL x0.w_,iL x0.s_,iL x0.u_,iL x0.b_, .bool x0.U_,iM x0.B_,iL x0.P_], .box [.nl, .nl, .nl, .nl, .bool false,iL 0,iL 0,iL 0,iL 0,iL 0,iL 0,iL 0,iL 0,iL 0, .bool false,iM 0,iL 0],a0H (a0s .i64) 1 3 s0.2.2.2.2])) (λy3 hy2 h0=> ?_) (λs8 h13=> ?_))
 refine kcN hy2 (fun(s4:Bool)=>([(1,lR x1),(2,iL s0.1),(3, .ptr 0 0),(6, .ptr 1 0),(7,iL 0),(8, .bool false),(9, .vc 2),(10,iL s0.2.1),(63, .bool s4)],[.box [lsv a0a 2 x0.c_,lsv a0a 2 x0.e_,lsv a0a 2 x0.A_,lsv a0a 2 x0.y_, .bool x0.O_,iL s0.2.2.1,iL s0.2.2.2.1,iL x0.v_,iL x0.o_,iL x0.p_,iL x0.w_,iL x0.s_,iL x0.u_,iL x0.b_, .bool x0.U_,iM x0.B_,iL x0.P_], .box [.nl, .nl, .nl, .nl, .bool false,iL 0,iL 0,iL 0,iL 0,iL 0,iL 0,iL 0,iL 0,iL 0, .bool false,iM 0,iL 0],a0H (a0s .i64) 1 3 s0.2.2.2.2])) (λs4 hy3=> ?_) (λs4 h14=> ?_)
 exact km 3 (kB 47 hy3 (λh15=>kc 4 (kB 51 h15 (λh17=>kc 3 (kB 54 h17 (λh19=>ke 9 (kNo h19 [1,2,3,6,7,8,9,10,63])) (λh20=>kc 3 (kB 57 h20 (λh21=>ke 6 (kNo h21 [1,2,3,6,7,8,9,10,63])) (λh22=>ke 6 (kNo h22 [1,2,3,6,7,8,9,10,63])))))) (λh18=>ke 12 (kNo h18 [1,2,3,6,7,8,9,10,63])))) (λh16=>ke 16 (kNo h16 [1,2,3,6,7,8,9,10,63])))
 refine kBT 63 h14 (λh23=> ?_) (λh24=> ?_)
 refine kcX h23 (fun(s7:Unit)=>([(1,lR x1),(2,iL s0.1),(3, .ptr 0 0),(6, .ptr 1 0),(7,iL 0),(8, .bool false),(9, .vc 2),(10,iL s0.2.1)],[.box [lsv a0a 2 x0.c_,lsv a0a 2 x0.e_,lsv a0a 2 x0.A_,lsv a0a 2 x0.y_, .bool x0.O_,iL s0.2.2.1,iL s0.2.2.2.1,iL x0.v_,iL x0.o_,iL x0.p_,iL x0.w_,iL x0.s_,iL x0.u_,iL x0.b_, .bool x0.U_,iM x0.B_,iL x0.P_], .box [.nl, .nl, .nl, .nl, .bool false,iL 0,iL 0,iL 0,iL 0,iL 0,iL 0,iL 0,iL 0,iL 0, .bool false,iM 0,iL 0],a0H (a0s .i64) 1 3 s0.2.2.2.2])) (λy4 hy4 h25=> ?_) (λs7 h26=> ?_)
 refine kcN hy4 (fun(s5:Bool)=>([(1,lR x1),(2,iL s0.1),(3, .ptr 0 0),(6, .ptr 1 0),(7,iL 0),(8, .bool false),(9, .vc 2),(10,iL s0.2.1),(73, .bool s5)],[.box [lsv a0a 2 x0.c_,lsv a0a 2 x0.e_,lsv a0a 2 x0.A_,lsv a0a 2 x0.y_, .bool x0.O_,iL s0.2.2.1,iL s0.2.2.2.1,iL x0.v_,iL x0.o_,iL x0.p_,iL x0.w_,iL x0.s_,iL x0.u_,iL x0.b_, .bool x0.U_,iM x0.B_,iL x0.P_], .box [.nl, .nl, .nl, .nl, .bool false,iL 0,iL 0,iL 0,iL 0,iL 0,iL 0,iL 0,iL 0,iL 0, .bool false,iM 0,iL 0],a0H (a0s .i64) 1 3 s0.2.2.2.2])) (λs5 hy5=> ?_) (λs5 h27=> ?_)
 refine km 4 (kB 67 hy5 (λh28=> ?_) (λh29=> ?_))
 refine kc 1 ?_
 obtain⟨hm,h30⟩:=b0k h28
 refine kQ 69 (.ptr 2 ((1:Int).toNat*1)) [2] (tr2:=[]) hm ?_
 obtain⟨hm,h31⟩:=b0k h30
 exact RJ.rel (d:=(some 70)) (ef:=⟨(((s0.2.2.2.2).flatMap (a0s .i64)).drop ((1:Int).toNat*1)).headD .undef,[2],[]⟩) (ef':=⟨iL (nth s0.2.2.2.2 1),[2],[]⟩) (c:=Nat.blt ((1:Int).toNat*1) (s0.2.2.2.2.flatMap (a0s .i64)).length) (tr2:=[]) (H2:=[.box [lsv a0a 2 x0.c_,lsv a0a 2 x0.e_,lsv a0a 2 x0.A_,lsv a0a 2 x0.y_, .bool x0.O_,iL s0.2.2.1,iL s0.2.2.2.1,iL x0.v_,iL x0.o_,iL x0.p_,iL x0.w_,iL x0.s_,iL x0.u_,iL x0.b_, .bool x0.U_,iM x0.B_,iL x0.P_], .box [.nl, .nl, .nl, .nl, .bool false,iL 0,iL 0,iL 0,iL 0,iL 0,iL 0,iL 0,iL 0,iL 0, .bool false,iM 0,iL 0],a0H (a0s .i64) 1 3 s0.2.2.2.2]) (by kernel_rfl) (h0p (a0r .i64) rfl hm) (λhc=>N.load1 (a0r .i64) (λ_=>rfl) hm) (by kernel_rfl) (ke 3 (kNo h31 [1,2,3,6,7,8,9,10,73]))
 exact ke 6 (kNo h29 [1,2,3,6,7,8,9,10,73])
 exact kBT 73 h27 (λh32=>kq (kX (kCx h32 h25 (λh34=>kCx h34 h0 (λh35=>PJ.blockRet (kLx h35 (λh36=>PJ.blockRet (by cases h36;exact kZ D W V)))))))) (λh33=>kK (kXo h33 [1,2,3,6,7,8,9,10]))
 exact kn 3 (kAp 79 2 4 1 3 [2,3] (a0s .i64) h26 (λh37=>kr 1 (kq (kq (kEx 1 (kCx h37 h0 (λh38=>PJ.blockOut (kLW h38 W V [0,1,4]))))))))
 exact kK (kXo h24 [1,2,3,6,7,8,9,10])
 refine kcN h13 (fun(s1:Int×Int)=>([(1,lR x1),(2,iL s0.1),(3, .ptr 0 0),(6, .ptr 1 0),(7,iL 0),(8, .bool false),(9, .vc 2),(10,iL s0.2.1)],[.box [lsv a0a 2 x0.c_,lsv a0a 2 x0.e_,lsv a0a 2 x0.A_,lsv a0a 2 x0.y_, .bool x0.O_,iL s0.2.2.1,iL s0.2.2.2.1,iL x0.v_,iL x0.o_,iL s1.1,iL s1.2,iL x0.s_,iL x0.u_,iL x0.b_, .bool x0.U_,iM x0.B_,iL x0.P_], .box [.nl, .nl, .nl, .nl, .bool false,iL 0,iL 0,iL 0,iL 0,iL 0,iL 0,iL 0,iL 0,iL 0, .bool false,iM 0,iL 0],a0H (a0s .i64) 1 3 s0.2.2.2.2])) (λs1 hy6=> ?_) (λs1 h39=> ?_)
 exact kq (kBT 84 hy6 (λh40=>kq (kM (kNo h40 [1,2,3,6,7,8,9,10]))) (λh41=>kK (kNo h41 [1,2,3,6,7,8,9,10])))
 refine kcN h39 (fun(s2:Int×Int)=>([(1,lR x1),(2,iL s0.1),(3, .ptr 0 0),(6, .ptr 1 0),(7,iL 0),(8, .bool false),(9, .vc 2),(10,iL s0.2.1)],[.box [lsv a0a 2 x0.c_,lsv a0a 2 x0.e_,lsv a0a 2 x0.A_,lsv a0a 2 x0.y_, .bool x0.O_,iL s0.2.2.1,iL s0.2.2.2.1,iL x0.v_,iL x0.o_,iL s2.1,iL s2.2,iL x0.s_,iL x0.u_,iL x0.b_, .bool x0.U_,iM x0.B_,iL x0.P_], .box [.nl, .nl, .nl, .nl, .bool false,iL 0,iL 0,iL 0,iL 0,iL 0,iL 0,iL 0,iL 0,iL 0, .bool false,iM 0,iL 0],a0H (a0s .i64) 1 3 s0.2.2.2.2])) (λs2 hy7=> ?_) (λs2 h42=> ?_)
 refine kq (kBT 91 hy7 (λh43=> ?_) (λh44=> ?_))
 refine kq (km 1 ?_)
 obtain⟨hm,h45⟩:=b0k h43
 refine kQ 95 (.ptr 2 ((1:Int).toNat*1)) [2] (tr2:=[]) hm ?_
 obtain⟨hm,h46⟩:=b0k h45
 exact RJ.rel (d:=(some 96)) (ef:=⟨(((s0.2.2.2.2).flatMap (a0s .i64)).drop ((1:Int).toNat*1)).headD .undef,[2],[]⟩) (ef':=⟨iL (nth s0.2.2.2.2 1),[2],[]⟩) (c:=Nat.blt ((1:Int).toNat*1) (s0.2.2.2.2.flatMap (a0s .i64)).length) (tr2:=[]) (H2:=[.box [lsv a0a 2 x0.c_,lsv a0a 2 x0.e_,lsv a0a 2 x0.A_,lsv a0a 2 x0.y_, .bool x0.O_,iL s0.2.2.1,iL s0.2.2.2.1,iL x0.v_,iL x0.o_,iL s0.2.1,iL s1.2,iL x0.s_,iL x0.u_,iL x0.b_, .bool x0.U_,iM x0.B_,iL x0.P_], .box [.nl, .nl, .nl, .nl, .bool false,iL 0,iL 0,iL 0,iL 0,iL 0,iL 0,iL 0,iL 0,iL 0, .bool false,iM 0,iL 0],a0H (a0s .i64) 1 3 s0.2.2.2.2]) (by kernel_rfl) (h0p (a0r .i64) rfl hm) (λhc=>N.load1 (a0r .i64) (λ_=>rfl) hm) (by kernel_rfl) (ke 2 (kNo h46 [1,2,3,6,7,8,9,10]))
 exact kK (kNo h44 [1,2,3,6,7,8,9,10])
 exact kS (kDr (kD 11 (kEN (kXb (kLx h42 (λh47=>PJ.blockRet (by cases h47;exact kZ D W V)))))))
def b0K(x0:a0j)(x1:List Int)(x2:Int):Option (a0j×Int×Bool):=
 (Option.bind (b0v x1 x2 64) λy2=>(Option.bind (bif(decide (y2>0))then(Option.bind (b0v x1 (IntKind.wrap .i64 (x2+y2)) 35) λy5=>(some (.inl ((IntKind.wrap .i64 ((IntKind.wrap .i64 (x2+y2))+y5)),x0.c_,x0.e_,x0.A_,x0.y_,x0.O_,x0.I_,x0.z_,x0.v_,x0.o_,x0.p_,x0.w_,y2,(IntKind.wrap .i64 (y2+y5)),x0.b_,x0.U_,x0.B_,x0.P_))))else(Option.bind (b0J x0 x1 x2) λy0=>(bif(!y0.2.2)then(some (.inr (x0,y0.2.1,false)))else(Option.bind (a0K x1 y0.2.1) λy6=>(bif(decide (y6=46))then(Option.bind (b0v x1 (IntKind.wrap .i64 (y0.2.1+1)) 48) λy1=>(Option.bind (b0v x1 ((IntKind.wrap .i64 ((IntKind.wrap .i64 (y0.2.1+1))+y1))) 35) λy3=>(bif(decide ((IntKind.wrap .i64 (y1+y3))=0))then(some (.inr ((⟨y0.1.c_,y0.1.e_,y0.1.A_,y0.1.y_,y0.1.O_,y0.1.I_,y0.1.z_,y1,(IntKind.wrap .i64 (y1+y3)),y0.1.p_,y0.1.w_,y0.1.s_,y0.1.u_,y0.1.b_,y0.1.U_,y0.1.B_,y0.1.P_⟩:a0j),(IntKind.wrap .i64 (((IntKind.wrap .i64 ((IntKind.wrap .i64 (y0.2.1+1))+y1)))+y3)),false)))else(some (.inl ((IntKind.wrap .i64 (((IntKind.wrap .i64 ((IntKind.wrap .i64 (y0.2.1+1))+y1)))+y3)),y0.1.c_,y0.1.e_,y0.1.A_,y0.1.y_,y0.1.O_,y0.1.I_,y0.1.z_,y1,(IntKind.wrap .i64 (y1+y3)),y0.1.p_,y0.1.w_,y0.1.s_,y0.1.u_,y0.1.b_,y0.1.U_,y0.1.B_,y0.1.P_))))))else(some (.inl (y0.2.1,y0.1.c_,y0.1.e_,y0.1.A_,y0.1.y_,y0.1.O_,y0.1.I_,y0.1.z_,y0.1.v_,y0.1.o_,y0.1.p_,y0.1.w_,y0.1.s_,y0.1.u_,y0.1.b_,y0.1.U_,y0.1.B_,y0.1.P_)))))))) (a0m fun(s0:Int×(List a0c)×(List a0c)×(List a0c)×(List a0c)×Bool×Int×Int×Int×Int×Int×Int×Int×Int×Int×Bool×Int×Int)=>(Option.bind (a0K x1 s0.1) λy7=>(bif(decide (¬y7=69))then(some ((⟨s0.2.1,s0.2.2.1,s0.2.2.2.1,s0.2.2.2.2.1,s0.2.2.2.2.2.1,s0.2.2.2.2.2.2.1,s0.2.2.2.2.2.2.2.1,s0.2.2.2.2.2.2.2.2.1,s0.2.2.2.2.2.2.2.2.2.1,s0.2.2.2.2.2.2.2.2.2.2.1,s0.2.2.2.2.2.2.2.2.2.2.2.1,s0.2.2.2.2.2.2.2.2.2.2.2.2.1,s0.2.2.2.2.2.2.2.2.2.2.2.2.2.1,s0.2.2.2.2.2.2.2.2.2.2.2.2.2.2.1,s0.2.2.2.2.2.2.2.2.2.2.2.2.2.2.2.1,s0.2.2.2.2.2.2.2.2.2.2.2.2.2.2.2.2.1,s0.2.2.2.2.2.2.2.2.2.2.2.2.2.2.2.2.2⟩:a0j),s0.1,true))else(Option.bind (Option.bind (a0K x1 (IntKind.wrap .i64 (s0.1+1))) λy8=>(bif(decide (y8=43))then(some ((IntKind.wrap .i64 ((IntKind.wrap .i64 (s0.1+1))+1)),true))else(some ((IntKind.wrap .i64 (s0.1+1)),s0.2.2.2.2.2.2.2.2.2.2.2.2.2.2.2.1)))) fun(s1:Int×Bool)=>(Option.bind (b0v x1 s1.1 48) λy4=>(some ((⟨s0.2.1,s0.2.2.1,s0.2.2.2.1,s0.2.2.2.2.1,s0.2.2.2.2.2.1,s0.2.2.2.2.2.2.1,s0.2.2.2.2.2.2.2.1,s0.2.2.2.2.2.2.2.2.1,s0.2.2.2.2.2.2.2.2.2.1,s0.2.2.2.2.2.2.2.2.2.2.1,s0.2.2.2.2.2.2.2.2.2.2.2.1,s0.2.2.2.2.2.2.2.2.2.2.2.2.1,s0.2.2.2.2.2.2.2.2.2.2.2.2.2.1,y4,s1.2,s0.2.2.2.2.2.2.2.2.2.2.2.2.2.2.2.2.1,s0.2.2.2.2.2.2.2.2.2.2.2.2.2.2.2.2.2⟩:a0j),(IntKind.wrap .i64 (s1.1+y4)),(decide (y4>0)))))))))))
theorem i0T {x0:a0j} {x1:List Int} {x2:Int} {r:a0j×Int×Bool} (h:b0K x0 x1 x2=some r):SQ 278 [.agg (a0b x0),lR x1,iL x2] [] (.tup [.agg (a0b r.1),iL r.2.1, .bool r.2.2]) []:=by
 refine kFn (fn:=Tryz.f278) (λF D W V=> ?_)
 unfold b0K at h
 exact kq (kn 2 (kAb 18 h (λ_=>c0E) (λy2 h1=>kr 1 (kcX h1 (fun(s0:Int×(List a0c)×(List a0c)×(List a0c)×(List a0c)×Bool×Int×Int×Int×Int×Int×Int×Int×Int×Int×Bool×Int×Int)=>([(1,lR x1),(2,iL s0.1),(3, .ptr 0 0),(6, .ptr 1 0),(7,iL 0),(8, .bool false)],[.box [lsv a0a 2 s0.2.1,lsv a0a 2 s0.2.2.1,lsv a0a 2 s0.2.2.2.1,lsv a0a 2 s0.2.2.2.2.1, .bool s0.2.2.2.2.2.1,iL s0.2.2.2.2.2.2.1,iL s0.2.2.2.2.2.2.2.1,iL s0.2.2.2.2.2.2.2.2.1,iL s0.2.2.2.2.2.2.2.2.2.1,iL s0.2.2.2.2.2.2.2.2.2.2.1,iL s0.2.2.2.2.2.2.2.2.2.2.2.1,iL s0.2.2.2.2.2.2.2.2.2.2.2.2.1,iL s0.2.2.2.2.2.2.2.2.2.2.2.2.2.1,iL s0.2.2.2.2.2.2.2.2.2.2.2.2.2.2.1, .bool s0.2.2.2.2.2.2.2.2.2.2.2.2.2.2.2.1,iM s0.2.2.2.2.2.2.2.2.2.2.2.2.2.2.2.2.1,iL s0.2.2.2.2.2.2.2.2.2.2.2.2.2.2.2.2.2], .box [.nl, .nl, .nl, .nl, .bool false,iL 0,iL 0,iL 0,iL 0,iL 0,iL 0,iL 0,iL 0,iL 0, .bool false,iM 0,iL 0]])) (λy9 hy0 h0=>kq (kBT 20 hy0 (λh3=>kn 4 (kAb 25 h3 (λ_=>c0E) (λy5 h5=>kr 1 (kq (kq (kM (kXo h5 [1,2,3,6,7,8]))))))) (λh4=>kn 3 (kAb 41 h4 (λ_=>i0S) (λy0 h6=>kr 8 (kS (kq (kBT 46 h6 (λh7=>kq (kX (PJ.passRet (kCx h7 h0 (λh9=>by obtain rfl:=oi h9;exact kZ D W V))))) (λh8=>kKN (kq (kq (kn 2 (kAb 53 h8 (λ_=>a0N) (λy6 h10=>kr 1 (kBT 54 h10 (λh11=>kn 3 (kAb 58 h11 (λ_=>c0E) (λy1 h13=>kr 1 (kn 5 (kAb 64 h13 (λ_=>c0E) (λy3 h14=>kr 1 (kq (kq (kq (kq (kBT 80 h14 (λh15=>kq (kX (kCx h15 h0 (λh17=>by obtain rfl:=oi h17;exact kZ D W V)))) (λh16=>kK (kXW h16 W V [0,1]))))))))))))) (λh12=>kK (kXW h12 W V [0,1]))))))))))))))))) (λs0 h2=>kS (kn 2 (kAb 85 h2 (λ_=>a0N) (λy7 h18=>kr 1 (kBT 86 h18 (λh19=>kq (kX (PJ.passRet (by cases h19;exact kZ D W V)))) (λh20=>kKN (kq (kcN h20 (fun(s1:Int×Bool)=>([(1,lR x1),(2,iL s1.1),(3, .ptr 0 0),(6, .ptr 1 0),(7,iL 0),(8, .bool false)],[.box [lsv a0a 2 s0.2.1,lsv a0a 2 s0.2.2.1,lsv a0a 2 s0.2.2.2.1,lsv a0a 2 s0.2.2.2.2.1, .bool s0.2.2.2.2.2.1,iL s0.2.2.2.2.2.2.1,iL s0.2.2.2.2.2.2.2.1,iL s0.2.2.2.2.2.2.2.2.1,iL s0.2.2.2.2.2.2.2.2.2.1,iL s0.2.2.2.2.2.2.2.2.2.2.1,iL s0.2.2.2.2.2.2.2.2.2.2.2.1,iL s0.2.2.2.2.2.2.2.2.2.2.2.2.1,iL s0.2.2.2.2.2.2.2.2.2.2.2.2.2.1,iL s0.2.2.2.2.2.2.2.2.2.2.2.2.2.2.1, .bool s1.2,iM s0.2.2.2.2.2.2.2.2.2.2.2.2.2.2.2.2.1,iL s0.2.2.2.2.2.2.2.2.2.2.2.2.2.2.2.2.2], .box [.nl, .nl, .nl, .nl, .bool false,iL 0,iL 0,iL 0,iL 0,iL 0,iL 0,iL 0,iL 0,iL 0, .bool false,iM 0,iL 0]])) (λs1 hy1=>kn 2 (kAb 93 hy1 (λ_=>a0N) (λy8 h22=>kr 1 (kBT 94 h22 (λh23=>kq (kM (kNo h23 [1,2,3,6,7,8]))) (λh24=>kK (kNo h24 [1,2,3,6,7,8])))))) (λs1 h21=>kn 2 (kAb 100 h21 (λ_=>c0E) (λy4 h25=>kr 2 (kS (kDr (kD 11 (kEN (kX (by cases h25;exact kZ D W V)))))))))))))))))))))
def b0h(x0:List Int):Option (a0j×Int×Int×Int×Bool):=
 (Option.bind (b0s (⟨([]:List a0c),([]:List a0c),([]:List a0c),([]:List a0c),false,0,0,0,0,0,0,0,0,0,false,0,0⟩:a0j) x0 0 1) λy0=>(bif(!y0.2.2)then(some (y0.1,0,0,y0.2.1,false))else(Option.bind (a0w x0 y0.2.1) λy2=>(bif(!y2.2.2)then(some (y0.1,0,0,y2.2.1,false))else(Option.bind (b0s (⟨y2.1,y0.1.e_,y0.1.A_,y0.1.y_,y0.1.O_,y0.1.I_,y0.1.z_,y0.1.v_,y0.1.o_,y0.1.p_,y0.1.w_,y0.1.s_,y0.1.u_,y0.1.b_,y0.1.U_,y0.1.B_,y0.1.P_⟩:a0j) x0 y2.2.1 2) λy3=>(bif(!y3.2.2)then(some ((⟨y2.1,y0.1.e_,y0.1.A_,y0.1.y_,y0.1.O_,y0.1.I_,y0.1.z_,y0.1.v_,y0.1.o_,y0.1.p_,y0.1.w_,y0.1.s_,y0.1.u_,y0.1.b_,y0.1.U_,y0.1.B_,y0.1.P_⟩:a0j),0,0,y3.2.1,false))else(Option.bind (b0K y3.1 x0 y3.2.1) λy4=>(bif(!y4.2.2)then(some ((⟨y2.1,y0.1.e_,y0.1.A_,y0.1.y_,y0.1.O_,y0.1.I_,y0.1.z_,y0.1.v_,y0.1.o_,y0.1.p_,y0.1.w_,y0.1.s_,y0.1.u_,y0.1.b_,y0.1.U_,y0.1.B_,y0.1.P_⟩:a0j),0,0,y4.2.1,false))else(Option.bind (b0s y4.1 x0 y4.2.1 3) λy1=>(bif(!y1.2.2)then(some ((⟨y2.1,y0.1.e_,y0.1.A_,y0.1.y_,y0.1.O_,y0.1.I_,y0.1.z_,y0.1.v_,y0.1.o_,y0.1.p_,y0.1.w_,y0.1.s_,y0.1.u_,y0.1.b_,y0.1.U_,y0.1.B_,y0.1.P_⟩:a0j),0,0,y1.2.1,false))else(Option.bind (a0w x0 y1.2.1) λy5=>(bif(!y5.2.2)then(some ((⟨y2.1,y0.1.e_,y0.1.A_,y0.1.y_,y0.1.O_,y0.1.I_,y0.1.z_,y0.1.v_,y0.1.o_,y0.1.p_,y0.1.w_,y0.1.s_,y0.1.u_,y0.1.b_,y0.1.U_,y0.1.B_,y0.1.P_⟩:a0j),0,0,y5.2.1,false))else(Option.bind (b0s (⟨y1.1.c_,y5.1,y1.1.A_,y1.1.y_,y1.1.O_,y1.1.I_,y1.1.z_,y1.1.v_,y1.1.o_,y1.1.p_,y1.1.w_,y1.1.s_,y1.1.u_,y1.1.b_,y1.1.U_,y1.1.B_,y1.1.P_⟩:a0j) x0 y5.2.1 4) λy6=>(some (y6.1,y3.2.1,y4.2.1,y6.2.1,y6.2.2)))))))))))))))
theorem j0E {x0:List Int} {r:a0j×Int×Int×Int×Bool} (h:b0h x0=some r):SQ 210 [lR x0] [] (.tup [.agg (a0b r.1),iL r.2.1,iL r.2.2.1,iL r.2.2.2.1, .bool r.2.2.2.2]) []:=by
 refine kFn (fn:=Tryz.f210) (λF D W V=> ?_)
 unfold b0h at h
 refine kq (kn 2 ?_)
 obtain⟨y0,hy0,h0⟩:=a0l h
 exact RJ.call0 (d:=(some 31)) (f:=276) (args:=[zQ,lR x0,iL 0,iL 1]) (v:= .tup [.agg (a0b y0.1),iL y0.2.1, .bool y0.2.2]) (tr2:=[]) (by kernel_rfl) (by kernel_rfl) (.cons (Le.agg (.cons (Le.nl _) (.cons (Le.nl _) (.cons (Le.nl _) (.cons (Le.nl _) (LeL.refl _)))))) (LeL.refl _)) (d0K hy0) (by kernel_rfl) (kr 8 (kS (kq (kBT 36 h0 (λh1=>kq (kX (PJ.passRet (by cases h1;exact kZ D W V)))) (λh2=>kKN (kn 2 (kAb 42 h2 (λ_=>d0f) (λy2 h3=>kr 7 (kS (kq (kBT 47 h3 (λh4=>kq (kX (PJ.passRet (by cases h4;exact kZ D W V)))) (λh5=>kKN (kq (kn 3 (kAb 56 h5 (λ_=>d0K) (λy3 h6=>kr 8 (kS (kq (kBT 61 h6 (λh7=>kq (kX (PJ.passRet (by cases h7;exact kZ D W V)))) (λh8=>kKN (kn 3 (kAb 68 h8 (λ_=>i0T) (λy4 h9=>kr 8 (kS (kq (kBT 73 h9 (λh10=>kq (kX (PJ.passRet (by cases h10;exact kZ D W V)))) (λh11=>kKN (kn 3 (kAb 80 h11 (λ_=>d0K) (λy1 h12=>kr 8 (kS (kq (kBT 85 h12 (λh13=>kq (kX (PJ.passRet (by cases h13;exact kZ D W V)))) (λh14=>kKN (kn 2 (kAb 91 h14 (λ_=>d0f) (λy5 h15=>kr 7 (kS (kq (kBT 96 h15 (λh16=>kq (kX (PJ.passRet (by cases h16;exact kZ D W V)))) (λh17=>kKN (kq (kn 3 (kAb 105 h17 (λ_=>d0K) (λy6 h18=>kr 8 (kq (kX (by cases h18;exact kZ D W V))))))))))))))))))))))))))))))))))))))))))))))))
def a0Y(x0:a0j)(x1:List Int)(x2 x3 x4:Int):Option (a0j×Int×Bool):=
 (Option.bind (a0w x1 x2) λy0=>(bif(!y0.2.2)then(some ((⟨x0.c_,x0.e_,x0.A_,x0.y_,true,x0.I_,x0.z_,x0.v_,x0.o_,x0.p_,x0.w_,x0.s_,x0.u_,x0.b_,x0.U_,x0.B_,x0.P_⟩:a0j),y0.2.1,false))else(Option.bind (a0x (fun(s0:Int×Int)=>(bif(decide (s0.2<x4))then(Option.bind (a0K x1 s0.1) λy2=>(bif inR s0.2 x1.length then(bif(decide (¬y2=(nth x1 s0.2)))then(some (.inr (.inr ((⟨x0.c_,x0.e_,y0.1,x0.y_,true,x0.I_,x0.z_,x0.v_,x0.o_,x0.p_,x0.w_,x0.s_,x0.u_,x0.b_,x0.U_,x0.B_,x0.P_⟩:a0j),s0.1,false))))else(some (.inl ((IntKind.wrap .i64 (s0.1+1)),(IntKind.wrap .i64 (s0.2+1))))))else none))else(some (.inr (.inl s0.1))))) big (y0.2.1,x3)) (a0m fun(s1:Int)=>(Option.bind (a0w x1 s1) λy1=>(some ((⟨x0.c_,x0.e_,y0.1,y1.1,true,x0.I_,x0.z_,x0.v_,x0.o_,x0.p_,x0.w_,x0.s_,x0.u_,x0.b_,x0.U_,x0.B_,x0.P_⟩:a0j),y1.2.1,y1.2.2)))))))
theorem i0R {x0:a0j} {x1:List Int} {x2 x3 x4:Int} {r:a0j×Int×Bool} (h:a0Y x0 x1 x2 x3 x4=some r):SQ 212 [.agg (a0b x0),lR x1,iL x2,iL x3,iL x4] [] (.tup [.agg (a0b r.1),iL r.2.1, .bool r.2.2]) []:=by
 refine kFn (fn:=Tryz.f212) (λF D W V=> ?_)
 unfold a0Y at h
 refine kq (kq (kn 2 (kAb 24 h (λ_=>d0f) (λy0 h0=>kr 7 (kS (kq (kBT 29 h0 (λh1=> ?_) (λh2=> ?_))))))))
 exact kq (kX (PJ.passRet (by cases h1;exact kZ D W V)))
 ·refine kKN (kq (kcX h2 (fun(s1:Int)=>([(1,lR x1),(5, .ptr 0 0),(10, .ptr 1 0),(11,iL 0),(12, .bool false),(14,iL s1)],[.box [lsv a0a 2 x0.c_,lsv a0a 2 x0.e_,lsv a0a 2 y0.1,lsv a0a 2 x0.y_, .bool true,iL x0.I_,iL x0.z_,iL x0.v_,iL x0.o_,iL x0.p_,iL x0.w_,iL x0.s_,iL x0.u_,iL x0.b_, .bool x0.U_,iM x0.B_,iL x0.P_], .box [.nl, .nl, .nl, .nl, .bool false,iL 0,iL 0,iL 0,iL 0,iL 0,iL 0,iL 0,iL 0,iL 0, .bool false,iM 0,iL 0]])) (λy3 hy0 h3=> ?_) (λs1 h4=> ?_)))
  ·refine kq (kb 0 (kl (fun(s0:Int×Int)=>([(1,lR x1),(4,iL x4),(5, .ptr 0 0),(10, .ptr 1 0),(11,iL 0),(12, .bool false),(14,iL s0.1),(16,iL s0.2)],[.box [lsv a0a 2 x0.c_,lsv a0a 2 x0.e_,lsv a0a 2 y0.1,lsv a0a 2 x0.y_, .bool true,iL x0.I_,iL x0.z_,iL x0.v_,iL x0.o_,iL x0.p_,iL x0.w_,iL x0.s_,iL x0.u_,iL x0.b_, .bool x0.U_,iM x0.B_,iL x0.P_], .box [.nl, .nl, .nl, .nl, .bool false,iL 0,iL 0,iL 0,iL 0,iL 0,iL 0,iL 0,iL 0,iL 0, .bool false,iM 0,iL 0]])) hy0 [1,4,5,10,11,12,14,16] (λs0 x92 hs0=>kS (kq (kBT 37 hs0 (λh5=> ?_) (λh6=> ?_))))))
   ·refine kKN (kS (kb 1 (kS (kS (kDr (kD 2 ?_))))))
    obtain⟨y2,hy1,h7⟩:=a0l h5
    refine kC0 (some 42) [([],[]),([],[]),([],[4,5])] (a0N hy1) (kD 2 ?_)
    obtain⟨hm,h8⟩:=b0k h7
    exact kJ 45 (tr2:=[([],[]),([],[]),([],[4,5]),([],[]),([],[]),([],[])]) (a0r .i32) hm (kD 2 (kEN (kBT 47 h8 (λh9=>kq (kX (PJ.passRet (PJ.blockRet (PJ.passRet (kLx h9 (λh11=>PJ.blockRet (kCx h11 h3 (λh12=>by obtain rfl:=oi h12;exact kZ D W V))))))))) (λh10=>kKN (kM (PJ.blockNormal (PJ.next (kM (kLW h10 W V [0,1])))))))))
   exact kEp 0 (kLx h6 (λh13=>PJ.blockOut (kXo h13 [1,5,10,11,12,14])))
  exact kn 2 (kAb 55 h4 (λ_=>d0f) (λy1 h14=>kr 7 (kq (kq (kX (by cases h14;exact kZ D W V))))))
def a0B(x0:List UInt8):Option (a0j×Int×Int):=
 (Option.bind (b0q (i0C x0)) λy2=>(bif(decide (¬y2.2.2=0))then(some ((⟨([]:List a0c),([]:List a0c),([]:List a0c),([]:List a0c),false,0,0,0,0,0,0,0,0,0,false,0,0⟩:a0j),y2.2.1,3))else(bif(decide ((y2.1.length:Int)>120))then(some ((⟨([]:List a0c),([]:List a0c),([]:List a0c),([]:List a0c),false,0,0,0,0,0,0,0,0,0,false,0,0⟩:a0j),0,11))else(Option.bind (b0h y2.1) λy0=>(Option.bind (Option.bind (bif y0.2.2.2.2 then(Option.bind (a0K y2.1 y0.2.2.2.1) λy3=>(some (decide (y3=59))))else(some false)) fun(s1:Bool)=>(bif s1 then(Option.bind (a0Y y0.1 y2.1 (IntKind.wrap .i64 (y0.2.2.2.1+1)) y0.2.1 y0.2.2.1) λy1=>(some (y1.2.1,y1.2.2,y1.1.c_,y1.1.e_,y1.1.A_,y1.1.y_,y1.1.O_,y1.1.I_,y1.1.z_,y1.1.v_,y1.1.o_,y1.1.p_,y1.1.w_,y1.1.s_,y1.1.u_,y1.1.b_,y1.1.U_,y1.1.B_,y1.1.P_)))else(some (y0.2.2.2.1,y0.2.2.2.2,y0.1.c_,y0.1.e_,y0.1.A_,y0.1.y_,y0.1.O_,y0.1.I_,y0.1.z_,y0.1.v_,y0.1.o_,y0.1.p_,y0.1.w_,y0.1.s_,y0.1.u_,y0.1.b_,y0.1.U_,y0.1.B_,y0.1.P_)))) fun(s0:Int×Bool×(List a0c)×(List a0c)×(List a0c)×(List a0c)×Bool×Int×Int×Int×Int×Int×Int×Int×Int×Int×Bool×Int×Int)=>(Option.bind (Option.bind (bif(!s0.2.1)then(some true)else(some ((decide (s0.1<(y2.1.length:Int)))))) fun(s2:Bool)=>(bif s2 then(some (.inr ((⟨([]:List a0c),([]:List a0c),([]:List a0c),([]:List a0c),false,0,0,0,0,0,0,0,0,0,false,0,0⟩:a0j),s0.1,2)))else(some (.inl ())))) (a0m fun(s4:Unit)=>(Option.bind (Option.bind (bif(decide ((IntKind.wrap .i64 (s0.2.2.2.2.2.2.2.1+s0.2.2.2.2.2.2.2.2.1))>40))then(some true)else(bif(decide (s0.2.2.2.2.2.2.2.2.2.2.1>40))then(some true)else(bif(decide (s0.2.2.2.2.2.2.2.2.2.2.2.2.2.2.1>40))then(some true)else(some (decide (s0.2.2.2.2.2.2.2.2.2.2.2.2.2.2.2.1>40)))))) fun(s3:Bool)=>(bif s3 then(some (.inr ((⟨([]:List a0c),([]:List a0c),([]:List a0c),([]:List a0c),false,0,0,0,0,0,0,0,0,0,false,0,0⟩:a0j),0,11)))else(some (.inl ())))) (a0m fun(s5:Unit)=>(some ((⟨s0.2.2.1,s0.2.2.2.1,s0.2.2.2.2.1,s0.2.2.2.2.2.1,s0.2.2.2.2.2.2.1,s0.2.2.2.2.2.2.2.1,s0.2.2.2.2.2.2.2.2.1,s0.2.2.2.2.2.2.2.2.2.1,s0.2.2.2.2.2.2.2.2.2.2.1,s0.2.2.2.2.2.2.2.2.2.2.2.1,s0.2.2.2.2.2.2.2.2.2.2.2.2.1,s0.2.2.2.2.2.2.2.2.2.2.2.2.2.1,s0.2.2.2.2.2.2.2.2.2.2.2.2.2.2.1,s0.2.2.2.2.2.2.2.2.2.2.2.2.2.2.2.1,s0.2.2.2.2.2.2.2.2.2.2.2.2.2.2.2.2.1,s0.2.2.2.2.2.2.2.2.2.2.2.2.2.2.2.2.2.1,s0.2.2.2.2.2.2.2.2.2.2.2.2.2.2.2.2.2.2⟩:a0j),0,0)))))))))))
theorem e0g {x0:List UInt8} {r:a0j×Int×Int} (h:a0B x0=some r):SQ 135 [.str x0] [] (.tup [.agg (a0b r.1),iL r.2.1,iL r.2.2]) []:=by
 refine kFn (fn:=Tryz.f135) (λF D W V=> ?_)
 unfold a0B at h
 exact kq (kn 1 (RJ.rel (d:=(some 18)) (ef:=⟨.lst x0.length 1 (x0.map l0H),[],[]⟩) (ef':=⟨lB (i0C x0),[],[]⟩) (c:=true) (tr2:=[]) (H2:=[.box [.nl, .nl, .nl, .nl, .bool false,iL 0,iL 0,iL 0,iL 0,iL 0,iL 0,iL 0,iL 0,iL 0, .bool false,iM 0,iL 0]]) (by kernel_rfl) rfl (λhc=>N.toBytes) (by kernel_rfl) (kAb 19 h (λ_=>f0L) (λy2 h0=>kr 7 (kS (kq (kBT 24 h0 (λh1=>kq (kX (PJ.passRet (by obtain rfl:=oi h1;exact PJ.res (v1:= .tup [zQ,iL y2.2.1,iL 3]) (Le.tup (.cons (Le.agg (.cons (Le.nl _) (.cons (Le.nl _) (.cons (Le.nl _) (.cons (Le.nl _) (LeL.refl _)))))) (LeL.refl _))) (kZ D W V))))) (λh2=>kKN (kS (kq (kBT 29 h2 (λh3=>kq (kX (PJ.passRet (by obtain rfl:=oi h3;exact PJ.res (v1:= .tup [zQ,iL 0,iL 11]) (Le.tup (.cons (Le.agg (.cons (Le.nl _) (.cons (Le.nl _) (.cons (Le.nl _) (.cons (Le.nl _) (LeL.refl _)))))) (LeL.refl _))) (kZ D W V))))) (λh4=>kKN (kn 1 (kAb 33 h4 (λ_=>j0E) (λy0 h5=>kr 12 (kcN h5 (fun(s0:Int×Bool×(List a0c)×(List a0c)×(List a0c)×(List a0c)×Bool×Int×Int×Int×Int×Int×Int×Int×Int×Int×Bool×Int×Int)=>([(2, .ptr 0 0),(3,iL 0),(4,iL 0),(5,lR y2.1),(8, .ptr 1 0),(11,iL s0.1),(12, .bool s0.2.1)],[.box [.nl, .nl, .nl, .nl, .bool false,iL 0,iL 0,iL 0,iL 0,iL 0,iL 0,iL 0,iL 0,iL 0, .bool false,iM 0,iL 0], .box [lsv a0a 2 s0.2.2.1,lsv a0a 2 s0.2.2.2.1,lsv a0a 2 s0.2.2.2.2.1,lsv a0a 2 s0.2.2.2.2.2.1, .bool s0.2.2.2.2.2.2.1,iL s0.2.2.2.2.2.2.2.1,iL s0.2.2.2.2.2.2.2.2.1,iL s0.2.2.2.2.2.2.2.2.2.1,iL s0.2.2.2.2.2.2.2.2.2.2.1,iL s0.2.2.2.2.2.2.2.2.2.2.2.1,iL s0.2.2.2.2.2.2.2.2.2.2.2.2.1,iL s0.2.2.2.2.2.2.2.2.2.2.2.2.2.1,iL s0.2.2.2.2.2.2.2.2.2.2.2.2.2.2.1,iL s0.2.2.2.2.2.2.2.2.2.2.2.2.2.2.2.1, .bool s0.2.2.2.2.2.2.2.2.2.2.2.2.2.2.2.2.1,iM s0.2.2.2.2.2.2.2.2.2.2.2.2.2.2.2.2.2.1,iL s0.2.2.2.2.2.2.2.2.2.2.2.2.2.2.2.2.2.2]])) (λs0 hy0=>kcN hy0 (fun(s1:Bool)=>([(2, .ptr 0 0),(3,iL 0),(4,iL 0),(5,lR y2.1),(8, .ptr 1 0),(9,iL y0.2.1),(10,iL y0.2.2.1),(11,iL y0.2.2.2.1),(12, .bool y0.2.2.2.2),(45, .bool s1)],[.box [.nl, .nl, .nl, .nl, .bool false,iL 0,iL 0,iL 0,iL 0,iL 0,iL 0,iL 0,iL 0,iL 0, .bool false,iM 0,iL 0], .box (a0b y0.1)])) (λs1 hy1=>km 2 (kB 40 hy1 (λh8=>kc 2 (kAb 43 h8 (λ_=>a0N) (λy3 h10=>ke 2 (kNo h10 [2,3,4,5,8,9,10,11,12,45])))) (λh9=>ke 5 (kNo h9 [2,3,4,5,8,9,10,11,12,45])))) (λs1 h7=>kBT 45 h7 (λh11=>kn 6 (kAb 53 h11 (λ_=>i0R) (λy1 h13=>kr 8 (kq (kq (kM (kNW h13 W V [0,1]))))))) (λh12=>kK (kNo h12 [2,3,4,5,8,11,12])))) (λs0 h6=>kcX h6 (fun(s4:Unit)=>([(2, .ptr 0 0),(3,iL 0),(4,iL 0),(8, .ptr 1 0)],[.box [.nl, .nl, .nl, .nl, .bool false,iL 0,iL 0,iL 0,iL 0,iL 0,iL 0,iL 0,iL 0,iL 0, .bool false,iM 0,iL 0], .box [lsv a0a 2 s0.2.2.1,lsv a0a 2 s0.2.2.2.1,lsv a0a 2 s0.2.2.2.2.1,lsv a0a 2 s0.2.2.2.2.2.1, .bool s0.2.2.2.2.2.2.1,iL s0.2.2.2.2.2.2.2.1,iL s0.2.2.2.2.2.2.2.2.1,iL s0.2.2.2.2.2.2.2.2.2.1,iL s0.2.2.2.2.2.2.2.2.2.2.1,iL s0.2.2.2.2.2.2.2.2.2.2.2.1,iL s0.2.2.2.2.2.2.2.2.2.2.2.2.1,iL s0.2.2.2.2.2.2.2.2.2.2.2.2.2.1,iL s0.2.2.2.2.2.2.2.2.2.2.2.2.2.2.1,iL s0.2.2.2.2.2.2.2.2.2.2.2.2.2.2.2.1, .bool s0.2.2.2.2.2.2.2.2.2.2.2.2.2.2.2.2.1,iM s0.2.2.2.2.2.2.2.2.2.2.2.2.2.2.2.2.2.1,iL s0.2.2.2.2.2.2.2.2.2.2.2.2.2.2.2.2.2.2]])) (λy4 hy2 h14=>kcN hy2 (fun(s2:Bool)=>([(2, .ptr 0 0),(3,iL 0),(4,iL 0),(8, .ptr 1 0),(11,iL s0.1),(67, .bool s2)],[.box [.nl, .nl, .nl, .nl, .bool false,iL 0,iL 0,iL 0,iL 0,iL 0,iL 0,iL 0,iL 0,iL 0, .bool false,iM 0,iL 0], .box [lsv a0a 2 s0.2.2.1,lsv a0a 2 s0.2.2.2.1,lsv a0a 2 s0.2.2.2.2.1,lsv a0a 2 s0.2.2.2.2.2.1, .bool s0.2.2.2.2.2.2.1,iL s0.2.2.2.2.2.2.2.1,iL s0.2.2.2.2.2.2.2.2.1,iL s0.2.2.2.2.2.2.2.2.2.1,iL s0.2.2.2.2.2.2.2.2.2.2.1,iL s0.2.2.2.2.2.2.2.2.2.2.2.1,iL s0.2.2.2.2.2.2.2.2.2.2.2.2.1,iL s0.2.2.2.2.2.2.2.2.2.2.2.2.2.1,iL s0.2.2.2.2.2.2.2.2.2.2.2.2.2.2.1,iL s0.2.2.2.2.2.2.2.2.2.2.2.2.2.2.2.1, .bool s0.2.2.2.2.2.2.2.2.2.2.2.2.2.2.2.2.1,iM s0.2.2.2.2.2.2.2.2.2.2.2.2.2.2.2.2.2.1,iL s0.2.2.2.2.2.2.2.2.2.2.2.2.2.2.2.2.2.2]])) (λs2 hy3=>km 3 (kB 62 hy3 (λh17=>ke 5 (kNo h17 [2,3,4,8,11,67])) (λh18=>ke 5 (kNo h18 [2,3,4,8,11,67])))) (λs2 h16=>kBT 67 h16 (λh19=>kq (kX (kCx h19 h14 (λh21=>by obtain rfl:=oi h21;exact PJ.res (v1:= .tup [zQ,iL s0.1,iL 2]) (Le.tup (.cons (Le.agg (.cons (Le.nl _) (.cons (Le.nl _) (.cons (Le.nl _) (.cons (Le.nl _) (LeL.refl _)))))) (LeL.refl _))) (kZ D W V))))) (λh20=>kK (kXo h20 [2,3,4,8])))) (λs4 h15=>kcX h15 (fun(s5:Unit)=>([(2, .ptr 0 0),(3,iL 0),(4,iL 0),(8, .ptr 1 0)],[.box [.nl, .nl, .nl, .nl, .bool false,iL 0,iL 0,iL 0,iL 0,iL 0,iL 0,iL 0,iL 0,iL 0, .bool false,iM 0,iL 0], .box [lsv a0a 2 s0.2.2.1,lsv a0a 2 s0.2.2.2.1,lsv a0a 2 s0.2.2.2.2.1,lsv a0a 2 s0.2.2.2.2.2.1, .bool s0.2.2.2.2.2.2.1,iL s0.2.2.2.2.2.2.2.1,iL s0.2.2.2.2.2.2.2.2.1,iL s0.2.2.2.2.2.2.2.2.2.1,iL s0.2.2.2.2.2.2.2.2.2.2.1,iL s0.2.2.2.2.2.2.2.2.2.2.2.1,iL s0.2.2.2.2.2.2.2.2.2.2.2.2.1,iL s0.2.2.2.2.2.2.2.2.2.2.2.2.2.1,iL s0.2.2.2.2.2.2.2.2.2.2.2.2.2.2.1,iL s0.2.2.2.2.2.2.2.2.2.2.2.2.2.2.2.1, .bool s0.2.2.2.2.2.2.2.2.2.2.2.2.2.2.2.2.1,iM s0.2.2.2.2.2.2.2.2.2.2.2.2.2.2.2.2.2.1,iL s0.2.2.2.2.2.2.2.2.2.2.2.2.2.2.2.2.2.2]])) (λy5 hy4 h22=>kcN hy4 (fun(s3:Bool)=>([(2, .ptr 0 0),(3,iL 0),(4,iL 0),(8, .ptr 1 0),(90, .bool s3)],[.box [.nl, .nl, .nl, .nl, .bool false,iL 0,iL 0,iL 0,iL 0,iL 0,iL 0,iL 0,iL 0,iL 0, .bool false,iM 0,iL 0], .box [lsv a0a 2 s0.2.2.1,lsv a0a 2 s0.2.2.2.1,lsv a0a 2 s0.2.2.2.2.1,lsv a0a 2 s0.2.2.2.2.2.1, .bool s0.2.2.2.2.2.2.1,iL s0.2.2.2.2.2.2.2.1,iL s0.2.2.2.2.2.2.2.2.1,iL s0.2.2.2.2.2.2.2.2.2.1,iL s0.2.2.2.2.2.2.2.2.2.2.1,iL s0.2.2.2.2.2.2.2.2.2.2.2.1,iL s0.2.2.2.2.2.2.2.2.2.2.2.2.1,iL s0.2.2.2.2.2.2.2.2.2.2.2.2.2.1,iL s0.2.2.2.2.2.2.2.2.2.2.2.2.2.2.1,iL s0.2.2.2.2.2.2.2.2.2.2.2.2.2.2.2.1, .bool s0.2.2.2.2.2.2.2.2.2.2.2.2.2.2.2.2.1,iM s0.2.2.2.2.2.2.2.2.2.2.2.2.2.2.2.2.2.1,iL s0.2.2.2.2.2.2.2.2.2.2.2.2.2.2.2.2.2.2]])) (λs3 hy5=>km 7 (kB 76 hy5 (λh25=>ke 14 (kNo h25 [2,3,4,8,90])) (λh26=>kc 5 (kB 81 h26 (λh27=>ke 9 (kNo h27 [2,3,4,8,90])) (λh28=>kc 5 (kB 86 h28 (λh29=>ke 4 (kNo h29 [2,3,4,8,90])) (λh30=>ke 4 (kNo h30 [2,3,4,8,90])))))))) (λs3 h24=>kBT 90 h24 (λh31=>kq (kX (kCx h31 h22 (λh33=>by obtain rfl:=oi h33;exact PJ.res (v1:= .tup [zQ,iL 0,iL 11]) (Le.tup (.cons (Le.agg (.cons (Le.nl _) (.cons (Le.nl _) (.cons (Le.nl _) (.cons (Le.nl _) (LeL.refl _)))))) (LeL.refl _))) (kZ D W V))))) (λh32=>kK (kXo h32 [2,3,4,8])))) (λs5 h23=>kq (kX (by cases h23;exact kZ D W V)))))))))))))))))))))
def b0A(x0:List a0c):Option (Bool):=
 (Option.bind (a0x (fun(s0:Int)=>(bif(decide (s0<(x0.length:Int)))then(bif inR s0 x0.length then(Option.bind (b0p ((nth x0 s0).R_)) λy0=>(bif(!y0)then(some (.inr (.inr false)))else(some (.inl (IntKind.wrap .i64 (s0+1))))))else none)else(some (.inr (.inl ()))))) big 0) (a0m fun(s1:Unit)=>(some true)))
theorem d0e {x0:List a0c} {r:Bool} (h:b0A x0=some r):SQ 213 [lsv a0a 2 x0] [] (.bool r) []:=by
 refine kFn (fn:=Tryz.f213) (λF D W V=> ?_)
 unfold b0A at h
 exact kq (kcX h (fun(s1:Unit)=>([(2, .bool false)],[])) (λy1 hy0 h0=>kq (kb 0 (kl (fun(s0:Int)=>([(0,lsv a0a 2 x0),(2, .bool false),(3,iL s0)],[])) hy0 [0,2,3] (λs0 x86 hs0=>kS (kq (kBT 8 hs0 (λh2=>kKN (kS (kb 1 (kn 2 (kIb 13 a0C h2 (λh4=>kc 2 (kAb 16 h4 (λ_=>d0i) (λy0 h5=>kr 1 (kq (kBT 18 h5 (λh6=>kq (kXp (kLx h6 (λh8=>PJ.blockRet (kCx h8 h0 (λh9=>by obtain rfl:=oi h9;exact kZ D W V)))))) (λh7=>kKn (kM (kLo h7 [0,2,3]))))))))))))) (λh3=>kEp 0 (kLx h3 (λh10=>PJ.blockOut (kXo h10 [2])))))))))) (λs1 h1=>kq (kX (by cases h1;exact kZ D W V))))
def d0j(x0:Int):Option (List Int):=
 (Option.bind (c0K x0) λy0=>(bif(decide (y0=1))then(some ([(IntKind.wrap .u8 (IntKind.wrap .i64 x0))]:List Int))else(bif(decide (y0=2))then(some ([(IntKind.wrap .u8 ((IntKind.wrap .i64 (192+((IntKind.wrap .i64 (Int.tdiv (IntKind.wrap .i64 x0) 64))))))),(IntKind.wrap .u8 ((IntKind.wrap .i64 (128+(Int.tmod (IntKind.wrap .i64 x0) 64)))))]:List Int))else(bif(decide (y0=3))then(some ([(IntKind.wrap .u8 ((IntKind.wrap .i64 (224+((IntKind.wrap .i64 (Int.tdiv (IntKind.wrap .i64 x0) 4096))))))),(IntKind.wrap .u8 ((IntKind.wrap .i64 (128+((Int.tmod ((IntKind.wrap .i64 (Int.tdiv (IntKind.wrap .i64 x0) 64))) 64)))))),(IntKind.wrap .u8 ((IntKind.wrap .i64 (128+(Int.tmod (IntKind.wrap .i64 x0) 64)))))]:List Int))else(bif(decide (y0=4))then(some ([(IntKind.wrap .u8 ((IntKind.wrap .i64 (240+((IntKind.wrap .i64 (Int.tdiv (IntKind.wrap .i64 x0) 262144))))))),(IntKind.wrap .u8 ((IntKind.wrap .i64 (128+((Int.tmod ((IntKind.wrap .i64 (Int.tdiv (IntKind.wrap .i64 x0) 4096))) 64)))))),(IntKind.wrap .u8 ((IntKind.wrap .i64 (128+((Int.tmod ((IntKind.wrap .i64 (Int.tdiv (IntKind.wrap .i64 x0) 64))) 64)))))),(IntKind.wrap .u8 ((IntKind.wrap .i64 (128+(Int.tmod (IntKind.wrap .i64 x0) 64)))))]:List Int))else(some ([]:List Int)))))))
theorem j0J {x0:Int} {r:List Int} (h:d0j x0=some r):SQ 380 [iM x0] [] (lB r) []:=by
 refine kFn (fn:=Tryz.f380) (λF D W V=> ?_)
 unfold d0j at h
 exact kq (kq (kS (kn 1 (kAb 7 h (λ_=>g0w) (λy0 h0=>kEN (kb 0 (kq (kBT 8 h0 (λh1=>kq (kXp (by obtain rfl:=oi h1;exact PJ.wk (Wk.freeze 0 (n:=(([(IntKind.wrap .u8 (IntKind.wrap .i64 x0))]:List Int)).length) (k:=1) (e:=5) (cs:=(([(IntKind.wrap .u8 (IntKind.wrap .i64 x0))]:List Int)).flatMap (a0s .u8)) (by kernel_rfl)) (kZ D W V)))) (λh2=>kq (kBT 13 h2 (λh3=>kq (kXp (by obtain rfl:=oi h3;exact PJ.wk (Wk.freeze 0 (n:=(([(IntKind.wrap .u8 ((IntKind.wrap .i64 (192+((IntKind.wrap .i64 (Int.tdiv (IntKind.wrap .i64 x0) 64))))))),(IntKind.wrap .u8 ((IntKind.wrap .i64 (128+(Int.tmod (IntKind.wrap .i64 x0) 64)))))]:List Int)).length) (k:=1) (e:=5) (cs:=(([(IntKind.wrap .u8 ((IntKind.wrap .i64 (192+((IntKind.wrap .i64 (Int.tdiv (IntKind.wrap .i64 x0) 64))))))),(IntKind.wrap .u8 ((IntKind.wrap .i64 (128+(Int.tmod (IntKind.wrap .i64 x0) 64)))))]:List Int)).flatMap (a0s .u8)) (by kernel_rfl)) (kZ D W V)))) (λh4=>kq (kBT 24 h4 (λh5=>kq (kXp (by obtain rfl:=oi h5;exact PJ.wk (Wk.freeze 0 (n:=(([(IntKind.wrap .u8 ((IntKind.wrap .i64 (224+((IntKind.wrap .i64 (Int.tdiv (IntKind.wrap .i64 x0) 4096))))))),(IntKind.wrap .u8 ((IntKind.wrap .i64 (128+((Int.tmod ((IntKind.wrap .i64 (Int.tdiv (IntKind.wrap .i64 x0) 64))) 64)))))),(IntKind.wrap .u8 ((IntKind.wrap .i64 (128+(Int.tmod (IntKind.wrap .i64 x0) 64)))))]:List Int)).length) (k:=1) (e:=5) (cs:=(([(IntKind.wrap .u8 ((IntKind.wrap .i64 (224+((IntKind.wrap .i64 (Int.tdiv (IntKind.wrap .i64 x0) 4096))))))),(IntKind.wrap .u8 ((IntKind.wrap .i64 (128+((Int.tmod ((IntKind.wrap .i64 (Int.tdiv (IntKind.wrap .i64 x0) 64))) 64)))))),(IntKind.wrap .u8 ((IntKind.wrap .i64 (128+(Int.tmod (IntKind.wrap .i64 x0) 64)))))]:List Int)).flatMap (a0s .u8)) (by kernel_rfl)) (kZ D W V)))) (λh6=>kq (kBT 40 h6 (λh7=>kq (kXp (by obtain rfl:=oi h7;exact PJ.wk (Wk.freeze 0 (n:=(([(IntKind.wrap .u8 ((IntKind.wrap .i64 (240+((IntKind.wrap .i64 (Int.tdiv (IntKind.wrap .i64 x0) 262144))))))),(IntKind.wrap .u8 ((IntKind.wrap .i64 (128+((Int.tmod ((IntKind.wrap .i64 (Int.tdiv (IntKind.wrap .i64 x0) 4096))) 64)))))),(IntKind.wrap .u8 ((IntKind.wrap .i64 (128+((Int.tmod ((IntKind.wrap .i64 (Int.tdiv (IntKind.wrap .i64 x0) 64))) 64)))))),(IntKind.wrap .u8 ((IntKind.wrap .i64 (128+(Int.tmod (IntKind.wrap .i64 x0) 64)))))]:List Int)).length) (k:=1) (e:=5) (cs:=(([(IntKind.wrap .u8 ((IntKind.wrap .i64 (240+((IntKind.wrap .i64 (Int.tdiv (IntKind.wrap .i64 x0) 262144))))))),(IntKind.wrap .u8 ((IntKind.wrap .i64 (128+((Int.tmod ((IntKind.wrap .i64 (Int.tdiv (IntKind.wrap .i64 x0) 4096))) 64)))))),(IntKind.wrap .u8 ((IntKind.wrap .i64 (128+((Int.tmod ((IntKind.wrap .i64 (Int.tdiv (IntKind.wrap .i64 x0) 64))) 64)))))),(IntKind.wrap .u8 ((IntKind.wrap .i64 (128+(Int.tmod (IntKind.wrap .i64 x0) 64)))))]:List Int)).flatMap (a0s .u8)) (by kernel_rfl)) (kZ D W V)))) (λh8=>kKn (kq (kX (by obtain rfl:=oi h8;exact PJ.res (v1:= .nl) (Le.nl _) (kZ D W V)))))))))))))))))))
def c0k(x0:Int):Option (List UInt8):=
 (Option.bind (d0j x0) λy0=>(some (c0S y0)))
theorem e0u {x0:Int} {r:List UInt8} (h:c0k x0=some r):SQ 343 [iM x0] [] (.str r) []:=by
 refine kFn (fn:=Tryz.f343) (λF D W V=> ?_)
 unfold c0k at h
 exact kq (kn 1 (kAb 4 h (λ_=>j0J) (λy0 h0=>RJ.rel (d:=(some 5)) (ef:=⟨.str ((y0.flatMap (a0s .u8)).map Go.Sy.byteOf),[],[]⟩) (ef':=⟨.str (c0S y0),[],[]⟩) (c:=(y0.flatMap (a0s .u8)).all i0z) (tr2:=[]) (H2:=[]) (by kernel_rfl) (p0J y0) (λhc=>N.toStr) (by kernel_rfl) (kr 1 (kX (by cases h0;exact kZ D W V))))))
def b0o(x0:a0j)(x1:Int):Option (List UInt8):=
 (bif(decide (x0.P_=x1))then(Option.bind (c0k x0.B_) λy0=>(bif room (([42]:List UInt8).length+y0.length)then(some (([42]:List UInt8)++y0))else none))else(some ([]:List UInt8)))
theorem c0R {x0:a0j} {x1:Int} {r:List UInt8} (h:b0o x0 x1=some r):SQ 279 [.agg (a0b x0),iL x1] [] (.str r) []:=by
 refine kFn (fn:=Tryz.f279) (λF D W V=> ?_)
 unfold b0o at h
 refine kq (kS (kq (kBT 8 h (λh0=> ?_) (λh1=> ?_))))
 refine kn 2 (kAb 11 h0 (λ_=>e0u) (λy0 h2=> ?_))
 obtain⟨hm,h3⟩:=b0k h2
 exact kQ 12 (.str (([42]:List UInt8)++y0)) [] (tr2:=[]) hm (kr 1 (kX (PJ.passRet (by cases h3;exact kZ D W V))))
 exact kKN (kq (kX (by cases h1;exact kZ D W V)))
def b0a(x0:List a0c):Option (List UInt8):=
 (Option.bind (a0x (fun(s0:(List UInt8)×Bool×Int)=>(bif(decide (s0.2.2<(x0.length:Int)))then(Option.bind (bif inR s0.2.2 x0.length then(Option.bind (c0c ((nth x0 s0.2.2).R_)) λy2=>(Option.bind (bif inR s0.2.2 x0.length then(bif(decide (((nth x0 s0.2.2).ae_)=0))then(bif inR s0.2.2 x0.length then(some ((decide (((nth x0 s0.2.2).R_)=39))))else none)else(some false))else none) fun(s3:Bool)=>(Option.bind (bif inR s0.2.2 x0.length then(bif(decide (((nth x0 s0.2.2).ae_)=0))then(some y2)else(some false))else none) fun(s4:Bool)=>(Option.bind (Option.bind (bif(!s3)then(some (s4 !=s0.2.1))else(some false)) fun(s6:Bool)=>(bif s6 then(bif room (s0.1.length+([39]:List UInt8).length)then(some ((s0.1++([39]:List UInt8)),s4))else none)else(some (s0.1,s0.2.1)))) fun(s1:(List UInt8)×Bool)=>(bif inR s0.2.2 x0.length then(bif(decide (((nth x0 s0.2.2).ae_)=0))then(bif inR s0.2.2 x0.length then(Option.bind (c0k ((nth x0 s0.2.2).R_)) λy0=>(bif room (s1.1.length+y0.length)then(bif s3 then(bif room ((s1.1++y0).length+([39]:List UInt8).length)then(some (((s1.1++y0)++([39]:List UInt8)),s1.2))else none)else(some ((s1.1++y0),s1.2)))else none))else none)else(bif(decide (((nth x0 s0.2.2).ae_)=1))then(bif room (s1.1.length+([45]:List UInt8).length)then(some ((s1.1++([45]:List UInt8)),s1.2))else none)else(bif(decide (((nth x0 s0.2.2).ae_)=2))then(bif room (s1.1.length+([43]:List UInt8).length)then(some ((s1.1++([43]:List UInt8)),s1.2))else none)else(bif(decide (((nth x0 s0.2.2).ae_)=3))then(bif room (s1.1.length+([37]:List UInt8).length)then(some ((s1.1++([37]:List UInt8)),s1.2))else none)else(bif(decide (((nth x0 s0.2.2).ae_)=4))then(Option.bind (c0k 164) λy1=>(bif room (s1.1.length+y1.length)then(some ((s1.1++y1),s1.2))else none))else(some (s1.1,s1.2)))))))else none)))))else none) fun(s5:(List UInt8)×Bool)=>(some (.inl (s5.1,s5.2,(IntKind.wrap .i64 (s0.2.2+1))))))else(some (.inr (s0.1,s0.2.1))))) big (([]:List UInt8),false,0)) fun(s2:(List UInt8)×Bool)=>(Option.bind (bif s2.2 then(bif room (s2.1.length+([39]:List UInt8).length)then(some (s2.1++([39]:List UInt8)))else none)else(some s2.1)) fun(s7:(List UInt8))=>(some s7)))
theorem c0G {x0:List a0c} {r:List UInt8} (h:b0a x0=some r):SQ 280 [lsv a0a 2 x0] [] (.str r) []:=by
 refine kFn (fn:=Tryz.f280) (λF D W V=> ?_)
 unfold b0a at h
 refine kq (kq (kq (kcN h (fun(s2:(List UInt8)×Bool)=>([(2, .str ([]:List UInt8)),(3, .str s2.1),(4, .bool s2.2)],[])) (λs2 hy0=> ?_) (λs2 h0=> ?_))))
 refine kq (kb 0 (kl (fun(s0:(List UInt8)×Bool×Int)=>([(0,lsv a0a 2 x0),(2, .str ([]:List UInt8)),(3, .str s0.1),(4, .bool s0.2.1),(5,iL s0.2.2)],[])) hy0 [0,2,3,4,5] (λs0 x1051 hs0=>kS (kq (kBT 12 hs0 (λh1=> ?_) (λh2=> ?_))))))
 refine kKN (kcN h1 (fun(s5:(List UInt8)×Bool)=>([(0,lsv a0a 2 x0),(2, .str ([]:List UInt8)),(3, .str s5.1),(4, .bool s5.2),(5,iL s0.2.2)],[])) (λs5 hy1=> ?_) (λs5 h3=> ?_))
 refine kb 1 (kn 2 (kIb 17 a0C hy1 (λh4=>kc 2 (kAb 20 h4 (λ_=>f0q) (λy2 h5=>kr 1 (kcN h5 (fun(s3:Bool)=>([(0,lsv a0a 2 x0),(2, .str ([]:List UInt8)),(3, .str s0.1),(4, .bool s0.2.1),(5,iL s0.2.2),(6, .bool y2),(7, .bool s3)],[])) (λs3 hy2=> ?_) (λs3 h6=> ?_)))))))
 exact km 2 (kIb 23 a0C hy2 (λh7=>kc 4 (kB 27 h7 (λh8=>kc 2 (kIb 30 a0C h8 (λh10=>ke 5 (kNo h10 [0,2,3,4,5,6,7])))) (λh9=>ke 8 (kNo h9 [0,2,3,4,5,6,7])))))
 refine kcN h6 (fun(s4:Bool)=>([(0,lsv a0a 2 x0),(2, .str ([]:List UInt8)),(3, .str s0.1),(4, .bool s0.2.1),(5,iL s0.2.2),(7, .bool s3),(8, .bool s4)],[])) (λs4 hy3=> ?_) (λs4 h11=> ?_)
 exact km 2 (kIb 37 a0C hy3 (λh12=>kc 4 (kB 41 h12 (λh13=>ke 3 (kNo h13 [0,2,3,4,5,7,8])) (λh14=>ke 3 (kNo h14 [0,2,3,4,5,7,8])))))
 refine kcN h11 (fun(s1:(List UInt8)×Bool)=>([(0,lsv a0a 2 x0),(2, .str ([]:List UInt8)),(3, .str s1.1),(4, .bool s1.2),(5,iL s0.2.2),(7, .bool s3)],[])) (λs1 hy4=> ?_) (λs1 h15=> ?_)
 refine kcN hy4 (fun(s6:Bool)=>([(0,lsv a0a 2 x0),(2, .str ([]:List UInt8)),(3, .str s0.1),(4, .bool s0.2.1),(5,iL s0.2.2),(7, .bool s3),(8, .bool s4),(50, .bool s6)],[])) (λs6 hy5=> ?_) (λs6 h16=> ?_)
 exact km 3 (kB 46 hy5 (λh17=>ke 4 (kNo h17 [0,2,3,4,5,7,8,50])) (λh18=>ke 4 (kNo h18 [0,2,3,4,5,7,8,50])))
 refine kBT 50 h16 (λh19=> ?_) (λh20=> ?_)
 refine kn 1 ?_
 obtain⟨hm,h21⟩:=b0k h19
 exact kQ 52 (.str (s0.1++([39]:List UInt8))) [] (tr2:=[]) hm (kr 1 (kM (kNo h21 [0,2,3,4,5,7])))
 exact kK (kNo h20 [0,2,3,4,5,7])
 refine kn 2 (kIb 56 a0C h15 (λh22=>kr 2 (kb 2 (kq (kBT 59 h22 (λh23=> ?_) (λh24=> ?_))))))
 refine kn 3 (kIb 64 a0C h23 (λh25=>kc 2 (kAb 67 h25 (λ_=>e0u) (λy0 h26=> ?_))))
 obtain⟨hm,h27⟩:=b0k h26
 refine kQ 68 (.str (s1.1++y0)) [] (tr2:=[]) hm (kr 1 (kq (kBT 69 h27 (λh28=> ?_) (λh29=> ?_))))
 refine km 1 ?_
 obtain⟨hm,h30⟩:=b0k h28
 exact kQ 71 (.str ((s1.1++y0)++([39]:List UInt8))) [] (tr2:=[]) hm (ke 1 (PJ.blockNormal (PJ.blockNormal (kNo h30 [0,2,3,4,5]))))
 exact kKb (PJ.blockNormal (kNo h29 [0,2,3,4,5]))
 refine kq (kBT 72 h24 (λh31=> ?_) (λh32=> ?_))
 refine km 1 ?_
 obtain⟨hm,h33⟩:=b0k h31
 exact kQ 75 (.str (s1.1++([45]:List UInt8))) [] (tr2:=[]) hm (ke 1 (PJ.blockNormal (PJ.blockNormal (kNo h33 [0,2,3,4,5]))))
 refine kq (kBT 76 h32 (λh34=> ?_) (λh35=> ?_))
 refine km 1 ?_
 obtain⟨hm,h36⟩:=b0k h34
 exact kQ 79 (.str (s1.1++([43]:List UInt8))) [] (tr2:=[]) hm (ke 1 (PJ.blockNormal (PJ.blockNormal (kNo h36 [0,2,3,4,5]))))
 refine kq (kBT 80 h35 (λh37=> ?_) (λh38=> ?_))
 refine km 1 ?_
 obtain⟨hm,h39⟩:=b0k h37
 exact kQ 83 (.str (s1.1++([37]:List UInt8))) [] (tr2:=[]) hm (ke 1 (PJ.blockNormal (PJ.blockNormal (kNo h39 [0,2,3,4,5]))))
 refine kq (kBT 84 h38 (λh40=> ?_) (λh41=> ?_))
 refine km 1 (kAb 87 h40 (λ_=>e0u) (λy1 h42=> ?_))
 obtain⟨hm,h43⟩:=b0k h42
 exact kQ 88 (.str (s1.1++y1)) [] (tr2:=[]) hm (ke 1 (PJ.blockNormal (PJ.blockNormal (kNo h43 [0,2,3,4,5]))))
 exact kKb (PJ.blockNormal (kNo h41 [0,2,3,4,5]))
 exact kM (kLo h3 [0,2,3,4,5])
 exact kEp 0 (kLx h2 (λh44=>PJ.blockOut (kNo h44 [2,3,4])))
 refine kcN h0 (fun(s7:(List UInt8))=>([(2, .str ([]:List UInt8)),(3, .str s7)],[])) (λs7 hy6=> ?_) (λs7 h45=> ?_)
 refine kq (kBT 89 hy6 (λh46=> ?_) (λh47=> ?_))
 refine km 1 ?_
 obtain⟨hm,h48⟩:=b0k h46
 exact kQ 91 (.str (s2.1++([39]:List UInt8))) [] (tr2:=[]) hm (ke 1 (kNo h48 [2,3]))
 exact kK (kNo h47 [2,3])
 exact kq (kX (by cases h45;exact kZ D W V))
def b0g(x0:List UInt8)(x1:Int):Option (List UInt8):=
 (Option.bind (a0x (fun(s0:(List UInt8)×Int)=>(bif(decide (s0.2<x1))then(bif room (s0.1.length+x0.length)then(some (.inl ((s0.1++x0),(IntKind.wrap .i64 (s0.2+1)))))else none)else(some (.inr s0.1)))) big (([]:List UInt8),0)) fun(s1:(List UInt8))=>(some s1))
theorem c0r {x0:List UInt8} {x1:Int} {r:List UInt8} (h:b0g x0 x1=some r):SQ 344 [.str x0,iL x1] [] (.str r) []:=by
 refine kFn (fn:=Tryz.f344) (λF D W V=> ?_)
 unfold b0g at h
 refine kq (kq (kcN h (fun(s1:(List UInt8))=>([(4, .str ([]:List UInt8)),(5, .str s1)],[])) (λs1 hy0=> ?_) (λs1 h0=> ?_)))
 ·refine kq (kb 0 (kl (fun(s0:(List UInt8)×Int)=>([(0, .str x0),(1,iL x1),(4, .str ([]:List UInt8)),(5, .str s0.1),(6,iL s0.2)],[])) hy0 [0,1,4,5,6] (λs0 x41 hs0=>kS (kq (kBT 9 hs0 (λh1=> ?_) (λh2=> ?_))))))
  ·refine kKN (kS (kb 1 (km 2 ?_)))
   obtain⟨hm,h3⟩:=b0k h1
   exact kQ 14 (.str (s0.1++x0)) [] (tr2:=[]) hm (ke 1 (PJ.blockNormal (PJ.next (kM (kLo h3 [0,1,4,5,6])))))
  exact kEp 0 (kLx h2 (λh4=>PJ.blockOut (kNo h4 [4,5])))
 exact kq (kX (by cases h0;exact kZ D W V))
def c0n(x0:a0j):Option (List UInt8):=
 (Option.bind (a0x (fun(s0:(List UInt8)×Int)=>(bif(decide (s0.2<(IntKind.wrap .i64 (x0.I_+x0.z_))))then(Option.bind (Option.bind (Option.bind (bif(decide (x0.p_>0))then(bif(decide (s0.2=x0.p_))then(some true)else(bif(decide (s0.2>x0.p_))then(bif(decide (x0.w_>0))then(bif nz x0.w_ then(some ((decide (((Int.tmod (IntKind.wrap .i64 (s0.2-x0.p_)) x0.w_))=0))))else none)else(some false))else(some false)))else(some false)) fun(s5:Bool)=>(bif s5 then(bif room (([44]:List UInt8).length+s0.1.length)then(some (([44]:List UInt8)++s0.1))else none)else(some s0.1))) fun(s3:(List UInt8))=>(bif(decide (s0.2<x0.z_))then(bif room (([48]:List UInt8).length+s3.length)then(some (([48]:List UInt8)++s3))else none)else(bif room (([35]:List UInt8).length+s3.length)then(some (([35]:List UInt8)++s3))else none))) fun(s6:(List UInt8))=>(some (.inl (s6,(IntKind.wrap .i64 (s0.2+1))))))else(some (.inr s0.1)))) big (([]:List UInt8),0)) fun(s1:(List UInt8))=>(Option.bind (b0g ([64]:List UInt8) x0.s_) λy0=>(Option.bind (b0g ([35]:List UInt8) (IntKind.wrap .i64 (x0.u_-x0.s_))) λy1=>(bif room (y0.length+y1.length)then(bif room ((y0++y1).length+s1.length)then(Option.bind (bif(decide (x0.o_>0))then(bif room (((y0++y1)++s1).length+([46]:List UInt8).length)then(Option.bind (b0g ([48]:List UInt8) x0.v_) λy2=>(bif room (((((y0++y1)++s1)++([46]:List UInt8))).length+y2.length)then(Option.bind (b0g ([35]:List UInt8) (IntKind.wrap .i64 (x0.o_-x0.v_))) λy3=>(bif room (((((((y0++y1)++s1)++([46]:List UInt8)))++y2)).length+y3.length)then(some ((((((((y0++y1)++s1)++([46]:List UInt8)))++y2))++y3)))else none))else none))else none)else(some ((y0++y1)++s1))) fun(s2:(List UInt8))=>(Option.bind (bif(decide (x0.b_>0))then(bif room (s2.length+([69]:List UInt8).length)then(Option.bind (bif x0.U_ then(bif room ((s2++([69]:List UInt8)).length+([43]:List UInt8).length)then(some (((s2++([69]:List UInt8))++([43]:List UInt8))))else none)else(some (s2++([69]:List UInt8)))) fun(s4:(List UInt8))=>(Option.bind (b0g ([48]:List UInt8) x0.b_) λy4=>(bif room (s4.length+y4.length)then(some (s4++y4))else none)))else none)else(some s2)) fun(s7:(List UInt8))=>(some s7)))else none)else none))))
theorem f0K {x0:a0j} {r:List UInt8} (h:c0n x0=some r):SQ 281 [.agg (a0b x0)] [] (.str r) []:=by
 refine kFn (fn:=Tryz.f281) (λF D W V=> ?_)
 unfold c0n at h
 refine kq (kq (kcN h (fun(s1:(List UInt8))=>([(1, .ptr 0 0),(2, .str ([]:List UInt8)),(3, .str s1)],[.box (a0b x0)])) (λs1 hy0=> ?_) (λs1 h0=> ?_)))
 refine kq (kb 0 (kl (fun(s0:(List UInt8)×Int)=>([(1, .ptr 0 0),(2, .str ([]:List UInt8)),(3, .str s0.1),(4,iL s0.2)],[.box (a0b x0)])) hy0 [1,2,3,4] (λs0 x861 hs0=>kS (kq (kBT 11 hs0 (λh1=> ?_) (λh2=> ?_))))))
 refine kKN (kcN h1 (fun(s6:(List UInt8))=>([(1, .ptr 0 0),(2, .str ([]:List UInt8)),(3, .str s6),(4,iL s0.2)],[.box (a0b x0)])) (λs6 hy1=> ?_) (λs6 h3=> ?_))
 refine kb 1 (kcN hy1 (fun(s3:(List UInt8))=>([(1, .ptr 0 0),(2, .str ([]:List UInt8)),(3, .str s3),(4,iL s0.2)],[.box (a0b x0)])) (λs3 hy2=> ?_) (λs3 h4=> ?_))
 refine kcN hy2 (fun(s5:Bool)=>([(1, .ptr 0 0),(2, .str ([]:List UInt8)),(3, .str s0.1),(4,iL s0.2),(43, .bool s5)],[.box (a0b x0)])) (λs5 hy3=> ?_) (λs5 h5=> ?_)
 refine km 4 (kB 17 hy3 (λh6=> ?_) (λh7=> ?_))
 refine kc 5 (kB 22 h6 (λh8=> ?_) (λh9=> ?_))
 exact ke 21 (kNo h8 [1,2,3,4,43])
 refine kc 5 (kB 27 h9 (λh10=> ?_) (λh11=> ?_))
 refine kc 5 (kB 32 h10 (λh12=> ?_) (λh13=> ?_))
 refine kc 6 ?_
 obtain⟨hm,h14⟩:=b0k h12
 exact kQ 39 (iL (Int.tmod (IntKind.wrap .i64 (s0.2-x0.p_)) x0.w_)) [] (tr2:=[]) hm (ke 4 (kNo h14 [1,2,3,4,43]))
 exact ke 11 (kNo h13 [1,2,3,4,43])
 exact ke 16 (kNo h11 [1,2,3,4,43])
 exact ke 26 (kNo h7 [1,2,3,4,43])
 refine kBT 43 h5 (λh15=> ?_) (λh16=> ?_)
 refine km 1 ?_
 obtain⟨hm,h17⟩:=b0k h15
 exact kQ 45 (.str (([44]:List UInt8)++s0.1)) [] (tr2:=[]) hm (ke 1 (kNo h17 [1,2,3,4]))
 exact kK (kNo h16 [1,2,3,4])
 refine kq (kBT 49 h4 (λh18=> ?_) (λh19=> ?_))
 refine km 1 ?_
 obtain⟨hm,h20⟩:=b0k h18
 exact kQ 51 (.str (([48]:List UInt8)++s3)) [] (tr2:=[]) hm (ke 1 (PJ.blockNormal (kNo h20 [1,2,3,4])))
 refine km 1 ?_
 obtain⟨hm,h21⟩:=b0k h19
 exact kQ 53 (.str (([35]:List UInt8)++s3)) [] (tr2:=[]) hm (ke 1 (PJ.blockNormal (kNo h21 [1,2,3,4])))
 exact kM (kLo h3 [1,2,3,4])
 exact kEp 0 (kLx h2 (λh22=>PJ.blockOut (kNo h22 [1,2,3])))
 refine kS (kDr (kD 2 ?_))
 obtain⟨y0,hy4,h23⟩:=a0l h0
 refine kC0 (some 56) [([],[]),([0,1],[]),([],[2,3])] (c0r hy4) (kD 5 ?_)
 obtain⟨y1,hy5,h24⟩:=a0l h23
 refine kC0 (some 62) [([],[]),([0,1],[]),([],[2,3]),([],[]),([0,1],[]),([],[]),([0,1],[]),([],[]),([],[4,5])] (c0r hy5) ?_
 obtain⟨hm,h25⟩:=b0k h24
 refine kQ 63 (.str (y0++y1)) [] (tr2:=[([],[]),([0,1],[]),([],[2,3]),([],[]),([0,1],[]),([],[]),([0,1],[]),([],[]),([],[4,5]),([],[])]) hm (kD 1 ?_)
 obtain⟨hm,h26⟩:=b0k h25
 refine kQ 65 (.str ((y0++y1)++s1)) [] (tr2:=[([],[]),([0,1],[]),([],[2,3]),([],[]),([0,1],[]),([],[]),([0,1],[]),([],[]),([],[4,5]),([],[]),([],[]),([],[])]) hm (kD 1 (kEN (kcN h26 (fun(s2:(List UInt8))=>([(1, .ptr 0 0),(2, .str ([]:List UInt8)),(3, .str s2)],[.box (a0b x0)])) (λs2 hy6=> ?_) (λs2 h27=> ?_))))
 refine kq (kBT 68 hy6 (λh28=> ?_) (λh29=> ?_))
 refine kDr (kD 1 ?_)
 obtain⟨hm,h30⟩:=b0k h28
 refine kQ 70 (.str (((y0++y1)++s1)++([46]:List UInt8))) [] (tr2:=[([],[]),([],[])]) hm (kD 2 ?_)
 obtain⟨y2,hy7,h31⟩:=a0l h30
 refine kC0 (some 73) [([],[]),([],[]),([],[]),([0,1],[]),([],[6,7])] (c0r hy7) ?_
 obtain⟨hm,h32⟩:=b0k h31
 refine kQ 74 (.str (((((y0++y1)++s1)++([46]:List UInt8)))++y2)) [] (tr2:=[([],[]),([],[]),([],[]),([0,1],[]),([],[6,7]),([],[])]) hm (kD 5 ?_)
 obtain⟨y3,hy8,h33⟩:=a0l h32
 refine kC0 (some 80) [([],[]),([],[]),([],[]),([0,1],[]),([],[6,7]),([],[]),([],[]),([0,1],[]),([],[]),([0,1],[]),([],[]),([],[8,9])] (c0r hy8) ?_
 obtain⟨hm,h34⟩:=b0k h33
 exact kQ 81 (.str (((((((y0++y1)++s1)++([46]:List UInt8)))++y2))++y3)) [] (tr2:=[([],[]),([],[]),([],[]),([0,1],[]),([],[6,7]),([],[]),([],[]),([0,1],[]),([],[]),([0,1],[]),([],[]),([],[8,9]),([],[])]) hm (kD 1 (kE (kNW h34 W V [0])))
 exact kK (kNW h29 W V [0])
 refine kcN h27 (fun(s7:(List UInt8))=>([(2, .str ([]:List UInt8)),(3, .str s7)],[])) (λs7 hy9=> ?_) (λs7 h35=> ?_)
 refine kq (kBT 84 hy9 (λh36=> ?_) (λh37=> ?_))
 refine kn 1 ?_
 obtain⟨hm,h38⟩:=b0k h36
 refine kQ 86 (.str (s2++([69]:List UInt8))) [] (tr2:=[]) hm (kr 1 (kcN h38 (fun(s4:(List UInt8))=>([(1, .ptr 0 0),(2, .str ([]:List UInt8)),(3, .str s4)],[.box (a0b x0)])) (λs4 hy10=> ?_) (λs4 h39=> ?_)))
 refine kq (kBT 88 hy10 (λh40=> ?_) (λh41=> ?_))
 refine km 1 ?_
 obtain⟨hm,h42⟩:=b0k h40
 exact kQ 90 (.str ((s2++([69]:List UInt8))++([43]:List UInt8))) [] (tr2:=[]) hm (ke 1 (kNo h42 [1,2,3]))
 exact kK (kNo h41 [1,2,3])
 refine km 3 (kAb 94 h39 (λ_=>c0r) (λy4 h43=> ?_))
 obtain⟨hm,h44⟩:=b0k h43
 exact kQ 95 (.str (s4++y4)) [] (tr2:=[]) hm (ke 1 (kNW h44 W V []))
 exact kK (kNW h37 W V [])
 exact kq (kX (by cases h35;exact kZ D W V))
def d0x(x0:a0j):Option (List UInt8):=
 (Option.bind (b0o x0 1) λy0=>(Option.bind (b0a x0.c_) λy1=>(bif room (y0.length+y1.length)then(Option.bind (b0o x0 2) λy2=>(bif room ((y0++y1).length+y2.length)then(Option.bind (c0n x0) λy3=>(bif room (((y0++y1)++y2).length+y3.length)then(Option.bind (b0o x0 3) λy4=>(bif room (((((y0++y1)++y2)++y3)).length+y4.length)then(Option.bind (b0a x0.e_) λy5=>(bif room (((((((y0++y1)++y2)++y3))++y4)).length+y5.length)then(Option.bind (b0o x0 4) λy6=>(bif room (((((((((y0++y1)++y2)++y3))++y4))++y5)).length+y6.length)then(Option.bind (bif x0.O_ then(bif room (((((((((((y0++y1)++y2)++y3))++y4))++y5))++y6)).length+([59]:List UInt8).length)then(Option.bind (b0a x0.A_) λy7=>(bif room (((((((((((((y0++y1)++y2)++y3))++y4))++y5))++y6))++([59]:List UInt8))).length+y7.length)then(Option.bind (c0n x0) λy8=>(bif room (((((((((((((((y0++y1)++y2)++y3))++y4))++y5))++y6))++([59]:List UInt8)))++y7)).length+y8.length)then(Option.bind (b0a x0.y_) λy9=>(bif room (((((((((((((((((y0++y1)++y2)++y3))++y4))++y5))++y6))++([59]:List UInt8)))++y7))++y8)).length+y9.length)then(some ((((((((((((((((((y0++y1)++y2)++y3))++y4))++y5))++y6))++([59]:List UInt8)))++y7))++y8))++y9)))else none))else none))else none))else none)else(some ((((((((((y0++y1)++y2)++y3))++y4))++y5))++y6)))) fun(s0:(List UInt8))=>(some s0))else none))else none))else none))else none))else none))else none)))
theorem k0q {x0:a0j} {r:List UInt8} (h:d0x x0=some r):SQ 214 [.agg (a0b x0)] [] (.str r) []:=by
 refine kFn (fn:=Tryz.f214) (λF D W V=> ?_)
 unfold d0x at h
 refine kq (kS (kDr (kD 1 ?_)))
 obtain⟨y0,hy0,h0⟩:=a0l h
 refine kC0 (some 5) [([0,1],[]),([],[2,3])] (c0R hy0) (kD 2 ?_)
 obtain⟨y1,hy1,h1⟩:=a0l h0
 refine kC0 (some 8) [([0,1],[]),([],[2,3]),([],[]),([0,1],[]),([],[4,5])] (c0G hy1) ?_
 obtain⟨hm,h2⟩:=b0k h1
 refine kQ 9 (.str (y0++y1)) [] (tr2:=[([0,1],[]),([],[2,3]),([],[]),([0,1],[]),([],[4,5]),([],[])]) hm (kD 1 ?_)
 obtain⟨y2,hy2,h3⟩:=a0l h2
 refine kC0 (some 11) [([0,1],[]),([],[2,3]),([],[]),([0,1],[]),([],[4,5]),([],[]),([0,1],[]),([],[6,7])] (c0R hy2) ?_
 obtain⟨hm,h4⟩:=b0k h3
 refine kQ 12 (.str ((y0++y1)++y2)) [] (tr2:=[([0,1],[]),([],[2,3]),([],[]),([0,1],[]),([],[4,5]),([],[]),([0,1],[]),([],[6,7]),([],[])]) hm (kD 1 ?_)
 obtain⟨y3,hy3,h5⟩:=a0l h4
 refine kC0 (some 14) [([0,1],[]),([],[2,3]),([],[]),([0,1],[]),([],[4,5]),([],[]),([0,1],[]),([],[6,7]),([],[]),([0,1],[]),([],[8,9])] (f0K hy3) ?_
 obtain⟨hm,h6⟩:=b0k h5
 refine kQ 15 (.str (((y0++y1)++y2)++y3)) [] (tr2:=[([0,1],[]),([],[2,3]),([],[]),([0,1],[]),([],[4,5]),([],[]),([0,1],[]),([],[6,7]),([],[]),([0,1],[]),([],[8,9]),([],[])]) hm (kD 1 ?_)
 obtain⟨y4,hy4,h7⟩:=a0l h6
 refine kC0 (some 17) [([0,1],[]),([],[2,3]),([],[]),([0,1],[]),([],[4,5]),([],[]),([0,1],[]),([],[6,7]),([],[]),([0,1],[]),([],[8,9]),([],[]),([0,1],[]),([],[10,11])] (c0R hy4) ?_
 obtain⟨hm,h8⟩:=b0k h7
 refine kQ 18 (.str (((((y0++y1)++y2)++y3))++y4)) [] (tr2:=[([0,1],[]),([],[2,3]),([],[]),([0,1],[]),([],[4,5]),([],[]),([0,1],[]),([],[6,7]),([],[]),([0,1],[]),([],[8,9]),([],[]),([0,1],[]),([],[10,11]),([],[])]) hm (kD 2 ?_)
 obtain⟨y5,hy5,h9⟩:=a0l h8
 refine kC0 (some 21) [([0,1],[]),([],[2,3]),([],[]),([0,1],[]),([],[4,5]),([],[]),([0,1],[]),([],[6,7]),([],[]),([0,1],[]),([],[8,9]),([],[]),([0,1],[]),([],[10,11]),([],[]),([],[]),([0,1],[]),([],[12,13])] (c0G hy5) ?_
 obtain⟨hm,h10⟩:=b0k h9
 refine kQ 22 (.str (((((((y0++y1)++y2)++y3))++y4))++y5)) [] (tr2:=[([0,1],[]),([],[2,3]),([],[]),([0,1],[]),([],[4,5]),([],[]),([0,1],[]),([],[6,7]),([],[]),([0,1],[]),([],[8,9]),([],[]),([0,1],[]),([],[10,11]),([],[]),([],[]),([0,1],[]),([],[12,13]),([],[])]) hm (kD 1 ?_)
 obtain⟨y6,hy6,h11⟩:=a0l h10
 refine kC0 (some 24) [([0,1],[]),([],[2,3]),([],[]),([0,1],[]),([],[4,5]),([],[]),([0,1],[]),([],[6,7]),([],[]),([0,1],[]),([],[8,9]),([],[]),([0,1],[]),([],[10,11]),([],[]),([],[]),([0,1],[]),([],[12,13]),([],[]),([0,1],[]),([],[14,15])] (c0R hy6) ?_
 obtain⟨hm,h12⟩:=b0k h11
 refine kQ 25 (.str (((((((((y0++y1)++y2)++y3))++y4))++y5))++y6)) [] (tr2:=[([0,1],[]),([],[2,3]),([],[]),([0,1],[]),([],[4,5]),([],[]),([0,1],[]),([],[6,7]),([],[]),([0,1],[]),([],[8,9]),([],[]),([0,1],[]),([],[10,11]),([],[]),([],[]),([0,1],[]),([],[12,13]),([],[]),([0,1],[]),([],[14,15]),([],[])]) hm (kD 1 (kEN (kcN h12 (fun(s0:(List UInt8))=>([(2, .str ([]:List UInt8)),(3, .str s0)],[])) (λs0 hy7=> ?_) (λs0 h13=> ?_))))
 refine kq (kBT 27 hy7 (λh14=> ?_) (λh15=> ?_))
 refine kDr (kD 1 ?_)
 obtain⟨hm,h16⟩:=b0k h14
 refine kQ 29 (.str (((((((((((y0++y1)++y2)++y3))++y4))++y5))++y6))++([59]:List UInt8))) [] (tr2:=[([],[]),([],[])]) hm (kD 2 ?_)
 obtain⟨y7,hy8,h17⟩:=a0l h16
 refine kC0 (some 32) [([],[]),([],[]),([],[]),([0,1],[]),([],[16,17])] (c0G hy8) ?_
 obtain⟨hm,h18⟩:=b0k h17
 refine kQ 33 (.str (((((((((((((y0++y1)++y2)++y3))++y4))++y5))++y6))++([59]:List UInt8)))++y7)) [] (tr2:=[([],[]),([],[]),([],[]),([0,1],[]),([],[16,17]),([],[])]) hm (kD 1 ?_)
 obtain⟨y8,hy9,h19⟩:=a0l h18
 refine kC0 (some 35) [([],[]),([],[]),([],[]),([0,1],[]),([],[16,17]),([],[]),([0,1],[]),([],[18,19])] (f0K hy9) ?_
 obtain⟨hm,h20⟩:=b0k h19
 refine kQ 36 (.str (((((((((((((((y0++y1)++y2)++y3))++y4))++y5))++y6))++([59]:List UInt8)))++y7))++y8)) [] (tr2:=[([],[]),([],[]),([],[]),([0,1],[]),([],[16,17]),([],[]),([0,1],[]),([],[18,19]),([],[])]) hm (kD 2 ?_)
 obtain⟨y9,hy10,h21⟩:=a0l h20
 refine kC0 (some 39) [([],[]),([],[]),([],[]),([0,1],[]),([],[16,17]),([],[]),([0,1],[]),([],[18,19]),([],[]),([],[]),([0,1],[]),([],[20,21])] (c0G hy10) ?_
 obtain⟨hm,h22⟩:=b0k h21
 exact kQ 40 (.str (((((((((((((((((y0++y1)++y2)++y3))++y4))++y5))++y6))++([59]:List UInt8)))++y7))++y8))++y9)) [] (tr2:=[([],[]),([],[]),([],[]),([0,1],[]),([],[16,17]),([],[]),([0,1],[]),([],[18,19]),([],[]),([],[]),([0,1],[]),([],[20,21]),([],[])]) hm (kD 1 (kE (kNW h22 W V [])))
 exact kK (kNW h15 W V [])
 exact kq (kX (by cases h13;exact kZ D W V))
def c0l(x0 x1:List a0c):Option (Bool):=
 (bif(decide (¬(x0.length:Int)=(x1.length:Int)))then(some false)else(Option.bind (a0x (fun(s0:Int)=>(bif(decide (s0<(x0.length:Int)))then(bif inR s0 x0.length then(bif inR s0 x1.length then(bif(!((decide (((nth x0 s0).ae_)=((nth x1 s0).ae_)))&&((decide (((nth x0 s0).R_)=((nth x1 s0).R_)))&&true)))then(some (.inr (.inr false)))else(some (.inl (IntKind.wrap .i64 (s0+1)))))else none)else none)else(some (.inr (.inl ()))))) big 0) (a0m fun(s1:Unit)=>(some true))))
theorem d0o {x0 x1:List a0c} {r:Bool} (h:c0l x0 x1=some r):SQ 282 [lsv a0a 2 x0,lsv a0a 2 x1] [] (.bool r) []:=by
 refine kFn (fn:=Tryz.f282) (λF D W V=> ?_)
 unfold c0l at h
 refine kq (kS (kq (kBT 10 h (λh0=> ?_) (λh1=> ?_))))
 exact kq (kX (PJ.passRet (by cases h0;exact kZ D W V)))
 refine kKN (kcX h1 (fun(s1:Unit)=>([(4, .bool false)],[])) (λy0 hy0 h2=> ?_) (λs1 h3=> ?_))
 refine kq (kb 0 (kl (fun(s0:Int)=>([(0,lsv a0a 2 x0),(1,lsv a0a 2 x1),(4, .bool false),(5,iL s0)],[])) hy0 [0,1,4,5] (λs0 x79 hs0=>kS (kq (kBT 14 hs0 (λh4=> ?_) (λh5=> ?_))))))
 refine kKN (kS (kb 1 (kS (kDr (kD 2 ?_)))))
 obtain⟨hm,h6⟩:=b0k h4
 refine kJ 19 (tr2:=[([],[]),([],[]),([],[])]) a0C hm (kD 3 ?_)
 obtain⟨hm,h7⟩:=b0k h6
 exact kJ 23 (tr2:=[([],[]),([],[]),([],[]),([],[]),([],[]),([],[]),([],[])]) a0C hm (kD 2 (kEN (kBT 25 h7 (λh8=>kq (kXp (kLx h8 (λh10=>PJ.blockRet (kCx h10 h2 (λh11=>by obtain rfl:=oi h11;exact kZ D W V)))))) (λh9=>kKn (kM (kLo h9 [0,1,4,5]))))))
 exact kEp 0 (kLx h5 (λh12=>PJ.blockOut (kXo h12 [4])))
 exact kq (kX (by cases h3;exact kZ D W V))
def d0y(x0 x1:a0j):Option (Bool):=
 (Option.bind (Option.bind (c0l x0.c_ x1.c_) λy0=>(bif y0 then(Option.bind (c0l x0.e_ x1.e_) λy1=>(some y1))else(some false))) fun(s0:Bool)=>(Option.bind (Option.bind (c0l x0.A_ x1.A_) λy2=>(bif y2 then(Option.bind (c0l x0.y_ x1.y_) λy3=>(some y3))else(some false))) fun(s1:Bool)=>(Option.bind (Option.bind (bif(!s0)then(some true)else(bif(!s1)then(some true)else(bif(x0.O_ !=x1.O_)then(some true)else(bif(decide (¬x0.B_=x1.B_))then(some true)else(bif(decide (¬x0.P_=x1.P_))then(some true)else(some (x0.U_ !=x1.U_))))))) fun(s2:Bool)=>(bif s2 then(some (.inr false))else(some (.inl ())))) (a0m fun(s5:Unit)=>(Option.bind (bif(decide (x0.I_=x1.I_))then(bif(decide (x0.z_=x1.z_))then(bif(decide (x0.p_=x1.p_))then(some (decide (x0.w_=x1.w_)))else(some false))else(some false))else(some false)) fun(s3:Bool)=>(Option.bind (bif s3 then(bif(decide (x0.v_=x1.v_))then(bif(decide (x0.o_=x1.o_))then(bif(decide (x0.s_=x1.s_))then(bif(decide (x0.u_=x1.u_))then(some (decide (x0.b_=x1.b_)))else(some false))else(some false))else(some false))else(some false))else(some false)) fun(s4:Bool)=>(some s4)))))))
theorem k0s {x0 x1:a0j} {r:Bool} (h:d0y x0 x1=some r):SQ 215 [.agg (a0b x0), .agg (a0b x1)] [] (.bool r) []:=by
 refine kFn (fn:=Tryz.f215) (λF D W V=> ?_)
 unfold d0y at h
 exact kq (kcN h (fun(s0:Bool)=>([(2, .ptr 0 0),(3, .ptr 1 0),(4, .bool false),(5, .bool s0)],[.box (a0b x0), .box (a0b x1)])) (λs0 hy0=>km 4 (kAb 12 hy0 (λ_=>d0o) (λy0 h1=>kc 1 (kB 13 h1 (λh2=>kc 4 (kAb 18 h2 (λ_=>d0o) (λy1 h4=>ke 2 (kNo h4 [2,3,4,5])))) (λh3=>ke 7 (kNo h3 [2,3,4,5])))))) (λs0 h0=>kcN h0 (fun(s1:Bool)=>([(2, .ptr 0 0),(3, .ptr 1 0),(4, .bool false),(5, .bool s0),(6, .bool s1)],[.box (a0b x0), .box (a0b x1)])) (λs1 hy1=>km 4 (kAb 24 hy1 (λ_=>d0o) (λy2 h6=>kc 1 (kB 25 h6 (λh7=>kc 4 (kAb 30 h7 (λ_=>d0o) (λy3 h9=>ke 2 (kNo h9 [2,3,4,5,6])))) (λh8=>ke 7 (kNo h8 [2,3,4,5,6])))))) (λs1 h5=>kcX h5 (fun(s5:Unit)=>([(2, .ptr 0 0),(3, .ptr 1 0),(4, .bool false)],[.box (a0b x0), .box (a0b x1)])) (λy4 hy2 h10=>kcN hy2 (fun(s2:Bool)=>([(2, .ptr 0 0),(3, .ptr 1 0),(4, .bool false),(65, .bool s2)],[.box (a0b x0), .box (a0b x1)])) (λs2 hy3=>km 3 (kB 34 hy3 (λh13=>ke 31 (kNo h13 [2,3,4,65])) (λh14=>kc 4 (kB 38 h14 (λh15=>ke 27 (kNo h15 [2,3,4,65])) (λh16=>kc 7 (kB 45 h16 (λh17=>ke 20 (kNo h17 [2,3,4,65])) (λh18=>kc 7 (kB 52 h18 (λh19=>ke 13 (kNo h19 [2,3,4,65])) (λh20=>kc 7 (kB 59 h20 (λh21=>ke 6 (kNo h21 [2,3,4,65])) (λh22=>ke 6 (kNo h22 [2,3,4,65])))))))))))) (λs2 h12=>kBT 65 h12 (λh23=>kq (kX (kCx h23 h10 (λh25=>by obtain rfl:=oi h25;exact kZ D W V)))) (λh24=>kK (kXo h24 [2,3,4])))) (λs5 h11=>kcN h11 (fun(s3:Bool)=>([(2, .ptr 0 0),(3, .ptr 1 0),(4, .bool false),(7, .bool s3)],[.box (a0b x0), .box (a0b x1)])) (λs3 hy4=>km 6 (kB 71 hy4 (λh27=>kc 7 (kB 78 h27 (λh29=>kc 7 (kB 85 h29 (λh31=>ke 7 (kNo h31 [2,3,4,7])) (λh32=>ke 7 (kNo h32 [2,3,4,7])))) (λh30=>ke 14 (kNo h30 [2,3,4,7])))) (λh28=>ke 21 (kNo h28 [2,3,4,7])))) (λs3 h26=>kcN h26 (fun(s4:Bool)=>([(4, .bool s4)],[])) (λs4 hy5=>km 2 (kB 93 hy5 (λh34=>kc 7 (kB 100 h34 (λh36=>kc 7 (kB 107 h36 (λh38=>kc 7 (kB 114 h38 (λh40=>kc 7 (kB 121 h40 (λh42=>ke 7 (kNW h42 W V [])) (λh43=>ke 7 (kNW h43 W V [])))) (λh41=>ke 14 (kNW h41 W V [])))) (λh39=>ke 21 (kNW h39 W V [])))) (λh37=>ke 28 (kNW h37 W V [])))) (λh35=>ke 35 (kNW h35 W V [])))) (λs4 h33=>kX (by cases h33;exact kZ D W V)))))))
def b0B(x0:a0j):Option (Bool):=
 (Option.bind (a0x (fun(s0:Int)=>(bif(decide (s0<(([x0.I_,x0.z_,x0.v_,x0.o_,x0.p_,x0.w_,x0.s_,x0.u_,x0.b_]:List Int).length:Int)))then(Option.bind (Option.bind (bif inR s0 ([x0.I_,x0.z_,x0.v_,x0.o_,x0.p_,x0.w_,x0.s_,x0.u_,x0.b_]:List Int).length then(bif inR s0 ([x0.I_,x0.z_,x0.v_,x0.o_,x0.p_,x0.w_,x0.s_,x0.u_,x0.b_]:List Int).length then(bif(decide ((nth ([x0.I_,x0.z_,x0.v_,x0.o_,x0.p_,x0.w_,x0.s_,x0.u_,x0.b_]:List Int) s0)<0))then(some true)else(bif inR s0 ([x0.I_,x0.z_,x0.v_,x0.o_,x0.p_,x0.w_,x0.s_,x0.u_,x0.b_]:List Int).length then(bif inR s0 ([x0.I_,x0.z_,x0.v_,x0.o_,x0.p_,x0.w_,x0.s_,x0.u_,x0.b_]:List Int).length then(some ((decide ((nth ([x0.I_,x0.z_,x0.v_,x0.o_,x0.p_,x0.w_,x0.s_,x0.u_,x0.b_]:List Int) s0)>40))))else none)else none))else none)else none) fun(s2:Bool)=>(bif s2 then(some (.inr (.inr (.inr false))))else(some (.inl ())))) (a0m fun(s6:Unit)=>(some (.inl (IntKind.wrap .i64 (s0+1))))))else(some (.inr (.inl ()))))) big 0) (a0m fun(s7:Unit)=>(Option.bind (b0p x0.B_) λy0=>(Option.bind (Option.bind (b0A x0.c_) λy2=>(bif y2 then(Option.bind (b0A x0.e_) λy3=>(some y3))else(some false))) fun(s1:Bool)=>(Option.bind (Option.bind (b0A x0.A_) λy4=>(bif y4 then(Option.bind (b0A x0.y_) λy5=>(some y5))else(some false))) fun(s3:Bool)=>(Option.bind (Option.bind (bif(!y0)then(some true)else(bif(!s1)then(some true)else(some (!s3)))) fun(s4:Bool)=>(bif s4 then(some (.inr false))else(some (.inl ())))) (a0m fun(s8:Unit)=>(Option.bind (d0x x0) λy6=>(Option.bind (a0B y6) λy1=>(Option.bind (bif(decide (y1.2.2=0))then(Option.bind (d0y x0 y1.1) λy7=>(some y7))else(some false)) fun(s5:Bool)=>(some s5)))))))))))
theorem g0f {x0:a0j} {r:Bool} (h:b0B x0=some r):SQ 136 [.agg (a0b x0)] [] (.bool r) []:=by
 refine kFn (fn:=Tryz.f136) (λF D W V=> ?_)
 unfold b0B at h
 refine kq (kq (kcX h (fun(s7:Unit)=>([(1, .ptr 0 0),(2, .bool false)],[.box (a0b x0)])) (λy8 hy0 h0=> ?_) (λs7 h1=> ?_)))
 refine kq (kb 0 (kl (fun(s0:Int)=>([(1, .ptr 0 0),(2, .bool false),(3, .vc 1),(4,iL s0)],[.box (a0b x0),a0H (a0s .i64) 1 3 ([x0.I_,x0.z_,x0.v_,x0.o_,x0.p_,x0.w_,x0.s_,x0.u_,x0.b_]:List Int)])) hy0 [1,2,3,4] (λs0 x321 hs0=>kS (kq (kBT 33 hs0 (λh2=> ?_) (λh3=> ?_))))))
 refine kKN (kcX h2 (fun(s6:Unit)=>([(1, .ptr 0 0),(2, .bool false),(3, .vc 1),(4,iL s0)],[.box (a0b x0),a0H (a0s .i64) 1 3 ([x0.I_,x0.z_,x0.v_,x0.o_,x0.p_,x0.w_,x0.s_,x0.u_,x0.b_]:List Int)])) (λy9 hy1 h4=> ?_) (λs6 h5=> ?_))
 refine kb 1 (kcN hy1 (fun(s2:Bool)=>([(1, .ptr 0 0),(2, .bool false),(3, .vc 1),(4,iL s0),(47, .bool s2)],[.box (a0b x0),a0H (a0s .i64) 1 3 ([x0.I_,x0.z_,x0.v_,x0.o_,x0.p_,x0.w_,x0.s_,x0.u_,x0.b_]:List Int)])) (λs2 hy2=> ?_) (λs2 h6=> ?_))
 refine km 2 ?_
 obtain⟨hm,h7⟩:=b0k hy2
 refine kQ 38 (.ptr 1 ((s0:Int).toNat*1)) [1] (tr2:=[]) hm ?_
 obtain⟨hm,h8⟩:=b0k h7
 refine RJ.rel (d:=(some 39)) (ef:=⟨(((([x0.I_,x0.z_,x0.v_,x0.o_,x0.p_,x0.w_,x0.s_,x0.u_,x0.b_]:List Int)).flatMap (a0s .i64)).drop ((s0:Int).toNat*1)).headD .undef,[1],[]⟩) (ef':=⟨iL (nth ([x0.I_,x0.z_,x0.v_,x0.o_,x0.p_,x0.w_,x0.s_,x0.u_,x0.b_]:List Int) s0),[1],[]⟩) (c:=Nat.blt ((s0:Int).toNat*1) (([x0.I_,x0.z_,x0.v_,x0.o_,x0.p_,x0.w_,x0.s_,x0.u_,x0.b_]:List Int).flatMap (a0s .i64)).length) (tr2:=[]) (H2:=[.box (a0b x0),a0H (a0s .i64) 1 3 ([x0.I_,x0.z_,x0.v_,x0.o_,x0.p_,x0.w_,x0.s_,x0.u_,x0.b_]:List Int)]) (by kernel_rfl) (h0p (a0r .i64) rfl hm) (λhc=>N.load1 (a0r .i64) (λ_=>rfl) hm) (by kernel_rfl) (kc 2 (kB 41 h8 (λh9=> ?_) (λh10=> ?_)))
 exact ke 6 (kNo h9 [1,2,3,4,47])
 refine kc 2 ?_
 obtain⟨hm,h11⟩:=b0k h10
 refine kQ 44 (.ptr 1 ((s0:Int).toNat*1)) [1] (tr2:=[]) hm ?_
 obtain⟨hm,h12⟩:=b0k h11
 exact RJ.rel (d:=(some 45)) (ef:=⟨(((([x0.I_,x0.z_,x0.v_,x0.o_,x0.p_,x0.w_,x0.s_,x0.u_,x0.b_]:List Int)).flatMap (a0s .i64)).drop ((s0:Int).toNat*1)).headD .undef,[1],[]⟩) (ef':=⟨iL (nth ([x0.I_,x0.z_,x0.v_,x0.o_,x0.p_,x0.w_,x0.s_,x0.u_,x0.b_]:List Int) s0),[1],[]⟩) (c:=Nat.blt ((s0:Int).toNat*1) (([x0.I_,x0.z_,x0.v_,x0.o_,x0.p_,x0.w_,x0.s_,x0.u_,x0.b_]:List Int).flatMap (a0s .i64)).length) (tr2:=[]) (H2:=[.box (a0b x0),a0H (a0s .i64) 1 3 ([x0.I_,x0.z_,x0.v_,x0.o_,x0.p_,x0.w_,x0.s_,x0.u_,x0.b_]:List Int)]) (by kernel_rfl) (h0p (a0r .i64) rfl hm) (λhc=>N.load1 (a0r .i64) (λ_=>rfl) hm) (by kernel_rfl) (ke 2 (kNo h12 [1,2,3,4,47]))
 exact kBT 47 h6 (λh13=>kq (kXb (kCx h13 h4 (λh15=>kLx h15 (λh16=>PJ.blockRet (kCx h16 h0 (λh17=>by obtain rfl:=oi h17;exact kZ D W V))))))) (λh14=>kKb (kXo h14 [1,2,3,4]))
 exact kM (kLo h5 [1,2,3,4])
 exact kEp 0 (kLx h3 (λh18=>PJ.blockOut (kXW h18 W V [0])))
 exact kn 2 (kAb 50 h1 (λ_=>d0i) (λy0 h19=>kr 1 (kcN h19 (fun(s1:Bool)=>([(1, .ptr 0 0),(2, .bool false),(5, .bool y0),(6, .bool s1)],[.box (a0b x0)])) (λs1 hy3=>km 2 (kAb 53 hy3 (λ_=>d0e) (λy2 h21=>kc 1 (kB 54 h21 (λh22=>kc 2 (kAb 57 h22 (λ_=>d0e) (λy3 h24=>ke 2 (kNo h24 [1,2,5,6])))) (λh23=>ke 5 (kNo h23 [1,2,5,6])))))) (λs1 h20=>kcN h20 (fun(s3:Bool)=>([(1, .ptr 0 0),(2, .bool false),(5, .bool y0),(6, .bool s1),(7, .bool s3)],[.box (a0b x0)])) (λs3 hy4=>km 2 (kAb 61 hy4 (λ_=>d0e) (λy4 h26=>kc 1 (kB 62 h26 (λh27=>kc 2 (kAb 65 h27 (λ_=>d0e) (λy5 h29=>ke 2 (kNo h29 [1,2,5,6,7])))) (λh28=>ke 5 (kNo h28 [1,2,5,6,7])))))) (λs3 h25=>kcX h25 (fun(s8:Unit)=>([(1, .ptr 0 0),(2, .bool false)],[.box (a0b x0)])) (λy10 hy5 h30=>kcN hy5 (fun(s4:Bool)=>([(1, .ptr 0 0),(2, .bool false),(76, .bool s4)],[.box (a0b x0)])) (λs4 hy6=>km 3 (kB 69 hy6 (λh33=>ke 7 (kNo h33 [1,2,76])) (λh34=>kc 4 (kB 73 h34 (λh35=>ke 3 (kNo h35 [1,2,76])) (λh36=>ke 3 (kNo h36 [1,2,76])))))) (λs4 h32=>kBT 76 h32 (λh37=>kq (kX (kCx h37 h30 (λh39=>by obtain rfl:=oi h39;exact kZ D W V)))) (λh38=>kK (kXo h38 [1,2])))) (λs8 h31=>kn 1 (kAb 79 h31 (λ_=>k0q) (λy6 h40=>kAb 80 h40 (λ_=>e0g) (λy1 h41=>kr 8 (kcN h41 (fun(s5:Bool)=>([(2, .bool s5)],[])) (λs5 hy7=>km 3 (kB 86 hy7 (λh43=>kc 2 (kAb 89 h43 (λ_=>k0s) (λy7 h45=>ke 2 (kNW h45 W V [])))) (λh44=>ke 5 (kNW h44 W V [])))) (λs5 h42=>kX (by cases h42;exact kZ D W V))))))))))))
def b0U(x0:Int)(x1:List a0c)(x2:Int):Option (Bool):=
 (Option.bind (a0x (fun(s0:Int×Int×Int×Int×Int×Int)=>(bif(decide (s0.1<(x1.length:Int)))then(bif inR s0.1 x1.length then(bif inR s0.1 x1.length then(bif(decide (((nth x1 s0.1).ae_)=0))then(bif(decide (((nth x1 s0.1).ae_)=0))then(some (.inl ((IntKind.wrap .i64 (s0.1+1)),(IntKind.wrap .i64 (s0.2.1+1)),s0.2.2.1,s0.2.2.2.1,s0.2.2.2.2.1,s0.2.2.2.2.2)))else(bif(decide (((nth x1 s0.1).ae_)=1))then(some (.inl ((IntKind.wrap .i64 (s0.1+1)),s0.2.1,(IntKind.wrap .i64 (s0.2.1+1)),s0.2.2.2.1,s0.2.2.2.2.1,s0.2.2.2.2.2)))else(bif(decide (((nth x1 s0.1).ae_)=2))then(some (.inl ((IntKind.wrap .i64 (s0.1+1)),s0.2.1,s0.2.2.1,(IntKind.wrap .i64 (s0.2.1+1)),s0.2.2.2.2.1,s0.2.2.2.2.2)))else(bif(decide (((nth x1 s0.1).ae_)=3))then(some (.inl ((IntKind.wrap .i64 (s0.1+1)),s0.2.1,s0.2.2.1,s0.2.2.2.1,(IntKind.wrap .i64 (s0.2.1+1)),s0.2.2.2.2.2)))else(bif(decide (((nth x1 s0.1).ae_)=4))then(some (.inl ((IntKind.wrap .i64 (s0.1+1)),s0.2.1,s0.2.2.1,s0.2.2.2.1,s0.2.2.2.2.1,(IntKind.wrap .i64 (s0.2.1+1)))))else none)))))else(bif(decide (((nth x1 s0.1).ae_)=1))then(bif(decide (((nth x1 s0.1).ae_)=0))then(some (.inl ((IntKind.wrap .i64 (s0.1+1)),(IntKind.wrap .i64 (s0.2.2.1+1)),s0.2.2.1,s0.2.2.2.1,s0.2.2.2.2.1,s0.2.2.2.2.2)))else(bif(decide (((nth x1 s0.1).ae_)=1))then(some (.inl ((IntKind.wrap .i64 (s0.1+1)),s0.2.1,(IntKind.wrap .i64 (s0.2.2.1+1)),s0.2.2.2.1,s0.2.2.2.2.1,s0.2.2.2.2.2)))else(bif(decide (((nth x1 s0.1).ae_)=2))then(some (.inl ((IntKind.wrap .i64 (s0.1+1)),s0.2.1,s0.2.2.1,(IntKind.wrap .i64 (s0.2.2.1+1)),s0.2.2.2.2.1,s0.2.2.2.2.2)))else(bif(decide (((nth x1 s0.1).ae_)=3))then(some (.inl ((IntKind.wrap .i64 (s0.1+1)),s0.2.1,s0.2.2.1,s0.2.2.2.1,(IntKind.wrap .i64 (s0.2.2.1+1)),s0.2.2.2.2.2)))else(bif(decide (((nth x1 s0.1).ae_)=4))then(some (.inl ((IntKind.wrap .i64 (s0.1+1)),s0.2.1,s0.2.2.1,s0.2.2.2.1,s0.2.2.2.2.1,(IntKind.wrap .i64 (s0.2.2.1+1)))))else none)))))else(bif(decide (((nth x1 s0.1).ae_)=2))then(bif(decide (((nth x1 s0.1).ae_)=0))then(some (.inl ((IntKind.wrap .i64 (s0.1+1)),(IntKind.wrap .i64 (s0.2.2.2.1+1)),s0.2.2.1,s0.2.2.2.1,s0.2.2.2.2.1,s0.2.2.2.2.2)))else(bif(decide (((nth x1 s0.1).ae_)=1))then(some (.inl ((IntKind.wrap .i64 (s0.1+1)),s0.2.1,(IntKind.wrap .i64 (s0.2.2.2.1+1)),s0.2.2.2.1,s0.2.2.2.2.1,s0.2.2.2.2.2)))else(bif(decide (((nth x1 s0.1).ae_)=2))then(some (.inl ((IntKind.wrap .i64 (s0.1+1)),s0.2.1,s0.2.2.1,(IntKind.wrap .i64 (s0.2.2.2.1+1)),s0.2.2.2.2.1,s0.2.2.2.2.2)))else(bif(decide (((nth x1 s0.1).ae_)=3))then(some (.inl ((IntKind.wrap .i64 (s0.1+1)),s0.2.1,s0.2.2.1,s0.2.2.2.1,(IntKind.wrap .i64 (s0.2.2.2.1+1)),s0.2.2.2.2.2)))else(bif(decide (((nth x1 s0.1).ae_)=4))then(some (.inl ((IntKind.wrap .i64 (s0.1+1)),s0.2.1,s0.2.2.1,s0.2.2.2.1,s0.2.2.2.2.1,(IntKind.wrap .i64 (s0.2.2.2.1+1)))))else none)))))else(bif(decide (((nth x1 s0.1).ae_)=3))then(bif(decide (((nth x1 s0.1).ae_)=0))then(some (.inl ((IntKind.wrap .i64 (s0.1+1)),(IntKind.wrap .i64 (s0.2.2.2.2.1+1)),s0.2.2.1,s0.2.2.2.1,s0.2.2.2.2.1,s0.2.2.2.2.2)))else(bif(decide (((nth x1 s0.1).ae_)=1))then(some (.inl ((IntKind.wrap .i64 (s0.1+1)),s0.2.1,(IntKind.wrap .i64 (s0.2.2.2.2.1+1)),s0.2.2.2.1,s0.2.2.2.2.1,s0.2.2.2.2.2)))else(bif(decide (((nth x1 s0.1).ae_)=2))then(some (.inl ((IntKind.wrap .i64 (s0.1+1)),s0.2.1,s0.2.2.1,(IntKind.wrap .i64 (s0.2.2.2.2.1+1)),s0.2.2.2.2.1,s0.2.2.2.2.2)))else(bif(decide (((nth x1 s0.1).ae_)=3))then(some (.inl ((IntKind.wrap .i64 (s0.1+1)),s0.2.1,s0.2.2.1,s0.2.2.2.1,(IntKind.wrap .i64 (s0.2.2.2.2.1+1)),s0.2.2.2.2.2)))else(bif(decide (((nth x1 s0.1).ae_)=4))then(some (.inl ((IntKind.wrap .i64 (s0.1+1)),s0.2.1,s0.2.2.1,s0.2.2.2.1,s0.2.2.2.2.1,(IntKind.wrap .i64 (s0.2.2.2.2.1+1)))))else none)))))else(bif(decide (((nth x1 s0.1).ae_)=4))then(bif(decide (((nth x1 s0.1).ae_)=0))then(some (.inl ((IntKind.wrap .i64 (s0.1+1)),(IntKind.wrap .i64 (s0.2.2.2.2.2+1)),s0.2.2.1,s0.2.2.2.1,s0.2.2.2.2.1,s0.2.2.2.2.2)))else(bif(decide (((nth x1 s0.1).ae_)=1))then(some (.inl ((IntKind.wrap .i64 (s0.1+1)),s0.2.1,(IntKind.wrap .i64 (s0.2.2.2.2.2+1)),s0.2.2.2.1,s0.2.2.2.2.1,s0.2.2.2.2.2)))else(bif(decide (((nth x1 s0.1).ae_)=2))then(some (.inl ((IntKind.wrap .i64 (s0.1+1)),s0.2.1,s0.2.2.1,(IntKind.wrap .i64 (s0.2.2.2.2.2+1)),s0.2.2.2.2.1,s0.2.2.2.2.2)))else(bif(decide (((nth x1 s0.1).ae_)=3))then(some (.inl ((IntKind.wrap .i64 (s0.1+1)),s0.2.1,s0.2.2.1,s0.2.2.2.1,(IntKind.wrap .i64 (s0.2.2.2.2.2+1)),s0.2.2.2.2.2)))else(bif(decide (((nth x1 s0.1).ae_)=4))then(some (.inl ((IntKind.wrap .i64 (s0.1+1)),s0.2.1,s0.2.2.1,s0.2.2.2.1,s0.2.2.2.2.1,(IntKind.wrap .i64 (s0.2.2.2.2.2+1)))))else none)))))else none)))))else none)else none)else(some (.inr (s0.2.1,s0.2.2.1,s0.2.2.2.1,s0.2.2.2.2.1,s0.2.2.2.2.2))))) big (0,0,0,0,0,0)) fun(s1:Int×Int×Int×Int×Int)=>(Option.bind (bif(decide (x0=1))then(some 1)else(some 0)) fun(s2:Int)=>(Option.bind (bif(decide (x0=3))then(some 1)else(some 0)) fun(s3:Int)=>(Option.bind (bif(decide (s1.2.1<=x2))then(bif(decide (s1.2.2.1=0))then(bif(decide (s1.2.2.2.1=s2))then(some (decide (s1.2.2.2.2=s3)))else(some false))else(some false))else(some false)) fun(s4:Bool)=>(some s4)))))
theorem e0d {x0:Int} {x1:List a0c} {x2:Int} {r:Bool} (h:b0U x0 x1 x2=some r):SQ 137 [iL x0,lsv a0a 2 x1,iL x2] [] (.bool r) []:=by
 refine kFn (fn:=Tryz.f137) (λF D W V=> ?_)
 unfold b0U at h
 refine kq (kq (kcN h (fun(s1:Int×Int×Int×Int×Int)=>([(0,iL x0),(2,iL x2),(6, .bool false),(7, .ptr 0 0)],[.box [iL s1.1,iL s1.2.1,iL s1.2.2.1,iL s1.2.2.2.1,iL s1.2.2.2.2]])) (λs1 hy0=> ?_) (λs1 h30=> ?_)))
 ·refine kq (kb 0 (kl (fun(s0:Int×Int×Int×Int×Int×Int)=>([(0,iL x0),(1,lsv a0a 2 x1),(2,iL x2),(6, .bool false),(7, .ptr 0 0),(8,iL s0.1)],[.box [iL s0.2.1,iL s0.2.2.1,iL s0.2.2.2.1,iL s0.2.2.2.2.1,iL s0.2.2.2.2.2]])) hy0 [0,1,2,6,7,8] (λs0 x496 hs0=>kS (kq (kBT 15 hs0 (λh31=> ?_) (λh32=> ?_))))))
  ·refine kKN (kS (kb 1 (kDr (kD 2 ?_))))
   obtain⟨hm,h33⟩:=b0k h31
   refine kJ 20 (tr2:=[([],[]),([],[]),([],[])]) a0C hm (kD 4 ?_)
   obtain⟨hm,h0⟩:=b0k h33
   refine kJ 25 (tr2:=[([],[]),([],[]),([],[]),([],[]),([],[]),([],[]),([],[]),([],[])]) a0C hm (kD 2 ?_)
   cases hb0:(decide (((nth x1 s0.1).ae_)=0))
   ·have h1:=condF hb0 h0
    cases hb1:(decide (((nth x1 s0.1).ae_)=1))
    ·have h2:=condF hb1 h1
     cases hb2:(decide (((nth x1 s0.1).ae_)=2))
     ·have h3:=condF hb2 h2
      cases hb3:(decide (((nth x1 s0.1).ae_)=3))
      ·have h4:=condF hb3 h3
       cases hb4:(decide (((nth x1 s0.1).ae_)=4))
       have h34:=condF hb4 h4
       cases h34
       ·have h5:=condT hb4 h4
        refine RJ.pin 27 (kd:= .i64) (by kernel_rfl) (of_decide_eq_true hb4) (kD 3 ?_)
        cases hb5:(decide (((nth x1 s0.1).ae_)=0))
        ·have h6:=condF hb5 h5
         cases hb6:(decide (((nth x1 s0.1).ae_)=1))
         ·have h7:=condF hb6 h6
          cases hb7:(decide (((nth x1 s0.1).ae_)=2))
          ·have h8:=condF hb7 h7
           cases hb8:(decide (((nth x1 s0.1).ae_)=3))
           ·have h9:=condF hb8 h8
            cases hb9:(decide (((nth x1 s0.1).ae_)=4))
            have h35:=condF hb9 h9
            cases h35
            ·have h36:=condT hb9 h9
             exact RJ.pin 22 (kd:= .i64) (by kernel_rfl) (of_decide_eq_true hb9) (kD 2 (kE (PJ.blockNormal (PJ.next (kM (kLo h36 [0,1,2,6,7,8]))))))
           ·have h37:=condT hb8 h8
            exact RJ.pin 22 (kd:= .i64) (by kernel_rfl) (of_decide_eq_true hb8) (kD 2 (kE (PJ.blockNormal (PJ.next (kM (kLo h37 [0,1,2,6,7,8]))))))
          ·have h38:=condT hb7 h7
           exact RJ.pin 22 (kd:= .i64) (by kernel_rfl) (of_decide_eq_true hb7) (kD 2 (kE (PJ.blockNormal (PJ.next (kM (kLo h38 [0,1,2,6,7,8]))))))
         ·have h39:=condT hb6 h6
          exact RJ.pin 22 (kd:= .i64) (by kernel_rfl) (of_decide_eq_true hb6) (kD 2 (kE (PJ.blockNormal (PJ.next (kM (kLo h39 [0,1,2,6,7,8]))))))
        ·have h40:=condT hb5 h5
         exact RJ.pin 22 (kd:= .i64) (by kernel_rfl) (of_decide_eq_true hb5) (kD 2 (kE (PJ.blockNormal (PJ.next (kM (kLo h40 [0,1,2,6,7,8]))))))
      ·have h10:=condT hb3 h3
       refine RJ.pin 27 (kd:= .i64) (by kernel_rfl) (of_decide_eq_true hb3) (kD 3 ?_)
       cases hb10:(decide (((nth x1 s0.1).ae_)=0))
       ·have h11:=condF hb10 h10
        cases hb11:(decide (((nth x1 s0.1).ae_)=1))
        ·have h12:=condF hb11 h11
         cases hb12:(decide (((nth x1 s0.1).ae_)=2))
         ·have h13:=condF hb12 h12
          cases hb13:(decide (((nth x1 s0.1).ae_)=3))
          ·have h14:=condF hb13 h13
           cases hb14:(decide (((nth x1 s0.1).ae_)=4))
           have h41:=condF hb14 h14
           cases h41
           ·have h42:=condT hb14 h14
            exact RJ.pin 22 (kd:= .i64) (by kernel_rfl) (of_decide_eq_true hb14) (kD 2 (kE (PJ.blockNormal (PJ.next (kM (kLo h42 [0,1,2,6,7,8]))))))
          ·have h43:=condT hb13 h13
           exact RJ.pin 22 (kd:= .i64) (by kernel_rfl) (of_decide_eq_true hb13) (kD 2 (kE (PJ.blockNormal (PJ.next (kM (kLo h43 [0,1,2,6,7,8]))))))
         ·have h44:=condT hb12 h12
          exact RJ.pin 22 (kd:= .i64) (by kernel_rfl) (of_decide_eq_true hb12) (kD 2 (kE (PJ.blockNormal (PJ.next (kM (kLo h44 [0,1,2,6,7,8]))))))
        ·have h45:=condT hb11 h11
         exact RJ.pin 22 (kd:= .i64) (by kernel_rfl) (of_decide_eq_true hb11) (kD 2 (kE (PJ.blockNormal (PJ.next (kM (kLo h45 [0,1,2,6,7,8]))))))
       ·have h46:=condT hb10 h10
        exact RJ.pin 22 (kd:= .i64) (by kernel_rfl) (of_decide_eq_true hb10) (kD 2 (kE (PJ.blockNormal (PJ.next (kM (kLo h46 [0,1,2,6,7,8]))))))
     ·have h15:=condT hb2 h2
      refine RJ.pin 27 (kd:= .i64) (by kernel_rfl) (of_decide_eq_true hb2) (kD 3 ?_)
      cases hb15:(decide (((nth x1 s0.1).ae_)=0))
      ·have h16:=condF hb15 h15
       cases hb16:(decide (((nth x1 s0.1).ae_)=1))
       ·have h17:=condF hb16 h16
        cases hb17:(decide (((nth x1 s0.1).ae_)=2))
        ·have h18:=condF hb17 h17
         cases hb18:(decide (((nth x1 s0.1).ae_)=3))
         ·have h19:=condF hb18 h18
          cases hb19:(decide (((nth x1 s0.1).ae_)=4))
          have h47:=condF hb19 h19
          cases h47
          ·have h48:=condT hb19 h19
           exact RJ.pin 22 (kd:= .i64) (by kernel_rfl) (of_decide_eq_true hb19) (kD 2 (kE (PJ.blockNormal (PJ.next (kM (kLo h48 [0,1,2,6,7,8]))))))
         ·have h49:=condT hb18 h18
          exact RJ.pin 22 (kd:= .i64) (by kernel_rfl) (of_decide_eq_true hb18) (kD 2 (kE (PJ.blockNormal (PJ.next (kM (kLo h49 [0,1,2,6,7,8]))))))
        ·have h50:=condT hb17 h17
         exact RJ.pin 22 (kd:= .i64) (by kernel_rfl) (of_decide_eq_true hb17) (kD 2 (kE (PJ.blockNormal (PJ.next (kM (kLo h50 [0,1,2,6,7,8]))))))
       ·have h51:=condT hb16 h16
        exact RJ.pin 22 (kd:= .i64) (by kernel_rfl) (of_decide_eq_true hb16) (kD 2 (kE (PJ.blockNormal (PJ.next (kM (kLo h51 [0,1,2,6,7,8]))))))
      ·have h52:=condT hb15 h15
       exact RJ.pin 22 (kd:= .i64) (by kernel_rfl) (of_decide_eq_true hb15) (kD 2 (kE (PJ.blockNormal (PJ.next (kM (kLo h52 [0,1,2,6,7,8]))))))
    ·have h20:=condT hb1 h1
     refine RJ.pin 27 (kd:= .i64) (by kernel_rfl) (of_decide_eq_true hb1) (kD 3 ?_)
     cases hb20:(decide (((nth x1 s0.1).ae_)=0))
     ·have h21:=condF hb20 h20
      cases hb21:(decide (((nth x1 s0.1).ae_)=1))
      ·have h22:=condF hb21 h21
       cases hb22:(decide (((nth x1 s0.1).ae_)=2))
       ·have h23:=condF hb22 h22
        cases hb23:(decide (((nth x1 s0.1).ae_)=3))
        ·have h24:=condF hb23 h23
         cases hb24:(decide (((nth x1 s0.1).ae_)=4))
         have h53:=condF hb24 h24
         cases h53
         ·have h54:=condT hb24 h24
          exact RJ.pin 22 (kd:= .i64) (by kernel_rfl) (of_decide_eq_true hb24) (kD 2 (kE (PJ.blockNormal (PJ.next (kM (kLo h54 [0,1,2,6,7,8]))))))
        ·have h55:=condT hb23 h23
         exact RJ.pin 22 (kd:= .i64) (by kernel_rfl) (of_decide_eq_true hb23) (kD 2 (kE (PJ.blockNormal (PJ.next (kM (kLo h55 [0,1,2,6,7,8]))))))
       ·have h56:=condT hb22 h22
        exact RJ.pin 22 (kd:= .i64) (by kernel_rfl) (of_decide_eq_true hb22) (kD 2 (kE (PJ.blockNormal (PJ.next (kM (kLo h56 [0,1,2,6,7,8]))))))
      ·have h57:=condT hb21 h21
       exact RJ.pin 22 (kd:= .i64) (by kernel_rfl) (of_decide_eq_true hb21) (kD 2 (kE (PJ.blockNormal (PJ.next (kM (kLo h57 [0,1,2,6,7,8]))))))
     ·have h58:=condT hb20 h20
      exact RJ.pin 22 (kd:= .i64) (by kernel_rfl) (of_decide_eq_true hb20) (kD 2 (kE (PJ.blockNormal (PJ.next (kM (kLo h58 [0,1,2,6,7,8]))))))
   ·have h25:=condT hb0 h0
    refine RJ.pin 27 (kd:= .i64) (by kernel_rfl) (of_decide_eq_true hb0) (kD 3 ?_)
    cases hb25:(decide (((nth x1 s0.1).ae_)=0))
    ·have h26:=condF hb25 h25
     cases hb26:(decide (((nth x1 s0.1).ae_)=1))
     ·have h27:=condF hb26 h26
      cases hb27:(decide (((nth x1 s0.1).ae_)=2))
      ·have h28:=condF hb27 h27
       cases hb28:(decide (((nth x1 s0.1).ae_)=3))
       ·have h29:=condF hb28 h28
        cases hb29:(decide (((nth x1 s0.1).ae_)=4))
        have h59:=condF hb29 h29
        cases h59
        ·have h60:=condT hb29 h29
         exact RJ.pin 22 (kd:= .i64) (by kernel_rfl) (of_decide_eq_true hb29) (kD 2 (kE (PJ.blockNormal (PJ.next (kM (kLo h60 [0,1,2,6,7,8]))))))
       ·have h61:=condT hb28 h28
        exact RJ.pin 22 (kd:= .i64) (by kernel_rfl) (of_decide_eq_true hb28) (kD 2 (kE (PJ.blockNormal (PJ.next (kM (kLo h61 [0,1,2,6,7,8]))))))
      ·have h62:=condT hb27 h27
       exact RJ.pin 22 (kd:= .i64) (by kernel_rfl) (of_decide_eq_true hb27) (kD 2 (kE (PJ.blockNormal (PJ.next (kM (kLo h62 [0,1,2,6,7,8]))))))
     ·have h63:=condT hb26 h26
      exact RJ.pin 22 (kd:= .i64) (by kernel_rfl) (of_decide_eq_true hb26) (kD 2 (kE (PJ.blockNormal (PJ.next (kM (kLo h63 [0,1,2,6,7,8]))))))
    ·have h64:=condT hb25 h25
     exact RJ.pin 22 (kd:= .i64) (by kernel_rfl) (of_decide_eq_true hb25) (kD 2 (kE (PJ.blockNormal (PJ.next (kM (kLo h64 [0,1,2,6,7,8]))))))
  exact kEp 0 (kLx h32 (λh65=>PJ.blockOut (kNo h65 [0,2,6,7])))
 exact kq (kq (kcN h30 (fun(s2:Int)=>([(0,iL x0),(2,iL x2),(6, .bool false),(7, .ptr 0 0),(9,iL s2),(10,iL 0)],[.box [iL s1.1,iL s1.2.1,iL s1.2.2.1,iL s1.2.2.2.1,iL s1.2.2.2.2]])) (λs2 hy1=>kq (kBT 33 hy1 (λh67=>kM (kNo h67 [0,2,6,7,9,10])) (λh68=>kK (kNo h68 [0,2,6,7,9,10])))) (λs2 h66=>kcN h66 (fun(s3:Int)=>([(2,iL x2),(6, .bool false),(7, .ptr 0 0),(9,iL s2),(10,iL s3)],[.box [iL s1.1,iL s1.2.1,iL s1.2.2.1,iL s1.2.2.2.1,iL s1.2.2.2.2]])) (λs3 hy2=>kq (kBT 35 hy2 (λh70=>kM (kNo h70 [2,6,7,9,10])) (λh71=>kK (kNo h71 [2,6,7,9,10])))) (λs3 h69=>kcN h69 (fun(s4:Bool)=>([(6, .bool s4)],[])) (λs4 hy3=>km 5 (kB 40 hy3 (λh73=>kc 5 (kB 45 h73 (λh75=>kc 6 (kB 51 h75 (λh77=>ke 6 (kNW h77 W V [])) (λh78=>ke 6 (kNW h78 W V [])))) (λh76=>ke 12 (kNW h76 W V [])))) (λh74=>ke 17 (kNW h74 W V [])))) (λs4 h72=>kX (by cases h72;exact kZ D W V))))))
structure f0B where
 c_:List Int
 e_:List Int
 deriving Inhabited,DecidableEq
def b0X(x:f0B):List SV:=[lsv (a0s .i32) 1 x.c_,lsv (a0s .i32) 1 x.e_]
theorem y0X(x:f0B):(b0X x).length=2:=rfl
def c0y(x0:List a0c)(x1:Int):Option (Int):=
 (Option.bind (a0x (fun(s0:Int×Int)=>(bif(decide (s0.2<(x0.length:Int)))then(Option.bind (bif inR s0.2 x0.length then(bif(decide (((nth x0 s0.2).ae_)=x1))then(some (IntKind.wrap .i64 (s0.1+1)))else(some s0.1))else none) fun(s1:Int)=>(some (.inl (s1,(IntKind.wrap .i64 (s0.2+1))))))else(some (.inr s0.1)))) big (0,0)) fun(s2:Int)=>(some s2))
theorem g0d {x0:List a0c} {x1 r:Int} (h:c0y x0 x1=some r):SQ 345 [lsv a0a 2 x0,iL x1] [] (iL r) []:=by
 refine kFn (fn:=Tryz.f345) (λF D W V=> ?_)
 unfold c0y at h
 exact kq (kq (kcN h (fun(s2:Int)=>([(4,iL 0),(5,iL s2)],[])) (λs2 hy0=>kq (kb 0 (kl (fun(s0:Int×Int)=>([(0,lsv a0a 2 x0),(1,iL x1),(4,iL 0),(5,iL s0.1),(6,iL s0.2)],[])) hy0 [0,1,4,5,6] (λs0 x101 hs0=>kS (kq (kBT 10 hs0 (λh1=>kKN (kcN h1 (fun(s1:Int)=>([(0,lsv a0a 2 x0),(1,iL x1),(4,iL 0),(5,iL s1),(6,iL s0.2)],[])) (λs1 hy1=>kb 1 (kn 2 (kIb 15 a0C hy1 (λh4=>kr 4 (kBT 19 h4 (λh5=>kM (PJ.blockNormal (kNo h5 [0,1,4,5,6]))) (λh6=>kKb (kNo h6 [0,1,4,5,6]))))))) (λs1 h3=>kM (kLo h3 [0,1,4,5,6])))) (λh2=>kEp 0 (kLx h2 (λh7=>PJ.blockOut (kNo h7 [4,5])))))))))) (λs2 h0=>kq (kX (by cases h0;exact kZ D W V)))))
def c0H(x0:List a0c):Option (List a0c):=
 (Option.bind (a0x (fun(s0:Int×(List a0c))=>(bif(decide (s0.1<(x0.length:Int)))then(Option.bind (bif inR s0.1 x0.length then(bif(decide (((nth x0 s0.1).ae_)=1))then(bif room (s0.2.length+([(⟨2,0⟩:a0c)]:List a0c).length)then(some ((s0.2++([(⟨2,0⟩:a0c)]:List a0c))))else none)else(bif inR s0.1 x0.length then(bif room (s0.2.length+([(nth x0 s0.1)]:List a0c).length)then(some ((s0.2++([(nth x0 s0.1)]:List a0c))))else none)else none))else none) fun(s2:(List a0c))=>(some (.inl ((IntKind.wrap .i64 (s0.1+1)),s2))))else(some (.inr s0.2)))) big (0,([]:List a0c))) fun(s1:(List a0c))=>(some s1))
theorem g0t {x0 r:List a0c} (h:c0H x0=some r):SQ 346 [lsv a0a 2 x0] [] (lsv a0a 2 r) []:=by
 refine kFn (fn:=Tryz.f346) (λF D W V=> ?_)
 unfold c0H at h
 exact kq (kq (kcN h (fun(s1:(List a0c))=>([(2, .nl),(3, .vc 0)],[a0H a0a 2 225 s1])) (λs1 hy0=>kq (kb 0 (J.wk (Wk.viv 3 2 225 (by kernel_rfl)) (kl (fun(s0:Int×(List a0c))=>([(0,lsv a0a 2 x0),(2, .nl),(3, .vc 0),(4,iL s0.1)],[a0H a0a 2 225 s0.2])) hy0 [0,2,3,4] (λs0 x131 hs0=>kS (kq (kBT 8 hs0 (λh1=>kKN (kcN h1 (fun(s2:(List a0c))=>([(0,lsv a0a 2 x0),(2, .nl),(3, .vc 0),(4,iL s0.1)],[a0H a0a 2 225 s2])) (λs2 hy1=>kb 1 (kn 2 (kIb 13 a0C hy1 (λh4=>kr 3 (kBT 16 h4 (λh5=>km 3 (kAp 20 0 2 2 225 [0,1] a0a h5 (λh7=>ke 1 (PJ.blockNormal (kNW h7 W V [2]))))) (λh6=>km 3 (kIb 24 a0C h6 (λh8=>kc 2 (kAp 27 0 2 2 225 [0,1] a0a h8 (λh9=>ke 1 (PJ.blockNormal (kNW h9 W V [2])))))))))))) (λs2 h3=>kM (kLo h3 [0,2,3,4])))) (λh2=>kEp 0 (kLx h2 (λh10=>PJ.blockOut (kNo h10 [2,3]))))))))))) (λs1 h0=>kq (kX (by obtain rfl:=oi h0;exact PJ.wk (Wk.freeze 0 (n:=s1.length) (k:=2) (e:=225) (cs:=s1.flatMap a0a) (by kernel_rfl)) (kZ D W V))))))
def c0P(x0:a0j)(x1:Int):Option ((List a0c)×(List a0c)):=
 (Option.bind (Option.bind (bif(decide (¬x1=1))then(some (decide (¬x1=2)))else(some false)) fun(s0:Bool)=>(bif s0 then(some (.inr (x0.c_,x0.e_)))else(some (.inl ())))) (a0m fun(s3:Unit)=>(Option.bind (Option.bind (bif(decide (x1=1))then(some x0.O_)else(some false)) fun(s1:Bool)=>(bif s1 then(some (.inr (x0.A_,x0.y_)))else(some (.inl ())))) (a0m fun(s4:Unit)=>(Option.bind (Option.bind (bif x0.O_ then(Option.bind (c0y x0.A_ 1) λy0=>(Option.bind (c0y x0.y_ 1) λy1=>(some ((decide ((IntKind.wrap .i64 (y0+y1))>0))))))else(some false)) fun(s2:Bool)=>(bif s2 then(Option.bind (c0H x0.A_) λy2=>(Option.bind (c0H x0.y_) λy3=>(some (.inr (y2,y3)))))else(some (.inl ())))) (a0m fun(s5:Unit)=>(bif room (([(⟨x1,0⟩:a0c)]:List a0c).length+x0.c_.length)then(some ((([(⟨x1,0⟩:a0c)]:List a0c)++x0.c_),x0.e_))else none)))))))
theorem i0P {x0:a0j} {x1:Int} {r:(List a0c)×(List a0c)} (h:c0P x0 x1=some r):SQ 283 [.agg (a0b x0),iL x1] [] (.tup [lsv a0a 2 r.1,lsv a0a 2 r.2]) []:=by
 refine kFn (fn:=Tryz.f283) (λF D W V=> ?_)
 unfold c0P at h
 refine kq (kcX h (fun(s3:Unit)=>([(1,iL x1),(2, .ptr 0 0),(4, .nl),(5, .nl)],[.box (a0b x0)])) (λy4 hy0 h0=> ?_) (λs3 h1=> ?_))
 exact kcN hy0 (fun(s0:Bool)=>([(1,iL x1),(2, .ptr 0 0),(4, .nl),(5, .nl),(12, .bool s0)],[.box (a0b x0)])) (λs0 hy1=>km 3 (kB 9 hy1 (λh3=>ke 3 (kNo h3 [1,2,4,5,12])) (λh4=>ke 3 (kNo h4 [1,2,4,5,12])))) (λs0 h2=>kBT 12 h2 (λh5=>kS (kDr (kD 6 (kEN (kX (kCx h5 h0 (λh7=>by obtain rfl:=oi h7;exact kZ D W V))))))) (λh6=>kK (kXo h6 [1,2,4,5])))
 refine kcX h1 (fun(s4:Unit)=>([(1,iL x1),(2, .ptr 0 0),(4, .nl),(5, .nl)],[.box (a0b x0)])) (λy5 hy2 h8=> ?_) (λs4 h9=> ?_)
 exact kcN hy2 (fun(s1:Bool)=>([(1,iL x1),(2, .ptr 0 0),(4, .nl),(5, .nl),(22, .bool s1)],[.box (a0b x0)])) (λs1 hy3=>km 3 (kB 19 hy3 (λh11=>ke 3 (kNo h11 [1,2,4,5,22])) (λh12=>ke 3 (kNo h12 [1,2,4,5,22])))) (λs1 h10=>kBT 22 h10 (λh13=>kS (kDr (kD 6 (kEN (kX (kCx h13 h8 (λh15=>by obtain rfl:=oi h15;exact kZ D W V))))))) (λh14=>kK (kXo h14 [1,2,4,5])))
 refine kcX h9 (fun(s5:Unit)=>([(1,iL x1),(2, .ptr 0 0),(4, .nl),(5, .nl)],[.box (a0b x0)])) (λy6 hy4 h16=> ?_) (λs5 h17=> ?_)
 refine kcN hy4 (fun(s2:Bool)=>([(1,iL x1),(2, .ptr 0 0),(4, .nl),(5, .nl),(38, .bool s2)],[.box (a0b x0)])) (λs2 hy5=> ?_) (λs2 h18=> ?_)
 refine kDr (kD 3 (kB 29 hy5 (λh19=> ?_) (λh20=> ?_)))
 refine kD 2 ?_
 obtain⟨y0,hy6,h21⟩:=a0l h19
 refine kC0 (some 32) [([],[]),([0,1],[]),([],[]),([],[]),([0,1],[]),([],[2,3])] (g0d hy6) (kD 2 ?_)
 obtain⟨y1,hy7,h22⟩:=a0l h21
 exact kC0 (some 35) [([],[]),([0,1],[]),([],[]),([],[]),([0,1],[]),([],[2,3]),([],[]),([0,1],[]),([],[4,5])] (g0d hy7) (kD 3 (kE (kNW h22 W V [0])))
 exact kD 9 (kE (kNW h20 W V [0]))
 refine kBT 38 h18 (λh23=> ?_) (λh24=> ?_)
 refine kS (kDr (kD 2 ?_))
 obtain⟨y2,hy8,h25⟩:=a0l h23
 refine kC0 (some 41) [([],[]),([0,1],[]),([],[2,3])] (g0t hy8) (kD 2 ?_)
 obtain⟨y3,hy9,h26⟩:=a0l h25
 exact kC0 (some 44) [([],[]),([0,1],[]),([],[2,3]),([],[]),([0,1],[]),([],[4,5])] (g0t hy9) (kD 2 (kEN (kX (kCx h26 h16 (λh27=>by obtain rfl:=oi h27;exact kZ D W V)))))
 exact kK (kXo h24 [1,2,4,5])
 refine kq (kS (kDr (kD 3 ?_)))
 obtain⟨hm,h28⟩:=b0k h17
 exact RJ.rel (d:=(some 51)) (ef:=⟨.vc 2,[1],[(1, .gone),(2, .vec (([(⟨x1,0⟩:a0c)]:List a0c).length+x0.c_.length) 2 225 (([(⟨x1,0⟩:a0c)]:List a0c).flatMap a0a++x0.c_.flatMap a0a))]⟩) (ef':=⟨.vc 2,[1],[(1, .gone),(2,a0H a0a 2 225 (([(⟨x1,0⟩:a0c)]:List a0c)++x0.c_))]⟩) (c:=room (([(⟨x1,0⟩:a0c)]:List a0c).length+x0.c_.length)) (tr2:=[([],[]),([],[]),([0,1],[]),([2,3],[2,3,4,5,4,5])]) (H2:=[.box (a0b x0), .gone,a0H a0a 2 225 ((([(⟨x1,0⟩:a0c)]:List a0c)++x0.c_))]) (by kernel_rfl) hm (λhc=>N.app) (by kernel_rfl) (kD 4 (kEN (kX (by obtain rfl:=oi h28;exact PJ.wk (Wk.freeze 2 (n:=((([(⟨x1,0⟩:a0c)]:List a0c)++x0.c_)).length) (k:=2) (e:=225) (cs:=((([(⟨x1,0⟩:a0c)]:List a0c)++x0.c_)).flatMap a0a) (by kernel_rfl)) (kZ D W V)))))
def c0b(x0:List a0c)(x1:c0T)(x2:List Int):Option (List Int):=
 (Option.bind (a0x (fun(s0:Int×(List Int))=>(bif(decide (s0.1<(x0.length:Int)))then(Option.bind (bif inR s0.1 x0.length then(bif(decide (((nth x0 s0.1).ae_)=0))then(bif inR s0.1 x0.length then(bif room (s0.2.length+([(nth x0 s0.1).R_]:List Int).length)then(some ((s0.2++([(nth x0 s0.1).R_]:List Int))))else none)else none)else(bif(decide (((nth x0 s0.1).ae_)=1))then(bif room (s0.2.length+([x1.k_]:List Int).length)then(some (s0.2++([x1.k_]:List Int)))else none)else(bif(decide (((nth x0 s0.1).ae_)=2))then(bif room (s0.2.length+([x1.j_]:List Int).length)then(some (s0.2++([x1.j_]:List Int)))else none)else(bif(decide (((nth x0 s0.1).ae_)=3))then(bif room (s0.2.length+([x1.m_]:List Int).length)then(some (s0.2++([x1.m_]:List Int)))else none)else(bif(decide (((nth x0 s0.1).ae_)=4))then(bif room (s0.2.length+x2.length)then(some (s0.2++x2))else none)else(some s0.2))))))else none) fun(s2:(List Int))=>(some (.inl ((IntKind.wrap .i64 (s0.1+1)),s2))))else(some (.inr s0.2)))) big (0,([]:List Int))) fun(s1:(List Int))=>(some s1))
theorem f0p {x0:List a0c} {x1:c0T} {x2 r:List Int} (h:c0b x0 x1 x2=some r):SQ 284 [lsv a0a 2 x0, .agg (a0d x1),lR x2] [] (lR r) []:=by
 refine kFn (fn:=Tryz.f284) (λF D W V=> ?_)
 unfold c0b at h
 exact kq (kq (kcN h (fun(s1:(List Int))=>([(6, .nl),(7, .vc 0)],[a0H (a0s .i32) 1 21 s1])) (λs1 hy0=>kq (kb 0 (J.wk (Wk.viv 7 1 21 (by kernel_rfl)) (kl (fun(s0:Int×(List Int))=>([(0,lsv a0a 2 x0),(2,lR x2),(4, .ptr 0 0),(6, .nl),(7, .vc 1),(8,iL s0.1)],[.box (a0d x1),a0H (a0s .i32) 1 21 s0.2])) hy0 [0,2,4,6,7,8] (λs0 x281 hs0=>kS (kq (kBT 12 hs0 (λh1=>kKN (kcN h1 (fun(s2:(List Int))=>([(0,lsv a0a 2 x0),(2,lR x2),(4, .ptr 0 0),(6, .nl),(7, .vc 1),(8,iL s0.1)],[.box (a0d x1),a0H (a0s .i32) 1 21 s2])) (λs2 hy1=>kb 1 (kn 2 (kIb 17 a0C hy1 (λh4=>kr 2 (kb 2 (kq (kBT 20 h4 (λh5=>km 3 (kIb 25 a0C h5 (λh7=>kc 3 (kAp 29 1 3 1 21 [1,2] (a0s .i32) h7 (λh8=>ke 1 (PJ.blockNormal (PJ.blockNormal (kNW h8 W V [0,3])))))))) (λh6=>kq (kBT 30 h6 (λh9=>km 4 (kAp 36 1 3 1 21 [1,2] (a0s .i32) h9 (λh11=>ke 1 (PJ.blockNormal (PJ.blockNormal (kNW h11 W V [0,3])))))) (λh10=>kq (kBT 37 h10 (λh12=>km 4 (kAp 43 1 3 1 21 [1,2] (a0s .i32) h12 (λh14=>ke 1 (PJ.blockNormal (PJ.blockNormal (kNW h14 W V [0,3])))))) (λh13=>kq (kBT 44 h13 (λh15=>km 4 (kAp 50 1 3 1 21 [1,2] (a0s .i32) h15 (λh17=>ke 1 (PJ.blockNormal (PJ.blockNormal (kNW h17 W V [0,3])))))) (λh16=>kq (kBT 51 h16 (λh18=>km 2 (kAp 55 1 2 1 21 [1] (a0s .i32) h18 (λh20=>ke 1 (PJ.blockNormal (PJ.blockNormal (kNW h20 W V [0,2])))))) (λh19=>kKb (PJ.blockNormal (kNo h19 [0,2,4,6,7,8])))))))))))))))))) (λs2 h3=>kM (kLo h3 [0,2,4,6,7,8])))) (λh2=>kEp 0 (kLx h2 (λh21=>PJ.blockOut (kNW h21 W V [1]))))))))))) (λs1 h0=>kq (kX (by obtain rfl:=oi h0;exact PJ.wk (Wk.freeze 0 (n:=s1.length) (k:=1) (e:=21) (cs:=s1.flatMap (a0s .i32)) (by kernel_rfl)) (kZ D W V))))))
def b0D(x0:a0j)(x1:c0T)(x2:Int)(x3:List Int):Option (f0B):=
 (Option.bind (c0P x0 x2) λy0=>(Option.bind (c0b y0.1 x1 x3) λy1=>(Option.bind (c0b y0.2 x1 x3) λy2=>(some (⟨y1,y2⟩:f0B)))))
theorem c0x {x0:a0j} {x1:c0T} {x2:Int} {x3:List Int} {r:f0B} (h:b0D x0 x1 x2 x3=some r):SQ 216 [.agg (a0b x0), .agg (a0d x1),iL x2,lR x3] [] (.agg (b0X r)) []:=by
 refine kFn (fn:=Tryz.f216) (λF D W V=> ?_)
 unfold b0D at h
 refine kq (kn 2 (kAb 14 h (λ_=>i0P) (λy0 h0=>kr 5 (kS (kDr (kD 3 ?_))))))
 obtain⟨y1,hy0,h1⟩:=a0l h0
 refine kC0 (some 20) [([],[]),([2,3],[]),([],[]),([],[6,7])] (f0p hy0) (kD 3 ?_)
 obtain⟨y2,hy1,h2⟩:=a0l h1
 exact kC0 (some 24) [([],[]),([2,3],[]),([],[]),([],[6,7]),([],[]),([2,3],[]),([],[]),([],[8,9])] (f0p hy1) (kD 2 (kEN (kX (by cases h2;exact kZ D W V))))
def d0A(x0:List Int):Option (Bool):=
 (Option.bind (a0x (fun(s0:Int)=>(bif(decide (s0<(x0.length:Int)))then(Option.bind (bif inR s0 x0.length then(Option.bind (c0s (nth x0 s0)) λy0=>(Option.bind (bif(decide (y0=1))then(some true)else(bif(decide (y0=3))then(some true)else(some (decide (y0=6))))) fun(s1:Bool)=>(bif s1 then(some (.inr (.inr (.inr false))))else(some (.inl ())))))else none) (a0m fun(s2:Unit)=>(some (.inl (IntKind.wrap .i64 (s0+1))))))else(some (.inr (.inl ()))))) big 0) (a0m fun(s3:Unit)=>(some true)))
theorem k0w {x0:List Int} {r:Bool} (h:d0A x0=some r):SQ 293 [lR x0] [] (.bool r) []:=by
 refine kFn (fn:=Tryz.f293) (λF D W V=> ?_)
 unfold d0A at h
 exact kq (kcX h (fun(s3:Unit)=>([(2, .bool false)],[])) (λy1 hy0 h0=>kq (kb 0 (kl (fun(s0:Int)=>([(0,lR x0),(2, .bool false),(3,iL s0)],[])) hy0 [0,2,3] (λs0 x341 hs0=>kS (kq (kBT 8 hs0 (λh2=>kKN (kcX h2 (fun(s2:Unit)=>([(0,lR x0),(2, .bool false),(3,iL s0)],[])) (λy2 hy1 h4=>kb 1 (kn 2 (kIb 13 (a0r .i32) hy1 (λh6=>kc 1 (kAb 15 h6 (λ_=>d0Y) (λy0 h7=>kr 1 (kcN h7 (fun(s1:Bool)=>([(0,lR x0),(2, .bool false),(3,iL s0),(25, .bool s1)],[])) (λs1 hy2=>km 3 (kB 18 hy2 (λh9=>ke 7 (kNo h9 [0,2,3,25])) (λh10=>kc 4 (kB 22 h10 (λh11=>ke 3 (kNo h11 [0,2,3,25])) (λh12=>ke 3 (kNo h12 [0,2,3,25])))))) (λs1 h8=>kBT 25 h8 (λh13=>kq (kXb (kCx h13 h4 (λh15=>kLx h15 (λh16=>PJ.blockRet (kCx h16 h0 (λh17=>by obtain rfl:=oi h17;exact kZ D W V))))))) (λh14=>kKb (kXo h14 [0,2,3])))))))))) (λs2 h5=>kM (kLo h5 [0,2,3])))) (λh3=>kEp 0 (kLx h3 (λh18=>PJ.blockOut (kXo h18 [2])))))))))) (λs3 h1=>kq (kX (by cases h1;exact kZ D W V))))
def d0h(x0:List Int):Option (Bool):=
 (Option.bind (a0x (fun(s0:Int×Int)=>(bif(decide (s0.2<(x0.length:Int)))then(Option.bind (bif inR s0.2 x0.length then(Option.bind (Option.bind (bif(decide ((IntKind.wrap .i64 (nth x0 s0.2))≥8234))then(some ((decide ((IntKind.wrap .i64 (nth x0 s0.2))<=8238))))else(some false)) fun(s2:Bool)=>(bif s2 then(some (.inr (.inr (.inr (.inr false)))))else(some (.inl ())))) (a0m fun(s6:Unit)=>(Option.bind (Option.bind (bif(decide ((IntKind.wrap .i64 (nth x0 s0.2))≥8294))then(some ((decide ((IntKind.wrap .i64 (nth x0 s0.2))<=8296))))else(some false)) fun(s3:Bool)=>(bif s3 then(some (IntKind.wrap .i64 (s0.1+1)))else(some s0.1))) fun(s1:Int)=>(bif(decide ((IntKind.wrap .i64 (nth x0 s0.2))=8297))then(bif(decide (s1=0))then(some (.inr (.inr (.inr false))))else(some (.inl (IntKind.wrap .i64 (s1-1)))))else(some (.inl s1))))))else none) (a0m fun(s4:Int)=>(some (.inl (s4,(IntKind.wrap .i64 (s0.2+1)))))))else(some (.inr (.inl s0.1))))) big (0,0)) (a0m fun(s5:Int)=>(some (decide (s5=0)))))
theorem j0I {x0:List Int} {r:Bool} (h:d0h x0=some r):SQ 294 [lR x0] [] (.bool r) []:=by
 refine kFn (fn:=Tryz.f294) (λF D W V=> ?_)
 unfold d0h at h
 exact kq (kq (kcX h (fun(s5:Int)=>([(2, .bool false),(3,iL s5)],[])) (λy0 hy0 h0=>kq (kb 0 (kl (fun(s0:Int×Int)=>([(0,lR x0),(2, .bool false),(3,iL s0.1),(4,iL s0.2)],[])) hy0 [0,2,3,4] (λs0 x931 hs0=>kS (kq (kBT 9 hs0 (λh3=>kKN (kcX h3 (fun(s4:Int)=>([(0,lR x0),(2, .bool false),(3,iL s4),(4,iL s0.2)],[])) (λy1 hy1 h1=>kb 1 (kn 2 (kIb 14 (a0r .i32) hy1 (λh6=>kr 3 (kcX h6 (fun(s6:Unit)=>([(0,lR x0),(2, .bool false),(3,iL s0.1),(4,iL s0.2),(5,iL (IntKind.wrap .i64 (nth x0 s0.2)))],[])) (λy2 hy2 h7=>kcN hy2 (fun(s2:Bool)=>([(0,lR x0),(2, .bool false),(3,iL s0.1),(4,iL s0.2),(5,iL (IntKind.wrap .i64 (nth x0 s0.2))),(22, .bool s2)],[])) (λs2 hy3=>km 3 (kB 19 hy3 (λh10=>ke 3 (kNo h10 [0,2,3,4,5,22])) (λh11=>ke 3 (kNo h11 [0,2,3,4,5,22])))) (λs2 h9=>kBT 22 h9 (λh12=>kq (kX (kCx h12 h7 (λh14=>PJ.blockRet (kCx h14 h1 (λh15=>kLx h15 (λh16=>PJ.blockRet (kCx h16 h0 (λh17=>by obtain rfl:=oi h17;exact kZ D W V))))))))) (λh13=>kK (kXo h13 [0,2,3,4,5])))) (λs6 h8=>kcN h8 (fun(s1:Int)=>([(0,lR x0),(2, .bool false),(3,iL s1),(4,iL s0.2),(5,iL (IntKind.wrap .i64 (nth x0 s0.2)))],[])) (λs1 hy4=>kcN hy4 (fun(s3:Bool)=>([(0,lR x0),(2, .bool false),(3,iL s0.1),(4,iL s0.2),(5,iL (IntKind.wrap .i64 (nth x0 s0.2))),(28, .bool s3)],[])) (λs3 hy5=>km 3 (kB 25 hy5 (λh20=>ke 3 (kNo h20 [0,2,3,4,5,28])) (λh21=>ke 3 (kNo h21 [0,2,3,4,5,28])))) (λs3 h19=>kBT 28 h19 (λh22=>kM (kNo h22 [0,2,3,4,5])) (λh23=>kK (kNo h23 [0,2,3,4,5])))) (λs1 h18=>kq (kBT 32 h18 (λh24=>kS (kq (kBT 34 h24 (λh26=>kq (kX (PJ.passRet (PJ.blockRet (kCx h26 h1 (λh28=>kLx h28 (λh29=>PJ.blockRet (kCx h29 h0 (λh30=>by obtain rfl:=oi h30;exact kZ D W V))))))))) (λh27=>kKN (kM (PJ.blockNormal (kXo h27 [0,2,3,4]))))))) (λh25=>kKb (kXo h25 [0,2,3,4])))))))))) (λs4 h5=>kM (kLo h5 [0,2,3,4])))) (λh4=>kEp 0 (kLx h4 (λh31=>PJ.blockOut (kXo h31 [2,3])))))))))) (λs5 h2=>kq (kX (by cases h2;exact kZ D W V)))))
def d0c(x0:c0T)(x1:Int):Option (Int×Bool):=
 (Option.bind (a0x (fun(s0:Int)=>(bif(decide (s0<10))then(bif(decide (((IntKind.wrap .i64 ((IntKind.wrap .i64 x0.Y_)+s0)))=(IntKind.wrap .i64 x1)))then(some (.inr (.inr ((IntKind.wrap .u8 s0),true))))else(some (.inl (IntKind.wrap .i64 (s0+1)))))else(some (.inr (.inl ()))))) big 0) (a0m fun(s1:Unit)=>(some (0,false))))
theorem j0C {x0:c0T} {x1:Int} {r:Int×Bool} (h:d0c x0 x1=some r):SQ 286 [.agg (a0d x0),iM x1] [] (.tup [.int .u8 r.1, .bool r.2]) []:=by
 refine kFn (fn:=Tryz.f286) (λF D W V=> ?_)
 unfold d0c at h
 exact kq (kcX h (fun(s1:Unit)=>([(4, .int .u8 0),(5, .bool false)],[])) (λy0 hy0 h0=>kq (kb 0 (kl (fun(s0:Int)=>([(1,iM x1),(2, .ptr 0 0),(4, .int .u8 0),(5, .bool false),(6,iL s0)],[.box (a0d x0)])) hy0 [1,2,4,5,6] (λs0 x66 hs0=>kS (kq (kBT 8 hs0 (λh2=>kKN (kS (kb 1 (kq (kBT 18 h2 (λh4=>kq (kXp (kLx h4 (λh6=>PJ.blockRet (kCx h6 h0 (λh7=>by obtain rfl:=oi h7;exact kZ D W V)))))) (λh5=>kKn (kM (kLo h5 [1,2,4,5,6])))))))) (λh3=>kEp 0 (kLx h3 (λh8=>PJ.blockOut (kXW h8 W V [])))))))))) (λs1 h1=>kq (kX (by cases h1;exact kZ D W V))))
def b0O(x0:c0T)(x1:Int):Option (Bool):=
 (Option.bind (d0c x0 x1) λy0=>(Option.bind (bif y0.2 then(some true)else(bif(decide (x1=x0.t_))then(some true)else(bif(decide (x1=x0.r_))then(some true)else(some (decide (x1=x0.b_)))))) fun(s0:Bool)=>(some s0)))
theorem e0V {x0:c0T} {x1:Int} {r:Bool} (h:b0O x0 x1=some r):SQ 219 [.agg (a0d x0),iM x1] [] (.bool r) []:=by
 refine kFn (fn:=Tryz.f219) (λF D W V=> ?_)
 unfold b0O at h
 exact kq (kn 2 (kAb 10 h (λ_=>j0C) (λy0 h0=>kr 5 (kcN h0 (fun(s0:Bool)=>([(4, .bool s0)],[])) (λs0 hy0=>km 2 (kB 14 hy0 (λh2=>ke 18 (kNW h2 W V [])) (λh3=>kc 6 (kB 20 h3 (λh4=>ke 12 (kNW h4 W V [])) (λh5=>kc 6 (kB 26 h5 (λh6=>ke 6 (kNW h6 W V [])) (λh7=>ke 6 (kNW h7 W V [])))))))) (λs0 h1=>kX (by cases h1;exact kZ D W V))))))
def c0I(x0:c0T)(x1:List Int):Option (Bool):=
 (Option.bind (d0A x1) λy1=>(Option.bind (d0h x1) λy2=>(Option.bind (Option.bind (bif(!y1)then(some true)else(some (!y2))) fun(s1:Bool)=>(bif s1 then(some (.inr false))else(some (.inl ())))) (a0m fun(s3:Unit)=>(Option.bind (a0x (fun(s0:Int)=>(bif(decide (s0<(x1.length:Int)))then(Option.bind (bif inR s0 x1.length then(Option.bind (b0O x0 (nth x1 s0)) λy0=>(Option.bind (bif y0 then(some true)else(bif inR s0 x1.length then(Option.bind (c0s (nth x1 s0)) λy3=>(some (decide (y3=5))))else none)) fun(s2:Bool)=>(bif s2 then(some (.inr (.inr (.inr false))))else(some (.inl ())))))else none) (a0m fun(s4:Unit)=>(some (.inl (IntKind.wrap .i64 (s0+1))))))else(some (.inr (.inl ()))))) big 0) (a0m fun(s5:Unit)=>(some true)))))))
theorem g0u {x0:c0T} {x1:List Int} {r:Bool} (h:c0I x0 x1=some r):SQ 228 [.agg (a0d x0),lR x1] [] (.bool r) []:=by
 refine kFn (fn:=Tryz.f228) (λF D W V=> ?_)
 unfold c0I at h
 refine kq (kn 1 (kAb 10 h (λ_=>k0w) (λy1 h0=>kr 1 (kn 1 (kAb 12 h0 (λ_=>j0I) (λy2 h1=>kr 1 (kcX h1 (fun(s3:Unit)=>([(1,lR x1),(2, .ptr 0 0),(4, .bool false)],[.box (a0d x0)])) (λy4 hy0 h2=> ?_) (λs3 h3=> ?_))))))))
 exact kcN hy0 (fun(s1:Bool)=>([(1,lR x1),(2, .ptr 0 0),(4, .bool false),(18, .bool s1)],[.box (a0d x0)])) (λs1 hy1=>km 3 (kB 15 hy1 (λh5=>ke 3 (kNo h5 [1,2,4,18])) (λh6=>ke 3 (kNo h6 [1,2,4,18])))) (λs1 h4=>kBT 18 h4 (λh7=>kq (kX (kCx h7 h2 (λh9=>by obtain rfl:=oi h9;exact kZ D W V)))) (λh8=>kK (kXo h8 [1,2,4])))
 refine kcX h3 (fun(s5:Unit)=>([(4, .bool false)],[])) (λy5 hy2 h10=> ?_) (λs5 h11=> ?_)
 refine kq (kb 0 (kl (fun(s0:Int)=>([(1,lR x1),(2, .ptr 0 0),(4, .bool false),(7,iL s0)],[.box (a0d x0)])) hy2 [1,2,4,7] (λs0 x402 hs0=>kS (kq (kBT 22 hs0 (λh12=> ?_) (λh13=> ?_))))))
 refine kKN (kcX h12 (fun(s4:Unit)=>([(1,lR x1),(2, .ptr 0 0),(4, .bool false),(7,iL s0)],[.box (a0d x0)])) (λy6 hy3 h14=> ?_) (λs4 h15=> ?_))
 refine kb 1 (kS (kDr (kD 3 ?_)))
 obtain⟨hm,h16⟩:=b0k hy3
 refine kJ 28 (tr2:=[([0,1],[]),([],[]),([],[]),([],[])]) (a0r .i32) hm (kD 1 ?_)
 obtain⟨y0,hy4,h17⟩:=a0l h16
 exact kC0 (some 30) [([0,1],[]),([],[]),([],[]),([],[]),([],[]),([],[2,3])] (e0V hy4) (kD 1 (kEN (kcN h17 (fun(s2:Bool)=>([(1,lR x1),(2, .ptr 0 0),(4, .bool false),(7,iL s0),(39, .bool s2)],[.box (a0d x0)])) (λs2 hy5=>km 2 (kB 32 hy5 (λh19=>ke 7 (kNW h19 W V [0])) (λh20=>kc 2 (kIb 35 (a0r .i32) h20 (λh21=>kc 1 (kAb 37 h21 (λ_=>d0Y) (λy3 h22=>ke 2 (kNW h22 W V [0])))))))) (λs2 h18=>kBT 39 h18 (λh23=>kq (kXb (kCx h23 h14 (λh25=>kLx h25 (λh26=>PJ.blockRet (kCx h26 h10 (λh27=>by obtain rfl:=oi h27;exact kZ D W V))))))) (λh24=>kKb (kXo h24 [1,2,4,7]))))))
 exact kM (kLo h15 [1,2,4,7])
 exact kEp 0 (kLx h13 (λh28=>PJ.blockOut (kXW h28 W V [])))
 exact kq (kX (by cases h11;exact kZ D W V))
end Go.Proofs.YthodkmamingnhaaGreatDoor
