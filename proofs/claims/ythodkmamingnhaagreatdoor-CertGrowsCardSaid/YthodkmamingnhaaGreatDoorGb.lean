import Derived.Test.YthodkmamingnhaaGreatDoorProg
import Derived.Test.YthodkmamingnhaaGreatDoorGa
set_option linter.all false
namespace Go.Proofs.YthodkmamingnhaaGreatDoor
open Go Go.Sy Go.RowKit
set_option maxRecDepth 100000
set_option maxHeartbeats 4000000
def c0j(x0:c0T)(x1:f0B):Option (Bool):=
 (bif room x1.c_.length then(bif room (x1.c_.length+x1.e_.length)then(Option.bind (c0I x0 (x1.c_++x1.e_)) λy0=>(some y0))else none)else none)
theorem e0t {x0:c0T} {x1:f0B} {r:Bool} (h:c0j x0 x1=some r):SQ 217 [.agg (a0d x0), .agg (b0X x1)] [] (.bool r) []:=by
 refine kFn (fn:=Tryz.f217) (λF D W V=> ?_)
 unfold c0j at h
 refine kq (kS (kDr (kD 3 ?_)))
 obtain⟨hm,h0⟩:=b0k h
 refine RJ.rel (d:=(some 9)) (ef':=⟨.vc 3,[],[(3, .vec x1.c_.length 1 21 (x1.c_.flatMap (a0s .i32)))]⟩) (tr2:=[([],[4,5]),([],[]),([2,3],[]),([],[6,7,6,7])]) (H2:=[.box (a0d x0), .box (b0X x1), .res,a0H (a0s .i32) 1 21 x1.c_, .res]) (by kernel_rfl) hm (λhc=>rfl) (by kernel_rfl) (kD 2 ?_)
 obtain⟨hm,h1⟩:=b0k h0
 refine RJ.rel (d:=(some 12)) (ef:=⟨.vc 4,[3],[(3, .gone),(4, .vec (x1.c_.length+x1.e_.length) 1 21 (x1.c_.flatMap (a0s .i32)++x1.e_.flatMap (a0s .i32)))]⟩) (ef':=⟨.vc 4,[3],[(3, .gone),(4,a0H (a0s .i32) 1 21 (x1.c_++x1.e_))]⟩) (c:=room (x1.c_.length+x1.e_.length)) (tr2:=[([],[4,5]),([],[]),([2,3],[]),([],[6,7,6,7]),([],[]),([2,3],[]),([6,7],[6,7,8,9,8,9])]) (H2:=[.box (a0d x0), .box (b0X x1), .res, .gone,a0H (a0s .i32) 1 21 (x1.c_++x1.e_)]) (by kernel_rfl) hm (λhc=>N.app) (by kernel_rfl) (kD 1 (kEN (kn 2 ?_)))
 obtain⟨y0,hy0,h2⟩:=a0l h1
 exact RJ.callL (d:=(some 15)) (f:=228) (args:=[.agg (a0d x0), .vc 4]) (args0:=[.agg (a0d x0), .vc 0]) (args1:=[.agg (a0d x0),lR (x1.c_++x1.e_)]) (H0:=[a0H (a0s .i32) 1 21 (x1.c_++x1.e_)]) (v:= .bool y0) (tr2:=[]) [4] (by kernel_rfl) (by kernel_rfl) (by kernel_rfl) (by kernel_rfl) (by decide) (by kernel_rfl) (by kernel_rfl) (by kernel_rfl) (by kernel_rfl) (LeL.refl _) (g0u hy0) (by kernel_rfl) (by kernel_rfl) (kr 1 (kX (by cases h2;exact kZ D W V)))
def c0L(x0 x1:List Int):Option (Bool):=
 (bif(decide (¬(x0.length:Int)=(x1.length:Int)))then(some false)else(Option.bind (a0x (fun(s0:Int)=>(bif(decide (s0<(x0.length:Int)))then(bif inR s0 x0.length then(bif inR s0 x1.length then(bif(decide (¬(nth x0 s0)=(nth x1 s0)))then(some (.inr (.inr false)))else(some (.inl (IntKind.wrap .i64 (s0+1)))))else none)else none)else(some (.inr (.inl ()))))) big 0) (a0m fun(s1:Unit)=>(some true))))
theorem g0x {x0 x1:List Int} {r:Bool} (h:c0L x0 x1=some r):SQ 285 [lR x0,lR x1] [] (.bool r) []:=by
 refine kFn (fn:=Tryz.f285) (λF D W V=> ?_)
 unfold c0L at h
 refine kq (kS (kq (kBT 10 h (λh0=> ?_) (λh1=> ?_))))
 exact kq (kX (PJ.passRet (by cases h0;exact kZ D W V)))
 refine kKN (kcX h1 (fun(s1:Unit)=>([(4, .bool false)],[])) (λy0 hy0 h2=> ?_) (λs1 h3=> ?_))
 refine kq (kb 0 (kl (fun(s0:Int)=>([(0,lR x0),(1,lR x1),(4, .bool false),(5,iL s0)],[])) hy0 [0,1,4,5] (λs0 x79 hs0=>kS (kq (kBT 14 hs0 (λh4=> ?_) (λh5=> ?_))))))
 refine kKN (kS (kb 1 (kS (kDr (kD 2 ?_)))))
 obtain⟨hm,h6⟩:=b0k h4
 refine kJ 19 (tr2:=[([],[]),([],[]),([],[])]) (a0r .i32) hm (kD 3 ?_)
 obtain⟨hm,h7⟩:=b0k h6
 exact kJ 23 (tr2:=[([],[]),([],[]),([],[]),([],[]),([],[]),([],[]),([],[])]) (a0r .i32) hm (kD 2 (kEN (kBT 25 h7 (λh8=>kq (kXp (kLx h8 (λh10=>PJ.blockRet (kCx h10 h2 (λh11=>by obtain rfl:=oi h11;exact kZ D W V)))))) (λh9=>kKn (kM (kLo h9 [0,1,4,5]))))))
 exact kEp 0 (kLx h5 (λh12=>PJ.blockOut (kXo h12 [4])))
 exact kq (kX (by cases h3;exact kZ D W V))
def c0i(x0 x1:f0B):Option (Bool):=
 (Option.bind (c0L x0.c_ x1.c_) λy0=>(Option.bind (bif y0 then(Option.bind (c0L x0.e_ x1.e_) λy1=>(some y1))else(some false)) fun(s0:Bool)=>(some s0)))
theorem e0s {x0 x1:f0B} {r:Bool} (h:c0i x0 x1=some r):SQ 218 [.agg (b0X x0), .agg (b0X x1)] [] (.bool r) []:=by
 refine kFn (fn:=Tryz.f218) (λF D W V=> ?_)
 unfold c0i at h
 exact kq (kn 4 (kAb 10 h (λ_=>g0x) (λy0 h0=>kr 1 (kcN h0 (fun(s0:Bool)=>([(4, .bool s0)],[])) (λs0 hy0=>km 2 (kB 12 hy0 (λh2=>kc 4 (kAb 17 h2 (λ_=>g0x) (λy1 h4=>ke 2 (kNW h4 W V [])))) (λh3=>ke 7 (kNW h3 W V [])))) (λs0 h1=>kX (by cases h1;exact kZ D W V))))))
def b0W(x0:c0T)(x1:a0j)(x2:List Int):Option (Bool):=
 (Option.bind (b0D x1 x0 0 x2) λy1=>(Option.bind (b0D x1 x0 1 x2) λy0=>(Option.bind (b0D x1 x0 2 x2) λy2=>(Option.bind (Option.bind (c0j x0 y1) λy3=>(bif y3 then(Option.bind (c0j x0 y0) λy4=>(bif y4 then(Option.bind (c0j x0 y2) λy5=>(some y5))else(some false)))else(some false))) fun(s0:Bool)=>(Option.bind (c0i y1 y0) λy6=>(Option.bind (c0i y0 y2) λy7=>(Option.bind (bif s0 then(bif(!y6)then(some (!y7))else(some false))else(some false)) fun(s1:Bool)=>(some s1))))))))
theorem e0e {x0:c0T} {x1:a0j} {x2:List Int} {r:Bool} (h:b0W x0 x1 x2=some r):SQ 138 [.agg (a0d x0), .agg (a0b x1),lR x2] [] (.bool r) []:=by
 refine kFn (fn:=Tryz.f138) (λF D W V=> ?_)
 unfold b0W at h
 exact kq (kn 3 (kAb 16 h (λ_=>c0x) (λy1 h0=>kr 2 (kn 3 (kAb 20 h0 (λ_=>c0x) (λy0 h1=>kr 2 (kn 3 (kAb 24 h1 (λ_=>c0x) (λy2 h2=>kr 2 (kcN h2 (fun(s0:Bool)=>([(6, .bool false),(7, .ptr 0 0),(8, .ptr 1 0),(9, .ptr 2 0),(10, .bool s0)],[.box (b0X y1), .box (b0X y0), .box (b0X y2)])) (λs0 hy0=>km 2 (kAb 27 hy0 (λ_=>e0t) (λy3 h4=>kc 1 (kB 28 h4 (λh5=>kc 2 (kAb 31 h5 (λ_=>e0t) (λy4 h7=>kc 2 (kB 33 h7 (λh8=>kc 2 (kAb 36 h8 (λ_=>e0t) (λy5 h10=>ke 2 (kNW h10 W V [2,3,4])))) (λh9=>ke 5 (kNW h9 W V [2,3,4])))))) (λh6=>ke 10 (kNW h6 W V [2,3,4])))))) (λs0 h3=>kn 2 (kAb 40 h3 (λ_=>e0s) (λy6 h11=>kr 1 (kn 2 (kAb 43 h11 (λ_=>e0s) (λy7 h12=>kr 1 (kcN h12 (fun(s1:Bool)=>([(6, .bool s1)],[])) (λs1 hy1=>km 2 (kB 45 hy1 (λh14=>kc 4 (kB 49 h14 (λh16=>ke 4 (kNW h16 W V [])) (λh17=>ke 4 (kNW h17 W V [])))) (λh15=>ke 8 (kNW h15 W V [])))) (λs1 h13=>kX (by cases h13;exact kZ D W V)))))))))))))))))))
def c0O(x0:c0T)(x1:a0j)(x2:List Int)(x3:Int):Option (Bool):=
 (Option.bind (a0x (fun(s1:Int)=>(bif(decide (s1<3))then(Option.bind (Option.bind (b0D x1 x0 s1 x2) λy0=>(bif room y0.c_.length then(bif room (y0.c_.length+y0.e_.length)then(a0x (fun(s0:Int)=>(bif(decide (s0<((y0.c_++y0.e_).length:Int)))then(bif inR s0 (y0.c_++y0.e_).length then(bif inR s0 (y0.c_++y0.e_).length then(bif(decide ((nth (y0.c_++y0.e_) s0)=x3))then(some (.inr (.inr (.inr (.inr true)))))else(some (.inl (IntKind.wrap .i64 (s0+1)))))else none)else none)else(some (.inr (.inl ()))))) big 0)else none)else none)) (a0m fun(s2:Unit)=>(some (.inl (IntKind.wrap .i64 (s1+1))))))else(some (.inr (.inl ()))))) big 0) (a0m fun(s3:Unit)=>(some false)))
theorem i0O {x0:c0T} {x1:a0j} {x2:List Int} {x3:Int} {r:Bool} (h:c0O x0 x1 x2 x3=some r):SQ 220 [.agg (a0d x0), .agg (a0b x1),lR x2,iM x3] [] (.bool r) []:=by
 refine kFn (fn:=Tryz.f220) (λF D W V=> ?_)
 unfold c0O at h
 refine kq (kcX h (fun(s3:Unit)=>([(8, .bool false)],[])) (λy1 hy0 h0=> ?_) (λs3 h1=> ?_))
 refine kq (kb 0 (kl (fun(s1:Int)=>([(2,lR x2),(3,iM x3),(4, .ptr 0 0),(5, .ptr 1 0),(8, .bool false),(9,iL s1)],[.box (a0d x0), .box (a0b x1)])) hy0 [2,3,4,5,8,9] (λs1 x621 hs0=>kS (kq (kBT 14 hs0 (λh2=> ?_) (λh3=> ?_))))))
 refine kKN (kcX h2 (fun(s2:Unit)=>([(2,lR x2),(3,iM x3),(4, .ptr 0 0),(5, .ptr 1 0),(8, .bool false),(9,iL s1)],[.box (a0d x0), .box (a0b x1)])) (λy2 hy1 h4=> ?_) (λs2 h5=> ?_))
 refine kb 1 (kn 4 (kAb 21 hy1 (λ_=>c0x) (λy0 h6=>kr 2 (kS (kDr (kD 3 ?_))))))
 obtain⟨hm,h7⟩:=b0k h6
 refine RJ.rel (d:=(some 25)) (ef':=⟨.vc 4,[],[(4, .vec y0.c_.length 1 21 (y0.c_.flatMap (a0s .i32)))]⟩) (tr2:=[([],[6,7]),([],[]),([4,5],[]),([],[8,9,8,9])]) (H2:=[.box (a0d x0), .box (a0b x1), .box (b0X y0), .res,a0H (a0s .i32) 1 21 y0.c_, .res]) (by kernel_rfl) hm (λhc=>rfl) (by kernel_rfl) (kD 2 ?_)
 obtain⟨hm,h8⟩:=b0k h7
 refine RJ.rel (d:=(some 28)) (ef:=⟨.vc 5,[4],[(4, .gone),(5, .vec (y0.c_.length+y0.e_.length) 1 21 (y0.c_.flatMap (a0s .i32)++y0.e_.flatMap (a0s .i32)))]⟩) (ef':=⟨.vc 5,[4],[(4, .gone),(5,a0H (a0s .i32) 1 21 (y0.c_++y0.e_))]⟩) (c:=room (y0.c_.length+y0.e_.length)) (tr2:=[([],[6,7]),([],[]),([4,5],[]),([],[8,9,8,9]),([],[]),([4,5],[]),([8,9],[8,9,10,11,10,11])]) (H2:=[.box (a0d x0), .box (a0b x1), .box (b0X y0), .res, .gone,a0H (a0s .i32) 1 21 (y0.c_++y0.e_)]) (by kernel_rfl) hm (λhc=>N.app) (by kernel_rfl) (kD 1 (kEN (kq (kb 2 (J.wk (Wk.sel (L2:=[(2,lR x2),(3,iM x3),(4, .ptr 0 0),(5, .ptr 1 0),(8, .bool false),(9,iL s1),(11, .vc 2),(12,iL 0)]) (H2:=[.box (a0d x0), .box (a0b x1),a0H (a0s .i32) 1 21 (y0.c_++y0.e_)]) 0 (by rw[W];rfl) V [0,1,5] (by kernel_rfl) (by kernel_rfl) (by decide) (by kernel_rfl) (by kernel_rfl) (by kernel_rfl) (by kernel_rfl)) (kl (fun(s0:Int)=>([(2,lR x2),(3,iM x3),(4, .ptr 0 0),(5, .ptr 1 0),(8, .bool false),(9,iL s1),(11, .vc 2),(12,iL s0)],[.box (a0d x0), .box (a0b x1),a0H (a0s .i32) 1 21 (y0.c_++y0.e_)])) h8 [2,3,4,5,8,9,11,12] (λs0 x725 hs1=>kS (kq (kBT 32 hs1 (λh9=> ?_) (λh10=> ?_))))))))))
 refine kKN (kS (kb 3 (kn 2 ?_)))
 obtain⟨hm,h11⟩:=b0k h9
 refine kQ 37 (.ptr 2 ((s0:Int).toNat*1)) [2] (tr2:=[]) hm ?_
 obtain⟨hm,h12⟩:=b0k h11
 exact RJ.rel (d:=(some 38)) (ef:=⟨((((y0.c_++y0.e_)).flatMap (a0s .i32)).drop ((s0:Int).toNat*1)).headD .undef,[2],[]⟩) (ef':=⟨iM (nth (y0.c_++y0.e_) s0),[2],[]⟩) (c:=Nat.blt ((s0:Int).toNat*1) ((y0.c_++y0.e_).flatMap (a0s .i32)).length) (tr2:=[]) (H2:=[.box (a0d x0), .box (a0b x1),a0H (a0s .i32) 1 21 (y0.c_++y0.e_)]) (by kernel_rfl) (h0p (a0r .i32) rfl hm) (λhc=>N.load1 (a0r .i32) (λ_=>rfl) hm) (by kernel_rfl) (kr 2 (kBT 40 h12 (λh13=>kq (kXp (kLx h13 (λh15=>PJ.blockRet (PJ.blockRet (kCx h15 h4 (λh16=>kLx h16 (λh17=>PJ.blockRet (kCx h17 h0 (λh18=>by obtain rfl:=oi h18;exact kZ D W V)))))))))) (λh14=>kKn (kM (kLo h14 [2,3,4,5,8,9,11,12])))))
 exact kEp 2 (kLx h10 (λh19=>PJ.blockOut (PJ.blockNormal (kXW h19 W V [0,1]))))
 exact kM (kLo h5 [2,3,4,5,8,9])
 exact kEp 0 (kLx h3 (λh20=>PJ.blockOut (kXW h20 W V [])))
 exact kq (kX (by cases h1;exact kZ D W V))
def c0h(x0:c0T)(x1:a0j)(x2:List Int):Option (Bool):=
 (Option.bind (c0s x1.B_) λy0=>(Option.bind (b0O x0 x1.B_) λy1=>(Option.bind (c0O x0 x1 x2 x1.B_) λy2=>(Option.bind (bif(decide (x1.P_=0))then(some true)else(bif(decide (y0=0))then(bif(!y1)then(some (!y2))else(some false))else(bif(decide (y0=4))then(bif(!y1)then(some (!y2))else(some false))else(some false)))) fun(s0:Bool)=>(some s0)))))
theorem f0J {x0:c0T} {x1:a0j} {x2:List Int} {r:Bool} (h:c0h x0 x1 x2=some r):SQ 139 [.agg (a0d x0), .agg (a0b x1),lR x2] [] (.bool r) []:=by
 refine kFn (fn:=Tryz.f139) (λF D W V=> ?_)
 unfold c0h at h
 exact kq (kn 2 (kAb 12 h (λ_=>d0Y) (λy0 h0=>kr 1 (kn 3 (kAb 16 h0 (λ_=>e0V) (λy1 h1=>kr 1 (kn 5 (kAb 22 h1 (λ_=>i0O) (λy2 h2=>kr 1 (kcN h2 (fun(s0:Bool)=>([(6, .bool s0)],[])) (λs0 hy0=>km 4 (kB 26 hy0 (λh4=>ke 16 (kNW h4 W V [])) (λh5=>kc 3 (kB 29 h5 (λh6=>kc 8 (kB 37 h6 (λh8=>ke 5 (kNW h8 W V [])) (λh9=>ke 5 (kNW h9 W V [])))) (λh7=>kc 4 (kB 33 h7 (λh10=>kc 4 (kB 37 h10 (λh12=>ke 5 (kNW h12 W V [])) (λh13=>ke 5 (kNW h13 W V [])))) (λh11=>ke 9 (kNW h11 W V [])))))))) (λs0 h3=>kX (by cases h3;exact kZ D W V))))))))))))
def a0P(x0:c0T)(x1:Int)(x2:List UInt8):Option (a0j×Bool):=
 (Option.bind (a0B x2) λy0=>(Option.bind (b0B y0.1) λy5=>(Option.bind (Option.bind (bif(decide (¬y0.2.2=0))then(some true)else(bif(!y5)then(some true)else(bif(decide (x1<0))then(some true)else(some (decide (x1>3)))))) fun(s0:Bool)=>(bif s0 then(some (.inr ((⟨([]:List a0c),([]:List a0c),([]:List a0c),([]:List a0c),false,0,0,0,0,0,0,0,0,0,false,0,0⟩:a0j),false)))else(some (.inl ())))) (a0m fun(s5:Unit)=>(Option.bind (Option.bind (bif(decide (x1=2))then(bif(decide (y0.1.b_=0))then(some true)else(bif(decide (y0.1.I_>0))then(some true)else(bif(decide (y0.1.p_>0))then(some true)else(bif(decide (¬y0.1.z_=1))then(some true)else(bif(decide (¬x1=2))then(some (decide (y0.1.b_>0)))else(some false))))))else(bif(decide (¬x1=2))then(some (decide (y0.1.b_>0)))else(some false))) fun(s1:Bool)=>(bif s1 then(some (.inr ((⟨([]:List a0c),([]:List a0c),([]:List a0c),([]:List a0c),false,0,0,0,0,0,0,0,0,0,false,0,0⟩:a0j),false)))else(some (.inl ())))) (a0m fun(s6:Unit)=>(Option.bind (Option.bind (bif(decide (y0.1.z_=0))then(bif(decide (y0.1.s_=0))then(some true)else(some (decide (x1>1))))else(some false)) fun(s2:Bool)=>(bif s2 then(some (.inr ((⟨([]:List a0c),([]:List a0c),([]:List a0c),([]:List a0c),false,0,0,0,0,0,0,0,0,0,false,0,0⟩:a0j),false)))else(some (.inl ())))) (a0m fun(s7:Unit)=>(bif room y0.1.c_.length then(bif room (y0.1.c_.length+y0.1.e_.length)then(Option.bind (b0U x1 (y0.1.c_++y0.1.e_) 0) λy1=>(bif room y0.1.A_.length then(bif room (y0.1.A_.length+y0.1.y_.length)then(Option.bind (b0U x1 (y0.1.A_++y0.1.y_) 1) λy2=>(Option.bind (Option.bind (bif(!y1)then(some true)else(bif y0.1.O_ then(some (!y2))else(some false))) fun(s3:Bool)=>(bif s3 then(some (.inr ((⟨([]:List a0c),([]:List a0c),([]:List a0c),([]:List a0c),false,0,0,0,0,0,0,0,0,0,false,0,0⟩:a0j),false)))else(some (.inl ())))) (a0m fun(s8:Unit)=>(Option.bind (b0W x0 y0.1 ([]:List Int)) λy3=>(Option.bind (c0h x0 y0.1 ([]:List Int)) λy4=>(Option.bind (Option.bind (bif(!y3)then(some true)else(some (!y4))) fun(s4:Bool)=>(bif s4 then(some (.inr ((⟨([]:List a0c),([]:List a0c),([]:List a0c),([]:List a0c),false,0,0,0,0,0,0,0,0,0,false,0,0⟩:a0j),false)))else(some (.inl ())))) (a0m fun(s9:Unit)=>(some (y0.1,true)))))))))else none)else none))else none)else none)))))))))
theorem b0V {x0:c0T} {x1:Int} {x2:List UInt8} {r:a0j×Bool} (h:a0P x0 x1 x2=some r):SQ 83 [.agg (a0d x0),iL x1, .str x2] [] (.tup [.agg (a0b r.1), .bool r.2]) []:=by
 refine kFn (fn:=Tryz.f83) (λF D W V=> ?_)
 unfold a0P at h
 refine kq (kn 1 (kAb 18 h (λ_=>e0g) (λy0 h0=>kr 8 (kn 1 (kAb 23 h0 (λ_=>g0f) (λy5 h1=>kr 1 (kcX h1 (fun(s5:Unit)=>([(1,iL x1),(3, .ptr 0 0),(6, .ptr 1 0),(7, .bool false),(8, .ptr 2 0)],[.box (a0d x0), .box [.nl, .nl, .nl, .nl, .bool false,iL 0,iL 0,iL 0,iL 0,iL 0,iL 0,iL 0,iL 0,iL 0, .bool false,iM 0,iL 0], .box (a0b y0.1)])) (λy6 hy0 h2=> ?_) (λs5 h3=> ?_))))))))
 exact kcN hy0 (fun(s0:Bool)=>([(1,iL x1),(3, .ptr 0 0),(6, .ptr 1 0),(7, .bool false),(8, .ptr 2 0),(37, .bool s0)],[.box (a0d x0), .box [.nl, .nl, .nl, .nl, .bool false,iL 0,iL 0,iL 0,iL 0,iL 0,iL 0,iL 0,iL 0,iL 0, .bool false,iM 0,iL 0], .box (a0b y0.1)])) (λs0 hy1=>km 3 (kB 26 hy1 (λh5=>ke 11 (kNo h5 [1,3,6,7,8,37])) (λh6=>kc 4 (kB 30 h6 (λh7=>ke 7 (kNo h7 [1,3,6,7,8,37])) (λh8=>kc 4 (kB 34 h8 (λh9=>ke 3 (kNo h9 [1,3,6,7,8,37])) (λh10=>ke 3 (kNo h10 [1,3,6,7,8,37])))))))) (λs0 h4=>kBT 37 h4 (λh11=>kq (kX (kCx h11 h2 (λh13=>by obtain rfl:=oi h13;exact PJ.res (v1:= .tup [zQ, .bool false]) (Le.tup (.cons (Le.agg (.cons (Le.nl _) (.cons (Le.nl _) (.cons (Le.nl _) (.cons (Le.nl _) (LeL.refl _)))))) (LeL.refl _))) (kZ D W V))))) (λh12=>kK (kXo h12 [1,3,6,7,8])))
 refine kcX h3 (fun(s6:Unit)=>([(1,iL x1),(3, .ptr 0 0),(6, .ptr 1 0),(7, .bool false),(8, .ptr 2 0)],[.box (a0d x0), .box [.nl, .nl, .nl, .nl, .bool false,iL 0,iL 0,iL 0,iL 0,iL 0,iL 0,iL 0,iL 0,iL 0, .bool false,iM 0,iL 0], .box (a0b y0.1)])) (λy7 hy2 h14=> ?_) (λs6 h15=> ?_)
 exact kcN hy2 (fun(s1:Bool)=>([(1,iL x1),(3, .ptr 0 0),(6, .ptr 1 0),(7, .bool false),(8, .ptr 2 0),(69, .bool s1)],[.box (a0d x0), .box [.nl, .nl, .nl, .nl, .bool false,iL 0,iL 0,iL 0,iL 0,iL 0,iL 0,iL 0,iL 0,iL 0, .bool false,iM 0,iL 0], .box (a0b y0.1)])) (λs1 hy3=>km 3 (kB 41 hy3 (λh17=>kc 4 (kB 45 h17 (λh19=>ke 24 (kNo h19 [1,3,6,7,8,69])) (λh20=>kc 5 (kB 50 h20 (λh21=>ke 19 (kNo h21 [1,3,6,7,8,69])) (λh22=>kc 5 (kB 55 h22 (λh23=>ke 14 (kNo h23 [1,3,6,7,8,69])) (λh24=>kc 6 (kB 61 h24 (λh25=>ke 8 (kNo h25 [1,3,6,7,8,69])) (λh26=>kc 3 (kB 64 h26 (λh27=>ke 5 (kNo h27 [1,3,6,7,8,69])) (λh28=>ke 5 (kNo h28 [1,3,6,7,8,69])))))))))))) (λh18=>kc 23 (kB 64 h18 (λh29=>ke 5 (kNo h29 [1,3,6,7,8,69])) (λh30=>ke 5 (kNo h30 [1,3,6,7,8,69])))))) (λs1 h16=>kBT 69 h16 (λh31=>kq (kX (kCx h31 h14 (λh33=>by obtain rfl:=oi h33;exact PJ.res (v1:= .tup [zQ, .bool false]) (Le.tup (.cons (Le.agg (.cons (Le.nl _) (.cons (Le.nl _) (.cons (Le.nl _) (.cons (Le.nl _) (LeL.refl _)))))) (LeL.refl _))) (kZ D W V))))) (λh32=>kK (kXo h32 [1,3,6,7,8])))
 refine kcX h15 (fun(s7:Unit)=>([(1,iL x1),(3, .ptr 0 0),(6, .ptr 1 0),(7, .bool false),(8, .ptr 2 0)],[.box (a0d x0), .box [.nl, .nl, .nl, .nl, .bool false,iL 0,iL 0,iL 0,iL 0,iL 0,iL 0,iL 0,iL 0,iL 0, .bool false,iM 0,iL 0], .box (a0b y0.1)])) (λy8 hy4 h34=> ?_) (λs7 h35=> ?_)
 exact kcN hy4 (fun(s2:Bool)=>([(1,iL x1),(3, .ptr 0 0),(6, .ptr 1 0),(7, .bool false),(8, .ptr 2 0),(82, .bool s2)],[.box (a0d x0), .box [.nl, .nl, .nl, .nl, .bool false,iL 0,iL 0,iL 0,iL 0,iL 0,iL 0,iL 0,iL 0,iL 0, .bool false,iM 0,iL 0], .box (a0b y0.1)])) (λs2 hy5=>km 4 (kB 74 hy5 (λh37=>kc 4 (kB 78 h37 (λh39=>ke 4 (kNo h39 [1,3,6,7,8,82])) (λh40=>ke 4 (kNo h40 [1,3,6,7,8,82])))) (λh38=>ke 8 (kNo h38 [1,3,6,7,8,82])))) (λs2 h36=>kBT 82 h36 (λh41=>kq (kX (kCx h41 h34 (λh43=>by obtain rfl:=oi h43;exact PJ.res (v1:= .tup [zQ, .bool false]) (Le.tup (.cons (Le.agg (.cons (Le.nl _) (.cons (Le.nl _) (.cons (Le.nl _) (.cons (Le.nl _) (LeL.refl _)))))) (LeL.refl _))) (kZ D W V))))) (λh42=>kK (kXo h42 [1,3,6,7,8])))
 refine kS (kDr (kD 4 ?_))
 obtain⟨hm,h44⟩:=b0k h35
 refine RJ.rel (d:=(some 88)) (ef':=⟨.vc 4,[],[(4, .vec y0.1.c_.length 2 225 (y0.1.c_.flatMap a0a))]⟩) (tr2:=[([],[]),([],[6,7]),([],[]),([4,5],[]),([],[8,9,8,9])]) (H2:=[.box (a0d x0), .box [.nl, .nl, .nl, .nl, .bool false,iL 0,iL 0,iL 0,iL 0,iL 0,iL 0,iL 0,iL 0,iL 0, .bool false,iM 0,iL 0], .box (a0b y0.1), .res,a0H a0a 2 225 y0.1.c_, .res, .res]) (by kernel_rfl) hm (λhc=>rfl) (by kernel_rfl) (kD 2 ?_)
 obtain⟨hm,h45⟩:=b0k h44
 refine RJ.rel (d:=(some 91)) (ef:=⟨.vc 5,[4],[(4, .gone),(5, .vec (y0.1.c_.length+y0.1.e_.length) 2 225 (y0.1.c_.flatMap a0a++y0.1.e_.flatMap a0a))]⟩) (ef':=⟨.vc 5,[4],[(4, .gone),(5,a0H a0a 2 225 (y0.1.c_++y0.1.e_))]⟩) (c:=room (y0.1.c_.length+y0.1.e_.length)) (tr2:=[([],[]),([],[6,7]),([],[]),([4,5],[]),([],[8,9,8,9]),([],[]),([4,5],[]),([8,9],[8,9,10,11,10,11])]) (H2:=[.box (a0d x0), .box [.nl, .nl, .nl, .nl, .bool false,iL 0,iL 0,iL 0,iL 0,iL 0,iL 0,iL 0,iL 0,iL 0, .bool false,iM 0,iL 0], .box (a0b y0.1), .res, .gone,a0H a0a 2 225 (y0.1.c_++y0.1.e_), .res]) (by kernel_rfl) hm (λhc=>N.app) (by kernel_rfl) ?_
 obtain⟨y1,hy6,h46⟩:=a0l h45
 refine RJ.callL (d:=(some 92)) (f:=137) (args:=[iL x1, .vc 5,iL 0]) (args0:=[iL x1, .vc 0,iL 0]) (args1:=[iL x1,lsv a0a 2 (y0.1.c_++y0.1.e_),iL 0]) (H0:=[a0H a0a 2 225 (y0.1.c_++y0.1.e_)]) (v:= .bool y1) (tr2:=[([],[]),([],[6,7]),([],[]),([4,5],[]),([],[8,9,8,9]),([],[]),([4,5],[]),([8,9],[8,9,10,11,10,11]),([10,11],[12,13])]) [5] (by kernel_rfl) (by kernel_rfl) (by kernel_rfl) (by kernel_rfl) (by decide) (by kernel_rfl) (by kernel_rfl) (by kernel_rfl) (by kernel_rfl) (LeL.refl _) (e0d hy6) (by kernel_rfl) (by kernel_rfl) (kD 1 (kEN (kS (kDr (kD 4 ?_)))))
 obtain⟨hm,h47⟩:=b0k h46
 refine RJ.rel (d:=(some 97)) (ef':=⟨.vc 8,[],[(8, .vec y0.1.A_.length 2 225 (y0.1.A_.flatMap a0a))]⟩) (tr2:=[([],[]),([],[14,15]),([],[]),([4,5],[]),([],[16,17,16,17])]) (H2:=[.box (a0d x0), .box [.nl, .nl, .nl, .nl, .bool false,iL 0,iL 0,iL 0,iL 0,iL 0,iL 0,iL 0,iL 0,iL 0, .bool false,iM 0,iL 0], .box (a0b y0.1), .res, .gone,a0H a0a 2 225 (y0.1.c_++y0.1.e_), .res, .res,a0H a0a 2 225 y0.1.A_, .res, .res]) (by kernel_rfl) hm (λhc=>rfl) (by kernel_rfl) (kD 2 ?_)
 obtain⟨hm,h48⟩:=b0k h47
 refine RJ.rel (d:=(some 100)) (ef:=⟨.vc 9,[8],[(8, .gone),(9, .vec (y0.1.A_.length+y0.1.y_.length) 2 225 (y0.1.A_.flatMap a0a++y0.1.y_.flatMap a0a))]⟩) (ef':=⟨.vc 9,[8],[(8, .gone),(9,a0H a0a 2 225 (y0.1.A_++y0.1.y_))]⟩) (c:=room (y0.1.A_.length+y0.1.y_.length)) (tr2:=[([],[]),([],[14,15]),([],[]),([4,5],[]),([],[16,17,16,17]),([],[]),([4,5],[]),([16,17],[16,17,18,19,18,19])]) (H2:=[.box (a0d x0), .box [.nl, .nl, .nl, .nl, .bool false,iL 0,iL 0,iL 0,iL 0,iL 0,iL 0,iL 0,iL 0,iL 0, .bool false,iM 0,iL 0], .box (a0b y0.1), .res, .gone,a0H a0a 2 225 (y0.1.c_++y0.1.e_), .res, .res, .gone,a0H a0a 2 225 (y0.1.A_++y0.1.y_), .res]) (by kernel_rfl) hm (λhc=>N.app) (by kernel_rfl) ?_
 obtain⟨y2,hy7,h49⟩:=a0l h48
 refine RJ.callL (d:=(some 101)) (f:=137) (args:=[iL x1, .vc 9,iL 1]) (args0:=[iL x1, .vc 0,iL 1]) (args1:=[iL x1,lsv a0a 2 (y0.1.A_++y0.1.y_),iL 1]) (H0:=[a0H a0a 2 225 (y0.1.A_++y0.1.y_)]) (v:= .bool y2) (tr2:=[([],[]),([],[14,15]),([],[]),([4,5],[]),([],[16,17,16,17]),([],[]),([4,5],[]),([16,17],[16,17,18,19,18,19]),([18,19],[20,21])]) [9] (by kernel_rfl) (by kernel_rfl) (by kernel_rfl) (by kernel_rfl) (by decide) (by kernel_rfl) (by kernel_rfl) (by kernel_rfl) (by kernel_rfl) (LeL.refl _) (e0d hy7) (by kernel_rfl) (by kernel_rfl) (kD 1 (kEN (kcX h49 (fun(s8:Unit)=>([(3, .ptr 0 0),(6, .ptr 1 0),(7, .bool false),(8, .ptr 2 0)],[.box (a0d x0), .box [.nl, .nl, .nl, .nl, .bool false,iL 0,iL 0,iL 0,iL 0,iL 0,iL 0,iL 0,iL 0,iL 0, .bool false,iM 0,iL 0], .box (a0b y0.1)])) (λy9 hy8 h50=> ?_) (λs8 h51=> ?_))))
 exact kcN hy8 (fun(s3:Bool)=>([(3, .ptr 0 0),(6, .ptr 1 0),(7, .bool false),(8, .ptr 2 0),(111, .bool s3)],[.box (a0d x0), .box [.nl, .nl, .nl, .nl, .bool false,iL 0,iL 0,iL 0,iL 0,iL 0,iL 0,iL 0,iL 0,iL 0, .bool false,iM 0,iL 0], .box (a0b y0.1)])) (λs3 hy9=>km 3 (kB 104 hy9 (λh53=>ke 7 (kNW h53 W V [0,1,2])) (λh54=>kc 3 (kB 107 h54 (λh55=>ke 4 (kNW h55 W V [0,1,2])) (λh56=>ke 4 (kNW h56 W V [0,1,2])))))) (λs3 h52=>kBT 111 h52 (λh57=>kq (kX (kCx h57 h50 (λh59=>by obtain rfl:=oi h59;exact PJ.res (v1:= .tup [zQ, .bool false]) (Le.tup (.cons (Le.agg (.cons (Le.nl _) (.cons (Le.nl _) (.cons (Le.nl _) (.cons (Le.nl _) (LeL.refl _)))))) (LeL.refl _))) (kZ D W V))))) (λh58=>kK (kXo h58 [3,6,7,8])))
 refine kn 2 ?_
 obtain⟨y3,hy10,h60⟩:=a0l h51
 refine RJ.call0 (d:=(some 115)) (f:=138) (args:=[.agg (a0d x0), .agg (a0b y0.1), .nl]) (v:= .bool y3) (tr2:=[]) (by kernel_rfl) (by kernel_rfl) (.cons (Le.refl _) (.cons (Le.refl _) (.cons (Le.nl _) .nil))) (e0e hy10) (by kernel_rfl) (kr 1 (kn 2 ?_))
 obtain⟨y4,hy11,h61⟩:=a0l h60
 exact RJ.call0 (d:=(some 118)) (f:=139) (args:=[.agg (a0d x0), .agg (a0b y0.1), .nl]) (v:= .bool y4) (tr2:=[]) (by kernel_rfl) (by kernel_rfl) (.cons (Le.refl _) (.cons (Le.refl _) (.cons (Le.nl _) .nil))) (f0J hy11) (by kernel_rfl) (kr 1 (kcX h61 (fun(s9:Unit)=>([(6, .ptr 0 0),(7, .bool false),(8, .ptr 1 0)],[.box [.nl, .nl, .nl, .nl, .bool false,iL 0,iL 0,iL 0,iL 0,iL 0,iL 0,iL 0,iL 0,iL 0, .bool false,iM 0,iL 0], .box (a0b y0.1)])) (λy10 hy12 h62=>kcN hy12 (fun(s4:Bool)=>([(6, .ptr 0 0),(7, .bool false),(8, .ptr 1 0),(124, .bool s4)],[.box [.nl, .nl, .nl, .nl, .bool false,iL 0,iL 0,iL 0,iL 0,iL 0,iL 0,iL 0,iL 0,iL 0, .bool false,iM 0,iL 0], .box (a0b y0.1)])) (λs4 hy13=>km 3 (kB 121 hy13 (λh65=>ke 3 (kNW h65 W V [1,2])) (λh66=>ke 3 (kNW h66 W V [1,2])))) (λs4 h64=>kBT 124 h64 (λh67=>kq (kX (kCx h67 h62 (λh69=>by obtain rfl:=oi h69;exact PJ.res (v1:= .tup [zQ, .bool false]) (Le.tup (.cons (Le.agg (.cons (Le.nl _) (.cons (Le.nl _) (.cons (Le.nl _) (.cons (Le.nl _) (LeL.refl _)))))) (LeL.refl _))) (kZ D W V))))) (λh68=>kK (kXo h68 [6,7,8])))) (λs9 h63=>kq (kX (by cases h63;exact kZ D W V)))))
structure a0p where
 g_:Int
 h_:Int
 deriving Inhabited,DecidableEq
def b0G(x:a0p):List SV:=[.int .i64 x.g_, .int .i64 x.h_]
theorem d0D(x:a0p):(b0G x).length=2:=rfl
structure a0M where
 Op_:Int
 ar_:Int
 at_:Bool
 R_:List a0p
 deriving Inhabited,DecidableEq
def a0n(x:a0M):List SV:=[.int .u8 x.Op_, .int .i64 x.ar_, .bool x.at_,lsv b0G 2 x.R_]
theorem j0M(x:a0M):(a0n x).length=4:=rfl
structure e0O where
 af_:Int
 C_:List (List a0M)
 deriving Inhabited,DecidableEq
def f0v(x:e0O):List SV:=[.int .i64 x.af_,lsv (f0c a0n 4) 1 x.C_]
theorem y0V(x:e0O):(f0v x).length=2:=rfl
def a0R(x0:List UInt8)(x1:Int):Option (Int):=
 (Option.bind (a0x (fun(s0:Int)=>(Option.bind (Option.bind (bif(decide (s0<(x0.length:Int)))then(bif inR s0 x0.length then(some ((decide (((((x0.getD (s0:Int).toNat 0).toNat:Nat):Int))=32))))else none)else(some false)) fun(s1:Bool)=>(bif s1 then(some (.inl ()))else(some (.inr (.inr s0))))) (a0m fun(s3:Unit)=>(some (.inl (IntKind.wrap .i64 (s0+1))))))) big x1) fun(s2:Int)=>(some s2))
theorem b0x {x0:List UInt8} {x1 r:Int} (h:a0R x0 x1=some r):SQ 222 [.str x0,iL x1] [] (iL r) []:=by
 refine kFn (fn:=Tryz.f222) (λF D W V=> ?_)
 unfold a0R at h
 exact kq (kcN h (fun(s2:Int)=>([(1,iL s2),(4,iL 0)],[])) (λs2 hy0=>kb 0 (kl (fun(s0:Int)=>([(0, .str x0),(1,iL s0),(4,iL 0)],[])) hy0 [0,1,4] (λs0 x226 hs0=>kcX hs0 (fun(s3:Unit)=>([(0, .str x0),(1,iL s0),(4,iL 0)],[])) (λy0 hy1 h1=>kcN hy1 (fun(s1:Bool)=>([(0, .str x0),(1,iL s0),(4,iL 0),(14, .bool s1)],[])) (λs1 hy2=>km 5 (kB 9 hy2 (λh4=>kc 2 (kGb 12 h4 (λh6=>ke 2 (kNo h6 [0,1,4,14])))) (λh5=>ke 5 (kNo h5 [0,1,4,14])))) (λs1 h3=>kBT 14 h3 (λh7=>kK (kXo h7 [0,1,4])) (λh8=>kEx 0 (kCx h8 h1 (λh9=>kLx h9 (λh10=>PJ.blockOut (kNo h10 [1,4]))))))) (λs3 h2=>kb 1 (kM (PJ.blockNormal (kLo h2 [0,1,4]))))))) (λs2 h0=>kq (kX (by cases h0;exact kZ D W V))))
def c0J(x0:List UInt8)(x1:Int):Option (Int):=
 (Option.bind (a0x (fun(s0:Int)=>(Option.bind (Option.bind (bif(decide (s0<(x0.length:Int)))then(bif inR s0 x0.length then(bif(decide (((((x0.getD (s0:Int).toNat 0).toNat:Nat):Int))≥97))then(bif inR s0 x0.length then(some ((decide (((((x0.getD (s0:Int).toNat 0).toNat:Nat):Int))<=122))))else none)else(some false))else none)else(some false)) fun(s1:Bool)=>(bif s1 then(some (.inl ()))else(some (.inr (.inr s0))))) (a0m fun(s3:Unit)=>(some (.inl (IntKind.wrap .i64 (s0+1))))))) big x1) fun(s2:Int)=>(some s2))
theorem g0v {x0:List UInt8} {x1 r:Int} (h:c0J x0 x1=some r):SQ 223 [.str x0,iL x1] [] (iL r) []:=by
 refine kFn (fn:=Tryz.f223) (λF D W V=> ?_)
 unfold c0J at h
 exact kq (kcN h (fun(s2:Int)=>([(1,iL s2),(4,iL 0)],[])) (λs2 hy0=>kb 0 (kl (fun(s0:Int)=>([(0, .str x0),(1,iL s0),(4,iL 0)],[])) hy0 [0,1,4] (λs0 x306 hs0=>kcX hs0 (fun(s3:Unit)=>([(0, .str x0),(1,iL s0),(4,iL 0)],[])) (λy0 hy1 h1=>kcN hy1 (fun(s1:Bool)=>([(0, .str x0),(1,iL s0),(4,iL 0),(20, .bool s1)],[])) (λs1 hy2=>km 5 (kB 9 hy2 (λh4=>kc 2 (kGb 12 h4 (λh6=>kc 3 (kB 15 h6 (λh7=>kc 2 (kGb 18 h7 (λh9=>ke 2 (kNo h9 [0,1,4,20])))) (λh8=>ke 5 (kNo h8 [0,1,4,20])))))) (λh5=>ke 11 (kNo h5 [0,1,4,20])))) (λs1 h3=>kBT 20 h3 (λh10=>kK (kXo h10 [0,1,4])) (λh11=>kEx 0 (kCx h11 h1 (λh12=>kLx h12 (λh13=>PJ.blockOut (kNo h13 [1,4]))))))) (λs3 h2=>kb 1 (kM (PJ.blockNormal (kLo h2 [0,1,4]))))))) (λs2 h0=>kq (kX (by cases h0;exact kZ D W V))))
def e0f(x0:Int):Option (Bool):=
 (Option.bind (bif(decide (x0=110))then(some true)else(bif(decide (x0=105))then(some true)else(bif(decide (x0=118))then(some true)else(bif(decide (x0=119))then(some true)else(bif(decide (x0=102))then(some true)else(bif(decide (x0=116))then(some true)else(bif(decide (x0=99))then(some true)else(some (decide (x0=101)))))))))) fun(s0:Bool)=>(some s0))
theorem l0F {x0:Int} {r:Bool} (h:e0f x0=some r):SQ 287 [.int .u8 x0] [] (.bool r) []:=by
 refine kFn (fn:=Tryz.f287) (λF D W V=> ?_)
 unfold e0f at h
 exact kq (kcN h (fun(s0:Bool)=>([(2, .bool s0)],[])) (λs0 hy0=>km 3 (kB 5 hy0 (λh1=>ke 28 (kNo h1 [2])) (λh2=>kc 4 (kB 9 h2 (λh3=>ke 24 (kNo h3 [2])) (λh4=>kc 4 (kB 13 h4 (λh5=>ke 20 (kNo h5 [2])) (λh6=>kc 4 (kB 17 h6 (λh7=>ke 16 (kNo h7 [2])) (λh8=>kc 4 (kB 21 h8 (λh9=>ke 12 (kNo h9 [2])) (λh10=>kc 4 (kB 25 h10 (λh11=>ke 8 (kNo h11 [2])) (λh12=>kc 4 (kB 29 h12 (λh13=>ke 4 (kNo h13 [2])) (λh14=>ke 4 (kNo h14 [2])))))))))))))))) (λs0 h0=>kX (by cases h0;exact kZ D W V)))
def b0u(x0:List UInt8)(x1:Int)(x2:List UInt8):Option (Bool):=
 (Option.bind (bif(decide (((IntKind.wrap .i64 (x1+(x2.length:Int))))<=(x0.length:Int)))then(bif inS x1 ((IntKind.wrap .i64 (x1+(x2.length:Int)))) x0.length then(some ((((cut x0 x1 ((IntKind.wrap .i64 (x1+(x2.length:Int))))))==x2)))else none)else(some false)) fun(s0:Bool)=>(some s0))
theorem c0D {x0:List UInt8} {x1:Int} {x2:List UInt8} {r:Bool} (h:b0u x0 x1 x2=some r):SQ 288 [.str x0,iL x1, .str x2] [] (.bool r) []:=by
 refine kFn (fn:=Tryz.f288) (λF D W V=> ?_)
 unfold b0u at h
 refine kq (kcN h (fun(s0:Bool)=>([(6, .bool s0)],[])) (λs0 hy0=> ?_) (λs0 h0=> ?_))
 refine km 8 (kB 14 hy0 (λh1=> ?_) (λh2=> ?_))
 refine kc 6 ?_
 obtain⟨hm,h3⟩:=b0k h1
 exact kQ 21 (.str (cut x0 x1 ((IntKind.wrap .i64 (x1+(x2.length:Int)))))) [] (tr2:=[]) hm (ke 4 (kNo h3 [6]))
 exact ke 11 (kNo h2 [6])
 exact kX (by cases h0;exact kZ D W V)
def a0X(x0:List UInt8)(x1 x2:Int):Option (Int×Int):=
 (Option.bind (a0R x0 x1) λy0=>(Option.bind (a0x (fun(s0:Int×Int)=>(Option.bind (Option.bind (bif(decide (s0.1<(x0.length:Int)))then(bif inR s0.1 x0.length then(bif(decide (((((x0.getD (s0.1:Int).toNat 0).toNat:Nat):Int))≥48))then(bif inR s0.1 x0.length then(some ((decide (((((x0.getD (s0.1:Int).toNat 0).toNat:Nat):Int))<=57))))else none)else(some false))else none)else(some false)) fun(s2:Bool)=>(bif s2 then(some (.inl ()))else(some (.inr (.inr (s0.1,s0.2)))))) (a0m fun(s5:Unit)=>(Option.bind (bif(decide ((IntKind.wrap .i64 (s0.1-y0))<9))then(bif inR s0.1 x0.length then(some ((IntKind.wrap .i64 ((IntKind.wrap .i64 (s0.2*10))+((IntKind.wrap .i64 ((IntKind.wrap .u8 (((((x0.getD (s0.1:Int).toNat 0).toNat:Nat):Int))-48)))))))))else none)else(some s0.2)) fun(s3:Int)=>(some (.inl ((IntKind.wrap .i64 (s0.1+1)),s3))))))) big (y0,0)) fun(s1:Int×Int)=>(Option.bind (Option.bind (bif(decide (s1.1=y0))then(some true)else(bif(decide ((IntKind.wrap .i64 (s1.1-y0))>9))then(some true)else(bif inR y0 x0.length then(bif(decide (((((x0.getD (y0:Int).toNat 0).toNat:Nat):Int))=48))then(bif(decide ((IntKind.wrap .i64 (s1.1-y0))>1))then(some true)else(some (decide (s1.2<x2))))else(some (decide (s1.2<x2))))else none))) fun(s4:Bool)=>(bif s4 then(some (.inr ((-1),y0)))else(some (.inl ())))) (a0m fun(s6:Unit)=>(some (s1.2,s1.1))))))
theorem d0T {x0:List UInt8} {x1 x2:Int} {r:Int×Int} (h:a0X x0 x1 x2=some r):SQ 289 [.str x0,iL x1,iL x2] [] (.tup [iL r.1,iL r.2]) []:=by
 refine kFn (fn:=Tryz.f289) (λF D W V=> ?_)
 unfold a0X at h
 exact kq (kn 2 (kAb 13 h (λ_=>b0x) (λy0 h0=>kr 1 (kq (kq (kcN h0 (fun(s1:Int×Int)=>([(0, .str x0),(2,iL x2),(6,iL 0),(7,iL 0),(8,iL y0),(9,iL s1.1),(10,iL s1.2)],[])) (λs1 hy0=>kb 0 (kl (fun(s0:Int×Int)=>([(0, .str x0),(2,iL x2),(6,iL 0),(7,iL 0),(8,iL y0),(9,iL s0.1),(10,iL s0.2)],[])) hy0 [0,2,6,7,8,9,10] (λs0 x374 hs0=>kcX hs0 (fun(s5:Unit)=>([(0, .str x0),(2,iL x2),(6,iL 0),(7,iL 0),(8,iL y0),(9,iL s0.1),(10,iL s0.2)],[])) (λy1 hy1 h2=>kcN hy1 (fun(s2:Bool)=>([(0, .str x0),(2,iL x2),(6,iL 0),(7,iL 0),(8,iL y0),(9,iL s0.1),(10,iL s0.2),(30, .bool s2)],[])) (λs2 hy2=>km 5 (kB 19 hy2 (λh5=>kc 2 (kGb 22 h5 (λh7=>kc 3 (kB 25 h7 (λh8=>kc 2 (kGb 28 h8 (λh10=>ke 2 (kNo h10 [0,2,6,7,8,9,10,30])))) (λh9=>ke 5 (kNo h9 [0,2,6,7,8,9,10,30])))))) (λh6=>ke 11 (kNo h6 [0,2,6,7,8,9,10,30])))) (λs2 h4=>kBT 30 h4 (λh11=>kK (kXo h11 [0,2,6,7,8,9,10])) (λh12=>kEx 0 (kCx h12 h2 (λh13=>kLx h13 (λh14=>PJ.blockOut (kNo h14 [0,2,6,7,8,9,10]))))))) (λs5 h3=>kb 1 (kcN h3 (fun(s3:Int)=>([(0, .str x0),(2,iL x2),(6,iL 0),(7,iL 0),(8,iL y0),(9,iL s0.1),(10,iL s3)],[])) (λs3 hy3=>kq (kBT 34 hy3 (λh16=>km 4 (kGb 39 h16 (λh18=>ke 4 (kNo h18 [0,2,6,7,8,9,10])))) (λh17=>kK (kNo h17 [0,2,6,7,8,9,10])))) (λs3 h15=>kM (PJ.blockNormal (kLo h15 [0,2,6,7,8,9,10])))))))) (λs1 h1=>kcX h1 (fun(s6:Unit)=>([(6,iL 0),(7,iL 0),(9,iL s1.1),(10,iL s1.2)],[])) (λy2 hy4 h19=>kcN hy4 (fun(s4:Bool)=>([(6,iL 0),(7,iL 0),(8,iL y0),(9,iL s1.1),(10,iL s1.2),(70, .bool s4)],[])) (λs4 hy5=>km 4 (kB 48 hy5 (λh22=>ke 22 (kNo h22 [6,7,8,9,10,70])) (λh23=>kc 6 (kB 54 h23 (λh24=>ke 16 (kNo h24 [6,7,8,9,10,70])) (λh25=>kc 2 (kGb 57 h25 (λh26=>kc 2 (kB 59 h26 (λh27=>kc 7 (kB 66 h27 (λh29=>ke 4 (kNo h29 [6,7,8,9,10,70])) (λh30=>ke 4 (kNo h30 [6,7,8,9,10,70])))) (λh28=>ke 11 (kNo h28 [6,7,8,9,10,70])))))))))) (λs4 h21=>kBT 70 h21 (λh31=>kq (kX (kCx h31 h19 (λh33=>by obtain rfl:=oi h33;exact kZ D W V)))) (λh32=>kK (kXo h32 [6,7,9,10])))) (λs6 h20=>kq (kX (by cases h20;exact kZ D W V))))))))))
def b0I(x0:List UInt8)(x1:Int):Option ((List a0p)×Int×Bool):=
 (a0x (fun(s0:Int×(List a0p))=>(Option.bind (a0X x0 s0.1 0) λy0=>(bif(decide (y0.1<0))then(some (.inr (([]:List a0p),y0.2,false)))else(Option.bind (a0R x0 y0.2) λy2=>(Option.bind (Option.bind (b0u x0 y2 ([46,46]:List UInt8)) λy4=>(bif y4 then(Option.bind (a0X x0 (IntKind.wrap .i64 (y2+2)) (IntKind.wrap .i64 (y0.1+1))) λy1=>(bif(decide (y1.1<0))then(some (.inr (.inr (([]:List a0p),y1.2,false))))else(some (.inl (y1.2,y1.1)))))else(some (.inl (y0.2,y0.1))))) (a0m fun(s1:Int×Int)=>(bif room (s0.2.length+([(⟨y0.1,s1.2⟩:a0p)]:List a0p).length)then(Option.bind (a0R x0 s1.1) λy3=>(Option.bind (b0u x0 y3 ([44]:List UInt8)) λy5=>(bif(!y5)then(some (.inr ((s0.2++([(⟨y0.1,s1.2⟩:a0p)]:List a0p)),s1.1,true)))else(some (.inl ((IntKind.wrap .i64 (y3+1)),(s0.2++([(⟨y0.1,s1.2⟩:a0p)]:List a0p))))))))else none))))))) big (x1,([]:List a0p)))
theorem i0Q {x0:List UInt8} {x1:Int} {r:(List a0p)×Int×Bool} (h:b0I x0 x1=some r):SQ 290 [.str x0,iL x1] [] (.tup [lsv b0G 2 r.1,iL r.2.1, .bool r.2.2]) []:=by
 refine kFn (fn:=Tryz.f290) (λF D W V=> ?_)
 unfold b0I at h
 exact kq (kq (kb 0 (J.wk (Wk.viv 7 2 167 (by kernel_rfl)) (kl (fun(s0:Int×(List a0p))=>([(0, .str x0),(1,iL s0.1),(4, .nl),(5,iL 0),(6, .bool false),(7, .vc 0)],[a0H b0G 2 167 s0.2])) h [0,1,4,5,6,7] (λs0 x119 hs0=>kb 1 (kn 2 (kAb 18 hs0 (λ_=>d0T) (λy0 h0=>kr 5 (kS (kq (kBT 22 h0 (λh1=>kq (kX (PJ.passRet (PJ.blockRet (kLx h1 (λh3=>PJ.blockRet (by obtain rfl:=oi h3;exact PJ.res (v1:= .tup [.nl,iL y0.2, .bool false]) (Le.tup (.cons (Le.nl _) (LeL.refl _))) (kZ D W V)))))))) (λh2=>kKN (kq (kn 2 (kAb 27 h2 (λ_=>b0x) (λy2 h4=>kr 1 (kcX h4 (fun(s1:Int×Int)=>([(0, .str x0),(1,iL s0.1),(4, .nl),(5,iL 0),(6, .bool false),(7, .vc 0),(8,iL y0.1),(9,iL s1.1),(10,iL s1.2)],[a0H b0G 2 167 s0.2])) (λy6 hy0 h5=>kn 2 (kAb 30 hy0 (λ_=>c0D) (λy4 h7=>kEN (kBT 30 h7 (λh8=>kn 5 (kAb 37 h8 (λ_=>d0T) (λy1 h10=>kr 5 (kS (kq (kBT 41 h10 (λh11=>kq (kX (PJ.passRet (kCx h11 h5 (λh13=>PJ.blockRet (kLx h13 (λh14=>PJ.blockRet (by obtain rfl:=oi h14;exact PJ.res (v1:= .tup [.nl,iL y1.2, .bool false]) (Le.tup (.cons (Le.nl _) (LeL.refl _))) (kZ D W V))))))))) (λh12=>kKN (kq (kM (kXo h12 [0,1,4,5,6,7,8,9,10])))))))))) (λh9=>kK (kXo h9 [0,1,4,5,6,7,8,9,10])))))) (λs1 h6=>kn 5 (kAp 50 0 2 2 167 [0,1] b0G h6 (λh15=>kr 1 (kn 2 (kAb 53 h15 (λ_=>b0x) (λy3 h16=>kr 1 (kS (kn 2 (kAb 56 h16 (λ_=>c0D) (λy5 h17=>kr 1 (kBT 57 h17 (λh18=>kq (kX (PJ.passRet (PJ.blockRet (kLx h18 (λh20=>PJ.blockRet (by obtain rfl:=oi h20;exact PJ.wk (Wk.freeze 2 (n:=((s0.2++([(⟨y0.1,s1.2⟩:a0p)]:List a0p))).length) (k:=2) (e:=167) (cs:=((s0.2++([(⟨y0.1,s1.2⟩:a0p)]:List a0p))).flatMap b0G) (by kernel_rfl)) (kZ D W V)))))))) (λh19=>kKN (kM (PJ.blockNormal (kLW h19 W V [2]))))))))))))))))))))))))))))))))
def c0z(x0:List UInt8)(x1:Int):Option (a0M×Int×Bool):=
 (Option.bind (a0R x0 x1) λy0=>(Option.bind (Option.bind (Option.bind (c0J x0 y0) λy4=>(bif(decide (¬y4=(IntKind.wrap .i64 (y0+1))))then(some true)else(bif inR y0 x0.length then(Option.bind (e0f ((((x0.getD (y0:Int).toNat 0).toNat:Nat):Int))) λy5=>(some (!y5)))else none))) fun(s2:Bool)=>(bif s2 then(some (.inr ((⟨0,0,false,([]:List a0p)⟩:a0M),y0,false)))else(some (.inl ())))) (a0m fun(s3:Unit)=>(bif inR y0 x0.length then(Option.bind (a0R x0 (IntKind.wrap .i64 (y0+1))) λy2=>(Option.bind (Option.bind (b0u x0 y2 ([37]:List UInt8)) λy6=>(bif y6 then(Option.bind (a0X x0 (IntKind.wrap .i64 (y2+1)) 1) λy1=>(bif(decide (y1.1<0))then(some (.inr ((⟨(((x0.getD (y0:Int).toNat 0).toNat:Nat):Int),0,false,([]:List a0p)⟩:a0M),y1.2,false)))else(Option.bind (a0R x0 y1.2) λy7=>(some (.inl (y7,y1.1))))))else(some (.inl (y2,0))))) (a0m fun(s1:Int×Int)=>(Option.bind (Option.bind (b0u x0 s1.1 ([33,61]:List UInt8)) λy8=>(bif y8 then(some ((IntKind.wrap .i64 (s1.1+1)),true))else(some (s1.1,false)))) fun(s0:Int×Bool)=>(Option.bind (b0u x0 s0.1 ([61]:List UInt8)) λy9=>(bif(!y9)then(some ((⟨(((x0.getD (y0:Int).toNat 0).toNat:Nat):Int),s1.2,s0.2,([]:List a0p)⟩:a0M),s0.1,false))else(Option.bind (b0I x0 (IntKind.wrap .i64 (s0.1+1))) λy3=>(some ((⟨(((x0.getD (y0:Int).toNat 0).toNat:Nat):Int),s1.2,s0.2,y3.1⟩:a0M),y3.2.1,y3.2.2)))))))))else none))))
theorem k0P {x0:List UInt8} {x1:Int} {r:a0M×Int×Bool} (h:c0z x0 x1=some r):SQ 221 [.str x0,iL x1] [] (.tup [.agg (a0n r.1),iL r.2.1, .bool r.2.2]) []:=by
 refine kFn (fn:=Tryz.f221) (λF D W V=> ?_)
 unfold c0z at h
 exact kq (kq (kn 2 (kAb 16 h (λ_=>b0x) (λy0 h0=>kr 1 (kcX h0 (fun(s3:Unit)=>([(0, .str x0),(1,iL y0),(4, .ptr 0 0),(5,iL 0),(6, .bool false),(7, .ptr 1 0)],[.box [.int .u8 0,iL 0, .bool false, .nl], .box [.int .u8 0,iL 0, .bool false, .nl]])) (λy10 hy0 h1=>kcN hy0 (fun(s2:Bool)=>([(0, .str x0),(1,iL y0),(4, .ptr 0 0),(5,iL 0),(6, .bool false),(7, .ptr 1 0),(29, .bool s2)],[.box [.int .u8 0,iL 0, .bool false, .nl], .box [.int .u8 0,iL 0, .bool false, .nl]])) (λs2 hy1=>km 2 (kAb 19 hy1 (λ_=>g0v) (λy4 h4=>kc 4 (kB 23 h4 (λh5=>ke 6 (kNo h5 [0,1,4,5,6,7,29])) (λh6=>kc 2 (kGb 26 h6 (λh7=>kAb 27 h7 (λ_=>l0F) (λy5 h8=>ke 2 (kNo h8 [0,1,4,5,6,7,29]))))))))) (λs2 h3=>kBT 29 h3 (λh9=>kq (kX (kCx h9 h1 (λh11=>by obtain rfl:=oi h11;exact PJ.res (v1:= .tup [.agg [.int .u8 0,iL 0, .bool false, .nl],iL y0, .bool false]) (Le.tup (.cons (Le.agg (.cons (Le.refl _) (.cons (Le.refl _) (.cons (Le.refl _) (.cons (Le.nl _) .nil))))) (LeL.refl _))) (kZ D W V))))) (λh10=>kK (kXo h10 [0,1,4,5,6,7])))) (λs3 h2=>kn 2 (kGb 34 h2 (λh12=>kr 2 (kn 3 (kAb 39 h12 (λ_=>b0x) (λy2 h13=>kr 1 (kcX h13 (fun(s1:Int×Int)=>([(0, .str x0),(1,iL s1.1),(4, .ptr 0 0),(5,iL 0),(6, .bool false),(7, .ptr 1 0)],[.box [.int .u8 0,iL 0, .bool false, .nl], .box [.int .u8 ((((x0.getD (y0:Int).toNat 0).toNat:Nat):Int)),iL s1.2, .bool false, .nl]])) (λy11 hy2 h14=>kn 2 (kAb 42 hy2 (λ_=>c0D) (λy6 h16=>kEN (kBT 42 h16 (λh17=>kn 3 (kAb 47 h17 (λ_=>d0T) (λy1 h19=>kr 5 (kS (kq (kBT 51 h19 (λh20=>kq (kX (PJ.passRet (kCx h20 h14 (λh22=>by obtain rfl:=oi h22;exact PJ.res (v1:= .tup [.agg [.int .u8 ((((x0.getD (y0:Int).toNat 0).toNat:Nat):Int)),iL 0, .bool false, .nl],iL y1.2, .bool false]) (Le.tup (.cons (Le.agg (.cons (Le.refl _) (.cons (Le.refl _) (.cons (Le.refl _) (.cons (Le.nl _) .nil))))) (LeL.refl _))) (kZ D W V)))))) (λh21=>kKN (kq (km 2 (kAb 58 h21 (λ_=>b0x) (λy7 h23=>ke 1 (kXo h23 [0,1,4,5,6,7])))))))))))) (λh18=>kK (kXo h18 [0,1,4,5,6,7])))))) (λs1 h15=>kcN h15 (fun(s0:Int×Bool)=>([(0, .str x0),(1,iL s0.1),(4, .ptr 0 0),(5,iL 0),(6, .bool false),(7, .ptr 1 0)],[.box [.int .u8 0,iL 0, .bool false, .nl], .box [.int .u8 ((((x0.getD (y0:Int).toNat 0).toNat:Nat):Int)),iL s1.2, .bool s0.2, .nl]])) (λs0 hy3=>kn 2 (kAb 61 hy3 (λ_=>c0D) (λy8 h25=>kEN (kBT 61 h25 (λh26=>kq (kM (kNo h26 [0,1,4,5,6,7]))) (λh27=>kK (kNo h27 [0,1,4,5,6,7])))))) (λs0 h24=>kS (kn 2 (kAb 67 h24 (λ_=>c0D) (λy9 h28=>kr 1 (kBT 68 h28 (λh29=>kq (kX (PJ.passRet (by obtain rfl:=oi h29;exact PJ.res (v1:= .tup [.agg [.int .u8 ((((x0.getD (y0:Int).toNat 0).toNat:Nat):Int)),iL s1.2, .bool s0.2, .nl],iL s0.1, .bool false]) (Le.tup (.cons (Le.agg (.cons (Le.refl _) (.cons (Le.refl _) (.cons (Le.refl _) (.cons (Le.nl _) .nil))))) (LeL.refl _))) (kZ D W V))))) (λh30=>kKN (kn 3 (kAb 75 h30 (λ_=>i0Q) (λy3 h31=>kr 7 (kq (kq (kX (by cases h31;exact kZ D W V))))))))))))))))))))))))))
def b0z(x0:List UInt8):Option ((List (List a0M))×Int×Int):=
 (bif(decide ((x0.length:Int)>400))then(some (([]:List (List a0M)),0,11))else(Option.bind (a0x (fun(s0:Int×Bool×Int×(List (List a0M))×(List a0M))=>(Option.bind (c0z x0 s0.2.2.1) λy0=>(bif(!y0.2.2)then(some (.inr (.inr (([]:List (List a0M)),y0.2.1,2))))else(Option.bind (bif s0.2.1 then(some true)else(bif(decide ((y0.1.R_.length:Int)>20))then(some true)else(some ((decide ((IntKind.wrap .i64 (s0.1+1))>20)))))) fun(s2:Bool)=>(bif room (s0.2.2.2.2.length+([y0.1]:List a0M).length)then(Option.bind (a0R x0 y0.2.1) λy1=>(bif(decide (y1=(x0.length:Int)))then(some (.inr (.inl (s2,s0.2.2.2.1,(s0.2.2.2.2++([y0.1]:List a0M))))))else(Option.bind (c0J x0 y1) λy2=>(Option.bind (Option.bind (bif inS y1 y2 x0.length then(bif((cut x0 y1 y2) !=([97,110,100]:List UInt8))then(bif inS y1 y2 x0.length then(some ((cut x0 y1 y2) !=([111,114]:List UInt8)))else none)else(some false))else none) fun(s4:Bool)=>(bif s4 then(some (.inr (.inr (.inr (([]:List (List a0M)),y1,2)))))else(some (.inl ())))) (a0m fun(s5:Unit)=>(Option.bind (bif inS y1 y2 x0.length then(bif((cut x0 y1 y2)==([111,114]:List UInt8))then(bif room (s0.2.2.2.1.length+(([(s0.2.2.2.2++([y0.1]:List a0M))]:List (List a0M))).length)then(some ((s0.2.2.2.1++(([(s0.2.2.2.2++([y0.1]:List a0M))]:List (List a0M)))),([]:List a0M)))else none)else(some (s0.2.2.2.1,(s0.2.2.2.2++([y0.1]:List a0M)))))else none) fun(s3:(List (List a0M))×(List a0M))=>(some (.inl ((IntKind.wrap .i64 (s0.1+1)),s2,y2,s3.1,s3.2)))))))))else none))))) big (0,false,0,([]:List (List a0M)),([]:List a0M))) (a0m fun(s1:Bool×(List (List a0M))×(List a0M))=>(bif s1.1 then(some (([]:List (List a0M)),0,11))else(bif room (s1.2.1.length+([s1.2.2]:List (List a0M)).length)then(some ((s1.2.1++([s1.2.2]:List (List a0M))),0,0))else none)))))
theorem g0e {x0:List UInt8} {r:(List (List a0M))×Int×Int} (h:b0z x0=some r):SQ 140 [.str x0] [] (.tup [lsv (f0c a0n 4) 1 r.1,iL r.2.1,iL r.2.2]) []:=by
 refine kFn (fn:=Tryz.f140) (λF D W V=> ?_)
 unfold b0z at h
 refine kq (kS (kq (kBT 16 h (λh1=> ?_) (λh2=> ?_))))
 exact kq (kX (PJ.passRet (by obtain rfl:=oi h1;exact PJ.res (v1:= .tup [.nl,iL 0,iL 11]) (Le.tup (.cons (Le.nl _) (LeL.refl _))) (kZ D W V))))
 refine kKN (kq (kq (kq (kq (kq (kcX h2 (fun(s1:Bool×(List (List a0M))×(List a0M))=>([(2, .nl),(3,iL 0),(4,iL 0),(5, .vc 0),(6, .vc 1),(8, .bool s1.1)],[a0H (f0c a0n 4) 1 285 s1.2.1,a0H a0n 4 288 s1.2.2])) (λy3 hy0 h0=> ?_) (λs1 h3=> ?_)))))))
 refine kb 0 (J.wk (Wk.viv 5 1 285 (by kernel_rfl)) (J.wk (Wk.viv 6 4 288 (by kernel_rfl)) (kl (fun(s0:Int×Bool×Int×(List (List a0M))×(List a0M))=>([(0, .str x0),(2, .nl),(3,iL 0),(4,iL 0),(5, .vc 0),(6, .vc 1),(7,iL s0.1),(8, .bool s0.2.1),(9,iL s0.2.2.1)],[a0H (f0c a0n 4) 1 285 s0.2.2.2.1,a0H a0n 4 288 s0.2.2.2.2])) hy0 [0,2,3,4,5,6,7,8,9] (λs0 x512 hs0=>kb 1 (kn 2 (kAb 20 hs0 (λ_=>k0P) (λy0 h4=>kr 8 (kS (kq (kBT 25 h4 (λh5=> ?_) (λh6=> ?_)))))))))))
 exact kq (kX (PJ.passRet (PJ.blockRet (kLx h5 (λh7=>PJ.blockRet (kCx h7 h0 (λh8=>by obtain rfl:=oi h8;exact PJ.res (v1:= .tup [.nl,iL y0.2.1,iL 2]) (Le.tup (.cons (Le.nl _) (LeL.refl _))) (kZ D W V))))))))
 refine kKN (kq (kcN h6 (fun(s2:Bool)=>([(0, .str x0),(2, .nl),(3,iL 0),(4,iL 0),(5, .vc 0),(6, .vc 1),(7,iL (IntKind.wrap .i64 (s0.1+1))),(8, .bool s2),(9,iL s0.2.2.1),(10, .ptr 2 0),(11,iL y0.2.1)],[a0H (f0c a0n 4) 1 285 s0.2.2.2.1,a0H a0n 4 288 s0.2.2.2.2, .box (a0n y0.1)])) (λs2 hy1=> ?_) (λs2 h9=> ?_)))
 exact km 2 (kB 30 hy1 (λh10=>ke 10 (kNo h10 [0,2,3,4,5,6,7,8,9,10,11])) (λh11=>kc 6 (kB 36 h11 (λh12=>ke 4 (kNo h12 [0,2,3,4,5,6,7,8,9,10,11])) (λh13=>ke 4 (kNo h13 [0,2,3,4,5,6,7,8,9,10,11])))))
 refine kn 3 (kAp 43 1 4 4 288 [1,3] a0n h9 (λh14=>kr 1 (kn 2 (kAb 46 h14 (λ_=>b0x) (λy1 h15=>kr 1 (kS (kq (kBT 50 h15 (λh16=> ?_) (λh17=> ?_)))))))))
 exact kEp 0 (PJ.blockPass (by kernel_rfl) (kLx h16 (λh18=>PJ.blockOut (kXW h18 W V [0,4]))))
 refine kKN (kn 2 (kAb 53 h17 (λ_=>g0v) (λy2 h19=>kr 1 (kcX h19 (fun(s5:Unit)=>([(0, .str x0),(2, .nl),(3,iL 0),(4,iL 0),(5, .vc 0),(6, .vc 1),(7,iL (IntKind.wrap .i64 (s0.1+1))),(8, .bool s2),(9,iL y1),(13,iL y2)],[a0H (f0c a0n 4) 1 285 s0.2.2.2.1,a0H a0n 4 288 (s0.2.2.2.2++([y0.1]:List a0M))])) (λy4 hy2 h20=> ?_) (λs5 h21=> ?_)))))
 refine kcN hy2 (fun(s4:Bool)=>([(0, .str x0),(2, .nl),(3,iL 0),(4,iL 0),(5, .vc 0),(6, .vc 1),(7,iL (IntKind.wrap .i64 (s0.1+1))),(8, .bool s2),(9,iL y1),(13,iL y2),(65, .bool s4)],[a0H (f0c a0n 4) 1 285 s0.2.2.2.1,a0H a0n 4 288 (s0.2.2.2.2++([y0.1]:List a0M))])) (λs4 hy3=> ?_) (λs4 h22=> ?_)
 refine km 3 ?_
 obtain⟨hm,h23⟩:=b0k hy3
 refine kQ 57 (.str (cut x0 y1 y2)) [] (tr2:=[]) hm (kc 2 (kB 59 h23 (λh24=> ?_) (λh25=> ?_)))
 refine kc 3 ?_
 obtain⟨hm,h26⟩:=b0k h24
 exact kQ 63 (.str (cut x0 y1 y2)) [] (tr2:=[]) hm (ke 2 (kNW h26 W V [0,4]))
 exact ke 6 (kNW h25 W V [0,4])
 exact kBT 65 h22 (λh27=>kq (kX (kCx h27 h20 (λh29=>PJ.blockRet (kLx h29 (λh30=>PJ.blockRet (kCx h30 h0 (λh31=>by obtain rfl:=oi h31;exact PJ.res (v1:= .tup [.nl,iL y1,iL 2]) (Le.tup (.cons (Le.nl _) (LeL.refl _))) (kZ D W V))))))))) (λh28=>kK (kXo h28 [0,2,3,4,5,6,7,8,9,13]))
 refine kcN h21 (fun(s3:(List (List a0M))×(List a0M))=>([(0, .str x0),(2, .nl),(3,iL 0),(4,iL 0),(5, .vc 0),(6, .vc 1),(7,iL (IntKind.wrap .i64 (s0.1+1))),(8, .bool s2),(9,iL y1),(13,iL y2)],[a0H (f0c a0n 4) 1 285 s3.1,a0H a0n 4 288 s3.2])) (λs3 hy4=> ?_) (λs3 h32=> ?_)
 refine kn 3 ?_
 obtain⟨hm,h33⟩:=b0k hy4
 refine kQ 70 (.str (cut x0 y1 y2)) [] (tr2:=[]) hm (kr 1 (kBT 71 h33 (λh34=> ?_) (λh35=> ?_)))
 refine kn 2 (RJ.wk (Wk.freeze 1 (n:=(s0.2.2.2.2++([y0.1]:List a0M)).length) (k:=4) (e:=288) (cs:=(s0.2.2.2.2++([y0.1]:List a0M)).flatMap a0n) (by kernel_rfl)) (kc 1 ?_))
 obtain⟨hm,h36⟩:=b0k h34
 exact RJ.rel (d:=(some 75)) (ef:=⟨.vc 3,[0,2],[(0, .gone),(3, .vec (s0.2.2.2.1.length+(([(s0.2.2.2.2++([y0.1]:List a0M))]:List (List a0M))).length) 1 285 (s0.2.2.2.1.flatMap (f0c a0n 4)++(([(s0.2.2.2.2++([y0.1]:List a0M))]:List (List a0M))).flatMap (f0c a0n 4)))]⟩) (ef':=⟨.vc 3,[0,2],[(0, .gone),(3,a0H (f0c a0n 4) 1 285 (s0.2.2.2.1++(([(s0.2.2.2.2++([y0.1]:List a0M))]:List (List a0M)))))]⟩) (c:=room (s0.2.2.2.1.length+(([(s0.2.2.2.2++([y0.1]:List a0M))]:List (List a0M))).length)) (tr2:=[]) (H2:=[.gone, .gone,a0H (f0c a0n 4) 1 285 (([(s0.2.2.2.2++([y0.1]:List a0M))]:List (List a0M))),a0H (f0c a0n 4) 1 285 ((s0.2.2.2.1++(([(s0.2.2.2.2++([y0.1]:List a0M))]:List (List a0M)))))]) (by kernel_rfl) hm (λhc=>N.app) (by kernel_rfl) (kr 1 (kM (PJ.wk (Wk.viv 6 4 288 (by kernel_rfl)) (kNW h36 W V [3,4]))))
 exact kK (kNo h35 [0,2,3,4,5,6,7,8,9,13])
 exact kM (PJ.blockNormal (kLo h32 [0,2,3,4,5,6,7,8,9]))
 refine kS (kq (kBT 77 h3 (λh37=> ?_) (λh38=> ?_)))
 exact kq (kX (PJ.passRet (by obtain rfl:=oi h37;exact PJ.res (v1:= .tup [.nl,iL 0,iL 11]) (Le.tup (.cons (Le.nl _) (LeL.refl _))) (kZ D W V))))
 refine kKN (kn 2 (RJ.wk (Wk.freeze 1 (n:=s1.2.2.length) (k:=4) (e:=288) (cs:=s1.2.2.flatMap a0n) (by kernel_rfl)) (kc 1 ?_)))
 obtain⟨hm,h39⟩:=b0k h38
 exact RJ.rel (d:=(some 81)) (ef:=⟨.vc 3,[0,2],[(0, .gone),(3, .vec (s1.2.1.length+([s1.2.2]:List (List a0M)).length) 1 285 (s1.2.1.flatMap (f0c a0n 4)++([s1.2.2]:List (List a0M)).flatMap (f0c a0n 4)))]⟩) (ef':=⟨.vc 3,[0,2],[(0, .gone),(3,a0H (f0c a0n 4) 1 285 (s1.2.1++([s1.2.2]:List (List a0M))))]⟩) (c:=room (s1.2.1.length+([s1.2.2]:List (List a0M)).length)) (tr2:=[]) (H2:=[.gone, .gone,a0H (f0c a0n 4) 1 285 ([s1.2.2]:List (List a0M)),a0H (f0c a0n 4) 1 285 ((s1.2.1++([s1.2.2]:List (List a0M))))]) (by kernel_rfl) hm (λhc=>N.app) (by kernel_rfl) (kr 3 (kX (by obtain rfl:=oi h39;exact PJ.wk (Wk.freeze 3 (n:=((s1.2.1++([s1.2.2]:List (List a0M)))).length) (k:=1) (e:=285) (cs:=((s1.2.1++([s1.2.2]:List (List a0M)))).flatMap (f0c a0n 4)) (by kernel_rfl)) (kZ D W V))))
def a0O:Nat->Int->Option (List UInt8)
 |0,_=>none
 |n+1,x0=>(bif(decide (x0<0))then(Option.bind (a0O n (IntKind.wrap .i64 (0-x0))) λy0=>(bif room (([45]:List UInt8).length+y0.length)then(some (([45]:List UInt8)++y0))else none))else(Option.bind (a0x (fun(s0:Int×(List UInt8))=>(bif(decide (s0.1≥10))then(bif room (((c0S (([(IntKind.wrap .u8 ((IntKind.wrap .i64 (48+((Int.tmod (IntKind.wrap .i64 (Int.tdiv s0.1 10)) 10))))))]:List Int)))).length+s0.2.length)then(some (.inl ((IntKind.wrap .i64 (Int.tdiv s0.1 10)),(((c0S (([(IntKind.wrap .u8 ((IntKind.wrap .i64 (48+((Int.tmod (IntKind.wrap .i64 (Int.tdiv s0.1 10)) 10))))))]:List Int))))++s0.2))))else none)else(some (.inr s0.2)))) big (x0,(c0S (([(IntKind.wrap .u8 ((IntKind.wrap .i64 (48+(Int.tmod x0 10)))))]:List Int))))) fun(s1:(List UInt8))=>(some s1)))
theorem d0U: ∀(n:Nat) {x0:Int} {r:List UInt8} (h:a0O n x0=some r),SQ 291 [iL x0] [] (.str r) []:=by
 intro n
 induction n with
 |zero=>intro x0 r h;cases h
 |succ n ih=>
 intro x0 r h
 refine kFn (fn:=Tryz.f291) (λF D W V=> ?_)
 rw[a0O.eq_2]at h
 refine kq (kS (kq (kBT 5 h (λh0=> ?_) (λh1=> ?_))))
 refine kn 2 (kAb 8 h0 (λ_=>ih) (λy0 h2=> ?_))
 obtain⟨hm,h3⟩:=b0k h2
 exact kQ 9 (.str (([45]:List UInt8)++y0)) [] (tr2:=[]) hm (kr 1 (kX (PJ.passRet (by cases h3;exact kZ D W V))))
 refine kKN (kn 5 (RJ.rel (d:=(some 15)) (ef:=⟨.str (((([(IntKind.wrap .u8 ((IntKind.wrap .i64 (48+(Int.tmod x0 10)))))]:List Int)).flatMap (a0s .u8)).map Go.Sy.byteOf),[0],[]⟩) (ef':=⟨.str (c0S (([(IntKind.wrap .u8 ((IntKind.wrap .i64 (48+(Int.tmod x0 10)))))]:List Int))),[0],[]⟩) (c:=((([(IntKind.wrap .u8 ((IntKind.wrap .i64 (48+(Int.tmod x0 10)))))]:List Int)).flatMap (a0s .u8)).all i0z) (tr2:=[]) (H2:=[a0H (a0s .u8) 1 5 (([(IntKind.wrap .u8 ((IntKind.wrap .i64 (48+(Int.tmod x0 10)))))]:List Int))]) (by kernel_rfl) (p0J (([(IntKind.wrap .u8 ((IntKind.wrap .i64 (48+(Int.tmod x0 10)))))]:List Int))) (λhc=>N.toStr) (by kernel_rfl) (kr 1 (kcN h1 (fun(s1:(List UInt8))=>([(2, .str ([]:List UInt8)),(3, .str s1)],[])) (λs1 hy0=> ?_) (λs1 h4=> ?_)))))
 refine kb 0 (J.wk (Wk.sel (L2:=[(0,iL x0),(2, .str ([]:List UInt8)),(3, .str ((c0S (([(IntKind.wrap .u8 ((IntKind.wrap .i64 (48+(Int.tmod x0 10)))))]:List Int)))))]) (H2:=[]) 0 (by rw[W];rfl) V [] (by kernel_rfl) (by kernel_rfl) (by decide) (by kernel_rfl) (by kernel_rfl) (by kernel_rfl) (by kernel_rfl)) (kl (fun(s0:Int×(List UInt8))=>([(0,iL s0.1),(2, .str ([]:List UInt8)),(3, .str s0.2)],[])) hy0 [0,2,3] (λs0 x48 hs0=>kS (kq (kBT 17 hs0 (λh5=> ?_) (λh6=> ?_))))))
 refine kKN (kb 1 (kq (km 5 (RJ.rel (d:=(some 25)) (ef:=⟨.str (((([(IntKind.wrap .u8 ((IntKind.wrap .i64 (48+((Int.tmod (IntKind.wrap .i64 (Int.tdiv s0.1 10)) 10))))))]:List Int)).flatMap (a0s .u8)).map Go.Sy.byteOf),[0],[]⟩) (ef':=⟨.str (c0S (([(IntKind.wrap .u8 ((IntKind.wrap .i64 (48+((Int.tmod (IntKind.wrap .i64 (Int.tdiv s0.1 10)) 10))))))]:List Int))),[0],[]⟩) (c:=((([(IntKind.wrap .u8 ((IntKind.wrap .i64 (48+((Int.tmod (IntKind.wrap .i64 (Int.tdiv s0.1 10)) 10))))))]:List Int)).flatMap (a0s .u8)).all i0z) (tr2:=[]) (H2:=[a0H (a0s .u8) 1 5 (([(IntKind.wrap .u8 ((IntKind.wrap .i64 (48+((Int.tmod (IntKind.wrap .i64 (Int.tdiv s0.1 10)) 10))))))]:List Int))]) (by kernel_rfl) (p0J (([(IntKind.wrap .u8 ((IntKind.wrap .i64 (48+((Int.tmod (IntKind.wrap .i64 (Int.tdiv s0.1 10)) 10))))))]:List Int))) (λhc=>N.toStr) (by kernel_rfl) (kc 1 ?_)))))
 obtain⟨hm,h7⟩:=b0k h5
 exact kQ 27 (.str (((c0S (([(IntKind.wrap .u8 ((IntKind.wrap .i64 (48+((Int.tmod (IntKind.wrap .i64 (Int.tdiv s0.1 10)) 10))))))]:List Int))))++s0.2)) [] (tr2:=[]) hm (ke 1 (PJ.blockNormal (kLW h7 W V [])))
 exact kEp 0 (kLx h6 (λh8=>PJ.blockOut (kNo h8 [2,3])))
 exact kq (kX (by cases h4;exact kZ D W V))
def d0v(x0:List (List a0M)):Option (List UInt8):=
 (Option.bind (a0x (fun(s0:(List UInt8)×Int)=>(bif(decide (s0.2<(x0.length:Int)))then(Option.bind (Option.bind (bif(decide (s0.2>0))then(bif room (s0.1.length+([32,111,114,32]:List UInt8).length)then(some (s0.1++([32,111,114,32]:List UInt8)))else none)else(some s0.1)) fun(s6:(List UInt8))=>(a0x (fun(s1:(List UInt8)×Int)=>(bif inR s0.2 x0.length then(bif(decide (s1.2<((nth x0 s0.2).length:Int)))then(Option.bind (bif inR s0.2 x0.length then(bif inR s1.2 (nth x0 s0.2).length then(Option.bind (bif(decide (s1.2>0))then(bif room (s1.1.length+([32,97,110,100,32]:List UInt8).length)then(some (s1.1++([32,97,110,100,32]:List UInt8)))else none)else(some s1.1)) fun(s3:(List UInt8))=>(bif room (s3.length+((c0S (([(nth (nth x0 s0.2) s1.2).Op_]:List Int)))).length)then(Option.bind (bif(decide (¬((nth (nth x0 s0.2) s1.2).ar_)=0))then(bif room (((s3++((c0S (([(nth (nth x0 s0.2) s1.2).Op_]:List Int)))))).length+([32,37,32]:List UInt8).length)then(Option.bind (a0O big ((nth (nth x0 s0.2) s1.2).ar_)) λy1=>(bif room (((((s3++((c0S (([(nth (nth x0 s0.2) s1.2).Op_]:List Int))))))++([32,37,32]:List UInt8))).length+y1.length)then(some ((((((s3++((c0S (([(nth (nth x0 s0.2) s1.2).Op_]:List Int))))))++([32,37,32]:List UInt8)))++y1)))else none))else none)else(some ((s3++((c0S (([(nth (nth x0 s0.2) s1.2).Op_]:List Int)))))))) fun(s5:(List UInt8))=>(Option.bind (bif(nth (nth x0 s0.2) s1.2).at_ then(bif room (s5.length+([32,33,61,32]:List UInt8).length)then(some (s5++([32,33,61,32]:List UInt8)))else none)else(bif room (s5.length+([32,61,32]:List UInt8).length)then(some (s5++([32,61,32]:List UInt8)))else none)) fun(s7:(List UInt8))=>(a0x (fun(s2:(List UInt8)×Int)=>(bif(decide (s2.2<((((nth (nth x0 s0.2) s1.2).R_).length:Int))))then(Option.bind (Option.bind (bif(decide (s2.2>0))then(bif room (s2.1.length+([44]:List UInt8).length)then(some (s2.1++([44]:List UInt8)))else none)else(some s2.1)) fun(s4:(List UInt8))=>(bif inR s2.2 ((nth (nth x0 s0.2) s1.2).R_).length then(Option.bind (a0O big ((nth ((nth (nth x0 s0.2) s1.2).R_) s2.2).g_)) λy0=>(bif room (s4.length+y0.length)then(bif inR s2.2 ((nth (nth x0 s0.2) s1.2).R_).length then(bif inR s2.2 ((nth (nth x0 s0.2) s1.2).R_).length then(bif(decide (¬((nth ((nth (nth x0 s0.2) s1.2).R_) s2.2).h_)=((nth ((nth (nth x0 s0.2) s1.2).R_) s2.2).g_)))then(bif room ((s4++y0).length+([46,46]:List UInt8).length)then(bif inR s2.2 ((nth (nth x0 s0.2) s1.2).R_).length then(Option.bind (a0O big ((nth ((nth (nth x0 s0.2) s1.2).R_) s2.2).h_)) λy2=>(bif room (((s4++y0)++([46,46]:List UInt8)).length+y2.length)then(some ((((s4++y0)++([46,46]:List UInt8))++y2)))else none))else none)else none)else(some (s4++y0)))else none)else none)else none))else none)) fun(s8:(List UInt8))=>(some (.inl (s8,(IntKind.wrap .i64 (s2.2+1))))))else(some (.inr s2.1)))) big (s7,0))))else none))else none)else none) fun(s9:(List UInt8))=>(some (.inl (s9,(IntKind.wrap .i64 (s1.2+1))))))else(some (.inr s1.1)))else none)) big (s6,0))) fun(s10:(List UInt8))=>(some (.inl (s10,(IntKind.wrap .i64 (s0.2+1))))))else(some (.inr s0.1)))) big (([]:List UInt8),0)) fun(s11:(List UInt8))=>(some s11))
theorem k0o {x0:List (List a0M)} {r:List UInt8} (h:d0v x0=some r):SQ 224 [lsv (f0c a0n 4) 1 x0] [] (.str r) []:=by
 refine kFn (fn:=Tryz.f224) (λF D W V=> ?_)
 unfold d0v at h
 refine kq (kq (kcN h (fun(s11:(List UInt8))=>([(2, .str ([]:List UInt8)),(3, .str s11)],[])) (λs11 hy0=> ?_) (λs11 h0=> ?_)))
 refine kq (kb 0 (kl (fun(s0:(List UInt8)×Int)=>([(0,lsv (f0c a0n 4) 1 x0),(2, .str ([]:List UInt8)),(3, .str s0.1),(4,iL s0.2)],[])) hy0 [0,2,3,4] (λs0 x16091 hs0=>kS (kq (kBT 11 hs0 (λh1=> ?_) (λh2=> ?_))))))
 refine kKN (kcN h1 (fun(s10:(List UInt8))=>([(0,lsv (f0c a0n 4) 1 x0),(2, .str ([]:List UInt8)),(3, .str s10),(4,iL s0.2)],[])) (λs10 hy1=> ?_) (λs10 h3=> ?_))
 refine kb 1 (kcN hy1 (fun(s6:(List UInt8))=>([(0,lsv (f0c a0n 4) 1 x0),(2, .str ([]:List UInt8)),(3, .str s6),(4,iL s0.2)],[])) (λs6 hy2=> ?_) (λs6 h4=> ?_))
 refine kq (kBT 15 hy2 (λh5=> ?_) (λh6=> ?_))
 refine km 1 ?_
 obtain⟨hm,h7⟩:=b0k h5
 exact kQ 17 (.str (s0.1++([32,111,114,32]:List UInt8))) [] (tr2:=[]) hm (ke 1 (kNo h7 [0,2,3,4]))
 exact kK (kNo h6 [0,2,3,4])
 refine kq (kb 2 (kl (fun(s1:(List UInt8)×Int)=>([(0,lsv (f0c a0n 4) 1 x0),(2, .str ([]:List UInt8)),(3, .str s1.1),(4,iL s0.2),(5,iL s1.2)],[])) h4 [0,2,3,4,5] (λs1 x18776 hs1=>kS (kn 3 (kIb 21 (i0o a0n 4) hs1 (λh8=>kr 3 (kBT 24 h8 (λh9=> ?_) (λh10=> ?_))))))))
 refine kKN (kcN h9 (fun(s9:(List UInt8))=>([(0,lsv (f0c a0n 4) 1 x0),(2, .str ([]:List UInt8)),(3, .str s9),(4,iL s0.2),(5,iL s1.2)],[])) (λs9 hy3=> ?_) (λs9 h11=> ?_))
 refine kb 3 (kn 2 (kIb 29 (i0o a0n 4) hy3 (λh12=>kc 2 (kIb 32 j0M h12 (λh13=>kr 3 (kcN h13 (fun(s3:(List UInt8))=>([(0,lsv (f0c a0n 4) 1 x0),(2, .str ([]:List UInt8)),(3, .str s3),(4,iL s0.2),(5,iL s1.2),(6, .ptr 0 0)],[.box [.int .u8 ((nth (nth x0 s0.2) s1.2).Op_),iL ((nth (nth x0 s0.2) s1.2).ar_), .bool ((nth (nth x0 s0.2) s1.2).at_),lsv b0G 2 ((nth (nth x0 s0.2) s1.2).R_)]])) (λs3 hy4=> ?_) (λs3 h14=> ?_)))))))
 refine kq (kBT 35 hy4 (λh15=> ?_) (λh16=> ?_))
 refine km 1 ?_
 obtain⟨hm,h17⟩:=b0k h15
 exact kQ 37 (.str (s1.1++([32,97,110,100,32]:List UInt8))) [] (tr2:=[]) hm (ke 1 (kNo h17 [0,2,3,4,5,6]))
 exact kK (kNo h16 [0,2,3,4,5,6])
 refine kn 4 (RJ.rel (d:=(some 42)) (ef:=⟨.str (((([(nth (nth x0 s0.2) s1.2).Op_]:List Int)).flatMap (a0s .u8)).map Go.Sy.byteOf),[1],[]⟩) (ef':=⟨.str (c0S (([(nth (nth x0 s0.2) s1.2).Op_]:List Int))),[1],[]⟩) (c:=((([(nth (nth x0 s0.2) s1.2).Op_]:List Int)).flatMap (a0s .u8)).all i0z) (tr2:=[]) (H2:=[.box [.int .u8 ((nth (nth x0 s0.2) s1.2).Op_),iL ((nth (nth x0 s0.2) s1.2).ar_), .bool ((nth (nth x0 s0.2) s1.2).at_),lsv b0G 2 ((nth (nth x0 s0.2) s1.2).R_)],a0H (a0s .u8) 1 5 (([(nth (nth x0 s0.2) s1.2).Op_]:List Int))]) (by kernel_rfl) (p0J (([(nth (nth x0 s0.2) s1.2).Op_]:List Int))) (λhc=>N.toStr) (by kernel_rfl) ?_)
 obtain⟨hm,h18⟩:=b0k h14
 refine kQ 43 (.str (s3++((c0S (([(nth (nth x0 s0.2) s1.2).Op_]:List Int)))))) [] (tr2:=[]) hm (kr 1 (kcN h18 (fun(s5:(List UInt8))=>([(0,lsv (f0c a0n 4) 1 x0),(2, .str ([]:List UInt8)),(3, .str s5),(4,iL s0.2),(5,iL s1.2),(6, .ptr 0 0)],[.box [.int .u8 ((nth (nth x0 s0.2) s1.2).Op_),iL ((nth (nth x0 s0.2) s1.2).ar_), .bool ((nth (nth x0 s0.2) s1.2).at_),lsv b0G 2 ((nth (nth x0 s0.2) s1.2).R_)]])) (λs5 hy5=> ?_) (λs5 h19=> ?_)))
 refine kq (kBT 46 hy5 (λh20=> ?_) (λh21=> ?_))
 refine km 1 ?_
 obtain⟨hm,h22⟩:=b0k h20
 refine kQ 48 (.str (((s3++((c0S (([(nth (nth x0 s0.2) s1.2).Op_]:List Int))))))++([32,37,32]:List UInt8))) [] (tr2:=[]) hm (kc 2 (kAb 51 h22 (λ_=>d0U big) (λy1 h23=> ?_)))
 obtain⟨hm,h24⟩:=b0k h23
 exact kQ 52 (.str (((((s3++((c0S (([(nth (nth x0 s0.2) s1.2).Op_]:List Int))))))++([32,37,32]:List UInt8)))++y1)) [] (tr2:=[]) hm (ke 1 (kNW h24 W V [0]))
 exact kK (kNW h21 W V [0])
 refine kcN h19 (fun(s7:(List UInt8))=>([(0,lsv (f0c a0n 4) 1 x0),(2, .str ([]:List UInt8)),(3, .str s7),(4,iL s0.2),(5,iL s1.2),(6, .ptr 0 0)],[.box [.int .u8 ((nth (nth x0 s0.2) s1.2).Op_),iL ((nth (nth x0 s0.2) s1.2).ar_), .bool ((nth (nth x0 s0.2) s1.2).at_),lsv b0G 2 ((nth (nth x0 s0.2) s1.2).R_)]])) (λs7 hy6=> ?_) (λs7 h25=> ?_)
 refine kq (kBT 54 hy6 (λh26=> ?_) (λh27=> ?_))
 refine km 1 ?_
 obtain⟨hm,h28⟩:=b0k h26
 exact kQ 56 (.str (s5++([32,33,61,32]:List UInt8))) [] (tr2:=[]) hm (ke 1 (kNo h28 [0,2,3,4,5,6]))
 refine km 1 ?_
 obtain⟨hm,h29⟩:=b0k h27
 exact kQ 58 (.str (s5++([32,61,32]:List UInt8))) [] (tr2:=[]) hm (ke 1 (kNo h29 [0,2,3,4,5,6]))
 refine kq (kb 4 (kl (fun(s2:(List UInt8)×Int)=>([(0,lsv (f0c a0n 4) 1 x0),(2, .str ([]:List UInt8)),(3, .str s2.1),(4,iL s0.2),(5,iL s1.2),(6, .ptr 0 0),(7,iL s2.2)],[.box [.int .u8 ((nth (nth x0 s0.2) s1.2).Op_),iL ((nth (nth x0 s0.2) s1.2).ar_), .bool ((nth (nth x0 s0.2) s1.2).at_),lsv b0G 2 ((nth (nth x0 s0.2) s1.2).R_)]])) h25 [0,2,3,4,5,6,7] (λs2 x19235 hs2=>kS (kq (kBT 63 hs2 (λh30=> ?_) (λh31=> ?_))))))
 refine kKN (kcN h30 (fun(s8:(List UInt8))=>([(0,lsv (f0c a0n 4) 1 x0),(2, .str ([]:List UInt8)),(3, .str s8),(4,iL s0.2),(5,iL s1.2),(6, .ptr 0 0),(7,iL s2.2)],[.box [.int .u8 ((nth (nth x0 s0.2) s1.2).Op_),iL ((nth (nth x0 s0.2) s1.2).ar_), .bool ((nth (nth x0 s0.2) s1.2).at_),lsv b0G 2 ((nth (nth x0 s0.2) s1.2).R_)]])) (λs8 hy7=> ?_) (λs8 h32=> ?_))
 refine kb 5 (kcN hy7 (fun(s4:(List UInt8))=>([(0,lsv (f0c a0n 4) 1 x0),(2, .str ([]:List UInt8)),(3, .str s4),(4,iL s0.2),(5,iL s1.2),(6, .ptr 0 0),(7,iL s2.2)],[.box [.int .u8 ((nth (nth x0 s0.2) s1.2).Op_),iL ((nth (nth x0 s0.2) s1.2).ar_), .bool ((nth (nth x0 s0.2) s1.2).at_),lsv b0G 2 ((nth (nth x0 s0.2) s1.2).R_)]])) (λs4 hy8=> ?_) (λs4 h33=> ?_))
 refine kq (kBT 67 hy8 (λh34=> ?_) (λh35=> ?_))
 refine km 1 ?_
 obtain⟨hm,h36⟩:=b0k h34
 exact kQ 69 (.str (s2.1++([44]:List UInt8))) [] (tr2:=[]) hm (ke 1 (kNo h36 [0,2,3,4,5,6,7]))
 exact kK (kNo h35 [0,2,3,4,5,6,7])
 refine kn 4 (kIb 74 d0D h33 (λh37=>kc 2 (kAb 77 h37 (λ_=>d0U big) (λy0 h38=> ?_))))
 obtain⟨hm,h39⟩:=b0k h38
 refine kQ 78 (.str (s4++y0)) [] (tr2:=[]) hm (kr 1 (kS (kDr (kD 3 ?_))))
 obtain⟨hm,h40⟩:=b0k h39
 refine kJ 82 (tr2:=[([],[]),([0,1],[]),([],[]),([],[])]) d0D hm (kD 5 ?_)
 obtain⟨hm,h41⟩:=b0k h40
 refine kJ 88 (tr2:=[([],[]),([0,1],[]),([],[]),([],[]),([],[]),([],[]),([],[]),([0,1],[]),([],[]),([],[])]) d0D hm (kD 3 (kEN (kBT 91 h41 (λh42=> ?_) (λh43=> ?_))))
 refine km 1 ?_
 obtain⟨hm,h44⟩:=b0k h42
 refine kQ 93 (.str ((s4++y0)++([46,46]:List UInt8))) [] (tr2:=[]) hm (kc 3 (kIb 97 d0D h44 (λh45=>kc 2 (kAb 100 h45 (λ_=>d0U big) (λy2 h46=> ?_)))))
 obtain⟨hm,h47⟩:=b0k h46
 exact kQ 101 (.str (((s4++y0)++([46,46]:List UInt8))++y2)) [] (tr2:=[]) hm (ke 1 (PJ.blockNormal (kNo h47 [0,2,3,4,5,6,7])))
 exact kKb (kNo h43 [0,2,3,4,5,6,7])
 exact kM (kLo h32 [0,2,3,4,5,6,7])
 exact kEp 4 (kLx h31 (λh48=>PJ.blockOut (PJ.blockNormal (kNW h48 W V []))))
 exact kM (kLo h11 [0,2,3,4,5])
 exact kEp 2 (kLx h10 (λh49=>PJ.blockOut (PJ.blockNormal (kNo h49 [0,2,3,4]))))
 exact kM (kLo h3 [0,2,3,4])
 exact kEp 0 (kLx h2 (λh50=>PJ.blockOut (kNo h50 [2,3])))
 exact kq (kX (by cases h0;exact kZ D W V))
def d0w(x0 x1:List (List a0M)):Option (Bool):=
 (bif(decide (¬(x0.length:Int)=(x1.length:Int)))then(some false)else(Option.bind (a0x (fun(s0:Int)=>(bif(decide (s0<(x0.length:Int)))then(Option.bind (bif inR s0 x0.length then(bif inR s0 x1.length then(bif(decide (¬((nth x0 s0).length:Int)=((nth x1 s0).length:Int)))then(some (.inr (.inr (.inr false))))else(a0x (fun(s1:Int)=>(bif inR s0 x0.length then(bif(decide (s1<((nth x0 s0).length:Int)))then(Option.bind (bif inR s0 x0.length then(bif inR s1 (nth x0 s0).length then(bif inR s0 x1.length then(bif inR s1 (nth x1 s0).length then(Option.bind (Option.bind (bif(decide (¬((nth (nth x0 s0) s1).Op_)=((nth (nth x1 s0) s1).Op_)))then(some true)else(bif(decide (¬((nth (nth x0 s0) s1).ar_)=((nth (nth x1 s0) s1).ar_)))then(some true)else(bif(((nth (nth x0 s0) s1).at_) !=((nth (nth x1 s0) s1).at_))then(some true)else(some ((decide (¬((((nth (nth x0 s0) s1).R_).length:Int))=((((nth (nth x1 s0) s1).R_).length:Int))))))))) fun(s3:Bool)=>(bif s3 then(some (.inr (.inr (.inr (.inr (.inr (.inr false)))))))else(some (.inl ())))) (a0m fun(s4:Unit)=>(a0x (fun(s2:Int)=>(bif(decide (s2<((((nth (nth x0 s0) s1).R_).length:Int))))then(bif inR s2 ((nth (nth x0 s0) s1).R_).length then(bif inR s2 ((nth (nth x1 s0) s1).R_).length then(bif(!((decide (((nth ((nth (nth x0 s0) s1).R_) s2).g_)=((nth ((nth (nth x1 s0) s1).R_) s2).g_)))&&((decide (((nth ((nth (nth x0 s0) s1).R_) s2).h_)=((nth ((nth (nth x1 s0) s1).R_) s2).h_)))&&true)))then(some (.inr (.inr (.inr (.inr (.inr (.inr false)))))))else(some (.inl (IntKind.wrap .i64 (s2+1)))))else none)else none)else(some (.inr (.inl ()))))) big 0)))else none)else none)else none)else none) (a0m fun(s5:Unit)=>(some (.inl (IntKind.wrap .i64 (s1+1))))))else(some (.inr (.inl ()))))else none)) big 0))else none)else none) (a0m fun(s6:Unit)=>(some (.inl (IntKind.wrap .i64 (s0+1))))))else(some (.inr (.inl ()))))) big 0) (a0m fun(s7:Unit)=>(some true))))
theorem k0p {x0 x1:List (List a0M)} {r:Bool} (h:d0w x0 x1=some r):SQ 225 [lsv (f0c a0n 4) 1 x0,lsv (f0c a0n 4) 1 x1] [] (.bool r) []:=by
 refine kFn (fn:=Tryz.f225) (λF D W V=> ?_)
 unfold d0w at h
 refine kq (kS (kq (kBT 14 h (λh3=> ?_) (λh4=> ?_))))
 exact kq (kX (PJ.passRet (by cases h3;exact kZ D W V)))
 refine kKN (kcX h4 (fun(s7:Unit)=>([(4, .bool false)],[])) (λy0 hy0 h0=> ?_) (λs7 h5=> ?_))
 refine kq (kb 0 (kl (fun(s0:Int)=>([(0,lsv (f0c a0n 4) 1 x0),(1,lsv (f0c a0n 4) 1 x1),(4, .bool false),(5,iL s0)],[])) hy0 [0,1,4,5] (λs0 x8734 hs0=>kS (kq (kBT 18 hs0 (λh6=> ?_) (λh7=> ?_))))))
 refine kKN (kcX h6 (fun(s6:Unit)=>([(0,lsv (f0c a0n 4) 1 x0),(1,lsv (f0c a0n 4) 1 x1),(4, .bool false),(5,iL s0)],[])) (λy1 hy1 h1=> ?_) (λs6 h8=> ?_))
 refine kb 1 (kS (kS (kDr (kD 2 ?_))))
 obtain⟨hm,h9⟩:=b0k hy1
 refine kJ 23 (tr2:=[([],[]),([],[]),([],[])]) (i0o a0n 4) hm (kD 4 ?_)
 obtain⟨hm,h10⟩:=b0k h9
 refine kJ 28 (tr2:=[([],[]),([],[]),([],[]),([],[]),([],[]),([],[]),([],[]),([],[])]) (i0o a0n 4) hm (kD 3 (kEN (kBT 31 h10 (λh11=> ?_) (λh12=> ?_))))
 exact kq (kX (PJ.passRet (PJ.blockRet (kCx h11 h1 (λh13=>kLx h13 (λh14=>PJ.blockRet (kCx h14 h0 (λh15=>by obtain rfl:=oi h15;exact kZ D W V))))))))
 refine kKN (kq (kb 2 (kl (fun(s1:Int)=>([(0,lsv (f0c a0n 4) 1 x0),(1,lsv (f0c a0n 4) 1 x1),(4, .bool false),(5,iL s0),(6,iL s1)],[])) h12 [0,1,4,5,6] (λs1 x10191 hs1=>kS (kn 3 (kIb 35 (i0o a0n 4) hs1 (λh16=>kr 3 (kBT 38 h16 (λh17=> ?_) (λh18=> ?_)))))))))
 refine kKN (kcX h17 (fun(s5:Unit)=>([(0,lsv (f0c a0n 4) 1 x0),(1,lsv (f0c a0n 4) 1 x1),(4, .bool false),(5,iL s0),(6,iL s1)],[])) (λy2 hy2 h2=> ?_) (λs5 h19=> ?_))
 refine kb 3 (kn 2 (kIb 43 (i0o a0n 4) hy2 (λh20=>kc 2 (kIb 46 j0M h20 (λh21=>kr 3 (kn 2 (kIb 50 (i0o a0n 4) h21 (λh22=>kc 2 (kIb 53 j0M h22 (λh23=>kr 3 (kcX h23 (fun(s4:Unit)=>([(0,lsv (f0c a0n 4) 1 x0),(1,lsv (f0c a0n 4) 1 x1),(4, .bool false),(5,iL s0),(6,iL s1),(7, .ptr 0 0),(8, .ptr 1 0)],[.box [.int .u8 ((nth (nth x0 s0) s1).Op_),iL ((nth (nth x0 s0) s1).ar_), .bool ((nth (nth x0 s0) s1).at_),lsv b0G 2 ((nth (nth x0 s0) s1).R_)], .box [.int .u8 ((nth (nth x1 s0) s1).Op_),iL ((nth (nth x1 s0) s1).ar_), .bool ((nth (nth x1 s0) s1).at_),lsv b0G 2 ((nth (nth x1 s0) s1).R_)]])) (λy3 hy3 h24=> ?_) (λs4 h25=> ?_))))))))))))
 exact kcN hy3 (fun(s3:Bool)=>([(0,lsv (f0c a0n 4) 1 x0),(1,lsv (f0c a0n 4) 1 x1),(4, .bool false),(5,iL s0),(6,iL s1),(7, .ptr 0 0),(8, .ptr 1 0),(82, .bool s3)],[.box [.int .u8 ((nth (nth x0 s0) s1).Op_),iL ((nth (nth x0 s0) s1).ar_), .bool ((nth (nth x0 s0) s1).at_),lsv b0G 2 ((nth (nth x0 s0) s1).R_)], .box [.int .u8 ((nth (nth x1 s0) s1).Op_),iL ((nth (nth x1 s0) s1).ar_), .bool ((nth (nth x1 s0) s1).at_),lsv b0G 2 ((nth (nth x1 s0) s1).R_)]])) (λs3 hy4=>km 6 (kB 60 hy4 (λh27=>ke 22 (kNo h27 [0,1,4,5,6,7,8,82])) (λh28=>kc 7 (kB 67 h28 (λh29=>ke 15 (kNo h29 [0,1,4,5,6,7,8,82])) (λh30=>kc 7 (kB 74 h30 (λh31=>ke 8 (kNo h31 [0,1,4,5,6,7,8,82])) (λh32=>ke 8 (kNo h32 [0,1,4,5,6,7,8,82])))))))) (λs3 h26=>kBT 82 h26 (λh33=>kq (kX (kCx h33 h24 (λh35=>PJ.blockRet (kCx h35 h2 (λh36=>kLx h36 (λh37=>PJ.blockRet (PJ.blockRet (kCx h37 h1 (λh38=>kLx h38 (λh39=>PJ.blockRet (kCx h39 h0 (λh40=>by obtain rfl:=oi h40;exact kZ D W V))))))))))))) (λh34=>kK (kXo h34 [0,1,4,5,6,7,8])))
 refine kq (kb 4 (kl (fun(s2:Int)=>([(0,lsv (f0c a0n 4) 1 x0),(1,lsv (f0c a0n 4) 1 x1),(4, .bool false),(5,iL s0),(6,iL s1),(7, .ptr 0 0),(8, .ptr 1 0),(9,iL s2)],[.box [.int .u8 ((nth (nth x0 s0) s1).Op_),iL ((nth (nth x0 s0) s1).ar_), .bool ((nth (nth x0 s0) s1).at_),lsv b0G 2 ((nth (nth x0 s0) s1).R_)], .box [.int .u8 ((nth (nth x1 s0) s1).Op_),iL ((nth (nth x1 s0) s1).ar_), .bool ((nth (nth x1 s0) s1).at_),lsv b0G 2 ((nth (nth x1 s0) s1).R_)]])) h25 [0,1,4,5,6,7,8,9] (λs2 x10455 hs2=>kS (kq (kBT 87 hs2 (λh41=> ?_) (λh42=> ?_))))))
 refine kKN (kS (kb 5 (kS (kDr (kD 3 ?_)))))
 obtain⟨hm,h43⟩:=b0k h41
 refine kJ 93 (tr2:=[([],[]),([0,1],[]),([],[]),([],[])]) d0D hm (kD 4 ?_)
 obtain⟨hm,h44⟩:=b0k h43
 exact kJ 98 (tr2:=[([],[]),([0,1],[]),([],[]),([],[]),([],[]),([],[]),([2,3],[]),([],[]),([],[])]) d0D hm (kD 2 (kEN (kBT 100 h44 (λh45=>kq (kXp (kLx h45 (λh47=>PJ.blockRet (PJ.blockRet (kCx h47 h2 (λh48=>kLx h48 (λh49=>PJ.blockRet (PJ.blockRet (kCx h49 h1 (λh50=>kLx h50 (λh51=>PJ.blockRet (kCx h51 h0 (λh52=>by obtain rfl:=oi h52;exact kZ D W V)))))))))))))) (λh46=>kKn (kM (kLo h46 [0,1,4,5,6,7,8,9]))))))
 exact kEp 4 (kLx h42 (λh53=>PJ.blockOut (PJ.blockNormal (kXW h53 W V []))))
 exact kM (kLo h19 [0,1,4,5,6])
 exact kEp 2 (kLx h18 (λh54=>PJ.blockOut (PJ.blockNormal (kXo h54 [0,1,4,5]))))
 exact kM (kLo h8 [0,1,4,5])
 exact kEp 0 (kLx h7 (λh55=>PJ.blockOut (kXo h55 [4])))
 exact kq (kX (by cases h5;exact kZ D W V))
def d0d(x0:List (List a0M)):Option (Bool):=
 (Option.bind (d0v x0) λy1=>(Option.bind (b0z y1) λy0=>(Option.bind (bif(decide (y0.2.2=0))then(Option.bind (d0w x0 y0.1) λy2=>(some y2))else(some false)) fun(s0:Bool)=>(some s0))))
theorem j0D {x0:List (List a0M)} {r:Bool} (h:d0d x0=some r):SQ 141 [lsv (f0c a0n 4) 1 x0] [] (.bool r) []:=by
 refine kFn (fn:=Tryz.f141) (λF D W V=> ?_)
 unfold d0d at h
 exact kq (kn 1 (kAb 8 h (λ_=>k0o) (λy1 h0=>kAb 9 h0 (λ_=>g0e) (λy0 h1=>kr 7 (kcN h1 (fun(s0:Bool)=>([(2, .bool s0)],[])) (λs0 hy0=>km 3 (kB 15 hy0 (λh3=>kc 2 (kAb 18 h3 (λ_=>k0p) (λy2 h5=>ke 2 (kNo h5 [2])))) (λh4=>ke 5 (kNo h4 [2])))) (λs0 h2=>kX (by cases h2;exact kZ D W V)))))))
def d0u(x0:List o0h):Option ((List e0O)×Int×Int):=
 (Option.bind (a0x (fun(s0:Int×(List e0O))=>(bif(decide (s0.1<(x0.length:Int)))then(Option.bind (Option.bind (Option.bind (bif inR s0.1 x0.length then(bif(decide (((nth x0 s0.1).af_)<1))then(some true)else(bif inR s0.1 x0.length then(bif(decide (((nth x0 s0.1).af_)>5))then(some true)else(bif(decide (s0.1>0))then(bif inR s0.1 x0.length then(bif inR (IntKind.wrap .i64 (s0.1-1)) x0.length then(some ((decide (((nth x0 s0.1).af_)<=((nth x0 (IntKind.wrap .i64 (s0.1-1))).af_)))))else none)else none)else(some false)))else none))else none) fun(s2:Bool)=>(bif s2 then(some (.inr (.inr (.inr (.inr (([]:List e0O),s0.1,1))))))else(some (.inl ())))) (a0m fun(s5:Unit)=>(bif inR s0.1 x0.length then(Option.bind (b0z ((nth x0 s0.1).ag_)) λy0=>(Option.bind (d0d y0.1) λy1=>(Option.bind (Option.bind (bif(decide (¬y0.2.2=0))then(some true)else(some (!y1))) fun(s3:Bool)=>(bif s3 then(some (.inr (.inr (.inr (.inr (([]:List e0O),s0.1,2))))))else(some (.inl ())))) (a0m fun(s6:Unit)=>(bif inR s0.1 x0.length then(bif room (s0.2.length+(([(⟨(nth x0 s0.1).af_,y0.1⟩:e0O)]:List e0O)).length)then(some (.inl ((s0.2++(([(⟨(nth x0 s0.1).af_,y0.1⟩:e0O)]:List e0O))))))else none)else none)))))else none))) (a0m fun(s4:(List e0O))=>(some (.inl ((IntKind.wrap .i64 (s0.1+1)),s4)))))else(some (.inr (.inl s0.2))))) big (0,([]:List e0O))) (a0m fun(s1:(List e0O))=>(some (s1,0,0))))
theorem k0n {x0:List o0h} {r:(List e0O)×Int×Int} (h:d0u x0=some r):SQ 84 [lsv c0d 2 x0] [] (.tup [lsv f0v 2 r.1,iL r.2.1,iL r.2.2]) []:=by
 refine kFn (fn:=Tryz.f84) (λF D W V=> ?_)
 unfold d0u at h
 refine kq (kq (kcX h (fun(s1:(List e0O))=>([(2, .nl),(3,iL 0),(4,iL 0),(5, .vc 0)],[a0H f0v 2 217 s1])) (λy2 hy0 h0=> ?_) (λs1 h2=> ?_)))
 refine kq (kb 0 (J.wk (Wk.viv 5 2 217 (by kernel_rfl)) (kl (fun(s0:Int×(List e0O))=>([(0,lsv c0d 2 x0),(2, .nl),(3,iL 0),(4,iL 0),(5, .vc 0),(6,iL s0.1)],[a0H f0v 2 217 s0.2])) hy0 [0,2,3,4,5,6] (λs0 x1411 hs0=>kS (kq (kBT 14 hs0 (λh3=> ?_) (λh4=> ?_)))))))
 refine kKN (kcX h3 (fun(s4:(List e0O))=>([(0,lsv c0d 2 x0),(2, .nl),(3,iL 0),(4,iL 0),(5, .vc 0),(6,iL s0.1)],[a0H f0v 2 217 s4])) (λy3 hy1 h1=> ?_) (λs4 h5=> ?_))
 refine kb 1 (kcX hy1 (fun(s5:Unit)=>([(0,lsv c0d 2 x0),(2, .nl),(3,iL 0),(4,iL 0),(5, .vc 0),(6,iL s0.1)],[a0H f0v 2 217 s0.2])) (λy4 hy2 h6=> ?_) (λs5 h7=> ?_))
 refine kcN hy2 (fun(s2:Bool)=>([(0,lsv c0d 2 x0),(2, .nl),(3,iL 0),(4,iL 0),(5, .vc 0),(6,iL s0.1),(48, .bool s2)],[a0H f0v 2 217 s0.2])) (λs2 hy3=> ?_) (λs2 h8=> ?_)
 refine kDr (kD 2 ?_)
 obtain⟨hm,h9⟩:=b0k hy3
 refine kJ 19 (tr2:=[([],[]),([],[]),([],[])]) e0K hm (kD 4 (kB 23 h9 (λh10=> ?_) (λh11=> ?_)))
 exact kD 25 (kE (kNo h10 [0,2,3,4,5,6,48]))
 refine kD 2 ?_
 obtain⟨hm,h12⟩:=b0k h11
 refine kJ 26 (tr2:=[([],[]),([],[]),([],[]),([],[]),([],[]),([],[]),([],[]),([],[]),([],[]),([],[])]) e0K hm (kD 5 (kB 31 h12 (λh13=> ?_) (λh14=> ?_)))
 exact kD 17 (kE (kNo h13 [0,2,3,4,5,6,48]))
 refine kD 3 (kB 34 h14 (λh15=> ?_) (λh16=> ?_))
 refine kD 2 ?_
 obtain⟨hm,h17⟩:=b0k h15
 refine kJ 37 (tr2:=[([],[]),([],[]),([],[]),([],[]),([],[]),([],[]),([],[]),([],[]),([],[]),([],[]),([],[]),([],[]),([],[]),([],[]),([],[]),([],[]),([],[]),([],[]),([],[]),([],[]),([],[])]) e0K hm (kD 5 ?_)
 obtain⟨hm,h18⟩:=b0k h17
 exact kJ 43 (tr2:=[([],[]),([],[]),([],[]),([],[]),([],[]),([],[]),([],[]),([],[]),([],[]),([],[]),([],[]),([],[]),([],[]),([],[]),([],[]),([],[]),([],[]),([],[]),([],[]),([],[]),([],[]),([],[]),([],[]),([],[]),([],[]),([],[]),([],[])]) e0K hm (kD 5 (kE (kNo h18 [0,2,3,4,5,6,48])))
 exact kD 14 (kE (kNo h16 [0,2,3,4,5,6,48]))
 exact kBT 48 h8 (λh19=>kq (kX (kCx h19 h6 (λh21=>PJ.blockRet (kCx h21 h1 (λh22=>kLx h22 (λh23=>PJ.blockRet (kCx h23 h0 (λh24=>by obtain rfl:=oi h24;exact PJ.res (v1:= .tup [.nl,iL s0.1,iL 1]) (Le.tup (.cons (Le.nl _) (LeL.refl _))) (kZ D W V)))))))))) (λh20=>kK (kXo h20 [0,2,3,4,5,6]))
 exact kn 2 (kIb 53 e0K h7 (λh25=>kc 2 (kAb 56 h25 (λ_=>g0e) (λy0 h26=>kr 7 (kn 1 (kAb 61 h26 (λ_=>j0D) (λy1 h27=>kr 1 (kcX h27 (fun(s6:Unit)=>([(0,lsv c0d 2 x0),(2, .nl),(3,iL 0),(4,iL 0),(5, .vc 0),(6,iL s0.1),(7,lsv (f0c a0n 4) 1 y0.1)],[a0H f0v 2 217 s0.2])) (λy5 hy4 h28=>kcN hy4 (fun(s3:Bool)=>([(0,lsv c0d 2 x0),(2, .nl),(3,iL 0),(4,iL 0),(5, .vc 0),(6,iL s0.1),(7,lsv (f0c a0n 4) 1 y0.1),(67, .bool s3)],[a0H f0v 2 217 s0.2])) (λs3 hy5=>km 3 (kB 64 hy5 (λh31=>ke 3 (kNo h31 [0,2,3,4,5,6,7,67])) (λh32=>ke 3 (kNo h32 [0,2,3,4,5,6,7,67])))) (λs3 h30=>kBT 67 h30 (λh33=>kq (kX (kCx h33 h28 (λh35=>PJ.blockRet (kCx h35 h1 (λh36=>kLx h36 (λh37=>PJ.blockRet (kCx h37 h0 (λh38=>by obtain rfl:=oi h38;exact PJ.res (v1:= .tup [.nl,iL s0.1,iL 2]) (Le.tup (.cons (Le.nl _) (LeL.refl _))) (kZ D W V)))))))))) (λh34=>kK (kXo h34 [0,2,3,4,5,6,7])))) (λs6 h29=>km 3 (kIb 72 e0K h29 (λh39=>kc 5 (kAp 78 0 2 2 217 [0,1] f0v h39 (λh40=>ke 1 (PJ.blockNormal (kXW h40 W V [2])))))))))))))))
 exact kM (kLo h5 [0,2,3,4,5,6])
 exact kEp 0 (kLx h4 (λh41=>PJ.blockOut (kXo h41 [2,3,4,5])))
 exact kq (kX (by obtain rfl:=oi h2;exact PJ.wk (Wk.freeze 0 (n:=s1.length) (k:=2) (e:=217) (cs:=s1.flatMap f0v) (by kernel_rfl)) (kZ D W V)))
def c0Z(x0:c0T)(x1:a0j)(x2:List Int):Option (Bool):=
 (Option.bind (c0I x0 x2) λy0=>(Option.bind (b0W x0 x1 x2) λy1=>(Option.bind (c0h x0 x1 x2) λy2=>(Option.bind (bif(decide ((x2.length:Int)≥1))then(bif(decide ((x2.length:Int)<=20))then(bif y0 then(bif y1 then(some y2)else(some false))else(some false))else(some false))else(some false)) fun(s0:Bool)=>(some s0)))))
theorem j0z {x0:c0T} {x1:a0j} {x2:List Int} {r:Bool} (h:c0Z x0 x1 x2=some r):SQ 143 [.agg (a0d x0), .agg (a0b x1),lR x2] [] (.bool r) []:=by
 refine kFn (fn:=Tryz.f143) (λF D W V=> ?_)
 unfold c0Z at h
 exact kq (kn 2 (kAb 12 h (λ_=>g0u) (λy0 h0=>kr 1 (kn 3 (kAb 16 h0 (λ_=>e0e) (λy1 h1=>kr 1 (kn 3 (kAb 20 h1 (λ_=>f0J) (λy2 h2=>kr 1 (kcN h2 (fun(s0:Bool)=>([(6, .bool s0)],[])) (λs0 hy0=>km 4 (kB 24 hy0 (λh4=>kc 5 (kB 29 h4 (λh6=>kc 3 (kB 32 h6 (λh8=>kc 3 (kB 35 h8 (λh10=>ke 3 (kNW h10 W V [])) (λh11=>ke 3 (kNW h11 W V [])))) (λh9=>ke 6 (kNW h9 W V [])))) (λh7=>ke 9 (kNW h7 W V [])))) (λh5=>ke 14 (kNW h5 W V [])))) (λs0 h3=>kX (by cases h3;exact kZ D W V))))))))))))
def d0r(x0 x1:List UInt8):Option (Bool):=
 (Option.bind (Option.bind (bif(decide (¬(x0.length:Int)=3))then(some true)else(some (Op.bytesLess x0 x1||x0==x1))) fun(s0:Bool)=>(bif s0 then(some (.inr false))else(some (.inl ())))) (a0m fun(s2:Unit)=>(Option.bind (bif inR 0 x0.length then(bif(decide (((((x0.getD (0:Int).toNat 0).toNat:Nat):Int))≥65))then(bif inR 0 x0.length then(bif(decide (((((x0.getD (0:Int).toNat 0).toNat:Nat):Int))<=90))then(bif inR 1 x0.length then(bif(decide (((((x0.getD (1:Int).toNat 0).toNat:Nat):Int))≥65))then(bif inR 1 x0.length then(bif(decide (((((x0.getD (1:Int).toNat 0).toNat:Nat):Int))<=90))then(bif inR 2 x0.length then(bif(decide (((((x0.getD (2:Int).toNat 0).toNat:Nat):Int))≥65))then(bif inR 2 x0.length then(some ((decide (((((x0.getD (2:Int).toNat 0).toNat:Nat):Int))<=90))))else none)else(some false))else none)else(some false))else none)else(some false))else none)else(some false))else none)else(some false))else none) fun(s1:Bool)=>(some s1))))
theorem k0k {x0 x1:List UInt8} {r:Bool} (h:d0r x0 x1=some r):SQ 144 [.str x0, .str x1] [] (.bool r) []:=by
 refine kFn (fn:=Tryz.f144) (λF D W V=> ?_)
 unfold d0r at h
 exact kq (kcX h (fun(s2:Unit)=>([(0, .str x0),(4, .bool false)],[])) (λy0 hy0 h0=>kcN hy0 (fun(s0:Bool)=>([(0, .str x0),(4, .bool false),(12, .bool s0)],[])) (λs0 hy1=>km 4 (kB 8 hy1 (λh3=>ke 4 (kNo h3 [0,4,12])) (λh4=>ke 4 (kNo h4 [0,4,12])))) (λs0 h2=>kBT 12 h2 (λh5=>kq (kX (kCx h5 h0 (λh7=>by obtain rfl:=oi h7;exact kZ D W V)))) (λh6=>kK (kXo h6 [0,4])))) (λs2 h1=>kcN h1 (fun(s1:Bool)=>([(4, .bool s1)],[])) (λs1 hy2=>km 1 (kGb 14 hy2 (λh9=>kc 2 (kB 16 h9 (λh10=>kc 1 (kGb 18 h10 (λh12=>kc 3 (kB 21 h12 (λh13=>kc 1 (kGb 23 h13 (λh15=>kc 3 (kB 26 h15 (λh16=>kc 1 (kGb 28 h16 (λh18=>kc 3 (kB 31 h18 (λh19=>kc 1 (kGb 33 h19 (λh21=>kc 3 (kB 36 h21 (λh22=>kc 1 (kGb 38 h22 (λh24=>ke 3 (kNo h24 [4])))) (λh23=>ke 5 (kNo h23 [4])))))) (λh20=>ke 10 (kNo h20 [4])))))) (λh17=>ke 15 (kNo h17 [4])))))) (λh14=>ke 20 (kNo h14 [4])))))) (λh11=>ke 25 (kNo h11 [4])))))) (λs1 h8=>kX (by cases h8;exact kZ D W V))))
def c0V(x0:g0l)(x1:a0j):Option (Int):=
 (Option.bind (a0x (fun(s0:(List UInt8)×Int)=>(bif(decide (s0.2<(x0.i_.length:Int)))then(Option.bind (bif inR s0.2 x0.i_.length then(Option.bind (b0q ((i0C ((nth x0.i_ s0.2).l_)))) λy0=>(Option.bind (c0Z x0.S_ x1 y0.1) λy1=>(Option.bind (d0r ((nth x0.i_ s0.2).V_) s0.1) λy2=>(Option.bind (Option.bind (bif(decide (s0.2≥100))then(some true)else(bif(!y2)then(some true)else(bif(decide (((nth x0.i_ s0.2).aq_)<0))then(some true)else(bif(decide (((nth x0.i_ s0.2).aq_)>4))then(some true)else(bif(decide (¬y0.2.2=0))then(some true)else(some (!y1))))))) fun(s1:Bool)=>(bif s1 then(some (.inr (.inr (.inr (.inr s0.2)))))else(some (.inl ())))) (a0m fun(s2:Unit)=>(some (.inl ())))))))else none) (a0m fun(s3:Unit)=>(some (.inl ((nth x0.i_ s0.2).V_,(IntKind.wrap .i64 (s0.2+1)))))))else(some (.inr (.inl ()))))) big (([]:List UInt8),0)) (a0m fun(s4:Unit)=>(some (-1))))
theorem j0x {x0:g0l} {x1:a0j} {r:Int} (h:c0V x0 x1=some r):SQ 85 [.agg (a0y x0), .agg (a0b x1)] [] (iL r) []:=by
 refine kFn (fn:=Tryz.f85) (λF D W V=> ?_)
 unfold c0V at h
 exact kq (kq (kcX h (fun(s4:Unit)=>([(4,iL 0)],[])) (λy3 hy0 h0=>kq (kb 0 (kl (fun(s0:(List UInt8)×Int)=>([(2, .ptr 0 0),(3, .ptr 1 0),(4,iL 0),(5, .str s0.1),(6,iL s0.2)],[.box (a0y x0), .box (a0b x1)])) hy0 [2,3,4,5,6] (λs0 x1071 hs0=>kS (kq (kBT 17 hs0 (λh2=>kKN (kcX h2 (fun(s3:Unit)=>([(2, .ptr 0 0),(3, .ptr 1 0),(4,iL 0),(5, .str ((nth x0.i_ s0.2).V_)),(6,iL s0.2)],[.box (a0y x0), .box (a0b x1)])) (λy4 hy1 h4=>kb 1 (kn 3 (kIb 23 i0n hy1 (λh6=>kr 3 (kn 2 (RJ.rel (d:=(some 28)) (ef:=⟨.lst ((nth x0.i_ s0.2).l_).length 1 (((nth x0.i_ s0.2).l_).map l0H),[],[]⟩) (ef':=⟨lB (i0C ((nth x0.i_ s0.2).l_)),[],[]⟩) (c:=true) (tr2:=[]) (H2:=[.box (a0y x0), .box (a0b x1), .box [.str ((nth x0.i_ s0.2).V_), .str ((nth x0.i_ s0.2).l_),iL ((nth x0.i_ s0.2).aq_)]]) (by kernel_rfl) rfl (λhc=>N.toBytes) (by kernel_rfl) (kAb 29 h6 (λ_=>f0L) (λy0 h7=>kr 7 (kn 4 (kAb 37 h7 (λ_=>j0z) (λy1 h8=>kr 1 (kn 3 (kAb 41 h8 (λ_=>k0k) (λy2 h9=>kr 1 (kcX h9 (fun(s2:Unit)=>([(2, .ptr 0 0),(3, .ptr 1 0),(4,iL 0),(5, .str s0.1),(6,iL s0.2),(7, .ptr 2 0)],[.box (a0y x0), .box (a0b x1), .box [.str ((nth x0.i_ s0.2).V_), .str ((nth x0.i_ s0.2).l_),iL ((nth x0.i_ s0.2).aq_)]])) (λy5 hy2 h10=>kcN hy2 (fun(s1:Bool)=>([(2, .ptr 0 0),(3, .ptr 1 0),(4,iL 0),(5, .str s0.1),(6,iL s0.2),(7, .ptr 2 0),(65, .bool s1)],[.box (a0y x0), .box (a0b x1), .box [.str ((nth x0.i_ s0.2).V_), .str ((nth x0.i_ s0.2).l_),iL ((nth x0.i_ s0.2).aq_)]])) (λs1 hy3=>km 3 (kB 44 hy3 (λh13=>ke 21 (kNo h13 [2,3,4,5,6,7,65])) (λh14=>kc 4 (kB 48 h14 (λh15=>ke 17 (kNo h15 [2,3,4,5,6,7,65])) (λh16=>kc 5 (kB 53 h16 (λh17=>ke 12 (kNo h17 [2,3,4,5,6,7,65])) (λh18=>kc 5 (kB 58 h18 (λh19=>ke 7 (kNo h19 [2,3,4,5,6,7,65])) (λh20=>kc 4 (kB 62 h20 (λh21=>ke 3 (kNo h21 [2,3,4,5,6,7,65])) (λh22=>ke 3 (kNo h22 [2,3,4,5,6,7,65])))))))))))) (λs1 h12=>kBT 65 h12 (λh23=>kq (kX (kCx h23 h10 (λh25=>PJ.blockRet (kCx h25 h4 (λh26=>kLx h26 (λh27=>PJ.blockRet (kCx h27 h0 (λh28=>by obtain rfl:=oi h28;exact kZ D W V))))))))) (λh24=>kK (kXo h24 [2,3,4,5,6,7])))) (λs2 h11=>kM (PJ.blockNormal (kXW h11 W V [0,1])))))))))))))))))) (λs3 h5=>kM (kLo h5 [2,3,4,5,6])))) (λh3=>kEp 0 (kLx h3 (λh29=>PJ.blockOut (kXW h29 W V [])))))))))) (λs4 h1=>kq (kX (by cases h1;exact kZ D W V)))))
def b0y(x0:c0T)(x1:l0b):Option (a0j×Bool):=
 (Option.bind (a0B x1.Z_) λy0=>(Option.bind (b0B y0.1) λy3=>(Option.bind (Option.bind (bif(decide (¬y0.2.2=0))then(some true)else(bif(!y3)then(some true)else(bif(decide (x1.ah_<2))then(some true)else(bif(decide (x1.ah_>30))then(some true)else(bif(decide (x1.af_<0))then(some true)else(bif(decide (x1.af_>5))then(some true)else(bif(decide (y0.1.z_<1))then(some true)else(some (decide (y0.1.z_≥x1.ah_)))))))))) fun(s0:Bool)=>(bif s0 then(some (.inr ((⟨([]:List a0c),([]:List a0c),([]:List a0c),([]:List a0c),false,0,0,0,0,0,0,0,0,0,false,0,0⟩:a0j),false)))else(some (.inl ())))) (a0m fun(s3:Unit)=>(Option.bind (Option.bind (bif(decide (y0.1.I_>0))then(some true)else(bif(decide (y0.1.p_>0))then(some true)else(bif(decide (y0.1.o_>0))then(some true)else(bif(decide (y0.1.s_>0))then(some true)else(bif(decide (y0.1.b_>0))then(some true)else(bif(decide (y0.1.P_>0))then(some true)else(bif y0.1.O_ then(some true)else(some ((decide (((IntKind.wrap .i64 ((y0.1.c_.length:Int)+(y0.1.e_.length:Int))))=0))))))))))) fun(s1:Bool)=>(bif s1 then(some (.inr ((⟨([]:List a0c),([]:List a0c),([]:List a0c),([]:List a0c),false,0,0,0,0,0,0,0,0,0,false,0,0⟩:a0j),false)))else(some (.inl ())))) (a0m fun(s4:Unit)=>(bif room y0.1.c_.length then(bif room (y0.1.c_.length+y0.1.e_.length)then(Option.bind (b0U 0 (y0.1.c_++y0.1.e_) 0) λy1=>(Option.bind (b0W x0 y0.1 ([]:List Int)) λy2=>(Option.bind (Option.bind (bif(!y1)then(some true)else(some (!y2))) fun(s2:Bool)=>(bif s2 then(some (.inr ((⟨([]:List a0c),([]:List a0c),([]:List a0c),([]:List a0c),false,0,0,0,0,0,0,0,0,0,false,0,0⟩:a0j),false)))else(some (.inl ())))) (a0m fun(s5:Unit)=>(some (y0.1,true))))))else none)else none)))))))
theorem c0X {x0:c0T} {x1:l0b} {r:a0j×Bool} (h:b0y x0 x1=some r):SQ 145 [.agg (a0d x0), .agg (b0L x1)] [] (.tup [.agg (a0b r.1), .bool r.2]) []:=by
 refine kFn (fn:=Tryz.f145) (λF D W V=> ?_)
 unfold b0y at h
 refine kq (kn 2 (kAb 15 h (λ_=>e0g) (λy0 h0=>kr 8 (kn 1 (kAb 20 h0 (λ_=>g0f) (λy3 h1=>kr 1 (kcX h1 (fun(s3:Unit)=>([(2, .ptr 0 0),(4, .ptr 1 0),(5, .bool false),(6, .ptr 2 0)],[.box (a0d x0), .box [.nl, .nl, .nl, .nl, .bool false,iL 0,iL 0,iL 0,iL 0,iL 0,iL 0,iL 0,iL 0,iL 0, .bool false,iM 0,iL 0], .box (a0b y0.1)])) (λy4 hy0 h2=> ?_) (λs3 h3=> ?_))))))))
 exact kcN hy0 (fun(s0:Bool)=>([(2, .ptr 0 0),(4, .ptr 1 0),(5, .bool false),(6, .ptr 2 0),(58, .bool s0)],[.box (a0d x0), .box [.nl, .nl, .nl, .nl, .bool false,iL 0,iL 0,iL 0,iL 0,iL 0,iL 0,iL 0,iL 0,iL 0, .bool false,iM 0,iL 0], .box (a0b y0.1)])) (λs0 hy1=>km 3 (kB 23 hy1 (λh5=>ke 35 (kNW h5 W V [0,2,3])) (λh6=>kc 4 (kB 27 h6 (λh7=>ke 31 (kNW h7 W V [0,2,3])) (λh8=>kc 5 (kB 32 h8 (λh9=>ke 26 (kNW h9 W V [0,2,3])) (λh10=>kc 5 (kB 37 h10 (λh11=>ke 21 (kNW h11 W V [0,2,3])) (λh12=>kc 5 (kB 42 h12 (λh13=>ke 16 (kNW h13 W V [0,2,3])) (λh14=>kc 5 (kB 47 h14 (λh15=>ke 11 (kNW h15 W V [0,2,3])) (λh16=>kc 5 (kB 52 h16 (λh17=>ke 6 (kNW h17 W V [0,2,3])) (λh18=>ke 6 (kNW h18 W V [0,2,3])))))))))))))))) (λs0 h4=>kBT 58 h4 (λh19=>kq (kX (kCx h19 h2 (λh21=>by obtain rfl:=oi h21;exact PJ.res (v1:= .tup [zQ, .bool false]) (Le.tup (.cons (Le.agg (.cons (Le.nl _) (.cons (Le.nl _) (.cons (Le.nl _) (.cons (Le.nl _) (LeL.refl _)))))) (LeL.refl _))) (kZ D W V))))) (λh20=>kK (kXo h20 [2,4,5,6])))
 refine kcX h3 (fun(s4:Unit)=>([(2, .ptr 0 0),(4, .ptr 1 0),(5, .bool false),(6, .ptr 2 0)],[.box (a0d x0), .box [.nl, .nl, .nl, .nl, .bool false,iL 0,iL 0,iL 0,iL 0,iL 0,iL 0,iL 0,iL 0,iL 0, .bool false,iM 0,iL 0], .box (a0b y0.1)])) (λy5 hy2 h22=> ?_) (λs4 h23=> ?_)
 exact kcN hy2 (fun(s1:Bool)=>([(2, .ptr 0 0),(4, .ptr 1 0),(5, .bool false),(6, .ptr 2 0),(101, .bool s1)],[.box (a0d x0), .box [.nl, .nl, .nl, .nl, .bool false,iL 0,iL 0,iL 0,iL 0,iL 0,iL 0,iL 0,iL 0,iL 0, .bool false,iM 0,iL 0], .box (a0b y0.1)])) (λs1 hy3=>km 4 (kB 63 hy3 (λh25=>ke 38 (kNo h25 [2,4,5,6,101])) (λh26=>kc 5 (kB 68 h26 (λh27=>ke 33 (kNo h27 [2,4,5,6,101])) (λh28=>kc 5 (kB 73 h28 (λh29=>ke 28 (kNo h29 [2,4,5,6,101])) (λh30=>kc 5 (kB 78 h30 (λh31=>ke 23 (kNo h31 [2,4,5,6,101])) (λh32=>kc 5 (kB 83 h32 (λh33=>ke 18 (kNo h33 [2,4,5,6,101])) (λh34=>kc 5 (kB 88 h34 (λh35=>ke 13 (kNo h35 [2,4,5,6,101])) (λh36=>kc 4 (kB 92 h36 (λh37=>ke 9 (kNo h37 [2,4,5,6,101])) (λh38=>ke 9 (kNo h38 [2,4,5,6,101])))))))))))))))) (λs1 h24=>kBT 101 h24 (λh39=>kq (kX (kCx h39 h22 (λh41=>by obtain rfl:=oi h41;exact PJ.res (v1:= .tup [zQ, .bool false]) (Le.tup (.cons (Le.agg (.cons (Le.nl _) (.cons (Le.nl _) (.cons (Le.nl _) (.cons (Le.nl _) (LeL.refl _)))))) (LeL.refl _))) (kZ D W V))))) (λh40=>kK (kXo h40 [2,4,5,6])))
 refine kS (kDr (kD 3 ?_))
 obtain⟨hm,h42⟩:=b0k h23
 refine RJ.rel (d:=(some 106)) (ef':=⟨.vc 4,[],[(4, .vec y0.1.c_.length 2 225 (y0.1.c_.flatMap a0a))]⟩) (tr2:=[([],[6,7]),([],[]),([4,5],[]),([],[8,9,8,9])]) (H2:=[.box (a0d x0), .box [.nl, .nl, .nl, .nl, .bool false,iL 0,iL 0,iL 0,iL 0,iL 0,iL 0,iL 0,iL 0,iL 0, .bool false,iM 0,iL 0], .box (a0b y0.1), .res,a0H a0a 2 225 y0.1.c_, .res, .res]) (by kernel_rfl) hm (λhc=>rfl) (by kernel_rfl) (kD 2 ?_)
 obtain⟨hm,h43⟩:=b0k h42
 refine RJ.rel (d:=(some 109)) (ef:=⟨.vc 5,[4],[(4, .gone),(5, .vec (y0.1.c_.length+y0.1.e_.length) 2 225 (y0.1.c_.flatMap a0a++y0.1.e_.flatMap a0a))]⟩) (ef':=⟨.vc 5,[4],[(4, .gone),(5,a0H a0a 2 225 (y0.1.c_++y0.1.e_))]⟩) (c:=room (y0.1.c_.length+y0.1.e_.length)) (tr2:=[([],[6,7]),([],[]),([4,5],[]),([],[8,9,8,9]),([],[]),([4,5],[]),([8,9],[8,9,10,11,10,11])]) (H2:=[.box (a0d x0), .box [.nl, .nl, .nl, .nl, .bool false,iL 0,iL 0,iL 0,iL 0,iL 0,iL 0,iL 0,iL 0,iL 0, .bool false,iM 0,iL 0], .box (a0b y0.1), .res, .gone,a0H a0a 2 225 (y0.1.c_++y0.1.e_), .res]) (by kernel_rfl) hm (λhc=>N.app) (by kernel_rfl) ?_
 obtain⟨y1,hy4,h44⟩:=a0l h43
 refine RJ.callL (d:=(some 110)) (f:=137) (args:=[iL 0, .vc 5,iL 0]) (args0:=[iL 0, .vc 0,iL 0]) (args1:=[iL 0,lsv a0a 2 (y0.1.c_++y0.1.e_),iL 0]) (H0:=[a0H a0a 2 225 (y0.1.c_++y0.1.e_)]) (v:= .bool y1) (tr2:=[([],[6,7]),([],[]),([4,5],[]),([],[8,9,8,9]),([],[]),([4,5],[]),([8,9],[8,9,10,11,10,11]),([10,11],[12,13])]) [5] (by kernel_rfl) (by kernel_rfl) (by kernel_rfl) (by kernel_rfl) (by decide) (by kernel_rfl) (by kernel_rfl) (by kernel_rfl) (by kernel_rfl) (LeL.refl _) (e0d hy4) (by kernel_rfl) (by kernel_rfl) (kD 1 (kEN (kn 2 ?_)))
 obtain⟨y2,hy5,h45⟩:=a0l h44
 exact RJ.call0 (d:=(some 113)) (f:=138) (args:=[.agg (a0d x0), .agg (a0b y0.1), .nl]) (v:= .bool y2) (tr2:=[]) (by kernel_rfl) (by kernel_rfl) (.cons (Le.refl _) (.cons (Le.refl _) (.cons (Le.nl _) .nil))) (e0e hy5) (by kernel_rfl) (kr 1 (kcX h45 (fun(s5:Unit)=>([(4, .ptr 0 0),(5, .bool false),(6, .ptr 1 0)],[.box [.nl, .nl, .nl, .nl, .bool false,iL 0,iL 0,iL 0,iL 0,iL 0,iL 0,iL 0,iL 0,iL 0, .bool false,iM 0,iL 0], .box (a0b y0.1)])) (λy6 hy6 h46=>kcN hy6 (fun(s2:Bool)=>([(4, .ptr 0 0),(5, .bool false),(6, .ptr 1 0),(119, .bool s2)],[.box [.nl, .nl, .nl, .nl, .bool false,iL 0,iL 0,iL 0,iL 0,iL 0,iL 0,iL 0,iL 0,iL 0, .bool false,iM 0,iL 0], .box (a0b y0.1)])) (λs2 hy7=>km 3 (kB 116 hy7 (λh49=>ke 3 (kNW h49 W V [1,2])) (λh50=>ke 3 (kNW h50 W V [1,2])))) (λs2 h48=>kBT 119 h48 (λh51=>kq (kX (kCx h51 h46 (λh53=>by obtain rfl:=oi h53;exact PJ.res (v1:= .tup [zQ, .bool false]) (Le.tup (.cons (Le.agg (.cons (Le.nl _) (.cons (Le.nl _) (.cons (Le.nl _) (.cons (Le.nl _) (LeL.refl _)))))) (LeL.refl _))) (kZ D W V))))) (λh52=>kK (kXo h52 [4,5,6])))) (λs5 h47=>kq (kX (by cases h47;exact kZ D W V)))))
def d0a(x0:List l0b)(x1:Int):Option (Int):=
 (Option.bind (a0x (fun(s0:Int)=>(bif(decide (s0<(x0.length:Int)))then(bif inR s0 x0.length then(bif(decide (((nth x0 s0).ah_)=x1))then(some (.inr (.inr s0)))else(some (.inl (IntKind.wrap .i64 (s0+1)))))else none)else(some (.inr (.inl ()))))) big 0) (a0m fun(s1:Unit)=>(some (-1))))
theorem j0A {x0:List l0b} {x1 r:Int} (h:d0a x0 x1=some r):SQ 146 [lsv b0L 3 x0,iL x1] [] (iL r) []:=by
 refine kFn (fn:=Tryz.f146) (λF D W V=> ?_)
 unfold d0a at h
 exact kq (kcX h (fun(s1:Unit)=>([(4,iL 0)],[])) (λy0 hy0 h0=>kq (kb 0 (kl (fun(s0:Int)=>([(0,lsv b0L 3 x0),(1,iL x1),(4,iL 0),(5,iL s0)],[])) hy0 [0,1,4,5] (λs0 x71 hs0=>kS (kq (kBT 9 hs0 (λh2=>kKN (kS (kb 1 (kn 2 (kIb 14 c0o h2 (λh4=>kr 4 (kBT 18 h4 (λh5=>kq (kXp (kLx h5 (λh7=>PJ.blockRet (kCx h7 h0 (λh8=>by obtain rfl:=oi h8;exact kZ D W V)))))) (λh6=>kKn (kM (kLo h6 [0,1,4,5])))))))))) (λh3=>kEp 0 (kLx h3 (λh9=>PJ.blockOut (kXo h9 [4])))))))))) (λs1 h1=>kq (kX (by cases h1;exact kZ D W V))))
def a0S(x0:l0b)(x1:a0j):Option (Int):=
 (some (IntKind.wrap .i64 (x0.ah_-x1.z_)))
theorem c0Y {x0:l0b} {x1:a0j} {r:Int} (h:a0S x0 x1=some r):SQ 147 [.agg (b0L x0), .agg (a0b x1)] [] (iL r) []:=by
 refine kFn (fn:=Tryz.f147) (λF D W V=> ?_)
 unfold a0S at h
 exact kq (kq (kX (by cases h;exact kZ D W V)))
def c0C(x0:g0l):Option (Int):=
 (Option.bind (a0x (fun(s0:Int)=>(bif(decide (s0<(x0.f_.length:Int)))then(Option.bind (bif inR s0 x0.f_.length then(Option.bind (b0y x0.S_ (nth x0.f_ s0)) λy1=>(Option.bind (Option.bind (bif(decide (s0≥90))then(some true)else(some (!y1.2))) fun(s1:Bool)=>(bif s1 then(some (.inr (.inr (.inr (.inr s0)))))else(some (.inl ())))) (a0m fun(s4:Unit)=>(Option.bind (Option.bind (bif(decide (s0>0))then(bif inR (IntKind.wrap .i64 (s0-1)) x0.f_.length then(bif(decide (((nth x0.f_ s0).ah_)<((nth x0.f_ (IntKind.wrap .i64 (s0-1))).ah_)))then(some true)else(bif inR (IntKind.wrap .i64 (s0-1)) x0.f_.length then(bif(decide (((nth x0.f_ s0).ah_)=((nth x0.f_ (IntKind.wrap .i64 (s0-1))).ah_)))then(bif inR (IntKind.wrap .i64 (s0-1)) x0.f_.length then(some ((decide (((nth x0.f_ s0).af_)<=((nth x0.f_ (IntKind.wrap .i64 (s0-1))).af_)))))else none)else(some false))else none))else none)else(some false)) fun(s2:Bool)=>(bif s2 then(some (.inr (.inr (.inr (.inr s0)))))else(some (.inl ())))) (a0m fun(s5:Unit)=>(Option.bind (d0a x0.f_ ((nth x0.f_ s0).ah_)) λy0=>(Option.bind (Option.bind (bif(decide (y0=s0))then(some ((decide (¬((nth x0.f_ s0).af_)=0))))else(some false)) fun(s3:Bool)=>(bif s3 then(some (.inr (.inr (.inr (.inr s0)))))else(some (.inl ())))) (a0m fun(s6:Unit)=>(bif inR y0 x0.f_.length then(Option.bind (b0y x0.S_ (nth x0.f_ y0)) λy2=>(Option.bind (a0S (nth x0.f_ s0) y1.1) λy3=>(bif inR y0 x0.f_.length then(Option.bind (a0S (nth x0.f_ y0) y2.1) λy4=>(bif(decide (¬y3=y4))then(some (.inr (.inr (.inr s0))))else(some (.inl ()))))else none)))else none)))))))))else none) (a0m fun(s7:Unit)=>(some (.inl (IntKind.wrap .i64 (s0+1))))))else(some (.inr (.inl ()))))) big 0) (a0m fun(s8:Unit)=>(some (-1))))
theorem i0l {x0:g0l} {r:Int} (h:c0C x0=some r):SQ 86 [.agg (a0y x0)] [] (iL r) []:=by
 refine kFn (fn:=Tryz.f86) (λF D W V=> ?_)
 unfold c0C at h
 refine kq (kcX h (fun(s8:Unit)=>([(2,iL 0)],[])) (λy5 hy0 h0=> ?_) (λs8 h2=> ?_))
 refine kq (kb 0 (kl (fun(s0:Int)=>([(1, .ptr 0 0),(2,iL 0),(3,iL s0)],[.box (a0y x0)])) hy0 [1,2,3] (λs0 x1961 hs0=>kS (kq (kBT 14 hs0 (λh3=> ?_) (λh4=> ?_))))))
 refine kKN (kcX h3 (fun(s7:Unit)=>([(1, .ptr 0 0),(2,iL 0),(3,iL s0)],[.box (a0y x0)])) (λy6 hy1 h1=> ?_) (λs7 h5=> ?_))
 refine kb 1 (kn 3 (kIb 20 c0o hy1 (λh6=>kr 3 (kn 3 (kAb 26 h6 (λ_=>c0X) (λy1 h7=>kr 6 (kcX h7 (fun(s4:Unit)=>([(1, .ptr 0 0),(2,iL 0),(3,iL s0),(4, .ptr 1 0),(5, .ptr 2 0)],[.box (a0y x0), .box [iL ((nth x0.f_ s0).ah_),iL ((nth x0.f_ s0).af_), .str ((nth x0.f_ s0).Z_)], .box (a0b y1.1)])) (λy7 hy2 h8=> ?_) (λs4 h9=> ?_))))))))
 exact kcN hy2 (fun(s1:Bool)=>([(1, .ptr 0 0),(2,iL 0),(3,iL s0),(4, .ptr 1 0),(5, .ptr 2 0),(34, .bool s1)],[.box (a0y x0), .box [iL ((nth x0.f_ s0).ah_),iL ((nth x0.f_ s0).af_), .str ((nth x0.f_ s0).Z_)], .box (a0b y1.1)])) (λs1 hy3=>km 3 (kB 31 hy3 (λh11=>ke 3 (kNo h11 [1,2,3,4,5,34])) (λh12=>ke 3 (kNo h12 [1,2,3,4,5,34])))) (λs1 h10=>kBT 34 h10 (λh13=>kq (kX (kCx h13 h8 (λh15=>PJ.blockRet (kCx h15 h1 (λh16=>kLx h16 (λh17=>PJ.blockRet (kCx h17 h0 (λh18=>by obtain rfl:=oi h18;exact kZ D W V))))))))) (λh14=>kK (kXo h14 [1,2,3,4,5])))
 refine kcX h9 (fun(s5:Unit)=>([(1, .ptr 0 0),(2,iL 0),(3,iL s0),(4, .ptr 1 0),(5, .ptr 2 0)],[.box (a0y x0), .box [iL ((nth x0.f_ s0).ah_),iL ((nth x0.f_ s0).af_), .str ((nth x0.f_ s0).Z_)], .box (a0b y1.1)])) (λy8 hy4 h19=> ?_) (λs5 h20=> ?_)
 refine kcN hy4 (fun(s2:Bool)=>([(1, .ptr 0 0),(2,iL 0),(3,iL s0),(4, .ptr 1 0),(5, .ptr 2 0),(73, .bool s2)],[.box (a0y x0), .box [iL ((nth x0.f_ s0).ah_),iL ((nth x0.f_ s0).af_), .str ((nth x0.f_ s0).Z_)], .box (a0b y1.1)])) (λs2 hy5=> ?_) (λs2 h21=> ?_)
 refine kDr (kD 3 (kB 38 hy5 (λh22=> ?_) (λh23=> ?_)))
 refine kD 6 ?_
 obtain⟨hm,h24⟩:=b0k h22
 refine kJ 45 (tr2:=[([],[]),([],[]),([],[]),([],[]),([2,3],[]),([],[]),([0,1],[]),([],[]),([],[]),([],[])]) c0o hm (kD 4 (kB 49 h24 (λh25=> ?_) (λh26=> ?_)))
 exact kD 24 (kE (kNo h25 [1,2,3,4,5,73]))
 refine kD 6 ?_
 obtain⟨hm,h27⟩:=b0k h26
 refine kJ 56 (tr2:=[([],[]),([],[]),([],[]),([],[]),([2,3],[]),([],[]),([0,1],[]),([],[]),([],[]),([],[]),([],[]),([],[]),([],[]),([],[]),([],[]),([2,3],[]),([],[]),([0,1],[]),([],[]),([],[]),([],[])]) c0o hm (kD 4 (kB 60 h27 (λh28=> ?_) (λh29=> ?_)))
 refine kD 6 ?_
 obtain⟨hm,h30⟩:=b0k h28
 exact kJ 67 (tr2:=[([],[]),([],[]),([],[]),([],[]),([2,3],[]),([],[]),([0,1],[]),([],[]),([],[]),([],[]),([],[]),([],[]),([],[]),([],[]),([],[]),([2,3],[]),([],[]),([0,1],[]),([],[]),([],[]),([],[]),([],[]),([],[]),([],[]),([],[]),([],[]),([2,3],[]),([],[]),([0,1],[]),([],[]),([],[]),([],[])]) c0o hm (kD 6 (kE (kNo h30 [1,2,3,4,5,73])))
 exact kD 13 (kE (kNo h29 [1,2,3,4,5,73]))
 exact kD 35 (kE (kNo h23 [1,2,3,4,5,73]))
 exact kBT 73 h21 (λh31=>kq (kX (kCx h31 h19 (λh33=>PJ.blockRet (kCx h33 h1 (λh34=>kLx h34 (λh35=>PJ.blockRet (kCx h35 h0 (λh36=>by obtain rfl:=oi h36;exact kZ D W V))))))))) (λh32=>kK (kXo h32 [1,2,3,4,5]))
 refine kn 4 (kAb 79 h20 (λ_=>j0A) (λy0 h37=>kr 1 (kcX h37 (fun(s6:Unit)=>([(1, .ptr 0 0),(2,iL 0),(3,iL s0),(4, .ptr 1 0),(5, .ptr 2 0),(7,iL y0)],[.box (a0y x0), .box [iL ((nth x0.f_ s0).ah_),iL ((nth x0.f_ s0).af_), .str ((nth x0.f_ s0).Z_)], .box (a0b y1.1)])) (λy9 hy6 h38=> ?_) (λs6 h39=> ?_))))
 exact kcN hy6 (fun(s3:Bool)=>([(1, .ptr 0 0),(2,iL 0),(3,iL s0),(4, .ptr 1 0),(5, .ptr 2 0),(7,iL y0),(87, .bool s3)],[.box (a0y x0), .box [iL ((nth x0.f_ s0).ah_),iL ((nth x0.f_ s0).af_), .str ((nth x0.f_ s0).Z_)], .box (a0b y1.1)])) (λs3 hy7=>km 4 (kB 83 hy7 (λh41=>ke 4 (kNo h41 [1,2,3,4,5,7,87])) (λh42=>ke 4 (kNo h42 [1,2,3,4,5,7,87])))) (λs3 h40=>kBT 87 h40 (λh43=>kq (kX (kCx h43 h38 (λh45=>PJ.blockRet (kCx h45 h1 (λh46=>kLx h46 (λh47=>PJ.blockRet (kCx h47 h0 (λh48=>by obtain rfl:=oi h48;exact kZ D W V))))))))) (λh44=>kK (kXo h44 [1,2,3,4,5,7])))
 refine kS (kDr (kD 5 ?_))
 obtain⟨hm,h49⟩:=b0k h39
 refine kJ 95 (tr2:=[([],[]),([0,1],[]),([],[]),([0,1],[]),([],[]),([],[])]) c0o hm (kD 1 ?_)
 obtain⟨y2,hy8,h50⟩:=a0l h49
 refine kC0 (some 97) [([],[]),([0,1],[]),([],[]),([0,1],[]),([],[]),([],[]),([],[]),([],[6,7])] (c0X hy8) (kD 6 (kEN (kS (kDr (kD 2 ?_)))))
 obtain⟨y3,hy9,h51⟩:=a0l h50
 refine kC0 (some 102) [([2,3],[]),([4,5],[]),([],[10,11])] (c0Y hy9) (kD 3 ?_)
 obtain⟨hm,h52⟩:=b0k h51
 refine kJ 106 (tr2:=[([2,3],[]),([4,5],[]),([],[10,11]),([],[]),([0,1],[]),([],[]),([],[])]) c0o hm (kD 2 ?_)
 obtain⟨y4,hy10,h53⟩:=a0l h52
 exact kC0 (some 109) [([2,3],[]),([4,5],[]),([],[10,11]),([],[]),([0,1],[]),([],[]),([],[]),([],[]),([8,9],[]),([],[12,13])] (c0Y hy10) (kD 1 (kEN (kBT 110 h53 (λh54=>kq (kXb (kCx h54 h1 (λh56=>kLx h56 (λh57=>PJ.blockRet (kCx h57 h0 (λh58=>by obtain rfl:=oi h58;exact kZ D W V))))))) (λh55=>kKb (kXW h55 W V [0])))))
 exact kM (kLo h5 [1,2,3])
 exact kEp 0 (kLx h4 (λh59=>PJ.blockOut (kXW h59 W V [])))
 exact kq (kX (by cases h2;exact kZ D W V))
def b0N(x0:c0T)(x1:a0j)(x2:Int)(x3:a0j)(x4:Int):Option (Bool):=
 (Option.bind (a0x (fun(s0:Int)=>(bif(decide (s0<((([(⟨0,0⟩:a0p),(⟨0,1⟩:a0p),(⟨1,0⟩:a0p),(⟨1,1⟩:a0p),(⟨1,2⟩:a0p),(⟨2,1⟩:a0p),(⟨2,2⟩:a0p)]:List a0p).length:Int))))then(Option.bind (bif inR s0 ([(⟨0,0⟩:a0p),(⟨0,1⟩:a0p),(⟨1,0⟩:a0p),(⟨1,1⟩:a0p),(⟨1,2⟩:a0p),(⟨2,1⟩:a0p),(⟨2,2⟩:a0p)]:List a0p).length then(bif inR s0 ([(⟨0,0⟩:a0p),(⟨0,1⟩:a0p),(⟨1,0⟩:a0p),(⟨1,1⟩:a0p),(⟨1,2⟩:a0p),(⟨2,1⟩:a0p),(⟨2,2⟩:a0p)]:List a0p).length then(Option.bind (b0D x1 x0 ((nth ([(⟨0,0⟩:a0p),(⟨0,1⟩:a0p),(⟨1,0⟩:a0p),(⟨1,1⟩:a0p),(⟨1,2⟩:a0p),(⟨2,1⟩:a0p),(⟨2,2⟩:a0p)]:List a0p) s0).g_) ([]:List Int)) λy0=>(Option.bind (b0D x3 x0 ((nth ([(⟨0,0⟩:a0p),(⟨0,1⟩:a0p),(⟨1,0⟩:a0p),(⟨1,1⟩:a0p),(⟨1,2⟩:a0p),(⟨2,1⟩:a0p),(⟨2,2⟩:a0p)]:List a0p) s0).h_) ([]:List Int)) λy1=>(Option.bind (c0i y0 y1) λy2=>(Option.bind (bif y2 then(bif(decide (¬x2=x4))then(some true)else(some ((((decide (((nth ([(⟨0,0⟩:a0p),(⟨0,1⟩:a0p),(⟨1,0⟩:a0p),(⟨1,1⟩:a0p),(⟨1,2⟩:a0p),(⟨2,1⟩:a0p),(⟨2,2⟩:a0p)]:List a0p) s0).g_)=1))) !=((decide (((nth ([(⟨0,0⟩:a0p),(⟨0,1⟩:a0p),(⟨1,0⟩:a0p),(⟨1,1⟩:a0p),(⟨1,2⟩:a0p),(⟨2,1⟩:a0p),(⟨2,2⟩:a0p)]:List a0p) s0).h_)=1)))))))else(some false)) fun(s1:Bool)=>(bif s1 then(some (.inr (.inr (.inr true))))else(some (.inl ())))))))else none)else none) (a0m fun(s2:Unit)=>(some (.inl (IntKind.wrap .i64 (s0+1))))))else(some (.inr (.inl ()))))) big 0) (a0m fun(s3:Unit)=>(some false)))
theorem e0U {x0:c0T} {x1:a0j} {x2:Int} {x3:a0j} {x4:Int} {r:Bool} (h:b0N x0 x1 x2 x3 x4=some r):SQ 148 [.agg (a0d x0), .agg (a0b x1),iL x2, .agg (a0b x3),iL x4] [] (.bool r) []:=by
 refine kFn (fn:=Tryz.f148) (λF D W V=> ?_)
 unfold b0N at h
 refine kq (kq (kcX h (fun(s3:Unit)=>([(10, .bool false)],[])) (λy3 hy0 h0=> ?_) (λs3 h1=> ?_)))
 refine kq (kb 0 (J.wk (Wk.freeze 3 (n:=([(⟨0,0⟩:a0p),(⟨0,1⟩:a0p),(⟨1,0⟩:a0p),(⟨1,1⟩:a0p),(⟨1,2⟩:a0p),(⟨2,1⟩:a0p),(⟨2,2⟩:a0p)]:List a0p).length) (k:=2) (e:=167) (cs:=([(⟨0,0⟩:a0p),(⟨0,1⟩:a0p),(⟨1,0⟩:a0p),(⟨1,1⟩:a0p),(⟨1,2⟩:a0p),(⟨2,1⟩:a0p),(⟨2,2⟩:a0p)]:List a0p).flatMap b0G) (by kernel_rfl)) (J.wk (Wk.sel (L2:=[(2,iL x2),(4,iL x4),(5, .ptr 0 0),(6, .ptr 1 0),(8, .ptr 2 0),(10, .bool false),(11,lsv b0G 2 ([(⟨0,0⟩:a0p),(⟨0,1⟩:a0p),(⟨1,0⟩:a0p),(⟨1,1⟩:a0p),(⟨1,2⟩:a0p),(⟨2,1⟩:a0p),(⟨2,2⟩:a0p)]:List a0p)),(12,iL 0)]) (H2:=[.box (a0d x0), .box (a0b x1), .box (a0b x3)]) 0 (by rw[W];rfl) V [0,1,2] (by kernel_rfl) (by kernel_rfl) (by decide) (by kernel_rfl) (by kernel_rfl) (by kernel_rfl) (by kernel_rfl)) (kl (fun(s0:Int)=>([(2,iL x2),(4,iL x4),(5, .ptr 0 0),(6, .ptr 1 0),(8, .ptr 2 0),(10, .bool false),(11,lsv b0G 2 ([(⟨0,0⟩:a0p),(⟨0,1⟩:a0p),(⟨1,0⟩:a0p),(⟨1,1⟩:a0p),(⟨1,2⟩:a0p),(⟨2,1⟩:a0p),(⟨2,2⟩:a0p)]:List a0p)),(12,iL s0)],[.box (a0d x0), .box (a0b x1), .box (a0b x3)])) hy0 [2,4,5,6,8,10,11,12] (λs0 x411 hs0=>kS (kq (kBT 27 hs0 (λh2=> ?_) (λh3=> ?_))))))))
 refine kKN (kcX h2 (fun(s2:Unit)=>([(2,iL x2),(4,iL x4),(5, .ptr 0 0),(6, .ptr 1 0),(8, .ptr 2 0),(10, .bool false),(11,lsv b0G 2 ([(⟨0,0⟩:a0p),(⟨0,1⟩:a0p),(⟨1,0⟩:a0p),(⟨1,1⟩:a0p),(⟨1,2⟩:a0p),(⟨2,1⟩:a0p),(⟨2,2⟩:a0p)]:List a0p)),(12,iL s0)],[.box (a0d x0), .box (a0b x1), .box (a0b x3)])) (λy4 hy1 h4=> ?_) (λs2 h5=> ?_))
 refine kb 1 (kn 2 ?_)
 obtain⟨hm,h6⟩:=b0k hy1
 refine kJ 32 (tr2:=[]) d0D hm (kr 3 (kn 2 ?_))
 obtain⟨hm,h7⟩:=b0k h6
 refine kJ 37 (tr2:=[]) d0D hm (kr 3 (kS (kDr (kD 3 ?_))))
 obtain⟨y0,hy2,h8⟩:=a0l h7
 refine RJ.call0 (d:=(some 43)) (f:=216) (args:=[.agg (a0b x1), .agg (a0d x0),iL ((nth ([(⟨0,0⟩:a0p),(⟨0,1⟩:a0p),(⟨1,0⟩:a0p),(⟨1,1⟩:a0p),(⟨1,2⟩:a0p),(⟨2,1⟩:a0p),(⟨2,2⟩:a0p)]:List a0p) s0).g_), .nl]) (v:= .agg (b0X y0)) (tr2:=[([2,3],[]),([0,1],[]),([],[]),([],[6,7])]) (by kernel_rfl) (by kernel_rfl) (.cons (Le.refl _) (.cons (Le.refl _) (.cons (Le.refl _) (.cons (Le.nl _) .nil)))) (c0x hy2) (by kernel_rfl) (kD 3 ?_)
 obtain⟨y1,hy3,h9⟩:=a0l h8
 refine RJ.call0 (d:=(some 47)) (f:=216) (args:=[.agg (a0b x3), .agg (a0d x0),iL ((nth ([(⟨0,0⟩:a0p),(⟨0,1⟩:a0p),(⟨1,0⟩:a0p),(⟨1,1⟩:a0p),(⟨1,2⟩:a0p),(⟨2,1⟩:a0p),(⟨2,2⟩:a0p)]:List a0p) s0).h_), .nl]) (v:= .agg (b0X y1)) (tr2:=[([2,3],[]),([0,1],[]),([],[]),([],[6,7]),([4,5],[]),([0,1],[]),([],[]),([],[8,9])]) (by kernel_rfl) (by kernel_rfl) (.cons (Le.refl _) (.cons (Le.refl _) (.cons (Le.refl _) (.cons (Le.nl _) .nil)))) (c0x hy3) (by kernel_rfl) ?_
 obtain⟨y2,hy4,h10⟩:=a0l h9
 exact kC0 (some 48) [([2,3],[]),([0,1],[]),([],[]),([],[6,7]),([4,5],[]),([0,1],[]),([],[]),([],[8,9]),([],[10,11])] (e0s hy4) (kD 1 (kEN (kcN h10 (fun(s1:Bool)=>([(2,iL x2),(4,iL x4),(5, .ptr 0 0),(6, .ptr 1 0),(8, .ptr 2 0),(10, .bool false),(11,lsv b0G 2 ([(⟨0,0⟩:a0p),(⟨0,1⟩:a0p),(⟨1,0⟩:a0p),(⟨1,1⟩:a0p),(⟨1,2⟩:a0p),(⟨2,1⟩:a0p),(⟨2,2⟩:a0p)]:List a0p)),(12,iL s0),(61, .bool s1)],[.box (a0d x0), .box (a0b x1), .box (a0b x3)])) (λs1 hy5=>km 2 (kB 50 hy5 (λh12=>kc 4 (kB 54 h12 (λh14=>ke 7 (kNW h14 W V [0,1,2])) (λh15=>ke 7 (kNW h15 W V [0,1,2])))) (λh13=>ke 11 (kNW h13 W V [0,1,2])))) (λs1 h11=>kBT 61 h11 (λh16=>kq (kXb (kCx h16 h4 (λh18=>kLx h18 (λh19=>PJ.blockRet (kCx h19 h0 (λh20=>by obtain rfl:=oi h20;exact kZ D W V))))))) (λh17=>kKb (kXo h17 [2,4,5,6,8,10,11,12]))))))
 exact kM (kLo h5 [2,4,5,6,8,10,11,12])
 exact kEp 0 (kLx h3 (λh21=>PJ.blockOut (kXW h21 W V [])))
 exact kq (kX (by cases h1;exact kZ D W V))
def c0N(x0:g0l):Option (Int):=
 (Option.bind (a0P x0.S_ 0 x0.a_.g_) λy3=>(Option.bind (a0x (fun(s0:Int)=>(bif(decide (s0<(x0.f_.length:Int)))then(Option.bind (bif inR s0 x0.f_.length then(Option.bind (b0y x0.S_ (nth x0.f_ s0)) λy0=>(bif inR s0 x0.f_.length then(Option.bind (a0S (nth x0.f_ s0) y0.1) λy1=>(Option.bind (b0N x0.S_ y3.1 0 y0.1 y1) λy6=>(bif y6 then(some (.inr (.inr (.inr s0))))else(a0x (fun(s1:Int)=>(bif(decide (s1<=s0))then(bif inR s1 x0.f_.length then(Option.bind (b0y x0.S_ (nth x0.f_ s1)) λy2=>(bif inR s1 x0.f_.length then(Option.bind (a0S (nth x0.f_ s1) y2.1) λy4=>(Option.bind (b0N x0.S_ y2.1 y4 y0.1 y1) λy5=>(bif y5 then(some (.inr (.inr (.inr (.inr s0)))))else(some (.inl (IntKind.wrap .i64 (s1+1)))))))else none))else none)else(some (.inr (.inl ()))))) big 0))))else none))else none) (a0m fun(s2:Unit)=>(some (.inl (IntKind.wrap .i64 (s0+1))))))else(some (.inr (.inl ()))))) big 0) (a0m fun(s3:Unit)=>(some (-1)))))
theorem i0N {x0:g0l} {r:Int} (h:c0N x0=some r):SQ 87 [.agg (a0y x0)] [] (iL r) []:=by
 refine kFn (fn:=Tryz.f87) (λF D W V=> ?_)
 unfold c0N at h
 refine kq (kn 5 (kAb 20 h (λ_=>b0V) (λy3 h2=>kr 6 (kcX h2 (fun(s3:Unit)=>([(2,iL 0)],[])) (λy7 hy0 h0=> ?_) (λs3 h3=> ?_)))))
 refine kq (kb 0 (kl (fun(s0:Int)=>([(1, .ptr 0 0),(2,iL 0),(3, .ptr 1 0),(5,iL s0)],[.box (a0y x0), .box (a0b y3.1)])) hy0 [1,2,3,5] (λs0 x1024 hs0=>kS (kq (kBT 27 hs0 (λh4=> ?_) (λh5=> ?_))))))
 refine kKN (kcX h4 (fun(s2:Unit)=>([(1, .ptr 0 0),(2,iL 0),(3, .ptr 1 0),(5,iL s0)],[.box (a0y x0), .box (a0b y3.1)])) (λy8 hy1 h1=> ?_) (λs2 h6=> ?_))
 refine kb 1 (kS (kDr (kD 5 ?_)))
 obtain⟨hm,h7⟩:=b0k hy1
 refine kJ 36 (tr2:=[([],[]),([0,1],[]),([],[]),([0,1],[]),([],[]),([],[])]) c0o hm (kD 1 ?_)
 obtain⟨y0,hy2,h8⟩:=a0l h7
 refine kC0 (some 38) [([],[]),([0,1],[]),([],[]),([0,1],[]),([],[]),([],[]),([],[]),([],[4,5])] (c0X hy2) (kD 6 (kEN (kS (kDr (kD 3 ?_)))))
 obtain⟨hm,h9⟩:=b0k h8
 refine kJ 44 (tr2:=[([],[]),([0,1],[]),([],[]),([],[])]) c0o hm (kD 2 ?_)
 obtain⟨y1,hy3,h10⟩:=a0l h9
 refine kC0 (some 47) [([],[]),([0,1],[]),([],[]),([],[]),([],[]),([6,7],[]),([],[8,9])] (c0Y hy3) (kD 1 (kEN (kn 5 (kAb 53 h10 (λ_=>e0U) (λy6 h11=>kr 1 (kS (kq (kBT 54 h11 (λh12=> ?_) (λh13=> ?_)))))))))
 exact kq (kX (PJ.passRet (PJ.blockRet (kCx h12 h1 (λh14=>kLx h14 (λh15=>PJ.blockRet (kCx h15 h0 (λh16=>by obtain rfl:=oi h16;exact kZ D W V))))))))
 refine kKN (kq (kb 2 (J.wk (Wk.sel (L2:=[(1, .ptr 0 0),(2,iL 0),(3, .ptr 1 0),(5,iL s0),(6, .ptr 2 0),(8,iL y1),(10,iL 0)]) (H2:=[.box (a0y x0), .box (a0b y3.1), .box (a0b y0.1)]) 0 (by rw[W];rfl) V [0,1,3] (by kernel_rfl) (by kernel_rfl) (by decide) (by kernel_rfl) (by kernel_rfl) (by kernel_rfl) (by kernel_rfl)) (kl (fun(s1:Int)=>([(1, .ptr 0 0),(2,iL 0),(3, .ptr 1 0),(5,iL s0),(6, .ptr 2 0),(8,iL y1),(10,iL s1)],[.box (a0y x0), .box (a0b y3.1), .box (a0b y0.1)])) h13 [1,2,3,5,6,8,10] (λs1 x1199 hs1=>kS (kq (kBT 58 hs1 (λh17=> ?_) (λh18=> ?_))))))))
 refine kKN (kS (kb 3 (kS (kDr (kD 5 ?_)))))
 obtain⟨hm,h19⟩:=b0k h17
 refine kJ 67 (tr2:=[([],[]),([0,1],[]),([],[]),([0,1],[]),([],[]),([],[])]) c0o hm (kD 1 ?_)
 obtain⟨y2,hy4,h20⟩:=a0l h19
 refine kC0 (some 69) [([],[]),([0,1],[]),([],[]),([0,1],[]),([],[]),([],[]),([],[]),([],[6,7])] (c0X hy4) (kD 6 (kEN (kS (kDr (kD 6 ?_)))))
 obtain⟨hm,h21⟩:=b0k h20
 refine kJ 78 (tr2:=[([],[]),([0,1],[]),([8,9],[]),([],[]),([0,1],[]),([],[]),([],[])]) c0o hm (kD 2 ?_)
 obtain⟨y4,hy5,h22⟩:=a0l h21
 refine kC0 (some 81) [([],[]),([0,1],[]),([8,9],[]),([],[]),([0,1],[]),([],[]),([],[]),([],[]),([8,9],[]),([],[10,11])] (c0Y hy5) (kD 2 ?_)
 obtain⟨y5,hy6,h23⟩:=a0l h22
 exact kC0 (some 84) [([],[]),([0,1],[]),([8,9],[]),([],[]),([0,1],[]),([],[]),([],[]),([],[]),([8,9],[]),([],[10,11]),([4,5],[]),([],[]),([],[12,13])] (e0U hy6) (kD 1 (kEN (kq (kBT 85 h23 (λh24=>kq (kXp (kLx h24 (λh26=>PJ.blockRet (PJ.blockRet (kCx h26 h1 (λh27=>kLx h27 (λh28=>PJ.blockRet (kCx h28 h0 (λh29=>by obtain rfl:=oi h29;exact kZ D W V)))))))))) (λh25=>kKn (kM (kLW h25 W V [0,1,2])))))))
 exact kEp 2 (kLx h18 (λh30=>PJ.blockOut (PJ.blockNormal (kXW h30 W V [0,1]))))
 exact kM (kLo h6 [1,2,3,5])
 exact kEp 0 (kLx h5 (λh31=>PJ.blockOut (kXW h31 W V [])))
 exact kq (kX (by cases h3;exact kZ D W V))
def d0b(x0:g0l):Option (Int×Int×Int):=
 (Option.bind (d0O x0.J_) λy8=>(bif(!y8)then(some (1,0,8))else(Option.bind (d0t x0.S_) λy9=>(bif(!y9)then(some (2,0,8))else(Option.bind (a0x (fun(s0:Int×(List a0c)×(List a0c)×(List a0c)×(List a0c)×Bool×Int×Int×Int×Int×Int×Int×Int×Int×Int×Bool×Int×Int)=>(bif(decide (s0.1<4))then(bif(decide (s0.1=0))then(Option.bind (a0P x0.S_ s0.1 x0.a_.g_) λy0=>(bif(!y0.2)then(some (.inr (.inr (3,s0.1,8))))else(some (.inl ((IntKind.wrap .i64 (s0.1+1)),y0.1.c_,y0.1.e_,y0.1.A_,y0.1.y_,y0.1.O_,y0.1.I_,y0.1.z_,y0.1.v_,y0.1.o_,y0.1.p_,y0.1.w_,y0.1.s_,y0.1.u_,y0.1.b_,y0.1.U_,y0.1.B_,y0.1.P_)))))else(bif(decide (s0.1=1))then(Option.bind (a0P x0.S_ s0.1 x0.a_.h_) λy1=>(bif(!y1.2)then(some (.inr (.inr (3,s0.1,8))))else(some (.inl ((IntKind.wrap .i64 (s0.1+1)),y1.1.c_,y1.1.e_,y1.1.A_,y1.1.y_,y1.1.O_,y1.1.I_,y1.1.z_,y1.1.v_,y1.1.o_,y1.1.p_,y1.1.w_,y1.1.s_,y1.1.u_,y1.1.b_,y1.1.U_,y1.1.B_,y1.1.P_)))))else(bif(decide (s0.1=2))then(Option.bind (a0P x0.S_ s0.1 x0.a_.n_) λy2=>(bif(!y2.2)then(some (.inr (.inr (3,s0.1,8))))else(some (.inl ((IntKind.wrap .i64 (s0.1+1)),y2.1.c_,y2.1.e_,y2.1.A_,y2.1.y_,y2.1.O_,y2.1.I_,y2.1.z_,y2.1.v_,y2.1.o_,y2.1.p_,y2.1.w_,y2.1.s_,y2.1.u_,y2.1.b_,y2.1.U_,y2.1.B_,y2.1.P_)))))else(bif(decide (s0.1=3))then(Option.bind (a0P x0.S_ s0.1 x0.a_.x_) λy3=>(bif(!y3.2)then(some (.inr (.inr (3,s0.1,8))))else(some (.inl ((IntKind.wrap .i64 (s0.1+1)),y3.1.c_,y3.1.e_,y3.1.A_,y3.1.y_,y3.1.O_,y3.1.I_,y3.1.z_,y3.1.v_,y3.1.o_,y3.1.p_,y3.1.w_,y3.1.s_,y3.1.u_,y3.1.b_,y3.1.U_,y3.1.B_,y3.1.P_)))))else none))))else(some (.inr (.inl (s0.2.1,s0.2.2.1,s0.2.2.2.1,s0.2.2.2.2.1,s0.2.2.2.2.2.1,s0.2.2.2.2.2.2.1,s0.2.2.2.2.2.2.2.1,s0.2.2.2.2.2.2.2.2.1,s0.2.2.2.2.2.2.2.2.2.1,s0.2.2.2.2.2.2.2.2.2.2.1,s0.2.2.2.2.2.2.2.2.2.2.2.1,s0.2.2.2.2.2.2.2.2.2.2.2.2.1,s0.2.2.2.2.2.2.2.2.2.2.2.2.2.1,s0.2.2.2.2.2.2.2.2.2.2.2.2.2.2.1,s0.2.2.2.2.2.2.2.2.2.2.2.2.2.2.2.1,s0.2.2.2.2.2.2.2.2.2.2.2.2.2.2.2.2.1,s0.2.2.2.2.2.2.2.2.2.2.2.2.2.2.2.2.2)))))) big (0,([]:List a0c),([]:List a0c),([]:List a0c),([]:List a0c),false,0,0,0,0,0,0,0,0,0,false,0,0)) (a0m fun(s1:(List a0c)×(List a0c)×(List a0c)×(List a0c)×Bool×Int×Int×Int×Int×Int×Int×Int×Int×Int×Bool×Int×Int)=>(Option.bind (d0u x0.T_) λy4=>(bif(decide (¬y4.2.2=0))then(some (4,y4.2.1,8))else(Option.bind (c0V x0 (⟨s1.1,s1.2.1,s1.2.2.1,s1.2.2.2.1,s1.2.2.2.2.1,s1.2.2.2.2.2.1,s1.2.2.2.2.2.2.1,s1.2.2.2.2.2.2.2.1,s1.2.2.2.2.2.2.2.2.1,s1.2.2.2.2.2.2.2.2.2.1,s1.2.2.2.2.2.2.2.2.2.2.1,s1.2.2.2.2.2.2.2.2.2.2.2.1,s1.2.2.2.2.2.2.2.2.2.2.2.2.1,s1.2.2.2.2.2.2.2.2.2.2.2.2.2.1,s1.2.2.2.2.2.2.2.2.2.2.2.2.2.2.1,s1.2.2.2.2.2.2.2.2.2.2.2.2.2.2.2.1,s1.2.2.2.2.2.2.2.2.2.2.2.2.2.2.2.2⟩:a0j)) λy5=>(bif(decide (y5≥0))then(some (5,y5,8))else(Option.bind (c0C x0) λy6=>(bif(decide (y6≥0))then(some (6,y6,8))else(Option.bind (c0N x0) λy7=>(bif(decide (y7≥0))then(some (7,y7,8))else(some (0,0,0))))))))))))))))
theorem j0B {x0:g0l} {r:Int×Int×Int} (h:d0b x0=some r):SQ 44 [.agg (a0y x0)] [] (.tup [iL r.1,iL r.2.1,iL r.2.2]) []:=by
 refine kFn (fn:=Tryz.f44) (λF D W V=> ?_)
 unfold d0b at h
 refine kq (kn 2 (kAb 19 h (λ_=>k0O) (λy8 h5=>kr 1 (kS (kq (kBT 21 h5 (λh6=> ?_) (λh7=> ?_)))))))
 exact kq (kX (PJ.passRet (by cases h6;exact kZ D W V)))
 ·refine kKN (kn 2 (kAb 24 h7 (λ_=>k0m) (λy9 h8=>kr 1 (kS (kq (kBT 26 h8 (λh9=> ?_) (λh10=> ?_)))))))
  exact kq (kX (PJ.passRet (by cases h9;exact kZ D W V)))
  ·refine kKN (kq (kcX h10 (fun(s1:(List a0c)×(List a0c)×(List a0c)×(List a0c)×Bool×Int×Int×Int×Int×Int×Int×Int×Int×Int×Bool×Int×Int)=>([(1, .ptr 0 0),(2,iL 0),(3,iL 0),(4,iL 0),(7, .ptr 1 0)],[.box (a0y x0), .box [lsv a0a 2 s1.1,lsv a0a 2 s1.2.1,lsv a0a 2 s1.2.2.1,lsv a0a 2 s1.2.2.2.1, .bool s1.2.2.2.2.1,iL s1.2.2.2.2.2.1,iL s1.2.2.2.2.2.2.1,iL s1.2.2.2.2.2.2.2.1,iL s1.2.2.2.2.2.2.2.2.1,iL s1.2.2.2.2.2.2.2.2.2.1,iL s1.2.2.2.2.2.2.2.2.2.2.1,iL s1.2.2.2.2.2.2.2.2.2.2.2.1,iL s1.2.2.2.2.2.2.2.2.2.2.2.2.1,iL s1.2.2.2.2.2.2.2.2.2.2.2.2.2.1, .bool s1.2.2.2.2.2.2.2.2.2.2.2.2.2.2.1,iM s1.2.2.2.2.2.2.2.2.2.2.2.2.2.2.2.1,iL s1.2.2.2.2.2.2.2.2.2.2.2.2.2.2.2.2]])) (λy10 hy0 h0=> ?_) (λs1 h11=> ?_)))
   ·refine kq (kb 0 (J.wk (Wk.leBox 1 0 (cs:=[.nl, .nl, .nl, .nl, .bool false,iL 0,iL 0,iL 0,iL 0,iL 0,iL 0,iL 0,iL 0,iL 0, .bool false,iM 0,iL 0]) (v:= .nl) (v':=lsv a0a 2 []) (by kernel_rfl) (by kernel_rfl) (Le.nl _)) (J.wk (Wk.leBox 1 1 (cs:=[lsv a0a 2 ([]:List a0c), .nl, .nl, .nl, .bool false,iL 0,iL 0,iL 0,iL 0,iL 0,iL 0,iL 0,iL 0,iL 0, .bool false,iM 0,iL 0]) (v:= .nl) (v':=lsv a0a 2 []) (by kernel_rfl) (by kernel_rfl) (Le.nl _)) (J.wk (Wk.leBox 1 2 (cs:=[lsv a0a 2 ([]:List a0c),lsv a0a 2 ([]:List a0c), .nl, .nl, .bool false,iL 0,iL 0,iL 0,iL 0,iL 0,iL 0,iL 0,iL 0,iL 0, .bool false,iM 0,iL 0]) (v:= .nl) (v':=lsv a0a 2 []) (by kernel_rfl) (by kernel_rfl) (Le.nl _)) (J.wk (Wk.leBox 1 3 (cs:=[lsv a0a 2 ([]:List a0c),lsv a0a 2 ([]:List a0c),lsv a0a 2 ([]:List a0c), .nl, .bool false,iL 0,iL 0,iL 0,iL 0,iL 0,iL 0,iL 0,iL 0,iL 0, .bool false,iM 0,iL 0]) (v:= .nl) (v':=lsv a0a 2 []) (by kernel_rfl) (by kernel_rfl) (Le.nl _)) (kl (fun(s0:Int×(List a0c)×(List a0c)×(List a0c)×(List a0c)×Bool×Int×Int×Int×Int×Int×Int×Int×Int×Int×Bool×Int×Int)=>([(1, .ptr 0 0),(2,iL 0),(3,iL 0),(4,iL 0),(7, .ptr 1 0),(8,iL s0.1)],[.box (a0y x0), .box [lsv a0a 2 s0.2.1,lsv a0a 2 s0.2.2.1,lsv a0a 2 s0.2.2.2.1,lsv a0a 2 s0.2.2.2.2.1, .bool s0.2.2.2.2.2.1,iL s0.2.2.2.2.2.2.1,iL s0.2.2.2.2.2.2.2.1,iL s0.2.2.2.2.2.2.2.2.1,iL s0.2.2.2.2.2.2.2.2.2.1,iL s0.2.2.2.2.2.2.2.2.2.2.1,iL s0.2.2.2.2.2.2.2.2.2.2.2.1,iL s0.2.2.2.2.2.2.2.2.2.2.2.2.1,iL s0.2.2.2.2.2.2.2.2.2.2.2.2.2.1,iL s0.2.2.2.2.2.2.2.2.2.2.2.2.2.2.1, .bool s0.2.2.2.2.2.2.2.2.2.2.2.2.2.2.2.1,iM s0.2.2.2.2.2.2.2.2.2.2.2.2.2.2.2.2.1,iL s0.2.2.2.2.2.2.2.2.2.2.2.2.2.2.2.2.2]])) hy0 [1,2,3,4,7,8] (λs0 x210 hs0=>kS (kq (kBT 29 hs0 (λh1=> ?_) (λh12=> ?_))))))))))
    ·refine kKN (kS (kb 1 (kS (kDr (kD 5 ?_)))))
     cases hb0:(decide (s0.1=0))
     ·have h2:=condF hb0 h1
      cases hb1:(decide (s0.1=1))
      ·have h3:=condF hb1 h2
       cases hb2:(decide (s0.1=2))
       ·have h4:=condF hb2 h3
        cases hb3:(decide (s0.1=3))
        have h13:=condF hb3 h4
        cases h13
        ·have h14:=condT hb3 h4
         refine RJ.pin 36 (kd:= .i64) (by kernel_rfl) (of_decide_eq_true hb3) (kD 2 ?_)
         obtain⟨y3,hy1,h15⟩:=a0l h14
         exact kC0 (some 40) [([],[]),([0,1],[]),([],[]),([],[]),([],[]),([],[]),([0,1],[]),([],[4,5])] (b0V hy1) (kD 6 (kEN (kS (kq (kBT 44 h15 (λh16=>kq (kX (PJ.passRet (PJ.blockRet (PJ.passRet (kLx h16 (λh18=>PJ.blockRet (kCx h18 h0 (λh19=>by obtain rfl:=oi h19;exact kZ D W V))))))))) (λh17=>kKN (kM (PJ.blockNormal (PJ.next (kM (kLW h17 W V [0,1])))))))))))
       ·have h20:=condT hb2 h3
        refine RJ.pin 36 (kd:= .i64) (by kernel_rfl) (of_decide_eq_true hb2) (kD 2 ?_)
        obtain⟨y2,hy2,h21⟩:=a0l h20
        exact kC0 (some 40) [([],[]),([0,1],[]),([],[]),([],[]),([],[]),([],[]),([0,1],[]),([],[4,5])] (b0V hy2) (kD 6 (kEN (kS (kq (kBT 44 h21 (λh22=>kq (kX (PJ.passRet (PJ.blockRet (PJ.passRet (kLx h22 (λh24=>PJ.blockRet (kCx h24 h0 (λh25=>by obtain rfl:=oi h25;exact kZ D W V))))))))) (λh23=>kKN (kM (PJ.blockNormal (PJ.next (kM (kLW h23 W V [0,1])))))))))))
      ·have h26:=condT hb1 h2
       refine RJ.pin 36 (kd:= .i64) (by kernel_rfl) (of_decide_eq_true hb1) (kD 2 ?_)
       obtain⟨y1,hy3,h27⟩:=a0l h26
       exact kC0 (some 40) [([],[]),([0,1],[]),([],[]),([],[]),([],[]),([],[]),([0,1],[]),([],[4,5])] (b0V hy3) (kD 6 (kEN (kS (kq (kBT 44 h27 (λh28=>kq (kX (PJ.passRet (PJ.blockRet (PJ.passRet (kLx h28 (λh30=>PJ.blockRet (kCx h30 h0 (λh31=>by obtain rfl:=oi h31;exact kZ D W V))))))))) (λh29=>kKN (kM (PJ.blockNormal (PJ.next (kM (kLW h29 W V [0,1])))))))))))
     ·have h32:=condT hb0 h1
      refine RJ.pin 36 (kd:= .i64) (by kernel_rfl) (of_decide_eq_true hb0) (kD 2 ?_)
      obtain⟨y0,hy4,h33⟩:=a0l h32
      exact kC0 (some 40) [([],[]),([0,1],[]),([],[]),([],[]),([],[]),([],[]),([0,1],[]),([],[4,5])] (b0V hy4) (kD 6 (kEN (kS (kq (kBT 44 h33 (λh34=>kq (kX (PJ.passRet (PJ.blockRet (PJ.passRet (kLx h34 (λh36=>PJ.blockRet (kCx h36 h0 (λh37=>by obtain rfl:=oi h37;exact kZ D W V))))))))) (λh35=>kKN (kM (PJ.blockNormal (PJ.next (kM (kLW h35 W V [0,1])))))))))))
    exact kEp 0 (kLx h12 (λh38=>PJ.blockOut (kXo h38 [1,2,3,4,7])))
   exact kn 2 (kAb 50 h11 (λ_=>k0n) (λy4 h39=>kr 7 (kS (kq (kBT 55 h39 (λh40=>kq (kX (PJ.passRet (by cases h40;exact kZ D W V)))) (λh41=>kKN (kn 2 (kAb 59 h41 (λ_=>j0x) (λy5 h42=>kr 1 (kS (kq (kBT 61 h42 (λh43=>kq (kX (PJ.passRet (by cases h43;exact kZ D W V)))) (λh44=>kKN (kn 1 (kAb 64 h44 (λ_=>i0l) (λy6 h45=>kr 1 (kS (kq (kBT 66 h45 (λh46=>kq (kX (PJ.passRet (by cases h46;exact kZ D W V)))) (λh47=>kKN (kn 1 (kAb 69 h47 (λ_=>i0N) (λy7 h48=>kr 1 (kS (kq (kBT 71 h48 (λh49=>kq (kX (PJ.passRet (by cases h49;exact kZ D W V)))) (λh50=>kKN (kq (kX (by cases h50;exact kZ D W V))))))))))))))))))))))))))))))
def d0s(x0:g0l):Option (Bool):=
 (Option.bind (d0b x0) λy0=>(some (decide (y0.2.2=0))))
theorem k0l {x0:g0l} {r:Bool} (h:d0s x0=some r):SQ 19 [.agg (a0y x0)] [] (.bool r) []:=by
 refine kFn (fn:=Tryz.f19) (λF D W V=> ?_)
 unfold d0s at h
 exact kq (kn 1 (kAb 8 h (λ_=>j0B) (λy0 h0=>kr 7 (kq (kX (by cases h0;exact kZ D W V))))))
def e0l(x0:g0l)(x1:t0t)(x2:w0X):Option (Bool):=
 (Option.bind (c0W x0) λy0=>(Option.bind (e0m x2) λy1=>(Option.bind (Option.bind (bif(!y0)then(some true)else(bif(!y1)then(some true)else(bif(decide ((x1.l_.length:Int)>50))then(some true)else(some ((decide ((x1.V_.length:Int)>50))))))) fun(s0:Bool)=>(bif s0 then(some (.inr false))else(some (.inl ())))) (a0m fun(s1:Unit)=>(Option.bind (d0s x0) λy2=>(some y2))))))
theorem k0j {x0:g0l} {x1:t0t} {x2:w0X} {r:Bool} (h:e0l x0 x1 x2=some r):SQ 5 [.agg (a0y x0), .agg (g0r x1), .agg (m0r x2)] [] (.bool r) []:=by
 refine kFn (fn:=Tryz.f5) (λF D W V=> ?_)
 unfold e0l at h
 exact kq (kn 1 (kAb 10 h (λ_=>j0y) (λy0 h0=>kr 1 (kn 1 (kAb 12 h0 (λ_=>k0u) (λy1 h1=>kr 1 (kcX h1 (fun(s1:Unit)=>([(3, .ptr 0 0),(6, .bool false)],[.box (a0y x0)])) (λy3 hy0 h2=>kcN hy0 (fun(s0:Bool)=>([(3, .ptr 0 0),(6, .bool false),(30, .bool s0)],[.box (a0y x0)])) (λs0 hy1=>km 3 (kB 15 hy1 (λh5=>ke 15 (kNW h5 W V [0])) (λh6=>kc 4 (kB 19 h6 (λh7=>ke 11 (kNW h7 W V [0])) (λh8=>kc 6 (kB 25 h8 (λh9=>ke 5 (kNW h9 W V [0])) (λh10=>ke 5 (kNW h10 W V [0])))))))) (λs0 h4=>kBT 30 h4 (λh11=>kq (kX (kCx h11 h2 (λh13=>by obtain rfl:=oi h13;exact kZ D W V)))) (λh12=>kK (kXo h12 [3,6])))) (λs1 h3=>kn 1 (kAb 32 h3 (λ_=>k0l) (λy2 h14=>kr 1 (kX (by cases h14;exact kZ D W V))))))))))))
structure A0C where
 g_:Int
 h_:Int
 n_:Int
 x_:Int
 a4_:Int
 deriving Inhabited,DecidableEq
def A0j(x:A0C):List SV:=[.int .i64 x.g_, .int .i64 x.h_, .int .i64 x.n_, .int .i64 x.x_, .int .i64 x.a4_]
theorem A0i(x:A0C):(A0j x).length=5:=rfl
structure u0y where
 L_:g0l
 X_:A0C
 W_:A0C
 deriving Inhabited,DecidableEq
def k0R(x:u0y):List SV:=[.str x.L_.J_, .int .i32 x.L_.S_.Y_, .int .i32 x.L_.S_.t_, .int .i32 x.L_.S_.r_, .int .i32 x.L_.S_.k_, .int .i32 x.L_.S_.j_, .int .i32 x.L_.S_.m_, .int .i32 x.L_.S_.b_, .str x.L_.a_.g_, .str x.L_.a_.h_, .str x.L_.a_.n_, .str x.L_.a_.x_,lsv c0d 2 x.L_.T_,lsv c0Q 3 x.L_.i_,lsv b0L 3 x.L_.f_, .int .i64 x.X_.g_, .int .i64 x.X_.h_, .int .i64 x.X_.n_, .int .i64 x.X_.x_, .int .i64 x.X_.a4_, .int .i64 x.W_.g_, .int .i64 x.W_.h_, .int .i64 x.W_.n_, .int .i64 x.W_.x_, .int .i64 x.W_.a4_]
theorem A0h(x:u0y):(k0R x).length=25:=rfl
def l0L(x0:List o0h):Option (List o0h):=
 (bif(Nat.beq x0.length 0)then l0a (some ([]:List o0h)) (bif room x0.length then(some x0)else none)else(bif room x0.length then(some x0)else none))
theorem r0g {x0 r:List o0h} (h:l0L x0=some r):SQ 20 [lsv c0d 2 x0] [] (lsv c0d 2 r) []:=by
 refine kFn (fn:=Tryz.f20) (λF D W V=> ?_)
 unfold l0L at h
 refine kq (kS (kn 1 (RJ.isNil (d:=4) (n:=x0.length) (eq:=true) (by kernel_rfl) (λb hb0=> ?_))))
 cases b
 have h0:=r0l h
 refine kEN (kF (kKN (kn 2 ?_)))
 obtain⟨hm,h1⟩:=b0k h0
 exact RJ.rel (d:=(some 7)) (ef':=⟨.vc 0,[],[(0, .vec x0.length 2 67 (x0.flatMap c0d))]⟩) (tr2:=[]) (H2:=[a0H c0d 2 67 x0]) (by kernel_rfl) hm (λhc=>rfl) (by kernel_rfl) (kr 1 (kX (by obtain rfl:=oi h1;exact PJ.wk (Wk.freeze 0 (n:=x0.length) (k:=2) (e:=67) (cs:=x0.flatMap c0d) (by kernel_rfl)) (kZ D W V))))
 have h2:=r0k (by rw[hb0 rfl];rfl) h
 exact kEN (kT (kq (kX (PJ.passRet (by obtain rfl:=oi h2;exact PJ.res (v1:= .nl) (Le.nl _) (kZ D W V))))))
def n0b(x0:List o0J):Option (List o0J):=
 (bif(Nat.beq x0.length 0)then l0a (some ([]:List o0J)) (bif room x0.length then(some x0)else none)else(bif room x0.length then(some x0)else none))
theorem s0B {x0 r:List o0J} (h:n0b x0=some r):SQ 21 [lsv c0Q 3 x0] [] (lsv c0Q 3 r) []:=by
 refine kFn (fn:=Tryz.f21) (λF D W V=> ?_)
 unfold n0b at h
 refine kq (kS (kn 1 (RJ.isNil (d:=4) (n:=x0.length) (eq:=true) (by kernel_rfl) (λb hb0=> ?_))))
 cases b
 have h0:=r0l h
 refine kEN (kF (kKN (kn 2 ?_)))
 obtain⟨hm,h1⟩:=b0k h0
 exact RJ.rel (d:=(some 7)) (ef':=⟨.vc 0,[],[(0, .vec x0.length 3 70 (x0.flatMap c0Q))]⟩) (tr2:=[]) (H2:=[a0H c0Q 3 70 x0]) (by kernel_rfl) hm (λhc=>rfl) (by kernel_rfl) (kr 1 (kX (by obtain rfl:=oi h1;exact PJ.wk (Wk.freeze 0 (n:=x0.length) (k:=3) (e:=70) (cs:=x0.flatMap c0Q) (by kernel_rfl)) (kZ D W V))))
 have h2:=r0k (by rw[hb0 rfl];rfl) h
 exact kEN (kT (kq (kX (PJ.passRet (by obtain rfl:=oi h2;exact PJ.res (v1:= .nl) (Le.nl _) (kZ D W V))))))
def l0M(x0:List l0b):Option (List l0b):=
 (bif(Nat.beq x0.length 0)then l0a (some ([]:List l0b)) (bif room x0.length then(some x0)else none)else(bif room x0.length then(some x0)else none))
theorem r0h {x0 r:List l0b} (h:l0M x0=some r):SQ 22 [lsv b0L 3 x0] [] (lsv b0L 3 r) []:=by
 refine kFn (fn:=Tryz.f22) (λF D W V=> ?_)
 unfold l0M at h
 refine kq (kS (kn 1 (RJ.isNil (d:=4) (n:=x0.length) (eq:=true) (by kernel_rfl) (λb hb0=> ?_))))
 cases b
 have h0:=r0l h
 refine kEN (kF (kKN (kn 2 ?_)))
 obtain⟨hm,h1⟩:=b0k h0
 exact RJ.rel (d:=(some 7)) (ef':=⟨.vc 0,[],[(0, .vec x0.length 3 73 (x0.flatMap b0L))]⟩) (tr2:=[]) (H2:=[a0H b0L 3 73 x0]) (by kernel_rfl) hm (λhc=>rfl) (by kernel_rfl) (kr 1 (kX (by obtain rfl:=oi h1;exact PJ.wk (Wk.freeze 0 (n:=x0.length) (k:=3) (e:=73) (cs:=x0.flatMap b0L) (by kernel_rfl)) (kZ D W V))))
 have h2:=r0k (by rw[hb0 rfl];rfl) h
 exact kEN (kT (kq (kX (PJ.passRet (by obtain rfl:=oi h2;exact PJ.res (v1:= .nl) (Le.nl _) (kZ D W V))))))
def h0m(x0:Int):Option (Int):=
 (bif(decide (x0<128))then(some 1)else(bif(decide ((Int.fdiv x0 32)=6))then(some 2)else(bif(decide ((Int.fdiv x0 16)=14))then(some 3)else(bif(decide ((Int.fdiv x0 8)=30))then(some 4)else(some 0)))))
theorem n0e {x0 r:Int} (h:h0m x0=some r):SQ 126 [.int .u8 x0] [] (iL r) []:=by
 refine kFn (fn:=Tryz.f126) (λF D W V=> ?_)
 unfold h0m at h
 exact kq (kS (kb 0 (kq (kBT 3 h (λh0=>kq (kXp (by cases h0;exact kZ D W V))) (λh1=>kq (kBT 6 h1 (λh2=>kq (kXp (by cases h2;exact kZ D W V))) (λh3=>kq (kBT 10 h3 (λh4=>kq (kXp (by cases h4;exact kZ D W V))) (λh5=>kq (kBT 14 h5 (λh6=>kq (kXp (by cases h6;exact kZ D W V))) (λh7=>kKn (kq (kX (by cases h7;exact kZ D W V))))))))))))))
def m0U(x0:Int):Option (Int):=
 (bif(decide (x0=2))then(some 192)else(bif(decide (x0=3))then(some 224)else(bif(decide (x0=4))then(some 240)else(some 0))))
theorem r0v {x0 r:Int} (h:m0U x0=some r):SQ 125 [iL x0] [] (.int .u8 r) []:=by
 refine kFn (fn:=Tryz.f125) (λF D W V=> ?_)
 unfold m0U at h
 exact kq (kS (kq (kb 0 (kq (kBT 4 h (λh0=>kq (kXp (by cases h0;exact kZ D W V))) (λh1=>kq (kBT 6 h1 (λh2=>kq (kXp (by cases h2;exact kZ D W V))) (λh3=>kq (kBT 8 h3 (λh4=>kq (kXp (by cases h4;exact kZ D W V))) (λh5=>kKn (kq (kX (by cases h5;exact kZ D W V)))))))))))))
def m0x(x0:Int):Option (Bool):=
 (Option.bind (bif(decide (x0≥0))then(bif(decide (x0<=1114111))then(bif(decide (x0<55296))then(some true)else(some (decide (x0>57343))))else(some false))else(some false)) fun(s0:Bool)=>(some s0))
theorem p0S {x0:Int} {r:Bool} (h:m0x x0=some r):SQ 124 [iM x0] [] (.bool r) []:=by
 refine kFn (fn:=Tryz.f124) (λF D W V=> ?_)
 unfold m0x at h
 exact kq (kcN h (fun(s0:Bool)=>([(2, .bool s0)],[])) (λs0 hy0=>km 3 (kB 5 hy0 (λh1=>kc 4 (kB 9 h1 (λh3=>kc 3 (kB 12 h3 (λh5=>ke 5 (kNo h5 [2])) (λh6=>ke 5 (kNo h6 [2])))) (λh4=>ke 8 (kNo h4 [2])))) (λh2=>ke 12 (kNo h2 [2])))) (λs0 h0=>kX (by cases h0;exact kZ D W V)))
def l0c(x0:Int):Option (Int):=
 (Option.bind (m0x x0) λy0=>(bif(!y0)then(some 0)else(bif(decide (x0<128))then(some 1)else(bif(decide (x0<2048))then(some 2)else(bif(decide (x0<65536))then(some 3)else(some 4))))))
theorem r0w {x0 r:Int} (h:l0c x0=some r):SQ 69 [iM x0] [] (iL r) []:=by
 refine kFn (fn:=Tryz.f69) (λF D W V=> ?_)
 unfold l0c at h
 exact kq (kS (kb 0 (kn 1 (kAb 5 h (λ_=>p0S) (λy0 h0=>kr 2 (kBT 3 h0 (λh1=>kq (kXp (by cases h1;exact kZ D W V))) (λh2=>kq (kBT 7 h2 (λh3=>kq (kXp (by cases h3;exact kZ D W V))) (λh4=>kq (kBT 10 h4 (λh5=>kq (kXp (by cases h5;exact kZ D W V))) (λh6=>kq (kBT 13 h6 (λh7=>kq (kXp (by cases h7;exact kZ D W V))) (λh8=>kKn (kq (kX (by cases h8;exact kZ D W V))))))))))))))))
def i0U(x0:List Int):Option (Int×Int):=
 (bif inR 0 x0.length then(Option.bind (h0m (nth x0 0)) λy0=>(Option.bind (Option.bind (bif(decide (y0=0))then(some true)else(some ((decide (y0>(x0.length:Int)))))) fun(s1:Bool)=>(bif s1 then(some (.inr (0,0)))else(some (.inl ())))) (a0m fun(s3:Unit)=>(bif inR 0 x0.length then(Option.bind (m0U y0) λy1=>(Option.bind (bif inS 1 y0 x0.length then(a0x (fun(s0:Int×Int)=>(bif(decide (s0.2<((cut x0 1 y0).length:Int)))then(bif inR s0.2 (cut x0 1 y0).length then(bif(decide (¬((bits .andNot .u8 (nth (cut x0 1 y0) s0.2) 63))=128))then(some (.inr (.inr (0,0))))else(some (.inl ((bits .or .i32 (IntKind.wrap .i32 (s0.1*64)) ((IntKind.wrap .i32 ((bits .and .u8 (nth (cut x0 1 y0) s0.2) 63))))),(IntKind.wrap .i64 (s0.2+1))))))else none)else(some (.inr (.inl s0.1))))) big ((IntKind.wrap .i32 (bits .andNot .u8 (nth x0 0) y1)),0))else none) (a0m fun(s2:Int)=>(Option.bind (l0c s2) λy2=>(bif(decide (¬y2=y0))then(some (0,0))else(some (s2,y0)))))))else none))))else none)
theorem p0R {x0:List Int} {r:Int×Int} (h:i0U x0=some r):SQ 71 [lB x0] [] (.tup [iM r.1,iL r.2]) []:=by
 refine kFn (fn:=Tryz.f71) (λF D W V=> ?_)
 unfold i0U at h
 refine kq (kn 1 (kIb 9 (a0r .u8) h (λh0=>kc 1 (kAb 11 h0 (λ_=>n0e) (λy0 h1=>kr 1 (kcX h1 (fun(s3:Unit)=>([(0,lB x0),(2,iM 0),(3,iL 0),(4,iL y0)],[])) (λy3 hy0 h2=> ?_) (λs3 h3=> ?_)))))))
 exact kcN hy0 (fun(s1:Bool)=>([(0,lB x0),(2,iM 0),(3,iL 0),(4,iL y0),(19, .bool s1)],[])) (λs1 hy1=>km 3 (kB 14 hy1 (λh5=>ke 5 (kNo h5 [0,2,3,4,19])) (λh6=>ke 5 (kNo h6 [0,2,3,4,19])))) (λs1 h4=>kBT 19 h4 (λh7=>kq (kX (kCx h7 h2 (λh9=>by obtain rfl:=oi h9;exact kZ D W V)))) (λh8=>kK (kXo h8 [0,2,3,4])))
 ·refine kS (kDr (kD 1 ?_))
  obtain⟨hm,h10⟩:=b0k h3
  refine kJ 21 (tr2:=[([],[]),([],[])]) (a0r .u8) hm (kD 2 ?_)
  obtain⟨y1,hy2,h11⟩:=a0l h10
  refine kC0 (some 24) [([],[]),([],[]),([],[]),([],[]),([],[0,1])] (r0v hy2) (kD 3 (kEN (kcX h11 (fun(s2:Int)=>([(2,iM 0),(3,iL 0),(4,iL y0),(5,iM s2)],[])) (λy4 hy3 h12=> ?_) (λs2 h13=> ?_))))
  ·refine kn 2 ?_
   obtain⟨hm,h14⟩:=b0k hy3
   exact RJ.rel (d:=(some 29)) (ef:=⟨.lst ((y0:Int).toNat-(1:Int).toNat) 1 (((x0.flatMap (a0s .u8)).take ((y0:Int).toNat*1)).drop ((1:Int).toNat*1)),[],[]⟩) (ef':=⟨.lst (cut x0 1 y0).length 1 ((cut x0 1 y0).flatMap (a0s .u8)),[],[]⟩) (c:=inS 1 y0 x0.length) (tr2:=[]) (H2:=[.res]) (by kernel_rfl) hm (λhc=>N.slice (a0r .u8) hc) (by kernel_rfl) (kr 2 (kb 0 (J.wk (Wk.sel (L2:=[(2,iM 0),(3,iL 0),(4,iL y0),(5,iM ((IntKind.wrap .i32 (bits .andNot .u8 (nth x0 0) y1)))),(29,lB (cut x0 1 y0)),(30,iL ((cut x0 1 y0).length:Int)),(31,iL 0)]) (H2:=[]) 0 (by rw[W];rfl) V [] (by kernel_rfl) (by kernel_rfl) (by decide) (by kernel_rfl) (by kernel_rfl) (by kernel_rfl) (by kernel_rfl)) (kl (fun(s0:Int×Int)=>([(2,iM 0),(3,iL 0),(4,iL y0),(5,iM s0.1),(29,lB (cut x0 1 y0)),(30,iL ((cut x0 1 y0).length:Int)),(31,iL s0.2)],[])) h14 [2,3,4,5,29,30,31] (λs0 x116 hs0=>kq (kS (kBT 32 hs0 (λh15=>kKN (kS (kb 1 (kSR (kIb 33 (a0r .u8) h15 (λh17=>kr 2 (kS (kq (kBT 37 h17 (λh18=>kq (kX (PJ.passRet (PJ.blockRet (PJ.passRet (kLx h18 (λh20=>PJ.blockRet (kCx h20 h12 (λh21=>by obtain rfl:=oi h21;exact kZ D W V))))))))) (λh19=>kKN (kM (PJ.blockNormal (PJ.next (kM (kLo h19 [2,3,4,5,29,30,31]))))))))))))))) (λh16=>kEp 0 (kLx h16 (λh22=>PJ.blockOut (kXo h22 [2,3,4,5])))))))))))
  exact kS (kn 1 (kAb 46 h13 (λ_=>r0w) (λy2 h23=>kr 2 (kBT 48 h23 (λh24=>kq (kX (PJ.passRet (by cases h24;exact kZ D W V)))) (λh25=>kKN (kq (kX (by cases h25;exact kZ D W V))))))))
def g0J(x0:List Int):Option ((List Int)×Int×Int):=
 (Option.bind (a0x (fun(s0:Int×(List Int))=>(bif(decide (s0.1<(x0.length:Int)))then(bif inS s0.1 (x0.length:Int) x0.length then(Option.bind (i0U (cut x0 s0.1 (x0.length:Int))) λy0=>(bif(decide (y0.2=0))then(some (.inr (.inr (([]:List Int),s0.1,3))))else(bif room (s0.2.length+([y0.1]:List Int).length)then(some (.inl ((IntKind.wrap .i64 (s0.1+y0.2)),(s0.2++([y0.1]:List Int)))))else none)))else none)else(some (.inr (.inl s0.2))))) big (0,([]:List Int))) (a0m fun(s1:(List Int))=>(some (s1,0,0))))
theorem l0d {x0:List Int} {r:(List Int)×Int×Int} (h:g0J x0=some r):SQ 36 [lB x0] [] (.tup [lR r.1,iL r.2.1,iL r.2.2]) []:=by
 refine kFn (fn:=Tryz.f36) (λF D W V=> ?_)
 unfold g0J at h
 refine kq (kq (kcX h (fun(s1:(List Int))=>([(2, .nl),(3,iL 0),(4,iL 0),(5, .vc 0)],[a0H (a0s .i32) 1 21 s1])) (λy1 hy0 h0=> ?_) (λs1 h1=> ?_)))
 refine kq (kb 0 (J.wk (Wk.viv 5 1 21 (by kernel_rfl)) (kl (fun(s0:Int×(List Int))=>([(0,lB x0),(2, .nl),(3,iL 0),(4,iL 0),(5, .vc 0),(6,iL s0.1)],[a0H (a0s .i32) 1 21 s0.2])) hy0 [0,2,3,4,5,6] (λs0 x91 hs0=>kS (kq (kBT 12 hs0 (λh2=> ?_) (λh3=> ?_)))))))
 refine kKN (kb 1 (kn 2 ?_))
 obtain⟨hm,h4⟩:=b0k h2
 exact RJ.rel (d:=(some 16)) (ef:=⟨.lst (((x0.length:Int):Int).toNat-(s0.1:Int).toNat) 1 (((x0.flatMap (a0s .u8)).take (((x0.length:Int):Int).toNat*1)).drop ((s0.1:Int).toNat*1)),[],[]⟩) (ef':=⟨.lst (cut x0 s0.1 (x0.length:Int)).length 1 ((cut x0 s0.1 (x0.length:Int)).flatMap (a0s .u8)),[],[]⟩) (c:=inS s0.1 (x0.length:Int) x0.length) (tr2:=[]) (H2:=[a0H (a0s .i32) 1 21 s0.2]) (by kernel_rfl) hm (λhc=>N.slice (a0r .u8) hc) (by kernel_rfl) (kAb 17 h4 (λ_=>p0R) (λy0 h5=>kr 5 (kS (kq (kBT 21 h5 (λh6=>kq (kX (PJ.passRet (PJ.blockRet (kLx h6 (λh8=>PJ.blockRet (kCx h8 h0 (λh9=>by obtain rfl:=oi h9;exact PJ.res (v1:= .tup [.nl,iL s0.1,iL 3]) (Le.tup (.cons (Le.nl _) (LeL.refl _))) (kZ D W V))))))))) (λh7=>kKN (kn 3 (kAp 26 0 2 1 21 [0,1] (a0s .i32) h7 (λh10=>kr 1 (kM (PJ.blockNormal (kLW h10 W V [2]))))))))))))
 exact kEp 0 (kLx h3 (λh11=>PJ.blockOut (kXo h11 [2,3,4,5])))
 exact kq (kX (by obtain rfl:=oi h1;exact PJ.wk (Wk.freeze 0 (n:=s1.length) (k:=1) (e:=21) (cs:=s1.flatMap (a0s .i32)) (by kernel_rfl)) (kZ D W V)))
def g0a:Option (Unit):=
 (some ())
theorem j0i {r:Unit} (h:g0a=some r):SQ 295 [] [] (.mp 0) [mQ 1 2 3 4]:=by
 refine kFn (fn:=Tryz.f295) (λF D W V=> ?_)
 unfold g0a at h
 exact kq (kq (kX (by obtain rfl:=oi h;exact kRV [0] (.inr rfl) D W V)))
def a0Q(x0 x1:Int)(x2:List Int)(x3 x4 x5 x6 x7 x8:Int):Option (Bool):=
 (Option.bind (bif(decide ((IntKind.wrap .i64 (x3+x1))<(x2.length:Int)))then(bif inR (IntKind.wrap .i64 (x3+x1)) x2.length then(some ((decide (((nth x2 (IntKind.wrap .i64 (x3+x1))))=x0))))else none)else(some false)) fun(s0:Bool)=>(some s0))
theorem b0w {x0 x1:Int} {x2:List Int} {x3 x4 x5 x6 x7 x8:Int} {r:Bool} (h:a0Q x0 x1 x2 x3 x4 x5 x6 x7 x8=some r):SQ 381 [.ptr 0 0,iM x0,iL x1] [.box [lR x2, .mp 1,iL x3,iL x4],mQ x5 x6 x7 x8] (.bool r) [.box [lR x2, .mp 1,iL x3,iL x4],mQ x5 x6 x7 x8]:=by
 refine kFn (fn:=Tryz.f381) (λF D W V=> ?_)
 unfold a0Q at h
 refine kq (kcN h (fun(s0:Bool)=>([(6, .bool s0)],[.box [lR x2, .mp 1,iL x3,iL x4],mQ x5 x6 x7 x8])) (λs0 hy0=> ?_) (λs0 h0=> ?_))
 refine kDr (kD 13 (kB 19 hy0 (λh1=> ?_) (λh2=> ?_)))
 refine kD 10 ?_
 obtain⟨hm,h3⟩:=b0k h1
 exact kJ 30 (tr2:=[([],[]),([],[]),([],[]),([0,1],[]),([],[]),([],[]),([],[]),([],[]),([],[]),([0,1],[]),([],[]),([],[]),([],[]),([],[]),([],[]),([],[]),([0,1],[]),([],[]),([],[]),([],[]),([0,1],[]),([],[]),([],[]),([],[])]) (a0r .i32) hm (kD 5 (kE (kNo h3 [6])))
 exact kD 16 (kE (kNo h2 [6]))
 exact kX (by obtain rfl:=oi h0;exact kRV [0,1] (.inr rfl) D W V)
def a0u(x0:Int)(x1:List Int)(x2 x3 x4 x5 x6 x7:Int):Option (Bool×Int):=
 (Option.bind (a0Q x0 0 x1 x2 x3 x4 x5 x6 x7) λy0=>(bif(!y0)then(some (false,x2))else(some (true,(IntKind.wrap .i64 (x2+1))))))
theorem a0z {x0:Int} {x1:List Int} {x2 x3 x4 x5 x6 x7:Int} {r:Bool×Int} (h:a0u x0 x1 x2 x3 x4 x5 x6 x7=some r):SQ 350 [.ptr 0 0,iM x0] [.box [lR x1, .mp 1,iL x2,iL x3],mQ x4 x5 x6 x7] (.bool r.1) [.box [lR x1, .mp 1,iL r.2,iL x3],mQ x4 x5 x6 x7]:=by
 refine kFn (fn:=Tryz.f350) (λF D W V=> ?_)
 unfold a0u at h
 refine kq (kS (kn 2 ?_))
 obtain⟨y0,hy0,h0⟩:=a0l h
 exact kCg (some 7) [0,1] (b0w hy0) (kr 1 (kBT 8 h0 (λh1=>kq (kX (PJ.passRet (by obtain rfl:=oi h1;exact kRV [0,1] (.inr rfl) D W V)))) (λh2=>kKN (kq (kq (kX (by obtain rfl:=oi h2;exact kRV [0,1] (.inr rfl) D W V)))))))
def a0G(x0:Int)(x1:List Int)(x2 x3 x4 x5 x6 x7:Int):Option (Unit):=
 (some ())
theorem a0D {x0:Int} {x1:List Int} {x2 x3 x4 x5 x6 x7:Int} {r:Unit} (h:a0G x0 x1 x2 x3 x4 x5 x6 x7=some r):SP Tryz.prog 352 [.ptr 0 0,iL x0] [.box [lR x1, .mp 1,iL x2,iL x3],mQ x4 x5 x6 x7] [.box [.undef, .mp 1,iL x2,iL x0],mQ x4 x5 x6 x7]:=by
 refine C0U (fn:=Tryz.f352) (λF D W V=> ?_)
 unfold a0G at h
 exact kq (kR (RJ.panic (d:=8) (by kernel_rfl) (by obtain rfl:=oi h;exact PP.wk (Wk.undefs 0 [true,false,false,false] (cs:=[lR x1, .mp 1,iL x2,iL x0]) (by kernel_rfl)) (kPV [0,1] W V)) (by rw[D];kernel_rfl)))
def b0R(x0:Int)(x1:List Int)(x2 x3 x4 x5 x6 x7:Int)(x8:Bool)(x9 x10 x11 x12 x13 x14 x15 x16 x17:Int)(x18:Bool)(x19 x20:Int):Option ((Int×Int×Int)⊕(Int×Int)):=
 (Option.bind (Option.bind (bif(decide (¬x20=0))then(some (true,x2))else(Option.bind (a0u 42 x1 x2 x3 x4 x5 x6 x7) λy0=>(some ((!y0.1),y0.2)))) fun(s1:Bool×Int)=>(bif s1.1 then(some (.inr (.inl (s1.2,x19,x20))))else(some (.inl s1.2)))) (a0m fun(s0:Int)=>(Option.bind (bif(decide (s0=(x1.length:Int)))then(Option.bind (a0G s0 x1 s0 x3 x4 x5 x6 x7) λy1=>(some (.inr (.inr (s0,s0)))))else(some (.inl ()))) (a0m fun(s2:Unit)=>(bif inR s0 x1.length then(some (.inl ((IntKind.wrap .i64 (s0+1)),(nth x1 s0),x0)))else none)))))
theorem f0I {x0:Int} {x1:List Int} {x2 x3 x4 x5 x6 x7:Int} {x8:Bool} {x9 x10 x11 x12 x13 x14 x15 x16 x17:Int} {x18:Bool} {x19 x20:Int} {r:(Int×Int×Int)⊕(Int×Int)} (h:b0R x0 x1 x2 x3 x4 x5 x6 x7 x8 x9 x10 x11 x12 x13 x14 x15 x16 x17 x18 x19 x20=some r):(∀a,r= .inl a->SQ 347 [.ptr 0 0, .ptr 2 0,iL x0] [.box [lR x1, .mp 1,iL x2,iL x3],mQ x4 x5 x6 x7, .box [.nl, .nl, .nl, .nl, .bool x8,iL x9,iL x10,iL x11,iL x12,iL x13,iL x14,iL x15,iL x16,iL x17, .bool x18,iM x19,iL x20]] (.tup []) [.box [lR x1, .mp 1,iL a.1,iL x3],mQ x4 x5 x6 x7, .box [.nl, .nl, .nl, .nl, .bool x8,iL x9,iL x10,iL x11,iL x12,iL x13,iL x14,iL x15,iL x16,iL x17, .bool x18,iM a.2.1,iL a.2.2]])/\(∀a,r= .inr a->SP Tryz.prog 347 [.ptr 0 0, .ptr 2 0,iL x0] [.box [lR x1, .mp 1,iL x2,iL x3],mQ x4 x5 x6 x7, .box [.nl, .nl, .nl, .nl, .bool x8,iL x9,iL x10,iL x11,iL x12,iL x13,iL x14,iL x15,iL x16,iL x17, .bool x18,iM x19,iL x20]] [.box [.undef, .mp 1,iL a.1,iL a.2],mQ x4 x5 x6 x7, .box [.undef, .undef, .undef, .undef, .bool x8,iL x9,iL x10,iL x11,iL x12,iL x13,iL x14,iL x15,iL x16,iL x17, .bool x18,iM x19,iL x20]]):=by
 refine w0a (fn:=Tryz.f347) _ _ _ (λF D W V=> ?_)
 unfold b0R at h
 refine kcX h (fun(s0:Int)=>([(0, .ptr 0 0),(1, .ptr 2 0),(2,iL x0)],[.box [lR x1, .mp 1,iL s0,iL x3],mQ x4 x5 x6 x7, .box [.nl, .nl, .nl, .nl, .bool x8,iL x9,iL x10,iL x11,iL x12,iL x13,iL x14,iL x15,iL x16,iL x17, .bool x18,iM x19,iL x20]])) (λy2 hy0 h0=> ?_) (λs0 h1=> ?_)
 refine kcN hy0 (fun(s1:Bool×Int)=>([(0, .ptr 0 0),(1, .ptr 2 0),(2,iL x0),(15, .bool s1.1)],[.box [lR x1, .mp 1,iL s1.2,iL x3],mQ x4 x5 x6 x7, .box [.nl, .nl, .nl, .nl, .bool x8,iL x9,iL x10,iL x11,iL x12,iL x13,iL x14,iL x15,iL x16,iL x17, .bool x18,iM x19,iL x20]])) (λs1 hy1=> ?_) (λs1 h2=> ?_)
 refine km 6 (kB 11 hy1 (λh3=> ?_) (λh4=> ?_))
 exact ke 4 (kNo h3 [0,1,2,15])
 refine kc 1 ?_
 obtain⟨y0,hy2,h5⟩:=a0l h4
 exact kCg (some 13) [0,1] (a0z hy2) (ke 2 (kNo h5 [0,1,2,15]))
 exact kBT 15 h2 (λh6=>kX (kCx h6 h0 (λh8=>by obtain rfl:=oi h8;exact kRV [0,1,2] (.inr rfl) D W V))) (λh7=>kK (kXo h7 [0,1,2]))
 refine kcX h1 (fun(s2:Unit)=>([(0, .ptr 0 0),(1, .ptr 2 0),(2,iL x0)],[.box [lR x1, .mp 1,iL s0,iL x3],mQ x4 x5 x6 x7, .box [.nl, .nl, .nl, .nl, .bool x8,iL x9,iL x10,iL x11,iL x12,iL x13,iL x14,iL x15,iL x16,iL x17, .bool x18,iM x19,iL x20]])) (λy3 hy3 h9=> ?_) (λs2 h10=> ?_)
 refine kS (kDr (kD 10 (kEN (kBT 25 hy3 (λh11=> ?_) (λh12=> ?_)))))
 refine km 5 ?_
 obtain⟨y1,hy4,h13⟩:=a0l h11
 refine kCP (some 31) [0,1] (a0D hy4) ?_
 obtain rfl:=oi h13
 have h14:=b0S h9
 exact PP.cutXr (by obtain rfl:=oi h14;exact PP.wk (Wk.undefs 2 [true,true,true,true,false,false,false,false,false,false,false,false,false,false,false,false,false] (cs:=[.nl, .nl, .nl, .nl, .bool x8,iL x9,iL x10,iL x11,iL x12,iL x13,iL x14,iL x15,iL x16,iL x17, .bool x18,iM x19,iL x20]) (by kernel_rfl)) (kPV [0,1,2] W V))
 exact kK (kXo h12 [0,1,2])
 refine kS (kDr (kD 10 ?_))
 obtain⟨hm,h15⟩:=b0k h10
 exact kJ 42 (tr2:=[([],[]),([],[]),([],[]),([],[]),([],[]),([0,1],[]),([],[]),([],[]),([],[]),([0,1],[]),([],[])]) (a0r .i32) hm (kD 8 (kEN (kM (by obtain rfl:=oi h15;exact kRV [0,1,2] (.inl rfl) D W V))))
theorem i0K {x0:Int} {x1:List Int} {x2 x3 x4 x5 x6 x7:Int} {x8:Bool} {x9 x10 x11 x12 x13 x14 x15 x16 x17:Int} {x18:Bool} {x19 x20:Int} {r:Int×Int×Int} (h:b0R x0 x1 x2 x3 x4 x5 x6 x7 x8 x9 x10 x11 x12 x13 x14 x15 x16 x17 x18 x19 x20=some (.inl r)):SQ 347 [.ptr 0 0, .ptr 2 0,iL x0] [.box [lR x1, .mp 1,iL x2,iL x3],mQ x4 x5 x6 x7, .box [.nl, .nl, .nl, .nl, .bool x8,iL x9,iL x10,iL x11,iL x12,iL x13,iL x14,iL x15,iL x16,iL x17, .bool x18,iM x19,iL x20]] (.tup []) [.box [lR x1, .mp 1,iL r.1,iL x3],mQ x4 x5 x6 x7, .box [.nl, .nl, .nl, .nl, .bool x8,iL x9,iL x10,iL x11,iL x12,iL x13,iL x14,iL x15,iL x16,iL x17, .bool x18,iM r.2.1,iL r.2.2]]:=(f0I h).1 _ rfl
theorem i0J {x0:Int} {x1:List Int} {x2 x3 x4 x5 x6 x7:Int} {x8:Bool} {x9 x10 x11 x12 x13 x14 x15 x16 x17:Int} {x18:Bool} {x19 x20:Int} {r:Int×Int} (h:b0R x0 x1 x2 x3 x4 x5 x6 x7 x8 x9 x10 x11 x12 x13 x14 x15 x16 x17 x18 x19 x20=some (.inr r)):SP Tryz.prog 347 [.ptr 0 0, .ptr 2 0,iL x0] [.box [lR x1, .mp 1,iL x2,iL x3],mQ x4 x5 x6 x7, .box [.nl, .nl, .nl, .nl, .bool x8,iL x9,iL x10,iL x11,iL x12,iL x13,iL x14,iL x15,iL x16,iL x17, .bool x18,iM x19,iL x20]] [.box [.undef, .mp 1,iL r.1,iL r.2],mQ x4 x5 x6 x7, .box [.undef, .undef, .undef, .undef, .bool x8,iL x9,iL x10,iL x11,iL x12,iL x13,iL x14,iL x15,iL x16,iL x17, .bool x18,iM x19,iL x20]]:=(f0I h).2 _ rfl
def b0Y(x0:List Int)(x1 x2 x3 x4 x5 x6:Int):Option (Bool×Int):=
 (Option.bind (Option.bind (Option.bind (a0Q 39 0 x0 x1 x2 x3 x4 x5 x6) λy0=>(bif(!y0)then(some true)else(Option.bind (a0Q 39 1 x0 x1 x2 x3 x4 x5 x6) λy1=>(some (!y1))))) fun(s0:Bool)=>(bif s0 then(some (.inr (false,x1)))else(some (.inl ())))) (a0m fun(s1:Unit)=>(some (true,(IntKind.wrap .i64 (x1+2))))))
theorem f0f {x0:List Int} {x1 x2 x3 x4 x5 x6:Int} {r:Bool×Int} (h:b0Y x0 x1 x2 x3 x4 x5 x6=some r):SQ 406 [.ptr 0 0] [.box [lR x0, .mp 1,iL x1,iL x2],mQ x3 x4 x5 x6] (.bool r.1) [.box [lR x0, .mp 1,iL r.2,iL x2],mQ x3 x4 x5 x6]:=by
 refine kFn (fn:=Tryz.f406) (λF D W V=> ?_)
 unfold b0Y at h
 refine kq (kcX h (fun(s1:Unit)=>([(0, .ptr 0 0),(2, .bool false)],[.box [lR x0, .mp 1,iL x1,iL x2],mQ x3 x4 x5 x6])) (λy2 hy0 h0=> ?_) (λs1 h1=> ?_))
 refine kcN hy0 (fun(s0:Bool)=>([(0, .ptr 0 0),(2, .bool false),(10, .bool s0)],[.box [lR x0, .mp 1,iL x1,iL x2],mQ x3 x4 x5 x6])) (λs0 hy1=> ?_) (λs0 h2=> ?_)
 refine km 1 ?_
 obtain⟨y0,hy2,h3⟩:=a0l hy1
 refine kCg (some 4) [0,1] (b0w hy2) (kc 2 (kB 6 h3 (λh4=> ?_) (λh5=> ?_)))
 exact ke 4 (kNo h4 [0,2,10])
 refine kc 1 ?_
 obtain⟨y1,hy3,h6⟩:=a0l h5
 exact kCg (some 8) [0,1] (b0w hy3) (ke 2 (kNo h6 [0,2,10]))
 exact kBT 10 h2 (λh7=>kq (kX (kCx h7 h0 (λh9=>by obtain rfl:=oi h9;exact kRV [0,1] (.inr rfl) D W V)))) (λh8=>kK (kXo h8 [0,2]))
 exact kq (kq (kX (by obtain rfl:=oi h1;exact kRV [0,1] (.inr rfl) D W V)))
def b0l(x0:List Int)(x1 x2 x3 x4 x5 x6:Int)(x7:List a0c):Option ((Int×(List a0c))⊕Int):=
 (Option.bind (b0Y x0 x1 x2 x3 x4 x5 x6) λy1=>(bif y1.1 then(bif room (x7.length+([(⟨0,39⟩:a0c)]:List a0c).length)then(some (.inl (y1.2,(x7++([(⟨0,39⟩:a0c)]:List a0c)))))else none)else(Option.bind (a0x (fun(s0:Int×(List a0c))=>(bif(decide (s0.1<(x0.length:Int)))then(Option.bind (b0Y x0 s0.1 x2 x3 x4 x5 x6) λy2=>(bif y2.1 then(bif room (s0.2.length+([(⟨0,39⟩:a0c)]:List a0c).length)then(some (.inl (y2.2,(s0.2++([(⟨0,39⟩:a0c)]:List a0c)))))else none)else(Option.bind (a0u 39 x0 y2.2 x2 x3 x4 x5 x6) λy0=>(bif y0.1 then(some (.inr (.inr (.inl (y0.2,s0.2)))))else(bif inR y0.2 x0.length then(bif room (s0.2.length+(([(⟨0,(nth x0 y0.2)⟩:a0c)]:List a0c)).length)then(some (.inl ((IntKind.wrap .i64 (y0.2+1)),(s0.2++(([(⟨0,(nth x0 y0.2)⟩:a0c)]:List a0c))))))else none)else none)))))else(some (.inr (.inl s0.1))))) big ((IntKind.wrap .i64 (y1.2+1)),x7)) (a0m fun(s1:Int)=>(Option.bind (a0G x1 x0 s1 x2 x3 x4 x5 x6) λy3=>(some (.inr s1)))))))
theorem e0w {x0:List Int} {x1 x2 x3 x4 x5 x6:Int} {x7:List a0c} {r:(Int×(List a0c))⊕Int} (h:b0l x0 x1 x2 x3 x4 x5 x6 x7=some r):(∀a,r= .inl a->SQ 382 [.ptr 0 0, .vc 2] [.box [lR x0, .mp 1,iL x1,iL x2],mQ x3 x4 x5 x6,a0H a0a 2 225 x7] (.vc 3) [.box [lR x0, .mp 1,iL a.1,iL x2],mQ x3 x4 x5 x6, .gone,a0H a0a 2 225 a.2])/\(∀a,r= .inr a->SP Tryz.prog 382 [.ptr 0 0, .vc 2] [.box [lR x0, .mp 1,iL x1,iL x2],mQ x3 x4 x5 x6,a0H a0a 2 225 x7] [.box [.undef, .mp 1,iL a,iL x1],mQ x3 x4 x5 x6, .gone]):=by
 refine w0a (fn:=Tryz.f382) _ _ _ (λF D W V=> ?_)
 unfold b0l at h
 refine J.wk (Wk.move 2 (n:=x7.length) (k:=2) (e:=225) (cs:=x7.flatMap a0a) (by kernel_rfl)) (kq (kq (kS (kn 1 ?_))))
 obtain⟨y1,hy0,h0⟩:=a0l h
 refine kCg (some 11) [0,1] (f0f hy0) (kEN (kBT 11 h0 (λh1=> ?_) (λh2=> ?_)))
 exact kn 3 (kAp 15 3 5 2 225 [3,4] a0a h1 (λh3=>kr 1 (kX (PJ.passRet (by obtain rfl:=oi h3;exact kRV [0,1,2,5] (.inr rfl) D W V)))))
 ·refine kKN (kq (kcX h2 (fun(s1:Int)=>([(0, .ptr 0 0),(4, .nl),(5,iL x1)],[.box [lR x0, .mp 1,iL s1,iL x2],mQ x3 x4 x5 x6, .gone])) (λy4 hy1 h4=> ?_) (λs1 h5=> ?_)))
  refine kb 0 (kl (fun(s0:Int×(List a0c))=>([(0, .ptr 0 0),(1, .vc 3),(4, .nl),(5,iL x1)],[.box [lR x0, .mp 1,iL s0.1,iL x2],mQ x3 x4 x5 x6, .gone,a0H a0a 2 225 s0.2])) hy1 [0,1,4,5] (λs0 x133 hs0=>kS (kS (kDr (kD 10 (kEN (kBT 32 hs0 (λh6=> ?_) (λh7=> ?_))))))))
  refine kKN (kb 1 (kb 2 (kn 1 ?_)))
  obtain⟨y2,hy2,h8⟩:=a0l h6
  refine kCg (some 56) [0,1] (f0f hy2) (kr 1 (kBT 54 h8 (λh9=> ?_) (λh10=> ?_)))
  exact km 3 (kAp 60 3 5 2 225 [3,4] a0a h9 (λh11=>ke 1 (PJ.blockNormal (PJ.blockNormal (kLW h11 W V [0,1,2,5])))))
  refine kn 1 ?_
  obtain⟨y0,hy3,h12⟩:=a0l h10
  refine kCg (some 63) [0,1] (a0z hy3) (kr 1 (kBT 61 h12 (λh13=> ?_) (λh14=> ?_)))
  exact kq (kXb (PJ.blockRet (kLx h13 (λh15=>PJ.blockRet (kCx h15 h4 (λh16=>by obtain rfl:=oi h16;exact kRV [0,1,2,3] (.inr rfl) D W V))))))
  refine kS (kDr (kD 9 ?_))
  obtain⟨hm,h17⟩:=b0k h14
  refine kJ 42 (tr2:=[([],[]),([],[]),([],[]),([],[]),([0,1],[]),([],[]),([],[]),([],[]),([0,1],[]),([],[])]) (a0r .i32) hm (kD 3 ?_)
  obtain⟨hm,h18⟩:=b0k h17
  exact RJ.rel (d:=(some 46)) (ef:=⟨.vc 5,[3,4],[(3, .gone),(5, .vec (s0.2.length+(([(⟨0,(nth x0 y0.2)⟩:a0c)]:List a0c)).length) 2 225 (s0.2.flatMap a0a++(([(⟨0,(nth x0 y0.2)⟩:a0c)]:List a0c)).flatMap a0a))]⟩) (ef':=⟨.vc 5,[3,4],[(3, .gone),(5,a0H a0a 2 225 (s0.2++(([(⟨0,(nth x0 y0.2)⟩:a0c)]:List a0c))))]⟩) (c:=room (s0.2.length+(([(⟨0,(nth x0 y0.2)⟩:a0c)]:List a0c)).length)) (tr2:=[([],[]),([],[]),([],[]),([],[]),([0,1],[]),([],[]),([],[]),([],[]),([0,1],[]),([],[]),([],[]),([],[]),([],[8,9,8,9]),([6,7,8,9],[6,7,10,11,10,11])]) (H2:=[.box [lR x0, .mp 1,iL y0.2,iL x2],mQ x3 x4 x5 x6, .gone, .gone,a0H a0a 2 225 (([(⟨0,(nth x0 y0.2)⟩:a0c)]:List a0c)),a0H a0a 2 225 ((s0.2++(([(⟨0,(nth x0 y0.2)⟩:a0c)]:List a0c))))]) (by kernel_rfl) hm (λhc=>N.app) (by kernel_rfl) (kD 1 (kEN (kM (PJ.blockNormal (PJ.blockNormal (kLW h18 W V [0,1,2,5]))))))
  exact kEp 0 (kLx h7 (λh19=>PJ.blockOut (kXW h19 W V [0,1,2])))
  ·refine kn 2 ?_
   obtain⟨y3,hy4,h20⟩:=a0l h5
   exact kCP (some 67) [0,1] (a0D hy4) (PP.next (by obtain rfl:=oi h20;exact kPV [0,1,2] W V))
theorem h0y {x0:List Int} {x1 x2 x3 x4 x5 x6:Int} {x7:List a0c} {r:Int×(List a0c)} (h:b0l x0 x1 x2 x3 x4 x5 x6 x7=some (.inl r)):SQ 382 [.ptr 0 0, .vc 2] [.box [lR x0, .mp 1,iL x1,iL x2],mQ x3 x4 x5 x6,a0H a0a 2 225 x7] (.vc 3) [.box [lR x0, .mp 1,iL r.1,iL x2],mQ x3 x4 x5 x6, .gone,a0H a0a 2 225 r.2]:=(e0w h).1 _ rfl
theorem h0x {x0:List Int} {x1 x2 x3 x4 x5 x6:Int} {x7:List a0c} {r:Int} (h:b0l x0 x1 x2 x3 x4 x5 x6 x7=some (.inr r)):SP Tryz.prog 382 [.ptr 0 0, .vc 2] [.box [lR x0, .mp 1,iL x1,iL x2],mQ x3 x4 x5 x6,a0H a0a 2 225 x7] [.box [.undef, .mp 1,iL r,iL x1],mQ x3 x4 x5 x6, .gone]:=(e0w h).2 _ rfl
def e0G(x0:Int):Option (Bool):=
 (Option.bind (Option.bind (bif(decide (x0=35))then(some true)else(bif(decide (x0=64))then(some true)else(bif(decide (x0=44))then(some true)else(bif(decide (x0=46))then(some true)else(bif(decide (x0=59))then(some true)else(bif(decide (x0=42))then(some true)else(bif(decide (x0=37))then(some true)else(bif(decide (x0=45))then(some true)else(bif(decide (x0=43))then(some true)else(bif(decide (x0=39))then(some true)else(bif(decide (x0=69))then(some true)else(some (decide (x0=164)))))))))))))) fun(s0:Bool)=>(bif s0 then(some (.inr true))else(some (.inl ())))) (a0m fun(s2:Unit)=>(Option.bind (bif(decide (x0≥48))then(some (decide (x0<=57)))else(some false)) fun(s1:Bool)=>(some s1))))
theorem h0w {x0:Int} {r:Bool} (h:e0G x0=some r):SQ 383 [iM x0] [] (.bool r) []:=by
 refine kFn (fn:=Tryz.f383) (λF D W V=> ?_)
 unfold e0G at h
 exact kq (kcX h (fun(s2:Unit)=>([(0,iM x0),(2, .bool false)],[])) (λy0 hy0 h0=>kq (kb 0 (kcN hy0 (fun(s0:Bool)=>([(0,iM x0),(2, .bool false),(4, .bool s0)],[])) (λs0 hy1=>kq (kBT 4 hy1 (λh3=>kK (kNo h3 [0,2,4])) (λh4=>kq (kBT 4 h4 (λh5=>kK (kNo h5 [0,2,4])) (λh6=>kq (kBT 4 h6 (λh7=>kK (kNo h7 [0,2,4])) (λh8=>kq (kBT 4 h8 (λh9=>kK (kNo h9 [0,2,4])) (λh10=>kq (kBT 4 h10 (λh11=>kK (kNo h11 [0,2,4])) (λh12=>kq (kBT 4 h12 (λh13=>kK (kNo h13 [0,2,4])) (λh14=>kq (kBT 4 h14 (λh15=>kK (kNo h15 [0,2,4])) (λh16=>kq (kBT 4 h16 (λh17=>kK (kNo h17 [0,2,4])) (λh18=>kq (kBT 4 h18 (λh19=>kK (kNo h19 [0,2,4])) (λh20=>kq (kBT 4 h20 (λh21=>kK (kNo h21 [0,2,4])) (λh22=>kq (kBT 4 h22 (λh23=>kK (kNo h23 [0,2,4])) (λh24=>kM (kNo h24 [0,2,4])))))))))))))))))))))))) (λs0 h2=>kBT 4 h2 (λh25=>kq (kXb (kCx h25 h0 (λh27=>by obtain rfl:=oi h27;exact kZ D W V)))) (λh26=>kKb (kXo h26 [0,2])))))) (λs2 h1=>kcN h1 (fun(s1:Bool)=>([(2, .bool s1)],[])) (λs1 hy2=>km 3 (kB 19 hy2 (λh29=>ke 4 (kNo h29 [2])) (λh30=>ke 4 (kNo h30 [2])))) (λs1 h28=>kX (by cases h28;exact kZ D W V))))
def a0L(x0:List Int)(x1 x2 x3 x4 x5 x6:Int):Option ((List a0c)×Int⊕(Int×Int)):=
 (Option.bind (a0x (fun(s0:Int×(List a0c))=>(bif(decide (s0.1<(x0.length:Int)))then(bif inR s0.1 x0.length then(bif(decide ((nth x0 s0.1)=45))then(Option.bind (bif room (s0.2.length+([(⟨x3,0⟩:a0c)]:List a0c).length)then(some ())else none) fun(s2:Unit)=>(some (.inl ((IntKind.wrap .i64 (s0.1+1)),(s0.2++([(⟨x3,0⟩:a0c)]:List a0c))))))else(bif(decide ((nth x0 s0.1)=43))then(Option.bind (bif room (s0.2.length+([(⟨x4,0⟩:a0c)]:List a0c).length)then(some ())else none) fun(s3:Unit)=>(some (.inl ((IntKind.wrap .i64 (s0.1+1)),(s0.2++([(⟨x4,0⟩:a0c)]:List a0c))))))else(bif(decide ((nth x0 s0.1)=37))then(Option.bind (bif room (s0.2.length+([(⟨x5,0⟩:a0c)]:List a0c).length)then(some ())else none) fun(s4:Unit)=>(some (.inl ((IntKind.wrap .i64 (s0.1+1)),(s0.2++([(⟨x5,0⟩:a0c)]:List a0c))))))else(bif(decide ((nth x0 s0.1)=164))then(Option.bind (bif room (s0.2.length+([(⟨x6,0⟩:a0c)]:List a0c).length)then(some ())else none) fun(s5:Unit)=>(some (.inl ((IntKind.wrap .i64 (s0.1+1)),(s0.2++([(⟨x6,0⟩:a0c)]:List a0c))))))else(Option.bind (Option.bind (a0Q 39 0 x0 s0.1 x2 x3 x4 x5 x6) λy2=>(bif y2 then(Option.bind (b0l x0 s0.1 x2 x3 x4 x5 x6 s0.2) λy0=>(Sum.elim (λy1=>(some (.inr (.inl (y1.1,y1.2))))) (λy3=>(some (.inr (.inr (.inr (.inr (y3,s0.1))))))) y0))else(Option.bind (e0G (nth x0 s0.1)) λy4=>(bif y4 then(some (.inr (.inr (.inr (.inl (s0.2,s0.1))))))else(bif room (s0.2.length+(([(⟨0,(nth x0 s0.1)⟩:a0c)]:List a0c)).length)then(some (.inl ()))else none))))) (a0m fun(s6:Unit)=>(some (.inl ((IntKind.wrap .i64 (s0.1+1)),(s0.2++(([(⟨0,(nth x0 s0.1)⟩:a0c)]:List a0c))))))))))))else none)else(some (.inr (.inl (s0.1,s0.2)))))) big (x1,([]:List a0c))) (a0m fun(s1:Int×(List a0c))=>(some (.inl (s1.2,s1.1)))))
theorem e0S {x0:List Int} {x1 x2 x3 x4 x5 x6:Int} {r:(List a0c)×Int⊕(Int×Int)} (h:a0L x0 x1 x2 x3 x4 x5 x6=some r):(∀a,r= .inl a->SQ 348 [.ptr 0 0] [.box [lR x0, .mp 1,iL x1,iL x2],mQ x3 x4 x5 x6] (lsv a0a 2 a.1) [.box [lR x0, .mp 1,iL a.2,iL x2],mQ x3 x4 x5 x6])/\(∀a,r= .inr a->SP Tryz.prog 348 [.ptr 0 0] [.box [lR x0, .mp 1,iL x1,iL x2],mQ x3 x4 x5 x6] [.box [.undef, .mp 1,iL a.1,iL a.2],mQ x3 x4 x5 x6]):=by
 refine w0a (fn:=Tryz.f348) _ _ _ (λF D W V=> ?_)
 unfold a0L at h
 refine kq (kq (kcX h (fun(s1:Int×(List a0c))=>([(2, .nl),(3, .vc 2)],[.box [lR x0, .mp 1,iL s1.1,iL x2],mQ x3 x4 x5 x6,a0H a0a 2 225 s1.2])) (λy5 hy1 h1=> ?_) (λs1 h7=> ?_)))
 ·refine kb 0 (J.wk (Wk.viv 3 2 225 (by kernel_rfl)) (kl (fun(s0:Int×(List a0c))=>([(0, .ptr 0 0),(2, .nl),(3, .vc 2)],[.box [lR x0, .mp 1,iL s0.1,iL x2],mQ x3 x4 x5 x6,a0H a0a 2 225 s0.2])) hy1 [0,2,3] (λs0 x586 hs0=>kS (kS (kDr (kD 10 (kEN (kBT 16 hs0 (λh8=> ?_) (λh9=> ?_)))))))))
  ·refine kKN (kb 1 (kS (kDr (kD 8 ?_))))
   obtain⟨hm,h2⟩:=b0k h8
   refine kJ 25 (tr2:=[([],[]),([],[]),([],[]),([0,1],[]),([],[]),([],[]),([],[]),([0,1],[]),([],[])]) (a0r .i32) hm (kD 2 (kEN (kn 5 ?_)))
   cases hb0:(decide ((nth x0 s0.1)=45))
   ·have h3:=condF hb0 h2
    have hn594:=of_decide_eq_false hb0
    cases hb1:(decide ((nth x0 s0.1)=43))
    ·have h4:=condF hb1 h3
     have hn605:=of_decide_eq_false hb1
     cases hb2:(decide ((nth x0 s0.1)=37))
     ·have h5:=condF hb2 h4
      have hn616:=of_decide_eq_false hb2
      cases hb3:(decide ((nth x0 s0.1)=164))
      ·have h10:=condF hb3 h5
       have hn627:=of_decide_eq_false hb3
       refine RJ.look (none) (d:=some 33) (ef:=⟨.tup [iL 0, .bool false],[1],[]⟩) (c:=k0i (iM (nth x0 s0.1)) [(iM 45,iL x3),(iM 43,iL x4),(iM 37,iL x5),(iM 164,iL x6)]) (tr2:=[]) (by kernel_rfl) (by simp[n0K,k0i,k0H,e0F,hn594,hn605,hn616,hn627]) (kr 5 (kcX h10 (fun(s6:Unit)=>([(0, .ptr 0 0),(2, .nl),(3, .vc 2)],[.box [lR x0, .mp 1,iL s0.1,iL x2],mQ x3 x4 x5 x6,a0H a0a 2 225 ((s0.2++(([(⟨0,(nth x0 s0.1)⟩:a0c)]:List a0c))))])) (λy6 hy2 h0=> ?_) (λs6 h11=> ?_)))
       ·refine kb 2 (kq (kF (kn 1 ?_)))
        obtain⟨y2,hy3,h12⟩:=a0l hy2
        refine kCg (some 50) [0,1] (b0w hy3) (kr 1 (kBT 48 h12 (λh13=> ?_) (λh14=> ?_)))
        ·refine kn 2 ?_
         obtain⟨y0,hy0,h6⟩:=a0l h13
         rcases y0 with y1|y3
         have h15:=k0T h6
         exact kCg (some 53) [0,1,2] (h0y hy0) (kr 1 (kEx 1 (PJ.blockPass (by kernel_rfl) (kCx h15 h0 (λh16=>PJ.blockOut (kLW h16 W V [0,1,3]))))))
         ·have h17:=k0S h6
          refine kCP (some 53) [0,1,2] (h0x hy0) (PP.next (PP.block ?_))
          obtain rfl:=oi h17
          have h18:=b0S h0
          refine PP.cutXr (PP.block ?_)
          obtain rfl:=oi h18
          refine PP.loopOut (λhe0=> ?_)
          have h19:=congrArg some he0
          refine PP.block ?_
          obtain rfl:=oi h19
          have h20:=b0S h1
          exact PP.cutXr (by obtain rfl:=oi h20;exact kPV [0,1] W V)
        exact kn 1 (kAb 56 h14 (λ_=>h0w) (λy4 h21=>kr 1 (kBT 54 h21 (λh22=>kq (kXb (kCx h22 h0 (λh24=>PJ.blockRet (kLx h24 (λh25=>PJ.blockRet (kCx h25 h1 (λh26=>by obtain rfl:=oi h26;exact PJ.wk (Wk.freeze 2 (n:=s0.2.length) (k:=2) (e:=225) (cs:=s0.2.flatMap a0a) (by kernel_rfl)) (kRV [0,1] (.inr rfl) D W V))))))))) (λh23=>km 4 (kAp 40 2 4 2 225 [2,3] a0a h23 (λh27=>ke 1 (PJ.blockNormal (kXW h27 W V [0,1,4]))))))))
       exact kM (PJ.blockNormal (kLo h11 [0,2,3]))
      have h28:=condT hb3 h5
      have hn627:=of_decide_eq_true hb3
      exact RJ.look (some 3) (d:=some 33) (ef:=⟨.tup [iL x6, .bool true],[1],[]⟩) (c:=n0K (iM (nth x0 s0.1)) [(iM 45,iL x3),(iM 43,iL x4),(iM 37,iL x5),(iM 164,iL x6)] 3) (tr2:=[]) (by kernel_rfl) (by simp[n0K,k0i,k0H,e0F,hn594,hn605,hn616,hn627]) (kr 5 (kcN h28 (fun(s5:Unit)=>([(0, .ptr 0 0),(2, .nl),(3, .vc 2)],[.box [lR x0, .mp 1,iL s0.1,iL x2],mQ x3 x4 x5 x6,a0H a0a 2 225 ((s0.2++([(⟨x6,0⟩:a0c)]:List a0c)))])) (λs5 hy4=>kb 2 (kq (kT (km 4 (kAp 47 2 4 2 225 [2,3] a0a hy4 (λh30=>ke 1 (PJ.blockNormal (kNW h30 W V [0,1,4])))))))) (λs5 h29=>kM (PJ.blockNormal (kLo h29 [0,2,3])))))
     have h31:=condT hb2 h4
     have hn616:=of_decide_eq_true hb2
     exact RJ.look (some 2) (d:=some 33) (ef:=⟨.tup [iL x5, .bool true],[1],[]⟩) (c:=n0K (iM (nth x0 s0.1)) [(iM 45,iL x3),(iM 43,iL x4),(iM 37,iL x5),(iM 164,iL x6)] 2) (tr2:=[]) (by kernel_rfl) (by simp[n0K,k0i,k0H,e0F,hn594,hn605,hn616]) (kr 5 (kcN h31 (fun(s4:Unit)=>([(0, .ptr 0 0),(2, .nl),(3, .vc 2)],[.box [lR x0, .mp 1,iL s0.1,iL x2],mQ x3 x4 x5 x6,a0H a0a 2 225 ((s0.2++([(⟨x5,0⟩:a0c)]:List a0c)))])) (λs4 hy5=>kb 2 (kq (kT (km 4 (kAp 47 2 4 2 225 [2,3] a0a hy5 (λh33=>ke 1 (PJ.blockNormal (kNW h33 W V [0,1,4])))))))) (λs4 h32=>kM (PJ.blockNormal (kLo h32 [0,2,3])))))
    have h34:=condT hb1 h3
    have hn605:=of_decide_eq_true hb1
    exact RJ.look (some 1) (d:=some 33) (ef:=⟨.tup [iL x4, .bool true],[1],[]⟩) (c:=n0K (iM (nth x0 s0.1)) [(iM 45,iL x3),(iM 43,iL x4),(iM 37,iL x5),(iM 164,iL x6)] 1) (tr2:=[]) (by kernel_rfl) (by simp[n0K,k0i,k0H,e0F,hn594,hn605]) (kr 5 (kcN h34 (fun(s3:Unit)=>([(0, .ptr 0 0),(2, .nl),(3, .vc 2)],[.box [lR x0, .mp 1,iL s0.1,iL x2],mQ x3 x4 x5 x6,a0H a0a 2 225 ((s0.2++([(⟨x4,0⟩:a0c)]:List a0c)))])) (λs3 hy6=>kb 2 (kq (kT (km 4 (kAp 47 2 4 2 225 [2,3] a0a hy6 (λh36=>ke 1 (PJ.blockNormal (kNW h36 W V [0,1,4])))))))) (λs3 h35=>kM (PJ.blockNormal (kLo h35 [0,2,3])))))
   have h37:=condT hb0 h2
   have hn594:=of_decide_eq_true hb0
   exact RJ.look (some 0) (d:=some 33) (ef:=⟨.tup [iL x3, .bool true],[1],[]⟩) (c:=n0K (iM (nth x0 s0.1)) [(iM 45,iL x3),(iM 43,iL x4),(iM 37,iL x5),(iM 164,iL x6)] 0) (tr2:=[]) (by kernel_rfl) (by simp[n0K,k0i,k0H,e0F,hn594]) (kr 5 (kcN h37 (fun(s2:Unit)=>([(0, .ptr 0 0),(2, .nl),(3, .vc 2)],[.box [lR x0, .mp 1,iL s0.1,iL x2],mQ x3 x4 x5 x6,a0H a0a 2 225 ((s0.2++([(⟨x3,0⟩:a0c)]:List a0c)))])) (λs2 hy7=>kb 2 (kq (kT (km 4 (kAp 47 2 4 2 225 [2,3] a0a hy7 (λh39=>ke 1 (PJ.blockNormal (kNW h39 W V [0,1,4])))))))) (λs2 h38=>kM (PJ.blockNormal (kLo h38 [0,2,3])))))
  exact kEp 0 (kLx h9 (λh40=>PJ.blockOut (kXo h40 [2,3])))
 exact kq (kX (by obtain rfl:=oi h7;exact PJ.wk (Wk.freeze 2 (n:=s1.2.length) (k:=2) (e:=225) (cs:=s1.2.flatMap a0a) (by kernel_rfl)) (kRV [0,1] (.inr rfl) D W V)))
theorem c0w {x0:List Int} {x1 x2 x3 x4 x5 x6:Int} {r:(List a0c)×Int} (h:a0L x0 x1 x2 x3 x4 x5 x6=some (.inl r)):SQ 348 [.ptr 0 0] [.box [lR x0, .mp 1,iL x1,iL x2],mQ x3 x4 x5 x6] (lsv a0a 2 r.1) [.box [lR x0, .mp 1,iL r.2,iL x2],mQ x3 x4 x5 x6]:=(e0S h).1 _ rfl
theorem c0v {x0:List Int} {x1 x2 x3 x4 x5 x6:Int} {r:Int×Int} (h:a0L x0 x1 x2 x3 x4 x5 x6=some (.inr r)):SP Tryz.prog 348 [.ptr 0 0] [.box [lR x0, .mp 1,iL x1,iL x2],mQ x3 x4 x5 x6] [.box [.undef, .mp 1,iL r.1,iL r.2],mQ x3 x4 x5 x6]:=(e0S h).2 _ rfl
end Go.Proofs.YthodkmamingnhaaGreatDoor
