/-
  What the functions of this program come to, as functions of natives, each with the proof that it does. No conditions.
-/
import Derived.Test.YtcapcgbamehojaaGreatDoorProg
import Derived.Test.YtcapcgbamehojaaGreatDoorSySL
import Derived.Test.YtcapcgbamehojaaGreatDoorGb
namespace Go.Proofs.YtcapcgbamehojaaGreatDoor
open Go Go.Sy Go.RowKit
set_option linter.unusedVariables false
set_option linter.unusedSimpArgs false
set_option maxRecDepth 100000
set_option maxHeartbeats 4000000
def o0g(x0 x1:b0z):Option (Bool):=
 (Option.bind (a0s (fun(s1:Int)=>(bif(decide (s1<3))then(Option.bind (a0s (fun(s0:Int)=>(bif(decide (s0<3))then(Option.bind (Option.bind (Option.bind (bif(decide ((B0f s1 s0)=0))then(some ((decide ((t0q s1 s0)=2))))else(some false)) fun(s2:Bool)=>(bif s2 then(some (.inr ()))else(some (.inl ())))) (a0g fun(s8:Unit)=>(Option.bind (bif(decide (¬x0.ab_=x1.ab_))then(some true)else(some (((decide (s1=1)) !=(decide (s0=1)))))) fun(s3:Bool)=>(Option.bind (bif s3 then(bif(decide (s1=0))then(bif(decide (s0=0))then(Option.bind (b0Y x0.H_.s_ x1.H_.s_) fun y0=>(some y0))else(bif(decide (s0=1))then(Option.bind (b0Y x0.H_.s_ x1.H_.q_) fun y1=>(some y1))else(bif(decide (s0=2))then(Option.bind (b0Y x0.H_.s_ x1.H_.A_) fun y2=>(some y2))else none)))else(bif(decide (s1=1))then(bif(decide (s0=0))then(Option.bind (b0Y x0.H_.q_ x1.H_.s_) fun y3=>(some y3))else(bif(decide (s0=1))then(Option.bind (b0Y x0.H_.q_ x1.H_.q_) fun y4=>(some y4))else(bif(decide (s0=2))then(Option.bind (b0Y x0.H_.q_ x1.H_.A_) fun y5=>(some y5))else none)))else(bif(decide (s1=2))then(bif(decide (s0=0))then(Option.bind (b0Y x0.H_.A_ x1.H_.s_) fun y6=>(some y6))else(bif(decide (s0=1))then(Option.bind (b0Y x0.H_.A_ x1.H_.q_) fun y7=>(some y7))else(bif(decide (s0=2))then(Option.bind (b0Y x0.H_.A_ x1.H_.A_) fun y8=>(some y8))else none)))else none)))else(some false)) fun(s4:Bool)=>(bif s4 then none else(some ())))))) fun(s5:Unit)=>(some (.inl (IntKind.wrap .i64 (s0+1)))))else(some (.inr ())))) big 0) fun(s6:Unit)=>(some (.inl (IntKind.wrap .i64 (s1+1)))))else(some (.inr ())))) big 0) fun(s7:Unit)=>(some false))
theorem r0h {x0 x1:b0z} {r:Bool} (h:o0g x0 x1=some r):SQ 104 [.agg (b0i x0), .agg (b0i x1)] [] (.bool r) []:=by
 refine kFn (fn:=Tryz.f104) (fun F H D W=> ?_)
 unfold o0g at h
 refine kq (kcN h (fun(s7:Unit)=>([(4, .bool false)],[])) (fun s7 hy0=> ?_) (fun s7 h12=> ?_))
 ·refine kq (kb 0 (kl (fun(s1:Int)=>([(2, .ptr 0 0),(3, .ptr 1 0),(4, .bool false),(8,iL s1)],[.box (b0i x0), .box (b0i x1)])) hy0 [2,3,4,8] (fun s1 x8071 hs0=>kq (kS (kBT 9 hs0 (fun h13=> ?_) (fun h14=> ?_))))))
  ·refine kKN (kcN h13 (fun(s6:Unit)=>([(2, .ptr 0 0),(3, .ptr 1 0),(4, .bool false),(8,iL s1)],[.box (b0i x0), .box (b0i x1)])) (fun s6 hy1=> ?_) (fun s6 h15=> ?_))
   ·refine kb 1 (kq (kq (kb 2 (kl (fun(s0:Int)=>([(2, .ptr 0 0),(3, .ptr 1 0),(4, .bool false),(5,iL s1),(8,iL s1),(11,iL s0)],[.box (b0i x0), .box (b0i x1)])) hy1 [2,3,4,5,8,11] (fun s0 x9635 hs1=>kq (kS (kBT 12 hs1 (fun h16=> ?_) (fun h17=> ?_))))))))
    ·refine kKN (kcN h16 (fun(s5:Unit)=>([(2, .ptr 0 0),(3, .ptr 1 0),(4, .bool false),(5,iL s1),(8,iL s1),(11,iL s0)],[.box (b0i x0), .box (b0i x1)])) (fun s5 hy2=> ?_) (fun s5 h18=> ?_))
     ·refine kb 3 (kq (kcX hy2 (fun(s8:Unit)=>([(2, .ptr 0 0),(3, .ptr 1 0),(4, .bool false),(5,iL s1),(6,iL s0),(8,iL s1),(11,iL s0)],[.box (b0i x0), .box (b0i x1)])) (fun y9 hy3 h19=> ?_) (fun s8 h20=> ?_)))
      ·exact kcN hy3 (fun(s2:Bool)=>([(2, .ptr 0 0),(3, .ptr 1 0),(4, .bool false),(5,iL s1),(6,iL s0),(8,iL s1),(11,iL s0),(23, .bool s2)],[.box (b0i x0), .box (b0i x1)])) (fun s2 hy4=>km 5 (kB 18 hy4 (fun h22=>ke 5 (kNo h22 [2,3,4,5,6,8,11,23])) (fun h23=>ke 5 (kNo h23 [2,3,4,5,6,8,11,23])))) (fun s2 h21=>kBT 23 h21 (fun h24=>kEx 3 (kCx h24 h19 (fun h26=>PJ.blockOut (kNo h26 [2,3,4,5,8,11])))) (fun h25=>kK (kXo h25 [2,3,4,5,6,8,11])))
      ·refine kcN h20 (fun(s3:Bool)=>([(2, .ptr 0 0),(3, .ptr 1 0),(4, .bool false),(5,iL s1),(6,iL s0),(7, .bool s3),(8,iL s1),(11,iL s0)],[.box (b0i x0), .box (b0i x1)])) (fun s3 hy5=> ?_) (fun s3 h27=> ?_)
       ·exact km 6 (kB 29 hy5 (fun h28=>ke 7 (kNo h28 [2,3,4,5,6,7,8,11])) (fun h29=>ke 7 (kNo h29 [2,3,4,5,6,7,8,11])))
       ·refine kcN h27 (fun(s4:Bool)=>([(2, .ptr 0 0),(3, .ptr 1 0),(4, .bool false),(5,iL s1),(8,iL s1),(11,iL s0),(47, .bool s4)],[.box (b0i x0), .box (b0i x1)])) (fun s4 hy6=> ?_) (fun s4 h30=> ?_)
        ·refine kDr (kD 2 (kB 37 hy6 (fun h0=> ?_) (fun h31=> ?_)))
         ·refine kD 2 ?_
          cases hb0:(decide (s1=0))
          ·have h1:=condF hb0 h0
           cases hb1:(decide (s1=1))
           ·have h2:=condF hb1 h1
            cases hb2:(decide (s1=2))
            ·have h32:=condF hb2 h2
             cases h32
            ·have h3:=condT hb2 h2
             refine RJ.pin 38 (kd:= .i64) (by kernel_rfl) (of_decide_eq_true hb2) (kD 4 ?_)
             cases hb3:(decide (s0=0))
             ·have h4:=condF hb3 h3
              cases hb4:(decide (s0=1))
              ·have h5:=condF hb4 h4
               cases hb5:(decide (s0=2))
               ·have h33:=condF hb5 h5
                cases h33
               ·have h34:=condT hb5 h5
                refine RJ.pin 42 (kd:= .i64) (by kernel_rfl) (of_decide_eq_true hb5) (kD 2 ?_)
                obtain⟨y8,hy7,h35⟩:=a0f h34
                exact kC0 (some 46) [([],[]),([],[]),([],[]),([],[]),([],[]),([0,1],[]),([],[]),([],[]),([],[]),([2,3],[]),([],[4,5])] (b0U hy7) (kD 1 (kE (kNW h35 D W [0,1])))
              ·have h36:=condT hb4 h4
               refine RJ.pin 42 (kd:= .i64) (by kernel_rfl) (of_decide_eq_true hb4) (kD 2 ?_)
               obtain⟨y7,hy8,h37⟩:=a0f h36
               exact kC0 (some 46) [([],[]),([],[]),([],[]),([],[]),([],[]),([0,1],[]),([],[]),([],[]),([],[]),([2,3],[]),([],[4,5])] (b0U hy8) (kD 1 (kE (kNW h37 D W [0,1])))
             ·have h38:=condT hb3 h3
              refine RJ.pin 42 (kd:= .i64) (by kernel_rfl) (of_decide_eq_true hb3) (kD 2 ?_)
              obtain⟨y6,hy9,h39⟩:=a0f h38
              exact kC0 (some 46) [([],[]),([],[]),([],[]),([],[]),([],[]),([0,1],[]),([],[]),([],[]),([],[]),([2,3],[]),([],[4,5])] (b0U hy9) (kD 1 (kE (kNW h39 D W [0,1])))
           ·have h6:=condT hb1 h1
            refine RJ.pin 38 (kd:= .i64) (by kernel_rfl) (of_decide_eq_true hb1) (kD 4 ?_)
            cases hb6:(decide (s0=0))
            ·have h7:=condF hb6 h6
             cases hb7:(decide (s0=1))
             ·have h8:=condF hb7 h7
              cases hb8:(decide (s0=2))
              ·have h40:=condF hb8 h8
               cases h40
              ·have h41:=condT hb8 h8
               refine RJ.pin 42 (kd:= .i64) (by kernel_rfl) (of_decide_eq_true hb8) (kD 2 ?_)
               obtain⟨y5,hy10,h42⟩:=a0f h41
               exact kC0 (some 46) [([],[]),([],[]),([],[]),([],[]),([],[]),([0,1],[]),([],[]),([],[]),([],[]),([2,3],[]),([],[4,5])] (b0U hy10) (kD 1 (kE (kNW h42 D W [0,1])))
             ·have h43:=condT hb7 h7
              refine RJ.pin 42 (kd:= .i64) (by kernel_rfl) (of_decide_eq_true hb7) (kD 2 ?_)
              obtain⟨y4,hy11,h44⟩:=a0f h43
              exact kC0 (some 46) [([],[]),([],[]),([],[]),([],[]),([],[]),([0,1],[]),([],[]),([],[]),([],[]),([2,3],[]),([],[4,5])] (b0U hy11) (kD 1 (kE (kNW h44 D W [0,1])))
            ·have h45:=condT hb6 h6
             refine RJ.pin 42 (kd:= .i64) (by kernel_rfl) (of_decide_eq_true hb6) (kD 2 ?_)
             obtain⟨y3,hy12,h46⟩:=a0f h45
             exact kC0 (some 46) [([],[]),([],[]),([],[]),([],[]),([],[]),([0,1],[]),([],[]),([],[]),([],[]),([2,3],[]),([],[4,5])] (b0U hy12) (kD 1 (kE (kNW h46 D W [0,1])))
          ·have h9:=condT hb0 h0
           refine RJ.pin 38 (kd:= .i64) (by kernel_rfl) (of_decide_eq_true hb0) (kD 4 ?_)
           cases hb9:(decide (s0=0))
           ·have h10:=condF hb9 h9
            cases hb10:(decide (s0=1))
            ·have h11:=condF hb10 h10
             cases hb11:(decide (s0=2))
             ·have h47:=condF hb11 h11
              cases h47
             ·have h48:=condT hb11 h11
              refine RJ.pin 42 (kd:= .i64) (by kernel_rfl) (of_decide_eq_true hb11) (kD 2 ?_)
              obtain⟨y2,hy13,h49⟩:=a0f h48
              exact kC0 (some 46) [([],[]),([],[]),([],[]),([],[]),([],[]),([0,1],[]),([],[]),([],[]),([],[]),([2,3],[]),([],[4,5])] (b0U hy13) (kD 1 (kE (kNW h49 D W [0,1])))
            ·have h50:=condT hb10 h10
             refine RJ.pin 42 (kd:= .i64) (by kernel_rfl) (of_decide_eq_true hb10) (kD 2 ?_)
             obtain⟨y1,hy14,h51⟩:=a0f h50
             exact kC0 (some 46) [([],[]),([],[]),([],[]),([],[]),([],[]),([0,1],[]),([],[]),([],[]),([],[]),([2,3],[]),([],[4,5])] (b0U hy14) (kD 1 (kE (kNW h51 D W [0,1])))
           ·have h52:=condT hb9 h9
            refine RJ.pin 42 (kd:= .i64) (by kernel_rfl) (of_decide_eq_true hb9) (kD 2 ?_)
            obtain⟨y0,hy15,h53⟩:=a0f h52
            exact kC0 (some 46) [([],[]),([],[]),([],[]),([],[]),([],[]),([0,1],[]),([],[]),([],[]),([],[]),([2,3],[]),([],[4,5])] (b0U hy15) (kD 1 (kE (kNW h53 D W [0,1])))
         ·exact kD 10 (kE (kNW h31 D W [0,1]))
        ·exact cTF 47 h30 (fun h54=>kKb (kNo h54 [2,3,4,5,8,11]))
     ·exact kM (kLo h18 [2,3,4,5,8,11])
    ·exact kEp 2 (kLx h17 (fun h55=>PJ.blockOut (PJ.blockNormal (kNo h55 [2,3,4,8]))))
   ·exact kM (kLo h15 [2,3,4,8])
  ·exact kEp 0 (kLx h14 (fun h56=>PJ.blockOut (kNW h56 D W [])))
 ·exact kq (kX (by cases h12;exact kZ H D W))
def e0i(x0:o0B):Option (Int×Bool):=
 (Option.bind (c0g x0.c_.S_ 0 x0.c_.J_.s_) fun y4=>(Option.bind (d0J x0.c_.S_ y4.1 ([]:List Int)) fun y3=>(Option.bind (a0s (fun(s0:Int×(List b0z))=>(bif(decide (s0.1<(x0.c_.o_.length:Int)))then(Option.bind (bif inR s0.1 x0.c_.o_.length then(Option.bind (g0W x0.c_.S_ (nth x0.c_.o_ s0.1)) fun y2=>(Option.bind (d0J x0.c_.S_ y2.1 ([]:List Int)) fun y0=>(Option.bind (g0X (nth x0.c_.o_ s0.1) y2.1) fun y1=>(bif room (s0.2.length+([(⟨y0,y1⟩:b0z)]:List b0z).length)then(a0s (fun(s1:Int)=>(bif(decide (s1<((((s0.2++([(⟨y0,y1⟩:b0z)]:List b0z))).length:Int))))then(bif inR s1 ((s0.2++([(⟨y0,y1⟩:b0z)]:List b0z))).length then(bif inR s1 ((s0.2++([(⟨y0,y1⟩:b0z)]:List b0z))).length then(bif inR (IntKind.wrap .i64 (s0.1+1)) ((s0.2++([(⟨y0,y1⟩:b0z)]:List b0z))).length then(bif inR (IntKind.wrap .i64 (s0.1+1)) ((s0.2++([(⟨y0,y1⟩:b0z)]:List b0z))).length then(Option.bind (o0g ((⟨(⟨(((nth ((s0.2++([(⟨y0,y1⟩:b0z)]:List b0z))) s1).H_).s_),(((nth ((s0.2++([(⟨y0,y1⟩:b0z)]:List b0z))) s1).H_).q_),(((nth ((s0.2++([(⟨y0,y1⟩:b0z)]:List b0z))) s1).H_).A_)⟩:i0W),(nth ((s0.2++([(⟨y0,y1⟩:b0z)]:List b0z))) s1).ab_⟩:b0z)) ((⟨(⟨(((nth ((s0.2++([(⟨y0,y1⟩:b0z)]:List b0z))) (IntKind.wrap .i64 (s0.1+1))).H_).s_),(((nth ((s0.2++([(⟨y0,y1⟩:b0z)]:List b0z))) (IntKind.wrap .i64 (s0.1+1))).H_).q_),(((nth ((s0.2++([(⟨y0,y1⟩:b0z)]:List b0z))) (IntKind.wrap .i64 (s0.1+1))).H_).A_)⟩:i0W),(nth ((s0.2++([(⟨y0,y1⟩:b0z)]:List b0z))) (IntKind.wrap .i64 (s0.1+1))).ab_⟩:b0z))) fun y5=>(bif y5 then none else(some (.inl (IntKind.wrap .i64 (s1+1))))))else none)else none)else none)else none)else(some (.inr ((s0.2++([(⟨y0,y1⟩:b0z)]:List b0z))))))) big 0)else none))))else none) fun(s2:(List b0z))=>(some (.inl ((IntKind.wrap .i64 (s0.1+1)),s2))))else(some (.inr ())))) big (0,([(⟨y3,0⟩:b0z)]:List b0z))) fun(s3:Unit)=>(some (0,true)))))
theorem i0f {x0:o0B} {r:Int×Bool} (h:e0i x0=some r):SQ 58 [.agg (b0w x0)] [] (.tup [iL r.1, .bool r.2]) []:=by
 refine kFn (fn:=Tryz.f58) (fun F H D W=> ?_)
 unfold e0i at h
 refine kq (kn 7 (kAb 21 h (fun _=>c0o) (fun y4 h0=>kr 6 (kn 4 ?_))))
 obtain⟨y3,hy0,h1⟩:=a0f h0
 refine RJ.call0 (d:=(some 28)) (f:=80) (args:=[.agg (a0d x0.c_.S_), .agg (a0c y4.1), .nl]) (v:= .agg (d0p y3)) (tr2:=[]) (by kernel_rfl) (by kernel_rfl) (.cons (Le.refl _) (.cons (Le.refl _) (.cons (Le.nl _) .nil))) (g0D hy0) (by kernel_rfl) (kr 3 (kcN h1 (fun(s3:Unit)=>([(2,iL 0),(3, .bool false)],[])) (fun s3 hy1=> ?_) (fun s3 h2=> ?_)))
 ·refine kq (kb 0 (J.wk (Wk.sel (L2:=[(1, .ptr 0 0),(2,iL 0),(3, .bool false),(6, .vc 1),(33,lsv b0b 3 x0.c_.o_),(34,iL (x0.c_.o_.length:Int)),(35,iL 0)]) (H2:=[.box (b0w x0),a0z b0i 7 145 ([(⟨y3,0⟩:b0z)]:List b0z)]) 0 (by rw[D];rfl) W [0,2] (by kernel_rfl) (by kernel_rfl) (by decide) (by kernel_rfl) (by kernel_rfl) (by kernel_rfl) (by kernel_rfl)) (kl (fun(s0:Int×(List b0z))=>([(1, .ptr 0 0),(2,iL 0),(3, .bool false),(6, .vc 1),(33,lsv b0b 3 x0.c_.o_),(34,iL (x0.c_.o_.length:Int)),(35,iL s0.1)],[.box (b0w x0),a0z b0i 7 145 s0.2])) hy1 [1,2,3,6,33,34,35] (fun s0 x657 hs0=>kq (kS (kBT 36 hs0 (fun h3=> ?_) (fun h4=> ?_)))))))
  ·refine kKN (kcN h3 (fun(s2:(List b0z))=>([(1, .ptr 0 0),(2,iL 0),(3, .bool false),(6, .vc 1),(33,lsv b0b 3 x0.c_.o_),(34,iL (x0.c_.o_.length:Int)),(35,iL s0.1)],[.box (b0w x0),a0z b0i 7 145 s2])) (fun s2 hy2=> ?_) (fun s2 h5=> ?_))
   ·refine kb 1 (kn 1 (kIb 38 g0Z hy2 (fun h6=>kr 4 (kn 4 (kAb 45 h6 (fun _=>j0T) (fun y2 h7=>kr 6 (kS (kDr (kD 5 ?_)))))))))
    obtain⟨y0,hy3,h8⟩:=a0f h7
    refine RJ.call0 (d:=(some 53)) (f:=80) (args:=[.agg (a0d x0.c_.S_), .agg (a0c y2.1), .nl]) (v:= .agg (d0p y0)) (tr2:=[([],[]),([],[]),([],[]),([0,1],[]),([6,7],[]),([],[8,9])]) (by kernel_rfl) (by kernel_rfl) (.cons (Le.refl _) (.cons (Le.refl _) (.cons (Le.nl _) .nil))) (g0D hy3) (by kernel_rfl) (kD 2 ?_)
    obtain⟨y1,hy4,h9⟩:=a0f h8
    refine kC0 (some 56) [([],[]),([],[]),([],[]),([0,1],[]),([6,7],[]),([],[8,9]),([4,5],[]),([6,7],[]),([],[10,11])] (h0r hy4) (kD 2 ?_)
    obtain⟨hm,h10⟩:=b0y h9
    refine RJ.rel (d:=(some 59)) (ef:=⟨.vc 7,[1,6],[(1, .gone),(7, .vec (s0.2.length+([(⟨y0,y1⟩:b0z)]:List b0z).length) 7 145 (s0.2.flatMap b0i++([(⟨y0,y1⟩:b0z)]:List b0z).flatMap b0i))]⟩) (ef':=⟨.vc 7,[1,6],[(1, .gone),(7,a0z b0i 7 145 (s0.2++([(⟨y0,y1⟩:b0z)]:List b0z)))]⟩) (c:=room (s0.2.length+([(⟨y0,y1⟩:b0z)]:List b0z).length)) (tr2:=[([],[]),([],[]),([],[]),([0,1],[]),([6,7],[]),([],[8,9]),([4,5],[]),([6,7],[]),([],[10,11]),([],[]),([],[12,13,12,13]),([2,3,12,13],[2,3,14,15,14,15])]) (H2:=[.box (b0w x0), .gone, .box [iL ((nth x0.c_.o_ s0.1).L_),iL ((nth x0.c_.o_ s0.1).Q_), .str ((nth x0.c_.o_ s0.1).T_)], .box (a0c y2.1), .res, .res,a0z b0i 7 145 ([(⟨y0,y1⟩:b0z)]:List b0z),a0z b0i 7 145 ((s0.2++([(⟨y0,y1⟩:b0z)]:List b0z)))]) (by kernel_rfl) hm (fun hc=>N.app) (by kernel_rfl) (kD 1 (kEN (kq (kb 2 (J.wk (Wk.sel (L2:=[(1, .ptr 0 0),(2,iL 0),(3, .bool false),(6, .vc 1),(7,iL s0.1),(33,lsv b0b 3 x0.c_.o_),(34,iL (x0.c_.o_.length:Int)),(35,iL s0.1),(60, .vc 1),(61,iL ((((s0.2++([(⟨y0,y1⟩:b0z)]:List b0z))).length:Int))),(62,iL 0)]) (H2:=[.box (b0w x0),a0z b0i 7 145 ((s0.2++([(⟨y0,y1⟩:b0z)]:List b0z)))]) 0 (by rw[D];rfl) W [0,7] (by kernel_rfl) (by kernel_rfl) (by decide) (by kernel_rfl) (by kernel_rfl) (by kernel_rfl) (by kernel_rfl)) (kl (fun(s1:Int)=>([(1, .ptr 0 0),(2,iL 0),(3, .bool false),(6, .vc 1),(7,iL s0.1),(33,lsv b0b 3 x0.c_.o_),(34,iL (x0.c_.o_.length:Int)),(35,iL s0.1),(60, .vc 1),(61,iL ((((s0.2++([(⟨y0,y1⟩:b0z)]:List b0z))).length:Int))),(62,iL s1)],[.box (b0w x0),a0z b0i 7 145 ((s0.2++([(⟨y0,y1⟩:b0z)]:List b0z)))])) h10 [1,2,3,6,7,33,34,35,60,61,62] (fun s1 x768 hs1=>kq (kS (kBT 63 hs1 (fun h11=> ?_) (fun h12=> ?_))))))))))
    ·refine kKN (kS (kb 3 (kSR ?_)))
     obtain⟨hm,h13⟩:=b0y h11
     refine kQ 64 (.ptr 1 ((s1:Int).toNat*7)) [1] (tr2:=[]) hm ?_
     obtain⟨hm,h14⟩:=b0y h13
     refine RJ.loadS (d:=(some 65)) (i:=1) (enc:=b0i) (k:=7) (xs:=((s0.2++([(⟨y0,y1⟩:b0z)]:List b0z)))) (j:=s1) (tr2:=[]) (by kernel_rfl) m0P hm (kr 2 (kS (kDr (kD 4 ?_))))
     obtain⟨hm,h15⟩:=b0y h14
     refine kQ 70 (.ptr 1 (((IntKind.wrap .i64 (s0.1+1)):Int).toNat*7)) [1] (tr2:=[([4,5],[]),([],[]),([],[]),([],[]),([3],[])]) hm ?_
     obtain⟨hm,h16⟩:=b0y h15
     refine RJ.loadS (d:=(some 71)) (i:=1) (enc:=b0i) (k:=7) (xs:=((s0.2++([(⟨y0,y1⟩:b0z)]:List b0z)))) (j:=(IntKind.wrap .i64 (s0.1+1))) (tr2:=[([4,5],[]),([],[]),([],[]),([],[]),([3],[]),([2,3],[])]) (by kernel_rfl) m0P hm ?_
     obtain⟨y5,hy5,h17⟩:=a0f h16
     exact kC0 (some 72) [([4,5],[]),([],[]),([],[]),([],[]),([3],[]),([2,3],[]),([],[6,7])] (r0h hy5) (kEN (cTF 72 h17 (fun h18=>kKn (kM (kLW h18 D W [0,1])))))
    ·exact kEp 2 (kLx h12 (fun h19=>PJ.blockOut (PJ.blockNormal (kNo h19 [1,2,3,6,33,34,35]))))
   ·exact kM (kLo h5 [1,2,3,6,33,34,35])
  ·exact kEp 0 (kLx h4 (fun h20=>PJ.blockOut (kNW h20 D W [])))
 ·exact kq (kX (by cases h2;exact kZ H D W))
def l0Q(x0:w0X):Option (Int×Int×Int):=
 (Option.bind (a0s (fun(s0:Int)=>(bif(decide (s0<7))then(bif(decide (s0=0))then(Option.bind (g0j (⟨x0⟩:o0B)) fun y0=>(bif(!y0.2)then(some (.inr (.inr ((IntKind.wrap .i64 (0+1)),y0.1,8))))else(some (.inl (IntKind.wrap .i64 (0+1))))))else(bif(decide (s0=1))then(Option.bind (f0n (⟨x0⟩:o0B)) fun y1=>(bif(!y1.2)then(some (.inr (.inr ((IntKind.wrap .i64 (1+1)),y1.1,8))))else(some (.inl (IntKind.wrap .i64 (1+1))))))else(bif(decide (s0=2))then(Option.bind (e0h (⟨x0⟩:o0B)) fun y2=>(bif(!y2.2)then(some (.inr (.inr ((IntKind.wrap .i64 (2+1)),y2.1,8))))else(some (.inl (IntKind.wrap .i64 (2+1))))))else(bif(decide (s0=3))then(Option.bind (f0o (⟨x0⟩:o0B)) fun y3=>(bif(!y3.2)then(some (.inr (.inr ((IntKind.wrap .i64 (3+1)),y3.1,8))))else(some (.inl (IntKind.wrap .i64 (3+1))))))else(bif(decide (s0=4))then(Option.bind (d0C (⟨x0⟩:o0B)) fun y4=>(bif(!y4.2)then(some (.inr (.inr ((IntKind.wrap .i64 (4+1)),y4.1,8))))else(some (.inl (IntKind.wrap .i64 (4+1))))))else(bif(decide (s0=5))then(Option.bind (e0j (⟨x0⟩:o0B)) fun y5=>(bif(!y5.2)then(some (.inr (.inr ((IntKind.wrap .i64 (5+1)),y5.1,8))))else(some (.inl (IntKind.wrap .i64 (5+1))))))else(bif(decide (s0=6))then(Option.bind (e0i (⟨x0⟩:o0B)) fun y6=>(bif(!y6.2)then(some (.inr (.inr ((IntKind.wrap .i64 (6+1)),y6.1,8))))else(some (.inl (IntKind.wrap .i64 (6+1))))))else none)))))))else(some (.inr (.inl ()))))) big 0) (a0g fun(s1:Unit)=>(some (0,0,0))))
theorem m0L {x0:w0X} {r:Int×Int×Int} (h:l0Q x0=some r):SQ 23 [.agg (d0l x0)] [] (.tup [iL r.1,iL r.2.1,iL r.2.2]) []:=by
 refine kFn (fn:=Tryz.f23) (fun F H D W=> ?_)
 unfold l0Q at h
 refine kq (kq (kq (kcX h (fun(s1:Unit)=>([(2,iL 0),(3,iL 0),(4,iL 0)],[])) (fun y7 hy0 h0=> ?_) (fun s1 h8=> ?_))))
 ·refine kq (kb 0 (J.wk (Wk.sel (L2:=[(2,iL 0),(3,iL 0),(4,iL 0),(28, .agg [.fn (.func 52) [.agg (d0l x0)] [], .fn (.func 53) [.agg (d0l x0)] [], .fn (.func 54) [.agg (d0l x0)] [], .fn (.func 55) [.agg (d0l x0)] [], .fn (.func 56) [.agg (d0l x0)] [], .fn (.func 57) [.agg (d0l x0)] [], .fn (.func 58) [.agg (d0l x0)] []]),(29,iL 0)]) (H2:=[]) 0 (by rw[D];rfl) W [] (by kernel_rfl) (by kernel_rfl) (by decide) (by kernel_rfl) (by kernel_rfl) (by kernel_rfl) (by kernel_rfl)) (kl (fun(s0:Int)=>([(2,iL 0),(3,iL 0),(4,iL 0),(28, .agg [.fn (.func 52) [.agg (d0l x0)] [], .fn (.func 53) [.agg (d0l x0)] [], .fn (.func 54) [.agg (d0l x0)] [], .fn (.func 55) [.agg (d0l x0)] [], .fn (.func 56) [.agg (d0l x0)] [], .fn (.func 57) [.agg (d0l x0)] [], .fn (.func 58) [.agg (d0l x0)] []]),(29,iL s0)],[])) hy0 [2,3,4,28,29] (fun s0 x306 hs0=>kq (kS (kBT 30 hs0 (fun h1=> ?_) (fun h9=> ?_)))))))
  ·refine kKN (kS (kb 1 (kn 1 ?_)))
   cases hb0:(decide (s0=0))
   ·have h2:=condF hb0 h1
    cases hb1:(decide (s0=1))
    ·have h3:=condF hb1 h2
     cases hb2:(decide (s0=2))
     ·have h4:=condF hb2 h3
      cases hb3:(decide (s0=3))
      ·have h5:=condF hb3 h4
       cases hb4:(decide (s0=4))
       ·have h6:=condF hb4 h5
        cases hb5:(decide (s0=5))
        ·have h7:=condF hb5 h6
         cases hb6:(decide (s0=6))
         ·have h10:=condF hb6 h7
          cases h10
         ·have h11:=condT hb6 h7
          exact RJ.pin 29 (kd:= .i64) (by kernel_rfl) (of_decide_eq_true hb6) (RJ.pin 31 (kd:= .i64) (by kernel_rfl) (of_decide_eq_true hb6) (kr 3 (kn 1 (kAb 35 h11 (fun _=>i0f) (fun y6 h12=>kr 5 (kq (kBT 39 h12 (fun h13=>kq (kXp (kLx h13 (fun h15=>PJ.blockRet (kCx h15 h0 (fun h16=>by obtain rfl:=oi h16;exact kZ H D W)))))) (fun h14=>kKn (kM (kLo h14 [2,3,4,28,29]))))))))))
        ·have h17:=condT hb5 h6
         exact RJ.pin 29 (kd:= .i64) (by kernel_rfl) (of_decide_eq_true hb5) (RJ.pin 31 (kd:= .i64) (by kernel_rfl) (of_decide_eq_true hb5) (kr 3 (kn 1 (kAb 35 h17 (fun _=>i0g) (fun y5 h18=>kr 5 (kq (kBT 39 h18 (fun h19=>kq (kXp (kLx h19 (fun h21=>PJ.blockRet (kCx h21 h0 (fun h22=>by obtain rfl:=oi h22;exact kZ H D W)))))) (fun h20=>kKn (kM (kLo h20 [2,3,4,28,29]))))))))))
       ·have h23:=condT hb4 h5
        exact RJ.pin 29 (kd:= .i64) (by kernel_rfl) (of_decide_eq_true hb4) (RJ.pin 31 (kd:= .i64) (by kernel_rfl) (of_decide_eq_true hb4) (kr 3 (kn 1 (kAb 35 h23 (fun _=>h0m) (fun y4 h24=>kr 5 (kq (kBT 39 h24 (fun h25=>kq (kXp (kLx h25 (fun h27=>PJ.blockRet (kCx h27 h0 (fun h28=>by obtain rfl:=oi h28;exact kZ H D W)))))) (fun h26=>kKn (kM (kLo h26 [2,3,4,28,29]))))))))))
      ·have h29:=condT hb3 h4
       exact RJ.pin 29 (kd:= .i64) (by kernel_rfl) (of_decide_eq_true hb3) (RJ.pin 31 (kd:= .i64) (by kernel_rfl) (of_decide_eq_true hb3) (kr 3 (kn 1 (kAb 35 h29 (fun _=>j0S) (fun y3 h30=>kr 5 (kq (kBT 39 h30 (fun h31=>kq (kXp (kLx h31 (fun h33=>PJ.blockRet (kCx h33 h0 (fun h34=>by obtain rfl:=oi h34;exact kZ H D W)))))) (fun h32=>kKn (kM (kLo h32 [2,3,4,28,29]))))))))))
     ·have h35:=condT hb2 h3
      exact RJ.pin 29 (kd:= .i64) (by kernel_rfl) (of_decide_eq_true hb2) (RJ.pin 31 (kd:= .i64) (by kernel_rfl) (of_decide_eq_true hb2) (kr 3 (kn 1 (kAb 35 h35 (fun _=>i0e) (fun y2 h36=>kr 5 (kq (kBT 39 h36 (fun h37=>kq (kXp (kLx h37 (fun h39=>PJ.blockRet (kCx h39 h0 (fun h40=>by obtain rfl:=oi h40;exact kZ H D W)))))) (fun h38=>kKn (kM (kLo h38 [2,3,4,28,29]))))))))))
    ·have h41:=condT hb1 h2
     exact RJ.pin 29 (kd:= .i64) (by kernel_rfl) (of_decide_eq_true hb1) (RJ.pin 31 (kd:= .i64) (by kernel_rfl) (of_decide_eq_true hb1) (kr 3 (kn 1 (kAb 35 h41 (fun _=>j0R) (fun y1 h42=>kr 5 (kq (kBT 39 h42 (fun h43=>kq (kXp (kLx h43 (fun h45=>PJ.blockRet (kCx h45 h0 (fun h46=>by obtain rfl:=oi h46;exact kZ H D W)))))) (fun h44=>kKn (kM (kLo h44 [2,3,4,28,29]))))))))))
   ·have h47:=condT hb0 h1
    exact RJ.pin 29 (kd:= .i64) (by kernel_rfl) (of_decide_eq_true hb0) (RJ.pin 31 (kd:= .i64) (by kernel_rfl) (of_decide_eq_true hb0) (kr 3 (kn 1 (kAb 35 h47 (fun _=>l0i) (fun y0 h48=>kr 5 (kq (kBT 39 h48 (fun h49=>kq (kXp (kLx h49 (fun h51=>PJ.blockRet (kCx h51 h0 (fun h52=>by obtain rfl:=oi h52;exact kZ H D W)))))) (fun h50=>kKn (kM (kLo h50 [2,3,4,28,29]))))))))))
  ·exact kEp 0 (kLx h9 (fun h53=>PJ.blockOut (kXo h53 [2,3,4])))
 ·exact kq (kX (by cases h8;exact kZ H D W))
def o0y(x0 x1:List t0R):Option (Bool):=
 (bif(decide (¬(x0.length:Int)=(x1.length:Int)))then none else(Option.bind (a0s (fun(s0:Int)=>(bif(decide (s0<(x0.length:Int)))then(bif inR s0 x0.length then(bif inR s0 x1.length then(bif(!((decide (((nth x0 s0).Q_)=((nth x1 s0).Q_)))&&((((nth x0 s0).O_)==((nth x1 s0).O_))&&true)))then none else(some (.inl (IntKind.wrap .i64 (s0+1)))))else none)else none)else(some (.inr ())))) big 0) fun(s1:Unit)=>(some true)))
theorem r0G {x0 x1:List t0R} {r:Bool} (h:o0y x0 x1=some r):SQ 69 [lsv f0w 2 x0,lsv f0w 2 x1] [] (.bool r) []:=by
 refine kFn (fn:=Tryz.f69) (fun F H D W=> ?_)
 unfold o0y at h
 refine kq (kS (kq (cTF 10 h (fun h0=>kKN (kcN h0 (fun(s1:Unit)=>([(4, .bool false)],[])) (fun s1 hy0=> ?_) (fun s1 h1=> ?_))))))
 ·refine kq (kb 0 (kl (fun(s0:Int)=>([(0,lsv f0w 2 x0),(1,lsv f0w 2 x1),(4, .bool false),(12,iL (x0.length:Int)),(13,iL s0)],[])) hy0 [0,1,4,12,13] (fun s0 x64 hs0=>kq (kS (kBT 14 hs0 (fun h2=> ?_) (fun h3=> ?_))))))
  ·refine kKN (kS (kb 1 (kq (kS (kDr (kD 2 ?_))))))
   obtain⟨hm,h4⟩:=b0y h2
   refine kJ 18 (tr2:=[([],[]),([],[]),([],[])]) l0m hm (kD 3 ?_)
   obtain⟨hm,h5⟩:=b0y h4
   exact kJ 22 (tr2:=[([],[]),([],[]),([],[]),([],[]),([],[]),([],[]),([],[])]) l0m hm (kD 2 (kEN (cTF 24 h5 (fun h6=>kKn (kM (kLo h6 [0,1,4,12,13]))))))
  ·exact kEp 0 (kLx h3 (fun h7=>PJ.blockOut (kNo h7 [4])))
 ·exact kq (kX (by cases h1;exact kZ H D W))
def q0n(x0 x1:List u0N):Option (Bool):=
 (bif(decide (¬(x0.length:Int)=(x1.length:Int)))then none else(Option.bind (a0s (fun(s0:Int)=>(bif(decide (s0<(x0.length:Int)))then(bif inR s0 x0.length then(bif inR s0 x1.length then(bif(!((((nth x0 s0).ag_)==((nth x1 s0).ag_))&&((((nth x0 s0).M_)==((nth x1 s0).M_))&&((decide (((nth x0 s0).ah_)=((nth x1 s0).ah_)))&&true))))then none else(some (.inl (IntKind.wrap .i64 (s0+1)))))else none)else none)else(some (.inr ())))) big 0) fun(s1:Unit)=>(some true)))
theorem s0T {x0 x1:List u0N} {r:Bool} (h:q0n x0 x1=some r):SQ 70 [lsv f0x 3 x0,lsv f0x 3 x1] [] (.bool r) []:=by
 refine kFn (fn:=Tryz.f70) (fun F H D W=> ?_)
 unfold q0n at h
 refine kq (kS (kq (cTF 10 h (fun h0=>kKN (kcN h0 (fun(s1:Unit)=>([(4, .bool false)],[])) (fun s1 hy0=> ?_) (fun s1 h1=> ?_))))))
 ·refine kq (kb 0 (kl (fun(s0:Int)=>([(0,lsv f0x 3 x0),(1,lsv f0x 3 x1),(4, .bool false),(12,iL (x0.length:Int)),(13,iL s0)],[])) hy0 [0,1,4,12,13] (fun s0 x64 hs0=>kq (kS (kBT 14 hs0 (fun h2=> ?_) (fun h3=> ?_))))))
  ·refine kKN (kS (kb 1 (kq (kS (kDr (kD 2 ?_))))))
   obtain⟨hm,h4⟩:=b0y h2
   refine kJ 18 (tr2:=[([],[]),([],[]),([],[])]) l0n hm (kD 3 ?_)
   obtain⟨hm,h5⟩:=b0y h4
   exact kJ 22 (tr2:=[([],[]),([],[]),([],[]),([],[]),([],[]),([],[]),([],[])]) l0n hm (kD 2 (kEN (cTF 24 h5 (fun h6=>kKn (kM (kLo h6 [0,1,4,12,13]))))))
  ·exact kEp 0 (kLx h3 (fun h7=>PJ.blockOut (kNo h7 [4])))
 ·exact kq (kX (by cases h1;exact kZ H D W))
def o0z(x0 x1:List m0i):Option (Bool):=
 (bif(decide (¬(x0.length:Int)=(x1.length:Int)))then none else(Option.bind (a0s (fun(s0:Int)=>(bif(decide (s0<(x0.length:Int)))then(bif inR s0 x0.length then(bif inR s0 x1.length then(bif(!((decide (((nth x0 s0).L_)=((nth x1 s0).L_)))&&((decide (((nth x0 s0).Q_)=((nth x1 s0).Q_)))&&((((nth x0 s0).T_)==((nth x1 s0).T_))&&true))))then none else(some (.inl (IntKind.wrap .i64 (s0+1)))))else none)else none)else(some (.inr ())))) big 0) fun(s1:Unit)=>(some true)))
theorem r0H {x0 x1:List m0i} {r:Bool} (h:o0z x0 x1=some r):SQ 71 [lsv b0b 3 x0,lsv b0b 3 x1] [] (.bool r) []:=by
 refine kFn (fn:=Tryz.f71) (fun F H D W=> ?_)
 unfold o0z at h
 refine kq (kS (kq (cTF 10 h (fun h0=>kKN (kcN h0 (fun(s1:Unit)=>([(4, .bool false)],[])) (fun s1 hy0=> ?_) (fun s1 h1=> ?_))))))
 ·refine kq (kb 0 (kl (fun(s0:Int)=>([(0,lsv b0b 3 x0),(1,lsv b0b 3 x1),(4, .bool false),(12,iL (x0.length:Int)),(13,iL s0)],[])) hy0 [0,1,4,12,13] (fun s0 x64 hs0=>kq (kS (kBT 14 hs0 (fun h2=> ?_) (fun h3=> ?_))))))
  ·refine kKN (kS (kb 1 (kq (kS (kDr (kD 2 ?_))))))
   obtain⟨hm,h4⟩:=b0y h2
   refine kJ 18 (tr2:=[([],[]),([],[]),([],[])]) g0Z hm (kD 3 ?_)
   obtain⟨hm,h5⟩:=b0y h4
   exact kJ 22 (tr2:=[([],[]),([],[]),([],[]),([],[]),([],[]),([],[]),([],[])]) g0Z hm (kD 2 (kEN (cTF 24 h5 (fun h6=>kKn (kM (kLo h6 [0,1,4,12,13]))))))
  ·exact kEp 0 (kLx h3 (fun h7=>PJ.blockOut (kNo h7 [4])))
 ·exact kq (kX (by cases h1;exact kZ H D W))
def p0U(x0 x1:w0X):Option (Bool):=
 (Option.bind (bif(x0.W_==x1.W_)then(bif((decide (x0.S_.E_=x1.S_.E_))&&((decide (x0.S_.B_=x1.S_.B_))&&((decide (x0.S_.z_=x1.S_.z_))&&((decide (x0.S_.w_=x1.S_.w_))&&((decide (x0.S_.v_=x1.S_.v_))&&((decide (x0.S_.u_=x1.S_.u_))&&((decide (x0.S_.d_=x1.S_.d_))&&true)))))))then(bif((x0.J_.s_==x1.J_.s_)&&((x0.J_.q_==x1.J_.q_)&&((x0.J_.A_==x1.J_.A_)&&((x0.J_.N_==x1.J_.N_)&&true))))then(Option.bind (o0y x0.X_ x1.X_) fun y0=>(bif y0 then(Option.bind (q0n x0.F_ x1.F_) fun y1=>(bif y1 then(Option.bind (o0z x0.o_ x1.o_) fun y2=>(some y2))else none))else none))else none)else none)else none) fun(s0:Bool)=>(some s0))
theorem s0q {x0 x1:w0X} {r:Bool} (h:p0U x0 x1=some r):SQ 34 [.agg (d0l x0), .agg (d0l x1)] [] (.bool r) []:=by
 refine kFn (fn:=Tryz.f34) (fun F H D W=> ?_)
 unfold p0U at h
 exact kq (kcN h (fun(s0:Bool)=>([(4, .bool s0)],[])) (fun s0 hy0=>km 6 (cFR 10 hy0 (fun h1=>kc 7 (cFR 17 h1 (fun h2=>kc 7 (cFR 24 h2 (fun h3=>kc 4 (kAb 29 h3 (fun _=>r0G) (fun y0 h4=>kc 2 (cFR 31 h4 (fun h5=>kc 4 (kAb 36 h5 (fun _=>s0T) (fun y1 h6=>kc 2 (cFR 38 h6 (fun h7=>RJ.seg 4 [4,38,40,42] (L2:=[(4, .bool false),(38, .bool true),(40,lsv b0b 3 x0.o_),(42,lsv b0b 3 x1.o_)]) (H2:=[.box (d0l x0), .box (d0l x1)]) (by kernel_rfl) (kAb 43 h7 (fun _=>r0H) (fun y2 h8=>ke 2 (kNW h8 D W [])))))))))))))))))) (fun s0 h0=>kX (by cases h0;exact kZ H D W)))
def d0V:Option (Bool):=
 (Option.bind d0c fun y4=>(Option.bind (c0g y4 1 ([37,48]:List UInt8)) fun y2=>(Option.bind d0c fun y5=>(Option.bind (c0g y5 0 ([37,48]:List UInt8)) fun y3=>(Option.bind d0b fun y6=>(Option.bind (l0Q y6) fun y0=>(Option.bind (l0Q (⟨[],(⟨0,0,0,0,0,0,0⟩:c0n),(⟨[],[],[],[]⟩:B0c),([]:List t0R),([]:List u0N),([]:List m0i)⟩:w0X)) fun y1=>(Option.bind (bif y2.2 then(bif(!y3.2)then(bif(decide (y0.1=0))then(bif(decide (y0.2.1=0))then(bif(decide (y0.2.2=0))then(bif(decide (y1.2.2=8))then(Option.bind (l0j ([101,110]:List UInt8)) fun y7=>(bif y7 then(Option.bind d0b fun y8=>(Option.bind d0b fun y9=>(Option.bind (p0U y8 y9) fun y10=>(some y10))))else none))else none)else none)else none)else none)else none)else none) fun(s0:Bool)=>(some s0)))))))))
theorem k0h {r:Bool} (h:d0V=some r):SQ 9 [] [] (.bool r) []:=by
 refine kFn (fn:=Tryz.f9) (fun F H D W=> ?_)
 unfold d0V at h
 refine kq (kSR (kAb 12 h (fun _=>e0p) (fun y4 h0=>kAb 13 h0 (fun _=>c0o) (fun y2 h1=>kr 6 (kSR (kAb 17 h1 (fun _=>e0p) (fun y5 h2=>kAb 18 h2 (fun _=>c0o) (fun y3 h3=>kr 6 (kSR (kAb 22 h3 (fun _=>e0o) (fun y6 h4=>kAb 23 h4 (fun _=>m0L) (fun y0 h5=>kr 7 (kn 1 ?_)))))))))))))
 obtain⟨y1,hy0,h6⟩:=a0f h5
 exact RJ.call0 (d:=(some 29)) (f:=23) (args:=[.agg (q12 [] 0 0 0 0 0 0 0 [] [] [] [] [.nl, .nl, .nl])]) (v:= .tup [iL y1.1,iL y1.2.1,iL y1.2.2]) (tr2:=[]) (by kernel_rfl) (by kernel_rfl) (.cons (Le.agg (.cons (Le.refl _) (.cons (Le.refl _) (.cons (Le.refl _) (.cons (Le.refl _) (.cons (Le.refl _) (.cons (Le.refl _) (.cons (Le.refl _) (.cons (Le.refl _) (.cons (Le.refl _) (.cons (Le.refl _) (.cons (Le.refl _) (.cons (Le.refl _) (.cons (Le.nl _) (.cons (Le.nl _) (.cons (Le.nl _) .nil)))))))))))))))) .nil) (m0L hy0) (by kernel_rfl) (kr 7 (kcN h6 (fun(s0:Bool)=>([(0, .bool s0)],[])) (fun s0 hy1=>km 2 (cFR 34 hy1 (fun h8=>kc 4 (cFR 38 h8 (fun h9=>RJ.seg 4 [0,6,7,10,42] (L2:=[(0, .bool false),(6,iL y0.2.1),(7,iL y0.2.2),(10,iL y1.2.2),(42, .bool (decide (y0.1=0)))]) (H2:=[.box (a0c y2.1), .box (a0c y3.1)]) (by kernel_rfl) (cFR 42 h9 (fun h10=>kc 4 (cFR 46 h10 (fun h11=>kc 4 (cFR 50 h11 (fun h12=>kc 4 (cFR 54 h12 (fun h13=>kAb 55 h13 (fun _=>m0y) (fun y7 h14=>kc 2 (cFR 57 h14 (fun h15=>kAb 58 h15 (fun _=>e0o) (fun y8 h16=>kAb 59 h16 (fun _=>e0o) (fun y9 h17=>kAb 60 h17 (fun _=>s0q) (fun y10 h18=>ke 2 (kNW h18 D W [])))))))))))))))))))) (fun s0 h7=>kX (by cases h7;exact kZ H D W))))
def a0B(x0:Int):Option (Bool):=
 (Option.bind (bif(decide ((IntKind.wrap .i64 x0)≥0))then(bif(decide ((IntKind.wrap .i64 x0)<55296))then(some true)else(bif(decide ((IntKind.wrap .i64 x0)>57343))then(some ((decide ((IntKind.wrap .i64 x0)≤1114111))))else(some false)))else(bif(decide ((IntKind.wrap .i64 x0)>57343))then(some ((decide ((IntKind.wrap .i64 x0)≤1114111))))else(some false))) fun(s0:Bool)=>(some s0))
theorem d0a {x0:Int} {r:Bool} (h:a0B x0=some r):SQ 63 [iM x0] [] (.bool r) []:=by
 refine kFn (fn:=Tryz.f63) (fun F H D W=> ?_)
 unfold a0B at h
 exact kq (kq (kcN h (fun(s0:Bool)=>([(2, .bool s0)],[])) (fun s0 hy0=>km 3 (kB 8 hy0 (fun h1=>kc 4 (kB 12 h1 (fun h3=>ke 8 (kNo h3 [2])) (fun h4=>kc 3 (kB 15 h4 (fun h5=>ke 5 (kNo h5 [2])) (fun h6=>ke 5 (kNo h6 [2])))))) (fun h2=>kc 7 (kB 15 h2 (fun h7=>ke 5 (kNo h7 [2])) (fun h8=>ke 5 (kNo h8 [2])))))) (fun s0 h0=>kX (by cases h0;exact kZ H D W))))
def c0y(x0:Int):Option (Bool):=
 (Option.bind (bif(decide (x0=1564))then(some true)else(bif(decide (x0=8206))then(some true)else(bif(decide (x0=8207))then(some true)else(bif(decide (x0≥8234))then(bif(decide (x0≤8238))then(some true)else(bif(decide (x0≥8294))then(some (decide (x0≤8297)))else(some false)))else(bif(decide (x0≥8294))then(some (decide (x0≤8297)))else(some false)))))) fun(s0:Bool)=>(some s0))
theorem i0K {x0:Int} {r:Bool} (h:c0y x0=some r):SQ 72 [iL x0] [] (.bool r) []:=by
 refine kFn (fn:=Tryz.f72) (fun F H D W=> ?_)
 unfold c0y at h
 exact kq (kcN h (fun(s0:Bool)=>([(2, .bool s0)],[])) (fun s0 hy0=>km 3 (kB 5 hy0 (fun h1=>ke 24 (kNo h1 [2])) (fun h2=>kc 4 (kB 9 h2 (fun h3=>ke 20 (kNo h3 [2])) (fun h4=>kc 4 (kB 13 h4 (fun h5=>ke 16 (kNo h5 [2])) (fun h6=>kc 3 (kB 16 h6 (fun h7=>kc 5 (kB 21 h7 (fun h9=>ke 8 (kNo h9 [2])) (fun h10=>kc 3 (kB 24 h10 (fun h11=>ke 5 (kNo h11 [2])) (fun h12=>ke 5 (kNo h12 [2])))))) (fun h8=>kc 8 (kB 24 h8 (fun h13=>ke 5 (kNo h13 [2])) (fun h14=>ke 5 (kNo h14 [2])))))))))))) (fun s0 h0=>kX (by cases h0;exact kZ H D W)))
def c0X(x0:Int):Option (Bool):=
 (Option.bind (bif(decide (x0=32))then(some true)else(bif(decide (x0=160))then(some true)else(bif(decide (x0=5760))then(some true)else(bif(decide (x0≥8192))then(bif(decide (x0≤8202))then(some true)else(bif(decide (x0=8232))then(some true)else(bif(decide (x0=8233))then(some true)else(bif(decide (x0=8239))then(some true)else(bif(decide (x0=8287))then(some true)else(some (decide (x0=12288))))))))else(bif(decide (x0=8232))then(some true)else(bif(decide (x0=8233))then(some true)else(bif(decide (x0=8239))then(some true)else(bif(decide (x0=8287))then(some true)else(some (decide (x0=12288))))))))))) fun(s0:Bool)=>(some s0))
theorem k0d {x0:Int} {r:Bool} (h:c0X x0=some r):SQ 73 [iL x0] [] (.bool r) []:=by
 refine kFn (fn:=Tryz.f73) (fun F H D W=> ?_)
 unfold c0X at h
 exact kq (kcN h (fun(s0:Bool)=>([(2, .bool s0)],[])) (fun s0 hy0=>km 3 (kB 5 hy0 (fun h1=>ke 36 (kNo h1 [2])) (fun h2=>kc 4 (kB 9 h2 (fun h3=>ke 32 (kNo h3 [2])) (fun h4=>kc 4 (kB 13 h4 (fun h5=>ke 28 (kNo h5 [2])) (fun h6=>kc 3 (kB 16 h6 (fun h7=>kc 5 (kB 21 h7 (fun h9=>ke 20 (kNo h9 [2])) (fun h10=>kc 4 (kB 25 h10 (fun h11=>ke 16 (kNo h11 [2])) (fun h12=>kc 4 (kB 29 h12 (fun h13=>RJ.seg 12 [2] (L2:=[(2, .bool true)]) (H2:=[]) (by kernel_rfl) (kE (kNo h13 [2]))) (fun h14=>RJ.seg 4 [0,2,33] (L2:=[(0,iL x0),(2, .bool false),(33, .bool (decide (x0=8239)))]) (H2:=[]) (by kernel_rfl) (kB 33 h14 (fun h15=>ke 8 (kNo h15 [2])) (fun h16=>kc 4 (kB 37 h16 (fun h17=>ke 4 (kNo h17 [2])) (fun h18=>ke 4 (kNo h18 [2])))))))))))) (fun h8=>kc 9 (kB 25 h8 (fun h19=>ke 16 (kNo h19 [2])) (fun h20=>kc 4 (kB 29 h20 (fun h21=>ke 12 (kNo h21 [2])) (fun h22=>kc 4 (kB 33 h22 (fun h23=>RJ.seg 8 [2] (L2:=[(2, .bool true)]) (H2:=[]) (by kernel_rfl) (kE (kNo h23 [2]))) (fun h24=>RJ.seg 4 [0,2,37] (L2:=[(0,iL x0),(2, .bool false),(37, .bool (decide (x0=8287)))]) (H2:=[]) (by kernel_rfl) (kB 37 h24 (fun h25=>ke 4 (kNo h25 [2])) (fun h26=>ke 4 (kNo h26 [2])))))))))))))))))) (fun s0 h0=>kX (by cases h0;exact kZ H D W)))
def b0X:Option (List Int):=
 (some ([48,1632,1776,1984,2406,2534,2662,2790,2918,3046,3174,3302,3430,3664,3792,3872,6112,6160,65296,120782]:List Int))
theorem f0u {r:List Int} (h:b0X=some r):SQ 75 [] [] (lR r) []:=by
 refine kFn (fn:=Tryz.f75) (fun F H D W=> ?_)
 unfold b0X at h
 exact kq (kq (kX (by obtain rfl:=oi h;exact PJ.wk (Wk.freeze 0 (n:=([48,1632,1776,1984,2406,2534,2662,2790,2918,3046,3174,3302,3430,3664,3792,3872,6112,6160,65296,120782]:List Int).length) (k:=1) (e:=21) (cs:=([48,1632,1776,1984,2406,2534,2662,2790,2918,3046,3174,3302,3430,3664,3792,3872,6112,6160,65296,120782]:List Int).flatMap (a0u .i32)) (by kernel_rfl)) (kZ H D W))))
def c0Y(x0:Int):Option (Int×Bool):=
 (Option.bind b0X fun y0=>(Option.bind (a0s (fun(s0:Int)=>(bif(decide (s0<(y0.length:Int)))then(Option.bind (a0s (fun(s1:Int)=>(bif(decide (s1<10))then(bif inR s0 y0.length then(bif(decide (((IntKind.wrap .i64 ((IntKind.wrap .i64 (nth y0 s0))+s1)))=(IntKind.wrap .i64 x0)))then(some (.inr (.inr (.inr (.inr (s1,true))))))else(some (.inl (IntKind.wrap .i64 (s1+1)))))else none)else(some (.inr (.inl ()))))) big 0) (a0g fun(s2:Unit)=>(some (.inl (IntKind.wrap .i64 (s0+1))))))else(some (.inr (.inl ()))))) big 0) (a0g fun(s3:Unit)=>(some (0,false)))))
theorem k0e {x0:Int} {r:Int×Bool} (h:c0Y x0=some r):SQ 74 [iM x0] [] (.tup [iL r.1, .bool r.2]) []:=by
 refine kFn (fn:=Tryz.f74) (fun F H D W=> ?_)
 unfold c0Y at h
 exact kq (kSR (kAb 7 h (fun _=>f0u) (fun y0 h0=>kr 1 (kcX h0 (fun(s3:Unit)=>([(2,iL 0),(3, .bool false)],[])) (fun y1 hy0 h1=>kq (kb 0 (kl (fun(s0:Int)=>([(0,iM x0),(2,iL 0),(3, .bool false),(4,lR y0),(5,iL s0)],[])) hy0 [0,2,3,4,5] (fun s0 x544 hs0=>kS (kq (kBT 11 hs0 (fun h3=>kKN (kcX h3 (fun(s2:Unit)=>([(0,iM x0),(2,iL 0),(3, .bool false),(4,lR y0),(5,iL s0)],[])) (fun y2 hy1 h5=>kb 1 (kq (kb 2 (kl (fun(s1:Int)=>([(0,iM x0),(2,iL 0),(3, .bool false),(4,lR y0),(5,iL s0),(6,iL s1)],[])) hy1 [0,2,3,4,5,6] (fun s1 x633 hs1=>kS (kq (kBT 15 hs1 (fun h7=>kKN (kS (kb 3 (kn 2 (kIb 20 (a0v .i32) h7 (fun h9=>kr 7 (kBT 27 h9 (fun h10=>kq (kXp (kLx h10 (fun h12=>PJ.blockRet (PJ.blockRet (kCx h12 h5 (fun h13=>kLx h13 (fun h14=>PJ.blockRet (kCx h14 h1 (fun h15=>by obtain rfl:=oi h15;exact kZ H D W)))))))))) (fun h11=>kKn (kM (kLo h11 [0,2,3,4,5,6])))))))))) (fun h8=>kEp 2 (kLx h8 (fun h16=>PJ.blockOut (PJ.blockNormal (kXo h16 [0,2,3,4,5])))))))))))) (fun s2 h6=>kM (kLo h6 [0,2,3,4,5])))) (fun h4=>kEp 0 (kLx h4 (fun h17=>PJ.blockOut (kXo h17 [2,3])))))))))) (fun s3 h2=>kq (kX (by cases h2;exact kZ H D W)))))))
def c0s(x0:Int):Option (Int):=
 (Option.bind (a0B x0) fun y3=>(Option.bind (c0y (IntKind.wrap .i64 x0)) fun y2=>(Option.bind (c0X (IntKind.wrap .i64 x0)) fun y0=>(Option.bind (c0Y x0) fun y1=>(bif(!y3)then(some 6)else(Option.bind (Option.bind (bif(decide ((IntKind.wrap .i64 x0)<32))then(some true)else(bif(decide ((IntKind.wrap .i64 x0)≥127))then(some ((decide ((IntKind.wrap .i64 x0)≤159))))else(some false))) fun(s0:Bool)=>(bif s0 then(some (.inr 1))else(some (.inl ())))) (a0g fun(s2:Unit)=>(bif y2 then(some 2)else(Option.bind (Option.bind (bif(decide ((IntKind.wrap .i64 x0)≥64976))then(bif(decide ((IntKind.wrap .i64 x0)≤65007))then(some true)else(some ((decide ((Int.tmod (IntKind.wrap .i64 x0) 65536)≥65534)))))else(some ((decide ((Int.tmod (IntKind.wrap .i64 x0) 65536)≥65534))))) fun(s1:Bool)=>(bif s1 then(some (.inr 3))else(some (.inl ())))) (a0g fun(s3:Unit)=>(bif y0 then(some 4)else(bif y1.2 then(some 5)else(some 0)))))))))))))
theorem d0U {x0 r:Int} (h:c0s x0=some r):SQ 35 [iM x0] [] (iL r) []:=by
 refine kFn (fn:=Tryz.f35) (fun F H D W=> ?_)
 unfold c0s at h
 exact kq (kq (kn 1 (kAb 12 h (fun _=>d0a) (fun y3 h0=>kr 1 (kn 1 (kAb 14 h0 (fun _=>i0K) (fun y2 h1=>kr 1 (kn 1 (kAb 16 h1 (fun _=>k0d) (fun y0 h2=>kr 1 (kSR (RJ.seg 1 [2,3,4,5,6,18] (L2:=[(2,iL 0),(3,iL (IntKind.wrap .i64 x0)),(4, .bool y3),(5, .bool y2),(6, .bool y0),(18,iM x0)]) (H2:=[]) (by kernel_rfl) (kAb 19 h2 (fun _=>k0e) (fun y1 h3=>kr 5 (kS (kq (kBT 23 h3 (fun h4=>kq (kX (PJ.passRet (by cases h4;exact kZ H D W)))) (fun h5=>kKN (kcX h5 (fun(s2:Unit)=>([(2,iL 0),(3,iL (IntKind.wrap .i64 x0)),(5, .bool y2),(6, .bool y0),(8, .bool y1.2)],[])) (fun y4 hy0 h6=>kcN hy0 (fun(s0:Bool)=>([(2,iL 0),(3,iL (IntKind.wrap .i64 x0)),(5, .bool y2),(6, .bool y0),(8, .bool y1.2),(33, .bool s0)],[])) (fun s0 hy1=>km 3 (kB 26 hy1 (fun h9=>ke 7 (kNo h9 [2,3,5,6,8,33])) (fun h10=>kc 3 (kB 29 h10 (fun h11=>ke 4 (kNo h11 [2,3,5,6,8,33])) (fun h12=>ke 4 (kNo h12 [2,3,5,6,8,33])))))) (fun s0 h8=>kBT 33 h8 (fun h13=>kq (kX (kCx h13 h6 (fun h15=>by obtain rfl:=oi h15;exact kZ H D W)))) (fun h14=>kK (kXo h14 [2,3,5,6,8])))) (fun s2 h7=>kS (kq (kBT 34 h7 (fun h16=>kq (kX (PJ.passRet (by cases h16;exact kZ H D W)))) (fun h17=>kKN (kcX h17 (fun(s3:Unit)=>([(2,iL 0),(6, .bool y0),(8, .bool y1.2)],[])) (fun y5 hy2 h18=>kcN hy2 (fun(s1:Bool)=>([(2,iL 0),(6, .bool y0),(8, .bool y1.2),(45, .bool s1)],[])) (fun s1 hy3=>km 3 (kB 37 hy3 (fun h21=>kc 4 (kB 41 h21 (fun h23=>ke 4 (kNo h23 [2,6,8,45])) (fun h24=>ke 4 (kNo h24 [2,6,8,45])))) (fun h22=>ke 8 (kNo h22 [2,6,8,45])))) (fun s1 h20=>kBT 45 h20 (fun h25=>kq (kX (kCx h25 h18 (fun h27=>by obtain rfl:=oi h27;exact kZ H D W)))) (fun h26=>kK (kXo h26 [2,6,8])))) (fun s3 h19=>kS (kq (kBT 46 h19 (fun h28=>kq (kX (PJ.passRet (by cases h28;exact kZ H D W)))) (fun h29=>kKN (kS (kq (kBT 47 h29 (fun h30=>kq (kX (PJ.passRet (by cases h30;exact kZ H D W)))) (fun h31=>kKN (kq (kX (by cases h31;exact kZ H D W)))))))))))))))))))))))))))))))))))
def d0v(x0:Int):Option (Bool):=
 (Option.bind b0X fun y0=>(Option.bind (a0s (fun(s0:Int)=>(bif(decide (s0<(y0.length:Int)))then(bif inR s0 y0.length then(bif(decide ((nth y0 s0)=x0))then(some (.inr (.inr true)))else(some (.inl (IntKind.wrap .i64 (s0+1)))))else none)else(some (.inr (.inl ()))))) big 0) (a0g fun(s1:Unit)=>(some false))))
theorem k0N {x0:Int} {r:Bool} (h:d0v x0=some r):SQ 36 [iM x0] [] (.bool r) []:=by
 refine kFn (fn:=Tryz.f36) (fun F H D W=> ?_)
 unfold d0v at h
 exact kq (kSR (kAb 5 h (fun _=>f0u) (fun y0 h0=>kr 1 (kcX h0 (fun(s1:Unit)=>([(2, .bool false)],[])) (fun y1 hy0 h1=>kq (kb 0 (kl (fun(s0:Int)=>([(0,iM x0),(2, .bool false),(3,lR y0),(4,iL s0)],[])) hy0 [0,2,3,4] (fun s0 x74 hs0=>kS (kq (kBT 9 hs0 (fun h3=>kKN (kS (kb 1 (kn 2 (kIb 14 (a0v .i32) h3 (fun h5=>kr 3 (kBT 17 h5 (fun h6=>kq (kXp (kLx h6 (fun h8=>PJ.blockRet (kCx h8 h1 (fun h9=>by obtain rfl:=oi h9;exact kZ H D W)))))) (fun h7=>kKn (kM (kLo h7 [0,2,3,4])))))))))) (fun h4=>kEp 0 (kLx h4 (fun h10=>PJ.blockOut (kXo h10 [2])))))))))) (fun s1 h2=>kq (kX (by cases h2;exact kZ H D W)))))))
def d0u(x0:c0n):Option (Bool):=
 (Option.bind (a0s (fun(s0:Int)=>(bif(decide (s0<(([x0.B_,x0.z_,x0.w_,x0.v_,x0.u_,x0.d_]:List Int).length:Int)))then(Option.bind (bif inR s0 ([x0.B_,x0.z_,x0.w_,x0.v_,x0.u_,x0.d_]:List Int).length then(bif inR s0 ([x0.B_,x0.z_,x0.w_,x0.v_,x0.u_,x0.d_]:List Int).length then(Option.bind (c0s (nth ([x0.B_,x0.z_,x0.w_,x0.v_,x0.u_,x0.d_]:List Int) s0)) fun y0=>(Option.bind (Option.bind (bif(decide (¬y0=0))then(some (decide (¬y0=4)))else(some false)) fun(s2:Bool)=>(bif s2 then(some (.inr (.inr (.inr (.inr false)))))else(some (.inl ())))) (a0g fun(s3:Unit)=>(a0s (fun(s1:Int)=>(bif(decide (s1<s0))then(bif inR s1 ([x0.B_,x0.z_,x0.w_,x0.v_,x0.u_,x0.d_]:List Int).length then(bif inR s1 ([x0.B_,x0.z_,x0.w_,x0.v_,x0.u_,x0.d_]:List Int).length then(bif inR s0 ([x0.B_,x0.z_,x0.w_,x0.v_,x0.u_,x0.d_]:List Int).length then(bif inR s0 ([x0.B_,x0.z_,x0.w_,x0.v_,x0.u_,x0.d_]:List Int).length then(bif(decide ((nth ([x0.B_,x0.z_,x0.w_,x0.v_,x0.u_,x0.d_]:List Int) s1)=(nth ([x0.B_,x0.z_,x0.w_,x0.v_,x0.u_,x0.d_]:List Int) s0)))then(some (.inr (.inr (.inr (.inr false)))))else(some (.inl (IntKind.wrap .i64 (s1+1)))))else none)else none)else none)else none)else(some (.inr (.inl ()))))) big 0))))else none)else none) (a0g fun(s4:Unit)=>(some (.inl (IntKind.wrap .i64 (s0+1))))))else(some (.inr (.inl ()))))) big 0) (a0g fun(s5:Unit)=>(Option.bind (d0v x0.E_) fun y1=>(some y1))))
theorem k0K {x0:c0n} {r:Bool} (h:d0u x0=some r):SQ 10 [.agg (a0d x0)] [] (.bool r) []:=by
 refine kFn (fn:=Tryz.f10) (fun F H D W=> ?_)
 unfold d0u at h
 refine kq (kq (kcX h (fun(s5:Unit)=>([(1, .ptr 0 0),(2, .bool false)],[.box (a0d x0)])) (fun y2 hy0 h0=> ?_) (fun s5 h2=> ?_)))
 ·refine kq (kb 0 (kl (fun(s0:Int)=>([(1, .ptr 0 0),(2, .bool false),(3, .vc 1),(4,iL s0)],[.box (a0d x0),a0z (a0u .i32) 1 21 ([x0.B_,x0.z_,x0.w_,x0.v_,x0.u_,x0.d_]:List Int)])) hy0 [1,2,3,4] (fun s0 x1111 hs0=>kS (kq (kBT 23 hs0 (fun h3=> ?_) (fun h4=> ?_))))))
  ·refine kKN (kcX h3 (fun(s4:Unit)=>([(1, .ptr 0 0),(2, .bool false),(3, .vc 1),(4,iL s0)],[.box (a0d x0),a0z (a0u .i32) 1 21 ([x0.B_,x0.z_,x0.w_,x0.v_,x0.u_,x0.d_]:List Int)])) (fun y3 hy1 h1=> ?_) (fun s4 h5=> ?_))
   ·refine kb 1 (kn 2 ?_)
    obtain⟨hm,h6⟩:=b0y hy1
    refine kQ 28 (.ptr 1 ((s0:Int).toNat*1)) [1] (tr2:=[]) hm ?_
    obtain⟨hm,h7⟩:=b0y h6
    refine RJ.rel (d:=(some 29)) (ef:=⟨(((([x0.B_,x0.z_,x0.w_,x0.v_,x0.u_,x0.d_]:List Int)).flatMap (a0u .i32)).drop ((s0:Int).toNat*1)).headD .undef,[1],[]⟩) (ef':=⟨iM (nth ([x0.B_,x0.z_,x0.w_,x0.v_,x0.u_,x0.d_]:List Int) s0),[1],[]⟩) (c:=Nat.blt ((s0:Int).toNat*1) (([x0.B_,x0.z_,x0.w_,x0.v_,x0.u_,x0.d_]:List Int).flatMap (a0u .i32)).length) (tr2:=[]) (H2:=[.box (a0d x0),a0z (a0u .i32) 1 21 ([x0.B_,x0.z_,x0.w_,x0.v_,x0.u_,x0.d_]:List Int)]) (by kernel_rfl) (h0s (a0v .i32) rfl hm) (fun hc=>N.load1 (a0v .i32) (fun _=>rfl) hm) (by kernel_rfl) (kAb 30 h7 (fun _=>d0U) (fun y0 h8=>kr 1 (kcX h8 (fun(s3:Unit)=>([(1, .ptr 0 0),(2, .bool false),(3, .vc 1),(4,iL s0)],[.box (a0d x0),a0z (a0u .i32) 1 21 ([x0.B_,x0.z_,x0.w_,x0.v_,x0.u_,x0.d_]:List Int)])) (fun y4 hy2 h9=> ?_) (fun s3 h10=> ?_))))
    ·exact kcN hy2 (fun(s2:Bool)=>([(1, .ptr 0 0),(2, .bool false),(3, .vc 1),(4,iL s0),(36, .bool s2)],[.box (a0d x0),a0z (a0u .i32) 1 21 ([x0.B_,x0.z_,x0.w_,x0.v_,x0.u_,x0.d_]:List Int)])) (fun s2 hy3=>km 3 (kB 33 hy3 (fun h12=>ke 3 (kNo h12 [1,2,3,4,36])) (fun h13=>ke 3 (kNo h13 [1,2,3,4,36])))) (fun s2 h11=>kBT 36 h11 (fun h14=>kq (kX (kCx h14 h9 (fun h16=>PJ.blockRet (kCx h16 h1 (fun h17=>kLx h17 (fun h18=>PJ.blockRet (kCx h18 h0 (fun h19=>by obtain rfl:=oi h19;exact kZ H D W))))))))) (fun h15=>kK (kXo h15 [1,2,3,4])))
    ·refine kq (kb 2 (kl (fun(s1:Int)=>([(1, .ptr 0 0),(2, .bool false),(3, .vc 1),(4,iL s0),(6,iL s1)],[.box (a0d x0),a0z (a0u .i32) 1 21 ([x0.B_,x0.z_,x0.w_,x0.v_,x0.u_,x0.d_]:List Int)])) h10 [1,2,3,4,6] (fun s1 x1311 hs1=>kS (kq (kBT 39 hs1 (fun h20=> ?_) (fun h21=> ?_))))))
     ·refine kKN (kS (kb 3 (kS (kDr (kD 2 ?_)))))
      obtain⟨hm,h22⟩:=b0y h20
      refine kQ 44 (.ptr 1 ((s1:Int).toNat*1)) [1] (tr2:=[([],[]),([],[]),([3],[])]) hm ?_
      obtain⟨hm,h23⟩:=b0y h22
      refine RJ.rel (d:=(some 45)) (ef:=⟨(((([x0.B_,x0.z_,x0.w_,x0.v_,x0.u_,x0.d_]:List Int)).flatMap (a0u .i32)).drop ((s1:Int).toNat*1)).headD .undef,[1],[]⟩) (ef':=⟨iM (nth ([x0.B_,x0.z_,x0.w_,x0.v_,x0.u_,x0.d_]:List Int) s1),[1],[]⟩) (c:=Nat.blt ((s1:Int).toNat*1) (([x0.B_,x0.z_,x0.w_,x0.v_,x0.u_,x0.d_]:List Int).flatMap (a0u .i32)).length) (tr2:=[([],[]),([],[]),([3],[]),([2,3],[])]) (H2:=[.box (a0d x0),a0z (a0u .i32) 1 21 ([x0.B_,x0.z_,x0.w_,x0.v_,x0.u_,x0.d_]:List Int)]) (by kernel_rfl) (h0s (a0v .i32) rfl hm) (fun hc=>N.load1 (a0v .i32) (fun _=>rfl) hm) (by kernel_rfl) (kD 2 ?_)
      obtain⟨hm,h24⟩:=b0y h23
      refine kQ 48 (.ptr 1 ((s0:Int).toNat*1)) [1] (tr2:=[([],[]),([],[]),([3],[]),([2,3],[]),([],[]),([],[]),([3],[])]) hm ?_
      obtain⟨hm,h25⟩:=b0y h24
      exact RJ.rel (d:=(some 49)) (ef:=⟨(((([x0.B_,x0.z_,x0.w_,x0.v_,x0.u_,x0.d_]:List Int)).flatMap (a0u .i32)).drop ((s0:Int).toNat*1)).headD .undef,[1],[]⟩) (ef':=⟨iM (nth ([x0.B_,x0.z_,x0.w_,x0.v_,x0.u_,x0.d_]:List Int) s0),[1],[]⟩) (c:=Nat.blt ((s0:Int).toNat*1) (([x0.B_,x0.z_,x0.w_,x0.v_,x0.u_,x0.d_]:List Int).flatMap (a0u .i32)).length) (tr2:=[([],[]),([],[]),([3],[]),([2,3],[]),([],[]),([],[]),([3],[]),([2,3],[])]) (H2:=[.box (a0d x0),a0z (a0u .i32) 1 21 ([x0.B_,x0.z_,x0.w_,x0.v_,x0.u_,x0.d_]:List Int)]) (by kernel_rfl) (h0s (a0v .i32) rfl hm) (fun hc=>N.load1 (a0v .i32) (fun _=>rfl) hm) (by kernel_rfl) (kD 1 (kEN (kBT 50 h25 (fun h26=>kq (kXp (kLx h26 (fun h28=>PJ.blockRet (PJ.blockRet (kCx h28 h1 (fun h29=>kLx h29 (fun h30=>PJ.blockRet (kCx h30 h0 (fun h31=>by obtain rfl:=oi h31;exact kZ H D W)))))))))) (fun h27=>kKn (kM (kLo h27 [1,2,3,4,6]))))))
     ·exact kEp 2 (kLx h21 (fun h32=>PJ.blockOut (PJ.blockNormal (kXo h32 [1,2,3,4]))))
   ·exact kM (kLo h5 [1,2,3,4])
  ·exact kEp 0 (kLx h4 (fun h33=>PJ.blockOut (kXW h33 D W [0])))
 ·exact kn 2 (kAb 53 h2 (fun _=>k0N) (fun y1 h34=>kr 1 (kX (by cases h34;exact kZ H D W))))
def a0p(x0:List Int)(x1 x2 x3:Int):Option (Int):=
 (bif(decide ((IntKind.wrap .i64 (x1+x2))≥(x0.length:Int)))then(some (-1))else(Option.bind (a0s (fun(s0:Int×Int)=>(bif(decide (s0.2≤x2))then(Option.bind (bif inR (IntKind.wrap .i64 (x1+s0.2)) x0.length then(Option.bind (Option.bind (bif(decide (((IntKind.wrap .i64 ((nth x0 (IntKind.wrap .i64 (x1+s0.2))))))<128))then(some true)else(some ((decide (((IntKind.wrap .i64 ((nth x0 (IntKind.wrap .i64 (x1+s0.2))))))>191))))) fun(s1:Bool)=>(bif s1 then(some (.inr (.inr (.inr (.inr (-1))))))else(some (.inl ())))) (a0g fun(s3:Unit)=>(some (.inl ()))))else none) (a0g fun(s4:Unit)=>(some (.inl ((IntKind.wrap .i64 (((IntKind.wrap .i64 ((IntKind.wrap .i64 (s0.1*64))+((IntKind.wrap .i64 ((nth x0 (IntKind.wrap .i64 (x1+s0.2)))))))))-128)),(IntKind.wrap .i64 (s0.2+1)))))))else(some (.inr (.inl s0.1))))) big (x3,1)) (a0g fun(s2:Int)=>(some s2))))
theorem e0n {x0:List Int} {x1 x2 x3 r:Int} (h:a0p x0 x1 x2 x3=some r):SQ 110 [lB x0,iL x1,iL x2,iL x3] [] (iL r) []:=by
 refine kFn (fn:=Tryz.f110) (fun F H D W=> ?_)
 unfold a0p at h
 exact kq (kS (kq (kBT 16 h (fun h0=>kq (kX (PJ.passRet (by cases h0;exact kZ H D W)))) (fun h1=>kKN (kcX h1 (fun(s2:Int)=>([(3,iL s2),(8,iL 0)],[])) (fun y0 hy0 h2=>kq (kb 0 (kl (fun(s0:Int×Int)=>([(0,lB x0),(1,iL x1),(2,iL x2),(3,iL s0.1),(8,iL 0),(9,iL s0.2)],[])) hy0 [0,1,2,3,8,9] (fun s0 x504 hs0=>kS (kq (kBT 19 hs0 (fun h4=>kKN (kcX h4 (fun(s4:Unit)=>([(0,lB x0),(1,iL x1),(2,iL x2),(3,iL ((IntKind.wrap .i64 (((IntKind.wrap .i64 ((IntKind.wrap .i64 (s0.1*64))+((IntKind.wrap .i64 ((nth x0 (IntKind.wrap .i64 (x1+s0.2)))))))))-128)))),(8,iL 0),(9,iL s0.2)],[])) (fun y1 hy1 h6=>kb 1 (kn 4 (kIb 26 (a0v .u8) hy1 (fun h8=>kr 3 (kcX h8 (fun(s3:Unit)=>([(0,lB x0),(1,iL x1),(2,iL x2),(3,iL s0.1),(8,iL 0),(9,iL s0.2),(10,iL ((IntKind.wrap .i64 ((nth x0 (IntKind.wrap .i64 (x1+s0.2)))))))],[])) (fun y2 hy2 h9=>kcN hy2 (fun(s1:Bool)=>([(0,lB x0),(1,iL x1),(2,iL x2),(3,iL s0.1),(8,iL 0),(9,iL s0.2),(10,iL ((IntKind.wrap .i64 ((nth x0 (IntKind.wrap .i64 (x1+s0.2))))))),(34, .bool s1)],[])) (fun s1 hy3=>km 3 (kB 31 hy3 (fun h12=>ke 3 (kNo h12 [0,1,2,3,8,9,10,34])) (fun h13=>ke 3 (kNo h13 [0,1,2,3,8,9,10,34])))) (fun s1 h11=>kBT 34 h11 (fun h14=>kq (kX (kCx h14 h9 (fun h16=>PJ.blockRet (kCx h16 h6 (fun h17=>kLx h17 (fun h18=>PJ.blockRet (kCx h18 h2 (fun h19=>by obtain rfl:=oi h19;exact kZ H D W))))))))) (fun h15=>kK (kXo h15 [0,1,2,3,8,9,10])))) (fun s3 h10=>kM (PJ.blockNormal (kXo h10 [0,1,2,3,8,9])))))))) (fun s4 h7=>kM (kLo h7 [0,1,2,3,8,9])))) (fun h5=>kEp 0 (kLx h5 (fun h20=>PJ.blockOut (kXo h20 [3,8])))))))))) (fun s2 h3=>kq (kX (by cases h3;exact kZ H D W))))))))
def a0S(x0:List Int)(x1:Int):Option (Int):=
 (bif inR x1 x0.length then(Option.bind (bif(decide ((IntKind.wrap .i64 (nth x0 x1))<128))then(some (IntKind.wrap .i64 (nth x0 x1)))else(some (-1))) fun(s3:Int)=>(Option.bind (Option.bind (bif(decide ((IntKind.wrap .i64 (nth x0 x1))≥192))then(some ((decide ((IntKind.wrap .i64 (nth x0 x1))<224))))else(some false)) fun(s4:Bool)=>(bif s4 then(Option.bind (a0p x0 x1 1 ((IntKind.wrap .i64 ((IntKind.wrap .i64 (nth x0 x1))-192)))) fun y0=>(some (y0,128)))else(some (s3,0)))) fun(s1:Int×Int)=>(Option.bind (Option.bind (bif(decide ((IntKind.wrap .i64 (nth x0 x1))≥224))then(some ((decide ((IntKind.wrap .i64 (nth x0 x1))<240))))else(some false)) fun(s5:Bool)=>(bif s5 then(Option.bind (a0p x0 x1 2 ((IntKind.wrap .i64 ((IntKind.wrap .i64 (nth x0 x1))-224)))) fun y1=>(some (y1,2048)))else(some (s1.1,s1.2)))) fun(s2:Int×Int)=>(Option.bind (Option.bind (bif(decide ((IntKind.wrap .i64 (nth x0 x1))≥240))then(some ((decide ((IntKind.wrap .i64 (nth x0 x1))<248))))else(some false)) fun(s6:Bool)=>(bif s6 then(Option.bind (a0p x0 x1 3 ((IntKind.wrap .i64 ((IntKind.wrap .i64 (nth x0 x1))-240)))) fun y2=>(some (y2,65536)))else(some (s2.1,s2.2)))) fun(s0:Int×Int)=>(Option.bind (a0B (IntKind.wrap .i32 s0.1)) fun y3=>(Option.bind (Option.bind (bif(decide (s0.1<s0.2))then(some true)else(some (!y3))) fun(s7:Bool)=>(bif s7 then(some (.inr (-1)))else(some (.inl ())))) (a0g fun(s8:Unit)=>(some s0.1))))))))else none)
theorem l0l {x0:List Int} {x1 r:Int} (h:a0S x0 x1=some r):SQ 61 [lB x0,iL x1] [] (iL r) []:=by
 refine kFn (fn:=Tryz.f61) (fun F H D W=> ?_)
 unfold a0S at h
 exact kq (kn 2 (kIb 11 (a0v .u8) h (fun h0=>kr 3 (kq (kq (kcN h0 (fun(s3:Int)=>([(0,lB x0),(1,iL x1),(4,iL 0),(5,iL (IntKind.wrap .i64 (nth x0 x1))),(6,iL s3),(7,iL 0)],[])) (fun s3 hy0=>kq (kBT 15 hy0 (fun h2=>kM (kNo h2 [0,1,4,5,6,7])) (fun h3=>kK (kNo h3 [0,1,4,5,6,7])))) (fun s3 h1=>kcN h1 (fun(s1:Int×Int)=>([(0,lB x0),(1,iL x1),(4,iL 0),(5,iL (IntKind.wrap .i64 (nth x0 x1))),(6,iL s1.1),(7,iL s1.2)],[])) (fun s1 hy1=>kcN hy1 (fun(s4:Bool)=>([(0,lB x0),(1,iL x1),(4,iL 0),(5,iL (IntKind.wrap .i64 (nth x0 x1))),(6,iL s3),(7,iL 0),(22, .bool s4)],[])) (fun s4 hy2=>km 3 (kB 19 hy2 (fun h6=>ke 3 (kNo h6 [0,1,4,5,6,7,22])) (fun h7=>ke 3 (kNo h7 [0,1,4,5,6,7,22])))) (fun s4 h5=>kBT 22 h5 (fun h8=>kn 4 (kAb 27 h8 (fun _=>e0n) (fun y0 h10=>kr 1 (kM (kNo h10 [0,1,4,5,6,7]))))) (fun h9=>kK (kNo h9 [0,1,4,5,6,7])))) (fun s1 h4=>kcN h4 (fun(s2:Int×Int)=>([(0,lB x0),(1,iL x1),(4,iL 0),(5,iL (IntKind.wrap .i64 (nth x0 x1))),(6,iL s2.1),(7,iL s2.2)],[])) (fun s2 hy3=>kcN hy3 (fun(s5:Bool)=>([(0,lB x0),(1,iL x1),(4,iL 0),(5,iL (IntKind.wrap .i64 (nth x0 x1))),(6,iL s1.1),(7,iL s1.2),(33, .bool s5)],[])) (fun s5 hy4=>km 3 (kB 30 hy4 (fun h13=>ke 3 (kNo h13 [0,1,4,5,6,7,33])) (fun h14=>ke 3 (kNo h14 [0,1,4,5,6,7,33])))) (fun s5 h12=>kBT 33 h12 (fun h15=>kn 4 (kAb 38 h15 (fun _=>e0n) (fun y1 h17=>kr 1 (kM (kNo h17 [0,1,4,5,6,7]))))) (fun h16=>kK (kNo h16 [0,1,4,5,6,7])))) (fun s2 h11=>kcN h11 (fun(s0:Int×Int)=>([(4,iL 0),(6,iL s0.1),(7,iL s0.2)],[])) (fun s0 hy5=>kcN hy5 (fun(s6:Bool)=>([(0,lB x0),(1,iL x1),(4,iL 0),(5,iL (IntKind.wrap .i64 (nth x0 x1))),(6,iL s2.1),(7,iL s2.2),(44, .bool s6)],[])) (fun s6 hy6=>km 3 (kB 41 hy6 (fun h20=>ke 3 (kNo h20 [0,1,4,5,6,7,44])) (fun h21=>ke 3 (kNo h21 [0,1,4,5,6,7,44])))) (fun s6 h19=>kBT 44 h19 (fun h22=>kn 4 (kAb 49 h22 (fun _=>e0n) (fun y2 h24=>kr 1 (kM (kNo h24 [4,6,7]))))) (fun h23=>kK (kNo h23 [4,6,7])))) (fun s0 h18=>kn 2 (kAb 52 h18 (fun _=>d0a) (fun y3 h25=>kr 1 (kcX h25 (fun(s8:Unit)=>([(4,iL 0),(6,iL s0.1)],[])) (fun y4 hy7 h26=>kcN hy7 (fun(s7:Bool)=>([(4,iL 0),(6,iL s0.1),(59, .bool s7)],[])) (fun s7 hy8=>km 4 (kB 56 hy8 (fun h29=>ke 3 (kNo h29 [4,6,59])) (fun h30=>ke 3 (kNo h30 [4,6,59])))) (fun s7 h28=>kBT 59 h28 (fun h31=>kq (kX (kCx h31 h26 (fun h33=>by obtain rfl:=oi h33;exact kZ H D W)))) (fun h32=>kK (kXo h32 [4,6])))) (fun s8 h27=>kq (kX (by cases h27;exact kZ H D W))))))))))))))))
def b0k(x0:Int):Option (Int):=
 (Option.bind (a0B x0) fun y0=>(bif(!y0)then(some 0)else(bif(decide (x0<128))then(some 1)else(bif(decide (x0<2048))then(some 2)else(bif(decide (x0<65536))then(some 3)else(some 4))))))
theorem g0q {x0 r:Int} (h:b0k x0=some r):SQ 62 [iM x0] [] (iL r) []:=by
 refine kFn (fn:=Tryz.f62) (fun F H D W=> ?_)
 unfold b0k at h
 exact kq (kn 1 (kAb 5 h (fun _=>d0a) (fun y0 h0=>kr 1 (kS (kq (kBT 7 h0 (fun h1=>kq (kX (PJ.passRet (by cases h1;exact kZ H D W)))) (fun h2=>kKN (kS (kq (kBT 9 h2 (fun h3=>kq (kX (PJ.passRet (by cases h3;exact kZ H D W)))) (fun h4=>kKN (kS (kq (kBT 11 h4 (fun h5=>kq (kX (PJ.passRet (by cases h5;exact kZ H D W)))) (fun h6=>kKN (kS (kq (kBT 13 h6 (fun h7=>kq (kX (PJ.passRet (by cases h7;exact kZ H D W)))) (fun h8=>kKN (kq (kX (by cases h8;exact kZ H D W))))))))))))))))))))))
def a0L(x0:List Int):Option ((List Int)×Int×Int):=
 (Option.bind (a0s (fun(s0:Int×(List Int))=>(bif(decide (s0.1<(x0.length:Int)))then(Option.bind (a0S x0 s0.1) fun y0=>(bif(decide (y0<0))then(some (.inr (.inr (([]:List Int),s0.1,3))))else(bif room (s0.2.length+([(IntKind.wrap .i32 y0)]:List Int).length)then(Option.bind (b0k (IntKind.wrap .i32 y0)) fun y1=>(some (.inl ((IntKind.wrap .i64 (s0.1+y1)),(s0.2++([(IntKind.wrap .i32 y0)]:List Int))))))else none)))else(some (.inr (.inl s0.2))))) big (0,([]:List Int))) (a0g fun(s1:(List Int))=>(some (s1,0,0))))
theorem j0u {x0:List Int} {r:(List Int)×Int×Int} (h:a0L x0=some r):SQ 25 [lB x0] [] (.tup [lR r.1,iL r.2.1,iL r.2.2]) []:=by
 refine kFn (fn:=Tryz.f25) (fun F H D W=> ?_)
 unfold a0L at h
 exact kq (kq (kq (kcX h (fun(s1:(List Int))=>([(2, .nl),(3,iL 0),(4,iL 0),(5, .vc 0)],[a0z (a0u .i32) 1 21 s1])) (fun y2 hy0 h0=>kb 0 (J.wk (Wk.viv 5 1 21 (by kernel_rfl)) (kl (fun(s0:Int×(List Int))=>([(0,lB x0),(2, .nl),(3,iL 0),(4,iL 0),(5, .vc 0),(6,iL s0.1)],[a0z (a0u .i32) 1 21 s0.2])) hy0 [0,2,3,4,5,6] (fun s0 x101 hs0=>kS (kq (kBT 11 hs0 (fun h2=>kKN (kb 1 (kn 2 (kAb 14 h2 (fun _=>l0l) (fun y0 h4=>kr 1 (kS (kq (kBT 16 h4 (fun h5=>kq (kX (PJ.passRet (PJ.blockRet (kLx h5 (fun h7=>PJ.blockRet (kCx h7 h0 (fun h8=>by obtain rfl:=oi h8;exact PJ.res (v1:= .tup [.nl,iL s0.1,iL 3]) (Le.tup (.cons (Le.nl _) (LeL.refl _))) (kZ H D W))))))))) (fun h6=>kKN (kn 4 (kAp 22 0 2 1 21 [0,1] (a0u .i32) h6 (fun h9=>kr 1 (km 3 (kAb 26 h9 (fun _=>g0q) (fun y1 h10=>ke 2 (PJ.blockNormal (kLW h10 D W [2]))))))))))))))))) (fun h3=>kEp 0 (kLx h3 (fun h11=>PJ.blockOut (kXo h11 [2,3,4,5])))))))))) (fun s1 h1=>kq (kX (by obtain rfl:=oi h1;exact PJ.wk (Wk.freeze 0 (n:=s1.length) (k:=1) (e:=21) (cs:=s1.flatMap (a0u .i32)) (by kernel_rfl)) (kZ H D W)))))))
def a0l(x0:List Int)(x1:Int):Option (Int):=
 (bif(decide (x1<(x0.length:Int)))then(bif inR x1 x0.length then(some (nth x0 x1))else none)else(some (-1)))
theorem a0W {x0:List Int} {x1 r:Int} (h:a0l x0 x1=some r):SQ 86 [lR x0,iL x1] [] (iM r) []:=by
 refine kFn (fn:=Tryz.f86) (fun F H D W=> ?_)
 unfold a0l at h
 exact kq (kS (kq (kBT 8 h (fun h0=>kn 2 (kIb 11 (a0v .i32) h0 (fun h2=>kr 2 (kX (PJ.passRet (by cases h2;exact kZ H D W)))))) (fun h1=>kKN (kq (kX (by cases h1;exact kZ H D W)))))))
def a0K(x0:a0y)(x1:List Int)(x2 x3:Int):Option (a0y×Int×Bool):=
 (Option.bind (Option.bind (bif(decide (x0.y_>0))then(some true)else(Option.bind (a0l x1 x2) fun y0=>(some (decide (¬y0=42))))) fun(s0:Bool)=>(bif s0 then(some (.inr (x0,x2,true)))else(some (.inl ())))) (a0g fun(s1:Unit)=>(bif(decide ((IntKind.wrap .i64 (x2+1))≥(x1.length:Int)))then(some (x0,(IntKind.wrap .i64 (x2+1)),false))else(bif inR (IntKind.wrap .i64 (x2+1)) x1.length then(some ((⟨x0.a_,x0.b_,x0.i_,x0.h_,x0.D_,x0.n_,x0.j_,x0.p_,x0.k_,x0.e_,x0.g_,x0.l_,x0.m_,x0.d_,x0.G_,(nth x1 (IntKind.wrap .i64 (x2+1))),x3⟩:a0y),(IntKind.wrap .i64 (x2+2)),true))else none))))
theorem d0D {x0:a0y} {x1:List Int} {x2 x3:Int} {r:a0y×Int×Bool} (h:a0K x0 x1 x2 x3=some r):SQ 124 [.agg (a0c x0),lR x1,iL x2,iL x3] [] (.tup [.agg (a0c r.1),iL r.2.1, .bool r.2.2]) []:=by
 refine kFn (fn:=Tryz.f124) (fun F H D W=> ?_)
 unfold a0K at h
 exact kq (kcX h (fun(s1:Unit)=>([(1,lR x1),(2,iL x2),(3,iL x3),(4, .ptr 0 0),(8, .ptr 1 0),(9,iL 0),(10, .bool false)],[.box (a0c x0), .box [.nl, .nl, .nl, .nl, .bool false,iL 0,iL 0,iL 0,iL 0,iL 0,iL 0,iL 0,iL 0,iL 0, .bool false,iM 0,iL 0]])) (fun y1 hy0 h0=>kcN hy0 (fun(s0:Bool)=>([(1,lR x1),(2,iL x2),(3,iL x3),(4, .ptr 0 0),(8, .ptr 1 0),(9,iL 0),(10, .bool false),(19, .bool s0)],[.box (a0c x0), .box [.nl, .nl, .nl, .nl, .bool false,iL 0,iL 0,iL 0,iL 0,iL 0,iL 0,iL 0,iL 0,iL 0, .bool false,iM 0,iL 0]])) (fun s0 hy1=>km 4 (kB 14 hy1 (fun h3=>ke 5 (kNo h3 [1,2,3,4,8,9,10,19])) (fun h4=>kc 2 (kAb 17 h4 (fun _=>a0W) (fun y0 h5=>ke 2 (kNo h5 [1,2,3,4,8,9,10,19])))))) (fun s0 h2=>kBT 19 h2 (fun h6=>kq (kX (kCx h6 h0 (fun h8=>by obtain rfl:=oi h8;exact kZ H D W)))) (fun h7=>kK (kXo h7 [1,2,3,4,8,9,10])))) (fun s1 h1=>kS (kq (kBT 26 h1 (fun h9=>kq (kX (PJ.passRet (by cases h9;exact kZ H D W)))) (fun h10=>kKN (kn 3 (kIb 33 (a0v .i32) h10 (fun h11=>kr 3 (kq (kq (kX (by cases h11;exact kZ H D W))))))))))))
def c0l(x0:Int):Option (Int):=
 (bif(decide (x0=45))then(some 1)else(bif(decide (x0=43))then(some 2)else(bif(decide (x0=37))then(some 3)else(bif(decide (x0=164))then(some 4)else(some 0)))))
theorem k0M {x0 r:Int} (h:c0l x0=some r):SQ 151 [iM x0] [] (iL r) []:=by
 refine kFn (fn:=Tryz.f151) (fun F H D W=> ?_)
 unfold c0l at h
 exact kq (kS (kq (kb 0 (kq (kBT 4 h (fun h0=>kq (kXp (by cases h0;exact kZ H D W))) (fun h1=>kq (kBT 6 h1 (fun h2=>kq (kXp (by cases h2;exact kZ H D W))) (fun h3=>kq (kBT 8 h3 (fun h4=>kq (kXp (by cases h4;exact kZ H D W))) (fun h5=>kq (kBT 10 h5 (fun h6=>kq (kXp (by cases h6;exact kZ H D W))) (fun h7=>kKn (kq (kX (by cases h7;exact kZ H D W)))))))))))))))
def a0Q(x0:Int):Option (Bool):=
 (Option.bind (Option.bind (bif(decide (x0≥48))then(bif(decide (x0≤57))then(some true)else(some (decide (x0=164))))else(some (decide (x0=164)))) fun(s1:Bool)=>(bif s1 then(some (.inr true))else(some (.inl ())))) (a0g fun(s2:Unit)=>(Option.bind (a0s (fun(s0:Int)=>(bif(decide (s0<11))then(bif inR s0 ([35,64,44,46,59,42,37,45,43,39,69]:List UInt8).length then(bif(decide (((IntKind.wrap .i32 ((((([35,64,44,46,59,42,37,45,43,39,69]:List UInt8).getD (s0:Int).toNat 0).toNat:Nat):Int))))=x0))then(some (.inr (.inr true)))else(some (.inl (IntKind.wrap .i64 (s0+1)))))else none)else(some (.inr (.inl ()))))) big 0) (a0g fun(s3:Unit)=>(some false)))))
theorem f0t {x0:Int} {r:Bool} (h:a0Q x0=some r):SQ 140 [iM x0] [] (.bool r) []:=by
 refine kFn (fn:=Tryz.f140) (fun F H D W=> ?_)
 unfold a0Q at h
 exact kq (kcX h (fun(s2:Unit)=>([(0,iM x0),(2, .bool false)],[])) (fun y0 hy0 h0=>kcN hy0 (fun(s1:Bool)=>([(0,iM x0),(2, .bool false),(13, .bool s1)],[])) (fun s1 hy1=>km 3 (kB 6 hy1 (fun h3=>kc 4 (kB 10 h3 (fun h5=>ke 3 (kNo h5 [0,2,13])) (fun h6=>ke 3 (kNo h6 [0,2,13])))) (fun h4=>ke 7 (kNo h4 [0,2,13])))) (fun s1 h2=>kBT 13 h2 (fun h7=>kq (kX (kCx h7 h0 (fun h9=>by obtain rfl:=oi h9;exact kZ H D W)))) (fun h8=>kK (kXo h8 [0,2])))) (fun s2 h1=>kcX h1 (fun(s3:Unit)=>([(2, .bool false)],[])) (fun y1 hy2 h10=>kq (kb 0 (kl (fun(s0:Int)=>([(0,iM x0),(2, .bool false),(3,iL s0)],[])) hy2 [0,2,3] (fun s0 x118 hs0=>kS (kq (kBT 15 hs0 (fun h12=>kKN (kS (kb 1 (kn 1 (kGb 19 h12 (fun h14=>kr 3 (kBT 22 h14 (fun h15=>kq (kXp (kLx h15 (fun h17=>PJ.blockRet (kCx h17 h10 (fun h18=>by obtain rfl:=oi h18;exact kZ H D W)))))) (fun h16=>kKn (kM (kLo h16 [0,2,3])))))))))) (fun h13=>kEp 0 (kLx h13 (fun h19=>PJ.blockOut (kXo h19 [2])))))))))) (fun s3 h11=>kq (kX (by cases h11;exact kZ H D W)))))
def a0H(x0:List Int)(x1:Int):Option ((List a0b)×Int×Bool):=
 (Option.bind (a0s (fun(s0:Int×(List a0b))=>(bif(decide (s0.1<(x0.length:Int)))then(bif inR s0.1 x0.length then(Option.bind (c0l (nth x0 s0.1)) fun y0=>(Option.bind (a0Q (nth x0 s0.1)) fun y1=>(bif(decide (y0>0))then(bif room (s0.2.length+([(⟨y0,0⟩:a0b)]:List a0b).length)then(some (.inl ((IntKind.wrap .i64 (s0.1+1)),(s0.2++([(⟨y0,0⟩:a0b)]:List a0b)))))else none)else(bif(decide (¬(nth x0 s0.1)=39))then(bif y1 then(some (.inr (.inr (s0.2,s0.1,true))))else(bif room (s0.2.length+(([(⟨0,(nth x0 s0.1)⟩:a0b)]:List a0b)).length)then(some (.inl ((IntKind.wrap .i64 (s0.1+1)),(s0.2++(([(⟨0,(nth x0 s0.1)⟩:a0b)]:List a0b))))))else none))else(Option.bind (a0l x0 (IntKind.wrap .i64 (s0.1+1))) fun y2=>(bif(decide (y2=39))then(bif room (s0.2.length+([(⟨0,39⟩:a0b)]:List a0b).length)then(some (.inl ((IntKind.wrap .i64 (s0.1+2)),(s0.2++([(⟨0,39⟩:a0b)]:List a0b)))))else none)else(Option.bind (a0s (fun(s1:Int×(List a0b))=>(Option.bind (Option.bind (bif(decide (s1.1<(x0.length:Int)))then(bif inR s1.1 x0.length then(bif(decide (¬(nth x0 s1.1)=39))then(some true)else(Option.bind (a0l x0 (IntKind.wrap .i64 (s1.1+1))) fun y3=>(some (decide (y3=39)))))else none)else(some false)) fun(s4:Bool)=>(bif s4 then(some (.inl ()))else(some (.inr (.inr (s1.1,s1.2)))))) (a0g fun(s6:Unit)=>(bif inR s1.1 x0.length then(bif room (s1.2.length+(([(⟨0,(nth x0 s1.1)⟩:a0b)]:List a0b)).length)then(Option.bind (bif inR s1.1 x0.length then(bif(decide ((nth x0 s1.1)=39))then(some (IntKind.wrap .i64 (s1.1+1)))else(some s1.1))else none) fun(s5:Int)=>(some (.inl ((IntKind.wrap .i64 (s5+1)),(s1.2++(([(⟨0,(nth x0 s1.1)⟩:a0b)]:List a0b)))))))else none)else none)))) big ((IntKind.wrap .i64 (s0.1+1)),s0.2)) fun(s2:Int×(List a0b))=>(bif(decide (s2.1≥(x0.length:Int)))then(some (.inr (.inr (([]:List a0b),s0.1,false))))else(some (.inl ((IntKind.wrap .i64 (s2.1+1)),s2.2)))))))))))else none)else(some (.inr (.inl (s0.1,s0.2)))))) big (x1,([]:List a0b))) (a0g fun(s3:Int×(List a0b))=>(some (s3.2,s3.1,true))))
theorem c0W {x0:List Int} {x1:Int} {r:(List a0b)×Int×Bool} (h:a0H x0 x1=some r):SQ 125 [lR x0,iL x1] [] (.tup [lsv a0a 2 r.1,iL r.2.1, .bool r.2.2]) []:=by
 refine kFn (fn:=Tryz.f125) (fun F H D W=> ?_)
 unfold a0H at h
 exact kq (kq (kcX h (fun(s3:Int×(List a0b))=>([(1,iL s3.1),(4, .nl),(5,iL 0),(6, .bool false),(7, .vc 0)],[a0z a0a 2 107 s3.2])) (fun y4 hy0 h0=>kb 0 (J.wk (Wk.viv 7 2 107 (by kernel_rfl)) (kl (fun(s0:Int×(List a0b))=>([(0,lR x0),(1,iL s0.1),(4, .nl),(5,iL 0),(6, .bool false),(7, .vc 0)],[a0z a0a 2 107 s0.2])) hy0 [0,1,4,5,6,7] (fun s0 x2721 hs0=>kS (kq (kBT 15 hs0 (fun h2=>kKN (kb 1 (kn 2 (kIb 18 (a0v .i32) h2 (fun h4=>kr 2 (kn 1 (kAb 21 h4 (fun _=>k0M) (fun y0 h5=>kr 1 (kn 1 (kAb 23 h5 (fun _=>f0t) (fun y1 h6=>kr 1 (kS (kq (kBT 25 h6 (fun h7=>kSR (RJ.seg 4 [0,1,4,5,6,7,8,10,26,29] (L2:=[(0,lR x0),(1,iL s0.1),(4, .nl),(5,iL 0),(6, .bool false),(7, .vc 0),(8,iM (nth x0 s0.1)),(10, .bool y1),(26, .vc 0),(29, .vc 1)]) (H2:=[a0z a0a 2 107 s0.2,a0z a0a 2 107 ([(⟨y0,0⟩:a0b)]:List a0b)]) (by kernel_rfl) (kAp 30 0 2 2 107 [0,1] a0a h7 (fun h9=>kr 1 (kq (kEp 1 (PJ.blockOut (kLW h9 D W [2])))))))) (fun h8=>kKN (kS (kSR (RJ.seg 2 [0,1,4,5,6,7,8,10,34] (L2:=[(0,lR x0),(1,iL s0.1),(4, .nl),(5,iL 0),(6, .bool false),(7, .vc 0),(8,iM (nth x0 s0.1)),(10, .bool y1),(34, .bool ((decide (¬(nth x0 s0.1)=39))))]) (H2:=[a0z a0a 2 107 s0.2]) (by kernel_rfl) (kEN (kBT 34 h8 (fun h10=>kS (kq (kBT 35 h10 (fun h12=>kq (kX (PJ.passRet (PJ.passRet (PJ.blockRet (kLx h12 (fun h14=>PJ.blockRet (kCx h14 h0 (fun h15=>by obtain rfl:=oi h15;exact PJ.wk (Wk.freeze 0 (n:=s0.2.length) (k:=2) (e:=107) (cs:=s0.2.flatMap a0a) (by kernel_rfl)) (kZ H D W)))))))))) (fun h13=>kKN (kn 4 (kAp 42 0 2 2 107 [0,1] a0a h13 (fun h16=>kr 1 (kq (kEp 1 (PJ.blockOut (kLW h16 D W [2]))))))))))) (fun h11=>kKN (kS (kn 3 (kAb 48 h11 (fun _=>a0W) (fun y2 h17=>kr 1 (kBT 49 h17 (fun h18=>kn 3 (kAp 53 0 2 2 107 [0,1] a0a h18 (fun h20=>kr 1 (kq (kEp 1 (PJ.blockOut (kLW h20 D W [2]))))))) (fun h19=>kKN (kq (kq (kcN h19 (fun(s2:Int×(List a0b))=>([(0,lR x0),(1,iL s2.1),(4, .nl),(5,iL 0),(6, .bool false),(7, .vc 0),(11,iL s0.1)],[a0z a0a 2 107 s2.2])) (fun s2 hy1=>kb 2 (kl (fun(s1:Int×(List a0b))=>([(0,lR x0),(1,iL s1.1),(4, .nl),(5,iL 0),(6, .bool false),(7, .vc 0),(11,iL s0.1)],[a0z a0a 2 107 s1.2])) hy1 [0,1,4,5,6,7,11] (fun s1 x3173 hs1=>kcX hs1 (fun(s6:Unit)=>([(0,lR x0),(1,iL s1.1),(4, .nl),(5,iL 0),(6, .bool false),(7, .vc 0),(11,iL s0.1)],[a0z a0a 2 107 s1.2])) (fun y5 hy2 h22=>kcN hy2 (fun(s4:Bool)=>([(0,lR x0),(1,iL s1.1),(4, .nl),(5,iL 0),(6, .bool false),(7, .vc 0),(11,iL s0.1),(76, .bool s4)],[a0z a0a 2 107 s1.2])) (fun s4 hy3=>km 5 (kB 63 hy3 (fun h25=>kc 2 (kIb 66 (a0v .i32) h25 (fun h27=>kc 3 (kB 69 h27 (fun h28=>ke 7 (kNo h28 [0,1,4,5,6,7,11,76])) (fun h29=>kc 3 (kAb 73 h29 (fun _=>a0W) (fun y3 h30=>ke 3 (kNo h30 [0,1,4,5,6,7,11,76])))))))) (fun h26=>ke 13 (kNo h26 [0,1,4,5,6,7,11,76])))) (fun s4 h24=>kBT 76 h24 (fun h31=>kK (kXo h31 [0,1,4,5,6,7,11])) (fun h32=>kEx 2 (kCx h32 h22 (fun h33=>kLx h33 (fun h34=>PJ.blockOut (kNo h34 [0,1,4,5,6,7,11]))))))) (fun s6 h23=>kb 3 (kn 3 (kIb 80 (a0v .i32) h23 (fun h35=>kc 3 (kAp 84 0 2 2 107 [0,1] a0a h35 (fun h36=>kr 1 (kcN h36 (fun(s5:Int)=>([(0,lR x0),(1,iL s5),(4, .nl),(5,iL 0),(6, .bool false),(7, .vc 0),(11,iL s0.1)],[a0z a0a 2 107 ((s1.2++(([(⟨0,(nth x0 s1.1)⟩:a0b)]:List a0b))))])) (fun s5 hy4=>kn 2 (kIb 87 (a0v .i32) hy4 (fun h38=>kr 2 (kBT 89 h38 (fun h39=>kM (kNW h39 D W [2])) (fun h40=>kK (kNW h40 D W [2])))))) (fun s5 h37=>kM (PJ.blockNormal (kLo h37 [0,1,4,5,6,7,11]))))))))))))) (fun s2 h21=>kS (kq (kBT 97 h21 (fun h41=>kq (kX (PJ.passRet (PJ.blockRet (kLx h41 (fun h43=>PJ.blockRet (kCx h43 h0 (fun h44=>by obtain rfl:=oi h44;exact PJ.res (v1:= .tup [.nl,iL s0.1, .bool false]) (Le.tup (.cons (Le.nl _) (LeL.refl _))) (kZ H D W))))))))) (fun h42=>kKN (kM (PJ.blockNormal (kLo h42 [0,1,4,5,6,7]))))))))))))))))))))))))))))))))))))) (fun h3=>kEp 0 (kLx h3 (fun h45=>PJ.blockOut (kXo h45 [1,4,5,6,7])))))))))) (fun s3 h1=>kq (kX (by obtain rfl:=oi h1;exact PJ.wk (Wk.freeze 0 (n:=s3.2.length) (k:=2) (e:=107) (cs:=s3.2.flatMap a0a) (by kernel_rfl)) (kZ H D W))))))
def a0G(x0:List Int)(x1 x2:Int):Option (Int):=
 (Option.bind (a0s (fun(s0:Int)=>(Option.bind (a0l x0 (IntKind.wrap .i64 (x1+s0))) fun y0=>(bif(decide (y0=x2))then(some (.inl (IntKind.wrap .i64 (s0+1))))else(some (.inr s0))))) big 0) fun(s1:Int)=>(some s1))
theorem c0x {x0:List Int} {x1 x2 r:Int} (h:a0G x0 x1 x2=some r):SQ 152 [lR x0,iL x1,iM x2] [] (iL r) []:=by
 refine kFn (fn:=Tryz.f152) (fun F H D W=> ?_)
 unfold a0G at h
 exact kq (kq (kcN h (fun(s1:Int)=>([(6,iL 0),(7,iL s1)],[])) (fun s1 hy0=>kb 0 (kl (fun(s0:Int)=>([(0,lR x0),(1,iL x1),(2,iM x2),(6,iL 0),(7,iL s0)],[])) hy0 [0,1,2,6,7] (fun s0 x51 hs0=>kS (kn 4 (kAb 12 hs0 (fun _=>a0W) (fun y0 h1=>kr 2 (kBT 14 h1 (fun h2=>kKN (kb 1 (kM (PJ.blockNormal (kLo h2 [0,1,2,6,7]))))) (fun h3=>kEp 0 (kLx h3 (fun h4=>PJ.blockOut (kNo h4 [6,7]))))))))))) (fun s1 h0=>kq (kX (by cases h0;exact kZ H D W)))))
def b0p(x0:a0y)(x1:List Int)(x2:Int):Option (a0y×Int×Bool):=
 (a0s (fun(s0:Int×Int×Int×Int×(List Int))=>(Option.bind (a0l x1 s0.1) fun y0=>(Option.bind (a0l x1 (IntKind.wrap .i64 (s0.1+1))) fun y1=>(Option.bind (Option.bind (bif(decide (y0=35))then(some (decide (s0.2.2.2.1=0)))else(some false)) fun(s3:Bool)=>(bif s3 then(some (.inr (.inl ((IntKind.wrap .i64 (s0.1+1)),(IntKind.wrap .i64 (s0.2.1+1)),(IntKind.wrap .i64 (s0.2.2.1+1)),s0.2.2.2.1,s0.2.2.2.2))))else(some (.inl ())))) (a0g fun(s6:Unit)=>(bif(decide (y0=48))then(some (.inl ((IntKind.wrap .i64 (s0.1+1)),(IntKind.wrap .i64 (s0.2.1+1)),s0.2.2.1,(IntKind.wrap .i64 (s0.2.2.2.1+1)),s0.2.2.2.2)))else(Option.bind (Option.bind (bif(decide (y0=44))then(bif(decide (s0.2.1>0))then(bif(decide (y1=48))then(some true)else(bif(decide (y1=35))then(some (decide (s0.2.2.2.1=0)))else(some false)))else(some false))else(some false)) fun(s4:Bool)=>(bif s4 then(Option.bind (Option.bind (bif(decide ((s0.2.2.2.2.length:Int)≥2))then(bif inR 1 s0.2.2.2.2.length then(bif inR 1 s0.2.2.2.2.length then(some ((decide (¬(nth s0.2.2.2.2 1)=s0.2.1))))else none)else none)else(some false)) fun(s5:Bool)=>(bif s5 then(some (.inr (.inr (.inr ((⟨x0.a_,x0.b_,x0.i_,x0.h_,x0.D_,s0.2.2.1,s0.2.2.2.1,x0.p_,x0.k_,x0.e_,x0.g_,x0.l_,x0.m_,x0.d_,x0.G_,x0.f_,x0.y_⟩:a0y),s0.1,false)))))else(some (.inl ())))) (a0g fun(s7:Unit)=>(bif room (s0.2.2.2.2.length+([s0.2.1]:List Int).length)then(some (.inr (.inl ((IntKind.wrap .i64 (s0.1+1)),0,s0.2.2.1,s0.2.2.2.1,(s0.2.2.2.2++([s0.2.1]:List Int))))))else none)))else(some (.inl ())))) (a0g fun(s8:Unit)=>(Option.bind (bif(decide ((s0.2.2.2.2.length:Int)=1))then(some (s0.2.1,s0.2.1))else(some (x0.e_,x0.g_))) fun(s1:Int×Int)=>(Option.bind (bif(decide ((s0.2.2.2.2.length:Int)>1))then(bif inR 1 s0.2.2.2.2.length then(bif inR 1 s0.2.2.2.2.length then(some (s0.2.1,(nth s0.2.2.2.2 1)))else none)else none)else(some (s1.1,s1.2))) fun(s2:Int×Int)=>(some (.inr ((⟨x0.a_,x0.b_,x0.i_,x0.h_,x0.D_,s0.2.2.1,s0.2.2.2.1,x0.p_,x0.k_,s2.1,s2.2,x0.l_,x0.m_,x0.d_,x0.G_,x0.f_,x0.y_⟩:a0y),s0.1,(decide ((IntKind.wrap .i64 (s0.2.2.1+s0.2.2.2.1))>0))))))))))))))) big (x2,0,x0.n_,x0.j_,([]:List Int)))
theorem j0s {x0:a0y} {x1:List Int} {x2:Int} {r:a0y×Int×Bool} (h:b0p x0 x1 x2=some r):SQ 153 [.agg (a0c x0),lR x1,iL x2] [] (.tup [.agg (a0c r.1),iL r.2.1, .bool r.2.2]) []:=by
 refine kFn (fn:=Tryz.f153) (fun F H D W=> ?_)
 unfold b0p at h
 refine kq (kq (kq (kb 0 (J.wk (Wk.viv 9 1 3 (by kernel_rfl)) (kl (fun(s0:Int×Int×Int×Int×(List Int))=>([(1,lR x1),(2,iL s0.1),(3, .ptr 0 0),(6, .ptr 1 0),(7,iL 0),(8, .bool false),(9, .vc 2),(10,iL s0.2.1)],[.box [lsv a0a 2 x0.a_,lsv a0a 2 x0.b_,lsv a0a 2 x0.i_,lsv a0a 2 x0.h_, .bool x0.D_,iL s0.2.2.1,iL s0.2.2.2.1,iL x0.p_,iL x0.k_,iL x0.e_,iL x0.g_,iL x0.l_,iL x0.m_,iL x0.d_, .bool x0.G_,iM x0.f_,iL x0.y_], .box [.nl, .nl, .nl, .nl, .bool false,iL 0,iL 0,iL 0,iL 0,iL 0,iL 0,iL 0,iL 0,iL 0, .bool false,iM 0,iL 0],a0z (a0u .i64) 1 3 s0.2.2.2.2])) h [1,2,3,6,7,8,9,10] (fun s0 x441 hs0=>kb 1 (kn 2 (kAb 15 hs0 (fun _=>a0W) (fun y0 h1=>kr 1 (kn 3 (kAb 19 h1 (fun _=>a0W) (fun y1 h2=>kr 1 (kcX h2 (fun(s6:Unit)=>([(1,lR x1),(2,iL s0.1),(3, .ptr 0 0),(6, .ptr 1 0),(7,iL 0),(8, .bool false),(9, .vc 2),(10,iL s0.2.1),(11,iM y0),(12,iM y1)],[.box [lsv a0a 2 x0.a_,lsv a0a 2 x0.b_,lsv a0a 2 x0.i_,lsv a0a 2 x0.h_, .bool x0.D_,iL s0.2.2.1,iL s0.2.2.2.1,iL x0.p_,iL x0.k_,iL x0.e_,iL x0.g_,iL x0.l_,iL x0.m_,iL x0.d_, .bool x0.G_,iM x0.f_,iL x0.y_], .box [.nl, .nl, .nl, .nl, .bool false,iL 0,iL 0,iL 0,iL 0,iL 0,iL 0,iL 0,iL 0,iL 0, .bool false,iM 0,iL 0],a0z (a0u .i64) 1 3 s0.2.2.2.2])) (fun y2 hy0 h3=> ?_) (fun s6 h4=> ?_))))))))))))))
 ·exact kcN hy0 (fun(s3:Bool)=>([(1,lR x1),(2,iL s0.1),(3, .ptr 0 0),(6, .ptr 1 0),(7,iL 0),(8, .bool false),(9, .vc 2),(10,iL s0.2.1),(11,iM y0),(12,iM y1),(26, .bool s3)],[.box [lsv a0a 2 x0.a_,lsv a0a 2 x0.b_,lsv a0a 2 x0.i_,lsv a0a 2 x0.h_, .bool x0.D_,iL s0.2.2.1,iL s0.2.2.2.1,iL x0.p_,iL x0.k_,iL x0.e_,iL x0.g_,iL x0.l_,iL x0.m_,iL x0.d_, .bool x0.G_,iM x0.f_,iL x0.y_], .box [.nl, .nl, .nl, .nl, .bool false,iL 0,iL 0,iL 0,iL 0,iL 0,iL 0,iL 0,iL 0,iL 0, .bool false,iM 0,iL 0],a0z (a0u .i64) 1 3 s0.2.2.2.2])) (fun s3 hy1=>km 3 (kB 22 hy1 (fun h6=>ke 4 (kNo h6 [1,2,3,6,7,8,9,10,11,12,26])) (fun h7=>ke 4 (kNo h7 [1,2,3,6,7,8,9,10,11,12,26])))) (fun s3 h5=>kBT 26 h5 (fun h8=>kq (kq (kq (kEx 1 (kCx h8 h3 (fun h10=>PJ.blockOut (kLo h10 [1,2,3,6,7,8,9,10]))))))) (fun h9=>kK (kXo h9 [1,2,3,6,7,8,9,10,11,12])))
 ·refine kS (kq (kBT 36 h4 (fun h11=> ?_) (fun h12=> ?_)))
  ·exact kq (kq (kq (kEp 1 (PJ.blockOut (kLo h11 [1,2,3,6,7,8,9,10])))))
  ·refine kKN (kcX h12 (fun(s8:Unit)=>([(1,lR x1),(2,iL s0.1),(3, .ptr 0 0),(6, .ptr 1 0),(7,iL 0),(8, .bool false),(9, .vc 2),(10,iL s0.2.1)],[.box [lsv a0a 2 x0.a_,lsv a0a 2 x0.b_,lsv a0a 2 x0.i_,lsv a0a 2 x0.h_, .bool x0.D_,iL s0.2.2.1,iL s0.2.2.2.1,iL x0.p_,iL x0.k_,iL x0.e_,iL x0.g_,iL x0.l_,iL x0.m_,iL x0.d_, .bool x0.G_,iM x0.f_,iL x0.y_], .box [.nl, .nl, .nl, .nl, .bool false,iL 0,iL 0,iL 0,iL 0,iL 0,iL 0,iL 0,iL 0,iL 0, .bool false,iM 0,iL 0],a0z (a0u .i64) 1 3 s0.2.2.2.2])) (fun y3 hy2 h0=> ?_) (fun s8 h13=> ?_))
   ·refine kcN hy2 (fun(s4:Bool)=>([(1,lR x1),(2,iL s0.1),(3, .ptr 0 0),(6, .ptr 1 0),(7,iL 0),(8, .bool false),(9, .vc 2),(10,iL s0.2.1),(63, .bool s4)],[.box [lsv a0a 2 x0.a_,lsv a0a 2 x0.b_,lsv a0a 2 x0.i_,lsv a0a 2 x0.h_, .bool x0.D_,iL s0.2.2.1,iL s0.2.2.2.1,iL x0.p_,iL x0.k_,iL x0.e_,iL x0.g_,iL x0.l_,iL x0.m_,iL x0.d_, .bool x0.G_,iM x0.f_,iL x0.y_], .box [.nl, .nl, .nl, .nl, .bool false,iL 0,iL 0,iL 0,iL 0,iL 0,iL 0,iL 0,iL 0,iL 0, .bool false,iM 0,iL 0],a0z (a0u .i64) 1 3 s0.2.2.2.2])) (fun s4 hy3=> ?_) (fun s4 h14=> ?_)
    ·exact km 3 (kB 47 hy3 (fun h15=>kc 4 (kB 51 h15 (fun h17=>kc 3 (kB 54 h17 (fun h19=>ke 9 (kNo h19 [1,2,3,6,7,8,9,10,63])) (fun h20=>kc 3 (kB 57 h20 (fun h21=>ke 6 (kNo h21 [1,2,3,6,7,8,9,10,63])) (fun h22=>ke 6 (kNo h22 [1,2,3,6,7,8,9,10,63])))))) (fun h18=>ke 12 (kNo h18 [1,2,3,6,7,8,9,10,63])))) (fun h16=>ke 16 (kNo h16 [1,2,3,6,7,8,9,10,63])))
    ·refine kBT 63 h14 (fun h23=> ?_) (fun h24=> ?_)
     ·refine kcX h23 (fun(s7:Unit)=>([(1,lR x1),(2,iL s0.1),(3, .ptr 0 0),(6, .ptr 1 0),(7,iL 0),(8, .bool false),(9, .vc 2),(10,iL s0.2.1)],[.box [lsv a0a 2 x0.a_,lsv a0a 2 x0.b_,lsv a0a 2 x0.i_,lsv a0a 2 x0.h_, .bool x0.D_,iL s0.2.2.1,iL s0.2.2.2.1,iL x0.p_,iL x0.k_,iL x0.e_,iL x0.g_,iL x0.l_,iL x0.m_,iL x0.d_, .bool x0.G_,iM x0.f_,iL x0.y_], .box [.nl, .nl, .nl, .nl, .bool false,iL 0,iL 0,iL 0,iL 0,iL 0,iL 0,iL 0,iL 0,iL 0, .bool false,iM 0,iL 0],a0z (a0u .i64) 1 3 s0.2.2.2.2])) (fun y4 hy4 h25=> ?_) (fun s7 h26=> ?_)
      ·refine kcN hy4 (fun(s5:Bool)=>([(1,lR x1),(2,iL s0.1),(3, .ptr 0 0),(6, .ptr 1 0),(7,iL 0),(8, .bool false),(9, .vc 2),(10,iL s0.2.1),(73, .bool s5)],[.box [lsv a0a 2 x0.a_,lsv a0a 2 x0.b_,lsv a0a 2 x0.i_,lsv a0a 2 x0.h_, .bool x0.D_,iL s0.2.2.1,iL s0.2.2.2.1,iL x0.p_,iL x0.k_,iL x0.e_,iL x0.g_,iL x0.l_,iL x0.m_,iL x0.d_, .bool x0.G_,iM x0.f_,iL x0.y_], .box [.nl, .nl, .nl, .nl, .bool false,iL 0,iL 0,iL 0,iL 0,iL 0,iL 0,iL 0,iL 0,iL 0, .bool false,iM 0,iL 0],a0z (a0u .i64) 1 3 s0.2.2.2.2])) (fun s5 hy5=> ?_) (fun s5 h27=> ?_)
       ·refine km 4 (kB 67 hy5 (fun h28=> ?_) (fun h29=> ?_))
        ·refine kc 1 ?_
         obtain⟨hm,h30⟩:=b0y h28
         refine kQ 69 (.ptr 2 ((1:Int).toNat*1)) [2] (tr2:=[]) hm ?_
         obtain⟨hm,h31⟩:=b0y h30
         exact RJ.rel (d:=(some 70)) (ef:=⟨(((s0.2.2.2.2).flatMap (a0u .i64)).drop ((1:Int).toNat*1)).headD .undef,[2],[]⟩) (ef':=⟨iL (nth s0.2.2.2.2 1),[2],[]⟩) (c:=Nat.blt ((1:Int).toNat*1) (s0.2.2.2.2.flatMap (a0u .i64)).length) (tr2:=[]) (H2:=[.box [lsv a0a 2 x0.a_,lsv a0a 2 x0.b_,lsv a0a 2 x0.i_,lsv a0a 2 x0.h_, .bool x0.D_,iL s0.2.2.1,iL s0.2.2.2.1,iL x0.p_,iL x0.k_,iL x0.e_,iL x0.g_,iL x0.l_,iL x0.m_,iL x0.d_, .bool x0.G_,iM x0.f_,iL x0.y_], .box [.nl, .nl, .nl, .nl, .bool false,iL 0,iL 0,iL 0,iL 0,iL 0,iL 0,iL 0,iL 0,iL 0, .bool false,iM 0,iL 0],a0z (a0u .i64) 1 3 s0.2.2.2.2]) (by kernel_rfl) (h0s (a0v .i64) rfl hm) (fun hc=>N.load1 (a0v .i64) (fun _=>rfl) hm) (by kernel_rfl) (ke 3 (kNo h31 [1,2,3,6,7,8,9,10,73]))
        ·exact ke 6 (kNo h29 [1,2,3,6,7,8,9,10,73])
       ·exact kBT 73 h27 (fun h32=>kq (kX (kCx h32 h25 (fun h34=>kCx h34 h0 (fun h35=>PJ.blockRet (kLx h35 (fun h36=>PJ.blockRet (by cases h36;exact kZ H D W)))))))) (fun h33=>kK (kXo h33 [1,2,3,6,7,8,9,10]))
      ·exact kn 3 (kAp 79 2 4 1 3 [2,3] (a0u .i64) h26 (fun h37=>kr 1 (kq (kq (kEx 1 (kCx h37 h0 (fun h38=>PJ.blockOut (kLW h38 D W [0,1,4]))))))))
     ·exact kK (kXo h24 [1,2,3,6,7,8,9,10])
   ·refine kcN h13 (fun(s1:Int×Int)=>([(1,lR x1),(2,iL s0.1),(3, .ptr 0 0),(6, .ptr 1 0),(7,iL 0),(8, .bool false),(9, .vc 2),(10,iL s0.2.1)],[.box [lsv a0a 2 x0.a_,lsv a0a 2 x0.b_,lsv a0a 2 x0.i_,lsv a0a 2 x0.h_, .bool x0.D_,iL s0.2.2.1,iL s0.2.2.2.1,iL x0.p_,iL x0.k_,iL s1.1,iL s1.2,iL x0.l_,iL x0.m_,iL x0.d_, .bool x0.G_,iM x0.f_,iL x0.y_], .box [.nl, .nl, .nl, .nl, .bool false,iL 0,iL 0,iL 0,iL 0,iL 0,iL 0,iL 0,iL 0,iL 0, .bool false,iM 0,iL 0],a0z (a0u .i64) 1 3 s0.2.2.2.2])) (fun s1 hy6=> ?_) (fun s1 h39=> ?_)
    ·exact kq (kBT 84 hy6 (fun h40=>kq (kM (kNo h40 [1,2,3,6,7,8,9,10]))) (fun h41=>kK (kNo h41 [1,2,3,6,7,8,9,10])))
    ·refine kcN h39 (fun(s2:Int×Int)=>([(1,lR x1),(2,iL s0.1),(3, .ptr 0 0),(6, .ptr 1 0),(7,iL 0),(8, .bool false),(9, .vc 2),(10,iL s0.2.1)],[.box [lsv a0a 2 x0.a_,lsv a0a 2 x0.b_,lsv a0a 2 x0.i_,lsv a0a 2 x0.h_, .bool x0.D_,iL s0.2.2.1,iL s0.2.2.2.1,iL x0.p_,iL x0.k_,iL s2.1,iL s2.2,iL x0.l_,iL x0.m_,iL x0.d_, .bool x0.G_,iM x0.f_,iL x0.y_], .box [.nl, .nl, .nl, .nl, .bool false,iL 0,iL 0,iL 0,iL 0,iL 0,iL 0,iL 0,iL 0,iL 0, .bool false,iM 0,iL 0],a0z (a0u .i64) 1 3 s0.2.2.2.2])) (fun s2 hy7=> ?_) (fun s2 h42=> ?_)
     ·refine kq (kBT 91 hy7 (fun h43=> ?_) (fun h44=> ?_))
      ·refine kq (km 1 ?_)
       obtain⟨hm,h45⟩:=b0y h43
       refine kQ 95 (.ptr 2 ((1:Int).toNat*1)) [2] (tr2:=[]) hm ?_
       obtain⟨hm,h46⟩:=b0y h45
       exact RJ.rel (d:=(some 96)) (ef:=⟨(((s0.2.2.2.2).flatMap (a0u .i64)).drop ((1:Int).toNat*1)).headD .undef,[2],[]⟩) (ef':=⟨iL (nth s0.2.2.2.2 1),[2],[]⟩) (c:=Nat.blt ((1:Int).toNat*1) (s0.2.2.2.2.flatMap (a0u .i64)).length) (tr2:=[]) (H2:=[.box [lsv a0a 2 x0.a_,lsv a0a 2 x0.b_,lsv a0a 2 x0.i_,lsv a0a 2 x0.h_, .bool x0.D_,iL s0.2.2.1,iL s0.2.2.2.1,iL x0.p_,iL x0.k_,iL s0.2.1,iL s1.2,iL x0.l_,iL x0.m_,iL x0.d_, .bool x0.G_,iM x0.f_,iL x0.y_], .box [.nl, .nl, .nl, .nl, .bool false,iL 0,iL 0,iL 0,iL 0,iL 0,iL 0,iL 0,iL 0,iL 0, .bool false,iM 0,iL 0],a0z (a0u .i64) 1 3 s0.2.2.2.2]) (by kernel_rfl) (h0s (a0v .i64) rfl hm) (fun hc=>N.load1 (a0v .i64) (fun _=>rfl) hm) (by kernel_rfl) (ke 2 (kNo h46 [1,2,3,6,7,8,9,10]))
      ·exact kK (kNo h44 [1,2,3,6,7,8,9,10])
     ·exact kS (kDr (kD 11 (kEN (kXb (kLx h42 (fun h47=>PJ.blockRet (by cases h47;exact kZ H D W)))))))
def b0q(x0:a0y)(x1:List Int)(x2:Int):Option (a0y×Int×Bool):=
 (Option.bind (a0G x1 x2 64) fun y2=>(Option.bind (bif(decide (y2>0))then(Option.bind (a0G x1 (IntKind.wrap .i64 (x2+y2)) 35) fun y4=>(some (.inl ((IntKind.wrap .i64 ((IntKind.wrap .i64 (x2+y2))+y4)),x0.a_,x0.b_,x0.i_,x0.h_,x0.D_,x0.n_,x0.j_,x0.p_,x0.k_,x0.e_,x0.g_,y2,(IntKind.wrap .i64 (y2+y4)),x0.d_,x0.G_,x0.f_,x0.y_))))else(Option.bind (b0p x0 x1 x2) fun y0=>(bif(!y0.2.2)then(some (.inr (x0,y0.2.1,false)))else(Option.bind (a0l x1 y0.2.1) fun y6=>(bif(decide (y6=46))then(Option.bind (a0G x1 (IntKind.wrap .i64 (y0.2.1+1)) 48) fun y1=>(Option.bind (a0G x1 ((IntKind.wrap .i64 ((IntKind.wrap .i64 (y0.2.1+1))+y1))) 35) fun y3=>(bif(decide ((IntKind.wrap .i64 (y1+y3))=0))then(some (.inr ((⟨y0.1.a_,y0.1.b_,y0.1.i_,y0.1.h_,y0.1.D_,y0.1.n_,y0.1.j_,y1,(IntKind.wrap .i64 (y1+y3)),y0.1.e_,y0.1.g_,y0.1.l_,y0.1.m_,y0.1.d_,y0.1.G_,y0.1.f_,y0.1.y_⟩:a0y),(IntKind.wrap .i64 (((IntKind.wrap .i64 ((IntKind.wrap .i64 (y0.2.1+1))+y1)))+y3)),false)))else(some (.inl ((IntKind.wrap .i64 (((IntKind.wrap .i64 ((IntKind.wrap .i64 (y0.2.1+1))+y1)))+y3)),y0.1.a_,y0.1.b_,y0.1.i_,y0.1.h_,y0.1.D_,y0.1.n_,y0.1.j_,y1,(IntKind.wrap .i64 (y1+y3)),y0.1.e_,y0.1.g_,y0.1.l_,y0.1.m_,y0.1.d_,y0.1.G_,y0.1.f_,y0.1.y_))))))else(some (.inl (y0.2.1,y0.1.a_,y0.1.b_,y0.1.i_,y0.1.h_,y0.1.D_,y0.1.n_,y0.1.j_,y0.1.p_,y0.1.k_,y0.1.e_,y0.1.g_,y0.1.l_,y0.1.m_,y0.1.d_,y0.1.G_,y0.1.f_,y0.1.y_)))))))) (a0g fun(s0:Int×(List a0b)×(List a0b)×(List a0b)×(List a0b)×Bool×Int×Int×Int×Int×Int×Int×Int×Int×Int×Bool×Int×Int)=>(Option.bind (a0l x1 s0.1) fun y7=>(bif(decide (¬y7=69))then(some ((⟨s0.2.1,s0.2.2.1,s0.2.2.2.1,s0.2.2.2.2.1,s0.2.2.2.2.2.1,s0.2.2.2.2.2.2.1,s0.2.2.2.2.2.2.2.1,s0.2.2.2.2.2.2.2.2.1,s0.2.2.2.2.2.2.2.2.2.1,s0.2.2.2.2.2.2.2.2.2.2.1,s0.2.2.2.2.2.2.2.2.2.2.2.1,s0.2.2.2.2.2.2.2.2.2.2.2.2.1,s0.2.2.2.2.2.2.2.2.2.2.2.2.2.1,s0.2.2.2.2.2.2.2.2.2.2.2.2.2.2.1,s0.2.2.2.2.2.2.2.2.2.2.2.2.2.2.2.1,s0.2.2.2.2.2.2.2.2.2.2.2.2.2.2.2.2.1,s0.2.2.2.2.2.2.2.2.2.2.2.2.2.2.2.2.2⟩:a0y),s0.1,true))else(Option.bind (Option.bind (a0l x1 (IntKind.wrap .i64 (s0.1+1))) fun y8=>(bif(decide (y8=43))then(some ((IntKind.wrap .i64 ((IntKind.wrap .i64 (s0.1+1))+1)),true))else(some ((IntKind.wrap .i64 (s0.1+1)),s0.2.2.2.2.2.2.2.2.2.2.2.2.2.2.2.1)))) fun(s1:Int×Bool)=>(Option.bind (a0G x1 s1.1 48) fun y5=>(some ((⟨s0.2.1,s0.2.2.1,s0.2.2.2.1,s0.2.2.2.2.1,s0.2.2.2.2.2.1,s0.2.2.2.2.2.2.1,s0.2.2.2.2.2.2.2.1,s0.2.2.2.2.2.2.2.2.1,s0.2.2.2.2.2.2.2.2.2.1,s0.2.2.2.2.2.2.2.2.2.2.1,s0.2.2.2.2.2.2.2.2.2.2.2.1,s0.2.2.2.2.2.2.2.2.2.2.2.2.1,s0.2.2.2.2.2.2.2.2.2.2.2.2.2.1,y5,s1.2,s0.2.2.2.2.2.2.2.2.2.2.2.2.2.2.2.2.1,s0.2.2.2.2.2.2.2.2.2.2.2.2.2.2.2.2.2⟩:a0y),(IntKind.wrap .i64 (s1.1+y5)),(decide (y5>0)))))))))))
theorem j0t {x0:a0y} {x1:List Int} {x2:Int} {r:a0y×Int×Bool} (h:b0q x0 x1 x2=some r):SQ 126 [.agg (a0c x0),lR x1,iL x2] [] (.tup [.agg (a0c r.1),iL r.2.1, .bool r.2.2]) []:=by
 refine kFn (fn:=Tryz.f126) (fun F H D W=> ?_)
 unfold b0q at h
 exact kq (kn 2 (kAb 18 h (fun _=>c0x) (fun y2 h1=>kr 1 (kcX h1 (fun(s0:Int×(List a0b)×(List a0b)×(List a0b)×(List a0b)×Bool×Int×Int×Int×Int×Int×Int×Int×Int×Int×Bool×Int×Int)=>([(1,lR x1),(2,iL s0.1),(3, .ptr 0 0),(6, .ptr 1 0),(7,iL 0),(8, .bool false)],[.box [lsv a0a 2 s0.2.1,lsv a0a 2 s0.2.2.1,lsv a0a 2 s0.2.2.2.1,lsv a0a 2 s0.2.2.2.2.1, .bool s0.2.2.2.2.2.1,iL s0.2.2.2.2.2.2.1,iL s0.2.2.2.2.2.2.2.1,iL s0.2.2.2.2.2.2.2.2.1,iL s0.2.2.2.2.2.2.2.2.2.1,iL s0.2.2.2.2.2.2.2.2.2.2.1,iL s0.2.2.2.2.2.2.2.2.2.2.2.1,iL s0.2.2.2.2.2.2.2.2.2.2.2.2.1,iL s0.2.2.2.2.2.2.2.2.2.2.2.2.2.1,iL s0.2.2.2.2.2.2.2.2.2.2.2.2.2.2.1, .bool s0.2.2.2.2.2.2.2.2.2.2.2.2.2.2.2.1,iM s0.2.2.2.2.2.2.2.2.2.2.2.2.2.2.2.2.1,iL s0.2.2.2.2.2.2.2.2.2.2.2.2.2.2.2.2.2], .box [.nl, .nl, .nl, .nl, .bool false,iL 0,iL 0,iL 0,iL 0,iL 0,iL 0,iL 0,iL 0,iL 0, .bool false,iM 0,iL 0]])) (fun y9 hy0 h0=>kq (kBT 20 hy0 (fun h3=>kn 4 (kAb 25 h3 (fun _=>c0x) (fun y4 h5=>kr 1 (kq (kq (kR (RJ.seg 6 [1,2,3,6,7,8] (L2:=[(1,lR x1),(2,iL ((IntKind.wrap .i64 ((IntKind.wrap .i64 (x2+y2))+y4)))),(3, .ptr 0 0),(6, .ptr 1 0),(7,iL 0),(8, .bool false)]) (H2:=[.box [lsv a0a 2 x0.a_,lsv a0a 2 x0.b_,lsv a0a 2 x0.i_,lsv a0a 2 x0.h_, .bool x0.D_,iL x0.n_,iL x0.j_,iL x0.p_,iL x0.k_,iL x0.e_,iL x0.g_,iL y2,iL (IntKind.wrap .i64 (y2+y4)),iL x0.d_, .bool x0.G_,iM x0.f_,iL x0.y_], .box [.nl, .nl, .nl, .nl, .bool false,iL 0,iL 0,iL 0,iL 0,iL 0,iL 0,iL 0,iL 0,iL 0, .bool false,iM 0,iL 0]]) (by kernel_rfl) (kE (kXo h5 [1,2,3,6,7,8]))))))))) (fun h4=>kn 3 (kAb 41 h4 (fun _=>j0s) (fun y0 h6=>kr 8 (kS (kq (kBT 46 h6 (fun h7=>kq (kX (PJ.passRet (kCx h7 h0 (fun h9=>by obtain rfl:=oi h9;exact kZ H D W))))) (fun h8=>kKN (kq (kSR (RJ.seg 2 [1,2,3,6,7,8] (L2:=[(1,lR x1),(2,iL y0.2.1),(3, .ptr 0 0),(6, .ptr 1 0),(7,iL 0),(8, .bool false)]) (H2:=[.box (a0c y0.1), .box [.nl, .nl, .nl, .nl, .bool false,iL 0,iL 0,iL 0,iL 0,iL 0,iL 0,iL 0,iL 0,iL 0, .bool false,iM 0,iL 0], .box (a0c y0.1)]) (by kernel_rfl) (kEN (kn 2 (kAb 53 h8 (fun _=>a0W) (fun y6 h10=>kr 1 (kBT 54 h10 (fun h11=>kn 3 (kAb 58 h11 (fun _=>c0x) (fun y1 h13=>kr 1 (kn 5 (kAb 64 h13 (fun _=>c0x) (fun y3 h14=>kr 1 (kq (kq (kSR (RJ.seg 7 [1,2,3,6,7,8,14,15] (L2:=[(1,lR x1),(2,iL ((IntKind.wrap .i64 (((IntKind.wrap .i64 ((IntKind.wrap .i64 (y0.2.1+1))+y1)))+y3)))),(3, .ptr 0 0),(6, .ptr 1 0),(7,iL 0),(8, .bool false),(14,iL y1),(15,iL y3)]) (H2:=[.box [lsv a0a 2 y0.1.a_,lsv a0a 2 y0.1.b_,lsv a0a 2 y0.1.i_,lsv a0a 2 y0.1.h_, .bool y0.1.D_,iL y0.1.n_,iL y0.1.j_,iL y1,iL (IntKind.wrap .i64 (y1+y3)),iL y0.1.e_,iL y0.1.g_,iL y0.1.l_,iL y0.1.m_,iL y0.1.d_, .bool y0.1.G_,iM y0.1.f_,iL y0.1.y_], .box [.nl, .nl, .nl, .nl, .bool false,iL 0,iL 0,iL 0,iL 0,iL 0,iL 0,iL 0,iL 0,iL 0, .bool false,iM 0,iL 0], .box (a0c y0.1)]) (by kernel_rfl) (kEN (kq (kBT 80 h14 (fun h15=>kq (kX (kCx h15 h0 (fun h17=>by obtain rfl:=oi h17;exact kZ H D W)))) (fun h16=>kK (kXW h16 D W [0,1]))))))))))))))) (fun h12=>kK (kXW h12 D W [0,1]))))))))))))))))))) (fun s0 h2=>kS (kn 2 (kAb 85 h2 (fun _=>a0W) (fun y7 h18=>kr 1 (kBT 86 h18 (fun h19=>kq (kX (PJ.passRet (by cases h19;exact kZ H D W)))) (fun h20=>kKN (kq (kcN h20 (fun(s1:Int×Bool)=>([(1,lR x1),(2,iL s1.1),(3, .ptr 0 0),(6, .ptr 1 0),(7,iL 0),(8, .bool false)],[.box [lsv a0a 2 s0.2.1,lsv a0a 2 s0.2.2.1,lsv a0a 2 s0.2.2.2.1,lsv a0a 2 s0.2.2.2.2.1, .bool s0.2.2.2.2.2.1,iL s0.2.2.2.2.2.2.1,iL s0.2.2.2.2.2.2.2.1,iL s0.2.2.2.2.2.2.2.2.1,iL s0.2.2.2.2.2.2.2.2.2.1,iL s0.2.2.2.2.2.2.2.2.2.2.1,iL s0.2.2.2.2.2.2.2.2.2.2.2.1,iL s0.2.2.2.2.2.2.2.2.2.2.2.2.1,iL s0.2.2.2.2.2.2.2.2.2.2.2.2.2.1,iL s0.2.2.2.2.2.2.2.2.2.2.2.2.2.2.1, .bool s1.2,iM s0.2.2.2.2.2.2.2.2.2.2.2.2.2.2.2.2.1,iL s0.2.2.2.2.2.2.2.2.2.2.2.2.2.2.2.2.2], .box [.nl, .nl, .nl, .nl, .bool false,iL 0,iL 0,iL 0,iL 0,iL 0,iL 0,iL 0,iL 0,iL 0, .bool false,iM 0,iL 0]])) (fun s1 hy1=>kn 2 (kAb 93 hy1 (fun _=>a0W) (fun y8 h22=>kr 1 (kBT 94 h22 (fun h23=>kq (kM (kNo h23 [1,2,3,6,7,8]))) (fun h24=>kK (kNo h24 [1,2,3,6,7,8])))))) (fun s1 h21=>kn 2 (kAb 100 h21 (fun _=>c0x) (fun y5 h25=>kr 2 (kS (kDr (kD 11 (kEN (kX (by cases h25;exact kZ H D W)))))))))))))))))))))
def b0m(x0:List Int):Option (a0y×Int×Int×Int×Bool):=
 (Option.bind (a0K (⟨([]:List a0b),([]:List a0b),([]:List a0b),([]:List a0b),false,0,0,0,0,0,0,0,0,0,false,0,0⟩:a0y) x0 0 1) fun y0=>(bif(!y0.2.2)then(some (y0.1,0,0,y0.2.1,false))else(Option.bind (a0H x0 y0.2.1) fun y2=>(bif(!y2.2.2)then(some (y0.1,0,0,y2.2.1,false))else(Option.bind (a0K (⟨y2.1,y0.1.b_,y0.1.i_,y0.1.h_,y0.1.D_,y0.1.n_,y0.1.j_,y0.1.p_,y0.1.k_,y0.1.e_,y0.1.g_,y0.1.l_,y0.1.m_,y0.1.d_,y0.1.G_,y0.1.f_,y0.1.y_⟩:a0y) x0 y2.2.1 2) fun y3=>(bif(!y3.2.2)then(some ((⟨y2.1,y0.1.b_,y0.1.i_,y0.1.h_,y0.1.D_,y0.1.n_,y0.1.j_,y0.1.p_,y0.1.k_,y0.1.e_,y0.1.g_,y0.1.l_,y0.1.m_,y0.1.d_,y0.1.G_,y0.1.f_,y0.1.y_⟩:a0y),0,0,y3.2.1,false))else(Option.bind (b0q y3.1 x0 y3.2.1) fun y4=>(bif(!y4.2.2)then(some ((⟨y2.1,y0.1.b_,y0.1.i_,y0.1.h_,y0.1.D_,y0.1.n_,y0.1.j_,y0.1.p_,y0.1.k_,y0.1.e_,y0.1.g_,y0.1.l_,y0.1.m_,y0.1.d_,y0.1.G_,y0.1.f_,y0.1.y_⟩:a0y),0,0,y4.2.1,false))else(Option.bind (a0K y4.1 x0 y4.2.1 3) fun y1=>(bif(!y1.2.2)then(some ((⟨y2.1,y0.1.b_,y0.1.i_,y0.1.h_,y0.1.D_,y0.1.n_,y0.1.j_,y0.1.p_,y0.1.k_,y0.1.e_,y0.1.g_,y0.1.l_,y0.1.m_,y0.1.d_,y0.1.G_,y0.1.f_,y0.1.y_⟩:a0y),0,0,y1.2.1,false))else(Option.bind (a0H x0 y1.2.1) fun y5=>(bif(!y5.2.2)then(some ((⟨y2.1,y0.1.b_,y0.1.i_,y0.1.h_,y0.1.D_,y0.1.n_,y0.1.j_,y0.1.p_,y0.1.k_,y0.1.e_,y0.1.g_,y0.1.l_,y0.1.m_,y0.1.d_,y0.1.G_,y0.1.f_,y0.1.y_⟩:a0y),0,0,y5.2.1,false))else(Option.bind (a0K (⟨y1.1.a_,y5.1,y1.1.i_,y1.1.h_,y1.1.D_,y1.1.n_,y1.1.j_,y1.1.p_,y1.1.k_,y1.1.e_,y1.1.g_,y1.1.l_,y1.1.m_,y1.1.d_,y1.1.G_,y1.1.f_,y1.1.y_⟩:a0y) x0 y5.2.1 4) fun y6=>(some (y6.1,y3.2.1,y4.2.1,y6.2.1,y6.2.2)))))))))))))))
theorem k0c {x0:List Int} {r:a0y×Int×Int×Int×Bool} (h:b0m x0=some r):SQ 85 [lR x0] [] (.tup [.agg (a0c r.1),iL r.2.1,iL r.2.2.1,iL r.2.2.2.1, .bool r.2.2.2.2]) []:=by
 refine kFn (fn:=Tryz.f85) (fun F H D W=> ?_)
 unfold b0m at h
 refine kq (kn 2 ?_)
 obtain⟨y0,hy0,h0⟩:=a0f h
 exact RJ.call0 (d:=(some 31)) (f:=124) (args:=[zQ,lR x0,iL 0,iL 1]) (v:= .tup [.agg (a0c y0.1),iL y0.2.1, .bool y0.2.2]) (tr2:=[]) (by kernel_rfl) (by kernel_rfl) (.cons (Le.agg (.cons (Le.nl _) (.cons (Le.nl _) (.cons (Le.nl _) (.cons (Le.nl _) (LeL.refl _)))))) (LeL.refl _)) (d0D hy0) (by kernel_rfl) (kr 8 (kS (kq (kBT 36 h0 (fun h1=>kq (kX (PJ.passRet (by cases h1;exact kZ H D W)))) (fun h2=>kKN (kn 2 (kAb 42 h2 (fun _=>c0W) (fun y2 h3=>kr 7 (kS (kq (kBT 47 h3 (fun h4=>kq (kX (PJ.passRet (by cases h4;exact kZ H D W)))) (fun h5=>kKN (kq (kSR (RJ.seg 3 [0,2,3,4,5,6,7,53,54,55] (L2:=[(0,lR x0),(2, .ptr 0 0),(3,iL 0),(4,iL 0),(5,iL 0),(6, .bool false),(7, .ptr 1 0),(53, .agg [lsv a0a 2 y2.1,lsv a0a 2 y0.1.b_,lsv a0a 2 y0.1.i_,lsv a0a 2 y0.1.h_, .bool y0.1.D_,iL y0.1.n_,iL y0.1.j_,iL y0.1.p_,iL y0.1.k_,iL y0.1.e_,iL y0.1.g_,iL y0.1.l_,iL y0.1.m_,iL y0.1.d_, .bool y0.1.G_,iM y0.1.f_,iL y0.1.y_]),(54,lR x0),(55,iL y2.2.1)]) (H2:=[.box [.nl, .nl, .nl, .nl, .bool false,iL 0,iL 0,iL 0,iL 0,iL 0,iL 0,iL 0,iL 0,iL 0, .bool false,iM 0,iL 0], .box [lsv a0a 2 y2.1,lsv a0a 2 y0.1.b_,lsv a0a 2 y0.1.i_,lsv a0a 2 y0.1.h_, .bool y0.1.D_,iL y0.1.n_,iL y0.1.j_,iL y0.1.p_,iL y0.1.k_,iL y0.1.e_,iL y0.1.g_,iL y0.1.l_,iL y0.1.m_,iL y0.1.d_, .bool y0.1.G_,iM y0.1.f_,iL y0.1.y_]]) (by kernel_rfl) (kAb 56 h5 (fun _=>d0D) (fun y3 h6=>kr 8 (kS (kq (kBT 61 h6 (fun h7=>kq (kX (PJ.passRet (by cases h7;exact kZ H D W)))) (fun h8=>kKN (kn 3 (kAb 68 h8 (fun _=>j0t) (fun y4 h9=>kr 8 (kS (kq (kBT 73 h9 (fun h10=>kq (kX (PJ.passRet (by cases h10;exact kZ H D W)))) (fun h11=>kKN (kn 3 (kAb 80 h11 (fun _=>d0D) (fun y1 h12=>kr 8 (kS (kq (kBT 85 h12 (fun h13=>kSR (RJ.seg 7 [0,2,3,4,5,6,7,14,17,19,20] (L2:=[(0,lR x0),(2, .ptr 0 0),(3,iL 0),(4,iL 0),(5,iL y1.2.1),(6, .bool false),(7, .ptr 1 0),(14,iL y3.2.1),(17,iL y4.2.1),(19, .ptr 4 0),(20,iL y1.2.1)]) (H2:=[.box [lsv a0a 2 y2.1,lsv a0a 2 y0.1.b_,lsv a0a 2 y0.1.i_,lsv a0a 2 y0.1.h_, .bool y0.1.D_,iL y0.1.n_,iL y0.1.j_,iL y0.1.p_,iL y0.1.k_,iL y0.1.e_,iL y0.1.g_,iL y0.1.l_,iL y0.1.m_,iL y0.1.d_, .bool y0.1.G_,iM y0.1.f_,iL y0.1.y_], .box [lsv a0a 2 y2.1,lsv a0a 2 y0.1.b_,lsv a0a 2 y0.1.i_,lsv a0a 2 y0.1.h_, .bool y0.1.D_,iL y0.1.n_,iL y0.1.j_,iL y0.1.p_,iL y0.1.k_,iL y0.1.e_,iL y0.1.g_,iL y0.1.l_,iL y0.1.m_,iL y0.1.d_, .bool y0.1.G_,iM y0.1.f_,iL y0.1.y_], .box (a0c y3.1), .box (a0c y4.1), .box (a0c y1.1)]) (by kernel_rfl) (kEN (kX (PJ.passRet (by cases h13;exact kZ H D W)))))) (fun h14=>kKN (kSR (RJ.seg 2 [0,2,3,4,5,6,7,14,17,19,89,90] (L2:=[(0,lR x0),(2, .ptr 0 0),(3,iL 0),(4,iL 0),(5,iL 0),(6, .bool false),(7, .ptr 1 0),(14,iL y3.2.1),(17,iL y4.2.1),(19, .ptr 4 0),(89,lR x0),(90,iL y1.2.1)]) (H2:=[.box [.nl, .nl, .nl, .nl, .bool false,iL 0,iL 0,iL 0,iL 0,iL 0,iL 0,iL 0,iL 0,iL 0, .bool false,iM 0,iL 0], .box [lsv a0a 2 y2.1,lsv a0a 2 y0.1.b_,lsv a0a 2 y0.1.i_,lsv a0a 2 y0.1.h_, .bool y0.1.D_,iL y0.1.n_,iL y0.1.j_,iL y0.1.p_,iL y0.1.k_,iL y0.1.e_,iL y0.1.g_,iL y0.1.l_,iL y0.1.m_,iL y0.1.d_, .bool y0.1.G_,iM y0.1.f_,iL y0.1.y_], .box (a0c y3.1), .box (a0c y4.1), .box (a0c y1.1)]) (by kernel_rfl) (kAb 91 h14 (fun _=>c0W) (fun y5 h15=>kr 7 (kS (kq (kBT 96 h15 (fun h16=>kq (kX (PJ.passRet (by cases h16;exact kZ H D W)))) (fun h17=>kKN (kq (kn 3 (kAb 105 h17 (fun _=>d0D) (fun y6 h18=>kr 8 (kq (kX (by cases h18;exact kZ H D W))))))))))))))))))))))))))))))))))))))))))))))))))
def b0o(x0:a0y)(x1:List Int)(x2 x3 x4:Int):Option (a0y×Int×Bool):=
 (Option.bind (a0H x1 x2) fun y0=>(bif(!y0.2.2)then(some ((⟨x0.a_,x0.b_,x0.i_,x0.h_,true,x0.n_,x0.j_,x0.p_,x0.k_,x0.e_,x0.g_,x0.l_,x0.m_,x0.d_,x0.G_,x0.f_,x0.y_⟩:a0y),y0.2.1,false))else(Option.bind (a0s (fun(s0:Int×Int)=>(bif(decide (s0.2<x4))then(Option.bind (a0l x1 s0.1) fun y2=>(bif inR s0.2 x1.length then(bif(decide (¬y2=(nth x1 s0.2)))then(some (.inr (.inr ((⟨x0.a_,x0.b_,y0.1,x0.h_,true,x0.n_,x0.j_,x0.p_,x0.k_,x0.e_,x0.g_,x0.l_,x0.m_,x0.d_,x0.G_,x0.f_,x0.y_⟩:a0y),s0.1,false))))else(some (.inl ((IntKind.wrap .i64 (s0.1+1)),(IntKind.wrap .i64 (s0.2+1))))))else none))else(some (.inr (.inl s0.1))))) big (y0.2.1,x3)) (a0g fun(s1:Int)=>(Option.bind (a0H x1 s1) fun y1=>(some ((⟨x0.a_,x0.b_,y0.1,y1.1,true,x0.n_,x0.j_,x0.p_,x0.k_,x0.e_,x0.g_,x0.l_,x0.m_,x0.d_,x0.G_,x0.f_,x0.y_⟩:a0y),y1.2.1,y1.2.2)))))))
theorem j0r {x0:a0y} {x1:List Int} {x2 x3 x4:Int} {r:a0y×Int×Bool} (h:b0o x0 x1 x2 x3 x4=some r):SQ 87 [.agg (a0c x0),lR x1,iL x2,iL x3,iL x4] [] (.tup [.agg (a0c r.1),iL r.2.1, .bool r.2.2]) []:=by
 refine kFn (fn:=Tryz.f87) (fun F H D W=> ?_)
 unfold b0o at h
 refine kq (kq (kn 2 (kAb 24 h (fun _=>c0W) (fun y0 h0=>kr 7 (kS (kq (kBT 29 h0 (fun h1=> ?_) (fun h2=> ?_))))))))
 ·exact kq (kX (PJ.passRet (by cases h1;exact kZ H D W)))
 ·refine kKN (kq (kcX h2 (fun(s1:Int)=>([(1,lR x1),(5, .ptr 0 0),(10, .ptr 1 0),(11,iL 0),(12, .bool false),(14,iL s1)],[.box [lsv a0a 2 x0.a_,lsv a0a 2 x0.b_,lsv a0a 2 y0.1,lsv a0a 2 x0.h_, .bool true,iL x0.n_,iL x0.j_,iL x0.p_,iL x0.k_,iL x0.e_,iL x0.g_,iL x0.l_,iL x0.m_,iL x0.d_, .bool x0.G_,iM x0.f_,iL x0.y_], .box [.nl, .nl, .nl, .nl, .bool false,iL 0,iL 0,iL 0,iL 0,iL 0,iL 0,iL 0,iL 0,iL 0, .bool false,iM 0,iL 0]])) (fun y3 hy0 h3=> ?_) (fun s1 h4=> ?_)))
  ·refine kq (kb 0 (kl (fun(s0:Int×Int)=>([(1,lR x1),(4,iL x4),(5, .ptr 0 0),(10, .ptr 1 0),(11,iL 0),(12, .bool false),(14,iL s0.1),(16,iL s0.2)],[.box [lsv a0a 2 x0.a_,lsv a0a 2 x0.b_,lsv a0a 2 y0.1,lsv a0a 2 x0.h_, .bool true,iL x0.n_,iL x0.j_,iL x0.p_,iL x0.k_,iL x0.e_,iL x0.g_,iL x0.l_,iL x0.m_,iL x0.d_, .bool x0.G_,iM x0.f_,iL x0.y_], .box [.nl, .nl, .nl, .nl, .bool false,iL 0,iL 0,iL 0,iL 0,iL 0,iL 0,iL 0,iL 0,iL 0, .bool false,iM 0,iL 0]])) hy0 [1,4,5,10,11,12,14,16] (fun s0 x92 hs0=>kS (kq (kBT 37 hs0 (fun h5=> ?_) (fun h6=> ?_))))))
   ·refine kKN (kS (kb 1 (kS (kS (kDr (kD 2 ?_))))))
    obtain⟨y2,hy1,h7⟩:=a0f h5
    refine kC0 (some 42) [([],[]),([],[]),([],[4,5])] (a0W hy1) (kD 2 ?_)
    obtain⟨hm,h8⟩:=b0y h7
    exact kJ 45 (tr2:=[([],[]),([],[]),([],[4,5]),([],[]),([],[]),([],[])]) (a0v .i32) hm (kD 2 (kEN (kBT 47 h8 (fun h9=>kq (kX (PJ.passRet (PJ.blockRet (PJ.passRet (kLx h9 (fun h11=>PJ.blockRet (kCx h11 h3 (fun h12=>by obtain rfl:=oi h12;exact kZ H D W))))))))) (fun h10=>kKN (kM (PJ.blockNormal (PJ.next (kM (kLW h10 D W [0,1])))))))))
   ·exact kEp 0 (kLx h6 (fun h13=>PJ.blockOut (kXo h13 [1,5,10,11,12,14])))
  ·exact kn 2 (kAb 55 h4 (fun _=>c0W) (fun y1 h14=>kr 7 (kq (kq (kX (by cases h14;exact kZ H D W))))))
def a0m(x0:List UInt8):Option (a0y×Int×Int):=
 (Option.bind (a0L (a0N x0)) fun y2=>(bif(decide (¬y2.2.2=0))then(some ((⟨([]:List a0b),([]:List a0b),([]:List a0b),([]:List a0b),false,0,0,0,0,0,0,0,0,0,false,0,0⟩:a0y),y2.2.1,3))else(bif(decide ((y2.1.length:Int)>120))then(some ((⟨([]:List a0b),([]:List a0b),([]:List a0b),([]:List a0b),false,0,0,0,0,0,0,0,0,0,false,0,0⟩:a0y),0,11))else(Option.bind (b0m y2.1) fun y0=>(Option.bind (Option.bind (bif y0.2.2.2.2 then(Option.bind (a0l y2.1 y0.2.2.2.1) fun y3=>(some (decide (y3=59))))else(some false)) fun(s1:Bool)=>(bif s1 then(Option.bind (b0o y0.1 y2.1 (IntKind.wrap .i64 (y0.2.2.2.1+1)) y0.2.1 y0.2.2.1) fun y1=>(some (y1.2.1,y1.2.2,y1.1.a_,y1.1.b_,y1.1.i_,y1.1.h_,y1.1.D_,y1.1.n_,y1.1.j_,y1.1.p_,y1.1.k_,y1.1.e_,y1.1.g_,y1.1.l_,y1.1.m_,y1.1.d_,y1.1.G_,y1.1.f_,y1.1.y_)))else(some (y0.2.2.2.1,y0.2.2.2.2,y0.1.a_,y0.1.b_,y0.1.i_,y0.1.h_,y0.1.D_,y0.1.n_,y0.1.j_,y0.1.p_,y0.1.k_,y0.1.e_,y0.1.g_,y0.1.l_,y0.1.m_,y0.1.d_,y0.1.G_,y0.1.f_,y0.1.y_)))) fun(s0:Int×Bool×(List a0b)×(List a0b)×(List a0b)×(List a0b)×Bool×Int×Int×Int×Int×Int×Int×Int×Int×Int×Bool×Int×Int)=>(Option.bind (Option.bind (bif(!s0.2.1)then(some true)else(some ((decide (s0.1<(y2.1.length:Int)))))) fun(s2:Bool)=>(bif s2 then(some (.inr ((⟨([]:List a0b),([]:List a0b),([]:List a0b),([]:List a0b),false,0,0,0,0,0,0,0,0,0,false,0,0⟩:a0y),s0.1,2)))else(some (.inl ())))) (a0g fun(s4:Unit)=>(Option.bind (Option.bind (bif(decide ((IntKind.wrap .i64 (s0.2.2.2.2.2.2.2.1+s0.2.2.2.2.2.2.2.2.1))>40))then(some true)else(bif(decide (s0.2.2.2.2.2.2.2.2.2.2.1>40))then(some true)else(bif(decide (s0.2.2.2.2.2.2.2.2.2.2.2.2.2.2.1>40))then(some true)else(some (decide (s0.2.2.2.2.2.2.2.2.2.2.2.2.2.2.2.1>40)))))) fun(s3:Bool)=>(bif s3 then(some (.inr ((⟨([]:List a0b),([]:List a0b),([]:List a0b),([]:List a0b),false,0,0,0,0,0,0,0,0,0,false,0,0⟩:a0y),0,11)))else(some (.inl ())))) (a0g fun(s5:Unit)=>(some ((⟨s0.2.2.1,s0.2.2.2.1,s0.2.2.2.2.1,s0.2.2.2.2.2.1,s0.2.2.2.2.2.2.1,s0.2.2.2.2.2.2.2.1,s0.2.2.2.2.2.2.2.2.1,s0.2.2.2.2.2.2.2.2.2.1,s0.2.2.2.2.2.2.2.2.2.2.1,s0.2.2.2.2.2.2.2.2.2.2.2.1,s0.2.2.2.2.2.2.2.2.2.2.2.2.1,s0.2.2.2.2.2.2.2.2.2.2.2.2.2.1,s0.2.2.2.2.2.2.2.2.2.2.2.2.2.2.1,s0.2.2.2.2.2.2.2.2.2.2.2.2.2.2.2.1,s0.2.2.2.2.2.2.2.2.2.2.2.2.2.2.2.2.1,s0.2.2.2.2.2.2.2.2.2.2.2.2.2.2.2.2.2.1,s0.2.2.2.2.2.2.2.2.2.2.2.2.2.2.2.2.2.2⟩:a0y),0,0)))))))))))
theorem e0m {x0:List UInt8} {r:a0y×Int×Int} (h:a0m x0=some r):SQ 42 [.str x0] [] (.tup [.agg (a0c r.1),iL r.2.1,iL r.2.2]) []:=by
 refine kFn (fn:=Tryz.f42) (fun F H D W=> ?_)
 unfold a0m at h
 exact kq (kn 1 (RJ.rel (d:=(some 18)) (ef:=⟨.lst x0.length 1 (x0.map h0c),[],[]⟩) (ef':=⟨lB (a0N x0),[],[]⟩) (c:=true) (tr2:=[]) (H2:=[.box [.nl, .nl, .nl, .nl, .bool false,iL 0,iL 0,iL 0,iL 0,iL 0,iL 0,iL 0,iL 0,iL 0, .bool false,iM 0,iL 0]]) (by kernel_rfl) rfl (fun hc=>N.toBytes) (by kernel_rfl) (kAb 19 h (fun _=>j0u) (fun y2 h0=>kr 7 (kS (kq (kBT 24 h0 (fun h1=>kq (kX (PJ.passRet (by obtain rfl:=oi h1;exact PJ.res (v1:= .tup [zQ,iL y2.2.1,iL 3]) (Le.tup (.cons (Le.agg (.cons (Le.nl _) (.cons (Le.nl _) (.cons (Le.nl _) (.cons (Le.nl _) (LeL.refl _)))))) (LeL.refl _))) (kZ H D W))))) (fun h2=>kKN (kS (kq (kBT 29 h2 (fun h3=>kq (kX (PJ.passRet (by obtain rfl:=oi h3;exact PJ.res (v1:= .tup [zQ,iL 0,iL 11]) (Le.tup (.cons (Le.agg (.cons (Le.nl _) (.cons (Le.nl _) (.cons (Le.nl _) (.cons (Le.nl _) (LeL.refl _)))))) (LeL.refl _))) (kZ H D W))))) (fun h4=>kKN (kn 1 (kAb 33 h4 (fun _=>k0c) (fun y0 h5=>kr 12 (kcN h5 (fun(s0:Int×Bool×(List a0b)×(List a0b)×(List a0b)×(List a0b)×Bool×Int×Int×Int×Int×Int×Int×Int×Int×Int×Bool×Int×Int)=>([(2, .ptr 0 0),(3,iL 0),(4,iL 0),(5,lR y2.1),(8, .ptr 1 0),(11,iL s0.1),(12, .bool s0.2.1)],[.box [.nl, .nl, .nl, .nl, .bool false,iL 0,iL 0,iL 0,iL 0,iL 0,iL 0,iL 0,iL 0,iL 0, .bool false,iM 0,iL 0], .box [lsv a0a 2 s0.2.2.1,lsv a0a 2 s0.2.2.2.1,lsv a0a 2 s0.2.2.2.2.1,lsv a0a 2 s0.2.2.2.2.2.1, .bool s0.2.2.2.2.2.2.1,iL s0.2.2.2.2.2.2.2.1,iL s0.2.2.2.2.2.2.2.2.1,iL s0.2.2.2.2.2.2.2.2.2.1,iL s0.2.2.2.2.2.2.2.2.2.2.1,iL s0.2.2.2.2.2.2.2.2.2.2.2.1,iL s0.2.2.2.2.2.2.2.2.2.2.2.2.1,iL s0.2.2.2.2.2.2.2.2.2.2.2.2.2.1,iL s0.2.2.2.2.2.2.2.2.2.2.2.2.2.2.1,iL s0.2.2.2.2.2.2.2.2.2.2.2.2.2.2.2.1, .bool s0.2.2.2.2.2.2.2.2.2.2.2.2.2.2.2.2.1,iM s0.2.2.2.2.2.2.2.2.2.2.2.2.2.2.2.2.2.1,iL s0.2.2.2.2.2.2.2.2.2.2.2.2.2.2.2.2.2.2]])) (fun s0 hy0=>kcN hy0 (fun(s1:Bool)=>([(2, .ptr 0 0),(3,iL 0),(4,iL 0),(5,lR y2.1),(8, .ptr 1 0),(9,iL y0.2.1),(10,iL y0.2.2.1),(11,iL y0.2.2.2.1),(12, .bool y0.2.2.2.2),(45, .bool s1)],[.box [.nl, .nl, .nl, .nl, .bool false,iL 0,iL 0,iL 0,iL 0,iL 0,iL 0,iL 0,iL 0,iL 0, .bool false,iM 0,iL 0], .box (a0c y0.1)])) (fun s1 hy1=>km 2 (kB 40 hy1 (fun h8=>RJ.seg 2 [2,3,4,5,8,9,10,11,12,40,41,42] (L2:=[(2, .ptr 0 0),(3,iL 0),(4,iL 0),(5,lR y2.1),(8, .ptr 1 0),(9,iL y0.2.1),(10,iL y0.2.2.1),(11,iL y0.2.2.2.1),(12, .bool y0.2.2.2.2),(40, .bool true),(41,lR y2.1),(42,iL y0.2.2.2.1)]) (H2:=[.box [.nl, .nl, .nl, .nl, .bool false,iL 0,iL 0,iL 0,iL 0,iL 0,iL 0,iL 0,iL 0,iL 0, .bool false,iM 0,iL 0], .box (a0c y0.1)]) (by kernel_rfl) (kAb 43 h8 (fun _=>a0W) (fun y3 h10=>ke 2 (kNo h10 [2,3,4,5,8,9,10,11,12,45])))) (fun h9=>RJ.seg 5 [2,3,4,5,8,9,10,11,12,45] (L2:=[(2, .ptr 0 0),(3,iL 0),(4,iL 0),(5,lR y2.1),(8, .ptr 1 0),(9,iL y0.2.1),(10,iL y0.2.2.1),(11,iL y0.2.2.2.1),(12, .bool y0.2.2.2.2),(45, .bool false)]) (H2:=[.box [.nl, .nl, .nl, .nl, .bool false,iL 0,iL 0,iL 0,iL 0,iL 0,iL 0,iL 0,iL 0,iL 0, .bool false,iM 0,iL 0], .box (a0c y0.1)]) (by kernel_rfl) (kE (kNo h9 [2,3,4,5,8,9,10,11,12,45]))))) (fun s1 h7=>kBT 45 h7 (fun h11=>kn 6 (kAb 53 h11 (fun _=>j0r) (fun y1 h13=>kr 8 (kq (kq (kM (kNW h13 D W [0,1]))))))) (fun h12=>kK (kNo h12 [2,3,4,5,8,11,12])))) (fun s0 h6=>kcX h6 (fun(s4:Unit)=>([(2, .ptr 0 0),(3,iL 0),(4,iL 0),(8, .ptr 1 0)],[.box [.nl, .nl, .nl, .nl, .bool false,iL 0,iL 0,iL 0,iL 0,iL 0,iL 0,iL 0,iL 0,iL 0, .bool false,iM 0,iL 0], .box [lsv a0a 2 s0.2.2.1,lsv a0a 2 s0.2.2.2.1,lsv a0a 2 s0.2.2.2.2.1,lsv a0a 2 s0.2.2.2.2.2.1, .bool s0.2.2.2.2.2.2.1,iL s0.2.2.2.2.2.2.2.1,iL s0.2.2.2.2.2.2.2.2.1,iL s0.2.2.2.2.2.2.2.2.2.1,iL s0.2.2.2.2.2.2.2.2.2.2.1,iL s0.2.2.2.2.2.2.2.2.2.2.2.1,iL s0.2.2.2.2.2.2.2.2.2.2.2.2.1,iL s0.2.2.2.2.2.2.2.2.2.2.2.2.2.1,iL s0.2.2.2.2.2.2.2.2.2.2.2.2.2.2.1,iL s0.2.2.2.2.2.2.2.2.2.2.2.2.2.2.2.1, .bool s0.2.2.2.2.2.2.2.2.2.2.2.2.2.2.2.2.1,iM s0.2.2.2.2.2.2.2.2.2.2.2.2.2.2.2.2.2.1,iL s0.2.2.2.2.2.2.2.2.2.2.2.2.2.2.2.2.2.2]])) (fun y4 hy2 h14=>kcN hy2 (fun(s2:Bool)=>([(2, .ptr 0 0),(3,iL 0),(4,iL 0),(8, .ptr 1 0),(11,iL s0.1),(67, .bool s2)],[.box [.nl, .nl, .nl, .nl, .bool false,iL 0,iL 0,iL 0,iL 0,iL 0,iL 0,iL 0,iL 0,iL 0, .bool false,iM 0,iL 0], .box [lsv a0a 2 s0.2.2.1,lsv a0a 2 s0.2.2.2.1,lsv a0a 2 s0.2.2.2.2.1,lsv a0a 2 s0.2.2.2.2.2.1, .bool s0.2.2.2.2.2.2.1,iL s0.2.2.2.2.2.2.2.1,iL s0.2.2.2.2.2.2.2.2.1,iL s0.2.2.2.2.2.2.2.2.2.1,iL s0.2.2.2.2.2.2.2.2.2.2.1,iL s0.2.2.2.2.2.2.2.2.2.2.2.1,iL s0.2.2.2.2.2.2.2.2.2.2.2.2.1,iL s0.2.2.2.2.2.2.2.2.2.2.2.2.2.1,iL s0.2.2.2.2.2.2.2.2.2.2.2.2.2.2.1,iL s0.2.2.2.2.2.2.2.2.2.2.2.2.2.2.2.1, .bool s0.2.2.2.2.2.2.2.2.2.2.2.2.2.2.2.2.1,iM s0.2.2.2.2.2.2.2.2.2.2.2.2.2.2.2.2.2.1,iL s0.2.2.2.2.2.2.2.2.2.2.2.2.2.2.2.2.2.2]])) (fun s2 hy3=>km 3 (kB 62 hy3 (fun h17=>ke 5 (kNo h17 [2,3,4,8,11,67])) (fun h18=>ke 5 (kNo h18 [2,3,4,8,11,67])))) (fun s2 h16=>kBT 67 h16 (fun h19=>kq (kX (kCx h19 h14 (fun h21=>by obtain rfl:=oi h21;exact PJ.res (v1:= .tup [zQ,iL s0.1,iL 2]) (Le.tup (.cons (Le.agg (.cons (Le.nl _) (.cons (Le.nl _) (.cons (Le.nl _) (.cons (Le.nl _) (LeL.refl _)))))) (LeL.refl _))) (kZ H D W))))) (fun h20=>kK (kXo h20 [2,3,4,8])))) (fun s4 h15=>kcX h15 (fun(s5:Unit)=>([(2, .ptr 0 0),(3,iL 0),(4,iL 0),(8, .ptr 1 0)],[.box [.nl, .nl, .nl, .nl, .bool false,iL 0,iL 0,iL 0,iL 0,iL 0,iL 0,iL 0,iL 0,iL 0, .bool false,iM 0,iL 0], .box [lsv a0a 2 s0.2.2.1,lsv a0a 2 s0.2.2.2.1,lsv a0a 2 s0.2.2.2.2.1,lsv a0a 2 s0.2.2.2.2.2.1, .bool s0.2.2.2.2.2.2.1,iL s0.2.2.2.2.2.2.2.1,iL s0.2.2.2.2.2.2.2.2.1,iL s0.2.2.2.2.2.2.2.2.2.1,iL s0.2.2.2.2.2.2.2.2.2.2.1,iL s0.2.2.2.2.2.2.2.2.2.2.2.1,iL s0.2.2.2.2.2.2.2.2.2.2.2.2.1,iL s0.2.2.2.2.2.2.2.2.2.2.2.2.2.1,iL s0.2.2.2.2.2.2.2.2.2.2.2.2.2.2.1,iL s0.2.2.2.2.2.2.2.2.2.2.2.2.2.2.2.1, .bool s0.2.2.2.2.2.2.2.2.2.2.2.2.2.2.2.2.1,iM s0.2.2.2.2.2.2.2.2.2.2.2.2.2.2.2.2.2.1,iL s0.2.2.2.2.2.2.2.2.2.2.2.2.2.2.2.2.2.2]])) (fun y5 hy4 h22=>kcN hy4 (fun(s3:Bool)=>([(2, .ptr 0 0),(3,iL 0),(4,iL 0),(8, .ptr 1 0),(90, .bool s3)],[.box [.nl, .nl, .nl, .nl, .bool false,iL 0,iL 0,iL 0,iL 0,iL 0,iL 0,iL 0,iL 0,iL 0, .bool false,iM 0,iL 0], .box [lsv a0a 2 s0.2.2.1,lsv a0a 2 s0.2.2.2.1,lsv a0a 2 s0.2.2.2.2.1,lsv a0a 2 s0.2.2.2.2.2.1, .bool s0.2.2.2.2.2.2.1,iL s0.2.2.2.2.2.2.2.1,iL s0.2.2.2.2.2.2.2.2.1,iL s0.2.2.2.2.2.2.2.2.2.1,iL s0.2.2.2.2.2.2.2.2.2.2.1,iL s0.2.2.2.2.2.2.2.2.2.2.2.1,iL s0.2.2.2.2.2.2.2.2.2.2.2.2.1,iL s0.2.2.2.2.2.2.2.2.2.2.2.2.2.1,iL s0.2.2.2.2.2.2.2.2.2.2.2.2.2.2.1,iL s0.2.2.2.2.2.2.2.2.2.2.2.2.2.2.2.1, .bool s0.2.2.2.2.2.2.2.2.2.2.2.2.2.2.2.2.1,iM s0.2.2.2.2.2.2.2.2.2.2.2.2.2.2.2.2.2.1,iL s0.2.2.2.2.2.2.2.2.2.2.2.2.2.2.2.2.2.2]])) (fun s3 hy5=>km 7 (kB 76 hy5 (fun h25=>ke 14 (kNo h25 [2,3,4,8,90])) (fun h26=>kc 5 (kB 81 h26 (fun h27=>ke 9 (kNo h27 [2,3,4,8,90])) (fun h28=>kc 5 (kB 86 h28 (fun h29=>ke 4 (kNo h29 [2,3,4,8,90])) (fun h30=>ke 4 (kNo h30 [2,3,4,8,90])))))))) (fun s3 h24=>kBT 90 h24 (fun h31=>kq (kX (kCx h31 h22 (fun h33=>by obtain rfl:=oi h33;exact PJ.res (v1:= .tup [zQ,iL 0,iL 11]) (Le.tup (.cons (Le.agg (.cons (Le.nl _) (.cons (Le.nl _) (.cons (Le.nl _) (.cons (Le.nl _) (LeL.refl _)))))) (LeL.refl _))) (kZ H D W))))) (fun h32=>kK (kXo h32 [2,3,4,8])))) (fun s5 h23=>kq (kX (by cases h23;exact kZ H D W)))))))))))))))))))))
def b0e(x0:List a0b):Option (Bool):=
 (Option.bind (a0s (fun(s0:Int)=>(bif(decide (s0<(x0.length:Int)))then(bif inR s0 x0.length then(Option.bind (a0B ((nth x0 s0).R_)) fun y0=>(bif(!y0)then(some (.inr (.inr false)))else(some (.inl (IntKind.wrap .i64 (s0+1))))))else none)else(some (.inr (.inl ()))))) big 0) (a0g fun(s1:Unit)=>(some true)))
theorem c0V {x0:List a0b} {r:Bool} (h:b0e x0=some r):SQ 64 [lsv a0a 2 x0] [] (.bool r) []:=by
 refine kFn (fn:=Tryz.f64) (fun F H D W=> ?_)
 unfold b0e at h
 exact kq (kcX h (fun(s1:Unit)=>([(2, .bool false)],[])) (fun y1 hy0 h0=>kq (kb 0 (kl (fun(s0:Int)=>([(0,lsv a0a 2 x0),(2, .bool false),(3,iL s0)],[])) hy0 [0,2,3] (fun s0 x86 hs0=>kS (kq (kBT 8 hs0 (fun h2=>kKN (kS (kb 1 (kn 2 (kIb 13 a0C h2 (fun h4=>kc 2 (kAb 16 h4 (fun _=>d0a) (fun y0 h5=>kr 1 (kq (kBT 18 h5 (fun h6=>kq (kXp (kLx h6 (fun h8=>PJ.blockRet (kCx h8 h0 (fun h9=>by obtain rfl:=oi h9;exact kZ H D W)))))) (fun h7=>kKn (kM (kLo h7 [0,2,3]))))))))))))) (fun h3=>kEp 0 (kLx h3 (fun h10=>PJ.blockOut (kXo h10 [2])))))))))) (fun s1 h1=>kq (kX (by cases h1;exact kZ H D W))))
def b0S(x0:Int):Option (List Int):=
 (Option.bind (b0k x0) fun y0=>(bif(decide (y0=1))then(some ([(IntKind.wrap .u8 (IntKind.wrap .i64 x0))]:List Int))else(bif(decide (y0=2))then(some ([(IntKind.wrap .u8 ((IntKind.wrap .i64 (192+((IntKind.wrap .i64 (Int.tdiv (IntKind.wrap .i64 x0) 64))))))),(IntKind.wrap .u8 ((IntKind.wrap .i64 (128+(Int.tmod (IntKind.wrap .i64 x0) 64)))))]:List Int))else(bif(decide (y0=3))then(some ([(IntKind.wrap .u8 ((IntKind.wrap .i64 (224+((IntKind.wrap .i64 (Int.tdiv (IntKind.wrap .i64 x0) 4096))))))),(IntKind.wrap .u8 ((IntKind.wrap .i64 (128+((Int.tmod ((IntKind.wrap .i64 (Int.tdiv (IntKind.wrap .i64 x0) 64))) 64)))))),(IntKind.wrap .u8 ((IntKind.wrap .i64 (128+(Int.tmod (IntKind.wrap .i64 x0) 64)))))]:List Int))else(bif(decide (y0=4))then(some ([(IntKind.wrap .u8 ((IntKind.wrap .i64 (240+((IntKind.wrap .i64 (Int.tdiv (IntKind.wrap .i64 x0) 262144))))))),(IntKind.wrap .u8 ((IntKind.wrap .i64 (128+((Int.tmod ((IntKind.wrap .i64 (Int.tdiv (IntKind.wrap .i64 x0) 4096))) 64)))))),(IntKind.wrap .u8 ((IntKind.wrap .i64 (128+((Int.tmod ((IntKind.wrap .i64 (Int.tdiv (IntKind.wrap .i64 x0) 64))) 64)))))),(IntKind.wrap .u8 ((IntKind.wrap .i64 (128+(Int.tmod (IntKind.wrap .i64 x0) 64)))))]:List Int))else(some ([]:List Int)))))))
theorem k0g {x0:Int} {r:List Int} (h:b0S x0=some r):SQ 161 [iM x0] [] (lB r) []:=by
 refine kFn (fn:=Tryz.f161) (fun F H D W=> ?_)
 unfold b0S at h
 exact kq (kq (kS (kn 1 (kAb 7 h (fun _=>g0q) (fun y0 h0=>kEN (kb 0 (kq (kBT 8 h0 (fun h1=>kq (kXp (by obtain rfl:=oi h1;exact PJ.wk (Wk.freeze 0 (n:=(([(IntKind.wrap .u8 (IntKind.wrap .i64 x0))]:List Int)).length) (k:=1) (e:=5) (cs:=(([(IntKind.wrap .u8 (IntKind.wrap .i64 x0))]:List Int)).flatMap (a0u .u8)) (by kernel_rfl)) (kZ H D W)))) (fun h2=>kq (kBT 13 h2 (fun h3=>kq (kXp (by obtain rfl:=oi h3;exact PJ.wk (Wk.freeze 0 (n:=(([(IntKind.wrap .u8 ((IntKind.wrap .i64 (192+((IntKind.wrap .i64 (Int.tdiv (IntKind.wrap .i64 x0) 64))))))),(IntKind.wrap .u8 ((IntKind.wrap .i64 (128+(Int.tmod (IntKind.wrap .i64 x0) 64)))))]:List Int)).length) (k:=1) (e:=5) (cs:=(([(IntKind.wrap .u8 ((IntKind.wrap .i64 (192+((IntKind.wrap .i64 (Int.tdiv (IntKind.wrap .i64 x0) 64))))))),(IntKind.wrap .u8 ((IntKind.wrap .i64 (128+(Int.tmod (IntKind.wrap .i64 x0) 64)))))]:List Int)).flatMap (a0u .u8)) (by kernel_rfl)) (kZ H D W)))) (fun h4=>kq (kBT 24 h4 (fun h5=>kq (kXp (by obtain rfl:=oi h5;exact PJ.wk (Wk.freeze 0 (n:=(([(IntKind.wrap .u8 ((IntKind.wrap .i64 (224+((IntKind.wrap .i64 (Int.tdiv (IntKind.wrap .i64 x0) 4096))))))),(IntKind.wrap .u8 ((IntKind.wrap .i64 (128+((Int.tmod ((IntKind.wrap .i64 (Int.tdiv (IntKind.wrap .i64 x0) 64))) 64)))))),(IntKind.wrap .u8 ((IntKind.wrap .i64 (128+(Int.tmod (IntKind.wrap .i64 x0) 64)))))]:List Int)).length) (k:=1) (e:=5) (cs:=(([(IntKind.wrap .u8 ((IntKind.wrap .i64 (224+((IntKind.wrap .i64 (Int.tdiv (IntKind.wrap .i64 x0) 4096))))))),(IntKind.wrap .u8 ((IntKind.wrap .i64 (128+((Int.tmod ((IntKind.wrap .i64 (Int.tdiv (IntKind.wrap .i64 x0) 64))) 64)))))),(IntKind.wrap .u8 ((IntKind.wrap .i64 (128+(Int.tmod (IntKind.wrap .i64 x0) 64)))))]:List Int)).flatMap (a0u .u8)) (by kernel_rfl)) (kZ H D W)))) (fun h6=>kq (kBT 40 h6 (fun h7=>kq (kXp (by obtain rfl:=oi h7;exact PJ.wk (Wk.freeze 0 (n:=(([(IntKind.wrap .u8 ((IntKind.wrap .i64 (240+((IntKind.wrap .i64 (Int.tdiv (IntKind.wrap .i64 x0) 262144))))))),(IntKind.wrap .u8 ((IntKind.wrap .i64 (128+((Int.tmod ((IntKind.wrap .i64 (Int.tdiv (IntKind.wrap .i64 x0) 4096))) 64)))))),(IntKind.wrap .u8 ((IntKind.wrap .i64 (128+((Int.tmod ((IntKind.wrap .i64 (Int.tdiv (IntKind.wrap .i64 x0) 64))) 64)))))),(IntKind.wrap .u8 ((IntKind.wrap .i64 (128+(Int.tmod (IntKind.wrap .i64 x0) 64)))))]:List Int)).length) (k:=1) (e:=5) (cs:=(([(IntKind.wrap .u8 ((IntKind.wrap .i64 (240+((IntKind.wrap .i64 (Int.tdiv (IntKind.wrap .i64 x0) 262144))))))),(IntKind.wrap .u8 ((IntKind.wrap .i64 (128+((Int.tmod ((IntKind.wrap .i64 (Int.tdiv (IntKind.wrap .i64 x0) 4096))) 64)))))),(IntKind.wrap .u8 ((IntKind.wrap .i64 (128+((Int.tmod ((IntKind.wrap .i64 (Int.tdiv (IntKind.wrap .i64 x0) 64))) 64)))))),(IntKind.wrap .u8 ((IntKind.wrap .i64 (128+(Int.tmod (IntKind.wrap .i64 x0) 64)))))]:List Int)).flatMap (a0u .u8)) (by kernel_rfl)) (kZ H D W)))) (fun h8=>kKn (kq (kX (by obtain rfl:=oi h8;exact PJ.res (v1:= .nl) (Le.nl _) (kZ H D W)))))))))))))))))))
def a0R(x0:Int):Option (List UInt8):=
 (Option.bind (b0S x0) fun y0=>(some (a0q y0)))
theorem e0D {x0:Int} {r:List UInt8} (h:a0R x0=some r):SQ 139 [iM x0] [] (.str r) []:=by
 refine kFn (fn:=Tryz.f139) (fun F H D W=> ?_)
 unfold a0R at h
 exact kq (kn 1 (kAb 4 h (fun _=>k0g) (fun y0 h0=>RJ.rel (d:=(some 5)) (ef:=⟨.str ((y0.flatMap (a0u .u8)).map Go.Sy.byteOf),[],[]⟩) (ef':=⟨.str (a0q y0),[],[]⟩) (c:=(y0.flatMap (a0u .u8)).all l0U) (tr2:=[]) (H2:=[]) (by kernel_rfl) (w0T y0) (fun hc=>N.toStr) (by kernel_rfl) (kr 1 (kX (by cases h0;exact kZ H D W))))))
def b0a(x0:a0y)(x1:Int):Option (List UInt8):=
 (bif(decide (x0.y_=x1))then(Option.bind (a0R x0.f_) fun y0=>(bif room (([42]:List UInt8).length+y0.length)then(some (([42]:List UInt8)++y0))else none))else(some ([]:List UInt8)))
theorem c0L {x0:a0y} {x1:Int} {r:List UInt8} (h:b0a x0 x1=some r):SQ 111 [.agg (a0c x0),iL x1] [] (.str r) []:=by
 refine kFn (fn:=Tryz.f111) (fun F H D W=> ?_)
 unfold b0a at h
 refine kq (kS (kq (kBT 8 h (fun h0=> ?_) (fun h1=> ?_))))
 ·refine kn 2 (kAb 11 h0 (fun _=>e0D) (fun y0 h2=> ?_))
  obtain⟨hm,h3⟩:=b0y h2
  exact kQ 12 (.str (([42]:List UInt8)++y0)) [] (tr2:=[]) hm (kr 1 (kX (PJ.passRet (by cases h3;exact kZ H D W))))
 ·exact kKN (kq (kX (by cases h1;exact kZ H D W)))
def a0P(x0:List a0b):Option (List UInt8):=
 (Option.bind (a0s (fun(s0:(List UInt8)×Bool×Int)=>(bif(decide (s0.2.2<(x0.length:Int)))then(Option.bind (bif inR s0.2.2 x0.length then(Option.bind (a0Q ((nth x0 s0.2.2).R_)) fun y2=>(Option.bind (bif inR s0.2.2 x0.length then(bif(decide (((nth x0 s0.2.2).x_)=0))then(bif inR s0.2.2 x0.length then(some ((decide (((nth x0 s0.2.2).R_)=39))))else none)else(some false))else none) fun(s3:Bool)=>(Option.bind (bif inR s0.2.2 x0.length then(bif(decide (((nth x0 s0.2.2).x_)=0))then(some y2)else(some false))else none) fun(s4:Bool)=>(Option.bind (Option.bind (bif(!s3)then(some (s4 !=s0.2.1))else(some false)) fun(s6:Bool)=>(bif s6 then(bif room (s0.1.length+([39]:List UInt8).length)then(some ((s0.1++([39]:List UInt8)),s4))else none)else(some (s0.1,s0.2.1)))) fun(s1:(List UInt8)×Bool)=>(bif inR s0.2.2 x0.length then(bif(decide (((nth x0 s0.2.2).x_)=0))then(bif inR s0.2.2 x0.length then(Option.bind (a0R ((nth x0 s0.2.2).R_)) fun y0=>(bif room (s1.1.length+y0.length)then(bif s3 then(bif room ((s1.1++y0).length+([39]:List UInt8).length)then(some (((s1.1++y0)++([39]:List UInt8)),s1.2))else none)else(some ((s1.1++y0),s1.2)))else none))else none)else(bif(decide (((nth x0 s0.2.2).x_)=1))then(bif room (s1.1.length+([45]:List UInt8).length)then(some ((s1.1++([45]:List UInt8)),s1.2))else none)else(bif(decide (((nth x0 s0.2.2).x_)=2))then(bif room (s1.1.length+([43]:List UInt8).length)then(some ((s1.1++([43]:List UInt8)),s1.2))else none)else(bif(decide (((nth x0 s0.2.2).x_)=3))then(bif room (s1.1.length+([37]:List UInt8).length)then(some ((s1.1++([37]:List UInt8)),s1.2))else none)else(bif(decide (((nth x0 s0.2.2).x_)=4))then(Option.bind (a0R 164) fun y1=>(bif room (s1.1.length+y1.length)then(some ((s1.1++y1),s1.2))else none))else(some (s1.1,s1.2)))))))else none)))))else none) fun(s5:(List UInt8)×Bool)=>(some (.inl (s5.1,s5.2,(IntKind.wrap .i64 (s0.2.2+1))))))else(some (.inr (s0.1,s0.2.1))))) big (([]:List UInt8),false,0)) fun(s2:(List UInt8)×Bool)=>(Option.bind (bif s2.2 then(bif room (s2.1.length+([39]:List UInt8).length)then(some (s2.1++([39]:List UInt8)))else none)else(some s2.1)) fun(s7:(List UInt8))=>(some s7)))
theorem c0z {x0:List a0b} {r:List UInt8} (h:a0P x0=some r):SQ 112 [lsv a0a 2 x0] [] (.str r) []:=by
 refine kFn (fn:=Tryz.f112) (fun F H D W=> ?_)
 unfold a0P at h
 refine kq (kq (kq (kcN h (fun(s2:(List UInt8)×Bool)=>([(2, .str ([]:List UInt8)),(3, .str s2.1),(4, .bool s2.2)],[])) (fun s2 hy0=> ?_) (fun s2 h0=> ?_))))
 ·refine kq (kb 0 (kl (fun(s0:(List UInt8)×Bool×Int)=>([(0,lsv a0a 2 x0),(2, .str ([]:List UInt8)),(3, .str s0.1),(4, .bool s0.2.1),(5,iL s0.2.2)],[])) hy0 [0,2,3,4,5] (fun s0 x1051 hs0=>kS (kq (kBT 12 hs0 (fun h1=> ?_) (fun h2=> ?_))))))
  ·refine kKN (kcN h1 (fun(s5:(List UInt8)×Bool)=>([(0,lsv a0a 2 x0),(2, .str ([]:List UInt8)),(3, .str s5.1),(4, .bool s5.2),(5,iL s0.2.2)],[])) (fun s5 hy1=> ?_) (fun s5 h3=> ?_))
   ·refine kb 1 (kn 2 (kIb 17 a0C hy1 (fun h4=>kc 2 (kAb 20 h4 (fun _=>f0t) (fun y2 h5=>kr 1 (kcN h5 (fun(s3:Bool)=>([(0,lsv a0a 2 x0),(2, .str ([]:List UInt8)),(3, .str s0.1),(4, .bool s0.2.1),(5,iL s0.2.2),(6, .bool y2),(7, .bool s3)],[])) (fun s3 hy2=> ?_) (fun s3 h6=> ?_)))))))
    ·exact km 2 (kIb 23 a0C hy2 (fun h7=>kc 4 (kB 27 h7 (fun h8=>kc 2 (kIb 30 a0C h8 (fun h10=>ke 5 (kNo h10 [0,2,3,4,5,6,7])))) (fun h9=>ke 8 (kNo h9 [0,2,3,4,5,6,7])))))
    ·refine kcN h6 (fun(s4:Bool)=>([(0,lsv a0a 2 x0),(2, .str ([]:List UInt8)),(3, .str s0.1),(4, .bool s0.2.1),(5,iL s0.2.2),(7, .bool s3),(8, .bool s4)],[])) (fun s4 hy3=> ?_) (fun s4 h11=> ?_)
     ·exact km 2 (kIb 37 a0C hy3 (fun h12=>kc 4 (kB 41 h12 (fun h13=>ke 3 (kNo h13 [0,2,3,4,5,7,8])) (fun h14=>ke 3 (kNo h14 [0,2,3,4,5,7,8])))))
     ·refine kcN h11 (fun(s1:(List UInt8)×Bool)=>([(0,lsv a0a 2 x0),(2, .str ([]:List UInt8)),(3, .str s1.1),(4, .bool s1.2),(5,iL s0.2.2),(7, .bool s3)],[])) (fun s1 hy4=> ?_) (fun s1 h15=> ?_)
      ·refine kcN hy4 (fun(s6:Bool)=>([(0,lsv a0a 2 x0),(2, .str ([]:List UInt8)),(3, .str s0.1),(4, .bool s0.2.1),(5,iL s0.2.2),(7, .bool s3),(8, .bool s4),(50, .bool s6)],[])) (fun s6 hy5=> ?_) (fun s6 h16=> ?_)
       ·exact km 3 (kB 46 hy5 (fun h17=>ke 4 (kNo h17 [0,2,3,4,5,7,8,50])) (fun h18=>ke 4 (kNo h18 [0,2,3,4,5,7,8,50])))
       ·refine kBT 50 h16 (fun h19=> ?_) (fun h20=> ?_)
        ·refine kn 1 ?_
         obtain⟨hm,h21⟩:=b0y h19
         exact kQ 52 (.str (s0.1++([39]:List UInt8))) [] (tr2:=[]) hm (kr 1 (kM (kNo h21 [0,2,3,4,5,7])))
        ·exact kK (kNo h20 [0,2,3,4,5,7])
      ·refine kn 2 (kIb 56 a0C h15 (fun h22=>kr 2 (kb 2 (kq (kBT 59 h22 (fun h23=> ?_) (fun h24=> ?_))))))
       ·refine kn 3 (kIb 64 a0C h23 (fun h25=>kc 2 (kAb 67 h25 (fun _=>e0D) (fun y0 h26=> ?_))))
        obtain⟨hm,h27⟩:=b0y h26
        refine kQ 68 (.str (s1.1++y0)) [] (tr2:=[]) hm (kr 1 (kq (kBT 69 h27 (fun h28=> ?_) (fun h29=> ?_))))
        ·refine km 1 ?_
         obtain⟨hm,h30⟩:=b0y h28
         exact kQ 71 (.str ((s1.1++y0)++([39]:List UInt8))) [] (tr2:=[]) hm (RJ.seg 1 [0,2,3,4,5] (L2:=[(0,lsv a0a 2 x0),(2, .str ([]:List UInt8)),(3, .str ((s1.1++y0)++([39]:List UInt8))),(4, .bool s1.2),(5,iL s0.2.2)]) (H2:=[]) (by kernel_rfl) (kE (PJ.blockNormal (PJ.blockNormal (kNo h30 [0,2,3,4,5])))))
        ·exact kKb (PJ.blockNormal (kNo h29 [0,2,3,4,5]))
       ·refine kq (kBT 72 h24 (fun h31=> ?_) (fun h32=> ?_))
        ·refine km 1 ?_
         obtain⟨hm,h33⟩:=b0y h31
         exact kQ 75 (.str (s1.1++([45]:List UInt8))) [] (tr2:=[]) hm (ke 1 (PJ.blockNormal (PJ.blockNormal (kNo h33 [0,2,3,4,5]))))
        ·refine kq (kBT 76 h32 (fun h34=> ?_) (fun h35=> ?_))
         ·refine km 1 ?_
          obtain⟨hm,h36⟩:=b0y h34
          exact kQ 79 (.str (s1.1++([43]:List UInt8))) [] (tr2:=[]) hm (ke 1 (PJ.blockNormal (PJ.blockNormal (kNo h36 [0,2,3,4,5]))))
         ·refine kq (kBT 80 h35 (fun h37=> ?_) (fun h38=> ?_))
          ·refine km 1 ?_
           obtain⟨hm,h39⟩:=b0y h37
           exact kQ 83 (.str (s1.1++([37]:List UInt8))) [] (tr2:=[]) hm (ke 1 (PJ.blockNormal (PJ.blockNormal (kNo h39 [0,2,3,4,5]))))
          ·refine kq (kBT 84 h38 (fun h40=> ?_) (fun h41=> ?_))
           ·refine km 1 (kAb 87 h40 (fun _=>e0D) (fun y1 h42=> ?_))
            obtain⟨hm,h43⟩:=b0y h42
            exact kQ 88 (.str (s1.1++y1)) [] (tr2:=[]) hm (RJ.seg 1 [0,2,3,4,5] (L2:=[(0,lsv a0a 2 x0),(2, .str ([]:List UInt8)),(3, .str (s1.1++y1)),(4, .bool s1.2),(5,iL s0.2.2)]) (H2:=[]) (by kernel_rfl) (kE (PJ.blockNormal (PJ.blockNormal (kNo h43 [0,2,3,4,5])))))
           ·exact kKb (PJ.blockNormal (kNo h41 [0,2,3,4,5]))
   ·exact kM (kLo h3 [0,2,3,4,5])
  ·exact kEp 0 (kLx h2 (fun h44=>PJ.blockOut (kNo h44 [2,3,4])))
 ·refine kcN h0 (fun(s7:(List UInt8))=>([(2, .str ([]:List UInt8)),(3, .str s7)],[])) (fun s7 hy6=> ?_) (fun s7 h45=> ?_)
  ·refine kq (kBT 89 hy6 (fun h46=> ?_) (fun h47=> ?_))
   ·refine km 1 ?_
    obtain⟨hm,h48⟩:=b0y h46
    exact kQ 91 (.str (s2.1++([39]:List UInt8))) [] (tr2:=[]) hm (ke 1 (kNo h48 [2,3]))
   ·exact kK (kNo h47 [2,3])
  ·exact kq (kX (by cases h45;exact kZ H D W))
def a0V(x0:List UInt8)(x1:Int):Option (List UInt8):=
 (Option.bind (a0s (fun(s0:(List UInt8)×Int)=>(bif(decide (s0.2<x1))then(bif room (s0.1.length+x0.length)then(some (.inl ((s0.1++x0),(IntKind.wrap .i64 (s0.2+1)))))else none)else(some (.inr s0.1)))) big (([]:List UInt8),0)) fun(s1:(List UInt8))=>(some s1))
theorem c0r {x0:List UInt8} {x1:Int} {r:List UInt8} (h:a0V x0 x1=some r):SQ 141 [.str x0,iL x1] [] (.str r) []:=by
 refine kFn (fn:=Tryz.f141) (fun F H D W=> ?_)
 unfold a0V at h
 refine kq (kq (kcN h (fun(s1:(List UInt8))=>([(4, .str ([]:List UInt8)),(5, .str s1)],[])) (fun s1 hy0=> ?_) (fun s1 h0=> ?_)))
 ·refine kq (kb 0 (kl (fun(s0:(List UInt8)×Int)=>([(0, .str x0),(1,iL x1),(4, .str ([]:List UInt8)),(5, .str s0.1),(6,iL s0.2)],[])) hy0 [0,1,4,5,6] (fun s0 x41 hs0=>kS (kq (kBT 9 hs0 (fun h1=> ?_) (fun h2=> ?_))))))
  ·refine kKN (kS (kb 1 (km 2 ?_)))
   obtain⟨hm,h3⟩:=b0y h1
   exact kQ 14 (.str (s0.1++x0)) [] (tr2:=[]) hm (ke 1 (PJ.blockNormal (PJ.next (kM (kLo h3 [0,1,4,5,6])))))
  ·exact kEp 0 (kLx h2 (fun h4=>PJ.blockOut (kNo h4 [4,5])))
 ·exact kq (kX (by cases h0;exact kZ H D W))
def b0r(x0:a0y):Option (List UInt8):=
 (Option.bind (a0s (fun(s0:(List UInt8)×Int)=>(bif(decide (s0.2<(IntKind.wrap .i64 (x0.n_+x0.j_))))then(Option.bind (Option.bind (Option.bind (bif(decide (x0.e_>0))then(bif(decide (s0.2=x0.e_))then(some true)else(bif(decide (s0.2>x0.e_))then(bif(decide (x0.g_>0))then(bif nz x0.g_ then(some ((decide (((Int.tmod (IntKind.wrap .i64 (s0.2-x0.e_)) x0.g_))=0))))else none)else(some false))else(some false)))else(some false)) fun(s5:Bool)=>(bif s5 then(bif room (([44]:List UInt8).length+s0.1.length)then(some (([44]:List UInt8)++s0.1))else none)else(some s0.1))) fun(s3:(List UInt8))=>(bif(decide (s0.2<x0.j_))then(bif room (([48]:List UInt8).length+s3.length)then(some (([48]:List UInt8)++s3))else none)else(bif room (([35]:List UInt8).length+s3.length)then(some (([35]:List UInt8)++s3))else none))) fun(s6:(List UInt8))=>(some (.inl (s6,(IntKind.wrap .i64 (s0.2+1))))))else(some (.inr s0.1)))) big (([]:List UInt8),0)) fun(s1:(List UInt8))=>(Option.bind (a0V ([64]:List UInt8) x0.l_) fun y0=>(Option.bind (a0V ([35]:List UInt8) (IntKind.wrap .i64 (x0.m_-x0.l_))) fun y1=>(bif room (y0.length+y1.length)then(bif room ((y0++y1).length+s1.length)then(Option.bind (bif(decide (x0.k_>0))then(bif room (((y0++y1)++s1).length+([46]:List UInt8).length)then(Option.bind (a0V ([48]:List UInt8) x0.p_) fun y2=>(bif room (((((y0++y1)++s1)++([46]:List UInt8))).length+y2.length)then(Option.bind (a0V ([35]:List UInt8) (IntKind.wrap .i64 (x0.k_-x0.p_))) fun y3=>(bif room (((((((y0++y1)++s1)++([46]:List UInt8)))++y2)).length+y3.length)then(some ((((((((y0++y1)++s1)++([46]:List UInt8)))++y2))++y3)))else none))else none))else none)else(some ((y0++y1)++s1))) fun(s2:(List UInt8))=>(Option.bind (bif(decide (x0.d_>0))then(bif room (s2.length+([69]:List UInt8).length)then(Option.bind (bif x0.G_ then(bif room ((s2++([69]:List UInt8)).length+([43]:List UInt8).length)then(some (((s2++([69]:List UInt8))++([43]:List UInt8))))else none)else(some (s2++([69]:List UInt8)))) fun(s4:(List UInt8))=>(Option.bind (a0V ([48]:List UInt8) x0.d_) fun y4=>(bif room (s4.length+y4.length)then(some (s4++y4))else none)))else none)else(some s2)) fun(s7:(List UInt8))=>(some s7)))else none)else none))))
theorem f0G {x0:a0y} {r:List UInt8} (h:b0r x0=some r):SQ 113 [.agg (a0c x0)] [] (.str r) []:=by
 refine kFn (fn:=Tryz.f113) (fun F H D W=> ?_)
 unfold b0r at h
 refine kq (kq (kcN h (fun(s1:(List UInt8))=>([(1, .ptr 0 0),(2, .str ([]:List UInt8)),(3, .str s1)],[.box (a0c x0)])) (fun s1 hy0=> ?_) (fun s1 h0=> ?_)))
 ·refine kq (kb 0 (kl (fun(s0:(List UInt8)×Int)=>([(1, .ptr 0 0),(2, .str ([]:List UInt8)),(3, .str s0.1),(4,iL s0.2)],[.box (a0c x0)])) hy0 [1,2,3,4] (fun s0 x861 hs0=>kS (kq (kBT 11 hs0 (fun h1=> ?_) (fun h2=> ?_))))))
  ·refine kKN (kcN h1 (fun(s6:(List UInt8))=>([(1, .ptr 0 0),(2, .str ([]:List UInt8)),(3, .str s6),(4,iL s0.2)],[.box (a0c x0)])) (fun s6 hy1=> ?_) (fun s6 h3=> ?_))
   ·refine kb 1 (kcN hy1 (fun(s3:(List UInt8))=>([(1, .ptr 0 0),(2, .str ([]:List UInt8)),(3, .str s3),(4,iL s0.2)],[.box (a0c x0)])) (fun s3 hy2=> ?_) (fun s3 h4=> ?_))
    ·refine kcN hy2 (fun(s5:Bool)=>([(1, .ptr 0 0),(2, .str ([]:List UInt8)),(3, .str s0.1),(4,iL s0.2),(43, .bool s5)],[.box (a0c x0)])) (fun s5 hy3=> ?_) (fun s5 h5=> ?_)
     ·refine km 4 (kB 17 hy3 (fun h6=> ?_) (fun h7=> ?_))
      ·refine kc 5 (kB 22 h6 (fun h8=> ?_) (fun h9=> ?_))
       ·exact ke 21 (kNo h8 [1,2,3,4,43])
       ·refine kc 5 (kB 27 h9 (fun h10=> ?_) (fun h11=> ?_))
        ·refine kc 5 (kB 32 h10 (fun h12=> ?_) (fun h13=> ?_))
         ·refine kc 6 ?_
          obtain⟨hm,h14⟩:=b0y h12
          exact kQ 39 (iL (Int.tmod (IntKind.wrap .i64 (s0.2-x0.e_)) x0.g_)) [] (tr2:=[]) hm (ke 4 (kNo h14 [1,2,3,4,43]))
         ·exact ke 11 (kNo h13 [1,2,3,4,43])
        ·exact ke 16 (kNo h11 [1,2,3,4,43])
      ·exact ke 26 (kNo h7 [1,2,3,4,43])
     ·refine kBT 43 h5 (fun h15=> ?_) (fun h16=> ?_)
      ·refine km 1 ?_
       obtain⟨hm,h17⟩:=b0y h15
       exact kQ 45 (.str (([44]:List UInt8)++s0.1)) [] (tr2:=[]) hm (ke 1 (kNo h17 [1,2,3,4]))
      ·exact kK (kNo h16 [1,2,3,4])
    ·refine kq (kBT 49 h4 (fun h18=> ?_) (fun h19=> ?_))
     ·refine km 1 ?_
      obtain⟨hm,h20⟩:=b0y h18
      exact kQ 51 (.str (([48]:List UInt8)++s3)) [] (tr2:=[]) hm (ke 1 (PJ.blockNormal (kNo h20 [1,2,3,4])))
     ·refine km 1 ?_
      obtain⟨hm,h21⟩:=b0y h19
      exact kQ 53 (.str (([35]:List UInt8)++s3)) [] (tr2:=[]) hm (ke 1 (PJ.blockNormal (kNo h21 [1,2,3,4])))
   ·exact kM (kLo h3 [1,2,3,4])
  ·exact kEp 0 (kLx h2 (fun h22=>PJ.blockOut (kNo h22 [1,2,3])))
 ·refine kS (kDr (kD 2 ?_))
  obtain⟨y0,hy4,h23⟩:=a0f h0
  refine kC0 (some 56) [([],[]),([0,1],[]),([],[2,3])] (c0r hy4) (kD 5 ?_)
  obtain⟨y1,hy5,h24⟩:=a0f h23
  refine kC0 (some 62) [([],[]),([0,1],[]),([],[2,3]),([],[]),([0,1],[]),([],[]),([0,1],[]),([],[]),([],[4,5])] (c0r hy5) ?_
  obtain⟨hm,h25⟩:=b0y h24
  refine kQ 63 (.str (y0++y1)) [] (tr2:=[([],[]),([0,1],[]),([],[2,3]),([],[]),([0,1],[]),([],[]),([0,1],[]),([],[]),([],[4,5]),([],[])]) hm (kD 1 ?_)
  obtain⟨hm,h26⟩:=b0y h25
  refine kQ 65 (.str ((y0++y1)++s1)) [] (tr2:=[([],[]),([0,1],[]),([],[2,3]),([],[]),([0,1],[]),([],[]),([0,1],[]),([],[]),([],[4,5]),([],[]),([],[]),([],[])]) hm (kD 1 (kEN (kcN h26 (fun(s2:(List UInt8))=>([(1, .ptr 0 0),(2, .str ([]:List UInt8)),(3, .str s2)],[.box (a0c x0)])) (fun s2 hy6=> ?_) (fun s2 h27=> ?_))))
  ·refine kq (kBT 68 hy6 (fun h28=> ?_) (fun h29=> ?_))
   ·refine kDr (kD 1 ?_)
    obtain⟨hm,h30⟩:=b0y h28
    refine kQ 70 (.str (((y0++y1)++s1)++([46]:List UInt8))) [] (tr2:=[([],[]),([],[])]) hm (kD 2 ?_)
    obtain⟨y2,hy7,h31⟩:=a0f h30
    refine kC0 (some 73) [([],[]),([],[]),([],[]),([0,1],[]),([],[6,7])] (c0r hy7) ?_
    obtain⟨hm,h32⟩:=b0y h31
    refine kQ 74 (.str (((((y0++y1)++s1)++([46]:List UInt8)))++y2)) [] (tr2:=[([],[]),([],[]),([],[]),([0,1],[]),([],[6,7]),([],[])]) hm (kD 5 ?_)
    obtain⟨y3,hy8,h33⟩:=a0f h32
    refine kC0 (some 80) [([],[]),([],[]),([],[]),([0,1],[]),([],[6,7]),([],[]),([],[]),([0,1],[]),([],[]),([0,1],[]),([],[]),([],[8,9])] (c0r hy8) ?_
    obtain⟨hm,h34⟩:=b0y h33
    exact kQ 81 (.str (((((((y0++y1)++s1)++([46]:List UInt8)))++y2))++y3)) [] (tr2:=[([],[]),([],[]),([],[]),([0,1],[]),([],[6,7]),([],[]),([],[]),([0,1],[]),([],[]),([0,1],[]),([],[]),([],[8,9]),([],[])]) hm (kD 1 (kE (kNW h34 D W [0])))
   ·exact kK (kNW h29 D W [0])
  ·refine kcN h27 (fun(s7:(List UInt8))=>([(2, .str ([]:List UInt8)),(3, .str s7)],[])) (fun s7 hy9=> ?_) (fun s7 h35=> ?_)
   ·refine kq (kBT 84 hy9 (fun h36=> ?_) (fun h37=> ?_))
    ·refine kn 1 ?_
     obtain⟨hm,h38⟩:=b0y h36
     refine kQ 86 (.str (s2++([69]:List UInt8))) [] (tr2:=[]) hm (kr 1 (kcN h38 (fun(s4:(List UInt8))=>([(1, .ptr 0 0),(2, .str ([]:List UInt8)),(3, .str s4)],[.box (a0c x0)])) (fun s4 hy10=> ?_) (fun s4 h39=> ?_)))
     ·refine kq (kBT 88 hy10 (fun h40=> ?_) (fun h41=> ?_))
      ·refine km 1 ?_
       obtain⟨hm,h42⟩:=b0y h40
       exact kQ 90 (.str ((s2++([69]:List UInt8))++([43]:List UInt8))) [] (tr2:=[]) hm (ke 1 (kNo h42 [1,2,3]))
      ·exact kK (kNo h41 [1,2,3])
     ·refine km 3 (kAb 94 h39 (fun _=>c0r) (fun y4 h43=> ?_))
      obtain⟨hm,h44⟩:=b0y h43
      exact kQ 95 (.str (s4++y4)) [] (tr2:=[]) hm (ke 1 (kNW h44 D W []))
    ·exact kK (kNW h37 D W [])
   ·exact kq (kX (by cases h35;exact kZ H D W))
def b0j(x0:a0y):Option (List UInt8):=
 (Option.bind (b0a x0 1) fun y0=>(Option.bind (a0P x0.a_) fun y1=>(bif room (y0.length+y1.length)then(Option.bind (b0a x0 2) fun y2=>(bif room ((y0++y1).length+y2.length)then(Option.bind (b0r x0) fun y3=>(bif room (((y0++y1)++y2).length+y3.length)then(Option.bind (b0a x0 3) fun y4=>(bif room (((((y0++y1)++y2)++y3)).length+y4.length)then(Option.bind (a0P x0.b_) fun y5=>(bif room (((((((y0++y1)++y2)++y3))++y4)).length+y5.length)then(Option.bind (b0a x0 4) fun y6=>(bif room (((((((((y0++y1)++y2)++y3))++y4))++y5)).length+y6.length)then(Option.bind (bif x0.D_ then(bif room (((((((((((y0++y1)++y2)++y3))++y4))++y5))++y6)).length+([59]:List UInt8).length)then(Option.bind (a0P x0.i_) fun y7=>(bif room (((((((((((((y0++y1)++y2)++y3))++y4))++y5))++y6))++([59]:List UInt8))).length+y7.length)then(Option.bind (b0r x0) fun y8=>(bif room (((((((((((((((y0++y1)++y2)++y3))++y4))++y5))++y6))++([59]:List UInt8)))++y7)).length+y8.length)then(Option.bind (a0P x0.h_) fun y9=>(bif room (((((((((((((((((y0++y1)++y2)++y3))++y4))++y5))++y6))++([59]:List UInt8)))++y7))++y8)).length+y9.length)then(some ((((((((((((((((((y0++y1)++y2)++y3))++y4))++y5))++y6))++([59]:List UInt8)))++y7))++y8))++y9)))else none))else none))else none))else none)else(some ((((((((((y0++y1)++y2)++y3))++y4))++y5))++y6)))) fun(s0:(List UInt8))=>(some s0))else none))else none))else none))else none))else none))else none)))
theorem k0L {x0:a0y} {r:List UInt8} (h:b0j x0=some r):SQ 65 [.agg (a0c x0)] [] (.str r) []:=by
 refine kFn (fn:=Tryz.f65) (fun F H D W=> ?_)
 unfold b0j at h
 refine kq (kS (kDr (kD 1 ?_)))
 obtain⟨y0,hy0,h0⟩:=a0f h
 refine kC0 (some 5) [([0,1],[]),([],[2,3])] (c0L hy0) (kD 2 ?_)
 obtain⟨y1,hy1,h1⟩:=a0f h0
 refine kC0 (some 8) [([0,1],[]),([],[2,3]),([],[]),([0,1],[]),([],[4,5])] (c0z hy1) ?_
 obtain⟨hm,h2⟩:=b0y h1
 refine kQ 9 (.str (y0++y1)) [] (tr2:=[([0,1],[]),([],[2,3]),([],[]),([0,1],[]),([],[4,5]),([],[])]) hm (kD 1 ?_)
 obtain⟨y2,hy2,h3⟩:=a0f h2
 refine kC0 (some 11) [([0,1],[]),([],[2,3]),([],[]),([0,1],[]),([],[4,5]),([],[]),([0,1],[]),([],[6,7])] (c0L hy2) ?_
 obtain⟨hm,h4⟩:=b0y h3
 refine kQ 12 (.str ((y0++y1)++y2)) [] (tr2:=[([0,1],[]),([],[2,3]),([],[]),([0,1],[]),([],[4,5]),([],[]),([0,1],[]),([],[6,7]),([],[])]) hm (kD 1 ?_)
 obtain⟨y3,hy3,h5⟩:=a0f h4
 refine kC0 (some 14) [([0,1],[]),([],[2,3]),([],[]),([0,1],[]),([],[4,5]),([],[]),([0,1],[]),([],[6,7]),([],[]),([0,1],[]),([],[8,9])] (f0G hy3) ?_
 obtain⟨hm,h6⟩:=b0y h5
 refine kQ 15 (.str (((y0++y1)++y2)++y3)) [] (tr2:=[([0,1],[]),([],[2,3]),([],[]),([0,1],[]),([],[4,5]),([],[]),([0,1],[]),([],[6,7]),([],[]),([0,1],[]),([],[8,9]),([],[])]) hm (kD 1 ?_)
 obtain⟨y4,hy4,h7⟩:=a0f h6
 refine kC0 (some 17) [([0,1],[]),([],[2,3]),([],[]),([0,1],[]),([],[4,5]),([],[]),([0,1],[]),([],[6,7]),([],[]),([0,1],[]),([],[8,9]),([],[]),([0,1],[]),([],[10,11])] (c0L hy4) ?_
 obtain⟨hm,h8⟩:=b0y h7
 refine kQ 18 (.str (((((y0++y1)++y2)++y3))++y4)) [] (tr2:=[([0,1],[]),([],[2,3]),([],[]),([0,1],[]),([],[4,5]),([],[]),([0,1],[]),([],[6,7]),([],[]),([0,1],[]),([],[8,9]),([],[]),([0,1],[]),([],[10,11]),([],[])]) hm (kD 2 ?_)
 obtain⟨y5,hy5,h9⟩:=a0f h8
 refine kC0 (some 21) [([0,1],[]),([],[2,3]),([],[]),([0,1],[]),([],[4,5]),([],[]),([0,1],[]),([],[6,7]),([],[]),([0,1],[]),([],[8,9]),([],[]),([0,1],[]),([],[10,11]),([],[]),([],[]),([0,1],[]),([],[12,13])] (c0z hy5) ?_
 obtain⟨hm,h10⟩:=b0y h9
 refine kQ 22 (.str (((((((y0++y1)++y2)++y3))++y4))++y5)) [] (tr2:=[([0,1],[]),([],[2,3]),([],[]),([0,1],[]),([],[4,5]),([],[]),([0,1],[]),([],[6,7]),([],[]),([0,1],[]),([],[8,9]),([],[]),([0,1],[]),([],[10,11]),([],[]),([],[]),([0,1],[]),([],[12,13]),([],[])]) hm (kD 1 ?_)
 obtain⟨y6,hy6,h11⟩:=a0f h10
 refine kC0 (some 24) [([0,1],[]),([],[2,3]),([],[]),([0,1],[]),([],[4,5]),([],[]),([0,1],[]),([],[6,7]),([],[]),([0,1],[]),([],[8,9]),([],[]),([0,1],[]),([],[10,11]),([],[]),([],[]),([0,1],[]),([],[12,13]),([],[]),([0,1],[]),([],[14,15])] (c0L hy6) ?_
 obtain⟨hm,h12⟩:=b0y h11
 refine kQ 25 (.str (((((((((y0++y1)++y2)++y3))++y4))++y5))++y6)) [] (tr2:=[([0,1],[]),([],[2,3]),([],[]),([0,1],[]),([],[4,5]),([],[]),([0,1],[]),([],[6,7]),([],[]),([0,1],[]),([],[8,9]),([],[]),([0,1],[]),([],[10,11]),([],[]),([],[]),([0,1],[]),([],[12,13]),([],[]),([0,1],[]),([],[14,15]),([],[])]) hm (kD 1 (kEN (kcN h12 (fun(s0:(List UInt8))=>([(2, .str ([]:List UInt8)),(3, .str s0)],[])) (fun s0 hy7=> ?_) (fun s0 h13=> ?_))))
 ·refine kq (kBT 27 hy7 (fun h14=> ?_) (fun h15=> ?_))
  ·refine kDr (kD 1 ?_)
   obtain⟨hm,h16⟩:=b0y h14
   refine kQ 29 (.str (((((((((((y0++y1)++y2)++y3))++y4))++y5))++y6))++([59]:List UInt8))) [] (tr2:=[([],[]),([],[])]) hm (kD 2 ?_)
   obtain⟨y7,hy8,h17⟩:=a0f h16
   refine kC0 (some 32) [([],[]),([],[]),([],[]),([0,1],[]),([],[16,17])] (c0z hy8) ?_
   obtain⟨hm,h18⟩:=b0y h17
   refine kQ 33 (.str (((((((((((((y0++y1)++y2)++y3))++y4))++y5))++y6))++([59]:List UInt8)))++y7)) [] (tr2:=[([],[]),([],[]),([],[]),([0,1],[]),([],[16,17]),([],[])]) hm (kD 1 ?_)
   obtain⟨y8,hy9,h19⟩:=a0f h18
   refine kC0 (some 35) [([],[]),([],[]),([],[]),([0,1],[]),([],[16,17]),([],[]),([0,1],[]),([],[18,19])] (f0G hy9) ?_
   obtain⟨hm,h20⟩:=b0y h19
   refine kQ 36 (.str (((((((((((((((y0++y1)++y2)++y3))++y4))++y5))++y6))++([59]:List UInt8)))++y7))++y8)) [] (tr2:=[([],[]),([],[]),([],[]),([0,1],[]),([],[16,17]),([],[]),([0,1],[]),([],[18,19]),([],[])]) hm (kD 2 ?_)
   obtain⟨y9,hy10,h21⟩:=a0f h20
   refine kC0 (some 39) [([],[]),([],[]),([],[]),([0,1],[]),([],[16,17]),([],[]),([0,1],[]),([],[18,19]),([],[]),([],[]),([0,1],[]),([],[20,21])] (c0z hy10) ?_
   obtain⟨hm,h22⟩:=b0y h21
   exact kQ 40 (.str (((((((((((((((((y0++y1)++y2)++y3))++y4))++y5))++y6))++([59]:List UInt8)))++y7))++y8))++y9)) [] (tr2:=[([],[]),([],[]),([],[]),([0,1],[]),([],[16,17]),([],[]),([0,1],[]),([],[18,19]),([],[]),([],[]),([0,1],[]),([],[20,21]),([],[])]) hm (kD 1 (kE (kNW h22 D W [])))
  ·exact kK (kNW h15 D W [])
 ·exact kq (kX (by cases h13;exact kZ H D W))
def c0k(x0 x1:List a0b):Option (Bool):=
 (bif(decide (¬(x0.length:Int)=(x1.length:Int)))then(some false)else(Option.bind (a0s (fun(s0:Int)=>(bif(decide (s0<(x0.length:Int)))then(bif inR s0 x0.length then(bif inR s0 x1.length then(bif(!((decide (((nth x0 s0).x_)=((nth x1 s0).x_)))&&((decide (((nth x0 s0).R_)=((nth x1 s0).R_)))&&true)))then(some (.inr (.inr false)))else(some (.inl (IntKind.wrap .i64 (s0+1)))))else none)else none)else(some (.inr (.inl ()))))) big 0) (a0g fun(s1:Unit)=>(some true))))
theorem d0o {x0 x1:List a0b} {r:Bool} (h:c0k x0 x1=some r):SQ 47 [lsv a0a 2 x0,lsv a0a 2 x1] [] (.bool r) []:=by
 refine kFn (fn:=Tryz.f47) (fun F H D W=> ?_)
 unfold c0k at h
 refine kq (kS (kq (kBT 10 h (fun h0=> ?_) (fun h1=> ?_))))
 ·exact kq (kX (PJ.passRet (by cases h0;exact kZ H D W)))
 ·refine kKN (kcX h1 (fun(s1:Unit)=>([(4, .bool false)],[])) (fun y0 hy0 h2=> ?_) (fun s1 h3=> ?_))
  ·refine kq (kb 0 (kl (fun(s0:Int)=>([(0,lsv a0a 2 x0),(1,lsv a0a 2 x1),(4, .bool false),(5,iL s0)],[])) hy0 [0,1,4,5] (fun s0 x79 hs0=>kS (kq (kBT 14 hs0 (fun h4=> ?_) (fun h5=> ?_))))))
   ·refine kKN (kS (kb 1 (kS (kDr (kD 2 ?_)))))
    obtain⟨hm,h6⟩:=b0y h4
    refine kJ 19 (tr2:=[([],[]),([],[]),([],[])]) a0C hm (kD 3 ?_)
    obtain⟨hm,h7⟩:=b0y h6
    exact kJ 23 (tr2:=[([],[]),([],[]),([],[]),([],[]),([],[]),([],[]),([],[])]) a0C hm (kD 2 (kEN (kBT 25 h7 (fun h8=>kq (kXp (kLx h8 (fun h10=>PJ.blockRet (kCx h10 h2 (fun h11=>by obtain rfl:=oi h11;exact kZ H D W)))))) (fun h9=>kKn (kM (kLo h9 [0,1,4,5]))))))
   ·exact kEp 0 (kLx h5 (fun h12=>PJ.blockOut (kXo h12 [4])))
  ·exact kq (kX (by cases h3;exact kZ H D W))
def c0m(x0 x1:a0y):Option (Bool):=
 (Option.bind (Option.bind (c0k x0.a_ x1.a_) fun y0=>(bif y0 then(Option.bind (c0k x0.b_ x1.b_) fun y1=>(some y1))else(some false))) fun(s0:Bool)=>(Option.bind (Option.bind (c0k x0.i_ x1.i_) fun y2=>(bif y2 then(Option.bind (c0k x0.h_ x1.h_) fun y3=>(some y3))else(some false))) fun(s1:Bool)=>(Option.bind (Option.bind (bif(!s0)then(some true)else(bif(!s1)then(some true)else(bif(x0.D_ !=x1.D_)then(some true)else(bif(decide (¬x0.f_=x1.f_))then(some true)else(bif(decide (¬x0.y_=x1.y_))then(some true)else(some (x0.G_ !=x1.G_))))))) fun(s2:Bool)=>(bif s2 then(some (.inr false))else(some (.inl ())))) (a0g fun(s5:Unit)=>(Option.bind (bif(decide (x0.n_=x1.n_))then(bif(decide (x0.j_=x1.j_))then(bif(decide (x0.e_=x1.e_))then(some (decide (x0.g_=x1.g_)))else(some false))else(some false))else(some false)) fun(s3:Bool)=>(Option.bind (bif s3 then(bif(decide (x0.p_=x1.p_))then(bif(decide (x0.k_=x1.k_))then(bif(decide (x0.l_=x1.l_))then(bif(decide (x0.m_=x1.m_))then(some (decide (x0.d_=x1.d_)))else(some false))else(some false))else(some false))else(some false))else(some false)) fun(s4:Bool)=>(some s4)))))))
theorem e0E {x0 x1:a0y} {r:Bool} (h:c0m x0 x1=some r):SQ 15 [.agg (a0c x0), .agg (a0c x1)] [] (.bool r) []:=by
 refine kFn (fn:=Tryz.f15) (fun F H D W=> ?_)
 unfold c0m at h
 exact kq (kcN h (fun(s0:Bool)=>([(2, .ptr 0 0),(3, .ptr 1 0),(4, .bool false),(5, .bool s0)],[.box (a0c x0), .box (a0c x1)])) (fun s0 hy0=>km 4 (kAb 12 hy0 (fun _=>d0o) (fun y0 h1=>kc 1 (kB 13 h1 (fun h2=>kc 4 (kAb 18 h2 (fun _=>d0o) (fun y1 h4=>ke 2 (kNo h4 [2,3,4,5])))) (fun h3=>ke 7 (kNo h3 [2,3,4,5])))))) (fun s0 h0=>kcN h0 (fun(s1:Bool)=>([(2, .ptr 0 0),(3, .ptr 1 0),(4, .bool false),(5, .bool s0),(6, .bool s1)],[.box (a0c x0), .box (a0c x1)])) (fun s1 hy1=>km 4 (kAb 24 hy1 (fun _=>d0o) (fun y2 h6=>kc 1 (kB 25 h6 (fun h7=>kc 4 (kAb 30 h7 (fun _=>d0o) (fun y3 h9=>ke 2 (kNo h9 [2,3,4,5,6])))) (fun h8=>ke 7 (kNo h8 [2,3,4,5,6])))))) (fun s1 h5=>kcX h5 (fun(s5:Unit)=>([(2, .ptr 0 0),(3, .ptr 1 0),(4, .bool false)],[.box (a0c x0), .box (a0c x1)])) (fun y4 hy2 h10=>kcN hy2 (fun(s2:Bool)=>([(2, .ptr 0 0),(3, .ptr 1 0),(4, .bool false),(65, .bool s2)],[.box (a0c x0), .box (a0c x1)])) (fun s2 hy3=>km 3 (kB 34 hy3 (fun h13=>ke 31 (kNo h13 [2,3,4,65])) (fun h14=>kc 4 (kB 38 h14 (fun h15=>ke 27 (kNo h15 [2,3,4,65])) (fun h16=>kc 7 (kB 45 h16 (fun h17=>ke 20 (kNo h17 [2,3,4,65])) (fun h18=>kc 7 (kB 52 h18 (fun h19=>ke 13 (kNo h19 [2,3,4,65])) (fun h20=>kc 7 (kB 59 h20 (fun h21=>ke 6 (kNo h21 [2,3,4,65])) (fun h22=>ke 6 (kNo h22 [2,3,4,65])))))))))))) (fun s2 h12=>kBT 65 h12 (fun h23=>kq (kX (kCx h23 h10 (fun h25=>by obtain rfl:=oi h25;exact kZ H D W)))) (fun h24=>kK (kXo h24 [2,3,4])))) (fun s5 h11=>kcN h11 (fun(s3:Bool)=>([(2, .ptr 0 0),(3, .ptr 1 0),(4, .bool false),(7, .bool s3)],[.box (a0c x0), .box (a0c x1)])) (fun s3 hy4=>km 6 (kB 71 hy4 (fun h27=>kc 7 (kB 78 h27 (fun h29=>kc 7 (kB 85 h29 (fun h31=>ke 7 (kNo h31 [2,3,4,7])) (fun h32=>ke 7 (kNo h32 [2,3,4,7])))) (fun h30=>ke 14 (kNo h30 [2,3,4,7])))) (fun h28=>ke 21 (kNo h28 [2,3,4,7])))) (fun s3 h26=>kcN h26 (fun(s4:Bool)=>([(4, .bool s4)],[])) (fun s4 hy5=>km 2 (kB 93 hy5 (fun h34=>kc 7 (kB 100 h34 (fun h36=>kc 7 (kB 107 h36 (fun h38=>kc 7 (kB 114 h38 (fun h40=>kc 7 (kB 121 h40 (fun h42=>ke 7 (kNW h42 D W [])) (fun h43=>ke 7 (kNW h43 D W [])))) (fun h41=>ke 14 (kNW h41 D W [])))) (fun h39=>ke 21 (kNW h39 D W [])))) (fun h37=>ke 28 (kNW h37 D W [])))) (fun h35=>ke 35 (kNW h35 D W [])))) (fun s4 h33=>kX (by cases h33;exact kZ H D W)))))))
def a0X(x0:a0y):Option (Bool):=
 (Option.bind (a0s (fun(s0:Int)=>(bif(decide (s0<(([x0.n_,x0.j_,x0.p_,x0.k_,x0.e_,x0.g_,x0.l_,x0.m_,x0.d_]:List Int).length:Int)))then(Option.bind (Option.bind (bif inR s0 ([x0.n_,x0.j_,x0.p_,x0.k_,x0.e_,x0.g_,x0.l_,x0.m_,x0.d_]:List Int).length then(bif inR s0 ([x0.n_,x0.j_,x0.p_,x0.k_,x0.e_,x0.g_,x0.l_,x0.m_,x0.d_]:List Int).length then(bif(decide ((nth ([x0.n_,x0.j_,x0.p_,x0.k_,x0.e_,x0.g_,x0.l_,x0.m_,x0.d_]:List Int) s0)<0))then(some true)else(bif inR s0 ([x0.n_,x0.j_,x0.p_,x0.k_,x0.e_,x0.g_,x0.l_,x0.m_,x0.d_]:List Int).length then(bif inR s0 ([x0.n_,x0.j_,x0.p_,x0.k_,x0.e_,x0.g_,x0.l_,x0.m_,x0.d_]:List Int).length then(some ((decide ((nth ([x0.n_,x0.j_,x0.p_,x0.k_,x0.e_,x0.g_,x0.l_,x0.m_,x0.d_]:List Int) s0)>40))))else none)else none))else none)else none) fun(s2:Bool)=>(bif s2 then(some (.inr (.inr (.inr false))))else(some (.inl ())))) (a0g fun(s6:Unit)=>(some (.inl (IntKind.wrap .i64 (s0+1))))))else(some (.inr (.inl ()))))) big 0) (a0g fun(s7:Unit)=>(Option.bind (a0B x0.f_) fun y0=>(Option.bind (Option.bind (b0e x0.a_) fun y2=>(bif y2 then(Option.bind (b0e x0.b_) fun y3=>(some y3))else(some false))) fun(s1:Bool)=>(Option.bind (Option.bind (b0e x0.i_) fun y4=>(bif y4 then(Option.bind (b0e x0.h_) fun y5=>(some y5))else(some false))) fun(s3:Bool)=>(Option.bind (Option.bind (bif(!y0)then(some true)else(bif(!s1)then(some true)else(some (!s3)))) fun(s4:Bool)=>(bif s4 then(some (.inr false))else(some (.inl ())))) (a0g fun(s8:Unit)=>(Option.bind (b0j x0) fun y6=>(Option.bind (a0m y6) fun y1=>(Option.bind (bif(decide (y1.2.2=0))then(Option.bind (c0m x0 y1.1) fun y7=>(some y7))else(some false)) fun(s5:Bool)=>(some s5)))))))))))
theorem g0d {x0:a0y} {r:Bool} (h:a0X x0=some r):SQ 28 [.agg (a0c x0)] [] (.bool r) []:=by
 refine kFn (fn:=Tryz.f28) (fun F H D W=> ?_)
 unfold a0X at h
 refine kq (kq (kcX h (fun(s7:Unit)=>([(1, .ptr 0 0),(2, .bool false)],[.box (a0c x0)])) (fun y8 hy0 h0=> ?_) (fun s7 h1=> ?_)))
 ·refine kq (kb 0 (kl (fun(s0:Int)=>([(1, .ptr 0 0),(2, .bool false),(3, .vc 1),(4,iL s0)],[.box (a0c x0),a0z (a0u .i64) 1 3 ([x0.n_,x0.j_,x0.p_,x0.k_,x0.e_,x0.g_,x0.l_,x0.m_,x0.d_]:List Int)])) hy0 [1,2,3,4] (fun s0 x321 hs0=>kS (kq (kBT 33 hs0 (fun h2=> ?_) (fun h3=> ?_))))))
  ·refine kKN (kcX h2 (fun(s6:Unit)=>([(1, .ptr 0 0),(2, .bool false),(3, .vc 1),(4,iL s0)],[.box (a0c x0),a0z (a0u .i64) 1 3 ([x0.n_,x0.j_,x0.p_,x0.k_,x0.e_,x0.g_,x0.l_,x0.m_,x0.d_]:List Int)])) (fun y9 hy1 h4=> ?_) (fun s6 h5=> ?_))
   ·refine kb 1 (kcN hy1 (fun(s2:Bool)=>([(1, .ptr 0 0),(2, .bool false),(3, .vc 1),(4,iL s0),(47, .bool s2)],[.box (a0c x0),a0z (a0u .i64) 1 3 ([x0.n_,x0.j_,x0.p_,x0.k_,x0.e_,x0.g_,x0.l_,x0.m_,x0.d_]:List Int)])) (fun s2 hy2=> ?_) (fun s2 h6=> ?_))
    ·refine km 2 ?_
     obtain⟨hm,h7⟩:=b0y hy2
     refine kQ 38 (.ptr 1 ((s0:Int).toNat*1)) [1] (tr2:=[]) hm ?_
     obtain⟨hm,h8⟩:=b0y h7
     refine RJ.rel (d:=(some 39)) (ef:=⟨(((([x0.n_,x0.j_,x0.p_,x0.k_,x0.e_,x0.g_,x0.l_,x0.m_,x0.d_]:List Int)).flatMap (a0u .i64)).drop ((s0:Int).toNat*1)).headD .undef,[1],[]⟩) (ef':=⟨iL (nth ([x0.n_,x0.j_,x0.p_,x0.k_,x0.e_,x0.g_,x0.l_,x0.m_,x0.d_]:List Int) s0),[1],[]⟩) (c:=Nat.blt ((s0:Int).toNat*1) (([x0.n_,x0.j_,x0.p_,x0.k_,x0.e_,x0.g_,x0.l_,x0.m_,x0.d_]:List Int).flatMap (a0u .i64)).length) (tr2:=[]) (H2:=[.box (a0c x0),a0z (a0u .i64) 1 3 ([x0.n_,x0.j_,x0.p_,x0.k_,x0.e_,x0.g_,x0.l_,x0.m_,x0.d_]:List Int)]) (by kernel_rfl) (h0s (a0v .i64) rfl hm) (fun hc=>N.load1 (a0v .i64) (fun _=>rfl) hm) (by kernel_rfl) (kc 2 (kB 41 h8 (fun h9=> ?_) (fun h10=> ?_)))
     ·exact ke 6 (kNo h9 [1,2,3,4,47])
     ·refine kc 2 ?_
      obtain⟨hm,h11⟩:=b0y h10
      refine kQ 44 (.ptr 1 ((s0:Int).toNat*1)) [1] (tr2:=[]) hm ?_
      obtain⟨hm,h12⟩:=b0y h11
      exact RJ.rel (d:=(some 45)) (ef:=⟨(((([x0.n_,x0.j_,x0.p_,x0.k_,x0.e_,x0.g_,x0.l_,x0.m_,x0.d_]:List Int)).flatMap (a0u .i64)).drop ((s0:Int).toNat*1)).headD .undef,[1],[]⟩) (ef':=⟨iL (nth ([x0.n_,x0.j_,x0.p_,x0.k_,x0.e_,x0.g_,x0.l_,x0.m_,x0.d_]:List Int) s0),[1],[]⟩) (c:=Nat.blt ((s0:Int).toNat*1) (([x0.n_,x0.j_,x0.p_,x0.k_,x0.e_,x0.g_,x0.l_,x0.m_,x0.d_]:List Int).flatMap (a0u .i64)).length) (tr2:=[]) (H2:=[.box (a0c x0),a0z (a0u .i64) 1 3 ([x0.n_,x0.j_,x0.p_,x0.k_,x0.e_,x0.g_,x0.l_,x0.m_,x0.d_]:List Int)]) (by kernel_rfl) (h0s (a0v .i64) rfl hm) (fun hc=>N.load1 (a0v .i64) (fun _=>rfl) hm) (by kernel_rfl) (ke 2 (kNo h12 [1,2,3,4,47]))
    ·exact kBT 47 h6 (fun h13=>kq (kXb (kCx h13 h4 (fun h15=>kLx h15 (fun h16=>PJ.blockRet (kCx h16 h0 (fun h17=>by obtain rfl:=oi h17;exact kZ H D W))))))) (fun h14=>kKb (kXo h14 [1,2,3,4]))
   ·exact kM (kLo h5 [1,2,3,4])
  ·exact kEp 0 (kLx h3 (fun h18=>PJ.blockOut (kXW h18 D W [0])))
 ·exact kn 2 (kAb 50 h1 (fun _=>d0a) (fun y0 h19=>kr 1 (kcN h19 (fun(s1:Bool)=>([(1, .ptr 0 0),(2, .bool false),(5, .bool y0),(6, .bool s1)],[.box (a0c x0)])) (fun s1 hy3=>km 2 (kAb 53 hy3 (fun _=>c0V) (fun y2 h21=>kc 1 (kB 54 h21 (fun h22=>kc 2 (kAb 57 h22 (fun _=>c0V) (fun y3 h24=>ke 2 (kNo h24 [1,2,5,6])))) (fun h23=>ke 5 (kNo h23 [1,2,5,6])))))) (fun s1 h20=>kcN h20 (fun(s3:Bool)=>([(1, .ptr 0 0),(2, .bool false),(5, .bool y0),(6, .bool s1),(7, .bool s3)],[.box (a0c x0)])) (fun s3 hy4=>km 2 (kAb 61 hy4 (fun _=>c0V) (fun y4 h26=>kc 1 (kB 62 h26 (fun h27=>kc 2 (kAb 65 h27 (fun _=>c0V) (fun y5 h29=>ke 2 (kNo h29 [1,2,5,6,7])))) (fun h28=>ke 5 (kNo h28 [1,2,5,6,7])))))) (fun s3 h25=>kcX h25 (fun(s8:Unit)=>([(1, .ptr 0 0),(2, .bool false)],[.box (a0c x0)])) (fun y10 hy5 h30=>kcN hy5 (fun(s4:Bool)=>([(1, .ptr 0 0),(2, .bool false),(76, .bool s4)],[.box (a0c x0)])) (fun s4 hy6=>km 3 (kB 69 hy6 (fun h33=>ke 7 (kNo h33 [1,2,76])) (fun h34=>kc 4 (kB 73 h34 (fun h35=>ke 3 (kNo h35 [1,2,76])) (fun h36=>ke 3 (kNo h36 [1,2,76])))))) (fun s4 h32=>kBT 76 h32 (fun h37=>kq (kX (kCx h37 h30 (fun h39=>by obtain rfl:=oi h39;exact kZ H D W)))) (fun h38=>kK (kXo h38 [1,2])))) (fun s8 h31=>kn 1 (kAb 79 h31 (fun _=>k0L) (fun y6 h40=>kAb 80 h40 (fun _=>e0m) (fun y1 h41=>kr 8 (kcN h41 (fun(s5:Bool)=>([(2, .bool s5)],[])) (fun s5 hy7=>km 3 (kB 86 hy7 (fun h43=>kc 2 (kAb 89 h43 (fun _=>e0E) (fun y7 h45=>ke 2 (kNW h45 D W [])))) (fun h44=>ke 5 (kNW h44 D W [])))) (fun s5 h42=>kX (by cases h42;exact kZ H D W))))))))))))
def b0Q(x0:Int)(x1:List a0b)(x2:Int):Option (Bool):=
 (Option.bind (a0s (fun(s0:Int×Int×Int×Int×Int×Int)=>(bif(decide (s0.1<(x1.length:Int)))then(bif inR s0.1 x1.length then(bif inR s0.1 x1.length then(bif(decide (((nth x1 s0.1).x_)=0))then(bif(decide (((nth x1 s0.1).x_)=0))then(some (.inl ((IntKind.wrap .i64 (s0.1+1)),(IntKind.wrap .i64 (s0.2.1+1)),s0.2.2.1,s0.2.2.2.1,s0.2.2.2.2.1,s0.2.2.2.2.2)))else(bif(decide (((nth x1 s0.1).x_)=1))then(some (.inl ((IntKind.wrap .i64 (s0.1+1)),s0.2.1,(IntKind.wrap .i64 (s0.2.1+1)),s0.2.2.2.1,s0.2.2.2.2.1,s0.2.2.2.2.2)))else(bif(decide (((nth x1 s0.1).x_)=2))then(some (.inl ((IntKind.wrap .i64 (s0.1+1)),s0.2.1,s0.2.2.1,(IntKind.wrap .i64 (s0.2.1+1)),s0.2.2.2.2.1,s0.2.2.2.2.2)))else(bif(decide (((nth x1 s0.1).x_)=3))then(some (.inl ((IntKind.wrap .i64 (s0.1+1)),s0.2.1,s0.2.2.1,s0.2.2.2.1,(IntKind.wrap .i64 (s0.2.1+1)),s0.2.2.2.2.2)))else(bif(decide (((nth x1 s0.1).x_)=4))then(some (.inl ((IntKind.wrap .i64 (s0.1+1)),s0.2.1,s0.2.2.1,s0.2.2.2.1,s0.2.2.2.2.1,(IntKind.wrap .i64 (s0.2.1+1)))))else none)))))else(bif(decide (((nth x1 s0.1).x_)=1))then(bif(decide (((nth x1 s0.1).x_)=0))then(some (.inl ((IntKind.wrap .i64 (s0.1+1)),(IntKind.wrap .i64 (s0.2.2.1+1)),s0.2.2.1,s0.2.2.2.1,s0.2.2.2.2.1,s0.2.2.2.2.2)))else(bif(decide (((nth x1 s0.1).x_)=1))then(some (.inl ((IntKind.wrap .i64 (s0.1+1)),s0.2.1,(IntKind.wrap .i64 (s0.2.2.1+1)),s0.2.2.2.1,s0.2.2.2.2.1,s0.2.2.2.2.2)))else(bif(decide (((nth x1 s0.1).x_)=2))then(some (.inl ((IntKind.wrap .i64 (s0.1+1)),s0.2.1,s0.2.2.1,(IntKind.wrap .i64 (s0.2.2.1+1)),s0.2.2.2.2.1,s0.2.2.2.2.2)))else(bif(decide (((nth x1 s0.1).x_)=3))then(some (.inl ((IntKind.wrap .i64 (s0.1+1)),s0.2.1,s0.2.2.1,s0.2.2.2.1,(IntKind.wrap .i64 (s0.2.2.1+1)),s0.2.2.2.2.2)))else(bif(decide (((nth x1 s0.1).x_)=4))then(some (.inl ((IntKind.wrap .i64 (s0.1+1)),s0.2.1,s0.2.2.1,s0.2.2.2.1,s0.2.2.2.2.1,(IntKind.wrap .i64 (s0.2.2.1+1)))))else none)))))else(bif(decide (((nth x1 s0.1).x_)=2))then(bif(decide (((nth x1 s0.1).x_)=0))then(some (.inl ((IntKind.wrap .i64 (s0.1+1)),(IntKind.wrap .i64 (s0.2.2.2.1+1)),s0.2.2.1,s0.2.2.2.1,s0.2.2.2.2.1,s0.2.2.2.2.2)))else(bif(decide (((nth x1 s0.1).x_)=1))then(some (.inl ((IntKind.wrap .i64 (s0.1+1)),s0.2.1,(IntKind.wrap .i64 (s0.2.2.2.1+1)),s0.2.2.2.1,s0.2.2.2.2.1,s0.2.2.2.2.2)))else(bif(decide (((nth x1 s0.1).x_)=2))then(some (.inl ((IntKind.wrap .i64 (s0.1+1)),s0.2.1,s0.2.2.1,(IntKind.wrap .i64 (s0.2.2.2.1+1)),s0.2.2.2.2.1,s0.2.2.2.2.2)))else(bif(decide (((nth x1 s0.1).x_)=3))then(some (.inl ((IntKind.wrap .i64 (s0.1+1)),s0.2.1,s0.2.2.1,s0.2.2.2.1,(IntKind.wrap .i64 (s0.2.2.2.1+1)),s0.2.2.2.2.2)))else(bif(decide (((nth x1 s0.1).x_)=4))then(some (.inl ((IntKind.wrap .i64 (s0.1+1)),s0.2.1,s0.2.2.1,s0.2.2.2.1,s0.2.2.2.2.1,(IntKind.wrap .i64 (s0.2.2.2.1+1)))))else none)))))else(bif(decide (((nth x1 s0.1).x_)=3))then(bif(decide (((nth x1 s0.1).x_)=0))then(some (.inl ((IntKind.wrap .i64 (s0.1+1)),(IntKind.wrap .i64 (s0.2.2.2.2.1+1)),s0.2.2.1,s0.2.2.2.1,s0.2.2.2.2.1,s0.2.2.2.2.2)))else(bif(decide (((nth x1 s0.1).x_)=1))then(some (.inl ((IntKind.wrap .i64 (s0.1+1)),s0.2.1,(IntKind.wrap .i64 (s0.2.2.2.2.1+1)),s0.2.2.2.1,s0.2.2.2.2.1,s0.2.2.2.2.2)))else(bif(decide (((nth x1 s0.1).x_)=2))then(some (.inl ((IntKind.wrap .i64 (s0.1+1)),s0.2.1,s0.2.2.1,(IntKind.wrap .i64 (s0.2.2.2.2.1+1)),s0.2.2.2.2.1,s0.2.2.2.2.2)))else(bif(decide (((nth x1 s0.1).x_)=3))then(some (.inl ((IntKind.wrap .i64 (s0.1+1)),s0.2.1,s0.2.2.1,s0.2.2.2.1,(IntKind.wrap .i64 (s0.2.2.2.2.1+1)),s0.2.2.2.2.2)))else(bif(decide (((nth x1 s0.1).x_)=4))then(some (.inl ((IntKind.wrap .i64 (s0.1+1)),s0.2.1,s0.2.2.1,s0.2.2.2.1,s0.2.2.2.2.1,(IntKind.wrap .i64 (s0.2.2.2.2.1+1)))))else none)))))else(bif(decide (((nth x1 s0.1).x_)=4))then(bif(decide (((nth x1 s0.1).x_)=0))then(some (.inl ((IntKind.wrap .i64 (s0.1+1)),(IntKind.wrap .i64 (s0.2.2.2.2.2+1)),s0.2.2.1,s0.2.2.2.1,s0.2.2.2.2.1,s0.2.2.2.2.2)))else(bif(decide (((nth x1 s0.1).x_)=1))then(some (.inl ((IntKind.wrap .i64 (s0.1+1)),s0.2.1,(IntKind.wrap .i64 (s0.2.2.2.2.2+1)),s0.2.2.2.1,s0.2.2.2.2.1,s0.2.2.2.2.2)))else(bif(decide (((nth x1 s0.1).x_)=2))then(some (.inl ((IntKind.wrap .i64 (s0.1+1)),s0.2.1,s0.2.2.1,(IntKind.wrap .i64 (s0.2.2.2.2.2+1)),s0.2.2.2.2.1,s0.2.2.2.2.2)))else(bif(decide (((nth x1 s0.1).x_)=3))then(some (.inl ((IntKind.wrap .i64 (s0.1+1)),s0.2.1,s0.2.2.1,s0.2.2.2.1,(IntKind.wrap .i64 (s0.2.2.2.2.2+1)),s0.2.2.2.2.2)))else(bif(decide (((nth x1 s0.1).x_)=4))then(some (.inl ((IntKind.wrap .i64 (s0.1+1)),s0.2.1,s0.2.2.1,s0.2.2.2.1,s0.2.2.2.2.1,(IntKind.wrap .i64 (s0.2.2.2.2.2+1)))))else none)))))else none)))))else none)else none)else(some (.inr (s0.2.1,s0.2.2.1,s0.2.2.2.1,s0.2.2.2.2.1,s0.2.2.2.2.2))))) big (0,0,0,0,0,0)) fun(s1:Int×Int×Int×Int×Int)=>(Option.bind (bif(decide (x0=1))then(some 1)else(some 0)) fun(s2:Int)=>(Option.bind (bif(decide (x0=3))then(some 1)else(some 0)) fun(s3:Int)=>(Option.bind (bif(decide (s1.2.1≤x2))then(bif(decide (s1.2.2.1=0))then(bif(decide (s1.2.2.2.1=s2))then(some (decide (s1.2.2.2.2=s3)))else(some false))else(some false))else(some false)) fun(s4:Bool)=>(some s4)))))
theorem e0k {x0:Int} {x1:List a0b} {x2:Int} {r:Bool} (h:b0Q x0 x1 x2=some r):SQ 43 [iL x0,lsv a0a 2 x1,iL x2] [] (.bool r) []:=by
 refine kFn (fn:=Tryz.f43) (fun F H D W=> ?_)
 unfold b0Q at h
 refine kq (kq (kcN h (fun(s1:Int×Int×Int×Int×Int)=>([(0,iL x0),(2,iL x2),(6, .bool false),(7, .ptr 0 0)],[.box [iL s1.1,iL s1.2.1,iL s1.2.2.1,iL s1.2.2.2.1,iL s1.2.2.2.2]])) (fun s1 hy0=> ?_) (fun s1 h30=> ?_)))
 ·refine kq (kb 0 (kl (fun(s0:Int×Int×Int×Int×Int×Int)=>([(0,iL x0),(1,lsv a0a 2 x1),(2,iL x2),(6, .bool false),(7, .ptr 0 0),(8,iL s0.1)],[.box [iL s0.2.1,iL s0.2.2.1,iL s0.2.2.2.1,iL s0.2.2.2.2.1,iL s0.2.2.2.2.2]])) hy0 [0,1,2,6,7,8] (fun s0 x496 hs0=>kS (kq (kBT 15 hs0 (fun h31=> ?_) (fun h32=> ?_))))))
  ·refine kKN (kS (kb 1 (kDr (kD 2 ?_))))
   obtain⟨hm,h33⟩:=b0y h31
   refine kJ 20 (tr2:=[([],[]),([],[]),([],[])]) a0C hm (kD 4 ?_)
   obtain⟨hm,h0⟩:=b0y h33
   refine kJ 25 (tr2:=[([],[]),([],[]),([],[]),([],[]),([],[]),([],[]),([],[]),([],[])]) a0C hm (kD 2 ?_)
   cases hb0:(decide (((nth x1 s0.1).x_)=0))
   ·have h1:=condF hb0 h0
    cases hb1:(decide (((nth x1 s0.1).x_)=1))
    ·have h2:=condF hb1 h1
     cases hb2:(decide (((nth x1 s0.1).x_)=2))
     ·have h3:=condF hb2 h2
      cases hb3:(decide (((nth x1 s0.1).x_)=3))
      ·have h4:=condF hb3 h3
       cases hb4:(decide (((nth x1 s0.1).x_)=4))
       ·have h34:=condF hb4 h4
        cases h34
       ·have h5:=condT hb4 h4
        refine RJ.pin 27 (kd:= .i64) (by kernel_rfl) (of_decide_eq_true hb4) (kD 3 ?_)
        cases hb5:(decide (((nth x1 s0.1).x_)=0))
        ·have h6:=condF hb5 h5
         cases hb6:(decide (((nth x1 s0.1).x_)=1))
         ·have h7:=condF hb6 h6
          cases hb7:(decide (((nth x1 s0.1).x_)=2))
          ·have h8:=condF hb7 h7
           cases hb8:(decide (((nth x1 s0.1).x_)=3))
           ·have h9:=condF hb8 h8
            cases hb9:(decide (((nth x1 s0.1).x_)=4))
            ·have h35:=condF hb9 h9
             cases h35
            ·have h36:=condT hb9 h9
             exact RJ.pin 22 (kd:= .i64) (by kernel_rfl) (of_decide_eq_true hb9) (kD 2 (kE (PJ.blockNormal (PJ.next (kM (kLo h36 [0,1,2,6,7,8]))))))
           ·have h37:=condT hb8 h8
            exact RJ.pin 22 (kd:= .i64) (by kernel_rfl) (of_decide_eq_true hb8) (kD 2 (kE (PJ.blockNormal (PJ.next (kM (kLo h37 [0,1,2,6,7,8]))))))
          ·have h38:=condT hb7 h7
           exact RJ.pin 22 (kd:= .i64) (by kernel_rfl) (of_decide_eq_true hb7) (kD 2 (kE (PJ.blockNormal (PJ.next (kM (kLo h38 [0,1,2,6,7,8]))))))
         ·have h39:=condT hb6 h6
          exact RJ.pin 22 (kd:= .i64) (by kernel_rfl) (of_decide_eq_true hb6) (kD 2 (kE (PJ.blockNormal (PJ.next (kM (kLo h39 [0,1,2,6,7,8]))))))
        ·have h40:=condT hb5 h5
         exact RJ.pin 22 (kd:= .i64) (by kernel_rfl) (of_decide_eq_true hb5) (kD 2 (kE (PJ.blockNormal (PJ.next (kM (kLo h40 [0,1,2,6,7,8]))))))
      ·have h10:=condT hb3 h3
       refine RJ.pin 27 (kd:= .i64) (by kernel_rfl) (of_decide_eq_true hb3) (kD 3 ?_)
       cases hb10:(decide (((nth x1 s0.1).x_)=0))
       ·have h11:=condF hb10 h10
        cases hb11:(decide (((nth x1 s0.1).x_)=1))
        ·have h12:=condF hb11 h11
         cases hb12:(decide (((nth x1 s0.1).x_)=2))
         ·have h13:=condF hb12 h12
          cases hb13:(decide (((nth x1 s0.1).x_)=3))
          ·have h14:=condF hb13 h13
           cases hb14:(decide (((nth x1 s0.1).x_)=4))
           ·have h41:=condF hb14 h14
            cases h41
           ·have h42:=condT hb14 h14
            exact RJ.pin 22 (kd:= .i64) (by kernel_rfl) (of_decide_eq_true hb14) (kD 2 (kE (PJ.blockNormal (PJ.next (kM (kLo h42 [0,1,2,6,7,8]))))))
          ·have h43:=condT hb13 h13
           exact RJ.pin 22 (kd:= .i64) (by kernel_rfl) (of_decide_eq_true hb13) (kD 2 (kE (PJ.blockNormal (PJ.next (kM (kLo h43 [0,1,2,6,7,8]))))))
         ·have h44:=condT hb12 h12
          exact RJ.pin 22 (kd:= .i64) (by kernel_rfl) (of_decide_eq_true hb12) (kD 2 (kE (PJ.blockNormal (PJ.next (kM (kLo h44 [0,1,2,6,7,8]))))))
        ·have h45:=condT hb11 h11
         exact RJ.pin 22 (kd:= .i64) (by kernel_rfl) (of_decide_eq_true hb11) (kD 2 (kE (PJ.blockNormal (PJ.next (kM (kLo h45 [0,1,2,6,7,8]))))))
       ·have h46:=condT hb10 h10
        exact RJ.pin 22 (kd:= .i64) (by kernel_rfl) (of_decide_eq_true hb10) (kD 2 (kE (PJ.blockNormal (PJ.next (kM (kLo h46 [0,1,2,6,7,8]))))))
     ·have h15:=condT hb2 h2
      refine RJ.pin 27 (kd:= .i64) (by kernel_rfl) (of_decide_eq_true hb2) (kD 3 ?_)
      cases hb15:(decide (((nth x1 s0.1).x_)=0))
      ·have h16:=condF hb15 h15
       cases hb16:(decide (((nth x1 s0.1).x_)=1))
       ·have h17:=condF hb16 h16
        cases hb17:(decide (((nth x1 s0.1).x_)=2))
        ·have h18:=condF hb17 h17
         cases hb18:(decide (((nth x1 s0.1).x_)=3))
         ·have h19:=condF hb18 h18
          cases hb19:(decide (((nth x1 s0.1).x_)=4))
          ·have h47:=condF hb19 h19
           cases h47
          ·have h48:=condT hb19 h19
           exact RJ.pin 22 (kd:= .i64) (by kernel_rfl) (of_decide_eq_true hb19) (kD 2 (kE (PJ.blockNormal (PJ.next (kM (kLo h48 [0,1,2,6,7,8]))))))
         ·have h49:=condT hb18 h18
          exact RJ.pin 22 (kd:= .i64) (by kernel_rfl) (of_decide_eq_true hb18) (kD 2 (kE (PJ.blockNormal (PJ.next (kM (kLo h49 [0,1,2,6,7,8]))))))
        ·have h50:=condT hb17 h17
         exact RJ.pin 22 (kd:= .i64) (by kernel_rfl) (of_decide_eq_true hb17) (kD 2 (kE (PJ.blockNormal (PJ.next (kM (kLo h50 [0,1,2,6,7,8]))))))
       ·have h51:=condT hb16 h16
        exact RJ.pin 22 (kd:= .i64) (by kernel_rfl) (of_decide_eq_true hb16) (kD 2 (kE (PJ.blockNormal (PJ.next (kM (kLo h51 [0,1,2,6,7,8]))))))
      ·have h52:=condT hb15 h15
       exact RJ.pin 22 (kd:= .i64) (by kernel_rfl) (of_decide_eq_true hb15) (kD 2 (kE (PJ.blockNormal (PJ.next (kM (kLo h52 [0,1,2,6,7,8]))))))
    ·have h20:=condT hb1 h1
     refine RJ.pin 27 (kd:= .i64) (by kernel_rfl) (of_decide_eq_true hb1) (kD 3 ?_)
     cases hb20:(decide (((nth x1 s0.1).x_)=0))
     ·have h21:=condF hb20 h20
      cases hb21:(decide (((nth x1 s0.1).x_)=1))
      ·have h22:=condF hb21 h21
       cases hb22:(decide (((nth x1 s0.1).x_)=2))
       ·have h23:=condF hb22 h22
        cases hb23:(decide (((nth x1 s0.1).x_)=3))
        ·have h24:=condF hb23 h23
         cases hb24:(decide (((nth x1 s0.1).x_)=4))
         ·have h53:=condF hb24 h24
          cases h53
         ·have h54:=condT hb24 h24
          exact RJ.pin 22 (kd:= .i64) (by kernel_rfl) (of_decide_eq_true hb24) (kD 2 (kE (PJ.blockNormal (PJ.next (kM (kLo h54 [0,1,2,6,7,8]))))))
        ·have h55:=condT hb23 h23
         exact RJ.pin 22 (kd:= .i64) (by kernel_rfl) (of_decide_eq_true hb23) (kD 2 (kE (PJ.blockNormal (PJ.next (kM (kLo h55 [0,1,2,6,7,8]))))))
       ·have h56:=condT hb22 h22
        exact RJ.pin 22 (kd:= .i64) (by kernel_rfl) (of_decide_eq_true hb22) (kD 2 (kE (PJ.blockNormal (PJ.next (kM (kLo h56 [0,1,2,6,7,8]))))))
      ·have h57:=condT hb21 h21
       exact RJ.pin 22 (kd:= .i64) (by kernel_rfl) (of_decide_eq_true hb21) (kD 2 (kE (PJ.blockNormal (PJ.next (kM (kLo h57 [0,1,2,6,7,8]))))))
     ·have h58:=condT hb20 h20
      exact RJ.pin 22 (kd:= .i64) (by kernel_rfl) (of_decide_eq_true hb20) (kD 2 (kE (PJ.blockNormal (PJ.next (kM (kLo h58 [0,1,2,6,7,8]))))))
   ·have h25:=condT hb0 h0
    refine RJ.pin 27 (kd:= .i64) (by kernel_rfl) (of_decide_eq_true hb0) (kD 3 ?_)
    cases hb25:(decide (((nth x1 s0.1).x_)=0))
    ·have h26:=condF hb25 h25
     cases hb26:(decide (((nth x1 s0.1).x_)=1))
     ·have h27:=condF hb26 h26
      cases hb27:(decide (((nth x1 s0.1).x_)=2))
      ·have h28:=condF hb27 h27
       cases hb28:(decide (((nth x1 s0.1).x_)=3))
       ·have h29:=condF hb28 h28
        cases hb29:(decide (((nth x1 s0.1).x_)=4))
        ·have h59:=condF hb29 h29
         cases h59
        ·have h60:=condT hb29 h29
         exact RJ.pin 22 (kd:= .i64) (by kernel_rfl) (of_decide_eq_true hb29) (kD 2 (kE (PJ.blockNormal (PJ.next (kM (kLo h60 [0,1,2,6,7,8]))))))
       ·have h61:=condT hb28 h28
        exact RJ.pin 22 (kd:= .i64) (by kernel_rfl) (of_decide_eq_true hb28) (kD 2 (kE (PJ.blockNormal (PJ.next (kM (kLo h61 [0,1,2,6,7,8]))))))
      ·have h62:=condT hb27 h27
       exact RJ.pin 22 (kd:= .i64) (by kernel_rfl) (of_decide_eq_true hb27) (kD 2 (kE (PJ.blockNormal (PJ.next (kM (kLo h62 [0,1,2,6,7,8]))))))
     ·have h63:=condT hb26 h26
      exact RJ.pin 22 (kd:= .i64) (by kernel_rfl) (of_decide_eq_true hb26) (kD 2 (kE (PJ.blockNormal (PJ.next (kM (kLo h63 [0,1,2,6,7,8]))))))
    ·have h64:=condT hb25 h25
     exact RJ.pin 22 (kd:= .i64) (by kernel_rfl) (of_decide_eq_true hb25) (kD 2 (kE (PJ.blockNormal (PJ.next (kM (kLo h64 [0,1,2,6,7,8]))))))
  ·exact kEp 0 (kLx h32 (fun h65=>PJ.blockOut (kNo h65 [0,2,6,7])))
 ·exact kq (kq (kcN h30 (fun(s2:Int)=>([(0,iL x0),(2,iL x2),(6, .bool false),(7, .ptr 0 0),(9,iL s2),(10,iL 0)],[.box [iL s1.1,iL s1.2.1,iL s1.2.2.1,iL s1.2.2.2.1,iL s1.2.2.2.2]])) (fun s2 hy1=>kq (kBT 33 hy1 (fun h67=>kM (kNo h67 [0,2,6,7,9,10])) (fun h68=>kK (kNo h68 [0,2,6,7,9,10])))) (fun s2 h66=>kcN h66 (fun(s3:Int)=>([(2,iL x2),(6, .bool false),(7, .ptr 0 0),(9,iL s2),(10,iL s3)],[.box [iL s1.1,iL s1.2.1,iL s1.2.2.1,iL s1.2.2.2.1,iL s1.2.2.2.2]])) (fun s3 hy2=>kq (kBT 35 hy2 (fun h70=>kM (kNo h70 [2,6,7,9,10])) (fun h71=>kK (kNo h71 [2,6,7,9,10])))) (fun s3 h69=>kcN h69 (fun(s4:Bool)=>([(6, .bool s4)],[])) (fun s4 hy3=>km 5 (kB 40 hy3 (fun h73=>kc 5 (kB 45 h73 (fun h75=>kc 6 (kB 51 h75 (fun h77=>ke 6 (kNW h77 D W [])) (fun h78=>ke 6 (kNW h78 D W [])))) (fun h76=>ke 12 (kNW h76 D W [])))) (fun h74=>ke 17 (kNW h74 D W [])))) (fun s4 h72=>kX (by cases h72;exact kZ H D W))))))
def d0T(x0:List a0b)(x1:Int):Option (Int):=
 (Option.bind (a0s (fun(s0:Int×Int)=>(bif(decide (s0.2<(x0.length:Int)))then(Option.bind (bif inR s0.2 x0.length then(bif(decide (((nth x0 s0.2).x_)=x1))then(some (IntKind.wrap .i64 (s0.1+1)))else(some s0.1))else none) fun(s1:Int)=>(some (.inl (s1,(IntKind.wrap .i64 (s0.2+1))))))else(some (.inr s0.1)))) big (0,0)) fun(s2:Int)=>(some s2))
theorem g0c {x0:List a0b} {x1 r:Int} (h:d0T x0 x1=some r):SQ 27 [lsv a0a 2 x0,iL x1] [] (iL r) []:=by
 refine kFn (fn:=Tryz.f27) (fun F H D W=> ?_)
 unfold d0T at h
 exact kq (kq (kcN h (fun(s2:Int)=>([(4,iL 0),(5,iL s2)],[])) (fun s2 hy0=>kq (kb 0 (kl (fun(s0:Int×Int)=>([(0,lsv a0a 2 x0),(1,iL x1),(4,iL 0),(5,iL s0.1),(6,iL s0.2)],[])) hy0 [0,1,4,5,6] (fun s0 x101 hs0=>kS (kq (kBT 10 hs0 (fun h1=>kKN (kcN h1 (fun(s1:Int)=>([(0,lsv a0a 2 x0),(1,iL x1),(4,iL 0),(5,iL s1),(6,iL s0.2)],[])) (fun s1 hy1=>kb 1 (kn 2 (kIb 15 a0C hy1 (fun h4=>kr 4 (kBT 19 h4 (fun h5=>kM (PJ.blockNormal (kNo h5 [0,1,4,5,6]))) (fun h6=>kKb (kNo h6 [0,1,4,5,6]))))))) (fun s1 h3=>kM (kLo h3 [0,1,4,5,6])))) (fun h2=>kEp 0 (kLx h2 (fun h7=>PJ.blockOut (kNo h7 [4,5])))))))))) (fun s2 h0=>kq (kX (by cases h0;exact kZ H D W)))))
end Go.Proofs.YtcapcgbamehojaaGreatDoor
