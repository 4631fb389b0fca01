/-
  What the functions of this program come to, as functions of natives, each with the proof that it does. No conditions.
-/
import Derived.Test.YtcapcgbamehojaaGreatDoorProg
import Derived.Test.YtcapcgbamehojaaGreatDoorSySL
import Derived.Test.YtcapcgbamehojaaGreatDoorGa
namespace Go.Proofs.YtcapcgbamehojaaGreatDoor
open Go Go.Sy Go.RowKit
set_option linter.unusedVariables false
set_option linter.unusedSimpArgs false
set_option maxRecDepth 100000
set_option maxHeartbeats 4000000
def d0g(x0:List a0b)(x1:c0n)(x2:List Int):Option (List Int):=
 (Option.bind (e0x x1 x2) fun y0=>(Option.bind (a0s (fun(s0:Int×(List Int))=>(bif(decide (s0.1<(x0.length:Int)))then(Option.bind (bif inR s0.1 x0.length then(bif(decide (((nth x0 s0.1).x_)=0))then(bif room (s0.2.length+([(nth x0 s0.1).R_]:List Int).length)then(some ((s0.2++([(nth x0 s0.1).R_]:List Int))))else none)else(bif(decide (((nth x0 s0.1).x_)=1))then(bif room (s0.2.length+([x1.w_]:List Int).length)then(some (s0.2++([x1.w_]:List Int)))else none)else(bif(decide (((nth x0 s0.1).x_)=2))then(bif room (s0.2.length+([x1.v_]:List Int).length)then(some (s0.2++([x1.v_]:List Int)))else none)else(bif(decide (((nth x0 s0.1).x_)=3))then(bif room (s0.2.length+([x1.u_]:List Int).length)then(some (s0.2++([x1.u_]:List Int)))else none)else(bif(decide (((nth x0 s0.1).x_)=4))then(bif room (s0.2.length+x2.length)then(some (s0.2++x2))else none)else(bif room (s0.2.length+([]:List Int).length)then(some (s0.2++([]:List Int)))else none))))))else none) fun(s2:(List Int))=>(some (.inl ((IntKind.wrap .i64 (s0.1+1)),s2))))else(some (.inr s0.2)))) big (0,([]:List Int))) fun(s1:(List Int))=>(some s1)))
theorem j0b {x0:List a0b} {x1:c0n} {x2 r:List Int} (h:d0g x0 x1 x2=some r):SQ 149 [lsv a0a 2 x0, .agg (a0d x1),lR x2] [] (lR r) []:=by
 refine kFn (fn:=Tryz.f149) (fun F H D W=> ?_)
 unfold d0g at h
 refine kq (kn 2 ?_)
 obtain⟨y0,hy0,h4⟩:=a0f h
 refine kCg (some 13) [] (k0Q hy0) (kr 1 (kq (kcN h4 (fun(s1:(List Int))=>([(6, .nl),(8, .vc 0)],[a0z (a0u .i32) 1 21 s1])) (fun s1 hy1=> ?_) (fun s1 h5=> ?_))))
 ·refine kq (kb 0 (J.wk (Wk.viv 8 1 21 (by kernel_rfl)) (J.wk (Wk.sel (L2:=[(6, .nl),(7, .mp 0),(8, .vc 4),(14,lsv a0a 2 x0),(15,iL (x0.length:Int)),(16,iL 0)]) (H2:=[.map [(iL 1, .vc 1),(iL 2, .vc 2),(iL 3, .vc 3),(iL 4,lR x2)],a0z (a0u .i32) 1 21 ([x1.w_]:List Int),a0z (a0u .i32) 1 21 ([x1.v_]:List Int),a0z (a0u .i32) 1 21 ([x1.u_]:List Int),a0z (a0u .i32) 1 21 ([]:List Int)]) 0 (by rw[D];rfl) W [1,2,3,4,5] (by kernel_rfl) (by kernel_rfl) (by decide) (by kernel_rfl) (by kernel_rfl) (by kernel_rfl) (by kernel_rfl)) (kl (fun(s0:Int×(List Int))=>([(6, .nl),(7, .mp 0),(8, .vc 4),(14,lsv a0a 2 x0),(15,iL (x0.length:Int)),(16,iL s0.1)],[.map [(iL 1, .vc 1),(iL 2, .vc 2),(iL 3, .vc 3),(iL 4,lR x2)],a0z (a0u .i32) 1 21 ([x1.w_]:List Int),a0z (a0u .i32) 1 21 ([x1.v_]:List Int),a0z (a0u .i32) 1 21 ([x1.u_]:List Int),a0z (a0u .i32) 1 21 s0.2])) hy1 [6,7,8,14,15,16] (fun s0 x324 hs0=>kq (kS (kBT 17 hs0 (fun h6=> ?_) (fun h7=> ?_))))))))
  ·refine kKN (kcN h6 (fun(s2:(List Int))=>([(6, .nl),(7, .mp 0),(8, .vc 4),(14,lsv a0a 2 x0),(15,iL (x0.length:Int)),(16,iL s0.1)],[.map [(iL 1, .vc 1),(iL 2, .vc 2),(iL 3, .vc 3),(iL 4,lR x2)],a0z (a0u .i32) 1 21 ([x1.w_]:List Int),a0z (a0u .i32) 1 21 ([x1.v_]:List Int),a0z (a0u .i32) 1 21 ([x1.u_]:List Int),a0z (a0u .i32) 1 21 s2])) (fun s2 hy2=> ?_) (fun s2 h8=> ?_))
   ·refine kb 1 (kSR (kIb 18 a0C hy2 (fun h9=>kr 3 (kq (kBT 22 h9 (fun h10=> ?_) (fun h0=> ?_))))))
    ·exact km 4 (kAp 27 4 7 1 21 [4,6] (a0u .i32) h10 (fun h11=>ke 1 (PJ.blockNormal (kNW h11 D W [0,1,2,3,7]))))
    ·refine km 4 ?_
     cases hb0:(decide (((nth x0 s0.1).x_)=1))
     ·have h1:=condF hb0 h0
      have hn367:=of_decide_eq_false hb0
      cases hb1:(decide (((nth x0 s0.1).x_)=2))
      ·have h2:=condF hb1 h1
       have hn372:=of_decide_eq_false hb1
       cases hb2:(decide (((nth x0 s0.1).x_)=3))
       ·have h3:=condF hb2 h2
        have hn377:=of_decide_eq_false hb2
        cases hb3:(decide (((nth x0 s0.1).x_)=4))
        ·have h12:=condF hb3 h3
         have hn382:=of_decide_eq_false hb3
         exact RJ.look (none) (d:=some 32) (ef:=⟨.nl,[0],[]⟩) (c:=k0I (iL ((nth x0 s0.1).x_)) [(iL 1, .vc 1),(iL 2, .vc 2),(iL 3, .vc 3),(iL 4,lR x2)]) (tr2:=[]) (by kernel_rfl) (by simp[o0m,k0I,l0e,e0F,hn367,hn372,hn377,hn382]) (kAp 33 4 6 1 21 [4] (a0u .i32) h12 (fun h13=>ke 1 (PJ.blockNormal (kNW h13 D W [0,1,2,3,6]))))
        ·have h14:=condT hb3 h3
         have hn382:=of_decide_eq_true hb3
         exact RJ.look (some 3) (d:=some 32) (ef:=⟨lR x2,[0],[]⟩) (c:=o0m (iL ((nth x0 s0.1).x_)) [(iL 1, .vc 1),(iL 2, .vc 2),(iL 3, .vc 3),(iL 4,lR x2)] 3) (tr2:=[]) (by kernel_rfl) (by simp[o0m,k0I,l0e,e0F,hn367,hn372,hn377,hn382]) (kAp 33 4 6 1 21 [4] (a0u .i32) h14 (fun h15=>ke 1 (PJ.blockNormal (kNW h15 D W [0,1,2,3,6]))))
       ·have h16:=condT hb2 h2
        have hn377:=of_decide_eq_true hb2
        exact RJ.look (some 2) (d:=some 32) (ef:=⟨.vc 3,[0],[]⟩) (c:=o0m (iL ((nth x0 s0.1).x_)) [(iL 1, .vc 1),(iL 2, .vc 2),(iL 3, .vc 3),(iL 4,lR x2)] 2) (tr2:=[]) (by kernel_rfl) (by simp[o0m,k0I,l0e,e0F,hn367,hn372,hn377]) (kAp 33 4 6 1 21 [4,3] (a0u .i32) h16 (fun h17=>ke 1 (PJ.blockNormal (kNW h17 D W [0,1,2,3,6]))))
      ·have h18:=condT hb1 h1
       have hn372:=of_decide_eq_true hb1
       exact RJ.look (some 1) (d:=some 32) (ef:=⟨.vc 2,[0],[]⟩) (c:=o0m (iL ((nth x0 s0.1).x_)) [(iL 1, .vc 1),(iL 2, .vc 2),(iL 3, .vc 3),(iL 4,lR x2)] 1) (tr2:=[]) (by kernel_rfl) (by simp[o0m,k0I,l0e,e0F,hn367,hn372]) (kAp 33 4 6 1 21 [4,2] (a0u .i32) h18 (fun h19=>ke 1 (PJ.blockNormal (kNW h19 D W [0,1,2,3,6]))))
     ·have h20:=condT hb0 h0
      have hn367:=of_decide_eq_true hb0
      exact RJ.look (some 0) (d:=some 32) (ef:=⟨.vc 1,[0],[]⟩) (c:=o0m (iL ((nth x0 s0.1).x_)) [(iL 1, .vc 1),(iL 2, .vc 2),(iL 3, .vc 3),(iL 4,lR x2)] 0) (tr2:=[]) (by kernel_rfl) (by simp[o0m,k0I,l0e,e0F,hn367]) (kAp 33 4 6 1 21 [4,1] (a0u .i32) h20 (fun h21=>ke 1 (PJ.blockNormal (kNW h21 D W [0,1,2,3,6]))))
   ·exact kM (kLo h8 [6,7,8,14,15,16])
  ·exact kEp 0 (kLx h7 (fun h22=>PJ.blockOut (kNW h22 D W [4])))
 ·exact kq (kX (by obtain rfl:=oi h5;exact PJ.wk (Wk.freeze 0 (n:=s1.length) (k:=1) (e:=21) (cs:=s1.flatMap (a0u .i32)) (by kernel_rfl)) (kZ H D W)))
def c0p(x0:a0y)(x1:c0n)(x2:Int)(x3:List Int):Option (l0w):=
 (Option.bind (b0L x0 x2) fun y0=>(Option.bind (d0g y0.1 x1 x3) fun y1=>(Option.bind (d0g y0.2 x1 x3) fun y2=>(some (⟨y1,y2⟩:l0w)))))
theorem l0t {x0:a0y} {x1:c0n} {x2:Int} {x3:List Int} {r:l0w} (h:c0p x0 x1 x2 x3=some r):SQ 118 [.agg (a0c x0), .agg (a0d x1),iL x2,lR x3] [] (.agg (d0k r)) []:=by
 refine kFn (fn:=Tryz.f118) (fun F H D W=> ?_)
 unfold c0p at h
 refine kq (kn 2 (kAb 14 h (fun _=>o0A) (fun y0 h0=>kr 5 (kS (kDr (kD 3 ?_))))))
 obtain⟨y1,hy0,h1⟩:=a0f h0
 refine kC0 (some 20) [([],[]),([2,3],[]),([],[]),([],[6,7])] (j0b hy0) (kD 3 ?_)
 obtain⟨y2,hy1,h2⟩:=a0f h1
 exact kC0 (some 24) [([],[]),([2,3],[]),([],[]),([],[6,7]),([],[]),([2,3],[]),([],[]),([],[8,9])] (j0b hy1) (kD 2 (kEN (kX (by cases h2;exact kZ H D W))))
def d0J(x0:c0n)(x1:a0y)(x2:List Int):Option (i0W):=
 (Option.bind (c0p x1 x0 0 x2) fun y0=>(Option.bind (c0p x1 x0 1 x2) fun y1=>(Option.bind (c0p x1 x0 2 x2) fun y2=>(some (⟨y0,y1,y2⟩:i0W)))))
theorem g0D {x0:c0n} {x1:a0y} {x2:List Int} {r:i0W} (h:d0J x0 x1 x2=some r):SQ 80 [.agg (a0d x0), .agg (a0c x1),lR x2] [] (.agg (d0p r)) []:=by
 refine kFn (fn:=Tryz.f80) (fun F H D W=> ?_)
 unfold d0J at h
 refine kq (kS (kDr (kD 3 ?_)))
 obtain⟨y0,hy0,h0⟩:=a0f h
 refine kC0 (some 10) [([2,3],[]),([0,1],[]),([],[]),([],[6,7])] (l0t hy0) (kD 3 ?_)
 obtain⟨y1,hy1,h1⟩:=a0f h0
 refine kC0 (some 14) [([2,3],[]),([0,1],[]),([],[]),([],[6,7]),([2,3],[]),([0,1],[]),([],[]),([],[8,9])] (l0t hy1) (kD 3 ?_)
 obtain⟨y2,hy2,h2⟩:=a0f h1
 exact kC0 (some 18) [([2,3],[]),([0,1],[]),([],[]),([],[6,7]),([2,3],[]),([0,1],[]),([],[]),([],[8,9]),([2,3],[]),([0,1],[]),([],[]),([],[10,11])] (l0t hy2) (kD 2 (kEN (kX (by cases h2;exact kZ H D W))))
def f0Y(x0:List Int):Option (List Int):=
 (bif(Nat.beq x0.length 0)then n0g (some ([]:List Int)) (bif room x0.length then(some x0)else none)else(bif room x0.length then(some x0)else none))
theorem m0j {x0 r:List Int} (h:f0Y x0=some r):SQ 119 [lR x0] [] (.vc 0) [a0z (a0u .i32) 1 21 r]:=by
 refine kFn (fn:=Tryz.f119) (fun F H D W=> ?_)
 unfold f0Y at h
 refine kq (kS (kn 1 (RJ.isNil (d:=4) (n:=x0.length) (eq:=true) (by kernel_rfl) (fun b hb0=> ?_))))
 cases b
 ·have h0:=y0N h
  refine kEN (kF (kKN (kn 2 ?_)))
  obtain⟨hm,h1⟩:=b0y h0
  exact RJ.rel (d:=(some 7)) (ef':=⟨.vc 0,[],[(0, .vec x0.length 1 21 (x0.flatMap (a0u .i32)))]⟩) (tr2:=[]) (H2:=[a0z (a0u .i32) 1 21 x0]) (by kernel_rfl) hm (fun hc=>rfl) (by kernel_rfl) (kr 1 (kX (by obtain rfl:=oi h1;exact kRV [0] (.inr rfl) H D W)))
 ·have h2:=y0M (by rw[hb0 rfl];rfl) h
  exact kEN (kT (kq (kX (PJ.passRet (by obtain rfl:=oi h2;exact PJ.wk (Wk.viv 2 1 21 (by kernel_rfl)) (kRV [0] (.inr rfl) H D W))))))
def k0_:List Int:=[48,1632,1776,1984,2406,2534,2662,2790,2918,3046,3174,3302,3430,3664,3792,3872,6112,6160,65296,120782]
def e0q(x0:Int):Option (Int×Bool):=
 (Option.bind (a0s (fun(s0:Int)=>(bif(decide (s0<20))then(Option.bind (bif inR s0 20 then(Option.bind (bif(decide ((nth k0_ s0)≤x0))then(some ((decide (x0≤((IntKind.wrap .i32 ((nth k0_ s0)+9)))))))else(some false)) fun(s1:Bool)=>(bif s1 then(some (.inr (.inr (.inr ((IntKind.wrap .i64 ((IntKind.wrap .i32 (x0-(nth k0_ s0))))),true)))))else(some (.inl ()))))else none) (a0g fun(s2:Unit)=>(some (.inl (IntKind.wrap .i64 (s0+1))))))else(some (.inr (.inl ()))))) big 0) (a0g fun(s3:Unit)=>(some (0,false))))
theorem h0Q {x0:Int} {r:Int×Bool} (h:e0q x0=some r):SQ 92 [iM x0] [] (.tup [iL r.1, .bool r.2]) []:=by
 refine kFn (fn:=Tryz.f92) (fun F H D W=> ?_)
 unfold e0q at h
 refine kq (kcX h (fun(s3:Unit)=>([(2,iL 0),(3, .bool false)],[])) (fun y0 hy0 h0=> ?_) (fun s3 h1=> ?_))
 ·refine kq (kb 0 (kl (fun(s0:Int)=>([(0,iM x0),(2,iL 0),(3, .bool false),(6, .agg [iM 48,iM 1632,iM 1776,iM 1984,iM 2406,iM 2534,iM 2662,iM 2790,iM 2918,iM 3046,iM 3174,iM 3302,iM 3430,iM 3664,iM 3792,iM 3872,iM 6112,iM 6160,iM 65296,iM 120782]),(7,iL s0)],[])) hy0 [0,2,3,6,7] (fun s0 x247 hs0=>kq (kS (kBT 8 hs0 (fun h2=> ?_) (fun h3=> ?_))))))
  ·refine kKN (kcX h2 (fun(s2:Unit)=>([(0,iM x0),(2,iL 0),(3, .bool false),(6, .agg [iM 48,iM 1632,iM 1776,iM 1984,iM 2406,iM 2534,iM 2662,iM 2790,iM 2918,iM 3046,iM 3174,iM 3302,iM 3430,iM 3664,iM 3792,iM 3872,iM 6112,iM 6160,iM 65296,iM 120782]),(7,iL s0)],[])) (fun y1 hy1 h4=> ?_) (fun s2 h5=> ?_))
   ·refine kb 1 (kSR ?_)
    obtain⟨hm,h6⟩:=b0y hy1
    exact RJ.rel (d:=(some 9)) (ef:=⟨((k0_.flatMap (a0u .i32)).drop ((s0:Int).toNat*1)).headD .undef,[],[]⟩) (ef':=⟨iM (nth k0_ s0),[],[]⟩) (c:=inR s0 20) (tr2:=[]) (H2:=[]) (by kernel_rfl) hm (fun hc=>N.load1 (a0v .i32) (fun _=>rfl) hc) (by kernel_rfl) (kr 1 (kcN h6 (fun(s1:Bool)=>([(0,iM x0),(2,iL 0),(3, .bool false),(5,iM (nth k0_ s0)),(6, .agg [iM 48,iM 1632,iM 1776,iM 1984,iM 2406,iM 2534,iM 2662,iM 2790,iM 2918,iM 3046,iM 3174,iM 3302,iM 3430,iM 3664,iM 3792,iM 3872,iM 6112,iM 6160,iM 65296,iM 120782]),(7,iL s0),(18, .bool s1)],[])) (fun s1 hy2=>km 4 (kB 13 hy2 (fun h8=>ke 5 (kNo h8 [0,2,3,5,6,7,18])) (fun h9=>ke 5 (kNo h9 [0,2,3,5,6,7,18])))) (fun s1 h7=>kBT 18 h7 (fun h10=>kq (kXb (kCx h10 h4 (fun h12=>kLx h12 (fun h13=>PJ.blockRet (kCx h13 h0 (fun h14=>by obtain rfl:=oi h14;exact kZ H D W))))))) (fun h11=>kKb (kXo h11 [0,2,3,6,7])))))
   ·exact kM (kLo h5 [0,2,3,6,7])
  ·exact kEp 0 (kLx h3 (fun h15=>PJ.blockOut (kXo h15 [2,3])))
 ·exact kq (kX (by cases h1;exact kZ H D W))
def f0H(x0:c0n)(x1:Int):Option (Bool):=
 (Option.bind (bif(decide (x1=x0.B_))then(some true)else(bif(decide (x1=x0.z_))then(some true)else(some (decide (x1=x0.d_))))) fun(s0:Bool)=>(some s0))
theorem k0S {x0:c0n} {x1:Int} {r:Bool} (h:f0H x0 x1=some r):SQ 93 [.agg (a0d x0),iM x1] [] (.bool r) []:=by
 refine kFn (fn:=Tryz.f93) (fun F H D W=> ?_)
 unfold f0H at h
 exact kq (kcN h (fun(s0:Bool)=>([(4, .bool s0)],[])) (fun s0 hy0=>km 5 (kB 9 hy0 (fun h1=>ke 12 (kNW h1 D W [])) (fun h2=>kc 6 (kB 15 h2 (fun h3=>ke 6 (kNW h3 D W [])) (fun h4=>ke 6 (kNW h4 D W [])))))) (fun s0 h0=>kX (by cases h0;exact kZ H D W)))
structure a0n where
 s_:Int
 q_:Int
 deriving Inhabited,DecidableEq
def a0i(x:a0n):List SV:=[.int .i32 x.s_, .int .i32 x.q_]
theorem y0C(x:a0n):(a0i x).length=2:=rfl
def c0I:Option ((List (a0n×Int))):=
 (some (([((⟨0,31⟩:a0n),1),((⟨127,159⟩:a0n),1),((⟨1564,1564⟩:a0n),2),((⟨8206,8207⟩:a0n),2),((⟨8234,8238⟩:a0n),2),((⟨8294,8297⟩:a0n),2),((⟨64976,65007⟩:a0n),3),((⟨32,32⟩:a0n),4),((⟨160,160⟩:a0n),4),((⟨5760,5760⟩:a0n),4),((⟨8192,8202⟩:a0n),4),((⟨8232,8233⟩:a0n),4),((⟨8239,8239⟩:a0n),4),((⟨8287,8287⟩:a0n),4),((⟨12288,12288⟩:a0n),4)]:List (a0n×Int))))
theorem h0v {r:(List (a0n×Int))} (h:c0I=some r):SQ 121 [] [] (.mp 0) [.pmap (c0a (fun k:a0n=> .agg (a0i k)) (fun k:Int=>iL k) r)]:=by
 refine kFn (fn:=Tryz.f121) (fun F H D W=> ?_)
 unfold c0I at h
 exact kq (kS (J.keep [] (L2:=[]) (by kernel_rfl) (K.mapLitC 196 (es:=c0a (fun k:a0n=> .agg (a0i k)) (fun k:Int=>iL k) ([((⟨0,31⟩:a0n),1),((⟨127,159⟩:a0n),1),((⟨1564,1564⟩:a0n),2),((⟨8206,8207⟩:a0n),2),((⟨8234,8238⟩:a0n),2),((⟨8294,8297⟩:a0n),2),((⟨64976,65007⟩:a0n),3),((⟨32,32⟩:a0n),4),((⟨160,160⟩:a0n),4),((⟨5760,5760⟩:a0n),4),((⟨8192,8202⟩:a0n),4),((⟨8232,8233⟩:a0n),4),((⟨8239,8239⟩:a0n),4),((⟨8287,8287⟩:a0n),4),((⟨12288,12288⟩:a0n),4)]:List (a0n×Int))) (L2:=[(0, .mp 0)]) (by kernel_rfl) (by kernel_rfl) (n:=0) (by kernel_rfl) (by kernel_rfl) (by kernel_rfl) (by kernel_rfl) (by kernel_rfl) (by kernel_rfl) [0] (by kernel_rfl) (PJ.next (kX (by obtain rfl:=oi h;exact K.retV (H0:=[]) [0] (.inr rfl) H D W (by kernel_rfl) (v1:= .mp 0) (by kernel_rfl) (by kernel_rfl) (by simp only[ah,ay,p0D (ek:=(fun k:a0n=> .agg (a0i k))) (ev:=(fun k:Int=>iL k)) (fun _ _=>rfl) (fun _ _=>rfl)];kernel_rfl) (by decide) (by simp only[az,aM,u0o (ek:=(fun k:a0n=> .agg (a0i k))) (ev:=(fun k:Int=>iL k)) (fun _ _=>rfl) (fun _ _=>rfl)];kernel_rfl) (by kernel_rfl) (by kernel_rfl) (by kernel_rfl) (by kernel_rfl)))))))
def a0x(x0:Int)(x1:List (a0n×Int)):Option (Int×(List (a0n×Int))):=
 (Option.bind (l0x x0) fun y0=>(bif(!y0)then(some (6,x1))else(bif(decide ((bits .and .i32 x0 65534)=65534))then(some (3,x1))else(Option.bind (Option.bind (k0X (fun(e49:a0n×Int)=>(Option.bind (bif(decide (e49.1.s_≤x0))then(some (decide (x0≤e49.1.q_)))else(some false)) fun(s0:Bool)=>(bif s0 then(some (.inr (.inr (((f0z (fun a b:a0n=>((decide (a.s_=b.s_))&&((decide (a.q_=b.q_))&&true))) x1 e49.1).getD 0),x1))))else(some (.inl ()))))) x1) (a0g fun(_:Unit)=>(some (.inl ())))) (a0g fun(s1:Unit)=>(Option.bind (e0q x0) fun y1=>(bif y1.2 then(some (5,x1))else(some (0,x1)))))))))
theorem f0c {x0:Int} {x1:List (a0n×Int)} {r:Int×(List (a0n×Int))} (h:a0x x0 x1=some r):SQ 122 [.mp 0,iM x0] [.map (c0a (fun k:a0n=> .agg (a0i k)) (fun k:Int=>iL k) x1)] (iL r.1) [.map (c0a (fun k:a0n=> .agg (a0i k)) (fun k:Int=>iL k) r.2)]:=by
 refine kFn (fn:=Tryz.f122) (fun F H D W=> ?_)
 unfold a0x at h
 refine kq (kS (kn 1 (kAb 9 h (fun _=>q0u) (fun y0 h1=>kr 1 (kBT 10 h1 (fun h2=> ?_) (fun h3=> ?_))))))
 ·exact kq (kX (PJ.passRet (by obtain rfl:=oi h2;exact K.retV (H0:=[.map (c0a (fun k:a0n=> .agg (a0i k)) (fun k:Int=>iL k) x1)]) [0] (.inr rfl) H D W (by kernel_rfl) (v1:=iL 6) (by kernel_rfl) (by kernel_rfl) (by simp only[ah,ay,d0h (ek:=(fun k:a0n=> .agg (a0i k))) (ev:=(fun k:Int=>iL k)) (fun _ _=>rfl) (fun _ _=>rfl)];kernel_rfl) (by decide) (by simp only[az,aM,c0b (ek:=(fun k:a0n=> .agg (a0i k))) (ev:=(fun k:Int=>iL k)) (fun _ _=>rfl) (fun _ _=>rfl)];kernel_rfl) (by kernel_rfl) (by kernel_rfl) (by kernel_rfl) (by kernel_rfl))))
 ·refine kKN (kS (kq (kBT 13 h3 (fun h4=> ?_) (fun h5=> ?_))))
  ·exact kq (kX (PJ.passRet (by obtain rfl:=oi h4;exact K.retV (H0:=[.map (c0a (fun k:a0n=> .agg (a0i k)) (fun k:Int=>iL k) x1)]) [0] (.inr rfl) H D W (by kernel_rfl) (v1:=iL 3) (by kernel_rfl) (by kernel_rfl) (by simp only[ah,ay,d0h (ek:=(fun k:a0n=> .agg (a0i k))) (ev:=(fun k:Int=>iL k)) (fun _ _=>rfl) (fun _ _=>rfl)];kernel_rfl) (by decide) (by simp only[az,aM,c0b (ek:=(fun k:a0n=> .agg (a0i k))) (ev:=(fun k:Int=>iL k)) (fun _ _=>rfl) (fun _ _=>rfl)];kernel_rfl) (by kernel_rfl) (by kernel_rfl) (by kernel_rfl) (by kernel_rfl))))
  ·refine kKN (kcX h5 (fun(s1:Unit)=>([(1,iM x0),(4,iL 0)],[.map (c0a (fun k:a0n=> .agg (a0i k)) (fun k:Int=>iL k) x1)])) (fun y2 hy0 h6=> ?_) (fun s1 h7=> ?_))
   ·refine kn 1 (RJ.range (d:=(some 15)) (i:=0) (n:=(c0a (fun k:a0n=> .agg (a0i k)) (fun k:Int=>iL k) x1).length) (by kernel_rfl) (kEN (kb 0 ?_)))
    obtain⟨y3,hy1,h0⟩:=a0f hy0
    refine K.mapLoop 15 16 17 0 1 0 (n:=(c0a (fun k:a0n=> .agg (a0i k)) (fun k:Int=>iL k) x1).length) (by kernel_rfl) (by kernel_rfl) _ _ (fun p:a0n×Int=>((fun k:a0n=> .agg (a0i k)) p.1,(fun k:Int=>iL k) p.2)) hy1 [0,1,4,15] (L2:=[(0, .mp 0),(1,iM x0),(4,iL 0),(15, .ptr 1 0)]) (by kernel_rfl) (by kernel_rfl) (by kernel_rfl) (by kernel_rfl) (by kernel_rfl) (by kernel_rfl) (fun sq=> [.map (c0a (fun k:a0n=> .agg (a0i k)) (fun k:Int=>iL k) x1), .itr 0 ((c0a (fun k:a0n=> .agg (a0i k)) (fun k:Int=>iL k) x1).length) sq]) (by kernel_rfl) (fun _ _=>by kernel_rfl) (fun _=>by kernel_rfl) (fun _=>by kernel_rfl) rfl (fun sv50 he0=> ?_) (fun sv50 bv51 e49 x70 hb0 hx46=> ?_)
    ·subst he0
     have h8:=l0R h0
     exact PJ.blockOut (PJ.wk (Wk.sel (L2:=[(1,iM x0),(4,iL 0)]) (H2:=[.map (c0a (fun k:a0n=> .agg (a0i k)) (fun k:Int=>iL k) x1)]) 1 (by rw[D];rfl) W [0] (by kernel_rfl) (by simp only[ah,ay,d0h (ek:=(fun k:a0n=> .agg (a0i k))) (ev:=(fun k:Int=>iL k)) (fun _ _=>rfl) (fun _ _=>rfl)];kernel_rfl) (by decide) (by simp only[az,aM,c0b (ek:=(fun k:a0n=> .agg (a0i k))) (ev:=(fun k:Int=>iL k)) (fun _ _=>rfl) (fun _ _=>rfl)];kernel_rfl) (by kernel_rfl) (by kernel_rfl) (by kernel_rfl)) (kXo h8 [1,4]))
    ·refine kb 1 (kSR (RJ.entry (d:=(some 18)) (i:=0) (n:=(c0a (fun k:a0n=> .agg (a0i k)) (fun k:Int=>iL k) x1).length) (b:=bv51) (s:=sv50) (kv:=((.agg (a0i e49.1):SV),(iL e49.2:SV))) (by kernel_rfl) (by kernel_rfl) rfl hb0 (kr 3 (kcN hx46 (fun(s0:Bool)=>([(0, .mp 0),(1,iM x0),(4,iL 0),(5, .ptr 1 0),(15, .ptr 2 0),(29, .bool s0)],[.map (c0a (fun k:a0n=> .agg (a0i k)) (fun k:Int=>iL k) x1), .box (a0i e49.1), .itr 0 ((c0a (fun k:a0n=> .agg (a0i k)) (fun k:Int=>iL k) x1).length) (sv50++ [bv51])])) (fun s0 hy2=> ?_) (fun s0 h9=> ?_)))))
     ·exact km 5 (kB 24 hy2 (fun h10=>ke 5 (PJ.wk (Wk.sel (L2:=[(0, .mp 0),(1,iM x0),(4,iL 0),(5, .ptr 1 0),(15, .ptr 2 0),(29, .bool (decide (x0≤e49.1.q_)))]) (H2:=[.map (c0a (fun k:a0n=> .agg (a0i k)) (fun k:Int=>iL k) x1), .box (a0i e49.1), .itr 0 ((c0a (fun k:a0n=> .agg (a0i k)) (fun k:Int=>iL k) x1).length) (sv50++ [bv51])]) 1 (by rw[D];rfl) W [0,2,1] (by kernel_rfl) (by simp only[ah,ay,d0h (ek:=(fun k:a0n=> .agg (a0i k))) (ev:=(fun k:Int=>iL k)) (fun _ _=>rfl) (fun _ _=>rfl)];kernel_rfl) (by decide) (by simp only[az,aM,c0b (ek:=(fun k:a0n=> .agg (a0i k))) (ev:=(fun k:Int=>iL k)) (fun _ _=>rfl) (fun _ _=>rfl)];kernel_rfl) (by kernel_rfl) (by kernel_rfl) (by kernel_rfl)) (kNo h10 [0,1,4,5,15,29]))) (fun h11=>ke 5 (PJ.wk (Wk.sel (L2:=[(0, .mp 0),(1,iM x0),(4,iL 0),(5, .ptr 1 0),(15, .ptr 2 0),(29, .bool false)]) (H2:=[.map (c0a (fun k:a0n=> .agg (a0i k)) (fun k:Int=>iL k) x1), .box (a0i e49.1), .itr 0 ((c0a (fun k:a0n=> .agg (a0i k)) (fun k:Int=>iL k) x1).length) (sv50++ [bv51])]) 1 (by rw[D];rfl) W [0,2,1] (by kernel_rfl) (by simp only[ah,ay,d0h (ek:=(fun k:a0n=> .agg (a0i k))) (ev:=(fun k:Int=>iL k)) (fun _ _=>rfl) (fun _ _=>rfl)];kernel_rfl) (by decide) (by simp only[az,aM,c0b (ek:=(fun k:a0n=> .agg (a0i k))) (ev:=(fun k:Int=>iL k)) (fun _ _=>rfl) (fun _ _=>rfl)];kernel_rfl) (by kernel_rfl) (by kernel_rfl) (by kernel_rfl)) (kNo h11 [0,1,4,5,15,29]))))
     ·refine kBT 29 h9 (fun h12=> ?_) (fun h13=> ?_)
      ·refine kn 2 (RJ.lookD (d:=(some 32)) (kt:=196) (i:=0) (cs:=(a0i e49.1)) (ok:=false) (tr2:=[]) (fun k:a0n=> .agg (a0i k)) (fun k:Int=>iL k) (fun a b:a0n=>((decide (a.s_=b.s_))&&((decide (a.q_=b.q_))&&true))) x1 e49.1 (0:Int) (by kernel_rfl) rfl (fun a b=>by kernel_rfl) (kr 1 (kXb ?_)))
       obtain rfl:=oi h12
       refine PJ.mapOut (fun e=>nomatch e) (fun he1=> ?_)
       subst he1
       have h14:=c0d h0
       exact PJ.blockRet (kCx h14 h6 (fun h15=>by obtain rfl:=oi h15;exact K.retV (H0:=[.map (c0a (fun k:a0n=> .agg (a0i k)) (fun k:Int=>iL k) x1)]) [0] (.inr rfl) H D W (by kernel_rfl) (v1:=iL (((f0z (fun a b:a0n=>((decide (a.s_=b.s_))&&((decide (a.q_=b.q_))&&true))) x1 e49.1).getD 0))) (by kernel_rfl) (by kernel_rfl) (by simp only[ah,ay,d0h (ek:=(fun k:a0n=> .agg (a0i k))) (ev:=(fun k:Int=>iL k)) (fun _ _=>rfl) (fun _ _=>rfl)];kernel_rfl) (by decide) (by simp only[az,aM,c0b (ek:=(fun k:a0n=> .agg (a0i k))) (ev:=(fun k:Int=>iL k)) (fun _ _=>rfl) (fun _ _=>rfl)];kernel_rfl) (by kernel_rfl) (by kernel_rfl) (by kernel_rfl) (by kernel_rfl)))
      ·exact kKb (by obtain rfl:=oi h13;exact PJ.wk (Wk.sel (L2:=[(0, .mp 0),(1,iM x0),(4,iL 0),(15, .ptr 1 0)]) (H2:=[.map (c0a (fun k:a0n=> .agg (a0i k)) (fun k:Int=>iL k) x1), .itr 0 ((c0a (fun k:a0n=> .agg (a0i k)) (fun k:Int=>iL k) x1).length) (sv50++ [bv51])]) 1 (by rw[D];rfl) W [0,2] (by kernel_rfl) (by simp only[ah,ay,d0h (ek:=(fun k:a0n=> .agg (a0i k))) (ev:=(fun k:Int=>iL k)) (fun _ _=>rfl) (fun _ _=>rfl)];kernel_rfl) (by decide) (by simp only[az,aM,c0b (ek:=(fun k:a0n=> .agg (a0i k))) (ev:=(fun k:Int=>iL k)) (fun _ _=>rfl) (fun _ _=>rfl)];kernel_rfl) (by kernel_rfl) (by kernel_rfl) (by kernel_rfl)) (PJ.mapNext [0,1,4,15] (by kernel_rfl) (by kernel_rfl)))
   ·exact kS (kn 1 (kAb 35 h7 (fun _=>h0Q) (fun y1 h16=>kr 5 (kq (kBT 38 h16 (fun h17=>kq (kX (PJ.passRet (by obtain rfl:=oi h17;exact K.retV (H0:=[.map (c0a (fun k:a0n=> .agg (a0i k)) (fun k:Int=>iL k) x1)]) [0] (.inr rfl) H D W (by kernel_rfl) (v1:=iL 5) (by kernel_rfl) (by kernel_rfl) (by simp only[ah,ay,d0h (ek:=(fun k:a0n=> .agg (a0i k))) (ev:=(fun k:Int=>iL k)) (fun _ _=>rfl) (fun _ _=>rfl)];kernel_rfl) (by decide) (by simp only[az,aM,c0b (ek:=(fun k:a0n=> .agg (a0i k))) (ev:=(fun k:Int=>iL k)) (fun _ _=>rfl) (fun _ _=>rfl)];kernel_rfl) (by kernel_rfl) (by kernel_rfl) (by kernel_rfl) (by kernel_rfl))))) (fun h18=>kKN (kq (kX (by obtain rfl:=oi h18;exact K.retV (H0:=[.map (c0a (fun k:a0n=> .agg (a0i k)) (fun k:Int=>iL k) x1)]) [0] (.inr rfl) H D W (by kernel_rfl) (v1:=iL 0) (by kernel_rfl) (by kernel_rfl) (by simp only[ah,ay,d0h (ek:=(fun k:a0n=> .agg (a0i k))) (ev:=(fun k:Int=>iL k)) (fun _ _=>rfl) (fun _ _=>rfl)];kernel_rfl) (by decide) (by simp only[az,aM,c0b (ek:=(fun k:a0n=> .agg (a0i k))) (ev:=(fun k:Int=>iL k)) (fun _ _=>rfl) (fun _ _=>rfl)];kernel_rfl) (by kernel_rfl) (by kernel_rfl) (by kernel_rfl) (by kernel_rfl))))))))))
noncomputable def l0q(x0:List Int):Option (Bool):=
 (Option.bind c0I fun y1=>p0p (fun(ms4:List (a0n×Int))=>(Option.bind (a0s (fun(s0:Int×(List (a0n×Int)))=>(bif(decide (s0.1<(x0.length:Int)))then(Option.bind (bif inR s0.1 x0.length then(Option.bind (a0x (nth x0 s0.1) s0.2) fun y0=>(Option.bind (bif(decide (y0.1=0))then(some true)else(bif(decide (y0.1=4))then(some true)else(bif(decide (y0.1=5))then(some true)else(some (decide (y0.1=2)))))) fun(s1:Bool)=>(bif s1 then(some (.inl y0.2))else(some (.inr (.inr (.inr false)))))))else none) (a0g fun(s2:(List (a0n×Int)))=>(some (.inl ((IntKind.wrap .i64 (s0.1+1)),s2)))))else(some (.inr (.inl ()))))) big (0,ms4)) (a0g fun(s3:Unit)=>(some true)))) y1)
theorem o0M {x0:List Int} {r:Bool} (h:l0q x0=some r):SQ 94 [lR x0] [] (.bool r) []:=by
 refine kFn (fn:=Tryz.f94) (fun F H D W=> ?_)
 unfold l0q at h
 refine kq (kSR ?_)
 obtain⟨y1,hy0,h0⟩:=a0f h
 refine RJ.callG (d:=(some 6)) (f:=121) (args:=[]) (args0:=[]) (v0:= .mp 0) (v:= .mp 0) (tr2:=[]) (H0:=[]) (H0':=[.pmap (c0a (fun k:a0n=> .agg (a0i k)) (fun k:Int=>iL k) y1)]) (H2:=[.pmap (c0a (fun k:a0n=> .agg (a0i k)) (fun k:Int=>iL k) y1)]) [] (by kernel_rfl) (by kernel_rfl) (by kernel_rfl) (by kernel_rfl) (by decide) (by kernel_rfl) (by kernel_rfl) (by kernel_rfl) .nil (h0v hy0) (by kernel_rfl) (by kernel_rfl) ((show d0Q (b0Z []) 0 _ [.pmap (c0a (fun k:a0n=> .agg (a0i k)) (fun k:Int=>iL k) y1)]=[Ent.rn (gOf (b0Z []) 0 0) (.pmap (c0a (fun k:a0n=> .agg (a0i k)) (fun k:Int=>iL k) y1))] by kernel_rfl).trans (by simp only[p0D (ek:=(fun k:a0n=> .agg (a0i k))) (ev:=(fun k:Int=>iL k)) (fun _ _=>rfl) (fun _ _=>rfl)])) (RJ.openMap (ek:=(fun k:a0n=> .agg (a0i k))) (ev:=(fun k:Int=>iL k)) y1 0 (fun ms4=> [.map (c0a (fun k:a0n=> .agg (a0i k)) (fun k:Int=>iL k) ms4)]) (by kernel_rfl) (fun _=>by kernel_rfl) (fun ms4 hp5=> ?_))
 have h1:=p0o h0 ms4 hp5
 refine kr 1 (kcX h1 (fun(s3:Unit)=>([(2, .bool false)],[])) (fun y2 hy1 h2=> ?_) (fun s3 h3=> ?_))
 ·refine kq (kb 0 (kl (fun(s0:Int×(List (a0n×Int)))=>([(2, .bool false),(3, .mp 0),(7,lR x0),(8,iL (x0.length:Int)),(9,iL s0.1)],[.map (c0a (fun k:a0n=> .agg (a0i k)) (fun k:Int=>iL k) s0.2)])) hy1 [2,3,7,8,9] (fun s0 x407 hs0=>kq (kS (kBT 10 hs0 (fun h4=> ?_) (fun h5=> ?_))))))
  ·refine kKN (kcX h4 (fun(s2:(List (a0n×Int)))=>([(2, .bool false),(3, .mp 0),(7,lR x0),(8,iL (x0.length:Int)),(9,iL s0.1)],[.map (c0a (fun k:a0n=> .agg (a0i k)) (fun k:Int=>iL k) s2)])) (fun y3 hy2 h6=> ?_) (fun s2 h7=> ?_))
   ·refine kb 1 (kSR (kIb 11 (a0v .i32) hy2 (fun h8=>kr 2 (kn 2 ?_))))
    obtain⟨y0,hy3,h9⟩:=a0f h8
    exact RJ.callG (d:=(some 15)) (f:=122) (args:=[.mp 0,iM (nth x0 s0.1)]) (args0:=[.mp 0,iM (nth x0 s0.1)]) (v0:=iL y0.1) (v:=iL y0.1) (tr2:=[]) (H0:=[.map (c0a (fun k:a0n=> .agg (a0i k)) (fun k:Int=>iL k) s0.2)]) (H0':=[.map (c0a (fun k:a0n=> .agg (a0i k)) (fun k:Int=>iL k) y0.2)]) (H2:=[.map (c0a (fun k:a0n=> .agg (a0i k)) (fun k:Int=>iL k) y0.2)]) [0] (by kernel_rfl) (by kernel_rfl) (by kernel_rfl) (by simp only[ah,ay,d0h (ek:=(fun k:a0n=> .agg (a0i k))) (ev:=(fun k:Int=>iL k)) (fun _ _=>rfl) (fun _ _=>rfl)];kernel_rfl) (by decide) (by simp only[az,aM,c0b (ek:=(fun k:a0n=> .agg (a0i k))) (ev:=(fun k:Int=>iL k)) (fun _ _=>rfl) (fun _ _=>rfl)];kernel_rfl) (by kernel_rfl) (by kernel_rfl) (LeL.refl _) (f0c hy3) (by kernel_rfl) (by kernel_rfl) ((show d0Q (b0Z [0]) 1 _ [.map (c0a (fun k:a0n=> .agg (a0i k)) (fun k:Int=>iL k) y0.2)]=[Ent.rn (gOf (b0Z [0]) 1 1) (.map (c0a (fun k:a0n=> .agg (a0i k)) (fun k:Int=>iL k) y0.2))] by kernel_rfl).trans (by simp only[d0h (ek:=(fun k:a0n=> .agg (a0i k))) (ev:=(fun k:Int=>iL k)) (fun _ _=>rfl) (fun _ _=>rfl)])) (kEN (kb 2 (kcN h9 (fun(s1:Bool)=>([(2, .bool false),(3, .mp 0),(7,lR x0),(8,iL (x0.length:Int)),(9,iL s0.1),(16, .bool s1)],[.map (c0a (fun k:a0n=> .agg (a0i k)) (fun k:Int=>iL k) y0.2)])) (fun s1 hy4=>kq (kBT 16 hy4 (fun h11=>kK (kNo h11 [2,3,7,8,9,16])) (fun h12=>kq (kBT 16 h12 (fun h13=>kK (kNo h13 [2,3,7,8,9,16])) (fun h14=>kq (kBT 16 h14 (fun h15=>kK (kNo h15 [2,3,7,8,9,16])) (fun h16=>kM (kNo h16 [2,3,7,8,9,16])))))))) (fun s1 h10=>kBT 16 h10 (fun h17=>kKb (PJ.blockNormal (kXo h17 [2,3,7,8,9]))) (fun h18=>kq (kXb (PJ.blockRet (kCx h18 h6 (fun h19=>kLx h19 (fun h20=>PJ.blockRet (kCx h20 h2 (fun h21=>by obtain rfl:=oi h21;exact kZ H D W))))))))))))
   ·exact kM (kLo h7 [2,3,7,8,9])
  ·exact kEp 0 (kLx h5 (fun h22=>PJ.blockOut (kXW h22 D W [])))
 ·exact kq (kX (by cases h3;exact kZ H D W))
theorem r0a {E X:Type} [DecidableEq X](f:E→Option (Unit⊕X))(hit:E→Bool)(v:X): ∀(ms:List E),(∀e∈ms,f e=some (if hit e=true then .inr v else .inl ()))→k0X f ms=some (if ms.any hit=true then .inr v else .inl ())
 | [],_=>rfl
 |e::r,h=>by
  have ih:=r0a f hit v r fun x hx=>h x (ao _ hx)
  simp only[k0X,h e (ar ..),ih,List.any_cons]
  by_cases h0:hit e=true
  ·by_cases h1:r.any hit=true
   ·simp only[h0,h1,if_true,Bool.or_self]
   ·simp only[h0,h1,if_true,Bool.true_or,if_false,aE]
  ·have h0':hit e=false:=by simpa using h0
   simp only[h0',if_false,Bool.false_or,aE]
def l0F:List (a0n×Int):=[((⟨0,31⟩:a0n),1),((⟨127,159⟩:a0n),1),((⟨1564,1564⟩:a0n),2),((⟨8206,8207⟩:a0n),2),((⟨8234,8238⟩:a0n),2),((⟨8294,8297⟩:a0n),2),((⟨64976,65007⟩:a0n),3),((⟨32,32⟩:a0n),4),((⟨160,160⟩:a0n),4),((⟨5760,5760⟩:a0n),4),((⟨8192,8202⟩:a0n),4),((⟨8232,8233⟩:a0n),4),((⟨8239,8239⟩:a0n),4),((⟨8287,8287⟩:a0n),4),((⟨12288,12288⟩:a0n),4)]
def eqK(a b:a0n):Bool:=(decide (a.s_=b.s_))&&((decide (a.q_=b.q_))&&true)
def s0x(r:Int)(e:a0n×Int):Bool:=decide (e.1.s_≤r)&&decide (r≤e.1.q_)
def tab(r:Int):Int:=match l0F.find? (s0x r)with
 |some e=>e.2
 |none=>0
theorem v0J {ms:List (a0n×Int)} (h: ∀a∈ms,∀b∈ms,eqK a.1 b.1=true→b.2=a.2) {e:a0n×Int} (he:e∈ms):f0z eqK ms e.1=some e.2:=by
 have key: ∀l:List (a0n×Int),(∀b∈l,eqK e.1 b.1=true→b.2=e.2)→e∈l→f0z eqK l e.1=some e.2:=by
  intro l
  induction l with
  |nil=>intro _ h;simp at h
  |cons b r ih=>
   intro hb hm
   simp only[f0z]
   cases hq:eqK e.1 b.1 with
   |true=>simp only[cond_true];rw[hb b (ar ..) hq]
   |false=>
    simp only[cond_false]
    refine ih (fun x hx=>hb x (ao _ hx)) ?_
    rcases aG.1 hm with rfl|hm
    ·exfalso;revert hq;unfold eqK;simp
    ·exact hm
 exact key ms (fun b hb=>h e he b hb) he
theorem v0o: ∀a∈l0F,∀b∈l0F,eqK a.1 b.1=true→b.2=a.2:=by decide+kernel
theorem u0i: ∀a∈l0F,∀b∈l0F,a=b∨a.1.q_<b.1.s_∨b.1.q_<a.1.s_:=by decide+kernel
theorem y0X {r:Int} {e:a0n×Int} (he:e∈l0F)(hh:s0x r e=true):tab r=e.2:=by
 unfold tab
 cases hf:l0F.find? (s0x r)with
 |none=>
  rw[List.find?_eq_none]at hf
  exact absurd hh (by simpa using hf e he)
 |some e'=>
  have h1:=List.find?_some hf
  have h0:=List.mem_of_find?_eq_some hf
  unfold s0x at h1 hh
  simp only[ac,decide_eq_true_eq]at h1 hh
  rcases u0i e he e' h0 with h|h|h
  ·rw[h]
  ·omega
  ·omega
theorem n0C {r:Int} {ms:List (a0n×Int)} (hp:List.Perm ms l0F):a0x r ms=Option.bind (l0x r) fun y=>bif !y then some (6,ms)else bif decide (bits .and .i32 r 65534=65534)then some (3,ms)else bif l0F.any (s0x r)then some (tab r,ms)else Option.bind (e0q r) fun y=>bif y.2 then some (5,ms)else some (0,ms):=by
 unfold a0x
 congr 1
 funext y
 cases y with
 |false=>rfl
 |true=>
  simp only[aA,cond_false]
  cases decide (bits .and .i32 r 65534=65534)with
  |true=>rfl
  |false=>
   simp only[cond_false]
   have hsame: ∀a∈ms,∀b∈ms,eqK a.1 b.1=true→b.2=a.2:=fun a ha b hb=>v0o a (hp.mem_iff.1 ha) b (hp.mem_iff.1 hb)
   have hany:ms.any (s0x r)=l0F.any (s0x r):=by
    rw[Bool.eq_iff_iff]
    simp only[List.any_eq_true]
    exact⟨fun⟨x,hx,h⟩=>⟨x,hp.mem_iff.1 hx,h⟩,fun⟨x,hx,h⟩=>⟨x,hp.mem_iff.2 hx,h⟩⟩
   rw[r0a _ (s0x r) (.inr (tab r,ms)) ms (fun e he=> ?_),hany]
   ·cases l0F.any (s0x r)<;>rfl
   ·have hg:(f0z (fun a b:a0n=>((decide (a.s_=b.s_))&&((decide (a.q_=b.q_))&&true))) ms e.1)=some e.2:=v0J hsame he
    rw[hg]
    have ht:s0x r e=true→tab r=e.2:=fun h=>y0X (hp.mem_iff.1 he) h
    unfold s0x at ht⊢
    by_cases q1:e.1.s_≤r
    ·rw[dT q1]at ht⊢
     by_cases q2:r≤e.1.q_
     ·rw[dT q2]at ht⊢
      simp only[cond_true,aa,bI,if_true,bJ]
      rw[ht rfl]
     ·rw[dF q2];rfl
    ·rw[dF q1];rfl
theorem y0k {x:Int} {ms:List (a0n×Int)} {r:Int×List (a0n×Int)} (hp:List.Perm ms l0F)(h:a0x x l0F=some r):a0x x ms=some (r.1,ms)∧r.2=l0F:=by
 rw[n0C (List.Perm.refl _)]at h
 rw[n0C hp]
 obtain⟨y,e,h⟩:=a0f h
 rw[e]
 simp only[aa]at h⊢
 cases y with
 |false=>obtain rfl:=oi h;exact⟨rfl,rfl⟩
 |true=>
  simp only[aA,cond_false]at h⊢
  revert h
  cases decide (bits .and .i32 x 65534=65534)with
  |true=>intro h;obtain rfl:=oi h;exact⟨rfl,rfl⟩
  |false=>
   simp only[cond_false]
   cases l0F.any (s0x x)with
   |true=>intro h;obtain rfl:=oi h;exact⟨rfl,rfl⟩
   |false=>
    intro h
    simp only[cond_false]at h⊢
    obtain⟨v,e,h⟩:=a0f h
    rw[e]
    simp only[aa]
    cases hv:v.2 with
    |true=>rw[hv]at h;obtain rfl:=oi h;exact⟨rfl,rfl⟩
    |false=>rw[hv]at h;obtain rfl:=oi h;exact⟨rfl,rfl⟩
theorem r0d {S X:Type} {f:S→Option (S⊕X)} (R:S→S→Prop)(hs: ∀s s' o,R s s'→f s=some o→(∃a b,o= .inl a∧f s'=some (.inl b)∧R a b)∨ ∃x,o= .inr x∧f s'=some (.inr x)): ∀(n:Nat) (s s':S) (r:X),R s s'→a0s f n s=some r→a0s f n s'=some r
 |0,_,_,_,_,h=>by cases h
 |n+1,s,s',r,hR,h=>by
  simp only[a0s]at h⊢
  cases hf:f s with
  |none=>rw[hf]at h;cases h
  |some o=>
   rw[hf]at h
   rcases hs s s' o hR hf with⟨a,b,rfl,h0,h2⟩|⟨x,rfl,h0⟩
   ·rw[h0];exact r0d R hs n a b r h2 h
   ·rw[h0];exact h
def i0n(x0:List Int):Option (Bool):=
 (Option.bind c0I fun y1=>(fun(ms4:List (a0n×Int))=>(Option.bind (a0s (fun(s0:Int×(List (a0n×Int)))=>(bif(decide (s0.1<(x0.length:Int)))then(Option.bind (bif inR s0.1 x0.length then(Option.bind (a0x (nth x0 s0.1) s0.2) fun y0=>(Option.bind (bif(decide (y0.1=0))then(some true)else(bif(decide (y0.1=4))then(some true)else(bif(decide (y0.1=5))then(some true)else(some (decide (y0.1=2)))))) fun(s1:Bool)=>(bif s1 then(some (.inl y0.2))else(some (.inr (.inr (.inr false)))))))else none) (a0g fun(s2:(List (a0n×Int)))=>(some (.inl ((IntKind.wrap .i64 (s0.1+1)),s2)))))else(some (.inr (.inl ()))))) big (0,ms4)) (a0g fun(s3:Unit)=>(some true)))) y1)
theorem q0e {x0:List Int} {r:Bool} (h:i0n x0=some r):SQ 94 [lR x0] [] (.bool r) []:=o0M (by
 unfold i0n at h;unfold l0q
 obtain⟨y,hy,h⟩:=a0f h
 rw[hy];simp only[aa]
 obtain rfl:l0F=y:=oi hy
 obtain⟨u,hu,hr⟩:=a0f h
 refine r0I fun ms hp=> ?_
 have hL:=r0d (fun a b=>a.1=b.1∧List.Perm b.2 l0F∧a.2=l0F) (fun s s' o hR hf=> ?_) big (0,l0F) (0,ms) u ⟨rfl,hp,rfl⟩ hu
 ·show Option.bind (a0s _ big (0,ms)) _=_
  rw[hL];exact hr
 obtain⟨i,a⟩:=s
 obtain⟨j,b⟩:=s'
 obtain⟨h1,h0,h2⟩:=hR
 simp only at h1 h0 h2 hf⊢
 subst h1;subst h2
 cases hc:decide (i<(x0.length:Int))with
 |false=>rw[hc]at hf;obtain rfl:=oi hf;right;exact⟨_,rfl,rfl⟩
 |true=>
  rw[hc]at hf
  simp only[cond_true]at hf⊢
  obtain⟨s4,e1,hf⟩:=a0f hf
  cases hi:inR i x0.length with
  |false=>rw[hi]at e1;cases e1
  |true=>
   rw[hi]at e1
   simp only[cond_true]at e1⊢
   obtain⟨y2,e2,e1⟩:=a0f e1
   obtain⟨t1,t2⟩:=y0k h0 e2
   rw[t1];simp only[aa]
   obtain⟨c1,q1,e1⟩:=a0f e1
   rw[q1];simp only[aa]
   cases c1 with
   |true=>obtain rfl:=oi e1;obtain rfl:=oi hf;left;exact⟨_,_,rfl,rfl,rfl,h0,t2⟩
   |false=>obtain rfl:=oi e1;obtain rfl:=oi hf;right;exact⟨_,rfl,rfl⟩
 )
def h0a(x0:List Int):Option (Bool):=
 (Option.bind (a0s (fun(s0:Int×Int)=>(bif(decide (s0.2<(x0.length:Int)))then(Option.bind (bif inR s0.2 x0.length then(Option.bind (bif(decide (8234≤(nth x0 s0.2)))then(some ((decide ((nth x0 s0.2)≤8238))))else(some false)) fun(s1:Bool)=>(bif s1 then(some (.inr (.inr (.inr false))))else(Option.bind (bif(decide (8294≤(nth x0 s0.2)))then(some ((decide ((nth x0 s0.2)≤8296))))else(some false)) fun(s2:Bool)=>(bif s2 then(some (.inl (IntKind.wrap .i64 (s0.1+1))))else(Option.bind (bif(decide ((nth x0 s0.2)=8297))then(some (decide (s0.1=0)))else(some false)) fun(s3:Bool)=>(bif s3 then(some (.inr (.inr (.inr false))))else(bif(decide ((nth x0 s0.2)=8297))then(some (.inl (IntKind.wrap .i64 (s0.1-1))))else(some (.inl s0.1)))))))))else none) (a0g fun(s4:Int)=>(some (.inl (s4,(IntKind.wrap .i64 (s0.2+1)))))))else(some (.inr (.inl s0.1))))) big (0,0)) (a0g fun(s5:Int)=>(some (decide (s5=0)))))
theorem o0L {x0:List Int} {r:Bool} (h:h0a x0=some r):SQ 95 [lR x0] [] (.bool r) []:=by
 refine kFn (fn:=Tryz.f95) (fun F H D W=> ?_)
 unfold h0a at h
 exact kq (kq (kcX h (fun(s5:Int)=>([(2, .bool false),(3,iL s5)],[])) (fun y0 hy0 h0=>kq (kb 0 (kl (fun(s0:Int×Int)=>([(2, .bool false),(3,iL s0.1),(6,lR x0),(7,iL (x0.length:Int)),(8,iL s0.2)],[])) hy0 [2,3,6,7,8] (fun s0 x601 hs0=>kq (kS (kBT 9 hs0 (fun h3=>kKN (kcX h3 (fun(s4:Int)=>([(2, .bool false),(3,iL s4),(6,lR x0),(7,iL (x0.length:Int)),(8,iL s0.2)],[])) (fun y1 hy1 h1=>kb 1 (kSR (kIb 10 (a0v .i32) hy1 (fun h6=>kr 2 (kb 2 (kcN h6 (fun(s1:Bool)=>([(2, .bool false),(3,iL s0.1),(5,iM (nth x0 s0.2)),(6,lR x0),(7,iL (x0.length:Int)),(8,iL s0.2),(12, .bool s1)],[])) (fun s1 hy2=>km 3 (kB 15 hy2 (fun h8=>ke 4 (kNo h8 [2,3,5,6,7,8,12])) (fun h9=>ke 4 (kNo h9 [2,3,5,6,7,8,12])))) (fun s1 h7=>kBT 12 h7 (fun h10=>kq (kXb (PJ.blockRet (kCx h10 h1 (fun h12=>kLx h12 (fun h13=>PJ.blockRet (kCx h13 h0 (fun h14=>by obtain rfl:=oi h14;exact kZ H D W)))))))) (fun h11=>kcN h11 (fun(s2:Bool)=>([(2, .bool false),(3,iL s0.1),(5,iM (nth x0 s0.2)),(6,lR x0),(7,iL (x0.length:Int)),(8,iL s0.2),(19, .bool s2)],[])) (fun s2 hy3=>km 3 (kB 22 hy3 (fun h16=>ke 4 (kNo h16 [2,3,5,6,7,8,19])) (fun h17=>ke 4 (kNo h17 [2,3,5,6,7,8,19])))) (fun s2 h15=>kBT 19 h15 (fun h18=>kM (PJ.blockNormal (PJ.blockNormal (kXo h18 [2,3,6,7,8])))) (fun h19=>kcN h19 (fun(s3:Bool)=>([(2, .bool false),(3,iL s0.1),(5,iM (nth x0 s0.2)),(6,lR x0),(7,iL (x0.length:Int)),(8,iL s0.2),(28, .bool s3)],[])) (fun s3 hy4=>km 3 (kB 31 hy4 (fun h21=>ke 4 (kNo h21 [2,3,5,6,7,8,28])) (fun h22=>ke 4 (kNo h22 [2,3,5,6,7,8,28])))) (fun s3 h20=>kBT 28 h20 (fun h23=>kq (kXb (PJ.blockRet (kCx h23 h1 (fun h25=>kLx h25 (fun h26=>PJ.blockRet (kCx h26 h0 (fun h27=>by obtain rfl:=oi h27;exact kZ H D W)))))))) (fun h24=>kq (kBT 35 h24 (fun h28=>kM (PJ.blockNormal (PJ.blockNormal (kXo h28 [2,3,6,7,8])))) (fun h29=>kKb (PJ.blockNormal (kXo h29 [2,3,6,7,8])))))))))))))))) (fun s4 h5=>kM (kLo h5 [2,3,6,7,8])))) (fun h4=>kEp 0 (kLx h4 (fun h30=>PJ.blockOut (kXo h30 [2,3])))))))))) (fun s5 h2=>kq (kX (by cases h2;exact kZ H D W)))))
def h0o(x0:c0n)(x1:List Int):Option (Bool):=
 (Option.bind (a0s (fun(s0:Int)=>(bif(decide (s0<(x1.length:Int)))then(Option.bind (bif inR s0 x1.length then(Option.bind (e0q (nth x1 s0)) fun y0=>(Option.bind (bif y0.2 then(some true)else(Option.bind (f0H x0 (nth x1 s0)) fun y1=>(some y1))) fun(s1:Bool)=>(bif s1 then(some (.inr (.inr (.inr false))))else(some (.inl ())))))else none) (a0g fun(s3:Unit)=>(some (.inl (IntKind.wrap .i64 (s0+1))))))else(some (.inr (.inl ()))))) big 0) (a0g fun(s4:Unit)=>(Option.bind (Option.bind (i0n x1) fun y2=>(bif y2 then(Option.bind (h0a x1) fun y3=>(some y3))else(some false))) fun(s2:Bool)=>(some s2))))
theorem n0E {x0:c0n} {x1:List Int} {r:Bool} (h:h0o x0 x1=some r):SQ 49 [.agg (a0d x0),lR x1] [] (.bool r) []:=by
 refine kFn (fn:=Tryz.f49) (fun F H D W=> ?_)
 unfold h0o at h
 exact kq (kcX h (fun(s4:Unit)=>([(1,lR x1),(4, .bool false)],[])) (fun y4 hy0 h0=>kq (kb 0 (kl (fun(s0:Int)=>([(1,lR x1),(2, .ptr 0 0),(4, .bool false),(9,lR x1),(10,iL (x1.length:Int)),(11,iL s0)],[.box (a0d x0)])) hy0 [1,2,4,9,10,11] (fun s0 x341 hs0=>kq (kS (kBT 12 hs0 (fun h2=>kKN (kcX h2 (fun(s3:Unit)=>([(1,lR x1),(2, .ptr 0 0),(4, .bool false),(9,lR x1),(10,iL (x1.length:Int)),(11,iL s0)],[.box (a0d x0)])) (fun y5 hy1 h4=>kb 1 (kSR (kIb 13 (a0v .i32) hy1 (fun h6=>kr 2 (kn 1 (kAb 17 h6 (fun _=>h0Q) (fun y0 h7=>kr 5 (kcN h7 (fun(s1:Bool)=>([(1,lR x1),(2, .ptr 0 0),(4, .bool false),(9,lR x1),(10,iL (x1.length:Int)),(11,iL s0),(25, .bool s1)],[.box (a0d x0)])) (fun s1 hy2=>km 2 (kB 21 hy2 (fun h9=>ke 4 (kNo h9 [1,2,4,9,10,11,25])) (fun h10=>kc 2 (kAb 24 h10 (fun _=>k0S) (fun y1 h11=>ke 1 (kNo h11 [1,2,4,9,10,11,25])))))) (fun s1 h8=>kBT 25 h8 (fun h12=>kq (kXb (kCx h12 h4 (fun h14=>kLx h14 (fun h15=>PJ.blockRet (kCx h15 h0 (fun h16=>by obtain rfl:=oi h16;exact kZ H D W))))))) (fun h13=>kKb (kXo h13 [1,2,4,9,10,11]))))))))))) (fun s3 h5=>kM (kLo h5 [1,2,4,9,10,11])))) (fun h3=>kEp 0 (kLx h3 (fun h17=>PJ.blockOut (kXW h17 D W [])))))))))) (fun s4 h1=>kcN h1 (fun(s2:Bool)=>([(4, .bool s2)],[])) (fun s2 hy3=>km 1 (kAb 28 hy3 (fun _=>q0e) (fun y2 h19=>kc 1 (kB 29 h19 (fun h20=>kc 1 (kAb 31 h20 (fun _=>o0L) (fun y3 h22=>ke 2 (kNo h22 [4])))) (fun h21=>ke 4 (kNo h21 [4])))))) (fun s2 h18=>kX (by cases h18;exact kZ H D W))))
def f0d(x0:c0n)(x1:l0w):Option (Bool):=
 (Option.bind (f0Y x1.a_) fun y0=>(bif room (y0.length+x1.b_.length)then(Option.bind (h0o x0 (y0++x1.b_)) fun y1=>(some y1))else none))
theorem i0V {x0:c0n} {x1:l0w} {r:Bool} (h:f0d x0 x1=some r):SQ 81 [.agg (a0d x0), .agg (d0k x1)] [] (.bool r) []:=by
 refine kFn (fn:=Tryz.f81) (fun F H D W=> ?_)
 unfold f0d at h
 refine kq (kS (kDr (kD 3 ?_)))
 obtain⟨y0,hy0,h0⟩:=a0f h
 refine RJ.callM (d:=(some 8)) (f:=119) (args:=[lR x1.a_]) (v0:= .vc 0) (v:= .vc 2) (en0:= .vec y0.length 1 21 (y0.flatMap (a0u .i32))) (tr2:=[([0,1],[]),([],[]),([2,3],[]),([],[4,5,4,5])]) (H2:=[.box (a0d x0), .box (d0k x1),a0z (a0u .i32) 1 21 y0, .res, .res]) 2 (by kernel_rfl) (by kernel_rfl) (by kernel_rfl) (by kernel_rfl) (LeL.refl _) (m0j hy0) (by kernel_rfl) (by kernel_rfl) (kD 2 ?_)
 obtain⟨hm,h1⟩:=b0y h0
 refine RJ.rel (d:=(some 11)) (ef:=⟨.vc 3,[2],[(2, .gone),(3, .vec (y0.length+x1.b_.length) 1 21 (y0.flatMap (a0u .i32)++x1.b_.flatMap (a0u .i32)))]⟩) (ef':=⟨.vc 3,[2],[(2, .gone),(3,a0z (a0u .i32) 1 21 (y0++x1.b_))]⟩) (c:=room (y0.length+x1.b_.length)) (tr2:=[([0,1],[]),([],[]),([2,3],[]),([],[4,5,4,5]),([],[]),([2,3],[]),([4,5],[4,5,6,7,6,7])]) (H2:=[.box (a0d x0), .box (d0k x1), .gone,a0z (a0u .i32) 1 21 (y0++x1.b_), .res]) (by kernel_rfl) hm (fun hc=>N.app) (by kernel_rfl) ?_
 obtain⟨y1,hy1,h2⟩:=a0f h1
 exact RJ.callL (d:=(some 12)) (f:=49) (args:=[.agg (a0d x0), .vc 3]) (args0:=[.agg (a0d x0), .vc 0]) (args1:=[.agg (a0d x0),lR (y0++x1.b_)]) (H0:=[a0z (a0u .i32) 1 21 (y0++x1.b_)]) (v:= .bool y1) (tr2:=[([0,1],[]),([],[]),([2,3],[]),([],[4,5,4,5]),([],[]),([2,3],[]),([4,5],[4,5,6,7,6,7]),([6,7],[8,9])]) [3] (by kernel_rfl) (by kernel_rfl) (by kernel_rfl) (by kernel_rfl) (by decide) (by kernel_rfl) (by kernel_rfl) (by kernel_rfl) (by kernel_rfl) (LeL.refl _) (n0E hy1) (by kernel_rfl) (by kernel_rfl) (kD 1 (kEN (kX (by cases h2;exact kZ H D W))))
def d0x(x0 x1:List Int):Option (Bool):=
 (bif(decide (¬(x0.length:Int)=(x1.length:Int)))then(some false)else(Option.bind (a0s (fun(s0:Int)=>(bif(decide (s0<(x0.length:Int)))then(bif inR s0 x0.length then(bif inR s0 x1.length then(bif(decide (¬(nth x0 s0)=(nth x1 s0)))then(some (.inr (.inr false)))else(some (.inl (IntKind.wrap .i64 (s0+1)))))else none)else none)else(some (.inr (.inl ()))))) big 0) (a0g fun(s1:Unit)=>(some true))))
theorem j0B {x0 x1:List Int} {r:Bool} (h:d0x x0 x1=some r):SQ 120 [lR x0,lR x1] [] (.bool r) []:=by
 refine kFn (fn:=Tryz.f120) (fun F H D W=> ?_)
 unfold d0x at h
 refine kq (kS (kq (kBT 10 h (fun h0=> ?_) (fun h1=> ?_))))
 ·exact kq (kX (PJ.passRet (by cases h0;exact kZ H D W)))
 ·refine kKN (kcX h1 (fun(s1:Unit)=>([(4, .bool false)],[])) (fun y0 hy0 h2=> ?_) (fun s1 h3=> ?_))
  ·refine kq (kb 0 (kl (fun(s0:Int)=>([(0,lR x0),(1,lR x1),(4, .bool false),(12,iL (x0.length:Int)),(13,iL s0)],[])) hy0 [0,1,4,12,13] (fun s0 x79 hs0=>kq (kS (kBT 14 hs0 (fun h4=> ?_) (fun h5=> ?_))))))
   ·refine kKN (kS (kb 1 (kq (kS (kDr (kD 2 ?_))))))
    obtain⟨hm,h6⟩:=b0y h4
    refine kJ 18 (tr2:=[([],[]),([],[]),([],[])]) (a0v .i32) hm (kD 3 ?_)
    obtain⟨hm,h7⟩:=b0y h6
    exact kJ 22 (tr2:=[([],[]),([],[]),([],[]),([],[]),([],[]),([],[]),([],[])]) (a0v .i32) hm (kD 2 (kEN (kBT 24 h7 (fun h8=>kq (kXp (kLx h8 (fun h10=>PJ.blockRet (kCx h10 h2 (fun h11=>by obtain rfl:=oi h11;exact kZ H D W)))))) (fun h9=>kKn (kM (kLo h9 [0,1,4,12,13]))))))
   ·exact kEp 0 (kLx h5 (fun h12=>PJ.blockOut (kXo h12 [4])))
  ·exact kq (kX (by cases h3;exact kZ H D W))
def b0Y(x0 x1:l0w):Option (Bool):=
 (Option.bind (Option.bind (d0x x0.a_ x1.a_) fun y0=>(bif y0 then(Option.bind (d0x x0.b_ x1.b_) fun y1=>(some y1))else(some false))) fun(s0:Bool)=>(some s0))
theorem b0U {x0 x1:l0w} {r:Bool} (h:b0Y x0 x1=some r):SQ 82 [.agg (d0k x0), .agg (d0k x1)] [] (.bool r) []:=by
 refine kFn (fn:=Tryz.f82) (fun F H D W=> ?_)
 unfold b0Y at h
 exact kq (kcN h (fun(s0:Bool)=>([(4, .bool s0)],[])) (fun s0 hy0=>km 4 (kAb 9 hy0 (fun _=>j0B) (fun y0 h1=>kc 1 (kB 10 h1 (fun h2=>kc 4 (kAb 15 h2 (fun _=>j0B) (fun y1 h4=>ke 2 (kNW h4 D W [])))) (fun h3=>ke 7 (kNW h3 D W [])))))) (fun s0 h0=>kX (by cases h0;exact kZ H D W)))
def d0B(x0:c0n)(x1:a0y)(x2:List Int):Option (Bool):=
 (Option.bind (d0J x0 x1 x2) fun y0=>(Option.bind (a0s (fun(s0:Int)=>(bif(decide (s0<3))then(bif(decide (s0=0))then(Option.bind (f0d x0 y0.s_) fun y1=>(bif(!y1)then(some (.inr (.inr false)))else(some (.inl (IntKind.wrap .i64 (0+1))))))else(bif(decide (s0=1))then(Option.bind (f0d x0 y0.q_) fun y2=>(bif(!y2)then(some (.inr (.inr false)))else(some (.inl (IntKind.wrap .i64 (1+1))))))else(bif(decide (s0=2))then(Option.bind (f0d x0 y0.A_) fun y3=>(bif(!y3)then(some (.inr (.inr false)))else(some (.inl (IntKind.wrap .i64 (2+1))))))else none)))else(some (.inr (.inl ()))))) big 0) (a0g fun(s2:Unit)=>(Option.bind (Option.bind (b0Y y0.s_ y0.q_) fun y4=>(bif(!y4)then(Option.bind (b0Y y0.q_ y0.A_) fun y5=>(some (!y5)))else(some false))) fun(s1:Bool)=>(some s1)))))
theorem g0i {x0:c0n} {x1:a0y} {x2:List Int} {r:Bool} (h:d0B x0 x1 x2=some r):SQ 40 [.agg (a0d x0), .agg (a0c x1),lR x2] [] (.bool r) []:=by
 refine kFn (fn:=Tryz.f40) (fun F H D W=> ?_)
 unfold d0B at h
 refine kq (kn 3 (kAb 13 h (fun _=>g0D) (fun y0 h4=>kr 2 (kcX h4 (fun(s2:Unit)=>([(6, .bool false),(7, .ptr 0 0)],[.box (d0p y0)])) (fun y6 hy0 h0=> ?_) (fun s2 h5=> ?_)))))
 ·refine kq (kb 0 (J.wk (Wk.sel (L2:=[(3, .ptr 0 0),(6, .bool false),(7, .ptr 1 0),(14, .agg (d0p y0)),(15,iL 0)]) (H2:=[.box (a0d x0), .box (d0p y0)]) 0 (by rw[D];rfl) W [0,2] (by kernel_rfl) (by kernel_rfl) (by decide) (by kernel_rfl) (by kernel_rfl) (by kernel_rfl) (by kernel_rfl)) (kl (fun(s0:Int)=>([(3, .ptr 0 0),(6, .bool false),(7, .ptr 1 0),(14, .agg (d0p y0)),(15,iL s0)],[.box (a0d x0), .box (d0p y0)])) hy0 [3,6,7,14,15] (fun s0 x165 hs0=>kq (kS (kBT 16 hs0 (fun h1=> ?_) (fun h6=> ?_)))))))
  ·refine kKN (kS (kb 1 (kSR ?_)))
   cases hb0:(decide (s0=0))
   ·have h2:=condF hb0 h1
    cases hb1:(decide (s0=1))
    ·have h3:=condF hb1 h2
     cases hb2:(decide (s0=2))
     ·have h7:=condF hb2 h3
      cases h7
     ·have h8:=condT hb2 h3
      exact RJ.pin 15 (kd:= .i64) (by kernel_rfl) (of_decide_eq_true hb2) (kr 3 (kn 2 (kAb 20 h8 (fun _=>i0V) (fun y3 h9=>kr 1 (kBT 21 h9 (fun h10=>kq (kXp (kLx h10 (fun h12=>PJ.blockRet (kCx h12 h0 (fun h13=>by obtain rfl:=oi h13;exact kZ H D W)))))) (fun h11=>kKn (kM (kLW h11 D W [0,1]))))))))
    ·have h14:=condT hb1 h2
     exact RJ.pin 15 (kd:= .i64) (by kernel_rfl) (of_decide_eq_true hb1) (kr 3 (kn 2 (kAb 20 h14 (fun _=>i0V) (fun y2 h15=>kr 1 (kBT 21 h15 (fun h16=>kq (kXp (kLx h16 (fun h18=>PJ.blockRet (kCx h18 h0 (fun h19=>by obtain rfl:=oi h19;exact kZ H D W)))))) (fun h17=>kKn (kM (kLW h17 D W [0,1]))))))))
   ·have h20:=condT hb0 h1
    exact RJ.pin 15 (kd:= .i64) (by kernel_rfl) (of_decide_eq_true hb0) (kr 3 (kn 2 (kAb 20 h20 (fun _=>i0V) (fun y1 h21=>kr 1 (kBT 21 h21 (fun h22=>kq (kXp (kLx h22 (fun h24=>PJ.blockRet (kCx h24 h0 (fun h25=>by obtain rfl:=oi h25;exact kZ H D W)))))) (fun h23=>kKn (kM (kLW h23 D W [0,1]))))))))
  ·exact kEp 0 (kLx h6 (fun h26=>PJ.blockOut (kXW h26 D W [1])))
 ·exact kcN h5 (fun(s1:Bool)=>([(6, .bool s1)],[])) (fun s1 hy1=>km 4 (kAb 27 hy1 (fun _=>b0U) (fun y4 h28=>kc 2 (kB 29 h28 (fun h29=>kc 4 (kAb 34 h29 (fun _=>b0U) (fun y5 h31=>ke 3 (kNW h31 D W [])))) (fun h30=>ke 8 (kNW h30 D W [])))))) (fun s1 h27=>kX (by cases h27;exact kZ H D W))
noncomputable def o0v(x0:Int):Option (Int):=
 (Option.bind c0I fun y1=>p0p (fun(ms4:List (a0n×Int))=>(Option.bind (a0x x0 ms4) fun y0=>(some y0.1))) y1)
theorem r0B {x0 r:Int} (h:o0v x0=some r):SQ 83 [iM x0] [] (iL r) []:=by
 refine kFn (fn:=Tryz.f83) (fun F H D W=> ?_)
 unfold o0v at h
 refine kq (kSR ?_)
 obtain⟨y1,hy0,h0⟩:=a0f h
 refine RJ.callG (d:=(some 3)) (f:=121) (args:=[]) (args0:=[]) (v0:= .mp 0) (v:= .mp 0) (tr2:=[]) (H0:=[]) (H0':=[.pmap (c0a (fun k:a0n=> .agg (a0i k)) (fun k:Int=>iL k) y1)]) (H2:=[.pmap (c0a (fun k:a0n=> .agg (a0i k)) (fun k:Int=>iL k) y1)]) [] (by kernel_rfl) (by kernel_rfl) (by kernel_rfl) (by kernel_rfl) (by decide) (by kernel_rfl) (by kernel_rfl) (by kernel_rfl) .nil (h0v hy0) (by kernel_rfl) (by kernel_rfl) ((show d0Q (b0Z []) 0 _ [.pmap (c0a (fun k:a0n=> .agg (a0i k)) (fun k:Int=>iL k) y1)]=[Ent.rn (gOf (b0Z []) 0 0) (.pmap (c0a (fun k:a0n=> .agg (a0i k)) (fun k:Int=>iL k) y1))] by kernel_rfl).trans (by simp only[p0D (ek:=(fun k:a0n=> .agg (a0i k))) (ev:=(fun k:Int=>iL k)) (fun _ _=>rfl) (fun _ _=>rfl)])) (RJ.openMap (ek:=(fun k:a0n=> .agg (a0i k))) (ev:=(fun k:Int=>iL k)) y1 0 (fun ms4=> [.map (c0a (fun k:a0n=> .agg (a0i k)) (fun k:Int=>iL k) ms4)]) (by kernel_rfl) (fun _=>by kernel_rfl) (fun ms4 hp5=> ?_))
 have h1:=p0o h0 ms4 hp5
 refine kc 1 ?_
 obtain⟨y0,hy1,h2⟩:=a0f h1
 exact RJ.callG (d:=(some 5)) (f:=122) (args:=[.mp 0,iM x0]) (args0:=[.mp 0,iM x0]) (v0:=iL y0.1) (v:=iL y0.1) (tr2:=[]) (H0:=[.map (c0a (fun k:a0n=> .agg (a0i k)) (fun k:Int=>iL k) ms4)]) (H0':=[.map (c0a (fun k:a0n=> .agg (a0i k)) (fun k:Int=>iL k) y0.2)]) (H2:=[.map (c0a (fun k:a0n=> .agg (a0i k)) (fun k:Int=>iL k) y0.2)]) [0] (by kernel_rfl) (by kernel_rfl) (by kernel_rfl) (by simp only[ah,ay,d0h (ek:=(fun k:a0n=> .agg (a0i k))) (ev:=(fun k:Int=>iL k)) (fun _ _=>rfl) (fun _ _=>rfl)];kernel_rfl) (by decide) (by simp only[az,aM,c0b (ek:=(fun k:a0n=> .agg (a0i k))) (ev:=(fun k:Int=>iL k)) (fun _ _=>rfl) (fun _ _=>rfl)];kernel_rfl) (by kernel_rfl) (by kernel_rfl) (LeL.refl _) (f0c hy1) (by kernel_rfl) (by kernel_rfl) ((show d0Q (b0Z [0]) 1 _ [.map (c0a (fun k:a0n=> .agg (a0i k)) (fun k:Int=>iL k) y0.2)]=[Ent.rn (gOf (b0Z [0]) 1 1) (.map (c0a (fun k:a0n=> .agg (a0i k)) (fun k:Int=>iL k) y0.2))] by kernel_rfl).trans (by simp only[d0h (ek:=(fun k:a0n=> .agg (a0i k))) (ev:=(fun k:Int=>iL k)) (fun _ _=>rfl) (fun _ _=>rfl)])) (kr 1 (kX (by cases h2;exact kZ H D W)))
def k0B(x0:Int):Option (Int):=
 (Option.bind c0I fun y0=>(fun(ms4:List (a0n×Int))=>(Option.bind (a0x x0 ms4) fun y1=>(some y1.1))) y0)
theorem o0u {x0 r:Int} (h:k0B x0=some r):SQ 83 [iM x0] [] (iL r) []:=r0B (by
 unfold k0B at h;unfold o0v
 obtain⟨y,hy,h⟩:=a0f h
 rw[hy];simp only[aa]
 obtain rfl:l0F=y:=oi hy
 obtain⟨y2,e0,h⟩:=a0f h
 exact r0I fun ms hp=>by
  show Option.bind (a0x x0 ms) _=_
  rw[(y0k hp e0).1];exact h
 )
def l0z(x0:c0n)(x1:Int):Option (Int×Bool):=
 (Option.bind (Option.bind (bif(decide (((IntKind.wrap .i64 ((IntKind.wrap .i64 x1)-(IntKind.wrap .i64 x0.E_))))<0))then(some true)else(some ((decide (((IntKind.wrap .i64 ((IntKind.wrap .i64 x1)-(IntKind.wrap .i64 x0.E_))))>9))))) fun(s0:Bool)=>(bif s0 then(some (.inr (0,false)))else(some (.inl ())))) (a0g fun(s1:Unit)=>(some ((IntKind.wrap .u8 ((IntKind.wrap .i64 ((IntKind.wrap .i64 x1)-(IntKind.wrap .i64 x0.E_))))),true))))
theorem q0z {x0:c0n} {x1:Int} {r:Int×Bool} (h:l0z x0 x1=some r):SQ 123 [.agg (a0d x0),iM x1] [] (.tup [.int .u8 r.1, .bool r.2]) []:=by
 refine kFn (fn:=Tryz.f123) (fun F H D W=> ?_)
 unfold l0z at h
 exact kq (kq (kcX h (fun(s1:Unit)=>([(4, .int .u8 0),(5, .bool false),(6,iL ((IntKind.wrap .i64 ((IntKind.wrap .i64 x1)-(IntKind.wrap .i64 x0.E_)))))],[])) (fun y0 hy0 h0=>kcN hy0 (fun(s0:Bool)=>([(4, .int .u8 0),(5, .bool false),(6,iL ((IntKind.wrap .i64 ((IntKind.wrap .i64 x1)-(IntKind.wrap .i64 x0.E_))))),(18, .bool s0)],[])) (fun s0 hy1=>km 3 (kB 15 hy1 (fun h3=>ke 3 (kNW h3 D W [])) (fun h4=>ke 3 (kNW h4 D W [])))) (fun s0 h2=>kBT 18 h2 (fun h5=>kq (kX (kCx h5 h0 (fun h7=>by obtain rfl:=oi h7;exact kZ H D W)))) (fun h6=>kK (kXo h6 [4,5,6])))) (fun s1 h1=>kq (kX (by cases h1;exact kZ H D W)))))
def e0W(x0:c0n)(x1:Int):Option (Bool):=
 (Option.bind (l0z x0 x1) fun y0=>(Option.bind (bif y0.2 then(some true)else(Option.bind (f0H x0 x1) fun y1=>(some y1))) fun(s0:Bool)=>(some s0)))
theorem j0A {x0:c0n} {x1:Int} {r:Bool} (h:e0W x0 x1=some r):SQ 84 [.agg (a0d x0),iM x1] [] (.bool r) []:=by
 refine kFn (fn:=Tryz.f84) (fun F H D W=> ?_)
 unfold e0W at h
 exact kq (kn 2 (kAb 10 h (fun _=>q0z) (fun y0 h0=>kr 5 (kcN h0 (fun(s0:Bool)=>([(4, .bool s0)],[])) (fun s0 hy0=>km 2 (kB 14 hy0 (fun h2=>ke 5 (kNW h2 D W [])) (fun h3=>kc 2 (kAb 17 h3 (fun _=>k0S) (fun y1 h4=>ke 2 (kNW h4 D W [])))))) (fun s0 h1=>kX (by cases h1;exact kZ H D W))))))
def f0X(x0:List Int)(x1:Int):Option (Int):=
 (Option.bind (a0s (fun(s0:Int)=>(bif(decide (s0<(x0.length:Int)))then(bif inR s0 x0.length then(bif(decide (x1=(nth x0 s0)))then(some (.inr (.inr s0)))else(some (.inl (IntKind.wrap .i64 (s0+1)))))else none)else(some (.inr (.inl ()))))) big 0) (a0g fun(s1:Unit)=>(some (-1))))
theorem n0H {x0:List Int} {x1 r:Int} (h:f0X x0 x1=some r):SQ 96 [lR x0,iM x1] [] (iL r) []:=by
 refine kFn (fn:=Tryz.f96) (fun F H D W=> ?_)
 unfold f0X at h
 exact kq (kcX h (fun(s1:Unit)=>([(4,iL 0)],[])) (fun y0 hy0 h0=>kq (kb 0 (kl (fun(s0:Int)=>([(0,lR x0),(1,iM x1),(4,iL 0),(7,iL (x0.length:Int)),(8,iL s0)],[])) hy0 [0,1,4,7,8] (fun s0 x71 hs0=>kq (kS (kBT 9 hs0 (fun h2=>kKN (kS (kb 1 (kq (kn 3 (kIb 14 (a0v .i32) h2 (fun h4=>kr 2 (kBT 16 h4 (fun h5=>kq (kXp (kLx h5 (fun h7=>PJ.blockRet (kCx h7 h0 (fun h8=>by obtain rfl:=oi h8;exact kZ H D W)))))) (fun h6=>kKn (kM (kLo h6 [0,1,4,7,8]))))))))))) (fun h3=>kEp 0 (kLx h3 (fun h9=>PJ.blockOut (kXo h9 [4])))))))))) (fun s1 h1=>kq (kX (by cases h1;exact kZ H D W))))
def a0U(x0:List Int)(x1:Int):Option (Bool):=
 (Option.bind (f0X x0 x1) fun y0=>(some (decide (y0≥0))))
theorem b0N {x0:List Int} {x1:Int} {r:Bool} (h:a0U x0 x1=some r):SQ 50 [lR x0,iM x1] [] (.bool r) []:=by
 refine kFn (fn:=Tryz.f50) (fun F H D W=> ?_)
 unfold a0U at h
 exact kq (kn 2 (kAb 7 h (fun _=>n0H) (fun y0 h0=>kr 2 (kX (by cases h0;exact kZ H D W)))))
def i0d(x0:c0n)(x1:a0y):Option (Bool):=
 (bif(decide (x1.y_=0))then(some true)else(Option.bind (k0B x1.f_) fun y1=>(Option.bind (Option.bind (bif(decide (¬y1=0))then(bif(decide (¬y1=4))then(some true)else(Option.bind (e0W x0 x1.f_) fun y2=>(some y2)))else(Option.bind (e0W x0 x1.f_) fun y3=>(some y3))) fun(s1:Bool)=>(bif s1 then(some (.inr false))else(some (.inl ())))) (a0g fun(s6:Unit)=>(Option.bind (Option.bind (d0J x0 x1 ([]:List Int)) fun y0=>(a0s (fun(s0:Int)=>(bif(decide (s0<3))then(Option.bind (bif(decide (s0=0))then(Option.bind (Option.bind (a0U y0.s_.a_ x1.f_) fun y4=>(bif y4 then(some true)else(Option.bind (a0U y0.s_.b_ x1.f_) fun y5=>(some y5)))) fun(s2:Bool)=>(bif s2 then(some (.inr (.inr (.inr false))))else(some (.inl 0))))else(bif(decide (s0=1))then(Option.bind (Option.bind (a0U y0.q_.a_ x1.f_) fun y6=>(bif y6 then(some true)else(Option.bind (a0U y0.q_.b_ x1.f_) fun y7=>(some y7)))) fun(s3:Bool)=>(bif s3 then(some (.inr (.inr (.inr false))))else(some (.inl 1))))else(bif(decide (s0=2))then(Option.bind (Option.bind (a0U y0.A_.a_ x1.f_) fun y8=>(bif y8 then(some true)else(Option.bind (a0U y0.A_.b_ x1.f_) fun y9=>(some y9)))) fun(s4:Bool)=>(bif s4 then(some (.inr (.inr (.inr false))))else(some (.inl 2))))else none))) (a0g fun(s5:Int)=>(some (.inl (IntKind.wrap .i64 (s5+1))))))else(some (.inr (.inl ()))))) big 0)) (a0g fun(s7:Unit)=>(some true)))))))
theorem p0R {x0:c0n} {x1:a0y} {r:Bool} (h:i0d x0 x1=some r):SQ 41 [.agg (a0d x0), .agg (a0c x1)] [] (.bool r) []:=by
 refine kFn (fn:=Tryz.f41) (fun F H D W=> ?_)
 unfold i0d at h
 refine kq (kS (kq (kBT 10 h (fun h4=> ?_) (fun h5=> ?_))))
 ·exact kq (kX (PJ.passRet (by cases h4;exact kZ H D W)))
 ·refine kKN (kn 2 (kAb 13 h5 (fun _=>o0u) (fun y1 h6=>kr 1 (kcX h6 (fun(s6:Unit)=>([(2, .ptr 0 0),(3, .ptr 1 0),(4, .bool false)],[.box (a0d x0), .box (a0c x1)])) (fun y10 hy1 h7=> ?_) (fun s6 h8=> ?_)))))
  ·exact kcN hy1 (fun(s1:Bool)=>([(2, .ptr 0 0),(3, .ptr 1 0),(4, .bool false),(25, .bool s1)],[.box (a0d x0), .box (a0c x1)])) (fun s1 hy2=>km 3 (kB 16 hy2 (fun h10=>kc 4 (kB 20 h10 (fun h12=>ke 5 (kNo h12 [2,3,4,25])) (fun h13=>kc 3 (kAb 24 h13 (fun _=>j0A) (fun y2 h14=>ke 1 (kNo h14 [2,3,4,25])))))) (fun h11=>kc 7 (kAb 24 h11 (fun _=>j0A) (fun y3 h15=>ke 1 (kNo h15 [2,3,4,25])))))) (fun s1 h9=>kBT 25 h9 (fun h16=>kq (kX (kCx h16 h7 (fun h18=>by obtain rfl:=oi h18;exact kZ H D W)))) (fun h17=>kK (kXo h17 [2,3,4])))
  ·refine kcX h8 (fun(s7:Unit)=>([(4, .bool false)],[])) (fun y11 hy3 h0=> ?_) (fun s7 h19=> ?_)
   ·refine kn 2 ?_
    obtain⟨y0,hy4,h20⟩:=a0f hy3
    refine RJ.call0 (d:=(some 28)) (f:=80) (args:=[.agg (a0d x0), .agg (a0c x1), .nl]) (v:= .agg (d0p y0)) (tr2:=[]) (by kernel_rfl) (by kernel_rfl) (.cons (Le.refl _) (.cons (Le.refl _) (.cons (Le.nl _) .nil))) (g0D hy4) (by kernel_rfl) (kr 1 (kb 0 (J.wk (Wk.sel (L2:=[(3, .ptr 0 0),(4, .bool false),(28, .agg (d0p y0)),(29,iL 0)]) (H2:=[.box (a0c x1)]) 0 (by rw[D];rfl) W [1] (by kernel_rfl) (by kernel_rfl) (by decide) (by kernel_rfl) (by kernel_rfl) (by kernel_rfl) (by kernel_rfl)) (kl (fun(s0:Int)=>([(3, .ptr 0 0),(4, .bool false),(28, .agg (d0p y0)),(29,iL s0)],[.box (a0c x1)])) h20 [3,4,28,29] (fun s0 x858 hs0=>kq (kS (kBT 30 hs0 (fun h21=> ?_) (fun h22=> ?_))))))))
    ·refine kKN (kcX h21 (fun(s5:Int)=>([(3, .ptr 0 0),(4, .bool false),(28, .agg (d0p y0)),(29,iL s5)],[.box (a0c x1)])) (fun y12 hy0 h1=> ?_) (fun s5 h23=> ?_))
     ·refine kb 1 (kSR ?_)
      cases hb0:(decide (s0=0))
      ·have h2:=condF hb0 hy0
       cases hb1:(decide (s0=1))
       ·have h3:=condF hb1 h2
        cases hb2:(decide (s0=2))
        ·have h24:=condF hb2 h3
         cases h24
        ·have h25:=condT hb2 h3
         exact RJ.pin 29 (kd:= .i64) (by kernel_rfl) (of_decide_eq_true hb2) (kr 3 (kcN h25 (fun(s4:Bool)=>([(3, .ptr 0 0),(4, .bool false),(28, .agg (d0p y0)),(29,iL 2),(43, .bool s4)],[.box (a0c x1)])) (fun s4 hy5=>km 4 (kAb 36 hy5 (fun _=>b0N) (fun y8 h27=>kc 1 (kB 37 h27 (fun h28=>ke 6 (kNW h28 D W [0])) (fun h29=>kc 4 (kAb 42 h29 (fun _=>b0N) (fun y9 h30=>ke 1 (kNW h30 D W [0])))))))) (fun s4 h26=>kBT 43 h26 (fun h31=>kq (kXb (kCx h31 h1 (fun h33=>kLx h33 (fun h34=>PJ.blockRet (kCx h34 h0 (fun h35=>by obtain rfl:=oi h35;exact kZ H D W))))))) (fun h32=>kKb (kXo h32 [3,4,28,29])))))
       ·have h36:=condT hb1 h2
        exact RJ.pin 29 (kd:= .i64) (by kernel_rfl) (of_decide_eq_true hb1) (kr 3 (kcN h36 (fun(s3:Bool)=>([(3, .ptr 0 0),(4, .bool false),(28, .agg (d0p y0)),(29,iL 1),(43, .bool s3)],[.box (a0c x1)])) (fun s3 hy6=>km 4 (kAb 36 hy6 (fun _=>b0N) (fun y6 h38=>kc 1 (kB 37 h38 (fun h39=>ke 6 (kNW h39 D W [0])) (fun h40=>kc 4 (kAb 42 h40 (fun _=>b0N) (fun y7 h41=>ke 1 (kNW h41 D W [0])))))))) (fun s3 h37=>kBT 43 h37 (fun h42=>kq (kXb (kCx h42 h1 (fun h44=>kLx h44 (fun h45=>PJ.blockRet (kCx h45 h0 (fun h46=>by obtain rfl:=oi h46;exact kZ H D W))))))) (fun h43=>kKb (kXo h43 [3,4,28,29])))))
      ·have h47:=condT hb0 hy0
       exact RJ.pin 29 (kd:= .i64) (by kernel_rfl) (of_decide_eq_true hb0) (kr 3 (kcN h47 (fun(s2:Bool)=>([(3, .ptr 0 0),(4, .bool false),(28, .agg (d0p y0)),(29,iL 0),(43, .bool s2)],[.box (a0c x1)])) (fun s2 hy7=>km 4 (kAb 36 hy7 (fun _=>b0N) (fun y4 h49=>kc 1 (kB 37 h49 (fun h50=>ke 6 (kNW h50 D W [0])) (fun h51=>kc 4 (kAb 42 h51 (fun _=>b0N) (fun y5 h52=>ke 1 (kNW h52 D W [0])))))))) (fun s2 h48=>kBT 43 h48 (fun h53=>kq (kXb (kCx h53 h1 (fun h55=>kLx h55 (fun h56=>PJ.blockRet (kCx h56 h0 (fun h57=>by obtain rfl:=oi h57;exact kZ H D W))))))) (fun h54=>kKb (kXo h54 [3,4,28,29])))))
     ·exact kM (kLo h23 [3,4,28,29])
    ·exact kEp 0 (kLx h22 (fun h58=>PJ.blockOut (kXW h58 D W [])))
   ·exact kq (kX (by cases h19;exact kZ H D W))
def c0g(x0:c0n)(x1:Int)(x2:List UInt8):Option (a0y×Bool):=
 (Option.bind (h0q x2) fun y0=>(Option.bind (Option.bind (bif(!y0.2)then(some true)else(bif(decide (x1<0))then(some true)else(some (decide (x1>3))))) fun(s0:Bool)=>(bif s0 then(some (.inr ((⟨([]:List a0b),([]:List a0b),([]:List a0b),([]:List a0b),false,0,0,0,0,0,0,0,0,0,false,0,0⟩:a0y),false)))else(some (.inl ())))) (a0g fun(s3:Unit)=>(Option.bind (Option.bind (Option.bind (g0b y0.1 x1) fun y2=>(bif(!y2)then(some true)else(Option.bind (f0N y0.1.a_ y0.1.b_ x1 0) fun y3=>(bif(!y3)then(some true)else(bif y0.1.D_ then(Option.bind (f0N y0.1.i_ y0.1.h_ x1 1) fun y4=>(some (!y4)))else(some false)))))) fun(s1:Bool)=>(bif s1 then(some (.inr ((⟨([]:List a0b),([]:List a0b),([]:List a0b),([]:List a0b),false,0,0,0,0,0,0,0,0,0,false,0,0⟩:a0y),false)))else(some (.inl ())))) (a0g fun(s4:Unit)=>(Option.bind (Option.bind (Option.bind (d0B x0 y0.1 ([]:List Int)) fun y1=>(bif(!y1)then(some true)else(Option.bind (i0d x0 y0.1) fun y5=>(some (!y5))))) fun(s2:Bool)=>(bif s2 then(some (.inr ((⟨([]:List a0b),([]:List a0b),([]:List a0b),([]:List a0b),false,0,0,0,0,0,0,0,0,0,false,0,0⟩:a0y),false)))else(some (.inl ())))) (a0g fun(s5:Unit)=>(some (y0.1,true)))))))))
theorem c0o {x0:c0n} {x1:Int} {x2:List UInt8} {r:a0y×Bool} (h:c0g x0 x1 x2=some r):SQ 11 [.agg (a0d x0),iL x1, .str x2] [] (.tup [.agg (a0c r.1), .bool r.2]) []:=by
 refine kFn (fn:=Tryz.f11) (fun F H D W=> ?_)
 unfold c0g at h
 refine kq (kn 1 (kAb 12 h (fun _=>o0e) (fun y0 h0=>kr 6 (kcX h0 (fun(s3:Unit)=>([(1,iL x1),(3, .ptr 0 0),(6, .ptr 1 0),(7, .bool false),(8, .ptr 2 0)],[.box (a0d x0), .box [.nl, .nl, .nl, .nl, .bool false,iL 0,iL 0,iL 0,iL 0,iL 0,iL 0,iL 0,iL 0,iL 0, .bool false,iM 0,iL 0], .box (a0c y0.1)])) (fun y6 hy0 h1=> ?_) (fun s3 h2=> ?_)))))
 ·exact kcN hy0 (fun(s0:Bool)=>([(1,iL x1),(3, .ptr 0 0),(6, .ptr 1 0),(7, .bool false),(8, .ptr 2 0),(24, .bool s0)],[.box (a0d x0), .box [.nl, .nl, .nl, .nl, .bool false,iL 0,iL 0,iL 0,iL 0,iL 0,iL 0,iL 0,iL 0,iL 0, .bool false,iM 0,iL 0], .box (a0c y0.1)])) (fun s0 hy1=>km 3 (kB 17 hy1 (fun h4=>ke 7 (kNo h4 [1,3,6,7,8,24])) (fun h5=>kc 4 (kB 21 h5 (fun h6=>ke 3 (kNo h6 [1,3,6,7,8,24])) (fun h7=>ke 3 (kNo h7 [1,3,6,7,8,24])))))) (fun s0 h3=>kBT 24 h3 (fun h8=>kq (kX (kCx h8 h1 (fun h10=>by obtain rfl:=oi h10;exact PJ.res (v1:= .tup [zQ, .bool false]) (Le.tup (.cons (Le.agg (.cons (Le.nl _) (.cons (Le.nl _) (.cons (Le.nl _) (.cons (Le.nl _) (LeL.refl _)))))) (LeL.refl _))) (kZ H D W))))) (fun h9=>kK (kXo h9 [1,3,6,7,8])))
 ·refine kcX h2 (fun(s4:Unit)=>([(3, .ptr 0 0),(6, .ptr 1 0),(7, .bool false),(8, .ptr 2 0)],[.box (a0d x0), .box [.nl, .nl, .nl, .nl, .bool false,iL 0,iL 0,iL 0,iL 0,iL 0,iL 0,iL 0,iL 0,iL 0, .bool false,iM 0,iL 0], .box (a0c y0.1)])) (fun y7 hy2 h11=> ?_) (fun s4 h12=> ?_)
  ·exact kcN hy2 (fun(s1:Bool)=>([(3, .ptr 0 0),(6, .ptr 1 0),(7, .bool false),(8, .ptr 2 0),(51, .bool s1)],[.box (a0d x0), .box [.nl, .nl, .nl, .nl, .bool false,iL 0,iL 0,iL 0,iL 0,iL 0,iL 0,iL 0,iL 0,iL 0, .bool false,iM 0,iL 0], .box (a0c y0.1)])) (fun s1 hy3=>km 2 (kAb 28 hy3 (fun _=>o0f) (fun y2 h14=>kc 2 (kB 30 h14 (fun h15=>ke 21 (kNo h15 [3,6,7,8,51])) (fun h16=>kc 5 (kAb 36 h16 (fun _=>i0F) (fun y3 h17=>kc 3 (kB 39 h17 (fun h18=>ke 12 (kNo h18 [3,6,7,8,51])) (fun h19=>kc 3 (kB 42 h19 (fun h20=>kc 5 (kAb 48 h20 (fun _=>i0F) (fun y4 h22=>ke 3 (kNo h22 [3,6,7,8,51])))) (fun h21=>ke 9 (kNo h21 [3,6,7,8,51])))))))))))) (fun s1 h13=>kBT 51 h13 (fun h23=>kq (kX (kCx h23 h11 (fun h25=>by obtain rfl:=oi h25;exact PJ.res (v1:= .tup [zQ, .bool false]) (Le.tup (.cons (Le.agg (.cons (Le.nl _) (.cons (Le.nl _) (.cons (Le.nl _) (.cons (Le.nl _) (LeL.refl _)))))) (LeL.refl _))) (kZ H D W))))) (fun h24=>kK (kXo h24 [3,6,7,8])))
  ·refine kcX h12 (fun(s5:Unit)=>([(6, .ptr 0 0),(7, .bool false),(8, .ptr 1 0)],[.box [.nl, .nl, .nl, .nl, .bool false,iL 0,iL 0,iL 0,iL 0,iL 0,iL 0,iL 0,iL 0,iL 0, .bool false,iM 0,iL 0], .box (a0c y0.1)])) (fun y8 hy4 h26=> ?_) (fun s5 h27=> ?_)
   ·refine kcN hy4 (fun(s2:Bool)=>([(6, .ptr 0 0),(7, .bool false),(8, .ptr 1 0),(62, .bool s2)],[.box [.nl, .nl, .nl, .nl, .bool false,iL 0,iL 0,iL 0,iL 0,iL 0,iL 0,iL 0,iL 0,iL 0, .bool false,iM 0,iL 0], .box (a0c y0.1)])) (fun s2 hy5=> ?_) (fun s2 h28=> ?_)
    ·refine km 2 ?_
     obtain⟨y1,hy6,h29⟩:=a0f hy5
     exact RJ.call0 (d:=(some 55)) (f:=40) (args:=[.agg (a0d x0), .agg (a0c y0.1), .nl]) (v:= .bool y1) (tr2:=[]) (by kernel_rfl) (by kernel_rfl) (.cons (Le.refl _) (.cons (Le.refl _) (.cons (Le.nl _) .nil))) (g0i hy6) (by kernel_rfl) (kc 2 (kB 57 h29 (fun h30=>ke 5 (kNW h30 D W [1,2])) (fun h31=>kc 2 (kAb 60 h31 (fun _=>p0R) (fun y5 h32=>ke 2 (kNW h32 D W [1,2]))))))
    ·exact kBT 62 h28 (fun h33=>kq (kX (kCx h33 h26 (fun h35=>by obtain rfl:=oi h35;exact PJ.res (v1:= .tup [zQ, .bool false]) (Le.tup (.cons (Le.agg (.cons (Le.nl _) (.cons (Le.nl _) (.cons (Le.nl _) (.cons (Le.nl _) (LeL.refl _)))))) (LeL.refl _))) (kZ H D W))))) (fun h34=>kK (kXo h34 [6,7,8]))
   ·exact kq (kX (by cases h27;exact kZ H D W))
structure B0c where
 s_:List UInt8
 q_:List UInt8
 A_:List UInt8
 N_:List UInt8
 deriving Inhabited,DecidableEq
def w0A(x:B0c):List SV:=[.str x.s_, .str x.q_, .str x.A_, .str x.N_]
theorem z0N(x:B0c):(w0A x).length=4:=rfl
structure t0R where
 Q_:Int
 O_:List UInt8
 deriving Inhabited,DecidableEq
def f0w(x:t0R):List SV:=[.int .i64 x.Q_, .str x.O_]
theorem l0m(x:t0R):(f0w x).length=2:=rfl
structure u0N where
 ag_:List UInt8
 M_:List UInt8
 ah_:Int
 deriving Inhabited,DecidableEq
def f0x(x:u0N):List SV:=[.str x.ag_, .str x.M_, .int .i64 x.ah_]
theorem l0n(x:u0N):(f0x x).length=3:=rfl
structure w0X where
 W_:List UInt8
 S_:c0n
 J_:B0c
 X_:List t0R
 F_:List u0N
 o_:List m0i
 deriving Inhabited,DecidableEq
def d0l(x:w0X):List SV:=[.str x.W_, .int .i32 x.S_.E_, .int .i32 x.S_.B_, .int .i32 x.S_.z_, .int .i32 x.S_.w_, .int .i32 x.S_.v_, .int .i32 x.S_.u_, .int .i32 x.S_.d_, .str x.J_.s_, .str x.J_.q_, .str x.J_.A_, .str x.J_.N_,lsv f0w 2 x.X_,lsv f0x 3 x.F_,lsv b0b 3 x.o_]
theorem z0M(x:w0X):(d0l x).length=15:=rfl
def d0b:Option (w0X):=
 (Option.bind d0c fun y0=>(some (⟨([101,110]:List UInt8),y0,(⟨([35,44,35,35,48,46,35,35,35]:List UInt8),([35,44,35,35,48,37]:List UInt8),([48,46,35,35,35,69,48]:List UInt8),([194,164,35,44,35,35,48,46,48,48]:List UInt8)⟩:B0c),([(⟨2,([105,32,61,32,49,32,97,110,100,32,118,32,61,32,48]:List UInt8)⟩:t0R)]:List t0R),([(⟨([85,83,68]:List UInt8),([36]:List UInt8),2⟩:u0N)]:List u0N),([(⟨4,0,([48,75]:List UInt8)⟩:m0i),(⟨5,0,([48,48,75]:List UInt8)⟩:m0i)]:List m0i)⟩:w0X)))
theorem e0o {r:w0X} (h:d0b=some r):SQ 33 [] [] (.agg (d0l r)) []:=by
 refine kFn (fn:=Tryz.f33) (fun F H D W=> ?_)
 unfold d0b at h
 exact kq (kSR (kAb 1 h (fun _=>e0p) (fun y0 h0=>kr 10 (kX (by obtain rfl:=oi h0;exact PJ.wk (Wk.freeze 1 (n:=(([(⟨2,([105,32,61,32,49,32,97,110,100,32,118,32,61,32,48]:List UInt8)⟩:t0R)]:List t0R)).length) (k:=2) (e:=92) (cs:=(([(⟨2,([105,32,61,32,49,32,97,110,100,32,118,32,61,32,48]:List UInt8)⟩:t0R)]:List t0R)).flatMap f0w) (by kernel_rfl)) (PJ.wk (Wk.freeze 2 (n:=(([(⟨([85,83,68]:List UInt8),([36]:List UInt8),2⟩:u0N)]:List u0N)).length) (k:=3) (e:=59) (cs:=(([(⟨([85,83,68]:List UInt8),([36]:List UInt8),2⟩:u0N)]:List u0N)).flatMap f0x) (by kernel_rfl)) (PJ.wk (Wk.freeze 3 (n:=(([(⟨4,0,([48,75]:List UInt8)⟩:m0i),(⟨5,0,([48,48,75]:List UInt8)⟩:m0i)]:List m0i)).length) (k:=3) (e:=26) (cs:=(([(⟨4,0,([48,75]:List UInt8)⟩:m0i),(⟨5,0,([48,48,75]:List UInt8)⟩:m0i)]:List m0i)).flatMap b0b) (by kernel_rfl)) (kZ H D W))))))))
structure o0B where
 c_:w0X
 deriving Inhabited,DecidableEq
def b0w(x:o0B):List SV:=[.str x.c_.W_, .int .i32 x.c_.S_.E_, .int .i32 x.c_.S_.B_, .int .i32 x.c_.S_.z_, .int .i32 x.c_.S_.w_, .int .i32 x.c_.S_.v_, .int .i32 x.c_.S_.u_, .int .i32 x.c_.S_.d_, .str x.c_.J_.s_, .str x.c_.J_.q_, .str x.c_.J_.A_, .str x.c_.J_.N_,lsv f0w 2 x.c_.X_,lsv f0x 3 x.c_.F_,lsv b0b 3 x.c_.o_]
theorem z0K(x:o0B):(b0w x).length=15:=rfl
def f0O(x0:Int):Option (Bool):=
 (Option.bind (bif(decide (65≤x0))then(some (decide (x0≤90)))else(some false)) fun(s0:Bool)=>(some s0))
theorem h0L {x0:Int} {r:Bool} (h:f0O x0=some r):SQ 91 [.int .u8 x0] [] (.bool r) []:=by
 refine kFn (fn:=Tryz.f91) (fun F H D W=> ?_)
 unfold f0O at h
 exact kq (kcN h (fun(s0:Bool)=>([(2, .bool s0)],[])) (fun s0 hy0=>km 3 (kB 5 hy0 (fun h1=>ke 4 (kNo h1 [2])) (fun h2=>ke 4 (kNo h2 [2])))) (fun s0 h0=>kX (by cases h0;exact kZ H D W)))
def g0J(x0:Int):Option (Bool):=
 (Option.bind (bif(decide (97≤x0))then(bif(decide (x0≤122))then(some true)else(Option.bind (f0O x0) fun y0=>(some y0)))else(Option.bind (f0O x0) fun y1=>(some y1))) fun(s0:Bool)=>(some s0))
theorem p0S {x0:Int} {r:Bool} (h:g0J x0=some r):SQ 48 [.int .u8 x0] [] (.bool r) []:=by
 refine kFn (fn:=Tryz.f48) (fun F H D W=> ?_)
 unfold g0J at h
 exact kq (kcN h (fun(s0:Bool)=>([(2, .bool s0)],[])) (fun s0 hy0=>km 3 (kB 5 hy0 (fun h1=>kc 4 (kB 9 h1 (fun h3=>ke 4 (kNo h3 [2])) (fun h4=>kc 1 (kAb 11 h4 (fun _=>h0L) (fun y0 h5=>ke 2 (kNo h5 [2])))))) (fun h2=>kc 5 (kAb 11 h2 (fun _=>h0L) (fun y1 h6=>ke 2 (kNo h6 [2])))))) (fun s0 h0=>kX (by cases h0;exact kZ H D W)))
def l0j(x0:List UInt8):Option (Bool):=
 (Option.bind (Option.bind (bif(decide ((x0.length:Int)=0))then(some true)else(some ((decide ((x0.length:Int)>20))))) fun(s1:Bool)=>(bif s1 then(some (.inr false))else(some (.inl ())))) (a0g fun(s3:Unit)=>(Option.bind (a0s (fun(s0:Int)=>(bif(decide (s0<((a0N x0).length:Int)))then(Option.bind (bif inR s0 (a0N x0).length then(Option.bind (Option.bind (g0J (nth (a0N x0) s0)) fun y0=>(bif(!y0)then(bif(decide (¬(nth (a0N x0) s0)=45))then(bif(decide ((nth (a0N x0) s0)<48))then(some true)else(some ((decide ((nth (a0N x0) s0)>57)))))else(some false))else(some false))) fun(s2:Bool)=>(bif s2 then(some (.inr (.inr (.inr false))))else(some (.inl ()))))else none) (a0g fun(s4:Unit)=>(some (.inl (IntKind.wrap .i64 (s0+1))))))else(some (.inr (.inl ()))))) big 0) (a0g fun(s5:Unit)=>(some true)))))
theorem m0y {x0:List UInt8} {r:Bool} (h:l0j x0=some r):SQ 16 [.str x0] [] (.bool r) []:=by
 refine kFn (fn:=Tryz.f16) (fun F H D W=> ?_)
 unfold l0j at h
 exact kq (kcX h (fun(s3:Unit)=>([(0, .str x0),(2, .bool false)],[])) (fun y1 hy0 h0=>kcN hy0 (fun(s1:Bool)=>([(0, .str x0),(2, .bool false),(12, .bool s1)],[])) (fun s1 hy1=>km 4 (kB 8 hy1 (fun h3=>ke 4 (kNo h3 [0,2,12])) (fun h4=>ke 4 (kNo h4 [0,2,12])))) (fun s1 h2=>kBT 12 h2 (fun h5=>kq (kX (kCx h5 h0 (fun h7=>by obtain rfl:=oi h7;exact kZ H D W)))) (fun h6=>kK (kXo h6 [0,2])))) (fun s3 h1=>kcX h1 (fun(s5:Unit)=>([(2, .bool false)],[])) (fun y2 hy2 h8=>kn 1 (RJ.rel (d:=(some 14)) (ef:=⟨.lst x0.length 1 (x0.map h0c),[],[]⟩) (ef':=⟨lB (a0N x0),[],[]⟩) (c:=true) (tr2:=[]) (H2:=[]) (by kernel_rfl) rfl (fun hc=>N.toBytes) (by kernel_rfl) (kr 2 (kb 0 (kl (fun(s0:Int)=>([(2, .bool false),(14,lB (a0N x0)),(15,iL ((a0N x0).length:Int)),(16,iL s0)],[])) hy2 [2,14,15,16] (fun s0 x466 hs0=>kq (kS (kBT 17 hs0 (fun h10=>kKN (kcX h10 (fun(s4:Unit)=>([(2, .bool false),(14,lB (a0N x0)),(15,iL ((a0N x0).length:Int)),(16,iL s0)],[])) (fun y3 hy3 h12=>kb 1 (kSR (kIb 18 (a0v .u8) hy3 (fun h14=>kr 2 (kcN h14 (fun(s2:Bool)=>([(2, .bool false),(14,lB (a0N x0)),(15,iL ((a0N x0).length:Int)),(16,iL s0),(34, .bool s2)],[])) (fun s2 hy4=>km 1 (kAb 21 hy4 (fun _=>p0S) (fun y0 h16=>kc 2 (kB 23 h16 (fun h17=>kc 4 (kB 27 h17 (fun h19=>kc 3 (kB 30 h19 (fun h21=>ke 4 (kNo h21 [2,14,15,16,34])) (fun h22=>ke 4 (kNo h22 [2,14,15,16,34])))) (fun h20=>ke 7 (kNo h20 [2,14,15,16,34])))) (fun h18=>ke 11 (kNo h18 [2,14,15,16,34])))))) (fun s2 h15=>kBT 34 h15 (fun h23=>kq (kXb (kCx h23 h12 (fun h25=>kLx h25 (fun h26=>PJ.blockRet (kCx h26 h8 (fun h27=>by obtain rfl:=oi h27;exact kZ H D W))))))) (fun h24=>kKb (kXo h24 [2,14,15,16])))))))) (fun s4 h13=>kM (kLo h13 [2,14,15,16])))) (fun h11=>kEp 0 (kLx h11 (fun h28=>PJ.blockOut (kXo h28 [2])))))))))))) (fun s5 h9=>kq (kX (by cases h9;exact kZ H D W)))))
def g0j(x0:o0B):Option (Int×Bool):=
 (Option.bind (l0j x0.c_.W_) fun y0=>(some (0,y0)))
theorem l0i {x0:o0B} {r:Int×Bool} (h:g0j x0=some r):SQ 52 [.agg (b0w x0)] [] (.tup [iL r.1, .bool r.2]) []:=by
 refine kFn (fn:=Tryz.f52) (fun F H D W=> ?_)
 unfold g0j at h
 exact kq (kn 3 (kAb 7 h (fun _=>m0y) (fun y0 h0=>kr 2 (kX (by cases h0;exact kZ H D W)))))
def m0E(x0:Int):Option (Bool):=
 (Option.bind (e0q x0) fun y0=>(Option.bind (bif y0.2 then(some ())else none) fun(s0:Unit)=>(some (decide (y0.1=0)))))
theorem q0d {x0:Int} {r:Bool} (h:m0E x0=some r):SQ 128 [iM x0] [] (.bool r) []:=by
 refine kFn (fn:=Tryz.f128) (fun F H D W=> ?_)
 unfold m0E at h
 exact kq (kn 1 (kAb 7 h (fun _=>h0Q) (fun y0 h0=>kr 5 (kcN h0 (fun(s0:Unit)=>([(2, .bool (decide (y0.1=0)))],[])) (fun s0 hy0=>km 2 (cFR 11 hy0 (fun h2=>ke 4 (kNo h2 [2])))) (fun s0 h1=>kX (by cases h1;exact kZ H D W))))))
def j0z(x0:c0n):Option ((List (Int×Int))):=
 (Option.bind (a0s (fun(s0:Int×(List (Int×Int)))=>(bif(decide (s0.1<6))then(bif(decide (s0.1=0))then(some (.inl ((IntKind.wrap .i64 (0+1)),(r0K ((IntKind.wrap .i64 ((((f0z (fun a b:Int=>a==b) s0.2 x0.B_).getD 0))+1))) x0.B_ s0.2))))else(bif(decide (s0.1=1))then(some (.inl ((IntKind.wrap .i64 (1+1)),(r0K ((IntKind.wrap .i64 ((((f0z (fun a b:Int=>a==b) s0.2 x0.z_).getD 0))+1))) x0.z_ s0.2))))else(bif(decide (s0.1=2))then(some (.inl ((IntKind.wrap .i64 (2+1)),(r0K ((IntKind.wrap .i64 ((((f0z (fun a b:Int=>a==b) s0.2 x0.w_).getD 0))+1))) x0.w_ s0.2))))else(bif(decide (s0.1=3))then(some (.inl ((IntKind.wrap .i64 (3+1)),(r0K ((IntKind.wrap .i64 ((((f0z (fun a b:Int=>a==b) s0.2 x0.v_).getD 0))+1))) x0.v_ s0.2))))else(bif(decide (s0.1=4))then(some (.inl ((IntKind.wrap .i64 (4+1)),(r0K ((IntKind.wrap .i64 ((((f0z (fun a b:Int=>a==b) s0.2 x0.u_).getD 0))+1))) x0.u_ s0.2))))else(bif(decide (s0.1=5))then(some (.inl ((IntKind.wrap .i64 (5+1)),(r0K ((IntKind.wrap .i64 ((((f0z (fun a b:Int=>a==b) s0.2 x0.d_).getD 0))+1))) x0.d_ s0.2))))else none))))))else(some (.inr s0.2)))) big (0,([]:List (Int×Int)))) fun(s1:(List (Int×Int)))=>(some s1))
theorem n0D {x0:c0n} {r:(List (Int×Int))} (h:j0z x0=some r):SQ 129 [.agg (a0d x0)] [] (.mp 0) [.map (c0a (fun k:Int=>iM k) (fun k:Int=>iL k) r)]:=by
 refine kFn (fn:=Tryz.f129) (fun F H D W=> ?_)
 unfold j0z at h
 refine kq (kq (kcN h (fun(s1:(List (Int×Int)))=>([(3, .mp 0)],[.map (c0a (fun k:Int=>iM k) (fun k:Int=>iL k) s1)])) (fun s1 hy0=> ?_) (fun s1 h6=> ?_)))
 ·refine kq (kb 0 (J.wk (Wk.sel (L2:=[(3, .mp 0),(19, .agg [iM x0.B_,iM x0.z_,iM x0.w_,iM x0.v_,iM x0.u_,iM x0.d_]),(20,iL 0)]) (H2:=[.map (c0a (fun k:Int=>iM k) (fun k:Int=>iL k) ([]:List (Int×Int)))]) 0 (by rw[D];rfl) W [1] (by kernel_rfl) (by simp only[ah,ay,d0h (ek:=(fun k:Int=>iM k)) (ev:=(fun k:Int=>iL k)) (fun _ _=>rfl) (fun _ _=>rfl)];kernel_rfl) (by decide) (by simp only[az,aM,c0b (ek:=(fun k:Int=>iM k)) (ev:=(fun k:Int=>iL k)) (fun _ _=>rfl) (fun _ _=>rfl)];kernel_rfl) (by kernel_rfl) (by kernel_rfl) (by kernel_rfl)) (kl (fun(s0:Int×(List (Int×Int)))=>([(3, .mp 0),(19, .agg [iM x0.B_,iM x0.z_,iM x0.w_,iM x0.v_,iM x0.u_,iM x0.d_]),(20,iL s0.1)],[.map (c0a (fun k:Int=>iM k) (fun k:Int=>iL k) s0.2)])) hy0 [3,19,20] (fun s0 x90 hs0=>kq (kS (kBT 21 hs0 (fun h0=> ?_) (fun h7=> ?_)))))))
  ·refine kKN (kS (kb 1 (kSR ?_)))
   cases hb0:(decide (s0.1=0))
   ·have h1:=condF hb0 h0
    cases hb1:(decide (s0.1=1))
    ·have h2:=condF hb1 h1
     cases hb2:(decide (s0.1=2))
     ·have h3:=condF hb2 h2
      cases hb3:(decide (s0.1=3))
      ·have h4:=condF hb3 h3
       cases hb4:(decide (s0.1=4))
       ·have h5:=condF hb4 h4
        cases hb5:(decide (s0.1=5))
        ·have h8:=condF hb5 h5
         cases h8
        ·have h9:=condT hb5 h5
         exact RJ.pin 20 (kd:= .i64) (by kernel_rfl) (of_decide_eq_true hb5) (kr 2 (km 2 (RJ.lookK (d:=(some 25)) (i:=0) (ok:=false) (tr2:=[]) .i32 (fun k:Int=>iL k) s0.2 x0.d_ (0:Int) (by kernel_rfl) (kc 1 (RJ.setK (d:=none) (i:=0) (sv:=iL ((IntKind.wrap .i64 ((((f0z (fun a b:Int=>a==b) s0.2 x0.d_).getD 0))+1)))) (tr2:=[]) (H2:=[.map (c0a (fun k:Int=>iM k) (fun k:Int=>iL k) ((r0K ((IntKind.wrap .i64 ((((f0z (fun a b:Int=>a==b) s0.2 x0.d_).getD 0))+1))) x0.d_ s0.2)))]) .i32 (fun k:Int=>iL k) s0.2 x0.d_ ((IntKind.wrap .i64 ((((f0z (fun a b:Int=>a==b) s0.2 x0.d_).getD 0))+1))) (by kernel_rfl) rfl (by kernel_rfl) (kE (PJ.blockNormal (PJ.next (kM (kLo h9 [3,19,20]))))))))))
       ·have h10:=condT hb4 h4
        exact RJ.pin 20 (kd:= .i64) (by kernel_rfl) (of_decide_eq_true hb4) (kr 2 (km 2 (RJ.lookK (d:=(some 25)) (i:=0) (ok:=false) (tr2:=[]) .i32 (fun k:Int=>iL k) s0.2 x0.u_ (0:Int) (by kernel_rfl) (kc 1 (RJ.setK (d:=none) (i:=0) (sv:=iL ((IntKind.wrap .i64 ((((f0z (fun a b:Int=>a==b) s0.2 x0.u_).getD 0))+1)))) (tr2:=[]) (H2:=[.map (c0a (fun k:Int=>iM k) (fun k:Int=>iL k) ((r0K ((IntKind.wrap .i64 ((((f0z (fun a b:Int=>a==b) s0.2 x0.u_).getD 0))+1))) x0.u_ s0.2)))]) .i32 (fun k:Int=>iL k) s0.2 x0.u_ ((IntKind.wrap .i64 ((((f0z (fun a b:Int=>a==b) s0.2 x0.u_).getD 0))+1))) (by kernel_rfl) rfl (by kernel_rfl) (kE (PJ.blockNormal (PJ.next (kM (kLo h10 [3,19,20]))))))))))
      ·have h11:=condT hb3 h3
       exact RJ.pin 20 (kd:= .i64) (by kernel_rfl) (of_decide_eq_true hb3) (kr 2 (km 2 (RJ.lookK (d:=(some 25)) (i:=0) (ok:=false) (tr2:=[]) .i32 (fun k:Int=>iL k) s0.2 x0.v_ (0:Int) (by kernel_rfl) (kc 1 (RJ.setK (d:=none) (i:=0) (sv:=iL ((IntKind.wrap .i64 ((((f0z (fun a b:Int=>a==b) s0.2 x0.v_).getD 0))+1)))) (tr2:=[]) (H2:=[.map (c0a (fun k:Int=>iM k) (fun k:Int=>iL k) ((r0K ((IntKind.wrap .i64 ((((f0z (fun a b:Int=>a==b) s0.2 x0.v_).getD 0))+1))) x0.v_ s0.2)))]) .i32 (fun k:Int=>iL k) s0.2 x0.v_ ((IntKind.wrap .i64 ((((f0z (fun a b:Int=>a==b) s0.2 x0.v_).getD 0))+1))) (by kernel_rfl) rfl (by kernel_rfl) (kE (PJ.blockNormal (PJ.next (kM (kLo h11 [3,19,20]))))))))))
     ·have h12:=condT hb2 h2
      exact RJ.pin 20 (kd:= .i64) (by kernel_rfl) (of_decide_eq_true hb2) (kr 2 (km 2 (RJ.lookK (d:=(some 25)) (i:=0) (ok:=false) (tr2:=[]) .i32 (fun k:Int=>iL k) s0.2 x0.w_ (0:Int) (by kernel_rfl) (kc 1 (RJ.setK (d:=none) (i:=0) (sv:=iL ((IntKind.wrap .i64 ((((f0z (fun a b:Int=>a==b) s0.2 x0.w_).getD 0))+1)))) (tr2:=[]) (H2:=[.map (c0a (fun k:Int=>iM k) (fun k:Int=>iL k) ((r0K ((IntKind.wrap .i64 ((((f0z (fun a b:Int=>a==b) s0.2 x0.w_).getD 0))+1))) x0.w_ s0.2)))]) .i32 (fun k:Int=>iL k) s0.2 x0.w_ ((IntKind.wrap .i64 ((((f0z (fun a b:Int=>a==b) s0.2 x0.w_).getD 0))+1))) (by kernel_rfl) rfl (by kernel_rfl) (kE (PJ.blockNormal (PJ.next (kM (kLo h12 [3,19,20]))))))))))
    ·have h13:=condT hb1 h1
     exact RJ.pin 20 (kd:= .i64) (by kernel_rfl) (of_decide_eq_true hb1) (kr 2 (km 2 (RJ.lookK (d:=(some 25)) (i:=0) (ok:=false) (tr2:=[]) .i32 (fun k:Int=>iL k) s0.2 x0.z_ (0:Int) (by kernel_rfl) (kc 1 (RJ.setK (d:=none) (i:=0) (sv:=iL ((IntKind.wrap .i64 ((((f0z (fun a b:Int=>a==b) s0.2 x0.z_).getD 0))+1)))) (tr2:=[]) (H2:=[.map (c0a (fun k:Int=>iM k) (fun k:Int=>iL k) ((r0K ((IntKind.wrap .i64 ((((f0z (fun a b:Int=>a==b) s0.2 x0.z_).getD 0))+1))) x0.z_ s0.2)))]) .i32 (fun k:Int=>iL k) s0.2 x0.z_ ((IntKind.wrap .i64 ((((f0z (fun a b:Int=>a==b) s0.2 x0.z_).getD 0))+1))) (by kernel_rfl) rfl (by kernel_rfl) (kE (PJ.blockNormal (PJ.next (kM (kLo h13 [3,19,20]))))))))))
   ·have h14:=condT hb0 h0
    exact RJ.pin 20 (kd:= .i64) (by kernel_rfl) (of_decide_eq_true hb0) (kr 2 (km 2 (RJ.lookK (d:=(some 25)) (i:=0) (ok:=false) (tr2:=[]) .i32 (fun k:Int=>iL k) s0.2 x0.B_ (0:Int) (by kernel_rfl) (kc 1 (RJ.setK (d:=none) (i:=0) (sv:=iL ((IntKind.wrap .i64 ((((f0z (fun a b:Int=>a==b) s0.2 x0.B_).getD 0))+1)))) (tr2:=[]) (H2:=[.map (c0a (fun k:Int=>iM k) (fun k:Int=>iL k) ((r0K ((IntKind.wrap .i64 ((((f0z (fun a b:Int=>a==b) s0.2 x0.B_).getD 0))+1))) x0.B_ s0.2)))]) .i32 (fun k:Int=>iL k) s0.2 x0.B_ ((IntKind.wrap .i64 ((((f0z (fun a b:Int=>a==b) s0.2 x0.B_).getD 0))+1))) (by kernel_rfl) rfl (by kernel_rfl) (kE (PJ.blockNormal (PJ.next (kM (kLo h14 [3,19,20]))))))))))
  ·exact kEp 0 (kLx h7 (fun h15=>PJ.blockOut (kNo h15 [3])))
 ·exact kq (kX (by obtain rfl:=oi h6;exact K.retV (H0:=[]) [0] (.inr rfl) H D W (by kernel_rfl) (v1:= .mp 0) (by kernel_rfl) (by kernel_rfl) (by simp only[ah,ay,d0h (ek:=(fun k:Int=>iM k)) (ev:=(fun k:Int=>iL k)) (fun _ _=>rfl) (fun _ _=>rfl)];kernel_rfl) (by decide) (by simp only[az,aM,c0b (ek:=(fun k:Int=>iM k)) (ev:=(fun k:Int=>iL k)) (fun _ _=>rfl) (fun _ _=>rfl)];kernel_rfl) (by kernel_rfl) (by kernel_rfl) (by kernel_rfl) (by kernel_rfl)))
def p0w(x0:c0n):Option (Bool):=
 (Option.bind (m0E x0.E_) fun y1=>(bif(!y1)then none else(Option.bind (Option.bind (j0z x0) fun y0=>(Option.bind (k0X (fun(e55:Int×Int)=>(Option.bind (k0B e55.1) fun y2=>(Option.bind (bif(decide (e55.2>1))then none else(bif(decide (¬y2=0))then none else(some ()))) fun(s0:Unit)=>(some (.inl ()))))) y0) (a0g fun(_:Unit)=>(some ())))) fun(s1:Unit)=>(some true))))
theorem r0O {x0:c0n} {r:Bool} (h:p0w x0=some r):SQ 99 [.agg (a0d x0)] [] (.bool r) []:=by
 refine kFn (fn:=Tryz.f99) (fun F H D W=> ?_)
 unfold p0w at h
 refine kq (kS (kn 2 (kAb 8 h (fun _=>q0d) (fun y1 h0=>kr 1 (cTF 9 h0 (fun h1=>kKN (kcN h1 (fun(s1:Unit)=>([(2, .bool false)],[])) (fun s1 hy0=> ?_) (fun s1 h2=> ?_))))))))
 ·refine kn 1 ?_
  obtain⟨y0,hy1,h3⟩:=a0f hy0
  refine RJ.callG (d:=(some 11)) (f:=129) (args:=[.agg (a0d x0)]) (args0:=[.agg (a0d x0)]) (v0:= .mp 0) (v:= .mp 1) (tr2:=[]) (H0:=[]) (H0':=[.map (c0a (fun k:Int=>iM k) (fun k:Int=>iL k) y0)]) (H2:=[.box (a0d x0), .map (c0a (fun k:Int=>iM k) (fun k:Int=>iL k) y0)]) [] (by kernel_rfl) (by kernel_rfl) (by kernel_rfl) (by kernel_rfl) (by decide) (by kernel_rfl) (by kernel_rfl) (by kernel_rfl) (LeL.refl _) (n0D hy1) (by kernel_rfl) (by kernel_rfl) ((show d0Q (b0Z []) 0 _ [.map (c0a (fun k:Int=>iM k) (fun k:Int=>iL k) y0)]=[.box (a0d x0),Ent.rn (gOf (b0Z []) 0 1) (.map (c0a (fun k:Int=>iM k) (fun k:Int=>iL k) y0))] by kernel_rfl).trans (by simp only[d0h (ek:=(fun k:Int=>iM k)) (ev:=(fun k:Int=>iL k)) (fun _ _=>rfl) (fun _ _=>rfl)])) (RJ.range (d:=(some 12)) (i:=1) (n:=(c0a (fun k:Int=>iM k) (fun k:Int=>iL k) y0).length) (by kernel_rfl) (kEN (kb 0 (J.wk (Wk.sel (L2:=[(2, .bool false),(12, .ptr 0 0)]) (H2:=[.itr 1 ((c0a (fun k:Int=>iM k) (fun k:Int=>iL k) y0).length) ([]:List Nat), .map (c0a (fun k:Int=>iM k) (fun k:Int=>iL k) y0)]) 0 (by rw[D];rfl) W [2,1] (by kernel_rfl) (by simp only[ah,ay,d0h (ek:=(fun k:Int=>iM k)) (ev:=(fun k:Int=>iL k)) (fun _ _=>rfl) (fun _ _=>rfl)];kernel_rfl) (by decide) (by simp only[az,aM,c0b (ek:=(fun k:Int=>iM k)) (ev:=(fun k:Int=>iL k)) (fun _ _=>rfl) (fun _ _=>rfl)];kernel_rfl) (by kernel_rfl) (by kernel_rfl) (by kernel_rfl)) ?_))))
  obtain⟨y3,hy2,h4⟩:=a0f h3
  refine K.mapLoop 12 13 14 0 0 1 (n:=(c0a (fun k:Int=>iM k) (fun k:Int=>iL k) y0).length) (by kernel_rfl) (by kernel_rfl) _ _ (fun p:Int×Int=>((fun k:Int=>iM k) p.1,(fun k:Int=>iL k) p.2)) hy2 [2,12] (L2:=[(2, .bool false),(12, .ptr 0 0)]) (by kernel_rfl) (by kernel_rfl) (by kernel_rfl) (by kernel_rfl) (by kernel_rfl) (by kernel_rfl) (fun sq=> [.itr 1 ((c0a (fun k:Int=>iM k) (fun k:Int=>iL k) y0).length) sq, .map (c0a (fun k:Int=>iM k) (fun k:Int=>iL k) y0)]) (by kernel_rfl) (fun _ _=>by kernel_rfl) (fun _=>by kernel_rfl) (fun _=>by kernel_rfl) rfl (fun sv56 he0=> ?_) (fun sv56 bv57 e55 x79 hb0 hx52=> ?_)
  ·subst he0
   have h5:=l0R h4
   exact PJ.blockOut (kNW h5 D W [])
  ·exact kb 1 (kSR (RJ.entry (d:=(some 15)) (i:=1) (n:=(c0a (fun k:Int=>iM k) (fun k:Int=>iL k) y0).length) (b:=bv57) (s:=sv56) (kv:=((iM e55.1:SV),(iL e55.2:SV))) (by kernel_rfl) (by kernel_rfl) rfl hb0 (kr 4 (kn 1 (kAb 19 hx52 (fun _=>o0u) (fun y2 h6=>kr 1 (kcN h6 (fun(s0:Unit)=>([(2, .bool false),(12, .ptr 0 0),(29, .bool false)],[.itr 1 ((c0a (fun k:Int=>iM k) (fun k:Int=>iL k) y0).length) (sv56++ [bv57]), .map (c0a (fun k:Int=>iM k) (fun k:Int=>iL k) y0)])) (fun s0 hy3=>km 3 (cTR 22 hy3 (fun h8=>kc 3 (cTR 25 h8 (fun h9=>ke 4 (kNo h9 [2,12,29])))))) (fun s0 h7=>kF (kKb (by obtain rfl:=oi h7;exact PJ.mapNext [2,12] (by kernel_rfl) (by kernel_rfl)))))))))))
 ·exact kq (kX (by cases h2;exact kZ H D W))
def f0n(x0:o0B):Option (Int×Bool):=
 (Option.bind (p0w x0.c_.S_) fun y0=>(some (0,y0)))
theorem j0R {x0:o0B} {r:Int×Bool} (h:f0n x0=some r):SQ 53 [.agg (b0w x0)] [] (.tup [iL r.1, .bool r.2]) []:=by
 refine kFn (fn:=Tryz.f53) (fun F H D W=> ?_)
 unfold f0n at h
 exact kq (kn 3 (kAb 7 h (fun _=>r0O) (fun y0 h0=>kr 2 (kX (by cases h0;exact kZ H D W)))))
def e0h(x0:o0B):Option (Int×Bool):=
 (Option.bind (a0s (fun(s0:Int)=>(bif(decide (s0<4))then(bif(decide (s0=0))then(Option.bind (c0g x0.c_.S_ 0 x0.c_.J_.s_) fun y0=>(bif(!y0.2)then none else(some (.inl (IntKind.wrap .i64 (0+1))))))else(bif(decide (s0=1))then(Option.bind (c0g x0.c_.S_ 1 x0.c_.J_.q_) fun y1=>(bif(!y1.2)then none else(some (.inl (IntKind.wrap .i64 (1+1))))))else(bif(decide (s0=2))then(Option.bind (c0g x0.c_.S_ 2 x0.c_.J_.A_) fun y2=>(bif(!y2.2)then none else(some (.inl (IntKind.wrap .i64 (2+1))))))else(bif(decide (s0=3))then(Option.bind (c0g x0.c_.S_ 3 x0.c_.J_.N_) fun y3=>(bif(!y3.2)then none else(some (.inl (IntKind.wrap .i64 (3+1))))))else none))))else(some (.inr ())))) big 0) fun(s1:Unit)=>(some (0,true)))
theorem i0e {x0:o0B} {r:Int×Bool} (h:e0h x0=some r):SQ 54 [.agg (b0w x0)] [] (.tup [iL r.1, .bool r.2]) []:=by
 refine kFn (fn:=Tryz.f54) (fun F H D W=> ?_)
 unfold e0h at h
 refine kq (kcN h (fun(s1:Unit)=>([(2,iL 0),(3, .bool false)],[])) (fun s1 hy0=> ?_) (fun s1 h4=> ?_))
 ·refine kq (kb 0 (kl (fun(s0:Int)=>([(1, .ptr 0 0),(2,iL 0),(3, .bool false),(10, .agg (w0A x0.c_.J_)),(11,iL s0)],[.box (b0w x0)])) hy0 [1,2,3,10,11] (fun s0 x156 hs0=>kq (kS (kBT 12 hs0 (fun h0=> ?_) (fun h5=> ?_))))))
  ·refine kKN (kS (kb 1 (kn 1 ?_)))
   cases hb0:(decide (s0=0))
   ·have h1:=condF hb0 h0
    cases hb1:(decide (s0=1))
    ·have h2:=condF hb1 h1
     cases hb2:(decide (s0=2))
     ·have h3:=condF hb2 h2
      cases hb3:(decide (s0=3))
      ·have h6:=condF hb3 h3
       cases h6
      ·have h7:=condT hb3 h3
       exact RJ.pin 11 (kd:= .i64) (by kernel_rfl) (of_decide_eq_true hb3) (RJ.pin 13 (kd:= .i64) (by kernel_rfl) (of_decide_eq_true hb3) (kr 3 (kn 5 (kAb 21 h7 (fun _=>c0o) (fun y3 h8=>kr 6 (kq (cTF 25 h8 (fun h9=>kKn (kM (kLW h9 D W [0]))))))))))
     ·have h10:=condT hb2 h2
      exact RJ.pin 11 (kd:= .i64) (by kernel_rfl) (of_decide_eq_true hb2) (RJ.pin 13 (kd:= .i64) (by kernel_rfl) (of_decide_eq_true hb2) (kr 3 (kn 5 (kAb 21 h10 (fun _=>c0o) (fun y2 h11=>kr 6 (kq (cTF 25 h11 (fun h12=>kKn (kM (kLW h12 D W [0]))))))))))
    ·have h13:=condT hb1 h1
     exact RJ.pin 11 (kd:= .i64) (by kernel_rfl) (of_decide_eq_true hb1) (RJ.pin 13 (kd:= .i64) (by kernel_rfl) (of_decide_eq_true hb1) (kr 3 (kn 5 (kAb 21 h13 (fun _=>c0o) (fun y1 h14=>kr 6 (kq (cTF 25 h14 (fun h15=>kKn (kM (kLW h15 D W [0]))))))))))
   ·have h16:=condT hb0 h0
    exact RJ.pin 11 (kd:= .i64) (by kernel_rfl) (of_decide_eq_true hb0) (RJ.pin 13 (kd:= .i64) (by kernel_rfl) (of_decide_eq_true hb0) (kr 3 (kn 5 (kAb 21 h16 (fun _=>c0o) (fun y0 h17=>kr 6 (kq (cTF 25 h17 (fun h18=>kKn (kM (kLW h18 D W [0]))))))))))
  ·exact kEp 0 (kLx h5 (fun h19=>PJ.blockOut (kNW h19 D W [])))
 ·exact kq (kX (by cases h4;exact kZ H D W))
structure h0S where
 s_:Int
 q_:Int
 deriving Inhabited,DecidableEq
def c0M(x:h0S):List SV:=[.int .i64 x.s_, .int .i64 x.q_]
theorem k0i(x:h0S):(c0M x).length=2:=rfl
structure c0O where
 K_:Int
 Z_:Int
 Y_:Bool
 R_:List h0S
 deriving Inhabited,DecidableEq
def a0t(x:c0O):List SV:=[.int .u8 x.K_, .int .i64 x.Z_, .bool x.Y_,lsv c0M 2 x.R_]
theorem h0u(x:c0O):(a0t x).length=4:=rfl
structure l0u where
 Q_:Int
 C_:List (List c0O)
 deriving Inhabited,DecidableEq
def f0V(x:l0u):List SV:=[.int .i64 x.Q_,lsv (k0P a0t 4) 1 x.C_]
theorem y0G(x:l0u):(f0V x).length=2:=rfl
structure w0Z where
 s_:List UInt8
 q_:List UInt8
 A_:List UInt8
 N_:List UInt8
 V_:List UInt8
 U_:List UInt8
 deriving Inhabited,DecidableEq
def n0s(x:w0Z):List SV:=[.str x.s_, .str x.q_, .str x.A_, .str x.N_, .str x.V_, .str x.U_]
theorem y0E(x:w0Z):(n0s x).length=6:=rfl
def i0a:Option (w0Z):=
 (some (⟨([111,116,104,101,114]:List UInt8),([122,101,114,111]:List UInt8),([111,110,101]:List UInt8),([116,119,111]:List UInt8),([102,101,119]:List UInt8),([109,97,110,121]:List UInt8)⟩:w0Z))
theorem l0H {r:w0Z} (h:i0a=some r):SQ 90 [] [] (.agg (n0s r)) []:=by
 refine kFn (fn:=Tryz.f90) (fun F H D W=> ?_)
 unfold i0a at h
 exact kq (kq (kX (by cases h;exact kZ H D W)))
def m0v(x0 x1:Int):Option (Bool):=
 (Option.bind (bif(decide (x1>x0))then(Option.bind i0a fun y0=>(some ()))else none) fun(s0:Unit)=>(some (decide (x1<6))))
theorem p0F {x0 x1:Int} {r:Bool} (h:m0v x0 x1=some r):SQ 130 [iL x0,iL x1] [] (.bool r) []:=by
 refine kFn (fn:=Tryz.f130) (fun F H D W=> ?_)
 unfold m0v at h
 exact kq (kcN h (fun(s0:Unit)=>([(4, .bool (decide (x1<6)))],[])) (fun s0 hy0=>km 4 (cFR 8 hy0 (fun h1=>kc 1 (kAb 10 h1 (fun _=>l0H) (fun y0 h2=>ke 4 (kNo h2 [4])))))) (fun s0 h0=>kX (by cases h0;exact kZ H D W)))
def e0M(x0:Int):Option (Bool):=
 (Option.bind (bif(decide (97≤x0))then(bif(decide (x0≤122))then(some true)else(bif(decide (65≤x0))then none else(some false)))else(bif(decide (65≤x0))then none else(some false))) fun(s0:Bool)=>(some s0))
theorem j0e {x0:Int} {r:Bool} (h:e0M x0=some r):SQ 197 [.int .u8 x0] [] (.bool r) []:=by
 refine kFn (fn:=Tryz.f197) (fun F H D W=> ?_)
 unfold e0M at h
 exact kq (kcN h (fun(s0:Bool)=>([(2, .bool s0)],[])) (fun s0 hy0=>km 3 (kB 5 hy0 (fun h1=>kc 4 (kB 9 h1 (fun h3=>ke 8 (kNo h3 [2])) (fun h4=>kc 3 (cTR 12 h4 (fun h5=>ke 5 (kNo h5 [2])))))) (fun h2=>kc 7 (cTR 12 h2 (fun h6=>ke 5 (kNo h6 [2])))))) (fun s0 h0=>kX (by cases h0;exact kZ H D W)))
def e0P(x0:List UInt8)(x1:Int):Option ((List UInt8)×Int):=
 (Option.bind (a0s (fun(s1:Int)=>(Option.bind (Option.bind (bif(decide (s1<(x0.length:Int)))then(bif inR s1 x0.length then(some ((decide (((((x0.getD (s1:Int).toNat 0).toNat:Nat):Int))=32))))else none)else(some false)) fun(s4:Bool)=>(bif s4 then(some (.inl ()))else(some (.inr (.inr s1))))) (a0g fun(s6:Unit)=>(some (.inl (IntKind.wrap .i64 (s1+1))))))) big x1) fun(s0:Int)=>(Option.bind (a0s (fun(s2:Int)=>(Option.bind (Option.bind (bif(decide (s2<(x0.length:Int)))then(bif inR s2 x0.length then(Option.bind (e0M ((((x0.getD (s2:Int).toNat 0).toNat:Nat):Int))) fun y0=>(some y0))else none)else(some false)) fun(s5:Bool)=>(bif s5 then(some (.inl ()))else(some (.inr (.inr s2))))) (a0g fun(s7:Unit)=>(some (.inl (IntKind.wrap .i64 (s2+1))))))) big s0) fun(s3:Int)=>(bif inS s0 s3 x0.length then(some ((cut x0 s0 s3),s0))else none)))
theorem j0h {x0:List UInt8} {x1:Int} {r:(List UInt8)×Int} (h:e0P x0 x1=some r):SQ 196 [.ptr 0 0, .fn (.func 197) [] []] [.box [.str x0,iL x1]] (.str r.1) [.box [.str x0,iL r.2]]:=by
 refine kFn (fn:=Tryz.f196) (fun F H D W=> ?_)
 unfold e0P at h
 refine kq (kcN h (fun(s0:Int)=>([(0, .ptr 0 0),(1, .fn (.func 197) [] []),(4, .str ([]:List UInt8))],[.box [.str x0,iL s0]])) (fun s0 hy0=> ?_) (fun s0 h0=> ?_))
 ·refine kb 0 (kl (fun(s1:Int)=>([(0, .ptr 0 0),(1, .fn (.func 197) [] []),(4, .str ([]:List UInt8))],[.box [.str x0,iL s1]])) hy0 [0,1,4] (fun s1 x226 hs0=>kcX hs0 (fun(s6:Unit)=>([(0, .ptr 0 0),(1, .fn (.func 197) [] []),(4, .str ([]:List UInt8))],[.box [.str x0,iL s1]])) (fun y1 hy1 h1=> ?_) (fun s6 h2=> ?_)))
  ·refine kcN hy1 (fun(s4:Bool)=>([(0, .ptr 0 0),(1, .fn (.func 197) [] []),(4, .str ([]:List UInt8)),(27, .bool s4)],[.box [.str x0,iL s1]])) (fun s4 hy2=> ?_) (fun s4 h3=> ?_)
   ·refine kDr (kD 11 (kB 16 hy2 (fun h4=> ?_) (fun h5=> ?_)))
    ·refine kD 8 ?_
     obtain⟨hm,h6⟩:=b0y h4
     exact kQ 25 (.int .u8 (((x0.getD (s1:Int).toNat 0).toNat:Nat):Int)) [] (tr2:=[([],[]),([],[]),([],[]),([0,1],[]),([],[]),([],[]),([],[]),([0,1],[]),([],[]),([],[]),([],[]),([],[]),([],[]),([],[]),([0,1],[]),([],[]),([],[]),([],[]),([0,1],[]),([],[])]) hm (kD 2 (kE (kNo h6 [0,1,4,27])))
    ·exact kD 11 (kE (kNo h5 [0,1,4,27]))
   ·exact kBT 27 h3 (fun h7=>kK (kXo h7 [0,1,4])) (fun h8=>kEx 0 (kCx h8 h1 (fun h9=>kLx h9 (fun h10=>PJ.blockOut (kNo h10 [0,1,4])))))
  ·exact kb 1 (kM (PJ.blockNormal (kLo h2 [0,1,4])))
 ·refine kq (kcN h0 (fun(s3:Int)=>([(0, .ptr 0 0),(4, .str ([]:List UInt8)),(5,iL s3)],[.box [.str x0,iL s0]])) (fun s3 hy3=> ?_) (fun s3 h11=> ?_))
  ·exact kb 2 (kl (fun(s2:Int)=>([(0, .ptr 0 0),(1, .fn (.func 197) [] []),(4, .str ([]:List UInt8)),(5,iL s2)],[.box [.str x0,iL s0]])) hy3 [0,1,4,5] (fun s2 x555 hs1=>kcX hs1 (fun(s7:Unit)=>([(0, .ptr 0 0),(1, .fn (.func 197) [] []),(4, .str ([]:List UInt8)),(5,iL s2)],[.box [.str x0,iL s0]])) (fun y2 hy4 h12=>kcN hy4 (fun(s5:Bool)=>([(0, .ptr 0 0),(1, .fn (.func 197) [] []),(4, .str ([]:List UInt8)),(5,iL s2),(55, .bool s5)],[.box [.str x0,iL s0]])) (fun s5 hy5=>km 8 (kB 46 hy5 (fun h15=>kc 6 (kGb 53 h15 (fun h17=>kAb 54 h17 (fun _=>j0e) (fun y0 h18=>ke 1 (kNo h18 [0,1,4,5,55]))))) (fun h16=>ke 9 (kNo h16 [0,1,4,5,55])))) (fun s5 h14=>kBT 55 h14 (fun h19=>kK (kXo h19 [0,1,4,5])) (fun h20=>kEx 2 (kCx h20 h12 (fun h21=>kLx h21 (fun h22=>PJ.blockOut (kNo h22 [0,4,5]))))))) (fun s7 h13=>kb 3 (kM (PJ.blockNormal (kLo h13 [0,1,4,5]))))))
  ·refine kS (kDr (kD 9 ?_))
   obtain⟨hm,h23⟩:=b0y h11
   exact kQ 67 (.str (cut x0 s0 s3)) [] (tr2:=[([],[]),([],[]),([],[]),([0,1],[]),([],[]),([],[]),([],[]),([0,1],[]),([],[]),([],[])]) hm (kD 1 (kEN (kX (by obtain rfl:=oi h23;exact kRV [0] (.inr rfl) H D W))))
def d0m(x0:List UInt8)(x1:Int):Option ((List UInt8)×Int):=
 (Option.bind (e0P x0 x1) fun y0=>(some (y0.1,y0.2)))
theorem f0g {x0:List UInt8} {x1:Int} {r:(List UInt8)×Int} (h:d0m x0 x1=some r):SQ 175 [.ptr 0 0] [.box [.str x0,iL x1]] (.str r.1) [.box [.str x0,iL r.2]]:=by
 refine kFn (fn:=Tryz.f175) (fun F H D W=> ?_)
 unfold d0m at h
 refine kq (kn 1 ?_)
 obtain⟨y0,hy0,h0⟩:=a0f h
 exact kCg (some 4) [0] (j0h hy0) (kr 1 (kX (by obtain rfl:=oi h0;exact kRV [0] (.inr rfl) H D W)))
def A0G:Go.Shelf.Ren:=⟨fun x=>match x with|217=>220|266=>229|n=>n,fun x=>x,fun x=>x⟩
theorem x0S:Lays.n217 Tryz.prog A0G:=by
 constructor<;>first|kernel_rfl|(intro w;kernel_rfl)|(intro w;rfl)
def stringslite_IndexByte(x0:List UInt8)(x1:Int):Option (Int):=
 (some (Lib.indexByte x0 x1.toNat.toUInt8))
theorem h0T {x0:List UInt8} {x1 r:Int} (h:stringslite_IndexByte x0 x1=some r):SQ 220 [.str x0, .int .u8 x1] [] (iL r) []:=by
 exact by obtain rfl:=oi h;exact SC.byteIdx (by kernel_rfl) (fun b c w=>Any.stringslite_IndexByte x0S b c w)
def f0I(x0 x1:List UInt8):Option (Int):=
 (Option.bind (bif(decide ((x1.length:Int)=0))then none else(some ())) fun(s0:Unit)=>(bif(x1==x0)then none else(bif(decide ((x1.length:Int)=1))then(bif inR 0 x1.length then(Option.bind (stringslite_IndexByte x0 ((((x1.getD (0:Int).toNat 0).toNat:Nat):Int))) fun y0=>(some y0))else none)else none)))
theorem k0F {x0 x1:List UInt8} {r:Int} (h:f0I x0 x1=some r):SQ 214 [.str x0, .str x1] [] (iL r) []:=by
 refine kFn (fn:=Tryz.f214) (fun F H D W=> ?_)
 unfold f0I at h
 exact kq (kq (kS (kb 0 (kcN h (fun(s0:Unit)=>([(0, .str x0),(1, .str x1),(4,iL 0),(5,iL (x1.length:Int)),(16, .bool (x1==x0))],[])) (fun s0 hy0=>km 3 (cTR 19 hy0 (fun h1=>ke 5 (kNo h1 [0,1,4,5,16])))) (fun s0 h0=>cTF 16 h0 (fun h2=>kq (cFT 24 h2 (fun h3=>kn 2 (kGb 29 h3 (fun h4=>kAb 30 h4 (fun _=>h0T) (fun y0 h5=>kr 1 (kXp (by cases h5;exact kZ H D W)))))))))))))
def i0r(x0 x1:List UInt8):Option (Int):=
 (Option.bind (f0I x0 x1) fun y0=>(some y0))
theorem m0Z {x0 x1:List UInt8} {r:Int} (h:i0r x0 x1=some r):SQ 209 [.str x0, .str x1] [] (iL r) []:=by
 refine kFn (fn:=Tryz.f209) (fun F H D W=> ?_)
 unfold i0r at h
 exact kq (kn 2 (kAb 7 h (fun _=>k0F) (fun y0 h0=>kr 1 (kX (by cases h0;exact kZ H D W)))))
def g0g(x0 x1:List UInt8):Option (Bool):=
 (Option.bind (i0r x0 x1) fun y0=>(some (decide (y0≥0))))
theorem l0c {x0 x1:List UInt8} {r:Bool} (h:g0g x0 x1=some r):SQ 205 [.str x0, .str x1] [] (.bool r) []:=by
 refine kFn (fn:=Tryz.f205) (fun F H D W=> ?_)
 unfold g0g at h
 exact kq (kn 2 (kAb 7 h (fun _=>m0Z) (fun y0 h0=>kr 2 (kX (by cases h0;exact kZ H D W)))))
def d0z(x0:List UInt8)(x1 x2 x3:Int)(x4:Bool):Option (Bool×Int×Int):=
 (Option.bind (d0m x0 x1) fun y0=>(Option.bind (Option.bind (bif(decide (¬(y0.1.length:Int)=1))then none else(Option.bind (g0g ([110,105,118,119,102,116,99,101]:List UInt8) y0.1) fun y1=>(some (!y1)))) fun(s0:Bool)=>(bif s0 then none else(some ()))) fun(s1:Unit)=>(bif inR 0 y0.1.length then(some (true,(IntKind.wrap .i64 (y0.2+1)),(((y0.1.getD (0:Int).toNat 0).toNat:Nat):Int)))else none)))
theorem h0g {x0:List UInt8} {x1 x2 x3:Int} {x4:Bool} {r:Bool×Int×Int} (h:d0z x0 x1 x2 x3 x4=some r):SQ 192 [.ptr 0 0, .ptr 1 0] [.box [.str x0,iL x1], .box [.int .u8 x2,iL x3, .bool x4, .nl]] (.bool r.1) [.box [.str x0,iL r.2.1], .box [.int .u8 r.2.2,iL x3, .bool x4, .nl]]:=by
 refine kFn (fn:=Tryz.f192) (fun F H D W=> ?_)
 unfold d0z at h
 refine kq (kn 1 ?_)
 obtain⟨y0,hy0,h0⟩:=a0f h
 exact kCg (some 7) [0] (f0g hy0) (kr 1 (kcN h0 (fun(s1:Unit)=>([(0, .ptr 0 0),(1, .ptr 1 0),(4, .bool false),(5, .str y0.1)],[.box [.str x0,iL y0.2], .box [.int .u8 x2,iL x3, .bool x4, .nl]])) (fun s1 hy1=>kcN hy1 (fun(s0:Bool)=>([(0, .ptr 0 0),(1, .ptr 1 0),(4, .bool false),(5, .str y0.1),(15, .bool s0)],[.box [.str x0,iL y0.2], .box [.int .u8 x2,iL x3, .bool x4, .nl]])) (fun s0 hy2=>km 4 (cTR 11 hy2 (fun h3=>kc 1 (kAb 13 h3 (fun _=>l0c) (fun y1 h4=>ke 2 (kNo h4 [0,1,4,5,15])))))) (fun s0 h2=>cTF 15 h2 (fun h5=>kK (kNo h5 [0,1,4,5])))) (fun s1 h1=>kn 2 (kGb 18 h1 (fun h6=>kr 3 (kq (kq (kX (by obtain rfl:=oi h6;exact kRV [0,1] (.inr rfl) H D W)))))))))
def f0h(x0:Int):Option (Bool):=
 (some false)
theorem j0E {x0:Int} {r:Bool} (h:f0h x0=some r):SQ 210 [.int .u8 x0] [] (.bool r) []:=by
 refine kFn (fn:=Tryz.f210) (fun F H D W=> ?_)
 unfold f0h at h
 exact kq (kq (kX (by cases h;exact kZ H D W)))
def e0O(x0:List UInt8)(x1:Int):Option ((List UInt8)×Int):=
 (Option.bind (a0s (fun(s1:Int)=>(Option.bind (Option.bind (bif(decide (s1<(x0.length:Int)))then(bif inR s1 x0.length then(some ((decide (((((x0.getD (s1:Int).toNat 0).toNat:Nat):Int))=32))))else none)else(some false)) fun(s4:Bool)=>(bif s4 then(some (.inl ()))else(some (.inr (.inr s1))))) (a0g fun(s6:Unit)=>(some (.inl (IntKind.wrap .i64 (s1+1))))))) big x1) fun(s0:Int)=>(Option.bind (a0s (fun(s2:Int)=>(Option.bind (Option.bind (bif(decide (s2<(x0.length:Int)))then(bif inR s2 x0.length then(Option.bind (f0h ((((x0.getD (s2:Int).toNat 0).toNat:Nat):Int))) fun y0=>(some y0))else none)else(some false)) fun(s5:Bool)=>(bif s5 then(some (.inl ()))else(some (.inr (.inr s2))))) (a0g fun(s7:Unit)=>(some (.inl (IntKind.wrap .i64 (s2+1))))))) big s0) fun(s3:Int)=>(bif inS s0 s3 x0.length then(some ((cut x0 s0 s3),s0))else none)))
theorem j0g {x0:List UInt8} {x1:Int} {r:(List UInt8)×Int} (h:e0O x0 x1=some r):SQ 196 [.ptr 0 0, .fn (.func 210) [] []] [.box [.str x0,iL x1]] (.str r.1) [.box [.str x0,iL r.2]]:=by
 refine kFn (fn:=Tryz.f196) (fun F H D W=> ?_)
 unfold e0O at h
 refine kq (kcN h (fun(s0:Int)=>([(0, .ptr 0 0),(1, .fn (.func 210) [] []),(4, .str ([]:List UInt8))],[.box [.str x0,iL s0]])) (fun s0 hy0=> ?_) (fun s0 h0=> ?_))
 ·refine kb 0 (kl (fun(s1:Int)=>([(0, .ptr 0 0),(1, .fn (.func 210) [] []),(4, .str ([]:List UInt8))],[.box [.str x0,iL s1]])) hy0 [0,1,4] (fun s1 x226 hs0=>kcX hs0 (fun(s6:Unit)=>([(0, .ptr 0 0),(1, .fn (.func 210) [] []),(4, .str ([]:List UInt8))],[.box [.str x0,iL s1]])) (fun y1 hy1 h1=> ?_) (fun s6 h2=> ?_)))
  ·refine kcN hy1 (fun(s4:Bool)=>([(0, .ptr 0 0),(1, .fn (.func 210) [] []),(4, .str ([]:List UInt8)),(27, .bool s4)],[.box [.str x0,iL s1]])) (fun s4 hy2=> ?_) (fun s4 h3=> ?_)
   ·refine kDr (kD 11 (kB 16 hy2 (fun h4=> ?_) (fun h5=> ?_)))
    ·refine kD 8 ?_
     obtain⟨hm,h6⟩:=b0y h4
     exact kQ 25 (.int .u8 (((x0.getD (s1:Int).toNat 0).toNat:Nat):Int)) [] (tr2:=[([],[]),([],[]),([],[]),([0,1],[]),([],[]),([],[]),([],[]),([0,1],[]),([],[]),([],[]),([],[]),([],[]),([],[]),([],[]),([0,1],[]),([],[]),([],[]),([],[]),([0,1],[]),([],[])]) hm (kD 2 (kE (kNo h6 [0,1,4,27])))
    ·exact kD 11 (kE (kNo h5 [0,1,4,27]))
   ·exact kBT 27 h3 (fun h7=>kK (kXo h7 [0,1,4])) (fun h8=>kEx 0 (kCx h8 h1 (fun h9=>kLx h9 (fun h10=>PJ.blockOut (kNo h10 [0,1,4])))))
  ·exact kb 1 (kM (PJ.blockNormal (kLo h2 [0,1,4])))
 ·refine kq (kcN h0 (fun(s3:Int)=>([(0, .ptr 0 0),(4, .str ([]:List UInt8)),(5,iL s3)],[.box [.str x0,iL s0]])) (fun s3 hy3=> ?_) (fun s3 h11=> ?_))
  ·exact kb 2 (kl (fun(s2:Int)=>([(0, .ptr 0 0),(1, .fn (.func 210) [] []),(4, .str ([]:List UInt8)),(5,iL s2)],[.box [.str x0,iL s0]])) hy3 [0,1,4,5] (fun s2 x555 hs1=>kcX hs1 (fun(s7:Unit)=>([(0, .ptr 0 0),(1, .fn (.func 210) [] []),(4, .str ([]:List UInt8)),(5,iL s2)],[.box [.str x0,iL s0]])) (fun y2 hy4 h12=>kcN hy4 (fun(s5:Bool)=>([(0, .ptr 0 0),(1, .fn (.func 210) [] []),(4, .str ([]:List UInt8)),(5,iL s2),(55, .bool s5)],[.box [.str x0,iL s0]])) (fun s5 hy5=>km 8 (kB 46 hy5 (fun h15=>kc 6 (kGb 53 h15 (fun h17=>kAb 54 h17 (fun _=>j0E) (fun y0 h18=>ke 1 (kNo h18 [0,1,4,5,55]))))) (fun h16=>ke 9 (kNo h16 [0,1,4,5,55])))) (fun s5 h14=>kBT 55 h14 (fun h19=>kK (kXo h19 [0,1,4,5])) (fun h20=>kEx 2 (kCx h20 h12 (fun h21=>kLx h21 (fun h22=>PJ.blockOut (kNo h22 [0,4,5]))))))) (fun s7 h13=>kb 3 (kM (PJ.blockNormal (kLo h13 [0,1,4,5]))))))
  ·refine kS (kDr (kD 9 ?_))
   obtain⟨hm,h23⟩:=b0y h11
   exact kQ 67 (.str (cut x0 s0 s3)) [] (tr2:=[([],[]),([],[]),([],[]),([0,1],[]),([],[]),([],[]),([],[]),([0,1],[]),([],[]),([],[])]) hm (kD 1 (kEN (kX (by obtain rfl:=oi h23;exact kRV [0] (.inr rfl) H D W))))
def e0a(x0 x1:List UInt8):Option (Bool):=
 (Option.bind (bif(decide ((x0.length:Int)≥(x1.length:Int)))then(bif inS 0 (x1.length:Int) x0.length then(some (((cut x0 0 (x1.length:Int))==x1)))else none)else(some false)) fun(s0:Bool)=>(some s0))
theorem h0U {x0 x1:List UInt8} {r:Bool} (h:e0a x0 x1=some r):SQ 215 [.str x0, .str x1] [] (.bool r) []:=by
 refine kFn (fn:=Tryz.f215) (fun F H D W=> ?_)
 unfold e0a at h
 refine kq (kcN h (fun(s0:Bool)=>([(4, .bool s0)],[])) (fun s0 hy0=> ?_) (fun s0 h0=> ?_))
 ·refine km 6 (kB 10 hy0 (fun h1=> ?_) (fun h2=> ?_))
  ·refine kc 3 ?_
   obtain⟨hm,h3⟩:=b0y h1
   exact kQ 14 (.str (cut x0 0 (x1.length:Int))) [] (tr2:=[]) hm (ke 4 (kNo h3 [4]))
  ·exact ke 8 (kNo h2 [4])
 ·exact kX (by cases h0;exact kZ H D W)
def f0J(x0 x1:List UInt8):Option (Bool):=
 (Option.bind (e0a x0 x1) fun y0=>(some y0))
theorem k0G {x0 x1:List UInt8} {r:Bool} (h:f0J x0 x1=some r):SQ 211 [.str x0, .str x1] [] (.bool r) []:=by
 refine kFn (fn:=Tryz.f211) (fun F H D W=> ?_)
 unfold f0J at h
 exact kq (kn 2 (kAb 7 h (fun _=>h0U) (fun y0 h0=>kr 1 (kX (by cases h0;exact kZ H D W)))))
def c0e(x0 x1:List UInt8)(x2:Int):Option (Bool×Int):=
 (Option.bind (e0O x1 x2) fun y0=>(bif inS y0.2 (x1.length:Int) x1.length then(Option.bind (f0J (cut x1 y0.2 (x1.length:Int)) x0) fun y1=>(bif(!y1)then(some (false,y0.2))else(some (true,(IntKind.wrap .i64 (y0.2+(x0.length:Int)))))))else none))
theorem c0J {x0 x1:List UInt8} {x2:Int} {r:Bool×Int} (h:c0e x0 x1 x2=some r):SQ 206 [.ptr 0 0, .str x0] [.box [.str x1,iL x2]] (.bool r.1) [.box [.str x1,iL r.2]]:=by
 refine kFn (fn:=Tryz.f206) (fun F H D W=> ?_)
 unfold c0e at h
 refine kq (kn 1 ?_)
 obtain⟨y0,hy0,h0⟩:=a0f h
 refine kCg (some 6) [0] (j0g hy0) (kEN (kS (kS (kDr (kD 8 ?_)))))
 obtain⟨hm,h1⟩:=b0y h0
 refine kQ 15 (.str (cut x1 y0.2 (x1.length:Int))) [] (tr2:=[([],[]),([],[]),([],[]),([0,1],[]),([],[]),([],[]),([],[]),([0,1],[]),([],[])]) hm (kD 1 ?_)
 obtain⟨y1,hy1,h2⟩:=a0f h1
 exact kC0 (some 17) [([],[]),([],[]),([],[]),([0,1],[]),([],[]),([],[]),([],[]),([0,1],[]),([],[]),([],[]),([],[2,3])] (k0G hy1) (kD 1 (kEN (kBT 18 h2 (fun h3=>kq (kX (PJ.passRet (by obtain rfl:=oi h3;exact kRV [0] (.inr rfl) H D W)))) (fun h4=>kKN (kq (kq (kX (by obtain rfl:=oi h4;exact kRV [0] (.inr rfl) H D W))))))))
def e0Q(x0:List UInt8)(x1 x2 x3:Int)(x4:Bool):Option (Bool×Int):=
 (Option.bind (c0e ([37]:List UInt8) x0 x1) fun y0=>(bif(!y0.1)then(some (true,y0.2))else none))
theorem j0i {x0:List UInt8} {x1 x2 x3:Int} {x4:Bool} {r:Bool×Int} (h:e0Q x0 x1 x2 x3 x4=some r):SQ 193 [.ptr 0 0, .ptr 1 0] [.box [.str x0,iL x1], .box [.int .u8 x2,iL x3, .bool x4, .nl]] (.bool r.1) [.box [.str x0,iL r.2], .box [.int .u8 x2,iL x3, .bool x4, .nl]]:=by
 refine kFn (fn:=Tryz.f193) (fun F H D W=> ?_)
 unfold e0Q at h
 refine kq (kS (kn 1 ?_))
 obtain⟨y0,hy0,h0⟩:=a0f h
 exact kCg (some 7) [0] (c0J hy0) (kr 1 (cFT 8 h0 (fun h1=>kq (kX (PJ.passRet (by obtain rfl:=oi h1;exact kRV [0,1] (.inr rfl) H D W))))))
def e0A(x0:List UInt8)(x1 x2 x3:Int)(x4:Bool):Option (Bool×Int):=
 (Option.bind (c0e ([61]:List UInt8) x0 x1) fun y0=>(bif y0.1 then(some (true,y0.2))else none))
theorem i0x {x0:List UInt8} {x1 x2 x3:Int} {x4:Bool} {r:Bool×Int} (h:e0A x0 x1 x2 x3 x4=some r):SQ 194 [.ptr 0 0, .ptr 1 0] [.box [.str x0,iL x1], .box [.int .u8 x2,iL x3, .bool x4, .nl]] (.bool r.1) [.box [.str x0,iL r.2], .box [.int .u8 x2,iL x3, .bool x4, .nl]]:=by
 refine kFn (fn:=Tryz.f194) (fun F H D W=> ?_)
 unfold e0A at h
 refine kq (kS (kn 1 ?_))
 obtain⟨y0,hy0,h0⟩:=a0f h
 exact kCg (some 6) [0] (c0J hy0) (kEN (cFT 6 h0 (fun h1=>kq (kX (PJ.passRet (by obtain rfl:=oi h1;exact kRV [0,1] (.inr rfl) H D W))))))
def e0c(x0:Int):Option (Bool):=
 (Option.bind (bif(decide (48≤x0))then(some (decide (x0≤57)))else(some false)) fun(s0:Bool)=>(some s0))
theorem h0X {x0:Int} {r:Bool} (h:e0c x0=some r):SQ 212 [.int .u8 x0] [] (.bool r) []:=by
 refine kFn (fn:=Tryz.f212) (fun F H D W=> ?_)
 unfold e0c at h
 exact kq (kcN h (fun(s0:Bool)=>([(2, .bool s0)],[])) (fun s0 hy0=>km 3 (kB 5 hy0 (fun h1=>ke 4 (kNo h1 [2])) (fun h2=>ke 4 (kNo h2 [2])))) (fun s0 h0=>kX (by cases h0;exact kZ H D W)))
def e0N(x0:List UInt8)(x1:Int):Option ((List UInt8)×Int):=
 (Option.bind (a0s (fun(s1:Int)=>(Option.bind (Option.bind (bif(decide (s1<(x0.length:Int)))then(bif inR s1 x0.length then(some ((decide (((((x0.getD (s1:Int).toNat 0).toNat:Nat):Int))=32))))else none)else(some false)) fun(s4:Bool)=>(bif s4 then(some (.inl ()))else(some (.inr (.inr s1))))) (a0g fun(s6:Unit)=>(some (.inl (IntKind.wrap .i64 (s1+1))))))) big x1) fun(s0:Int)=>(Option.bind (a0s (fun(s2:Int)=>(Option.bind (Option.bind (bif(decide (s2<(x0.length:Int)))then(bif inR s2 x0.length then(Option.bind (e0c ((((x0.getD (s2:Int).toNat 0).toNat:Nat):Int))) fun y0=>(some y0))else none)else(some false)) fun(s5:Bool)=>(bif s5 then(some (.inl ()))else(some (.inr (.inr s2))))) (a0g fun(s7:Unit)=>(some (.inl (IntKind.wrap .i64 (s2+1))))))) big s0) fun(s3:Int)=>(bif inS s0 s3 x0.length then(some ((cut x0 s0 s3),s0))else none)))
theorem j0f {x0:List UInt8} {x1:Int} {r:(List UInt8)×Int} (h:e0N x0 x1=some r):SQ 196 [.ptr 0 0, .fn (.func 212) [] []] [.box [.str x0,iL x1]] (.str r.1) [.box [.str x0,iL r.2]]:=by
 refine kFn (fn:=Tryz.f196) (fun F H D W=> ?_)
 unfold e0N at h
 refine kq (kcN h (fun(s0:Int)=>([(0, .ptr 0 0),(1, .fn (.func 212) [] []),(4, .str ([]:List UInt8))],[.box [.str x0,iL s0]])) (fun s0 hy0=> ?_) (fun s0 h0=> ?_))
 ·refine kb 0 (kl (fun(s1:Int)=>([(0, .ptr 0 0),(1, .fn (.func 212) [] []),(4, .str ([]:List UInt8))],[.box [.str x0,iL s1]])) hy0 [0,1,4] (fun s1 x226 hs0=>kcX hs0 (fun(s6:Unit)=>([(0, .ptr 0 0),(1, .fn (.func 212) [] []),(4, .str ([]:List UInt8))],[.box [.str x0,iL s1]])) (fun y1 hy1 h1=> ?_) (fun s6 h2=> ?_)))
  ·refine kcN hy1 (fun(s4:Bool)=>([(0, .ptr 0 0),(1, .fn (.func 212) [] []),(4, .str ([]:List UInt8)),(27, .bool s4)],[.box [.str x0,iL s1]])) (fun s4 hy2=> ?_) (fun s4 h3=> ?_)
   ·refine kDr (kD 11 (kB 16 hy2 (fun h4=> ?_) (fun h5=> ?_)))
    ·refine kD 8 ?_
     obtain⟨hm,h6⟩:=b0y h4
     exact kQ 25 (.int .u8 (((x0.getD (s1:Int).toNat 0).toNat:Nat):Int)) [] (tr2:=[([],[]),([],[]),([],[]),([0,1],[]),([],[]),([],[]),([],[]),([0,1],[]),([],[]),([],[]),([],[]),([],[]),([],[]),([],[]),([0,1],[]),([],[]),([],[]),([],[]),([0,1],[]),([],[])]) hm (kD 2 (kE (kNo h6 [0,1,4,27])))
    ·exact kD 11 (kE (kNo h5 [0,1,4,27]))
   ·exact kBT 27 h3 (fun h7=>kK (kXo h7 [0,1,4])) (fun h8=>kEx 0 (kCx h8 h1 (fun h9=>kLx h9 (fun h10=>PJ.blockOut (kNo h10 [0,1,4])))))
  ·exact kb 1 (kM (PJ.blockNormal (kLo h2 [0,1,4])))
 ·refine kq (kcN h0 (fun(s3:Int)=>([(0, .ptr 0 0),(4, .str ([]:List UInt8)),(5,iL s3)],[.box [.str x0,iL s0]])) (fun s3 hy3=> ?_) (fun s3 h11=> ?_))
  ·exact kb 2 (kl (fun(s2:Int)=>([(0, .ptr 0 0),(1, .fn (.func 212) [] []),(4, .str ([]:List UInt8)),(5,iL s2)],[.box [.str x0,iL s0]])) hy3 [0,1,4,5] (fun s2 x555 hs1=>kcX hs1 (fun(s7:Unit)=>([(0, .ptr 0 0),(1, .fn (.func 212) [] []),(4, .str ([]:List UInt8)),(5,iL s2)],[.box [.str x0,iL s0]])) (fun y2 hy4 h12=>kcN hy4 (fun(s5:Bool)=>([(0, .ptr 0 0),(1, .fn (.func 212) [] []),(4, .str ([]:List UInt8)),(5,iL s2),(55, .bool s5)],[.box [.str x0,iL s0]])) (fun s5 hy5=>km 8 (kB 46 hy5 (fun h15=>kc 6 (kGb 53 h15 (fun h17=>kAb 54 h17 (fun _=>h0X) (fun y0 h18=>ke 1 (kNo h18 [0,1,4,5,55]))))) (fun h16=>ke 9 (kNo h16 [0,1,4,5,55])))) (fun s5 h14=>kBT 55 h14 (fun h19=>kK (kXo h19 [0,1,4,5])) (fun h20=>kEx 2 (kCx h20 h12 (fun h21=>kLx h21 (fun h22=>PJ.blockOut (kNo h22 [0,4,5]))))))) (fun s7 h13=>kb 3 (kM (PJ.blockNormal (kLo h13 [0,1,4,5]))))))
  ·refine kS (kDr (kD 9 ?_))
   obtain⟨hm,h23⟩:=b0y h11
   exact kQ 67 (.str (cut x0 s0 s3)) [] (tr2:=[([],[]),([],[]),([],[]),([0,1],[]),([],[]),([],[]),([],[]),([0,1],[]),([],[]),([],[])]) hm (kD 1 (kEN (kX (by obtain rfl:=oi h23;exact kRV [0] (.inr rfl) H D W))))
def d0L(x0:Int)(x1:List UInt8)(x2:Int):Option (Int×Bool×Int):=
 (Option.bind (e0N x1 x2) fun y0=>(Option.bind (Option.bind (bif(decide ((y0.1.length:Int)=0))then none else(bif(decide ((y0.1.length:Int)>9))then none else(bif(decide ((y0.1.length:Int)>1))then none else(some ())))) fun(s2:Unit)=>(some ())) fun(s3:Unit)=>(Option.bind (a0s (fun(s0:Int×Int)=>(bif(decide (s0.2<((a0N y0.1).length:Int)))then(bif inR s0.2 (a0N y0.1).length then(some (.inl ((IntKind.wrap .i64 ((IntKind.wrap .i64 (s0.1*10))+((IntKind.wrap .i64 ((IntKind.wrap .u8 ((nth (a0N y0.1) s0.2)-48))))))),(IntKind.wrap .i64 (s0.2+1)))))else none)else(some (.inr s0.1)))) big (0,0)) fun(s1:Int)=>(bif(decide (s1<x0))then none else(some (s1,true,(IntKind.wrap .i64 (y0.2+(y0.1.length:Int)))))))))
theorem h0B {x0:Int} {x1:List UInt8} {x2:Int} {r:Int×Bool×Int} (h:d0L x0 x1 x2=some r):SQ 207 [.ptr 0 0,iL x0] [.box [.str x1,iL x2]] (.tup [iL r.1, .bool r.2.1]) [.box [.str x1,iL r.2.2]]:=by
 refine kFn (fn:=Tryz.f207) (fun F H D W=> ?_)
 unfold d0L at h
 refine kq (kn 1 ?_)
 obtain⟨y0,hy0,h0⟩:=a0f h
 exact kCg (some 11) [0] (j0f hy0) (kr 1 (kcN h0 (fun(s3:Unit)=>([(0, .ptr 0 0),(1,iL x0),(4,iL 0),(5, .bool false),(6, .str y0.1)],[.box [.str x1,iL y0.2]])) (fun s3 hy1=>kcN hy1 (fun(s2:Unit)=>([(0, .ptr 0 0),(1,iL x0),(4,iL 0),(5, .bool false),(6, .str y0.1),(29, .bool false)],[.box [.str x1,iL y0.2]])) (fun s2 hy2=>km 4 (cTR 15 hy2 (fun h3=>kc 5 (cTR 20 h3 (fun h4=>kc 4 (cTR 24 h4 (fun h5=>ke 5 (kNo h5 [0,1,4,5,6,29])))))))) (fun s2 h2=>kF (kK (kNo h2 [0,1,4,5,6])))) (fun s3 h1=>kq (kcN h1 (fun(s1:Int)=>([(0, .ptr 0 0),(1,iL x0),(4,iL 0),(5, .bool false),(6, .str y0.1),(7,iL s1)],[.box [.str x1,iL y0.2]])) (fun s1 hy3=>kn 1 (RJ.rel (d:=(some 31)) (ef:=⟨.lst y0.1.length 1 (y0.1.map h0c),[],[]⟩) (ef':=⟨lB (a0N y0.1),[],[]⟩) (c:=true) (tr2:=[]) (H2:=[.box [.str x1,iL y0.2]]) (by kernel_rfl) rfl (fun hc=>N.toBytes) (by kernel_rfl) (kr 2 (kb 0 (kl (fun(s0:Int×Int)=>([(0, .ptr 0 0),(1,iL x0),(4,iL 0),(5, .bool false),(6, .str y0.1),(7,iL s0.1),(31,lB (a0N y0.1)),(32,iL ((a0N y0.1).length:Int)),(33,iL s0.2)],[.box [.str x1,iL y0.2]])) hy3 [0,1,4,5,6,7,31,32,33] (fun s0 x95 hs0=>kq (kS (kBT 34 hs0 (fun h7=>kKN (kS (kb 1 (kSR (kIb 35 (a0v .u8) h7 (fun h9=>kr 2 (kM (PJ.blockNormal (PJ.next (kM (kLo h9 [0,1,4,5,6,7,31,32,33]))))))))))) (fun h8=>kEp 0 (kLx h8 (fun h10=>PJ.blockOut (kNo h10 [0,1,4,5,6,7])))))))))))) (fun s1 h6=>kS (kq (cTF 46 h6 (fun h11=>kKN (kq (kq (kX (by obtain rfl:=oi h11;exact kRV [0] (.inr rfl) H D W))))))))))))
def d0K(x0:List UInt8)(x1 x2 x3:Int)(x4:Bool):Option (Bool×Int×(List h0S)):=
 (a0s (fun(s2:Unit)=>(Option.bind (d0L 0 x0 x1) fun y0=>(Option.bind (Option.bind (bif y0.2.1 then(Option.bind (c0e ([46,46]:List UInt8) x0 y0.2.2) fun y1=>(some (y1.1,y1.2)))else none) fun(s0:Bool×Int)=>(bif s0.1 then none else(some s0.2))) fun(s1:Int)=>(bif(!y0.2.1)then none else(bif room ([(⟨y0.1,y0.1⟩:h0S)]:List h0S).length then(Option.bind (c0e ([44]:List UInt8) x0 s1) fun y2=>(bif(!y2.1)then(some (.inr (true,y2.2,([(⟨y0.1,y0.1⟩:h0S)]:List h0S))))else none))else none))))) big ())
theorem h0A {x0:List UInt8} {x1 x2 x3:Int} {x4:Bool} {r:Bool×Int×(List h0S)} (h:d0K x0 x1 x2 x3 x4=some r):SQ 195 [.ptr 0 0, .ptr 1 0] [.box [.str x0,iL x1], .box [.int .u8 x2,iL x3, .bool x4, .nl]] (.bool r.1) [.box [.str x0,iL r.2.1], .box [.int .u8 x2,iL x3, .bool x4, .vc 2],a0z c0M 2 185 r.2.2]:=by
 refine kFn (fn:=Tryz.f195) (fun F H D W=> ?_)
 unfold d0K at h
 refine kq (kb 0 (kl (fun(s2:Unit)=>([(0, .ptr 0 0),(1, .ptr 1 0),(4, .bool false)],[.box [.str x0,iL x1], .box [.int .u8 x2,iL x3, .bool x4, .nl]])) h [0,1,4] (fun s2 x63 hs0=>kb 1 (kn 1 ?_))))
 obtain⟨y0,hy0,h0⟩:=a0f hs0
 refine kCg (some 10) [0] (h0B hy0) (kr 5 (kq (kcN h0 (fun(s1:Int)=>([(0, .ptr 0 0),(1, .ptr 1 0),(4, .bool false),(5,iL y0.1),(6, .bool y0.2.1),(7,iL y0.1)],[.box [.str x0,iL s1], .box [.int .u8 x2,iL x3, .bool x4, .nl]])) (fun s1 hy1=> ?_) (fun s1 h1=> ?_))))
 ·refine kcN hy1 (fun(s0:Bool×Int)=>([(0, .ptr 0 0),(1, .ptr 1 0),(4, .bool false),(5,iL y0.1),(6, .bool y0.2.1),(7,iL y0.1),(18, .bool s0.1)],[.box [.str x0,iL s0.2], .box [.int .u8 x2,iL x3, .bool x4, .nl]])) (fun s0 hy2=> ?_) (fun s0 h2=> ?_)
  ·refine km 2 (cFR 15 hy2 (fun h3=>kc 1 ?_))
   obtain⟨y1,hy3,h4⟩:=a0f h3
   exact kCg (some 17) [0] (c0J hy3) (ke 1 (kNo h4 [0,1,4,5,6,7,18]))
  ·exact cTF 18 h2 (fun h5=>kK (kNo h5 [0,1,4,5,6,7]))
 ·refine kS (kq (cTF 27 h1 (fun h6=>kKN (kn 9 ?_))))
  obtain⟨hm,h7⟩:=b0y h6
  refine RJ.rel (d:=(some 37)) (ef':=⟨.vc 3,[2],[(3, .vec ([(⟨y0.1,y0.1⟩:h0S)]:List h0S).length 2 185 (([(⟨y0.1,y0.1⟩:h0S)]:List h0S).flatMap c0M))]⟩) (tr2:=[]) (H2:=[.box [.str x0,iL s1], .box [.int .u8 x2,iL x3, .bool x4, .nl],a0z c0M 2 185 ([(⟨y0.1,y0.1⟩:h0S)]:List h0S),a0z c0M 2 185 ([(⟨y0.1,y0.1⟩:h0S)]:List h0S)]) (by kernel_rfl) hm (fun hc=>rfl) (by kernel_rfl) (kr 3 (kn 1 ?_))
  obtain⟨y2,hy4,h8⟩:=a0f h7
  exact kCg (some 41) [0] (c0J hy4) (kr 1 (cFT 42 h8 (fun h9=>kq (kXb (kLx h9 (fun h10=>PJ.blockRet (by obtain rfl:=oi h10;exact kRV [0,1,3] (.inr rfl) H D W)))))))
def d0s(x0:List UInt8)(x1:Int):Option (c0O×Bool×Int):=
 (Option.bind (Option.bind (d0z x0 x1 0 0 false) fun y0=>(bif y0.1 then(Option.bind (e0Q x0 y0.2.1 y0.2.2 0 false) fun y3=>(bif y3.1 then(Option.bind (e0A x0 y3.2 y0.2.2 0 false) fun y1=>(bif y1.1 then(Option.bind (d0K x0 y1.2 y0.2.2 0 false) fun y2=>(some (y2.1,y2.2.1,y0.2.2,y2.2.2)))else none))else none))else none)) fun(s0:Bool×Int×Int×(List h0S))=>(bif s0.1 then(some ((⟨s0.2.2.1,0,false,s0.2.2.2⟩:c0O),true,s0.2.1))else none))
theorem g0O {x0:List UInt8} {x1:Int} {r:c0O×Bool×Int} (h:d0s x0 x1=some r):SQ 174 [.ptr 0 0] [.box [.str x0,iL x1]] (.tup [.agg (a0t r.1), .bool r.2.1]) [.box [.str x0,iL r.2.2]]:=by
 refine kFn (fn:=Tryz.f174) (fun F H D W=> ?_)
 unfold d0s at h
 refine kq (kq (kS (kcN h (fun(s0:Bool×Int×Int×(List h0S))=>([(2, .ptr 1 0),(3, .bool false),(4, .ptr 2 0),(18, .bool s0.1)],[.box [.str x0,iL s0.2.1], .box [.int .u8 0,iL 0, .bool false, .nl], .box [.int .u8 s0.2.2.1,iL 0, .bool false, .vc 3],a0z c0M 2 185 s0.2.2.2])) (fun s0 hy0=> ?_) (fun s0 h0=> ?_))))
 ·refine km 1 ?_
  obtain⟨y0,hy1,h1⟩:=a0f hy0
  refine kCg (some 6) [0,2] (h0g hy1) (kc 1 (cFR 7 h1 (fun h2=>kc 1 ?_)))
  obtain⟨y3,hy2,h3⟩:=a0f h2
  refine kCg (some 9) [0,2] (j0i hy2) (kc 2 (cFR 11 h3 (fun h4=>kc 1 ?_)))
  obtain⟨y1,hy3,h5⟩:=a0f h4
  refine kCg (some 13) [0,2] (i0x hy3) (kc 2 (cFR 15 h5 (fun h6=>RJ.seg 1 [2,3,4,15,16] (L2:=[(2, .ptr 1 0),(3, .bool false),(4, .ptr 2 0),(15, .bool true),(16, .ptr 0 0)]) (H2:=[.box [.str x0,iL y1.2], .box [.int .u8 0,iL 0, .bool false, .nl], .box [.int .u8 y0.2.2,iL 0, .bool false, .nl]]) (by kernel_rfl) ?_)))
  obtain⟨y2,hy4,h7⟩:=a0f h6
  exact kCg (some 17) [0,2] (h0A hy4) (ke 1 (kNo h7 [2,3,4,18]))
 ·exact cFT 18 h0 (fun h8=>kq (kX (PJ.passRet (by obtain rfl:=oi h8;exact PJ.wk (Wk.freeze 3 (n:=s0.2.2.2.length) (k:=2) (e:=185) (cs:=s0.2.2.2.flatMap c0M) (by kernel_rfl)) (kRV [0] (.inr rfl) H D W)))))
def e0B(x0:List UInt8)(x1:Int):Option ((List (List c0O))×Bool×Int):=
 (Option.bind (a0s (fun(s1:Int×(List c0O))=>(Option.bind (d0s x0 s1.1) fun y1=>(bif(!y1.2.1)then none else(bif room (s1.2.length+([y1.1]:List c0O).length)then(Option.bind (d0m x0 y1.2.2) fun y0=>(bif(y0.1==([97,110,100]:List UInt8))then(some (.inl ((IntKind.wrap .i64 (y0.2+(y0.1.length:Int))),(s1.2++([y1.1]:List c0O)))))else(bif(y0.1==([111,114]:List UInt8))then none else(some (.inr (y0.2,(s1.2++([y1.1]:List c0O))))))))else none)))) big (x1,([]:List c0O))) fun(s0:Int×(List c0O))=>(bif room ([s0.2]:List (List c0O)).length then(some (([s0.2]:List (List c0O)),(decide (s0.1=(x0.length:Int))),s0.1))else none))
theorem i0y {x0:List UInt8} {x1:Int} {r:(List (List c0O))×Bool×Int} (h:e0B x0 x1=some r):SQ 154 [.ptr 0 0] [.box [.str x0,iL x1]] (.tup [lsv (k0P a0t 4) 1 r.1, .bool r.2.1]) [.box [.str x0,iL r.2.2]]:=by
 refine kFn (fn:=Tryz.f154) (fun F H D W=> ?_)
 unfold e0B at h
 refine kq (K.scope (by kernel_rfl) (kq (kq (kS (K.label (by kernel_rfl) (PJ.next (kcN h (fun(s0:Int×(List c0O))=>([(0, .ptr 0 0),(2, .nl),(3, .bool false),(4, .nl),(5, .vc 1)],[.box [.str x0,iL s0.1],a0z a0t 4 151 s0.2])) (fun s0 hy0=> ?_) (fun s0 h0=> ?_))))))))
 ·refine kb 0 (J.wk (Wk.viv 5 4 151 (by kernel_rfl)) (kl (fun(s1:Int×(List c0O))=>([(0, .ptr 0 0),(2, .nl),(3, .bool false),(4, .nl),(5, .vc 1)],[.box [.str x0,iL s1.1],a0z a0t 4 151 s1.2])) hy0 [0,2,3,4,5] (fun s1 x101 hs0=>kb 1 (kn 1 ?_))))
  obtain⟨y1,hy1,h1⟩:=a0f hs0
  refine kCg (some 11) [0] (g0O hy1) (kr 6 (kS (kq (cTF 15 h1 (fun h2=>kKN (kn 3 (kAp 19 1 4 4 151 [1,3] a0t h2 (fun h3=>kr 1 (kn 1 ?_)))))))))
  obtain⟨y0,hy2,h4⟩:=a0f h3
  exact kCg (some 21) [0] (f0g hy2) (kr 1 (kq (kb 2 (kSR (RJ.seg 2 [0,2,3,4,5,8,22,23] (L2:=[(0, .ptr 0 0),(2, .nl),(3, .bool false),(4, .nl),(5, .vc 4),(8, .str y0.1),(22, .str y0.1),(23, .bool (y0.1==([97,110,100]:List UInt8)))]) (H2:=[.box [.str x0,iL y0.2], .gone, .box (a0t y1.1),a0z a0t 4 151 ([y1.1]:List c0O),a0z a0t 4 151 (s1.2++([y1.1]:List c0O))]) (by kernel_rfl) (kEN (kBT 23 h4 (fun h5=>kM (PJ.blockNormal (PJ.blockNormal (kLW h5 D W [0,4])))) (fun h6=>kq (cTF 34 h6 (fun h7=>kEx 0 (PJ.blockPass (by kernel_rfl) (PJ.blockPass (by kernel_rfl) (kLx h7 (fun h8=>PJ.blockOut (kNW h8 D W [0,4])))))))))))))))
 ·refine kS (J.wk (Wk.freeze 1 (n:=s0.2.length) (k:=4) (e:=151) (cs:=s0.2.flatMap a0t) (by kernel_rfl)) (kDr (kD 3 ?_)))
  obtain⟨hm,h9⟩:=b0y h0
  exact RJ.rel (d:=(some 52)) (ef':=⟨.vc 3,[2],[(3, .vec ([s0.2]:List (List c0O)).length 1 148 (([s0.2]:List (List c0O)).flatMap (k0P a0t 4)))]⟩) (tr2:=[([],[]),([],[]),([],[4,5,4,5]),([4,5],[6,7,6,7])]) (H2:=[.box [.str x0,iL s0.1], .gone,a0z (k0P a0t 4) 1 148 ([s0.2]:List (List c0O)),a0z (k0P a0t 4) 1 148 ([s0.2]:List (List c0O))]) (by kernel_rfl) hm (fun hc=>rfl) (by kernel_rfl) (kD 12 (kEN (kX (PJ.scR (by obtain rfl:=oi h9;exact PJ.wk (Wk.freeze 3 (n:=([s0.2]:List (List c0O)).length) (k:=1) (e:=148) (cs:=([s0.2]:List (List c0O)).flatMap (k0P a0t 4)) (by kernel_rfl)) (kRV [0] (.inr rfl) H D W))))))
def j0C(x0:List (List c0O)):Option (Bool):=
 (Option.bind (a0s (fun(s0:Int×Int)=>(bif(decide (s0.2<(x0.length:Int)))then(Option.bind (bif inR s0.2 x0.length then(a0s (fun(s1:Int)=>(bif(decide (s1<((nth x0 s0.2).length:Int)))then(bif inR s1 (nth x0 s0.2).length then(bif(decide (((((nth (nth x0 s0.2) s1).R_).length:Int))>20))then none else(some (.inl (IntKind.wrap .i64 (s1+1)))))else none)else(some (.inr ())))) big 0)else none) fun(s3:Unit)=>(some (.inl ((IntKind.wrap .i64 (s0.1+((nth x0 s0.2).length:Int))),(IntKind.wrap .i64 (s0.2+1))))))else(some (.inr s0.1)))) big (0,0)) fun(s2:Int)=>(some (decide (s2>20))))
theorem n0N {x0:List (List c0O)} {r:Bool} (h:j0C x0=some r):SQ 155 [lsv (k0P a0t 4) 1 x0] [] (.bool r) []:=by
 refine kFn (fn:=Tryz.f155) (fun F H D W=> ?_)
 unfold j0C at h
 exact kq (kq (kcN h (fun(s2:Int)=>([(2, .bool false),(3,iL s2)],[])) (fun s2 hy0=>kq (kb 0 (kl (fun(s0:Int×Int)=>([(2, .bool false),(3,iL s0.1),(8,lsv (k0P a0t 4) 1 x0),(9,iL (x0.length:Int)),(10,iL s0.2)],[])) hy0 [2,3,8,9,10] (fun s0 x371 hs0=>kq (kS (kBT 11 hs0 (fun h1=>kKN (kcN h1 (fun(s3:Unit)=>([(2, .bool false),(3,iL ((IntKind.wrap .i64 (s0.1+((nth x0 s0.2).length:Int))))),(8,lsv (k0P a0t 4) 1 x0),(9,iL (x0.length:Int)),(10,iL s0.2)],[])) (fun s3 hy1=>kb 1 (kSR (kIb 12 (n0t a0t 4) hy1 (fun h4=>kr 2 (kq (kq (kb 2 (kl (fun(s1:Int)=>([(2, .bool false),(3,iL ((IntKind.wrap .i64 (s0.1+((nth x0 s0.2).length:Int))))),(8,lsv (k0P a0t 4) 1 x0),(9,iL (x0.length:Int)),(10,iL s0.2),(18,lsv a0t 4 (nth x0 s0.2)),(19,iL ((nth x0 s0.2).length:Int)),(20,iL s1)],[])) h4 [2,3,8,9,10,18,19,20] (fun s1 x432 hs1=>kq (kS (kBT 21 hs1 (fun h5=>kKN (kS (kb 3 (kSR (kIb 22 h0u h5 (fun h7=>kr 3 (kq (cTF 27 h7 (fun h8=>kKn (kM (kLW h8 D W []))))))))))) (fun h6=>kEp 2 (kLx h6 (fun h9=>PJ.blockOut (PJ.blockNormal (kNo h9 [2,3,8,9,10])))))))))))))))) (fun s3 h3=>kM (kLo h3 [2,3,8,9,10])))) (fun h2=>kEp 0 (kLx h2 (fun h10=>PJ.blockOut (kNo h10 [2,3])))))))))) (fun s2 h0=>kq (kX (by cases h0;exact kZ H D W)))))
def k0u(x0:List UInt8):Option ((List (List c0O))×Int×Int):=
 (bif(decide ((x0.length:Int)>400))then none else(Option.bind (e0B x0 0) fun y0=>(bif(!y0.2.1)then none else(Option.bind (j0C y0.1) fun y1=>(bif y1 then none else(some (y0.1,0,0)))))))
theorem l0E {x0:List UInt8} {r:(List (List c0O))×Int×Int} (h:k0u x0=some r):SQ 131 [.str x0] [] (.tup [lsv (k0P a0t 4) 1 r.1,iL r.2.1,iL r.2.2]) []:=by
 refine kFn (fn:=Tryz.f131) (fun F H D W=> ?_)
 unfold k0u at h
 refine kq (kS (kq (cTF 10 h (fun h0=>kKN (kq (kn 1 ?_))))))
 obtain⟨y0,hy0,h1⟩:=a0f h0
 exact kCg (some 16) [0] (i0y hy0) (kr 5 (kS (kq (cTF 20 h1 (fun h2=>kKN (kS (kn 1 (kAb 26 h2 (fun _=>n0N) (fun y1 h3=>kEN (cTF 26 h3 (fun h4=>kKN (kq (kX (by cases h4;exact kZ H D W))))))))))))))
def i0s(x0:Int):Option (List UInt8):=
 (bif(decide (x0<10))then(bif inS x0 (IntKind.wrap .i64 (x0+1)) ([48,49,50,51,52,53,54,55,56,57,97,98,99,100,101,102,103,104,105,106,107,108,109,110,111,112,113,114,115,116,117,118,119,120,121,122]:List UInt8).length then(some (cut ([48,49,50,51,52,53,54,55,56,57,97,98,99,100,101,102,103,104,105,106,107,108,109,110,111,112,113,114,115,116,117,118,119,120,121,122]:List UInt8) x0 (IntKind.wrap .i64 (x0+1))))else none)else none)
theorem n0a {x0:Int} {r:List UInt8} (h:i0s x0=some r):SQ 216 [iL x0] [] (.str r) []:=by
 refine kFn (fn:=Tryz.f216) (fun F H D W=> ?_)
 unfold i0s at h
 refine kq (kS (kq (cFT 4 h (fun h0=>kn 3 ?_))))
 obtain⟨hm,h1⟩:=b0y h0
 exact kQ 8 (.str (cut ([48,49,50,51,52,53,54,55,56,57,97,98,99,100,101,102,103,104,105,106,107,108,109,110,111,112,113,114,115,116,117,118,119,120,121,122]:List UInt8) x0 (IntKind.wrap .i64 (x0+1)))) [] (tr2:=[]) hm (kr 1 (kX (PJ.passRet (by cases h1;exact kZ H D W))))
def f0f(x0:List Int)(x1 x2:Int):Option (List Int):=
 (bif(decide (x2=10))then(bif(decide (x1<100))then(Option.bind (i0s (IntKind.wrap .i64 x1)) fun y0=>(bif room (x0.length+y0.length)then(some (x0++(a0N y0)))else none))else none)else none)
theorem h0V {x0:List Int} {x1 x2:Int} {r:List Int} (h:f0f x0 x1 x2=some r):SQ 213 [.vc 0, .int .u64 x1,iL x2] [a0z (a0u .u8) 1 5 x0] (.vc 1) [.gone,a0z (a0u .u8) 1 5 r]:=by
 refine kFn (fn:=Tryz.f213) (fun F H D W=> ?_)
 unfold f0f at h
 refine kq (kS (kq (cFT 10 h (fun h0=>kS (kq (cFT 12 h0 (fun h1=>kn 3 (kAb 16 h1 (fun _=>n0a) (fun y0 h2=> ?_)))))))))
 obtain⟨hm,h3⟩:=b0y h2
 exact RJ.rel (d:=(some 17)) (ef:=⟨.vc 1,[0],[(0, .gone),(1, .vec (x0.length+y0.length) 1 5 (x0.flatMap (a0u .u8)++y0.map h0c))]⟩) (ef':=⟨.vc 1,[0],[(0, .gone),(1,a0z (a0u .u8) 1 5 (x0++(a0N y0)))]⟩) (c:=q0G (x0.length+y0.length)) (tr2:=[]) (H2:=[.gone,a0z (a0u .u8) 1 5 (x0++(a0N y0))]) (by kernel_rfl) (g0x hm) (fun hc=>(by rw[n0v,←f0S y0];exact N.app)) (by kernel_rfl) (kr 1 (kX (PJ.passRet (PJ.passRet (by obtain rfl:=oi h3;exact kRV [0,1] (.inr rfl) H D W)))))
def e0b(x0:List Int)(x1 x2:Int):Option (List Int):=
 (Option.bind (bif(decide (x1<0))then none else(some ())) fun(s0:Unit)=>(Option.bind (f0f x0 (IntKind.wrap .u64 x1) x2) fun y0=>(some y0)))
theorem g0N {x0:List Int} {x1 x2:Int} {r:List Int} (h:e0b x0 x1 x2=some r):SQ 208 [.vc 0,iL x1,iL x2] [a0z (a0u .u8) 1 5 x0] (.vc 1) [.gone,a0z (a0u .u8) 1 5 r]:=by
 refine kFn (fn:=Tryz.f208) (fun F H D W=> ?_)
 unfold e0b at h
 refine kq (kq (kcN h (fun(s0:Unit)=>([(0, .vc 0),(2,iL x2),(6, .nl),(7, .int .u64 (IntKind.wrap .u64 x1))],[a0z (a0u .u8) 1 5 x0])) (fun s0 hy0=> ?_) (fun s0 h0=> ?_)))
 ·exact kq (cTF 11 hy0 (fun h1=>kK (kNo h1 [0,2,6,7])))
 ·refine kn 3 ?_
  obtain⟨y0,hy1,h2⟩:=a0f h0
  exact kCg (some 20) [0] (h0V hy1) (kr 1 (kX (by obtain rfl:=oi h2;exact kRV [0,1] (.inr rfl) H D W)))
def f0K(x0:List Int)(x1 x2:Int):Option (List Int):=
 (Option.bind (e0b x0 x1 x2) fun y0=>(some y0))
theorem i0t {x0:List Int} {x1 x2:Int} {r:List Int} (h:f0K x0 x1 x2=some r):SQ 198 [.vc 0,iL x1,iL x2] [a0z (a0u .u8) 1 5 x0] (.vc 1) [.gone,a0z (a0u .u8) 1 5 r]:=by
 refine kFn (fn:=Tryz.f198) (fun F H D W=> ?_)
 unfold f0K at h
 refine kq (kn 3 ?_)
 obtain⟨y0,hy0,h0⟩:=a0f h
 exact kCg (some 10) [0] (g0N hy0) (kr 1 (kX (by obtain rfl:=oi h0;exact kRV [0,1] (.inr rfl) H D W)))
def i0w(x0:List Int)(x1:c0O):Option (List Int):=
 (bif room (x0.length+([x1.K_]:List Int).length)then(Option.bind (bif(decide (¬x1.Z_=0))then none else(some ())) fun(s3:Unit)=>(Option.bind (bif x1.Y_ then none else(bif room ((x0++([x1.K_]:List Int)).length+([32,61,32]:List UInt8).length)then(some ())else none)) fun(s4:Unit)=>(Option.bind (a0s (fun(s0:Int×(List Int))=>(bif(decide (s0.1<(x1.R_.length:Int)))then(Option.bind (bif inR s0.1 x1.R_.length then(Option.bind (bif(decide (s0.1>0))then none else(some ())) fun(s5:Unit)=>(Option.bind (f0K s0.2 ((nth x1.R_ s0.1).s_) 10) fun y0=>(bif(decide (¬((nth x1.R_ s0.1).s_)=((nth x1.R_ s0.1).q_)))then none else(some y0))))else none) fun(s1:(List Int))=>(some (.inl ((IntKind.wrap .i64 (s0.1+1)),s1))))else(some (.inr s0.2)))) big (0,((x0++([x1.K_]:List Int))++(a0N ([32,61,32]:List UInt8))))) fun(s2:(List Int))=>(some s2))))else none)
theorem l0g {x0:List Int} {x1:c0O} {r:List Int} (h:i0w x0 x1=some r):SQ 176 [.vc 0, .agg (a0t x1)] [a0z (a0u .u8) 1 5 x0] (.vc 1) [.gone,a0z (a0u .u8) 1 5 r]:=by
 refine kFn (fn:=Tryz.f176) (fun F H D W=> ?_)
 unfold i0w at h
 refine kq (kn 4 ?_)
 obtain⟨hm,h0⟩:=b0y h
 refine RJ.rel (d:=(some 11)) (ef:=⟨.vc 3,[0,2],[(0, .gone),(3, .vec (x0.length+([x1.K_]:List Int).length) 1 5 (x0.flatMap (a0u .u8)++([x1.K_]:List Int).flatMap (a0u .u8)))]⟩) (ef':=⟨.vc 3,[0,2],[(0, .gone),(3,a0z (a0u .u8) 1 5 (x0++([x1.K_]:List Int)))]⟩) (c:=q0G (x0.length+([x1.K_]:List Int).length)) (tr2:=[]) (H2:=[.gone, .box (a0t x1),a0z (a0u .u8) 1 5 ([x1.K_]:List Int),a0z (a0u .u8) 1 5 (x0++([x1.K_]:List Int))]) (by kernel_rfl) (g0x hm) (fun hc=>N.app) (by kernel_rfl) (kr 1 (kcN h0 (fun(s3:Unit)=>([(0, .vc 1),(3, .ptr 2 0),(4, .nl)],[.gone,a0z (a0u .u8) 1 5 (x0++([x1.K_]:List Int)), .box (a0t x1)])) (fun s3 hy0=> ?_) (fun s3 h1=> ?_)))
 ·exact kq (cTF 14 hy0 (fun h2=>kK (kNW h2 D W [0,3,1])))
 ·refine kcN h1 (fun(s4:Unit)=>([(0, .vc 1),(3, .ptr 2 0),(4, .nl)],[.gone,a0z (a0u .u8) 1 5 (((x0++([x1.K_]:List Int))++(a0N ([32,61,32]:List UInt8)))), .box (a0t x1)])) (fun s4 hy1=> ?_) (fun s4 h3=> ?_)
  ·refine kq (cTF 22 hy1 (fun h4=>km 1 ?_))
   obtain⟨hm,h5⟩:=b0y h4
   exact RJ.rel (d:=(some 26)) (ef:=⟨.vc 3,[1],[(1, .gone),(3, .vec ((x0++([x1.K_]:List Int)).length+([32,61,32]:List UInt8).length) 1 5 ((x0++([x1.K_]:List Int)).flatMap (a0u .u8)++([32,61,32]:List UInt8).map h0c))]⟩) (ef':=⟨.vc 3,[1],[(1, .gone),(3,a0z (a0u .u8) 1 5 ((x0++([x1.K_]:List Int))++(a0N ([32,61,32]:List UInt8))))]⟩) (c:=q0G ((x0++([x1.K_]:List Int)).length+([32,61,32]:List UInt8).length)) (tr2:=[]) (H2:=[.gone, .gone, .box (a0t x1),a0z (a0u .u8) 1 5 (((x0++([x1.K_]:List Int))++(a0N ([32,61,32]:List UInt8))))]) (by kernel_rfl) (g0x hm) (fun hc=>(by rw[n0v,←f0S ([32,61,32]:List UInt8)];exact N.app)) (by kernel_rfl) (ke 1 (kNW h5 D W [0,3,2]))
  ·refine kcN h3 (fun(s2:(List Int))=>([(0, .vc 1),(4, .nl)],[.gone,a0z (a0u .u8) 1 5 s2])) (fun s2 hy2=> ?_) (fun s2 h6=> ?_)
   ·refine kq (kb 0 (J.wk (Wk.sel (L2:=[(0, .vc 1),(4, .nl),(28,lsv c0M 2 x1.R_),(29,iL (x1.R_.length:Int)),(30,iL 0)]) (H2:=[.gone,a0z (a0u .u8) 1 5 (((x0++([x1.K_]:List Int))++(a0N ([32,61,32]:List UInt8))))]) 1 (by rw[D];rfl) W [0,1] (by kernel_rfl) (by kernel_rfl) (by decide) (by kernel_rfl) (by kernel_rfl) (by kernel_rfl) (by kernel_rfl)) (kl (fun(s0:Int×(List Int))=>([(0, .vc 1),(4, .nl),(28,lsv c0M 2 x1.R_),(29,iL (x1.R_.length:Int)),(30,iL s0.1)],[.gone,a0z (a0u .u8) 1 5 s0.2])) hy2 [0,4,28,29,30] (fun s0 x266 hs0=>kq (kS (kBT 31 hs0 (fun h7=> ?_) (fun h8=> ?_)))))))
    ·refine kKN (kcN h7 (fun(s1:(List Int))=>([(0, .vc 1),(4, .nl),(28,lsv c0M 2 x1.R_),(29,iL (x1.R_.length:Int)),(30,iL s0.1)],[.gone,a0z (a0u .u8) 1 5 s1])) (fun s1 hy3=> ?_) (fun s1 h9=> ?_))
     ·refine kb 1 (kn 1 (kIb 33 k0i hy3 (fun h10=>kr 4 (kcN h10 (fun(s5:Unit)=>([(0, .vc 1),(4, .nl),(6, .ptr 2 0),(28,lsv c0M 2 x1.R_),(29,iL (x1.R_.length:Int)),(30,iL s0.1)],[.gone,a0z (a0u .u8) 1 5 s0.2, .box [iL ((nth x1.R_ s0.1).s_),iL ((nth x1.R_ s0.1).q_)]])) (fun s5 hy4=> ?_) (fun s5 h11=> ?_)))))
      ·exact kq (cTF 36 hy4 (fun h12=>kK (kNo h12 [0,4,6,28,29,30])))
      ·refine kn 3 ?_
       obtain⟨y0,hy5,h13⟩:=a0f h11
       exact kCg (some 43) [1] (i0t hy5) (kr 1 (kq (cTF 48 h13 (fun h14=>kKb (kNW h14 D W [0,3])))))
     ·exact kM (kLo h9 [0,4,28,29,30])
    ·exact kEp 0 (kLx h8 (fun h15=>PJ.blockOut (kNo h15 [0,4])))
   ·exact kq (kX (by obtain rfl:=oi h6;exact kRV [0,1] (.inr rfl) H D W))
def n0P(x0:List (List c0O)):Option (List UInt8):=
 (Option.bind (a0s (fun(s0:Int×(List Int))=>(bif(decide (s0.1<(x0.length:Int)))then(Option.bind (bif inR s0.1 x0.length then(a0s (fun(s1:Int×(List Int))=>(bif(decide (s1.1<((nth x0 s0.1).length:Int)))then(Option.bind (bif inR s1.1 (nth x0 s0.1).length then(Option.bind (bif(decide ((s1.2.length:Int)=0))then(some s1.2)else(bif(decide (s1.1=0))then none else(bif room (s1.2.length+([32,97,110,100,32]:List UInt8).length)then(some ((s1.2++(a0N ([32,97,110,100,32]:List UInt8)))))else none))) fun(s3:(List Int))=>(Option.bind (i0w s3 (nth (nth x0 s0.1) s1.1)) fun y0=>(some y0)))else none) fun(s4:(List Int))=>(some (.inl ((IntKind.wrap .i64 (s1.1+1)),s4))))else(some (.inr s1.2)))) big (0,s0.2))else none) fun(s5:(List Int))=>(some (.inl ((IntKind.wrap .i64 (s0.1+1)),s5))))else(some (.inr s0.2)))) big (0,([]:List Int))) fun(s2:(List Int))=>(some (a0q s2)))
theorem q0E {x0:List (List c0O)} {r:List UInt8} (h:n0P x0=some r):SQ 156 [lsv (k0P a0t 4) 1 x0] [] (.str r) []:=by
 refine kFn (fn:=Tryz.f156) (fun F H D W=> ?_)
 unfold n0P at h
 refine kq (kq (kcN h (fun(s2:(List Int))=>([(2, .str ([]:List UInt8)),(3, .vc 0)],[a0z (a0u .u8) 1 5 s2])) (fun s2 hy0=> ?_) (fun s2 h0=> ?_)))
 ·refine kq (kb 0 (J.wk (Wk.viv 3 1 5 (by kernel_rfl)) (kl (fun(s0:Int×(List Int))=>([(2, .str ([]:List UInt8)),(3, .vc 0),(8,lsv (k0P a0t 4) 1 x0),(9,iL (x0.length:Int)),(10,iL s0.1)],[a0z (a0u .u8) 1 5 s0.2])) hy0 [2,3,8,9,10] (fun s0 x1781 hs0=>kq (kS (kBT 11 hs0 (fun h1=> ?_) (fun h2=> ?_)))))))
  ·refine kKN (kcN h1 (fun(s5:(List Int))=>([(2, .str ([]:List UInt8)),(3, .vc 0),(8,lsv (k0P a0t 4) 1 x0),(9,iL (x0.length:Int)),(10,iL s0.1)],[a0z (a0u .u8) 1 5 s5])) (fun s5 hy1=> ?_) (fun s5 h3=> ?_))
   ·refine kb 1 (kSR (kIb 12 (n0t a0t 4) hy1 (fun h4=>kr 2 (kq (kb 2 (kl (fun(s1:Int×(List Int))=>([(2, .str ([]:List UInt8)),(3, .vc 0),(8,lsv (k0P a0t 4) 1 x0),(9,iL (x0.length:Int)),(10,iL s0.1),(14,lsv a0t 4 (nth x0 s0.1)),(15,iL ((nth x0 s0.1).length:Int)),(16,iL s1.1)],[a0z (a0u .u8) 1 5 s1.2])) h4 [2,3,8,9,10,14,15,16] (fun s1 x2077 hs1=>kq (kS (kBT 17 hs1 (fun h5=> ?_) (fun h6=> ?_))))))))))
    ·refine kKN (kcN h5 (fun(s4:(List Int))=>([(2, .str ([]:List UInt8)),(3, .vc 0),(8,lsv (k0P a0t 4) 1 x0),(9,iL (x0.length:Int)),(10,iL s0.1),(14,lsv a0t 4 (nth x0 s0.1)),(15,iL ((nth x0 s0.1).length:Int)),(16,iL s1.1)],[a0z (a0u .u8) 1 5 s4])) (fun s4 hy2=> ?_) (fun s4 h7=> ?_))
     ·refine kb 3 (kn 1 (kIb 19 h0u hy2 (fun h8=>kr 4 (kcN h8 (fun(s3:(List Int))=>([(2, .str ([]:List UInt8)),(3, .vc 0),(7, .ptr 1 0),(8,lsv (k0P a0t 4) 1 x0),(9,iL (x0.length:Int)),(10,iL s0.1),(14,lsv a0t 4 (nth x0 s0.1)),(15,iL ((nth x0 s0.1).length:Int)),(16,iL s1.1)],[a0z (a0u .u8) 1 5 s3, .box [.int .u8 ((nth (nth x0 s0.1) s1.1).K_),iL ((nth (nth x0 s0.1) s1.1).Z_), .bool ((nth (nth x0 s0.1) s1.1).Y_),lsv c0M 2 ((nth (nth x0 s0.1) s1.1).R_)]])) (fun s3 hy3=> ?_) (fun s3 h9=> ?_)))))
      ·refine kb 4 (kq (kBT 23 hy3 (fun h10=> ?_) (fun h11=> ?_)))
       ·exact kKb (kNo h10 [2,3,7,8,9,10,14,15,16])
       ·refine kq (cTF 27 h11 (fun h12=>km 1 ?_))
        obtain⟨hm,h13⟩:=b0y h12
        exact RJ.rel (d:=(some 22)) (ef:=⟨.vc 2,[0],[(0, .gone),(2, .vec (s1.2.length+([32,97,110,100,32]:List UInt8).length) 1 5 (s1.2.flatMap (a0u .u8)++([32,97,110,100,32]:List UInt8).map h0c))]⟩) (ef':=⟨.vc 2,[0],[(0, .gone),(2,a0z (a0u .u8) 1 5 (s1.2++(a0N ([32,97,110,100,32]:List UInt8))))]⟩) (c:=q0G (s1.2.length+([32,97,110,100,32]:List UInt8).length)) (tr2:=[]) (H2:=[.gone, .box [.int .u8 ((nth (nth x0 s0.1) s1.1).K_),iL ((nth (nth x0 s0.1) s1.1).Z_), .bool ((nth (nth x0 s0.1) s1.1).Y_),lsv c0M 2 ((nth (nth x0 s0.1) s1.1).R_)],a0z (a0u .u8) 1 5 ((s1.2++(a0N ([32,97,110,100,32]:List UInt8))))]) (by kernel_rfl) (g0x hm) (fun hc=>(by rw[n0v,←f0S ([32,97,110,100,32]:List UInt8)];exact N.app)) (by kernel_rfl) (ke 1 (PJ.blockNormal (kNW h13 D W [2,1])))
      ·refine km 2 ?_
       obtain⟨y0,hy4,h14⟩:=a0f h9
       exact kCg (some 34) [0] (l0g hy4) (ke 1 (PJ.blockNormal (kNW h14 D W [2])))
     ·exact kM (kLo h7 [2,3,8,9,10,14,15,16])
    ·exact kEp 2 (kLx h6 (fun h15=>PJ.blockOut (PJ.blockNormal (kNo h15 [2,3,8,9,10]))))
   ·exact kM (kLo h3 [2,3,8,9,10])
  ·exact kEp 0 (kLx h2 (fun h16=>PJ.blockOut (kNo h16 [2,3])))
 ·exact kn 1 (RJ.rel (d:=(some 38)) (ef:=⟨.str ((s2.flatMap (a0u .u8)).map Go.Sy.byteOf),[0],[]⟩) (ef':=⟨.str (a0q s2),[0],[]⟩) (c:=(s2.flatMap (a0u .u8)).all l0U) (tr2:=[]) (H2:=[a0z (a0u .u8) 1 5 s2]) (by kernel_rfl) (w0T s2) (fun hc=>N.toStr) (by kernel_rfl) (kr 1 (kX (by cases h0;exact kZ H D W))))
def g0h(x0 x1:List h0S):Option (Bool):=
 (bif(decide (¬(x0.length:Int)=(x1.length:Int)))then none else(Option.bind (a0s (fun(s0:Int)=>(bif(decide (s0<(x0.length:Int)))then(bif inR s0 x0.length then(bif inR s0 x1.length then(bif(!((decide (((nth x0 s0).s_)=((nth x1 s0).s_)))&&((decide (((nth x0 s0).q_)=((nth x1 s0).q_)))&&true)))then none else(some (.inl (IntKind.wrap .i64 (s0+1)))))else none)else none)else(some (.inr ())))) big 0) fun(s1:Unit)=>(some true)))
theorem l0d {x0 x1:List h0S} {r:Bool} (h:g0h x0 x1=some r):SQ 199 [lsv c0M 2 x0,lsv c0M 2 x1] [] (.bool r) []:=by
 refine kFn (fn:=Tryz.f199) (fun F H D W=> ?_)
 unfold g0h at h
 refine kq (kS (kq (cTF 10 h (fun h0=>kKN (kcN h0 (fun(s1:Unit)=>([(4, .bool false)],[])) (fun s1 hy0=> ?_) (fun s1 h1=> ?_))))))
 ·refine kq (kb 0 (kl (fun(s0:Int)=>([(0,lsv c0M 2 x0),(1,lsv c0M 2 x1),(4, .bool false),(12,iL (x0.length:Int)),(13,iL s0)],[])) hy0 [0,1,4,12,13] (fun s0 x64 hs0=>kq (kS (kBT 14 hs0 (fun h2=> ?_) (fun h3=> ?_))))))
  ·refine kKN (kS (kb 1 (kq (kS (kDr (kD 2 ?_))))))
   obtain⟨hm,h4⟩:=b0y h2
   refine kJ 18 (tr2:=[([],[]),([],[]),([],[])]) k0i hm (kD 3 ?_)
   obtain⟨hm,h5⟩:=b0y h4
   exact kJ 22 (tr2:=[([],[]),([],[]),([],[]),([],[]),([],[]),([],[]),([],[])]) k0i hm (kD 2 (kEN (cTF 24 h5 (fun h6=>kKn (kM (kLo h6 [0,1,4,12,13]))))))
  ·exact kEp 0 (kLx h3 (fun h7=>PJ.blockOut (kNo h7 [4])))
 ·exact kq (kX (by cases h1;exact kZ H D W))
def j0D(x0 x1:c0O):Option (Bool):=
 (Option.bind (bif(decide (x0.K_=x1.K_))then(bif(decide (x0.Z_=x1.Z_))then(bif(x0.Y_==x1.Y_)then(Option.bind (g0h x0.R_ x1.R_) fun y0=>(some y0))else none)else none)else none) fun(s0:Bool)=>(some s0))
theorem n0O {x0 x1:c0O} {r:Bool} (h:j0D x0 x1=some r):SQ 180 [.agg (a0t x0), .agg (a0t x1)] [] (.bool r) []:=by
 refine kFn (fn:=Tryz.f180) (fun F H D W=> ?_)
 unfold j0D at h
 exact kq (kcN h (fun(s0:Bool)=>([(4, .bool s0)],[])) (fun s0 hy0=>km 6 (cFR 10 hy0 (fun h1=>kc 7 (cFR 17 h1 (fun h2=>kc 7 (cFR 24 h2 (fun h3=>kc 4 (kAb 29 h3 (fun _=>l0d) (fun y0 h4=>ke 2 (kNW h4 D W [])))))))))) (fun s0 h0=>kX (by cases h0;exact kZ H D W)))
def h0e(x0 x1:List c0O):Option (Bool):=
 (bif(decide (¬(x0.length:Int)=(x1.length:Int)))then none else(Option.bind (a0s (fun(s0:Int)=>(bif(decide (s0<(x0.length:Int)))then(bif inR s0 x0.length then(bif inR s0 x1.length then(Option.bind (j0D (nth x0 s0) (nth x1 s0)) fun y0=>(bif(!y0)then none else(some (.inl (IntKind.wrap .i64 (s0+1))))))else none)else none)else(some (.inr ())))) big 0) fun(s1:Unit)=>(some true)))
theorem m0f {x0 x1:List c0O} {r:Bool} (h:h0e x0 x1=some r):SQ 179 [lsv a0t 4 x0,lsv a0t 4 x1, .fn (.func 180) [] []] [] (.bool r) []:=by
 refine kFn (fn:=Tryz.f179) (fun F H D W=> ?_)
 unfold h0e at h
 exact kq (kS (kq (cTF 14 h (fun h0=>kKN (kcN h0 (fun(s1:Unit)=>([(6, .bool false)],[])) (fun s1 hy0=>kq (kb 0 (kl (fun(s0:Int)=>([(1,lsv a0t 4 x1),(2, .fn (.func 180) [] []),(6, .bool false),(15,lsv a0t 4 x0),(16,iL (x0.length:Int)),(17,iL s0)],[])) hy0 [1,2,6,15,16,17] (fun s0 x79 hs0=>kq (kS (kBT 18 hs0 (fun h2=>kKN (kS (kb 1 (kn 1 (kIb 20 h0u h2 (fun h4=>kr 4 (kn 2 (kIb 24 h0u h4 (fun h5=>kr 3 (kn 3 (kAb 29 h5 (fun _=>n0O) (fun y0 h6=>kr 1 (cTF 30 h6 (fun h7=>kKn (kM (kLW h7 D W [])))))))))))))))) (fun h3=>kEp 0 (kLx h3 (fun h8=>PJ.blockOut (kNo h8 [6])))))))))) (fun s1 h1=>kq (kX (by obtain rfl:=oi h1;exact kRV [] (.inr rfl) H D W))))))))
def l0h(x0 x1:List c0O):Option (Bool):=
 (Option.bind (h0e x0 x1) fun y0=>(some y0))
theorem o0E {x0 x1:List c0O} {r:Bool} (h:l0h x0 x1=some r):SQ 178 [lsv a0t 4 x0,lsv a0t 4 x1] [] (.bool r) []:=by
 refine kFn (fn:=Tryz.f178) (fun F H D W=> ?_)
 unfold l0h at h
 refine kq (kn 2 ?_)
 obtain⟨y0,hy0,h0⟩:=a0f h
 exact kCg (some 7) [] (m0f hy0) (kr 1 (kX (by cases h0;exact kZ H D W)))
def l0s(x0 x1:List (List c0O)):Option (Bool):=
 (bif(decide (¬(x0.length:Int)=(x1.length:Int)))then none else(Option.bind (a0s (fun(s0:Int)=>(bif(decide (s0<(x0.length:Int)))then(bif inR s0 x0.length then(bif inR s0 x1.length then(Option.bind (l0h (nth x0 s0) (nth x1 s0)) fun y0=>(bif(!y0)then none else(some (.inl (IntKind.wrap .i64 (s0+1))))))else none)else none)else(some (.inr ())))) big 0) fun(s1:Unit)=>(some true)))
theorem o0P {x0 x1:List (List c0O)} {r:Bool} (h:l0s x0 x1=some r):SQ 177 [lsv (k0P a0t 4) 1 x0,lsv (k0P a0t 4) 1 x1, .fn (.func 178) [] []] [] (.bool r) []:=by
 refine kFn (fn:=Tryz.f177) (fun F H D W=> ?_)
 unfold l0s at h
 exact kq (kS (kq (cTF 14 h (fun h0=>kKN (kcN h0 (fun(s1:Unit)=>([(6, .bool false)],[])) (fun s1 hy0=>kq (kb 0 (kl (fun(s0:Int)=>([(1,lsv (k0P a0t 4) 1 x1),(2, .fn (.func 178) [] []),(6, .bool false),(15,lsv (k0P a0t 4) 1 x0),(16,iL (x0.length:Int)),(17,iL s0)],[])) hy0 [1,2,6,15,16,17] (fun s0 x79 hs0=>kq (kS (kBT 18 hs0 (fun h2=>kKN (kS (kb 1 (kn 1 (kIb 20 (n0t a0t 4) h2 (fun h4=>kr 3 (kn 2 (kIb 24 (n0t a0t 4) h4 (fun h5=>kr 2 (kn 3 (kAb 29 h5 (fun _=>o0E) (fun y0 h6=>kr 1 (cTF 30 h6 (fun h7=>kKn (kM (kLo h7 [1,2,6,15,16,17])))))))))))))))) (fun h3=>kEp 0 (kLx h3 (fun h8=>PJ.blockOut (kNo h8 [6])))))))))) (fun s1 h1=>kq (kX (by obtain rfl:=oi h1;exact kRV [] (.inr rfl) H D W))))))))
def n0Q(x0 x1:List (List c0O)):Option (Bool):=
 (Option.bind (l0s x0 x1) fun y0=>(some y0))
theorem q0F {x0 x1:List (List c0O)} {r:Bool} (h:n0Q x0 x1=some r):SQ 157 [lsv (k0P a0t 4) 1 x0,lsv (k0P a0t 4) 1 x1] [] (.bool r) []:=by
 refine kFn (fn:=Tryz.f157) (fun F H D W=> ?_)
 unfold n0Q at h
 refine kq (kn 2 ?_)
 obtain⟨y0,hy0,h0⟩:=a0f h
 exact kCg (some 7) [] (o0P hy0) (kr 1 (kX (by cases h0;exact kZ H D W)))
def m0s(x0:List (List c0O)):Option (Bool):=
 (Option.bind (n0P x0) fun y1=>(Option.bind (k0u y1) fun y0=>(Option.bind (bif(decide (y0.2.2=0))then(Option.bind (n0Q x0 y0.1) fun y2=>(some y2))else none) fun(s0:Bool)=>(some s0))))
theorem p0C {x0:List (List c0O)} {r:Bool} (h:m0s x0=some r):SQ 132 [lsv (k0P a0t 4) 1 x0] [] (.bool r) []:=by
 refine kFn (fn:=Tryz.f132) (fun F H D W=> ?_)
 unfold m0s at h
 exact kq (kn 1 (kAb 8 h (fun _=>q0E) (fun y1 h0=>kAb 9 h0 (fun _=>l0E) (fun y0 h1=>kr 7 (kcN h1 (fun(s0:Bool)=>([(2, .bool s0)],[])) (fun s0 hy0=>km 3 (cFR 15 hy0 (fun h3=>kc 2 (kAb 18 h3 (fun _=>q0F) (fun y2 h4=>ke 2 (kNo h4 [2])))))) (fun s0 h2=>kX (by cases h2;exact kZ H D W)))))))
def n0W(x0:List t0R):Option ((List l0u)×Int×Int):=
 (Option.bind (a0s (fun(s0:Int×Int×(List l0u))=>(bif(decide (s0.2.1<(x0.length:Int)))then(Option.bind (bif inR s0.2.1 x0.length then(Option.bind (m0v s0.1 ((nth x0 s0.2.1).Q_)) fun y1=>(bif(!y1)then none else(Option.bind (k0u ((nth x0 s0.2.1).O_)) fun y0=>(Option.bind (Option.bind (bif(decide (¬y0.2.2=0))then none else(Option.bind (m0s y0.1) fun y2=>(some (!y2)))) fun(s2:Bool)=>(bif s2 then none else(some ()))) fun(s4:Unit)=>(bif room (s0.2.2.length+(([(⟨(nth x0 s0.2.1).Q_,y0.1⟩:l0u)]:List l0u)).length)then(some ((s0.2.2++(([(⟨(nth x0 s0.2.1).Q_,y0.1⟩:l0u)]:List l0u)))))else none)))))else none) fun(s3:(List l0u))=>(some (.inl ((nth x0 s0.2.1).Q_,(IntKind.wrap .i64 (s0.2.1+1)),s3))))else(some (.inr s0.2.2)))) big (0,0,([]:List l0u))) fun(s1:(List l0u))=>(some (s1,0,0)))
theorem q0L {x0:List t0R} {r:(List l0u)×Int×Int} (h:n0W x0=some r):SQ 100 [lsv f0w 2 x0] [] (.tup [lsv f0V 2 r.1,iL r.2.1,iL r.2.2]) []:=by
 refine kFn (fn:=Tryz.f100) (fun F H D W=> ?_)
 unfold n0W at h
 exact kq (kq (kq (kcN h (fun(s1:(List l0u))=>([(2, .nl),(3,iL 0),(4,iL 0),(5, .vc 0)],[a0z f0V 2 104 s1])) (fun s1 hy0=>kq (kb 0 (J.wk (Wk.viv 5 2 104 (by kernel_rfl)) (kl (fun(s0:Int×Int×(List l0u))=>([(2, .nl),(3,iL 0),(4,iL 0),(5, .vc 0),(6,iL s0.1),(12,lsv f0w 2 x0),(13,iL (x0.length:Int)),(14,iL s0.2.1)],[a0z f0V 2 104 s0.2.2])) hy0 [2,3,4,5,6,12,13,14] (fun s0 x621 hs0=>kq (kS (kBT 15 hs0 (fun h1=>kKN (kcN h1 (fun(s3:(List l0u))=>([(2, .nl),(3,iL 0),(4,iL 0),(5, .vc 0),(6,iL ((nth x0 s0.2.1).Q_)),(12,lsv f0w 2 x0),(13,iL (x0.length:Int)),(14,iL s0.2.1)],[a0z f0V 2 104 s3])) (fun s3 hy1=>kb 1 (kn 1 (kIb 17 l0m hy1 (fun h4=>kr 4 (kS (kn 3 (kAb 22 h4 (fun _=>p0F) (fun y1 h5=>kr 1 (cTF 23 h5 (fun h6=>kKN (kn 2 (kAb 28 h6 (fun _=>l0E) (fun y0 h7=>kr 7 (kcN h7 (fun(s4:Unit)=>([(2, .nl),(3,iL 0),(4,iL 0),(5, .vc 0),(6,iL s0.1),(8, .ptr 1 0),(9,lsv (k0P a0t 4) 1 y0.1),(12,lsv f0w 2 x0),(13,iL (x0.length:Int)),(14,iL s0.2.1)],[a0z f0V 2 104 s0.2.2, .box [iL ((nth x0 s0.2.1).Q_), .str ((nth x0 s0.2.1).O_)]])) (fun s4 hy2=>kcN hy2 (fun(s2:Bool)=>([(2, .nl),(3,iL 0),(4,iL 0),(5, .vc 0),(6,iL s0.1),(7,iL s0.2.1),(8, .ptr 1 0),(9,lsv (k0P a0t 4) 1 y0.1),(12,lsv f0w 2 x0),(13,iL (x0.length:Int)),(14,iL s0.2.1),(38, .bool s2)],[a0z f0V 2 104 s0.2.2, .box [iL ((nth x0 s0.2.1).Q_), .str ((nth x0 s0.2.1).O_)]])) (fun s2 hy3=>km 3 (cTR 34 hy3 (fun h10=>RJ.seg 1 [2,3,4,5,6,7,8,9,12,13,14,34,35] (L2:=[(2, .nl),(3,iL 0),(4,iL 0),(5, .vc 0),(6,iL s0.1),(7,iL s0.2.1),(8, .ptr 1 0),(9,lsv (k0P a0t 4) 1 y0.1),(12,lsv f0w 2 x0),(13,iL (x0.length:Int)),(14,iL s0.2.1),(34, .bool false),(35,lsv (k0P a0t 4) 1 y0.1)]) (H2:=[a0z f0V 2 104 s0.2.2, .box [iL ((nth x0 s0.2.1).Q_), .str ((nth x0 s0.2.1).O_)]]) (by kernel_rfl) (kAb 36 h10 (fun _=>p0C) (fun y2 h11=>ke 2 (kNo h11 [2,3,4,5,6,7,8,9,12,13,14,38])))))) (fun s2 h9=>cTF 38 h9 (fun h12=>kK (kNo h12 [2,3,4,5,6,8,9,12,13,14])))) (fun s4 h8=>kn 6 (kAp 46 0 3 2 104 [0,2] f0V h8 (fun h13=>kr 1 (kM (PJ.blockNormal (kNW h13 D W [3])))))))))))))))))))) (fun s3 h3=>kM (kLo h3 [2,3,4,5,6,12,13,14])))) (fun h2=>kEp 0 (kLx h2 (fun h14=>PJ.blockOut (kNo h14 [2,3,4,5]))))))))))) (fun s1 h0=>kq (kX (by obtain rfl:=oi h0;exact PJ.wk (Wk.freeze 0 (n:=s1.length) (k:=2) (e:=104) (cs:=s1.flatMap f0V) (by kernel_rfl)) (kZ H D W)))))))
def f0o(x0:o0B):Option (Int×Bool):=
 (Option.bind (n0W x0.c_.X_) fun y0=>(some (y0.2.1,(decide (y0.2.2=0)))))
theorem j0S {x0:o0B} {r:Int×Bool} (h:f0o x0=some r):SQ 55 [.agg (b0w x0)] [] (.tup [iL r.1, .bool r.2]) []:=by
 refine kFn (fn:=Tryz.f55) (fun F H D W=> ?_)
 unfold f0o at h
 exact kq (kn 3 (kAb 11 h (fun _=>q0L) (fun y0 h0=>kr 7 (kq (kX (by cases h0;exact kZ H D W))))))
def p0T(x0:List UInt8):Option (Bool):=
 (bif(decide (¬(x0.length:Int)=3))then none else(Option.bind (a0s (fun(s0:Int)=>(bif(decide (s0<((a0N x0).length:Int)))then(bif inR s0 (a0N x0).length then(Option.bind (f0O (nth (a0N x0) s0)) fun y0=>(bif(!y0)then none else(some (.inl (IntKind.wrap .i64 (s0+1))))))else none)else(some (.inr ())))) big 0) fun(s1:Unit)=>(some true)))
theorem s0p {x0:List UInt8} {r:Bool} (h:p0T x0=some r):SQ 101 [.str x0] [] (.bool r) []:=by
 refine kFn (fn:=Tryz.f101) (fun F H D W=> ?_)
 unfold p0T at h
 exact kq (kS (kq (cTF 7 h (fun h0=>kKN (kcN h0 (fun(s1:Unit)=>([(2, .bool false)],[])) (fun s1 hy0=>kn 1 (RJ.rel (d:=(some 9)) (ef:=⟨.lst x0.length 1 (x0.map h0c),[],[]⟩) (ef':=⟨lB (a0N x0),[],[]⟩) (c:=true) (tr2:=[]) (H2:=[]) (by kernel_rfl) rfl (fun hc=>N.toBytes) (by kernel_rfl) (kr 2 (kb 0 (kl (fun(s0:Int)=>([(2, .bool false),(9,lB (a0N x0)),(10,iL ((a0N x0).length:Int)),(11,iL s0)],[])) hy0 [2,9,10,11] (fun s0 x74 hs0=>kq (kS (kBT 12 hs0 (fun h2=>kKN (kS (kb 1 (kSR (kIb 13 (a0v .u8) h2 (fun h4=>kr 2 (kn 1 (kAb 16 h4 (fun _=>h0L) (fun y0 h5=>kr 1 (cTF 17 h5 (fun h6=>kKn (kM (kLo h6 [2,9,10,11]))))))))))))) (fun h3=>kEp 0 (kLx h3 (fun h7=>PJ.blockOut (kNo h7 [2])))))))))))) (fun s1 h1=>kq (kX (by cases h1;exact kZ H D W))))))))
def i0h(x0:c0n)(x1:a0y)(x2:List Int):Option (Bool):=
 (Option.bind (Option.bind (bif(decide ((x2.length:Int)=0))then(some true)else(bif(decide ((x2.length:Int)>20))then(some true)else(Option.bind (h0o x0 x2) fun y0=>(some (!y0))))) fun(s0:Bool)=>(bif s0 then(some (.inr false))else(some (.inl ())))) (a0g fun(s2:Unit)=>(Option.bind (Option.bind (bif(decide (¬x1.y_=0))then(Option.bind (a0U x2 x1.f_) fun y1=>(some y1))else(some false)) fun(s1:Bool)=>(bif s1 then(some (.inr false))else(some (.inl ())))) (a0g fun(s3:Unit)=>(Option.bind (d0B x0 x1 x2) fun y2=>(some y2))))))
theorem m0K {x0:c0n} {x1:a0y} {x2:List Int} {r:Bool} (h:i0h x0 x1 x2=some r):SQ 20 [.agg (a0d x0), .agg (a0c x1),lR x2] [] (.bool r) []:=by
 refine kFn (fn:=Tryz.f20) (fun F H D W=> ?_)
 unfold i0h at h
 exact kq (kcX h (fun(s2:Unit)=>([(2,lR x2),(3, .ptr 0 0),(4, .ptr 1 0),(6, .bool false)],[.box (a0d x0), .box (a0c x1)])) (fun y3 hy0 h0=>kcN hy0 (fun(s0:Bool)=>([(2,lR x2),(3, .ptr 0 0),(4, .ptr 1 0),(6, .bool false),(20, .bool s0)],[.box (a0d x0), .box (a0c x1)])) (fun s0 hy1=>km 4 (kB 10 hy1 (fun h3=>ke 10 (kNo h3 [2,3,4,6,20])) (fun h4=>kc 5 (kB 15 h4 (fun h5=>ke 5 (kNo h5 [2,3,4,6,20])) (fun h6=>kc 2 (kAb 18 h6 (fun _=>n0E) (fun y0 h7=>ke 2 (kNo h7 [2,3,4,6,20])))))))) (fun s0 h2=>kBT 20 h2 (fun h8=>kq (kX (kCx h8 h0 (fun h10=>by obtain rfl:=oi h10;exact kZ H D W)))) (fun h9=>kK (kXo h9 [2,3,4,6])))) (fun s2 h1=>kcX h1 (fun(s3:Unit)=>([(2,lR x2),(3, .ptr 0 0),(4, .ptr 1 0),(6, .bool false)],[.box (a0d x0), .box (a0c x1)])) (fun y4 hy2 h11=>kcN hy2 (fun(s1:Bool)=>([(2,lR x2),(3, .ptr 0 0),(4, .ptr 1 0),(6, .bool false),(29, .bool s1)],[.box (a0d x0), .box (a0c x1)])) (fun s1 hy3=>km 4 (kB 24 hy3 (fun h14=>kc 3 (kAb 28 h14 (fun _=>b0N) (fun y1 h16=>ke 1 (kNo h16 [2,3,4,6,29])))) (fun h15=>ke 5 (kNo h15 [2,3,4,6,29])))) (fun s1 h13=>kBT 29 h13 (fun h17=>kq (kX (kCx h17 h11 (fun h19=>by obtain rfl:=oi h19;exact kZ H D W)))) (fun h18=>kK (kXo h18 [2,3,4,6])))) (fun s3 h12=>kn 3 (kAb 33 h12 (fun _=>g0i) (fun y2 h20=>kr 1 (kX (by cases h20;exact kZ H D W)))))))
def d0C(x0:o0B):Option (Int×Bool):=
 (Option.bind (c0g x0.c_.S_ 3 x0.c_.J_.N_) fun y0=>(Option.bind (a0s (fun(s0:(List UInt8)×Int)=>(bif(decide (s0.2<(x0.c_.F_.length:Int)))then(Option.bind (bif inR s0.2 x0.c_.F_.length then(Option.bind (Option.bind (Option.bind (p0T ((nth x0.c_.F_ s0.2).ag_)) fun y2=>(bif(!y2)then none else(bif(Op.bytesLess ((nth x0.c_.F_ s0.2).ag_) s0.1||((nth x0.c_.F_ s0.2).ag_)==s0.1)then none else(bif(decide (((nth x0.c_.F_ s0.2).ah_)<0))then none else(some ()))))) fun(s2:Unit)=>(bif(decide (((nth x0.c_.F_ s0.2).ah_)>4))then none else(some ()))) fun(s3:Unit)=>(Option.bind (c0Q ((a0N ((nth x0.c_.F_ s0.2).M_)))) fun y1=>(Option.bind (Option.bind (bif(decide (¬y1.2.2=0))then none else(Option.bind (i0h x0.c_.S_ y0.1 y1.1) fun y3=>(some (!y3)))) fun(s1:Bool)=>(bif s1 then none else(some ()))) fun(s4:Unit)=>(some ()))))else none) fun(s5:Unit)=>(some (.inl ((nth x0.c_.F_ s0.2).ag_,(IntKind.wrap .i64 (s0.2+1))))))else(some (.inr ())))) big (([]:List UInt8),0)) fun(s6:Unit)=>(some (100,(decide ((x0.c_.F_.length:Int)≤100))))))
theorem h0m {x0:o0B} {r:Int×Bool} (h:d0C x0=some r):SQ 56 [.agg (b0w x0)] [] (.tup [iL r.1, .bool r.2]) []:=by
 refine kFn (fn:=Tryz.f56) (fun F H D W=> ?_)
 unfold d0C at h
 exact kq (kn 7 (kAb 20 h (fun _=>c0o) (fun y0 h0=>kr 6 (kq (kcN h0 (fun(s6:Unit)=>([(1, .ptr 0 0),(2,iL 0),(3, .bool false)],[.box (b0w x0)])) (fun s6 hy0=>kq (kb 0 (kl (fun(s0:(List UInt8)×Int)=>([(1, .ptr 0 0),(2,iL 0),(3, .bool false),(4, .ptr 1 0),(6, .str s0.1),(25,lsv f0x 3 x0.c_.F_),(26,iL (x0.c_.F_.length:Int)),(27,iL s0.2)],[.box (b0w x0), .box (a0c y0.1)])) hy0 [1,2,3,4,6,25,26,27] (fun s0 x1244 hs0=>kq (kS (kBT 28 hs0 (fun h2=>kKN (kcN h2 (fun(s5:Unit)=>([(1, .ptr 0 0),(2,iL 0),(3, .bool false),(4, .ptr 1 0),(6, .str ((nth x0.c_.F_ s0.2).ag_)),(25,lsv f0x 3 x0.c_.F_),(26,iL (x0.c_.F_.length:Int)),(27,iL s0.2)],[.box (b0w x0), .box (a0c y0.1)])) (fun s5 hy1=>kb 1 (kn 1 (kIb 30 l0n hy1 (fun h5=>kr 4 (kcN h5 (fun(s3:Unit)=>([(1, .ptr 0 0),(2,iL 0),(3, .bool false),(4, .ptr 1 0),(6, .str s0.1),(7,iL s0.2),(8, .ptr 2 0),(25,lsv f0x 3 x0.c_.F_),(26,iL (x0.c_.F_.length:Int)),(27,iL s0.2)],[.box (b0w x0), .box (a0c y0.1), .box [.str ((nth x0.c_.F_ s0.2).ag_), .str ((nth x0.c_.F_ s0.2).M_),iL ((nth x0.c_.F_ s0.2).ah_)]])) (fun s3 hy2=>kcN hy2 (fun(s2:Unit)=>([(1, .ptr 0 0),(2,iL 0),(3, .bool false),(4, .ptr 1 0),(6, .str s0.1),(7,iL s0.2),(8, .ptr 2 0),(25,lsv f0x 3 x0.c_.F_),(26,iL (x0.c_.F_.length:Int)),(27,iL s0.2),(51, .bool ((decide (((nth x0.c_.F_ s0.2).ah_)>4))))],[.box (b0w x0), .box (a0c y0.1), .box [.str ((nth x0.c_.F_ s0.2).ag_), .str ((nth x0.c_.F_ s0.2).M_),iL ((nth x0.c_.F_ s0.2).ah_)]])) (fun s2 hy3=>km 2 (kAb 34 hy3 (fun _=>s0p) (fun y2 h8=>kc 2 (cTR 36 h8 (fun h9=>kc 6 (cTR 42 h9 (fun h10=>kc 5 (cTR 47 h10 (fun h11=>ke 4 (kNo h11 [1,2,3,4,6,7,8,25,26,27,51])))))))))) (fun s2 h7=>cTF 51 h7 (fun h12=>kK (kNo h12 [1,2,3,4,6,7,8,25,26,27])))) (fun s3 h6=>kn 2 (RJ.rel (d:=(some 56)) (ef:=⟨.lst ((nth x0.c_.F_ s0.2).M_).length 1 (((nth x0.c_.F_ s0.2).M_).map h0c),[],[]⟩) (ef':=⟨lB (a0N ((nth x0.c_.F_ s0.2).M_)),[],[]⟩) (c:=true) (tr2:=[]) (H2:=[.box (b0w x0), .box (a0c y0.1), .box [.str ((nth x0.c_.F_ s0.2).ag_), .str ((nth x0.c_.F_ s0.2).M_),iL ((nth x0.c_.F_ s0.2).ah_)]]) (by kernel_rfl) rfl (fun hc=>N.toBytes) (by kernel_rfl) (kAb 57 h6 (fun _=>l0y) (fun y1 h13=>kr 7 (kcN h13 (fun(s4:Unit)=>([(1, .ptr 0 0),(2,iL 0),(3, .bool false),(4, .ptr 1 0),(6, .str s0.1),(8, .ptr 2 0),(25,lsv f0x 3 x0.c_.F_),(26,iL (x0.c_.F_.length:Int)),(27,iL s0.2)],[.box (b0w x0), .box (a0c y0.1), .box [.str ((nth x0.c_.F_ s0.2).ag_), .str ((nth x0.c_.F_ s0.2).M_),iL ((nth x0.c_.F_ s0.2).ah_)]])) (fun s4 hy4=>kcN hy4 (fun(s1:Bool)=>([(1, .ptr 0 0),(2,iL 0),(3, .bool false),(4, .ptr 1 0),(6, .str s0.1),(7,iL s0.2),(8, .ptr 2 0),(25,lsv f0x 3 x0.c_.F_),(26,iL (x0.c_.F_.length:Int)),(27,iL s0.2),(71, .bool s1)],[.box (b0w x0), .box (a0c y0.1), .box [.str ((nth x0.c_.F_ s0.2).ag_), .str ((nth x0.c_.F_ s0.2).M_),iL ((nth x0.c_.F_ s0.2).ah_)]])) (fun s1 hy5=>km 3 (cTR 63 hy5 (fun h16=>kc 5 (kAb 69 h16 (fun _=>m0K) (fun y3 h17=>ke 2 (kNo h17 [1,2,3,4,6,7,8,25,26,27,71])))))) (fun s1 h15=>cTF 71 h15 (fun h18=>kK (kNo h18 [1,2,3,4,6,8,25,26,27])))) (fun s4 h14=>kM (PJ.blockNormal (kNW h14 D W [0,1]))))))))))))) (fun s5 h4=>kM (kLo h4 [1,2,3,4,6,25,26,27])))) (fun h3=>kEp 0 (kLx h3 (fun h19=>PJ.blockOut (kNW h19 D W [0])))))))))) (fun s6 h1=>kS (kDr (kD 7 (kEN (kX (by cases h1;exact kZ H D W)))))))))))
def j0G(x0:Int):Option (List UInt8):=
 (Option.bind i0a fun y0=>(Option.bind (Option.bind (bif(decide (x0<0))then(some true)else(some (decide (x0≥6)))) fun(s0:Bool)=>(bif s0 then(some (.inr ([]:List UInt8)))else(some (.inl ())))) (a0g fun(s1:Unit)=>(bif(decide (x0=0))then(some y0.s_)else(bif(decide (x0=1))then(some y0.q_)else(bif(decide (x0=2))then(some y0.A_)else(bif(decide (x0=3))then(some y0.N_)else(bif(decide (x0=4))then(some y0.V_)else(bif(decide (x0=5))then(some y0.U_)else none)))))))))
theorem q0M {x0:Int} {r:List UInt8} (h:j0G x0=some r):SQ 46 [iL x0] [] (.str r) []:=by
 refine kFn (fn:=Tryz.f46) (fun F H D W=> ?_)
 unfold j0G at h
 refine kq (kSR (kAb 4 h (fun _=>l0H) (fun y0 h6=>kr 2 (kcX h6 (fun(s1:Unit)=>([(0,iL x0),(2, .str ([]:List UInt8)),(3, .ptr 0 0)],[.box (n0s y0)])) (fun y1 hy0 h7=> ?_) (fun s1 h0=> ?_)))))
 ·exact kcN hy0 (fun(s0:Bool)=>([(0,iL x0),(2, .str ([]:List UInt8)),(3, .ptr 0 0),(10, .bool s0)],[.box (n0s y0)])) (fun s0 hy1=>km 3 (kB 7 hy1 (fun h9=>ke 3 (kNo h9 [0,2,3,10])) (fun h10=>ke 3 (kNo h10 [0,2,3,10])))) (fun s0 h8=>kBT 10 h8 (fun h11=>kq (kX (kCx h11 h7 (fun h13=>by obtain rfl:=oi h13;exact kZ H D W)))) (fun h12=>kK (kXo h12 [0,2,3])))
 ·refine kn 1 ?_
  cases hb0:(decide (x0=0))
  ·have h1:=condF hb0 h0
   cases hb1:(decide (x0=1))
   ·have h2:=condF hb1 h1
    cases hb2:(decide (x0=2))
    ·have h3:=condF hb2 h2
     cases hb3:(decide (x0=3))
     ·have h4:=condF hb3 h3
      cases hb4:(decide (x0=4))
      ·have h5:=condF hb4 h4
       cases hb5:(decide (x0=5))
       ·have h14:=condF hb5 h5
        cases h14
       ·have h15:=condT hb5 h5
        exact RJ.pin 11 (kd:= .i64) (by kernel_rfl) (of_decide_eq_true hb5) (kr 3 (kX (by cases h15;exact kZ H D W)))
      ·have h16:=condT hb4 h4
       exact RJ.pin 11 (kd:= .i64) (by kernel_rfl) (of_decide_eq_true hb4) (kr 3 (kX (by cases h16;exact kZ H D W)))
     ·have h17:=condT hb3 h3
      exact RJ.pin 11 (kd:= .i64) (by kernel_rfl) (of_decide_eq_true hb3) (kr 3 (kX (by cases h17;exact kZ H D W)))
    ·have h18:=condT hb2 h2
     exact RJ.pin 11 (kd:= .i64) (by kernel_rfl) (of_decide_eq_true hb2) (kr 3 (kX (by cases h18;exact kZ H D W)))
   ·have h19:=condT hb1 h1
    exact RJ.pin 11 (kd:= .i64) (by kernel_rfl) (of_decide_eq_true hb1) (kr 3 (kX (by cases h19;exact kZ H D W)))
  ·have h20:=condT hb0 h0
   exact RJ.pin 11 (kd:= .i64) (by kernel_rfl) (of_decide_eq_true hb0) (kr 3 (kX (by cases h20;exact kZ H D W)))
def g0W(x0:c0n)(x1:m0i):Option (a0y×Bool):=
 (Option.bind (h0q x1.T_) fun y0=>(Option.bind (Option.bind (bif(!y0.2)then(some true)else(bif(decide (x1.L_<2))then(some true)else(bif(decide (x1.L_>30))then(some true)else(Option.bind (j0G x1.Q_) fun y2=>(some (y2==([]:List UInt8))))))) fun(s0:Bool)=>(bif s0 then(some (.inr ((⟨([]:List a0b),([]:List a0b),([]:List a0b),([]:List a0b),false,0,0,0,0,0,0,0,0,0,false,0,0⟩:a0y),false)))else(some (.inl ())))) (a0g fun(s3:Unit)=>(Option.bind (Option.bind (bif(decide (y0.1.j_<1))then(some true)else(bif(decide (y0.1.j_≥x1.L_))then(some true)else(bif y0.1.D_ then(some true)else(some ((decide (((IntKind.wrap .i64 ((y0.1.a_.length:Int)+(y0.1.b_.length:Int))))=0))))))) fun(s1:Bool)=>(bif s1 then(some (.inr ((⟨([]:List a0b),([]:List a0b),([]:List a0b),([]:List a0b),false,0,0,0,0,0,0,0,0,0,false,0,0⟩:a0y),false)))else(some (.inl ())))) (a0g fun(s4:Unit)=>(bif(!((decide (y0.1.n_=0))&&((decide (y0.1.e_=0))&&((decide (y0.1.k_=0))&&((decide (y0.1.l_=0))&&((decide (y0.1.d_=0))&&((decide (y0.1.y_=0))&&true)))))))then(some ((⟨([]:List a0b),([]:List a0b),([]:List a0b),([]:List a0b),false,0,0,0,0,0,0,0,0,0,false,0,0⟩:a0y),false))else(Option.bind (Option.bind (Option.bind (f0N y0.1.a_ y0.1.b_ 0 0) fun y3=>(bif(!y3)then(some true)else(Option.bind (d0B x0 y0.1 ([]:List Int)) fun y1=>(some (!y1))))) fun(s2:Bool)=>(bif s2 then(some (.inr ((⟨([]:List a0b),([]:List a0b),([]:List a0b),([]:List a0b),false,0,0,0,0,0,0,0,0,0,false,0,0⟩:a0y),false)))else(some (.inl ())))) (a0g fun(s5:Unit)=>(some (y0.1,true))))))))))
theorem j0T {x0:c0n} {x1:m0i} {r:a0y×Bool} (h:g0W x0 x1=some r):SQ 13 [.agg (a0d x0), .agg (b0b x1)] [] (.tup [.agg (a0c r.1), .bool r.2]) []:=by
 refine kFn (fn:=Tryz.f13) (fun F H D W=> ?_)
 unfold g0W at h
 refine kq (kn 2 (kAb 11 h (fun _=>o0e) (fun y0 h0=>kr 6 (kcX h0 (fun(s3:Unit)=>([(2, .ptr 0 0),(3, .ptr 1 0),(4, .ptr 2 0),(5, .bool false),(6, .ptr 3 0)],[.box (a0d x0), .box (b0b x1), .box [.nl, .nl, .nl, .nl, .bool false,iL 0,iL 0,iL 0,iL 0,iL 0,iL 0,iL 0,iL 0,iL 0, .bool false,iM 0,iL 0], .box (a0c y0.1)])) (fun y4 hy0 h1=> ?_) (fun s3 h2=> ?_)))))
 ·exact kcN hy0 (fun(s0:Bool)=>([(2, .ptr 0 0),(3, .ptr 1 0),(4, .ptr 2 0),(5, .bool false),(6, .ptr 3 0),(31, .bool s0)],[.box (a0d x0), .box (b0b x1), .box [.nl, .nl, .nl, .nl, .bool false,iL 0,iL 0,iL 0,iL 0,iL 0,iL 0,iL 0,iL 0,iL 0, .bool false,iM 0,iL 0], .box (a0c y0.1)])) (fun s0 hy1=>km 3 (kB 16 hy1 (fun h4=>ke 15 (kNo h4 [2,3,4,5,6,31])) (fun h5=>kc 5 (kB 21 h5 (fun h6=>ke 10 (kNo h6 [2,3,4,5,6,31])) (fun h7=>kc 5 (kB 26 h7 (fun h8=>ke 5 (kNo h8 [2,3,4,5,6,31])) (fun h9=>kc 2 (kAb 29 h9 (fun _=>q0M) (fun y2 h10=>ke 2 (kNo h10 [2,3,4,5,6,31])))))))))) (fun s0 h3=>kBT 31 h3 (fun h11=>kq (kX (kCx h11 h1 (fun h13=>by obtain rfl:=oi h13;exact PJ.res (v1:= .tup [zQ, .bool false]) (Le.tup (.cons (Le.agg (.cons (Le.nl _) (.cons (Le.nl _) (.cons (Le.nl _) (.cons (Le.nl _) (LeL.refl _)))))) (LeL.refl _))) (kZ H D W))))) (fun h12=>kK (kXo h12 [2,3,4,5,6])))
 ·refine kcX h2 (fun(s4:Unit)=>([(2, .ptr 0 0),(4, .ptr 1 0),(5, .bool false),(6, .ptr 2 0)],[.box (a0d x0), .box [.nl, .nl, .nl, .nl, .bool false,iL 0,iL 0,iL 0,iL 0,iL 0,iL 0,iL 0,iL 0,iL 0, .bool false,iM 0,iL 0], .box (a0c y0.1)])) (fun y5 hy2 h14=> ?_) (fun s4 h15=> ?_)
  ·exact kcN hy2 (fun(s1:Bool)=>([(2, .ptr 0 0),(4, .ptr 1 0),(5, .bool false),(6, .ptr 2 0),(56, .bool s1)],[.box (a0d x0), .box [.nl, .nl, .nl, .nl, .bool false,iL 0,iL 0,iL 0,iL 0,iL 0,iL 0,iL 0,iL 0,iL 0, .bool false,iM 0,iL 0], .box (a0c y0.1)])) (fun s1 hy3=>km 4 (kB 36 hy3 (fun h17=>ke 20 (kNW h17 D W [0,2,3])) (fun h18=>kc 7 (kB 43 h18 (fun h19=>ke 13 (kNW h19 D W [0,2,3])) (fun h20=>kc 4 (kB 47 h20 (fun h21=>ke 9 (kNW h21 D W [0,2,3])) (fun h22=>ke 9 (kNW h22 D W [0,2,3])))))))) (fun s1 h16=>kBT 56 h16 (fun h23=>kq (kX (kCx h23 h14 (fun h25=>by obtain rfl:=oi h25;exact PJ.res (v1:= .tup [zQ, .bool false]) (Le.tup (.cons (Le.agg (.cons (Le.nl _) (.cons (Le.nl _) (.cons (Le.nl _) (.cons (Le.nl _) (LeL.refl _)))))) (LeL.refl _))) (kZ H D W))))) (fun h24=>kK (kXo h24 [2,4,5,6])))
  ·refine kS (kq (kBT 72 h15 (fun h26=> ?_) (fun h27=> ?_)))
   ·exact kq (kX (PJ.passRet (by obtain rfl:=oi h26;exact PJ.res (v1:= .tup [zQ, .bool false]) (Le.tup (.cons (Le.agg (.cons (Le.nl _) (.cons (Le.nl _) (.cons (Le.nl _) (.cons (Le.nl _) (LeL.refl _)))))) (LeL.refl _))) (kZ H D W))))
   ·refine kKN (kcX h27 (fun(s5:Unit)=>([(4, .ptr 0 0),(5, .bool false),(6, .ptr 1 0)],[.box [.nl, .nl, .nl, .nl, .bool false,iL 0,iL 0,iL 0,iL 0,iL 0,iL 0,iL 0,iL 0,iL 0, .bool false,iM 0,iL 0], .box (a0c y0.1)])) (fun y6 hy4 h28=> ?_) (fun s5 h29=> ?_))
    ·refine kcN hy4 (fun(s2:Bool)=>([(4, .ptr 0 0),(5, .bool false),(6, .ptr 1 0),(85, .bool s2)],[.box [.nl, .nl, .nl, .nl, .bool false,iL 0,iL 0,iL 0,iL 0,iL 0,iL 0,iL 0,iL 0,iL 0, .bool false,iM 0,iL 0], .box (a0c y0.1)])) (fun s2 hy5=> ?_) (fun s2 h30=> ?_)
     ·refine km 4 (kAb 78 hy5 (fun _=>i0F) (fun y3 h31=>kc 2 (kB 80 h31 (fun h32=> ?_) (fun h33=> ?_))))
      ·exact ke 5 (kNW h32 D W [1,2])
      ·refine kc 2 ?_
       obtain⟨y1,hy6,h34⟩:=a0f h33
       exact RJ.call0 (d:=(some 83)) (f:=40) (args:=[.agg (a0d x0), .agg (a0c y0.1), .nl]) (v:= .bool y1) (tr2:=[]) (by kernel_rfl) (by kernel_rfl) (.cons (Le.refl _) (.cons (Le.refl _) (.cons (Le.nl _) .nil))) (g0i hy6) (by kernel_rfl) (ke 2 (kNW h34 D W [1,2]))
     ·exact kBT 85 h30 (fun h35=>kq (kX (kCx h35 h28 (fun h37=>by obtain rfl:=oi h37;exact PJ.res (v1:= .tup [zQ, .bool false]) (Le.tup (.cons (Le.agg (.cons (Le.nl _) (.cons (Le.nl _) (.cons (Le.nl _) (.cons (Le.nl _) (LeL.refl _)))))) (LeL.refl _))) (kZ H D W))))) (fun h36=>kK (kXo h36 [4,5,6]))
    ·exact kq (kX (by cases h29;exact kZ H D W))
def o0d(x0 x1:m0i):Option (Bool):=
 (Option.bind (bif(decide (x1.L_>x0.L_))then(some ())else none) fun(s0:Unit)=>(some true))
theorem r0g {x0 x1:m0i} {r:Bool} (h:o0d x0 x1=some r):SQ 103 [.agg (b0b x0), .agg (b0b x1)] [] (.bool r) []:=by
 refine kFn (fn:=Tryz.f103) (fun F H D W=> ?_)
 unfold o0d at h
 exact kq (kcN h (fun(s0:Unit)=>([(4, .bool true)],[])) (fun s0 hy0=>km 6 (cFR 10 hy0 (fun h1=>ke 14 (kNW h1 D W [])))) (fun s0 h0=>kX (by cases h0;exact kZ H D W)))
def g0X(x0:m0i)(x1:a0y):Option (Int):=
 (some (IntKind.wrap .i64 (x0.L_-x1.j_)))
theorem h0r {x0:m0i} {x1:a0y} {r:Int} (h:g0X x0 x1=some r):SQ 18 [.agg (b0b x0), .agg (a0c x1)] [] (iL r) []:=by
 refine kFn (fn:=Tryz.f18) (fun F H D W=> ?_)
 unfold g0X at h
 exact kq (kq (kX (by cases h;exact kZ H D W)))
def e0j(x0:o0B):Option (Int×Bool):=
 (Option.bind (a0s (fun(s0:Int×(List (Int×Int)))=>(bif(decide (s0.1<(x0.c_.o_.length:Int)))then(Option.bind (bif inR s0.1 x0.c_.o_.length then(Option.bind (g0W x0.c_.S_ (nth x0.c_.o_ s0.1)) fun y0=>(Option.bind (Option.bind (bif(!y0.2)then none else(bif(decide (s0.1>0))then(bif inR (IntKind.wrap .i64 (s0.1-1)) x0.c_.o_.length then(Option.bind (o0d ((nth x0.c_.o_ (IntKind.wrap .i64 (s0.1-1)))) (nth x0.c_.o_ s0.1)) fun y2=>(some (!y2)))else none)else(some false))) fun(s2:Bool)=>(bif s2 then none else(some ()))) fun(s5:Unit)=>(Option.bind (bif(!((f0z (fun a b:Int=>a==b) s0.2 ((nth x0.c_.o_ s0.1).L_)).isSome))then(Option.bind (g0X (nth x0.c_.o_ s0.1) y0.1) fun y1=>(bif(f0z (fun a b:Int=>a==b) s0.2 ((nth x0.c_.o_ s0.1).L_)).isNone then(some (y1,(s0.2++ [(((nth x0.c_.o_ s0.1).L_),y1)])))else none))else none) fun(s1:Int×(List (Int×Int)))=>(Option.bind (bif(!((f0z (fun a b:Int=>a==b) s0.2 ((nth x0.c_.o_ s0.1).L_)).isSome))then(bif(decide (¬((nth x0.c_.o_ s0.1).Q_)=0))then none else(Option.bind (g0X (nth x0.c_.o_ s0.1) y0.1) fun y3=>(some (decide (¬s1.1=y3)))))else none) fun(s3:Bool)=>(bif s3 then none else(some s1.2))))))else none) fun(s4:(List (Int×Int)))=>(some (.inl ((IntKind.wrap .i64 (s0.1+1)),s4))))else(some (.inr ())))) big (0,([]:List (Int×Int)))) fun(s6:Unit)=>(some (90,(decide ((x0.c_.o_.length:Int)≤90)))))
theorem i0g {x0:o0B} {r:Int×Bool} (h:e0j x0=some r):SQ 57 [.agg (b0w x0)] [] (.tup [iL r.1, .bool r.2]) []:=by
 refine kFn (fn:=Tryz.f57) (fun F H D W=> ?_)
 unfold e0j at h
 refine kq (kq (kcN h (fun(s6:Unit)=>([(1, .ptr 0 0),(2,iL 0),(3, .bool false)],[.box (b0w x0)])) (fun s6 hy0=> ?_) (fun s6 h0=> ?_)))
 ·refine kq (kb 0 (kl (fun(s0:Int×(List (Int×Int)))=>([(1, .ptr 0 0),(2,iL 0),(3, .bool false),(4, .mp 1),(14,lsv b0b 3 x0.c_.o_),(15,iL (x0.c_.o_.length:Int)),(16,iL s0.1)],[.box (b0w x0), .map (c0a (fun k:Int=>iL k) (fun k:Int=>iL k) s0.2)])) hy0 [1,2,3,4,14,15,16] (fun s0 x1161 hs0=>kq (kS (kBT 17 hs0 (fun h1=> ?_) (fun h2=> ?_))))))
  ·refine kKN (kcN h1 (fun(s4:(List (Int×Int)))=>([(1, .ptr 0 0),(2,iL 0),(3, .bool false),(4, .mp 1),(14,lsv b0b 3 x0.c_.o_),(15,iL (x0.c_.o_.length:Int)),(16,iL s0.1)],[.box (b0w x0), .map (c0a (fun k:Int=>iL k) (fun k:Int=>iL k) s4)])) (fun s4 hy1=> ?_) (fun s4 h3=> ?_))
   ·refine kb 1 (kn 1 (kIb 19 g0Z hy1 (fun h4=>kr 4 (kn 4 (kAb 26 h4 (fun _=>j0T) (fun y0 h5=>kr 6 (kcN h5 (fun(s5:Unit)=>([(1, .ptr 0 0),(2,iL 0),(3, .bool false),(4, .mp 1),(5,iL s0.1),(6, .ptr 2 0),(7, .ptr 3 0),(14,lsv b0b 3 x0.c_.o_),(15,iL (x0.c_.o_.length:Int)),(16,iL s0.1)],[.box (b0w x0), .map (c0a (fun k:Int=>iL k) (fun k:Int=>iL k) s0.2), .box [iL ((nth x0.c_.o_ s0.1).L_),iL ((nth x0.c_.o_ s0.1).Q_), .str ((nth x0.c_.o_ s0.1).T_)], .box (a0c y0.1)])) (fun s5 hy2=> ?_) (fun s5 h6=> ?_))))))))
    ·refine kcN hy2 (fun(s2:Bool)=>([(1, .ptr 0 0),(2,iL 0),(3, .bool false),(4, .mp 1),(5,iL s0.1),(6, .ptr 2 0),(7, .ptr 3 0),(14,lsv b0b 3 x0.c_.o_),(15,iL (x0.c_.o_.length:Int)),(16,iL s0.1),(46, .bool s2)],[.box (b0w x0), .map (c0a (fun k:Int=>iL k) (fun k:Int=>iL k) s0.2), .box [iL ((nth x0.c_.o_ s0.1).L_),iL ((nth x0.c_.o_ s0.1).Q_), .str ((nth x0.c_.o_ s0.1).T_)], .box (a0c y0.1)])) (fun s2 hy3=> ?_) (fun s2 h7=> ?_)
     ·refine kDr (kD 3 (cTR 31 hy3 (fun h8=>kD 3 (kB 34 h8 (fun h9=> ?_) (fun h10=> ?_)))))
      ·refine kD 5 ?_
       obtain⟨hm,h11⟩:=b0y h9
       refine kJ 40 (tr2:=[([],[]),([],[]),([],[]),([],[]),([],[]),([],[]),([],[]),([],[]),([0,1],[]),([],[]),([],[]),([],[])]) g0Z hm (kD 2 ?_)
       obtain⟨y2,hy4,h12⟩:=a0f h11
       exact kC0 (some 43) [([],[]),([],[]),([],[]),([],[]),([],[]),([],[]),([],[]),([],[]),([0,1],[]),([],[]),([],[]),([],[]),([],[]),([4,5],[]),([],[8,9])] (r0g hy4) (kD 3 (kE (PJ.wk (Wk.sel (L2:=[(1, .ptr 0 0),(2,iL 0),(3, .bool false),(4, .mp 1),(5,iL s0.1),(6, .ptr 2 0),(7, .ptr 3 0),(14,lsv b0b 3 x0.c_.o_),(15,iL (x0.c_.o_.length:Int)),(16,iL s0.1),(46, .bool (!y2))]) (H2:=[.box (b0w x0), .map (c0a (fun k:Int=>iL k) (fun k:Int=>iL k) s0.2), .box [iL ((nth x0.c_.o_ s0.1).L_),iL ((nth x0.c_.o_ s0.1).Q_), .str ((nth x0.c_.o_ s0.1).T_)], .box (a0c y0.1)]) 0 (by rw[D];rfl) W [0,1,2,3] (by kernel_rfl) (by simp only[ah,ay,d0h (ek:=(fun k:Int=>iL k)) (ev:=(fun k:Int=>iL k)) (fun _ _=>rfl) (fun _ _=>rfl)];kernel_rfl) (by decide) (by simp only[az,aM,c0b (ek:=(fun k:Int=>iL k)) (ev:=(fun k:Int=>iL k)) (fun _ _=>rfl) (fun _ _=>rfl)];kernel_rfl) (by kernel_rfl) (by kernel_rfl) (by kernel_rfl)) (kNo h12 [1,2,3,4,5,6,7,14,15,16,46]))))
      ·exact kD 12 (kE (PJ.wk (Wk.sel (L2:=[(1, .ptr 0 0),(2,iL 0),(3, .bool false),(4, .mp 1),(5,iL s0.1),(6, .ptr 2 0),(7, .ptr 3 0),(14,lsv b0b 3 x0.c_.o_),(15,iL (x0.c_.o_.length:Int)),(16,iL s0.1),(46, .bool false)]) (H2:=[.box (b0w x0), .map (c0a (fun k:Int=>iL k) (fun k:Int=>iL k) s0.2), .box [iL ((nth x0.c_.o_ s0.1).L_),iL ((nth x0.c_.o_ s0.1).Q_), .str ((nth x0.c_.o_ s0.1).T_)], .box (a0c y0.1)]) 0 (by rw[D];rfl) W [0,1,2,3] (by kernel_rfl) (by simp only[ah,ay,d0h (ek:=(fun k:Int=>iL k)) (ev:=(fun k:Int=>iL k)) (fun _ _=>rfl) (fun _ _=>rfl)];kernel_rfl) (by decide) (by simp only[az,aM,c0b (ek:=(fun k:Int=>iL k)) (ev:=(fun k:Int=>iL k)) (fun _ _=>rfl) (fun _ _=>rfl)];kernel_rfl) (by kernel_rfl) (by kernel_rfl) (by kernel_rfl)) (kNo h10 [1,2,3,4,5,6,7,14,15,16,46])))
     ·exact cTF 46 h7 (fun h13=>kK (kNo h13 [1,2,3,4,5,6,7,14,15,16]))
    ·refine kn 3 (RJ.lookK (d:=(some 52)) (i:=1) (ok:=true) (tr2:=[]) .i64 (fun k:Int=>iL k) s0.2 ((nth x0.c_.o_ s0.1).L_) (0:Int) (by kernel_rfl) (kr 5 (kcN h6 (fun(s1:Int×(List (Int×Int)))=>([(1, .ptr 0 0),(2,iL 0),(3, .bool false),(4, .mp 1),(5,iL s0.1),(6, .ptr 2 0),(7, .ptr 3 0),(9,iL s1.1),(10, .bool ((f0z (fun a b:Int=>a==b) s0.2 ((nth x0.c_.o_ s0.1).L_)).isSome)),(14,lsv b0b 3 x0.c_.o_),(15,iL (x0.c_.o_.length:Int)),(16,iL s0.1)],[.box (b0w x0), .map (c0a (fun k:Int=>iL k) (fun k:Int=>iL k) s1.2), .box [iL ((nth x0.c_.o_ s0.1).L_),iL ((nth x0.c_.o_ s0.1).Q_), .str ((nth x0.c_.o_ s0.1).T_)], .box (a0c y0.1)])) (fun s1 hy5=> ?_) (fun s1 h14=> ?_))))
     ·refine kq (cFT 56 hy5 (fun h15=>kn 2 (kAb 59 h15 (fun _=>h0r) (fun y1 h16=>kr 1 (km 4 ?_)))))
      obtain⟨hm,h17⟩:=b0y h16
      exact RJ.insK (d:=none) (i:=1) (sv:=iL y1) (tr2:=[]) (H2:=[.box (b0w x0), .map (c0a (fun k:Int=>iL k) (fun k:Int=>iL k) ((s0.2++ [(((nth x0.c_.o_ s0.1).L_),y1)]))), .box [iL ((nth x0.c_.o_ s0.1).L_),iL ((nth x0.c_.o_ s0.1).Q_), .str ((nth x0.c_.o_ s0.1).T_)], .box (a0c y0.1)]) .i64 (fun k:Int=>iL k) s0.2 ((nth x0.c_.o_ s0.1).L_) y1 (by kernel_rfl) rfl hm (by kernel_rfl) (kE (kNo h17 [1,2,3,4,5,6,7,9,10,14,15,16]))
     ·exact kcN h14 (fun(s3:Bool)=>([(1, .ptr 0 0),(2,iL 0),(3, .bool false),(4, .mp 1),(5,iL s0.1),(14,lsv b0b 3 x0.c_.o_),(15,iL (x0.c_.o_.length:Int)),(16,iL s0.1),(77, .bool s3)],[.box (b0w x0), .map (c0a (fun k:Int=>iL k) (fun k:Int=>iL k) s1.2)])) (fun s3 hy6=>km 3 (cFR 66 hy6 (fun h19=>kc 5 (cTR 71 h19 (fun h20=>kc 3 (kAb 75 h20 (fun _=>h0r) (fun y3 h21=>ke 2 (PJ.wk (Wk.sel (L2:=[(1, .ptr 0 0),(2,iL 0),(3, .bool false),(4, .mp 1),(5,iL s0.1),(14,lsv b0b 3 x0.c_.o_),(15,iL (x0.c_.o_.length:Int)),(16,iL s0.1),(77, .bool (decide (¬s1.1=y3)))]) (H2:=[.box (b0w x0), .map (c0a (fun k:Int=>iL k) (fun k:Int=>iL k) s1.2)]) 0 (by rw[D];rfl) W [0,1] (by kernel_rfl) (by simp only[ah,ay,d0h (ek:=(fun k:Int=>iL k)) (ev:=(fun k:Int=>iL k)) (fun _ _=>rfl) (fun _ _=>rfl)];kernel_rfl) (by decide) (by simp only[az,aM,c0b (ek:=(fun k:Int=>iL k)) (ev:=(fun k:Int=>iL k)) (fun _ _=>rfl) (fun _ _=>rfl)];kernel_rfl) (by kernel_rfl) (by kernel_rfl) (by kernel_rfl)) (kNo h21 [1,2,3,4,5,14,15,16,77]))))))))) (fun s3 h18=>cTF 77 h18 (fun h22=>kKb (kNo h22 [1,2,3,4,14,15,16])))
   ·exact kM (kLo h3 [1,2,3,4,14,15,16])
  ·exact kEp 0 (kLx h2 (fun h23=>PJ.blockOut (kNW h23 D W [0])))
 ·exact kS (kDr (kD 7 (kEN (kX (by cases h0;exact kZ H D W)))))
structure b0z where
 H_:i0W
 ab_:Int
 deriving Inhabited,DecidableEq
def b0i(x:b0z):List SV:=[lsv (a0u .i32) 1 x.H_.s_.a_,lsv (a0u .i32) 1 x.H_.s_.b_,lsv (a0u .i32) 1 x.H_.q_.a_,lsv (a0u .i32) 1 x.H_.q_.b_,lsv (a0u .i32) 1 x.H_.A_.a_,lsv (a0u .i32) 1 x.H_.A_.b_, .int .i64 x.ab_]
theorem m0P(x:b0z):(b0i x).length=7:=rfl
end Go.Proofs.YtcapcgbamehojaaGreatDoor
