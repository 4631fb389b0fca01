/-
  What the functions of this program come to, as functions of natives, each with the proof that it does. No conditions.
-/
import Derived.Test.YtcapcgbamehojaaGreatDoorProg
import Derived.Test.YtcapcgbamehojaaGreatDoorSySL
import Derived.Test.YtcapcgbamehojaaGreatDoorGa
namespace Go.Proofs.YtcapcgbamehojaaGreatDoor
open Go Go.Sy Go.RowKit
set_option linter.unusedVariables false
set_option linter.unusedSimpArgs false
set_option maxRecDepth 100000
set_option maxHeartbeats 4000000
def e0e(x0:List a0c)(x1:e0h)(x2:List Int):Option (List Int):=
 (Option.bind (e0d x1 x2) fun y0=>(Option.bind (a0l (fun(s0:Int×(List Int))=>(bif(decide (s0.1<(x0.length:Int)))then(Option.bind (bif inR s0.1 x0.length then(bif(decide (((nth x0 s0.1).L_)=0))then(bif room (s0.2.length+([(nth x0 s0.1).R_]:List Int).length)then(some ((s0.2++([(nth x0 s0.1).R_]:List Int))))else none)else(bif(decide (((nth x0 s0.1).L_)=1))then(bif room (s0.2.length+([x1.l_]:List Int).length)then(some (s0.2++([x1.l_]:List Int)))else none)else(bif(decide (((nth x0 s0.1).L_)=2))then(bif room (s0.2.length+([x1.k_]:List Int).length)then(some (s0.2++([x1.k_]:List Int)))else none)else(bif(decide (((nth x0 s0.1).L_)=3))then(bif room (s0.2.length+([x1.j_]:List Int).length)then(some (s0.2++([x1.j_]:List Int)))else none)else(bif(decide (((nth x0 s0.1).L_)=4))then(bif room (s0.2.length+x2.length)then(some (s0.2++x2))else none)else(bif room (s0.2.length+([]:List Int).length)then(some (s0.2++([]:List Int)))else none))))))else none) fun(s2:(List Int))=>(some (.inl ((IntKind.wrap .i64 (s0.1+1)),s2))))else(some (.inr s0.2)))) big (0,([]:List Int))) fun(s1:(List Int))=>(some s1)))
theorem i0d {x0:List a0c} {x1:e0h} {x2 r:List Int} (h:e0e x0 x1 x2=some r):SQ 149 [lsv a0a 2 x0, .agg (a0w x1),lR x2] [] (lR r) []:=by
 refine kFn (fn:=Tryz.f149) (fun F H D W=> ?_)
 unfold e0e at h
 refine kq (kn 2 ?_)
 obtain⟨y0,hy0,h4⟩:=a0d h
 refine kCg (some 13) [] (j0J hy0) (kr 1 (kq (kcN h4 (fun(s1:(List Int))=>([(6, .nl),(8, .vc 0)],[a0A (a0q .i32) 1 21 s1])) (fun s1 hy1=> ?_) (fun s1 h5=> ?_))))
 ·refine kq (kb 0 (J.wk (Wk.viv 8 1 21 (by kernel_rfl)) (J.wk (Wk.sel (L2:=[(6, .nl),(7, .mp 0),(8, .vc 4),(14,lsv a0a 2 x0),(15,iL (x0.length:Int)),(16,iL 0)]) (H2:=[.map [(iL 1, .vc 1),(iL 2, .vc 2),(iL 3, .vc 3),(iL 4,lR x2)],a0A (a0q .i32) 1 21 ([x1.l_]:List Int),a0A (a0q .i32) 1 21 ([x1.k_]:List Int),a0A (a0q .i32) 1 21 ([x1.j_]:List Int),a0A (a0q .i32) 1 21 ([]:List Int)]) 0 (by rw[D];rfl) W [1,2,3,4,5] (by kernel_rfl) (by kernel_rfl) (by decide) (by kernel_rfl) (by kernel_rfl) (by kernel_rfl) (by kernel_rfl)) (kl (fun(s0:Int×(List Int))=>([(6, .nl),(7, .mp 0),(8, .vc 4),(14,lsv a0a 2 x0),(15,iL (x0.length:Int)),(16,iL s0.1)],[.map [(iL 1, .vc 1),(iL 2, .vc 2),(iL 3, .vc 3),(iL 4,lR x2)],a0A (a0q .i32) 1 21 ([x1.l_]:List Int),a0A (a0q .i32) 1 21 ([x1.k_]:List Int),a0A (a0q .i32) 1 21 ([x1.j_]:List Int),a0A (a0q .i32) 1 21 s0.2])) hy1 [6,7,8,14,15,16] (fun s0 x324 hs0=>kq (kS (kBT 17 hs0 (fun h6=> ?_) (fun h7=> ?_))))))))
  ·refine kKN (kcN h6 (fun(s2:(List Int))=>([(6, .nl),(7, .mp 0),(8, .vc 4),(14,lsv a0a 2 x0),(15,iL (x0.length:Int)),(16,iL s0.1)],[.map [(iL 1, .vc 1),(iL 2, .vc 2),(iL 3, .vc 3),(iL 4,lR x2)],a0A (a0q .i32) 1 21 ([x1.l_]:List Int),a0A (a0q .i32) 1 21 ([x1.k_]:List Int),a0A (a0q .i32) 1 21 ([x1.j_]:List Int),a0A (a0q .i32) 1 21 s2])) (fun s2 hy2=> ?_) (fun s2 h8=> ?_))
   ·refine kb 1 (kSR (kIb 18 d0n hy2 (fun h9=>kr 3 (kq (kBT 22 h9 (fun h10=> ?_) (fun h0=> ?_))))))
    ·exact km 4 (kAp 27 4 7 1 21 [4,6] (a0q .i32) h10 (fun h11=>ke 1 (PJ.blockNormal (kNW h11 D W [0,1,2,3,7]))))
    ·refine km 4 ?_
     cases hb0:(decide (((nth x0 s0.1).L_)=1))
     ·have h1:=condF hb0 h0
      have hn367:=of_decide_eq_false hb0
      cases hb1:(decide (((nth x0 s0.1).L_)=2))
      ·have h2:=condF hb1 h1
       have hn372:=of_decide_eq_false hb1
       cases hb2:(decide (((nth x0 s0.1).L_)=3))
       ·have h3:=condF hb2 h2
        have hn377:=of_decide_eq_false hb2
        cases hb3:(decide (((nth x0 s0.1).L_)=4))
        ·have h12:=condF hb3 h3
         have hn382:=of_decide_eq_false hb3
         exact RJ.look (none) (d:=some 32) (ef:=⟨.nl,[0],[]⟩) (c:=j0B (iL ((nth x0 s0.1).L_)) [(iL 1, .vc 1),(iL 2, .vc 2),(iL 3, .vc 3),(iL 4,lR x2)]) (tr2:=[]) (by kernel_rfl) (by simp[m0y,j0B,j0W,e0i,hn367,hn372,hn377,hn382]) (kAp 33 4 6 1 21 [4] (a0q .i32) h12 (fun h13=>ke 1 (PJ.blockNormal (kNW h13 D W [0,1,2,3,6]))))
        ·have h14:=condT hb3 h3
         have hn382:=of_decide_eq_true hb3
         exact RJ.look (some 3) (d:=some 32) (ef:=⟨lR x2,[0],[]⟩) (c:=m0y (iL ((nth x0 s0.1).L_)) [(iL 1, .vc 1),(iL 2, .vc 2),(iL 3, .vc 3),(iL 4,lR x2)] 3) (tr2:=[]) (by kernel_rfl) (by simp[m0y,j0B,j0W,e0i,hn367,hn372,hn377,hn382]) (kAp 33 4 6 1 21 [4] (a0q .i32) h14 (fun h15=>ke 1 (PJ.blockNormal (kNW h15 D W [0,1,2,3,6]))))
       ·have h16:=condT hb2 h2
        have hn377:=of_decide_eq_true hb2
        exact RJ.look (some 2) (d:=some 32) (ef:=⟨.vc 3,[0],[]⟩) (c:=m0y (iL ((nth x0 s0.1).L_)) [(iL 1, .vc 1),(iL 2, .vc 2),(iL 3, .vc 3),(iL 4,lR x2)] 2) (tr2:=[]) (by kernel_rfl) (by simp[m0y,j0B,j0W,e0i,hn367,hn372,hn377]) (kAp 33 4 6 1 21 [4,3] (a0q .i32) h16 (fun h17=>ke 1 (PJ.blockNormal (kNW h17 D W [0,1,2,3,6]))))
      ·have h18:=condT hb1 h1
       have hn372:=of_decide_eq_true hb1
       exact RJ.look (some 1) (d:=some 32) (ef:=⟨.vc 2,[0],[]⟩) (c:=m0y (iL ((nth x0 s0.1).L_)) [(iL 1, .vc 1),(iL 2, .vc 2),(iL 3, .vc 3),(iL 4,lR x2)] 1) (tr2:=[]) (by kernel_rfl) (by simp[m0y,j0B,j0W,e0i,hn367,hn372]) (kAp 33 4 6 1 21 [4,2] (a0q .i32) h18 (fun h19=>ke 1 (PJ.blockNormal (kNW h19 D W [0,1,2,3,6]))))
     ·have h20:=condT hb0 h0
      have hn367:=of_decide_eq_true hb0
      exact RJ.look (some 0) (d:=some 32) (ef:=⟨.vc 1,[0],[]⟩) (c:=m0y (iL ((nth x0 s0.1).L_)) [(iL 1, .vc 1),(iL 2, .vc 2),(iL 3, .vc 3),(iL 4,lR x2)] 0) (tr2:=[]) (by kernel_rfl) (by simp[m0y,j0B,j0W,e0i,hn367]) (kAp 33 4 6 1 21 [4,1] (a0q .i32) h20 (fun h21=>ke 1 (PJ.blockNormal (kNW h21 D W [0,1,2,3,6]))))
   ·exact kM (kLo h8 [6,7,8,14,15,16])
  ·exact kEp 0 (kLx h7 (fun h22=>PJ.blockOut (kNW h22 D W [4])))
 ·exact kq (kX (by obtain rfl:=oi h5;exact PJ.wk (Wk.freeze 0 (n:=s1.length) (k:=1) (e:=21) (cs:=s1.flatMap (a0q .i32)) (by kernel_rfl)) (kZ H D W)))
def h0V(x0:d0b)(x1:e0h)(x2:Int)(x3:List Int):Option (n0e):=
 (Option.bind (f0z x0 x2) fun y0=>(Option.bind (e0e y0.1 x1 x3) fun y1=>(Option.bind (e0e y0.2 x1 x3) fun y2=>(some (⟨y1,y2⟩:n0e)))))
theorem k0k {x0:d0b} {x1:e0h} {x2:Int} {x3:List Int} {r:n0e} (h:h0V x0 x1 x2 x3=some r):SQ 118 [.agg (a0f x0), .agg (a0w x1),iL x2,lR x3] [] (.agg (k0f r)) []:=by
 refine kFn (fn:=Tryz.f118) (fun F H D W=> ?_)
 unfold h0V at h
 refine kq (kn 2 (kAb 14 h (fun _=>m0M) (fun y0 h0=>kr 5 (kS (kDr (kD 3 ?_))))))
 obtain⟨y1,hy0,h1⟩:=a0d h0
 refine kC0 (some 20) [([],[]),([2,3],[]),([],[]),([],[6,7])] (i0d hy0) (kD 3 ?_)
 obtain⟨y2,hy1,h2⟩:=a0d h1
 exact kC0 (some 24) [([],[]),([2,3],[]),([],[]),([],[6,7]),([],[]),([2,3],[]),([],[]),([],[8,9])] (i0d hy1) (kD 2 (kEN (kX (by cases h2;exact kZ H D W))))
def e0b(x0:e0h)(x1:d0b)(x2:List Int):Option (m0N):=
 (Option.bind (h0V x1 x0 0 x2) fun y0=>(Option.bind (h0V x1 x0 1 x2) fun y1=>(Option.bind (h0V x1 x0 2 x2) fun y2=>(some (⟨y0,y1,y2⟩:m0N)))))
theorem f0S {x0:e0h} {x1:d0b} {x2:List Int} {r:m0N} (h:e0b x0 x1 x2=some r):SQ 80 [.agg (a0w x0), .agg (a0f x1),lR x2] [] (.agg (d0d r)) []:=by
 refine kFn (fn:=Tryz.f80) (fun F H D W=> ?_)
 unfold e0b at h
 refine kq (kS (kDr (kD 3 ?_)))
 obtain⟨y0,hy0,h0⟩:=a0d h
 refine kC0 (some 10) [([2,3],[]),([0,1],[]),([],[]),([],[6,7])] (k0k hy0) (kD 3 ?_)
 obtain⟨y1,hy1,h1⟩:=a0d h0
 refine kC0 (some 14) [([2,3],[]),([0,1],[]),([],[]),([],[6,7]),([2,3],[]),([0,1],[]),([],[]),([],[8,9])] (k0k hy1) (kD 3 ?_)
 obtain⟨y2,hy2,h2⟩:=a0d h1
 exact kC0 (some 18) [([2,3],[]),([0,1],[]),([],[]),([],[6,7]),([2,3],[]),([0,1],[]),([],[]),([],[8,9]),([2,3],[]),([0,1],[]),([],[]),([],[10,11])] (k0k hy2) (kD 2 (kEN (kX (by cases h2;exact kZ H D W))))
def f0q(x0:List Int):Option (List Int):=
 (bif(Nat.beq x0.length 0)then n0c (some ([]:List Int)) (bif room x0.length then(some x0)else none)else(bif room x0.length then(some x0)else none))
theorem k0V {x0 r:List Int} (h:f0q x0=some r):SQ 119 [lR x0] [] (.vc 0) [a0A (a0q .i32) 1 21 r]:=by
 refine kFn (fn:=Tryz.f119) (fun F H D W=> ?_)
 unfold f0q at h
 refine kq (kS (kn 1 (RJ.isNil (d:=4) (n:=x0.length) (eq:=true) (by kernel_rfl) (fun b hb0=> ?_))))
 cases b
 ·have h0:=x0h h
  refine kEN (kF (kKN (kn 2 ?_)))
  obtain⟨hm,h1⟩:=a0Q h0
  exact RJ.rel (d:=(some 7)) (ef':=⟨.vc 0,[],[(0, .vec x0.length 1 21 (x0.flatMap (a0q .i32)))]⟩) (tr2:=[]) (H2:=[a0A (a0q .i32) 1 21 x0]) (by kernel_rfl) hm (fun hc=>rfl) (by kernel_rfl) (kr 1 (kX (by obtain rfl:=oi h1;exact kRV [0] (.inr rfl) H D W)))
 ·have h2:=x0g (by rw[hb0 rfl];rfl) h
  exact kEN (kT (kq (kX (PJ.passRet (by obtain rfl:=oi h2;exact PJ.wk (Wk.viv 2 1 21 (by kernel_rfl)) (kRV [0] (.inr rfl) H D W))))))
def k0_:List Int:=[48,1632,1776,1984,2406,2534,2662,2790,2918,3046,3174,3302,3430,3664,3792,3872,6112,6160,65296,120782]
def d0a(x0:Int):Option (Int×Bool):=
 (Option.bind (a0l (fun(s0:Int)=>(bif(decide (s0<20))then(Option.bind (bif inR s0 20 then(Option.bind (bif(decide ((nth k0_ s0)≤x0))then(some ((decide (x0≤((IntKind.wrap .i32 ((nth k0_ s0)+9)))))))else(some false)) fun(s1:Bool)=>(bif s1 then(some (.inr (.inr (.inr ((IntKind.wrap .i64 ((IntKind.wrap .i32 (x0-(nth k0_ s0))))),true)))))else(some (.inl ()))))else none) (a0j fun(s2:Unit)=>(some (.inl (IntKind.wrap .i64 (s0+1))))))else(some (.inr (.inl ()))))) big 0) (a0j fun(s3:Unit)=>(some (0,false))))
theorem h0c {x0:Int} {r:Int×Bool} (h:d0a x0=some r):SQ 92 [iM x0] [] (.tup [iL r.1, .bool r.2]) []:=by
 refine kFn (fn:=Tryz.f92) (fun F H D W=> ?_)
 unfold d0a at h
 refine kq (kcX h (fun(s3:Unit)=>([(2,iL 0),(3, .bool false)],[])) (fun y0 hy0 h0=> ?_) (fun s3 h1=> ?_))
 ·refine kq (kb 0 (kl (fun(s0:Int)=>([(0,iM x0),(2,iL 0),(3, .bool false),(6, .agg [iM 48,iM 1632,iM 1776,iM 1984,iM 2406,iM 2534,iM 2662,iM 2790,iM 2918,iM 3046,iM 3174,iM 3302,iM 3430,iM 3664,iM 3792,iM 3872,iM 6112,iM 6160,iM 65296,iM 120782]),(7,iL s0)],[])) hy0 [0,2,3,6,7] (fun s0 x247 hs0=>kq (kS (kBT 8 hs0 (fun h2=> ?_) (fun h3=> ?_))))))
  ·refine kKN (kcX h2 (fun(s2:Unit)=>([(0,iM x0),(2,iL 0),(3, .bool false),(6, .agg [iM 48,iM 1632,iM 1776,iM 1984,iM 2406,iM 2534,iM 2662,iM 2790,iM 2918,iM 3046,iM 3174,iM 3302,iM 3430,iM 3664,iM 3792,iM 3872,iM 6112,iM 6160,iM 65296,iM 120782]),(7,iL s0)],[])) (fun y1 hy1 h4=> ?_) (fun s2 h5=> ?_))
   ·refine kb 1 (kSR ?_)
    obtain⟨hm,h6⟩:=a0Q hy1
    exact RJ.rel (d:=(some 9)) (ef:=⟨((k0_.flatMap (a0q .i32)).drop ((s0:Int).toNat*1)).headD .undef,[],[]⟩) (ef':=⟨iM (nth k0_ s0),[],[]⟩) (c:=inR s0 20) (tr2:=[]) (H2:=[]) (by kernel_rfl) hm (fun hc=>N.load1 (a0x .i32) (fun _=>rfl) hc) (by kernel_rfl) (kr 1 (kcN h6 (fun(s1:Bool)=>([(0,iM x0),(2,iL 0),(3, .bool false),(5,iM (nth k0_ s0)),(6, .agg [iM 48,iM 1632,iM 1776,iM 1984,iM 2406,iM 2534,iM 2662,iM 2790,iM 2918,iM 3046,iM 3174,iM 3302,iM 3430,iM 3664,iM 3792,iM 3872,iM 6112,iM 6160,iM 65296,iM 120782]),(7,iL s0),(18, .bool s1)],[])) (fun s1 hy2=>km 4 (kB 13 hy2 (fun h8=>ke 5 (kNo h8 [0,2,3,5,6,7,18])) (fun h9=>ke 5 (kNo h9 [0,2,3,5,6,7,18])))) (fun s1 h7=>kBT 18 h7 (fun h10=>kq (kXb (kCx h10 h4 (fun h12=>kLx h12 (fun h13=>PJ.blockRet (kCx h13 h0 (fun h14=>by obtain rfl:=oi h14;exact kZ H D W))))))) (fun h11=>kKb (kXo h11 [0,2,3,6,7])))))
   ·exact kM (kLo h5 [0,2,3,6,7])
  ·exact kEp 0 (kLx h3 (fun h15=>PJ.blockOut (kXo h15 [2,3])))
 ·exact kq (kX (by cases h1;exact kZ H D W))
def f0h(x0:e0h)(x1:Int):Option (Bool):=
 (Option.bind (bif(decide (x1=x0.m_))then(some true)else(bif(decide (x1=x0.o_))then(some true)else(some (decide (x1=x0.i_))))) fun(s0:Bool)=>(some s0))
theorem j0K {x0:e0h} {x1:Int} {r:Bool} (h:f0h x0 x1=some r):SQ 93 [.agg (a0w x0),iM x1] [] (.bool r) []:=by
 refine kFn (fn:=Tryz.f93) (fun F H D W=> ?_)
 unfold f0h at h
 exact kq (kcN h (fun(s0:Bool)=>([(4, .bool s0)],[])) (fun s0 hy0=>km 5 (kB 9 hy0 (fun h1=>ke 12 (kNW h1 D W [])) (fun h2=>kc 6 (kB 15 h2 (fun h3=>ke 6 (kNW h3 D W [])) (fun h4=>ke 6 (kNW h4 D W [])))))) (fun s0 h0=>kX (by cases h0;exact kZ H D W)))
structure a0n where
 e_:Int
 f_:Int
 deriving Inhabited,DecidableEq
def a0h(x:a0n):List SV:=[.int .i32 x.e_, .int .i32 x.f_]
theorem w0Z(x:a0n):(a0h x).length=2:=rfl
def d0j:Option ((List (a0n×Int))):=
 (some (([((⟨0,31⟩:a0n),1),((⟨127,159⟩:a0n),1),((⟨1564,1564⟩:a0n),2),((⟨8206,8207⟩:a0n),2),((⟨8234,8238⟩:a0n),2),((⟨8294,8297⟩:a0n),2),((⟨64976,65007⟩:a0n),3),((⟨32,32⟩:a0n),4),((⟨160,160⟩:a0n),4),((⟨5760,5760⟩:a0n),4),((⟨8192,8202⟩:a0n),4),((⟨8232,8233⟩:a0n),4),((⟨8239,8239⟩:a0n),4),((⟨8287,8287⟩:a0n),4),((⟨12288,12288⟩:a0n),4)]:List (a0n×Int))))
theorem g0H {r:(List (a0n×Int))} (h:d0j=some r):SQ 121 [] [] (.mp 0) [.pmap (b0O (fun k:a0n=> .agg (a0h k)) (fun k:Int=>iL k) r)]:=by
 refine kFn (fn:=Tryz.f121) (fun F H D W=> ?_)
 unfold d0j at h
 exact kq (kS (J.keep [] (L2:=[]) (by kernel_rfl) (K.mapLitC 196 (es:=b0O (fun k:a0n=> .agg (a0h k)) (fun k:Int=>iL k) ([((⟨0,31⟩:a0n),1),((⟨127,159⟩:a0n),1),((⟨1564,1564⟩:a0n),2),((⟨8206,8207⟩:a0n),2),((⟨8234,8238⟩:a0n),2),((⟨8294,8297⟩:a0n),2),((⟨64976,65007⟩:a0n),3),((⟨32,32⟩:a0n),4),((⟨160,160⟩:a0n),4),((⟨5760,5760⟩:a0n),4),((⟨8192,8202⟩:a0n),4),((⟨8232,8233⟩:a0n),4),((⟨8239,8239⟩:a0n),4),((⟨8287,8287⟩:a0n),4),((⟨12288,12288⟩:a0n),4)]:List (a0n×Int))) (L2:=[(0, .mp 0)]) (by kernel_rfl) (by kernel_rfl) (n:=0) (by kernel_rfl) (by kernel_rfl) (by kernel_rfl) (by kernel_rfl) (by kernel_rfl) (by kernel_rfl) [0] (by kernel_rfl) (PJ.next (kX (by obtain rfl:=oi h;exact K.retV (H0:=[]) [0] (.inr rfl) H D W (by kernel_rfl) (v1:= .mp 0) (by kernel_rfl) (by kernel_rfl) (by simp only[ah,av,n0P (ek:=(fun k:a0n=> .agg (a0h k))) (ev:=(fun k:Int=>iL k)) (fun _ _=>rfl) (fun _ _=>rfl)];kernel_rfl) (by decide) (by simp only[aB,aG,s0f (ek:=(fun k:a0n=> .agg (a0h k))) (ev:=(fun k:Int=>iL k)) (fun _ _=>rfl) (fun _ _=>rfl)];kernel_rfl) (by kernel_rfl) (by kernel_rfl) (by kernel_rfl) (by kernel_rfl)))))))
def a0u(x0:Int)(x1:List (a0n×Int)):Option (Int×(List (a0n×Int))):=
 (Option.bind (h0X x0) fun y0=>(bif(!y0)then(some (6,x1))else(bif(decide ((bits .and .i32 x0 65534)=65534))then(some (3,x1))else(Option.bind (Option.bind (i0K (fun(e49:a0n×Int)=>(Option.bind (bif(decide (e49.1.e_≤x0))then(some (decide (x0≤e49.1.f_)))else(some false)) fun(s0:Bool)=>(bif s0 then(some (.inr (.inr (((c0C (fun a b:a0n=>((decide (a.e_=b.e_))&&((decide (a.f_=b.f_))&&true))) x1 e49.1).getD 0),x1))))else(some (.inl ()))))) x1) (a0j fun(_:Unit)=>(some (.inl ())))) (a0j fun(s1:Unit)=>(Option.bind (d0a x0) fun y1=>(bif y1.2 then(some (5,x1))else(some (0,x1)))))))))
theorem e0G {x0:Int} {x1:List (a0n×Int)} {r:Int×(List (a0n×Int))} (h:a0u x0 x1=some r):SQ 122 [.mp 0,iM x0] [.map (b0O (fun k:a0n=> .agg (a0h k)) (fun k:Int=>iL k) x1)] (iL r.1) [.map (b0O (fun k:a0n=> .agg (a0h k)) (fun k:Int=>iL k) r.2)]:=by
 refine kFn (fn:=Tryz.f122) (fun F H D W=> ?_)
 unfold a0u at h
 refine kq (kS (kn 1 (kAb 9 h (fun _=>o0E) (fun y0 h1=>kr 1 (kBT 10 h1 (fun h2=> ?_) (fun h3=> ?_))))))
 ·exact kq (kX (PJ.passRet (by obtain rfl:=oi h2;exact K.retV (H0:=[.map (b0O (fun k:a0n=> .agg (a0h k)) (fun k:Int=>iL k) x1)]) [0] (.inr rfl) H D W (by kernel_rfl) (v1:=iL 6) (by kernel_rfl) (by kernel_rfl) (by simp only[ah,av,c0r (ek:=(fun k:a0n=> .agg (a0h k))) (ev:=(fun k:Int=>iL k)) (fun _ _=>rfl) (fun _ _=>rfl)];kernel_rfl) (by decide) (by simp only[aB,aG,b0C (ek:=(fun k:a0n=> .agg (a0h k))) (ev:=(fun k:Int=>iL k)) (fun _ _=>rfl) (fun _ _=>rfl)];kernel_rfl) (by kernel_rfl) (by kernel_rfl) (by kernel_rfl) (by kernel_rfl))))
 ·refine kKN (kS (kq (kBT 13 h3 (fun h4=> ?_) (fun h5=> ?_))))
  ·exact kq (kX (PJ.passRet (by obtain rfl:=oi h4;exact K.retV (H0:=[.map (b0O (fun k:a0n=> .agg (a0h k)) (fun k:Int=>iL k) x1)]) [0] (.inr rfl) H D W (by kernel_rfl) (v1:=iL 3) (by kernel_rfl) (by kernel_rfl) (by simp only[ah,av,c0r (ek:=(fun k:a0n=> .agg (a0h k))) (ev:=(fun k:Int=>iL k)) (fun _ _=>rfl) (fun _ _=>rfl)];kernel_rfl) (by decide) (by simp only[aB,aG,b0C (ek:=(fun k:a0n=> .agg (a0h k))) (ev:=(fun k:Int=>iL k)) (fun _ _=>rfl) (fun _ _=>rfl)];kernel_rfl) (by kernel_rfl) (by kernel_rfl) (by kernel_rfl) (by kernel_rfl))))
  ·refine kKN (kcX h5 (fun(s1:Unit)=>([(1,iM x0),(4,iL 0)],[.map (b0O (fun k:a0n=> .agg (a0h k)) (fun k:Int=>iL k) x1)])) (fun y2 hy0 h6=> ?_) (fun s1 h7=> ?_))
   ·refine kn 1 (RJ.range (d:=(some 15)) (i:=0) (n:=(b0O (fun k:a0n=> .agg (a0h k)) (fun k:Int=>iL k) x1).length) (by kernel_rfl) (kEN (kb 0 ?_)))
    obtain⟨y3,hy1,h0⟩:=a0d hy0
    refine K.mapLoop 15 16 17 0 1 0 (n:=(b0O (fun k:a0n=> .agg (a0h k)) (fun k:Int=>iL k) x1).length) (by kernel_rfl) (by kernel_rfl) _ _ (fun p:a0n×Int=>((fun k:a0n=> .agg (a0h k)) p.1,(fun k:Int=>iL k) p.2)) hy1 [0,1,4,15] (L2:=[(0, .mp 0),(1,iM x0),(4,iL 0),(15, .ptr 1 0)]) (by kernel_rfl) (by kernel_rfl) (by kernel_rfl) (by kernel_rfl) (by kernel_rfl) (by kernel_rfl) (fun sq=> [.map (b0O (fun k:a0n=> .agg (a0h k)) (fun k:Int=>iL k) x1), .itr 0 ((b0O (fun k:a0n=> .agg (a0h k)) (fun k:Int=>iL k) x1).length) sq]) (by kernel_rfl) (fun _ _=>by kernel_rfl) (fun _=>by kernel_rfl) (fun _=>by kernel_rfl) rfl (fun sv50 he0=> ?_) (fun sv50 bv51 e49 x70 hb0 hx46=> ?_)
    ·subst he0
     have h8:=k0D h0
     exact PJ.blockOut (PJ.wk (Wk.sel (L2:=[(1,iM x0),(4,iL 0)]) (H2:=[.map (b0O (fun k:a0n=> .agg (a0h k)) (fun k:Int=>iL k) x1)]) 1 (by rw[D];rfl) W [0] (by kernel_rfl) (by simp only[ah,av,c0r (ek:=(fun k:a0n=> .agg (a0h k))) (ev:=(fun k:Int=>iL k)) (fun _ _=>rfl) (fun _ _=>rfl)];kernel_rfl) (by decide) (by simp only[aB,aG,b0C (ek:=(fun k:a0n=> .agg (a0h k))) (ev:=(fun k:Int=>iL k)) (fun _ _=>rfl) (fun _ _=>rfl)];kernel_rfl) (by kernel_rfl) (by kernel_rfl) (by kernel_rfl)) (kXo h8 [1,4]))
    ·refine kb 1 (kSR (RJ.entry (d:=(some 18)) (i:=0) (n:=(b0O (fun k:a0n=> .agg (a0h k)) (fun k:Int=>iL k) x1).length) (b:=bv51) (s:=sv50) (kv:=((.agg (a0h e49.1):SV),(iL e49.2:SV))) (by kernel_rfl) (by kernel_rfl) rfl hb0 (kr 3 (kcN hx46 (fun(s0:Bool)=>([(0, .mp 0),(1,iM x0),(4,iL 0),(5, .ptr 1 0),(15, .ptr 2 0),(29, .bool s0)],[.map (b0O (fun k:a0n=> .agg (a0h k)) (fun k:Int=>iL k) x1), .box (a0h e49.1), .itr 0 ((b0O (fun k:a0n=> .agg (a0h k)) (fun k:Int=>iL k) x1).length) (sv50++ [bv51])])) (fun s0 hy2=> ?_) (fun s0 h9=> ?_)))))
     ·exact km 5 (kB 24 hy2 (fun h10=>ke 5 (PJ.wk (Wk.sel (L2:=[(0, .mp 0),(1,iM x0),(4,iL 0),(5, .ptr 1 0),(15, .ptr 2 0),(29, .bool (decide (x0≤e49.1.f_)))]) (H2:=[.map (b0O (fun k:a0n=> .agg (a0h k)) (fun k:Int=>iL k) x1), .box (a0h e49.1), .itr 0 ((b0O (fun k:a0n=> .agg (a0h k)) (fun k:Int=>iL k) x1).length) (sv50++ [bv51])]) 1 (by rw[D];rfl) W [0,2,1] (by kernel_rfl) (by simp only[ah,av,c0r (ek:=(fun k:a0n=> .agg (a0h k))) (ev:=(fun k:Int=>iL k)) (fun _ _=>rfl) (fun _ _=>rfl)];kernel_rfl) (by decide) (by simp only[aB,aG,b0C (ek:=(fun k:a0n=> .agg (a0h k))) (ev:=(fun k:Int=>iL k)) (fun _ _=>rfl) (fun _ _=>rfl)];kernel_rfl) (by kernel_rfl) (by kernel_rfl) (by kernel_rfl)) (kNo h10 [0,1,4,5,15,29]))) (fun h11=>ke 5 (PJ.wk (Wk.sel (L2:=[(0, .mp 0),(1,iM x0),(4,iL 0),(5, .ptr 1 0),(15, .ptr 2 0),(29, .bool false)]) (H2:=[.map (b0O (fun k:a0n=> .agg (a0h k)) (fun k:Int=>iL k) x1), .box (a0h e49.1), .itr 0 ((b0O (fun k:a0n=> .agg (a0h k)) (fun k:Int=>iL k) x1).length) (sv50++ [bv51])]) 1 (by rw[D];rfl) W [0,2,1] (by kernel_rfl) (by simp only[ah,av,c0r (ek:=(fun k:a0n=> .agg (a0h k))) (ev:=(fun k:Int=>iL k)) (fun _ _=>rfl) (fun _ _=>rfl)];kernel_rfl) (by decide) (by simp only[aB,aG,b0C (ek:=(fun k:a0n=> .agg (a0h k))) (ev:=(fun k:Int=>iL k)) (fun _ _=>rfl) (fun _ _=>rfl)];kernel_rfl) (by kernel_rfl) (by kernel_rfl) (by kernel_rfl)) (kNo h11 [0,1,4,5,15,29]))))
     ·refine kBT 29 h9 (fun h12=> ?_) (fun h13=> ?_)
      ·refine kn 2 (RJ.lookD (d:=(some 32)) (kt:=196) (i:=0) (cs:=(a0h e49.1)) (ok:=false) (tr2:=[]) (fun k:a0n=> .agg (a0h k)) (fun k:Int=>iL k) (fun a b:a0n=>((decide (a.e_=b.e_))&&((decide (a.f_=b.f_))&&true))) x1 e49.1 (0:Int) (by kernel_rfl) rfl (fun a b=>by kernel_rfl) (kr 1 (kXb ?_)))
       obtain rfl:=oi h12
       refine PJ.mapOut (fun e=>nomatch e) (fun he1=> ?_)
       subst he1
       have h14:=b0P h0
       exact PJ.blockRet (kCx h14 h6 (fun h15=>by obtain rfl:=oi h15;exact K.retV (H0:=[.map (b0O (fun k:a0n=> .agg (a0h k)) (fun k:Int=>iL k) x1)]) [0] (.inr rfl) H D W (by kernel_rfl) (v1:=iL (((c0C (fun a b:a0n=>((decide (a.e_=b.e_))&&((decide (a.f_=b.f_))&&true))) x1 e49.1).getD 0))) (by kernel_rfl) (by kernel_rfl) (by simp only[ah,av,c0r (ek:=(fun k:a0n=> .agg (a0h k))) (ev:=(fun k:Int=>iL k)) (fun _ _=>rfl) (fun _ _=>rfl)];kernel_rfl) (by decide) (by simp only[aB,aG,b0C (ek:=(fun k:a0n=> .agg (a0h k))) (ev:=(fun k:Int=>iL k)) (fun _ _=>rfl) (fun _ _=>rfl)];kernel_rfl) (by kernel_rfl) (by kernel_rfl) (by kernel_rfl) (by kernel_rfl)))
      ·exact kKb (by obtain rfl:=oi h13;exact PJ.wk (Wk.sel (L2:=[(0, .mp 0),(1,iM x0),(4,iL 0),(15, .ptr 1 0)]) (H2:=[.map (b0O (fun k:a0n=> .agg (a0h k)) (fun k:Int=>iL k) x1), .itr 0 ((b0O (fun k:a0n=> .agg (a0h k)) (fun k:Int=>iL k) x1).length) (sv50++ [bv51])]) 1 (by rw[D];rfl) W [0,2] (by kernel_rfl) (by simp only[ah,av,c0r (ek:=(fun k:a0n=> .agg (a0h k))) (ev:=(fun k:Int=>iL k)) (fun _ _=>rfl) (fun _ _=>rfl)];kernel_rfl) (by decide) (by simp only[aB,aG,b0C (ek:=(fun k:a0n=> .agg (a0h k))) (ev:=(fun k:Int=>iL k)) (fun _ _=>rfl) (fun _ _=>rfl)];kernel_rfl) (by kernel_rfl) (by kernel_rfl) (by kernel_rfl)) (PJ.mapNext [0,1,4,15] (by kernel_rfl) (by kernel_rfl)))
   ·exact kS (kn 1 (kAb 35 h7 (fun _=>h0c) (fun y1 h16=>kr 5 (kq (kBT 38 h16 (fun h17=>kq (kX (PJ.passRet (by obtain rfl:=oi h17;exact K.retV (H0:=[.map (b0O (fun k:a0n=> .agg (a0h k)) (fun k:Int=>iL k) x1)]) [0] (.inr rfl) H D W (by kernel_rfl) (v1:=iL 5) (by kernel_rfl) (by kernel_rfl) (by simp only[ah,av,c0r (ek:=(fun k:a0n=> .agg (a0h k))) (ev:=(fun k:Int=>iL k)) (fun _ _=>rfl) (fun _ _=>rfl)];kernel_rfl) (by decide) (by simp only[aB,aG,b0C (ek:=(fun k:a0n=> .agg (a0h k))) (ev:=(fun k:Int=>iL k)) (fun _ _=>rfl) (fun _ _=>rfl)];kernel_rfl) (by kernel_rfl) (by kernel_rfl) (by kernel_rfl) (by kernel_rfl))))) (fun h18=>kKN (kq (kX (by obtain rfl:=oi h18;exact K.retV (H0:=[.map (b0O (fun k:a0n=> .agg (a0h k)) (fun k:Int=>iL k) x1)]) [0] (.inr rfl) H D W (by kernel_rfl) (v1:=iL 0) (by kernel_rfl) (by kernel_rfl) (by simp only[ah,av,c0r (ek:=(fun k:a0n=> .agg (a0h k))) (ev:=(fun k:Int=>iL k)) (fun _ _=>rfl) (fun _ _=>rfl)];kernel_rfl) (by decide) (by simp only[aB,aG,b0C (ek:=(fun k:a0n=> .agg (a0h k))) (ev:=(fun k:Int=>iL k)) (fun _ _=>rfl) (fun _ _=>rfl)];kernel_rfl) (by kernel_rfl) (by kernel_rfl) (by kernel_rfl) (by kernel_rfl))))))))))
noncomputable def k0i(x0:List Int):Option (Bool):=
 (Option.bind d0j fun y1=>n0C (fun(ms4:List (a0n×Int))=>(Option.bind (a0l (fun(s0:Int×(List (a0n×Int)))=>(bif(decide (s0.1<(x0.length:Int)))then(Option.bind (bif inR s0.1 x0.length then(Option.bind (a0u (nth x0 s0.1) s0.2) fun y0=>(Option.bind (bif(decide (y0.1=0))then(some true)else(bif(decide (y0.1=4))then(some true)else(bif(decide (y0.1=5))then(some true)else(some (decide (y0.1=2)))))) fun(s1:Bool)=>(bif s1 then(some (.inl y0.2))else(some (.inr (.inr (.inr false)))))))else none) (a0j fun(s2:(List (a0n×Int)))=>(some (.inl ((IntKind.wrap .i64 (s0.1+1)),s2)))))else(some (.inr (.inl ()))))) big (0,ms4)) (a0j fun(s3:Unit)=>(some true)))) y1)
theorem m0Y {x0:List Int} {r:Bool} (h:k0i x0=some r):SQ 94 [lR x0] [] (.bool r) []:=by
 refine kFn (fn:=Tryz.f94) (fun F H D W=> ?_)
 unfold k0i at h
 refine kq (kSR ?_)
 obtain⟨y1,hy0,h0⟩:=a0d h
 refine RJ.callG (d:=(some 6)) (f:=121) (args:=[]) (args0:=[]) (v0:= .mp 0) (v:= .mp 0) (tr2:=[]) (H0:=[]) (H0':=[.pmap (b0O (fun k:a0n=> .agg (a0h k)) (fun k:Int=>iL k) y1)]) (H2:=[.pmap (b0O (fun k:a0n=> .agg (a0h k)) (fun k:Int=>iL k) y1)]) [] (by kernel_rfl) (by kernel_rfl) (by kernel_rfl) (by kernel_rfl) (by decide) (by kernel_rfl) (by kernel_rfl) (by kernel_rfl) .nil (g0H hy0) (by kernel_rfl) (by kernel_rfl) ((show d0x (b0L []) 0 _ [.pmap (b0O (fun k:a0n=> .agg (a0h k)) (fun k:Int=>iL k) y1)]=[Ent.rn (gOf (b0L []) 0 0) (.pmap (b0O (fun k:a0n=> .agg (a0h k)) (fun k:Int=>iL k) y1))] by kernel_rfl).trans (by simp only[n0P (ek:=(fun k:a0n=> .agg (a0h k))) (ev:=(fun k:Int=>iL k)) (fun _ _=>rfl) (fun _ _=>rfl)])) (RJ.openMap (ek:=(fun k:a0n=> .agg (a0h k))) (ev:=(fun k:Int=>iL k)) y1 0 (fun ms4=> [.map (b0O (fun k:a0n=> .agg (a0h k)) (fun k:Int=>iL k) ms4)]) (by kernel_rfl) (fun _=>by kernel_rfl) (fun ms4 hp5=> ?_))
 have h1:=n0B h0 ms4 hp5
 refine kr 1 (kcX h1 (fun(s3:Unit)=>([(2, .bool false)],[])) (fun y2 hy1 h2=> ?_) (fun s3 h3=> ?_))
 ·refine kq (kb 0 (kl (fun(s0:Int×(List (a0n×Int)))=>([(2, .bool false),(3, .mp 0),(7,lR x0),(8,iL (x0.length:Int)),(9,iL s0.1)],[.map (b0O (fun k:a0n=> .agg (a0h k)) (fun k:Int=>iL k) s0.2)])) hy1 [2,3,7,8,9] (fun s0 x407 hs0=>kq (kS (kBT 10 hs0 (fun h4=> ?_) (fun h5=> ?_))))))
  ·refine kKN (kcX h4 (fun(s2:(List (a0n×Int)))=>([(2, .bool false),(3, .mp 0),(7,lR x0),(8,iL (x0.length:Int)),(9,iL s0.1)],[.map (b0O (fun k:a0n=> .agg (a0h k)) (fun k:Int=>iL k) s2)])) (fun y3 hy2 h6=> ?_) (fun s2 h7=> ?_))
   ·refine kb 1 (kSR (kIb 11 (a0x .i32) hy2 (fun h8=>kr 2 (kn 2 ?_))))
    obtain⟨y0,hy3,h9⟩:=a0d h8
    exact RJ.callG (d:=(some 15)) (f:=122) (args:=[.mp 0,iM (nth x0 s0.1)]) (args0:=[.mp 0,iM (nth x0 s0.1)]) (v0:=iL y0.1) (v:=iL y0.1) (tr2:=[]) (H0:=[.map (b0O (fun k:a0n=> .agg (a0h k)) (fun k:Int=>iL k) s0.2)]) (H0':=[.map (b0O (fun k:a0n=> .agg (a0h k)) (fun k:Int=>iL k) y0.2)]) (H2:=[.map (b0O (fun k:a0n=> .agg (a0h k)) (fun k:Int=>iL k) y0.2)]) [0] (by kernel_rfl) (by kernel_rfl) (by kernel_rfl) (by simp only[ah,av,c0r (ek:=(fun k:a0n=> .agg (a0h k))) (ev:=(fun k:Int=>iL k)) (fun _ _=>rfl) (fun _ _=>rfl)];kernel_rfl) (by decide) (by simp only[aB,aG,b0C (ek:=(fun k:a0n=> .agg (a0h k))) (ev:=(fun k:Int=>iL k)) (fun _ _=>rfl) (fun _ _=>rfl)];kernel_rfl) (by kernel_rfl) (by kernel_rfl) (LeL.refl _) (e0G hy3) (by kernel_rfl) (by kernel_rfl) ((show d0x (b0L [0]) 1 _ [.map (b0O (fun k:a0n=> .agg (a0h k)) (fun k:Int=>iL k) y0.2)]=[Ent.rn (gOf (b0L [0]) 1 1) (.map (b0O (fun k:a0n=> .agg (a0h k)) (fun k:Int=>iL k) y0.2))] by kernel_rfl).trans (by simp only[c0r (ek:=(fun k:a0n=> .agg (a0h k))) (ev:=(fun k:Int=>iL k)) (fun _ _=>rfl) (fun _ _=>rfl)])) (kEN (kb 2 (kcN h9 (fun(s1:Bool)=>([(2, .bool false),(3, .mp 0),(7,lR x0),(8,iL (x0.length:Int)),(9,iL s0.1),(16, .bool s1)],[.map (b0O (fun k:a0n=> .agg (a0h k)) (fun k:Int=>iL k) y0.2)])) (fun s1 hy4=>kq (kBT 16 hy4 (fun h11=>kK (kNo h11 [2,3,7,8,9,16])) (fun h12=>kq (kBT 16 h12 (fun h13=>kK (kNo h13 [2,3,7,8,9,16])) (fun h14=>kq (kBT 16 h14 (fun h15=>kK (kNo h15 [2,3,7,8,9,16])) (fun h16=>kM (kNo h16 [2,3,7,8,9,16])))))))) (fun s1 h10=>kBT 16 h10 (fun h17=>kKb (PJ.blockNormal (kXo h17 [2,3,7,8,9]))) (fun h18=>kq (kXb (PJ.blockRet (kCx h18 h6 (fun h19=>kLx h19 (fun h20=>PJ.blockRet (kCx h20 h2 (fun h21=>by obtain rfl:=oi h21;exact kZ H D W))))))))))))
   ·exact kM (kLo h7 [2,3,7,8,9])
  ·exact kEp 0 (kLx h5 (fun h22=>PJ.blockOut (kXW h22 D W [])))
 ·exact kq (kX (by cases h3;exact kZ H D W))
theorem p0o {E X:Type} [DecidableEq X](f:E→Option (Unit⊕X))(hit:E→Bool)(v:X): ∀(ms:List E),(∀e∈ms,f e=some (if hit e=true then .inr v else .inl ()))→i0K f ms=some (if ms.any hit=true then .inr v else .inl ())
 | [],_=>rfl
 |e::r,h=>by
  have ih:=p0o f hit v r fun x hx=>h x (aj _ hx)
  simp only[i0K,h e (ap ..),ih,List.any_cons]
  by_cases h0:hit e=true
  ·by_cases h1:r.any hit=true
   ·simp only[h0,h1,if_true,Bool.or_self]
   ·simp only[h0,h1,if_true,Bool.true_or,if_false,aE]
  ·have h0':hit e=false:=by simpa using h0
   simp only[h0',if_false,Bool.false_or,aE]
def k0l:List (a0n×Int):=[((⟨0,31⟩:a0n),1),((⟨127,159⟩:a0n),1),((⟨1564,1564⟩:a0n),2),((⟨8206,8207⟩:a0n),2),((⟨8234,8238⟩:a0n),2),((⟨8294,8297⟩:a0n),2),((⟨64976,65007⟩:a0n),3),((⟨32,32⟩:a0n),4),((⟨160,160⟩:a0n),4),((⟨5760,5760⟩:a0n),4),((⟨8192,8202⟩:a0n),4),((⟨8232,8233⟩:a0n),4),((⟨8239,8239⟩:a0n),4),((⟨8287,8287⟩:a0n),4),((⟨12288,12288⟩:a0n),4)]
def eqK(a b:a0n):Bool:=(decide (a.e_=b.e_))&&((decide (a.f_=b.f_))&&true)
def q0E(r:Int)(e:a0n×Int):Bool:=decide (e.1.e_≤r)&&decide (r≤e.1.f_)
def tab(r:Int):Int:=match k0l.find? (q0E r)with
 |some e=>e.2
 |none=>0
theorem t0T {ms:List (a0n×Int)} (h: ∀a∈ms,∀b∈ms,eqK a.1 b.1=true→b.2=a.2) {e:a0n×Int} (he:e∈ms):c0C eqK ms e.1=some e.2:=by
 have key: ∀l:List (a0n×Int),(∀b∈l,eqK e.1 b.1=true→b.2=e.2)→e∈l→c0C eqK l e.1=some e.2:=by
  intro l
  induction l with
  |nil=>intro _ h;simp at h
  |cons b r ih=>
   intro hb hm
   simp only[c0C]
   cases hq:eqK e.1 b.1 with
   |true=>simp only[cond_true];rw[hb b (ap ..) hq]
   |false=>
    simp only[cond_false]
    refine ih (fun x hx=>hb x (aj _ hx)) ?_
    rcases aN.1 hm with rfl|hm
    ·exfalso;revert hq;unfold eqK;simp
    ·exact hm
 exact key ms (fun b hb=>h e he b hb) he
theorem t0t: ∀a∈k0l,∀b∈k0l,eqK a.1 b.1=true→b.2=a.2:=by decide+kernel
theorem s0a: ∀a∈k0l,∀b∈k0l,a=b∨a.1.f_<b.1.e_∨b.1.f_<a.1.e_:=by decide+kernel
theorem x0p {r:Int} {e:a0n×Int} (he:e∈k0l)(hh:q0E r e=true):tab r=e.2:=by
 unfold tab
 cases hf:k0l.find? (q0E r)with
 |none=>
  rw[List.find?_eq_none]at hf
  exact absurd hh (by simpa using hf e he)
 |some e'=>
  have h1:=List.find?_some hf
  have h0:=List.mem_of_find?_eq_some hf
  unfold q0E at h1 hh
  simp only[ae,decide_eq_true_eq]at h1 hh
  rcases s0a e he e' h0 with h|h|h
  ·rw[h]
  ·omega
  ·omega
theorem k0o {r:Int} {ms:List (a0n×Int)} (hp:List.Perm ms k0l):a0u r ms=Option.bind (h0X r) fun y=>bif !y then some (6,ms)else bif decide (bits .and .i32 r 65534=65534)then some (3,ms)else bif k0l.any (q0E r)then some (tab r,ms)else Option.bind (d0a r) fun y=>bif y.2 then some (5,ms)else some (0,ms):=by
 unfold a0u
 congr 1
 funext y
 cases y with
 |false=>rfl
 |true=>
  simp only[bk,cond_false]
  cases decide (bits .and .i32 r 65534=65534)with
  |true=>rfl
  |false=>
   simp only[cond_false]
   have hsame: ∀a∈ms,∀b∈ms,eqK a.1 b.1=true→b.2=a.2:=fun a ha b hb=>t0t a (hp.mem_iff.1 ha) b (hp.mem_iff.1 hb)
   have hany:ms.any (q0E r)=k0l.any (q0E r):=by
    rw[Bool.eq_iff_iff]
    simp only[List.any_eq_true]
    exact⟨fun⟨x,hx,h⟩=>⟨x,hp.mem_iff.1 hx,h⟩,fun⟨x,hx,h⟩=>⟨x,hp.mem_iff.2 hx,h⟩⟩
   rw[p0o _ (q0E r) (.inr (tab r,ms)) ms (fun e he=> ?_),hany]
   ·cases k0l.any (q0E r)<;>rfl
   ·have hg:(c0C (fun a b:a0n=>((decide (a.e_=b.e_))&&((decide (a.f_=b.f_))&&true))) ms e.1)=some e.2:=t0T hsame he
    rw[hg]
    have ht:q0E r e=true→tab r=e.2:=fun h=>x0p (hp.mem_iff.1 he) h
    unfold q0E at ht⊢
    by_cases q1:e.1.e_≤r
    ·rw[dT q1]at ht⊢
     by_cases q2:r≤e.1.f_
     ·rw[dT q2]at ht⊢
      simp only[cond_true,aa,bI,if_true,br]
      rw[ht rfl]
     ·rw[dF q2];rfl
    ·rw[dF q1];rfl
theorem w0H {x:Int} {ms:List (a0n×Int)} {r:Int×List (a0n×Int)} (hp:List.Perm ms k0l)(h:a0u x k0l=some r):a0u x ms=some (r.1,ms)∧r.2=k0l:=by
 rw[k0o (List.Perm.refl _)]at h
 rw[k0o hp]
 obtain⟨y,e,h⟩:=a0d h
 rw[e]
 simp only[aa]at h⊢
 cases y with
 |false=>obtain rfl:=oi h;exact⟨rfl,rfl⟩
 |true=>
  simp only[bk,cond_false]at h⊢
  revert h
  cases decide (bits .and .i32 x 65534=65534)with
  |true=>intro h;obtain rfl:=oi h;exact⟨rfl,rfl⟩
  |false=>
   simp only[cond_false]
   cases k0l.any (q0E x)with
   |true=>intro h;obtain rfl:=oi h;exact⟨rfl,rfl⟩
   |false=>
    intro h
    simp only[cond_false]at h⊢
    obtain⟨v,e,h⟩:=a0d h
    rw[e]
    simp only[aa]
    cases hv:v.2 with
    |true=>rw[hv]at h;obtain rfl:=oi h;exact⟨rfl,rfl⟩
    |false=>rw[hv]at h;obtain rfl:=oi h;exact⟨rfl,rfl⟩
theorem p0s {S X:Type} {f:S→Option (S⊕X)} (R:S→S→Prop)(hs: ∀s s' o,R s s'→f s=some o→(∃a b,o= .inl a∧f s'=some (.inl b)∧R a b)∨ ∃x,o= .inr x∧f s'=some (.inr x)): ∀(n:Nat) (s s':S) (r:X),R s s'→a0l f n s=some r→a0l f n s'=some r
 |0,_,_,_,_,h=>by cases h
 |n+1,s,s',r,hR,h=>by
  simp only[a0l]at h⊢
  cases hf:f s with
  |none=>rw[hf]at h;cases h
  |some o=>
   rw[hf]at h
   rcases hs s s' o hR hf with⟨a,b,rfl,h0,h2⟩|⟨x,rfl,h0⟩
   ·rw[h0];exact p0s R hs n a b r h2 h
   ·rw[h0];exact h
def h0y(x0:List Int):Option (Bool):=
 (Option.bind d0j fun y1=>(fun(ms4:List (a0n×Int))=>(Option.bind (a0l (fun(s0:Int×(List (a0n×Int)))=>(bif(decide (s0.1<(x0.length:Int)))then(Option.bind (bif inR s0.1 x0.length then(Option.bind (a0u (nth x0 s0.1) s0.2) fun y0=>(Option.bind (bif(decide (y0.1=0))then(some true)else(bif(decide (y0.1=4))then(some true)else(bif(decide (y0.1=5))then(some true)else(some (decide (y0.1=2)))))) fun(s1:Bool)=>(bif s1 then(some (.inl y0.2))else(some (.inr (.inr (.inr false)))))))else none) (a0j fun(s2:(List (a0n×Int)))=>(some (.inl ((IntKind.wrap .i64 (s0.1+1)),s2)))))else(some (.inr (.inl ()))))) big (0,ms4)) (a0j fun(s3:Unit)=>(some true)))) y1)
theorem o0q {x0:List Int} {r:Bool} (h:h0y x0=some r):SQ 94 [lR x0] [] (.bool r) []:=m0Y (by
 unfold h0y at h;unfold k0i
 obtain⟨y,hy,h⟩:=a0d h
 rw[hy];simp only[aa]
 obtain rfl:k0l=y:=oi hy
 obtain⟨u,hu,hr⟩:=a0d h
 refine p0T fun ms hp=> ?_
 have hL:=p0s (fun a b=>a.1=b.1∧List.Perm b.2 k0l∧a.2=k0l) (fun s s' o hR hf=> ?_) big (0,k0l) (0,ms) u ⟨rfl,hp,rfl⟩ hu
 ·show Option.bind (a0l _ big (0,ms)) _=_
  rw[hL];exact hr
 obtain⟨i,a⟩:=s
 obtain⟨j,b⟩:=s'
 obtain⟨h1,h0,h2⟩:=hR
 simp only at h1 h0 h2 hf⊢
 subst h1;subst h2
 cases hc:decide (i<(x0.length:Int))with
 |false=>rw[hc]at hf;obtain rfl:=oi hf;right;exact⟨_,rfl,rfl⟩
 |true=>
  rw[hc]at hf
  simp only[cond_true]at hf⊢
  obtain⟨s4,e1,hf⟩:=a0d hf
  cases hi:inR i x0.length with
  |false=>rw[hi]at e1;cases e1
  |true=>
   rw[hi]at e1
   simp only[cond_true]at e1⊢
   obtain⟨y2,e2,e1⟩:=a0d e1
   obtain⟨t1,t2⟩:=w0H h0 e2
   rw[t1];simp only[aa]
   obtain⟨c1,q1,e1⟩:=a0d e1
   rw[q1];simp only[aa]
   cases c1 with
   |true=>obtain rfl:=oi e1;obtain rfl:=oi hf;left;exact⟨_,_,rfl,rfl,rfl,h0,t2⟩
   |false=>obtain rfl:=oi e1;obtain rfl:=oi hf;right;exact⟨_,rfl,rfl⟩
 )
def g0q(x0:List Int):Option (Bool):=
 (Option.bind (a0l (fun(s0:Int×Int)=>(bif(decide (s0.2<(x0.length:Int)))then(Option.bind (bif inR s0.2 x0.length then(Option.bind (bif(decide (8234≤(nth x0 s0.2)))then(some ((decide ((nth x0 s0.2)≤8238))))else(some false)) fun(s1:Bool)=>(bif s1 then(some (.inr (.inr (.inr false))))else(Option.bind (bif(decide (8294≤(nth x0 s0.2)))then(some ((decide ((nth x0 s0.2)≤8296))))else(some false)) fun(s2:Bool)=>(bif s2 then(some (.inl (IntKind.wrap .i64 (s0.1+1))))else(Option.bind (bif(decide ((nth x0 s0.2)=8297))then(some (decide (s0.1=0)))else(some false)) fun(s3:Bool)=>(bif s3 then(some (.inr (.inr (.inr false))))else(bif(decide ((nth x0 s0.2)=8297))then(some (.inl (IntKind.wrap .i64 (s0.1-1))))else(some (.inl s0.1)))))))))else none) (a0j fun(s4:Int)=>(some (.inl (s4,(IntKind.wrap .i64 (s0.2+1)))))))else(some (.inr (.inl s0.1))))) big (0,0)) (a0j fun(s5:Int)=>(some (decide (s5=0)))))
theorem m0X {x0:List Int} {r:Bool} (h:g0q x0=some r):SQ 95 [lR x0] [] (.bool r) []:=by
 refine kFn (fn:=Tryz.f95) (fun F H D W=> ?_)
 unfold g0q at h
 exact kq (kq (kcX h (fun(s5:Int)=>([(2, .bool false),(3,iL s5)],[])) (fun y0 hy0 h0=>kq (kb 0 (kl (fun(s0:Int×Int)=>([(2, .bool false),(3,iL s0.1),(6,lR x0),(7,iL (x0.length:Int)),(8,iL s0.2)],[])) hy0 [2,3,6,7,8] (fun s0 x601 hs0=>kq (kS (kBT 9 hs0 (fun h3=>kKN (kcX h3 (fun(s4:Int)=>([(2, .bool false),(3,iL s4),(6,lR x0),(7,iL (x0.length:Int)),(8,iL s0.2)],[])) (fun y1 hy1 h1=>kb 1 (kSR (kIb 10 (a0x .i32) hy1 (fun h6=>kr 2 (kb 2 (kcN h6 (fun(s1:Bool)=>([(2, .bool false),(3,iL s0.1),(5,iM (nth x0 s0.2)),(6,lR x0),(7,iL (x0.length:Int)),(8,iL s0.2),(12, .bool s1)],[])) (fun s1 hy2=>km 3 (kB 15 hy2 (fun h8=>ke 4 (kNo h8 [2,3,5,6,7,8,12])) (fun h9=>ke 4 (kNo h9 [2,3,5,6,7,8,12])))) (fun s1 h7=>kBT 12 h7 (fun h10=>kq (kXb (PJ.blockRet (kCx h10 h1 (fun h12=>kLx h12 (fun h13=>PJ.blockRet (kCx h13 h0 (fun h14=>by obtain rfl:=oi h14;exact kZ H D W)))))))) (fun h11=>kcN h11 (fun(s2:Bool)=>([(2, .bool false),(3,iL s0.1),(5,iM (nth x0 s0.2)),(6,lR x0),(7,iL (x0.length:Int)),(8,iL s0.2),(19, .bool s2)],[])) (fun s2 hy3=>km 3 (kB 22 hy3 (fun h16=>ke 4 (kNo h16 [2,3,5,6,7,8,19])) (fun h17=>ke 4 (kNo h17 [2,3,5,6,7,8,19])))) (fun s2 h15=>kBT 19 h15 (fun h18=>kM (PJ.blockNormal (PJ.blockNormal (kXo h18 [2,3,6,7,8])))) (fun h19=>kcN h19 (fun(s3:Bool)=>([(2, .bool false),(3,iL s0.1),(5,iM (nth x0 s0.2)),(6,lR x0),(7,iL (x0.length:Int)),(8,iL s0.2),(28, .bool s3)],[])) (fun s3 hy4=>km 3 (kB 31 hy4 (fun h21=>ke 4 (kNo h21 [2,3,5,6,7,8,28])) (fun h22=>ke 4 (kNo h22 [2,3,5,6,7,8,28])))) (fun s3 h20=>kBT 28 h20 (fun h23=>kq (kXb (PJ.blockRet (kCx h23 h1 (fun h25=>kLx h25 (fun h26=>PJ.blockRet (kCx h26 h0 (fun h27=>by obtain rfl:=oi h27;exact kZ H D W)))))))) (fun h24=>kq (kBT 35 h24 (fun h28=>kM (PJ.blockNormal (PJ.blockNormal (kXo h28 [2,3,6,7,8])))) (fun h29=>kKb (PJ.blockNormal (kXo h29 [2,3,6,7,8])))))))))))))))) (fun s4 h5=>kM (kLo h5 [2,3,6,7,8])))) (fun h4=>kEp 0 (kLx h4 (fun h30=>PJ.blockOut (kXo h30 [2,3])))))))))) (fun s5 h2=>kq (kX (by cases h2;exact kZ H D W)))))
def j0j(x0:e0h)(x1:List Int):Option (Bool):=
 (Option.bind (a0l (fun(s0:Int)=>(bif(decide (s0<(x1.length:Int)))then(Option.bind (bif inR s0 x1.length then(Option.bind (d0a (nth x1 s0)) fun y0=>(Option.bind (bif y0.2 then(some true)else(Option.bind (f0h x0 (nth x1 s0)) fun y1=>(some y1))) fun(s1:Bool)=>(bif s1 then(some (.inr (.inr (.inr false))))else(some (.inl ())))))else none) (a0j fun(s3:Unit)=>(some (.inl (IntKind.wrap .i64 (s0+1))))))else(some (.inr (.inl ()))))) big 0) (a0j fun(s4:Unit)=>(Option.bind (Option.bind (h0y x1) fun y2=>(bif y2 then(Option.bind (g0q x1) fun y3=>(some y3))else(some false))) fun(s2:Bool)=>(some s2))))
theorem m0a {x0:e0h} {x1:List Int} {r:Bool} (h:j0j x0 x1=some r):SQ 49 [.agg (a0w x0),lR x1] [] (.bool r) []:=by
 refine kFn (fn:=Tryz.f49) (fun F H D W=> ?_)
 unfold j0j at h
 exact kq (kcX h (fun(s4:Unit)=>([(1,lR x1),(4, .bool false)],[])) (fun y4 hy0 h0=>kq (kb 0 (kl (fun(s0:Int)=>([(1,lR x1),(2, .ptr 0 0),(4, .bool false),(9,lR x1),(10,iL (x1.length:Int)),(11,iL s0)],[.box (a0w x0)])) hy0 [1,2,4,9,10,11] (fun s0 x341 hs0=>kq (kS (kBT 12 hs0 (fun h2=>kKN (kcX h2 (fun(s3:Unit)=>([(1,lR x1),(2, .ptr 0 0),(4, .bool false),(9,lR x1),(10,iL (x1.length:Int)),(11,iL s0)],[.box (a0w x0)])) (fun y5 hy1 h4=>kb 1 (kSR (kIb 13 (a0x .i32) hy1 (fun h6=>kr 2 (kn 1 (kAb 17 h6 (fun _=>h0c) (fun y0 h7=>kr 5 (kcN h7 (fun(s1:Bool)=>([(1,lR x1),(2, .ptr 0 0),(4, .bool false),(9,lR x1),(10,iL (x1.length:Int)),(11,iL s0),(25, .bool s1)],[.box (a0w x0)])) (fun s1 hy2=>km 2 (kB 21 hy2 (fun h9=>ke 4 (kNo h9 [1,2,4,9,10,11,25])) (fun h10=>kc 2 (kAb 24 h10 (fun _=>j0K) (fun y1 h11=>ke 1 (kNo h11 [1,2,4,9,10,11,25])))))) (fun s1 h8=>kBT 25 h8 (fun h12=>kq (kXb (kCx h12 h4 (fun h14=>kLx h14 (fun h15=>PJ.blockRet (kCx h15 h0 (fun h16=>by obtain rfl:=oi h16;exact kZ H D W))))))) (fun h13=>kKb (kXo h13 [1,2,4,9,10,11]))))))))))) (fun s3 h5=>kM (kLo h5 [1,2,4,9,10,11])))) (fun h3=>kEp 0 (kLx h3 (fun h17=>PJ.blockOut (kXW h17 D W [])))))))))) (fun s4 h1=>kcN h1 (fun(s2:Bool)=>([(4, .bool s2)],[])) (fun s2 hy3=>km 1 (kAb 28 hy3 (fun _=>o0q) (fun y2 h19=>kc 1 (kB 29 h19 (fun h20=>kc 1 (kAb 31 h20 (fun _=>m0X) (fun y3 h22=>ke 2 (kNo h22 [4])))) (fun h21=>ke 4 (kNo h21 [4])))))) (fun s2 h18=>kX (by cases h18;exact kZ H D W))))
def e0J(x0:e0h)(x1:n0e):Option (Bool):=
 (Option.bind (f0q x1.r_) fun y0=>(bif room (y0.length+x1.q_.length)then(Option.bind (j0j x0 (y0++x1.q_)) fun y1=>(some y1))else none))
theorem h0W {x0:e0h} {x1:n0e} {r:Bool} (h:e0J x0 x1=some r):SQ 81 [.agg (a0w x0), .agg (k0f x1)] [] (.bool r) []:=by
 refine kFn (fn:=Tryz.f81) (fun F H D W=> ?_)
 unfold e0J at h
 refine kq (kS (kDr (kD 3 ?_)))
 obtain⟨y0,hy0,h0⟩:=a0d h
 refine RJ.callM (d:=(some 8)) (f:=119) (args:=[lR x1.r_]) (v0:= .vc 0) (v:= .vc 2) (en0:= .vec y0.length 1 21 (y0.flatMap (a0q .i32))) (tr2:=[([0,1],[]),([],[]),([2,3],[]),([],[4,5,4,5])]) (H2:=[.box (a0w x0), .box (k0f x1),a0A (a0q .i32) 1 21 y0, .res, .res]) 2 (by kernel_rfl) (by kernel_rfl) (by kernel_rfl) (by kernel_rfl) (LeL.refl _) (k0V hy0) (by kernel_rfl) (by kernel_rfl) (kD 2 ?_)
 obtain⟨hm,h1⟩:=a0Q h0
 refine RJ.rel (d:=(some 11)) (ef:=⟨.vc 3,[2],[(2, .gone),(3, .vec (y0.length+x1.q_.length) 1 21 (y0.flatMap (a0q .i32)++x1.q_.flatMap (a0q .i32)))]⟩) (ef':=⟨.vc 3,[2],[(2, .gone),(3,a0A (a0q .i32) 1 21 (y0++x1.q_))]⟩) (c:=room (y0.length+x1.q_.length)) (tr2:=[([0,1],[]),([],[]),([2,3],[]),([],[4,5,4,5]),([],[]),([2,3],[]),([4,5],[4,5,6,7,6,7])]) (H2:=[.box (a0w x0), .box (k0f x1), .gone,a0A (a0q .i32) 1 21 (y0++x1.q_), .res]) (by kernel_rfl) hm (fun hc=>N.app) (by kernel_rfl) ?_
 obtain⟨y1,hy1,h2⟩:=a0d h1
 exact RJ.callL (d:=(some 12)) (f:=49) (args:=[.agg (a0w x0), .vc 3]) (args0:=[.agg (a0w x0), .vc 0]) (args1:=[.agg (a0w x0),lR (y0++x1.q_)]) (H0:=[a0A (a0q .i32) 1 21 (y0++x1.q_)]) (v:= .bool y1) (tr2:=[([0,1],[]),([],[]),([2,3],[]),([],[4,5,4,5]),([],[]),([2,3],[]),([4,5],[4,5,6,7,6,7]),([6,7],[8,9])]) [3] (by kernel_rfl) (by kernel_rfl) (by kernel_rfl) (by kernel_rfl) (by decide) (by kernel_rfl) (by kernel_rfl) (by kernel_rfl) (by kernel_rfl) (LeL.refl _) (m0a hy1) (by kernel_rfl) (by kernel_rfl) (kD 1 (kEN (kX (by cases h2;exact kZ H D W))))
def e0C(x0 x1:List Int):Option (Bool):=
 (bif(decide (¬(x0.length:Int)=(x1.length:Int)))then(some false)else(Option.bind (a0l (fun(s0:Int)=>(bif(decide (s0<(x0.length:Int)))then(bif inR s0 x0.length then(bif inR s0 x1.length then(bif(decide (¬(nth x0 s0)=(nth x1 s0)))then(some (.inr (.inr false)))else(some (.inl (IntKind.wrap .i64 (s0+1)))))else none)else none)else(some (.inr (.inl ()))))) big 0) (a0j fun(s1:Unit)=>(some true))))
theorem i0w {x0 x1:List Int} {r:Bool} (h:e0C x0 x1=some r):SQ 120 [lR x0,lR x1] [] (.bool r) []:=by
 refine kFn (fn:=Tryz.f120) (fun F H D W=> ?_)
 unfold e0C at h
 refine kq (kS (kq (kBT 10 h (fun h0=> ?_) (fun h1=> ?_))))
 ·exact kq (kX (PJ.passRet (by cases h0;exact kZ H D W)))
 ·refine kKN (kcX h1 (fun(s1:Unit)=>([(4, .bool false)],[])) (fun y0 hy0 h2=> ?_) (fun s1 h3=> ?_))
  ·refine kq (kb 0 (kl (fun(s0:Int)=>([(0,lR x0),(1,lR x1),(4, .bool false),(12,iL (x0.length:Int)),(13,iL s0)],[])) hy0 [0,1,4,12,13] (fun s0 x79 hs0=>kq (kS (kBT 14 hs0 (fun h4=> ?_) (fun h5=> ?_))))))
   ·refine kKN (kS (kb 1 (kq (kS (kDr (kD 2 ?_))))))
    obtain⟨hm,h6⟩:=a0Q h4
    refine kJ 18 (tr2:=[([],[]),([],[]),([],[])]) (a0x .i32) hm (kD 3 ?_)
    obtain⟨hm,h7⟩:=a0Q h6
    exact kJ 22 (tr2:=[([],[]),([],[]),([],[]),([],[]),([],[]),([],[]),([],[])]) (a0x .i32) hm (kD 2 (kEN (kBT 24 h7 (fun h8=>kq (kXp (kLx h8 (fun h10=>PJ.blockRet (kCx h10 h2 (fun h11=>by obtain rfl:=oi h11;exact kZ H D W)))))) (fun h9=>kKn (kM (kLo h9 [0,1,4,12,13]))))))
   ·exact kEp 0 (kLx h5 (fun h12=>PJ.blockOut (kXo h12 [4])))
  ·exact kq (kX (by cases h3;exact kZ H D W))
def b0i(x0 x1:n0e):Option (Bool):=
 (Option.bind (Option.bind (e0C x0.r_ x1.r_) fun y0=>(bif y0 then(Option.bind (e0C x0.q_ x1.q_) fun y1=>(some y1))else(some false))) fun(s0:Bool)=>(some s0))
theorem b0T {x0 x1:n0e} {r:Bool} (h:b0i x0 x1=some r):SQ 82 [.agg (k0f x0), .agg (k0f x1)] [] (.bool r) []:=by
 refine kFn (fn:=Tryz.f82) (fun F H D W=> ?_)
 unfold b0i at h
 exact kq (kcN h (fun(s0:Bool)=>([(4, .bool s0)],[])) (fun s0 hy0=>km 4 (kAb 9 hy0 (fun _=>i0w) (fun y0 h1=>kc 1 (kB 10 h1 (fun h2=>kc 4 (kAb 15 h2 (fun _=>i0w) (fun y1 h4=>ke 2 (kNW h4 D W [])))) (fun h3=>ke 7 (kNW h3 D W [])))))) (fun s0 h0=>kX (by cases h0;exact kZ H D W)))
def d0q(x0:e0h)(x1:d0b)(x2:List Int):Option (Bool):=
 (Option.bind (e0b x0 x1 x2) fun y0=>(Option.bind (a0l (fun(s0:Int)=>(bif(decide (s0<3))then(bif(decide (s0=0))then(Option.bind (e0J x0 y0.e_) fun y1=>(bif(!y1)then(some (.inr (.inr false)))else(some (.inl (IntKind.wrap .i64 (0+1))))))else(bif(decide (s0=1))then(Option.bind (e0J x0 y0.f_) fun y2=>(bif(!y2)then(some (.inr (.inr false)))else(some (.inl (IntKind.wrap .i64 (1+1))))))else(bif(decide (s0=2))then(Option.bind (e0J x0 y0.n_) fun y3=>(bif(!y3)then(some (.inr (.inr false)))else(some (.inl (IntKind.wrap .i64 (2+1))))))else none)))else(some (.inr (.inl ()))))) big 0) (a0j fun(s2:Unit)=>(Option.bind (Option.bind (b0i y0.e_ y0.f_) fun y4=>(bif(!y4)then(Option.bind (b0i y0.f_ y0.n_) fun y5=>(some (!y5)))else(some false))) fun(s1:Bool)=>(some s1)))))
theorem f0A {x0:e0h} {x1:d0b} {x2:List Int} {r:Bool} (h:d0q x0 x1 x2=some r):SQ 40 [.agg (a0w x0), .agg (a0f x1),lR x2] [] (.bool r) []:=by
 refine kFn (fn:=Tryz.f40) (fun F H D W=> ?_)
 unfold d0q at h
 refine kq (kn 3 (kAb 13 h (fun _=>f0S) (fun y0 h4=>kr 2 (kcX h4 (fun(s2:Unit)=>([(6, .bool false),(7, .ptr 0 0)],[.box (d0d y0)])) (fun y6 hy0 h0=> ?_) (fun s2 h5=> ?_)))))
 ·refine kq (kb 0 (J.wk (Wk.sel (L2:=[(3, .ptr 0 0),(6, .bool false),(7, .ptr 1 0),(14, .agg (d0d y0)),(15,iL 0)]) (H2:=[.box (a0w x0), .box (d0d y0)]) 0 (by rw[D];rfl) W [0,2] (by kernel_rfl) (by kernel_rfl) (by decide) (by kernel_rfl) (by kernel_rfl) (by kernel_rfl) (by kernel_rfl)) (kl (fun(s0:Int)=>([(3, .ptr 0 0),(6, .bool false),(7, .ptr 1 0),(14, .agg (d0d y0)),(15,iL s0)],[.box (a0w x0), .box (d0d y0)])) hy0 [3,6,7,14,15] (fun s0 x165 hs0=>kq (kS (kBT 16 hs0 (fun h1=> ?_) (fun h6=> ?_)))))))
  ·refine kKN (kS (kb 1 (kSR ?_)))
   cases hb0:(decide (s0=0))
   ·have h2:=condF hb0 h1
    cases hb1:(decide (s0=1))
    ·have h3:=condF hb1 h2
     cases hb2:(decide (s0=2))
     ·have h7:=condF hb2 h3
      cases h7
     ·have h8:=condT hb2 h3
      exact RJ.pin 15 (kd:= .i64) (by kernel_rfl) (of_decide_eq_true hb2) (kr 3 (kn 2 (kAb 20 h8 (fun _=>h0W) (fun y3 h9=>kr 1 (kBT 21 h9 (fun h10=>kq (kXp (kLx h10 (fun h12=>PJ.blockRet (kCx h12 h0 (fun h13=>by obtain rfl:=oi h13;exact kZ H D W)))))) (fun h11=>kKn (kM (kLW h11 D W [0,1]))))))))
    ·have h14:=condT hb1 h2
     exact RJ.pin 15 (kd:= .i64) (by kernel_rfl) (of_decide_eq_true hb1) (kr 3 (kn 2 (kAb 20 h14 (fun _=>h0W) (fun y2 h15=>kr 1 (kBT 21 h15 (fun h16=>kq (kXp (kLx h16 (fun h18=>PJ.blockRet (kCx h18 h0 (fun h19=>by obtain rfl:=oi h19;exact kZ H D W)))))) (fun h17=>kKn (kM (kLW h17 D W [0,1]))))))))
   ·have h20:=condT hb0 h1
    exact RJ.pin 15 (kd:= .i64) (by kernel_rfl) (of_decide_eq_true hb0) (kr 3 (kn 2 (kAb 20 h20 (fun _=>h0W) (fun y1 h21=>kr 1 (kBT 21 h21 (fun h22=>kq (kXp (kLx h22 (fun h24=>PJ.blockRet (kCx h24 h0 (fun h25=>by obtain rfl:=oi h25;exact kZ H D W)))))) (fun h23=>kKn (kM (kLW h23 D W [0,1]))))))))
  ·exact kEp 0 (kLx h6 (fun h26=>PJ.blockOut (kXW h26 D W [1])))
 ·exact kcN h5 (fun(s1:Bool)=>([(6, .bool s1)],[])) (fun s1 hy1=>km 4 (kAb 27 hy1 (fun _=>b0T) (fun y4 h28=>kc 2 (kB 29 h28 (fun h29=>kc 4 (kAb 34 h29 (fun _=>b0T) (fun y5 h31=>ke 3 (kNW h31 D W [])))) (fun h30=>ke 8 (kNW h30 D W [])))))) (fun s1 h27=>kX (by cases h27;exact kZ H D W))
noncomputable def m0H(x0:Int):Option (Int):=
 (Option.bind d0j fun y1=>n0C (fun(ms4:List (a0n×Int))=>(Option.bind (a0u x0 ms4) fun y0=>(some y0.1))) y1)
theorem p0O {x0 r:Int} (h:m0H x0=some r):SQ 83 [iM x0] [] (iL r) []:=by
 refine kFn (fn:=Tryz.f83) (fun F H D W=> ?_)
 unfold m0H at h
 refine kq (kSR ?_)
 obtain⟨y1,hy0,h0⟩:=a0d h
 refine RJ.callG (d:=(some 3)) (f:=121) (args:=[]) (args0:=[]) (v0:= .mp 0) (v:= .mp 0) (tr2:=[]) (H0:=[]) (H0':=[.pmap (b0O (fun k:a0n=> .agg (a0h k)) (fun k:Int=>iL k) y1)]) (H2:=[.pmap (b0O (fun k:a0n=> .agg (a0h k)) (fun k:Int=>iL k) y1)]) [] (by kernel_rfl) (by kernel_rfl) (by kernel_rfl) (by kernel_rfl) (by decide) (by kernel_rfl) (by kernel_rfl) (by kernel_rfl) .nil (g0H hy0) (by kernel_rfl) (by kernel_rfl) ((show d0x (b0L []) 0 _ [.pmap (b0O (fun k:a0n=> .agg (a0h k)) (fun k:Int=>iL k) y1)]=[Ent.rn (gOf (b0L []) 0 0) (.pmap (b0O (fun k:a0n=> .agg (a0h k)) (fun k:Int=>iL k) y1))] by kernel_rfl).trans (by simp only[n0P (ek:=(fun k:a0n=> .agg (a0h k))) (ev:=(fun k:Int=>iL k)) (fun _ _=>rfl) (fun _ _=>rfl)])) (RJ.openMap (ek:=(fun k:a0n=> .agg (a0h k))) (ev:=(fun k:Int=>iL k)) y1 0 (fun ms4=> [.map (b0O (fun k:a0n=> .agg (a0h k)) (fun k:Int=>iL k) ms4)]) (by kernel_rfl) (fun _=>by kernel_rfl) (fun ms4 hp5=> ?_))
 have h1:=n0B h0 ms4 hp5
 refine kc 1 ?_
 obtain⟨y0,hy1,h2⟩:=a0d h1
 exact RJ.callG (d:=(some 5)) (f:=122) (args:=[.mp 0,iM x0]) (args0:=[.mp 0,iM x0]) (v0:=iL y0.1) (v:=iL y0.1) (tr2:=[]) (H0:=[.map (b0O (fun k:a0n=> .agg (a0h k)) (fun k:Int=>iL k) ms4)]) (H0':=[.map (b0O (fun k:a0n=> .agg (a0h k)) (fun k:Int=>iL k) y0.2)]) (H2:=[.map (b0O (fun k:a0n=> .agg (a0h k)) (fun k:Int=>iL k) y0.2)]) [0] (by kernel_rfl) (by kernel_rfl) (by kernel_rfl) (by simp only[ah,av,c0r (ek:=(fun k:a0n=> .agg (a0h k))) (ev:=(fun k:Int=>iL k)) (fun _ _=>rfl) (fun _ _=>rfl)];kernel_rfl) (by decide) (by simp only[aB,aG,b0C (ek:=(fun k:a0n=> .agg (a0h k))) (ev:=(fun k:Int=>iL k)) (fun _ _=>rfl) (fun _ _=>rfl)];kernel_rfl) (by kernel_rfl) (by kernel_rfl) (LeL.refl _) (e0G hy1) (by kernel_rfl) (by kernel_rfl) ((show d0x (b0L [0]) 1 _ [.map (b0O (fun k:a0n=> .agg (a0h k)) (fun k:Int=>iL k) y0.2)]=[Ent.rn (gOf (b0L [0]) 1 1) (.map (b0O (fun k:a0n=> .agg (a0h k)) (fun k:Int=>iL k) y0.2))] by kernel_rfl).trans (by simp only[c0r (ek:=(fun k:a0n=> .agg (a0h k))) (ev:=(fun k:Int=>iL k)) (fun _ _=>rfl) (fun _ _=>rfl)])) (kr 1 (kX (by cases h2;exact kZ H D W)))
def f0V(x0:Int):Option (Int):=
 (Option.bind d0j fun y0=>(fun(ms4:List (a0n×Int))=>(Option.bind (a0u x0 ms4) fun y1=>(some y1.1))) y0)
theorem m0G {x0 r:Int} (h:f0V x0=some r):SQ 83 [iM x0] [] (iL r) []:=p0O (by
 unfold f0V at h;unfold m0H
 obtain⟨y,hy,h⟩:=a0d h
 rw[hy];simp only[aa]
 obtain rfl:k0l=y:=oi hy
 obtain⟨y2,e0,h⟩:=a0d h
 exact p0T fun ms hp=>by
  show Option.bind (a0u x0 ms) _=_
  rw[(w0H hp e0).1];exact h
 )
def k0p(x0:e0h)(x1:Int):Option (Int×Bool):=
 (Option.bind (Option.bind (bif(decide (((IntKind.wrap .i64 ((IntKind.wrap .i64 x1)-(IntKind.wrap .i64 x0.u_))))<0))then(some true)else(some ((decide (((IntKind.wrap .i64 ((IntKind.wrap .i64 x1)-(IntKind.wrap .i64 x0.u_))))>9))))) fun(s0:Bool)=>(bif s0 then(some (.inr (0,false)))else(some (.inl ())))) (a0j fun(s1:Unit)=>(some ((IntKind.wrap .u8 ((IntKind.wrap .i64 ((IntKind.wrap .i64 x1)-(IntKind.wrap .i64 x0.u_))))),true))))
theorem o0H {x0:e0h} {x1:Int} {r:Int×Bool} (h:k0p x0 x1=some r):SQ 123 [.agg (a0w x0),iM x1] [] (.tup [.int .u8 r.1, .bool r.2]) []:=by
 refine kFn (fn:=Tryz.f123) (fun F H D W=> ?_)
 unfold k0p at h
 exact kq (kq (kcX h (fun(s1:Unit)=>([(4, .int .u8 0),(5, .bool false),(6,iL ((IntKind.wrap .i64 ((IntKind.wrap .i64 x1)-(IntKind.wrap .i64 x0.u_)))))],[])) (fun y0 hy0 h0=>kcN hy0 (fun(s0:Bool)=>([(4, .int .u8 0),(5, .bool false),(6,iL ((IntKind.wrap .i64 ((IntKind.wrap .i64 x1)-(IntKind.wrap .i64 x0.u_))))),(18, .bool s0)],[])) (fun s0 hy1=>km 3 (kB 15 hy1 (fun h3=>ke 3 (kNW h3 D W [])) (fun h4=>ke 3 (kNW h4 D W [])))) (fun s0 h2=>kBT 18 h2 (fun h5=>kq (kX (kCx h5 h0 (fun h7=>by obtain rfl:=oi h7;exact kZ H D W)))) (fun h6=>kK (kXo h6 [4,5,6])))) (fun s1 h1=>kq (kX (by cases h1;exact kZ H D W)))))
def e0B(x0:e0h)(x1:Int):Option (Bool):=
 (Option.bind (k0p x0 x1) fun y0=>(Option.bind (bif y0.2 then(some true)else(Option.bind (f0h x0 x1) fun y1=>(some y1))) fun(s0:Bool)=>(some s0)))
theorem i0u {x0:e0h} {x1:Int} {r:Bool} (h:e0B x0 x1=some r):SQ 84 [.agg (a0w x0),iM x1] [] (.bool r) []:=by
 refine kFn (fn:=Tryz.f84) (fun F H D W=> ?_)
 unfold e0B at h
 exact kq (kn 2 (kAb 10 h (fun _=>o0H) (fun y0 h0=>kr 5 (kcN h0 (fun(s0:Bool)=>([(4, .bool s0)],[])) (fun s0 hy0=>km 2 (kB 14 hy0 (fun h2=>ke 5 (kNW h2 D W [])) (fun h3=>kc 2 (kAb 17 h3 (fun _=>j0K) (fun y1 h4=>ke 2 (kNW h4 D W [])))))) (fun s0 h1=>kX (by cases h1;exact kZ H D W))))))
def g0E(x0:List Int)(x1:Int):Option (Int):=
 (Option.bind (a0l (fun(s0:Int)=>(bif(decide (s0<(x0.length:Int)))then(bif inR s0 x0.length then(bif(decide (x1=(nth x0 s0)))then(some (.inr (.inr s0)))else(some (.inl (IntKind.wrap .i64 (s0+1)))))else none)else(some (.inr (.inl ()))))) big 0) (a0j fun(s1:Unit)=>(some (-1))))
theorem m0b {x0:List Int} {x1 r:Int} (h:g0E x0 x1=some r):SQ 96 [lR x0,iM x1] [] (iL r) []:=by
 refine kFn (fn:=Tryz.f96) (fun F H D W=> ?_)
 unfold g0E at h
 exact kq (kcX h (fun(s1:Unit)=>([(4,iL 0)],[])) (fun y0 hy0 h0=>kq (kb 0 (kl (fun(s0:Int)=>([(0,lR x0),(1,iM x1),(4,iL 0),(7,iL (x0.length:Int)),(8,iL s0)],[])) hy0 [0,1,4,7,8] (fun s0 x71 hs0=>kq (kS (kBT 9 hs0 (fun h2=>kKN (kS (kb 1 (kq (kn 3 (kIb 14 (a0x .i32) h2 (fun h4=>kr 2 (kBT 16 h4 (fun h5=>kq (kXp (kLx h5 (fun h7=>PJ.blockRet (kCx h7 h0 (fun h8=>by obtain rfl:=oi h8;exact kZ H D W)))))) (fun h6=>kKn (kM (kLo h6 [0,1,4,7,8]))))))))))) (fun h3=>kEp 0 (kLx h3 (fun h9=>PJ.blockOut (kXo h9 [4])))))))))) (fun s1 h1=>kq (kX (by cases h1;exact kZ H D W))))
def a0W(x0:List Int)(x1:Int):Option (Bool):=
 (Option.bind (g0E x0 x1) fun y0=>(some (decide (y0≥0))))
theorem b0K {x0:List Int} {x1:Int} {r:Bool} (h:a0W x0 x1=some r):SQ 50 [lR x0,iM x1] [] (.bool r) []:=by
 refine kFn (fn:=Tryz.f50) (fun F H D W=> ?_)
 unfold a0W at h
 exact kq (kn 2 (kAb 7 h (fun _=>m0b) (fun y0 h0=>kr 2 (kX (by cases h0;exact kZ H D W)))))
def h0n(x0:e0h)(x1:d0b):Option (Bool):=
 (bif(decide (x1.V_=0))then(some true)else(Option.bind (f0V x1.y_) fun y1=>(Option.bind (Option.bind (bif(decide (¬y1=0))then(bif(decide (¬y1=4))then(some true)else(Option.bind (e0B x0 x1.y_) fun y2=>(some y2)))else(Option.bind (e0B x0 x1.y_) fun y3=>(some y3))) fun(s1:Bool)=>(bif s1 then(some (.inr false))else(some (.inl ())))) (a0j fun(s6:Unit)=>(Option.bind (Option.bind (e0b x0 x1 ([]:List Int)) fun y0=>(a0l (fun(s0:Int)=>(bif(decide (s0<3))then(Option.bind (bif(decide (s0=0))then(Option.bind (Option.bind (a0W y0.e_.r_ x1.y_) fun y4=>(bif y4 then(some true)else(Option.bind (a0W y0.e_.q_ x1.y_) fun y5=>(some y5)))) fun(s2:Bool)=>(bif s2 then(some (.inr (.inr (.inr false))))else(some (.inl 0))))else(bif(decide (s0=1))then(Option.bind (Option.bind (a0W y0.f_.r_ x1.y_) fun y6=>(bif y6 then(some true)else(Option.bind (a0W y0.f_.q_ x1.y_) fun y7=>(some y7)))) fun(s3:Bool)=>(bif s3 then(some (.inr (.inr (.inr false))))else(some (.inl 1))))else(bif(decide (s0=2))then(Option.bind (Option.bind (a0W y0.n_.r_ x1.y_) fun y8=>(bif y8 then(some true)else(Option.bind (a0W y0.n_.q_ x1.y_) fun y9=>(some y9)))) fun(s4:Bool)=>(bif s4 then(some (.inr (.inr (.inr false))))else(some (.inl 2))))else none))) (a0j fun(s5:Int)=>(some (.inl (IntKind.wrap .i64 (s5+1))))))else(some (.inr (.inl ()))))) big 0)) (a0j fun(s7:Unit)=>(some true)))))))
theorem o0e {x0:e0h} {x1:d0b} {r:Bool} (h:h0n x0 x1=some r):SQ 41 [.agg (a0w x0), .agg (a0f x1)] [] (.bool r) []:=by
 refine kFn (fn:=Tryz.f41) (fun F H D W=> ?_)
 unfold h0n at h
 refine kq (kS (kq (kBT 10 h (fun h4=> ?_) (fun h5=> ?_))))
 ·exact kq (kX (PJ.passRet (by cases h4;exact kZ H D W)))
 ·refine kKN (kn 2 (kAb 13 h5 (fun _=>m0G) (fun y1 h6=>kr 1 (kcX h6 (fun(s6:Unit)=>([(2, .ptr 0 0),(3, .ptr 1 0),(4, .bool false)],[.box (a0w x0), .box (a0f x1)])) (fun y10 hy1 h7=> ?_) (fun s6 h8=> ?_)))))
  ·exact kcN hy1 (fun(s1:Bool)=>([(2, .ptr 0 0),(3, .ptr 1 0),(4, .bool false),(25, .bool s1)],[.box (a0w x0), .box (a0f x1)])) (fun s1 hy2=>km 3 (kB 16 hy2 (fun h10=>kc 4 (kB 20 h10 (fun h12=>ke 5 (kNo h12 [2,3,4,25])) (fun h13=>kc 3 (kAb 24 h13 (fun _=>i0u) (fun y2 h14=>ke 1 (kNo h14 [2,3,4,25])))))) (fun h11=>kc 7 (kAb 24 h11 (fun _=>i0u) (fun y3 h15=>ke 1 (kNo h15 [2,3,4,25])))))) (fun s1 h9=>kBT 25 h9 (fun h16=>kq (kX (kCx h16 h7 (fun h18=>by obtain rfl:=oi h18;exact kZ H D W)))) (fun h17=>kK (kXo h17 [2,3,4])))
  ·refine kcX h8 (fun(s7:Unit)=>([(4, .bool false)],[])) (fun y11 hy3 h0=> ?_) (fun s7 h19=> ?_)
   ·refine kn 2 ?_
    obtain⟨y0,hy4,h20⟩:=a0d hy3
    refine RJ.call0 (d:=(some 28)) (f:=80) (args:=[.agg (a0w x0), .agg (a0f x1), .nl]) (v:= .agg (d0d y0)) (tr2:=[]) (by kernel_rfl) (by kernel_rfl) (.cons (Le.refl _) (.cons (Le.refl _) (.cons (Le.nl _) .nil))) (f0S hy4) (by kernel_rfl) (kr 1 (kb 0 (J.wk (Wk.sel (L2:=[(3, .ptr 0 0),(4, .bool false),(28, .agg (d0d y0)),(29,iL 0)]) (H2:=[.box (a0f x1)]) 0 (by rw[D];rfl) W [1] (by kernel_rfl) (by kernel_rfl) (by decide) (by kernel_rfl) (by kernel_rfl) (by kernel_rfl) (by kernel_rfl)) (kl (fun(s0:Int)=>([(3, .ptr 0 0),(4, .bool false),(28, .agg (d0d y0)),(29,iL s0)],[.box (a0f x1)])) h20 [3,4,28,29] (fun s0 x858 hs0=>kq (kS (kBT 30 hs0 (fun h21=> ?_) (fun h22=> ?_))))))))
    ·refine kKN (kcX h21 (fun(s5:Int)=>([(3, .ptr 0 0),(4, .bool false),(28, .agg (d0d y0)),(29,iL s5)],[.box (a0f x1)])) (fun y12 hy0 h1=> ?_) (fun s5 h23=> ?_))
     ·refine kb 1 (kSR ?_)
      cases hb0:(decide (s0=0))
      ·have h2:=condF hb0 hy0
       cases hb1:(decide (s0=1))
       ·have h3:=condF hb1 h2
        cases hb2:(decide (s0=2))
        ·have h24:=condF hb2 h3
         cases h24
        ·have h25:=condT hb2 h3
         exact RJ.pin 29 (kd:= .i64) (by kernel_rfl) (of_decide_eq_true hb2) (kr 3 (kcN h25 (fun(s4:Bool)=>([(3, .ptr 0 0),(4, .bool false),(28, .agg (d0d y0)),(29,iL 2),(43, .bool s4)],[.box (a0f x1)])) (fun s4 hy5=>km 4 (kAb 36 hy5 (fun _=>b0K) (fun y8 h27=>kc 1 (kB 37 h27 (fun h28=>ke 6 (kNW h28 D W [0])) (fun h29=>kc 4 (kAb 42 h29 (fun _=>b0K) (fun y9 h30=>ke 1 (kNW h30 D W [0])))))))) (fun s4 h26=>kBT 43 h26 (fun h31=>kq (kXb (kCx h31 h1 (fun h33=>kLx h33 (fun h34=>PJ.blockRet (kCx h34 h0 (fun h35=>by obtain rfl:=oi h35;exact kZ H D W))))))) (fun h32=>kKb (kXo h32 [3,4,28,29])))))
       ·have h36:=condT hb1 h2
        exact RJ.pin 29 (kd:= .i64) (by kernel_rfl) (of_decide_eq_true hb1) (kr 3 (kcN h36 (fun(s3:Bool)=>([(3, .ptr 0 0),(4, .bool false),(28, .agg (d0d y0)),(29,iL 1),(43, .bool s3)],[.box (a0f x1)])) (fun s3 hy6=>km 4 (kAb 36 hy6 (fun _=>b0K) (fun y6 h38=>kc 1 (kB 37 h38 (fun h39=>ke 6 (kNW h39 D W [0])) (fun h40=>kc 4 (kAb 42 h40 (fun _=>b0K) (fun y7 h41=>ke 1 (kNW h41 D W [0])))))))) (fun s3 h37=>kBT 43 h37 (fun h42=>kq (kXb (kCx h42 h1 (fun h44=>kLx h44 (fun h45=>PJ.blockRet (kCx h45 h0 (fun h46=>by obtain rfl:=oi h46;exact kZ H D W))))))) (fun h43=>kKb (kXo h43 [3,4,28,29])))))
      ·have h47:=condT hb0 hy0
       exact RJ.pin 29 (kd:= .i64) (by kernel_rfl) (of_decide_eq_true hb0) (kr 3 (kcN h47 (fun(s2:Bool)=>([(3, .ptr 0 0),(4, .bool false),(28, .agg (d0d y0)),(29,iL 0),(43, .bool s2)],[.box (a0f x1)])) (fun s2 hy7=>km 4 (kAb 36 hy7 (fun _=>b0K) (fun y4 h49=>kc 1 (kB 37 h49 (fun h50=>ke 6 (kNW h50 D W [0])) (fun h51=>kc 4 (kAb 42 h51 (fun _=>b0K) (fun y5 h52=>ke 1 (kNW h52 D W [0])))))))) (fun s2 h48=>kBT 43 h48 (fun h53=>kq (kXb (kCx h53 h1 (fun h55=>kLx h55 (fun h56=>PJ.blockRet (kCx h56 h0 (fun h57=>by obtain rfl:=oi h57;exact kZ H D W))))))) (fun h54=>kKb (kXo h54 [3,4,28,29])))))
     ·exact kM (kLo h23 [3,4,28,29])
    ·exact kEp 0 (kLx h22 (fun h58=>PJ.blockOut (kXW h58 D W [])))
   ·exact kq (kX (by cases h19;exact kZ H D W))
def a0G(x0:e0h)(x1:Int)(x2:List UInt8):Option (d0b×Bool):=
 (Option.bind (j0o x2) fun y0=>(Option.bind (Option.bind (bif(!y0.2)then(some true)else(bif(decide (x1<0))then(some true)else(some (decide (x1>3))))) fun(s0:Bool)=>(bif s0 then(some (.inr ((⟨([]:List a0c),([]:List a0c),([]:List a0c),([]:List a0c),false,0,0,0,0,0,0,0,0,0,false,0,0⟩:d0b),false)))else(some (.inl ())))) (a0j fun(s3:Unit)=>(Option.bind (Option.bind (Option.bind (f0v y0.1 x1) fun y2=>(bif(!y2)then(some true)else(Option.bind (f0m y0.1.r_ y0.1.q_ x1 0) fun y3=>(bif(!y3)then(some true)else(bif y0.1.J_ then(Option.bind (f0m y0.1.B_ y0.1.E_ x1 1) fun y4=>(some (!y4)))else(some false)))))) fun(s1:Bool)=>(bif s1 then(some (.inr ((⟨([]:List a0c),([]:List a0c),([]:List a0c),([]:List a0c),false,0,0,0,0,0,0,0,0,0,false,0,0⟩:d0b),false)))else(some (.inl ())))) (a0j fun(s4:Unit)=>(Option.bind (Option.bind (Option.bind (d0q x0 y0.1 ([]:List Int)) fun y1=>(bif(!y1)then(some true)else(Option.bind (h0n x0 y0.1) fun y5=>(some (!y5))))) fun(s2:Bool)=>(bif s2 then(some (.inr ((⟨([]:List a0c),([]:List a0c),([]:List a0c),([]:List a0c),false,0,0,0,0,0,0,0,0,0,false,0,0⟩:d0b),false)))else(some (.inl ())))) (a0j fun(s5:Unit)=>(some (y0.1,true)))))))))
theorem b0t {x0:e0h} {x1:Int} {x2:List UInt8} {r:d0b×Bool} (h:a0G x0 x1 x2=some r):SQ 11 [.agg (a0w x0),iL x1, .str x2] [] (.tup [.agg (a0f r.1), .bool r.2]) []:=by
 refine kFn (fn:=Tryz.f11) (fun F H D W=> ?_)
 unfold a0G at h
 refine kq (kn 1 (kAb 12 h (fun _=>m0r) (fun y0 h0=>kr 6 (kcX h0 (fun(s3:Unit)=>([(1,iL x1),(3, .ptr 0 0),(6, .ptr 1 0),(7, .bool false),(8, .ptr 2 0)],[.box (a0w x0), .box [.nl, .nl, .nl, .nl, .bool false,iL 0,iL 0,iL 0,iL 0,iL 0,iL 0,iL 0,iL 0,iL 0, .bool false,iM 0,iL 0], .box (a0f y0.1)])) (fun y6 hy0 h1=> ?_) (fun s3 h2=> ?_)))))
 ·exact kcN hy0 (fun(s0:Bool)=>([(1,iL x1),(3, .ptr 0 0),(6, .ptr 1 0),(7, .bool false),(8, .ptr 2 0),(24, .bool s0)],[.box (a0w x0), .box [.nl, .nl, .nl, .nl, .bool false,iL 0,iL 0,iL 0,iL 0,iL 0,iL 0,iL 0,iL 0,iL 0, .bool false,iM 0,iL 0], .box (a0f y0.1)])) (fun s0 hy1=>km 3 (kB 17 hy1 (fun h4=>ke 7 (kNo h4 [1,3,6,7,8,24])) (fun h5=>kc 4 (kB 21 h5 (fun h6=>ke 3 (kNo h6 [1,3,6,7,8,24])) (fun h7=>ke 3 (kNo h7 [1,3,6,7,8,24])))))) (fun s0 h3=>kBT 24 h3 (fun h8=>kq (kX (kCx h8 h1 (fun h10=>by obtain rfl:=oi h10;exact PJ.res (v1:= .tup [zQ, .bool false]) (Le.tup (.cons (Le.agg (.cons (Le.nl _) (.cons (Le.nl _) (.cons (Le.nl _) (.cons (Le.nl _) (LeL.refl _)))))) (LeL.refl _))) (kZ H D W))))) (fun h9=>kK (kXo h9 [1,3,6,7,8])))
 ·refine kcX h2 (fun(s4:Unit)=>([(3, .ptr 0 0),(6, .ptr 1 0),(7, .bool false),(8, .ptr 2 0)],[.box (a0w x0), .box [.nl, .nl, .nl, .nl, .bool false,iL 0,iL 0,iL 0,iL 0,iL 0,iL 0,iL 0,iL 0,iL 0, .bool false,iM 0,iL 0], .box (a0f y0.1)])) (fun y7 hy2 h11=> ?_) (fun s4 h12=> ?_)
  ·exact kcN hy2 (fun(s1:Bool)=>([(3, .ptr 0 0),(6, .ptr 1 0),(7, .bool false),(8, .ptr 2 0),(51, .bool s1)],[.box (a0w x0), .box [.nl, .nl, .nl, .nl, .bool false,iL 0,iL 0,iL 0,iL 0,iL 0,iL 0,iL 0,iL 0,iL 0, .bool false,iM 0,iL 0], .box (a0f y0.1)])) (fun s1 hy3=>km 2 (kAb 28 hy3 (fun _=>m0s) (fun y2 h14=>kc 2 (kB 30 h14 (fun h15=>ke 21 (kNo h15 [3,6,7,8,51])) (fun h16=>kc 5 (kAb 36 h16 (fun _=>h0J) (fun y3 h17=>kc 3 (kB 39 h17 (fun h18=>ke 12 (kNo h18 [3,6,7,8,51])) (fun h19=>kc 3 (kB 42 h19 (fun h20=>kc 5 (kAb 48 h20 (fun _=>h0J) (fun y4 h22=>ke 3 (kNo h22 [3,6,7,8,51])))) (fun h21=>ke 9 (kNo h21 [3,6,7,8,51])))))))))))) (fun s1 h13=>kBT 51 h13 (fun h23=>kq (kX (kCx h23 h11 (fun h25=>by obtain rfl:=oi h25;exact PJ.res (v1:= .tup [zQ, .bool false]) (Le.tup (.cons (Le.agg (.cons (Le.nl _) (.cons (Le.nl _) (.cons (Le.nl _) (.cons (Le.nl _) (LeL.refl _)))))) (LeL.refl _))) (kZ H D W))))) (fun h24=>kK (kXo h24 [3,6,7,8])))
  ·refine kcX h12 (fun(s5:Unit)=>([(6, .ptr 0 0),(7, .bool false),(8, .ptr 1 0)],[.box [.nl, .nl, .nl, .nl, .bool false,iL 0,iL 0,iL 0,iL 0,iL 0,iL 0,iL 0,iL 0,iL 0, .bool false,iM 0,iL 0], .box (a0f y0.1)])) (fun y8 hy4 h26=> ?_) (fun s5 h27=> ?_)
   ·refine kcN hy4 (fun(s2:Bool)=>([(6, .ptr 0 0),(7, .bool false),(8, .ptr 1 0),(62, .bool s2)],[.box [.nl, .nl, .nl, .nl, .bool false,iL 0,iL 0,iL 0,iL 0,iL 0,iL 0,iL 0,iL 0,iL 0, .bool false,iM 0,iL 0], .box (a0f y0.1)])) (fun s2 hy5=> ?_) (fun s2 h28=> ?_)
    ·refine km 2 ?_
     obtain⟨y1,hy6,h29⟩:=a0d hy5
     exact RJ.call0 (d:=(some 55)) (f:=40) (args:=[.agg (a0w x0), .agg (a0f y0.1), .nl]) (v:= .bool y1) (tr2:=[]) (by kernel_rfl) (by kernel_rfl) (.cons (Le.refl _) (.cons (Le.refl _) (.cons (Le.nl _) .nil))) (f0A hy6) (by kernel_rfl) (kc 2 (kB 57 h29 (fun h30=>ke 5 (kNW h30 D W [1,2])) (fun h31=>kc 2 (kAb 60 h31 (fun _=>o0e) (fun y5 h32=>ke 2 (kNW h32 D W [1,2]))))))
    ·exact kBT 62 h28 (fun h33=>kq (kX (kCx h33 h26 (fun h35=>by obtain rfl:=oi h35;exact PJ.res (v1:= .tup [zQ, .bool false]) (Le.tup (.cons (Le.agg (.cons (Le.nl _) (.cons (Le.nl _) (.cons (Le.nl _) (.cons (Le.nl _) (LeL.refl _)))))) (LeL.refl _))) (kZ H D W))))) (fun h34=>kK (kXo h34 [6,7,8]))
   ·exact kq (kX (by cases h27;exact kZ H D W))
def c0Q:Option (l0A):=
 (Option.bind c0R fun y0=>(some (⟨([101,110]:List UInt8),y0,(⟨([35,44,35,35,48,46,35,35,35]:List UInt8),([35,44,35,35,48,37]:List UInt8),([48,46,35,35,35,69,48]:List UInt8),([194,164,35,44,35,35,48,46,48,48]:List UInt8)⟩:y0T),([(⟨2,([105,32,61,32,49,32,97,110,100,32,118,32,61,32,48]:List UInt8)⟩:k0S)]:List k0S),([(⟨([85,83,68]:List UInt8),([36]:List UInt8),2⟩:l0S)]:List l0S),([(⟨4,0,([48,75]:List UInt8)⟩:i0s),(⟨5,0,([48,48,75]:List UInt8)⟩:i0s)]:List i0s)⟩:l0A)))
theorem d0P {r:l0A} (h:c0Q=some r):SQ 33 [] [] (.agg (a0J r)) []:=by
 refine kFn (fn:=Tryz.f33) (fun F H D W=> ?_)
 unfold c0Q at h
 exact kq (kSR (kAb 1 h (fun _=>d0Q) (fun y0 h0=>kr 10 (kX (by obtain rfl:=oi h0;exact PJ.wk (Wk.freeze 1 (n:=(([(⟨2,([105,32,61,32,49,32,97,110,100,32,118,32,61,32,48]:List UInt8)⟩:k0S)]:List k0S)).length) (k:=2) (e:=92) (cs:=(([(⟨2,([105,32,61,32,49,32,97,110,100,32,118,32,61,32,48]:List UInt8)⟩:k0S)]:List k0S)).flatMap c0h) (by kernel_rfl)) (PJ.wk (Wk.freeze 2 (n:=(([(⟨([85,83,68]:List UInt8),([36]:List UInt8),2⟩:l0S)]:List l0S)).length) (k:=3) (e:=59) (cs:=(([(⟨([85,83,68]:List UInt8),([36]:List UInt8),2⟩:l0S)]:List l0S)).flatMap d0D) (by kernel_rfl)) (PJ.wk (Wk.freeze 3 (n:=(([(⟨4,0,([48,75]:List UInt8)⟩:i0s),(⟨5,0,([48,48,75]:List UInt8)⟩:i0s)]:List i0s)).length) (k:=3) (e:=26) (cs:=(([(⟨4,0,([48,75]:List UInt8)⟩:i0s),(⟨5,0,([48,48,75]:List UInt8)⟩:i0s)]:List i0s)).flatMap a0Z) (by kernel_rfl)) (kZ H D W))))))))
structure j0P where
 a_:l0A
 deriving Inhabited,DecidableEq
def b0m(x:j0P):List SV:=[.str x.a_.x_, .int .i32 x.a_.S_.u_, .int .i32 x.a_.S_.m_, .int .i32 x.a_.S_.o_, .int .i32 x.a_.S_.l_, .int .i32 x.a_.S_.k_, .int .i32 x.a_.S_.j_, .int .i32 x.a_.S_.i_, .str x.a_.g_.e_, .str x.a_.g_.f_, .str x.a_.g_.n_, .str x.a_.g_.s_,lsv c0h 2 x.a_.w_,lsv d0D 3 x.a_.d_,lsv a0Z 3 x.a_.b_]
theorem y0p(x:j0P):(b0m x).length=15:=rfl
def e0u(x0:Int):Option (Bool):=
 (Option.bind (bif(decide (65≤x0))then(some (decide (x0≤90)))else(some false)) fun(s0:Bool)=>(some s0))
theorem g0Y {x0:Int} {r:Bool} (h:e0u x0=some r):SQ 91 [.int .u8 x0] [] (.bool r) []:=by
 refine kFn (fn:=Tryz.f91) (fun F H D W=> ?_)
 unfold e0u at h
 exact kq (kcN h (fun(s0:Bool)=>([(2, .bool s0)],[])) (fun s0 hy0=>km 3 (kB 5 hy0 (fun h1=>ke 4 (kNo h1 [2])) (fun h2=>ke 4 (kNo h2 [2])))) (fun s0 h0=>kX (by cases h0;exact kZ H D W)))
def j0p(x0:Int):Option (Bool):=
 (Option.bind (bif(decide (97≤x0))then(bif(decide (x0≤122))then(some true)else(Option.bind (e0u x0) fun y0=>(some y0)))else(Option.bind (e0u x0) fun y1=>(some y1))) fun(s0:Bool)=>(some s0))
theorem o0f {x0:Int} {r:Bool} (h:j0p x0=some r):SQ 48 [.int .u8 x0] [] (.bool r) []:=by
 refine kFn (fn:=Tryz.f48) (fun F H D W=> ?_)
 unfold j0p at h
 exact kq (kcN h (fun(s0:Bool)=>([(2, .bool s0)],[])) (fun s0 hy0=>km 3 (kB 5 hy0 (fun h1=>kc 4 (kB 9 h1 (fun h3=>ke 4 (kNo h3 [2])) (fun h4=>kc 1 (kAb 11 h4 (fun _=>g0Y) (fun y0 h5=>ke 2 (kNo h5 [2])))))) (fun h2=>kc 5 (kAb 11 h2 (fun _=>g0Y) (fun y1 h6=>ke 2 (kNo h6 [2])))))) (fun s0 h0=>kX (by cases h0;exact kZ H D W)))
def k0b(x0:List UInt8):Option (Bool):=
 (Option.bind (Option.bind (bif(decide ((x0.length:Int)=0))then(some true)else(some ((decide ((x0.length:Int)>20))))) fun(s1:Bool)=>(bif s1 then(some (.inr false))else(some (.inl ())))) (a0j fun(s3:Unit)=>(Option.bind (a0l (fun(s0:Int)=>(bif(decide (s0<((a0k x0).length:Int)))then(Option.bind (bif inR s0 (a0k x0).length then(Option.bind (Option.bind (j0p (nth (a0k x0) s0)) fun y0=>(bif(!y0)then(bif(decide (¬(nth (a0k x0) s0)=45))then(bif(decide ((nth (a0k x0) s0)<48))then(some true)else(some ((decide ((nth (a0k x0) s0)>57)))))else(some false))else(some false))) fun(s2:Bool)=>(bif s2 then(some (.inr (.inr (.inr false))))else(some (.inl ()))))else none) (a0j fun(s4:Unit)=>(some (.inl (IntKind.wrap .i64 (s0+1))))))else(some (.inr (.inl ()))))) big 0) (a0j fun(s5:Unit)=>(some true)))))
theorem l0i {x0:List UInt8} {r:Bool} (h:k0b x0=some r):SQ 16 [.str x0] [] (.bool r) []:=by
 refine kFn (fn:=Tryz.f16) (fun F H D W=> ?_)
 unfold k0b at h
 exact kq (kcX h (fun(s3:Unit)=>([(0, .str x0),(2, .bool false)],[])) (fun y1 hy0 h0=>kcN hy0 (fun(s1:Bool)=>([(0, .str x0),(2, .bool false),(12, .bool s1)],[])) (fun s1 hy1=>km 4 (kB 8 hy1 (fun h3=>ke 4 (kNo h3 [0,2,12])) (fun h4=>ke 4 (kNo h4 [0,2,12])))) (fun s1 h2=>kBT 12 h2 (fun h5=>kq (kX (kCx h5 h0 (fun h7=>by obtain rfl:=oi h7;exact kZ H D W)))) (fun h6=>kK (kXo h6 [0,2])))) (fun s3 h1=>kcX h1 (fun(s5:Unit)=>([(2, .bool false)],[])) (fun y2 hy2 h8=>kn 1 (RJ.rel (d:=(some 14)) (ef:=⟨.lst x0.length 1 (x0.map f0a),[],[]⟩) (ef':=⟨lB (a0k x0),[],[]⟩) (c:=true) (tr2:=[]) (H2:=[]) (by kernel_rfl) rfl (fun hc=>N.toBytes) (by kernel_rfl) (kr 2 (kb 0 (kl (fun(s0:Int)=>([(2, .bool false),(14,lB (a0k x0)),(15,iL ((a0k x0).length:Int)),(16,iL s0)],[])) hy2 [2,14,15,16] (fun s0 x466 hs0=>kq (kS (kBT 17 hs0 (fun h10=>kKN (kcX h10 (fun(s4:Unit)=>([(2, .bool false),(14,lB (a0k x0)),(15,iL ((a0k x0).length:Int)),(16,iL s0)],[])) (fun y3 hy3 h12=>kb 1 (kSR (kIb 18 (a0x .u8) hy3 (fun h14=>kr 2 (kcN h14 (fun(s2:Bool)=>([(2, .bool false),(14,lB (a0k x0)),(15,iL ((a0k x0).length:Int)),(16,iL s0),(34, .bool s2)],[])) (fun s2 hy4=>km 1 (kAb 21 hy4 (fun _=>o0f) (fun y0 h16=>kc 2 (kB 23 h16 (fun h17=>kc 4 (kB 27 h17 (fun h19=>kc 3 (kB 30 h19 (fun h21=>ke 4 (kNo h21 [2,14,15,16,34])) (fun h22=>ke 4 (kNo h22 [2,14,15,16,34])))) (fun h20=>ke 7 (kNo h20 [2,14,15,16,34])))) (fun h18=>ke 11 (kNo h18 [2,14,15,16,34])))))) (fun s2 h15=>kBT 34 h15 (fun h23=>kq (kXb (kCx h23 h12 (fun h25=>kLx h25 (fun h26=>PJ.blockRet (kCx h26 h8 (fun h27=>by obtain rfl:=oi h27;exact kZ H D W))))))) (fun h24=>kKb (kXo h24 [2,14,15,16])))))))) (fun s4 h13=>kM (kLo h13 [2,14,15,16])))) (fun h11=>kEp 0 (kLx h11 (fun h28=>PJ.blockOut (kXo h28 [2])))))))))))) (fun s5 h9=>kq (kX (by cases h9;exact kZ H D W)))))
def d0v(x0:j0P):Option (Int×Bool):=
 (Option.bind (k0b x0.a_.x_) fun y0=>(some (0,y0)))
theorem k0a {x0:j0P} {r:Int×Bool} (h:d0v x0=some r):SQ 52 [.agg (b0m x0)] [] (.tup [iL r.1, .bool r.2]) []:=by
 refine kFn (fn:=Tryz.f52) (fun F H D W=> ?_)
 unfold d0v at h
 exact kq (kn 3 (kAb 7 h (fun _=>l0i) (fun y0 h0=>kr 2 (kX (by cases h0;exact kZ H D W)))))
def h0x(x0:Int):Option (Bool):=
 (Option.bind (d0a x0) fun y0=>(Option.bind (bif y0.2 then(some (decide (y0.1=0)))else(some false)) fun(s0:Bool)=>(some s0)))
theorem o0p {x0:Int} {r:Bool} (h:h0x x0=some r):SQ 128 [iM x0] [] (.bool r) []:=by
 refine kFn (fn:=Tryz.f128) (fun F H D W=> ?_)
 unfold h0x at h
 exact kq (kn 1 (kAb 7 h (fun _=>h0c) (fun y0 h0=>kr 5 (kcN h0 (fun(s0:Bool)=>([(2, .bool s0)],[])) (fun s0 hy0=>km 2 (kB 11 hy0 (fun h2=>ke 4 (kNo h2 [2])) (fun h3=>ke 4 (kNo h3 [2])))) (fun s0 h1=>kX (by cases h1;exact kZ H D W))))))
def d0J(x0:e0h):Option ((List (Int×Int))):=
 (Option.bind (a0l (fun(s0:Int×(List (Int×Int)))=>(bif(decide (s0.1<6))then(bif(decide (s0.1=0))then(some (.inl ((IntKind.wrap .i64 (0+1)),(m0P ((IntKind.wrap .i64 ((((c0C (fun a b:Int=>a==b) s0.2 x0.m_).getD 0))+1))) x0.m_ s0.2))))else(bif(decide (s0.1=1))then(some (.inl ((IntKind.wrap .i64 (1+1)),(m0P ((IntKind.wrap .i64 ((((c0C (fun a b:Int=>a==b) s0.2 x0.o_).getD 0))+1))) x0.o_ s0.2))))else(bif(decide (s0.1=2))then(some (.inl ((IntKind.wrap .i64 (2+1)),(m0P ((IntKind.wrap .i64 ((((c0C (fun a b:Int=>a==b) s0.2 x0.l_).getD 0))+1))) x0.l_ s0.2))))else(bif(decide (s0.1=3))then(some (.inl ((IntKind.wrap .i64 (3+1)),(m0P ((IntKind.wrap .i64 ((((c0C (fun a b:Int=>a==b) s0.2 x0.k_).getD 0))+1))) x0.k_ s0.2))))else(bif(decide (s0.1=4))then(some (.inl ((IntKind.wrap .i64 (4+1)),(m0P ((IntKind.wrap .i64 ((((c0C (fun a b:Int=>a==b) s0.2 x0.j_).getD 0))+1))) x0.j_ s0.2))))else(bif(decide (s0.1=5))then(some (.inl ((IntKind.wrap .i64 (5+1)),(m0P ((IntKind.wrap .i64 ((((c0C (fun a b:Int=>a==b) s0.2 x0.i_).getD 0))+1))) x0.i_ s0.2))))else none))))))else(some (.inr s0.2)))) big (0,([]:List (Int×Int)))) fun(s1:(List (Int×Int)))=>(some s1))
theorem l0Z {x0:e0h} {r:(List (Int×Int))} (h:d0J x0=some r):SQ 129 [.agg (a0w x0)] [] (.mp 0) [.map (b0O (fun k:Int=>iM k) (fun k:Int=>iL k) r)]:=by
 refine kFn (fn:=Tryz.f129) (fun F H D W=> ?_)
 unfold d0J at h
 refine kq (kq (kcN h (fun(s1:(List (Int×Int)))=>([(3, .mp 0)],[.map (b0O (fun k:Int=>iM k) (fun k:Int=>iL k) s1)])) (fun s1 hy0=> ?_) (fun s1 h6=> ?_)))
 ·refine kq (kb 0 (J.wk (Wk.sel (L2:=[(3, .mp 0),(19, .agg [iM x0.m_,iM x0.o_,iM x0.l_,iM x0.k_,iM x0.j_,iM x0.i_]),(20,iL 0)]) (H2:=[.map (b0O (fun k:Int=>iM k) (fun k:Int=>iL k) ([]:List (Int×Int)))]) 0 (by rw[D];rfl) W [1] (by kernel_rfl) (by simp only[ah,av,c0r (ek:=(fun k:Int=>iM k)) (ev:=(fun k:Int=>iL k)) (fun _ _=>rfl) (fun _ _=>rfl)];kernel_rfl) (by decide) (by simp only[aB,aG,b0C (ek:=(fun k:Int=>iM k)) (ev:=(fun k:Int=>iL k)) (fun _ _=>rfl) (fun _ _=>rfl)];kernel_rfl) (by kernel_rfl) (by kernel_rfl) (by kernel_rfl)) (kl (fun(s0:Int×(List (Int×Int)))=>([(3, .mp 0),(19, .agg [iM x0.m_,iM x0.o_,iM x0.l_,iM x0.k_,iM x0.j_,iM x0.i_]),(20,iL s0.1)],[.map (b0O (fun k:Int=>iM k) (fun k:Int=>iL k) s0.2)])) hy0 [3,19,20] (fun s0 x90 hs0=>kq (kS (kBT 21 hs0 (fun h0=> ?_) (fun h7=> ?_)))))))
  ·refine kKN (kS (kb 1 (kSR ?_)))
   cases hb0:(decide (s0.1=0))
   ·have h1:=condF hb0 h0
    cases hb1:(decide (s0.1=1))
    ·have h2:=condF hb1 h1
     cases hb2:(decide (s0.1=2))
     ·have h3:=condF hb2 h2
      cases hb3:(decide (s0.1=3))
      ·have h4:=condF hb3 h3
       cases hb4:(decide (s0.1=4))
       ·have h5:=condF hb4 h4
        cases hb5:(decide (s0.1=5))
        ·have h8:=condF hb5 h5
         cases h8
        ·have h9:=condT hb5 h5
         exact RJ.pin 20 (kd:= .i64) (by kernel_rfl) (of_decide_eq_true hb5) (kr 2 (km 2 (RJ.lookK (d:=(some 25)) (i:=0) (ok:=false) (tr2:=[]) .i32 (fun k:Int=>iL k) s0.2 x0.i_ (0:Int) (by kernel_rfl) (kc 1 (RJ.setK (d:=none) (i:=0) (sv:=iL ((IntKind.wrap .i64 ((((c0C (fun a b:Int=>a==b) s0.2 x0.i_).getD 0))+1)))) (tr2:=[]) (H2:=[.map (b0O (fun k:Int=>iM k) (fun k:Int=>iL k) ((m0P ((IntKind.wrap .i64 ((((c0C (fun a b:Int=>a==b) s0.2 x0.i_).getD 0))+1))) x0.i_ s0.2)))]) .i32 (fun k:Int=>iL k) s0.2 x0.i_ ((IntKind.wrap .i64 ((((c0C (fun a b:Int=>a==b) s0.2 x0.i_).getD 0))+1))) (by kernel_rfl) rfl (by kernel_rfl) (kE (PJ.blockNormal (PJ.next (kM (kLo h9 [3,19,20]))))))))))
       ·have h10:=condT hb4 h4
        exact RJ.pin 20 (kd:= .i64) (by kernel_rfl) (of_decide_eq_true hb4) (kr 2 (km 2 (RJ.lookK (d:=(some 25)) (i:=0) (ok:=false) (tr2:=[]) .i32 (fun k:Int=>iL k) s0.2 x0.j_ (0:Int) (by kernel_rfl) (kc 1 (RJ.setK (d:=none) (i:=0) (sv:=iL ((IntKind.wrap .i64 ((((c0C (fun a b:Int=>a==b) s0.2 x0.j_).getD 0))+1)))) (tr2:=[]) (H2:=[.map (b0O (fun k:Int=>iM k) (fun k:Int=>iL k) ((m0P ((IntKind.wrap .i64 ((((c0C (fun a b:Int=>a==b) s0.2 x0.j_).getD 0))+1))) x0.j_ s0.2)))]) .i32 (fun k:Int=>iL k) s0.2 x0.j_ ((IntKind.wrap .i64 ((((c0C (fun a b:Int=>a==b) s0.2 x0.j_).getD 0))+1))) (by kernel_rfl) rfl (by kernel_rfl) (kE (PJ.blockNormal (PJ.next (kM (kLo h10 [3,19,20]))))))))))
      ·have h11:=condT hb3 h3
       exact RJ.pin 20 (kd:= .i64) (by kernel_rfl) (of_decide_eq_true hb3) (kr 2 (km 2 (RJ.lookK (d:=(some 25)) (i:=0) (ok:=false) (tr2:=[]) .i32 (fun k:Int=>iL k) s0.2 x0.k_ (0:Int) (by kernel_rfl) (kc 1 (RJ.setK (d:=none) (i:=0) (sv:=iL ((IntKind.wrap .i64 ((((c0C (fun a b:Int=>a==b) s0.2 x0.k_).getD 0))+1)))) (tr2:=[]) (H2:=[.map (b0O (fun k:Int=>iM k) (fun k:Int=>iL k) ((m0P ((IntKind.wrap .i64 ((((c0C (fun a b:Int=>a==b) s0.2 x0.k_).getD 0))+1))) x0.k_ s0.2)))]) .i32 (fun k:Int=>iL k) s0.2 x0.k_ ((IntKind.wrap .i64 ((((c0C (fun a b:Int=>a==b) s0.2 x0.k_).getD 0))+1))) (by kernel_rfl) rfl (by kernel_rfl) (kE (PJ.blockNormal (PJ.next (kM (kLo h11 [3,19,20]))))))))))
     ·have h12:=condT hb2 h2
      exact RJ.pin 20 (kd:= .i64) (by kernel_rfl) (of_decide_eq_true hb2) (kr 2 (km 2 (RJ.lookK (d:=(some 25)) (i:=0) (ok:=false) (tr2:=[]) .i32 (fun k:Int=>iL k) s0.2 x0.l_ (0:Int) (by kernel_rfl) (kc 1 (RJ.setK (d:=none) (i:=0) (sv:=iL ((IntKind.wrap .i64 ((((c0C (fun a b:Int=>a==b) s0.2 x0.l_).getD 0))+1)))) (tr2:=[]) (H2:=[.map (b0O (fun k:Int=>iM k) (fun k:Int=>iL k) ((m0P ((IntKind.wrap .i64 ((((c0C (fun a b:Int=>a==b) s0.2 x0.l_).getD 0))+1))) x0.l_ s0.2)))]) .i32 (fun k:Int=>iL k) s0.2 x0.l_ ((IntKind.wrap .i64 ((((c0C (fun a b:Int=>a==b) s0.2 x0.l_).getD 0))+1))) (by kernel_rfl) rfl (by kernel_rfl) (kE (PJ.blockNormal (PJ.next (kM (kLo h12 [3,19,20]))))))))))
    ·have h13:=condT hb1 h1
     exact RJ.pin 20 (kd:= .i64) (by kernel_rfl) (of_decide_eq_true hb1) (kr 2 (km 2 (RJ.lookK (d:=(some 25)) (i:=0) (ok:=false) (tr2:=[]) .i32 (fun k:Int=>iL k) s0.2 x0.o_ (0:Int) (by kernel_rfl) (kc 1 (RJ.setK (d:=none) (i:=0) (sv:=iL ((IntKind.wrap .i64 ((((c0C (fun a b:Int=>a==b) s0.2 x0.o_).getD 0))+1)))) (tr2:=[]) (H2:=[.map (b0O (fun k:Int=>iM k) (fun k:Int=>iL k) ((m0P ((IntKind.wrap .i64 ((((c0C (fun a b:Int=>a==b) s0.2 x0.o_).getD 0))+1))) x0.o_ s0.2)))]) .i32 (fun k:Int=>iL k) s0.2 x0.o_ ((IntKind.wrap .i64 ((((c0C (fun a b:Int=>a==b) s0.2 x0.o_).getD 0))+1))) (by kernel_rfl) rfl (by kernel_rfl) (kE (PJ.blockNormal (PJ.next (kM (kLo h13 [3,19,20]))))))))))
   ·have h14:=condT hb0 h0
    exact RJ.pin 20 (kd:= .i64) (by kernel_rfl) (of_decide_eq_true hb0) (kr 2 (km 2 (RJ.lookK (d:=(some 25)) (i:=0) (ok:=false) (tr2:=[]) .i32 (fun k:Int=>iL k) s0.2 x0.m_ (0:Int) (by kernel_rfl) (kc 1 (RJ.setK (d:=none) (i:=0) (sv:=iL ((IntKind.wrap .i64 ((((c0C (fun a b:Int=>a==b) s0.2 x0.m_).getD 0))+1)))) (tr2:=[]) (H2:=[.map (b0O (fun k:Int=>iM k) (fun k:Int=>iL k) ((m0P ((IntKind.wrap .i64 ((((c0C (fun a b:Int=>a==b) s0.2 x0.m_).getD 0))+1))) x0.m_ s0.2)))]) .i32 (fun k:Int=>iL k) s0.2 x0.m_ ((IntKind.wrap .i64 ((((c0C (fun a b:Int=>a==b) s0.2 x0.m_).getD 0))+1))) (by kernel_rfl) rfl (by kernel_rfl) (kE (PJ.blockNormal (PJ.next (kM (kLo h14 [3,19,20]))))))))))
  ·exact kEp 0 (kLx h7 (fun h15=>PJ.blockOut (kNo h15 [3])))
 ·exact kq (kX (by obtain rfl:=oi h6;exact K.retV (H0:=[]) [0] (.inr rfl) H D W (by kernel_rfl) (v1:= .mp 0) (by kernel_rfl) (by kernel_rfl) (by simp only[ah,av,c0r (ek:=(fun k:Int=>iM k)) (ev:=(fun k:Int=>iL k)) (fun _ _=>rfl) (fun _ _=>rfl)];kernel_rfl) (by decide) (by simp only[aB,aG,b0C (ek:=(fun k:Int=>iM k)) (ev:=(fun k:Int=>iL k)) (fun _ _=>rfl) (fun _ _=>rfl)];kernel_rfl) (by kernel_rfl) (by kernel_rfl) (by kernel_rfl) (by kernel_rfl)))
def g0D(x0:e0h):Option (Bool):=
 (Option.bind (h0x x0.u_) fun y2=>(bif(!y2)then(some false)else(Option.bind (Option.bind (d0J x0) fun y0=>(Option.bind (i0K (fun(e61:Int×Int)=>(Option.bind (f0V e61.1) fun y1=>(Option.bind (bif(decide (e61.2>1))then(some true)else(bif(decide (¬y1=0))then(some (decide (¬y1=4)))else(some false))) fun(s0:Bool)=>(bif s0 then(some (.inr (.inr false)))else(some (.inl ())))))) y0) (a0j fun(_:Unit)=>(some (.inl ()))))) (a0j fun(s1:Unit)=>(some true)))))
theorem q0c {x0:e0h} {r:Bool} (h:g0D x0=some r):SQ 99 [.agg (a0w x0)] [] (.bool r) []:=by
 refine kFn (fn:=Tryz.f99) (fun F H D W=> ?_)
 unfold g0D at h
 refine kq (kS (kn 2 (kAb 8 h (fun _=>o0p) (fun y2 h1=>kr 1 (kBT 9 h1 (fun h2=> ?_) (fun h3=> ?_))))))
 ·exact kq (kX (PJ.passRet (by cases h2;exact kZ H D W)))
 ·refine kKN (kcX h3 (fun(s1:Unit)=>([(2, .bool false)],[])) (fun y3 hy0 h4=> ?_) (fun s1 h5=> ?_))
  ·refine kn 1 ?_
   obtain⟨y0,hy1,h6⟩:=a0d hy0
   refine RJ.callG (d:=(some 11)) (f:=129) (args:=[.agg (a0w x0)]) (args0:=[.agg (a0w x0)]) (v0:= .mp 0) (v:= .mp 1) (tr2:=[]) (H0:=[]) (H0':=[.map (b0O (fun k:Int=>iM k) (fun k:Int=>iL k) y0)]) (H2:=[.box (a0w x0), .map (b0O (fun k:Int=>iM k) (fun k:Int=>iL k) y0)]) [] (by kernel_rfl) (by kernel_rfl) (by kernel_rfl) (by kernel_rfl) (by decide) (by kernel_rfl) (by kernel_rfl) (by kernel_rfl) (LeL.refl _) (l0Z hy1) (by kernel_rfl) (by kernel_rfl) ((show d0x (b0L []) 0 _ [.map (b0O (fun k:Int=>iM k) (fun k:Int=>iL k) y0)]=[.box (a0w x0),Ent.rn (gOf (b0L []) 0 1) (.map (b0O (fun k:Int=>iM k) (fun k:Int=>iL k) y0))] by kernel_rfl).trans (by simp only[c0r (ek:=(fun k:Int=>iM k)) (ev:=(fun k:Int=>iL k)) (fun _ _=>rfl) (fun _ _=>rfl)])) (RJ.range (d:=(some 12)) (i:=1) (n:=(b0O (fun k:Int=>iM k) (fun k:Int=>iL k) y0).length) (by kernel_rfl) (kEN (kb 0 (J.wk (Wk.sel (L2:=[(2, .bool false),(12, .ptr 0 0)]) (H2:=[.itr 1 ((b0O (fun k:Int=>iM k) (fun k:Int=>iL k) y0).length) ([]:List Nat), .map (b0O (fun k:Int=>iM k) (fun k:Int=>iL k) y0)]) 0 (by rw[D];rfl) W [2,1] (by kernel_rfl) (by simp only[ah,av,c0r (ek:=(fun k:Int=>iM k)) (ev:=(fun k:Int=>iL k)) (fun _ _=>rfl) (fun _ _=>rfl)];kernel_rfl) (by decide) (by simp only[aB,aG,b0C (ek:=(fun k:Int=>iM k)) (ev:=(fun k:Int=>iL k)) (fun _ _=>rfl) (fun _ _=>rfl)];kernel_rfl) (by kernel_rfl) (by kernel_rfl) (by kernel_rfl)) ?_))))
   obtain⟨y4,hy2,h0⟩:=a0d h6
   refine K.mapLoop 12 13 14 0 0 1 (n:=(b0O (fun k:Int=>iM k) (fun k:Int=>iL k) y0).length) (by kernel_rfl) (by kernel_rfl) _ _ (fun p:Int×Int=>((fun k:Int=>iM k) p.1,(fun k:Int=>iL k) p.2)) hy2 [2,12] (L2:=[(2, .bool false),(12, .ptr 0 0)]) (by kernel_rfl) (by kernel_rfl) (by kernel_rfl) (by kernel_rfl) (by kernel_rfl) (by kernel_rfl) (fun sq=> [.itr 1 ((b0O (fun k:Int=>iM k) (fun k:Int=>iL k) y0).length) sq, .map (b0O (fun k:Int=>iM k) (fun k:Int=>iL k) y0)]) (by kernel_rfl) (fun _ _=>by kernel_rfl) (fun _=>by kernel_rfl) (fun _=>by kernel_rfl) rfl (fun sv62 he0=> ?_) (fun sv62 bv63 e61 x91 hb0 hx58=> ?_)
   ·subst he0
    have h7:=k0D h0
    exact PJ.blockOut (kXW h7 D W [])
   ·refine kb 1 (kSR (RJ.entry (d:=(some 15)) (i:=1) (n:=(b0O (fun k:Int=>iM k) (fun k:Int=>iL k) y0).length) (b:=bv63) (s:=sv62) (kv:=((iM e61.1:SV),(iL e61.2:SV))) (by kernel_rfl) (by kernel_rfl) rfl hb0 (kr 4 (kn 1 (kAb 19 hx58 (fun _=>m0G) (fun y1 h8=>kr 1 (kcN h8 (fun(s0:Bool)=>([(2, .bool false),(12, .ptr 0 0),(29, .bool s0)],[.itr 1 ((b0O (fun k:Int=>iM k) (fun k:Int=>iL k) y0).length) (sv62++ [bv63]), .map (b0O (fun k:Int=>iM k) (fun k:Int=>iL k) y0)])) (fun s0 hy3=> ?_) (fun s0 h9=> ?_))))))))
    ·exact km 3 (kB 22 hy3 (fun h10=>ke 7 (kNo h10 [2,12,29])) (fun h11=>kc 3 (kB 25 h11 (fun h12=>ke 4 (kNo h12 [2,12,29])) (fun h13=>ke 4 (kNo h13 [2,12,29])))))
    ·refine kBT 29 h9 (fun h14=> ?_) (fun h15=> ?_)
     ·refine kq (kXb ?_)
      obtain rfl:=oi h14
      refine PJ.mapOut (fun e=>nomatch e) (fun he1=> ?_)
      subst he1
      have h16:=b0P h0
      exact PJ.blockRet (kCx h16 h4 (fun h17=>by obtain rfl:=oi h17;exact kZ H D W))
     ·exact kKb (by obtain rfl:=oi h15;exact PJ.mapNext [2,12] (by kernel_rfl) (by kernel_rfl))
  ·exact kq (kX (by cases h5;exact kZ H D W))
def c0K(x0:j0P):Option (Int×Bool):=
 (Option.bind (g0D x0.a_.S_) fun y0=>(some (0,y0)))
theorem i0M {x0:j0P} {r:Int×Bool} (h:c0K x0=some r):SQ 53 [.agg (b0m x0)] [] (.tup [iL r.1, .bool r.2]) []:=by
 refine kFn (fn:=Tryz.f53) (fun F H D W=> ?_)
 unfold c0K at h
 exact kq (kn 3 (kAb 7 h (fun _=>q0c) (fun y0 h0=>kr 2 (kX (by cases h0;exact kZ H D W)))))
def b0a(x0:j0P):Option (Int×Bool):=
 (Option.bind (a0l (fun(s0:Int)=>(bif(decide (s0<4))then(bif(decide (s0=0))then(Option.bind (a0G x0.a_.S_ 0 x0.a_.g_.e_) fun y0=>(bif(!y0.2)then(some (.inr (.inr (0,false))))else(some (.inl (IntKind.wrap .i64 (0+1))))))else(bif(decide (s0=1))then(Option.bind (a0G x0.a_.S_ 1 x0.a_.g_.f_) fun y1=>(bif(!y1.2)then(some (.inr (.inr (1,false))))else(some (.inl (IntKind.wrap .i64 (1+1))))))else(bif(decide (s0=2))then(Option.bind (a0G x0.a_.S_ 2 x0.a_.g_.n_) fun y2=>(bif(!y2.2)then(some (.inr (.inr (2,false))))else(some (.inl (IntKind.wrap .i64 (2+1))))))else(bif(decide (s0=3))then(Option.bind (a0G x0.a_.S_ 3 x0.a_.g_.s_) fun y3=>(bif(!y3.2)then(some (.inr (.inr (3,false))))else(some (.inl (IntKind.wrap .i64 (3+1))))))else none))))else(some (.inr (.inl ()))))) big 0) (a0j fun(s1:Unit)=>(some (0,true))))
theorem h0o {x0:j0P} {r:Int×Bool} (h:b0a x0=some r):SQ 54 [.agg (b0m x0)] [] (.tup [iL r.1, .bool r.2]) []:=by
 refine kFn (fn:=Tryz.f54) (fun F H D W=> ?_)
 unfold b0a at h
 refine kq (kcX h (fun(s1:Unit)=>([(2,iL 0),(3, .bool false)],[])) (fun y4 hy0 h0=> ?_) (fun s1 h5=> ?_))
 ·refine kq (kb 0 (kl (fun(s0:Int)=>([(1, .ptr 0 0),(2,iL 0),(3, .bool false),(10, .agg (m0D x0.a_.g_)),(11,iL s0)],[.box (b0m x0)])) hy0 [1,2,3,10,11] (fun s0 x198 hs0=>kq (kS (kBT 12 hs0 (fun h1=> ?_) (fun h6=> ?_))))))
  ·refine kKN (kS (kb 1 (kn 1 ?_)))
   cases hb0:(decide (s0=0))
   ·have h2:=condF hb0 h1
    cases hb1:(decide (s0=1))
    ·have h3:=condF hb1 h2
     cases hb2:(decide (s0=2))
     ·have h4:=condF hb2 h3
      cases hb3:(decide (s0=3))
      ·have h7:=condF hb3 h4
       cases h7
      ·have h8:=condT hb3 h4
       exact RJ.pin 11 (kd:= .i64) (by kernel_rfl) (of_decide_eq_true hb3) (RJ.pin 13 (kd:= .i64) (by kernel_rfl) (of_decide_eq_true hb3) (kr 3 (kn 5 (kAb 21 h8 (fun _=>b0t) (fun y3 h9=>kr 6 (kq (kBT 25 h9 (fun h10=>kq (kXp (kLx h10 (fun h12=>PJ.blockRet (kCx h12 h0 (fun h13=>by obtain rfl:=oi h13;exact kZ H D W)))))) (fun h11=>kKn (kM (kLW h11 D W [0]))))))))))
     ·have h14:=condT hb2 h3
      exact RJ.pin 11 (kd:= .i64) (by kernel_rfl) (of_decide_eq_true hb2) (RJ.pin 13 (kd:= .i64) (by kernel_rfl) (of_decide_eq_true hb2) (kr 3 (kn 5 (kAb 21 h14 (fun _=>b0t) (fun y2 h15=>kr 6 (kq (kBT 25 h15 (fun h16=>kq (kXp (kLx h16 (fun h18=>PJ.blockRet (kCx h18 h0 (fun h19=>by obtain rfl:=oi h19;exact kZ H D W)))))) (fun h17=>kKn (kM (kLW h17 D W [0]))))))))))
    ·have h20:=condT hb1 h2
     exact RJ.pin 11 (kd:= .i64) (by kernel_rfl) (of_decide_eq_true hb1) (RJ.pin 13 (kd:= .i64) (by kernel_rfl) (of_decide_eq_true hb1) (kr 3 (kn 5 (kAb 21 h20 (fun _=>b0t) (fun y1 h21=>kr 6 (kq (kBT 25 h21 (fun h22=>kq (kXp (kLx h22 (fun h24=>PJ.blockRet (kCx h24 h0 (fun h25=>by obtain rfl:=oi h25;exact kZ H D W)))))) (fun h23=>kKn (kM (kLW h23 D W [0]))))))))))
   ·have h26:=condT hb0 h1
    exact RJ.pin 11 (kd:= .i64) (by kernel_rfl) (of_decide_eq_true hb0) (RJ.pin 13 (kd:= .i64) (by kernel_rfl) (of_decide_eq_true hb0) (kr 3 (kn 5 (kAb 21 h26 (fun _=>b0t) (fun y0 h27=>kr 6 (kq (kBT 25 h27 (fun h28=>kq (kXp (kLx h28 (fun h30=>PJ.blockRet (kCx h30 h0 (fun h31=>by obtain rfl:=oi h31;exact kZ H D W)))))) (fun h29=>kKn (kM (kLW h29 D W [0]))))))))))
  ·exact kEp 0 (kLx h6 (fun h32=>PJ.blockOut (kXW h32 D W [])))
 ·exact kq (kX (by cases h5;exact kZ H D W))
structure a0T where
 e_:Int
 f_:Int
 deriving Inhabited,DecidableEq
def a0H(x:a0T):List SV:=[.int .i64 x.e_, .int .i64 x.f_]
theorem c0S(x:a0T):(a0H x).length=2:=rfl
structure a0e where
 p_:Int
 v_:Int
 K_:Bool
 R_:List a0T
 deriving Inhabited,DecidableEq
def a0b(x:a0e):List SV:=[.int .u8 x.p_, .int .i64 x.v_, .bool x.K_,lsv a0H 2 x.R_]
theorem d0S(x:a0e):(a0b x).length=4:=rfl
structure b0z where
 F_:Int
 C_:List (List a0e)
 deriving Inhabited,DecidableEq
def c0d(x:b0z):List SV:=[.int .i64 x.F_,lsv (c0q a0b 4) 1 x.C_]
theorem x0d(x:b0z):(c0d x).length=2:=rfl
structure v0d where
 e_:List UInt8
 f_:List UInt8
 n_:List UInt8
 s_:List UInt8
 P_:List UInt8
 U_:List UInt8
 deriving Inhabited,DecidableEq
def l0P(x:v0d):List SV:=[.str x.e_, .str x.f_, .str x.n_, .str x.s_, .str x.P_, .str x.U_]
theorem x0b(x:v0d):(l0P x).length=6:=rfl
def f0k:Option (v0d):=
 (some (⟨([111,116,104,101,114]:List UInt8),([122,101,114,111]:List UInt8),([111,110,101]:List UInt8),([116,119,111]:List UInt8),([102,101,119]:List UInt8),([109,97,110,121]:List UInt8)⟩:v0d))
theorem k0w {r:v0d} (h:f0k=some r):SQ 90 [] [] (.agg (l0P r)) []:=by
 refine kFn (fn:=Tryz.f90) (fun F H D W=> ?_)
 unfold f0k at h
 exact kq (kq (kX (by cases h;exact kZ H D W)))
def f0Y(x0 x1:Int):Option (Bool):=
 (Option.bind (bif(decide (x1>x0))then(Option.bind f0k fun y0=>(some (decide (x1<6))))else(some false)) fun(s0:Bool)=>(some s0))
theorem n0U {x0 x1:Int} {r:Bool} (h:f0Y x0 x1=some r):SQ 130 [iL x0,iL x1] [] (.bool r) []:=by
 refine kFn (fn:=Tryz.f130) (fun F H D W=> ?_)
 unfold f0Y at h
 exact kq (kcN h (fun(s0:Bool)=>([(4, .bool s0)],[])) (fun s0 hy0=>km 4 (kB 8 hy0 (fun h1=>kc 1 (kAb 10 h1 (fun _=>k0w) (fun y0 h3=>ke 4 (kNo h3 [4])))) (fun h2=>ke 6 (kNo h2 [4])))) (fun s0 h0=>kX (by cases h0;exact kZ H D W)))
def b0G(x0:Int):Option (Bool):=
 (Option.bind (bif(decide (97≤x0))then(bif(decide (x0≤122))then(some true)else(bif(decide (65≤x0))then(some (decide (x0≤90)))else(some false)))else(bif(decide (65≤x0))then(some (decide (x0≤90)))else(some false))) fun(s0:Bool)=>(some s0))
theorem i0f {x0:Int} {r:Bool} (h:b0G x0=some r):SQ 197 [.int .u8 x0] [] (.bool r) []:=by
 refine kFn (fn:=Tryz.f197) (fun F H D W=> ?_)
 unfold b0G at h
 exact kq (kcN h (fun(s0:Bool)=>([(2, .bool s0)],[])) (fun s0 hy0=>km 3 (kB 5 hy0 (fun h1=>kc 4 (kB 9 h1 (fun h3=>ke 8 (kNo h3 [2])) (fun h4=>kc 3 (kB 12 h4 (fun h5=>ke 5 (kNo h5 [2])) (fun h6=>ke 5 (kNo h6 [2])))))) (fun h2=>kc 7 (kB 12 h2 (fun h7=>ke 5 (kNo h7 [2])) (fun h8=>ke 5 (kNo h8 [2])))))) (fun s0 h0=>kX (by cases h0;exact kZ H D W)))
def e0r(x0:List UInt8)(x1:Int):Option ((List UInt8)×Int):=
 (Option.bind (a0l (fun(s1:Int)=>(Option.bind (Option.bind (bif(decide (s1<(x0.length:Int)))then(bif inR s1 x0.length then(some ((decide (((((x0.getD (s1:Int).toNat 0).toNat:Nat):Int))=32))))else none)else(some false)) fun(s4:Bool)=>(bif s4 then(some (.inl ()))else(some (.inr (.inr s1))))) (a0j fun(s6:Unit)=>(some (.inl (IntKind.wrap .i64 (s1+1))))))) big x1) fun(s0:Int)=>(Option.bind (a0l (fun(s2:Int)=>(Option.bind (Option.bind (bif(decide (s2<(x0.length:Int)))then(bif inR s2 x0.length then(Option.bind (b0G ((((x0.getD (s2:Int).toNat 0).toNat:Nat):Int))) fun y0=>(some y0))else none)else(some false)) fun(s5:Bool)=>(bif s5 then(some (.inl ()))else(some (.inr (.inr s2))))) (a0j fun(s7:Unit)=>(some (.inl (IntKind.wrap .i64 (s2+1))))))) big s0) fun(s3:Int)=>(bif inS s0 s3 x0.length then(some ((cut x0 s0 s3),s0))else none)))
theorem i0i {x0:List UInt8} {x1:Int} {r:(List UInt8)×Int} (h:e0r x0 x1=some r):SQ 196 [.ptr 0 0, .fn (.func 197) [] []] [.box [.str x0,iL x1]] (.str r.1) [.box [.str x0,iL r.2]]:=by
 refine kFn (fn:=Tryz.f196) (fun F H D W=> ?_)
 unfold e0r at h
 refine kq (kcN h (fun(s0:Int)=>([(0, .ptr 0 0),(1, .fn (.func 197) [] []),(4, .str ([]:List UInt8))],[.box [.str x0,iL s0]])) (fun s0 hy0=> ?_) (fun s0 h0=> ?_))
 ·refine kb 0 (kl (fun(s1:Int)=>([(0, .ptr 0 0),(1, .fn (.func 197) [] []),(4, .str ([]:List UInt8))],[.box [.str x0,iL s1]])) hy0 [0,1,4] (fun s1 x226 hs0=>kcX hs0 (fun(s6:Unit)=>([(0, .ptr 0 0),(1, .fn (.func 197) [] []),(4, .str ([]:List UInt8))],[.box [.str x0,iL s1]])) (fun y1 hy1 h1=> ?_) (fun s6 h2=> ?_)))
  ·refine kcN hy1 (fun(s4:Bool)=>([(0, .ptr 0 0),(1, .fn (.func 197) [] []),(4, .str ([]:List UInt8)),(27, .bool s4)],[.box [.str x0,iL s1]])) (fun s4 hy2=> ?_) (fun s4 h3=> ?_)
   ·refine kDr (kD 11 (kB 16 hy2 (fun h4=> ?_) (fun h5=> ?_)))
    ·refine kD 8 ?_
     obtain⟨hm,h6⟩:=a0Q h4
     exact kQ 25 (.int .u8 (((x0.getD (s1:Int).toNat 0).toNat:Nat):Int)) [] (tr2:=[([],[]),([],[]),([],[]),([0,1],[]),([],[]),([],[]),([],[]),([0,1],[]),([],[]),([],[]),([],[]),([],[]),([],[]),([],[]),([0,1],[]),([],[]),([],[]),([],[]),([0,1],[]),([],[])]) hm (kD 2 (kE (kNo h6 [0,1,4,27])))
    ·exact kD 11 (kE (kNo h5 [0,1,4,27]))
   ·exact kBT 27 h3 (fun h7=>kK (kXo h7 [0,1,4])) (fun h8=>kEx 0 (kCx h8 h1 (fun h9=>kLx h9 (fun h10=>PJ.blockOut (kNo h10 [0,1,4])))))
  ·exact kb 1 (kM (PJ.blockNormal (kLo h2 [0,1,4])))
 ·refine kq (kcN h0 (fun(s3:Int)=>([(0, .ptr 0 0),(4, .str ([]:List UInt8)),(5,iL s3)],[.box [.str x0,iL s0]])) (fun s3 hy3=> ?_) (fun s3 h11=> ?_))
  ·exact kb 2 (kl (fun(s2:Int)=>([(0, .ptr 0 0),(1, .fn (.func 197) [] []),(4, .str ([]:List UInt8)),(5,iL s2)],[.box [.str x0,iL s0]])) hy3 [0,1,4,5] (fun s2 x555 hs1=>kcX hs1 (fun(s7:Unit)=>([(0, .ptr 0 0),(1, .fn (.func 197) [] []),(4, .str ([]:List UInt8)),(5,iL s2)],[.box [.str x0,iL s0]])) (fun y2 hy4 h12=>kcN hy4 (fun(s5:Bool)=>([(0, .ptr 0 0),(1, .fn (.func 197) [] []),(4, .str ([]:List UInt8)),(5,iL s2),(55, .bool s5)],[.box [.str x0,iL s0]])) (fun s5 hy5=>km 8 (kB 46 hy5 (fun h15=>kc 6 (kGb 53 h15 (fun h17=>kAb 54 h17 (fun _=>i0f) (fun y0 h18=>ke 1 (kNo h18 [0,1,4,5,55]))))) (fun h16=>ke 9 (kNo h16 [0,1,4,5,55])))) (fun s5 h14=>kBT 55 h14 (fun h19=>kK (kXo h19 [0,1,4,5])) (fun h20=>kEx 2 (kCx h20 h12 (fun h21=>kLx h21 (fun h22=>PJ.blockOut (kNo h22 [0,4,5]))))))) (fun s7 h13=>kb 3 (kM (PJ.blockNormal (kLo h13 [0,1,4,5]))))))
  ·refine kS (kDr (kD 9 ?_))
   obtain⟨hm,h23⟩:=a0Q h11
   exact kQ 67 (.str (cut x0 s0 s3)) [] (tr2:=[([],[]),([],[]),([],[]),([0,1],[]),([],[]),([],[]),([],[]),([0,1],[]),([],[]),([],[])]) hm (kD 1 (kEN (kX (by obtain rfl:=oi h23;exact kRV [0] (.inr rfl) H D W))))
def a0U(x0:List UInt8)(x1:Int):Option ((List UInt8)×Int):=
 (Option.bind (e0r x0 x1) fun y0=>(some (y0.1,y0.2)))
theorem e0M {x0:List UInt8} {x1:Int} {r:(List UInt8)×Int} (h:a0U x0 x1=some r):SQ 175 [.ptr 0 0] [.box [.str x0,iL x1]] (.str r.1) [.box [.str x0,iL r.2]]:=by
 refine kFn (fn:=Tryz.f175) (fun F H D W=> ?_)
 unfold a0U at h
 refine kq (kn 1 ?_)
 obtain⟨y0,hy0,h0⟩:=a0d h
 exact kCg (some 4) [0] (i0i hy0) (kr 1 (kX (by obtain rfl:=oi h0;exact kRV [0] (.inr rfl) H D W)))
def z0J:Go.Shelf.Ren:=⟨fun x=>match x with|217=>220|266=>229|n=>n,fun x=>x,fun x=>x⟩
theorem w0m:Lays.n217 Tryz.prog z0J:=by
 constructor<;>first|kernel_rfl|(intro w;kernel_rfl)|(intro w;rfl)
def stringslite_IndexByte(x0:List UInt8)(x1:Int):Option (Int):=
 (some (Lib.indexByte x0 x1.toNat.toUInt8))
theorem h0e {x0:List UInt8} {x1 r:Int} (h:stringslite_IndexByte x0 x1=some r):SQ 220 [.str x0, .int .u8 x1] [] (iL r) []:=by
 exact by obtain rfl:=oi h;exact SC.byteIdx (by kernel_rfl) (fun b c w=>Any.stringslite_IndexByte w0m b c w)
def d0V(x0 x1:List UInt8):Option (Int):=
 (Option.bind (bif(decide ((x1.length:Int)=0))then(some true)else(some (x1==x0))) fun(s0:Bool)=>(bif s0 then(some 0)else(bif(decide ((x1.length:Int)=1))then(bif inR 0 x1.length then(Option.bind (stringslite_IndexByte x0 ((((x1.getD (0:Int).toNat 0).toNat:Nat):Int))) fun y0=>(some y0))else none)else(bif(decide ((x1.length:Int)≥(x0.length:Int)))then(some (-1))else none))))
theorem j0w {x0 x1:List UInt8} {r:Int} (h:d0V x0 x1=some r):SQ 214 [.str x0, .str x1] [] (iL r) []:=by
 refine kFn (fn:=Tryz.f214) (fun F H D W=> ?_)
 unfold d0V at h
 refine kq (kq (kS (kb 0 (kcN h (fun(s0:Bool)=>([(0, .str x0),(1, .str x1),(4,iL 0),(5,iL (x1.length:Int)),(16, .bool s0)],[])) (fun s0 hy0=> ?_) (fun s0 h0=> ?_)))))
 ·exact km 3 (kB 19 hy0 (fun h1=>ke 5 (kNo h1 [0,1,4,5,16])) (fun h2=>ke 5 (kNo h2 [0,1,4,5,16])))
 ·refine kBT 16 h0 (fun h3=> ?_) (fun h4=> ?_)
  ·exact kq (kXp (by cases h3;exact kZ H D W))
  ·refine kq (kBT 24 h4 (fun h5=> ?_) (fun h6=> ?_))
   ·exact kn 2 (kGb 29 h5 (fun h7=>kAb 30 h7 (fun _=>h0e) (fun y0 h8=>kr 1 (kXp (by cases h8;exact kZ H D W)))))
   ·refine kq (kBT 31 h6 (fun h9=> ?_) (fun h10=> ?_))
    ·exact kq (kXp (by cases h9;exact kZ H D W))
    ·refine kSR ?_
     cases h10
def f0I(x0 x1:List UInt8):Option (Int):=
 (Option.bind (d0V x0 x1) fun y0=>(some y0))
theorem l0D {x0 x1:List UInt8} {r:Int} (h:f0I x0 x1=some r):SQ 209 [.str x0, .str x1] [] (iL r) []:=by
 refine kFn (fn:=Tryz.f209) (fun F H D W=> ?_)
 unfold f0I at h
 exact kq (kn 2 (kAb 7 h (fun _=>j0w) (fun y0 h0=>kr 1 (kX (by cases h0;exact kZ H D W)))))
def d0t(x0 x1:List UInt8):Option (Bool):=
 (Option.bind (f0I x0 x1) fun y0=>(some (decide (y0≥0))))
theorem j0U {x0 x1:List UInt8} {r:Bool} (h:d0t x0 x1=some r):SQ 205 [.str x0, .str x1] [] (.bool r) []:=by
 refine kFn (fn:=Tryz.f205) (fun F H D W=> ?_)
 unfold d0t at h
 exact kq (kn 2 (kAb 7 h (fun _=>l0D) (fun y0 h0=>kr 2 (kX (by cases h0;exact kZ H D W)))))
def b0c(x0:List UInt8)(x1 x2 x3:Int)(x4:Bool):Option (Bool×Int×Int):=
 (Option.bind (a0U x0 x1) fun y0=>(Option.bind (Option.bind (bif(decide (¬(y0.1.length:Int)=1))then(some true)else(Option.bind (d0t ([110,105,118,119,102,116,99,101]:List UInt8) y0.1) fun y1=>(some (!y1)))) fun(s0:Bool)=>(bif s0 then(some (.inr (false,y0.2,x2)))else(some (.inl ())))) (a0j fun(s1:Unit)=>(bif inR 0 y0.1.length then(some (true,(IntKind.wrap .i64 (y0.2+1)),(((y0.1.getD (0:Int).toNat 0).toNat:Nat):Int)))else none))))
theorem g0v {x0:List UInt8} {x1 x2 x3:Int} {x4:Bool} {r:Bool×Int×Int} (h:b0c x0 x1 x2 x3 x4=some r):SQ 192 [.ptr 0 0, .ptr 1 0] [.box [.str x0,iL x1], .box [.int .u8 x2,iL x3, .bool x4, .nl]] (.bool r.1) [.box [.str x0,iL r.2.1], .box [.int .u8 r.2.2,iL x3, .bool x4, .nl]]:=by
 refine kFn (fn:=Tryz.f192) (fun F H D W=> ?_)
 unfold b0c at h
 refine kq (kn 1 ?_)
 obtain⟨y0,hy0,h0⟩:=a0d h
 exact kCg (some 7) [0] (e0M hy0) (kr 1 (kcX h0 (fun(s1:Unit)=>([(0, .ptr 0 0),(1, .ptr 1 0),(4, .bool false),(5, .str y0.1)],[.box [.str x0,iL y0.2], .box [.int .u8 x2,iL x3, .bool x4, .nl]])) (fun y2 hy1 h1=>kcN hy1 (fun(s0:Bool)=>([(0, .ptr 0 0),(1, .ptr 1 0),(4, .bool false),(5, .str y0.1),(15, .bool s0)],[.box [.str x0,iL y0.2], .box [.int .u8 x2,iL x3, .bool x4, .nl]])) (fun s0 hy2=>km 4 (kB 11 hy2 (fun h4=>ke 4 (kNo h4 [0,1,4,5,15])) (fun h5=>kc 1 (kAb 13 h5 (fun _=>j0U) (fun y1 h6=>ke 2 (kNo h6 [0,1,4,5,15])))))) (fun s0 h3=>kBT 15 h3 (fun h7=>kq (kX (kCx h7 h1 (fun h9=>by obtain rfl:=oi h9;exact kRV [0,1] (.inr rfl) H D W)))) (fun h8=>kK (kXo h8 [0,1,4,5])))) (fun s1 h2=>kn 2 (kGb 18 h2 (fun h10=>kr 3 (kq (kq (kX (by obtain rfl:=oi h10;exact kRV [0,1] (.inr rfl) H D W)))))))))
def c0J(x0:Int):Option (Bool):=
 (some false)
theorem i0y {x0:Int} {r:Bool} (h:c0J x0=some r):SQ 210 [.int .u8 x0] [] (.bool r) []:=by
 refine kFn (fn:=Tryz.f210) (fun F H D W=> ?_)
 unfold c0J at h
 exact kq (kq (kX (by cases h;exact kZ H D W)))
def e0q(x0:List UInt8)(x1:Int):Option ((List UInt8)×Int):=
 (Option.bind (a0l (fun(s1:Int)=>(Option.bind (Option.bind (bif(decide (s1<(x0.length:Int)))then(bif inR s1 x0.length then(some ((decide (((((x0.getD (s1:Int).toNat 0).toNat:Nat):Int))=32))))else none)else(some false)) fun(s4:Bool)=>(bif s4 then(some (.inl ()))else(some (.inr (.inr s1))))) (a0j fun(s6:Unit)=>(some (.inl (IntKind.wrap .i64 (s1+1))))))) big x1) fun(s0:Int)=>(Option.bind (a0l (fun(s2:Int)=>(Option.bind (Option.bind (bif(decide (s2<(x0.length:Int)))then(bif inR s2 x0.length then(Option.bind (c0J ((((x0.getD (s2:Int).toNat 0).toNat:Nat):Int))) fun y0=>(some y0))else none)else(some false)) fun(s5:Bool)=>(bif s5 then(some (.inl ()))else(some (.inr (.inr s2))))) (a0j fun(s7:Unit)=>(some (.inl (IntKind.wrap .i64 (s2+1))))))) big s0) fun(s3:Int)=>(bif inS s0 s3 x0.length then(some ((cut x0 s0 s3),s0))else none)))
theorem i0h {x0:List UInt8} {x1:Int} {r:(List UInt8)×Int} (h:e0q x0 x1=some r):SQ 196 [.ptr 0 0, .fn (.func 210) [] []] [.box [.str x0,iL x1]] (.str r.1) [.box [.str x0,iL r.2]]:=by
 refine kFn (fn:=Tryz.f196) (fun F H D W=> ?_)
 unfold e0q at h
 refine kq (kcN h (fun(s0:Int)=>([(0, .ptr 0 0),(1, .fn (.func 210) [] []),(4, .str ([]:List UInt8))],[.box [.str x0,iL s0]])) (fun s0 hy0=> ?_) (fun s0 h0=> ?_))
 ·refine kb 0 (kl (fun(s1:Int)=>([(0, .ptr 0 0),(1, .fn (.func 210) [] []),(4, .str ([]:List UInt8))],[.box [.str x0,iL s1]])) hy0 [0,1,4] (fun s1 x226 hs0=>kcX hs0 (fun(s6:Unit)=>([(0, .ptr 0 0),(1, .fn (.func 210) [] []),(4, .str ([]:List UInt8))],[.box [.str x0,iL s1]])) (fun y1 hy1 h1=> ?_) (fun s6 h2=> ?_)))
  ·refine kcN hy1 (fun(s4:Bool)=>([(0, .ptr 0 0),(1, .fn (.func 210) [] []),(4, .str ([]:List UInt8)),(27, .bool s4)],[.box [.str x0,iL s1]])) (fun s4 hy2=> ?_) (fun s4 h3=> ?_)
   ·refine kDr (kD 11 (kB 16 hy2 (fun h4=> ?_) (fun h5=> ?_)))
    ·refine kD 8 ?_
     obtain⟨hm,h6⟩:=a0Q h4
     exact kQ 25 (.int .u8 (((x0.getD (s1:Int).toNat 0).toNat:Nat):Int)) [] (tr2:=[([],[]),([],[]),([],[]),([0,1],[]),([],[]),([],[]),([],[]),([0,1],[]),([],[]),([],[]),([],[]),([],[]),([],[]),([],[]),([0,1],[]),([],[]),([],[]),([],[]),([0,1],[]),([],[])]) hm (kD 2 (kE (kNo h6 [0,1,4,27])))
    ·exact kD 11 (kE (kNo h5 [0,1,4,27]))
   ·exact kBT 27 h3 (fun h7=>kK (kXo h7 [0,1,4])) (fun h8=>kEx 0 (kCx h8 h1 (fun h9=>kLx h9 (fun h10=>PJ.blockOut (kNo h10 [0,1,4])))))
  ·exact kb 1 (kM (PJ.blockNormal (kLo h2 [0,1,4])))
 ·refine kq (kcN h0 (fun(s3:Int)=>([(0, .ptr 0 0),(4, .str ([]:List UInt8)),(5,iL s3)],[.box [.str x0,iL s0]])) (fun s3 hy3=> ?_) (fun s3 h11=> ?_))
  ·exact kb 2 (kl (fun(s2:Int)=>([(0, .ptr 0 0),(1, .fn (.func 210) [] []),(4, .str ([]:List UInt8)),(5,iL s2)],[.box [.str x0,iL s0]])) hy3 [0,1,4,5] (fun s2 x555 hs1=>kcX hs1 (fun(s7:Unit)=>([(0, .ptr 0 0),(1, .fn (.func 210) [] []),(4, .str ([]:List UInt8)),(5,iL s2)],[.box [.str x0,iL s0]])) (fun y2 hy4 h12=>kcN hy4 (fun(s5:Bool)=>([(0, .ptr 0 0),(1, .fn (.func 210) [] []),(4, .str ([]:List UInt8)),(5,iL s2),(55, .bool s5)],[.box [.str x0,iL s0]])) (fun s5 hy5=>km 8 (kB 46 hy5 (fun h15=>kc 6 (kGb 53 h15 (fun h17=>kAb 54 h17 (fun _=>i0y) (fun y0 h18=>ke 1 (kNo h18 [0,1,4,5,55]))))) (fun h16=>ke 9 (kNo h16 [0,1,4,5,55])))) (fun s5 h14=>kBT 55 h14 (fun h19=>kK (kXo h19 [0,1,4,5])) (fun h20=>kEx 2 (kCx h20 h12 (fun h21=>kLx h21 (fun h22=>PJ.blockOut (kNo h22 [0,4,5]))))))) (fun s7 h13=>kb 3 (kM (PJ.blockNormal (kLo h13 [0,1,4,5]))))))
  ·refine kS (kDr (kD 9 ?_))
   obtain⟨hm,h23⟩:=a0Q h11
   exact kQ 67 (.str (cut x0 s0 s3)) [] (tr2:=[([],[]),([],[]),([],[]),([0,1],[]),([],[]),([],[]),([],[]),([0,1],[]),([],[]),([],[])]) hm (kD 1 (kEN (kX (by obtain rfl:=oi h23;exact kRV [0] (.inr rfl) H D W))))
def c0e(x0 x1:List UInt8):Option (Bool):=
 (Option.bind (bif(decide ((x0.length:Int)≥(x1.length:Int)))then(bif inS 0 (x1.length:Int) x0.length then(some (((cut x0 0 (x1.length:Int))==x1)))else none)else(some false)) fun(s0:Bool)=>(some s0))
theorem h0f {x0 x1:List UInt8} {r:Bool} (h:c0e x0 x1=some r):SQ 215 [.str x0, .str x1] [] (.bool r) []:=by
 refine kFn (fn:=Tryz.f215) (fun F H D W=> ?_)
 unfold c0e at h
 refine kq (kcN h (fun(s0:Bool)=>([(4, .bool s0)],[])) (fun s0 hy0=> ?_) (fun s0 h0=> ?_))
 ·refine km 6 (kB 10 hy0 (fun h1=> ?_) (fun h2=> ?_))
  ·refine kc 3 ?_
   obtain⟨hm,h3⟩:=a0Q h1
   exact kQ 14 (.str (cut x0 0 (x1.length:Int))) [] (tr2:=[]) hm (ke 4 (kNo h3 [4]))
  ·exact ke 8 (kNo h2 [4])
 ·exact kX (by cases h0;exact kZ H D W)
def c0s(x0 x1:List UInt8):Option (Bool):=
 (Option.bind (c0e x0 x1) fun y0=>(some y0))
theorem j0x {x0 x1:List UInt8} {r:Bool} (h:c0s x0 x1=some r):SQ 211 [.str x0, .str x1] [] (.bool r) []:=by
 refine kFn (fn:=Tryz.f211) (fun F H D W=> ?_)
 unfold c0s at h
 exact kq (kn 2 (kAb 7 h (fun _=>h0f) (fun y0 h0=>kr 1 (kX (by cases h0;exact kZ H D W)))))
def a0y(x0 x1:List UInt8)(x2:Int):Option (Bool×Int):=
 (Option.bind (e0q x1 x2) fun y0=>(bif inS y0.2 (x1.length:Int) x1.length then(Option.bind (c0s (cut x1 y0.2 (x1.length:Int)) x0) fun y1=>(bif(!y1)then(some (false,y0.2))else(some (true,(IntKind.wrap .i64 (y0.2+(x0.length:Int)))))))else none))
theorem b0Y {x0 x1:List UInt8} {x2:Int} {r:Bool×Int} (h:a0y x0 x1 x2=some r):SQ 206 [.ptr 0 0, .str x0] [.box [.str x1,iL x2]] (.bool r.1) [.box [.str x1,iL r.2]]:=by
 refine kFn (fn:=Tryz.f206) (fun F H D W=> ?_)
 unfold a0y at h
 refine kq (kn 1 ?_)
 obtain⟨y0,hy0,h0⟩:=a0d h
 refine kCg (some 6) [0] (i0h hy0) (kEN (kS (kS (kDr (kD 8 ?_)))))
 obtain⟨hm,h1⟩:=a0Q h0
 refine kQ 15 (.str (cut x1 y0.2 (x1.length:Int))) [] (tr2:=[([],[]),([],[]),([],[]),([0,1],[]),([],[]),([],[]),([],[]),([0,1],[]),([],[])]) hm (kD 1 ?_)
 obtain⟨y1,hy1,h2⟩:=a0d h1
 exact kC0 (some 17) [([],[]),([],[]),([],[]),([0,1],[]),([],[]),([],[]),([],[]),([0,1],[]),([],[]),([],[]),([],[2,3])] (j0x hy1) (kD 1 (kEN (kBT 18 h2 (fun h3=>kq (kX (PJ.passRet (by obtain rfl:=oi h3;exact kRV [0] (.inr rfl) H D W)))) (fun h4=>kKN (kq (kq (kX (by obtain rfl:=oi h4;exact kRV [0] (.inr rfl) H D W))))))))
def b0o(x0:Int):Option (Bool):=
 (Option.bind (bif(decide (48≤x0))then(some (decide (x0≤57)))else(some false)) fun(s0:Bool)=>(some s0))
theorem h0i {x0:Int} {r:Bool} (h:b0o x0=some r):SQ 212 [.int .u8 x0] [] (.bool r) []:=by
 refine kFn (fn:=Tryz.f212) (fun F H D W=> ?_)
 unfold b0o at h
 exact kq (kcN h (fun(s0:Bool)=>([(2, .bool s0)],[])) (fun s0 hy0=>km 3 (kB 5 hy0 (fun h1=>ke 4 (kNo h1 [2])) (fun h2=>ke 4 (kNo h2 [2])))) (fun s0 h0=>kX (by cases h0;exact kZ H D W)))
def e0p(x0:List UInt8)(x1:Int):Option ((List UInt8)×Int):=
 (Option.bind (a0l (fun(s1:Int)=>(Option.bind (Option.bind (bif(decide (s1<(x0.length:Int)))then(bif inR s1 x0.length then(some ((decide (((((x0.getD (s1:Int).toNat 0).toNat:Nat):Int))=32))))else none)else(some false)) fun(s4:Bool)=>(bif s4 then(some (.inl ()))else(some (.inr (.inr s1))))) (a0j fun(s6:Unit)=>(some (.inl (IntKind.wrap .i64 (s1+1))))))) big x1) fun(s0:Int)=>(Option.bind (a0l (fun(s2:Int)=>(Option.bind (Option.bind (bif(decide (s2<(x0.length:Int)))then(bif inR s2 x0.length then(Option.bind (b0o ((((x0.getD (s2:Int).toNat 0).toNat:Nat):Int))) fun y0=>(some y0))else none)else(some false)) fun(s5:Bool)=>(bif s5 then(some (.inl ()))else(some (.inr (.inr s2))))) (a0j fun(s7:Unit)=>(some (.inl (IntKind.wrap .i64 (s2+1))))))) big s0) fun(s3:Int)=>(bif inS s0 s3 x0.length then(some ((cut x0 s0 s3),s0))else none)))
theorem i0g {x0:List UInt8} {x1:Int} {r:(List UInt8)×Int} (h:e0p x0 x1=some r):SQ 196 [.ptr 0 0, .fn (.func 212) [] []] [.box [.str x0,iL x1]] (.str r.1) [.box [.str x0,iL r.2]]:=by
 refine kFn (fn:=Tryz.f196) (fun F H D W=> ?_)
 unfold e0p at h
 refine kq (kcN h (fun(s0:Int)=>([(0, .ptr 0 0),(1, .fn (.func 212) [] []),(4, .str ([]:List UInt8))],[.box [.str x0,iL s0]])) (fun s0 hy0=> ?_) (fun s0 h0=> ?_))
 ·refine kb 0 (kl (fun(s1:Int)=>([(0, .ptr 0 0),(1, .fn (.func 212) [] []),(4, .str ([]:List UInt8))],[.box [.str x0,iL s1]])) hy0 [0,1,4] (fun s1 x226 hs0=>kcX hs0 (fun(s6:Unit)=>([(0, .ptr 0 0),(1, .fn (.func 212) [] []),(4, .str ([]:List UInt8))],[.box [.str x0,iL s1]])) (fun y1 hy1 h1=> ?_) (fun s6 h2=> ?_)))
  ·refine kcN hy1 (fun(s4:Bool)=>([(0, .ptr 0 0),(1, .fn (.func 212) [] []),(4, .str ([]:List UInt8)),(27, .bool s4)],[.box [.str x0,iL s1]])) (fun s4 hy2=> ?_) (fun s4 h3=> ?_)
   ·refine kDr (kD 11 (kB 16 hy2 (fun h4=> ?_) (fun h5=> ?_)))
    ·refine kD 8 ?_
     obtain⟨hm,h6⟩:=a0Q h4
     exact kQ 25 (.int .u8 (((x0.getD (s1:Int).toNat 0).toNat:Nat):Int)) [] (tr2:=[([],[]),([],[]),([],[]),([0,1],[]),([],[]),([],[]),([],[]),([0,1],[]),([],[]),([],[]),([],[]),([],[]),([],[]),([],[]),([0,1],[]),([],[]),([],[]),([],[]),([0,1],[]),([],[])]) hm (kD 2 (kE (kNo h6 [0,1,4,27])))
    ·exact kD 11 (kE (kNo h5 [0,1,4,27]))
   ·exact kBT 27 h3 (fun h7=>kK (kXo h7 [0,1,4])) (fun h8=>kEx 0 (kCx h8 h1 (fun h9=>kLx h9 (fun h10=>PJ.blockOut (kNo h10 [0,1,4])))))
  ·exact kb 1 (kM (PJ.blockNormal (kLo h2 [0,1,4])))
 ·refine kq (kcN h0 (fun(s3:Int)=>([(0, .ptr 0 0),(4, .str ([]:List UInt8)),(5,iL s3)],[.box [.str x0,iL s0]])) (fun s3 hy3=> ?_) (fun s3 h11=> ?_))
  ·exact kb 2 (kl (fun(s2:Int)=>([(0, .ptr 0 0),(1, .fn (.func 212) [] []),(4, .str ([]:List UInt8)),(5,iL s2)],[.box [.str x0,iL s0]])) hy3 [0,1,4,5] (fun s2 x555 hs1=>kcX hs1 (fun(s7:Unit)=>([(0, .ptr 0 0),(1, .fn (.func 212) [] []),(4, .str ([]:List UInt8)),(5,iL s2)],[.box [.str x0,iL s0]])) (fun y2 hy4 h12=>kcN hy4 (fun(s5:Bool)=>([(0, .ptr 0 0),(1, .fn (.func 212) [] []),(4, .str ([]:List UInt8)),(5,iL s2),(55, .bool s5)],[.box [.str x0,iL s0]])) (fun s5 hy5=>km 8 (kB 46 hy5 (fun h15=>kc 6 (kGb 53 h15 (fun h17=>kAb 54 h17 (fun _=>h0i) (fun y0 h18=>ke 1 (kNo h18 [0,1,4,5,55]))))) (fun h16=>ke 9 (kNo h16 [0,1,4,5,55])))) (fun s5 h14=>kBT 55 h14 (fun h19=>kK (kXo h19 [0,1,4,5])) (fun h20=>kEx 2 (kCx h20 h12 (fun h21=>kLx h21 (fun h22=>PJ.blockOut (kNo h22 [0,4,5]))))))) (fun s7 h13=>kb 3 (kM (PJ.blockNormal (kLo h13 [0,1,4,5]))))))
  ·refine kS (kDr (kD 9 ?_))
   obtain⟨hm,h23⟩:=a0Q h11
   exact kQ 67 (.str (cut x0 s0 s3)) [] (tr2:=[([],[]),([],[]),([],[]),([0,1],[]),([],[]),([],[]),([],[]),([0,1],[]),([],[]),([],[])]) hm (kD 1 (kEN (kX (by obtain rfl:=oi h23;exact kRV [0] (.inr rfl) H D W))))
def a0z(x0:Int)(x1:List UInt8)(x2:Int):Option (Int×Bool×Int):=
 (Option.bind (e0p x1 x2) fun y0=>(Option.bind (Option.bind (bif(decide ((y0.1.length:Int)=0))then(some true)else(bif(decide ((y0.1.length:Int)>9))then(some true)else(bif(decide ((y0.1.length:Int)>1))then(bif inR 0 y0.1.length then(some ((decide (((((y0.1.getD (0:Int).toNat 0).toNat:Nat):Int))=48))))else none)else(some false)))) fun(s2:Bool)=>(bif s2 then(some (.inr (0,false,y0.2)))else(some (.inl ())))) (a0j fun(s3:Unit)=>(Option.bind (a0l (fun(s0:Int×Int)=>(bif(decide (s0.2<((a0k y0.1).length:Int)))then(bif inR s0.2 (a0k y0.1).length then(some (.inl ((IntKind.wrap .i64 ((IntKind.wrap .i64 (s0.1*10))+((IntKind.wrap .i64 ((IntKind.wrap .u8 ((nth (a0k y0.1) s0.2)-48))))))),(IntKind.wrap .i64 (s0.2+1)))))else none)else(some (.inr s0.1)))) big (0,0)) fun(s1:Int)=>(bif(decide (s1<x0))then(some (0,false,y0.2))else(some (s1,true,(IntKind.wrap .i64 (y0.2+(y0.1.length:Int))))))))))
theorem c0W {x0:Int} {x1:List UInt8} {x2:Int} {r:Int×Bool×Int} (h:a0z x0 x1 x2=some r):SQ 207 [.ptr 0 0,iL x0] [.box [.str x1,iL x2]] (.tup [iL r.1, .bool r.2.1]) [.box [.str x1,iL r.2.2]]:=by
 refine kFn (fn:=Tryz.f207) (fun F H D W=> ?_)
 unfold a0z at h
 refine kq (kn 1 ?_)
 obtain⟨y0,hy0,h0⟩:=a0d h
 exact kCg (some 11) [0] (i0g hy0) (kr 1 (kcX h0 (fun(s3:Unit)=>([(0, .ptr 0 0),(1,iL x0),(4,iL 0),(5, .bool false),(6, .str y0.1)],[.box [.str x1,iL y0.2]])) (fun y1 hy1 h1=>kcN hy1 (fun(s2:Bool)=>([(0, .ptr 0 0),(1,iL x0),(4,iL 0),(5, .bool false),(6, .str y0.1),(29, .bool s2)],[.box [.str x1,iL y0.2]])) (fun s2 hy2=>km 4 (kB 15 hy2 (fun h4=>ke 14 (kNo h4 [0,1,4,5,6,29])) (fun h5=>kc 5 (kB 20 h5 (fun h6=>ke 9 (kNo h6 [0,1,4,5,6,29])) (fun h7=>kc 4 (kB 24 h7 (fun h8=>kc 1 (kGb 26 h8 (fun h10=>ke 3 (kNo h10 [0,1,4,5,6,29])))) (fun h9=>ke 5 (kNo h9 [0,1,4,5,6,29])))))))) (fun s2 h3=>kBT 29 h3 (fun h11=>kq (kX (kCx h11 h1 (fun h13=>by obtain rfl:=oi h13;exact kRV [0] (.inr rfl) H D W)))) (fun h12=>kK (kXo h12 [0,1,4,5,6])))) (fun s3 h2=>kq (kcN h2 (fun(s1:Int)=>([(0, .ptr 0 0),(1,iL x0),(4,iL 0),(5, .bool false),(6, .str y0.1),(7,iL s1)],[.box [.str x1,iL y0.2]])) (fun s1 hy3=>kn 1 (RJ.rel (d:=(some 31)) (ef:=⟨.lst y0.1.length 1 (y0.1.map f0a),[],[]⟩) (ef':=⟨lB (a0k y0.1),[],[]⟩) (c:=true) (tr2:=[]) (H2:=[.box [.str x1,iL y0.2]]) (by kernel_rfl) rfl (fun hc=>N.toBytes) (by kernel_rfl) (kr 2 (kb 0 (kl (fun(s0:Int×Int)=>([(0, .ptr 0 0),(1,iL x0),(4,iL 0),(5, .bool false),(6, .str y0.1),(7,iL s0.1),(31,lB (a0k y0.1)),(32,iL ((a0k y0.1).length:Int)),(33,iL s0.2)],[.box [.str x1,iL y0.2]])) hy3 [0,1,4,5,6,7,31,32,33] (fun s0 x107 hs0=>kq (kS (kBT 34 hs0 (fun h15=>kKN (kS (kb 1 (kSR (kIb 35 (a0x .u8) h15 (fun h17=>kr 2 (kM (PJ.blockNormal (PJ.next (kM (kLo h17 [0,1,4,5,6,7,31,32,33]))))))))))) (fun h16=>kEp 0 (kLx h16 (fun h18=>PJ.blockOut (kNo h18 [0,1,4,5,6,7])))))))))))) (fun s1 h14=>kS (kq (kBT 46 h14 (fun h19=>kq (kX (PJ.passRet (by obtain rfl:=oi h19;exact kRV [0] (.inr rfl) H D W)))) (fun h20=>kKN (kq (kq (kX (by obtain rfl:=oi h20;exact kRV [0] (.inr rfl) H D W))))))))))))
def b0H(x0:List UInt8)(x1 x2 x3:Int)(x4:Bool):Option (Bool×Int×Int):=
 (Option.bind (a0y ([37]:List UInt8) x0 x1) fun y0=>(bif(!y0.1)then(some (true,y0.2,x3))else(Option.bind (a0z 1 x0 y0.2) fun y1=>(some (y1.2.1,y1.2.2,y1.1)))))
theorem i0j {x0:List UInt8} {x1 x2 x3:Int} {x4:Bool} {r:Bool×Int×Int} (h:b0H x0 x1 x2 x3 x4=some r):SQ 193 [.ptr 0 0, .ptr 1 0] [.box [.str x0,iL x1], .box [.int .u8 x2,iL x3, .bool x4, .nl]] (.bool r.1) [.box [.str x0,iL r.2.1], .box [.int .u8 x2,iL r.2.2, .bool x4, .nl]]:=by
 refine kFn (fn:=Tryz.f193) (fun F H D W=> ?_)
 unfold b0H at h
 refine kq (kS (kn 1 ?_))
 obtain⟨y0,hy0,h0⟩:=a0d h
 refine kCg (some 7) [0] (b0Y hy0) (kr 1 (kBT 8 h0 (fun h1=> ?_) (fun h2=> ?_)))
 ·exact kq (kX (PJ.passRet (by obtain rfl:=oi h1;exact kRV [0,1] (.inr rfl) H D W)))
 ·refine kKN (kq (kn 2 ?_))
  obtain⟨y1,hy1,h3⟩:=a0d h2
  exact kCg (some 12) [0] (c0W hy1) (kr 7 (kq (kX (by obtain rfl:=oi h3;exact kRV [0,1] (.inr rfl) H D W))))
def b0v(x0:List UInt8)(x1 x2 x3:Int)(x4:Bool):Option (Bool×Int×Bool):=
 (Option.bind (a0y ([61]:List UInt8) x0 x1) fun y0=>(bif y0.1 then(some (true,y0.2,x4))else(Option.bind (a0y ([33,61]:List UInt8) x0 y0.2) fun y1=>(some (y1.1,y1.2,y1.1)))))
theorem h0E {x0:List UInt8} {x1 x2 x3:Int} {x4:Bool} {r:Bool×Int×Bool} (h:b0v x0 x1 x2 x3 x4=some r):SQ 194 [.ptr 0 0, .ptr 1 0] [.box [.str x0,iL x1], .box [.int .u8 x2,iL x3, .bool x4, .nl]] (.bool r.1) [.box [.str x0,iL r.2.1], .box [.int .u8 x2,iL x3, .bool r.2.2, .nl]]:=by
 refine kFn (fn:=Tryz.f194) (fun F H D W=> ?_)
 unfold b0v at h
 refine kq (kS (kn 1 ?_))
 obtain⟨y0,hy0,h0⟩:=a0d h
 refine kCg (some 6) [0] (b0Y hy0) (kEN (kBT 6 h0 (fun h1=> ?_) (fun h2=> ?_)))
 ·exact kq (kX (PJ.passRet (by obtain rfl:=oi h1;exact kRV [0,1] (.inr rfl) H D W)))
 ·refine kKN (kn 2 ?_)
  obtain⟨y1,hy1,h3⟩:=a0d h2
  exact kCg (some 9) [0] (b0Y hy1) (kr 3 (kq (kX (by obtain rfl:=oi h3;exact kRV [0,1] (.inr rfl) H D W))))
def b0j(x0:List UInt8)(x1 x2 x3:Int)(x4:Bool):Option (Bool×Int×(List a0T)):=
 (a0l (fun(s1:Int×(List a0T))=>(Option.bind (a0z 0 x0 s1.1) fun y0=>(Option.bind (Option.bind (bif y0.2.1 then(Option.bind (a0y ([46,46]:List UInt8) x0 y0.2.2) fun y3=>(some (y3.1,y3.2)))else(some (false,y0.2.2))) fun(s2:Bool×Int)=>(bif s2.1 then(Option.bind (a0z (IntKind.wrap .i64 (y0.1+1)) x0 s2.2) fun y1=>(some (y1.2.1,y1.1,y1.2.2)))else(some (y0.2.1,y0.1,s2.2)))) fun(s0:Bool×Int×Int)=>(bif(!s0.1)then(some (.inr (false,s0.2.2,s1.2)))else(bif room (s1.2.length+([(⟨y0.1,s0.2.1⟩:a0T)]:List a0T).length)then(Option.bind (a0y ([44]:List UInt8) x0 s0.2.2) fun y2=>(bif(!y2.1)then(some (.inr (true,y2.2,(s1.2++([(⟨y0.1,s0.2.1⟩:a0T)]:List a0T)))))else(some (.inl (y2.2,(s1.2++([(⟨y0.1,s0.2.1⟩:a0T)]:List a0T)))))))else none))))) big (x1,([]:List a0T)))
theorem g0O {x0:List UInt8} {x1 x2 x3:Int} {x4:Bool} {r:Bool×Int×(List a0T)} (h:b0j x0 x1 x2 x3 x4=some r):SQ 195 [.ptr 0 0, .ptr 1 0] [.box [.str x0,iL x1], .box [.int .u8 x2,iL x3, .bool x4, .nl]] (.bool r.1) [.box [.str x0,iL r.2.1], .box [.int .u8 x2,iL x3, .bool x4, .vc 2],a0A a0H 2 185 r.2.2]:=by
 refine kFn (fn:=Tryz.f195) (fun F H D W=> ?_)
 unfold b0j at h
 refine kq (kb 0 (J.wk (Wk.vivBox 1 3 2 185 (cs:=[.int .u8 x2,iL x3, .bool x4, .nl]) (by kernel_rfl) (by kernel_rfl)) (kl (fun(s1:Int×(List a0T))=>([(0, .ptr 0 0),(1, .ptr 1 0),(4, .bool false)],[.box [.str x0,iL s1.1], .box [.int .u8 x2,iL x3, .bool x4, .vc 2],a0A a0H 2 185 s1.2])) h [0,1,4] (fun s1 x139 hs0=>kb 1 (kn 1 ?_)))))
 obtain⟨y0,hy0,h0⟩:=a0d hs0
 refine kCg (some 10) [0] (c0W hy0) (kr 5 (kq (kcN h0 (fun(s0:Bool×Int×Int)=>([(0, .ptr 0 0),(1, .ptr 1 0),(4, .bool false),(5,iL y0.1),(6, .bool s0.1),(7,iL s0.2.1)],[.box [.str x0,iL s0.2.2], .box [.int .u8 x2,iL x3, .bool x4, .vc 2],a0A a0H 2 185 s1.2])) (fun s0 hy1=> ?_) (fun s0 h1=> ?_))))
 ·refine kcN hy1 (fun(s2:Bool×Int)=>([(0, .ptr 0 0),(1, .ptr 1 0),(4, .bool false),(5,iL y0.1),(6, .bool y0.2.1),(7,iL y0.1),(18, .bool s2.1)],[.box [.str x0,iL s2.2], .box [.int .u8 x2,iL x3, .bool x4, .vc 2],a0A a0H 2 185 s1.2])) (fun s2 hy2=> ?_) (fun s2 h2=> ?_)
  ·refine km 2 (kB 15 hy2 (fun h3=> ?_) (fun h4=> ?_))
   ·refine kc 1 ?_
    obtain⟨y3,hy3,h5⟩:=a0d h3
    exact kCg (some 17) [0] (b0Y hy3) (ke 1 (kNo h5 [0,1,4,5,6,7,18]))
   ·exact ke 3 (kNo h4 [0,1,4,5,6,7,18])
  ·refine kBT 18 h2 (fun h6=> ?_) (fun h7=> ?_)
   ·refine km 3 ?_
    obtain⟨y1,hy4,h8⟩:=a0d h6
    exact kCg (some 23) [0] (c0W hy4) (ke 5 (kNo h8 [0,1,4,5,6,7]))
   ·exact kK (kNo h7 [0,1,4,5,6,7])
 ·refine kS (kq (kBT 27 h1 (fun h9=> ?_) (fun h10=> ?_)))
  ·exact kq (kX (PJ.passRet (PJ.blockRet (kLx h9 (fun h11=>PJ.blockRet (by obtain rfl:=oi h11;exact kRV [0,1,2] (.inr rfl) H D W))))))
  ·refine kKN (kn 9 (kAp 37 2 4 2 185 [2,3] a0H h10 (fun h12=>kr 3 (kn 1 ?_))))
   obtain⟨y2,hy5,h13⟩:=a0d h12
   exact kCg (some 41) [0] (b0Y hy5) (kr 1 (kBT 42 h13 (fun h14=>kq (kXb (kLx h14 (fun h16=>PJ.blockRet (by obtain rfl:=oi h16;exact kRV [0,1,4] (.inr rfl) H D W))))) (fun h15=>kKb (kLW h15 D W [0,1,4]))))
def a0N(x0:List UInt8)(x1:Int):Option (a0e×Bool×Int):=
 (Option.bind (Option.bind (Option.bind (b0c x0 x1 0 0 false) fun y0=>(bif y0.1 then(Option.bind (b0H x0 y0.2.1 y0.2.2 0 false) fun y1=>(bif y1.1 then(Option.bind (b0v x0 y1.2.1 y0.2.2 y1.2.2 false) fun y2=>(bif y2.1 then(Option.bind (b0j x0 y2.2.1 y0.2.2 y1.2.2 y2.2.2) fun y3=>(some (y3.1,y3.2.1,y0.2.2,y1.2.2,y2.2.2,y3.2.2)))else(some (false,y2.2.1,y0.2.2,y1.2.2,y2.2.2,([]:List a0T)))))else(some (false,y1.2.1,y0.2.2,y1.2.2,false,([]:List a0T)))))else(some (false,y0.2.1,y0.2.2,0,false,([]:List a0T))))) fun(s0:Bool×Int×Int×Int×Bool×(List a0T))=>(bif s0.1 then(some (.inr ((⟨s0.2.2.1,s0.2.2.2.1,s0.2.2.2.2.1,s0.2.2.2.2.2⟩:a0e),true,s0.2.1)))else(some (.inl s0.2.1)))) (a0j fun(s1:Int)=>(some ((⟨0,0,false,([]:List a0T)⟩:a0e),false,s1))))
theorem g0c {x0:List UInt8} {x1:Int} {r:a0e×Bool×Int} (h:a0N x0 x1=some r):SQ 174 [.ptr 0 0] [.box [.str x0,iL x1]] (.tup [.agg (a0b r.1), .bool r.2.1]) [.box [.str x0,iL r.2.2]]:=by
 refine kFn (fn:=Tryz.f174) (fun F H D W=> ?_)
 unfold a0N at h
 refine kq (kq (kcX h (fun(s1:Int)=>([(2, .ptr 1 0),(3, .bool false)],[.box [.str x0,iL s1], .box [.int .u8 0,iL 0, .bool false, .nl]])) (fun y4 hy0 h0=> ?_) (fun s1 h1=> ?_)))
 ·refine kcN hy0 (fun(s0:Bool×Int×Int×Int×Bool×(List a0T))=>([(2, .ptr 1 0),(3, .bool false),(4, .ptr 2 0),(18, .bool s0.1)],[.box [.str x0,iL s0.2.1], .box [.int .u8 0,iL 0, .bool false, .nl], .box [.int .u8 s0.2.2.1,iL s0.2.2.2.1, .bool s0.2.2.2.2.1, .vc 3],a0A a0H 2 185 s0.2.2.2.2.2])) (fun s0 hy1=> ?_) (fun s0 h2=> ?_)
  ·refine km 1 ?_
   obtain⟨y0,hy2,h3⟩:=a0d hy1
   refine kCg (some 6) [0,2] (g0v hy2) (kc 1 (kB 7 h3 (fun h4=> ?_) (fun h5=> ?_)))
   ·refine kc 1 ?_
    obtain⟨y1,hy3,h6⟩:=a0d h4
    refine kCg (some 9) [0,2] (i0j hy3) (kc 2 (kB 11 h6 (fun h7=> ?_) (fun h8=> ?_)))
    ·refine kc 1 ?_
     obtain⟨y2,hy4,h9⟩:=a0d h7
     refine kCg (some 13) [0,2] (h0E hy4) (kc 2 (kB 15 h9 (fun h10=> ?_) (fun h11=> ?_)))
     ·refine RJ.seg 1 [2,3,4,15,16] (L2:=[(2, .ptr 1 0),(3, .bool false),(4, .ptr 2 0),(15, .bool true),(16, .ptr 0 0)]) (H2:=[.box [.str x0,iL y2.2.1], .box [.int .u8 0,iL 0, .bool false, .nl], .box [.int .u8 y0.2.2,iL y1.2.2, .bool y2.2.2, .nl]]) (by kernel_rfl) ?_
      obtain⟨y3,hy5,h12⟩:=a0d h10
      exact kCg (some 17) [0,2] (g0O hy5) (ke 1 (kNo h12 [2,3,4,18]))
     ·exact RJ.seg 3 [2,3,4,18] (L2:=[(2, .ptr 1 0),(3, .bool false),(4, .ptr 2 0),(18, .bool false)]) (H2:=[.box [.str x0,iL y2.2.1], .box [.int .u8 0,iL 0, .bool false, .nl], .box [.int .u8 y0.2.2,iL y1.2.2, .bool y2.2.2, .nl]]) (by kernel_rfl) (kE (PJ.wk (Wk.vivBox 2 3 2 185 (cs:=[.int .u8 y0.2.2,iL y1.2.2, .bool y2.2.2, .nl]) (by kernel_rfl) (by kernel_rfl)) (kNo h11 [2,3,4,18])))
    ·exact ke 7 (PJ.wk (Wk.vivBox 2 3 2 185 (cs:=[.int .u8 y0.2.2,iL y1.2.2, .bool false, .nl]) (by kernel_rfl) (by kernel_rfl)) (kNo h8 [2,3,4,18]))
   ·exact ke 11 (PJ.wk (Wk.vivBox 2 3 2 185 (cs:=[.int .u8 y0.2.2,iL 0, .bool false, .nl]) (by kernel_rfl) (by kernel_rfl)) (kNo h5 [2,3,4,18]))
  ·exact kBT 18 h2 (fun h13=>kq (kX (kCx h13 h0 (fun h15=>by obtain rfl:=oi h15;exact PJ.wk (Wk.freeze 3 (n:=s0.2.2.2.2.2.length) (k:=2) (e:=185) (cs:=s0.2.2.2.2.2.flatMap a0H) (by kernel_rfl)) (kRV [0] (.inr rfl) H D W))))) (fun h14=>kK (kXW h14 D W [0,1]))
 ·exact kq (kX (by obtain rfl:=oi h1;exact PJ.res (v1:= .tup [.agg [.int .u8 0,iL 0, .bool false, .nl], .bool false]) (Le.tup (.cons (Le.agg (.cons (Le.refl _) (.cons (Le.refl _) (.cons (Le.refl _) (.cons (Le.nl _) .nil))))) (LeL.refl _))) (kRV [0] (.inr rfl) H D W)))
def b0w(x0:List UInt8)(x1:Int):Option ((List (List a0e))×Bool×Int):=
 (Option.bind (a0l (fun(s0:Int×(List (List a0e))×(List a0e))=>(Option.bind (a0N x0 s0.1) fun y0=>(bif(!y0.2.1)then(some (.inr (.inr (([]:List (List a0e)),false,y0.2.2))))else(bif room (s0.2.2.length+([y0.1]:List a0e).length)then(Option.bind (a0U x0 y0.2.2) fun y1=>(bif(y1.1==([97,110,100]:List UInt8))then(some (.inl ((IntKind.wrap .i64 (y1.2+(y1.1.length:Int))),s0.2.1,(s0.2.2++([y0.1]:List a0e)))))else(bif(y1.1==([111,114]:List UInt8))then(bif room (s0.2.1.length+(([(s0.2.2++([y0.1]:List a0e))]:List (List a0e))).length)then(some (.inl ((IntKind.wrap .i64 (y1.2+(y1.1.length:Int))),(s0.2.1++(([(s0.2.2++([y0.1]:List a0e))]:List (List a0e)))),([]:List a0e))))else none)else(some (.inr (.inl (y1.2,s0.2.1,(s0.2.2++([y0.1]:List a0e)))))))))else none)))) big (x1,([]:List (List a0e)),([]:List a0e))) (a0j fun(s1:Int×(List (List a0e))×(List a0e))=>(bif room (s1.2.1.length+([s1.2.2]:List (List a0e)).length)then(some ((s1.2.1++([s1.2.2]:List (List a0e))),(decide (s1.1=(x0.length:Int))),s1.1))else none)))
theorem h0F {x0:List UInt8} {x1:Int} {r:(List (List a0e))×Bool×Int} (h:b0w x0 x1=some r):SQ 154 [.ptr 0 0] [.box [.str x0,iL x1]] (.tup [lsv (c0q a0b 4) 1 r.1, .bool r.2.1]) [.box [.str x0,iL r.2.2]]:=by
 refine kFn (fn:=Tryz.f154) (fun F H D W=> ?_)
 unfold b0w at h
 refine kq (K.scope (by kernel_rfl) (kq (kq (kS (K.label (by kernel_rfl) (PJ.next (kcX h (fun(s1:Int×(List (List a0e))×(List a0e))=>([(0, .ptr 0 0),(2, .nl),(3, .bool false),(4, .vc 1),(5, .vc 2)],[.box [.str x0,iL s1.1],a0A (c0q a0b 4) 1 148 s1.2.1,a0A a0b 4 151 s1.2.2])) (fun y2 hy0 h0=> ?_) (fun s1 h1=> ?_))))))))
 ·refine kb 0 (J.wk (Wk.viv 4 1 148 (by kernel_rfl)) (J.wk (Wk.viv 5 4 151 (by kernel_rfl)) (kl (fun(s0:Int×(List (List a0e))×(List a0e))=>([(0, .ptr 0 0),(2, .nl),(3, .bool false),(4, .vc 1),(5, .vc 2)],[.box [.str x0,iL s0.1],a0A (c0q a0b 4) 1 148 s0.2.1,a0A a0b 4 151 s0.2.2])) hy0 [0,2,3,4,5] (fun s0 x121 hs0=>kb 1 (kn 1 ?_)))))
  obtain⟨y0,hy1,h2⟩:=a0d hs0
  refine kCg (some 11) [0] (g0c hy1) (kr 6 (kS (kq (kBT 15 h2 (fun h3=> ?_) (fun h4=> ?_)))))
  ·exact kq (kX (PJ.passRet (PJ.blockRet (kLx h3 (fun h5=>PJ.blockRet (kCx h5 h0 (fun h6=>PJ.scR (by obtain rfl:=oi h6;exact PJ.res (v1:= .tup [.nl, .bool false]) (Le.tup (.cons (Le.nl _) (LeL.refl _))) (kRV [0] (.inr rfl) H D W)))))))))
  ·refine kKN (kn 3 (kAp 19 2 5 4 151 [2,4] a0b h4 (fun h7=>kr 1 (kn 1 ?_))))
   obtain⟨y1,hy2,h8⟩:=a0d h7
   refine kCg (some 21) [0] (e0M hy2) (kr 1 (kq (kb 2 (kSR (RJ.seg 2 [0,2,3,4,5,8,22,23] (L2:=[(0, .ptr 0 0),(2, .nl),(3, .bool false),(4, .vc 1),(5, .vc 5),(8, .str y1.1),(22, .str y1.1),(23, .bool (y1.1==([97,110,100]:List UInt8)))]) (H2:=[.box [.str x0,iL y1.2],a0A (c0q a0b 4) 1 148 s0.2.1, .gone, .box (a0b y0.1),a0A a0b 4 151 ([y0.1]:List a0e),a0A a0b 4 151 (s0.2.2++([y0.1]:List a0e))]) (by kernel_rfl) (kEN (kBT 23 h8 (fun h9=> ?_) (fun h10=> ?_))))))))
   ·exact kM (PJ.blockNormal (PJ.blockNormal (kLW h9 D W [0,1,5])))
   ·refine kq (kBT 34 h10 (fun h11=> ?_) (fun h12=> ?_))
    ·refine kq (kn 2 (RJ.wk (Wk.freeze 5 (n:=(s0.2.2++([y0.1]:List a0e)).length) (k:=4) (e:=151) (cs:=(s0.2.2++([y0.1]:List a0e)).flatMap a0b) (by kernel_rfl)) (kc 1 ?_)))
     obtain⟨hm,h13⟩:=a0Q h11
     exact RJ.rel (d:=(some 48)) (ef:=⟨.vc 7,[1,6],[(1, .gone),(7, .vec (s0.2.1.length+(([(s0.2.2++([y0.1]:List a0e))]:List (List a0e))).length) 1 148 (s0.2.1.flatMap (c0q a0b 4)++(([(s0.2.2++([y0.1]:List a0e))]:List (List a0e))).flatMap (c0q a0b 4)))]⟩) (ef':=⟨.vc 7,[1,6],[(1, .gone),(7,a0A (c0q a0b 4) 1 148 (s0.2.1++(([(s0.2.2++([y0.1]:List a0e))]:List (List a0e)))))]⟩) (c:=room (s0.2.1.length+(([(s0.2.2++([y0.1]:List a0e))]:List (List a0e))).length)) (tr2:=[]) (H2:=[.box [.str x0,iL ((IntKind.wrap .i64 (y1.2+(y1.1.length:Int))))], .gone, .gone, .box (a0b y0.1),a0A a0b 4 151 ([y0.1]:List a0e), .gone,a0A (c0q a0b 4) 1 148 (([(s0.2.2++([y0.1]:List a0e))]:List (List a0e))),a0A (c0q a0b 4) 1 148 ((s0.2.1++(([(s0.2.2++([y0.1]:List a0e))]:List (List a0e)))))]) (by kernel_rfl) hm (fun hc=>N.app) (by kernel_rfl) (kr 1 (kM (PJ.blockNormal (PJ.blockNormal (PJ.wk (Wk.viv 5 4 151 (by kernel_rfl)) (kLW h13 D W [0,7,8]))))))
    ·exact kEx 0 (PJ.blockPass (by kernel_rfl) (PJ.blockPass (by kernel_rfl) (kLx h12 (fun h14=>PJ.blockOut (kXW h14 D W [0,1,5])))))
 ·refine kS (J.wk (Wk.freeze 2 (n:=s1.2.2.length) (k:=4) (e:=151) (cs:=s1.2.2.flatMap a0b) (by kernel_rfl)) (kDr (kD 3 ?_)))
  obtain⟨hm,h15⟩:=a0Q h1
  exact RJ.rel (d:=(some 52)) (ef:=⟨.vc 4,[1,3],[(1, .gone),(4, .vec (s1.2.1.length+([s1.2.2]:List (List a0e)).length) 1 148 (s1.2.1.flatMap (c0q a0b 4)++([s1.2.2]:List (List a0e)).flatMap (c0q a0b 4)))]⟩) (ef':=⟨.vc 4,[1,3],[(1, .gone),(4,a0A (c0q a0b 4) 1 148 (s1.2.1++([s1.2.2]:List (List a0e))))]⟩) (c:=room (s1.2.1.length+([s1.2.2]:List (List a0e)).length)) (tr2:=[([],[]),([],[]),([],[6,7,6,7]),([2,3,6,7],[2,3,8,9,8,9])]) (H2:=[.box [.str x0,iL s1.1], .gone, .gone,a0A (c0q a0b 4) 1 148 ([s1.2.2]:List (List a0e)),a0A (c0q a0b 4) 1 148 ((s1.2.1++([s1.2.2]:List (List a0e))))]) (by kernel_rfl) hm (fun hc=>N.app) (by kernel_rfl) (kD 12 (kEN (kX (PJ.scR (by obtain rfl:=oi h15;exact PJ.wk (Wk.freeze 4 (n:=((s1.2.1++([s1.2.2]:List (List a0e)))).length) (k:=1) (e:=148) (cs:=((s1.2.1++([s1.2.2]:List (List a0e)))).flatMap (c0q a0b 4)) (by kernel_rfl)) (kRV [0] (.inr rfl) H D W))))))
def d0l(x0:List (List a0e)):Option (Bool):=
 (Option.bind (a0l (fun(s0:Int×Int)=>(bif(decide (s0.2<(x0.length:Int)))then(Option.bind (bif inR s0.2 x0.length then(a0l (fun(s1:Int)=>(bif(decide (s1<((nth x0 s0.2).length:Int)))then(bif inR s1 (nth x0 s0.2).length then(bif(decide (((((nth (nth x0 s0.2) s1).R_).length:Int))>20))then(some (.inr (.inr (.inr (.inr true)))))else(some (.inl (IntKind.wrap .i64 (s1+1)))))else none)else(some (.inr (.inl ()))))) big 0)else none) (a0j fun(s3:Unit)=>(some (.inl ((IntKind.wrap .i64 (s0.1+((nth x0 s0.2).length:Int))),(IntKind.wrap .i64 (s0.2+1)))))))else(some (.inr (.inl s0.1))))) big (0,0)) (a0j fun(s2:Int)=>(some (decide (s2>20)))))
theorem m0g {x0:List (List a0e)} {r:Bool} (h:d0l x0=some r):SQ 155 [lsv (c0q a0b 4) 1 x0] [] (.bool r) []:=by
 refine kFn (fn:=Tryz.f155) (fun F H D W=> ?_)
 unfold d0l at h
 exact kq (kq (kcX h (fun(s2:Int)=>([(2, .bool false),(3,iL s2)],[])) (fun y0 hy0 h0=>kq (kb 0 (kl (fun(s0:Int×Int)=>([(2, .bool false),(3,iL s0.1),(8,lsv (c0q a0b 4) 1 x0),(9,iL (x0.length:Int)),(10,iL s0.2)],[])) hy0 [2,3,8,9,10] (fun s0 x551 hs0=>kq (kS (kBT 11 hs0 (fun h2=>kKN (kcX h2 (fun(s3:Unit)=>([(2, .bool false),(3,iL ((IntKind.wrap .i64 (s0.1+((nth x0 s0.2).length:Int))))),(8,lsv (c0q a0b 4) 1 x0),(9,iL (x0.length:Int)),(10,iL s0.2)],[])) (fun y1 hy1 h4=>kb 1 (kSR (kIb 12 (e0Z a0b 4) hy1 (fun h6=>kr 2 (kq (kq (kb 2 (kl (fun(s1:Int)=>([(2, .bool false),(3,iL ((IntKind.wrap .i64 (s0.1+((nth x0 s0.2).length:Int))))),(8,lsv (c0q a0b 4) 1 x0),(9,iL (x0.length:Int)),(10,iL s0.2),(18,lsv a0b 4 (nth x0 s0.2)),(19,iL ((nth x0 s0.2).length:Int)),(20,iL s1)],[])) h6 [2,3,8,9,10,18,19,20] (fun s1 x642 hs1=>kq (kS (kBT 21 hs1 (fun h7=>kKN (kS (kb 3 (kSR (kIb 22 d0S h7 (fun h9=>kr 3 (kq (kBT 27 h9 (fun h10=>kq (kXp (kLx h10 (fun h12=>PJ.blockRet (PJ.blockRet (kCx h12 h4 (fun h13=>kLx h13 (fun h14=>PJ.blockRet (kCx h14 h0 (fun h15=>by obtain rfl:=oi h15;exact kZ H D W)))))))))) (fun h11=>kKn (kM (kLW h11 D W []))))))))))) (fun h8=>kEp 2 (kLx h8 (fun h16=>PJ.blockOut (PJ.blockNormal (kXo h16 [2,3,8,9,10])))))))))))))))) (fun s3 h5=>kM (kLo h5 [2,3,8,9,10])))) (fun h3=>kEp 0 (kLx h3 (fun h17=>PJ.blockOut (kXo h17 [2,3])))))))))) (fun s2 h1=>kq (kX (by cases h1;exact kZ H D W)))))
def c0D(x0:List UInt8):Option ((List (List a0e))×Int×Int):=
 (bif(decide ((x0.length:Int)>400))then(some (([]:List (List a0e)),0,11))else(Option.bind (b0w x0 0) fun y0=>(bif(!y0.2.1)then(some (([]:List (List a0e)),y0.2.2,2))else(Option.bind (d0l y0.1) fun y1=>(bif y1 then(some (([]:List (List a0e)),0,11))else(some (y0.1,0,0)))))))
theorem k0t {x0:List UInt8} {r:(List (List a0e))×Int×Int} (h:c0D x0=some r):SQ 131 [.str x0] [] (.tup [lsv (c0q a0b 4) 1 r.1,iL r.2.1,iL r.2.2]) []:=by
 refine kFn (fn:=Tryz.f131) (fun F H D W=> ?_)
 unfold c0D at h
 refine kq (kS (kq (kBT 10 h (fun h0=> ?_) (fun h1=> ?_))))
 ·exact kq (kX (PJ.passRet (by obtain rfl:=oi h0;exact PJ.res (v1:= .tup [.nl,iL 0,iL 11]) (Le.tup (.cons (Le.nl _) (LeL.refl _))) (kZ H D W))))
 ·refine kKN (kq (kn 1 ?_))
  obtain⟨y0,hy0,h2⟩:=a0d h1
  exact kCg (some 16) [0] (h0F hy0) (kr 5 (kS (kq (kBT 20 h2 (fun h3=>kS (kDr (kD 7 (kEN (kX (PJ.passRet (by obtain rfl:=oi h3;exact PJ.res (v1:= .tup [.nl,iL y0.2.2,iL 2]) (Le.tup (.cons (Le.nl _) (LeL.refl _))) (kZ H D W)))))))) (fun h4=>kKN (kS (kn 1 (kAb 26 h4 (fun _=>m0g) (fun y1 h5=>kEN (kBT 26 h5 (fun h6=>kq (kX (PJ.passRet (by obtain rfl:=oi h6;exact PJ.res (v1:= .tup [.nl,iL 0,iL 11]) (Le.tup (.cons (Le.nl _) (LeL.refl _))) (kZ H D W))))) (fun h7=>kKN (kq (kX (by cases h7;exact kZ H D W))))))))))))))
def k1_:List UInt8:=[48,48,48,49,48,50,48,51,48,52,48,53,48,54,48,55,48,56,48,57,49,48,49,49,49,50,49,51,49,52,49,53,49,54,49,55,49,56,49,57,50,48,50,49,50,50,50,51,50,52,50,53,50,54,50,55,50,56,50,57,51,48,51,49,51,50,51,51,51,52,51,53,51,54,51,55,51,56,51,57,52,48,52,49,52,50,52,51,52,52,52,53,52,54,52,55,52,56,52,57,53,48,53,49,53,50,53,51,53,52,53,53,53,54,53,55,53,56,53,57,54,48,54,49,54,50,54,51,54,52,54,53,54,54,54,55,54,56,54,57,55,48,55,49,55,50,55,51,55,52,55,53,55,54,55,55,55,56,55,57,56,48,56,49,56,50,56,51,56,52,56,53,56,54,56,55,56,56,56,57,57,48,57,49,57,50,57,51,57,52,57,53,57,54,57,55,57,56,57,57]
def d0W(x0:Int):Option (List UInt8):=
 (bif(decide (x0<10))then(bif inS x0 (IntKind.wrap .i64 (x0+1)) ([48,49,50,51,52,53,54,55,56,57,97,98,99,100,101,102,103,104,105,106,107,108,109,110,111,112,113,114,115,116,117,118,119,120,121,122]:List UInt8).length then(some (cut ([48,49,50,51,52,53,54,55,56,57,97,98,99,100,101,102,103,104,105,106,107,108,109,110,111,112,113,114,115,116,117,118,119,120,121,122]:List UInt8) x0 (IntKind.wrap .i64 (x0+1))))else none)else(bif inS (IntKind.wrap .i64 (x0*2)) ((IntKind.wrap .i64 ((IntKind.wrap .i64 (x0*2))+2))) k1_.length then(some (cut k1_ (IntKind.wrap .i64 (x0*2)) ((IntKind.wrap .i64 ((IntKind.wrap .i64 (x0*2))+2)))))else none))
theorem l0E {x0:Int} {r:List UInt8} (h:d0W x0=some r):SQ 216 [iL x0] [] (.str r) []:=by
 refine kFn (fn:=Tryz.f216) (fun F H D W=> ?_)
 unfold d0W at h
 refine kq (kS (kq (kBT 4 h (fun h0=> ?_) (fun h1=> ?_))))
 ·refine kn 3 ?_
  obtain⟨hm,h2⟩:=a0Q h0
  exact kQ 8 (.str (cut ([48,49,50,51,52,53,54,55,56,57,97,98,99,100,101,102,103,104,105,106,107,108,109,110,111,112,113,114,115,116,117,118,119,120,121,122]:List UInt8) x0 (IntKind.wrap .i64 (x0+1)))) [] (tr2:=[]) hm (kr 1 (kX (PJ.passRet (by cases h2;exact kZ H D W))))
 ·refine kKN (kn 5 ?_)
  obtain⟨hm,h3⟩:=a0Q h1
  exact kQ 14 (.str (cut k1_ (IntKind.wrap .i64 (x0*2)) ((IntKind.wrap .i64 ((IntKind.wrap .i64 (x0*2))+2))))) [] (tr2:=[]) hm (kr 1 (kX (by cases h3;exact kZ H D W)))
def k2_:List UInt8:=[0,1,2,2,3,3,3,3,4,4,4,4,4,4,4,4,5,5,5,5,5,5,5,5,5,5,5,5,5,5,5,5,6,6,6,6,6,6,6,6,6,6,6,6,6,6,6,6,6,6,6,6,6,6,6,6,6,6,6,6,6,6,6,6,7,7,7,7,7,7,7,7,7,7,7,7,7,7,7,7,7,7,7,7,7,7,7,7,7,7,7,7,7,7,7,7,7,7,7,7,7,7,7,7,7,7,7,7,7,7,7,7,7,7,7,7,7,7,7,7,7,7,7,7,7,7,7,7,8,8,8,8,8,8,8,8,8,8,8,8,8,8,8,8,8,8,8,8,8,8,8,8,8,8,8,8,8,8,8,8,8,8,8,8,8,8,8,8,8,8,8,8,8,8,8,8,8,8,8,8,8,8,8,8,8,8,8,8,8,8,8,8,8,8,8,8,8,8,8,8,8,8,8,8,8,8,8,8,8,8,8,8,8,8,8,8,8,8,8,8,8,8,8,8,8,8,8,8,8,8,8,8,8,8,8,8,8,8,8,8,8,8,8,8,8,8,8,8,8,8,8,8,8,8,8,8]
def h0z(x0:Int):Option (Int):=
 (Option.bind (bif(decide (x0≥4294967296))then(some ((Int.fdiv x0 4294967296),32))else(some (x0,0))) fun(s0:Int×Int)=>(Option.bind (bif(decide (s0.1≥65536))then(some ((Int.fdiv s0.1 65536),(IntKind.wrap .i64 (s0.2+16))))else(some (s0.1,s0.2))) fun(s1:Int×Int)=>(Option.bind (bif(decide (s1.1≥256))then(some ((Int.fdiv s1.1 256),(IntKind.wrap .i64 (s1.2+8))))else(some (s1.1,s1.2))) fun(s2:Int×Int)=>(bif inR (IntKind.wrap .u8 s2.1) k2_.length then(some (IntKind.wrap .i64 (s2.2+((IntKind.wrap .i64 ((((k2_.getD ((IntKind.wrap .u8 s2.1):Int).toNat 0).toNat:Nat):Int)))))))else none))))
theorem o0t {x0 r:Int} (h:h0z x0=some r):SQ 225 [.int .u64 x0] [] (iL r) []:=by
 refine kFn (fn:=Tryz.f225) (fun F H D W=> ?_)
 unfold h0z at h
 exact kq (kcN h (fun(s0:Int×Int)=>([(0, .int .u64 s0.1),(2,iL s0.2)],[])) (fun s0 hy0=>kq (kBT 4 hy0 (fun h1=>kq (kM (kNo h1 [0,2]))) (fun h2=>kK (kNo h2 [0,2])))) (fun s0 h0=>kcN h0 (fun(s1:Int×Int)=>([(0, .int .u64 s1.1),(2,iL s1.2)],[])) (fun s1 hy1=>kq (kBT 8 hy1 (fun h4=>kq (kM (kNo h4 [0,2]))) (fun h5=>kK (kNo h5 [0,2])))) (fun s1 h3=>kcN h3 (fun(s2:Int×Int)=>([(0, .int .u64 s2.1),(2,iL s2.2)],[])) (fun s2 hy2=>kq (kBT 14 hy2 (fun h7=>kq (kM (kNo h7 [0,2]))) (fun h8=>kK (kNo h8 [0,2])))) (fun s2 h6=>kn 3 (kGb 22 h6 (fun h9=>kr 3 (kX (by cases h9;exact kZ H D W))))))))
def d0X(x0:Int):Option (Int):=
 (some (Int.fdiv (IntKind.wrap .i64 (x0*78913)) 262144))
theorem j0z {x0 r:Int} (h:d0X x0=some r):SQ 224 [iL x0] [] (iL r) []:=by
 refine kFn (fn:=Tryz.f224) (fun F H D W=> ?_)
 unfold d0X at h
 exact kq (kq (kX (by cases h;exact kZ H D W)))
def k3_:List Int:=[1,10,100,1000,10000,100000,1000000,10000000,100000000,1000000000,10000000000,100000000000,1000000000000,10000000000000,100000000000000,1000000000000000,10000000000000000,100000000000000000,1000000000000000000,10000000000000000000]
def f0J(x0:Bool):Option (Int):=
 (bif x0 then(some 1)else(some 0))
theorem l0F {x0:Bool} {r:Int} (h:f0J x0=some r):SQ 226 [.bool x0] [] (iL r) []:=by
 refine kFn (fn:=Tryz.f226) (fun F H D W=> ?_)
 unfold f0J at h
 exact kq (kS (kq (kBT 3 h (fun h0=>kq (kX (PJ.passRet (by cases h0;exact kZ H D W)))) (fun h1=>kKN (kq (kX (by cases h1;exact kZ H D W)))))))
def d0e(x0:Int):Option (Int):=
 (Option.bind (h0z x0) fun y1=>(Option.bind (d0X y1) fun y0=>(bif inR y0 20 then(Option.bind (f0J ((decide (x0≥(nth k3_ y0))))) fun y2=>(some (IntKind.wrap .i64 (y0+y2))))else none)))
theorem j0y {x0 r:Int} (h:d0e x0=some r):SQ 217 [.int .u64 x0] [] (iL r) []:=by
 refine kFn (fn:=Tryz.f217) (fun F H D W=> ?_)
 unfold d0e at h
 refine kq (kn 1 (kAb 5 h (fun _=>o0t) (fun y1 h0=>kAb 6 h0 (fun _=>j0z) (fun y0 h1=>kr 1 (kn 3 ?_)))))
 obtain⟨hm,h2⟩:=a0Q h1
 exact RJ.rel (d:=(some 10)) (ef:=⟨.ep (((k3_.flatMap (a0q .u64)).drop ((y0:Int).toNat*1)).take 1),[],[]⟩) (ef':=⟨.ep ((a0q .u64) (nth k3_ y0)),[],[]⟩) (c:=inR y0 20) (tr2:=[]) (H2:=[]) (by kernel_rfl) hm (fun hc=>N.idx (a0x .u64) hc) (by kernel_rfl) (kc 2 (kAb 13 h2 (fun _=>l0F) (fun y2 h3=>kr 2 (kX (by cases h3;exact kZ H D W)))))
def b0J(x0 x1:Int)(x2:List Int):Option ((List Int)):=
 (Option.bind (a0l (fun(s0:Int×Int×(List Int))=>(bif(decide (s0.2.1≥8))then(bif inR ((IntKind.wrap .u32 (((IntKind.wrap .u32 (((Int.tmod ((Int.tmod (IntKind.wrap .u32 (Int.tmod s0.1 100000000)) 10000)) 100))*2)))+1))) k1_.length then(bif inR ((IntKind.wrap .u32 (((Int.tmod ((Int.tmod (IntKind.wrap .u32 (Int.tmod s0.1 100000000)) 10000)) 100))*2))) k1_.length then(bif inR (IntKind.wrap .i64 (s0.2.1-1)) x0.toNat then(bif inP 0 (IntKind.wrap .i64 (s0.2.1-1)) s0.2.2.length then(bif inR (IntKind.wrap .i64 (s0.2.1-2)) x0.toNat then(bif inP 0 (IntKind.wrap .i64 (s0.2.1-2)) ((b0u s0.2.2 ((0:Nat)+(IntKind.wrap .i64 (s0.2.1-1)):Int) ((((k1_.getD ((IntKind.wrap .u32 (((IntKind.wrap .u32 (((Int.tmod ((Int.tmod (IntKind.wrap .u32 (Int.tmod s0.1 100000000)) 10000)) 100))*2)))+1)):Int).toNat 0).toNat:Nat):Int)))).length then(bif inR ((IntKind.wrap .u32 (((IntKind.wrap .u32 (((IntKind.wrap .u32 (Int.tdiv ((Int.tmod (IntKind.wrap .u32 (Int.tmod s0.1 100000000)) 10000)) 100)))*2)))+1))) k1_.length then(bif inR ((IntKind.wrap .u32 (((IntKind.wrap .u32 (Int.tdiv ((Int.tmod (IntKind.wrap .u32 (Int.tmod s0.1 100000000)) 10000)) 100)))*2))) k1_.length then(bif inR (IntKind.wrap .i64 (s0.2.1-3)) x0.toNat then(bif inP 0 (IntKind.wrap .i64 (s0.2.1-3)) ((b0u ((b0u s0.2.2 ((0:Nat)+(IntKind.wrap .i64 (s0.2.1-1)):Int) ((((k1_.getD ((IntKind.wrap .u32 (((IntKind.wrap .u32 (((Int.tmod ((Int.tmod (IntKind.wrap .u32 (Int.tmod s0.1 100000000)) 10000)) 100))*2)))+1)):Int).toNat 0).toNat:Nat):Int)))) ((0:Nat)+(IntKind.wrap .i64 (s0.2.1-2)):Int) ((((k1_.getD ((IntKind.wrap .u32 (((Int.tmod ((Int.tmod (IntKind.wrap .u32 (Int.tmod s0.1 100000000)) 10000)) 100))*2)):Int).toNat 0).toNat:Nat):Int)))).length then(bif inR (IntKind.wrap .i64 (s0.2.1-4)) x0.toNat then(bif inP 0 (IntKind.wrap .i64 (s0.2.1-4)) ((b0u ((b0u ((b0u s0.2.2 ((0:Nat)+(IntKind.wrap .i64 (s0.2.1-1)):Int) ((((k1_.getD ((IntKind.wrap .u32 (((IntKind.wrap .u32 (((Int.tmod ((Int.tmod (IntKind.wrap .u32 (Int.tmod s0.1 100000000)) 10000)) 100))*2)))+1)):Int).toNat 0).toNat:Nat):Int)))) ((0:Nat)+(IntKind.wrap .i64 (s0.2.1-2)):Int) ((((k1_.getD ((IntKind.wrap .u32 (((Int.tmod ((Int.tmod (IntKind.wrap .u32 (Int.tmod s0.1 100000000)) 10000)) 100))*2)):Int).toNat 0).toNat:Nat):Int)))) ((0:Nat)+(IntKind.wrap .i64 (s0.2.1-3)):Int) ((((k1_.getD ((IntKind.wrap .u32 (((IntKind.wrap .u32 (((IntKind.wrap .u32 (Int.tdiv ((Int.tmod (IntKind.wrap .u32 (Int.tmod s0.1 100000000)) 10000)) 100)))*2)))+1)):Int).toNat 0).toNat:Nat):Int)))).length then(bif inR ((IntKind.wrap .u32 (((IntKind.wrap .u32 (((Int.tmod ((IntKind.wrap .u32 (Int.tdiv (IntKind.wrap .u32 (Int.tmod s0.1 100000000)) 10000))) 100))*2)))+1))) k1_.length then(bif inR ((IntKind.wrap .u32 (((Int.tmod ((IntKind.wrap .u32 (Int.tdiv (IntKind.wrap .u32 (Int.tmod s0.1 100000000)) 10000))) 100))*2))) k1_.length then(bif inR (IntKind.wrap .i64 (s0.2.1-5)) x0.toNat then(bif inP 0 (IntKind.wrap .i64 (s0.2.1-5)) ((b0u ((b0u ((b0u ((b0u s0.2.2 ((0:Nat)+(IntKind.wrap .i64 (s0.2.1-1)):Int) ((((k1_.getD ((IntKind.wrap .u32 (((IntKind.wrap .u32 (((Int.tmod ((Int.tmod (IntKind.wrap .u32 (Int.tmod s0.1 100000000)) 10000)) 100))*2)))+1)):Int).toNat 0).toNat:Nat):Int)))) ((0:Nat)+(IntKind.wrap .i64 (s0.2.1-2)):Int) ((((k1_.getD ((IntKind.wrap .u32 (((Int.tmod ((Int.tmod (IntKind.wrap .u32 (Int.tmod s0.1 100000000)) 10000)) 100))*2)):Int).toNat 0).toNat:Nat):Int)))) ((0:Nat)+(IntKind.wrap .i64 (s0.2.1-3)):Int) ((((k1_.getD ((IntKind.wrap .u32 (((IntKind.wrap .u32 (((IntKind.wrap .u32 (Int.tdiv ((Int.tmod (IntKind.wrap .u32 (Int.tmod s0.1 100000000)) 10000)) 100)))*2)))+1)):Int).toNat 0).toNat:Nat):Int)))) ((0:Nat)+(IntKind.wrap .i64 (s0.2.1-4)):Int) ((((k1_.getD ((IntKind.wrap .u32 (((IntKind.wrap .u32 (Int.tdiv ((Int.tmod (IntKind.wrap .u32 (Int.tmod s0.1 100000000)) 10000)) 100)))*2)):Int).toNat 0).toNat:Nat):Int)))).length then(bif inR (IntKind.wrap .i64 (s0.2.1-6)) x0.toNat then(bif inP 0 (IntKind.wrap .i64 (s0.2.1-6)) ((b0u ((b0u ((b0u ((b0u ((b0u s0.2.2 ((0:Nat)+(IntKind.wrap .i64 (s0.2.1-1)):Int) ((((k1_.getD ((IntKind.wrap .u32 (((IntKind.wrap .u32 (((Int.tmod ((Int.tmod (IntKind.wrap .u32 (Int.tmod s0.1 100000000)) 10000)) 100))*2)))+1)):Int).toNat 0).toNat:Nat):Int)))) ((0:Nat)+(IntKind.wrap .i64 (s0.2.1-2)):Int) ((((k1_.getD ((IntKind.wrap .u32 (((Int.tmod ((Int.tmod (IntKind.wrap .u32 (Int.tmod s0.1 100000000)) 10000)) 100))*2)):Int).toNat 0).toNat:Nat):Int)))) ((0:Nat)+(IntKind.wrap .i64 (s0.2.1-3)):Int) ((((k1_.getD ((IntKind.wrap .u32 (((IntKind.wrap .u32 (((IntKind.wrap .u32 (Int.tdiv ((Int.tmod (IntKind.wrap .u32 (Int.tmod s0.1 100000000)) 10000)) 100)))*2)))+1)):Int).toNat 0).toNat:Nat):Int)))) ((0:Nat)+(IntKind.wrap .i64 (s0.2.1-4)):Int) ((((k1_.getD ((IntKind.wrap .u32 (((IntKind.wrap .u32 (Int.tdiv ((Int.tmod (IntKind.wrap .u32 (Int.tmod s0.1 100000000)) 10000)) 100)))*2)):Int).toNat 0).toNat:Nat):Int)))) ((0:Nat)+(IntKind.wrap .i64 (s0.2.1-5)):Int) ((((k1_.getD ((IntKind.wrap .u32 (((IntKind.wrap .u32 (((Int.tmod ((IntKind.wrap .u32 (Int.tdiv (IntKind.wrap .u32 (Int.tmod s0.1 100000000)) 10000))) 100))*2)))+1)):Int).toNat 0).toNat:Nat):Int)))).length then(bif inR ((IntKind.wrap .u32 (((IntKind.wrap .u32 (((IntKind.wrap .u32 (Int.tdiv ((IntKind.wrap .u32 (Int.tdiv (IntKind.wrap .u32 (Int.tmod s0.1 100000000)) 10000))) 100)))*2)))+1))) k1_.length then(bif inR ((IntKind.wrap .u32 (((IntKind.wrap .u32 (Int.tdiv ((IntKind.wrap .u32 (Int.tdiv (IntKind.wrap .u32 (Int.tmod s0.1 100000000)) 10000))) 100)))*2))) k1_.length then(bif inR (IntKind.wrap .i64 (s0.2.1-7)) x0.toNat then(bif inP 0 (IntKind.wrap .i64 (s0.2.1-7)) ((b0u ((b0u ((b0u ((b0u ((b0u ((b0u s0.2.2 ((0:Nat)+(IntKind.wrap .i64 (s0.2.1-1)):Int) ((((k1_.getD ((IntKind.wrap .u32 (((IntKind.wrap .u32 (((Int.tmod ((Int.tmod (IntKind.wrap .u32 (Int.tmod s0.1 100000000)) 10000)) 100))*2)))+1)):Int).toNat 0).toNat:Nat):Int)))) ((0:Nat)+(IntKind.wrap .i64 (s0.2.1-2)):Int) ((((k1_.getD ((IntKind.wrap .u32 (((Int.tmod ((Int.tmod (IntKind.wrap .u32 (Int.tmod s0.1 100000000)) 10000)) 100))*2)):Int).toNat 0).toNat:Nat):Int)))) ((0:Nat)+(IntKind.wrap .i64 (s0.2.1-3)):Int) ((((k1_.getD ((IntKind.wrap .u32 (((IntKind.wrap .u32 (((IntKind.wrap .u32 (Int.tdiv ((Int.tmod (IntKind.wrap .u32 (Int.tmod s0.1 100000000)) 10000)) 100)))*2)))+1)):Int).toNat 0).toNat:Nat):Int)))) ((0:Nat)+(IntKind.wrap .i64 (s0.2.1-4)):Int) ((((k1_.getD ((IntKind.wrap .u32 (((IntKind.wrap .u32 (Int.tdiv ((Int.tmod (IntKind.wrap .u32 (Int.tmod s0.1 100000000)) 10000)) 100)))*2)):Int).toNat 0).toNat:Nat):Int)))) ((0:Nat)+(IntKind.wrap .i64 (s0.2.1-5)):Int) ((((k1_.getD ((IntKind.wrap .u32 (((IntKind.wrap .u32 (((Int.tmod ((IntKind.wrap .u32 (Int.tdiv (IntKind.wrap .u32 (Int.tmod s0.1 100000000)) 10000))) 100))*2)))+1)):Int).toNat 0).toNat:Nat):Int)))) ((0:Nat)+(IntKind.wrap .i64 (s0.2.1-6)):Int) ((((k1_.getD ((IntKind.wrap .u32 (((Int.tmod ((IntKind.wrap .u32 (Int.tdiv (IntKind.wrap .u32 (Int.tmod s0.1 100000000)) 10000))) 100))*2)):Int).toNat 0).toNat:Nat):Int)))).length then(bif inR (IntKind.wrap .i64 (s0.2.1-8)) x0.toNat then(bif inP 0 (IntKind.wrap .i64 (s0.2.1-8)) ((b0u ((b0u ((b0u ((b0u ((b0u ((b0u ((b0u s0.2.2 ((0:Nat)+(IntKind.wrap .i64 (s0.2.1-1)):Int) ((((k1_.getD ((IntKind.wrap .u32 (((IntKind.wrap .u32 (((Int.tmod ((Int.tmod (IntKind.wrap .u32 (Int.tmod s0.1 100000000)) 10000)) 100))*2)))+1)):Int).toNat 0).toNat:Nat):Int)))) ((0:Nat)+(IntKind.wrap .i64 (s0.2.1-2)):Int) ((((k1_.getD ((IntKind.wrap .u32 (((Int.tmod ((Int.tmod (IntKind.wrap .u32 (Int.tmod s0.1 100000000)) 10000)) 100))*2)):Int).toNat 0).toNat:Nat):Int)))) ((0:Nat)+(IntKind.wrap .i64 (s0.2.1-3)):Int) ((((k1_.getD ((IntKind.wrap .u32 (((IntKind.wrap .u32 (((IntKind.wrap .u32 (Int.tdiv ((Int.tmod (IntKind.wrap .u32 (Int.tmod s0.1 100000000)) 10000)) 100)))*2)))+1)):Int).toNat 0).toNat:Nat):Int)))) ((0:Nat)+(IntKind.wrap .i64 (s0.2.1-4)):Int) ((((k1_.getD ((IntKind.wrap .u32 (((IntKind.wrap .u32 (Int.tdiv ((Int.tmod (IntKind.wrap .u32 (Int.tmod s0.1 100000000)) 10000)) 100)))*2)):Int).toNat 0).toNat:Nat):Int)))) ((0:Nat)+(IntKind.wrap .i64 (s0.2.1-5)):Int) ((((k1_.getD ((IntKind.wrap .u32 (((IntKind.wrap .u32 (((Int.tmod ((IntKind.wrap .u32 (Int.tdiv (IntKind.wrap .u32 (Int.tmod s0.1 100000000)) 10000))) 100))*2)))+1)):Int).toNat 0).toNat:Nat):Int)))) ((0:Nat)+(IntKind.wrap .i64 (s0.2.1-6)):Int) ((((k1_.getD ((IntKind.wrap .u32 (((Int.tmod ((IntKind.wrap .u32 (Int.tdiv (IntKind.wrap .u32 (Int.tmod s0.1 100000000)) 10000))) 100))*2)):Int).toNat 0).toNat:Nat):Int)))) ((0:Nat)+(IntKind.wrap .i64 (s0.2.1-7)):Int) ((((k1_.getD ((IntKind.wrap .u32 (((IntKind.wrap .u32 (((IntKind.wrap .u32 (Int.tdiv ((IntKind.wrap .u32 (Int.tdiv (IntKind.wrap .u32 (Int.tmod s0.1 100000000)) 10000))) 100)))*2)))+1)):Int).toNat 0).toNat:Nat):Int)))).length then(some (.inl ((IntKind.wrap .u64 (Int.tdiv s0.1 100000000)),(IntKind.wrap .i64 (s0.2.1-8)),(b0u ((b0u ((b0u ((b0u ((b0u ((b0u ((b0u ((b0u s0.2.2 ((0:Nat)+(IntKind.wrap .i64 (s0.2.1-1)):Int) ((((k1_.getD ((IntKind.wrap .u32 (((IntKind.wrap .u32 (((Int.tmod ((Int.tmod (IntKind.wrap .u32 (Int.tmod s0.1 100000000)) 10000)) 100))*2)))+1)):Int).toNat 0).toNat:Nat):Int)))) ((0:Nat)+(IntKind.wrap .i64 (s0.2.1-2)):Int) ((((k1_.getD ((IntKind.wrap .u32 (((Int.tmod ((Int.tmod (IntKind.wrap .u32 (Int.tmod s0.1 100000000)) 10000)) 100))*2)):Int).toNat 0).toNat:Nat):Int)))) ((0:Nat)+(IntKind.wrap .i64 (s0.2.1-3)):Int) ((((k1_.getD ((IntKind.wrap .u32 (((IntKind.wrap .u32 (((IntKind.wrap .u32 (Int.tdiv ((Int.tmod (IntKind.wrap .u32 (Int.tmod s0.1 100000000)) 10000)) 100)))*2)))+1)):Int).toNat 0).toNat:Nat):Int)))) ((0:Nat)+(IntKind.wrap .i64 (s0.2.1-4)):Int) ((((k1_.getD ((IntKind.wrap .u32 (((IntKind.wrap .u32 (Int.tdiv ((Int.tmod (IntKind.wrap .u32 (Int.tmod s0.1 100000000)) 10000)) 100)))*2)):Int).toNat 0).toNat:Nat):Int)))) ((0:Nat)+(IntKind.wrap .i64 (s0.2.1-5)):Int) ((((k1_.getD ((IntKind.wrap .u32 (((IntKind.wrap .u32 (((Int.tmod ((IntKind.wrap .u32 (Int.tdiv (IntKind.wrap .u32 (Int.tmod s0.1 100000000)) 10000))) 100))*2)))+1)):Int).toNat 0).toNat:Nat):Int)))) ((0:Nat)+(IntKind.wrap .i64 (s0.2.1-6)):Int) ((((k1_.getD ((IntKind.wrap .u32 (((Int.tmod ((IntKind.wrap .u32 (Int.tdiv (IntKind.wrap .u32 (Int.tmod s0.1 100000000)) 10000))) 100))*2)):Int).toNat 0).toNat:Nat):Int)))) ((0:Nat)+(IntKind.wrap .i64 (s0.2.1-7)):Int) ((((k1_.getD ((IntKind.wrap .u32 (((IntKind.wrap .u32 (((IntKind.wrap .u32 (Int.tdiv ((IntKind.wrap .u32 (Int.tdiv (IntKind.wrap .u32 (Int.tmod s0.1 100000000)) 10000))) 100)))*2)))+1)):Int).toNat 0).toNat:Nat):Int)))) ((0:Nat)+(IntKind.wrap .i64 (s0.2.1-8)):Int) ((((k1_.getD ((IntKind.wrap .u32 (((IntKind.wrap .u32 (Int.tdiv ((IntKind.wrap .u32 (Int.tdiv (IntKind.wrap .u32 (Int.tmod s0.1 100000000)) 10000))) 100)))*2)):Int).toNat 0).toNat:Nat):Int))))))else none)else none)else none)else none)else none)else none)else none)else none)else none)else none)else none)else none)else none)else none)else none)else none)else none)else none)else none)else none)else none)else none)else none)else none)else(some (.inr (s0.1,s0.2.1,s0.2.2))))) big (x1,((x0.toNat:Nat):Int),x2)) fun(s1:Int×Int×(List Int))=>(Option.bind (bif(decide (s1.2.1≥4))then(bif inR ((IntKind.wrap .u32 (((IntKind.wrap .u32 (((Int.tmod (Int.tmod (IntKind.wrap .u32 s1.1) 10000) 100))*2)))+1))) k1_.length then(bif inR ((IntKind.wrap .u32 (((Int.tmod (Int.tmod (IntKind.wrap .u32 s1.1) 10000) 100))*2))) k1_.length then(bif inR (IntKind.wrap .i64 (s1.2.1-1)) x0.toNat then(bif inP 0 (IntKind.wrap .i64 (s1.2.1-1)) s1.2.2.length then(bif inR (IntKind.wrap .i64 (s1.2.1-2)) x0.toNat then(bif inP 0 (IntKind.wrap .i64 (s1.2.1-2)) ((b0u s1.2.2 ((0:Nat)+(IntKind.wrap .i64 (s1.2.1-1)):Int) ((((k1_.getD ((IntKind.wrap .u32 (((IntKind.wrap .u32 (((Int.tmod (Int.tmod (IntKind.wrap .u32 s1.1) 10000) 100))*2)))+1)):Int).toNat 0).toNat:Nat):Int)))).length then(bif inR ((IntKind.wrap .u32 (((IntKind.wrap .u32 (((IntKind.wrap .u32 (Int.tdiv (Int.tmod (IntKind.wrap .u32 s1.1) 10000) 100)))*2)))+1))) k1_.length then(bif inR ((IntKind.wrap .u32 (((IntKind.wrap .u32 (Int.tdiv (Int.tmod (IntKind.wrap .u32 s1.1) 10000) 100)))*2))) k1_.length then(bif inR (IntKind.wrap .i64 (s1.2.1-3)) x0.toNat then(bif inP 0 (IntKind.wrap .i64 (s1.2.1-3)) ((b0u ((b0u s1.2.2 ((0:Nat)+(IntKind.wrap .i64 (s1.2.1-1)):Int) ((((k1_.getD ((IntKind.wrap .u32 (((IntKind.wrap .u32 (((Int.tmod (Int.tmod (IntKind.wrap .u32 s1.1) 10000) 100))*2)))+1)):Int).toNat 0).toNat:Nat):Int)))) ((0:Nat)+(IntKind.wrap .i64 (s1.2.1-2)):Int) ((((k1_.getD ((IntKind.wrap .u32 (((Int.tmod (Int.tmod (IntKind.wrap .u32 s1.1) 10000) 100))*2)):Int).toNat 0).toNat:Nat):Int)))).length then(bif inR (IntKind.wrap .i64 (s1.2.1-4)) x0.toNat then(bif inP 0 (IntKind.wrap .i64 (s1.2.1-4)) ((b0u ((b0u ((b0u s1.2.2 ((0:Nat)+(IntKind.wrap .i64 (s1.2.1-1)):Int) ((((k1_.getD ((IntKind.wrap .u32 (((IntKind.wrap .u32 (((Int.tmod (Int.tmod (IntKind.wrap .u32 s1.1) 10000) 100))*2)))+1)):Int).toNat 0).toNat:Nat):Int)))) ((0:Nat)+(IntKind.wrap .i64 (s1.2.1-2)):Int) ((((k1_.getD ((IntKind.wrap .u32 (((Int.tmod (Int.tmod (IntKind.wrap .u32 s1.1) 10000) 100))*2)):Int).toNat 0).toNat:Nat):Int)))) ((0:Nat)+(IntKind.wrap .i64 (s1.2.1-3)):Int) ((((k1_.getD ((IntKind.wrap .u32 (((IntKind.wrap .u32 (((IntKind.wrap .u32 (Int.tdiv (Int.tmod (IntKind.wrap .u32 s1.1) 10000) 100)))*2)))+1)):Int).toNat 0).toNat:Nat):Int)))).length then(some ((IntKind.wrap .i64 (s1.2.1-4)),(IntKind.wrap .u32 (Int.tdiv (IntKind.wrap .u32 s1.1) 10000)),(b0u ((b0u ((b0u ((b0u s1.2.2 ((0:Nat)+(IntKind.wrap .i64 (s1.2.1-1)):Int) ((((k1_.getD ((IntKind.wrap .u32 (((IntKind.wrap .u32 (((Int.tmod (Int.tmod (IntKind.wrap .u32 s1.1) 10000) 100))*2)))+1)):Int).toNat 0).toNat:Nat):Int)))) ((0:Nat)+(IntKind.wrap .i64 (s1.2.1-2)):Int) ((((k1_.getD ((IntKind.wrap .u32 (((Int.tmod (Int.tmod (IntKind.wrap .u32 s1.1) 10000) 100))*2)):Int).toNat 0).toNat:Nat):Int)))) ((0:Nat)+(IntKind.wrap .i64 (s1.2.1-3)):Int) ((((k1_.getD ((IntKind.wrap .u32 (((IntKind.wrap .u32 (((IntKind.wrap .u32 (Int.tdiv (Int.tmod (IntKind.wrap .u32 s1.1) 10000) 100)))*2)))+1)):Int).toNat 0).toNat:Nat):Int)))) ((0:Nat)+(IntKind.wrap .i64 (s1.2.1-4)):Int) ((((k1_.getD ((IntKind.wrap .u32 (((IntKind.wrap .u32 (Int.tdiv (Int.tmod (IntKind.wrap .u32 s1.1) 10000) 100)))*2)):Int).toNat 0).toNat:Nat):Int)))))else none)else none)else none)else none)else none)else none)else none)else none)else none)else none)else none)else none)else(some (s1.2.1,(IntKind.wrap .u32 s1.1),s1.2.2))) fun(s2:Int×Int×(List Int))=>(Option.bind (bif(decide (s2.1≥2))then(bif inR ((IntKind.wrap .u32 (((IntKind.wrap .u32 ((Int.tmod s2.2.1 100)*2)))+1))) k1_.length then(bif inR ((IntKind.wrap .u32 ((Int.tmod s2.2.1 100)*2))) k1_.length then(bif inR (IntKind.wrap .i64 (s2.1-1)) x0.toNat then(bif inP 0 (IntKind.wrap .i64 (s2.1-1)) s2.2.2.length then(bif inR (IntKind.wrap .i64 (s2.1-2)) x0.toNat then(bif inP 0 (IntKind.wrap .i64 (s2.1-2)) ((b0u s2.2.2 ((0:Nat)+(IntKind.wrap .i64 (s2.1-1)):Int) ((((k1_.getD ((IntKind.wrap .u32 (((IntKind.wrap .u32 ((Int.tmod s2.2.1 100)*2)))+1)):Int).toNat 0).toNat:Nat):Int)))).length then(some ((IntKind.wrap .i64 (s2.1-2)),(IntKind.wrap .u32 (Int.tdiv s2.2.1 100)),(b0u ((b0u s2.2.2 ((0:Nat)+(IntKind.wrap .i64 (s2.1-1)):Int) ((((k1_.getD ((IntKind.wrap .u32 (((IntKind.wrap .u32 ((Int.tmod s2.2.1 100)*2)))+1)):Int).toNat 0).toNat:Nat):Int)))) ((0:Nat)+(IntKind.wrap .i64 (s2.1-2)):Int) ((((k1_.getD ((IntKind.wrap .u32 ((Int.tmod s2.2.1 100)*2)):Int).toNat 0).toNat:Nat):Int)))))else none)else none)else none)else none)else none)else none)else(some (s2.1,s2.2.1,s2.2.2))) fun(s3:Int×Int×(List Int))=>(bif(decide (s3.1>0))then(bif inR 0 x0.toNat then(bif inP 0 0 s3.2.2.length then(some ((b0u s3.2.2 ((0:Nat)+0:Int) ((IntKind.wrap .u8 (IntKind.wrap .u32 (48+s3.2.1)))))))else none)else none)else(some s3.2.2)))))
theorem g0u {x0 x1:Int} {x2:List Int} {r:(List Int)} (h:b0J x0 x1 x2=some r):SQ 218 [.sl 0 0 x0.toNat 1, .int .u64 x1] [.box (x2.flatMap (a0q .u8))] (.tup []) [.box (r.flatMap (a0q .u8))]:=by
 refine kFn (fn:=Tryz.f218) (fun F H D W=> ?_)
 unfold b0J at h
 refine kq (kcN h (fun(s1:Int×Int×(List Int))=>([(0, .sl 0 0 x0.toNat 1),(1, .int .u64 s1.1),(4,iL s1.2.1)],[.box (s1.2.2.flatMap (a0q .u8))])) (fun s1 hy0=> ?_) (fun s1 h0=> ?_))
 ·refine kb 0 (kl (fun(s0:Int×Int×(List Int))=>([(0, .sl 0 0 x0.toNat 1),(1, .int .u64 s0.1),(4,iL s0.2.1)],[.box (s0.2.2.flatMap (a0q .u8))])) hy0 [0,1,4] (fun s0 x156 hs0=>kS (kq (kBT 20 hs0 (fun h1=> ?_) (fun h2=> ?_)))))
  ·refine kKN (kb 1 (kq (kq (kq (kq (kq (kS (kDr (kD 8 ?_)))))))))
   obtain⟨hm,h3⟩:=a0Q h1
   refine kQ 50 (.int .u8 (((k1_.getD ((IntKind.wrap .u32 (((IntKind.wrap .u32 (((Int.tmod ((Int.tmod (IntKind.wrap .u32 (Int.tmod s0.1 100000000)) 10000)) 100))*2)))+1)):Int).toNat 0).toNat:Nat):Int)) [] (tr2:=[([],[]),([],[]),([],[]),([],[]),([],[]),([],[]),([],[]),([],[]),([],[])]) hm (kD 1 ?_)
   obtain⟨hm,h4⟩:=a0Q h3
   refine kQ 52 (.int .u8 (((k1_.getD ((IntKind.wrap .u32 (((Int.tmod ((Int.tmod (IntKind.wrap .u32 (Int.tmod s0.1 100000000)) 10000)) 100))*2)):Int).toNat 0).toNat:Nat):Int)) [] (tr2:=[([],[]),([],[]),([],[]),([],[]),([],[]),([],[]),([],[]),([],[]),([],[]),([],[]),([],[])]) hm ?_
   obtain⟨hm,h5⟩:=a0Q h4
   refine kQ 53 (.ptr 0 (0+((IntKind.wrap .i64 (s0.2.1-1)):Int).toNat*1)) [] (tr2:=[([],[]),([],[]),([],[]),([],[]),([],[]),([],[]),([],[]),([],[]),([],[]),([],[]),([],[]),([],[])]) hm ?_
   obtain⟨hm,h6⟩:=a0Q h5
   refine kSB 0 [([],[]),([],[]),([],[]),([],[]),([],[]),([],[]),([],[]),([],[]),([],[]),([],[]),([],[]),([],[]),([0,1],[0])] (a0x .u8) ((((k1_.getD ((IntKind.wrap .u32 (((IntKind.wrap .u32 (((Int.tmod ((Int.tmod (IntKind.wrap .u32 (Int.tmod s0.1 100000000)) 10000)) 100))*2)))+1)):Int).toNat 0).toNat:Nat):Int)) hm ?_
   obtain⟨hm,h7⟩:=a0Q h6
   refine kQ 54 (.ptr 0 (0+((IntKind.wrap .i64 (s0.2.1-2)):Int).toNat*1)) [] (tr2:=[([],[]),([],[]),([],[]),([],[]),([],[]),([],[]),([],[]),([],[]),([],[]),([],[]),([],[]),([],[]),([0,1],[0]),([],[])]) hm ?_
   obtain⟨hm,h8⟩:=a0Q h7
   refine kSB 0 [([],[]),([],[]),([],[]),([],[]),([],[]),([],[]),([],[]),([],[]),([],[]),([],[]),([],[]),([],[]),([0,1],[0]),([],[]),([0,1],[0])] (a0x .u8) ((((k1_.getD ((IntKind.wrap .u32 (((Int.tmod ((Int.tmod (IntKind.wrap .u32 (Int.tmod s0.1 100000000)) 10000)) 100))*2)):Int).toNat 0).toNat:Nat):Int)) hm (kEN (kS (kDr (kD 8 ?_))))
   obtain⟨hm,h9⟩:=a0Q h8
   refine kQ 63 (.int .u8 (((k1_.getD ((IntKind.wrap .u32 (((IntKind.wrap .u32 (((IntKind.wrap .u32 (Int.tdiv ((Int.tmod (IntKind.wrap .u32 (Int.tmod s0.1 100000000)) 10000)) 100)))*2)))+1)):Int).toNat 0).toNat:Nat):Int)) [] (tr2:=[([],[]),([],[]),([],[]),([],[]),([],[]),([],[]),([],[]),([],[]),([],[])]) hm (kD 1 ?_)
   obtain⟨hm,h10⟩:=a0Q h9
   refine kQ 65 (.int .u8 (((k1_.getD ((IntKind.wrap .u32 (((IntKind.wrap .u32 (Int.tdiv ((Int.tmod (IntKind.wrap .u32 (Int.tmod s0.1 100000000)) 10000)) 100)))*2)):Int).toNat 0).toNat:Nat):Int)) [] (tr2:=[([],[]),([],[]),([],[]),([],[]),([],[]),([],[]),([],[]),([],[]),([],[]),([],[]),([],[])]) hm ?_
   obtain⟨hm,h11⟩:=a0Q h10
   refine kQ 66 (.ptr 0 (0+((IntKind.wrap .i64 (s0.2.1-3)):Int).toNat*1)) [] (tr2:=[([],[]),([],[]),([],[]),([],[]),([],[]),([],[]),([],[]),([],[]),([],[]),([],[]),([],[]),([],[])]) hm ?_
   obtain⟨hm,h12⟩:=a0Q h11
   refine kSB 0 [([],[]),([],[]),([],[]),([],[]),([],[]),([],[]),([],[]),([],[]),([],[]),([],[]),([],[]),([],[]),([0,1],[0])] (a0x .u8) ((((k1_.getD ((IntKind.wrap .u32 (((IntKind.wrap .u32 (((IntKind.wrap .u32 (Int.tdiv ((Int.tmod (IntKind.wrap .u32 (Int.tmod s0.1 100000000)) 10000)) 100)))*2)))+1)):Int).toNat 0).toNat:Nat):Int)) hm ?_
   obtain⟨hm,h13⟩:=a0Q h12
   refine kQ 67 (.ptr 0 (0+((IntKind.wrap .i64 (s0.2.1-4)):Int).toNat*1)) [] (tr2:=[([],[]),([],[]),([],[]),([],[]),([],[]),([],[]),([],[]),([],[]),([],[]),([],[]),([],[]),([],[]),([0,1],[0]),([],[])]) hm ?_
   obtain⟨hm,h14⟩:=a0Q h13
   refine kSB 0 [([],[]),([],[]),([],[]),([],[]),([],[]),([],[]),([],[]),([],[]),([],[]),([],[]),([],[]),([],[]),([0,1],[0]),([],[]),([0,1],[0])] (a0x .u8) ((((k1_.getD ((IntKind.wrap .u32 (((IntKind.wrap .u32 (Int.tdiv ((Int.tmod (IntKind.wrap .u32 (Int.tmod s0.1 100000000)) 10000)) 100)))*2)):Int).toNat 0).toNat:Nat):Int)) hm (kEN (kS (kDr (kD 8 ?_))))
   obtain⟨hm,h15⟩:=a0Q h14
   refine kQ 76 (.int .u8 (((k1_.getD ((IntKind.wrap .u32 (((IntKind.wrap .u32 (((Int.tmod ((IntKind.wrap .u32 (Int.tdiv (IntKind.wrap .u32 (Int.tmod s0.1 100000000)) 10000))) 100))*2)))+1)):Int).toNat 0).toNat:Nat):Int)) [] (tr2:=[([],[]),([],[]),([],[]),([],[]),([],[]),([],[]),([],[]),([],[]),([],[])]) hm (kD 1 ?_)
   obtain⟨hm,h16⟩:=a0Q h15
   refine kQ 78 (.int .u8 (((k1_.getD ((IntKind.wrap .u32 (((Int.tmod ((IntKind.wrap .u32 (Int.tdiv (IntKind.wrap .u32 (Int.tmod s0.1 100000000)) 10000))) 100))*2)):Int).toNat 0).toNat:Nat):Int)) [] (tr2:=[([],[]),([],[]),([],[]),([],[]),([],[]),([],[]),([],[]),([],[]),([],[]),([],[]),([],[])]) hm ?_
   obtain⟨hm,h17⟩:=a0Q h16
   refine kQ 79 (.ptr 0 (0+((IntKind.wrap .i64 (s0.2.1-5)):Int).toNat*1)) [] (tr2:=[([],[]),([],[]),([],[]),([],[]),([],[]),([],[]),([],[]),([],[]),([],[]),([],[]),([],[]),([],[])]) hm ?_
   obtain⟨hm,h18⟩:=a0Q h17
   refine kSB 0 [([],[]),([],[]),([],[]),([],[]),([],[]),([],[]),([],[]),([],[]),([],[]),([],[]),([],[]),([],[]),([0,1],[0])] (a0x .u8) ((((k1_.getD ((IntKind.wrap .u32 (((IntKind.wrap .u32 (((Int.tmod ((IntKind.wrap .u32 (Int.tdiv (IntKind.wrap .u32 (Int.tmod s0.1 100000000)) 10000))) 100))*2)))+1)):Int).toNat 0).toNat:Nat):Int)) hm ?_
   obtain⟨hm,h19⟩:=a0Q h18
   refine kQ 80 (.ptr 0 (0+((IntKind.wrap .i64 (s0.2.1-6)):Int).toNat*1)) [] (tr2:=[([],[]),([],[]),([],[]),([],[]),([],[]),([],[]),([],[]),([],[]),([],[]),([],[]),([],[]),([],[]),([0,1],[0]),([],[])]) hm ?_
   obtain⟨hm,h20⟩:=a0Q h19
   refine kSB 0 [([],[]),([],[]),([],[]),([],[]),([],[]),([],[]),([],[]),([],[]),([],[]),([],[]),([],[]),([],[]),([0,1],[0]),([],[]),([0,1],[0])] (a0x .u8) ((((k1_.getD ((IntKind.wrap .u32 (((Int.tmod ((IntKind.wrap .u32 (Int.tdiv (IntKind.wrap .u32 (Int.tmod s0.1 100000000)) 10000))) 100))*2)):Int).toNat 0).toNat:Nat):Int)) hm (kEN (kS (kDr (kD 8 ?_))))
   obtain⟨hm,h21⟩:=a0Q h20
   refine kQ 89 (.int .u8 (((k1_.getD ((IntKind.wrap .u32 (((IntKind.wrap .u32 (((IntKind.wrap .u32 (Int.tdiv ((IntKind.wrap .u32 (Int.tdiv (IntKind.wrap .u32 (Int.tmod s0.1 100000000)) 10000))) 100)))*2)))+1)):Int).toNat 0).toNat:Nat):Int)) [] (tr2:=[([],[]),([],[]),([],[]),([],[]),([],[]),([],[]),([],[]),([],[]),([],[])]) hm (kD 1 ?_)
   obtain⟨hm,h22⟩:=a0Q h21
   refine kQ 91 (.int .u8 (((k1_.getD ((IntKind.wrap .u32 (((IntKind.wrap .u32 (Int.tdiv ((IntKind.wrap .u32 (Int.tdiv (IntKind.wrap .u32 (Int.tmod s0.1 100000000)) 10000))) 100)))*2)):Int).toNat 0).toNat:Nat):Int)) [] (tr2:=[([],[]),([],[]),([],[]),([],[]),([],[]),([],[]),([],[]),([],[]),([],[]),([],[]),([],[])]) hm ?_
   obtain⟨hm,h23⟩:=a0Q h22
   refine kQ 92 (.ptr 0 (0+((IntKind.wrap .i64 (s0.2.1-7)):Int).toNat*1)) [] (tr2:=[([],[]),([],[]),([],[]),([],[]),([],[]),([],[]),([],[]),([],[]),([],[]),([],[]),([],[]),([],[])]) hm ?_
   obtain⟨hm,h24⟩:=a0Q h23
   refine kSB 0 [([],[]),([],[]),([],[]),([],[]),([],[]),([],[]),([],[]),([],[]),([],[]),([],[]),([],[]),([],[]),([0,1],[0])] (a0x .u8) ((((k1_.getD ((IntKind.wrap .u32 (((IntKind.wrap .u32 (((IntKind.wrap .u32 (Int.tdiv ((IntKind.wrap .u32 (Int.tdiv (IntKind.wrap .u32 (Int.tmod s0.1 100000000)) 10000))) 100)))*2)))+1)):Int).toNat 0).toNat:Nat):Int)) hm ?_
   obtain⟨hm,h25⟩:=a0Q h24
   refine kQ 93 (.ptr 0 (0+((IntKind.wrap .i64 (s0.2.1-8)):Int).toNat*1)) [] (tr2:=[([],[]),([],[]),([],[]),([],[]),([],[]),([],[]),([],[]),([],[]),([],[]),([],[]),([],[]),([],[]),([0,1],[0]),([],[])]) hm ?_
   obtain⟨hm,h26⟩:=a0Q h25
   exact kSB 0 [([],[]),([],[]),([],[]),([],[]),([],[]),([],[]),([],[]),([],[]),([],[]),([],[]),([],[]),([],[]),([0,1],[0]),([],[]),([0,1],[0])] (a0x .u8) ((((k1_.getD ((IntKind.wrap .u32 (((IntKind.wrap .u32 (Int.tdiv ((IntKind.wrap .u32 (Int.tdiv (IntKind.wrap .u32 (Int.tmod s0.1 100000000)) 10000))) 100)))*2)):Int).toNat 0).toNat:Nat):Int)) hm (kEN (kM (PJ.blockNormal (kLo h26 [0,1,4]))))
  ·exact kEp 0 (kLx h2 (fun h27=>PJ.blockOut (kNo h27 [0,1,4])))
 ·refine kq (kcN h0 (fun(s2:Int×Int×(List Int))=>([(0, .sl 0 0 x0.toNat 1),(4,iL s2.1),(12, .int .u32 s2.2.1)],[.box (s2.2.2.flatMap (a0q .u8))])) (fun s2 hy1=> ?_) (fun s2 h28=> ?_))
  ·refine kq (kBT 99 hy1 (fun h29=> ?_) (fun h30=> ?_))
   ·refine kq (kq (kq (kS (kDr (kD 8 ?_)))))
    obtain⟨hm,h31⟩:=a0Q h29
    refine kQ 118 (.int .u8 (((k1_.getD ((IntKind.wrap .u32 (((IntKind.wrap .u32 (((Int.tmod (Int.tmod (IntKind.wrap .u32 s1.1) 10000) 100))*2)))+1)):Int).toNat 0).toNat:Nat):Int)) [] (tr2:=[([],[]),([],[]),([],[]),([],[]),([],[]),([],[]),([],[]),([],[]),([],[])]) hm (kD 1 ?_)
    obtain⟨hm,h32⟩:=a0Q h31
    refine kQ 120 (.int .u8 (((k1_.getD ((IntKind.wrap .u32 (((Int.tmod (Int.tmod (IntKind.wrap .u32 s1.1) 10000) 100))*2)):Int).toNat 0).toNat:Nat):Int)) [] (tr2:=[([],[]),([],[]),([],[]),([],[]),([],[]),([],[]),([],[]),([],[]),([],[]),([],[]),([],[])]) hm ?_
    obtain⟨hm,h33⟩:=a0Q h32
    refine kQ 121 (.ptr 0 (0+((IntKind.wrap .i64 (s1.2.1-1)):Int).toNat*1)) [] (tr2:=[([],[]),([],[]),([],[]),([],[]),([],[]),([],[]),([],[]),([],[]),([],[]),([],[]),([],[]),([],[])]) hm ?_
    obtain⟨hm,h34⟩:=a0Q h33
    refine kSB 0 [([],[]),([],[]),([],[]),([],[]),([],[]),([],[]),([],[]),([],[]),([],[]),([],[]),([],[]),([],[]),([0,1],[0])] (a0x .u8) ((((k1_.getD ((IntKind.wrap .u32 (((IntKind.wrap .u32 (((Int.tmod (Int.tmod (IntKind.wrap .u32 s1.1) 10000) 100))*2)))+1)):Int).toNat 0).toNat:Nat):Int)) hm ?_
    obtain⟨hm,h35⟩:=a0Q h34
    refine kQ 122 (.ptr 0 (0+((IntKind.wrap .i64 (s1.2.1-2)):Int).toNat*1)) [] (tr2:=[([],[]),([],[]),([],[]),([],[]),([],[]),([],[]),([],[]),([],[]),([],[]),([],[]),([],[]),([],[]),([0,1],[0]),([],[])]) hm ?_
    obtain⟨hm,h36⟩:=a0Q h35
    refine kSB 0 [([],[]),([],[]),([],[]),([],[]),([],[]),([],[]),([],[]),([],[]),([],[]),([],[]),([],[]),([],[]),([0,1],[0]),([],[]),([0,1],[0])] (a0x .u8) ((((k1_.getD ((IntKind.wrap .u32 (((Int.tmod (Int.tmod (IntKind.wrap .u32 s1.1) 10000) 100))*2)):Int).toNat 0).toNat:Nat):Int)) hm (kEN (kS (kDr (kD 8 ?_))))
    obtain⟨hm,h37⟩:=a0Q h36
    refine kQ 131 (.int .u8 (((k1_.getD ((IntKind.wrap .u32 (((IntKind.wrap .u32 (((IntKind.wrap .u32 (Int.tdiv (Int.tmod (IntKind.wrap .u32 s1.1) 10000) 100)))*2)))+1)):Int).toNat 0).toNat:Nat):Int)) [] (tr2:=[([],[]),([],[]),([],[]),([],[]),([],[]),([],[]),([],[]),([],[]),([],[])]) hm (kD 1 ?_)
    obtain⟨hm,h38⟩:=a0Q h37
    refine kQ 133 (.int .u8 (((k1_.getD ((IntKind.wrap .u32 (((IntKind.wrap .u32 (Int.tdiv (Int.tmod (IntKind.wrap .u32 s1.1) 10000) 100)))*2)):Int).toNat 0).toNat:Nat):Int)) [] (tr2:=[([],[]),([],[]),([],[]),([],[]),([],[]),([],[]),([],[]),([],[]),([],[]),([],[]),([],[])]) hm ?_
    obtain⟨hm,h39⟩:=a0Q h38
    refine kQ 134 (.ptr 0 (0+((IntKind.wrap .i64 (s1.2.1-3)):Int).toNat*1)) [] (tr2:=[([],[]),([],[]),([],[]),([],[]),([],[]),([],[]),([],[]),([],[]),([],[]),([],[]),([],[]),([],[])]) hm ?_
    obtain⟨hm,h40⟩:=a0Q h39
    refine kSB 0 [([],[]),([],[]),([],[]),([],[]),([],[]),([],[]),([],[]),([],[]),([],[]),([],[]),([],[]),([],[]),([0,1],[0])] (a0x .u8) ((((k1_.getD ((IntKind.wrap .u32 (((IntKind.wrap .u32 (((IntKind.wrap .u32 (Int.tdiv (Int.tmod (IntKind.wrap .u32 s1.1) 10000) 100)))*2)))+1)):Int).toNat 0).toNat:Nat):Int)) hm ?_
    obtain⟨hm,h41⟩:=a0Q h40
    refine kQ 135 (.ptr 0 (0+((IntKind.wrap .i64 (s1.2.1-4)):Int).toNat*1)) [] (tr2:=[([],[]),([],[]),([],[]),([],[]),([],[]),([],[]),([],[]),([],[]),([],[]),([],[]),([],[]),([],[]),([0,1],[0]),([],[])]) hm ?_
    obtain⟨hm,h42⟩:=a0Q h41
    exact kSB 0 [([],[]),([],[]),([],[]),([],[]),([],[]),([],[]),([],[]),([],[]),([],[]),([],[]),([],[]),([],[]),([0,1],[0]),([],[]),([0,1],[0])] (a0x .u8) ((((k1_.getD ((IntKind.wrap .u32 (((IntKind.wrap .u32 (Int.tdiv (Int.tmod (IntKind.wrap .u32 s1.1) 10000) 100)))*2)):Int).toNat 0).toNat:Nat):Int)) hm (kEN (kM (kNo h42 [0,4,12])))
   ·exact kK (kNo h30 [0,4,12])
  ·refine kcN h28 (fun(s3:Int×Int×(List Int))=>([(0, .sl 0 0 x0.toNat 1),(4,iL s3.1),(12, .int .u32 s3.2.1)],[.box (s3.2.2.flatMap (a0q .u8))])) (fun s3 hy2=> ?_) (fun s3 h43=> ?_)
   ·refine kq (kBT 139 hy2 (fun h44=> ?_) (fun h45=> ?_))
    ·refine kq (kq (kS (kDr (kD 8 ?_))))
     obtain⟨hm,h46⟩:=a0Q h44
     refine kQ 153 (.int .u8 (((k1_.getD ((IntKind.wrap .u32 (((IntKind.wrap .u32 ((Int.tmod s2.2.1 100)*2)))+1)):Int).toNat 0).toNat:Nat):Int)) [] (tr2:=[([],[]),([],[]),([],[]),([],[]),([],[]),([],[]),([],[]),([],[]),([],[])]) hm (kD 1 ?_)
     obtain⟨hm,h47⟩:=a0Q h46
     refine kQ 155 (.int .u8 (((k1_.getD ((IntKind.wrap .u32 ((Int.tmod s2.2.1 100)*2)):Int).toNat 0).toNat:Nat):Int)) [] (tr2:=[([],[]),([],[]),([],[]),([],[]),([],[]),([],[]),([],[]),([],[]),([],[]),([],[]),([],[])]) hm ?_
     obtain⟨hm,h48⟩:=a0Q h47
     refine kQ 156 (.ptr 0 (0+((IntKind.wrap .i64 (s2.1-1)):Int).toNat*1)) [] (tr2:=[([],[]),([],[]),([],[]),([],[]),([],[]),([],[]),([],[]),([],[]),([],[]),([],[]),([],[]),([],[])]) hm ?_
     obtain⟨hm,h49⟩:=a0Q h48
     refine kSB 0 [([],[]),([],[]),([],[]),([],[]),([],[]),([],[]),([],[]),([],[]),([],[]),([],[]),([],[]),([],[]),([0,1],[0])] (a0x .u8) ((((k1_.getD ((IntKind.wrap .u32 (((IntKind.wrap .u32 ((Int.tmod s2.2.1 100)*2)))+1)):Int).toNat 0).toNat:Nat):Int)) hm ?_
     obtain⟨hm,h50⟩:=a0Q h49
     refine kQ 157 (.ptr 0 (0+((IntKind.wrap .i64 (s2.1-2)):Int).toNat*1)) [] (tr2:=[([],[]),([],[]),([],[]),([],[]),([],[]),([],[]),([],[]),([],[]),([],[]),([],[]),([],[]),([],[]),([0,1],[0]),([],[])]) hm ?_
     obtain⟨hm,h51⟩:=a0Q h50
     exact kSB 0 [([],[]),([],[]),([],[]),([],[]),([],[]),([],[]),([],[]),([],[]),([],[]),([],[]),([],[]),([],[]),([0,1],[0]),([],[]),([0,1],[0])] (a0x .u8) ((((k1_.getD ((IntKind.wrap .u32 ((Int.tmod s2.2.1 100)*2)):Int).toNat 0).toNat:Nat):Int)) hm (kEN (kM (kNo h51 [0,4,12])))
    ·exact kK (kNo h45 [0,4,12])
   ·refine kq (kBT 161 h43 (fun h52=> ?_) (fun h53=> ?_))
    ·refine km 4 ?_
     obtain⟨hm,h54⟩:=a0Q h52
     refine kQ 166 (.ptr 0 (0+(0:Int).toNat*1)) [] (tr2:=[]) hm ?_
     obtain⟨hm,h55⟩:=a0Q h54
     exact kSB 0 [] (a0x .u8) ((IntKind.wrap .u8 (IntKind.wrap .u32 (48+s3.2.1)))) hm (kE (by obtain rfl:=oi h55;exact K.retV (H0:=[.box (x2.flatMap (a0q .u8))]) [0] (.inl rfl) H D W (by kernel_rfl) (v1:= .tup []) (by kernel_rfl) (by kernel_rfl) (by simp only[ah,av,n0Q (enc:=(a0q .u8)) (fun _ _=>rfl)];kernel_rfl) (by decide) (by simp only[aB,aG,m0j (enc:=(a0q .u8)) (fun _ _=>rfl)];kernel_rfl) (by kernel_rfl) (by kernel_rfl) (by kernel_rfl) (by kernel_rfl)))
    ·exact kK (by obtain rfl:=oi h53;exact K.retV (H0:=[.box (x2.flatMap (a0q .u8))]) [0] (.inl rfl) H D W (by kernel_rfl) (v1:= .tup []) (by kernel_rfl) (by kernel_rfl) (by simp only[ah,av,n0Q (enc:=(a0q .u8)) (fun _ _=>rfl)];kernel_rfl) (by decide) (by simp only[aB,aG,m0j (enc:=(a0q .u8)) (fun _ _=>rfl)];kernel_rfl) (by kernel_rfl) (by kernel_rfl) (by kernel_rfl) (by kernel_rfl))
def c0G(x0:List Int)(x1 x2:Int):Option (List Int):=
 (bif(decide (x2=10))then(bif(decide (x1<100))then(Option.bind (d0W (IntKind.wrap .i64 x1)) fun y2=>(bif room (x0.length+y2.length)then(some (x0++(a0k y2)))else none))else(Option.bind (d0e x1) fun y0=>(bif inS 0 y0 24 then(Option.bind (b0J (y0:Int) x1 (rep 24 (0:Int))) fun y1=>(bif inS 0 y0 24 then(bif(inS ((0:Nat):Int) (((0:Nat):Int)+(y0:Int)) y1.length&&i0k (x0.length+(y0:Int).toNat))then(some (x0++(cut y1 ((0:Nat):Int) (((0:Nat):Int)+(y0:Int)))))else none)else none))else none)))else none)
theorem h0g {x0:List Int} {x1 x2:Int} {r:List Int} (h:c0G x0 x1 x2=some r):SQ 213 [.vc 0, .int .u64 x1,iL x2] [a0A (a0q .u8) 1 5 x0] (.vc 1) [.gone,a0A (a0q .u8) 1 5 r]:=by
 refine kFn (fn:=Tryz.f213) (fun F H D W=> ?_)
 unfold c0G at h
 refine kq (kS (kq (kBT 10 h (fun h0=> ?_) (fun h1=> ?_))))
 ·refine kS (kq (kBT 12 h0 (fun h2=> ?_) (fun h3=> ?_)))
  ·refine kn 3 (kAb 16 h2 (fun _=>l0E) (fun y2 h4=> ?_))
   obtain⟨hm,h5⟩:=a0Q h4
   exact RJ.rel (d:=(some 17)) (ef:=⟨.vc 1,[0],[(0, .gone),(1, .vec (x0.length+y2.length) 1 5 (x0.flatMap (a0q .u8)++y2.map f0a))]⟩) (ef':=⟨.vc 1,[0],[(0, .gone),(1,a0A (a0q .u8) 1 5 (x0++(a0k y2)))]⟩) (c:=i0k (x0.length+y2.length)) (tr2:=[]) (H2:=[.gone,a0A (a0q .u8) 1 5 (x0++(a0k y2))]) (by kernel_rfl) (c0c hm) (fun hc=>(by rw[g0J,←a0K y2];exact N.app)) (by kernel_rfl) (kr 1 (kX (PJ.passRet (PJ.passRet (by obtain rfl:=oi h5;exact kRV [0,1] (.inr rfl) H D W)))))
  ·refine kKN (kq (kn 1 (kAb 19 h3 (fun _=>j0y) (fun y0 h6=>kr 1 (kn 1 ?_)))))
   obtain⟨hm,h7⟩:=a0Q h6
   refine RJ.relS (d:=(some 21)) (ef':=⟨.sl 1 0 (y0:Int).toNat 1,[],[]⟩) (tr2:=[]) (H2:=[a0A (a0q .u8) 1 5 x0, .box ((rep 24 (0:Int)).flatMap (a0q .u8))]) (by kernel_rfl) hm (fun hc=>rfl) (by kernel_rfl) (kc 1 ?_)
   obtain⟨y1,hy0,h8⟩:=a0d h7
   refine RJ.callG (d:=(some 23)) (f:=218) (args:=[.sl 1 0 (y0:Int).toNat 1, .int .u64 x1]) (args0:=[.sl 0 0 (y0:Int).toNat 1, .int .u64 x1]) (v0:= .tup []) (v:= .tup []) (tr2:=[]) (H0:=[.box ((rep 24 (0:Int)).flatMap (a0q .u8))]) (H0':=[.box (y1.flatMap (a0q .u8))]) (H2:=[a0A (a0q .u8) 1 5 x0, .box (y1.flatMap (a0q .u8))]) [1] (by kernel_rfl) (by kernel_rfl) (by kernel_rfl) (by simp only[ah,av,n0Q (enc:=(a0q .u8)) (fun _ _=>rfl)];kernel_rfl) (by decide) (by simp only[aB,aG,m0j (enc:=(a0q .u8)) (fun _ _=>rfl)];kernel_rfl) (by kernel_rfl) (by kernel_rfl) (LeL.refl _) (g0u hy0) (by kernel_rfl) (by kernel_rfl) ((show d0x (b0L [1]) 1 _ [.box (y1.flatMap (a0q .u8))]=[a0A (a0q .u8) 1 5 x0,Ent.rn (gOf (b0L [1]) 1 2) (.box (y1.flatMap (a0q .u8)))] by kernel_rfl).trans (by simp only[n0Q (enc:=(a0q .u8)) (fun _ _=>rfl)])) (kEN (kSR (RJ.seg 2 [0,1,2,6,7,24,25] (L2:=[(0, .vc 0),(1, .int .u64 x1),(2,iL x2),(6, .nl),(7, .ptr 1 0),(24, .vc 0),(25,iL y0)]) (H2:=[a0A (a0q .u8) 1 5 x0, .box (y1.flatMap (a0q .u8))]) (by kernel_rfl) ?_)))
   obtain⟨hm,h9⟩:=a0Q h8
   refine RJ.relS (d:=(some 26)) (ef':=⟨.sl 1 0 (y0:Int).toNat 1,[],[]⟩) (tr2:=[]) (H2:=[a0A (a0q .u8) 1 5 x0, .box (y1.flatMap (a0q .u8))]) (by kernel_rfl) hm (fun hc=>rfl) (by kernel_rfl) ?_
   obtain⟨hm,h10⟩:=a0Q h9
   exact RJ.relS (d:=(some 27)) (ef:=⟨.vc 2,[0,1],[(0, .gone),(2, .vec (x0.length+(y0:Int).toNat) 1 5 (x0.flatMap (a0q .u8)++((y1.flatMap (a0q .u8)).drop (0*1)).take ((y0:Int).toNat*1)))]⟩) (ef':=⟨.vc 2,[0,1],[(0, .gone),(2,a0A (a0q .u8) 1 5 (x0++(cut y1 ((0:Nat):Int) (((0:Nat):Int)+(y0:Int)))))]⟩) (c:=(Nat.ble (0*1+(y0:Int).toNat*1) (y1.flatMap (a0q .u8)).length&&(a0Y (((y1.flatMap (a0q .u8)).drop (0*1)).take ((y0:Int).toNat*1))&&i0k (x0.length+(y0:Int).toNat)))) (tr2:=[]) (H2:=[.gone, .box (y1.flatMap (a0q .u8)),a0A (a0q .u8) 1 5 ((x0++(cut y1 ((0:Nat):Int) (((0:Nat):Int)+(y0:Int)))))]) (by kernel_rfl) (y0L (o:=0) (a0x .u8) (fun _=>rfl) (bz.1 hm).1 (bz.1 hm).2) (fun hc=>N.appB (o:=0) (a0x .u8) (bz.1 hm).1) (by kernel_rfl) (kr 1 (kX (PJ.passRet (by obtain rfl:=oi h10;exact kRV [0,2] (.inr rfl) H D W))))
 ·refine kKN (kn 3 ?_)
  cases h1
def c0H(x0:List Int)(x1 x2:Int):Option (List Int):=
 (Option.bind (bif(decide (x1<0))then(bif room (x0.length+([45]:List Int).length)then(some ((IntKind.wrap .u64 (0-(IntKind.wrap .u64 x1))),(x0++([45]:List Int))))else none)else(some ((IntKind.wrap .u64 x1),x0))) fun(s0:Int×(List Int))=>(Option.bind (c0G s0.2 s0.1 x2) fun y0=>(some y0)))
theorem g0b {x0:List Int} {x1 x2:Int} {r:List Int} (h:c0H x0 x1 x2=some r):SQ 208 [.vc 0,iL x1,iL x2] [a0A (a0q .u8) 1 5 x0] (.vc 1) [.gone,a0A (a0q .u8) 1 5 r]:=by
 refine kFn (fn:=Tryz.f208) (fun F H D W=> ?_)
 unfold c0H at h
 refine J.wk (Wk.move 0 (n:=x0.length) (k:=1) (e:=5) (cs:=x0.flatMap (a0q .u8)) (by kernel_rfl)) (kq (kq (kcN h (fun(s0:Int×(List Int))=>([(0, .vc 1),(2,iL x2),(6, .nl),(7, .int .u64 s0.1)],[.gone,a0A (a0q .u8) 1 5 s0.2])) (fun s0 hy0=> ?_) (fun s0 h0=> ?_))))
 ·refine kq (kBT 11 hy0 (fun h1=> ?_) (fun h2=> ?_))
  ·refine kn 2 ?_
   obtain⟨hm,h3⟩:=a0Q h1
   exact RJ.rel (d:=(some 14)) (ef:=⟨.vc 3,[1,2],[(1, .gone),(3, .vec (x0.length+([45]:List Int).length) 1 5 (x0.flatMap (a0q .u8)++([45]:List Int).flatMap (a0q .u8)))]⟩) (ef':=⟨.vc 3,[1,2],[(1, .gone),(3,a0A (a0q .u8) 1 5 (x0++([45]:List Int)))]⟩) (c:=i0k (x0.length+([45]:List Int).length)) (tr2:=[]) (H2:=[.gone, .gone,a0A (a0q .u8) 1 5 ([45]:List Int),a0A (a0q .u8) 1 5 (x0++([45]:List Int))]) (by kernel_rfl) (c0c hm) (fun hc=>N.app) (by kernel_rfl) (kr 1 (kM (kNW h3 D W [0,3])))
  ·exact kK (kNo h2 [0,2,6,7])
 ·refine kn 3 ?_
  obtain⟨y0,hy1,h4⟩:=a0d h0
  exact kCg (some 20) [1] (h0g hy1) (kr 1 (kX (by obtain rfl:=oi h4;exact kRV [0,2] (.inr rfl) H D W)))
def a0V(x0:List Int)(x1 x2:Int):Option (List Int):=
 (Option.bind (c0H x0 x1 x2) fun y0=>(some y0))
theorem d0p {x0:List Int} {x1 x2:Int} {r:List Int} (h:a0V x0 x1 x2=some r):SQ 198 [.vc 0,iL x1,iL x2] [a0A (a0q .u8) 1 5 x0] (.vc 1) [.gone,a0A (a0q .u8) 1 5 r]:=by
 refine kFn (fn:=Tryz.f198) (fun F H D W=> ?_)
 unfold a0V at h
 refine kq (kn 3 ?_)
 obtain⟨y0,hy0,h0⟩:=a0d h
 exact kCg (some 10) [0] (g0b hy0) (kr 1 (kX (by obtain rfl:=oi h0;exact kRV [0,1] (.inr rfl) H D W)))
def c0I(x0:List Int)(x1:a0e):Option (List Int):=
 (bif room (x0.length+([x1.p_]:List Int).length)then(Option.bind (bif(decide (¬x1.v_=0))then(bif room ((x0++([x1.p_]:List Int)).length+([32,37,32]:List UInt8).length)then(Option.bind (a0V (((x0++([x1.p_]:List Int))++(a0k ([32,37,32]:List UInt8)))) x1.v_ 10) fun y1=>(some y1))else none)else(some (x0++([x1.p_]:List Int)))) fun(s1:(List Int))=>(Option.bind (bif x1.K_ then(bif room (s1.length+([32,33,61,32]:List UInt8).length)then(some ((s1++(a0k ([32,33,61,32]:List UInt8)))))else none)else(bif room (s1.length+([32,61,32]:List UInt8).length)then(some ((s1++(a0k ([32,61,32]:List UInt8)))))else none)) fun(s2:(List Int))=>(Option.bind (a0l (fun(s0:Int×(List Int))=>(bif(decide (s0.1<(x1.R_.length:Int)))then(Option.bind (bif inR s0.1 x1.R_.length then(Option.bind (bif(decide (s0.1>0))then(bif room (s0.2.length+([44]:List Int).length)then(some (s0.2++([44]:List Int)))else none)else(some s0.2)) fun(s3:(List Int))=>(Option.bind (a0V s3 ((nth x1.R_ s0.1).e_) 10) fun y0=>(bif(decide (¬((nth x1.R_ s0.1).e_)=((nth x1.R_ s0.1).f_)))then(bif room (y0.length+([46,46]:List UInt8).length)then(Option.bind (a0V ((y0++(a0k ([46,46]:List UInt8)))) ((nth x1.R_ s0.1).f_) 10) fun y2=>(some y2))else none)else(some y0))))else none) fun(s4:(List Int))=>(some (.inl ((IntKind.wrap .i64 (s0.1+1)),s4))))else(some (.inr s0.2)))) big (0,s2)) fun(s5:(List Int))=>(some s5))))else none)
theorem j0Y {x0:List Int} {x1:a0e} {r:List Int} (h:c0I x0 x1=some r):SQ 176 [.vc 0, .agg (a0b x1)] [a0A (a0q .u8) 1 5 x0] (.vc 1) [.gone,a0A (a0q .u8) 1 5 r]:=by
 refine kFn (fn:=Tryz.f176) (fun F H D W=> ?_)
 unfold c0I at h
 refine kq (kn 4 ?_)
 obtain⟨hm,h0⟩:=a0Q h
 refine RJ.rel (d:=(some 11)) (ef:=⟨.vc 3,[0,2],[(0, .gone),(3, .vec (x0.length+([x1.p_]:List Int).length) 1 5 (x0.flatMap (a0q .u8)++([x1.p_]:List Int).flatMap (a0q .u8)))]⟩) (ef':=⟨.vc 3,[0,2],[(0, .gone),(3,a0A (a0q .u8) 1 5 (x0++([x1.p_]:List Int)))]⟩) (c:=i0k (x0.length+([x1.p_]:List Int).length)) (tr2:=[]) (H2:=[.gone, .box (a0b x1),a0A (a0q .u8) 1 5 ([x1.p_]:List Int),a0A (a0q .u8) 1 5 (x0++([x1.p_]:List Int))]) (by kernel_rfl) (c0c hm) (fun hc=>N.app) (by kernel_rfl) (kr 1 (kcN h0 (fun(s1:(List Int))=>([(0, .vc 1),(3, .ptr 2 0),(4, .nl)],[.gone,a0A (a0q .u8) 1 5 s1, .box (a0b x1)])) (fun s1 hy0=> ?_) (fun s1 h1=> ?_)))
 ·refine kq (kBT 14 hy0 (fun h2=> ?_) (fun h3=> ?_))
  ·refine kn 1 ?_
   obtain⟨hm,h4⟩:=a0Q h2
   refine RJ.rel (d:=(some 16)) (ef:=⟨.vc 4,[3],[(3, .gone),(4, .vec ((x0++([x1.p_]:List Int)).length+([32,37,32]:List UInt8).length) 1 5 ((x0++([x1.p_]:List Int)).flatMap (a0q .u8)++([32,37,32]:List UInt8).map f0a))]⟩) (ef':=⟨.vc 4,[3],[(3, .gone),(4,a0A (a0q .u8) 1 5 ((x0++([x1.p_]:List Int))++(a0k ([32,37,32]:List UInt8))))]⟩) (c:=i0k ((x0++([x1.p_]:List Int)).length+([32,37,32]:List UInt8).length)) (tr2:=[]) (H2:=[.gone, .box (a0b x1),a0A (a0q .u8) 1 5 ([x1.p_]:List Int), .gone,a0A (a0q .u8) 1 5 (((x0++([x1.p_]:List Int))++(a0k ([32,37,32]:List UInt8))))]) (by kernel_rfl) (c0c hm) (fun hc=>(by rw[g0J,←a0K ([32,37,32]:List UInt8)];exact N.app)) (by kernel_rfl) (kr 1 (km 3 ?_))
   obtain⟨y1,hy1,h5⟩:=a0d h4
   exact kCg (some 20) [4] (d0p hy1) (ke 1 (kNW h5 D W [0,5,1]))
  ·exact kK (kNW h3 D W [0,3,1])
 ·refine kcN h1 (fun(s2:(List Int))=>([(0, .vc 1),(3, .ptr 2 0),(4, .nl)],[.gone,a0A (a0q .u8) 1 5 s2, .box (a0b x1)])) (fun s2 hy2=> ?_) (fun s2 h6=> ?_)
  ·refine kq (kBT 22 hy2 (fun h7=> ?_) (fun h8=> ?_))
   ·refine km 1 ?_
    obtain⟨hm,h9⟩:=a0Q h7
    exact RJ.rel (d:=(some 24)) (ef:=⟨.vc 3,[1],[(1, .gone),(3, .vec (s1.length+([32,33,61,32]:List UInt8).length) 1 5 (s1.flatMap (a0q .u8)++([32,33,61,32]:List UInt8).map f0a))]⟩) (ef':=⟨.vc 3,[1],[(1, .gone),(3,a0A (a0q .u8) 1 5 (s1++(a0k ([32,33,61,32]:List UInt8))))]⟩) (c:=i0k (s1.length+([32,33,61,32]:List UInt8).length)) (tr2:=[]) (H2:=[.gone, .gone, .box (a0b x1),a0A (a0q .u8) 1 5 ((s1++(a0k ([32,33,61,32]:List UInt8))))]) (by kernel_rfl) (c0c hm) (fun hc=>(by rw[g0J,←a0K ([32,33,61,32]:List UInt8)];exact N.app)) (by kernel_rfl) (ke 1 (kNW h9 D W [0,3,2]))
   ·refine km 1 ?_
    obtain⟨hm,h10⟩:=a0Q h8
    exact RJ.rel (d:=(some 26)) (ef:=⟨.vc 3,[1],[(1, .gone),(3, .vec (s1.length+([32,61,32]:List UInt8).length) 1 5 (s1.flatMap (a0q .u8)++([32,61,32]:List UInt8).map f0a))]⟩) (ef':=⟨.vc 3,[1],[(1, .gone),(3,a0A (a0q .u8) 1 5 (s1++(a0k ([32,61,32]:List UInt8))))]⟩) (c:=i0k (s1.length+([32,61,32]:List UInt8).length)) (tr2:=[]) (H2:=[.gone, .gone, .box (a0b x1),a0A (a0q .u8) 1 5 ((s1++(a0k ([32,61,32]:List UInt8))))]) (by kernel_rfl) (c0c hm) (fun hc=>(by rw[g0J,←a0K ([32,61,32]:List UInt8)];exact N.app)) (by kernel_rfl) (ke 1 (kNW h10 D W [0,3,2]))
  ·refine kcN h6 (fun(s5:(List Int))=>([(0, .vc 1),(4, .nl)],[.gone,a0A (a0q .u8) 1 5 s5])) (fun s5 hy3=> ?_) (fun s5 h11=> ?_)
   ·refine kq (kb 0 (J.wk (Wk.sel (L2:=[(0, .vc 1),(4, .nl),(28,lsv a0H 2 x1.R_),(29,iL (x1.R_.length:Int)),(30,iL 0)]) (H2:=[.gone,a0A (a0q .u8) 1 5 s2]) 1 (by rw[D];rfl) W [0,1] (by kernel_rfl) (by kernel_rfl) (by decide) (by kernel_rfl) (by kernel_rfl) (by kernel_rfl) (by kernel_rfl)) (kl (fun(s0:Int×(List Int))=>([(0, .vc 1),(4, .nl),(28,lsv a0H 2 x1.R_),(29,iL (x1.R_.length:Int)),(30,iL s0.1)],[.gone,a0A (a0q .u8) 1 5 s0.2])) hy3 [0,4,28,29,30] (fun s0 x336 hs0=>kq (kS (kBT 31 hs0 (fun h12=> ?_) (fun h13=> ?_)))))))
    ·refine kKN (kcN h12 (fun(s4:(List Int))=>([(0, .vc 1),(4, .nl),(28,lsv a0H 2 x1.R_),(29,iL (x1.R_.length:Int)),(30,iL s0.1)],[.gone,a0A (a0q .u8) 1 5 s4])) (fun s4 hy4=> ?_) (fun s4 h14=> ?_))
     ·refine kb 1 (kn 1 (kIb 33 c0S hy4 (fun h15=>kr 4 (kcN h15 (fun(s3:(List Int))=>([(0, .vc 1),(4, .nl),(6, .ptr 2 0),(28,lsv a0H 2 x1.R_),(29,iL (x1.R_.length:Int)),(30,iL s0.1)],[.gone,a0A (a0q .u8) 1 5 s3, .box [iL ((nth x1.R_ s0.1).e_),iL ((nth x1.R_ s0.1).f_)]])) (fun s3 hy5=> ?_) (fun s3 h16=> ?_)))))
      ·refine kq (kBT 36 hy5 (fun h17=> ?_) (fun h18=> ?_))
       ·refine km 2 ?_
        obtain⟨hm,h19⟩:=a0Q h17
        exact RJ.rel (d:=(some 39)) (ef:=⟨.vc 4,[1,3],[(1, .gone),(4, .vec (s0.2.length+([44]:List Int).length) 1 5 (s0.2.flatMap (a0q .u8)++([44]:List Int).flatMap (a0q .u8)))]⟩) (ef':=⟨.vc 4,[1,3],[(1, .gone),(4,a0A (a0q .u8) 1 5 (s0.2++([44]:List Int)))]⟩) (c:=i0k (s0.2.length+([44]:List Int).length)) (tr2:=[]) (H2:=[.gone, .gone, .box [iL ((nth x1.R_ s0.1).e_),iL ((nth x1.R_ s0.1).f_)],a0A (a0q .u8) 1 5 ([44]:List Int),a0A (a0q .u8) 1 5 (s0.2++([44]:List Int))]) (by kernel_rfl) (c0c hm) (fun hc=>N.app) (by kernel_rfl) (ke 1 (kNW h19 D W [0,4,2]))
       ·exact kK (kNo h18 [0,4,6,28,29,30])
      ·refine kn 3 ?_
       obtain⟨y0,hy6,h20⟩:=a0d h16
       refine kCg (some 43) [1] (d0p hy6) (kr 1 (kq (kBT 48 h20 (fun h21=> ?_) (fun h22=> ?_))))
       ·refine kn 1 ?_
        obtain⟨hm,h23⟩:=a0Q h21
        refine RJ.rel (d:=(some 50)) (ef:=⟨.vc 4,[3],[(3, .gone),(4, .vec (y0.length+([46,46]:List UInt8).length) 1 5 (y0.flatMap (a0q .u8)++([46,46]:List UInt8).map f0a))]⟩) (ef':=⟨.vc 4,[3],[(3, .gone),(4,a0A (a0q .u8) 1 5 (y0++(a0k ([46,46]:List UInt8))))]⟩) (c:=i0k (y0.length+([46,46]:List UInt8).length)) (tr2:=[]) (H2:=[.gone, .gone, .box [iL ((nth x1.R_ s0.1).e_),iL ((nth x1.R_ s0.1).f_)], .gone,a0A (a0q .u8) 1 5 ((y0++(a0k ([46,46]:List UInt8))))]) (by kernel_rfl) (c0c hm) (fun hc=>(by rw[g0J,←a0K ([46,46]:List UInt8)];exact N.app)) (by kernel_rfl) (kr 1 (km 3 ?_))
        obtain⟨y2,hy7,h24⟩:=a0d h23
        exact kCg (some 54) [4] (d0p hy7) (ke 1 (PJ.blockNormal (kNW h24 D W [0,5])))
       ·exact kKb (kNW h22 D W [0,3])
     ·exact kM (kLo h14 [0,4,28,29,30])
    ·exact kEp 0 (kLx h13 (fun h25=>PJ.blockOut (kNo h25 [0,4])))
   ·exact kq (kX (by obtain rfl:=oi h11;exact kRV [0,1] (.inr rfl) H D W))
end Go.Proofs.YtcapcgbamehojaaGreatDoor
