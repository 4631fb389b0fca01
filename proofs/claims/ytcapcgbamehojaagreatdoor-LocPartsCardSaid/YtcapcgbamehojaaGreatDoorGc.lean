/-
  What the functions of this program come to, as functions of natives, each with the proof that it does. No conditions.
-/
import Derived.Test.YtcapcgbamehojaaGreatDoorProg
import Derived.Test.YtcapcgbamehojaaGreatDoorSySL
import Derived.Test.YtcapcgbamehojaaGreatDoorGb
namespace Go.Proofs.YtcapcgbamehojaaGreatDoor
open Go Go.Sy Go.RowKit
set_option linter.unusedVariables false
set_option linter.unusedSimpArgs false
set_option maxRecDepth 100000
set_option maxHeartbeats 4000000
def g0d(x0:List (List a0e)):Option (List UInt8):=
 (Option.bind (a0l (fun(s1:Int×(List Int))=>(bif(decide (s1.1<(x0.length:Int)))then(Option.bind (bif inR s1.1 x0.length then(a0l (fun(s0:Int×(List Int))=>(bif(decide (s0.1<((nth x0 s1.1).length:Int)))then(Option.bind (bif inR s0.1 (nth x0 s1.1).length then(Option.bind (bif(decide ((s0.2.length:Int)=0))then(some s0.2)else(bif(decide (s0.1=0))then(bif room (s0.2.length+([32,111,114,32]:List UInt8).length)then(some ((s0.2++(a0k ([32,111,114,32]:List UInt8)))))else none)else(bif room (s0.2.length+([32,97,110,100,32]:List UInt8).length)then(some ((s0.2++(a0k ([32,97,110,100,32]:List UInt8)))))else none))) fun(s3:(List Int))=>(Option.bind (c0I s3 (nth (nth x0 s1.1) s0.1)) fun y0=>(some y0)))else none) fun(s4:(List Int))=>(some (.inl ((IntKind.wrap .i64 (s0.1+1)),s4))))else(some (.inr s0.2)))) big (0,s1.2))else none) fun(s5:(List Int))=>(some (.inl ((IntKind.wrap .i64 (s1.1+1)),s5))))else(some (.inr s1.2)))) big (0,([]:List Int))) fun(s2:(List Int))=>(some (b0s s2)))
theorem o0R {x0:List (List a0e)} {r:List UInt8} (h:g0d x0=some r):SQ 156 [lsv (c0q a0b 4) 1 x0] [] (.str r) []:=by
 refine kFn (fn:=Tryz.f156) (fun F H D W=> ?_)
 unfold g0d at h
 refine kq (kq (kcN h (fun(s2:(List Int))=>([(2, .str ([]:List UInt8)),(3, .vc 0)],[a0A (a0q .u8) 1 5 s2])) (fun s2 hy0=> ?_) (fun s2 h0=> ?_)))
 ·refine kq (kb 0 (J.wk (Wk.viv 3 1 5 (by kernel_rfl)) (kl (fun(s1:Int×(List Int))=>([(2, .str ([]:List UInt8)),(3, .vc 0),(8,lsv (c0q a0b 4) 1 x0),(9,iL (x0.length:Int)),(10,iL s1.1)],[a0A (a0q .u8) 1 5 s1.2])) hy0 [2,3,8,9,10] (fun s1 x1901 hs0=>kq (kS (kBT 11 hs0 (fun h1=> ?_) (fun h2=> ?_)))))))
  ·refine kKN (kcN h1 (fun(s5:(List Int))=>([(2, .str ([]:List UInt8)),(3, .vc 0),(8,lsv (c0q a0b 4) 1 x0),(9,iL (x0.length:Int)),(10,iL s1.1)],[a0A (a0q .u8) 1 5 s5])) (fun s5 hy1=> ?_) (fun s5 h3=> ?_))
   ·refine kb 1 (kSR (kIb 12 (e0Z a0b 4) hy1 (fun h4=>kr 2 (kq (kb 2 (kl (fun(s0:Int×(List Int))=>([(2, .str ([]:List UInt8)),(3, .vc 0),(8,lsv (c0q a0b 4) 1 x0),(9,iL (x0.length:Int)),(10,iL s1.1),(14,lsv a0b 4 (nth x0 s1.1)),(15,iL ((nth x0 s1.1).length:Int)),(16,iL s0.1)],[a0A (a0q .u8) 1 5 s0.2])) h4 [2,3,8,9,10,14,15,16] (fun s0 x2217 hs1=>kq (kS (kBT 17 hs1 (fun h5=> ?_) (fun h6=> ?_))))))))))
    ·refine kKN (kcN h5 (fun(s4:(List Int))=>([(2, .str ([]:List UInt8)),(3, .vc 0),(8,lsv (c0q a0b 4) 1 x0),(9,iL (x0.length:Int)),(10,iL s1.1),(14,lsv a0b 4 (nth x0 s1.1)),(15,iL ((nth x0 s1.1).length:Int)),(16,iL s0.1)],[a0A (a0q .u8) 1 5 s4])) (fun s4 hy2=> ?_) (fun s4 h7=> ?_))
     ·refine kb 3 (kn 1 (kIb 19 d0S hy2 (fun h8=>kr 4 (kcN h8 (fun(s3:(List Int))=>([(2, .str ([]:List UInt8)),(3, .vc 0),(7, .ptr 1 0),(8,lsv (c0q a0b 4) 1 x0),(9,iL (x0.length:Int)),(10,iL s1.1),(14,lsv a0b 4 (nth x0 s1.1)),(15,iL ((nth x0 s1.1).length:Int)),(16,iL s0.1)],[a0A (a0q .u8) 1 5 s3, .box [.int .u8 ((nth (nth x0 s1.1) s0.1).p_),iL ((nth (nth x0 s1.1) s0.1).v_), .bool ((nth (nth x0 s1.1) s0.1).K_),lsv a0H 2 ((nth (nth x0 s1.1) s0.1).R_)]])) (fun s3 hy3=> ?_) (fun s3 h9=> ?_)))))
      ·refine kb 4 (kq (kBT 23 hy3 (fun h10=> ?_) (fun h11=> ?_)))
       ·exact kKb (kNo h10 [2,3,7,8,9,10,14,15,16])
       ·refine kq (kBT 27 h11 (fun h12=> ?_) (fun h13=> ?_))
        ·refine km 1 ?_
         obtain⟨hm,h14⟩:=a0Q h12
         exact RJ.rel (d:=(some 31)) (ef:=⟨.vc 2,[0],[(0, .gone),(2, .vec (s0.2.length+([32,111,114,32]:List UInt8).length) 1 5 (s0.2.flatMap (a0q .u8)++([32,111,114,32]:List UInt8).map f0a))]⟩) (ef':=⟨.vc 2,[0],[(0, .gone),(2,a0A (a0q .u8) 1 5 (s0.2++(a0k ([32,111,114,32]:List UInt8))))]⟩) (c:=i0k (s0.2.length+([32,111,114,32]:List UInt8).length)) (tr2:=[]) (H2:=[.gone, .box [.int .u8 ((nth (nth x0 s1.1) s0.1).p_),iL ((nth (nth x0 s1.1) s0.1).v_), .bool ((nth (nth x0 s1.1) s0.1).K_),lsv a0H 2 ((nth (nth x0 s1.1) s0.1).R_)],a0A (a0q .u8) 1 5 ((s0.2++(a0k ([32,111,114,32]:List UInt8))))]) (by kernel_rfl) (c0c hm) (fun hc=>(by rw[g0J,←a0K ([32,111,114,32]:List UInt8)];exact N.app)) (by kernel_rfl) (ke 1 (PJ.blockNormal (kNW h14 D W [2,1])))
        ·refine km 1 ?_
         obtain⟨hm,h15⟩:=a0Q h13
         exact RJ.rel (d:=(some 22)) (ef:=⟨.vc 2,[0],[(0, .gone),(2, .vec (s0.2.length+([32,97,110,100,32]:List UInt8).length) 1 5 (s0.2.flatMap (a0q .u8)++([32,97,110,100,32]:List UInt8).map f0a))]⟩) (ef':=⟨.vc 2,[0],[(0, .gone),(2,a0A (a0q .u8) 1 5 (s0.2++(a0k ([32,97,110,100,32]:List UInt8))))]⟩) (c:=i0k (s0.2.length+([32,97,110,100,32]:List UInt8).length)) (tr2:=[]) (H2:=[.gone, .box [.int .u8 ((nth (nth x0 s1.1) s0.1).p_),iL ((nth (nth x0 s1.1) s0.1).v_), .bool ((nth (nth x0 s1.1) s0.1).K_),lsv a0H 2 ((nth (nth x0 s1.1) s0.1).R_)],a0A (a0q .u8) 1 5 ((s0.2++(a0k ([32,97,110,100,32]:List UInt8))))]) (by kernel_rfl) (c0c hm) (fun hc=>(by rw[g0J,←a0K ([32,97,110,100,32]:List UInt8)];exact N.app)) (by kernel_rfl) (ke 1 (PJ.blockNormal (kNW h15 D W [2,1])))
      ·refine km 2 ?_
       obtain⟨y0,hy4,h16⟩:=a0d h9
       exact kCg (some 34) [0] (j0Y hy4) (ke 1 (PJ.blockNormal (kNW h16 D W [2])))
     ·exact kM (kLo h7 [2,3,8,9,10,14,15,16])
    ·exact kEp 2 (kLx h6 (fun h17=>PJ.blockOut (PJ.blockNormal (kNo h17 [2,3,8,9,10]))))
   ·exact kM (kLo h3 [2,3,8,9,10])
  ·exact kEp 0 (kLx h2 (fun h18=>PJ.blockOut (kNo h18 [2,3])))
 ·exact kn 1 (RJ.rel (d:=(some 38)) (ef:=⟨.str ((s2.flatMap (a0q .u8)).map Go.Sy.byteOf),[0],[]⟩) (ef':=⟨.str (b0s s2),[0],[]⟩) (c:=(s2.flatMap (a0q .u8)).all h0Z) (tr2:=[]) (H2:=[a0A (a0q .u8) 1 5 s2]) (by kernel_rfl) (o0x s2) (fun hc=>N.toStr) (by kernel_rfl) (kr 1 (kX (by cases h0;exact kZ H D W))))
def c0n(x0 x1:List a0T):Option (Bool):=
 (bif(decide (¬(x0.length:Int)=(x1.length:Int)))then(some false)else(Option.bind (a0l (fun(s0:Int)=>(bif(decide (s0<(x0.length:Int)))then(bif inR s0 x0.length then(bif inR s0 x1.length then(bif(!((decide (((nth x0 s0).e_)=((nth x1 s0).e_)))&&((decide (((nth x0 s0).f_)=((nth x1 s0).f_)))&&true)))then(some (.inr (.inr false)))else(some (.inl (IntKind.wrap .i64 (s0+1)))))else none)else none)else(some (.inr (.inl ()))))) big 0) (a0j fun(s1:Unit)=>(some true))))
theorem j0V {x0 x1:List a0T} {r:Bool} (h:c0n x0 x1=some r):SQ 199 [lsv a0H 2 x0,lsv a0H 2 x1] [] (.bool r) []:=by
 refine kFn (fn:=Tryz.f199) (fun F H D W=> ?_)
 unfold c0n at h
 refine kq (kS (kq (kBT 10 h (fun h0=> ?_) (fun h1=> ?_))))
 ·exact kq (kX (PJ.passRet (by cases h0;exact kZ H D W)))
 ·refine kKN (kcX h1 (fun(s1:Unit)=>([(4, .bool false)],[])) (fun y0 hy0 h2=> ?_) (fun s1 h3=> ?_))
  ·refine kq (kb 0 (kl (fun(s0:Int)=>([(0,lsv a0H 2 x0),(1,lsv a0H 2 x1),(4, .bool false),(12,iL (x0.length:Int)),(13,iL s0)],[])) hy0 [0,1,4,12,13] (fun s0 x79 hs0=>kq (kS (kBT 14 hs0 (fun h4=> ?_) (fun h5=> ?_))))))
   ·refine kKN (kS (kb 1 (kq (kS (kDr (kD 2 ?_))))))
    obtain⟨hm,h6⟩:=a0Q h4
    refine kJ 18 (tr2:=[([],[]),([],[]),([],[])]) c0S hm (kD 3 ?_)
    obtain⟨hm,h7⟩:=a0Q h6
    exact kJ 22 (tr2:=[([],[]),([],[]),([],[]),([],[]),([],[]),([],[]),([],[])]) c0S hm (kD 2 (kEN (kBT 24 h7 (fun h8=>kq (kXp (kLx h8 (fun h10=>PJ.blockRet (kCx h10 h2 (fun h11=>by obtain rfl:=oi h11;exact kZ H D W)))))) (fun h9=>kKn (kM (kLo h9 [0,1,4,12,13]))))))
   ·exact kEp 0 (kLx h5 (fun h12=>PJ.blockOut (kXo h12 [4])))
  ·exact kq (kX (by cases h3;exact kZ H D W))
def e0D(x0 x1:a0e):Option (Bool):=
 (Option.bind (bif(decide (x0.p_=x1.p_))then(bif(decide (x0.v_=x1.v_))then(bif(x0.K_==x1.K_)then(Option.bind (c0n x0.R_ x1.R_) fun y0=>(some y0))else(some false))else(some false))else(some false)) fun(s0:Bool)=>(some s0))
theorem m0h {x0 x1:a0e} {r:Bool} (h:e0D x0 x1=some r):SQ 180 [.agg (a0b x0), .agg (a0b x1)] [] (.bool r) []:=by
 refine kFn (fn:=Tryz.f180) (fun F H D W=> ?_)
 unfold e0D at h
 exact kq (kcN h (fun(s0:Bool)=>([(4, .bool s0)],[])) (fun s0 hy0=>km 6 (kB 10 hy0 (fun h1=>kc 7 (kB 17 h1 (fun h3=>kc 7 (kB 24 h3 (fun h5=>kc 4 (kAb 29 h5 (fun _=>j0V) (fun y0 h7=>ke 2 (kNW h7 D W [])))) (fun h6=>ke 7 (kNW h6 D W [])))) (fun h4=>ke 14 (kNW h4 D W [])))) (fun h2=>ke 21 (kNW h2 D W [])))) (fun s0 h0=>kX (by cases h0;exact kZ H D W)))
def d0T(x0 x1:List a0e):Option (Bool):=
 (bif(decide (¬(x0.length:Int)=(x1.length:Int)))then(some false)else(Option.bind (a0l (fun(s0:Int)=>(bif(decide (s0<(x0.length:Int)))then(bif inR s0 x0.length then(bif inR s0 x1.length then(Option.bind (e0D (nth x0 s0) (nth x1 s0)) fun y0=>(bif(!y0)then(some (.inr (.inr false)))else(some (.inl (IntKind.wrap .i64 (s0+1))))))else none)else none)else(some (.inr (.inl ()))))) big 0) (a0j fun(s1:Unit)=>(some true))))
theorem k0R {x0 x1:List a0e} {r:Bool} (h:d0T x0 x1=some r):SQ 179 [lsv a0b 4 x0,lsv a0b 4 x1, .fn (.func 180) [] []] [] (.bool r) []:=by
 refine kFn (fn:=Tryz.f179) (fun F H D W=> ?_)
 unfold d0T at h
 exact kq (kS (kq (kBT 14 h (fun h0=>kq (kX (PJ.passRet (by obtain rfl:=oi h0;exact kRV [] (.inr rfl) H D W)))) (fun h1=>kKN (kcX h1 (fun(s1:Unit)=>([(6, .bool false)],[])) (fun y1 hy0 h2=>kq (kb 0 (kl (fun(s0:Int)=>([(1,lsv a0b 4 x1),(2, .fn (.func 180) [] []),(6, .bool false),(15,lsv a0b 4 x0),(16,iL (x0.length:Int)),(17,iL s0)],[])) hy0 [1,2,6,15,16,17] (fun s0 x94 hs0=>kq (kS (kBT 18 hs0 (fun h4=>kKN (kS (kb 1 (kn 1 (kIb 20 d0S h4 (fun h6=>kr 4 (kn 2 (kIb 24 d0S h6 (fun h7=>kr 3 (kn 3 (kAb 29 h7 (fun _=>m0h) (fun y0 h8=>kr 1 (kBT 30 h8 (fun h9=>kq (kXp (kLx h9 (fun h11=>PJ.blockRet (kCx h11 h2 (fun h12=>by obtain rfl:=oi h12;exact kRV [] (.inr rfl) H D W)))))) (fun h10=>kKn (kM (kLW h10 D W [])))))))))))))))) (fun h5=>kEp 0 (kLx h5 (fun h13=>PJ.blockOut (kXo h13 [6])))))))))) (fun s1 h3=>kq (kX (by obtain rfl:=oi h3;exact kRV [] (.inr rfl) H D W))))))))
def f0i(x0 x1:List a0e):Option (Bool):=
 (Option.bind (d0T x0 x1) fun y0=>(some y0))
theorem m0Q {x0 x1:List a0e} {r:Bool} (h:f0i x0 x1=some r):SQ 178 [lsv a0b 4 x0,lsv a0b 4 x1] [] (.bool r) []:=by
 refine kFn (fn:=Tryz.f178) (fun F H D W=> ?_)
 unfold f0i at h
 refine kq (kn 2 ?_)
 obtain⟨y0,hy0,h0⟩:=a0d h
 exact kCg (some 7) [] (k0R hy0) (kr 1 (kX (by cases h0;exact kZ H D W)))
def g0s(x0 x1:List (List a0e)):Option (Bool):=
 (bif(decide (¬(x0.length:Int)=(x1.length:Int)))then(some false)else(Option.bind (a0l (fun(s0:Int)=>(bif(decide (s0<(x0.length:Int)))then(bif inR s0 x0.length then(bif inR s0 x1.length then(Option.bind (f0i (nth x0 s0) (nth x1 s0)) fun y0=>(bif(!y0)then(some (.inr (.inr false)))else(some (.inl (IntKind.wrap .i64 (s0+1))))))else none)else none)else(some (.inr (.inl ()))))) big 0) (a0j fun(s1:Unit)=>(some true))))
theorem n0b {x0 x1:List (List a0e)} {r:Bool} (h:g0s x0 x1=some r):SQ 177 [lsv (c0q a0b 4) 1 x0,lsv (c0q a0b 4) 1 x1, .fn (.func 178) [] []] [] (.bool r) []:=by
 refine kFn (fn:=Tryz.f177) (fun F H D W=> ?_)
 unfold g0s at h
 exact kq (kS (kq (kBT 14 h (fun h0=>kq (kX (PJ.passRet (by obtain rfl:=oi h0;exact kRV [] (.inr rfl) H D W)))) (fun h1=>kKN (kcX h1 (fun(s1:Unit)=>([(6, .bool false)],[])) (fun y1 hy0 h2=>kq (kb 0 (kl (fun(s0:Int)=>([(1,lsv (c0q a0b 4) 1 x1),(2, .fn (.func 178) [] []),(6, .bool false),(15,lsv (c0q a0b 4) 1 x0),(16,iL (x0.length:Int)),(17,iL s0)],[])) hy0 [1,2,6,15,16,17] (fun s0 x94 hs0=>kq (kS (kBT 18 hs0 (fun h4=>kKN (kS (kb 1 (kn 1 (kIb 20 (e0Z a0b 4) h4 (fun h6=>kr 3 (kn 2 (kIb 24 (e0Z a0b 4) h6 (fun h7=>kr 2 (kn 3 (kAb 29 h7 (fun _=>m0Q) (fun y0 h8=>kr 1 (kBT 30 h8 (fun h9=>kq (kXp (kLx h9 (fun h11=>PJ.blockRet (kCx h11 h2 (fun h12=>by obtain rfl:=oi h12;exact kRV [] (.inr rfl) H D W)))))) (fun h10=>kKn (kM (kLo h10 [1,2,6,15,16,17])))))))))))))))) (fun h5=>kEp 0 (kLx h5 (fun h13=>PJ.blockOut (kXo h13 [6])))))))))) (fun s1 h3=>kq (kX (by obtain rfl:=oi h3;exact kRV [] (.inr rfl) H D W))))))))
def f0r(x0 x1:List (List a0e)):Option (Bool):=
 (Option.bind (g0s x0 x1) fun y0=>(some y0))
theorem o0S {x0 x1:List (List a0e)} {r:Bool} (h:f0r x0 x1=some r):SQ 157 [lsv (c0q a0b 4) 1 x0,lsv (c0q a0b 4) 1 x1] [] (.bool r) []:=by
 refine kFn (fn:=Tryz.f157) (fun F H D W=> ?_)
 unfold f0r at h
 refine kq (kn 2 ?_)
 obtain⟨y0,hy0,h0⟩:=a0d h
 exact kCg (some 7) [] (n0b hy0) (kr 1 (kX (by cases h0;exact kZ H D W)))
def d0Y(x0:List (List a0e)):Option (Bool):=
 (Option.bind (g0d x0) fun y1=>(Option.bind (c0D y1) fun y0=>(Option.bind (bif(decide (y0.2.2=0))then(Option.bind (f0r x0 y0.1) fun y2=>(some y2))else(some false)) fun(s0:Bool)=>(some s0))))
theorem n0O {x0:List (List a0e)} {r:Bool} (h:d0Y x0=some r):SQ 132 [lsv (c0q a0b 4) 1 x0] [] (.bool r) []:=by
 refine kFn (fn:=Tryz.f132) (fun F H D W=> ?_)
 unfold d0Y at h
 exact kq (kn 1 (kAb 8 h (fun _=>o0R) (fun y1 h0=>kAb 9 h0 (fun _=>k0t) (fun y0 h1=>kr 7 (kcN h1 (fun(s0:Bool)=>([(2, .bool s0)],[])) (fun s0 hy0=>km 3 (kB 15 hy0 (fun h3=>kc 2 (kAb 18 h3 (fun _=>o0S) (fun y2 h5=>ke 2 (kNo h5 [2])))) (fun h4=>ke 5 (kNo h4 [2])))) (fun s0 h2=>kX (by cases h2;exact kZ H D W)))))))
def g0f(x0:List k0S):Option ((List b0z)×Int×Int):=
 (Option.bind (a0l (fun(s0:Int×Int×(List b0z))=>(bif(decide (s0.2.1<(x0.length:Int)))then(Option.bind (bif inR s0.2.1 x0.length then(Option.bind (f0Y s0.1 ((nth x0 s0.2.1).F_)) fun y1=>(bif(!y1)then(some (.inr (.inr (.inr (([]:List b0z),s0.2.1,1)))))else(Option.bind (c0D ((nth x0 s0.2.1).H_)) fun y0=>(Option.bind (Option.bind (bif(decide (¬y0.2.2=0))then(some true)else(Option.bind (d0Y y0.1) fun y2=>(some (!y2)))) fun(s2:Bool)=>(bif s2 then(some (.inr (.inr (.inr (.inr (([]:List b0z),s0.2.1,2))))))else(some (.inl ())))) (a0j fun(s4:Unit)=>(bif room (s0.2.2.length+(([(⟨(nth x0 s0.2.1).F_,y0.1⟩:b0z)]:List b0z)).length)then(some (.inl ((s0.2.2++(([(⟨(nth x0 s0.2.1).F_,y0.1⟩:b0z)]:List b0z))))))else none))))))else none) (a0j fun(s3:(List b0z))=>(some (.inl ((nth x0 s0.2.1).F_,(IntKind.wrap .i64 (s0.2.1+1)),s3)))))else(some (.inr (.inl s0.2.2))))) big (0,0,([]:List b0z))) (a0j fun(s1:(List b0z))=>(some (s1,0,0))))
theorem o0Z {x0:List k0S} {r:(List b0z)×Int×Int} (h:g0f x0=some r):SQ 100 [lsv c0h 2 x0] [] (.tup [lsv c0d 2 r.1,iL r.2.1,iL r.2.2]) []:=by
 refine kFn (fn:=Tryz.f100) (fun F H D W=> ?_)
 unfold g0f at h
 exact kq (kq (kq (kcX h (fun(s1:(List b0z))=>([(2, .nl),(3,iL 0),(4,iL 0),(5, .vc 0)],[a0A c0d 2 104 s1])) (fun y3 hy0 h0=>kq (kb 0 (J.wk (Wk.viv 5 2 104 (by kernel_rfl)) (kl (fun(s0:Int×Int×(List b0z))=>([(2, .nl),(3,iL 0),(4,iL 0),(5, .vc 0),(6,iL s0.1),(12,lsv c0h 2 x0),(13,iL (x0.length:Int)),(14,iL s0.2.1)],[a0A c0d 2 104 s0.2.2])) hy0 [2,3,4,5,6,12,13,14] (fun s0 x761 hs0=>kq (kS (kBT 15 hs0 (fun h3=>kKN (kcX h3 (fun(s3:(List b0z))=>([(2, .nl),(3,iL 0),(4,iL 0),(5, .vc 0),(6,iL ((nth x0 s0.2.1).F_)),(12,lsv c0h 2 x0),(13,iL (x0.length:Int)),(14,iL s0.2.1)],[a0A c0d 2 104 s3])) (fun y4 hy1 h1=>kb 1 (kn 1 (kIb 17 c0Y hy1 (fun h6=>kr 4 (kS (kn 3 (kAb 22 h6 (fun _=>n0U) (fun y1 h7=>kr 1 (kBT 23 h7 (fun h8=>kq (kX (PJ.passRet (PJ.blockRet (kCx h8 h1 (fun h10=>kLx h10 (fun h11=>PJ.blockRet (kCx h11 h0 (fun h12=>by obtain rfl:=oi h12;exact PJ.res (v1:= .tup [.nl,iL s0.2.1,iL 1]) (Le.tup (.cons (Le.nl _) (LeL.refl _))) (kZ H D W)))))))))) (fun h9=>kKN (kn 2 (kAb 28 h9 (fun _=>k0t) (fun y0 h13=>kr 7 (kcX h13 (fun(s4:Unit)=>([(2, .nl),(3,iL 0),(4,iL 0),(5, .vc 0),(6,iL s0.1),(8, .ptr 1 0),(9,lsv (c0q a0b 4) 1 y0.1),(12,lsv c0h 2 x0),(13,iL (x0.length:Int)),(14,iL s0.2.1)],[a0A c0d 2 104 s0.2.2, .box [iL ((nth x0 s0.2.1).F_), .str ((nth x0 s0.2.1).H_)]])) (fun y5 hy2 h14=>kcN hy2 (fun(s2:Bool)=>([(2, .nl),(3,iL 0),(4,iL 0),(5, .vc 0),(6,iL s0.1),(7,iL s0.2.1),(8, .ptr 1 0),(9,lsv (c0q a0b 4) 1 y0.1),(12,lsv c0h 2 x0),(13,iL (x0.length:Int)),(14,iL s0.2.1),(38, .bool s2)],[a0A c0d 2 104 s0.2.2, .box [iL ((nth x0 s0.2.1).F_), .str ((nth x0 s0.2.1).H_)]])) (fun s2 hy3=>km 3 (kB 34 hy3 (fun h17=>RJ.seg 4 [2,3,4,5,6,7,8,9,12,13,14,38] (L2:=[(2, .nl),(3,iL 0),(4,iL 0),(5, .vc 0),(6,iL s0.1),(7,iL s0.2.1),(8, .ptr 1 0),(9,lsv (c0q a0b 4) 1 y0.1),(12,lsv c0h 2 x0),(13,iL (x0.length:Int)),(14,iL s0.2.1),(38, .bool true)]) (H2:=[a0A c0d 2 104 s0.2.2, .box [iL ((nth x0 s0.2.1).F_), .str ((nth x0 s0.2.1).H_)]]) (by kernel_rfl) (kE (kNo h17 [2,3,4,5,6,7,8,9,12,13,14,38]))) (fun h18=>RJ.seg 1 [2,3,4,5,6,7,8,9,12,13,14,34,35] (L2:=[(2, .nl),(3,iL 0),(4,iL 0),(5, .vc 0),(6,iL s0.1),(7,iL s0.2.1),(8, .ptr 1 0),(9,lsv (c0q a0b 4) 1 y0.1),(12,lsv c0h 2 x0),(13,iL (x0.length:Int)),(14,iL s0.2.1),(34, .bool false),(35,lsv (c0q a0b 4) 1 y0.1)]) (H2:=[a0A c0d 2 104 s0.2.2, .box [iL ((nth x0 s0.2.1).F_), .str ((nth x0 s0.2.1).H_)]]) (by kernel_rfl) (kAb 36 h18 (fun _=>n0O) (fun y2 h19=>ke 2 (kNo h19 [2,3,4,5,6,7,8,9,12,13,14,38])))))) (fun s2 h16=>kBT 38 h16 (fun h20=>kq (kX (kCx h20 h14 (fun h22=>PJ.blockRet (kCx h22 h1 (fun h23=>kLx h23 (fun h24=>PJ.blockRet (kCx h24 h0 (fun h25=>by obtain rfl:=oi h25;exact PJ.res (v1:= .tup [.nl,iL s0.2.1,iL 2]) (Le.tup (.cons (Le.nl _) (LeL.refl _))) (kZ H D W)))))))))) (fun h21=>kK (kXo h21 [2,3,4,5,6,8,9,12,13,14])))) (fun s4 h15=>kn 6 (kAp 46 0 3 2 104 [0,2] c0d h15 (fun h26=>kr 1 (kM (PJ.blockNormal (kXW h26 D W [3])))))))))))))))))))) (fun s3 h5=>kM (kLo h5 [2,3,4,5,6,12,13,14])))) (fun h4=>kEp 0 (kLx h4 (fun h27=>PJ.blockOut (kXo h27 [2,3,4,5]))))))))))) (fun s1 h2=>kq (kX (by obtain rfl:=oi h2;exact PJ.wk (Wk.freeze 0 (n:=s1.length) (k:=2) (e:=104) (cs:=s1.flatMap c0d) (by kernel_rfl)) (kZ H D W)))))))
def c0L(x0:j0P):Option (Int×Bool):=
 (Option.bind (g0f x0.a_.w_) fun y0=>(some (y0.2.1,(decide (y0.2.2=0)))))
theorem i0N {x0:j0P} {r:Int×Bool} (h:c0L x0=some r):SQ 55 [.agg (b0m x0)] [] (.tup [iL r.1, .bool r.2]) []:=by
 refine kFn (fn:=Tryz.f55) (fun F H D W=> ?_)
 unfold c0L at h
 exact kq (kn 3 (kAb 11 h (fun _=>o0Z) (fun y0 h0=>kr 7 (kq (kX (by cases h0;exact kZ H D W))))))
def j0q(x0:List UInt8):Option (Bool):=
 (bif(decide (¬(x0.length:Int)=3))then(some false)else(Option.bind (a0l (fun(s0:Int)=>(bif(decide (s0<((a0k x0).length:Int)))then(bif inR s0 (a0k x0).length then(Option.bind (e0u (nth (a0k x0) s0)) fun y0=>(bif(!y0)then(some (.inr (.inr false)))else(some (.inl (IntKind.wrap .i64 (s0+1))))))else none)else(some (.inr (.inl ()))))) big 0) (a0j fun(s1:Unit)=>(some true))))
theorem q0x {x0:List UInt8} {r:Bool} (h:j0q x0=some r):SQ 101 [.str x0] [] (.bool r) []:=by
 refine kFn (fn:=Tryz.f101) (fun F H D W=> ?_)
 unfold j0q at h
 exact kq (kS (kq (kBT 7 h (fun h0=>kq (kX (PJ.passRet (by cases h0;exact kZ H D W)))) (fun h1=>kKN (kcX h1 (fun(s1:Unit)=>([(2, .bool false)],[])) (fun y1 hy0 h2=>kn 1 (RJ.rel (d:=(some 9)) (ef:=⟨.lst x0.length 1 (x0.map f0a),[],[]⟩) (ef':=⟨lB (a0k x0),[],[]⟩) (c:=true) (tr2:=[]) (H2:=[]) (by kernel_rfl) rfl (fun hc=>N.toBytes) (by kernel_rfl) (kr 2 (kb 0 (kl (fun(s0:Int)=>([(2, .bool false),(9,lB (a0k x0)),(10,iL ((a0k x0).length:Int)),(11,iL s0)],[])) hy0 [2,9,10,11] (fun s0 x89 hs0=>kq (kS (kBT 12 hs0 (fun h4=>kKN (kS (kb 1 (kSR (kIb 13 (a0x .u8) h4 (fun h6=>kr 2 (kn 1 (kAb 16 h6 (fun _=>g0Y) (fun y0 h7=>kr 1 (kBT 17 h7 (fun h8=>kq (kXp (kLx h8 (fun h10=>PJ.blockRet (kCx h10 h2 (fun h11=>by obtain rfl:=oi h11;exact kZ H D W)))))) (fun h9=>kKn (kM (kLo h9 [2,9,10,11]))))))))))))) (fun h5=>kEp 0 (kLx h5 (fun h12=>PJ.blockOut (kXo h12 [2])))))))))))) (fun s1 h3=>kq (kX (by cases h3;exact kZ H D W))))))))
def e0m(x0:e0h)(x1:d0b)(x2:List Int):Option (Bool):=
 (Option.bind (Option.bind (bif(decide ((x2.length:Int)=0))then(some true)else(bif(decide ((x2.length:Int)>20))then(some true)else(Option.bind (j0j x0 x2) fun y0=>(some (!y0))))) fun(s0:Bool)=>(bif s0 then(some (.inr false))else(some (.inl ())))) (a0j fun(s2:Unit)=>(Option.bind (Option.bind (bif(decide (¬x1.V_=0))then(Option.bind (a0W x2 x1.y_) fun y1=>(some y1))else(some false)) fun(s1:Bool)=>(bif s1 then(some (.inr false))else(some (.inl ())))) (a0j fun(s3:Unit)=>(Option.bind (d0q x0 x1 x2) fun y2=>(some y2))))))
theorem l0r {x0:e0h} {x1:d0b} {x2:List Int} {r:Bool} (h:e0m x0 x1 x2=some r):SQ 20 [.agg (a0w x0), .agg (a0f x1),lR x2] [] (.bool r) []:=by
 refine kFn (fn:=Tryz.f20) (fun F H D W=> ?_)
 unfold e0m at h
 exact kq (kcX h (fun(s2:Unit)=>([(2,lR x2),(3, .ptr 0 0),(4, .ptr 1 0),(6, .bool false)],[.box (a0w x0), .box (a0f x1)])) (fun y3 hy0 h0=>kcN hy0 (fun(s0:Bool)=>([(2,lR x2),(3, .ptr 0 0),(4, .ptr 1 0),(6, .bool false),(20, .bool s0)],[.box (a0w x0), .box (a0f x1)])) (fun s0 hy1=>km 4 (kB 10 hy1 (fun h3=>ke 10 (kNo h3 [2,3,4,6,20])) (fun h4=>kc 5 (kB 15 h4 (fun h5=>ke 5 (kNo h5 [2,3,4,6,20])) (fun h6=>kc 2 (kAb 18 h6 (fun _=>m0a) (fun y0 h7=>ke 2 (kNo h7 [2,3,4,6,20])))))))) (fun s0 h2=>kBT 20 h2 (fun h8=>kq (kX (kCx h8 h0 (fun h10=>by obtain rfl:=oi h10;exact kZ H D W)))) (fun h9=>kK (kXo h9 [2,3,4,6])))) (fun s2 h1=>kcX h1 (fun(s3:Unit)=>([(2,lR x2),(3, .ptr 0 0),(4, .ptr 1 0),(6, .bool false)],[.box (a0w x0), .box (a0f x1)])) (fun y4 hy2 h11=>kcN hy2 (fun(s1:Bool)=>([(2,lR x2),(3, .ptr 0 0),(4, .ptr 1 0),(6, .bool false),(29, .bool s1)],[.box (a0w x0), .box (a0f x1)])) (fun s1 hy3=>km 4 (kB 24 hy3 (fun h14=>kc 3 (kAb 28 h14 (fun _=>b0K) (fun y1 h16=>ke 1 (kNo h16 [2,3,4,6,29])))) (fun h15=>ke 5 (kNo h15 [2,3,4,6,29])))) (fun s1 h13=>kBT 29 h13 (fun h17=>kq (kX (kCx h17 h11 (fun h19=>by obtain rfl:=oi h19;exact kZ H D W)))) (fun h18=>kK (kXo h18 [2,3,4,6])))) (fun s3 h12=>kn 3 (kAb 33 h12 (fun _=>f0A) (fun y2 h20=>kr 1 (kX (by cases h20;exact kZ H D W)))))))
def a0R(x0:j0P):Option (Int×Bool):=
 (Option.bind (a0G x0.a_.S_ 3 x0.a_.g_.s_) fun y0=>(Option.bind (a0l (fun(s0:(List UInt8)×Int)=>(bif(decide (s0.2<(x0.a_.d_.length:Int)))then(Option.bind (bif inR s0.2 x0.a_.d_.length then(Option.bind (Option.bind (Option.bind (j0q ((nth x0.a_.d_ s0.2).z_)) fun y2=>(bif(!y2)then(some true)else(bif(Op.bytesLess ((nth x0.a_.d_ s0.2).z_) s0.1||((nth x0.a_.d_ s0.2).z_)==s0.1)then(some true)else(bif(decide (((nth x0.a_.d_ s0.2).af_)<0))then(some true)else(some ((decide (((nth x0.a_.d_ s0.2).af_)>4)))))))) fun(s1:Bool)=>(bif s1 then(some (.inr (.inr (.inr (.inr (s0.2,false))))))else(some (.inl ())))) (a0j fun(s3:Unit)=>(Option.bind (d0y ((a0k ((nth x0.a_.d_ s0.2).A_)))) fun y1=>(Option.bind (Option.bind (bif(decide (¬y1.2.2=0))then(some true)else(Option.bind (e0m x0.a_.S_ y0.1 y1.1) fun y3=>(some (!y3)))) fun(s2:Bool)=>(bif s2 then(some (.inr (.inr (.inr (.inr (s0.2,false))))))else(some (.inl ())))) (a0j fun(s4:Unit)=>(some (.inl ())))))))else none) (a0j fun(s5:Unit)=>(some (.inl ((nth x0.a_.d_ s0.2).z_,(IntKind.wrap .i64 (s0.2+1)))))))else(some (.inr (.inl ()))))) big (([]:List UInt8),0)) (a0j fun(s6:Unit)=>(some (100,(decide ((x0.a_.d_.length:Int)≤100)))))))
theorem g0B {x0:j0P} {r:Int×Bool} (h:a0R x0=some r):SQ 56 [.agg (b0m x0)] [] (.tup [iL r.1, .bool r.2]) []:=by
 refine kFn (fn:=Tryz.f56) (fun F H D W=> ?_)
 unfold a0R at h
 exact kq (kn 7 (kAb 20 h (fun _=>b0t) (fun y0 h2=>kr 6 (kq (kcX h2 (fun(s6:Unit)=>([(1, .ptr 0 0),(2,iL 0),(3, .bool false)],[.box (b0m x0)])) (fun y4 hy0 h0=>kq (kb 0 (kl (fun(s0:(List UInt8)×Int)=>([(1, .ptr 0 0),(2,iL 0),(3, .bool false),(4, .ptr 1 0),(6, .str s0.1),(25,lsv d0D 3 x0.a_.d_),(26,iL (x0.a_.d_.length:Int)),(27,iL s0.2)],[.box (b0m x0), .box (a0f y0.1)])) hy0 [1,2,3,4,6,25,26,27] (fun s0 x1444 hs0=>kq (kS (kBT 28 hs0 (fun h4=>kKN (kcX h4 (fun(s5:Unit)=>([(1, .ptr 0 0),(2,iL 0),(3, .bool false),(4, .ptr 1 0),(6, .str ((nth x0.a_.d_ s0.2).z_)),(25,lsv d0D 3 x0.a_.d_),(26,iL (x0.a_.d_.length:Int)),(27,iL s0.2)],[.box (b0m x0), .box (a0f y0.1)])) (fun y5 hy1 h1=>kb 1 (kn 1 (kIb 30 d0R hy1 (fun h7=>kr 4 (kcX h7 (fun(s3:Unit)=>([(1, .ptr 0 0),(2,iL 0),(3, .bool false),(4, .ptr 1 0),(6, .str s0.1),(7,iL s0.2),(8, .ptr 2 0),(25,lsv d0D 3 x0.a_.d_),(26,iL (x0.a_.d_.length:Int)),(27,iL s0.2)],[.box (b0m x0), .box (a0f y0.1), .box [.str ((nth x0.a_.d_ s0.2).z_), .str ((nth x0.a_.d_ s0.2).A_),iL ((nth x0.a_.d_ s0.2).af_)]])) (fun y6 hy2 h8=>kcN hy2 (fun(s1:Bool)=>([(1, .ptr 0 0),(2,iL 0),(3, .bool false),(4, .ptr 1 0),(6, .str s0.1),(7,iL s0.2),(8, .ptr 2 0),(25,lsv d0D 3 x0.a_.d_),(26,iL (x0.a_.d_.length:Int)),(27,iL s0.2),(51, .bool s1)],[.box (b0m x0), .box (a0f y0.1), .box [.str ((nth x0.a_.d_ s0.2).z_), .str ((nth x0.a_.d_ s0.2).A_),iL ((nth x0.a_.d_ s0.2).af_)]])) (fun s1 hy3=>km 2 (kAb 34 hy3 (fun _=>q0x) (fun y2 h11=>kc 2 (kB 36 h11 (fun h12=>ke 15 (kNo h12 [1,2,3,4,6,7,8,25,26,27,51])) (fun h13=>kc 6 (kB 42 h13 (fun h14=>ke 9 (kNo h14 [1,2,3,4,6,7,8,25,26,27,51])) (fun h15=>kc 5 (kB 47 h15 (fun h16=>ke 4 (kNo h16 [1,2,3,4,6,7,8,25,26,27,51])) (fun h17=>ke 4 (kNo h17 [1,2,3,4,6,7,8,25,26,27,51])))))))))) (fun s1 h10=>kBT 51 h10 (fun h18=>kq (kX (kCx h18 h8 (fun h20=>PJ.blockRet (kCx h20 h1 (fun h21=>kLx h21 (fun h22=>PJ.blockRet (kCx h22 h0 (fun h23=>by obtain rfl:=oi h23;exact kZ H D W))))))))) (fun h19=>kK (kXo h19 [1,2,3,4,6,7,8,25,26,27])))) (fun s3 h9=>kn 2 (RJ.rel (d:=(some 56)) (ef:=⟨.lst ((nth x0.a_.d_ s0.2).A_).length 1 (((nth x0.a_.d_ s0.2).A_).map f0a),[],[]⟩) (ef':=⟨lB (a0k ((nth x0.a_.d_ s0.2).A_)),[],[]⟩) (c:=true) (tr2:=[]) (H2:=[.box (b0m x0), .box (a0f y0.1), .box [.str ((nth x0.a_.d_ s0.2).z_), .str ((nth x0.a_.d_ s0.2).A_),iL ((nth x0.a_.d_ s0.2).af_)]]) (by kernel_rfl) rfl (fun hc=>N.toBytes) (by kernel_rfl) (kAb 57 h9 (fun _=>k0n) (fun y1 h24=>kr 7 (kcX h24 (fun(s4:Unit)=>([(1, .ptr 0 0),(2,iL 0),(3, .bool false),(4, .ptr 1 0),(6, .str s0.1),(8, .ptr 2 0),(25,lsv d0D 3 x0.a_.d_),(26,iL (x0.a_.d_.length:Int)),(27,iL s0.2)],[.box (b0m x0), .box (a0f y0.1), .box [.str ((nth x0.a_.d_ s0.2).z_), .str ((nth x0.a_.d_ s0.2).A_),iL ((nth x0.a_.d_ s0.2).af_)]])) (fun y7 hy4 h25=>kcN hy4 (fun(s2:Bool)=>([(1, .ptr 0 0),(2,iL 0),(3, .bool false),(4, .ptr 1 0),(6, .str s0.1),(7,iL s0.2),(8, .ptr 2 0),(25,lsv d0D 3 x0.a_.d_),(26,iL (x0.a_.d_.length:Int)),(27,iL s0.2),(71, .bool s2)],[.box (b0m x0), .box (a0f y0.1), .box [.str ((nth x0.a_.d_ s0.2).z_), .str ((nth x0.a_.d_ s0.2).A_),iL ((nth x0.a_.d_ s0.2).af_)]])) (fun s2 hy5=>km 3 (kB 63 hy5 (fun h28=>ke 8 (kNo h28 [1,2,3,4,6,7,8,25,26,27,71])) (fun h29=>kc 5 (kAb 69 h29 (fun _=>l0r) (fun y3 h30=>ke 2 (kNo h30 [1,2,3,4,6,7,8,25,26,27,71])))))) (fun s2 h27=>kBT 71 h27 (fun h31=>kq (kX (kCx h31 h25 (fun h33=>PJ.blockRet (kCx h33 h1 (fun h34=>kLx h34 (fun h35=>PJ.blockRet (kCx h35 h0 (fun h36=>by obtain rfl:=oi h36;exact kZ H D W))))))))) (fun h32=>kK (kXo h32 [1,2,3,4,6,8,25,26,27])))) (fun s4 h26=>kM (PJ.blockNormal (kXW h26 D W [0,1]))))))))))))) (fun s5 h6=>kM (kLo h6 [1,2,3,4,6,25,26,27])))) (fun h5=>kEp 0 (kLx h5 (fun h37=>PJ.blockOut (kXW h37 D W [0])))))))))) (fun s6 h3=>kS (kDr (kD 7 (kEN (kX (by cases h3;exact kZ H D W)))))))))))
def i0z(x0:Int):Option (List UInt8):=
 (Option.bind f0k fun y0=>(Option.bind (Option.bind (bif(decide (x0<0))then(some true)else(some (decide (x0≥6)))) fun(s0:Bool)=>(bif s0 then(some (.inr ([]:List UInt8)))else(some (.inl ())))) (a0j fun(s1:Unit)=>(bif(decide (x0=0))then(some y0.e_)else(bif(decide (x0=1))then(some y0.f_)else(bif(decide (x0=2))then(some y0.n_)else(bif(decide (x0=3))then(some y0.s_)else(bif(decide (x0=4))then(some y0.P_)else(bif(decide (x0=5))then(some y0.U_)else none)))))))))
theorem p0a {x0:Int} {r:List UInt8} (h:i0z x0=some r):SQ 46 [iL x0] [] (.str r) []:=by
 refine kFn (fn:=Tryz.f46) (fun F H D W=> ?_)
 unfold i0z at h
 refine kq (kSR (kAb 4 h (fun _=>k0w) (fun y0 h6=>kr 2 (kcX h6 (fun(s1:Unit)=>([(0,iL x0),(2, .str ([]:List UInt8)),(3, .ptr 0 0)],[.box (l0P y0)])) (fun y1 hy0 h7=> ?_) (fun s1 h0=> ?_)))))
 ·exact kcN hy0 (fun(s0:Bool)=>([(0,iL x0),(2, .str ([]:List UInt8)),(3, .ptr 0 0),(10, .bool s0)],[.box (l0P y0)])) (fun s0 hy1=>km 3 (kB 7 hy1 (fun h9=>ke 3 (kNo h9 [0,2,3,10])) (fun h10=>ke 3 (kNo h10 [0,2,3,10])))) (fun s0 h8=>kBT 10 h8 (fun h11=>kq (kX (kCx h11 h7 (fun h13=>by obtain rfl:=oi h13;exact kZ H D W)))) (fun h12=>kK (kXo h12 [0,2,3])))
 ·refine kn 1 ?_
  cases hb0:(decide (x0=0))
  ·have h1:=condF hb0 h0
   cases hb1:(decide (x0=1))
   ·have h2:=condF hb1 h1
    cases hb2:(decide (x0=2))
    ·have h3:=condF hb2 h2
     cases hb3:(decide (x0=3))
     ·have h4:=condF hb3 h3
      cases hb4:(decide (x0=4))
      ·have h5:=condF hb4 h4
       cases hb5:(decide (x0=5))
       ·have h14:=condF hb5 h5
        cases h14
       ·have h15:=condT hb5 h5
        exact RJ.pin 11 (kd:= .i64) (by kernel_rfl) (of_decide_eq_true hb5) (kr 3 (kX (by cases h15;exact kZ H D W)))
      ·have h16:=condT hb4 h4
       exact RJ.pin 11 (kd:= .i64) (by kernel_rfl) (of_decide_eq_true hb4) (kr 3 (kX (by cases h16;exact kZ H D W)))
     ·have h17:=condT hb3 h3
      exact RJ.pin 11 (kd:= .i64) (by kernel_rfl) (of_decide_eq_true hb3) (kr 3 (kX (by cases h17;exact kZ H D W)))
    ·have h18:=condT hb2 h2
     exact RJ.pin 11 (kd:= .i64) (by kernel_rfl) (of_decide_eq_true hb2) (kr 3 (kX (by cases h18;exact kZ H D W)))
   ·have h19:=condT hb1 h1
    exact RJ.pin 11 (kd:= .i64) (by kernel_rfl) (of_decide_eq_true hb1) (kr 3 (kX (by cases h19;exact kZ H D W)))
  ·have h20:=condT hb0 h0
   exact RJ.pin 11 (kd:= .i64) (by kernel_rfl) (of_decide_eq_true hb0) (kr 3 (kX (by cases h20;exact kZ H D W)))
def d0w(x0:e0h)(x1:i0s):Option (d0b×Bool):=
 (Option.bind (j0o x1.D_) fun y0=>(Option.bind (Option.bind (bif(!y0.2)then(some true)else(bif(decide (x1.G_<2))then(some true)else(bif(decide (x1.G_>30))then(some true)else(Option.bind (i0z x1.F_) fun y2=>(some (y2==([]:List UInt8))))))) fun(s0:Bool)=>(bif s0 then(some (.inr ((⟨([]:List a0c),([]:List a0c),([]:List a0c),([]:List a0c),false,0,0,0,0,0,0,0,0,0,false,0,0⟩:d0b),false)))else(some (.inl ())))) (a0j fun(s3:Unit)=>(Option.bind (Option.bind (bif(decide (y0.1.M_<1))then(some true)else(bif(decide (y0.1.M_≥x1.G_))then(some true)else(bif y0.1.J_ then(some true)else(some ((decide (((IntKind.wrap .i64 ((y0.1.r_.length:Int)+(y0.1.q_.length:Int))))=0))))))) fun(s1:Bool)=>(bif s1 then(some (.inr ((⟨([]:List a0c),([]:List a0c),([]:List a0c),([]:List a0c),false,0,0,0,0,0,0,0,0,0,false,0,0⟩:d0b),false)))else(some (.inl ())))) (a0j fun(s4:Unit)=>(bif(!((decide (y0.1.Y_=0))&&((decide (y0.1.I_=0))&&((decide (y0.1.Q_=0))&&((decide (y0.1.O_=0))&&((decide (y0.1.i_=0))&&((decide (y0.1.V_=0))&&true)))))))then(some ((⟨([]:List a0c),([]:List a0c),([]:List a0c),([]:List a0c),false,0,0,0,0,0,0,0,0,0,false,0,0⟩:d0b),false))else(Option.bind (Option.bind (Option.bind (f0m y0.1.r_ y0.1.q_ 0 0) fun y3=>(bif(!y3)then(some true)else(Option.bind (d0q x0 y0.1 ([]:List Int)) fun y1=>(some (!y1))))) fun(s2:Bool)=>(bif s2 then(some (.inr ((⟨([]:List a0c),([]:List a0c),([]:List a0c),([]:List a0c),false,0,0,0,0,0,0,0,0,0,false,0,0⟩:d0b),false)))else(some (.inl ())))) (a0j fun(s5:Unit)=>(some (y0.1,true))))))))))
theorem i0O {x0:e0h} {x1:i0s} {r:d0b×Bool} (h:d0w x0 x1=some r):SQ 13 [.agg (a0w x0), .agg (a0Z x1)] [] (.tup [.agg (a0f r.1), .bool r.2]) []:=by
 refine kFn (fn:=Tryz.f13) (fun F H D W=> ?_)
 unfold d0w at h
 refine kq (kn 2 (kAb 11 h (fun _=>m0r) (fun y0 h0=>kr 6 (kcX h0 (fun(s3:Unit)=>([(2, .ptr 0 0),(3, .ptr 1 0),(4, .ptr 2 0),(5, .bool false),(6, .ptr 3 0)],[.box (a0w x0), .box (a0Z x1), .box [.nl, .nl, .nl, .nl, .bool false,iL 0,iL 0,iL 0,iL 0,iL 0,iL 0,iL 0,iL 0,iL 0, .bool false,iM 0,iL 0], .box (a0f y0.1)])) (fun y4 hy0 h1=> ?_) (fun s3 h2=> ?_)))))
 ·exact kcN hy0 (fun(s0:Bool)=>([(2, .ptr 0 0),(3, .ptr 1 0),(4, .ptr 2 0),(5, .bool false),(6, .ptr 3 0),(31, .bool s0)],[.box (a0w x0), .box (a0Z x1), .box [.nl, .nl, .nl, .nl, .bool false,iL 0,iL 0,iL 0,iL 0,iL 0,iL 0,iL 0,iL 0,iL 0, .bool false,iM 0,iL 0], .box (a0f y0.1)])) (fun s0 hy1=>km 3 (kB 16 hy1 (fun h4=>ke 15 (kNo h4 [2,3,4,5,6,31])) (fun h5=>kc 5 (kB 21 h5 (fun h6=>ke 10 (kNo h6 [2,3,4,5,6,31])) (fun h7=>kc 5 (kB 26 h7 (fun h8=>ke 5 (kNo h8 [2,3,4,5,6,31])) (fun h9=>kc 2 (kAb 29 h9 (fun _=>p0a) (fun y2 h10=>ke 2 (kNo h10 [2,3,4,5,6,31])))))))))) (fun s0 h3=>kBT 31 h3 (fun h11=>kq (kX (kCx h11 h1 (fun h13=>by obtain rfl:=oi h13;exact PJ.res (v1:= .tup [zQ, .bool false]) (Le.tup (.cons (Le.agg (.cons (Le.nl _) (.cons (Le.nl _) (.cons (Le.nl _) (.cons (Le.nl _) (LeL.refl _)))))) (LeL.refl _))) (kZ H D W))))) (fun h12=>kK (kXo h12 [2,3,4,5,6])))
 ·refine kcX h2 (fun(s4:Unit)=>([(2, .ptr 0 0),(4, .ptr 1 0),(5, .bool false),(6, .ptr 2 0)],[.box (a0w x0), .box [.nl, .nl, .nl, .nl, .bool false,iL 0,iL 0,iL 0,iL 0,iL 0,iL 0,iL 0,iL 0,iL 0, .bool false,iM 0,iL 0], .box (a0f y0.1)])) (fun y5 hy2 h14=> ?_) (fun s4 h15=> ?_)
  ·exact kcN hy2 (fun(s1:Bool)=>([(2, .ptr 0 0),(4, .ptr 1 0),(5, .bool false),(6, .ptr 2 0),(56, .bool s1)],[.box (a0w x0), .box [.nl, .nl, .nl, .nl, .bool false,iL 0,iL 0,iL 0,iL 0,iL 0,iL 0,iL 0,iL 0,iL 0, .bool false,iM 0,iL 0], .box (a0f y0.1)])) (fun s1 hy3=>km 4 (kB 36 hy3 (fun h17=>ke 20 (kNW h17 D W [0,2,3])) (fun h18=>kc 7 (kB 43 h18 (fun h19=>ke 13 (kNW h19 D W [0,2,3])) (fun h20=>kc 4 (kB 47 h20 (fun h21=>ke 9 (kNW h21 D W [0,2,3])) (fun h22=>ke 9 (kNW h22 D W [0,2,3])))))))) (fun s1 h16=>kBT 56 h16 (fun h23=>kq (kX (kCx h23 h14 (fun h25=>by obtain rfl:=oi h25;exact PJ.res (v1:= .tup [zQ, .bool false]) (Le.tup (.cons (Le.agg (.cons (Le.nl _) (.cons (Le.nl _) (.cons (Le.nl _) (.cons (Le.nl _) (LeL.refl _)))))) (LeL.refl _))) (kZ H D W))))) (fun h24=>kK (kXo h24 [2,4,5,6])))
  ·refine kS (kq (kBT 72 h15 (fun h26=> ?_) (fun h27=> ?_)))
   ·exact kq (kX (PJ.passRet (by obtain rfl:=oi h26;exact PJ.res (v1:= .tup [zQ, .bool false]) (Le.tup (.cons (Le.agg (.cons (Le.nl _) (.cons (Le.nl _) (.cons (Le.nl _) (.cons (Le.nl _) (LeL.refl _)))))) (LeL.refl _))) (kZ H D W))))
   ·refine kKN (kcX h27 (fun(s5:Unit)=>([(4, .ptr 0 0),(5, .bool false),(6, .ptr 1 0)],[.box [.nl, .nl, .nl, .nl, .bool false,iL 0,iL 0,iL 0,iL 0,iL 0,iL 0,iL 0,iL 0,iL 0, .bool false,iM 0,iL 0], .box (a0f y0.1)])) (fun y6 hy4 h28=> ?_) (fun s5 h29=> ?_))
    ·refine kcN hy4 (fun(s2:Bool)=>([(4, .ptr 0 0),(5, .bool false),(6, .ptr 1 0),(85, .bool s2)],[.box [.nl, .nl, .nl, .nl, .bool false,iL 0,iL 0,iL 0,iL 0,iL 0,iL 0,iL 0,iL 0,iL 0, .bool false,iM 0,iL 0], .box (a0f y0.1)])) (fun s2 hy5=> ?_) (fun s2 h30=> ?_)
     ·refine km 4 (kAb 78 hy5 (fun _=>h0J) (fun y3 h31=>kc 2 (kB 80 h31 (fun h32=> ?_) (fun h33=> ?_))))
      ·exact ke 5 (kNW h32 D W [1,2])
      ·refine kc 2 ?_
       obtain⟨y1,hy6,h34⟩:=a0d h33
       exact RJ.call0 (d:=(some 83)) (f:=40) (args:=[.agg (a0w x0), .agg (a0f y0.1), .nl]) (v:= .bool y1) (tr2:=[]) (by kernel_rfl) (by kernel_rfl) (.cons (Le.refl _) (.cons (Le.refl _) (.cons (Le.nl _) .nil))) (f0A hy6) (by kernel_rfl) (ke 2 (kNW h34 D W [1,2]))
     ·exact kBT 85 h30 (fun h35=>kq (kX (kCx h35 h28 (fun h37=>by obtain rfl:=oi h37;exact PJ.res (v1:= .tup [zQ, .bool false]) (Le.tup (.cons (Le.agg (.cons (Le.nl _) (.cons (Le.nl _) (.cons (Le.nl _) (.cons (Le.nl _) (LeL.refl _)))))) (LeL.refl _))) (kZ H D W))))) (fun h36=>kK (kXo h36 [4,5,6]))
    ·exact kq (kX (by cases h29;exact kZ H D W))
def i0L(x0 x1:i0s):Option (Bool):=
 (Option.bind (bif(decide (x1.G_>x0.G_))then(some true)else(bif(decide (x1.G_=x0.G_))then(some (decide (x1.F_>x0.F_)))else(some false))) fun(s0:Bool)=>(some s0))
theorem p0v {x0 x1:i0s} {r:Bool} (h:i0L x0 x1=some r):SQ 103 [.agg (a0Z x0), .agg (a0Z x1)] [] (.bool r) []:=by
 refine kFn (fn:=Tryz.f103) (fun F H D W=> ?_)
 unfold i0L at h
 exact kq (kcN h (fun(s0:Bool)=>([(4, .bool s0)],[])) (fun s0 hy0=>km 6 (kB 10 hy0 (fun h1=>ke 14 (kNW h1 D W [])) (fun h2=>kc 6 (kB 16 h2 (fun h3=>ke 8 (kNW h3 D W [])) (fun h4=>ke 8 (kNW h4 D W [])))))) (fun s0 h0=>kX (by cases h0;exact kZ H D W)))
def d0f(x0:i0s)(x1:d0b):Option (Int):=
 (some (IntKind.wrap .i64 (x0.G_-x1.M_)))
theorem g0F {x0:i0s} {x1:d0b} {r:Int} (h:d0f x0 x1=some r):SQ 18 [.agg (a0Z x0), .agg (a0f x1)] [] (iL r) []:=by
 refine kFn (fn:=Tryz.f18) (fun F H D W=> ?_)
 unfold d0f at h
 exact kq (kq (kX (by cases h;exact kZ H D W)))
def b0b(x0:j0P):Option (Int×Bool):=
 (Option.bind (a0l (fun(s0:Int×(List (Int×Int)))=>(bif(decide (s0.1<(x0.a_.b_.length:Int)))then(Option.bind (bif inR s0.1 x0.a_.b_.length then(Option.bind (d0w x0.a_.S_ (nth x0.a_.b_ s0.1)) fun y0=>(Option.bind (Option.bind (bif(!y0.2)then(some true)else(bif(decide (s0.1>0))then(bif inR (IntKind.wrap .i64 (s0.1-1)) x0.a_.b_.length then(Option.bind (i0L ((nth x0.a_.b_ (IntKind.wrap .i64 (s0.1-1)))) (nth x0.a_.b_ s0.1)) fun y2=>(some (!y2)))else none)else(some false))) fun(s2:Bool)=>(bif s2 then(some (.inr (.inr (.inr (.inr (s0.1,false))))))else(some (.inl ())))) (a0j fun(s5:Unit)=>(Option.bind (bif(!((c0C (fun a b:Int=>a==b) s0.2 ((nth x0.a_.b_ s0.1).G_)).isSome))then(Option.bind (d0f (nth x0.a_.b_ s0.1) y0.1) fun y1=>(bif(c0C (fun a b:Int=>a==b) s0.2 ((nth x0.a_.b_ s0.1).G_)).isNone then(some (y1,(s0.2++ [(((nth x0.a_.b_ s0.1).G_),y1)])))else none))else(some (((c0C (fun a b:Int=>a==b) s0.2 ((nth x0.a_.b_ s0.1).G_)).getD 0),s0.2))) fun(s1:Int×(List (Int×Int)))=>(Option.bind (bif(!((c0C (fun a b:Int=>a==b) s0.2 ((nth x0.a_.b_ s0.1).G_)).isSome))then(bif(decide (¬((nth x0.a_.b_ s0.1).F_)=0))then(some true)else(Option.bind (d0f (nth x0.a_.b_ s0.1) y0.1) fun y3=>(some (decide (¬s1.1=y3)))))else(Option.bind (d0f (nth x0.a_.b_ s0.1) y0.1) fun y4=>(some (decide (¬s1.1=y4))))) fun(s3:Bool)=>(bif s3 then(some (.inr (.inr (.inr (s0.1,false)))))else(some (.inl s1.2))))))))else none) (a0j fun(s4:(List (Int×Int)))=>(some (.inl ((IntKind.wrap .i64 (s0.1+1)),s4)))))else(some (.inr (.inl ()))))) big (0,([]:List (Int×Int)))) (a0j fun(s6:Unit)=>(some (90,(decide ((x0.a_.b_.length:Int)≤90))))))
theorem h0q {x0:j0P} {r:Int×Bool} (h:b0b x0=some r):SQ 57 [.agg (b0m x0)] [] (.tup [iL r.1, .bool r.2]) []:=by
 refine kFn (fn:=Tryz.f57) (fun F H D W=> ?_)
 unfold b0b at h
 refine kq (kq (kcX h (fun(s6:Unit)=>([(1, .ptr 0 0),(2,iL 0),(3, .bool false)],[.box (b0m x0)])) (fun y5 hy0 h0=> ?_) (fun s6 h2=> ?_)))
 ·refine kq (kb 0 (kl (fun(s0:Int×(List (Int×Int)))=>([(1, .ptr 0 0),(2,iL 0),(3, .bool false),(4, .mp 1),(14,lsv a0Z 3 x0.a_.b_),(15,iL (x0.a_.b_.length:Int)),(16,iL s0.1)],[.box (b0m x0), .map (b0O (fun k:Int=>iL k) (fun k:Int=>iL k) s0.2)])) hy0 [1,2,3,4,14,15,16] (fun s0 x1361 hs0=>kq (kS (kBT 17 hs0 (fun h3=> ?_) (fun h4=> ?_))))))
  ·refine kKN (kcX h3 (fun(s4:(List (Int×Int)))=>([(1, .ptr 0 0),(2,iL 0),(3, .bool false),(4, .mp 1),(14,lsv a0Z 3 x0.a_.b_),(15,iL (x0.a_.b_.length:Int)),(16,iL s0.1)],[.box (b0m x0), .map (b0O (fun k:Int=>iL k) (fun k:Int=>iL k) s4)])) (fun y6 hy1 h1=> ?_) (fun s4 h5=> ?_))
   ·refine kb 1 (kn 1 (kIb 19 c0Z hy1 (fun h6=>kr 4 (kn 4 (kAb 26 h6 (fun _=>i0O) (fun y0 h7=>kr 6 (kcX h7 (fun(s5:Unit)=>([(1, .ptr 0 0),(2,iL 0),(3, .bool false),(4, .mp 1),(5,iL s0.1),(6, .ptr 2 0),(7, .ptr 3 0),(14,lsv a0Z 3 x0.a_.b_),(15,iL (x0.a_.b_.length:Int)),(16,iL s0.1)],[.box (b0m x0), .map (b0O (fun k:Int=>iL k) (fun k:Int=>iL k) s0.2), .box [iL ((nth x0.a_.b_ s0.1).G_),iL ((nth x0.a_.b_ s0.1).F_), .str ((nth x0.a_.b_ s0.1).D_)], .box (a0f y0.1)])) (fun y7 hy2 h8=> ?_) (fun s5 h9=> ?_))))))))
    ·refine kcN hy2 (fun(s2:Bool)=>([(1, .ptr 0 0),(2,iL 0),(3, .bool false),(4, .mp 1),(5,iL s0.1),(6, .ptr 2 0),(7, .ptr 3 0),(14,lsv a0Z 3 x0.a_.b_),(15,iL (x0.a_.b_.length:Int)),(16,iL s0.1),(46, .bool s2)],[.box (b0m x0), .map (b0O (fun k:Int=>iL k) (fun k:Int=>iL k) s0.2), .box [iL ((nth x0.a_.b_ s0.1).G_),iL ((nth x0.a_.b_ s0.1).F_), .str ((nth x0.a_.b_ s0.1).D_)], .box (a0f y0.1)])) (fun s2 hy3=> ?_) (fun s2 h10=> ?_)
     ·refine kDr (kD 3 (kB 31 hy3 (fun h11=> ?_) (fun h12=> ?_)))
      ·exact kD 15 (kE (PJ.wk (Wk.sel (L2:=[(1, .ptr 0 0),(2,iL 0),(3, .bool false),(4, .mp 1),(5,iL s0.1),(6, .ptr 2 0),(7, .ptr 3 0),(14,lsv a0Z 3 x0.a_.b_),(15,iL (x0.a_.b_.length:Int)),(16,iL s0.1),(46, .bool true)]) (H2:=[.box (b0m x0), .map (b0O (fun k:Int=>iL k) (fun k:Int=>iL k) s0.2), .box [iL ((nth x0.a_.b_ s0.1).G_),iL ((nth x0.a_.b_ s0.1).F_), .str ((nth x0.a_.b_ s0.1).D_)], .box (a0f y0.1)]) 0 (by rw[D];rfl) W [0,1,2,3] (by kernel_rfl) (by simp only[ah,av,c0r (ek:=(fun k:Int=>iL k)) (ev:=(fun k:Int=>iL k)) (fun _ _=>rfl) (fun _ _=>rfl)];kernel_rfl) (by decide) (by simp only[aB,aG,b0C (ek:=(fun k:Int=>iL k)) (ev:=(fun k:Int=>iL k)) (fun _ _=>rfl) (fun _ _=>rfl)];kernel_rfl) (by kernel_rfl) (by kernel_rfl) (by kernel_rfl)) (kNo h11 [1,2,3,4,5,6,7,14,15,16,46])))
      ·refine kD 3 (kB 34 h12 (fun h13=> ?_) (fun h14=> ?_))
       ·refine kD 5 ?_
        obtain⟨hm,h15⟩:=a0Q h13
        refine kJ 40 (tr2:=[([],[]),([],[]),([],[]),([],[]),([],[]),([],[]),([],[]),([],[]),([0,1],[]),([],[]),([],[]),([],[])]) c0Z hm (kD 2 ?_)
        obtain⟨y2,hy4,h16⟩:=a0d h15
        exact kC0 (some 43) [([],[]),([],[]),([],[]),([],[]),([],[]),([],[]),([],[]),([],[]),([0,1],[]),([],[]),([],[]),([],[]),([],[]),([4,5],[]),([],[8,9])] (p0v hy4) (kD 3 (kE (PJ.wk (Wk.sel (L2:=[(1, .ptr 0 0),(2,iL 0),(3, .bool false),(4, .mp 1),(5,iL s0.1),(6, .ptr 2 0),(7, .ptr 3 0),(14,lsv a0Z 3 x0.a_.b_),(15,iL (x0.a_.b_.length:Int)),(16,iL s0.1),(46, .bool (!y2))]) (H2:=[.box (b0m x0), .map (b0O (fun k:Int=>iL k) (fun k:Int=>iL k) s0.2), .box [iL ((nth x0.a_.b_ s0.1).G_),iL ((nth x0.a_.b_ s0.1).F_), .str ((nth x0.a_.b_ s0.1).D_)], .box (a0f y0.1)]) 0 (by rw[D];rfl) W [0,1,2,3] (by kernel_rfl) (by simp only[ah,av,c0r (ek:=(fun k:Int=>iL k)) (ev:=(fun k:Int=>iL k)) (fun _ _=>rfl) (fun _ _=>rfl)];kernel_rfl) (by decide) (by simp only[aB,aG,b0C (ek:=(fun k:Int=>iL k)) (ev:=(fun k:Int=>iL k)) (fun _ _=>rfl) (fun _ _=>rfl)];kernel_rfl) (by kernel_rfl) (by kernel_rfl) (by kernel_rfl)) (kNo h16 [1,2,3,4,5,6,7,14,15,16,46]))))
       ·exact kD 12 (kE (PJ.wk (Wk.sel (L2:=[(1, .ptr 0 0),(2,iL 0),(3, .bool false),(4, .mp 1),(5,iL s0.1),(6, .ptr 2 0),(7, .ptr 3 0),(14,lsv a0Z 3 x0.a_.b_),(15,iL (x0.a_.b_.length:Int)),(16,iL s0.1),(46, .bool false)]) (H2:=[.box (b0m x0), .map (b0O (fun k:Int=>iL k) (fun k:Int=>iL k) s0.2), .box [iL ((nth x0.a_.b_ s0.1).G_),iL ((nth x0.a_.b_ s0.1).F_), .str ((nth x0.a_.b_ s0.1).D_)], .box (a0f y0.1)]) 0 (by rw[D];rfl) W [0,1,2,3] (by kernel_rfl) (by simp only[ah,av,c0r (ek:=(fun k:Int=>iL k)) (ev:=(fun k:Int=>iL k)) (fun _ _=>rfl) (fun _ _=>rfl)];kernel_rfl) (by decide) (by simp only[aB,aG,b0C (ek:=(fun k:Int=>iL k)) (ev:=(fun k:Int=>iL k)) (fun _ _=>rfl) (fun _ _=>rfl)];kernel_rfl) (by kernel_rfl) (by kernel_rfl) (by kernel_rfl)) (kNo h14 [1,2,3,4,5,6,7,14,15,16,46])))
     ·exact kBT 46 h10 (fun h17=>kq (kX (kCx h17 h8 (fun h19=>PJ.blockRet (kCx h19 h1 (fun h20=>kLx h20 (fun h21=>PJ.blockRet (kCx h21 h0 (fun h22=>by obtain rfl:=oi h22;exact kZ H D W))))))))) (fun h18=>kK (kXo h18 [1,2,3,4,5,6,7,14,15,16]))
    ·refine kn 3 (RJ.lookK (d:=(some 52)) (i:=1) (ok:=true) (tr2:=[]) .i64 (fun k:Int=>iL k) s0.2 ((nth x0.a_.b_ s0.1).G_) (0:Int) (by kernel_rfl) (kr 5 (kcN h9 (fun(s1:Int×(List (Int×Int)))=>([(1, .ptr 0 0),(2,iL 0),(3, .bool false),(4, .mp 1),(5,iL s0.1),(6, .ptr 2 0),(7, .ptr 3 0),(9,iL s1.1),(10, .bool ((c0C (fun a b:Int=>a==b) s0.2 ((nth x0.a_.b_ s0.1).G_)).isSome)),(14,lsv a0Z 3 x0.a_.b_),(15,iL (x0.a_.b_.length:Int)),(16,iL s0.1)],[.box (b0m x0), .map (b0O (fun k:Int=>iL k) (fun k:Int=>iL k) s1.2), .box [iL ((nth x0.a_.b_ s0.1).G_),iL ((nth x0.a_.b_ s0.1).F_), .str ((nth x0.a_.b_ s0.1).D_)], .box (a0f y0.1)])) (fun s1 hy5=> ?_) (fun s1 h23=> ?_))))
     ·refine kq (kBT 56 hy5 (fun h24=> ?_) (fun h25=> ?_))
      ·refine kn 2 (kAb 59 h24 (fun _=>g0F) (fun y1 h26=>kr 1 (km 4 ?_)))
       obtain⟨hm,h27⟩:=a0Q h26
       exact RJ.insK (d:=none) (i:=1) (sv:=iL y1) (tr2:=[]) (H2:=[.box (b0m x0), .map (b0O (fun k:Int=>iL k) (fun k:Int=>iL k) ((s0.2++ [(((nth x0.a_.b_ s0.1).G_),y1)]))), .box [iL ((nth x0.a_.b_ s0.1).G_),iL ((nth x0.a_.b_ s0.1).F_), .str ((nth x0.a_.b_ s0.1).D_)], .box (a0f y0.1)]) .i64 (fun k:Int=>iL k) s0.2 ((nth x0.a_.b_ s0.1).G_) y1 (by kernel_rfl) rfl hm (by kernel_rfl) (kE (kNo h27 [1,2,3,4,5,6,7,9,10,14,15,16]))
      ·exact kK (kNo h25 [1,2,3,4,5,6,7,9,10,14,15,16])
     ·exact kcN h23 (fun(s3:Bool)=>([(1, .ptr 0 0),(2,iL 0),(3, .bool false),(4, .mp 1),(5,iL s0.1),(14,lsv a0Z 3 x0.a_.b_),(15,iL (x0.a_.b_.length:Int)),(16,iL s0.1),(77, .bool s3)],[.box (b0m x0), .map (b0O (fun k:Int=>iL k) (fun k:Int=>iL k) s1.2)])) (fun s3 hy6=>km 3 (kB 66 hy6 (fun h29=>kc 5 (kB 71 h29 (fun h31=>ke 6 (PJ.wk (Wk.sel (L2:=[(1, .ptr 0 0),(2,iL 0),(3, .bool false),(4, .mp 1),(5,iL s0.1),(14,lsv a0Z 3 x0.a_.b_),(15,iL (x0.a_.b_.length:Int)),(16,iL s0.1),(77, .bool true)]) (H2:=[.box (b0m x0), .map (b0O (fun k:Int=>iL k) (fun k:Int=>iL k) s1.2)]) 0 (by rw[D];rfl) W [0,1] (by kernel_rfl) (by simp only[ah,av,c0r (ek:=(fun k:Int=>iL k)) (ev:=(fun k:Int=>iL k)) (fun _ _=>rfl) (fun _ _=>rfl)];kernel_rfl) (by decide) (by simp only[aB,aG,b0C (ek:=(fun k:Int=>iL k)) (ev:=(fun k:Int=>iL k)) (fun _ _=>rfl) (fun _ _=>rfl)];kernel_rfl) (by kernel_rfl) (by kernel_rfl) (by kernel_rfl)) (kNo h31 [1,2,3,4,5,14,15,16,77]))) (fun h32=>kc 3 (kAb 75 h32 (fun _=>g0F) (fun y3 h33=>ke 2 (PJ.wk (Wk.sel (L2:=[(1, .ptr 0 0),(2,iL 0),(3, .bool false),(4, .mp 1),(5,iL s0.1),(14,lsv a0Z 3 x0.a_.b_),(15,iL (x0.a_.b_.length:Int)),(16,iL s0.1),(77, .bool (decide (¬s1.1=y3)))]) (H2:=[.box (b0m x0), .map (b0O (fun k:Int=>iL k) (fun k:Int=>iL k) s1.2)]) 0 (by rw[D];rfl) W [0,1] (by kernel_rfl) (by simp only[ah,av,c0r (ek:=(fun k:Int=>iL k)) (ev:=(fun k:Int=>iL k)) (fun _ _=>rfl) (fun _ _=>rfl)];kernel_rfl) (by decide) (by simp only[aB,aG,b0C (ek:=(fun k:Int=>iL k)) (ev:=(fun k:Int=>iL k)) (fun _ _=>rfl) (fun _ _=>rfl)];kernel_rfl) (by kernel_rfl) (by kernel_rfl) (by kernel_rfl)) (kNo h33 [1,2,3,4,5,14,15,16,77]))))))) (fun h30=>kc 8 (kAb 75 h30 (fun _=>g0F) (fun y4 h34=>ke 2 (PJ.wk (Wk.sel (L2:=[(1, .ptr 0 0),(2,iL 0),(3, .bool false),(4, .mp 1),(5,iL s0.1),(14,lsv a0Z 3 x0.a_.b_),(15,iL (x0.a_.b_.length:Int)),(16,iL s0.1),(77, .bool (decide (¬s1.1=y4)))]) (H2:=[.box (b0m x0), .map (b0O (fun k:Int=>iL k) (fun k:Int=>iL k) s1.2)]) 0 (by rw[D];rfl) W [0,1] (by kernel_rfl) (by simp only[ah,av,c0r (ek:=(fun k:Int=>iL k)) (ev:=(fun k:Int=>iL k)) (fun _ _=>rfl) (fun _ _=>rfl)];kernel_rfl) (by decide) (by simp only[aB,aG,b0C (ek:=(fun k:Int=>iL k)) (ev:=(fun k:Int=>iL k)) (fun _ _=>rfl) (fun _ _=>rfl)];kernel_rfl) (by kernel_rfl) (by kernel_rfl) (by kernel_rfl)) (kNo h34 [1,2,3,4,5,14,15,16,77]))))))) (fun s3 h28=>kBT 77 h28 (fun h35=>kq (kXb (kCx h35 h1 (fun h37=>kLx h37 (fun h38=>PJ.blockRet (kCx h38 h0 (fun h39=>by obtain rfl:=oi h39;exact kZ H D W))))))) (fun h36=>kKb (kXo h36 [1,2,3,4,14,15,16])))
   ·exact kM (kLo h5 [1,2,3,4,14,15,16])
  ·exact kEp 0 (kLx h4 (fun h40=>PJ.blockOut (kXW h40 D W [0])))
 ·exact kS (kDr (kD 7 (kEN (kX (by cases h2;exact kZ H D W)))))
structure a0F where
 t_:m0N
 aa_:Int
 deriving Inhabited,DecidableEq
def b0g(x:a0F):List SV:=[lsv (a0q .i32) 1 x.t_.e_.r_,lsv (a0q .i32) 1 x.t_.e_.q_,lsv (a0q .i32) 1 x.t_.f_.r_,lsv (a0q .i32) 1 x.t_.f_.q_,lsv (a0q .i32) 1 x.t_.n_.r_,lsv (a0q .i32) 1 x.t_.n_.q_, .int .i64 x.aa_]
theorem l0u(x:a0F):(b0g x).length=7:=rfl
def h0r(x0 x1:a0F):Option (Bool):=
 (Option.bind (a0l (fun(s1:Int)=>(bif(decide (s1<3))then(Option.bind (a0l (fun(s0:Int)=>(bif(decide (s0<3))then(Option.bind (Option.bind (Option.bind (bif(decide ((A0u s1 s0)=0))then(some ((decide ((v0Y s1 s0)=2))))else(some false)) fun(s2:Bool)=>(bif s2 then(some (.inr (.inl ())))else(some (.inl ())))) (a0j fun(s5:Unit)=>(Option.bind (bif(decide (¬x0.aa_=x1.aa_))then(some true)else(some (((decide (s1=1)) !=(decide (s0=1)))))) fun(s3:Bool)=>(Option.bind (bif s3 then(bif(decide (s1=0))then(bif(decide (s0=0))then(Option.bind (b0i x0.t_.e_ x1.t_.e_) fun y0=>(some y0))else(bif(decide (s0=1))then(Option.bind (b0i x0.t_.e_ x1.t_.f_) fun y1=>(some y1))else(bif(decide (s0=2))then(Option.bind (b0i x0.t_.e_ x1.t_.n_) fun y2=>(some y2))else none)))else(bif(decide (s1=1))then(bif(decide (s0=0))then(Option.bind (b0i x0.t_.f_ x1.t_.e_) fun y3=>(some y3))else(bif(decide (s0=1))then(Option.bind (b0i x0.t_.f_ x1.t_.f_) fun y4=>(some y4))else(bif(decide (s0=2))then(Option.bind (b0i x0.t_.f_ x1.t_.n_) fun y5=>(some y5))else none)))else(bif(decide (s1=2))then(bif(decide (s0=0))then(Option.bind (b0i x0.t_.n_ x1.t_.e_) fun y6=>(some y6))else(bif(decide (s0=1))then(Option.bind (b0i x0.t_.n_ x1.t_.f_) fun y7=>(some y7))else(bif(decide (s0=2))then(Option.bind (b0i x0.t_.n_ x1.t_.n_) fun y8=>(some y8))else none)))else none)))else(some false)) fun(s4:Bool)=>(bif s4 then(some (.inr (.inr (.inr (.inr (.inr true))))))else(some (.inl ()))))))) (a0j fun(s6:Unit)=>(some (.inl (IntKind.wrap .i64 (s0+1))))))else(some (.inr (.inl ()))))) big 0) (a0j fun(s7:Unit)=>(some (.inl (IntKind.wrap .i64 (s1+1))))))else(some (.inr (.inl ()))))) big 0) (a0j fun(s8:Unit)=>(some false)))
theorem p0w {x0 x1:a0F} {r:Bool} (h:h0r x0 x1=some r):SQ 104 [.agg (b0g x0), .agg (b0g x1)] [] (.bool r) []:=by
 refine kFn (fn:=Tryz.f104) (fun F H D W=> ?_)
 unfold h0r at h
 refine kq (kcX h (fun(s8:Unit)=>([(4, .bool false)],[])) (fun y9 hy0 h12=> ?_) (fun s8 h13=> ?_))
 ·refine kq (kb 0 (kl (fun(s1:Int)=>([(2, .ptr 0 0),(3, .ptr 1 0),(4, .bool false),(8,iL s1)],[.box (b0g x0), .box (b0g x1)])) hy0 [2,3,4,8] (fun s1 x8491 hs0=>kq (kS (kBT 9 hs0 (fun h14=> ?_) (fun h15=> ?_))))))
  ·refine kKN (kcX h14 (fun(s7:Unit)=>([(2, .ptr 0 0),(3, .ptr 1 0),(4, .bool false),(8,iL s1)],[.box (b0g x0), .box (b0g x1)])) (fun y10 hy1 h16=> ?_) (fun s7 h17=> ?_))
   ·refine kb 1 (kq (kq (kb 2 (kl (fun(s0:Int)=>([(2, .ptr 0 0),(3, .ptr 1 0),(4, .bool false),(5,iL s1),(8,iL s1),(11,iL s0)],[.box (b0g x0), .box (b0g x1)])) hy1 [2,3,4,5,8,11] (fun s0 x10125 hs1=>kq (kS (kBT 12 hs1 (fun h18=> ?_) (fun h19=> ?_))))))))
    ·refine kKN (kcX h18 (fun(s6:Unit)=>([(2, .ptr 0 0),(3, .ptr 1 0),(4, .bool false),(5,iL s1),(8,iL s1),(11,iL s0)],[.box (b0g x0), .box (b0g x1)])) (fun y11 hy2 h20=> ?_) (fun s6 h21=> ?_))
     ·refine kb 3 (kq (kcX hy2 (fun(s5:Unit)=>([(2, .ptr 0 0),(3, .ptr 1 0),(4, .bool false),(5,iL s1),(6,iL s0),(8,iL s1),(11,iL s0)],[.box (b0g x0), .box (b0g x1)])) (fun y12 hy3 h22=> ?_) (fun s5 h23=> ?_)))
      ·exact kcN hy3 (fun(s2:Bool)=>([(2, .ptr 0 0),(3, .ptr 1 0),(4, .bool false),(5,iL s1),(6,iL s0),(8,iL s1),(11,iL s0),(23, .bool s2)],[.box (b0g x0), .box (b0g x1)])) (fun s2 hy4=>km 5 (kB 18 hy4 (fun h25=>ke 5 (kNo h25 [2,3,4,5,6,8,11,23])) (fun h26=>ke 5 (kNo h26 [2,3,4,5,6,8,11,23])))) (fun s2 h24=>kBT 23 h24 (fun h27=>kEx 3 (kCx h27 h22 (fun h29=>PJ.blockOut (kXo h29 [2,3,4,5,8,11])))) (fun h28=>kK (kXo h28 [2,3,4,5,6,8,11])))
      ·refine kcN h23 (fun(s3:Bool)=>([(2, .ptr 0 0),(3, .ptr 1 0),(4, .bool false),(5,iL s1),(6,iL s0),(7, .bool s3),(8,iL s1),(11,iL s0)],[.box (b0g x0), .box (b0g x1)])) (fun s3 hy5=> ?_) (fun s3 h30=> ?_)
       ·exact km 6 (kB 29 hy5 (fun h31=>ke 7 (kNo h31 [2,3,4,5,6,7,8,11])) (fun h32=>ke 7 (kNo h32 [2,3,4,5,6,7,8,11])))
       ·refine kcN h30 (fun(s4:Bool)=>([(2, .ptr 0 0),(3, .ptr 1 0),(4, .bool false),(5,iL s1),(8,iL s1),(11,iL s0),(47, .bool s4)],[.box (b0g x0), .box (b0g x1)])) (fun s4 hy6=> ?_) (fun s4 h33=> ?_)
        ·refine kDr (kD 2 (kB 37 hy6 (fun h0=> ?_) (fun h34=> ?_)))
         ·refine kD 2 ?_
          cases hb0:(decide (s1=0))
          ·have h1:=condF hb0 h0
           cases hb1:(decide (s1=1))
           ·have h2:=condF hb1 h1
            cases hb2:(decide (s1=2))
            ·have h35:=condF hb2 h2
             cases h35
            ·have h3:=condT hb2 h2
             refine RJ.pin 38 (kd:= .i64) (by kernel_rfl) (of_decide_eq_true hb2) (kD 4 ?_)
             cases hb3:(decide (s0=0))
             ·have h4:=condF hb3 h3
              cases hb4:(decide (s0=1))
              ·have h5:=condF hb4 h4
               cases hb5:(decide (s0=2))
               ·have h36:=condF hb5 h5
                cases h36
               ·have h37:=condT hb5 h5
                refine RJ.pin 42 (kd:= .i64) (by kernel_rfl) (of_decide_eq_true hb5) (kD 2 ?_)
                obtain⟨y8,hy7,h38⟩:=a0d h37
                exact kC0 (some 46) [([],[]),([],[]),([],[]),([],[]),([],[]),([0,1],[]),([],[]),([],[]),([],[]),([2,3],[]),([],[4,5])] (b0T hy7) (kD 1 (kE (kNW h38 D W [0,1])))
              ·have h39:=condT hb4 h4
               refine RJ.pin 42 (kd:= .i64) (by kernel_rfl) (of_decide_eq_true hb4) (kD 2 ?_)
               obtain⟨y7,hy8,h40⟩:=a0d h39
               exact kC0 (some 46) [([],[]),([],[]),([],[]),([],[]),([],[]),([0,1],[]),([],[]),([],[]),([],[]),([2,3],[]),([],[4,5])] (b0T hy8) (kD 1 (kE (kNW h40 D W [0,1])))
             ·have h41:=condT hb3 h3
              refine RJ.pin 42 (kd:= .i64) (by kernel_rfl) (of_decide_eq_true hb3) (kD 2 ?_)
              obtain⟨y6,hy9,h42⟩:=a0d h41
              exact kC0 (some 46) [([],[]),([],[]),([],[]),([],[]),([],[]),([0,1],[]),([],[]),([],[]),([],[]),([2,3],[]),([],[4,5])] (b0T hy9) (kD 1 (kE (kNW h42 D W [0,1])))
           ·have h6:=condT hb1 h1
            refine RJ.pin 38 (kd:= .i64) (by kernel_rfl) (of_decide_eq_true hb1) (kD 4 ?_)
            cases hb6:(decide (s0=0))
            ·have h7:=condF hb6 h6
             cases hb7:(decide (s0=1))
             ·have h8:=condF hb7 h7
              cases hb8:(decide (s0=2))
              ·have h43:=condF hb8 h8
               cases h43
              ·have h44:=condT hb8 h8
               refine RJ.pin 42 (kd:= .i64) (by kernel_rfl) (of_decide_eq_true hb8) (kD 2 ?_)
               obtain⟨y5,hy10,h45⟩:=a0d h44
               exact kC0 (some 46) [([],[]),([],[]),([],[]),([],[]),([],[]),([0,1],[]),([],[]),([],[]),([],[]),([2,3],[]),([],[4,5])] (b0T hy10) (kD 1 (kE (kNW h45 D W [0,1])))
             ·have h46:=condT hb7 h7
              refine RJ.pin 42 (kd:= .i64) (by kernel_rfl) (of_decide_eq_true hb7) (kD 2 ?_)
              obtain⟨y4,hy11,h47⟩:=a0d h46
              exact kC0 (some 46) [([],[]),([],[]),([],[]),([],[]),([],[]),([0,1],[]),([],[]),([],[]),([],[]),([2,3],[]),([],[4,5])] (b0T hy11) (kD 1 (kE (kNW h47 D W [0,1])))
            ·have h48:=condT hb6 h6
             refine RJ.pin 42 (kd:= .i64) (by kernel_rfl) (of_decide_eq_true hb6) (kD 2 ?_)
             obtain⟨y3,hy12,h49⟩:=a0d h48
             exact kC0 (some 46) [([],[]),([],[]),([],[]),([],[]),([],[]),([0,1],[]),([],[]),([],[]),([],[]),([2,3],[]),([],[4,5])] (b0T hy12) (kD 1 (kE (kNW h49 D W [0,1])))
          ·have h9:=condT hb0 h0
           refine RJ.pin 38 (kd:= .i64) (by kernel_rfl) (of_decide_eq_true hb0) (kD 4 ?_)
           cases hb9:(decide (s0=0))
           ·have h10:=condF hb9 h9
            cases hb10:(decide (s0=1))
            ·have h11:=condF hb10 h10
             cases hb11:(decide (s0=2))
             ·have h50:=condF hb11 h11
              cases h50
             ·have h51:=condT hb11 h11
              refine RJ.pin 42 (kd:= .i64) (by kernel_rfl) (of_decide_eq_true hb11) (kD 2 ?_)
              obtain⟨y2,hy13,h52⟩:=a0d h51
              exact kC0 (some 46) [([],[]),([],[]),([],[]),([],[]),([],[]),([0,1],[]),([],[]),([],[]),([],[]),([2,3],[]),([],[4,5])] (b0T hy13) (kD 1 (kE (kNW h52 D W [0,1])))
            ·have h53:=condT hb10 h10
             refine RJ.pin 42 (kd:= .i64) (by kernel_rfl) (of_decide_eq_true hb10) (kD 2 ?_)
             obtain⟨y1,hy14,h54⟩:=a0d h53
             exact kC0 (some 46) [([],[]),([],[]),([],[]),([],[]),([],[]),([0,1],[]),([],[]),([],[]),([],[]),([2,3],[]),([],[4,5])] (b0T hy14) (kD 1 (kE (kNW h54 D W [0,1])))
           ·have h55:=condT hb9 h9
            refine RJ.pin 42 (kd:= .i64) (by kernel_rfl) (of_decide_eq_true hb9) (kD 2 ?_)
            obtain⟨y0,hy15,h56⟩:=a0d h55
            exact kC0 (some 46) [([],[]),([],[]),([],[]),([],[]),([],[]),([0,1],[]),([],[]),([],[]),([],[]),([2,3],[]),([],[4,5])] (b0T hy15) (kD 1 (kE (kNW h56 D W [0,1])))
         ·exact kD 10 (kE (kNW h34 D W [0,1]))
        ·exact kBT 47 h33 (fun h57=>kq (kXb (kCx h57 h20 (fun h59=>kLx h59 (fun h60=>PJ.blockRet (PJ.blockRet (kCx h60 h16 (fun h61=>kLx h61 (fun h62=>PJ.blockRet (kCx h62 h12 (fun h63=>by obtain rfl:=oi h63;exact kZ H D W))))))))))) (fun h58=>kKb (kXo h58 [2,3,4,5,8,11]))
     ·exact kM (kLo h21 [2,3,4,5,8,11])
    ·exact kEp 2 (kLx h19 (fun h64=>PJ.blockOut (PJ.blockNormal (kXo h64 [2,3,4,8]))))
   ·exact kM (kLo h17 [2,3,4,8])
  ·exact kEp 0 (kLx h15 (fun h65=>PJ.blockOut (kXW h65 D W [])))
 ·exact kq (kX (by cases h13;exact kZ H D W))
def b0I(x0:j0P):Option (Int×Bool):=
 (Option.bind (a0G x0.a_.S_ 0 x0.a_.g_.e_) fun y4=>(Option.bind (e0b x0.a_.S_ y4.1 ([]:List Int)) fun y3=>(Option.bind (a0l (fun(s0:Int×(List a0F))=>(bif(decide (s0.1<(x0.a_.b_.length:Int)))then(Option.bind (bif inR s0.1 x0.a_.b_.length then(Option.bind (d0w x0.a_.S_ (nth x0.a_.b_ s0.1)) fun y2=>(Option.bind (e0b x0.a_.S_ y2.1 ([]:List Int)) fun y0=>(Option.bind (d0f (nth x0.a_.b_ s0.1) y2.1) fun y1=>(bif room (s0.2.length+([(⟨y0,y1⟩:a0F)]:List a0F).length)then(a0l (fun(s1:Int)=>(bif(decide (s1<((((s0.2++([(⟨y0,y1⟩:a0F)]:List a0F))).length:Int))))then(bif inR s1 ((s0.2++([(⟨y0,y1⟩:a0F)]:List a0F))).length then(bif inR s1 ((s0.2++([(⟨y0,y1⟩:a0F)]:List a0F))).length then(bif inR (IntKind.wrap .i64 (s0.1+1)) ((s0.2++([(⟨y0,y1⟩:a0F)]:List a0F))).length then(bif inR (IntKind.wrap .i64 (s0.1+1)) ((s0.2++([(⟨y0,y1⟩:a0F)]:List a0F))).length then(Option.bind (h0r ((⟨(⟨(((nth ((s0.2++([(⟨y0,y1⟩:a0F)]:List a0F))) s1).t_).e_),(((nth ((s0.2++([(⟨y0,y1⟩:a0F)]:List a0F))) s1).t_).f_),(((nth ((s0.2++([(⟨y0,y1⟩:a0F)]:List a0F))) s1).t_).n_)⟩:m0N),(nth ((s0.2++([(⟨y0,y1⟩:a0F)]:List a0F))) s1).aa_⟩:a0F)) ((⟨(⟨(((nth ((s0.2++([(⟨y0,y1⟩:a0F)]:List a0F))) (IntKind.wrap .i64 (s0.1+1))).t_).e_),(((nth ((s0.2++([(⟨y0,y1⟩:a0F)]:List a0F))) (IntKind.wrap .i64 (s0.1+1))).t_).f_),(((nth ((s0.2++([(⟨y0,y1⟩:a0F)]:List a0F))) (IntKind.wrap .i64 (s0.1+1))).t_).n_)⟩:m0N),(nth ((s0.2++([(⟨y0,y1⟩:a0F)]:List a0F))) (IntKind.wrap .i64 (s0.1+1))).aa_⟩:a0F))) fun y5=>(bif y5 then(some (.inr (.inr (.inr (.inr (s0.1,false))))))else(some (.inl (IntKind.wrap .i64 (s1+1))))))else none)else none)else none)else none)else(some (.inr (.inl ((s0.2++([(⟨y0,y1⟩:a0F)]:List a0F)))))))) big 0)else none))))else none) (a0j fun(s2:(List a0F))=>(some (.inl ((IntKind.wrap .i64 (s0.1+1)),s2)))))else(some (.inr (.inl ()))))) big (0,([(⟨y3,0⟩:a0F)]:List a0F))) (a0j fun(s3:Unit)=>(some (0,true))))))
theorem h0p {x0:j0P} {r:Int×Bool} (h:b0I x0=some r):SQ 58 [.agg (b0m x0)] [] (.tup [iL r.1, .bool r.2]) []:=by
 refine kFn (fn:=Tryz.f58) (fun F H D W=> ?_)
 unfold b0I at h
 refine kq (kn 7 (kAb 21 h (fun _=>b0t) (fun y4 h0=>kr 6 (kn 4 ?_))))
 obtain⟨y3,hy0,h1⟩:=a0d h0
 refine RJ.call0 (d:=(some 28)) (f:=80) (args:=[.agg (a0w x0.a_.S_), .agg (a0f y4.1), .nl]) (v:= .agg (d0d y3)) (tr2:=[]) (by kernel_rfl) (by kernel_rfl) (.cons (Le.refl _) (.cons (Le.refl _) (.cons (Le.nl _) .nil))) (f0S hy0) (by kernel_rfl) (kr 3 (kcX h1 (fun(s3:Unit)=>([(2,iL 0),(3, .bool false)],[])) (fun y6 hy1 h2=> ?_) (fun s3 h3=> ?_)))
 ·refine kq (kb 0 (J.wk (Wk.sel (L2:=[(1, .ptr 0 0),(2,iL 0),(3, .bool false),(6, .vc 1),(33,lsv a0Z 3 x0.a_.b_),(34,iL (x0.a_.b_.length:Int)),(35,iL 0)]) (H2:=[.box (b0m x0),a0A b0g 7 145 ([(⟨y3,0⟩:a0F)]:List a0F)]) 0 (by rw[D];rfl) W [0,2] (by kernel_rfl) (by kernel_rfl) (by decide) (by kernel_rfl) (by kernel_rfl) (by kernel_rfl) (by kernel_rfl)) (kl (fun(s0:Int×(List a0F))=>([(1, .ptr 0 0),(2,iL 0),(3, .bool false),(6, .vc 1),(33,lsv a0Z 3 x0.a_.b_),(34,iL (x0.a_.b_.length:Int)),(35,iL s0.1)],[.box (b0m x0),a0A b0g 7 145 s0.2])) hy1 [1,2,3,6,33,34,35] (fun s0 x837 hs0=>kq (kS (kBT 36 hs0 (fun h4=> ?_) (fun h5=> ?_)))))))
  ·refine kKN (kcX h4 (fun(s2:(List a0F))=>([(1, .ptr 0 0),(2,iL 0),(3, .bool false),(6, .vc 1),(33,lsv a0Z 3 x0.a_.b_),(34,iL (x0.a_.b_.length:Int)),(35,iL s0.1)],[.box (b0m x0),a0A b0g 7 145 s2])) (fun y7 hy2 h6=> ?_) (fun s2 h7=> ?_))
   ·refine kb 1 (kn 1 (kIb 38 c0Z hy2 (fun h8=>kr 4 (kn 4 (kAb 45 h8 (fun _=>i0O) (fun y2 h9=>kr 6 (kS (kDr (kD 5 ?_)))))))))
    obtain⟨y0,hy3,h10⟩:=a0d h9
    refine RJ.call0 (d:=(some 53)) (f:=80) (args:=[.agg (a0w x0.a_.S_), .agg (a0f y2.1), .nl]) (v:= .agg (d0d y0)) (tr2:=[([],[]),([],[]),([],[]),([0,1],[]),([6,7],[]),([],[8,9])]) (by kernel_rfl) (by kernel_rfl) (.cons (Le.refl _) (.cons (Le.refl _) (.cons (Le.nl _) .nil))) (f0S hy3) (by kernel_rfl) (kD 2 ?_)
    obtain⟨y1,hy4,h11⟩:=a0d h10
    refine kC0 (some 56) [([],[]),([],[]),([],[]),([0,1],[]),([6,7],[]),([],[8,9]),([4,5],[]),([6,7],[]),([],[10,11])] (g0F hy4) (kD 2 ?_)
    obtain⟨hm,h12⟩:=a0Q h11
    refine RJ.rel (d:=(some 59)) (ef:=⟨.vc 7,[1,6],[(1, .gone),(7, .vec (s0.2.length+([(⟨y0,y1⟩:a0F)]:List a0F).length) 7 145 (s0.2.flatMap b0g++([(⟨y0,y1⟩:a0F)]:List a0F).flatMap b0g))]⟩) (ef':=⟨.vc 7,[1,6],[(1, .gone),(7,a0A b0g 7 145 (s0.2++([(⟨y0,y1⟩:a0F)]:List a0F)))]⟩) (c:=room (s0.2.length+([(⟨y0,y1⟩:a0F)]:List a0F).length)) (tr2:=[([],[]),([],[]),([],[]),([0,1],[]),([6,7],[]),([],[8,9]),([4,5],[]),([6,7],[]),([],[10,11]),([],[]),([],[12,13,12,13]),([2,3,12,13],[2,3,14,15,14,15])]) (H2:=[.box (b0m x0), .gone, .box [iL ((nth x0.a_.b_ s0.1).G_),iL ((nth x0.a_.b_ s0.1).F_), .str ((nth x0.a_.b_ s0.1).D_)], .box (a0f y2.1), .res, .res,a0A b0g 7 145 ([(⟨y0,y1⟩:a0F)]:List a0F),a0A b0g 7 145 ((s0.2++([(⟨y0,y1⟩:a0F)]:List a0F)))]) (by kernel_rfl) hm (fun hc=>N.app) (by kernel_rfl) (kD 1 (kEN (kq (kb 2 (J.wk (Wk.sel (L2:=[(1, .ptr 0 0),(2,iL 0),(3, .bool false),(6, .vc 1),(7,iL s0.1),(33,lsv a0Z 3 x0.a_.b_),(34,iL (x0.a_.b_.length:Int)),(35,iL s0.1),(60, .vc 1),(61,iL ((((s0.2++([(⟨y0,y1⟩:a0F)]:List a0F))).length:Int))),(62,iL 0)]) (H2:=[.box (b0m x0),a0A b0g 7 145 ((s0.2++([(⟨y0,y1⟩:a0F)]:List a0F)))]) 0 (by rw[D];rfl) W [0,7] (by kernel_rfl) (by kernel_rfl) (by decide) (by kernel_rfl) (by kernel_rfl) (by kernel_rfl) (by kernel_rfl)) (kl (fun(s1:Int)=>([(1, .ptr 0 0),(2,iL 0),(3, .bool false),(6, .vc 1),(7,iL s0.1),(33,lsv a0Z 3 x0.a_.b_),(34,iL (x0.a_.b_.length:Int)),(35,iL s0.1),(60, .vc 1),(61,iL ((((s0.2++([(⟨y0,y1⟩:a0F)]:List a0F))).length:Int))),(62,iL s1)],[.box (b0m x0),a0A b0g 7 145 ((s0.2++([(⟨y0,y1⟩:a0F)]:List a0F)))])) h12 [1,2,3,6,7,33,34,35,60,61,62] (fun s1 x978 hs1=>kq (kS (kBT 63 hs1 (fun h13=> ?_) (fun h14=> ?_))))))))))
    ·refine kKN (kS (kb 3 (kSR ?_)))
     obtain⟨hm,h15⟩:=a0Q h13
     refine kQ 64 (.ptr 1 ((s1:Int).toNat*7)) [1] (tr2:=[]) hm ?_
     obtain⟨hm,h16⟩:=a0Q h15
     refine RJ.loadS (d:=(some 65)) (i:=1) (enc:=b0g) (k:=7) (xs:=((s0.2++([(⟨y0,y1⟩:a0F)]:List a0F)))) (j:=s1) (tr2:=[]) (by kernel_rfl) l0u hm (kr 2 (kS (kDr (kD 4 ?_))))
     obtain⟨hm,h17⟩:=a0Q h16
     refine kQ 70 (.ptr 1 (((IntKind.wrap .i64 (s0.1+1)):Int).toNat*7)) [1] (tr2:=[([4,5],[]),([],[]),([],[]),([],[]),([3],[])]) hm ?_
     obtain⟨hm,h18⟩:=a0Q h17
     refine RJ.loadS (d:=(some 71)) (i:=1) (enc:=b0g) (k:=7) (xs:=((s0.2++([(⟨y0,y1⟩:a0F)]:List a0F)))) (j:=(IntKind.wrap .i64 (s0.1+1))) (tr2:=[([4,5],[]),([],[]),([],[]),([],[]),([3],[]),([2,3],[])]) (by kernel_rfl) l0u hm ?_
     obtain⟨y5,hy5,h19⟩:=a0d h18
     exact kC0 (some 72) [([4,5],[]),([],[]),([],[]),([],[]),([3],[]),([2,3],[]),([],[6,7])] (p0w hy5) (kEN (kBT 72 h19 (fun h20=>kq (kXp (kLx h20 (fun h22=>PJ.blockRet (PJ.blockRet (kCx h22 h6 (fun h23=>kLx h23 (fun h24=>PJ.blockRet (kCx h24 h2 (fun h25=>by obtain rfl:=oi h25;exact kZ H D W)))))))))) (fun h21=>kKn (kM (kLW h21 D W [0,1])))))
    ·exact kEp 2 (kLx h14 (fun h26=>PJ.blockOut (PJ.blockNormal (kXo h26 [1,2,3,6,33,34,35]))))
   ·exact kM (kLo h7 [1,2,3,6,33,34,35])
  ·exact kEp 0 (kLx h5 (fun h27=>PJ.blockOut (kXW h27 D W [])))
 ·exact kq (kX (by cases h3;exact kZ H D W))
def g0p(x0:l0A):Option (Int×Int×Int):=
 (Option.bind (a0l (fun(s0:Int)=>(bif(decide (s0<7))then(bif(decide (s0=0))then(Option.bind (d0v (⟨x0⟩:j0P)) fun y0=>(bif(!y0.2)then(some (.inr (.inr ((IntKind.wrap .i64 (0+1)),y0.1,8))))else(some (.inl (IntKind.wrap .i64 (0+1))))))else(bif(decide (s0=1))then(Option.bind (c0K (⟨x0⟩:j0P)) fun y1=>(bif(!y1.2)then(some (.inr (.inr ((IntKind.wrap .i64 (1+1)),y1.1,8))))else(some (.inl (IntKind.wrap .i64 (1+1))))))else(bif(decide (s0=2))then(Option.bind (b0a (⟨x0⟩:j0P)) fun y2=>(bif(!y2.2)then(some (.inr (.inr ((IntKind.wrap .i64 (2+1)),y2.1,8))))else(some (.inl (IntKind.wrap .i64 (2+1))))))else(bif(decide (s0=3))then(Option.bind (c0L (⟨x0⟩:j0P)) fun y3=>(bif(!y3.2)then(some (.inr (.inr ((IntKind.wrap .i64 (3+1)),y3.1,8))))else(some (.inl (IntKind.wrap .i64 (3+1))))))else(bif(decide (s0=4))then(Option.bind (a0R (⟨x0⟩:j0P)) fun y4=>(bif(!y4.2)then(some (.inr (.inr ((IntKind.wrap .i64 (4+1)),y4.1,8))))else(some (.inl (IntKind.wrap .i64 (4+1))))))else(bif(decide (s0=5))then(Option.bind (b0b (⟨x0⟩:j0P)) fun y5=>(bif(!y5.2)then(some (.inr (.inr ((IntKind.wrap .i64 (5+1)),y5.1,8))))else(some (.inl (IntKind.wrap .i64 (5+1))))))else(bif(decide (s0=6))then(Option.bind (b0I (⟨x0⟩:j0P)) fun y6=>(bif(!y6.2)then(some (.inr (.inr ((IntKind.wrap .i64 (6+1)),y6.1,8))))else(some (.inl (IntKind.wrap .i64 (6+1))))))else none)))))))else(some (.inr (.inl ()))))) big 0) (a0j fun(s1:Unit)=>(some (0,0,0))))
theorem i0P {x0:l0A} {r:Int×Int×Int} (h:g0p x0=some r):SQ 23 [.agg (a0J x0)] [] (.tup [iL r.1,iL r.2.1,iL r.2.2]) []:=by
 refine kFn (fn:=Tryz.f23) (fun F H D W=> ?_)
 unfold g0p at h
 refine kq (kq (kq (kcX h (fun(s1:Unit)=>([(2,iL 0),(3,iL 0),(4,iL 0)],[])) (fun y7 hy0 h0=> ?_) (fun s1 h8=> ?_))))
 ·refine kq (kb 0 (J.wk (Wk.sel (L2:=[(2,iL 0),(3,iL 0),(4,iL 0),(28, .agg [.fn (.func 52) [.agg (a0J x0)] [], .fn (.func 53) [.agg (a0J x0)] [], .fn (.func 54) [.agg (a0J x0)] [], .fn (.func 55) [.agg (a0J x0)] [], .fn (.func 56) [.agg (a0J x0)] [], .fn (.func 57) [.agg (a0J x0)] [], .fn (.func 58) [.agg (a0J x0)] []]),(29,iL 0)]) (H2:=[]) 0 (by rw[D];rfl) W [] (by kernel_rfl) (by kernel_rfl) (by decide) (by kernel_rfl) (by kernel_rfl) (by kernel_rfl) (by kernel_rfl)) (kl (fun(s0:Int)=>([(2,iL 0),(3,iL 0),(4,iL 0),(28, .agg [.fn (.func 52) [.agg (a0J x0)] [], .fn (.func 53) [.agg (a0J x0)] [], .fn (.func 54) [.agg (a0J x0)] [], .fn (.func 55) [.agg (a0J x0)] [], .fn (.func 56) [.agg (a0J x0)] [], .fn (.func 57) [.agg (a0J x0)] [], .fn (.func 58) [.agg (a0J x0)] []]),(29,iL s0)],[])) hy0 [2,3,4,28,29] (fun s0 x306 hs0=>kq (kS (kBT 30 hs0 (fun h1=> ?_) (fun h9=> ?_)))))))
  ·refine kKN (kS (kb 1 (kn 1 ?_)))
   cases hb0:(decide (s0=0))
   ·have h2:=condF hb0 h1
    cases hb1:(decide (s0=1))
    ·have h3:=condF hb1 h2
     cases hb2:(decide (s0=2))
     ·have h4:=condF hb2 h3
      cases hb3:(decide (s0=3))
      ·have h5:=condF hb3 h4
       cases hb4:(decide (s0=4))
       ·have h6:=condF hb4 h5
        cases hb5:(decide (s0=5))
        ·have h7:=condF hb5 h6
         cases hb6:(decide (s0=6))
         ·have h10:=condF hb6 h7
          cases h10
         ·have h11:=condT hb6 h7
          exact RJ.pin 29 (kd:= .i64) (by kernel_rfl) (of_decide_eq_true hb6) (RJ.pin 31 (kd:= .i64) (by kernel_rfl) (of_decide_eq_true hb6) (kr 3 (kn 1 (kAb 35 h11 (fun _=>h0p) (fun y6 h12=>kr 5 (kq (kBT 39 h12 (fun h13=>kq (kXp (kLx h13 (fun h15=>PJ.blockRet (kCx h15 h0 (fun h16=>by obtain rfl:=oi h16;exact kZ H D W)))))) (fun h14=>kKn (kM (kLo h14 [2,3,4,28,29]))))))))))
        ·have h17:=condT hb5 h6
         exact RJ.pin 29 (kd:= .i64) (by kernel_rfl) (of_decide_eq_true hb5) (RJ.pin 31 (kd:= .i64) (by kernel_rfl) (of_decide_eq_true hb5) (kr 3 (kn 1 (kAb 35 h17 (fun _=>h0q) (fun y5 h18=>kr 5 (kq (kBT 39 h18 (fun h19=>kq (kXp (kLx h19 (fun h21=>PJ.blockRet (kCx h21 h0 (fun h22=>by obtain rfl:=oi h22;exact kZ H D W)))))) (fun h20=>kKn (kM (kLo h20 [2,3,4,28,29]))))))))))
       ·have h23:=condT hb4 h5
        exact RJ.pin 29 (kd:= .i64) (by kernel_rfl) (of_decide_eq_true hb4) (RJ.pin 31 (kd:= .i64) (by kernel_rfl) (of_decide_eq_true hb4) (kr 3 (kn 1 (kAb 35 h23 (fun _=>g0B) (fun y4 h24=>kr 5 (kq (kBT 39 h24 (fun h25=>kq (kXp (kLx h25 (fun h27=>PJ.blockRet (kCx h27 h0 (fun h28=>by obtain rfl:=oi h28;exact kZ H D W)))))) (fun h26=>kKn (kM (kLo h26 [2,3,4,28,29]))))))))))
      ·have h29:=condT hb3 h4
       exact RJ.pin 29 (kd:= .i64) (by kernel_rfl) (of_decide_eq_true hb3) (RJ.pin 31 (kd:= .i64) (by kernel_rfl) (of_decide_eq_true hb3) (kr 3 (kn 1 (kAb 35 h29 (fun _=>i0N) (fun y3 h30=>kr 5 (kq (kBT 39 h30 (fun h31=>kq (kXp (kLx h31 (fun h33=>PJ.blockRet (kCx h33 h0 (fun h34=>by obtain rfl:=oi h34;exact kZ H D W)))))) (fun h32=>kKn (kM (kLo h32 [2,3,4,28,29]))))))))))
     ·have h35:=condT hb2 h3
      exact RJ.pin 29 (kd:= .i64) (by kernel_rfl) (of_decide_eq_true hb2) (RJ.pin 31 (kd:= .i64) (by kernel_rfl) (of_decide_eq_true hb2) (kr 3 (kn 1 (kAb 35 h35 (fun _=>h0o) (fun y2 h36=>kr 5 (kq (kBT 39 h36 (fun h37=>kq (kXp (kLx h37 (fun h39=>PJ.blockRet (kCx h39 h0 (fun h40=>by obtain rfl:=oi h40;exact kZ H D W)))))) (fun h38=>kKn (kM (kLo h38 [2,3,4,28,29]))))))))))
    ·have h41:=condT hb1 h2
     exact RJ.pin 29 (kd:= .i64) (by kernel_rfl) (of_decide_eq_true hb1) (RJ.pin 31 (kd:= .i64) (by kernel_rfl) (of_decide_eq_true hb1) (kr 3 (kn 1 (kAb 35 h41 (fun _=>i0M) (fun y1 h42=>kr 5 (kq (kBT 39 h42 (fun h43=>kq (kXp (kLx h43 (fun h45=>PJ.blockRet (kCx h45 h0 (fun h46=>by obtain rfl:=oi h46;exact kZ H D W)))))) (fun h44=>kKn (kM (kLo h44 [2,3,4,28,29]))))))))))
   ·have h47:=condT hb0 h1
    exact RJ.pin 29 (kd:= .i64) (by kernel_rfl) (of_decide_eq_true hb0) (RJ.pin 31 (kd:= .i64) (by kernel_rfl) (of_decide_eq_true hb0) (kr 3 (kn 1 (kAb 35 h47 (fun _=>k0a) (fun y0 h48=>kr 5 (kq (kBT 39 h48 (fun h49=>kq (kXp (kLx h49 (fun h51=>PJ.blockRet (kCx h51 h0 (fun h52=>by obtain rfl:=oi h52;exact kZ H D W)))))) (fun h50=>kKn (kM (kLo h50 [2,3,4,28,29]))))))))))
  ·exact kEp 0 (kLx h9 (fun h53=>PJ.blockOut (kXo h53 [2,3,4])))
 ·exact kq (kX (by cases h8;exact kZ H D W))
def m0K(x0 x1:List k0S):Option (Bool):=
 (bif(decide (¬(x0.length:Int)=(x1.length:Int)))then none else(Option.bind (a0l (fun(s0:Int)=>(bif(decide (s0<(x0.length:Int)))then(bif inR s0 x0.length then(bif inR s0 x1.length then(bif(!((decide (((nth x0 s0).F_)=((nth x1 s0).F_)))&&((((nth x0 s0).H_)==((nth x1 s0).H_))&&true)))then none else(some (.inl (IntKind.wrap .i64 (s0+1)))))else none)else none)else(some (.inr ())))) big 0) fun(s1:Unit)=>(some true)))
theorem p0R {x0 x1:List k0S} {r:Bool} (h:m0K x0 x1=some r):SQ 69 [lsv c0h 2 x0,lsv c0h 2 x1] [] (.bool r) []:=by
 refine kFn (fn:=Tryz.f69) (fun F H D W=> ?_)
 unfold m0K at h
 refine kq (kS (kq (cTF 10 h (fun h0=>kKN (kcN h0 (fun(s1:Unit)=>([(4, .bool false)],[])) (fun s1 hy0=> ?_) (fun s1 h1=> ?_))))))
 ·refine kq (kb 0 (kl (fun(s0:Int)=>([(0,lsv c0h 2 x0),(1,lsv c0h 2 x1),(4, .bool false),(12,iL (x0.length:Int)),(13,iL s0)],[])) hy0 [0,1,4,12,13] (fun s0 x64 hs0=>kq (kS (kBT 14 hs0 (fun h2=> ?_) (fun h3=> ?_))))))
  ·refine kKN (kS (kb 1 (kq (kS (kDr (kD 2 ?_))))))
   obtain⟨hm,h4⟩:=a0Q h2
   refine kJ 18 (tr2:=[([],[]),([],[]),([],[])]) c0Y hm (kD 3 ?_)
   obtain⟨hm,h5⟩:=a0Q h4
   exact kJ 22 (tr2:=[([],[]),([],[]),([],[]),([],[]),([],[]),([],[]),([],[])]) c0Y hm (kD 2 (kEN (cTF 24 h5 (fun h6=>kKn (kM (kLo h6 [0,1,4,12,13]))))))
  ·exact kEp 0 (kLx h3 (fun h7=>PJ.blockOut (kNo h7 [4])))
 ·exact kq (kX (by cases h1;exact kZ H D W))
def o0w(x0 x1:List l0S):Option (Bool):=
 (bif(decide (¬(x0.length:Int)=(x1.length:Int)))then none else(Option.bind (a0l (fun(s0:Int)=>(bif(decide (s0<(x0.length:Int)))then(bif inR s0 x0.length then(bif inR s0 x1.length then(bif(!((((nth x0 s0).z_)==((nth x1 s0).z_))&&((((nth x0 s0).A_)==((nth x1 s0).A_))&&((decide (((nth x0 s0).af_)=((nth x1 s0).af_)))&&true))))then none else(some (.inl (IntKind.wrap .i64 (s0+1)))))else none)else none)else(some (.inr ())))) big 0) fun(s1:Unit)=>(some true)))
theorem q0X {x0 x1:List l0S} {r:Bool} (h:o0w x0 x1=some r):SQ 70 [lsv d0D 3 x0,lsv d0D 3 x1] [] (.bool r) []:=by
 refine kFn (fn:=Tryz.f70) (fun F H D W=> ?_)
 unfold o0w at h
 refine kq (kS (kq (cTF 10 h (fun h0=>kKN (kcN h0 (fun(s1:Unit)=>([(4, .bool false)],[])) (fun s1 hy0=> ?_) (fun s1 h1=> ?_))))))
 ·refine kq (kb 0 (kl (fun(s0:Int)=>([(0,lsv d0D 3 x0),(1,lsv d0D 3 x1),(4, .bool false),(12,iL (x0.length:Int)),(13,iL s0)],[])) hy0 [0,1,4,12,13] (fun s0 x64 hs0=>kq (kS (kBT 14 hs0 (fun h2=> ?_) (fun h3=> ?_))))))
  ·refine kKN (kS (kb 1 (kq (kS (kDr (kD 2 ?_))))))
   obtain⟨hm,h4⟩:=a0Q h2
   refine kJ 18 (tr2:=[([],[]),([],[]),([],[])]) d0R hm (kD 3 ?_)
   obtain⟨hm,h5⟩:=a0Q h4
   exact kJ 22 (tr2:=[([],[]),([],[]),([],[]),([],[]),([],[]),([],[]),([],[])]) d0R hm (kD 2 (kEN (cTF 24 h5 (fun h6=>kKn (kM (kLo h6 [0,1,4,12,13]))))))
  ·exact kEp 0 (kLx h3 (fun h7=>PJ.blockOut (kNo h7 [4])))
 ·exact kq (kX (by cases h1;exact kZ H D W))
def m0L(x0 x1:List i0s):Option (Bool):=
 (bif(decide (¬(x0.length:Int)=(x1.length:Int)))then none else(Option.bind (a0l (fun(s0:Int)=>(bif(decide (s0<(x0.length:Int)))then(bif inR s0 x0.length then(bif inR s0 x1.length then(bif(!((decide (((nth x0 s0).G_)=((nth x1 s0).G_)))&&((decide (((nth x0 s0).F_)=((nth x1 s0).F_)))&&((((nth x0 s0).D_)==((nth x1 s0).D_))&&true))))then none else(some (.inl (IntKind.wrap .i64 (s0+1)))))else none)else none)else(some (.inr ())))) big 0) fun(s1:Unit)=>(some true)))
theorem p0S {x0 x1:List i0s} {r:Bool} (h:m0L x0 x1=some r):SQ 71 [lsv a0Z 3 x0,lsv a0Z 3 x1] [] (.bool r) []:=by
 refine kFn (fn:=Tryz.f71) (fun F H D W=> ?_)
 unfold m0L at h
 refine kq (kS (kq (cTF 10 h (fun h0=>kKN (kcN h0 (fun(s1:Unit)=>([(4, .bool false)],[])) (fun s1 hy0=> ?_) (fun s1 h1=> ?_))))))
 ·refine kq (kb 0 (kl (fun(s0:Int)=>([(0,lsv a0Z 3 x0),(1,lsv a0Z 3 x1),(4, .bool false),(12,iL (x0.length:Int)),(13,iL s0)],[])) hy0 [0,1,4,12,13] (fun s0 x64 hs0=>kq (kS (kBT 14 hs0 (fun h2=> ?_) (fun h3=> ?_))))))
  ·refine kKN (kS (kb 1 (kq (kS (kDr (kD 2 ?_))))))
   obtain⟨hm,h4⟩:=a0Q h2
   refine kJ 18 (tr2:=[([],[]),([],[]),([],[])]) c0Z hm (kD 3 ?_)
   obtain⟨hm,h5⟩:=a0Q h4
   exact kJ 22 (tr2:=[([],[]),([],[]),([],[]),([],[]),([],[]),([],[]),([],[])]) c0Z hm (kD 2 (kEN (cTF 24 h5 (fun h6=>kKn (kM (kLo h6 [0,1,4,12,13]))))))
  ·exact kEp 0 (kLx h3 (fun h7=>PJ.blockOut (kNo h7 [4])))
 ·exact kq (kX (by cases h1;exact kZ H D W))
def o0g(x0 x1:l0A):Option (Bool):=
 (Option.bind (bif(x0.x_==x1.x_)then(bif((decide (x0.S_.u_=x1.S_.u_))&&((decide (x0.S_.m_=x1.S_.m_))&&((decide (x0.S_.o_=x1.S_.o_))&&((decide (x0.S_.l_=x1.S_.l_))&&((decide (x0.S_.k_=x1.S_.k_))&&((decide (x0.S_.j_=x1.S_.j_))&&((decide (x0.S_.i_=x1.S_.i_))&&true)))))))then(bif((x0.g_.e_==x1.g_.e_)&&((x0.g_.f_==x1.g_.f_)&&((x0.g_.n_==x1.g_.n_)&&((x0.g_.s_==x1.g_.s_)&&true))))then(Option.bind (m0K x0.w_ x1.w_) fun y0=>(bif y0 then(Option.bind (o0w x0.d_ x1.d_) fun y1=>(bif y1 then(Option.bind (m0L x0.b_ x1.b_) fun y2=>(some y2))else none))else none))else none)else none)else none) fun(s0:Bool)=>(some s0))
theorem q0y {x0 x1:l0A} {r:Bool} (h:o0g x0 x1=some r):SQ 34 [.agg (a0J x0), .agg (a0J x1)] [] (.bool r) []:=by
 refine kFn (fn:=Tryz.f34) (fun F H D W=> ?_)
 unfold o0g at h
 exact kq (kcN h (fun(s0:Bool)=>([(4, .bool s0)],[])) (fun s0 hy0=>km 6 (cFR 10 hy0 (fun h1=>kc 7 (cFR 17 h1 (fun h2=>kc 7 (cFR 24 h2 (fun h3=>kc 4 (kAb 29 h3 (fun _=>p0R) (fun y0 h4=>kc 2 (cFR 31 h4 (fun h5=>kc 4 (kAb 36 h5 (fun _=>q0X) (fun y1 h6=>kc 2 (cFR 38 h6 (fun h7=>RJ.seg 4 [4,38,40,42] (L2:=[(4, .bool false),(38, .bool true),(40,lsv a0Z 3 x0.b_),(42,lsv a0Z 3 x1.b_)]) (H2:=[.box (a0J x0), .box (a0J x1)]) (by kernel_rfl) (kAb 43 h7 (fun _=>p0S) (fun y2 h8=>ke 2 (kNW h8 D W [])))))))))))))))))) (fun s0 h0=>kX (by cases h0;exact kZ H D W)))
def d0H:Option (Bool):=
 (Option.bind c0R fun y4=>(Option.bind (a0G y4 1 ([37,48]:List UInt8)) fun y2=>(Option.bind c0R fun y5=>(Option.bind (a0G y5 0 ([37,48]:List UInt8)) fun y3=>(Option.bind c0Q fun y6=>(Option.bind (g0p y6) fun y0=>(Option.bind (g0p (⟨[],(⟨0,0,0,0,0,0,0⟩:e0h),(⟨[],[],[],[]⟩:y0T),([]:List k0S),([]:List l0S),([]:List i0s)⟩:l0A)) fun y1=>(Option.bind (bif y2.2 then(bif(!y3.2)then(bif(decide (y0.1=0))then(bif(decide (y0.2.1=0))then(bif(decide (y0.2.2=0))then(bif(decide (y1.2.2=8))then(Option.bind (k0b ([101,110]:List UInt8)) fun y7=>(bif y7 then(Option.bind c0Q fun y8=>(Option.bind c0Q fun y9=>(Option.bind (o0g y8 y9) fun y10=>(some y10))))else none))else none)else none)else none)else none)else none)else none) fun(s0:Bool)=>(some s0)))))))))
theorem j0a {r:Bool} (h:d0H=some r):SQ 9 [] [] (.bool r) []:=by
 refine kFn (fn:=Tryz.f9) (fun F H D W=> ?_)
 unfold d0H at h
 refine kq (kSR (kAb 12 h (fun _=>d0Q) (fun y4 h0=>kAb 13 h0 (fun _=>b0t) (fun y2 h1=>kr 6 (kSR (kAb 17 h1 (fun _=>d0Q) (fun y5 h2=>kAb 18 h2 (fun _=>b0t) (fun y3 h3=>kr 6 (kSR (kAb 22 h3 (fun _=>d0P) (fun y6 h4=>kAb 23 h4 (fun _=>i0P) (fun y0 h5=>kr 7 (kn 1 ?_)))))))))))))
 obtain⟨y1,hy0,h6⟩:=a0d h5
 exact RJ.call0 (d:=(some 29)) (f:=23) (args:=[.agg (q12 [] 0 0 0 0 0 0 0 [] [] [] [] [.nl, .nl, .nl])]) (v:= .tup [iL y1.1,iL y1.2.1,iL y1.2.2]) (tr2:=[]) (by kernel_rfl) (by kernel_rfl) (.cons (Le.agg (.cons (Le.refl _) (.cons (Le.refl _) (.cons (Le.refl _) (.cons (Le.refl _) (.cons (Le.refl _) (.cons (Le.refl _) (.cons (Le.refl _) (.cons (Le.refl _) (.cons (Le.refl _) (.cons (Le.refl _) (.cons (Le.refl _) (.cons (Le.refl _) (.cons (Le.nl _) (.cons (Le.nl _) (.cons (Le.nl _) .nil)))))))))))))))) .nil) (i0P hy0) (by kernel_rfl) (kr 7 (kcN h6 (fun(s0:Bool)=>([(0, .bool s0)],[])) (fun s0 hy1=>km 2 (cFR 34 hy1 (fun h8=>kc 4 (cFR 38 h8 (fun h9=>RJ.seg 4 [0,6,7,10,42] (L2:=[(0, .bool false),(6,iL y0.2.1),(7,iL y0.2.2),(10,iL y1.2.2),(42, .bool (decide (y0.1=0)))]) (H2:=[.box (a0f y2.1), .box (a0f y3.1)]) (by kernel_rfl) (cFR 42 h9 (fun h10=>kc 4 (cFR 46 h10 (fun h11=>kc 4 (cFR 50 h11 (fun h12=>kc 4 (cFR 54 h12 (fun h13=>kAb 55 h13 (fun _=>l0i) (fun y7 h14=>kc 2 (cFR 57 h14 (fun h15=>kAb 58 h15 (fun _=>d0P) (fun y8 h16=>kAb 59 h16 (fun _=>d0P) (fun y9 h17=>kAb 60 h17 (fun _=>q0y) (fun y10 h18=>ke 2 (kNW h18 D W [])))))))))))))))))))) (fun s0 h7=>kX (by cases h7;exact kZ H D W))))
def c0M(x0:l0A):Option (Bool):=
 (Option.bind (a0l (fun(s0:Int×Int)=>(bif(decide (s0.2<4))then(bif(decide (s0.2=0))then(some (.inl ((IntKind.wrap .i64 (s0.1+(x0.g_.e_.length:Int))),(IntKind.wrap .i64 (0+1)))))else(bif(decide (s0.2=1))then(some (.inl ((IntKind.wrap .i64 (s0.1+(x0.g_.f_.length:Int))),(IntKind.wrap .i64 (1+1)))))else(bif(decide (s0.2=2))then(some (.inl ((IntKind.wrap .i64 (s0.1+(x0.g_.n_.length:Int))),(IntKind.wrap .i64 (2+1)))))else(bif(decide (s0.2=3))then(some (.inl ((IntKind.wrap .i64 (s0.1+(x0.g_.s_.length:Int))),(IntKind.wrap .i64 (3+1)))))else none))))else(some (.inr s0.1)))) big ((x0.x_.length:Int),0)) fun(s4:Int)=>(Option.bind (Option.bind (bif(decide ((x0.w_.length:Int)>8))then(some true)else(bif(decide ((x0.d_.length:Int)>105))then(some true)else(some ((decide ((x0.b_.length:Int)>95)))))) fun(s5:Bool)=>(bif s5 then(some (.inr false))else(some (.inl ())))) (a0j fun(s9:Unit)=>(Option.bind (a0l (fun(s2:Int×Int)=>(bif(decide (s2.2<(x0.w_.length:Int)))then(bif inR s2.2 x0.w_.length then(some (.inl ((IntKind.wrap .i64 (s2.1+((((nth x0.w_ s2.2).H_).length:Int)))),(IntKind.wrap .i64 (s2.2+1)))))else none)else(some (.inr s2.1)))) big (s4,0)) fun(s6:Int)=>(Option.bind (a0l (fun(s1:Int×Int)=>(bif(decide (s1.2<(x0.d_.length:Int)))then(bif inR s1.2 x0.d_.length then(bif inR s1.2 x0.d_.length then(some (.inl ((IntKind.wrap .i64 (((IntKind.wrap .i64 (s1.1+((((nth x0.d_ s1.2).z_).length:Int)))))+((((nth x0.d_ s1.2).A_).length:Int)))),(IntKind.wrap .i64 (s1.2+1)))))else none)else none)else(some (.inr s1.1)))) big (s6,0)) fun(s7:Int)=>(Option.bind (a0l (fun(s3:Int×Int)=>(bif(decide (s3.2<(x0.b_.length:Int)))then(bif inR s3.2 x0.b_.length then(some (.inl ((IntKind.wrap .i64 (s3.1+((((nth x0.b_ s3.2).D_).length:Int)))),(IntKind.wrap .i64 (s3.2+1)))))else none)else(some (.inr s3.1)))) big (s7,0)) fun(s8:Int)=>(some (decide (s8≤6000)))))))))
theorem i0V {x0:l0A} {r:Bool} (h:c0M x0=some r):SQ 22 [.agg (a0J x0)] [] (.bool r) []:=by
 refine kFn (fn:=Tryz.f22) (fun F H D W=> ?_)
 unfold c0M at h
 refine kq (kq (kcN h (fun(s4:Int)=>([(1, .ptr 0 0),(2, .bool false),(3,iL s4)],[.box (a0J x0)])) (fun s4 hy0=> ?_) (fun s4 h4=> ?_)))
 ·refine kq (kb 0 (kl (fun(s0:Int×Int)=>([(1, .ptr 0 0),(2, .bool false),(3,iL s0.1),(4,iL s0.2)],[.box (a0J x0)])) hy0 [1,2,3,4] (fun s0 x72 hs0=>kS (kq (kBT 12 hs0 (fun h0=> ?_) (fun h5=> ?_))))))
  ·refine kKN (kS (kb 1 (km 3 ?_)))
   cases hb0:(decide (s0.2=0))
   ·have h1:=condF hb0 h0
    cases hb1:(decide (s0.2=1))
    ·have h2:=condF hb1 h1
     cases hb2:(decide (s0.2=2))
     ·have h3:=condF hb2 h2
      cases hb3:(decide (s0.2=3))
      ·have h6:=condF hb3 h3
       cases h6
      ·have h7:=condT hb3 h3
       exact RJ.pin 16 (kd:= .i64) (by kernel_rfl) (of_decide_eq_true hb3) (RJ.pin 4 (kd:= .i64) (by kernel_rfl) (of_decide_eq_true hb3) (ke 5 (PJ.blockNormal (PJ.next (kM (kLo h7 [1,2,3,4]))))))
     ·have h8:=condT hb2 h2
      exact RJ.pin 16 (kd:= .i64) (by kernel_rfl) (of_decide_eq_true hb2) (RJ.pin 4 (kd:= .i64) (by kernel_rfl) (of_decide_eq_true hb2) (ke 5 (PJ.blockNormal (PJ.next (kM (kLo h8 [1,2,3,4]))))))
    ·have h9:=condT hb1 h1
     exact RJ.pin 16 (kd:= .i64) (by kernel_rfl) (of_decide_eq_true hb1) (RJ.pin 4 (kd:= .i64) (by kernel_rfl) (of_decide_eq_true hb1) (ke 5 (PJ.blockNormal (PJ.next (kM (kLo h9 [1,2,3,4]))))))
   ·have h10:=condT hb0 h0
    exact RJ.pin 16 (kd:= .i64) (by kernel_rfl) (of_decide_eq_true hb0) (RJ.pin 4 (kd:= .i64) (by kernel_rfl) (of_decide_eq_true hb0) (ke 5 (PJ.blockNormal (PJ.next (kM (kLo h10 [1,2,3,4]))))))
  ·exact kEp 0 (kLx h5 (fun h11=>PJ.blockOut (kNo h11 [1,2,3])))
 ·refine kcX h4 (fun(s9:Unit)=>([(1, .ptr 0 0),(2, .bool false),(3,iL s4)],[.box (a0J x0)])) (fun y0 hy1 h12=> ?_) (fun s9 h13=> ?_)
  ·exact kcN hy1 (fun(s5:Bool)=>([(1, .ptr 0 0),(2, .bool false),(3,iL s4),(37, .bool s5)],[.box (a0J x0)])) (fun s5 hy2=>km 5 (kB 26 hy2 (fun h15=>ke 11 (kNo h15 [1,2,3,37])) (fun h16=>kc 6 (kB 32 h16 (fun h17=>ke 5 (kNo h17 [1,2,3,37])) (fun h18=>ke 5 (kNo h18 [1,2,3,37])))))) (fun s5 h14=>kBT 37 h14 (fun h19=>kq (kX (kCx h19 h12 (fun h21=>by obtain rfl:=oi h21;exact kZ H D W)))) (fun h20=>kK (kXo h20 [1,2,3])))
  ·refine kcN h13 (fun(s6:Int)=>([(1, .ptr 0 0),(2, .bool false),(3,iL s6)],[.box (a0J x0)])) (fun s6 hy3=> ?_) (fun s6 h22=> ?_)
   ·exact kq (kb 2 (kl (fun(s2:Int×Int)=>([(1, .ptr 0 0),(2, .bool false),(3,iL s2.1),(5,iL s2.2)],[.box (a0J x0)])) hy3 [1,2,3,5] (fun s2 x177 hs1=>kS (kq (kBT 42 hs1 (fun h23=>kKN (kS (kb 3 (km 4 (kIb 49 c0Y h23 (fun h25=>ke 5 (PJ.blockNormal (PJ.next (kM (kLo h25 [1,2,3,5])))))))))) (fun h24=>kEp 2 (kLx h24 (fun h26=>PJ.blockOut (kNo h26 [1,2,3])))))))))
   ·refine kcN h22 (fun(s7:Int)=>([(1, .ptr 0 0),(2, .bool false),(3,iL s7)],[.box (a0J x0)])) (fun s7 hy4=> ?_) (fun s7 h27=> ?_)
    ·refine kq (kb 4 (kl (fun(s1:Int×Int)=>([(1, .ptr 0 0),(2, .bool false),(3,iL s1.1),(6,iL s1.2)],[.box (a0J x0)])) hy4 [1,2,3,6] (fun s1 x229 hs2=>kS (kq (kBT 58 hs2 (fun h28=> ?_) (fun h29=> ?_))))))
     ·refine kKN (kS (kb 5 (kDr (kD 4 ?_))))
      obtain⟨hm,h30⟩:=a0Q h28
      refine kJ 65 (tr2:=[([],[]),([],[]),([0,1],[]),([],[]),([],[])]) d0R hm (kD 7 ?_)
      obtain⟨hm,h31⟩:=a0Q h30
      exact kJ 73 (tr2:=[([],[]),([],[]),([0,1],[]),([],[]),([],[]),([],[]),([],[]),([],[]),([],[]),([],[]),([0,1],[]),([],[]),([],[])]) d0R hm (kD 5 (kE (PJ.blockNormal (PJ.next (kM (kLo h31 [1,2,3,6]))))))
     ·exact kEp 4 (kLx h29 (fun h32=>PJ.blockOut (kNo h32 [1,2,3])))
    ·exact kcN h27 (fun(s8:Int)=>([(2, .bool false),(3,iL s8)],[])) (fun s8 hy5=>kq (kb 6 (kl (fun(s3:Int×Int)=>([(1, .ptr 0 0),(2, .bool false),(3,iL s3.1),(7,iL s3.2)],[.box (a0J x0)])) hy5 [1,2,3,7] (fun s3 x277 hs3=>kS (kq (kBT 82 hs3 (fun h34=>kKN (kS (kb 7 (km 4 (kIb 89 c0Z h34 (fun h36=>ke 5 (PJ.blockNormal (PJ.next (kM (kLo h36 [1,2,3,7])))))))))) (fun h35=>kEp 6 (kLx h35 (fun h37=>PJ.blockOut (kNW h37 D W [])))))))))) (fun s8 h33=>kq (kX (by cases h33;exact kZ H D W)))
def a0B(x0:List UInt8)(x1:Int):Option (Int):=
 (Option.bind (a0l (fun(s0:Int)=>(Option.bind (Option.bind (bif(decide (s0<(x0.length:Int)))then(bif inR s0 x0.length then(some ((decide (((((x0.getD (s0:Int).toNat 0).toNat:Nat):Int))=32))))else none)else(some false)) fun(s1:Bool)=>(bif s1 then(some (.inl ()))else(some (.inr (.inr s0))))) (a0j fun(s3:Unit)=>(some (.inl (IntKind.wrap .i64 (s0+1))))))) big x1) fun(s2:Int)=>(some s2))
theorem b0y {x0:List UInt8} {x1 r:Int} (h:a0B x0 x1=some r):SQ 106 [.str x0,iL x1] [] (iL r) []:=by
 refine kFn (fn:=Tryz.f106) (fun F H D W=> ?_)
 unfold a0B at h
 exact kq (kcN h (fun(s2:Int)=>([(1,iL s2),(4,iL 0)],[])) (fun s2 hy0=>kb 0 (kl (fun(s0:Int)=>([(0, .str x0),(1,iL s0),(4,iL 0)],[])) hy0 [0,1,4] (fun s0 x226 hs0=>kcX hs0 (fun(s3:Unit)=>([(0, .str x0),(1,iL s0),(4,iL 0)],[])) (fun y0 hy1 h1=>kcN hy1 (fun(s1:Bool)=>([(0, .str x0),(1,iL s0),(4,iL 0),(14, .bool s1)],[])) (fun s1 hy2=>km 5 (kB 9 hy2 (fun h4=>kc 2 (kGb 12 h4 (fun h6=>ke 2 (kNo h6 [0,1,4,14])))) (fun h5=>ke 5 (kNo h5 [0,1,4,14])))) (fun s1 h3=>kBT 14 h3 (fun h7=>kK (kXo h7 [0,1,4])) (fun h8=>kEx 0 (kCx h8 h1 (fun h9=>kLx h9 (fun h10=>PJ.blockOut (kNo h10 [1,4]))))))) (fun s3 h2=>kb 1 (kM (PJ.blockNormal (kLo h2 [0,1,4]))))))) (fun s2 h0=>kq (kX (by cases h0;exact kZ H D W))))
def b0h(x0:List UInt8)(x1:Int):Option (Int):=
 (Option.bind (a0l (fun(s0:Int)=>(Option.bind (Option.bind (bif(decide (s0<(x0.length:Int)))then(bif inR s0 x0.length then(bif(decide (((((x0.getD (s0:Int).toNat 0).toNat:Nat):Int))≥97))then(bif inR s0 x0.length then(some ((decide (((((x0.getD (s0:Int).toNat 0).toNat:Nat):Int))≤122))))else none)else(some false))else none)else(some false)) fun(s1:Bool)=>(bif s1 then(some (.inl ()))else(some (.inr (.inr s0))))) (a0j fun(s3:Unit)=>(some (.inl (IntKind.wrap .i64 (s0+1))))))) big x1) fun(s2:Int)=>(some s2))
theorem f0F {x0:List UInt8} {x1 r:Int} (h:b0h x0 x1=some r):SQ 107 [.str x0,iL x1] [] (iL r) []:=by
 refine kFn (fn:=Tryz.f107) (fun F H D W=> ?_)
 unfold b0h at h
 exact kq (kcN h (fun(s2:Int)=>([(1,iL s2),(4,iL 0)],[])) (fun s2 hy0=>kb 0 (kl (fun(s0:Int)=>([(0, .str x0),(1,iL s0),(4,iL 0)],[])) hy0 [0,1,4] (fun s0 x306 hs0=>kcX hs0 (fun(s3:Unit)=>([(0, .str x0),(1,iL s0),(4,iL 0)],[])) (fun y0 hy1 h1=>kcN hy1 (fun(s1:Bool)=>([(0, .str x0),(1,iL s0),(4,iL 0),(20, .bool s1)],[])) (fun s1 hy2=>km 5 (kB 9 hy2 (fun h4=>kc 2 (kGb 12 h4 (fun h6=>kc 3 (kB 15 h6 (fun h7=>kc 2 (kGb 18 h7 (fun h9=>ke 2 (kNo h9 [0,1,4,20])))) (fun h8=>ke 5 (kNo h8 [0,1,4,20])))))) (fun h5=>ke 11 (kNo h5 [0,1,4,20])))) (fun s1 h3=>kBT 20 h3 (fun h10=>kK (kXo h10 [0,1,4])) (fun h11=>kEx 0 (kCx h11 h1 (fun h12=>kLx h12 (fun h13=>PJ.blockOut (kNo h13 [1,4]))))))) (fun s3 h2=>kb 1 (kM (PJ.blockNormal (kLo h2 [0,1,4]))))))) (fun s2 h0=>kq (kX (by cases h0;exact kZ H D W))))
def d0N(x0:Int):Option (Bool):=
 (Option.bind (bif(decide (x0=110))then(some true)else(bif(decide (x0=105))then(some true)else(bif(decide (x0=118))then(some true)else(bif(decide (x0=119))then(some true)else(bif(decide (x0=102))then(some true)else(bif(decide (x0=116))then(some true)else(bif(decide (x0=99))then(some true)else(some (decide (x0=101)))))))))) fun(s0:Bool)=>(some s0))
theorem k0L {x0:Int} {r:Bool} (h:d0N x0=some r):SQ 134 [.int .u8 x0] [] (.bool r) []:=by
 refine kFn (fn:=Tryz.f134) (fun F H D W=> ?_)
 unfold d0N at h
 exact kq (kcN h (fun(s0:Bool)=>([(2, .bool s0)],[])) (fun s0 hy0=>km 3 (kB 5 hy0 (fun h1=>ke 28 (kNo h1 [2])) (fun h2=>kc 4 (kB 9 h2 (fun h3=>ke 24 (kNo h3 [2])) (fun h4=>kc 4 (kB 13 h4 (fun h5=>ke 20 (kNo h5 [2])) (fun h6=>kc 4 (kB 17 h6 (fun h7=>ke 16 (kNo h7 [2])) (fun h8=>kc 4 (kB 21 h8 (fun h9=>ke 12 (kNo h9 [2])) (fun h10=>kc 4 (kB 25 h10 (fun h11=>ke 8 (kNo h11 [2])) (fun h12=>kc 4 (kB 29 h12 (fun h13=>RJ.seg 4 [2] (L2:=[(2, .bool true)]) (H2:=[]) (by kernel_rfl) (kE (kNo h13 [2]))) (fun h14=>RJ.seg 4 [2] (L2:=[(2, .bool (decide (x0=101)))]) (H2:=[]) (by kernel_rfl) (kE (kNo h14 [2]))))))))))))))))) (fun s0 h0=>kX (by cases h0;exact kZ H D W)))
def a0o(x0:List UInt8)(x1:Int)(x2:List UInt8):Option (Bool):=
 (Option.bind (bif(decide (((IntKind.wrap .i64 (x1+(x2.length:Int))))≤(x0.length:Int)))then(bif inS x1 ((IntKind.wrap .i64 (x1+(x2.length:Int)))) x0.length then(some ((((cut x0 x1 ((IntKind.wrap .i64 (x1+(x2.length:Int))))))==x2)))else none)else(some false)) fun(s0:Bool)=>(some s0))
theorem c0o {x0:List UInt8} {x1:Int} {x2:List UInt8} {r:Bool} (h:a0o x0 x1 x2=some r):SQ 135 [.str x0,iL x1, .str x2] [] (.bool r) []:=by
 refine kFn (fn:=Tryz.f135) (fun F H D W=> ?_)
 unfold a0o at h
 refine kq (kcN h (fun(s0:Bool)=>([(6, .bool s0)],[])) (fun s0 hy0=> ?_) (fun s0 h0=> ?_))
 ·refine km 8 (kB 14 hy0 (fun h1=> ?_) (fun h2=> ?_))
  ·refine kc 6 ?_
   obtain⟨hm,h3⟩:=a0Q h1
   exact kQ 21 (.str (cut x0 x1 ((IntKind.wrap .i64 (x1+(x2.length:Int)))))) [] (tr2:=[]) hm (ke 4 (kNo h3 [6]))
  ·exact ke 11 (kNo h2 [6])
 ·exact kX (by cases h0;exact kZ H D W)
def a0D(x0:List UInt8)(x1 x2:Int):Option (Int×Int):=
 (Option.bind (a0B x0 x1) fun y0=>(Option.bind (a0l (fun(s0:Int×Int)=>(Option.bind (Option.bind (bif(decide (s0.1<(x0.length:Int)))then(bif inR s0.1 x0.length then(bif(decide (((((x0.getD (s0.1:Int).toNat 0).toNat:Nat):Int))≥48))then(bif inR s0.1 x0.length then(some ((decide (((((x0.getD (s0.1:Int).toNat 0).toNat:Nat):Int))≤57))))else none)else(some false))else none)else(some false)) fun(s2:Bool)=>(bif s2 then(some (.inl ()))else(some (.inr (.inr (s0.1,s0.2)))))) (a0j fun(s5:Unit)=>(Option.bind (bif(decide ((IntKind.wrap .i64 (s0.1-y0))<9))then(bif inR s0.1 x0.length then(some ((IntKind.wrap .i64 ((IntKind.wrap .i64 (s0.2*10))+((IntKind.wrap .i64 ((IntKind.wrap .u8 (((((x0.getD (s0.1:Int).toNat 0).toNat:Nat):Int))-48)))))))))else none)else(some s0.2)) fun(s3:Int)=>(some (.inl ((IntKind.wrap .i64 (s0.1+1)),s3))))))) big (y0,0)) fun(s1:Int×Int)=>(Option.bind (Option.bind (bif(decide (s1.1=y0))then(some true)else(bif(decide ((IntKind.wrap .i64 (s1.1-y0))>9))then(some true)else(bif inR y0 x0.length then(bif(decide (((((x0.getD (y0:Int).toNat 0).toNat:Nat):Int))=48))then(bif(decide ((IntKind.wrap .i64 (s1.1-y0))>1))then(some true)else(some (decide (s1.2<x2))))else(some (decide (s1.2<x2))))else none))) fun(s4:Bool)=>(bif s4 then(some (.inr ((-1),y0)))else(some (.inl ())))) (a0j fun(s6:Unit)=>(some (s1.2,s1.1))))))
theorem d0B {x0:List UInt8} {x1 x2:Int} {r:Int×Int} (h:a0D x0 x1 x2=some r):SQ 136 [.str x0,iL x1,iL x2] [] (.tup [iL r.1,iL r.2]) []:=by
 refine kFn (fn:=Tryz.f136) (fun F H D W=> ?_)
 unfold a0D at h
 exact kq (kn 2 (kAb 13 h (fun _=>b0y) (fun y0 h0=>kr 1 (kq (kq (kcN h0 (fun(s1:Int×Int)=>([(0, .str x0),(2,iL x2),(6,iL 0),(7,iL 0),(8,iL y0),(9,iL s1.1),(10,iL s1.2)],[])) (fun s1 hy0=>kb 0 (kl (fun(s0:Int×Int)=>([(0, .str x0),(2,iL x2),(6,iL 0),(7,iL 0),(8,iL y0),(9,iL s0.1),(10,iL s0.2)],[])) hy0 [0,2,6,7,8,9,10] (fun s0 x374 hs0=>kcX hs0 (fun(s5:Unit)=>([(0, .str x0),(2,iL x2),(6,iL 0),(7,iL 0),(8,iL y0),(9,iL s0.1),(10,iL s0.2)],[])) (fun y1 hy1 h2=>kcN hy1 (fun(s2:Bool)=>([(0, .str x0),(2,iL x2),(6,iL 0),(7,iL 0),(8,iL y0),(9,iL s0.1),(10,iL s0.2),(30, .bool s2)],[])) (fun s2 hy2=>km 5 (kB 19 hy2 (fun h5=>kc 2 (kGb 22 h5 (fun h7=>kc 3 (kB 25 h7 (fun h8=>kc 2 (kGb 28 h8 (fun h10=>ke 2 (kNo h10 [0,2,6,7,8,9,10,30])))) (fun h9=>ke 5 (kNo h9 [0,2,6,7,8,9,10,30])))))) (fun h6=>ke 11 (kNo h6 [0,2,6,7,8,9,10,30])))) (fun s2 h4=>kBT 30 h4 (fun h11=>kK (kXo h11 [0,2,6,7,8,9,10])) (fun h12=>kEx 0 (kCx h12 h2 (fun h13=>kLx h13 (fun h14=>PJ.blockOut (kNo h14 [0,2,6,7,8,9,10]))))))) (fun s5 h3=>kb 1 (kcN h3 (fun(s3:Int)=>([(0, .str x0),(2,iL x2),(6,iL 0),(7,iL 0),(8,iL y0),(9,iL s0.1),(10,iL s3)],[])) (fun s3 hy3=>kq (kBT 34 hy3 (fun h16=>km 4 (kGb 39 h16 (fun h18=>ke 4 (kNo h18 [0,2,6,7,8,9,10])))) (fun h17=>kK (kNo h17 [0,2,6,7,8,9,10])))) (fun s3 h15=>kM (PJ.blockNormal (kLo h15 [0,2,6,7,8,9,10])))))))) (fun s1 h1=>kcX h1 (fun(s6:Unit)=>([(6,iL 0),(7,iL 0),(9,iL s1.1),(10,iL s1.2)],[])) (fun y2 hy4 h19=>kcN hy4 (fun(s4:Bool)=>([(6,iL 0),(7,iL 0),(8,iL y0),(9,iL s1.1),(10,iL s1.2),(70, .bool s4)],[])) (fun s4 hy5=>km 4 (kB 48 hy5 (fun h22=>ke 22 (kNo h22 [6,7,8,9,10,70])) (fun h23=>kc 6 (kB 54 h23 (fun h24=>ke 16 (kNo h24 [6,7,8,9,10,70])) (fun h25=>kc 2 (kGb 57 h25 (fun h26=>kc 2 (kB 59 h26 (fun h27=>kc 7 (kB 66 h27 (fun h29=>ke 4 (kNo h29 [6,7,8,9,10,70])) (fun h30=>ke 4 (kNo h30 [6,7,8,9,10,70])))) (fun h28=>ke 11 (kNo h28 [6,7,8,9,10,70])))))))))) (fun s4 h21=>kBT 70 h21 (fun h31=>kq (kX (kCx h31 h19 (fun h33=>by obtain rfl:=oi h33;exact kZ H D W)))) (fun h32=>kK (kXo h32 [6,7,9,10])))) (fun s6 h20=>kq (kX (by cases h20;exact kZ H D W))))))))))
def d0r(x0:List UInt8)(x1:Int):Option ((List a0T)×Int×Bool):=
 (a0l (fun(s0:Int×(List a0T))=>(Option.bind (a0D x0 s0.1 0) fun y0=>(bif(decide (y0.1<0))then(some (.inr (([]:List a0T),y0.2,false)))else(Option.bind (a0B x0 y0.2) fun y2=>(Option.bind (Option.bind (a0o x0 y2 ([46,46]:List UInt8)) fun y4=>(bif y4 then(Option.bind (a0D x0 (IntKind.wrap .i64 (y2+2)) (IntKind.wrap .i64 (y0.1+1))) fun y1=>(bif(decide (y1.1<0))then(some (.inr (.inr (([]:List a0T),y1.2,false))))else(some (.inl (y1.2,y1.1)))))else(some (.inl (y0.2,y0.1))))) (a0j fun(s1:Int×Int)=>(bif room (s0.2.length+([(⟨y0.1,s1.2⟩:a0T)]:List a0T).length)then(Option.bind (a0B x0 s1.1) fun y3=>(Option.bind (a0o x0 y3 ([44]:List UInt8)) fun y5=>(bif(!y5)then(some (.inr ((s0.2++([(⟨y0.1,s1.2⟩:a0T)]:List a0T)),s1.1,true)))else(some (.inl ((IntKind.wrap .i64 (y3+1)),(s0.2++([(⟨y0.1,s1.2⟩:a0T)]:List a0T))))))))else none))))))) big (x1,([]:List a0T)))
theorem i0q {x0:List UInt8} {x1:Int} {r:(List a0T)×Int×Bool} (h:d0r x0 x1=some r):SQ 137 [.str x0,iL x1] [] (.tup [lsv a0H 2 r.1,iL r.2.1, .bool r.2.2]) []:=by
 refine kFn (fn:=Tryz.f137) (fun F H D W=> ?_)
 unfold d0r at h
 exact kq (kq (kb 0 (J.wk (Wk.viv 7 2 185 (by kernel_rfl)) (kl (fun(s0:Int×(List a0T))=>([(0, .str x0),(1,iL s0.1),(4, .nl),(5,iL 0),(6, .bool false),(7, .vc 0)],[a0A a0H 2 185 s0.2])) h [0,1,4,5,6,7] (fun s0 x119 hs0=>kb 1 (kn 2 (kAb 18 hs0 (fun _=>d0B) (fun y0 h0=>kr 5 (kS (kq (kBT 22 h0 (fun h1=>kq (kX (PJ.passRet (PJ.blockRet (kLx h1 (fun h3=>PJ.blockRet (by obtain rfl:=oi h3;exact PJ.res (v1:= .tup [.nl,iL y0.2, .bool false]) (Le.tup (.cons (Le.nl _) (LeL.refl _))) (kZ H D W)))))))) (fun h2=>kKN (kq (kn 2 (kAb 27 h2 (fun _=>b0y) (fun y2 h4=>kr 1 (kcX h4 (fun(s1:Int×Int)=>([(0, .str x0),(1,iL s0.1),(4, .nl),(5,iL 0),(6, .bool false),(7, .vc 0),(8,iL y0.1),(9,iL s1.1),(10,iL s1.2)],[a0A a0H 2 185 s0.2])) (fun y6 hy0 h5=>kn 2 (kAb 30 hy0 (fun _=>c0o) (fun y4 h7=>kEN (kBT 30 h7 (fun h8=>kn 5 (kAb 37 h8 (fun _=>d0B) (fun y1 h10=>RJ.seg 5 [0,1,4,5,6,7,8,9,10,12,13] (L2:=[(0, .str x0),(1,iL s0.1),(4, .nl),(5,iL 0),(6, .bool false),(7, .vc 0),(8,iL y0.1),(9,iL y0.2),(10,iL y0.1),(12,iL y1.1),(13,iL y1.2)]) (H2:=[a0A a0H 2 185 s0.2]) (by kernel_rfl) (kEN (kS (kq (kBT 41 h10 (fun h11=>kq (kX (PJ.passRet (kCx h11 h5 (fun h13=>PJ.blockRet (kLx h13 (fun h14=>PJ.blockRet (by obtain rfl:=oi h14;exact PJ.res (v1:= .tup [.nl,iL y1.2, .bool false]) (Le.tup (.cons (Le.nl _) (LeL.refl _))) (kZ H D W))))))))) (fun h12=>kKN (kq (kM (kXo h12 [0,1,4,5,6,7,8,9,10]))))))))))) (fun h9=>kK (kXo h9 [0,1,4,5,6,7,8,9,10])))))) (fun s1 h6=>kn 5 (kAp 50 0 2 2 185 [0,1] a0H h6 (fun h15=>kr 1 (kn 2 (kAb 53 h15 (fun _=>b0y) (fun y3 h16=>kr 1 (kS (kn 2 (kAb 56 h16 (fun _=>c0o) (fun y5 h17=>kr 1 (kBT 57 h17 (fun h18=>kq (kX (PJ.passRet (PJ.blockRet (kLx h18 (fun h20=>PJ.blockRet (by obtain rfl:=oi h20;exact PJ.wk (Wk.freeze 2 (n:=((s0.2++([(⟨y0.1,s1.2⟩:a0T)]:List a0T))).length) (k:=2) (e:=185) (cs:=((s0.2++([(⟨y0.1,s1.2⟩:a0T)]:List a0T))).flatMap a0H) (by kernel_rfl)) (kZ H D W)))))))) (fun h19=>kKN (kM (PJ.blockNormal (kLW h19 D W [2]))))))))))))))))))))))))))))))))
def c0E(x0:List UInt8)(x1:Int):Option (a0e×Int×Bool):=
 (Option.bind (a0B x0 x1) fun y0=>(Option.bind (Option.bind (Option.bind (b0h x0 y0) fun y4=>(bif(decide (¬y4=(IntKind.wrap .i64 (y0+1))))then(some true)else(bif inR y0 x0.length then(Option.bind (d0N ((((x0.getD (y0:Int).toNat 0).toNat:Nat):Int))) fun y5=>(some (!y5)))else none))) fun(s2:Bool)=>(bif s2 then(some (.inr ((⟨0,0,false,([]:List a0T)⟩:a0e),y0,false)))else(some (.inl ())))) (a0j fun(s3:Unit)=>(bif inR y0 x0.length then(Option.bind (a0B x0 (IntKind.wrap .i64 (y0+1))) fun y2=>(Option.bind (Option.bind (a0o x0 y2 ([37]:List UInt8)) fun y6=>(bif y6 then(Option.bind (a0D x0 (IntKind.wrap .i64 (y2+1)) 1) fun y1=>(bif(decide (y1.1<0))then(some (.inr ((⟨(((x0.getD (y0:Int).toNat 0).toNat:Nat):Int),0,false,([]:List a0T)⟩:a0e),y1.2,false)))else(Option.bind (a0B x0 y1.2) fun y7=>(some (.inl (y7,y1.1))))))else(some (.inl (y2,0))))) (a0j fun(s1:Int×Int)=>(Option.bind (Option.bind (a0o x0 s1.1 ([33,61]:List UInt8)) fun y8=>(bif y8 then(some ((IntKind.wrap .i64 (s1.1+1)),true))else(some (s1.1,false)))) fun(s0:Int×Bool)=>(Option.bind (a0o x0 s0.1 ([61]:List UInt8)) fun y9=>(bif(!y9)then(some ((⟨(((x0.getD (y0:Int).toNat 0).toNat:Nat):Int),s1.2,s0.2,([]:List a0T)⟩:a0e),s0.1,false))else(Option.bind (d0r x0 (IntKind.wrap .i64 (s0.1+1))) fun y3=>(some ((⟨(((x0.getD (y0:Int).toNat 0).toNat:Nat):Int),s1.2,s0.2,y3.1⟩:a0e),y3.2.1,y3.2.2)))))))))else none))))
theorem k0d {x0:List UInt8} {x1:Int} {r:a0e×Int×Bool} (h:c0E x0 x1=some r):SQ 105 [.str x0,iL x1] [] (.tup [.agg (a0b r.1),iL r.2.1, .bool r.2.2]) []:=by
 refine kFn (fn:=Tryz.f105) (fun F H D W=> ?_)
 unfold c0E at h
 exact kq (kq (kn 2 (kAb 16 h (fun _=>b0y) (fun y0 h0=>kr 1 (kcX h0 (fun(s3:Unit)=>([(0, .str x0),(1,iL y0),(4, .ptr 0 0),(5,iL 0),(6, .bool false),(7, .ptr 1 0)],[.box [.int .u8 0,iL 0, .bool false, .nl], .box [.int .u8 0,iL 0, .bool false, .nl]])) (fun y10 hy0 h1=>kcN hy0 (fun(s2:Bool)=>([(0, .str x0),(1,iL y0),(4, .ptr 0 0),(5,iL 0),(6, .bool false),(7, .ptr 1 0),(29, .bool s2)],[.box [.int .u8 0,iL 0, .bool false, .nl], .box [.int .u8 0,iL 0, .bool false, .nl]])) (fun s2 hy1=>km 2 (kAb 19 hy1 (fun _=>f0F) (fun y4 h4=>kc 4 (kB 23 h4 (fun h5=>ke 6 (kNo h5 [0,1,4,5,6,7,29])) (fun h6=>kc 2 (kGb 26 h6 (fun h7=>kAb 27 h7 (fun _=>k0L) (fun y5 h8=>ke 2 (kNo h8 [0,1,4,5,6,7,29]))))))))) (fun s2 h3=>kBT 29 h3 (fun h9=>kq (kX (kCx h9 h1 (fun h11=>by obtain rfl:=oi h11;exact PJ.res (v1:= .tup [.agg [.int .u8 0,iL 0, .bool false, .nl],iL y0, .bool false]) (Le.tup (.cons (Le.agg (.cons (Le.refl _) (.cons (Le.refl _) (.cons (Le.refl _) (.cons (Le.nl _) .nil))))) (LeL.refl _))) (kZ H D W))))) (fun h10=>kK (kXo h10 [0,1,4,5,6,7])))) (fun s3 h2=>kn 2 (kGb 34 h2 (fun h12=>kr 2 (kn 3 (kAb 39 h12 (fun _=>b0y) (fun y2 h13=>kr 1 (kcX h13 (fun(s1:Int×Int)=>([(0, .str x0),(1,iL s1.1),(4, .ptr 0 0),(5,iL 0),(6, .bool false),(7, .ptr 1 0)],[.box [.int .u8 0,iL 0, .bool false, .nl], .box [.int .u8 ((((x0.getD (y0:Int).toNat 0).toNat:Nat):Int)),iL s1.2, .bool false, .nl]])) (fun y11 hy2 h14=>kn 2 (kAb 42 hy2 (fun _=>c0o) (fun y6 h16=>kEN (kBT 42 h16 (fun h17=>kn 3 (kAb 47 h17 (fun _=>d0B) (fun y1 h19=>kr 5 (kS (kq (kBT 51 h19 (fun h20=>kSR (RJ.seg 5 [0,1,4,5,6,7,8,9] (L2:=[(0, .str x0),(1,iL y2),(4, .ptr 0 0),(5,iL y1.2),(6, .bool false),(7, .ptr 1 0),(8,iL y1.1),(9,iL y1.2)]) (H2:=[.box [.int .u8 ((((x0.getD (y0:Int).toNat 0).toNat:Nat):Int)),iL 0, .bool false, .nl], .box [.int .u8 ((((x0.getD (y0:Int).toNat 0).toNat:Nat):Int)),iL 0, .bool false, .nl]]) (by kernel_rfl) (kEN (kX (PJ.passRet (kCx h20 h14 (fun h22=>by obtain rfl:=oi h22;exact PJ.res (v1:= .tup [.agg [.int .u8 ((((x0.getD (y0:Int).toNat 0).toNat:Nat):Int)),iL 0, .bool false, .nl],iL y1.2, .bool false]) (Le.tup (.cons (Le.agg (.cons (Le.refl _) (.cons (Le.refl _) (.cons (Le.refl _) (.cons (Le.nl _) .nil))))) (LeL.refl _))) (kZ H D W)))))))) (fun h21=>kKN (kSR (RJ.seg 3 [0,1,4,5,6,7,9] (L2:=[(0, .str x0),(1,iL y2),(4, .ptr 0 0),(5,iL 0),(6, .bool false),(7, .ptr 1 0),(9,iL y1.2)]) (H2:=[.box [.int .u8 0,iL 0, .bool false, .nl], .box [.int .u8 ((((x0.getD (y0:Int).toNat 0).toNat:Nat):Int)),iL y1.1, .bool false, .nl]]) (by kernel_rfl) (kEN (km 2 (kAb 58 h21 (fun _=>b0y) (fun y7 h23=>ke 1 (kXo h23 [0,1,4,5,6,7])))))))))))))) (fun h18=>kK (kXo h18 [0,1,4,5,6,7])))))) (fun s1 h15=>kcN h15 (fun(s0:Int×Bool)=>([(0, .str x0),(1,iL s0.1),(4, .ptr 0 0),(5,iL 0),(6, .bool false),(7, .ptr 1 0)],[.box [.int .u8 0,iL 0, .bool false, .nl], .box [.int .u8 ((((x0.getD (y0:Int).toNat 0).toNat:Nat):Int)),iL s1.2, .bool s0.2, .nl]])) (fun s0 hy3=>kn 2 (kAb 61 hy3 (fun _=>c0o) (fun y8 h25=>kEN (kBT 61 h25 (fun h26=>kq (kM (kNo h26 [0,1,4,5,6,7]))) (fun h27=>kK (kNo h27 [0,1,4,5,6,7])))))) (fun s0 h24=>kS (kn 2 (kAb 67 h24 (fun _=>c0o) (fun y9 h28=>kr 1 (kBT 68 h28 (fun h29=>kq (kX (PJ.passRet (by obtain rfl:=oi h29;exact PJ.res (v1:= .tup [.agg [.int .u8 ((((x0.getD (y0:Int).toNat 0).toNat:Nat):Int)),iL s1.2, .bool s0.2, .nl],iL s0.1, .bool false]) (Le.tup (.cons (Le.agg (.cons (Le.refl _) (.cons (Le.refl _) (.cons (Le.refl _) (.cons (Le.nl _) .nil))))) (LeL.refl _))) (kZ H D W))))) (fun h30=>kKN (kn 3 (kAb 75 h30 (fun _=>i0q) (fun y3 h31=>kr 7 (kq (kq (kX (by cases h31;exact kZ H D W))))))))))))))))))))))))))
def b0Q(x0:List UInt8):Option ((List (List a0e))×Int×Int):=
 (bif(decide ((x0.length:Int)>400))then(some (([]:List (List a0e)),0,11))else(Option.bind (a0l (fun(s0:Int×Bool×Int×(List (List a0e))×(List a0e))=>(Option.bind (c0E x0 s0.2.2.1) fun y0=>(bif(!y0.2.2)then(some (.inr (.inr (([]:List (List a0e)),y0.2.1,2))))else(Option.bind (bif s0.2.1 then(some true)else(bif(decide ((y0.1.R_.length:Int)>20))then(some true)else(some ((decide ((IntKind.wrap .i64 (s0.1+1))>20)))))) fun(s2:Bool)=>(bif room (s0.2.2.2.2.length+([y0.1]:List a0e).length)then(Option.bind (a0B x0 y0.2.1) fun y1=>(bif(decide (y1=(x0.length:Int)))then(some (.inr (.inl (s2,s0.2.2.2.1,(s0.2.2.2.2++([y0.1]:List a0e))))))else(Option.bind (b0h x0 y1) fun y2=>(Option.bind (Option.bind (bif inS y1 y2 x0.length then(bif((cut x0 y1 y2) !=([97,110,100]:List UInt8))then(bif inS y1 y2 x0.length then(some ((cut x0 y1 y2) !=([111,114]:List UInt8)))else none)else(some false))else none) fun(s4:Bool)=>(bif s4 then(some (.inr (.inr (.inr (([]:List (List a0e)),y1,2)))))else(some (.inl ())))) (a0j fun(s5:Unit)=>(Option.bind (bif inS y1 y2 x0.length then(bif((cut x0 y1 y2)==([111,114]:List UInt8))then(bif room (s0.2.2.2.1.length+(([(s0.2.2.2.2++([y0.1]:List a0e))]:List (List a0e))).length)then(some ((s0.2.2.2.1++(([(s0.2.2.2.2++([y0.1]:List a0e))]:List (List a0e)))),([]:List a0e)))else none)else(some (s0.2.2.2.1,(s0.2.2.2.2++([y0.1]:List a0e)))))else none) fun(s3:(List (List a0e))×(List a0e))=>(some (.inl ((IntKind.wrap .i64 (s0.1+1)),s2,y2,s3.1,s3.2)))))))))else none))))) big (0,false,0,([]:List (List a0e)),([]:List a0e))) (a0j fun(s1:Bool×(List (List a0e))×(List a0e))=>(bif s1.1 then(some (([]:List (List a0e)),0,11))else(bif room (s1.2.1.length+([s1.2.2]:List (List a0e)).length)then(some ((s1.2.1++([s1.2.2]:List (List a0e))),0,0))else none)))))
theorem f0w {x0:List UInt8} {r:(List (List a0e))×Int×Int} (h:b0Q x0=some r):SQ 59 [.str x0] [] (.tup [lsv (c0q a0b 4) 1 r.1,iL r.2.1,iL r.2.2]) []:=by
 refine kFn (fn:=Tryz.f59) (fun F H D W=> ?_)
 unfold b0Q at h
 refine kq (kS (kq (kBT 16 h (fun h1=> ?_) (fun h2=> ?_))))
 ·exact kq (kX (PJ.passRet (by obtain rfl:=oi h1;exact PJ.res (v1:= .tup [.nl,iL 0,iL 11]) (Le.tup (.cons (Le.nl _) (LeL.refl _))) (kZ H D W))))
 ·refine kKN (kq (kq (kq (kq (kq (kcX h2 (fun(s1:Bool×(List (List a0e))×(List a0e))=>([(2, .nl),(3,iL 0),(4,iL 0),(5, .vc 0),(6, .vc 1),(8, .bool s1.1)],[a0A (c0q a0b 4) 1 148 s1.2.1,a0A a0b 4 151 s1.2.2])) (fun y3 hy0 h0=> ?_) (fun s1 h3=> ?_)))))))
  ·refine kb 0 (J.wk (Wk.viv 5 1 148 (by kernel_rfl)) (J.wk (Wk.viv 6 4 151 (by kernel_rfl)) (kl (fun(s0:Int×Bool×Int×(List (List a0e))×(List a0e))=>([(0, .str x0),(2, .nl),(3,iL 0),(4,iL 0),(5, .vc 0),(6, .vc 1),(7,iL s0.1),(8, .bool s0.2.1),(9,iL s0.2.2.1)],[a0A (c0q a0b 4) 1 148 s0.2.2.2.1,a0A a0b 4 151 s0.2.2.2.2])) hy0 [0,2,3,4,5,6,7,8,9] (fun s0 x512 hs0=>kb 1 (kn 2 (kAb 20 hs0 (fun _=>k0d) (fun y0 h4=>kr 8 (kS (kq (kBT 25 h4 (fun h5=> ?_) (fun h6=> ?_)))))))))))
   ·exact kq (kX (PJ.passRet (PJ.blockRet (kLx h5 (fun h7=>PJ.blockRet (kCx h7 h0 (fun h8=>by obtain rfl:=oi h8;exact PJ.res (v1:= .tup [.nl,iL y0.2.1,iL 2]) (Le.tup (.cons (Le.nl _) (LeL.refl _))) (kZ H D W))))))))
   ·refine kKN (kq (kcN h6 (fun(s2:Bool)=>([(0, .str x0),(2, .nl),(3,iL 0),(4,iL 0),(5, .vc 0),(6, .vc 1),(7,iL (IntKind.wrap .i64 (s0.1+1))),(8, .bool s2),(9,iL s0.2.2.1),(10, .ptr 2 0),(11,iL y0.2.1)],[a0A (c0q a0b 4) 1 148 s0.2.2.2.1,a0A a0b 4 151 s0.2.2.2.2, .box (a0b y0.1)])) (fun s2 hy1=> ?_) (fun s2 h9=> ?_)))
    ·exact km 2 (kB 30 hy1 (fun h10=>ke 10 (kNo h10 [0,2,3,4,5,6,7,8,9,10,11])) (fun h11=>kc 6 (kB 36 h11 (fun h12=>ke 4 (kNo h12 [0,2,3,4,5,6,7,8,9,10,11])) (fun h13=>ke 4 (kNo h13 [0,2,3,4,5,6,7,8,9,10,11])))))
    ·refine kn 3 (kAp 43 1 4 4 151 [1,3] a0b h9 (fun h14=>kr 1 (kn 2 (kAb 46 h14 (fun _=>b0y) (fun y1 h15=>kr 1 (kS (kq (kBT 50 h15 (fun h16=> ?_) (fun h17=> ?_)))))))))
     ·exact kEp 0 (PJ.blockPass (by kernel_rfl) (kLx h16 (fun h18=>PJ.blockOut (kXW h18 D W [0,4]))))
     ·refine kKN (kn 2 (kAb 53 h17 (fun _=>f0F) (fun y2 h19=>kr 1 (kcX h19 (fun(s5:Unit)=>([(0, .str x0),(2, .nl),(3,iL 0),(4,iL 0),(5, .vc 0),(6, .vc 1),(7,iL (IntKind.wrap .i64 (s0.1+1))),(8, .bool s2),(9,iL y1),(13,iL y2)],[a0A (c0q a0b 4) 1 148 s0.2.2.2.1,a0A a0b 4 151 (s0.2.2.2.2++([y0.1]:List a0e))])) (fun y4 hy2 h20=> ?_) (fun s5 h21=> ?_)))))
      ·refine kcN hy2 (fun(s4:Bool)=>([(0, .str x0),(2, .nl),(3,iL 0),(4,iL 0),(5, .vc 0),(6, .vc 1),(7,iL (IntKind.wrap .i64 (s0.1+1))),(8, .bool s2),(9,iL y1),(13,iL y2),(65, .bool s4)],[a0A (c0q a0b 4) 1 148 s0.2.2.2.1,a0A a0b 4 151 (s0.2.2.2.2++([y0.1]:List a0e))])) (fun s4 hy3=> ?_) (fun s4 h22=> ?_)
       ·refine km 3 ?_
        obtain⟨hm,h23⟩:=a0Q hy3
        refine kQ 57 (.str (cut x0 y1 y2)) [] (tr2:=[]) hm (RJ.seg 2 [0,2,3,4,5,6,7,8,9,13,59] (L2:=[(0, .str x0),(2, .nl),(3,iL 0),(4,iL 0),(5, .vc 0),(6, .vc 4),(7,iL (IntKind.wrap .i64 (s0.1+1))),(8, .bool s2),(9,iL y1),(13,iL y2),(59, .bool ((cut x0 y1 y2) !=([97,110,100]:List UInt8)))]) (H2:=[a0A (c0q a0b 4) 1 148 s0.2.2.2.1, .gone, .box (a0b y0.1),a0A a0b 4 151 ([y0.1]:List a0e),a0A a0b 4 151 (s0.2.2.2.2++([y0.1]:List a0e))]) (by kernel_rfl) (kB 59 h23 (fun h24=> ?_) (fun h25=> ?_)))
        ·refine kc 3 ?_
         obtain⟨hm,h26⟩:=a0Q h24
         exact kQ 63 (.str (cut x0 y1 y2)) [] (tr2:=[]) hm (ke 2 (kNW h26 D W [0,4]))
        ·exact ke 6 (kNW h25 D W [0,4])
       ·exact kBT 65 h22 (fun h27=>kq (kX (kCx h27 h20 (fun h29=>PJ.blockRet (kLx h29 (fun h30=>PJ.blockRet (kCx h30 h0 (fun h31=>by obtain rfl:=oi h31;exact PJ.res (v1:= .tup [.nl,iL y1,iL 2]) (Le.tup (.cons (Le.nl _) (LeL.refl _))) (kZ H D W))))))))) (fun h28=>kK (kXo h28 [0,2,3,4,5,6,7,8,9,13]))
      ·refine kcN h21 (fun(s3:(List (List a0e))×(List a0e))=>([(0, .str x0),(2, .nl),(3,iL 0),(4,iL 0),(5, .vc 0),(6, .vc 1),(7,iL (IntKind.wrap .i64 (s0.1+1))),(8, .bool s2),(9,iL y1),(13,iL y2)],[a0A (c0q a0b 4) 1 148 s3.1,a0A a0b 4 151 s3.2])) (fun s3 hy4=> ?_) (fun s3 h32=> ?_)
       ·refine kn 3 ?_
        obtain⟨hm,h33⟩:=a0Q hy4
        refine kQ 70 (.str (cut x0 y1 y2)) [] (tr2:=[]) hm (kr 1 (kBT 71 h33 (fun h34=> ?_) (fun h35=> ?_)))
        ·refine kn 2 (RJ.wk (Wk.freeze 1 (n:=(s0.2.2.2.2++([y0.1]:List a0e)).length) (k:=4) (e:=151) (cs:=(s0.2.2.2.2++([y0.1]:List a0e)).flatMap a0b) (by kernel_rfl)) (kc 1 ?_))
         obtain⟨hm,h36⟩:=a0Q h34
         exact RJ.rel (d:=(some 75)) (ef:=⟨.vc 3,[0,2],[(0, .gone),(3, .vec (s0.2.2.2.1.length+(([(s0.2.2.2.2++([y0.1]:List a0e))]:List (List a0e))).length) 1 148 (s0.2.2.2.1.flatMap (c0q a0b 4)++(([(s0.2.2.2.2++([y0.1]:List a0e))]:List (List a0e))).flatMap (c0q a0b 4)))]⟩) (ef':=⟨.vc 3,[0,2],[(0, .gone),(3,a0A (c0q a0b 4) 1 148 (s0.2.2.2.1++(([(s0.2.2.2.2++([y0.1]:List a0e))]:List (List a0e)))))]⟩) (c:=room (s0.2.2.2.1.length+(([(s0.2.2.2.2++([y0.1]:List a0e))]:List (List a0e))).length)) (tr2:=[]) (H2:=[.gone, .gone,a0A (c0q a0b 4) 1 148 (([(s0.2.2.2.2++([y0.1]:List a0e))]:List (List a0e))),a0A (c0q a0b 4) 1 148 ((s0.2.2.2.1++(([(s0.2.2.2.2++([y0.1]:List a0e))]:List (List a0e)))))]) (by kernel_rfl) hm (fun hc=>N.app) (by kernel_rfl) (kr 1 (kM (PJ.wk (Wk.viv 6 4 151 (by kernel_rfl)) (kNW h36 D W [3,4]))))
        ·exact kK (kNo h35 [0,2,3,4,5,6,7,8,9,13])
       ·exact kM (PJ.blockNormal (kLo h32 [0,2,3,4,5,6,7,8,9]))
  ·refine kS (kq (kBT 77 h3 (fun h37=> ?_) (fun h38=> ?_)))
   ·exact kq (kX (PJ.passRet (by obtain rfl:=oi h37;exact PJ.res (v1:= .tup [.nl,iL 0,iL 11]) (Le.tup (.cons (Le.nl _) (LeL.refl _))) (kZ H D W))))
   ·refine kKN (kn 2 (RJ.wk (Wk.freeze 1 (n:=s1.2.2.length) (k:=4) (e:=151) (cs:=s1.2.2.flatMap a0b) (by kernel_rfl)) (kc 1 ?_)))
    obtain⟨hm,h39⟩:=a0Q h38
    exact RJ.rel (d:=(some 81)) (ef:=⟨.vc 3,[0,2],[(0, .gone),(3, .vec (s1.2.1.length+([s1.2.2]:List (List a0e)).length) 1 148 (s1.2.1.flatMap (c0q a0b 4)++([s1.2.2]:List (List a0e)).flatMap (c0q a0b 4)))]⟩) (ef':=⟨.vc 3,[0,2],[(0, .gone),(3,a0A (c0q a0b 4) 1 148 (s1.2.1++([s1.2.2]:List (List a0e))))]⟩) (c:=room (s1.2.1.length+([s1.2.2]:List (List a0e)).length)) (tr2:=[]) (H2:=[.gone, .gone,a0A (c0q a0b 4) 1 148 ([s1.2.2]:List (List a0e)),a0A (c0q a0b 4) 1 148 ((s1.2.1++([s1.2.2]:List (List a0e))))]) (by kernel_rfl) hm (fun hc=>N.app) (by kernel_rfl) (kr 3 (kX (by obtain rfl:=oi h39;exact PJ.wk (Wk.freeze 3 (n:=((s1.2.1++([s1.2.2]:List (List a0e)))).length) (k:=1) (e:=148) (cs:=((s1.2.1++([s1.2.2]:List (List a0e)))).flatMap (c0q a0b 4)) (by kernel_rfl)) (kZ H D W))))
def a0s:Nat→Int→Option (List UInt8)
 |0,_=>none
 |n+1,x0=>(bif(decide (x0<0))then(Option.bind (a0s n (IntKind.wrap .i64 (0-x0))) fun y0=>(bif room (([45]:List UInt8).length+y0.length)then(some (([45]:List UInt8)++y0))else none))else(Option.bind (a0l (fun(s0:Int×(List UInt8))=>(bif(decide (s0.1≥10))then(bif room (((b0s (([(IntKind.wrap .u8 ((IntKind.wrap .i64 (48+((Int.tmod (IntKind.wrap .i64 (Int.tdiv s0.1 10)) 10))))))]:List Int)))).length+s0.2.length)then(some (.inl ((IntKind.wrap .i64 (Int.tdiv s0.1 10)),(((b0s (([(IntKind.wrap .u8 ((IntKind.wrap .i64 (48+((Int.tmod (IntKind.wrap .i64 (Int.tdiv s0.1 10)) 10))))))]:List Int))))++s0.2))))else none)else(some (.inr s0.2)))) big (x0,(b0s (([(IntKind.wrap .u8 ((IntKind.wrap .i64 (48+(Int.tmod x0 10)))))]:List Int))))) fun(s1:(List UInt8))=>(some s1)))
theorem d0C: ∀(n:Nat) {x0:Int} {r:List UInt8} (h:a0s n x0=some r),SQ 138 [iL x0] [] (.str r) []:=by
 intro n
 induction n with
 |zero=>intro x0 r h;cases h
 |succ n ih=>
 intro x0 r h
 refine kFn (fn:=Tryz.f138) (fun F H D W=> ?_)
 rw[a0s.eq_2]at h
 refine kq (kS (kq (kBT 5 h (fun h0=> ?_) (fun h1=> ?_))))
 ·refine kn 2 (kAb 8 h0 (fun _=>ih) (fun y0 h2=> ?_))
  obtain⟨hm,h3⟩:=a0Q h2
  exact kQ 9 (.str (([45]:List UInt8)++y0)) [] (tr2:=[]) hm (kr 1 (kX (PJ.passRet (by cases h3;exact kZ H D W))))
 ·refine kKN (kn 5 (RJ.rel (d:=(some 15)) (ef:=⟨.str (((([(IntKind.wrap .u8 ((IntKind.wrap .i64 (48+(Int.tmod x0 10)))))]:List Int)).flatMap (a0q .u8)).map Go.Sy.byteOf),[0],[]⟩) (ef':=⟨.str (b0s (([(IntKind.wrap .u8 ((IntKind.wrap .i64 (48+(Int.tmod x0 10)))))]:List Int))),[0],[]⟩) (c:=((([(IntKind.wrap .u8 ((IntKind.wrap .i64 (48+(Int.tmod x0 10)))))]:List Int)).flatMap (a0q .u8)).all h0Z) (tr2:=[]) (H2:=[a0A (a0q .u8) 1 5 (([(IntKind.wrap .u8 ((IntKind.wrap .i64 (48+(Int.tmod x0 10)))))]:List Int))]) (by kernel_rfl) (o0x (([(IntKind.wrap .u8 ((IntKind.wrap .i64 (48+(Int.tmod x0 10)))))]:List Int))) (fun hc=>N.toStr) (by kernel_rfl) (kr 1 (kcN h1 (fun(s1:(List UInt8))=>([(2, .str ([]:List UInt8)),(3, .str s1)],[])) (fun s1 hy0=> ?_) (fun s1 h4=> ?_)))))
  ·refine kb 0 (J.wk (Wk.sel (L2:=[(0,iL x0),(2, .str ([]:List UInt8)),(3, .str ((b0s (([(IntKind.wrap .u8 ((IntKind.wrap .i64 (48+(Int.tmod x0 10)))))]:List Int)))))]) (H2:=[]) 0 (by rw[D];rfl) W [] (by kernel_rfl) (by kernel_rfl) (by decide) (by kernel_rfl) (by kernel_rfl) (by kernel_rfl) (by kernel_rfl)) (kl (fun(s0:Int×(List UInt8))=>([(0,iL s0.1),(2, .str ([]:List UInt8)),(3, .str s0.2)],[])) hy0 [0,2,3] (fun s0 x48 hs0=>kS (kq (kBT 17 hs0 (fun h5=> ?_) (fun h6=> ?_))))))
   ·refine kKN (kb 1 (kq (km 5 (RJ.rel (d:=(some 25)) (ef:=⟨.str (((([(IntKind.wrap .u8 ((IntKind.wrap .i64 (48+((Int.tmod (IntKind.wrap .i64 (Int.tdiv s0.1 10)) 10))))))]:List Int)).flatMap (a0q .u8)).map Go.Sy.byteOf),[0],[]⟩) (ef':=⟨.str (b0s (([(IntKind.wrap .u8 ((IntKind.wrap .i64 (48+((Int.tmod (IntKind.wrap .i64 (Int.tdiv s0.1 10)) 10))))))]:List Int))),[0],[]⟩) (c:=((([(IntKind.wrap .u8 ((IntKind.wrap .i64 (48+((Int.tmod (IntKind.wrap .i64 (Int.tdiv s0.1 10)) 10))))))]:List Int)).flatMap (a0q .u8)).all h0Z) (tr2:=[]) (H2:=[a0A (a0q .u8) 1 5 (([(IntKind.wrap .u8 ((IntKind.wrap .i64 (48+((Int.tmod (IntKind.wrap .i64 (Int.tdiv s0.1 10)) 10))))))]:List Int))]) (by kernel_rfl) (o0x (([(IntKind.wrap .u8 ((IntKind.wrap .i64 (48+((Int.tmod (IntKind.wrap .i64 (Int.tdiv s0.1 10)) 10))))))]:List Int))) (fun hc=>N.toStr) (by kernel_rfl) (kc 1 ?_)))))
    obtain⟨hm,h7⟩:=a0Q h5
    exact kQ 27 (.str (((b0s (([(IntKind.wrap .u8 ((IntKind.wrap .i64 (48+((Int.tmod (IntKind.wrap .i64 (Int.tdiv s0.1 10)) 10))))))]:List Int))))++s0.2)) [] (tr2:=[]) hm (ke 1 (PJ.blockNormal (kLW h7 D W [])))
   ·exact kEp 0 (kLx h6 (fun h8=>PJ.blockOut (kNo h8 [2,3])))
  ·exact kq (kX (by cases h4;exact kZ H D W))
def d0h(x0:List (List a0e)):Option (List UInt8):=
 (Option.bind (a0l (fun(s0:(List UInt8)×Int)=>(bif(decide (s0.2<(x0.length:Int)))then(Option.bind (Option.bind (bif(decide (s0.2>0))then(bif room (s0.1.length+([32,111,114,32]:List UInt8).length)then(some (s0.1++([32,111,114,32]:List UInt8)))else none)else(some s0.1)) fun(s6:(List UInt8))=>(a0l (fun(s1:(List UInt8)×Int)=>(bif inR s0.2 x0.length then(bif(decide (s1.2<((nth x0 s0.2).length:Int)))then(Option.bind (bif inR s0.2 x0.length then(bif inR s1.2 (nth x0 s0.2).length then(Option.bind (bif(decide (s1.2>0))then(bif room (s1.1.length+([32,97,110,100,32]:List UInt8).length)then(some (s1.1++([32,97,110,100,32]:List UInt8)))else none)else(some s1.1)) fun(s4:(List UInt8))=>(bif room (s4.length+((b0s (([(nth (nth x0 s0.2) s1.2).p_]:List Int)))).length)then(Option.bind (bif(decide (¬((nth (nth x0 s0.2) s1.2).v_)=0))then(bif room (((s4++((b0s (([(nth (nth x0 s0.2) s1.2).p_]:List Int)))))).length+([32,37,32]:List UInt8).length)then(Option.bind (a0s big ((nth (nth x0 s0.2) s1.2).v_)) fun y1=>(bif room (((((s4++((b0s (([(nth (nth x0 s0.2) s1.2).p_]:List Int))))))++([32,37,32]:List UInt8))).length+y1.length)then(some ((((((s4++((b0s (([(nth (nth x0 s0.2) s1.2).p_]:List Int))))))++([32,37,32]:List UInt8)))++y1)))else none))else none)else(some ((s4++((b0s (([(nth (nth x0 s0.2) s1.2).p_]:List Int)))))))) fun(s5:(List UInt8))=>(Option.bind (bif(nth (nth x0 s0.2) s1.2).K_ then(bif room (s5.length+([32,33,61,32]:List UInt8).length)then(some (s5++([32,33,61,32]:List UInt8)))else none)else(bif room (s5.length+([32,61,32]:List UInt8).length)then(some (s5++([32,61,32]:List UInt8)))else none)) fun(s7:(List UInt8))=>(a0l (fun(s2:(List UInt8)×Int)=>(bif(decide (s2.2<((((nth (nth x0 s0.2) s1.2).R_).length:Int))))then(Option.bind (Option.bind (bif(decide (s2.2>0))then(bif room (s2.1.length+([44]:List UInt8).length)then(some (s2.1++([44]:List UInt8)))else none)else(some s2.1)) fun(s3:(List UInt8))=>(bif inR s2.2 ((nth (nth x0 s0.2) s1.2).R_).length then(Option.bind (a0s big ((nth ((nth (nth x0 s0.2) s1.2).R_) s2.2).e_)) fun y0=>(bif room (s3.length+y0.length)then(bif inR s2.2 ((nth (nth x0 s0.2) s1.2).R_).length then(bif inR s2.2 ((nth (nth x0 s0.2) s1.2).R_).length then(bif(decide (¬((nth ((nth (nth x0 s0.2) s1.2).R_) s2.2).f_)=((nth ((nth (nth x0 s0.2) s1.2).R_) s2.2).e_)))then(bif room ((s3++y0).length+([46,46]:List UInt8).length)then(bif inR s2.2 ((nth (nth x0 s0.2) s1.2).R_).length then(Option.bind (a0s big ((nth ((nth (nth x0 s0.2) s1.2).R_) s2.2).f_)) fun y2=>(bif room (((s3++y0)++([46,46]:List UInt8)).length+y2.length)then(some ((((s3++y0)++([46,46]:List UInt8))++y2)))else none))else none)else none)else(some (s3++y0)))else none)else none)else none))else none)) fun(s8:(List UInt8))=>(some (.inl (s8,(IntKind.wrap .i64 (s2.2+1))))))else(some (.inr s2.1)))) big (s7,0))))else none))else none)else none) fun(s9:(List UInt8))=>(some (.inl (s9,(IntKind.wrap .i64 (s1.2+1))))))else(some (.inr s1.1)))else none)) big (s6,0))) fun(s10:(List UInt8))=>(some (.inl (s10,(IntKind.wrap .i64 (s0.2+1))))))else(some (.inr s0.1)))) big (([]:List UInt8),0)) fun(s11:(List UInt8))=>(some s11))
theorem j0F {x0:List (List a0e)} {r:List UInt8} (h:d0h x0=some r):SQ 108 [lsv (c0q a0b 4) 1 x0] [] (.str r) []:=by
 refine kFn (fn:=Tryz.f108) (fun F H D W=> ?_)
 unfold d0h at h
 refine kq (kq (kcN h (fun(s11:(List UInt8))=>([(2, .str ([]:List UInt8)),(3, .str s11)],[])) (fun s11 hy0=> ?_) (fun s11 h0=> ?_)))
 ·refine kq (kb 0 (kl (fun(s0:(List UInt8)×Int)=>([(0,lsv (c0q a0b 4) 1 x0),(2, .str ([]:List UInt8)),(3, .str s0.1),(4,iL s0.2)],[])) hy0 [0,2,3,4] (fun s0 x16091 hs0=>kS (kq (kBT 11 hs0 (fun h1=> ?_) (fun h2=> ?_))))))
  ·refine kKN (kcN h1 (fun(s10:(List UInt8))=>([(0,lsv (c0q a0b 4) 1 x0),(2, .str ([]:List UInt8)),(3, .str s10),(4,iL s0.2)],[])) (fun s10 hy1=> ?_) (fun s10 h3=> ?_))
   ·refine kb 1 (kcN hy1 (fun(s6:(List UInt8))=>([(0,lsv (c0q a0b 4) 1 x0),(2, .str ([]:List UInt8)),(3, .str s6),(4,iL s0.2)],[])) (fun s6 hy2=> ?_) (fun s6 h4=> ?_))
    ·refine kq (kBT 15 hy2 (fun h5=> ?_) (fun h6=> ?_))
     ·refine km 1 ?_
      obtain⟨hm,h7⟩:=a0Q h5
      exact kQ 17 (.str (s0.1++([32,111,114,32]:List UInt8))) [] (tr2:=[]) hm (ke 1 (kNo h7 [0,2,3,4]))
     ·exact kK (kNo h6 [0,2,3,4])
    ·refine kq (kb 2 (kl (fun(s1:(List UInt8)×Int)=>([(0,lsv (c0q a0b 4) 1 x0),(2, .str ([]:List UInt8)),(3, .str s1.1),(4,iL s0.2),(5,iL s1.2)],[])) h4 [0,2,3,4,5] (fun s1 x18776 hs1=>kS (kn 3 (kIb 21 (e0Z a0b 4) hs1 (fun h8=>kr 3 (kBT 24 h8 (fun h9=> ?_) (fun h10=> ?_))))))))
     ·refine kKN (kcN h9 (fun(s9:(List UInt8))=>([(0,lsv (c0q a0b 4) 1 x0),(2, .str ([]:List UInt8)),(3, .str s9),(4,iL s0.2),(5,iL s1.2)],[])) (fun s9 hy3=> ?_) (fun s9 h11=> ?_))
      ·refine kb 3 (kn 2 (kIb 29 (e0Z a0b 4) hy3 (fun h12=>kc 2 (kIb 32 d0S h12 (fun h13=>kr 3 (kcN h13 (fun(s4:(List UInt8))=>([(0,lsv (c0q a0b 4) 1 x0),(2, .str ([]:List UInt8)),(3, .str s4),(4,iL s0.2),(5,iL s1.2),(6, .ptr 0 0)],[.box [.int .u8 ((nth (nth x0 s0.2) s1.2).p_),iL ((nth (nth x0 s0.2) s1.2).v_), .bool ((nth (nth x0 s0.2) s1.2).K_),lsv a0H 2 ((nth (nth x0 s0.2) s1.2).R_)]])) (fun s4 hy4=> ?_) (fun s4 h14=> ?_)))))))
       ·refine kq (kBT 35 hy4 (fun h15=> ?_) (fun h16=> ?_))
        ·refine km 1 ?_
         obtain⟨hm,h17⟩:=a0Q h15
         exact kQ 37 (.str (s1.1++([32,97,110,100,32]:List UInt8))) [] (tr2:=[]) hm (ke 1 (kNo h17 [0,2,3,4,5,6]))
        ·exact kK (kNo h16 [0,2,3,4,5,6])
       ·refine kn 4 (RJ.rel (d:=(some 42)) (ef:=⟨.str (((([(nth (nth x0 s0.2) s1.2).p_]:List Int)).flatMap (a0q .u8)).map Go.Sy.byteOf),[1],[]⟩) (ef':=⟨.str (b0s (([(nth (nth x0 s0.2) s1.2).p_]:List Int))),[1],[]⟩) (c:=((([(nth (nth x0 s0.2) s1.2).p_]:List Int)).flatMap (a0q .u8)).all h0Z) (tr2:=[]) (H2:=[.box [.int .u8 ((nth (nth x0 s0.2) s1.2).p_),iL ((nth (nth x0 s0.2) s1.2).v_), .bool ((nth (nth x0 s0.2) s1.2).K_),lsv a0H 2 ((nth (nth x0 s0.2) s1.2).R_)],a0A (a0q .u8) 1 5 (([(nth (nth x0 s0.2) s1.2).p_]:List Int))]) (by kernel_rfl) (o0x (([(nth (nth x0 s0.2) s1.2).p_]:List Int))) (fun hc=>N.toStr) (by kernel_rfl) ?_)
        obtain⟨hm,h18⟩:=a0Q h14
        refine kQ 43 (.str (s4++((b0s (([(nth (nth x0 s0.2) s1.2).p_]:List Int)))))) [] (tr2:=[]) hm (kr 1 (kcN h18 (fun(s5:(List UInt8))=>([(0,lsv (c0q a0b 4) 1 x0),(2, .str ([]:List UInt8)),(3, .str s5),(4,iL s0.2),(5,iL s1.2),(6, .ptr 0 0)],[.box [.int .u8 ((nth (nth x0 s0.2) s1.2).p_),iL ((nth (nth x0 s0.2) s1.2).v_), .bool ((nth (nth x0 s0.2) s1.2).K_),lsv a0H 2 ((nth (nth x0 s0.2) s1.2).R_)]])) (fun s5 hy5=> ?_) (fun s5 h19=> ?_)))
        ·refine kq (kBT 46 hy5 (fun h20=> ?_) (fun h21=> ?_))
         ·refine km 1 ?_
          obtain⟨hm,h22⟩:=a0Q h20
          refine kQ 48 (.str (((s4++((b0s (([(nth (nth x0 s0.2) s1.2).p_]:List Int))))))++([32,37,32]:List UInt8))) [] (tr2:=[]) hm (kc 2 (kAb 51 h22 (fun _=>d0C big) (fun y1 h23=> ?_)))
          obtain⟨hm,h24⟩:=a0Q h23
          exact kQ 52 (.str (((((s4++((b0s (([(nth (nth x0 s0.2) s1.2).p_]:List Int))))))++([32,37,32]:List UInt8)))++y1)) [] (tr2:=[]) hm (ke 1 (kNW h24 D W [0]))
         ·exact kK (kNW h21 D W [0])
        ·refine kcN h19 (fun(s7:(List UInt8))=>([(0,lsv (c0q a0b 4) 1 x0),(2, .str ([]:List UInt8)),(3, .str s7),(4,iL s0.2),(5,iL s1.2),(6, .ptr 0 0)],[.box [.int .u8 ((nth (nth x0 s0.2) s1.2).p_),iL ((nth (nth x0 s0.2) s1.2).v_), .bool ((nth (nth x0 s0.2) s1.2).K_),lsv a0H 2 ((nth (nth x0 s0.2) s1.2).R_)]])) (fun s7 hy6=> ?_) (fun s7 h25=> ?_)
         ·refine kq (kBT 54 hy6 (fun h26=> ?_) (fun h27=> ?_))
          ·refine km 1 ?_
           obtain⟨hm,h28⟩:=a0Q h26
           exact kQ 56 (.str (s5++([32,33,61,32]:List UInt8))) [] (tr2:=[]) hm (ke 1 (kNo h28 [0,2,3,4,5,6]))
          ·refine km 1 ?_
           obtain⟨hm,h29⟩:=a0Q h27
           exact kQ 58 (.str (s5++([32,61,32]:List UInt8))) [] (tr2:=[]) hm (ke 1 (kNo h29 [0,2,3,4,5,6]))
         ·refine kq (kb 4 (kl (fun(s2:(List UInt8)×Int)=>([(0,lsv (c0q a0b 4) 1 x0),(2, .str ([]:List UInt8)),(3, .str s2.1),(4,iL s0.2),(5,iL s1.2),(6, .ptr 0 0),(7,iL s2.2)],[.box [.int .u8 ((nth (nth x0 s0.2) s1.2).p_),iL ((nth (nth x0 s0.2) s1.2).v_), .bool ((nth (nth x0 s0.2) s1.2).K_),lsv a0H 2 ((nth (nth x0 s0.2) s1.2).R_)]])) h25 [0,2,3,4,5,6,7] (fun s2 x19235 hs2=>kS (kq (kBT 63 hs2 (fun h30=> ?_) (fun h31=> ?_))))))
          ·refine kKN (kcN h30 (fun(s8:(List UInt8))=>([(0,lsv (c0q a0b 4) 1 x0),(2, .str ([]:List UInt8)),(3, .str s8),(4,iL s0.2),(5,iL s1.2),(6, .ptr 0 0),(7,iL s2.2)],[.box [.int .u8 ((nth (nth x0 s0.2) s1.2).p_),iL ((nth (nth x0 s0.2) s1.2).v_), .bool ((nth (nth x0 s0.2) s1.2).K_),lsv a0H 2 ((nth (nth x0 s0.2) s1.2).R_)]])) (fun s8 hy7=> ?_) (fun s8 h32=> ?_))
           ·refine kb 5 (kcN hy7 (fun(s3:(List UInt8))=>([(0,lsv (c0q a0b 4) 1 x0),(2, .str ([]:List UInt8)),(3, .str s3),(4,iL s0.2),(5,iL s1.2),(6, .ptr 0 0),(7,iL s2.2)],[.box [.int .u8 ((nth (nth x0 s0.2) s1.2).p_),iL ((nth (nth x0 s0.2) s1.2).v_), .bool ((nth (nth x0 s0.2) s1.2).K_),lsv a0H 2 ((nth (nth x0 s0.2) s1.2).R_)]])) (fun s3 hy8=> ?_) (fun s3 h33=> ?_))
            ·refine kq (kBT 67 hy8 (fun h34=> ?_) (fun h35=> ?_))
             ·refine km 1 ?_
              obtain⟨hm,h36⟩:=a0Q h34
              exact kQ 69 (.str (s2.1++([44]:List UInt8))) [] (tr2:=[]) hm (ke 1 (kNo h36 [0,2,3,4,5,6,7]))
             ·exact kK (kNo h35 [0,2,3,4,5,6,7])
            ·refine kn 4 (kIb 74 c0S h33 (fun h37=>kc 2 (kAb 77 h37 (fun _=>d0C big) (fun y0 h38=> ?_))))
             obtain⟨hm,h39⟩:=a0Q h38
             refine kQ 78 (.str (s3++y0)) [] (tr2:=[]) hm (kr 1 (kS (kDr (kD 3 ?_))))
             obtain⟨hm,h40⟩:=a0Q h39
             refine kJ 82 (tr2:=[([],[]),([0,1],[]),([],[]),([],[])]) c0S hm (kD 5 ?_)
             obtain⟨hm,h41⟩:=a0Q h40
             refine kJ 88 (tr2:=[([],[]),([0,1],[]),([],[]),([],[]),([],[]),([],[]),([],[]),([0,1],[]),([],[]),([],[])]) c0S hm (kD 3 (kEN (kBT 91 h41 (fun h42=> ?_) (fun h43=> ?_))))
             ·refine km 1 ?_
              obtain⟨hm,h44⟩:=a0Q h42
              refine kQ 93 (.str ((s3++y0)++([46,46]:List UInt8))) [] (tr2:=[]) hm (kc 3 (kIb 97 c0S h44 (fun h45=>RJ.seg 2 [0,2,3,4,5,6,7,93,99] (L2:=[(0,lsv (c0q a0b 4) 1 x0),(2, .str ([]:List UInt8)),(3, .str (s3++y0)),(4,iL s0.2),(5,iL s1.2),(6, .ptr 0 0),(7,iL s2.2),(93, .str ((s3++y0)++([46,46]:List UInt8))),(99,iL ((nth ((nth (nth x0 s0.2) s1.2).R_) s2.2).f_))]) (H2:=[.box [.int .u8 ((nth (nth x0 s0.2) s1.2).p_),iL ((nth (nth x0 s0.2) s1.2).v_), .bool ((nth (nth x0 s0.2) s1.2).K_),lsv a0H 2 ((nth (nth x0 s0.2) s1.2).R_)]]) (by kernel_rfl) (kAb 100 h45 (fun _=>d0C big) (fun y2 h46=> ?_)))))
              obtain⟨hm,h47⟩:=a0Q h46
              exact kQ 101 (.str (((s3++y0)++([46,46]:List UInt8))++y2)) [] (tr2:=[]) hm (ke 1 (PJ.blockNormal (kNo h47 [0,2,3,4,5,6,7])))
             ·exact kKb (kNo h43 [0,2,3,4,5,6,7])
           ·exact kM (kLo h32 [0,2,3,4,5,6,7])
          ·exact kEp 4 (kLx h31 (fun h48=>PJ.blockOut (PJ.blockNormal (kNW h48 D W []))))
      ·exact kM (kLo h11 [0,2,3,4,5])
     ·exact kEp 2 (kLx h10 (fun h49=>PJ.blockOut (PJ.blockNormal (kNo h49 [0,2,3,4]))))
   ·exact kM (kLo h3 [0,2,3,4])
  ·exact kEp 0 (kLx h2 (fun h50=>PJ.blockOut (kNo h50 [2,3])))
 ·exact kq (kX (by cases h0;exact kZ H D W))
def c0v(x0 x1:List (List a0e)):Option (Bool):=
 (bif(decide (¬(x0.length:Int)=(x1.length:Int)))then(some false)else(Option.bind (a0l (fun(s0:Int)=>(bif(decide (s0<(x0.length:Int)))then(Option.bind (bif inR s0 x0.length then(bif inR s0 x1.length then(bif(decide (¬((nth x0 s0).length:Int)=((nth x1 s0).length:Int)))then(some (.inr (.inr (.inr false))))else(a0l (fun(s1:Int)=>(bif inR s0 x0.length then(bif(decide (s1<((nth x0 s0).length:Int)))then(Option.bind (bif inR s0 x0.length then(bif inR s1 (nth x0 s0).length then(bif inR s0 x1.length then(bif inR s1 (nth x1 s0).length then(Option.bind (Option.bind (bif(decide (¬((nth (nth x0 s0) s1).p_)=((nth (nth x1 s0) s1).p_)))then(some true)else(bif(decide (¬((nth (nth x0 s0) s1).v_)=((nth (nth x1 s0) s1).v_)))then(some true)else(bif(((nth (nth x0 s0) s1).K_) !=((nth (nth x1 s0) s1).K_))then(some true)else(some ((decide (¬((((nth (nth x0 s0) s1).R_).length:Int))=((((nth (nth x1 s0) s1).R_).length:Int))))))))) fun(s3:Bool)=>(bif s3 then(some (.inr (.inr (.inr (.inr (.inr (.inr false)))))))else(some (.inl ())))) (a0j fun(s4:Unit)=>(a0l (fun(s2:Int)=>(bif(decide (s2<((((nth (nth x0 s0) s1).R_).length:Int))))then(bif inR s2 ((nth (nth x0 s0) s1).R_).length then(bif inR s2 ((nth (nth x1 s0) s1).R_).length then(bif(!((decide (((nth ((nth (nth x0 s0) s1).R_) s2).e_)=((nth ((nth (nth x1 s0) s1).R_) s2).e_)))&&((decide (((nth ((nth (nth x0 s0) s1).R_) s2).f_)=((nth ((nth (nth x1 s0) s1).R_) s2).f_)))&&true)))then(some (.inr (.inr (.inr (.inr (.inr (.inr false)))))))else(some (.inl (IntKind.wrap .i64 (s2+1)))))else none)else none)else(some (.inr (.inl ()))))) big 0)))else none)else none)else none)else none) (a0j fun(s5:Unit)=>(some (.inl (IntKind.wrap .i64 (s1+1))))))else(some (.inr (.inl ()))))else none)) big 0))else none)else none) (a0j fun(s6:Unit)=>(some (.inl (IntKind.wrap .i64 (s0+1))))))else(some (.inr (.inl ()))))) big 0) (a0j fun(s7:Unit)=>(some true))))
theorem j0G {x0 x1:List (List a0e)} {r:Bool} (h:c0v x0 x1=some r):SQ 109 [lsv (c0q a0b 4) 1 x0,lsv (c0q a0b 4) 1 x1] [] (.bool r) []:=by
 refine kFn (fn:=Tryz.f109) (fun F H D W=> ?_)
 unfold c0v at h
 refine kq (kS (kq (kBT 14 h (fun h3=> ?_) (fun h4=> ?_))))
 ·exact kq (kX (PJ.passRet (by cases h3;exact kZ H D W)))
 ·refine kKN (kcX h4 (fun(s7:Unit)=>([(4, .bool false)],[])) (fun y0 hy0 h0=> ?_) (fun s7 h5=> ?_))
  ·refine kq (kb 0 (kl (fun(s0:Int)=>([(0,lsv (c0q a0b 4) 1 x0),(1,lsv (c0q a0b 4) 1 x1),(4, .bool false),(5,iL s0)],[])) hy0 [0,1,4,5] (fun s0 x8734 hs0=>kS (kq (kBT 18 hs0 (fun h6=> ?_) (fun h7=> ?_))))))
   ·refine kKN (kcX h6 (fun(s6:Unit)=>([(0,lsv (c0q a0b 4) 1 x0),(1,lsv (c0q a0b 4) 1 x1),(4, .bool false),(5,iL s0)],[])) (fun y1 hy1 h1=> ?_) (fun s6 h8=> ?_))
    ·refine kb 1 (kS (kS (kDr (kD 2 ?_))))
     obtain⟨hm,h9⟩:=a0Q hy1
     refine kJ 23 (tr2:=[([],[]),([],[]),([],[])]) (e0Z a0b 4) hm (kD 4 ?_)
     obtain⟨hm,h10⟩:=a0Q h9
     refine kJ 28 (tr2:=[([],[]),([],[]),([],[]),([],[]),([],[]),([],[]),([],[]),([],[])]) (e0Z a0b 4) hm (kD 3 (kEN (kBT 31 h10 (fun h11=> ?_) (fun h12=> ?_))))
     ·exact kq (kX (PJ.passRet (PJ.blockRet (kCx h11 h1 (fun h13=>kLx h13 (fun h14=>PJ.blockRet (kCx h14 h0 (fun h15=>by obtain rfl:=oi h15;exact kZ H D W))))))))
     ·refine kKN (kq (kb 2 (kl (fun(s1:Int)=>([(0,lsv (c0q a0b 4) 1 x0),(1,lsv (c0q a0b 4) 1 x1),(4, .bool false),(5,iL s0),(6,iL s1)],[])) h12 [0,1,4,5,6] (fun s1 x10191 hs1=>kS (kn 3 (kIb 35 (e0Z a0b 4) hs1 (fun h16=>kr 3 (kBT 38 h16 (fun h17=> ?_) (fun h18=> ?_)))))))))
      ·refine kKN (kcX h17 (fun(s5:Unit)=>([(0,lsv (c0q a0b 4) 1 x0),(1,lsv (c0q a0b 4) 1 x1),(4, .bool false),(5,iL s0),(6,iL s1)],[])) (fun y2 hy2 h2=> ?_) (fun s5 h19=> ?_))
       ·refine kb 3 (kn 2 (kIb 43 (e0Z a0b 4) hy2 (fun h20=>kc 2 (kIb 46 d0S h20 (fun h21=>kr 3 (kn 2 (kIb 50 (e0Z a0b 4) h21 (fun h22=>kc 2 (kIb 53 d0S h22 (fun h23=>kr 3 (kcX h23 (fun(s4:Unit)=>([(0,lsv (c0q a0b 4) 1 x0),(1,lsv (c0q a0b 4) 1 x1),(4, .bool false),(5,iL s0),(6,iL s1),(7, .ptr 0 0),(8, .ptr 1 0)],[.box [.int .u8 ((nth (nth x0 s0) s1).p_),iL ((nth (nth x0 s0) s1).v_), .bool ((nth (nth x0 s0) s1).K_),lsv a0H 2 ((nth (nth x0 s0) s1).R_)], .box [.int .u8 ((nth (nth x1 s0) s1).p_),iL ((nth (nth x1 s0) s1).v_), .bool ((nth (nth x1 s0) s1).K_),lsv a0H 2 ((nth (nth x1 s0) s1).R_)]])) (fun y3 hy3 h24=> ?_) (fun s4 h25=> ?_))))))))))))
        ·exact kcN hy3 (fun(s3:Bool)=>([(0,lsv (c0q a0b 4) 1 x0),(1,lsv (c0q a0b 4) 1 x1),(4, .bool false),(5,iL s0),(6,iL s1),(7, .ptr 0 0),(8, .ptr 1 0),(82, .bool s3)],[.box [.int .u8 ((nth (nth x0 s0) s1).p_),iL ((nth (nth x0 s0) s1).v_), .bool ((nth (nth x0 s0) s1).K_),lsv a0H 2 ((nth (nth x0 s0) s1).R_)], .box [.int .u8 ((nth (nth x1 s0) s1).p_),iL ((nth (nth x1 s0) s1).v_), .bool ((nth (nth x1 s0) s1).K_),lsv a0H 2 ((nth (nth x1 s0) s1).R_)]])) (fun s3 hy4=>kR (RJ.seg 6 [0,1,4,5,6,7,8,60] (L2:=[(0,lsv (c0q a0b 4) 1 x0),(1,lsv (c0q a0b 4) 1 x1),(4, .bool false),(5,iL s0),(6,iL s1),(7, .ptr 0 0),(8, .ptr 1 0),(60, .bool ((decide (¬((nth (nth x0 s0) s1).p_)=((nth (nth x1 s0) s1).p_)))))]) (H2:=[.box [.int .u8 ((nth (nth x0 s0) s1).p_),iL ((nth (nth x0 s0) s1).v_), .bool ((nth (nth x0 s0) s1).K_),lsv a0H 2 ((nth (nth x0 s0) s1).R_)], .box [.int .u8 ((nth (nth x1 s0) s1).p_),iL ((nth (nth x1 s0) s1).v_), .bool ((nth (nth x1 s0) s1).K_),lsv a0H 2 ((nth (nth x1 s0) s1).R_)]]) (by kernel_rfl) (kB 60 hy4 (fun h27=>ke 22 (kNo h27 [0,1,4,5,6,7,8,82])) (fun h28=>kc 7 (kB 67 h28 (fun h29=>ke 15 (kNo h29 [0,1,4,5,6,7,8,82])) (fun h30=>kc 7 (kB 74 h30 (fun h31=>ke 8 (kNo h31 [0,1,4,5,6,7,8,82])) (fun h32=>ke 8 (kNo h32 [0,1,4,5,6,7,8,82]))))))))) (fun s3 h26=>kBT 82 h26 (fun h33=>kq (kX (kCx h33 h24 (fun h35=>PJ.blockRet (kCx h35 h2 (fun h36=>kLx h36 (fun h37=>PJ.blockRet (PJ.blockRet (kCx h37 h1 (fun h38=>kLx h38 (fun h39=>PJ.blockRet (kCx h39 h0 (fun h40=>by obtain rfl:=oi h40;exact kZ H D W))))))))))))) (fun h34=>kK (kXo h34 [0,1,4,5,6,7,8])))
        ·refine kq (kb 4 (kl (fun(s2:Int)=>([(0,lsv (c0q a0b 4) 1 x0),(1,lsv (c0q a0b 4) 1 x1),(4, .bool false),(5,iL s0),(6,iL s1),(7, .ptr 0 0),(8, .ptr 1 0),(9,iL s2)],[.box [.int .u8 ((nth (nth x0 s0) s1).p_),iL ((nth (nth x0 s0) s1).v_), .bool ((nth (nth x0 s0) s1).K_),lsv a0H 2 ((nth (nth x0 s0) s1).R_)], .box [.int .u8 ((nth (nth x1 s0) s1).p_),iL ((nth (nth x1 s0) s1).v_), .bool ((nth (nth x1 s0) s1).K_),lsv a0H 2 ((nth (nth x1 s0) s1).R_)]])) h25 [0,1,4,5,6,7,8,9] (fun s2 x10455 hs2=>kS (kq (kBT 87 hs2 (fun h41=> ?_) (fun h42=> ?_))))))
         ·refine kKN (kS (kb 5 (kS (kDr (kD 3 ?_)))))
          obtain⟨hm,h43⟩:=a0Q h41
          refine kJ 93 (tr2:=[([],[]),([0,1],[]),([],[]),([],[])]) c0S hm (kD 4 ?_)
          obtain⟨hm,h44⟩:=a0Q h43
          exact kJ 98 (tr2:=[([],[]),([0,1],[]),([],[]),([],[]),([],[]),([],[]),([2,3],[]),([],[]),([],[])]) c0S hm (kD 2 (kEN (kBT 100 h44 (fun h45=>kq (kXp (kLx h45 (fun h47=>PJ.blockRet (PJ.blockRet (kCx h47 h2 (fun h48=>kLx h48 (fun h49=>PJ.blockRet (PJ.blockRet (kCx h49 h1 (fun h50=>kLx h50 (fun h51=>PJ.blockRet (kCx h51 h0 (fun h52=>by obtain rfl:=oi h52;exact kZ H D W)))))))))))))) (fun h46=>kKn (kM (kLo h46 [0,1,4,5,6,7,8,9]))))))
         ·exact kEp 4 (kLx h42 (fun h53=>PJ.blockOut (PJ.blockNormal (kXW h53 D W []))))
       ·exact kM (kLo h19 [0,1,4,5,6])
      ·exact kEp 2 (kLx h18 (fun h54=>PJ.blockOut (PJ.blockNormal (kXo h54 [0,1,4,5]))))
    ·exact kM (kLo h8 [0,1,4,5])
   ·exact kEp 0 (kLx h7 (fun h55=>PJ.blockOut (kXo h55 [4])))
  ·exact kq (kX (by cases h5;exact kZ H D W))
def c0m(x0:List (List a0e)):Option (Bool):=
 (Option.bind (d0h x0) fun y1=>(Option.bind (b0Q y1) fun y0=>(Option.bind (bif(decide (y0.2.2=0))then(Option.bind (c0v x0 y0.1) fun y2=>(some y2))else(some false)) fun(s0:Bool)=>(some s0))))
theorem i0X {x0:List (List a0e)} {r:Bool} (h:c0m x0=some r):SQ 60 [lsv (c0q a0b 4) 1 x0] [] (.bool r) []:=by
 refine kFn (fn:=Tryz.f60) (fun F H D W=> ?_)
 unfold c0m at h
 exact kq (kn 1 (kAb 8 h (fun _=>j0F) (fun y1 h0=>kAb 9 h0 (fun _=>f0w) (fun y0 h1=>kr 7 (kcN h1 (fun(s0:Bool)=>([(2, .bool s0)],[])) (fun s0 hy0=>km 3 (kB 15 hy0 (fun h3=>kc 2 (kAb 18 h3 (fun _=>j0G) (fun y2 h5=>ke 2 (kNo h5 [2])))) (fun h4=>ke 5 (kNo h4 [2])))) (fun s0 h2=>kX (by cases h2;exact kZ H D W)))))))
def d0g(x0:List k0S):Option ((List b0z)×Int×Int):=
 (Option.bind (a0l (fun(s0:Int×(List b0z))=>(bif(decide (s0.1<(x0.length:Int)))then(Option.bind (Option.bind (Option.bind (bif inR s0.1 x0.length then(bif(decide (((nth x0 s0.1).F_)<1))then(some true)else(bif inR s0.1 x0.length then(bif(decide (((nth x0 s0.1).F_)>5))then(some true)else(bif(decide (s0.1>0))then(bif inR s0.1 x0.length then(bif inR (IntKind.wrap .i64 (s0.1-1)) x0.length then(some ((decide (((nth x0 s0.1).F_)≤((nth x0 (IntKind.wrap .i64 (s0.1-1))).F_)))))else none)else none)else(some false)))else none))else none) fun(s2:Bool)=>(bif s2 then(some (.inr (.inr (.inr (.inr (([]:List b0z),s0.1,1))))))else(some (.inl ())))) (a0j fun(s5:Unit)=>(bif inR s0.1 x0.length then(Option.bind (b0Q ((nth x0 s0.1).H_)) fun y0=>(Option.bind (c0m y0.1) fun y1=>(Option.bind (Option.bind (bif(decide (¬y0.2.2=0))then(some true)else(some (!y1))) fun(s3:Bool)=>(bif s3 then(some (.inr (.inr (.inr (.inr (([]:List b0z),s0.1,2))))))else(some (.inl ())))) (a0j fun(s6:Unit)=>(bif inR s0.1 x0.length then(bif room (s0.2.length+(([(⟨(nth x0 s0.1).F_,y0.1⟩:b0z)]:List b0z)).length)then(some (.inl ((s0.2++(([(⟨(nth x0 s0.1).F_,y0.1⟩:b0z)]:List b0z))))))else none)else none)))))else none))) (a0j fun(s4:(List b0z))=>(some (.inl ((IntKind.wrap .i64 (s0.1+1)),s4)))))else(some (.inr (.inl s0.2))))) big (0,([]:List b0z))) (a0j fun(s1:(List b0z))=>(some (s1,0,0))))
theorem j0E {x0:List k0S} {r:(List b0z)×Int×Int} (h:d0g x0=some r):SQ 24 [lsv c0h 2 x0] [] (.tup [lsv c0d 2 r.1,iL r.2.1,iL r.2.2]) []:=by
 refine kFn (fn:=Tryz.f24) (fun F H D W=> ?_)
 unfold d0g at h
 refine kq (kq (kcX h (fun(s1:(List b0z))=>([(2, .nl),(3,iL 0),(4,iL 0),(5, .vc 0)],[a0A c0d 2 104 s1])) (fun y2 hy0 h0=> ?_) (fun s1 h2=> ?_)))
 ·refine kq (kb 0 (J.wk (Wk.viv 5 2 104 (by kernel_rfl)) (kl (fun(s0:Int×(List b0z))=>([(0,lsv c0h 2 x0),(2, .nl),(3,iL 0),(4,iL 0),(5, .vc 0),(6,iL s0.1)],[a0A c0d 2 104 s0.2])) hy0 [0,2,3,4,5,6] (fun s0 x1411 hs0=>kS (kq (kBT 14 hs0 (fun h3=> ?_) (fun h4=> ?_)))))))
  ·refine kKN (kcX h3 (fun(s4:(List b0z))=>([(0,lsv c0h 2 x0),(2, .nl),(3,iL 0),(4,iL 0),(5, .vc 0),(6,iL s0.1)],[a0A c0d 2 104 s4])) (fun y3 hy1 h1=> ?_) (fun s4 h5=> ?_))
   ·refine kb 1 (kcX hy1 (fun(s5:Unit)=>([(0,lsv c0h 2 x0),(2, .nl),(3,iL 0),(4,iL 0),(5, .vc 0),(6,iL s0.1)],[a0A c0d 2 104 s0.2])) (fun y4 hy2 h6=> ?_) (fun s5 h7=> ?_))
    ·refine kcN hy2 (fun(s2:Bool)=>([(0,lsv c0h 2 x0),(2, .nl),(3,iL 0),(4,iL 0),(5, .vc 0),(6,iL s0.1),(48, .bool s2)],[a0A c0d 2 104 s0.2])) (fun s2 hy3=> ?_) (fun s2 h8=> ?_)
     ·refine kDr (kD 2 ?_)
      obtain⟨hm,h9⟩:=a0Q hy3
      refine kJ 19 (tr2:=[([],[]),([],[]),([],[])]) c0Y hm (kD 4 (kB 23 h9 (fun h10=> ?_) (fun h11=> ?_)))
      ·exact kD 25 (kE (kNo h10 [0,2,3,4,5,6,48]))
      ·refine kD 2 ?_
       obtain⟨hm,h12⟩:=a0Q h11
       refine kJ 26 (tr2:=[([],[]),([],[]),([],[]),([],[]),([],[]),([],[]),([],[]),([],[]),([],[]),([],[])]) c0Y hm (kD 5 (kB 31 h12 (fun h13=> ?_) (fun h14=> ?_)))
       ·exact kD 17 (kE (kNo h13 [0,2,3,4,5,6,48]))
       ·refine kD 3 (kB 34 h14 (fun h15=> ?_) (fun h16=> ?_))
        ·refine kD 2 ?_
         obtain⟨hm,h17⟩:=a0Q h15
         refine kJ 37 (tr2:=[([],[]),([],[]),([],[]),([],[]),([],[]),([],[]),([],[]),([],[]),([],[]),([],[]),([],[]),([],[]),([],[]),([],[]),([],[]),([],[]),([],[]),([],[]),([],[]),([],[]),([],[])]) c0Y hm (kD 5 ?_)
         obtain⟨hm,h18⟩:=a0Q h17
         exact kJ 43 (tr2:=[([],[]),([],[]),([],[]),([],[]),([],[]),([],[]),([],[]),([],[]),([],[]),([],[]),([],[]),([],[]),([],[]),([],[]),([],[]),([],[]),([],[]),([],[]),([],[]),([],[]),([],[]),([],[]),([],[]),([],[]),([],[]),([],[]),([],[])]) c0Y hm (kD 5 (kE (kNo h18 [0,2,3,4,5,6,48])))
        ·exact kD 14 (kE (kNo h16 [0,2,3,4,5,6,48]))
     ·exact kBT 48 h8 (fun h19=>kq (kX (kCx h19 h6 (fun h21=>PJ.blockRet (kCx h21 h1 (fun h22=>kLx h22 (fun h23=>PJ.blockRet (kCx h23 h0 (fun h24=>by obtain rfl:=oi h24;exact PJ.res (v1:= .tup [.nl,iL s0.1,iL 1]) (Le.tup (.cons (Le.nl _) (LeL.refl _))) (kZ H D W)))))))))) (fun h20=>kK (kXo h20 [0,2,3,4,5,6]))
    ·exact kn 2 (kIb 53 c0Y h7 (fun h25=>kc 2 (kAb 56 h25 (fun _=>f0w) (fun y0 h26=>kr 7 (kn 1 (kAb 61 h26 (fun _=>i0X) (fun y1 h27=>kr 1 (kcX h27 (fun(s6:Unit)=>([(0,lsv c0h 2 x0),(2, .nl),(3,iL 0),(4,iL 0),(5, .vc 0),(6,iL s0.1),(7,lsv (c0q a0b 4) 1 y0.1)],[a0A c0d 2 104 s0.2])) (fun y5 hy4 h28=>kcN hy4 (fun(s3:Bool)=>([(0,lsv c0h 2 x0),(2, .nl),(3,iL 0),(4,iL 0),(5, .vc 0),(6,iL s0.1),(7,lsv (c0q a0b 4) 1 y0.1),(67, .bool s3)],[a0A c0d 2 104 s0.2])) (fun s3 hy5=>km 3 (kB 64 hy5 (fun h31=>ke 3 (kNo h31 [0,2,3,4,5,6,7,67])) (fun h32=>ke 3 (kNo h32 [0,2,3,4,5,6,7,67])))) (fun s3 h30=>kBT 67 h30 (fun h33=>kq (kX (kCx h33 h28 (fun h35=>PJ.blockRet (kCx h35 h1 (fun h36=>kLx h36 (fun h37=>PJ.blockRet (kCx h37 h0 (fun h38=>by obtain rfl:=oi h38;exact PJ.res (v1:= .tup [.nl,iL s0.1,iL 2]) (Le.tup (.cons (Le.nl _) (LeL.refl _))) (kZ H D W)))))))))) (fun h34=>kK (kXo h34 [0,2,3,4,5,6,7])))) (fun s6 h29=>km 3 (kIb 72 c0Y h29 (fun h39=>kc 5 (kAp 78 0 2 2 104 [0,1] c0d h39 (fun h40=>ke 1 (PJ.blockNormal (kXW h40 D W [2])))))))))))))))
   ·exact kM (kLo h5 [0,2,3,4,5,6])
  ·exact kEp 0 (kLx h4 (fun h41=>PJ.blockOut (kXo h41 [2,3,4,5])))
 ·exact kq (kX (by obtain rfl:=oi h2;exact PJ.wk (Wk.freeze 0 (n:=s1.length) (k:=2) (e:=104) (cs:=s1.flatMap c0d) (by kernel_rfl)) (kZ H D W)))
def b0D(x0:Int):Option (Bool):=
 (Option.bind (bif(decide ((IntKind.wrap .i64 x0)≥0))then(bif(decide ((IntKind.wrap .i64 x0)<55296))then(some true)else(bif(decide ((IntKind.wrap .i64 x0)>57343))then(some ((decide ((IntKind.wrap .i64 x0)≤1114111))))else(some false)))else(bif(decide ((IntKind.wrap .i64 x0)>57343))then(some ((decide ((IntKind.wrap .i64 x0)≤1114111))))else(some false))) fun(s0:Bool)=>(some s0))
theorem e0X {x0:Int} {r:Bool} (h:b0D x0=some r):SQ 63 [iM x0] [] (.bool r) []:=by
 refine kFn (fn:=Tryz.f63) (fun F H D W=> ?_)
 unfold b0D at h
 exact kq (kq (kcN h (fun(s0:Bool)=>([(2, .bool s0)],[])) (fun s0 hy0=>km 3 (kB 8 hy0 (fun h1=>kc 4 (kB 12 h1 (fun h3=>ke 8 (kNo h3 [2])) (fun h4=>kc 3 (kB 15 h4 (fun h5=>ke 5 (kNo h5 [2])) (fun h6=>ke 5 (kNo h6 [2])))))) (fun h2=>kc 7 (kB 15 h2 (fun h7=>ke 5 (kNo h7 [2])) (fun h8=>ke 5 (kNo h8 [2])))))) (fun s0 h0=>kX (by cases h0;exact kZ H D W))))
def c0p(x0:Int):Option (Bool):=
 (Option.bind (bif(decide (x0=1564))then(some true)else(bif(decide (x0=8206))then(some true)else(bif(decide (x0=8207))then(some true)else(bif(decide (x0≥8234))then(bif(decide (x0≤8238))then(some true)else(bif(decide (x0≥8294))then(some (decide (x0≤8297)))else(some false)))else(bif(decide (x0≥8294))then(some (decide (x0≤8297)))else(some false)))))) fun(s0:Bool)=>(some s0))
theorem h0N {x0:Int} {r:Bool} (h:c0p x0=some r):SQ 72 [iL x0] [] (.bool r) []:=by
 refine kFn (fn:=Tryz.f72) (fun F H D W=> ?_)
 unfold c0p at h
 exact kq (kcN h (fun(s0:Bool)=>([(2, .bool s0)],[])) (fun s0 hy0=>km 3 (kB 5 hy0 (fun h1=>ke 24 (kNo h1 [2])) (fun h2=>kc 4 (kB 9 h2 (fun h3=>ke 20 (kNo h3 [2])) (fun h4=>kc 4 (kB 13 h4 (fun h5=>ke 16 (kNo h5 [2])) (fun h6=>kc 3 (kB 16 h6 (fun h7=>kc 5 (kB 21 h7 (fun h9=>ke 8 (kNo h9 [2])) (fun h10=>kc 3 (kB 24 h10 (fun h11=>ke 5 (kNo h11 [2])) (fun h12=>ke 5 (kNo h12 [2])))))) (fun h8=>kc 8 (kB 24 h8 (fun h13=>ke 5 (kNo h13 [2])) (fun h14=>ke 5 (kNo h14 [2])))))))))))) (fun s0 h0=>kX (by cases h0;exact kZ H D W)))
def c0O(x0:Int):Option (Bool):=
 (Option.bind (bif(decide (x0=32))then(some true)else(bif(decide (x0=160))then(some true)else(bif(decide (x0=5760))then(some true)else(bif(decide (x0≥8192))then(bif(decide (x0≤8202))then(some true)else(bif(decide (x0=8232))then(some true)else(bif(decide (x0=8233))then(some true)else(bif(decide (x0=8239))then(some true)else(bif(decide (x0=8287))then(some true)else(some (decide (x0=12288))))))))else(bif(decide (x0=8232))then(some true)else(bif(decide (x0=8233))then(some true)else(bif(decide (x0=8239))then(some true)else(bif(decide (x0=8287))then(some true)else(some (decide (x0=12288))))))))))) fun(s0:Bool)=>(some s0))
theorem i0Y {x0:Int} {r:Bool} (h:c0O x0=some r):SQ 73 [iL x0] [] (.bool r) []:=by
 refine kFn (fn:=Tryz.f73) (fun F H D W=> ?_)
 unfold c0O at h
 exact kq (kcN h (fun(s0:Bool)=>([(2, .bool s0)],[])) (fun s0 hy0=>km 3 (kB 5 hy0 (fun h1=>ke 36 (kNo h1 [2])) (fun h2=>kc 4 (kB 9 h2 (fun h3=>ke 32 (kNo h3 [2])) (fun h4=>kc 4 (kB 13 h4 (fun h5=>ke 28 (kNo h5 [2])) (fun h6=>kc 3 (kB 16 h6 (fun h7=>kc 5 (kB 21 h7 (fun h9=>ke 20 (kNo h9 [2])) (fun h10=>kc 4 (kB 25 h10 (fun h11=>ke 16 (kNo h11 [2])) (fun h12=>kc 4 (kB 29 h12 (fun h13=>RJ.seg 12 [2] (L2:=[(2, .bool true)]) (H2:=[]) (by kernel_rfl) (kE (kNo h13 [2]))) (fun h14=>RJ.seg 4 [0,2,33] (L2:=[(0,iL x0),(2, .bool false),(33, .bool (decide (x0=8239)))]) (H2:=[]) (by kernel_rfl) (kB 33 h14 (fun h15=>ke 8 (kNo h15 [2])) (fun h16=>kc 4 (kB 37 h16 (fun h17=>ke 4 (kNo h17 [2])) (fun h18=>ke 4 (kNo h18 [2])))))))))))) (fun h8=>kc 9 (kB 25 h8 (fun h19=>ke 16 (kNo h19 [2])) (fun h20=>kc 4 (kB 29 h20 (fun h21=>ke 12 (kNo h21 [2])) (fun h22=>kc 4 (kB 33 h22 (fun h23=>RJ.seg 8 [2] (L2:=[(2, .bool true)]) (H2:=[]) (by kernel_rfl) (kE (kNo h23 [2]))) (fun h24=>RJ.seg 4 [0,2,37] (L2:=[(0,iL x0),(2, .bool false),(37, .bool (decide (x0=8287)))]) (H2:=[]) (by kernel_rfl) (kB 37 h24 (fun h25=>ke 4 (kNo h25 [2])) (fun h26=>ke 4 (kNo h26 [2])))))))))))))))))) (fun s0 h0=>kX (by cases h0;exact kZ H D W)))
def b0X:Option (List Int):=
 (some ([48,1632,1776,1984,2406,2534,2662,2790,2918,3046,3174,3302,3430,3664,3792,3872,6112,6160,65296,120782]:List Int))
theorem e0W {r:List Int} (h:b0X=some r):SQ 75 [] [] (lR r) []:=by
 refine kFn (fn:=Tryz.f75) (fun F H D W=> ?_)
 unfold b0X at h
 exact kq (kq (kX (by obtain rfl:=oi h;exact PJ.wk (Wk.freeze 0 (n:=([48,1632,1776,1984,2406,2534,2662,2790,2918,3046,3174,3302,3430,3664,3792,3872,6112,6160,65296,120782]:List Int).length) (k:=1) (e:=21) (cs:=([48,1632,1776,1984,2406,2534,2662,2790,2918,3046,3174,3302,3430,3664,3792,3872,6112,6160,65296,120782]:List Int).flatMap (a0q .i32)) (by kernel_rfl)) (kZ H D W))))
def c0P(x0:Int):Option (Int×Bool):=
 (Option.bind b0X fun y0=>(Option.bind (a0l (fun(s0:Int)=>(bif(decide (s0<(y0.length:Int)))then(Option.bind (a0l (fun(s1:Int)=>(bif(decide (s1<10))then(bif inR s0 y0.length then(bif(decide (((IntKind.wrap .i64 ((IntKind.wrap .i64 (nth y0 s0))+s1)))=(IntKind.wrap .i64 x0)))then(some (.inr (.inr (.inr (.inr (s1,true))))))else(some (.inl (IntKind.wrap .i64 (s1+1)))))else none)else(some (.inr (.inl ()))))) big 0) (a0j fun(s2:Unit)=>(some (.inl (IntKind.wrap .i64 (s0+1))))))else(some (.inr (.inl ()))))) big 0) (a0j fun(s3:Unit)=>(some (0,false)))))
theorem i0Z {x0:Int} {r:Int×Bool} (h:c0P x0=some r):SQ 74 [iM x0] [] (.tup [iL r.1, .bool r.2]) []:=by
 refine kFn (fn:=Tryz.f74) (fun F H D W=> ?_)
 unfold c0P at h
 exact kq (kSR (kAb 7 h (fun _=>e0W) (fun y0 h0=>kr 1 (kcX h0 (fun(s3:Unit)=>([(2,iL 0),(3, .bool false)],[])) (fun y1 hy0 h1=>kq (kb 0 (kl (fun(s0:Int)=>([(0,iM x0),(2,iL 0),(3, .bool false),(4,lR y0),(5,iL s0)],[])) hy0 [0,2,3,4,5] (fun s0 x544 hs0=>kS (kq (kBT 11 hs0 (fun h3=>kKN (kcX h3 (fun(s2:Unit)=>([(0,iM x0),(2,iL 0),(3, .bool false),(4,lR y0),(5,iL s0)],[])) (fun y2 hy1 h5=>kb 1 (kq (kb 2 (kl (fun(s1:Int)=>([(0,iM x0),(2,iL 0),(3, .bool false),(4,lR y0),(5,iL s0),(6,iL s1)],[])) hy1 [0,2,3,4,5,6] (fun s1 x633 hs1=>kS (kq (kBT 15 hs1 (fun h7=>kKN (kS (kb 3 (kn 2 (kIb 20 (a0x .i32) h7 (fun h9=>kr 7 (kBT 27 h9 (fun h10=>kq (kXp (kLx h10 (fun h12=>PJ.blockRet (PJ.blockRet (kCx h12 h5 (fun h13=>kLx h13 (fun h14=>PJ.blockRet (kCx h14 h1 (fun h15=>by obtain rfl:=oi h15;exact kZ H D W)))))))))) (fun h11=>kKn (kM (kLo h11 [0,2,3,4,5,6])))))))))) (fun h8=>kEp 2 (kLx h8 (fun h16=>PJ.blockOut (PJ.blockNormal (kXo h16 [0,2,3,4,5])))))))))))) (fun s2 h6=>kM (kLo h6 [0,2,3,4,5])))) (fun h4=>kEp 0 (kLx h4 (fun h17=>PJ.blockOut (kXo h17 [2,3])))))))))) (fun s3 h2=>kq (kX (by cases h2;exact kZ H D W)))))))
def d0i(x0:Int):Option (Int):=
 (Option.bind (b0D x0) fun y3=>(Option.bind (c0p (IntKind.wrap .i64 x0)) fun y2=>(Option.bind (c0O (IntKind.wrap .i64 x0)) fun y0=>(Option.bind (c0P x0) fun y1=>(bif(!y3)then(some 6)else(Option.bind (Option.bind (bif(decide ((IntKind.wrap .i64 x0)<32))then(some true)else(bif(decide ((IntKind.wrap .i64 x0)≥127))then(some ((decide ((IntKind.wrap .i64 x0)≤159))))else(some false))) fun(s0:Bool)=>(bif s0 then(some (.inr 1))else(some (.inl ())))) (a0j fun(s2:Unit)=>(bif y2 then(some 2)else(Option.bind (Option.bind (bif(decide ((IntKind.wrap .i64 x0)≥64976))then(bif(decide ((IntKind.wrap .i64 x0)≤65007))then(some true)else(some ((decide ((Int.tmod (IntKind.wrap .i64 x0) 65536)≥65534)))))else(some ((decide ((Int.tmod (IntKind.wrap .i64 x0) 65536)≥65534))))) fun(s1:Bool)=>(bif s1 then(some (.inr 3))else(some (.inl ())))) (a0j fun(s3:Unit)=>(bif y0 then(some 4)else(bif y1.2 then(some 5)else(some 0)))))))))))))
theorem k0M {x0 r:Int} (h:d0i x0=some r):SQ 35 [iM x0] [] (iL r) []:=by
 refine kFn (fn:=Tryz.f35) (fun F H D W=> ?_)
 unfold d0i at h
 exact kq (kq (kn 1 (kAb 12 h (fun _=>e0X) (fun y3 h0=>kr 1 (kn 1 (kAb 14 h0 (fun _=>h0N) (fun y2 h1=>kr 1 (kn 1 (kAb 16 h1 (fun _=>i0Y) (fun y0 h2=>kr 1 (kSR (RJ.seg 1 [2,3,4,5,6,18] (L2:=[(2,iL 0),(3,iL (IntKind.wrap .i64 x0)),(4, .bool y3),(5, .bool y2),(6, .bool y0),(18,iM x0)]) (H2:=[]) (by kernel_rfl) (kAb 19 h2 (fun _=>i0Z) (fun y1 h3=>kr 5 (kS (kq (kBT 23 h3 (fun h4=>kq (kX (PJ.passRet (by cases h4;exact kZ H D W)))) (fun h5=>kKN (kcX h5 (fun(s2:Unit)=>([(2,iL 0),(3,iL (IntKind.wrap .i64 x0)),(5, .bool y2),(6, .bool y0),(8, .bool y1.2)],[])) (fun y4 hy0 h6=>kcN hy0 (fun(s0:Bool)=>([(2,iL 0),(3,iL (IntKind.wrap .i64 x0)),(5, .bool y2),(6, .bool y0),(8, .bool y1.2),(33, .bool s0)],[])) (fun s0 hy1=>km 3 (kB 26 hy1 (fun h9=>ke 7 (kNo h9 [2,3,5,6,8,33])) (fun h10=>kc 3 (kB 29 h10 (fun h11=>ke 4 (kNo h11 [2,3,5,6,8,33])) (fun h12=>ke 4 (kNo h12 [2,3,5,6,8,33])))))) (fun s0 h8=>kBT 33 h8 (fun h13=>kq (kX (kCx h13 h6 (fun h15=>by obtain rfl:=oi h15;exact kZ H D W)))) (fun h14=>kK (kXo h14 [2,3,5,6,8])))) (fun s2 h7=>kS (kq (kBT 34 h7 (fun h16=>kq (kX (PJ.passRet (by cases h16;exact kZ H D W)))) (fun h17=>kKN (kcX h17 (fun(s3:Unit)=>([(2,iL 0),(6, .bool y0),(8, .bool y1.2)],[])) (fun y5 hy2 h18=>kcN hy2 (fun(s1:Bool)=>([(2,iL 0),(6, .bool y0),(8, .bool y1.2),(45, .bool s1)],[])) (fun s1 hy3=>km 3 (kB 37 hy3 (fun h21=>kc 4 (kB 41 h21 (fun h23=>ke 4 (kNo h23 [2,6,8,45])) (fun h24=>ke 4 (kNo h24 [2,6,8,45])))) (fun h22=>ke 8 (kNo h22 [2,6,8,45])))) (fun s1 h20=>kBT 45 h20 (fun h25=>kq (kX (kCx h25 h18 (fun h27=>by obtain rfl:=oi h27;exact kZ H D W)))) (fun h26=>kK (kXo h26 [2,6,8])))) (fun s3 h19=>kS (kq (kBT 46 h19 (fun h28=>kq (kX (PJ.passRet (by cases h28;exact kZ H D W)))) (fun h29=>kKN (kS (kq (kBT 47 h29 (fun h30=>kq (kX (PJ.passRet (by cases h30;exact kZ H D W)))) (fun h31=>kKN (kq (kX (by cases h31;exact kZ H D W)))))))))))))))))))))))))))))))))))
def c0w(x0:Int):Option (Bool):=
 (Option.bind b0X fun y0=>(Option.bind (a0l (fun(s0:Int)=>(bif(decide (s0<(y0.length:Int)))then(bif inR s0 y0.length then(bif(decide ((nth y0 s0)=x0))then(some (.inr (.inr true)))else(some (.inl (IntKind.wrap .i64 (s0+1)))))else none)else(some (.inr (.inl ()))))) big 0) (a0j fun(s1:Unit)=>(some false))))
theorem j0H {x0:Int} {r:Bool} (h:c0w x0=some r):SQ 36 [iM x0] [] (.bool r) []:=by
 refine kFn (fn:=Tryz.f36) (fun F H D W=> ?_)
 unfold c0w at h
 exact kq (kSR (kAb 5 h (fun _=>e0W) (fun y0 h0=>kr 1 (kcX h0 (fun(s1:Unit)=>([(2, .bool false)],[])) (fun y1 hy0 h1=>kq (kb 0 (kl (fun(s0:Int)=>([(0,iM x0),(2, .bool false),(3,lR y0),(4,iL s0)],[])) hy0 [0,2,3,4] (fun s0 x74 hs0=>kS (kq (kBT 9 hs0 (fun h3=>kKN (kS (kb 1 (kn 2 (kIb 14 (a0x .i32) h3 (fun h5=>kr 3 (kBT 17 h5 (fun h6=>kq (kXp (kLx h6 (fun h8=>PJ.blockRet (kCx h8 h1 (fun h9=>by obtain rfl:=oi h9;exact kZ H D W)))))) (fun h7=>kKn (kM (kLo h7 [0,2,3,4])))))))))) (fun h4=>kEp 0 (kLx h4 (fun h10=>PJ.blockOut (kXo h10 [2])))))))))) (fun s1 h2=>kq (kX (by cases h2;exact kZ H D W)))))))
def c0u(x0:e0h):Option (Bool):=
 (Option.bind (a0l (fun(s0:Int)=>(bif(decide (s0<(([x0.m_,x0.o_,x0.l_,x0.k_,x0.j_,x0.i_]:List Int).length:Int)))then(Option.bind (bif inR s0 ([x0.m_,x0.o_,x0.l_,x0.k_,x0.j_,x0.i_]:List Int).length then(bif inR s0 ([x0.m_,x0.o_,x0.l_,x0.k_,x0.j_,x0.i_]:List Int).length then(Option.bind (d0i (nth ([x0.m_,x0.o_,x0.l_,x0.k_,x0.j_,x0.i_]:List Int) s0)) fun y0=>(Option.bind (Option.bind (bif(decide (¬y0=0))then(some (decide (¬y0=4)))else(some false)) fun(s2:Bool)=>(bif s2 then(some (.inr (.inr (.inr (.inr false)))))else(some (.inl ())))) (a0j fun(s3:Unit)=>(a0l (fun(s1:Int)=>(bif(decide (s1<s0))then(bif inR s1 ([x0.m_,x0.o_,x0.l_,x0.k_,x0.j_,x0.i_]:List Int).length then(bif inR s1 ([x0.m_,x0.o_,x0.l_,x0.k_,x0.j_,x0.i_]:List Int).length then(bif inR s0 ([x0.m_,x0.o_,x0.l_,x0.k_,x0.j_,x0.i_]:List Int).length then(bif inR s0 ([x0.m_,x0.o_,x0.l_,x0.k_,x0.j_,x0.i_]:List Int).length then(bif(decide ((nth ([x0.m_,x0.o_,x0.l_,x0.k_,x0.j_,x0.i_]:List Int) s1)=(nth ([x0.m_,x0.o_,x0.l_,x0.k_,x0.j_,x0.i_]:List Int) s0)))then(some (.inr (.inr (.inr (.inr false)))))else(some (.inl (IntKind.wrap .i64 (s1+1)))))else none)else none)else none)else none)else(some (.inr (.inl ()))))) big 0))))else none)else none) (a0j fun(s4:Unit)=>(some (.inl (IntKind.wrap .i64 (s0+1))))))else(some (.inr (.inl ()))))) big 0) (a0j fun(s5:Unit)=>(Option.bind (c0w x0.u_) fun y1=>(some y1))))
theorem j0D {x0:e0h} {r:Bool} (h:c0u x0=some r):SQ 10 [.agg (a0w x0)] [] (.bool r) []:=by
 refine kFn (fn:=Tryz.f10) (fun F H D W=> ?_)
 unfold c0u at h
 refine kq (kq (kcX h (fun(s5:Unit)=>([(1, .ptr 0 0),(2, .bool false)],[.box (a0w x0)])) (fun y2 hy0 h0=> ?_) (fun s5 h2=> ?_)))
 ·refine kq (kb 0 (kl (fun(s0:Int)=>([(1, .ptr 0 0),(2, .bool false),(3, .vc 1),(4,iL s0)],[.box (a0w x0),a0A (a0q .i32) 1 21 ([x0.m_,x0.o_,x0.l_,x0.k_,x0.j_,x0.i_]:List Int)])) hy0 [1,2,3,4] (fun s0 x1111 hs0=>kS (kq (kBT 23 hs0 (fun h3=> ?_) (fun h4=> ?_))))))
  ·refine kKN (kcX h3 (fun(s4:Unit)=>([(1, .ptr 0 0),(2, .bool false),(3, .vc 1),(4,iL s0)],[.box (a0w x0),a0A (a0q .i32) 1 21 ([x0.m_,x0.o_,x0.l_,x0.k_,x0.j_,x0.i_]:List Int)])) (fun y3 hy1 h1=> ?_) (fun s4 h5=> ?_))
   ·refine kb 1 (kn 2 ?_)
    obtain⟨hm,h6⟩:=a0Q hy1
    refine kQ 28 (.ptr 1 ((s0:Int).toNat*1)) [1] (tr2:=[]) hm ?_
    obtain⟨hm,h7⟩:=a0Q h6
    refine RJ.rel (d:=(some 29)) (ef:=⟨(((([x0.m_,x0.o_,x0.l_,x0.k_,x0.j_,x0.i_]:List Int)).flatMap (a0q .i32)).drop ((s0:Int).toNat*1)).headD .undef,[1],[]⟩) (ef':=⟨iM (nth ([x0.m_,x0.o_,x0.l_,x0.k_,x0.j_,x0.i_]:List Int) s0),[1],[]⟩) (c:=Nat.blt ((s0:Int).toNat*1) (([x0.m_,x0.o_,x0.l_,x0.k_,x0.j_,x0.i_]:List Int).flatMap (a0q .i32)).length) (tr2:=[]) (H2:=[.box (a0w x0),a0A (a0q .i32) 1 21 ([x0.m_,x0.o_,x0.l_,x0.k_,x0.j_,x0.i_]:List Int)]) (by kernel_rfl) (o0h (a0x .i32) rfl hm) (fun hc=>N.load1 (a0x .i32) (fun _=>rfl) hm) (by kernel_rfl) (kAb 30 h7 (fun _=>k0M) (fun y0 h8=>kr 1 (kcX h8 (fun(s3:Unit)=>([(1, .ptr 0 0),(2, .bool false),(3, .vc 1),(4,iL s0)],[.box (a0w x0),a0A (a0q .i32) 1 21 ([x0.m_,x0.o_,x0.l_,x0.k_,x0.j_,x0.i_]:List Int)])) (fun y4 hy2 h9=> ?_) (fun s3 h10=> ?_))))
    ·exact kcN hy2 (fun(s2:Bool)=>([(1, .ptr 0 0),(2, .bool false),(3, .vc 1),(4,iL s0),(36, .bool s2)],[.box (a0w x0),a0A (a0q .i32) 1 21 ([x0.m_,x0.o_,x0.l_,x0.k_,x0.j_,x0.i_]:List Int)])) (fun s2 hy3=>km 3 (kB 33 hy3 (fun h12=>ke 3 (kNo h12 [1,2,3,4,36])) (fun h13=>ke 3 (kNo h13 [1,2,3,4,36])))) (fun s2 h11=>kBT 36 h11 (fun h14=>kq (kX (kCx h14 h9 (fun h16=>PJ.blockRet (kCx h16 h1 (fun h17=>kLx h17 (fun h18=>PJ.blockRet (kCx h18 h0 (fun h19=>by obtain rfl:=oi h19;exact kZ H D W))))))))) (fun h15=>kK (kXo h15 [1,2,3,4])))
    ·refine kq (kb 2 (kl (fun(s1:Int)=>([(1, .ptr 0 0),(2, .bool false),(3, .vc 1),(4,iL s0),(6,iL s1)],[.box (a0w x0),a0A (a0q .i32) 1 21 ([x0.m_,x0.o_,x0.l_,x0.k_,x0.j_,x0.i_]:List Int)])) h10 [1,2,3,4,6] (fun s1 x1311 hs1=>kS (kq (kBT 39 hs1 (fun h20=> ?_) (fun h21=> ?_))))))
     ·refine kKN (kS (kb 3 (kS (kDr (kD 2 ?_)))))
      obtain⟨hm,h22⟩:=a0Q h20
      refine kQ 44 (.ptr 1 ((s1:Int).toNat*1)) [1] (tr2:=[([],[]),([],[]),([3],[])]) hm ?_
      obtain⟨hm,h23⟩:=a0Q h22
      refine RJ.rel (d:=(some 45)) (ef:=⟨(((([x0.m_,x0.o_,x0.l_,x0.k_,x0.j_,x0.i_]:List Int)).flatMap (a0q .i32)).drop ((s1:Int).toNat*1)).headD .undef,[1],[]⟩) (ef':=⟨iM (nth ([x0.m_,x0.o_,x0.l_,x0.k_,x0.j_,x0.i_]:List Int) s1),[1],[]⟩) (c:=Nat.blt ((s1:Int).toNat*1) (([x0.m_,x0.o_,x0.l_,x0.k_,x0.j_,x0.i_]:List Int).flatMap (a0q .i32)).length) (tr2:=[([],[]),([],[]),([3],[]),([2,3],[])]) (H2:=[.box (a0w x0),a0A (a0q .i32) 1 21 ([x0.m_,x0.o_,x0.l_,x0.k_,x0.j_,x0.i_]:List Int)]) (by kernel_rfl) (o0h (a0x .i32) rfl hm) (fun hc=>N.load1 (a0x .i32) (fun _=>rfl) hm) (by kernel_rfl) (kD 2 ?_)
      obtain⟨hm,h24⟩:=a0Q h23
      refine kQ 48 (.ptr 1 ((s0:Int).toNat*1)) [1] (tr2:=[([],[]),([],[]),([3],[]),([2,3],[]),([],[]),([],[]),([3],[])]) hm ?_
      obtain⟨hm,h25⟩:=a0Q h24
      exact RJ.rel (d:=(some 49)) (ef:=⟨(((([x0.m_,x0.o_,x0.l_,x0.k_,x0.j_,x0.i_]:List Int)).flatMap (a0q .i32)).drop ((s0:Int).toNat*1)).headD .undef,[1],[]⟩) (ef':=⟨iM (nth ([x0.m_,x0.o_,x0.l_,x0.k_,x0.j_,x0.i_]:List Int) s0),[1],[]⟩) (c:=Nat.blt ((s0:Int).toNat*1) (([x0.m_,x0.o_,x0.l_,x0.k_,x0.j_,x0.i_]:List Int).flatMap (a0q .i32)).length) (tr2:=[([],[]),([],[]),([3],[]),([2,3],[]),([],[]),([],[]),([3],[]),([2,3],[])]) (H2:=[.box (a0w x0),a0A (a0q .i32) 1 21 ([x0.m_,x0.o_,x0.l_,x0.k_,x0.j_,x0.i_]:List Int)]) (by kernel_rfl) (o0h (a0x .i32) rfl hm) (fun hc=>N.load1 (a0x .i32) (fun _=>rfl) hm) (by kernel_rfl) (kD 1 (kEN (kBT 50 h25 (fun h26=>kq (kXp (kLx h26 (fun h28=>PJ.blockRet (PJ.blockRet (kCx h28 h1 (fun h29=>kLx h29 (fun h30=>PJ.blockRet (kCx h30 h0 (fun h31=>by obtain rfl:=oi h31;exact kZ H D W)))))))))) (fun h27=>kKn (kM (kLo h27 [1,2,3,4,6]))))))
     ·exact kEp 2 (kLx h21 (fun h32=>PJ.blockOut (PJ.blockNormal (kXo h32 [1,2,3,4]))))
   ·exact kM (kLo h5 [1,2,3,4])
  ·exact kEp 0 (kLx h4 (fun h33=>PJ.blockOut (kXW h33 D W [0])))
 ·exact kn 2 (kAb 53 h2 (fun _=>j0H) (fun y1 h34=>kr 1 (kX (by cases h34;exact kZ H D W))))
def b0R(x0:List Int)(x1 x2 x3:Int):Option (Int):=
 (bif(decide ((IntKind.wrap .i64 (x1+x2))≥(x0.length:Int)))then(some (-1))else(Option.bind (a0l (fun(s0:Int×Int)=>(bif(decide (s0.2≤x2))then(Option.bind (bif inR (IntKind.wrap .i64 (x1+s0.2)) x0.length then(Option.bind (Option.bind (bif(decide (((IntKind.wrap .i64 ((nth x0 (IntKind.wrap .i64 (x1+s0.2))))))<128))then(some true)else(some ((decide (((IntKind.wrap .i64 ((nth x0 (IntKind.wrap .i64 (x1+s0.2))))))>191))))) fun(s1:Bool)=>(bif s1 then(some (.inr (.inr (.inr (.inr (-1))))))else(some (.inl ())))) (a0j fun(s3:Unit)=>(some (.inl ()))))else none) (a0j fun(s4:Unit)=>(some (.inl ((IntKind.wrap .i64 (((IntKind.wrap .i64 ((IntKind.wrap .i64 (s0.1*64))+((IntKind.wrap .i64 ((nth x0 (IntKind.wrap .i64 (x1+s0.2)))))))))-128)),(IntKind.wrap .i64 (s0.2+1)))))))else(some (.inr (.inl s0.1))))) big (x3,1)) (a0j fun(s2:Int)=>(some s2))))
theorem d0O {x0:List Int} {x1 x2 x3 r:Int} (h:b0R x0 x1 x2 x3=some r):SQ 110 [lB x0,iL x1,iL x2,iL x3] [] (iL r) []:=by
 refine kFn (fn:=Tryz.f110) (fun F H D W=> ?_)
 unfold b0R at h
 exact kq (kS (kq (kBT 16 h (fun h0=>kq (kX (PJ.passRet (by cases h0;exact kZ H D W)))) (fun h1=>kKN (kcX h1 (fun(s2:Int)=>([(3,iL s2),(8,iL 0)],[])) (fun y0 hy0 h2=>kq (kb 0 (kl (fun(s0:Int×Int)=>([(0,lB x0),(1,iL x1),(2,iL x2),(3,iL s0.1),(8,iL 0),(9,iL s0.2)],[])) hy0 [0,1,2,3,8,9] (fun s0 x504 hs0=>kS (kq (kBT 19 hs0 (fun h4=>kKN (kcX h4 (fun(s4:Unit)=>([(0,lB x0),(1,iL x1),(2,iL x2),(3,iL ((IntKind.wrap .i64 (((IntKind.wrap .i64 ((IntKind.wrap .i64 (s0.1*64))+((IntKind.wrap .i64 ((nth x0 (IntKind.wrap .i64 (x1+s0.2)))))))))-128)))),(8,iL 0),(9,iL s0.2)],[])) (fun y1 hy1 h6=>kb 1 (kn 4 (kIb 26 (a0x .u8) hy1 (fun h8=>kr 3 (kcX h8 (fun(s3:Unit)=>([(0,lB x0),(1,iL x1),(2,iL x2),(3,iL s0.1),(8,iL 0),(9,iL s0.2),(10,iL ((IntKind.wrap .i64 ((nth x0 (IntKind.wrap .i64 (x1+s0.2)))))))],[])) (fun y2 hy2 h9=>kcN hy2 (fun(s1:Bool)=>([(0,lB x0),(1,iL x1),(2,iL x2),(3,iL s0.1),(8,iL 0),(9,iL s0.2),(10,iL ((IntKind.wrap .i64 ((nth x0 (IntKind.wrap .i64 (x1+s0.2))))))),(34, .bool s1)],[])) (fun s1 hy3=>km 3 (kB 31 hy3 (fun h12=>ke 3 (kNo h12 [0,1,2,3,8,9,10,34])) (fun h13=>ke 3 (kNo h13 [0,1,2,3,8,9,10,34])))) (fun s1 h11=>kBT 34 h11 (fun h14=>kq (kX (kCx h14 h9 (fun h16=>PJ.blockRet (kCx h16 h6 (fun h17=>kLx h17 (fun h18=>PJ.blockRet (kCx h18 h2 (fun h19=>by obtain rfl:=oi h19;exact kZ H D W))))))))) (fun h15=>kK (kXo h15 [0,1,2,3,8,9,10])))) (fun s3 h10=>kM (PJ.blockNormal (kXo h10 [0,1,2,3,8,9])))))))) (fun s4 h7=>kM (kLo h7 [0,1,2,3,8,9])))) (fun h5=>kEp 0 (kLx h5 (fun h20=>PJ.blockOut (kXo h20 [3,8])))))))))) (fun s2 h3=>kq (kX (by cases h3;exact kZ H D W))))))))
end Go.Proofs.YtcapcgbamehojaaGreatDoor
