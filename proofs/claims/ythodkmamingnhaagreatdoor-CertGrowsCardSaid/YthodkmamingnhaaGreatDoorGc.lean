import Derived.Test.YthodkmamingnhaaGreatDoorProg
import Derived.Test.YthodkmamingnhaaGreatDoorGb
set_option linter.all false
namespace Go.Proofs.YthodkmamingnhaaGreatDoor
open Go Go.Sy Go.RowKit
set_option maxRecDepth 100000
set_option maxHeartbeats 4000000
def b0Q(x0:Int)(x1:List Int)(x2 x3 x4 x5 x6 x7:Int)(x8:List a0c)(x9:Bool)(x10 x11 x12 x13 x14 x15 x16 x17 x18:Int)(x19:Bool)(x20 x21:Int):Option ((Int×Int×Int)⊕(Int×Int)):=
 (Option.bind (Option.bind (bif(decide (¬x21=0))then(some (true,x2))else(Option.bind (a0u 42 x1 x2 x3 x4 x5 x6 x7) λy0=>(some ((!y0.1),y0.2)))) fun(s1:Bool×Int)=>(bif s1.1 then(some (.inr (.inl (s1.2,x20,x21))))else(some (.inl s1.2)))) (a0m fun(s0:Int)=>(Option.bind (bif(decide (s0=(x1.length:Int)))then(Option.bind (a0G s0 x1 s0 x3 x4 x5 x6 x7) λy1=>(some (.inr (.inr (s0,s0)))))else(some (.inl ()))) (a0m fun(s2:Unit)=>(bif inR s0 x1.length then(some (.inl ((IntKind.wrap .i64 (s0+1)),(nth x1 s0),x0)))else none)))))
theorem f0F {x0:Int} {x1:List Int} {x2 x3 x4 x5 x6 x7:Int} {x8:List a0c} {x9:Bool} {x10 x11 x12 x13 x14 x15 x16 x17 x18:Int} {x19:Bool} {x20 x21:Int} {r:(Int×Int×Int)⊕(Int×Int)} (h:b0Q x0 x1 x2 x3 x4 x5 x6 x7 x8 x9 x10 x11 x12 x13 x14 x15 x16 x17 x18 x19 x20 x21=some r):(∀a,r= .inl a->SQ 347 [.ptr 0 0, .ptr 2 0,iL x0] [.box [lR x1, .mp 1,iL x2,iL x3],mQ x4 x5 x6 x7, .box [lsv a0a 2 x8, .nl, .nl, .nl, .bool x9,iL x10,iL x11,iL x12,iL x13,iL x14,iL x15,iL x16,iL x17,iL x18, .bool x19,iM x20,iL x21]] (.tup []) [.box [lR x1, .mp 1,iL a.1,iL x3],mQ x4 x5 x6 x7, .box [lsv a0a 2 x8, .nl, .nl, .nl, .bool x9,iL x10,iL x11,iL x12,iL x13,iL x14,iL x15,iL x16,iL x17,iL x18, .bool x19,iM a.2.1,iL a.2.2]])/\(∀a,r= .inr a->SP Tryz.prog 347 [.ptr 0 0, .ptr 2 0,iL x0] [.box [lR x1, .mp 1,iL x2,iL x3],mQ x4 x5 x6 x7, .box [lsv a0a 2 x8, .nl, .nl, .nl, .bool x9,iL x10,iL x11,iL x12,iL x13,iL x14,iL x15,iL x16,iL x17,iL x18, .bool x19,iM x20,iL x21]] [.box [.undef, .mp 1,iL a.1,iL a.2],mQ x4 x5 x6 x7, .box [.undef, .undef, .undef, .undef, .bool x9,iL x10,iL x11,iL x12,iL x13,iL x14,iL x15,iL x16,iL x17,iL x18, .bool x19,iM x20,iL x21]]):=by
 refine w0a (fn:=Tryz.f347) _ _ _ (λF D W V=> ?_)
 unfold b0Q at h
 refine kcX h (fun(s0:Int)=>([(0, .ptr 0 0),(1, .ptr 2 0),(2,iL x0)],[.box [lR x1, .mp 1,iL s0,iL x3],mQ x4 x5 x6 x7, .box [lsv a0a 2 x8, .nl, .nl, .nl, .bool x9,iL x10,iL x11,iL x12,iL x13,iL x14,iL x15,iL x16,iL x17,iL x18, .bool x19,iM x20,iL x21]])) (λy2 hy0 h0=> ?_) (λs0 h1=> ?_)
 refine kcN hy0 (fun(s1:Bool×Int)=>([(0, .ptr 0 0),(1, .ptr 2 0),(2,iL x0),(15, .bool s1.1)],[.box [lR x1, .mp 1,iL s1.2,iL x3],mQ x4 x5 x6 x7, .box [lsv a0a 2 x8, .nl, .nl, .nl, .bool x9,iL x10,iL x11,iL x12,iL x13,iL x14,iL x15,iL x16,iL x17,iL x18, .bool x19,iM x20,iL x21]])) (λs1 hy1=> ?_) (λs1 h2=> ?_)
 refine km 6 (kB 11 hy1 (λh3=> ?_) (λh4=> ?_))
 exact ke 4 (kNo h3 [0,1,2,15])
 refine kc 1 ?_
 obtain⟨y0,hy2,h5⟩:=a0l h4
 exact kCg (some 13) [0,1] (a0z hy2) (ke 2 (kNo h5 [0,1,2,15]))
 exact kBT 15 h2 (λh6=>kX (kCx h6 h0 (λh8=>by obtain rfl:=oi h8;exact kRV [0,1,2] (.inr rfl) D W V))) (λh7=>kK (kXo h7 [0,1,2]))
 refine kcX h1 (fun(s2:Unit)=>([(0, .ptr 0 0),(1, .ptr 2 0),(2,iL x0)],[.box [lR x1, .mp 1,iL s0,iL x3],mQ x4 x5 x6 x7, .box [lsv a0a 2 x8, .nl, .nl, .nl, .bool x9,iL x10,iL x11,iL x12,iL x13,iL x14,iL x15,iL x16,iL x17,iL x18, .bool x19,iM x20,iL x21]])) (λy3 hy3 h9=> ?_) (λs2 h10=> ?_)
 refine kS (kDr (kD 10 (kEN (kBT 25 hy3 (λh11=> ?_) (λh12=> ?_)))))
 refine km 5 ?_
 obtain⟨y1,hy4,h13⟩:=a0l h11
 refine kCP (some 31) [0,1] (a0D hy4) ?_
 obtain rfl:=oi h13
 have h14:=b0S h9
 exact PP.cutXr (by obtain rfl:=oi h14;exact PP.wk (Wk.undefs 2 [true,true,true,true,false,false,false,false,false,false,false,false,false,false,false,false,false] (cs:=[lsv a0a 2 x8, .nl, .nl, .nl, .bool x9,iL x10,iL x11,iL x12,iL x13,iL x14,iL x15,iL x16,iL x17,iL x18, .bool x19,iM x20,iL x21]) (by kernel_rfl)) (kPV [0,1,2] W V))
 exact kK (kXo h12 [0,1,2])
 refine kS (kDr (kD 10 ?_))
 obtain⟨hm,h15⟩:=b0k h10
 exact kJ 42 (tr2:=[([],[]),([],[]),([],[]),([],[]),([],[]),([0,1],[]),([],[]),([],[]),([],[]),([0,1],[]),([],[])]) (a0r .i32) hm (kD 8 (kEN (kM (by obtain rfl:=oi h15;exact kRV [0,1,2] (.inl rfl) D W V))))
theorem f0H {x0:Int} {x1:List Int} {x2 x3 x4 x5 x6 x7:Int} {x8:List a0c} {x9:Bool} {x10 x11 x12 x13 x14 x15 x16 x17 x18:Int} {x19:Bool} {x20 x21:Int} {r:Int×Int×Int} (h:b0Q x0 x1 x2 x3 x4 x5 x6 x7 x8 x9 x10 x11 x12 x13 x14 x15 x16 x17 x18 x19 x20 x21=some (.inl r)):SQ 347 [.ptr 0 0, .ptr 2 0,iL x0] [.box [lR x1, .mp 1,iL x2,iL x3],mQ x4 x5 x6 x7, .box [lsv a0a 2 x8, .nl, .nl, .nl, .bool x9,iL x10,iL x11,iL x12,iL x13,iL x14,iL x15,iL x16,iL x17,iL x18, .bool x19,iM x20,iL x21]] (.tup []) [.box [lR x1, .mp 1,iL r.1,iL x3],mQ x4 x5 x6 x7, .box [lsv a0a 2 x8, .nl, .nl, .nl, .bool x9,iL x10,iL x11,iL x12,iL x13,iL x14,iL x15,iL x16,iL x17,iL x18, .bool x19,iM r.2.1,iL r.2.2]]:=(f0F h).1 _ rfl
theorem f0G {x0:Int} {x1:List Int} {x2 x3 x4 x5 x6 x7:Int} {x8:List a0c} {x9:Bool} {x10 x11 x12 x13 x14 x15 x16 x17 x18:Int} {x19:Bool} {x20 x21:Int} {r:Int×Int} (h:b0Q x0 x1 x2 x3 x4 x5 x6 x7 x8 x9 x10 x11 x12 x13 x14 x15 x16 x17 x18 x19 x20 x21=some (.inr r)):SP Tryz.prog 347 [.ptr 0 0, .ptr 2 0,iL x0] [.box [lR x1, .mp 1,iL x2,iL x3],mQ x4 x5 x6 x7, .box [lsv a0a 2 x8, .nl, .nl, .nl, .bool x9,iL x10,iL x11,iL x12,iL x13,iL x14,iL x15,iL x16,iL x17,iL x18, .bool x19,iM x20,iL x21]] [.box [.undef, .mp 1,iL r.1,iL r.2],mQ x4 x5 x6 x7, .box [.undef, .undef, .undef, .undef, .bool x9,iL x10,iL x11,iL x12,iL x13,iL x14,iL x15,iL x16,iL x17,iL x18, .bool x19,iM x20,iL x21]]:=(f0F h).2 _ rfl
def a0V(x0:Int)(x1:List Int)(x2 x3 x4 x5 x6 x7:Int):Option (Int×Int):=
 (Option.bind (a0x (fun(s0:Int×Int)=>(Option.bind (a0u x0 x1 s0.2 x3 x4 x5 x6 x7) λy0=>(bif y0.1 then(some (.inl ((IntKind.wrap .i64 (s0.1+1)),y0.2)))else(some (.inr (s0.1,y0.2)))))) big (0,x2)) fun(s1:Int×Int)=>(some (s1.1,s1.2)))
theorem c0e {x0:Int} {x1:List Int} {x2 x3 x4 x5 x6 x7:Int} {r:Int×Int} (h:a0V x0 x1 x2 x3 x4 x5 x6 x7=some r):SQ 384 [.ptr 0 0,iM x0] [.box [lR x1, .mp 1,iL x2,iL x3],mQ x4 x5 x6 x7] (iL r.1) [.box [lR x1, .mp 1,iL r.2,iL x3],mQ x4 x5 x6 x7]:=by
 refine kFn (fn:=Tryz.f384) (λF D W V=> ?_)
 unfold a0V at h
 refine kq (kq (kcN h (fun(s1:Int×Int)=>([(4,iL 0),(5,iL s1.1)],[.box [lR x1, .mp 1,iL s1.2,iL x3],mQ x4 x5 x6 x7])) (λs1 hy0=> ?_) (λs1 h0=> ?_)))
 refine kb 0 (kl (fun(s0:Int×Int)=>([(0, .ptr 0 0),(1,iM x0),(4,iL 0),(5,iL s0.1)],[.box [lR x1, .mp 1,iL s0.2,iL x3],mQ x4 x5 x6 x7])) hy0 [0,1,4,5] (λs0 x51 hs0=>kS (kn 2 ?_)))
 obtain⟨y0,hy1,h1⟩:=a0l hs0
 exact kCg (some 8) [0,1] (a0z hy1) (kEN (kBT 8 h1 (λh2=>kKN (kb 1 (kM (PJ.blockNormal (kLo h2 [0,1,4,5]))))) (λh3=>kEp 0 (kLx h3 (λh4=>PJ.blockOut (kNo h4 [4,5]))))))
 exact kq (kX (by obtain rfl:=oi h0;exact kRV [0,1] (.inr rfl) D W V))
def b0Z(x0:Int)(x1:List Int)(x2 x3 x4 x5 x6 x7:Int)(x8:List a0c)(x9:Bool)(x10 x11 x12 x13 x14 x15 x16 x17 x18:Int)(x19:Bool)(x20 x21:Int):Option (Bool):=
 (Option.bind (Option.bind (a0Q 48 x0 x1 x2 x3 x4 x5 x6 x7) λy0=>(bif y0 then(some true)else(bif(decide (x11=0))then(Option.bind (a0Q 35 x0 x1 x2 x3 x4 x5 x6 x7) λy1=>(some y1))else(some false)))) fun(s0:Bool)=>(some s0))
theorem f0g {x0:Int} {x1:List Int} {x2 x3 x4 x5 x6 x7:Int} {x8:List a0c} {x9:Bool} {x10 x11 x12 x13 x14 x15 x16 x17 x18:Int} {x19:Bool} {x20 x21:Int} {r:Bool} (h:b0Z x0 x1 x2 x3 x4 x5 x6 x7 x8 x9 x10 x11 x12 x13 x14 x15 x16 x17 x18 x19 x20 x21=some r):SQ 407 [.ptr 0 0, .ptr 2 0,iL x0] [.box [lR x1, .mp 1,iL x2,iL x3],mQ x4 x5 x6 x7, .box [lsv a0a 2 x8, .nl, .nl, .nl, .bool x9,iL x10,iL x11,iL x12,iL x13,iL x14,iL x15,iL x16,iL x17,iL x18, .bool x19,iM x20,iL x21]] (.bool r) [.box [lR x1, .mp 1,iL x2,iL x3],mQ x4 x5 x6 x7, .box [lsv a0a 2 x8, .nl, .nl, .nl, .bool x9,iL x10,iL x11,iL x12,iL x13,iL x14,iL x15,iL x16,iL x17,iL x18, .bool x19,iM x20,iL x21]]:=by
 refine kFn (fn:=Tryz.f407) (λF D W V=> ?_)
 unfold b0Z at h
 refine kq (kcN h (fun(s0:Bool)=>([(6, .bool s0)],[.box [lR x1, .mp 1,iL x2,iL x3],mQ x4 x5 x6 x7, .box [lsv a0a 2 x8, .nl, .nl, .nl, .bool x9,iL x10,iL x11,iL x12,iL x13,iL x14,iL x15,iL x16,iL x17,iL x18, .bool x19,iM x20,iL x21]])) (λs0 hy0=> ?_) (λs0 h0=> ?_))
 refine km 2 ?_
 obtain⟨y0,hy1,h1⟩:=a0l hy0
 refine kCg (some 9) [0,1] (b0w hy1) (kc 1 (kB 10 h1 (λh2=> ?_) (λh3=> ?_)))
 exact ke 12 (kNo h2 [6])
 refine kc 6 (kB 16 h3 (λh4=> ?_) (λh5=> ?_))
 refine kc 2 ?_
 obtain⟨y1,hy2,h6⟩:=a0l h4
 exact kCg (some 19) [0,1] (b0w hy2) (ke 3 (kNo h6 [6]))
 exact ke 6 (kNo h5 [6])
 exact kX (by obtain rfl:=oi h0;exact kRV [0,1,2] (.inr rfl) D W V)
def c0a(x0:Int)(x1:List Int)(x2 x3 x4 x5 x6 x7:Int)(x8:List a0c)(x9:Bool)(x10 x11 x12 x13 x14 x15 x16 x17 x18:Int)(x19:Bool)(x20 x21:Int):Option (Bool):=
 (Option.bind (bif(decide (x0>0))then(Option.bind (a0Q 44 0 x1 x2 x3 x4 x5 x6 x7) λy0=>(bif y0 then(Option.bind (b0Z 1 x1 x2 x3 x4 x5 x6 x7 x8 x9 x10 x11 x12 x13 x14 x15 x16 x17 x18 x19 x20 x21) λy1=>(some y1))else(some false)))else(some false)) fun(s0:Bool)=>(some s0))
theorem f0h {x0:Int} {x1:List Int} {x2 x3 x4 x5 x6 x7:Int} {x8:List a0c} {x9:Bool} {x10 x11 x12 x13 x14 x15 x16 x17 x18:Int} {x19:Bool} {x20 x21:Int} {r:Bool} (h:c0a x0 x1 x2 x3 x4 x5 x6 x7 x8 x9 x10 x11 x12 x13 x14 x15 x16 x17 x18 x19 x20 x21=some r):SQ 408 [.ptr 0 0, .ptr 2 0,iL x0] [.box [lR x1, .mp 1,iL x2,iL x3],mQ x4 x5 x6 x7, .box [lsv a0a 2 x8, .nl, .nl, .nl, .bool x9,iL x10,iL x11,iL x12,iL x13,iL x14,iL x15,iL x16,iL x17,iL x18, .bool x19,iM x20,iL x21]] (.bool r) [.box [lR x1, .mp 1,iL x2,iL x3],mQ x4 x5 x6 x7, .box [lsv a0a 2 x8, .nl, .nl, .nl, .bool x9,iL x10,iL x11,iL x12,iL x13,iL x14,iL x15,iL x16,iL x17,iL x18, .bool x19,iM x20,iL x21]]:=by
 refine kFn (fn:=Tryz.f408) (λF D W V=> ?_)
 unfold c0a at h
 refine kq (kcN h (fun(s0:Bool)=>([(6, .bool s0)],[.box [lR x1, .mp 1,iL x2,iL x3],mQ x4 x5 x6 x7, .box [lsv a0a 2 x8, .nl, .nl, .nl, .bool x9,iL x10,iL x11,iL x12,iL x13,iL x14,iL x15,iL x16,iL x17,iL x18, .bool x19,iM x20,iL x21]])) (λs0 hy0=> ?_) (λs0 h0=> ?_))
 refine km 3 (kB 9 hy0 (λh1=> ?_) (λh2=> ?_))
 refine kc 1 ?_
 obtain⟨y0,hy1,h3⟩:=a0l h1
 refine kCg (some 11) [0,1] (b0w hy1) (kc 2 (kB 13 h3 (λh4=> ?_) (λh5=> ?_)))
 refine kc 2 ?_
 obtain⟨y1,hy2,h6⟩:=a0l h4
 exact kCg (some 16) [0,1,2] (f0g hy2) (ke 2 (kNo h6 [6]))
 exact ke 5 (kNo h5 [6])
 exact ke 9 (kNo h2 [6])
 exact kX (by obtain rfl:=oi h0;exact kRV [0,1,2] (.inr rfl) D W V)
def b0c(x0 x1:Int)(x2:List Int)(x3 x4 x5 x6 x7 x8:Int)(x9:List a0c)(x10:Bool)(x11 x12 x13 x14 x15 x16 x17 x18 x19:Int)(x20:Bool)(x21 x22:Int):Option (Int⊕Unit):=
 (Option.bind (Option.bind (bif(decide (x0=0))then(some true)else(Option.bind (c0a x1 x2 x3 x4 x5 x6 x7 x8 x9 x10 x11 x12 x13 x14 x15 x16 x17 x18 x19 x20 x21 x22) λy0=>(some (!y0)))) fun(s0:Bool)=>(bif s0 then(some (.inr (.inl x16)))else(some (.inl ())))) (a0m fun(s2:Unit)=>(Option.bind (Option.bind (bif(decide (x0>1))then(some (decide (¬x1=x16)))else(some false)) fun(s1:Bool)=>(bif s1 then(Option.bind (a0G x3 x2 x3 x4 x5 x6 x7 x8) λy1=>(some (.inr (.inr ()))))else(some (.inl ())))) (a0m fun(s3:Unit)=>(some (.inl x1))))))
theorem e0r {x0 x1:Int} {x2:List Int} {x3 x4 x5 x6 x7 x8:Int} {x9:List a0c} {x10:Bool} {x11 x12 x13 x14 x15 x16 x17 x18 x19:Int} {x20:Bool} {x21 x22:Int} {r:Int⊕Unit} (h:b0c x0 x1 x2 x3 x4 x5 x6 x7 x8 x9 x10 x11 x12 x13 x14 x15 x16 x17 x18 x19 x20 x21 x22=some r):(∀a,r= .inl a->SQ 409 [.ptr 0 0, .ptr 2 0,iL x0,iL x1] [.box [lR x2, .mp 1,iL x3,iL x4],mQ x5 x6 x7 x8, .box [lsv a0a 2 x9, .nl, .nl, .nl, .bool x10,iL x11,iL x12,iL x13,iL x14,iL x15,iL x16,iL x17,iL x18,iL x19, .bool x20,iM x21,iL x22]] (.tup []) [.box [lR x2, .mp 1,iL x3,iL x4],mQ x5 x6 x7 x8, .box [lsv a0a 2 x9, .nl, .nl, .nl, .bool x10,iL x11,iL x12,iL x13,iL x14,iL x15,iL a,iL x17,iL x18,iL x19, .bool x20,iM x21,iL x22]])/\(∀a,r= .inr a->SP Tryz.prog 409 [.ptr 0 0, .ptr 2 0,iL x0,iL x1] [.box [lR x2, .mp 1,iL x3,iL x4],mQ x5 x6 x7 x8, .box [lsv a0a 2 x9, .nl, .nl, .nl, .bool x10,iL x11,iL x12,iL x13,iL x14,iL x15,iL x16,iL x17,iL x18,iL x19, .bool x20,iM x21,iL x22]] [.box [.undef, .mp 1,iL x3,iL x3],mQ x5 x6 x7 x8, .box [.undef, .undef, .undef, .undef, .bool x10,iL x11,iL x12,iL x13,iL x14,iL x15,iL x16,iL x17,iL x18,iL x19, .bool x20,iM x21,iL x22]]):=by
 refine w0a (fn:=Tryz.f409) _ _ _ (λF D W V=> ?_)
 unfold b0c at h
 refine kcX h (fun(s2:Unit)=>([(0, .ptr 0 0),(1, .ptr 2 0),(2,iL x0),(3,iL x1)],[.box [lR x2, .mp 1,iL x3,iL x4],mQ x5 x6 x7 x8, .box [lsv a0a 2 x9, .nl, .nl, .nl, .bool x10,iL x11,iL x12,iL x13,iL x14,iL x15,iL x16,iL x17,iL x18,iL x19, .bool x20,iM x21,iL x22]])) (λy2 hy0 h0=> ?_) (λs2 h1=> ?_)
 refine kcN hy0 (fun(s0:Bool)=>([(0, .ptr 0 0),(1, .ptr 2 0),(2,iL x0),(3,iL x1),(16, .bool s0)],[.box [lR x2, .mp 1,iL x3,iL x4],mQ x5 x6 x7 x8, .box [lsv a0a 2 x9, .nl, .nl, .nl, .bool x10,iL x11,iL x12,iL x13,iL x14,iL x15,iL x16,iL x17,iL x18,iL x19, .bool x20,iM x21,iL x22]])) (λs0 hy1=> ?_) (λs0 h2=> ?_)
 refine km 3 (kB 10 hy1 (λh3=> ?_) (λh4=> ?_))
 exact ke 6 (kNo h3 [0,1,2,3,16])
 refine kc 3 ?_
 obtain⟨y0,hy2,h5⟩:=a0l h4
 exact kCg (some 14) [0,1,2] (f0h hy2) (ke 2 (kNo h5 [0,1,2,3,16]))
 exact kBT 16 h2 (λh6=>kX (kCx h6 h0 (λh8=>by obtain rfl:=oi h8;exact kRV [0,1,2] (.inr rfl) D W V))) (λh7=>kK (kXo h7 [0,1,2,3]))
 refine kcX h1 (fun(s3:Unit)=>([(1, .ptr 2 0),(3,iL x1)],[.box [lR x2, .mp 1,iL x3,iL x4],mQ x5 x6 x7 x8, .box [lsv a0a 2 x9, .nl, .nl, .nl, .bool x10,iL x11,iL x12,iL x13,iL x14,iL x15,iL x16,iL x17,iL x18,iL x19, .bool x20,iM x21,iL x22]])) (λy3 hy3 h9=> ?_) (λs3 h10=> ?_)
 refine kcN hy3 (fun(s1:Bool)=>([(0, .ptr 0 0),(1, .ptr 2 0),(3,iL x1),(26, .bool s1)],[.box [lR x2, .mp 1,iL x3,iL x4],mQ x5 x6 x7 x8, .box [lsv a0a 2 x9, .nl, .nl, .nl, .bool x10,iL x11,iL x12,iL x13,iL x14,iL x15,iL x16,iL x17,iL x18,iL x19, .bool x20,iM x21,iL x22]])) (λs1 hy4=> ?_) (λs1 h11=> ?_)
 exact km 3 (kB 19 hy4 (λh12=>ke 7 (kNo h12 [0,1,3,26])) (λh13=>ke 7 (kNo h13 [0,1,3,26])))
 refine kBT 26 h11 (λh14=> ?_) (λh15=> ?_)
 refine km 5 ?_
 obtain⟨y1,hy5,h16⟩:=a0l h14
 refine kCP (some 32) [0,1] (a0D hy5) ?_
 obtain rfl:=oi h16
 have h17:=b0S h9
 exact PP.cutXr (by obtain rfl:=oi h17;exact PP.wk (Wk.undefs 2 [true,true,true,true,false,false,false,false,false,false,false,false,false,false,false,false,false] (cs:=[lsv a0a 2 x9, .nl, .nl, .nl, .bool x10,iL x11,iL x12,iL x13,iL x14,iL x15,iL x16,iL x17,iL x18,iL x19, .bool x20,iM x21,iL x22]) (by kernel_rfl)) (kPV [0,1,2] W V))
 exact kK (kXo h15 [1,3])
 exact kM (by obtain rfl:=oi h10;exact kRV [0,1,2] (.inl rfl) D W V)
theorem h0k {x0 x1:Int} {x2:List Int} {x3 x4 x5 x6 x7 x8:Int} {x9:List a0c} {x10:Bool} {x11 x12 x13 x14 x15 x16 x17 x18 x19:Int} {x20:Bool} {x21 x22 r:Int} (h:b0c x0 x1 x2 x3 x4 x5 x6 x7 x8 x9 x10 x11 x12 x13 x14 x15 x16 x17 x18 x19 x20 x21 x22=some (.inl r)):SQ 409 [.ptr 0 0, .ptr 2 0,iL x0,iL x1] [.box [lR x2, .mp 1,iL x3,iL x4],mQ x5 x6 x7 x8, .box [lsv a0a 2 x9, .nl, .nl, .nl, .bool x10,iL x11,iL x12,iL x13,iL x14,iL x15,iL x16,iL x17,iL x18,iL x19, .bool x20,iM x21,iL x22]] (.tup []) [.box [lR x2, .mp 1,iL x3,iL x4],mQ x5 x6 x7 x8, .box [lsv a0a 2 x9, .nl, .nl, .nl, .bool x10,iL x11,iL x12,iL x13,iL x14,iL x15,iL r,iL x17,iL x18,iL x19, .bool x20,iM x21,iL x22]]:=(e0r h).1 _ rfl
theorem h0j {x0 x1:Int} {x2:List Int} {x3 x4 x5 x6 x7 x8:Int} {x9:List a0c} {x10:Bool} {x11 x12 x13 x14 x15 x16 x17 x18 x19:Int} {x20:Bool} {x21 x22:Int} {r:Unit} (h:b0c x0 x1 x2 x3 x4 x5 x6 x7 x8 x9 x10 x11 x12 x13 x14 x15 x16 x17 x18 x19 x20 x21 x22=some (.inr r)):SP Tryz.prog 409 [.ptr 0 0, .ptr 2 0,iL x0,iL x1] [.box [lR x2, .mp 1,iL x3,iL x4],mQ x5 x6 x7 x8, .box [lsv a0a 2 x9, .nl, .nl, .nl, .bool x10,iL x11,iL x12,iL x13,iL x14,iL x15,iL x16,iL x17,iL x18,iL x19, .bool x20,iM x21,iL x22]] [.box [.undef, .mp 1,iL x3,iL x3],mQ x5 x6 x7 x8, .box [.undef, .undef, .undef, .undef, .bool x10,iL x11,iL x12,iL x13,iL x14,iL x15,iL x16,iL x17,iL x18,iL x19, .bool x20,iM x21,iL x22]]:=(e0r h).2 _ rfl
def b0m(x0:List Int)(x1 x2 x3 x4 x5 x6:Int)(x7:List a0c)(x8:Bool)(x9 x10 x11 x12 x13 x14 x15 x16 x17:Int)(x18:Bool)(x19 x20:Int):Option ((Int×Int×Int×Int×Int)⊕(Int×Int×Int×Int×Int)):=
 (Option.bind (a0x (fun(s0:Int×Int×Int×Int×Int×Int)=>(Option.bind (Option.bind (Option.bind (b0Z 0 x0 s0.2.2.1 x2 x3 x4 x5 x6 x7 x8 s0.2.2.2.1 s0.2.2.2.2.1 x11 x12 x13 s0.2.2.2.2.2 x15 x16 x17 x18 x19 x20) λy3=>(bif y3 then(some true)else(Option.bind (c0a s0.2.1 x0 s0.2.2.1 x2 x3 x4 x5 x6 x7 x8 s0.2.2.2.1 s0.2.2.2.2.1 x11 x12 x13 s0.2.2.2.2.2 x15 x16 x17 x18 x19 x20) λy4=>(some y4)))) fun(s3:Bool)=>(bif s3 then(some (.inl ()))else(some (.inr (.inr (.inl (s0.1,s0.2.1,s0.2.2.1,s0.2.2.2.1,s0.2.2.2.2.1,s0.2.2.2.2.2))))))) (a0m fun(s4:Unit)=>(Option.bind (a0u 44 x0 s0.2.2.1 x2 x3 x4 x5 x6) λy0=>(bif y0.1 then(some (.inl ((IntKind.wrap .i64 (s0.1+1)),0,y0.2,s0.2.2.2.1,s0.2.2.2.2.1,s0.2.2.2.2.2)))else(Option.bind (Option.bind (a0u 48 x0 y0.2 x2 x3 x4 x5 x6) λy1=>(bif y1.1 then(some (y1.2,s0.2.2.2.1,(IntKind.wrap .i64 (s0.2.2.2.2.1+1))))else(some ((IntKind.wrap .i64 (y1.2+1)),(IntKind.wrap .i64 (s0.2.2.2.1+1)),s0.2.2.2.2.1)))) fun(s2:Int×Int×Int)=>(Option.bind (b0c s0.1 (IntKind.wrap .i64 (s0.2.1+1)) x0 s2.1 x2 x3 x4 x5 x6 x7 x8 s2.2.1 s2.2.2 x11 x12 x13 s0.2.2.2.2.2 x15 x16 x17 x18 x19 x20) λy2=>(Sum.elim (λy5=>(some (.inl (s0.1,(IntKind.wrap .i64 (s0.2.1+1)),s2.1,s2.2.1,s2.2.2,y5)))) (λy6=>(some (.inr (.inr (.inr (s2.1,s2.1,s2.2.1,s2.2.2,s0.2.2.2.2.2)))))) y2)))))))) big (0,0,x1,x9,x10,x14)) (a0m fun(s1:Int×Int×Int×Int×Int×Int)=>(Option.bind (bif(decide ((IntKind.wrap .i64 (s1.2.2.2.1+s1.2.2.2.2.1))=0))then(Option.bind (a0G s1.2.2.1 x0 s1.2.2.1 x2 x3 x4 x5 x6) λy7=>(some (.inr (.inr (s1.2.2.1,s1.2.2.1,s1.2.2.2.1,s1.2.2.2.2.1,s1.2.2.2.2.2)))))else(some (.inl ()))) (a0m fun(s5:Unit)=>(bif(decide (s1.1=0))then(some (.inl (s1.2.2.1,s1.2.2.2.1,s1.2.2.2.2.1,x13,s1.2.2.2.2.2)))else(bif(decide (s1.1=1))then(some (.inl (s1.2.2.1,s1.2.2.2.1,s1.2.2.2.2.1,s1.2.1,s1.2.1)))else(some (.inl (s1.2.2.1,s1.2.2.2.1,s1.2.2.2.2.1,s1.2.1,s1.2.2.2.2.2)))))))))
theorem e0x {x0:List Int} {x1 x2 x3 x4 x5 x6:Int} {x7:List a0c} {x8:Bool} {x9 x10 x11 x12 x13 x14 x15 x16 x17:Int} {x18:Bool} {x19 x20:Int} {r:(Int×Int×Int×Int×Int)⊕(Int×Int×Int×Int×Int)} (h:b0m x0 x1 x2 x3 x4 x5 x6 x7 x8 x9 x10 x11 x12 x13 x14 x15 x16 x17 x18 x19 x20=some r):(∀a,r= .inl a->SQ 385 [.ptr 0 0, .ptr 2 0] [.box [lR x0, .mp 1,iL x1,iL x2],mQ x3 x4 x5 x6, .box [lsv a0a 2 x7, .nl, .nl, .nl, .bool x8,iL x9,iL x10,iL x11,iL x12,iL x13,iL x14,iL x15,iL x16,iL x17, .bool x18,iM x19,iL x20]] (.tup []) [.box [lR x0, .mp 1,iL a.1,iL x2],mQ x3 x4 x5 x6, .box [lsv a0a 2 x7, .nl, .nl, .nl, .bool x8,iL a.2.1,iL a.2.2.1,iL x11,iL x12,iL a.2.2.2.1,iL a.2.2.2.2,iL x15,iL x16,iL x17, .bool x18,iM x19,iL x20]])/\(∀a,r= .inr a->SP Tryz.prog 385 [.ptr 0 0, .ptr 2 0] [.box [lR x0, .mp 1,iL x1,iL x2],mQ x3 x4 x5 x6, .box [lsv a0a 2 x7, .nl, .nl, .nl, .bool x8,iL x9,iL x10,iL x11,iL x12,iL x13,iL x14,iL x15,iL x16,iL x17, .bool x18,iM x19,iL x20]] [.box [.undef, .mp 1,iL a.1,iL a.2.1],mQ x3 x4 x5 x6, .box [.undef, .undef, .undef, .undef, .bool x8,iL a.2.2.1,iL a.2.2.2.1,iL x11,iL x12,iL x13,iL a.2.2.2.2,iL x15,iL x16,iL x17, .bool x18,iM x19,iL x20]]):=by
 refine w0a (fn:=Tryz.f385) _ _ _ (λF D W V=> ?_)
 unfold b0m at h
 refine kq (kcX h (fun(s1:Int×Int×Int×Int×Int×Int)=>([(0, .ptr 0 0),(1, .ptr 2 0),(4,iL s1.1),(5,iL s1.2.1)],[.box [lR x0, .mp 1,iL s1.2.2.1,iL x2],mQ x3 x4 x5 x6, .box [lsv a0a 2 x7, .nl, .nl, .nl, .bool x8,iL s1.2.2.2.1,iL s1.2.2.2.2.1,iL x11,iL x12,iL x13,iL s1.2.2.2.2.2,iL x15,iL x16,iL x17, .bool x18,iM x19,iL x20]])) (λy8 hy1 h1=> ?_) (λs1 h2=> ?_))
 refine kb 0 (kl (fun(s0:Int×Int×Int×Int×Int×Int)=>([(0, .ptr 0 0),(1, .ptr 2 0),(4,iL s0.1),(5,iL s0.2.1)],[.box [lR x0, .mp 1,iL s0.2.2.1,iL x2],mQ x3 x4 x5 x6, .box [lsv a0a 2 x7, .nl, .nl, .nl, .bool x8,iL s0.2.2.2.1,iL s0.2.2.2.2.1,iL x11,iL x12,iL x13,iL s0.2.2.2.2.2,iL x15,iL x16,iL x17, .bool x18,iM x19,iL x20]])) hy1 [0,1,4,5] (λs0 x496 hs0=>kcX hs0 (fun(s4:Unit)=>([(0, .ptr 0 0),(1, .ptr 2 0),(4,iL s0.1),(5,iL s0.2.1)],[.box [lR x0, .mp 1,iL s0.2.2.1,iL x2],mQ x3 x4 x5 x6, .box [lsv a0a 2 x7, .nl, .nl, .nl, .bool x8,iL s0.2.2.2.1,iL s0.2.2.2.2.1,iL x11,iL x12,iL x13,iL s0.2.2.2.2.2,iL x15,iL x16,iL x17, .bool x18,iM x19,iL x20]])) (λy9 hy2 h3=> ?_) (λs4 h4=> ?_)))
 refine kcN hy2 (fun(s3:Bool)=>([(0, .ptr 0 0),(1, .ptr 2 0),(4,iL s0.1),(5,iL s0.2.1),(14, .bool s3)],[.box [lR x0, .mp 1,iL s0.2.2.1,iL x2],mQ x3 x4 x5 x6, .box [lsv a0a 2 x7, .nl, .nl, .nl, .bool x8,iL s0.2.2.2.1,iL s0.2.2.2.2.1,iL x11,iL x12,iL x13,iL s0.2.2.2.2.2,iL x15,iL x16,iL x17, .bool x18,iM x19,iL x20]])) (λs3 hy3=> ?_) (λs3 h5=> ?_)
 refine km 2 ?_
 obtain⟨y3,hy4,h6⟩:=a0l hy3
 refine kCg (some 8) [0,1,2] (f0g hy4) (kc 1 (kB 9 h6 (λh7=> ?_) (λh8=> ?_)))
 exact ke 5 (kNo h7 [0,1,4,5,14])
 refine kc 3 ?_
 obtain⟨y4,hy5,h9⟩:=a0l h8
 exact kCg (some 13) [0,1,2] (f0h hy5) (ke 1 (kNo h9 [0,1,4,5,14]))
 exact kBT 14 h5 (λh10=>kK (kXo h10 [0,1,4,5])) (λh11=>kEx 0 (kCx h11 h3 (λh12=>kLx h12 (λh13=>PJ.blockOut (kXo h13 [0,1,4,5])))))
 refine kb 1 (kS (kn 1 ?_))
 obtain⟨y0,hy6,h14⟩:=a0l h4
 refine kCg (some 16) [0,1] (a0z hy6) (kEN (kBT 16 h14 (λh15=> ?_) (λh16=> ?_)))
 exact kq (kq (kEp 1 (PJ.blockOut (kLo h15 [0,1,4,5]))))
 refine kKN (kcN h16 (fun(s2:Int×Int×Int)=>([(0, .ptr 0 0),(1, .ptr 2 0),(4,iL s0.1),(5,iL s0.2.1)],[.box [lR x0, .mp 1,iL s2.1,iL x2],mQ x3 x4 x5 x6, .box [lsv a0a 2 x7, .nl, .nl, .nl, .bool x8,iL s2.2.1,iL s2.2.2,iL x11,iL x12,iL x13,iL s0.2.2.2.2.2,iL x15,iL x16,iL x17, .bool x18,iM x19,iL x20]])) (λs2 hy7=> ?_) (λs2 h17=> ?_))
 refine kn 1 ?_
 obtain⟨y1,hy8,h18⟩:=a0l hy7
 exact kCg (some 20) [0,1] (a0z hy8) (kEN (kBT 20 h18 (λh19=>kM (kNo h19 [0,1,4,5])) (λh20=>kq (kM (kNo h20 [0,1,4,5])))))
 refine kq (km 4 ?_)
 obtain⟨y2,hy0,h0⟩:=a0l h17
 rcases y2 with y5|y6
 have h21:=k0T h0
 exact kCg (some 48) [0,1,2] (h0k hy0) (kE (PJ.blockNormal (kLo h21 [0,1,4,5])))
 have h22:=k0S h0
 refine kCP (some 48) [0,1,2] (h0j hy0) (PP.block ?_)
 obtain rfl:=oi h22
 refine PP.loopOut (λhe1=> ?_)
 have h23:=congrArg some he1
 refine PP.block ?_
 obtain rfl:=oi h23
 have h24:=b0S h1
 exact PP.cutXr (by obtain rfl:=oi h24;exact kPV [0,1,2] W V)
 refine kcX h2 (fun(s5:Unit)=>([(1, .ptr 2 0),(4,iL s1.1),(5,iL s1.2.1)],[.box [lR x0, .mp 1,iL s1.2.2.1,iL x2],mQ x3 x4 x5 x6, .box [lsv a0a 2 x7, .nl, .nl, .nl, .bool x8,iL s1.2.2.2.1,iL s1.2.2.2.2.1,iL x11,iL x12,iL x13,iL s1.2.2.2.2.2,iL x15,iL x16,iL x17, .bool x18,iM x19,iL x20]])) (λy10 hy9 h25=> ?_) (λs5 h26=> ?_)
 refine kS (kDr (kD 10 (kEN (kBT 58 hy9 (λh27=> ?_) (λh28=> ?_)))))
 refine km 5 ?_
 obtain⟨y7,hy10,h29⟩:=a0l h27
 refine kCP (some 64) [0,1] (a0D hy10) ?_
 obtain rfl:=oi h29
 have h30:=b0S h25
 exact PP.cutXr (by obtain rfl:=oi h30;exact PP.wk (Wk.undefs 2 [true,true,true,true,false,false,false,false,false,false,false,false,false,false,false,false,false] (cs:=[lsv a0a 2 x7, .nl, .nl, .nl, .bool x8,iL s1.2.2.2.1,iL s1.2.2.2.2.1,iL x11,iL x12,iL x13,iL s1.2.2.2.2.2,iL x15,iL x16,iL x17, .bool x18,iM x19,iL x20]) (by kernel_rfl)) (kPV [0,1,2] W V))
 exact kK (kXo h28 [1,4,5])
 exact kq (kb 2 (kq (kBT 70 h26 (λh31=>kKb (by obtain rfl:=oi h31;exact kRV [0,1,2] (.inl rfl) D W V)) (λh32=>kq (kBT 72 h32 (λh33=>kM (PJ.blockNormal (by obtain rfl:=oi h33;exact kRV [0,1,2] (.inl rfl) D W V))) (λh34=>kM (PJ.blockNormal (by obtain rfl:=oi h34;exact kRV [0,1,2] (.inl rfl) D W V))))))))
theorem h0A {x0:List Int} {x1 x2 x3 x4 x5 x6:Int} {x7:List a0c} {x8:Bool} {x9 x10 x11 x12 x13 x14 x15 x16 x17:Int} {x18:Bool} {x19 x20:Int} {r:Int×Int×Int×Int×Int} (h:b0m x0 x1 x2 x3 x4 x5 x6 x7 x8 x9 x10 x11 x12 x13 x14 x15 x16 x17 x18 x19 x20=some (.inl r)):SQ 385 [.ptr 0 0, .ptr 2 0] [.box [lR x0, .mp 1,iL x1,iL x2],mQ x3 x4 x5 x6, .box [lsv a0a 2 x7, .nl, .nl, .nl, .bool x8,iL x9,iL x10,iL x11,iL x12,iL x13,iL x14,iL x15,iL x16,iL x17, .bool x18,iM x19,iL x20]] (.tup []) [.box [lR x0, .mp 1,iL r.1,iL x2],mQ x3 x4 x5 x6, .box [lsv a0a 2 x7, .nl, .nl, .nl, .bool x8,iL r.2.1,iL r.2.2.1,iL x11,iL x12,iL r.2.2.2.1,iL r.2.2.2.2,iL x15,iL x16,iL x17, .bool x18,iM x19,iL x20]]:=(e0x h).1 _ rfl
theorem h0z {x0:List Int} {x1 x2 x3 x4 x5 x6:Int} {x7:List a0c} {x8:Bool} {x9 x10 x11 x12 x13 x14 x15 x16 x17:Int} {x18:Bool} {x19 x20:Int} {r:Int×Int×Int×Int×Int} (h:b0m x0 x1 x2 x3 x4 x5 x6 x7 x8 x9 x10 x11 x12 x13 x14 x15 x16 x17 x18 x19 x20=some (.inr r)):SP Tryz.prog 385 [.ptr 0 0, .ptr 2 0] [.box [lR x0, .mp 1,iL x1,iL x2],mQ x3 x4 x5 x6, .box [lsv a0a 2 x7, .nl, .nl, .nl, .bool x8,iL x9,iL x10,iL x11,iL x12,iL x13,iL x14,iL x15,iL x16,iL x17, .bool x18,iM x19,iL x20]] [.box [.undef, .mp 1,iL r.1,iL r.2.1],mQ x3 x4 x5 x6, .box [.undef, .undef, .undef, .undef, .bool x8,iL r.2.2.1,iL r.2.2.2.1,iL x11,iL x12,iL x13,iL r.2.2.2.2,iL x15,iL x16,iL x17, .bool x18,iM x19,iL x20]]:=(e0x h).2 _ rfl
def a0W(x0:List Int)(x1 x2 x3 x4 x5 x6:Int)(x7:List a0c)(x8:Bool)(x9 x10 x11 x12 x13 x14 x15 x16 x17:Int)(x18:Bool)(x19 x20:Int):Option ((Int×Int×Int)⊕(Int×Int×Int×Int)):=
 (Option.bind (a0u 46 x0 x1 x2 x3 x4 x5 x6) λy2=>(bif(!y2.1)then(some (.inl (y2.2,x11,x12)))else(Option.bind (a0V 48 x0 y2.2 x2 x3 x4 x5 x6) λy1=>(Option.bind (a0V 35 x0 y1.2 x2 x3 x4 x5 x6) λy0=>(bif(decide ((IntKind.wrap .i64 (y1.1+y0.1))=0))then(Option.bind (a0G y0.2 x0 y0.2 x2 x3 x4 x5 x6) λy3=>(some (.inr (y0.2,y0.2,y1.1,(IntKind.wrap .i64 (y1.1+y0.1))))))else(some (.inl (y0.2,y1.1,(IntKind.wrap .i64 (y1.1+y0.1))))))))))
theorem e0b {x0:List Int} {x1 x2 x3 x4 x5 x6:Int} {x7:List a0c} {x8:Bool} {x9 x10 x11 x12 x13 x14 x15 x16 x17:Int} {x18:Bool} {x19 x20:Int} {r:(Int×Int×Int)⊕(Int×Int×Int×Int)} (h:a0W x0 x1 x2 x3 x4 x5 x6 x7 x8 x9 x10 x11 x12 x13 x14 x15 x16 x17 x18 x19 x20=some r):(∀a,r= .inl a->SQ 386 [.ptr 0 0, .ptr 2 0] [.box [lR x0, .mp 1,iL x1,iL x2],mQ x3 x4 x5 x6, .box [lsv a0a 2 x7, .nl, .nl, .nl, .bool x8,iL x9,iL x10,iL x11,iL x12,iL x13,iL x14,iL x15,iL x16,iL x17, .bool x18,iM x19,iL x20]] (.tup []) [.box [lR x0, .mp 1,iL a.1,iL x2],mQ x3 x4 x5 x6, .box [lsv a0a 2 x7, .nl, .nl, .nl, .bool x8,iL x9,iL x10,iL a.2.1,iL a.2.2,iL x13,iL x14,iL x15,iL x16,iL x17, .bool x18,iM x19,iL x20]])/\(∀a,r= .inr a->SP Tryz.prog 386 [.ptr 0 0, .ptr 2 0] [.box [lR x0, .mp 1,iL x1,iL x2],mQ x3 x4 x5 x6, .box [lsv a0a 2 x7, .nl, .nl, .nl, .bool x8,iL x9,iL x10,iL x11,iL x12,iL x13,iL x14,iL x15,iL x16,iL x17, .bool x18,iM x19,iL x20]] [.box [.undef, .mp 1,iL a.1,iL a.2.1],mQ x3 x4 x5 x6, .box [.undef, .undef, .undef, .undef, .bool x8,iL x9,iL x10,iL a.2.2.1,iL a.2.2.2,iL x13,iL x14,iL x15,iL x16,iL x17, .bool x18,iM x19,iL x20]]):=by
 refine w0a (fn:=Tryz.f386) _ _ _ (λF D W V=> ?_)
 unfold a0W at h
 refine kS (kn 1 ?_)
 obtain⟨y2,hy0,h0⟩:=a0l h
 refine kCg (some 5) [0,1] (a0z hy0) (kr 1 (kBT 6 h0 (λh1=> ?_) (λh2=> ?_)))
 exact kX (PJ.passRet (by obtain rfl:=oi h1;exact kRV [0,1,2] (.inr rfl) D W V))
 refine kKN (kn 2 ?_)
 obtain⟨y1,hy1,h3⟩:=a0l h2
 refine kCg (some 9) [0,1] (c0e hy1) (kr 3 (kS (kDr (kD 6 ?_))))
 obtain⟨y0,hy2,h4⟩:=a0l h3
 refine RJ.callWr (d:=(some 18)) (f:=384) (args:=[.ptr 0 0,iM 35]) (args0:=[.ptr 0 0,iM 35]) (v0:=iL y0.1) (v:=iL y0.1) (tr2:=[([],[]),([],[]),([],[]),([],[]),([4,5],[]),([],[]),([0,1,2,3],[0,1,2,3,6,7])]) (H0:=[.box [lR x0, .mp 1,iL y1.2,iL x2],mQ x3 x4 x5 x6]) (H0':=[.box [lR x0, .mp 1,iL y0.2,iL x2],mQ x3 x4 x5 x6]) (H2:=[.box [lR x0, .mp 1,iL y0.2,iL x2],mQ x3 x4 x5 x6, .box [lsv a0a 2 x7, .nl, .nl, .nl, .bool x8,iL x9,iL x10,iL y1.1,iL x12,iL x13,iL x14,iL x15,iL x16,iL x17, .bool x18,iM x19,iL x20], .res]) [0,1] (by kernel_rfl) (by kernel_rfl) (by kernel_rfl) (by kernel_rfl) (by decide) (by kernel_rfl) (by kernel_rfl) (by kernel_rfl) (LeL.refl _) (c0e hy2) (by kernel_rfl) (by kernel_rfl) (by kernel_rfl) (by kernel_rfl) (by kernel_rfl) (kD 4 (kEN (kq (kBT 26 h4 (λh5=> ?_) (λh6=> ?_)))))
 refine km 5 ?_
 obtain⟨y3,hy3,h7⟩:=a0l h5
 exact kCP (some 32) [0,1] (a0D hy3) (by obtain rfl:=oi h7;exact PP.wk (Wk.undefs 2 [true,true,true,true,false,false,false,false,false,false,false,false,false,false,false,false,false] (cs:=[lsv a0a 2 x7, .nl, .nl, .nl, .bool x8,iL x9,iL x10,iL y1.1,iL (IntKind.wrap .i64 (y1.1+y0.1)),iL x13,iL x14,iL x15,iL x16,iL x17, .bool x18,iM x19,iL x20]) (by kernel_rfl)) (kPV [0,1,2] W V))
 exact kK (by obtain rfl:=oi h6;exact kRV [0,1,2] (.inl rfl) D W V)
theorem g0V {x0:List Int} {x1 x2 x3 x4 x5 x6:Int} {x7:List a0c} {x8:Bool} {x9 x10 x11 x12 x13 x14 x15 x16 x17:Int} {x18:Bool} {x19 x20:Int} {r:Int×Int×Int} (h:a0W x0 x1 x2 x3 x4 x5 x6 x7 x8 x9 x10 x11 x12 x13 x14 x15 x16 x17 x18 x19 x20=some (.inl r)):SQ 386 [.ptr 0 0, .ptr 2 0] [.box [lR x0, .mp 1,iL x1,iL x2],mQ x3 x4 x5 x6, .box [lsv a0a 2 x7, .nl, .nl, .nl, .bool x8,iL x9,iL x10,iL x11,iL x12,iL x13,iL x14,iL x15,iL x16,iL x17, .bool x18,iM x19,iL x20]] (.tup []) [.box [lR x0, .mp 1,iL r.1,iL x2],mQ x3 x4 x5 x6, .box [lsv a0a 2 x7, .nl, .nl, .nl, .bool x8,iL x9,iL x10,iL r.2.1,iL r.2.2,iL x13,iL x14,iL x15,iL x16,iL x17, .bool x18,iM x19,iL x20]]:=(e0b h).1 _ rfl
theorem g0U {x0:List Int} {x1 x2 x3 x4 x5 x6:Int} {x7:List a0c} {x8:Bool} {x9 x10 x11 x12 x13 x14 x15 x16 x17:Int} {x18:Bool} {x19 x20:Int} {r:Int×Int×Int×Int} (h:a0W x0 x1 x2 x3 x4 x5 x6 x7 x8 x9 x10 x11 x12 x13 x14 x15 x16 x17 x18 x19 x20=some (.inr r)):SP Tryz.prog 386 [.ptr 0 0, .ptr 2 0] [.box [lR x0, .mp 1,iL x1,iL x2],mQ x3 x4 x5 x6, .box [lsv a0a 2 x7, .nl, .nl, .nl, .bool x8,iL x9,iL x10,iL x11,iL x12,iL x13,iL x14,iL x15,iL x16,iL x17, .bool x18,iM x19,iL x20]] [.box [.undef, .mp 1,iL r.1,iL r.2.1],mQ x3 x4 x5 x6, .box [.undef, .undef, .undef, .undef, .bool x8,iL x9,iL x10,iL r.2.2.1,iL r.2.2.2,iL x13,iL x14,iL x15,iL x16,iL x17, .bool x18,iM x19,iL x20]]:=(e0b h).2 _ rfl
def b0n(x0:List Int)(x1 x2 x3 x4 x5 x6:Int)(x7:List a0c)(x8:Bool)(x9 x10 x11 x12 x13 x14 x15 x16 x17:Int)(x18:Bool)(x19 x20:Int):Option ((Int×Int×Int×Int×Int×Int×Int×Int×Int×Int×Bool)⊕(Int×Int×Int×Int×Int×Int×Int×Int×Int×Int×Int×Bool)):=
 (Option.bind (a0V 64 x0 x1 x2 x3 x4 x5 x6) λy0=>(Option.bind (bif(decide (y0.1>0))then(Option.bind (a0V 35 x0 y0.2 x2 x3 x4 x5 x6) λy3=>(some (.inl (y3.2,x9,x10,x11,x12,x13,x14,(IntKind.wrap .i64 (y0.1+y3.1))))))else(Option.bind (b0m x0 y0.2 x2 x3 x4 x5 x6 x7 x8 x9 x10 x11 x12 x13 x14 y0.1 x16 x17 x18 x19 x20) λy9=>(Sum.elim (λy1=>(Option.bind (a0W x0 y1.1 x2 x3 x4 x5 x6 x7 x8 y1.2.1 y1.2.2.1 x11 x12 y1.2.2.2.1 y1.2.2.2.2 y0.1 x16 x17 x18 x19 x20) λy10=>(Sum.elim (λy7=>(some (.inl (y7.1,y1.2.1,y1.2.2.1,y7.2.1,y7.2.2,y1.2.2.2.1,y1.2.2.2.2,x16)))) (λy5=>(some (.inr (.inr (y5.1,y5.2.1,y1.2.1,y1.2.2.1,y5.2.2.1,y5.2.2.2,y1.2.2.2.1,y1.2.2.2.2,y0.1,x16,x17,x18))))) y10))) (λy4=>(some (.inr (.inr (y4.1,y4.2.1,y4.2.2.1,y4.2.2.2.1,x11,x12,x13,y4.2.2.2.2,y0.1,x16,x17,x18))))) y9))) (a0m fun(s0:Int×Int×Int×Int×Int×Int×Int×Int)=>(Option.bind (a0u 69 x0 s0.1 x2 x3 x4 x5 x6) λy8=>(bif(!y8.1)then(some (.inl (y8.2,s0.2.1,s0.2.2.1,s0.2.2.2.1,s0.2.2.2.2.1,s0.2.2.2.2.2.1,s0.2.2.2.2.2.2.1,y0.1,s0.2.2.2.2.2.2.2,x17,x18)))else(Option.bind (a0u 43 x0 y8.2 x2 x3 x4 x5 x6) λy6=>(Option.bind (a0V 48 x0 y6.2 x2 x3 x4 x5 x6) λy2=>(bif(decide (y2.1=0))then(Option.bind (a0G y2.2 x0 y2.2 x2 x3 x4 x5 x6) λy11=>(some (.inr (y2.2,y2.2,s0.2.1,s0.2.2.1,s0.2.2.2.1,s0.2.2.2.2.1,s0.2.2.2.2.2.1,s0.2.2.2.2.2.2.1,y0.1,s0.2.2.2.2.2.2.2,y2.1,y6.1))))else(some (.inl (y2.2,s0.2.1,s0.2.2.1,s0.2.2.2.1,s0.2.2.2.2.1,s0.2.2.2.2.2.1,s0.2.2.2.2.2.2.1,y0.1,s0.2.2.2.2.2.2.2,y2.1,y6.1)))))))))))
theorem e0y {x0:List Int} {x1 x2 x3 x4 x5 x6:Int} {x7:List a0c} {x8:Bool} {x9 x10 x11 x12 x13 x14 x15 x16 x17:Int} {x18:Bool} {x19 x20:Int} {r:(Int×Int×Int×Int×Int×Int×Int×Int×Int×Int×Bool)⊕(Int×Int×Int×Int×Int×Int×Int×Int×Int×Int×Int×Bool)} (h:b0n x0 x1 x2 x3 x4 x5 x6 x7 x8 x9 x10 x11 x12 x13 x14 x15 x16 x17 x18 x19 x20=some r):(∀a,r= .inl a->SQ 349 [.ptr 0 0, .ptr 2 0] [.box [lR x0, .mp 1,iL x1,iL x2],mQ x3 x4 x5 x6, .box [lsv a0a 2 x7, .nl, .nl, .nl, .bool x8,iL x9,iL x10,iL x11,iL x12,iL x13,iL x14,iL x15,iL x16,iL x17, .bool x18,iM x19,iL x20]] (.tup []) [.box [lR x0, .mp 1,iL a.1,iL x2],mQ x3 x4 x5 x6, .box [lsv a0a 2 x7, .nl, .nl, .nl, .bool x8,iL a.2.1,iL a.2.2.1,iL a.2.2.2.1,iL a.2.2.2.2.1,iL a.2.2.2.2.2.1,iL a.2.2.2.2.2.2.1,iL a.2.2.2.2.2.2.2.1,iL a.2.2.2.2.2.2.2.2.1,iL a.2.2.2.2.2.2.2.2.2.1, .bool a.2.2.2.2.2.2.2.2.2.2,iM x19,iL x20]])/\(∀a,r= .inr a->SP Tryz.prog 349 [.ptr 0 0, .ptr 2 0] [.box [lR x0, .mp 1,iL x1,iL x2],mQ x3 x4 x5 x6, .box [lsv a0a 2 x7, .nl, .nl, .nl, .bool x8,iL x9,iL x10,iL x11,iL x12,iL x13,iL x14,iL x15,iL x16,iL x17, .bool x18,iM x19,iL x20]] [.box [.undef, .mp 1,iL a.1,iL a.2.1],mQ x3 x4 x5 x6, .box [.undef, .undef, .undef, .undef, .bool x8,iL a.2.2.1,iL a.2.2.2.1,iL a.2.2.2.2.1,iL a.2.2.2.2.2.1,iL a.2.2.2.2.2.2.1,iL a.2.2.2.2.2.2.2.1,iL a.2.2.2.2.2.2.2.2.1,iL a.2.2.2.2.2.2.2.2.2.1,iL a.2.2.2.2.2.2.2.2.2.2.1, .bool a.2.2.2.2.2.2.2.2.2.2.2,iM x19,iL x20]]):=by
 refine w0a (fn:=Tryz.f349) _ _ _ (λF D W V=> ?_)
 unfold b0n at h
 refine kn 2 ?_
 obtain⟨y0,hy2,h3⟩:=a0l h
 refine kCg (some 6) [0,1] (c0e hy2) (kr 3 (kcX h3 (fun(s0:Int×Int×Int×Int×Int×Int×Int×Int)=>([(0, .ptr 0 0),(1, .ptr 2 0)],[.box [lR x0, .mp 1,iL s0.1,iL x2],mQ x3 x4 x5 x6, .box [lsv a0a 2 x7, .nl, .nl, .nl, .bool x8,iL s0.2.1,iL s0.2.2.1,iL s0.2.2.2.1,iL s0.2.2.2.2.1,iL s0.2.2.2.2.2.1,iL s0.2.2.2.2.2.2.1,iL y0.1,iL s0.2.2.2.2.2.2.2,iL x17, .bool x18,iM x19,iL x20]])) (λy12 hy3 h0=> ?_) (λs0 h4=> ?_)))
 ·refine kq (kBT 13 hy3 (λh5=> ?_) (λh6=> ?_))
  refine kDr (kD 6 ?_)
  obtain⟨y3,hy4,h7⟩:=a0l h5
  exact RJ.callWr (d:=(some 20)) (f:=384) (args:=[.ptr 0 0,iM 35]) (args0:=[.ptr 0 0,iM 35]) (v0:=iL y3.1) (v:=iL y3.1) (tr2:=[([],[]),([],[]),([],[]),([],[]),([4,5],[]),([],[]),([0,1,2,3],[0,1,2,3,6,7])]) (H0:=[.box [lR x0, .mp 1,iL y0.2,iL x2],mQ x3 x4 x5 x6]) (H0':=[.box [lR x0, .mp 1,iL y3.2,iL x2],mQ x3 x4 x5 x6]) (H2:=[.box [lR x0, .mp 1,iL y3.2,iL x2],mQ x3 x4 x5 x6, .box [lsv a0a 2 x7, .nl, .nl, .nl, .bool x8,iL x9,iL x10,iL x11,iL x12,iL x13,iL x14,iL y0.1,iL x16,iL x17, .bool x18,iM x19,iL x20], .res]) [0,1] (by kernel_rfl) (by kernel_rfl) (by kernel_rfl) (by kernel_rfl) (by decide) (by kernel_rfl) (by kernel_rfl) (by kernel_rfl) (LeL.refl _) (c0e hy4) (by kernel_rfl) (by kernel_rfl) (by kernel_rfl) (by kernel_rfl) (by kernel_rfl) (kD 4 (kE (kXW h7 W V [0,1,2])))
  ·refine kn 2 ?_
   obtain⟨y9,hy0,h1⟩:=a0l h6
   rcases y9 with y1|y4
   have h8:=k0T h1
   refine kCg (some 26) [0,1,2] (h0A hy0) (kEN (km 2 ?_))
   obtain⟨y10,hy1,h2⟩:=a0l h8
   rcases y10 with y7|y5
   have h9:=k0T h2
   exact kCg (some 29) [0,1,2] (g0V hy1) (kE (kXo h9 [0,1]))
   have h10:=k0S h2
   refine kCP (some 29) [0,1,2] (g0U hy1) ?_
   obtain rfl:=oi h10
   have h11:=b0S h0
   exact PP.cutXr (by obtain rfl:=oi h11;exact kPV [0,1,2] W V)
   ·have h12:=k0S h1
    refine kCP (some 26) [0,1,2] (h0z hy0) (PP.next ?_)
    obtain rfl:=oi h12
    have h13:=b0S h0
    exact PP.cutXr (by obtain rfl:=oi h13;exact kPV [0,1,2] W V)
 refine kS (kn 1 ?_)
 obtain⟨y8,hy5,h14⟩:=a0l h4
 refine kCg (some 31) [0,1] (a0z hy5) (kr 1 (kBT 32 h14 (λh15=> ?_) (λh16=> ?_)))
 exact kX (PJ.passRet (by obtain rfl:=oi h15;exact kRV [0,1,2] (.inr rfl) D W V))
 refine kKN (kn 2 ?_)
 obtain⟨y6,hy6,h17⟩:=a0l h16
 refine kCg (some 35) [0,1] (a0z hy6) (kr 3 (kn 2 ?_))
 obtain⟨y2,hy7,h18⟩:=a0l h17
 refine kCg (some 40) [0,1] (c0e hy7) (kr 3 (kq (kBT 47 h18 (λh19=> ?_) (λh20=> ?_))))
 refine km 5 ?_
 obtain⟨y11,hy8,h21⟩:=a0l h19
 exact kCP (some 53) [0,1] (a0D hy8) (by obtain rfl:=oi h21;exact PP.wk (Wk.undefs 2 [true,true,true,true,false,false,false,false,false,false,false,false,false,false,false,false,false] (cs:=[lsv a0a 2 x7, .nl, .nl, .nl, .bool x8,iL s0.2.1,iL s0.2.2.1,iL s0.2.2.2.1,iL s0.2.2.2.2.1,iL s0.2.2.2.2.2.1,iL s0.2.2.2.2.2.2.1,iL y0.1,iL s0.2.2.2.2.2.2.2,iL y2.1, .bool y6.1,iM x19,iL x20]) (by kernel_rfl)) (kPV [0,1,2] W V))
 exact kK (by obtain rfl:=oi h20;exact kRV [0,1,2] (.inl rfl) D W V)
theorem h0C {x0:List Int} {x1 x2 x3 x4 x5 x6:Int} {x7:List a0c} {x8:Bool} {x9 x10 x11 x12 x13 x14 x15 x16 x17:Int} {x18:Bool} {x19 x20:Int} {r:Int×Int×Int×Int×Int×Int×Int×Int×Int×Int×Bool} (h:b0n x0 x1 x2 x3 x4 x5 x6 x7 x8 x9 x10 x11 x12 x13 x14 x15 x16 x17 x18 x19 x20=some (.inl r)):SQ 349 [.ptr 0 0, .ptr 2 0] [.box [lR x0, .mp 1,iL x1,iL x2],mQ x3 x4 x5 x6, .box [lsv a0a 2 x7, .nl, .nl, .nl, .bool x8,iL x9,iL x10,iL x11,iL x12,iL x13,iL x14,iL x15,iL x16,iL x17, .bool x18,iM x19,iL x20]] (.tup []) [.box [lR x0, .mp 1,iL r.1,iL x2],mQ x3 x4 x5 x6, .box [lsv a0a 2 x7, .nl, .nl, .nl, .bool x8,iL r.2.1,iL r.2.2.1,iL r.2.2.2.1,iL r.2.2.2.2.1,iL r.2.2.2.2.2.1,iL r.2.2.2.2.2.2.1,iL r.2.2.2.2.2.2.2.1,iL r.2.2.2.2.2.2.2.2.1,iL r.2.2.2.2.2.2.2.2.2.1, .bool r.2.2.2.2.2.2.2.2.2.2,iM x19,iL x20]]:=(e0y h).1 _ rfl
theorem h0B {x0:List Int} {x1 x2 x3 x4 x5 x6:Int} {x7:List a0c} {x8:Bool} {x9 x10 x11 x12 x13 x14 x15 x16 x17:Int} {x18:Bool} {x19 x20:Int} {r:Int×Int×Int×Int×Int×Int×Int×Int×Int×Int×Int×Bool} (h:b0n x0 x1 x2 x3 x4 x5 x6 x7 x8 x9 x10 x11 x12 x13 x14 x15 x16 x17 x18 x19 x20=some (.inr r)):SP Tryz.prog 349 [.ptr 0 0, .ptr 2 0] [.box [lR x0, .mp 1,iL x1,iL x2],mQ x3 x4 x5 x6, .box [lsv a0a 2 x7, .nl, .nl, .nl, .bool x8,iL x9,iL x10,iL x11,iL x12,iL x13,iL x14,iL x15,iL x16,iL x17, .bool x18,iM x19,iL x20]] [.box [.undef, .mp 1,iL r.1,iL r.2.1],mQ x3 x4 x5 x6, .box [.undef, .undef, .undef, .undef, .bool x8,iL r.2.2.1,iL r.2.2.2.1,iL r.2.2.2.2.1,iL r.2.2.2.2.2.1,iL r.2.2.2.2.2.2.1,iL r.2.2.2.2.2.2.2.1,iL r.2.2.2.2.2.2.2.2.1,iL r.2.2.2.2.2.2.2.2.2.1,iL r.2.2.2.2.2.2.2.2.2.2.1, .bool r.2.2.2.2.2.2.2.2.2.2.2,iM x19,iL x20]]:=(e0y h).2 _ rfl
def c0u(x0:Int)(x1:List Int)(x2 x3 x4 x5 x6 x7:Int)(x8 x9:List a0c)(x10:Bool)(x11 x12 x13 x14 x15 x16 x17 x18 x19:Int)(x20:Bool)(x21 x22:Int):Option ((Int×Int×Int)⊕(Int×Int)):=
 (Option.bind (Option.bind (bif(decide (¬x22=0))then(some (true,x2))else(Option.bind (a0u 42 x1 x2 x3 x4 x5 x6 x7) λy0=>(some ((!y0.1),y0.2)))) fun(s1:Bool×Int)=>(bif s1.1 then(some (.inr (.inl (s1.2,x21,x22))))else(some (.inl s1.2)))) (a0m fun(s0:Int)=>(Option.bind (bif(decide (s0=(x1.length:Int)))then(Option.bind (a0G s0 x1 s0 x3 x4 x5 x6 x7) λy1=>(some (.inr (.inr (s0,s0)))))else(some (.inl ()))) (a0m fun(s2:Unit)=>(bif inR s0 x1.length then(some (.inl ((IntKind.wrap .i64 (s0+1)),(nth x1 s0),x0)))else none)))))
theorem f0E {x0:Int} {x1:List Int} {x2 x3 x4 x5 x6 x7:Int} {x8 x9:List a0c} {x10:Bool} {x11 x12 x13 x14 x15 x16 x17 x18 x19:Int} {x20:Bool} {x21 x22:Int} {r:(Int×Int×Int)⊕(Int×Int)} (h:c0u x0 x1 x2 x3 x4 x5 x6 x7 x8 x9 x10 x11 x12 x13 x14 x15 x16 x17 x18 x19 x20 x21 x22=some r):(∀a,r= .inl a->SQ 347 [.ptr 0 0, .ptr 2 0,iL x0] [.box [lR x1, .mp 1,iL x2,iL x3],mQ x4 x5 x6 x7, .box [lsv a0a 2 x8,lsv a0a 2 x9, .nl, .nl, .bool x10,iL x11,iL x12,iL x13,iL x14,iL x15,iL x16,iL x17,iL x18,iL x19, .bool x20,iM x21,iL x22]] (.tup []) [.box [lR x1, .mp 1,iL a.1,iL x3],mQ x4 x5 x6 x7, .box [lsv a0a 2 x8,lsv a0a 2 x9, .nl, .nl, .bool x10,iL x11,iL x12,iL x13,iL x14,iL x15,iL x16,iL x17,iL x18,iL x19, .bool x20,iM a.2.1,iL a.2.2]])/\(∀a,r= .inr a->SP Tryz.prog 347 [.ptr 0 0, .ptr 2 0,iL x0] [.box [lR x1, .mp 1,iL x2,iL x3],mQ x4 x5 x6 x7, .box [lsv a0a 2 x8,lsv a0a 2 x9, .nl, .nl, .bool x10,iL x11,iL x12,iL x13,iL x14,iL x15,iL x16,iL x17,iL x18,iL x19, .bool x20,iM x21,iL x22]] [.box [.undef, .mp 1,iL a.1,iL a.2],mQ x4 x5 x6 x7, .box [.undef, .undef, .undef, .undef, .bool x10,iL x11,iL x12,iL x13,iL x14,iL x15,iL x16,iL x17,iL x18,iL x19, .bool x20,iM x21,iL x22]]):=by
 refine w0a (fn:=Tryz.f347) _ _ _ (λF D W V=> ?_)
 unfold c0u at h
 refine kcX h (fun(s0:Int)=>([(0, .ptr 0 0),(1, .ptr 2 0),(2,iL x0)],[.box [lR x1, .mp 1,iL s0,iL x3],mQ x4 x5 x6 x7, .box [lsv a0a 2 x8,lsv a0a 2 x9, .nl, .nl, .bool x10,iL x11,iL x12,iL x13,iL x14,iL x15,iL x16,iL x17,iL x18,iL x19, .bool x20,iM x21,iL x22]])) (λy2 hy0 h0=> ?_) (λs0 h1=> ?_)
 refine kcN hy0 (fun(s1:Bool×Int)=>([(0, .ptr 0 0),(1, .ptr 2 0),(2,iL x0),(15, .bool s1.1)],[.box [lR x1, .mp 1,iL s1.2,iL x3],mQ x4 x5 x6 x7, .box [lsv a0a 2 x8,lsv a0a 2 x9, .nl, .nl, .bool x10,iL x11,iL x12,iL x13,iL x14,iL x15,iL x16,iL x17,iL x18,iL x19, .bool x20,iM x21,iL x22]])) (λs1 hy1=> ?_) (λs1 h2=> ?_)
 refine km 6 (kB 11 hy1 (λh3=> ?_) (λh4=> ?_))
 exact ke 4 (kNo h3 [0,1,2,15])
 refine kc 1 ?_
 obtain⟨y0,hy2,h5⟩:=a0l h4
 exact kCg (some 13) [0,1] (a0z hy2) (ke 2 (kNo h5 [0,1,2,15]))
 exact kBT 15 h2 (λh6=>kX (kCx h6 h0 (λh8=>by obtain rfl:=oi h8;exact kRV [0,1,2] (.inr rfl) D W V))) (λh7=>kK (kXo h7 [0,1,2]))
 refine kcX h1 (fun(s2:Unit)=>([(0, .ptr 0 0),(1, .ptr 2 0),(2,iL x0)],[.box [lR x1, .mp 1,iL s0,iL x3],mQ x4 x5 x6 x7, .box [lsv a0a 2 x8,lsv a0a 2 x9, .nl, .nl, .bool x10,iL x11,iL x12,iL x13,iL x14,iL x15,iL x16,iL x17,iL x18,iL x19, .bool x20,iM x21,iL x22]])) (λy3 hy3 h9=> ?_) (λs2 h10=> ?_)
 refine kS (kDr (kD 10 (kEN (kBT 25 hy3 (λh11=> ?_) (λh12=> ?_)))))
 refine km 5 ?_
 obtain⟨y1,hy4,h13⟩:=a0l h11
 refine kCP (some 31) [0,1] (a0D hy4) ?_
 obtain rfl:=oi h13
 have h14:=b0S h9
 exact PP.cutXr (by obtain rfl:=oi h14;exact PP.wk (Wk.undefs 2 [true,true,true,true,false,false,false,false,false,false,false,false,false,false,false,false,false] (cs:=[lsv a0a 2 x8,lsv a0a 2 x9, .nl, .nl, .bool x10,iL x11,iL x12,iL x13,iL x14,iL x15,iL x16,iL x17,iL x18,iL x19, .bool x20,iM x21,iL x22]) (by kernel_rfl)) (kPV [0,1,2] W V))
 exact kK (kXo h12 [0,1,2])
 refine kS (kDr (kD 10 ?_))
 obtain⟨hm,h15⟩:=b0k h10
 exact kJ 42 (tr2:=[([],[]),([],[]),([],[]),([],[]),([],[]),([0,1],[]),([],[]),([],[]),([],[]),([0,1],[]),([],[])]) (a0r .i32) hm (kD 8 (kEN (kM (by obtain rfl:=oi h15;exact kRV [0,1,2] (.inl rfl) D W V))))
theorem i0I {x0:Int} {x1:List Int} {x2 x3 x4 x5 x6 x7:Int} {x8 x9:List a0c} {x10:Bool} {x11 x12 x13 x14 x15 x16 x17 x18 x19:Int} {x20:Bool} {x21 x22:Int} {r:Int×Int×Int} (h:c0u x0 x1 x2 x3 x4 x5 x6 x7 x8 x9 x10 x11 x12 x13 x14 x15 x16 x17 x18 x19 x20 x21 x22=some (.inl r)):SQ 347 [.ptr 0 0, .ptr 2 0,iL x0] [.box [lR x1, .mp 1,iL x2,iL x3],mQ x4 x5 x6 x7, .box [lsv a0a 2 x8,lsv a0a 2 x9, .nl, .nl, .bool x10,iL x11,iL x12,iL x13,iL x14,iL x15,iL x16,iL x17,iL x18,iL x19, .bool x20,iM x21,iL x22]] (.tup []) [.box [lR x1, .mp 1,iL r.1,iL x3],mQ x4 x5 x6 x7, .box [lsv a0a 2 x8,lsv a0a 2 x9, .nl, .nl, .bool x10,iL x11,iL x12,iL x13,iL x14,iL x15,iL x16,iL x17,iL x18,iL x19, .bool x20,iM r.2.1,iL r.2.2]]:=(f0E h).1 _ rfl
theorem i0H {x0:Int} {x1:List Int} {x2 x3 x4 x5 x6 x7:Int} {x8 x9:List a0c} {x10:Bool} {x11 x12 x13 x14 x15 x16 x17 x18 x19:Int} {x20:Bool} {x21 x22:Int} {r:Int×Int} (h:c0u x0 x1 x2 x3 x4 x5 x6 x7 x8 x9 x10 x11 x12 x13 x14 x15 x16 x17 x18 x19 x20 x21 x22=some (.inr r)):SP Tryz.prog 347 [.ptr 0 0, .ptr 2 0,iL x0] [.box [lR x1, .mp 1,iL x2,iL x3],mQ x4 x5 x6 x7, .box [lsv a0a 2 x8,lsv a0a 2 x9, .nl, .nl, .bool x10,iL x11,iL x12,iL x13,iL x14,iL x15,iL x16,iL x17,iL x18,iL x19, .bool x20,iM x21,iL x22]] [.box [.undef, .mp 1,iL r.1,iL r.2],mQ x4 x5 x6 x7, .box [.undef, .undef, .undef, .undef, .bool x10,iL x11,iL x12,iL x13,iL x14,iL x15,iL x16,iL x17,iL x18,iL x19, .bool x20,iM x21,iL x22]]:=(f0E h).2 _ rfl
def a0U(x0 x1:List Int)(x2 x3 x4 x5 x6 x7:Int)(x8 x9:List a0c)(x10:Bool)(x11 x12 x13 x14 x15 x16 x17 x18 x19:Int)(x20:Bool)(x21 x22:Int):Option ((Int×(List a0c)×(List a0c))⊕(Int×Int)):=
 (Option.bind (a0L x1 x2 x3 x4 x5 x6 x7) λy2=>(Sum.elim (λy0=>(Option.bind (a0x (fun(s0:Int×Int)=>(bif(decide (s0.1<(x0.length:Int)))then(Option.bind (bif inR s0.1 x0.length then(Option.bind (a0u (nth x0 s0.1) x1 s0.2 x3 x4 x5 x6 x7) λy1=>(bif(!y1.1)then(Option.bind (a0G y1.2 x1 y1.2 x3 x4 x5 x6 x7) λy7=>(some (.inr (.inr (.inr (.inr (y1.2,y1.2)))))))else(some (.inl y1.2))))else none) (a0m fun(s1:Int)=>(some (.inl ((IntKind.wrap .i64 (s0.1+1)),s1)))))else(some (.inr (.inl s0.2))))) big (0,y0.2)) (a0m fun(s2:Int)=>(Option.bind (a0L x1 s2 x3 x4 x5 x6 x7) λy3=>(Sum.elim (λy4=>(some (.inl (y4.2,y0.1,y4.1)))) (λy5=>(some (.inr (y5.1,y5.2)))) y3))))) (λy6=>(some (.inr (y6.1,y6.2)))) y2))
theorem e0a {x0 x1:List Int} {x2 x3 x4 x5 x6 x7:Int} {x8 x9:List a0c} {x10:Bool} {x11 x12 x13 x14 x15 x16 x17 x18 x19:Int} {x20:Bool} {x21 x22:Int} {r:(Int×(List a0c)×(List a0c))⊕(Int×Int)} (h:a0U x0 x1 x2 x3 x4 x5 x6 x7 x8 x9 x10 x11 x12 x13 x14 x15 x16 x17 x18 x19 x20 x21 x22=some r):(∀a,r= .inl a->SQ 351 [.ptr 0 0, .ptr 2 0,lR x0] [.box [lR x1, .mp 1,iL x2,iL x3],mQ x4 x5 x6 x7, .box [lsv a0a 2 x8,lsv a0a 2 x9, .nl, .nl, .bool x10,iL x11,iL x12,iL x13,iL x14,iL x15,iL x16,iL x17,iL x18,iL x19, .bool x20,iM x21,iL x22]] (.tup []) [.box [lR x1, .mp 1,iL a.1,iL x3],mQ x4 x5 x6 x7, .box [lsv a0a 2 x8,lsv a0a 2 x9,lsv a0a 2 a.2.1,lsv a0a 2 a.2.2, .bool true,iL x11,iL x12,iL x13,iL x14,iL x15,iL x16,iL x17,iL x18,iL x19, .bool x20,iM x21,iL x22]])/\(∀a,r= .inr a->SP Tryz.prog 351 [.ptr 0 0, .ptr 2 0,lR x0] [.box [lR x1, .mp 1,iL x2,iL x3],mQ x4 x5 x6 x7, .box [lsv a0a 2 x8,lsv a0a 2 x9, .nl, .nl, .bool x10,iL x11,iL x12,iL x13,iL x14,iL x15,iL x16,iL x17,iL x18,iL x19, .bool x20,iM x21,iL x22]] [.box [.undef, .mp 1,iL a.1,iL a.2],mQ x4 x5 x6 x7, .box [.undef, .undef, .undef, .undef, .bool true,iL x11,iL x12,iL x13,iL x14,iL x15,iL x16,iL x17,iL x18,iL x19, .bool x20,iM x21,iL x22]]):=by
 refine w0a (fn:=Tryz.f351) _ _ _ (λF D W V=> ?_)
 unfold a0U at h
 refine kq (kn 2 ?_)
 obtain⟨y2,hy0,h0⟩:=a0l h
 rcases y2 with y0|y6
 have h2:=k0T h0
 refine kCg (some 13) [0,1] (c0w hy0) (kr 3 (kcX h2 (fun(s2:Int)=>([(0, .ptr 0 0),(1, .ptr 2 0)],[.box [lR x1, .mp 1,iL s2,iL x3],mQ x4 x5 x6 x7, .box [lsv a0a 2 x8,lsv a0a 2 x9,lsv a0a 2 y0.1, .nl, .bool true,iL x11,iL x12,iL x13,iL x14,iL x15,iL x16,iL x17,iL x18,iL x19, .bool x20,iM x21,iL x22]])) (λy8 hy2 h3=> ?_) (λs2 h4=> ?_)))
 refine kq (kb 0 (kl (fun(s0:Int×Int)=>([(0, .ptr 0 0),(1, .ptr 2 0),(16,lR x0),(17,iL (x0.length:Int)),(18,iL s0.1)],[.box [lR x1, .mp 1,iL s0.2,iL x3],mQ x4 x5 x6 x7, .box [lsv a0a 2 x8,lsv a0a 2 x9,lsv a0a 2 y0.1, .nl, .bool true,iL x11,iL x12,iL x13,iL x14,iL x15,iL x16,iL x17,iL x18,iL x19, .bool x20,iM x21,iL x22]])) hy2 [0,1,16,17,18] (λs0 x218 hs0=>kq (kS (kBT 19 hs0 (λh5=> ?_) (λh6=> ?_))))))
 refine kKN (kcX h5 (fun(s1:Int)=>([(0, .ptr 0 0),(1, .ptr 2 0),(16,lR x0),(17,iL (x0.length:Int)),(18,iL s0.1)],[.box [lR x1, .mp 1,iL s1,iL x3],mQ x4 x5 x6 x7, .box [lsv a0a 2 x8,lsv a0a 2 x9,lsv a0a 2 y0.1, .nl, .bool true,iL x11,iL x12,iL x13,iL x14,iL x15,iL x16,iL x17,iL x18,iL x19, .bool x20,iM x21,iL x22]])) (λy9 hy3 h7=> ?_) (λs1 h8=> ?_))
 refine kb 1 (kSR (kIb 20 (a0r .i32) hy3 (λh9=>kr 2 (kn 2 ?_))))
 obtain⟨y1,hy4,h10⟩:=a0l h9
 refine kCg (some 24) [0,1] (a0z hy4) (kr 1 (kBT 25 h10 (λh11=> ?_) (λh12=> ?_)))
 refine km 5 ?_
 obtain⟨y7,hy5,h13⟩:=a0l h11
 refine kCP (some 31) [0,1] (a0D hy5) (PP.block ?_)
 obtain rfl:=oi h13
 have h14:=b0S h7
 refine PP.cutXr ?_
 obtain rfl:=oi h14
 refine PP.loopOut (λhe0=> ?_)
 have h15:=congrArg some he0
 refine PP.block ?_
 obtain rfl:=oi h15
 have h16:=b0S h3
 exact PP.cutXr (by obtain rfl:=oi h16;exact PP.wk (Wk.undefs 2 [true,true,true,true,false,false,false,false,false,false,false,false,false,false,false,false,false] (cs:=[lsv a0a 2 x8,lsv a0a 2 x9,lsv a0a 2 y0.1, .nl, .bool true,iL x11,iL x12,iL x13,iL x14,iL x15,iL x16,iL x17,iL x18,iL x19, .bool x20,iM x21,iL x22]) (by kernel_rfl)) (kPV [0,1,2] W V))
 exact kKb (kXo h12 [0,1,16,17,18])
 exact kM (kLo h8 [0,1,16,17,18])
 exact kEp 0 (kLx h6 (λh17=>PJ.blockOut (kXo h17 [0,1])))
 refine km 2 ?_
 obtain⟨y3,hy1,h1⟩:=a0l h4
 rcases y3 with y4|y5
 have h18:=k0T h1
 exact kCg (some 35) [0,1] (c0w hy1) (ke 3 (by obtain rfl:=oi h18;exact kRV [0,1,2] (.inl rfl) D W V))
 have h19:=k0S h1
 exact kCP (some 35) [0,1] (c0v hy1) (by obtain rfl:=oi h19;exact PP.wk (Wk.undefs 2 [true,true,true,true,false,false,false,false,false,false,false,false,false,false,false,false,false] (cs:=[lsv a0a 2 x8,lsv a0a 2 x9,lsv a0a 2 y0.1, .nl, .bool true,iL x11,iL x12,iL x13,iL x14,iL x15,iL x16,iL x17,iL x18,iL x19, .bool x20,iM x21,iL x22]) (by kernel_rfl)) (kPV [0,1,2] W V))
 ·have h20:=k0S h0
  exact kCP (some 13) [0,1] (c0v hy0) (PP.next (by obtain rfl:=oi h20;exact PP.wk (Wk.undefs 2 [true,true,true,true,false,false,false,false,false,false,false,false,false,false,false,false,false] (cs:=[lsv a0a 2 x8,lsv a0a 2 x9, .nl, .nl, .bool true,iL x11,iL x12,iL x13,iL x14,iL x15,iL x16,iL x17,iL x18,iL x19, .bool x20,iM x21,iL x22]) (by kernel_rfl)) (kPV [0,1,2] W V)))
theorem g0T {x0 x1:List Int} {x2 x3 x4 x5 x6 x7:Int} {x8 x9:List a0c} {x10:Bool} {x11 x12 x13 x14 x15 x16 x17 x18 x19:Int} {x20:Bool} {x21 x22:Int} {r:Int×(List a0c)×(List a0c)} (h:a0U x0 x1 x2 x3 x4 x5 x6 x7 x8 x9 x10 x11 x12 x13 x14 x15 x16 x17 x18 x19 x20 x21 x22=some (.inl r)):SQ 351 [.ptr 0 0, .ptr 2 0,lR x0] [.box [lR x1, .mp 1,iL x2,iL x3],mQ x4 x5 x6 x7, .box [lsv a0a 2 x8,lsv a0a 2 x9, .nl, .nl, .bool x10,iL x11,iL x12,iL x13,iL x14,iL x15,iL x16,iL x17,iL x18,iL x19, .bool x20,iM x21,iL x22]] (.tup []) [.box [lR x1, .mp 1,iL r.1,iL x3],mQ x4 x5 x6 x7, .box [lsv a0a 2 x8,lsv a0a 2 x9,lsv a0a 2 r.2.1,lsv a0a 2 r.2.2, .bool true,iL x11,iL x12,iL x13,iL x14,iL x15,iL x16,iL x17,iL x18,iL x19, .bool x20,iM x21,iL x22]]:=(e0a h).1 _ rfl
theorem g0S {x0 x1:List Int} {x2 x3 x4 x5 x6 x7:Int} {x8 x9:List a0c} {x10:Bool} {x11 x12 x13 x14 x15 x16 x17 x18 x19:Int} {x20:Bool} {x21 x22:Int} {r:Int×Int} (h:a0U x0 x1 x2 x3 x4 x5 x6 x7 x8 x9 x10 x11 x12 x13 x14 x15 x16 x17 x18 x19 x20 x21 x22=some (.inr r)):SP Tryz.prog 351 [.ptr 0 0, .ptr 2 0,lR x0] [.box [lR x1, .mp 1,iL x2,iL x3],mQ x4 x5 x6 x7, .box [lsv a0a 2 x8,lsv a0a 2 x9, .nl, .nl, .bool x10,iL x11,iL x12,iL x13,iL x14,iL x15,iL x16,iL x17,iL x18,iL x19, .bool x20,iM x21,iL x22]] [.box [.undef, .mp 1,iL r.1,iL r.2],mQ x4 x5 x6 x7, .box [.undef, .undef, .undef, .undef, .bool true,iL x11,iL x12,iL x13,iL x14,iL x15,iL x16,iL x17,iL x18,iL x19, .bool x20,iM x21,iL x22]]:=(e0a h).2 _ rfl
def b0b(x0:List Int)(x1 x2 x3 x4 x5 x6:Int):Option ((a0j×Int)⊕(Int×Int)):=
 (Option.bind (b0R 1 x0 x1 x2 x3 x4 x5 x6 false 0 0 0 0 0 0 0 0 0 false 0 0) λy9=>(Sum.elim (λy3=>(Option.bind (a0L x0 y3.1 x2 x3 x4 x5 x6) λy10=>(Sum.elim (λy1=>(Option.bind (bif(decide ((y1.1.length:Int)>0))then(Option.bind (b0Q 2 x0 y1.2 x2 x3 x4 x5 x6 y1.1 false 0 0 0 0 0 0 0 0 0 false y3.2.1 y3.2.2) λy11=>(Sum.elim (λy5=>(some (.inl (y5.1,y5.2.1,y5.2.2)))) (λy12=>(some (.inr (.inr (y12.1,y12.2))))) y11))else(some (.inl (y1.2,y3.2.1,y3.2.2)))) (a0m fun(s0:Int×Int×Int)=>(Option.bind (b0n x0 s0.1 x2 x3 x4 x5 x6 y1.1 false 0 0 0 0 0 0 0 0 0 false s0.2.1 s0.2.2) λy13=>(Sum.elim (λy0=>(bif inS s0.1 y0.1 x0.length then(Option.bind (b0Q 3 x0 y0.1 x2 x3 x4 x5 x6 y1.1 false y0.2.1 y0.2.2.1 y0.2.2.2.1 y0.2.2.2.2.1 y0.2.2.2.2.2.1 y0.2.2.2.2.2.2.1 y0.2.2.2.2.2.2.2.1 y0.2.2.2.2.2.2.2.2.1 y0.2.2.2.2.2.2.2.2.2.1 y0.2.2.2.2.2.2.2.2.2.2 s0.2.1 s0.2.2) λy14=>(Sum.elim (λy4=>(Option.bind (a0L x0 y4.1 x2 x3 x4 x5 x6) λy15=>(Sum.elim (λy2=>(Option.bind (bif(decide ((y2.1.length:Int)>0))then(Option.bind (c0u 4 x0 y2.2 x2 x3 x4 x5 x6 y1.1 y2.1 false y0.2.1 y0.2.2.1 y0.2.2.2.1 y0.2.2.2.2.1 y0.2.2.2.2.2.1 y0.2.2.2.2.2.2.1 y0.2.2.2.2.2.2.2.1 y0.2.2.2.2.2.2.2.2.1 y0.2.2.2.2.2.2.2.2.2.1 y0.2.2.2.2.2.2.2.2.2.2 y4.2.1 y4.2.2) λy16=>(Sum.elim (λy6=>(some (.inl (y6.1,y6.2.1,y6.2.2)))) (λy17=>(some (.inr (.inr (y17.1,y17.2))))) y16))else(some (.inl (y2.2,y4.2.1,y4.2.2)))) (a0m fun(s2:Int×Int×Int)=>(Option.bind (Option.bind (a0u 59 x0 s2.1 x2 x3 x4 x5 x6) λy7=>(bif y7.1 then(Option.bind (a0U (cut x0 s0.1 y0.1) x0 y7.2 x2 x3 x4 x5 x6 y1.1 y2.1 false y0.2.1 y0.2.2.1 y0.2.2.2.1 y0.2.2.2.2.1 y0.2.2.2.2.2.1 y0.2.2.2.2.2.2.1 y0.2.2.2.2.2.2.2.1 y0.2.2.2.2.2.2.2.2.1 y0.2.2.2.2.2.2.2.2.2.1 y0.2.2.2.2.2.2.2.2.2.2 s2.2.1 s2.2.2) λy18=>(Sum.elim (λy8=>(some (.inl (y8.1,y8.2.1,y8.2.2,true)))) (λy19=>(some (.inr (.inr (y19.1,y19.2))))) y18))else(some (.inl (y7.2,([]:List a0c),([]:List a0c),false))))) (a0m fun(s1:Int×(List a0c)×(List a0c)×Bool)=>(Option.bind (bif(decide (s1.1<(x0.length:Int)))then(Option.bind (a0G s1.1 x0 s1.1 x2 x3 x4 x5 x6) λy25=>(some (.inr (.inr (s1.1,s1.1)))))else(some (.inl ()))) (a0m fun(s3:Unit)=>(some (.inl ((⟨y1.1,y2.1,s1.2.1,s1.2.2.1,s1.2.2.2,y0.2.1,y0.2.2.1,y0.2.2.2.1,y0.2.2.2.2.1,y0.2.2.2.2.2.1,y0.2.2.2.2.2.2.1,y0.2.2.2.2.2.2.2.1,y0.2.2.2.2.2.2.2.2.1,y0.2.2.2.2.2.2.2.2.2.1,y0.2.2.2.2.2.2.2.2.2.2,s2.2.1,s2.2.2⟩:a0j),s1.1)))))))))) (λy20=>(some (.inr (y20.1,y20.2)))) y15))) (λy21=>(some (.inr (y21.1,y21.2)))) y14))else none)) (λy22=>(some (.inr (y22.1,y22.2.1)))) y13))))) (λy23=>(some (.inr (y23.1,y23.2)))) y10))) (λy24=>(some (.inr (y24.1,y24.2)))) y9))
theorem e0q {x0:List Int} {x1 x2 x3 x4 x5 x6:Int} {r:(a0j×Int)⊕(Int×Int)} (h:b0b x0 x1 x2 x3 x4 x5 x6=some r):(∀a,r= .inl a->SQ 297 [.ptr 0 0] [.box [lR x0, .mp 1,iL x1,iL x2],mQ x3 x4 x5 x6] (.agg (a0b a.1)) [.box [lR x0, .mp 1,iL a.2,iL x2],mQ x3 x4 x5 x6])/\(∀a,r= .inr a->SP Tryz.prog 297 [.ptr 0 0] [.box [lR x0, .mp 1,iL x1,iL x2],mQ x3 x4 x5 x6] [.box [.undef, .mp 1,iL a.1,iL a.2],mQ x3 x4 x5 x6]):=by
 refine w0a (fn:=Tryz.f297) _ _ _ (λF D W V=> ?_)
 unfold b0b at h
 refine kq (kq (kn 1 ?_))
 obtain⟨y9,hy0,h0⟩:=a0l h
 rcases y9 with y3|y24
 ·have h8:=k0T h0
  refine kCg (some 7) [0,1,3] (i0K hy0) (kEN (kn 1 ?_))
  obtain⟨y10,hy1,h1⟩:=a0l h8
  rcases y10 with y1|y23
  ·have h9:=k0T h1
   refine kCg (some 9) [0,1] (c0w hy1) (kr 2 (kcX h9 (fun(s0:Int×Int×Int)=>([(0, .ptr 0 0),(2, .ptr 2 0),(3, .ptr 3 0)],[.box [lR x0, .mp 1,iL s0.1,iL x2],mQ x3 x4 x5 x6, .box [.nl, .nl, .nl, .nl, .bool false,iL 0,iL 0,iL 0,iL 0,iL 0,iL 0,iL 0,iL 0,iL 0, .bool false,iM 0,iL 0], .box [lsv a0a 2 y1.1, .nl, .nl, .nl, .bool false,iL 0,iL 0,iL 0,iL 0,iL 0,iL 0,iL 0,iL 0,iL 0, .bool false,iM s0.2.1,iL s0.2.2]])) (λy26 hy8 h10=> ?_) (λs0 h11=> ?_)))
   refine kq (kBT 14 hy8 (λh12=> ?_) (λh13=> ?_))
   refine km 1 ?_
   obtain⟨y11,hy2,h2⟩:=a0l h12
   rcases y11 with y5|y12
   have h14:=k0T h2
   exact kCg (some 16) [0,1,3] (f0H hy2) (kE (kXo h14 [0,2,3]))
   have h15:=k0S h2
   refine kCP (some 16) [0,1,3] (f0G hy2) ?_
   obtain rfl:=oi h15
   have h16:=b0S h10
   exact PP.cutXr (by obtain rfl:=oi h16;exact kPV [0,1] W V)
   exact kK (kXo h13 [0,2,3])
   ·refine kq (kn 1 ?_)
    obtain⟨y13,hy3,h3⟩:=a0l h11
    rcases y13 with y0|y22
    ·have h17:=k0T h3
     refine kCg (some 22) [0,1,3] (h0C hy3) (kEN (kS (kDr (kD 9 ?_))))
     obtain⟨hm,h18⟩:=b0k h17
     refine RJ.rel (d:=(some 32)) (ef:=⟨.lst ((y0.1:Int).toNat-(s0.1:Int).toNat) 1 (((x0.flatMap (a0s .i32)).take ((y0.1:Int).toNat*1)).drop ((s0.1:Int).toNat*1)),[],[]⟩) (ef':=⟨.lst (cut x0 s0.1 y0.1).length 1 ((cut x0 s0.1 y0.1).flatMap (a0s .i32)),[],[]⟩) (c:=inS s0.1 y0.1 x0.length) (tr2:=[([],[]),([],[]),([],[]),([0,1],[]),([],[]),([],[]),([],[]),([],[]),([0,1],[]),([],[])]) (H2:=[.box [lR x0, .mp 1,iL y0.1,iL x2],mQ x3 x4 x5 x6, .box [.nl, .nl, .nl, .nl, .bool false,iL 0,iL 0,iL 0,iL 0,iL 0,iL 0,iL 0,iL 0,iL 0, .bool false,iM 0,iL 0], .box [lsv a0a 2 y1.1, .nl, .nl, .nl, .bool false,iL y0.2.1,iL y0.2.2.1,iL y0.2.2.2.1,iL y0.2.2.2.2.1,iL y0.2.2.2.2.2.1,iL y0.2.2.2.2.2.2.1,iL y0.2.2.2.2.2.2.2.1,iL y0.2.2.2.2.2.2.2.2.1,iL y0.2.2.2.2.2.2.2.2.2.1, .bool y0.2.2.2.2.2.2.2.2.2.2,iM s0.2.1,iL s0.2.2]]) (by kernel_rfl) hm (λhc=>N.slice (a0r .i32) hc) (by kernel_rfl) (kD 1 (kEN (kn 1 ?_)))
     obtain⟨y14,hy4,h4⟩:=a0l h18
     rcases y14 with y4|y21
     ·have h19:=k0T h4
      refine kCg (some 34) [0,1,3] (f0H hy4) (kEN (kn 1 ?_))
      obtain⟨y15,hy5,h5⟩:=a0l h19
      rcases y15 with y2|y20
      have h20:=k0T h5
      refine kCg (some 36) [0,1] (c0w hy5) (kr 2 (kcX h20 (fun(s2:Int×Int×Int)=>([(0, .ptr 0 0),(2, .ptr 2 0),(3, .ptr 3 0),(5,lR (cut x0 s0.1 y0.1))],[.box [lR x0, .mp 1,iL s2.1,iL x2],mQ x3 x4 x5 x6, .box [.nl, .nl, .nl, .nl, .bool false,iL 0,iL 0,iL 0,iL 0,iL 0,iL 0,iL 0,iL 0,iL 0, .bool false,iM 0,iL 0], .box [lsv a0a 2 y1.1,lsv a0a 2 y2.1, .nl, .nl, .bool false,iL y0.2.1,iL y0.2.2.1,iL y0.2.2.2.1,iL y0.2.2.2.2.1,iL y0.2.2.2.2.2.1,iL y0.2.2.2.2.2.2.1,iL y0.2.2.2.2.2.2.2.1,iL y0.2.2.2.2.2.2.2.2.1,iL y0.2.2.2.2.2.2.2.2.2.1, .bool y0.2.2.2.2.2.2.2.2.2.2,iM s2.2.1,iL s2.2.2]])) (λy27 hy9 h21=> ?_) (λs2 h22=> ?_)))
      refine kq (kBT 41 hy9 (λh23=> ?_) (λh24=> ?_))
      refine km 1 ?_
      obtain⟨y16,hy6,h6⟩:=a0l h23
      rcases y16 with y6|y17
      have h25:=k0T h6
      exact kCg (some 43) [0,1,3] (i0I hy6) (kE (kXo h25 [0,2,3,5]))
      have h26:=k0S h6
      refine kCP (some 43) [0,1,3] (i0H hy6) ?_
      obtain rfl:=oi h26
      have h27:=b0S h21
      exact PP.cutXr (by obtain rfl:=oi h27;exact kPV [0,1] W V)
      exact kK (kXo h24 [0,2,3,5])
      refine kcX h22 (fun(s1:Int×(List a0c)×(List a0c)×Bool)=>([(0, .ptr 0 0),(2, .ptr 2 0),(3, .ptr 3 0)],[.box [lR x0, .mp 1,iL s1.1,iL x2],mQ x3 x4 x5 x6, .box [.nl, .nl, .nl, .nl, .bool false,iL 0,iL 0,iL 0,iL 0,iL 0,iL 0,iL 0,iL 0,iL 0, .bool false,iM 0,iL 0], .box [lsv a0a 2 y1.1,lsv a0a 2 y2.1,lsv a0a 2 s1.2.1,lsv a0a 2 s1.2.2.1, .bool s1.2.2.2,iL y0.2.1,iL y0.2.2.1,iL y0.2.2.2.1,iL y0.2.2.2.2.1,iL y0.2.2.2.2.2.1,iL y0.2.2.2.2.2.2.1,iL y0.2.2.2.2.2.2.2.1,iL y0.2.2.2.2.2.2.2.2.1,iL y0.2.2.2.2.2.2.2.2.2.1, .bool y0.2.2.2.2.2.2.2.2.2.2,iM s2.2.1,iL s2.2.2]])) (λy28 hy10 h28=> ?_) (λs1 h29=> ?_)
      refine kn 1 ?_
      obtain⟨y7,hy11,h30⟩:=a0l hy10
      refine kCg (some 45) [0,1] (a0z hy11) (kEN (kBT 45 h30 (λh31=> ?_) (λh32=> ?_)))
      refine km 2 ?_
      obtain⟨y18,hy7,h7⟩:=a0l h31
      rcases y18 with y8|y19
      have h33:=k0T h7
      exact kCg (some 48) [0,1,3] (g0T hy7) (kE (kXo h33 [0,2,3]))
      have h34:=k0S h7
      refine kCP (some 48) [0,1,3] (g0S hy7) ?_
      obtain rfl:=oi h34
      have h35:=b0S h28
      exact PP.cutXr (by obtain rfl:=oi h35;exact kPV [0,1] W V)
      exact kK (PJ.wk (Wk.leBox 3 2 (cs:=[lsv a0a 2 y1.1,lsv a0a 2 y2.1, .nl, .nl, .bool false,iL y0.2.1,iL y0.2.2.1,iL y0.2.2.2.1,iL y0.2.2.2.2.1,iL y0.2.2.2.2.2.1,iL y0.2.2.2.2.2.2.1,iL y0.2.2.2.2.2.2.2.1,iL y0.2.2.2.2.2.2.2.2.1,iL y0.2.2.2.2.2.2.2.2.2.1, .bool y0.2.2.2.2.2.2.2.2.2.2,iM s2.2.1,iL s2.2.2]) (v:= .nl) (v':=lsv a0a 2 []) (by kernel_rfl) (by kernel_rfl) (Le.nl _)) (PJ.wk (Wk.leBox 3 3 (cs:=[lsv a0a 2 y1.1,lsv a0a 2 y2.1,lsv a0a 2 ([]:List a0c), .nl, .bool false,iL y0.2.1,iL y0.2.2.1,iL y0.2.2.2.1,iL y0.2.2.2.2.1,iL y0.2.2.2.2.2.1,iL y0.2.2.2.2.2.2.1,iL y0.2.2.2.2.2.2.2.1,iL y0.2.2.2.2.2.2.2.2.1,iL y0.2.2.2.2.2.2.2.2.2.1, .bool y0.2.2.2.2.2.2.2.2.2.2,iM s2.2.1,iL s2.2.2]) (v:= .nl) (v':=lsv a0a 2 []) (by kernel_rfl) (by kernel_rfl) (Le.nl _)) (kXo h32 [0,2,3])))
      refine kcX h29 (fun(s3:Unit)=>([(2, .ptr 2 0),(3, .ptr 3 0)],[.box [lR x0, .mp 1,iL s1.1,iL x2],mQ x3 x4 x5 x6, .box [.nl, .nl, .nl, .nl, .bool false,iL 0,iL 0,iL 0,iL 0,iL 0,iL 0,iL 0,iL 0,iL 0, .bool false,iM 0,iL 0], .box [lsv a0a 2 y1.1,lsv a0a 2 y2.1,lsv a0a 2 s1.2.1,lsv a0a 2 s1.2.2.1, .bool s1.2.2.2,iL y0.2.1,iL y0.2.2.1,iL y0.2.2.2.1,iL y0.2.2.2.2.1,iL y0.2.2.2.2.2.1,iL y0.2.2.2.2.2.2.1,iL y0.2.2.2.2.2.2.2.1,iL y0.2.2.2.2.2.2.2.2.1,iL y0.2.2.2.2.2.2.2.2.2.1, .bool y0.2.2.2.2.2.2.2.2.2.2,iM s2.2.1,iL s2.2.2]])) (λy29 hy12 h36=> ?_) (λs3 h37=> ?_)
      refine kS (kDr (kD 10 (kEN (kBT 58 hy12 (λh38=> ?_) (λh39=> ?_)))))
      refine km 5 ?_
      obtain⟨y25,hy13,h40⟩:=a0l h38
      refine kCP (some 64) [0,1] (a0D hy13) ?_
      obtain rfl:=oi h40
      have h41:=b0S h36
      exact PP.cutXr (by obtain rfl:=oi h41;exact kPV [0,1] W V)
      exact kK (kXo h39 [2,3])
      exact kq (kX (by obtain rfl:=oi h37;exact kRV [0,1] (.inr rfl) D W V))
      ·have h42:=k0S h5
       exact kCP (some 36) [0,1] (c0v hy5) (PP.next (by obtain rfl:=oi h42;exact kPV [0,1] W V))
     ·have h43:=k0S h4
      exact kCP (some 34) [0,1,3] (f0G hy4) (PP.next (by obtain rfl:=oi h43;exact kPV [0,1] W V))
    ·have h44:=k0S h3
     exact kCP (some 22) [0,1,3] (h0B hy3) (PP.next (by obtain rfl:=oi h44;exact kPV [0,1] W V))
  ·have h45:=k0S h1
   exact kCP (some 9) [0,1] (c0v hy1) (PP.next (by obtain rfl:=oi h45;exact kPV [0,1] W V))
 ·have h46:=k0S h0
  exact kCP (some 7) [0,1,3] (i0J hy0) (PP.next (by obtain rfl:=oi h46;exact kPV [0,1] W V))
theorem h0i {x0:List Int} {x1 x2 x3 x4 x5 x6:Int} {r:a0j×Int} (h:b0b x0 x1 x2 x3 x4 x5 x6=some (.inl r)):SQ 297 [.ptr 0 0] [.box [lR x0, .mp 1,iL x1,iL x2],mQ x3 x4 x5 x6] (.agg (a0b r.1)) [.box [lR x0, .mp 1,iL r.2,iL x2],mQ x3 x4 x5 x6]:=(e0q h).1 _ rfl
theorem h0h {x0:List Int} {x1 x2 x3 x4 x5 x6:Int} {r:Int×Int} (h:b0b x0 x1 x2 x3 x4 x5 x6=some (.inr r)):SP Tryz.prog 297 [.ptr 0 0] [.box [lR x0, .mp 1,iL x1,iL x2],mQ x3 x4 x5 x6] [.box [.undef, .mp 1,iL r.1,iL r.2],mQ x3 x4 x5 x6]:=(e0q h).2 _ rfl
def g0D(x0:List Int)(x1 x2 x3 x4 x5 x6:Int)(x7 x8 x9 x10:List a0c)(x11:Bool)(x12 x13 x14 x15 x16 x17 x18 x19 x20:Int)(x21:Bool)(x22 x23 x24:Int)(x25:Bool):Option (Unit):=
 (some ())
theorem m0M {x0:List Int} {x1 x2 x3 x4 x5 x6:Int} {x7 x8 x9 x10:List a0c} {x11:Bool} {x12 x13 x14 x15 x16 x17 x18 x19 x20:Int} {x21:Bool} {x22 x23 x24:Int} {x25:Bool} {r:Unit} (h:g0D x0 x1 x2 x3 x4 x5 x6 x7 x8 x9 x10 x11 x12 x13 x14 x15 x16 x17 x18 x19 x20 x21 x22 x23 x24 x25=some r):SD Tryz.prog 296 false [.ptr 0 0, .ptr 3 0, .ptr 4 0, .ptr 5 0] [.box [.ptr 1 0], .box [lR x0, .mp 2,iL x1,iL x2],mQ x3 x4 x5 x6, .box [lsv a0a 2 x7,lsv a0a 2 x8,lsv a0a 2 x9,lsv a0a 2 x10, .bool x11,iL x12,iL x13,iL x14,iL x15,iL x16,iL x17,iL x18,iL x19,iL x20, .bool x21,iM x22,iL x23], .box [iL x24], .box [.bool x25]] [.box [.ptr 1 0], .box [lR x0, .mp 2,iL x1,iL x2],mQ x3 x4 x5 x6, .box [lsv a0a 2 x7,lsv a0a 2 x8,lsv a0a 2 x9,lsv a0a 2 x10, .bool x11,iL x12,iL x13,iL x14,iL x15,iL x16,iL x17,iL x18,iL x19,iL x20, .bool x21,iM x22,iL x23], .box [iL x24], .box [.bool x25]]:=by
 refine C0I (fn:=Tryz.f296) false 4 5 (λF D W V=> ?_)
 unfold g0D at h
 exact kF (kK (by obtain rfl:=oi h;exact kRV [0,1,2,3,4,5] (.inl rfl) D W V))
def g0C(x0 x1 x2 x3 x4 x5:Int)(x6:Bool)(x7 x8 x9 x10 x11 x12 x13 x14 x15:Int)(x16:Bool)(x17 x18 x19:Int)(x20:Bool):Option (Unit):=
 (some ())
theorem m0L {x0 x1 x2 x3 x4 x5:Int} {x6:Bool} {x7 x8 x9 x10 x11 x12 x13 x14 x15:Int} {x16:Bool} {x17 x18 x19:Int} {x20:Bool} {r:Unit} (h:g0C x0 x1 x2 x3 x4 x5 x6 x7 x8 x9 x10 x11 x12 x13 x14 x15 x16 x17 x18 x19 x20=some r):SD Tryz.prog 296 true [.ptr 0 0, .ptr 3 0, .ptr 4 0, .ptr 5 0] [.box [.ptr 1 0], .box [.undef, .mp 2,iL x0,iL x1],mQ x2 x3 x4 x5, .box [.nl, .nl, .nl, .nl, .bool x6,iL x7,iL x8,iL x9,iL x10,iL x11,iL x12,iL x13,iL x14,iL x15, .bool x16,iM x17,iL x18], .box [iL x19], .box [.bool x20]] [.box [.ptr 1 0], .box [.undef, .mp 2,iL x0,iL x1],mQ x2 x3 x4 x5, .box [.nl, .nl, .nl, .nl, .bool false,iL 0,iL 0,iL 0,iL 0,iL 0,iL 0,iL 0,iL 0,iL 0, .bool false,iM 0,iL 0], .box [iL x1], .box [.bool false]]:=by
 refine C0I (fn:=Tryz.f296) true 4 5 (λF D W V=> ?_)
 unfold g0C at h
 exact kT (kM (by obtain rfl:=oi h;exact kRV [0,1,2,3,4,5] (.inl rfl) D W V))
def l0n(x0:List Int):Option (a0j×Int×Bool):=
 (Option.bind g0a λy3=>(Option.bind (b0b x0 0 0 1 2 3 4) λy2=>(Sum.elim (λy0=>(Option.bind (g0D x0 y0.2 0 1 2 3 4 y0.1.c_ y0.1.e_ y0.1.A_ y0.1.y_ y0.1.O_ y0.1.I_ y0.1.z_ y0.1.v_ y0.1.o_ y0.1.p_ y0.1.w_ y0.1.s_ y0.1.u_ y0.1.b_ y0.1.U_ y0.1.B_ y0.1.P_ 0 true) λy4=>(some (y0.1,0,true)))) (λy1=>(Option.bind (g0C y1.1 y1.2 1 2 3 4 false 0 0 0 0 0 0 0 0 0 false 0 0 0 false) λy5=>(some ((⟨([]:List a0c),([]:List a0c),([]:List a0c),([]:List a0c),false,0,0,0,0,0,0,0,0,0,false,0,0⟩:a0j),y1.2,false)))) y2)))
theorem r0M {x0:List Int} {r:a0j×Int×Bool} (h:l0n x0=some r):SQ 231 [lR x0] [] (.tup [.agg (a0b r.1),iL r.2.1, .bool r.2.2]) []:=by
 refine C0V (fn:=Tryz.f231) (λF D W V hFds=> ?_)
 unfold l0n at h
 refine kq (kn 1 ?_)
 obtain⟨y3,hy1,h1⟩:=a0l h
 refine kCg (some 7) [] (j0i hy1) (kr 4 (kn 1 (RJ.defer (f:=296) (args:=[.ptr 5 0, .ptr 0 0, .ptr 1 0, .ptr 2 0]) (by kernel_rfl) hFds (λw1 K1 D1 d1 hok hgr hFD1=>kEN (kn 1 ?_)))))
 obtain⟨y2,hy0,h0⟩:=a0l h1
 rcases y2 with y0|y1
 have h2:=k0T h0
 refine kCg (some 12) [4,3] (h0i hy0) (kr 3 (kX ?_))
 obtain⟨y4,hy2,h3⟩:=a0l h2
 exact by obtain rfl:=oi h3;exact PJ.retD (args:=[.ptr 5 0, .ptr 0 0, .ptr 1 0, .ptr 2 0]) (args0:=[.ptr 0 0, .ptr 3 0, .ptr 4 0, .ptr 5 0]) (H0:=[.box [.ptr 1 0], .box [lR x0, .mp 2,iL y0.2,iL 0],mQ 1 2 3 4, .box (a0b y0.1), .box [iL 0], .box [.bool true]]) (H0':=[.box [.ptr 1 0], .box [lR x0, .mp 2,iL y0.2,iL 0],mQ 1 2 3 4, .box (a0b y0.1), .box [iL 0], .box [.bool true]]) (H2:=[.box (a0b y0.1), .box [iL 0], .box [.bool true],mQ 1 2 3 4, .box [lR x0, .mp 3,iL y0.2,iL 0], .box [.ptr 4 0]]) (H1:=[]) (H':=[]) (v:= .tup [.agg (a0b y0.1),iL 0, .bool true]) (v1:= .tup [.agg (a0b y0.1),iL 0, .bool true]) [5,4,3,0,1,2] [] hok hgr rfl D (m0M hy2) (by kernel_rfl) (by kernel_rfl) (by kernel_rfl) (by decide) (by kernel_rfl) (by kernel_rfl) (by kernel_rfl) (by kernel_rfl) (by kernel_rfl) (by kernel_rfl) (by kernel_rfl) W V (by kernel_rfl) (by kernel_rfl) (by decide) (by kernel_rfl) (by kernel_rfl) (by kernel_rfl) (by kernel_rfl) (by kernel_rfl) (Le.refl _)
 ·have h4:=k0S h0
  refine kCP (some 12) [4,3] (h0h hy0) (PP.next ?_)
  obtain⟨y5,hy3,h5⟩:=a0l h4
  exact by obtain rfl:=oi h5;exact PP.retD (args:=[.ptr 5 0, .ptr 0 0, .ptr 1 0, .ptr 2 0]) (args0:=[.ptr 0 0, .ptr 3 0, .ptr 4 0, .ptr 5 0]) (H0:=[.box [.ptr 1 0], .box [.undef, .mp 2,iL y1.1,iL y1.2],mQ 1 2 3 4, .box [.nl, .nl, .nl, .nl, .bool false,iL 0,iL 0,iL 0,iL 0,iL 0,iL 0,iL 0,iL 0,iL 0, .bool false,iM 0,iL 0], .box [iL 0], .box [.bool false]]) (H0':=[.box [.ptr 1 0], .box [.undef, .mp 2,iL y1.1,iL y1.2],mQ 1 2 3 4, .box [.nl, .nl, .nl, .nl, .bool false,iL 0,iL 0,iL 0,iL 0,iL 0,iL 0,iL 0,iL 0,iL 0, .bool false,iM 0,iL 0], .box [iL y1.2], .box [.bool false]]) (H2:=[.box [.nl, .nl, .nl, .nl, .bool false,iL 0,iL 0,iL 0,iL 0,iL 0,iL 0,iL 0,iL 0,iL 0, .bool false,iM 0,iL 0], .box [iL y1.2], .box [.bool false],mQ 1 2 3 4, .box [.undef, .mp 3,iL y1.1,iL y1.2], .box [.ptr 4 0]]) (H1:=[]) (H':=[]) (v:= .tup [zQ,iL y1.2, .bool false]) (v1:= .tup [zQ,iL y1.2, .bool false]) [5,4,3,0,1,2] [] hok hgr rfl D (m0L hy3) (by kernel_rfl) (by kernel_rfl) (by kernel_rfl) (by decide) (by kernel_rfl) (by kernel_rfl) (by kernel_rfl) (by kernel_rfl) (by kernel_rfl) (by kernel_rfl) (by kernel_rfl) W V (by kernel_rfl) (by kernel_rfl) (by decide) (by kernel_rfl) (by kernel_rfl) (by kernel_rfl) (by kernel_rfl) (by kernel_rfl) (Le.tup (.cons (Le.agg (.cons (Le.nl _) (.cons (Le.nl _) (.cons (Le.nl _) (.cons (Le.nl _) (LeL.refl _)))))) (LeL.refl _)))
def h0L(x0:List UInt8):Option (a0j×Int×Int):=
 (Option.bind (g0J (i0C x0)) λy1=>(bif(decide (¬y1.2.2=0))then(some ((⟨([]:List a0c),([]:List a0c),([]:List a0c),([]:List a0c),false,0,0,0,0,0,0,0,0,0,false,0,0⟩:a0j),y1.2.1,y1.2.2))else(bif(decide ((y1.1.length:Int)>120))then(some ((⟨([]:List a0c),([]:List a0c),([]:List a0c),([]:List a0c),false,0,0,0,0,0,0,0,0,0,false,0,0⟩:a0j),0,11))else(Option.bind (l0n y1.1) λy0=>(bif(!y0.2.2)then(some ((⟨([]:List a0c),([]:List a0c),([]:List a0c),([]:List a0c),false,0,0,0,0,0,0,0,0,0,false,0,0⟩:a0j),y0.2.1,2))else(bif(decide (((l0O ((l0O ((l0O (IntKind.wrap .i64 (y0.1.I_+y0.1.z_)) y0.1.o_)) y0.1.u_)) y0.1.b_))>40))then(some ((⟨([]:List a0c),([]:List a0c),([]:List a0c),([]:List a0c),false,0,0,0,0,0,0,0,0,0,false,0,0⟩:a0j),0,11))else(some (y0.1,0,0))))))))
theorem m0z {x0:List UInt8} {r:a0j×Int×Int} (h:h0L x0=some r):SQ 155 [.str x0] [] (.tup [.agg (a0b r.1),iL r.2.1,iL r.2.2]) []:=by
 refine kFn (fn:=Tryz.f155) (λF D W V=> ?_)
 unfold h0L at h
 exact kq (kn 1 (RJ.rel (d:=(some 12)) (ef:=⟨.lst x0.length 1 (x0.map l0H),[],[]⟩) (ef':=⟨lB (i0C x0),[],[]⟩) (c:=true) (tr2:=[]) (H2:=[.box [.nl, .nl, .nl, .nl, .bool false,iL 0,iL 0,iL 0,iL 0,iL 0,iL 0,iL 0,iL 0,iL 0, .bool false,iM 0,iL 0]]) (by kernel_rfl) rfl (λhc=>N.toBytes) (by kernel_rfl) (kAb 13 h (λ_=>l0d) (λy1 h0=>kr 7 (kS (kq (kBT 18 h0 (λh1=>kq (kX (PJ.passRet (by obtain rfl:=oi h1;exact PJ.res (v1:= .tup [zQ,iL y1.2.1,iL y1.2.2]) (Le.tup (.cons (Le.agg (.cons (Le.nl _) (.cons (Le.nl _) (.cons (Le.nl _) (.cons (Le.nl _) (LeL.refl _)))))) (LeL.refl _))) (kZ D W V))))) (λh2=>kKN (kS (kq (kBT 24 h2 (λh3=>kq (kX (PJ.passRet (by obtain rfl:=oi h3;exact PJ.res (v1:= .tup [zQ,iL 0,iL 11]) (Le.tup (.cons (Le.agg (.cons (Le.nl _) (.cons (Le.nl _) (.cons (Le.nl _) (.cons (Le.nl _) (LeL.refl _)))))) (LeL.refl _))) (kZ D W V))))) (λh4=>kKN (kn 1 (kAb 28 h4 (λ_=>r0M) (λy0 h5=>kr 8 (kS (kq (kBT 33 h5 (λh6=>kq (kX (PJ.passRet (by obtain rfl:=oi h6;exact PJ.res (v1:= .tup [zQ,iL y0.2.1,iL 2]) (Le.tup (.cons (Le.agg (.cons (Le.nl _) (.cons (Le.nl _) (.cons (Le.nl _) (.cons (Le.nl _) (LeL.refl _)))))) (LeL.refl _))) (kZ D W V))))) (λh7=>kKN (kS (kq (kBT 48 h7 (λh8=>kq (kX (PJ.passRet (by obtain rfl:=oi h8;exact PJ.res (v1:= .tup [zQ,iL 0,iL 11]) (Le.tup (.cons (Le.agg (.cons (Le.nl _) (.cons (Le.nl _) (.cons (Le.nl _) (.cons (Le.nl _) (LeL.refl _)))))) (LeL.refl _))) (kZ D W V))))) (λh9=>kKN (kq (kX (by cases h9;exact kZ D W V))))))))))))))))))))))))))
def g0B(x0:Int):Option (Int):=
 (some (l0O 0 (C0G x0 121)))
theorem g0R {x0 r:Int} (h:g0B x0=some r):SQ 162 [iL x0] [] (iL r) []:=by
 refine kFn (fn:=Tryz.f162) (λF D W V=> ?_)
 unfold g0B at h
 exact kq (kq (kX (by cases h;exact kZ D W V)))
def e0k(x0:List Int)(x1 x2:Int):Option (List Int):=
 (Option.bind (Option.bind (g0B x2) λy0=>(a0x (fun(s0:Int×(List Int))=>(bif(decide (s0.1<y0))then(bif room (s0.2.length+([x1]:List Int).length)then(some (.inl ((IntKind.wrap .i64 (s0.1+1)),(s0.2++([x1]:List Int)))))else none)else(some (.inr s0.2)))) big (0,x0))) fun(s1:(List Int))=>(some s1))
theorem d0N {x0:List Int} {x1 x2:Int} {r:List Int} (h:e0k x0 x1 x2=some r):SQ 161 [.vc 0,iM x1,iL x2] [a0H (a0s .i32) 1 21 x0] (.vc 1) [.gone,a0H (a0s .i32) 1 21 r]:=by
 refine kFn (fn:=Tryz.f161) (λF D W V=> ?_)
 unfold e0k at h
 exact J.wk (Wk.move 0 (n:=x0.length) (k:=1) (e:=21) (cs:=x0.flatMap (a0s .i32)) (by kernel_rfl)) (kq (kcN h (fun(s1:(List Int))=>([(0, .vc 1),(6, .nl)],[.gone,a0H (a0s .i32) 1 21 s1])) (λs1 hy0=>kn 1 (kAb 8 hy0 (λ_=>g0R) (λy0 h1=>kr 1 (kb 0 (kl (fun(s0:Int×(List Int))=>([(0, .vc 1),(1,iM x1),(6, .nl),(8,iL y0),(9,iL s0.1)],[.gone,a0H (a0s .i32) 1 21 s0.2])) h1 [0,1,6,8,9] (λs0 x47 hs0=>kq (kS (kBT 10 hs0 (λh2=>kKN (kS (kb 1 (km 3 (kAp 14 1 3 1 21 [1,2] (a0s .i32) h2 (λh4=>ke 1 (PJ.blockNormal (PJ.next (kM (kLW h4 W V [0,3])))))))))) (λh3=>kEp 0 (kLx h3 (λh5=>PJ.blockOut (kNo h5 [0,6])))))))))))) (λs1 h0=>kq (kX (by obtain rfl:=oi h0;exact kRV [0,1] (.inr rfl) D W V)))))
def g0Y(x0:a0j)(x1:Int):Option (Bool):=
 (Option.bind (Option.bind (bif(decide (x0.p_<1))then(some true)else(some (decide (x1<x0.p_)))) fun(s0:Bool)=>(bif s0 then(some (.inr false))else(some (.inl ())))) (a0m fun(s2:Unit)=>(Option.bind (bif(decide (x1=x0.p_))then(some true)else(bif(decide (x0.w_>0))then(bif nz x0.w_ then(some ((decide (((Int.tmod (IntKind.wrap .i64 (x1-x0.p_)) x0.w_))=0))))else none)else(some false))) fun(s1:Bool)=>(some s1))))
theorem n0Z {x0:a0j} {x1:Int} {r:Bool} (h:g0Y x0 x1=some r):SQ 234 [.agg (a0b x0),iL x1] [] (.bool r) []:=by
 refine kFn (fn:=Tryz.f234) (λF D W V=> ?_)
 unfold g0Y at h
 refine kq (kcX h (fun(s2:Unit)=>([(1,iL x1),(2, .ptr 0 0),(4, .bool false)],[.box (a0b x0)])) (λy0 hy0 h0=> ?_) (λs2 h1=> ?_))
 exact kcN hy0 (fun(s0:Bool)=>([(1,iL x1),(2, .ptr 0 0),(4, .bool false),(13, .bool s0)],[.box (a0b x0)])) (λs0 hy1=>km 4 (kB 8 hy1 (λh3=>ke 5 (kNo h3 [1,2,4,13])) (λh4=>ke 5 (kNo h4 [1,2,4,13])))) (λs0 h2=>kBT 13 h2 (λh5=>kq (kX (kCx h5 h0 (λh7=>by obtain rfl:=oi h7;exact kZ D W V)))) (λh6=>kK (kXo h6 [1,2,4])))
 refine kcN h1 (fun(s1:Bool)=>([(4, .bool s1)],[])) (λs1 hy2=> ?_) (λs1 h8=> ?_)
 refine km 5 (kB 18 hy2 (λh9=> ?_) (λh10=> ?_))
 exact ke 15 (kNW h9 W V [])
 refine kc 4 (kB 22 h10 (λh11=> ?_) (λh12=> ?_))
 refine kc 6 ?_
 obtain⟨hm,h13⟩:=b0k h11
 exact kQ 29 (iL (Int.tmod (IntKind.wrap .i64 (x1-x0.p_)) x0.w_)) [] (tr2:=[]) hm (ke 4 (kNW h13 W V []))
 exact ke 11 (kNW h12 W V [])
 exact kX (by cases h8;exact kZ D W V)
def h0K(x0:List Int)(x1:a0j):Option (List Int):=
 (Option.bind (g0B x1.I_) λy0=>(Option.bind (g0B x1.z_) λy1=>(Option.bind (a0x (fun(s0:Int×(List Int))=>(bif(decide (s0.1<(IntKind.wrap .i64 (y0+y1))))then(Option.bind (Option.bind (Option.bind (bif(decide (s0.1>0))then(Option.bind (g0Y x1 ((IntKind.wrap .i64 ((IntKind.wrap .i64 (y0+y1))-s0.1)))) λy2=>(some y2))else(some false)) fun(s2:Bool)=>(bif s2 then(bif room (s0.2.length+([44]:List Int).length)then(some (s0.2++([44]:List Int)))else none)else(some s0.2))) fun(s1:(List Int))=>(bif(decide (s0.1<y0))then(bif room (s1.length+([35]:List Int).length)then(some (s1++([35]:List Int)))else none)else(bif room (s1.length+([48]:List Int).length)then(some (s1++([48]:List Int)))else none))) fun(s3:(List Int))=>(some (.inl ((IntKind.wrap .i64 (s0.1+1)),s3))))else(some (.inr s0.2)))) big (0,x0)) fun(s4:(List Int))=>(some s4))))
theorem m0N {x0:List Int} {x1:a0j} {r:List Int} (h:h0K x0 x1=some r):SQ 163 [.vc 0, .agg (a0b x1)] [a0H (a0s .i32) 1 21 x0] (.vc 1) [.gone,a0H (a0s .i32) 1 21 r]:=by
 refine kFn (fn:=Tryz.f163) (λF D W V=> ?_)
 unfold h0K at h
 exact J.wk (Wk.move 0 (n:=x0.length) (k:=1) (e:=21) (cs:=x0.flatMap (a0s .i32)) (by kernel_rfl)) (kq (kn 2 (kAb 10 h (λ_=>g0R) (λy0 h0=>kr 1 (kn 3 (kAb 14 h0 (λ_=>g0R) (λy1 h1=>kr 2 (kcN h1 (fun(s4:(List Int))=>([(0, .vc 1),(4, .nl)],[.gone,a0H (a0s .i32) 1 21 s4])) (λs4 hy0=>kq (kb 0 (kl (fun(s0:Int×(List Int))=>([(0, .vc 1),(3, .ptr 2 0),(4, .nl),(5,iL y0),(6,iL (IntKind.wrap .i64 (y0+y1))),(16,iL (IntKind.wrap .i64 (y0+y1))),(17,iL s0.1)],[.gone,a0H (a0s .i32) 1 21 s0.2, .box (a0b x1)])) hy0 [0,3,4,5,6,16,17] (λs0 x587 hs0=>kq (kS (kBT 18 hs0 (λh3=>kKN (kcN h3 (fun(s3:(List Int))=>([(0, .vc 1),(3, .ptr 2 0),(4, .nl),(5,iL y0),(6,iL (IntKind.wrap .i64 (y0+y1))),(16,iL (IntKind.wrap .i64 (y0+y1))),(17,iL s0.1)],[.gone,a0H (a0s .i32) 1 21 s3, .box (a0b x1)])) (λs3 hy1=>kb 1 (kq (kcN hy1 (fun(s1:(List Int))=>([(0, .vc 1),(3, .ptr 2 0),(4, .nl),(5,iL y0),(6,iL (IntKind.wrap .i64 (y0+y1))),(7,iL s0.1),(16,iL (IntKind.wrap .i64 (y0+y1))),(17,iL s0.1)],[.gone,a0H (a0s .i32) 1 21 s1, .box (a0b x1)])) (λs1 hy2=>kcN hy2 (fun(s2:Bool)=>([(0, .vc 1),(3, .ptr 2 0),(4, .nl),(5,iL y0),(6,iL (IntKind.wrap .i64 (y0+y1))),(7,iL s0.1),(16,iL (IntKind.wrap .i64 (y0+y1))),(17,iL s0.1),(28, .bool s2)],[.gone,a0H (a0s .i32) 1 21 s0.2, .box (a0b x1)])) (λs2 hy3=>km 3 (kB 22 hy3 (λh8=>kc 4 (kAb 27 h8 (λ_=>n0Z) (λy2 h10=>ke 1 (kNo h10 [0,3,4,5,6,7,16,17,28])))) (λh9=>ke 6 (kNo h9 [0,3,4,5,6,7,16,17,28])))) (λs2 h7=>kBT 28 h7 (λh11=>km 2 (kAp 31 1 4 1 21 [1,3] (a0s .i32) h11 (λh13=>ke 1 (kNW h13 W V [0,4,2])))) (λh12=>kK (kNo h12 [0,3,4,5,6,7,16,17])))) (λs1 h6=>kq (kBT 34 h6 (λh14=>km 2 (kAp 37 1 4 1 21 [1,3] (a0s .i32) h14 (λh16=>ke 1 (PJ.blockNormal (kNW h16 W V [0,4,2]))))) (λh15=>km 2 (kAp 40 1 4 1 21 [1,3] (a0s .i32) h15 (λh17=>ke 1 (PJ.blockNormal (kNW h17 W V [0,4,2])))))))))) (λs3 h5=>kM (kLo h5 [0,3,4,5,6,16,17])))) (λh4=>kEp 0 (kLx h4 (λh18=>PJ.blockOut (kNW h18 W V [0,1])))))))))) (λs4 h2=>kq (kX (by obtain rfl:=oi h2;exact kRV [0,1] (.inr rfl) D W V)))))))))))
def g0K(x0:a0j):Option (List Int):=
 (Option.bind (Option.bind (bif(decide (x0.s_>0))then(some true)else(some (decide (x0.u_>0)))) fun(s2:Bool)=>(bif s2 then(Option.bind (e0k ([]:List Int) 64 x0.s_) λy5=>(Option.bind (g0B x0.s_) λy0=>(Option.bind (e0k y5 35 (IntKind.wrap .i64 (x0.u_-y0))) λy2=>(some y2))))else(Option.bind (h0K ([]:List Int) x0) λy3=>(bif(decide (¬x0.o_=0))then(bif room (y3.length+([46]:List Int).length)then(Option.bind (e0k (y3++([46]:List Int)) 48 x0.v_) λy6=>(Option.bind (g0B x0.v_) λy1=>(Option.bind (e0k y6 35 (IntKind.wrap .i64 (x0.o_-y1))) λy4=>(some y4))))else none)else(some y3))))) fun(s0:(List Int))=>(Option.bind (bif(decide (¬x0.b_=0))then(bif room (s0.length+([69]:List Int).length)then(Option.bind (bif x0.U_ then(bif room ((s0++([69]:List Int)).length+([43]:List Int).length)then(some (((s0++([69]:List Int))++([43]:List Int))))else none)else(some (s0++([69]:List Int)))) fun(s3:(List Int))=>(Option.bind (e0k s3 48 x0.b_) λy7=>(some y7)))else none)else(some s0)) fun(s1:(List Int))=>(some s1)))
theorem l0o {x0:a0j} {r:List Int} (h:g0K x0=some r):SQ 95 [.agg (a0b x0)] [] (lR r) []:=by
 refine kFn (fn:=Tryz.f95) (λF D W V=> ?_)
 unfold g0K at h
 refine kq (kq (kcN h (fun(s0:(List Int))=>([(1, .ptr 0 0),(2, .nl),(3, .vc 1)],[.box (a0b x0),a0H (a0s .i32) 1 21 s0])) (λs0 hy0=> ?_) (λs0 h0=> ?_)))
 refine kcN hy0 (fun(s2:Bool)=>([(1, .ptr 0 0),(2, .nl),(3, .nl),(11, .bool s2)],[.box (a0b x0)])) (λs2 hy1=> ?_) (λs2 h1=> ?_)
 exact km 4 (kB 7 hy1 (λh2=>ke 4 (kNo h2 [1,2,3,11])) (λh3=>ke 4 (kNo h3 [1,2,3,11])))
 refine kBT 11 h1 (λh4=> ?_) (λh5=> ?_)
 refine kn 3 ?_
 obtain⟨y5,hy2,h6⟩:=a0l h4
 refine RJ.wk (Wk.viv 12 1 21 (by kernel_rfl)) (kCg (some 15) [1] (d0N hy2) (kr 1 (kDr (kD 5 ?_))))
 obtain⟨y0,hy3,h7⟩:=a0l h6
 refine kC0 (some 21) [([],[]),([],[]),([0,1],[]),([],[]),([0,1],[]),([],[6,7])] (g0R hy3) (kD 1 ?_)
 obtain⟨y2,hy4,h8⟩:=a0l h7
 exact RJ.callX (d:=(some 23)) (f:=161) (args:=[.vc 2,iM 35,iL (IntKind.wrap .i64 (x0.u_-y0))]) (args0:=[.vc 0,iM 35,iL (IntKind.wrap .i64 (x0.u_-y0))]) (v0:= .vc 1) (v:= .vc 4) (tr2:=[([],[]),([],[]),([0,1],[]),([],[]),([0,1],[]),([],[6,7]),([],[]),([4,5],[4,5,8,9,8,9])]) (H0:=[a0H (a0s .i32) 1 21 y5]) (H0':=[.gone,a0H (a0s .i32) 1 21 y2]) (H2:=[.box (a0b x0), .gone, .gone, .res,a0H (a0s .i32) 1 21 y2]) 4 [2] (by kernel_rfl) (by kernel_rfl) (by kernel_rfl) (by kernel_rfl) (by kernel_rfl) (by kernel_rfl) (by decide) (by kernel_rfl) (by kernel_rfl) (by kernel_rfl) (LeL.refl _) (d0N hy4) (by kernel_rfl) (by kernel_rfl) (by kernel_rfl) (kD 1 (kE (kNW h8 W V [0,4])))
 refine kn 2 ?_
 obtain⟨y3,hy5,h9⟩:=a0l h5
 refine RJ.wk (Wk.viv 24 1 21 (by kernel_rfl)) (kCg (some 26) [1] (m0N hy5) (kr 1 (kq (kBT 29 h9 (λh10=> ?_) (λh11=> ?_)))))
 refine kn 2 (kAp 32 2 4 1 21 [2,3] (a0s .i32) h10 (λh12=>kr 1 (kn 3 ?_)))
 obtain⟨y6,hy6,h13⟩:=a0l h12
 refine kCg (some 36) [4] (d0N hy6) (kr 1 (kDr (kD 5 ?_)))
 obtain⟨y1,hy7,h14⟩:=a0l h13
 refine kC0 (some 42) [([],[]),([],[]),([0,1],[]),([],[]),([0,1],[]),([],[12,13])] (g0R hy7) (kD 1 ?_)
 obtain⟨y4,hy8,h15⟩:=a0l h14
 exact RJ.callX (d:=(some 44)) (f:=161) (args:=[.vc 5,iM 35,iL (IntKind.wrap .i64 (x0.o_-y1))]) (args0:=[.vc 0,iM 35,iL (IntKind.wrap .i64 (x0.o_-y1))]) (v0:= .vc 1) (v:= .vc 7) (tr2:=[([],[]),([],[]),([0,1],[]),([],[]),([0,1],[]),([],[12,13]),([],[]),([10,11],[10,11,14,15,14,15])]) (H0:=[a0H (a0s .i32) 1 21 y6]) (H0':=[.gone,a0H (a0s .i32) 1 21 y4]) (H2:=[.box (a0b x0), .gone, .gone,a0H (a0s .i32) 1 21 ([46]:List Int), .gone, .gone, .res,a0H (a0s .i32) 1 21 y4]) 7 [5] (by kernel_rfl) (by kernel_rfl) (by kernel_rfl) (by kernel_rfl) (by kernel_rfl) (by kernel_rfl) (by decide) (by kernel_rfl) (by kernel_rfl) (by kernel_rfl) (LeL.refl _) (d0N hy8) (by kernel_rfl) (by kernel_rfl) (by kernel_rfl) (kD 1 (kE (kNW h15 W V [0,7])))
 exact kK (kNW h11 W V [0,2])
 refine kcN h0 (fun(s1:(List Int))=>([(2, .nl),(3, .vc 0)],[a0H (a0s .i32) 1 21 s1])) (λs1 hy9=> ?_) (λs1 h16=> ?_)
 refine kq (kBT 47 hy9 (λh17=> ?_) (λh18=> ?_))
 refine kn 2 (kAp 50 1 3 1 21 [1,2] (a0s .i32) h17 (λh19=>kr 1 (kcN h19 (fun(s3:(List Int))=>([(1, .ptr 0 0),(2, .nl),(3, .vc 1)],[.box (a0b x0),a0H (a0s .i32) 1 21 s3])) (λs3 hy10=> ?_) (λs3 h20=> ?_))))
 exact kq (kBT 52 hy10 (λh21=>km 2 (kAp 55 3 5 1 21 [3,4] (a0s .i32) h21 (λh23=>ke 1 (kNW h23 W V [0,5])))) (λh22=>kK (kNW h22 W V [0,3])))
 refine km 3 ?_
 obtain⟨y7,hy11,h24⟩:=a0l h20
 exact kCg (some 59) [1] (d0N hy11) (ke 1 (kNW h24 W V [2]))
 exact kK (kNW h18 W V [1])
 exact kq (kX (by obtain rfl:=oi h16;exact PJ.wk (Wk.freeze 0 (n:=s1.length) (k:=1) (e:=21) (cs:=s1.flatMap (a0s .i32)) (by kernel_rfl)) (kZ D W V)))
def j0k(x0:List Int)(x1:a0j)(x2:Int):Option (List Int):=
 (bif(decide (¬x1.P_=x2))then(some x0)else(bif room (x0.length+([42,x1.B_]:List Int).length)then(some (x0++([42,x1.B_]:List Int)))else none))
theorem g0E {x0:List Int} {x1:a0j} {x2:Int} {r:List Int} (h:j0k x0 x1 x2=some r):SQ 353 [.vc 0, .agg (a0b x1),iL x2] [a0H (a0s .i32) 1 21 x0] (.vc 1) [.gone,a0H (a0s .i32) 1 21 r]:=by
 refine kFn (fn:=Tryz.f353) (λF D W V=> ?_)
 unfold j0k at h
 exact J.wk (Wk.move 0 (n:=x0.length) (k:=1) (e:=21) (cs:=x0.flatMap (a0s .i32)) (by kernel_rfl)) (kq (kS (kq (kBT 10 h (λh0=>kq (kX (PJ.passRet (by obtain rfl:=oi h0;exact kRV [0,1] (.inr rfl) D W V)))) (λh1=>kKN (kn 4 (kAp 16 1 4 1 21 [1,3] (a0s .i32) h1 (λh2=>kr 1 (kX (by obtain rfl:=oi h2;exact kRV [0,4] (.inr rfl) D W V))))))))))
def j0j(x0:a0c):Option (List Int):=
 (bif(decide (x0.ae_=0))then(bif(decide (x0.R_=39))then(some ([x0.R_,x0.R_]:List Int))else(some ([x0.R_]:List Int)))else(Option.bind (Option.bind g0a λy0=>(Option.bind (j0s (fun(e41:Int×Int)=>(bif(decide (e41.2=x0.ae_))then(some (.inr (.inr ([e41.1]:List Int))))else(some (.inl ())))) ([(45,1),(43,2),(37,3),(164,4)]:List (Int×Int))) (a0m fun(_:Unit)=>(some (.inl ()))))) (a0m fun(s0:Unit)=>(some ([]:List Int)))))
theorem q0r {x0:a0c} {r:List Int} (h:j0j x0=some r):SQ 387 [.agg (a0a x0)] [] (lR r) []:=by
 refine kFn (fn:=Tryz.f387) (λF D W V=> ?_)
 unfold j0j at h
 refine kq (kS (kq (kBT 7 h (λh1=> ?_) (λh2=> ?_))))
 exact kS (kq (kBT 10 h1 (λh3=>kq (kX (PJ.passRet (PJ.passRet (by obtain rfl:=oi h3;exact PJ.wk (Wk.freeze 1 (n:=([x0.R_,x0.R_]:List Int).length) (k:=1) (e:=21) (cs:=([x0.R_,x0.R_]:List Int).flatMap (a0s .i32)) (by kernel_rfl)) (kZ D W V)))))) (λh4=>kKN (kq (kX (PJ.passRet (by obtain rfl:=oi h4;exact PJ.wk (Wk.freeze 1 (n:=([x0.R_]:List Int).length) (k:=1) (e:=21) (cs:=([x0.R_]:List Int).flatMap (a0s .i32)) (by kernel_rfl)) (kZ D W V))))))))
 refine kKN (kcX h2 (fun(s0:Unit)=>([(2, .nl)],[])) (λy1 hy0 h5=> ?_) (λs0 h6=> ?_))
 refine kSR ?_
 obtain⟨y0,hy1,h7⟩:=a0l hy0
 refine kCg (some 19) [] (j0i hy1) (RJ.range (d:=(some 20)) (i:=1) (n:=(c0B (λk:Int=>iM k) (λk:Int=>iL k) ([(45,1),(43,2),(37,3),(164,4)]:List (Int×Int))).length) (by kernel_rfl) (kEN (kb 0 (J.wk (Wk.sel (L2:=[(1, .ptr 0 0),(2, .nl),(20, .ptr 1 0)]) (H2:=[.box (a0a x0), .itr 2 ((c0B (λk:Int=>iM k) (λk:Int=>iL k) ([(45,1),(43,2),(37,3),(164,4)]:List (Int×Int))).length) ([]:List Nat), .map (c0B (λk:Int=>iM k) (λk:Int=>iL k) ([(45,1),(43,2),(37,3),(164,4)]:List (Int×Int)))]) 0 (by rw[W];rfl) V [0,2,1] (by kernel_rfl) (by simp only[aj,aF,d0S (ek:=(λk:Int=>iM k)) (ev:=(λk:Int=>iL k)) (λ_ _=>rfl) (λ_ _=>rfl)];kernel_rfl) (by decide) (by simp only[aE,aX,c0M (ek:=(λk:Int=>iM k)) (ev:=(λk:Int=>iL k)) (λ_ _=>rfl) (λ_ _=>rfl)];kernel_rfl) (by kernel_rfl) (by kernel_rfl) (by kernel_rfl)) ?_))))
 obtain⟨y2,hy2,h0⟩:=a0l h7
 refine K.mapLoop 20 21 22 0 1 2 (n:=(c0B (λk:Int=>iM k) (λk:Int=>iL k) ([(45,1),(43,2),(37,3),(164,4)]:List (Int×Int))).length) (by kernel_rfl) (by kernel_rfl) _ _ (λp:Int×Int=>((λk:Int=>iM k) p.1,(λk:Int=>iL k) p.2)) hy2 [1,2,20] (L2:=[(1, .ptr 0 0),(2, .nl),(20, .ptr 1 0)]) (by kernel_rfl) (by kernel_rfl) (by kernel_rfl) (by kernel_rfl) (by kernel_rfl) (by kernel_rfl) (λsq=> [.box (a0a x0), .itr 2 ((c0B (λk:Int=>iM k) (λk:Int=>iL k) ([(45,1),(43,2),(37,3),(164,4)]:List (Int×Int))).length) sq, .map (c0B (λk:Int=>iM k) (λk:Int=>iL k) ([(45,1),(43,2),(37,3),(164,4)]:List (Int×Int)))]) (by kernel_rfl) (λ_ _=>by kernel_rfl) (λ_=>by kernel_rfl) (λ_=>by kernel_rfl) rfl (λsv42 he0=> ?_) (λsv42 bv43 e41 x51 hb0 hx38=> ?_)
 subst he0
 have h8:=l0x h0
 exact PJ.blockOut (kXW h8 W V [])
 refine kb 1 (kSR (RJ.entry (d:=(some 23)) (i:=2) (n:=(c0B (λk:Int=>iM k) (λk:Int=>iL k) ([(45,1),(43,2),(37,3),(164,4)]:List (Int×Int))).length) (b:=bv43) (s:=sv42) (kv:=((iM e41.1:SV),(iL e41.2:SV))) (by kernel_rfl) (by kernel_rfl) rfl hb0 (kr 4 (kq (kBT 29 hx38 (λh9=> ?_) (λh10=> ?_))))))
 refine kq (kXb ?_)
 obtain rfl:=oi h9
 refine PJ.mapOut (λe=>nomatch e) (λhe1=> ?_)
 subst he1
 have h11:=b0S h0
 exact PJ.blockRet (kCx h11 h5 (λh12=>by obtain rfl:=oi h12;exact PJ.wk (Wk.freeze 3 (n:=([e41.1]:List Int).length) (k:=1) (e:=21) (cs:=([e41.1]:List Int).flatMap (a0s .i32)) (by kernel_rfl)) (kZ D W V)))
 exact kKb (by obtain rfl:=oi h10;exact PJ.mapNext [1,2,20] (by kernel_rfl) (by kernel_rfl))
 exact kq (kX (by obtain rfl:=oi h6;exact PJ.res (v1:= .nl) (Le.nl _) (kZ D W V)))
def g0b(x0:List Int)(x1:List a0c):Option (List Int):=
 (Option.bind (a0x (fun(s0:Bool×Int×(List Int))=>(bif(decide (s0.2.1<(x1.length:Int)))then(Option.bind (bif inR s0.2.1 x1.length then(Option.bind (bif(decide (((nth x1 s0.2.1).ae_)=0))then(some ((decide (((nth x1 s0.2.1).R_)=39))))else(some false)) fun(s3:Bool)=>(Option.bind (bif s3 then(bif s0.1 then(some true)else(bif(!s3)then(bif(decide (((nth x1 s0.2.1).ae_)=0))then(Option.bind (e0G ((nth x1 s0.2.1).R_)) λy1=>(some y1))else(some false))else(some false)))else(bif(!s3)then(bif(decide (((nth x1 s0.2.1).ae_)=0))then(Option.bind (e0G ((nth x1 s0.2.1).R_)) λy2=>(some y2))else(some false))else(some false))) fun(s5:Bool)=>(Option.bind (bif(s5 !=s0.1)then(bif room (s0.2.2.length+([39]:List Int).length)then(some (s5,(s0.2.2++([39]:List Int))))else none)else(some (s0.1,s0.2.2))) fun(s2:Bool×(List Int))=>(Option.bind (j0j (nth x1 s0.2.1)) λy0=>(bif room (s2.2.length+y0.length)then(some (s2.1,(s2.2++y0)))else none)))))else none) fun(s4:Bool×(List Int))=>(some (.inl (s4.1,(IntKind.wrap .i64 (s0.2.1+1)),s4.2))))else(some (.inr (s0.1,s0.2.2))))) big (false,0,x0)) fun(s1:Bool×(List Int))=>(Option.bind (bif s1.1 then(bif room (s1.2.length+([39]:List Int).length)then(some (s1.2++([39]:List Int)))else none)else(some s1.2)) fun(s6:(List Int))=>(some s6)))
theorem f0i {x0:List Int} {x1:List a0c} {r:List Int} (h:g0b x0 x1=some r):SQ 354 [.vc 0,lsv a0a 2 x1] [a0H (a0s .i32) 1 21 x0] (.vc 1) [.gone,a0H (a0s .i32) 1 21 r]:=by
 refine kFn (fn:=Tryz.f354) (λF D W V=> ?_)
 unfold g0b at h
 exact J.wk (Wk.move 0 (n:=x0.length) (k:=1) (e:=21) (cs:=x0.flatMap (a0s .i32)) (by kernel_rfl)) (kq (kq (kcN h (fun(s1:Bool×(List Int))=>([(0, .vc 1),(4, .nl),(5, .bool s1.1)],[.gone,a0H (a0s .i32) 1 21 s1.2])) (λs1 hy0=>kq (kb 0 (kl (fun(s0:Bool×Int×(List Int))=>([(0, .vc 1),(4, .nl),(5, .bool s0.1),(10,lsv a0a 2 x1),(11,iL (x1.length:Int)),(12,iL s0.2.1)],[.gone,a0H (a0s .i32) 1 21 s0.2.2])) hy0 [0,4,5,10,11,12] (λs0 x857 hs0=>kq (kS (kBT 13 hs0 (λh1=>kKN (kcN h1 (fun(s4:Bool×(List Int))=>([(0, .vc 1),(4, .nl),(5, .bool s4.1),(10,lsv a0a 2 x1),(11,iL (x1.length:Int)),(12,iL s0.2.1)],[.gone,a0H (a0s .i32) 1 21 s4.2])) (λs4 hy1=>kb 1 (kSR (kIb 14 a0C hy1 (λh4=>kr 3 (kcN h4 (fun(s3:Bool)=>([(0, .vc 1),(4, .nl),(5, .bool s0.1),(7, .ptr 2 0),(8, .bool s3),(10,lsv a0a 2 x1),(11,iL (x1.length:Int)),(12,iL s0.2.1)],[.gone,a0H (a0s .i32) 1 21 s0.2.2, .box [iL ((nth x1 s0.2.1).ae_),iM ((nth x1 s0.2.1).R_)]])) (λs3 hy2=>km 4 (kB 19 hy2 (λh6=>ke 5 (kNo h6 [0,4,5,7,8,10,11,12])) (λh7=>ke 5 (kNo h7 [0,4,5,7,8,10,11,12])))) (λs3 h5=>kcN h5 (fun(s5:Bool)=>([(0, .vc 1),(4, .nl),(5, .bool s0.1),(7, .ptr 2 0),(9, .bool s5),(10,lsv a0a 2 x1),(11,iL (x1.length:Int)),(12,iL s0.2.1)],[.gone,a0H (a0s .i32) 1 21 s0.2.2, .box [iL ((nth x1 s0.2.1).ae_),iM ((nth x1 s0.2.1).R_)]])) (λs5 hy3=>km 2 (kB 25 hy3 (λh9=>kc 3 (kB 28 h9 (λh11=>ke 14 (kNo h11 [0,4,5,7,9,10,11,12])) (λh12=>kc 3 (kB 31 h12 (λh13=>kc 5 (kB 36 h13 (λh15=>kc 2 (kAb 39 h15 (λ_=>h0w) (λy1 h17=>ke 3 (kNo h17 [0,4,5,7,9,10,11,12])))) (λh16=>ke 6 (kNo h16 [0,4,5,7,9,10,11,12])))) (λh14=>ke 11 (kNo h14 [0,4,5,7,9,10,11,12])))))) (λh10=>kc 6 (kB 31 h10 (λh18=>kc 5 (kB 36 h18 (λh20=>kc 2 (kAb 39 h20 (λ_=>h0w) (λy2 h22=>ke 3 (kNo h22 [0,4,5,7,9,10,11,12])))) (λh21=>ke 6 (kNo h21 [0,4,5,7,9,10,11,12])))) (λh19=>ke 11 (kNo h19 [0,4,5,7,9,10,11,12])))))) (λs5 h8=>kcN h8 (fun(s2:Bool×(List Int))=>([(0, .vc 1),(4, .nl),(5, .bool s2.1),(7, .ptr 2 0),(10,lsv a0a 2 x1),(11,iL (x1.length:Int)),(12,iL s0.2.1)],[.gone,a0H (a0s .i32) 1 21 s2.2, .box [iL ((nth x1 s0.2.1).ae_),iM ((nth x1 s0.2.1).R_)]])) (λs2 hy4=>kq (kBT 44 hy4 (λh24=>kn 2 (kAp 47 1 4 1 21 [1,3] (a0s .i32) h24 (λh26=>kr 1 (kM (kNW h26 W V [0,4,2]))))) (λh25=>kK (kNo h25 [0,4,5,7,10,11,12])))) (λs2 h23=>km 2 (kAb 51 h23 (λ_=>q0r) (λy0 h27=>kAp 52 1 3 1 21 [1] (a0s .i32) h27 (λh28=>ke 1 (PJ.blockNormal (kNW h28 W V [0,3]))))))))))))) (λs4 h3=>kM (kLo h3 [0,4,5,10,11,12])))) (λh2=>kEp 0 (kLx h2 (λh29=>PJ.blockOut (kNo h29 [0,4,5])))))))))) (λs1 h0=>kcN h0 (fun(s6:(List Int))=>([(0, .vc 1),(4, .nl)],[.gone,a0H (a0s .i32) 1 21 s6])) (λs6 hy5=>kq (kBT 54 hy5 (λh31=>km 2 (kAp 57 1 3 1 21 [1,2] (a0s .i32) h31 (λh33=>ke 1 (kNW h33 W V [0,3])))) (λh32=>kK (kNo h32 [0,4])))) (λs6 h30=>kq (kX (by obtain rfl:=oi h30;exact kRV [0,1] (.inr rfl) D W V)))))))
def g0W(x0:a0j):Option (List Int):=
 (Option.bind (g0K x0) λy0=>(Option.bind (j0k ([]:List Int) x0 1) λy5=>(Option.bind (g0b y5 x0.c_) λy6=>(Option.bind (j0k y6 x0 2) λy3=>(bif room (y3.length+y0.length)then(Option.bind (j0k (y3++y0) x0 3) λy7=>(Option.bind (g0b y7 x0.e_) λy8=>(Option.bind (j0k y8 x0 4) λy1=>(Option.bind (bif x0.O_ then(bif room (y1.length+([59]:List Int).length)then(Option.bind (g0b (y1++([59]:List Int)) x0.A_) λy2=>(bif room (y2.length+y0.length)then(Option.bind (g0b (y2++y0) x0.y_) λy4=>(some y4))else none))else none)else(some y1)) fun(s0:(List Int))=>(some s0)))))else none)))))
theorem n0Y {x0:a0j} {r:List Int} (h:g0W x0=some r):SQ 298 [.agg (a0b x0)] [] (lR r) []:=by
 refine kFn (fn:=Tryz.f298) (λF D W V=> ?_)
 unfold g0W at h
 refine kq (kn 1 (kAb 6 h (λ_=>l0o) (λy0 h0=>kr 1 (kn 1 ?_))))
 obtain⟨y5,hy0,h1⟩:=a0l h0
 refine kCG (some 8) (args:=[.nl, .agg (a0b x0),iL 1]) (v:= .vc 2) (H2:=[.box (a0b x0), .gone,a0H (a0s .i32) 1 21 y5]) [] (SC.nil (args1:=[]) (args2:=[.agg (a0b x0),iL 1]) (H0:=[]) (k:=1) (e:=21) (g0E hy0)) (kr 1 (kn 3 ?_))
 obtain⟨y6,hy1,h2⟩:=a0l h1
 refine kCg (some 12) [2] (f0i hy1) (kr 1 (kn 2 ?_))
 obtain⟨y3,hy2,h3⟩:=a0l h2
 refine kCg (some 15) [3] (g0E hy2) (RJ.seg 1 [1,2,3,4] (L2:=[(1, .ptr 0 0),(2, .nl),(3,lR y0),(4, .vc 4)]) (H2:=[.box (a0b x0), .gone, .gone, .gone,a0H (a0s .i32) 1 21 y3]) (by kernel_rfl) (kEN (kn 2 (kAp 18 4 5 1 21 [4] (a0s .i32) h3 (λh4=>kr 1 (kn 2 ?_))))))
 obtain⟨y7,hy3,h5⟩:=a0l h4
 refine kCg (some 21) [5] (g0E hy3) (kr 1 (kn 3 ?_))
 obtain⟨y8,hy4,h6⟩:=a0l h5
 refine kCg (some 25) [6] (f0i hy4) (kr 1 (kn 2 ?_))
 obtain⟨y1,hy5,h7⟩:=a0l h6
 refine kCg (some 28) [7] (g0E hy5) (kr 1 (kcN h7 (fun(s0:(List Int))=>([(2, .nl),(4, .vc 0)],[a0H (a0s .i32) 1 21 s0])) (λs0 hy6=> ?_) (λs0 h8=> ?_)))
 refine kSR (RJ.seg 2 [1,2,3,4,30] (L2:=[(1, .ptr 0 0),(2, .nl),(3,lR y0),(4, .vc 8),(30, .bool x0.O_)]) (H2:=[.box (a0b x0), .gone, .gone, .gone, .gone, .gone, .gone, .gone,a0H (a0s .i32) 1 21 y1]) (by kernel_rfl) (kEN (kBT 30 hy6 (λh9=> ?_) (λh10=> ?_))))
 refine kS (kDr (kD 2 ?_))
 obtain⟨hm,h11⟩:=b0k h9
 refine RJ.rel (d:=(some 33)) (ef:=⟨.vc 10,[8,9],[(8, .gone),(10, .vec (y1.length+([59]:List Int).length) 1 21 (y1.flatMap (a0s .i32)++([59]:List Int).flatMap (a0s .i32)))]⟩) (ef':=⟨.vc 10,[8,9],[(8, .gone),(10,a0H (a0s .i32) 1 21 (y1++([59]:List Int)))]⟩) (c:=room (y1.length+([59]:List Int).length)) (tr2:=[([],[]),([],[18,19,18,19]),([16,17,18,19],[16,17,20,21,20,21])]) (H2:=[.box (a0b x0), .gone, .gone, .gone, .gone, .gone, .gone, .gone, .gone,a0H (a0s .i32) 1 21 ([59]:List Int),a0H (a0s .i32) 1 21 (y1++([59]:List Int)), .res]) (by kernel_rfl) hm (λhc=>N.app) (by kernel_rfl) (kD 2 ?_)
 obtain⟨y2,hy7,h12⟩:=a0l h11
 refine RJ.callX (d:=(some 36)) (f:=354) (args:=[.vc 10,lsv a0a 2 x0.A_]) (args0:=[.vc 0,lsv a0a 2 x0.A_]) (v0:= .vc 1) (v:= .vc 11) (tr2:=[([],[]),([],[18,19,18,19]),([16,17,18,19],[16,17,20,21,20,21]),([],[]),([0,1],[]),([20,21],[20,21,22,23,22,23])]) (H0:=[a0H (a0s .i32) 1 21 (y1++([59]:List Int))]) (H0':=[.gone,a0H (a0s .i32) 1 21 y2]) (H2:=[.box (a0b x0), .gone, .gone, .gone, .gone, .gone, .gone, .gone, .gone,a0H (a0s .i32) 1 21 ([59]:List Int), .gone,a0H (a0s .i32) 1 21 y2]) 11 [10] (by kernel_rfl) (by kernel_rfl) (by kernel_rfl) (by kernel_rfl) (by kernel_rfl) (by kernel_rfl) (by decide) (by kernel_rfl) (by kernel_rfl) (by kernel_rfl) (LeL.refl _) (f0i hy7) (by kernel_rfl) (by kernel_rfl) (by kernel_rfl) (kD 1 (kEN (kDr (kD 2 ?_))))
 obtain⟨hm,h13⟩:=b0k h12
 refine RJ.rel (d:=(some 39)) (ef:=⟨.vc 12,[11],[(11, .gone),(12, .vec (y2.length+y0.length) 1 21 (y2.flatMap (a0s .i32)++y0.flatMap (a0s .i32)))]⟩) (ef':=⟨.vc 12,[11],[(11, .gone),(12,a0H (a0s .i32) 1 21 (y2++y0))]⟩) (c:=room (y2.length+y0.length)) (tr2:=[([],[]),([],[]),([22,23],[22,23,24,25,24,25])]) (H2:=[.box (a0b x0), .gone, .gone, .gone, .gone, .gone, .gone, .gone, .gone,a0H (a0s .i32) 1 21 ([59]:List Int), .gone, .gone,a0H (a0s .i32) 1 21 (y2++y0), .res]) (by kernel_rfl) hm (λhc=>N.app) (by kernel_rfl) (kD 2 ?_)
 obtain⟨y4,hy8,h14⟩:=a0l h13
 exact RJ.callX (d:=(some 42)) (f:=354) (args:=[.vc 12,lsv a0a 2 x0.y_]) (args0:=[.vc 0,lsv a0a 2 x0.y_]) (v0:= .vc 1) (v:= .vc 13) (tr2:=[([],[]),([],[]),([22,23],[22,23,24,25,24,25]),([],[]),([0,1],[]),([24,25],[24,25,26,27,26,27])]) (H0:=[a0H (a0s .i32) 1 21 (y2++y0)]) (H0':=[.gone,a0H (a0s .i32) 1 21 y4]) (H2:=[.box (a0b x0), .gone, .gone, .gone, .gone, .gone, .gone, .gone, .gone,a0H (a0s .i32) 1 21 ([59]:List Int), .gone, .gone, .gone,a0H (a0s .i32) 1 21 y4]) 13 [12] (by kernel_rfl) (by kernel_rfl) (by kernel_rfl) (by kernel_rfl) (by kernel_rfl) (by kernel_rfl) (by decide) (by kernel_rfl) (by kernel_rfl) (by kernel_rfl) (LeL.refl _) (f0i hy8) (by kernel_rfl) (by kernel_rfl) (by kernel_rfl) (kD 1 (kE (kNW h14 W V [13])))
 exact kK (kNW h10 W V [8])
 exact kq (kX (by obtain rfl:=oi h8;exact PJ.wk (Wk.freeze 0 (n:=s0.length) (k:=1) (e:=21) (cs:=s0.flatMap (a0s .i32)) (by kernel_rfl)) (kZ D W V)))
def m0Y(x0:a0j):Option (List UInt8):=
 (Option.bind (g0W x0) λy0=>(some (l0j y0)))
theorem r0N {x0:a0j} {r:List UInt8} (h:m0Y x0=some r):SQ 232 [.agg (a0b x0)] [] (.str r) []:=by
 refine kFn (fn:=Tryz.f232) (λF D W V=> ?_)
 unfold m0Y at h
 exact kq (kn 1 (kAb 4 h (λ_=>n0Y) (λy0 h0=>RJ.rel (d:=(some 5)) (ef:=⟨.str ((y0.flatMap (a0s .i32)).flatMap Go.Sy.runeB),[],[]⟩) (ef':=⟨.str (l0j y0),[],[]⟩) (c:=(y0.flatMap (a0s .i32)).all j0w) (tr2:=[]) (H2:=[.box (a0b x0)]) (by kernel_rfl) (A0A y0) (λhc=>N.toRStr) (by kernel_rfl) (kr 1 (kX (by cases h0;exact kZ D W V))))))
structure w0U where
 g_:Int
 h_:Int
 n_:Int
 x_:Int
 a4_:Int
 a5_:Int
 a6_:Int
 a7_:Int
 a8_:Int
 a9_:Int
 al_:Int
 deriving Inhabited,DecidableEq
def t0n(x:w0U):List SV:=[.int .i64 x.g_, .int .i64 x.h_, .int .i64 x.n_, .int .i64 x.x_, .int .i64 x.a4_, .int .i64 x.a5_, .int .i64 x.a6_, .int .i64 x.a7_, .int .i64 x.a8_, .int .i64 x.a9_, .int .i64 x.al_]
theorem y0T(x:w0U):(t0n x).length=11:=rfl
def g0X(x0:a0j):Option (w0U):=
 (some (⟨x0.I_,x0.z_,x0.v_,x0.o_,x0.p_,x0.w_,x0.s_,x0.u_,x0.b_,(IntKind.wrap .i64 x0.B_),x0.P_⟩:w0U))
theorem k0B {x0:a0j} {r:w0U} (h:g0X x0=some r):SQ 299 [.agg (a0b x0)] [] (.agg (t0n r)) []:=by
 refine kFn (fn:=Tryz.f299) (λF D W V=> ?_)
 unfold g0X at h
 exact kq (kq (kX (by cases h;exact kZ D W V)))
def f0V(x0 x1:List a0c):Option (Bool):=
 (bif(decide (¬(x0.length:Int)=(x1.length:Int)))then(some false)else(Option.bind (a0x (fun(s0:Int)=>(bif(decide (s0<(x0.length:Int)))then(bif inR s0 x0.length then(bif inR s0 x1.length then(bif(!((decide (((nth x0 s0).ae_)=((nth x1 s0).ae_)))&&((decide (((nth x0 s0).R_)=((nth x1 s0).R_)))&&true)))then(some (.inr (.inr false)))else(some (.inl (IntKind.wrap .i64 (s0+1)))))else none)else none)else(some (.inr (.inl ()))))) big 0) (a0m fun(s1:Unit)=>(some true))))
theorem g0H {x0 x1:List a0c} {r:Bool} (h:f0V x0 x1=some r):SQ 300 [lsv a0a 2 x0,lsv a0a 2 x1] [] (.bool r) []:=by
 refine kFn (fn:=Tryz.f300) (λF D W V=> ?_)
 unfold f0V at h
 refine kq (kS (kq (kBT 10 h (λh0=> ?_) (λh1=> ?_))))
 exact kq (kX (PJ.passRet (by obtain rfl:=oi h0;exact kRV [] (.inr rfl) D W V)))
 refine kKN (kcX h1 (fun(s1:Unit)=>([(4, .bool false)],[])) (λy0 hy0 h2=> ?_) (λs1 h3=> ?_))
 refine kq (kb 0 (kl (fun(s0:Int)=>([(0,lsv a0a 2 x0),(1,lsv a0a 2 x1),(4, .bool false),(12,iL (x0.length:Int)),(13,iL s0)],[])) hy0 [0,1,4,12,13] (λs0 x79 hs0=>kq (kS (kBT 14 hs0 (λh4=> ?_) (λh5=> ?_))))))
 refine kKN (kS (kb 1 (kq (kS (kDr (kD 2 ?_))))))
 obtain⟨hm,h6⟩:=b0k h4
 refine kJ 18 (tr2:=[([],[]),([],[]),([],[])]) a0C hm (kD 3 ?_)
 obtain⟨hm,h7⟩:=b0k h6
 exact kJ 22 (tr2:=[([],[]),([],[]),([],[]),([],[]),([],[]),([],[]),([],[])]) a0C hm (kD 2 (kEN (kBT 24 h7 (λh8=>kq (kXp (kLx h8 (λh10=>PJ.blockRet (kCx h10 h2 (λh11=>by obtain rfl:=oi h11;exact kRV [] (.inr rfl) D W V)))))) (λh9=>kKn (kM (kLo h9 [0,1,4,12,13]))))))
 exact kEp 0 (kLx h5 (λh12=>PJ.blockOut (kXo h12 [4])))
 exact kq (kX (by obtain rfl:=oi h3;exact kRV [] (.inr rfl) D W V))
def l0p(x0 x1:a0j):Option (Bool):=
 (Option.bind (Option.bind (g0X x0) λy0=>(Option.bind (g0X x1) λy1=>(bif((decide (y0.g_=y1.g_))&&((decide (y0.h_=y1.h_))&&((decide (y0.n_=y1.n_))&&((decide (y0.x_=y1.x_))&&((decide (y0.a4_=y1.a4_))&&((decide (y0.a5_=y1.a5_))&&((decide (y0.a6_=y1.a6_))&&((decide (y0.a7_=y1.a7_))&&((decide (y0.a8_=y1.a8_))&&((decide (y0.a9_=y1.a9_))&&((decide (y0.al_=y1.al_))&&true)))))))))))then(bif(x0.O_==x1.O_)then(bif(x0.U_==x1.U_)then(Option.bind (f0V x0.c_ x1.c_) λy2=>(bif y2 then(Option.bind (f0V x0.e_ x1.e_) λy3=>(bif y3 then(Option.bind (f0V x0.A_ x1.A_) λy4=>(bif y4 then(Option.bind (f0V x0.y_ x1.y_) λy5=>(some y5))else(some false)))else(some false)))else(some false)))else(some false))else(some false))else(some false)))) fun(s0:Bool)=>(some s0))
theorem r0O {x0 x1:a0j} {r:Bool} (h:l0p x0 x1=some r):SQ 233 [.agg (a0b x0), .agg (a0b x1)] [] (.bool r) []:=by
 refine kFn (fn:=Tryz.f233) (λF D W V=> ?_)
 unfold l0p at h
 refine kq (kcN h (fun(s0:Bool)=>([(4, .bool s0)],[])) (λs0 hy0=> ?_) (λs0 h0=> ?_))
 refine kDr (kD 1 ?_)
 obtain⟨y0,hy1,h1⟩:=a0l hy0
 refine kC0 (some 6) [([0,1],[]),([],[4,5])] (k0B hy1) (kD 1 ?_)
 obtain⟨y1,hy2,h2⟩:=a0l h1
 refine kC0 (some 8) [([0,1],[]),([],[4,5]),([2,3],[]),([],[6,7])] (k0B hy2) (kD 2 (kB 10 h2 (λh3=> ?_) (λh4=> ?_)))
 refine kD 7 (kB 17 h3 (λh5=> ?_) (λh6=> ?_))
 refine kD 7 (kB 24 h5 (λh7=> ?_) (λh8=> ?_))
 refine kD 4 ?_
 obtain⟨y2,hy3,h9⟩:=a0l h7
 refine kC0 (some 29) [([0,1],[]),([],[4,5]),([2,3],[]),([],[6,7]),([],[]),([],[]),([],[]),([0,1],[]),([],[]),([2,3],[]),([],[]),([],[]),([],[]),([],[]),([0,1],[]),([],[]),([2,3],[]),([],[]),([],[]),([],[]),([],[]),([0,1],[]),([],[]),([2,3],[]),([],[8,9])] (g0H hy3) (kD 2 (kB 31 h9 (λh10=> ?_) (λh11=> ?_)))
 refine kD 4 ?_
 obtain⟨y3,hy4,h12⟩:=a0l h10
 refine kC0 (some 36) [([0,1],[]),([],[4,5]),([2,3],[]),([],[6,7]),([],[]),([],[]),([],[]),([0,1],[]),([],[]),([2,3],[]),([],[]),([],[]),([],[]),([],[]),([0,1],[]),([],[]),([2,3],[]),([],[]),([],[]),([],[]),([],[]),([0,1],[]),([],[]),([2,3],[]),([],[8,9]),([],[]),([],[]),([],[]),([0,1],[]),([],[]),([2,3],[]),([],[10,11])] (g0H hy4) (kD 2 (kB 38 h12 (λh13=> ?_) (λh14=> ?_)))
 refine kD 4 ?_
 obtain⟨y4,hy5,h15⟩:=a0l h13
 refine kC0 (some 43) [([0,1],[]),([],[4,5]),([2,3],[]),([],[6,7]),([],[]),([],[]),([],[]),([0,1],[]),([],[]),([2,3],[]),([],[]),([],[]),([],[]),([],[]),([0,1],[]),([],[]),([2,3],[]),([],[]),([],[]),([],[]),([],[]),([0,1],[]),([],[]),([2,3],[]),([],[8,9]),([],[]),([],[]),([],[]),([0,1],[]),([],[]),([2,3],[]),([],[10,11]),([],[]),([],[]),([],[]),([0,1],[]),([],[]),([2,3],[]),([],[12,13])] (g0H hy5) (kD 2 (kB 45 h15 (λh16=> ?_) (λh17=> ?_)))
 refine kD 4 ?_
 obtain⟨y5,hy6,h18⟩:=a0l h16
 exact kC0 (some 50) [([0,1],[]),([],[4,5]),([2,3],[]),([],[6,7]),([],[]),([],[]),([],[]),([0,1],[]),([],[]),([2,3],[]),([],[]),([],[]),([],[]),([],[]),([0,1],[]),([],[]),([2,3],[]),([],[]),([],[]),([],[]),([],[]),([0,1],[]),([],[]),([2,3],[]),([],[8,9]),([],[]),([],[]),([],[]),([0,1],[]),([],[]),([2,3],[]),([],[10,11]),([],[]),([],[]),([],[]),([0,1],[]),([],[]),([2,3],[]),([],[12,13]),([],[]),([],[]),([],[]),([0,1],[]),([],[]),([2,3],[]),([],[14,15])] (g0H hy6) (kD 2 (kE (kNW h18 W V [])))
 exact kD 7 (kE (kNW h17 W V []))
 exact kD 14 (kE (kNW h14 W V []))
 exact kD 21 (kE (kNW h11 W V []))
 exact kD 28 (kE (kNW h8 W V []))
 exact kD 35 (kE (kNW h6 W V []))
 exact kD 42 (kE (kNW h4 W V []))
 exact kX (by cases h0;exact kZ D W V)
def j0m(x0:a0j):Option (Bool):=
 (Option.bind (m0Y x0) λy1=>(Option.bind (h0L y1) λy0=>(Option.bind (bif(decide (y0.2.2=0))then(Option.bind (l0p x0 y0.1) λy2=>(some y2))else(some false)) fun(s0:Bool)=>(some s0))))
theorem q0t {x0:a0j} {r:Bool} (h:j0m x0=some r):SQ 156 [.agg (a0b x0)] [] (.bool r) []:=by
 refine kFn (fn:=Tryz.f156) (λF D W V=> ?_)
 unfold j0m at h
 exact kq (kn 1 (kAb 8 h (λ_=>r0N) (λy1 h0=>kAb 9 h0 (λ_=>m0z) (λy0 h1=>kr 8 (kcN h1 (fun(s0:Bool)=>([(2, .bool s0)],[])) (λs0 hy0=>km 3 (kB 15 hy0 (λh3=>kc 2 (kAb 18 h3 (λ_=>r0O) (λy2 h5=>ke 2 (kNW h5 W V [])))) (λh4=>ke 5 (kNW h4 W V [])))) (λs0 h2=>kX (by cases h2;exact kZ D W V)))))))
def k0a(x0:List UInt8):Option (a0j×Bool):=
 (Option.bind (h0L x0) λy0=>(Option.bind (bif(decide (y0.2.2=0))then(Option.bind (j0m y0.1) λy1=>(some y1))else(some false)) fun(s0:Bool)=>(some (y0.1,s0))))
theorem n0y {x0:List UInt8} {r:a0j×Bool} (h:k0a x0=some r):SQ 91 [.str x0] [] (.tup [.agg (a0b r.1), .bool r.2]) []:=by
 refine kFn (fn:=Tryz.f91) (λF D W V=> ?_)
 unfold k0a at h
 refine kq (kn 1 (kAb 9 h (λ_=>m0z) (λy0 h0=>kr 8 (kcN h0 (fun(s0:Bool)=>([(2, .ptr 0 0),(3, .bool s0)],[.box (a0b y0.1)])) (λs0 hy0=> ?_) (λs0 h1=> ?_)))))
 refine kDr (kD 4 (kB 16 hy0 (λh2=> ?_) (λh3=> ?_)))
 refine kD 1 ?_
 obtain⟨y1,hy1,h4⟩:=a0l h2
 exact kC0 (some 18) [([2,3],[]),([],[]),([],[]),([],[]),([2,3],[]),([],[4,5])] (q0t hy1) (kD 3 (kE (kNW h4 W V [0])))
 exact kD 5 (kE (kNW h3 W V [0]))
 exact kX (by cases h1;exact kZ D W V)
def g0c(x0:a0j)(x1:Int):Option (Bool):=
 (bif(decide (x1=2))then(Option.bind (bif(decide (x0.b_>0))then(bif(decide (x0.I_=0))then(bif(decide (x0.p_=0))then(some (decide (x0.z_=1)))else(some false))else(some false))else(some false)) fun(s0:Bool)=>(some s0))else(Option.bind (bif(decide (x0.s_>0))then(bif(decide (x1=0))then(some true)else(some (decide (x1=1))))else(some false)) fun(s1:Bool)=>(Option.bind (bif(decide (x0.b_=0))then(bif(decide (x0.z_>0))then(some true)else(some s1))else(some false)) fun(s2:Bool)=>(some s2))))
theorem n0z {x0:a0j} {x1:Int} {r:Bool} (h:g0c x0 x1=some r):SQ 153 [.agg (a0b x0),iL x1] [] (.bool r) []:=by
 refine kFn (fn:=Tryz.f153) (λF D W V=> ?_)
 unfold g0c at h
 exact kq (kS (kq (kBT 7 h (λh0=>kcN h0 (fun(s0:Bool)=>([(1,iL x1),(2, .ptr 0 0),(4, .bool s0)],[.box (a0b x0)])) (λs0 hy0=>km 4 (kB 11 hy0 (λh3=>kc 5 (kB 16 h3 (λh5=>kc 5 (kB 21 h5 (λh7=>ke 5 (kNo h7 [1,2,4])) (λh8=>ke 5 (kNo h8 [1,2,4])))) (λh6=>ke 10 (kNo h6 [1,2,4])))) (λh4=>ke 15 (kNo h4 [1,2,4])))) (λs0 h2=>kX (PJ.passRet (by cases h2;exact kZ D W V)))) (λh1=>kKN (kcN h1 (fun(s1:Bool)=>([(2, .ptr 0 0),(4, .bool false),(5, .bool s1)],[.box (a0b x0)])) (λs1 hy1=>km 4 (kB 29 hy1 (λh10=>kc 3 (kB 32 h10 (λh12=>ke 5 (kNo h12 [2,4,5])) (λh13=>ke 5 (kNo h13 [2,4,5])))) (λh11=>ke 8 (kNo h11 [2,4,5])))) (λs1 h9=>kcN h9 (fun(s2:Bool)=>([(4, .bool s2)],[])) (λs2 hy2=>km 4 (kB 40 hy2 (λh15=>kc 4 (kB 44 h15 (λh17=>ke 4 (kNW h17 W V [])) (λh18=>ke 4 (kNW h18 W V [])))) (λh16=>ke 8 (kNW h16 W V [])))) (λs2 h14=>kX (by cases h14;exact kZ D W V))))))))
def e0j(x0:List a0c)(x1:Int):Option (Int):=
 (Option.bind (a0x (fun(s0:Int×Int)=>(bif(decide (s0.2<(x0.length:Int)))then(Option.bind (bif inR s0.2 x0.length then(bif(decide (((nth x0 s0.2).ae_)=x1))then(some (IntKind.wrap .i64 (s0.1+1)))else(some s0.1))else none) fun(s1:Int)=>(some (.inl (s1,(IntKind.wrap .i64 (s0.2+1))))))else(some (.inr s0.1)))) big (0,0)) fun(s2:Int)=>(some s2))
theorem f0W {x0:List a0c} {x1 r:Int} (h:e0j x0 x1=some r):SQ 150 [lsv a0a 2 x0,iL x1] [] (iL r) []:=by
 refine kFn (fn:=Tryz.f150) (λF D W V=> ?_)
 unfold e0j at h
 exact kq (kq (kcN h (fun(s2:Int)=>([(4,iL 0),(5,iL s2)],[])) (λs2 hy0=>kq (kb 0 (kl (fun(s0:Int×Int)=>([(1,iL x1),(4,iL 0),(5,iL s0.1),(8,lsv a0a 2 x0),(9,iL (x0.length:Int)),(10,iL s0.2)],[])) hy0 [1,4,5,8,9,10] (λs0 x101 hs0=>kq (kS (kBT 11 hs0 (λh1=>kKN (kcN h1 (fun(s1:Int)=>([(1,iL x1),(4,iL 0),(5,iL s1),(8,lsv a0a 2 x0),(9,iL (x0.length:Int)),(10,iL s0.2)],[])) (λs1 hy1=>kb 1 (kSR (kIb 12 a0C hy1 (λh4=>kr 3 (kq (kBT 17 h4 (λh5=>kM (PJ.blockNormal (kNW h5 W V []))) (λh6=>kKb (kNW h6 W V [])))))))) (λs1 h3=>kM (kLo h3 [1,4,5,8,9,10])))) (λh2=>kEp 0 (kLx h2 (λh7=>PJ.blockOut (kNo h7 [4,5])))))))))) (λs2 h0=>kq (kX (by cases h0;exact kZ D W V)))))
def c0q(x0:Int)(x1 x2:List a0c):Option (Int):=
 (Option.bind (e0j x1 x0) λy0=>(Option.bind (e0j x2 x0) λy1=>(some (IntKind.wrap .i64 (y0+y1)))))
theorem d0W {x0:Int} {x1 x2:List a0c} {r:Int} (h:c0q x0 x1 x2=some r):SQ 158 [iL x0, .ptr 0 0, .ptr 1 0] [.box [lsv a0a 2 x1], .box [lsv a0a 2 x2]] (iL r) [.box [lsv a0a 2 x1], .box [lsv a0a 2 x2]]:=by
 refine kFn (fn:=Tryz.f158) (λF D W V=> ?_)
 unfold c0q at h
 refine kq (kS (kDr (kD 2 ?_)))
 obtain⟨y0,hy0,h0⟩:=a0l h
 refine kC0 (some 7) [([0,1],[]),([],[]),([],[4,5])] (f0W hy0) (kD 2 ?_)
 obtain⟨y1,hy1,h1⟩:=a0l h0
 exact kC0 (some 10) [([0,1],[]),([],[]),([],[4,5]),([2,3],[]),([],[]),([],[6,7])] (f0W hy1) (kD 2 (kEN (kX (by obtain rfl:=oi h1;exact kRV [0,1] (.inr rfl) D W V))))
def f0O(x0 x1:List a0c)(x2 x3:Int):Option (Bool):=
 (Option.bind (bif(decide (x2=1))then(some (1,0))else(bif(decide (x2=3))then(some (0,1))else(some (0,0)))) fun(s0:Int×Int)=>(Option.bind (Option.bind (c0q 3 x0 x1) λy0=>(bif(decide (y0=s0.1))then(Option.bind (c0q 4 x0 x1) λy1=>(bif(decide (y1=s0.2))then(Option.bind (c0q 2 x0 x1) λy2=>(bif(decide (y2=0))then(Option.bind (c0q 1 x0 x1) λy3=>(some (decide (y3<=x3))))else(some false)))else(some false)))else(some false))) fun(s1:Bool)=>(some s1)))
theorem i0f {x0 x1:List a0c} {x2 x3:Int} {r:Bool} (h:f0O x0 x1 x2 x3=some r):SQ 93 [lsv a0a 2 x0,lsv a0a 2 x1,iL x2,iL x3] [] (.bool r) []:=by
 refine kFn (fn:=Tryz.f93) (λF D W V=> ?_)
 unfold f0O at h
 refine kq (kq (kq (kcN h (fun(s0:Int×Int)=>([(3,iL x3),(8, .bool false),(9, .fn (.func 158) [] [.ptr 0 0, .ptr 1 0]),(10,iL s0.1),(11,iL s0.2)],[.box [lsv a0a 2 x0], .box [lsv a0a 2 x1]])) (λs0 hy0=> ?_) (λs0 h0=> ?_))))
 exact kq (kb 0 (kq (kBT 14 hy0 (λh1=>kM (PJ.blockNormal (kNo h1 [3,8,9,10,11]))) (λh2=>kq (kBT 16 h2 (λh3=>kM (PJ.blockNormal (kNo h3 [3,8,9,10,11]))) (λh4=>kKb (kNo h4 [3,8,9,10,11])))))))
 refine kcN h0 (fun(s1:Bool)=>([(8, .bool s1)],[])) (λs1 hy1=> ?_) (λs1 h5=> ?_)
 refine km 1 ?_
 obtain⟨y0,hy2,h6⟩:=a0l hy1
 refine kCg (some 19) [0,1] (d0W hy2) (kc 3 (kB 22 h6 (λh7=> ?_) (λh8=> ?_)))
 refine kc 1 ?_
 obtain⟨y1,hy3,h9⟩:=a0l h7
 refine kCg (some 24) [0,1] (d0W hy3) (kc 4 (kB 28 h9 (λh10=> ?_) (λh11=> ?_)))
 refine kc 1 ?_
 obtain⟨y2,hy4,h12⟩:=a0l h10
 refine kCg (some 30) [0,1] (d0W hy4) (kc 3 (kB 33 h12 (λh13=> ?_) (λh14=> ?_)))
 refine kc 1 ?_
 obtain⟨y3,hy5,h15⟩:=a0l h13
 exact kCg (some 35) [0,1] (d0W hy5) (ke 4 (kNW h15 W V []))
 exact ke 6 (kNW h14 W V [])
 exact ke 11 (kNW h11 W V [])
 exact ke 17 (kNW h8 W V [])
 exact kX (by cases h5;exact kZ D W V)
structure u0t where
 g_:f0B
 h_:f0B
 n_:f0B
 deriving Inhabited,DecidableEq
def d0L(x:u0t):List SV:=[lsv (a0s .i32) 1 x.g_.c_,lsv (a0s .i32) 1 x.g_.e_,lsv (a0s .i32) 1 x.h_.c_,lsv (a0s .i32) 1 x.h_.e_,lsv (a0s .i32) 1 x.n_.c_,lsv (a0s .i32) 1 x.n_.e_]
theorem y0W(x:u0t):(d0L x).length=6:=rfl
def e0Y(x0:List a0c):Option (List a0c):=
 (bif(Nat.beq x0.length 0)then l0a (some ([]:List a0c)) (bif room x0.length then(some x0)else none)else(bif room x0.length then(some x0)else none))
theorem h0U {x0 r:List a0c} (h:e0Y x0=some r):SQ 229 [lsv a0a 2 x0] [] (.vc 0) [a0H a0a 2 225 r]:=by
 refine kFn (fn:=Tryz.f229) (λF D W V=> ?_)
 unfold e0Y at h
 refine kq (kS (kn 1 (RJ.isNil (d:=4) (n:=x0.length) (eq:=true) (by kernel_rfl) (λb hb0=> ?_))))
 cases b
 have h0:=r0l h
 refine kEN (kF (kKN (kn 2 ?_)))
 obtain⟨hm,h1⟩:=b0k h0
 exact RJ.rel (d:=(some 7)) (ef':=⟨.vc 0,[],[(0, .vec x0.length 2 225 (x0.flatMap a0a))]⟩) (tr2:=[]) (H2:=[a0H a0a 2 225 x0]) (by kernel_rfl) hm (λhc=>rfl) (by kernel_rfl) (kr 1 (kX (by obtain rfl:=oi h1;exact kRV [0] (.inr rfl) D W V)))
 have h2:=r0k (by rw[hb0 rfl];rfl) h
 exact kEN (kT (kq (kX (PJ.passRet (by obtain rfl:=oi h2;exact PJ.wk (Wk.viv 2 2 225 (by kernel_rfl)) (kRV [0] (.inr rfl) D W V))))))
def d0m(x0 x1:List a0c):Option (List a0c):=
 (Option.bind (e0Y x1) λy0=>(bif room (y0.length+x0.length)then(some (y0++x0))else none))
theorem d0E {x0 x1 r:List a0c} (h:d0m x0 x1=some r):SQ 149 [lsv a0a 2 x0,lsv a0a 2 x1] [] (lsv a0a 2 r) []:=by
 refine kFn (fn:=Tryz.f149) (λF D W V=> ?_)
 unfold d0m at h
 refine kq (kn 1 ?_)
 obtain⟨y0,hy0,h0⟩:=a0l h
 exact kCg (some 6) [] (h0U hy0) (kc 1 (kAp 8 0 1 2 225 [0] a0a h0 (λh1=>kr 1 (kX (by obtain rfl:=oi h1;exact PJ.wk (Wk.freeze 1 (n:=(y0++x0).length) (k:=2) (e:=225) (cs:=(y0++x0).flatMap a0a) (by kernel_rfl)) (kZ D W V))))))
def e0Z(x0:List a0c):Option (List a0c):=
 (Option.bind (e0Y x0) λy0=>(Option.bind (a0x (fun(s0:Int×(List a0c))=>(bif(decide (s0.1<(y0.length:Int)))then(Option.bind (bif inR s0.1 s0.2.length then(bif inR s0.1 s0.2.length then(bif(decide (((nth s0.2 s0.1).ae_)=1))then(bif inR s0.1 s0.2.length then(bif inR s0.1 s0.2.length then(some (m0J s0.2 s0.1 (⟨2,0⟩:a0c)))else none)else none)else(some s0.2))else none)else none) fun(s2:(List a0c))=>(some (.inl ((IntKind.wrap .i64 (s0.1+1)),s2))))else(some (.inr s0.2)))) big (0,y0)) fun(s1:(List a0c))=>(some s1)))
theorem j0T {x0 r:List a0c} (h:e0Z x0=some r):SQ 151 [lsv a0a 2 x0] [] (lsv a0a 2 r) []:=by
 refine kFn (fn:=Tryz.f151) (λF D W V=> ?_)
 unfold e0Z at h
 refine kq (kn 1 ?_)
 obtain⟨y0,hy0,h0⟩:=a0l h
 refine kCg (some 6) [] (h0U hy0) (kr 1 (kcN h0 (fun(s1:(List a0c))=>([(0, .vc 0),(2, .nl)],[a0H a0a 2 225 s1])) (λs1 hy1=> ?_) (λs1 h1=> ?_)))
 refine kq (kb 0 (kl (fun(s0:Int×(List a0c))=>([(0, .vc 0),(2, .nl),(7, .vc 0),(8,iL (y0.length:Int)),(9,iL s0.1)],[a0H a0a 2 225 s0.2])) hy1 [0,2,7,8,9] (λs0 x134 hs0=>kq (kS (kBT 10 hs0 (λh2=> ?_) (λh3=> ?_))))))
 refine kKN (kcN h2 (fun(s2:(List a0c))=>([(0, .vc 0),(2, .nl),(7, .vc 0),(8,iL (y0.length:Int)),(9,iL s0.1)],[a0H a0a 2 225 s2])) (λs2 hy2=> ?_) (λs2 h4=> ?_))
 refine kb 1 (kn 1 ?_)
 obtain⟨hm,h5⟩:=b0k hy2
 refine kQ 12 (.ptr 0 ((s0.1:Int).toNat*2)) [0] (tr2:=[]) hm ?_
 obtain⟨hm,h6⟩:=b0k h5
 refine RJ.loadS (d:=(some 13)) (i:=0) (enc:=a0a) (k:=2) (xs:=s0.2) (j:=s0.1) (tr2:=[]) (by kernel_rfl) a0C hm (kr 3 (kq (kBT 16 h6 (λh7=> ?_) (λh8=> ?_))))
 refine km 3 ?_
 obtain⟨hm,h9⟩:=b0k h7
 refine kQ 20 (.ptr 0 ((s0.1:Int).toNat*2)) [0] (tr2:=[]) hm ?_
 obtain⟨hm,h10⟩:=b0k h9
 exact RJ.rel (d:=none) (ef:=⟨.undef,[0],[(0, .vec (s0.2).length 2 225 (splice ((s0.2).flatMap a0a) ((s0.1:Int).toNat*2) (a0a (⟨2,0⟩:a0c))))]⟩) (ef':=⟨.undef,[0],[(0,a0H a0a 2 225 (m0J s0.2 s0.1 (⟨2,0⟩:a0c)))]⟩) (c:=Nat.ble (((s0.1:Int).toNat*2)+(a0a (⟨2,0⟩:a0c)).length) (s0.2.flatMap a0a).length) (tr2:=[]) (H2:=[a0H a0a 2 225 (m0J s0.2 s0.1 (⟨2,0⟩:a0c)), .box [iL ((nth s0.2 s0.1).ae_),iM ((nth s0.2 s0.1).R_)]]) (by kernel_rfl) (p0W a0C hm) (λhc=>N.store a0C hm) (by kernel_rfl) (kE (PJ.blockNormal (kNW h10 W V [0])))
 exact kKb (kNW h8 W V [0])
 exact kM (kLo h4 [0,2,7,8,9])
 exact kEp 0 (kLx h3 (λh11=>PJ.blockOut (kNo h11 [0,2])))
 exact kq (kX (by obtain rfl:=oi h1;exact PJ.wk (Wk.freeze 0 (n:=s1.length) (k:=2) (e:=225) (cs:=s1.flatMap a0a) (by kernel_rfl)) (kZ D W V)))
def g0k(x0:a0j)(x1:Int):Option ((List a0c)×(List a0c)):=
 (bif(decide (x1=1))then(bif x0.O_ then(Option.bind (d0m x0.A_ ([]:List a0c)) λy0=>(Option.bind (d0m x0.y_ ([]:List a0c)) λy1=>(some (y0,y1))))else(Option.bind (d0m x0.c_ ([(⟨1,0⟩:a0c)]:List a0c)) λy2=>(Option.bind (d0m x0.e_ ([]:List a0c)) λy3=>(some (y2,y3)))))else(bif(decide (x1=2))then(Option.bind (Option.bind (bif x0.O_ then(Option.bind (e0j x0.A_ 1) λy4=>(Option.bind (e0j x0.y_ 1) λy5=>(some ((decide ((IntKind.wrap .i64 (y4+y5))>0))))))else(some false)) fun(s0:Bool)=>(bif s0 then(Option.bind (e0Z x0.A_) λy6=>(Option.bind (e0Z x0.y_) λy7=>(some (.inr (y6,y7)))))else(some (.inl ())))) (a0m fun(s1:Unit)=>(Option.bind (d0m x0.c_ ([(⟨2,0⟩:a0c)]:List a0c)) λy8=>(Option.bind (d0m x0.e_ ([]:List a0c)) λy9=>(some (y8,y9))))))else(Option.bind (d0m x0.c_ ([]:List a0c)) λy10=>(Option.bind (d0m x0.e_ ([]:List a0c)) λy11=>(some (y10,y11))))))
theorem n0V {x0:a0j} {x1:Int} {r:(List a0c)×(List a0c)} (h:g0k x0 x1=some r):SQ 88 [.agg (a0b x0),iL x1] [] (.tup [lsv a0a 2 r.1,lsv a0a 2 r.2]) []:=by
 refine kFn (fn:=Tryz.f88) (λF D W V=> ?_)
 unfold g0k at h
 refine kq (kS (kq (kb 0 (kq (kBT 7 h (λh0=> ?_) (λh1=> ?_))))))
 refine kS (kq (kBT 10 h0 (λh2=> ?_) (λh3=> ?_)))
 refine kS (kDr (kD 2 ?_))
 obtain⟨y0,hy0,h4⟩:=a0l h2
 refine RJ.call0 (d:=(some 13)) (f:=149) (args:=[lsv a0a 2 x0.A_, .nl]) (v:=lsv a0a 2 y0) (tr2:=[([],[]),([0,1],[]),([],[2,3])]) (by kernel_rfl) (by kernel_rfl) (.cons (Le.refl _) (.cons (Le.nl _) .nil)) (d0E hy0) (by kernel_rfl) (kD 2 ?_)
 obtain⟨y1,hy1,h5⟩:=a0l h4
 exact RJ.call0 (d:=(some 16)) (f:=149) (args:=[lsv a0a 2 x0.y_, .nl]) (v:=lsv a0a 2 y1) (tr2:=[([],[]),([0,1],[]),([],[2,3]),([],[]),([0,1],[]),([],[4,5])]) (by kernel_rfl) (by kernel_rfl) (.cons (Le.refl _) (.cons (Le.nl _) .nil)) (d0E hy1) (by kernel_rfl) (kD 2 (kEN (kX (PJ.passRet (PJ.blockRet (PJ.passRet (by cases h5;exact kZ D W V)))))))
 refine kKN (kS (kDr (kD 3 (RJ.relZ (d:=(some 20)) (ef:=⟨.lst ([(⟨1,0⟩:a0c)]:List a0c).length 2 (([(⟨1,0⟩:a0c)]:List a0c).flatMap a0a),[],[(1, .vec ([(⟨1,0⟩:a0c)]:List a0c).length 2 225 (([(⟨1,0⟩:a0c)]:List a0c).flatMap a0a)),(1, .gone)]⟩) (ef':=⟨.lst ([(⟨1,0⟩:a0c)]:List a0c).length 2 (([(⟨1,0⟩:a0c)]:List a0c).flatMap a0a),[],[(1, .vec ([(⟨1,0⟩:a0c)]:List a0c).length 2 225 (([(⟨1,0⟩:a0c)]:List a0c).flatMap a0a)),(1, .gone)]⟩) (c:=true) (tr2:=[([],[]),([0,1],[]),([],[]),([],[2,3,2,3,2,3])]) (H2:=[.box (a0b x0), .gone, .res, .res]) (by kernel_rfl) rfl (λhc=>rfl) (by kernel_rfl) ?_))))
 obtain⟨y2,hy2,h6⟩:=a0l h3
 refine kC0 (some 21) [([],[]),([0,1],[]),([],[]),([],[2,3,2,3,2,3]),([],[4,5])] (d0E hy2) (kD 2 ?_)
 obtain⟨y3,hy3,h7⟩:=a0l h6
 exact RJ.call0 (d:=(some 24)) (f:=149) (args:=[lsv a0a 2 x0.e_, .nl]) (v:=lsv a0a 2 y3) (tr2:=[([],[]),([0,1],[]),([],[]),([],[2,3,2,3,2,3]),([],[4,5]),([],[]),([0,1],[]),([],[6,7])]) (by kernel_rfl) (by kernel_rfl) (.cons (Le.refl _) (.cons (Le.nl _) .nil)) (d0E hy3) (by kernel_rfl) (kD 2 (kEN (kXp (by cases h7;exact kZ D W V))))
 refine kq (kBT 25 h1 (λh8=> ?_) (λh9=> ?_))
 refine kcX h8 (fun(s1:Unit)=>([(2, .ptr 0 0),(4, .nl),(5, .nl)],[.box (a0b x0)])) (λy12 hy4 h10=> ?_) (λs1 h11=> ?_)
 refine kcN hy4 (fun(s0:Bool)=>([(2, .ptr 0 0),(4, .nl),(5, .nl),(38, .bool s0)],[.box (a0b x0)])) (λs0 hy5=> ?_) (λs0 h12=> ?_)
 refine kDr (kD 3 (kB 29 hy5 (λh13=> ?_) (λh14=> ?_)))
 refine kD 2 ?_
 obtain⟨y4,hy6,h15⟩:=a0l h13
 refine kC0 (some 32) [([],[]),([0,1],[]),([],[]),([],[]),([0,1],[]),([],[2,3])] (f0W hy6) (kD 2 ?_)
 obtain⟨y5,hy7,h16⟩:=a0l h15
 exact kC0 (some 35) [([],[]),([0,1],[]),([],[]),([],[]),([0,1],[]),([],[2,3]),([],[]),([0,1],[]),([],[4,5])] (f0W hy7) (kD 3 (kE (kNW h16 W V [0])))
 exact kD 9 (kE (kNW h14 W V [0]))
 refine kBT 38 h12 (λh17=> ?_) (λh18=> ?_)
 refine kS (kDr (kD 2 ?_))
 obtain⟨y6,hy8,h19⟩:=a0l h17
 refine kC0 (some 41) [([],[]),([0,1],[]),([],[2,3])] (j0T hy8) (kD 2 ?_)
 obtain⟨y7,hy9,h20⟩:=a0l h19
 exact kC0 (some 44) [([],[]),([0,1],[]),([],[2,3]),([],[]),([0,1],[]),([],[4,5])] (j0T hy9) (kD 2 (kEN (kX (kCx h20 h10 (λh21=>PJ.blockRet (PJ.passRet (by cases h21;exact kZ D W V)))))))
 exact kK (kXo h18 [2,4,5])
 refine kS (kDr (kD 3 (RJ.relZ (d:=(some 48)) (ef:=⟨.lst ([(⟨2,0⟩:a0c)]:List a0c).length 2 (([(⟨2,0⟩:a0c)]:List a0c).flatMap a0a),[],[(1, .vec ([(⟨2,0⟩:a0c)]:List a0c).length 2 225 (([(⟨2,0⟩:a0c)]:List a0c).flatMap a0a)),(1, .gone)]⟩) (ef':=⟨.lst ([(⟨2,0⟩:a0c)]:List a0c).length 2 (([(⟨2,0⟩:a0c)]:List a0c).flatMap a0a),[],[(1, .vec ([(⟨2,0⟩:a0c)]:List a0c).length 2 225 (([(⟨2,0⟩:a0c)]:List a0c).flatMap a0a)),(1, .gone)]⟩) (c:=true) (tr2:=[([],[]),([0,1],[]),([],[]),([],[2,3,2,3,2,3])]) (H2:=[.box (a0b x0), .gone, .res, .res]) (by kernel_rfl) rfl (λhc=>rfl) (by kernel_rfl) ?_)))
 obtain⟨y8,hy10,h22⟩:=a0l h11
 refine kC0 (some 49) [([],[]),([0,1],[]),([],[]),([],[2,3,2,3,2,3]),([],[4,5])] (d0E hy10) (kD 2 ?_)
 obtain⟨y9,hy11,h23⟩:=a0l h22
 exact RJ.call0 (d:=(some 52)) (f:=149) (args:=[lsv a0a 2 x0.e_, .nl]) (v:=lsv a0a 2 y9) (tr2:=[([],[]),([0,1],[]),([],[]),([],[2,3,2,3,2,3]),([],[4,5]),([],[]),([0,1],[]),([],[6,7])]) (by kernel_rfl) (by kernel_rfl) (.cons (Le.refl _) (.cons (Le.nl _) .nil)) (d0E hy11) (by kernel_rfl) (kD 2 (kEN (kXp (by cases h23;exact kZ D W V))))
 refine kKn (kS (kDr (kD 2 ?_)))
 obtain⟨y10,hy12,h24⟩:=a0l h9
 refine RJ.call0 (d:=(some 55)) (f:=149) (args:=[lsv a0a 2 x0.c_, .nl]) (v:=lsv a0a 2 y10) (tr2:=[([],[]),([0,1],[]),([],[2,3])]) (by kernel_rfl) (by kernel_rfl) (.cons (Le.refl _) (.cons (Le.nl _) .nil)) (d0E hy12) (by kernel_rfl) (kD 2 ?_)
 obtain⟨y11,hy13,h25⟩:=a0l h24
 exact RJ.call0 (d:=(some 58)) (f:=149) (args:=[lsv a0a 2 x0.e_, .nl]) (v:=lsv a0a 2 y11) (tr2:=[([],[]),([0,1],[]),([],[2,3]),([],[]),([0,1],[]),([],[4,5])]) (by kernel_rfl) (by kernel_rfl) (.cons (Le.refl _) (.cons (Le.nl _) .nil)) (d0E hy13) (by kernel_rfl) (kD 2 (kEN (kX (by cases h25;exact kZ D W V))))
def e0n(x0:c0T)(x1:List Int):Option (Unit):=
 (some ())
theorem k0x {x0:c0T} {x1:List Int} {r:Unit} (h:e0n x0 x1=some r):SQ 152 [.agg (a0d x0),lR x1] [] (.mp 0) [.map [(iL 1, .vc 1),(iL 2, .vc 2),(iL 3, .vc 3),(iL 4,lR x1)],a0H (a0s .i32) 1 21 ([x0.k_]:List Int),a0H (a0s .i32) 1 21 ([x0.j_]:List Int),a0H (a0s .i32) 1 21 ([x0.m_]:List Int)]:=by
 refine kFn (fn:=Tryz.f152) (λF D W V=> ?_)
 unfold e0n at h
 exact kq (kq (kX (by obtain rfl:=oi h;exact kRV [1,2,3,4] (.inr rfl) D W V)))
def e0p(x0:List a0c)(x1:c0T)(x2:List Int):Option (List Int):=
 (Option.bind (e0n x1 x2) λy0=>(Option.bind (a0x (fun(s0:Int×(List Int))=>(bif(decide (s0.1<(x0.length:Int)))then(Option.bind (bif inR s0.1 x0.length then(bif(decide (((nth x0 s0.1).ae_)=0))then(bif room (s0.2.length+([(nth x0 s0.1).R_]:List Int).length)then(some ((s0.2++([(nth x0 s0.1).R_]:List Int))))else none)else(bif(decide (((nth x0 s0.1).ae_)=1))then(bif room (s0.2.length+([x1.k_]:List Int).length)then(some (s0.2++([x1.k_]:List Int)))else none)else(bif(decide (((nth x0 s0.1).ae_)=2))then(bif room (s0.2.length+([x1.j_]:List Int).length)then(some (s0.2++([x1.j_]:List Int)))else none)else(bif(decide (((nth x0 s0.1).ae_)=3))then(bif room (s0.2.length+([x1.m_]:List Int).length)then(some (s0.2++([x1.m_]:List Int)))else none)else(bif(decide (((nth x0 s0.1).ae_)=4))then(bif room (s0.2.length+x2.length)then(some (s0.2++x2))else none)else(bif room (s0.2.length+([]:List Int).length)then(some (s0.2++([]:List Int)))else none))))))else none) fun(s2:(List Int))=>(some (.inl ((IntKind.wrap .i64 (s0.1+1)),s2))))else(some (.inr s0.2)))) big (0,([]:List Int))) fun(s1:(List Int))=>(some s1)))
theorem i0D {x0:List a0c} {x1:c0T} {x2 r:List Int} (h:e0p x0 x1 x2=some r):SQ 89 [lsv a0a 2 x0, .agg (a0d x1),lR x2] [] (lR r) []:=by
 refine kFn (fn:=Tryz.f89) (λF D W V=> ?_)
 unfold e0p at h
 refine kq (kn 2 ?_)
 obtain⟨y0,hy0,h4⟩:=a0l h
 refine kCg (some 13) [] (k0x hy0) (kr 1 (kq (kcN h4 (fun(s1:(List Int))=>([(6, .nl),(8, .vc 0)],[a0H (a0s .i32) 1 21 s1])) (λs1 hy1=> ?_) (λs1 h5=> ?_))))
 refine kq (kb 0 (J.wk (Wk.viv 8 1 21 (by kernel_rfl)) (J.wk (Wk.sel (L2:=[(6, .nl),(7, .mp 0),(8, .vc 4),(14,lsv a0a 2 x0),(15,iL (x0.length:Int)),(16,iL 0)]) (H2:=[.map [(iL 1, .vc 1),(iL 2, .vc 2),(iL 3, .vc 3),(iL 4,lR x2)],a0H (a0s .i32) 1 21 ([x1.k_]:List Int),a0H (a0s .i32) 1 21 ([x1.j_]:List Int),a0H (a0s .i32) 1 21 ([x1.m_]:List Int),a0H (a0s .i32) 1 21 ([]:List Int)]) 0 (by rw[W];rfl) V [1,2,3,4,5] (by kernel_rfl) (by kernel_rfl) (by decide) (by kernel_rfl) (by kernel_rfl) (by kernel_rfl) (by kernel_rfl)) (kl (fun(s0:Int×(List Int))=>([(6, .nl),(7, .mp 0),(8, .vc 4),(14,lsv a0a 2 x0),(15,iL (x0.length:Int)),(16,iL s0.1)],[.map [(iL 1, .vc 1),(iL 2, .vc 2),(iL 3, .vc 3),(iL 4,lR x2)],a0H (a0s .i32) 1 21 ([x1.k_]:List Int),a0H (a0s .i32) 1 21 ([x1.j_]:List Int),a0H (a0s .i32) 1 21 ([x1.m_]:List Int),a0H (a0s .i32) 1 21 s0.2])) hy1 [6,7,8,14,15,16] (λs0 x324 hs0=>kq (kS (kBT 17 hs0 (λh6=> ?_) (λh7=> ?_))))))))
 refine kKN (kcN h6 (fun(s2:(List Int))=>([(6, .nl),(7, .mp 0),(8, .vc 4),(14,lsv a0a 2 x0),(15,iL (x0.length:Int)),(16,iL s0.1)],[.map [(iL 1, .vc 1),(iL 2, .vc 2),(iL 3, .vc 3),(iL 4,lR x2)],a0H (a0s .i32) 1 21 ([x1.k_]:List Int),a0H (a0s .i32) 1 21 ([x1.j_]:List Int),a0H (a0s .i32) 1 21 ([x1.m_]:List Int),a0H (a0s .i32) 1 21 s2])) (λs2 hy2=> ?_) (λs2 h8=> ?_))
 refine kb 1 (kSR (kIb 18 a0C hy2 (λh9=>kr 3 (kq (kBT 22 h9 (λh10=> ?_) (λh0=> ?_))))))
 exact km 4 (kAp 27 4 7 1 21 [4,6] (a0s .i32) h10 (λh11=>ke 1 (PJ.blockNormal (kNW h11 W V [0,1,2,3,7]))))
 refine km 4 ?_
 cases hb0:(decide (((nth x0 s0.1).ae_)=1))
 have h1:=condF hb0 h0
 have hn367:=of_decide_eq_false hb0
 cases hb1:(decide (((nth x0 s0.1).ae_)=2))
 have h2:=condF hb1 h1
 have hn372:=of_decide_eq_false hb1
 cases hb2:(decide (((nth x0 s0.1).ae_)=3))
 have h3:=condF hb2 h2
 have hn377:=of_decide_eq_false hb2
 cases hb3:(decide (((nth x0 s0.1).ae_)=4))
 have h12:=condF hb3 h3
 have hn382:=of_decide_eq_false hb3
 exact RJ.look (none) (d:=some 32) (ef:=⟨.nl,[0],[]⟩) (c:=k0i (iL ((nth x0 s0.1).ae_)) [(iL 1, .vc 1),(iL 2, .vc 2),(iL 3, .vc 3),(iL 4,lR x2)]) (tr2:=[]) (by kernel_rfl) (by simp[n0K,k0i,k0H,e0F,hn367,hn372,hn377,hn382]) (kAp 33 4 6 1 21 [4] (a0s .i32) h12 (λh13=>ke 1 (PJ.blockNormal (kNW h13 W V [0,1,2,3,6]))))
 have h14:=condT hb3 h3
 have hn382:=of_decide_eq_true hb3
 exact RJ.look (some 3) (d:=some 32) (ef:=⟨lR x2,[0],[]⟩) (c:=n0K (iL ((nth x0 s0.1).ae_)) [(iL 1, .vc 1),(iL 2, .vc 2),(iL 3, .vc 3),(iL 4,lR x2)] 3) (tr2:=[]) (by kernel_rfl) (by simp[n0K,k0i,k0H,e0F,hn367,hn372,hn377,hn382]) (kAp 33 4 6 1 21 [4] (a0s .i32) h14 (λh15=>ke 1 (PJ.blockNormal (kNW h15 W V [0,1,2,3,6]))))
 have h16:=condT hb2 h2
 have hn377:=of_decide_eq_true hb2
 exact RJ.look (some 2) (d:=some 32) (ef:=⟨.vc 3,[0],[]⟩) (c:=n0K (iL ((nth x0 s0.1).ae_)) [(iL 1, .vc 1),(iL 2, .vc 2),(iL 3, .vc 3),(iL 4,lR x2)] 2) (tr2:=[]) (by kernel_rfl) (by simp[n0K,k0i,k0H,e0F,hn367,hn372,hn377]) (kAp 33 4 6 1 21 [4,3] (a0s .i32) h16 (λh17=>ke 1 (PJ.blockNormal (kNW h17 W V [0,1,2,3,6]))))
 have h18:=condT hb1 h1
 have hn372:=of_decide_eq_true hb1
 exact RJ.look (some 1) (d:=some 32) (ef:=⟨.vc 2,[0],[]⟩) (c:=n0K (iL ((nth x0 s0.1).ae_)) [(iL 1, .vc 1),(iL 2, .vc 2),(iL 3, .vc 3),(iL 4,lR x2)] 1) (tr2:=[]) (by kernel_rfl) (by simp[n0K,k0i,k0H,e0F,hn367,hn372]) (kAp 33 4 6 1 21 [4,2] (a0s .i32) h18 (λh19=>ke 1 (PJ.blockNormal (kNW h19 W V [0,1,2,3,6]))))
 have h20:=condT hb0 h0
 have hn367:=of_decide_eq_true hb0
 exact RJ.look (some 0) (d:=some 32) (ef:=⟨.vc 1,[0],[]⟩) (c:=n0K (iL ((nth x0 s0.1).ae_)) [(iL 1, .vc 1),(iL 2, .vc 2),(iL 3, .vc 3),(iL 4,lR x2)] 0) (tr2:=[]) (by kernel_rfl) (by simp[n0K,k0i,k0H,e0F,hn367]) (kAp 33 4 6 1 21 [4,1] (a0s .i32) h20 (λh21=>ke 1 (PJ.blockNormal (kNW h21 W V [0,1,2,3,6]))))
 exact kM (kLo h8 [6,7,8,14,15,16])
 exact kEp 0 (kLx h7 (λh22=>PJ.blockOut (kNW h22 W V [4])))
 exact kq (kX (by obtain rfl:=oi h5;exact PJ.wk (Wk.freeze 0 (n:=s1.length) (k:=1) (e:=21) (cs:=s1.flatMap (a0s .i32)) (by kernel_rfl)) (kZ D W V)))
def g0I(x0:a0j)(x1:c0T)(x2:Int)(x3:List Int):Option (f0B):=
 (Option.bind (g0k x0 x2) λy0=>(Option.bind (e0p y0.1 x1 x3) λy1=>(Option.bind (e0p y0.2 x1 x3) λy2=>(some (⟨y1,y2⟩:f0B)))))
theorem h0f {x0:a0j} {x1:c0T} {x2:Int} {x3:List Int} {r:f0B} (h:g0I x0 x1 x2 x3=some r):SQ 46 [.agg (a0b x0), .agg (a0d x1),iL x2,lR x3] [] (.agg (b0X r)) []:=by
 refine kFn (fn:=Tryz.f46) (λF D W V=> ?_)
 unfold g0I at h
 refine kq (kn 2 (kAb 14 h (λ_=>n0V) (λy0 h0=>kr 5 (kS (kDr (kD 3 ?_))))))
 obtain⟨y1,hy0,h1⟩:=a0l h0
 refine kC0 (some 20) [([],[]),([2,3],[]),([],[]),([],[6,7])] (i0D hy0) (kD 3 ?_)
 obtain⟨y2,hy1,h2⟩:=a0l h1
 exact kC0 (some 24) [([],[]),([2,3],[]),([],[]),([],[6,7]),([],[]),([2,3],[]),([],[]),([],[8,9])] (i0D hy1) (kD 2 (kEN (kX (by cases h2;exact kZ D W V))))
def f0P(x0:c0T)(x1:a0j)(x2:List Int):Option (u0t):=
 (Option.bind (g0I x1 x0 0 x2) λy0=>(Option.bind (g0I x1 x0 1 x2) λy1=>(Option.bind (g0I x1 x0 2 x2) λy2=>(some (⟨y0,y1,y2⟩:u0t)))))
theorem i0g {x0:c0T} {x1:a0j} {x2:List Int} {r:u0t} (h:f0P x0 x1 x2=some r):SQ 118 [.agg (a0d x0), .agg (a0b x1),lR x2] [] (.agg (d0L r)) []:=by
 refine kFn (fn:=Tryz.f118) (λF D W V=> ?_)
 unfold f0P at h
 refine kq (kS (kDr (kD 3 ?_)))
 obtain⟨y0,hy0,h0⟩:=a0l h
 refine kC0 (some 10) [([2,3],[]),([0,1],[]),([],[]),([],[6,7])] (h0f hy0) (kD 3 ?_)
 obtain⟨y1,hy1,h1⟩:=a0l h0
 refine kC0 (some 14) [([2,3],[]),([0,1],[]),([],[]),([],[6,7]),([2,3],[]),([0,1],[]),([],[]),([],[8,9])] (h0f hy1) (kD 3 ?_)
 obtain⟨y2,hy2,h2⟩:=a0l h1
 exact kC0 (some 18) [([2,3],[]),([0,1],[]),([],[]),([],[6,7]),([2,3],[]),([0,1],[]),([],[]),([],[8,9]),([2,3],[]),([0,1],[]),([],[]),([],[10,11])] (h0f hy2) (kD 2 (kEN (kX (by cases h2;exact kZ D W V))))
def f0Y(x0:List Int):Option (List Int):=
 (bif(Nat.beq x0.length 0)then l0a (some ([]:List Int)) (bif room x0.length then(some x0)else none)else(bif room x0.length then(some x0)else none))
theorem l0Q {x0 r:List Int} (h:f0Y x0=some r):SQ 197 [lR x0] [] (.vc 0) [a0H (a0s .i32) 1 21 r]:=by
 refine kFn (fn:=Tryz.f197) (λF D W V=> ?_)
 unfold f0Y at h
 refine kq (kS (kn 1 (RJ.isNil (d:=4) (n:=x0.length) (eq:=true) (by kernel_rfl) (λb hb0=> ?_))))
 cases b
 have h0:=r0l h
 refine kEN (kF (kKN (kn 2 ?_)))
 obtain⟨hm,h1⟩:=b0k h0
 exact RJ.rel (d:=(some 7)) (ef':=⟨.vc 0,[],[(0, .vec x0.length 1 21 (x0.flatMap (a0s .i32)))]⟩) (tr2:=[]) (H2:=[a0H (a0s .i32) 1 21 x0]) (by kernel_rfl) hm (λhc=>rfl) (by kernel_rfl) (kr 1 (kX (by obtain rfl:=oi h1;exact kRV [0] (.inr rfl) D W V)))
 have h2:=r0k (by rw[hb0 rfl];rfl) h
 exact kEN (kT (kq (kX (PJ.passRet (by obtain rfl:=oi h2;exact PJ.wk (Wk.viv 2 1 21 (by kernel_rfl)) (kRV [0] (.inr rfl) D W V))))))
def k0_:List Int:=[48,1632,1776,1984,2406,2534,2662,2790,2918,3046,3174,3302,3430,3664,3792,3872,6112,6160,65296,120782]
def e0i(x0:Int):Option (Int×Bool):=
 (Option.bind (a0x (fun(s0:Int)=>(bif(decide (s0<20))then(Option.bind (bif inR s0 20 then(Option.bind (bif(decide ((nth k0_ s0)<=x0))then(some ((decide (x0<=((IntKind.wrap .i32 ((nth k0_ s0)+9)))))))else(some false)) fun(s1:Bool)=>(bif s1 then(some (.inr (.inr (.inr ((IntKind.wrap .i64 ((IntKind.wrap .i32 (x0-(nth k0_ s0))))),true)))))else(some (.inl ()))))else none) (a0m fun(s2:Unit)=>(some (.inl (IntKind.wrap .i64 (s0+1))))))else(some (.inr (.inl ()))))) big 0) (a0m fun(s3:Unit)=>(some (0,false))))
theorem h0H {x0:Int} {r:Int×Bool} (h:e0i x0=some r):SQ 242 [iM x0] [] (.tup [iL r.1, .bool r.2]) []:=by
 refine kFn (fn:=Tryz.f242) (λF D W V=> ?_)
 unfold e0i at h
 refine kq (kcX h (fun(s3:Unit)=>([(2,iL 0),(3, .bool false)],[])) (λy0 hy0 h0=> ?_) (λs3 h1=> ?_))
 refine kq (kb 0 (kl (fun(s0:Int)=>([(0,iM x0),(2,iL 0),(3, .bool false),(6, .agg [iM 48,iM 1632,iM 1776,iM 1984,iM 2406,iM 2534,iM 2662,iM 2790,iM 2918,iM 3046,iM 3174,iM 3302,iM 3430,iM 3664,iM 3792,iM 3872,iM 6112,iM 6160,iM 65296,iM 120782]),(7,iL s0)],[])) hy0 [0,2,3,6,7] (λs0 x247 hs0=>kq (kS (kBT 8 hs0 (λh2=> ?_) (λh3=> ?_))))))
 refine kKN (kcX h2 (fun(s2:Unit)=>([(0,iM x0),(2,iL 0),(3, .bool false),(6, .agg [iM 48,iM 1632,iM 1776,iM 1984,iM 2406,iM 2534,iM 2662,iM 2790,iM 2918,iM 3046,iM 3174,iM 3302,iM 3430,iM 3664,iM 3792,iM 3872,iM 6112,iM 6160,iM 65296,iM 120782]),(7,iL s0)],[])) (λy1 hy1 h4=> ?_) (λs2 h5=> ?_))
 refine kb 1 (kSR ?_)
 obtain⟨hm,h6⟩:=b0k hy1
 exact RJ.rel (d:=(some 9)) (ef:=⟨((k0_.flatMap (a0s .i32)).drop ((s0:Int).toNat*1)).headD .undef,[],[]⟩) (ef':=⟨iM (nth k0_ s0),[],[]⟩) (c:=inR s0 20) (tr2:=[]) (H2:=[]) (by kernel_rfl) hm (λhc=>N.load1 (a0r .i32) (λ_=>rfl) hc) (by kernel_rfl) (kr 1 (kcN h6 (fun(s1:Bool)=>([(0,iM x0),(2,iL 0),(3, .bool false),(5,iM (nth k0_ s0)),(6, .agg [iM 48,iM 1632,iM 1776,iM 1984,iM 2406,iM 2534,iM 2662,iM 2790,iM 2918,iM 3046,iM 3174,iM 3302,iM 3430,iM 3664,iM 3792,iM 3872,iM 6112,iM 6160,iM 65296,iM 120782]),(7,iL s0),(18, .bool s1)],[])) (λs1 hy2=>km 4 (kB 13 hy2 (λh8=>ke 5 (kNo h8 [0,2,3,5,6,7,18])) (λh9=>ke 5 (kNo h9 [0,2,3,5,6,7,18])))) (λs1 h7=>kBT 18 h7 (λh10=>kq (kXb (kCx h10 h4 (λh12=>kLx h12 (λh13=>PJ.blockRet (kCx h13 h0 (λh14=>by obtain rfl:=oi h14;exact kZ D W V))))))) (λh11=>kKb (kXo h11 [0,2,3,6,7])))))
 exact kM (kLo h5 [0,2,3,6,7])
 exact kEp 0 (kLx h3 (λh15=>PJ.blockOut (kXo h15 [2,3])))
 exact kq (kX (by cases h1;exact kZ D W V))
def f0M(x0:c0T)(x1:Int):Option (Bool):=
 (Option.bind (bif(decide (x1=x0.t_))then(some true)else(bif(decide (x1=x0.r_))then(some true)else(some (decide (x1=x0.b_))))) fun(s0:Bool)=>(some s0))
theorem k0y {x0:c0T} {x1:Int} {r:Bool} (h:f0M x0 x1=some r):SQ 249 [.agg (a0d x0),iM x1] [] (.bool r) []:=by
 refine kFn (fn:=Tryz.f249) (λF D W V=> ?_)
 unfold f0M at h
 exact kq (kcN h (fun(s0:Bool)=>([(4, .bool s0)],[])) (λs0 hy0=>km 5 (kB 9 hy0 (λh1=>ke 12 (kNW h1 W V [])) (λh2=>kc 6 (kB 15 h2 (λh3=>ke 6 (kNW h3 W V [])) (λh4=>ke 6 (kNW h4 W V [])))))) (λs0 h0=>kX (by cases h0;exact kZ D W V)))
structure a0o where
 g_:Int
 h_:Int
 deriving Inhabited,DecidableEq
def a0h(x:a0o):List SV:=[.int .i32 x.g_, .int .i32 x.h_]
theorem y0S(x:a0o):(a0h x).length=2:=rfl
def d0B:Option ((List (a0o×Int))):=
 (some (([((⟨0,31⟩:a0o),1),((⟨127,159⟩:a0o),1),((⟨1564,1564⟩:a0o),2),((⟨8206,8207⟩:a0o),2),((⟨8234,8238⟩:a0o),2),((⟨8294,8297⟩:a0o),2),((⟨64976,65007⟩:a0o),3),((⟨32,32⟩:a0o),4),((⟨160,160⟩:a0o),4),((⟨5760,5760⟩:a0o),4),((⟨8192,8202⟩:a0o),4),((⟨8232,8233⟩:a0o),4),((⟨8239,8239⟩:a0o),4),((⟨8287,8287⟩:a0o),4),((⟨12288,12288⟩:a0o),4)]:List (a0o×Int))))
theorem h0s {r:(List (a0o×Int))} (h:d0B=some r):SQ 243 [] [] (.mp 0) [.pmap (c0B (λk:a0o=> .agg (a0h k)) (λk:Int=>iL k) r)]:=by
 refine kFn (fn:=Tryz.f243) (λF D W V=> ?_)
 unfold d0B at h
 exact kq (kS (J.keep [] (L2:=[]) (by kernel_rfl) (K.mapLitC 369 (es:=c0B (λk:a0o=> .agg (a0h k)) (λk:Int=>iL k) ([((⟨0,31⟩:a0o),1),((⟨127,159⟩:a0o),1),((⟨1564,1564⟩:a0o),2),((⟨8206,8207⟩:a0o),2),((⟨8234,8238⟩:a0o),2),((⟨8294,8297⟩:a0o),2),((⟨64976,65007⟩:a0o),3),((⟨32,32⟩:a0o),4),((⟨160,160⟩:a0o),4),((⟨5760,5760⟩:a0o),4),((⟨8192,8202⟩:a0o),4),((⟨8232,8233⟩:a0o),4),((⟨8239,8239⟩:a0o),4),((⟨8287,8287⟩:a0o),4),((⟨12288,12288⟩:a0o),4)]:List (a0o×Int))) (L2:=[(0, .mp 0)]) (by kernel_rfl) (by kernel_rfl) (n:=0) (by kernel_rfl) (by kernel_rfl) (by kernel_rfl) (by kernel_rfl) (by kernel_rfl) (by kernel_rfl) [0] (by kernel_rfl) (PJ.next (kX (by obtain rfl:=oi h;exact K.retV (H0:=[]) [0] (.inr rfl) D W V (by kernel_rfl) (v1:= .mp 0) (by kernel_rfl) (by kernel_rfl) (by simp only[aj,aF,o0V (ek:=(λk:a0o=> .agg (a0h k))) (ev:=(λk:Int=>iL k)) (λ_ _=>rfl) (λ_ _=>rfl)];kernel_rfl) (by decide) (by simp only[aE,aX,t0O (ek:=(λk:a0o=> .agg (a0h k))) (ev:=(λk:Int=>iL k)) (λ_ _=>rfl) (λ_ _=>rfl)];kernel_rfl) (by kernel_rfl) (by kernel_rfl) (by kernel_rfl) (by kernel_rfl)))))))
def a0A(x0:Int)(x1:List (a0o×Int)):Option (Int×(List (a0o×Int))):=
 (Option.bind (m0x x0) λy0=>(bif(!y0)then(some (6,x1))else(bif(decide ((bits .and .i32 x0 65534)=65534))then(some (3,x1))else(Option.bind (Option.bind (j0s (fun(e49:a0o×Int)=>(Option.bind (bif(decide (e49.1.g_<=x0))then(some (decide (x0<=e49.1.h_)))else(some false)) fun(s0:Bool)=>(bif s0 then(some (.inr (.inr (((g0n (λa b:a0o=>((decide (a.g_=b.g_))&&((decide (a.h_=b.h_))&&true))) x1 e49.1).getD 0),x1))))else(some (.inl ()))))) x1) (a0m fun(_:Unit)=>(some (.inl ())))) (a0m fun(s1:Unit)=>(Option.bind (e0i x0) λy1=>(bif y1.2 then(some (5,x1))else(some (0,x1)))))))))
theorem e0W {x0:Int} {x1:List (a0o×Int)} {r:Int×(List (a0o×Int))} (h:a0A x0 x1=some r):SQ 244 [.mp 0,iM x0] [.map (c0B (λk:a0o=> .agg (a0h k)) (λk:Int=>iL k) x1)] (iL r.1) [.map (c0B (λk:a0o=> .agg (a0h k)) (λk:Int=>iL k) r.2)]:=by
 refine kFn (fn:=Tryz.f244) (λF D W V=> ?_)
 unfold a0A at h
 refine kq (kS (kn 1 (kAb 9 h (λ_=>p0S) (λy0 h1=>kr 1 (kBT 10 h1 (λh2=> ?_) (λh3=> ?_))))))
 exact kq (kX (PJ.passRet (by obtain rfl:=oi h2;exact K.retV (H0:=[.map (c0B (λk:a0o=> .agg (a0h k)) (λk:Int=>iL k) x1)]) [0] (.inr rfl) D W V (by kernel_rfl) (v1:=iL 6) (by kernel_rfl) (by kernel_rfl) (by simp only[aj,aF,d0S (ek:=(λk:a0o=> .agg (a0h k))) (ev:=(λk:Int=>iL k)) (λ_ _=>rfl) (λ_ _=>rfl)];kernel_rfl) (by decide) (by simp only[aE,aX,c0M (ek:=(λk:a0o=> .agg (a0h k))) (ev:=(λk:Int=>iL k)) (λ_ _=>rfl) (λ_ _=>rfl)];kernel_rfl) (by kernel_rfl) (by kernel_rfl) (by kernel_rfl) (by kernel_rfl))))
 refine kKN (kS (kq (kBT 13 h3 (λh4=> ?_) (λh5=> ?_))))
 exact kq (kX (PJ.passRet (by obtain rfl:=oi h4;exact K.retV (H0:=[.map (c0B (λk:a0o=> .agg (a0h k)) (λk:Int=>iL k) x1)]) [0] (.inr rfl) D W V (by kernel_rfl) (v1:=iL 3) (by kernel_rfl) (by kernel_rfl) (by simp only[aj,aF,d0S (ek:=(λk:a0o=> .agg (a0h k))) (ev:=(λk:Int=>iL k)) (λ_ _=>rfl) (λ_ _=>rfl)];kernel_rfl) (by decide) (by simp only[aE,aX,c0M (ek:=(λk:a0o=> .agg (a0h k))) (ev:=(λk:Int=>iL k)) (λ_ _=>rfl) (λ_ _=>rfl)];kernel_rfl) (by kernel_rfl) (by kernel_rfl) (by kernel_rfl) (by kernel_rfl))))
 refine kKN (kcX h5 (fun(s1:Unit)=>([(1,iM x0),(4,iL 0)],[.map (c0B (λk:a0o=> .agg (a0h k)) (λk:Int=>iL k) x1)])) (λy2 hy0 h6=> ?_) (λs1 h7=> ?_))
 refine kn 1 (RJ.range (d:=(some 15)) (i:=0) (n:=(c0B (λk:a0o=> .agg (a0h k)) (λk:Int=>iL k) x1).length) (by kernel_rfl) (kEN (kb 0 ?_)))
 obtain⟨y3,hy1,h0⟩:=a0l hy0
 refine K.mapLoop 15 16 17 0 1 0 (n:=(c0B (λk:a0o=> .agg (a0h k)) (λk:Int=>iL k) x1).length) (by kernel_rfl) (by kernel_rfl) _ _ (λp:a0o×Int=>((λk:a0o=> .agg (a0h k)) p.1,(λk:Int=>iL k) p.2)) hy1 [0,1,4,15] (L2:=[(0, .mp 0),(1,iM x0),(4,iL 0),(15, .ptr 1 0)]) (by kernel_rfl) (by kernel_rfl) (by kernel_rfl) (by kernel_rfl) (by kernel_rfl) (by kernel_rfl) (λsq=> [.map (c0B (λk:a0o=> .agg (a0h k)) (λk:Int=>iL k) x1), .itr 0 ((c0B (λk:a0o=> .agg (a0h k)) (λk:Int=>iL k) x1).length) sq]) (by kernel_rfl) (λ_ _=>by kernel_rfl) (λ_=>by kernel_rfl) (λ_=>by kernel_rfl) rfl (λsv50 he0=> ?_) (λsv50 bv51 e49 x70 hb0 hx46=> ?_)
 subst he0
 have h8:=l0x h0
 exact PJ.blockOut (PJ.wk (Wk.sel (L2:=[(1,iM x0),(4,iL 0)]) (H2:=[.map (c0B (λk:a0o=> .agg (a0h k)) (λk:Int=>iL k) x1)]) 1 (by rw[W];rfl) V [0] (by kernel_rfl) (by simp only[aj,aF,d0S (ek:=(λk:a0o=> .agg (a0h k))) (ev:=(λk:Int=>iL k)) (λ_ _=>rfl) (λ_ _=>rfl)];kernel_rfl) (by decide) (by simp only[aE,aX,c0M (ek:=(λk:a0o=> .agg (a0h k))) (ev:=(λk:Int=>iL k)) (λ_ _=>rfl) (λ_ _=>rfl)];kernel_rfl) (by kernel_rfl) (by kernel_rfl) (by kernel_rfl)) (kXo h8 [1,4]))
 refine kb 1 (kSR (RJ.entry (d:=(some 18)) (i:=0) (n:=(c0B (λk:a0o=> .agg (a0h k)) (λk:Int=>iL k) x1).length) (b:=bv51) (s:=sv50) (kv:=((.agg (a0h e49.1):SV),(iL e49.2:SV))) (by kernel_rfl) (by kernel_rfl) rfl hb0 (kr 3 (kcN hx46 (fun(s0:Bool)=>([(0, .mp 0),(1,iM x0),(4,iL 0),(5, .ptr 1 0),(15, .ptr 2 0),(29, .bool s0)],[.map (c0B (λk:a0o=> .agg (a0h k)) (λk:Int=>iL k) x1), .box (a0h e49.1), .itr 0 ((c0B (λk:a0o=> .agg (a0h k)) (λk:Int=>iL k) x1).length) (sv50++ [bv51])])) (λs0 hy2=> ?_) (λs0 h9=> ?_)))))
 exact km 5 (kB 24 hy2 (λh10=>ke 5 (PJ.wk (Wk.sel (L2:=[(0, .mp 0),(1,iM x0),(4,iL 0),(5, .ptr 1 0),(15, .ptr 2 0),(29, .bool (decide (x0<=e49.1.h_)))]) (H2:=[.map (c0B (λk:a0o=> .agg (a0h k)) (λk:Int=>iL k) x1), .box (a0h e49.1), .itr 0 ((c0B (λk:a0o=> .agg (a0h k)) (λk:Int=>iL k) x1).length) (sv50++ [bv51])]) 1 (by rw[W];rfl) V [0,2,1] (by kernel_rfl) (by simp only[aj,aF,d0S (ek:=(λk:a0o=> .agg (a0h k))) (ev:=(λk:Int=>iL k)) (λ_ _=>rfl) (λ_ _=>rfl)];kernel_rfl) (by decide) (by simp only[aE,aX,c0M (ek:=(λk:a0o=> .agg (a0h k))) (ev:=(λk:Int=>iL k)) (λ_ _=>rfl) (λ_ _=>rfl)];kernel_rfl) (by kernel_rfl) (by kernel_rfl) (by kernel_rfl)) (kNo h10 [0,1,4,5,15,29]))) (λh11=>ke 5 (PJ.wk (Wk.sel (L2:=[(0, .mp 0),(1,iM x0),(4,iL 0),(5, .ptr 1 0),(15, .ptr 2 0),(29, .bool false)]) (H2:=[.map (c0B (λk:a0o=> .agg (a0h k)) (λk:Int=>iL k) x1), .box (a0h e49.1), .itr 0 ((c0B (λk:a0o=> .agg (a0h k)) (λk:Int=>iL k) x1).length) (sv50++ [bv51])]) 1 (by rw[W];rfl) V [0,2,1] (by kernel_rfl) (by simp only[aj,aF,d0S (ek:=(λk:a0o=> .agg (a0h k))) (ev:=(λk:Int=>iL k)) (λ_ _=>rfl) (λ_ _=>rfl)];kernel_rfl) (by decide) (by simp only[aE,aX,c0M (ek:=(λk:a0o=> .agg (a0h k))) (ev:=(λk:Int=>iL k)) (λ_ _=>rfl) (λ_ _=>rfl)];kernel_rfl) (by kernel_rfl) (by kernel_rfl) (by kernel_rfl)) (kNo h11 [0,1,4,5,15,29]))))
 refine kBT 29 h9 (λh12=> ?_) (λh13=> ?_)
 refine kn 2 (RJ.lookD (d:=(some 32)) (kt:=369) (i:=0) (cs:=(a0h e49.1)) (ok:=false) (tr2:=[]) (λk:a0o=> .agg (a0h k)) (λk:Int=>iL k) (λa b:a0o=>((decide (a.g_=b.g_))&&((decide (a.h_=b.h_))&&true))) x1 e49.1 (0:Int) (by kernel_rfl) rfl (λa b=>by kernel_rfl) (kr 1 (kXb ?_)))
 obtain rfl:=oi h12
 refine PJ.mapOut (λe=>nomatch e) (λhe1=> ?_)
 subst he1
 have h14:=b0S h0
 exact PJ.blockRet (kCx h14 h6 (λh15=>by obtain rfl:=oi h15;exact K.retV (H0:=[.map (c0B (λk:a0o=> .agg (a0h k)) (λk:Int=>iL k) x1)]) [0] (.inr rfl) D W V (by kernel_rfl) (v1:=iL (((g0n (λa b:a0o=>((decide (a.g_=b.g_))&&((decide (a.h_=b.h_))&&true))) x1 e49.1).getD 0))) (by kernel_rfl) (by kernel_rfl) (by simp only[aj,aF,d0S (ek:=(λk:a0o=> .agg (a0h k))) (ev:=(λk:Int=>iL k)) (λ_ _=>rfl) (λ_ _=>rfl)];kernel_rfl) (by decide) (by simp only[aE,aX,c0M (ek:=(λk:a0o=> .agg (a0h k))) (ev:=(λk:Int=>iL k)) (λ_ _=>rfl) (λ_ _=>rfl)];kernel_rfl) (by kernel_rfl) (by kernel_rfl) (by kernel_rfl) (by kernel_rfl)))
 exact kKb (by obtain rfl:=oi h13;exact PJ.wk (Wk.sel (L2:=[(0, .mp 0),(1,iM x0),(4,iL 0),(15, .ptr 1 0)]) (H2:=[.map (c0B (λk:a0o=> .agg (a0h k)) (λk:Int=>iL k) x1), .itr 0 ((c0B (λk:a0o=> .agg (a0h k)) (λk:Int=>iL k) x1).length) (sv50++ [bv51])]) 1 (by rw[W];rfl) V [0,2] (by kernel_rfl) (by simp only[aj,aF,d0S (ek:=(λk:a0o=> .agg (a0h k))) (ev:=(λk:Int=>iL k)) (λ_ _=>rfl) (λ_ _=>rfl)];kernel_rfl) (by decide) (by simp only[aE,aX,c0M (ek:=(λk:a0o=> .agg (a0h k))) (ev:=(λk:Int=>iL k)) (λ_ _=>rfl) (λ_ _=>rfl)];kernel_rfl) (by kernel_rfl) (by kernel_rfl) (by kernel_rfl)) (PJ.mapNext [0,1,4,15] (by kernel_rfl) (by kernel_rfl)))
 exact kS (kn 1 (kAb 35 h7 (λ_=>h0H) (λy1 h16=>kr 5 (kq (kBT 38 h16 (λh17=>kq (kX (PJ.passRet (by obtain rfl:=oi h17;exact K.retV (H0:=[.map (c0B (λk:a0o=> .agg (a0h k)) (λk:Int=>iL k) x1)]) [0] (.inr rfl) D W V (by kernel_rfl) (v1:=iL 5) (by kernel_rfl) (by kernel_rfl) (by simp only[aj,aF,d0S (ek:=(λk:a0o=> .agg (a0h k))) (ev:=(λk:Int=>iL k)) (λ_ _=>rfl) (λ_ _=>rfl)];kernel_rfl) (by decide) (by simp only[aE,aX,c0M (ek:=(λk:a0o=> .agg (a0h k))) (ev:=(λk:Int=>iL k)) (λ_ _=>rfl) (λ_ _=>rfl)];kernel_rfl) (by kernel_rfl) (by kernel_rfl) (by kernel_rfl) (by kernel_rfl))))) (λh18=>kKN (kq (kX (by obtain rfl:=oi h18;exact K.retV (H0:=[.map (c0B (λk:a0o=> .agg (a0h k)) (λk:Int=>iL k) x1)]) [0] (.inr rfl) D W V (by kernel_rfl) (v1:=iL 0) (by kernel_rfl) (by kernel_rfl) (by simp only[aj,aF,d0S (ek:=(λk:a0o=> .agg (a0h k))) (ev:=(λk:Int=>iL k)) (λ_ _=>rfl) (λ_ _=>rfl)];kernel_rfl) (by decide) (by simp only[aE,aX,c0M (ek:=(λk:a0o=> .agg (a0h k))) (ev:=(λk:Int=>iL k)) (λ_ _=>rfl) (λ_ _=>rfl)];kernel_rfl) (by kernel_rfl) (by kernel_rfl) (by kernel_rfl) (by kernel_rfl))))))))))
noncomputable def k0V(x0:List Int):Option (Bool):=
 (Option.bind d0B λy1=>o0H (fun(ms4:List (a0o×Int))=>(Option.bind (a0x (fun(s0:Int×(List (a0o×Int)))=>(bif(decide (s0.1<(x0.length:Int)))then(Option.bind (bif inR s0.1 x0.length then(Option.bind (a0A (nth x0 s0.1) s0.2) λy0=>(Option.bind (bif(decide (y0.1=0))then(some true)else(bif(decide (y0.1=4))then(some true)else(bif(decide (y0.1=5))then(some true)else(some (decide (y0.1=2)))))) fun(s1:Bool)=>(bif s1 then(some (.inl y0.2))else(some (.inr (.inr (.inr false)))))))else none) (a0m fun(s2:(List (a0o×Int)))=>(some (.inl ((IntKind.wrap .i64 (s0.1+1)),s2)))))else(some (.inr (.inl ()))))) big (0,ms4)) (a0m fun(s3:Unit)=>(some true)))) y1)
theorem o0e {x0:List Int} {r:Bool} (h:k0V x0=some r):SQ 250 [lR x0] [] (.bool r) []:=by
 refine kFn (fn:=Tryz.f250) (λF D W V=> ?_)
 unfold k0V at h
 refine kq (kSR ?_)
 obtain⟨y1,hy0,h0⟩:=a0l h
 refine RJ.callG (d:=(some 6)) (f:=243) (args:=[]) (args0:=[]) (v0:= .mp 0) (v:= .mp 0) (tr2:=[]) (H0:=[]) (H0':=[.pmap (c0B (λk:a0o=> .agg (a0h k)) (λk:Int=>iL k) y1)]) (H2:=[.pmap (c0B (λk:a0o=> .agg (a0h k)) (λk:Int=>iL k) y1)]) [] (by kernel_rfl) (by kernel_rfl) (by kernel_rfl) (by kernel_rfl) (by decide) (by kernel_rfl) (by kernel_rfl) (by kernel_rfl) .nil (h0s hy0) (by kernel_rfl) (by kernel_rfl) ((show d0q (b0r []) 0 _ [.pmap (c0B (λk:a0o=> .agg (a0h k)) (λk:Int=>iL k) y1)]=[Ent.rn (gOf (b0r []) 0 0) (.pmap (c0B (λk:a0o=> .agg (a0h k)) (λk:Int=>iL k) y1))] by kernel_rfl).trans (by simp only[o0V (ek:=(λk:a0o=> .agg (a0h k))) (ev:=(λk:Int=>iL k)) (λ_ _=>rfl) (λ_ _=>rfl)])) (RJ.openMap (ek:=(λk:a0o=> .agg (a0h k))) (ev:=(λk:Int=>iL k)) y1 0 (λms4=> [.map (c0B (λk:a0o=> .agg (a0h k)) (λk:Int=>iL k) ms4)]) (by kernel_rfl) (λ_=>by kernel_rfl) (λms4 hp5=> ?_))
 have h1:=o0G h0 ms4 hp5
 refine kr 1 (kcX h1 (fun(s3:Unit)=>([(2, .bool false)],[])) (λy2 hy1 h2=> ?_) (λs3 h3=> ?_))
 refine kq (kb 0 (kl (fun(s0:Int×(List (a0o×Int)))=>([(2, .bool false),(3, .mp 0),(7,lR x0),(8,iL (x0.length:Int)),(9,iL s0.1)],[.map (c0B (λk:a0o=> .agg (a0h k)) (λk:Int=>iL k) s0.2)])) hy1 [2,3,7,8,9] (λs0 x407 hs0=>kq (kS (kBT 10 hs0 (λh4=> ?_) (λh5=> ?_))))))
 refine kKN (kcX h4 (fun(s2:(List (a0o×Int)))=>([(2, .bool false),(3, .mp 0),(7,lR x0),(8,iL (x0.length:Int)),(9,iL s0.1)],[.map (c0B (λk:a0o=> .agg (a0h k)) (λk:Int=>iL k) s2)])) (λy3 hy2 h6=> ?_) (λs2 h7=> ?_))
 refine kb 1 (kSR (kIb 11 (a0r .i32) hy2 (λh8=>kr 2 (kn 2 ?_))))
 obtain⟨y0,hy3,h9⟩:=a0l h8
 exact RJ.callG (d:=(some 15)) (f:=244) (args:=[.mp 0,iM (nth x0 s0.1)]) (args0:=[.mp 0,iM (nth x0 s0.1)]) (v0:=iL y0.1) (v:=iL y0.1) (tr2:=[]) (H0:=[.map (c0B (λk:a0o=> .agg (a0h k)) (λk:Int=>iL k) s0.2)]) (H0':=[.map (c0B (λk:a0o=> .agg (a0h k)) (λk:Int=>iL k) y0.2)]) (H2:=[.map (c0B (λk:a0o=> .agg (a0h k)) (λk:Int=>iL k) y0.2)]) [0] (by kernel_rfl) (by kernel_rfl) (by kernel_rfl) (by simp only[aj,aF,d0S (ek:=(λk:a0o=> .agg (a0h k))) (ev:=(λk:Int=>iL k)) (λ_ _=>rfl) (λ_ _=>rfl)];kernel_rfl) (by decide) (by simp only[aE,aX,c0M (ek:=(λk:a0o=> .agg (a0h k))) (ev:=(λk:Int=>iL k)) (λ_ _=>rfl) (λ_ _=>rfl)];kernel_rfl) (by kernel_rfl) (by kernel_rfl) (LeL.refl _) (e0W hy3) (by kernel_rfl) (by kernel_rfl) ((show d0q (b0r [0]) 1 _ [.map (c0B (λk:a0o=> .agg (a0h k)) (λk:Int=>iL k) y0.2)]=[Ent.rn (gOf (b0r [0]) 1 1) (.map (c0B (λk:a0o=> .agg (a0h k)) (λk:Int=>iL k) y0.2))] by kernel_rfl).trans (by simp only[d0S (ek:=(λk:a0o=> .agg (a0h k))) (ev:=(λk:Int=>iL k)) (λ_ _=>rfl) (λ_ _=>rfl)])) (kEN (kb 2 (kcN h9 (fun(s1:Bool)=>([(2, .bool false),(3, .mp 0),(7,lR x0),(8,iL (x0.length:Int)),(9,iL s0.1),(16, .bool s1)],[.map (c0B (λk:a0o=> .agg (a0h k)) (λk:Int=>iL k) y0.2)])) (λs1 hy4=>kq (kBT 16 hy4 (λh11=>kK (kNo h11 [2,3,7,8,9,16])) (λh12=>kq (kBT 16 h12 (λh13=>kK (kNo h13 [2,3,7,8,9,16])) (λh14=>kq (kBT 16 h14 (λh15=>kK (kNo h15 [2,3,7,8,9,16])) (λh16=>kM (kNo h16 [2,3,7,8,9,16])))))))) (λs1 h10=>kBT 16 h10 (λh17=>kKb (PJ.blockNormal (kXo h17 [2,3,7,8,9]))) (λh18=>kq (kXb (PJ.blockRet (kCx h18 h6 (λh19=>kLx h19 (λh20=>PJ.blockRet (kCx h20 h2 (λh21=>by obtain rfl:=oi h21;exact kZ D W V))))))))))))
 exact kM (kLo h7 [2,3,7,8,9])
 exact kEp 0 (kLx h5 (λh22=>PJ.blockOut (kXW h22 W V [])))
 exact kq (kX (by cases h3;exact kZ D W V))
theorem q0C {E X:Type} [DecidableEq X](f:E->Option (Unit⊕X))(hit:E->Bool)(v:X): ∀(ms:List E),(∀e∈ms,f e=some (if hit e=true then .inr v else .inl ()))->j0s f ms=some (if ms.any hit=true then .inr v else .inl ())
 | [],_=>rfl
 |e::r,h=>by
  have ih:=q0C f hit v r λx hx=>h x (am _ hx)
  simp only[j0s,h e (ar ..),ih,List.any_cons]
  by_cases h0:hit e=true
  by_cases h1:r.any hit=true
  simp only[h0,h1,if_true,Bool.or_self]
  simp only[h0,h1,if_true,Bool.true_or,if_false,aH]
  have h0':hit e=false:=by simpa using h0
  simp only[h0',if_false,Bool.false_or,aH]
def m0K:List (a0o×Int):=[((⟨0,31⟩:a0o),1),((⟨127,159⟩:a0o),1),((⟨1564,1564⟩:a0o),2),((⟨8206,8207⟩:a0o),2),((⟨8234,8238⟩:a0o),2),((⟨8294,8297⟩:a0o),2),((⟨64976,65007⟩:a0o),3),((⟨32,32⟩:a0o),4),((⟨160,160⟩:a0o),4),((⟨5760,5760⟩:a0o),4),((⟨8192,8202⟩:a0o),4),((⟨8232,8233⟩:a0o),4),((⟨8239,8239⟩:a0o),4),((⟨8287,8287⟩:a0o),4),((⟨12288,12288⟩:a0o),4)]
def eqK(a b:a0o):Bool:=(decide (a.g_=b.g_))&&((decide (a.h_=b.h_))&&true)
def u0w(r:Int)(e:a0o×Int):Bool:=decide (e.1.g_<=r)&&decide (r<=e.1.h_)
def tab(r:Int):Int:=match m0K.find? (u0w r)with
 |some e=>e.2
 |none=>0
theorem v0H {ms:List (a0o×Int)} (h: ∀a∈ms,∀b∈ms,eqK a.1 b.1=true->b.2=a.2) {e:a0o×Int} (he:e∈ms):g0n eqK ms e.1=some e.2:=by
 have key: ∀l:List (a0o×Int),(∀b∈l,eqK e.1 b.1=true->b.2=e.2)->e∈l->g0n eqK l e.1=some e.2:=by
  intro l
  induction l with
  |nil=>intro _ h;simp at h
  |cons b r ih=>
   intro hb hm
   simp only[g0n]
   cases hq:eqK e.1 b.1 with
   |true=>simp only[cond_true];rw[hb b (ar ..) hq]
   |false=>
    simp only[cond_false]
    refine ih (λx hx=>hb x (am _ hx)) ?_
    rcases aO.1 hm with rfl|hm
    exfalso;revert hq;unfold eqK;simp
    exact hm
 exact key ms (λb hb=>h e he b hb) he
theorem v0h: ∀a∈m0K,∀b∈m0K,eqK a.1 b.1=true->b.2=a.2:=by decide+kernel
theorem t0I: ∀a∈m0K,∀b∈m0K,a=b\/a.1.h_<b.1.g_\/b.1.h_<a.1.g_:=by decide+kernel
theorem z0k {r:Int} {e:a0o×Int} (he:e∈m0K)(hh:u0w r e=true):tab r=e.2:=by
 unfold tab
 cases hf:m0K.find? (u0w r)with
 |none=>
  rw[List.find?_eq_none]at hf
  exact absurd hh (by simpa using hf e he)
 |some e'=>
  have h1:=List.find?_some hf
  have h0:=List.mem_of_find?_eq_some hf
  unfold u0w at h1 hh
  simp only[aa,decide_eq_true_eq]at h1 hh
  rcases t0I e he e' h0 with h|h|h
  rw[h]
  omega
  omega
theorem n0g {r:Int} {ms:List (a0o×Int)} (hp:List.Perm ms m0K):a0A r ms=Option.bind (m0x r) λy=>bif !y then some (6,ms)else bif decide (bits .and .i32 r 65534=65534)then some (3,ms)else bif m0K.any (u0w r)then some (tab r,ms)else Option.bind (e0i r) λy=>bif y.2 then some (5,ms)else some (0,ms):=by
 unfold a0A
 congr 1
 funext y
 cases y with
 |false=>rfl
 |true=>
  simp only[Bool.not_true,cond_false]
  cases decide (bits .and .i32 r 65534=65534)with
  |true=>rfl
  |false=>
   simp only[cond_false]
   have hsame: ∀a∈ms,∀b∈ms,eqK a.1 b.1=true->b.2=a.2:=λa ha b hb=>v0h a (hp.mem_iff.1 ha) b (hp.mem_iff.1 hb)
   have hany:ms.any (u0w r)=m0K.any (u0w r):=by
    rw[Bool.eq_iff_iff]
    simp only[List.any_eq_true]
    exact⟨fun⟨x,hx,h⟩=>⟨x,hp.mem_iff.1 hx,h⟩,fun⟨x,hx,h⟩=>⟨x,hp.mem_iff.2 hx,h⟩⟩
   rw[q0C _ (u0w r) (.inr (tab r,ms)) ms (λe he=> ?_),hany]
   ·cases m0K.any (u0w r)<;>rfl
   have hg:(g0n (λa b:a0o=>((decide (a.g_=b.g_))&&((decide (a.h_=b.h_))&&true))) ms e.1)=some e.2:=v0H hsame he
   rw[hg]
   have ht:u0w r e=true->tab r=e.2:=λh=>z0k (hp.mem_iff.1 he) h
   unfold u0w at ht⊢
   by_cases q1:e.1.g_<=r
   rw[dT q1]at ht⊢
   by_cases q2:r<=e.1.h_
   rw[dT q2]at ht⊢
   simp only[cond_true,aq,Bool.true_and,if_true,ba]
   rw[ht rfl]
   rw[dF q2];rfl
   rw[dF q1];rfl
theorem y0u {x:Int} {ms:List (a0o×Int)} {r:Int×List (a0o×Int)} (hp:List.Perm ms m0K)(h:a0A x m0K=some r):a0A x ms=some (r.1,ms)/\r.2=m0K:=by
 rw[n0g (List.Perm.refl _)]at h
 rw[n0g hp]
 obtain⟨y,e,h⟩:=a0l h
 rw[e]
 simp only[aq]at h⊢
 cases y with
 |false=>obtain rfl:=oi h;exact⟨rfl,rfl⟩
 |true=>
  simp only[Bool.not_true,cond_false]at h⊢
  revert h
  cases decide (bits .and .i32 x 65534=65534)with
  |true=>intro h;obtain rfl:=oi h;exact⟨rfl,rfl⟩
  |false=>
   simp only[cond_false]
   cases m0K.any (u0w x)with
   |true=>intro h;obtain rfl:=oi h;exact⟨rfl,rfl⟩
   |false=>
    intro h
    simp only[cond_false]at h⊢
    obtain⟨v,e,h⟩:=a0l h
    rw[e]
    simp only[aq]
    cases hv:v.2 with
    |true=>rw[hv]at h;obtain rfl:=oi h;exact⟨rfl,rfl⟩
    |false=>rw[hv]at h;obtain rfl:=oi h;exact⟨rfl,rfl⟩
theorem q0G {S X:Type} {f:S->Option (S⊕X)} (R:S->S->Prop)(hs: ∀s s' o,R s s'->f s=some o->(∃a b,o= .inl a/\f s'=some (.inl b)/\R a b)\/ ∃x,o= .inr x/\f s'=some (.inr x)): ∀(n:Nat) (s s':S) (r:X),R s s'->a0x f n s=some r->a0x f n s'=some r
 |0,_,_,_,_,h=>by cases h
 |n+1,s,s',r,hR,h=>by
  simp only[a0x]at h⊢
  cases hf:f s with
  |none=>rw[hf]at h;cases h
  |some o=>
   rw[hf]at h
   rcases hs s s' o hR hf with⟨a,b,rfl,h0,h2⟩|⟨x,rfl,h0⟩
   rw[h0];exact q0G R hs n a b r h2 h
   rw[h0];exact h
def h0S(x0:List Int):Option (Bool):=
 (Option.bind d0B λy1=>(fun(ms4:List (a0o×Int))=>(Option.bind (a0x (fun(s0:Int×(List (a0o×Int)))=>(bif(decide (s0.1<(x0.length:Int)))then(Option.bind (bif inR s0.1 x0.length then(Option.bind (a0A (nth x0 s0.1) s0.2) λy0=>(Option.bind (bif(decide (y0.1=0))then(some true)else(bif(decide (y0.1=4))then(some true)else(bif(decide (y0.1=5))then(some true)else(some (decide (y0.1=2)))))) fun(s1:Bool)=>(bif s1 then(some (.inl y0.2))else(some (.inr (.inr (.inr false)))))))else none) (a0m fun(s2:(List (a0o×Int)))=>(some (.inl ((IntKind.wrap .i64 (s0.1+1)),s2)))))else(some (.inr (.inl ()))))) big (0,ms4)) (a0m fun(s3:Unit)=>(some true)))) y1)
theorem p0D {x0:List Int} {r:Bool} (h:h0S x0=some r):SQ 250 [lR x0] [] (.bool r) []:=o0e (by
 unfold h0S at h;unfold k0V
 obtain⟨y,hy,h⟩:=a0l h
 rw[hy];simp only[aq]
 obtain rfl:m0K=y:=oi hy
 obtain⟨u,hu,hr⟩:=a0l h
 refine r0j λms hp=> ?_
 have hL:=q0G (λa b=>a.1=b.1/\List.Perm b.2 m0K/\a.2=m0K) (λs s' o hR hf=> ?_) big (0,m0K) (0,ms) u ⟨rfl,hp,rfl⟩ hu
 show Option.bind (a0x _ big (0,ms)) _=_
 rw[hL];exact hr
 obtain⟨i,a⟩:=s
 obtain⟨j,b⟩:=s'
 obtain⟨h1,h0,h2⟩:=hR
 simp only at h1 h0 h2 hf⊢
 subst h1;subst h2
 cases hc:decide (i<(x0.length:Int))with
 |false=>rw[hc]at hf;obtain rfl:=oi hf;right;exact⟨_,rfl,rfl⟩
 |true=>
  rw[hc]at hf
  simp only[cond_true]at hf⊢
  obtain⟨s4,e1,hf⟩:=a0l hf
  cases hi:inR i x0.length with
  |false=>rw[hi]at e1;cases e1
  |true=>
   rw[hi]at e1
   simp only[cond_true]at e1⊢
   obtain⟨y2,e2,e1⟩:=a0l e1
   obtain⟨t1,t2⟩:=y0u h0 e2
   rw[t1];simp only[aq]
   obtain⟨c1,q1,e1⟩:=a0l e1
   rw[q1];simp only[aq]
   cases c1 with
   |true=>obtain rfl:=oi e1;obtain rfl:=oi hf;left;exact⟨_,_,rfl,rfl,rfl,h0,t2⟩
   |false=>obtain rfl:=oi e1;obtain rfl:=oi hf;right;exact⟨_,rfl,rfl⟩
 )
def h0b(x0:List Int):Option (Bool):=
 (Option.bind (a0x (fun(s0:Int×Int)=>(bif(decide (s0.2<(x0.length:Int)))then(Option.bind (bif inR s0.2 x0.length then(Option.bind (bif(decide (8234<=(nth x0 s0.2)))then(some ((decide ((nth x0 s0.2)<=8238))))else(some false)) fun(s1:Bool)=>(bif s1 then(some (.inr (.inr (.inr false))))else(Option.bind (bif(decide (8294<=(nth x0 s0.2)))then(some ((decide ((nth x0 s0.2)<=8296))))else(some false)) fun(s2:Bool)=>(bif s2 then(some (.inl (IntKind.wrap .i64 (s0.1+1))))else(Option.bind (bif(decide ((nth x0 s0.2)=8297))then(some (decide (s0.1=0)))else(some false)) fun(s3:Bool)=>(bif s3 then(some (.inr (.inr (.inr false))))else(bif(decide ((nth x0 s0.2)=8297))then(some (.inl (IntKind.wrap .i64 (s0.1-1))))else(some (.inl s0.1)))))))))else none) (a0m fun(s4:Int)=>(some (.inl (s4,(IntKind.wrap .i64 (s0.2+1)))))))else(some (.inr (.inl s0.1))))) big (0,0)) (a0m fun(s5:Int)=>(some (decide (s5=0)))))
theorem o0d {x0:List Int} {r:Bool} (h:h0b x0=some r):SQ 251 [lR x0] [] (.bool r) []:=by
 refine kFn (fn:=Tryz.f251) (λF D W V=> ?_)
 unfold h0b at h
 exact kq (kq (kcX h (fun(s5:Int)=>([(2, .bool false),(3,iL s5)],[])) (λy0 hy0 h0=>kq (kb 0 (kl (fun(s0:Int×Int)=>([(2, .bool false),(3,iL s0.1),(6,lR x0),(7,iL (x0.length:Int)),(8,iL s0.2)],[])) hy0 [2,3,6,7,8] (λs0 x601 hs0=>kq (kS (kBT 9 hs0 (λh3=>kKN (kcX h3 (fun(s4:Int)=>([(2, .bool false),(3,iL s4),(6,lR x0),(7,iL (x0.length:Int)),(8,iL s0.2)],[])) (λy1 hy1 h1=>kb 1 (kSR (kIb 10 (a0r .i32) hy1 (λh6=>kr 2 (kb 2 (kcN h6 (fun(s1:Bool)=>([(2, .bool false),(3,iL s0.1),(5,iM (nth x0 s0.2)),(6,lR x0),(7,iL (x0.length:Int)),(8,iL s0.2),(12, .bool s1)],[])) (λs1 hy2=>km 3 (kB 15 hy2 (λh8=>ke 4 (kNo h8 [2,3,5,6,7,8,12])) (λh9=>ke 4 (kNo h9 [2,3,5,6,7,8,12])))) (λs1 h7=>kBT 12 h7 (λh10=>kq (kXb (PJ.blockRet (kCx h10 h1 (λh12=>kLx h12 (λh13=>PJ.blockRet (kCx h13 h0 (λh14=>by obtain rfl:=oi h14;exact kZ D W V)))))))) (λh11=>kcN h11 (fun(s2:Bool)=>([(2, .bool false),(3,iL s0.1),(5,iM (nth x0 s0.2)),(6,lR x0),(7,iL (x0.length:Int)),(8,iL s0.2),(19, .bool s2)],[])) (λs2 hy3=>km 3 (kB 22 hy3 (λh16=>ke 4 (kNo h16 [2,3,5,6,7,8,19])) (λh17=>ke 4 (kNo h17 [2,3,5,6,7,8,19])))) (λs2 h15=>kBT 19 h15 (λh18=>kM (PJ.blockNormal (PJ.blockNormal (kXo h18 [2,3,6,7,8])))) (λh19=>kcN h19 (fun(s3:Bool)=>([(2, .bool false),(3,iL s0.1),(5,iM (nth x0 s0.2)),(6,lR x0),(7,iL (x0.length:Int)),(8,iL s0.2),(28, .bool s3)],[])) (λs3 hy4=>km 3 (kB 31 hy4 (λh21=>ke 4 (kNo h21 [2,3,5,6,7,8,28])) (λh22=>ke 4 (kNo h22 [2,3,5,6,7,8,28])))) (λs3 h20=>kBT 28 h20 (λh23=>kq (kXb (PJ.blockRet (kCx h23 h1 (λh25=>kLx h25 (λh26=>PJ.blockRet (kCx h26 h0 (λh27=>by obtain rfl:=oi h27;exact kZ D W V)))))))) (λh24=>kq (kBT 35 h24 (λh28=>kM (PJ.blockNormal (PJ.blockNormal (kXo h28 [2,3,6,7,8])))) (λh29=>kKb (PJ.blockNormal (kXo h29 [2,3,6,7,8])))))))))))))))) (λs4 h5=>kM (kLo h5 [2,3,6,7,8])))) (λh4=>kEp 0 (kLx h4 (λh30=>PJ.blockOut (kXo h30 [2,3])))))))))) (λs5 h2=>kq (kX (by cases h2;exact kZ D W V)))))
def j0W(x0:c0T)(x1:List Int):Option (Bool):=
 (Option.bind (a0x (fun(s0:Int)=>(bif(decide (s0<(x1.length:Int)))then(Option.bind (bif inR s0 x1.length then(Option.bind (e0i (nth x1 s0)) λy0=>(Option.bind (bif y0.2 then(some true)else(Option.bind (f0M x0 (nth x1 s0)) λy1=>(some y1))) fun(s1:Bool)=>(bif s1 then(some (.inr (.inr (.inr false))))else(some (.inl ())))))else none) (a0m fun(s3:Unit)=>(some (.inl (IntKind.wrap .i64 (s0+1))))))else(some (.inr (.inl ()))))) big 0) (a0m fun(s4:Unit)=>(Option.bind (Option.bind (h0S x1) λy2=>(bif y2 then(Option.bind (h0b x1) λy3=>(some y3))else(some false))) fun(s2:Bool)=>(some s2))))
theorem n0i {x0:c0T} {x1:List Int} {r:Bool} (h:j0W x0 x1=some r):SQ 184 [.agg (a0d x0),lR x1] [] (.bool r) []:=by
 refine kFn (fn:=Tryz.f184) (λF D W V=> ?_)
 unfold j0W at h
 exact kq (kcX h (fun(s4:Unit)=>([(1,lR x1),(4, .bool false)],[])) (λy4 hy0 h0=>kq (kb 0 (kl (fun(s0:Int)=>([(1,lR x1),(2, .ptr 0 0),(4, .bool false),(9,lR x1),(10,iL (x1.length:Int)),(11,iL s0)],[.box (a0d x0)])) hy0 [1,2,4,9,10,11] (λs0 x341 hs0=>kq (kS (kBT 12 hs0 (λh2=>kKN (kcX h2 (fun(s3:Unit)=>([(1,lR x1),(2, .ptr 0 0),(4, .bool false),(9,lR x1),(10,iL (x1.length:Int)),(11,iL s0)],[.box (a0d x0)])) (λy5 hy1 h4=>kb 1 (kSR (kIb 13 (a0r .i32) hy1 (λh6=>kr 2 (kn 1 (kAb 17 h6 (λ_=>h0H) (λy0 h7=>kr 5 (kcN h7 (fun(s1:Bool)=>([(1,lR x1),(2, .ptr 0 0),(4, .bool false),(9,lR x1),(10,iL (x1.length:Int)),(11,iL s0),(25, .bool s1)],[.box (a0d x0)])) (λs1 hy2=>km 2 (kB 21 hy2 (λh9=>ke 4 (kNo h9 [1,2,4,9,10,11,25])) (λh10=>kc 2 (kAb 24 h10 (λ_=>k0y) (λy1 h11=>ke 1 (kNo h11 [1,2,4,9,10,11,25])))))) (λs1 h8=>kBT 25 h8 (λh12=>kq (kXb (kCx h12 h4 (λh14=>kLx h14 (λh15=>PJ.blockRet (kCx h15 h0 (λh16=>by obtain rfl:=oi h16;exact kZ D W V))))))) (λh13=>kKb (kXo h13 [1,2,4,9,10,11]))))))))))) (λs3 h5=>kM (kLo h5 [1,2,4,9,10,11])))) (λh3=>kEp 0 (kLx h3 (λh17=>PJ.blockOut (kXW h17 W V [])))))))))) (λs4 h1=>kcN h1 (fun(s2:Bool)=>([(4, .bool s2)],[])) (λs2 hy3=>km 1 (kAb 28 hy3 (λ_=>p0D) (λy2 h19=>kc 1 (kB 29 h19 (λh20=>kc 1 (kAb 31 h20 (λ_=>o0d) (λy3 h22=>ke 2 (kNo h22 [4])))) (λh21=>ke 4 (kNo h21 [4])))))) (λs2 h18=>kX (by cases h18;exact kZ D W V))))
def f0a(x0:c0T)(x1:f0B):Option (Bool):=
 (Option.bind (f0Y x1.c_) λy0=>(bif room (y0.length+x1.e_.length)then(Option.bind (j0W x0 (y0++x1.e_)) λy1=>(some y1))else none))
theorem i0y {x0:c0T} {x1:f0B} {r:Bool} (h:f0a x0 x1=some r):SQ 159 [.agg (a0d x0), .agg (b0X x1)] [] (.bool r) []:=by
 refine kFn (fn:=Tryz.f159) (λF D W V=> ?_)
 unfold f0a at h
 refine kq (kS (kDr (kD 3 ?_)))
 obtain⟨y0,hy0,h0⟩:=a0l h
 refine RJ.callM (d:=(some 8)) (f:=197) (args:=[lR x1.c_]) (v0:= .vc 0) (v:= .vc 2) (en0:= .vec y0.length 1 21 (y0.flatMap (a0s .i32))) (tr2:=[([0,1],[]),([],[]),([2,3],[]),([],[4,5,4,5])]) (H2:=[.box (a0d x0), .box (b0X x1),a0H (a0s .i32) 1 21 y0, .res, .res]) 2 (by kernel_rfl) (by kernel_rfl) (by kernel_rfl) (by kernel_rfl) (LeL.refl _) (l0Q hy0) (by kernel_rfl) (by kernel_rfl) (kD 2 ?_)
 obtain⟨hm,h1⟩:=b0k h0
 refine RJ.rel (d:=(some 11)) (ef:=⟨.vc 3,[2],[(2, .gone),(3, .vec (y0.length+x1.e_.length) 1 21 (y0.flatMap (a0s .i32)++x1.e_.flatMap (a0s .i32)))]⟩) (ef':=⟨.vc 3,[2],[(2, .gone),(3,a0H (a0s .i32) 1 21 (y0++x1.e_))]⟩) (c:=room (y0.length+x1.e_.length)) (tr2:=[([0,1],[]),([],[]),([2,3],[]),([],[4,5,4,5]),([],[]),([2,3],[]),([4,5],[4,5,6,7,6,7])]) (H2:=[.box (a0d x0), .box (b0X x1), .gone,a0H (a0s .i32) 1 21 (y0++x1.e_), .res]) (by kernel_rfl) hm (λhc=>N.app) (by kernel_rfl) ?_
 obtain⟨y1,hy1,h2⟩:=a0l h1
 exact RJ.callL (d:=(some 12)) (f:=184) (args:=[.agg (a0d x0), .vc 3]) (args0:=[.agg (a0d x0), .vc 0]) (args1:=[.agg (a0d x0),lR (y0++x1.e_)]) (H0:=[a0H (a0s .i32) 1 21 (y0++x1.e_)]) (v:= .bool y1) (tr2:=[([0,1],[]),([],[]),([2,3],[]),([],[4,5,4,5]),([],[]),([2,3],[]),([4,5],[4,5,6,7,6,7]),([6,7],[8,9])]) [3] (by kernel_rfl) (by kernel_rfl) (by kernel_rfl) (by kernel_rfl) (by decide) (by kernel_rfl) (by kernel_rfl) (by kernel_rfl) (by kernel_rfl) (LeL.refl _) (n0i hy1) (by kernel_rfl) (by kernel_rfl) (kD 1 (kEN (kX (by cases h2;exact kZ D W V))))
def e0Q(x0 x1:List Int):Option (Bool):=
 (bif(decide (¬(x0.length:Int)=(x1.length:Int)))then(some false)else(Option.bind (a0x (fun(s0:Int)=>(bif(decide (s0<(x0.length:Int)))then(bif inR s0 x0.length then(bif inR s0 x1.length then(bif(decide (¬(nth x0 s0)=(nth x1 s0)))then(some (.inr (.inr false)))else(some (.inl (IntKind.wrap .i64 (s0+1)))))else none)else none)else(some (.inr (.inl ()))))) big 0) (a0m fun(s1:Unit)=>(some true))))
theorem j0a {x0 x1:List Int} {r:Bool} (h:e0Q x0 x1=some r):SQ 132 [lR x0,lR x1] [] (.bool r) []:=by
 refine kFn (fn:=Tryz.f132) (λF D W V=> ?_)
 unfold e0Q at h
 refine kq (kS (kq (kBT 10 h (λh0=> ?_) (λh1=> ?_))))
 exact kq (kX (PJ.passRet (by cases h0;exact kZ D W V)))
 refine kKN (kcX h1 (fun(s1:Unit)=>([(4, .bool false)],[])) (λy0 hy0 h2=> ?_) (λs1 h3=> ?_))
 refine kq (kb 0 (kl (fun(s0:Int)=>([(0,lR x0),(1,lR x1),(4, .bool false),(12,iL (x0.length:Int)),(13,iL s0)],[])) hy0 [0,1,4,12,13] (λs0 x79 hs0=>kq (kS (kBT 14 hs0 (λh4=> ?_) (λh5=> ?_))))))
 refine kKN (kS (kb 1 (kq (kS (kDr (kD 2 ?_))))))
 obtain⟨hm,h6⟩:=b0k h4
 refine kJ 18 (tr2:=[([],[]),([],[]),([],[])]) (a0r .i32) hm (kD 3 ?_)
 obtain⟨hm,h7⟩:=b0k h6
 exact kJ 22 (tr2:=[([],[]),([],[]),([],[]),([],[]),([],[]),([],[]),([],[])]) (a0r .i32) hm (kD 2 (kEN (kBT 24 h7 (λh8=>kq (kXp (kLx h8 (λh10=>PJ.blockRet (kCx h10 h2 (λh11=>by obtain rfl:=oi h11;exact kZ D W V)))))) (λh9=>kKn (kM (kLo h9 [0,1,4,12,13]))))))
 exact kEp 0 (kLx h5 (λh12=>PJ.blockOut (kXo h12 [4])))
 exact kq (kX (by cases h3;exact kZ D W V))
def e0o(x0 x1:f0B):Option (Bool):=
 (Option.bind (Option.bind (e0Q x0.c_ x1.c_) λy0=>(bif y0 then(Option.bind (e0Q x0.e_ x1.e_) λy1=>(some y1))else(some false))) fun(s0:Bool)=>(some s0))
theorem i0x {x0 x1:f0B} {r:Bool} (h:e0o x0 x1=some r):SQ 160 [.agg (b0X x0), .agg (b0X x1)] [] (.bool r) []:=by
 refine kFn (fn:=Tryz.f160) (λF D W V=> ?_)
 unfold e0o at h
 exact kq (kcN h (fun(s0:Bool)=>([(4, .bool s0)],[])) (λs0 hy0=>km 4 (kAb 9 hy0 (λ_=>j0a) (λy0 h1=>kc 1 (kB 10 h1 (λh2=>kc 4 (kAb 15 h2 (λ_=>j0a) (λy1 h4=>ke 2 (kNW h4 W V [])))) (λh3=>ke 7 (kNW h3 W V [])))))) (λs0 h0=>kX (by cases h0;exact kZ D W V)))
def d0H(x0:c0T)(x1:a0j)(x2:List Int):Option (Bool):=
 (Option.bind (f0P x0 x1 x2) λy0=>(Option.bind (a0x (fun(s0:Int)=>(bif(decide (s0<3))then(bif(decide (s0=0))then(Option.bind (f0a x0 y0.g_) λy1=>(bif(!y1)then(some (.inr (.inr false)))else(some (.inl (IntKind.wrap .i64 (0+1))))))else(bif(decide (s0=1))then(Option.bind (f0a x0 y0.h_) λy2=>(bif(!y2)then(some (.inr (.inr false)))else(some (.inl (IntKind.wrap .i64 (1+1))))))else(bif(decide (s0=2))then(Option.bind (f0a x0 y0.n_) λy3=>(bif(!y3)then(some (.inr (.inr false)))else(some (.inl (IntKind.wrap .i64 (2+1))))))else none)))else(some (.inr (.inl ()))))) big 0) (a0m fun(s2:Unit)=>(Option.bind (Option.bind (e0o y0.g_ y0.h_) λy4=>(bif(!y4)then(Option.bind (e0o y0.h_ y0.n_) λy5=>(some (!y5)))else(some false))) fun(s1:Bool)=>(some s1)))))
theorem g0o {x0:c0T} {x1:a0j} {x2:List Int} {r:Bool} (h:d0H x0 x1 x2=some r):SQ 94 [.agg (a0d x0), .agg (a0b x1),lR x2] [] (.bool r) []:=by
 refine kFn (fn:=Tryz.f94) (λF D W V=> ?_)
 unfold d0H at h
 refine kq (kn 3 (kAb 13 h (λ_=>i0g) (λy0 h4=>kr 2 (kcX h4 (fun(s2:Unit)=>([(6, .bool false),(7, .ptr 0 0)],[.box (d0L y0)])) (λy6 hy0 h0=> ?_) (λs2 h5=> ?_)))))
 refine kq (kb 0 (J.wk (Wk.sel (L2:=[(3, .ptr 0 0),(6, .bool false),(7, .ptr 1 0),(14, .agg (d0L y0)),(15,iL 0)]) (H2:=[.box (a0d x0), .box (d0L y0)]) 0 (by rw[W];rfl) V [0,2] (by kernel_rfl) (by kernel_rfl) (by decide) (by kernel_rfl) (by kernel_rfl) (by kernel_rfl) (by kernel_rfl)) (kl (fun(s0:Int)=>([(3, .ptr 0 0),(6, .bool false),(7, .ptr 1 0),(14, .agg (d0L y0)),(15,iL s0)],[.box (a0d x0), .box (d0L y0)])) hy0 [3,6,7,14,15] (λs0 x165 hs0=>kq (kS (kBT 16 hs0 (λh1=> ?_) (λh6=> ?_)))))))
 refine kKN (kS (kb 1 (kSR ?_)))
 cases hb0:(decide (s0=0))
 have h2:=condF hb0 h1
 cases hb1:(decide (s0=1))
 have h3:=condF hb1 h2
 cases hb2:(decide (s0=2))
 have h7:=condF hb2 h3
 cases h7
 have h8:=condT hb2 h3
 exact RJ.pin 15 (kd:= .i64) (by kernel_rfl) (of_decide_eq_true hb2) (kr 3 (kn 2 (kAb 20 h8 (λ_=>i0y) (λy3 h9=>kr 1 (kBT 21 h9 (λh10=>kq (kXp (kLx h10 (λh12=>PJ.blockRet (kCx h12 h0 (λh13=>by obtain rfl:=oi h13;exact kZ D W V)))))) (λh11=>kKn (kM (kLW h11 W V [0,1]))))))))
 have h14:=condT hb1 h2
 exact RJ.pin 15 (kd:= .i64) (by kernel_rfl) (of_decide_eq_true hb1) (kr 3 (kn 2 (kAb 20 h14 (λ_=>i0y) (λy2 h15=>kr 1 (kBT 21 h15 (λh16=>kq (kXp (kLx h16 (λh18=>PJ.blockRet (kCx h18 h0 (λh19=>by obtain rfl:=oi h19;exact kZ D W V)))))) (λh17=>kKn (kM (kLW h17 W V [0,1]))))))))
 have h20:=condT hb0 h1
 exact RJ.pin 15 (kd:= .i64) (by kernel_rfl) (of_decide_eq_true hb0) (kr 3 (kn 2 (kAb 20 h20 (λ_=>i0y) (λy1 h21=>kr 1 (kBT 21 h21 (λh22=>kq (kXp (kLx h22 (λh24=>PJ.blockRet (kCx h24 h0 (λh25=>by obtain rfl:=oi h25;exact kZ D W V)))))) (λh23=>kKn (kM (kLW h23 W V [0,1]))))))))
 exact kEp 0 (kLx h6 (λh26=>PJ.blockOut (kXW h26 W V [1])))
 exact kcN h5 (fun(s1:Bool)=>([(6, .bool s1)],[])) (λs1 hy1=>km 4 (kAb 27 hy1 (λ_=>i0x) (λy4 h28=>kc 2 (kB 29 h28 (λh29=>kc 4 (kAb 34 h29 (λ_=>i0x) (λy5 h31=>ke 3 (kNW h31 W V [])))) (λh30=>ke 8 (kNW h30 W V [])))))) (λs1 h27=>kX (by cases h27;exact kZ D W V))
end Go.Proofs.YthodkmamingnhaaGreatDoor
