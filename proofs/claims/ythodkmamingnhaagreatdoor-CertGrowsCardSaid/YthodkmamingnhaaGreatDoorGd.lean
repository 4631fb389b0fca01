import Derived.Test.YthodkmamingnhaaGreatDoorProg
import Derived.Test.YthodkmamingnhaaGreatDoorGc
set_option linter.all false
namespace Go.Proofs.YthodkmamingnhaaGreatDoor
open Go Go.Sy Go.RowKit
set_option maxRecDepth 100000
set_option maxHeartbeats 4000000
noncomputable def n0T(x0:Int):Option (Int):=
 (Option.bind d0B λy1=>o0H (fun(ms4:List (a0o×Int))=>(Option.bind (a0A x0 ms4) λy0=>(some y0.1))) y1)
theorem r0e {x0 r:Int} (h:n0T x0=some r):SQ 179 [iM x0] [] (iL r) []:=by
 refine kFn (fn:=Tryz.f179) (λF D W V=> ?_)
 unfold n0T at h
 refine kq (kSR ?_)
 obtain⟨y1,hy0,h0⟩:=a0l h
 refine RJ.callG (d:=(some 3)) (f:=243) (args:=[]) (args0:=[]) (v0:= .mp 0) (v:= .mp 0) (tr2:=[]) (H0:=[]) (H0':=[.pmap (c0B (λk:a0o=> .agg (a0h k)) (λk:Int=>iL k) y1)]) (H2:=[.pmap (c0B (λk:a0o=> .agg (a0h k)) (λk:Int=>iL k) y1)]) [] (by kernel_rfl) (by kernel_rfl) (by kernel_rfl) (by kernel_rfl) (by decide) (by kernel_rfl) (by kernel_rfl) (by kernel_rfl) .nil (h0s hy0) (by kernel_rfl) (by kernel_rfl) ((show d0q (b0r []) 0 _ [.pmap (c0B (λk:a0o=> .agg (a0h k)) (λk:Int=>iL k) y1)]=[Ent.rn (gOf (b0r []) 0 0) (.pmap (c0B (λk:a0o=> .agg (a0h k)) (λk:Int=>iL k) y1))] by kernel_rfl).trans (by simp only[o0V (ek:=(λk:a0o=> .agg (a0h k))) (ev:=(λk:Int=>iL k)) (λ_ _=>rfl) (λ_ _=>rfl)])) (RJ.openMap (ek:=(λk:a0o=> .agg (a0h k))) (ev:=(λk:Int=>iL k)) y1 0 (λms4=> [.map (c0B (λk:a0o=> .agg (a0h k)) (λk:Int=>iL k) ms4)]) (by kernel_rfl) (λ_=>by kernel_rfl) (λms4 hp5=> ?_))
 have h1:=o0G h0 ms4 hp5
 refine kc 1 ?_
 obtain⟨y0,hy1,h2⟩:=a0l h1
 exact RJ.callG (d:=(some 5)) (f:=244) (args:=[.mp 0,iM x0]) (args0:=[.mp 0,iM x0]) (v0:=iL y0.1) (v:=iL y0.1) (tr2:=[]) (H0:=[.map (c0B (λk:a0o=> .agg (a0h k)) (λk:Int=>iL k) ms4)]) (H0':=[.map (c0B (λk:a0o=> .agg (a0h k)) (λk:Int=>iL k) y0.2)]) (H2:=[.map (c0B (λk:a0o=> .agg (a0h k)) (λk:Int=>iL k) y0.2)]) [0] (by kernel_rfl) (by kernel_rfl) (by kernel_rfl) (by simp only[aj,aF,d0S (ek:=(λk:a0o=> .agg (a0h k))) (ev:=(λk:Int=>iL k)) (λ_ _=>rfl) (λ_ _=>rfl)];kernel_rfl) (by decide) (by simp only[aE,aX,c0M (ek:=(λk:a0o=> .agg (a0h k))) (ev:=(λk:Int=>iL k)) (λ_ _=>rfl) (λ_ _=>rfl)];kernel_rfl) (by kernel_rfl) (by kernel_rfl) (LeL.refl _) (e0W hy1) (by kernel_rfl) (by kernel_rfl) ((show d0q (b0r [0]) 1 _ [.map (c0B (λk:a0o=> .agg (a0h k)) (λk:Int=>iL k) y0.2)]=[Ent.rn (gOf (b0r [0]) 1 1) (.map (c0B (λk:a0o=> .agg (a0h k)) (λk:Int=>iL k) y0.2))] by kernel_rfl).trans (by simp only[d0S (ek:=(λk:a0o=> .agg (a0h k))) (ev:=(λk:Int=>iL k)) (λ_ _=>rfl) (λ_ _=>rfl)])) (kr 1 (kX (by cases h2;exact kZ D W V)))
def i0r(x0:Int):Option (Int):=
 (Option.bind d0B λy0=>(fun(ms4:List (a0o×Int))=>(Option.bind (a0A x0 ms4) λy1=>(some y1.1))) y0)
theorem k0U {x0 r:Int} (h:i0r x0=some r):SQ 179 [iM x0] [] (iL r) []:=r0e (by
 unfold i0r at h;unfold n0T
 obtain⟨y,hy,h⟩:=a0l h
 rw[hy];simp only[aq]
 obtain rfl:m0K=y:=oi hy
 obtain⟨y2,e0,h⟩:=a0l h
 exact r0j λms hp=>by
  show Option.bind (a0A x0 ms) _=_
  rw[(y0u hp e0).1];exact h
 )
def l0e(x0:c0T)(x1:Int):Option (Int×Bool):=
 (Option.bind (Option.bind (bif(decide (((IntKind.wrap .i64 ((IntKind.wrap .i64 x1)-(IntKind.wrap .i64 x0.Y_))))<0))then(some true)else(some ((decide (((IntKind.wrap .i64 ((IntKind.wrap .i64 x1)-(IntKind.wrap .i64 x0.Y_))))>9))))) fun(s0:Bool)=>(bif s0 then(some (.inr (0,false)))else(some (.inl ())))) (a0m fun(s1:Unit)=>(some ((IntKind.wrap .u8 ((IntKind.wrap .i64 ((IntKind.wrap .i64 x1)-(IntKind.wrap .i64 x0.Y_))))),true))))
theorem p0V {x0:c0T} {x1:Int} {r:Int×Bool} (h:l0e x0 x1=some r):SQ 196 [.agg (a0d x0),iM x1] [] (.tup [.int .u8 r.1, .bool r.2]) []:=by
 refine kFn (fn:=Tryz.f196) (λF D W V=> ?_)
 unfold l0e at h
 exact kq (kq (kcX h (fun(s1:Unit)=>([(4, .int .u8 0),(5, .bool false),(6,iL ((IntKind.wrap .i64 ((IntKind.wrap .i64 x1)-(IntKind.wrap .i64 x0.Y_)))))],[])) (λy0 hy0 h0=>kcN hy0 (fun(s0:Bool)=>([(4, .int .u8 0),(5, .bool false),(6,iL ((IntKind.wrap .i64 ((IntKind.wrap .i64 x1)-(IntKind.wrap .i64 x0.Y_))))),(18, .bool s0)],[])) (λs0 hy1=>km 3 (kB 15 hy1 (λh3=>ke 3 (kNW h3 W V [])) (λh4=>ke 3 (kNW h4 W V [])))) (λs0 h2=>kBT 18 h2 (λh5=>kq (kX (kCx h5 h0 (λh7=>by obtain rfl:=oi h7;exact kZ D W V)))) (λh6=>kK (kXo h6 [4,5,6])))) (λs1 h1=>kq (kX (by cases h1;exact kZ D W V)))))
def e0P(x0:c0T)(x1:Int):Option (Bool):=
 (Option.bind (l0e x0 x1) λy0=>(Option.bind (bif y0.2 then(some true)else(Option.bind (f0M x0 x1) λy1=>(some y1))) fun(s0:Bool)=>(some s0)))
theorem i0Z {x0:c0T} {x1:Int} {r:Bool} (h:e0P x0 x1=some r):SQ 230 [.agg (a0d x0),iM x1] [] (.bool r) []:=by
 refine kFn (fn:=Tryz.f230) (λF D W V=> ?_)
 unfold e0P at h
 exact kq (kn 2 (kAb 10 h (λ_=>p0V) (λy0 h0=>kr 5 (kcN h0 (fun(s0:Bool)=>([(4, .bool s0)],[])) (λs0 hy0=>km 2 (kB 14 hy0 (λh2=>ke 5 (kNW h2 W V [])) (λh3=>kc 2 (kAb 17 h3 (λ_=>k0y) (λy1 h4=>ke 2 (kNW h4 W V [])))))) (λs0 h1=>kX (by cases h1;exact kZ D W V))))))
def h0n(x0:List Int)(x1:Int):Option (Int):=
 (Option.bind (a0x (fun(s0:Int)=>(bif(decide (s0<(x0.length:Int)))then(bif inR s0 x0.length then(bif(decide (x1=(nth x0 s0)))then(some (.inr (.inr s0)))else(some (.inl (IntKind.wrap .i64 (s0+1)))))else none)else(some (.inr (.inl ()))))) big 0) (a0m fun(s1:Unit)=>(some (-1))))
theorem n0j {x0:List Int} {x1 r:Int} (h:h0n x0 x1=some r):SQ 252 [lR x0,iM x1] [] (iL r) []:=by
 refine kFn (fn:=Tryz.f252) (λF D W V=> ?_)
 unfold h0n at h
 exact kq (kcX h (fun(s1:Unit)=>([(4,iL 0)],[])) (λy0 hy0 h0=>kq (kb 0 (kl (fun(s0:Int)=>([(0,lR x0),(1,iM x1),(4,iL 0),(7,iL (x0.length:Int)),(8,iL s0)],[])) hy0 [0,1,4,7,8] (λs0 x71 hs0=>kq (kS (kBT 9 hs0 (λh2=>kKN (kS (kb 1 (kq (kn 3 (kIb 14 (a0r .i32) h2 (λh4=>kr 2 (kBT 16 h4 (λh5=>kq (kXp (kLx h5 (λh7=>PJ.blockRet (kCx h7 h0 (λh8=>by obtain rfl:=oi h8;exact kZ D W V)))))) (λh6=>kKn (kM (kLo h6 [0,1,4,7,8]))))))))))) (λh3=>kEp 0 (kLx h3 (λh9=>PJ.blockOut (kXo h9 [4])))))))))) (λs1 h1=>kq (kX (by cases h1;exact kZ D W V))))
def a0Z(x0:List Int)(x1:Int):Option (Bool):=
 (Option.bind (h0n x0 x1) λy0=>(some (decide (y0≥0))))
theorem c0t {x0:List Int} {x1:Int} {r:Bool} (h:a0Z x0 x1=some r):SQ 185 [lR x0,iM x1] [] (.bool r) []:=by
 refine kFn (fn:=Tryz.f185) (λF D W V=> ?_)
 unfold a0Z at h
 exact kq (kn 2 (kAb 7 h (λ_=>n0j) (λy0 h0=>kr 2 (kX (by cases h0;exact kZ D W V)))))
def h0O(x0:c0T)(x1:a0j):Option (Bool):=
 (bif(decide (x1.P_=0))then(some true)else(Option.bind (i0r x1.B_) λy1=>(Option.bind (Option.bind (bif(decide (¬y1=0))then(bif(decide (¬y1=4))then(some true)else(Option.bind (e0P x0 x1.B_) λy2=>(some y2)))else(Option.bind (e0P x0 x1.B_) λy3=>(some y3))) fun(s1:Bool)=>(bif s1 then(some (.inr false))else(some (.inl ())))) (a0m fun(s6:Unit)=>(Option.bind (Option.bind (f0P x0 x1 ([]:List Int)) λy0=>(a0x (fun(s0:Int)=>(bif(decide (s0<3))then(Option.bind (bif(decide (s0=0))then(Option.bind (Option.bind (a0Z y0.g_.c_ x1.B_) λy4=>(bif y4 then(some true)else(Option.bind (a0Z y0.g_.e_ x1.B_) λy5=>(some y5)))) fun(s2:Bool)=>(bif s2 then(some (.inr (.inr (.inr false))))else(some (.inl 0))))else(bif(decide (s0=1))then(Option.bind (Option.bind (a0Z y0.h_.c_ x1.B_) λy6=>(bif y6 then(some true)else(Option.bind (a0Z y0.h_.e_ x1.B_) λy7=>(some y7)))) fun(s3:Bool)=>(bif s3 then(some (.inr (.inr (.inr false))))else(some (.inl 1))))else(bif(decide (s0=2))then(Option.bind (Option.bind (a0Z y0.n_.c_ x1.B_) λy8=>(bif y8 then(some true)else(Option.bind (a0Z y0.n_.e_ x1.B_) λy9=>(some y9)))) fun(s4:Bool)=>(bif s4 then(some (.inr (.inr (.inr false))))else(some (.inl 2))))else none))) (a0m fun(s5:Int)=>(some (.inl (IntKind.wrap .i64 (s5+1))))))else(some (.inr (.inl ()))))) big 0)) (a0m fun(s7:Unit)=>(some true)))))))
theorem p0m {x0:c0T} {x1:a0j} {r:Bool} (h:h0O x0 x1=some r):SQ 154 [.agg (a0d x0), .agg (a0b x1)] [] (.bool r) []:=by
 refine kFn (fn:=Tryz.f154) (λF D W V=> ?_)
 unfold h0O at h
 refine kq (kS (kq (kBT 10 h (λh4=> ?_) (λh5=> ?_))))
 exact kq (kX (PJ.passRet (by cases h4;exact kZ D W V)))
 refine kKN (kn 2 (kAb 13 h5 (λ_=>k0U) (λy1 h6=>kr 1 (kcX h6 (fun(s6:Unit)=>([(2, .ptr 0 0),(3, .ptr 1 0),(4, .bool false)],[.box (a0d x0), .box (a0b x1)])) (λy10 hy1 h7=> ?_) (λs6 h8=> ?_)))))
 exact kcN hy1 (fun(s1:Bool)=>([(2, .ptr 0 0),(3, .ptr 1 0),(4, .bool false),(25, .bool s1)],[.box (a0d x0), .box (a0b x1)])) (λs1 hy2=>km 3 (kB 16 hy2 (λh10=>kc 4 (kB 20 h10 (λh12=>ke 5 (kNo h12 [2,3,4,25])) (λh13=>kc 3 (kAb 24 h13 (λ_=>i0Z) (λy2 h14=>ke 1 (kNo h14 [2,3,4,25])))))) (λh11=>kc 7 (kAb 24 h11 (λ_=>i0Z) (λy3 h15=>ke 1 (kNo h15 [2,3,4,25])))))) (λs1 h9=>kBT 25 h9 (λh16=>kq (kX (kCx h16 h7 (λh18=>by obtain rfl:=oi h18;exact kZ D W V)))) (λh17=>kK (kXo h17 [2,3,4])))
 refine kcX h8 (fun(s7:Unit)=>([(4, .bool false)],[])) (λy11 hy3 h0=> ?_) (λs7 h19=> ?_)
 refine kn 2 ?_
 obtain⟨y0,hy4,h20⟩:=a0l hy3
 refine RJ.call0 (d:=(some 28)) (f:=118) (args:=[.agg (a0d x0), .agg (a0b x1), .nl]) (v:= .agg (d0L y0)) (tr2:=[]) (by kernel_rfl) (by kernel_rfl) (.cons (Le.refl _) (.cons (Le.refl _) (.cons (Le.nl _) .nil))) (i0g hy4) (by kernel_rfl) (kr 1 (kb 0 (J.wk (Wk.sel (L2:=[(3, .ptr 0 0),(4, .bool false),(28, .agg (d0L y0)),(29,iL 0)]) (H2:=[.box (a0b x1)]) 0 (by rw[W];rfl) V [1] (by kernel_rfl) (by kernel_rfl) (by decide) (by kernel_rfl) (by kernel_rfl) (by kernel_rfl) (by kernel_rfl)) (kl (fun(s0:Int)=>([(3, .ptr 0 0),(4, .bool false),(28, .agg (d0L y0)),(29,iL s0)],[.box (a0b x1)])) h20 [3,4,28,29] (λs0 x858 hs0=>kq (kS (kBT 30 hs0 (λh21=> ?_) (λh22=> ?_))))))))
 refine kKN (kcX h21 (fun(s5:Int)=>([(3, .ptr 0 0),(4, .bool false),(28, .agg (d0L y0)),(29,iL s5)],[.box (a0b x1)])) (λy12 hy0 h1=> ?_) (λs5 h23=> ?_))
 refine kb 1 (kSR ?_)
 cases hb0:(decide (s0=0))
 have h2:=condF hb0 hy0
 cases hb1:(decide (s0=1))
 have h3:=condF hb1 h2
 cases hb2:(decide (s0=2))
 have h24:=condF hb2 h3
 cases h24
 have h25:=condT hb2 h3
 exact RJ.pin 29 (kd:= .i64) (by kernel_rfl) (of_decide_eq_true hb2) (kr 3 (kcN h25 (fun(s4:Bool)=>([(3, .ptr 0 0),(4, .bool false),(28, .agg (d0L y0)),(29,iL 2),(43, .bool s4)],[.box (a0b x1)])) (λs4 hy5=>km 4 (kAb 36 hy5 (λ_=>c0t) (λy8 h27=>kc 1 (kB 37 h27 (λh28=>ke 6 (kNW h28 W V [0])) (λh29=>kc 4 (kAb 42 h29 (λ_=>c0t) (λy9 h30=>ke 1 (kNW h30 W V [0])))))))) (λs4 h26=>kBT 43 h26 (λh31=>kq (kXb (kCx h31 h1 (λh33=>kLx h33 (λh34=>PJ.blockRet (kCx h34 h0 (λh35=>by obtain rfl:=oi h35;exact kZ D W V))))))) (λh32=>kKb (kXo h32 [3,4,28,29])))))
 have h36:=condT hb1 h2
 exact RJ.pin 29 (kd:= .i64) (by kernel_rfl) (of_decide_eq_true hb1) (kr 3 (kcN h36 (fun(s3:Bool)=>([(3, .ptr 0 0),(4, .bool false),(28, .agg (d0L y0)),(29,iL 1),(43, .bool s3)],[.box (a0b x1)])) (λs3 hy6=>km 4 (kAb 36 hy6 (λ_=>c0t) (λy6 h38=>kc 1 (kB 37 h38 (λh39=>ke 6 (kNW h39 W V [0])) (λh40=>kc 4 (kAb 42 h40 (λ_=>c0t) (λy7 h41=>ke 1 (kNW h41 W V [0])))))))) (λs3 h37=>kBT 43 h37 (λh42=>kq (kXb (kCx h42 h1 (λh44=>kLx h44 (λh45=>PJ.blockRet (kCx h45 h0 (λh46=>by obtain rfl:=oi h46;exact kZ D W V))))))) (λh43=>kKb (kXo h43 [3,4,28,29])))))
 have h47:=condT hb0 hy0
 exact RJ.pin 29 (kd:= .i64) (by kernel_rfl) (of_decide_eq_true hb0) (kr 3 (kcN h47 (fun(s2:Bool)=>([(3, .ptr 0 0),(4, .bool false),(28, .agg (d0L y0)),(29,iL 0),(43, .bool s2)],[.box (a0b x1)])) (λs2 hy7=>km 4 (kAb 36 hy7 (λ_=>c0t) (λy4 h49=>kc 1 (kB 37 h49 (λh50=>ke 6 (kNW h50 W V [0])) (λh51=>kc 4 (kAb 42 h51 (λ_=>c0t) (λy5 h52=>ke 1 (kNW h52 W V [0])))))))) (λs2 h48=>kBT 43 h48 (λh53=>kq (kXb (kCx h53 h1 (λh55=>kLx h55 (λh56=>PJ.blockRet (kCx h56 h0 (λh57=>by obtain rfl:=oi h57;exact kZ D W V))))))) (λh54=>kKb (kXo h54 [3,4,28,29])))))
 exact kM (kLo h23 [3,4,28,29])
 exact kEp 0 (kLx h22 (λh58=>PJ.blockOut (kXW h58 W V [])))
 exact kq (kX (by cases h19;exact kZ D W V))
def d0I(x0:c0T)(x1:Int)(x2:List UInt8):Option (a0j×Bool):=
 (Option.bind (k0a x2) λy0=>(Option.bind (Option.bind (bif(!y0.2)then(some true)else(bif(decide (x1<0))then(some true)else(some (decide (x1>3))))) fun(s0:Bool)=>(bif s0 then(some (.inr ((⟨([]:List a0c),([]:List a0c),([]:List a0c),([]:List a0c),false,0,0,0,0,0,0,0,0,0,false,0,0⟩:a0j),false)))else(some (.inl ())))) (a0m fun(s3:Unit)=>(Option.bind (Option.bind (Option.bind (g0c y0.1 x1) λy2=>(bif(!y2)then(some true)else(Option.bind (f0O y0.1.c_ y0.1.e_ x1 0) λy3=>(bif(!y3)then(some true)else(bif y0.1.O_ then(Option.bind (f0O y0.1.A_ y0.1.y_ x1 1) λy4=>(some (!y4)))else(some false)))))) fun(s1:Bool)=>(bif s1 then(some (.inr ((⟨([]:List a0c),([]:List a0c),([]:List a0c),([]:List a0c),false,0,0,0,0,0,0,0,0,0,false,0,0⟩:a0j),false)))else(some (.inl ())))) (a0m fun(s4:Unit)=>(Option.bind (Option.bind (Option.bind (d0H x0 y0.1 ([]:List Int)) λy1=>(bif(!y1)then(some true)else(Option.bind (h0O x0 y0.1) λy5=>(some (!y5))))) fun(s2:Bool)=>(bif s2 then(some (.inr ((⟨([]:List a0c),([]:List a0c),([]:List a0c),([]:List a0c),false,0,0,0,0,0,0,0,0,0,false,0,0⟩:a0j),false)))else(some (.inl ())))) (a0m fun(s5:Unit)=>(some (y0.1,true)))))))))
theorem e0z {x0:c0T} {x1:Int} {x2:List UInt8} {r:a0j×Bool} (h:d0I x0 x1 x2=some r):SQ 90 [.agg (a0d x0),iL x1, .str x2] [] (.tup [.agg (a0b r.1), .bool r.2]) []:=by
 refine kFn (fn:=Tryz.f90) (λF D W V=> ?_)
 unfold d0I at h
 refine kq (kn 1 (kAb 12 h (λ_=>n0y) (λy0 h0=>kr 6 (kcX h0 (fun(s3:Unit)=>([(1,iL x1),(3, .ptr 0 0),(6, .ptr 1 0),(7, .bool false),(8, .ptr 2 0)],[.box (a0d x0), .box [.nl, .nl, .nl, .nl, .bool false,iL 0,iL 0,iL 0,iL 0,iL 0,iL 0,iL 0,iL 0,iL 0, .bool false,iM 0,iL 0], .box (a0b y0.1)])) (λy6 hy0 h1=> ?_) (λs3 h2=> ?_)))))
 exact kcN hy0 (fun(s0:Bool)=>([(1,iL x1),(3, .ptr 0 0),(6, .ptr 1 0),(7, .bool false),(8, .ptr 2 0),(24, .bool s0)],[.box (a0d x0), .box [.nl, .nl, .nl, .nl, .bool false,iL 0,iL 0,iL 0,iL 0,iL 0,iL 0,iL 0,iL 0,iL 0, .bool false,iM 0,iL 0], .box (a0b y0.1)])) (λs0 hy1=>km 3 (kB 17 hy1 (λh4=>ke 7 (kNo h4 [1,3,6,7,8,24])) (λh5=>kc 4 (kB 21 h5 (λh6=>ke 3 (kNo h6 [1,3,6,7,8,24])) (λh7=>ke 3 (kNo h7 [1,3,6,7,8,24])))))) (λs0 h3=>kBT 24 h3 (λh8=>kq (kX (kCx h8 h1 (λh10=>by obtain rfl:=oi h10;exact PJ.res (v1:= .tup [zQ, .bool false]) (Le.tup (.cons (Le.agg (.cons (Le.nl _) (.cons (Le.nl _) (.cons (Le.nl _) (.cons (Le.nl _) (LeL.refl _)))))) (LeL.refl _))) (kZ D W V))))) (λh9=>kK (kXo h9 [1,3,6,7,8])))
 refine kcX h2 (fun(s4:Unit)=>([(3, .ptr 0 0),(6, .ptr 1 0),(7, .bool false),(8, .ptr 2 0)],[.box (a0d x0), .box [.nl, .nl, .nl, .nl, .bool false,iL 0,iL 0,iL 0,iL 0,iL 0,iL 0,iL 0,iL 0,iL 0, .bool false,iM 0,iL 0], .box (a0b y0.1)])) (λy7 hy2 h11=> ?_) (λs4 h12=> ?_)
 exact kcN hy2 (fun(s1:Bool)=>([(3, .ptr 0 0),(6, .ptr 1 0),(7, .bool false),(8, .ptr 2 0),(51, .bool s1)],[.box (a0d x0), .box [.nl, .nl, .nl, .nl, .bool false,iL 0,iL 0,iL 0,iL 0,iL 0,iL 0,iL 0,iL 0,iL 0, .bool false,iM 0,iL 0], .box (a0b y0.1)])) (λs1 hy3=>km 2 (kAb 28 hy3 (λ_=>n0z) (λy2 h14=>kc 2 (kB 30 h14 (λh15=>ke 21 (kNo h15 [3,6,7,8,51])) (λh16=>kc 5 (kAb 36 h16 (λ_=>i0f) (λy3 h17=>kc 3 (kB 39 h17 (λh18=>ke 12 (kNo h18 [3,6,7,8,51])) (λh19=>kc 3 (kB 42 h19 (λh20=>kc 5 (kAb 48 h20 (λ_=>i0f) (λy4 h22=>ke 3 (kNo h22 [3,6,7,8,51])))) (λh21=>ke 9 (kNo h21 [3,6,7,8,51])))))))))))) (λs1 h13=>kBT 51 h13 (λh23=>kq (kX (kCx h23 h11 (λh25=>by obtain rfl:=oi h25;exact PJ.res (v1:= .tup [zQ, .bool false]) (Le.tup (.cons (Le.agg (.cons (Le.nl _) (.cons (Le.nl _) (.cons (Le.nl _) (.cons (Le.nl _) (LeL.refl _)))))) (LeL.refl _))) (kZ D W V))))) (λh24=>kK (kXo h24 [3,6,7,8])))
 refine kcX h12 (fun(s5:Unit)=>([(6, .ptr 0 0),(7, .bool false),(8, .ptr 1 0)],[.box [.nl, .nl, .nl, .nl, .bool false,iL 0,iL 0,iL 0,iL 0,iL 0,iL 0,iL 0,iL 0,iL 0, .bool false,iM 0,iL 0], .box (a0b y0.1)])) (λy8 hy4 h26=> ?_) (λs5 h27=> ?_)
 refine kcN hy4 (fun(s2:Bool)=>([(6, .ptr 0 0),(7, .bool false),(8, .ptr 1 0),(62, .bool s2)],[.box [.nl, .nl, .nl, .nl, .bool false,iL 0,iL 0,iL 0,iL 0,iL 0,iL 0,iL 0,iL 0,iL 0, .bool false,iM 0,iL 0], .box (a0b y0.1)])) (λs2 hy5=> ?_) (λs2 h28=> ?_)
 refine km 2 ?_
 obtain⟨y1,hy6,h29⟩:=a0l hy5
 exact RJ.call0 (d:=(some 55)) (f:=94) (args:=[.agg (a0d x0), .agg (a0b y0.1), .nl]) (v:= .bool y1) (tr2:=[]) (by kernel_rfl) (by kernel_rfl) (.cons (Le.refl _) (.cons (Le.refl _) (.cons (Le.nl _) .nil))) (g0o hy6) (by kernel_rfl) (kc 2 (kB 57 h29 (λh30=>ke 5 (kNW h30 W V [1,2])) (λh31=>kc 2 (kAb 60 h31 (λ_=>p0m) (λy5 h32=>ke 2 (kNW h32 W V [1,2]))))))
 exact kBT 62 h28 (λh33=>kq (kX (kCx h33 h26 (λh35=>by obtain rfl:=oi h35;exact PJ.res (v1:= .tup [zQ, .bool false]) (Le.tup (.cons (Le.agg (.cons (Le.nl _) (.cons (Le.nl _) (.cons (Le.nl _) (.cons (Le.nl _) (LeL.refl _)))))) (LeL.refl _))) (kZ D W V))))) (λh34=>kK (kXo h34 [6,7,8]))
 exact kq (kX (by cases h27;exact kZ D W V))
def e0X(x0:g0l)(x1:Int):Option (a0j):=
 (Option.bind (bif(decide (x1=4))then(some 0)else(some x1)) fun(s0:Int)=>(bif(decide (s0=0))then(Option.bind (d0I x0.S_ s0 x0.a_.g_) λy0=>(some y0.1))else(bif(decide (s0=1))then(Option.bind (d0I x0.S_ s0 x0.a_.h_) λy1=>(some y1.1))else(bif(decide (s0=2))then(Option.bind (d0I x0.S_ s0 x0.a_.n_) λy2=>(some y2.1))else(bif(decide (s0=3))then(Option.bind (d0I x0.S_ s0 x0.a_.x_) λy3=>(some y3.1))else none)))))
theorem j0P {x0:g0l} {x1:Int} {r:a0j} (h:e0X x0 x1=some r):SQ 47 [.agg (a0y x0),iL x1] [] (.agg (a0b r)) []:=by
 refine kFn (fn:=Tryz.f47) (λF D W V=> ?_)
 unfold e0X at h
 refine kq (kcN h (fun(s0:Int)=>([(1,iL s0),(2, .ptr 0 0),(4, .ptr 1 0)],[.box (a0y x0), .box [.nl, .nl, .nl, .nl, .bool false,iL 0,iL 0,iL 0,iL 0,iL 0,iL 0,iL 0,iL 0,iL 0, .bool false,iM 0,iL 0]])) (λs0 hy0=> ?_) (λs0 h0=> ?_))
 exact kq (kBT 8 hy0 (λh4=>kM (kNo h4 [1,2,4])) (λh5=>kK (kNo h5 [1,2,4])))
 refine kS (kDr (kD 5 ?_))
 cases hb0:(decide (s0=0))
 have h1:=condF hb0 h0
 cases hb1:(decide (s0=1))
 have h2:=condF hb1 h1
 cases hb2:(decide (s0=2))
 have h3:=condF hb2 h2
 cases hb3:(decide (s0=3))
 have h6:=condF hb3 h3
 cases h6
 have h7:=condT hb3 h3
 refine RJ.pin 13 (kd:= .i64) (by kernel_rfl) (of_decide_eq_true hb3) (kD 2 ?_)
 obtain⟨y3,hy1,h8⟩:=a0l h7
 exact kC0 (some 17) [([],[]),([0,1],[]),([],[]),([],[]),([],[]),([],[]),([0,1],[]),([],[4,5])] (e0z hy1) (kD 6 (kEN (kq (kX (by cases h8;exact kZ D W V)))))
 have h9:=condT hb2 h2
 refine RJ.pin 13 (kd:= .i64) (by kernel_rfl) (of_decide_eq_true hb2) (kD 2 ?_)
 obtain⟨y2,hy2,h10⟩:=a0l h9
 exact kC0 (some 17) [([],[]),([0,1],[]),([],[]),([],[]),([],[]),([],[]),([0,1],[]),([],[4,5])] (e0z hy2) (kD 6 (kEN (kq (kX (by cases h10;exact kZ D W V)))))
 have h11:=condT hb1 h1
 refine RJ.pin 13 (kd:= .i64) (by kernel_rfl) (of_decide_eq_true hb1) (kD 2 ?_)
 obtain⟨y1,hy3,h12⟩:=a0l h11
 exact kC0 (some 17) [([],[]),([0,1],[]),([],[]),([],[]),([],[]),([],[]),([0,1],[]),([],[4,5])] (e0z hy3) (kD 6 (kEN (kq (kX (by cases h12;exact kZ D W V)))))
 have h13:=condT hb0 h0
 refine RJ.pin 13 (kd:= .i64) (by kernel_rfl) (of_decide_eq_true hb0) (kD 2 ?_)
 obtain⟨y0,hy4,h14⟩:=a0l h13
 exact kC0 (some 17) [([],[]),([0,1],[]),([],[]),([],[]),([],[]),([],[]),([0,1],[]),([],[4,5])] (e0z hy4) (kD 6 (kEN (kq (kX (by cases h14;exact kZ D W V)))))
def c0A(x0:a0j)(x1:List Int)(x2:List UInt8)(x3 x4 x5 x6 x7 x8 x9:Int)(x10 x11 x12 x13:List UInt8)(x14:List o0h)(x15:List o0J)(x16:List l0b)(x17:Int):Option (Int):=
 (a0x (fun(s0:Int×Int)=>(bif(decide (s0.1<3))then(Option.bind (g0I x0 (⟨x3,x4,x5,x6,x7,x8,x9⟩:c0T) s0.1 x1) λy0=>(some (.inl ((IntKind.wrap .i64 (s0.1+1)),(l0O s0.2 ((IntKind.wrap .i64 ((y0.c_.length:Int)+(y0.e_.length:Int)))))))))else(some (.inr s0.2)))) big (0,x17))
theorem e0M {x0:a0j} {x1:List Int} {x2:List UInt8} {x3 x4 x5 x6 x7 x8 x9:Int} {x10 x11 x12 x13:List UInt8} {x14:List o0h} {x15:List o0J} {x16:List l0b} {x17 r:Int} (h:c0A x0 x1 x2 x3 x4 x5 x6 x7 x8 x9 x10 x11 x12 x13 x14 x15 x16 x17=some r):SQ 45 [.agg (a0b x0),lR x1, .ptr 0 0, .ptr 1 0] [.box (q12 x2 x3 x4 x5 x6 x7 x8 x9 x10 x11 x12 x13 [lsv c0d 2 x14,lsv c0Q 3 x15,lsv b0L 3 x16]), .box [iL x17]] (.tup []) [.box (q12 x2 x3 x4 x5 x6 x7 x8 x9 x10 x11 x12 x13 [lsv c0d 2 x14,lsv c0Q 3 x15,lsv b0L 3 x16]), .box [iL r]]:=by
 refine kFn (fn:=Tryz.f45) (λF D W V=> ?_)
 unfold c0A at h
 exact kq (kq (kb 0 (kl (fun(s0:Int×Int)=>([(1,lR x1),(2, .ptr 0 0),(3, .ptr 1 0),(4, .ptr 2 0),(8,iL s0.1)],[.box (q12 x2 x3 x4 x5 x6 x7 x8 x9 x10 x11 x12 x13 [lsv c0d 2 x14,lsv c0Q 3 x15,lsv b0L 3 x16]), .box [iL s0.2], .box (a0b x0)])) h [1,2,3,4,8] (λs0 x19 hs0=>kq (kS (kBT 9 hs0 (λh0=>kKN (kS (kb 1 (kq (kn 5 (kAb 16 h0 (λ_=>h0f) (λy0 h2=>kr 2 (kM (PJ.blockNormal (PJ.next (kM (kLW h2 W V [0,1,2])))))))))))) (λh1=>kEp 0 (kLx h1 (λh3=>PJ.blockOut (by obtain rfl:=oi h3;exact kRV [0,1] (.inl rfl) D W V))))))))))
structure w0V where
 g_:List UInt8
 h_:List UInt8
 n_:List UInt8
 x_:List UInt8
 a4_:List UInt8
 a5_:List UInt8
 deriving Inhabited,DecidableEq
def m0Z(x:w0V):List SV:=[.str x.g_, .str x.h_, .str x.n_, .str x.x_, .str x.a4_, .str x.a5_]
theorem y0U(x:w0V):(m0Z x).length=6:=rfl
def j0Y:Option (w0V):=
 (some (⟨([111,116,104,101,114]:List UInt8),([122,101,114,111]:List UInt8),([111,110,101]:List UInt8),([116,119,111]:List UInt8),([102,101,119]:List UInt8),([109,97,110,121]:List UInt8)⟩:w0V))
theorem p0c {r:w0V} (h:j0Y=some r):SQ 157 [] [] (.agg (m0Z r)) []:=by
 refine kFn (fn:=Tryz.f157) (λF D W V=> ?_)
 unfold j0Y at h
 exact kq (kq (kX (by cases h;exact kZ D W V)))
def j0f(x0:Int):Option (List UInt8):=
 (Option.bind j0Y λy0=>(Option.bind (Option.bind (bif(decide (x0<0))then(some true)else(some (decide (x0≥6)))) fun(s0:Bool)=>(bif s0 then(some (.inr ([]:List UInt8)))else(some (.inl ())))) (a0m fun(s1:Unit)=>(bif(decide (x0=0))then(some y0.g_)else(bif(decide (x0=1))then(some y0.h_)else(bif(decide (x0=2))then(some y0.n_)else(bif(decide (x0=3))then(some y0.x_)else(bif(decide (x0=4))then(some y0.a4_)else(bif(decide (x0=5))then(some y0.a5_)else none)))))))))
theorem q0p {x0:Int} {r:List UInt8} (h:j0f x0=some r):SQ 92 [iL x0] [] (.str r) []:=by
 refine kFn (fn:=Tryz.f92) (λF D W V=> ?_)
 unfold j0f at h
 refine kq (kSR (kAb 4 h (λ_=>p0c) (λy0 h6=>kr 2 (kcX h6 (fun(s1:Unit)=>([(0,iL x0),(2, .str ([]:List UInt8)),(3, .ptr 0 0)],[.box (m0Z y0)])) (λy1 hy0 h7=> ?_) (λs1 h0=> ?_)))))
 exact kcN hy0 (fun(s0:Bool)=>([(0,iL x0),(2, .str ([]:List UInt8)),(3, .ptr 0 0),(10, .bool s0)],[.box (m0Z y0)])) (λs0 hy1=>km 3 (kB 7 hy1 (λh9=>ke 3 (kNo h9 [0,2,3,10])) (λh10=>ke 3 (kNo h10 [0,2,3,10])))) (λs0 h8=>kBT 10 h8 (λh11=>kq (kX (kCx h11 h7 (λh13=>by obtain rfl:=oi h13;exact kZ D W V)))) (λh12=>kK (kXo h12 [0,2,3])))
 refine kn 1 ?_
 cases hb0:(decide (x0=0))
 have h1:=condF hb0 h0
 cases hb1:(decide (x0=1))
 have h2:=condF hb1 h1
 cases hb2:(decide (x0=2))
 have h3:=condF hb2 h2
 cases hb3:(decide (x0=3))
 have h4:=condF hb3 h3
 cases hb4:(decide (x0=4))
 have h5:=condF hb4 h4
 cases hb5:(decide (x0=5))
 have h14:=condF hb5 h5
 cases h14
 have h15:=condT hb5 h5
 exact RJ.pin 11 (kd:= .i64) (by kernel_rfl) (of_decide_eq_true hb5) (kr 3 (kX (by cases h15;exact kZ D W V)))
 have h16:=condT hb4 h4
 exact RJ.pin 11 (kd:= .i64) (by kernel_rfl) (of_decide_eq_true hb4) (kr 3 (kX (by cases h16;exact kZ D W V)))
 have h17:=condT hb3 h3
 exact RJ.pin 11 (kd:= .i64) (by kernel_rfl) (of_decide_eq_true hb3) (kr 3 (kX (by cases h17;exact kZ D W V)))
 have h18:=condT hb2 h2
 exact RJ.pin 11 (kd:= .i64) (by kernel_rfl) (of_decide_eq_true hb2) (kr 3 (kX (by cases h18;exact kZ D W V)))
 have h19:=condT hb1 h1
 exact RJ.pin 11 (kd:= .i64) (by kernel_rfl) (of_decide_eq_true hb1) (kr 3 (kX (by cases h19;exact kZ D W V)))
 have h20:=condT hb0 h0
 exact RJ.pin 11 (kd:= .i64) (by kernel_rfl) (of_decide_eq_true hb0) (kr 3 (kX (by cases h20;exact kZ D W V)))
def h0P(x0:c0T)(x1:l0b):Option (a0j×Bool):=
 (Option.bind (k0a x1.Z_) λy0=>(Option.bind (Option.bind (bif(!y0.2)then(some true)else(bif(decide (x1.ah_<2))then(some true)else(bif(decide (x1.ah_>30))then(some true)else(Option.bind (j0f x1.af_) λy2=>(some (y2==([]:List UInt8))))))) fun(s0:Bool)=>(bif s0 then(some (.inr ((⟨([]:List a0c),([]:List a0c),([]:List a0c),([]:List a0c),false,0,0,0,0,0,0,0,0,0,false,0,0⟩:a0j),false)))else(some (.inl ())))) (a0m fun(s3:Unit)=>(Option.bind (Option.bind (bif(decide (y0.1.z_<1))then(some true)else(bif(decide (y0.1.z_≥x1.ah_))then(some true)else(bif y0.1.O_ then(some true)else(some ((decide (((IntKind.wrap .i64 ((y0.1.c_.length:Int)+(y0.1.e_.length:Int))))=0))))))) fun(s1:Bool)=>(bif s1 then(some (.inr ((⟨([]:List a0c),([]:List a0c),([]:List a0c),([]:List a0c),false,0,0,0,0,0,0,0,0,0,false,0,0⟩:a0j),false)))else(some (.inl ())))) (a0m fun(s4:Unit)=>(bif(!((decide (y0.1.I_=0))&&((decide (y0.1.p_=0))&&((decide (y0.1.o_=0))&&((decide (y0.1.s_=0))&&((decide (y0.1.b_=0))&&((decide (y0.1.P_=0))&&true)))))))then(some ((⟨([]:List a0c),([]:List a0c),([]:List a0c),([]:List a0c),false,0,0,0,0,0,0,0,0,0,false,0,0⟩:a0j),false))else(Option.bind (Option.bind (Option.bind (f0O y0.1.c_ y0.1.e_ 0 0) λy3=>(bif(!y3)then(some true)else(Option.bind (d0H x0 y0.1 ([]:List Int)) λy1=>(some (!y1))))) fun(s2:Bool)=>(bif s2 then(some (.inr ((⟨([]:List a0c),([]:List a0c),([]:List a0c),([]:List a0c),false,0,0,0,0,0,0,0,0,0,false,0,0⟩:a0j),false)))else(some (.inl ())))) (a0m fun(s5:Unit)=>(some (y0.1,true))))))))))
theorem m0A {x0:c0T} {x1:l0b} {r:a0j×Bool} (h:h0P x0 x1=some r):SQ 48 [.agg (a0d x0), .agg (b0L x1)] [] (.tup [.agg (a0b r.1), .bool r.2]) []:=by
 refine kFn (fn:=Tryz.f48) (λF D W V=> ?_)
 unfold h0P at h
 refine kq (kn 2 (kAb 11 h (λ_=>n0y) (λy0 h0=>kr 6 (kcX h0 (fun(s3:Unit)=>([(2, .ptr 0 0),(3, .ptr 1 0),(4, .ptr 2 0),(5, .bool false),(6, .ptr 3 0)],[.box (a0d x0), .box (b0L x1), .box [.nl, .nl, .nl, .nl, .bool false,iL 0,iL 0,iL 0,iL 0,iL 0,iL 0,iL 0,iL 0,iL 0, .bool false,iM 0,iL 0], .box (a0b y0.1)])) (λy4 hy0 h1=> ?_) (λs3 h2=> ?_)))))
 exact kcN hy0 (fun(s0:Bool)=>([(2, .ptr 0 0),(3, .ptr 1 0),(4, .ptr 2 0),(5, .bool false),(6, .ptr 3 0),(31, .bool s0)],[.box (a0d x0), .box (b0L x1), .box [.nl, .nl, .nl, .nl, .bool false,iL 0,iL 0,iL 0,iL 0,iL 0,iL 0,iL 0,iL 0,iL 0, .bool false,iM 0,iL 0], .box (a0b y0.1)])) (λs0 hy1=>km 3 (kB 16 hy1 (λh4=>ke 15 (kNo h4 [2,3,4,5,6,31])) (λh5=>kc 5 (kB 21 h5 (λh6=>ke 10 (kNo h6 [2,3,4,5,6,31])) (λh7=>kc 5 (kB 26 h7 (λh8=>ke 5 (kNo h8 [2,3,4,5,6,31])) (λh9=>kc 2 (kAb 29 h9 (λ_=>q0p) (λy2 h10=>ke 2 (kNo h10 [2,3,4,5,6,31])))))))))) (λs0 h3=>kBT 31 h3 (λh11=>kq (kX (kCx h11 h1 (λh13=>by obtain rfl:=oi h13;exact PJ.res (v1:= .tup [zQ, .bool false]) (Le.tup (.cons (Le.agg (.cons (Le.nl _) (.cons (Le.nl _) (.cons (Le.nl _) (.cons (Le.nl _) (LeL.refl _)))))) (LeL.refl _))) (kZ D W V))))) (λh12=>kK (kXo h12 [2,3,4,5,6])))
 refine kcX h2 (fun(s4:Unit)=>([(2, .ptr 0 0),(4, .ptr 1 0),(5, .bool false),(6, .ptr 2 0)],[.box (a0d x0), .box [.nl, .nl, .nl, .nl, .bool false,iL 0,iL 0,iL 0,iL 0,iL 0,iL 0,iL 0,iL 0,iL 0, .bool false,iM 0,iL 0], .box (a0b y0.1)])) (λy5 hy2 h14=> ?_) (λs4 h15=> ?_)
 exact kcN hy2 (fun(s1:Bool)=>([(2, .ptr 0 0),(4, .ptr 1 0),(5, .bool false),(6, .ptr 2 0),(56, .bool s1)],[.box (a0d x0), .box [.nl, .nl, .nl, .nl, .bool false,iL 0,iL 0,iL 0,iL 0,iL 0,iL 0,iL 0,iL 0,iL 0, .bool false,iM 0,iL 0], .box (a0b y0.1)])) (λs1 hy3=>km 4 (kB 36 hy3 (λh17=>ke 20 (kNW h17 W V [0,2,3])) (λh18=>kc 7 (kB 43 h18 (λh19=>ke 13 (kNW h19 W V [0,2,3])) (λh20=>kc 4 (kB 47 h20 (λh21=>ke 9 (kNW h21 W V [0,2,3])) (λh22=>ke 9 (kNW h22 W V [0,2,3])))))))) (λs1 h16=>kBT 56 h16 (λh23=>kq (kX (kCx h23 h14 (λh25=>by obtain rfl:=oi h25;exact PJ.res (v1:= .tup [zQ, .bool false]) (Le.tup (.cons (Le.agg (.cons (Le.nl _) (.cons (Le.nl _) (.cons (Le.nl _) (.cons (Le.nl _) (LeL.refl _)))))) (LeL.refl _))) (kZ D W V))))) (λh24=>kK (kXo h24 [2,4,5,6])))
 refine kS (kq (kBT 72 h15 (λh26=> ?_) (λh27=> ?_)))
 exact kq (kX (PJ.passRet (by obtain rfl:=oi h26;exact PJ.res (v1:= .tup [zQ, .bool false]) (Le.tup (.cons (Le.agg (.cons (Le.nl _) (.cons (Le.nl _) (.cons (Le.nl _) (.cons (Le.nl _) (LeL.refl _)))))) (LeL.refl _))) (kZ D W V))))
 refine kKN (kcX h27 (fun(s5:Unit)=>([(4, .ptr 0 0),(5, .bool false),(6, .ptr 1 0)],[.box [.nl, .nl, .nl, .nl, .bool false,iL 0,iL 0,iL 0,iL 0,iL 0,iL 0,iL 0,iL 0,iL 0, .bool false,iM 0,iL 0], .box (a0b y0.1)])) (λy6 hy4 h28=> ?_) (λs5 h29=> ?_))
 refine kcN hy4 (fun(s2:Bool)=>([(4, .ptr 0 0),(5, .bool false),(6, .ptr 1 0),(85, .bool s2)],[.box [.nl, .nl, .nl, .nl, .bool false,iL 0,iL 0,iL 0,iL 0,iL 0,iL 0,iL 0,iL 0,iL 0, .bool false,iM 0,iL 0], .box (a0b y0.1)])) (λs2 hy5=> ?_) (λs2 h30=> ?_)
 refine km 4 (kAb 78 hy5 (λ_=>i0f) (λy3 h31=>kc 2 (kB 80 h31 (λh32=> ?_) (λh33=> ?_))))
 exact ke 5 (kNW h32 W V [1,2])
 refine kc 2 ?_
 obtain⟨y1,hy6,h34⟩:=a0l h33
 exact RJ.call0 (d:=(some 83)) (f:=94) (args:=[.agg (a0d x0), .agg (a0b y0.1), .nl]) (v:= .bool y1) (tr2:=[]) (by kernel_rfl) (by kernel_rfl) (.cons (Le.refl _) (.cons (Le.refl _) (.cons (Le.nl _) .nil))) (g0o hy6) (by kernel_rfl) (ke 2 (kNW h34 W V [1,2]))
 exact kBT 85 h30 (λh35=>kq (kX (kCx h35 h28 (λh37=>by obtain rfl:=oi h37;exact PJ.res (v1:= .tup [zQ, .bool false]) (Le.tup (.cons (Le.agg (.cons (Le.nl _) (.cons (Le.nl _) (.cons (Le.nl _) (.cons (Le.nl _) (LeL.refl _)))))) (LeL.refl _))) (kZ D W V))))) (λh36=>kK (kXo h36 [4,5,6]))
 exact kq (kX (by cases h29;exact kZ D W V))
def h0c(x0:g0l)(x1:Int):Option (Int):=
 (Option.bind (e0X x0 x1) λy0=>(Option.bind (c0A y0 ([]:List Int) x0.J_ x0.S_.Y_ x0.S_.t_ x0.S_.r_ x0.S_.k_ x0.S_.j_ x0.S_.m_ x0.S_.b_ x0.a_.g_ x0.a_.h_ x0.a_.n_ x0.a_.x_ x0.T_ x0.i_ x0.f_ 0) λy1=>(Option.bind (bif(decide (x1=3))then(a0x (fun(s0:Int×Int)=>(bif(decide (s0.1<(x0.i_.length:Int)))then(bif inR s0.1 x0.i_.length then(Option.bind (c0A y0 ((e0R ((nth x0.i_ s0.1).l_))) x0.J_ x0.S_.Y_ x0.S_.t_ x0.S_.r_ x0.S_.k_ x0.S_.j_ x0.S_.m_ x0.S_.b_ x0.a_.g_ x0.a_.h_ x0.a_.n_ x0.a_.x_ x0.T_ x0.i_ x0.f_ s0.2) λy4=>(some (.inl ((IntKind.wrap .i64 (s0.1+1)),y4))))else none)else(some (.inr s0.2)))) big (0,y1))else(bif(decide (x1=4))then(a0x (fun(s1:Int×Int)=>(bif(decide (s1.1<(x0.f_.length:Int)))then(bif inR s1.1 x0.f_.length then(Option.bind (h0P x0.S_ (nth x0.f_ s1.1)) λy2=>(Option.bind (c0A y2.1 ([]:List Int) x0.J_ x0.S_.Y_ x0.S_.t_ x0.S_.r_ x0.S_.k_ x0.S_.j_ x0.S_.m_ x0.S_.b_ x0.a_.g_ x0.a_.h_ x0.a_.n_ x0.a_.x_ x0.T_ x0.i_ x0.f_ s1.2) λy3=>(some (.inl ((IntKind.wrap .i64 (s1.1+1)),y3)))))else none)else(some (.inr s1.2)))) big (0,y1))else(some y1))) fun(s2:Int)=>(some s2))))
theorem o0f {x0:g0l} {x1 r:Int} (h:h0c x0 x1=some r):SQ 23 [.agg (a0y x0),iL x1] [] (iL r) []:=by
 refine kFn (fn:=Tryz.f23) (λF D W V=> ?_)
 unfold h0c at h
 refine kq (kq (kq (kn 2 (kAb 17 h (λ_=>j0P) (λy0 h0=>kr 2 (kn 2 ?_))))))
 obtain⟨y1,hy0,h1⟩:=a0l h0
 refine RJ.callG (d:=(some 20)) (f:=45) (args:=[.agg (a0b y0), .nl, .ptr 0 0, .ptr 1 0]) (args0:=[.agg (a0b y0), .nl, .ptr 0 0, .ptr 1 0]) (v0:= .tup []) (v:= .tup []) (tr2:=[]) (H0:=[.box (a0y x0), .box [iL 0]]) (H0':=[.box (a0y x0), .box [iL y1]]) (H2:=[.box (a0y x0), .box [iL y1], .box (a0b y0)]) [0,1] (by kernel_rfl) (by kernel_rfl) (by kernel_rfl) (by kernel_rfl) (by decide) (by kernel_rfl) (by kernel_rfl) (by kernel_rfl) (.cons (Le.refl _) (.cons (Le.nl _) (LeL.refl _))) (e0M hy0) (by kernel_rfl) (by kernel_rfl) (by kernel_rfl) (kEN (kcN h1 (fun(s2:Int)=>([(4,iL 0),(5, .ptr 0 0)],[.box [iL s2]])) (λs2 hy1=> ?_) (λs2 h2=> ?_)))
 ·refine kq (kb 0 (kq (kBT 22 hy1 (λh3=> ?_) (λh4=> ?_))))
  ·refine kq (kb 1 (J.wk (Wk.sel (L2:=[(4,iL 0),(5, .ptr 0 0),(6, .fn (.func 45) [] [.ptr 1 0, .ptr 0 0]),(7, .ptr 2 0),(25,lsv c0Q 3 x0.i_),(26,iL (x0.i_.length:Int)),(27,iL 0)]) (H2:=[.box [iL y1], .box (a0y x0), .box (a0b y0)]) 0 (by rw[W];rfl) V [1,0,2] (by kernel_rfl) (by kernel_rfl) (by decide) (by kernel_rfl) (by kernel_rfl) (by kernel_rfl) (by kernel_rfl)) (kl (fun(s0:Int×Int)=>([(4,iL 0),(5, .ptr 0 0),(6, .fn (.func 45) [] [.ptr 1 0, .ptr 0 0]),(7, .ptr 2 0),(25,lsv c0Q 3 x0.i_),(26,iL (x0.i_.length:Int)),(27,iL s0.1)],[.box [iL s0.2], .box (a0y x0), .box (a0b y0)])) h3 [4,5,6,7,25,26,27] (λs0 x110 hs0=>kq (kS (kBT 28 hs0 (λh5=> ?_) (λh6=> ?_)))))))
   ·refine kKN (kS (kb 2 (kSR (kIb 29 i0n h5 (λh7=>kr 3 (km 4 (RJ.rel (d:=(some 35)) (ef:=⟨.lst (e0R ((nth x0.i_ s0.1).l_)).length 1 ((e0R ((nth x0.i_ s0.1).l_)).map o0m),[],[]⟩) (ef':=⟨lR (e0R ((nth x0.i_ s0.1).l_)),[],[]⟩) (c:=true) (tr2:=[]) (H2:=[.box [iL s0.2], .box (a0y x0), .box (a0b y0), .box [.str ((nth x0.i_ s0.1).V_), .str ((nth x0.i_ s0.1).l_),iL ((nth x0.i_ s0.1).aq_)]]) (by kernel_rfl) rfl (λhc=>N.toRunes) (by kernel_rfl) ?_)))))))
    obtain⟨y4,hy2,h8⟩:=a0l h7
    exact kCg (some 36) [1,0] (e0M hy2) (kE (PJ.blockNormal (PJ.next (kM (kLW h8 W V [0,1,2])))))
   exact kEp 1 (kLx h6 (λh9=>PJ.blockOut (PJ.blockNormal (kNW h9 W V [0]))))
  ·refine kq (kBT 38 h4 (λh10=> ?_) (λh11=> ?_))
   ·refine kq (kb 3 (J.wk (Wk.sel (L2:=[(2, .ptr 0 0),(4,iL 0),(5, .ptr 1 0),(6, .fn (.func 45) [] [.ptr 0 0, .ptr 1 0]),(41,lsv b0L 3 x0.f_),(42,iL (x0.f_.length:Int)),(43,iL 0)]) (H2:=[.box (a0y x0), .box [iL y1]]) 0 (by rw[W];rfl) V [0,1] (by kernel_rfl) (by kernel_rfl) (by decide) (by kernel_rfl) (by kernel_rfl) (by kernel_rfl) (by kernel_rfl)) (kl (fun(s1:Int×Int)=>([(2, .ptr 0 0),(4,iL 0),(5, .ptr 1 0),(6, .fn (.func 45) [] [.ptr 0 0, .ptr 1 0]),(41,lsv b0L 3 x0.f_),(42,iL (x0.f_.length:Int)),(43,iL s1.1)],[.box (a0y x0), .box [iL s1.2]])) h10 [2,4,5,6,41,42,43] (λs1 x149 hs1=>kq (kS (kBT 44 hs1 (λh12=> ?_) (λh13=> ?_)))))))
    ·refine kKN (kS (kb 4 (kSR (kIb 45 c0o h12 (λh14=>kr 3 (kn 3 (kAb 51 h14 (λ_=>m0A) (λy2 h15=>kr 6 (km 2 ?_)))))))))
     obtain⟨y3,hy3,h16⟩:=a0l h15
     exact RJ.callG (d:=(some 56)) (f:=45) (args:=[.agg (a0b y2.1), .nl, .ptr 0 0, .ptr 1 0]) (args0:=[.agg (a0b y2.1), .nl, .ptr 0 0, .ptr 1 0]) (v0:= .tup []) (v:= .tup []) (tr2:=[]) (H0:=[.box (a0y x0), .box [iL s1.2]]) (H0':=[.box (a0y x0), .box [iL y3]]) (H2:=[.box (a0y x0), .box [iL y3], .box [iL ((nth x0.f_ s1.1).ah_),iL ((nth x0.f_ s1.1).af_), .str ((nth x0.f_ s1.1).Z_)], .box (a0b y2.1)]) [0,1] (by kernel_rfl) (by kernel_rfl) (by kernel_rfl) (by kernel_rfl) (by decide) (by kernel_rfl) (by kernel_rfl) (by kernel_rfl) (.cons (Le.refl _) (.cons (Le.nl _) (LeL.refl _))) (e0M hy3) (by kernel_rfl) (by kernel_rfl) (by kernel_rfl) (kE (PJ.blockNormal (PJ.next (kM (kLW h16 W V [0,1])))))
    exact kEp 3 (kLx h13 (λh17=>PJ.blockOut (PJ.blockNormal (kNW h17 W V [1]))))
   exact kKb (kNW h11 W V [1])
 exact kq (kX (by cases h2;exact kZ D W V))
def j0l(x0:a0j):Option (Int):=
 (Option.bind (g0K x0) λy0=>(some (IntKind.wrap .i64 (((IntKind.wrap .i64 ((y0.length:Int)+(x0.c_.length:Int))))+(x0.e_.length:Int)))))
theorem q0s {x0:a0j} {r:Int} (h:j0l x0=some r):SQ 49 [.agg (a0b x0)] [] (iL r) []:=by
 refine kFn (fn:=Tryz.f49) (λF D W V=> ?_)
 unfold j0l at h
 refine kq (kS (kDr (kD 1 ?_)))
 obtain⟨y0,hy0,h0⟩:=a0l h
 exact kC0 (some 4) [([0,1],[]),([],[2,3])] (l0o hy0) (kD 10 (kEN (kX (by cases h0;exact kZ D W V))))
def f0w(x0:g0l)(x1:Int):Option (Int):=
 (Option.bind (e0X x0 x1) λy0=>(Option.bind (Option.bind (bif(decide (x1=4))then(some true)else(some (decide (y0.P_=0)))) fun(s0:Bool)=>(bif s0 then(some (.inr 0))else(some (.inl ())))) (a0m fun(s1:Unit)=>(Option.bind (j0l y0) λy1=>(some y1)))))
theorem g0h {x0:g0l} {x1 r:Int} (h:f0w x0 x1=some r):SQ 24 [.agg (a0y x0),iL x1] [] (iL r) []:=by
 refine kFn (fn:=Tryz.f24) (λF D W V=> ?_)
 unfold f0w at h
 exact kq (kn 2 (kAb 8 h (λ_=>j0P) (λy0 h0=>kr 2 (kcX h0 (fun(s1:Unit)=>([(4,iL 0),(5, .ptr 0 0)],[.box (a0b y0)])) (λy2 hy0 h1=>kcN hy0 (fun(s0:Bool)=>([(4,iL 0),(5, .ptr 0 0),(15, .bool s0)],[.box (a0b y0)])) (λs0 hy1=>km 3 (kB 11 hy1 (λh4=>ke 4 (kNW h4 W V [1])) (λh5=>ke 4 (kNW h5 W V [1])))) (λs0 h3=>kBT 15 h3 (λh6=>kq (kX (kCx h6 h1 (λh8=>by obtain rfl:=oi h8;exact kZ D W V)))) (λh7=>kK (kXo h7 [4,5])))) (λs1 h2=>kn 1 (kAb 17 h2 (λ_=>q0s) (λy1 h9=>kr 1 (kX (by cases h9;exact kZ D W V)))))))))
def k0W(x0:g0l):Option (u0y):=
 (Option.bind (l0L x0.T_) λy0=>(Option.bind (n0b x0.i_) λy1=>(Option.bind (l0M x0.f_) λy2=>(Option.bind (a0x (fun(s0:Int×Int×Int×Int×Int×Int×Int×Int×Int×Int×Int)=>(bif(decide (s0.1<5))then(Option.bind (h0c (⟨x0.J_,x0.S_,x0.a_,y0,y1,y2⟩:g0l) s0.1) λy3=>(bif(decide (s0.1=0))then(Option.bind (f0w (⟨x0.J_,x0.S_,x0.a_,y0,y1,y2⟩:g0l) 0) λy4=>(some (.inl ((IntKind.wrap .i64 (0+1)),y3,s0.2.2.1,s0.2.2.2.1,s0.2.2.2.2.1,s0.2.2.2.2.2.1,y4,s0.2.2.2.2.2.2.2.1,s0.2.2.2.2.2.2.2.2.1,s0.2.2.2.2.2.2.2.2.2.1,s0.2.2.2.2.2.2.2.2.2.2))))else(bif(decide (s0.1=1))then(Option.bind (f0w (⟨x0.J_,x0.S_,x0.a_,y0,y1,y2⟩:g0l) 1) λy5=>(some (.inl ((IntKind.wrap .i64 (1+1)),s0.2.1,y3,s0.2.2.2.1,s0.2.2.2.2.1,s0.2.2.2.2.2.1,s0.2.2.2.2.2.2.1,y5,s0.2.2.2.2.2.2.2.2.1,s0.2.2.2.2.2.2.2.2.2.1,s0.2.2.2.2.2.2.2.2.2.2))))else(bif(decide (s0.1=2))then(Option.bind (f0w (⟨x0.J_,x0.S_,x0.a_,y0,y1,y2⟩:g0l) 2) λy6=>(some (.inl ((IntKind.wrap .i64 (2+1)),s0.2.1,s0.2.2.1,y3,s0.2.2.2.2.1,s0.2.2.2.2.2.1,s0.2.2.2.2.2.2.1,s0.2.2.2.2.2.2.2.1,y6,s0.2.2.2.2.2.2.2.2.2.1,s0.2.2.2.2.2.2.2.2.2.2))))else(bif(decide (s0.1=3))then(Option.bind (f0w (⟨x0.J_,x0.S_,x0.a_,y0,y1,y2⟩:g0l) 3) λy7=>(some (.inl ((IntKind.wrap .i64 (3+1)),s0.2.1,s0.2.2.1,s0.2.2.2.1,y3,s0.2.2.2.2.2.1,s0.2.2.2.2.2.2.1,s0.2.2.2.2.2.2.2.1,s0.2.2.2.2.2.2.2.2.1,y7,s0.2.2.2.2.2.2.2.2.2.2))))else(bif(decide (s0.1=4))then(Option.bind (f0w (⟨x0.J_,x0.S_,x0.a_,y0,y1,y2⟩:g0l) 4) λy8=>(some (.inl ((IntKind.wrap .i64 (4+1)),s0.2.1,s0.2.2.1,s0.2.2.2.1,s0.2.2.2.2.1,y3,s0.2.2.2.2.2.2.1,s0.2.2.2.2.2.2.2.1,s0.2.2.2.2.2.2.2.2.1,s0.2.2.2.2.2.2.2.2.2.1,y8))))else none))))))else(some (.inr (s0.2.1,s0.2.2.1,s0.2.2.2.1,s0.2.2.2.2.1,s0.2.2.2.2.2.1,s0.2.2.2.2.2.2.1,s0.2.2.2.2.2.2.2.1,s0.2.2.2.2.2.2.2.2.1,s0.2.2.2.2.2.2.2.2.2.1,s0.2.2.2.2.2.2.2.2.2.2))))) big (0,0,0,0,0,0,0,0,0,0,0)) fun(s1:Int×Int×Int×Int×Int×Int×Int×Int×Int×Int)=>(some (⟨(⟨x0.J_,x0.S_,x0.a_,y0,y1,y2⟩:g0l),(⟨s1.1,s1.2.1,s1.2.2.1,s1.2.2.2.1,s1.2.2.2.2.1⟩:A0C),(⟨s1.2.2.2.2.2.1,s1.2.2.2.2.2.2.1,s1.2.2.2.2.2.2.2.1,s1.2.2.2.2.2.2.2.2.1,s1.2.2.2.2.2.2.2.2.2⟩:A0C)⟩:u0y))))))
theorem o0F {x0:g0l} {r:u0y} (h:k0W x0=some r):SQ 6 [.agg (a0y x0)] [] (.agg (k0R r)) []:=by
 refine kFn (fn:=Tryz.f6) (λF D W V=> ?_)
 unfold k0W at h
 refine kq (kS (kDr (kD 2 ?_)))
 obtain⟨y0,hy0,h5⟩:=a0l h
 refine kC0 (some 7) [([],[]),([0,1],[]),([],[4,5])] (r0g hy0) (kD 2 ?_)
 obtain⟨y1,hy1,h6⟩:=a0l h5
 refine kC0 (some 10) [([],[]),([0,1],[]),([],[4,5]),([],[]),([0,1],[]),([],[6,7])] (s0B hy1) (kD 2 ?_)
 obtain⟨y2,hy2,h7⟩:=a0l h6
 refine kC0 (some 13) [([],[]),([0,1],[]),([],[4,5]),([],[]),([0,1],[]),([],[6,7]),([],[]),([0,1],[]),([],[8,9])] (r0h hy2) (kD 6 (kEN (kq (kcN h7 (fun(s1:Int×Int×Int×Int×Int×Int×Int×Int×Int×Int)=>([(2, .ptr 0 0),(3, .ptr 1 0)],[.box (q12 [] 0 0 0 0 0 0 0 [] [] [] [] [.nl, .nl, .nl,iL 0,iL 0,iL 0,iL 0,iL 0,iL 0,iL 0,iL 0,iL 0,iL 0]), .box (q12 x0.J_ x0.S_.Y_ x0.S_.t_ x0.S_.r_ x0.S_.k_ x0.S_.j_ x0.S_.m_ x0.S_.b_ x0.a_.g_ x0.a_.h_ x0.a_.n_ x0.a_.x_ [lsv c0d 2 y0,lsv c0Q 3 y1,lsv b0L 3 y2,iL s1.1,iL s1.2.1,iL s1.2.2.1,iL s1.2.2.2.1,iL s1.2.2.2.2.1,iL s1.2.2.2.2.2.1,iL s1.2.2.2.2.2.2.1,iL s1.2.2.2.2.2.2.2.1,iL s1.2.2.2.2.2.2.2.2.1,iL s1.2.2.2.2.2.2.2.2.2])])) (λs1 hy3=> ?_) (λs1 h8=> ?_)))))
 ·refine kq (kb 0 (J.wk (Wk.sel (L2:=[(1, .ptr 0 0),(2, .ptr 1 0),(3, .ptr 2 0),(19,iL 0)]) (H2:=[.box (q12 x0.J_ x0.S_.Y_ x0.S_.t_ x0.S_.r_ x0.S_.k_ x0.S_.j_ x0.S_.m_ x0.S_.b_ x0.a_.g_ x0.a_.h_ x0.a_.n_ x0.a_.x_ [lsv c0d 2 y0,lsv c0Q 3 y1,lsv b0L 3 y2]), .box (q12 [] 0 0 0 0 0 0 0 [] [] [] [] [.nl, .nl, .nl,iL 0,iL 0,iL 0,iL 0,iL 0,iL 0,iL 0,iL 0,iL 0,iL 0]), .box (q12 x0.J_ x0.S_.Y_ x0.S_.t_ x0.S_.r_ x0.S_.k_ x0.S_.j_ x0.S_.m_ x0.S_.b_ x0.a_.g_ x0.a_.h_ x0.a_.n_ x0.a_.x_ [lsv c0d 2 y0,lsv c0Q 3 y1,lsv b0L 3 y2,iL 0,iL 0,iL 0,iL 0,iL 0,iL 0,iL 0,iL 0,iL 0,iL 0])]) 0 (by rw[W];rfl) V [0,1,5] (by kernel_rfl) (by kernel_rfl) (by decide) (by kernel_rfl) (by kernel_rfl) (by kernel_rfl) (by kernel_rfl)) (kl (fun(s0:Int×Int×Int×Int×Int×Int×Int×Int×Int×Int×Int)=>([(1, .ptr 0 0),(2, .ptr 1 0),(3, .ptr 2 0),(19,iL s0.1)],[.box (q12 x0.J_ x0.S_.Y_ x0.S_.t_ x0.S_.r_ x0.S_.k_ x0.S_.j_ x0.S_.m_ x0.S_.b_ x0.a_.g_ x0.a_.h_ x0.a_.n_ x0.a_.x_ [lsv c0d 2 y0,lsv c0Q 3 y1,lsv b0L 3 y2]), .box (q12 [] 0 0 0 0 0 0 0 [] [] [] [] [.nl, .nl, .nl,iL 0,iL 0,iL 0,iL 0,iL 0,iL 0,iL 0,iL 0,iL 0,iL 0]), .box (q12 x0.J_ x0.S_.Y_ x0.S_.t_ x0.S_.r_ x0.S_.k_ x0.S_.j_ x0.S_.m_ x0.S_.b_ x0.a_.g_ x0.a_.h_ x0.a_.n_ x0.a_.x_ [lsv c0d 2 y0,lsv c0Q 3 y1,lsv b0L 3 y2,iL s0.2.1,iL s0.2.2.1,iL s0.2.2.2.1,iL s0.2.2.2.2.1,iL s0.2.2.2.2.2.1,iL s0.2.2.2.2.2.2.1,iL s0.2.2.2.2.2.2.2.1,iL s0.2.2.2.2.2.2.2.2.1,iL s0.2.2.2.2.2.2.2.2.2.1,iL s0.2.2.2.2.2.2.2.2.2.2])])) hy3 [1,2,3,19] (λs0 x232 hs0=>kq (kS (kBT 20 hs0 (λh9=> ?_) (λh10=> ?_)))))))
  ·refine kKN (kS (kb 1 (kq (kn 3 (kAb 25 h9 (λ_=>o0f) (λy3 h0=>kc 1 ?_))))))
   cases hb0:(decide (s0.1=0))
   ·have h1:=condF hb0 h0
    cases hb1:(decide (s0.1=1))
    ·have h2:=condF hb1 h1
     cases hb2:(decide (s0.1=2))
     ·have h3:=condF hb2 h2
      cases hb3:(decide (s0.1=3))
      ·have h4:=condF hb3 h3
       cases hb4:(decide (s0.1=4))
       have h11:=condF hb4 h4
       cases h11
       ·have h12:=condT hb4 h4
        exact RJ.pin 22 (kd:= .i64) (by kernel_rfl) (of_decide_eq_true hb4) (RJ.pin 4 (kd:= .i64) (by kernel_rfl) (of_decide_eq_true hb4) (RJ.pin 19 (kd:= .i64) (by kernel_rfl) (of_decide_eq_true hb4) (kr 2 (km 3 (kAb 31 h12 (λ_=>g0h) (λy8 h13=>ke 3 (PJ.blockNormal (PJ.next (kM (kLo h13 [1,2,3,19]))))))))))
      ·have h14:=condT hb3 h3
       exact RJ.pin 22 (kd:= .i64) (by kernel_rfl) (of_decide_eq_true hb3) (RJ.pin 4 (kd:= .i64) (by kernel_rfl) (of_decide_eq_true hb3) (RJ.pin 19 (kd:= .i64) (by kernel_rfl) (of_decide_eq_true hb3) (kr 2 (km 3 (kAb 31 h14 (λ_=>g0h) (λy7 h15=>ke 3 (PJ.blockNormal (PJ.next (kM (kLo h15 [1,2,3,19]))))))))))
     ·have h16:=condT hb2 h2
      exact RJ.pin 22 (kd:= .i64) (by kernel_rfl) (of_decide_eq_true hb2) (RJ.pin 4 (kd:= .i64) (by kernel_rfl) (of_decide_eq_true hb2) (RJ.pin 19 (kd:= .i64) (by kernel_rfl) (of_decide_eq_true hb2) (kr 2 (km 3 (kAb 31 h16 (λ_=>g0h) (λy6 h17=>ke 3 (PJ.blockNormal (PJ.next (kM (kLo h17 [1,2,3,19]))))))))))
    ·have h18:=condT hb1 h1
     exact RJ.pin 22 (kd:= .i64) (by kernel_rfl) (of_decide_eq_true hb1) (RJ.pin 4 (kd:= .i64) (by kernel_rfl) (of_decide_eq_true hb1) (RJ.pin 19 (kd:= .i64) (by kernel_rfl) (of_decide_eq_true hb1) (kr 2 (km 3 (kAb 31 h18 (λ_=>g0h) (λy5 h19=>ke 3 (PJ.blockNormal (PJ.next (kM (kLo h19 [1,2,3,19]))))))))))
   ·have h20:=condT hb0 h0
    exact RJ.pin 22 (kd:= .i64) (by kernel_rfl) (of_decide_eq_true hb0) (RJ.pin 4 (kd:= .i64) (by kernel_rfl) (of_decide_eq_true hb0) (RJ.pin 19 (kd:= .i64) (by kernel_rfl) (of_decide_eq_true hb0) (kr 2 (km 3 (kAb 31 h20 (λ_=>g0h) (λy4 h21=>ke 3 (PJ.blockNormal (PJ.next (kM (kLo h21 [1,2,3,19]))))))))))
  exact kEp 0 (kLx h10 (λh22=>PJ.blockOut (kNW h22 W V [1,2])))
 exact kq (kX (by cases h8;exact kZ D W V))
def d0R(x0:u0y)(x1:t0t)(x2 x3:Int):Option (Int):=
 (Option.bind (Option.bind (bif(decide (x1.F_<0))then(some true)else(some (decide (x1.F_≥5)))) fun(s0:Bool)=>(bif s0 then(some (.inr 0))else(some (.inl ())))) (a0m fun(s6:Unit)=>(bif(decide (x1.F_=0))then(Option.bind (bif x1.ac_ then(some ((IntKind.wrap .i64 (((l0O ((IntKind.wrap .i64 (((IntKind.wrap .i64 (((IntKind.wrap .i64 (((IntKind.wrap .i64 ((IntKind.wrap .i64 (2*x2))+(IntKind.wrap .i64 (3*x3)))))+130)))+x0.X_.g_)))+(x1.l_.length:Int)))) x0.W_.g_))*6))))else(some ((l0O ((IntKind.wrap .i64 (((IntKind.wrap .i64 (((IntKind.wrap .i64 (((IntKind.wrap .i64 ((IntKind.wrap .i64 (2*x2))+(IntKind.wrap .i64 (3*x3)))))+130)))+x0.X_.g_)))+(x1.l_.length:Int)))) x0.W_.g_)))) fun(s1:Int)=>(some s1))else(bif(decide (x1.F_=1))then(Option.bind (bif x1.ac_ then(some ((IntKind.wrap .i64 (((l0O ((IntKind.wrap .i64 (((IntKind.wrap .i64 (((IntKind.wrap .i64 (((IntKind.wrap .i64 ((IntKind.wrap .i64 (2*x2))+(IntKind.wrap .i64 (3*x3)))))+130)))+x0.X_.h_)))+(x1.l_.length:Int)))) x0.W_.h_))*6))))else(some ((l0O ((IntKind.wrap .i64 (((IntKind.wrap .i64 (((IntKind.wrap .i64 (((IntKind.wrap .i64 ((IntKind.wrap .i64 (2*x2))+(IntKind.wrap .i64 (3*x3)))))+130)))+x0.X_.h_)))+(x1.l_.length:Int)))) x0.W_.h_)))) fun(s2:Int)=>(some s2))else(bif(decide (x1.F_=2))then(Option.bind (bif x1.ac_ then(some ((IntKind.wrap .i64 (((l0O ((IntKind.wrap .i64 (((IntKind.wrap .i64 (((IntKind.wrap .i64 (((IntKind.wrap .i64 ((IntKind.wrap .i64 (2*x2))+(IntKind.wrap .i64 (3*x3)))))+130)))+x0.X_.n_)))+(x1.l_.length:Int)))) x0.W_.n_))*6))))else(some ((l0O ((IntKind.wrap .i64 (((IntKind.wrap .i64 (((IntKind.wrap .i64 (((IntKind.wrap .i64 ((IntKind.wrap .i64 (2*x2))+(IntKind.wrap .i64 (3*x3)))))+130)))+x0.X_.n_)))+(x1.l_.length:Int)))) x0.W_.n_)))) fun(s3:Int)=>(some s3))else(bif(decide (x1.F_=3))then(Option.bind (bif x1.ac_ then(some ((IntKind.wrap .i64 (((l0O ((IntKind.wrap .i64 (((IntKind.wrap .i64 (((IntKind.wrap .i64 (((IntKind.wrap .i64 ((IntKind.wrap .i64 (2*x2))+(IntKind.wrap .i64 (3*x3)))))+130)))+x0.X_.x_)))+(x1.l_.length:Int)))) x0.W_.x_))*6))))else(some ((l0O ((IntKind.wrap .i64 (((IntKind.wrap .i64 (((IntKind.wrap .i64 (((IntKind.wrap .i64 ((IntKind.wrap .i64 (2*x2))+(IntKind.wrap .i64 (3*x3)))))+130)))+x0.X_.x_)))+(x1.l_.length:Int)))) x0.W_.x_)))) fun(s4:Int)=>(some s4))else(bif(decide (x1.F_=4))then(Option.bind (bif x1.ac_ then(some ((IntKind.wrap .i64 (((l0O ((IntKind.wrap .i64 (((IntKind.wrap .i64 (((IntKind.wrap .i64 (((IntKind.wrap .i64 ((IntKind.wrap .i64 (2*x2))+(IntKind.wrap .i64 (3*x3)))))+130)))+x0.X_.a4_)))+(x1.l_.length:Int)))) x0.W_.a4_))*6))))else(some ((l0O ((IntKind.wrap .i64 (((IntKind.wrap .i64 (((IntKind.wrap .i64 (((IntKind.wrap .i64 ((IntKind.wrap .i64 (2*x2))+(IntKind.wrap .i64 (3*x3)))))+130)))+x0.X_.a4_)))+(x1.l_.length:Int)))) x0.W_.a4_)))) fun(s5:Int)=>(some s5))else none)))))))
theorem f0x {x0:u0y} {x1:t0t} {x2 x3 r:Int} (h:d0R x0 x1 x2 x3=some r):SQ 7 [.agg (k0R x0), .agg (g0r x1),iL x2,iL x3] [] (iL r) []:=by
 refine kFn (fn:=Tryz.f7) (λF D W V=> ?_)
 unfold d0R at h
 refine kq (kcX h (fun(s6:Unit)=>([(2,iL x2),(3,iL x3),(4, .ptr 0 0),(5, .ptr 1 0),(8,iL 0)],[.box (k0R x0), .box (g0r x1)])) (λy0 hy0 h5=> ?_) (λs6 h0=> ?_))
 exact kcN hy0 (fun(s0:Bool)=>([(2,iL x2),(3,iL x3),(4, .ptr 0 0),(5, .ptr 1 0),(8,iL 0),(17, .bool s0)],[.box (k0R x0), .box (g0r x1)])) (λs0 hy1=>km 4 (kB 13 hy1 (λh7=>ke 4 (kNo h7 [2,3,4,5,8,17])) (λh8=>ke 4 (kNo h8 [2,3,4,5,8,17])))) (λs0 h6=>kBT 17 h6 (λh9=>kq (kX (kCx h9 h5 (λh11=>by obtain rfl:=oi h11;exact kZ D W V)))) (λh10=>kK (kXo h10 [2,3,4,5,8])))
 refine kS (kDr (kD 9 ?_))
 cases hb0:(decide (x1.F_=0))
 have h1:=condF hb0 h0
 cases hb1:(decide (x1.F_=1))
 have h2:=condF hb1 h1
 cases hb2:(decide (x1.F_=2))
 have h3:=condF hb2 h2
 cases hb3:(decide (x1.F_=3))
 have h4:=condF hb3 h3
 cases hb4:(decide (x1.F_=4))
 have h12:=condF hb4 h4
 cases h12
 have h13:=condT hb4 h4
 exact RJ.pin 25 (kd:= .i64) (by kernel_rfl) (of_decide_eq_true hb4) (kD 8 (kEN (kn 4 (RJ.pin 36 (kd:= .i64) (by kernel_rfl) (of_decide_eq_true hb4) (kr 4 (kcN h13 (fun(s5:Int)=>([(8,iL 0),(9,iL s5)],[])) (λs5 hy2=>kq (kBT 42 hy2 (λh15=>kM (kNW h15 W V [])) (λh16=>kK (kNW h16 W V [])))) (λs5 h14=>kq (kX (by cases h14;exact kZ D W V)))))))))
 have h17:=condT hb3 h3
 exact RJ.pin 25 (kd:= .i64) (by kernel_rfl) (of_decide_eq_true hb3) (kD 8 (kEN (kn 4 (RJ.pin 36 (kd:= .i64) (by kernel_rfl) (of_decide_eq_true hb3) (kr 4 (kcN h17 (fun(s4:Int)=>([(8,iL 0),(9,iL s4)],[])) (λs4 hy3=>kq (kBT 42 hy3 (λh19=>kM (kNW h19 W V [])) (λh20=>kK (kNW h20 W V [])))) (λs4 h18=>kq (kX (by cases h18;exact kZ D W V)))))))))
 have h21:=condT hb2 h2
 exact RJ.pin 25 (kd:= .i64) (by kernel_rfl) (of_decide_eq_true hb2) (kD 8 (kEN (kn 4 (RJ.pin 36 (kd:= .i64) (by kernel_rfl) (of_decide_eq_true hb2) (kr 4 (kcN h21 (fun(s3:Int)=>([(8,iL 0),(9,iL s3)],[])) (λs3 hy4=>kq (kBT 42 hy4 (λh23=>kM (kNW h23 W V [])) (λh24=>kK (kNW h24 W V [])))) (λs3 h22=>kq (kX (by cases h22;exact kZ D W V)))))))))
 have h25:=condT hb1 h1
 exact RJ.pin 25 (kd:= .i64) (by kernel_rfl) (of_decide_eq_true hb1) (kD 8 (kEN (kn 4 (RJ.pin 36 (kd:= .i64) (by kernel_rfl) (of_decide_eq_true hb1) (kr 4 (kcN h25 (fun(s2:Int)=>([(8,iL 0),(9,iL s2)],[])) (λs2 hy5=>kq (kBT 42 hy5 (λh27=>kM (kNW h27 W V [])) (λh28=>kK (kNW h28 W V [])))) (λs2 h26=>kq (kX (by cases h26;exact kZ D W V)))))))))
 have h29:=condT hb0 h0
 exact RJ.pin 25 (kd:= .i64) (by kernel_rfl) (of_decide_eq_true hb0) (kD 8 (kEN (kn 4 (RJ.pin 36 (kd:= .i64) (by kernel_rfl) (of_decide_eq_true hb0) (kr 4 (kcN h29 (fun(s1:Int)=>([(8,iL 0),(9,iL s1)],[])) (λs1 hy6=>kq (kBT 42 hy6 (λh31=>kM (kNW h31 W V [])) (λh32=>kK (kNW h32 W V [])))) (λs1 h30=>kq (kX (by cases h30;exact kZ D W V)))))))))
def k0f(x0:u0y)(x1:t0t)(x2 x3:Int):Option (Int):=
 (Option.bind (d0R x0 x1 x2 x3) λy0=>(some (IntKind.wrap .i64 ((IntKind.wrap .i64 (y0+x2))+1))))
theorem p0E {x0:u0y} {x1:t0t} {x2 x3 r:Int} (h:k0f x0 x1 x2 x3=some r):SQ 8 [.agg (k0R x0), .agg (g0r x1),iL x2,iL x3] [] (iL r) []:=by
 refine kFn (fn:=Tryz.f8) (λF D W V=> ?_)
 unfold k0f at h
 exact kq (kn 4 (kAb 13 h (λ_=>f0x) (λy0 h0=>kr 4 (kX (by cases h0;exact kZ D W V)))))
def m0u(x0:Int):Option (Bool):=
 (Option.bind (e0i x0) λy0=>(Option.bind (bif y0.2 then(some (decide (y0.1=0)))else(some false)) fun(s0:Bool)=>(some s0)))
theorem p0C {x0:Int} {r:Bool} (h:m0u x0=some r):SQ 177 [iM x0] [] (.bool r) []:=by
 refine kFn (fn:=Tryz.f177) (λF D W V=> ?_)
 unfold m0u at h
 exact kq (kn 1 (kAb 7 h (λ_=>h0H) (λy0 h0=>kr 5 (kcN h0 (fun(s0:Bool)=>([(2, .bool s0)],[])) (λs0 hy0=>km 2 (kB 11 hy0 (λh2=>ke 4 (kNo h2 [2])) (λh3=>ke 4 (kNo h3 [2])))) (λs0 h1=>kX (by cases h1;exact kZ D W V))))))
def i0Y(x0:c0T):Option ((List (Int×Int))):=
 (Option.bind (a0x (fun(s0:Int×(List (Int×Int)))=>(bif(decide (s0.1<6))then(bif(decide (s0.1=0))then(some (.inl ((IntKind.wrap .i64 (0+1)),(r0s ((IntKind.wrap .i64 ((((g0n (λa b:Int=>a==b) s0.2 x0.t_).getD 0))+1))) x0.t_ s0.2))))else(bif(decide (s0.1=1))then(some (.inl ((IntKind.wrap .i64 (1+1)),(r0s ((IntKind.wrap .i64 ((((g0n (λa b:Int=>a==b) s0.2 x0.r_).getD 0))+1))) x0.r_ s0.2))))else(bif(decide (s0.1=2))then(some (.inl ((IntKind.wrap .i64 (2+1)),(r0s ((IntKind.wrap .i64 ((((g0n (λa b:Int=>a==b) s0.2 x0.k_).getD 0))+1))) x0.k_ s0.2))))else(bif(decide (s0.1=3))then(some (.inl ((IntKind.wrap .i64 (3+1)),(r0s ((IntKind.wrap .i64 ((((g0n (λa b:Int=>a==b) s0.2 x0.j_).getD 0))+1))) x0.j_ s0.2))))else(bif(decide (s0.1=4))then(some (.inl ((IntKind.wrap .i64 (4+1)),(r0s ((IntKind.wrap .i64 ((((g0n (λa b:Int=>a==b) s0.2 x0.m_).getD 0))+1))) x0.m_ s0.2))))else(bif(decide (s0.1=5))then(some (.inl ((IntKind.wrap .i64 (5+1)),(r0s ((IntKind.wrap .i64 ((((g0n (λa b:Int=>a==b) s0.2 x0.b_).getD 0))+1))) x0.b_ s0.2))))else none))))))else(some (.inr s0.2)))) big (0,([]:List (Int×Int)))) fun(s1:(List (Int×Int)))=>(some s1))
theorem n0h {x0:c0T} {r:(List (Int×Int))} (h:i0Y x0=some r):SQ 178 [.agg (a0d x0)] [] (.mp 0) [.map (c0B (λk:Int=>iM k) (λk:Int=>iL k) r)]:=by
 refine kFn (fn:=Tryz.f178) (λF D W V=> ?_)
 unfold i0Y at h
 refine kq (kq (kcN h (fun(s1:(List (Int×Int)))=>([(3, .mp 0)],[.map (c0B (λk:Int=>iM k) (λk:Int=>iL k) s1)])) (λs1 hy0=> ?_) (λs1 h6=> ?_)))
 ·refine kq (kb 0 (J.wk (Wk.sel (L2:=[(3, .mp 0),(19, .agg [iM x0.t_,iM x0.r_,iM x0.k_,iM x0.j_,iM x0.m_,iM x0.b_]),(20,iL 0)]) (H2:=[.map (c0B (λk:Int=>iM k) (λk:Int=>iL k) ([]:List (Int×Int)))]) 0 (by rw[W];rfl) V [1] (by kernel_rfl) (by simp only[aj,aF,d0S (ek:=(λk:Int=>iM k)) (ev:=(λk:Int=>iL k)) (λ_ _=>rfl) (λ_ _=>rfl)];kernel_rfl) (by decide) (by simp only[aE,aX,c0M (ek:=(λk:Int=>iM k)) (ev:=(λk:Int=>iL k)) (λ_ _=>rfl) (λ_ _=>rfl)];kernel_rfl) (by kernel_rfl) (by kernel_rfl) (by kernel_rfl)) (kl (fun(s0:Int×(List (Int×Int)))=>([(3, .mp 0),(19, .agg [iM x0.t_,iM x0.r_,iM x0.k_,iM x0.j_,iM x0.m_,iM x0.b_]),(20,iL s0.1)],[.map (c0B (λk:Int=>iM k) (λk:Int=>iL k) s0.2)])) hy0 [3,19,20] (λs0 x90 hs0=>kq (kS (kBT 21 hs0 (λh0=> ?_) (λh7=> ?_)))))))
  ·refine kKN (kS (kb 1 (kSR ?_)))
   cases hb0:(decide (s0.1=0))
   ·have h1:=condF hb0 h0
    cases hb1:(decide (s0.1=1))
    ·have h2:=condF hb1 h1
     cases hb2:(decide (s0.1=2))
     ·have h3:=condF hb2 h2
      cases hb3:(decide (s0.1=3))
      ·have h4:=condF hb3 h3
       cases hb4:(decide (s0.1=4))
       ·have h5:=condF hb4 h4
        cases hb5:(decide (s0.1=5))
        have h8:=condF hb5 h5
        cases h8
        ·have h9:=condT hb5 h5
         exact RJ.pin 20 (kd:= .i64) (by kernel_rfl) (of_decide_eq_true hb5) (kr 2 (km 2 (RJ.lookK (d:=(some 25)) (i:=0) (ok:=false) (tr2:=[]) .i32 (λk:Int=>iL k) s0.2 x0.b_ (0:Int) (by kernel_rfl) (kc 1 (RJ.setK (d:=none) (i:=0) (sv:=iL ((IntKind.wrap .i64 ((((g0n (λa b:Int=>a==b) s0.2 x0.b_).getD 0))+1)))) (tr2:=[]) (H2:=[.map (c0B (λk:Int=>iM k) (λk:Int=>iL k) ((r0s ((IntKind.wrap .i64 ((((g0n (λa b:Int=>a==b) s0.2 x0.b_).getD 0))+1))) x0.b_ s0.2)))]) .i32 (λk:Int=>iL k) s0.2 x0.b_ ((IntKind.wrap .i64 ((((g0n (λa b:Int=>a==b) s0.2 x0.b_).getD 0))+1))) (by kernel_rfl) rfl (by kernel_rfl) (kE (PJ.blockNormal (PJ.next (kM (kLo h9 [3,19,20]))))))))))
       ·have h10:=condT hb4 h4
        exact RJ.pin 20 (kd:= .i64) (by kernel_rfl) (of_decide_eq_true hb4) (kr 2 (km 2 (RJ.lookK (d:=(some 25)) (i:=0) (ok:=false) (tr2:=[]) .i32 (λk:Int=>iL k) s0.2 x0.m_ (0:Int) (by kernel_rfl) (kc 1 (RJ.setK (d:=none) (i:=0) (sv:=iL ((IntKind.wrap .i64 ((((g0n (λa b:Int=>a==b) s0.2 x0.m_).getD 0))+1)))) (tr2:=[]) (H2:=[.map (c0B (λk:Int=>iM k) (λk:Int=>iL k) ((r0s ((IntKind.wrap .i64 ((((g0n (λa b:Int=>a==b) s0.2 x0.m_).getD 0))+1))) x0.m_ s0.2)))]) .i32 (λk:Int=>iL k) s0.2 x0.m_ ((IntKind.wrap .i64 ((((g0n (λa b:Int=>a==b) s0.2 x0.m_).getD 0))+1))) (by kernel_rfl) rfl (by kernel_rfl) (kE (PJ.blockNormal (PJ.next (kM (kLo h10 [3,19,20]))))))))))
      ·have h11:=condT hb3 h3
       exact RJ.pin 20 (kd:= .i64) (by kernel_rfl) (of_decide_eq_true hb3) (kr 2 (km 2 (RJ.lookK (d:=(some 25)) (i:=0) (ok:=false) (tr2:=[]) .i32 (λk:Int=>iL k) s0.2 x0.j_ (0:Int) (by kernel_rfl) (kc 1 (RJ.setK (d:=none) (i:=0) (sv:=iL ((IntKind.wrap .i64 ((((g0n (λa b:Int=>a==b) s0.2 x0.j_).getD 0))+1)))) (tr2:=[]) (H2:=[.map (c0B (λk:Int=>iM k) (λk:Int=>iL k) ((r0s ((IntKind.wrap .i64 ((((g0n (λa b:Int=>a==b) s0.2 x0.j_).getD 0))+1))) x0.j_ s0.2)))]) .i32 (λk:Int=>iL k) s0.2 x0.j_ ((IntKind.wrap .i64 ((((g0n (λa b:Int=>a==b) s0.2 x0.j_).getD 0))+1))) (by kernel_rfl) rfl (by kernel_rfl) (kE (PJ.blockNormal (PJ.next (kM (kLo h11 [3,19,20]))))))))))
     ·have h12:=condT hb2 h2
      exact RJ.pin 20 (kd:= .i64) (by kernel_rfl) (of_decide_eq_true hb2) (kr 2 (km 2 (RJ.lookK (d:=(some 25)) (i:=0) (ok:=false) (tr2:=[]) .i32 (λk:Int=>iL k) s0.2 x0.k_ (0:Int) (by kernel_rfl) (kc 1 (RJ.setK (d:=none) (i:=0) (sv:=iL ((IntKind.wrap .i64 ((((g0n (λa b:Int=>a==b) s0.2 x0.k_).getD 0))+1)))) (tr2:=[]) (H2:=[.map (c0B (λk:Int=>iM k) (λk:Int=>iL k) ((r0s ((IntKind.wrap .i64 ((((g0n (λa b:Int=>a==b) s0.2 x0.k_).getD 0))+1))) x0.k_ s0.2)))]) .i32 (λk:Int=>iL k) s0.2 x0.k_ ((IntKind.wrap .i64 ((((g0n (λa b:Int=>a==b) s0.2 x0.k_).getD 0))+1))) (by kernel_rfl) rfl (by kernel_rfl) (kE (PJ.blockNormal (PJ.next (kM (kLo h12 [3,19,20]))))))))))
    ·have h13:=condT hb1 h1
     exact RJ.pin 20 (kd:= .i64) (by kernel_rfl) (of_decide_eq_true hb1) (kr 2 (km 2 (RJ.lookK (d:=(some 25)) (i:=0) (ok:=false) (tr2:=[]) .i32 (λk:Int=>iL k) s0.2 x0.r_ (0:Int) (by kernel_rfl) (kc 1 (RJ.setK (d:=none) (i:=0) (sv:=iL ((IntKind.wrap .i64 ((((g0n (λa b:Int=>a==b) s0.2 x0.r_).getD 0))+1)))) (tr2:=[]) (H2:=[.map (c0B (λk:Int=>iM k) (λk:Int=>iL k) ((r0s ((IntKind.wrap .i64 ((((g0n (λa b:Int=>a==b) s0.2 x0.r_).getD 0))+1))) x0.r_ s0.2)))]) .i32 (λk:Int=>iL k) s0.2 x0.r_ ((IntKind.wrap .i64 ((((g0n (λa b:Int=>a==b) s0.2 x0.r_).getD 0))+1))) (by kernel_rfl) rfl (by kernel_rfl) (kE (PJ.blockNormal (PJ.next (kM (kLo h13 [3,19,20]))))))))))
   ·have h14:=condT hb0 h0
    exact RJ.pin 20 (kd:= .i64) (by kernel_rfl) (of_decide_eq_true hb0) (kr 2 (km 2 (RJ.lookK (d:=(some 25)) (i:=0) (ok:=false) (tr2:=[]) .i32 (λk:Int=>iL k) s0.2 x0.t_ (0:Int) (by kernel_rfl) (kc 1 (RJ.setK (d:=none) (i:=0) (sv:=iL ((IntKind.wrap .i64 ((((g0n (λa b:Int=>a==b) s0.2 x0.t_).getD 0))+1)))) (tr2:=[]) (H2:=[.map (c0B (λk:Int=>iM k) (λk:Int=>iL k) ((r0s ((IntKind.wrap .i64 ((((g0n (λa b:Int=>a==b) s0.2 x0.t_).getD 0))+1))) x0.t_ s0.2)))]) .i32 (λk:Int=>iL k) s0.2 x0.t_ ((IntKind.wrap .i64 ((((g0n (λa b:Int=>a==b) s0.2 x0.t_).getD 0))+1))) (by kernel_rfl) rfl (by kernel_rfl) (kE (PJ.blockNormal (PJ.next (kM (kLo h14 [3,19,20]))))))))))
  exact kEp 0 (kLx h7 (λh15=>PJ.blockOut (kNo h15 [3])))
 exact kq (kX (by obtain rfl:=oi h6;exact K.retV (H0:=[]) [0] (.inr rfl) D W V (by kernel_rfl) (v1:= .mp 0) (by kernel_rfl) (by kernel_rfl) (by simp only[aj,aF,d0S (ek:=(λk:Int=>iM k)) (ev:=(λk:Int=>iL k)) (λ_ _=>rfl) (λ_ _=>rfl)];kernel_rfl) (by decide) (by simp only[aE,aX,c0M (ek:=(λk:Int=>iM k)) (ev:=(λk:Int=>iL k)) (λ_ _=>rfl) (λ_ _=>rfl)];kernel_rfl) (by kernel_rfl) (by kernel_rfl) (by kernel_rfl) (by kernel_rfl)))
def o0P(x0:c0T):Option (Bool):=
 (Option.bind (m0u x0.Y_) λy2=>(bif(!y2)then(some false)else(Option.bind (Option.bind (i0Y x0) λy0=>(Option.bind (j0s (fun(e61:Int×Int)=>(Option.bind (i0r e61.1) λy1=>(Option.bind (bif(decide (e61.2>1))then(some true)else(bif(decide (¬y1=0))then(some (decide (¬y1=4)))else(some false))) fun(s0:Bool)=>(bif s0 then(some (.inr (.inr false)))else(some (.inl ())))))) y0) (a0m fun(_:Unit)=>(some (.inl ()))))) (a0m fun(s1:Unit)=>(some true)))))
theorem r0y {x0:c0T} {r:Bool} (h:o0P x0=some r):SQ 112 [.agg (a0d x0)] [] (.bool r) []:=by
 refine kFn (fn:=Tryz.f112) (λF D W V=> ?_)
 unfold o0P at h
 refine kq (kS (kn 2 (kAb 8 h (λ_=>p0C) (λy2 h1=>kr 1 (kBT 9 h1 (λh2=> ?_) (λh3=> ?_))))))
 exact kq (kX (PJ.passRet (by cases h2;exact kZ D W V)))
 refine kKN (kcX h3 (fun(s1:Unit)=>([(2, .bool false)],[])) (λy3 hy0 h4=> ?_) (λs1 h5=> ?_))
 refine kn 1 ?_
 obtain⟨y0,hy1,h6⟩:=a0l hy0
 refine RJ.callG (d:=(some 11)) (f:=178) (args:=[.agg (a0d x0)]) (args0:=[.agg (a0d x0)]) (v0:= .mp 0) (v:= .mp 1) (tr2:=[]) (H0:=[]) (H0':=[.map (c0B (λk:Int=>iM k) (λk:Int=>iL k) y0)]) (H2:=[.box (a0d x0), .map (c0B (λk:Int=>iM k) (λk:Int=>iL k) y0)]) [] (by kernel_rfl) (by kernel_rfl) (by kernel_rfl) (by kernel_rfl) (by decide) (by kernel_rfl) (by kernel_rfl) (by kernel_rfl) (LeL.refl _) (n0h hy1) (by kernel_rfl) (by kernel_rfl) ((show d0q (b0r []) 0 _ [.map (c0B (λk:Int=>iM k) (λk:Int=>iL k) y0)]=[.box (a0d x0),Ent.rn (gOf (b0r []) 0 1) (.map (c0B (λk:Int=>iM k) (λk:Int=>iL k) y0))] by kernel_rfl).trans (by simp only[d0S (ek:=(λk:Int=>iM k)) (ev:=(λk:Int=>iL k)) (λ_ _=>rfl) (λ_ _=>rfl)])) (RJ.range (d:=(some 12)) (i:=1) (n:=(c0B (λk:Int=>iM k) (λk:Int=>iL k) y0).length) (by kernel_rfl) (kEN (kb 0 (J.wk (Wk.sel (L2:=[(2, .bool false),(12, .ptr 0 0)]) (H2:=[.itr 1 ((c0B (λk:Int=>iM k) (λk:Int=>iL k) y0).length) ([]:List Nat), .map (c0B (λk:Int=>iM k) (λk:Int=>iL k) y0)]) 0 (by rw[W];rfl) V [2,1] (by kernel_rfl) (by simp only[aj,aF,d0S (ek:=(λk:Int=>iM k)) (ev:=(λk:Int=>iL k)) (λ_ _=>rfl) (λ_ _=>rfl)];kernel_rfl) (by decide) (by simp only[aE,aX,c0M (ek:=(λk:Int=>iM k)) (ev:=(λk:Int=>iL k)) (λ_ _=>rfl) (λ_ _=>rfl)];kernel_rfl) (by kernel_rfl) (by kernel_rfl) (by kernel_rfl)) ?_))))
 obtain⟨y4,hy2,h0⟩:=a0l h6
 refine K.mapLoop 12 13 14 0 0 1 (n:=(c0B (λk:Int=>iM k) (λk:Int=>iL k) y0).length) (by kernel_rfl) (by kernel_rfl) _ _ (λp:Int×Int=>((λk:Int=>iM k) p.1,(λk:Int=>iL k) p.2)) hy2 [2,12] (L2:=[(2, .bool false),(12, .ptr 0 0)]) (by kernel_rfl) (by kernel_rfl) (by kernel_rfl) (by kernel_rfl) (by kernel_rfl) (by kernel_rfl) (λsq=> [.itr 1 ((c0B (λk:Int=>iM k) (λk:Int=>iL k) y0).length) sq, .map (c0B (λk:Int=>iM k) (λk:Int=>iL k) y0)]) (by kernel_rfl) (λ_ _=>by kernel_rfl) (λ_=>by kernel_rfl) (λ_=>by kernel_rfl) rfl (λsv62 he0=> ?_) (λsv62 bv63 e61 x91 hb0 hx58=> ?_)
 subst he0
 have h7:=l0x h0
 exact PJ.blockOut (kXW h7 W V [])
 refine kb 1 (kSR (RJ.entry (d:=(some 15)) (i:=1) (n:=(c0B (λk:Int=>iM k) (λk:Int=>iL k) y0).length) (b:=bv63) (s:=sv62) (kv:=((iM e61.1:SV),(iL e61.2:SV))) (by kernel_rfl) (by kernel_rfl) rfl hb0 (kr 4 (kn 1 (kAb 19 hx58 (λ_=>k0U) (λy1 h8=>kr 1 (kcN h8 (fun(s0:Bool)=>([(2, .bool false),(12, .ptr 0 0),(29, .bool s0)],[.itr 1 ((c0B (λk:Int=>iM k) (λk:Int=>iL k) y0).length) (sv62++ [bv63]), .map (c0B (λk:Int=>iM k) (λk:Int=>iL k) y0)])) (λs0 hy3=> ?_) (λs0 h9=> ?_))))))))
 exact km 3 (kB 22 hy3 (λh10=>ke 7 (kNo h10 [2,12,29])) (λh11=>kc 3 (kB 25 h11 (λh12=>ke 4 (kNo h12 [2,12,29])) (λh13=>ke 4 (kNo h13 [2,12,29])))))
 refine kBT 29 h9 (λh14=> ?_) (λh15=> ?_)
 refine kq (kXb ?_)
 obtain rfl:=oi h14
 refine PJ.mapOut (λe=>nomatch e) (λhe1=> ?_)
 subst he1
 have h16:=b0S h0
 exact PJ.blockRet (kCx h16 h4 (λh17=>by obtain rfl:=oi h17;exact kZ D W V))
 exact kKb (by obtain rfl:=oi h15;exact PJ.mapNext [2,12] (by kernel_rfl) (by kernel_rfl))
 exact kq (kX (by cases h5;exact kZ D W V))
def f0R(x0 x1:Int):Option (Int):=
 (Option.bind (a0x (fun(s0:Int×Int)=>(bif(decide (s0.2<8))then(Option.bind (bif(decide ((Int.tmod s0.1 2)=1))then(some ((bits .xor .u32 (IntKind.wrap .u32 (Int.tdiv s0.1 2)) 3988292384)))else(some (IntKind.wrap .u32 (Int.tdiv s0.1 2)))) fun(s1:Int)=>(some (.inl (s1,(IntKind.wrap .i64 (s0.2+1))))))else(some (.inr s0.1)))) big ((bits .xor .u32 x0 (IntKind.wrap .u32 x1)),0)) fun(s2:Int)=>(some s2))
theorem k0t {x0 x1 r:Int} (h:f0R x0 x1=some r):SQ 164 [.int .u32 x0, .int .u8 x1] [] (.int .u32 r) []:=by
 refine kFn (fn:=Tryz.f164) (λF D W V=> ?_)
 unfold f0R at h
 exact kq (kq (kcN h (fun(s2:Int)=>([(4, .int .u32 0),(5, .int .u32 s2)],[])) (λs2 hy0=>kq (kb 0 (kl (fun(s0:Int×Int)=>([(4, .int .u32 0),(5, .int .u32 s0.1),(6,iL s0.2)],[])) hy0 [4,5,6] (λs0 x91 hs0=>kS (kq (kBT 13 hs0 (λh1=>kKN (kcN h1 (fun(s1:Int)=>([(4, .int .u32 0),(5, .int .u32 s1),(6,iL s0.2)],[])) (λs1 hy1=>kb 1 (kq (kq (kq (kBT 21 hy1 (λh4=>kM (PJ.blockNormal (kNo h4 [4,5,6]))) (λh5=>kKb (kNo h5 [4,5,6]))))))) (λs1 h3=>kM (kLo h3 [4,5,6])))) (λh2=>kEp 0 (kLx h2 (λh6=>PJ.blockOut (kNo h6 [4,5])))))))))) (λs2 h0=>kq (kX (by cases h0;exact kZ D W V)))))
def p0y(x0 x1:Int):Option (Int):=
 (Option.bind (a0x (fun(s0:Int×Int)=>(bif(decide (s0.2<8))then(Option.bind (bif(decide ((bits .and .u32 s0.1 1)=1))then(some (bits .xor .u32 (Int.fdiv s0.1 2) 3988292384))else(some (Int.fdiv s0.1 2))) fun(s1:Int)=>(some (.inl (s1,(IntKind.wrap .i64 (s0.2+1))))))else(some (.inr s0.1)))) big ((bits .xor .u32 x0 (IntKind.wrap .u32 x1)),0)) fun(s2:Int)=>(some s2))
theorem s0r {x0 x1 r:Int} (h:p0y x0 x1=some r):SQ 303 [.int .u32 x0, .int .u8 x1] [] (.int .u32 r) []:=by
 refine kFn (fn:=Tryz.f303) (λF D W V=> ?_)
 unfold p0y at h
 exact kq (kq (kcN h (fun(s2:Int)=>([(0, .int .u32 s2),(4, .int .u32 0)],[])) (λs2 hy0=>kq (kb 0 (kl (fun(s0:Int×Int)=>([(0, .int .u32 s0.1),(4, .int .u32 0),(10,iL s0.2)],[])) hy0 [0,4,10] (λs0 x91 hs0=>kq (kS (kBT 11 hs0 (λh1=>kKN (kcN h1 (fun(s1:Int)=>([(0, .int .u32 s1),(4, .int .u32 0),(10,iL s0.2)],[])) (λs1 hy1=>kb 1 (kq (kq (kq (kBT 17 hy1 (λh4=>kM (PJ.blockNormal (kNo h4 [0,4,10]))) (λh5=>kKb (kNo h5 [0,4,10]))))))) (λs1 h3=>kM (kLo h3 [0,4,10])))) (λh2=>kEp 0 (kLx h2 (λh6=>PJ.blockOut (kNo h6 [0,4])))))))))) (λs2 h0=>kq (kX (by cases h0;exact kZ D W V)))))
end Go.Proofs.YthodkmamingnhaaGreatDoor
