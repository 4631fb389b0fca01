/-
  What the functions of this program come to, as functions of natives, each with the proof that it does. No conditions.
-/
import Derived.Test.YthhabncebpaheaaProg
import Derived.Test.YthhabncebpaheaaSySL
import Derived.Test.YthhabncebpaheaaSyPV
import Derived.Test.YthhabncebpaheaaSyKK
import Derived.Test.YthhabncebpaheaaSySC
namespace Go.Proofs.Ythhabncebpaheaa
open Go Go.Sy Go.RowKit
set_option linter.unusedVariables false
set_option linter.unusedSimpArgs false
set_option maxRecDepth 100000
set_option maxHeartbeats 4000000
abbrev iL (x : Int) : SV := .int .i64 x
abbrev iM (x : Int) : SV := .int .i32 x
abbrev lB (x : List Int) : SV := lsv (encI .u8) 1 x
abbrev lT (x : List (List UInt8)) : SV := lsv encT 1 x
abbrev lI (x : List Int) : SV := lsv (encI .i64) 1 x
abbrev lR (x : List Int) : SV := lsv (encI .i32) 1 x
abbrev q12 (a : List UInt8) (b0 b1 b2 b3 b4 b5 b6 : Int) (c0 c1 c2 c3 : List UInt8) (r : List SV) : List SV := .str a :: .int .i32 b0 :: .int .i32 b1 :: .int .i32 b2 :: .int .i32 b3 :: .int .i32 b4 :: .int .i32 b5 :: .int .i32 b6 :: .str c0 :: .str c1 :: .str c2 :: .str c3 :: r
def gtabs : Nat → Option (List SV)
 | _ => none
instance : Inhabited GT := ⟨⟨gtabs⟩⟩
structure St22 where
 Zero_ : Int
 Dec_ : Int
 Group_ : Int
 Minus_ : Int
 Plus_ : Int
 Percent_ : Int
 Exp_ : Int
 deriving Inhabited, DecidableEq
def encSt22 (x : St22) : List SV := [.int .i32 x.Zero_, .int .i32 x.Dec_, .int .i32 x.Group_, .int .i32 x.Minus_, .int .i32 x.Plus_, .int .i32 x.Percent_, .int .i32 x.Exp_]
theorem encSt22_len (x : St22) : (encSt22 x).length = 7 := rfl
structure St24 where
 a0_ : List UInt8
 a1_ : List UInt8
 a2_ : List UInt8
 a3_ : List UInt8
 deriving Inhabited, DecidableEq
def encSt24 (x : St24) : List SV := [.str x.a0_, .str x.a1_, .str x.a2_, .str x.a3_]
theorem encSt24_len (x : St24) : (encSt24 x).length = 4 := rfl
structure St57 where
 Cat_ : Int
 Text_ : List UInt8
 deriving Inhabited, DecidableEq
def encSt57 (x : St57) : List SV := [.int .i64 x.Cat_, .str x.Text_]
theorem encSt57_len (x : St57) : (encSt57 x).length = 2 := rfl
structure St59 where
 Code_ : List UInt8
 Sign_ : List UInt8
 Digits_ : Int
 deriving Inhabited, DecidableEq
def encSt59 (x : St59) : List SV := [.str x.Code_, .str x.Sign_, .int .i64 x.Digits_]
theorem encSt59_len (x : St59) : (encSt59 x).length = 3 := rfl
structure St61 where
 Mag_ : Int
 Cat_ : Int
 Pat_ : List UInt8
 deriving Inhabited, DecidableEq
def encSt61 (x : St61) : List SV := [.int .i64 x.Mag_, .int .i64 x.Cat_, .str x.Pat_]
theorem encSt61_len (x : St61) : (encSt61 x).length = 3 := rfl
structure St28 where
 Tag_ : List UInt8
 S_ : St22
 Pats_ : St24
 Rules_ : List St57
 Curs_ : List St59
 Comps_ : List St61
 deriving Inhabited, DecidableEq
def encSt28 (x : St28) : List SV := [.str x.Tag_, .int .i32 x.S_.Zero_, .int .i32 x.S_.Dec_, .int .i32 x.S_.Group_, .int .i32 x.S_.Minus_, .int .i32 x.S_.Plus_, .int .i32 x.S_.Percent_, .int .i32 x.S_.Exp_, .str x.Pats_.a0_, .str x.Pats_.a1_, .str x.Pats_.a2_, .str x.Pats_.a3_, lsv encSt57 2 x.Rules_, lsv encSt59 3 x.Curs_, lsv encSt61 3 x.Comps_]
theorem encSt28_len (x : St28) : (encSt28 x).length = 15 := rfl
def bund_Texts (x0 : St28) : Option (List (List UInt8)) :=
 (Option.bind (loopN (fun (s0 : Int × (List (List UInt8))) => (bif (decide (s0.1 < 4)) then (bif (decide (s0.1 = 0)) then (bif room (s0.2.length + ([x0.Pats_.a0_] : List (List UInt8)).length) then (some (.inl ((IntKind.wrap .i64 (0 + 1)), (s0.2 ++ ([x0.Pats_.a0_] : List (List UInt8)))))) else none) else (bif (decide (s0.1 = 1)) then (bif room (s0.2.length + ([x0.Pats_.a1_] : List (List UInt8)).length) then (some (.inl ((IntKind.wrap .i64 (1 + 1)), (s0.2 ++ ([x0.Pats_.a1_] : List (List UInt8)))))) else none) else (bif (decide (s0.1 = 2)) then (bif room (s0.2.length + ([x0.Pats_.a2_] : List (List UInt8)).length) then (some (.inl ((IntKind.wrap .i64 (2 + 1)), (s0.2 ++ ([x0.Pats_.a2_] : List (List UInt8)))))) else none) else (bif (decide (s0.1 = 3)) then (bif room (s0.2.length + ([x0.Pats_.a3_] : List (List UInt8)).length) then (some (.inl ((IntKind.wrap .i64 (3 + 1)), (s0.2 ++ ([x0.Pats_.a3_] : List (List UInt8)))))) else none) else none)))) else (some (.inr s0.2)))) big (0, ([x0.Tag_] : List (List UInt8)))) fun (s6 : (List (List UInt8))) => (Option.bind (loopN (fun (s3 : Int × (List (List UInt8))) => (bif (decide (s3.1 < (x0.Rules_.length : Int))) then (bif inR s3.1 x0.Rules_.length then (bif room (s3.2.length + ([(nth x0.Rules_ s3.1).Text_] : List (List UInt8)).length) then (some (.inl ((IntKind.wrap .i64 (s3.1 + 1)), (s3.2 ++ ([(nth x0.Rules_ s3.1).Text_] : List (List UInt8)))))) else none) else none) else (some (.inr s3.2)))) big (0, s6)) fun (s7 : (List (List UInt8))) => (Option.bind (loopN (fun (s1 : Int × (List (List UInt8))) => (bif (decide (s1.1 < (x0.Curs_.length : Int))) then (bif inR s1.1 x0.Curs_.length then (bif room (s1.2.length + ([(nth x0.Curs_ s1.1).Code_, (nth x0.Curs_ s1.1).Sign_] : List (List UInt8)).length) then (some (.inl ((IntKind.wrap .i64 (s1.1 + 1)), (s1.2 ++ ([(nth x0.Curs_ s1.1).Code_, (nth x0.Curs_ s1.1).Sign_] : List (List UInt8)))))) else none) else none) else (some (.inr s1.2)))) big (0, s7)) fun (s5 : (List (List UInt8))) => (Option.bind (loopN (fun (s2 : Int × (List (List UInt8))) => (bif (decide (s2.1 < (x0.Comps_.length : Int))) then (bif inR s2.1 x0.Comps_.length then (bif room (s2.2.length + ([(nth x0.Comps_ s2.1).Pat_] : List (List UInt8)).length) then (some (.inl ((IntKind.wrap .i64 (s2.1 + 1)), (s2.2 ++ ([(nth x0.Comps_ s2.1).Pat_] : List (List UInt8)))))) else none) else none) else (some (.inr s2.2)))) big (0, s5)) fun (s4 : (List (List UInt8))) => (some s4)))))
theorem bund_Texts_ok {x0 : St28} {r : List (List UInt8)} (h : bund_Texts x0 = some r) : SC Try.prog 19 [.agg (encSt28 x0)] [] (lT r) [] := by
 refine kFn (fn := Try.f19) (fun F hFn hFH hFD => ?_)
 unfold bund_Texts at h
 refine kSR ?_
 refine kC 2 [1,2] ?_
 refine kEN ?_
 refine kSR ?_
 refine kC 4 [1,2,3] ?_
 refine kEN ?_
 obtain ⟨s6, hy0, h4⟩ := bindS h
 refine K.cutN (by kernel_rfl) (fun (s6 : (List (List UInt8))) => ([(1, .ptr 0 0), (2, .nl), (3, .vc 1)], [.box (encSt28 x0), vecL encT 1 9 s6])) s6 ?_ ?_
 ·refine kSR ?_
  refine kC 3 [1,2,3,16,17] ?_
  refine kEN ?_
  refine kb 0 ?_
  refine kl (fun (s0 : Int × (List (List UInt8))) => ([(1, .ptr 0 0), (2, .nl), (3, .vc 1), (16, .agg (encSt24 x0.Pats_)), (17, iL s0.1)], [.box (encSt28 x0), vecL encT 1 9 s0.2])) hy0 [1, 2, 3, 16, 17] (fun s0 x86 hs0 => ?_)
  refine kSR ?_
  refine kC 1 [1,2,3,16,17,18] ?_
  refine kEN ?_
  refine kS ?_
  refine kBJ 18 hs0 (fun h0 => ?_) (fun h5 => ?_)
  ·refine kT ?_
   refine kK ?_
   refine PJ.next ?_
   refine kS ?_
   refine kb 1 ?_
   refine kSR ?_
   cases hb0 : (decide (s0.1 = 0))
   ·have h1 := condF hb0 h0
    cases hb1 : (decide (s0.1 = 1))
    ·have h2 := condF hb1 h1
     cases hb2 : (decide (s0.1 = 2))
     ·have h3 := condF hb2 h2
      cases hb3 : (decide (s0.1 = 3))
      ·have h6 := condF hb3 h3
       cases h6
      ·have h7 := condT hb3 h3
       refine RJ.pin 17 (kd := .i64) (by kernel_rfl) (of_decide_eq_true hb3) ?_
       refine kC 2 [1,2,3,5,16,17] ?_
       refine kEN ?_
       refine kR ?_
       refine kC 3 [1,2,3,16,17,20,22] ?_
       obtain ⟨hm, h8⟩ := asrt h7
       refine RJ.rel (d := (some 23)) (ef := ⟨.vc 3, [1, 2], [(1, .gone), (3, .vec (s0.2.length + ([x0.Pats_.a3_] : List (List UInt8)).length) 1 9 (s0.2.flatMap encT ++ ([x0.Pats_.a3_] : List (List UInt8)).flatMap encT))]⟩) (ef' := ⟨.vc 3, [1, 2], [(1, .gone), (3, vecL encT 1 9 (s0.2 ++ ([x0.Pats_.a3_] : List (List UInt8))))]⟩) (c := room (s0.2.length + ([x0.Pats_.a3_] : List (List UInt8)).length)) (tr2 := []) (H2 := [.box (encSt28 x0), .gone, vecL encT 1 9 ([x0.Pats_.a3_] : List (List UInt8)), vecL encT 1 9 ((s0.2 ++ ([x0.Pats_.a3_] : List (List UInt8))))]) (by kernel_rfl) hm (fun hc => N.app) (by kernel_rfl) ?_
       refine kC 1 [1,2,3,16,17] ?_
       refine kE ?_
       refine PJ.blockNormal ?_
       refine PJ.next ?_
       refine kR ?_
       refine kC 2 [1,2,3,16,17] ?_
       refine kE ?_
       obtain rfl := oi h8
       refine kW (L2 := [(1, .ptr 0 0), (2, .nl), (3, .vc 1), (16, .agg (encSt24 x0.Pats_)), (17, iL (IntKind.wrap .i64 (3 + 1)))]) (H2 := [.box (encSt28 x0), vecL encT 1 9 ((s0.2 ++ ([x0.Pats_.a3_] : List (List UInt8))))]) hFH hFD [0, 3] ?_
       exact kLN [1, 2, 3, 16, 17]
     ·have h9 := condT hb2 h2
      refine RJ.pin 17 (kd := .i64) (by kernel_rfl) (of_decide_eq_true hb2) ?_
      refine kC 2 [1,2,3,5,16,17] ?_
      refine kEN ?_
      refine kR ?_
      refine kC 3 [1,2,3,16,17,20,22] ?_
      obtain ⟨hm, h10⟩ := asrt h9
      refine RJ.rel (d := (some 23)) (ef := ⟨.vc 3, [1, 2], [(1, .gone), (3, .vec (s0.2.length + ([x0.Pats_.a2_] : List (List UInt8)).length) 1 9 (s0.2.flatMap encT ++ ([x0.Pats_.a2_] : List (List UInt8)).flatMap encT))]⟩) (ef' := ⟨.vc 3, [1, 2], [(1, .gone), (3, vecL encT 1 9 (s0.2 ++ ([x0.Pats_.a2_] : List (List UInt8))))]⟩) (c := room (s0.2.length + ([x0.Pats_.a2_] : List (List UInt8)).length)) (tr2 := []) (H2 := [.box (encSt28 x0), .gone, vecL encT 1 9 ([x0.Pats_.a2_] : List (List UInt8)), vecL encT 1 9 ((s0.2 ++ ([x0.Pats_.a2_] : List (List UInt8))))]) (by kernel_rfl) hm (fun hc => N.app) (by kernel_rfl) ?_
      refine kC 1 [1,2,3,16,17] ?_
      refine kE ?_
      refine PJ.blockNormal ?_
      refine PJ.next ?_
      refine kR ?_
      refine kC 2 [1,2,3,16,17] ?_
      refine kE ?_
      obtain rfl := oi h10
      refine kW (L2 := [(1, .ptr 0 0), (2, .nl), (3, .vc 1), (16, .agg (encSt24 x0.Pats_)), (17, iL (IntKind.wrap .i64 (2 + 1)))]) (H2 := [.box (encSt28 x0), vecL encT 1 9 ((s0.2 ++ ([x0.Pats_.a2_] : List (List UInt8))))]) hFH hFD [0, 3] ?_
      exact kLN [1, 2, 3, 16, 17]
    ·have h11 := condT hb1 h1
     refine RJ.pin 17 (kd := .i64) (by kernel_rfl) (of_decide_eq_true hb1) ?_
     refine kC 2 [1,2,3,5,16,17] ?_
     refine kEN ?_
     refine kR ?_
     refine kC 3 [1,2,3,16,17,20,22] ?_
     obtain ⟨hm, h12⟩ := asrt h11
     refine RJ.rel (d := (some 23)) (ef := ⟨.vc 3, [1, 2], [(1, .gone), (3, .vec (s0.2.length + ([x0.Pats_.a1_] : List (List UInt8)).length) 1 9 (s0.2.flatMap encT ++ ([x0.Pats_.a1_] : List (List UInt8)).flatMap encT))]⟩) (ef' := ⟨.vc 3, [1, 2], [(1, .gone), (3, vecL encT 1 9 (s0.2 ++ ([x0.Pats_.a1_] : List (List UInt8))))]⟩) (c := room (s0.2.length + ([x0.Pats_.a1_] : List (List UInt8)).length)) (tr2 := []) (H2 := [.box (encSt28 x0), .gone, vecL encT 1 9 ([x0.Pats_.a1_] : List (List UInt8)), vecL encT 1 9 ((s0.2 ++ ([x0.Pats_.a1_] : List (List UInt8))))]) (by kernel_rfl) hm (fun hc => N.app) (by kernel_rfl) ?_
     refine kC 1 [1,2,3,16,17] ?_
     refine kE ?_
     refine PJ.blockNormal ?_
     refine PJ.next ?_
     refine kR ?_
     refine kC 2 [1,2,3,16,17] ?_
     refine kE ?_
     obtain rfl := oi h12
     refine kW (L2 := [(1, .ptr 0 0), (2, .nl), (3, .vc 1), (16, .agg (encSt24 x0.Pats_)), (17, iL (IntKind.wrap .i64 (1 + 1)))]) (H2 := [.box (encSt28 x0), vecL encT 1 9 ((s0.2 ++ ([x0.Pats_.a1_] : List (List UInt8))))]) hFH hFD [0, 3] ?_
     exact kLN [1, 2, 3, 16, 17]
   ·have h13 := condT hb0 h0
    refine RJ.pin 17 (kd := .i64) (by kernel_rfl) (of_decide_eq_true hb0) ?_
    refine kC 2 [1,2,3,5,16,17] ?_
    refine kEN ?_
    refine kR ?_
    refine kC 3 [1,2,3,16,17,20,22] ?_
    obtain ⟨hm, h14⟩ := asrt h13
    refine RJ.rel (d := (some 23)) (ef := ⟨.vc 3, [1, 2], [(1, .gone), (3, .vec (s0.2.length + ([x0.Pats_.a0_] : List (List UInt8)).length) 1 9 (s0.2.flatMap encT ++ ([x0.Pats_.a0_] : List (List UInt8)).flatMap encT))]⟩) (ef' := ⟨.vc 3, [1, 2], [(1, .gone), (3, vecL encT 1 9 (s0.2 ++ ([x0.Pats_.a0_] : List (List UInt8))))]⟩) (c := room (s0.2.length + ([x0.Pats_.a0_] : List (List UInt8)).length)) (tr2 := []) (H2 := [.box (encSt28 x0), .gone, vecL encT 1 9 ([x0.Pats_.a0_] : List (List UInt8)), vecL encT 1 9 ((s0.2 ++ ([x0.Pats_.a0_] : List (List UInt8))))]) (by kernel_rfl) hm (fun hc => N.app) (by kernel_rfl) ?_
    refine kC 1 [1,2,3,16,17] ?_
    refine kE ?_
    refine PJ.blockNormal ?_
    refine PJ.next ?_
    refine kR ?_
    refine kC 2 [1,2,3,16,17] ?_
    refine kE ?_
    obtain rfl := oi h14
    refine kW (L2 := [(1, .ptr 0 0), (2, .nl), (3, .vc 1), (16, .agg (encSt24 x0.Pats_)), (17, iL (IntKind.wrap .i64 (0 + 1)))]) (H2 := [.box (encSt28 x0), vecL encT 1 9 ((s0.2 ++ ([x0.Pats_.a0_] : List (List UInt8))))]) hFH hFD [0, 3] ?_
    exact kLN [1, 2, 3, 16, 17]
  ·refine kF ?_
   refine K.exit 0 (by kernel_rfl) ?_
   refine PJ.passExit ?_
   obtain rfl := oi h5
   refine PJ.loopOut (fun e => nomatch e) (fun he0 => ?_)
   have h15 := congrArg some he0
   refine PJ.blockOut ?_
   obtain rfl := oi h15
   exact kN [1, 2, 3]
 ·obtain ⟨s7, hy1, h16⟩ := bindS h4
  refine K.cutN (by kernel_rfl) (fun (s7 : (List (List UInt8))) => ([(1, .ptr 0 0), (2, .nl), (3, .vc 1)], [.box (encSt28 x0), vecL encT 1 9 s7])) s7 ?_ ?_
  ·refine kSR ?_
   refine kC 4 [1,2,3,26,27,28] ?_
   refine kEN ?_
   refine kb 2 ?_
   refine kl (fun (s3 : Int × (List (List UInt8))) => ([(1, .ptr 0 0), (2, .nl), (3, .vc 1), (26, lsv encSt57 2 x0.Rules_), (27, iL (x0.Rules_.length : Int)), (28, iL s3.1)], [.box (encSt28 x0), vecL encT 1 9 s3.2])) hy1 [1, 2, 3, 26, 27, 28] (fun s3 x153 hs1 => ?_)
   refine kSR ?_
   refine kC 1 [1,2,3,26,27,28,29] ?_
   refine kEN ?_
   refine kS ?_
   refine kBJ 29 hs1 (fun h17 => ?_) (fun h18 => ?_)
   ·refine kT ?_
    refine kK ?_
    refine PJ.next ?_
    refine kS ?_
    refine kb 3 ?_
    refine kSR ?_
    obtain ⟨hm, h19⟩ := asrt h17
    refine kI 30 encSt57_len hm ?_
    refine kC 3 [1,2,3,7,26,27,28] ?_
    refine kEN ?_
    refine kR ?_
    refine kC 4 [1,2,3,26,27,28,32,35] ?_
    obtain ⟨hm, h20⟩ := asrt h19
    refine RJ.rel (d := (some 36)) (ef := ⟨.vc 4, [1, 3], [(1, .gone), (4, .vec (s3.2.length + ([(nth x0.Rules_ s3.1).Text_] : List (List UInt8)).length) 1 9 (s3.2.flatMap encT ++ ([(nth x0.Rules_ s3.1).Text_] : List (List UInt8)).flatMap encT))]⟩) (ef' := ⟨.vc 4, [1, 3], [(1, .gone), (4, vecL encT 1 9 (s3.2 ++ ([(nth x0.Rules_ s3.1).Text_] : List (List UInt8))))]⟩) (c := room (s3.2.length + ([(nth x0.Rules_ s3.1).Text_] : List (List UInt8)).length)) (tr2 := []) (H2 := [.box (encSt28 x0), .gone, .box [iL ((nth x0.Rules_ s3.1).Cat_), .str ((nth x0.Rules_ s3.1).Text_)], vecL encT 1 9 ([(nth x0.Rules_ s3.1).Text_] : List (List UInt8)), vecL encT 1 9 ((s3.2 ++ ([(nth x0.Rules_ s3.1).Text_] : List (List UInt8))))]) (by kernel_rfl) hm (fun hc => N.app) (by kernel_rfl) ?_
    refine kC 1 [1,2,3,26,27,28] ?_
    refine kE ?_
    refine PJ.blockNormal ?_
    refine PJ.next ?_
    refine kR ?_
    refine kC 2 [1,2,3,26,27,28] ?_
    refine kE ?_
    obtain rfl := oi h20
    refine kW (L2 := [(1, .ptr 0 0), (2, .nl), (3, .vc 1), (26, lsv encSt57 2 x0.Rules_), (27, iL (x0.Rules_.length : Int)), (28, iL (IntKind.wrap .i64 (s3.1 + 1)))]) (H2 := [.box (encSt28 x0), vecL encT 1 9 ((s3.2 ++ ([(nth x0.Rules_ s3.1).Text_] : List (List UInt8))))]) hFH hFD [0, 4] ?_
    exact kLN [1, 2, 3, 26, 27, 28]
   ·refine kF ?_
    refine K.exit 2 (by kernel_rfl) ?_
    refine PJ.passExit ?_
    obtain rfl := oi h18
    refine PJ.loopOut (fun e => nomatch e) (fun he1 => ?_)
    have h21 := congrArg some he1
    refine PJ.blockOut ?_
    obtain rfl := oi h21
    exact kN [1, 2, 3]
  ·obtain ⟨s5, hy2, h22⟩ := bindS h16
   refine K.cutN (by kernel_rfl) (fun (s5 : (List (List UInt8))) => ([(1, .ptr 0 0), (2, .nl), (3, .vc 1)], [.box (encSt28 x0), vecL encT 1 9 s5])) s5 ?_ ?_
   ·refine kSR ?_
    refine kC 4 [1,2,3,39,40,41] ?_
    refine kEN ?_
    refine kb 4 ?_
    refine kl (fun (s1 : Int × (List (List UInt8))) => ([(1, .ptr 0 0), (2, .nl), (3, .vc 1), (39, lsv encSt59 3 x0.Curs_), (40, iL (x0.Curs_.length : Int)), (41, iL s1.1)], [.box (encSt28 x0), vecL encT 1 9 s1.2])) hy2 [1, 2, 3, 39, 40, 41] (fun s1 x206 hs2 => ?_)
    refine kSR ?_
    refine kC 1 [1,2,3,39,40,41,42] ?_
    refine kEN ?_
    refine kS ?_
    refine kBJ 42 hs2 (fun h23 => ?_) (fun h24 => ?_)
    ·refine kT ?_
     refine kK ?_
     refine PJ.next ?_
     refine kS ?_
     refine kb 5 ?_
     refine kSR ?_
     obtain ⟨hm, h25⟩ := asrt h23
     refine kI 43 encSt59_len hm ?_
     refine kC 3 [1,2,3,9,39,40,41] ?_
     refine kEN ?_
     refine kR ?_
     refine kC 6 [1,2,3,39,40,41,45,50] ?_
     obtain ⟨hm, h26⟩ := asrt h25
     refine RJ.rel (d := (some 51)) (ef := ⟨.vc 4, [1, 3], [(1, .gone), (4, .vec (s1.2.length + ([(nth x0.Curs_ s1.1).Code_, (nth x0.Curs_ s1.1).Sign_] : List (List UInt8)).length) 1 9 (s1.2.flatMap encT ++ ([(nth x0.Curs_ s1.1).Code_, (nth x0.Curs_ s1.1).Sign_] : List (List UInt8)).flatMap encT))]⟩) (ef' := ⟨.vc 4, [1, 3], [(1, .gone), (4, vecL encT 1 9 (s1.2 ++ ([(nth x0.Curs_ s1.1).Code_, (nth x0.Curs_ s1.1).Sign_] : List (List UInt8))))]⟩) (c := room (s1.2.length + ([(nth x0.Curs_ s1.1).Code_, (nth x0.Curs_ s1.1).Sign_] : List (List UInt8)).length)) (tr2 := []) (H2 := [.box (encSt28 x0), .gone, .box [.str ((nth x0.Curs_ s1.1).Code_), .str ((nth x0.Curs_ s1.1).Sign_), iL ((nth x0.Curs_ s1.1).Digits_)], vecL encT 1 9 ([(nth x0.Curs_ s1.1).Code_, (nth x0.Curs_ s1.1).Sign_] : List (List UInt8)), vecL encT 1 9 ((s1.2 ++ ([(nth x0.Curs_ s1.1).Code_, (nth x0.Curs_ s1.1).Sign_] : List (List UInt8))))]) (by kernel_rfl) hm (fun hc => N.app) (by kernel_rfl) ?_
     refine kC 1 [1,2,3,39,40,41] ?_
     refine kE ?_
     refine PJ.blockNormal ?_
     refine PJ.next ?_
     refine kR ?_
     refine kC 2 [1,2,3,39,40,41] ?_
     refine kE ?_
     obtain rfl := oi h26
     refine kW (L2 := [(1, .ptr 0 0), (2, .nl), (3, .vc 1), (39, lsv encSt59 3 x0.Curs_), (40, iL (x0.Curs_.length : Int)), (41, iL (IntKind.wrap .i64 (s1.1 + 1)))]) (H2 := [.box (encSt28 x0), vecL encT 1 9 ((s1.2 ++ ([(nth x0.Curs_ s1.1).Code_, (nth x0.Curs_ s1.1).Sign_] : List (List UInt8))))]) hFH hFD [0, 4] ?_
     exact kLN [1, 2, 3, 39, 40, 41]
    ·refine kF ?_
     refine K.exit 4 (by kernel_rfl) ?_
     refine PJ.passExit ?_
     obtain rfl := oi h24
     refine PJ.loopOut (fun e => nomatch e) (fun he2 => ?_)
     have h27 := congrArg some he2
     refine PJ.blockOut ?_
     obtain rfl := oi h27
     exact kN [1, 2, 3]
   ·obtain ⟨s4, hy3, h28⟩ := bindS h22
    refine K.cutN (by kernel_rfl) (fun (s4 : (List (List UInt8))) => ([(2, .nl), (3, .vc 0)], [vecL encT 1 9 s4])) s4 ?_ ?_
    ·refine kSR ?_
     refine kC 4 [2,3,54,55,56] ?_
     refine kEN ?_
     refine kb 6 ?_
     refine J.wk (Wk.sel (L2 := [(2, .nl), (3, .vc 0), (54, lsv encSt61 3 x0.Comps_), (55, iL (x0.Comps_.length : Int)), (56, iL 0)]) (H2 := [vecL encT 1 9 s5]) 0 (by rw [hFH]; rfl) hFD [1] (by kernel_rfl) (by kernel_rfl) (by decide) (by kernel_rfl) (by kernel_rfl) (by kernel_rfl) (by kernel_rfl)) ?_
     refine kl (fun (s2 : Int × (List (List UInt8))) => ([(2, .nl), (3, .vc 0), (54, lsv encSt61 3 x0.Comps_), (55, iL (x0.Comps_.length : Int)), (56, iL s2.1)], [vecL encT 1 9 s2.2])) hy3 [2, 3, 54, 55, 56] (fun s2 x259 hs3 => ?_)
     refine kSR ?_
     refine kC 1 [2,3,54,55,56,57] ?_
     refine kEN ?_
     refine kS ?_
     refine kBJ 57 hs3 (fun h29 => ?_) (fun h30 => ?_)
     ·refine kT ?_
      refine kK ?_
      refine PJ.next ?_
      refine kS ?_
      refine kb 7 ?_
      refine kSR ?_
      obtain ⟨hm, h31⟩ := asrt h29
      refine kI 58 encSt61_len hm ?_
      refine kC 3 [2,3,11,54,55,56] ?_
      refine kEN ?_
      refine kR ?_
      refine kC 4 [2,3,54,55,56,60,63] ?_
      obtain ⟨hm, h32⟩ := asrt h31
      refine RJ.rel (d := (some 64)) (ef := ⟨.vc 3, [0, 2], [(0, .gone), (3, .vec (s2.2.length + ([(nth x0.Comps_ s2.1).Pat_] : List (List UInt8)).length) 1 9 (s2.2.flatMap encT ++ ([(nth x0.Comps_ s2.1).Pat_] : List (List UInt8)).flatMap encT))]⟩) (ef' := ⟨.vc 3, [0, 2], [(0, .gone), (3, vecL encT 1 9 (s2.2 ++ ([(nth x0.Comps_ s2.1).Pat_] : List (List UInt8))))]⟩) (c := room (s2.2.length + ([(nth x0.Comps_ s2.1).Pat_] : List (List UInt8)).length)) (tr2 := []) (H2 := [.gone, .box [iL ((nth x0.Comps_ s2.1).Mag_), iL ((nth x0.Comps_ s2.1).Cat_), .str ((nth x0.Comps_ s2.1).Pat_)], vecL encT 1 9 ([(nth x0.Comps_ s2.1).Pat_] : List (List UInt8)), vecL encT 1 9 ((s2.2 ++ ([(nth x0.Comps_ s2.1).Pat_] : List (List UInt8))))]) (by kernel_rfl) hm (fun hc => N.app) (by kernel_rfl) ?_
      refine kC 1 [2,3,54,55,56] ?_
      refine kE ?_
      refine PJ.blockNormal ?_
      refine PJ.next ?_
      refine kR ?_
      refine kC 2 [2,3,54,55,56] ?_
      refine kE ?_
      obtain rfl := oi h32
      refine kW (L2 := [(2, .nl), (3, .vc 0), (54, lsv encSt61 3 x0.Comps_), (55, iL (x0.Comps_.length : Int)), (56, iL (IntKind.wrap .i64 (s2.1 + 1)))]) (H2 := [vecL encT 1 9 ((s2.2 ++ ([(nth x0.Comps_ s2.1).Pat_] : List (List UInt8))))]) hFH hFD [3] ?_
      exact kLN [2, 3, 54, 55, 56]
     ·refine kF ?_
      refine K.exit 6 (by kernel_rfl) ?_
      refine PJ.passExit ?_
      obtain rfl := oi h30
      refine PJ.loopOut (fun e => nomatch e) (fun he3 => ?_)
      have h33 := congrArg some he3
      refine PJ.blockOut ?_
      obtain rfl := oi h33
      exact kN [2, 3]
    ·refine kSR ?_
     refine kC 2 [2] ?_
     refine kEN ?_
     refine kX ?_
     obtain rfl := oi h28
     refine PJ.wk (Wk.freeze 0 (n := s4.length) (k := 1) (e := 9) (cs := s4.flatMap encT) (by kernel_rfl)) ?_
     exact kZ hFn hFH hFD
structure St107 where
 text_ : List UInt8
 deriving Inhabited, DecidableEq
def encSt107 (x : St107) : List SV := [.str x.text_]
theorem encSt107_len (x : St107) : (encSt107 x).length = 1 := rfl
def pack_Gather (x0 : List (List UInt8)) : Option ((List (List UInt8)) × (List Int)) :=
 (Option.bind (loopN (fun (s0 : Int × (List (List UInt8)) × (List Int) × (List (St107 × Int))) => (bif (decide (s0.1 < (x0.length : Int))) then (Option.bind (bif inR s0.1 x0.length then (Option.bind (bif (!((mget (fun a b : St107 => ((a.text_ == b.text_) && true)) s0.2.2.2 (⟨(nth x0 s0.1)⟩ : St107)).isSome)) then (bif (mget (fun a b : St107 => ((a.text_ == b.text_) && true)) s0.2.2.2 (⟨(nth x0 s0.1)⟩ : St107)).isNone then (bif room (s0.2.1.length + ([(nth x0 s0.1)] : List (List UInt8)).length) then (some ((s0.2.1.length : Int), (s0.2.1 ++ ([(nth x0 s0.1)] : List (List UInt8))), (s0.2.2.2 ++ [((⟨(nth x0 s0.1)⟩ : St107), (s0.2.1.length : Int))]))) else none) else none) else (some (((mget (fun a b : St107 => ((a.text_ == b.text_) && true)) s0.2.2.2 (⟨(nth x0 s0.1)⟩ : St107)).getD 0), s0.2.1, s0.2.2.2))) fun (s1 : Int × (List (List UInt8)) × (List (St107 × Int))) => (bif room (s0.2.2.1.length + ([s1.1] : List Int).length) then (some (s1.2.1, (s0.2.2.1 ++ ([s1.1] : List Int)), s1.2.2)) else none)) else none) fun (s3 : (List (List UInt8)) × (List Int) × (List (St107 × Int))) => (some (.inl ((IntKind.wrap .i64 (s0.1 + 1)), s3.1, s3.2.1, s3.2.2)))) else (some (.inr (s0.2.1, s0.2.2.1))))) big (0, ([] : List (List UInt8)), ([] : List Int), ([] : List (St107 × Int)))) fun (s2 : (List (List UInt8)) × (List Int)) => (some (s2.1, s2.2)))
theorem pack_Gather_ok {x0 : List (List UInt8)} {r : (List (List UInt8)) × (List Int)} (h : pack_Gather x0 = some r) : SC Try.prog 43 [lT x0] [] (.tup [lT r.1, lI r.2]) [] := by
 refine kFn (fn := Try.f43) (fun F hFn hFH hFD => ?_)
 unfold pack_Gather at h
 refine kSR ?_
 refine kC 2 [0,2,3] ?_
 refine kEN ?_
 refine kSR ?_
 refine kC 1 [0,2,3,4] ?_
 refine kEN ?_
 refine kSR ?_
 refine kC 1 [0,2,3,4,5] ?_
 refine kEN ?_
 refine kSR ?_
 refine kC 2 [0,2,3,4,5,6] ?_
 refine kEN ?_
 obtain ⟨s2, hy0, h0⟩ := bindS h
 refine K.cutN (by kernel_rfl) (fun (s2 : (List (List UInt8)) × (List Int)) => ([(2, .nl), (3, .nl), (4, .vc 0), (5, .vc 1)], [vecL encT 1 9 s2.1, vecL (encI .i64) 1 3 s2.2])) s2 ?_ ?_
 ·refine kSR ?_
  refine kC 3 [2,3,4,5,6,12,13,14] ?_
  refine kEN ?_
  refine kb 0 ?_
  refine J.wk (Wk.viv 4 1 9 (by kernel_rfl)) ?_
  refine J.wk (Wk.viv 5 1 3 (by kernel_rfl)) ?_
  refine J.wk (Wk.sel (L2 := [(2, .nl), (3, .nl), (4, .vc 0), (5, .vc 1), (6, .mp 2), (12, lT x0), (13, iL (x0.length : Int)), (14, iL 0)]) (H2 := [vecL encT 1 9 ([] : List (List UInt8)), vecL (encI .i64) 1 3 ([] : List Int), .map (mapL (fun k : St107 => .agg [.str k.text_]) (fun k : Int => iL k) ([] : List (St107 × Int)))]) 0 (by rw [hFH]; rfl) hFD [1, 2, 0] (by kernel_rfl) (by simp only [List.map_cons, List.map_nil, rn_mapL (ek := (fun k : St107 => .agg [.str k.text_])) (ev := (fun k : Int => iL k)) (fun _ _ => rfl) (fun _ _ => rfl)]; kernel_rfl) (by decide) (by simp only [List.all_cons, List.all_nil, refs_mapL (ek := (fun k : St107 => .agg [.str k.text_])) (ev := (fun k : Int => iL k)) (fun _ _ => rfl) (fun _ _ => rfl)]; kernel_rfl) (by kernel_rfl) (by kernel_rfl) (by kernel_rfl)) ?_
  refine kl (fun (s0 : Int × (List (List UInt8)) × (List Int) × (List (St107 × Int))) => ([(2, .nl), (3, .nl), (4, .vc 0), (5, .vc 1), (6, .mp 2), (12, lT x0), (13, iL (x0.length : Int)), (14, iL s0.1)], [vecL encT 1 9 s0.2.1, vecL (encI .i64) 1 3 s0.2.2.1, .map (mapL (fun k : St107 => .agg [.str k.text_]) (fun k : Int => iL k) s0.2.2.2)])) hy0 [2, 3, 4, 5, 6, 12, 13, 14] (fun s0 x231 hs0 => ?_)
  refine kSR ?_
  refine kC 1 [2,3,4,5,6,12,13,14,15] ?_
  refine kEN ?_
  refine kS ?_
  refine kBJ 15 hs0 (fun h1 => ?_) (fun h2 => ?_)
  ·refine kT ?_
   refine kK ?_
   refine PJ.next ?_
   obtain ⟨s3, hy1, h3⟩ := bindS h1
   refine K.cutN (by kernel_rfl) (fun (s3 : (List (List UInt8)) × (List Int) × (List (St107 × Int))) => ([(2, .nl), (3, .nl), (4, .vc 0), (5, .vc 1), (6, .mp 2), (12, lT x0), (13, iL (x0.length : Int)), (14, iL s0.1)], [vecL encT 1 9 s3.1, vecL (encI .i64) 1 3 s3.2.1, .map (mapL (fun k : St107 => .agg [.str k.text_]) (fun k : Int => iL k) s3.2.2)])) s3 ?_ ?_
   ·refine kb 1 ?_
    refine kSR ?_
    obtain ⟨hm, h4⟩ := asrt hy1
    refine kI 16 encT_len hm ?_
    refine kC 2 [2,3,4,5,6,8,12,13,14] ?_
    refine kEN ?_
    refine kSR ?_
    refine kC 3 [2,3,4,5,6,8,12,13,14,19,21] ?_
    refine RJ.lookD (d := (some 22)) (kt := 108) (i := 2) (cs := [.str (nth x0 s0.1)]) (ok := true) (tr2 := []) (fun k : St107 => .agg [.str k.text_]) (fun k : Int => iL k) (fun a b : St107 => ((a.text_ == b.text_) && true)) s0.2.2.2 (⟨(nth x0 s0.1)⟩ : St107) (0 : Int) (by kernel_rfl) rfl (fun a b => by kernel_rfl) ?_
    refine kC 5 [2,3,4,5,6,8,9,10,12,13,14] ?_
    refine kEN ?_
    obtain ⟨s1, hy2, h5⟩ := bindS h4
    refine K.cutN (by kernel_rfl) (fun (s1 : Int × (List (List UInt8)) × (List (St107 × Int))) => ([(2, .nl), (3, .nl), (4, .vc 0), (5, .vc 1), (6, .mp 2), (9, iL s1.1), (12, lT x0), (13, iL (x0.length : Int)), (14, iL s0.1)], [vecL encT 1 9 s1.2.1, vecL (encI .i64) 1 3 s0.2.2.1, .map (mapL (fun k : St107 => .agg [.str k.text_]) (fun k : Int => iL k) s1.2.2)])) s1 ?_ ?_
    ·refine kSR ?_
     refine kC 2 [2,3,4,5,6,8,9,12,13,14,26] ?_
     refine kEN ?_
     refine kBJ 26 hy2 (fun h6 => ?_) (fun h7 => ?_)
     ·refine kT ?_
      refine kSR ?_
      refine kC 3 [2,3,4,5,6,8,9,12,13,14] ?_
      refine kEN ?_
      refine kSR ?_
      refine kC 4 [2,3,4,5,6,8,9,12,13,14,29,31,32] ?_
      obtain ⟨hm, h8⟩ := asrt h6
      refine RJ.insD (d := none) (kt := 108) (i := 2) (cs := [.str (nth x0 s0.1)]) (sv := iL (s0.2.1.length : Int)) (tr2 := []) (H2 := [vecL encT 1 9 s0.2.1, vecL (encI .i64) 1 3 s0.2.2.1, .map (mapL (fun k : St107 => .agg [.str k.text_]) (fun k : Int => iL k) ((s0.2.2.2 ++ [((⟨(nth x0 s0.1)⟩ : St107), (s0.2.1.length : Int))])))]) (fun k : St107 => .agg [.str k.text_]) (fun k : Int => iL k) (fun a b : St107 => ((a.text_ == b.text_) && true)) s0.2.2.2 (⟨(nth x0 s0.1)⟩ : St107) (s0.2.1.length : Int) (by kernel_rfl) rfl rfl (fun a b => by kernel_rfl) hm (by kernel_rfl) ?_
      refine kEN ?_
      refine kR ?_
      refine kC 3 [2,3,4,5,6,9,12,13,14,33,35] ?_
      obtain ⟨hm, h9⟩ := asrt h8
      refine RJ.rel (d := (some 36)) (ef := ⟨.vc 4, [0, 3], [(0, .gone), (4, .vec (s0.2.1.length + ([(nth x0 s0.1)] : List (List UInt8)).length) 1 9 (s0.2.1.flatMap encT ++ ([(nth x0 s0.1)] : List (List UInt8)).flatMap encT))]⟩) (ef' := ⟨.vc 4, [0, 3], [(0, .gone), (4, vecL encT 1 9 (s0.2.1 ++ ([(nth x0 s0.1)] : List (List UInt8))))]⟩) (c := room (s0.2.1.length + ([(nth x0 s0.1)] : List (List UInt8)).length)) (tr2 := []) (H2 := [.gone, vecL (encI .i64) 1 3 s0.2.2.1, .map (mapL (fun k : St107 => .agg [.str k.text_]) (fun k : Int => iL k) ((s0.2.2.2 ++ [((⟨(nth x0 s0.1)⟩ : St107), (s0.2.1.length : Int))]))), vecL encT 1 9 ([(nth x0 s0.1)] : List (List UInt8)), vecL encT 1 9 ((s0.2.1 ++ ([(nth x0 s0.1)] : List (List UInt8))))]) (by kernel_rfl) hm (fun hc => N.app) (by kernel_rfl) ?_
      refine RJ.seg 1 [2, 3, 4, 5, 6, 9, 12, 13, 14] (L2 := [(2, .nl), (3, .nl), (4, .vc 4), (5, .vc 1), (6, .mp 2), (9, iL (s0.2.1.length : Int)), (12, lT x0), (13, iL (x0.length : Int)), (14, iL s0.1)]) (H2 := [.gone, vecL (encI .i64) 1 3 s0.2.2.1, .map (mapL (fun k : St107 => .agg [.str k.text_]) (fun k : Int => iL k) ((s0.2.2.2 ++ [((⟨(nth x0 s0.1)⟩ : St107), (s0.2.1.length : Int))]))), vecL encT 1 9 ([(nth x0 s0.1)] : List (List UInt8)), vecL encT 1 9 ((s0.2.1 ++ ([(nth x0 s0.1)] : List (List UInt8))))]) (by kernel_rfl) ?_
      refine kE ?_
      obtain rfl := oi h9
      refine PJ.wk (Wk.sel (L2 := [(2, .nl), (3, .nl), (4, .vc 0), (5, .vc 1), (6, .mp 2), (9, iL (s0.2.1.length : Int)), (12, lT x0), (13, iL (x0.length : Int)), (14, iL s0.1)]) (H2 := [vecL encT 1 9 ((s0.2.1 ++ ([(nth x0 s0.1)] : List (List UInt8)))), vecL (encI .i64) 1 3 s0.2.2.1, .map (mapL (fun k : St107 => .agg [.str k.text_]) (fun k : Int => iL k) ((s0.2.2.2 ++ [((⟨(nth x0 s0.1)⟩ : St107), (s0.2.1.length : Int))])))]) 0 (by rw [hFH]; rfl) hFD [4, 1, 2] (by kernel_rfl) (by simp only [List.map_cons, List.map_nil, rn_mapL (ek := (fun k : St107 => .agg [.str k.text_])) (ev := (fun k : Int => iL k)) (fun _ _ => rfl) (fun _ _ => rfl)]; kernel_rfl) (by decide) (by simp only [List.all_cons, List.all_nil, refs_mapL (ek := (fun k : St107 => .agg [.str k.text_])) (ev := (fun k : Int => iL k)) (fun _ _ => rfl) (fun _ _ => rfl)]; kernel_rfl) (by kernel_rfl) (by kernel_rfl) (by kernel_rfl)) ?_
      exact kN [2, 3, 4, 5, 6, 9, 12, 13, 14]
     ·refine kF ?_
      refine kK ?_
      obtain rfl := oi h7
      exact kN [2, 3, 4, 5, 6, 9, 12, 13, 14]
    ·refine kR ?_
     refine kC 3 [2,3,4,5,6,12,13,14,37,39] ?_
     obtain ⟨hm, h10⟩ := asrt h5
     refine RJ.rel (d := (some 40)) (ef := ⟨.vc 4, [1, 3], [(1, .gone), (4, .vec (s0.2.2.1.length + ([s1.1] : List Int).length) 1 3 (s0.2.2.1.flatMap (encI .i64) ++ ([s1.1] : List Int).flatMap (encI .i64)))]⟩) (ef' := ⟨.vc 4, [1, 3], [(1, .gone), (4, vecL (encI .i64) 1 3 (s0.2.2.1 ++ ([s1.1] : List Int)))]⟩) (c := room (s0.2.2.1.length + ([s1.1] : List Int).length)) (tr2 := []) (H2 := [vecL encT 1 9 s1.2.1, .gone, .map (mapL (fun k : St107 => .agg [.str k.text_]) (fun k : Int => iL k) s1.2.2), vecL (encI .i64) 1 3 ([s1.1] : List Int), vecL (encI .i64) 1 3 (s0.2.2.1 ++ ([s1.1] : List Int))]) (by kernel_rfl) hm (fun hc => N.app) (by kernel_rfl) ?_
     refine kC 1 [2,3,4,5,6,12,13,14] ?_
     refine kE ?_
     refine PJ.blockNormal ?_
     obtain rfl := oi h10
     refine PJ.wk (Wk.sel (L2 := [(2, .nl), (3, .nl), (4, .vc 0), (5, .vc 1), (6, .mp 2), (12, lT x0), (13, iL (x0.length : Int)), (14, iL s0.1)]) (H2 := [vecL encT 1 9 s1.2.1, vecL (encI .i64) 1 3 (s0.2.2.1 ++ ([s1.1] : List Int)), .map (mapL (fun k : St107 => .agg [.str k.text_]) (fun k : Int => iL k) s1.2.2)]) 0 (by rw [hFH]; rfl) hFD [0, 4, 2] (by kernel_rfl) (by simp only [List.map_cons, List.map_nil, rn_mapL (ek := (fun k : St107 => .agg [.str k.text_])) (ev := (fun k : Int => iL k)) (fun _ _ => rfl) (fun _ _ => rfl)]; kernel_rfl) (by decide) (by simp only [List.all_cons, List.all_nil, refs_mapL (ek := (fun k : St107 => .agg [.str k.text_])) (ev := (fun k : Int => iL k)) (fun _ _ => rfl) (fun _ _ => rfl)]; kernel_rfl) (by kernel_rfl) (by kernel_rfl) (by kernel_rfl)) ?_
     exact kN [2, 3, 4, 5, 6, 12, 13, 14]
   ·refine kR ?_
    refine kC 2 [2,3,4,5,6,12,13,14] ?_
    refine kE ?_
    obtain rfl := oi h3
    exact kLN [2, 3, 4, 5, 6, 12, 13, 14]
  ·refine kF ?_
   refine K.exit 0 (by kernel_rfl) ?_
   refine PJ.passExit ?_
   obtain rfl := oi h2
   refine PJ.loopOut (fun e => nomatch e) (fun he0 => ?_)
   have h11 := congrArg some he0
   refine PJ.blockOut ?_
   obtain rfl := oi h11
   refine kW (L2 := [(2, .nl), (3, .nl), (4, .vc 0), (5, .vc 1)]) (H2 := [vecL encT 1 9 s0.2.1, vecL (encI .i64) 1 3 s0.2.2.1]) hFH hFD [0, 1] ?_
   exact kN [2, 3, 4, 5]
 ·refine kSR ?_
  refine kC 4 [2,3] ?_
  refine kEN ?_
  refine kX ?_
  obtain rfl := oi h0
  refine PJ.wk (Wk.freeze 0 (n := s2.1.length) (k := 1) (e := 9) (cs := s2.1.flatMap encT) (by kernel_rfl)) ?_
  refine PJ.wk (Wk.freeze 1 (n := s2.2.length) (k := 1) (e := 3) (cs := s2.2.flatMap (encI .i64)) (by kernel_rfl)) ?_
  exact kZ hFn hFH hFD
def bund_newWriter_s0 (x0 : St28) : Option ((List (List UInt8)) × (List Int)) :=
 (Option.bind (bund_Texts x0) fun y1 => (Option.bind (pack_Gather y1) fun y0 => (some (y0.1, y0.2))))
theorem bund_newWriter_s0_ok {x0 : St28} {r : (List (List UInt8)) × (List Int)} (h : bund_newWriter_s0 x0 = some r) : SC Try.prog 24 [.agg (encSt28 x0)] [] (.ptr 0 0) [.box (q12 x0.Tag_ x0.S_.Zero_ x0.S_.Dec_ x0.S_.Group_ x0.S_.Minus_ x0.S_.Plus_ x0.S_.Percent_ x0.S_.Exp_ x0.Pats_.a0_ x0.Pats_.a1_ x0.Pats_.a2_ x0.Pats_.a3_ [lsv encSt57 2 x0.Rules_, lsv encSt59 3 x0.Curs_, lsv encSt61 3 x0.Comps_, lT r.1, lI r.2, .nl, .bool false])] := by
 refine kFn (fn := Try.f24) (fun F hFn hFH hFD => ?_)
 unfold bund_newWriter_s0 at h
 refine kSR ?_
 refine kC 2 [1,2] ?_
 refine kEN ?_
 refine kSR ?_
 refine kC 1 [1,2,6] ?_
 obtain ⟨y1, hy0, h0⟩ := bindS h
 refine kA 7 (bund_Texts_ok hy0) ?_
 obtain ⟨y0, hy1, h1⟩ := bindS h0
 refine kA 8 (pack_Gather_ok hy1) ?_
 refine kC 5 [1,2,3,4] ?_
 refine kEN ?_
 refine kSR ?_
 refine kC 6 [2] ?_
 refine kEN ?_
 refine kX ?_
 obtain rfl := oi h1
 exact kV [1] hFn hFH hFD (v1 := .ptr 1 0)
def slices_Clone (x0 : List Int) : Option (List Int) :=
 (bif (Nat.beq x0.length 0) then agree (some ([] : List Int)) (bif room x0.length then (some x0) else none) else (bif room x0.length then (some x0) else none))
theorem slices_Clone_ok_o {x0 : List Int} {r : List Int} (h : slices_Clone x0 = some r) : SC Try.prog 48 [lB x0] [] (.vc 0) [vecL (encI .u8) 1 5 r] := by
 refine kFn (fn := Try.f48) (fun F hFn hFH hFD => ?_)
 unfold slices_Clone at h
 refine kSR ?_
 refine kC 1 [0,2] ?_
 refine kEN ?_
 refine kS ?_
 refine kSR ?_
 refine kC 1 [0,2,3] ?_
 refine RJ.isNil (d := 4) (n := x0.length) (eq := true) (by kernel_rfl) (fun b hb0 => ?_)
 cases b
 ·have h0 := agreeF h
  refine kEN ?_
  refine kF ?_
  refine kK ?_
  refine PJ.next ?_
  refine kSR ?_
  refine kC 2 [2,5,6] ?_
  obtain ⟨hm, h1⟩ := asrt h0
  refine RJ.rel (d := (some 7)) (ef := ⟨.vc 0, [], [(0, .vec x0.length 1 5 (x0.flatMap (encI .u8)))]⟩) (ef' := ⟨.vc 0, [], [(0, .vec x0.length 1 5 (x0.flatMap (encI .u8)))]⟩) (c := roomB x0.length) (tr2 := []) (H2 := [vecL (encI .u8) 1 5 x0]) (by kernel_rfl) (roomB_of_room hm) (fun hc => rfl) (by kernel_rfl) ?_
  refine kC 1 [2] ?_
  refine kEN ?_
  refine kX ?_
  obtain rfl := oi h1
  exact kV [0] hFn hFH hFD (v1 := .vc 0)
 ·have h2 := agreeT (by rw [hb0 rfl]; rfl) h
  refine kEN ?_
  refine kT ?_
  refine kSR ?_
  refine kC 1 [0,2] ?_
  refine kEN ?_
  refine kX ?_
  refine PJ.passRet ?_
  obtain rfl := oi h2
  refine PJ.wk (Wk.viv 2 1 5 (by kernel_rfl)) ?_
  exact kV [0] hFn hFH hFD (v1 := .vc 0)
def pack_isPool (x0 : List (List UInt8)) : Option (Bool) :=
 (bif (decide ((x0.length : Int) > 500)) then (some false) else (Option.bind (loopN (fun (s0 : Int) => (bif (decide (s0 < (x0.length : Int))) then (bif inR s0 x0.length then (bif (decide (((nth x0 s0).length : Int) > 400)) then (some (.inr (.inr false))) else (some (.inl (IntKind.wrap .i64 (s0 + 1))))) else none) else (some (.inr (.inl ()))))) big 0) (joinX fun (s1 : Unit) => (Option.bind (pack_Gather x0) fun y0 => (some (decide ((y0.1.length : Int) = (x0.length : Int))))))))
theorem pack_isPool_ok {x0 : List (List UInt8)} {r : Bool} (h : pack_isPool x0 = some r) : SC Try.prog 62 [lT x0] [] (.bool r) [] := by
 refine kFn (fn := Try.f62) (fun F hFn hFH hFD => ?_)
 unfold pack_isPool at h
 refine kSR ?_
 refine kC 1 [0,2] ?_
 refine kEN ?_
 refine kS ?_
 refine kSR ?_
 refine kC 3 [0,2,9] ?_
 refine kEN ?_
 refine kBJ 9 h (fun h1 => ?_) (fun h2 => ?_)
 ·refine kT ?_
  refine kSR ?_
  refine kC 1 [0,2] ?_
  refine kEN ?_
  refine kX ?_
  refine PJ.passRet ?_
  obtain rfl := oi h1
  exact kZ hFn hFH hFD
 ·refine kF ?_
  refine kK ?_
  refine PJ.next ?_
  obtain ⟨y1, hy0, h0⟩ := bindS h2
  refine K.cutX (by kernel_rfl) (fun (s1 : Unit) => ([(0, lT x0), (2, .bool false)], [])) y1 ?_ (fun s1 hs => ?_)
  ·refine kSR ?_
   refine kC 3 [0,2,10,11,12] ?_
   refine kEN ?_
   refine kb 0 ?_
   refine kl (fun (s0 : Int) => ([(0, lT x0), (2, .bool false), (10, lT x0), (11, iL (x0.length : Int)), (12, iL s0)], [])) hy0 [0, 2, 10, 11, 12] (fun s0 x74 hs0 => ?_)
   refine kSR ?_
   refine kC 1 [0,2,10,11,12,13] ?_
   refine kEN ?_
   refine kS ?_
   refine kBJ 13 hs0 (fun h3 => ?_) (fun h4 => ?_)
   ·refine kT ?_
    refine kK ?_
    refine PJ.next ?_
    refine kS ?_
    refine kb 1 ?_
    refine kSR ?_
    obtain ⟨hm, h5⟩ := asrt h3
    refine kI 14 encT_len hm ?_
    refine kC 2 [0,2,4,10,11,12] ?_
    refine kEN ?_
    refine kSR ?_
    refine kC 3 [0,2,10,11,12,18] ?_
    refine kEN ?_
    refine kBJ 18 h5 (fun h6 => ?_) (fun h7 => ?_)
    ·refine kT ?_
     refine kSR ?_
     refine kC 1 [0,2,10,11,12] ?_
     refine kEN ?_
     refine kX ?_
     refine PJ.blockRet ?_
     refine PJ.passRet ?_
     obtain rfl := oi h6
     refine PJ.loopOut (fun e => nomatch e) (fun he0 => ?_)
     have h8 := congrArg some he0
     refine PJ.blockRet ?_
     obtain rfl := oi h8
     have h9 := joinX_inr h0
     refine PJ.cutXr (fun e => nomatch e) ?_
     obtain rfl := oi h9
     exact kZ hFn hFH hFD
    ·refine kF ?_
     refine kK ?_
     refine PJ.blockNormal ?_
     refine PJ.next ?_
     refine kR ?_
     refine kC 2 [0,2,10,11,12] ?_
     refine kE ?_
     obtain rfl := oi h7
     exact kLN [0, 2, 10, 11, 12]
   ·refine kF ?_
    refine K.exit 0 (by kernel_rfl) ?_
    refine PJ.passExit ?_
    obtain rfl := oi h4
    refine PJ.loopOut (fun e => nomatch e) (fun he1 => ?_)
    have h10 := congrArg some he1
    refine PJ.blockOut ?_
    obtain rfl := oi h10
    exact kXl [0, 2]
  ·subst hs
   have h11 := joinX_inl h0
   refine kSR ?_
   refine kC 1 [0,2,21] ?_
   obtain ⟨y0, hy1, h12⟩ := bindS h11
   refine kA 22 (pack_Gather_ok hy1) ?_
   refine kC 5 [0,2,5] ?_
   refine kEN ?_
   refine kSR ?_
   refine kC 6 [2] ?_
   refine kEN ?_
   refine kX ?_
   obtain rfl := oi h12
   exact kZ hFn hFH hFD
def pack_lay_1_s0 (x0 : Int) (x1 : Int) (x2 : List Int) (x3 : Int) : Option (Unit) :=
 (bif sh x1 then (bif room (x2.length + (([(IntKind.wrap .u8 ((Int.fdiv x3 (2 ^ (min (x1 : Int).toNat 32)))))] : List Int)).length) then (some ()) else none) else none)
theorem pack_lay_1_s0_ok {x0 : Int} {x1 : Int} {x2 : List Int} {x3 : Int} {r : Unit} (h : pack_lay_1_s0 x0 x1 x2 x3 = some r) : SC Try.prog 74 [iL x0, iL x1, .ptr 0 0, .ptr 2 0] [.box [.vc 1], vecL (encI .u8) 1 5 x2, .box [.int .u32 x3]] (.tup []) [.box [.vc 3], .gone, .box [.int .u32 x3], vecL (encI .u8) 1 5 ((x2 ++ (([(IntKind.wrap .u8 ((Int.fdiv x3 (2 ^ (min (x1 : Int).toNat 32)))))] : List Int))))] := by
 refine kFn (fn := Try.f74) (fun F hFn hFH hFD => ?_)
 unfold pack_lay_1_s0 at h
 refine J.wk (Wk.move 1 (n := x2.length) (k := 1) (e := 5) (cs := x2.flatMap (encI .u8)) (by kernel_rfl)) ?_
 refine J.keep [1, 2, 3] (L2 := [(1, iL x1), (2, .ptr 0 0), (3, .ptr 2 0)]) (by kernel_rfl) ?_
 refine K.draw (by kernel_rfl) (by kernel_rfl) (by kernel_rfl) (H2 := [.box [.vc 3], .gone, .box [.int .u32 x3], vecL (encI .u8) 1 5 x2, .res, .res]) (by kernel_rfl) (n := 4) (by kernel_rfl) ?_
 refine kD 3 ?_
 obtain ⟨hm, h0⟩ := asrt h
 refine kQ 9 (.int .u32 (Int.fdiv x3 (2 ^ (min (x1 : Int).toNat 32)))) [] (tr2 := [([0, 1], []), ([4, 5], []), ([], []), ([], [])]) hm ?_
 refine kD 2 ?_
 obtain ⟨hm, h1⟩ := asrt h0
 refine RJ.rel (d := (some 12)) (ef := ⟨.vc 5, [3, 4], [(3, .gone), (5, .vec (x2.length + (([(IntKind.wrap .u8 ((Int.fdiv x3 (2 ^ (min (x1 : Int).toNat 32)))))] : List Int)).length) 1 5 (x2.flatMap (encI .u8) ++ (([(IntKind.wrap .u8 ((Int.fdiv x3 (2 ^ (min (x1 : Int).toNat 32)))))] : List Int)).flatMap (encI .u8)))]⟩) (ef' := ⟨.vc 5, [3, 4], [(3, .gone), (5, vecL (encI .u8) 1 5 (x2 ++ (([(IntKind.wrap .u8 ((Int.fdiv x3 (2 ^ (min (x1 : Int).toNat 32)))))] : List Int))))]⟩) (c := roomB (x2.length + (([(IntKind.wrap .u8 ((Int.fdiv x3 (2 ^ (min (x1 : Int).toNat 32)))))] : List Int)).length)) (tr2 := [([0, 1], []), ([4, 5], []), ([], []), ([], []), ([], []), ([], [8, 9, 8, 9]), ([6, 7, 8, 9], [6, 7, 10, 11, 10, 11])]) (H2 := [.box [.vc 3], .gone, .box [.int .u32 x3], .gone, vecL (encI .u8) 1 5 (([(IntKind.wrap .u8 ((Int.fdiv x3 (2 ^ (min (x1 : Int).toNat 32)))))] : List Int)), vecL (encI .u8) 1 5 ((x2 ++ (([(IntKind.wrap .u8 ((Int.fdiv x3 (2 ^ (min (x1 : Int).toNat 32)))))] : List Int))))]) (by kernel_rfl) (roomB_of_room hm) (fun hc => N.app) (by kernel_rfl) ?_
 refine kD 1 ?_
 refine kE ?_
 obtain rfl := oi h1
 exact K.retV (H0 := [.box [.vc 1], vecL (encI .u8) 1 5 x2, .box [.int .u32 x3]]) [0, 1, 2, 5] (.inl rfl) hFn hFH hFD (by kernel_rfl) (v1 := .tup []) (by kernel_rfl) (by kernel_rfl) (by kernel_rfl) (by decide) (by kernel_rfl) (by kernel_rfl) (by kernel_rfl) (by kernel_rfl) (by kernel_rfl)
def pack_each_s0 (x0 : Int) (x1 : List Int) (x2 : Int) : Option ((List Int)) :=
 (loopN (fun (s0 : Int × (List Int)) => (bif (decide (s0.1 < x0)) then (Option.bind (pack_lay_1_s0 s0.1 ((IntKind.wrap .i64 (8 * ((IntKind.wrap .i64 ((IntKind.wrap .i64 (x0 - 1)) - s0.1)))))) s0.2 x2) fun y0 => (some (.inl ((IntKind.wrap .i64 (s0.1 + 1)), (s0.2 ++ (([(IntKind.wrap .u8 ((Int.fdiv x2 (2 ^ (min (((IntKind.wrap .i64 (8 * ((IntKind.wrap .i64 ((IntKind.wrap .i64 (x0 - 1)) - s0.1)))))) : Int).toNat 32)))))] : List Int))))))) else (some (.inr s0.2)))) big (0, x1))
theorem pack_each_s0_ok {x0 : Int} {x1 : List Int} {x2 : Int} {r : (List Int)} (h : pack_each_s0 x0 x1 x2 = some r) : SC Try.prog 73 [iL x0, .fn (.func 74) [] [.ptr 0 0, .ptr 2 0]] [.box [.vc 1], vecL (encI .u8) 1 5 x1, .box [.int .u32 x2]] (.tup []) [.box [.vc 3], .gone, .box [.int .u32 x2], vecL (encI .u8) 1 5 r] := by
 refine kFn (fn := Try.f73) (fun F hFn hFH hFD => ?_)
 unfold pack_each_s0 at h
 refine J.wk (Wk.move 1 (n := x1.length) (k := 1) (e := 5) (cs := x1.flatMap (encI .u8)) (by kernel_rfl)) ?_
 refine kSR ?_
 refine kC 2 [0,1,5,6] ?_
 refine kEN ?_
 refine kb 0 ?_
 refine kl (fun (s0 : Int × (List Int)) => ([(0, iL x0), (1, .fn (.func 74) [] [.ptr 0 0, .ptr 2 0]), (5, iL x0), (6, iL s0.1)], [.box [.vc 3], .gone, .box [.int .u32 x2], vecL (encI .u8) 1 5 s0.2])) h [0, 1, 5, 6] (fun s0 x19 hs0 => ?_)
 refine kSR ?_
 refine kC 1 [0,1,5,6,7] ?_
 refine kEN ?_
 refine kS ?_
 refine kBJ 7 hs0 (fun h0 => ?_) (fun h1 => ?_)
 ·refine kT ?_
  refine kK ?_
  refine PJ.next ?_
  refine kS ?_
  refine kb 1 ?_
  refine kSR ?_
  refine kC 2 [0,1,4,5,6] ?_
  refine kEN ?_
  refine kR ?_
  refine kC 7 [0,1,5,6,9,10,15] ?_
  obtain ⟨y0, hy0, h2⟩ := bindS h0
  refine kCG (some 16) (args := [iL s0.1, iL ((IntKind.wrap .i64 (8 * ((IntKind.wrap .i64 ((IntKind.wrap .i64 (x0 - 1)) - s0.1)))))), .ptr 0 0, .ptr 2 0]) (v := .tup []) (H2 := [.box [.vc 4], .gone, .box [.int .u32 x2], .gone, vecL (encI .u8) 1 5 ((s0.2 ++ (([(IntKind.wrap .u8 ((Int.fdiv x2 (2 ^ (min (((IntKind.wrap .i64 (8 * ((IntKind.wrap .i64 ((IntKind.wrap .i64 (x0 - 1)) - s0.1)))))) : Int).toNat 32)))))] : List Int))))]) [0, 3, 2] (pack_lay_1_s0_ok hy0) ?_
  refine kE ?_
  refine PJ.blockNormal ?_
  refine PJ.next ?_
  refine kR ?_
  refine kC 2 [0,1,5,6] ?_
  refine kE ?_
  obtain rfl := oi h2
  refine kW (L2 := [(0, iL x0), (1, .fn (.func 74) [] [.ptr 0 0, .ptr 2 0]), (5, iL x0), (6, iL (IntKind.wrap .i64 (s0.1 + 1)))]) (H2 := [.box [.vc 3], .gone, .box [.int .u32 x2], vecL (encI .u8) 1 5 ((s0.2 ++ (([(IntKind.wrap .u8 ((Int.fdiv x2 (2 ^ (min (((IntKind.wrap .i64 (8 * ((IntKind.wrap .i64 ((IntKind.wrap .i64 (x0 - 1)) - s0.1)))))) : Int).toNat 32)))))] : List Int))))]) hFH hFD [0, 1, 2, 4] ?_
  exact kLN [0, 1, 5, 6]
 ·refine kF ?_
  refine K.exit 0 (by kernel_rfl) ?_
  refine PJ.passExit ?_
  obtain rfl := oi h1
  refine PJ.loopOut (fun e => nomatch e) (fun he0 => ?_)
  have h3 := congrArg some he0
  refine PJ.blockOut ?_
  obtain rfl := oi h3
  exact K.retV (H0 := [.box [.vc 1], vecL (encI .u8) 1 5 x1, .box [.int .u32 x2]]) [0, 1, 2, 3] (.inl rfl) hFn hFH hFD (by kernel_rfl) (v1 := .tup []) (by kernel_rfl) (by kernel_rfl) (by kernel_rfl) (by decide) (by kernel_rfl) (by kernel_rfl) (by kernel_rfl) (by kernel_rfl) (by kernel_rfl)
def pack_lay (x0 : List Int) (x1 : Int) (x2 : Int) : Option (List Int) :=
 (Option.bind (pack_each_s0 x2 x0 x1) fun y0 => (some y0))
theorem pack_lay_ok_0o {x0 : List Int} {x1 : Int} {x2 : Int} {r : List Int} (h : pack_lay x0 x1 x2 = some r) : SC Try.prog 63 [.vc 0, .int .u32 x1, iL x2] [vecL (encI .u8) 1 5 x0] (.vc 1) [.gone, vecL (encI .u8) 1 5 r] := by
 refine kFn (fn := Try.f63) (fun F hFn hFH hFD => ?_)
 unfold pack_lay at h
 refine kSR ?_
 refine kC 3 [2,3,4,6] ?_
 refine kEN ?_
 refine kSR ?_
 refine kC 2 [3,6,7,8] ?_
 obtain ⟨y0, hy0, h0⟩ := bindS h
 refine kCG (some 9) (args := [iL x2, .fn (.func 74) [] [.ptr 1 0, .ptr 2 0]]) (v := .tup []) (H2 := [.gone, .box [.vc 3], .box [.int .u32 x1], vecL (encI .u8) 1 5 y0]) [1, 0, 2] (pack_each_s0_ok hy0) ?_
 refine kEN ?_
 refine kSR ?_
 refine kC 2 [6] ?_
 refine kEN ?_
 refine kX ?_
 obtain rfl := oi h0
 exact kV [0, 3] hFn hFH hFD (v1 := .vc 3)
def pack_PutPool (x0 : List Int) (x1 : List (List UInt8)) : Option ((List Int) × Int) :=
 (Option.bind (slices_Clone x0) fun y1 => (Option.bind (pack_isPool x1) fun y3 => (bif (!y3) then (some (y1, 1)) else (Option.bind (pack_lay y1 (IntKind.wrap .u32 (x1.length : Int)) 2) fun y2 => (Option.bind (loopN (fun (s0 : Int × (List Int)) => (bif (decide (s0.1 < (x1.length : Int))) then (bif inR s0.1 x1.length then (Option.bind (pack_lay s0.2 ((IntKind.wrap .u32 ((nth x1 s0.1).length : Int))) 2) fun y0 => (bif room (y0.length + (nth x1 s0.1).length) then (some (.inl ((IntKind.wrap .i64 (s0.1 + 1)), (y0 ++ (bytesI (nth x1 s0.1)))))) else none)) else none) else (some (.inr s0.2)))) big (0, y2)) fun (s1 : (List Int)) => (some (s1, 0)))))))
theorem pack_PutPool_ok {x0 : List Int} {x1 : List (List UInt8)} {r : (List Int) × Int} (h : pack_PutPool x0 x1 = some r) : SC Try.prog 44 [lB x0, lT x1] [] (.tup [lB r.1, iL r.2]) [] := by
 refine kFn (fn := Try.f44) (fun F hFn hFH hFD => ?_)
 unfold pack_PutPool at h
 refine kSR ?_
 refine kC 2 [0,1,4,5] ?_
 refine kEN ?_
 refine kSR ?_
 refine kC 1 [0,1,4,5,8] ?_
 obtain ⟨y1, hy0, h0⟩ := bindS h
 refine kCG (some 9) (args := [lB x0]) (v := .vc 0) (H2 := [vecL (encI .u8) 1 5 y1]) [] (slices_Clone_ok_o hy0) ?_
 refine kC 1 [0,1,4,5] ?_
 refine kEN ?_
 refine kS ?_
 refine kSR ?_
 refine kC 1 [0,1,4,5,10] ?_
 obtain ⟨y3, hy1, h1⟩ := bindS h0
 refine kA 11 (pack_isPool_ok hy1) ?_
 refine kC 1 [0,1,4,5,12] ?_
 refine kEN ?_
 refine kBJ 12 h1 (fun h2 => ?_) (fun h3 => ?_)
 ·refine kT ?_
  refine kSR ?_
  refine kC 3 [0,1,4,5] ?_
  refine kEN ?_
  refine kX ?_
  refine PJ.passRet ?_
  obtain rfl := oi h2
  refine PJ.wk (Wk.freeze 0 (n := y1.length) (k := 1) (e := 5) (cs := y1.flatMap (encI .u8)) (by kernel_rfl)) ?_
  exact kZ hFn hFH hFD
 ·refine kF ?_
  refine kK ?_
  refine PJ.next ?_
  refine kSR ?_
  refine kC 4 [0,1,4,5,14,17] ?_
  obtain ⟨y2, hy2, h4⟩ := bindS h3
  refine kCG (some 18) (args := [.vc 0, .int .u32 (IntKind.wrap .u32 (x1.length : Int)), iL 2]) (v := .vc 1) (H2 := [.gone, vecL (encI .u8) 1 5 y2]) [0] (pack_lay_ok_0o hy2) ?_
  refine kC 1 [0,1,4,5] ?_
  refine kEN ?_
  obtain ⟨s1, hy3, h5⟩ := bindS h4
  refine K.cutN (by kernel_rfl) (fun (s1 : (List Int)) => ([(0, .vc 0), (4, .nl), (5, iL 0)], [vecL (encI .u8) 1 5 s1])) s1 ?_ ?_
  ·refine kSR ?_
   refine kC 3 [0,4,5,19,20,21] ?_
   refine kEN ?_
   refine kb 0 ?_
   refine J.wk (Wk.sel (L2 := [(0, .vc 0), (4, .nl), (5, iL 0), (19, lT x1), (20, iL (x1.length : Int)), (21, iL 0)]) (H2 := [vecL (encI .u8) 1 5 y2]) 0 (by rw [hFH]; rfl) hFD [1] (by kernel_rfl) (by kernel_rfl) (by decide) (by kernel_rfl) (by kernel_rfl) (by kernel_rfl) (by kernel_rfl)) ?_
   refine kl (fun (s0 : Int × (List Int)) => ([(0, .vc 0), (4, .nl), (5, iL 0), (19, lT x1), (20, iL (x1.length : Int)), (21, iL s0.1)], [vecL (encI .u8) 1 5 s0.2])) hy3 [0, 4, 5, 19, 20, 21] (fun s0 x73 hs0 => ?_)
   refine kSR ?_
   refine kC 1 [0,4,5,19,20,21,22] ?_
   refine kEN ?_
   refine kS ?_
   refine kBJ 22 hs0 (fun h6 => ?_) (fun h7 => ?_)
   ·refine kT ?_
    refine kK ?_
    refine PJ.next ?_
    refine kS ?_
    refine kb 1 ?_
    refine kSR ?_
    obtain ⟨hm, h8⟩ := asrt h6
    refine kI 23 encT_len hm ?_
    refine kC 2 [0,4,5,7,19,20,21] ?_
    refine kEN ?_
    refine kSR ?_
    refine kC 4 [0,4,5,7,19,20,21,25,28] ?_
    obtain ⟨y0, hy4, h9⟩ := bindS h8
    refine kCG (some 29) (args := [.vc 0, .int .u32 ((IntKind.wrap .u32 ((nth x1 s0.1).length : Int))), iL 2]) (v := .vc 1) (H2 := [.gone, vecL (encI .u8) 1 5 y0]) [0] (pack_lay_ok_0o hy4) ?_
    refine kC 1 [0,4,5,7,19,20,21] ?_
    refine kEN ?_
    refine kR ?_
    refine kC 2 [0,4,5,19,20,21,30,31] ?_
    obtain ⟨hm, h10⟩ := asrt h9
    refine RJ.rel (d := (some 32)) (ef := ⟨.vc 2, [1], [(1, .gone), (2, .vec (y0.length + (nth x1 s0.1).length) 1 5 (y0.flatMap (encI .u8) ++ (nth x1 s0.1).map byteSV))]⟩) (ef' := ⟨.vc 2, [1], [(1, .gone), (2, vecL (encI .u8) 1 5 (y0 ++ (bytesI (nth x1 s0.1))))]⟩) (c := roomB (y0.length + (nth x1 s0.1).length)) (tr2 := []) (H2 := [.gone, .gone, vecL (encI .u8) 1 5 ((y0 ++ (bytesI (nth x1 s0.1))))]) (by kernel_rfl) (roomB_of_room hm) (fun hc => (by rw [bytes_eq, ← bytesI_len (nth x1 s0.1)]; exact N.app)) (by kernel_rfl) ?_
    refine kC 1 [0,4,5,19,20,21] ?_
    refine kE ?_
    refine PJ.blockNormal ?_
    refine PJ.next ?_
    refine kR ?_
    refine kC 2 [0,4,5,19,20,21] ?_
    refine kE ?_
    obtain rfl := oi h10
    refine kW (L2 := [(0, .vc 0), (4, .nl), (5, iL 0), (19, lT x1), (20, iL (x1.length : Int)), (21, iL (IntKind.wrap .i64 (s0.1 + 1)))]) (H2 := [vecL (encI .u8) 1 5 ((y0 ++ (bytesI (nth x1 s0.1))))]) hFH hFD [2] ?_
    exact kLN [0, 4, 5, 19, 20, 21]
   ·refine kF ?_
    refine K.exit 0 (by kernel_rfl) ?_
    refine PJ.passExit ?_
    obtain rfl := oi h7
    refine PJ.loopOut (fun e => nomatch e) (fun he0 => ?_)
    have h11 := congrArg some he0
    refine PJ.blockOut ?_
    obtain rfl := oi h11
    exact kN [0, 4, 5]
  ·refine kSR ?_
   refine kC 3 [4,5] ?_
   refine kEN ?_
   refine kX ?_
   obtain rfl := oi h5
   refine PJ.wk (Wk.freeze 0 (n := s1.length) (k := 1) (e := 5) (cs := s1.flatMap (encI .u8)) (by kernel_rfl)) ?_
   exact kZ hFn hFH hFD
def bund_writer__words_s0 (x0 : List UInt8) (x1 : Int) (x2 : Int) (x3 : Int) (x4 : Int) (x5 : Int) (x6 : Int) (x7 : Int) (x8 : List UInt8) (x9 : List UInt8) (x10 : List UInt8) (x11 : List UInt8) (x12 : List St57) (x13 : List St59) (x14 : List St61) (x15 : List (List UInt8)) (x16 : List Int) (x17 : Bool) : Option (Bool × (List Int)) :=
 (Option.bind (pack_PutPool ([] : List Int) x15) fun y0 => (Option.bind (bif (decide (¬ y0.2 = 0)) then (some true) else (some x17)) fun (s0 : Bool) => (bif room y0.1.length then (some (s0, y0.1)) else none)))
theorem bund_writer__words_s0_ok {x0 : List UInt8} {x1 : Int} {x2 : Int} {x3 : Int} {x4 : Int} {x5 : Int} {x6 : Int} {x7 : Int} {x8 : List UInt8} {x9 : List UInt8} {x10 : List UInt8} {x11 : List UInt8} {x12 : List St57} {x13 : List St59} {x14 : List St61} {x15 : List (List UInt8)} {x16 : List Int} {x17 : Bool} {r : Bool × (List Int)} (h : bund_writer__words_s0 x0 x1 x2 x3 x4 x5 x6 x7 x8 x9 x10 x11 x12 x13 x14 x15 x16 x17 = some r) : SC Try.prog 25 [.ptr 0 0] [.box (q12 x0 x1 x2 x3 x4 x5 x6 x7 x8 x9 x10 x11 [lsv encSt57 2 x12, lsv encSt59 3 x13, lsv encSt61 3 x14, lT x15, lI x16, .nl, .bool x17])] (.tup []) [.box (q12 x0 x1 x2 x3 x4 x5 x6 x7 x8 x9 x10 x11 [lsv encSt57 2 x12, lsv encSt59 3 x13, lsv encSt61 3 x14, lT x15, lI x16, .vc 1, .bool r.1]), vecL (encI .u8) 1 5 r.2] := by
 refine kFn (fn := Try.f25) (fun F hFn hFH hFD => ?_)
 unfold bund_writer__words_s0 at h
 refine kSR ?_
 refine kC 4 [0,8] ?_
 obtain ⟨y0, hy0, h0⟩ := bindS h
 refine RJ.call0 (d := (some 9)) (f := 44) (args := [.nl, lT x15]) (v := .tup [lB y0.1, iL y0.2]) (tr2 := []) (by kernel_rfl) (by kernel_rfl) (.cons (Le.nl _) (.cons (Le.refl _) .nil)) (pack_PutPool_ok hy0) (by kernel_rfl) ?_
 refine kC 5 [0,2,3] ?_
 refine kEN ?_
 obtain ⟨s0, hy1, h1⟩ := bindS h0
 refine K.cutN (by kernel_rfl) (fun (s0 : Bool) => ([(0, .ptr 0 0), (2, lB y0.1)], [.box (q12 x0 x1 x2 x3 x4 x5 x6 x7 x8 x9 x10 x11 [lsv encSt57 2 x12, lsv encSt59 3 x13, lsv encSt61 3 x14, lT x15, lI x16, .nl, .bool s0])])) s0 ?_ ?_
 ·refine kSR ?_
  refine kC 2 [0,2,13] ?_
  refine kEN ?_
  refine kBJ 13 hy1 (fun h2 => ?_) (fun h3 => ?_)
  ·refine kT ?_
   refine kR ?_
   refine kC 4 [0,2] ?_
   refine kE ?_
   obtain rfl := oi h2
   exact kN [0, 2]
  ·refine kF ?_
   refine kK ?_
   obtain rfl := oi h3
   exact kN [0, 2]
 ·refine kR ?_
  refine kC 6 [17,21,22] ?_
  obtain ⟨hm, h4⟩ := asrt h1
  refine RJ.rel (d := (some 23)) (ef := ⟨.vc 1, [], [(1, .vec y0.1.length 1 5 (y0.1.flatMap (encI .u8)))]⟩) (ef' := ⟨.vc 1, [], [(1, .vec y0.1.length 1 5 (y0.1.flatMap (encI .u8)))]⟩) (c := roomB y0.1.length) (tr2 := []) (H2 := [.box (q12 x0 x1 x2 x3 x4 x5 x6 x7 x8 x9 x10 x11 [lsv encSt57 2 x12, lsv encSt59 3 x13, lsv encSt61 3 x14, lT x15, lI x16, .nl, .bool s0]), vecL (encI .u8) 1 5 y0.1]) (by kernel_rfl) (roomB_of_room hm) (fun hc => rfl) (by kernel_rfl) ?_
  refine kC 3 [] ?_
  refine kE ?_
  obtain rfl := oi h4
  exact K.retV (H0 := [.box (q12 x0 x1 x2 x3 x4 x5 x6 x7 x8 x9 x10 x11 [lsv encSt57 2 x12, lsv encSt59 3 x13, lsv encSt61 3 x14, lT x15, lI x16, .nl, .bool x17])]) [0, 1] (.inl rfl) hFn hFH hFD (by kernel_rfl) (v1 := .tup []) (by kernel_rfl) (by kernel_rfl) (by kernel_rfl) (by decide) (by kernel_rfl) (by kernel_rfl) (by kernel_rfl) (by kernel_rfl) (by kernel_rfl)
def bund_writer__words_s1 (x0 : List UInt8) (x1 : Int) (x2 : Int) (x3 : Int) (x4 : Int) (x5 : Int) (x6 : Int) (x7 : Int) (x8 : List UInt8) (x9 : List UInt8) (x10 : List UInt8) (x11 : List UInt8) (x12 : List St57) (x13 : List St59) (x14 : List St61) (x15 : List (List UInt8)) (x16 : List Int) (x17 : Bool) (x18 : List Int) : Option (Bool × (List Int)) :=
 (Option.bind (pack_PutPool ([] : List Int) x15) fun y0 => (Option.bind (bif (decide (¬ y0.2 = 0)) then (some true) else (some x17)) fun (s0 : Bool) => (bif room (x18.length + y0.1.length) then (some (s0, (x18 ++ y0.1))) else none)))
theorem bund_writer__words_s1_ok {x0 : List UInt8} {x1 : Int} {x2 : Int} {x3 : Int} {x4 : Int} {x5 : Int} {x6 : Int} {x7 : Int} {x8 : List UInt8} {x9 : List UInt8} {x10 : List UInt8} {x11 : List UInt8} {x12 : List St57} {x13 : List St59} {x14 : List St61} {x15 : List (List UInt8)} {x16 : List Int} {x17 : Bool} {x18 : List Int} {r : Bool × (List Int)} (h : bund_writer__words_s1 x0 x1 x2 x3 x4 x5 x6 x7 x8 x9 x10 x11 x12 x13 x14 x15 x16 x17 x18 = some r) : SC Try.prog 25 [.ptr 0 0] [.box (q12 x0 x1 x2 x3 x4 x5 x6 x7 x8 x9 x10 x11 [lsv encSt57 2 x12, lsv encSt59 3 x13, lsv encSt61 3 x14, lT x15, lI x16, .vc 1, .bool x17]), vecL (encI .u8) 1 5 x18] (.tup []) [.box (q12 x0 x1 x2 x3 x4 x5 x6 x7 x8 x9 x10 x11 [lsv encSt57 2 x12, lsv encSt59 3 x13, lsv encSt61 3 x14, lT x15, lI x16, .vc 2, .bool r.1]), .gone, vecL (encI .u8) 1 5 r.2] := by
 refine kFn (fn := Try.f25) (fun F hFn hFH hFD => ?_)
 unfold bund_writer__words_s1 at h
 refine J.wk (Wk.move 1 (n := x18.length) (k := 1) (e := 5) (cs := x18.flatMap (encI .u8)) (by kernel_rfl)) ?_
 refine kSR ?_
 refine kC 4 [0,8] ?_
 obtain ⟨y0, hy0, h0⟩ := bindS h
 refine RJ.call0 (d := (some 9)) (f := 44) (args := [.nl, lT x15]) (v := .tup [lB y0.1, iL y0.2]) (tr2 := []) (by kernel_rfl) (by kernel_rfl) (.cons (Le.nl _) (.cons (Le.refl _) .nil)) (pack_PutPool_ok hy0) (by kernel_rfl) ?_
 refine kC 5 [0,2,3] ?_
 refine kEN ?_
 obtain ⟨s0, hy1, h1⟩ := bindS h0
 refine K.cutN (by kernel_rfl) (fun (s0 : Bool) => ([(0, .ptr 0 0), (2, lB y0.1)], [.box (q12 x0 x1 x2 x3 x4 x5 x6 x7 x8 x9 x10 x11 [lsv encSt57 2 x12, lsv encSt59 3 x13, lsv encSt61 3 x14, lT x15, lI x16, .vc 2, .bool s0]), .gone, vecL (encI .u8) 1 5 x18])) s0 ?_ ?_
 ·refine kSR ?_
  refine kC 2 [0,2,13] ?_
  refine kEN ?_
  refine kBJ 13 hy1 (fun h2 => ?_) (fun h3 => ?_)
  ·refine kT ?_
   refine kR ?_
   refine kC 4 [0,2] ?_
   refine kE ?_
   obtain rfl := oi h2
   exact kN [0, 2]
  ·refine kF ?_
   refine kK ?_
   obtain rfl := oi h3
   exact kN [0, 2]
 ·refine kR ?_
  refine kC 6 [17,21,22] ?_
  obtain ⟨hm, h4⟩ := asrt h1
  refine RJ.rel (d := (some 23)) (ef := ⟨.vc 3, [2], [(2, .gone), (3, .vec (x18.length + y0.1.length) 1 5 (x18.flatMap (encI .u8) ++ y0.1.flatMap (encI .u8)))]⟩) (ef' := ⟨.vc 3, [2], [(2, .gone), (3, vecL (encI .u8) 1 5 (x18 ++ y0.1))]⟩) (c := roomB (x18.length + y0.1.length)) (tr2 := []) (H2 := [.box (q12 x0 x1 x2 x3 x4 x5 x6 x7 x8 x9 x10 x11 [lsv encSt57 2 x12, lsv encSt59 3 x13, lsv encSt61 3 x14, lT x15, lI x16, .vc 2, .bool s0]), .gone, .gone, vecL (encI .u8) 1 5 (x18 ++ y0.1)]) (by kernel_rfl) (roomB_of_room hm) (fun hc => N.app) (by kernel_rfl) ?_
  refine kC 3 [] ?_
  refine kE ?_
  obtain rfl := oi h4
  exact K.retV (H0 := [.box (q12 x0 x1 x2 x3 x4 x5 x6 x7 x8 x9 x10 x11 [lsv encSt57 2 x12, lsv encSt59 3 x13, lsv encSt61 3 x14, lT x15, lI x16, .vc 1, .bool x17]), vecL (encI .u8) 1 5 x18]) [0, 1, 3] (.inl rfl) hFn hFH hFD (by kernel_rfl) (v1 := .tup []) (by kernel_rfl) (by kernel_rfl) (by kernel_rfl) (by decide) (by kernel_rfl) (by kernel_rfl) (by kernel_rfl) (by kernel_rfl) (by kernel_rfl)
def pack_sized (x0 : Int) : Option (Bool) :=
 (Option.bind (bif (decide (x0 = 1)) then (some true) else (bif (decide (x0 = 2)) then (some true) else (some (decide (x0 = 4))))) fun (s0 : Bool) => (some s0))
theorem pack_sized_ok {x0 : Int} {r : Bool} (h : pack_sized x0 = some r) : SC Try.prog 75 [iL x0] [] (.bool r) [] := by
 refine kFn (fn := Try.f75) (fun F hFn hFH hFD => ?_)
 unfold pack_sized at h
 refine kSR ?_
 refine kC 1 [0,2] ?_
 refine kEN ?_
 obtain ⟨s0, hy0, h0⟩ := bindS h
 refine K.cutN (by kernel_rfl) (fun (s0 : Bool) => ([(2, .bool s0)], [])) s0 ?_ ?_
 ·refine kR ?_
  refine kC 3 [0,2,5] ?_
  refine kB 5 hy0 (fun h1 => ?_) (fun h2 => ?_)
  ·refine kC 8 [2] ?_
   refine kE ?_
   obtain rfl := oi h1
   exact kN [2]
  ·refine kC 4 [0,2,9] ?_
   refine kB 9 h2 (fun h3 => ?_) (fun h4 => ?_)
   ·refine kC 4 [2] ?_
    refine kE ?_
    obtain rfl := oi h3
    exact kN [2]
   ·refine kC 4 [2] ?_
    refine kE ?_
    obtain rfl := oi h4
    exact kN [2]
 ·refine kX ?_
  obtain rfl := oi h0
  exact kZ hFn hFH hFD
def pack_Put (x0 : List Int) (x1 : Int) (x2 : Int) : Option ((List Int) × Int) :=
 (Option.bind (slices_Clone x0) fun y0 => (Option.bind (Option.bind (Option.bind (pack_sized x2) fun y2 => (bif (!y2) then (some true) else (bif sh (IntKind.wrap .i64 (8 * x2)) then (some ((decide (¬ ((Int.fdiv (IntKind.wrap .u64 x1) (2 ^ (min ((IntKind.wrap .i64 (8 * x2)) : Int).toNat 64)))) = 0)))) else none))) fun (s0 : Bool) => (bif s0 then (some (.inr (y0, 1))) else (some (.inl ())))) (joinX fun (s1 : Unit) => (Option.bind (pack_lay y0 x1 x2) fun y1 => (some (y1, 0))))))
theorem pack_Put_ok {x0 : List Int} {x1 : Int} {x2 : Int} {r : (List Int) × Int} (h : pack_Put x0 x1 x2 = some r) : SC Try.prog 64 [lB x0, .int .u32 x1, iL x2] [] (.tup [lB r.1, iL r.2]) [] := by
 refine kFn (fn := Try.f64) (fun F hFn hFH hFD => ?_)
 unfold pack_Put at h
 refine kSR ?_
 refine kC 2 [0,1,2,6,7] ?_
 refine kEN ?_
 refine kSR ?_
 refine kC 1 [0,1,2,6,7,8] ?_
 obtain ⟨y0, hy0, h1⟩ := bindS h
 refine kCG (some 9) (args := [lB x0]) (v := .vc 0) (H2 := [vecL (encI .u8) 1 5 y0]) [] (slices_Clone_ok_o hy0) ?_
 refine kC 1 [0,1,2,6,7] ?_
 refine kEN ?_
 obtain ⟨y3, hy1, h0⟩ := bindS h1
 refine K.cutX (by kernel_rfl) (fun (s1 : Unit) => ([(0, .vc 0), (1, .int .u32 x1), (2, iL x2), (6, .nl), (7, iL 0)], [vecL (encI .u8) 1 5 y0])) y3 ?_ (fun s1 hs => ?_)
 ·obtain ⟨s0, hy2, h2⟩ := bindS hy1
  refine K.cutN (by kernel_rfl) (fun (s0 : Bool) => ([(0, .vc 0), (1, .int .u32 x1), (2, iL x2), (6, .nl), (7, iL 0), (20, .bool s0)], [vecL (encI .u8) 1 5 y0])) s0 ?_ ?_
  ·refine kR ?_
   refine kC 1 [0,1,2,6,7,10] ?_
   obtain ⟨y2, hy3, h3⟩ := bindS hy2
   refine kA 11 (pack_sized_ok hy3) ?_
   refine kC 2 [0,1,2,6,7,13] ?_
   refine kB 13 h3 (fun h4 => ?_) (fun h5 => ?_)
   ·refine kC 7 [0,1,2,6,7,20] ?_
    refine kE ?_
    obtain rfl := oi h4
    exact kN [0, 1, 2, 6, 7, 20]
   ·refine kC 4 [0,1,2,6,7,13,15,17] ?_
    obtain ⟨hm, h6⟩ := asrt h5
    refine kQ 18 (.int .u64 (Int.fdiv (IntKind.wrap .u64 x1) (2 ^ (min ((IntKind.wrap .i64 (8 * x2)) : Int).toNat 64)))) [] (tr2 := []) hm ?_
    refine kC 2 [0,1,2,6,7,20] ?_
    refine kE ?_
    obtain rfl := oi h6
    exact kN [0, 1, 2, 6, 7, 20]
  ·refine kBJ 20 h2 (fun h7 => ?_) (fun h8 => ?_)
   ·refine kT ?_
    refine kSR ?_
    refine kC 3 [0,1,2,6,7] ?_
    refine kEN ?_
    refine kX ?_
    obtain rfl := oi h7
    have h9 := joinX_inr h0
    refine PJ.cutXr (fun e => nomatch e) ?_
    obtain rfl := oi h9
    refine PJ.wk (Wk.freeze 0 (n := y0.length) (k := 1) (e := 5) (cs := y0.flatMap (encI .u8)) (by kernel_rfl)) ?_
    exact kZ hFn hFH hFD
   ·refine kF ?_
    refine kK ?_
    obtain rfl := oi h8
    exact kXl [0, 1, 2, 6, 7]
 ·subst hs
  have h10 := joinX_inl h0
  refine kSR ?_
  refine kC 3 [6,7,22,23,24] ?_
  obtain ⟨y1, hy4, h11⟩ := bindS h10
  refine kCG (some 25) (args := [.vc 0, .int .u32 x1, iL x2]) (v := .vc 1) (H2 := [.gone, vecL (encI .u8) 1 5 y1]) [0] (pack_lay_ok_0o hy4) ?_
  refine kC 2 [6,7] ?_
  refine kEN ?_
  refine kX ?_
  obtain rfl := oi h11
  refine PJ.wk (Wk.freeze 1 (n := y1.length) (k := 1) (e := 5) (cs := y1.flatMap (encI .u8)) (by kernel_rfl)) ?_
  exact kZ hFn hFH hFD
def bund_writer__put_s0 (x0 : Int) (x1 : Int) (x2 : List UInt8) (x3 : Int) (x4 : Int) (x5 : Int) (x6 : Int) (x7 : Int) (x8 : Int) (x9 : Int) (x10 : List UInt8) (x11 : List UInt8) (x12 : List UInt8) (x13 : List UInt8) (x14 : List St57) (x15 : List St59) (x16 : List St61) (x17 : List (List UInt8)) (x18 : List Int) (x19 : Bool) (x20 : List Int) : Option (Bool × (List Int)) :=
 (Option.bind (pack_Put ([] : List Int) (IntKind.wrap .u32 x0) x1) fun y0 => (Option.bind (Option.bind (bif (decide (¬ y0.2 = 0)) then (some true) else (some ((decide (¬ x0 = (IntKind.wrap .i64 (IntKind.wrap .u32 x0))))))) fun (s1 : Bool) => (bif s1 then (some true) else (some x19))) fun (s0 : Bool) => (bif room (x20.length + y0.1.length) then (some (s0, (x20 ++ y0.1))) else none)))
theorem bund_writer__put_s0_ok {x0 : Int} {x1 : Int} {x2 : List UInt8} {x3 : Int} {x4 : Int} {x5 : Int} {x6 : Int} {x7 : Int} {x8 : Int} {x9 : Int} {x10 : List UInt8} {x11 : List UInt8} {x12 : List UInt8} {x13 : List UInt8} {x14 : List St57} {x15 : List St59} {x16 : List St61} {x17 : List (List UInt8)} {x18 : List Int} {x19 : Bool} {x20 : List Int} {r : Bool × (List Int)} (h : bund_writer__put_s0 x0 x1 x2 x3 x4 x5 x6 x7 x8 x9 x10 x11 x12 x13 x14 x15 x16 x17 x18 x19 x20 = some r) : SC Try.prog 46 [.ptr 0 0, iL x0, iL x1] [.box (q12 x2 x3 x4 x5 x6 x7 x8 x9 x10 x11 x12 x13 [lsv encSt57 2 x14, lsv encSt59 3 x15, lsv encSt61 3 x16, lT x17, lI x18, .vc 1, .bool x19]), vecL (encI .u8) 1 5 x20] (.tup []) [.box (q12 x2 x3 x4 x5 x6 x7 x8 x9 x10 x11 x12 x13 [lsv encSt57 2 x14, lsv encSt59 3 x15, lsv encSt61 3 x16, lT x17, lI x18, .vc 2, .bool r.1]), .gone, vecL (encI .u8) 1 5 r.2] := by
 refine kFn (fn := Try.f46) (fun F hFn hFH hFD => ?_)
 unfold bund_writer__put_s0 at h
 refine J.wk (Wk.move 1 (n := x20.length) (k := 1) (e := 5) (cs := x20.flatMap (encI .u8)) (by kernel_rfl)) ?_
 refine kSR ?_
 refine kC 3 [0,1,10,11] ?_
 obtain ⟨y0, hy0, h0⟩ := bindS h
 refine RJ.call0 (d := (some 12)) (f := 64) (args := [.nl, .int .u32 (IntKind.wrap .u32 x0), iL x1]) (v := .tup [lB y0.1, iL y0.2]) (tr2 := []) (by kernel_rfl) (by kernel_rfl) (.cons (Le.nl _) (.cons (Le.refl _) (.cons (Le.refl _) .nil))) (pack_Put_ok hy0) (by kernel_rfl) ?_
 refine kC 5 [0,1,6,7] ?_
 refine kEN ?_
 obtain ⟨s0, hy1, h1⟩ := bindS h0
 refine K.cutN (by kernel_rfl) (fun (s0 : Bool) => ([(0, .ptr 0 0), (6, lB y0.1)], [.box (q12 x2 x3 x4 x5 x6 x7 x8 x9 x10 x11 x12 x13 [lsv encSt57 2 x14, lsv encSt59 3 x15, lsv encSt61 3 x16, lT x17, lI x18, .vc 2, .bool s0]), .gone, vecL (encI .u8) 1 5 x20])) s0 ?_ ?_
 ·obtain ⟨s1, hy2, h2⟩ := bindS hy1
  refine K.cutN (by kernel_rfl) (fun (s1 : Bool) => ([(0, .ptr 0 0), (6, lB y0.1), (23, .bool s1)], [.box (q12 x2 x3 x4 x5 x6 x7 x8 x9 x10 x11 x12 x13 [lsv encSt57 2 x14, lsv encSt59 3 x15, lsv encSt61 3 x16, lT x17, lI x18, .vc 2, .bool x19]), .gone, vecL (encI .u8) 1 5 x20])) s1 ?_ ?_
  ·refine kR ?_
   refine kC 3 [0,1,6,17] ?_
   refine kB 17 hy2 (fun h3 => ?_) (fun h4 => ?_)
   ·refine kC 6 [0,6,23] ?_
    refine kE ?_
    obtain rfl := oi h3
    exact kN [0, 6, 23]
   ·refine kC 6 [0,6,23] ?_
    refine kE ?_
    obtain rfl := oi h4
    exact kN [0, 6, 23]
  ·refine kBJ 23 h2 (fun h5 => ?_) (fun h6 => ?_)
   ·refine kT ?_
    refine kR ?_
    refine kC 4 [0,6] ?_
    refine kE ?_
    obtain rfl := oi h5
    exact kN [0, 6]
   ·refine kF ?_
    refine kK ?_
    obtain rfl := oi h6
    exact kN [0, 6]
 ·refine kR ?_
  refine kC 6 [27,31,32] ?_
  obtain ⟨hm, h7⟩ := asrt h1
  refine RJ.rel (d := (some 33)) (ef := ⟨.vc 3, [2], [(2, .gone), (3, .vec (x20.length + y0.1.length) 1 5 (x20.flatMap (encI .u8) ++ y0.1.flatMap (encI .u8)))]⟩) (ef' := ⟨.vc 3, [2], [(2, .gone), (3, vecL (encI .u8) 1 5 (x20 ++ y0.1))]⟩) (c := roomB (x20.length + y0.1.length)) (tr2 := []) (H2 := [.box (q12 x2 x3 x4 x5 x6 x7 x8 x9 x10 x11 x12 x13 [lsv encSt57 2 x14, lsv encSt59 3 x15, lsv encSt61 3 x16, lT x17, lI x18, .vc 2, .bool s0]), .gone, .gone, vecL (encI .u8) 1 5 (x20 ++ y0.1)]) (by kernel_rfl) (roomB_of_room hm) (fun hc => N.app) (by kernel_rfl) ?_
  refine kC 3 [] ?_
  refine kE ?_
  obtain rfl := oi h7
  exact K.retV (H0 := [.box (q12 x2 x3 x4 x5 x6 x7 x8 x9 x10 x11 x12 x13 [lsv encSt57 2 x14, lsv encSt59 3 x15, lsv encSt61 3 x16, lT x17, lI x18, .vc 1, .bool x19]), vecL (encI .u8) 1 5 x20]) [0, 1, 3] (.inl rfl) hFn hFH hFD (by kernel_rfl) (v1 := .tup []) (by kernel_rfl) (by kernel_rfl) (by kernel_rfl) (by decide) (by kernel_rfl) (by kernel_rfl) (by kernel_rfl) (by kernel_rfl) (by kernel_rfl)
def bund_writer__text_s0 (x0 : List UInt8) (x1 : Int) (x2 : Int) (x3 : Int) (x4 : Int) (x5 : Int) (x6 : Int) (x7 : Int) (x8 : List UInt8) (x9 : List UInt8) (x10 : List UInt8) (x11 : List UInt8) (x12 : List St57) (x13 : List St59) (x14 : List St61) (x15 : List (List UInt8)) (x16 : List Int) (x17 : Bool) (x18 : List Int) : Option (Bool × (List Int)) :=
 (bif inR 0 x16.length then (Option.bind (bund_writer__put_s0 (nth x16 0) 2 x0 x1 x2 x3 x4 x5 x6 x7 x8 x9 x10 x11 x12 x13 x14 x15 x16 x17 x18) fun y0 => (bif inS 1 (x16.length : Int) x16.length then (some (y0.1, y0.2)) else none)) else none)
theorem bund_writer__text_s0_ok {x0 : List UInt8} {x1 : Int} {x2 : Int} {x3 : Int} {x4 : Int} {x5 : Int} {x6 : Int} {x7 : Int} {x8 : List UInt8} {x9 : List UInt8} {x10 : List UInt8} {x11 : List UInt8} {x12 : List St57} {x13 : List St59} {x14 : List St61} {x15 : List (List UInt8)} {x16 : List Int} {x17 : Bool} {x18 : List Int} {r : Bool × (List Int)} (h : bund_writer__text_s0 x0 x1 x2 x3 x4 x5 x6 x7 x8 x9 x10 x11 x12 x13 x14 x15 x16 x17 x18 = some r) : SC Try.prog 45 [.ptr 0 0] [.box (q12 x0 x1 x2 x3 x4 x5 x6 x7 x8 x9 x10 x11 [lsv encSt57 2 x12, lsv encSt59 3 x13, lsv encSt61 3 x14, lT x15, lI x16, .vc 1, .bool x17]), vecL (encI .u8) 1 5 x18] (.tup []) [.box (q12 x0 x1 x2 x3 x4 x5 x6 x7 x8 x9 x10 x11 [lsv encSt57 2 x12, lsv encSt59 3 x13, lsv encSt61 3 x14, lT x15, lI (cut x16 1 (x16.length : Int)), .vc 2, .bool r.1]), .gone, vecL (encI .u8) 1 5 r.2] := by
 refine kFn (fn := Try.f45) (fun F hFn hFH hFD => ?_)
 unfold bund_writer__text_s0 at h
 refine J.wk (Wk.move 1 (n := x18.length) (k := 1) (e := 5) (cs := x18.flatMap (encI .u8)) (by kernel_rfl)) ?_
 refine kSR ?_
 refine kC 5 [0,2,6] ?_
 obtain ⟨hm, h0⟩ := asrt h
 refine kI 7 (encI_len .i64) hm ?_
 refine kC 1 [0,2,8] ?_
 obtain ⟨y0, hy0, h1⟩ := bindS h0
 refine kCG (some 9) (args := [.ptr 0 0, iL (nth x16 0), iL 2]) (v := .tup []) (H2 := [.box (q12 x0 x1 x2 x3 x4 x5 x6 x7 x8 x9 x10 x11 [lsv encSt57 2 x12, lsv encSt59 3 x13, lsv encSt61 3 x14, lT x15, lI x16, .vc 3, .bool y0.1]), .gone, .gone, vecL (encI .u8) 1 5 y0.2]) [0, 2] (bund_writer__put_s0_ok hy0) ?_
 refine kEN ?_
 refine kR ?_
 refine kC 5 [10,14] ?_
 obtain ⟨hm, h2⟩ := asrt h1
 refine RJ.rel (d := (some 15)) (ef := ⟨.lst (((x16.length : Int) : Int).toNat - (1 : Int).toNat) 1 (((x16.flatMap (encI .i64)).take (((x16.length : Int) : Int).toNat * 1)).drop ((1 : Int).toNat * 1)), [], []⟩) (ef' := ⟨.lst (cut x16 1 (x16.length : Int)).length 1 ((cut x16 1 (x16.length : Int)).flatMap (encI .i64)), [], []⟩) (c := inS 1 (x16.length : Int) x16.length) (tr2 := []) (H2 := [.box (q12 x0 x1 x2 x3 x4 x5 x6 x7 x8 x9 x10 x11 [lsv encSt57 2 x12, lsv encSt59 3 x13, lsv encSt61 3 x14, lT x15, lI x16, .vc 3, .bool y0.1]), .gone, .gone, vecL (encI .u8) 1 5 y0.2]) (by kernel_rfl) hm (fun hc => N.slice (encI_len .i64) hc) (by kernel_rfl) ?_
 refine kC 3 [] ?_
 refine kE ?_
 obtain rfl := oi h2
 exact K.retV (H0 := [.box (q12 x0 x1 x2 x3 x4 x5 x6 x7 x8 x9 x10 x11 [lsv encSt57 2 x12, lsv encSt59 3 x13, lsv encSt61 3 x14, lT x15, lI x16, .vc 1, .bool x17]), vecL (encI .u8) 1 5 x18]) [0, 1, 3] (.inl rfl) hFn hFH hFD (by kernel_rfl) (v1 := .tup []) (by kernel_rfl) (by kernel_rfl) (by kernel_rfl) (by decide) (by kernel_rfl) (by kernel_rfl) (by kernel_rfl) (by kernel_rfl) (by kernel_rfl)
def bund_writer__names_s0 (x0 : List UInt8) (x1 : Int) (x2 : Int) (x3 : Int) (x4 : Int) (x5 : Int) (x6 : Int) (x7 : Int) (x8 : List UInt8) (x9 : List UInt8) (x10 : List UInt8) (x11 : List UInt8) (x12 : List St57) (x13 : List St59) (x14 : List St61) (x15 : List (List UInt8)) (x16 : List Int) (x17 : Bool) (x18 : List Int) : Option (Bool × (List Int)) :=
 (Option.bind (bund_writer__text_s0 x0 x1 x2 x3 x4 x5 x6 x7 x8 x9 x10 x11 x12 x13 x14 x15 x16 x17 x18) fun y0 => (loopN (fun (s0 : Int × Bool × (List Int)) => (bif (decide (s0.1 < 7)) then (bif (decide (s0.1 = 0)) then (Option.bind (bund_writer__put_s0 (IntKind.wrap .i64 x1) 4 x0 x1 x2 x3 x4 x5 x6 x7 x8 x9 x10 x11 x12 x13 x14 x15 (cut x16 1 (x16.length : Int)) s0.2.1 s0.2.2) fun y1 => (some (.inl ((IntKind.wrap .i64 (0 + 1)), y1.1, y1.2)))) else (bif (decide (s0.1 = 1)) then (Option.bind (bund_writer__put_s0 (IntKind.wrap .i64 x2) 4 x0 x1 x2 x3 x4 x5 x6 x7 x8 x9 x10 x11 x12 x13 x14 x15 (cut x16 1 (x16.length : Int)) s0.2.1 s0.2.2) fun y2 => (some (.inl ((IntKind.wrap .i64 (1 + 1)), y2.1, y2.2)))) else (bif (decide (s0.1 = 2)) then (Option.bind (bund_writer__put_s0 (IntKind.wrap .i64 x3) 4 x0 x1 x2 x3 x4 x5 x6 x7 x8 x9 x10 x11 x12 x13 x14 x15 (cut x16 1 (x16.length : Int)) s0.2.1 s0.2.2) fun y3 => (some (.inl ((IntKind.wrap .i64 (2 + 1)), y3.1, y3.2)))) else (bif (decide (s0.1 = 3)) then (Option.bind (bund_writer__put_s0 (IntKind.wrap .i64 x4) 4 x0 x1 x2 x3 x4 x5 x6 x7 x8 x9 x10 x11 x12 x13 x14 x15 (cut x16 1 (x16.length : Int)) s0.2.1 s0.2.2) fun y4 => (some (.inl ((IntKind.wrap .i64 (3 + 1)), y4.1, y4.2)))) else (bif (decide (s0.1 = 4)) then (Option.bind (bund_writer__put_s0 (IntKind.wrap .i64 x5) 4 x0 x1 x2 x3 x4 x5 x6 x7 x8 x9 x10 x11 x12 x13 x14 x15 (cut x16 1 (x16.length : Int)) s0.2.1 s0.2.2) fun y5 => (some (.inl ((IntKind.wrap .i64 (4 + 1)), y5.1, y5.2)))) else (bif (decide (s0.1 = 5)) then (Option.bind (bund_writer__put_s0 (IntKind.wrap .i64 x6) 4 x0 x1 x2 x3 x4 x5 x6 x7 x8 x9 x10 x11 x12 x13 x14 x15 (cut x16 1 (x16.length : Int)) s0.2.1 s0.2.2) fun y6 => (some (.inl ((IntKind.wrap .i64 (5 + 1)), y6.1, y6.2)))) else (bif (decide (s0.1 = 6)) then (Option.bind (bund_writer__put_s0 (IntKind.wrap .i64 x7) 4 x0 x1 x2 x3 x4 x5 x6 x7 x8 x9 x10 x11 x12 x13 x14 x15 (cut x16 1 (x16.length : Int)) s0.2.1 s0.2.2) fun y7 => (some (.inl ((IntKind.wrap .i64 (6 + 1)), y7.1, y7.2)))) else none))))))) else (some (.inr (s0.2.1, s0.2.2))))) big (0, y0.1, y0.2)))
theorem bund_writer__names_s0_ok {x0 : List UInt8} {x1 : Int} {x2 : Int} {x3 : Int} {x4 : Int} {x5 : Int} {x6 : Int} {x7 : Int} {x8 : List UInt8} {x9 : List UInt8} {x10 : List UInt8} {x11 : List UInt8} {x12 : List St57} {x13 : List St59} {x14 : List St61} {x15 : List (List UInt8)} {x16 : List Int} {x17 : Bool} {x18 : List Int} {r : Bool × (List Int)} (h : bund_writer__names_s0 x0 x1 x2 x3 x4 x5 x6 x7 x8 x9 x10 x11 x12 x13 x14 x15 x16 x17 x18 = some r) : SC Try.prog 26 [.ptr 0 0] [.box (q12 x0 x1 x2 x3 x4 x5 x6 x7 x8 x9 x10 x11 [lsv encSt57 2 x12, lsv encSt59 3 x13, lsv encSt61 3 x14, lT x15, lI x16, .vc 1, .bool x17]), vecL (encI .u8) 1 5 x18] (.tup []) [.box (q12 x0 x1 x2 x3 x4 x5 x6 x7 x8 x9 x10 x11 [lsv encSt57 2 x12, lsv encSt59 3 x13, lsv encSt61 3 x14, lT x15, lI (cut x16 1 (x16.length : Int)), .vc 2, .bool r.1]), .gone, vecL (encI .u8) 1 5 r.2] := by
 refine kFn (fn := Try.f26) (fun F hFn hFH hFD => ?_)
 unfold bund_writer__names_s0 at h
 refine J.wk (Wk.move 1 (n := x18.length) (k := 1) (e := 5) (cs := x18.flatMap (encI .u8)) (by kernel_rfl)) ?_
 refine kSR ?_
 refine kC 1 [0,4] ?_
 obtain ⟨y0, hy0, h7⟩ := bindS h
 refine kCG (some 5) (args := [.ptr 0 0]) (v := .tup []) (H2 := [.box (q12 x0 x1 x2 x3 x4 x5 x6 x7 x8 x9 x10 x11 [lsv encSt57 2 x12, lsv encSt59 3 x13, lsv encSt61 3 x14, lT x15, lI (cut x16 1 (x16.length : Int)), .vc 3, .bool y0.1]), .gone, .gone, vecL (encI .u8) 1 5 y0.2]) [0, 2] (bund_writer__text_s0_ok hy0) ?_
 refine kEN ?_
 refine kS ?_
 refine J.keep [0] (L2 := [(0, .ptr 0 0)]) (by kernel_rfl) ?_
 refine K.draw (by kernel_rfl) (by kernel_rfl) (by kernel_rfl) (H2 := [.box (q12 x0 x1 x2 x3 x4 x5 x6 x7 x8 x9 x10 x11 [lsv encSt57 2 x12, lsv encSt59 3 x13, lsv encSt61 3 x14, lT x15, lI (cut x16 1 (x16.length : Int)), .vc 3, .bool y0.1]), .gone, .gone, vecL (encI .u8) 1 5 y0.2]) (by kernel_rfl) (n := 4) (by kernel_rfl) ?_
 refine kD 44 ?_
 refine kEN ?_
 refine kb 0 ?_
 refine J.wk (Wk.sel (L2 := [(0, .ptr 0 0), (48, .agg [iM x1, iM x2, iM x3, iM x4, iM x5, iM x6, iM x7]), (49, iL 0)]) (H2 := [.box (q12 x0 x1 x2 x3 x4 x5 x6 x7 x8 x9 x10 x11 [lsv encSt57 2 x12, lsv encSt59 3 x13, lsv encSt61 3 x14, lT x15, lI (cut x16 1 (x16.length : Int)), .vc 2, .bool y0.1]), .gone, vecL (encI .u8) 1 5 y0.2]) 2 (by rw [hFH]; rfl) hFD [0, 1, 3] (by kernel_rfl) (by kernel_rfl) (by decide) (by kernel_rfl) (by kernel_rfl) (by kernel_rfl) (by kernel_rfl)) ?_
 refine kl (fun (s0 : Int × Bool × (List Int)) => ([(0, .ptr 0 0), (48, .agg [iM x1, iM x2, iM x3, iM x4, iM x5, iM x6, iM x7]), (49, iL s0.1)], [.box (q12 x0 x1 x2 x3 x4 x5 x6 x7 x8 x9 x10 x11 [lsv encSt57 2 x12, lsv encSt59 3 x13, lsv encSt61 3 x14, lT x15, lI (cut x16 1 (x16.length : Int)), .vc 2, .bool s0.2.1]), .gone, vecL (encI .u8) 1 5 s0.2.2])) h7 [0, 48, 49] (fun s0 x61 hs0 => ?_)
 refine kSR ?_
 refine kC 1 [0,48,49,50] ?_
 refine kEN ?_
 refine kS ?_
 refine kBJ 50 hs0 (fun h0 => ?_) (fun h8 => ?_)
 ·refine kT ?_
  refine kK ?_
  refine PJ.next ?_
  refine kS ?_
  refine kb 1 ?_
  refine kSR ?_
  cases hb0 : (decide (s0.1 = 0))
  ·have h1 := condF hb0 h0
   cases hb1 : (decide (s0.1 = 1))
   ·have h2 := condF hb1 h1
    cases hb2 : (decide (s0.1 = 2))
    ·have h3 := condF hb2 h2
     cases hb3 : (decide (s0.1 = 3))
     ·have h4 := condF hb3 h3
      cases hb4 : (decide (s0.1 = 4))
      ·have h5 := condF hb4 h4
       cases hb5 : (decide (s0.1 = 5))
       ·have h6 := condF hb5 h5
        cases hb6 : (decide (s0.1 = 6))
        ·have h9 := condF hb6 h6
         cases h9
        ·have h10 := condT hb6 h6
         refine RJ.pin 49 (kd := .i64) (by kernel_rfl) (of_decide_eq_true hb6) ?_
         refine kC 2 [0,3,48,49] ?_
         refine kEN ?_
         refine kR ?_
         refine kC 3 [0,48,49,52,54] ?_
         obtain ⟨y7, hy1, h11⟩ := bindS h10
         refine kCG (some 55) (args := [.ptr 0 0, iL (IntKind.wrap .i64 x7), iL 4]) (v := .tup []) (H2 := [.box (q12 x0 x1 x2 x3 x4 x5 x6 x7 x8 x9 x10 x11 [lsv encSt57 2 x12, lsv encSt59 3 x13, lsv encSt61 3 x14, lT x15, lI (cut x16 1 (x16.length : Int)), .vc 3, .bool y7.1]), .gone, .gone, vecL (encI .u8) 1 5 y7.2]) [0, 2] (bund_writer__put_s0_ok hy1) ?_
         refine kE ?_
         refine PJ.blockNormal ?_
         refine PJ.next ?_
         refine kR ?_
         refine kC 2 [0,48,49] ?_
         refine kE ?_
         obtain rfl := oi h11
         refine kW (L2 := [(0, .ptr 0 0), (48, .agg [iM x1, iM x2, iM x3, iM x4, iM x5, iM x6, iM x7]), (49, iL (IntKind.wrap .i64 (6 + 1)))]) (H2 := [.box (q12 x0 x1 x2 x3 x4 x5 x6 x7 x8 x9 x10 x11 [lsv encSt57 2 x12, lsv encSt59 3 x13, lsv encSt61 3 x14, lT x15, lI (cut x16 1 (x16.length : Int)), .vc 2, .bool y7.1]), .gone, vecL (encI .u8) 1 5 y7.2]) hFH hFD [0, 1, 3] ?_
         exact kLN [0, 48, 49]
       ·have h12 := condT hb5 h5
        refine RJ.pin 49 (kd := .i64) (by kernel_rfl) (of_decide_eq_true hb5) ?_
        refine kC 2 [0,3,48,49] ?_
        refine kEN ?_
        refine kR ?_
        refine kC 3 [0,48,49,52,54] ?_
        obtain ⟨y6, hy2, h13⟩ := bindS h12
        refine kCG (some 55) (args := [.ptr 0 0, iL (IntKind.wrap .i64 x6), iL 4]) (v := .tup []) (H2 := [.box (q12 x0 x1 x2 x3 x4 x5 x6 x7 x8 x9 x10 x11 [lsv encSt57 2 x12, lsv encSt59 3 x13, lsv encSt61 3 x14, lT x15, lI (cut x16 1 (x16.length : Int)), .vc 3, .bool y6.1]), .gone, .gone, vecL (encI .u8) 1 5 y6.2]) [0, 2] (bund_writer__put_s0_ok hy2) ?_
        refine kE ?_
        refine PJ.blockNormal ?_
        refine PJ.next ?_
        refine kR ?_
        refine kC 2 [0,48,49] ?_
        refine kE ?_
        obtain rfl := oi h13
        refine kW (L2 := [(0, .ptr 0 0), (48, .agg [iM x1, iM x2, iM x3, iM x4, iM x5, iM x6, iM x7]), (49, iL (IntKind.wrap .i64 (5 + 1)))]) (H2 := [.box (q12 x0 x1 x2 x3 x4 x5 x6 x7 x8 x9 x10 x11 [lsv encSt57 2 x12, lsv encSt59 3 x13, lsv encSt61 3 x14, lT x15, lI (cut x16 1 (x16.length : Int)), .vc 2, .bool y6.1]), .gone, vecL (encI .u8) 1 5 y6.2]) hFH hFD [0, 1, 3] ?_
        exact kLN [0, 48, 49]
      ·have h14 := condT hb4 h4
       refine RJ.pin 49 (kd := .i64) (by kernel_rfl) (of_decide_eq_true hb4) ?_
       refine kC 2 [0,3,48,49] ?_
       refine kEN ?_
       refine kR ?_
       refine kC 3 [0,48,49,52,54] ?_
       obtain ⟨y5, hy3, h15⟩ := bindS h14
       refine kCG (some 55) (args := [.ptr 0 0, iL (IntKind.wrap .i64 x5), iL 4]) (v := .tup []) (H2 := [.box (q12 x0 x1 x2 x3 x4 x5 x6 x7 x8 x9 x10 x11 [lsv encSt57 2 x12, lsv encSt59 3 x13, lsv encSt61 3 x14, lT x15, lI (cut x16 1 (x16.length : Int)), .vc 3, .bool y5.1]), .gone, .gone, vecL (encI .u8) 1 5 y5.2]) [0, 2] (bund_writer__put_s0_ok hy3) ?_
       refine kE ?_
       refine PJ.blockNormal ?_
       refine PJ.next ?_
       refine kR ?_
       refine kC 2 [0,48,49] ?_
       refine kE ?_
       obtain rfl := oi h15
       refine kW (L2 := [(0, .ptr 0 0), (48, .agg [iM x1, iM x2, iM x3, iM x4, iM x5, iM x6, iM x7]), (49, iL (IntKind.wrap .i64 (4 + 1)))]) (H2 := [.box (q12 x0 x1 x2 x3 x4 x5 x6 x7 x8 x9 x10 x11 [lsv encSt57 2 x12, lsv encSt59 3 x13, lsv encSt61 3 x14, lT x15, lI (cut x16 1 (x16.length : Int)), .vc 2, .bool y5.1]), .gone, vecL (encI .u8) 1 5 y5.2]) hFH hFD [0, 1, 3] ?_
       exact kLN [0, 48, 49]
     ·have h16 := condT hb3 h3
      refine RJ.pin 49 (kd := .i64) (by kernel_rfl) (of_decide_eq_true hb3) ?_
      refine kC 2 [0,3,48,49] ?_
      refine kEN ?_
      refine kR ?_
      refine kC 3 [0,48,49,52,54] ?_
      obtain ⟨y4, hy4, h17⟩ := bindS h16
      refine kCG (some 55) (args := [.ptr 0 0, iL (IntKind.wrap .i64 x4), iL 4]) (v := .tup []) (H2 := [.box (q12 x0 x1 x2 x3 x4 x5 x6 x7 x8 x9 x10 x11 [lsv encSt57 2 x12, lsv encSt59 3 x13, lsv encSt61 3 x14, lT x15, lI (cut x16 1 (x16.length : Int)), .vc 3, .bool y4.1]), .gone, .gone, vecL (encI .u8) 1 5 y4.2]) [0, 2] (bund_writer__put_s0_ok hy4) ?_
      refine kE ?_
      refine PJ.blockNormal ?_
      refine PJ.next ?_
      refine kR ?_
      refine kC 2 [0,48,49] ?_
      refine kE ?_
      obtain rfl := oi h17
      refine kW (L2 := [(0, .ptr 0 0), (48, .agg [iM x1, iM x2, iM x3, iM x4, iM x5, iM x6, iM x7]), (49, iL (IntKind.wrap .i64 (3 + 1)))]) (H2 := [.box (q12 x0 x1 x2 x3 x4 x5 x6 x7 x8 x9 x10 x11 [lsv encSt57 2 x12, lsv encSt59 3 x13, lsv encSt61 3 x14, lT x15, lI (cut x16 1 (x16.length : Int)), .vc 2, .bool y4.1]), .gone, vecL (encI .u8) 1 5 y4.2]) hFH hFD [0, 1, 3] ?_
      exact kLN [0, 48, 49]
    ·have h18 := condT hb2 h2
     refine RJ.pin 49 (kd := .i64) (by kernel_rfl) (of_decide_eq_true hb2) ?_
     refine kC 2 [0,3,48,49] ?_
     refine kEN ?_
     refine kR ?_
     refine kC 3 [0,48,49,52,54] ?_
     obtain ⟨y3, hy5, h19⟩ := bindS h18
     refine kCG (some 55) (args := [.ptr 0 0, iL (IntKind.wrap .i64 x3), iL 4]) (v := .tup []) (H2 := [.box (q12 x0 x1 x2 x3 x4 x5 x6 x7 x8 x9 x10 x11 [lsv encSt57 2 x12, lsv encSt59 3 x13, lsv encSt61 3 x14, lT x15, lI (cut x16 1 (x16.length : Int)), .vc 3, .bool y3.1]), .gone, .gone, vecL (encI .u8) 1 5 y3.2]) [0, 2] (bund_writer__put_s0_ok hy5) ?_
     refine kE ?_
     refine PJ.blockNormal ?_
     refine PJ.next ?_
     refine kR ?_
     refine kC 2 [0,48,49] ?_
     refine kE ?_
     obtain rfl := oi h19
     refine kW (L2 := [(0, .ptr 0 0), (48, .agg [iM x1, iM x2, iM x3, iM x4, iM x5, iM x6, iM x7]), (49, iL (IntKind.wrap .i64 (2 + 1)))]) (H2 := [.box (q12 x0 x1 x2 x3 x4 x5 x6 x7 x8 x9 x10 x11 [lsv encSt57 2 x12, lsv encSt59 3 x13, lsv encSt61 3 x14, lT x15, lI (cut x16 1 (x16.length : Int)), .vc 2, .bool y3.1]), .gone, vecL (encI .u8) 1 5 y3.2]) hFH hFD [0, 1, 3] ?_
     exact kLN [0, 48, 49]
   ·have h20 := condT hb1 h1
    refine RJ.pin 49 (kd := .i64) (by kernel_rfl) (of_decide_eq_true hb1) ?_
    refine kC 2 [0,3,48,49] ?_
    refine kEN ?_
    refine kR ?_
    refine kC 3 [0,48,49,52,54] ?_
    obtain ⟨y2, hy6, h21⟩ := bindS h20
    refine kCG (some 55) (args := [.ptr 0 0, iL (IntKind.wrap .i64 x2), iL 4]) (v := .tup []) (H2 := [.box (q12 x0 x1 x2 x3 x4 x5 x6 x7 x8 x9 x10 x11 [lsv encSt57 2 x12, lsv encSt59 3 x13, lsv encSt61 3 x14, lT x15, lI (cut x16 1 (x16.length : Int)), .vc 3, .bool y2.1]), .gone, .gone, vecL (encI .u8) 1 5 y2.2]) [0, 2] (bund_writer__put_s0_ok hy6) ?_
    refine kE ?_
    refine PJ.blockNormal ?_
    refine PJ.next ?_
    refine kR ?_
    refine kC 2 [0,48,49] ?_
    refine kE ?_
    obtain rfl := oi h21
    refine kW (L2 := [(0, .ptr 0 0), (48, .agg [iM x1, iM x2, iM x3, iM x4, iM x5, iM x6, iM x7]), (49, iL (IntKind.wrap .i64 (1 + 1)))]) (H2 := [.box (q12 x0 x1 x2 x3 x4 x5 x6 x7 x8 x9 x10 x11 [lsv encSt57 2 x12, lsv encSt59 3 x13, lsv encSt61 3 x14, lT x15, lI (cut x16 1 (x16.length : Int)), .vc 2, .bool y2.1]), .gone, vecL (encI .u8) 1 5 y2.2]) hFH hFD [0, 1, 3] ?_
    exact kLN [0, 48, 49]
  ·have h22 := condT hb0 h0
   refine RJ.pin 49 (kd := .i64) (by kernel_rfl) (of_decide_eq_true hb0) ?_
   refine kC 2 [0,3,48,49] ?_
   refine kEN ?_
   refine kR ?_
   refine kC 3 [0,48,49,52,54] ?_
   obtain ⟨y1, hy7, h23⟩ := bindS h22
   refine kCG (some 55) (args := [.ptr 0 0, iL (IntKind.wrap .i64 x1), iL 4]) (v := .tup []) (H2 := [.box (q12 x0 x1 x2 x3 x4 x5 x6 x7 x8 x9 x10 x11 [lsv encSt57 2 x12, lsv encSt59 3 x13, lsv encSt61 3 x14, lT x15, lI (cut x16 1 (x16.length : Int)), .vc 3, .bool y1.1]), .gone, .gone, vecL (encI .u8) 1 5 y1.2]) [0, 2] (bund_writer__put_s0_ok hy7) ?_
   refine kE ?_
   refine PJ.blockNormal ?_
   refine PJ.next ?_
   refine kR ?_
   refine kC 2 [0,48,49] ?_
   refine kE ?_
   obtain rfl := oi h23
   refine kW (L2 := [(0, .ptr 0 0), (48, .agg [iM x1, iM x2, iM x3, iM x4, iM x5, iM x6, iM x7]), (49, iL (IntKind.wrap .i64 (0 + 1)))]) (H2 := [.box (q12 x0 x1 x2 x3 x4 x5 x6 x7 x8 x9 x10 x11 [lsv encSt57 2 x12, lsv encSt59 3 x13, lsv encSt61 3 x14, lT x15, lI (cut x16 1 (x16.length : Int)), .vc 2, .bool y1.1]), .gone, vecL (encI .u8) 1 5 y1.2]) hFH hFD [0, 1, 3] ?_
   exact kLN [0, 48, 49]
 ·refine kF ?_
  refine K.exit 0 (by kernel_rfl) ?_
  refine PJ.passExit ?_
  obtain rfl := oi h8
  refine PJ.loopOut (fun e => nomatch e) (fun he0 => ?_)
  have h24 := congrArg some he0
  refine PJ.blockOut ?_
  obtain rfl := oi h24
  exact K.retV (H0 := [.box (q12 x0 x1 x2 x3 x4 x5 x6 x7 x8 x9 x10 x11 [lsv encSt57 2 x12, lsv encSt59 3 x13, lsv encSt61 3 x14, lT x15, lI x16, .vc 1, .bool x17]), vecL (encI .u8) 1 5 x18]) [0, 1, 2] (.inl rfl) hFn hFH hFD (by kernel_rfl) (v1 := .tup []) (by kernel_rfl) (by kernel_rfl) (by kernel_rfl) (by decide) (by kernel_rfl) (by kernel_rfl) (by kernel_rfl) (by kernel_rfl) (by kernel_rfl)
def bund_writer__patterns_s0 (x0 : List UInt8) (x1 : Int) (x2 : Int) (x3 : Int) (x4 : Int) (x5 : Int) (x6 : Int) (x7 : Int) (x8 : List UInt8) (x9 : List UInt8) (x10 : List UInt8) (x11 : List UInt8) (x12 : List St57) (x13 : List St59) (x14 : List St61) (x15 : List (List UInt8)) (x16 : List Int) (x17 : Bool) (x18 : List Int) : Option ((List Int) × Bool × (List Int)) :=
 (loopN (fun (s0 : Int × (List Int) × Bool × (List Int)) => (bif (decide (s0.1 < 4)) then (Option.bind (bund_writer__text_s0 x0 x1 x2 x3 x4 x5 x6 x7 x8 x9 x10 x11 x12 x13 x14 x15 s0.2.1 s0.2.2.1 s0.2.2.2) fun y0 => (some (.inl ((IntKind.wrap .i64 (s0.1 + 1)), (cut s0.2.1 1 (s0.2.1.length : Int)), y0.1, y0.2)))) else (some (.inr (s0.2.1, s0.2.2.1, s0.2.2.2))))) big (0, x16, x17, x18))
theorem bund_writer__patterns_s0_ok {x0 : List UInt8} {x1 : Int} {x2 : Int} {x3 : Int} {x4 : Int} {x5 : Int} {x6 : Int} {x7 : Int} {x8 : List UInt8} {x9 : List UInt8} {x10 : List UInt8} {x11 : List UInt8} {x12 : List St57} {x13 : List St59} {x14 : List St61} {x15 : List (List UInt8)} {x16 : List Int} {x17 : Bool} {x18 : List Int} {r : (List Int) × Bool × (List Int)} (h : bund_writer__patterns_s0 x0 x1 x2 x3 x4 x5 x6 x7 x8 x9 x10 x11 x12 x13 x14 x15 x16 x17 x18 = some r) : SC Try.prog 27 [.ptr 0 0] [.box (q12 x0 x1 x2 x3 x4 x5 x6 x7 x8 x9 x10 x11 [lsv encSt57 2 x12, lsv encSt59 3 x13, lsv encSt61 3 x14, lT x15, lI x16, .vc 1, .bool x17]), vecL (encI .u8) 1 5 x18] (.tup []) [.box (q12 x0 x1 x2 x3 x4 x5 x6 x7 x8 x9 x10 x11 [lsv encSt57 2 x12, lsv encSt59 3 x13, lsv encSt61 3 x14, lT x15, lI r.1, .vc 2, .bool r.2.1]), .gone, vecL (encI .u8) 1 5 r.2.2] := by
 refine kFn (fn := Try.f27) (fun F hFn hFH hFD => ?_)
 unfold bund_writer__patterns_s0 at h
 refine J.wk (Wk.move 1 (n := x18.length) (k := 1) (e := 5) (cs := x18.flatMap (encI .u8)) (by kernel_rfl)) ?_
 refine kSR ?_
 refine kC 1 [0,2] ?_
 refine kEN ?_
 refine kb 0 ?_
 refine kl (fun (s0 : Int × (List Int) × Bool × (List Int)) => ([(0, .ptr 0 0), (2, iL s0.1)], [.box (q12 x0 x1 x2 x3 x4 x5 x6 x7 x8 x9 x10 x11 [lsv encSt57 2 x12, lsv encSt59 3 x13, lsv encSt61 3 x14, lT x15, lI s0.2.1, .vc 2, .bool s0.2.2.1]), .gone, vecL (encI .u8) 1 5 s0.2.2.2])) h [0, 2] (fun s0 x19 hs0 => ?_)
 refine kSR ?_
 refine kC 1 [0,2,3] ?_
 refine kEN ?_
 refine kS ?_
 refine kBJ 3 hs0 (fun h0 => ?_) (fun h1 => ?_)
 ·refine kT ?_
  refine kK ?_
  refine PJ.next ?_
  refine kS ?_
  refine kb 1 ?_
  refine kR ?_
  refine kC 1 [0,2,4] ?_
  obtain ⟨y0, hy0, h2⟩ := bindS h0
  refine kCG (some 5) (args := [.ptr 0 0]) (v := .tup []) (H2 := [.box (q12 x0 x1 x2 x3 x4 x5 x6 x7 x8 x9 x10 x11 [lsv encSt57 2 x12, lsv encSt59 3 x13, lsv encSt61 3 x14, lT x15, lI (cut s0.2.1 1 (s0.2.1.length : Int)), .vc 3, .bool y0.1]), .gone, .gone, vecL (encI .u8) 1 5 y0.2]) [0, 2] (bund_writer__text_s0_ok hy0) ?_
  refine kE ?_
  refine PJ.blockNormal ?_
  refine PJ.next ?_
  refine kR ?_
  refine kC 2 [0,2] ?_
  refine kE ?_
  obtain rfl := oi h2
  refine kW (L2 := [(0, .ptr 0 0), (2, iL (IntKind.wrap .i64 (s0.1 + 1)))]) (H2 := [.box (q12 x0 x1 x2 x3 x4 x5 x6 x7 x8 x9 x10 x11 [lsv encSt57 2 x12, lsv encSt59 3 x13, lsv encSt61 3 x14, lT x15, lI (cut s0.2.1 1 (s0.2.1.length : Int)), .vc 2, .bool y0.1]), .gone, vecL (encI .u8) 1 5 y0.2]) hFH hFD [0, 1, 3] ?_
  exact kLN [0, 2]
 ·refine kF ?_
  refine K.exit 0 (by kernel_rfl) ?_
  refine PJ.passExit ?_
  obtain rfl := oi h1
  refine PJ.loopOut (fun e => nomatch e) (fun he0 => ?_)
  have h3 := congrArg some he0
  refine PJ.blockOut ?_
  obtain rfl := oi h3
  exact K.retV (H0 := [.box (q12 x0 x1 x2 x3 x4 x5 x6 x7 x8 x9 x10 x11 [lsv encSt57 2 x12, lsv encSt59 3 x13, lsv encSt61 3 x14, lT x15, lI x16, .vc 1, .bool x17]), vecL (encI .u8) 1 5 x18]) [0, 1, 2] (.inl rfl) hFn hFH hFD (by kernel_rfl) (v1 := .tup []) (by kernel_rfl) (by kernel_rfl) (by kernel_rfl) (by decide) (by kernel_rfl) (by kernel_rfl) (by kernel_rfl) (by kernel_rfl) (by kernel_rfl)
def bund_writer__rules_s0 (x0 : List UInt8) (x1 : Int) (x2 : Int) (x3 : Int) (x4 : Int) (x5 : Int) (x6 : Int) (x7 : Int) (x8 : List UInt8) (x9 : List UInt8) (x10 : List UInt8) (x11 : List UInt8) (x12 : List St57) (x13 : List St59) (x14 : List St61) (x15 : List (List UInt8)) (x16 : List Int) (x17 : Bool) (x18 : List Int) : Option ((List Int) × Bool × (List Int)) :=
 (Option.bind (bund_writer__put_s0 (x12.length : Int) 2 x0 x1 x2 x3 x4 x5 x6 x7 x8 x9 x10 x11 x12 x13 x14 x15 x16 x17 x18) fun y0 => (loopN (fun (s0 : Int × (List Int) × Bool × (List Int)) => (bif (decide (s0.1 < (x12.length : Int))) then (bif inR s0.1 x12.length then (Option.bind (bund_writer__put_s0 ((nth x12 s0.1).Cat_) 1 x0 x1 x2 x3 x4 x5 x6 x7 x8 x9 x10 x11 x12 x13 x14 x15 s0.2.1 s0.2.2.1 s0.2.2.2) fun y2 => (Option.bind (bund_writer__text_s0 x0 x1 x2 x3 x4 x5 x6 x7 x8 x9 x10 x11 x12 x13 x14 x15 s0.2.1 y2.1 y2.2) fun y1 => (some (.inl ((IntKind.wrap .i64 (s0.1 + 1)), (cut s0.2.1 1 (s0.2.1.length : Int)), y1.1, y1.2))))) else none) else (some (.inr (s0.2.1, s0.2.2.1, s0.2.2.2))))) big (0, x16, y0.1, y0.2)))
theorem bund_writer__rules_s0_ok {x0 : List UInt8} {x1 : Int} {x2 : Int} {x3 : Int} {x4 : Int} {x5 : Int} {x6 : Int} {x7 : Int} {x8 : List UInt8} {x9 : List UInt8} {x10 : List UInt8} {x11 : List UInt8} {x12 : List St57} {x13 : List St59} {x14 : List St61} {x15 : List (List UInt8)} {x16 : List Int} {x17 : Bool} {x18 : List Int} {r : (List Int) × Bool × (List Int)} (h : bund_writer__rules_s0 x0 x1 x2 x3 x4 x5 x6 x7 x8 x9 x10 x11 x12 x13 x14 x15 x16 x17 x18 = some r) : SC Try.prog 28 [.ptr 0 0] [.box (q12 x0 x1 x2 x3 x4 x5 x6 x7 x8 x9 x10 x11 [lsv encSt57 2 x12, lsv encSt59 3 x13, lsv encSt61 3 x14, lT x15, lI x16, .vc 1, .bool x17]), vecL (encI .u8) 1 5 x18] (.tup []) [.box (q12 x0 x1 x2 x3 x4 x5 x6 x7 x8 x9 x10 x11 [lsv encSt57 2 x12, lsv encSt59 3 x13, lsv encSt61 3 x14, lT x15, lI r.1, .vc 2, .bool r.2.1]), .gone, vecL (encI .u8) 1 5 r.2.2] := by
 refine kFn (fn := Try.f28) (fun F hFn hFH hFD => ?_)
 unfold bund_writer__rules_s0 at h
 refine J.wk (Wk.move 1 (n := x18.length) (k := 1) (e := 5) (cs := x18.flatMap (encI .u8)) (by kernel_rfl)) ?_
 refine kSR ?_
 refine kC 7 [0,4,10] ?_
 obtain ⟨y0, hy0, h0⟩ := bindS h
 refine kCG (some 11) (args := [.ptr 0 0, iL (x12.length : Int), iL 2]) (v := .tup []) (H2 := [.box (q12 x0 x1 x2 x3 x4 x5 x6 x7 x8 x9 x10 x11 [lsv encSt57 2 x12, lsv encSt59 3 x13, lsv encSt61 3 x14, lT x15, lI x16, .vc 3, .bool y0.1]), .gone, .gone, vecL (encI .u8) 1 5 y0.2]) [0, 2] (bund_writer__put_s0_ok hy0) ?_
 refine kEN ?_
 refine kSR ?_
 refine kC 7 [0,16,17,18] ?_
 refine kEN ?_
 refine kb 0 ?_
 refine J.wk (Wk.sel (L2 := [(0, .ptr 0 0), (16, lsv encSt57 2 x12), (17, iL (x12.length : Int)), (18, iL 0)]) (H2 := [.box (q12 x0 x1 x2 x3 x4 x5 x6 x7 x8 x9 x10 x11 [lsv encSt57 2 x12, lsv encSt59 3 x13, lsv encSt61 3 x14, lT x15, lI x16, .vc 2, .bool y0.1]), .gone, vecL (encI .u8) 1 5 y0.2]) 2 (by rw [hFH]; rfl) hFD [0, 1, 3] (by kernel_rfl) (by kernel_rfl) (by decide) (by kernel_rfl) (by kernel_rfl) (by kernel_rfl) (by kernel_rfl)) ?_
 refine kl (fun (s0 : Int × (List Int) × Bool × (List Int)) => ([(0, .ptr 0 0), (16, lsv encSt57 2 x12), (17, iL (x12.length : Int)), (18, iL s0.1)], [.box (q12 x0 x1 x2 x3 x4 x5 x6 x7 x8 x9 x10 x11 [lsv encSt57 2 x12, lsv encSt59 3 x13, lsv encSt61 3 x14, lT x15, lI s0.2.1, .vc 2, .bool s0.2.2.1]), .gone, vecL (encI .u8) 1 5 s0.2.2.2])) h0 [0, 16, 17, 18] (fun s0 x30 hs0 => ?_)
 refine kSR ?_
 refine kC 1 [0,16,17,18,19] ?_
 refine kEN ?_
 refine kS ?_
 refine kBJ 19 hs0 (fun h1 => ?_) (fun h2 => ?_)
 ·refine kT ?_
  refine kK ?_
  refine PJ.next ?_
  refine kS ?_
  refine kb 1 ?_
  refine kSR ?_
  obtain ⟨hm, h3⟩ := asrt h1
  refine kI 20 encSt57_len hm ?_
  refine kC 3 [0,3,16,17,18] ?_
  refine kEN ?_
  refine kSR ?_
  refine kC 3 [0,16,17,18,22,24] ?_
  obtain ⟨y2, hy1, h4⟩ := bindS h3
  refine kCG (some 25) (args := [.ptr 0 0, iL ((nth x12 s0.1).Cat_), iL 1]) (v := .tup []) (H2 := [.box (q12 x0 x1 x2 x3 x4 x5 x6 x7 x8 x9 x10 x11 [lsv encSt57 2 x12, lsv encSt59 3 x13, lsv encSt61 3 x14, lT x15, lI s0.2.1, .vc 4, .bool y2.1]), .gone, .gone, .box [iL ((nth x12 s0.1).Cat_), .str ((nth x12 s0.1).Text_)], vecL (encI .u8) 1 5 y2.2]) [0, 2] (bund_writer__put_s0_ok hy1) ?_
  refine kEN ?_
  refine kR ?_
  refine kC 1 [0,16,17,18,26] ?_
  obtain ⟨y1, hy2, h5⟩ := bindS h4
  refine kCG (some 27) (args := [.ptr 0 0]) (v := .tup []) (H2 := [.box (q12 x0 x1 x2 x3 x4 x5 x6 x7 x8 x9 x10 x11 [lsv encSt57 2 x12, lsv encSt59 3 x13, lsv encSt61 3 x14, lT x15, lI (cut s0.2.1 1 (s0.2.1.length : Int)), .vc 5, .bool y1.1]), .gone, .gone, .box [iL ((nth x12 s0.1).Cat_), .str ((nth x12 s0.1).Text_)], .gone, vecL (encI .u8) 1 5 y1.2]) [0, 4] (bund_writer__text_s0_ok hy2) ?_
  refine kE ?_
  refine PJ.blockNormal ?_
  refine PJ.next ?_
  refine kR ?_
  refine kC 2 [0,16,17,18] ?_
  refine kE ?_
  obtain rfl := oi h5
  refine kW (L2 := [(0, .ptr 0 0), (16, lsv encSt57 2 x12), (17, iL (x12.length : Int)), (18, iL (IntKind.wrap .i64 (s0.1 + 1)))]) (H2 := [.box (q12 x0 x1 x2 x3 x4 x5 x6 x7 x8 x9 x10 x11 [lsv encSt57 2 x12, lsv encSt59 3 x13, lsv encSt61 3 x14, lT x15, lI (cut s0.2.1 1 (s0.2.1.length : Int)), .vc 2, .bool y1.1]), .gone, vecL (encI .u8) 1 5 y1.2]) hFH hFD [0, 1, 5] ?_
  exact kLN [0, 16, 17, 18]
 ·refine kF ?_
  refine K.exit 0 (by kernel_rfl) ?_
  refine PJ.passExit ?_
  obtain rfl := oi h2
  refine PJ.loopOut (fun e => nomatch e) (fun he0 => ?_)
  have h6 := congrArg some he0
  refine PJ.blockOut ?_
  obtain rfl := oi h6
  exact K.retV (H0 := [.box (q12 x0 x1 x2 x3 x4 x5 x6 x7 x8 x9 x10 x11 [lsv encSt57 2 x12, lsv encSt59 3 x13, lsv encSt61 3 x14, lT x15, lI x16, .vc 1, .bool x17]), vecL (encI .u8) 1 5 x18]) [0, 1, 2] (.inl rfl) hFn hFH hFD (by kernel_rfl) (v1 := .tup []) (by kernel_rfl) (by kernel_rfl) (by kernel_rfl) (by decide) (by kernel_rfl) (by kernel_rfl) (by kernel_rfl) (by kernel_rfl) (by kernel_rfl)
def bund_writer__currencies_s0 (x0 : List UInt8) (x1 : Int) (x2 : Int) (x3 : Int) (x4 : Int) (x5 : Int) (x6 : Int) (x7 : Int) (x8 : List UInt8) (x9 : List UInt8) (x10 : List UInt8) (x11 : List UInt8) (x12 : List St57) (x13 : List St59) (x14 : List St61) (x15 : List (List UInt8)) (x16 : List Int) (x17 : Bool) (x18 : List Int) : Option ((List Int) × Bool × (List Int)) :=
 (Option.bind (bund_writer__put_s0 (x13.length : Int) 2 x0 x1 x2 x3 x4 x5 x6 x7 x8 x9 x10 x11 x12 x13 x14 x15 x16 x17 x18) fun y0 => (loopN (fun (s0 : Int × (List Int) × Bool × (List Int)) => (bif (decide (s0.1 < (x13.length : Int))) then (bif inR s0.1 x13.length then (Option.bind (bund_writer__text_s0 x0 x1 x2 x3 x4 x5 x6 x7 x8 x9 x10 x11 x12 x13 x14 x15 s0.2.1 s0.2.2.1 s0.2.2.2) fun y2 => (Option.bind (bund_writer__text_s0 x0 x1 x2 x3 x4 x5 x6 x7 x8 x9 x10 x11 x12 x13 x14 x15 (cut s0.2.1 1 (s0.2.1.length : Int)) y2.1 y2.2) fun y3 => (Option.bind (bund_writer__put_s0 ((nth x13 s0.1).Digits_) 1 x0 x1 x2 x3 x4 x5 x6 x7 x8 x9 x10 x11 x12 x13 x14 x15 ((cut (cut s0.2.1 1 (s0.2.1.length : Int)) 1 ((cut s0.2.1 1 (s0.2.1.length : Int)).length : Int))) y3.1 y3.2) fun y1 => (some (.inl ((IntKind.wrap .i64 (s0.1 + 1)), ((cut (cut s0.2.1 1 (s0.2.1.length : Int)) 1 ((cut s0.2.1 1 (s0.2.1.length : Int)).length : Int))), y1.1, y1.2)))))) else none) else (some (.inr (s0.2.1, s0.2.2.1, s0.2.2.2))))) big (0, x16, y0.1, y0.2)))
theorem bund_writer__currencies_s0_ok {x0 : List UInt8} {x1 : Int} {x2 : Int} {x3 : Int} {x4 : Int} {x5 : Int} {x6 : Int} {x7 : Int} {x8 : List UInt8} {x9 : List UInt8} {x10 : List UInt8} {x11 : List UInt8} {x12 : List St57} {x13 : List St59} {x14 : List St61} {x15 : List (List UInt8)} {x16 : List Int} {x17 : Bool} {x18 : List Int} {r : (List Int) × Bool × (List Int)} (h : bund_writer__currencies_s0 x0 x1 x2 x3 x4 x5 x6 x7 x8 x9 x10 x11 x12 x13 x14 x15 x16 x17 x18 = some r) : SC Try.prog 29 [.ptr 0 0] [.box (q12 x0 x1 x2 x3 x4 x5 x6 x7 x8 x9 x10 x11 [lsv encSt57 2 x12, lsv encSt59 3 x13, lsv encSt61 3 x14, lT x15, lI x16, .vc 1, .bool x17]), vecL (encI .u8) 1 5 x18] (.tup []) [.box (q12 x0 x1 x2 x3 x4 x5 x6 x7 x8 x9 x10 x11 [lsv encSt57 2 x12, lsv encSt59 3 x13, lsv encSt61 3 x14, lT x15, lI r.1, .vc 2, .bool r.2.1]), .gone, vecL (encI .u8) 1 5 r.2.2] := by
 refine kFn (fn := Try.f29) (fun F hFn hFH hFD => ?_)
 unfold bund_writer__currencies_s0 at h
 refine J.wk (Wk.move 1 (n := x18.length) (k := 1) (e := 5) (cs := x18.flatMap (encI .u8)) (by kernel_rfl)) ?_
 refine kSR ?_
 refine kC 7 [0,4,10] ?_
 obtain ⟨y0, hy0, h0⟩ := bindS h
 refine kCG (some 11) (args := [.ptr 0 0, iL (x13.length : Int), iL 2]) (v := .tup []) (H2 := [.box (q12 x0 x1 x2 x3 x4 x5 x6 x7 x8 x9 x10 x11 [lsv encSt57 2 x12, lsv encSt59 3 x13, lsv encSt61 3 x14, lT x15, lI x16, .vc 3, .bool y0.1]), .gone, .gone, vecL (encI .u8) 1 5 y0.2]) [0, 2] (bund_writer__put_s0_ok hy0) ?_
 refine kEN ?_
 refine kSR ?_
 refine kC 7 [0,16,17,18] ?_
 refine kEN ?_
 refine kb 0 ?_
 refine J.wk (Wk.sel (L2 := [(0, .ptr 0 0), (16, lsv encSt59 3 x13), (17, iL (x13.length : Int)), (18, iL 0)]) (H2 := [.box (q12 x0 x1 x2 x3 x4 x5 x6 x7 x8 x9 x10 x11 [lsv encSt57 2 x12, lsv encSt59 3 x13, lsv encSt61 3 x14, lT x15, lI x16, .vc 2, .bool y0.1]), .gone, vecL (encI .u8) 1 5 y0.2]) 2 (by rw [hFH]; rfl) hFD [0, 1, 3] (by kernel_rfl) (by kernel_rfl) (by decide) (by kernel_rfl) (by kernel_rfl) (by kernel_rfl) (by kernel_rfl)) ?_
 refine kl (fun (s0 : Int × (List Int) × Bool × (List Int)) => ([(0, .ptr 0 0), (16, lsv encSt59 3 x13), (17, iL (x13.length : Int)), (18, iL s0.1)], [.box (q12 x0 x1 x2 x3 x4 x5 x6 x7 x8 x9 x10 x11 [lsv encSt57 2 x12, lsv encSt59 3 x13, lsv encSt61 3 x14, lT x15, lI s0.2.1, .vc 2, .bool s0.2.2.1]), .gone, vecL (encI .u8) 1 5 s0.2.2.2])) h0 [0, 16, 17, 18] (fun s0 x36 hs0 => ?_)
 refine kSR ?_
 refine kC 1 [0,16,17,18,19] ?_
 refine kEN ?_
 refine kS ?_
 refine kBJ 19 hs0 (fun h1 => ?_) (fun h2 => ?_)
 ·refine kT ?_
  refine kK ?_
  refine PJ.next ?_
  refine kS ?_
  refine kb 1 ?_
  refine kSR ?_
  obtain ⟨hm, h3⟩ := asrt h1
  refine kI 20 encSt59_len hm ?_
  refine kC 3 [0,3,16,17,18] ?_
  refine kEN ?_
  refine kSR ?_
  refine kC 1 [0,3,16,17,18,22] ?_
  obtain ⟨y2, hy1, h4⟩ := bindS h3
  refine kCG (some 23) (args := [.ptr 0 0]) (v := .tup []) (H2 := [.box (q12 x0 x1 x2 x3 x4 x5 x6 x7 x8 x9 x10 x11 [lsv encSt57 2 x12, lsv encSt59 3 x13, lsv encSt61 3 x14, lT x15, lI (cut s0.2.1 1 (s0.2.1.length : Int)), .vc 4, .bool y2.1]), .gone, .gone, .box [.str ((nth x13 s0.1).Code_), .str ((nth x13 s0.1).Sign_), iL ((nth x13 s0.1).Digits_)], vecL (encI .u8) 1 5 y2.2]) [0, 2] (bund_writer__text_s0_ok hy1) ?_
  refine kEN ?_
  refine kSR ?_
  refine kC 1 [0,3,16,17,18,24] ?_
  obtain ⟨y3, hy2, h5⟩ := bindS h4
  refine kCG (some 25) (args := [.ptr 0 0]) (v := .tup []) (H2 := [.box (q12 x0 x1 x2 x3 x4 x5 x6 x7 x8 x9 x10 x11 [lsv encSt57 2 x12, lsv encSt59 3 x13, lsv encSt61 3 x14, lT x15, lI ((cut (cut s0.2.1 1 (s0.2.1.length : Int)) 1 ((cut s0.2.1 1 (s0.2.1.length : Int)).length : Int))), .vc 5, .bool y3.1]), .gone, .gone, .box [.str ((nth x13 s0.1).Code_), .str ((nth x13 s0.1).Sign_), iL ((nth x13 s0.1).Digits_)], .gone, vecL (encI .u8) 1 5 y3.2]) [0, 4] (bund_writer__text_s0_ok hy2) ?_
  refine kEN ?_
  refine kR ?_
  refine kC 3 [0,16,17,18,26,28] ?_
  obtain ⟨y1, hy3, h6⟩ := bindS h5
  refine kCG (some 29) (args := [.ptr 0 0, iL ((nth x13 s0.1).Digits_), iL 1]) (v := .tup []) (H2 := [.box (q12 x0 x1 x2 x3 x4 x5 x6 x7 x8 x9 x10 x11 [lsv encSt57 2 x12, lsv encSt59 3 x13, lsv encSt61 3 x14, lT x15, lI (((cut (cut s0.2.1 1 (s0.2.1.length : Int)) 1 ((cut s0.2.1 1 (s0.2.1.length : Int)).length : Int)))), .vc 6, .bool y1.1]), .gone, .gone, .box [.str ((nth x13 s0.1).Code_), .str ((nth x13 s0.1).Sign_), iL ((nth x13 s0.1).Digits_)], .gone, .gone, vecL (encI .u8) 1 5 y1.2]) [0, 5] (bund_writer__put_s0_ok hy3) ?_
  refine kE ?_
  refine PJ.blockNormal ?_
  refine PJ.next ?_
  refine kR ?_
  refine kC 2 [0,16,17,18] ?_
  refine kE ?_
  obtain rfl := oi h6
  refine kW (L2 := [(0, .ptr 0 0), (16, lsv encSt59 3 x13), (17, iL (x13.length : Int)), (18, iL (IntKind.wrap .i64 (s0.1 + 1)))]) (H2 := [.box (q12 x0 x1 x2 x3 x4 x5 x6 x7 x8 x9 x10 x11 [lsv encSt57 2 x12, lsv encSt59 3 x13, lsv encSt61 3 x14, lT x15, lI (((cut (cut s0.2.1 1 (s0.2.1.length : Int)) 1 ((cut s0.2.1 1 (s0.2.1.length : Int)).length : Int)))), .vc 2, .bool y1.1]), .gone, vecL (encI .u8) 1 5 y1.2]) hFH hFD [0, 1, 6] ?_
  exact kLN [0, 16, 17, 18]
 ·refine kF ?_
  refine K.exit 0 (by kernel_rfl) ?_
  refine PJ.passExit ?_
  obtain rfl := oi h2
  refine PJ.loopOut (fun e => nomatch e) (fun he0 => ?_)
  have h7 := congrArg some he0
  refine PJ.blockOut ?_
  obtain rfl := oi h7
  exact K.retV (H0 := [.box (q12 x0 x1 x2 x3 x4 x5 x6 x7 x8 x9 x10 x11 [lsv encSt57 2 x12, lsv encSt59 3 x13, lsv encSt61 3 x14, lT x15, lI x16, .vc 1, .bool x17]), vecL (encI .u8) 1 5 x18]) [0, 1, 2] (.inl rfl) hFn hFH hFD (by kernel_rfl) (v1 := .tup []) (by kernel_rfl) (by kernel_rfl) (by kernel_rfl) (by decide) (by kernel_rfl) (by kernel_rfl) (by kernel_rfl) (by kernel_rfl) (by kernel_rfl)
def bund_writer__compacts_s0 (x0 : List UInt8) (x1 : Int) (x2 : Int) (x3 : Int) (x4 : Int) (x5 : Int) (x6 : Int) (x7 : Int) (x8 : List UInt8) (x9 : List UInt8) (x10 : List UInt8) (x11 : List UInt8) (x12 : List St57) (x13 : List St59) (x14 : List St61) (x15 : List (List UInt8)) (x16 : List Int) (x17 : Bool) (x18 : List Int) : Option ((List Int) × Bool × (List Int)) :=
 (Option.bind (bund_writer__put_s0 (x14.length : Int) 2 x0 x1 x2 x3 x4 x5 x6 x7 x8 x9 x10 x11 x12 x13 x14 x15 x16 x17 x18) fun y0 => (loopN (fun (s0 : Int × (List Int) × Bool × (List Int)) => (bif (decide (s0.1 < (x14.length : Int))) then (bif inR s0.1 x14.length then (Option.bind (bund_writer__put_s0 ((nth x14 s0.1).Mag_) 1 x0 x1 x2 x3 x4 x5 x6 x7 x8 x9 x10 x11 x12 x13 x14 x15 s0.2.1 s0.2.2.1 s0.2.2.2) fun y2 => (Option.bind (bund_writer__put_s0 ((nth x14 s0.1).Cat_) 1 x0 x1 x2 x3 x4 x5 x6 x7 x8 x9 x10 x11 x12 x13 x14 x15 s0.2.1 y2.1 y2.2) fun y3 => (Option.bind (bund_writer__text_s0 x0 x1 x2 x3 x4 x5 x6 x7 x8 x9 x10 x11 x12 x13 x14 x15 s0.2.1 y3.1 y3.2) fun y1 => (some (.inl ((IntKind.wrap .i64 (s0.1 + 1)), (cut s0.2.1 1 (s0.2.1.length : Int)), y1.1, y1.2)))))) else none) else (some (.inr (s0.2.1, s0.2.2.1, s0.2.2.2))))) big (0, x16, y0.1, y0.2)))
theorem bund_writer__compacts_s0_ok {x0 : List UInt8} {x1 : Int} {x2 : Int} {x3 : Int} {x4 : Int} {x5 : Int} {x6 : Int} {x7 : Int} {x8 : List UInt8} {x9 : List UInt8} {x10 : List UInt8} {x11 : List UInt8} {x12 : List St57} {x13 : List St59} {x14 : List St61} {x15 : List (List UInt8)} {x16 : List Int} {x17 : Bool} {x18 : List Int} {r : (List Int) × Bool × (List Int)} (h : bund_writer__compacts_s0 x0 x1 x2 x3 x4 x5 x6 x7 x8 x9 x10 x11 x12 x13 x14 x15 x16 x17 x18 = some r) : SC Try.prog 30 [.ptr 0 0] [.box (q12 x0 x1 x2 x3 x4 x5 x6 x7 x8 x9 x10 x11 [lsv encSt57 2 x12, lsv encSt59 3 x13, lsv encSt61 3 x14, lT x15, lI x16, .vc 1, .bool x17]), vecL (encI .u8) 1 5 x18] (.tup []) [.box (q12 x0 x1 x2 x3 x4 x5 x6 x7 x8 x9 x10 x11 [lsv encSt57 2 x12, lsv encSt59 3 x13, lsv encSt61 3 x14, lT x15, lI r.1, .vc 2, .bool r.2.1]), .gone, vecL (encI .u8) 1 5 r.2.2] := by
 refine kFn (fn := Try.f30) (fun F hFn hFH hFD => ?_)
 unfold bund_writer__compacts_s0 at h
 refine J.wk (Wk.move 1 (n := x18.length) (k := 1) (e := 5) (cs := x18.flatMap (encI .u8)) (by kernel_rfl)) ?_
 refine kSR ?_
 refine kC 7 [0,4,10] ?_
 obtain ⟨y0, hy0, h0⟩ := bindS h
 refine kCG (some 11) (args := [.ptr 0 0, iL (x14.length : Int), iL 2]) (v := .tup []) (H2 := [.box (q12 x0 x1 x2 x3 x4 x5 x6 x7 x8 x9 x10 x11 [lsv encSt57 2 x12, lsv encSt59 3 x13, lsv encSt61 3 x14, lT x15, lI x16, .vc 3, .bool y0.1]), .gone, .gone, vecL (encI .u8) 1 5 y0.2]) [0, 2] (bund_writer__put_s0_ok hy0) ?_
 refine kEN ?_
 refine kSR ?_
 refine kC 7 [0,16,17,18] ?_
 refine kEN ?_
 refine kb 0 ?_
 refine J.wk (Wk.sel (L2 := [(0, .ptr 0 0), (16, lsv encSt61 3 x14), (17, iL (x14.length : Int)), (18, iL 0)]) (H2 := [.box (q12 x0 x1 x2 x3 x4 x5 x6 x7 x8 x9 x10 x11 [lsv encSt57 2 x12, lsv encSt59 3 x13, lsv encSt61 3 x14, lT x15, lI x16, .vc 2, .bool y0.1]), .gone, vecL (encI .u8) 1 5 y0.2]) 2 (by rw [hFH]; rfl) hFD [0, 1, 3] (by kernel_rfl) (by kernel_rfl) (by decide) (by kernel_rfl) (by kernel_rfl) (by kernel_rfl) (by kernel_rfl)) ?_
 refine kl (fun (s0 : Int × (List Int) × Bool × (List Int)) => ([(0, .ptr 0 0), (16, lsv encSt61 3 x14), (17, iL (x14.length : Int)), (18, iL s0.1)], [.box (q12 x0 x1 x2 x3 x4 x5 x6 x7 x8 x9 x10 x11 [lsv encSt57 2 x12, lsv encSt59 3 x13, lsv encSt61 3 x14, lT x15, lI s0.2.1, .vc 2, .bool s0.2.2.1]), .gone, vecL (encI .u8) 1 5 s0.2.2.2])) h0 [0, 16, 17, 18] (fun s0 x36 hs0 => ?_)
 refine kSR ?_
 refine kC 1 [0,16,17,18,19] ?_
 refine kEN ?_
 refine kS ?_
 refine kBJ 19 hs0 (fun h1 => ?_) (fun h2 => ?_)
 ·refine kT ?_
  refine kK ?_
  refine PJ.next ?_
  refine kS ?_
  refine kb 1 ?_
  refine kSR ?_
  obtain ⟨hm, h3⟩ := asrt h1
  refine kI 20 encSt61_len hm ?_
  refine kC 3 [0,3,16,17,18] ?_
  refine kEN ?_
  refine kSR ?_
  refine kC 3 [0,3,16,17,18,22,24] ?_
  obtain ⟨y2, hy1, h4⟩ := bindS h3
  refine kCG (some 25) (args := [.ptr 0 0, iL ((nth x14 s0.1).Mag_), iL 1]) (v := .tup []) (H2 := [.box (q12 x0 x1 x2 x3 x4 x5 x6 x7 x8 x9 x10 x11 [lsv encSt57 2 x12, lsv encSt59 3 x13, lsv encSt61 3 x14, lT x15, lI s0.2.1, .vc 4, .bool y2.1]), .gone, .gone, .box [iL ((nth x14 s0.1).Mag_), iL ((nth x14 s0.1).Cat_), .str ((nth x14 s0.1).Pat_)], vecL (encI .u8) 1 5 y2.2]) [0, 2] (bund_writer__put_s0_ok hy1) ?_
  refine kEN ?_
  refine kSR ?_
  refine kC 3 [0,16,17,18,26,28] ?_
  obtain ⟨y3, hy2, h5⟩ := bindS h4
  refine kCG (some 29) (args := [.ptr 0 0, iL ((nth x14 s0.1).Cat_), iL 1]) (v := .tup []) (H2 := [.box (q12 x0 x1 x2 x3 x4 x5 x6 x7 x8 x9 x10 x11 [lsv encSt57 2 x12, lsv encSt59 3 x13, lsv encSt61 3 x14, lT x15, lI s0.2.1, .vc 5, .bool y3.1]), .gone, .gone, .box [iL ((nth x14 s0.1).Mag_), iL ((nth x14 s0.1).Cat_), .str ((nth x14 s0.1).Pat_)], .gone, vecL (encI .u8) 1 5 y3.2]) [0, 4] (bund_writer__put_s0_ok hy2) ?_
  refine kEN ?_
  refine kR ?_
  refine kC 1 [0,16,17,18,30] ?_
  obtain ⟨y1, hy3, h6⟩ := bindS h5
  refine kCG (some 31) (args := [.ptr 0 0]) (v := .tup []) (H2 := [.box (q12 x0 x1 x2 x3 x4 x5 x6 x7 x8 x9 x10 x11 [lsv encSt57 2 x12, lsv encSt59 3 x13, lsv encSt61 3 x14, lT x15, lI (cut s0.2.1 1 (s0.2.1.length : Int)), .vc 6, .bool y1.1]), .gone, .gone, .box [iL ((nth x14 s0.1).Mag_), iL ((nth x14 s0.1).Cat_), .str ((nth x14 s0.1).Pat_)], .gone, .gone, vecL (encI .u8) 1 5 y1.2]) [0, 5] (bund_writer__text_s0_ok hy3) ?_
  refine kE ?_
  refine PJ.blockNormal ?_
  refine PJ.next ?_
  refine kR ?_
  refine kC 2 [0,16,17,18] ?_
  refine kE ?_
  obtain rfl := oi h6
  refine kW (L2 := [(0, .ptr 0 0), (16, lsv encSt61 3 x14), (17, iL (x14.length : Int)), (18, iL (IntKind.wrap .i64 (s0.1 + 1)))]) (H2 := [.box (q12 x0 x1 x2 x3 x4 x5 x6 x7 x8 x9 x10 x11 [lsv encSt57 2 x12, lsv encSt59 3 x13, lsv encSt61 3 x14, lT x15, lI (cut s0.2.1 1 (s0.2.1.length : Int)), .vc 2, .bool y1.1]), .gone, vecL (encI .u8) 1 5 y1.2]) hFH hFD [0, 1, 6] ?_
  exact kLN [0, 16, 17, 18]
 ·refine kF ?_
  refine K.exit 0 (by kernel_rfl) ?_
  refine PJ.passExit ?_
  obtain rfl := oi h2
  refine PJ.loopOut (fun e => nomatch e) (fun he0 => ?_)
  have h7 := congrArg some he0
  refine PJ.blockOut ?_
  obtain rfl := oi h7
  exact K.retV (H0 := [.box (q12 x0 x1 x2 x3 x4 x5 x6 x7 x8 x9 x10 x11 [lsv encSt57 2 x12, lsv encSt59 3 x13, lsv encSt61 3 x14, lT x15, lI x16, .vc 1, .bool x17]), vecL (encI .u8) 1 5 x18]) [0, 1, 2] (.inl rfl) hFn hFH hFD (by kernel_rfl) (v1 := .tup []) (by kernel_rfl) (by kernel_rfl) (by kernel_rfl) (by decide) (by kernel_rfl) (by kernel_rfl) (by kernel_rfl) (by kernel_rfl) (by kernel_rfl)
structure St65 where
 a0_ : Int
 a1_ : Int
 deriving Inhabited, DecidableEq
def encSt65 (x : St65) : List SV := [.int .i64 x.a0_, .int .i64 x.a1_]
theorem encSt65_len (x : St65) : (encSt65 x).length = 2 := rfl
structure St66 where
 a0_ : St65
 a1_ : St65
 a2_ : St65
 a3_ : St65
 a4_ : St65
 a5_ : St65
 deriving Inhabited, DecidableEq
def encSt66 (x : St66) : List SV := [.int .i64 x.a0_.a0_, .int .i64 x.a0_.a1_, .int .i64 x.a1_.a0_, .int .i64 x.a1_.a1_, .int .i64 x.a2_.a0_, .int .i64 x.a2_.a1_, .int .i64 x.a3_.a0_, .int .i64 x.a3_.a1_, .int .i64 x.a4_.a0_, .int .i64 x.a4_.a1_, .int .i64 x.a5_.a0_, .int .i64 x.a5_.a1_]
theorem encSt66_len (x : St66) : (encSt66 x).length = 12 := rfl
def bund_writer__head_s0 (x0 : St66) (x1 : List UInt8) (x2 : Int) (x3 : Int) (x4 : Int) (x5 : Int) (x6 : Int) (x7 : Int) (x8 : Int) (x9 : List UInt8) (x10 : List UInt8) (x11 : List UInt8) (x12 : List UInt8) (x13 : List St57) (x14 : List St59) (x15 : List St61) (x16 : List (List UInt8)) (x17 : List Int) (x18 : Bool) (x19 : List Int) : Option (Bool × (List Int)) :=
 (Option.bind (bund_writer__put_s0 1 2 x1 x2 x3 x4 x5 x6 x7 x8 x9 x10 x11 x12 x13 x14 x15 x16 x17 x18 x19) fun y7 => (Option.bind (bund_writer__put_s0 6 2 x1 x2 x3 x4 x5 x6 x7 x8 x9 x10 x11 x12 x13 x14 x15 x16 x17 y7.1 y7.2) fun y0 => (loopN (fun (s0 : Int × Bool × (List Int)) => (bif (decide (s0.1 < 6)) then (bif (decide (s0.1 = 0)) then (Option.bind (bund_writer__put_s0 x0.a0_.a0_ 4 x1 x2 x3 x4 x5 x6 x7 x8 x9 x10 x11 x12 x13 x14 x15 x16 x17 s0.2.1 s0.2.2) fun y8 => (Option.bind (bund_writer__put_s0 x0.a0_.a1_ 4 x1 x2 x3 x4 x5 x6 x7 x8 x9 x10 x11 x12 x13 x14 x15 x16 x17 y8.1 y8.2) fun y1 => (some (.inl ((IntKind.wrap .i64 (0 + 1)), y1.1, y1.2))))) else (bif (decide (s0.1 = 1)) then (Option.bind (bund_writer__put_s0 x0.a1_.a0_ 4 x1 x2 x3 x4 x5 x6 x7 x8 x9 x10 x11 x12 x13 x14 x15 x16 x17 s0.2.1 s0.2.2) fun y9 => (Option.bind (bund_writer__put_s0 x0.a1_.a1_ 4 x1 x2 x3 x4 x5 x6 x7 x8 x9 x10 x11 x12 x13 x14 x15 x16 x17 y9.1 y9.2) fun y2 => (some (.inl ((IntKind.wrap .i64 (1 + 1)), y2.1, y2.2))))) else (bif (decide (s0.1 = 2)) then (Option.bind (bund_writer__put_s0 x0.a2_.a0_ 4 x1 x2 x3 x4 x5 x6 x7 x8 x9 x10 x11 x12 x13 x14 x15 x16 x17 s0.2.1 s0.2.2) fun y10 => (Option.bind (bund_writer__put_s0 x0.a2_.a1_ 4 x1 x2 x3 x4 x5 x6 x7 x8 x9 x10 x11 x12 x13 x14 x15 x16 x17 y10.1 y10.2) fun y3 => (some (.inl ((IntKind.wrap .i64 (2 + 1)), y3.1, y3.2))))) else (bif (decide (s0.1 = 3)) then (Option.bind (bund_writer__put_s0 x0.a3_.a0_ 4 x1 x2 x3 x4 x5 x6 x7 x8 x9 x10 x11 x12 x13 x14 x15 x16 x17 s0.2.1 s0.2.2) fun y11 => (Option.bind (bund_writer__put_s0 x0.a3_.a1_ 4 x1 x2 x3 x4 x5 x6 x7 x8 x9 x10 x11 x12 x13 x14 x15 x16 x17 y11.1 y11.2) fun y4 => (some (.inl ((IntKind.wrap .i64 (3 + 1)), y4.1, y4.2))))) else (bif (decide (s0.1 = 4)) then (Option.bind (bund_writer__put_s0 x0.a4_.a0_ 4 x1 x2 x3 x4 x5 x6 x7 x8 x9 x10 x11 x12 x13 x14 x15 x16 x17 s0.2.1 s0.2.2) fun y12 => (Option.bind (bund_writer__put_s0 x0.a4_.a1_ 4 x1 x2 x3 x4 x5 x6 x7 x8 x9 x10 x11 x12 x13 x14 x15 x16 x17 y12.1 y12.2) fun y5 => (some (.inl ((IntKind.wrap .i64 (4 + 1)), y5.1, y5.2))))) else (bif (decide (s0.1 = 5)) then (Option.bind (bund_writer__put_s0 x0.a5_.a0_ 4 x1 x2 x3 x4 x5 x6 x7 x8 x9 x10 x11 x12 x13 x14 x15 x16 x17 s0.2.1 s0.2.2) fun y13 => (Option.bind (bund_writer__put_s0 x0.a5_.a1_ 4 x1 x2 x3 x4 x5 x6 x7 x8 x9 x10 x11 x12 x13 x14 x15 x16 x17 y13.1 y13.2) fun y6 => (some (.inl ((IntKind.wrap .i64 (5 + 1)), y6.1, y6.2))))) else none)))))) else (some (.inr (s0.2.1, s0.2.2))))) big (0, y0.1, y0.2))))
theorem bund_writer__head_s0_ok {x0 : St66} {x1 : List UInt8} {x2 : Int} {x3 : Int} {x4 : Int} {x5 : Int} {x6 : Int} {x7 : Int} {x8 : Int} {x9 : List UInt8} {x10 : List UInt8} {x11 : List UInt8} {x12 : List UInt8} {x13 : List St57} {x14 : List St59} {x15 : List St61} {x16 : List (List UInt8)} {x17 : List Int} {x18 : Bool} {x19 : List Int} {r : Bool × (List Int)} (h : bund_writer__head_s0 x0 x1 x2 x3 x4 x5 x6 x7 x8 x9 x10 x11 x12 x13 x14 x15 x16 x17 x18 x19 = some r) : SC Try.prog 31 [.ptr 0 0, .agg (encSt66 x0)] [.box (q12 x1 x2 x3 x4 x5 x6 x7 x8 x9 x10 x11 x12 [lsv encSt57 2 x13, lsv encSt59 3 x14, lsv encSt61 3 x15, lT x16, lI x17, .vc 1, .bool x18]), vecL (encI .u8) 1 5 x19] (.tup []) [.box (q12 x1 x2 x3 x4 x5 x6 x7 x8 x9 x10 x11 x12 [lsv encSt57 2 x13, lsv encSt59 3 x14, lsv encSt61 3 x15, lT x16, lI x17, .vc 2, .bool r.1]), .gone, vecL (encI .u8) 1 5 r.2] := by
 refine kFn (fn := Try.f31) (fun F hFn hFH hFD => ?_)
 unfold bund_writer__head_s0 at h
 refine J.wk (Wk.move 1 (n := x19.length) (k := 1) (e := 5) (cs := x19.flatMap (encI .u8)) (by kernel_rfl)) ?_
 refine kSR ?_
 refine kC 1 [0,3] ?_
 refine kEN ?_
 refine kSR ?_
 refine kC 1 [0,3,6] ?_
 obtain ⟨y7, hy0, h6⟩ := bindS h
 refine kCG (some 7) (args := [.ptr 0 0, iL 1, iL 2]) (v := .tup []) (H2 := [.box (q12 x1 x2 x3 x4 x5 x6 x7 x8 x9 x10 x11 x12 [lsv encSt57 2 x13, lsv encSt59 3 x14, lsv encSt61 3 x15, lT x16, lI x17, .vc 4, .bool y7.1]), .gone, .gone, .box (encSt66 x0), vecL (encI .u8) 1 5 y7.2]) [0, 2] (bund_writer__put_s0_ok hy0) ?_
 refine kEN ?_
 refine kSR ?_
 refine kC 1 [0,3,8] ?_
 obtain ⟨y0, hy1, h7⟩ := bindS h6
 refine kCG (some 9) (args := [.ptr 0 0, iL 6, iL 2]) (v := .tup []) (H2 := [.box (q12 x1 x2 x3 x4 x5 x6 x7 x8 x9 x10 x11 x12 [lsv encSt57 2 x13, lsv encSt59 3 x14, lsv encSt61 3 x15, lT x16, lI x17, .vc 5, .bool y0.1]), .gone, .gone, .box (encSt66 x0), .gone, vecL (encI .u8) 1 5 y0.2]) [0, 4] (bund_writer__put_s0_ok hy1) ?_
 refine kEN ?_
 refine kSR ?_
 refine kC 2 [0,10,11] ?_
 refine kEN ?_
 refine kb 0 ?_
 refine J.wk (Wk.sel (L2 := [(0, .ptr 0 0), (10, .agg (encSt66 x0)), (11, iL 0)]) (H2 := [.box (q12 x1 x2 x3 x4 x5 x6 x7 x8 x9 x10 x11 x12 [lsv encSt57 2 x13, lsv encSt59 3 x14, lsv encSt61 3 x15, lT x16, lI x17, .vc 2, .bool y0.1]), .gone, vecL (encI .u8) 1 5 y0.2]) 2 (by rw [hFH]; rfl) hFD [0, 1, 5] (by kernel_rfl) (by kernel_rfl) (by decide) (by kernel_rfl) (by kernel_rfl) (by kernel_rfl) (by kernel_rfl)) ?_
 refine kl (fun (s0 : Int × Bool × (List Int)) => ([(0, .ptr 0 0), (10, .agg (encSt66 x0)), (11, iL s0.1)], [.box (q12 x1 x2 x3 x4 x5 x6 x7 x8 x9 x10 x11 x12 [lsv encSt57 2 x13, lsv encSt59 3 x14, lsv encSt61 3 x15, lT x16, lI x17, .vc 2, .bool s0.2.1]), .gone, vecL (encI .u8) 1 5 s0.2.2])) h7 [0, 10, 11] (fun s0 x79 hs0 => ?_)
 refine kSR ?_
 refine kC 1 [0,10,11,12] ?_
 refine kEN ?_
 refine kS ?_
 refine kBJ 12 hs0 (fun h0 => ?_) (fun h8 => ?_)
 ·refine kT ?_
  refine kK ?_
  refine PJ.next ?_
  refine kS ?_
  refine kb 1 ?_
  refine kSR ?_
  cases hb0 : (decide (s0.1 = 0))
  ·have h1 := condF hb0 h0
   cases hb1 : (decide (s0.1 = 1))
   ·have h2 := condF hb1 h1
    cases hb2 : (decide (s0.1 = 2))
    ·have h3 := condF hb2 h2
     cases hb3 : (decide (s0.1 = 3))
     ·have h4 := condF hb3 h3
      cases hb4 : (decide (s0.1 = 4))
      ·have h5 := condF hb4 h4
       cases hb5 : (decide (s0.1 = 5))
       ·have h9 := condF hb5 h5
        cases h9
       ·have h10 := condT hb5 h5
        refine RJ.pin 11 (kd := .i64) (by kernel_rfl) (of_decide_eq_true hb5) ?_
        refine kC 3 [0,5,10,11] ?_
        refine kEN ?_
        refine kSR ?_
        refine kC 3 [0,5,10,11,14,16] ?_
        obtain ⟨y13, hy2, h11⟩ := bindS h10
        refine kCG (some 17) (args := [.ptr 0 0, iL x0.a5_.a0_, iL 4]) (v := .tup []) (H2 := [.box (q12 x1 x2 x3 x4 x5 x6 x7 x8 x9 x10 x11 x12 [lsv encSt57 2 x13, lsv encSt59 3 x14, lsv encSt61 3 x15, lT x16, lI x17, .vc 4, .bool y13.1]), .gone, .gone, .box (encSt65 x0.a5_), vecL (encI .u8) 1 5 y13.2]) [0, 2] (bund_writer__put_s0_ok hy2) ?_
        refine kEN ?_
        refine kR ?_
        refine kC 3 [0,10,11,18,20] ?_
        obtain ⟨y6, hy3, h12⟩ := bindS h11
        refine kCG (some 21) (args := [.ptr 0 0, iL x0.a5_.a1_, iL 4]) (v := .tup []) (H2 := [.box (q12 x1 x2 x3 x4 x5 x6 x7 x8 x9 x10 x11 x12 [lsv encSt57 2 x13, lsv encSt59 3 x14, lsv encSt61 3 x15, lT x16, lI x17, .vc 5, .bool y6.1]), .gone, .gone, .box (encSt65 x0.a5_), .gone, vecL (encI .u8) 1 5 y6.2]) [0, 4] (bund_writer__put_s0_ok hy3) ?_
        refine kE ?_
        refine PJ.blockNormal ?_
        refine PJ.next ?_
        refine kR ?_
        refine kC 2 [0,10,11] ?_
        refine kE ?_
        obtain rfl := oi h12
        refine kW (L2 := [(0, .ptr 0 0), (10, .agg (encSt66 x0)), (11, iL (IntKind.wrap .i64 (5 + 1)))]) (H2 := [.box (q12 x1 x2 x3 x4 x5 x6 x7 x8 x9 x10 x11 x12 [lsv encSt57 2 x13, lsv encSt59 3 x14, lsv encSt61 3 x15, lT x16, lI x17, .vc 2, .bool y6.1]), .gone, vecL (encI .u8) 1 5 y6.2]) hFH hFD [0, 1, 5] ?_
        exact kLN [0, 10, 11]
      ·have h13 := condT hb4 h4
       refine RJ.pin 11 (kd := .i64) (by kernel_rfl) (of_decide_eq_true hb4) ?_
       refine kC 3 [0,5,10,11] ?_
       refine kEN ?_
       refine kSR ?_
       refine kC 3 [0,5,10,11,14,16] ?_
       obtain ⟨y12, hy4, h14⟩ := bindS h13
       refine kCG (some 17) (args := [.ptr 0 0, iL x0.a4_.a0_, iL 4]) (v := .tup []) (H2 := [.box (q12 x1 x2 x3 x4 x5 x6 x7 x8 x9 x10 x11 x12 [lsv encSt57 2 x13, lsv encSt59 3 x14, lsv encSt61 3 x15, lT x16, lI x17, .vc 4, .bool y12.1]), .gone, .gone, .box (encSt65 x0.a4_), vecL (encI .u8) 1 5 y12.2]) [0, 2] (bund_writer__put_s0_ok hy4) ?_
       refine kEN ?_
       refine kR ?_
       refine kC 3 [0,10,11,18,20] ?_
       obtain ⟨y5, hy5, h15⟩ := bindS h14
       refine kCG (some 21) (args := [.ptr 0 0, iL x0.a4_.a1_, iL 4]) (v := .tup []) (H2 := [.box (q12 x1 x2 x3 x4 x5 x6 x7 x8 x9 x10 x11 x12 [lsv encSt57 2 x13, lsv encSt59 3 x14, lsv encSt61 3 x15, lT x16, lI x17, .vc 5, .bool y5.1]), .gone, .gone, .box (encSt65 x0.a4_), .gone, vecL (encI .u8) 1 5 y5.2]) [0, 4] (bund_writer__put_s0_ok hy5) ?_
       refine kE ?_
       refine PJ.blockNormal ?_
       refine PJ.next ?_
       refine kR ?_
       refine kC 2 [0,10,11] ?_
       refine kE ?_
       obtain rfl := oi h15
       refine kW (L2 := [(0, .ptr 0 0), (10, .agg (encSt66 x0)), (11, iL (IntKind.wrap .i64 (4 + 1)))]) (H2 := [.box (q12 x1 x2 x3 x4 x5 x6 x7 x8 x9 x10 x11 x12 [lsv encSt57 2 x13, lsv encSt59 3 x14, lsv encSt61 3 x15, lT x16, lI x17, .vc 2, .bool y5.1]), .gone, vecL (encI .u8) 1 5 y5.2]) hFH hFD [0, 1, 5] ?_
       exact kLN [0, 10, 11]
     ·have h16 := condT hb3 h3
      refine RJ.pin 11 (kd := .i64) (by kernel_rfl) (of_decide_eq_true hb3) ?_
      refine kC 3 [0,5,10,11] ?_
      refine kEN ?_
      refine kSR ?_
      refine kC 3 [0,5,10,11,14,16] ?_
      obtain ⟨y11, hy6, h17⟩ := bindS h16
      refine kCG (some 17) (args := [.ptr 0 0, iL x0.a3_.a0_, iL 4]) (v := .tup []) (H2 := [.box (q12 x1 x2 x3 x4 x5 x6 x7 x8 x9 x10 x11 x12 [lsv encSt57 2 x13, lsv encSt59 3 x14, lsv encSt61 3 x15, lT x16, lI x17, .vc 4, .bool y11.1]), .gone, .gone, .box (encSt65 x0.a3_), vecL (encI .u8) 1 5 y11.2]) [0, 2] (bund_writer__put_s0_ok hy6) ?_
      refine kEN ?_
      refine kR ?_
      refine kC 3 [0,10,11,18,20] ?_
      obtain ⟨y4, hy7, h18⟩ := bindS h17
      refine kCG (some 21) (args := [.ptr 0 0, iL x0.a3_.a1_, iL 4]) (v := .tup []) (H2 := [.box (q12 x1 x2 x3 x4 x5 x6 x7 x8 x9 x10 x11 x12 [lsv encSt57 2 x13, lsv encSt59 3 x14, lsv encSt61 3 x15, lT x16, lI x17, .vc 5, .bool y4.1]), .gone, .gone, .box (encSt65 x0.a3_), .gone, vecL (encI .u8) 1 5 y4.2]) [0, 4] (bund_writer__put_s0_ok hy7) ?_
      refine kE ?_
      refine PJ.blockNormal ?_
      refine PJ.next ?_
      refine kR ?_
      refine kC 2 [0,10,11] ?_
      refine kE ?_
      obtain rfl := oi h18
      refine kW (L2 := [(0, .ptr 0 0), (10, .agg (encSt66 x0)), (11, iL (IntKind.wrap .i64 (3 + 1)))]) (H2 := [.box (q12 x1 x2 x3 x4 x5 x6 x7 x8 x9 x10 x11 x12 [lsv encSt57 2 x13, lsv encSt59 3 x14, lsv encSt61 3 x15, lT x16, lI x17, .vc 2, .bool y4.1]), .gone, vecL (encI .u8) 1 5 y4.2]) hFH hFD [0, 1, 5] ?_
      exact kLN [0, 10, 11]
    ·have h19 := condT hb2 h2
     refine RJ.pin 11 (kd := .i64) (by kernel_rfl) (of_decide_eq_true hb2) ?_
     refine kC 3 [0,5,10,11] ?_
     refine kEN ?_
     refine kSR ?_
     refine kC 3 [0,5,10,11,14,16] ?_
     obtain ⟨y10, hy8, h20⟩ := bindS h19
     refine kCG (some 17) (args := [.ptr 0 0, iL x0.a2_.a0_, iL 4]) (v := .tup []) (H2 := [.box (q12 x1 x2 x3 x4 x5 x6 x7 x8 x9 x10 x11 x12 [lsv encSt57 2 x13, lsv encSt59 3 x14, lsv encSt61 3 x15, lT x16, lI x17, .vc 4, .bool y10.1]), .gone, .gone, .box (encSt65 x0.a2_), vecL (encI .u8) 1 5 y10.2]) [0, 2] (bund_writer__put_s0_ok hy8) ?_
     refine kEN ?_
     refine kR ?_
     refine kC 3 [0,10,11,18,20] ?_
     obtain ⟨y3, hy9, h21⟩ := bindS h20
     refine kCG (some 21) (args := [.ptr 0 0, iL x0.a2_.a1_, iL 4]) (v := .tup []) (H2 := [.box (q12 x1 x2 x3 x4 x5 x6 x7 x8 x9 x10 x11 x12 [lsv encSt57 2 x13, lsv encSt59 3 x14, lsv encSt61 3 x15, lT x16, lI x17, .vc 5, .bool y3.1]), .gone, .gone, .box (encSt65 x0.a2_), .gone, vecL (encI .u8) 1 5 y3.2]) [0, 4] (bund_writer__put_s0_ok hy9) ?_
     refine kE ?_
     refine PJ.blockNormal ?_
     refine PJ.next ?_
     refine kR ?_
     refine kC 2 [0,10,11] ?_
     refine kE ?_
     obtain rfl := oi h21
     refine kW (L2 := [(0, .ptr 0 0), (10, .agg (encSt66 x0)), (11, iL (IntKind.wrap .i64 (2 + 1)))]) (H2 := [.box (q12 x1 x2 x3 x4 x5 x6 x7 x8 x9 x10 x11 x12 [lsv encSt57 2 x13, lsv encSt59 3 x14, lsv encSt61 3 x15, lT x16, lI x17, .vc 2, .bool y3.1]), .gone, vecL (encI .u8) 1 5 y3.2]) hFH hFD [0, 1, 5] ?_
     exact kLN [0, 10, 11]
   ·have h22 := condT hb1 h1
    refine RJ.pin 11 (kd := .i64) (by kernel_rfl) (of_decide_eq_true hb1) ?_
    refine kC 3 [0,5,10,11] ?_
    refine kEN ?_
    refine kSR ?_
    refine kC 3 [0,5,10,11,14,16] ?_
    obtain ⟨y9, hy10, h23⟩ := bindS h22
    refine kCG (some 17) (args := [.ptr 0 0, iL x0.a1_.a0_, iL 4]) (v := .tup []) (H2 := [.box (q12 x1 x2 x3 x4 x5 x6 x7 x8 x9 x10 x11 x12 [lsv encSt57 2 x13, lsv encSt59 3 x14, lsv encSt61 3 x15, lT x16, lI x17, .vc 4, .bool y9.1]), .gone, .gone, .box (encSt65 x0.a1_), vecL (encI .u8) 1 5 y9.2]) [0, 2] (bund_writer__put_s0_ok hy10) ?_
    refine kEN ?_
    refine kR ?_
    refine kC 3 [0,10,11,18,20] ?_
    obtain ⟨y2, hy11, h24⟩ := bindS h23
    refine kCG (some 21) (args := [.ptr 0 0, iL x0.a1_.a1_, iL 4]) (v := .tup []) (H2 := [.box (q12 x1 x2 x3 x4 x5 x6 x7 x8 x9 x10 x11 x12 [lsv encSt57 2 x13, lsv encSt59 3 x14, lsv encSt61 3 x15, lT x16, lI x17, .vc 5, .bool y2.1]), .gone, .gone, .box (encSt65 x0.a1_), .gone, vecL (encI .u8) 1 5 y2.2]) [0, 4] (bund_writer__put_s0_ok hy11) ?_
    refine kE ?_
    refine PJ.blockNormal ?_
    refine PJ.next ?_
    refine kR ?_
    refine kC 2 [0,10,11] ?_
    refine kE ?_
    obtain rfl := oi h24
    refine kW (L2 := [(0, .ptr 0 0), (10, .agg (encSt66 x0)), (11, iL (IntKind.wrap .i64 (1 + 1)))]) (H2 := [.box (q12 x1 x2 x3 x4 x5 x6 x7 x8 x9 x10 x11 x12 [lsv encSt57 2 x13, lsv encSt59 3 x14, lsv encSt61 3 x15, lT x16, lI x17, .vc 2, .bool y2.1]), .gone, vecL (encI .u8) 1 5 y2.2]) hFH hFD [0, 1, 5] ?_
    exact kLN [0, 10, 11]
  ·have h25 := condT hb0 h0
   refine RJ.pin 11 (kd := .i64) (by kernel_rfl) (of_decide_eq_true hb0) ?_
   refine kC 3 [0,5,10,11] ?_
   refine kEN ?_
   refine kSR ?_
   refine kC 3 [0,5,10,11,14,16] ?_
   obtain ⟨y8, hy12, h26⟩ := bindS h25
   refine kCG (some 17) (args := [.ptr 0 0, iL x0.a0_.a0_, iL 4]) (v := .tup []) (H2 := [.box (q12 x1 x2 x3 x4 x5 x6 x7 x8 x9 x10 x11 x12 [lsv encSt57 2 x13, lsv encSt59 3 x14, lsv encSt61 3 x15, lT x16, lI x17, .vc 4, .bool y8.1]), .gone, .gone, .box (encSt65 x0.a0_), vecL (encI .u8) 1 5 y8.2]) [0, 2] (bund_writer__put_s0_ok hy12) ?_
   refine kEN ?_
   refine kR ?_
   refine kC 3 [0,10,11,18,20] ?_
   obtain ⟨y1, hy13, h27⟩ := bindS h26
   refine kCG (some 21) (args := [.ptr 0 0, iL x0.a0_.a1_, iL 4]) (v := .tup []) (H2 := [.box (q12 x1 x2 x3 x4 x5 x6 x7 x8 x9 x10 x11 x12 [lsv encSt57 2 x13, lsv encSt59 3 x14, lsv encSt61 3 x15, lT x16, lI x17, .vc 5, .bool y1.1]), .gone, .gone, .box (encSt65 x0.a0_), .gone, vecL (encI .u8) 1 5 y1.2]) [0, 4] (bund_writer__put_s0_ok hy13) ?_
   refine kE ?_
   refine PJ.blockNormal ?_
   refine PJ.next ?_
   refine kR ?_
   refine kC 2 [0,10,11] ?_
   refine kE ?_
   obtain rfl := oi h27
   refine kW (L2 := [(0, .ptr 0 0), (10, .agg (encSt66 x0)), (11, iL (IntKind.wrap .i64 (0 + 1)))]) (H2 := [.box (q12 x1 x2 x3 x4 x5 x6 x7 x8 x9 x10 x11 x12 [lsv encSt57 2 x13, lsv encSt59 3 x14, lsv encSt61 3 x15, lT x16, lI x17, .vc 2, .bool y1.1]), .gone, vecL (encI .u8) 1 5 y1.2]) hFH hFD [0, 1, 5] ?_
   exact kLN [0, 10, 11]
 ·refine kF ?_
  refine K.exit 0 (by kernel_rfl) ?_
  refine PJ.passExit ?_
  obtain rfl := oi h8
  refine PJ.loopOut (fun e => nomatch e) (fun he0 => ?_)
  have h28 := congrArg some he0
  refine PJ.blockOut ?_
  obtain rfl := oi h28
  exact K.retV (H0 := [.box (q12 x1 x2 x3 x4 x5 x6 x7 x8 x9 x10 x11 x12 [lsv encSt57 2 x13, lsv encSt59 3 x14, lsv encSt61 3 x15, lT x16, lI x17, .vc 1, .bool x18]), vecL (encI .u8) 1 5 x19]) [0, 1, 2] (.inl rfl) hFn hFH hFD (by kernel_rfl) (v1 := .tup []) (by kernel_rfl) (by kernel_rfl) (by kernel_rfl) (by decide) (by kernel_rfl) (by kernel_rfl) (by kernel_rfl) (by kernel_rfl) (by kernel_rfl)
structure St48 where
 a0_ : Int
 a1_ : Int
 a2_ : Int
 a3_ : Int
 deriving Inhabited, DecidableEq
def encSt48 (x : St48) : List SV := [.int .u8 x.a0_, .int .u8 x.a1_, .int .u8 x.a2_, .int .u8 x.a3_]
theorem encSt48_len (x : St48) : (encSt48 x).length = 4 := rfl
def crc_Step (x0 : Int) (x1 : Int) : Option (Int) :=
 (Option.bind (loopN (fun (s0 : Int × Int) => (bif (decide (s0.2 < 8)) then (Option.bind (bif (decide ((bits .and .u32 s0.1 1) = 1)) then (some (bits .xor .u32 (Int.fdiv s0.1 2) 3988292384)) else (some (Int.fdiv s0.1 2))) fun (s1 : Int) => (some (.inl (s1, (IntKind.wrap .i64 (s0.2 + 1)))))) else (some (.inr s0.1)))) big ((bits .xor .u32 x0 (IntKind.wrap .u32 x1)), 0)) fun (s2 : Int) => (some s2))
theorem crc_Step_ok {x0 : Int} {x1 : Int} {r : Int} (h : crc_Step x0 x1 = some r) : SC Try.prog 82 [.int .u32 x0, .int .u8 x1] [] (.int .u32 r) [] := by
 refine kFn (fn := Try.f82) (fun F hFn hFH hFD => ?_)
 unfold crc_Step at h
 refine kSR ?_
 refine kC 1 [0,1,4] ?_
 refine kEN ?_
 refine kSR ?_
 refine kC 5 [0,4] ?_
 refine kEN ?_
 obtain ⟨s2, hy0, h0⟩ := bindS h
 refine K.cutN (by kernel_rfl) (fun (s2 : Int) => ([(0, .int .u32 s2), (4, .int .u32 0)], [])) s2 ?_ ?_
 ·refine kSR ?_
  refine kC 1 [0,4,10] ?_
  refine kEN ?_
  refine kb 0 ?_
  refine kl (fun (s0 : Int × Int) => ([(0, .int .u32 s0.1), (4, .int .u32 0), (10, iL s0.2)], [])) hy0 [0, 4, 10] (fun s0 x91 hs0 => ?_)
  refine kSR ?_
  refine kC 1 [0,4,10,11] ?_
  refine kEN ?_
  refine kS ?_
  refine kBJ 11 hs0 (fun h1 => ?_) (fun h2 => ?_)
  ·refine kT ?_
   refine kK ?_
   refine PJ.next ?_
   obtain ⟨s1, hy1, h3⟩ := bindS h1
   refine K.cutN (by kernel_rfl) (fun (s1 : Int) => ([(0, .int .u32 s1), (4, .int .u32 0), (10, iL s0.2)], [])) s1 ?_ ?_
   ·refine kb 1 ?_
    refine kSR ?_
    refine kC 3 [0,4,5,10] ?_
    refine kEN ?_
    refine kSR ?_
    refine kC 3 [0,4,5,10] ?_
    refine kEN ?_
    refine kSR ?_
    refine kC 2 [0,4,10,17] ?_
    refine kEN ?_
    refine kBJ 17 hy1 (fun h4 => ?_) (fun h5 => ?_)
    ·refine kT ?_
     refine kR ?_
     refine kC 3 [0,4,10] ?_
     refine kE ?_
     refine PJ.blockNormal ?_
     obtain rfl := oi h4
     exact kN [0, 4, 10]
    ·refine kF ?_
     refine kK ?_
     refine PJ.blockNormal ?_
     obtain rfl := oi h5
     exact kN [0, 4, 10]
   ·refine kR ?_
    refine kC 2 [0,4,10] ?_
    refine kE ?_
    obtain rfl := oi h3
    exact kLN [0, 4, 10]
  ·refine kF ?_
   refine K.exit 0 (by kernel_rfl) ?_
   refine PJ.passExit ?_
   obtain rfl := oi h2
   refine PJ.loopOut (fun e => nomatch e) (fun he0 => ?_)
   have h6 := congrArg some he0
   refine PJ.blockOut ?_
   obtain rfl := oi h6
   exact kN [0, 4]
 ·refine kSR ?_
  refine kC 2 [4] ?_
  refine kEN ?_
  refine kX ?_
  obtain rfl := oi h0
  exact kZ hFn hFH hFD
def crc_On_1_s0 (x0 : Int) (x1 : Int) : Option (Int) :=
 (Option.bind (crc_Step x1 x0) fun y0 => (some y0))
theorem crc_On_1_s0_ok {x0 : Int} {x1 : Int} {r : Int} (h : crc_On_1_s0 x0 x1 = some r) : SC Try.prog 81 [.int .u8 x0, .ptr 0 0] [.box [.int .u32 x1]] (.tup []) [.box [.int .u32 r]] := by
 refine kFn (fn := Try.f81) (fun F hFn hFH hFD => ?_)
 unfold crc_On_1_s0 at h
 refine kR ?_
 refine kC 2 [1,3,4] ?_
 obtain ⟨y0, hy0, h0⟩ := bindS h
 refine kA 5 (crc_Step_ok hy0) ?_
 refine kC 1 [] ?_
 refine kE ?_
 obtain rfl := oi h0
 exact K.retV (H0 := [.box [.int .u32 x1]]) [0] (.inl rfl) hFn hFH hFD (by kernel_rfl) (v1 := .tup []) (by kernel_rfl) (by kernel_rfl) (by kernel_rfl) (by decide) (by kernel_rfl) (by kernel_rfl) (by kernel_rfl) (by kernel_rfl) (by kernel_rfl)
def crc_through_s0 (x0 : List Int) (x1 : Int) : Option (Int) :=
 (loopN (fun (s0 : Int × Int) => (bif (decide (s0.1 < (x0.length : Int))) then (bif inR s0.1 x0.length then (Option.bind (crc_On_1_s0 (nth x0 s0.1) s0.2) fun y0 => (some (.inl ((IntKind.wrap .i64 (s0.1 + 1)), y0)))) else none) else (some (.inr s0.2)))) big (0, x1))
theorem crc_through_s0_ok {x0 : List Int} {x1 : Int} {r : Int} (h : crc_through_s0 x0 x1 = some r) : SC Try.prog 80 [lB x0, .fn (.func 81) [] [.ptr 0 0]] [.box [.int .u32 x1]] (.tup []) [.box [.int .u32 r]] := by
 refine kFn (fn := Try.f80) (fun F hFn hFH hFD => ?_)
 unfold crc_through_s0 at h
 refine kSR ?_
 refine kC 3 [1,6,7,8] ?_
 refine kEN ?_
 refine kb 0 ?_
 refine kl (fun (s0 : Int × Int) => ([(1, .fn (.func 81) [] [.ptr 0 0]), (6, lB x0), (7, iL (x0.length : Int)), (8, iL s0.1)], [.box [.int .u32 s0.2]])) h [1, 6, 7, 8] (fun s0 x21 hs0 => ?_)
 refine kSR ?_
 refine kC 1 [1,6,7,8,9] ?_
 refine kEN ?_
 refine kS ?_
 refine kBJ 9 hs0 (fun h0 => ?_) (fun h1 => ?_)
 ·refine kT ?_
  refine kK ?_
  refine PJ.next ?_
  refine kS ?_
  refine kb 1 ?_
  refine kSR ?_
  obtain ⟨hm, h2⟩ := asrt h0
  refine kI 10 (encI_len .u8) hm ?_
  refine kC 2 [1,5,6,7,8] ?_
  refine kEN ?_
  refine kR ?_
  refine kC 2 [1,6,7,8,12,13] ?_
  obtain ⟨y0, hy0, h3⟩ := bindS h2
  refine kCG (some 14) (args := [.int .u8 (nth x0 s0.1), .ptr 0 0]) (v := .tup []) (H2 := [.box [.int .u32 y0]]) [0] (crc_On_1_s0_ok hy0) ?_
  refine kE ?_
  refine PJ.blockNormal ?_
  refine PJ.next ?_
  refine kR ?_
  refine kC 2 [1,6,7,8] ?_
  refine kE ?_
  obtain rfl := oi h3
  exact kLN [1, 6, 7, 8]
 ·refine kF ?_
  refine K.exit 0 (by kernel_rfl) ?_
  refine PJ.passExit ?_
  obtain rfl := oi h1
  refine PJ.loopOut (fun e => nomatch e) (fun he0 => ?_)
  have h4 := congrArg some he0
  refine PJ.blockOut ?_
  obtain rfl := oi h4
  exact K.retV (H0 := [.box [.int .u32 x1]]) [0] (.inl rfl) hFn hFH hFD (by kernel_rfl) (v1 := .tup []) (by kernel_rfl) (by kernel_rfl) (by kernel_rfl) (by decide) (by kernel_rfl) (by kernel_rfl) (by kernel_rfl) (by kernel_rfl) (by kernel_rfl)
def crc_On (x0 : Int) (x1 : List Int) : Option (Int) :=
 (Option.bind (crc_through_s0 x1 (bits .xor .u32 (4294967295) x0)) fun y0 => (some (bits .xor .u32 (4294967295) y0)))
theorem crc_On_ok {x0 : Int} {x1 : List Int} {r : Int} (h : crc_On x0 x1 = some r) : SC Try.prog 76 [.int .u32 x0, lB x1] [] (.int .u32 r) [] := by
 refine kFn (fn := Try.f76) (fun F hFn hFH hFD => ?_)
 unfold crc_On at h
 refine kSR ?_
 refine kC 2 [1,2,4] ?_
 refine kEN ?_
 refine kSR ?_
 refine kC 3 [1,2,4] ?_
 refine kEN ?_
 refine kSR ?_
 refine kC 2 [2,4,7,8] ?_
 obtain ⟨y0, hy0, h0⟩ := bindS h
 refine kCG (some 9) (args := [lB x1, .fn (.func 81) [] [.ptr 0 0]]) (v := .tup []) (H2 := [.box [.int .u32 y0]]) [0] (crc_through_s0_ok hy0) ?_
 refine kEN ?_
 refine kSR ?_
 refine kC 3 [4] ?_
 refine kEN ?_
 refine kX ?_
 obtain rfl := oi h0
 exact kZ hFn hFH hFD
def crc_Of (x0 : List Int) : Option (Int) :=
 (Option.bind (crc_On 0 x0) fun y0 => (some y0))
theorem crc_Of_ok {x0 : List Int} {r : Int} (h : crc_Of x0 = some r) : SC Try.prog 65 [lB x0] [] (.int .u32 r) [] := by
 refine kFn (fn := Try.f65) (fun F hFn hFH hFD => ?_)
 unfold crc_Of at h
 refine kSR ?_
 refine kC 1 [0,2] ?_
 refine kEN ?_
 refine kSR ?_
 refine kC 1 [2,3] ?_
 obtain ⟨y0, hy0, h0⟩ := bindS h
 refine kA 4 (crc_On_ok hy0) ?_
 refine kC 1 [2] ?_
 refine kEN ?_
 refine kX ?_
 obtain rfl := oi h0
 exact kZ hFn hFH hFD
def crc_tail (x0 : List Int) : Option (St48) :=
 (Option.bind (crc_Of x0) fun y0 => (some (⟨(IntKind.wrap .u8 y0), (IntKind.wrap .u8 (Int.fdiv y0 256)), (IntKind.wrap .u8 (Int.fdiv y0 65536)), (IntKind.wrap .u8 (Int.fdiv y0 16777216))⟩ : St48)))
theorem crc_tail_ok {x0 : List Int} {r : St48} (h : crc_tail x0 = some r) : SC Try.prog 47 [lB x0] [] (.agg (encSt48 r)) [] := by
 refine kFn (fn := Try.f47) (fun F hFn hFH hFD => ?_)
 unfold crc_tail at h
 refine kSR ?_
 refine kC 1 [0,2] ?_
 refine kEN ?_
 refine kSR ?_
 refine kC 1 [2,4] ?_
 obtain ⟨y0, hy0, h0⟩ := bindS h
 refine kA 5 (crc_Of_ok hy0) ?_
 refine kC 1 [2,3] ?_
 refine kEN ?_
 refine kSR ?_
 refine kC 13 [2] ?_
 refine kEN ?_
 refine kX ?_
 obtain rfl := oi h0
 exact kZ hFn hFH hFD
def crc_Put (x0 : List Int) : Option (List Int) :=
 (Option.bind (crc_tail x0) fun y0 => (Option.bind (slices_Clone x0) fun y1 => (bif room (y1.length + ([y0.a0_, y0.a1_, y0.a2_, y0.a3_] : List Int).length) then (some (y1 ++ ([y0.a0_, y0.a1_, y0.a2_, y0.a3_] : List Int))) else none)))
theorem crc_Put_ok {x0 : List Int} {r : List Int} (h : crc_Put x0 = some r) : SC Try.prog 32 [lB x0] [] (lB r) [] := by
 refine kFn (fn := Try.f32) (fun F hFn hFH hFD => ?_)
 unfold crc_Put at h
 refine kSR ?_
 refine kC 1 [0,2] ?_
 refine kEN ?_
 refine kSR ?_
 refine kC 1 [0,2,4] ?_
 obtain ⟨y0, hy0, h0⟩ := bindS h
 refine kA 5 (crc_tail_ok hy0) ?_
 refine kC 2 [0,2,3] ?_
 refine kEN ?_
 refine kS ?_
 refine J.keep [0, 2, 3] (L2 := [(0, lB x0), (2, .nl), (3, .ptr 0 0)]) (by kernel_rfl) ?_
 refine K.draw (by kernel_rfl) (by kernel_rfl) (by kernel_rfl) (H2 := [.box (encSt48 y0), .res, .res]) (by kernel_rfl) (n := 1) (by kernel_rfl) ?_
 refine kD 1 ?_
 obtain ⟨y1, hy1, h1⟩ := bindS h0
 refine RJ.callM (d := (some 7)) (f := 48) (args := [lB x0]) (v0 := .vc 0) (v := .vc 1) (en0 := .vec y1.length 1 5 (y1.flatMap (encI .u8))) (tr2 := [([], []), ([], [2, 3, 2, 3])]) (H2 := [.box (encSt48 y0), vecL (encI .u8) 1 5 y1, .res]) 1 (by kernel_rfl) (by kernel_rfl) (by kernel_rfl) (by kernel_rfl) (.cons (Le.refl _) .nil) (slices_Clone_ok_o hy1) (by kernel_rfl) (by kernel_rfl) ?_
 refine kD 1 ?_
 obtain ⟨hm, h2⟩ := asrt h1
 refine RJ.rel (d := (some 9)) (ef := ⟨.vc 2, [1, 0], [(1, .gone), (2, .vec (y1.length + ([y0.a0_, y0.a1_, y0.a2_, y0.a3_] : List Int).length) 1 5 (y1.flatMap (encI .u8) ++ ([y0.a0_, y0.a1_, y0.a2_, y0.a3_] : List Int).flatMap (encI .u8)))]⟩) (ef' := ⟨.vc 2, [1, 0], [(1, .gone), (2, vecL (encI .u8) 1 5 (y1 ++ ([y0.a0_, y0.a1_, y0.a2_, y0.a3_] : List Int)))]⟩) (c := roomB (y1.length + ([y0.a0_, y0.a1_, y0.a2_, y0.a3_] : List Int).length)) (tr2 := [([], []), ([], [2, 3, 2, 3]), ([], []), ([2, 3, 0, 1], [2, 3, 4, 5, 4, 5])]) (H2 := [.box (encSt48 y0), .gone, vecL (encI .u8) 1 5 (y1 ++ ([y0.a0_, y0.a1_, y0.a2_, y0.a3_] : List Int))]) (by kernel_rfl) (roomB_of_room hm) (fun hc => N.app) (by kernel_rfl) ?_
 refine kD 1 ?_
 refine kEN ?_
 refine kX ?_
 obtain rfl := oi h2
 refine PJ.wk (Wk.freeze 2 (n := (y1 ++ ([y0.a0_, y0.a1_, y0.a2_, y0.a3_] : List Int)).length) (k := 1) (e := 5) (cs := (y1 ++ ([y0.a0_, y0.a1_, y0.a2_, y0.a3_] : List Int)).flatMap (encI .u8)) (by kernel_rfl)) ?_
 exact kZ hFn hFH hFD
def bund_Encode (x0 : St28) : Option ((List Int) × Int) :=
 (Option.bind (bund_newWriter_s0 x0) fun y0 => (Option.bind (loopN (fun (s0 : Int × (List Int) × Bool × (List Int) × Int × Int × Int × Int × Int × Int × Int × Int × Int × Int × Int × Int) => (bif (decide (s0.1 < 6)) then (bif (decide (s0.1 = 0)) then (Option.bind (bund_writer__words_s1 x0.Tag_ x0.S_.Zero_ x0.S_.Dec_ x0.S_.Group_ x0.S_.Minus_ x0.S_.Plus_ x0.S_.Percent_ x0.S_.Exp_ x0.Pats_.a0_ x0.Pats_.a1_ x0.Pats_.a2_ x0.Pats_.a3_ x0.Rules_ x0.Curs_ x0.Comps_ y0.1 s0.2.1 s0.2.2.1 s0.2.2.2.1) fun y6 => (some (.inl ((IntKind.wrap .i64 (0 + 1)), s0.2.1, y6.1, y6.2, (IntKind.wrap .i64 (56 + (s0.2.2.2.1.length : Int))), (IntKind.wrap .i64 ((y6.2.length : Int) - (s0.2.2.2.1.length : Int))), s0.2.2.2.2.2.2.1, s0.2.2.2.2.2.2.2.1, s0.2.2.2.2.2.2.2.2.1, s0.2.2.2.2.2.2.2.2.2.1, s0.2.2.2.2.2.2.2.2.2.2.1, s0.2.2.2.2.2.2.2.2.2.2.2.1, s0.2.2.2.2.2.2.2.2.2.2.2.2.1, s0.2.2.2.2.2.2.2.2.2.2.2.2.2.1, s0.2.2.2.2.2.2.2.2.2.2.2.2.2.2.1, s0.2.2.2.2.2.2.2.2.2.2.2.2.2.2.2)))) else (bif (decide (s0.1 = 1)) then (Option.bind (bund_writer__names_s0 x0.Tag_ x0.S_.Zero_ x0.S_.Dec_ x0.S_.Group_ x0.S_.Minus_ x0.S_.Plus_ x0.S_.Percent_ x0.S_.Exp_ x0.Pats_.a0_ x0.Pats_.a1_ x0.Pats_.a2_ x0.Pats_.a3_ x0.Rules_ x0.Curs_ x0.Comps_ y0.1 s0.2.1 s0.2.2.1 s0.2.2.2.1) fun y7 => (some (.inl ((IntKind.wrap .i64 (1 + 1)), (cut s0.2.1 1 (s0.2.1.length : Int)), y7.1, y7.2, s0.2.2.2.2.1, s0.2.2.2.2.2.1, (IntKind.wrap .i64 (56 + (s0.2.2.2.1.length : Int))), (IntKind.wrap .i64 ((y7.2.length : Int) - (s0.2.2.2.1.length : Int))), s0.2.2.2.2.2.2.2.2.1, s0.2.2.2.2.2.2.2.2.2.1, s0.2.2.2.2.2.2.2.2.2.2.1, s0.2.2.2.2.2.2.2.2.2.2.2.1, s0.2.2.2.2.2.2.2.2.2.2.2.2.1, s0.2.2.2.2.2.2.2.2.2.2.2.2.2.1, s0.2.2.2.2.2.2.2.2.2.2.2.2.2.2.1, s0.2.2.2.2.2.2.2.2.2.2.2.2.2.2.2)))) else (bif (decide (s0.1 = 2)) then (Option.bind (bund_writer__patterns_s0 x0.Tag_ x0.S_.Zero_ x0.S_.Dec_ x0.S_.Group_ x0.S_.Minus_ x0.S_.Plus_ x0.S_.Percent_ x0.S_.Exp_ x0.Pats_.a0_ x0.Pats_.a1_ x0.Pats_.a2_ x0.Pats_.a3_ x0.Rules_ x0.Curs_ x0.Comps_ y0.1 s0.2.1 s0.2.2.1 s0.2.2.2.1) fun y2 => (some (.inl ((IntKind.wrap .i64 (2 + 1)), y2.1, y2.2.1, y2.2.2, s0.2.2.2.2.1, s0.2.2.2.2.2.1, s0.2.2.2.2.2.2.1, s0.2.2.2.2.2.2.2.1, (IntKind.wrap .i64 (56 + (s0.2.2.2.1.length : Int))), (IntKind.wrap .i64 ((y2.2.2.length : Int) - (s0.2.2.2.1.length : Int))), s0.2.2.2.2.2.2.2.2.2.2.1, s0.2.2.2.2.2.2.2.2.2.2.2.1, s0.2.2.2.2.2.2.2.2.2.2.2.2.1, s0.2.2.2.2.2.2.2.2.2.2.2.2.2.1, s0.2.2.2.2.2.2.2.2.2.2.2.2.2.2.1, s0.2.2.2.2.2.2.2.2.2.2.2.2.2.2.2)))) else (bif (decide (s0.1 = 3)) then (Option.bind (bund_writer__rules_s0 x0.Tag_ x0.S_.Zero_ x0.S_.Dec_ x0.S_.Group_ x0.S_.Minus_ x0.S_.Plus_ x0.S_.Percent_ x0.S_.Exp_ x0.Pats_.a0_ x0.Pats_.a1_ x0.Pats_.a2_ x0.Pats_.a3_ x0.Rules_ x0.Curs_ x0.Comps_ y0.1 s0.2.1 s0.2.2.1 s0.2.2.2.1) fun y3 => (some (.inl ((IntKind.wrap .i64 (3 + 1)), y3.1, y3.2.1, y3.2.2, s0.2.2.2.2.1, s0.2.2.2.2.2.1, s0.2.2.2.2.2.2.1, s0.2.2.2.2.2.2.2.1, s0.2.2.2.2.2.2.2.2.1, s0.2.2.2.2.2.2.2.2.2.1, (IntKind.wrap .i64 (56 + (s0.2.2.2.1.length : Int))), (IntKind.wrap .i64 ((y3.2.2.length : Int) - (s0.2.2.2.1.length : Int))), s0.2.2.2.2.2.2.2.2.2.2.2.2.1, s0.2.2.2.2.2.2.2.2.2.2.2.2.2.1, s0.2.2.2.2.2.2.2.2.2.2.2.2.2.2.1, s0.2.2.2.2.2.2.2.2.2.2.2.2.2.2.2)))) else (bif (decide (s0.1 = 4)) then (Option.bind (bund_writer__currencies_s0 x0.Tag_ x0.S_.Zero_ x0.S_.Dec_ x0.S_.Group_ x0.S_.Minus_ x0.S_.Plus_ x0.S_.Percent_ x0.S_.Exp_ x0.Pats_.a0_ x0.Pats_.a1_ x0.Pats_.a2_ x0.Pats_.a3_ x0.Rules_ x0.Curs_ x0.Comps_ y0.1 s0.2.1 s0.2.2.1 s0.2.2.2.1) fun y4 => (some (.inl ((IntKind.wrap .i64 (4 + 1)), y4.1, y4.2.1, y4.2.2, s0.2.2.2.2.1, s0.2.2.2.2.2.1, s0.2.2.2.2.2.2.1, s0.2.2.2.2.2.2.2.1, s0.2.2.2.2.2.2.2.2.1, s0.2.2.2.2.2.2.2.2.2.1, s0.2.2.2.2.2.2.2.2.2.2.1, s0.2.2.2.2.2.2.2.2.2.2.2.1, (IntKind.wrap .i64 (56 + (s0.2.2.2.1.length : Int))), (IntKind.wrap .i64 ((y4.2.2.length : Int) - (s0.2.2.2.1.length : Int))), s0.2.2.2.2.2.2.2.2.2.2.2.2.2.2.1, s0.2.2.2.2.2.2.2.2.2.2.2.2.2.2.2)))) else (bif (decide (s0.1 = 5)) then (Option.bind (bund_writer__compacts_s0 x0.Tag_ x0.S_.Zero_ x0.S_.Dec_ x0.S_.Group_ x0.S_.Minus_ x0.S_.Plus_ x0.S_.Percent_ x0.S_.Exp_ x0.Pats_.a0_ x0.Pats_.a1_ x0.Pats_.a2_ x0.Pats_.a3_ x0.Rules_ x0.Curs_ x0.Comps_ y0.1 s0.2.1 s0.2.2.1 s0.2.2.2.1) fun y5 => (some (.inl ((IntKind.wrap .i64 (5 + 1)), y5.1, y5.2.1, y5.2.2, s0.2.2.2.2.1, s0.2.2.2.2.2.1, s0.2.2.2.2.2.2.1, s0.2.2.2.2.2.2.2.1, s0.2.2.2.2.2.2.2.2.1, s0.2.2.2.2.2.2.2.2.2.1, s0.2.2.2.2.2.2.2.2.2.2.1, s0.2.2.2.2.2.2.2.2.2.2.2.1, s0.2.2.2.2.2.2.2.2.2.2.2.2.1, s0.2.2.2.2.2.2.2.2.2.2.2.2.2.1, (IntKind.wrap .i64 (56 + (s0.2.2.2.1.length : Int))), (IntKind.wrap .i64 ((y5.2.2.length : Int) - (s0.2.2.2.1.length : Int))))))) else none)))))) else (some (.inr (s0.2.1, s0.2.2.1, s0.2.2.2.1, s0.2.2.2.2.1, s0.2.2.2.2.2.1, s0.2.2.2.2.2.2.1, s0.2.2.2.2.2.2.2.1, s0.2.2.2.2.2.2.2.2.1, s0.2.2.2.2.2.2.2.2.2.1, s0.2.2.2.2.2.2.2.2.2.2.1, s0.2.2.2.2.2.2.2.2.2.2.2.1, s0.2.2.2.2.2.2.2.2.2.2.2.2.1, s0.2.2.2.2.2.2.2.2.2.2.2.2.2.1, s0.2.2.2.2.2.2.2.2.2.2.2.2.2.2.1, s0.2.2.2.2.2.2.2.2.2.2.2.2.2.2.2))))) big (0, y0.2, false, ([] : List Int), 0, 0, 0, 0, 0, 0, 0, 0, 0, 0, 0, 0)) fun (s1 : (List Int) × Bool × (List Int) × Int × Int × Int × Int × Int × Int × Int × Int × Int × Int × Int × Int) => (Option.bind (bund_writer__head_s0 (⟨(⟨s1.2.2.2.1, s1.2.2.2.2.1⟩ : St65), (⟨s1.2.2.2.2.2.1, s1.2.2.2.2.2.2.1⟩ : St65), (⟨s1.2.2.2.2.2.2.2.1, s1.2.2.2.2.2.2.2.2.1⟩ : St65), (⟨s1.2.2.2.2.2.2.2.2.2.1, s1.2.2.2.2.2.2.2.2.2.2.1⟩ : St65), (⟨s1.2.2.2.2.2.2.2.2.2.2.2.1, s1.2.2.2.2.2.2.2.2.2.2.2.2.1⟩ : St65), (⟨s1.2.2.2.2.2.2.2.2.2.2.2.2.2.1, s1.2.2.2.2.2.2.2.2.2.2.2.2.2.2⟩ : St65)⟩ : St66) x0.Tag_ x0.S_.Zero_ x0.S_.Dec_ x0.S_.Group_ x0.S_.Minus_ x0.S_.Plus_ x0.S_.Percent_ x0.S_.Exp_ x0.Pats_.a0_ x0.Pats_.a1_ x0.Pats_.a2_ x0.Pats_.a3_ x0.Rules_ x0.Curs_ x0.Comps_ y0.1 s1.1 s1.2.1 ([69, 88, 76, 66] : List Int)) fun y1 => (bif y1.1 then (some (([] : List Int), 1)) else (bif room (y1.2.length + s1.2.2.1.length) then (Option.bind (crc_Put (y1.2 ++ s1.2.2.1)) fun y8 => (some (y8, 0))) else none)))))
theorem bund_Encode_ok {x0 : St28} {r : (List Int) × Int} (h : bund_Encode x0 = some r) : SC Try.prog 12 [.agg (encSt28 x0)] [] (.tup [lB r.1, iL r.2]) [] := by
 refine kFn (fn := Try.f12) (fun F hFn hFH hFD => ?_)
 unfold bund_Encode at h
 refine kSR ?_
 refine kC 3 [1,2,3] ?_
 refine kEN ?_
 refine kSR ?_
 refine kC 1 [2,3,10] ?_
 obtain ⟨y0, hy0, h6⟩ := bindS h
 refine kCG (some 11) (args := [.agg (encSt28 x0)]) (v := .ptr 1 0) (H2 := [.box (encSt28 x0), .box (q12 x0.Tag_ x0.S_.Zero_ x0.S_.Dec_ x0.S_.Group_ x0.S_.Minus_ x0.S_.Plus_ x0.S_.Percent_ x0.S_.Exp_ x0.Pats_.a0_ x0.Pats_.a1_ x0.Pats_.a2_ x0.Pats_.a3_ [lsv encSt57 2 x0.Rules_, lsv encSt59 3 x0.Curs_, lsv encSt61 3 x0.Comps_, lT y0.1, lI y0.2, .nl, .bool false])]) [] (bund_newWriter_s0_ok hy0) ?_
 refine kC 1 [2,3,4] ?_
 refine kEN ?_
 refine kSR ?_
 refine kC 1 [2,3,4,5] ?_
 refine kEN ?_
 obtain ⟨s1, hy1, h7⟩ := bindS h6
 refine K.cutN (by kernel_rfl) (fun (s1 : (List Int) × Bool × (List Int) × Int × Int × Int × Int × Int × Int × Int × Int × Int × Int × Int × Int) => ([(2, .nl), (3, iL 0), (4, .ptr 0 0), (5, .ptr 2 0)], [.box (q12 x0.Tag_ x0.S_.Zero_ x0.S_.Dec_ x0.S_.Group_ x0.S_.Minus_ x0.S_.Plus_ x0.S_.Percent_ x0.S_.Exp_ x0.Pats_.a0_ x0.Pats_.a1_ x0.Pats_.a2_ x0.Pats_.a3_ [lsv encSt57 2 x0.Rules_, lsv encSt59 3 x0.Curs_, lsv encSt61 3 x0.Comps_, lT y0.1, lI s1.1, .vc 1, .bool s1.2.1]), vecL (encI .u8) 1 5 s1.2.2.1, .box [iL s1.2.2.2.1, iL s1.2.2.2.2.1, iL s1.2.2.2.2.2.1, iL s1.2.2.2.2.2.2.1, iL s1.2.2.2.2.2.2.2.1, iL s1.2.2.2.2.2.2.2.2.1, iL s1.2.2.2.2.2.2.2.2.2.1, iL s1.2.2.2.2.2.2.2.2.2.2.1, iL s1.2.2.2.2.2.2.2.2.2.2.2.1, iL s1.2.2.2.2.2.2.2.2.2.2.2.2.1, iL s1.2.2.2.2.2.2.2.2.2.2.2.2.2.1, iL s1.2.2.2.2.2.2.2.2.2.2.2.2.2.2]])) s1 ?_ ?_
 ·refine kSR ?_
  refine kC 14 [2,3,4,5,24,25] ?_
  refine kEN ?_
  refine kb 0 ?_
  refine J.wk (Wk.vivBox 1 17 1 5 (cs := (q12 x0.Tag_ x0.S_.Zero_ x0.S_.Dec_ x0.S_.Group_ x0.S_.Minus_ x0.S_.Plus_ x0.S_.Percent_ x0.S_.Exp_ x0.Pats_.a0_ x0.Pats_.a1_ x0.Pats_.a2_ x0.Pats_.a3_ [lsv encSt57 2 x0.Rules_, lsv encSt59 3 x0.Curs_, lsv encSt61 3 x0.Comps_, lT y0.1, lI y0.2, .nl, .bool false])) (by kernel_rfl) (by kernel_rfl)) ?_
  refine J.wk (Wk.sel (L2 := [(2, .nl), (3, iL 0), (4, .ptr 0 0), (5, .ptr 2 0), (24, .agg [.fn (.func 25) [.ptr 0 0] [], .fn (.func 26) [.ptr 0 0] [], .fn (.func 27) [.ptr 0 0] [], .fn (.func 28) [.ptr 0 0] [], .fn (.func 29) [.ptr 0 0] [], .fn (.func 30) [.ptr 0 0] []]), (25, iL 0)]) (H2 := [.box (q12 x0.Tag_ x0.S_.Zero_ x0.S_.Dec_ x0.S_.Group_ x0.S_.Minus_ x0.S_.Plus_ x0.S_.Percent_ x0.S_.Exp_ x0.Pats_.a0_ x0.Pats_.a1_ x0.Pats_.a2_ x0.Pats_.a3_ [lsv encSt57 2 x0.Rules_, lsv encSt59 3 x0.Curs_, lsv encSt61 3 x0.Comps_, lT y0.1, lI y0.2, .vc 1, .bool false]), vecL (encI .u8) 1 5 ([] : List Int), .box [iL 0, iL 0, iL 0, iL 0, iL 0, iL 0, iL 0, iL 0, iL 0, iL 0, iL 0, iL 0]]) 0 (by rw [hFH]; rfl) hFD [1, 3, 2] (by kernel_rfl) (by kernel_rfl) (by decide) (by kernel_rfl) (by kernel_rfl) (by kernel_rfl) (by kernel_rfl)) ?_
  refine kl (fun (s0 : Int × (List Int) × Bool × (List Int) × Int × Int × Int × Int × Int × Int × Int × Int × Int × Int × Int × Int) => ([(2, .nl), (3, iL 0), (4, .ptr 0 0), (5, .ptr 2 0), (24, .agg [.fn (.func 25) [.ptr 0 0] [], .fn (.func 26) [.ptr 0 0] [], .fn (.func 27) [.ptr 0 0] [], .fn (.func 28) [.ptr 0 0] [], .fn (.func 29) [.ptr 0 0] [], .fn (.func 30) [.ptr 0 0] []]), (25, iL s0.1)], [.box (q12 x0.Tag_ x0.S_.Zero_ x0.S_.Dec_ x0.S_.Group_ x0.S_.Minus_ x0.S_.Plus_ x0.S_.Percent_ x0.S_.Exp_ x0.Pats_.a0_ x0.Pats_.a1_ x0.Pats_.a2_ x0.Pats_.a3_ [lsv encSt57 2 x0.Rules_, lsv encSt59 3 x0.Curs_, lsv encSt61 3 x0.Comps_, lT y0.1, lI s0.2.1, .vc 1, .bool s0.2.2.1]), vecL (encI .u8) 1 5 s0.2.2.2.1, .box [iL s0.2.2.2.2.1, iL s0.2.2.2.2.2.1, iL s0.2.2.2.2.2.2.1, iL s0.2.2.2.2.2.2.2.1, iL s0.2.2.2.2.2.2.2.2.1, iL s0.2.2.2.2.2.2.2.2.2.1, iL s0.2.2.2.2.2.2.2.2.2.2.1, iL s0.2.2.2.2.2.2.2.2.2.2.2.1, iL s0.2.2.2.2.2.2.2.2.2.2.2.2.1, iL s0.2.2.2.2.2.2.2.2.2.2.2.2.2.1, iL s0.2.2.2.2.2.2.2.2.2.2.2.2.2.2.1, iL s0.2.2.2.2.2.2.2.2.2.2.2.2.2.2.2]])) hy1 [2, 3, 4, 5, 24, 25] (fun s0 x235 hs0 => ?_)
  refine kSR ?_
  refine kC 1 [2,3,4,5,24,25,26] ?_
  refine kEN ?_
  refine kS ?_
  refine kBJ 26 hs0 (fun h0 => ?_) (fun h8 => ?_)
  ·refine kT ?_
   refine kK ?_
   refine PJ.next ?_
   refine kS ?_
   refine kb 1 ?_
   refine kSR ?_
   refine kC 1 [2,3,4,5,24,25,27] ?_
   cases hb0 : (decide (s0.1 = 0))
   ·have h1 := condF hb0 h0
    cases hb1 : (decide (s0.1 = 1))
    ·have h2 := condF hb1 h1
     cases hb2 : (decide (s0.1 = 2))
     ·have h3 := condF hb2 h2
      cases hb3 : (decide (s0.1 = 3))
      ·have h4 := condF hb3 h3
       cases hb4 : (decide (s0.1 = 4))
       ·have h5 := condF hb4 h4
        cases hb5 : (decide (s0.1 = 5))
        ·have h9 := condF hb5 h5
         cases h9
        ·have h10 := condT hb5 h5
         refine RJ.pin 25 (kd := .i64) (by kernel_rfl) (of_decide_eq_true hb5) ?_
         refine RJ.pin 27 (kd := .i64) (by kernel_rfl) (of_decide_eq_true hb5) ?_
         refine kC 3 [2,3,4,5,6,7,24,25] ?_
         refine kEN ?_
         refine kSR ?_
         refine kC 6 [2,3,4,5,6,7,8,24,25] ?_
         refine kEN ?_
         refine kSR ?_
         refine kC 1 [2,3,4,5,6,8,24,25,34] ?_
         obtain ⟨y5, hy2, h11⟩ := bindS h10
         refine kCG (some 35) (args := [.ptr 0 0]) (v := .tup []) (H2 := [.box (q12 x0.Tag_ x0.S_.Zero_ x0.S_.Dec_ x0.S_.Group_ x0.S_.Minus_ x0.S_.Plus_ x0.S_.Percent_ x0.S_.Exp_ x0.Pats_.a0_ x0.Pats_.a1_ x0.Pats_.a2_ x0.Pats_.a3_ [lsv encSt57 2 x0.Rules_, lsv encSt59 3 x0.Curs_, lsv encSt61 3 x0.Comps_, lT y0.1, lI y5.1, .vc 3, .bool y5.2.1]), .gone, .box [iL s0.2.2.2.2.1, iL s0.2.2.2.2.2.1, iL s0.2.2.2.2.2.2.1, iL s0.2.2.2.2.2.2.2.1, iL s0.2.2.2.2.2.2.2.2.1, iL s0.2.2.2.2.2.2.2.2.2.1, iL s0.2.2.2.2.2.2.2.2.2.2.1, iL s0.2.2.2.2.2.2.2.2.2.2.2.1, iL s0.2.2.2.2.2.2.2.2.2.2.2.2.1, iL s0.2.2.2.2.2.2.2.2.2.2.2.2.2.1, iL s0.2.2.2.2.2.2.2.2.2.2.2.2.2.2.1, iL s0.2.2.2.2.2.2.2.2.2.2.2.2.2.2.2], vecL (encI .u8) 1 5 y5.2.2]) [0, 1] (bund_writer__compacts_s0_ok hy2) ?_
         refine kEN ?_
         refine kR ?_
         refine kC 13 [2,3,4,5,24,25] ?_
         refine kE ?_
         refine PJ.blockNormal ?_
         refine PJ.next ?_
         refine kR ?_
         refine kC 2 [2,3,4,5,24,25] ?_
         refine kE ?_
         obtain rfl := oi h11
         refine kW (L2 := [(2, .nl), (3, iL 0), (4, .ptr 0 0), (5, .ptr 2 0), (24, .agg [.fn (.func 25) [.ptr 0 0] [], .fn (.func 26) [.ptr 0 0] [], .fn (.func 27) [.ptr 0 0] [], .fn (.func 28) [.ptr 0 0] [], .fn (.func 29) [.ptr 0 0] [], .fn (.func 30) [.ptr 0 0] []]), (25, iL (IntKind.wrap .i64 (5 + 1)))]) (H2 := [.box (q12 x0.Tag_ x0.S_.Zero_ x0.S_.Dec_ x0.S_.Group_ x0.S_.Minus_ x0.S_.Plus_ x0.S_.Percent_ x0.S_.Exp_ x0.Pats_.a0_ x0.Pats_.a1_ x0.Pats_.a2_ x0.Pats_.a3_ [lsv encSt57 2 x0.Rules_, lsv encSt59 3 x0.Curs_, lsv encSt61 3 x0.Comps_, lT y0.1, lI y5.1, .vc 1, .bool y5.2.1]), vecL (encI .u8) 1 5 y5.2.2, .box [iL s0.2.2.2.2.1, iL s0.2.2.2.2.2.1, iL s0.2.2.2.2.2.2.1, iL s0.2.2.2.2.2.2.2.1, iL s0.2.2.2.2.2.2.2.2.1, iL s0.2.2.2.2.2.2.2.2.2.1, iL s0.2.2.2.2.2.2.2.2.2.2.1, iL s0.2.2.2.2.2.2.2.2.2.2.2.1, iL s0.2.2.2.2.2.2.2.2.2.2.2.2.1, iL s0.2.2.2.2.2.2.2.2.2.2.2.2.2.1, iL ((IntKind.wrap .i64 (56 + (s0.2.2.2.1.length : Int)))), iL ((IntKind.wrap .i64 ((y5.2.2.length : Int) - (s0.2.2.2.1.length : Int))))]]) hFH hFD [0, 3, 2] ?_
         exact kLN [2, 3, 4, 5, 24, 25]
       ·have h12 := condT hb4 h4
        refine RJ.pin 25 (kd := .i64) (by kernel_rfl) (of_decide_eq_true hb4) ?_
        refine RJ.pin 27 (kd := .i64) (by kernel_rfl) (of_decide_eq_true hb4) ?_
        refine kC 3 [2,3,4,5,6,7,24,25] ?_
        refine kEN ?_
        refine kSR ?_
        refine kC 6 [2,3,4,5,6,7,8,24,25] ?_
        refine kEN ?_
        refine kSR ?_
        refine kC 1 [2,3,4,5,6,8,24,25,34] ?_
        obtain ⟨y4, hy3, h13⟩ := bindS h12
        refine kCG (some 35) (args := [.ptr 0 0]) (v := .tup []) (H2 := [.box (q12 x0.Tag_ x0.S_.Zero_ x0.S_.Dec_ x0.S_.Group_ x0.S_.Minus_ x0.S_.Plus_ x0.S_.Percent_ x0.S_.Exp_ x0.Pats_.a0_ x0.Pats_.a1_ x0.Pats_.a2_ x0.Pats_.a3_ [lsv encSt57 2 x0.Rules_, lsv encSt59 3 x0.Curs_, lsv encSt61 3 x0.Comps_, lT y0.1, lI y4.1, .vc 3, .bool y4.2.1]), .gone, .box [iL s0.2.2.2.2.1, iL s0.2.2.2.2.2.1, iL s0.2.2.2.2.2.2.1, iL s0.2.2.2.2.2.2.2.1, iL s0.2.2.2.2.2.2.2.2.1, iL s0.2.2.2.2.2.2.2.2.2.1, iL s0.2.2.2.2.2.2.2.2.2.2.1, iL s0.2.2.2.2.2.2.2.2.2.2.2.1, iL s0.2.2.2.2.2.2.2.2.2.2.2.2.1, iL s0.2.2.2.2.2.2.2.2.2.2.2.2.2.1, iL s0.2.2.2.2.2.2.2.2.2.2.2.2.2.2.1, iL s0.2.2.2.2.2.2.2.2.2.2.2.2.2.2.2], vecL (encI .u8) 1 5 y4.2.2]) [0, 1] (bund_writer__currencies_s0_ok hy3) ?_
        refine kEN ?_
        refine kR ?_
        refine kC 13 [2,3,4,5,24,25] ?_
        refine kE ?_
        refine PJ.blockNormal ?_
        refine PJ.next ?_
        refine kR ?_
        refine kC 2 [2,3,4,5,24,25] ?_
        refine kE ?_
        obtain rfl := oi h13
        refine kW (L2 := [(2, .nl), (3, iL 0), (4, .ptr 0 0), (5, .ptr 2 0), (24, .agg [.fn (.func 25) [.ptr 0 0] [], .fn (.func 26) [.ptr 0 0] [], .fn (.func 27) [.ptr 0 0] [], .fn (.func 28) [.ptr 0 0] [], .fn (.func 29) [.ptr 0 0] [], .fn (.func 30) [.ptr 0 0] []]), (25, iL (IntKind.wrap .i64 (4 + 1)))]) (H2 := [.box (q12 x0.Tag_ x0.S_.Zero_ x0.S_.Dec_ x0.S_.Group_ x0.S_.Minus_ x0.S_.Plus_ x0.S_.Percent_ x0.S_.Exp_ x0.Pats_.a0_ x0.Pats_.a1_ x0.Pats_.a2_ x0.Pats_.a3_ [lsv encSt57 2 x0.Rules_, lsv encSt59 3 x0.Curs_, lsv encSt61 3 x0.Comps_, lT y0.1, lI y4.1, .vc 1, .bool y4.2.1]), vecL (encI .u8) 1 5 y4.2.2, .box [iL s0.2.2.2.2.1, iL s0.2.2.2.2.2.1, iL s0.2.2.2.2.2.2.1, iL s0.2.2.2.2.2.2.2.1, iL s0.2.2.2.2.2.2.2.2.1, iL s0.2.2.2.2.2.2.2.2.2.1, iL s0.2.2.2.2.2.2.2.2.2.2.1, iL s0.2.2.2.2.2.2.2.2.2.2.2.1, iL ((IntKind.wrap .i64 (56 + (s0.2.2.2.1.length : Int)))), iL ((IntKind.wrap .i64 ((y4.2.2.length : Int) - (s0.2.2.2.1.length : Int)))), iL s0.2.2.2.2.2.2.2.2.2.2.2.2.2.2.1, iL s0.2.2.2.2.2.2.2.2.2.2.2.2.2.2.2]]) hFH hFD [0, 3, 2] ?_
        exact kLN [2, 3, 4, 5, 24, 25]
      ·have h14 := condT hb3 h3
       refine RJ.pin 25 (kd := .i64) (by kernel_rfl) (of_decide_eq_true hb3) ?_
       refine RJ.pin 27 (kd := .i64) (by kernel_rfl) (of_decide_eq_true hb3) ?_
       refine kC 3 [2,3,4,5,6,7,24,25] ?_
       refine kEN ?_
       refine kSR ?_
       refine kC 6 [2,3,4,5,6,7,8,24,25] ?_
       refine kEN ?_
       refine kSR ?_
       refine kC 1 [2,3,4,5,6,8,24,25,34] ?_
       obtain ⟨y3, hy4, h15⟩ := bindS h14
       refine kCG (some 35) (args := [.ptr 0 0]) (v := .tup []) (H2 := [.box (q12 x0.Tag_ x0.S_.Zero_ x0.S_.Dec_ x0.S_.Group_ x0.S_.Minus_ x0.S_.Plus_ x0.S_.Percent_ x0.S_.Exp_ x0.Pats_.a0_ x0.Pats_.a1_ x0.Pats_.a2_ x0.Pats_.a3_ [lsv encSt57 2 x0.Rules_, lsv encSt59 3 x0.Curs_, lsv encSt61 3 x0.Comps_, lT y0.1, lI y3.1, .vc 3, .bool y3.2.1]), .gone, .box [iL s0.2.2.2.2.1, iL s0.2.2.2.2.2.1, iL s0.2.2.2.2.2.2.1, iL s0.2.2.2.2.2.2.2.1, iL s0.2.2.2.2.2.2.2.2.1, iL s0.2.2.2.2.2.2.2.2.2.1, iL s0.2.2.2.2.2.2.2.2.2.2.1, iL s0.2.2.2.2.2.2.2.2.2.2.2.1, iL s0.2.2.2.2.2.2.2.2.2.2.2.2.1, iL s0.2.2.2.2.2.2.2.2.2.2.2.2.2.1, iL s0.2.2.2.2.2.2.2.2.2.2.2.2.2.2.1, iL s0.2.2.2.2.2.2.2.2.2.2.2.2.2.2.2], vecL (encI .u8) 1 5 y3.2.2]) [0, 1] (bund_writer__rules_s0_ok hy4) ?_
       refine kEN ?_
       refine kR ?_
       refine kC 13 [2,3,4,5,24,25] ?_
       refine kE ?_
       refine PJ.blockNormal ?_
       refine PJ.next ?_
       refine kR ?_
       refine kC 2 [2,3,4,5,24,25] ?_
       refine kE ?_
       obtain rfl := oi h15
       refine kW (L2 := [(2, .nl), (3, iL 0), (4, .ptr 0 0), (5, .ptr 2 0), (24, .agg [.fn (.func 25) [.ptr 0 0] [], .fn (.func 26) [.ptr 0 0] [], .fn (.func 27) [.ptr 0 0] [], .fn (.func 28) [.ptr 0 0] [], .fn (.func 29) [.ptr 0 0] [], .fn (.func 30) [.ptr 0 0] []]), (25, iL (IntKind.wrap .i64 (3 + 1)))]) (H2 := [.box (q12 x0.Tag_ x0.S_.Zero_ x0.S_.Dec_ x0.S_.Group_ x0.S_.Minus_ x0.S_.Plus_ x0.S_.Percent_ x0.S_.Exp_ x0.Pats_.a0_ x0.Pats_.a1_ x0.Pats_.a2_ x0.Pats_.a3_ [lsv encSt57 2 x0.Rules_, lsv encSt59 3 x0.Curs_, lsv encSt61 3 x0.Comps_, lT y0.1, lI y3.1, .vc 1, .bool y3.2.1]), vecL (encI .u8) 1 5 y3.2.2, .box [iL s0.2.2.2.2.1, iL s0.2.2.2.2.2.1, iL s0.2.2.2.2.2.2.1, iL s0.2.2.2.2.2.2.2.1, iL s0.2.2.2.2.2.2.2.2.1, iL s0.2.2.2.2.2.2.2.2.2.1, iL ((IntKind.wrap .i64 (56 + (s0.2.2.2.1.length : Int)))), iL ((IntKind.wrap .i64 ((y3.2.2.length : Int) - (s0.2.2.2.1.length : Int)))), iL s0.2.2.2.2.2.2.2.2.2.2.2.2.1, iL s0.2.2.2.2.2.2.2.2.2.2.2.2.2.1, iL s0.2.2.2.2.2.2.2.2.2.2.2.2.2.2.1, iL s0.2.2.2.2.2.2.2.2.2.2.2.2.2.2.2]]) hFH hFD [0, 3, 2] ?_
       exact kLN [2, 3, 4, 5, 24, 25]
     ·have h16 := condT hb2 h2
      refine RJ.pin 25 (kd := .i64) (by kernel_rfl) (of_decide_eq_true hb2) ?_
      refine RJ.pin 27 (kd := .i64) (by kernel_rfl) (of_decide_eq_true hb2) ?_
      refine kC 3 [2,3,4,5,6,7,24,25] ?_
      refine kEN ?_
      refine kSR ?_
      refine kC 6 [2,3,4,5,6,7,8,24,25] ?_
      refine kEN ?_
      refine kSR ?_
      refine kC 1 [2,3,4,5,6,8,24,25,34] ?_
      obtain ⟨y2, hy5, h17⟩ := bindS h16
      refine kCG (some 35) (args := [.ptr 0 0]) (v := .tup []) (H2 := [.box (q12 x0.Tag_ x0.S_.Zero_ x0.S_.Dec_ x0.S_.Group_ x0.S_.Minus_ x0.S_.Plus_ x0.S_.Percent_ x0.S_.Exp_ x0.Pats_.a0_ x0.Pats_.a1_ x0.Pats_.a2_ x0.Pats_.a3_ [lsv encSt57 2 x0.Rules_, lsv encSt59 3 x0.Curs_, lsv encSt61 3 x0.Comps_, lT y0.1, lI y2.1, .vc 3, .bool y2.2.1]), .gone, .box [iL s0.2.2.2.2.1, iL s0.2.2.2.2.2.1, iL s0.2.2.2.2.2.2.1, iL s0.2.2.2.2.2.2.2.1, iL s0.2.2.2.2.2.2.2.2.1, iL s0.2.2.2.2.2.2.2.2.2.1, iL s0.2.2.2.2.2.2.2.2.2.2.1, iL s0.2.2.2.2.2.2.2.2.2.2.2.1, iL s0.2.2.2.2.2.2.2.2.2.2.2.2.1, iL s0.2.2.2.2.2.2.2.2.2.2.2.2.2.1, iL s0.2.2.2.2.2.2.2.2.2.2.2.2.2.2.1, iL s0.2.2.2.2.2.2.2.2.2.2.2.2.2.2.2], vecL (encI .u8) 1 5 y2.2.2]) [0, 1] (bund_writer__patterns_s0_ok hy5) ?_
      refine kEN ?_
      refine kR ?_
      refine kC 13 [2,3,4,5,24,25] ?_
      refine kE ?_
      refine PJ.blockNormal ?_
      refine PJ.next ?_
      refine kR ?_
      refine kC 2 [2,3,4,5,24,25] ?_
      refine kE ?_
      obtain rfl := oi h17
      refine kW (L2 := [(2, .nl), (3, iL 0), (4, .ptr 0 0), (5, .ptr 2 0), (24, .agg [.fn (.func 25) [.ptr 0 0] [], .fn (.func 26) [.ptr 0 0] [], .fn (.func 27) [.ptr 0 0] [], .fn (.func 28) [.ptr 0 0] [], .fn (.func 29) [.ptr 0 0] [], .fn (.func 30) [.ptr 0 0] []]), (25, iL (IntKind.wrap .i64 (2 + 1)))]) (H2 := [.box (q12 x0.Tag_ x0.S_.Zero_ x0.S_.Dec_ x0.S_.Group_ x0.S_.Minus_ x0.S_.Plus_ x0.S_.Percent_ x0.S_.Exp_ x0.Pats_.a0_ x0.Pats_.a1_ x0.Pats_.a2_ x0.Pats_.a3_ [lsv encSt57 2 x0.Rules_, lsv encSt59 3 x0.Curs_, lsv encSt61 3 x0.Comps_, lT y0.1, lI y2.1, .vc 1, .bool y2.2.1]), vecL (encI .u8) 1 5 y2.2.2, .box [iL s0.2.2.2.2.1, iL s0.2.2.2.2.2.1, iL s0.2.2.2.2.2.2.1, iL s0.2.2.2.2.2.2.2.1, iL ((IntKind.wrap .i64 (56 + (s0.2.2.2.1.length : Int)))), iL ((IntKind.wrap .i64 ((y2.2.2.length : Int) - (s0.2.2.2.1.length : Int)))), iL s0.2.2.2.2.2.2.2.2.2.2.1, iL s0.2.2.2.2.2.2.2.2.2.2.2.1, iL s0.2.2.2.2.2.2.2.2.2.2.2.2.1, iL s0.2.2.2.2.2.2.2.2.2.2.2.2.2.1, iL s0.2.2.2.2.2.2.2.2.2.2.2.2.2.2.1, iL s0.2.2.2.2.2.2.2.2.2.2.2.2.2.2.2]]) hFH hFD [0, 3, 2] ?_
      exact kLN [2, 3, 4, 5, 24, 25]
    ·have h18 := condT hb1 h1
     refine RJ.pin 25 (kd := .i64) (by kernel_rfl) (of_decide_eq_true hb1) ?_
     refine RJ.pin 27 (kd := .i64) (by kernel_rfl) (of_decide_eq_true hb1) ?_
     refine kC 3 [2,3,4,5,6,7,24,25] ?_
     refine kEN ?_
     refine kSR ?_
     refine kC 6 [2,3,4,5,6,7,8,24,25] ?_
     refine kEN ?_
     refine kSR ?_
     refine kC 1 [2,3,4,5,6,8,24,25,34] ?_
     obtain ⟨y7, hy6, h19⟩ := bindS h18
     refine kCG (some 35) (args := [.ptr 0 0]) (v := .tup []) (H2 := [.box (q12 x0.Tag_ x0.S_.Zero_ x0.S_.Dec_ x0.S_.Group_ x0.S_.Minus_ x0.S_.Plus_ x0.S_.Percent_ x0.S_.Exp_ x0.Pats_.a0_ x0.Pats_.a1_ x0.Pats_.a2_ x0.Pats_.a3_ [lsv encSt57 2 x0.Rules_, lsv encSt59 3 x0.Curs_, lsv encSt61 3 x0.Comps_, lT y0.1, lI (cut s0.2.1 1 (s0.2.1.length : Int)), .vc 3, .bool y7.1]), .gone, .box [iL s0.2.2.2.2.1, iL s0.2.2.2.2.2.1, iL s0.2.2.2.2.2.2.1, iL s0.2.2.2.2.2.2.2.1, iL s0.2.2.2.2.2.2.2.2.1, iL s0.2.2.2.2.2.2.2.2.2.1, iL s0.2.2.2.2.2.2.2.2.2.2.1, iL s0.2.2.2.2.2.2.2.2.2.2.2.1, iL s0.2.2.2.2.2.2.2.2.2.2.2.2.1, iL s0.2.2.2.2.2.2.2.2.2.2.2.2.2.1, iL s0.2.2.2.2.2.2.2.2.2.2.2.2.2.2.1, iL s0.2.2.2.2.2.2.2.2.2.2.2.2.2.2.2], vecL (encI .u8) 1 5 y7.2]) [0, 1] (bund_writer__names_s0_ok hy6) ?_
     refine kEN ?_
     refine kR ?_
     refine kC 13 [2,3,4,5,24,25] ?_
     refine kE ?_
     refine PJ.blockNormal ?_
     refine PJ.next ?_
     refine kR ?_
     refine kC 2 [2,3,4,5,24,25] ?_
     refine kE ?_
     obtain rfl := oi h19
     refine kW (L2 := [(2, .nl), (3, iL 0), (4, .ptr 0 0), (5, .ptr 2 0), (24, .agg [.fn (.func 25) [.ptr 0 0] [], .fn (.func 26) [.ptr 0 0] [], .fn (.func 27) [.ptr 0 0] [], .fn (.func 28) [.ptr 0 0] [], .fn (.func 29) [.ptr 0 0] [], .fn (.func 30) [.ptr 0 0] []]), (25, iL (IntKind.wrap .i64 (1 + 1)))]) (H2 := [.box (q12 x0.Tag_ x0.S_.Zero_ x0.S_.Dec_ x0.S_.Group_ x0.S_.Minus_ x0.S_.Plus_ x0.S_.Percent_ x0.S_.Exp_ x0.Pats_.a0_ x0.Pats_.a1_ x0.Pats_.a2_ x0.Pats_.a3_ [lsv encSt57 2 x0.Rules_, lsv encSt59 3 x0.Curs_, lsv encSt61 3 x0.Comps_, lT y0.1, lI (cut s0.2.1 1 (s0.2.1.length : Int)), .vc 1, .bool y7.1]), vecL (encI .u8) 1 5 y7.2, .box [iL s0.2.2.2.2.1, iL s0.2.2.2.2.2.1, iL ((IntKind.wrap .i64 (56 + (s0.2.2.2.1.length : Int)))), iL ((IntKind.wrap .i64 ((y7.2.length : Int) - (s0.2.2.2.1.length : Int)))), iL s0.2.2.2.2.2.2.2.2.1, iL s0.2.2.2.2.2.2.2.2.2.1, iL s0.2.2.2.2.2.2.2.2.2.2.1, iL s0.2.2.2.2.2.2.2.2.2.2.2.1, iL s0.2.2.2.2.2.2.2.2.2.2.2.2.1, iL s0.2.2.2.2.2.2.2.2.2.2.2.2.2.1, iL s0.2.2.2.2.2.2.2.2.2.2.2.2.2.2.1, iL s0.2.2.2.2.2.2.2.2.2.2.2.2.2.2.2]]) hFH hFD [0, 3, 2] ?_
     exact kLN [2, 3, 4, 5, 24, 25]
   ·have h20 := condT hb0 h0
    refine RJ.pin 25 (kd := .i64) (by kernel_rfl) (of_decide_eq_true hb0) ?_
    refine RJ.pin 27 (kd := .i64) (by kernel_rfl) (of_decide_eq_true hb0) ?_
    refine kC 3 [2,3,4,5,6,7,24,25] ?_
    refine kEN ?_
    refine kSR ?_
    refine kC 6 [2,3,4,5,6,7,8,24,25] ?_
    refine kEN ?_
    refine kSR ?_
    refine kC 1 [2,3,4,5,6,8,24,25,34] ?_
    obtain ⟨y6, hy7, h21⟩ := bindS h20
    refine kCG (some 35) (args := [.ptr 0 0]) (v := .tup []) (H2 := [.box (q12 x0.Tag_ x0.S_.Zero_ x0.S_.Dec_ x0.S_.Group_ x0.S_.Minus_ x0.S_.Plus_ x0.S_.Percent_ x0.S_.Exp_ x0.Pats_.a0_ x0.Pats_.a1_ x0.Pats_.a2_ x0.Pats_.a3_ [lsv encSt57 2 x0.Rules_, lsv encSt59 3 x0.Curs_, lsv encSt61 3 x0.Comps_, lT y0.1, lI s0.2.1, .vc 3, .bool y6.1]), .gone, .box [iL s0.2.2.2.2.1, iL s0.2.2.2.2.2.1, iL s0.2.2.2.2.2.2.1, iL s0.2.2.2.2.2.2.2.1, iL s0.2.2.2.2.2.2.2.2.1, iL s0.2.2.2.2.2.2.2.2.2.1, iL s0.2.2.2.2.2.2.2.2.2.2.1, iL s0.2.2.2.2.2.2.2.2.2.2.2.1, iL s0.2.2.2.2.2.2.2.2.2.2.2.2.1, iL s0.2.2.2.2.2.2.2.2.2.2.2.2.2.1, iL s0.2.2.2.2.2.2.2.2.2.2.2.2.2.2.1, iL s0.2.2.2.2.2.2.2.2.2.2.2.2.2.2.2], vecL (encI .u8) 1 5 y6.2]) [0, 1] (bund_writer__words_s1_ok hy7) ?_
    refine kEN ?_
    refine kR ?_
    refine kC 13 [2,3,4,5,24,25] ?_
    refine kE ?_
    refine PJ.blockNormal ?_
    refine PJ.next ?_
    refine kR ?_
    refine kC 2 [2,3,4,5,24,25] ?_
    refine kE ?_
    obtain rfl := oi h21
    refine kW (L2 := [(2, .nl), (3, iL 0), (4, .ptr 0 0), (5, .ptr 2 0), (24, .agg [.fn (.func 25) [.ptr 0 0] [], .fn (.func 26) [.ptr 0 0] [], .fn (.func 27) [.ptr 0 0] [], .fn (.func 28) [.ptr 0 0] [], .fn (.func 29) [.ptr 0 0] [], .fn (.func 30) [.ptr 0 0] []]), (25, iL (IntKind.wrap .i64 (0 + 1)))]) (H2 := [.box (q12 x0.Tag_ x0.S_.Zero_ x0.S_.Dec_ x0.S_.Group_ x0.S_.Minus_ x0.S_.Plus_ x0.S_.Percent_ x0.S_.Exp_ x0.Pats_.a0_ x0.Pats_.a1_ x0.Pats_.a2_ x0.Pats_.a3_ [lsv encSt57 2 x0.Rules_, lsv encSt59 3 x0.Curs_, lsv encSt61 3 x0.Comps_, lT y0.1, lI s0.2.1, .vc 1, .bool y6.1]), vecL (encI .u8) 1 5 y6.2, .box [iL ((IntKind.wrap .i64 (56 + (s0.2.2.2.1.length : Int)))), iL ((IntKind.wrap .i64 ((y6.2.length : Int) - (s0.2.2.2.1.length : Int)))), iL s0.2.2.2.2.2.2.1, iL s0.2.2.2.2.2.2.2.1, iL s0.2.2.2.2.2.2.2.2.1, iL s0.2.2.2.2.2.2.2.2.2.1, iL s0.2.2.2.2.2.2.2.2.2.2.1, iL s0.2.2.2.2.2.2.2.2.2.2.2.1, iL s0.2.2.2.2.2.2.2.2.2.2.2.2.1, iL s0.2.2.2.2.2.2.2.2.2.2.2.2.2.1, iL s0.2.2.2.2.2.2.2.2.2.2.2.2.2.2.1, iL s0.2.2.2.2.2.2.2.2.2.2.2.2.2.2.2]]) hFH hFD [0, 3, 2] ?_
    exact kLN [2, 3, 4, 5, 24, 25]
  ·refine kF ?_
   refine K.exit 0 (by kernel_rfl) ?_
   refine PJ.passExit ?_
   obtain rfl := oi h8
   refine PJ.loopOut (fun e => nomatch e) (fun he0 => ?_)
   have h22 := congrArg some he0
   refine PJ.blockOut ?_
   obtain rfl := oi h22
   exact kN [2, 3, 4, 5]
 ·refine kSR ?_
  refine kC 5 [2,3,4,5,9] ?_
  refine kEN ?_
  refine kSR ?_
  refine kC 5 [2,3,4,5,9] ?_
  refine kEN ?_
  refine kSR ?_
  refine kC 2 [2,3,4,9,57,58] ?_
  obtain ⟨y1, hy8, h23⟩ := bindS h7
  refine kCG (some 59) (args := [.ptr 0 0, .agg [iL s1.2.2.2.1, iL s1.2.2.2.2.1, iL s1.2.2.2.2.2.1, iL s1.2.2.2.2.2.2.1, iL s1.2.2.2.2.2.2.2.1, iL s1.2.2.2.2.2.2.2.2.1, iL s1.2.2.2.2.2.2.2.2.2.1, iL s1.2.2.2.2.2.2.2.2.2.2.1, iL s1.2.2.2.2.2.2.2.2.2.2.2.1, iL s1.2.2.2.2.2.2.2.2.2.2.2.2.1, iL s1.2.2.2.2.2.2.2.2.2.2.2.2.2.1, iL s1.2.2.2.2.2.2.2.2.2.2.2.2.2.2]]) (v := .tup []) (H2 := [.box (q12 x0.Tag_ x0.S_.Zero_ x0.S_.Dec_ x0.S_.Group_ x0.S_.Minus_ x0.S_.Plus_ x0.S_.Percent_ x0.S_.Exp_ x0.Pats_.a0_ x0.Pats_.a1_ x0.Pats_.a2_ x0.Pats_.a3_ [lsv encSt57 2 x0.Rules_, lsv encSt59 3 x0.Curs_, lsv encSt61 3 x0.Comps_, lT y0.1, lI s1.1, .vc 4, .bool y1.1]), vecL (encI .u8) 1 5 s1.2.2.1, .box [iL s1.2.2.2.1, iL s1.2.2.2.2.1, iL s1.2.2.2.2.2.1, iL s1.2.2.2.2.2.2.1, iL s1.2.2.2.2.2.2.2.1, iL s1.2.2.2.2.2.2.2.2.1, iL s1.2.2.2.2.2.2.2.2.2.1, iL s1.2.2.2.2.2.2.2.2.2.2.1, iL s1.2.2.2.2.2.2.2.2.2.2.2.1, iL s1.2.2.2.2.2.2.2.2.2.2.2.2.1, iL s1.2.2.2.2.2.2.2.2.2.2.2.2.2.1, iL s1.2.2.2.2.2.2.2.2.2.2.2.2.2.2], .gone, vecL (encI .u8) 1 5 y1.2]) [0, 3] (bund_writer__head_s0_ok hy8) ?_
  refine kEN ?_
  refine kS ?_
  refine kSR ?_
  refine kC 4 [2,3,4,9,63] ?_
  refine kEN ?_
  refine kBJ 63 h23 (fun h24 => ?_) (fun h25 => ?_)
  ·refine kT ?_
   refine kSR ?_
   refine kC 2 [2,3,4,9] ?_
   refine kEN ?_
   refine kX ?_
   refine PJ.passRet ?_
   obtain rfl := oi h24
   refine PJ.res (v1 := .tup [.nl, iL 1]) (Le.tup (.cons (Le.nl _) (.cons (Le.refl _) .nil))) ?_
   exact kZ hFn hFH hFD
  ·refine kF ?_
   refine kK ?_
   refine PJ.next ?_
   refine kSR ?_
   refine kC 5 [2,3,67,68] ?_
   obtain ⟨hm, h26⟩ := asrt h25
   refine RJ.rel (d := (some 69)) (ef := ⟨.vc 5, [4, 1], [(4, .gone), (5, .vec (y1.2.length + s1.2.2.1.length) 1 5 (y1.2.flatMap (encI .u8) ++ s1.2.2.1.flatMap (encI .u8)))]⟩) (ef' := ⟨.vc 5, [4, 1], [(4, .gone), (5, vecL (encI .u8) 1 5 (y1.2 ++ s1.2.2.1))]⟩) (c := roomB (y1.2.length + s1.2.2.1.length)) (tr2 := []) (H2 := [.box (q12 x0.Tag_ x0.S_.Zero_ x0.S_.Dec_ x0.S_.Group_ x0.S_.Minus_ x0.S_.Plus_ x0.S_.Percent_ x0.S_.Exp_ x0.Pats_.a0_ x0.Pats_.a1_ x0.Pats_.a2_ x0.Pats_.a3_ [lsv encSt57 2 x0.Rules_, lsv encSt59 3 x0.Curs_, lsv encSt61 3 x0.Comps_, lT y0.1, lI s1.1, .vc 4, .bool y1.1]), vecL (encI .u8) 1 5 s1.2.2.1, .box [iL s1.2.2.2.1, iL s1.2.2.2.2.1, iL s1.2.2.2.2.2.1, iL s1.2.2.2.2.2.2.1, iL s1.2.2.2.2.2.2.2.1, iL s1.2.2.2.2.2.2.2.2.1, iL s1.2.2.2.2.2.2.2.2.2.1, iL s1.2.2.2.2.2.2.2.2.2.2.1, iL s1.2.2.2.2.2.2.2.2.2.2.2.1, iL s1.2.2.2.2.2.2.2.2.2.2.2.2.1, iL s1.2.2.2.2.2.2.2.2.2.2.2.2.2.1, iL s1.2.2.2.2.2.2.2.2.2.2.2.2.2.2], .gone, .gone, vecL (encI .u8) 1 5 (y1.2 ++ s1.2.2.1)]) (by kernel_rfl) (roomB_of_room hm) (fun hc => N.app) (by kernel_rfl) ?_
   obtain ⟨y8, hy9, h27⟩ := bindS h26
   refine RJ.wk (Wk.freeze 5 (n := (y1.2 ++ s1.2.2.1).length) (k := 1) (e := 5) (cs := (y1.2 ++ s1.2.2.1).flatMap (encI .u8)) (by kernel_rfl)) ?_
   refine kA 70 (crc_Put_ok hy9) ?_
   refine kC 2 [2,3] ?_
   refine kEN ?_
   refine kX ?_
   obtain rfl := oi h27
   exact kZ hFn hFH hFD
def crc_Cut (x0 : List Int) : Option ((List Int) × Int) :=
 (bif (decide (((IntKind.wrap .i64 ((x0.length : Int) - 4))) < 0)) then (some (([] : List Int), 2)) else (bif inS ((IntKind.wrap .i64 ((x0.length : Int) - 4))) (x0.length : Int) x0.length then (bif Nat.ble 4 ((cut x0 ((IntKind.wrap .i64 ((x0.length : Int) - 4))) (x0.length : Int))).length then (bif inS 0 ((IntKind.wrap .i64 ((x0.length : Int) - 4))) x0.length then (Option.bind (crc_tail ((cut x0 0 ((IntKind.wrap .i64 ((x0.length : Int) - 4)))))) fun y0 => (bif (!((decide (((nth ((cut x0 ((IntKind.wrap .i64 ((x0.length : Int) - 4))) (x0.length : Int))) 0)) = y0.a0_)) && ((decide (((nth ((cut x0 ((IntKind.wrap .i64 ((x0.length : Int) - 4))) (x0.length : Int))) 1)) = y0.a1_)) && ((decide (((nth ((cut x0 ((IntKind.wrap .i64 ((x0.length : Int) - 4))) (x0.length : Int))) 2)) = y0.a2_)) && ((decide (((nth ((cut x0 ((IntKind.wrap .i64 ((x0.length : Int) - 4))) (x0.length : Int))) 3)) = y0.a3_)) && true))))) then (some (([] : List Int), 6)) else (bif inS 0 ((IntKind.wrap .i64 ((x0.length : Int) - 4))) x0.length then (Option.bind (slices_Clone ((cut x0 0 ((IntKind.wrap .i64 ((x0.length : Int) - 4)))))) fun y1 => (some (y1, 0))) else none))) else none) else none) else none))
theorem crc_Cut_ok {x0 : List Int} {r : (List Int) × Int} (h : crc_Cut x0 = some r) : SC Try.prog 38 [lB x0] [] (.tup [lB r.1, iL r.2]) [] := by
 refine kFn (fn := Try.f38) (fun F hFn hFH hFD => ?_)
 unfold crc_Cut at h
 refine kSR ?_
 refine kC 2 [0,2,3] ?_
 refine kEN ?_
 refine kSR ?_
 refine kC 4 [0,2,3,4] ?_
 refine kEN ?_
 refine kS ?_
 refine kSR ?_
 refine kC 2 [0,2,3,4,10] ?_
 refine kEN ?_
 refine kBJ 10 h (fun h0 => ?_) (fun h1 => ?_)
 ·refine kT ?_
  refine kSR ?_
  refine kC 2 [0,2,3,4] ?_
  refine kEN ?_
  refine kX ?_
  refine PJ.passRet ?_
  obtain rfl := oi h0
  refine PJ.res (v1 := .tup [.nl, iL 2]) (Le.tup (.cons (Le.nl _) (.cons (Le.refl _) .nil))) ?_
  exact kZ hFn hFH hFD
 ·refine kF ?_
  refine kK ?_
  refine PJ.next ?_
  refine kSR ?_
  refine kC 1 [0,2,3,4,5] ?_
  refine kEN ?_
  refine kS ?_
  refine J.keep [0, 2, 3, 4, 5] (L2 := [(0, lB x0), (2, .nl), (3, iL 0), (4, iL ((IntKind.wrap .i64 ((x0.length : Int) - 4)))), (5, .ptr 0 0)]) (by kernel_rfl) ?_
  refine K.draw (by kernel_rfl) (by kernel_rfl) (by kernel_rfl) (H2 := [.box [.int .u8 0, .int .u8 0, .int .u8 0, .int .u8 0]]) (by kernel_rfl) (n := 1) (by kernel_rfl) ?_
  refine kD 3 ?_
  obtain ⟨hm, h2⟩ := asrt h1
  refine RJ.rel (d := (some 14)) (ef := ⟨.lst (((x0.length : Int) : Int).toNat - ((IntKind.wrap .i64 ((x0.length : Int) - 4)) : Int).toNat) 1 (((x0.flatMap (encI .u8)).take (((x0.length : Int) : Int).toNat * 1)).drop (((IntKind.wrap .i64 ((x0.length : Int) - 4)) : Int).toNat * 1)), [], []⟩) (ef' := ⟨.lst (cut x0 ((IntKind.wrap .i64 ((x0.length : Int) - 4))) (x0.length : Int)).length 1 ((cut x0 ((IntKind.wrap .i64 ((x0.length : Int) - 4))) (x0.length : Int)).flatMap (encI .u8)), [], []⟩) (c := inS ((IntKind.wrap .i64 ((x0.length : Int) - 4))) (x0.length : Int) x0.length) (tr2 := [([], []), ([], []), ([], []), ([], [])]) (H2 := [.box [.int .u8 0, .int .u8 0, .int .u8 0, .int .u8 0]]) (by kernel_rfl) hm (fun hc => N.slice (encI_len .u8) hc) (by kernel_rfl) ?_
  obtain ⟨hm, h3⟩ := asrt h2
  refine RJ.rel (d := (some 15)) (ef := ⟨iL ((min ((cut x0 ((IntKind.wrap .i64 ((x0.length : Int) - 4))) (x0.length : Int))).length 4 : Nat) : Int), [0], [(0, .box (splice [.int .u8 0, .int .u8 0, .int .u8 0, .int .u8 0] 0 ((((cut x0 ((IntKind.wrap .i64 ((x0.length : Int) - 4))) (x0.length : Int))).flatMap (encI .u8)).take (min ((cut x0 ((IntKind.wrap .i64 ((x0.length : Int) - 4))) (x0.length : Int))).length 4 * 1))))]⟩) (ef' := ⟨iL 4, [0], [(0, .box [.int .u8 ((nth ((cut x0 ((IntKind.wrap .i64 ((x0.length : Int) - 4))) (x0.length : Int))) 0)), .int .u8 ((nth ((cut x0 ((IntKind.wrap .i64 ((x0.length : Int) - 4))) (x0.length : Int))) 1)), .int .u8 ((nth ((cut x0 ((IntKind.wrap .i64 ((x0.length : Int) - 4))) (x0.length : Int))) 2)), .int .u8 ((nth ((cut x0 ((IntKind.wrap .i64 ((x0.length : Int) - 4))) (x0.length : Int))) 3))])]⟩) (c := true) (tr2 := [([], []), ([], []), ([], []), ([], []), ([0, 1], [0, 1])]) (H2 := [.box [.int .u8 ((nth ((cut x0 ((IntKind.wrap .i64 ((x0.length : Int) - 4))) (x0.length : Int))) 0)), .int .u8 ((nth ((cut x0 ((IntKind.wrap .i64 ((x0.length : Int) - 4))) (x0.length : Int))) 1)), .int .u8 ((nth ((cut x0 ((IntKind.wrap .i64 ((x0.length : Int) - 4))) (x0.length : Int))) 2)), .int .u8 ((nth ((cut x0 ((IntKind.wrap .i64 ((x0.length : Int) - 4))) (x0.length : Int))) 3))]]) (by kernel_rfl) (rfl) (fun hc => (N.copyBox (encI_len .u8) hm).trans (by kernel_rfl)) (by kernel_rfl) ?_
  refine kEN ?_
  refine kS ?_
  refine kS ?_
  refine J.keep [0, 2, 3, 4, 5] (L2 := [(0, lB x0), (2, .nl), (3, iL 0), (4, iL ((IntKind.wrap .i64 ((x0.length : Int) - 4)))), (5, .ptr 0 0)]) (by kernel_rfl) ?_
  refine K.draw (by kernel_rfl) (by kernel_rfl) (by kernel_rfl) (H2 := [.box [.int .u8 ((nth ((cut x0 ((IntKind.wrap .i64 ((x0.length : Int) - 4))) (x0.length : Int))) 0)), .int .u8 ((nth ((cut x0 ((IntKind.wrap .i64 ((x0.length : Int) - 4))) (x0.length : Int))) 1)), .int .u8 ((nth ((cut x0 ((IntKind.wrap .i64 ((x0.length : Int) - 4))) (x0.length : Int))) 2)), .int .u8 ((nth ((cut x0 ((IntKind.wrap .i64 ((x0.length : Int) - 4))) (x0.length : Int))) 3))], .res]) (by kernel_rfl) (n := 1) (by kernel_rfl) ?_
  refine kD 3 ?_
  obtain ⟨hm, h4⟩ := asrt h3
  refine RJ.rel (d := (some 19)) (ef := ⟨.lst (((IntKind.wrap .i64 ((x0.length : Int) - 4)) : Int).toNat - (0 : Int).toNat) 1 (((x0.flatMap (encI .u8)).take (((IntKind.wrap .i64 ((x0.length : Int) - 4)) : Int).toNat * 1)).drop ((0 : Int).toNat * 1)), [], []⟩) (ef' := ⟨.lst (cut x0 0 ((IntKind.wrap .i64 ((x0.length : Int) - 4)))).length 1 ((cut x0 0 ((IntKind.wrap .i64 ((x0.length : Int) - 4)))).flatMap (encI .u8)), [], []⟩) (c := inS 0 ((IntKind.wrap .i64 ((x0.length : Int) - 4))) x0.length) (tr2 := [([0, 1], []), ([], []), ([], []), ([], [])]) (H2 := [.box [.int .u8 ((nth ((cut x0 ((IntKind.wrap .i64 ((x0.length : Int) - 4))) (x0.length : Int))) 0)), .int .u8 ((nth ((cut x0 ((IntKind.wrap .i64 ((x0.length : Int) - 4))) (x0.length : Int))) 1)), .int .u8 ((nth ((cut x0 ((IntKind.wrap .i64 ((x0.length : Int) - 4))) (x0.length : Int))) 2)), .int .u8 ((nth ((cut x0 ((IntKind.wrap .i64 ((x0.length : Int) - 4))) (x0.length : Int))) 3))], .res]) (by kernel_rfl) hm (fun hc => N.slice (encI_len .u8) hc) (by kernel_rfl) ?_
  obtain ⟨y0, hy0, h5⟩ := bindS h4
  refine RJ.call0 (d := (some 20)) (f := 47) (args := [lB ((cut x0 0 ((IntKind.wrap .i64 ((x0.length : Int) - 4)))))]) (v := .agg (encSt48 y0)) (tr2 := [([0, 1], []), ([], []), ([], []), ([], []), ([], [2, 3])]) (by kernel_rfl) (by kernel_rfl) (.cons (Le.refl _) .nil) (crc_tail_ok hy0) (by kernel_rfl) ?_
  refine kD 1 ?_
  refine kEN ?_
  refine kBJ 21 h5 (fun h6 => ?_) (fun h7 => ?_)
  ·refine kT ?_
   refine kSR ?_
   refine kC 2 [0,2,3,4] ?_
   refine kEN ?_
   refine kX ?_
   refine PJ.passRet ?_
   obtain rfl := oi h6
   refine PJ.res (v1 := .tup [.nl, iL 6]) (Le.tup (.cons (Le.nl _) (.cons (Le.refl _) .nil))) ?_
   exact kZ hFn hFH hFD
  ·refine kF ?_
   refine kK ?_
   refine PJ.next ?_
   refine kSR ?_
   refine kC 2 [2,3,22,23] ?_
   obtain ⟨hm, h8⟩ := asrt h7
   refine RJ.rel (d := (some 24)) (ef := ⟨.lst (((IntKind.wrap .i64 ((x0.length : Int) - 4)) : Int).toNat - (0 : Int).toNat) 1 (((x0.flatMap (encI .u8)).take (((IntKind.wrap .i64 ((x0.length : Int) - 4)) : Int).toNat * 1)).drop ((0 : Int).toNat * 1)), [], []⟩) (ef' := ⟨.lst (cut x0 0 ((IntKind.wrap .i64 ((x0.length : Int) - 4)))).length 1 ((cut x0 0 ((IntKind.wrap .i64 ((x0.length : Int) - 4)))).flatMap (encI .u8)), [], []⟩) (c := inS 0 ((IntKind.wrap .i64 ((x0.length : Int) - 4))) x0.length) (tr2 := []) (H2 := [.box [.int .u8 ((nth ((cut x0 ((IntKind.wrap .i64 ((x0.length : Int) - 4))) (x0.length : Int))) 0)), .int .u8 ((nth ((cut x0 ((IntKind.wrap .i64 ((x0.length : Int) - 4))) (x0.length : Int))) 1)), .int .u8 ((nth ((cut x0 ((IntKind.wrap .i64 ((x0.length : Int) - 4))) (x0.length : Int))) 2)), .int .u8 ((nth ((cut x0 ((IntKind.wrap .i64 ((x0.length : Int) - 4))) (x0.length : Int))) 3))], .res]) (by kernel_rfl) hm (fun hc => N.slice (encI_len .u8) hc) (by kernel_rfl) ?_
   obtain ⟨y1, hy1, h9⟩ := bindS h8
   refine kCG (some 25) (args := [lB ((cut x0 0 ((IntKind.wrap .i64 ((x0.length : Int) - 4)))))]) (v := .vc 2) (H2 := [.box [.int .u8 ((nth ((cut x0 ((IntKind.wrap .i64 ((x0.length : Int) - 4))) (x0.length : Int))) 0)), .int .u8 ((nth ((cut x0 ((IntKind.wrap .i64 ((x0.length : Int) - 4))) (x0.length : Int))) 1)), .int .u8 ((nth ((cut x0 ((IntKind.wrap .i64 ((x0.length : Int) - 4))) (x0.length : Int))) 2)), .int .u8 ((nth ((cut x0 ((IntKind.wrap .i64 ((x0.length : Int) - 4))) (x0.length : Int))) 3))], .res, vecL (encI .u8) 1 5 y1]) [] (slices_Clone_ok_o hy1) ?_
   refine RJ.seg 2 [2, 3] (L2 := [(2, .vc 2), (3, iL 0)]) (H2 := [.box [.int .u8 ((nth ((cut x0 ((IntKind.wrap .i64 ((x0.length : Int) - 4))) (x0.length : Int))) 0)), .int .u8 ((nth ((cut x0 ((IntKind.wrap .i64 ((x0.length : Int) - 4))) (x0.length : Int))) 1)), .int .u8 ((nth ((cut x0 ((IntKind.wrap .i64 ((x0.length : Int) - 4))) (x0.length : Int))) 2)), .int .u8 ((nth ((cut x0 ((IntKind.wrap .i64 ((x0.length : Int) - 4))) (x0.length : Int))) 3))], .res, vecL (encI .u8) 1 5 y1]) (by kernel_rfl) ?_
   refine kEN ?_
   refine kX ?_
   obtain rfl := oi h9
   refine PJ.wk (Wk.freeze 2 (n := y1.length) (k := 1) (e := 5) (cs := y1.flatMap (encI .u8)) (by kernel_rfl)) ?_
   exact kZ hFn hFH hFD
def pack_Take_1_s0 (x0 : Int) (x1 : Int) (x2 : Int) (x3 : List Int) (x4 : Int) : Option (Unit) :=
 (bif inR (IntKind.wrap .i64 (x4 + x0)) x3.length then (bif sh x1 then (some ()) else none) else none)
theorem pack_Take_1_s0_ok {x0 : Int} {x1 : Int} {x2 : Int} {x3 : List Int} {x4 : Int} {r : Unit} (h : pack_Take_1_s0 x0 x1 x2 x3 x4 = some r) : SC Try.prog 83 [iL x0, iL x1, .ptr 0 0, .ptr 1 0, .ptr 2 0] [.box [.int .u32 x2], .box [lB x3], .box [iL x4]] (.tup []) [.box [.int .u32 ((bits .or .u32 x2 ((IntKind.wrap .u32 (((IntKind.wrap .u32 ((nth x3 (IntKind.wrap .i64 (x4 + x0)))))) * (2 ^ (min (x1 : Int).toNat 32)))))))], .box [lB x3], .box [iL x4]] := by
 refine kFn (fn := Try.f83) (fun F hFn hFH hFD => ?_)
 unfold pack_Take_1_s0 at h
 refine J.keep [0, 1, 2, 3, 4] (L2 := [(0, iL x0), (1, iL x1), (2, .ptr 0 0), (3, .ptr 1 0), (4, .ptr 2 0)]) (by kernel_rfl) ?_
 refine K.draw (by kernel_rfl) (by kernel_rfl) (by kernel_rfl) (H2 := [.box [.int .u32 x2], .box [lB x3], .box [iL x4]]) (by kernel_rfl) (n := 3) (by kernel_rfl) ?_
 refine kD 5 ?_
 obtain ⟨hm, h0⟩ := asrt h
 refine kJ 12 (tr2 := [([0, 1], []), ([2, 3], []), ([4, 5], []), ([], []), ([], []), ([], [])]) (encI_len .u8) hm ?_
 refine kD 3 ?_
 obtain ⟨hm, h1⟩ := asrt h0
 refine kQ 16 (.int .u32 (IntKind.wrap .u32 (((IntKind.wrap .u32 ((nth x3 (IntKind.wrap .i64 (x4 + x0)))))) * (2 ^ (min (x1 : Int).toNat 32))))) [] (tr2 := [([0, 1], []), ([2, 3], []), ([4, 5], []), ([], []), ([], []), ([], []), ([], []), ([], []), ([], []), ([], [])]) hm ?_
 refine kD 2 ?_
 refine kE ?_
 obtain rfl := oi h1
 exact K.retV (H0 := [.box [.int .u32 x2], .box [lB x3], .box [iL x4]]) [0, 1, 2] (.inl rfl) hFn hFH hFD (by kernel_rfl) (v1 := .tup []) (by kernel_rfl) (by kernel_rfl) (by kernel_rfl) (by decide) (by kernel_rfl) (by kernel_rfl) (by kernel_rfl) (by kernel_rfl) (by kernel_rfl)
def pack_each_s1 (x0 : Int) (x1 : Int) (x2 : List Int) (x3 : Int) : Option (Int) :=
 (loopN (fun (s0 : Int × Int) => (bif (decide (s0.1 < x0)) then (Option.bind (pack_Take_1_s0 s0.1 ((IntKind.wrap .i64 (8 * ((IntKind.wrap .i64 ((IntKind.wrap .i64 (x0 - 1)) - s0.1)))))) s0.2 x2 x3) fun y0 => (some (.inl ((IntKind.wrap .i64 (s0.1 + 1)), (bits .or .u32 s0.2 ((IntKind.wrap .u32 (((IntKind.wrap .u32 ((nth x2 (IntKind.wrap .i64 (x3 + s0.1)))))) * (2 ^ (min (((IntKind.wrap .i64 (8 * ((IntKind.wrap .i64 ((IntKind.wrap .i64 (x0 - 1)) - s0.1)))))) : Int).toNat 32)))))))))) else (some (.inr s0.2)))) big (0, x1))
theorem pack_each_s1_ok {x0 : Int} {x1 : Int} {x2 : List Int} {x3 : Int} {r : Int} (h : pack_each_s1 x0 x1 x2 x3 = some r) : SC Try.prog 73 [iL x0, .fn (.func 83) [] [.ptr 0 0, .ptr 1 0, .ptr 2 0]] [.box [.int .u32 x1], .box [lB x2], .box [iL x3]] (.tup []) [.box [.int .u32 r], .box [lB x2], .box [iL x3]] := by
 refine kFn (fn := Try.f73) (fun F hFn hFH hFD => ?_)
 unfold pack_each_s1 at h
 refine kSR ?_
 refine kC 2 [0,1,5,6] ?_
 refine kEN ?_
 refine kb 0 ?_
 refine kl (fun (s0 : Int × Int) => ([(0, iL x0), (1, .fn (.func 83) [] [.ptr 0 0, .ptr 1 0, .ptr 2 0]), (5, iL x0), (6, iL s0.1)], [.box [.int .u32 s0.2], .box [lB x2], .box [iL x3]])) h [0, 1, 5, 6] (fun s0 x19 hs0 => ?_)
 refine kSR ?_
 refine kC 1 [0,1,5,6,7] ?_
 refine kEN ?_
 refine kS ?_
 refine kBJ 7 hs0 (fun h0 => ?_) (fun h1 => ?_)
 ·refine kT ?_
  refine kK ?_
  refine PJ.next ?_
  refine kS ?_
  refine kb 1 ?_
  refine kSR ?_
  refine kC 2 [0,1,4,5,6] ?_
  refine kEN ?_
  refine kR ?_
  refine kC 7 [0,1,5,6,9,10,15] ?_
  obtain ⟨y0, hy0, h2⟩ := bindS h0
  refine kCG (some 16) (args := [iL s0.1, iL ((IntKind.wrap .i64 (8 * ((IntKind.wrap .i64 ((IntKind.wrap .i64 (x0 - 1)) - s0.1)))))), .ptr 0 0, .ptr 1 0, .ptr 2 0]) (v := .tup []) (H2 := [.box [.int .u32 ((bits .or .u32 s0.2 ((IntKind.wrap .u32 (((IntKind.wrap .u32 ((nth x2 (IntKind.wrap .i64 (x3 + s0.1)))))) * (2 ^ (min (((IntKind.wrap .i64 (8 * ((IntKind.wrap .i64 ((IntKind.wrap .i64 (x0 - 1)) - s0.1)))))) : Int).toNat 32)))))))], .box [lB x2], .box [iL x3]]) [0, 1, 2] (pack_Take_1_s0_ok hy0) ?_
  refine kE ?_
  refine PJ.blockNormal ?_
  refine PJ.next ?_
  refine kR ?_
  refine kC 2 [0,1,5,6] ?_
  refine kE ?_
  obtain rfl := oi h2
  exact kLN [0, 1, 5, 6]
 ·refine kF ?_
  refine K.exit 0 (by kernel_rfl) ?_
  refine PJ.passExit ?_
  obtain rfl := oi h1
  refine PJ.loopOut (fun e => nomatch e) (fun he0 => ?_)
  have h3 := congrArg some he0
  refine PJ.blockOut ?_
  obtain rfl := oi h3
  exact K.retV (H0 := [.box [.int .u32 x1], .box [lB x2], .box [iL x3]]) [0, 1, 2] (.inl rfl) hFn hFH hFD (by kernel_rfl) (v1 := .tup []) (by kernel_rfl) (by kernel_rfl) (by kernel_rfl) (by decide) (by kernel_rfl) (by kernel_rfl) (by kernel_rfl) (by kernel_rfl) (by kernel_rfl)
def pack_Take (x0 : List Int) (x1 : Int) (x2 : Int) : Option (Int × Int × Int) :=
 (Option.bind (Option.bind (Option.bind (pack_sized x2) fun y1 => (bif (!y1) then (some true) else (some (decide (x1 < 0))))) fun (s0 : Bool) => (bif s0 then (some (.inr (0, 0, 1))) else (some (.inl ())))) (joinX fun (s1 : Unit) => (bif (decide (x1 > ((IntKind.wrap .i64 ((x0.length : Int) - x2))))) then (some (0, 0, 2)) else (Option.bind (pack_each_s1 x2 0 x0 x1) fun y0 => (some (y0, (IntKind.wrap .i64 (x1 + x2)), 0))))))
theorem pack_Take_ok {x0 : List Int} {x1 : Int} {x2 : Int} {r : Int × Int × Int} (h : pack_Take x0 x1 x2 = some r) : SC Try.prog 77 [lB x0, iL x1, iL x2] [] (.tup [.int .u32 r.1, iL r.2.1, iL r.2.2]) [] := by
 refine kFn (fn := Try.f77) (fun F hFn hFH hFD => ?_)
 unfold pack_Take at h
 refine kSR ?_
 refine kC 5 [2,3,4,6,7,8] ?_
 refine kEN ?_
 obtain ⟨y2, hy0, h0⟩ := bindS h
 refine K.cutX (by kernel_rfl) (fun (s1 : Unit) => ([(2, iL x2), (3, .ptr 0 0), (4, .ptr 1 0), (6, .int .u32 0), (7, iL 0), (8, iL 0)], [.box [lB x0], .box [iL x1]])) y2 ?_ (fun s1 hs => ?_)
 ·obtain ⟨s0, hy1, h1⟩ := bindS hy0
  refine K.cutN (by kernel_rfl) (fun (s0 : Bool) => ([(2, iL x2), (3, .ptr 0 0), (4, .ptr 1 0), (6, .int .u32 0), (7, iL 0), (8, iL 0), (16, .bool s0)], [.box [lB x0], .box [iL x1]])) s0 ?_ ?_
  ·refine kR ?_
   refine kC 1 [2,3,4,6,7,8,10] ?_
   obtain ⟨y1, hy2, h2⟩ := bindS hy1
   refine kA 11 (pack_sized_ok hy2) ?_
   refine kC 2 [2,3,4,6,7,8,13] ?_
   refine kB 13 h2 (fun h3 => ?_) (fun h4 => ?_)
   ·refine kC 3 [2,3,4,6,7,8,16] ?_
    refine kE ?_
    obtain rfl := oi h3
    exact kN [2, 3, 4, 6, 7, 8, 16]
   ·refine kC 3 [2,3,4,6,7,8,16] ?_
    refine kE ?_
    obtain rfl := oi h4
    exact kN [2, 3, 4, 6, 7, 8, 16]
  ·refine kBJ 16 h1 (fun h5 => ?_) (fun h6 => ?_)
   ·refine kT ?_
    refine kSR ?_
    refine kC 3 [2,3,4,6,7,8] ?_
    refine kEN ?_
    refine kX ?_
    obtain rfl := oi h5
    have h7 := joinX_inr h0
    refine PJ.cutXr (fun e => nomatch e) ?_
    obtain rfl := oi h7
    exact kZ hFn hFH hFD
   ·refine kF ?_
    refine kK ?_
    obtain rfl := oi h6
    exact kXl [2, 3, 4, 6, 7, 8]
 ·subst hs
  have h8 := joinX_inl h0
  refine kS ?_
  refine kSR ?_
  refine kC 6 [2,3,4,6,7,8,22] ?_
  refine kEN ?_
  refine kBJ 22 h8 (fun h9 => ?_) (fun h10 => ?_)
  ·refine kT ?_
   refine kSR ?_
   refine kC 3 [2,3,4,6,7,8] ?_
   refine kEN ?_
   refine kX ?_
   refine PJ.passRet ?_
   obtain rfl := oi h9
   exact kZ hFn hFH hFD
  ·refine kF ?_
   refine kK ?_
   refine PJ.next ?_
   refine kSR ?_
   refine kC 1 [2,3,4,6,7,8,9] ?_
   refine kEN ?_
   refine kSR ?_
   refine kC 2 [2,4,6,7,8,9,23,24] ?_
   obtain ⟨y0, hy3, h11⟩ := bindS h10
   refine kCG (some 25) (args := [iL x2, .fn (.func 83) [] [.ptr 2 0, .ptr 0 0, .ptr 1 0]]) (v := .tup []) (H2 := [.box [lB x0], .box [iL x1], .box [.int .u32 y0]]) [2, 0, 1] (pack_each_s1_ok hy3) ?_
   refine kEN ?_
   refine kS ?_
   refine J.keep [2, 4, 6, 7, 8, 9] (L2 := [(2, iL x2), (4, .ptr 1 0), (6, .int .u32 0), (7, iL 0), (8, iL 0), (9, .ptr 2 0)]) (by kernel_rfl) ?_
   refine K.draw (by kernel_rfl) (by kernel_rfl) (by kernel_rfl) (H2 := [.box [lB x0], .box [iL x1], .box [.int .u32 y0]]) (by kernel_rfl) (n := 3) (by kernel_rfl) ?_
   refine kD 7 ?_
   refine kEN ?_
   refine kX ?_
   obtain rfl := oi h11
   exact kZ hFn hFH hFD
def pack_takeText (x0 : List Int) (x1 : Int) : Option ((List UInt8) × Int × Int) :=
 (Option.bind (pack_Take x0 x1 2) fun y0 => (bif (decide (¬ y0.2.2 = 0)) then (some (([] : List UInt8), 0, y0.2.2)) else (bif (decide ((IntKind.wrap .i64 y0.1) > ((IntKind.wrap .i64 ((x0.length : Int) - y0.2.1))))) then (some (([] : List UInt8), 0, 2)) else (bif inS y0.2.1 ((IntKind.wrap .i64 (y0.2.1 + (IntKind.wrap .i64 y0.1)))) x0.length then (some ((bytesS ((cut x0 y0.2.1 ((IntKind.wrap .i64 (y0.2.1 + (IntKind.wrap .i64 y0.1))))))), (IntKind.wrap .i64 (y0.2.1 + (IntKind.wrap .i64 y0.1))), 0)) else none))))
theorem pack_takeText_ok {x0 : List Int} {x1 : Int} {r : (List UInt8) × Int × Int} (h : pack_takeText x0 x1 = some r) : SC Try.prog 78 [lB x0, iL x1] [] (.tup [.str r.1, iL r.2.1, iL r.2.2]) [] := by
 refine kFn (fn := Try.f78) (fun F hFn hFH hFD => ?_)
 unfold pack_takeText at h
 refine kSR ?_
 refine kC 3 [0,1,4,5,6] ?_
 refine kEN ?_
 refine kSR ?_
 refine kC 2 [0,1,4,5,6,11,12] ?_
 obtain ⟨y0, hy0, h0⟩ := bindS h
 refine kA 13 (pack_Take_ok hy0) ?_
 refine kC 7 [0,1,4,5,6,7,8] ?_
 refine kEN ?_
 refine kS ?_
 refine kSR ?_
 refine kC 2 [0,1,4,5,6,7,8,18] ?_
 refine kEN ?_
 refine kBJ 18 h0 (fun h1 => ?_) (fun h2 => ?_)
 ·refine kT ?_
  refine kSR ?_
  refine kC 4 [0,1,4,5,6,7] ?_
  refine kEN ?_
  refine kX ?_
  refine PJ.passRet ?_
  obtain rfl := oi h1
  exact kZ hFn hFH hFD
 ·refine kF ?_
  refine kK ?_
  refine PJ.next ?_
  refine kS ?_
  refine kSR ?_
  refine kC 7 [0,1,4,5,6,7,26] ?_
  refine kEN ?_
  refine kBJ 26 h2 (fun h3 => ?_) (fun h4 => ?_)
  ·refine kT ?_
   refine kSR ?_
   refine kC 3 [0,1,4,5,6,7] ?_
   refine kEN ?_
   refine kX ?_
   refine PJ.passRet ?_
   obtain rfl := oi h3
   exact kZ hFn hFH hFD
  ·refine kF ?_
   refine kK ?_
   refine PJ.next ?_
   refine kSR ?_
   refine kC 5 [0,1,4,5,6,9] ?_
   refine kEN ?_
   refine kSR ?_
   refine kC 3 [4,5,6,9,31,32,33] ?_
   obtain ⟨hm, h5⟩ := asrt h4
   refine RJ.rel (d := (some 34)) (ef := ⟨.lst (((IntKind.wrap .i64 (y0.2.1 + (IntKind.wrap .i64 y0.1))) : Int).toNat - (y0.2.1 : Int).toNat) 1 (((x0.flatMap (encI .u8)).take (((IntKind.wrap .i64 (y0.2.1 + (IntKind.wrap .i64 y0.1))) : Int).toNat * 1)).drop ((y0.2.1 : Int).toNat * 1)), [], []⟩) (ef' := ⟨.lst (cut x0 y0.2.1 ((IntKind.wrap .i64 (y0.2.1 + (IntKind.wrap .i64 y0.1))))).length 1 ((cut x0 y0.2.1 ((IntKind.wrap .i64 (y0.2.1 + (IntKind.wrap .i64 y0.1))))).flatMap (encI .u8)), [], []⟩) (c := inS y0.2.1 ((IntKind.wrap .i64 (y0.2.1 + (IntKind.wrap .i64 y0.1)))) x0.length) (tr2 := []) (H2 := []) (by kernel_rfl) hm (fun hc => N.slice (encI_len .u8) hc) (by kernel_rfl) ?_
   refine RJ.rel (d := (some 35)) (ef := ⟨.str ((((cut x0 y0.2.1 ((IntKind.wrap .i64 (y0.2.1 + (IntKind.wrap .i64 y0.1)))))).flatMap (encI .u8)).map Go.Sy.byteOf), [], []⟩) (ef' := ⟨.str (bytesS ((cut x0 y0.2.1 ((IntKind.wrap .i64 (y0.2.1 + (IntKind.wrap .i64 y0.1))))))), [], []⟩) (c := (((cut x0 y0.2.1 ((IntKind.wrap .i64 (y0.2.1 + (IntKind.wrap .i64 y0.1)))))).flatMap (encI .u8)).all isByte) (tr2 := []) (H2 := []) (by kernel_rfl) (allByte ((cut x0 y0.2.1 ((IntKind.wrap .i64 (y0.2.1 + (IntKind.wrap .i64 y0.1))))))) (fun hc => N.toStr) (by kernel_rfl) ?_
   refine kC 4 [4,5,6] ?_
   refine kEN ?_
   refine kX ?_
   obtain rfl := oi h5
   exact kZ hFn hFH hFD
def pack_TakePool (x0 : List Int) (x1 : Int) : Option ((List (List UInt8)) × Int × Int) :=
 (Option.bind (pack_Take x0 x1 2) fun y1 => (bif (decide (¬ y1.2.2 = 0)) then (some (([] : List (List UInt8)), 0, y1.2.2)) else (Option.bind (loopN (fun (s0 : Int × Int × (List (List UInt8))) => (bif (decide (s0.2.1 < (IntKind.wrap .i64 y1.1))) then (Option.bind (pack_takeText x0 s0.1) fun y0 => (bif (decide (¬ y0.2.2 = 0)) then (some (.inr (.inr (([] : List (List UInt8)), 0, y0.2.2)))) else (bif room (s0.2.2.length + ([y0.1] : List (List UInt8)).length) then (some (.inl (y0.2.1, (IntKind.wrap .i64 (s0.2.1 + 1)), (s0.2.2 ++ ([y0.1] : List (List UInt8)))))) else none))) else (some (.inr (.inl (s0.1, s0.2.2)))))) big (y1.2.1, 0, ([] : List (List UInt8)))) (joinX fun (s1 : Int × (List (List UInt8))) => (Option.bind (pack_isPool s1.2) fun y2 => (bif (!y2) then (some (([] : List (List UInt8)), 0, 2)) else (some (s1.2, s1.1, 0))))))))
theorem pack_TakePool_ok {x0 : List Int} {x1 : Int} {r : (List (List UInt8)) × Int × Int} (h : pack_TakePool x0 x1 = some r) : SC Try.prog 66 [lB x0, iL x1] [] (.tup [lT r.1, iL r.2.1, iL r.2.2]) [] := by
 refine kFn (fn := Try.f66) (fun F hFn hFH hFD => ?_)
 unfold pack_TakePool at h
 refine kSR ?_
 refine kC 3 [0,1,4,5,6] ?_
 refine kEN ?_
 refine kSR ?_
 refine kC 2 [0,1,4,5,6,14,15] ?_
 obtain ⟨y1, hy0, h1⟩ := bindS h
 refine kA 16 (pack_Take_ok hy0) ?_
 refine kC 7 [0,1,4,5,6,7,8] ?_
 refine kEN ?_
 refine kS ?_
 refine kSR ?_
 refine kC 2 [0,1,4,5,6,7,8,21] ?_
 refine kEN ?_
 refine kBJ 21 h1 (fun h2 => ?_) (fun h3 => ?_)
 ·refine kT ?_
  refine kSR ?_
  refine kC 4 [0,1,4,5,6,7] ?_
  refine kEN ?_
  refine kX ?_
  refine PJ.passRet ?_
  obtain rfl := oi h2
  refine PJ.res (v1 := .tup [.nl, iL 0, iL y1.2.2]) (Le.tup (.cons (Le.nl _) (.cons (Le.refl _) (.cons (Le.refl _) .nil)))) ?_
  exact kZ hFn hFH hFD
 ·refine kF ?_
  refine kK ?_
  refine PJ.next ?_
  refine kSR ?_
  refine kC 1 [0,1,4,5,6,7,9] ?_
  refine kEN ?_
  obtain ⟨y3, hy1, h0⟩ := bindS h3
  refine K.cutX (by kernel_rfl) (fun (s1 : Int × (List (List UInt8))) => ([(1, iL s1.1), (4, .nl), (5, iL 0), (6, iL 0), (9, .vc 0)], [vecL encT 1 9 s1.2])) y3 ?_ (fun s1 hs => ?_)
  ·refine kSR ?_
   refine kC 3 [0,1,4,5,6,9,24,25] ?_
   refine kEN ?_
   refine kb 0 ?_
   refine J.wk (Wk.viv 9 1 9 (by kernel_rfl)) ?_
   refine kl (fun (s0 : Int × Int × (List (List UInt8))) => ([(0, lB x0), (1, iL s0.1), (4, .nl), (5, iL 0), (6, iL 0), (9, .vc 0), (24, iL (IntKind.wrap .i64 y1.1)), (25, iL s0.2.1)], [vecL encT 1 9 s0.2.2])) hy1 [0, 1, 4, 5, 6, 9, 24, 25] (fun s0 x92 hs0 => ?_)
   refine kSR ?_
   refine kC 1 [0,1,4,5,6,9,24,25,26] ?_
   refine kEN ?_
   refine kS ?_
   refine kBJ 26 hs0 (fun h4 => ?_) (fun h5 => ?_)
   ·refine kT ?_
    refine kK ?_
    refine PJ.next ?_
    refine kS ?_
    refine kb 1 ?_
    refine kSR ?_
    refine kC 2 [0,1,4,5,6,9,24,25,28,29] ?_
    obtain ⟨y0, hy2, h6⟩ := bindS h4
    refine kA 30 (pack_takeText_ok hy2) ?_
    refine kC 7 [0,1,4,5,6,9,10,11,12,24,25] ?_
    refine kEN ?_
    refine kS ?_
    refine kSR ?_
    refine kC 2 [0,1,4,5,6,9,10,11,12,24,25,35] ?_
    refine kEN ?_
    refine kBJ 35 h6 (fun h7 => ?_) (fun h8 => ?_)
    ·refine kT ?_
     refine kSR ?_
     refine kC 4 [0,1,4,5,6,9,10,11,24,25] ?_
     refine kEN ?_
     refine kX ?_
     refine PJ.passRet ?_
     refine PJ.blockRet ?_
     refine PJ.passRet ?_
     obtain rfl := oi h7
     refine PJ.loopOut (fun e => nomatch e) (fun he0 => ?_)
     have h9 := congrArg some he0
     refine PJ.blockRet ?_
     obtain rfl := oi h9
     have h10 := joinX_inr h0
     refine PJ.cutXr (fun e => nomatch e) ?_
     obtain rfl := oi h10
     refine PJ.res (v1 := .tup [.nl, iL 0, iL y0.2.2]) (Le.tup (.cons (Le.nl _) (.cons (Le.refl _) (.cons (Le.refl _) .nil)))) ?_
     exact kZ hFn hFH hFD
    ·refine kF ?_
     refine kK ?_
     refine PJ.next ?_
     refine kSR ?_
     refine kC 3 [0,1,4,5,6,9,11,24,25,37,39] ?_
     obtain ⟨hm, h11⟩ := asrt h8
     refine RJ.rel (d := (some 40)) (ef := ⟨.vc 2, [0, 1], [(0, .gone), (2, .vec (s0.2.2.length + ([y0.1] : List (List UInt8)).length) 1 9 (s0.2.2.flatMap encT ++ ([y0.1] : List (List UInt8)).flatMap encT))]⟩) (ef' := ⟨.vc 2, [0, 1], [(0, .gone), (2, vecL encT 1 9 (s0.2.2 ++ ([y0.1] : List (List UInt8))))]⟩) (c := room (s0.2.2.length + ([y0.1] : List (List UInt8)).length)) (tr2 := []) (H2 := [.gone, vecL encT 1 9 ([y0.1] : List (List UInt8)), vecL encT 1 9 ((s0.2.2 ++ ([y0.1] : List (List UInt8))))]) (by kernel_rfl) hm (fun hc => N.app) (by kernel_rfl) ?_
     refine kC 1 [0,1,4,5,6,9,11,24,25] ?_
     refine kEN ?_
     refine kR ?_
     refine kC 2 [0,1,4,5,6,9,24,25] ?_
     refine kE ?_
     refine PJ.blockNormal ?_
     refine PJ.next ?_
     refine kR ?_
     refine kC 2 [0,1,4,5,6,9,24,25] ?_
     refine kE ?_
     obtain rfl := oi h11
     refine kW (L2 := [(0, lB x0), (1, iL y0.2.1), (4, .nl), (5, iL 0), (6, iL 0), (9, .vc 0), (24, iL (IntKind.wrap .i64 y1.1)), (25, iL (IntKind.wrap .i64 (s0.2.1 + 1)))]) (H2 := [vecL encT 1 9 ((s0.2.2 ++ ([y0.1] : List (List UInt8))))]) hFH hFD [2] ?_
     exact kLN [0, 1, 4, 5, 6, 9, 24, 25]
   ·refine kF ?_
    refine K.exit 0 (by kernel_rfl) ?_
    refine PJ.passExit ?_
    obtain rfl := oi h5
    refine PJ.loopOut (fun e => nomatch e) (fun he1 => ?_)
    have h12 := congrArg some he1
    refine PJ.blockOut ?_
    obtain rfl := oi h12
    exact kXl [1, 4, 5, 6, 9]
  ·subst hs
   have h13 := joinX_inl h0
   refine kS ?_
   refine kSR ?_
   refine kC 1 [1,4,5,6,9,43] ?_
   obtain ⟨y2, hy3, h14⟩ := bindS h13
   refine RJ.callL (d := (some 44)) (f := 62) (args := [.vc 0]) (args0 := [.vc 0]) (args1 := [lT s1.2]) (H0 := [vecL encT 1 9 s1.2]) (v := .bool y2) (tr2 := []) [0] (by kernel_rfl) (by kernel_rfl) (by kernel_rfl) (by kernel_rfl) (by decide) (by kernel_rfl) (by kernel_rfl) (by kernel_rfl) (by kernel_rfl) (.cons (Le.refl _) .nil) (pack_isPool_ok hy3) (by kernel_rfl) (by kernel_rfl) ?_
   refine kC 1 [1,4,5,6,9,45] ?_
   refine kEN ?_
   refine kBJ 45 h14 (fun h15 => ?_) (fun h16 => ?_)
   ·refine kT ?_
    refine kSR ?_
    refine kC 3 [1,4,5,6,9] ?_
    refine kEN ?_
    refine kX ?_
    refine PJ.passRet ?_
    obtain rfl := oi h15
    refine PJ.res (v1 := .tup [.nl, iL 0, iL 2]) (Le.tup (.cons (Le.nl _) (.cons (Le.refl _) (.cons (Le.refl _) .nil)))) ?_
    exact kZ hFn hFH hFD
   ·refine kF ?_
    refine kK ?_
    refine PJ.next ?_
    refine kSR ?_
    refine kC 5 [4,5,6] ?_
    refine kEN ?_
    refine kX ?_
    obtain rfl := oi h16
    refine PJ.wk (Wk.freeze 0 (n := s1.2.length) (k := 1) (e := 9) (cs := s1.2.flatMap encT) (by kernel_rfl)) ?_
    exact kZ hFn hFH hFD
def bund_must_s0 (x0 : Int) : Option (Unit ⊕ Unit) :=
 (bif (decide (¬ x0 = 0)) then (some (.inr ())) else (some (.inl ())))
theorem bund_must_s0_okW {x0 : Int} {r : Unit ⊕ Unit} (h : bund_must_s0 x0 = some r) : (∀ a, r = .inl a → SC Try.prog 67 [iL x0] [] (.tup []) []) ∧ (∀ a, r = .inr a → SP Try.prog 67 [iL x0] [] []) := by
 refine kFnW (fn := Try.f67) _ _ _ (fun F hFn hFH hFD => ?_)
 unfold bund_must_s0 at h
 refine kSR ?_
 refine kC 2 [3] ?_
 refine kEN ?_
 refine kBJ 3 h (fun h0 => ?_) (fun h1 => ?_)
 ·refine kT ?_
  refine kR ?_
  refine RJ.panic (d := 4) (by kernel_rfl) ?_ (by rw [hFn]; kernel_rfl)
  obtain rfl := oi h0
  exact K.panV (H0 := []) (H' := []) [] hFH hFD (by kernel_rfl) (by kernel_rfl) (by decide) (by kernel_rfl) (by kernel_rfl) (by kernel_rfl)
 ·refine kF ?_
  refine kK ?_
  obtain rfl := oi h1
  exact K.retV (H0 := []) [] (.inl rfl) hFn hFH hFD (by kernel_rfl) (v1 := .tup []) (by kernel_rfl) (by kernel_rfl) (by kernel_rfl) (by decide) (by kernel_rfl) (by kernel_rfl) (by kernel_rfl) (by kernel_rfl) (by kernel_rfl)
theorem bund_must_s0_ok0 {x0 : Int} {r : Unit} (h : bund_must_s0 x0 = some (.inl r)) : SC Try.prog 67 [iL x0] [] (.tup []) [] := (bund_must_s0_okW h).1 _ rfl
theorem bund_must_s0_ok1 {x0 : Int} {r : Unit} (h : bund_must_s0 x0 = some (.inr r)) : SP Try.prog 67 [iL x0] [] [] := (bund_must_s0_okW h).2 _ rfl
def bund_reader__words_s0 (x0 : List Int) (x1 : Int) : Option ((Int × (List (List UInt8))) ⊕ Unit) :=
 (Option.bind (pack_TakePool x0 x1) fun y0 => (Option.bind (bund_must_s0 y0.2.2) fun y1 => (Sum.elim (fun y2 => (some (.inl (y0.2.1, y0.1)))) (fun y3 => (some (.inr ()))) y1)))
theorem bund_reader__words_s0_okW {x0 : List Int} {x1 : Int} {r : (Int × (List (List UInt8))) ⊕ Unit} (h : bund_reader__words_s0 x0 x1 = some r) : (∀ a, r = .inl a → SC Try.prog 55 [.ptr 0 0] [.box [lB x0, iL x1, .nl]] (.tup []) [.box [lB x0, iL a.1, lT a.2]]) ∧ (∀ a, r = .inr a → SP Try.prog 55 [.ptr 0 0] [.box [lB x0, iL x1, .nl]] [.box [.undef, iL x1, .undef]]) := by
 refine kFnW (fn := Try.f55) _ _ _ (fun F hFn hFH hFD => ?_)
 unfold bund_reader__words_s0 at h
 refine kS ?_
 refine J.keep [0] (L2 := [(0, .ptr 0 0)]) (by kernel_rfl) ?_
 refine K.draw (by kernel_rfl) (by kernel_rfl) (by kernel_rfl) (H2 := [.box [lB x0, iL x1, .nl], .res]) (by kernel_rfl) (n := 1) (by kernel_rfl) ?_
 refine kD 8 ?_
 obtain ⟨y0, hy1, h1⟩ := bindS h
 refine RJ.call0 (d := (some 14)) (f := 66) (args := [lB x0, iL x1]) (v := .tup [lT y0.1, iL y0.2.1, iL y0.2.2]) (tr2 := [([], []), ([], []), ([], []), ([0, 1], []), ([], []), ([], []), ([], []), ([0, 1], []), ([], [2, 3])]) (by kernel_rfl) (by kernel_rfl) (.cons (Le.refl _) (.cons (Le.refl _) .nil)) (pack_TakePool_ok hy1) (by kernel_rfl) ?_
 refine kD 7 ?_
 refine kEN ?_
 refine kSR ?_
 refine kC 1 [0,2,3,18] ?_
 obtain ⟨y1, hy0, h0⟩ := bindS h1
 rcases y1 with y2 | y3
 ·have h2 := elimL h0
  refine kCG (some 19) (args := [iL y0.2.2]) (v := .tup []) (H2 := [.box [lB x0, iL x1, .nl], .res]) [] (bund_must_s0_ok0 hy0) ?_
  refine kEN ?_
  refine kR ?_
  refine kC 10 [] ?_
  refine kE ?_
  obtain rfl := oi h2
  exact K.retV (H0 := [.box [lB x0, iL x1, .nl]]) [0] (.inl rfl) hFn hFH hFD (by kernel_rfl) (v1 := .tup []) (by kernel_rfl) (by kernel_rfl) (by kernel_rfl) (by decide) (by kernel_rfl) (by kernel_rfl) (by kernel_rfl) (by kernel_rfl) (by kernel_rfl)
 ·have h3 := elimR h0
  refine RJ.callP (d := (some 19)) (f := 67) (args := [iL y0.2.2]) (args0 := [iL y0.2.2]) (H0 := []) (H0' := []) (H2 := [.box [lB x0, iL x1, .nl], .res]) [] (by kernel_rfl) (by kernel_rfl) (by kernel_rfl) (by kernel_rfl) (by decide) (by kernel_rfl) (by kernel_rfl) (by kernel_rfl) (.cons (Le.refl _) .nil) (bund_must_s0_ok1 hy0) (by kernel_rfl) (by kernel_rfl) ?_
  refine PP.next ?_
  obtain rfl := oi h3
  refine PP.wk (Wk.undefs 0 [true, false, true] (cs := [lB x0, iL x1, .nl]) (by kernel_rfl)) ?_
  exact K.panV (H0 := [.box [lB x0, iL x1, .nl]]) (H' := [.box [.undef, iL x1, .undef]]) [0] hFH hFD (by kernel_rfl) (by kernel_rfl) (by decide) (by kernel_rfl) (by kernel_rfl) (by kernel_rfl)
theorem bund_reader__words_s0_ok0 {x0 : List Int} {x1 : Int} {r : Int × (List (List UInt8))} (h : bund_reader__words_s0 x0 x1 = some (.inl r)) : SC Try.prog 55 [.ptr 0 0] [.box [lB x0, iL x1, .nl]] (.tup []) [.box [lB x0, iL r.1, lT r.2]] := (bund_reader__words_s0_okW h).1 _ rfl
theorem bund_reader__words_s0_ok1 {x0 : List Int} {x1 : Int} {r : Unit} (h : bund_reader__words_s0 x0 x1 = some (.inr r)) : SP Try.prog 55 [.ptr 0 0] [.box [lB x0, iL x1, .nl]] [.box [.undef, iL x1, .undef]] := (bund_reader__words_s0_okW h).2 _ rfl
def bund_reader__take_s0 (x0 : Int) (x1 : List Int) (x2 : Int) (x3 : List (List UInt8)) : Option ((Int × Int) ⊕ Unit) :=
 (Option.bind (pack_Take x1 x2 x0) fun y0 => (Option.bind (bund_must_s0 y0.2.2) fun y1 => (Sum.elim (fun y2 => (some (.inl ((IntKind.wrap .i64 y0.1), y0.2.1)))) (fun y3 => (some (.inr ()))) y1)))
theorem bund_reader__take_s0_okW {x0 : Int} {x1 : List Int} {x2 : Int} {x3 : List (List UInt8)} {r : (Int × Int) ⊕ Unit} (h : bund_reader__take_s0 x0 x1 x2 x3 = some r) : (∀ a, r = .inl a → SC Try.prog 70 [.ptr 0 0, iL x0] [.box [lB x1, iL x2, lT x3]] (iL a.1) [.box [lB x1, iL a.2, lT x3]]) ∧ (∀ a, r = .inr a → SP Try.prog 70 [.ptr 0 0, iL x0] [.box [lB x1, iL x2, lT x3]] [.box [.undef, iL x2, .undef]]) := by
 refine kFnW (fn := Try.f70) _ _ _ (fun F hFn hFH hFD => ?_)
 unfold bund_reader__take_s0 at h
 refine kSR ?_
 refine kC 1 [0,1,4] ?_
 refine kEN ?_
 refine kS ?_
 refine J.keep [0, 1, 4] (L2 := [(0, .ptr 0 0), (1, iL x0), (4, iL 0)]) (by kernel_rfl) ?_
 refine K.draw (by kernel_rfl) (by kernel_rfl) (by kernel_rfl) (H2 := [.box [lB x1, iL x2, lT x3], .res]) (by kernel_rfl) (n := 1) (by kernel_rfl) ?_
 refine kD 9 ?_
 obtain ⟨y0, hy1, h1⟩ := bindS h
 refine RJ.call0 (d := (some 18)) (f := 77) (args := [lB x1, iL x2, iL x0]) (v := .tup [.int .u32 y0.1, iL y0.2.1, iL y0.2.2]) (tr2 := [([], []), ([], []), ([], []), ([0, 1], []), ([], []), ([], []), ([], []), ([0, 1], []), ([], []), ([], [2, 3])]) (by kernel_rfl) (by kernel_rfl) (.cons (Le.refl _) (.cons (Le.refl _) (.cons (Le.refl _) .nil))) (pack_Take_ok hy1) (by kernel_rfl) ?_
 refine kD 7 ?_
 refine kEN ?_
 refine kSR ?_
 refine kC 1 [0,4,5,6,22] ?_
 obtain ⟨y1, hy0, h0⟩ := bindS h1
 rcases y1 with y2 | y3
 ·have h2 := elimL h0
  refine kCG (some 23) (args := [iL y0.2.2]) (v := .tup []) (H2 := [.box [lB x1, iL x2, lT x3], .res]) [] (bund_must_s0_ok0 hy0) ?_
  refine kEN ?_
  refine kSR ?_
  refine kC 5 [4,5] ?_
  refine kEN ?_
  refine kSR ?_
  refine kC 3 [4] ?_
  refine kEN ?_
  refine kX ?_
  obtain rfl := oi h2
  exact kV [0] hFn hFH hFD (v1 := iL (IntKind.wrap .i64 y0.1))
 ·have h3 := elimR h0
  refine RJ.callP (d := (some 23)) (f := 67) (args := [iL y0.2.2]) (args0 := [iL y0.2.2]) (H0 := []) (H0' := []) (H2 := [.box [lB x1, iL x2, lT x3], .res]) [] (by kernel_rfl) (by kernel_rfl) (by kernel_rfl) (by kernel_rfl) (by decide) (by kernel_rfl) (by kernel_rfl) (by kernel_rfl) (.cons (Le.refl _) .nil) (bund_must_s0_ok1 hy0) (by kernel_rfl) (by kernel_rfl) ?_
  refine PP.next ?_
  obtain rfl := oi h3
  refine PP.wk (Wk.undefs 0 [true, false, true] (cs := [lB x1, iL x2, lT x3]) (by kernel_rfl)) ?_
  exact K.panV (H0 := [.box [lB x1, iL x2, lT x3]]) (H' := [.box [.undef, iL x2, .undef]]) [0] hFH hFD (by kernel_rfl) (by kernel_rfl) (by decide) (by kernel_rfl) (by kernel_rfl) (by kernel_rfl)
theorem bund_reader__take_s0_ok0 {x0 : Int} {x1 : List Int} {x2 : Int} {x3 : List (List UInt8)} {r : Int × Int} (h : bund_reader__take_s0 x0 x1 x2 x3 = some (.inl r)) : SC Try.prog 70 [.ptr 0 0, iL x0] [.box [lB x1, iL x2, lT x3]] (iL r.1) [.box [lB x1, iL r.2, lT x3]] := (bund_reader__take_s0_okW h).1 _ rfl
theorem bund_reader__take_s0_ok1 {x0 : Int} {x1 : List Int} {x2 : Int} {x3 : List (List UInt8)} {r : Unit} (h : bund_reader__take_s0 x0 x1 x2 x3 = some (.inr r)) : SP Try.prog 70 [.ptr 0 0, iL x0] [.box [lB x1, iL x2, lT x3]] [.box [.undef, iL x2, .undef]] := (bund_reader__take_s0_okW h).2 _ rfl
def pack_Spread (x0 : List (List UInt8)) (x1 : List Int) : Option ((List (List UInt8)) × Int) :=
 (Option.bind (loopN (fun (s0 : Int × (List (List UInt8))) => (bif (decide (s0.1 < (x1.length : Int))) then (Option.bind (bif inR s0.1 x1.length then (Option.bind (Option.bind (bif (decide ((nth x1 s0.1) < 0)) then (some true) else (some ((decide ((nth x1 s0.1) ≥ (x0.length : Int)))))) fun (s2 : Bool) => (bif s2 then (some (.inr (.inr (.inr (.inr (([] : List (List UInt8)), 7)))))) else (some (.inl ())))) (joinX fun (s3 : Unit) => (bif inR (nth x1 s0.1) x0.length then (bif room (s0.2.length + (([(nth x0 (nth x1 s0.1))] : List (List UInt8))).length) then (some (.inl ())) else none) else none))) else none) (joinX fun (s4 : Unit) => (some (.inl ((IntKind.wrap .i64 (s0.1 + 1)), (s0.2 ++ (([(nth x0 (nth x1 s0.1))] : List (List UInt8))))))))) else (some (.inr (.inl s0.2))))) big (0, ([] : List (List UInt8)))) (joinX fun (s1 : (List (List UInt8))) => (some (s1, 0))))
theorem pack_Spread_ok {x0 : List (List UInt8)} {x1 : List Int} {r : (List (List UInt8)) × Int} (h : pack_Spread x0 x1 = some r) : SC Try.prog 79 [lT x0, lI x1] [] (.tup [lT r.1, iL r.2]) [] := by
 refine kFn (fn := Try.f79) (fun F hFn hFH hFD => ?_)
 unfold pack_Spread at h
 refine kSR ?_
 refine kC 2 [0,1,4,5] ?_
 refine kEN ?_
 refine kSR ?_
 refine kC 1 [0,1,4,5,6] ?_
 refine kEN ?_
 obtain ⟨y0, hy0, h0⟩ := bindS h
 refine K.cutX (by kernel_rfl) (fun (s1 : (List (List UInt8))) => ([(4, .nl), (5, iL 0), (6, .vc 0)], [vecL encT 1 9 s1])) y0 ?_ (fun s1 hs => ?_)
 ·refine kSR ?_
  refine kC 3 [0,4,5,6,9,10,11] ?_
  refine kEN ?_
  refine kb 0 ?_
  refine J.wk (Wk.viv 6 1 9 (by kernel_rfl)) ?_
  refine kl (fun (s0 : Int × (List (List UInt8))) => ([(0, lT x0), (4, .nl), (5, iL 0), (6, .vc 0), (9, lI x1), (10, iL (x1.length : Int)), (11, iL s0.1)], [vecL encT 1 9 s0.2])) hy0 [0, 4, 5, 6, 9, 10, 11] (fun s0 x521 hs0 => ?_)
  refine kSR ?_
  refine kC 1 [0,4,5,6,9,10,11,12] ?_
  refine kEN ?_
  refine kS ?_
  refine kBJ 12 hs0 (fun h3 => ?_) (fun h4 => ?_)
  ·refine kT ?_
   refine kK ?_
   refine PJ.next ?_
   obtain ⟨y1, hy1, h1⟩ := bindS h3
   refine K.cutX (by kernel_rfl) (fun (s4 : Unit) => ([(0, lT x0), (4, .nl), (5, iL 0), (6, .vc 0), (9, lI x1), (10, iL (x1.length : Int)), (11, iL s0.1)], [vecL encT 1 9 ((s0.2 ++ (([(nth x0 (nth x1 s0.1))] : List (List UInt8)))))])) y1 ?_ (fun s4 hs => ?_)
   ·refine kb 1 ?_
    refine kSR ?_
    obtain ⟨hm, h5⟩ := asrt hy1
    refine kI 13 (encI_len .i64) hm ?_
    refine kC 2 [0,4,5,6,8,9,10,11] ?_
    refine kEN ?_
    obtain ⟨y2, hy2, h2⟩ := bindS h5
    refine K.cutX (by kernel_rfl) (fun (s3 : Unit) => ([(0, lT x0), (4, .nl), (5, iL 0), (6, .vc 0), (8, iL (nth x1 s0.1)), (9, lI x1), (10, iL (x1.length : Int)), (11, iL s0.1)], [vecL encT 1 9 s0.2])) y2 ?_ (fun s3 hs => ?_)
    ·obtain ⟨s2, hy3, h6⟩ := bindS hy2
     refine K.cutN (by kernel_rfl) (fun (s2 : Bool) => ([(0, lT x0), (4, .nl), (5, iL 0), (6, .vc 0), (8, iL (nth x1 s0.1)), (9, lI x1), (10, iL (x1.length : Int)), (11, iL s0.1), (22, .bool s2)], [vecL encT 1 9 s0.2])) s2 ?_ ?_
     ·refine kR ?_
      refine kC 3 [0,4,5,6,8,9,10,11,17] ?_
      refine kB 17 hy3 (fun h7 => ?_) (fun h8 => ?_)
      ·refine kC 5 [0,4,5,6,8,9,10,11,22] ?_
       refine kE ?_
       obtain rfl := oi h7
       exact kN [0, 4, 5, 6, 8, 9, 10, 11, 22]
      ·refine kC 5 [0,4,5,6,8,9,10,11,22] ?_
       refine kE ?_
       obtain rfl := oi h8
       exact kN [0, 4, 5, 6, 8, 9, 10, 11, 22]
     ·refine kBJ 22 h6 (fun h9 => ?_) (fun h10 => ?_)
      ·refine kT ?_
       refine kSR ?_
       refine kC 2 [0,4,5,6,8,9,10,11] ?_
       refine kEN ?_
       refine kX ?_
       obtain rfl := oi h9
       have h11 := joinX_inr h2
       refine PJ.cutXr (fun e => nomatch e) ?_
       refine PJ.blockRet ?_
       obtain rfl := oi h11
       have h12 := joinX_inr h1
       refine PJ.cutXr (fun e => nomatch e) ?_
       obtain rfl := oi h12
       refine PJ.loopOut (fun e => nomatch e) (fun he0 => ?_)
       have h13 := congrArg some he0
       refine PJ.blockRet ?_
       obtain rfl := oi h13
       have h14 := joinX_inr h0
       refine PJ.cutXr (fun e => nomatch e) ?_
       obtain rfl := oi h14
       refine PJ.res (v1 := .tup [.nl, iL 7]) (Le.tup (.cons (Le.nl _) (.cons (Le.refl _) .nil))) ?_
       exact kZ hFn hFH hFD
      ·refine kF ?_
       refine kK ?_
       obtain rfl := oi h10
       exact kXl [0, 4, 5, 6, 8, 9, 10, 11]
    ·subst hs
     have h15 := joinX_inl h2
     refine kR ?_
     refine kC 3 [0,4,5,6,9,10,11,23,24,25] ?_
     obtain ⟨hm, h16⟩ := asrt h15
     refine kI 26 encT_len hm ?_
     refine kC 2 [0,4,5,6,9,10,11,23,28] ?_
     obtain ⟨hm, h17⟩ := asrt h16
     refine RJ.rel (d := (some 29)) (ef := ⟨.vc 2, [0, 1], [(0, .gone), (2, .vec (s0.2.length + (([(nth x0 (nth x1 s0.1))] : List (List UInt8))).length) 1 9 (s0.2.flatMap encT ++ (([(nth x0 (nth x1 s0.1))] : List (List UInt8))).flatMap encT))]⟩) (ef' := ⟨.vc 2, [0, 1], [(0, .gone), (2, vecL encT 1 9 (s0.2 ++ (([(nth x0 (nth x1 s0.1))] : List (List UInt8)))))]⟩) (c := room (s0.2.length + (([(nth x0 (nth x1 s0.1))] : List (List UInt8))).length)) (tr2 := []) (H2 := [.gone, vecL encT 1 9 (([(nth x0 (nth x1 s0.1))] : List (List UInt8))), vecL encT 1 9 ((s0.2 ++ (([(nth x0 (nth x1 s0.1))] : List (List UInt8)))))]) (by kernel_rfl) hm (fun hc => N.app) (by kernel_rfl) ?_
     refine kC 1 [0,4,5,6,9,10,11] ?_
     refine kE ?_
     refine PJ.blockNormal ?_
     obtain rfl := oi h17
     refine kW (L2 := [(0, lT x0), (4, .nl), (5, iL 0), (6, .vc 0), (9, lI x1), (10, iL (x1.length : Int)), (11, iL s0.1)]) (H2 := [vecL encT 1 9 ((s0.2 ++ (([(nth x0 (nth x1 s0.1))] : List (List UInt8)))))]) hFH hFD [2] ?_
     exact kXl [0, 4, 5, 6, 9, 10, 11]
   ·subst hs
    have h18 := joinX_inl h1
    refine kR ?_
    refine kC 2 [0,4,5,6,9,10,11] ?_
    refine kE ?_
    obtain rfl := oi h18
    exact kLN [0, 4, 5, 6, 9, 10, 11]
  ·refine kF ?_
   refine K.exit 0 (by kernel_rfl) ?_
   refine PJ.passExit ?_
   obtain rfl := oi h4
   refine PJ.loopOut (fun e => nomatch e) (fun he1 => ?_)
   have h19 := congrArg some he1
   refine PJ.blockOut ?_
   obtain rfl := oi h19
   exact kXl [4, 5, 6]
 ·subst hs
  have h20 := joinX_inl h0
  refine kSR ?_
  refine kC 3 [4,5] ?_
  refine kEN ?_
  refine kX ?_
  obtain rfl := oi h20
  refine PJ.wk (Wk.freeze 0 (n := s1.length) (k := 1) (e := 9) (cs := s1.flatMap encT) (by kernel_rfl)) ?_
  exact kZ hFn hFH hFD
def bund_reader__text_s0 (x0 : List Int) (x1 : Int) (x2 : List (List UInt8)) : Option ((List UInt8) × Int ⊕ Int) :=
 (Option.bind (bund_reader__take_s0 2 x0 x1 x2) fun y2 => (Sum.elim (fun y0 => (Option.bind (pack_Spread x2 ([y0.1] : List Int)) fun y1 => (Option.bind (bund_must_s0 y1.2) fun y3 => (Sum.elim (fun y4 => (bif inR 0 y1.1.length then (some (.inl ((nth y1.1 0), y0.2))) else none)) (fun y5 => (some (.inr y0.2))) y3)))) (fun y6 => (some (.inr x1))) y2))
theorem bund_reader__text_s0_okW {x0 : List Int} {x1 : Int} {x2 : List (List UInt8)} {r : (List UInt8) × Int ⊕ Int} (h : bund_reader__text_s0 x0 x1 x2 = some r) : (∀ a, r = .inl a → SC Try.prog 68 [.ptr 0 0] [.box [lB x0, iL x1, lT x2]] (.str a.1) [.box [lB x0, iL a.2, lT x2]]) ∧ (∀ a, r = .inr a → SP Try.prog 68 [.ptr 0 0] [.box [lB x0, iL x1, lT x2]] [.box [.undef, iL a, .undef]]) := by
 refine kFnW (fn := Try.f68) _ _ _ (fun F hFn hFH hFD => ?_)
 unfold bund_reader__text_s0 at h
 refine kSR ?_
 refine kC 1 [0,2] ?_
 refine kEN ?_
 refine kS ?_
 refine J.keep [0, 2] (L2 := [(0, .ptr 0 0), (2, .str ([] : List UInt8))]) (by kernel_rfl) ?_
 obtain ⟨y2, hy0, h0⟩ := bindS h
 rcases y2 with y0 | y6
 ·have h2 := elimL h0
  refine K.piv (by kernel_rfl) (by kernel_rfl) [(0, 6, .ptr 0 0), (1, 7, .ptr 0 0), (2, 8, .ptr 0 2), (3, 9, lT x2), (4, 10, .ptr 0 0)] [6, 7, 8, 9, 10, 11, 12] 5 11 (by kernel_rfl) (by kernel_rfl) (f := 70) (args := [.ptr 0 0, iL 2]) (args0 := [.ptr 0 0, iL 2]) (v0 := iL y0.1) (v := iL y0.1) (H0 := [.box [lB x0, iL x1, lT x2]]) (H0' := [.box [lB x0, iL y0.2, lT x2]]) (H2 := [.box [lB x0, iL y0.2, lT x2]]) (H3 := [.box [lB x0, iL y0.2, lT x2], .res, .res]) (n := 1) (by kernel_rfl) [0] (by kernel_rfl) (by kernel_rfl) (by kernel_rfl) (by decide) (by kernel_rfl) (by kernel_rfl) (by kernel_rfl) (.cons (Le.refl _) (.cons (Le.refl _) .nil)) (bund_reader__take_s0_ok0 hy0) (by kernel_rfl) (by kernel_rfl) (by kernel_rfl) (by kernel_rfl) (by kernel_rfl) (by kernel_rfl) (by kernel_rfl) (by rw [hFn]; kernel_rfl) ?_
  refine kD 6 ?_
  refine RJ.relZ (d := (some 12)) (ef := ⟨.lst ([y0.1] : List Int).length 1 (([y0.1] : List Int).flatMap (encI .i64)), [], [(1, .vec ([y0.1] : List Int).length 1 3 (([y0.1] : List Int).flatMap (encI .i64))), (1, .gone)]⟩) (ef' := ⟨.lst ([y0.1] : List Int).length 1 (([y0.1] : List Int).flatMap (encI .i64)), [], [(1, .vec ([y0.1] : List Int).length 1 3 (([y0.1] : List Int).flatMap (encI .i64))), (1, .gone)]⟩) (c := true) (tr2 := [([], []), ([], []), ([], []), ([0, 1], []), ([], []), ([], []), ([], [2, 3, 2, 3, 2, 3])]) (H2 := [.box [lB x0, iL y0.2, lT x2], .gone, .res]) (by kernel_rfl) rfl (fun hc => rfl) (by kernel_rfl) ?_
  obtain ⟨y1, hy2, h3⟩ := bindS h2
  refine RJ.call0 (d := (some 13)) (f := 79) (args := [lT x2, lI ([y0.1] : List Int)]) (v := .tup [lT y1.1, iL y1.2]) (tr2 := [([], []), ([], []), ([], []), ([0, 1], []), ([], []), ([], []), ([], [2, 3, 2, 3, 2, 3]), ([], [4, 5])]) (by kernel_rfl) (by kernel_rfl) (.cons (Le.refl _) (.cons (Le.refl _) .nil)) (pack_Spread_ok hy2) (by kernel_rfl) ?_
  refine kD 5 ?_
  refine kEN ?_
  refine kSR ?_
  refine kC 1 [2,3,16] ?_
  obtain ⟨y3, hy1, h1⟩ := bindS h3
  rcases y3 with y4 | y5
  ·have h4 := elimL h1
   refine kCG (some 17) (args := [iL y1.2]) (v := .tup []) (H2 := [.box [lB x0, iL y0.2, lT x2], .gone, .res]) [] (bund_must_s0_ok0 hy1) ?_
   refine kEN ?_
   refine kSR ?_
   refine kC 1 [2,18] ?_
   obtain ⟨hm, h5⟩ := asrt h4
   refine kI 19 encT_len hm ?_
   refine kC 2 [2] ?_
   refine kEN ?_
   refine kX ?_
   obtain rfl := oi h5
   exact kV [0] hFn hFH hFD (v1 := .str (nth y1.1 0))
  ·have h6 := elimR h1
   refine RJ.callP (d := (some 17)) (f := 67) (args := [iL y1.2]) (args0 := [iL y1.2]) (H0 := []) (H0' := []) (H2 := [.box [lB x0, iL y0.2, lT x2], .gone, .res]) [] (by kernel_rfl) (by kernel_rfl) (by kernel_rfl) (by kernel_rfl) (by decide) (by kernel_rfl) (by kernel_rfl) (by kernel_rfl) (.cons (Le.refl _) .nil) (bund_must_s0_ok1 hy1) (by kernel_rfl) (by kernel_rfl) ?_
   refine PP.next ?_
   obtain rfl := oi h6
   refine PP.wk (Wk.undefs 0 [true, false, true] (cs := [lB x0, iL y0.2, lT x2]) (by kernel_rfl)) ?_
   exact K.panV (H0 := [.box [lB x0, iL x1, lT x2]]) (H' := [.box [.undef, iL y0.2, .undef]]) [0] hFH hFD (by kernel_rfl) (by kernel_rfl) (by decide) (by kernel_rfl) (by kernel_rfl) (by kernel_rfl)
 ·have h7 := elimR h0
  refine K.pivP (by kernel_rfl) (by kernel_rfl) [(0, 6, .ptr 0 0), (1, 7, .ptr 0 0), (2, 8, .ptr 0 2), (3, 9, lT x2), (4, 10, .ptr 0 0)] [6, 7, 8, 9, 10, 11, 12] 5 11 (by kernel_rfl) (by kernel_rfl) (f := 70) (args := [.ptr 0 0, iL 2]) (args0 := [.ptr 0 0, iL 2]) (H0 := [.box [lB x0, iL x1, lT x2]]) (H0' := [.box [.undef, iL x1, .undef]]) (H2 := [.box [.undef, iL x1, .undef]]) (by kernel_rfl) [0] (by kernel_rfl) (by kernel_rfl) (by kernel_rfl) (by decide) (by kernel_rfl) (by kernel_rfl) (by kernel_rfl) (.cons (Le.refl _) (.cons (Le.refl _) .nil)) (bund_reader__take_s0_ok1 hy0) (by kernel_rfl) (by kernel_rfl) ?_
  refine PP.next ?_
  obtain rfl := oi h7
  exact K.panV (H0 := [.box [lB x0, iL x1, lT x2]]) (H' := [.box [.undef, iL x1, .undef]]) [0] hFH hFD (by kernel_rfl) (by kernel_rfl) (by decide) (by kernel_rfl) (by kernel_rfl) (by kernel_rfl)
theorem bund_reader__text_s0_ok0 {x0 : List Int} {x1 : Int} {x2 : List (List UInt8)} {r : (List UInt8) × Int} (h : bund_reader__text_s0 x0 x1 x2 = some (.inl r)) : SC Try.prog 68 [.ptr 0 0] [.box [lB x0, iL x1, lT x2]] (.str r.1) [.box [lB x0, iL r.2, lT x2]] := (bund_reader__text_s0_okW h).1 _ rfl
theorem bund_reader__text_s0_ok1 {x0 : List Int} {x1 : Int} {x2 : List (List UInt8)} {r : Int} (h : bund_reader__text_s0 x0 x1 x2 = some (.inr r)) : SP Try.prog 68 [.ptr 0 0] [.box [lB x0, iL x1, lT x2]] [.box [.undef, iL r, .undef]] := (bund_reader__text_s0_okW h).2 _ rfl
def bund_reader__sign_s0 (x0 : List Int) (x1 : Int) (x2 : List (List UInt8)) : Option ((Int × Int) ⊕ Unit) :=
 (Option.bind (bund_reader__take_s0 4 x0 x1 x2) fun y1 => (Sum.elim (fun y0 => (some (.inl ((IntKind.wrap .i32 y0.1), y0.2)))) (fun y2 => (some (.inr ()))) y1))
theorem bund_reader__sign_s0_okW {x0 : List Int} {x1 : Int} {x2 : List (List UInt8)} {r : (Int × Int) ⊕ Unit} (h : bund_reader__sign_s0 x0 x1 x2 = some r) : (∀ a, r = .inl a → SC Try.prog 69 [.ptr 0 0] [.box [lB x0, iL x1, lT x2]] (iM a.1) [.box [lB x0, iL a.2, lT x2]]) ∧ (∀ a, r = .inr a → SP Try.prog 69 [.ptr 0 0] [.box [lB x0, iL x1, lT x2]] [.box [.undef, iL x1, .undef]]) := by
 refine kFnW (fn := Try.f69) _ _ _ (fun F hFn hFH hFD => ?_)
 unfold bund_reader__sign_s0 at h
 refine kSR ?_
 refine kC 1 [0,2] ?_
 refine kEN ?_
 refine kSR ?_
 refine kC 1 [2,3] ?_
 obtain ⟨y1, hy0, h0⟩ := bindS h
 rcases y1 with y0 | y2
 ·have h1 := elimL h0
  refine kCG (some 4) (args := [.ptr 0 0, iL 4]) (v := iL y0.1) (H2 := [.box [lB x0, iL y0.2, lT x2]]) [0] (bund_reader__take_s0_ok0 hy0) ?_
  refine kC 2 [2] ?_
  refine kEN ?_
  refine kX ?_
  obtain rfl := oi h1
  exact kV [0] hFn hFH hFD (v1 := iM (IntKind.wrap .i32 y0.1))
 ·have h2 := elimR h0
  refine RJ.callP (d := (some 4)) (f := 70) (args := [.ptr 0 0, iL 4]) (args0 := [.ptr 0 0, iL 4]) (H0 := [.box [lB x0, iL x1, lT x2]]) (H0' := [.box [.undef, iL x1, .undef]]) (H2 := [.box [.undef, iL x1, .undef]]) [0] (by kernel_rfl) (by kernel_rfl) (by kernel_rfl) (by kernel_rfl) (by decide) (by kernel_rfl) (by kernel_rfl) (by kernel_rfl) (.cons (Le.refl _) (.cons (Le.refl _) .nil)) (bund_reader__take_s0_ok1 hy0) (by kernel_rfl) (by kernel_rfl) ?_
  refine PP.next ?_
  obtain rfl := oi h2
  exact K.panV (H0 := [.box [lB x0, iL x1, lT x2]]) (H' := [.box [.undef, iL x1, .undef]]) [0] hFH hFD (by kernel_rfl) (by kernel_rfl) (by decide) (by kernel_rfl) (by kernel_rfl) (by kernel_rfl)
theorem bund_reader__sign_s0_ok0 {x0 : List Int} {x1 : Int} {x2 : List (List UInt8)} {r : Int × Int} (h : bund_reader__sign_s0 x0 x1 x2 = some (.inl r)) : SC Try.prog 69 [.ptr 0 0] [.box [lB x0, iL x1, lT x2]] (iM r.1) [.box [lB x0, iL r.2, lT x2]] := (bund_reader__sign_s0_okW h).1 _ rfl
theorem bund_reader__sign_s0_ok1 {x0 : List Int} {x1 : Int} {x2 : List (List UInt8)} {r : Unit} (h : bund_reader__sign_s0 x0 x1 x2 = some (.inr r)) : SP Try.prog 69 [.ptr 0 0] [.box [lB x0, iL x1, lT x2]] [.box [.undef, iL x1, .undef]] := (bund_reader__sign_s0_okW h).2 _ rfl
end Go.Proofs.Ythhabncebpaheaa
