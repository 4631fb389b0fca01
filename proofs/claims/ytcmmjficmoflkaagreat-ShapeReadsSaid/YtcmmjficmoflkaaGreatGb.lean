/-
  What the functions of this program come to, as functions of natives, each with the proof that it does. No conditions.
-/
import Derived.Test.YtcmmjficmoflkaaGreatProg
import Derived.Test.YtcmmjficmoflkaaGreatSyV
import Derived.Test.YtcmmjficmoflkaaGreatGa
namespace Go.Proofs.YtcmmjficmoflkaaGreat
open Go Go.Sy Go.RowKit
set_option linter.unusedVariables false
set_option linter.unusedSimpArgs false
set_option maxRecDepth 100000
set_option maxHeartbeats 4000000

def round_Inc (x0 : St28) (x1 : Int) (x2 : Int) (x3 : Int) : Option (St28 × Int) :=
 (Option.bind (Option.bind (Option.bind (round_Is x3) fun y65 => (bif (!y65) then (some true) else (Option.bind (round_unit x1 x2) fun y71 => (bif (!y71) then (some true) else (Option.bind (dec_Right x0) fun y77 => (some (!y77))))))) fun (s60 : Bool) => (bif s60 then (some (.inr ((⟨false, ([] : List Int), 0⟩ : St28), 1))) else (some (.inl ())))) (joinX fun (s40 : Unit) => (Option.bind (round_split x0 x1 x2) fun y84 => (Option.bind (Option.bind (bif (decide (y84.2 = 0)) then (Option.bind (round_below x0 x2) fun y130 => (some (!y130))) else (some false)) fun (s122 : Bool) => (bif s122 then (Option.bind (dec_Norm x0.Neg_ x0.D_ x0.E_) fun y136 => (some (.inr (y136.1, y136.2)))) else (some (.inl ())))) (joinX fun (s111 : Unit) => (Option.bind (bif (decide ((y84.1.length : Int) > 0)) then (bif inR ((IntKind.wrap .i64 ((y84.1.length : Int) - 1))) y84.1.length then (bif inR ((IntKind.wrap .i64 ((y84.1.length : Int) - 1))) y84.1.length then (some ((decide (((Int.tmod ((nth y84.1 ((IntKind.wrap .i64 ((y84.1.length : Int) - 1))))) 2)) = 1)))) else none) else none) else (some false)) fun (s145 : Bool) => (Option.bind (round_middle x0 y84.2 x1 x2) fun y155 => (Option.bind (Option.bind (round_ways_s0 (⟨x0.Neg_, s145, y155⟩ : St123)) fun y270 => (bif (decide (x3 = 0)) then (Option.bind round_ways_2 fun y277 => (bif y277 then (Option.bind (round_next y84.1) fun y283 => (some y283)) else (some y84.1))) else (bif (decide (x3 = 1)) then (Option.bind round_ways_3 fun y290 => (bif y290 then (Option.bind (round_next y84.1) fun y296 => (some y296)) else (some y84.1))) else (bif (decide (x3 = 2)) then (Option.bind (round_ways_4_s0 ((⟨x0.Neg_, s145, y155⟩ : St123).neg_) ((⟨x0.Neg_, s145, y155⟩ : St123).odd_) ((⟨x0.Neg_, s145, y155⟩ : St123).half_)) fun y303 => (bif y303 then (Option.bind (round_next y84.1) fun y309 => (some y309)) else (some y84.1))) else (bif (decide (x3 = 3)) then (Option.bind (round_ways_5_s0 ((⟨x0.Neg_, s145, y155⟩ : St123).neg_) ((⟨x0.Neg_, s145, y155⟩ : St123).odd_) ((⟨x0.Neg_, s145, y155⟩ : St123).half_)) fun y316 => (bif y316 then (Option.bind (round_next y84.1) fun y322 => (some y322)) else (some y84.1))) else (bif (decide (x3 = 4)) then (Option.bind (round_ways_6_s0 ((⟨x0.Neg_, s145, y155⟩ : St123).neg_) ((⟨x0.Neg_, s145, y155⟩ : St123).odd_) ((⟨x0.Neg_, s145, y155⟩ : St123).half_)) fun y329 => (bif y329 then (Option.bind (round_next y84.1) fun y335 => (some y335)) else (some y84.1))) else (bif (decide (x3 = 5)) then (Option.bind (round_ways_7_s0 ((⟨x0.Neg_, s145, y155⟩ : St123).neg_) ((⟨x0.Neg_, s145, y155⟩ : St123).odd_) ((⟨x0.Neg_, s145, y155⟩ : St123).half_)) fun y342 => (bif y342 then (Option.bind (round_next y84.1) fun y348 => (some y348)) else (some y84.1))) else (bif (decide (x3 = 6)) then (Option.bind (round_ways_8_s0 ((⟨x0.Neg_, s145, y155⟩ : St123).neg_) ((⟨x0.Neg_, s145, y155⟩ : St123).odd_) ((⟨x0.Neg_, s145, y155⟩ : St123).half_)) fun y355 => (bif y355 then (Option.bind (round_next y84.1) fun y361 => (some y361)) else (some y84.1))) else (bif (decide (x3 = 7)) then (Option.bind (round_ways_9_s0 ((⟨x0.Neg_, s145, y155⟩ : St123).neg_) ((⟨x0.Neg_, s145, y155⟩ : St123).odd_) ((⟨x0.Neg_, s145, y155⟩ : St123).half_)) fun y368 => (bif y368 then (Option.bind (round_next y84.1) fun y374 => (some y374)) else (some y84.1))) else none))))))))) fun (s265 : (List Int)) => (Option.bind (round_times s265 x1) fun y377 => (Option.bind (dec_Norm x0.Neg_ y377 x2) fun y380 => (some (y380.1, y380.2))))))))))))
theorem round_Inc_ok {x0 : St28} {x1 : Int} {x2 : Int} {x3 : Int} {r : St28 × Int} (h : round_Inc x0 x1 x2 x3 = some r) : SC Tryz.prog 66 [.agg (encSt28 x0), .int .i64 x1, .int .i64 x2, .int .i64 x3] [] (.tup [.agg (encSt28 r.1), .int .i64 r.2]) [] := by
 refine kFn (fn := Tryz.f66) (fun F hFn hFH hFD => ?_)
 unfold round_Inc at h
 refine kSR ?_
 refine kC 3 [1,2,3,4,8,9] ?_
 refine kEN ?_
 obtain ⟨y41, hy42, h43⟩ := bindS h
 refine K.cutX (by kernel_rfl) (fun (s40 : Unit) => ([(1, .int .i64 x1), (2, .int .i64 x2), (3, .int .i64 x3), (4, .ptr 0 0), (8, .ptr 1 0), (9, .int .i64 0)], [.box (encSt28 x0), .box [.bool false, .nl, .int .i64 0]])) y41 ?_ (fun s40 hs => ?_)
 ·obtain ⟨s60, hy62, h64⟩ := bindS hy42
  refine K.cutN (by kernel_rfl) (fun (s60 : Bool) => ([(1, .int .i64 x1), (2, .int .i64 x2), (3, .int .i64 x3), (4, .ptr 0 0), (8, .ptr 1 0), (9, .int .i64 0), (27, .bool s60)], [.box (encSt28 x0), .box [.bool false, .nl, .int .i64 0]])) s60 ?_ ?_
  ·refine kR ?_
   refine kC 1 [1,2,3,4,8,9,14] ?_
   obtain ⟨y65, hy66, h67⟩ := bindS hy62
   refine RJ.call0 (d := (some 15)) (f := 64) (args := [.int .i64 x3]) (v := .bool y65) (tr2 := []) (by kernel_rfl) (by kernel_rfl) (.cons (Le.refl _) .nil) (round_Is_ok hy66) (by kernel_rfl) ?_
   refine kC 2 [1,2,3,4,8,9,17] ?_
   refine RJ.caseB 17 (b := (!y65)) (by kernel_rfl) (fun hb68 => ?_) (fun hb68 => ?_)
   ·have h69 := condT hb68 h67
    refine RJ.seg 10 [1, 2, 3, 4, 8, 9, 27] (L2 := [(1, .int .i64 x1), (2, .int .i64 x2), (3, .int .i64 x3), (4, .ptr 0 0), (8, .ptr 1 0), (9, .int .i64 0), (27, .bool true)]) (H2 := [.box (encSt28 x0), .box [.bool false, .nl, .int .i64 0]]) (by kernel_rfl) ?_
    refine kE ?_
    obtain rfl := oi h69
    exact kN [1, 2, 3, 4, 8, 9, 27]
   ·have h70 := condF hb68 h67
    refine RJ.seg 2 [1, 2, 3, 4, 8, 9, 17, 18, 19] (L2 := [(1, .int .i64 x1), (2, .int .i64 x2), (3, .int .i64 x3), (4, .ptr 0 0), (8, .ptr 1 0), (9, .int .i64 0), (17, .bool false), (18, .int .i64 x1), (19, .int .i64 x2)]) (H2 := [.box (encSt28 x0), .box [.bool false, .nl, .int .i64 0]]) (by kernel_rfl) ?_
    obtain ⟨y71, hy72, h73⟩ := bindS h70
    refine RJ.call0 (d := (some 20)) (f := 89) (args := [.int .i64 x1, .int .i64 x2]) (v := .bool y71) (tr2 := []) (by kernel_rfl) (by kernel_rfl) (.cons (Le.refl _) (.cons (Le.refl _) .nil)) (round_unit_ok hy72) (by kernel_rfl) ?_
    refine kC 3 [1,2,3,4,8,9,23] ?_
    refine RJ.caseB 23 (b := (!y71)) (by kernel_rfl) (fun hb74 => ?_) (fun hb74 => ?_)
    ·have h75 := condT hb74 h73
     refine kC 4 [1,2,3,4,8,9,27] ?_
     refine kE ?_
     obtain rfl := oi h75
     exact kN [1, 2, 3, 4, 8, 9, 27]
    ·have h76 := condF hb74 h73
     refine kC 1 [1,2,3,4,8,9,23,24] ?_
     obtain ⟨y77, hy78, h79⟩ := bindS h76
     refine RJ.call0 (d := (some 25)) (f := 32) (args := [.agg (encSt28 x0)]) (v := .bool y77) (tr2 := []) (by kernel_rfl) (by kernel_rfl) (.cons (Le.refl _) .nil) (dec_Right_ok hy78) (by kernel_rfl) ?_
     refine kC 2 [1,2,3,4,8,9,27] ?_
     refine kE ?_
     obtain rfl := oi h79
     exact kN [1, 2, 3, 4, 8, 9, 27]
  ·refine J.caseB 27 (b := s60) (by kernel_rfl) (fun hb80 => ?_) (fun hb80 => ?_)
   ·have h81 := condT hb80 h64
    refine kT ?_
    refine kSR ?_
    refine kC 3 [1,2,3,4,8,9] ?_
    refine kEN ?_
    refine kX ?_
    obtain rfl := oi h81
    have h83 := joinX_inr h43
    refine PJ.cutXr (fun e => nomatch e) ?_
    obtain rfl := oi h83
    refine PJ.res (v1 := .tup [.agg [.bool false, .nl, .int .i64 0], .int .i64 1]) (Le.tup (.cons (Le.agg (.cons (Le.refl _) (.cons (Le.nl _) (.cons (Le.refl _) .nil)))) (.cons (Le.refl _) .nil))) ?_
    exact kZ hFn hFH hFD
   ·have h82 := condF hb80 h64
    refine kF ?_
    refine kK ?_
    obtain rfl := oi h82
    exact PJ.cutXl [1, 2, 3, 4, 8, 9] (by kernel_rfl) (by kernel_rfl)
 ·subst hs
  have h44 := joinX_inl h43
  refine kSR ?_
  refine kC 3 [1,2,3,4,8,9,30,31,32] ?_
  obtain ⟨y84, hy85, h86⟩ := bindS h44
  refine RJ.callG (d := (some 33)) (f := 90) (args := [.agg (encSt28 x0), .int .i64 x1, .int .i64 x2]) (args0 := [.agg (encSt28 x0), .int .i64 x1, .int .i64 x2]) (v0 := .tup [.vc 0, .int .i64 y84.2]) (v := .tup [.vc 2, .int .i64 y84.2]) (tr2 := []) (H0 := []) (H0' := [vecL (encI .u8) 1 5 y84.1]) (H2 := [.box (encSt28 x0), .box [.bool false, .nl, .int .i64 0], vecL (encI .u8) 1 5 y84.1]) [] (by kernel_rfl) (by kernel_rfl) (by kernel_rfl) (by kernel_rfl) (by decide) (by kernel_rfl) (by kernel_rfl) (by kernel_rfl) (.cons (Le.refl _) (.cons (Le.refl _) (.cons (Le.refl _) .nil))) (round_split_ok_o hy85) (by kernel_rfl) (by kernel_rfl) (by kernel_rfl) ?_
  refine kC 5 [1,2,3,4,8,9,10,11] ?_
  refine kEN ?_
  obtain ⟨y112, hy113, h114⟩ := bindS h86
  refine K.cutX (by kernel_rfl) (fun (s111 : Unit) => ([(1, .int .i64 x1), (2, .int .i64 x2), (3, .int .i64 x3), (4, .ptr 0 0), (8, .ptr 1 0), (9, .int .i64 0), (10, .vc 2), (11, .int .i64 y84.2)], [.box (encSt28 x0), .box [.bool false, .nl, .int .i64 0], vecL (encI .u8) 1 5 y84.1])) y112 ?_ (fun s111 hs => ?_)
  ·obtain ⟨s122, hy124, h126⟩ := bindS hy113
   refine K.cutN (by kernel_rfl) (fun (s122 : Bool) => ([(1, .int .i64 x1), (2, .int .i64 x2), (3, .int .i64 x3), (4, .ptr 0 0), (8, .ptr 1 0), (9, .int .i64 0), (10, .vc 2), (11, .int .i64 y84.2), (43, .bool s122)], [.box (encSt28 x0), .box [.bool false, .nl, .int .i64 0], vecL (encI .u8) 1 5 y84.1])) s122 ?_ ?_
   ·refine kR ?_
    refine kC 3 [1,2,3,4,8,9,10,11,38] ?_
    refine RJ.caseB 38 (b := (decide (y84.2 = 0))) (by kernel_rfl) (fun hb127 => ?_) (fun hb127 => ?_)
    ·have h128 := condT hb127 hy124
     refine RJ.seg 2 [1, 2, 3, 4, 8, 9, 10, 11, 38, 39, 40] (L2 := [(1, .int .i64 x1), (2, .int .i64 x2), (3, .int .i64 x3), (4, .ptr 0 0), (8, .ptr 1 0), (9, .int .i64 0), (10, .vc 2), (11, .int .i64 y84.2), (38, .bool true), (39, .agg (encSt28 x0)), (40, .int .i64 x2)]) (H2 := [.box (encSt28 x0), .box [.bool false, .nl, .int .i64 0], vecL (encI .u8) 1 5 y84.1]) (by kernel_rfl) ?_
     obtain ⟨y130, hy131, h132⟩ := bindS h128
     refine RJ.call0 (d := (some 41)) (f := 91) (args := [.agg (encSt28 x0), .int .i64 x2]) (v := .bool y130) (tr2 := []) (by kernel_rfl) (by kernel_rfl) (.cons (Le.refl _) (.cons (Le.refl _) .nil)) (round_below_ok hy131) (by kernel_rfl) ?_
     refine kC 2 [1,2,3,4,8,9,10,11,43] ?_
     refine kE ?_
     obtain rfl := oi h132
     exact kN [1, 2, 3, 4, 8, 9, 10, 11, 43]
    ·have h129 := condF hb127 hy124
     refine RJ.seg 5 [1, 2, 3, 4, 8, 9, 10, 11, 43] (L2 := [(1, .int .i64 x1), (2, .int .i64 x2), (3, .int .i64 x3), (4, .ptr 0 0), (8, .ptr 1 0), (9, .int .i64 0), (10, .vc 2), (11, .int .i64 y84.2), (43, .bool false)]) (H2 := [.box (encSt28 x0), .box [.bool false, .nl, .int .i64 0], vecL (encI .u8) 1 5 y84.1]) (by kernel_rfl) ?_
     refine kE ?_
     obtain rfl := oi h129
     exact kN [1, 2, 3, 4, 8, 9, 10, 11, 43]
   ·refine J.caseB 43 (b := s122) (by kernel_rfl) (fun hb133 => ?_) (fun hb133 => ?_)
    ·have h134 := condT hb133 h126
     refine kT ?_
     refine kSR ?_
     refine kC 6 [1,2,3,4,8,9,10,11,45,47,49] ?_
     obtain ⟨y136, hy137, h138⟩ := bindS h134
     refine RJ.call0 (d := (some 50)) (f := 49) (args := (encSt28 x0)) (v := .tup [.agg (encSt28 y136.1), .int .i64 y136.2]) (tr2 := []) (by kernel_rfl) (by kernel_rfl) (.cons (Le.refl _) (.cons (Le.refl _) (.cons (Le.refl _) .nil))) (dec_Norm_ok hy137) (by kernel_rfl) ?_
     refine kC 4 [1,2,3,4,8,9,10,11] ?_
     refine kEN ?_
     refine kX ?_
     obtain rfl := oi h138
     have h139 := joinX_inr h114
     refine PJ.cutXr (fun e => nomatch e) ?_
     obtain rfl := oi h139
     exact kZ hFn hFH hFD
    ·have h135 := condF hb133 h126
     refine kF ?_
     refine kK ?_
     obtain rfl := oi h135
     exact PJ.cutXl [1, 2, 3, 4, 8, 9, 10, 11] (by kernel_rfl) (by kernel_rfl)
  ·subst hs
   have h115 := joinX_inl h114
   obtain ⟨s145, hy147, h149⟩ := bindS h115
   refine K.cutN (by kernel_rfl) (fun (s145 : Bool) => ([(1, .int .i64 x1), (2, .int .i64 x2), (3, .int .i64 x3), (4, .ptr 0 0), (8, .ptr 1 0), (9, .int .i64 0), (10, .vc 2), (11, .int .i64 y84.2), (12, .bool s145)], [.box (encSt28 x0), .box [.bool false, .nl, .int .i64 0], vecL (encI .u8) 1 5 y84.1])) s145 ?_ ?_
   ·refine kR ?_
    refine kC 4 [1,2,3,4,8,9,10,11,56] ?_
    refine RJ.caseB 56 (b := (decide ((y84.1.length : Int) > 0))) (by kernel_rfl) (fun hb150 => ?_) (fun hb150 => ?_)
    ·have h151 := condT hb150 hy147
     refine kC 4 [1,2,3,4,8,9,10,11,56,57,60] ?_
     obtain ⟨hm, h153⟩ := asrt h151
     refine RJ.rel (d := (some 61)) (ef := ⟨.ptr 2 (((IntKind.wrap .i64 ((y84.1.length : Int) - 1)) : Int).toNat * 1), [2], []⟩) (ef' := ⟨.ptr 2 (((IntKind.wrap .i64 ((y84.1.length : Int) - 1)) : Int).toNat * 1), [2], []⟩) (c := inR ((IntKind.wrap .i64 ((y84.1.length : Int) - 1))) y84.1.length) (tr2 := []) (H2 := [.box (encSt28 x0), .box [.bool false, .nl, .int .i64 0], vecL (encI .u8) 1 5 y84.1]) (by kernel_rfl) hm (fun hc => rfl) (by kernel_rfl) ?_
     obtain ⟨hm, h154⟩ := asrt h153
     refine RJ.rel (d := (some 62)) (ef := ⟨(((y84.1).flatMap (encI .u8)).drop (((IntKind.wrap .i64 ((y84.1.length : Int) - 1)) : Int).toNat * 1)).headD .undef, [2], []⟩) (ef' := ⟨.int .u8 ((nth y84.1 ((IntKind.wrap .i64 ((y84.1.length : Int) - 1))))), [2], []⟩) (c := Nat.blt (((IntKind.wrap .i64 ((y84.1.length : Int) - 1)) : Int).toNat * 1) (y84.1.flatMap (encI .u8)).length) (tr2 := []) (H2 := [.box (encSt28 x0), .box [.bool false, .nl, .int .i64 0], vecL (encI .u8) 1 5 y84.1]) (by kernel_rfl) (loadv_ok (encI_len .u8) rfl hm) (fun hc => N.load1 (encI_len .u8) (fun _ => rfl) hm) (by kernel_rfl) ?_
     refine kC 4 [1,2,3,4,8,9,10,11,12] ?_
     refine kE ?_
     obtain rfl := oi h154
     exact kN [1, 2, 3, 4, 8, 9, 10, 11, 12]
    ·have h152 := condF hb150 hy147
     refine kC 10 [1,2,3,4,8,9,10,11,12] ?_
     refine kE ?_
     obtain rfl := oi h152
     exact kN [1, 2, 3, 4, 8, 9, 10, 11, 12]
   ·refine kS ?_
    refine J.keep [1, 2, 3, 4, 8, 9, 10, 11, 12] (L2 := [(1, .int .i64 x1), (2, .int .i64 x2), (3, .int .i64 x3), (4, .ptr 0 0), (8, .ptr 1 0), (9, .int .i64 0), (10, .vc 2), (11, .int .i64 y84.2), (12, .bool s145)]) (by kernel_rfl) ?_
    refine K.draw (by kernel_rfl) (by kernel_rfl) (by kernel_rfl) (H2 := [.box (encSt28 x0), .box [.bool false, .nl, .int .i64 0], vecL (encI .u8) 1 5 y84.1, .res, .res]) (by kernel_rfl) (n := 3) (by kernel_rfl) ?_
    refine kD 7 ?_
    obtain ⟨y155, hy156, h157⟩ := bindS h149
    refine RJ.call0 (d := (some 73)) (f := 92) (args := [.agg (encSt28 x0), .int .i64 y84.2, .int .i64 x1, .int .i64 x2]) (v := .int .i64 y155) (tr2 := [([], []), ([0, 1], []), ([], []), ([0, 1], []), ([], []), ([], []), ([], []), ([], [6, 7])]) (by kernel_rfl) (by kernel_rfl) (.cons (Le.refl _) (.cons (Le.refl _) (.cons (Le.refl _) (.cons (Le.refl _) .nil)))) (round_middle_ok hy156) (by kernel_rfl) ?_
    refine kD 3 ?_
    refine kEN ?_
    obtain ⟨s265, hy267, h269⟩ := bindS h157
    refine K.cutN (by kernel_rfl) (fun (s265 : (List Int)) => ([(1, .int .i64 x1), (2, .int .i64 x2), (4, .ptr 0 0), (8, .ptr 1 0), (9, .int .i64 0), (10, lsv (encI .u8) 1 s265)], [.box (encSt28 x0), .box [.bool false, .nl, .int .i64 0]])) s265 ?_ ?_
    ·refine kSR ?_
     refine kC 1 [1,2,3,4,8,9,10,75] ?_
     obtain ⟨y270, hy271, h272⟩ := bindS hy267
     refine RJ.callG (d := (some 76)) (f := 93) (args := [.agg [.bool x0.Neg_, .bool s145, .int .i64 y155]]) (args0 := [.agg [.bool x0.Neg_, .bool s145, .int .i64 y155]]) (v0 := .mp 0) (v := .mp 5) (tr2 := []) (H0 := []) (H0' := [.map [(.int .i64 0, .fn (.func 114) [] []), (.int .i64 1, .fn (.func 115) [] []), (.int .i64 2, .fn (.func 116) [] [.ptr 1 0]), (.int .i64 3, .fn (.func 117) [] [.ptr 1 0]), (.int .i64 4, .fn (.func 118) [] [.ptr 2 0]), (.int .i64 5, .fn (.func 119) [] [.ptr 2 0]), (.int .i64 6, .fn (.func 120) [] [.ptr 2 0, .ptr 1 0]), (.int .i64 7, .fn (.func 121) [] [.ptr 2 0, .ptr 1 0])], .box [.bool ((⟨x0.Neg_, s145, y155⟩ : St123).neg_), .bool ((⟨x0.Neg_, s145, y155⟩ : St123).odd_), .int .i64 ((⟨x0.Neg_, s145, y155⟩ : St123).half_)], .box [.fn (.func 113) [] [.ptr 1 0]]]) (H2 := [.box (encSt28 x0), .box [.bool false, .nl, .int .i64 0], vecL (encI .u8) 1 5 y84.1, .res, .box [.bool x0.Neg_, .bool s145, .int .i64 y155], .map [(.int .i64 0, .fn (.func 114) [] []), (.int .i64 1, .fn (.func 115) [] []), (.int .i64 2, .fn (.func 116) [] [.ptr 6 0]), (.int .i64 3, .fn (.func 117) [] [.ptr 6 0]), (.int .i64 4, .fn (.func 118) [] [.ptr 7 0]), (.int .i64 5, .fn (.func 119) [] [.ptr 7 0]), (.int .i64 6, .fn (.func 120) [] [.ptr 7 0, .ptr 6 0]), (.int .i64 7, .fn (.func 121) [] [.ptr 7 0, .ptr 6 0])], .box [.bool ((⟨x0.Neg_, s145, y155⟩ : St123).neg_), .bool ((⟨x0.Neg_, s145, y155⟩ : St123).odd_), .int .i64 ((⟨x0.Neg_, s145, y155⟩ : St123).half_)], .box [.fn (.func 113) [] [.ptr 6 0]]]) [] (by kernel_rfl) (by kernel_rfl) (by kernel_rfl) (by kernel_rfl) (by decide) (by kernel_rfl) (by kernel_rfl) (by kernel_rfl) (.cons (Le.refl _) .nil) (round_ways_s0_ok hy271) (by kernel_rfl) (by kernel_rfl) (by kernel_rfl) ?_
     refine RJ.seg 1 [1, 2, 4, 8, 9, 10, 76, 77] (L2 := [(1, .int .i64 x1), (2, .int .i64 x2), (4, .ptr 0 0), (8, .ptr 1 0), (9, .int .i64 0), (10, .vc 2), (76, .mp 5), (77, .int .i64 x3)]) (H2 := [.box (encSt28 x0), .box [.bool false, .nl, .int .i64 0], vecL (encI .u8) 1 5 y84.1, .res, .box [.bool x0.Neg_, .bool s145, .int .i64 y155], .map [(.int .i64 0, .fn (.func 114) [] []), (.int .i64 1, .fn (.func 115) [] []), (.int .i64 2, .fn (.func 116) [] [.ptr 6 0]), (.int .i64 3, .fn (.func 117) [] [.ptr 6 0]), (.int .i64 4, .fn (.func 118) [] [.ptr 7 0]), (.int .i64 5, .fn (.func 119) [] [.ptr 7 0]), (.int .i64 6, .fn (.func 120) [] [.ptr 7 0, .ptr 6 0]), (.int .i64 7, .fn (.func 121) [] [.ptr 7 0, .ptr 6 0])], .box [.bool ((⟨x0.Neg_, s145, y155⟩ : St123).neg_), .bool ((⟨x0.Neg_, s145, y155⟩ : St123).odd_), .int .i64 ((⟨x0.Neg_, s145, y155⟩ : St123).half_)], .box [.fn (.func 113) [] [.ptr 6 0]]]) (by kernel_rfl) ?_
     cases hb273 : (decide (x3 = 0))
     ·have h275 := condF hb273 h272
      have hn276 := of_decide_eq_false hb273
      cases hb286 : (decide (x3 = 1))
      ·have h288 := condF hb286 h275
       have hn289 := of_decide_eq_false hb286
       cases hb299 : (decide (x3 = 2))
       ·have h301 := condF hb299 h288
        have hn302 := of_decide_eq_false hb299
        cases hb312 : (decide (x3 = 3))
        ·have h314 := condF hb312 h301
         have hn315 := of_decide_eq_false hb312
         cases hb325 : (decide (x3 = 4))
         ·have h327 := condF hb325 h314
          have hn328 := of_decide_eq_false hb325
          cases hb338 : (decide (x3 = 5))
          ·have h340 := condF hb338 h327
           have hn341 := of_decide_eq_false hb338
           cases hb351 : (decide (x3 = 6))
           ·have h353 := condF hb351 h340
            have hn354 := of_decide_eq_false hb351
            cases hb364 : (decide (x3 = 7))
            ·have h366 := condF hb364 h353
             have hn367 := of_decide_eq_false hb364
             refine RJ.look (none) (d := some 78) (ef := ⟨.undef, [5], []⟩) (c := missC (.int .i64 x3) [(.int .i64 0, .fn (.func 114) [] []), (.int .i64 1, .fn (.func 115) [] []), (.int .i64 2, .fn (.func 116) [] [.ptr 6 0]), (.int .i64 3, .fn (.func 117) [] [.ptr 6 0]), (.int .i64 4, .fn (.func 118) [] [.ptr 7 0]), (.int .i64 5, .fn (.func 119) [] [.ptr 7 0]), (.int .i64 6, .fn (.func 120) [] [.ptr 7 0, .ptr 6 0]), (.int .i64 7, .fn (.func 121) [] [.ptr 7 0, .ptr 6 0])]) (tr2 := []) (by kernel_rfl) (by simp [hitC, missC, sameB, sameE, hn276, hn289, hn302, hn315, hn328, hn341, hn354, hn367]) ?_
             cases h366
            ·have h365 := condT hb364 h353
             have hn367 := of_decide_eq_true hb364
             refine RJ.look (some 7) (d := some 78) (ef := ⟨.fn (.func 121) [] [.ptr 7 0, .ptr 6 0], [5], []⟩) (c := hitC (.int .i64 x3) [(.int .i64 0, .fn (.func 114) [] []), (.int .i64 1, .fn (.func 115) [] []), (.int .i64 2, .fn (.func 116) [] [.ptr 6 0]), (.int .i64 3, .fn (.func 117) [] [.ptr 6 0]), (.int .i64 4, .fn (.func 118) [] [.ptr 7 0]), (.int .i64 5, .fn (.func 119) [] [.ptr 7 0]), (.int .i64 6, .fn (.func 120) [] [.ptr 7 0, .ptr 6 0]), (.int .i64 7, .fn (.func 121) [] [.ptr 7 0, .ptr 6 0])] 7) (tr2 := []) (by kernel_rfl) (by simp [hitC, missC, sameB, sameE, hn276, hn289, hn302, hn315, hn328, hn341, hn354, hn367]) ?_
             obtain ⟨y368, hy369, h370⟩ := bindS h365
             refine RJ.callG (d := (some 79)) (f := 121) (args := [.ptr 7 0, .ptr 6 0]) (args0 := [.ptr 0 0, .ptr 1 0]) (v0 := .bool y368) (v := .bool y368) (tr2 := []) (H0 := [.box [.fn (.func 113) [] [.ptr 1 0]], .box [.bool ((⟨x0.Neg_, s145, y155⟩ : St123).neg_), .bool ((⟨x0.Neg_, s145, y155⟩ : St123).odd_), .int .i64 ((⟨x0.Neg_, s145, y155⟩ : St123).half_)]]) (H0' := [.box [.fn (.func 113) [] [.ptr 1 0]], .box [.bool ((⟨x0.Neg_, s145, y155⟩ : St123).neg_), .bool ((⟨x0.Neg_, s145, y155⟩ : St123).odd_), .int .i64 ((⟨x0.Neg_, s145, y155⟩ : St123).half_)]]) (H2 := [.box (encSt28 x0), .box [.bool false, .nl, .int .i64 0], vecL (encI .u8) 1 5 y84.1, .res, .box [.bool x0.Neg_, .bool s145, .int .i64 y155], .map [(.int .i64 0, .fn (.func 114) [] []), (.int .i64 1, .fn (.func 115) [] []), (.int .i64 2, .fn (.func 116) [] [.ptr 6 0]), (.int .i64 3, .fn (.func 117) [] [.ptr 6 0]), (.int .i64 4, .fn (.func 118) [] [.ptr 7 0]), (.int .i64 5, .fn (.func 119) [] [.ptr 7 0]), (.int .i64 6, .fn (.func 120) [] [.ptr 7 0, .ptr 6 0]), (.int .i64 7, .fn (.func 121) [] [.ptr 7 0, .ptr 6 0])], .box [.bool ((⟨x0.Neg_, s145, y155⟩ : St123).neg_), .bool ((⟨x0.Neg_, s145, y155⟩ : St123).odd_), .int .i64 ((⟨x0.Neg_, s145, y155⟩ : St123).half_)], .box [.fn (.func 113) [] [.ptr 6 0]]]) [7, 6] (by kernel_rfl) (by kernel_rfl) (by kernel_rfl) (by kernel_rfl) (by decide) (by kernel_rfl) (by kernel_rfl) (by kernel_rfl) (.cons (Le.refl _) (.cons (Le.refl _) .nil)) (round_ways_9_s0_ok hy369) (by kernel_rfl) (by kernel_rfl) (by kernel_rfl) ?_
             refine kEN ?_
             refine J.caseB 79 (b := y368) (by kernel_rfl) (fun hb371 => ?_) (fun hb371 => ?_)
             ·have h372 := condT hb371 h370
              refine kT ?_
              refine kR ?_
              refine kC 1 [1,2,4,8,9,10,80] ?_
              obtain ⟨y374, hy375, h376⟩ := bindS h372
              refine RJ.callG (d := (some 81)) (f := 94) (args := [.vc 2]) (args0 := [.vc 0]) (v0 := lsv (encI .u8) 1 y374) (v := lsv (encI .u8) 1 y374) (tr2 := []) (H0 := [vecL (encI .u8) 1 5 y84.1]) (H0' := [.gone]) (H2 := [.box (encSt28 x0), .box [.bool false, .nl, .int .i64 0], .gone, .res, .box [.bool x0.Neg_, .bool s145, .int .i64 y155], .map [(.int .i64 0, .fn (.func 114) [] []), (.int .i64 1, .fn (.func 115) [] []), (.int .i64 2, .fn (.func 116) [] [.ptr 6 0]), (.int .i64 3, .fn (.func 117) [] [.ptr 6 0]), (.int .i64 4, .fn (.func 118) [] [.ptr 7 0]), (.int .i64 5, .fn (.func 119) [] [.ptr 7 0]), (.int .i64 6, .fn (.func 120) [] [.ptr 7 0, .ptr 6 0]), (.int .i64 7, .fn (.func 121) [] [.ptr 7 0, .ptr 6 0])], .box [.bool ((⟨x0.Neg_, s145, y155⟩ : St123).neg_), .bool ((⟨x0.Neg_, s145, y155⟩ : St123).odd_), .int .i64 ((⟨x0.Neg_, s145, y155⟩ : St123).half_)], .box [.fn (.func 113) [] [.ptr 6 0]]]) [2] (by kernel_rfl) (by kernel_rfl) (by kernel_rfl) (by kernel_rfl) (by decide) (by kernel_rfl) (by kernel_rfl) (by kernel_rfl) (.cons (Le.refl _) .nil) (round_next_ok_0 hy375) (by kernel_rfl) (by kernel_rfl) (by kernel_rfl) ?_
              refine kC 1 [1,2,4,8,9,10] ?_
              refine kE ?_
              obtain rfl := oi h376
              refine PJ.wk (Wk.sel (L2 := [(1, .int .i64 x1), (2, .int .i64 x2), (4, .ptr 0 0), (8, .ptr 1 0), (9, .int .i64 0), (10, lsv (encI .u8) 1 y374)]) (H2 := [.box (encSt28 x0), .box [.bool false, .nl, .int .i64 0]]) 0 (by rw [hFH]; rfl) hFD [0, 1] (by kernel_rfl) (by kernel_rfl) (by decide) (by kernel_rfl) (by kernel_rfl) (by kernel_rfl) (by kernel_rfl)) ?_
              exact kN [1, 2, 4, 8, 9, 10]
             ·have h373 := condF hb371 h370
              refine kF ?_
              refine kK ?_
              obtain rfl := oi h373
              refine PJ.wk (Wk.freeze 2 (n := y84.1.length) (k := 1) (e := 5) (cs := y84.1.flatMap (encI .u8)) (by kernel_rfl)) ?_
              refine PJ.wk (Wk.sel (L2 := [(1, .int .i64 x1), (2, .int .i64 x2), (4, .ptr 0 0), (8, .ptr 1 0), (9, .int .i64 0), (10, lsv (encI .u8) 1 y84.1)]) (H2 := [.box (encSt28 x0), .box [.bool false, .nl, .int .i64 0]]) 0 (by rw [hFH]; rfl) hFD [0, 1] (by kernel_rfl) (by kernel_rfl) (by decide) (by kernel_rfl) (by kernel_rfl) (by kernel_rfl) (by kernel_rfl)) ?_
              exact kN [1, 2, 4, 8, 9, 10]
           ·have h352 := condT hb351 h340
            have hn354 := of_decide_eq_true hb351
            refine RJ.look (some 6) (d := some 78) (ef := ⟨.fn (.func 120) [] [.ptr 7 0, .ptr 6 0], [5], []⟩) (c := hitC (.int .i64 x3) [(.int .i64 0, .fn (.func 114) [] []), (.int .i64 1, .fn (.func 115) [] []), (.int .i64 2, .fn (.func 116) [] [.ptr 6 0]), (.int .i64 3, .fn (.func 117) [] [.ptr 6 0]), (.int .i64 4, .fn (.func 118) [] [.ptr 7 0]), (.int .i64 5, .fn (.func 119) [] [.ptr 7 0]), (.int .i64 6, .fn (.func 120) [] [.ptr 7 0, .ptr 6 0]), (.int .i64 7, .fn (.func 121) [] [.ptr 7 0, .ptr 6 0])] 6) (tr2 := []) (by kernel_rfl) (by simp [hitC, missC, sameB, sameE, hn276, hn289, hn302, hn315, hn328, hn341, hn354]) ?_
            obtain ⟨y355, hy356, h357⟩ := bindS h352
            refine RJ.callG (d := (some 79)) (f := 120) (args := [.ptr 7 0, .ptr 6 0]) (args0 := [.ptr 0 0, .ptr 1 0]) (v0 := .bool y355) (v := .bool y355) (tr2 := []) (H0 := [.box [.fn (.func 113) [] [.ptr 1 0]], .box [.bool ((⟨x0.Neg_, s145, y155⟩ : St123).neg_), .bool ((⟨x0.Neg_, s145, y155⟩ : St123).odd_), .int .i64 ((⟨x0.Neg_, s145, y155⟩ : St123).half_)]]) (H0' := [.box [.fn (.func 113) [] [.ptr 1 0]], .box [.bool ((⟨x0.Neg_, s145, y155⟩ : St123).neg_), .bool ((⟨x0.Neg_, s145, y155⟩ : St123).odd_), .int .i64 ((⟨x0.Neg_, s145, y155⟩ : St123).half_)]]) (H2 := [.box (encSt28 x0), .box [.bool false, .nl, .int .i64 0], vecL (encI .u8) 1 5 y84.1, .res, .box [.bool x0.Neg_, .bool s145, .int .i64 y155], .map [(.int .i64 0, .fn (.func 114) [] []), (.int .i64 1, .fn (.func 115) [] []), (.int .i64 2, .fn (.func 116) [] [.ptr 6 0]), (.int .i64 3, .fn (.func 117) [] [.ptr 6 0]), (.int .i64 4, .fn (.func 118) [] [.ptr 7 0]), (.int .i64 5, .fn (.func 119) [] [.ptr 7 0]), (.int .i64 6, .fn (.func 120) [] [.ptr 7 0, .ptr 6 0]), (.int .i64 7, .fn (.func 121) [] [.ptr 7 0, .ptr 6 0])], .box [.bool ((⟨x0.Neg_, s145, y155⟩ : St123).neg_), .bool ((⟨x0.Neg_, s145, y155⟩ : St123).odd_), .int .i64 ((⟨x0.Neg_, s145, y155⟩ : St123).half_)], .box [.fn (.func 113) [] [.ptr 6 0]]]) [7, 6] (by kernel_rfl) (by kernel_rfl) (by kernel_rfl) (by kernel_rfl) (by decide) (by kernel_rfl) (by kernel_rfl) (by kernel_rfl) (.cons (Le.refl _) (.cons (Le.refl _) .nil)) (round_ways_8_s0_ok hy356) (by kernel_rfl) (by kernel_rfl) (by kernel_rfl) ?_
            refine kEN ?_
            refine J.caseB 79 (b := y355) (by kernel_rfl) (fun hb358 => ?_) (fun hb358 => ?_)
            ·have h359 := condT hb358 h357
             refine kT ?_
             refine kR ?_
             refine kC 1 [1,2,4,8,9,10,80] ?_
             obtain ⟨y361, hy362, h363⟩ := bindS h359
             refine RJ.callG (d := (some 81)) (f := 94) (args := [.vc 2]) (args0 := [.vc 0]) (v0 := lsv (encI .u8) 1 y361) (v := lsv (encI .u8) 1 y361) (tr2 := []) (H0 := [vecL (encI .u8) 1 5 y84.1]) (H0' := [.gone]) (H2 := [.box (encSt28 x0), .box [.bool false, .nl, .int .i64 0], .gone, .res, .box [.bool x0.Neg_, .bool s145, .int .i64 y155], .map [(.int .i64 0, .fn (.func 114) [] []), (.int .i64 1, .fn (.func 115) [] []), (.int .i64 2, .fn (.func 116) [] [.ptr 6 0]), (.int .i64 3, .fn (.func 117) [] [.ptr 6 0]), (.int .i64 4, .fn (.func 118) [] [.ptr 7 0]), (.int .i64 5, .fn (.func 119) [] [.ptr 7 0]), (.int .i64 6, .fn (.func 120) [] [.ptr 7 0, .ptr 6 0]), (.int .i64 7, .fn (.func 121) [] [.ptr 7 0, .ptr 6 0])], .box [.bool ((⟨x0.Neg_, s145, y155⟩ : St123).neg_), .bool ((⟨x0.Neg_, s145, y155⟩ : St123).odd_), .int .i64 ((⟨x0.Neg_, s145, y155⟩ : St123).half_)], .box [.fn (.func 113) [] [.ptr 6 0]]]) [2] (by kernel_rfl) (by kernel_rfl) (by kernel_rfl) (by kernel_rfl) (by decide) (by kernel_rfl) (by kernel_rfl) (by kernel_rfl) (.cons (Le.refl _) .nil) (round_next_ok_0 hy362) (by kernel_rfl) (by kernel_rfl) (by kernel_rfl) ?_
             refine kC 1 [1,2,4,8,9,10] ?_
             refine kE ?_
             obtain rfl := oi h363
             refine PJ.wk (Wk.sel (L2 := [(1, .int .i64 x1), (2, .int .i64 x2), (4, .ptr 0 0), (8, .ptr 1 0), (9, .int .i64 0), (10, lsv (encI .u8) 1 y361)]) (H2 := [.box (encSt28 x0), .box [.bool false, .nl, .int .i64 0]]) 0 (by rw [hFH]; rfl) hFD [0, 1] (by kernel_rfl) (by kernel_rfl) (by decide) (by kernel_rfl) (by kernel_rfl) (by kernel_rfl) (by kernel_rfl)) ?_
             exact kN [1, 2, 4, 8, 9, 10]
            ·have h360 := condF hb358 h357
             refine kF ?_
             refine kK ?_
             obtain rfl := oi h360
             refine PJ.wk (Wk.freeze 2 (n := y84.1.length) (k := 1) (e := 5) (cs := y84.1.flatMap (encI .u8)) (by kernel_rfl)) ?_
             refine PJ.wk (Wk.sel (L2 := [(1, .int .i64 x1), (2, .int .i64 x2), (4, .ptr 0 0), (8, .ptr 1 0), (9, .int .i64 0), (10, lsv (encI .u8) 1 y84.1)]) (H2 := [.box (encSt28 x0), .box [.bool false, .nl, .int .i64 0]]) 0 (by rw [hFH]; rfl) hFD [0, 1] (by kernel_rfl) (by kernel_rfl) (by decide) (by kernel_rfl) (by kernel_rfl) (by kernel_rfl) (by kernel_rfl)) ?_
             exact kN [1, 2, 4, 8, 9, 10]
          ·have h339 := condT hb338 h327
           have hn341 := of_decide_eq_true hb338
           refine RJ.look (some 5) (d := some 78) (ef := ⟨.fn (.func 119) [] [.ptr 7 0], [5], []⟩) (c := hitC (.int .i64 x3) [(.int .i64 0, .fn (.func 114) [] []), (.int .i64 1, .fn (.func 115) [] []), (.int .i64 2, .fn (.func 116) [] [.ptr 6 0]), (.int .i64 3, .fn (.func 117) [] [.ptr 6 0]), (.int .i64 4, .fn (.func 118) [] [.ptr 7 0]), (.int .i64 5, .fn (.func 119) [] [.ptr 7 0]), (.int .i64 6, .fn (.func 120) [] [.ptr 7 0, .ptr 6 0]), (.int .i64 7, .fn (.func 121) [] [.ptr 7 0, .ptr 6 0])] 5) (tr2 := []) (by kernel_rfl) (by simp [hitC, missC, sameB, sameE, hn276, hn289, hn302, hn315, hn328, hn341]) ?_
           obtain ⟨y342, hy343, h344⟩ := bindS h339
           refine RJ.callG (d := (some 79)) (f := 119) (args := [.ptr 7 0]) (args0 := [.ptr 0 0]) (v0 := .bool y342) (v := .bool y342) (tr2 := []) (H0 := [.box [.fn (.func 113) [] [.ptr 1 0]], .box [.bool ((⟨x0.Neg_, s145, y155⟩ : St123).neg_), .bool ((⟨x0.Neg_, s145, y155⟩ : St123).odd_), .int .i64 ((⟨x0.Neg_, s145, y155⟩ : St123).half_)]]) (H0' := [.box [.fn (.func 113) [] [.ptr 1 0]], .box [.bool ((⟨x0.Neg_, s145, y155⟩ : St123).neg_), .bool ((⟨x0.Neg_, s145, y155⟩ : St123).odd_), .int .i64 ((⟨x0.Neg_, s145, y155⟩ : St123).half_)]]) (H2 := [.box (encSt28 x0), .box [.bool false, .nl, .int .i64 0], vecL (encI .u8) 1 5 y84.1, .res, .box [.bool x0.Neg_, .bool s145, .int .i64 y155], .map [(.int .i64 0, .fn (.func 114) [] []), (.int .i64 1, .fn (.func 115) [] []), (.int .i64 2, .fn (.func 116) [] [.ptr 6 0]), (.int .i64 3, .fn (.func 117) [] [.ptr 6 0]), (.int .i64 4, .fn (.func 118) [] [.ptr 7 0]), (.int .i64 5, .fn (.func 119) [] [.ptr 7 0]), (.int .i64 6, .fn (.func 120) [] [.ptr 7 0, .ptr 6 0]), (.int .i64 7, .fn (.func 121) [] [.ptr 7 0, .ptr 6 0])], .box [.bool ((⟨x0.Neg_, s145, y155⟩ : St123).neg_), .bool ((⟨x0.Neg_, s145, y155⟩ : St123).odd_), .int .i64 ((⟨x0.Neg_, s145, y155⟩ : St123).half_)], .box [.fn (.func 113) [] [.ptr 6 0]]]) [7, 6] (by kernel_rfl) (by kernel_rfl) (by kernel_rfl) (by kernel_rfl) (by decide) (by kernel_rfl) (by kernel_rfl) (by kernel_rfl) (.cons (Le.refl _) .nil) (round_ways_7_s0_ok hy343) (by kernel_rfl) (by kernel_rfl) (by kernel_rfl) ?_
           refine kEN ?_
           refine J.caseB 79 (b := y342) (by kernel_rfl) (fun hb345 => ?_) (fun hb345 => ?_)
           ·have h346 := condT hb345 h344
            refine kT ?_
            refine kR ?_
            refine kC 1 [1,2,4,8,9,10,80] ?_
            obtain ⟨y348, hy349, h350⟩ := bindS h346
            refine RJ.callG (d := (some 81)) (f := 94) (args := [.vc 2]) (args0 := [.vc 0]) (v0 := lsv (encI .u8) 1 y348) (v := lsv (encI .u8) 1 y348) (tr2 := []) (H0 := [vecL (encI .u8) 1 5 y84.1]) (H0' := [.gone]) (H2 := [.box (encSt28 x0), .box [.bool false, .nl, .int .i64 0], .gone, .res, .box [.bool x0.Neg_, .bool s145, .int .i64 y155], .map [(.int .i64 0, .fn (.func 114) [] []), (.int .i64 1, .fn (.func 115) [] []), (.int .i64 2, .fn (.func 116) [] [.ptr 6 0]), (.int .i64 3, .fn (.func 117) [] [.ptr 6 0]), (.int .i64 4, .fn (.func 118) [] [.ptr 7 0]), (.int .i64 5, .fn (.func 119) [] [.ptr 7 0]), (.int .i64 6, .fn (.func 120) [] [.ptr 7 0, .ptr 6 0]), (.int .i64 7, .fn (.func 121) [] [.ptr 7 0, .ptr 6 0])], .box [.bool ((⟨x0.Neg_, s145, y155⟩ : St123).neg_), .bool ((⟨x0.Neg_, s145, y155⟩ : St123).odd_), .int .i64 ((⟨x0.Neg_, s145, y155⟩ : St123).half_)], .box [.fn (.func 113) [] [.ptr 6 0]]]) [2] (by kernel_rfl) (by kernel_rfl) (by kernel_rfl) (by kernel_rfl) (by decide) (by kernel_rfl) (by kernel_rfl) (by kernel_rfl) (.cons (Le.refl _) .nil) (round_next_ok_0 hy349) (by kernel_rfl) (by kernel_rfl) (by kernel_rfl) ?_
            refine kC 1 [1,2,4,8,9,10] ?_
            refine kE ?_
            obtain rfl := oi h350
            refine PJ.wk (Wk.sel (L2 := [(1, .int .i64 x1), (2, .int .i64 x2), (4, .ptr 0 0), (8, .ptr 1 0), (9, .int .i64 0), (10, lsv (encI .u8) 1 y348)]) (H2 := [.box (encSt28 x0), .box [.bool false, .nl, .int .i64 0]]) 0 (by rw [hFH]; rfl) hFD [0, 1] (by kernel_rfl) (by kernel_rfl) (by decide) (by kernel_rfl) (by kernel_rfl) (by kernel_rfl) (by kernel_rfl)) ?_
            exact kN [1, 2, 4, 8, 9, 10]
           ·have h347 := condF hb345 h344
            refine kF ?_
            refine kK ?_
            obtain rfl := oi h347
            refine PJ.wk (Wk.freeze 2 (n := y84.1.length) (k := 1) (e := 5) (cs := y84.1.flatMap (encI .u8)) (by kernel_rfl)) ?_
            refine PJ.wk (Wk.sel (L2 := [(1, .int .i64 x1), (2, .int .i64 x2), (4, .ptr 0 0), (8, .ptr 1 0), (9, .int .i64 0), (10, lsv (encI .u8) 1 y84.1)]) (H2 := [.box (encSt28 x0), .box [.bool false, .nl, .int .i64 0]]) 0 (by rw [hFH]; rfl) hFD [0, 1] (by kernel_rfl) (by kernel_rfl) (by decide) (by kernel_rfl) (by kernel_rfl) (by kernel_rfl) (by kernel_rfl)) ?_
            exact kN [1, 2, 4, 8, 9, 10]
         ·have h326 := condT hb325 h314
          have hn328 := of_decide_eq_true hb325
          refine RJ.look (some 4) (d := some 78) (ef := ⟨.fn (.func 118) [] [.ptr 7 0], [5], []⟩) (c := hitC (.int .i64 x3) [(.int .i64 0, .fn (.func 114) [] []), (.int .i64 1, .fn (.func 115) [] []), (.int .i64 2, .fn (.func 116) [] [.ptr 6 0]), (.int .i64 3, .fn (.func 117) [] [.ptr 6 0]), (.int .i64 4, .fn (.func 118) [] [.ptr 7 0]), (.int .i64 5, .fn (.func 119) [] [.ptr 7 0]), (.int .i64 6, .fn (.func 120) [] [.ptr 7 0, .ptr 6 0]), (.int .i64 7, .fn (.func 121) [] [.ptr 7 0, .ptr 6 0])] 4) (tr2 := []) (by kernel_rfl) (by simp [hitC, missC, sameB, sameE, hn276, hn289, hn302, hn315, hn328]) ?_
          obtain ⟨y329, hy330, h331⟩ := bindS h326
          refine RJ.callG (d := (some 79)) (f := 118) (args := [.ptr 7 0]) (args0 := [.ptr 0 0]) (v0 := .bool y329) (v := .bool y329) (tr2 := []) (H0 := [.box [.fn (.func 113) [] [.ptr 1 0]], .box [.bool ((⟨x0.Neg_, s145, y155⟩ : St123).neg_), .bool ((⟨x0.Neg_, s145, y155⟩ : St123).odd_), .int .i64 ((⟨x0.Neg_, s145, y155⟩ : St123).half_)]]) (H0' := [.box [.fn (.func 113) [] [.ptr 1 0]], .box [.bool ((⟨x0.Neg_, s145, y155⟩ : St123).neg_), .bool ((⟨x0.Neg_, s145, y155⟩ : St123).odd_), .int .i64 ((⟨x0.Neg_, s145, y155⟩ : St123).half_)]]) (H2 := [.box (encSt28 x0), .box [.bool false, .nl, .int .i64 0], vecL (encI .u8) 1 5 y84.1, .res, .box [.bool x0.Neg_, .bool s145, .int .i64 y155], .map [(.int .i64 0, .fn (.func 114) [] []), (.int .i64 1, .fn (.func 115) [] []), (.int .i64 2, .fn (.func 116) [] [.ptr 6 0]), (.int .i64 3, .fn (.func 117) [] [.ptr 6 0]), (.int .i64 4, .fn (.func 118) [] [.ptr 7 0]), (.int .i64 5, .fn (.func 119) [] [.ptr 7 0]), (.int .i64 6, .fn (.func 120) [] [.ptr 7 0, .ptr 6 0]), (.int .i64 7, .fn (.func 121) [] [.ptr 7 0, .ptr 6 0])], .box [.bool ((⟨x0.Neg_, s145, y155⟩ : St123).neg_), .bool ((⟨x0.Neg_, s145, y155⟩ : St123).odd_), .int .i64 ((⟨x0.Neg_, s145, y155⟩ : St123).half_)], .box [.fn (.func 113) [] [.ptr 6 0]]]) [7, 6] (by kernel_rfl) (by kernel_rfl) (by kernel_rfl) (by kernel_rfl) (by decide) (by kernel_rfl) (by kernel_rfl) (by kernel_rfl) (.cons (Le.refl _) .nil) (round_ways_6_s0_ok hy330) (by kernel_rfl) (by kernel_rfl) (by kernel_rfl) ?_
          refine kEN ?_
          refine J.caseB 79 (b := y329) (by kernel_rfl) (fun hb332 => ?_) (fun hb332 => ?_)
          ·have h333 := condT hb332 h331
           refine kT ?_
           refine kR ?_
           refine kC 1 [1,2,4,8,9,10,80] ?_
           obtain ⟨y335, hy336, h337⟩ := bindS h333
           refine RJ.callG (d := (some 81)) (f := 94) (args := [.vc 2]) (args0 := [.vc 0]) (v0 := lsv (encI .u8) 1 y335) (v := lsv (encI .u8) 1 y335) (tr2 := []) (H0 := [vecL (encI .u8) 1 5 y84.1]) (H0' := [.gone]) (H2 := [.box (encSt28 x0), .box [.bool false, .nl, .int .i64 0], .gone, .res, .box [.bool x0.Neg_, .bool s145, .int .i64 y155], .map [(.int .i64 0, .fn (.func 114) [] []), (.int .i64 1, .fn (.func 115) [] []), (.int .i64 2, .fn (.func 116) [] [.ptr 6 0]), (.int .i64 3, .fn (.func 117) [] [.ptr 6 0]), (.int .i64 4, .fn (.func 118) [] [.ptr 7 0]), (.int .i64 5, .fn (.func 119) [] [.ptr 7 0]), (.int .i64 6, .fn (.func 120) [] [.ptr 7 0, .ptr 6 0]), (.int .i64 7, .fn (.func 121) [] [.ptr 7 0, .ptr 6 0])], .box [.bool ((⟨x0.Neg_, s145, y155⟩ : St123).neg_), .bool ((⟨x0.Neg_, s145, y155⟩ : St123).odd_), .int .i64 ((⟨x0.Neg_, s145, y155⟩ : St123).half_)], .box [.fn (.func 113) [] [.ptr 6 0]]]) [2] (by kernel_rfl) (by kernel_rfl) (by kernel_rfl) (by kernel_rfl) (by decide) (by kernel_rfl) (by kernel_rfl) (by kernel_rfl) (.cons (Le.refl _) .nil) (round_next_ok_0 hy336) (by kernel_rfl) (by kernel_rfl) (by kernel_rfl) ?_
           refine kC 1 [1,2,4,8,9,10] ?_
           refine kE ?_
           obtain rfl := oi h337
           refine PJ.wk (Wk.sel (L2 := [(1, .int .i64 x1), (2, .int .i64 x2), (4, .ptr 0 0), (8, .ptr 1 0), (9, .int .i64 0), (10, lsv (encI .u8) 1 y335)]) (H2 := [.box (encSt28 x0), .box [.bool false, .nl, .int .i64 0]]) 0 (by rw [hFH]; rfl) hFD [0, 1] (by kernel_rfl) (by kernel_rfl) (by decide) (by kernel_rfl) (by kernel_rfl) (by kernel_rfl) (by kernel_rfl)) ?_
           exact kN [1, 2, 4, 8, 9, 10]
          ·have h334 := condF hb332 h331
           refine kF ?_
           refine kK ?_
           obtain rfl := oi h334
           refine PJ.wk (Wk.freeze 2 (n := y84.1.length) (k := 1) (e := 5) (cs := y84.1.flatMap (encI .u8)) (by kernel_rfl)) ?_
           refine PJ.wk (Wk.sel (L2 := [(1, .int .i64 x1), (2, .int .i64 x2), (4, .ptr 0 0), (8, .ptr 1 0), (9, .int .i64 0), (10, lsv (encI .u8) 1 y84.1)]) (H2 := [.box (encSt28 x0), .box [.bool false, .nl, .int .i64 0]]) 0 (by rw [hFH]; rfl) hFD [0, 1] (by kernel_rfl) (by kernel_rfl) (by decide) (by kernel_rfl) (by kernel_rfl) (by kernel_rfl) (by kernel_rfl)) ?_
           exact kN [1, 2, 4, 8, 9, 10]
        ·have h313 := condT hb312 h301
         have hn315 := of_decide_eq_true hb312
         refine RJ.look (some 3) (d := some 78) (ef := ⟨.fn (.func 117) [] [.ptr 6 0], [5], []⟩) (c := hitC (.int .i64 x3) [(.int .i64 0, .fn (.func 114) [] []), (.int .i64 1, .fn (.func 115) [] []), (.int .i64 2, .fn (.func 116) [] [.ptr 6 0]), (.int .i64 3, .fn (.func 117) [] [.ptr 6 0]), (.int .i64 4, .fn (.func 118) [] [.ptr 7 0]), (.int .i64 5, .fn (.func 119) [] [.ptr 7 0]), (.int .i64 6, .fn (.func 120) [] [.ptr 7 0, .ptr 6 0]), (.int .i64 7, .fn (.func 121) [] [.ptr 7 0, .ptr 6 0])] 3) (tr2 := []) (by kernel_rfl) (by simp [hitC, missC, sameB, sameE, hn276, hn289, hn302, hn315]) ?_
         obtain ⟨y316, hy317, h318⟩ := bindS h313
         refine RJ.callG (d := (some 79)) (f := 117) (args := [.ptr 6 0]) (args0 := [.ptr 0 0]) (v0 := .bool y316) (v := .bool y316) (tr2 := []) (H0 := [.box [.bool ((⟨x0.Neg_, s145, y155⟩ : St123).neg_), .bool ((⟨x0.Neg_, s145, y155⟩ : St123).odd_), .int .i64 ((⟨x0.Neg_, s145, y155⟩ : St123).half_)]]) (H0' := [.box [.bool ((⟨x0.Neg_, s145, y155⟩ : St123).neg_), .bool ((⟨x0.Neg_, s145, y155⟩ : St123).odd_), .int .i64 ((⟨x0.Neg_, s145, y155⟩ : St123).half_)]]) (H2 := [.box (encSt28 x0), .box [.bool false, .nl, .int .i64 0], vecL (encI .u8) 1 5 y84.1, .res, .box [.bool x0.Neg_, .bool s145, .int .i64 y155], .map [(.int .i64 0, .fn (.func 114) [] []), (.int .i64 1, .fn (.func 115) [] []), (.int .i64 2, .fn (.func 116) [] [.ptr 6 0]), (.int .i64 3, .fn (.func 117) [] [.ptr 6 0]), (.int .i64 4, .fn (.func 118) [] [.ptr 7 0]), (.int .i64 5, .fn (.func 119) [] [.ptr 7 0]), (.int .i64 6, .fn (.func 120) [] [.ptr 7 0, .ptr 6 0]), (.int .i64 7, .fn (.func 121) [] [.ptr 7 0, .ptr 6 0])], .box [.bool ((⟨x0.Neg_, s145, y155⟩ : St123).neg_), .bool ((⟨x0.Neg_, s145, y155⟩ : St123).odd_), .int .i64 ((⟨x0.Neg_, s145, y155⟩ : St123).half_)], .box [.fn (.func 113) [] [.ptr 6 0]]]) [6] (by kernel_rfl) (by kernel_rfl) (by kernel_rfl) (by kernel_rfl) (by decide) (by kernel_rfl) (by kernel_rfl) (by kernel_rfl) (.cons (Le.refl _) .nil) (round_ways_5_s0_ok hy317) (by kernel_rfl) (by kernel_rfl) (by kernel_rfl) ?_
         refine kEN ?_
         refine J.caseB 79 (b := y316) (by kernel_rfl) (fun hb319 => ?_) (fun hb319 => ?_)
         ·have h320 := condT hb319 h318
          refine kT ?_
          refine kR ?_
          refine kC 1 [1,2,4,8,9,10,80] ?_
          obtain ⟨y322, hy323, h324⟩ := bindS h320
          refine RJ.callG (d := (some 81)) (f := 94) (args := [.vc 2]) (args0 := [.vc 0]) (v0 := lsv (encI .u8) 1 y322) (v := lsv (encI .u8) 1 y322) (tr2 := []) (H0 := [vecL (encI .u8) 1 5 y84.1]) (H0' := [.gone]) (H2 := [.box (encSt28 x0), .box [.bool false, .nl, .int .i64 0], .gone, .res, .box [.bool x0.Neg_, .bool s145, .int .i64 y155], .map [(.int .i64 0, .fn (.func 114) [] []), (.int .i64 1, .fn (.func 115) [] []), (.int .i64 2, .fn (.func 116) [] [.ptr 6 0]), (.int .i64 3, .fn (.func 117) [] [.ptr 6 0]), (.int .i64 4, .fn (.func 118) [] [.ptr 7 0]), (.int .i64 5, .fn (.func 119) [] [.ptr 7 0]), (.int .i64 6, .fn (.func 120) [] [.ptr 7 0, .ptr 6 0]), (.int .i64 7, .fn (.func 121) [] [.ptr 7 0, .ptr 6 0])], .box [.bool ((⟨x0.Neg_, s145, y155⟩ : St123).neg_), .bool ((⟨x0.Neg_, s145, y155⟩ : St123).odd_), .int .i64 ((⟨x0.Neg_, s145, y155⟩ : St123).half_)], .box [.fn (.func 113) [] [.ptr 6 0]]]) [2] (by kernel_rfl) (by kernel_rfl) (by kernel_rfl) (by kernel_rfl) (by decide) (by kernel_rfl) (by kernel_rfl) (by kernel_rfl) (.cons (Le.refl _) .nil) (round_next_ok_0 hy323) (by kernel_rfl) (by kernel_rfl) (by kernel_rfl) ?_
          refine kC 1 [1,2,4,8,9,10] ?_
          refine kE ?_
          obtain rfl := oi h324
          refine PJ.wk (Wk.sel (L2 := [(1, .int .i64 x1), (2, .int .i64 x2), (4, .ptr 0 0), (8, .ptr 1 0), (9, .int .i64 0), (10, lsv (encI .u8) 1 y322)]) (H2 := [.box (encSt28 x0), .box [.bool false, .nl, .int .i64 0]]) 0 (by rw [hFH]; rfl) hFD [0, 1] (by kernel_rfl) (by kernel_rfl) (by decide) (by kernel_rfl) (by kernel_rfl) (by kernel_rfl) (by kernel_rfl)) ?_
          exact kN [1, 2, 4, 8, 9, 10]
         ·have h321 := condF hb319 h318
          refine kF ?_
          refine kK ?_
          obtain rfl := oi h321
          refine PJ.wk (Wk.freeze 2 (n := y84.1.length) (k := 1) (e := 5) (cs := y84.1.flatMap (encI .u8)) (by kernel_rfl)) ?_
          refine PJ.wk (Wk.sel (L2 := [(1, .int .i64 x1), (2, .int .i64 x2), (4, .ptr 0 0), (8, .ptr 1 0), (9, .int .i64 0), (10, lsv (encI .u8) 1 y84.1)]) (H2 := [.box (encSt28 x0), .box [.bool false, .nl, .int .i64 0]]) 0 (by rw [hFH]; rfl) hFD [0, 1] (by kernel_rfl) (by kernel_rfl) (by decide) (by kernel_rfl) (by kernel_rfl) (by kernel_rfl) (by kernel_rfl)) ?_
          exact kN [1, 2, 4, 8, 9, 10]
       ·have h300 := condT hb299 h288
        have hn302 := of_decide_eq_true hb299
        refine RJ.look (some 2) (d := some 78) (ef := ⟨.fn (.func 116) [] [.ptr 6 0], [5], []⟩) (c := hitC (.int .i64 x3) [(.int .i64 0, .fn (.func 114) [] []), (.int .i64 1, .fn (.func 115) [] []), (.int .i64 2, .fn (.func 116) [] [.ptr 6 0]), (.int .i64 3, .fn (.func 117) [] [.ptr 6 0]), (.int .i64 4, .fn (.func 118) [] [.ptr 7 0]), (.int .i64 5, .fn (.func 119) [] [.ptr 7 0]), (.int .i64 6, .fn (.func 120) [] [.ptr 7 0, .ptr 6 0]), (.int .i64 7, .fn (.func 121) [] [.ptr 7 0, .ptr 6 0])] 2) (tr2 := []) (by kernel_rfl) (by simp [hitC, missC, sameB, sameE, hn276, hn289, hn302]) ?_
        obtain ⟨y303, hy304, h305⟩ := bindS h300
        refine RJ.callG (d := (some 79)) (f := 116) (args := [.ptr 6 0]) (args0 := [.ptr 0 0]) (v0 := .bool y303) (v := .bool y303) (tr2 := []) (H0 := [.box [.bool ((⟨x0.Neg_, s145, y155⟩ : St123).neg_), .bool ((⟨x0.Neg_, s145, y155⟩ : St123).odd_), .int .i64 ((⟨x0.Neg_, s145, y155⟩ : St123).half_)]]) (H0' := [.box [.bool ((⟨x0.Neg_, s145, y155⟩ : St123).neg_), .bool ((⟨x0.Neg_, s145, y155⟩ : St123).odd_), .int .i64 ((⟨x0.Neg_, s145, y155⟩ : St123).half_)]]) (H2 := [.box (encSt28 x0), .box [.bool false, .nl, .int .i64 0], vecL (encI .u8) 1 5 y84.1, .res, .box [.bool x0.Neg_, .bool s145, .int .i64 y155], .map [(.int .i64 0, .fn (.func 114) [] []), (.int .i64 1, .fn (.func 115) [] []), (.int .i64 2, .fn (.func 116) [] [.ptr 6 0]), (.int .i64 3, .fn (.func 117) [] [.ptr 6 0]), (.int .i64 4, .fn (.func 118) [] [.ptr 7 0]), (.int .i64 5, .fn (.func 119) [] [.ptr 7 0]), (.int .i64 6, .fn (.func 120) [] [.ptr 7 0, .ptr 6 0]), (.int .i64 7, .fn (.func 121) [] [.ptr 7 0, .ptr 6 0])], .box [.bool ((⟨x0.Neg_, s145, y155⟩ : St123).neg_), .bool ((⟨x0.Neg_, s145, y155⟩ : St123).odd_), .int .i64 ((⟨x0.Neg_, s145, y155⟩ : St123).half_)], .box [.fn (.func 113) [] [.ptr 6 0]]]) [6] (by kernel_rfl) (by kernel_rfl) (by kernel_rfl) (by kernel_rfl) (by decide) (by kernel_rfl) (by kernel_rfl) (by kernel_rfl) (.cons (Le.refl _) .nil) (round_ways_4_s0_ok hy304) (by kernel_rfl) (by kernel_rfl) (by kernel_rfl) ?_
        refine kEN ?_
        refine J.caseB 79 (b := y303) (by kernel_rfl) (fun hb306 => ?_) (fun hb306 => ?_)
        ·have h307 := condT hb306 h305
         refine kT ?_
         refine kR ?_
         refine kC 1 [1,2,4,8,9,10,80] ?_
         obtain ⟨y309, hy310, h311⟩ := bindS h307
         refine RJ.callG (d := (some 81)) (f := 94) (args := [.vc 2]) (args0 := [.vc 0]) (v0 := lsv (encI .u8) 1 y309) (v := lsv (encI .u8) 1 y309) (tr2 := []) (H0 := [vecL (encI .u8) 1 5 y84.1]) (H0' := [.gone]) (H2 := [.box (encSt28 x0), .box [.bool false, .nl, .int .i64 0], .gone, .res, .box [.bool x0.Neg_, .bool s145, .int .i64 y155], .map [(.int .i64 0, .fn (.func 114) [] []), (.int .i64 1, .fn (.func 115) [] []), (.int .i64 2, .fn (.func 116) [] [.ptr 6 0]), (.int .i64 3, .fn (.func 117) [] [.ptr 6 0]), (.int .i64 4, .fn (.func 118) [] [.ptr 7 0]), (.int .i64 5, .fn (.func 119) [] [.ptr 7 0]), (.int .i64 6, .fn (.func 120) [] [.ptr 7 0, .ptr 6 0]), (.int .i64 7, .fn (.func 121) [] [.ptr 7 0, .ptr 6 0])], .box [.bool ((⟨x0.Neg_, s145, y155⟩ : St123).neg_), .bool ((⟨x0.Neg_, s145, y155⟩ : St123).odd_), .int .i64 ((⟨x0.Neg_, s145, y155⟩ : St123).half_)], .box [.fn (.func 113) [] [.ptr 6 0]]]) [2] (by kernel_rfl) (by kernel_rfl) (by kernel_rfl) (by kernel_rfl) (by decide) (by kernel_rfl) (by kernel_rfl) (by kernel_rfl) (.cons (Le.refl _) .nil) (round_next_ok_0 hy310) (by kernel_rfl) (by kernel_rfl) (by kernel_rfl) ?_
         refine kC 1 [1,2,4,8,9,10] ?_
         refine kE ?_
         obtain rfl := oi h311
         refine PJ.wk (Wk.sel (L2 := [(1, .int .i64 x1), (2, .int .i64 x2), (4, .ptr 0 0), (8, .ptr 1 0), (9, .int .i64 0), (10, lsv (encI .u8) 1 y309)]) (H2 := [.box (encSt28 x0), .box [.bool false, .nl, .int .i64 0]]) 0 (by rw [hFH]; rfl) hFD [0, 1] (by kernel_rfl) (by kernel_rfl) (by decide) (by kernel_rfl) (by kernel_rfl) (by kernel_rfl) (by kernel_rfl)) ?_
         exact kN [1, 2, 4, 8, 9, 10]
        ·have h308 := condF hb306 h305
         refine kF ?_
         refine kK ?_
         obtain rfl := oi h308
         refine PJ.wk (Wk.freeze 2 (n := y84.1.length) (k := 1) (e := 5) (cs := y84.1.flatMap (encI .u8)) (by kernel_rfl)) ?_
         refine PJ.wk (Wk.sel (L2 := [(1, .int .i64 x1), (2, .int .i64 x2), (4, .ptr 0 0), (8, .ptr 1 0), (9, .int .i64 0), (10, lsv (encI .u8) 1 y84.1)]) (H2 := [.box (encSt28 x0), .box [.bool false, .nl, .int .i64 0]]) 0 (by rw [hFH]; rfl) hFD [0, 1] (by kernel_rfl) (by kernel_rfl) (by decide) (by kernel_rfl) (by kernel_rfl) (by kernel_rfl) (by kernel_rfl)) ?_
         exact kN [1, 2, 4, 8, 9, 10]
      ·have h287 := condT hb286 h275
       have hn289 := of_decide_eq_true hb286
       refine RJ.look (some 1) (d := some 78) (ef := ⟨.fn (.func 115) [] [], [5], []⟩) (c := hitC (.int .i64 x3) [(.int .i64 0, .fn (.func 114) [] []), (.int .i64 1, .fn (.func 115) [] []), (.int .i64 2, .fn (.func 116) [] [.ptr 6 0]), (.int .i64 3, .fn (.func 117) [] [.ptr 6 0]), (.int .i64 4, .fn (.func 118) [] [.ptr 7 0]), (.int .i64 5, .fn (.func 119) [] [.ptr 7 0]), (.int .i64 6, .fn (.func 120) [] [.ptr 7 0, .ptr 6 0]), (.int .i64 7, .fn (.func 121) [] [.ptr 7 0, .ptr 6 0])] 1) (tr2 := []) (by kernel_rfl) (by simp [hitC, missC, sameB, sameE, hn276, hn289]) ?_
       obtain ⟨y290, hy291, h292⟩ := bindS h287
       refine RJ.call0 (d := (some 79)) (f := 115) (args := []) (v := .bool y290) (tr2 := []) (by kernel_rfl) (by kernel_rfl) .nil (round_ways_3_ok hy291) (by kernel_rfl) ?_
       refine kEN ?_
       refine J.caseB 79 (b := y290) (by kernel_rfl) (fun hb293 => ?_) (fun hb293 => ?_)
       ·have h294 := condT hb293 h292
        refine kT ?_
        refine kR ?_
        refine kC 1 [1,2,4,8,9,10,80] ?_
        obtain ⟨y296, hy297, h298⟩ := bindS h294
        refine RJ.callG (d := (some 81)) (f := 94) (args := [.vc 2]) (args0 := [.vc 0]) (v0 := lsv (encI .u8) 1 y296) (v := lsv (encI .u8) 1 y296) (tr2 := []) (H0 := [vecL (encI .u8) 1 5 y84.1]) (H0' := [.gone]) (H2 := [.box (encSt28 x0), .box [.bool false, .nl, .int .i64 0], .gone, .res, .box [.bool x0.Neg_, .bool s145, .int .i64 y155], .map [(.int .i64 0, .fn (.func 114) [] []), (.int .i64 1, .fn (.func 115) [] []), (.int .i64 2, .fn (.func 116) [] [.ptr 6 0]), (.int .i64 3, .fn (.func 117) [] [.ptr 6 0]), (.int .i64 4, .fn (.func 118) [] [.ptr 7 0]), (.int .i64 5, .fn (.func 119) [] [.ptr 7 0]), (.int .i64 6, .fn (.func 120) [] [.ptr 7 0, .ptr 6 0]), (.int .i64 7, .fn (.func 121) [] [.ptr 7 0, .ptr 6 0])], .box [.bool ((⟨x0.Neg_, s145, y155⟩ : St123).neg_), .bool ((⟨x0.Neg_, s145, y155⟩ : St123).odd_), .int .i64 ((⟨x0.Neg_, s145, y155⟩ : St123).half_)], .box [.fn (.func 113) [] [.ptr 6 0]]]) [2] (by kernel_rfl) (by kernel_rfl) (by kernel_rfl) (by kernel_rfl) (by decide) (by kernel_rfl) (by kernel_rfl) (by kernel_rfl) (.cons (Le.refl _) .nil) (round_next_ok_0 hy297) (by kernel_rfl) (by kernel_rfl) (by kernel_rfl) ?_
        refine kC 1 [1,2,4,8,9,10] ?_
        refine kE ?_
        obtain rfl := oi h298
        refine PJ.wk (Wk.sel (L2 := [(1, .int .i64 x1), (2, .int .i64 x2), (4, .ptr 0 0), (8, .ptr 1 0), (9, .int .i64 0), (10, lsv (encI .u8) 1 y296)]) (H2 := [.box (encSt28 x0), .box [.bool false, .nl, .int .i64 0]]) 0 (by rw [hFH]; rfl) hFD [0, 1] (by kernel_rfl) (by kernel_rfl) (by decide) (by kernel_rfl) (by kernel_rfl) (by kernel_rfl) (by kernel_rfl)) ?_
        exact kN [1, 2, 4, 8, 9, 10]
       ·have h295 := condF hb293 h292
        refine kF ?_
        refine kK ?_
        obtain rfl := oi h295
        refine PJ.wk (Wk.freeze 2 (n := y84.1.length) (k := 1) (e := 5) (cs := y84.1.flatMap (encI .u8)) (by kernel_rfl)) ?_
        refine PJ.wk (Wk.sel (L2 := [(1, .int .i64 x1), (2, .int .i64 x2), (4, .ptr 0 0), (8, .ptr 1 0), (9, .int .i64 0), (10, lsv (encI .u8) 1 y84.1)]) (H2 := [.box (encSt28 x0), .box [.bool false, .nl, .int .i64 0]]) 0 (by rw [hFH]; rfl) hFD [0, 1] (by kernel_rfl) (by kernel_rfl) (by decide) (by kernel_rfl) (by kernel_rfl) (by kernel_rfl) (by kernel_rfl)) ?_
        exact kN [1, 2, 4, 8, 9, 10]
     ·have h274 := condT hb273 h272
      have hn276 := of_decide_eq_true hb273
      refine RJ.look (some 0) (d := some 78) (ef := ⟨.fn (.func 114) [] [], [5], []⟩) (c := hitC (.int .i64 x3) [(.int .i64 0, .fn (.func 114) [] []), (.int .i64 1, .fn (.func 115) [] []), (.int .i64 2, .fn (.func 116) [] [.ptr 6 0]), (.int .i64 3, .fn (.func 117) [] [.ptr 6 0]), (.int .i64 4, .fn (.func 118) [] [.ptr 7 0]), (.int .i64 5, .fn (.func 119) [] [.ptr 7 0]), (.int .i64 6, .fn (.func 120) [] [.ptr 7 0, .ptr 6 0]), (.int .i64 7, .fn (.func 121) [] [.ptr 7 0, .ptr 6 0])] 0) (tr2 := []) (by kernel_rfl) (by simp [hitC, missC, sameB, sameE, hn276]) ?_
      obtain ⟨y277, hy278, h279⟩ := bindS h274
      refine RJ.call0 (d := (some 79)) (f := 114) (args := []) (v := .bool y277) (tr2 := []) (by kernel_rfl) (by kernel_rfl) .nil (round_ways_2_ok hy278) (by kernel_rfl) ?_
      refine kEN ?_
      refine J.caseB 79 (b := y277) (by kernel_rfl) (fun hb280 => ?_) (fun hb280 => ?_)
      ·have h281 := condT hb280 h279
       refine kT ?_
       refine kR ?_
       refine kC 1 [1,2,4,8,9,10,80] ?_
       obtain ⟨y283, hy284, h285⟩ := bindS h281
       refine RJ.callG (d := (some 81)) (f := 94) (args := [.vc 2]) (args0 := [.vc 0]) (v0 := lsv (encI .u8) 1 y283) (v := lsv (encI .u8) 1 y283) (tr2 := []) (H0 := [vecL (encI .u8) 1 5 y84.1]) (H0' := [.gone]) (H2 := [.box (encSt28 x0), .box [.bool false, .nl, .int .i64 0], .gone, .res, .box [.bool x0.Neg_, .bool s145, .int .i64 y155], .map [(.int .i64 0, .fn (.func 114) [] []), (.int .i64 1, .fn (.func 115) [] []), (.int .i64 2, .fn (.func 116) [] [.ptr 6 0]), (.int .i64 3, .fn (.func 117) [] [.ptr 6 0]), (.int .i64 4, .fn (.func 118) [] [.ptr 7 0]), (.int .i64 5, .fn (.func 119) [] [.ptr 7 0]), (.int .i64 6, .fn (.func 120) [] [.ptr 7 0, .ptr 6 0]), (.int .i64 7, .fn (.func 121) [] [.ptr 7 0, .ptr 6 0])], .box [.bool ((⟨x0.Neg_, s145, y155⟩ : St123).neg_), .bool ((⟨x0.Neg_, s145, y155⟩ : St123).odd_), .int .i64 ((⟨x0.Neg_, s145, y155⟩ : St123).half_)], .box [.fn (.func 113) [] [.ptr 6 0]]]) [2] (by kernel_rfl) (by kernel_rfl) (by kernel_rfl) (by kernel_rfl) (by decide) (by kernel_rfl) (by kernel_rfl) (by kernel_rfl) (.cons (Le.refl _) .nil) (round_next_ok_0 hy284) (by kernel_rfl) (by kernel_rfl) (by kernel_rfl) ?_
       refine kC 1 [1,2,4,8,9,10] ?_
       refine kE ?_
       obtain rfl := oi h285
       refine PJ.wk (Wk.sel (L2 := [(1, .int .i64 x1), (2, .int .i64 x2), (4, .ptr 0 0), (8, .ptr 1 0), (9, .int .i64 0), (10, lsv (encI .u8) 1 y283)]) (H2 := [.box (encSt28 x0), .box [.bool false, .nl, .int .i64 0]]) 0 (by rw [hFH]; rfl) hFD [0, 1] (by kernel_rfl) (by kernel_rfl) (by decide) (by kernel_rfl) (by kernel_rfl) (by kernel_rfl) (by kernel_rfl)) ?_
       exact kN [1, 2, 4, 8, 9, 10]
      ·have h282 := condF hb280 h279
       refine kF ?_
       refine kK ?_
       obtain rfl := oi h282
       refine PJ.wk (Wk.freeze 2 (n := y84.1.length) (k := 1) (e := 5) (cs := y84.1.flatMap (encI .u8)) (by kernel_rfl)) ?_
       refine PJ.wk (Wk.sel (L2 := [(1, .int .i64 x1), (2, .int .i64 x2), (4, .ptr 0 0), (8, .ptr 1 0), (9, .int .i64 0), (10, lsv (encI .u8) 1 y84.1)]) (H2 := [.box (encSt28 x0), .box [.bool false, .nl, .int .i64 0]]) 0 (by rw [hFH]; rfl) hFD [0, 1] (by kernel_rfl) (by kernel_rfl) (by decide) (by kernel_rfl) (by kernel_rfl) (by kernel_rfl) (by kernel_rfl)) ?_
       exact kN [1, 2, 4, 8, 9, 10]
    ·refine kS ?_
     refine J.keep [1, 2, 4, 8, 9, 10] (L2 := [(1, .int .i64 x1), (2, .int .i64 x2), (4, .ptr 0 0), (8, .ptr 1 0), (9, .int .i64 0), (10, lsv (encI .u8) 1 s265)]) (by kernel_rfl) ?_
     refine K.draw (by kernel_rfl) (by kernel_rfl) (by kernel_rfl) (H2 := [.box (encSt28 x0), .box [.bool false, .nl, .int .i64 0], .res, .res]) (by kernel_rfl) (n := 2) (by kernel_rfl) ?_
     refine kD 4 ?_
     obtain ⟨y377, hy378, h379⟩ := bindS h269
     refine RJ.call0 (d := (some 86)) (f := 95) (args := [lsv (encI .u8) 1 s265, .int .i64 x1]) (v := lsv (encI .u8) 1 y377) (tr2 := [([], []), ([0, 1], []), ([], []), ([], []), ([], [4, 5])]) (by kernel_rfl) (by kernel_rfl) (.cons (Le.refl _) (.cons (Le.refl _) .nil)) (round_times_ok hy378) (by kernel_rfl) ?_
     refine kD 1 ?_
     obtain ⟨y380, hy381, h382⟩ := bindS h379
     refine RJ.call0 (d := (some 88)) (f := 49) (args := [.bool x0.Neg_, lsv (encI .u8) 1 y377, .int .i64 x2]) (v := .tup [.agg (encSt28 y380.1), .int .i64 y380.2]) (tr2 := [([], []), ([0, 1], []), ([], []), ([], []), ([], [4, 5]), ([], []), ([], [6, 7])]) (by kernel_rfl) (by kernel_rfl) (.cons (Le.refl _) (.cons (Le.refl _) (.cons (Le.refl _) .nil))) (dec_Norm_ok hy381) (by kernel_rfl) ?_
     refine kD 4 ?_
     refine kEN ?_
     refine kX ?_
     obtain rfl := oi h382
     exact kZ hFn hFH hFD

def round_Sig (x0 : St28) (x1 : Int) (x2 : Int) : Option (St28 × Int) :=
 (Option.bind (Option.bind (bif (decide (x1 < 1)) then (some true) else (Option.bind (round_Is x2) fun y59 => (bif (!y59) then (some true) else (Option.bind (dec_Right x0) fun y65 => (some (!y65)))))) fun (s51 : Bool) => (bif s51 then (some (.inr ((⟨false, ([] : List Int), 0⟩ : St28), 1))) else (some (.inl ())))) (joinX fun (s34 : Unit) => (Option.bind (Option.bind (bif (decide ((x0.D_.length : Int) = 0)) then (some true) else (Option.bind (dec_Mag x0) fun y115 => (some ((decide (x1 > ((IntKind.wrap .i64 ((IntKind.wrap .i64 (y115 + 1000)) + 1))))))))) fun (s107 : Bool) => (bif s107 then (Option.bind (dec_Norm x0.Neg_ x0.D_ x0.E_) fun y121 => (some (.inr (y121.1, y121.2)))) else (some (.inl ())))) (joinX fun (s96 : Unit) => (Option.bind (dec_Mag x0) fun y125 => (Option.bind (round_Inc x0 1 ((IntKind.wrap .i64 ((IntKind.wrap .i64 (y125 - x1)) + 1))) x2) fun y128 => (some (y128.1, y128.2))))))))
theorem round_Sig_ok {x0 : St28} {x1 : Int} {x2 : Int} {r : St28 × Int} (h : round_Sig x0 x1 x2 = some r) : SC Tryz.prog 27 [.agg (encSt28 x0), .int .i64 x1, .int .i64 x2] [] (.tup [.agg (encSt28 r.1), .int .i64 r.2]) [] := by
 refine kFn (fn := Tryz.f27) (fun F hFn hFH hFD => ?_)
 unfold round_Sig at h
 refine kSR ?_
 refine kC 3 [1,2,3,6,7] ?_
 refine kEN ?_
 obtain ⟨y35, hy36, h37⟩ := bindS h
 refine K.cutX (by kernel_rfl) (fun (s34 : Unit) => ([(1, .int .i64 x1), (2, .int .i64 x2), (3, .ptr 0 0), (6, .ptr 1 0), (7, .int .i64 0)], [.box (encSt28 x0), .box [.bool false, .nl, .int .i64 0]])) y35 ?_ (fun s34 hs => ?_)
 ·obtain ⟨s51, hy53, h55⟩ := bindS hy36
  refine K.cutN (by kernel_rfl) (fun (s51 : Bool) => ([(1, .int .i64 x1), (2, .int .i64 x2), (3, .ptr 0 0), (6, .ptr 1 0), (7, .int .i64 0), (19, .bool s51)], [.box (encSt28 x0), .box [.bool false, .nl, .int .i64 0]])) s51 ?_ ?_
  ·refine kR ?_
   refine kC 3 [1,2,3,6,7,10] ?_
   refine RJ.caseB 10 (b := (decide (x1 < 1))) (by kernel_rfl) (fun hb56 => ?_) (fun hb56 => ?_)
   ·have h57 := condT hb56 hy53
    refine kC 9 [1,2,3,6,7,19] ?_
    refine kE ?_
    obtain rfl := oi h57
    exact kN [1, 2, 3, 6, 7, 19]
   ·have h58 := condF hb56 hy53
    refine kC 1 [1,2,3,6,7,10,11] ?_
    obtain ⟨y59, hy60, h61⟩ := bindS h58
    refine RJ.call0 (d := (some 12)) (f := 64) (args := [.int .i64 x2]) (v := .bool y59) (tr2 := []) (by kernel_rfl) (by kernel_rfl) (.cons (Le.refl _) .nil) (round_Is_ok hy60) (by kernel_rfl) ?_
    refine RJ.seg 3 [1, 2, 3, 6, 7, 15] (L2 := [(1, .int .i64 x1), (2, .int .i64 x2), (3, .ptr 0 0), (6, .ptr 1 0), (7, .int .i64 0), (15, .bool (!y59))]) (H2 := [.box (encSt28 x0), .box [.bool false, .nl, .int .i64 0]]) (by kernel_rfl) ?_
    refine RJ.caseB 15 (b := (!y59)) (by kernel_rfl) (fun hb62 => ?_) (fun hb62 => ?_)
    ·have h63 := condT hb62 h61
     refine kC 4 [1,2,3,6,7,19] ?_
     refine kE ?_
     obtain rfl := oi h63
     exact kN [1, 2, 3, 6, 7, 19]
    ·have h64 := condF hb62 h61
     refine kC 1 [1,2,3,6,7,15,16] ?_
     obtain ⟨y65, hy66, h67⟩ := bindS h64
     refine RJ.call0 (d := (some 17)) (f := 32) (args := [.agg (encSt28 x0)]) (v := .bool y65) (tr2 := []) (by kernel_rfl) (by kernel_rfl) (.cons (Le.refl _) .nil) (dec_Right_ok hy66) (by kernel_rfl) ?_
     refine kC 2 [1,2,3,6,7,19] ?_
     refine kE ?_
     obtain rfl := oi h67
     exact kN [1, 2, 3, 6, 7, 19]
  ·refine J.caseB 19 (b := s51) (by kernel_rfl) (fun hb68 => ?_) (fun hb68 => ?_)
   ·have h69 := condT hb68 h55
    refine kT ?_
    refine kSR ?_
    refine kC 3 [1,2,3,6,7] ?_
    refine kEN ?_
    refine kX ?_
    obtain rfl := oi h69
    have h71 := joinX_inr h37
    refine PJ.cutXr (fun e => nomatch e) ?_
    obtain rfl := oi h71
    refine PJ.res (v1 := .tup [.agg [.bool false, .nl, .int .i64 0], .int .i64 1]) (Le.tup (.cons (Le.agg (.cons (Le.refl _) (.cons (Le.nl _) (.cons (Le.refl _) .nil)))) (.cons (Le.refl _) .nil))) ?_
    exact kZ hFn hFH hFD
   ·have h70 := condF hb68 h55
    refine kF ?_
    refine kK ?_
    obtain rfl := oi h70
    exact PJ.cutXl [1, 2, 3, 6, 7] (by kernel_rfl) (by kernel_rfl)
 ·subst hs
  have h38 := joinX_inl h37
  obtain ⟨y97, hy98, h99⟩ := bindS h38
  refine K.cutX (by kernel_rfl) (fun (s96 : Unit) => ([(1, .int .i64 x1), (2, .int .i64 x2), (3, .ptr 0 0), (6, .ptr 1 0), (7, .int .i64 0)], [.box (encSt28 x0), .box [.bool false, .nl, .int .i64 0]])) y97 ?_ (fun s96 hs => ?_)
  ·obtain ⟨s107, hy109, h111⟩ := bindS hy98
   refine K.cutN (by kernel_rfl) (fun (s107 : Bool) => ([(1, .int .i64 x1), (2, .int .i64 x2), (3, .ptr 0 0), (6, .ptr 1 0), (7, .int .i64 0), (32, .bool s107)], [.box (encSt28 x0), .box [.bool false, .nl, .int .i64 0]])) s107 ?_ ?_
   ·refine kR ?_
    refine kC 5 [1,2,3,6,7,25] ?_
    refine RJ.caseB 25 (b := (decide ((x0.D_.length : Int) = 0))) (by kernel_rfl) (fun hb112 => ?_) (fun hb112 => ?_)
    ·have h113 := condT hb112 hy109
     refine kC 7 [1,2,3,6,7,32] ?_
     refine kE ?_
     obtain rfl := oi h113
     exact kN [1, 2, 3, 6, 7, 32]
    ·have h114 := condF hb112 hy109
     refine kC 2 [1,2,3,6,7,25,26,27] ?_
     obtain ⟨y115, hy116, h117⟩ := bindS h114
     refine RJ.call0 (d := (some 28)) (f := 65) (args := [.agg (encSt28 x0)]) (v := .int .i64 y115) (tr2 := []) (by kernel_rfl) (by kernel_rfl) (.cons (Le.refl _) .nil) (dec_Mag_ok hy116) (by kernel_rfl) ?_
     refine kC 4 [1,2,3,6,7,32] ?_
     refine kE ?_
     obtain rfl := oi h117
     exact kN [1, 2, 3, 6, 7, 32]
   ·refine J.caseB 32 (b := s107) (by kernel_rfl) (fun hb118 => ?_) (fun hb118 => ?_)
    ·have h119 := condT hb118 h111
     refine kT ?_
     refine kSR ?_
     refine kC 6 [1,2,3,6,7,34,36,38] ?_
     obtain ⟨y121, hy122, h123⟩ := bindS h119
     refine RJ.call0 (d := (some 39)) (f := 49) (args := (encSt28 x0)) (v := .tup [.agg (encSt28 y121.1), .int .i64 y121.2]) (tr2 := []) (by kernel_rfl) (by kernel_rfl) (.cons (Le.refl _) (.cons (Le.refl _) (.cons (Le.refl _) .nil))) (dec_Norm_ok hy122) (by kernel_rfl) ?_
     refine kC 4 [1,2,3,6,7] ?_
     refine kEN ?_
     refine kX ?_
     obtain rfl := oi h123
     have h124 := joinX_inr h99
     refine PJ.cutXr (fun e => nomatch e) ?_
     obtain rfl := oi h124
     exact kZ hFn hFH hFD
    ·have h120 := condF hb118 h111
     refine kF ?_
     refine kK ?_
     obtain rfl := oi h120
     exact PJ.cutXl [1, 2, 3, 6, 7] (by kernel_rfl) (by kernel_rfl)
  ·subst hs
   have h100 := joinX_inl h99
   refine kS ?_
   refine J.keep [1, 2, 3, 6, 7] (L2 := [(1, .int .i64 x1), (2, .int .i64 x2), (3, .ptr 0 0), (6, .ptr 1 0), (7, .int .i64 0)]) (by kernel_rfl) ?_
   refine K.draw (by kernel_rfl) (by kernel_rfl) (by kernel_rfl) (H2 := [.box (encSt28 x0), .box [.bool false, .nl, .int .i64 0], .res, .res]) (by kernel_rfl) (n := 2) (by kernel_rfl) ?_
   refine kD 2 ?_
   obtain ⟨y125, hy126, h127⟩ := bindS h100
   refine RJ.call0 (d := (some 44)) (f := 65) (args := [.agg (encSt28 x0)]) (v := .int .i64 y125) (tr2 := [([0, 1], []), ([0, 1], []), ([], [4, 5])]) (by kernel_rfl) (by kernel_rfl) (.cons (Le.refl _) .nil) (dec_Mag_ok hy126) (by kernel_rfl) ?_
   refine kD 4 ?_
   obtain ⟨y128, hy129, h130⟩ := bindS h127
   refine RJ.call0 (d := (some 49)) (f := 66) (args := [.agg (encSt28 x0), .int .i64 1, .int .i64 ((IntKind.wrap .i64 ((IntKind.wrap .i64 (y125 - x1)) + 1))), .int .i64 x2]) (v := .tup [.agg (encSt28 y128.1), .int .i64 y128.2]) (tr2 := [([0, 1], []), ([0, 1], []), ([], [4, 5]), ([], []), ([], []), ([], []), ([], []), ([], [6, 7])]) (by kernel_rfl) (by kernel_rfl) (.cons (Le.refl _) (.cons (Le.refl _) (.cons (Le.refl _) (.cons (Le.refl _) .nil)))) (round_Inc_ok hy129) (by kernel_rfl) ?_
   refine kD 4 ?_
   refine kEN ?_
   refine kX ?_
   obtain rfl := oi h130
   exact kZ hFn hFH hFD

def round_To (x0 : St28) (x1 : Int) (x2 : Int) : Option (St28 × Int) :=
 (Option.bind (round_Inc x0 1 x1 x2) fun y1 => (some (y1.1, y1.2)))
theorem round_To_ok {x0 : St28} {x1 : Int} {x2 : Int} {r : St28 × Int} (h : round_To x0 x1 x2 = some r) : SC Tryz.prog 29 [.agg (encSt28 x0), .int .i64 x1, .int .i64 x2] [] (.tup [.agg (encSt28 r.1), .int .i64 r.2]) [] := by
 refine kFn (fn := Tryz.f29) (fun F hFn hFH hFD => ?_)
 unfold round_To at h
 refine kSR ?_
 refine kC 3 [1,2,3,6,7] ?_
 refine kEN ?_
 refine kSR ?_
 refine kC 3 [6,7,8,9,10] ?_
 obtain ⟨y1, hy2, h3⟩ := bindS h
 refine RJ.call0 (d := (some 11)) (f := 66) (args := [.agg (encSt28 x0), .int .i64 1, .int .i64 x1, .int .i64 x2]) (v := .tup [.agg (encSt28 y1.1), .int .i64 y1.2]) (tr2 := []) (by kernel_rfl) (by kernel_rfl) (.cons (Le.refl _) (.cons (Le.refl _) (.cons (Le.refl _) (.cons (Le.refl _) .nil)))) (round_Inc_ok hy2) (by kernel_rfl) ?_
 refine kC 4 [6,7] ?_
 refine kEN ?_
 refine kX ?_
 obtain rfl := oi h3
 exact kZ hFn hFH hFD

def shape_Round (x0 : St25) (x1 : Int) (x2 : St28) (x3 : Int) : Option (St28 × Int) :=
 (bif (decide (x0.Exp_ > 0)) then (Option.bind (shape_count x0.MaxFrac_) fun y4 => (Option.bind (round_Sig x2 (IntKind.wrap .i64 (y4 + 1)) x3) fun y7 => (some (y7.1, y7.2)))) else (bif (decide (x0.MaxSig_ > 0)) then (Option.bind (round_Sig x2 x0.MaxSig_ x3) fun y13 => (some (y13.1, y13.2))) else (bif (decide (x1 ≥ 0)) then (Option.bind (round_To x2 (IntKind.wrap .i64 (0 - x1)) x3) fun y19 => (some (y19.1, y19.2))) else (Option.bind (round_To x2 (IntKind.wrap .i64 (0 - x0.MaxFrac_)) x3) fun y22 => (some (y22.1, y22.2))))))
theorem shape_Round_ok {x0 : St25} {x1 : Int} {x2 : St28} {x3 : Int} {r : St28 × Int} (h : shape_Round x0 x1 x2 x3 = some r) : SC Tryz.prog 9 [.agg (encSt25 x0), .int .i64 x1, .agg (encSt28 x2), .int .i64 x3] [] (.tup [.agg (encSt28 r.1), .int .i64 r.2]) [] := by
 refine kFn (fn := Tryz.f9) (fun F hFn hFH hFD => ?_)
 unfold shape_Round at h
 refine kSR ?_
 refine kC 4 [1,3,4,6,8,9] ?_
 refine kEN ?_
 refine kS ?_
 refine K.block 0 (by kernel_rfl) ?_
 refine kSR ?_
 refine kC 4 [1,3,4,6,8,9,10] ?_
 refine kEN ?_
 refine J.caseB 10 (b := (decide (x0.Exp_ > 0))) (by kernel_rfl) (fun hb1 => ?_) (fun hb1 => ?_)
 ·have h2 := condT hb1 h
  refine kT ?_
  refine kS ?_
  refine J.keep [3, 4, 6, 8, 9] (L2 := [(3, .int .i64 x3), (4, .ptr 0 0), (6, .ptr 1 0), (8, .ptr 2 0), (9, .int .i64 0)]) (by kernel_rfl) ?_
  refine K.draw (by kernel_rfl) (by kernel_rfl) (by kernel_rfl) (H2 := [.box (encSt25 x0), .box (encSt28 x2), .box [.bool false, .nl, .int .i64 0], .res, .res]) (by kernel_rfl) (n := 3) (by kernel_rfl) ?_
  refine kD 3 ?_
  obtain ⟨y4, hy5, h6⟩ := bindS h2
  refine RJ.call0 (d := (some 17)) (f := 28) (args := [.int .i64 x0.MaxFrac_]) (v := .int .i64 y4) (tr2 := [([2, 3], []), ([], []), ([0, 1], []), ([], [6, 7])]) (by kernel_rfl) (by kernel_rfl) (.cons (Le.refl _) .nil) (shape_count_ok hy5) (by kernel_rfl) ?_
  refine RJ.segD 2 (tr2 := [([2, 3], []), ([], []), ([0, 1], []), ([], [6, 7]), ([], []), ([], [])]) (L2 := [(19, .int .i64 x3), (18, .int .i64 (IntKind.wrap .i64 (y4 + 1))), (17, .int .i64 y4), (16, .int .i64 x0.MaxFrac_), (15, .ptr 0 8), (14, .agg (encSt28 x2)), (3, .int .i64 x3), (4, .ptr 0 0), (6, .ptr 1 0), (8, .ptr 2 0), (9, .int .i64 0)]) (H2 := [.box (encSt25 x0), .box (encSt28 x2), .box [.bool false, .nl, .int .i64 0], .res, .res]) (by kernel_rfl) ?_
  obtain ⟨y7, hy8, h9⟩ := bindS h6
  refine RJ.call0 (d := (some 20)) (f := 27) (args := [.agg (encSt28 x2), .int .i64 (IntKind.wrap .i64 (y4 + 1)), .int .i64 x3]) (v := .tup [.agg (encSt28 y7.1), .int .i64 y7.2]) (tr2 := [([2, 3], []), ([], []), ([0, 1], []), ([], [6, 7]), ([], []), ([], []), ([], [8, 9])]) (by kernel_rfl) (by kernel_rfl) (.cons (Le.refl _) (.cons (Le.refl _) (.cons (Le.refl _) .nil))) (round_Sig_ok hy8) (by kernel_rfl) ?_
  refine kD 4 ?_
  refine kEN ?_
  refine kX ?_
  refine PJ.blockRet ?_
  refine PJ.passRet ?_
  obtain rfl := oi h9
  exact kZ hFn hFH hFD
 ·have h3 := condF hb1 h
  refine kF ?_
  refine kSR ?_
  refine kC 4 [1,3,4,6,8,9,23] ?_
  refine kEN ?_
  refine J.caseB 23 (b := (decide (x0.MaxSig_ > 0))) (by kernel_rfl) (fun hb10 => ?_) (fun hb10 => ?_)
  ·have h11 := condT hb10 h3
   refine kT ?_
   refine kSR ?_
   refine RJ.seg 4 [3, 4, 6, 8, 9, 27, 29, 30] (L2 := [(3, .int .i64 x3), (4, .ptr 0 0), (6, .ptr 1 0), (8, .ptr 2 0), (9, .int .i64 0), (27, .agg (encSt28 x2)), (29, .int .i64 x0.MaxSig_), (30, .int .i64 x3)]) (H2 := [.box (encSt25 x0), .box (encSt28 x2), .box [.bool false, .nl, .int .i64 0]]) (by kernel_rfl) ?_
   obtain ⟨y13, hy14, h15⟩ := bindS h11
   refine RJ.call0 (d := (some 31)) (f := 27) (args := [.agg (encSt28 x2), .int .i64 x0.MaxSig_, .int .i64 x3]) (v := .tup [.agg (encSt28 y13.1), .int .i64 y13.2]) (tr2 := []) (by kernel_rfl) (by kernel_rfl) (.cons (Le.refl _) (.cons (Le.refl _) (.cons (Le.refl _) .nil))) (round_Sig_ok hy14) (by kernel_rfl) ?_
   refine kC 4 [3,4,6,8,9] ?_
   refine kEN ?_
   refine kX ?_
   refine PJ.blockRet ?_
   refine PJ.passRet ?_
   obtain rfl := oi h15
   exact kZ hFn hFH hFD
  ·have h12 := condF hb10 h3
   refine kF ?_
   refine kSR ?_
   refine RJ.seg 3 [1, 3, 4, 6, 8, 9, 34] (L2 := [(1, .int .i64 x1), (3, .int .i64 x3), (4, .ptr 0 0), (6, .ptr 1 0), (8, .ptr 2 0), (9, .int .i64 0), (34, .bool (decide (x1 ≥ 0)))]) (H2 := [.box (encSt25 x0), .box (encSt28 x2), .box [.bool false, .nl, .int .i64 0]]) (by kernel_rfl) ?_
   refine kEN ?_
   refine J.caseB 34 (b := (decide (x1 ≥ 0))) (by kernel_rfl) (fun hb16 => ?_) (fun hb16 => ?_)
   ·have h17 := condT hb16 h12
    refine kT ?_
    refine kSR ?_
    refine kC 4 [3,4,6,8,9,37,39,40] ?_
    obtain ⟨y19, hy20, h21⟩ := bindS h17
    refine RJ.call0 (d := (some 41)) (f := 29) (args := [.agg (encSt28 x2), .int .i64 (IntKind.wrap .i64 (0 - x1)), .int .i64 x3]) (v := .tup [.agg (encSt28 y19.1), .int .i64 y19.2]) (tr2 := []) (by kernel_rfl) (by kernel_rfl) (.cons (Le.refl _) (.cons (Le.refl _) (.cons (Le.refl _) .nil))) (round_To_ok hy20) (by kernel_rfl) ?_
    refine kC 4 [3,4,6,8,9] ?_
    refine kEN ?_
    refine kX ?_
    refine PJ.blockRet ?_
    refine PJ.passRet ?_
    obtain rfl := oi h21
    exact kZ hFn hFH hFD
   ·have h18 := condF hb16 h12
    refine kF ?_
    refine kK ?_
    refine PJ.blockNormal ?_
    refine PJ.next ?_
    refine kSR ?_
    refine kC 5 [8,9,44,47,48] ?_
    obtain ⟨y22, hy23, h24⟩ := bindS h18
    refine RJ.call0 (d := (some 49)) (f := 29) (args := [.agg (encSt28 x2), .int .i64 (IntKind.wrap .i64 (0 - x0.MaxFrac_)), .int .i64 x3]) (v := .tup [.agg (encSt28 y22.1), .int .i64 y22.2]) (tr2 := []) (by kernel_rfl) (by kernel_rfl) (.cons (Le.refl _) (.cons (Le.refl _) (.cons (Le.refl _) .nil))) (round_To_ok hy23) (by kernel_rfl) ?_
    refine kC 4 [8,9] ?_
    refine kEN ?_
    refine kX ?_
    obtain rfl := oi h24
    exact kZ hFn hFH hFD

def exergueref05_Number : Nat → Int → Option (List UInt8)
 | 0, _ => none
 | n + 1, x0 => (bif (decide (x0 < 0)) then (Option.bind (exergueref05_Number n (IntKind.wrap .i64 (0 - x0))) fun y4 => (bif room (([45] : List UInt8).length + y4.length) then (some (([45] : List UInt8) ++ y4)) else none)) else (Option.bind (loopN (fun (s34 : Int × (List UInt8)) => (bif (decide (s34.1 ≥ 10)) then (bif room (((bytesS (([(IntKind.wrap .u8 ((IntKind.wrap .i64 (48 + ((Int.tmod (IntKind.wrap .i64 (Int.tdiv s34.1 10)) 10))))))] : List Int)))).length + s34.2.length) then (some (.inl ((IntKind.wrap .i64 (Int.tdiv s34.1 10)), (((bytesS (([(IntKind.wrap .u8 ((IntKind.wrap .i64 (48 + ((Int.tmod (IntKind.wrap .i64 (Int.tdiv s34.1 10)) 10))))))] : List Int)))) ++ s34.2)))) else none) else (some (.inr s34.2)))) big (x0, (bytesS (([(IntKind.wrap .u8 ((IntKind.wrap .i64 (48 + (Int.tmod x0 10)))))] : List Int))))) fun (s29 : (List UInt8)) => (some s29)))
theorem exergueref05_Number_ok : ∀ (n : Nat) {x0 : Int} {r : List UInt8} (h : exergueref05_Number n x0 = some r), SC Tryz.prog 45 [.int .i64 x0] [] (.str r) [] := by
 intro n
 induction n with
 | zero => intro x0 r h; cases h
 | succ n ih =>
 intro x0 r h
 refine kFn (fn := Tryz.f45) (fun F hFn hFH hFD => ?_)
 rw [exergueref05_Number.eq_2] at h
 refine kSR ?_
 refine kC 1 [0,2] ?_
 refine kEN ?_
 refine kS ?_
 refine kSR ?_
 refine kC 2 [0,2,5] ?_
 refine kEN ?_
 refine J.caseB 5 (b := (decide (x0 < 0))) (by kernel_rfl) (fun hb1 => ?_) (fun hb1 => ?_)
 ·have h2 := condT hb1 h
  refine kT ?_
  refine kSR ?_
  refine kC 2 [0,2,7] ?_
  obtain ⟨y4, hy5, h6⟩ := bindS h2
  refine RJ.call0 (d := (some 8)) (f := 45) (args := [.int .i64 (IntKind.wrap .i64 (0 - x0))]) (v := .str y4) (tr2 := []) (by kernel_rfl) (by kernel_rfl) (.cons (Le.refl _) .nil) (ih hy5) (by kernel_rfl) ?_
  obtain ⟨hm, h7⟩ := asrt h6
  refine RJ.rel (d := (some 9)) (ef := ⟨.str (([45] : List UInt8) ++ y4), [], []⟩) (ef' := ⟨.str (([45] : List UInt8) ++ y4), [], []⟩) (c := room (([45] : List UInt8).length + y4.length)) (tr2 := []) (H2 := []) (by kernel_rfl) hm (fun hc => rfl) (by kernel_rfl) ?_
  refine RJ.seg 1 [0, 2] (L2 := [(0, .int .i64 x0), (2, .str (([45] : List UInt8) ++ y4))]) (H2 := []) (by kernel_rfl) ?_
  refine kEN ?_
  refine kX ?_
  refine PJ.passRet ?_
  obtain rfl := oi h7
  exact kZ hFn hFH hFD
 ·have h3 := condF hb1 h
  refine kF ?_
  refine kK ?_
  refine PJ.next ?_
  refine kSR ?_
  refine kC 5 [0,2,14] ?_
  refine RJ.rel (d := (some 15)) (ef := ⟨.str (((([(IntKind.wrap .u8 ((IntKind.wrap .i64 (48 + (Int.tmod x0 10)))))] : List Int)).flatMap (encI .u8)).map Go.Sy.byteOf), [0], []⟩) (ef' := ⟨.str (bytesS (([(IntKind.wrap .u8 ((IntKind.wrap .i64 (48 + (Int.tmod x0 10)))))] : List Int))), [0], []⟩) (c := ((([(IntKind.wrap .u8 ((IntKind.wrap .i64 (48 + (Int.tmod x0 10)))))] : List Int)).flatMap (encI .u8)).all isByte) (tr2 := []) (H2 := [vecL (encI .u8) 1 5 (([(IntKind.wrap .u8 ((IntKind.wrap .i64 (48 + (Int.tmod x0 10)))))] : List Int))]) (by kernel_rfl) (allByte (([(IntKind.wrap .u8 ((IntKind.wrap .i64 (48 + (Int.tmod x0 10)))))] : List Int))) (fun hc => N.toStr) (by kernel_rfl) ?_
  refine RJ.seg 1 [0, 2, 3] (L2 := [(0, .int .i64 x0), (2, .str ([] : List UInt8)), (3, .str ((bytesS (([(IntKind.wrap .u8 ((IntKind.wrap .i64 (48 + (Int.tmod x0 10)))))] : List Int)))))]) (H2 := [vecL (encI .u8) 1 5 (([(IntKind.wrap .u8 ((IntKind.wrap .i64 (48 + (Int.tmod x0 10)))))] : List Int))]) (by kernel_rfl) ?_
  refine kEN ?_
  obtain ⟨s29, hy31, h33⟩ := bindS h3
  refine K.cutN (by kernel_rfl) (fun (s29 : (List UInt8)) => ([(2, .str ([] : List UInt8)), (3, .str s29)], [])) s29 ?_ ?_
  ·refine K.block 0 (by kernel_rfl) ?_
   refine J.wk (Wk.sel (L2 := [(0, .int .i64 x0), (2, .str ([] : List UInt8)), (3, .str ((bytesS (([(IntKind.wrap .u8 ((IntKind.wrap .i64 (48 + (Int.tmod x0 10)))))] : List Int)))))]) (H2 := []) 0 (by rw [hFH]; rfl) hFD [] (by kernel_rfl) (by kernel_rfl) (by decide) (by kernel_rfl) (by kernel_rfl) (by kernel_rfl) (by kernel_rfl)) ?_
   refine K.loop (by kernel_rfl) (fun (s34 : Int × (List UInt8)) => ([(0, .int .i64 s34.1), (2, .str ([] : List UInt8)), (3, .str s34.2)], [])) hy31 [0, 2, 3] (by kernel_rfl) (by kernel_rfl) (fun s34 x48 hs47 => ?_)
   refine kS ?_
   refine kSR ?_
   refine kC 2 [0,2,3,17] ?_
   refine kEN ?_
   refine J.caseB 17 (b := (decide (s34.1 ≥ 10))) (by kernel_rfl) (fun hb49 => ?_) (fun hb49 => ?_)
   ·have h50 := condT hb49 hs47
    refine kT ?_
    refine kK ?_
    refine PJ.next ?_
    refine K.block 1 (by kernel_rfl) ?_
    refine kSR ?_
    refine kC 3 [0,2,3] ?_
    refine kEN ?_
    refine kR ?_
    refine kC 5 [0,2,3,24] ?_
    refine RJ.rel (d := (some 25)) (ef := ⟨.str (((([(IntKind.wrap .u8 ((IntKind.wrap .i64 (48 + ((Int.tmod (IntKind.wrap .i64 (Int.tdiv s34.1 10)) 10))))))] : List Int)).flatMap (encI .u8)).map Go.Sy.byteOf), [0], []⟩) (ef' := ⟨.str (bytesS (([(IntKind.wrap .u8 ((IntKind.wrap .i64 (48 + ((Int.tmod (IntKind.wrap .i64 (Int.tdiv s34.1 10)) 10))))))] : List Int))), [0], []⟩) (c := ((([(IntKind.wrap .u8 ((IntKind.wrap .i64 (48 + ((Int.tmod (IntKind.wrap .i64 (Int.tdiv s34.1 10)) 10))))))] : List Int)).flatMap (encI .u8)).all isByte) (tr2 := []) (H2 := [vecL (encI .u8) 1 5 (([(IntKind.wrap .u8 ((IntKind.wrap .i64 (48 + ((Int.tmod (IntKind.wrap .i64 (Int.tdiv s34.1 10)) 10))))))] : List Int))]) (by kernel_rfl) (allByte (([(IntKind.wrap .u8 ((IntKind.wrap .i64 (48 + ((Int.tmod (IntKind.wrap .i64 (Int.tdiv s34.1 10)) 10))))))] : List Int))) (fun hc => N.toStr) (by kernel_rfl) ?_
    refine RJ.seg 1 [0, 2, 3, 25, 26] (L2 := [(0, .int .i64 (IntKind.wrap .i64 (Int.tdiv s34.1 10))), (2, .str ([] : List UInt8)), (3, .str s34.2), (25, .str ((bytesS (([(IntKind.wrap .u8 ((IntKind.wrap .i64 (48 + ((Int.tmod (IntKind.wrap .i64 (Int.tdiv s34.1 10)) 10))))))] : List Int))))), (26, .str s34.2)]) (H2 := [vecL (encI .u8) 1 5 (([(IntKind.wrap .u8 ((IntKind.wrap .i64 (48 + ((Int.tmod (IntKind.wrap .i64 (Int.tdiv s34.1 10)) 10))))))] : List Int))]) (by kernel_rfl) ?_
    obtain ⟨hm, h52⟩ := asrt h50
    refine RJ.rel (d := (some 27)) (ef := ⟨.str (((bytesS (([(IntKind.wrap .u8 ((IntKind.wrap .i64 (48 + ((Int.tmod (IntKind.wrap .i64 (Int.tdiv s34.1 10)) 10))))))] : List Int)))) ++ s34.2), [], []⟩) (ef' := ⟨.str (((bytesS (([(IntKind.wrap .u8 ((IntKind.wrap .i64 (48 + ((Int.tmod (IntKind.wrap .i64 (Int.tdiv s34.1 10)) 10))))))] : List Int)))) ++ s34.2), [], []⟩) (c := room (((bytesS (([(IntKind.wrap .u8 ((IntKind.wrap .i64 (48 + ((Int.tmod (IntKind.wrap .i64 (Int.tdiv s34.1 10)) 10))))))] : List Int)))).length + s34.2.length)) (tr2 := []) (H2 := [vecL (encI .u8) 1 5 (([(IntKind.wrap .u8 ((IntKind.wrap .i64 (48 + ((Int.tmod (IntKind.wrap .i64 (Int.tdiv s34.1 10)) 10))))))] : List Int))]) (by kernel_rfl) hm (fun hc => rfl) (by kernel_rfl) ?_
    refine kC 1 [0,2,3] ?_
    refine kE ?_
    refine PJ.blockNormal ?_
    obtain rfl := oi h52
    refine PJ.wk (Wk.sel (L2 := [(0, .int .i64 (IntKind.wrap .i64 (Int.tdiv s34.1 10))), (2, .str ([] : List UInt8)), (3, .str ((((bytesS (([(IntKind.wrap .u8 ((IntKind.wrap .i64 (48 + ((Int.tmod (IntKind.wrap .i64 (Int.tdiv s34.1 10)) 10))))))] : List Int)))) ++ s34.2)))]) (H2 := []) 0 (by rw [hFH]; rfl) hFD [] (by kernel_rfl) (by kernel_rfl) (by decide) (by kernel_rfl) (by kernel_rfl) (by kernel_rfl) (by kernel_rfl)) ?_
    exact PJ.loopNext [0, 2, 3] (by kernel_rfl) (by kernel_rfl)
   ·have h51 := condF hb49 hs47
    refine kF ?_
    refine K.exit 0 (by kernel_rfl) ?_
    refine PJ.passExit ?_
    obtain rfl := oi h51
    refine PJ.loopOut (fun e => nomatch e) (fun he54 => ?_)
    have h53 := congrArg some he54
    refine PJ.blockOut ?_
    obtain rfl := oi h53
    exact kN [2, 3]
  ·refine kSR ?_
   refine kC 2 [2] ?_
   refine kEN ?_
   refine kX ?_
   obtain rfl := oi h33
   exact kZ hFn hFH hFD

def exergueref05_Text (x0 : St28) : Option (List UInt8) :=
 (Option.bind (bif x0.Neg_ then (some ([45] : List UInt8)) else (some ([] : List UInt8))) fun (s4 : (List UInt8)) => (Option.bind (loopN (fun (s41 : (List UInt8) × Int) => (bif (decide (s41.2 < (x0.D_.length : Int))) then (bif inR s41.2 x0.D_.length then (bif room (s41.1.length + ((bytesS (([(IntKind.wrap .u8 (48 + (nth x0.D_ s41.2)))] : List Int)))).length) then (some (.inl ((s41.1 ++ ((bytesS (([(IntKind.wrap .u8 (48 + (nth x0.D_ s41.2)))] : List Int))))), (IntKind.wrap .i64 (s41.2 + 1))))) else none) else none) else (some (.inr s41.1)))) big (s4, 0)) fun (s36 : (List UInt8)) => (Option.bind (bif (decide ((x0.D_.length : Int) = 0)) then (bif room (s36.length + ([48] : List UInt8).length) then (some (s36 ++ ([48] : List UInt8))) else none) else (some s36)) fun (s69 : (List UInt8)) => (bif room (s69.length + ([101] : List UInt8).length) then (Option.bind (exergueref05_Number big x0.E_) fun y79 => (bif room ((s69 ++ ([101] : List UInt8)).length + y79.length) then (some ((s69 ++ ([101] : List UInt8)) ++ y79)) else none)) else none))))
theorem exergueref05_Text_ok {x0 : St28} {r : List UInt8} (h : exergueref05_Text x0 = some r) : SC Tryz.prog 21 [.agg (encSt28 x0)] [] (.str r) [] := by
 refine kFn (fn := Tryz.f21) (fun F hFn hFH hFD => ?_)
 unfold exergueref05_Text at h
 refine kSR ?_
 refine kC 2 [1,2] ?_
 refine kEN ?_
 refine kSR ?_
 refine kC 1 [1,2,3] ?_
 refine kEN ?_
 obtain ⟨s4, hy6, h8⟩ := bindS h
 refine K.cutN (by kernel_rfl) (fun (s4 : (List UInt8)) => ([(1, .ptr 0 0), (2, .str ([] : List UInt8)), (3, .str s4)], [.box (encSt28 x0)])) s4 ?_ ?_
 ·refine kSR ?_
  refine kC 2 [1,2,3,6] ?_
  refine kEN ?_
  refine J.caseB 6 (b := x0.Neg_) (by kernel_rfl) (fun hb9 => ?_) (fun hb9 => ?_)
  ·have h10 := condT hb9 hy6
   refine kT ?_
   refine kR ?_
   refine RJ.seg 1 [1, 2, 3] (L2 := [(1, .ptr 0 0), (2, .str ([] : List UInt8)), (3, .str ([45] : List UInt8))]) (H2 := [.box (encSt28 x0)]) (by kernel_rfl) ?_
   refine kE ?_
   obtain rfl := oi h10
   exact kN [1, 2, 3]
  ·have h11 := condF hb9 hy6
   refine kF ?_
   refine kK ?_
   obtain rfl := oi h11
   exact kN [1, 2, 3]
 ·obtain ⟨s36, hy38, h40⟩ := bindS h8
  refine K.cutN (by kernel_rfl) (fun (s36 : (List UInt8)) => ([(1, .ptr 0 0), (2, .str ([] : List UInt8)), (3, .str s36)], [.box (encSt28 x0)])) s36 ?_ ?_
  ·refine kSR ?_
   refine kC 1 [1,2,3,4] ?_
   refine kEN ?_
   refine K.block 0 (by kernel_rfl) ?_
   refine K.loop (by kernel_rfl) (fun (s41 : (List UInt8) × Int) => ([(1, .ptr 0 0), (2, .str ([] : List UInt8)), (3, .str s41.1), (4, .int .i64 s41.2)], [.box (encSt28 x0)])) hy38 [1, 2, 3, 4] (by kernel_rfl) (by kernel_rfl) (fun s41 x57 hs56 => ?_)
   refine kS ?_
   refine kSR ?_
   refine kC 5 [1,2,3,4,11] ?_
   refine kEN ?_
   refine J.caseB 11 (b := (decide (s41.2 < (x0.D_.length : Int)))) (by kernel_rfl) (fun hb58 => ?_) (fun hb58 => ?_)
   ·have h59 := condT hb58 hs56
    refine kT ?_
    refine kK ?_
    refine PJ.next ?_
    refine kS ?_
    refine K.block 1 (by kernel_rfl) ?_
    refine kR ?_
    refine kC 4 [1,2,3,4,14,16,17] ?_
    obtain ⟨hm, h61⟩ := asrt h59
    refine RJ.rel (d := (some 18)) (ef := ⟨.ep (((x0.D_.flatMap (encI .u8)).drop ((s41.2 : Int).toNat * 1)).take 1), [], []⟩) (ef' := ⟨.ep ((encI .u8) (nth x0.D_ s41.2)), [], []⟩) (c := inR s41.2 x0.D_.length) (tr2 := []) (H2 := [.box (encSt28 x0)]) (by kernel_rfl) hm (fun hc => N.idx (encI_len .u8) hc) (by kernel_rfl) ?_
    refine kC 3 [1,2,3,4,14,21] ?_
    refine RJ.rel (d := (some 22)) (ef := ⟨.str (((([(IntKind.wrap .u8 (48 + (nth x0.D_ s41.2)))] : List Int)).flatMap (encI .u8)).map Go.Sy.byteOf), [1], []⟩) (ef' := ⟨.str (bytesS (([(IntKind.wrap .u8 (48 + (nth x0.D_ s41.2)))] : List Int))), [1], []⟩) (c := ((([(IntKind.wrap .u8 (48 + (nth x0.D_ s41.2)))] : List Int)).flatMap (encI .u8)).all isByte) (tr2 := []) (H2 := [.box (encSt28 x0), vecL (encI .u8) 1 5 (([(IntKind.wrap .u8 (48 + (nth x0.D_ s41.2)))] : List Int))]) (by kernel_rfl) (allByte (([(IntKind.wrap .u8 (48 + (nth x0.D_ s41.2)))] : List Int))) (fun hc => N.toStr) (by kernel_rfl) ?_
    obtain ⟨hm, h62⟩ := asrt h61
    refine RJ.rel (d := (some 23)) (ef := ⟨.str (s41.1 ++ ((bytesS (([(IntKind.wrap .u8 (48 + (nth x0.D_ s41.2)))] : List Int))))), [], []⟩) (ef' := ⟨.str (s41.1 ++ ((bytesS (([(IntKind.wrap .u8 (48 + (nth x0.D_ s41.2)))] : List Int))))), [], []⟩) (c := room (s41.1.length + ((bytesS (([(IntKind.wrap .u8 (48 + (nth x0.D_ s41.2)))] : List Int)))).length)) (tr2 := []) (H2 := [.box (encSt28 x0), vecL (encI .u8) 1 5 (([(IntKind.wrap .u8 (48 + (nth x0.D_ s41.2)))] : List Int))]) (by kernel_rfl) hm (fun hc => rfl) (by kernel_rfl) ?_
    refine RJ.seg 1 [1, 2, 3, 4] (L2 := [(1, .ptr 0 0), (2, .str ([] : List UInt8)), (3, .str ((s41.1 ++ ((bytesS (([(IntKind.wrap .u8 (48 + (nth x0.D_ s41.2)))] : List Int))))))), (4, .int .i64 s41.2)]) (H2 := [.box (encSt28 x0), vecL (encI .u8) 1 5 (([(IntKind.wrap .u8 (48 + (nth x0.D_ s41.2)))] : List Int))]) (by kernel_rfl) ?_
    refine kE ?_
    refine PJ.blockNormal ?_
    refine PJ.next ?_
    refine kR ?_
    refine kC 3 [1,2,3,4] ?_
    refine kE ?_
    obtain rfl := oi h62
    refine PJ.wk (Wk.sel (L2 := [(1, .ptr 0 0), (2, .str ([] : List UInt8)), (3, .str ((s41.1 ++ ((bytesS (([(IntKind.wrap .u8 (48 + (nth x0.D_ s41.2)))] : List Int))))))), (4, .int .i64 (IntKind.wrap .i64 (s41.2 + 1)))]) (H2 := [.box (encSt28 x0)]) 0 (by rw [hFH]; rfl) hFD [0] (by kernel_rfl) (by kernel_rfl) (by decide) (by kernel_rfl) (by kernel_rfl) (by kernel_rfl) (by kernel_rfl)) ?_
    exact PJ.loopNext [1, 2, 3, 4] (by kernel_rfl) (by kernel_rfl)
   ·have h60 := condF hb58 hs56
    refine kF ?_
    refine K.exit 0 (by kernel_rfl) ?_
    refine PJ.passExit ?_
    obtain rfl := oi h60
    refine PJ.loopOut (fun e => nomatch e) (fun he64 => ?_)
    have h63 := congrArg some he64
    refine PJ.blockOut ?_
    obtain rfl := oi h63
    exact kN [1, 2, 3]
  ·obtain ⟨s69, hy71, h73⟩ := bindS h40
   refine K.cutN (by kernel_rfl) (fun (s69 : (List UInt8)) => ([(1, .ptr 0 0), (2, .str ([] : List UInt8)), (3, .str s69)], [.box (encSt28 x0)])) s69 ?_ ?_
   ·refine kSR ?_
    refine kC 4 [1,2,3,27] ?_
    refine kEN ?_
    refine J.caseB 27 (b := (decide ((x0.D_.length : Int) = 0))) (by kernel_rfl) (fun hb74 => ?_) (fun hb74 => ?_)
    ·have h75 := condT hb74 hy71
     refine kT ?_
     refine kR ?_
     refine kC 1 [1,2,3,28] ?_
     obtain ⟨hm, h77⟩ := asrt h75
     refine RJ.rel (d := (some 29)) (ef := ⟨.str (s36 ++ ([48] : List UInt8)), [], []⟩) (ef' := ⟨.str (s36 ++ ([48] : List UInt8)), [], []⟩) (c := room (s36.length + ([48] : List UInt8).length)) (tr2 := []) (H2 := [.box (encSt28 x0)]) (by kernel_rfl) hm (fun hc => rfl) (by kernel_rfl) ?_
     refine kC 1 [1,2,3] ?_
     refine kE ?_
     obtain rfl := oi h77
     exact kN [1, 2, 3]
    ·have h76 := condF hb74 hy71
     refine kF ?_
     refine kK ?_
     obtain rfl := oi h76
     exact kN [1, 2, 3]
   ·refine kSR ?_
    refine kC 1 [1,2,30] ?_
    obtain ⟨hm, h78⟩ := asrt h73
    refine RJ.rel (d := (some 31)) (ef := ⟨.str (s69 ++ ([101] : List UInt8)), [], []⟩) (ef' := ⟨.str (s69 ++ ([101] : List UInt8)), [], []⟩) (c := room (s69.length + ([101] : List UInt8).length)) (tr2 := []) (H2 := [.box (encSt28 x0)]) (by kernel_rfl) hm (fun hc => rfl) (by kernel_rfl) ?_
    refine kC 2 [2,31,33] ?_
    obtain ⟨y79, hy80, h81⟩ := bindS h78
    refine RJ.call0 (d := (some 34)) (f := 45) (args := [.int .i64 x0.E_]) (v := .str y79) (tr2 := []) (by kernel_rfl) (by kernel_rfl) (.cons (Le.refl _) .nil) (exergueref05_Number_ok big hy80) (by kernel_rfl) ?_
    obtain ⟨hm, h82⟩ := asrt h81
    refine RJ.rel (d := (some 35)) (ef := ⟨.str ((s69 ++ ([101] : List UInt8)) ++ y79), [], []⟩) (ef' := ⟨.str ((s69 ++ ([101] : List UInt8)) ++ y79), [], []⟩) (c := room ((s69 ++ ([101] : List UInt8)).length + y79.length)) (tr2 := []) (H2 := [.box (encSt28 x0)]) (by kernel_rfl) hm (fun hc => rfl) (by kernel_rfl) ?_
    refine kC 1 [2] ?_
    refine kEN ?_
    refine kX ?_
    obtain rfl := oi h82
    exact kZ hFn hFH hFD

def exerguelaw17_shown  : Option (Bool) :=
 (Option.bind exerguelaw17_latin fun y1 => (Option.bind (shape_Write y1 (⟨([] : List St106), ([] : List St106), ([] : List St106), ([] : List St106), false, 3, 1, 2, 2, 3, 3, 0, 0, 0, false, 0, 0⟩ : St25) (-1) (⟨false, ([1, 2, 3, 4, 5] : List Int), (-1)⟩ : St28)) fun y4 => (Option.bind exerguelaw17_latin fun y7 => (Option.bind (shape_Read y7 (⟨([] : List St106), ([] : List St106), ([] : List St106), ([] : List St106), false, 3, 1, 2, 2, 3, 3, 0, 0, 0, false, 0, 0⟩ : St25) y4) fun y10 => (Option.bind (shape_Round (⟨([] : List St106), ([] : List St106), ([] : List St106), ([] : List St106), false, 3, 1, 2, 2, 3, 3, 0, 0, 0, false, 0, 0⟩ : St25) (-1) (⟨false, ([1, 2, 5] : List Int), (-3)⟩ : St28) 6) fun y13 => (Option.bind (bif ((runesS y4) == ([49, 44, 50, 51, 52, 46, 53, 48] : List UInt8)) then (bif (decide (y10.2 = 0)) then (Option.bind (exergueref05_Text y10.1) fun y45 => (bif (y45 == ([49, 50, 51, 52, 53, 101, 45, 49] : List UInt8)) then (bif (decide (y13.2 = 0)) then (Option.bind (exergueref05_Text y13.1) fun y54 => (some (y54 == ([49, 50, 101, 45, 50] : List UInt8)))) else (some false)) else (some false))) else (some false)) else (some false)) fun (s34 : Bool) => (some s34)))))))
theorem exerguelaw17_shown_ok  {r : Bool} (h : exerguelaw17_shown = some r) : SC Tryz.prog 5 [] [] (.bool r) [] := by
 refine kFn (fn := Tryz.f5) (fun F hFn hFH hFD => ?_)
 unfold exerguelaw17_shown at h
 refine kSR ?_
 refine kC 1 [0] ?_
 refine kEN ?_
 refine kSR ?_
 refine kC 3 [0,1] ?_
 refine kEN ?_
 refine kS ?_
 refine J.keep [0, 1] (L2 := [(0, .bool false), (1, .ptr 0 0)]) (by kernel_rfl) ?_
 refine K.draw (by kernel_rfl) (by kernel_rfl) (by kernel_rfl) (H2 := [.box [.nl, .nl, .nl, .nl, .bool false, .int .i64 3, .int .i64 1, .int .i64 2, .int .i64 2, .int .i64 3, .int .i64 3, .int .i64 0, .int .i64 0, .int .i64 0, .bool false, .int .i32 0, .int .i64 0], .res, .res, .res]) (by kernel_rfl) (n := 1) (by kernel_rfl) ?_
 obtain ⟨y1, hy2, h3⟩ := bindS h
 refine RJ.call0 (d := (some 8)) (f := 20) (args := []) (v := .agg (encSt22 y1)) (tr2 := [([], [2, 3])]) (by kernel_rfl) (by kernel_rfl) .nil (exerguelaw17_latin_ok hy2) (by kernel_rfl) ?_
 refine kD 1 ?_
 refine RJ.relZ (d := (some 10)) (ef := ⟨.lst ([1, 2, 3, 4, 5] : List Int).length 1 (([1, 2, 3, 4, 5] : List Int).flatMap (encI .u8)), [], [(2, .vec ([1, 2, 3, 4, 5] : List Int).length 1 5 (([1, 2, 3, 4, 5] : List Int).flatMap (encI .u8))), (2, .gone)]⟩) (ef' := ⟨.lst ([1, 2, 3, 4, 5] : List Int).length 1 (([1, 2, 3, 4, 5] : List Int).flatMap (encI .u8)), [], [(2, .vec ([1, 2, 3, 4, 5] : List Int).length 1 5 (([1, 2, 3, 4, 5] : List Int).flatMap (encI .u8))), (2, .gone)]⟩) (c := true) (tr2 := [([], [2, 3]), ([0, 1], []), ([], [4, 5, 4, 5, 4, 5])]) (H2 := [.box [.nl, .nl, .nl, .nl, .bool false, .int .i64 3, .int .i64 1, .int .i64 2, .int .i64 2, .int .i64 3, .int .i64 3, .int .i64 0, .int .i64 0, .int .i64 0, .bool false, .int .i32 0, .int .i64 0], .res, .gone, .res]) (by kernel_rfl) rfl (fun hc => rfl) (by kernel_rfl) ?_
 refine RJ.segD 1 (tr2 := [([], [2, 3]), ([0, 1], []), ([], [4, 5, 4, 5, 4, 5]), ([], [])]) (L2 := [(11, .agg [.bool false, lsv (encI .u8) 1 ([1, 2, 3, 4, 5] : List Int), .int .i64 (-1)]), (10, lsv (encI .u8) 1 ([1, 2, 3, 4, 5] : List Int)), (9, .agg [.nl, .nl, .nl, .nl, .bool false, .int .i64 3, .int .i64 1, .int .i64 2, .int .i64 2, .int .i64 3, .int .i64 3, .int .i64 0, .int .i64 0, .int .i64 0, .bool false, .int .i32 0, .int .i64 0]), (8, .agg (encSt22 y1)), (0, .bool false), (1, .ptr 0 0)]) (H2 := [.box [.nl, .nl, .nl, .nl, .bool false, .int .i64 3, .int .i64 1, .int .i64 2, .int .i64 2, .int .i64 3, .int .i64 3, .int .i64 0, .int .i64 0, .int .i64 0, .bool false, .int .i32 0, .int .i64 0], .res, .gone, .res]) (by kernel_rfl) ?_
 obtain ⟨y4, hy5, h6⟩ := bindS h3
 refine RJ.call0 (d := (some 12)) (f := 16) (args := [.agg (encSt22 y1), .agg [.nl, .nl, .nl, .nl, .bool false, .int .i64 3, .int .i64 1, .int .i64 2, .int .i64 2, .int .i64 3, .int .i64 3, .int .i64 0, .int .i64 0, .int .i64 0, .bool false, .int .i32 0, .int .i64 0], .int .i64 (-1), .agg [.bool false, lsv (encI .u8) 1 ([1, 2, 3, 4, 5] : List Int), .int .i64 (-1)]]) (v := lsv (encI .i32) 1 y4) (tr2 := [([], [2, 3]), ([0, 1], []), ([], [4, 5, 4, 5, 4, 5]), ([], []), ([], [6, 7])]) (by kernel_rfl) (by kernel_rfl) (.cons (Le.refl _) (.cons (Le.agg (.cons (Le.nl _) (.cons (Le.nl _) (.cons (Le.nl _) (.cons (Le.nl _) (.cons (Le.refl _) (.cons (Le.refl _) (.cons (Le.refl _) (.cons (Le.refl _) (.cons (Le.refl _) (.cons (Le.refl _) (.cons (Le.refl _) (.cons (Le.refl _) (.cons (Le.refl _) (.cons (Le.refl _) (.cons (Le.refl _) (.cons (Le.refl _) (.cons (Le.refl _) .nil)))))))))))))))))) (.cons (Le.refl _) (.cons (Le.refl _) .nil)))) (shape_Write_ok hy5) (by kernel_rfl) ?_
 refine kD 1 ?_
 refine kEN ?_
 refine kS ?_
 refine J.keep [0, 1, 2] (L2 := [(0, .bool false), (1, .ptr 0 0), (2, lsv (encI .i32) 1 y4)]) (by kernel_rfl) ?_
 refine K.draw (by kernel_rfl) (by kernel_rfl) (by kernel_rfl) (H2 := [.box [.nl, .nl, .nl, .nl, .bool false, .int .i64 3, .int .i64 1, .int .i64 2, .int .i64 2, .int .i64 3, .int .i64 3, .int .i64 0, .int .i64 0, .int .i64 0, .bool false, .int .i32 0, .int .i64 0], .res, .gone, .res, .res, .res, .res]) (by kernel_rfl) (n := 4) (by kernel_rfl) ?_
 obtain ⟨y7, hy8, h9⟩ := bindS h6
 refine RJ.call0 (d := (some 14)) (f := 20) (args := []) (v := .agg (encSt22 y7)) (tr2 := [([], [8, 9])]) (by kernel_rfl) (by kernel_rfl) .nil (exerguelaw17_latin_ok hy8) (by kernel_rfl) ?_
 refine kD 2 ?_
 obtain ⟨y10, hy11, h12⟩ := bindS h9
 refine RJ.call0 (d := (some 17)) (f := 18) (args := [.agg (encSt22 y7), .agg [.nl, .nl, .nl, .nl, .bool false, .int .i64 3, .int .i64 1, .int .i64 2, .int .i64 2, .int .i64 3, .int .i64 3, .int .i64 0, .int .i64 0, .int .i64 0, .bool false, .int .i32 0, .int .i64 0], lsv (encI .i32) 1 y4]) (v := .tup [.agg (encSt28 y10.1), .int .i64 y10.2]) (tr2 := [([], [8, 9]), ([0, 1], []), ([], []), ([], [10, 11])]) (by kernel_rfl) (by kernel_rfl) (.cons (Le.refl _) (.cons (Le.agg (.cons (Le.nl _) (.cons (Le.nl _) (.cons (Le.nl _) (.cons (Le.nl _) (.cons (Le.refl _) (.cons (Le.refl _) (.cons (Le.refl _) (.cons (Le.refl _) (.cons (Le.refl _) (.cons (Le.refl _) (.cons (Le.refl _) (.cons (Le.refl _) (.cons (Le.refl _) (.cons (Le.refl _) (.cons (Le.refl _) (.cons (Le.refl _) (.cons (Le.refl _) .nil)))))))))))))))))) (.cons (Le.refl _) .nil))) (shape_Read_ok hy11) (by kernel_rfl) ?_
 refine kD 6 ?_
 refine kEN ?_
 refine kSR ?_
 refine RJ.seg 3 [0, 2, 3, 4, 21, 23] (L2 := [(0, .bool false), (2, lsv (encI .i32) 1 y4), (3, .ptr 6 0), (4, .int .i64 y10.2), (21, .agg [.nl, .nl, .nl, .nl, .bool false, .int .i64 3, .int .i64 1, .int .i64 2, .int .i64 2, .int .i64 3, .int .i64 3, .int .i64 0, .int .i64 0, .int .i64 0, .bool false, .int .i32 0, .int .i64 0]), (23, .agg [.bool false, .vc 7, .int .i64 (-3)])]) (H2 := [.box [.nl, .nl, .nl, .nl, .bool false, .int .i64 3, .int .i64 1, .int .i64 2, .int .i64 2, .int .i64 3, .int .i64 3, .int .i64 0, .int .i64 0, .int .i64 0, .bool false, .int .i32 0, .int .i64 0], .res, .gone, .res, .res, .res, .box (encSt28 y10.1), vecL (encI .u8) 1 5 ([1, 2, 5] : List Int)]) (by kernel_rfl) ?_
 obtain ⟨y13, hy14, h15⟩ := bindS h12
 refine RJ.wk (Wk.freeze 7 (n := ([1, 2, 5] : List Int).length) (k := 1) (e := 5) (cs := ([1, 2, 5] : List Int).flatMap (encI .u8)) (by kernel_rfl)) ?_
 refine RJ.call0 (d := (some 24)) (f := 9) (args := [.agg [.nl, .nl, .nl, .nl, .bool false, .int .i64 3, .int .i64 1, .int .i64 2, .int .i64 2, .int .i64 3, .int .i64 3, .int .i64 0, .int .i64 0, .int .i64 0, .bool false, .int .i32 0, .int .i64 0], .int .i64 (-1), .agg [.bool false, lsv (encI .u8) 1 ([1, 2, 5] : List Int), .int .i64 (-3)], .int .i64 6]) (v := .tup [.agg (encSt28 y13.1), .int .i64 y13.2]) (tr2 := []) (by kernel_rfl) (by kernel_rfl) (.cons (Le.agg (.cons (Le.nl _) (.cons (Le.nl _) (.cons (Le.nl _) (.cons (Le.nl _) (.cons (Le.refl _) (.cons (Le.refl _) (.cons (Le.refl _) (.cons (Le.refl _) (.cons (Le.refl _) (.cons (Le.refl _) (.cons (Le.refl _) (.cons (Le.refl _) (.cons (Le.refl _) (.cons (Le.refl _) (.cons (Le.refl _) (.cons (Le.refl _) (.cons (Le.refl _) .nil)))))))))))))))))) (.cons (Le.refl _) (.cons (Le.refl _) (.cons (Le.refl _) .nil)))) (shape_Round_ok hy14) (by kernel_rfl) ?_
 refine kC 6 [0,2,3,4,5,6] ?_
 refine kEN ?_
 obtain ⟨s34, hy36, h38⟩ := bindS h15
 refine K.cutN (by kernel_rfl) (fun (s34 : Bool) => ([(0, .bool s34)], [])) s34 ?_ ?_
 ·refine kR ?_
  refine kC 1 [0,3,4,5,6,27] ?_
  refine RJ.rel (d := (some 28)) (ef := ⟨.str ((y4.flatMap (encI .i32)).flatMap Go.Sy.runeB), [], []⟩) (ef' := ⟨.str (runesS y4), [], []⟩) (c := (y4.flatMap (encI .i32)).all isRuneS) (tr2 := []) (H2 := [.box [.nl, .nl, .nl, .nl, .bool false, .int .i64 3, .int .i64 1, .int .i64 2, .int .i64 2, .int .i64 3, .int .i64 3, .int .i64 0, .int .i64 0, .int .i64 0, .bool false, .int .i32 0, .int .i64 0], .res, .gone, .res, .res, .res, .box (encSt28 y10.1), .gone, .box (encSt28 y13.1)]) (by kernel_rfl) (allRune y4) (fun hc => N.toRStr) (by kernel_rfl) ?_
  refine kC 2 [0,3,4,5,6,30] ?_
  refine RJ.caseB 30 (b := ((runesS y4) == ([49, 44, 50, 51, 52, 46, 53, 48] : List UInt8))) (by kernel_rfl) (fun hb39 => ?_) (fun hb39 => ?_)
  ·have h40 := condT hb39 hy36
   refine RJ.seg 4 [0, 3, 5, 6, 34] (L2 := [(0, .bool false), (3, .ptr 6 0), (5, .ptr 8 0), (6, .int .i64 y13.2), (34, .bool (decide (y10.2 = 0)))]) (H2 := [.box [.nl, .nl, .nl, .nl, .bool false, .int .i64 3, .int .i64 1, .int .i64 2, .int .i64 2, .int .i64 3, .int .i64 3, .int .i64 0, .int .i64 0, .int .i64 0, .bool false, .int .i32 0, .int .i64 0], .res, .gone, .res, .res, .res, .box (encSt28 y10.1), .gone, .box (encSt28 y13.1)]) (by kernel_rfl) ?_
   refine RJ.caseB 34 (b := (decide (y10.2 = 0))) (by kernel_rfl) (fun hb42 => ?_) (fun hb42 => ?_)
   ·have h43 := condT hb42 h40
    refine kC 1 [0,5,6,34,35] ?_
    obtain ⟨y45, hy46, h47⟩ := bindS h43
    refine RJ.call0 (d := (some 36)) (f := 21) (args := [.agg (encSt28 y10.1)]) (v := .str y45) (tr2 := []) (by kernel_rfl) (by kernel_rfl) (.cons (Le.refl _) .nil) (exergueref05_Text_ok hy46) (by kernel_rfl) ?_
    refine kC 3 [0,5,6,39] ?_
    refine RJ.caseB 39 (b := (y45 == ([49, 50, 51, 52, 53, 101, 45, 49] : List UInt8))) (by kernel_rfl) (fun hb48 => ?_) (fun hb48 => ?_)
    ·have h49 := condT hb48 h47
     refine kC 4 [0,5,43] ?_
     refine RJ.caseB 43 (b := (decide (y13.2 = 0))) (by kernel_rfl) (fun hb51 => ?_) (fun hb51 => ?_)
     ·have h52 := condT hb51 h49
      refine RJ.seg 1 [0, 43, 44] (L2 := [(0, .bool false), (43, .bool true), (44, .agg (encSt28 y13.1))]) (H2 := [.box [.nl, .nl, .nl, .nl, .bool false, .int .i64 3, .int .i64 1, .int .i64 2, .int .i64 2, .int .i64 3, .int .i64 3, .int .i64 0, .int .i64 0, .int .i64 0, .bool false, .int .i32 0, .int .i64 0], .res, .gone, .res, .res, .res, .box (encSt28 y10.1), .gone, .box (encSt28 y13.1)]) (by kernel_rfl) ?_
      obtain ⟨y54, hy55, h56⟩ := bindS h52
      refine RJ.call0 (d := (some 45)) (f := 21) (args := [.agg (encSt28 y13.1)]) (v := .str y54) (tr2 := []) (by kernel_rfl) (by kernel_rfl) (.cons (Le.refl _) .nil) (exergueref05_Text_ok hy55) (by kernel_rfl) ?_
      refine kC 3 [0] ?_
      refine kE ?_
      obtain rfl := oi h56
      refine PJ.wk (Wk.sel (L2 := [(0, .bool (y54 == ([49, 50, 101, 45, 50] : List UInt8)))]) (H2 := []) 0 (by rw [hFH]; rfl) hFD [] (by kernel_rfl) (by kernel_rfl) (by decide) (by kernel_rfl) (by kernel_rfl) (by kernel_rfl) (by kernel_rfl)) ?_
      exact kN [0]
     ·have h53 := condF hb51 h49
      refine RJ.seg 5 [0] (L2 := [(0, .bool false)]) (H2 := [.box [.nl, .nl, .nl, .nl, .bool false, .int .i64 3, .int .i64 1, .int .i64 2, .int .i64 2, .int .i64 3, .int .i64 3, .int .i64 0, .int .i64 0, .int .i64 0, .bool false, .int .i32 0, .int .i64 0], .res, .gone, .res, .res, .res, .box (encSt28 y10.1), .gone, .box (encSt28 y13.1)]) (by kernel_rfl) ?_
      refine kE ?_
      obtain rfl := oi h53
      refine PJ.wk (Wk.sel (L2 := [(0, .bool false)]) (H2 := []) 0 (by rw [hFH]; rfl) hFD [] (by kernel_rfl) (by kernel_rfl) (by decide) (by kernel_rfl) (by kernel_rfl) (by kernel_rfl) (by kernel_rfl)) ?_
      exact kN [0]
    ·have h50 := condF hb48 h47
     refine kC 9 [0] ?_
     refine kE ?_
     obtain rfl := oi h50
     refine PJ.wk (Wk.sel (L2 := [(0, .bool false)]) (H2 := []) 0 (by rw [hFH]; rfl) hFD [] (by kernel_rfl) (by kernel_rfl) (by decide) (by kernel_rfl) (by kernel_rfl) (by kernel_rfl) (by kernel_rfl)) ?_
     exact kN [0]
   ·have h44 := condF hb42 h40
    refine kC 14 [0] ?_
    refine kE ?_
    obtain rfl := oi h44
    refine PJ.wk (Wk.sel (L2 := [(0, .bool false)]) (H2 := []) 0 (by rw [hFH]; rfl) hFD [] (by kernel_rfl) (by kernel_rfl) (by decide) (by kernel_rfl) (by kernel_rfl) (by kernel_rfl) (by kernel_rfl)) ?_
    exact kN [0]
  ·have h41 := condF hb39 hy36
   refine RJ.seg 18 [0] (L2 := [(0, .bool false)]) (H2 := [.box [.nl, .nl, .nl, .nl, .bool false, .int .i64 3, .int .i64 1, .int .i64 2, .int .i64 2, .int .i64 3, .int .i64 3, .int .i64 0, .int .i64 0, .int .i64 0, .bool false, .int .i32 0, .int .i64 0], .res, .gone, .res, .res, .res, .box (encSt28 y10.1), .gone, .box (encSt28 y13.1)]) (by kernel_rfl) ?_
   refine kE ?_
   obtain rfl := oi h41
   refine PJ.wk (Wk.sel (L2 := [(0, .bool false)]) (H2 := []) 0 (by rw [hFH]; rfl) hFD [] (by kernel_rfl) (by kernel_rfl) (by decide) (by kernel_rfl) (by kernel_rfl) (by kernel_rfl) (by kernel_rfl)) ?_
   exact kN [0]
 ·refine kX ?_
  obtain rfl := oi h38
  exact kZ hFn hFH hFD

def exergueref10_Few (x0 : St25) : Option (Bool) :=
 (some (decide (((IntKind.wrap .i64 (((IntKind.wrap .i64 (((IntKind.wrap .i64 ((x0.Pre_.length : Int) + (x0.Suf_.length : Int)))) + (x0.NPre_.length : Int)))) + (x0.NSuf_.length : Int)))) ≤ 300)))
theorem exergueref10_Few_ok {x0 : St25} {r : Bool} (h : exergueref10_Few x0 = some r) : SC Tryz.prog 22 [.agg (encSt25 x0)] [] (.bool r) [] := by
 refine kFn (fn := Tryz.f22) (fun F hFn hFH hFD => ?_)
 unfold exergueref10_Few at h
 refine kSR ?_
 refine kC 2 [1,2] ?_
 refine kEN ?_
 refine kSR ?_
 refine kC 17 [2] ?_
 refine kEN ?_
 refine kX ?_
 obtain rfl := oi h
 exact kZ hFn hFH hFD

def exergueref01_Is (x0 : Int) : Option (Bool) :=
 (Option.bind (bif (decide ((IntKind.wrap .i64 x0) ≥ 0)) then (bif (decide ((IntKind.wrap .i64 x0) < 55296)) then (some true) else (bif (decide ((IntKind.wrap .i64 x0) > 57343)) then (some ((decide ((IntKind.wrap .i64 x0) ≤ 1114111)))) else (some false))) else (bif (decide ((IntKind.wrap .i64 x0) > 57343)) then (some ((decide ((IntKind.wrap .i64 x0) ≤ 1114111)))) else (some false))) fun (s13 : Bool) => (some s13))
theorem exergueref01_Is_ok {x0 : Int} {r : Bool} (h : exergueref01_Is x0 = some r) : SC Tryz.prog 55 [.int .i32 x0] [] (.bool r) [] := by
 refine kFn (fn := Tryz.f55) (fun F hFn hFH hFD => ?_)
 unfold exergueref01_Is at h
 refine kSR ?_
 refine kC 1 [0,2] ?_
 refine kEN ?_
 refine kSR ?_
 refine kC 3 [2,3] ?_
 refine kEN ?_
 obtain ⟨s13, hy15, h17⟩ := bindS h
 refine K.cutN (by kernel_rfl) (fun (s13 : Bool) => ([(2, .bool s13)], [])) s13 ?_ ?_
 ·refine kR ?_
  refine kC 3 [2,3,8] ?_
  refine RJ.caseB 8 (b := (decide ((IntKind.wrap .i64 x0) ≥ 0))) (by kernel_rfl) (fun hb18 => ?_) (fun hb18 => ?_)
  ·have h19 := condT hb18 hy15
   refine RJ.seg 4 [2, 3, 12] (L2 := [(2, .bool false), (3, .int .i64 (IntKind.wrap .i64 x0)), (12, .bool ((decide ((IntKind.wrap .i64 x0) < 55296))))]) (H2 := []) (by kernel_rfl) ?_
   refine RJ.caseB 12 (b := (decide ((IntKind.wrap .i64 x0) < 55296))) (by kernel_rfl) (fun hb21 => ?_) (fun hb21 => ?_)
   ·have h22 := condT hb21 h19
    refine kC 8 [2] ?_
    refine kE ?_
    obtain rfl := oi h22
    exact kN [2]
   ·have h23 := condF hb21 h19
    refine kC 3 [2,3,12,15] ?_
    refine RJ.caseB 15 (b := (decide ((IntKind.wrap .i64 x0) > 57343))) (by kernel_rfl) (fun hb24 => ?_) (fun hb24 => ?_)
    ·have h25 := condT hb24 h23
     refine kC 5 [2] ?_
     refine kE ?_
     obtain rfl := oi h25
     exact kN [2]
    ·have h26 := condF hb24 h23
     refine kC 5 [2] ?_
     refine kE ?_
     obtain rfl := oi h26
     exact kN [2]
  ·have h20 := condF hb18 hy15
   refine RJ.seg 7 [2, 3, 12, 15] (L2 := [(2, .bool false), (3, .int .i64 (IntKind.wrap .i64 x0)), (12, .bool false), (15, .bool ((decide ((IntKind.wrap .i64 x0) > 57343))))]) (H2 := []) (by kernel_rfl) ?_
   refine RJ.caseB 15 (b := (decide ((IntKind.wrap .i64 x0) > 57343))) (by kernel_rfl) (fun hb27 => ?_) (fun hb27 => ?_)
   ·have h28 := condT hb27 h20
    refine kC 5 [2] ?_
    refine kE ?_
    obtain rfl := oi h28
    exact kN [2]
   ·have h29 := condF hb27 h20
    refine kC 5 [2] ?_
    refine kE ?_
    obtain rfl := oi h29
    exact kN [2]
 ·refine kX ?_
  obtain rfl := oi h17
  exact kZ hFn hFH hFD

def exergueref10_runes (x0 : List St106) : Option (Bool) :=
 (Option.bind (loopN (fun (s54 : Int) => (bif (decide (s54 < (x0.length : Int))) then (bif inR s54 x0.length then (Option.bind (exergueref01_Is ((nth x0 s54).R_)) fun y91 => (bif (!y91) then (some (.inr (.inr false))) else (some (.inl (IntKind.wrap .i64 (s54 + 1)))))) else none) else (some (.inr (.inl ()))))) big 0) (joinX fun (s49 : Unit) => (some true)))
theorem exergueref10_runes_ok {x0 : List St106} {r : Bool} (h : exergueref10_runes x0 = some r) : SC Tryz.prog 56 [lsv encSt106 2 x0] [] (.bool r) [] := by
 refine kFn (fn := Tryz.f56) (fun F hFn hFH hFD => ?_)
 unfold exergueref10_runes at h
 refine kSR ?_
 refine kC 1 [0,2] ?_
 refine kEN ?_
 obtain ⟨y50, hy51, h52⟩ := bindS h
 refine K.cutX (by kernel_rfl) (fun (s49 : Unit) => ([(2, .bool false)], [])) y50 ?_ (fun s49 hs => ?_)
 ·refine kSR ?_
  refine kC 1 [0,2,3] ?_
  refine kEN ?_
  refine K.block 0 (by kernel_rfl) ?_
  refine K.loop (by kernel_rfl) (fun (s54 : Int) => ([(0, lsv encSt106 2 x0), (2, .bool false), (3, .int .i64 s54)], [])) hy51 [0, 2, 3] (by kernel_rfl) (by kernel_rfl) (fun s54 x86 hs85 => ?_)
  refine kS ?_
  refine kSR ?_
  refine kC 4 [0,2,3,8] ?_
  refine kEN ?_
  refine J.caseB 8 (b := (decide (s54 < (x0.length : Int)))) (by kernel_rfl) (fun hb87 => ?_) (fun hb87 => ?_)
  ·have h88 := condT hb87 hs85
   refine kT ?_
   refine kK ?_
   refine PJ.next ?_
   refine kS ?_
   refine K.block 1 (by kernel_rfl) ?_
   refine kSR ?_
   refine kC 2 [0,2,3,11,12] ?_
   obtain ⟨hm, h90⟩ := asrt h88
   refine RJ.rel (d := (some 13)) (ef := ⟨.ep (((x0.flatMap encSt106).drop ((s54 : Int).toNat * 2)).take 2), [], []⟩) (ef' := ⟨.ep (encSt106 (nth x0 s54)), [], []⟩) (c := inR s54 x0.length) (tr2 := []) (H2 := []) (by kernel_rfl) hm (fun hc => N.idx encSt106_len hc) (by kernel_rfl) ?_
   refine kC 2 [0,2,3,15] ?_
   obtain ⟨y91, hy92, h93⟩ := bindS h90
   refine RJ.call0 (d := (some 16)) (f := 55) (args := [.int .i32 ((nth x0 s54).R_)]) (v := .bool y91) (tr2 := []) (by kernel_rfl) (by kernel_rfl) (.cons (Le.refl _) .nil) (exergueref01_Is_ok hy92) (by kernel_rfl) ?_
   refine RJ.seg 1 [0, 2, 3, 4] (L2 := [(0, lsv encSt106 2 x0), (2, .bool false), (3, .int .i64 s54), (4, .bool y91)]) (H2 := []) (by kernel_rfl) ?_
   refine kEN ?_
   refine kSR ?_
   refine kC 2 [0,2,3,18] ?_
   refine kEN ?_
   refine J.caseB 18 (b := (!y91)) (by kernel_rfl) (fun hb94 => ?_) (fun hb94 => ?_)
   ·have h95 := condT hb94 h93
    refine kT ?_
    refine kSR ?_
    refine kC 1 [0,2,3] ?_
    refine kEN ?_
    refine kX ?_
    refine PJ.blockRet ?_
    refine PJ.passRet ?_
    obtain rfl := oi h95
    refine PJ.loopOut (fun e => nomatch e) (fun he99 => ?_)
    have h97 := congrArg some he99
    refine PJ.blockRet ?_
    obtain rfl := oi h97
    have h98 := joinX_inr h52
    refine PJ.cutXr (fun e => nomatch e) ?_
    obtain rfl := oi h98
    exact kZ hFn hFH hFD
   ·have h96 := condF hb94 h93
    refine kF ?_
    refine kK ?_
    refine PJ.blockNormal ?_
    refine PJ.next ?_
    refine kR ?_
    refine kC 3 [0,2,3] ?_
    refine kE ?_
    obtain rfl := oi h96
    exact PJ.loopNext [0, 2, 3] (by kernel_rfl) (by kernel_rfl)
  ·have h89 := condF hb87 hs85
   refine kF ?_
   refine K.exit 0 (by kernel_rfl) ?_
   refine PJ.passExit ?_
   obtain rfl := oi h89
   refine PJ.loopOut (fun e => nomatch e) (fun he101 => ?_)
   have h100 := congrArg some he101
   refine PJ.blockOut ?_
   obtain rfl := oi h100
   exact PJ.cutXl [2] (by kernel_rfl) (by kernel_rfl)
 ·subst hs
  have h53 := joinX_inl h52
  refine kSR ?_
  refine kC 1 [2] ?_
  refine kEN ?_
  refine kX ?_
  obtain rfl := oi h53
  exact kZ hFn hFH hFD

def exergueref01_Size (x0 : Int) : Option (Int) :=
 (Option.bind (exergueref01_Is x0) fun y1 => (bif (!y1) then (some 0) else (bif (decide (x0 < 128)) then (some 1) else (bif (decide (x0 < 2048)) then (some 2) else (bif (decide (x0 < 65536)) then (some 3) else (some 4))))))
theorem exergueref01_Size_ok {x0 : Int} {r : Int} (h : exergueref01_Size x0 = some r) : SC Tryz.prog 106 [.int .i32 x0] [] (.int .i64 r) [] := by
 refine kFn (fn := Tryz.f106) (fun F hFn hFH hFD => ?_)
 unfold exergueref01_Size at h
 refine kSR ?_
 refine kC 1 [0,2] ?_
 refine kEN ?_
 refine kSR ?_
 refine kC 1 [0,2,4] ?_
 obtain ⟨y1, hy2, h3⟩ := bindS h
 refine RJ.call0 (d := (some 5)) (f := 55) (args := [.int .i32 x0]) (v := .bool y1) (tr2 := []) (by kernel_rfl) (by kernel_rfl) (.cons (Le.refl _) .nil) (exergueref01_Is_ok hy2) (by kernel_rfl) ?_
 refine kC 1 [0,2,3] ?_
 refine kEN ?_
 refine kS ?_
 refine kSR ?_
 refine RJ.seg 2 [0, 2, 7] (L2 := [(0, .int .i32 x0), (2, .int .i64 0), (7, .bool (!y1))]) (H2 := []) (by kernel_rfl) ?_
 refine kEN ?_
 refine J.caseB 7 (b := (!y1)) (by kernel_rfl) (fun hb4 => ?_) (fun hb4 => ?_)
 ·have h5 := condT hb4 h3
  refine kT ?_
  refine kSR ?_
  refine kC 1 [0,2] ?_
  refine kEN ?_
  refine kX ?_
  refine PJ.passRet ?_
  obtain rfl := oi h5
  exact kZ hFn hFH hFD
 ·have h6 := condF hb4 h3
  refine kF ?_
  refine kK ?_
  refine PJ.next ?_
  refine kS ?_
  refine kSR ?_
  refine kC 2 [0,2,9] ?_
  refine kEN ?_
  refine J.caseB 9 (b := (decide (x0 < 128))) (by kernel_rfl) (fun hb7 => ?_) (fun hb7 => ?_)
  ·have h8 := condT hb7 h6
   refine kT ?_
   refine kSR ?_
   refine kC 1 [0,2] ?_
   refine kEN ?_
   refine kX ?_
   refine PJ.passRet ?_
   obtain rfl := oi h8
   exact kZ hFn hFH hFD
  ·have h9 := condF hb7 h6
   refine kF ?_
   refine kK ?_
   refine PJ.next ?_
   refine kS ?_
   refine kSR ?_
   refine kC 2 [0,2,11] ?_
   refine kEN ?_
   refine J.caseB 11 (b := (decide (x0 < 2048))) (by kernel_rfl) (fun hb10 => ?_) (fun hb10 => ?_)
   ·have h11 := condT hb10 h9
    refine kT ?_
    refine kSR ?_
    refine kC 1 [0,2] ?_
    refine kEN ?_
    refine kX ?_
    refine PJ.passRet ?_
    obtain rfl := oi h11
    exact kZ hFn hFH hFD
   ·have h12 := condF hb10 h9
    refine kF ?_
    refine kK ?_
    refine PJ.next ?_
    refine kS ?_
    refine kSR ?_
    refine kC 2 [2,13] ?_
    refine kEN ?_
    refine J.caseB 13 (b := (decide (x0 < 65536))) (by kernel_rfl) (fun hb13 => ?_) (fun hb13 => ?_)
    ·have h14 := condT hb13 h12
     refine kT ?_
     refine kSR ?_
     refine RJ.seg 1 [2] (L2 := [(2, .int .i64 3)]) (H2 := []) (by kernel_rfl) ?_
     refine kEN ?_
     refine kX ?_
     refine PJ.passRet ?_
     obtain rfl := oi h14
     exact kZ hFn hFH hFD
    ·have h15 := condF hb13 h12
     refine kF ?_
     refine kK ?_
     refine PJ.next ?_
     refine kSR ?_
     refine RJ.seg 1 [2] (L2 := [(2, .int .i64 4)]) (H2 := []) (by kernel_rfl) ?_
     refine kEN ?_
     refine kX ?_
     obtain rfl := oi h15
     exact kZ hFn hFH hFD

def exergueref01_Bytes (x0 : Int) : Option (List Int) :=
 (Option.bind (exergueref01_Size x0) fun y1 => (bif (decide (y1 = 1)) then (some ([(IntKind.wrap .u8 (IntKind.wrap .i64 x0))] : List Int)) else (bif (decide (y1 = 2)) then (some ([(IntKind.wrap .u8 ((IntKind.wrap .i64 (192 + ((IntKind.wrap .i64 (Int.tdiv (IntKind.wrap .i64 x0) 64))))))), (IntKind.wrap .u8 ((IntKind.wrap .i64 (128 + (Int.tmod (IntKind.wrap .i64 x0) 64)))))] : List Int)) else (bif (decide (y1 = 3)) then (some ([(IntKind.wrap .u8 ((IntKind.wrap .i64 (224 + ((IntKind.wrap .i64 (Int.tdiv (IntKind.wrap .i64 x0) 4096))))))), (IntKind.wrap .u8 ((IntKind.wrap .i64 (128 + ((Int.tmod ((IntKind.wrap .i64 (Int.tdiv (IntKind.wrap .i64 x0) 64))) 64)))))), (IntKind.wrap .u8 ((IntKind.wrap .i64 (128 + (Int.tmod (IntKind.wrap .i64 x0) 64)))))] : List Int)) else (bif (decide (y1 = 4)) then (some ([(IntKind.wrap .u8 ((IntKind.wrap .i64 (240 + ((IntKind.wrap .i64 (Int.tdiv (IntKind.wrap .i64 x0) 262144))))))), (IntKind.wrap .u8 ((IntKind.wrap .i64 (128 + ((Int.tmod ((IntKind.wrap .i64 (Int.tdiv (IntKind.wrap .i64 x0) 4096))) 64)))))), (IntKind.wrap .u8 ((IntKind.wrap .i64 (128 + ((Int.tmod ((IntKind.wrap .i64 (Int.tdiv (IntKind.wrap .i64 x0) 64))) 64)))))), (IntKind.wrap .u8 ((IntKind.wrap .i64 (128 + (Int.tmod (IntKind.wrap .i64 x0) 64)))))] : List Int)) else (some ([] : List Int)))))))
theorem exergueref01_Bytes_ok {x0 : Int} {r : List Int} (h : exergueref01_Bytes x0 = some r) : SC Tryz.prog 128 [.int .i32 x0] [] (lsv (encI .u8) 1 r) [] := by
 refine kFn (fn := Tryz.f128) (fun F hFn hFH hFD => ?_)
 unfold exergueref01_Bytes at h
 refine kSR ?_
 refine kC 1 [0,2] ?_
 refine kEN ?_
 refine kSR ?_
 refine kC 3 [0,2,3] ?_
 refine kEN ?_
 refine kS ?_
 refine kSR ?_
 refine kC 1 [2,3,6] ?_
 obtain ⟨y1, hy2, h3⟩ := bindS h
 refine RJ.call0 (d := (some 7)) (f := 106) (args := [.int .i32 x0]) (v := .int .i64 y1) (tr2 := []) (by kernel_rfl) (by kernel_rfl) (.cons (Le.refl _) .nil) (exergueref01_Size_ok hy2) (by kernel_rfl) ?_
 refine kEN ?_
 refine K.block 0 (by kernel_rfl) ?_
 refine kSR ?_
 refine RJ.seg 2 [2, 3, 7, 8] (L2 := [(2, .nl), (3, .int .i64 (IntKind.wrap .i64 x0)), (7, .int .i64 y1), (8, .bool (decide (y1 = 1)))]) (H2 := []) (by kernel_rfl) ?_
 refine kEN ?_
 refine J.caseB 8 (b := (decide (y1 = 1))) (by kernel_rfl) (fun hb4 => ?_) (fun hb4 => ?_)
 ·have h5 := condT hb4 h3
  refine kT ?_
  refine kSR ?_
  refine kC 4 [2] ?_
  refine kEN ?_
  refine kX ?_
  refine PJ.blockRet ?_
  refine PJ.passRet ?_
  obtain rfl := oi h5
  refine PJ.wk (Wk.freeze 0 (n := (([(IntKind.wrap .u8 (IntKind.wrap .i64 x0))] : List Int)).length) (k := 1) (e := 5) (cs := (([(IntKind.wrap .u8 (IntKind.wrap .i64 x0))] : List Int)).flatMap (encI .u8)) (by kernel_rfl)) ?_
  exact kZ hFn hFH hFD
 ·have h6 := condF hb4 h3
  refine kF ?_
  refine kSR ?_
  refine kC 2 [2,3,7,13] ?_
  refine kEN ?_
  refine J.caseB 13 (b := (decide (y1 = 2))) (by kernel_rfl) (fun hb7 => ?_) (fun hb7 => ?_)
  ·have h8 := condT hb7 h6
   refine kT ?_
   refine kSR ?_
   refine kC 10 [2] ?_
   refine kEN ?_
   refine kX ?_
   refine PJ.blockRet ?_
   refine PJ.passRet ?_
   obtain rfl := oi h8
   refine PJ.wk (Wk.freeze 0 (n := (([(IntKind.wrap .u8 ((IntKind.wrap .i64 (192 + ((IntKind.wrap .i64 (Int.tdiv (IntKind.wrap .i64 x0) 64))))))), (IntKind.wrap .u8 ((IntKind.wrap .i64 (128 + (Int.tmod (IntKind.wrap .i64 x0) 64)))))] : List Int)).length) (k := 1) (e := 5) (cs := (([(IntKind.wrap .u8 ((IntKind.wrap .i64 (192 + ((IntKind.wrap .i64 (Int.tdiv (IntKind.wrap .i64 x0) 64))))))), (IntKind.wrap .u8 ((IntKind.wrap .i64 (128 + (Int.tmod (IntKind.wrap .i64 x0) 64)))))] : List Int)).flatMap (encI .u8)) (by kernel_rfl)) ?_
   exact kZ hFn hFH hFD
  ·have h9 := condF hb7 h6
   refine kF ?_
   refine kSR ?_
   refine kC 2 [2,3,7,24] ?_
   refine kEN ?_
   refine J.caseB 24 (b := (decide (y1 = 3))) (by kernel_rfl) (fun hb10 => ?_) (fun hb10 => ?_)
   ·have h11 := condT hb10 h9
    refine kT ?_
    refine kSR ?_
    refine kC 15 [2] ?_
    refine kEN ?_
    refine kX ?_
    refine PJ.blockRet ?_
    refine PJ.passRet ?_
    obtain rfl := oi h11
    refine PJ.wk (Wk.freeze 0 (n := (([(IntKind.wrap .u8 ((IntKind.wrap .i64 (224 + ((IntKind.wrap .i64 (Int.tdiv (IntKind.wrap .i64 x0) 4096))))))), (IntKind.wrap .u8 ((IntKind.wrap .i64 (128 + ((Int.tmod ((IntKind.wrap .i64 (Int.tdiv (IntKind.wrap .i64 x0) 64))) 64)))))), (IntKind.wrap .u8 ((IntKind.wrap .i64 (128 + (Int.tmod (IntKind.wrap .i64 x0) 64)))))] : List Int)).length) (k := 1) (e := 5) (cs := (([(IntKind.wrap .u8 ((IntKind.wrap .i64 (224 + ((IntKind.wrap .i64 (Int.tdiv (IntKind.wrap .i64 x0) 4096))))))), (IntKind.wrap .u8 ((IntKind.wrap .i64 (128 + ((Int.tmod ((IntKind.wrap .i64 (Int.tdiv (IntKind.wrap .i64 x0) 64))) 64)))))), (IntKind.wrap .u8 ((IntKind.wrap .i64 (128 + (Int.tmod (IntKind.wrap .i64 x0) 64)))))] : List Int)).flatMap (encI .u8)) (by kernel_rfl)) ?_
    exact kZ hFn hFH hFD
   ·have h12 := condF hb10 h9
    refine kF ?_
    refine kSR ?_
    refine kC 2 [2,3,40] ?_
    refine kEN ?_
    refine J.caseB 40 (b := (decide (y1 = 4))) (by kernel_rfl) (fun hb13 => ?_) (fun hb13 => ?_)
    ·have h14 := condT hb13 h12
     refine kT ?_
     refine kSR ?_
     refine RJ.seg 20 [2] (L2 := [(2, .vc 0)]) (H2 := [vecL (encI .u8) 1 5 (([(IntKind.wrap .u8 ((IntKind.wrap .i64 (240 + ((IntKind.wrap .i64 (Int.tdiv (IntKind.wrap .i64 x0) 262144))))))), (IntKind.wrap .u8 ((IntKind.wrap .i64 (128 + ((Int.tmod ((IntKind.wrap .i64 (Int.tdiv (IntKind.wrap .i64 x0) 4096))) 64)))))), (IntKind.wrap .u8 ((IntKind.wrap .i64 (128 + ((Int.tmod ((IntKind.wrap .i64 (Int.tdiv (IntKind.wrap .i64 x0) 64))) 64)))))), (IntKind.wrap .u8 ((IntKind.wrap .i64 (128 + (Int.tmod (IntKind.wrap .i64 x0) 64)))))] : List Int))]) (by kernel_rfl) ?_
     refine kEN ?_
     refine kX ?_
     refine PJ.blockRet ?_
     refine PJ.passRet ?_
     obtain rfl := oi h14
     refine PJ.wk (Wk.freeze 0 (n := (([(IntKind.wrap .u8 ((IntKind.wrap .i64 (240 + ((IntKind.wrap .i64 (Int.tdiv (IntKind.wrap .i64 x0) 262144))))))), (IntKind.wrap .u8 ((IntKind.wrap .i64 (128 + ((Int.tmod ((IntKind.wrap .i64 (Int.tdiv (IntKind.wrap .i64 x0) 4096))) 64)))))), (IntKind.wrap .u8 ((IntKind.wrap .i64 (128 + ((Int.tmod ((IntKind.wrap .i64 (Int.tdiv (IntKind.wrap .i64 x0) 64))) 64)))))), (IntKind.wrap .u8 ((IntKind.wrap .i64 (128 + (Int.tmod (IntKind.wrap .i64 x0) 64)))))] : List Int)).length) (k := 1) (e := 5) (cs := (([(IntKind.wrap .u8 ((IntKind.wrap .i64 (240 + ((IntKind.wrap .i64 (Int.tdiv (IntKind.wrap .i64 x0) 262144))))))), (IntKind.wrap .u8 ((IntKind.wrap .i64 (128 + ((Int.tmod ((IntKind.wrap .i64 (Int.tdiv (IntKind.wrap .i64 x0) 4096))) 64)))))), (IntKind.wrap .u8 ((IntKind.wrap .i64 (128 + ((Int.tmod ((IntKind.wrap .i64 (Int.tdiv (IntKind.wrap .i64 x0) 64))) 64)))))), (IntKind.wrap .u8 ((IntKind.wrap .i64 (128 + (Int.tmod (IntKind.wrap .i64 x0) 64)))))] : List Int)).flatMap (encI .u8)) (by kernel_rfl)) ?_
     exact kZ hFn hFH hFD
    ·have h15 := condF hb13 h12
     refine kF ?_
     refine kK ?_
     refine PJ.blockNormal ?_
     refine PJ.next ?_
     refine kSR ?_
     refine RJ.seg 1 [2] (L2 := [(2, .nl)]) (H2 := []) (by kernel_rfl) ?_
     refine kEN ?_
     refine kX ?_
     obtain rfl := oi h15
     refine PJ.res (v1 := .nl) (Le.nl _) ?_
     exact kZ hFn hFH hFD

def exergueref10_text (x0 : Int) : Option (List UInt8) :=
 (Option.bind (exergueref01_Bytes x0) fun y1 => (some (bytesS y1)))
theorem exergueref10_text_ok {x0 : Int} {r : List UInt8} (h : exergueref10_text x0 = some r) : SC Tryz.prog 110 [.int .i32 x0] [] (.str r) [] := by
 refine kFn (fn := Tryz.f110) (fun F hFn hFH hFD => ?_)
 unfold exergueref10_text at h
 refine kSR ?_
 refine kC 1 [0,2] ?_
 refine kEN ?_
 refine kSR ?_
 refine kC 1 [2,3] ?_
 obtain ⟨y1, hy2, h3⟩ := bindS h
 refine RJ.call0 (d := (some 4)) (f := 128) (args := [.int .i32 x0]) (v := lsv (encI .u8) 1 y1) (tr2 := []) (by kernel_rfl) (by kernel_rfl) (.cons (Le.refl _) .nil) (exergueref01_Bytes_ok hy2) (by kernel_rfl) ?_
 refine RJ.rel (d := (some 5)) (ef := ⟨.str ((y1.flatMap (encI .u8)).map Go.Sy.byteOf), [], []⟩) (ef' := ⟨.str (bytesS y1), [], []⟩) (c := (y1.flatMap (encI .u8)).all isByte) (tr2 := []) (H2 := []) (by kernel_rfl) (allByte y1) (fun hc => N.toStr) (by kernel_rfl) ?_
 refine kC 1 [2] ?_
 refine kEN ?_
 refine kX ?_
 obtain rfl := oi h3
 exact kZ hFn hFH hFD

def exergueref10_padded (x0 : St25) (x1 : Int) : Option (List UInt8) :=
 (bif (decide (x0.PadAt_ = x1)) then (Option.bind (exergueref10_text x0.Pad_) fun y4 => (bif room (([42] : List UInt8).length + y4.length) then (some (([42] : List UInt8) ++ y4)) else none)) else (some ([] : List UInt8)))
theorem exergueref10_padded_ok {x0 : St25} {x1 : Int} {r : List UInt8} (h : exergueref10_padded x0 x1 = some r) : SC Tryz.prog 85 [.agg (encSt25 x0), .int .i64 x1] [] (.str r) [] := by
 refine kFn (fn := Tryz.f85) (fun F hFn hFH hFD => ?_)
 unfold exergueref10_padded at h
 refine kSR ?_
 refine kC 2 [1,2,4] ?_
 refine kEN ?_
 refine kS ?_
 refine kSR ?_
 refine kC 4 [2,4,8] ?_
 refine kEN ?_
 refine J.caseB 8 (b := (decide (x0.PadAt_ = x1))) (by kernel_rfl) (fun hb1 => ?_) (fun hb1 => ?_)
 ·have h2 := condT hb1 h
  refine kT ?_
  refine kSR ?_
  refine kC 2 [4,10] ?_
  obtain ⟨y4, hy5, h6⟩ := bindS h2
  refine RJ.call0 (d := (some 11)) (f := 110) (args := [.int .i32 x0.Pad_]) (v := .str y4) (tr2 := []) (by kernel_rfl) (by kernel_rfl) (.cons (Le.refl _) .nil) (exergueref10_text_ok hy5) (by kernel_rfl) ?_
  obtain ⟨hm, h7⟩ := asrt h6
  refine RJ.rel (d := (some 12)) (ef := ⟨.str (([42] : List UInt8) ++ y4), [], []⟩) (ef' := ⟨.str (([42] : List UInt8) ++ y4), [], []⟩) (c := room (([42] : List UInt8).length + y4.length)) (tr2 := []) (H2 := [.box (encSt25 x0)]) (by kernel_rfl) hm (fun hc => rfl) (by kernel_rfl) ?_
  refine RJ.seg 1 [4] (L2 := [(4, .str (([42] : List UInt8) ++ y4))]) (H2 := [.box (encSt25 x0)]) (by kernel_rfl) ?_
  refine kEN ?_
  refine kX ?_
  refine PJ.passRet ?_
  obtain rfl := oi h7
  exact kZ hFn hFH hFD
 ·have h3 := condF hb1 h
  refine kF ?_
  refine kK ?_
  refine PJ.next ?_
  refine kSR ?_
  refine kC 1 [4] ?_
  refine kEN ?_
  refine kX ?_
  obtain rfl := oi h3
  exact kZ hFn hFH hFD

def exergueref10_Special (x0 : Int) : Option (Bool) :=
 (Option.bind (Option.bind (bif (decide (x0 ≥ 48)) then (bif (decide (x0 ≤ 57)) then (some true) else (some (decide (x0 = 164)))) else (some (decide (x0 = 164)))) fun (s33 : Bool) => (bif s33 then (some (.inr true)) else (some (.inl ())))) (joinX fun (s22 : Unit) => (Option.bind (loopN (fun (s92 : Int) => (bif (decide (s92 < 11)) then (bif inR s92 ([35, 64, 44, 46, 59, 42, 37, 45, 43, 39, 69] : List UInt8).length then (bif (decide (((IntKind.wrap .i32 ((((([35, 64, 44, 46, 59, 42, 37, 45, 43, 39, 69] : List UInt8).getD (s92 : Int).toNat 0).toNat : Nat) : Int)))) = x0)) then (some (.inr (.inr true))) else (some (.inl (IntKind.wrap .i64 (s92 + 1))))) else none) else (some (.inr (.inl ()))))) big 0) (joinX fun (s87 : Unit) => (some false)))))
theorem exergueref10_Special_ok {x0 : Int} {r : Bool} (h : exergueref10_Special x0 = some r) : SC Tryz.prog 111 [.int .i32 x0] [] (.bool r) [] := by
 refine kFn (fn := Tryz.f111) (fun F hFn hFH hFD => ?_)
 unfold exergueref10_Special at h
 refine kSR ?_
 refine kC 1 [0,2] ?_
 refine kEN ?_
 obtain ⟨y23, hy24, h25⟩ := bindS h
 refine K.cutX (by kernel_rfl) (fun (s22 : Unit) => ([(0, .int .i32 x0), (2, .bool false)], [])) y23 ?_ (fun s22 hs => ?_)
 ·obtain ⟨s33, hy35, h37⟩ := bindS hy24
  refine K.cutN (by kernel_rfl) (fun (s33 : Bool) => ([(0, .int .i32 x0), (2, .bool false), (13, .bool s33)], [])) s33 ?_ ?_
  ·refine kR ?_
   refine kC 3 [0,2,6] ?_
   refine RJ.caseB 6 (b := (decide (x0 ≥ 48))) (by kernel_rfl) (fun hb38 => ?_) (fun hb38 => ?_)
   ·have h39 := condT hb38 hy35
    refine kC 4 [0,2,10] ?_
    refine RJ.caseB 10 (b := (decide (x0 ≤ 57))) (by kernel_rfl) (fun hb41 => ?_) (fun hb41 => ?_)
    ·have h42 := condT hb41 h39
     refine RJ.seg 3 [0, 2, 13] (L2 := [(0, .int .i32 x0), (2, .bool false), (13, .bool true)]) (H2 := []) (by kernel_rfl) ?_
     refine kE ?_
     obtain rfl := oi h42
     exact kN [0, 2, 13]
    ·have h43 := condF hb41 h39
     refine RJ.seg 3 [0, 2, 13] (L2 := [(0, .int .i32 x0), (2, .bool false), (13, .bool (decide (x0 = 164)))]) (H2 := []) (by kernel_rfl) ?_
     refine kE ?_
     obtain rfl := oi h43
     exact kN [0, 2, 13]
   ·have h40 := condF hb38 hy35
    refine kC 7 [0,2,13] ?_
    refine kE ?_
    obtain rfl := oi h40
    exact kN [0, 2, 13]
  ·refine J.caseB 13 (b := s33) (by kernel_rfl) (fun hb44 => ?_) (fun hb44 => ?_)
   ·have h45 := condT hb44 h37
    refine kT ?_
    refine kSR ?_
    refine kC 1 [0,2] ?_
    refine kEN ?_
    refine kX ?_
    obtain rfl := oi h45
    have h47 := joinX_inr h25
    refine PJ.cutXr (fun e => nomatch e) ?_
    obtain rfl := oi h47
    exact kZ hFn hFH hFD
   ·have h46 := condF hb44 h37
    refine kF ?_
    refine kK ?_
    obtain rfl := oi h46
    exact PJ.cutXl [0, 2] (by kernel_rfl) (by kernel_rfl)
 ·subst hs
  have h26 := joinX_inl h25
  obtain ⟨y88, hy89, h90⟩ := bindS h26
  refine K.cutX (by kernel_rfl) (fun (s87 : Unit) => ([(2, .bool false)], [])) y88 ?_ (fun s87 hs => ?_)
  ·refine kSR ?_
   refine kC 1 [0,2,3] ?_
   refine kEN ?_
   refine K.block 0 (by kernel_rfl) ?_
   refine K.loop (by kernel_rfl) (fun (s92 : Int) => ([(0, .int .i32 x0), (2, .bool false), (3, .int .i64 s92)], [])) hy89 [0, 2, 3] (by kernel_rfl) (by kernel_rfl) (fun s92 x118 hs117 => ?_)
   refine kS ?_
   refine kSR ?_
   refine kC 2 [0,2,3,15] ?_
   refine kEN ?_
   refine J.caseB 15 (b := (decide (s92 < 11))) (by kernel_rfl) (fun hb119 => ?_) (fun hb119 => ?_)
   ·have h120 := condT hb119 hs117
    refine kT ?_
    refine kK ?_
    refine PJ.next ?_
    refine kS ?_
    refine K.block 1 (by kernel_rfl) ?_
    refine kSR ?_
    refine kC 1 [0,2,3,18] ?_
    obtain ⟨hm, h122⟩ := asrt h120
    refine RJ.rel (d := (some 19)) (ef := ⟨.int .u8 (((([35, 64, 44, 46, 59, 42, 37, 45, 43, 39, 69] : List UInt8).getD (s92 : Int).toNat 0).toNat : Nat) : Int), [], []⟩) (ef' := ⟨.int .u8 (((([35, 64, 44, 46, 59, 42, 37, 45, 43, 39, 69] : List UInt8).getD (s92 : Int).toNat 0).toNat : Nat) : Int), [], []⟩) (c := inR s92 ([35, 64, 44, 46, 59, 42, 37, 45, 43, 39, 69] : List UInt8).length) (tr2 := []) (H2 := []) (by kernel_rfl) hm (fun hc => rfl) (by kernel_rfl) ?_
    refine kC 3 [0,2,3,22] ?_
    refine kEN ?_
    refine J.caseB 22 (b := (decide (((IntKind.wrap .i32 ((((([35, 64, 44, 46, 59, 42, 37, 45, 43, 39, 69] : List UInt8).getD (s92 : Int).toNat 0).toNat : Nat) : Int)))) = x0))) (by kernel_rfl) (fun hb123 => ?_) (fun hb123 => ?_)
    ·have h124 := condT hb123 h122
     refine kT ?_
     refine kSR ?_
     refine RJ.seg 1 [0, 2, 3] (L2 := [(0, .int .i32 x0), (2, .bool true), (3, .int .i64 s92)]) (H2 := []) (by kernel_rfl) ?_
     refine kEN ?_
     refine kX ?_
     refine PJ.blockRet ?_
     refine PJ.passRet ?_
     obtain rfl := oi h124
     refine PJ.loopOut (fun e => nomatch e) (fun he128 => ?_)
     have h126 := congrArg some he128
     refine PJ.blockRet ?_
     obtain rfl := oi h126
     have h127 := joinX_inr h90
     refine PJ.cutXr (fun e => nomatch e) ?_
     obtain rfl := oi h127
     exact kZ hFn hFH hFD
    ·have h125 := condF hb123 h122
     refine kF ?_
     refine kK ?_
     refine PJ.blockNormal ?_
     refine PJ.next ?_
     refine kR ?_
     refine RJ.seg 3 [0, 2, 3] (L2 := [(0, .int .i32 x0), (2, .bool false), (3, .int .i64 (IntKind.wrap .i64 (s92 + 1)))]) (H2 := []) (by kernel_rfl) ?_
     refine kE ?_
     obtain rfl := oi h125
     exact PJ.loopNext [0, 2, 3] (by kernel_rfl) (by kernel_rfl)
   ·have h121 := condF hb119 hs117
    refine kF ?_
    refine K.exit 0 (by kernel_rfl) ?_
    refine PJ.passExit ?_
    obtain rfl := oi h121
    refine PJ.loopOut (fun e => nomatch e) (fun he130 => ?_)
    have h129 := congrArg some he130
    refine PJ.blockOut ?_
    obtain rfl := oi h129
    exact PJ.cutXl [2] (by kernel_rfl) (by kernel_rfl)
  ·subst hs
   have h91 := joinX_inl h90
   refine kSR ?_
   refine kC 1 [2] ?_
   refine kEN ?_
   refine kX ?_
   obtain rfl := oi h91
   exact kZ hFn hFH hFD

def exergueref10_written (x0 : List St106) : Option (List UInt8) :=
 (Option.bind (loopN (fun (s633 : (List UInt8) × Bool × Int) => (bif (decide (s633.2.2 < (x0.length : Int))) then (Option.bind (bif inR s633.2.2 x0.length then (Option.bind (exergueref10_Special ((nth x0 s633.2.2).R_)) fun y1160 => (Option.bind (bif inR s633.2.2 x0.length then (bif (decide (((nth x0 s633.2.2).Kind_) = 0)) then (bif inR s633.2.2 x0.length then (some ((decide (((nth x0 s633.2.2).R_) = 39)))) else none) else (some false)) else none) fun (s1168 : Bool) => (Option.bind (bif inR s633.2.2 x0.length then (bif (decide (((nth x0 s633.2.2).Kind_) = 0)) then (some y1160) else (some false)) else none) fun (s1182 : Bool) => (Option.bind (Option.bind (bif (!s1168) then (some (s1182 != s633.2.1)) else (some false)) fun (s1214 : Bool) => (bif s1214 then (bif room (s633.1.length + ([39] : List UInt8).length) then (some ((s633.1 ++ ([39] : List UInt8)), s1182)) else none) else (some (s633.1, s633.2.1)))) fun (s1206 : (List UInt8) × Bool) => (bif inR s633.2.2 x0.length then (bif (decide (((nth x0 s633.2.2).Kind_) = 0)) then (bif inR s633.2.2 x0.length then (Option.bind (exergueref10_text ((nth x0 s633.2.2).R_)) fun y1231 => (bif room (s1206.1.length + y1231.length) then (bif s1168 then (bif room ((s1206.1 ++ y1231).length + ([39] : List UInt8).length) then (some (((s1206.1 ++ y1231) ++ ([39] : List UInt8)), s1206.2)) else none) else (some ((s1206.1 ++ y1231), s1206.2))) else none)) else none) else (bif (decide (((nth x0 s633.2.2).Kind_) = 1)) then (bif room (s1206.1.length + ([45] : List UInt8).length) then (some ((s1206.1 ++ ([45] : List UInt8)), s1206.2)) else none) else (bif (decide (((nth x0 s633.2.2).Kind_) = 2)) then (bif room (s1206.1.length + ([43] : List UInt8).length) then (some ((s1206.1 ++ ([43] : List UInt8)), s1206.2)) else none) else (bif (decide (((nth x0 s633.2.2).Kind_) = 3)) then (bif room (s1206.1.length + ([37] : List UInt8).length) then (some ((s1206.1 ++ ([37] : List UInt8)), s1206.2)) else none) else (bif (decide (((nth x0 s633.2.2).Kind_) = 4)) then (Option.bind (exergueref10_text 164) fun y1254 => (bif room (s1206.1.length + y1254.length) then (some ((s1206.1 ++ y1254), s1206.2)) else none)) else (some (s1206.1, s1206.2))))))) else none))))) else none) fun (s1154 : (List UInt8) × Bool) => (some (.inl (s1154.1, s1154.2, (IntKind.wrap .i64 (s633.2.2 + 1)))))) else (some (.inr (s633.1, s633.2.1))))) big (([] : List UInt8), false, 0)) fun (s628 : (List UInt8) × Bool) => (Option.bind (bif s628.2 then (bif room (s628.1.length + ([39] : List UInt8).length) then (some (s628.1 ++ ([39] : List UInt8))) else none) else (some s628.1)) fun (s1264 : (List UInt8)) => (some s1264)))
theorem exergueref10_written_ok {x0 : List St106} {r : List UInt8} (h : exergueref10_written x0 = some r) : SC Tryz.prog 86 [lsv encSt106 2 x0] [] (.str r) [] := by
 refine kFn (fn := Tryz.f86) (fun F hFn hFH hFD => ?_)
 unfold exergueref10_written at h
 refine kSR ?_
 refine kC 1 [0,2] ?_
 refine kEN ?_
 refine kSR ?_
 refine kC 1 [0,2,3] ?_
 refine kEN ?_
 refine kSR ?_
 refine kC 1 [0,2,3,4] ?_
 refine kEN ?_
 obtain ⟨s628, hy630, h632⟩ := bindS h
 refine K.cutN (by kernel_rfl) (fun (s628 : (List UInt8) × Bool) => ([(2, .str ([] : List UInt8)), (3, .str s628.1), (4, .bool s628.2)], [])) s628 ?_ ?_
 ·refine kSR ?_
  refine RJ.seg 1 [0, 2, 3, 4, 5] (L2 := [(0, lsv encSt106 2 x0), (2, .str ([] : List UInt8)), (3, .str ([] : List UInt8)), (4, .bool false), (5, .int .i64 0)]) (H2 := []) (by kernel_rfl) ?_
  refine kEN ?_
  refine K.block 0 (by kernel_rfl) ?_
  refine K.loop (by kernel_rfl) (fun (s633 : (List UInt8) × Bool × Int) => ([(0, lsv encSt106 2 x0), (2, .str ([] : List UInt8)), (3, .str s633.1), (4, .bool s633.2.1), (5, .int .i64 s633.2.2)], [])) hy630 [0, 2, 3, 4, 5] (by kernel_rfl) (by kernel_rfl) (fun s633 x1051 hs1050 => ?_)
  refine kS ?_
  refine kSR ?_
  refine kC 4 [0,2,3,4,5,12] ?_
  refine kEN ?_
  refine J.caseB 12 (b := (decide (s633.2.2 < (x0.length : Int)))) (by kernel_rfl) (fun hb1052 => ?_) (fun hb1052 => ?_)
  ·have h1053 := condT hb1052 hs1050
   refine kT ?_
   refine kK ?_
   refine PJ.next ?_
   obtain ⟨s1154, hy1156, h1158⟩ := bindS h1053
   refine K.cutN (by kernel_rfl) (fun (s1154 : (List UInt8) × Bool) => ([(0, lsv encSt106 2 x0), (2, .str ([] : List UInt8)), (3, .str s1154.1), (4, .bool s1154.2), (5, .int .i64 s633.2.2)], [])) s1154 ?_ ?_
   ·refine K.block 1 (by kernel_rfl) ?_
    refine kSR ?_
    refine kC 2 [0,2,3,4,5,15,16] ?_
    obtain ⟨hm, h1159⟩ := asrt hy1156
    refine RJ.rel (d := (some 17)) (ef := ⟨.ep (((x0.flatMap encSt106).drop ((s633.2.2 : Int).toNat * 2)).take 2), [], []⟩) (ef' := ⟨.ep (encSt106 (nth x0 s633.2.2)), [], []⟩) (c := inR s633.2.2 x0.length) (tr2 := []) (H2 := []) (by kernel_rfl) hm (fun hc => N.idx encSt106_len hc) (by kernel_rfl) ?_
    refine kC 2 [0,2,3,4,5,19] ?_
    obtain ⟨y1160, hy1161, h1162⟩ := bindS h1159
    refine RJ.call0 (d := (some 20)) (f := 111) (args := [.int .i32 ((nth x0 s633.2.2).R_)]) (v := .bool y1160) (tr2 := []) (by kernel_rfl) (by kernel_rfl) (.cons (Le.refl _) .nil) (exergueref10_Special_ok hy1161) (by kernel_rfl) ?_
    refine RJ.seg 1 [0, 2, 3, 4, 5, 6] (L2 := [(0, lsv encSt106 2 x0), (2, .str ([] : List UInt8)), (3, .str s633.1), (4, .bool s633.2.1), (5, .int .i64 s633.2.2), (6, .bool y1160)]) (H2 := []) (by kernel_rfl) ?_
    refine kEN ?_
    obtain ⟨s1168, hy1170, h1172⟩ := bindS h1162
    refine K.cutN (by kernel_rfl) (fun (s1168 : Bool) => ([(0, lsv encSt106 2 x0), (2, .str ([] : List UInt8)), (3, .str s633.1), (4, .bool s633.2.1), (5, .int .i64 s633.2.2), (6, .bool y1160), (7, .bool s1168)], [])) s1168 ?_ ?_
    ·refine kR ?_
     refine kC 2 [0,2,3,4,5,6,21,22] ?_
     obtain ⟨hm, h1173⟩ := asrt hy1170
     refine RJ.rel (d := (some 23)) (ef := ⟨.ep (((x0.flatMap encSt106).drop ((s633.2.2 : Int).toNat * 2)).take 2), [], []⟩) (ef' := ⟨.ep (encSt106 (nth x0 s633.2.2)), [], []⟩) (c := inR s633.2.2 x0.length) (tr2 := []) (H2 := []) (by kernel_rfl) hm (fun hc => N.idx encSt106_len hc) (by kernel_rfl) ?_
     refine kC 4 [0,2,3,4,5,6,27] ?_
     refine RJ.caseB 27 (b := (decide (((nth x0 s633.2.2).Kind_) = 0))) (by kernel_rfl) (fun hb1174 => ?_) (fun hb1174 => ?_)
     ·have h1175 := condT hb1174 h1173
      refine kC 2 [0,2,3,4,5,6,27,28,29] ?_
      obtain ⟨hm, h1177⟩ := asrt h1175
      refine RJ.rel (d := (some 30)) (ef := ⟨.ep (((x0.flatMap encSt106).drop ((s633.2.2 : Int).toNat * 2)).take 2), [], []⟩) (ef' := ⟨.ep (encSt106 (nth x0 s633.2.2)), [], []⟩) (c := inR s633.2.2 x0.length) (tr2 := []) (H2 := []) (by kernel_rfl) hm (fun hc => N.idx encSt106_len hc) (by kernel_rfl) ?_
      refine RJ.seg 5 [0, 2, 3, 4, 5, 6, 7] (L2 := [(0, lsv encSt106 2 x0), (2, .str ([] : List UInt8)), (3, .str s633.1), (4, .bool s633.2.1), (5, .int .i64 s633.2.2), (6, .bool y1160), (7, .bool ((decide (((nth x0 s633.2.2).R_) = 39))))]) (H2 := []) (by kernel_rfl) ?_
      refine kE ?_
      obtain rfl := oi h1177
      exact kN [0, 2, 3, 4, 5, 6, 7]
     ·have h1176 := condF hb1174 h1173
      refine kC 8 [0,2,3,4,5,6,7] ?_
      refine kE ?_
      obtain rfl := oi h1176
      exact kN [0, 2, 3, 4, 5, 6, 7]
    ·obtain ⟨s1182, hy1184, h1186⟩ := bindS h1172
     refine K.cutN (by kernel_rfl) (fun (s1182 : Bool) => ([(0, lsv encSt106 2 x0), (2, .str ([] : List UInt8)), (3, .str s633.1), (4, .bool s633.2.1), (5, .int .i64 s633.2.2), (7, .bool s1168), (8, .bool s1182)], [])) s1182 ?_ ?_
     ·refine kR ?_
      refine kC 2 [0,2,3,4,5,6,7,35,36] ?_
      obtain ⟨hm, h1187⟩ := asrt hy1184
      refine RJ.rel (d := (some 37)) (ef := ⟨.ep (((x0.flatMap encSt106).drop ((s633.2.2 : Int).toNat * 2)).take 2), [], []⟩) (ef' := ⟨.ep (encSt106 (nth x0 s633.2.2)), [], []⟩) (c := inR s633.2.2 x0.length) (tr2 := []) (H2 := []) (by kernel_rfl) hm (fun hc => N.idx encSt106_len hc) (by kernel_rfl) ?_
      refine kC 4 [0,2,3,4,5,6,7,41] ?_
      refine RJ.caseB 41 (b := (decide (((nth x0 s633.2.2).Kind_) = 0))) (by kernel_rfl) (fun hb1188 => ?_) (fun hb1188 => ?_)
      ·have h1189 := condT hb1188 h1187
       refine kC 3 [0,2,3,4,5,7,8] ?_
       refine kE ?_
       obtain rfl := oi h1189
       exact kN [0, 2, 3, 4, 5, 7, 8]
      ·have h1190 := condF hb1188 h1187
       refine kC 3 [0,2,3,4,5,7,8] ?_
       refine kE ?_
       obtain rfl := oi h1190
       exact kN [0, 2, 3, 4, 5, 7, 8]
     ·obtain ⟨s1206, hy1208, h1210⟩ := bindS h1186
      refine K.cutN (by kernel_rfl) (fun (s1206 : (List UInt8) × Bool) => ([(0, lsv encSt106 2 x0), (2, .str ([] : List UInt8)), (3, .str s1206.1), (4, .bool s1206.2), (5, .int .i64 s633.2.2), (7, .bool s1168)], [])) s1206 ?_ ?_
      ·obtain ⟨s1214, hy1216, h1218⟩ := bindS hy1208
       refine K.cutN (by kernel_rfl) (fun (s1214 : Bool) => ([(0, lsv encSt106 2 x0), (2, .str ([] : List UInt8)), (3, .str s633.1), (4, .bool s633.2.1), (5, .int .i64 s633.2.2), (7, .bool s1168), (8, .bool s1182), (50, .bool s1214)], [])) s1214 ?_ ?_
       ·refine kR ?_
        refine kC 3 [0,2,3,4,5,7,8,46] ?_
        refine RJ.caseB 46 (b := (!s1168)) (by kernel_rfl) (fun hb1219 => ?_) (fun hb1219 => ?_)
        ·have h1220 := condT hb1219 hy1216
         refine kC 4 [0,2,3,4,5,7,8,50] ?_
         refine kE ?_
         obtain rfl := oi h1220
         exact kN [0, 2, 3, 4, 5, 7, 8, 50]
        ·have h1221 := condF hb1219 hy1216
         refine kC 4 [0,2,3,4,5,7,8,50] ?_
         refine kE ?_
         obtain rfl := oi h1221
         exact kN [0, 2, 3, 4, 5, 7, 8, 50]
       ·refine J.caseB 50 (b := s1214) (by kernel_rfl) (fun hb1222 => ?_) (fun hb1222 => ?_)
        ·have h1223 := condT hb1222 h1218
         refine kT ?_
         refine kSR ?_
         refine kC 1 [0,2,3,4,5,7,8,51] ?_
         obtain ⟨hm, h1225⟩ := asrt h1223
         refine RJ.rel (d := (some 52)) (ef := ⟨.str (s633.1 ++ ([39] : List UInt8)), [], []⟩) (ef' := ⟨.str (s633.1 ++ ([39] : List UInt8)), [], []⟩) (c := room (s633.1.length + ([39] : List UInt8).length)) (tr2 := []) (H2 := []) (by kernel_rfl) hm (fun hc => rfl) (by kernel_rfl) ?_
         refine kC 1 [0,2,3,4,5,7,8] ?_
         refine kEN ?_
         refine kR ?_
         refine kC 2 [0,2,3,4,5,7] ?_
         refine kE ?_
         obtain rfl := oi h1225
         exact kN [0, 2, 3, 4, 5, 7]
        ·have h1224 := condF hb1222 h1218
         refine kF ?_
         refine kK ?_
         obtain rfl := oi h1224
         exact kN [0, 2, 3, 4, 5, 7]
      ·refine kSR ?_
       refine kC 2 [0,2,3,4,5,7,54,55] ?_
       obtain ⟨hm, h1226⟩ := asrt h1210
       refine RJ.rel (d := (some 56)) (ef := ⟨.ep (((x0.flatMap encSt106).drop ((s633.2.2 : Int).toNat * 2)).take 2), [], []⟩) (ef' := ⟨.ep (encSt106 (nth x0 s633.2.2)), [], []⟩) (c := inR s633.2.2 x0.length) (tr2 := []) (H2 := []) (by kernel_rfl) hm (fun hc => N.idx encSt106_len hc) (by kernel_rfl) ?_
       refine kC 2 [0,2,3,4,5,7,58] ?_
       refine kEN ?_
       refine K.block 2 (by kernel_rfl) ?_
       refine kSR ?_
       refine kC 2 [0,2,3,4,5,7,58,59] ?_
       refine kEN ?_
       refine J.caseB 59 (b := (decide (((nth x0 s633.2.2).Kind_) = 0))) (by kernel_rfl) (fun hb1227 => ?_) (fun hb1227 => ?_)
       ·have h1228 := condT hb1227 h1226
        refine kT ?_
        refine kSR ?_
        refine RJ.seg 3 [0, 2, 3, 4, 5, 7, 61, 62, 63] (L2 := [(0, lsv encSt106 2 x0), (2, .str ([] : List UInt8)), (3, .str s1206.1), (4, .bool s1206.2), (5, .int .i64 s633.2.2), (7, .bool s1168), (61, .str s1206.1), (62, lsv encSt106 2 x0), (63, .int .i64 s633.2.2)]) (H2 := []) (by kernel_rfl) ?_
        obtain ⟨hm, h1230⟩ := asrt h1228
        refine RJ.rel (d := (some 64)) (ef := ⟨.ep (((x0.flatMap encSt106).drop ((s633.2.2 : Int).toNat * 2)).take 2), [], []⟩) (ef' := ⟨.ep (encSt106 (nth x0 s633.2.2)), [], []⟩) (c := inR s633.2.2 x0.length) (tr2 := []) (H2 := []) (by kernel_rfl) hm (fun hc => N.idx encSt106_len hc) (by kernel_rfl) ?_
        refine kC 2 [0,2,3,4,5,7,61,66] ?_
        obtain ⟨y1231, hy1232, h1233⟩ := bindS h1230
        refine RJ.call0 (d := (some 67)) (f := 110) (args := [.int .i32 ((nth x0 s633.2.2).R_)]) (v := .str y1231) (tr2 := []) (by kernel_rfl) (by kernel_rfl) (.cons (Le.refl _) .nil) (exergueref10_text_ok hy1232) (by kernel_rfl) ?_
        obtain ⟨hm, h1234⟩ := asrt h1233
        refine RJ.rel (d := (some 68)) (ef := ⟨.str (s1206.1 ++ y1231), [], []⟩) (ef' := ⟨.str (s1206.1 ++ y1231), [], []⟩) (c := room (s1206.1.length + y1231.length)) (tr2 := []) (H2 := []) (by kernel_rfl) hm (fun hc => rfl) (by kernel_rfl) ?_
        refine kC 1 [0,2,3,4,5,7] ?_
        refine kEN ?_
        refine kSR ?_
        refine kC 1 [0,2,3,4,5,69] ?_
        refine kEN ?_
        refine J.caseB 69 (b := s1168) (by kernel_rfl) (fun hb1235 => ?_) (fun hb1235 => ?_)
        ·have h1236 := condT hb1235 h1234
         refine kT ?_
         refine kR ?_
         refine RJ.seg 1 [0, 2, 3, 4, 5, 70] (L2 := [(0, lsv encSt106 2 x0), (2, .str ([] : List UInt8)), (3, .str (s1206.1 ++ y1231)), (4, .bool s1206.2), (5, .int .i64 s633.2.2), (70, .str (s1206.1 ++ y1231))]) (H2 := []) (by kernel_rfl) ?_
         obtain ⟨hm, h1238⟩ := asrt h1236
         refine RJ.rel (d := (some 71)) (ef := ⟨.str ((s1206.1 ++ y1231) ++ ([39] : List UInt8)), [], []⟩) (ef' := ⟨.str ((s1206.1 ++ y1231) ++ ([39] : List UInt8)), [], []⟩) (c := room ((s1206.1 ++ y1231).length + ([39] : List UInt8).length)) (tr2 := []) (H2 := []) (by kernel_rfl) hm (fun hc => rfl) (by kernel_rfl) ?_
         refine kC 1 [0,2,3,4,5] ?_
         refine kE ?_
         refine PJ.blockNormal ?_
         refine PJ.blockNormal ?_
         obtain rfl := oi h1238
         exact kN [0, 2, 3, 4, 5]
        ·have h1237 := condF hb1235 h1234
         refine kF ?_
         refine kK ?_
         refine PJ.blockNormal ?_
         refine PJ.blockNormal ?_
         obtain rfl := oi h1237
         exact kN [0, 2, 3, 4, 5]
       ·have h1229 := condF hb1227 h1226
        refine kF ?_
        refine kSR ?_
        refine RJ.seg 2 [0, 2, 3, 4, 5, 58, 72] (L2 := [(0, lsv encSt106 2 x0), (2, .str ([] : List UInt8)), (3, .str s1206.1), (4, .bool s1206.2), (5, .int .i64 s633.2.2), (58, .int .i64 ((nth x0 s633.2.2).Kind_)), (72, .bool ((decide (((nth x0 s633.2.2).Kind_) = 1))))]) (H2 := []) (by kernel_rfl) ?_
        refine kEN ?_
        refine J.caseB 72 (b := (decide (((nth x0 s633.2.2).Kind_) = 1))) (by kernel_rfl) (fun hb1239 => ?_) (fun hb1239 => ?_)
        ·have h1240 := condT hb1239 h1229
         refine kT ?_
         refine kR ?_
         refine kC 1 [0,2,3,4,5,74] ?_
         obtain ⟨hm, h1242⟩ := asrt h1240
         refine RJ.rel (d := (some 75)) (ef := ⟨.str (s1206.1 ++ ([45] : List UInt8)), [], []⟩) (ef' := ⟨.str (s1206.1 ++ ([45] : List UInt8)), [], []⟩) (c := room (s1206.1.length + ([45] : List UInt8).length)) (tr2 := []) (H2 := []) (by kernel_rfl) hm (fun hc => rfl) (by kernel_rfl) ?_
         refine kC 1 [0,2,3,4,5] ?_
         refine kE ?_
         refine PJ.blockNormal ?_
         refine PJ.blockNormal ?_
         obtain rfl := oi h1242
         exact kN [0, 2, 3, 4, 5]
        ·have h1241 := condF hb1239 h1229
         refine kF ?_
         refine kSR ?_
         refine kC 2 [0,2,3,4,5,58,76] ?_
         refine kEN ?_
         refine J.caseB 76 (b := (decide (((nth x0 s633.2.2).Kind_) = 2))) (by kernel_rfl) (fun hb1243 => ?_) (fun hb1243 => ?_)
         ·have h1244 := condT hb1243 h1241
          refine kT ?_
          refine kR ?_
          refine kC 1 [0,2,3,4,5,78] ?_
          obtain ⟨hm, h1246⟩ := asrt h1244
          refine RJ.rel (d := (some 79)) (ef := ⟨.str (s1206.1 ++ ([43] : List UInt8)), [], []⟩) (ef' := ⟨.str (s1206.1 ++ ([43] : List UInt8)), [], []⟩) (c := room (s1206.1.length + ([43] : List UInt8).length)) (tr2 := []) (H2 := []) (by kernel_rfl) hm (fun hc => rfl) (by kernel_rfl) ?_
          refine kC 1 [0,2,3,4,5] ?_
          refine kE ?_
          refine PJ.blockNormal ?_
          refine PJ.blockNormal ?_
          obtain rfl := oi h1246
          exact kN [0, 2, 3, 4, 5]
         ·have h1245 := condF hb1243 h1241
          refine kF ?_
          refine kSR ?_
          refine kC 2 [0,2,3,4,5,58,80] ?_
          refine kEN ?_
          refine J.caseB 80 (b := (decide (((nth x0 s633.2.2).Kind_) = 3))) (by kernel_rfl) (fun hb1247 => ?_) (fun hb1247 => ?_)
          ·have h1248 := condT hb1247 h1245
           refine kT ?_
           refine kR ?_
           refine kC 1 [0,2,3,4,5,82] ?_
           obtain ⟨hm, h1250⟩ := asrt h1248
           refine RJ.rel (d := (some 83)) (ef := ⟨.str (s1206.1 ++ ([37] : List UInt8)), [], []⟩) (ef' := ⟨.str (s1206.1 ++ ([37] : List UInt8)), [], []⟩) (c := room (s1206.1.length + ([37] : List UInt8).length)) (tr2 := []) (H2 := []) (by kernel_rfl) hm (fun hc => rfl) (by kernel_rfl) ?_
           refine RJ.seg 1 [0, 2, 3, 4, 5] (L2 := [(0, lsv encSt106 2 x0), (2, .str ([] : List UInt8)), (3, .str (s1206.1 ++ ([37] : List UInt8))), (4, .bool s1206.2), (5, .int .i64 s633.2.2)]) (H2 := []) (by kernel_rfl) ?_
           refine kE ?_
           refine PJ.blockNormal ?_
           refine PJ.blockNormal ?_
           obtain rfl := oi h1250
           exact kN [0, 2, 3, 4, 5]
          ·have h1249 := condF hb1247 h1245
           refine kF ?_
           refine kSR ?_
           refine kC 2 [0,2,3,4,5,84] ?_
           refine kEN ?_
           refine J.caseB 84 (b := (decide (((nth x0 s633.2.2).Kind_) = 4))) (by kernel_rfl) (fun hb1251 => ?_) (fun hb1251 => ?_)
           ·have h1252 := condT hb1251 h1249
            refine kT ?_
            refine kR ?_
            refine RJ.seg 1 [0, 2, 3, 4, 5, 86] (L2 := [(0, lsv encSt106 2 x0), (2, .str ([] : List UInt8)), (3, .str s1206.1), (4, .bool s1206.2), (5, .int .i64 s633.2.2), (86, .str s1206.1)]) (H2 := []) (by kernel_rfl) ?_
            obtain ⟨y1254, hy1255, h1256⟩ := bindS h1252
            refine RJ.call0 (d := (some 87)) (f := 110) (args := [.int .i32 164]) (v := .str y1254) (tr2 := []) (by kernel_rfl) (by kernel_rfl) (.cons (Le.refl _) .nil) (exergueref10_text_ok hy1255) (by kernel_rfl) ?_
            obtain ⟨hm, h1257⟩ := asrt h1256
            refine RJ.rel (d := (some 88)) (ef := ⟨.str (s1206.1 ++ y1254), [], []⟩) (ef' := ⟨.str (s1206.1 ++ y1254), [], []⟩) (c := room (s1206.1.length + y1254.length)) (tr2 := []) (H2 := []) (by kernel_rfl) hm (fun hc => rfl) (by kernel_rfl) ?_
            refine kC 1 [0,2,3,4,5] ?_
            refine kE ?_
            refine PJ.blockNormal ?_
            refine PJ.blockNormal ?_
            obtain rfl := oi h1257
            exact kN [0, 2, 3, 4, 5]
           ·have h1253 := condF hb1251 h1249
            refine kF ?_
            refine kK ?_
            refine PJ.blockNormal ?_
            refine PJ.blockNormal ?_
            obtain rfl := oi h1253
            exact kN [0, 2, 3, 4, 5]
   ·refine kR ?_
    refine kC 3 [0,2,3,4,5] ?_
    refine kE ?_
    obtain rfl := oi h1158
    exact PJ.loopNext [0, 2, 3, 4, 5] (by kernel_rfl) (by kernel_rfl)
  ·have h1054 := condF hb1052 hs1050
   refine kF ?_
   refine K.exit 0 (by kernel_rfl) ?_
   refine PJ.passExit ?_
   obtain rfl := oi h1054
   refine PJ.loopOut (fun e => nomatch e) (fun he1259 => ?_)
   have h1258 := congrArg some he1259
   refine PJ.blockOut ?_
   obtain rfl := oi h1258
   exact kN [2, 3, 4]
 ·obtain ⟨s1264, hy1266, h1268⟩ := bindS h632
  refine K.cutN (by kernel_rfl) (fun (s1264 : (List UInt8)) => ([(2, .str ([] : List UInt8)), (3, .str s1264)], [])) s1264 ?_ ?_
  ·refine kSR ?_
   refine kC 1 [2,3,89] ?_
   refine kEN ?_
   refine J.caseB 89 (b := s628.2) (by kernel_rfl) (fun hb1269 => ?_) (fun hb1269 => ?_)
   ·have h1270 := condT hb1269 hy1266
    refine kT ?_
    refine kR ?_
    refine kC 1 [2,3,90] ?_
    obtain ⟨hm, h1272⟩ := asrt h1270
    refine RJ.rel (d := (some 91)) (ef := ⟨.str (s628.1 ++ ([39] : List UInt8)), [], []⟩) (ef' := ⟨.str (s628.1 ++ ([39] : List UInt8)), [], []⟩) (c := room (s628.1.length + ([39] : List UInt8).length)) (tr2 := []) (H2 := []) (by kernel_rfl) hm (fun hc => rfl) (by kernel_rfl) ?_
    refine kC 1 [2,3] ?_
    refine kE ?_
    obtain rfl := oi h1272
    exact kN [2, 3]
   ·have h1271 := condF hb1269 hy1266
    refine kF ?_
    refine kK ?_
    obtain rfl := oi h1271
    exact kN [2, 3]
  ·refine kSR ?_
   refine kC 2 [2] ?_
   refine kEN ?_
   refine kX ?_
   obtain rfl := oi h1268
   exact kZ hFn hFH hFD

def exergueref10_times (x0 : List UInt8) (x1 : Int) : Option (List UInt8) :=
 (Option.bind (loopN (fun (s27 : (List UInt8) × Int) => (bif (decide (s27.2 < x1)) then (bif room (s27.1.length + x0.length) then (some (.inl ((s27.1 ++ x0), (IntKind.wrap .i64 (s27.2 + 1))))) else none) else (some (.inr s27.1)))) big (([] : List UInt8), 0)) fun (s22 : (List UInt8)) => (some s22))
theorem exergueref10_times_ok {x0 : List UInt8} {x1 : Int} {r : List UInt8} (h : exergueref10_times x0 x1 = some r) : SC Tryz.prog 112 [.str x0, .int .i64 x1] [] (.str r) [] := by
 refine kFn (fn := Tryz.f112) (fun F hFn hFH hFD => ?_)
 unfold exergueref10_times at h
 refine kSR ?_
 refine kC 1 [0,1,4] ?_
 refine kEN ?_
 refine kSR ?_
 refine kC 1 [0,1,4,5] ?_
 refine kEN ?_
 obtain ⟨s22, hy24, h26⟩ := bindS h
 refine K.cutN (by kernel_rfl) (fun (s22 : (List UInt8)) => ([(4, .str ([] : List UInt8)), (5, .str s22)], [])) s22 ?_ ?_
 ·refine kSR ?_
  refine kC 1 [0,1,4,5,6] ?_
  refine kEN ?_
  refine K.block 0 (by kernel_rfl) ?_
  refine K.loop (by kernel_rfl) (fun (s27 : (List UInt8) × Int) => ([(0, .str x0), (1, .int .i64 x1), (4, .str ([] : List UInt8)), (5, .str s27.1), (6, .int .i64 s27.2)], [])) hy24 [0, 1, 4, 5, 6] (by kernel_rfl) (by kernel_rfl) (fun s27 x41 hs40 => ?_)
  refine kS ?_
  refine kSR ?_
  refine kC 3 [0,1,4,5,6,9] ?_
  refine kEN ?_
  refine J.caseB 9 (b := (decide (s27.2 < x1))) (by kernel_rfl) (fun hb42 => ?_) (fun hb42 => ?_)
  ·have h43 := condT hb42 hs40
   refine kT ?_
   refine kK ?_
   refine PJ.next ?_
   refine kS ?_
   refine K.block 1 (by kernel_rfl) ?_
   refine kR ?_
   refine kC 2 [0,1,4,5,6,12,13] ?_
   obtain ⟨hm, h45⟩ := asrt h43
   refine RJ.rel (d := (some 14)) (ef := ⟨.str (s27.1 ++ x0), [], []⟩) (ef' := ⟨.str (s27.1 ++ x0), [], []⟩) (c := room (s27.1.length + x0.length)) (tr2 := []) (H2 := []) (by kernel_rfl) hm (fun hc => rfl) (by kernel_rfl) ?_
   refine kC 1 [0,1,4,5,6] ?_
   refine kE ?_
   refine PJ.blockNormal ?_
   refine PJ.next ?_
   refine kR ?_
   refine RJ.seg 3 [0, 1, 4, 5, 6] (L2 := [(0, .str x0), (1, .int .i64 x1), (4, .str ([] : List UInt8)), (5, .str (s27.1 ++ x0)), (6, .int .i64 (IntKind.wrap .i64 (s27.2 + 1)))]) (H2 := []) (by kernel_rfl) ?_
   refine kE ?_
   obtain rfl := oi h45
   exact PJ.loopNext [0, 1, 4, 5, 6] (by kernel_rfl) (by kernel_rfl)
  ·have h44 := condF hb42 hs40
   refine kF ?_
   refine K.exit 0 (by kernel_rfl) ?_
   refine PJ.passExit ?_
   obtain rfl := oi h44
   refine PJ.loopOut (fun e => nomatch e) (fun he47 => ?_)
   have h46 := congrArg some he47
   refine PJ.blockOut ?_
   obtain rfl := oi h46
   exact kN [4, 5]
 ·refine kSR ?_
  refine kC 2 [4] ?_
  refine kEN ?_
  refine kX ?_
  obtain rfl := oi h26
  exact kZ hFn hFH hFD

def exergueref10_Number (x0 : St25) : Option (List UInt8) :=
 (Option.bind (loopN (fun (s519 : (List UInt8) × Int) => (bif (decide (s519.2 < (IntKind.wrap .i64 (x0.Hash_ + x0.MinInt_)))) then (Option.bind (Option.bind (Option.bind (bif (decide (x0.G1_ > 0)) then (bif (decide (s519.2 = x0.G1_)) then (some true) else (bif (decide (s519.2 > x0.G1_)) then (bif (decide (x0.G2_ > 0)) then (bif nz x0.G2_ then (some ((decide (((Int.tmod (IntKind.wrap .i64 (s519.2 - x0.G1_)) x0.G2_)) = 0)))) else none) else (some false)) else (some false))) else (some false)) fun (s1003 : Bool) => (bif s1003 then (bif room (([44] : List UInt8).length + s519.1.length) then (some (([44] : List UInt8) ++ s519.1)) else none) else (some s519.1))) fun (s985 : (List UInt8)) => (bif (decide (s519.2 < x0.MinInt_)) then (bif room (([48] : List UInt8).length + s985.length) then (some (([48] : List UInt8) ++ s985)) else none) else (bif room (([35] : List UInt8).length + s985.length) then (some (([35] : List UInt8) ++ s985)) else none))) fun (s945 : (List UInt8)) => (some (.inl (s945, (IntKind.wrap .i64 (s519.2 + 1)))))) else (some (.inr s519.1)))) big (([] : List UInt8), 0)) fun (s514 : (List UInt8)) => (Option.bind (exergueref10_times ([64] : List UInt8) x0.MinSig_) fun y1032 => (Option.bind (exergueref10_times ([35] : List UInt8) (IntKind.wrap .i64 (x0.MaxSig_ - x0.MinSig_))) fun y1035 => (bif room (y1032.length + y1035.length) then (bif room ((y1032 ++ y1035).length + s514.length) then (Option.bind (bif (decide (x0.MaxFrac_ > 0)) then (bif room (((y1032 ++ y1035) ++ s514).length + ([46] : List UInt8).length) then (Option.bind (exergueref10_times ([48] : List UInt8) x0.MinFrac_) fun y1061 => (bif room (((((y1032 ++ y1035) ++ s514) ++ ([46] : List UInt8))).length + y1061.length) then (Option.bind (exergueref10_times ([35] : List UInt8) (IntKind.wrap .i64 (x0.MaxFrac_ - x0.MinFrac_))) fun y1065 => (bif room (((((((y1032 ++ y1035) ++ s514) ++ ([46] : List UInt8))) ++ y1061)).length + y1065.length) then (some ((((((((y1032 ++ y1035) ++ s514) ++ ([46] : List UInt8))) ++ y1061)) ++ y1065))) else none)) else none)) else none) else (some ((y1032 ++ y1035) ++ s514))) fun (s1052 : (List UInt8)) => (Option.bind (bif (decide (x0.Exp_ > 0)) then (bif room (s1052.length + ([69] : List UInt8).length) then (Option.bind (bif x0.ExpPlus_ then (bif room ((s1052 ++ ([69] : List UInt8)).length + ([43] : List UInt8).length) then (some (((s1052 ++ ([69] : List UInt8)) ++ ([43] : List UInt8)))) else none) else (some (s1052 ++ ([69] : List UInt8)))) fun (s1103 : (List UInt8)) => (Option.bind (exergueref10_times ([48] : List UInt8) x0.Exp_) fun y1112 => (bif room (s1103.length + y1112.length) then (some (s1103 ++ y1112)) else none))) else none) else (some s1052)) fun (s1090 : (List UInt8)) => (some s1090))) else none) else none))))
theorem exergueref10_Number_ok {x0 : St25} {r : List UInt8} (h : exergueref10_Number x0 = some r) : SC Tryz.prog 87 [.agg (encSt25 x0)] [] (.str r) [] := by
 refine kFn (fn := Tryz.f87) (fun F hFn hFH hFD => ?_)
 unfold exergueref10_Number at h
 refine kSR ?_
 refine kC 2 [1,2] ?_
 refine kEN ?_
 refine kSR ?_
 refine kC 1 [1,2,3] ?_
 refine kEN ?_
 obtain ⟨s514, hy516, h518⟩ := bindS h
 refine K.cutN (by kernel_rfl) (fun (s514 : (List UInt8)) => ([(1, .ptr 0 0), (2, .str ([] : List UInt8)), (3, .str s514)], [.box (encSt25 x0)])) s514 ?_ ?_
 ·refine kSR ?_
  refine kC 1 [1,2,3,4] ?_
  refine kEN ?_
  refine K.block 0 (by kernel_rfl) ?_
  refine K.loop (by kernel_rfl) (fun (s519 : (List UInt8) × Int) => ([(1, .ptr 0 0), (2, .str ([] : List UInt8)), (3, .str s519.1), (4, .int .i64 s519.2)], [.box (encSt25 x0)])) hy516 [1, 2, 3, 4] (by kernel_rfl) (by kernel_rfl) (fun s519 x861 hs860 => ?_)
  refine kS ?_
  refine kSR ?_
  refine kC 7 [1,2,3,4,11] ?_
  refine kEN ?_
  refine J.caseB 11 (b := (decide (s519.2 < (IntKind.wrap .i64 (x0.Hash_ + x0.MinInt_))))) (by kernel_rfl) (fun hb862 => ?_) (fun hb862 => ?_)
  ·have h863 := condT hb862 hs860
   refine kT ?_
   refine kK ?_
   refine PJ.next ?_
   obtain ⟨s945, hy947, h949⟩ := bindS h863
   refine K.cutN (by kernel_rfl) (fun (s945 : (List UInt8)) => ([(1, .ptr 0 0), (2, .str ([] : List UInt8)), (3, .str s945), (4, .int .i64 s519.2)], [.box (encSt25 x0)])) s945 ?_ ?_
   ·refine K.block 1 (by kernel_rfl) ?_
    obtain ⟨s985, hy987, h989⟩ := bindS hy947
    refine K.cutN (by kernel_rfl) (fun (s985 : (List UInt8)) => ([(1, .ptr 0 0), (2, .str ([] : List UInt8)), (3, .str s985), (4, .int .i64 s519.2)], [.box (encSt25 x0)])) s985 ?_ ?_
    ·obtain ⟨s1003, hy1005, h1007⟩ := bindS hy987
     refine K.cutN (by kernel_rfl) (fun (s1003 : Bool) => ([(1, .ptr 0 0), (2, .str ([] : List UInt8)), (3, .str s519.1), (4, .int .i64 s519.2), (43, .bool s1003)], [.box (encSt25 x0)])) s1003 ?_ ?_
     ·refine kR ?_
      refine kC 4 [1,2,3,4,17] ?_
      refine RJ.caseB 17 (b := (decide (x0.G1_ > 0))) (by kernel_rfl) (fun hb1008 => ?_) (fun hb1008 => ?_)
      ·have h1009 := condT hb1008 hy1005
       refine kC 5 [1,2,3,4,17,22] ?_
       refine RJ.caseB 22 (b := (decide (s519.2 = x0.G1_))) (by kernel_rfl) (fun hb1011 => ?_) (fun hb1011 => ?_)
       ·have h1012 := condT hb1011 h1009
        refine RJ.seg 21 [1, 2, 3, 4, 43] (L2 := [(1, .ptr 0 0), (2, .str ([] : List UInt8)), (3, .str s519.1), (4, .int .i64 s519.2), (43, .bool true)]) (H2 := [.box (encSt25 x0)]) (by kernel_rfl) ?_
        refine kE ?_
        obtain rfl := oi h1012
        exact kN [1, 2, 3, 4, 43]
       ·have h1013 := condF hb1011 h1009
        refine RJ.seg 5 [1, 2, 3, 4, 17, 22, 27] (L2 := [(1, .ptr 0 0), (2, .str ([] : List UInt8)), (3, .str s519.1), (4, .int .i64 s519.2), (17, .bool true), (22, .bool false), (27, .bool (decide (s519.2 > x0.G1_)))]) (H2 := [.box (encSt25 x0)]) (by kernel_rfl) ?_
        refine RJ.caseB 27 (b := (decide (s519.2 > x0.G1_))) (by kernel_rfl) (fun hb1014 => ?_) (fun hb1014 => ?_)
        ·have h1015 := condT hb1014 h1013
         refine kC 5 [1,2,3,4,17,22,32] ?_
         refine RJ.caseB 32 (b := (decide (x0.G2_ > 0))) (by kernel_rfl) (fun hb1017 => ?_) (fun hb1017 => ?_)
         ·have h1018 := condT hb1017 h1015
          refine kC 6 [1,2,3,4,17,22,32,36,38] ?_
          obtain ⟨hm, h1020⟩ := asrt h1018
          refine RJ.rel (d := (some 39)) (ef := ⟨.int .i64 (Int.tmod (IntKind.wrap .i64 (s519.2 - x0.G1_)) x0.G2_), [], []⟩) (ef' := ⟨.int .i64 (Int.tmod (IntKind.wrap .i64 (s519.2 - x0.G1_)) x0.G2_), [], []⟩) (c := nz x0.G2_) (tr2 := []) (H2 := [.box (encSt25 x0)]) (by kernel_rfl) hm (fun hc => rfl) (by kernel_rfl) ?_
          refine kC 4 [1,2,3,4,43] ?_
          refine kE ?_
          obtain rfl := oi h1020
          exact kN [1, 2, 3, 4, 43]
         ·have h1019 := condF hb1017 h1015
          refine kC 11 [1,2,3,4,43] ?_
          refine kE ?_
          obtain rfl := oi h1019
          exact kN [1, 2, 3, 4, 43]
        ·have h1016 := condF hb1014 h1013
         refine kC 16 [1,2,3,4,43] ?_
         refine kE ?_
         obtain rfl := oi h1016
         exact kN [1, 2, 3, 4, 43]
      ·have h1010 := condF hb1008 hy1005
       refine kC 26 [1,2,3,4,43] ?_
       refine kE ?_
       obtain rfl := oi h1010
       exact kN [1, 2, 3, 4, 43]
     ·refine J.caseB 43 (b := s1003) (by kernel_rfl) (fun hb1021 => ?_) (fun hb1021 => ?_)
      ·have h1022 := condT hb1021 h1007
       refine kT ?_
       refine kR ?_
       refine kC 1 [1,2,3,4,44] ?_
       obtain ⟨hm, h1024⟩ := asrt h1022
       refine RJ.rel (d := (some 45)) (ef := ⟨.str (([44] : List UInt8) ++ s519.1), [], []⟩) (ef' := ⟨.str (([44] : List UInt8) ++ s519.1), [], []⟩) (c := room (([44] : List UInt8).length + s519.1.length)) (tr2 := []) (H2 := [.box (encSt25 x0)]) (by kernel_rfl) hm (fun hc => rfl) (by kernel_rfl) ?_
       refine kC 1 [1,2,3,4] ?_
       refine kE ?_
       obtain rfl := oi h1024
       exact kN [1, 2, 3, 4]
      ·have h1023 := condF hb1021 h1007
       refine kF ?_
       refine kK ?_
       obtain rfl := oi h1023
       exact kN [1, 2, 3, 4]
    ·refine kSR ?_
     refine kC 4 [1,2,3,4,49] ?_
     refine kEN ?_
     refine J.caseB 49 (b := (decide (s519.2 < x0.MinInt_))) (by kernel_rfl) (fun hb1025 => ?_) (fun hb1025 => ?_)
     ·have h1026 := condT hb1025 h989
      refine kT ?_
      refine kR ?_
      refine kC 1 [1,2,3,4,50] ?_
      obtain ⟨hm, h1028⟩ := asrt h1026
      refine RJ.rel (d := (some 51)) (ef := ⟨.str (([48] : List UInt8) ++ s985), [], []⟩) (ef' := ⟨.str (([48] : List UInt8) ++ s985), [], []⟩) (c := room (([48] : List UInt8).length + s985.length)) (tr2 := []) (H2 := [.box (encSt25 x0)]) (by kernel_rfl) hm (fun hc => rfl) (by kernel_rfl) ?_
      refine kC 1 [1,2,3,4] ?_
      refine kE ?_
      refine PJ.blockNormal ?_
      obtain rfl := oi h1028
      exact kN [1, 2, 3, 4]
     ·have h1027 := condF hb1025 h989
      refine kF ?_
      refine kR ?_
      refine kC 1 [1,2,3,4,52] ?_
      obtain ⟨hm, h1029⟩ := asrt h1027
      refine RJ.rel (d := (some 53)) (ef := ⟨.str (([35] : List UInt8) ++ s985), [], []⟩) (ef' := ⟨.str (([35] : List UInt8) ++ s985), [], []⟩) (c := room (([35] : List UInt8).length + s985.length)) (tr2 := []) (H2 := [.box (encSt25 x0)]) (by kernel_rfl) hm (fun hc => rfl) (by kernel_rfl) ?_
      refine kC 1 [1,2,3,4] ?_
      refine kE ?_
      refine PJ.blockNormal ?_
      obtain rfl := oi h1029
      exact kN [1, 2, 3, 4]
   ·refine kR ?_
    refine kC 3 [1,2,3,4] ?_
    refine kE ?_
    obtain rfl := oi h949
    exact PJ.loopNext [1, 2, 3, 4] (by kernel_rfl) (by kernel_rfl)
  ·have h864 := condF hb862 hs860
   refine kF ?_
   refine K.exit 0 (by kernel_rfl) ?_
   refine PJ.passExit ?_
   obtain rfl := oi h864
   refine PJ.loopOut (fun e => nomatch e) (fun he1031 => ?_)
   have h1030 := congrArg some he1031
   refine PJ.blockOut ?_
   obtain rfl := oi h1030
   exact kN [1, 2, 3]
 ·refine kS ?_
  refine J.keep [1, 2, 3] (L2 := [(1, .ptr 0 0), (2, .str ([] : List UInt8)), (3, .str s514)]) (by kernel_rfl) ?_
  refine K.draw (by kernel_rfl) (by kernel_rfl) (by kernel_rfl) (H2 := [.box (encSt25 x0), .res, .res]) (by kernel_rfl) (n := 1) (by kernel_rfl) ?_
  refine kD 2 ?_
  obtain ⟨y1032, hy1033, h1034⟩ := bindS h518
  refine RJ.call0 (d := (some 56)) (f := 112) (args := [.str ([64] : List UInt8), .int .i64 x0.MinSig_]) (v := .str y1032) (tr2 := [([], []), ([0, 1], []), ([], [2, 3])]) (by kernel_rfl) (by kernel_rfl) (.cons (Le.refl _) (.cons (Le.refl _) .nil)) (exergueref10_times_ok hy1033) (by kernel_rfl) ?_
  refine kD 5 ?_
  obtain ⟨y1035, hy1036, h1037⟩ := bindS h1034
  refine RJ.call0 (d := (some 62)) (f := 112) (args := [.str ([35] : List UInt8), .int .i64 (IntKind.wrap .i64 (x0.MaxSig_ - x0.MinSig_))]) (v := .str y1035) (tr2 := [([], []), ([0, 1], []), ([], [2, 3]), ([], []), ([0, 1], []), ([], []), ([0, 1], []), ([], []), ([], [4, 5])]) (by kernel_rfl) (by kernel_rfl) (.cons (Le.refl _) (.cons (Le.refl _) .nil)) (exergueref10_times_ok hy1036) (by kernel_rfl) ?_
  obtain ⟨hm, h1038⟩ := asrt h1037
  refine RJ.rel (d := (some 63)) (ef := ⟨.str (y1032 ++ y1035), [], []⟩) (ef' := ⟨.str (y1032 ++ y1035), [], []⟩) (c := room (y1032.length + y1035.length)) (tr2 := [([], []), ([0, 1], []), ([], [2, 3]), ([], []), ([0, 1], []), ([], []), ([0, 1], []), ([], []), ([], [4, 5]), ([], [])]) (H2 := [.box (encSt25 x0), .res, .res]) (by kernel_rfl) hm (fun hc => rfl) (by kernel_rfl) ?_
  refine kD 1 ?_
  obtain ⟨hm, h1039⟩ := asrt h1038
  refine RJ.rel (d := (some 65)) (ef := ⟨.str ((y1032 ++ y1035) ++ s514), [], []⟩) (ef' := ⟨.str ((y1032 ++ y1035) ++ s514), [], []⟩) (c := room ((y1032 ++ y1035).length + s514.length)) (tr2 := [([], []), ([0, 1], []), ([], [2, 3]), ([], []), ([0, 1], []), ([], []), ([0, 1], []), ([], []), ([], [4, 5]), ([], []), ([], []), ([], [])]) (H2 := [.box (encSt25 x0), .res, .res]) (by kernel_rfl) hm (fun hc => rfl) (by kernel_rfl) ?_
  refine RJ.segD 1 (tr2 := [([], []), ([0, 1], []), ([], [2, 3]), ([], []), ([0, 1], []), ([], []), ([0, 1], []), ([], []), ([], [4, 5]), ([], []), ([], []), ([], []), ([], [])]) (L2 := [(3, .str ((y1032 ++ y1035) ++ s514)), (65, .str ((y1032 ++ y1035) ++ s514)), (64, .str s514), (63, .str (y1032 ++ y1035)), (62, .str y1035), (61, .int .i64 (IntKind.wrap .i64 (x0.MaxSig_ - x0.MinSig_))), (60, .int .i64 x0.MinSig_), (59, .ptr 0 11), (58, .int .i64 x0.MaxSig_), (57, .ptr 0 12), (56, .str y1032), (55, .int .i64 x0.MinSig_), (54, .ptr 0 11), (1, .ptr 0 0), (2, .str ([] : List UInt8)), (3, .str s514)]) (H2 := [.box (encSt25 x0), .res, .res]) (by kernel_rfl) ?_
  refine kEN ?_
  obtain ⟨s1052, hy1054, h1056⟩ := bindS h1039
  refine K.cutN (by kernel_rfl) (fun (s1052 : (List UInt8)) => ([(1, .ptr 0 0), (2, .str ([] : List UInt8)), (3, .str s1052)], [.box (encSt25 x0)])) s1052 ?_ ?_
  ·refine kSR ?_
   refine kC 3 [1,2,3,68] ?_
   refine kEN ?_
   refine J.caseB 68 (b := (decide (x0.MaxFrac_ > 0))) (by kernel_rfl) (fun hb1057 => ?_) (fun hb1057 => ?_)
   ·have h1058 := condT hb1057 hy1054
    refine kT ?_
    refine J.keep [1, 2, 3] (L2 := [(1, .ptr 0 0), (2, .str ([] : List UInt8)), (3, .str ((y1032 ++ y1035) ++ s514))]) (by kernel_rfl) ?_
    refine K.draw (by kernel_rfl) (by kernel_rfl) (by kernel_rfl) (H2 := [.box (encSt25 x0), .res, .res, .res, .res]) (by kernel_rfl) (n := 3) (by kernel_rfl) ?_
    refine kD 1 ?_
    obtain ⟨hm, h1060⟩ := asrt h1058
    refine RJ.rel (d := (some 70)) (ef := ⟨.str (((y1032 ++ y1035) ++ s514) ++ ([46] : List UInt8)), [], []⟩) (ef' := ⟨.str (((y1032 ++ y1035) ++ s514) ++ ([46] : List UInt8)), [], []⟩) (c := room (((y1032 ++ y1035) ++ s514).length + ([46] : List UInt8).length)) (tr2 := [([], []), ([], [])]) (H2 := [.box (encSt25 x0), .res, .res, .res, .res]) (by kernel_rfl) hm (fun hc => rfl) (by kernel_rfl) ?_
    refine kD 2 ?_
    obtain ⟨y1061, hy1062, h1063⟩ := bindS h1060
    refine RJ.call0 (d := (some 73)) (f := 112) (args := [.str ([48] : List UInt8), .int .i64 x0.MinFrac_]) (v := .str y1061) (tr2 := [([], []), ([], []), ([], []), ([0, 1], []), ([], [6, 7])]) (by kernel_rfl) (by kernel_rfl) (.cons (Le.refl _) (.cons (Le.refl _) .nil)) (exergueref10_times_ok hy1062) (by kernel_rfl) ?_
    obtain ⟨hm, h1064⟩ := asrt h1063
    refine RJ.rel (d := (some 74)) (ef := ⟨.str (((((y1032 ++ y1035) ++ s514) ++ ([46] : List UInt8))) ++ y1061), [], []⟩) (ef' := ⟨.str (((((y1032 ++ y1035) ++ s514) ++ ([46] : List UInt8))) ++ y1061), [], []⟩) (c := room (((((y1032 ++ y1035) ++ s514) ++ ([46] : List UInt8))).length + y1061.length)) (tr2 := [([], []), ([], []), ([], []), ([0, 1], []), ([], [6, 7]), ([], [])]) (H2 := [.box (encSt25 x0), .res, .res, .res, .res]) (by kernel_rfl) hm (fun hc => rfl) (by kernel_rfl) ?_
    refine RJ.segD 5 (tr2 := [([], []), ([], []), ([], []), ([0, 1], []), ([], [6, 7]), ([], []), ([], []), ([0, 1], []), ([], []), ([0, 1], []), ([], [])]) (L2 := [(79, .int .i64 (IntKind.wrap .i64 (x0.MaxFrac_ - x0.MinFrac_))), (78, .int .i64 x0.MinFrac_), (77, .ptr 0 7), (76, .int .i64 x0.MaxFrac_), (75, .ptr 0 8), (74, .str ((((((y1032 ++ y1035) ++ s514) ++ ([46] : List UInt8))) ++ y1061))), (73, .str y1061), (72, .int .i64 x0.MinFrac_), (71, .ptr 0 7), (70, .str ((((y1032 ++ y1035) ++ s514) ++ ([46] : List UInt8)))), (69, .str ((y1032 ++ y1035) ++ s514)), (1, .ptr 0 0), (2, .str ([] : List UInt8)), (3, .str ((y1032 ++ y1035) ++ s514))]) (H2 := [.box (encSt25 x0), .res, .res, .res, .res]) (by kernel_rfl) ?_
    obtain ⟨y1065, hy1066, h1067⟩ := bindS h1064
    refine RJ.call0 (d := (some 80)) (f := 112) (args := [.str ([35] : List UInt8), .int .i64 (IntKind.wrap .i64 (x0.MaxFrac_ - x0.MinFrac_))]) (v := .str y1065) (tr2 := [([], []), ([], []), ([], []), ([0, 1], []), ([], [6, 7]), ([], []), ([], []), ([0, 1], []), ([], []), ([0, 1], []), ([], []), ([], [8, 9])]) (by kernel_rfl) (by kernel_rfl) (.cons (Le.refl _) (.cons (Le.refl _) .nil)) (exergueref10_times_ok hy1066) (by kernel_rfl) ?_
    obtain ⟨hm, h1068⟩ := asrt h1067
    refine RJ.rel (d := (some 81)) (ef := ⟨.str (((((((y1032 ++ y1035) ++ s514) ++ ([46] : List UInt8))) ++ y1061)) ++ y1065), [], []⟩) (ef' := ⟨.str (((((((y1032 ++ y1035) ++ s514) ++ ([46] : List UInt8))) ++ y1061)) ++ y1065), [], []⟩) (c := room (((((((y1032 ++ y1035) ++ s514) ++ ([46] : List UInt8))) ++ y1061)).length + y1065.length)) (tr2 := [([], []), ([], []), ([], []), ([0, 1], []), ([], [6, 7]), ([], []), ([], []), ([0, 1], []), ([], []), ([0, 1], []), ([], []), ([], [8, 9]), ([], [])]) (H2 := [.box (encSt25 x0), .res, .res, .res, .res]) (by kernel_rfl) hm (fun hc => rfl) (by kernel_rfl) ?_
    refine kD 1 ?_
    refine kE ?_
    obtain rfl := oi h1068
    refine PJ.wk (Wk.sel (L2 := [(1, .ptr 0 0), (2, .str ([] : List UInt8)), (3, .str ((((((((y1032 ++ y1035) ++ s514) ++ ([46] : List UInt8))) ++ y1061)) ++ y1065)))]) (H2 := [.box (encSt25 x0)]) 0 (by rw [hFH]; rfl) hFD [0] (by kernel_rfl) (by kernel_rfl) (by decide) (by kernel_rfl) (by kernel_rfl) (by kernel_rfl) (by kernel_rfl)) ?_
    exact kN [1, 2, 3]
   ·have h1059 := condF hb1057 hy1054
    refine kF ?_
    refine kK ?_
    obtain rfl := oi h1059
    refine PJ.wk (Wk.sel (L2 := [(1, .ptr 0 0), (2, .str ([] : List UInt8)), (3, .str ((y1032 ++ y1035) ++ s514))]) (H2 := [.box (encSt25 x0)]) 0 (by rw [hFH]; rfl) hFD [0] (by kernel_rfl) (by kernel_rfl) (by decide) (by kernel_rfl) (by kernel_rfl) (by kernel_rfl) (by kernel_rfl)) ?_
    exact kN [1, 2, 3]
  ·obtain ⟨s1090, hy1092, h1094⟩ := bindS h1056
   refine K.cutN (by kernel_rfl) (fun (s1090 : (List UInt8)) => ([(2, .str ([] : List UInt8)), (3, .str s1090)], [])) s1090 ?_ ?_
   ·refine kSR ?_
    refine kC 3 [1,2,3,84] ?_
    refine kEN ?_
    refine J.caseB 84 (b := (decide (x0.Exp_ > 0))) (by kernel_rfl) (fun hb1095 => ?_) (fun hb1095 => ?_)
    ·have h1096 := condT hb1095 hy1092
     refine kT ?_
     refine kSR ?_
     refine kC 1 [1,2,3,85] ?_
     obtain ⟨hm, h1098⟩ := asrt h1096
     refine RJ.rel (d := (some 86)) (ef := ⟨.str (s1052 ++ ([69] : List UInt8)), [], []⟩) (ef' := ⟨.str (s1052 ++ ([69] : List UInt8)), [], []⟩) (c := room (s1052.length + ([69] : List UInt8).length)) (tr2 := []) (H2 := [.box (encSt25 x0)]) (by kernel_rfl) hm (fun hc => rfl) (by kernel_rfl) ?_
     refine kC 1 [1,2,3] ?_
     refine kEN ?_
     obtain ⟨s1103, hy1105, h1107⟩ := bindS h1098
     refine K.cutN (by kernel_rfl) (fun (s1103 : (List UInt8)) => ([(1, .ptr 0 0), (2, .str ([] : List UInt8)), (3, .str s1103)], [.box (encSt25 x0)])) s1103 ?_ ?_
     ·refine kSR ?_
      refine RJ.seg 2 [1, 2, 3, 88] (L2 := [(1, .ptr 0 0), (2, .str ([] : List UInt8)), (3, .str (s1052 ++ ([69] : List UInt8))), (88, .bool x0.ExpPlus_)]) (H2 := [.box (encSt25 x0)]) (by kernel_rfl) ?_
      refine kEN ?_
      refine J.caseB 88 (b := x0.ExpPlus_) (by kernel_rfl) (fun hb1108 => ?_) (fun hb1108 => ?_)
      ·have h1109 := condT hb1108 hy1105
       refine kT ?_
       refine kR ?_
       refine kC 1 [1,2,3,89] ?_
       obtain ⟨hm, h1111⟩ := asrt h1109
       refine RJ.rel (d := (some 90)) (ef := ⟨.str ((s1052 ++ ([69] : List UInt8)) ++ ([43] : List UInt8)), [], []⟩) (ef' := ⟨.str ((s1052 ++ ([69] : List UInt8)) ++ ([43] : List UInt8)), [], []⟩) (c := room ((s1052 ++ ([69] : List UInt8)).length + ([43] : List UInt8).length)) (tr2 := []) (H2 := [.box (encSt25 x0)]) (by kernel_rfl) hm (fun hc => rfl) (by kernel_rfl) ?_
       refine kC 1 [1,2,3] ?_
       refine kE ?_
       obtain rfl := oi h1111
       exact kN [1, 2, 3]
      ·have h1110 := condF hb1108 hy1105
       refine kF ?_
       refine kK ?_
       obtain rfl := oi h1110
       exact kN [1, 2, 3]
     ·refine kR ?_
      refine kC 3 [2,3,91,93] ?_
      obtain ⟨y1112, hy1113, h1114⟩ := bindS h1107
      refine RJ.call0 (d := (some 94)) (f := 112) (args := [.str ([48] : List UInt8), .int .i64 x0.Exp_]) (v := .str y1112) (tr2 := []) (by kernel_rfl) (by kernel_rfl) (.cons (Le.refl _) (.cons (Le.refl _) .nil)) (exergueref10_times_ok hy1113) (by kernel_rfl) ?_
      obtain ⟨hm, h1115⟩ := asrt h1114
      refine RJ.rel (d := (some 95)) (ef := ⟨.str (s1103 ++ y1112), [], []⟩) (ef' := ⟨.str (s1103 ++ y1112), [], []⟩) (c := room (s1103.length + y1112.length)) (tr2 := []) (H2 := [.box (encSt25 x0)]) (by kernel_rfl) hm (fun hc => rfl) (by kernel_rfl) ?_
      refine kC 1 [2,3] ?_
      refine kE ?_
      obtain rfl := oi h1115
      refine PJ.wk (Wk.sel (L2 := [(2, .str ([] : List UInt8)), (3, .str (s1103 ++ y1112))]) (H2 := []) 0 (by rw [hFH]; rfl) hFD [] (by kernel_rfl) (by kernel_rfl) (by decide) (by kernel_rfl) (by kernel_rfl) (by kernel_rfl) (by kernel_rfl)) ?_
      exact kN [2, 3]
    ·have h1097 := condF hb1095 hy1092
     refine kF ?_
     refine kK ?_
     obtain rfl := oi h1097
     refine PJ.wk (Wk.sel (L2 := [(2, .str ([] : List UInt8)), (3, .str s1052)]) (H2 := []) 0 (by rw [hFH]; rfl) hFD [] (by kernel_rfl) (by kernel_rfl) (by decide) (by kernel_rfl) (by kernel_rfl) (by kernel_rfl) (by kernel_rfl)) ?_
     exact kN [2, 3]
   ·refine kSR ?_
    refine kC 2 [2] ?_
    refine kEN ?_
    refine kX ?_
    obtain rfl := oi h1094
    exact kZ hFn hFH hFD

def exergueref10_Text (x0 : St25) : Option (List UInt8) :=
 (Option.bind (exergueref10_padded x0 1) fun y1 => (Option.bind (exergueref10_written x0.Pre_) fun y4 => (bif room (y1.length + y4.length) then (Option.bind (exergueref10_padded x0 2) fun y8 => (bif room ((y1 ++ y4).length + y8.length) then (Option.bind (exergueref10_Number x0) fun y12 => (bif room (((y1 ++ y4) ++ y8).length + y12.length) then (Option.bind (exergueref10_padded x0 3) fun y16 => (bif room (((((y1 ++ y4) ++ y8) ++ y12)).length + y16.length) then (Option.bind (exergueref10_written x0.Suf_) fun y20 => (bif room (((((((y1 ++ y4) ++ y8) ++ y12)) ++ y16)).length + y20.length) then (Option.bind (exergueref10_padded x0 4) fun y24 => (bif room (((((((((y1 ++ y4) ++ y8) ++ y12)) ++ y16)) ++ y20)).length + y24.length) then (Option.bind (bif x0.Neg_ then (bif room (((((((((((y1 ++ y4) ++ y8) ++ y12)) ++ y16)) ++ y20)) ++ y24)).length + ([59] : List UInt8).length) then (Option.bind (exergueref10_written x0.NPre_) fun y53 => (bif room (((((((((((((y1 ++ y4) ++ y8) ++ y12)) ++ y16)) ++ y20)) ++ y24)) ++ ([59] : List UInt8))).length + y53.length) then (Option.bind (exergueref10_Number x0) fun y57 => (bif room (((((((((((((((y1 ++ y4) ++ y8) ++ y12)) ++ y16)) ++ y20)) ++ y24)) ++ ([59] : List UInt8))) ++ y53)).length + y57.length) then (Option.bind (exergueref10_written x0.NSuf_) fun y61 => (bif room (((((((((((((((((y1 ++ y4) ++ y8) ++ y12)) ++ y16)) ++ y20)) ++ y24)) ++ ([59] : List UInt8))) ++ y53)) ++ y57)).length + y61.length) then (some ((((((((((((((((((y1 ++ y4) ++ y8) ++ y12)) ++ y16)) ++ y20)) ++ y24)) ++ ([59] : List UInt8))) ++ y53)) ++ y57)) ++ y61))) else none)) else none)) else none)) else none) else (some ((((((((((y1 ++ y4) ++ y8) ++ y12)) ++ y16)) ++ y20)) ++ y24)))) fun (s44 : (List UInt8)) => (some s44)) else none)) else none)) else none)) else none)) else none)) else none)))
theorem exergueref10_Text_ok {x0 : St25} {r : List UInt8} (h : exergueref10_Text x0 = some r) : SC Tryz.prog 58 [.agg (encSt25 x0)] [] (.str r) [] := by
 refine kFn (fn := Tryz.f58) (fun F hFn hFH hFD => ?_)
 unfold exergueref10_Text at h
 refine kSR ?_
 refine kC 2 [1,2] ?_
 refine kEN ?_
 refine kS ?_
 refine J.keep [1, 2] (L2 := [(1, .ptr 0 0), (2, .str ([] : List UInt8))]) (by kernel_rfl) ?_
 refine K.draw (by kernel_rfl) (by kernel_rfl) (by kernel_rfl) (H2 := [.box (encSt25 x0), .res, .res, .res, .res, .res, .res, .res]) (by kernel_rfl) (n := 1) (by kernel_rfl) ?_
 refine kD 1 ?_
 obtain ⟨y1, hy2, h3⟩ := bindS h
 refine RJ.call0 (d := (some 5)) (f := 85) (args := [.agg (encSt25 x0), .int .i64 1]) (v := .str y1) (tr2 := [([0, 1], []), ([], [2, 3])]) (by kernel_rfl) (by kernel_rfl) (.cons (Le.refl _) (.cons (Le.refl _) .nil)) (exergueref10_padded_ok hy2) (by kernel_rfl) ?_
 refine kD 2 ?_
 obtain ⟨y4, hy5, h6⟩ := bindS h3
 refine RJ.call0 (d := (some 8)) (f := 86) (args := [lsv encSt106 2 x0.Pre_]) (v := .str y4) (tr2 := [([0, 1], []), ([], [2, 3]), ([], []), ([0, 1], []), ([], [4, 5])]) (by kernel_rfl) (by kernel_rfl) (.cons (Le.refl _) .nil) (exergueref10_written_ok hy5) (by kernel_rfl) ?_
 obtain ⟨hm, h7⟩ := asrt h6
 refine RJ.rel (d := (some 9)) (ef := ⟨.str (y1 ++ y4), [], []⟩) (ef' := ⟨.str (y1 ++ y4), [], []⟩) (c := room (y1.length + y4.length)) (tr2 := [([0, 1], []), ([], [2, 3]), ([], []), ([0, 1], []), ([], [4, 5]), ([], [])]) (H2 := [.box (encSt25 x0), .res, .res, .res, .res, .res, .res, .res]) (by kernel_rfl) hm (fun hc => rfl) (by kernel_rfl) ?_
 refine RJ.segD 1 (tr2 := [([0, 1], []), ([], [2, 3]), ([], []), ([0, 1], []), ([], [4, 5]), ([], []), ([0, 1], [])]) (L2 := [(10, .agg (encSt25 x0)), (9, .str (y1 ++ y4)), (8, .str y4), (7, lsv encSt106 2 x0.Pre_), (6, .ptr 0 0), (5, .str y1), (4, .agg (encSt25 x0)), (1, .ptr 0 0), (2, .str ([] : List UInt8))]) (H2 := [.box (encSt25 x0), .res, .res, .res, .res, .res, .res, .res]) (by kernel_rfl) ?_
 obtain ⟨y8, hy9, h10⟩ := bindS h7
 refine RJ.call0 (d := (some 11)) (f := 85) (args := [.agg (encSt25 x0), .int .i64 2]) (v := .str y8) (tr2 := [([0, 1], []), ([], [2, 3]), ([], []), ([0, 1], []), ([], [4, 5]), ([], []), ([0, 1], []), ([], [6, 7])]) (by kernel_rfl) (by kernel_rfl) (.cons (Le.refl _) (.cons (Le.refl _) .nil)) (exergueref10_padded_ok hy9) (by kernel_rfl) ?_
 obtain ⟨hm, h11⟩ := asrt h10
 refine RJ.rel (d := (some 12)) (ef := ⟨.str ((y1 ++ y4) ++ y8), [], []⟩) (ef' := ⟨.str ((y1 ++ y4) ++ y8), [], []⟩) (c := room ((y1 ++ y4).length + y8.length)) (tr2 := [([0, 1], []), ([], [2, 3]), ([], []), ([0, 1], []), ([], [4, 5]), ([], []), ([0, 1], []), ([], [6, 7]), ([], [])]) (H2 := [.box (encSt25 x0), .res, .res, .res, .res, .res, .res, .res]) (by kernel_rfl) hm (fun hc => rfl) (by kernel_rfl) ?_
 refine kD 1 ?_
 obtain ⟨y12, hy13, h14⟩ := bindS h11
 refine RJ.call0 (d := (some 14)) (f := 87) (args := [.agg (encSt25 x0)]) (v := .str y12) (tr2 := [([0, 1], []), ([], [2, 3]), ([], []), ([0, 1], []), ([], [4, 5]), ([], []), ([0, 1], []), ([], [6, 7]), ([], []), ([0, 1], []), ([], [8, 9])]) (by kernel_rfl) (by kernel_rfl) (.cons (Le.refl _) .nil) (exergueref10_Number_ok hy13) (by kernel_rfl) ?_
 obtain ⟨hm, h15⟩ := asrt h14
 refine RJ.rel (d := (some 15)) (ef := ⟨.str (((y1 ++ y4) ++ y8) ++ y12), [], []⟩) (ef' := ⟨.str (((y1 ++ y4) ++ y8) ++ y12), [], []⟩) (c := room (((y1 ++ y4) ++ y8).length + y12.length)) (tr2 := [([0, 1], []), ([], [2, 3]), ([], []), ([0, 1], []), ([], [4, 5]), ([], []), ([0, 1], []), ([], [6, 7]), ([], []), ([0, 1], []), ([], [8, 9]), ([], [])]) (H2 := [.box (encSt25 x0), .res, .res, .res, .res, .res, .res, .res]) (by kernel_rfl) hm (fun hc => rfl) (by kernel_rfl) ?_
 refine kD 1 ?_
 obtain ⟨y16, hy17, h18⟩ := bindS h15
 refine RJ.call0 (d := (some 17)) (f := 85) (args := [.agg (encSt25 x0), .int .i64 3]) (v := .str y16) (tr2 := [([0, 1], []), ([], [2, 3]), ([], []), ([0, 1], []), ([], [4, 5]), ([], []), ([0, 1], []), ([], [6, 7]), ([], []), ([0, 1], []), ([], [8, 9]), ([], []), ([0, 1], []), ([], [10, 11])]) (by kernel_rfl) (by kernel_rfl) (.cons (Le.refl _) (.cons (Le.refl _) .nil)) (exergueref10_padded_ok hy17) (by kernel_rfl) ?_
 obtain ⟨hm, h19⟩ := asrt h18
 refine RJ.rel (d := (some 18)) (ef := ⟨.str (((((y1 ++ y4) ++ y8) ++ y12)) ++ y16), [], []⟩) (ef' := ⟨.str (((((y1 ++ y4) ++ y8) ++ y12)) ++ y16), [], []⟩) (c := room (((((y1 ++ y4) ++ y8) ++ y12)).length + y16.length)) (tr2 := [([0, 1], []), ([], [2, 3]), ([], []), ([0, 1], []), ([], [4, 5]), ([], []), ([0, 1], []), ([], [6, 7]), ([], []), ([0, 1], []), ([], [8, 9]), ([], []), ([0, 1], []), ([], [10, 11]), ([], [])]) (H2 := [.box (encSt25 x0), .res, .res, .res, .res, .res, .res, .res]) (by kernel_rfl) hm (fun hc => rfl) (by kernel_rfl) ?_
 refine kD 2 ?_
 obtain ⟨y20, hy21, h22⟩ := bindS h19
 refine RJ.call0 (d := (some 21)) (f := 86) (args := [lsv encSt106 2 x0.Suf_]) (v := .str y20) (tr2 := [([0, 1], []), ([], [2, 3]), ([], []), ([0, 1], []), ([], [4, 5]), ([], []), ([0, 1], []), ([], [6, 7]), ([], []), ([0, 1], []), ([], [8, 9]), ([], []), ([0, 1], []), ([], [10, 11]), ([], []), ([], []), ([0, 1], []), ([], [12, 13])]) (by kernel_rfl) (by kernel_rfl) (.cons (Le.refl _) .nil) (exergueref10_written_ok hy21) (by kernel_rfl) ?_
 obtain ⟨hm, h23⟩ := asrt h22
 refine RJ.rel (d := (some 22)) (ef := ⟨.str (((((((y1 ++ y4) ++ y8) ++ y12)) ++ y16)) ++ y20), [], []⟩) (ef' := ⟨.str (((((((y1 ++ y4) ++ y8) ++ y12)) ++ y16)) ++ y20), [], []⟩) (c := room (((((((y1 ++ y4) ++ y8) ++ y12)) ++ y16)).length + y20.length)) (tr2 := [([0, 1], []), ([], [2, 3]), ([], []), ([0, 1], []), ([], [4, 5]), ([], []), ([0, 1], []), ([], [6, 7]), ([], []), ([0, 1], []), ([], [8, 9]), ([], []), ([0, 1], []), ([], [10, 11]), ([], []), ([], []), ([0, 1], []), ([], [12, 13]), ([], [])]) (H2 := [.box (encSt25 x0), .res, .res, .res, .res, .res, .res, .res]) (by kernel_rfl) hm (fun hc => rfl) (by kernel_rfl) ?_
 refine RJ.segD 1 (tr2 := [([0, 1], []), ([], [2, 3]), ([], []), ([0, 1], []), ([], [4, 5]), ([], []), ([0, 1], []), ([], [6, 7]), ([], []), ([0, 1], []), ([], [8, 9]), ([], []), ([0, 1], []), ([], [10, 11]), ([], []), ([], []), ([0, 1], []), ([], [12, 13]), ([], []), ([0, 1], [])]) (L2 := [(23, .agg (encSt25 x0)), (22, .str ((((((((y1 ++ y4) ++ y8) ++ y12)) ++ y16)) ++ y20))), (21, .str y20), (20, lsv encSt106 2 x0.Suf_), (19, .ptr 0 1), (18, .str ((((((y1 ++ y4) ++ y8) ++ y12)) ++ y16))), (17, .str y16), (16, .agg (encSt25 x0)), (15, .str ((((y1 ++ y4) ++ y8) ++ y12))), (14, .str y12), (13, .agg (encSt25 x0)), (12, .str ((y1 ++ y4) ++ y8)), (11, .str y8), (10, .agg (encSt25 x0)), (9, .str (y1 ++ y4)), (8, .str y4), (7, lsv encSt106 2 x0.Pre_), (6, .ptr 0 0), (5, .str y1), (4, .agg (encSt25 x0)), (1, .ptr 0 0), (2, .str ([] : List UInt8))]) (H2 := [.box (encSt25 x0), .res, .res, .res, .res, .res, .res, .res]) (by kernel_rfl) ?_
 obtain ⟨y24, hy25, h26⟩ := bindS h23
 refine RJ.call0 (d := (some 24)) (f := 85) (args := [.agg (encSt25 x0), .int .i64 4]) (v := .str y24) (tr2 := [([0, 1], []), ([], [2, 3]), ([], []), ([0, 1], []), ([], [4, 5]), ([], []), ([0, 1], []), ([], [6, 7]), ([], []), ([0, 1], []), ([], [8, 9]), ([], []), ([0, 1], []), ([], [10, 11]), ([], []), ([], []), ([0, 1], []), ([], [12, 13]), ([], []), ([0, 1], []), ([], [14, 15])]) (by kernel_rfl) (by kernel_rfl) (.cons (Le.refl _) (.cons (Le.refl _) .nil)) (exergueref10_padded_ok hy25) (by kernel_rfl) ?_
 obtain ⟨hm, h27⟩ := asrt h26
 refine RJ.rel (d := (some 25)) (ef := ⟨.str (((((((((y1 ++ y4) ++ y8) ++ y12)) ++ y16)) ++ y20)) ++ y24), [], []⟩) (ef' := ⟨.str (((((((((y1 ++ y4) ++ y8) ++ y12)) ++ y16)) ++ y20)) ++ y24), [], []⟩) (c := room (((((((((y1 ++ y4) ++ y8) ++ y12)) ++ y16)) ++ y20)).length + y24.length)) (tr2 := [([0, 1], []), ([], [2, 3]), ([], []), ([0, 1], []), ([], [4, 5]), ([], []), ([0, 1], []), ([], [6, 7]), ([], []), ([0, 1], []), ([], [8, 9]), ([], []), ([0, 1], []), ([], [10, 11]), ([], []), ([], []), ([0, 1], []), ([], [12, 13]), ([], []), ([0, 1], []), ([], [14, 15]), ([], [])]) (H2 := [.box (encSt25 x0), .res, .res, .res, .res, .res, .res, .res]) (by kernel_rfl) hm (fun hc => rfl) (by kernel_rfl) ?_
 refine kD 1 ?_
 refine kEN ?_
 obtain ⟨s44, hy46, h48⟩ := bindS h27
 refine K.cutN (by kernel_rfl) (fun (s44 : (List UInt8)) => ([(2, .str ([] : List UInt8)), (3, .str s44)], [])) s44 ?_ ?_
 ·refine kSR ?_
  refine kC 2 [1,2,3,27] ?_
  refine kEN ?_
  refine J.caseB 27 (b := x0.Neg_) (by kernel_rfl) (fun hb49 => ?_) (fun hb49 => ?_)
  ·have h50 := condT hb49 hy46
   refine kT ?_
   refine J.keep [1, 2, 3] (L2 := [(1, .ptr 0 0), (2, .str ([] : List UInt8)), (3, .str ((((((((((y1 ++ y4) ++ y8) ++ y12)) ++ y16)) ++ y20)) ++ y24)))]) (by kernel_rfl) ?_
   refine K.draw (by kernel_rfl) (by kernel_rfl) (by kernel_rfl) (H2 := [.box (encSt25 x0), .res, .res, .res, .res, .res, .res, .res, .res, .res, .res]) (by kernel_rfl) (n := 8) (by kernel_rfl) ?_
   refine kD 1 ?_
   obtain ⟨hm, h52⟩ := asrt h50
   refine RJ.rel (d := (some 29)) (ef := ⟨.str (((((((((((y1 ++ y4) ++ y8) ++ y12)) ++ y16)) ++ y20)) ++ y24)) ++ ([59] : List UInt8)), [], []⟩) (ef' := ⟨.str (((((((((((y1 ++ y4) ++ y8) ++ y12)) ++ y16)) ++ y20)) ++ y24)) ++ ([59] : List UInt8)), [], []⟩) (c := room (((((((((((y1 ++ y4) ++ y8) ++ y12)) ++ y16)) ++ y20)) ++ y24)).length + ([59] : List UInt8).length)) (tr2 := [([], []), ([], [])]) (H2 := [.box (encSt25 x0), .res, .res, .res, .res, .res, .res, .res, .res, .res, .res]) (by kernel_rfl) hm (fun hc => rfl) (by kernel_rfl) ?_
   refine RJ.segD 2 (tr2 := [([], []), ([], []), ([], []), ([0, 1], [])]) (L2 := [(31, lsv encSt106 2 x0.NPre_), (30, .ptr 0 2), (29, .str ((((((((((((y1 ++ y4) ++ y8) ++ y12)) ++ y16)) ++ y20)) ++ y24)) ++ ([59] : List UInt8)))), (28, .str ((((((((((y1 ++ y4) ++ y8) ++ y12)) ++ y16)) ++ y20)) ++ y24))), (1, .ptr 0 0), (2, .str ([] : List UInt8)), (3, .str ((((((((((y1 ++ y4) ++ y8) ++ y12)) ++ y16)) ++ y20)) ++ y24)))]) (H2 := [.box (encSt25 x0), .res, .res, .res, .res, .res, .res, .res, .res, .res, .res]) (by kernel_rfl) ?_
   obtain ⟨y53, hy54, h55⟩ := bindS h52
   refine RJ.call0 (d := (some 32)) (f := 86) (args := [lsv encSt106 2 x0.NPre_]) (v := .str y53) (tr2 := [([], []), ([], []), ([], []), ([0, 1], []), ([], [16, 17])]) (by kernel_rfl) (by kernel_rfl) (.cons (Le.refl _) .nil) (exergueref10_written_ok hy54) (by kernel_rfl) ?_
   obtain ⟨hm, h56⟩ := asrt h55
   refine RJ.rel (d := (some 33)) (ef := ⟨.str (((((((((((((y1 ++ y4) ++ y8) ++ y12)) ++ y16)) ++ y20)) ++ y24)) ++ ([59] : List UInt8))) ++ y53), [], []⟩) (ef' := ⟨.str (((((((((((((y1 ++ y4) ++ y8) ++ y12)) ++ y16)) ++ y20)) ++ y24)) ++ ([59] : List UInt8))) ++ y53), [], []⟩) (c := room (((((((((((((y1 ++ y4) ++ y8) ++ y12)) ++ y16)) ++ y20)) ++ y24)) ++ ([59] : List UInt8))).length + y53.length)) (tr2 := [([], []), ([], []), ([], []), ([0, 1], []), ([], [16, 17]), ([], [])]) (H2 := [.box (encSt25 x0), .res, .res, .res, .res, .res, .res, .res, .res, .res, .res]) (by kernel_rfl) hm (fun hc => rfl) (by kernel_rfl) ?_
   refine kD 1 ?_
   obtain ⟨y57, hy58, h59⟩ := bindS h56
   refine RJ.call0 (d := (some 35)) (f := 87) (args := [.agg (encSt25 x0)]) (v := .str y57) (tr2 := [([], []), ([], []), ([], []), ([0, 1], []), ([], [16, 17]), ([], []), ([0, 1], []), ([], [18, 19])]) (by kernel_rfl) (by kernel_rfl) (.cons (Le.refl _) .nil) (exergueref10_Number_ok hy58) (by kernel_rfl) ?_
   obtain ⟨hm, h60⟩ := asrt h59
   refine RJ.rel (d := (some 36)) (ef := ⟨.str (((((((((((((((y1 ++ y4) ++ y8) ++ y12)) ++ y16)) ++ y20)) ++ y24)) ++ ([59] : List UInt8))) ++ y53)) ++ y57), [], []⟩) (ef' := ⟨.str (((((((((((((((y1 ++ y4) ++ y8) ++ y12)) ++ y16)) ++ y20)) ++ y24)) ++ ([59] : List UInt8))) ++ y53)) ++ y57), [], []⟩) (c := room (((((((((((((((y1 ++ y4) ++ y8) ++ y12)) ++ y16)) ++ y20)) ++ y24)) ++ ([59] : List UInt8))) ++ y53)).length + y57.length)) (tr2 := [([], []), ([], []), ([], []), ([0, 1], []), ([], [16, 17]), ([], []), ([0, 1], []), ([], [18, 19]), ([], [])]) (H2 := [.box (encSt25 x0), .res, .res, .res, .res, .res, .res, .res, .res, .res, .res]) (by kernel_rfl) hm (fun hc => rfl) (by kernel_rfl) ?_
   refine kD 2 ?_
   obtain ⟨y61, hy62, h63⟩ := bindS h60
   refine RJ.call0 (d := (some 39)) (f := 86) (args := [lsv encSt106 2 x0.NSuf_]) (v := .str y61) (tr2 := [([], []), ([], []), ([], []), ([0, 1], []), ([], [16, 17]), ([], []), ([0, 1], []), ([], [18, 19]), ([], []), ([], []), ([0, 1], []), ([], [20, 21])]) (by kernel_rfl) (by kernel_rfl) (.cons (Le.refl _) .nil) (exergueref10_written_ok hy62) (by kernel_rfl) ?_
   obtain ⟨hm, h64⟩ := asrt h63
   refine RJ.rel (d := (some 40)) (ef := ⟨.str (((((((((((((((((y1 ++ y4) ++ y8) ++ y12)) ++ y16)) ++ y20)) ++ y24)) ++ ([59] : List UInt8))) ++ y53)) ++ y57)) ++ y61), [], []⟩) (ef' := ⟨.str (((((((((((((((((y1 ++ y4) ++ y8) ++ y12)) ++ y16)) ++ y20)) ++ y24)) ++ ([59] : List UInt8))) ++ y53)) ++ y57)) ++ y61), [], []⟩) (c := room (((((((((((((((((y1 ++ y4) ++ y8) ++ y12)) ++ y16)) ++ y20)) ++ y24)) ++ ([59] : List UInt8))) ++ y53)) ++ y57)).length + y61.length)) (tr2 := [([], []), ([], []), ([], []), ([0, 1], []), ([], [16, 17]), ([], []), ([0, 1], []), ([], [18, 19]), ([], []), ([], []), ([0, 1], []), ([], [20, 21]), ([], [])]) (H2 := [.box (encSt25 x0), .res, .res, .res, .res, .res, .res, .res, .res, .res, .res]) (by kernel_rfl) hm (fun hc => rfl) (by kernel_rfl) ?_
   refine kD 1 ?_
   refine kE ?_
   obtain rfl := oi h64
   refine PJ.wk (Wk.sel (L2 := [(2, .str ([] : List UInt8)), (3, .str ((((((((((((((((((y1 ++ y4) ++ y8) ++ y12)) ++ y16)) ++ y20)) ++ y24)) ++ ([59] : List UInt8))) ++ y53)) ++ y57)) ++ y61)))]) (H2 := []) 0 (by rw [hFH]; rfl) hFD [] (by kernel_rfl) (by kernel_rfl) (by decide) (by kernel_rfl) (by kernel_rfl) (by kernel_rfl) (by kernel_rfl)) ?_
   exact kN [2, 3]
  ·have h51 := condF hb49 hy46
   refine kF ?_
   refine kK ?_
   obtain rfl := oi h51
   refine PJ.wk (Wk.sel (L2 := [(2, .str ([] : List UInt8)), (3, .str ((((((((((y1 ++ y4) ++ y8) ++ y12)) ++ y16)) ++ y20)) ++ y24)))]) (H2 := []) 0 (by rw [hFH]; rfl) hFD [] (by kernel_rfl) (by kernel_rfl) (by decide) (by kernel_rfl) (by kernel_rfl) (by kernel_rfl) (by kernel_rfl)) ?_
   exact kN [2, 3]
 ·refine kSR ?_
  refine kC 2 [2] ?_
  refine kEN ?_
  refine kX ?_
  obtain rfl := oi h48
  exact kZ hFn hFH hFD

def exergueref01_tails (x0 : List Int) (x1 : Int) (x2 : Int) (x3 : Int) : Option (Int) :=
 (bif (decide ((IntKind.wrap .i64 (x1 + x2)) ≥ (x0.length : Int))) then (some (-1)) else (Option.bind (loopN (fun (s306 : Int × Int) => (bif (decide (s306.2 ≤ x2)) then (Option.bind (bif inR (IntKind.wrap .i64 (x1 + s306.2)) x0.length then (Option.bind (Option.bind (bif (decide (((IntKind.wrap .i64 ((nth x0 (IntKind.wrap .i64 (x1 + s306.2)))))) < 128)) then (some true) else (some ((decide (((IntKind.wrap .i64 ((nth x0 (IntKind.wrap .i64 (x1 + s306.2)))))) > 191))))) fun (s585 : Bool) => (bif s585 then (some (.inr (.inr (.inr (.inr (-1)))))) else (some (.inl ())))) (joinX fun (s577 : Unit) => (some (.inl ())))) else none) (joinX fun (s552 : Unit) => (some (.inl ((IntKind.wrap .i64 (((IntKind.wrap .i64 ((IntKind.wrap .i64 (s306.1 * 64)) + ((IntKind.wrap .i64 ((nth x0 (IntKind.wrap .i64 (x1 + s306.2))))))))) - 128)), (IntKind.wrap .i64 (s306.2 + 1))))))) else (some (.inr (.inl s306.1))))) big (x3, 1)) (joinX fun (s301 : Int) => (some s301))))
theorem exergueref01_tails_ok {x0 : List Int} {x1 : Int} {x2 : Int} {x3 : Int} {r : Int} (h : exergueref01_tails x0 x1 x2 x3 = some r) : SC Tryz.prog 124 [lsv (encI .u8) 1 x0, .int .i64 x1, .int .i64 x2, .int .i64 x3] [] (.int .i64 r) [] := by
 refine kFn (fn := Tryz.f124) (fun F hFn hFH hFD => ?_)
 unfold exergueref01_tails at h
 refine kSR ?_
 refine kC 1 [0,1,2,3,8] ?_
 refine kEN ?_
 refine kS ?_
 refine kSR ?_
 refine kC 6 [0,1,2,3,8,16] ?_
 refine kEN ?_
 refine J.caseB 16 (b := (decide ((IntKind.wrap .i64 (x1 + x2)) ≥ (x0.length : Int)))) (by kernel_rfl) (fun hb1 => ?_) (fun hb1 => ?_)
 ·have h2 := condT hb1 h
  refine kT ?_
  refine kSR ?_
  refine kC 1 [0,1,2,3,8] ?_
  refine kEN ?_
  refine kX ?_
  refine PJ.passRet ?_
  obtain rfl := oi h2
  exact kZ hFn hFH hFD
 ·have h3 := condF hb1 h
  refine kF ?_
  refine kK ?_
  refine PJ.next ?_
  obtain ⟨y302, hy303, h304⟩ := bindS h3
  refine K.cutX (by kernel_rfl) (fun (s301 : Int) => ([(3, .int .i64 s301), (8, .int .i64 0)], [])) y302 ?_ (fun s301 hs => ?_)
  ·refine kSR ?_
   refine kC 1 [0,1,2,3,8,9] ?_
   refine kEN ?_
   refine K.block 0 (by kernel_rfl) ?_
   refine K.loop (by kernel_rfl) (fun (s306 : Int × Int) => ([(0, lsv (encI .u8) 1 x0), (1, .int .i64 x1), (2, .int .i64 x2), (3, .int .i64 s306.1), (8, .int .i64 0), (9, .int .i64 s306.2)], [])) hy303 [0, 1, 2, 3, 8, 9] (by kernel_rfl) (by kernel_rfl) (fun s306 x504 hs503 => ?_)
   refine kS ?_
   refine kSR ?_
   refine kC 3 [0,1,2,3,8,9,19] ?_
   refine kEN ?_
   refine J.caseB 19 (b := (decide (s306.2 ≤ x2))) (by kernel_rfl) (fun hb505 => ?_) (fun hb505 => ?_)
   ·have h506 := condT hb505 hs503
    refine kT ?_
    refine kK ?_
    refine PJ.next ?_
    obtain ⟨y553, hy554, h555⟩ := bindS h506
    refine K.cutX (by kernel_rfl) (fun (s552 : Unit) => ([(0, lsv (encI .u8) 1 x0), (1, .int .i64 x1), (2, .int .i64 x2), (3, .int .i64 ((IntKind.wrap .i64 (((IntKind.wrap .i64 ((IntKind.wrap .i64 (s306.1 * 64)) + ((IntKind.wrap .i64 ((nth x0 (IntKind.wrap .i64 (x1 + s306.2))))))))) - 128)))), (8, .int .i64 0), (9, .int .i64 s306.2)], [])) y553 ?_ (fun s552 hs => ?_)
    ·refine K.block 1 (by kernel_rfl) ?_
     refine kSR ?_
     refine kC 4 [0,1,2,3,8,9,22,25] ?_
     obtain ⟨hm, h557⟩ := asrt hy554
     refine RJ.rel (d := (some 26)) (ef := ⟨.ep (((x0.flatMap (encI .u8)).drop (((IntKind.wrap .i64 (x1 + s306.2)) : Int).toNat * 1)).take 1), [], []⟩) (ef' := ⟨.ep ((encI .u8) (nth x0 (IntKind.wrap .i64 (x1 + s306.2)))), [], []⟩) (c := inR (IntKind.wrap .i64 (x1 + s306.2)) x0.length) (tr2 := []) (H2 := []) (by kernel_rfl) hm (fun hc => N.idx (encI_len .u8) hc) (by kernel_rfl) ?_
     refine kC 3 [0,1,2,3,8,9,10] ?_
     refine kEN ?_
     obtain ⟨y578, hy579, h580⟩ := bindS h557
     refine K.cutX (by kernel_rfl) (fun (s577 : Unit) => ([(0, lsv (encI .u8) 1 x0), (1, .int .i64 x1), (2, .int .i64 x2), (3, .int .i64 s306.1), (8, .int .i64 0), (9, .int .i64 s306.2), (10, .int .i64 ((IntKind.wrap .i64 ((nth x0 (IntKind.wrap .i64 (x1 + s306.2)))))))], [])) y578 ?_ (fun s577 hs => ?_)
     ·obtain ⟨s585, hy587, h589⟩ := bindS hy579
      refine K.cutN (by kernel_rfl) (fun (s585 : Bool) => ([(0, lsv (encI .u8) 1 x0), (1, .int .i64 x1), (2, .int .i64 x2), (3, .int .i64 s306.1), (8, .int .i64 0), (9, .int .i64 s306.2), (10, .int .i64 ((IntKind.wrap .i64 ((nth x0 (IntKind.wrap .i64 (x1 + s306.2))))))), (34, .bool s585)], [])) s585 ?_ ?_
      ·refine kR ?_
       refine RJ.seg 3 [0, 1, 2, 3, 8, 9, 10, 31] (L2 := [(0, lsv (encI .u8) 1 x0), (1, .int .i64 x1), (2, .int .i64 x2), (3, .int .i64 s306.1), (8, .int .i64 0), (9, .int .i64 s306.2), (10, .int .i64 ((IntKind.wrap .i64 ((nth x0 (IntKind.wrap .i64 (x1 + s306.2))))))), (31, .bool ((decide (((IntKind.wrap .i64 ((nth x0 (IntKind.wrap .i64 (x1 + s306.2)))))) < 128))))]) (H2 := []) (by kernel_rfl) ?_
       refine RJ.caseB 31 (b := (decide (((IntKind.wrap .i64 ((nth x0 (IntKind.wrap .i64 (x1 + s306.2)))))) < 128))) (by kernel_rfl) (fun hb590 => ?_) (fun hb590 => ?_)
       ·have h591 := condT hb590 hy587
        refine kC 3 [0,1,2,3,8,9,10,34] ?_
        refine kE ?_
        obtain rfl := oi h591
        exact kN [0, 1, 2, 3, 8, 9, 10, 34]
       ·have h592 := condF hb590 hy587
        refine kC 3 [0,1,2,3,8,9,10,34] ?_
        refine kE ?_
        obtain rfl := oi h592
        exact kN [0, 1, 2, 3, 8, 9, 10, 34]
      ·refine J.caseB 34 (b := s585) (by kernel_rfl) (fun hb593 => ?_) (fun hb593 => ?_)
       ·have h594 := condT hb593 h589
        refine kT ?_
        refine kSR ?_
        refine kC 1 [0,1,2,3,8,9,10] ?_
        refine kEN ?_
        refine kX ?_
        obtain rfl := oi h594
        have h596 := joinX_inr h580
        refine PJ.cutXr (fun e => nomatch e) ?_
        refine PJ.blockRet ?_
        obtain rfl := oi h596
        have h597 := joinX_inr h555
        refine PJ.cutXr (fun e => nomatch e) ?_
        obtain rfl := oi h597
        refine PJ.loopOut (fun e => nomatch e) (fun he600 => ?_)
        have h598 := congrArg some he600
        refine PJ.blockRet ?_
        obtain rfl := oi h598
        have h599 := joinX_inr h304
        refine PJ.cutXr (fun e => nomatch e) ?_
        obtain rfl := oi h599
        exact kZ hFn hFH hFD
       ·have h595 := condF hb593 h589
        refine kF ?_
        refine kK ?_
        obtain rfl := oi h595
        exact PJ.cutXl [0, 1, 2, 3, 8, 9, 10] (by kernel_rfl) (by kernel_rfl)
     ·subst hs
      have h581 := joinX_inl h580
      refine kR ?_
      refine kC 6 [0,1,2,3,8,9] ?_
      refine kE ?_
      refine PJ.blockNormal ?_
      obtain rfl := oi h581
      exact PJ.cutXl [0, 1, 2, 3, 8, 9] (by kernel_rfl) (by kernel_rfl)
    ·subst hs
     have h556 := joinX_inl h555
     refine kR ?_
     refine kC 3 [0,1,2,3,8,9] ?_
     refine kE ?_
     obtain rfl := oi h556
     exact PJ.loopNext [0, 1, 2, 3, 8, 9] (by kernel_rfl) (by kernel_rfl)
   ·have h507 := condF hb505 hs503
    refine kF ?_
    refine K.exit 0 (by kernel_rfl) ?_
    refine PJ.passExit ?_
    obtain rfl := oi h507
    refine PJ.loopOut (fun e => nomatch e) (fun he602 => ?_)
    have h601 := congrArg some he602
    refine PJ.blockOut ?_
    obtain rfl := oi h601
    exact PJ.cutXl [3, 8] (by kernel_rfl) (by kernel_rfl)
  ·subst hs
   have h305 := joinX_inl h304
   refine kSR ?_
   refine kC 2 [8] ?_
   refine kEN ?_
   refine kX ?_
   obtain rfl := oi h305
   exact kZ hFn hFH hFD

def exergueref01_one (x0 : List Int) (x1 : Int) : Option (Int) :=
 (bif inR x1 x0.length then (Option.bind (bif (decide ((IntKind.wrap .i64 (nth x0 x1)) < 128)) then (some (IntKind.wrap .i64 (nth x0 x1))) else (some (-1))) fun (s5 : Int) => (Option.bind (Option.bind (bif (decide ((IntKind.wrap .i64 (nth x0 x1)) ≥ 192)) then (some ((decide ((IntKind.wrap .i64 (nth x0 x1)) < 224)))) else (some false)) fun (s38 : Bool) => (bif s38 then (Option.bind (exergueref01_tails x0 x1 1 ((IntKind.wrap .i64 ((IntKind.wrap .i64 (nth x0 x1)) - 192)))) fun y49 => (some (y49, 128))) else (some (s5, 0)))) fun (s30 : Int × Int) => (Option.bind (Option.bind (bif (decide ((IntKind.wrap .i64 (nth x0 x1)) ≥ 224)) then (some ((decide ((IntKind.wrap .i64 (nth x0 x1)) < 240)))) else (some false)) fun (s77 : Bool) => (bif s77 then (Option.bind (exergueref01_tails x0 x1 2 ((IntKind.wrap .i64 ((IntKind.wrap .i64 (nth x0 x1)) - 224)))) fun y88 => (some (y88, 2048))) else (some (s30.1, s30.2)))) fun (s69 : Int × Int) => (Option.bind (Option.bind (bif (decide ((IntKind.wrap .i64 (nth x0 x1)) ≥ 240)) then (some ((decide ((IntKind.wrap .i64 (nth x0 x1)) < 248)))) else (some false)) fun (s116 : Bool) => (bif s116 then (Option.bind (exergueref01_tails x0 x1 3 ((IntKind.wrap .i64 ((IntKind.wrap .i64 (nth x0 x1)) - 240)))) fun y127 => (some (y127, 65536))) else (some (s69.1, s69.2)))) fun (s108 : Int × Int) => (Option.bind (exergueref01_Is (IntKind.wrap .i32 s108.1)) fun y130 => (Option.bind (Option.bind (bif (decide (s108.1 < s108.2)) then (some true) else (some (!y130))) fun (s156 : Bool) => (bif s156 then (some (.inr (-1))) else (some (.inl ())))) (joinX fun (s148 : Unit) => (some s108.1)))))))) else none)
theorem exergueref01_one_ok {x0 : List Int} {x1 : Int} {r : Int} (h : exergueref01_one x0 x1 = some r) : SC Tryz.prog 105 [lsv (encI .u8) 1 x0, .int .i64 x1] [] (.int .i64 r) [] := by
 refine kFn (fn := Tryz.f105) (fun F hFn hFH hFD => ?_)
 unfold exergueref01_one at h
 refine kSR ?_
 refine kC 1 [0,1,4] ?_
 refine kEN ?_
 refine kSR ?_
 refine kC 2 [0,1,4,9,10] ?_
 obtain ⟨hm, h1⟩ := asrt h
 refine RJ.rel (d := (some 11)) (ef := ⟨.ep (((x0.flatMap (encI .u8)).drop ((x1 : Int).toNat * 1)).take 1), [], []⟩) (ef' := ⟨.ep ((encI .u8) (nth x0 x1)), [], []⟩) (c := inR x1 x0.length) (tr2 := []) (H2 := []) (by kernel_rfl) hm (fun hc => N.idx (encI_len .u8) hc) (by kernel_rfl) ?_
 refine kC 3 [0,1,4,5] ?_
 refine kEN ?_
 refine kSR ?_
 refine RJ.seg 1 [0, 1, 4, 5, 6] (L2 := [(0, lsv (encI .u8) 1 x0), (1, .int .i64 x1), (4, .int .i64 0), (5, .int .i64 (IntKind.wrap .i64 (nth x0 x1))), (6, .int .i64 (-1))]) (H2 := []) (by kernel_rfl) ?_
 refine kEN ?_
 refine kSR ?_
 refine kC 1 [0,1,4,5,6,7] ?_
 refine kEN ?_
 obtain ⟨s5, hy7, h9⟩ := bindS h1
 refine K.cutN (by kernel_rfl) (fun (s5 : Int) => ([(0, lsv (encI .u8) 1 x0), (1, .int .i64 x1), (4, .int .i64 0), (5, .int .i64 (IntKind.wrap .i64 (nth x0 x1))), (6, .int .i64 s5), (7, .int .i64 0)], [])) s5 ?_ ?_
 ·refine kSR ?_
  refine kC 2 [0,1,4,5,6,7,15] ?_
  refine kEN ?_
  refine J.caseB 15 (b := (decide ((IntKind.wrap .i64 (nth x0 x1)) < 128))) (by kernel_rfl) (fun hb10 => ?_) (fun hb10 => ?_)
  ·have h11 := condT hb10 hy7
   refine kT ?_
   refine kR ?_
   refine kC 2 [0,1,4,5,6,7] ?_
   refine kE ?_
   obtain rfl := oi h11
   exact kN [0, 1, 4, 5, 6, 7]
  ·have h12 := condF hb10 hy7
   refine kF ?_
   refine kK ?_
   obtain rfl := oi h12
   exact kN [0, 1, 4, 5, 6, 7]
 ·obtain ⟨s30, hy32, h34⟩ := bindS h9
  refine K.cutN (by kernel_rfl) (fun (s30 : Int × Int) => ([(0, lsv (encI .u8) 1 x0), (1, .int .i64 x1), (4, .int .i64 0), (5, .int .i64 (IntKind.wrap .i64 (nth x0 x1))), (6, .int .i64 s30.1), (7, .int .i64 s30.2)], [])) s30 ?_ ?_
  ·obtain ⟨s38, hy40, h42⟩ := bindS hy32
   refine K.cutN (by kernel_rfl) (fun (s38 : Bool) => ([(0, lsv (encI .u8) 1 x0), (1, .int .i64 x1), (4, .int .i64 0), (5, .int .i64 (IntKind.wrap .i64 (nth x0 x1))), (6, .int .i64 s5), (7, .int .i64 0), (22, .bool s38)], [])) s38 ?_ ?_
   ·refine kR ?_
    refine kC 3 [0,1,4,5,6,7,19] ?_
    refine RJ.caseB 19 (b := (decide ((IntKind.wrap .i64 (nth x0 x1)) ≥ 192))) (by kernel_rfl) (fun hb43 => ?_) (fun hb43 => ?_)
    ·have h44 := condT hb43 hy40
     refine kC 3 [0,1,4,5,6,7,22] ?_
     refine kE ?_
     obtain rfl := oi h44
     exact kN [0, 1, 4, 5, 6, 7, 22]
    ·have h45 := condF hb43 hy40
     refine kC 3 [0,1,4,5,6,7,22] ?_
     refine kE ?_
     obtain rfl := oi h45
     exact kN [0, 1, 4, 5, 6, 7, 22]
   ·refine J.caseB 22 (b := s38) (by kernel_rfl) (fun hb46 => ?_) (fun hb46 => ?_)
    ·have h47 := condT hb46 h42
     refine kT ?_
     refine kSR ?_
     refine kC 4 [0,1,4,5,6,7,23,24,26] ?_
     obtain ⟨y49, hy50, h51⟩ := bindS h47
     refine RJ.call0 (d := (some 27)) (f := 124) (args := [lsv (encI .u8) 1 x0, .int .i64 x1, .int .i64 1, .int .i64 ((IntKind.wrap .i64 ((IntKind.wrap .i64 (nth x0 x1)) - 192)))]) (v := .int .i64 y49) (tr2 := []) (by kernel_rfl) (by kernel_rfl) (.cons (Le.refl _) (.cons (Le.refl _) (.cons (Le.refl _) (.cons (Le.refl _) .nil)))) (exergueref01_tails_ok hy50) (by kernel_rfl) ?_
     refine kC 1 [0,1,4,5,6,7] ?_
     refine kEN ?_
     refine kR ?_
     refine kC 1 [0,1,4,5,6,7] ?_
     refine kE ?_
     obtain rfl := oi h51
     exact kN [0, 1, 4, 5, 6, 7]
    ·have h48 := condF hb46 h42
     refine kF ?_
     refine kK ?_
     obtain rfl := oi h48
     exact kN [0, 1, 4, 5, 6, 7]
  ·obtain ⟨s69, hy71, h73⟩ := bindS h34
   refine K.cutN (by kernel_rfl) (fun (s69 : Int × Int) => ([(0, lsv (encI .u8) 1 x0), (1, .int .i64 x1), (4, .int .i64 0), (5, .int .i64 (IntKind.wrap .i64 (nth x0 x1))), (6, .int .i64 s69.1), (7, .int .i64 s69.2)], [])) s69 ?_ ?_
   ·obtain ⟨s77, hy79, h81⟩ := bindS hy71
    refine K.cutN (by kernel_rfl) (fun (s77 : Bool) => ([(0, lsv (encI .u8) 1 x0), (1, .int .i64 x1), (4, .int .i64 0), (5, .int .i64 (IntKind.wrap .i64 (nth x0 x1))), (6, .int .i64 s30.1), (7, .int .i64 s30.2), (33, .bool s77)], [])) s77 ?_ ?_
    ·refine kR ?_
     refine kC 3 [0,1,4,5,6,7,30] ?_
     refine RJ.caseB 30 (b := (decide ((IntKind.wrap .i64 (nth x0 x1)) ≥ 224))) (by kernel_rfl) (fun hb82 => ?_) (fun hb82 => ?_)
     ·have h83 := condT hb82 hy79
      refine kC 3 [0,1,4,5,6,7,33] ?_
      refine kE ?_
      obtain rfl := oi h83
      exact kN [0, 1, 4, 5, 6, 7, 33]
     ·have h84 := condF hb82 hy79
      refine kC 3 [0,1,4,5,6,7,33] ?_
      refine kE ?_
      obtain rfl := oi h84
      exact kN [0, 1, 4, 5, 6, 7, 33]
    ·refine J.caseB 33 (b := s77) (by kernel_rfl) (fun hb85 => ?_) (fun hb85 => ?_)
     ·have h86 := condT hb85 h81
      refine kT ?_
      refine kSR ?_
      refine kC 4 [0,1,4,5,6,7,34,35,37] ?_
      obtain ⟨y88, hy89, h90⟩ := bindS h86
      refine RJ.call0 (d := (some 38)) (f := 124) (args := [lsv (encI .u8) 1 x0, .int .i64 x1, .int .i64 2, .int .i64 ((IntKind.wrap .i64 ((IntKind.wrap .i64 (nth x0 x1)) - 224)))]) (v := .int .i64 y88) (tr2 := []) (by kernel_rfl) (by kernel_rfl) (.cons (Le.refl _) (.cons (Le.refl _) (.cons (Le.refl _) (.cons (Le.refl _) .nil)))) (exergueref01_tails_ok hy89) (by kernel_rfl) ?_
      refine kC 1 [0,1,4,5,6,7] ?_
      refine kEN ?_
      refine kR ?_
      refine kC 1 [0,1,4,5,6,7] ?_
      refine kE ?_
      obtain rfl := oi h90
      exact kN [0, 1, 4, 5, 6, 7]
     ·have h87 := condF hb85 h81
      refine kF ?_
      refine kK ?_
      obtain rfl := oi h87
      exact kN [0, 1, 4, 5, 6, 7]
   ·obtain ⟨s108, hy110, h112⟩ := bindS h73
    refine K.cutN (by kernel_rfl) (fun (s108 : Int × Int) => ([(4, .int .i64 0), (6, .int .i64 s108.1), (7, .int .i64 s108.2)], [])) s108 ?_ ?_
    ·obtain ⟨s116, hy118, h120⟩ := bindS hy110
     refine K.cutN (by kernel_rfl) (fun (s116 : Bool) => ([(0, lsv (encI .u8) 1 x0), (1, .int .i64 x1), (4, .int .i64 0), (5, .int .i64 (IntKind.wrap .i64 (nth x0 x1))), (6, .int .i64 s69.1), (7, .int .i64 s69.2), (44, .bool s116)], [])) s116 ?_ ?_
     ·refine kR ?_
      refine kC 3 [0,1,4,5,6,7,41] ?_
      refine RJ.caseB 41 (b := (decide ((IntKind.wrap .i64 (nth x0 x1)) ≥ 240))) (by kernel_rfl) (fun hb121 => ?_) (fun hb121 => ?_)
      ·have h122 := condT hb121 hy118
       refine kC 3 [0,1,4,5,6,7,44] ?_
       refine kE ?_
       obtain rfl := oi h122
       exact kN [0, 1, 4, 5, 6, 7, 44]
      ·have h123 := condF hb121 hy118
       refine kC 3 [0,1,4,5,6,7,44] ?_
       refine kE ?_
       obtain rfl := oi h123
       exact kN [0, 1, 4, 5, 6, 7, 44]
     ·refine J.caseB 44 (b := s116) (by kernel_rfl) (fun hb124 => ?_) (fun hb124 => ?_)
      ·have h125 := condT hb124 h120
       refine kT ?_
       refine kSR ?_
       refine kC 4 [4,6,7,45,46,48] ?_
       obtain ⟨y127, hy128, h129⟩ := bindS h125
       refine RJ.call0 (d := (some 49)) (f := 124) (args := [lsv (encI .u8) 1 x0, .int .i64 x1, .int .i64 3, .int .i64 ((IntKind.wrap .i64 ((IntKind.wrap .i64 (nth x0 x1)) - 240)))]) (v := .int .i64 y127) (tr2 := []) (by kernel_rfl) (by kernel_rfl) (.cons (Le.refl _) (.cons (Le.refl _) (.cons (Le.refl _) (.cons (Le.refl _) .nil)))) (exergueref01_tails_ok hy128) (by kernel_rfl) ?_
       refine kC 1 [4,6,7] ?_
       refine kEN ?_
       refine kR ?_
       refine kC 1 [4,6,7] ?_
       refine kE ?_
       obtain rfl := oi h129
       exact kN [4, 6, 7]
      ·have h126 := condF hb124 h120
       refine kF ?_
       refine kK ?_
       obtain rfl := oi h126
       exact kN [4, 6, 7]
    ·refine kSR ?_
     refine kC 2 [4,6,7,51] ?_
     obtain ⟨y130, hy131, h132⟩ := bindS h112
     refine RJ.call0 (d := (some 52)) (f := 55) (args := [.int .i32 (IntKind.wrap .i32 s108.1)]) (v := .bool y130) (tr2 := []) (by kernel_rfl) (by kernel_rfl) (.cons (Le.refl _) .nil) (exergueref01_Is_ok hy131) (by kernel_rfl) ?_
     refine kC 1 [4,6,7,8] ?_
     refine kEN ?_
     obtain ⟨y149, hy150, h151⟩ := bindS h132
     refine K.cutX (by kernel_rfl) (fun (s148 : Unit) => ([(4, .int .i64 0), (6, .int .i64 s108.1)], [])) y149 ?_ (fun s148 hs => ?_)
     ·obtain ⟨s156, hy158, h160⟩ := bindS hy150
      refine K.cutN (by kernel_rfl) (fun (s156 : Bool) => ([(4, .int .i64 0), (6, .int .i64 s108.1), (59, .bool s156)], [])) s156 ?_ ?_
      ·refine kR ?_
       refine kC 4 [4,6,8,56] ?_
       refine RJ.caseB 56 (b := (decide (s108.1 < s108.2))) (by kernel_rfl) (fun hb161 => ?_) (fun hb161 => ?_)
       ·have h162 := condT hb161 hy158
        refine RJ.seg 3 [4, 6, 59] (L2 := [(4, .int .i64 0), (6, .int .i64 s108.1), (59, .bool true)]) (H2 := []) (by kernel_rfl) ?_
        refine kE ?_
        obtain rfl := oi h162
        exact kN [4, 6, 59]
       ·have h163 := condF hb161 hy158
        refine RJ.seg 3 [4, 6, 59] (L2 := [(4, .int .i64 0), (6, .int .i64 s108.1), (59, .bool (!y130))]) (H2 := []) (by kernel_rfl) ?_
        refine kE ?_
        obtain rfl := oi h163
        exact kN [4, 6, 59]
      ·refine J.caseB 59 (b := s156) (by kernel_rfl) (fun hb164 => ?_) (fun hb164 => ?_)
       ·have h165 := condT hb164 h160
        refine kT ?_
        refine kSR ?_
        refine kC 1 [4,6] ?_
        refine kEN ?_
        refine kX ?_
        obtain rfl := oi h165
        have h167 := joinX_inr h151
        refine PJ.cutXr (fun e => nomatch e) ?_
        obtain rfl := oi h167
        exact kZ hFn hFH hFD
       ·have h166 := condF hb164 h160
        refine kF ?_
        refine kK ?_
        obtain rfl := oi h166
        exact PJ.cutXl [4, 6] (by kernel_rfl) (by kernel_rfl)
     ·subst hs
      have h152 := joinX_inl h151
      refine kSR ?_
      refine kC 2 [4] ?_
      refine kEN ?_
      refine kX ?_
      obtain rfl := oi h152
      exact kZ hFn hFH hFD

def exergueref01_Decode (x0 : List Int) : Option ((List Int) × Int × Int) :=
 (Option.bind (loopN (fun (s63 : Int × (List Int)) => (bif (decide (s63.1 < (x0.length : Int))) then (Option.bind (exergueref01_one x0 s63.1) fun y105 => (bif (decide (y105 < 0)) then (some (.inr (.inr (([] : List Int), s63.1, 3)))) else (bif room (s63.2.length + ([(IntKind.wrap .i32 y105)] : List Int).length) then (Option.bind (exergueref01_Size (IntKind.wrap .i32 y105)) fun y115 => (some (.inl ((IntKind.wrap .i64 (s63.1 + y115)), (s63.2 ++ ([(IntKind.wrap .i32 y105)] : List Int)))))) else none))) else (some (.inr (.inl s63.2))))) big (0, ([] : List Int))) (joinX fun (s58 : (List Int)) => (some (s58, 0, 0))))
theorem exergueref01_Decode_ok {x0 : List Int} {r : (List Int) × Int × Int} (h : exergueref01_Decode x0 = some r) : SC Tryz.prog 81 [lsv (encI .u8) 1 x0] [] (.tup [lsv (encI .i32) 1 r.1, .int .i64 r.2.1, .int .i64 r.2.2]) [] := by
 refine kFn (fn := Tryz.f81) (fun F hFn hFH hFD => ?_)
 unfold exergueref01_Decode at h
 refine kSR ?_
 refine kC 3 [0,2,3,4] ?_
 refine kEN ?_
 refine kSR ?_
 refine kC 1 [0,2,3,4,5] ?_
 refine kEN ?_
 refine kSR ?_
 refine kC 1 [0,2,3,4,5,6] ?_
 refine kEN ?_
 obtain ⟨y59, hy60, h61⟩ := bindS h
 refine K.cutX (by kernel_rfl) (fun (s58 : (List Int)) => ([(2, .nl), (3, .int .i64 0), (4, .int .i64 0), (5, .vc 0)], [vecL (encI .i32) 1 21 s58])) y59 ?_ (fun s58 hs => ?_)
 ·refine K.block 0 (by kernel_rfl) ?_
  refine J.wk (Wk.viv 5 1 21 (by kernel_rfl)) ?_
  refine K.loop (by kernel_rfl) (fun (s63 : Int × (List Int)) => ([(0, lsv (encI .u8) 1 x0), (2, .nl), (3, .int .i64 0), (4, .int .i64 0), (5, .vc 0), (6, .int .i64 s63.1)], [vecL (encI .i32) 1 21 s63.2])) hy60 [0, 2, 3, 4, 5, 6] (by kernel_rfl) (by kernel_rfl) (fun s63 x101 hs100 => ?_)
  refine kS ?_
  refine kSR ?_
  refine kC 4 [0,2,3,4,5,6,11] ?_
  refine kEN ?_
  refine J.caseB 11 (b := (decide (s63.1 < (x0.length : Int)))) (by kernel_rfl) (fun hb102 => ?_) (fun hb102 => ?_)
  ·have h103 := condT hb102 hs100
   refine kT ?_
   refine kK ?_
   refine PJ.next ?_
   refine K.block 1 (by kernel_rfl) ?_
   refine kSR ?_
   refine kC 2 [0,2,3,4,5,6,12,13] ?_
   obtain ⟨y105, hy106, h107⟩ := bindS h103
   refine RJ.call0 (d := (some 14)) (f := 105) (args := [lsv (encI .u8) 1 x0, .int .i64 s63.1]) (v := .int .i64 y105) (tr2 := []) (by kernel_rfl) (by kernel_rfl) (.cons (Le.refl _) (.cons (Le.refl _) .nil)) (exergueref01_one_ok hy106) (by kernel_rfl) ?_
   refine kC 1 [0,2,3,4,5,6,7] ?_
   refine kEN ?_
   refine kS ?_
   refine kSR ?_
   refine RJ.seg 2 [0, 2, 3, 4, 5, 6, 7, 16] (L2 := [(0, lsv (encI .u8) 1 x0), (2, .nl), (3, .int .i64 0), (4, .int .i64 0), (5, .vc 0), (6, .int .i64 s63.1), (7, .int .i64 y105), (16, .bool (decide (y105 < 0)))]) (H2 := [vecL (encI .i32) 1 21 s63.2]) (by kernel_rfl) ?_
   refine kEN ?_
   refine J.caseB 16 (b := (decide (y105 < 0))) (by kernel_rfl) (fun hb108 => ?_) (fun hb108 => ?_)
   ·have h109 := condT hb108 h107
    refine kT ?_
    refine kSR ?_
    refine kC 4 [0,2,3,4,5,6,7] ?_
    refine kEN ?_
    refine kX ?_
    refine PJ.passRet ?_
    refine PJ.blockRet ?_
    obtain rfl := oi h109
    refine PJ.loopOut (fun e => nomatch e) (fun he113 => ?_)
    have h111 := congrArg some he113
    refine PJ.blockRet ?_
    obtain rfl := oi h111
    have h112 := joinX_inr h61
    refine PJ.cutXr (fun e => nomatch e) ?_
    obtain rfl := oi h112
    refine PJ.res (v1 := .tup [.nl, .int .i64 s63.1, .int .i64 3]) (Le.tup (.cons (Le.nl _) (.cons (Le.refl _) (.cons (Le.refl _) .nil)))) ?_
    exact kZ hFn hFH hFD
   ·have h110 := condF hb108 h107
    refine kF ?_
    refine kK ?_
    refine PJ.next ?_
    refine kSR ?_
    refine kC 4 [0,2,3,4,5,6,7,18,21] ?_
    obtain ⟨hm, h114⟩ := asrt h110
    refine RJ.rel (d := (some 22)) (ef := ⟨.vc 2, [0, 1], [(0, .gone), (2, .vec (s63.2.length + ([(IntKind.wrap .i32 y105)] : List Int).length) 1 21 (s63.2.flatMap (encI .i32) ++ ([(IntKind.wrap .i32 y105)] : List Int).flatMap (encI .i32)))]⟩) (ef' := ⟨.vc 2, [0, 1], [(0, .gone), (2, vecL (encI .i32) 1 21 (s63.2 ++ ([(IntKind.wrap .i32 y105)] : List Int)))]⟩) (c := room (s63.2.length + ([(IntKind.wrap .i32 y105)] : List Int).length)) (tr2 := []) (H2 := [.gone, vecL (encI .i32) 1 21 ([(IntKind.wrap .i32 y105)] : List Int), vecL (encI .i32) 1 21 ((s63.2 ++ ([(IntKind.wrap .i32 y105)] : List Int)))]) (by kernel_rfl) hm (fun hc => N.app) (by kernel_rfl) ?_
    refine kC 1 [0,2,3,4,5,6,7] ?_
    refine kEN ?_
    refine kR ?_
    refine kC 3 [0,2,3,4,5,6,23,25] ?_
    obtain ⟨y115, hy116, h117⟩ := bindS h114
    refine RJ.call0 (d := (some 26)) (f := 106) (args := [.int .i32 (IntKind.wrap .i32 y105)]) (v := .int .i64 y115) (tr2 := []) (by kernel_rfl) (by kernel_rfl) (.cons (Le.refl _) .nil) (exergueref01_Size_ok hy116) (by kernel_rfl) ?_
    refine RJ.seg 2 [0, 2, 3, 4, 5, 6] (L2 := [(0, lsv (encI .u8) 1 x0), (2, .nl), (3, .int .i64 0), (4, .int .i64 0), (5, .vc 2), (6, .int .i64 (IntKind.wrap .i64 (s63.1 + y115)))]) (H2 := [.gone, vecL (encI .i32) 1 21 ([(IntKind.wrap .i32 y105)] : List Int), vecL (encI .i32) 1 21 ((s63.2 ++ ([(IntKind.wrap .i32 y105)] : List Int)))]) (by kernel_rfl) ?_
    refine kE ?_
    refine PJ.blockNormal ?_
    obtain rfl := oi h117
    refine PJ.wk (Wk.sel (L2 := [(0, lsv (encI .u8) 1 x0), (2, .nl), (3, .int .i64 0), (4, .int .i64 0), (5, .vc 0), (6, .int .i64 (IntKind.wrap .i64 (s63.1 + y115)))]) (H2 := [vecL (encI .i32) 1 21 ((s63.2 ++ ([(IntKind.wrap .i32 y105)] : List Int)))]) 0 (by rw [hFH]; rfl) hFD [2] (by kernel_rfl) (by kernel_rfl) (by decide) (by kernel_rfl) (by kernel_rfl) (by kernel_rfl) (by kernel_rfl)) ?_
    exact PJ.loopNext [0, 2, 3, 4, 5, 6] (by kernel_rfl) (by kernel_rfl)
  ·have h104 := condF hb102 hs100
   refine kF ?_
   refine K.exit 0 (by kernel_rfl) ?_
   refine PJ.passExit ?_
   obtain rfl := oi h104
   refine PJ.loopOut (fun e => nomatch e) (fun he119 => ?_)
   have h118 := congrArg some he119
   refine PJ.blockOut ?_
   obtain rfl := oi h118
   exact PJ.cutXl [2, 3, 4, 5] (by kernel_rfl) (by kernel_rfl)
 ·subst hs
  have h62 := joinX_inl h61
  refine kSR ?_
  refine kC 4 [2,3,4] ?_
  refine kEN ?_
  refine kX ?_
  obtain rfl := oi h62
  refine PJ.wk (Wk.freeze 0 (n := s58.length) (k := 1) (e := 21) (cs := s58.flatMap (encI .i32)) (by kernel_rfl)) ?_
  exact kZ hFn hFH hFD

def exergueref10_at (x0 : List Int) (x1 : Int) : Option (Int) :=
 (bif (decide (x1 < (x0.length : Int))) then (bif inR x1 x0.length then (some (nth x0 x1)) else none) else (some (-1)))
theorem exergueref10_at_ok {x0 : List Int} {x1 : Int} {r : Int} (h : exergueref10_at x0 x1 = some r) : SC Tryz.prog 83 [lsv (encI .i32) 1 x0, .int .i64 x1] [] (.int .i32 r) [] := by
 refine kFn (fn := Tryz.f83) (fun F hFn hFH hFD => ?_)
 unfold exergueref10_at at h
 refine kSR ?_
 refine kC 1 [0,1,4] ?_
 refine kEN ?_
 refine kS ?_
 refine kSR ?_
 refine kC 4 [0,1,4,8] ?_
 refine kEN ?_
 refine J.caseB 8 (b := (decide (x1 < (x0.length : Int)))) (by kernel_rfl) (fun hb1 => ?_) (fun hb1 => ?_)
 ·have h2 := condT hb1 h
  refine kT ?_
  refine kSR ?_
  refine kC 2 [4,9,10] ?_
  obtain ⟨hm, h4⟩ := asrt h2
  refine RJ.rel (d := (some 11)) (ef := ⟨.ep (((x0.flatMap (encI .i32)).drop ((x1 : Int).toNat * 1)).take 1), [], []⟩) (ef' := ⟨.ep ((encI .i32) (nth x0 x1)), [], []⟩) (c := inR x1 x0.length) (tr2 := []) (H2 := []) (by kernel_rfl) hm (fun hc => N.idx (encI_len .i32) hc) (by kernel_rfl) ?_
  refine RJ.seg 2 [4] (L2 := [(4, .int .i32 (nth x0 x1))]) (H2 := []) (by kernel_rfl) ?_
  refine kEN ?_
  refine kX ?_
  refine PJ.passRet ?_
  obtain rfl := oi h4
  exact kZ hFn hFH hFD
 ·have h3 := condF hb1 h
  refine kF ?_
  refine kK ?_
  refine PJ.next ?_
  refine kSR ?_
  refine kC 1 [4] ?_
  refine kEN ?_
  refine kX ?_
  obtain rfl := oi h3
  exact kZ hFn hFH hFD

def exergueref10_pad (x0 : St25) (x1 : List Int) (x2 : Int) (x3 : Int) : Option (St25 × Int × Bool) :=
 (Option.bind (Option.bind (bif (decide (x0.PadAt_ > 0)) then (some true) else (Option.bind (exergueref10_at x1 x2) fun y41 => (some (decide (¬ y41 = 42))))) fun (s33 : Bool) => (bif s33 then (some (.inr (x0, x2, true))) else (some (.inl ())))) (joinX fun (s22 : Unit) => (bif (decide ((IntKind.wrap .i64 (x2 + 1)) ≥ (x1.length : Int))) then (some (x0, (IntKind.wrap .i64 (x2 + 1)), false)) else (bif inR (IntKind.wrap .i64 (x2 + 1)) x1.length then (some ((⟨x0.Pre_, x0.Suf_, x0.NPre_, x0.NSuf_, x0.Neg_, x0.Hash_, x0.MinInt_, x0.MinFrac_, x0.MaxFrac_, x0.G1_, x0.G2_, x0.MinSig_, x0.MaxSig_, x0.Exp_, x0.ExpPlus_, (nth x1 (IntKind.wrap .i64 (x2 + 1))), x3⟩ : St25), (IntKind.wrap .i64 (x2 + 2)), true)) else none))))
theorem exergueref10_pad_ok {x0 : St25} {x1 : List Int} {x2 : Int} {x3 : Int} {r : St25 × Int × Bool} (h : exergueref10_pad x0 x1 x2 x3 = some r) : SC Tryz.prog 107 [.agg (encSt25 x0), lsv (encI .i32) 1 x1, .int .i64 x2, .int .i64 x3] [] (.tup [.agg (encSt25 r.1), .int .i64 r.2.1, .bool r.2.2]) [] := by
 refine kFn (fn := Tryz.f107) (fun F hFn hFH hFD => ?_)
 unfold exergueref10_pad at h
 refine kSR ?_
 refine kC 4 [1,2,3,4,8,9,10] ?_
 refine kEN ?_
 obtain ⟨y23, hy24, h25⟩ := bindS h
 refine K.cutX (by kernel_rfl) (fun (s22 : Unit) => ([(1, lsv (encI .i32) 1 x1), (2, .int .i64 x2), (3, .int .i64 x3), (4, .ptr 0 0), (8, .ptr 1 0), (9, .int .i64 0), (10, .bool false)], [.box (encSt25 x0), .box [.nl, .nl, .nl, .nl, .bool false, .int .i64 0, .int .i64 0, .int .i64 0, .int .i64 0, .int .i64 0, .int .i64 0, .int .i64 0, .int .i64 0, .int .i64 0, .bool false, .int .i32 0, .int .i64 0]])) y23 ?_ (fun s22 hs => ?_)
 ·obtain ⟨s33, hy35, h37⟩ := bindS hy24
  refine K.cutN (by kernel_rfl) (fun (s33 : Bool) => ([(1, lsv (encI .i32) 1 x1), (2, .int .i64 x2), (3, .int .i64 x3), (4, .ptr 0 0), (8, .ptr 1 0), (9, .int .i64 0), (10, .bool false), (19, .bool s33)], [.box (encSt25 x0), .box [.nl, .nl, .nl, .nl, .bool false, .int .i64 0, .int .i64 0, .int .i64 0, .int .i64 0, .int .i64 0, .int .i64 0, .int .i64 0, .int .i64 0, .int .i64 0, .bool false, .int .i32 0, .int .i64 0]])) s33 ?_ ?_
  ·refine kR ?_
   refine kC 4 [1,2,3,4,8,9,10,14] ?_
   refine RJ.caseB 14 (b := (decide (x0.PadAt_ > 0))) (by kernel_rfl) (fun hb38 => ?_) (fun hb38 => ?_)
   ·have h39 := condT hb38 hy35
    refine kC 5 [1,2,3,4,8,9,10,19] ?_
    refine kE ?_
    obtain rfl := oi h39
    exact kN [1, 2, 3, 4, 8, 9, 10, 19]
   ·have h40 := condF hb38 hy35
    refine kC 2 [1,2,3,4,8,9,10,14,15,16] ?_
    obtain ⟨y41, hy42, h43⟩ := bindS h40
    refine RJ.call0 (d := (some 17)) (f := 83) (args := [lsv (encI .i32) 1 x1, .int .i64 x2]) (v := .int .i32 y41) (tr2 := []) (by kernel_rfl) (by kernel_rfl) (.cons (Le.refl _) (.cons (Le.refl _) .nil)) (exergueref10_at_ok hy42) (by kernel_rfl) ?_
    refine RJ.seg 2 [1, 2, 3, 4, 8, 9, 10, 19] (L2 := [(1, lsv (encI .i32) 1 x1), (2, .int .i64 x2), (3, .int .i64 x3), (4, .ptr 0 0), (8, .ptr 1 0), (9, .int .i64 0), (10, .bool false), (19, .bool (decide (¬ y41 = 42)))]) (H2 := [.box (encSt25 x0), .box [.nl, .nl, .nl, .nl, .bool false, .int .i64 0, .int .i64 0, .int .i64 0, .int .i64 0, .int .i64 0, .int .i64 0, .int .i64 0, .int .i64 0, .int .i64 0, .bool false, .int .i32 0, .int .i64 0]]) (by kernel_rfl) ?_
    refine kE ?_
    obtain rfl := oi h43
    exact kN [1, 2, 3, 4, 8, 9, 10, 19]
  ·refine J.caseB 19 (b := s33) (by kernel_rfl) (fun hb44 => ?_) (fun hb44 => ?_)
   ·have h45 := condT hb44 h37
    refine kT ?_
    refine kSR ?_
    refine kC 5 [1,2,3,4,8,9,10] ?_
    refine kEN ?_
    refine kX ?_
    obtain rfl := oi h45
    have h47 := joinX_inr h25
    refine PJ.cutXr (fun e => nomatch e) ?_
    obtain rfl := oi h47
    exact kZ hFn hFH hFD
   ·have h46 := condF hb44 h37
    refine kF ?_
    refine kK ?_
    obtain rfl := oi h46
    exact PJ.cutXl [1, 2, 3, 4, 8, 9, 10] (by kernel_rfl) (by kernel_rfl)
 ·subst hs
  have h26 := joinX_inl h25
  refine kS ?_
  refine kSR ?_
  refine kC 5 [1,2,3,4,8,9,10,26] ?_
  refine kEN ?_
  refine J.caseB 26 (b := (decide ((IntKind.wrap .i64 (x2 + 1)) ≥ (x1.length : Int)))) (by kernel_rfl) (fun hb48 => ?_) (fun hb48 => ?_)
  ·have h49 := condT hb48 h26
   refine kT ?_
   refine kSR ?_
   refine kC 6 [1,2,3,4,8,9,10] ?_
   refine kEN ?_
   refine kX ?_
   refine PJ.passRet ?_
   obtain rfl := oi h49
   exact kZ hFn hFH hFD
  ·have h50 := condF hb48 h26
   refine kF ?_
   refine kK ?_
   refine PJ.next ?_
   refine kSR ?_
   refine kC 3 [2,3,4,8,9,10,30,32] ?_
   obtain ⟨hm, h51⟩ := asrt h50
   refine RJ.rel (d := (some 33)) (ef := ⟨.ep (((x1.flatMap (encI .i32)).drop (((IntKind.wrap .i64 (x2 + 1)) : Int).toNat * 1)).take 1), [], []⟩) (ef' := ⟨.ep ((encI .i32) (nth x1 (IntKind.wrap .i64 (x2 + 1)))), [], []⟩) (c := inR (IntKind.wrap .i64 (x2 + 1)) x1.length) (tr2 := []) (H2 := [.box (encSt25 x0), .box [.nl, .nl, .nl, .nl, .bool false, .int .i64 0, .int .i64 0, .int .i64 0, .int .i64 0, .int .i64 0, .int .i64 0, .int .i64 0, .int .i64 0, .int .i64 0, .bool false, .int .i32 0, .int .i64 0]]) (by kernel_rfl) hm (fun hc => N.idx (encI_len .i32) hc) (by kernel_rfl) ?_
   refine kC 3 [2,3,4,8,9,10] ?_
   refine kEN ?_
   refine kSR ?_
   refine RJ.seg 3 [2, 4, 8, 9, 10] (L2 := [(2, .int .i64 x2), (4, .ptr 0 0), (8, .ptr 1 0), (9, .int .i64 0), (10, .bool false)]) (H2 := [.box [lsv encSt106 2 x0.Pre_, lsv encSt106 2 x0.Suf_, lsv encSt106 2 x0.NPre_, lsv encSt106 2 x0.NSuf_, .bool x0.Neg_, .int .i64 x0.Hash_, .int .i64 x0.MinInt_, .int .i64 x0.MinFrac_, .int .i64 x0.MaxFrac_, .int .i64 x0.G1_, .int .i64 x0.G2_, .int .i64 x0.MinSig_, .int .i64 x0.MaxSig_, .int .i64 x0.Exp_, .bool x0.ExpPlus_, .int .i32 ((nth x1 (IntKind.wrap .i64 (x2 + 1)))), .int .i64 x3], .box [.nl, .nl, .nl, .nl, .bool false, .int .i64 0, .int .i64 0, .int .i64 0, .int .i64 0, .int .i64 0, .int .i64 0, .int .i64 0, .int .i64 0, .int .i64 0, .bool false, .int .i32 0, .int .i64 0]]) (by kernel_rfl) ?_
   refine kEN ?_
   refine kSR ?_
   refine kC 6 [8,9,10] ?_
   refine kEN ?_
   refine kX ?_
   obtain rfl := oi h51
   exact kZ hFn hFH hFD

def exergueref10_Sign (x0 : Int) : Option (Int) :=
 (bif (decide (x0 = 45)) then (some 1) else (bif (decide (x0 = 43)) then (some 2) else (bif (decide (x0 = 37)) then (some 3) else (bif (decide (x0 = 164)) then (some 4) else (some 0)))))
theorem exergueref10_Sign_ok {x0 : Int} {r : Int} (h : exergueref10_Sign x0 = some r) : SC Tryz.prog 125 [.int .i32 x0] [] (.int .i64 r) [] := by
 refine kFn (fn := Tryz.f125) (fun F hFn hFH hFD => ?_)
 unfold exergueref10_Sign at h
 refine kSR ?_
 refine kC 1 [0,2] ?_
 refine kEN ?_
 refine kS ?_
 refine kSR ?_
 refine kC 1 [2,3] ?_
 refine kEN ?_
 refine K.block 0 (by kernel_rfl) ?_
 refine kSR ?_
 refine kC 2 [2,3,4] ?_
 refine kEN ?_
 refine J.caseB 4 (b := (decide (x0 = 45))) (by kernel_rfl) (fun hb1 => ?_) (fun hb1 => ?_)
 ·have h2 := condT hb1 h
  refine kT ?_
  refine kSR ?_
  refine RJ.seg 1 [2] (L2 := [(2, .int .i64 1)]) (H2 := []) (by kernel_rfl) ?_
  refine kEN ?_
  refine kX ?_
  refine PJ.blockRet ?_
  refine PJ.passRet ?_
  obtain rfl := oi h2
  exact kZ hFn hFH hFD
 ·have h3 := condF hb1 h
  refine kF ?_
  refine kSR ?_
  refine RJ.seg 2 [2, 3, 6] (L2 := [(2, .int .i64 0), (3, .int .i32 x0), (6, .bool (decide (x0 = 43)))]) (H2 := []) (by kernel_rfl) ?_
  refine kEN ?_
  refine J.caseB 6 (b := (decide (x0 = 43))) (by kernel_rfl) (fun hb4 => ?_) (fun hb4 => ?_)
  ·have h5 := condT hb4 h3
   refine kT ?_
   refine kSR ?_
   refine kC 1 [2] ?_
   refine kEN ?_
   refine kX ?_
   refine PJ.blockRet ?_
   refine PJ.passRet ?_
   obtain rfl := oi h5
   exact kZ hFn hFH hFD
  ·have h6 := condF hb4 h3
   refine kF ?_
   refine kSR ?_
   refine kC 2 [2,3,8] ?_
   refine kEN ?_
   refine J.caseB 8 (b := (decide (x0 = 37))) (by kernel_rfl) (fun hb7 => ?_) (fun hb7 => ?_)
   ·have h8 := condT hb7 h6
    refine kT ?_
    refine kSR ?_
    refine kC 1 [2] ?_
    refine kEN ?_
    refine kX ?_
    refine PJ.blockRet ?_
    refine PJ.passRet ?_
    obtain rfl := oi h8
    exact kZ hFn hFH hFD
   ·have h9 := condF hb7 h6
    refine kF ?_
    refine kSR ?_
    refine kC 2 [2,10] ?_
    refine kEN ?_
    refine J.caseB 10 (b := (decide (x0 = 164))) (by kernel_rfl) (fun hb10 => ?_) (fun hb10 => ?_)
    ·have h11 := condT hb10 h9
     refine kT ?_
     refine kSR ?_
     refine kC 1 [2] ?_
     refine kEN ?_
     refine kX ?_
     refine PJ.blockRet ?_
     refine PJ.passRet ?_
     obtain rfl := oi h11
     exact kZ hFn hFH hFD
    ·have h12 := condF hb10 h9
     refine kF ?_
     refine kK ?_
     refine PJ.blockNormal ?_
     refine PJ.next ?_
     refine kSR ?_
     refine kC 1 [2] ?_
     refine kEN ?_
     refine kX ?_
     obtain rfl := oi h12
     exact kZ hFn hFH hFD

def exergueref10_affix (x0 : List Int) (x1 : Int) : Option ((List St106) × Int × Bool) :=
 (Option.bind (loopN (fun (s1635 : Int × (List St106)) => (bif (decide (s1635.1 < (x0.length : Int))) then (bif inR s1635.1 x0.length then (Option.bind (exergueref10_Sign (nth x0 s1635.1)) fun y2726 => (Option.bind (exergueref10_Special (nth x0 s1635.1)) fun y2729 => (bif (decide (y2726 > 0)) then (bif room (s1635.2.length + ([(⟨y2726, 0⟩ : St106)] : List St106).length) then (some (.inl ((IntKind.wrap .i64 (s1635.1 + 1)), (s1635.2 ++ ([(⟨y2726, 0⟩ : St106)] : List St106))))) else none) else (bif (decide (¬ (nth x0 s1635.1) = 39)) then (bif y2729 then (some (.inr (.inr (s1635.2, s1635.1, true)))) else (bif room (s1635.2.length + (([(⟨0, (nth x0 s1635.1)⟩ : St106)] : List St106)).length) then (some (.inl ((IntKind.wrap .i64 (s1635.1 + 1)), (s1635.2 ++ (([(⟨0, (nth x0 s1635.1)⟩ : St106)] : List St106)))))) else none)) else (Option.bind (exergueref10_at x0 (IntKind.wrap .i64 (s1635.1 + 1))) fun y2746 => (bif (decide (y2746 = 39)) then (bif room (s1635.2.length + ([(⟨0, 39⟩ : St106)] : List St106).length) then (some (.inl ((IntKind.wrap .i64 (s1635.1 + 2)), (s1635.2 ++ ([(⟨0, 39⟩ : St106)] : List St106))))) else none) else (Option.bind (loopN (fun (s3007 : Int × (List St106)) => (Option.bind (Option.bind (bif (decide (s3007.1 < (x0.length : Int))) then (bif inR s3007.1 x0.length then (bif (decide (¬ (nth x0 s3007.1) = 39)) then (some true) else (Option.bind (exergueref10_at x0 (IntKind.wrap .i64 (s3007.1 + 1))) fun y3232 => (some (decide (y3232 = 39))))) else none) else (some false)) fun (s3220 : Bool) => (bif s3220 then (some (.inl ())) else (some (.inr (.inr (s3007.1, s3007.2)))))) (joinX fun (s3205 : Unit) => (bif inR s3007.1 x0.length then (bif room (s3007.2.length + (([(⟨0, (nth x0 s3007.1)⟩ : St106)] : List St106)).length) then (Option.bind (bif inR s3007.1 x0.length then (bif (decide ((nth x0 s3007.1) = 39)) then (some (IntKind.wrap .i64 (s3007.1 + 1))) else (some s3007.1)) else none) fun (s3247 : Int) => (some (.inl ((IntKind.wrap .i64 (s3247 + 1)), (s3007.2 ++ (([(⟨0, (nth x0 s3007.1)⟩ : St106)] : List St106))))))) else none) else none)))) big ((IntKind.wrap .i64 (s1635.1 + 1)), s1635.2)) fun (s3002 : Int × (List St106)) => (bif (decide (s3002.1 ≥ (x0.length : Int))) then (some (.inr (.inr (([] : List St106), s1635.1, false)))) else (some (.inl ((IntKind.wrap .i64 (s3002.1 + 1)), s3002.2))))))))))) else none) else (some (.inr (.inl (s1635.1, s1635.2)))))) big (x1, ([] : List St106))) (joinX fun (s1630 : Int × (List St106)) => (some (s1630.2, s1630.1, true))))
theorem exergueref10_affix_ok {x0 : List Int} {x1 : Int} {r : (List St106) × Int × Bool} (h : exergueref10_affix x0 x1 = some r) : SC Tryz.prog 108 [lsv (encI .i32) 1 x0, .int .i64 x1] [] (.tup [lsv encSt106 2 r.1, .int .i64 r.2.1, .bool r.2.2]) [] := by
 refine kFn (fn := Tryz.f108) (fun F hFn hFH hFD => ?_)
 unfold exergueref10_affix at h
 refine kSR ?_
 refine kC 3 [0,1,4,5,6] ?_
 refine kEN ?_
 refine kSR ?_
 refine kC 1 [0,1,4,5,6,7] ?_
 refine kEN ?_
 obtain ⟨y1631, hy1632, h1633⟩ := bindS h
 refine K.cutX (by kernel_rfl) (fun (s1630 : Int × (List St106)) => ([(1, .int .i64 s1630.1), (4, .nl), (5, .int .i64 0), (6, .bool false), (7, .vc 0)], [vecL encSt106 2 107 s1630.2])) y1631 ?_ (fun s1630 hs => ?_)
 ·refine K.block 0 (by kernel_rfl) ?_
  refine J.wk (Wk.viv 7 2 107 (by kernel_rfl)) ?_
  refine K.loop (by kernel_rfl) (fun (s1635 : Int × (List St106)) => ([(0, lsv (encI .i32) 1 x0), (1, .int .i64 s1635.1), (4, .nl), (5, .int .i64 0), (6, .bool false), (7, .vc 0)], [vecL encSt106 2 107 s1635.2])) hy1632 [0, 1, 4, 5, 6, 7] (by kernel_rfl) (by kernel_rfl) (fun s1635 x2721 hs2720 => ?_)
  refine kS ?_
  refine kSR ?_
  refine kC 4 [0,1,4,5,6,7,15] ?_
  refine kEN ?_
  refine J.caseB 15 (b := (decide (s1635.1 < (x0.length : Int)))) (by kernel_rfl) (fun hb2722 => ?_) (fun hb2722 => ?_)
  ·have h2723 := condT hb2722 hs2720
   refine kT ?_
   refine kK ?_
   refine PJ.next ?_
   refine K.block 1 (by kernel_rfl) ?_
   refine kSR ?_
   refine kC 2 [0,1,4,5,6,7,16,17] ?_
   obtain ⟨hm, h2725⟩ := asrt h2723
   refine RJ.rel (d := (some 18)) (ef := ⟨.ep (((x0.flatMap (encI .i32)).drop ((s1635.1 : Int).toNat * 1)).take 1), [], []⟩) (ef' := ⟨.ep ((encI .i32) (nth x0 s1635.1)), [], []⟩) (c := inR s1635.1 x0.length) (tr2 := []) (H2 := [vecL encSt106 2 107 s1635.2]) (by kernel_rfl) hm (fun hc => N.idx (encI_len .i32) hc) (by kernel_rfl) ?_
   refine kC 2 [0,1,4,5,6,7,8] ?_
   refine kEN ?_
   refine kSR ?_
   refine RJ.seg 1 [0, 1, 4, 5, 6, 7, 8, 20] (L2 := [(0, lsv (encI .i32) 1 x0), (1, .int .i64 s1635.1), (4, .nl), (5, .int .i64 0), (6, .bool false), (7, .vc 0), (8, .int .i32 (nth x0 s1635.1)), (20, .int .i32 (nth x0 s1635.1))]) (H2 := [vecL encSt106 2 107 s1635.2]) (by kernel_rfl) ?_
   obtain ⟨y2726, hy2727, h2728⟩ := bindS h2725
   refine RJ.call0 (d := (some 21)) (f := 125) (args := [.int .i32 (nth x0 s1635.1)]) (v := .int .i64 y2726) (tr2 := []) (by kernel_rfl) (by kernel_rfl) (.cons (Le.refl _) .nil) (exergueref10_Sign_ok hy2727) (by kernel_rfl) ?_
   refine kC 1 [0,1,4,5,6,7,8,9] ?_
   refine kEN ?_
   refine kSR ?_
   refine kC 1 [0,1,4,5,6,7,8,9,22] ?_
   obtain ⟨y2729, hy2730, h2731⟩ := bindS h2728
   refine RJ.call0 (d := (some 23)) (f := 111) (args := [.int .i32 (nth x0 s1635.1)]) (v := .bool y2729) (tr2 := []) (by kernel_rfl) (by kernel_rfl) (.cons (Le.refl _) .nil) (exergueref10_Special_ok hy2730) (by kernel_rfl) ?_
   refine kC 1 [0,1,4,5,6,7,8,9,10] ?_
   refine kEN ?_
   refine kS ?_
   refine kSR ?_
   refine RJ.seg 2 [0, 1, 4, 5, 6, 7, 8, 9, 10, 25] (L2 := [(0, lsv (encI .i32) 1 x0), (1, .int .i64 s1635.1), (4, .nl), (5, .int .i64 0), (6, .bool false), (7, .vc 0), (8, .int .i32 (nth x0 s1635.1)), (9, .int .i64 y2726), (10, .bool y2729), (25, .bool (decide (y2726 > 0)))]) (H2 := [vecL encSt106 2 107 s1635.2]) (by kernel_rfl) ?_
   refine kEN ?_
   refine J.caseB 25 (b := (decide (y2726 > 0))) (by kernel_rfl) (fun hb2732 => ?_) (fun hb2732 => ?_)
   ·have h2733 := condT hb2732 h2731
    refine kT ?_
    refine kSR ?_
    refine kC 4 [0,1,4,5,6,7,8,10,26,29] ?_
    obtain ⟨hm, h2735⟩ := asrt h2733
    refine RJ.rel (d := (some 30)) (ef := ⟨.vc 2, [0, 1], [(0, .gone), (2, .vec (s1635.2.length + ([(⟨y2726, 0⟩ : St106)] : List St106).length) 2 107 (s1635.2.flatMap encSt106 ++ ([(⟨y2726, 0⟩ : St106)] : List St106).flatMap encSt106))]⟩) (ef' := ⟨.vc 2, [0, 1], [(0, .gone), (2, vecL encSt106 2 107 (s1635.2 ++ ([(⟨y2726, 0⟩ : St106)] : List St106)))]⟩) (c := room (s1635.2.length + ([(⟨y2726, 0⟩ : St106)] : List St106).length)) (tr2 := []) (H2 := [.gone, vecL encSt106 2 107 ([(⟨y2726, 0⟩ : St106)] : List St106), vecL encSt106 2 107 ((s1635.2 ++ ([(⟨y2726, 0⟩ : St106)] : List St106)))]) (by kernel_rfl) hm (fun hc => N.app) (by kernel_rfl) ?_
    refine kC 1 [0,1,4,5,6,7,8,10] ?_
    refine kEN ?_
    refine kSR ?_
    refine kC 3 [0,1,4,5,6,7,8,10] ?_
    refine kEN ?_
    refine K.exit 1 (by kernel_rfl) ?_
    refine PJ.passExit ?_
    refine PJ.blockOut ?_
    obtain rfl := oi h2735
    refine PJ.wk (Wk.sel (L2 := [(0, lsv (encI .i32) 1 x0), (1, .int .i64 (IntKind.wrap .i64 (s1635.1 + 1))), (4, .nl), (5, .int .i64 0), (6, .bool false), (7, .vc 0)]) (H2 := [vecL encSt106 2 107 ((s1635.2 ++ ([(⟨y2726, 0⟩ : St106)] : List St106)))]) 0 (by rw [hFH]; rfl) hFD [2] (by kernel_rfl) (by kernel_rfl) (by decide) (by kernel_rfl) (by kernel_rfl) (by kernel_rfl) (by kernel_rfl)) ?_
    exact PJ.loopNext [0, 1, 4, 5, 6, 7] (by kernel_rfl) (by kernel_rfl)
   ·have h2734 := condF hb2732 h2731
    refine kF ?_
    refine kK ?_
    refine PJ.next ?_
    refine kS ?_
    refine kSR ?_
    refine kC 2 [0,1,4,5,6,7,8,10,34] ?_
    refine kEN ?_
    refine J.caseB 34 (b := (decide (¬ (nth x0 s1635.1) = 39))) (by kernel_rfl) (fun hb2736 => ?_) (fun hb2736 => ?_)
    ·have h2737 := condT hb2736 h2734
     refine kT ?_
     refine kS ?_
     refine kSR ?_
     refine kC 1 [0,1,4,5,6,7,8,35] ?_
     refine kEN ?_
     refine J.caseB 35 (b := y2729) (by kernel_rfl) (fun hb2739 => ?_) (fun hb2739 => ?_)
     ·have h2740 := condT hb2739 h2737
      refine kT ?_
      refine kSR ?_
      refine kC 5 [0,1,4,5,6,7,8] ?_
      refine kEN ?_
      refine kX ?_
      refine PJ.passRet ?_
      refine PJ.passRet ?_
      refine PJ.blockRet ?_
      obtain rfl := oi h2740
      refine PJ.loopOut (fun e => nomatch e) (fun he2744 => ?_)
      have h2742 := congrArg some he2744
      refine PJ.blockRet ?_
      obtain rfl := oi h2742
      have h2743 := joinX_inr h1633
      refine PJ.cutXr (fun e => nomatch e) ?_
      obtain rfl := oi h2743
      refine PJ.wk (Wk.freeze 0 (n := s1635.2.length) (k := 2) (e := 107) (cs := s1635.2.flatMap encSt106) (by kernel_rfl)) ?_
      exact kZ hFn hFH hFD
     ·have h2741 := condF hb2739 h2737
      refine kF ?_
      refine kK ?_
      refine PJ.next ?_
      refine kSR ?_
      refine kC 4 [0,1,4,5,6,7,38,41] ?_
      obtain ⟨hm, h2745⟩ := asrt h2741
      refine RJ.rel (d := (some 42)) (ef := ⟨.vc 2, [0, 1], [(0, .gone), (2, .vec (s1635.2.length + (([(⟨0, (nth x0 s1635.1)⟩ : St106)] : List St106)).length) 2 107 (s1635.2.flatMap encSt106 ++ (([(⟨0, (nth x0 s1635.1)⟩ : St106)] : List St106)).flatMap encSt106))]⟩) (ef' := ⟨.vc 2, [0, 1], [(0, .gone), (2, vecL encSt106 2 107 (s1635.2 ++ (([(⟨0, (nth x0 s1635.1)⟩ : St106)] : List St106))))]⟩) (c := room (s1635.2.length + (([(⟨0, (nth x0 s1635.1)⟩ : St106)] : List St106)).length)) (tr2 := []) (H2 := [.gone, vecL encSt106 2 107 (([(⟨0, (nth x0 s1635.1)⟩ : St106)] : List St106)), vecL encSt106 2 107 ((s1635.2 ++ (([(⟨0, (nth x0 s1635.1)⟩ : St106)] : List St106))))]) (by kernel_rfl) hm (fun hc => N.app) (by kernel_rfl) ?_
      refine RJ.seg 1 [0, 1, 4, 5, 6, 7] (L2 := [(0, lsv (encI .i32) 1 x0), (1, .int .i64 s1635.1), (4, .nl), (5, .int .i64 0), (6, .bool false), (7, .vc 2)]) (H2 := [.gone, vecL encSt106 2 107 (([(⟨0, (nth x0 s1635.1)⟩ : St106)] : List St106)), vecL encSt106 2 107 ((s1635.2 ++ (([(⟨0, (nth x0 s1635.1)⟩ : St106)] : List St106))))]) (by kernel_rfl) ?_
      refine kEN ?_
      refine kSR ?_
      refine kC 3 [0,1,4,5,6,7] ?_
      refine kEN ?_
      refine K.exit 1 (by kernel_rfl) ?_
      refine PJ.passExit ?_
      refine PJ.blockOut ?_
      obtain rfl := oi h2745
      refine PJ.wk (Wk.sel (L2 := [(0, lsv (encI .i32) 1 x0), (1, .int .i64 (IntKind.wrap .i64 (s1635.1 + 1))), (4, .nl), (5, .int .i64 0), (6, .bool false), (7, .vc 0)]) (H2 := [vecL encSt106 2 107 ((s1635.2 ++ (([(⟨0, (nth x0 s1635.1)⟩ : St106)] : List St106))))]) 0 (by rw [hFH]; rfl) hFD [2] (by kernel_rfl) (by kernel_rfl) (by decide) (by kernel_rfl) (by kernel_rfl) (by kernel_rfl) (by kernel_rfl)) ?_
      exact PJ.loopNext [0, 1, 4, 5, 6, 7] (by kernel_rfl) (by kernel_rfl)
    ·have h2738 := condF hb2736 h2734
     refine kF ?_
     refine kK ?_
     refine PJ.next ?_
     refine kS ?_
     refine kSR ?_
     refine kC 3 [0,1,4,5,6,7,45,47] ?_
     obtain ⟨y2746, hy2747, h2748⟩ := bindS h2738
     refine RJ.call0 (d := (some 48)) (f := 83) (args := [lsv (encI .i32) 1 x0, .int .i64 (IntKind.wrap .i64 (s1635.1 + 1))]) (v := .int .i32 y2746) (tr2 := []) (by kernel_rfl) (by kernel_rfl) (.cons (Le.refl _) (.cons (Le.refl _) .nil)) (exergueref10_at_ok hy2747) (by kernel_rfl) ?_
     refine kC 1 [0,1,4,5,6,7,49] ?_
     refine kEN ?_
     refine J.caseB 49 (b := (decide (y2746 = 39))) (by kernel_rfl) (fun hb2749 => ?_) (fun hb2749 => ?_)
     ·have h2750 := condT hb2749 h2748
      refine kT ?_
      refine kSR ?_
      refine RJ.seg 3 [0, 1, 4, 5, 6, 7, 50, 52] (L2 := [(0, lsv (encI .i32) 1 x0), (1, .int .i64 s1635.1), (4, .nl), (5, .int .i64 0), (6, .bool false), (7, .vc 0), (50, .vc 0), (52, .vc 1)]) (H2 := [vecL encSt106 2 107 s1635.2, vecL encSt106 2 107 ([(⟨0, 39⟩ : St106)] : List St106)]) (by kernel_rfl) ?_
      obtain ⟨hm, h2752⟩ := asrt h2750
      refine RJ.rel (d := (some 53)) (ef := ⟨.vc 2, [0, 1], [(0, .gone), (2, .vec (s1635.2.length + ([(⟨0, 39⟩ : St106)] : List St106).length) 2 107 (s1635.2.flatMap encSt106 ++ ([(⟨0, 39⟩ : St106)] : List St106).flatMap encSt106))]⟩) (ef' := ⟨.vc 2, [0, 1], [(0, .gone), (2, vecL encSt106 2 107 (s1635.2 ++ ([(⟨0, 39⟩ : St106)] : List St106)))]⟩) (c := room (s1635.2.length + ([(⟨0, 39⟩ : St106)] : List St106).length)) (tr2 := []) (H2 := [.gone, vecL encSt106 2 107 ([(⟨0, 39⟩ : St106)] : List St106), vecL encSt106 2 107 ((s1635.2 ++ ([(⟨0, 39⟩ : St106)] : List St106)))]) (by kernel_rfl) hm (fun hc => N.app) (by kernel_rfl) ?_
      refine kC 1 [0,1,4,5,6,7] ?_
      refine kEN ?_
      refine kSR ?_
      refine kC 3 [0,1,4,5,6,7] ?_
      refine kEN ?_
      refine K.exit 1 (by kernel_rfl) ?_
      refine PJ.passExit ?_
      refine PJ.blockOut ?_
      obtain rfl := oi h2752
      refine PJ.wk (Wk.sel (L2 := [(0, lsv (encI .i32) 1 x0), (1, .int .i64 (IntKind.wrap .i64 (s1635.1 + 2))), (4, .nl), (5, .int .i64 0), (6, .bool false), (7, .vc 0)]) (H2 := [vecL encSt106 2 107 ((s1635.2 ++ ([(⟨0, 39⟩ : St106)] : List St106)))]) 0 (by rw [hFH]; rfl) hFD [2] (by kernel_rfl) (by kernel_rfl) (by decide) (by kernel_rfl) (by kernel_rfl) (by kernel_rfl) (by kernel_rfl)) ?_
      exact PJ.loopNext [0, 1, 4, 5, 6, 7] (by kernel_rfl) (by kernel_rfl)
     ·have h2751 := condF hb2749 h2748
      refine kF ?_
      refine kK ?_
      refine PJ.next ?_
      refine kSR ?_
      refine RJ.seg 2 [0, 1, 4, 5, 6, 7, 11] (L2 := [(0, lsv (encI .i32) 1 x0), (1, .int .i64 s1635.1), (4, .nl), (5, .int .i64 0), (6, .bool false), (7, .vc 0), (11, .int .i64 s1635.1)]) (H2 := [vecL encSt106 2 107 s1635.2]) (by kernel_rfl) ?_
      refine kEN ?_
      refine kSR ?_
      refine kC 3 [0,1,4,5,6,7,11] ?_
      refine kEN ?_
      obtain ⟨s3002, hy3004, h3006⟩ := bindS h2751
      refine K.cutN (by kernel_rfl) (fun (s3002 : Int × (List St106)) => ([(0, lsv (encI .i32) 1 x0), (1, .int .i64 s3002.1), (4, .nl), (5, .int .i64 0), (6, .bool false), (7, .vc 0), (11, .int .i64 s1635.1)], [vecL encSt106 2 107 s3002.2])) s3002 ?_ ?_
      ·refine K.block 2 (by kernel_rfl) ?_
       refine K.loop (by kernel_rfl) (fun (s3007 : Int × (List St106)) => ([(0, lsv (encI .i32) 1 x0), (1, .int .i64 s3007.1), (4, .nl), (5, .int .i64 0), (6, .bool false), (7, .vc 0), (11, .int .i64 s1635.1)], [vecL encSt106 2 107 s3007.2])) hy3004 [0, 1, 4, 5, 6, 7, 11] (by kernel_rfl) (by kernel_rfl) (fun s3007 x3173 hs3172 => ?_)
       obtain ⟨y3206, hy3207, h3208⟩ := bindS hs3172
       refine K.cutX (by kernel_rfl) (fun (s3205 : Unit) => ([(0, lsv (encI .i32) 1 x0), (1, .int .i64 s3007.1), (4, .nl), (5, .int .i64 0), (6, .bool false), (7, .vc 0), (11, .int .i64 s1635.1)], [vecL encSt106 2 107 s3007.2])) y3206 ?_ (fun s3205 hs => ?_)
       ·obtain ⟨s3220, hy3222, h3224⟩ := bindS hy3207
        refine K.cutN (by kernel_rfl) (fun (s3220 : Bool) => ([(0, lsv (encI .i32) 1 x0), (1, .int .i64 s3007.1), (4, .nl), (5, .int .i64 0), (6, .bool false), (7, .vc 0), (11, .int .i64 s1635.1), (76, .bool s3220)], [vecL encSt106 2 107 s3007.2])) s3220 ?_ ?_
        ·refine kR ?_
         refine kC 5 [0,1,4,5,6,7,11,63] ?_
         refine RJ.caseB 63 (b := (decide (s3007.1 < (x0.length : Int)))) (by kernel_rfl) (fun hb3225 => ?_) (fun hb3225 => ?_)
         ·have h3226 := condT hb3225 hy3222
          refine kC 2 [0,1,4,5,6,7,11,63,64,65] ?_
          obtain ⟨hm, h3228⟩ := asrt h3226
          refine RJ.rel (d := (some 66)) (ef := ⟨.ep (((x0.flatMap (encI .i32)).drop ((s3007.1 : Int).toNat * 1)).take 1), [], []⟩) (ef' := ⟨.ep ((encI .i32) (nth x0 s3007.1)), [], []⟩) (c := inR s3007.1 x0.length) (tr2 := []) (H2 := [vecL encSt106 2 107 s3007.2]) (by kernel_rfl) hm (fun hc => N.idx (encI_len .i32) hc) (by kernel_rfl) ?_
          refine kC 3 [0,1,4,5,6,7,11,63,69] ?_
          refine RJ.caseB 69 (b := (decide (¬ (nth x0 s3007.1) = 39))) (by kernel_rfl) (fun hb3229 => ?_) (fun hb3229 => ?_)
          ·have h3230 := condT hb3229 h3228
           refine RJ.seg 7 [0, 1, 4, 5, 6, 7, 11, 76] (L2 := [(0, lsv (encI .i32) 1 x0), (1, .int .i64 s3007.1), (4, .nl), (5, .int .i64 0), (6, .bool false), (7, .vc 0), (11, .int .i64 s1635.1), (76, .bool true)]) (H2 := [vecL encSt106 2 107 s3007.2]) (by kernel_rfl) ?_
           refine kE ?_
           obtain rfl := oi h3230
           exact kN [0, 1, 4, 5, 6, 7, 11, 76]
          ·have h3231 := condF hb3229 h3228
           refine RJ.seg 3 [0, 1, 4, 5, 6, 7, 11, 63, 69, 70, 72] (L2 := [(0, lsv (encI .i32) 1 x0), (1, .int .i64 s3007.1), (4, .nl), (5, .int .i64 0), (6, .bool false), (7, .vc 0), (11, .int .i64 s1635.1), (63, .bool true), (69, .bool false), (70, lsv (encI .i32) 1 x0), (72, .int .i64 (IntKind.wrap .i64 (s3007.1 + 1)))]) (H2 := [vecL encSt106 2 107 s3007.2]) (by kernel_rfl) ?_
           obtain ⟨y3232, hy3233, h3234⟩ := bindS h3231
           refine RJ.call0 (d := (some 73)) (f := 83) (args := [lsv (encI .i32) 1 x0, .int .i64 (IntKind.wrap .i64 (s3007.1 + 1))]) (v := .int .i32 y3232) (tr2 := []) (by kernel_rfl) (by kernel_rfl) (.cons (Le.refl _) (.cons (Le.refl _) .nil)) (exergueref10_at_ok hy3233) (by kernel_rfl) ?_
           refine kC 3 [0,1,4,5,6,7,11,76] ?_
           refine kE ?_
           obtain rfl := oi h3234
           exact kN [0, 1, 4, 5, 6, 7, 11, 76]
         ·have h3227 := condF hb3225 hy3222
          refine kC 13 [0,1,4,5,6,7,11,76] ?_
          refine kE ?_
          obtain rfl := oi h3227
          exact kN [0, 1, 4, 5, 6, 7, 11, 76]
        ·refine J.caseB 76 (b := s3220) (by kernel_rfl) (fun hb3235 => ?_) (fun hb3235 => ?_)
         ·have h3236 := condT hb3235 h3224
          refine kT ?_
          refine kK ?_
          obtain rfl := oi h3236
          exact PJ.cutXl [0, 1, 4, 5, 6, 7, 11] (by kernel_rfl) (by kernel_rfl)
         ·have h3237 := condF hb3235 h3224
          refine kF ?_
          refine K.exit 2 (by kernel_rfl) ?_
          obtain rfl := oi h3237
          have h3238 := joinX_inr h3208
          refine PJ.cutXr (fun e => nomatch e) ?_
          obtain rfl := oi h3238
          refine PJ.loopOut (fun e => nomatch e) (fun he3240 => ?_)
          have h3239 := congrArg some he3240
          refine PJ.blockOut ?_
          obtain rfl := oi h3239
          exact kN [0, 1, 4, 5, 6, 7, 11]
       ·subst hs
        have h3209 := joinX_inl h3208
        refine K.block 3 (by kernel_rfl) ?_
        refine kSR ?_
        refine kC 3 [0,1,4,5,6,7,11,77,78,79] ?_
        obtain ⟨hm, h3241⟩ := asrt h3209
        refine RJ.rel (d := (some 80)) (ef := ⟨.ep (((x0.flatMap (encI .i32)).drop ((s3007.1 : Int).toNat * 1)).take 1), [], []⟩) (ef' := ⟨.ep ((encI .i32) (nth x0 s3007.1)), [], []⟩) (c := inR s3007.1 x0.length) (tr2 := []) (H2 := [vecL encSt106 2 107 s3007.2]) (by kernel_rfl) hm (fun hc => N.idx (encI_len .i32) hc) (by kernel_rfl) ?_
        refine kC 3 [0,1,4,5,6,7,11,77,83] ?_
        obtain ⟨hm, h3242⟩ := asrt h3241
        refine RJ.rel (d := (some 84)) (ef := ⟨.vc 2, [0, 1], [(0, .gone), (2, .vec (s3007.2.length + (([(⟨0, (nth x0 s3007.1)⟩ : St106)] : List St106)).length) 2 107 (s3007.2.flatMap encSt106 ++ (([(⟨0, (nth x0 s3007.1)⟩ : St106)] : List St106)).flatMap encSt106))]⟩) (ef' := ⟨.vc 2, [0, 1], [(0, .gone), (2, vecL encSt106 2 107 (s3007.2 ++ (([(⟨0, (nth x0 s3007.1)⟩ : St106)] : List St106))))]⟩) (c := room (s3007.2.length + (([(⟨0, (nth x0 s3007.1)⟩ : St106)] : List St106)).length)) (tr2 := []) (H2 := [.gone, vecL encSt106 2 107 (([(⟨0, (nth x0 s3007.1)⟩ : St106)] : List St106)), vecL encSt106 2 107 ((s3007.2 ++ (([(⟨0, (nth x0 s3007.1)⟩ : St106)] : List St106))))]) (by kernel_rfl) hm (fun hc => N.app) (by kernel_rfl) ?_
        refine kC 1 [0,1,4,5,6,7,11] ?_
        refine kEN ?_
        obtain ⟨s3247, hy3249, h3251⟩ := bindS h3242
        refine K.cutN (by kernel_rfl) (fun (s3247 : Int) => ([(0, lsv (encI .i32) 1 x0), (1, .int .i64 s3247), (4, .nl), (5, .int .i64 0), (6, .bool false), (7, .vc 0), (11, .int .i64 s1635.1)], [vecL encSt106 2 107 ((s3007.2 ++ (([(⟨0, (nth x0 s3007.1)⟩ : St106)] : List St106))))])) s3247 ?_ ?_
        ·refine kSR ?_
         refine RJ.seg 2 [0, 1, 4, 5, 6, 7, 11, 85, 86] (L2 := [(0, lsv (encI .i32) 1 x0), (1, .int .i64 s3007.1), (4, .nl), (5, .int .i64 0), (6, .bool false), (7, .vc 2), (11, .int .i64 s1635.1), (85, lsv (encI .i32) 1 x0), (86, .int .i64 s3007.1)]) (H2 := [.gone, vecL encSt106 2 107 (([(⟨0, (nth x0 s3007.1)⟩ : St106)] : List St106)), vecL encSt106 2 107 ((s3007.2 ++ (([(⟨0, (nth x0 s3007.1)⟩ : St106)] : List St106))))]) (by kernel_rfl) ?_
         obtain ⟨hm, h3252⟩ := asrt hy3249
         refine RJ.rel (d := (some 87)) (ef := ⟨.ep (((x0.flatMap (encI .i32)).drop ((s3007.1 : Int).toNat * 1)).take 1), [], []⟩) (ef' := ⟨.ep ((encI .i32) (nth x0 s3007.1)), [], []⟩) (c := inR s3007.1 x0.length) (tr2 := []) (H2 := [.gone, vecL encSt106 2 107 (([(⟨0, (nth x0 s3007.1)⟩ : St106)] : List St106)), vecL encSt106 2 107 ((s3007.2 ++ (([(⟨0, (nth x0 s3007.1)⟩ : St106)] : List St106))))]) (by kernel_rfl) hm (fun hc => N.idx (encI_len .i32) hc) (by kernel_rfl) ?_
         refine kC 2 [0,1,4,5,6,7,11,89] ?_
         refine kEN ?_
         refine J.caseB 89 (b := (decide ((nth x0 s3007.1) = 39))) (by kernel_rfl) (fun hb3253 => ?_) (fun hb3253 => ?_)
         ·have h3254 := condT hb3253 h3252
          refine kT ?_
          refine kR ?_
          refine kC 3 [0,1,4,5,6,7,11] ?_
          refine kE ?_
          obtain rfl := oi h3254
          refine PJ.wk (Wk.sel (L2 := [(0, lsv (encI .i32) 1 x0), (1, .int .i64 (IntKind.wrap .i64 (s3007.1 + 1))), (4, .nl), (5, .int .i64 0), (6, .bool false), (7, .vc 0), (11, .int .i64 s1635.1)]) (H2 := [vecL encSt106 2 107 ((s3007.2 ++ (([(⟨0, (nth x0 s3007.1)⟩ : St106)] : List St106))))]) 0 (by rw [hFH]; rfl) hFD [2] (by kernel_rfl) (by kernel_rfl) (by decide) (by kernel_rfl) (by kernel_rfl) (by kernel_rfl) (by kernel_rfl)) ?_
          exact kN [0, 1, 4, 5, 6, 7, 11]
         ·have h3255 := condF hb3253 h3252
          refine kF ?_
          refine kK ?_
          obtain rfl := oi h3255
          refine PJ.wk (Wk.sel (L2 := [(0, lsv (encI .i32) 1 x0), (1, .int .i64 s3007.1), (4, .nl), (5, .int .i64 0), (6, .bool false), (7, .vc 0), (11, .int .i64 s1635.1)]) (H2 := [vecL encSt106 2 107 ((s3007.2 ++ (([(⟨0, (nth x0 s3007.1)⟩ : St106)] : List St106))))]) 0 (by rw [hFH]; rfl) hFD [2] (by kernel_rfl) (by kernel_rfl) (by decide) (by kernel_rfl) (by kernel_rfl) (by kernel_rfl) (by kernel_rfl)) ?_
          exact kN [0, 1, 4, 5, 6, 7, 11]
        ·refine kR ?_
         refine kC 3 [0,1,4,5,6,7,11] ?_
         refine kE ?_
         refine PJ.blockNormal ?_
         obtain rfl := oi h3251
         exact PJ.loopNext [0, 1, 4, 5, 6, 7, 11] (by kernel_rfl) (by kernel_rfl)
      ·refine kS ?_
       refine kSR ?_
       refine kC 4 [0,1,4,5,6,7,11,97] ?_
       refine kEN ?_
       refine J.caseB 97 (b := (decide (s3002.1 ≥ (x0.length : Int)))) (by kernel_rfl) (fun hb3256 => ?_) (fun hb3256 => ?_)
       ·have h3257 := condT hb3256 h3006
        refine kT ?_
        refine kSR ?_
        refine kC 4 [0,1,4,5,6,7] ?_
        refine kEN ?_
        refine kX ?_
        refine PJ.passRet ?_
        refine PJ.blockRet ?_
        obtain rfl := oi h3257
        refine PJ.loopOut (fun e => nomatch e) (fun he3261 => ?_)
        have h3259 := congrArg some he3261
        refine PJ.blockRet ?_
        obtain rfl := oi h3259
        have h3260 := joinX_inr h1633
        refine PJ.cutXr (fun e => nomatch e) ?_
        obtain rfl := oi h3260
        refine PJ.res (v1 := .tup [.nl, .int .i64 s1635.1, .bool false]) (Le.tup (.cons (Le.nl _) (.cons (Le.refl _) (.cons (Le.refl _) .nil)))) ?_
        exact kZ hFn hFH hFD
       ·have h3258 := condF hb3256 h3006
        refine kF ?_
        refine kK ?_
        refine PJ.next ?_
        refine kR ?_
        refine kC 3 [0,1,4,5,6,7] ?_
        refine kE ?_
        refine PJ.blockNormal ?_
        obtain rfl := oi h3258
        exact PJ.loopNext [0, 1, 4, 5, 6, 7] (by kernel_rfl) (by kernel_rfl)
  ·have h2724 := condF hb2722 hs2720
   refine kF ?_
   refine K.exit 0 (by kernel_rfl) ?_
   refine PJ.passExit ?_
   obtain rfl := oi h2724
   refine PJ.loopOut (fun e => nomatch e) (fun he3263 => ?_)
   have h3262 := congrArg some he3263
   refine PJ.blockOut ?_
   obtain rfl := oi h3262
   exact PJ.cutXl [1, 4, 5, 6, 7] (by kernel_rfl) (by kernel_rfl)
 ·subst hs
  have h1634 := joinX_inl h1633
  refine kSR ?_
  refine kC 5 [4,5,6] ?_
  refine kEN ?_
  refine kX ?_
  obtain rfl := oi h1634
  refine PJ.wk (Wk.freeze 0 (n := s1630.2.length) (k := 2) (e := 107) (cs := s1630.2.flatMap encSt106) (by kernel_rfl)) ?_
  exact kZ hFn hFH hFD

def exergueref10_many (x0 : List Int) (x1 : Int) (x2 : Int) : Option (Int) :=
 (Option.bind (loopN (fun (s33 : Int) => (Option.bind (exergueref10_at x0 (IntKind.wrap .i64 (x1 + s33))) fun y52 => (bif (decide (y52 = x2)) then (some (.inl (IntKind.wrap .i64 (s33 + 1)))) else (some (.inr s33))))) big 0) fun (s28 : Int) => (some s28))
theorem exergueref10_many_ok {x0 : List Int} {x1 : Int} {x2 : Int} {r : Int} (h : exergueref10_many x0 x1 x2 = some r) : SC Tryz.prog 126 [lsv (encI .i32) 1 x0, .int .i64 x1, .int .i32 x2] [] (.int .i64 r) [] := by
 refine kFn (fn := Tryz.f126) (fun F hFn hFH hFD => ?_)
 unfold exergueref10_many at h
 refine kSR ?_
 refine kC 1 [0,1,2,6] ?_
 refine kEN ?_
 refine kSR ?_
 refine kC 1 [0,1,2,6,7] ?_
 refine kEN ?_
 obtain ⟨s28, hy30, h32⟩ := bindS h
 refine K.cutN (by kernel_rfl) (fun (s28 : Int) => ([(6, .int .i64 0), (7, .int .i64 s28)], [])) s28 ?_ ?_
 ·refine K.block 0 (by kernel_rfl) ?_
  refine K.loop (by kernel_rfl) (fun (s33 : Int) => ([(0, lsv (encI .i32) 1 x0), (1, .int .i64 x1), (2, .int .i32 x2), (6, .int .i64 0), (7, .int .i64 s33)], [])) hy30 [0, 1, 2, 6, 7] (by kernel_rfl) (by kernel_rfl) (fun s33 x51 hs50 => ?_)
  refine kS ?_
  refine kSR ?_
  refine kC 4 [0,1,2,6,7,8,11] ?_
  obtain ⟨y52, hy53, h54⟩ := bindS hs50
  refine RJ.call0 (d := (some 12)) (f := 83) (args := [lsv (encI .i32) 1 x0, .int .i64 (IntKind.wrap .i64 (x1 + s33))]) (v := .int .i32 y52) (tr2 := []) (by kernel_rfl) (by kernel_rfl) (.cons (Le.refl _) (.cons (Le.refl _) .nil)) (exergueref10_at_ok hy53) (by kernel_rfl) ?_
  refine kC 2 [0,1,2,6,7,14] ?_
  refine kEN ?_
  refine J.caseB 14 (b := (decide (y52 = x2))) (by kernel_rfl) (fun hb55 => ?_) (fun hb55 => ?_)
  ·have h56 := condT hb55 h54
   refine kT ?_
   refine kK ?_
   refine PJ.next ?_
   refine K.block 1 (by kernel_rfl) ?_
   refine kR ?_
   refine kC 3 [0,1,2,6,7] ?_
   refine kE ?_
   refine PJ.blockNormal ?_
   obtain rfl := oi h56
   exact PJ.loopNext [0, 1, 2, 6, 7] (by kernel_rfl) (by kernel_rfl)
  ·have h57 := condF hb55 h54
   refine kF ?_
   refine K.exit 0 (by kernel_rfl) ?_
   refine PJ.passExit ?_
   obtain rfl := oi h57
   refine PJ.loopOut (fun e => nomatch e) (fun he59 => ?_)
   have h58 := congrArg some he59
   refine PJ.blockOut ?_
   obtain rfl := oi h58
   exact kN [6, 7]
 ·refine kSR ?_
  refine kC 2 [6] ?_
  refine kEN ?_
  refine kX ?_
  obtain rfl := oi h32
  exact kZ hFn hFH hFD

end Go.Proofs.YtcmmjficmoflkaaGreat
