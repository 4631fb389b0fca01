/-
  What the functions of this program come to, as functions of natives, each with the proof that it does. No conditions.
-/
import Derived.Test.YtcldeecdhdcjdaaDoorProg
import Derived.Test.YtcldeecdhdcjdaaDoorSySL
import Derived.Test.YtcldeecdhdcjdaaDoorGa
namespace Go.Proofs.YtcldeecdhdcjdaaDoor
open Go Go.Sy Go.RowKit
set_option linter.unusedVariables false
set_option linter.unusedSimpArgs false
set_option maxRecDepth 100000
set_option maxHeartbeats 4000000

def dec_work__against (x0 : St59) (x1 : St59) : Option (Int) :=
 (Option.bind (dec_work__mag x0) fun y1 => (Option.bind (dec_work__mag x1) fun y4 => (Option.bind (dec_sign (IntKind.wrap .i64 (y1 - y4))) fun y7 => (bif (decide (¬ y7 = 0)) then (some y7) else (Option.bind (loopN (fun (s81 : Int) => (bif (decide (s81 < (maxI (x0.Dec_.D_.length : Int) (x1.Dec_.D_.length : Int)))) then (Option.bind (dec_work__figure x0 s81) fun y127 => (Option.bind (dec_work__figure x1 s81) fun y130 => (Option.bind (dec_sign ((IntKind.wrap .i64 ((IntKind.wrap .i64 y127) - (IntKind.wrap .i64 y130))))) fun y133 => (bif (decide (¬ y133 = 0)) then (some (.inr (.inr y133))) else (some (.inl (IntKind.wrap .i64 (s81 + 1)))))))) else (some (.inr (.inl ()))))) big 0) (joinX fun (s76 : Unit) => (some 0)))))))
theorem dec_work__against_ok {x0 : St59} {x1 : St59} {r : Int} (h : dec_work__against x0 x1 = some r) : SC Tryd.prog 32 [.agg (encSt59 x0), .agg (encSt59 x1)] [] (.int .i64 r) [] := by
 refine kFn (fn := Tryd.f32) (fun F hFn hFH hFD => ?_)
 unfold dec_work__against at h
 refine kSR ?_
 refine kC 3 [2,3,4] ?_
 refine kEN ?_
 refine kS ?_
 refine kS ?_
 refine J.keep [2, 3, 4] (L2 := [(2, .ptr 0 0), (3, .ptr 1 0), (4, .int .i64 0)]) (by kernel_rfl) ?_
 refine K.draw (by kernel_rfl) (by kernel_rfl) (by kernel_rfl) (H2 := [.box (encSt59 x0), .box (encSt59 x1), .res, .res, .res]) (by kernel_rfl) (n := 2) (by kernel_rfl) ?_
 refine kD 1 ?_
 obtain ⟨y1, hy2, h3⟩ := bindS h
 refine RJ.call0 (d := (some 9)) (f := 34) (args := [.agg (encSt59 x0)]) (v := .int .i64 y1) (tr2 := [([0, 1], []), ([], [4, 5])]) (by kernel_rfl) (by kernel_rfl) (.cons (Le.refl _) .nil) (dec_work__mag_ok hy2) (by kernel_rfl) ?_
 refine kD 1 ?_
 obtain ⟨y4, hy5, h6⟩ := bindS h3
 refine RJ.call0 (d := (some 11)) (f := 34) (args := [.agg (encSt59 x1)]) (v := .int .i64 y4) (tr2 := [([0, 1], []), ([], [4, 5]), ([2, 3], []), ([], [6, 7])]) (by kernel_rfl) (by kernel_rfl) (.cons (Le.refl _) .nil) (dec_work__mag_ok hy5) (by kernel_rfl) ?_
 refine RJ.segD 1 (tr2 := [([0, 1], []), ([], [4, 5]), ([2, 3], []), ([], [6, 7]), ([], [])]) (L2 := [(12, .int .i64 (IntKind.wrap .i64 (y1 - y4))), (11, .int .i64 y4), (10, .agg (encSt59 x1)), (9, .int .i64 y1), (8, .agg (encSt59 x0)), (2, .ptr 0 0), (3, .ptr 1 0), (4, .int .i64 0)]) (H2 := [.box (encSt59 x0), .box (encSt59 x1), .res, .res, .res]) (by kernel_rfl) ?_
 obtain ⟨y7, hy8, h9⟩ := bindS h6
 refine RJ.call0 (d := (some 13)) (f := 31) (args := [.int .i64 (IntKind.wrap .i64 (y1 - y4))]) (v := .int .i64 y7) (tr2 := [([0, 1], []), ([], [4, 5]), ([2, 3], []), ([], [6, 7]), ([], []), ([], [8, 9])]) (by kernel_rfl) (by kernel_rfl) (.cons (Le.refl _) .nil) (dec_sign_ok hy8) (by kernel_rfl) ?_
 refine kD 1 ?_
 refine kEN ?_
 refine kSR ?_
 refine kC 2 [2,3,4,5,15] ?_
 refine kEN ?_
 refine J.caseB 15 (b := (decide (¬ y7 = 0))) (by kernel_rfl) (fun hb10 => ?_) (fun hb10 => ?_)
 ·have h11 := condT hb10 h9
  refine kT ?_
  refine kSR ?_
  refine kC 2 [2,3,4] ?_
  refine kEN ?_
  refine kX ?_
  refine PJ.passRet ?_
  obtain rfl := oi h11
  exact kZ hFn hFH hFD
 ·have h12 := condF hb10 h9
  refine kF ?_
  refine kK ?_
  refine PJ.next ?_
  obtain ⟨y77, hy78, h79⟩ := bindS h12
  refine K.cutX (by kernel_rfl) (fun (s76 : Unit) => ([(4, .int .i64 0)], [])) y77 ?_ (fun s76 hs => ?_)
  ·refine kSR ?_
   refine kC 10 [2,3,4,25,26] ?_
   refine kEN ?_
   refine K.block 0 (by kernel_rfl) ?_
   refine J.wk (Wk.sel (L2 := [(2, .ptr 0 0), (3, .ptr 1 0), (4, .int .i64 0), (25, .int .i64 (maxI (x0.Dec_.D_.length : Int) (x1.Dec_.D_.length : Int))), (26, .int .i64 0)]) (H2 := [.box (encSt59 x0), .box (encSt59 x1)]) 0 (by rw [hFH]; rfl) hFD [0, 1] (by kernel_rfl) (by kernel_rfl) (by decide) (by kernel_rfl) (by kernel_rfl) (by kernel_rfl) (by kernel_rfl)) ?_
   refine K.loop (by kernel_rfl) (fun (s81 : Int) => ([(2, .ptr 0 0), (3, .ptr 1 0), (4, .int .i64 0), (25, .int .i64 (maxI (x0.Dec_.D_.length : Int) (x1.Dec_.D_.length : Int))), (26, .int .i64 s81)], [.box (encSt59 x0), .box (encSt59 x1)])) hy78 [2, 3, 4, 25, 26] (by kernel_rfl) (by kernel_rfl) (fun s81 x123 hs122 => ?_)
   refine kSR ?_
   refine kC 1 [2,3,4,25,26,27] ?_
   refine kEN ?_
   refine kS ?_
   refine J.caseB 27 (b := (decide (s81 < (maxI (x0.Dec_.D_.length : Int) (x1.Dec_.D_.length : Int))))) (by kernel_rfl) (fun hb124 => ?_) (fun hb124 => ?_)
   ·have h125 := condT hb124 hs122
    refine kT ?_
    refine kK ?_
    refine PJ.next ?_
    refine kS ?_
    refine K.block 1 (by kernel_rfl) ?_
    refine kSR ?_
    refine kC 2 [2,3,4,6,25,26] ?_
    refine kEN ?_
    refine kS ?_
    refine J.keep [2, 3, 4, 6, 25, 26] (L2 := [(2, .ptr 0 0), (3, .ptr 1 0), (4, .int .i64 0), (6, .int .i64 s81), (25, .int .i64 (maxI (x0.Dec_.D_.length : Int) (x1.Dec_.D_.length : Int))), (26, .int .i64 s81)]) (by kernel_rfl) ?_
    refine K.draw (by kernel_rfl) (by kernel_rfl) (by kernel_rfl) (H2 := [.box (encSt59 x0), .box (encSt59 x1), .res, .res, .res]) (by kernel_rfl) (n := 2) (by kernel_rfl) ?_
    refine kD 2 ?_
    obtain ⟨y127, hy128, h129⟩ := bindS h125
    refine RJ.call0 (d := (some 31)) (f := 35) (args := [.agg (encSt59 x0), .int .i64 s81]) (v := .int .u8 y127) (tr2 := [([0, 1], []), ([], []), ([], [4, 5])]) (by kernel_rfl) (by kernel_rfl) (.cons (Le.refl _) (.cons (Le.refl _) .nil)) (dec_work__figure_ok hy128) (by kernel_rfl) ?_
    refine RJ.segD 3 (tr2 := [([0, 1], []), ([], []), ([], [4, 5]), ([], []), ([2, 3], []), ([], [])]) (L2 := [(34, .int .i64 s81), (33, .agg (encSt59 x1)), (32, .int .i64 (IntKind.wrap .i64 y127)), (31, .int .u8 y127), (30, .int .i64 s81), (29, .agg (encSt59 x0)), (2, .ptr 0 0), (3, .ptr 1 0), (4, .int .i64 0), (6, .int .i64 s81), (25, .int .i64 (maxI (x0.Dec_.D_.length : Int) (x1.Dec_.D_.length : Int))), (26, .int .i64 s81)]) (H2 := [.box (encSt59 x0), .box (encSt59 x1), .res, .res, .res]) (by kernel_rfl) ?_
    obtain ⟨y130, hy131, h132⟩ := bindS h129
    refine RJ.call0 (d := (some 35)) (f := 35) (args := [.agg (encSt59 x1), .int .i64 s81]) (v := .int .u8 y130) (tr2 := [([0, 1], []), ([], []), ([], [4, 5]), ([], []), ([2, 3], []), ([], []), ([], [6, 7])]) (by kernel_rfl) (by kernel_rfl) (.cons (Le.refl _) (.cons (Le.refl _) .nil)) (dec_work__figure_ok hy131) (by kernel_rfl) ?_
    refine kD 2 ?_
    obtain ⟨y133, hy134, h135⟩ := bindS h132
    refine RJ.call0 (d := (some 38)) (f := 31) (args := [.int .i64 ((IntKind.wrap .i64 ((IntKind.wrap .i64 y127) - (IntKind.wrap .i64 y130))))]) (v := .int .i64 y133) (tr2 := [([0, 1], []), ([], []), ([], [4, 5]), ([], []), ([2, 3], []), ([], []), ([], [6, 7]), ([], []), ([], []), ([], [8, 9])]) (by kernel_rfl) (by kernel_rfl) (.cons (Le.refl _) .nil) (dec_sign_ok hy134) (by kernel_rfl) ?_
    refine kD 1 ?_
    refine kEN ?_
    refine kSR ?_
    refine kC 2 [2,3,4,7,25,26,40] ?_
    refine kEN ?_
    refine J.caseB 40 (b := (decide (¬ y133 = 0))) (by kernel_rfl) (fun hb136 => ?_) (fun hb136 => ?_)
    ·have h137 := condT hb136 h135
     refine kT ?_
     refine kSR ?_
     refine RJ.seg 2 [2, 3, 4, 25, 26] (L2 := [(2, .ptr 0 0), (3, .ptr 1 0), (4, .int .i64 y133), (25, .int .i64 (maxI (x0.Dec_.D_.length : Int) (x1.Dec_.D_.length : Int))), (26, .int .i64 s81)]) (H2 := [.box (encSt59 x0), .box (encSt59 x1), .res, .res, .res]) (by kernel_rfl) ?_
     refine kEN ?_
     refine kX ?_
     refine PJ.blockRet ?_
     refine PJ.passRet ?_
     obtain rfl := oi h137
     refine PJ.loopOut (fun e => nomatch e) (fun he141 => ?_)
     have h139 := congrArg some he141
     refine PJ.blockRet ?_
     obtain rfl := oi h139
     have h140 := joinX_inr h79
     refine PJ.cutXr (fun e => nomatch e) ?_
     obtain rfl := oi h140
     exact kZ hFn hFH hFD
    ·have h138 := condF hb136 h135
     refine kF ?_
     refine kK ?_
     refine PJ.blockNormal ?_
     refine PJ.next ?_
     refine kR ?_
     refine RJ.seg 2 [2, 3, 4, 25, 26] (L2 := [(2, .ptr 0 0), (3, .ptr 1 0), (4, .int .i64 0), (25, .int .i64 (maxI (x0.Dec_.D_.length : Int) (x1.Dec_.D_.length : Int))), (26, .int .i64 (IntKind.wrap .i64 (s81 + 1)))]) (H2 := [.box (encSt59 x0), .box (encSt59 x1), .res, .res, .res]) (by kernel_rfl) ?_
     refine kE ?_
     obtain rfl := oi h138
     refine PJ.wk (Wk.sel (L2 := [(2, .ptr 0 0), (3, .ptr 1 0), (4, .int .i64 0), (25, .int .i64 (maxI (x0.Dec_.D_.length : Int) (x1.Dec_.D_.length : Int))), (26, .int .i64 (IntKind.wrap .i64 (s81 + 1)))]) (H2 := [.box (encSt59 x0), .box (encSt59 x1)]) 0 (by rw [hFH]; rfl) hFD [0, 1] (by kernel_rfl) (by kernel_rfl) (by decide) (by kernel_rfl) (by kernel_rfl) (by kernel_rfl) (by kernel_rfl)) ?_
     exact PJ.loopNext [2, 3, 4, 25, 26] (by kernel_rfl) (by kernel_rfl)
   ·have h126 := condF hb124 hs122
    refine kF ?_
    refine K.exit 0 (by kernel_rfl) ?_
    refine PJ.passExit ?_
    obtain rfl := oi h126
    refine PJ.loopOut (fun e => nomatch e) (fun he143 => ?_)
    have h142 := congrArg some he143
    refine PJ.blockOut ?_
    obtain rfl := oi h142
    refine PJ.wk (Wk.sel (L2 := [(4, .int .i64 0)]) (H2 := []) 0 (by rw [hFH]; rfl) hFD [] (by kernel_rfl) (by kernel_rfl) (by decide) (by kernel_rfl) (by kernel_rfl) (by kernel_rfl) (by kernel_rfl)) ?_
    exact PJ.cutXl [4] (by kernel_rfl) (by kernel_rfl)
  ·subst hs
   have h80 := joinX_inl h79
   refine kSR ?_
   refine kC 1 [4] ?_
   refine kEN ?_
   refine kX ?_
   obtain rfl := oi h80
   exact kZ hFn hFH hFD

def dec_Cmp (x0 : St23) (x1 : St23) : Option (Int) :=
 (Option.bind (dec_work__side (⟨x0⟩ : St59)) fun y1 => (Option.bind (Option.bind (Option.bind (dec_work__side (⟨x1⟩ : St59)) fun y47 => (bif (decide (¬ y1 = y47)) then (some true) else (some (decide (y1 = 0))))) fun (s42 : Bool) => (bif s42 then (Option.bind (dec_work__side (⟨x1⟩ : St59)) fun y56 => (Option.bind (dec_sign (IntKind.wrap .i64 (y1 - y56))) fun y59 => (some (.inr y59)))) else (some (.inl ())))) (joinX fun (s31 : Unit) => (Option.bind (dec_work__against (⟨x0⟩ : St59) (⟨x1⟩ : St59)) fun y63 => (some (IntKind.wrap .i64 (y1 * y63)))))))
theorem dec_Cmp_ok {x0 : St23} {x1 : St23} {r : Int} (h : dec_Cmp x0 x1 = some r) : SC Tryd.prog 17 [.agg (encSt23 x0), .agg (encSt23 x1)] [] (.int .i64 r) [] := by
 refine kFn (fn := Tryd.f17) (fun F hFn hFH hFD => ?_)
 unfold dec_Cmp at h
 refine kSR ?_
 refine kC 3 [2,3,4] ?_
 refine kEN ?_
 refine kS ?_
 refine J.keep [2, 3, 4] (L2 := [(2, .ptr 0 0), (3, .ptr 1 0), (4, .int .i64 0)]) (by kernel_rfl) ?_
 refine K.draw (by kernel_rfl) (by kernel_rfl) (by kernel_rfl) (H2 := [.box (encSt23 x0), .box (encSt23 x1), .res, .res]) (by kernel_rfl) (n := 2) (by kernel_rfl) ?_
 refine kD 8 ?_
 refine kEN ?_
 refine kSR ?_
 refine kC 1 [4,5,6,12] ?_
 obtain ⟨y1, hy2, h3⟩ := bindS h
 refine RJ.call0 (d := (some 13)) (f := 30) (args := [.agg (encSt23 x0)]) (v := .int .i64 y1) (tr2 := []) (by kernel_rfl) (by kernel_rfl) (.cons (Le.refl _) .nil) (dec_work__side_ok hy2) (by kernel_rfl) ?_
 refine RJ.seg 1 [4, 5, 6, 7] (L2 := [(4, .int .i64 0), (5, .ptr 2 0), (6, .ptr 3 0), (7, .int .i64 y1)]) (H2 := [.box (encSt23 x0), .box (encSt23 x1), .box (encSt23 x0), .box (encSt23 x1)]) (by kernel_rfl) ?_
 refine kEN ?_
 obtain ⟨y32, hy33, h34⟩ := bindS h3
 refine K.cutX (by kernel_rfl) (fun (s31 : Unit) => ([(4, .int .i64 0), (5, .ptr 0 0), (6, .ptr 1 0), (7, .int .i64 y1)], [.box (encSt23 x0), .box (encSt23 x1)])) y32 ?_ (fun s31 hs => ?_)
 ·obtain ⟨s42, hy44, h46⟩ := bindS hy33
  refine K.cutN (by kernel_rfl) (fun (s42 : Bool) => ([(4, .int .i64 0), (5, .ptr 0 0), (6, .ptr 1 0), (7, .int .i64 y1), (21, .bool s42)], [.box (encSt23 x0), .box (encSt23 x1)])) s42 ?_ ?_
  ·refine kR ?_
   refine kC 2 [4,5,6,7,14,15] ?_
   obtain ⟨y47, hy48, h49⟩ := bindS hy44
   refine RJ.call0 (d := (some 16)) (f := 30) (args := [.agg (encSt23 x1)]) (v := .int .i64 y47) (tr2 := []) (by kernel_rfl) (by kernel_rfl) (.cons (Le.refl _) .nil) (dec_work__side_ok hy48) (by kernel_rfl) ?_
   refine kC 2 [4,5,6,7,18] ?_
   refine RJ.caseB 18 (b := (decide (¬ y1 = y47))) (by kernel_rfl) (fun hb50 => ?_) (fun hb50 => ?_)
   ·have h51 := condT hb50 h49
    refine kC 3 [4,5,6,7,21] ?_
    refine kE ?_
    obtain rfl := oi h51
    refine PJ.wk (Wk.sel (L2 := [(4, .int .i64 0), (5, .ptr 0 0), (6, .ptr 1 0), (7, .int .i64 y1), (21, .bool true)]) (H2 := [.box (encSt23 x0), .box (encSt23 x1)]) 0 (by rw [hFH]; rfl) hFD [2, 3] (by kernel_rfl) (by kernel_rfl) (by decide) (by kernel_rfl) (by kernel_rfl) (by kernel_rfl) (by kernel_rfl)) ?_
    exact kN [4, 5, 6, 7, 21]
   ·have h52 := condF hb50 h49
    refine kC 3 [4,5,6,7,21] ?_
    refine kE ?_
    obtain rfl := oi h52
    refine PJ.wk (Wk.sel (L2 := [(4, .int .i64 0), (5, .ptr 0 0), (6, .ptr 1 0), (7, .int .i64 y1), (21, .bool (decide (y1 = 0)))]) (H2 := [.box (encSt23 x0), .box (encSt23 x1)]) 0 (by rw [hFH]; rfl) hFD [2, 3] (by kernel_rfl) (by kernel_rfl) (by decide) (by kernel_rfl) (by kernel_rfl) (by kernel_rfl) (by kernel_rfl)) ?_
    exact kN [4, 5, 6, 7, 21]
  ·refine J.caseB 21 (b := s42) (by kernel_rfl) (fun hb53 => ?_) (fun hb53 => ?_)
   ·have h54 := condT hb53 h46
    refine kT ?_
    refine kSR ?_
    refine kC 2 [4,5,6,7,22,23] ?_
    obtain ⟨y56, hy57, h58⟩ := bindS h54
    refine RJ.call0 (d := (some 24)) (f := 30) (args := [.agg (encSt23 x1)]) (v := .int .i64 y56) (tr2 := []) (by kernel_rfl) (by kernel_rfl) (.cons (Le.refl _) .nil) (dec_work__side_ok hy57) (by kernel_rfl) ?_
    refine kC 1 [4,5,6,7,25] ?_
    obtain ⟨y59, hy60, h61⟩ := bindS h58
    refine RJ.call0 (d := (some 26)) (f := 31) (args := [.int .i64 (IntKind.wrap .i64 (y1 - y56))]) (v := .int .i64 y59) (tr2 := []) (by kernel_rfl) (by kernel_rfl) (.cons (Le.refl _) .nil) (dec_sign_ok hy60) (by kernel_rfl) ?_
    refine kC 1 [4,5,6,7] ?_
    refine kEN ?_
    refine kX ?_
    obtain rfl := oi h61
    have h62 := joinX_inr h34
    refine PJ.cutXr (fun e => nomatch e) ?_
    obtain rfl := oi h62
    exact kZ hFn hFH hFD
   ·have h55 := condF hb53 h46
    refine kF ?_
    refine kK ?_
    obtain rfl := oi h55
    exact PJ.cutXl [4, 5, 6, 7] (by kernel_rfl) (by kernel_rfl)
 ·subst hs
  have h35 := joinX_inl h34
  refine kSR ?_
  refine kC 3 [4,27,28,29] ?_
  obtain ⟨y63, hy64, h65⟩ := bindS h35
  refine RJ.call0 (d := (some 30)) (f := 32) (args := [.agg (encSt23 x0), .agg (encSt23 x1)]) (v := .int .i64 y63) (tr2 := []) (by kernel_rfl) (by kernel_rfl) (.cons (Le.refl _) (.cons (Le.refl _) .nil)) (dec_work__against_ok hy64) (by kernel_rfl) ?_
  refine kC 2 [4] ?_
  refine kEN ?_
  refine kX ?_
  obtain rfl := oi h65
  exact kZ hFn hFH hFD

def dec_At (x0 : St23) (x1 : Int) : Option (Int) :=
 (Option.bind (Option.bind (bif (decide (x1 < x0.E_)) then (some true) else (Option.bind (dec_work__mag (⟨x0⟩ : St59)) fun y41 => (some (decide (x1 > y41))))) fun (s33 : Bool) => (bif s33 then (some (.inr 0)) else (some (.inl ())))) (joinX fun (s22 : Unit) => (Option.bind (dec_work__mag (⟨x0⟩ : St59)) fun y48 => (Option.bind (dec_work__figure (⟨x0⟩ : St59) (IntKind.wrap .i64 (y48 - x1))) fun y51 => (some y51)))))
theorem dec_At_ok {x0 : St23} {x1 : Int} {r : Int} (h : dec_At x0 x1 = some r) : SC Tryd.prog 21 [.agg (encSt23 x0), .int .i64 x1] [] (.int .u8 r) [] := by
 refine kFn (fn := Tryd.f21) (fun F hFn hFH hFD => ?_)
 unfold dec_At at h
 refine kSR ?_
 refine kC 2 [1,2,4] ?_
 refine kEN ?_
 refine kSR ?_
 refine kC 4 [1,4,5] ?_
 refine kEN ?_
 obtain ⟨y23, hy24, h25⟩ := bindS h
 refine K.cutX (by kernel_rfl) (fun (s22 : Unit) => ([(1, .int .i64 x1), (4, .int .u8 0), (5, .ptr 0 0)], [.box (encSt23 x0)])) y23 ?_ (fun s22 hs => ?_)
 ·obtain ⟨s33, hy35, h37⟩ := bindS hy24
  refine K.cutN (by kernel_rfl) (fun (s33 : Bool) => ([(1, .int .i64 x1), (4, .int .u8 0), (5, .ptr 0 0), (18, .bool s33)], [.box (encSt23 x0)])) s33 ?_ ?_
  ·refine kR ?_
   refine kC 6 [1,4,5,13] ?_
   refine RJ.caseB 13 (b := (decide (x1 < x0.E_))) (by kernel_rfl) (fun hb38 => ?_) (fun hb38 => ?_)
   ·have h39 := condT hb38 hy35
    refine RJ.seg 5 [1, 4, 5, 18] (L2 := [(1, .int .i64 x1), (4, .int .u8 0), (5, .ptr 1 0), (18, .bool true)]) (H2 := [.box (encSt23 x0), .box (encSt23 x0)]) (by kernel_rfl) ?_
    refine kE ?_
    obtain rfl := oi h39
    refine PJ.wk (Wk.sel (L2 := [(1, .int .i64 x1), (4, .int .u8 0), (5, .ptr 0 0), (18, .bool true)]) (H2 := [.box (encSt23 x0)]) 0 (by rw [hFH]; rfl) hFD [1] (by kernel_rfl) (by kernel_rfl) (by decide) (by kernel_rfl) (by kernel_rfl) (by kernel_rfl) (by kernel_rfl)) ?_
    exact kN [1, 4, 5, 18]
   ·have h40 := condF hb38 hy35
    refine RJ.seg 2 [1, 4, 5, 13, 14, 15] (L2 := [(1, .int .i64 x1), (4, .int .u8 0), (5, .ptr 1 0), (13, .bool false), (14, .int .i64 x1), (15, .agg (encSt23 x0))]) (H2 := [.box (encSt23 x0), .box (encSt23 x0)]) (by kernel_rfl) ?_
    obtain ⟨y41, hy42, h43⟩ := bindS h40
    refine RJ.call0 (d := (some 16)) (f := 34) (args := [.agg (encSt23 x0)]) (v := .int .i64 y41) (tr2 := []) (by kernel_rfl) (by kernel_rfl) (.cons (Le.refl _) .nil) (dec_work__mag_ok hy42) (by kernel_rfl) ?_
    refine kC 2 [1,4,5,18] ?_
    refine kE ?_
    obtain rfl := oi h43
    refine PJ.wk (Wk.sel (L2 := [(1, .int .i64 x1), (4, .int .u8 0), (5, .ptr 0 0), (18, .bool (decide (x1 > y41)))]) (H2 := [.box (encSt23 x0)]) 0 (by rw [hFH]; rfl) hFD [1] (by kernel_rfl) (by kernel_rfl) (by decide) (by kernel_rfl) (by kernel_rfl) (by kernel_rfl) (by kernel_rfl)) ?_
    exact kN [1, 4, 5, 18]
  ·refine J.caseB 18 (b := s33) (by kernel_rfl) (fun hb44 => ?_) (fun hb44 => ?_)
   ·have h45 := condT hb44 h37
    refine kT ?_
    refine kSR ?_
    refine kC 1 [1,4,5] ?_
    refine kEN ?_
    refine kX ?_
    obtain rfl := oi h45
    have h47 := joinX_inr h25
    refine PJ.cutXr (fun e => nomatch e) ?_
    obtain rfl := oi h47
    exact kZ hFn hFH hFD
   ·have h46 := condF hb44 h37
    refine kF ?_
    refine kK ?_
    obtain rfl := oi h46
    exact PJ.cutXl [1, 4, 5] (by kernel_rfl) (by kernel_rfl)
 ·subst hs
  have h26 := joinX_inl h25
  refine kS ?_
  refine J.keep [1, 4, 5] (L2 := [(1, .int .i64 x1), (4, .int .u8 0), (5, .ptr 0 0)]) (by kernel_rfl) ?_
  refine K.draw (by kernel_rfl) (by kernel_rfl) (by kernel_rfl) (H2 := [.box (encSt23 x0), .res, .res]) (by kernel_rfl) (n := 1) (by kernel_rfl) ?_
  refine kD 2 ?_
  obtain ⟨y48, hy49, h50⟩ := bindS h26
  refine RJ.call0 (d := (some 21)) (f := 34) (args := [.agg (encSt23 x0)]) (v := .int .i64 y48) (tr2 := [([0, 1], []), ([0, 1], []), ([], [2, 3])]) (by kernel_rfl) (by kernel_rfl) (.cons (Le.refl _) .nil) (dec_work__mag_ok hy49) (by kernel_rfl) ?_
  refine kD 2 ?_
  obtain ⟨y51, hy52, h53⟩ := bindS h50
  refine RJ.call0 (d := (some 24)) (f := 35) (args := [.agg (encSt23 x0), .int .i64 (IntKind.wrap .i64 (y48 - x1))]) (v := .int .u8 y51) (tr2 := [([0, 1], []), ([0, 1], []), ([], [2, 3]), ([], []), ([], []), ([], [4, 5])]) (by kernel_rfl) (by kernel_rfl) (.cons (Le.refl _) (.cons (Le.refl _) .nil)) (dec_work__figure_ok hy52) (by kernel_rfl) ?_
  refine kD 1 ?_
  refine kEN ?_
  refine kX ?_
  obtain rfl := oi h53
  exact kZ hFn hFH hFD

def exerguelaw05_shown  : Option (Bool) :=
 (Option.bind (dec_Norm false ([0, 5, 0] : List Int) 1) fun y1 => (Option.bind (dec_Read ([53, 101, 50] : List UInt8)) fun y4 => (Option.bind (bif (decide (y1.2 = 0)) then (Option.bind (dec_Text y1.1) fun y57 => (bif (y57 == ([53, 101, 50] : List UInt8)) then (Option.bind (dec_Mag y1.1) fun y63 => (bif (decide (y63 = 2)) then (bif (decide (y4.2.2 = 0)) then (bif (decide (y4.2.1 = 0)) then (Option.bind (dec_Same y1.1 y4.1) fun y75 => (bif y75 then (Option.bind (dec_Right y1.1) fun y81 => (bif y81 then (Option.bind (dec_Cmp y1.1 y4.1) fun y87 => (bif (decide (y87 = 0)) then (Option.bind (dec_At y1.1 2) fun y93 => (some (decide (y93 = 5)))) else (some false))) else (some false))) else (some false))) else (some false)) else (some false)) else (some false))) else (some false))) else (some false)) fun (s49 : Bool) => (some s49))))
theorem exerguelaw05_shown_ok  {r : Bool} (h : exerguelaw05_shown = some r) : SC Tryd.prog 10 [] [] (.bool r) [] := by
 refine kFn (fn := Tryd.f10) (fun F hFn hFH hFD => ?_)
 unfold exerguelaw05_shown at h
 refine kSR ?_
 refine kC 1 [0] ?_
 refine kEN ?_
 refine kSR ?_
 refine kC 1 [0,7] ?_
 obtain ⟨y1, hy2, h3⟩ := bindS h
 refine RJ.wk (Wk.freeze 0 (n := ([0, 5, 0] : List Int).length) (k := 1) (e := 5) (cs := ([0, 5, 0] : List Int).flatMap (encI .u8)) (by kernel_rfl)) ?_
 refine RJ.call0 (d := (some 8)) (f := 22) (args := [.bool false, lsv (encI .u8) 1 ([0, 5, 0] : List Int), .int .i64 1]) (v := .tup [.agg (encSt23 y1.1), .int .i64 y1.2]) (tr2 := []) (by kernel_rfl) (by kernel_rfl) (.cons (Le.refl _) (.cons (Le.refl _) (.cons (Le.refl _) .nil))) (dec_Norm_ok hy2) (by kernel_rfl) ?_
 refine kC 6 [0,1,2] ?_
 refine kEN ?_
 refine kSR ?_
 obtain ⟨y4, hy5, h6⟩ := bindS h3
 refine RJ.call0 (d := (some 12)) (f := 11) (args := [.str ([53, 101, 50] : List UInt8)]) (v := .tup [.agg (encSt23 y4.1), .int .i64 y4.2.1, .int .i64 y4.2.2]) (tr2 := []) (by kernel_rfl) (by kernel_rfl) (.cons (Le.refl _) .nil) (dec_Read_ok hy5) (by kernel_rfl) ?_
 refine RJ.seg 8 [0, 1, 2, 3, 4, 5] (L2 := [(0, .bool false), (1, .ptr 1 0), (2, .int .i64 y1.2), (3, .ptr 2 0), (4, .int .i64 y4.2.1), (5, .int .i64 y4.2.2)]) (H2 := [.gone, .box (encSt23 y1.1), .box (encSt23 y4.1)]) (by kernel_rfl) ?_
 refine kEN ?_
 obtain ⟨s49, hy51, h53⟩ := bindS h6
 refine K.cutN (by kernel_rfl) (fun (s49 : Bool) => ([(0, .bool s49)], [])) s49 ?_ ?_
 ·refine kR ?_
  refine kC 3 [0,1,3,4,5,18] ?_
  refine RJ.caseB 18 (b := (decide (y1.2 = 0))) (by kernel_rfl) (fun hb54 => ?_) (fun hb54 => ?_)
  ·have h55 := condT hb54 hy51
   refine kC 1 [0,1,3,4,5,18,19] ?_
   obtain ⟨y57, hy58, h59⟩ := bindS h55
   refine RJ.call0 (d := (some 20)) (f := 15) (args := [.agg (encSt23 y1.1)]) (v := .str y57) (tr2 := []) (by kernel_rfl) (by kernel_rfl) (.cons (Le.refl _) .nil) (dec_Text_ok hy58) (by kernel_rfl) ?_
   refine kC 3 [0,1,3,4,5,23] ?_
   refine RJ.caseB 23 (b := (y57 == ([53, 101, 50] : List UInt8))) (by kernel_rfl) (fun hb60 => ?_) (fun hb60 => ?_)
   ·have h61 := condT hb60 h59
    refine RJ.seg 1 [0, 1, 3, 4, 5, 23, 24] (L2 := [(0, .bool false), (1, .ptr 1 0), (3, .ptr 2 0), (4, .int .i64 y4.2.1), (5, .int .i64 y4.2.2), (23, .bool true), (24, .agg (encSt23 y1.1))]) (H2 := [.gone, .box (encSt23 y1.1), .box (encSt23 y4.1)]) (by kernel_rfl) ?_
    obtain ⟨y63, hy64, h65⟩ := bindS h61
    refine RJ.call0 (d := (some 25)) (f := 20) (args := [.agg (encSt23 y1.1)]) (v := .int .i64 y63) (tr2 := []) (by kernel_rfl) (by kernel_rfl) (.cons (Le.refl _) .nil) (dec_Mag_ok hy64) (by kernel_rfl) ?_
    refine kC 3 [0,1,3,4,5,28] ?_
    refine RJ.caseB 28 (b := (decide (y63 = 2))) (by kernel_rfl) (fun hb66 => ?_) (fun hb66 => ?_)
    ·have h67 := condT hb66 h65
     refine kC 4 [0,1,3,4,32] ?_
     refine RJ.caseB 32 (b := (decide (y4.2.2 = 0))) (by kernel_rfl) (fun hb69 => ?_) (fun hb69 => ?_)
     ·have h70 := condT hb69 h67
      refine kC 4 [0,1,3,36] ?_
      refine RJ.caseB 36 (b := (decide (y4.2.1 = 0))) (by kernel_rfl) (fun hb72 => ?_) (fun hb72 => ?_)
      ·have h73 := condT hb72 h70
       refine RJ.seg 2 [0, 1, 3, 36, 37, 38] (L2 := [(0, .bool false), (1, .ptr 1 0), (3, .ptr 2 0), (36, .bool true), (37, .agg (encSt23 y1.1)), (38, .agg (encSt23 y4.1))]) (H2 := [.gone, .box (encSt23 y1.1), .box (encSt23 y4.1)]) (by kernel_rfl) ?_
       obtain ⟨y75, hy76, h77⟩ := bindS h73
       refine RJ.call0 (d := (some 39)) (f := 23) (args := [.agg (encSt23 y1.1), .agg (encSt23 y4.1)]) (v := .bool y75) (tr2 := []) (by kernel_rfl) (by kernel_rfl) (.cons (Le.refl _) (.cons (Le.refl _) .nil)) (dec_Same_ok hy76) (by kernel_rfl) ?_
       refine kC 2 [0,1,3,41] ?_
       refine RJ.caseB 41 (b := y75) (by kernel_rfl) (fun hb78 => ?_) (fun hb78 => ?_)
       ·have h79 := condT hb78 h77
        refine kC 1 [0,1,3,41,42] ?_
        obtain ⟨y81, hy82, h83⟩ := bindS h79
        refine RJ.call0 (d := (some 43)) (f := 24) (args := [.agg (encSt23 y1.1)]) (v := .bool y81) (tr2 := []) (by kernel_rfl) (by kernel_rfl) (.cons (Le.refl _) .nil) (dec_Right_ok hy82) (by kernel_rfl) ?_
        refine kC 2 [0,1,3,45] ?_
        refine RJ.caseB 45 (b := y81) (by kernel_rfl) (fun hb84 => ?_) (fun hb84 => ?_)
        ·have h85 := condT hb84 h83
         refine RJ.seg 2 [0, 1, 45, 46, 47] (L2 := [(0, .bool false), (1, .ptr 1 0), (45, .bool true), (46, .agg (encSt23 y1.1)), (47, .agg (encSt23 y4.1))]) (H2 := [.gone, .box (encSt23 y1.1), .box (encSt23 y4.1)]) (by kernel_rfl) ?_
         obtain ⟨y87, hy88, h89⟩ := bindS h85
         refine RJ.call0 (d := (some 48)) (f := 17) (args := [.agg (encSt23 y1.1), .agg (encSt23 y4.1)]) (v := .int .i64 y87) (tr2 := []) (by kernel_rfl) (by kernel_rfl) (.cons (Le.refl _) (.cons (Le.refl _) .nil)) (dec_Cmp_ok hy88) (by kernel_rfl) ?_
         refine kC 3 [0,1,51] ?_
         refine RJ.caseB 51 (b := (decide (y87 = 0))) (by kernel_rfl) (fun hb90 => ?_) (fun hb90 => ?_)
         ·have h91 := condT hb90 h89
          refine kC 1 [0,51,52] ?_
          obtain ⟨y93, hy94, h95⟩ := bindS h91
          refine RJ.call0 (d := (some 53)) (f := 21) (args := [.agg (encSt23 y1.1), .int .i64 2]) (v := .int .u8 y93) (tr2 := []) (by kernel_rfl) (by kernel_rfl) (.cons (Le.refl _) (.cons (Le.refl _) .nil)) (dec_At_ok hy94) (by kernel_rfl) ?_
          refine kC 3 [0] ?_
          refine kE ?_
          obtain rfl := oi h95
          refine PJ.wk (Wk.sel (L2 := [(0, .bool (decide (y93 = 5)))]) (H2 := []) 0 (by rw [hFH]; rfl) hFD [] (by kernel_rfl) (by kernel_rfl) (by decide) (by kernel_rfl) (by kernel_rfl) (by kernel_rfl) (by kernel_rfl)) ?_
          exact kN [0]
         ·have h92 := condF hb90 h89
          refine kC 5 [0] ?_
          refine kE ?_
          obtain rfl := oi h92
          refine PJ.wk (Wk.sel (L2 := [(0, .bool false)]) (H2 := []) 0 (by rw [hFH]; rfl) hFD [] (by kernel_rfl) (by kernel_rfl) (by decide) (by kernel_rfl) (by kernel_rfl) (by kernel_rfl) (by kernel_rfl)) ?_
          exact kN [0]
        ·have h86 := condF hb84 h83
         refine RJ.seg 11 [0] (L2 := [(0, .bool false)]) (H2 := [.gone, .box (encSt23 y1.1), .box (encSt23 y4.1)]) (by kernel_rfl) ?_
         refine kE ?_
         obtain rfl := oi h86
         refine PJ.wk (Wk.sel (L2 := [(0, .bool false)]) (H2 := []) 0 (by rw [hFH]; rfl) hFD [] (by kernel_rfl) (by kernel_rfl) (by decide) (by kernel_rfl) (by kernel_rfl) (by kernel_rfl) (by kernel_rfl)) ?_
         exact kN [0]
       ·have h80 := condF hb78 h77
        refine kC 15 [0] ?_
        refine kE ?_
        obtain rfl := oi h80
        refine PJ.wk (Wk.sel (L2 := [(0, .bool false)]) (H2 := []) 0 (by rw [hFH]; rfl) hFD [] (by kernel_rfl) (by kernel_rfl) (by decide) (by kernel_rfl) (by kernel_rfl) (by kernel_rfl) (by kernel_rfl)) ?_
        exact kN [0]
      ·have h74 := condF hb72 h70
       refine RJ.seg 20 [0] (L2 := [(0, .bool false)]) (H2 := [.gone, .box (encSt23 y1.1), .box (encSt23 y4.1)]) (by kernel_rfl) ?_
       refine kE ?_
       obtain rfl := oi h74
       refine PJ.wk (Wk.sel (L2 := [(0, .bool false)]) (H2 := []) 0 (by rw [hFH]; rfl) hFD [] (by kernel_rfl) (by kernel_rfl) (by decide) (by kernel_rfl) (by kernel_rfl) (by kernel_rfl) (by kernel_rfl)) ?_
       exact kN [0]
     ·have h71 := condF hb69 h67
      refine kC 24 [0] ?_
      refine kE ?_
      obtain rfl := oi h71
      refine PJ.wk (Wk.sel (L2 := [(0, .bool false)]) (H2 := []) 0 (by rw [hFH]; rfl) hFD [] (by kernel_rfl) (by kernel_rfl) (by decide) (by kernel_rfl) (by kernel_rfl) (by kernel_rfl) (by kernel_rfl)) ?_
      exact kN [0]
    ·have h68 := condF hb66 h65
     refine kC 28 [0] ?_
     refine kE ?_
     obtain rfl := oi h68
     refine PJ.wk (Wk.sel (L2 := [(0, .bool false)]) (H2 := []) 0 (by rw [hFH]; rfl) hFD [] (by kernel_rfl) (by kernel_rfl) (by decide) (by kernel_rfl) (by kernel_rfl) (by kernel_rfl) (by kernel_rfl)) ?_
     exact kN [0]
   ·have h62 := condF hb60 h59
    refine RJ.seg 33 [0] (L2 := [(0, .bool false)]) (H2 := [.gone, .box (encSt23 y1.1), .box (encSt23 y4.1)]) (by kernel_rfl) ?_
    refine kE ?_
    obtain rfl := oi h62
    refine PJ.wk (Wk.sel (L2 := [(0, .bool false)]) (H2 := []) 0 (by rw [hFH]; rfl) hFD [] (by kernel_rfl) (by kernel_rfl) (by decide) (by kernel_rfl) (by kernel_rfl) (by kernel_rfl) (by kernel_rfl)) ?_
    exact kN [0]
  ·have h56 := condF hb54 hy51
   refine kC 38 [0] ?_
   refine kE ?_
   obtain rfl := oi h56
   refine PJ.wk (Wk.sel (L2 := [(0, .bool false)]) (H2 := []) 0 (by rw [hFH]; rfl) hFD [] (by kernel_rfl) (by kernel_rfl) (by decide) (by kernel_rfl) (by kernel_rfl) (by kernel_rfl) (by kernel_rfl)) ?_
   exact kN [0]
 ·refine kX ?_
  obtain rfl := oi h53
  exact kZ hFn hFH hFD

def exergueref05_Right (x0 : St23) : Option (Bool) :=
 (Option.bind (loopN (fun (s45 : Int) => (bif (decide (s45 < (x0.D_.length : Int))) then (bif inR s45 x0.D_.length then (bif (decide ((nth x0.D_ s45) > 9)) then (some (.inr (.inr false))) else (some (.inl (IntKind.wrap .i64 (s45 + 1))))) else none) else (some (.inr (.inl ()))))) big 0) (joinX fun (s40 : Unit) => (bif (decide ((x0.D_.length : Int) = 0)) then (some (decide (x0.E_ = 0))) else (Option.bind (bif (decide ((x0.D_.length : Int) ≤ 1000)) then (bif inR 0 x0.D_.length then (bif (decide ((nth x0.D_ 0) > 0)) then (bif inR ((IntKind.wrap .i64 ((x0.D_.length : Int) - 1))) x0.D_.length then (bif (decide (((nth x0.D_ ((IntKind.wrap .i64 ((x0.D_.length : Int) - 1))))) > 0)) then (bif (decide (x0.E_ ≥ (-1000))) then (some (decide (x0.E_ ≤ 1000))) else (some false)) else (some false)) else none) else (some false)) else none) else (some false)) fun (s101 : Bool) => (some s101)))))
theorem exergueref05_Right_ok {x0 : St23} {r : Bool} (h : exergueref05_Right x0 = some r) : SC Tryd.prog 14 [.agg (encSt23 x0)] [] (.bool r) [] := by
 refine kFn (fn := Tryd.f14) (fun F hFn hFH hFD => ?_)
 unfold exergueref05_Right at h
 refine kSR ?_
 refine kC 2 [1,2] ?_
 refine kEN ?_
 refine kSR ?_
 refine kC 4 [1,2,3] ?_
 refine kEN ?_
 obtain ⟨y41, hy42, h43⟩ := bindS h
 refine K.cutX (by kernel_rfl) (fun (s40 : Unit) => ([(1, .ptr 0 0), (2, .bool false), (3, .int .i64 (x0.D_.length : Int))], [.box (encSt23 x0)])) y41 ?_ (fun s40 hs => ?_)
 ·refine kSR ?_
  refine kC 1 [1,2,3,4] ?_
  refine kEN ?_
  refine K.block 0 (by kernel_rfl) ?_
  refine K.loop (by kernel_rfl) (fun (s45 : Int) => ([(1, .ptr 0 0), (2, .bool false), (3, .int .i64 (x0.D_.length : Int)), (4, .int .i64 s45)], [.box (encSt23 x0)])) hy42 [1, 2, 3, 4] (by kernel_rfl) (by kernel_rfl) (fun s45 x71 hs70 => ?_)
  refine kS ?_
  refine kSR ?_
  refine kC 3 [1,2,3,4,10] ?_
  refine kEN ?_
  refine J.caseB 10 (b := (decide (s45 < (x0.D_.length : Int)))) (by kernel_rfl) (fun hb72 => ?_) (fun hb72 => ?_)
  ·have h73 := condT hb72 hs70
   refine kT ?_
   refine kK ?_
   refine PJ.next ?_
   refine kS ?_
   refine K.block 1 (by kernel_rfl) ?_
   refine kSR ?_
   refine kC 3 [1,2,3,4,14,15] ?_
   obtain ⟨hm, h75⟩ := asrt h73
   refine RJ.rel (d := (some 16)) (ef := ⟨.ep (((x0.D_.flatMap (encI .u8)).drop ((s45 : Int).toNat * 1)).take 1), [], []⟩) (ef' := ⟨.ep ((encI .u8) (nth x0.D_ s45)), [], []⟩) (c := inR s45 x0.D_.length) (tr2 := []) (H2 := [.box (encSt23 x0)]) (by kernel_rfl) hm (fun hc => N.idx (encI_len .u8) hc) (by kernel_rfl) ?_
   refine kC 2 [1,2,3,4,18] ?_
   refine kEN ?_
   refine J.caseB 18 (b := (decide ((nth x0.D_ s45) > 9))) (by kernel_rfl) (fun hb76 => ?_) (fun hb76 => ?_)
   ·have h77 := condT hb76 h75
    refine kT ?_
    refine kSR ?_
    refine RJ.seg 1 [1, 2, 3, 4] (L2 := [(1, .ptr 0 0), (2, .bool false), (3, .int .i64 (x0.D_.length : Int)), (4, .int .i64 s45)]) (H2 := [.box (encSt23 x0)]) (by kernel_rfl) ?_
    refine kEN ?_
    refine kX ?_
    refine PJ.blockRet ?_
    refine PJ.passRet ?_
    obtain rfl := oi h77
    refine PJ.loopOut (fun e => nomatch e) (fun he81 => ?_)
    have h79 := congrArg some he81
    refine PJ.blockRet ?_
    obtain rfl := oi h79
    have h80 := joinX_inr h43
    refine PJ.cutXr (fun e => nomatch e) ?_
    obtain rfl := oi h80
    exact kZ hFn hFH hFD
   ·have h78 := condF hb76 h75
    refine kF ?_
    refine kK ?_
    refine PJ.blockNormal ?_
    refine PJ.next ?_
    refine kR ?_
    refine RJ.seg 3 [1, 2, 3, 4] (L2 := [(1, .ptr 0 0), (2, .bool false), (3, .int .i64 (x0.D_.length : Int)), (4, .int .i64 (IntKind.wrap .i64 (s45 + 1)))]) (H2 := [.box (encSt23 x0)]) (by kernel_rfl) ?_
    refine kE ?_
    obtain rfl := oi h78
    exact PJ.loopNext [1, 2, 3, 4] (by kernel_rfl) (by kernel_rfl)
  ·have h74 := condF hb72 hs70
   refine kF ?_
   refine K.exit 0 (by kernel_rfl) ?_
   refine PJ.passExit ?_
   obtain rfl := oi h74
   refine PJ.loopOut (fun e => nomatch e) (fun he83 => ?_)
   have h82 := congrArg some he83
   refine PJ.blockOut ?_
   obtain rfl := oi h82
   exact PJ.cutXl [1, 2, 3] (by kernel_rfl) (by kernel_rfl)
 ·subst hs
  have h44 := joinX_inl h43
  refine kS ?_
  refine kSR ?_
  refine kC 2 [1,2,3,20] ?_
  refine kEN ?_
  refine J.caseB 20 (b := (decide ((x0.D_.length : Int) = 0))) (by kernel_rfl) (fun hb84 => ?_) (fun hb84 => ?_)
  ·have h85 := condT hb84 h44
   refine kT ?_
   refine kSR ?_
   refine kC 4 [1,2,3] ?_
   refine kEN ?_
   refine kX ?_
   refine PJ.passRet ?_
   obtain rfl := oi h85
   exact kZ hFn hFH hFD
  ·have h86 := condF hb84 h44
   refine kF ?_
   refine kK ?_
   refine PJ.next ?_
   obtain ⟨s101, hy103, h105⟩ := bindS h86
   refine K.cutN (by kernel_rfl) (fun (s101 : Bool) => ([(2, .bool s101)], [])) s101 ?_ ?_
   ·refine kR ?_
    refine kC 3 [1,2,3,26] ?_
    refine RJ.caseB 26 (b := (decide ((x0.D_.length : Int) ≤ 1000))) (by kernel_rfl) (fun hb106 => ?_) (fun hb106 => ?_)
    ·have h107 := condT hb106 hy103
     refine kC 2 [1,2,3,26,28] ?_
     obtain ⟨hm, h109⟩ := asrt h107
     refine RJ.rel (d := (some 29)) (ef := ⟨.ep (((x0.D_.flatMap (encI .u8)).drop ((0 : Int).toNat * 1)).take 1), [], []⟩) (ef' := ⟨.ep ((encI .u8) (nth x0.D_ 0)), [], []⟩) (c := inR 0 x0.D_.length) (tr2 := []) (H2 := [.box (encSt23 x0)]) (by kernel_rfl) hm (fun hc => N.idx (encI_len .u8) hc) (by kernel_rfl) ?_
     refine RJ.seg 4 [1, 2, 3, 33] (L2 := [(1, .ptr 0 0), (2, .bool false), (3, .int .i64 (x0.D_.length : Int)), (33, .bool ((decide ((nth x0.D_ 0) > 0))))]) (H2 := [.box (encSt23 x0)]) (by kernel_rfl) ?_
     refine RJ.caseB 33 (b := (decide ((nth x0.D_ 0) > 0))) (by kernel_rfl) (fun hb110 => ?_) (fun hb110 => ?_)
     ·have h111 := condT hb110 h109
      refine kC 4 [1,2,33,35,37] ?_
      obtain ⟨hm, h113⟩ := asrt h111
      refine RJ.rel (d := (some 38)) (ef := ⟨.ep (((x0.D_.flatMap (encI .u8)).drop (((IntKind.wrap .i64 ((x0.D_.length : Int) - 1)) : Int).toNat * 1)).take 1), [], []⟩) (ef' := ⟨.ep ((encI .u8) (nth x0.D_ ((IntKind.wrap .i64 ((x0.D_.length : Int) - 1))))), [], []⟩) (c := inR ((IntKind.wrap .i64 ((x0.D_.length : Int) - 1))) x0.D_.length) (tr2 := []) (H2 := [.box (encSt23 x0)]) (by kernel_rfl) hm (fun hc => N.idx (encI_len .u8) hc) (by kernel_rfl) ?_
      refine kC 4 [1,2,42] ?_
      refine RJ.caseB 42 (b := (decide (((nth x0.D_ ((IntKind.wrap .i64 ((x0.D_.length : Int) - 1))))) > 0))) (by kernel_rfl) (fun hb114 => ?_) (fun hb114 => ?_)
      ·have h115 := condT hb114 h113
       refine kC 5 [1,2,47] ?_
       refine RJ.caseB 47 (b := (decide (x0.E_ ≥ (-1000)))) (by kernel_rfl) (fun hb117 => ?_) (fun hb117 => ?_)
       ·have h118 := condT hb117 h115
        refine RJ.seg 5 [2] (L2 := [(2, .bool (decide (x0.E_ ≤ 1000)))]) (H2 := [.box (encSt23 x0)]) (by kernel_rfl) ?_
        refine kE ?_
        obtain rfl := oi h118
        refine PJ.wk (Wk.sel (L2 := [(2, .bool (decide (x0.E_ ≤ 1000)))]) (H2 := []) 0 (by rw [hFH]; rfl) hFD [] (by kernel_rfl) (by kernel_rfl) (by decide) (by kernel_rfl) (by kernel_rfl) (by kernel_rfl) (by kernel_rfl)) ?_
        exact kN [2]
       ·have h119 := condF hb117 h115
        refine RJ.seg 5 [2] (L2 := [(2, .bool false)]) (H2 := [.box (encSt23 x0)]) (by kernel_rfl) ?_
        refine kE ?_
        obtain rfl := oi h119
        refine PJ.wk (Wk.sel (L2 := [(2, .bool false)]) (H2 := []) 0 (by rw [hFH]; rfl) hFD [] (by kernel_rfl) (by kernel_rfl) (by decide) (by kernel_rfl) (by kernel_rfl) (by kernel_rfl) (by kernel_rfl)) ?_
        exact kN [2]
      ·have h116 := condF hb114 h113
       refine kC 10 [2] ?_
       refine kE ?_
       obtain rfl := oi h116
       refine PJ.wk (Wk.sel (L2 := [(2, .bool false)]) (H2 := []) 0 (by rw [hFH]; rfl) hFD [] (by kernel_rfl) (by kernel_rfl) (by decide) (by kernel_rfl) (by kernel_rfl) (by kernel_rfl) (by kernel_rfl)) ?_
       exact kN [2]
     ·have h112 := condF hb110 h109
      refine kC 19 [2] ?_
      refine kE ?_
      obtain rfl := oi h112
      refine PJ.wk (Wk.sel (L2 := [(2, .bool false)]) (H2 := []) 0 (by rw [hFH]; rfl) hFD [] (by kernel_rfl) (by kernel_rfl) (by decide) (by kernel_rfl) (by kernel_rfl) (by kernel_rfl) (by kernel_rfl)) ?_
      exact kN [2]
    ·have h108 := condF hb106 hy103
     refine kC 26 [2] ?_
     refine kE ?_
     obtain rfl := oi h108
     refine PJ.wk (Wk.sel (L2 := [(2, .bool false)]) (H2 := []) 0 (by rw [hFH]; rfl) hFD [] (by kernel_rfl) (by kernel_rfl) (by decide) (by kernel_rfl) (by kernel_rfl) (by kernel_rfl) (by kernel_rfl)) ?_
     exact kN [2]
   ·refine kX ?_
    obtain rfl := oi h105
    exact kZ hFn hFH hFD

def exergueref05_Number : Nat → Int → Option (List UInt8)
 | 0, _ => none
 | n + 1, x0 => (bif (decide (x0 < 0)) then (Option.bind (exergueref05_Number n (IntKind.wrap .i64 (0 - x0))) fun y4 => (bif room (([45] : List UInt8).length + y4.length) then (some (([45] : List UInt8) ++ y4)) else none)) else (Option.bind (loopN (fun (s34 : Int × (List UInt8)) => (bif (decide (s34.1 ≥ 10)) then (bif room (((bytesS (([(IntKind.wrap .u8 ((IntKind.wrap .i64 (48 + ((Int.tmod (IntKind.wrap .i64 (Int.tdiv s34.1 10)) 10))))))] : List Int)))).length + s34.2.length) then (some (.inl ((IntKind.wrap .i64 (Int.tdiv s34.1 10)), (((bytesS (([(IntKind.wrap .u8 ((IntKind.wrap .i64 (48 + ((Int.tmod (IntKind.wrap .i64 (Int.tdiv s34.1 10)) 10))))))] : List Int)))) ++ s34.2)))) else none) else (some (.inr s34.2)))) big (x0, (bytesS (([(IntKind.wrap .u8 ((IntKind.wrap .i64 (48 + (Int.tmod x0 10)))))] : List Int))))) fun (s29 : (List UInt8)) => (some s29)))
theorem exergueref05_Number_ok : ∀ (n : Nat) {x0 : Int} {r : List UInt8} (h : exergueref05_Number n x0 = some r), SC Tryd.prog 29 [.int .i64 x0] [] (.str r) [] := by
 intro n
 induction n with
 | zero => intro x0 r h; cases h
 | succ n ih =>
 intro x0 r h
 refine kFn (fn := Tryd.f29) (fun F hFn hFH hFD => ?_)
 rw [exergueref05_Number.eq_2] at h
 refine kSR ?_
 refine kC 1 [0,2] ?_
 refine kEN ?_
 refine kS ?_
 refine kSR ?_
 refine kC 2 [0,2,5] ?_
 refine kEN ?_
 refine J.caseB 5 (b := (decide (x0 < 0))) (by kernel_rfl) (fun hb1 => ?_) (fun hb1 => ?_)
 ·have h2 := condT hb1 h
  refine kT ?_
  refine kSR ?_
  refine kC 2 [0,2,7] ?_
  obtain ⟨y4, hy5, h6⟩ := bindS h2
  refine RJ.call0 (d := (some 8)) (f := 29) (args := [.int .i64 (IntKind.wrap .i64 (0 - x0))]) (v := .str y4) (tr2 := []) (by kernel_rfl) (by kernel_rfl) (.cons (Le.refl _) .nil) (ih hy5) (by kernel_rfl) ?_
  obtain ⟨hm, h7⟩ := asrt h6
  refine RJ.rel (d := (some 9)) (ef := ⟨.str (([45] : List UInt8) ++ y4), [], []⟩) (ef' := ⟨.str (([45] : List UInt8) ++ y4), [], []⟩) (c := room (([45] : List UInt8).length + y4.length)) (tr2 := []) (H2 := []) (by kernel_rfl) hm (fun hc => rfl) (by kernel_rfl) ?_
  refine RJ.seg 1 [0, 2] (L2 := [(0, .int .i64 x0), (2, .str (([45] : List UInt8) ++ y4))]) (H2 := []) (by kernel_rfl) ?_
  refine kEN ?_
  refine kX ?_
  refine PJ.passRet ?_
  obtain rfl := oi h7
  exact kZ hFn hFH hFD
 ·have h3 := condF hb1 h
  refine kF ?_
  refine kK ?_
  refine PJ.next ?_
  refine kSR ?_
  refine kC 5 [0,2,14] ?_
  refine RJ.rel (d := (some 15)) (ef := ⟨.str (((([(IntKind.wrap .u8 ((IntKind.wrap .i64 (48 + (Int.tmod x0 10)))))] : List Int)).flatMap (encI .u8)).map Go.Sy.byteOf), [0], []⟩) (ef' := ⟨.str (bytesS (([(IntKind.wrap .u8 ((IntKind.wrap .i64 (48 + (Int.tmod x0 10)))))] : List Int))), [0], []⟩) (c := ((([(IntKind.wrap .u8 ((IntKind.wrap .i64 (48 + (Int.tmod x0 10)))))] : List Int)).flatMap (encI .u8)).all isByte) (tr2 := []) (H2 := [vecL (encI .u8) 1 5 (([(IntKind.wrap .u8 ((IntKind.wrap .i64 (48 + (Int.tmod x0 10)))))] : List Int))]) (by kernel_rfl) (allByte (([(IntKind.wrap .u8 ((IntKind.wrap .i64 (48 + (Int.tmod x0 10)))))] : List Int))) (fun hc => N.toStr) (by kernel_rfl) ?_
  refine RJ.seg 1 [0, 2, 3] (L2 := [(0, .int .i64 x0), (2, .str ([] : List UInt8)), (3, .str ((bytesS (([(IntKind.wrap .u8 ((IntKind.wrap .i64 (48 + (Int.tmod x0 10)))))] : List Int)))))]) (H2 := [vecL (encI .u8) 1 5 (([(IntKind.wrap .u8 ((IntKind.wrap .i64 (48 + (Int.tmod x0 10)))))] : List Int))]) (by kernel_rfl) ?_
  refine kEN ?_
  obtain ⟨s29, hy31, h33⟩ := bindS h3
  refine K.cutN (by kernel_rfl) (fun (s29 : (List UInt8)) => ([(2, .str ([] : List UInt8)), (3, .str s29)], [])) s29 ?_ ?_
  ·refine K.block 0 (by kernel_rfl) ?_
   refine J.wk (Wk.sel (L2 := [(0, .int .i64 x0), (2, .str ([] : List UInt8)), (3, .str ((bytesS (([(IntKind.wrap .u8 ((IntKind.wrap .i64 (48 + (Int.tmod x0 10)))))] : List Int)))))]) (H2 := []) 0 (by rw [hFH]; rfl) hFD [] (by kernel_rfl) (by kernel_rfl) (by decide) (by kernel_rfl) (by kernel_rfl) (by kernel_rfl) (by kernel_rfl)) ?_
   refine K.loop (by kernel_rfl) (fun (s34 : Int × (List UInt8)) => ([(0, .int .i64 s34.1), (2, .str ([] : List UInt8)), (3, .str s34.2)], [])) hy31 [0, 2, 3] (by kernel_rfl) (by kernel_rfl) (fun s34 x48 hs47 => ?_)
   refine kS ?_
   refine kSR ?_
   refine kC 2 [0,2,3,17] ?_
   refine kEN ?_
   refine J.caseB 17 (b := (decide (s34.1 ≥ 10))) (by kernel_rfl) (fun hb49 => ?_) (fun hb49 => ?_)
   ·have h50 := condT hb49 hs47
    refine kT ?_
    refine kK ?_
    refine PJ.next ?_
    refine K.block 1 (by kernel_rfl) ?_
    refine kSR ?_
    refine kC 3 [0,2,3] ?_
    refine kEN ?_
    refine kR ?_
    refine kC 5 [0,2,3,24] ?_
    refine RJ.rel (d := (some 25)) (ef := ⟨.str (((([(IntKind.wrap .u8 ((IntKind.wrap .i64 (48 + ((Int.tmod (IntKind.wrap .i64 (Int.tdiv s34.1 10)) 10))))))] : List Int)).flatMap (encI .u8)).map Go.Sy.byteOf), [0], []⟩) (ef' := ⟨.str (bytesS (([(IntKind.wrap .u8 ((IntKind.wrap .i64 (48 + ((Int.tmod (IntKind.wrap .i64 (Int.tdiv s34.1 10)) 10))))))] : List Int))), [0], []⟩) (c := ((([(IntKind.wrap .u8 ((IntKind.wrap .i64 (48 + ((Int.tmod (IntKind.wrap .i64 (Int.tdiv s34.1 10)) 10))))))] : List Int)).flatMap (encI .u8)).all isByte) (tr2 := []) (H2 := [vecL (encI .u8) 1 5 (([(IntKind.wrap .u8 ((IntKind.wrap .i64 (48 + ((Int.tmod (IntKind.wrap .i64 (Int.tdiv s34.1 10)) 10))))))] : List Int))]) (by kernel_rfl) (allByte (([(IntKind.wrap .u8 ((IntKind.wrap .i64 (48 + ((Int.tmod (IntKind.wrap .i64 (Int.tdiv s34.1 10)) 10))))))] : List Int))) (fun hc => N.toStr) (by kernel_rfl) ?_
    refine RJ.seg 1 [0, 2, 3, 25, 26] (L2 := [(0, .int .i64 (IntKind.wrap .i64 (Int.tdiv s34.1 10))), (2, .str ([] : List UInt8)), (3, .str s34.2), (25, .str ((bytesS (([(IntKind.wrap .u8 ((IntKind.wrap .i64 (48 + ((Int.tmod (IntKind.wrap .i64 (Int.tdiv s34.1 10)) 10))))))] : List Int))))), (26, .str s34.2)]) (H2 := [vecL (encI .u8) 1 5 (([(IntKind.wrap .u8 ((IntKind.wrap .i64 (48 + ((Int.tmod (IntKind.wrap .i64 (Int.tdiv s34.1 10)) 10))))))] : List Int))]) (by kernel_rfl) ?_
    obtain ⟨hm, h52⟩ := asrt h50
    refine RJ.rel (d := (some 27)) (ef := ⟨.str (((bytesS (([(IntKind.wrap .u8 ((IntKind.wrap .i64 (48 + ((Int.tmod (IntKind.wrap .i64 (Int.tdiv s34.1 10)) 10))))))] : List Int)))) ++ s34.2), [], []⟩) (ef' := ⟨.str (((bytesS (([(IntKind.wrap .u8 ((IntKind.wrap .i64 (48 + ((Int.tmod (IntKind.wrap .i64 (Int.tdiv s34.1 10)) 10))))))] : List Int)))) ++ s34.2), [], []⟩) (c := room (((bytesS (([(IntKind.wrap .u8 ((IntKind.wrap .i64 (48 + ((Int.tmod (IntKind.wrap .i64 (Int.tdiv s34.1 10)) 10))))))] : List Int)))).length + s34.2.length)) (tr2 := []) (H2 := [vecL (encI .u8) 1 5 (([(IntKind.wrap .u8 ((IntKind.wrap .i64 (48 + ((Int.tmod (IntKind.wrap .i64 (Int.tdiv s34.1 10)) 10))))))] : List Int))]) (by kernel_rfl) hm (fun hc => rfl) (by kernel_rfl) ?_
    refine kC 1 [0,2,3] ?_
    refine kE ?_
    refine PJ.blockNormal ?_
    obtain rfl := oi h52
    refine PJ.wk (Wk.sel (L2 := [(0, .int .i64 (IntKind.wrap .i64 (Int.tdiv s34.1 10))), (2, .str ([] : List UInt8)), (3, .str ((((bytesS (([(IntKind.wrap .u8 ((IntKind.wrap .i64 (48 + ((Int.tmod (IntKind.wrap .i64 (Int.tdiv s34.1 10)) 10))))))] : List Int)))) ++ s34.2)))]) (H2 := []) 0 (by rw [hFH]; rfl) hFD [] (by kernel_rfl) (by kernel_rfl) (by decide) (by kernel_rfl) (by kernel_rfl) (by kernel_rfl) (by kernel_rfl)) ?_
    exact PJ.loopNext [0, 2, 3] (by kernel_rfl) (by kernel_rfl)
   ·have h51 := condF hb49 hs47
    refine kF ?_
    refine K.exit 0 (by kernel_rfl) ?_
    refine PJ.passExit ?_
    obtain rfl := oi h51
    refine PJ.loopOut (fun e => nomatch e) (fun he54 => ?_)
    have h53 := congrArg some he54
    refine PJ.blockOut ?_
    obtain rfl := oi h53
    exact kN [2, 3]
  ·refine kSR ?_
   refine kC 2 [2] ?_
   refine kEN ?_
   refine kX ?_
   obtain rfl := oi h33
   exact kZ hFn hFH hFD

def exergueref05_Text (x0 : St23) : Option (List UInt8) :=
 (Option.bind (bif x0.Neg_ then (some ([45] : List UInt8)) else (some ([] : List UInt8))) fun (s4 : (List UInt8)) => (Option.bind (loopN (fun (s41 : (List UInt8) × Int) => (bif (decide (s41.2 < (x0.D_.length : Int))) then (bif inR s41.2 x0.D_.length then (bif room (s41.1.length + ((bytesS (([(IntKind.wrap .u8 (48 + (nth x0.D_ s41.2)))] : List Int)))).length) then (some (.inl ((s41.1 ++ ((bytesS (([(IntKind.wrap .u8 (48 + (nth x0.D_ s41.2)))] : List Int))))), (IntKind.wrap .i64 (s41.2 + 1))))) else none) else none) else (some (.inr s41.1)))) big (s4, 0)) fun (s36 : (List UInt8)) => (Option.bind (bif (decide ((x0.D_.length : Int) = 0)) then (bif room (s36.length + ([48] : List UInt8).length) then (some (s36 ++ ([48] : List UInt8))) else none) else (some s36)) fun (s69 : (List UInt8)) => (bif room (s69.length + ([101] : List UInt8).length) then (Option.bind (exergueref05_Number big x0.E_) fun y79 => (bif room ((s69 ++ ([101] : List UInt8)).length + y79.length) then (some ((s69 ++ ([101] : List UInt8)) ++ y79)) else none)) else none))))
theorem exergueref05_Text_ok {x0 : St23} {r : List UInt8} (h : exergueref05_Text x0 = some r) : SC Tryd.prog 16 [.agg (encSt23 x0)] [] (.str r) [] := by
 refine kFn (fn := Tryd.f16) (fun F hFn hFH hFD => ?_)
 unfold exergueref05_Text at h
 refine kSR ?_
 refine kC 2 [1,2] ?_
 refine kEN ?_
 refine kSR ?_
 refine kC 1 [1,2,3] ?_
 refine kEN ?_
 obtain ⟨s4, hy6, h8⟩ := bindS h
 refine K.cutN (by kernel_rfl) (fun (s4 : (List UInt8)) => ([(1, .ptr 0 0), (2, .str ([] : List UInt8)), (3, .str s4)], [.box (encSt23 x0)])) s4 ?_ ?_
 ·refine kSR ?_
  refine kC 2 [1,2,3,6] ?_
  refine kEN ?_
  refine J.caseB 6 (b := x0.Neg_) (by kernel_rfl) (fun hb9 => ?_) (fun hb9 => ?_)
  ·have h10 := condT hb9 hy6
   refine kT ?_
   refine kR ?_
   refine RJ.seg 1 [1, 2, 3] (L2 := [(1, .ptr 0 0), (2, .str ([] : List UInt8)), (3, .str ([45] : List UInt8))]) (H2 := [.box (encSt23 x0)]) (by kernel_rfl) ?_
   refine kE ?_
   obtain rfl := oi h10
   exact kN [1, 2, 3]
  ·have h11 := condF hb9 hy6
   refine kF ?_
   refine kK ?_
   obtain rfl := oi h11
   exact kN [1, 2, 3]
 ·obtain ⟨s36, hy38, h40⟩ := bindS h8
  refine K.cutN (by kernel_rfl) (fun (s36 : (List UInt8)) => ([(1, .ptr 0 0), (2, .str ([] : List UInt8)), (3, .str s36)], [.box (encSt23 x0)])) s36 ?_ ?_
  ·refine kSR ?_
   refine kC 1 [1,2,3,4] ?_
   refine kEN ?_
   refine K.block 0 (by kernel_rfl) ?_
   refine K.loop (by kernel_rfl) (fun (s41 : (List UInt8) × Int) => ([(1, .ptr 0 0), (2, .str ([] : List UInt8)), (3, .str s41.1), (4, .int .i64 s41.2)], [.box (encSt23 x0)])) hy38 [1, 2, 3, 4] (by kernel_rfl) (by kernel_rfl) (fun s41 x57 hs56 => ?_)
   refine kS ?_
   refine kSR ?_
   refine kC 5 [1,2,3,4,11] ?_
   refine kEN ?_
   refine J.caseB 11 (b := (decide (s41.2 < (x0.D_.length : Int)))) (by kernel_rfl) (fun hb58 => ?_) (fun hb58 => ?_)
   ·have h59 := condT hb58 hs56
    refine kT ?_
    refine kK ?_
    refine PJ.next ?_
    refine kS ?_
    refine K.block 1 (by kernel_rfl) ?_
    refine kR ?_
    refine kC 4 [1,2,3,4,14,16,17] ?_
    obtain ⟨hm, h61⟩ := asrt h59
    refine RJ.rel (d := (some 18)) (ef := ⟨.ep (((x0.D_.flatMap (encI .u8)).drop ((s41.2 : Int).toNat * 1)).take 1), [], []⟩) (ef' := ⟨.ep ((encI .u8) (nth x0.D_ s41.2)), [], []⟩) (c := inR s41.2 x0.D_.length) (tr2 := []) (H2 := [.box (encSt23 x0)]) (by kernel_rfl) hm (fun hc => N.idx (encI_len .u8) hc) (by kernel_rfl) ?_
    refine kC 3 [1,2,3,4,14,21] ?_
    refine RJ.rel (d := (some 22)) (ef := ⟨.str (((([(IntKind.wrap .u8 (48 + (nth x0.D_ s41.2)))] : List Int)).flatMap (encI .u8)).map Go.Sy.byteOf), [1], []⟩) (ef' := ⟨.str (bytesS (([(IntKind.wrap .u8 (48 + (nth x0.D_ s41.2)))] : List Int))), [1], []⟩) (c := ((([(IntKind.wrap .u8 (48 + (nth x0.D_ s41.2)))] : List Int)).flatMap (encI .u8)).all isByte) (tr2 := []) (H2 := [.box (encSt23 x0), vecL (encI .u8) 1 5 (([(IntKind.wrap .u8 (48 + (nth x0.D_ s41.2)))] : List Int))]) (by kernel_rfl) (allByte (([(IntKind.wrap .u8 (48 + (nth x0.D_ s41.2)))] : List Int))) (fun hc => N.toStr) (by kernel_rfl) ?_
    obtain ⟨hm, h62⟩ := asrt h61
    refine RJ.rel (d := (some 23)) (ef := ⟨.str (s41.1 ++ ((bytesS (([(IntKind.wrap .u8 (48 + (nth x0.D_ s41.2)))] : List Int))))), [], []⟩) (ef' := ⟨.str (s41.1 ++ ((bytesS (([(IntKind.wrap .u8 (48 + (nth x0.D_ s41.2)))] : List Int))))), [], []⟩) (c := room (s41.1.length + ((bytesS (([(IntKind.wrap .u8 (48 + (nth x0.D_ s41.2)))] : List Int)))).length)) (tr2 := []) (H2 := [.box (encSt23 x0), vecL (encI .u8) 1 5 (([(IntKind.wrap .u8 (48 + (nth x0.D_ s41.2)))] : List Int))]) (by kernel_rfl) hm (fun hc => rfl) (by kernel_rfl) ?_
    refine RJ.seg 1 [1, 2, 3, 4] (L2 := [(1, .ptr 0 0), (2, .str ([] : List UInt8)), (3, .str ((s41.1 ++ ((bytesS (([(IntKind.wrap .u8 (48 + (nth x0.D_ s41.2)))] : List Int))))))), (4, .int .i64 s41.2)]) (H2 := [.box (encSt23 x0), vecL (encI .u8) 1 5 (([(IntKind.wrap .u8 (48 + (nth x0.D_ s41.2)))] : List Int))]) (by kernel_rfl) ?_
    refine kE ?_
    refine PJ.blockNormal ?_
    refine PJ.next ?_
    refine kR ?_
    refine kC 3 [1,2,3,4] ?_
    refine kE ?_
    obtain rfl := oi h62
    refine PJ.wk (Wk.sel (L2 := [(1, .ptr 0 0), (2, .str ([] : List UInt8)), (3, .str ((s41.1 ++ ((bytesS (([(IntKind.wrap .u8 (48 + (nth x0.D_ s41.2)))] : List Int))))))), (4, .int .i64 (IntKind.wrap .i64 (s41.2 + 1)))]) (H2 := [.box (encSt23 x0)]) 0 (by rw [hFH]; rfl) hFD [0] (by kernel_rfl) (by kernel_rfl) (by decide) (by kernel_rfl) (by kernel_rfl) (by kernel_rfl) (by kernel_rfl)) ?_
    exact PJ.loopNext [1, 2, 3, 4] (by kernel_rfl) (by kernel_rfl)
   ·have h60 := condF hb58 hs56
    refine kF ?_
    refine K.exit 0 (by kernel_rfl) ?_
    refine PJ.passExit ?_
    obtain rfl := oi h60
    refine PJ.loopOut (fun e => nomatch e) (fun he64 => ?_)
    have h63 := congrArg some he64
    refine PJ.blockOut ?_
    obtain rfl := oi h63
    exact kN [1, 2, 3]
  ·obtain ⟨s69, hy71, h73⟩ := bindS h40
   refine K.cutN (by kernel_rfl) (fun (s69 : (List UInt8)) => ([(1, .ptr 0 0), (2, .str ([] : List UInt8)), (3, .str s69)], [.box (encSt23 x0)])) s69 ?_ ?_
   ·refine kSR ?_
    refine kC 4 [1,2,3,27] ?_
    refine kEN ?_
    refine J.caseB 27 (b := (decide ((x0.D_.length : Int) = 0))) (by kernel_rfl) (fun hb74 => ?_) (fun hb74 => ?_)
    ·have h75 := condT hb74 hy71
     refine kT ?_
     refine kR ?_
     refine kC 1 [1,2,3,28] ?_
     obtain ⟨hm, h77⟩ := asrt h75
     refine RJ.rel (d := (some 29)) (ef := ⟨.str (s36 ++ ([48] : List UInt8)), [], []⟩) (ef' := ⟨.str (s36 ++ ([48] : List UInt8)), [], []⟩) (c := room (s36.length + ([48] : List UInt8).length)) (tr2 := []) (H2 := [.box (encSt23 x0)]) (by kernel_rfl) hm (fun hc => rfl) (by kernel_rfl) ?_
     refine kC 1 [1,2,3] ?_
     refine kE ?_
     obtain rfl := oi h77
     exact kN [1, 2, 3]
    ·have h76 := condF hb74 hy71
     refine kF ?_
     refine kK ?_
     obtain rfl := oi h76
     exact kN [1, 2, 3]
   ·refine kSR ?_
    refine kC 1 [1,2,30] ?_
    obtain ⟨hm, h78⟩ := asrt h73
    refine RJ.rel (d := (some 31)) (ef := ⟨.str (s69 ++ ([101] : List UInt8)), [], []⟩) (ef' := ⟨.str (s69 ++ ([101] : List UInt8)), [], []⟩) (c := room (s69.length + ([101] : List UInt8).length)) (tr2 := []) (H2 := [.box (encSt23 x0)]) (by kernel_rfl) hm (fun hc => rfl) (by kernel_rfl) ?_
    refine kC 2 [2,31,33] ?_
    obtain ⟨y79, hy80, h81⟩ := bindS h78
    refine RJ.call0 (d := (some 34)) (f := 29) (args := [.int .i64 x0.E_]) (v := .str y79) (tr2 := []) (by kernel_rfl) (by kernel_rfl) (.cons (Le.refl _) .nil) (exergueref05_Number_ok big hy80) (by kernel_rfl) ?_
    obtain ⟨hm, h82⟩ := asrt h81
    refine RJ.rel (d := (some 35)) (ef := ⟨.str ((s69 ++ ([101] : List UInt8)) ++ y79), [], []⟩) (ef' := ⟨.str ((s69 ++ ([101] : List UInt8)) ++ y79), [], []⟩) (c := room ((s69 ++ ([101] : List UInt8)).length + y79.length)) (tr2 := []) (H2 := [.box (encSt23 x0)]) (by kernel_rfl) hm (fun hc => rfl) (by kernel_rfl) ?_
    refine kC 1 [2] ?_
    refine kEN ?_
    refine kX ?_
    obtain rfl := oi h82
    exact kZ hFn hFH hFD

def exergueref05_all (x0 : List UInt8) : Option (St23 × Bool) :=
 (Option.bind (Option.bind (bif (decide ((x0.length : Int) > 0)) then (bif inR 0 x0.length then (some ((decide (((((x0.getD (0 : Int).toNat 0).toNat : Nat) : Int)) = 45)))) else none) else (some false)) fun (s26 : Bool) => (bif s26 then (some (1, true)) else (some (0, false)))) fun (s17 : Int × Bool) => (Option.bind (loopN (fun (s229 : Int × (List Int)) => (Option.bind (Option.bind (bif (decide (s229.1 < (x0.length : Int))) then (bif inR s229.1 x0.length then (bif (decide (((((x0.getD (s229.1 : Int).toNat 0).toNat : Nat) : Int)) ≥ 48)) then (bif inR s229.1 x0.length then (some ((decide (((((x0.getD (s229.1 : Int).toNat 0).toNat : Nat) : Int)) ≤ 57)))) else none) else (some false)) else none) else (some false)) fun (s394 : Bool) => (bif s394 then (some (.inl ())) else (some (.inr (.inr (s229.1, s229.2)))))) (joinX fun (s381 : Unit) => (bif inR s229.1 x0.length then (bif room (s229.2.length + (([(IntKind.wrap .u8 (((((x0.getD (s229.1 : Int).toNat 0).toNat : Nat) : Int)) - 48))] : List Int)).length) then (some (.inl ((IntKind.wrap .i64 (s229.1 + 1)), (s229.2 ++ (([(IntKind.wrap .u8 (((((x0.getD (s229.1 : Int).toNat 0).toNat : Nat) : Int)) - 48))] : List Int)))))) else none) else none)))) big (s17.1, ([] : List Int))) fun (s224 : Int × (List Int)) => (Option.bind (Option.bind (bif (decide (s224.1 ≥ (x0.length : Int))) then (some true) else (bif inR s224.1 x0.length then (bif (decide (¬ ((((x0.getD (s224.1 : Int).toNat 0).toNat : Nat) : Int)) = 101)) then (some true) else (some ((decide (((IntKind.wrap .i64 ((x0.length : Int) - s224.1))) > 6))))) else none)) fun (s450 : Bool) => (bif s450 then (some (.inr ((⟨false, ([] : List Int), 0⟩ : St23), false))) else (some (.inl ())))) (joinX fun (s438 : Unit) => (Option.bind (Option.bind (bif (decide ((s224.2.length : Int) = 1)) then (bif inR 0 s224.2.length then (bif inR 0 s224.2.length then (some ((decide ((nth s224.2 0) = 0)))) else none) else none) else (some false)) fun (s494 : Bool) => (bif s494 then (some ([] : List Int)) else (some s224.2))) fun (s484 : (List Int)) => (Option.bind (bif (decide ((IntKind.wrap .i64 (s224.1 + 1)) < (x0.length : Int))) then (bif inR (IntKind.wrap .i64 (s224.1 + 1)) x0.length then (some ((decide (((((x0.getD ((IntKind.wrap .i64 (s224.1 + 1)) : Int).toNat 0).toNat : Nat) : Int)) = 45)))) else none) else (some false)) fun (s511 : Bool) => (Option.bind (loopN (fun (s672 : Int × Int) => (bif (decide (s672.1 < (x0.length : Int))) then (Option.bind (Option.bind (bif inR s672.1 x0.length then (bif (decide (((((x0.getD (s672.1 : Int).toNat 0).toNat : Nat) : Int)) ≥ 48)) then (bif inR s672.1 x0.length then (some ((decide (((((x0.getD (s672.1 : Int).toNat 0).toNat : Nat) : Int)) ≤ 57)))) else none) else (some false)) else none) fun (s803 : Bool) => (bif s803 then (bif inR s672.1 x0.length then (some ((IntKind.wrap .i64 ((IntKind.wrap .i64 (s672.2 * 10)) + ((IntKind.wrap .i64 ((IntKind.wrap .u8 (((((x0.getD (s672.1 : Int).toNat 0).toNat : Nat) : Int)) - 48))))))))) else none) else (some s672.2))) fun (s793 : Int) => (some (.inl ((IntKind.wrap .i64 (s672.1 + 1)), s793)))) else (some (.inr s672.2)))) big ((IntKind.wrap .i64 (s224.1 + 1)), 0)) fun (s667 : Int) => (Option.bind (bif s511 then (some (IntKind.wrap .i64 (0 - s667))) else (some s667)) fun (s822 : Int) => (Option.bind (exergueref05_Right (⟨s17.2, s484, s822⟩ : St23)) fun y830 => (Option.bind (bif y830 then (Option.bind (exergueref05_Text (⟨s17.2, s484, s822⟩ : St23)) fun y847 => (some (y847 == x0))) else (some false)) fun (s839 : Bool) => (some ((⟨s17.2, s484, s822⟩ : St23), s839))))))))))))
theorem exergueref05_all_ok {x0 : List UInt8} {r : St23 × Bool} (h : exergueref05_all x0 = some r) : SC Tryd.prog 26 [.str x0] [] (.tup [.agg (encSt23 r.1), .bool r.2]) [] := by
 refine kFn (fn := Tryd.f26) (fun F hFn hFH hFD => ?_)
 unfold exergueref05_all at h
 refine kSR ?_
 refine kC 2 [0,2,3] ?_
 refine kEN ?_
 refine kSR ?_
 refine kC 3 [0,2,3,4] ?_
 refine kEN ?_
 refine kSR ?_
 refine kC 1 [0,2,3,4,5] ?_
 refine kEN ?_
 obtain ⟨s17, hy19, h21⟩ := bindS h
 refine K.cutN (by kernel_rfl) (fun (s17 : Int × Bool) => ([(0, .str x0), (2, .ptr 0 0), (3, .bool false), (4, .ptr 1 0), (5, .int .i64 s17.1)], [.box [.bool false, .nl, .int .i64 0], .box [.bool s17.2, .nl, .int .i64 0]])) s17 ?_ ?_
 ·obtain ⟨s26, hy28, h30⟩ := bindS hy19
  refine K.cutN (by kernel_rfl) (fun (s26 : Bool) => ([(0, .str x0), (2, .ptr 0 0), (3, .bool false), (4, .ptr 1 0), (5, .int .i64 0), (17, .bool s26)], [.box [.bool false, .nl, .int .i64 0], .box [.bool false, .nl, .int .i64 0]])) s26 ?_ ?_
  ·refine kR ?_
   refine RJ.seg 4 [0, 2, 3, 4, 5, 13] (L2 := [(0, .str x0), (2, .ptr 0 0), (3, .bool false), (4, .ptr 1 0), (5, .int .i64 0), (13, .bool ((decide ((x0.length : Int) > 0))))]) (H2 := [.box [.bool false, .nl, .int .i64 0], .box [.bool false, .nl, .int .i64 0]]) (by kernel_rfl) ?_
   refine RJ.caseB 13 (b := (decide ((x0.length : Int) > 0))) (by kernel_rfl) (fun hb31 => ?_) (fun hb31 => ?_)
   ·have h32 := condT hb31 hy28
    refine kC 1 [0,2,3,4,5,13,14] ?_
    obtain ⟨hm, h34⟩ := asrt h32
    refine RJ.rel (d := (some 15)) (ef := ⟨.int .u8 (((x0.getD (0 : Int).toNat 0).toNat : Nat) : Int), [], []⟩) (ef' := ⟨.int .u8 (((x0.getD (0 : Int).toNat 0).toNat : Nat) : Int), [], []⟩) (c := inR 0 x0.length) (tr2 := []) (H2 := [.box [.bool false, .nl, .int .i64 0], .box [.bool false, .nl, .int .i64 0]]) (by kernel_rfl) hm (fun hc => rfl) (by kernel_rfl) ?_
    refine kC 2 [0,2,3,4,5,17] ?_
    refine kE ?_
    obtain rfl := oi h34
    exact kN [0, 2, 3, 4, 5, 17]
   ·have h33 := condF hb31 hy28
    refine kC 4 [0,2,3,4,5,17] ?_
    refine kE ?_
    obtain rfl := oi h33
    exact kN [0, 2, 3, 4, 5, 17]
  ·refine J.caseB 17 (b := s26) (by kernel_rfl) (fun hb35 => ?_) (fun hb35 => ?_)
   ·have h36 := condT hb35 h30
    refine kT ?_
    refine kSR ?_
    refine kC 2 [0,2,3,4,5] ?_
    refine kEN ?_
    refine kR ?_
    refine kC 1 [0,2,3,4,5] ?_
    refine kE ?_
    obtain rfl := oi h36
    exact kN [0, 2, 3, 4, 5]
   ·have h37 := condF hb35 h30
    refine kF ?_
    refine kK ?_
    obtain rfl := oi h37
    exact kN [0, 2, 3, 4, 5]
 ·obtain ⟨s224, hy226, h228⟩ := bindS h21
  refine K.cutN (by kernel_rfl) (fun (s224 : Int × (List Int)) => ([(0, .str x0), (2, .ptr 0 0), (3, .bool false), (4, .ptr 1 0), (5, .int .i64 s224.1)], [.box [.bool false, .nl, .int .i64 0], .box [.bool s17.2, .vc 2, .int .i64 0], vecL (encI .u8) 1 5 s224.2])) s224 ?_ ?_
  ·refine K.block 0 (by kernel_rfl) ?_
   refine J.wk (Wk.vivBox 1 1 1 5 (cs := [.bool s17.2, .nl, .int .i64 0]) (by kernel_rfl) (by kernel_rfl)) ?_
   refine K.loop (by kernel_rfl) (fun (s229 : Int × (List Int)) => ([(0, .str x0), (2, .ptr 0 0), (3, .bool false), (4, .ptr 1 0), (5, .int .i64 s229.1)], [.box [.bool false, .nl, .int .i64 0], .box [.bool s17.2, .vc 2, .int .i64 0], vecL (encI .u8) 1 5 s229.2])) hy226 [0, 2, 3, 4, 5] (by kernel_rfl) (by kernel_rfl) (fun s229 x353 hs352 => ?_)
   obtain ⟨y382, hy383, h384⟩ := bindS hs352
   refine K.cutX (by kernel_rfl) (fun (s381 : Unit) => ([(0, .str x0), (2, .ptr 0 0), (3, .bool false), (4, .ptr 1 0), (5, .int .i64 s229.1)], [.box [.bool false, .nl, .int .i64 0], .box [.bool s17.2, .vc 2, .int .i64 0], vecL (encI .u8) 1 5 s229.2])) y382 ?_ (fun s381 hs => ?_)
   ·obtain ⟨s394, hy396, h398⟩ := bindS hy383
    refine K.cutN (by kernel_rfl) (fun (s394 : Bool) => ([(0, .str x0), (2, .ptr 0 0), (3, .bool false), (4, .ptr 1 0), (5, .int .i64 s229.1), (34, .bool s394)], [.box [.bool false, .nl, .int .i64 0], .box [.bool s17.2, .vc 2, .int .i64 0], vecL (encI .u8) 1 5 s229.2])) s394 ?_ ?_
    ·refine kR ?_
     refine kC 5 [0,2,3,4,5,23] ?_
     refine RJ.caseB 23 (b := (decide (s229.1 < (x0.length : Int)))) (by kernel_rfl) (fun hb399 => ?_) (fun hb399 => ?_)
     ·have h400 := condT hb399 hy396
      refine kC 2 [0,2,3,4,5,23,24,25] ?_
      obtain ⟨hm, h402⟩ := asrt h400
      refine RJ.rel (d := (some 26)) (ef := ⟨.int .u8 (((x0.getD (s229.1 : Int).toNat 0).toNat : Nat) : Int), [], []⟩) (ef' := ⟨.int .u8 (((x0.getD (s229.1 : Int).toNat 0).toNat : Nat) : Int), [], []⟩) (c := inR s229.1 x0.length) (tr2 := []) (H2 := [.box [.bool false, .nl, .int .i64 0], .box [.bool s17.2, .vc 2, .int .i64 0], vecL (encI .u8) 1 5 s229.2]) (by kernel_rfl) hm (fun hc => rfl) (by kernel_rfl) ?_
      refine kC 3 [0,2,3,4,5,29] ?_
      refine RJ.caseB 29 (b := (decide (((((x0.getD (s229.1 : Int).toNat 0).toNat : Nat) : Int)) ≥ 48))) (by kernel_rfl) (fun hb403 => ?_) (fun hb403 => ?_)
      ·have h404 := condT hb403 h402
       refine RJ.seg 2 [0, 2, 3, 4, 5, 29, 30, 31] (L2 := [(0, .str x0), (2, .ptr 0 0), (3, .bool false), (4, .ptr 1 0), (5, .int .i64 s229.1), (29, .bool true), (30, .str x0), (31, .int .i64 s229.1)]) (H2 := [.box [.bool false, .nl, .int .i64 0], .box [.bool s17.2, .vc 2, .int .i64 0], vecL (encI .u8) 1 5 s229.2]) (by kernel_rfl) ?_
       obtain ⟨hm, h406⟩ := asrt h404
       refine RJ.rel (d := (some 32)) (ef := ⟨.int .u8 (((x0.getD (s229.1 : Int).toNat 0).toNat : Nat) : Int), [], []⟩) (ef' := ⟨.int .u8 (((x0.getD (s229.1 : Int).toNat 0).toNat : Nat) : Int), [], []⟩) (c := inR s229.1 x0.length) (tr2 := []) (H2 := [.box [.bool false, .nl, .int .i64 0], .box [.bool s17.2, .vc 2, .int .i64 0], vecL (encI .u8) 1 5 s229.2]) (by kernel_rfl) hm (fun hc => rfl) (by kernel_rfl) ?_
       refine kC 2 [0,2,3,4,5,34] ?_
       refine kE ?_
       obtain rfl := oi h406
       exact kN [0, 2, 3, 4, 5, 34]
      ·have h405 := condF hb403 h402
       refine RJ.seg 5 [0, 2, 3, 4, 5, 34] (L2 := [(0, .str x0), (2, .ptr 0 0), (3, .bool false), (4, .ptr 1 0), (5, .int .i64 s229.1), (34, .bool false)]) (H2 := [.box [.bool false, .nl, .int .i64 0], .box [.bool s17.2, .vc 2, .int .i64 0], vecL (encI .u8) 1 5 s229.2]) (by kernel_rfl) ?_
       refine kE ?_
       obtain rfl := oi h405
       exact kN [0, 2, 3, 4, 5, 34]
     ·have h401 := condF hb399 hy396
      refine kC 11 [0,2,3,4,5,34] ?_
      refine kE ?_
      obtain rfl := oi h401
      exact kN [0, 2, 3, 4, 5, 34]
    ·refine J.caseB 34 (b := s394) (by kernel_rfl) (fun hb407 => ?_) (fun hb407 => ?_)
     ·have h408 := condT hb407 h398
      refine kT ?_
      refine kK ?_
      obtain rfl := oi h408
      exact PJ.cutXl [0, 2, 3, 4, 5] (by kernel_rfl) (by kernel_rfl)
     ·have h409 := condF hb407 h398
      refine kF ?_
      refine K.exit 0 (by kernel_rfl) ?_
      obtain rfl := oi h409
      have h410 := joinX_inr h384
      refine PJ.cutXr (fun e => nomatch e) ?_
      obtain rfl := oi h410
      refine PJ.loopOut (fun e => nomatch e) (fun he412 => ?_)
      have h411 := congrArg some he412
      refine PJ.blockOut ?_
      obtain rfl := oi h411
      exact kN [0, 2, 3, 4, 5]
   ·subst hs
    have h385 := joinX_inl h384
    refine K.block 1 (by kernel_rfl) ?_
    refine kS ?_
    refine J.keep [0, 2, 3, 4, 5] (L2 := [(0, .str x0), (2, .ptr 0 0), (3, .bool false), (4, .ptr 1 0), (5, .int .i64 s229.1)]) (by kernel_rfl) ?_
    refine K.draw (by kernel_rfl) (by kernel_rfl) (by kernel_rfl) (H2 := [.box [.bool false, .nl, .int .i64 0], .box [.bool s17.2, .vc 2, .int .i64 0], vecL (encI .u8) 1 5 s229.2, .res, .res]) (by kernel_rfl) (n := 3) (by kernel_rfl) ?_
    refine kD 4 ?_
    obtain ⟨hm, h413⟩ := asrt h385
    refine RJ.rel (d := (some 39)) (ef := ⟨.int .u8 (((x0.getD (s229.1 : Int).toNat 0).toNat : Nat) : Int), [], []⟩) (ef' := ⟨.int .u8 (((x0.getD (s229.1 : Int).toNat 0).toNat : Nat) : Int), [], []⟩) (c := inR s229.1 x0.length) (tr2 := [([], []), ([2, 3], []), ([], []), ([], []), ([], [])]) (H2 := [.box [.bool false, .nl, .int .i64 0], .box [.bool s17.2, .vc 2, .int .i64 0], vecL (encI .u8) 1 5 s229.2, .res, .res]) (by kernel_rfl) hm (fun hc => rfl) (by kernel_rfl) ?_
    refine kD 2 ?_
    obtain ⟨hm, h414⟩ := asrt h413
    refine RJ.rel (d := (some 42)) (ef := ⟨.vc 4, [2, 3], [(2, .gone), (4, .vec (s229.2.length + (([(IntKind.wrap .u8 (((((x0.getD (s229.1 : Int).toNat 0).toNat : Nat) : Int)) - 48))] : List Int)).length) 1 5 (s229.2.flatMap (encI .u8) ++ (([(IntKind.wrap .u8 (((((x0.getD (s229.1 : Int).toNat 0).toNat : Nat) : Int)) - 48))] : List Int)).flatMap (encI .u8)))]⟩) (ef' := ⟨.vc 4, [2, 3], [(2, .gone), (4, vecL (encI .u8) 1 5 (s229.2 ++ (([(IntKind.wrap .u8 (((((x0.getD (s229.1 : Int).toNat 0).toNat : Nat) : Int)) - 48))] : List Int))))]⟩) (c := roomB (s229.2.length + (([(IntKind.wrap .u8 (((((x0.getD (s229.1 : Int).toNat 0).toNat : Nat) : Int)) - 48))] : List Int)).length)) (tr2 := [([], []), ([2, 3], []), ([], []), ([], []), ([], []), ([], []), ([], [6, 7, 6, 7]), ([4, 5, 6, 7], [4, 5, 8, 9, 8, 9])]) (H2 := [.box [.bool false, .nl, .int .i64 0], .box [.bool s17.2, .vc 2, .int .i64 0], .gone, vecL (encI .u8) 1 5 (([(IntKind.wrap .u8 (((((x0.getD (s229.1 : Int).toNat 0).toNat : Nat) : Int)) - 48))] : List Int)), vecL (encI .u8) 1 5 ((s229.2 ++ (([(IntKind.wrap .u8 (((((x0.getD (s229.1 : Int).toNat 0).toNat : Nat) : Int)) - 48))] : List Int))))]) (by kernel_rfl) (roomB_of_room hm) (fun hc => N.app) (by kernel_rfl) ?_
    refine kD 2 ?_
    refine kEN ?_
    refine kR ?_
    refine RJ.seg 3 [0, 2, 3, 4, 5] (L2 := [(0, .str x0), (2, .ptr 0 0), (3, .bool false), (4, .ptr 1 0), (5, .int .i64 (IntKind.wrap .i64 (s229.1 + 1)))]) (H2 := [.box [.bool false, .nl, .int .i64 0], .box [.bool s17.2, .vc 4, .int .i64 0], .gone, vecL (encI .u8) 1 5 (([(IntKind.wrap .u8 (((((x0.getD (s229.1 : Int).toNat 0).toNat : Nat) : Int)) - 48))] : List Int)), vecL (encI .u8) 1 5 ((s229.2 ++ (([(IntKind.wrap .u8 (((((x0.getD (s229.1 : Int).toNat 0).toNat : Nat) : Int)) - 48))] : List Int))))]) (by kernel_rfl) ?_
    refine kE ?_
    refine PJ.blockNormal ?_
    obtain rfl := oi h414
    refine PJ.wk (Wk.sel (L2 := [(0, .str x0), (2, .ptr 0 0), (3, .bool false), (4, .ptr 1 0), (5, .int .i64 (IntKind.wrap .i64 (s229.1 + 1)))]) (H2 := [.box [.bool false, .nl, .int .i64 0], .box [.bool s17.2, .vc 2, .int .i64 0], vecL (encI .u8) 1 5 ((s229.2 ++ (([(IntKind.wrap .u8 (((((x0.getD (s229.1 : Int).toNat 0).toNat : Nat) : Int)) - 48))] : List Int))))]) 0 (by rw [hFH]; rfl) hFD [0, 1, 4] (by kernel_rfl) (by kernel_rfl) (by decide) (by kernel_rfl) (by kernel_rfl) (by kernel_rfl) (by kernel_rfl)) ?_
    exact PJ.loopNext [0, 2, 3, 4, 5] (by kernel_rfl) (by kernel_rfl)
  ·obtain ⟨y439, hy440, h441⟩ := bindS h228
   refine K.cutX (by kernel_rfl) (fun (s438 : Unit) => ([(0, .str x0), (2, .ptr 0 0), (3, .bool false), (4, .ptr 1 0), (5, .int .i64 s224.1)], [.box [.bool false, .nl, .int .i64 0], .box [.bool s17.2, .vc 2, .int .i64 0], vecL (encI .u8) 1 5 s224.2])) y439 ?_ (fun s438 hs => ?_)
   ·obtain ⟨s450, hy452, h454⟩ := bindS hy440
    refine K.cutN (by kernel_rfl) (fun (s450 : Bool) => ([(0, .str x0), (2, .ptr 0 0), (3, .bool false), (4, .ptr 1 0), (5, .int .i64 s224.1), (62, .bool s450)], [.box [.bool false, .nl, .int .i64 0], .box [.bool s17.2, .vc 2, .int .i64 0], vecL (encI .u8) 1 5 s224.2])) s450 ?_ ?_
    ·refine kR ?_
     refine kC 5 [0,2,3,4,5,50] ?_
     refine RJ.caseB 50 (b := (decide (s224.1 ≥ (x0.length : Int)))) (by kernel_rfl) (fun hb455 => ?_) (fun hb455 => ?_)
     ·have h456 := condT hb455 hy452
      refine kC 12 [0,2,3,4,5,62] ?_
      refine kE ?_
      obtain rfl := oi h456
      exact kN [0, 2, 3, 4, 5, 62]
     ·have h457 := condF hb455 hy452
      refine kC 2 [0,2,3,4,5,50,51,52] ?_
      obtain ⟨hm, h458⟩ := asrt h457
      refine RJ.rel (d := (some 53)) (ef := ⟨.int .u8 (((x0.getD (s224.1 : Int).toNat 0).toNat : Nat) : Int), [], []⟩) (ef' := ⟨.int .u8 (((x0.getD (s224.1 : Int).toNat 0).toNat : Nat) : Int), [], []⟩) (c := inR s224.1 x0.length) (tr2 := []) (H2 := [.box [.bool false, .nl, .int .i64 0], .box [.bool s17.2, .vc 2, .int .i64 0], vecL (encI .u8) 1 5 s224.2]) (by kernel_rfl) hm (fun hc => rfl) (by kernel_rfl) ?_
      refine kC 3 [0,2,3,4,5,56] ?_
      refine RJ.caseB 56 (b := (decide (¬ ((((x0.getD (s224.1 : Int).toNat 0).toNat : Nat) : Int)) = 101))) (by kernel_rfl) (fun hb459 => ?_) (fun hb459 => ?_)
      ·have h460 := condT hb459 h458
       refine RJ.seg 6 [0, 2, 3, 4, 5, 62] (L2 := [(0, .str x0), (2, .ptr 0 0), (3, .bool false), (4, .ptr 1 0), (5, .int .i64 s224.1), (62, .bool true)]) (H2 := [.box [.bool false, .nl, .int .i64 0], .box [.bool s17.2, .vc 2, .int .i64 0], vecL (encI .u8) 1 5 s224.2]) (by kernel_rfl) ?_
       refine kE ?_
       obtain rfl := oi h460
       exact kN [0, 2, 3, 4, 5, 62]
      ·have h461 := condF hb459 h458
       refine RJ.seg 6 [0, 2, 3, 4, 5, 62] (L2 := [(0, .str x0), (2, .ptr 0 0), (3, .bool false), (4, .ptr 1 0), (5, .int .i64 s224.1), (62, .bool ((decide (((IntKind.wrap .i64 ((x0.length : Int) - s224.1))) > 6))))]) (H2 := [.box [.bool false, .nl, .int .i64 0], .box [.bool s17.2, .vc 2, .int .i64 0], vecL (encI .u8) 1 5 s224.2]) (by kernel_rfl) ?_
       refine kE ?_
       obtain rfl := oi h461
       exact kN [0, 2, 3, 4, 5, 62]
    ·refine J.caseB 62 (b := s450) (by kernel_rfl) (fun hb462 => ?_) (fun hb462 => ?_)
     ·have h463 := condT hb462 h454
      refine kT ?_
      refine kSR ?_
      refine kC 3 [0,2,3,4,5] ?_
      refine kEN ?_
      refine kX ?_
      obtain rfl := oi h463
      have h465 := joinX_inr h441
      refine PJ.cutXr (fun e => nomatch e) ?_
      obtain rfl := oi h465
      refine PJ.res (v1 := .tup [.agg [.bool false, .nl, .int .i64 0], .bool false]) (Le.tup (.cons (Le.agg (.cons (Le.refl _) (.cons (Le.nl _) (.cons (Le.refl _) .nil)))) (.cons (Le.refl _) .nil))) ?_
      exact kZ hFn hFH hFD
     ·have h464 := condF hb462 h454
      refine kF ?_
      refine kK ?_
      obtain rfl := oi h464
      exact PJ.cutXl [0, 2, 3, 4, 5] (by kernel_rfl) (by kernel_rfl)
   ·subst hs
    have h442 := joinX_inl h441
    obtain ⟨s484, hy486, h488⟩ := bindS h442
    refine K.cutN (by kernel_rfl) (fun (s484 : (List Int)) => ([(0, .str x0), (2, .ptr 0 0), (3, .bool false), (4, .ptr 1 0), (5, .int .i64 s224.1)], [.box [.bool false, .nl, .int .i64 0], .box [.bool s17.2, .vc 2, .int .i64 0], vecL (encI .u8) 1 5 s484])) s484 ?_ ?_
    ·obtain ⟨s494, hy496, h498⟩ := bindS hy486
     refine K.cutN (by kernel_rfl) (fun (s494 : Bool) => ([(0, .str x0), (2, .ptr 0 0), (3, .bool false), (4, .ptr 1 0), (5, .int .i64 s224.1), (74, .bool s494)], [.box [.bool false, .nl, .int .i64 0], .box [.bool s17.2, .vc 2, .int .i64 0], vecL (encI .u8) 1 5 s224.2])) s494 ?_ ?_
     ·refine kR ?_
      refine kC 5 [0,2,3,4,5,68] ?_
      refine RJ.caseB 68 (b := (decide ((s224.2.length : Int) = 1))) (by kernel_rfl) (fun hb499 => ?_) (fun hb499 => ?_)
      ·have h500 := condT hb499 hy496
       refine kC 2 [0,2,3,4,5,68,70] ?_
       obtain ⟨hm, h502⟩ := asrt h500
       refine RJ.rel (d := (some 71)) (ef := ⟨.ptr 2 ((0 : Int).toNat * 1), [2], []⟩) (ef' := ⟨.ptr 2 ((0 : Int).toNat * 1), [2], []⟩) (c := inR 0 s224.2.length) (tr2 := []) (H2 := [.box [.bool false, .nl, .int .i64 0], .box [.bool s17.2, .vc 2, .int .i64 0], vecL (encI .u8) 1 5 s224.2]) (by kernel_rfl) hm (fun hc => rfl) (by kernel_rfl) ?_
       obtain ⟨hm, h503⟩ := asrt h502
       refine RJ.rel (d := (some 72)) (ef := ⟨(((s224.2).flatMap (encI .u8)).drop ((0 : Int).toNat * 1)).headD .undef, [2], []⟩) (ef' := ⟨.int .u8 (nth s224.2 0), [2], []⟩) (c := Nat.blt ((0 : Int).toNat * 1) (s224.2.flatMap (encI .u8)).length) (tr2 := []) (H2 := [.box [.bool false, .nl, .int .i64 0], .box [.bool s17.2, .vc 2, .int .i64 0], vecL (encI .u8) 1 5 s224.2]) (by kernel_rfl) (loadv_ok (encI_len .u8) rfl hm) (fun hc => N.load1 (encI_len .u8) (fun _ => rfl) hm) (by kernel_rfl) ?_
       refine kC 2 [0,2,3,4,5,74] ?_
       refine kE ?_
       obtain rfl := oi h503
       exact kN [0, 2, 3, 4, 5, 74]
      ·have h501 := condF hb499 hy496
       refine kC 6 [0,2,3,4,5,74] ?_
       refine kE ?_
       obtain rfl := oi h501
       exact kN [0, 2, 3, 4, 5, 74]
     ·refine J.caseB 74 (b := s494) (by kernel_rfl) (fun hb504 => ?_) (fun hb504 => ?_)
      ·have h505 := condT hb504 h498
       refine kT ?_
       refine kR ?_
       refine kC 2 [0,2,3,4,5] ?_
       refine kE ?_
       obtain rfl := oi h505
       refine PJ.wk (Wk.vivBox 1 1 1 5 (cs := [.bool s17.2, .nl, .int .i64 0]) (by kernel_rfl) (by kernel_rfl)) ?_
       refine PJ.wk (Wk.sel (L2 := [(0, .str x0), (2, .ptr 0 0), (3, .bool false), (4, .ptr 1 0), (5, .int .i64 s224.1)]) (H2 := [.box [.bool false, .nl, .int .i64 0], .box [.bool s17.2, .vc 2, .int .i64 0], vecL (encI .u8) 1 5 ([] : List Int)]) 0 (by rw [hFH]; rfl) hFD [0, 1, 3] (by kernel_rfl) (by kernel_rfl) (by decide) (by kernel_rfl) (by kernel_rfl) (by kernel_rfl) (by kernel_rfl)) ?_
       exact kN [0, 2, 3, 4, 5]
      ·have h506 := condF hb504 h498
       refine kF ?_
       refine kK ?_
       obtain rfl := oi h506
       exact kN [0, 2, 3, 4, 5]
    ·obtain ⟨s511, hy513, h515⟩ := bindS h488
     refine K.cutN (by kernel_rfl) (fun (s511 : Bool) => ([(0, .str x0), (2, .ptr 0 0), (3, .bool false), (4, .ptr 1 0), (5, .int .i64 s224.1), (6, .bool s511)], [.box [.bool false, .nl, .int .i64 0], .box [.bool s17.2, .vc 2, .int .i64 0], vecL (encI .u8) 1 5 s484])) s511 ?_ ?_
     ·refine kR ?_
      refine kC 6 [0,2,3,4,5,81] ?_
      refine RJ.caseB 81 (b := (decide ((IntKind.wrap .i64 (s224.1 + 1)) < (x0.length : Int)))) (by kernel_rfl) (fun hb516 => ?_) (fun hb516 => ?_)
      ·have h517 := condT hb516 hy513
       refine kC 3 [0,2,3,4,5,81,82,84] ?_
       obtain ⟨hm, h519⟩ := asrt h517
       refine RJ.rel (d := (some 85)) (ef := ⟨.int .u8 (((x0.getD ((IntKind.wrap .i64 (s224.1 + 1)) : Int).toNat 0).toNat : Nat) : Int), [], []⟩) (ef' := ⟨.int .u8 (((x0.getD ((IntKind.wrap .i64 (s224.1 + 1)) : Int).toNat 0).toNat : Nat) : Int), [], []⟩) (c := inR (IntKind.wrap .i64 (s224.1 + 1)) x0.length) (tr2 := []) (H2 := [.box [.bool false, .nl, .int .i64 0], .box [.bool s17.2, .vc 2, .int .i64 0], vecL (encI .u8) 1 5 s484]) (by kernel_rfl) hm (fun hc => rfl) (by kernel_rfl) ?_
       refine kC 3 [0,2,3,4,5,6] ?_
       refine kE ?_
       obtain rfl := oi h519
       exact kN [0, 2, 3, 4, 5, 6]
      ·have h518 := condF hb516 hy513
       refine kC 7 [0,2,3,4,5,6] ?_
       refine kE ?_
       obtain rfl := oi h518
       exact kN [0, 2, 3, 4, 5, 6]
     ·obtain ⟨s667, hy669, h671⟩ := bindS h515
      refine K.cutN (by kernel_rfl) (fun (s667 : Int) => ([(0, .str x0), (2, .ptr 0 0), (3, .bool false), (4, .ptr 1 0), (6, .bool s511)], [.box [.bool false, .nl, .int .i64 0], .box [.bool s17.2, .vc 2, .int .i64 s667], vecL (encI .u8) 1 5 s484])) s667 ?_ ?_
      ·refine kSR ?_
       refine kC 3 [0,2,3,4,6,7] ?_
       refine kEN ?_
       refine K.block 2 (by kernel_rfl) ?_
       refine K.loop (by kernel_rfl) (fun (s672 : Int × Int) => ([(0, .str x0), (2, .ptr 0 0), (3, .bool false), (4, .ptr 1 0), (6, .bool s511), (7, .int .i64 s672.1)], [.box [.bool false, .nl, .int .i64 0], .box [.bool s17.2, .vc 2, .int .i64 s672.2], vecL (encI .u8) 1 5 s484])) hy669 [0, 2, 3, 4, 6, 7] (by kernel_rfl) (by kernel_rfl) (fun s672 x770 hs769 => ?_)
       refine kS ?_
       refine kSR ?_
       refine kC 4 [0,2,3,4,6,7,93] ?_
       refine kEN ?_
       refine J.caseB 93 (b := (decide (s672.1 < (x0.length : Int)))) (by kernel_rfl) (fun hb771 => ?_) (fun hb771 => ?_)
       ·have h772 := condT hb771 hs769
        refine kT ?_
        refine kK ?_
        refine PJ.next ?_
        obtain ⟨s793, hy795, h797⟩ := bindS h772
        refine K.cutN (by kernel_rfl) (fun (s793 : Int) => ([(0, .str x0), (2, .ptr 0 0), (3, .bool false), (4, .ptr 1 0), (6, .bool s511), (7, .int .i64 s672.1)], [.box [.bool false, .nl, .int .i64 0], .box [.bool s17.2, .vc 2, .int .i64 s793], vecL (encI .u8) 1 5 s484])) s793 ?_ ?_
        ·refine K.block 3 (by kernel_rfl) ?_
         obtain ⟨s803, hy805, h807⟩ := bindS hy795
         refine K.cutN (by kernel_rfl) (fun (s803 : Bool) => ([(0, .str x0), (2, .ptr 0 0), (3, .bool false), (4, .ptr 1 0), (6, .bool s511), (7, .int .i64 s672.1), (105, .bool s803)], [.box [.bool false, .nl, .int .i64 0], .box [.bool s17.2, .vc 2, .int .i64 s672.2], vecL (encI .u8) 1 5 s484])) s803 ?_ ?_
         ·refine kR ?_
          refine kC 2 [0,2,3,4,6,7,96,97] ?_
          obtain ⟨hm, h808⟩ := asrt hy805
          refine RJ.rel (d := (some 98)) (ef := ⟨.int .u8 (((x0.getD (s672.1 : Int).toNat 0).toNat : Nat) : Int), [], []⟩) (ef' := ⟨.int .u8 (((x0.getD (s672.1 : Int).toNat 0).toNat : Nat) : Int), [], []⟩) (c := inR s672.1 x0.length) (tr2 := []) (H2 := [.box [.bool false, .nl, .int .i64 0], .box [.bool s17.2, .vc 2, .int .i64 s672.2], vecL (encI .u8) 1 5 s484]) (by kernel_rfl) hm (fun hc => rfl) (by kernel_rfl) ?_
          refine kC 2 [0,2,3,4,6,7,100] ?_
          refine RJ.caseB 100 (b := (decide (((((x0.getD (s672.1 : Int).toNat 0).toNat : Nat) : Int)) ≥ 48))) (by kernel_rfl) (fun hb809 => ?_) (fun hb809 => ?_)
          ·have h810 := condT hb809 h808
           refine RJ.seg 2 [0, 2, 3, 4, 6, 7, 100, 101, 102] (L2 := [(0, .str x0), (2, .ptr 0 0), (3, .bool false), (4, .ptr 1 0), (6, .bool s511), (7, .int .i64 s672.1), (100, .bool true), (101, .str x0), (102, .int .i64 s672.1)]) (H2 := [.box [.bool false, .nl, .int .i64 0], .box [.bool s17.2, .vc 2, .int .i64 s672.2], vecL (encI .u8) 1 5 s484]) (by kernel_rfl) ?_
           obtain ⟨hm, h812⟩ := asrt h810
           refine RJ.rel (d := (some 103)) (ef := ⟨.int .u8 (((x0.getD (s672.1 : Int).toNat 0).toNat : Nat) : Int), [], []⟩) (ef' := ⟨.int .u8 (((x0.getD (s672.1 : Int).toNat 0).toNat : Nat) : Int), [], []⟩) (c := inR s672.1 x0.length) (tr2 := []) (H2 := [.box [.bool false, .nl, .int .i64 0], .box [.bool s17.2, .vc 2, .int .i64 s672.2], vecL (encI .u8) 1 5 s484]) (by kernel_rfl) hm (fun hc => rfl) (by kernel_rfl) ?_
           refine kC 2 [0,2,3,4,6,7,105] ?_
           refine kE ?_
           obtain rfl := oi h812
           exact kN [0, 2, 3, 4, 6, 7, 105]
          ·have h811 := condF hb809 h808
           refine RJ.seg 5 [0, 2, 3, 4, 6, 7, 105] (L2 := [(0, .str x0), (2, .ptr 0 0), (3, .bool false), (4, .ptr 1 0), (6, .bool s511), (7, .int .i64 s672.1), (105, .bool false)]) (H2 := [.box [.bool false, .nl, .int .i64 0], .box [.bool s17.2, .vc 2, .int .i64 s672.2], vecL (encI .u8) 1 5 s484]) (by kernel_rfl) ?_
           refine kE ?_
           obtain rfl := oi h811
           exact kN [0, 2, 3, 4, 6, 7, 105]
         ·refine J.caseB 105 (b := s803) (by kernel_rfl) (fun hb813 => ?_) (fun hb813 => ?_)
          ·have h814 := condT hb813 h807
           refine kT ?_
           refine J.keep [0, 2, 3, 4, 6, 7] (L2 := [(0, .str x0), (2, .ptr 0 0), (3, .bool false), (4, .ptr 1 0), (6, .bool s511), (7, .int .i64 s672.1)]) (by kernel_rfl) ?_
           refine K.draw (by kernel_rfl) (by kernel_rfl) (by kernel_rfl) (H2 := [.box [.bool false, .nl, .int .i64 0], .box [.bool s17.2, .vc 2, .int .i64 s672.2], vecL (encI .u8) 1 5 s484]) (by kernel_rfl) (n := 3) (by kernel_rfl) ?_
           refine kD 5 ?_
           obtain ⟨hm, h816⟩ := asrt h814
           refine RJ.rel (d := (some 111)) (ef := ⟨.int .u8 (((x0.getD (s672.1 : Int).toNat 0).toNat : Nat) : Int), [], []⟩) (ef' := ⟨.int .u8 (((x0.getD (s672.1 : Int).toNat 0).toNat : Nat) : Int), [], []⟩) (c := inR s672.1 x0.length) (tr2 := [([], []), ([2, 3], []), ([], []), ([], []), ([], []), ([], [])]) (H2 := [.box [.bool false, .nl, .int .i64 0], .box [.bool s17.2, .vc 2, .int .i64 s672.2], vecL (encI .u8) 1 5 s484]) (by kernel_rfl) hm (fun hc => rfl) (by kernel_rfl) ?_
           refine kD 5 ?_
           refine kE ?_
           refine PJ.blockNormal ?_
           obtain rfl := oi h816
           exact kN [0, 2, 3, 4, 6, 7]
          ·have h815 := condF hb813 h807
           refine kF ?_
           refine kK ?_
           refine PJ.blockNormal ?_
           obtain rfl := oi h815
           exact kN [0, 2, 3, 4, 6, 7]
        ·refine kR ?_
         refine kC 3 [0,2,3,4,6,7] ?_
         refine kE ?_
         obtain rfl := oi h797
         exact PJ.loopNext [0, 2, 3, 4, 6, 7] (by kernel_rfl) (by kernel_rfl)
       ·have h773 := condF hb771 hs769
        refine kF ?_
        refine K.exit 2 (by kernel_rfl) ?_
        refine PJ.passExit ?_
        obtain rfl := oi h773
        refine PJ.loopOut (fun e => nomatch e) (fun he818 => ?_)
        have h817 := congrArg some he818
        refine PJ.blockOut ?_
        obtain rfl := oi h817
        exact kN [0, 2, 3, 4, 6]
      ·obtain ⟨s822, hy824, h826⟩ := bindS h671
       refine K.cutN (by kernel_rfl) (fun (s822 : Int) => ([(0, .str x0), (2, .ptr 0 0), (3, .bool false), (4, .ptr 1 0)], [.box [.bool false, .nl, .int .i64 0], .box [.bool s17.2, .vc 2, .int .i64 s822], vecL (encI .u8) 1 5 s484])) s822 ?_ ?_
       ·refine kSR ?_
        refine kC 1 [0,2,3,4,116] ?_
        refine kEN ?_
        refine J.caseB 116 (b := s511) (by kernel_rfl) (fun hb827 => ?_) (fun hb827 => ?_)
        ·have h828 := condT hb827 hy824
         refine kT ?_
         refine kR ?_
         refine kC 5 [0,2,3,4] ?_
         refine kE ?_
         obtain rfl := oi h828
         exact kN [0, 2, 3, 4]
        ·have h829 := condF hb827 hy824
         refine kF ?_
         refine kK ?_
         obtain rfl := oi h829
         exact kN [0, 2, 3, 4]
       ·refine kSR ?_
        refine kC 1 [0,2,3,4,121] ?_
        obtain ⟨y830, hy831, h832⟩ := bindS h826
        refine RJ.callL (d := (some 122)) (f := 14) (args := [.agg [.bool s17.2, .vc 2, .int .i64 s822]]) (args0 := [.agg [.bool s17.2, .vc 0, .int .i64 s822]]) (args1 := [.agg [.bool s17.2, lsv (encI .u8) 1 s484, .int .i64 s822]]) (H0 := [vecL (encI .u8) 1 5 s484]) (v := .bool y830) (tr2 := []) [2] (by kernel_rfl) (by kernel_rfl) (by kernel_rfl) (by kernel_rfl) (by decide) (by kernel_rfl) (by kernel_rfl) (by kernel_rfl) (by kernel_rfl) (.cons (Le.refl _) .nil) (exergueref05_Right_ok hy831) (by kernel_rfl) (by kernel_rfl) ?_
        refine kC 1 [0,2,3,4,8] ?_
        refine kEN ?_
        obtain ⟨s839, hy841, h843⟩ := bindS h832
        refine K.cutN (by kernel_rfl) (fun (s839 : Bool) => ([(2, .ptr 0 0), (3, .bool s839)], [.box [.bool s17.2, .vc 1, .int .i64 s822], vecL (encI .u8) 1 5 s484])) s839 ?_ ?_
        ·refine J.keep [0, 2, 3, 4, 8] (L2 := [(0, .str x0), (2, .ptr 0 0), (3, .bool false), (4, .ptr 1 0), (8, .bool y830)]) (by kernel_rfl) ?_
         refine K.draw (by kernel_rfl) (by kernel_rfl) (by kernel_rfl) (H2 := [.box [.bool false, .nl, .int .i64 0], .box [.bool s17.2, .vc 2, .int .i64 s822], vecL (encI .u8) 1 5 s484, .res]) (by kernel_rfl) (n := 3) (by kernel_rfl) ?_
         refine kD 3 ?_
         refine RJ.caseB 125 (b := y830) (by kernel_rfl) (fun hb844 => ?_) (fun hb844 => ?_)
         ·have h845 := condT hb844 hy841
          refine RJ.segD 1 (tr2 := [([2, 3], []), ([], []), ([], []), ([2, 3], [])]) (L2 := [(126, .agg [.bool s17.2, .vc 2, .int .i64 s822]), (125, .bool true), (125, .bool y830), (124, .bool y830), (123, .agg [.bool s17.2, .vc 2, .int .i64 s822]), (0, .str x0), (2, .ptr 0 0), (3, .bool false), (4, .ptr 1 0), (8, .bool y830)]) (H2 := [.box [.bool false, .nl, .int .i64 0], .box [.bool s17.2, .vc 2, .int .i64 s822], vecL (encI .u8) 1 5 s484, .res]) (by kernel_rfl) ?_
          obtain ⟨y847, hy848, h849⟩ := bindS h845
          refine RJ.callL (d := (some 127)) (f := 16) (args := [.agg [.bool s17.2, .vc 2, .int .i64 s822]]) (args0 := [.agg [.bool s17.2, .vc 0, .int .i64 s822]]) (args1 := [.agg [.bool s17.2, lsv (encI .u8) 1 s484, .int .i64 s822]]) (H0 := [vecL (encI .u8) 1 5 s484]) (v := .str y847) (tr2 := [([2, 3], []), ([], []), ([], []), ([2, 3], []), ([4, 5], [6, 7])]) [2] (by kernel_rfl) (by kernel_rfl) (by kernel_rfl) (by kernel_rfl) (by decide) (by kernel_rfl) (by kernel_rfl) (by kernel_rfl) (by kernel_rfl) (.cons (Le.refl _) .nil) (exergueref05_Text_ok hy848) (by kernel_rfl) (by kernel_rfl) ?_
          refine kD 5 ?_
          refine kE ?_
          obtain rfl := oi h849
          refine PJ.wk (Wk.sel (L2 := [(2, .ptr 0 0), (3, .bool (y847 == x0))]) (H2 := [.box [.bool s17.2, .vc 1, .int .i64 s822], vecL (encI .u8) 1 5 s484]) 0 (by rw [hFH]; rfl) hFD [0, 2] (by kernel_rfl) (by kernel_rfl) (by decide) (by kernel_rfl) (by kernel_rfl) (by kernel_rfl) (by kernel_rfl)) ?_
          exact kN [2, 3]
         ·have h846 := condF hb844 hy841
          refine RJ.segD 7 (tr2 := [([2, 3], []), ([], []), ([], []), ([], []), ([], [6, 7]), ([], []), ([], []), ([], []), ([0, 1], [0]), ([], [])]) (L2 := [(3, .bool false), (130, .bool false), (129, .tup []), (128, .tup []), (127, .tup []), (126, .tup []), (125, .bool false), (125, .bool y830), (124, .bool y830), (123, .agg [.bool s17.2, .vc 2, .int .i64 s822]), (0, .str x0), (2, .ptr 0 0), (3, .bool false), (4, .ptr 1 0), (8, .bool y830)]) (H2 := [.box [.bool s17.2, .vc 2, .int .i64 s822], .box [.bool s17.2, .vc 2, .int .i64 s822], vecL (encI .u8) 1 5 s484, .res]) (by kernel_rfl) ?_
          refine kE ?_
          obtain rfl := oi h846
          refine PJ.wk (Wk.sel (L2 := [(2, .ptr 0 0), (3, .bool false)]) (H2 := [.box [.bool s17.2, .vc 1, .int .i64 s822], vecL (encI .u8) 1 5 s484]) 0 (by rw [hFH]; rfl) hFD [0, 2] (by kernel_rfl) (by kernel_rfl) (by decide) (by kernel_rfl) (by kernel_rfl) (by kernel_rfl) (by kernel_rfl)) ?_
          exact kN [2, 3]
        ·refine kX ?_
         obtain rfl := oi h843
         refine PJ.wk (Wk.freeze 1 (n := s484.length) (k := 1) (e := 5) (cs := s484.flatMap (encI .u8)) (by kernel_rfl)) ?_
         exact kZ hFn hFH hFD

def exergueref05_begins (x0 : List UInt8) : Option (Bool) :=
 (Option.bind (loopN (fun (s60 : Int) => (bif (decide (s60 < ((([([] : List UInt8), ([49, 101, 48] : List UInt8), ([101, 48] : List UInt8), ([48] : List UInt8), ([49] : List UInt8)] : List (List UInt8)).length : Int)))) then (bif inR s60 ([([] : List UInt8), ([49, 101, 48] : List UInt8), ([101, 48] : List UInt8), ([48] : List UInt8), ([49] : List UInt8)] : List (List UInt8)).length then (bif inR s60 ([([] : List UInt8), ([49, 101, 48] : List UInt8), ([101, 48] : List UInt8), ([48] : List UInt8), ([49] : List UInt8)] : List (List UInt8)).length then (bif room (x0.length + ((nth ([([] : List UInt8), ([49, 101, 48] : List UInt8), ([101, 48] : List UInt8), ([48] : List UInt8), ([49] : List UInt8)] : List (List UInt8)) s60)).length) then (Option.bind (exergueref05_all ((x0 ++ ((nth ([([] : List UInt8), ([49, 101, 48] : List UInt8), ([101, 48] : List UInt8), ([48] : List UInt8), ([49] : List UInt8)] : List (List UInt8)) s60))))) fun y103 => (bif y103.2 then (some (.inr (.inr true))) else (some (.inl (IntKind.wrap .i64 (s60 + 1)))))) else none) else none) else none) else (some (.inr (.inl ()))))) big 0) (joinX fun (s55 : Unit) => (some false)))
theorem exergueref05_begins_ok {x0 : List UInt8} {r : Bool} (h : exergueref05_begins x0 = some r) : SC Tryd.prog 27 [.str x0] [] (.bool r) [] := by
 refine kFn (fn := Tryd.f27) (fun F hFn hFH hFD => ?_)
 unfold exergueref05_begins at h
 refine kSR ?_
 refine kC 1 [0,2] ?_
 refine kEN ?_
 refine kSR ?_
 refine kC 2 [0,2,3] ?_
 refine kEN ?_
 obtain ⟨y56, hy57, h58⟩ := bindS h
 refine K.cutX (by kernel_rfl) (fun (s55 : Unit) => ([(2, .bool false)], [])) y56 ?_ (fun s55 hs => ?_)
 ·refine kSR ?_
  refine kC 1 [0,2,3,4] ?_
  refine kEN ?_
  refine K.block 0 (by kernel_rfl) ?_
  refine K.loop (by kernel_rfl) (fun (s60 : Int) => ([(0, .str x0), (2, .bool false), (3, .vc 0), (4, .int .i64 s60)], [vecL encT 1 9 ([([] : List UInt8), ([49, 101, 48] : List UInt8), ([101, 48] : List UInt8), ([48] : List UInt8), ([49] : List UInt8)] : List (List UInt8))])) hy57 [0, 2, 3, 4] (by kernel_rfl) (by kernel_rfl) (fun s60 x96 hs95 => ?_)
  refine kS ?_
  refine kSR ?_
  refine kC 4 [0,2,3,4,11] ?_
  refine kEN ?_
  refine J.caseB 11 (b := (decide (s60 < ((([([] : List UInt8), ([49, 101, 48] : List UInt8), ([101, 48] : List UInt8), ([48] : List UInt8), ([49] : List UInt8)] : List (List UInt8)).length : Int))))) (by kernel_rfl) (fun hb97 => ?_) (fun hb97 => ?_)
  ·have h98 := condT hb97 hs95
   refine kT ?_
   refine kK ?_
   refine PJ.next ?_
   refine kS ?_
   refine K.block 1 (by kernel_rfl) ?_
   refine kSR ?_
   refine kC 3 [0,2,3,4,15,16,17] ?_
   obtain ⟨hm, h100⟩ := asrt h98
   refine RJ.rel (d := (some 18)) (ef := ⟨.ptr 0 ((s60 : Int).toNat * 1), [0], []⟩) (ef' := ⟨.ptr 0 ((s60 : Int).toNat * 1), [0], []⟩) (c := inR s60 ([([] : List UInt8), ([49, 101, 48] : List UInt8), ([101, 48] : List UInt8), ([48] : List UInt8), ([49] : List UInt8)] : List (List UInt8)).length) (tr2 := []) (H2 := [vecL encT 1 9 ([([] : List UInt8), ([49, 101, 48] : List UInt8), ([101, 48] : List UInt8), ([48] : List UInt8), ([49] : List UInt8)] : List (List UInt8))]) (by kernel_rfl) hm (fun hc => rfl) (by kernel_rfl) ?_
   obtain ⟨hm, h101⟩ := asrt h100
   refine RJ.rel (d := (some 19)) (ef := ⟨(((([([] : List UInt8), ([49, 101, 48] : List UInt8), ([101, 48] : List UInt8), ([48] : List UInt8), ([49] : List UInt8)] : List (List UInt8))).flatMap encT).drop ((s60 : Int).toNat * 1)).headD .undef, [0], []⟩) (ef' := ⟨.str ((nth ([([] : List UInt8), ([49, 101, 48] : List UInt8), ([101, 48] : List UInt8), ([48] : List UInt8), ([49] : List UInt8)] : List (List UInt8)) s60)), [0], []⟩) (c := Nat.blt ((s60 : Int).toNat * 1) (([([] : List UInt8), ([49, 101, 48] : List UInt8), ([101, 48] : List UInt8), ([48] : List UInt8), ([49] : List UInt8)] : List (List UInt8)).flatMap encT).length) (tr2 := []) (H2 := [vecL encT 1 9 ([([] : List UInt8), ([49, 101, 48] : List UInt8), ([101, 48] : List UInt8), ([48] : List UInt8), ([49] : List UInt8)] : List (List UInt8))]) (by kernel_rfl) (loadv_ok encT_len rfl hm) (fun hc => N.load1 encT_len (fun _ => rfl) hm) (by kernel_rfl) ?_
   obtain ⟨hm, h102⟩ := asrt h101
   refine RJ.rel (d := (some 20)) (ef := ⟨.str (x0 ++ ((nth ([([] : List UInt8), ([49, 101, 48] : List UInt8), ([101, 48] : List UInt8), ([48] : List UInt8), ([49] : List UInt8)] : List (List UInt8)) s60))), [], []⟩) (ef' := ⟨.str (x0 ++ ((nth ([([] : List UInt8), ([49, 101, 48] : List UInt8), ([101, 48] : List UInt8), ([48] : List UInt8), ([49] : List UInt8)] : List (List UInt8)) s60))), [], []⟩) (c := room (x0.length + ((nth ([([] : List UInt8), ([49, 101, 48] : List UInt8), ([101, 48] : List UInt8), ([48] : List UInt8), ([49] : List UInt8)] : List (List UInt8)) s60)).length)) (tr2 := []) (H2 := [vecL encT 1 9 ([([] : List UInt8), ([49, 101, 48] : List UInt8), ([101, 48] : List UInt8), ([48] : List UInt8), ([49] : List UInt8)] : List (List UInt8))]) (by kernel_rfl) hm (fun hc => rfl) (by kernel_rfl) ?_
   obtain ⟨y103, hy104, h105⟩ := bindS h102
   refine RJ.call0 (d := (some 21)) (f := 26) (args := [.str ((x0 ++ ((nth ([([] : List UInt8), ([49, 101, 48] : List UInt8), ([101, 48] : List UInt8), ([48] : List UInt8), ([49] : List UInt8)] : List (List UInt8)) s60))))]) (v := .tup [.agg (encSt23 y103.1), .bool y103.2]) (tr2 := []) (by kernel_rfl) (by kernel_rfl) (.cons (Le.refl _) .nil) (exergueref05_all_ok hy104) (by kernel_rfl) ?_
   refine kC 6 [0,2,3,4,6] ?_
   refine kEN ?_
   refine kSR ?_
   refine RJ.seg 1 [0, 2, 3, 4, 24] (L2 := [(0, .str x0), (2, .bool false), (3, .vc 0), (4, .int .i64 s60), (24, .bool y103.2)]) (H2 := [vecL encT 1 9 ([([] : List UInt8), ([49, 101, 48] : List UInt8), ([101, 48] : List UInt8), ([48] : List UInt8), ([49] : List UInt8)] : List (List UInt8)), .box (encSt23 y103.1)]) (by kernel_rfl) ?_
   refine kEN ?_
   refine J.caseB 24 (b := y103.2) (by kernel_rfl) (fun hb106 => ?_) (fun hb106 => ?_)
   ·have h107 := condT hb106 h105
    refine kT ?_
    refine kSR ?_
    refine kC 1 [0,2,3,4] ?_
    refine kEN ?_
    refine kX ?_
    refine PJ.blockRet ?_
    refine PJ.passRet ?_
    obtain rfl := oi h107
    refine PJ.loopOut (fun e => nomatch e) (fun he111 => ?_)
    have h109 := congrArg some he111
    refine PJ.blockRet ?_
    obtain rfl := oi h109
    have h110 := joinX_inr h58
    refine PJ.cutXr (fun e => nomatch e) ?_
    obtain rfl := oi h110
    exact kZ hFn hFH hFD
   ·have h108 := condF hb106 h105
    refine kF ?_
    refine kK ?_
    refine PJ.blockNormal ?_
    refine PJ.next ?_
    refine kR ?_
    refine kC 3 [0,2,3,4] ?_
    refine kE ?_
    obtain rfl := oi h108
    refine PJ.wk (Wk.sel (L2 := [(0, .str x0), (2, .bool false), (3, .vc 0), (4, .int .i64 (IntKind.wrap .i64 (s60 + 1)))]) (H2 := [vecL encT 1 9 ([([] : List UInt8), ([49, 101, 48] : List UInt8), ([101, 48] : List UInt8), ([48] : List UInt8), ([49] : List UInt8)] : List (List UInt8))]) 0 (by rw [hFH]; rfl) hFD [0] (by kernel_rfl) (by kernel_rfl) (by decide) (by kernel_rfl) (by kernel_rfl) (by kernel_rfl) (by kernel_rfl)) ?_
    exact PJ.loopNext [0, 2, 3, 4] (by kernel_rfl) (by kernel_rfl)
  ·have h99 := condF hb97 hs95
   refine kF ?_
   refine K.exit 0 (by kernel_rfl) ?_
   refine PJ.passExit ?_
   obtain rfl := oi h99
   refine PJ.loopOut (fun e => nomatch e) (fun he113 => ?_)
   have h112 := congrArg some he113
   refine PJ.blockOut ?_
   obtain rfl := oi h112
   refine PJ.wk (Wk.sel (L2 := [(2, .bool false)]) (H2 := []) 0 (by rw [hFH]; rfl) hFD [] (by kernel_rfl) (by kernel_rfl) (by decide) (by kernel_rfl) (by kernel_rfl) (by kernel_rfl) (by kernel_rfl)) ?_
   exact PJ.cutXl [2] (by kernel_rfl) (by kernel_rfl)
 ·subst hs
  have h59 := joinX_inl h58
  refine kSR ?_
  refine kC 1 [2] ?_
  refine kEN ?_
  refine kX ?_
  obtain rfl := oi h59
  exact kZ hFn hFH hFD

def exergueref05_Read (x0 : List UInt8) : Option (St23 × Int × Int) :=
 (Option.bind (exergueref05_all x0) fun y1 => (bif y1.2 then (some (y1.1, 0, 0)) else (Option.bind (loopN (fun (s180 : Int) => (Option.bind (Option.bind (bif (decide (s180 < (x0.length : Int))) then (bif inS 0 (IntKind.wrap .i64 (s180 + 1)) x0.length then (Option.bind (exergueref05_begins ((cut x0 0 (IntKind.wrap .i64 (s180 + 1))))) fun y339 => (some y339)) else none) else (some false)) fun (s330 : Bool) => (bif s330 then (some (.inl ())) else (some (.inr (.inr s180))))) (joinX fun (s318 : Unit) => (some (.inl (IntKind.wrap .i64 (s180 + 1))))))) big 0) fun (s175 : Int) => (some ((⟨false, ([] : List Int), 0⟩ : St23), s175, 2)))))
theorem exergueref05_Read_ok {x0 : List UInt8} {r : St23 × Int × Int} (h : exergueref05_Read x0 = some r) : SC Tryd.prog 12 [.str x0] [] (.tup [.agg (encSt23 r.1), .int .i64 r.2.1, .int .i64 r.2.2]) [] := by
 refine kFn (fn := Tryd.f12) (fun F hFn hFH hFD => ?_)
 unfold exergueref05_Read at h
 refine kSR ?_
 refine kC 3 [0,2,3,4] ?_
 refine kEN ?_
 refine kSR ?_
 refine kC 1 [0,2,3,4,9] ?_
 obtain ⟨y1, hy2, h3⟩ := bindS h
 refine RJ.call0 (d := (some 10)) (f := 26) (args := [.str x0]) (v := .tup [.agg (encSt23 y1.1), .bool y1.2]) (tr2 := []) (by kernel_rfl) (by kernel_rfl) (.cons (Le.refl _) .nil) (exergueref05_all_ok hy2) (by kernel_rfl) ?_
 refine kC 6 [0,2,3,4,5,6] ?_
 refine kEN ?_
 refine kS ?_
 refine kSR ?_
 refine RJ.seg 1 [0, 2, 3, 4, 5, 13] (L2 := [(0, .str x0), (2, .ptr 0 0), (3, .int .i64 0), (4, .int .i64 0), (5, .ptr 1 0), (13, .bool y1.2)]) (H2 := [.box [.bool false, .nl, .int .i64 0], .box (encSt23 y1.1)]) (by kernel_rfl) ?_
 refine kEN ?_
 refine J.caseB 13 (b := y1.2) (by kernel_rfl) (fun hb4 => ?_) (fun hb4 => ?_)
 ·have h5 := condT hb4 h3
  refine kT ?_
  refine kSR ?_
  refine kC 4 [0,2,3,4] ?_
  refine kEN ?_
  refine kX ?_
  refine PJ.passRet ?_
  obtain rfl := oi h5
  exact kZ hFn hFH hFD
 ·have h6 := condF hb4 h3
  refine kF ?_
  refine kK ?_
  refine PJ.next ?_
  refine kSR ?_
  refine kC 1 [0,2,3,4,7] ?_
  refine kEN ?_
  obtain ⟨s175, hy177, h179⟩ := bindS h6
  refine K.cutN (by kernel_rfl) (fun (s175 : Int) => ([(2, .ptr 0 0), (3, .int .i64 0), (4, .int .i64 0), (7, .int .i64 s175)], [.box [.bool false, .nl, .int .i64 0]])) s175 ?_ ?_
  ·refine K.block 0 (by kernel_rfl) ?_
   refine J.wk (Wk.sel (L2 := [(0, .str x0), (2, .ptr 0 0), (3, .int .i64 0), (4, .int .i64 0), (7, .int .i64 0)]) (H2 := [.box [.bool false, .nl, .int .i64 0]]) 0 (by rw [hFH]; rfl) hFD [0] (by kernel_rfl) (by kernel_rfl) (by decide) (by kernel_rfl) (by kernel_rfl) (by kernel_rfl) (by kernel_rfl)) ?_
   refine K.loop (by kernel_rfl) (fun (s180 : Int) => ([(0, .str x0), (2, .ptr 0 0), (3, .int .i64 0), (4, .int .i64 0), (7, .int .i64 s180)], [.box [.bool false, .nl, .int .i64 0]])) hy177 [0, 2, 3, 4, 7] (by kernel_rfl) (by kernel_rfl) (fun s180 x292 hs291 => ?_)
   obtain ⟨y319, hy320, h321⟩ := bindS hs291
   refine K.cutX (by kernel_rfl) (fun (s318 : Unit) => ([(0, .str x0), (2, .ptr 0 0), (3, .int .i64 0), (4, .int .i64 0), (7, .int .i64 s180)], [.box [.bool false, .nl, .int .i64 0]])) y319 ?_ (fun s318 hs => ?_)
   ·obtain ⟨s330, hy332, h334⟩ := bindS hy320
    refine K.cutN (by kernel_rfl) (fun (s330 : Bool) => ([(0, .str x0), (2, .ptr 0 0), (3, .int .i64 0), (4, .int .i64 0), (7, .int .i64 s180), (25, .bool s330)], [.box [.bool false, .nl, .int .i64 0]])) s330 ?_ ?_
    ·refine kR ?_
     refine kC 5 [0,2,3,4,7,19] ?_
     refine RJ.caseB 19 (b := (decide (s180 < (x0.length : Int)))) (by kernel_rfl) (fun hb335 => ?_) (fun hb335 => ?_)
     ·have h336 := condT hb335 hy332
      refine kC 3 [0,2,3,4,7,19,20,22] ?_
      obtain ⟨hm, h338⟩ := asrt h336
      refine RJ.rel (d := (some 23)) (ef := ⟨.str (cut x0 0 (IntKind.wrap .i64 (s180 + 1))), [], []⟩) (ef' := ⟨.str (cut x0 0 (IntKind.wrap .i64 (s180 + 1))), [], []⟩) (c := inS 0 (IntKind.wrap .i64 (s180 + 1)) x0.length) (tr2 := []) (H2 := [.box [.bool false, .nl, .int .i64 0]]) (by kernel_rfl) hm (fun hc => rfl) (by kernel_rfl) ?_
      obtain ⟨y339, hy340, h341⟩ := bindS h338
      refine RJ.call0 (d := (some 24)) (f := 27) (args := [.str ((cut x0 0 (IntKind.wrap .i64 (s180 + 1))))]) (v := .bool y339) (tr2 := []) (by kernel_rfl) (by kernel_rfl) (.cons (Le.refl _) .nil) (exergueref05_begins_ok hy340) (by kernel_rfl) ?_
      refine kC 1 [0,2,3,4,7,25] ?_
      refine kE ?_
      obtain rfl := oi h341
      exact kN [0, 2, 3, 4, 7, 25]
     ·have h337 := condF hb335 hy332
      refine kC 6 [0,2,3,4,7,25] ?_
      refine kE ?_
      obtain rfl := oi h337
      exact kN [0, 2, 3, 4, 7, 25]
    ·refine J.caseB 25 (b := s330) (by kernel_rfl) (fun hb342 => ?_) (fun hb342 => ?_)
     ·have h343 := condT hb342 h334
      refine kT ?_
      refine kK ?_
      obtain rfl := oi h343
      exact PJ.cutXl [0, 2, 3, 4, 7] (by kernel_rfl) (by kernel_rfl)
     ·have h344 := condF hb342 h334
      refine kF ?_
      refine K.exit 0 (by kernel_rfl) ?_
      obtain rfl := oi h344
      have h345 := joinX_inr h321
      refine PJ.cutXr (fun e => nomatch e) ?_
      obtain rfl := oi h345
      refine PJ.loopOut (fun e => nomatch e) (fun he347 => ?_)
      have h346 := congrArg some he347
      refine PJ.blockOut ?_
      obtain rfl := oi h346
      exact kN [2, 3, 4, 7]
   ·subst hs
    have h322 := joinX_inl h321
    refine K.block 1 (by kernel_rfl) ?_
    refine kR ?_
    refine kC 3 [0,2,3,4,7] ?_
    refine kE ?_
    refine PJ.blockNormal ?_
    obtain rfl := oi h322
    exact PJ.loopNext [0, 2, 3, 4, 7] (by kernel_rfl) (by kernel_rfl)
  ·refine kSR ?_
   refine kC 5 [2,3,4] ?_
   refine kEN ?_
   refine kX ?_
   obtain rfl := oi h179
   refine PJ.res (v1 := .tup [.agg [.bool false, .nl, .int .i64 0], .int .i64 s175, .int .i64 2]) (Le.tup (.cons (Le.agg (.cons (Le.refl _) (.cons (Le.nl _) (.cons (Le.refl _) .nil)))) (.cons (Le.refl _) (.cons (Le.refl _) .nil)))) ?_
   exact kZ hFn hFH hFD

def exergueref01_Row (x0 : List Int) (x1 : List Int) : Option (Bool) :=
 (bif (decide (¬ (x0.length : Int) = (x1.length : Int))) then (some false) else (Option.bind (loopN (fun (s51 : Int) => (bif (decide (s51 < (x0.length : Int))) then (bif inR s51 x0.length then (bif inR s51 x1.length then (bif (decide (¬ (nth x0 s51) = (nth x1 s51))) then (some (.inr (.inr false))) else (some (.inl (IntKind.wrap .i64 (s51 + 1))))) else none) else none) else (some (.inr (.inl ()))))) big 0) (joinX fun (s46 : Unit) => (some true))))
theorem exergueref01_Row_ok {x0 : List Int} {x1 : List Int} {r : Bool} (h : exergueref01_Row x0 x1 = some r) : SC Tryd.prog 19 [lsv (encI .u8) 1 x0, lsv (encI .u8) 1 x1] [] (.bool r) [] := by
 refine kFn (fn := Tryd.f19) (fun F hFn hFH hFD => ?_)
 unfold exergueref01_Row at h
 refine kSR ?_
 refine kC 1 [0,1,4] ?_
 refine kEN ?_
 refine kS ?_
 refine kSR ?_
 refine kC 5 [0,1,4,10] ?_
 refine kEN ?_
 refine J.caseB 10 (b := (decide (¬ (x0.length : Int) = (x1.length : Int)))) (by kernel_rfl) (fun hb1 => ?_) (fun hb1 => ?_)
 ·have h2 := condT hb1 h
  refine kT ?_
  refine kSR ?_
  refine kC 1 [0,1,4] ?_
  refine kEN ?_
  refine kX ?_
  refine PJ.passRet ?_
  obtain rfl := oi h2
  exact kZ hFn hFH hFD
 ·have h3 := condF hb1 h
  refine kF ?_
  refine kK ?_
  refine PJ.next ?_
  obtain ⟨y47, hy48, h49⟩ := bindS h3
  refine K.cutX (by kernel_rfl) (fun (s46 : Unit) => ([(4, .bool false)], [])) y47 ?_ (fun s46 hs => ?_)
  ·refine kSR ?_
   refine kC 1 [0,1,4,5] ?_
   refine kEN ?_
   refine K.block 0 (by kernel_rfl) ?_
   refine K.loop (by kernel_rfl) (fun (s51 : Int) => ([(0, lsv (encI .u8) 1 x0), (1, lsv (encI .u8) 1 x1), (4, .bool false), (5, .int .i64 s51)], [])) hy48 [0, 1, 4, 5] (by kernel_rfl) (by kernel_rfl) (fun s51 x79 hs78 => ?_)
   refine kS ?_
   refine kSR ?_
   refine kC 4 [0,1,4,5,14] ?_
   refine kEN ?_
   refine J.caseB 14 (b := (decide (s51 < (x0.length : Int)))) (by kernel_rfl) (fun hb80 => ?_) (fun hb80 => ?_)
   ·have h81 := condT hb80 hs78
    refine kT ?_
    refine kK ?_
    refine PJ.next ?_
    refine kS ?_
    refine K.block 1 (by kernel_rfl) ?_
    refine kS ?_
    refine J.keep [0, 1, 4, 5] (L2 := [(0, lsv (encI .u8) 1 x0), (1, lsv (encI .u8) 1 x1), (4, .bool false), (5, .int .i64 s51)]) (by kernel_rfl) ?_
    refine K.draw (by kernel_rfl) (by kernel_rfl) (by kernel_rfl) (H2 := []) (by kernel_rfl) (n := 0) (by kernel_rfl) ?_
    refine kD 2 ?_
    obtain ⟨hm, h83⟩ := asrt h81
    refine RJ.rel (d := (some 19)) (ef := ⟨.ep (((x0.flatMap (encI .u8)).drop ((s51 : Int).toNat * 1)).take 1), [], []⟩) (ef' := ⟨.ep ((encI .u8) (nth x0 s51)), [], []⟩) (c := inR s51 x0.length) (tr2 := [([], []), ([], []), ([], [])]) (H2 := []) (by kernel_rfl) hm (fun hc => N.idx (encI_len .u8) hc) (by kernel_rfl) ?_
    refine kD 3 ?_
    obtain ⟨hm, h84⟩ := asrt h83
    refine RJ.rel (d := (some 23)) (ef := ⟨.ep (((x1.flatMap (encI .u8)).drop ((s51 : Int).toNat * 1)).take 1), [], []⟩) (ef' := ⟨.ep ((encI .u8) (nth x1 s51)), [], []⟩) (c := inR s51 x1.length) (tr2 := [([], []), ([], []), ([], []), ([], []), ([], []), ([], []), ([], [])]) (H2 := []) (by kernel_rfl) hm (fun hc => N.idx (encI_len .u8) hc) (by kernel_rfl) ?_
    refine RJ.segD 2 (tr2 := [([], []), ([], []), ([], []), ([], []), ([], []), ([], []), ([], []), ([], []), ([], [])]) (L2 := [(25, .bool ((decide (¬ (nth x0 s51) = (nth x1 s51))))), (24, .int .u8 (nth x1 s51)), (23, .ep [.int .u8 (nth x1 s51)]), (22, .int .i64 s51), (21, lsv (encI .u8) 1 x1), (20, .int .u8 (nth x0 s51)), (19, .ep [.int .u8 (nth x0 s51)]), (18, .int .i64 s51), (17, lsv (encI .u8) 1 x0), (0, lsv (encI .u8) 1 x0), (1, lsv (encI .u8) 1 x1), (4, .bool false), (5, .int .i64 s51)]) (H2 := []) (by kernel_rfl) ?_
    refine kEN ?_
    refine J.caseB 25 (b := (decide (¬ (nth x0 s51) = (nth x1 s51)))) (by kernel_rfl) (fun hb85 => ?_) (fun hb85 => ?_)
    ·have h86 := condT hb85 h84
     refine kT ?_
     refine kSR ?_
     refine kC 1 [0,1,4,5] ?_
     refine kEN ?_
     refine kX ?_
     refine PJ.blockRet ?_
     refine PJ.passRet ?_
     obtain rfl := oi h86
     refine PJ.loopOut (fun e => nomatch e) (fun he90 => ?_)
     have h88 := congrArg some he90
     refine PJ.blockRet ?_
     obtain rfl := oi h88
     have h89 := joinX_inr h49
     refine PJ.cutXr (fun e => nomatch e) ?_
     obtain rfl := oi h89
     exact kZ hFn hFH hFD
    ·have h87 := condF hb85 h84
     refine kF ?_
     refine kK ?_
     refine PJ.blockNormal ?_
     refine PJ.next ?_
     refine kR ?_
     refine kC 3 [0,1,4,5] ?_
     refine kE ?_
     obtain rfl := oi h87
     exact PJ.loopNext [0, 1, 4, 5] (by kernel_rfl) (by kernel_rfl)
   ·have h82 := condF hb80 hs78
    refine kF ?_
    refine K.exit 0 (by kernel_rfl) ?_
    refine PJ.passExit ?_
    obtain rfl := oi h82
    refine PJ.loopOut (fun e => nomatch e) (fun he92 => ?_)
    have h91 := congrArg some he92
    refine PJ.blockOut ?_
    obtain rfl := oi h91
    exact PJ.cutXl [4] (by kernel_rfl) (by kernel_rfl)
  ·subst hs
   have h50 := joinX_inl h49
   refine kSR ?_
   refine kC 1 [4] ?_
   refine kEN ?_
   refine kX ?_
   obtain rfl := oi h50
   exact kZ hFn hFH hFD

def exergueref05_Same (x0 : St23) (x1 : St23) : Option (Bool) :=
 (Option.bind (exergueref01_Row x0.D_ x1.D_) fun y1 => (Option.bind (bif y1 then (bif (x0.Neg_ == x1.Neg_) then (some (decide (x0.E_ = x1.E_))) else (some false)) else (some false)) fun (s10 : Bool) => (some s10)))
theorem exergueref05_Same_ok {x0 : St23} {x1 : St23} {r : Bool} (h : exergueref05_Same x0 x1 = some r) : SC Tryd.prog 13 [.agg (encSt23 x0), .agg (encSt23 x1)] [] (.bool r) [] := by
 refine kFn (fn := Tryd.f13) (fun F hFn hFH hFD => ?_)
 unfold exergueref05_Same at h
 refine kSR ?_
 refine kC 3 [2,3,4] ?_
 refine kEN ?_
 refine kSR ?_
 refine kC 4 [2,3,4,7,9] ?_
 obtain ⟨y1, hy2, h3⟩ := bindS h
 refine RJ.call0 (d := (some 10)) (f := 19) (args := [lsv (encI .u8) 1 x0.D_, lsv (encI .u8) 1 x1.D_]) (v := .bool y1) (tr2 := []) (by kernel_rfl) (by kernel_rfl) (.cons (Le.refl _) (.cons (Le.refl _) .nil)) (exergueref01_Row_ok hy2) (by kernel_rfl) ?_
 refine kC 1 [2,3,4,5] ?_
 refine kEN ?_
 obtain ⟨s10, hy12, h14⟩ := bindS h3
 refine K.cutN (by kernel_rfl) (fun (s10 : Bool) => ([(4, .bool s10)], [])) s10 ?_ ?_
 ·refine kR ?_
  refine RJ.seg 2 [2, 3, 4, 12] (L2 := [(2, .ptr 0 0), (3, .ptr 1 0), (4, .bool false), (12, .bool y1)]) (H2 := [.box (encSt23 x0), .box (encSt23 x1)]) (by kernel_rfl) ?_
  refine RJ.caseB 12 (b := y1) (by kernel_rfl) (fun hb15 => ?_) (fun hb15 => ?_)
  ·have h16 := condT hb15 hy12
   refine kC 7 [2,3,4,19] ?_
   refine RJ.caseB 19 (b := (x0.Neg_ == x1.Neg_)) (by kernel_rfl) (fun hb18 => ?_) (fun hb18 => ?_)
   ·have h19 := condT hb18 h16
    refine kC 7 [4] ?_
    refine kE ?_
    obtain rfl := oi h19
    refine PJ.wk (Wk.sel (L2 := [(4, .bool (decide (x0.E_ = x1.E_)))]) (H2 := []) 0 (by rw [hFH]; rfl) hFD [] (by kernel_rfl) (by kernel_rfl) (by decide) (by kernel_rfl) (by kernel_rfl) (by kernel_rfl) (by kernel_rfl)) ?_
    exact kN [4]
   ·have h20 := condF hb18 h16
    refine kC 7 [4] ?_
    refine kE ?_
    obtain rfl := oi h20
    refine PJ.wk (Wk.sel (L2 := [(4, .bool false)]) (H2 := []) 0 (by rw [hFH]; rfl) hFD [] (by kernel_rfl) (by kernel_rfl) (by decide) (by kernel_rfl) (by kernel_rfl) (by kernel_rfl) (by kernel_rfl)) ?_
    exact kN [4]
  ·have h17 := condF hb15 hy12
   refine kC 14 [4] ?_
   refine kE ?_
   obtain rfl := oi h17
   refine PJ.wk (Wk.sel (L2 := [(4, .bool false)]) (H2 := []) 0 (by rw [hFH]; rfl) hFD [] (by kernel_rfl) (by kernel_rfl) (by decide) (by kernel_rfl) (by kernel_rfl) (by kernel_rfl) (by kernel_rfl)) ?_
   exact kN [4]
 ·refine kX ?_
  obtain rfl := oi h14
  exact kZ hFn hFH hFD

def exerguelaw05_DecReads (x0 : St23) (x1 : List UInt8) : Option (Bool) :=
 (Option.bind exerguelaw05_shown fun y1 => (bif (decide ((x1.length : Int) > 100)) then (some y1) else (Option.bind (dec_Read x1) fun y7 => (Option.bind (exergueref05_Read x1) fun y10 => (Option.bind (Option.bind (Option.bind (exergueref05_Same y7.1 y10.1) fun y59 => (bif (!y59) then (some true) else (bif (decide (¬ y7.2.1 = y10.2.1)) then (some true) else (some (decide (¬ y7.2.2 = y10.2.2)))))) fun (s54 : Bool) => (bif s54 then (some (.inr false)) else (some (.inl ())))) (joinX fun (s40 : Unit) => (Option.bind (bif y1 then (Option.bind (exergueref05_Right x0) fun y95 => (bif (!y95) then (some true) else (Option.bind (dec_Text x0) fun y101 => (Option.bind (exergueref05_Text x0) fun y104 => (some (y101 == y104)))))) else (some false)) fun (s87 : Bool) => (some s87))))))))
theorem exerguelaw05_DecReads_ok {x0 : St23} {x1 : List UInt8} {r : Bool} (h : exerguelaw05_DecReads x0 x1 = some r) : SC Tryd.prog 3 [.agg (encSt23 x0), .str x1] [] (.bool r) [] := by
 refine kFn (fn := Tryd.f3) (fun F hFn hFH hFD => ?_)
 unfold exerguelaw05_DecReads at h
 refine kSR ?_
 refine kC 2 [1,2,4] ?_
 refine kEN ?_
 refine kSR ?_
 obtain ⟨y1, hy2, h3⟩ := bindS h
 refine RJ.call0 (d := (some 12)) (f := 10) (args := []) (v := .bool y1) (tr2 := []) (by kernel_rfl) (by kernel_rfl) .nil (exerguelaw05_shown_ok hy2) (by kernel_rfl) ?_
 refine kC 1 [1,2,4,5] ?_
 refine kEN ?_
 refine kS ?_
 refine kSR ?_
 refine kC 3 [1,2,4,5,15] ?_
 refine kEN ?_
 refine J.caseB 15 (b := (decide ((x1.length : Int) > 100))) (by kernel_rfl) (fun hb4 => ?_) (fun hb4 => ?_)
 ·have h5 := condT hb4 h3
  refine kT ?_
  refine kSR ?_
  refine RJ.seg 2 [1, 2, 4, 5] (L2 := [(1, .str x1), (2, .ptr 0 0), (4, .bool y1), (5, .bool y1)]) (H2 := [.box (encSt23 x0)]) (by kernel_rfl) ?_
  refine kEN ?_
  refine kX ?_
  refine PJ.passRet ?_
  obtain rfl := oi h5
  exact kZ hFn hFH hFD
 ·have h6 := condF hb4 h3
  refine kF ?_
  refine kK ?_
  refine PJ.next ?_
  refine kSR ?_
  refine RJ.seg 1 [1, 2, 4, 5, 18] (L2 := [(1, .str x1), (2, .ptr 0 0), (4, .bool false), (5, .bool y1), (18, .str x1)]) (H2 := [.box (encSt23 x0)]) (by kernel_rfl) ?_
  obtain ⟨y7, hy8, h9⟩ := bindS h6
  refine RJ.call0 (d := (some 19)) (f := 11) (args := [.str x1]) (v := .tup [.agg (encSt23 y7.1), .int .i64 y7.2.1, .int .i64 y7.2.2]) (tr2 := []) (by kernel_rfl) (by kernel_rfl) (.cons (Le.refl _) .nil) (dec_Read_ok hy8) (by kernel_rfl) ?_
  refine kC 8 [1,2,4,5,6,7,8] ?_
  refine kEN ?_
  refine kSR ?_
  refine kC 1 [2,4,5,6,7,8,24] ?_
  obtain ⟨y10, hy11, h12⟩ := bindS h9
  refine RJ.call0 (d := (some 25)) (f := 12) (args := [.str x1]) (v := .tup [.agg (encSt23 y10.1), .int .i64 y10.2.1, .int .i64 y10.2.2]) (tr2 := []) (by kernel_rfl) (by kernel_rfl) (.cons (Le.refl _) .nil) (exergueref05_Read_ok hy11) (by kernel_rfl) ?_
  refine kC 8 [2,4,5,6,7,8,9,10,11] ?_
  refine kEN ?_
  obtain ⟨y41, hy42, h43⟩ := bindS h12
  refine K.cutX (by kernel_rfl) (fun (s40 : Unit) => ([(2, .ptr 0 0), (4, .bool false), (5, .bool y1)], [.box (encSt23 x0)])) y41 ?_ (fun s40 hs => ?_)
  ·obtain ⟨s54, hy56, h58⟩ := bindS hy42
   refine K.cutN (by kernel_rfl) (fun (s54 : Bool) => ([(2, .ptr 0 0), (4, .bool false), (5, .bool y1), (42, .bool s54)], [.box (encSt23 x0)])) s54 ?_ ?_
   ·refine kR ?_
    refine RJ.seg 2 [2, 4, 5, 7, 8, 10, 11, 29, 30] (L2 := [(2, .ptr 0 0), (4, .bool false), (5, .bool y1), (7, .int .i64 y7.2.1), (8, .int .i64 y7.2.2), (10, .int .i64 y10.2.1), (11, .int .i64 y10.2.2), (29, .agg (encSt23 y7.1)), (30, .agg (encSt23 y10.1))]) (H2 := [.box (encSt23 x0), .box (encSt23 y7.1), .box (encSt23 y10.1)]) (by kernel_rfl) ?_
    obtain ⟨y59, hy60, h61⟩ := bindS hy56
    refine RJ.call0 (d := (some 31)) (f := 13) (args := [.agg (encSt23 y7.1), .agg (encSt23 y10.1)]) (v := .bool y59) (tr2 := []) (by kernel_rfl) (by kernel_rfl) (.cons (Le.refl _) (.cons (Le.refl _) .nil)) (exergueref05_Same_ok hy60) (by kernel_rfl) ?_
    refine kC 2 [2,4,5,7,8,10,11,33] ?_
    refine RJ.caseB 33 (b := (!y59)) (by kernel_rfl) (fun hb62 => ?_) (fun hb62 => ?_)
    ·have h63 := condT hb62 h61
     refine kC 9 [2,4,5,42] ?_
     refine kE ?_
     obtain rfl := oi h63
     refine PJ.wk (Wk.sel (L2 := [(2, .ptr 0 0), (4, .bool false), (5, .bool y1), (42, .bool true)]) (H2 := [.box (encSt23 x0)]) 0 (by rw [hFH]; rfl) hFD [0] (by kernel_rfl) (by kernel_rfl) (by decide) (by kernel_rfl) (by kernel_rfl) (by kernel_rfl) (by kernel_rfl)) ?_
     exact kN [2, 4, 5, 42]
    ·have h64 := condF hb62 h61
     refine kC 5 [2,4,5,8,11,38] ?_
     refine RJ.caseB 38 (b := (decide (¬ y7.2.1 = y10.2.1))) (by kernel_rfl) (fun hb65 => ?_) (fun hb65 => ?_)
     ·have h66 := condT hb65 h64
      refine kC 4 [2,4,5,42] ?_
      refine kE ?_
      obtain rfl := oi h66
      refine PJ.wk (Wk.sel (L2 := [(2, .ptr 0 0), (4, .bool false), (5, .bool y1), (42, .bool true)]) (H2 := [.box (encSt23 x0)]) 0 (by rw [hFH]; rfl) hFD [0] (by kernel_rfl) (by kernel_rfl) (by decide) (by kernel_rfl) (by kernel_rfl) (by kernel_rfl) (by kernel_rfl)) ?_
      exact kN [2, 4, 5, 42]
     ·have h67 := condF hb65 h64
      refine kC 4 [2,4,5,42] ?_
      refine kE ?_
      obtain rfl := oi h67
      refine PJ.wk (Wk.sel (L2 := [(2, .ptr 0 0), (4, .bool false), (5, .bool y1), (42, .bool (decide (¬ y7.2.2 = y10.2.2)))]) (H2 := [.box (encSt23 x0)]) 0 (by rw [hFH]; rfl) hFD [0] (by kernel_rfl) (by kernel_rfl) (by decide) (by kernel_rfl) (by kernel_rfl) (by kernel_rfl) (by kernel_rfl)) ?_
      exact kN [2, 4, 5, 42]
   ·refine J.caseB 42 (b := s54) (by kernel_rfl) (fun hb68 => ?_) (fun hb68 => ?_)
    ·have h69 := condT hb68 h58
     refine kT ?_
     refine kSR ?_
     refine kC 1 [2,4,5] ?_
     refine kEN ?_
     refine kX ?_
     obtain rfl := oi h69
     have h71 := joinX_inr h43
     refine PJ.cutXr (fun e => nomatch e) ?_
     obtain rfl := oi h71
     exact kZ hFn hFH hFD
    ·have h70 := condF hb68 h58
     refine kF ?_
     refine kK ?_
     obtain rfl := oi h70
     exact PJ.cutXl [2, 4, 5] (by kernel_rfl) (by kernel_rfl)
  ·subst hs
   have h44 := joinX_inl h43
   obtain ⟨s87, hy89, h91⟩ := bindS h44
   refine K.cutN (by kernel_rfl) (fun (s87 : Bool) => ([(4, .bool s87)], [])) s87 ?_ ?_
   ·refine J.keep [2, 4, 5] (L2 := [(2, .ptr 0 0), (4, .bool false), (5, .bool y1)]) (by kernel_rfl) ?_
    refine K.draw (by kernel_rfl) (by kernel_rfl) (by kernel_rfl) (H2 := [.box (encSt23 x0), .res, .res, .res]) (by kernel_rfl) (n := 1) (by kernel_rfl) ?_
    refine kD 2 ?_
    refine RJ.caseB 44 (b := y1) (by kernel_rfl) (fun hb92 => ?_) (fun hb92 => ?_)
    ·have h93 := condT hb92 hy89
     refine kD 1 ?_
     obtain ⟨y95, hy96, h97⟩ := bindS h93
     refine RJ.call0 (d := (some 46)) (f := 14) (args := [.agg (encSt23 x0)]) (v := .bool y95) (tr2 := [([], []), ([], []), ([0, 1], []), ([], [2, 3])]) (by kernel_rfl) (by kernel_rfl) (.cons (Le.refl _) .nil) (exergueref05_Right_ok hy96) (by kernel_rfl) ?_
     refine kD 2 ?_
     refine RJ.caseB 48 (b := (!y95)) (by kernel_rfl) (fun hb98 => ?_) (fun hb98 => ?_)
     ·have h99 := condT hb98 h97
      refine RJ.segD 8 (tr2 := [([], []), ([], []), ([0, 1], []), ([], [2, 3]), ([], []), ([], []), ([], []), ([], [4, 5]), ([], []), ([], [6, 7]), ([], []), ([], []), ([], []), ([], [])]) (L2 := [(4, .bool true), (55, .bool true), (54, .bool true), (53, .tup []), (52, .tup []), (51, .tup []), (50, .tup []), (49, .tup []), (48, .bool true), (48, .bool (!y95)), (47, .bool (!y95)), (46, .bool y95), (45, .agg (encSt23 x0)), (44, .bool true), (44, .bool y1), (43, .bool y1), (2, .ptr 0 0), (4, .bool false), (5, .bool y1)]) (H2 := [.box (encSt23 x0), .res, .res, .res]) (by kernel_rfl) ?_
      refine kE ?_
      obtain rfl := oi h99
      refine PJ.wk (Wk.sel (L2 := [(4, .bool true)]) (H2 := []) 0 (by rw [hFH]; rfl) hFD [] (by kernel_rfl) (by kernel_rfl) (by decide) (by kernel_rfl) (by kernel_rfl) (by kernel_rfl) (by kernel_rfl)) ?_
      exact kN [4]
     ·have h100 := condF hb98 h97
      refine RJ.segD 1 (tr2 := [([], []), ([], []), ([0, 1], []), ([], [2, 3]), ([], []), ([], []), ([0, 1], [])]) (L2 := [(49, .agg (encSt23 x0)), (48, .bool false), (48, .bool (!y95)), (47, .bool (!y95)), (46, .bool y95), (45, .agg (encSt23 x0)), (44, .bool true), (44, .bool y1), (43, .bool y1), (2, .ptr 0 0), (4, .bool false), (5, .bool y1)]) (H2 := [.box (encSt23 x0), .res, .res, .res]) (by kernel_rfl) ?_
      obtain ⟨y101, hy102, h103⟩ := bindS h100
      refine RJ.call0 (d := (some 50)) (f := 15) (args := [.agg (encSt23 x0)]) (v := .str y101) (tr2 := [([], []), ([], []), ([0, 1], []), ([], [2, 3]), ([], []), ([], []), ([0, 1], []), ([], [4, 5])]) (by kernel_rfl) (by kernel_rfl) (.cons (Le.refl _) .nil) (dec_Text_ok hy102) (by kernel_rfl) ?_
      refine kD 1 ?_
      obtain ⟨y104, hy105, h106⟩ := bindS h103
      refine RJ.call0 (d := (some 52)) (f := 16) (args := [.agg (encSt23 x0)]) (v := .str y104) (tr2 := [([], []), ([], []), ([0, 1], []), ([], [2, 3]), ([], []), ([], []), ([0, 1], []), ([], [4, 5]), ([0, 1], []), ([], [6, 7])]) (by kernel_rfl) (by kernel_rfl) (.cons (Le.refl _) .nil) (exergueref05_Text_ok hy105) (by kernel_rfl) ?_
      refine kD 4 ?_
      refine kE ?_
      obtain rfl := oi h106
      refine PJ.wk (Wk.sel (L2 := [(4, .bool (y101 == y104))]) (H2 := []) 0 (by rw [hFH]; rfl) hFD [] (by kernel_rfl) (by kernel_rfl) (by decide) (by kernel_rfl) (by kernel_rfl) (by kernel_rfl) (by kernel_rfl)) ?_
      exact kN [4]
    ·have h94 := condF hb92 hy89
     refine kD 12 ?_
     refine kE ?_
     obtain rfl := oi h94
     refine PJ.wk (Wk.sel (L2 := [(4, .bool false)]) (H2 := []) 0 (by rw [hFH]; rfl) hFD [] (by kernel_rfl) (by kernel_rfl) (by decide) (by kernel_rfl) (by kernel_rfl) (by kernel_rfl) (by kernel_rfl)) ?_
     exact kN [4]
   ·refine kX ?_
    obtain rfl := oi h91
    exact kZ hFn hFH hFD

def exerguelaw05_DecBack (x0 : St23) (x1 : List UInt8) : Option (Bool) :=
 (Option.bind exerguelaw05_shown fun y1 => (bif (decide ((x1.length : Int) > 2000)) then (some y1) else (Option.bind (dec_Read x1) fun y7 => (Option.bind (Option.bind (bif (decide (y7.2.2 = 0)) then (Option.bind (exergueref05_Right y7.1) fun y140 => (bif (!y140) then (some true) else (Option.bind (dec_Text y7.1) fun y146 => (bif (y146 != x1) then (some true) else (bif (decide (¬ y7.2.1 = 0)) then (some true) else (bif (decide (¬ y7.2.2 = 0)) then (bif (decide (y7.2.1 < 0)) then (some true) else (bif (decide (y7.2.1 > (x1.length : Int))) then (some true) else (some ((decide ((y7.1.D_.length : Int) > 0)))))) else (some false))))))) else (bif (decide (¬ y7.2.2 = 0)) then (bif (decide (y7.2.1 < 0)) then (some true) else (bif (decide (y7.2.1 > (x1.length : Int))) then (some true) else (some ((decide ((y7.1.D_.length : Int) > 0)))))) else (some false))) fun (s132 : Bool) => (bif s132 then (some (.inr false)) else (some (.inl ())))) (joinX fun (s91 : Unit) => (Option.bind (exergueref05_Right x0) fun y177 => (bif (!y177) then (some y1) else (Option.bind (dec_Text x0) fun y183 => (Option.bind (dec_Read y183) fun y186 => (Option.bind (bif y1 then (bif (decide (y186.2.2 = 0)) then (Option.bind (exergueref05_Same x0 y186.1) fun y209 => (some y209)) else (some false)) else (some false)) fun (s198 : Bool) => (some s198)))))))))))
theorem exerguelaw05_DecBack_ok {x0 : St23} {x1 : List UInt8} {r : Bool} (h : exerguelaw05_DecBack x0 x1 = some r) : SC Tryd.prog 4 [.agg (encSt23 x0), .str x1] [] (.bool r) [] := by
 refine kFn (fn := Tryd.f4) (fun F hFn hFH hFD => ?_)
 unfold exerguelaw05_DecBack at h
 refine kSR ?_
 refine kC 2 [1,2,4] ?_
 refine kEN ?_
 refine kSR ?_
 obtain ⟨y1, hy2, h3⟩ := bindS h
 refine RJ.call0 (d := (some 12)) (f := 10) (args := []) (v := .bool y1) (tr2 := []) (by kernel_rfl) (by kernel_rfl) .nil (exerguelaw05_shown_ok hy2) (by kernel_rfl) ?_
 refine kC 1 [1,2,4,5] ?_
 refine kEN ?_
 refine kS ?_
 refine kSR ?_
 refine kC 3 [1,2,4,5,15] ?_
 refine kEN ?_
 refine J.caseB 15 (b := (decide ((x1.length : Int) > 2000))) (by kernel_rfl) (fun hb4 => ?_) (fun hb4 => ?_)
 ·have h5 := condT hb4 h3
  refine kT ?_
  refine kSR ?_
  refine RJ.seg 2 [1, 2, 4, 5] (L2 := [(1, .str x1), (2, .ptr 0 0), (4, .bool y1), (5, .bool y1)]) (H2 := [.box (encSt23 x0)]) (by kernel_rfl) ?_
  refine kEN ?_
  refine kX ?_
  refine PJ.passRet ?_
  obtain rfl := oi h5
  exact kZ hFn hFH hFD
 ·have h6 := condF hb4 h3
  refine kF ?_
  refine kK ?_
  refine PJ.next ?_
  refine kSR ?_
  refine RJ.seg 1 [1, 2, 4, 5, 18] (L2 := [(1, .str x1), (2, .ptr 0 0), (4, .bool false), (5, .bool y1), (18, .str x1)]) (H2 := [.box (encSt23 x0)]) (by kernel_rfl) ?_
  obtain ⟨y7, hy8, h9⟩ := bindS h6
  refine RJ.call0 (d := (some 19)) (f := 11) (args := [.str x1]) (v := .tup [.agg (encSt23 y7.1), .int .i64 y7.2.1, .int .i64 y7.2.2]) (tr2 := []) (by kernel_rfl) (by kernel_rfl) (.cons (Le.refl _) .nil) (dec_Read_ok hy8) (by kernel_rfl) ?_
  refine kC 8 [1,2,4,5,6,7,8] ?_
  refine kEN ?_
  obtain ⟨y92, hy93, h94⟩ := bindS h9
  refine K.cutX (by kernel_rfl) (fun (s91 : Unit) => ([(2, .ptr 0 0), (4, .bool false), (5, .bool y1)], [.box (encSt23 x0)])) y92 ?_ (fun s91 hs => ?_)
  ·obtain ⟨s132, hy134, h136⟩ := bindS hy93
   refine K.cutN (by kernel_rfl) (fun (s132 : Bool) => ([(2, .ptr 0 0), (4, .bool false), (5, .bool y1), (59, .bool s132)], [.box (encSt23 x0)])) s132 ?_ ?_
   ·refine kR ?_
    refine kC 3 [1,2,4,5,6,7,8,25] ?_
    refine RJ.caseB 25 (b := (decide (y7.2.2 = 0))) (by kernel_rfl) (fun hb137 => ?_) (fun hb137 => ?_)
    ·have h138 := condT hb137 hy134
     refine kC 1 [1,2,4,5,6,7,8,25,26] ?_
     obtain ⟨y140, hy141, h142⟩ := bindS h138
     refine RJ.call0 (d := (some 27)) (f := 14) (args := [.agg (encSt23 y7.1)]) (v := .bool y140) (tr2 := []) (by kernel_rfl) (by kernel_rfl) (.cons (Le.refl _) .nil) (exergueref05_Right_ok hy141) (by kernel_rfl) ?_
     refine RJ.seg 2 [1, 2, 4, 5, 6, 7, 8, 25, 29] (L2 := [(1, .str x1), (2, .ptr 0 0), (4, .bool false), (5, .bool y1), (6, .ptr 1 0), (7, .int .i64 y7.2.1), (8, .int .i64 y7.2.2), (25, .bool true), (29, .bool (!y140))]) (H2 := [.box (encSt23 x0), .box (encSt23 y7.1)]) (by kernel_rfl) ?_
     refine RJ.caseB 29 (b := (!y140)) (by kernel_rfl) (fun hb143 => ?_) (fun hb143 => ?_)
     ·have h144 := condT hb143 h142
      refine kC 30 [2,4,5,59] ?_
      refine kE ?_
      obtain rfl := oi h144
      refine PJ.wk (Wk.sel (L2 := [(2, .ptr 0 0), (4, .bool false), (5, .bool y1), (59, .bool true)]) (H2 := [.box (encSt23 x0)]) 0 (by rw [hFH]; rfl) hFD [0] (by kernel_rfl) (by kernel_rfl) (by decide) (by kernel_rfl) (by kernel_rfl) (by kernel_rfl) (by kernel_rfl)) ?_
      exact kN [2, 4, 5, 59]
     ·have h145 := condF hb143 h142
      refine kC 1 [1,2,4,5,6,7,8,25,29,30] ?_
      obtain ⟨y146, hy147, h148⟩ := bindS h145
      refine RJ.call0 (d := (some 31)) (f := 15) (args := [.agg (encSt23 y7.1)]) (v := .str y146) (tr2 := []) (by kernel_rfl) (by kernel_rfl) (.cons (Le.refl _) .nil) (dec_Text_ok hy147) (by kernel_rfl) ?_
      refine kC 4 [1,2,4,5,6,7,8,25,35] ?_
      refine RJ.caseB 35 (b := (y146 != x1)) (by kernel_rfl) (fun hb149 => ?_) (fun hb149 => ?_)
      ·have h150 := condT hb149 h148
       refine kC 24 [2,4,5,59] ?_
       refine kE ?_
       obtain rfl := oi h150
       refine PJ.wk (Wk.sel (L2 := [(2, .ptr 0 0), (4, .bool false), (5, .bool y1), (59, .bool true)]) (H2 := [.box (encSt23 x0)]) 0 (by rw [hFH]; rfl) hFD [0] (by kernel_rfl) (by kernel_rfl) (by decide) (by kernel_rfl) (by kernel_rfl) (by kernel_rfl) (by kernel_rfl)) ?_
       exact kN [2, 4, 5, 59]
      ·have h151 := condF hb149 h148
       refine kC 5 [1,2,4,5,6,7,8,40] ?_
       refine RJ.caseB 40 (b := (decide (¬ y7.2.1 = 0))) (by kernel_rfl) (fun hb152 => ?_) (fun hb152 => ?_)
       ·have h153 := condT hb152 h151
        refine RJ.seg 19 [2, 4, 5, 59] (L2 := [(2, .ptr 0 0), (4, .bool false), (5, .bool y1), (59, .bool true)]) (H2 := [.box (encSt23 x0), .box (encSt23 y7.1)]) (by kernel_rfl) ?_
        refine kE ?_
        obtain rfl := oi h153
        refine PJ.wk (Wk.sel (L2 := [(2, .ptr 0 0), (4, .bool false), (5, .bool y1), (59, .bool true)]) (H2 := [.box (encSt23 x0)]) 0 (by rw [hFH]; rfl) hFD [0] (by kernel_rfl) (by kernel_rfl) (by decide) (by kernel_rfl) (by kernel_rfl) (by kernel_rfl) (by kernel_rfl)) ?_
        exact kN [2, 4, 5, 59]
       ·have h154 := condF hb152 h151
        refine RJ.seg 3 [1, 2, 4, 5, 6, 7, 40, 43] (L2 := [(1, .str x1), (2, .ptr 0 0), (4, .bool false), (5, .bool y1), (6, .ptr 1 0), (7, .int .i64 y7.2.1), (40, .bool false), (43, .bool (decide (¬ y7.2.2 = 0)))]) (H2 := [.box (encSt23 x0), .box (encSt23 y7.1)]) (by kernel_rfl) ?_
        refine RJ.caseB 43 (b := (decide (¬ y7.2.2 = 0))) (by kernel_rfl) (fun hb155 => ?_) (fun hb155 => ?_)
        ·have h156 := condT hb155 h154
         refine kC 3 [1,2,4,5,6,7,40,43,46] ?_
         refine RJ.caseB 46 (b := (decide (y7.2.1 < 0))) (by kernel_rfl) (fun hb158 => ?_) (fun hb158 => ?_)
         ·have h159 := condT hb158 h156
          refine kC 13 [2,4,5,59] ?_
          refine kE ?_
          obtain rfl := oi h159
          refine PJ.wk (Wk.sel (L2 := [(2, .ptr 0 0), (4, .bool false), (5, .bool y1), (59, .bool true)]) (H2 := [.box (encSt23 x0)]) 0 (by rw [hFH]; rfl) hFD [0] (by kernel_rfl) (by kernel_rfl) (by decide) (by kernel_rfl) (by kernel_rfl) (by kernel_rfl) (by kernel_rfl)) ?_
          exact kN [2, 4, 5, 59]
         ·have h160 := condF hb158 h156
          refine kC 6 [2,4,5,6,40,43,52] ?_
          refine RJ.caseB 52 (b := (decide (y7.2.1 > (x1.length : Int)))) (by kernel_rfl) (fun hb161 => ?_) (fun hb161 => ?_)
          ·have h162 := condT hb161 h160
           refine kC 7 [2,4,5,59] ?_
           refine kE ?_
           obtain rfl := oi h162
           refine PJ.wk (Wk.sel (L2 := [(2, .ptr 0 0), (4, .bool false), (5, .bool y1), (59, .bool true)]) (H2 := [.box (encSt23 x0)]) 0 (by rw [hFH]; rfl) hFD [0] (by kernel_rfl) (by kernel_rfl) (by decide) (by kernel_rfl) (by kernel_rfl) (by kernel_rfl) (by kernel_rfl)) ?_
           exact kN [2, 4, 5, 59]
          ·have h163 := condF hb161 h160
           refine kC 7 [2,4,5,59] ?_
           refine kE ?_
           obtain rfl := oi h163
           refine PJ.wk (Wk.sel (L2 := [(2, .ptr 0 0), (4, .bool false), (5, .bool y1), (59, .bool ((decide ((y7.1.D_.length : Int) > 0))))]) (H2 := [.box (encSt23 x0)]) 0 (by rw [hFH]; rfl) hFD [0] (by kernel_rfl) (by kernel_rfl) (by decide) (by kernel_rfl) (by kernel_rfl) (by kernel_rfl) (by kernel_rfl)) ?_
           exact kN [2, 4, 5, 59]
        ·have h157 := condF hb155 h154
         refine kC 16 [2,4,5,59] ?_
         refine kE ?_
         obtain rfl := oi h157
         refine PJ.wk (Wk.sel (L2 := [(2, .ptr 0 0), (4, .bool false), (5, .bool y1), (59, .bool false)]) (H2 := [.box (encSt23 x0)]) 0 (by rw [hFH]; rfl) hFD [0] (by kernel_rfl) (by kernel_rfl) (by decide) (by kernel_rfl) (by kernel_rfl) (by kernel_rfl) (by kernel_rfl)) ?_
         exact kN [2, 4, 5, 59]
    ·have h139 := condF hb137 hy134
     refine kC 18 [1,2,4,5,6,7,40,43] ?_
     refine RJ.caseB 43 (b := (decide (¬ y7.2.2 = 0))) (by kernel_rfl) (fun hb164 => ?_) (fun hb164 => ?_)
     ·have h165 := condT hb164 h139
      refine RJ.seg 3 [1, 2, 4, 5, 6, 7, 40, 43, 46] (L2 := [(1, .str x1), (2, .ptr 0 0), (4, .bool false), (5, .bool y1), (6, .ptr 1 0), (7, .int .i64 y7.2.1), (40, .bool false), (43, .bool true), (46, .bool (decide (y7.2.1 < 0)))]) (H2 := [.box (encSt23 x0), .box (encSt23 y7.1)]) (by kernel_rfl) ?_
      refine RJ.caseB 46 (b := (decide (y7.2.1 < 0))) (by kernel_rfl) (fun hb167 => ?_) (fun hb167 => ?_)
      ·have h168 := condT hb167 h165
       refine kC 13 [2,4,5,59] ?_
       refine kE ?_
       obtain rfl := oi h168
       refine PJ.wk (Wk.sel (L2 := [(2, .ptr 0 0), (4, .bool false), (5, .bool y1), (59, .bool true)]) (H2 := [.box (encSt23 x0)]) 0 (by rw [hFH]; rfl) hFD [0] (by kernel_rfl) (by kernel_rfl) (by decide) (by kernel_rfl) (by kernel_rfl) (by kernel_rfl) (by kernel_rfl)) ?_
       exact kN [2, 4, 5, 59]
      ·have h169 := condF hb167 h165
       refine kC 6 [2,4,5,6,40,43,52] ?_
       refine RJ.caseB 52 (b := (decide (y7.2.1 > (x1.length : Int)))) (by kernel_rfl) (fun hb170 => ?_) (fun hb170 => ?_)
       ·have h171 := condT hb170 h169
        refine kC 7 [2,4,5,59] ?_
        refine kE ?_
        obtain rfl := oi h171
        refine PJ.wk (Wk.sel (L2 := [(2, .ptr 0 0), (4, .bool false), (5, .bool y1), (59, .bool true)]) (H2 := [.box (encSt23 x0)]) 0 (by rw [hFH]; rfl) hFD [0] (by kernel_rfl) (by kernel_rfl) (by decide) (by kernel_rfl) (by kernel_rfl) (by kernel_rfl) (by kernel_rfl)) ?_
        exact kN [2, 4, 5, 59]
       ·have h172 := condF hb170 h169
        refine kC 7 [2,4,5,59] ?_
        refine kE ?_
        obtain rfl := oi h172
        refine PJ.wk (Wk.sel (L2 := [(2, .ptr 0 0), (4, .bool false), (5, .bool y1), (59, .bool ((decide ((y7.1.D_.length : Int) > 0))))]) (H2 := [.box (encSt23 x0)]) 0 (by rw [hFH]; rfl) hFD [0] (by kernel_rfl) (by kernel_rfl) (by decide) (by kernel_rfl) (by kernel_rfl) (by kernel_rfl) (by kernel_rfl)) ?_
        exact kN [2, 4, 5, 59]
     ·have h166 := condF hb164 h139
      refine RJ.seg 16 [2, 4, 5, 59] (L2 := [(2, .ptr 0 0), (4, .bool false), (5, .bool y1), (59, .bool false)]) (H2 := [.box (encSt23 x0), .box (encSt23 y7.1)]) (by kernel_rfl) ?_
      refine kE ?_
      obtain rfl := oi h166
      refine PJ.wk (Wk.sel (L2 := [(2, .ptr 0 0), (4, .bool false), (5, .bool y1), (59, .bool false)]) (H2 := [.box (encSt23 x0)]) 0 (by rw [hFH]; rfl) hFD [0] (by kernel_rfl) (by kernel_rfl) (by decide) (by kernel_rfl) (by kernel_rfl) (by kernel_rfl) (by kernel_rfl)) ?_
      exact kN [2, 4, 5, 59]
   ·refine J.caseB 59 (b := s132) (by kernel_rfl) (fun hb173 => ?_) (fun hb173 => ?_)
    ·have h174 := condT hb173 h136
     refine kT ?_
     refine kSR ?_
     refine kC 1 [2,4,5] ?_
     refine kEN ?_
     refine kX ?_
     obtain rfl := oi h174
     have h176 := joinX_inr h94
     refine PJ.cutXr (fun e => nomatch e) ?_
     obtain rfl := oi h176
     exact kZ hFn hFH hFD
    ·have h175 := condF hb173 h136
     refine kF ?_
     refine kK ?_
     obtain rfl := oi h175
     exact PJ.cutXl [2, 4, 5] (by kernel_rfl) (by kernel_rfl)
  ·subst hs
   have h95 := joinX_inl h94
   refine kS ?_
   refine kSR ?_
   refine kC 1 [2,4,5,60] ?_
   obtain ⟨y177, hy178, h179⟩ := bindS h95
   refine RJ.call0 (d := (some 61)) (f := 14) (args := [.agg (encSt23 x0)]) (v := .bool y177) (tr2 := []) (by kernel_rfl) (by kernel_rfl) (.cons (Le.refl _) .nil) (exergueref05_Right_ok hy178) (by kernel_rfl) ?_
   refine kC 1 [2,4,5,62] ?_
   refine kEN ?_
   refine J.caseB 62 (b := (!y177)) (by kernel_rfl) (fun hb180 => ?_) (fun hb180 => ?_)
   ·have h181 := condT hb180 h179
    refine kT ?_
    refine kSR ?_
    refine kC 2 [2,4,5] ?_
    refine kEN ?_
    refine kX ?_
    refine PJ.passRet ?_
    obtain rfl := oi h181
    exact kZ hFn hFH hFD
   ·have h182 := condF hb180 h179
    refine kF ?_
    refine kK ?_
    refine PJ.next ?_
    refine kSR ?_
    refine kC 1 [2,4,5,65] ?_
    obtain ⟨y183, hy184, h185⟩ := bindS h182
    refine RJ.call0 (d := (some 66)) (f := 15) (args := [.agg (encSt23 x0)]) (v := .str y183) (tr2 := []) (by kernel_rfl) (by kernel_rfl) (.cons (Le.refl _) .nil) (dec_Text_ok hy184) (by kernel_rfl) ?_
    obtain ⟨y186, hy187, h188⟩ := bindS h185
    refine RJ.call0 (d := (some 67)) (f := 11) (args := [.str y183]) (v := .tup [.agg (encSt23 y186.1), .int .i64 y186.2.1, .int .i64 y186.2.2]) (tr2 := []) (by kernel_rfl) (by kernel_rfl) (.cons (Le.refl _) .nil) (dec_Read_ok hy187) (by kernel_rfl) ?_
    refine RJ.seg 8 [2, 4, 5, 9, 11] (L2 := [(2, .ptr 0 0), (4, .bool false), (5, .bool y1), (9, .ptr 1 0), (11, .int .i64 y186.2.2)]) (H2 := [.box (encSt23 x0), .box (encSt23 y186.1)]) (by kernel_rfl) ?_
    refine kEN ?_
    obtain ⟨s198, hy200, h202⟩ := bindS h188
    refine K.cutN (by kernel_rfl) (fun (s198 : Bool) => ([(4, .bool s198)], [])) s198 ?_ ?_
    ·refine kR ?_
     refine kC 2 [2,4,9,11,72] ?_
     refine RJ.caseB 72 (b := y1) (by kernel_rfl) (fun hb203 => ?_) (fun hb203 => ?_)
     ·have h204 := condT hb203 hy200
      refine kC 4 [2,4,9,76] ?_
      refine RJ.caseB 76 (b := (decide (y186.2.2 = 0))) (by kernel_rfl) (fun hb206 => ?_) (fun hb206 => ?_)
      ·have h207 := condT hb206 h204
       refine kC 2 [4,76,77,78] ?_
       obtain ⟨y209, hy210, h211⟩ := bindS h207
       refine RJ.call0 (d := (some 79)) (f := 13) (args := [.agg (encSt23 x0), .agg (encSt23 y186.1)]) (v := .bool y209) (tr2 := []) (by kernel_rfl) (by kernel_rfl) (.cons (Le.refl _) (.cons (Le.refl _) .nil)) (exergueref05_Same_ok hy210) (by kernel_rfl) ?_
       refine RJ.seg 2 [4] (L2 := [(4, .bool y209)]) (H2 := [.box (encSt23 x0), .box (encSt23 y186.1)]) (by kernel_rfl) ?_
       refine kE ?_
       obtain rfl := oi h211
       refine PJ.wk (Wk.sel (L2 := [(4, .bool y209)]) (H2 := []) 0 (by rw [hFH]; rfl) hFD [] (by kernel_rfl) (by kernel_rfl) (by decide) (by kernel_rfl) (by kernel_rfl) (by kernel_rfl) (by kernel_rfl)) ?_
       exact kN [4]
      ·have h208 := condF hb206 h204
       refine kC 5 [4] ?_
       refine kE ?_
       obtain rfl := oi h208
       refine PJ.wk (Wk.sel (L2 := [(4, .bool false)]) (H2 := []) 0 (by rw [hFH]; rfl) hFD [] (by kernel_rfl) (by kernel_rfl) (by decide) (by kernel_rfl) (by kernel_rfl) (by kernel_rfl) (by kernel_rfl)) ?_
       exact kN [4]
     ·have h205 := condF hb203 hy200
      refine kC 9 [4] ?_
      refine kE ?_
      obtain rfl := oi h205
      refine PJ.wk (Wk.sel (L2 := [(4, .bool false)]) (H2 := []) 0 (by rw [hFH]; rfl) hFD [] (by kernel_rfl) (by kernel_rfl) (by decide) (by kernel_rfl) (by kernel_rfl) (by kernel_rfl) (by kernel_rfl)) ?_
      exact kN [4]
    ·refine kX ?_
     obtain rfl := oi h202
     exact kZ hFn hFH hFD

end Go.Proofs.YtcldeecdhdcjdaaDoor
