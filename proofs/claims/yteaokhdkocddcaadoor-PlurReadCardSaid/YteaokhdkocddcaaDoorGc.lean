/-
  What the functions of this program come to, as functions of natives, each with the proof that it does. No conditions.
-/
import Derived.Test.YteaokhdkocddcaaDoorProg
import Derived.Test.YteaokhdkocddcaaDoorSySL
import Derived.Test.YteaokhdkocddcaaDoorGb
namespace Go.Proofs.YteaokhdkocddcaaDoor
open Go Go.Sy Go.RowKit
set_option linter.unusedVariables false
set_option linter.unusedSimpArgs false
set_option maxRecDepth 100000
set_option maxHeartbeats 4000000
def exergueref07_Figures (x0 : List Int) : Option (Bool) :=
 (Option.bind (loopN (fun (s45 : Int) => (bif (decide (s45 < (x0.length : Int))) then (bif inR s45 x0.length then (bif (decide ((nth x0 s45) > 9)) then (some (.inr (.inr false))) else (some (.inl (IntKind.wrap .i64 (s45 + 1))))) else none) else (some (.inr (.inl ()))))) big 0) (joinX fun (s40 : Unit) => (some true)))
theorem exergueref07_Figures_ok {x0 : List Int} {r : Bool} (h : exergueref07_Figures x0 = some r) : SC Tryd.prog 26 [lsv (encI .u8) 1 x0] [] (.bool r) [] := by
 refine kFn (fn := Tryd.f26) (fun F hFn hFH hFD => ?_)
 unfold exergueref07_Figures at h
 refine kSR ?_
 refine kC 1 [0,2] ?_
 refine kEN ?_
 obtain ⟨y41, hy42, h43⟩ := bindS h
 refine K.cutX (by kernel_rfl) (fun (s40 : Unit) => ([(2, .bool false)], [])) y41 ?_ (fun s40 hs => ?_)
 ·refine kSR ?_
  refine kC 1 [0,2,3] ?_
  refine kEN ?_
  refine K.block 0 (by kernel_rfl) ?_
  refine K.loop (by kernel_rfl) (fun (s45 : Int) => ([(0, lsv (encI .u8) 1 x0), (2, .bool false), (3, .int .i64 s45)], [])) hy42 [0, 2, 3] (by kernel_rfl) (by kernel_rfl) (fun s45 x71 hs70 => ?_)
  refine kS ?_
  refine kSR ?_
  refine kC 4 [0,2,3,7] ?_
  refine kEN ?_
  refine J.caseB 7 (b := (decide (s45 < (x0.length : Int)))) (by kernel_rfl) (fun hb72 => ?_) (fun hb72 => ?_)
  ·have h73 := condT hb72 hs70
   refine kT ?_
   refine kK ?_
   refine PJ.next ?_
   refine kS ?_
   refine K.block 1 (by kernel_rfl) ?_
   refine kSR ?_
   refine kC 2 [0,2,3,10,11] ?_
   obtain ⟨hm, h75⟩ := asrt h73
   refine RJ.rel (d := (some 12)) (ef := ⟨.ep (((x0.flatMap (encI .u8)).drop ((s45 : Int).toNat * 1)).take 1), [], []⟩) (ef' := ⟨.ep ((encI .u8) (nth x0 s45)), [], []⟩) (c := inR s45 x0.length) (tr2 := []) (H2 := []) (by kernel_rfl) hm (fun hc => N.idx (encI_len .u8) hc) (by kernel_rfl) ?_
   refine kC 2 [0,2,3,14] ?_
   refine kEN ?_
   refine J.caseB 14 (b := (decide ((nth x0 s45) > 9))) (by kernel_rfl) (fun hb76 => ?_) (fun hb76 => ?_)
   ·have h77 := condT hb76 h75
    refine kT ?_
    refine kSR ?_
    refine RJ.seg 1 [0, 2, 3] (L2 := [(0, lsv (encI .u8) 1 x0), (2, .bool false), (3, .int .i64 s45)]) (H2 := []) (by kernel_rfl) ?_
    refine kEN ?_
    refine kX ?_
    refine PJ.blockRet ?_
    refine PJ.passRet ?_
    obtain rfl := oi h77
    refine PJ.loopOut (fun e => nomatch e) (fun he81 => ?_)
    have h79 := congrArg some he81
    refine PJ.blockRet ?_
    obtain rfl := oi h79
    have h80 := joinX_inr h43
    refine PJ.cutXr (fun e => nomatch e) ?_
    obtain rfl := oi h80
    exact kZ hFn hFH hFD
   ·have h78 := condF hb76 h75
    refine kF ?_
    refine kK ?_
    refine PJ.blockNormal ?_
    refine PJ.next ?_
    refine kR ?_
    refine RJ.seg 3 [0, 2, 3] (L2 := [(0, lsv (encI .u8) 1 x0), (2, .bool false), (3, .int .i64 (IntKind.wrap .i64 (s45 + 1)))]) (H2 := []) (by kernel_rfl) ?_
    refine kE ?_
    obtain rfl := oi h78
    exact PJ.loopNext [0, 2, 3] (by kernel_rfl) (by kernel_rfl)
  ·have h74 := condF hb72 hs70
   refine kF ?_
   refine K.exit 0 (by kernel_rfl) ?_
   refine PJ.passExit ?_
   obtain rfl := oi h74
   refine PJ.loopOut (fun e => nomatch e) (fun he83 => ?_)
   have h82 := congrArg some he83
   refine PJ.blockOut ?_
   obtain rfl := oi h82
   exact PJ.cutXl [2] (by kernel_rfl) (by kernel_rfl)
 ·subst hs
  have h44 := joinX_inl h43
  refine kSR ?_
  refine kC 1 [2] ?_
  refine kEN ?_
  refine kX ?_
  obtain rfl := oi h44
  exact kZ hFn hFH hFD
def exergueref07_Full (x0 : List Int) : Option (Int) :=
 (Option.bind (loopN (fun (s63 : Int × Int) => (bif (decide (s63.2 < (x0.length : Int))) then (Option.bind (bif inR s63.2 x0.length then (bif (decide (¬ (nth x0 s63.2) = 0)) then (some (IntKind.wrap .i64 (s63.2 + 1))) else (some s63.1)) else none) fun (s109 : Int) => (some (.inl (s109, (IntKind.wrap .i64 (s63.2 + 1)))))) else (some (.inr s63.1)))) big (0, 0)) fun (s58 : Int) => (some s58))
theorem exergueref07_Full_ok {x0 : List Int} {r : Int} (h : exergueref07_Full x0 = some r) : SC Tryd.prog 27 [lsv (encI .u8) 1 x0] [] (.int .i64 r) [] := by
 refine kFn (fn := Tryd.f27) (fun F hFn hFH hFD => ?_)
 unfold exergueref07_Full at h
 refine kSR ?_
 refine kC 1 [0,2] ?_
 refine kEN ?_
 refine kSR ?_
 refine kC 1 [0,2,3] ?_
 refine kEN ?_
 obtain ⟨s58, hy60, h62⟩ := bindS h
 refine K.cutN (by kernel_rfl) (fun (s58 : Int) => ([(2, .int .i64 0), (3, .int .i64 s58)], [])) s58 ?_ ?_
 ·refine kSR ?_
  refine kC 1 [0,2,3,4] ?_
  refine kEN ?_
  refine K.block 0 (by kernel_rfl) ?_
  refine K.loop (by kernel_rfl) (fun (s63 : Int × Int) => ([(0, lsv (encI .u8) 1 x0), (2, .int .i64 0), (3, .int .i64 s63.1), (4, .int .i64 s63.2)], [])) hy60 [0, 2, 3, 4] (by kernel_rfl) (by kernel_rfl) (fun s63 x101 hs100 => ?_)
  refine kS ?_
  refine kSR ?_
  refine kC 4 [0,2,3,4,8] ?_
  refine kEN ?_
  refine J.caseB 8 (b := (decide (s63.2 < (x0.length : Int)))) (by kernel_rfl) (fun hb102 => ?_) (fun hb102 => ?_)
  ·have h103 := condT hb102 hs100
   refine kT ?_
   refine kK ?_
   refine PJ.next ?_
   obtain ⟨s109, hy111, h113⟩ := bindS h103
   refine K.cutN (by kernel_rfl) (fun (s109 : Int) => ([(0, lsv (encI .u8) 1 x0), (2, .int .i64 0), (3, .int .i64 s109), (4, .int .i64 s63.2)], [])) s109 ?_ ?_
   ·refine K.block 1 (by kernel_rfl) ?_
    refine kSR ?_
    refine kC 2 [0,2,3,4,11,12] ?_
    obtain ⟨hm, h114⟩ := asrt hy111
    refine RJ.rel (d := (some 13)) (ef := ⟨.ep (((x0.flatMap (encI .u8)).drop ((s63.2 : Int).toNat * 1)).take 1), [], []⟩) (ef' := ⟨.ep ((encI .u8) (nth x0 s63.2)), [], []⟩) (c := inR s63.2 x0.length) (tr2 := []) (H2 := []) (by kernel_rfl) hm (fun hc => N.idx (encI_len .u8) hc) (by kernel_rfl) ?_
    refine kC 2 [0,2,3,4,15] ?_
    refine kEN ?_
    refine J.caseB 15 (b := (decide (¬ (nth x0 s63.2) = 0))) (by kernel_rfl) (fun hb115 => ?_) (fun hb115 => ?_)
    ·have h116 := condT hb115 h114
     refine kT ?_
     refine kR ?_
     refine RJ.seg 3 [0, 2, 3, 4] (L2 := [(0, lsv (encI .u8) 1 x0), (2, .int .i64 0), (3, .int .i64 (IntKind.wrap .i64 (s63.2 + 1))), (4, .int .i64 s63.2)]) (H2 := []) (by kernel_rfl) ?_
     refine kE ?_
     refine PJ.blockNormal ?_
     obtain rfl := oi h116
     exact kN [0, 2, 3, 4]
    ·have h117 := condF hb115 h114
     refine kF ?_
     refine kK ?_
     refine PJ.blockNormal ?_
     obtain rfl := oi h117
     exact kN [0, 2, 3, 4]
   ·refine kR ?_
    refine kC 3 [0,2,3,4] ?_
    refine kE ?_
    obtain rfl := oi h113
    exact PJ.loopNext [0, 2, 3, 4] (by kernel_rfl) (by kernel_rfl)
  ·have h104 := condF hb102 hs100
   refine kF ?_
   refine K.exit 0 (by kernel_rfl) ?_
   refine PJ.passExit ?_
   obtain rfl := oi h104
   refine PJ.loopOut (fun e => nomatch e) (fun he119 => ?_)
   have h118 := congrArg some he119
   refine PJ.blockOut ?_
   obtain rfl := oi h118
   exact kN [2, 3]
 ·refine kSR ?_
  refine kC 2 [2] ?_
  refine kEN ?_
  refine kX ?_
  obtain rfl := oi h62
  exact kZ hFn hFH hFD
def exergueref07_Right (x0 : St41) : Option (Bool) :=
 (Option.bind (exergueref07_Figures x0.I_) fun y1 => (Option.bind (exergueref07_Figures x0.F_) fun y4 => (Option.bind (Option.bind (bif (!y1) then (some true) else (bif (!y4) then (some true) else (bif (decide ((x0.I_.length : Int) > 0)) then (bif inR 0 x0.I_.length then (some ((decide ((nth x0.I_ 0) = 0)))) else none) else (some false)))) fun (s51 : Bool) => (bif s51 then (some (.inr false)) else (some (.inl ())))) (joinX fun (s36 : Unit) => (Option.bind (Option.bind (exergueref07_Full x0.F_) fun y84 => (bif (decide (x0.W_ = y84)) then (bif (decide (x0.C_ ≥ 0)) then (some (decide (x0.C_ ≤ 1000))) else (some false)) else (some false))) fun (s79 : Bool) => (some s79))))))
theorem exergueref07_Right_ok {x0 : St41} {r : Bool} (h : exergueref07_Right x0 = some r) : SC Tryd.prog 14 [.agg (encSt41 x0)] [] (.bool r) [] := by
 refine kFn (fn := Tryd.f14) (fun F hFn hFH hFD => ?_)
 unfold exergueref07_Right at h
 refine kSR ?_
 refine kC 2 [1,2] ?_
 refine kEN ?_
 refine kSR ?_
 refine kC 2 [1,2,6] ?_
 obtain ⟨y1, hy2, h3⟩ := bindS h
 refine RJ.call0 (d := (some 7)) (f := 26) (args := [lsv (encI .u8) 1 x0.I_]) (v := .bool y1) (tr2 := []) (by kernel_rfl) (by kernel_rfl) (.cons (Le.refl _) .nil) (exergueref07_Figures_ok hy2) (by kernel_rfl) ?_
 refine kC 1 [1,2,3] ?_
 refine kEN ?_
 refine kSR ?_
 refine RJ.seg 2 [1, 2, 3, 9] (L2 := [(1, .ptr 0 0), (2, .bool false), (3, .bool y1), (9, lsv (encI .u8) 1 x0.F_)]) (H2 := [.box (encSt41 x0)]) (by kernel_rfl) ?_
 obtain ⟨y4, hy5, h6⟩ := bindS h3
 refine RJ.call0 (d := (some 10)) (f := 26) (args := [lsv (encI .u8) 1 x0.F_]) (v := .bool y4) (tr2 := []) (by kernel_rfl) (by kernel_rfl) (.cons (Le.refl _) .nil) (exergueref07_Figures_ok hy5) (by kernel_rfl) ?_
 refine kC 1 [1,2,3,4] ?_
 refine kEN ?_
 obtain ⟨y37, hy38, h39⟩ := bindS h6
 refine K.cutX (by kernel_rfl) (fun (s36 : Unit) => ([(1, .ptr 0 0), (2, .bool false)], [.box (encSt41 x0)])) y37 ?_ (fun s36 hs => ?_)
 ·obtain ⟨s51, hy53, h55⟩ := bindS hy38
  refine K.cutN (by kernel_rfl) (fun (s51 : Bool) => ([(1, .ptr 0 0), (2, .bool false), (29, .bool s51)], [.box (encSt41 x0)])) s51 ?_ ?_
  ·refine kR ?_
   refine kC 3 [1,2,4,13] ?_
   refine RJ.caseB 13 (b := (!y1)) (by kernel_rfl) (fun hb56 => ?_) (fun hb56 => ?_)
   ·have h57 := condT hb56 hy53
    refine kC 16 [1,2,29] ?_
    refine kE ?_
    obtain rfl := oi h57
    exact kN [1, 2, 29]
   ·have h58 := condF hb56 hy53
    refine kC 4 [1,2,17] ?_
    refine RJ.caseB 17 (b := (!y4)) (by kernel_rfl) (fun hb59 => ?_) (fun hb59 => ?_)
    ·have h60 := condT hb59 h58
     refine RJ.seg 12 [1, 2, 29] (L2 := [(1, .ptr 0 0), (2, .bool false), (29, .bool true)]) (H2 := [.box (encSt41 x0)]) (by kernel_rfl) ?_
     refine kE ?_
     obtain rfl := oi h60
     exact kN [1, 2, 29]
    ·have h61 := condF hb59 h58
     refine RJ.seg 5 [1, 2, 17, 22] (L2 := [(1, .ptr 0 0), (2, .bool false), (17, .bool false), (22, .bool ((decide ((x0.I_.length : Int) > 0))))]) (H2 := [.box (encSt41 x0)]) (by kernel_rfl) ?_
     refine RJ.caseB 22 (b := (decide ((x0.I_.length : Int) > 0))) (by kernel_rfl) (fun hb62 => ?_) (fun hb62 => ?_)
     ·have h63 := condT hb62 h61
      refine kC 2 [1,2,17,22,24] ?_
      obtain ⟨hm, h65⟩ := asrt h63
      refine RJ.rel (d := (some 25)) (ef := ⟨.ep (((x0.I_.flatMap (encI .u8)).drop ((0 : Int).toNat * 1)).take 1), [], []⟩) (ef' := ⟨.ep ((encI .u8) (nth x0.I_ 0)), [], []⟩) (c := inR 0 x0.I_.length) (tr2 := []) (H2 := [.box (encSt41 x0)]) (by kernel_rfl) hm (fun hc => N.idx (encI_len .u8) hc) (by kernel_rfl) ?_
      refine kC 4 [1,2,29] ?_
      refine kE ?_
      obtain rfl := oi h65
      exact kN [1, 2, 29]
     ·have h64 := condF hb62 h61
      refine kC 7 [1,2,29] ?_
      refine kE ?_
      obtain rfl := oi h64
      exact kN [1, 2, 29]
  ·refine J.caseB 29 (b := s51) (by kernel_rfl) (fun hb66 => ?_) (fun hb66 => ?_)
   ·have h67 := condT hb66 h55
    refine kT ?_
    refine kSR ?_
    refine kC 1 [1,2] ?_
    refine kEN ?_
    refine kX ?_
    obtain rfl := oi h67
    have h69 := joinX_inr h39
    refine PJ.cutXr (fun e => nomatch e) ?_
    obtain rfl := oi h69
    exact kZ hFn hFH hFD
   ·have h68 := condF hb66 h55
    refine kF ?_
    refine kK ?_
    obtain rfl := oi h68
    exact PJ.cutXl [1, 2] (by kernel_rfl) (by kernel_rfl)
 ·subst hs
  have h40 := joinX_inl h39
  obtain ⟨s79, hy81, h83⟩ := bindS h40
  refine K.cutN (by kernel_rfl) (fun (s79 : Bool) => ([(2, .bool s79)], [])) s79 ?_ ?_
  ·refine J.keep [1, 2] (L2 := [(1, .ptr 0 0), (2, .bool false)]) (by kernel_rfl) ?_
   refine K.draw (by kernel_rfl) (by kernel_rfl) (by kernel_rfl) (H2 := [.box (encSt41 x0), .res]) (by kernel_rfl) (n := 1) (by kernel_rfl) ?_
   refine kD 4 ?_
   obtain ⟨y84, hy85, h86⟩ := bindS hy81
   refine RJ.call0 (d := (some 34)) (f := 27) (args := [lsv (encI .u8) 1 x0.F_]) (v := .int .i64 y84) (tr2 := [([], []), ([0, 1], []), ([], []), ([0, 1], []), ([], [2, 3])]) (by kernel_rfl) (by kernel_rfl) (.cons (Le.refl _) .nil) (exergueref07_Full_ok hy85) (by kernel_rfl) ?_
   refine kD 2 ?_
   refine RJ.caseB 36 (b := (decide (x0.W_ = y84))) (by kernel_rfl) (fun hb87 => ?_) (fun hb87 => ?_)
   ·have h88 := condT hb87 h86
    refine kD 5 ?_
    refine RJ.caseB 41 (b := (decide (x0.C_ ≥ 0))) (by kernel_rfl) (fun hb90 => ?_) (fun hb90 => ?_)
    ·have h91 := condT hb90 h88
     refine RJ.segD 5 (tr2 := [([], []), ([0, 1], []), ([], []), ([0, 1], []), ([], [2, 3]), ([], []), ([], []), ([], []), ([0, 1], []), ([], []), ([], []), ([], []), ([], []), ([0, 1], []), ([], []), ([], []), ([], [])]) (L2 := [(2, .bool (decide (x0.C_ ≤ 1000))), (45, .bool (decide (x0.C_ ≤ 1000))), (44, .bool (decide (x0.C_ ≤ 1000))), (43, .int .i64 x0.C_), (42, .ptr 0 3), (41, .bool true), (41, .bool (decide (x0.C_ ≥ 0))), (40, .bool (decide (x0.C_ ≥ 0))), (39, .bool (decide (x0.C_ ≥ 0))), (38, .int .i64 x0.C_), (37, .ptr 0 3), (36, .bool true), (36, .bool (decide (x0.W_ = y84))), (35, .bool (decide (x0.W_ = y84))), (34, .int .i64 y84), (33, lsv (encI .u8) 1 x0.F_), (32, .ptr 0 1), (31, .int .i64 x0.W_), (30, .ptr 0 2), (1, .ptr 0 0), (2, .bool false)]) (H2 := [.box (encSt41 x0), .res]) (by kernel_rfl) ?_
     refine kE ?_
     obtain rfl := oi h91
     refine PJ.wk (Wk.sel (L2 := [(2, .bool (decide (x0.C_ ≤ 1000)))]) (H2 := []) 0 (by rw [hFH]; rfl) hFD [] (by kernel_rfl) (by kernel_rfl) (by decide) (by kernel_rfl) (by kernel_rfl) (by kernel_rfl) (by kernel_rfl)) ?_
     exact kN [2]
    ·have h92 := condF hb90 h88
     refine RJ.segD 5 (tr2 := [([], []), ([0, 1], []), ([], []), ([0, 1], []), ([], [2, 3]), ([], []), ([], []), ([], []), ([0, 1], []), ([], []), ([], []), ([], []), ([], []), ([], []), ([], []), ([], []), ([], [])]) (L2 := [(2, .bool false), (45, .bool false), (44, .tup []), (43, .tup []), (42, .tup []), (41, .bool false), (41, .bool (decide (x0.C_ ≥ 0))), (40, .bool (decide (x0.C_ ≥ 0))), (39, .bool (decide (x0.C_ ≥ 0))), (38, .int .i64 x0.C_), (37, .ptr 0 3), (36, .bool true), (36, .bool (decide (x0.W_ = y84))), (35, .bool (decide (x0.W_ = y84))), (34, .int .i64 y84), (33, lsv (encI .u8) 1 x0.F_), (32, .ptr 0 1), (31, .int .i64 x0.W_), (30, .ptr 0 2), (1, .ptr 0 0), (2, .bool false)]) (H2 := [.box (encSt41 x0), .res]) (by kernel_rfl) ?_
     refine kE ?_
     obtain rfl := oi h92
     refine PJ.wk (Wk.sel (L2 := [(2, .bool false)]) (H2 := []) 0 (by rw [hFH]; rfl) hFD [] (by kernel_rfl) (by kernel_rfl) (by decide) (by kernel_rfl) (by kernel_rfl) (by kernel_rfl) (by kernel_rfl)) ?_
     exact kN [2]
   ·have h89 := condF hb87 h86
    refine kD 10 ?_
    refine kE ?_
    obtain rfl := oi h89
    refine PJ.wk (Wk.sel (L2 := [(2, .bool false)]) (H2 := []) 0 (by rw [hFH]; rfl) hFD [] (by kernel_rfl) (by kernel_rfl) (by decide) (by kernel_rfl) (by kernel_rfl) (by kernel_rfl) (by kernel_rfl)) ?_
    exact kN [2]
  ·refine kX ?_
   obtain rfl := oi h83
   exact kZ hFn hFH hFD
def exerguelaw12_PlurRead (x0 : List St45) (x1 : St41) : Option (Bool) :=
 (Option.bind exerguelaw12_shown fun y1 => (Option.bind (Option.bind (Option.bind (exerguelaw12_short x0) fun y59 => (bif (!y59) then (some true) else (bif (decide (((IntKind.wrap .i64 ((x1.I_.length : Int) + (x1.F_.length : Int)))) > 1000)) then (some true) else (Option.bind (exergueref07_Right x1) fun y68 => (some (!y68)))))) fun (s54 : Bool) => (bif s54 then (some (.inr y1)) else (some (.inl ())))) (joinX fun (s37 : Unit) => (Option.bind (plur_Read x0) fun y75 => (bif (decide (¬ y75.2.2 = 0)) then (Option.bind (bif y1 then (some ((decide ((y75.1.length : Int) = 0)))) else (some false)) fun (s84 : Bool) => (some s84)) else (bif (decide (¬ (y75.1.length : Int) = (x0.length : Int))) then (some false) else (Option.bind (plur_Of y75.1 x1) fun y95 => (Option.bind (loopN (fun (s214 : Bool × Int) => (bif (decide (s214.2 < (x0.length : Int))) then (Option.bind (bif inR s214.2 y75.1.length then (bif inR s214.2 x0.length then (bif (decide (¬ ((nth y75.1 s214.2).Cat_) = ((nth x0 s214.2).Cat_))) then (some (.inr (.inr (.inr false)))) else (bif s214.1 then (some (.inl true)) else (bif inR s214.2 x0.length then (some (.inl ((decide (((nth x0 s214.2).Cat_) = y95))))) else none))) else none) else none) (joinX fun (s305 : Bool) => (some (.inl (s305, (IntKind.wrap .i64 (s214.2 + 1))))))) else (some (.inr (.inl s214.1))))) big ((decide (y95 = 0)), 0)) (joinX fun (s209 : Bool) => (Option.bind (bif y1 then (some s209) else (some false)) fun (s328 : Bool) => (some s328)))))))))))
theorem exerguelaw12_PlurRead_ok {x0 : List St45} {x1 : St41} {r : Bool} (h : exerguelaw12_PlurRead x0 x1 = some r) : SC Tryd.prog 5 [lsv encSt45 2 x0, .agg (encSt41 x1)] [] (.bool r) [] := by
 refine kFn (fn := Tryd.f5) (fun F hFn hFH hFD => ?_)
 unfold exerguelaw12_PlurRead at h
 refine kSR ?_
 refine kC 2 [0,3,4] ?_
 refine kEN ?_
 refine kSR ?_
 obtain ⟨y1, hy2, h3⟩ := bindS h
 refine RJ.call0 (d := (some 12)) (f := 6) (args := []) (v := .bool y1) (tr2 := []) (by kernel_rfl) (by kernel_rfl) .nil (exerguelaw12_shown_ok hy2) (by kernel_rfl) ?_
 refine kC 1 [0,3,4,5] ?_
 refine kEN ?_
 obtain ⟨y38, hy39, h40⟩ := bindS h3
 refine K.cutX (by kernel_rfl) (fun (s37 : Unit) => ([(0, lsv encSt45 2 x0), (3, .ptr 0 0), (4, .bool false), (5, .bool y1)], [.box (encSt41 x1)])) y38 ?_ (fun s37 hs => ?_)
 ·obtain ⟨s54, hy56, h58⟩ := bindS hy39
  refine K.cutN (by kernel_rfl) (fun (s54 : Bool) => ([(0, lsv encSt45 2 x0), (3, .ptr 0 0), (4, .bool false), (5, .bool y1), (30, .bool s54)], [.box (encSt41 x1)])) s54 ?_ ?_
  ·refine kR ?_
   refine kC 1 [0,3,4,5,13] ?_
   obtain ⟨y59, hy60, h61⟩ := bindS hy56
   refine RJ.call0 (d := (some 14)) (f := 7) (args := [lsv encSt45 2 x0]) (v := .bool y59) (tr2 := []) (by kernel_rfl) (by kernel_rfl) (.cons (Le.refl _) .nil) (exerguelaw12_short_ok hy60) (by kernel_rfl) ?_
   refine RJ.seg 2 [0, 3, 4, 5, 16] (L2 := [(0, lsv encSt45 2 x0), (3, .ptr 0 0), (4, .bool false), (5, .bool y1), (16, .bool (!y59))]) (H2 := [.box (encSt41 x1)]) (by kernel_rfl) ?_
   refine RJ.caseB 16 (b := (!y59)) (by kernel_rfl) (fun hb62 => ?_) (fun hb62 => ?_)
   ·have h63 := condT hb62 h61
    refine kC 14 [0,3,4,5,30] ?_
    refine kE ?_
    obtain rfl := oi h63
    exact kN [0, 3, 4, 5, 30]
   ·have h64 := condF hb62 h61
    refine kC 10 [0,3,4,5,26] ?_
    refine RJ.caseB 26 (b := (decide (((IntKind.wrap .i64 ((x1.I_.length : Int) + (x1.F_.length : Int)))) > 1000))) (by kernel_rfl) (fun hb65 => ?_) (fun hb65 => ?_)
    ·have h66 := condT hb65 h64
     refine kC 4 [0,3,4,5,30] ?_
     refine kE ?_
     obtain rfl := oi h66
     exact kN [0, 3, 4, 5, 30]
    ·have h67 := condF hb65 h64
     refine kC 1 [0,3,4,5,26,27] ?_
     obtain ⟨y68, hy69, h70⟩ := bindS h67
     refine RJ.call0 (d := (some 28)) (f := 14) (args := [.agg (encSt41 x1)]) (v := .bool y68) (tr2 := []) (by kernel_rfl) (by kernel_rfl) (.cons (Le.refl _) .nil) (exergueref07_Right_ok hy69) (by kernel_rfl) ?_
     refine kC 2 [0,3,4,5,30] ?_
     refine kE ?_
     obtain rfl := oi h70
     exact kN [0, 3, 4, 5, 30]
  ·refine J.caseB 30 (b := s54) (by kernel_rfl) (fun hb71 => ?_) (fun hb71 => ?_)
   ·have h72 := condT hb71 h58
    refine kT ?_
    refine kSR ?_
    refine kC 2 [0,3,4,5] ?_
    refine kEN ?_
    refine kX ?_
    obtain rfl := oi h72
    have h74 := joinX_inr h40
    refine PJ.cutXr (fun e => nomatch e) ?_
    obtain rfl := oi h74
    exact kZ hFn hFH hFD
   ·have h73 := condF hb71 h58
    refine kF ?_
    refine kK ?_
    obtain rfl := oi h73
    exact PJ.cutXl [0, 3, 4, 5] (by kernel_rfl) (by kernel_rfl)
 ·subst hs
  have h41 := joinX_inl h40
  refine kSR ?_
  refine kC 1 [0,3,4,5,33] ?_
  obtain ⟨y75, hy76, h77⟩ := bindS h41
  refine RJ.call0 (d := (some 34)) (f := 10) (args := [lsv encSt45 2 x0]) (v := .tup [lsv encSt36 2 y75.1, .int .i64 y75.2.1, .int .i64 y75.2.2]) (tr2 := []) (by kernel_rfl) (by kernel_rfl) (.cons (Le.refl _) .nil) (plur_Read_ok hy76) (by kernel_rfl) ?_
  refine kC 7 [0,3,4,5,6,8] ?_
  refine kEN ?_
  refine kS ?_
  refine kSR ?_
  refine kC 2 [0,3,4,5,6,39] ?_
  refine kEN ?_
  refine J.caseB 39 (b := (decide (¬ y75.2.2 = 0))) (by kernel_rfl) (fun hb78 => ?_) (fun hb78 => ?_)
  ·have h79 := condT hb78 h77
   refine kT ?_
   obtain ⟨s84, hy86, h88⟩ := bindS h79
   refine K.cutN (by kernel_rfl) (fun (s84 : Bool) => ([(0, lsv encSt45 2 x0), (3, .ptr 0 0), (4, .bool s84), (5, .bool y1), (6, lsv encSt36 2 y75.1)], [.box (encSt41 x1)])) s84 ?_ ?_
   ·refine kR ?_
    refine RJ.seg 2 [0, 3, 4, 5, 6, 41] (L2 := [(0, lsv encSt45 2 x0), (3, .ptr 0 0), (4, .bool false), (5, .bool y1), (6, lsv encSt36 2 y75.1), (41, .bool y1)]) (H2 := [.box (encSt41 x1)]) (by kernel_rfl) ?_
    refine RJ.caseB 41 (b := y1) (by kernel_rfl) (fun hb89 => ?_) (fun hb89 => ?_)
    ·have h90 := condT hb89 hy86
     refine kC 5 [0,3,4,5,6] ?_
     refine kE ?_
     obtain rfl := oi h90
     exact kN [0, 3, 4, 5, 6]
    ·have h91 := condF hb89 hy86
     refine kC 5 [0,3,4,5,6] ?_
     refine kE ?_
     obtain rfl := oi h91
     exact kN [0, 3, 4, 5, 6]
   ·refine kX ?_
    refine PJ.passRet ?_
    obtain rfl := oi h88
    exact kZ hFn hFH hFD
  ·have h80 := condF hb78 h77
   refine kF ?_
   refine kK ?_
   refine PJ.next ?_
   refine kS ?_
   refine kSR ?_
   refine RJ.seg 5 [0, 3, 4, 5, 6, 50] (L2 := [(0, lsv encSt45 2 x0), (3, .ptr 0 0), (4, .bool false), (5, .bool y1), (6, lsv encSt36 2 y75.1), (50, .bool ((decide (¬ (y75.1.length : Int) = (x0.length : Int)))))]) (H2 := [.box (encSt41 x1)]) (by kernel_rfl) ?_
   refine kEN ?_
   refine J.caseB 50 (b := (decide (¬ (y75.1.length : Int) = (x0.length : Int)))) (by kernel_rfl) (fun hb92 => ?_) (fun hb92 => ?_)
   ·have h93 := condT hb92 h80
    refine kT ?_
    refine kSR ?_
    refine kC 1 [0,3,4,5,6] ?_
    refine kEN ?_
    refine kX ?_
    refine PJ.passRet ?_
    obtain rfl := oi h93
    exact kZ hFn hFH hFD
   ·have h94 := condF hb92 h80
    refine kF ?_
    refine kK ?_
    refine PJ.next ?_
    refine kSR ?_
    refine kC 2 [0,4,5,6,51,52] ?_
    obtain ⟨y95, hy96, h97⟩ := bindS h94
    refine RJ.call0 (d := (some 53)) (f := 15) (args := [lsv encSt36 2 y75.1, .agg (encSt41 x1)]) (v := .int .i64 y95) (tr2 := []) (by kernel_rfl) (by kernel_rfl) (.cons (Le.refl _) (.cons (Le.refl _) .nil)) (plur_Of_ok hy96) (by kernel_rfl) ?_
    refine kC 1 [0,4,5,6,9] ?_
    refine kEN ?_
    refine kSR ?_
    refine kC 3 [0,4,5,6,9,10] ?_
    refine kEN ?_
    obtain ⟨y210, hy211, h212⟩ := bindS h97
    refine K.cutX (by kernel_rfl) (fun (s209 : Bool) => ([(4, .bool false), (5, .bool y1), (10, .bool s209)], [])) y210 ?_ (fun s209 hs => ?_)
    ·refine kSR ?_
     refine RJ.seg 1 [0, 4, 5, 6, 9, 10, 11] (L2 := [(0, lsv encSt45 2 x0), (4, .bool false), (5, .bool y1), (6, lsv encSt36 2 y75.1), (9, .int .i64 y95), (10, .bool (decide (y95 = 0))), (11, .int .i64 0)]) (H2 := [.box (encSt41 x1)]) (by kernel_rfl) ?_
     refine kEN ?_
     refine K.block 0 (by kernel_rfl) ?_
     refine J.wk (Wk.sel (L2 := [(0, lsv encSt45 2 x0), (4, .bool false), (5, .bool y1), (6, lsv encSt36 2 y75.1), (9, .int .i64 y95), (10, .bool (decide (y95 = 0))), (11, .int .i64 0)]) (H2 := []) 0 (by rw [hFH]; rfl) hFD [] (by kernel_rfl) (by kernel_rfl) (by decide) (by kernel_rfl) (by kernel_rfl) (by kernel_rfl) (by kernel_rfl)) ?_
     refine K.loop (by kernel_rfl) (fun (s214 : Bool × Int) => ([(0, lsv encSt45 2 x0), (4, .bool false), (5, .bool y1), (6, lsv encSt36 2 y75.1), (9, .int .i64 y95), (10, .bool s214.1), (11, .int .i64 s214.2)], [])) hy211 [0, 4, 5, 6, 9, 10, 11] (by kernel_rfl) (by kernel_rfl) (fun s214 x288 hs287 => ?_)
     refine kS ?_
     refine kSR ?_
     refine kC 4 [0,4,5,6,9,10,11,59] ?_
     refine kEN ?_
     refine J.caseB 59 (b := (decide (s214.2 < (x0.length : Int)))) (by kernel_rfl) (fun hb289 => ?_) (fun hb289 => ?_)
     ·have h290 := condT hb289 hs287
      refine kT ?_
      refine kK ?_
      refine PJ.next ?_
      obtain ⟨y306, hy307, h308⟩ := bindS h290
      refine K.cutX (by kernel_rfl) (fun (s305 : Bool) => ([(0, lsv encSt45 2 x0), (4, .bool false), (5, .bool y1), (6, lsv encSt36 2 y75.1), (9, .int .i64 y95), (10, .bool s305), (11, .int .i64 s214.2)], [])) y306 ?_ (fun s305 hs => ?_)
      ·refine K.block 1 (by kernel_rfl) ?_
       refine kS ?_
       refine kS ?_
       refine J.keep [0, 4, 5, 6, 9, 10, 11] (L2 := [(0, lsv encSt45 2 x0), (4, .bool false), (5, .bool y1), (6, lsv encSt36 2 y75.1), (9, .int .i64 y95), (10, .bool s214.1), (11, .int .i64 s214.2)]) (by kernel_rfl) ?_
       refine K.draw (by kernel_rfl) (by kernel_rfl) (by kernel_rfl) (H2 := []) (by kernel_rfl) (n := 0) (by kernel_rfl) ?_
       refine kD 2 ?_
       obtain ⟨hm, h310⟩ := asrt hy307
       refine RJ.rel (d := (some 64)) (ef := ⟨.ep (((y75.1.flatMap encSt36).drop ((s214.2 : Int).toNat * 2)).take 2), [], []⟩) (ef' := ⟨.ep (encSt36 (nth y75.1 s214.2)), [], []⟩) (c := inR s214.2 y75.1.length) (tr2 := [([], []), ([], []), ([], [])]) (H2 := []) (by kernel_rfl) hm (fun hc => N.idx encSt36_len hc) (by kernel_rfl) ?_
       refine kD 4 ?_
       obtain ⟨hm, h311⟩ := asrt h310
       refine RJ.rel (d := (some 69)) (ef := ⟨.ep (((x0.flatMap encSt45).drop ((s214.2 : Int).toNat * 2)).take 2), [], []⟩) (ef' := ⟨.ep (encSt45 (nth x0 s214.2)), [], []⟩) (c := inR s214.2 x0.length) (tr2 := [([], []), ([], []), ([], []), ([], []), ([], []), ([], []), ([], []), ([], [])]) (H2 := []) (by kernel_rfl) hm (fun hc => N.idx encSt45_len hc) (by kernel_rfl) ?_
       refine RJ.segD 3 (tr2 := [([], []), ([], []), ([], []), ([], []), ([], []), ([], []), ([], []), ([], []), ([], []), ([], []), ([], [])]) (L2 := [(72, .bool ((decide (¬ ((nth y75.1 s214.2).Cat_) = ((nth x0 s214.2).Cat_))))), (71, .int .i64 ((nth x0 s214.2).Cat_)), (70, .ep [.int .i64 ((nth x0 s214.2).Cat_), .str ((nth x0 s214.2).Text_)]), (69, .ep [.int .i64 ((nth x0 s214.2).Cat_), .str ((nth x0 s214.2).Text_)]), (68, .int .i64 s214.2), (67, lsv encSt45 2 x0), (66, .int .i64 ((nth y75.1 s214.2).Cat_)), (65, .ep [.int .i64 ((nth y75.1 s214.2).Cat_), lsv (encL encSt71 4) 1 ((nth y75.1 s214.2).C_)]), (64, .ep [.int .i64 ((nth y75.1 s214.2).Cat_), lsv (encL encSt71 4) 1 ((nth y75.1 s214.2).C_)]), (63, .int .i64 s214.2), (62, lsv encSt36 2 y75.1), (0, lsv encSt45 2 x0), (4, .bool false), (5, .bool y1), (6, lsv encSt36 2 y75.1), (9, .int .i64 y95), (10, .bool s214.1), (11, .int .i64 s214.2)]) (H2 := []) (by kernel_rfl) ?_
       refine kEN ?_
       refine J.caseB 72 (b := (decide (¬ ((nth y75.1 s214.2).Cat_) = ((nth x0 s214.2).Cat_)))) (by kernel_rfl) (fun hb312 => ?_) (fun hb312 => ?_)
       ·have h313 := condT hb312 h311
        refine kT ?_
        refine kSR ?_
        refine kC 1 [0,4,5,6,9,10,11] ?_
        refine kEN ?_
        refine kX ?_
        refine PJ.passRet ?_
        refine PJ.blockRet ?_
        obtain rfl := oi h313
        have h315 := joinX_inr h308
        refine PJ.cutXr (fun e => nomatch e) ?_
        obtain rfl := oi h315
        refine PJ.loopOut (fun e => nomatch e) (fun he318 => ?_)
        have h316 := congrArg some he318
        refine PJ.blockRet ?_
        obtain rfl := oi h316
        have h317 := joinX_inr h212
        refine PJ.cutXr (fun e => nomatch e) ?_
        obtain rfl := oi h317
        exact kZ hFn hFH hFD
       ·have h314 := condF hb312 h311
        refine kF ?_
        refine kK ?_
        refine PJ.next ?_
        refine kR ?_
        refine kC 2 [0,4,5,6,9,10,11,74] ?_
        refine RJ.caseB 74 (b := s214.1) (by kernel_rfl) (fun hb319 => ?_) (fun hb319 => ?_)
        ·have h320 := condT hb319 h314
         refine kC 9 [0,4,5,6,9,10,11] ?_
         refine kE ?_
         refine PJ.blockNormal ?_
         obtain rfl := oi h320
         exact PJ.cutXl [0, 4, 5, 6, 9, 10, 11] (by kernel_rfl) (by kernel_rfl)
        ·have h321 := condF hb319 h314
         refine kC 2 [0,4,5,6,9,10,11,74,75,76] ?_
         obtain ⟨hm, h322⟩ := asrt h321
         refine RJ.rel (d := (some 77)) (ef := ⟨.ep (((x0.flatMap encSt45).drop ((s214.2 : Int).toNat * 2)).take 2), [], []⟩) (ef' := ⟨.ep (encSt45 (nth x0 s214.2)), [], []⟩) (c := inR s214.2 x0.length) (tr2 := []) (H2 := []) (by kernel_rfl) hm (fun hc => N.idx encSt45_len hc) (by kernel_rfl) ?_
         refine kC 6 [0,4,5,6,9,10,11] ?_
         refine kE ?_
         refine PJ.blockNormal ?_
         obtain rfl := oi h322
         exact PJ.cutXl [0, 4, 5, 6, 9, 10, 11] (by kernel_rfl) (by kernel_rfl)
      ·subst hs
       have h309 := joinX_inl h308
       refine kR ?_
       refine kC 3 [0,4,5,6,9,10,11] ?_
       refine kE ?_
       obtain rfl := oi h309
       exact PJ.loopNext [0, 4, 5, 6, 9, 10, 11] (by kernel_rfl) (by kernel_rfl)
     ·have h291 := condF hb289 hs287
      refine kF ?_
      refine K.exit 0 (by kernel_rfl) ?_
      refine PJ.passExit ?_
      obtain rfl := oi h291
      refine PJ.loopOut (fun e => nomatch e) (fun he324 => ?_)
      have h323 := congrArg some he324
      refine PJ.blockOut ?_
      obtain rfl := oi h323
      exact PJ.cutXl [4, 5, 10] (by kernel_rfl) (by kernel_rfl)
    ·subst hs
     have h213 := joinX_inl h212
     obtain ⟨s328, hy330, h332⟩ := bindS h213
     refine K.cutN (by kernel_rfl) (fun (s328 : Bool) => ([(4, .bool s328)], [])) s328 ?_ ?_
     ·refine kR ?_
      refine kC 2 [4,10,84] ?_
      refine RJ.caseB 84 (b := y1) (by kernel_rfl) (fun hb333 => ?_) (fun hb333 => ?_)
      ·have h334 := condT hb333 hy330
       refine kC 3 [4] ?_
       refine kE ?_
       obtain rfl := oi h334
       exact kN [4]
      ·have h335 := condF hb333 hy330
       refine kC 3 [4] ?_
       refine kE ?_
       obtain rfl := oi h335
       exact kN [4]
     ·refine kX ?_
      obtain rfl := oi h332
      exact kZ hFn hFH hFD
end Go.Proofs.YteaokhdkocddcaaDoor
