/-
  What the functions of this program come to, as functions of natives, each with the proof that it does. No conditions.
-/
import Derived.Test.YtdflcknbelpflaaProg
import Derived.Test.YtdflcknbelpflaaSySL
import Derived.Test.YtdflcknbelpflaaGb
namespace Go.Proofs.Ytdflcknbelpflaa
open Go Go.Sy Go.RowKit
set_option linter.unusedVariables false
set_option linter.unusedSimpArgs false
set_option maxRecDepth 100000
set_option maxHeartbeats 4000000
def pat_Same (x0 : St23) (x1 : St23) : Option (Bool) :=
 (Option.bind (Option.bind (pat_numbers x0) fun y42 => (Option.bind (pat_numbers x1) fun y45 => (bif ((decide (y42.a0_ = y45.a0_)) && ((decide (y42.a1_ = y45.a1_)) && ((decide (y42.a2_ = y45.a2_)) && ((decide (y42.a3_ = y45.a3_)) && ((decide (y42.a4_ = y45.a4_)) && ((decide (y42.a5_ = y45.a5_)) && ((decide (y42.a6_ = y45.a6_)) && ((decide (y42.a7_ = y45.a7_)) && ((decide (y42.a8_ = y45.a8_)) && ((decide (y42.a9_ = y45.a9_)) && ((decide (y42.a10_ = y45.a10_)) && true))))))))))) then (bif (x0.Neg_ == x1.Neg_) then (bif (x0.ExpPlus_ == x1.ExpPlus_) then (Option.bind (api_Tok_ x0.Pre_ x1.Pre_) fun y57 => (bif y57 then (Option.bind (api_Tok_ x0.Suf_ x1.Suf_) fun y63 => (bif y63 then (Option.bind (api_Tok_ x0.NPre_ x1.NPre_) fun y69 => (bif y69 then (Option.bind (api_Tok_ x0.NSuf_ x1.NSuf_) fun y75 => (some y75)) else (some false))) else (some false))) else (some false))) else (some false)) else (some false)) else (some false)))) fun (s37 : Bool) => (some s37))
theorem pat_Same_ok {x0 : St23} {x1 : St23} {r : Bool} (h : pat_Same x0 x1 = some r) : SC Try.prog 11 [.agg (encSt23 x0), .agg (encSt23 x1)] [] (.bool r) [] := by
 refine kFn (fn := Try.f11) (fun F hFn hFH hFD => ?_)
 unfold pat_Same at h
 refine kSR ?_
 refine kC 3 [2,3,4] ?_
 refine kEN ?_
 obtain ⟨s37, hy39, h41⟩ := bindS h
 refine K.cutN (by kernel_rfl) (fun (s37 : Bool) => ([(4, .bool s37)], [])) s37 ?_ ?_
 ·refine J.keep [2, 3, 4] (L2 := [(2, .ptr 0 0), (3, .ptr 1 0), (4, .bool false)]) (by kernel_rfl) ?_
  refine K.draw (by kernel_rfl) (by kernel_rfl) (by kernel_rfl) (H2 := [.box (encSt23 x0), .box (encSt23 x1), .res, .res, .res, .res, .res, .res]) (by kernel_rfl) (n := 2) (by kernel_rfl) ?_
  refine kD 1 ?_
  obtain ⟨y42, hy43, h44⟩ := bindS hy39
  refine RJ.call0 (d := (some 6)) (f := 23) (args := [.agg (encSt23 x0)]) (v := .agg (encSt41 y42)) (tr2 := [([0, 1], []), ([], [4, 5])]) (by kernel_rfl) (by kernel_rfl) (.cons (Le.refl _) .nil) (pat_numbers_ok hy43) (by kernel_rfl) ?_
  refine kD 1 ?_
  obtain ⟨y45, hy46, h47⟩ := bindS h44
  refine RJ.call0 (d := (some 8)) (f := 23) (args := [.agg (encSt23 x1)]) (v := .agg (encSt41 y45)) (tr2 := [([0, 1], []), ([], [4, 5]), ([2, 3], []), ([], [6, 7])]) (by kernel_rfl) (by kernel_rfl) (.cons (Le.refl _) .nil) (pat_numbers_ok hy46) (by kernel_rfl) ?_
  refine kD 2 ?_
  refine kB 10 h47 (fun h49 => ?_) (fun h50 => ?_)
  ·refine kD 7 ?_
   refine kB 17 h49 (fun h52 => ?_) (fun h53 => ?_)
   ·refine kD 7 ?_
    refine kB 24 h52 (fun h55 => ?_) (fun h56 => ?_)
    ·refine kD 4 ?_
     obtain ⟨y57, hy58, h59⟩ := bindS h55
     refine RJ.call0 (d := (some 29)) (f := 24) (args := [lsv encSt33 2 x0.Pre_, lsv encSt33 2 x1.Pre_]) (v := .bool y57) (tr2 := [([0, 1], []), ([], [4, 5]), ([2, 3], []), ([], [6, 7]), ([], []), ([], []), ([], []), ([0, 1], []), ([], []), ([2, 3], []), ([], []), ([], []), ([], []), ([], []), ([0, 1], []), ([], []), ([2, 3], []), ([], []), ([], []), ([], []), ([], []), ([0, 1], []), ([], []), ([2, 3], []), ([], [8, 9])]) (by kernel_rfl) (by kernel_rfl) (.cons (Le.refl _) (.cons (Le.refl _) .nil)) (api_Tok__ok hy58) (by kernel_rfl) ?_
     refine kD 2 ?_
     refine kB 31 h59 (fun h61 => ?_) (fun h62 => ?_)
     ·refine RJ.segD 4 (tr2 := [([0, 1], []), ([], [4, 5]), ([2, 3], []), ([], [6, 7]), ([], []), ([], []), ([], []), ([0, 1], []), ([], []), ([2, 3], []), ([], []), ([], []), ([], []), ([], []), ([0, 1], []), ([], []), ([2, 3], []), ([], []), ([], []), ([], []), ([], []), ([0, 1], []), ([], []), ([2, 3], []), ([], [8, 9]), ([], []), ([], []), ([], []), ([0, 1], []), ([], []), ([2, 3], [])]) (L2 := [(35, lsv encSt33 2 x1.Suf_), (34, .ptr 1 1), (33, lsv encSt33 2 x0.Suf_), (32, .ptr 0 1), (31, .bool true), (31, .bool y57), (30, .bool y57), (29, .bool y57), (28, lsv encSt33 2 x1.Pre_), (27, .ptr 1 0), (26, lsv encSt33 2 x0.Pre_), (25, .ptr 0 0), (24, .bool true), (24, .bool (x0.ExpPlus_ == x1.ExpPlus_)), (23, .bool (x0.ExpPlus_ == x1.ExpPlus_)), (22, .bool (x0.ExpPlus_ == x1.ExpPlus_)), (21, .bool x1.ExpPlus_), (20, .ptr 1 14), (19, .bool x0.ExpPlus_), (18, .ptr 0 14), (17, .bool true), (17, .bool (x0.Neg_ == x1.Neg_)), (16, .bool (x0.Neg_ == x1.Neg_)), (15, .bool (x0.Neg_ == x1.Neg_)), (14, .bool x1.Neg_), (13, .ptr 1 4), (12, .bool x0.Neg_), (11, .ptr 0 4), (10, .bool true), (10, .bool (((decide (y42.a0_ = y45.a0_)) && ((decide (y42.a1_ = y45.a1_)) && ((decide (y42.a2_ = y45.a2_)) && ((decide (y42.a3_ = y45.a3_)) && ((decide (y42.a4_ = y45.a4_)) && ((decide (y42.a5_ = y45.a5_)) && ((decide (y42.a6_ = y45.a6_)) && ((decide (y42.a7_ = y45.a7_)) && ((decide (y42.a8_ = y45.a8_)) && ((decide (y42.a9_ = y45.a9_)) && ((decide (y42.a10_ = y45.a10_)) && true))))))))))))), (9, .bool (((decide (y42.a0_ = y45.a0_)) && ((decide (y42.a1_ = y45.a1_)) && ((decide (y42.a2_ = y45.a2_)) && ((decide (y42.a3_ = y45.a3_)) && ((decide (y42.a4_ = y45.a4_)) && ((decide (y42.a5_ = y45.a5_)) && ((decide (y42.a6_ = y45.a6_)) && ((decide (y42.a7_ = y45.a7_)) && ((decide (y42.a8_ = y45.a8_)) && ((decide (y42.a9_ = y45.a9_)) && ((decide (y42.a10_ = y45.a10_)) && true))))))))))))), (8, .agg (encSt41 y45)), (7, .agg (encSt23 x1)), (6, .agg (encSt41 y42)), (5, .agg (encSt23 x0)), (2, .ptr 0 0), (3, .ptr 1 0), (4, .bool false)]) (H2 := [.box (encSt23 x0), .box (encSt23 x1), .res, .res, .res, .res, .res, .res]) (by kernel_rfl) ?_
      obtain ⟨y63, hy64, h65⟩ := bindS h61
      refine RJ.call0 (d := (some 36)) (f := 24) (args := [lsv encSt33 2 x0.Suf_, lsv encSt33 2 x1.Suf_]) (v := .bool y63) (tr2 := [([0, 1], []), ([], [4, 5]), ([2, 3], []), ([], [6, 7]), ([], []), ([], []), ([], []), ([0, 1], []), ([], []), ([2, 3], []), ([], []), ([], []), ([], []), ([], []), ([0, 1], []), ([], []), ([2, 3], []), ([], []), ([], []), ([], []), ([], []), ([0, 1], []), ([], []), ([2, 3], []), ([], [8, 9]), ([], []), ([], []), ([], []), ([0, 1], []), ([], []), ([2, 3], []), ([], [10, 11])]) (by kernel_rfl) (by kernel_rfl) (.cons (Le.refl _) (.cons (Le.refl _) .nil)) (api_Tok__ok hy64) (by kernel_rfl) ?_
      refine kD 2 ?_
      refine kB 38 h65 (fun h67 => ?_) (fun h68 => ?_)
      ·refine kD 4 ?_
       obtain ⟨y69, hy70, h71⟩ := bindS h67
       refine RJ.call0 (d := (some 43)) (f := 24) (args := [lsv encSt33 2 x0.NPre_, lsv encSt33 2 x1.NPre_]) (v := .bool y69) (tr2 := [([0, 1], []), ([], [4, 5]), ([2, 3], []), ([], [6, 7]), ([], []), ([], []), ([], []), ([0, 1], []), ([], []), ([2, 3], []), ([], []), ([], []), ([], []), ([], []), ([0, 1], []), ([], []), ([2, 3], []), ([], []), ([], []), ([], []), ([], []), ([0, 1], []), ([], []), ([2, 3], []), ([], [8, 9]), ([], []), ([], []), ([], []), ([0, 1], []), ([], []), ([2, 3], []), ([], [10, 11]), ([], []), ([], []), ([], []), ([0, 1], []), ([], []), ([2, 3], []), ([], [12, 13])]) (by kernel_rfl) (by kernel_rfl) (.cons (Le.refl _) (.cons (Le.refl _) .nil)) (api_Tok__ok hy70) (by kernel_rfl) ?_
       refine kD 2 ?_
       refine kB 45 h71 (fun h73 => ?_) (fun h74 => ?_)
       ·refine kD 4 ?_
        obtain ⟨y75, hy76, h77⟩ := bindS h73
        refine RJ.call0 (d := (some 50)) (f := 24) (args := [lsv encSt33 2 x0.NSuf_, lsv encSt33 2 x1.NSuf_]) (v := .bool y75) (tr2 := [([0, 1], []), ([], [4, 5]), ([2, 3], []), ([], [6, 7]), ([], []), ([], []), ([], []), ([0, 1], []), ([], []), ([2, 3], []), ([], []), ([], []), ([], []), ([], []), ([0, 1], []), ([], []), ([2, 3], []), ([], []), ([], []), ([], []), ([], []), ([0, 1], []), ([], []), ([2, 3], []), ([], [8, 9]), ([], []), ([], []), ([], []), ([0, 1], []), ([], []), ([2, 3], []), ([], [10, 11]), ([], []), ([], []), ([], []), ([0, 1], []), ([], []), ([2, 3], []), ([], [12, 13]), ([], []), ([], []), ([], []), ([0, 1], []), ([], []), ([2, 3], []), ([], [14, 15])]) (by kernel_rfl) (by kernel_rfl) (.cons (Le.refl _) (.cons (Le.refl _) .nil)) (api_Tok__ok hy76) (by kernel_rfl) ?_
        refine kD 2 ?_
        refine kE ?_
        obtain rfl := oi h77
        refine kW (L2 := [(4, .bool y75)]) (H2 := []) hFH hFD [] ?_
        exact kN [4]
       ·refine kD 7 ?_
        refine kE ?_
        obtain rfl := oi h74
        refine kW (L2 := [(4, .bool false)]) (H2 := []) hFH hFD [] ?_
        exact kN [4]
      ·refine kD 14 ?_
       refine kE ?_
       obtain rfl := oi h68
       refine kW (L2 := [(4, .bool false)]) (H2 := []) hFH hFD [] ?_
       exact kN [4]
     ·refine RJ.segD 21 (tr2 := [([0, 1], []), ([], [4, 5]), ([2, 3], []), ([], [6, 7]), ([], []), ([], []), ([], []), ([0, 1], []), ([], []), ([2, 3], []), ([], []), ([], []), ([], []), ([], []), ([0, 1], []), ([], []), ([2, 3], []), ([], []), ([], []), ([], []), ([], []), ([0, 1], []), ([], []), ([2, 3], []), ([], [8, 9]), ([], []), ([], []), ([], []), ([], []), ([], []), ([], []), ([], [10, 11]), ([], []), ([], []), ([], []), ([], []), ([], []), ([], []), ([], [12, 13]), ([], []), ([], []), ([], []), ([], []), ([], []), ([], []), ([], [14, 15]), ([], []), ([], [])]) (L2 := [(4, .bool false), (51, .bool false), (50, .tup []), (49, .tup []), (48, .tup []), (47, .tup []), (46, .tup []), (45, .bool false), (44, .bool false), (43, .tup []), (42, .tup []), (41, .tup []), (40, .tup []), (39, .tup []), (38, .bool false), (37, .bool false), (36, .tup []), (35, .tup []), (34, .tup []), (33, .tup []), (32, .tup []), (31, .bool false), (31, .bool y57), (30, .bool y57), (29, .bool y57), (28, lsv encSt33 2 x1.Pre_), (27, .ptr 1 0), (26, lsv encSt33 2 x0.Pre_), (25, .ptr 0 0), (24, .bool true), (24, .bool (x0.ExpPlus_ == x1.ExpPlus_)), (23, .bool (x0.ExpPlus_ == x1.ExpPlus_)), (22, .bool (x0.ExpPlus_ == x1.ExpPlus_)), (21, .bool x1.ExpPlus_), (20, .ptr 1 14), (19, .bool x0.ExpPlus_), (18, .ptr 0 14), (17, .bool true), (17, .bool (x0.Neg_ == x1.Neg_)), (16, .bool (x0.Neg_ == x1.Neg_)), (15, .bool (x0.Neg_ == x1.Neg_)), (14, .bool x1.Neg_), (13, .ptr 1 4), (12, .bool x0.Neg_), (11, .ptr 0 4), (10, .bool true), (10, .bool (((decide (y42.a0_ = y45.a0_)) && ((decide (y42.a1_ = y45.a1_)) && ((decide (y42.a2_ = y45.a2_)) && ((decide (y42.a3_ = y45.a3_)) && ((decide (y42.a4_ = y45.a4_)) && ((decide (y42.a5_ = y45.a5_)) && ((decide (y42.a6_ = y45.a6_)) && ((decide (y42.a7_ = y45.a7_)) && ((decide (y42.a8_ = y45.a8_)) && ((decide (y42.a9_ = y45.a9_)) && ((decide (y42.a10_ = y45.a10_)) && true))))))))))))), (9, .bool (((decide (y42.a0_ = y45.a0_)) && ((decide (y42.a1_ = y45.a1_)) && ((decide (y42.a2_ = y45.a2_)) && ((decide (y42.a3_ = y45.a3_)) && ((decide (y42.a4_ = y45.a4_)) && ((decide (y42.a5_ = y45.a5_)) && ((decide (y42.a6_ = y45.a6_)) && ((decide (y42.a7_ = y45.a7_)) && ((decide (y42.a8_ = y45.a8_)) && ((decide (y42.a9_ = y45.a9_)) && ((decide (y42.a10_ = y45.a10_)) && true))))))))))))), (8, .agg (encSt41 y45)), (7, .agg (encSt23 x1)), (6, .agg (encSt41 y42)), (5, .agg (encSt23 x0)), (2, .ptr 0 0), (3, .ptr 1 0), (4, .bool false)]) (H2 := [.box (encSt23 x0), .box (encSt23 x1), .res, .res, .res, .res, .res, .res]) (by kernel_rfl) ?_
      refine kE ?_
      obtain rfl := oi h62
      refine kW (L2 := [(4, .bool false)]) (H2 := []) hFH hFD [] ?_
      exact kN [4]
    ·refine kD 28 ?_
     refine kE ?_
     obtain rfl := oi h56
     refine kW (L2 := [(4, .bool false)]) (H2 := []) hFH hFD [] ?_
     exact kN [4]
   ·refine kD 35 ?_
    refine kE ?_
    obtain rfl := oi h53
    refine kW (L2 := [(4, .bool false)]) (H2 := []) hFH hFD [] ?_
    exact kN [4]
  ·refine kD 42 ?_
   refine kE ?_
   obtain rfl := oi h50
   refine kW (L2 := [(4, .bool false)]) (H2 := []) hFH hFD [] ?_
   exact kN [4]
 ·refine kX ?_
  obtain rfl := oi h41
  exact kZ hFn hFH hFD
def pat_Right (x0 : St23) : Option (Bool) :=
 (Option.bind (pat_Text x0) fun y1 => (Option.bind (pat_Parse y1) fun y4 => (Option.bind (bif (decide (y4.2.2 = 0)) then (Option.bind (pat_Same x0 y4.1) fun y21 => (some y21)) else (some false)) fun (s13 : Bool) => (some s13))))
theorem pat_Right_ok {x0 : St23} {r : Bool} (h : pat_Right x0 = some r) : SC Try.prog 10 [.agg (encSt23 x0)] [] (.bool r) [] := by
 refine kFn (fn := Try.f10) (fun F hFn hFH hFD => ?_)
 unfold pat_Right at h
 refine kSR ?_
 refine kC 2 [1,2] ?_
 refine kEN ?_
 refine kSR ?_
 refine kC 1 [1,2,7] ?_
 obtain ⟨y1, hy2, h3⟩ := bindS h
 refine kA 8 (pat_Text_ok hy2) ?_
 obtain ⟨y4, hy5, h6⟩ := bindS h3
 refine kA 9 (pat_Parse_ok hy5) ?_
 refine kC 8 [1,2,3,5] ?_
 refine kEN ?_
 obtain ⟨s13, hy15, h17⟩ := bindS h6
 refine K.cutN (by kernel_rfl) (fun (s13 : Bool) => ([(2, .bool s13)], [])) s13 ?_ ?_
 ·refine kR ?_
  refine kC 3 [1,2,3,15] ?_
  refine kB 15 hy15 (fun h19 => ?_) (fun h20 => ?_)
  ·refine kC 2 [2,15,16,17] ?_
   obtain ⟨y21, hy22, h23⟩ := bindS h19
   refine kA 18 (pat_Same_ok hy22) ?_
   refine kC 2 [2] ?_
   refine kE ?_
   obtain rfl := oi h23
   refine kW (L2 := [(2, .bool y21)]) (H2 := []) hFH hFD [] ?_
   exact kN [2]
  ·refine kC 5 [2] ?_
   refine kE ?_
   obtain rfl := oi h20
   refine kW (L2 := [(2, .bool false)]) (H2 := []) hFH hFD [] ?_
   exact kN [2]
 ·refine kX ?_
  obtain rfl := oi h17
  exact kZ hFn hFH hFD
def pat_Width (x0 : St23) : Option (Int) :=
 (Option.bind (pat_number x0) fun y1 => (some (IntKind.wrap .i64 (((IntKind.wrap .i64 ((y1.length : Int) + (x0.Pre_.length : Int)))) + (x0.Suf_.length : Int)))))
theorem pat_Width_ok {x0 : St23} {r : Int} (h : pat_Width x0 = some r) : SC Try.prog 17 [.agg (encSt23 x0)] [] (.int .i64 r) [] := by
 refine kFn (fn := Try.f17) (fun F hFn hFH hFD => ?_)
 unfold pat_Width at h
 refine kSR ?_
 refine kC 2 [1,2] ?_
 refine kEN ?_
 refine kS ?_
 refine J.keep [1, 2] (L2 := [(1, .ptr 0 0), (2, .int .i64 0)]) (by kernel_rfl) ?_
 refine K.draw (by kernel_rfl) (by kernel_rfl) (by kernel_rfl) (H2 := [.box (encSt23 x0), .res]) (by kernel_rfl) (n := 1) (by kernel_rfl) ?_
 refine kD 1 ?_
 obtain ⟨y1, hy2, h3⟩ := bindS h
 refine RJ.call0 (d := (some 4)) (f := 29) (args := [.agg (encSt23 x0)]) (v := lsv (encI .i32) 1 y1) (tr2 := [([0, 1], []), ([], [2, 3])]) (by kernel_rfl) (by kernel_rfl) (.cons (Le.refl _) .nil) (pat_number_ok hy2) (by kernel_rfl) ?_
 refine kD 10 ?_
 refine kEN ?_
 refine kX ?_
 obtain rfl := oi h3
 exact kZ hFn hFH hFD
def pat_Number (x0 : St23) : Option (List UInt8) :=
 (Option.bind (pat_number x0) fun y1 => (some (runesS y1)))
theorem pat_Number_ok {x0 : St23} {r : List UInt8} (h : pat_Number x0 = some r) : SC Try.prog 15 [.agg (encSt23 x0)] [] (.str r) [] := by
 refine kFn (fn := Try.f15) (fun F hFn hFH hFD => ?_)
 unfold pat_Number at h
 refine kSR ?_
 refine kC 2 [1,2] ?_
 refine kEN ?_
 refine kSR ?_
 refine kC 1 [2,3] ?_
 obtain ⟨y1, hy2, h3⟩ := bindS h
 refine kA 4 (pat_number_ok hy2) ?_
 refine RJ.rel (d := (some 5)) (ef := ⟨.str ((y1.flatMap (encI .i32)).flatMap Go.Sy.runeB), [], []⟩) (ef' := ⟨.str (runesS y1), [], []⟩) (c := (y1.flatMap (encI .i32)).all isRuneS) (tr2 := []) (H2 := [.box (encSt23 x0)]) (by kernel_rfl) (allRune y1) (fun hc => N.toRStr) (by kernel_rfl) ?_
 refine kC 1 [2] ?_
 refine kEN ?_
 refine kX ?_
 obtain rfl := oi h3
 exact kZ hFn hFH hFD
def exerguelaw10_shown  : Option (Bool) :=
 (Option.bind (pat_Parse ([35, 44, 35, 35, 48, 46, 48, 48, 59, 40, 35, 44, 35, 35, 48, 46, 48, 48, 41] : List UInt8)) fun y1 => (Option.bind (bif (decide (y1.2.2 = 0)) then (bif (decide (y1.2.1 = 0)) then (bif (decide (y1.1.Hash_ = 3)) then (bif (decide (y1.1.MinInt_ = 1)) then (bif (decide (y1.1.G1_ = 3)) then (bif (decide (y1.1.G2_ = 3)) then (bif (decide (y1.1.MinFrac_ = 2)) then (bif (decide (y1.1.MaxFrac_ = 2)) then (bif y1.1.Neg_ then (bif (decide ((y1.1.NPre_.length : Int) = 1)) then (bif inR 0 y1.1.NPre_.length then (bif (decide (((nth y1.1.NPre_ 0).R_) = 40)) then (Option.bind (pat_Text y1.1) fun y98 => (bif (y98 == ([35, 44, 35, 35, 48, 46, 48, 48, 59, 40, 35, 44, 35, 35, 48, 46, 48, 48, 41] : List UInt8)) then (Option.bind (pat_Right y1.1) fun y104 => (bif y104 then (Option.bind (pat_Width y1.1) fun y110 => (bif (decide (y110 = 8)) then (Option.bind (pat_Number y1.1) fun y116 => (some (y116 == ([35, 44, 35, 35, 48, 46, 48, 48] : List UInt8)))) else (some false))) else (some false))) else (some false))) else (some false)) else none) else (some false)) else (some false)) else (some false)) else (some false)) else (some false)) else (some false)) else (some false)) else (some false)) else (some false)) else (some false)) fun (s59 : Bool) => (some s59)))
theorem exerguelaw10_shown_ok  {r : Bool} (h : exerguelaw10_shown = some r) : SC Try.prog 7 [] [] (.bool r) [] := by
 refine kFn (fn := Try.f7) (fun F hFn hFH hFD => ?_)
 unfold exerguelaw10_shown at h
 refine kSR ?_
 refine kC 1 [0] ?_
 refine kEN ?_
 refine kSR ?_
 obtain ⟨y1, hy2, h3⟩ := bindS h
 refine kA 5 (pat_Parse_ok hy2) ?_
 refine kC 8 [0,1,2,3] ?_
 refine kEN ?_
 obtain ⟨s59, hy61, h63⟩ := bindS h3
 refine K.cutN (by kernel_rfl) (fun (s59 : Bool) => ([(0, .bool s59)], [])) s59 ?_ ?_
 ·refine kR ?_
  refine kC 3 [0,1,2,11] ?_
  refine kB 11 hy61 (fun h65 => ?_) (fun h66 => ?_)
  ·refine kC 4 [0,1,15] ?_
   refine kB 15 h65 (fun h68 => ?_) (fun h69 => ?_)
   ·refine kC 5 [0,1,20] ?_
    refine kB 20 h68 (fun h71 => ?_) (fun h72 => ?_)
    ·refine kC 5 [0,1,25] ?_
     refine kB 25 h71 (fun h74 => ?_) (fun h75 => ?_)
     ·refine kC 5 [0,1,30] ?_
      refine kB 30 h74 (fun h77 => ?_) (fun h78 => ?_)
      ·refine kC 5 [0,1,35] ?_
       refine kB 35 h77 (fun h80 => ?_) (fun h81 => ?_)
       ·refine RJ.seg 5 [0, 1, 40] (L2 := [(0, .bool false), (1, .ptr 0 0), (40, .bool (decide (y1.1.MinFrac_ = 2)))]) (H2 := [.box (encSt23 y1.1)]) (by kernel_rfl) ?_
        refine kB 40 h80 (fun h83 => ?_) (fun h84 => ?_)
        ·refine kC 5 [0,1,45] ?_
         refine kB 45 h83 (fun h86 => ?_) (fun h87 => ?_)
         ·refine kC 4 [0,1,49] ?_
          refine kB 49 h86 (fun h89 => ?_) (fun h90 => ?_)
          ·refine kC 6 [0,1,55] ?_
           refine kB 55 h89 (fun h92 => ?_) (fun h93 => ?_)
           ·refine kC 2 [0,1,55,57] ?_
            obtain ⟨hm, h94⟩ := asrt h92
            refine kI 58 encSt33_len hm ?_
            refine kC 5 [0,1,63] ?_
            refine kB 63 h94 (fun h96 => ?_) (fun h97 => ?_)
            ·refine kC 1 [0,1,63,64] ?_
             obtain ⟨y98, hy99, h100⟩ := bindS h96
             refine kA 65 (pat_Text_ok hy99) ?_
             refine kC 3 [0,1,68] ?_
             refine kB 68 h100 (fun h102 => ?_) (fun h103 => ?_)
             ·refine kC 1 [0,1,68,69] ?_
              obtain ⟨y104, hy105, h106⟩ := bindS h102
              refine kA 70 (pat_Right_ok hy105) ?_
              refine RJ.seg 2 [0, 1, 72] (L2 := [(0, .bool false), (1, .ptr 0 0), (72, .bool y104)]) (H2 := [.box (encSt23 y1.1)]) (by kernel_rfl) ?_
              refine kB 72 h106 (fun h108 => ?_) (fun h109 => ?_)
              ·refine kC 1 [0,1,72,73] ?_
               obtain ⟨y110, hy111, h112⟩ := bindS h108
               refine kA 74 (pat_Width_ok hy111) ?_
               refine kC 3 [0,1,77] ?_
               refine kB 77 h112 (fun h114 => ?_) (fun h115 => ?_)
               ·refine kC 1 [0,77,78] ?_
                obtain ⟨y116, hy117, h118⟩ := bindS h114
                refine kA 79 (pat_Number_ok hy117) ?_
                refine kC 3 [0] ?_
                refine kE ?_
                obtain rfl := oi h118
                refine kW (L2 := [(0, .bool (y116 == ([35, 44, 35, 35, 48, 46, 48, 48] : List UInt8)))]) (H2 := []) hFH hFD [] ?_
                exact kN [0]
               ·refine kC 5 [0] ?_
                refine kE ?_
                obtain rfl := oi h115
                refine kW (L2 := [(0, .bool false)]) (H2 := []) hFH hFD [] ?_
                exact kN [0]
              ·refine kC 10 [0] ?_
               refine kE ?_
               obtain rfl := oi h109
               refine kW (L2 := [(0, .bool false)]) (H2 := []) hFH hFD [] ?_
               exact kN [0]
             ·refine kC 14 [0] ?_
              refine kE ?_
              obtain rfl := oi h103
              refine kW (L2 := [(0, .bool false)]) (H2 := []) hFH hFD [] ?_
              exact kN [0]
            ·refine kC 19 [0] ?_
             refine kE ?_
             obtain rfl := oi h97
             refine kW (L2 := [(0, .bool false)]) (H2 := []) hFH hFD [] ?_
             exact kN [0]
           ·refine kC 27 [0] ?_
            refine kE ?_
            obtain rfl := oi h93
            refine kW (L2 := [(0, .bool false)]) (H2 := []) hFH hFD [] ?_
            exact kN [0]
          ·refine kC 33 [0] ?_
           refine kE ?_
           obtain rfl := oi h90
           refine kW (L2 := [(0, .bool false)]) (H2 := []) hFH hFD [] ?_
           exact kN [0]
         ·refine kC 37 [0] ?_
          refine kE ?_
          obtain rfl := oi h87
          refine kW (L2 := [(0, .bool false)]) (H2 := []) hFH hFD [] ?_
          exact kN [0]
        ·refine kC 42 [0] ?_
         refine kE ?_
         obtain rfl := oi h84
         refine kW (L2 := [(0, .bool false)]) (H2 := []) hFH hFD [] ?_
         exact kN [0]
       ·refine RJ.seg 47 [0] (L2 := [(0, .bool false)]) (H2 := [.box (encSt23 y1.1)]) (by kernel_rfl) ?_
        refine kE ?_
        obtain rfl := oi h81
        refine kW (L2 := [(0, .bool false)]) (H2 := []) hFH hFD [] ?_
        exact kN [0]
      ·refine kC 52 [0] ?_
       refine kE ?_
       obtain rfl := oi h78
       refine kW (L2 := [(0, .bool false)]) (H2 := []) hFH hFD [] ?_
       exact kN [0]
     ·refine kC 57 [0] ?_
      refine kE ?_
      obtain rfl := oi h75
      refine kW (L2 := [(0, .bool false)]) (H2 := []) hFH hFD [] ?_
      exact kN [0]
    ·refine kC 62 [0] ?_
     refine kE ?_
     obtain rfl := oi h72
     refine kW (L2 := [(0, .bool false)]) (H2 := []) hFH hFD [] ?_
     exact kN [0]
   ·refine kC 67 [0] ?_
    refine kE ?_
    obtain rfl := oi h69
    refine kW (L2 := [(0, .bool false)]) (H2 := []) hFH hFD [] ?_
    exact kN [0]
  ·refine kC 71 [0] ?_
   refine kE ?_
   obtain rfl := oi h66
   refine kW (L2 := [(0, .bool false)]) (H2 := []) hFH hFD [] ?_
   exact kN [0]
 ·refine kX ?_
  obtain rfl := oi h63
  exact kZ hFn hFH hFD
def exergueref10_Few (x0 : St23) : Option (Bool) :=
 (some (decide (((IntKind.wrap .i64 (((IntKind.wrap .i64 (((IntKind.wrap .i64 ((x0.Pre_.length : Int) + (x0.Suf_.length : Int)))) + (x0.NPre_.length : Int)))) + (x0.NSuf_.length : Int)))) ≤ 300)))
theorem exergueref10_Few_ok {x0 : St23} {r : Bool} (h : exergueref10_Few x0 = some r) : SC Try.prog 8 [.agg (encSt23 x0)] [] (.bool r) [] := by
 refine kFn (fn := Try.f8) (fun F hFn hFH hFD => ?_)
 unfold exergueref10_Few at h
 refine kSR ?_
 refine kC 2 [1,2] ?_
 refine kEN ?_
 refine kSR ?_
 refine kC 17 [2] ?_
 refine kEN ?_
 refine kX ?_
 obtain rfl := oi h
 exact kZ hFn hFH hFD
def exerguelaw10_PatSames (x0 : St23) (x1 : St33) (x2 : Int) : Option (Bool) :=
 (Option.bind exerguelaw10_shown fun y1 => (Option.bind (exergueref10_Few x0) fun y4 => (bif (!y4) then (some y1) else (Option.bind (bif (decide ((Int.tmod x2 8) = 0)) then (bif room x0.Pre_.length then (bif room (x0.Pre_.length + ([x1] : List St33).length) then (some ((x0.Pre_ ++ ([x1] : List St33)), x0.NSuf_, x0.Neg_, x0.MinInt_, x0.G2_, x0.MaxSig_, x0.ExpPlus_, x0.Pad_)) else none) else none) else (bif (decide ((Int.tmod x2 8) = 1)) then (bif room x0.NSuf_.length then (bif room (x0.NSuf_.length + ([x1] : List St33).length) then (some (x0.Pre_, (x0.NSuf_ ++ ([x1] : List St33)), x0.Neg_, x0.MinInt_, x0.G2_, x0.MaxSig_, x0.ExpPlus_, x0.Pad_)) else none) else none) else (bif (decide ((Int.tmod x2 8) = 2)) then (some (x0.Pre_, x0.NSuf_, x0.Neg_, (IntKind.wrap .i64 (x0.MinInt_ + 1)), x0.G2_, x0.MaxSig_, x0.ExpPlus_, x0.Pad_)) else (bif (decide ((Int.tmod x2 8) = 3)) then (some (x0.Pre_, x0.NSuf_, x0.Neg_, x0.MinInt_, (IntKind.wrap .i64 (x0.G2_ + 1)), x0.MaxSig_, x0.ExpPlus_, x0.Pad_)) else (bif (decide ((Int.tmod x2 8) = 4)) then (some (x0.Pre_, x0.NSuf_, (!x0.Neg_), x0.MinInt_, x0.G2_, x0.MaxSig_, x0.ExpPlus_, x0.Pad_)) else (bif (decide ((Int.tmod x2 8) = 5)) then (some (x0.Pre_, x0.NSuf_, x0.Neg_, x0.MinInt_, x0.G2_, x0.MaxSig_, x0.ExpPlus_, (IntKind.wrap .i32 (x0.Pad_ + 1)))) else (bif (decide ((Int.tmod x2 8) = 6)) then (some (x0.Pre_, x0.NSuf_, x0.Neg_, x0.MinInt_, x0.G2_, (IntKind.wrap .i64 (x0.MaxSig_ + 1)), x0.ExpPlus_, x0.Pad_)) else (bif (decide ((Int.tmod x2 8) = 7)) then (some (x0.Pre_, x0.NSuf_, x0.Neg_, x0.MinInt_, x0.G2_, x0.MaxSig_, (!x0.ExpPlus_), x0.Pad_)) else (some (x0.Pre_, x0.NSuf_, x0.Neg_, x0.MinInt_, x0.G2_, x0.MaxSig_, x0.ExpPlus_, x0.Pad_)))))))))) fun (s38 : (List St33) × (List St33) × Bool × Int × Int × Int × Bool × Int) => (Option.bind (bif y1 then (Option.bind (pat_Same x0 x0) fun y97 => (bif y97 then (Option.bind (pat_Same x0 (⟨s38.1, x0.Suf_, x0.NPre_, s38.2.1, s38.2.2.1, x0.Hash_, s38.2.2.2.1, x0.MinFrac_, x0.MaxFrac_, x0.G1_, s38.2.2.2.2.1, x0.MinSig_, s38.2.2.2.2.2.1, x0.Exp_, s38.2.2.2.2.2.2.1, s38.2.2.2.2.2.2.2, x0.PadAt_⟩ : St23)) fun y103 => (bif (!y103) then (Option.bind (pat_Same (⟨s38.1, x0.Suf_, x0.NPre_, s38.2.1, s38.2.2.1, x0.Hash_, s38.2.2.2.1, x0.MinFrac_, x0.MaxFrac_, x0.G1_, s38.2.2.2.2.1, x0.MinSig_, s38.2.2.2.2.2.1, x0.Exp_, s38.2.2.2.2.2.2.1, s38.2.2.2.2.2.2.2, x0.PadAt_⟩ : St23) x0) fun y109 => (some (!y109))) else (some false))) else (some false))) else (some false)) fun (s89 : Bool) => (some s89))))))
theorem exerguelaw10_PatSames_ok {x0 : St23} {x1 : St33} {x2 : Int} {r : Bool} (h : exerguelaw10_PatSames x0 x1 x2 = some r) : SC Try.prog 6 [.agg (encSt23 x0), .agg (encSt33 x1), .int .u8 x2] [] (.bool r) [] := by
 refine kFn (fn := Try.f6) (fun F hFn hFH hFD => ?_)
 unfold exerguelaw10_PatSames at h
 refine kSR ?_
 refine kC 3 [2,3,4,6] ?_
 refine kEN ?_
 refine kSR ?_
 obtain ⟨y1, hy2, h3⟩ := bindS h
 refine kA 9 (exerguelaw10_shown_ok hy2) ?_
 refine kC 1 [2,3,4,6,7] ?_
 refine kEN ?_
 refine kS ?_
 refine kSR ?_
 refine kC 1 [2,3,4,6,7,10] ?_
 obtain ⟨y4, hy5, h6⟩ := bindS h3
 refine kA 11 (exergueref10_Few_ok hy5) ?_
 refine kC 1 [2,3,4,6,7,12] ?_
 refine kEN ?_
 refine kBJ 12 h6 (fun h8 => ?_) (fun h9 => ?_)
 ·refine kT ?_
  refine kSR ?_
  refine kC 2 [2,3,4,6,7] ?_
  refine kEN ?_
  refine kX ?_
  refine PJ.passRet ?_
  obtain rfl := oi h8
  exact kZ hFn hFH hFD
 ·refine kF ?_
  refine kK ?_
  refine PJ.next ?_
  refine kSR ?_
  refine kC 3 [2,3,4,6,7,8] ?_
  refine kEN ?_
  obtain ⟨s38, hy40, h42⟩ := bindS h9
  refine K.cutN (by kernel_rfl) (fun (s38 : (List St33) × (List St33) × Bool × Int × Int × Int × Bool × Int) => ([(3, .ptr 0 0), (6, .bool false), (7, .bool y1), (8, .ptr 1 0)], [.box (encSt23 x0), .box [lsv encSt33 2 s38.1, lsv encSt33 2 x0.Suf_, lsv encSt33 2 x0.NPre_, lsv encSt33 2 s38.2.1, .bool s38.2.2.1, .int .i64 x0.Hash_, .int .i64 s38.2.2.2.1, .int .i64 x0.MinFrac_, .int .i64 x0.MaxFrac_, .int .i64 x0.G1_, .int .i64 s38.2.2.2.2.1, .int .i64 x0.MinSig_, .int .i64 s38.2.2.2.2.2.1, .int .i64 x0.Exp_, .bool s38.2.2.2.2.2.2.1, .int .i32 s38.2.2.2.2.2.2.2, .int .i64 x0.PadAt_]])) s38 ?_ ?_
  ·refine kSR ?_
   refine kC 2 [3,4,6,7,8,16] ?_
   refine kEN ?_
   refine kb 0 ?_
   refine kSR ?_
   refine kC 2 [3,4,6,7,8,16,17] ?_
   refine kEN ?_
   refine kBJ 17 hy40 (fun h44 => ?_) (fun h45 => ?_)
   ·refine kT ?_
    refine J.keep [3, 4, 6, 7, 8] (L2 := [(3, .ptr 0 0), (4, .ptr 1 0), (6, .bool false), (7, .bool y1), (8, .ptr 2 0)]) (by kernel_rfl) ?_
    refine K.draw (by kernel_rfl) (by kernel_rfl) (by kernel_rfl) (H2 := [.box (encSt23 x0), .box (encSt33 x1), .box (encSt23 x0), .res, .res, .res, .res]) (by kernel_rfl) (n := 3) (by kernel_rfl) ?_
    refine kD 3 ?_
    obtain ⟨hm, h46⟩ := asrt h44
    refine RJ.rel (d := (some 22)) (ef' := ⟨.vc 4, [], [(4, .vec x0.Pre_.length 2 34 (x0.Pre_.flatMap encSt33))]⟩) (tr2 := [([], [6, 7]), ([], []), ([0, 1], []), ([], [8, 9, 8, 9])]) (H2 := [.box (encSt23 x0), .box (encSt33 x1), .box (encSt23 x0), .res, vecL encSt33 2 34 x0.Pre_, .res, .res]) (by kernel_rfl) hm (fun hc => rfl) (by kernel_rfl) ?_
    refine RJ.segD 2 (tr2 := [([], [6, 7]), ([], []), ([0, 1], []), ([], [8, 9, 8, 9]), ([2, 3], []), ([], [10, 11, 10, 11])]) (L2 := [(24, .vc 5), (23, .agg (encSt33 x1)), (22, .vc 4), (21, lsv encSt33 2 x0.Pre_), (20, .ptr 0 0), (19, .nl), (3, .ptr 0 0), (4, .ptr 1 0), (6, .bool false), (7, .bool y1), (8, .ptr 2 0)]) (H2 := [.box (encSt23 x0), .box (encSt33 x1), .box (encSt23 x0), .res, vecL encSt33 2 34 x0.Pre_, vecL encSt33 2 34 ([x1] : List St33), .res]) (by kernel_rfl) ?_
    obtain ⟨hm, h47⟩ := asrt h46
    refine RJ.rel (d := (some 25)) (ef := ⟨.vc 6, [4, 5], [(4, .gone), (6, .vec (x0.Pre_.length + ([x1] : List St33).length) 2 34 (x0.Pre_.flatMap encSt33 ++ ([x1] : List St33).flatMap encSt33))]⟩) (ef' := ⟨.vc 6, [4, 5], [(4, .gone), (6, vecL encSt33 2 34 (x0.Pre_ ++ ([x1] : List St33)))]⟩) (c := room (x0.Pre_.length + ([x1] : List St33).length)) (tr2 := [([], [6, 7]), ([], []), ([0, 1], []), ([], [8, 9, 8, 9]), ([2, 3], []), ([], [10, 11, 10, 11]), ([8, 9, 10, 11], [8, 9, 12, 13, 12, 13])]) (H2 := [.box (encSt23 x0), .box (encSt33 x1), .box (encSt23 x0), .res, .gone, vecL encSt33 2 34 ([x1] : List St33), vecL encSt33 2 34 (x0.Pre_ ++ ([x1] : List St33))]) (by kernel_rfl) hm (fun hc => N.app) (by kernel_rfl) ?_
    refine kD 2 ?_
    refine kE ?_
    refine PJ.blockNormal ?_
    obtain rfl := oi h47
    refine PJ.wk (Wk.freeze 6 (n := (x0.Pre_ ++ ([x1] : List St33)).length) (k := 2) (e := 34) (cs := (x0.Pre_ ++ ([x1] : List St33)).flatMap encSt33) (by kernel_rfl)) ?_
    refine kW (L2 := [(3, .ptr 0 0), (6, .bool false), (7, .bool y1), (8, .ptr 1 0)]) (H2 := [.box (encSt23 x0), .box [lsv encSt33 2 (x0.Pre_ ++ ([x1] : List St33)), lsv encSt33 2 x0.Suf_, lsv encSt33 2 x0.NPre_, lsv encSt33 2 x0.NSuf_, .bool x0.Neg_, .int .i64 x0.Hash_, .int .i64 x0.MinInt_, .int .i64 x0.MinFrac_, .int .i64 x0.MaxFrac_, .int .i64 x0.G1_, .int .i64 x0.G2_, .int .i64 x0.MinSig_, .int .i64 x0.MaxSig_, .int .i64 x0.Exp_, .bool x0.ExpPlus_, .int .i32 x0.Pad_, .int .i64 x0.PadAt_]]) hFH hFD [0, 2] ?_
    exact kN [3, 6, 7, 8]
   ·refine kF ?_
    refine kSR ?_
    refine kC 2 [3,4,6,7,8,16,27] ?_
    refine kEN ?_
    refine kBJ 27 h45 (fun h49 => ?_) (fun h50 => ?_)
    ·refine kT ?_
     refine J.keep [3, 4, 6, 7, 8] (L2 := [(3, .ptr 0 0), (4, .ptr 1 0), (6, .bool false), (7, .bool y1), (8, .ptr 2 0)]) (by kernel_rfl) ?_
     refine K.draw (by kernel_rfl) (by kernel_rfl) (by kernel_rfl) (H2 := [.box (encSt23 x0), .box (encSt33 x1), .box (encSt23 x0), .res, .res, .res, .res]) (by kernel_rfl) (n := 3) (by kernel_rfl) ?_
     refine RJ.segD 3 (tr2 := [([], [6, 7]), ([], []), ([0, 1], [])]) (L2 := [(31, lsv encSt33 2 x0.NSuf_), (30, .ptr 0 3), (29, .nl), (3, .ptr 0 0), (4, .ptr 1 0), (6, .bool false), (7, .bool y1), (8, .ptr 2 0)]) (H2 := [.box (encSt23 x0), .box (encSt33 x1), .box (encSt23 x0), .res, .res, .res, .res]) (by kernel_rfl) ?_
     obtain ⟨hm, h51⟩ := asrt h49
     refine RJ.rel (d := (some 32)) (ef' := ⟨.vc 4, [], [(4, .vec x0.NSuf_.length 2 34 (x0.NSuf_.flatMap encSt33))]⟩) (tr2 := [([], [6, 7]), ([], []), ([0, 1], []), ([], [8, 9, 8, 9])]) (H2 := [.box (encSt23 x0), .box (encSt33 x1), .box (encSt23 x0), .res, vecL encSt33 2 34 x0.NSuf_, .res, .res]) (by kernel_rfl) hm (fun hc => rfl) (by kernel_rfl) ?_
     refine kD 2 ?_
     obtain ⟨hm, h52⟩ := asrt h51
     refine RJ.rel (d := (some 35)) (ef := ⟨.vc 6, [4, 5], [(4, .gone), (6, .vec (x0.NSuf_.length + ([x1] : List St33).length) 2 34 (x0.NSuf_.flatMap encSt33 ++ ([x1] : List St33).flatMap encSt33))]⟩) (ef' := ⟨.vc 6, [4, 5], [(4, .gone), (6, vecL encSt33 2 34 (x0.NSuf_ ++ ([x1] : List St33)))]⟩) (c := room (x0.NSuf_.length + ([x1] : List St33).length)) (tr2 := [([], [6, 7]), ([], []), ([0, 1], []), ([], [8, 9, 8, 9]), ([2, 3], []), ([], [10, 11, 10, 11]), ([8, 9, 10, 11], [8, 9, 12, 13, 12, 13])]) (H2 := [.box (encSt23 x0), .box (encSt33 x1), .box (encSt23 x0), .res, .gone, vecL encSt33 2 34 ([x1] : List St33), vecL encSt33 2 34 (x0.NSuf_ ++ ([x1] : List St33))]) (by kernel_rfl) hm (fun hc => N.app) (by kernel_rfl) ?_
     refine kD 2 ?_
     refine kE ?_
     refine PJ.blockNormal ?_
     obtain rfl := oi h52
     refine PJ.wk (Wk.freeze 6 (n := (x0.NSuf_ ++ ([x1] : List St33)).length) (k := 2) (e := 34) (cs := (x0.NSuf_ ++ ([x1] : List St33)).flatMap encSt33) (by kernel_rfl)) ?_
     refine kW (L2 := [(3, .ptr 0 0), (6, .bool false), (7, .bool y1), (8, .ptr 1 0)]) (H2 := [.box (encSt23 x0), .box [lsv encSt33 2 x0.Pre_, lsv encSt33 2 x0.Suf_, lsv encSt33 2 x0.NPre_, lsv encSt33 2 (x0.NSuf_ ++ ([x1] : List St33)), .bool x0.Neg_, .int .i64 x0.Hash_, .int .i64 x0.MinInt_, .int .i64 x0.MinFrac_, .int .i64 x0.MaxFrac_, .int .i64 x0.G1_, .int .i64 x0.G2_, .int .i64 x0.MinSig_, .int .i64 x0.MaxSig_, .int .i64 x0.Exp_, .bool x0.ExpPlus_, .int .i32 x0.Pad_, .int .i64 x0.PadAt_]]) hFH hFD [0, 2] ?_
     exact kN [3, 6, 7, 8]
    ·refine kF ?_
     refine kSR ?_
     refine RJ.seg 2 [3, 6, 7, 8, 16, 37] (L2 := [(3, .ptr 0 0), (6, .bool false), (7, .bool y1), (8, .ptr 2 0), (16, .int .u8 (Int.tmod x2 8)), (37, .bool ((decide ((Int.tmod x2 8) = 2))))]) (H2 := [.box (encSt23 x0), .box (encSt33 x1), .box (encSt23 x0)]) (by kernel_rfl) ?_
     refine kEN ?_
     refine kBJ 37 h50 (fun h54 => ?_) (fun h55 => ?_)
     ·refine kT ?_
      refine kR ?_
      refine kC 5 [3,6,7,8] ?_
      refine kE ?_
      refine PJ.blockNormal ?_
      obtain rfl := oi h54
      refine kW (L2 := [(3, .ptr 0 0), (6, .bool false), (7, .bool y1), (8, .ptr 1 0)]) (H2 := [.box (encSt23 x0), .box [lsv encSt33 2 x0.Pre_, lsv encSt33 2 x0.Suf_, lsv encSt33 2 x0.NPre_, lsv encSt33 2 x0.NSuf_, .bool x0.Neg_, .int .i64 x0.Hash_, .int .i64 (IntKind.wrap .i64 (x0.MinInt_ + 1)), .int .i64 x0.MinFrac_, .int .i64 x0.MaxFrac_, .int .i64 x0.G1_, .int .i64 x0.G2_, .int .i64 x0.MinSig_, .int .i64 x0.MaxSig_, .int .i64 x0.Exp_, .bool x0.ExpPlus_, .int .i32 x0.Pad_, .int .i64 x0.PadAt_]]) hFH hFD [0, 2] ?_
      exact kN [3, 6, 7, 8]
     ·refine kF ?_
      refine kSR ?_
      refine kC 2 [3,6,7,8,16,43] ?_
      refine kEN ?_
      refine kBJ 43 h55 (fun h57 => ?_) (fun h58 => ?_)
      ·refine kT ?_
       refine kR ?_
       refine kC 5 [3,6,7,8] ?_
       refine kE ?_
       refine PJ.blockNormal ?_
       obtain rfl := oi h57
       refine kW (L2 := [(3, .ptr 0 0), (6, .bool false), (7, .bool y1), (8, .ptr 1 0)]) (H2 := [.box (encSt23 x0), .box [lsv encSt33 2 x0.Pre_, lsv encSt33 2 x0.Suf_, lsv encSt33 2 x0.NPre_, lsv encSt33 2 x0.NSuf_, .bool x0.Neg_, .int .i64 x0.Hash_, .int .i64 x0.MinInt_, .int .i64 x0.MinFrac_, .int .i64 x0.MaxFrac_, .int .i64 x0.G1_, .int .i64 (IntKind.wrap .i64 (x0.G2_ + 1)), .int .i64 x0.MinSig_, .int .i64 x0.MaxSig_, .int .i64 x0.Exp_, .bool x0.ExpPlus_, .int .i32 x0.Pad_, .int .i64 x0.PadAt_]]) hFH hFD [0, 2] ?_
       exact kN [3, 6, 7, 8]
      ·refine kF ?_
       refine kSR ?_
       refine kC 2 [3,6,7,8,16,49] ?_
       refine kEN ?_
       refine kBJ 49 h58 (fun h60 => ?_) (fun h61 => ?_)
       ·refine kT ?_
        refine kR ?_
        refine kC 5 [3,6,7,8] ?_
        refine kE ?_
        refine PJ.blockNormal ?_
        obtain rfl := oi h60
        refine kW (L2 := [(3, .ptr 0 0), (6, .bool false), (7, .bool y1), (8, .ptr 1 0)]) (H2 := [.box (encSt23 x0), .box [lsv encSt33 2 x0.Pre_, lsv encSt33 2 x0.Suf_, lsv encSt33 2 x0.NPre_, lsv encSt33 2 x0.NSuf_, .bool (!x0.Neg_), .int .i64 x0.Hash_, .int .i64 x0.MinInt_, .int .i64 x0.MinFrac_, .int .i64 x0.MaxFrac_, .int .i64 x0.G1_, .int .i64 x0.G2_, .int .i64 x0.MinSig_, .int .i64 x0.MaxSig_, .int .i64 x0.Exp_, .bool x0.ExpPlus_, .int .i32 x0.Pad_, .int .i64 x0.PadAt_]]) hFH hFD [0, 2] ?_
        exact kN [3, 6, 7, 8]
       ·refine kF ?_
        refine kSR ?_
        refine kC 2 [3,6,7,8,16,55] ?_
        refine kEN ?_
        refine kBJ 55 h61 (fun h63 => ?_) (fun h64 => ?_)
        ·refine kT ?_
         refine kR ?_
         refine kC 5 [3,6,7,8] ?_
         refine kE ?_
         refine PJ.blockNormal ?_
         obtain rfl := oi h63
         refine kW (L2 := [(3, .ptr 0 0), (6, .bool false), (7, .bool y1), (8, .ptr 1 0)]) (H2 := [.box (encSt23 x0), .box [lsv encSt33 2 x0.Pre_, lsv encSt33 2 x0.Suf_, lsv encSt33 2 x0.NPre_, lsv encSt33 2 x0.NSuf_, .bool x0.Neg_, .int .i64 x0.Hash_, .int .i64 x0.MinInt_, .int .i64 x0.MinFrac_, .int .i64 x0.MaxFrac_, .int .i64 x0.G1_, .int .i64 x0.G2_, .int .i64 x0.MinSig_, .int .i64 x0.MaxSig_, .int .i64 x0.Exp_, .bool x0.ExpPlus_, .int .i32 (IntKind.wrap .i32 (x0.Pad_ + 1)), .int .i64 x0.PadAt_]]) hFH hFD [0, 2] ?_
         exact kN [3, 6, 7, 8]
        ·refine kF ?_
         refine kSR ?_
         refine kC 2 [3,6,7,8,16,61] ?_
         refine kEN ?_
         refine kBJ 61 h64 (fun h66 => ?_) (fun h67 => ?_)
         ·refine kT ?_
          refine kR ?_
          refine kC 5 [3,6,7,8] ?_
          refine kE ?_
          refine PJ.blockNormal ?_
          obtain rfl := oi h66
          refine kW (L2 := [(3, .ptr 0 0), (6, .bool false), (7, .bool y1), (8, .ptr 1 0)]) (H2 := [.box (encSt23 x0), .box [lsv encSt33 2 x0.Pre_, lsv encSt33 2 x0.Suf_, lsv encSt33 2 x0.NPre_, lsv encSt33 2 x0.NSuf_, .bool x0.Neg_, .int .i64 x0.Hash_, .int .i64 x0.MinInt_, .int .i64 x0.MinFrac_, .int .i64 x0.MaxFrac_, .int .i64 x0.G1_, .int .i64 x0.G2_, .int .i64 x0.MinSig_, .int .i64 (IntKind.wrap .i64 (x0.MaxSig_ + 1)), .int .i64 x0.Exp_, .bool x0.ExpPlus_, .int .i32 x0.Pad_, .int .i64 x0.PadAt_]]) hFH hFD [0, 2] ?_
          exact kN [3, 6, 7, 8]
         ·refine kF ?_
          refine kSR ?_
          refine kC 2 [3,6,7,8,67] ?_
          refine kEN ?_
          refine kBJ 67 h67 (fun h69 => ?_) (fun h70 => ?_)
          ·refine kT ?_
           refine kR ?_
           refine kC 5 [3,6,7,8] ?_
           refine kE ?_
           refine PJ.blockNormal ?_
           obtain rfl := oi h69
           refine kW (L2 := [(3, .ptr 0 0), (6, .bool false), (7, .bool y1), (8, .ptr 1 0)]) (H2 := [.box (encSt23 x0), .box [lsv encSt33 2 x0.Pre_, lsv encSt33 2 x0.Suf_, lsv encSt33 2 x0.NPre_, lsv encSt33 2 x0.NSuf_, .bool x0.Neg_, .int .i64 x0.Hash_, .int .i64 x0.MinInt_, .int .i64 x0.MinFrac_, .int .i64 x0.MaxFrac_, .int .i64 x0.G1_, .int .i64 x0.G2_, .int .i64 x0.MinSig_, .int .i64 x0.MaxSig_, .int .i64 x0.Exp_, .bool (!x0.ExpPlus_), .int .i32 x0.Pad_, .int .i64 x0.PadAt_]]) hFH hFD [0, 2] ?_
           exact kN [3, 6, 7, 8]
          ·refine kF ?_
           refine kK ?_
           refine PJ.blockNormal ?_
           obtain rfl := oi h70
           refine kW (L2 := [(3, .ptr 0 0), (6, .bool false), (7, .bool y1), (8, .ptr 1 0)]) (H2 := [.box (encSt23 x0), .box (encSt23 x0)]) hFH hFD [0, 2] ?_
           exact kN [3, 6, 7, 8]
  ·obtain ⟨s89, hy91, h93⟩ := bindS h42
   refine K.cutN (by kernel_rfl) (fun (s89 : Bool) => ([(6, .bool s89)], [])) s89 ?_ ?_
   ·refine kR ?_
    refine kC 2 [3,6,8,74] ?_
    refine kB 74 hy91 (fun h95 => ?_) (fun h96 => ?_)
    ·refine kC 2 [3,6,8,74,75,76] ?_
     obtain ⟨y97, hy98, h99⟩ := bindS h95
     refine kA 77 (pat_Same_ok hy98) ?_
     refine kC 2 [3,6,8,79] ?_
     refine kB 79 h99 (fun h101 => ?_) (fun h102 => ?_)
     ·refine kC 2 [3,6,8,79,80,81] ?_
      obtain ⟨y103, hy104, h105⟩ := bindS h101
      refine kA 82 (pat_Same_ok hy104) ?_
      refine kC 3 [3,6,8,85] ?_
      refine kB 85 h105 (fun h107 => ?_) (fun h108 => ?_)
      ·refine kC 2 [6,85,86,87] ?_
       obtain ⟨y109, hy110, h111⟩ := bindS h107
       refine kA 88 (pat_Same_ok hy110) ?_
       refine kC 3 [6] ?_
       refine kE ?_
       obtain rfl := oi h111
       refine kW (L2 := [(6, .bool (!y109))]) (H2 := []) hFH hFD [] ?_
       exact kN [6]
      ·refine kC 6 [6] ?_
       refine kE ?_
       obtain rfl := oi h108
       refine kW (L2 := [(6, .bool false)]) (H2 := []) hFH hFD [] ?_
       exact kN [6]
     ·refine kC 12 [6] ?_
      refine kE ?_
      obtain rfl := oi h102
      refine kW (L2 := [(6, .bool false)]) (H2 := []) hFH hFD [] ?_
      exact kN [6]
    ·refine kC 17 [6] ?_
     refine kE ?_
     obtain rfl := oi h96
     refine kW (L2 := [(6, .bool false)]) (H2 := []) hFH hFD [] ?_
     exact kN [6]
   ·refine kX ?_
    obtain rfl := oi h93
    exact kZ hFn hFH hFD
end Go.Proofs.Ytdflcknbelpflaa
