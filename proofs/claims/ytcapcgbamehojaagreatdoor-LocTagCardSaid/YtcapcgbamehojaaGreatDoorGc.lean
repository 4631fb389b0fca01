/-
  What the functions of this program come to, as functions of natives, each with the proof that it does. No conditions.
-/
import Derived.Test.YtcapcgbamehojaaGreatDoorProg
import Derived.Test.YtcapcgbamehojaaGreatDoorSySL
import Derived.Test.YtcapcgbamehojaaGreatDoorGb
namespace Go.Proofs.YtcapcgbamehojaaGreatDoor
open Go Go.Sy Go.RowKit
set_option linter.unusedVariables false
set_option linter.unusedSimpArgs false
set_option maxRecDepth 100000
set_option maxHeartbeats 4000000
def loc_checker__confused (x0 : St93) : Option (Int × Bool) :=
 (Option.bind (loc_Pattern x0.Locale_.S_ 0 x0.Locale_.Pats_.a0_) fun y4 => (Option.bind (loc_around x0.Locale_.S_ y4.1 ([] : List Int)) fun y3 => (Option.bind (loopN (fun (s0 : Int × (List St144)) => (bif (decide (s0.1 < (x0.Locale_.Comps_.length : Int))) then (Option.bind (bif inR s0.1 x0.Locale_.Comps_.length then (Option.bind (loc_Short x0.Locale_.S_ (nth x0.Locale_.Comps_ s0.1)) fun y2 => (Option.bind (loc_around x0.Locale_.S_ y2.1 ([] : List Int)) fun y0 => (Option.bind (loc_Power (nth x0.Locale_.Comps_ s0.1) y2.1) fun y1 => (bif room (s0.2.length + ([(⟨y0, y1⟩ : St144)] : List St144).length) then (loopN (fun (s1 : Int) => (bif (decide (s1 < ((((s0.2 ++ ([(⟨y0, y1⟩ : St144)] : List St144))).length : Int)))) then (bif inR s1 ((s0.2 ++ ([(⟨y0, y1⟩ : St144)] : List St144))).length then (bif inR s1 ((s0.2 ++ ([(⟨y0, y1⟩ : St144)] : List St144))).length then (bif inR (IntKind.wrap .i64 (s0.1 + 1)) ((s0.2 ++ ([(⟨y0, y1⟩ : St144)] : List St144))).length then (bif inR (IntKind.wrap .i64 (s0.1 + 1)) ((s0.2 ++ ([(⟨y0, y1⟩ : St144)] : List St144))).length then (Option.bind (loc_alike ((⟨(⟨(((nth ((s0.2 ++ ([(⟨y0, y1⟩ : St144)] : List St144))) s1).around_).a0_), (((nth ((s0.2 ++ ([(⟨y0, y1⟩ : St144)] : List St144))) s1).around_).a1_), (((nth ((s0.2 ++ ([(⟨y0, y1⟩ : St144)] : List St144))) s1).around_).a2_)⟩ : St124), (nth ((s0.2 ++ ([(⟨y0, y1⟩ : St144)] : List St144))) s1).power_⟩ : St144)) ((⟨(⟨(((nth ((s0.2 ++ ([(⟨y0, y1⟩ : St144)] : List St144))) (IntKind.wrap .i64 (s0.1 + 1))).around_).a0_), (((nth ((s0.2 ++ ([(⟨y0, y1⟩ : St144)] : List St144))) (IntKind.wrap .i64 (s0.1 + 1))).around_).a1_), (((nth ((s0.2 ++ ([(⟨y0, y1⟩ : St144)] : List St144))) (IntKind.wrap .i64 (s0.1 + 1))).around_).a2_)⟩ : St124), (nth ((s0.2 ++ ([(⟨y0, y1⟩ : St144)] : List St144))) (IntKind.wrap .i64 (s0.1 + 1))).power_⟩ : St144))) fun y5 => (bif y5 then none else (some (.inl (IntKind.wrap .i64 (s1 + 1)))))) else none) else none) else none) else none) else (some (.inr ((s0.2 ++ ([(⟨y0, y1⟩ : St144)] : List St144))))))) big 0) else none)))) else none) fun (s2 : (List St144)) => (some (.inl ((IntKind.wrap .i64 (s0.1 + 1)), s2)))) else (some (.inr ())))) big (0, ([(⟨y3, 0⟩ : St144)] : List St144))) fun (s3 : Unit) => (some (0, true)))))
theorem loc_checker__confused_ok {x0 : St93} {r : Int × Bool} (h : loc_checker__confused x0 = some r) : SC Tryz.prog 58 [.agg (encSt93 x0)] [] (.tup [iL r.1, .bool r.2]) [] := by
 refine kFn (fn := Tryz.f58) (fun F hFn hFH hFD => ?_)
 unfold loc_checker__confused at h
 refine kSR ?_
 refine kC 3 [1,2,3] ?_
 refine kEN ?_
 refine kSR ?_
 refine kC 7 [1,2,3,16,20] ?_
 obtain ⟨y4, hy0, h0⟩ := bindS h
 refine kA 21 (loc_Pattern_ok hy0) ?_
 refine kC 6 [1,2,3,4] ?_
 refine kEN ?_
 refine kSR ?_
 refine kC 4 [1,2,3,26,27] ?_
 obtain ⟨y3, hy1, h1⟩ := bindS h0
 refine RJ.call0 (d := (some 28)) (f := 80) (args := [.agg (encSt22 x0.Locale_.S_), .agg (encSt32 y4.1), .nl]) (v := .agg (encSt124 y3)) (tr2 := []) (by kernel_rfl) (by kernel_rfl) (.cons (Le.refl _) (.cons (Le.refl _) (.cons (Le.nl _) .nil))) (loc_around_ok hy1) (by kernel_rfl) ?_
 refine kC 3 [1,2,3,6] ?_
 refine kEN ?_
 obtain ⟨s3, hy2, h2⟩ := bindS h1
 refine K.cutN (by kernel_rfl) (fun (s3 : Unit) => ([(2, iL 0), (3, .bool false)], [])) s3 ?_ ?_
 ·refine kSR ?_
  refine kC 5 [1,2,3,6,33,34,35] ?_
  refine kEN ?_
  refine kb 0 ?_
  refine J.wk (Wk.sel (L2 := [(1, .ptr 0 0), (2, iL 0), (3, .bool false), (6, .vc 1), (33, lsv encSt25 3 x0.Locale_.Comps_), (34, iL (x0.Locale_.Comps_.length : Int)), (35, iL 0)]) (H2 := [.box (encSt93 x0), vecL encSt144 7 145 ([(⟨y3, 0⟩ : St144)] : List St144)]) 0 (by rw [hFH]; rfl) hFD [0, 2] (by kernel_rfl) (by kernel_rfl) (by decide) (by kernel_rfl) (by kernel_rfl) (by kernel_rfl) (by kernel_rfl)) ?_
  refine kl (fun (s0 : Int × (List St144)) => ([(1, .ptr 0 0), (2, iL 0), (3, .bool false), (6, .vc 1), (33, lsv encSt25 3 x0.Locale_.Comps_), (34, iL (x0.Locale_.Comps_.length : Int)), (35, iL s0.1)], [.box (encSt93 x0), vecL encSt144 7 145 s0.2])) hy2 [1, 2, 3, 6, 33, 34, 35] (fun s0 x657 hs0 => ?_)
  refine kSR ?_
  refine kC 1 [1,2,3,6,33,34,35,36] ?_
  refine kEN ?_
  refine kS ?_
  refine kBJ 36 hs0 (fun h3 => ?_) (fun h4 => ?_)
  ·refine kT ?_
   refine kK ?_
   refine PJ.next ?_
   obtain ⟨s2, hy3, h5⟩ := bindS h3
   refine K.cutN (by kernel_rfl) (fun (s2 : (List St144)) => ([(1, .ptr 0 0), (2, iL 0), (3, .bool false), (6, .vc 1), (33, lsv encSt25 3 x0.Locale_.Comps_), (34, iL (x0.Locale_.Comps_.length : Int)), (35, iL s0.1)], [.box (encSt93 x0), vecL encSt144 7 145 s2])) s2 ?_ ?_
   ·refine kb 1 ?_
    refine kSR ?_
    refine kC 1 [1,2,3,6,33,34,35,37] ?_
    obtain ⟨hm, h6⟩ := asrt hy3
    refine kI 38 encSt25_len hm ?_
    refine kC 4 [1,2,3,6,7,8,33,34,35] ?_
    refine kEN ?_
    refine kSR ?_
    refine kC 4 [1,2,3,6,7,8,33,34,35,43,44] ?_
    obtain ⟨y2, hy4, h7⟩ := bindS h6
    refine kA 45 (loc_Short_ok hy4) ?_
    refine kC 6 [1,2,3,6,7,8,9,33,34,35] ?_
    refine kEN ?_
    refine kS ?_
    refine J.keep [1, 2, 3, 6, 7, 8, 9, 33, 34, 35] (L2 := [(1, .ptr 0 0), (2, iL 0), (3, .bool false), (6, .vc 1), (7, iL s0.1), (8, .ptr 2 0), (9, .ptr 3 0), (33, lsv encSt25 3 x0.Locale_.Comps_), (34, iL (x0.Locale_.Comps_.length : Int)), (35, iL s0.1)]) (by kernel_rfl) ?_
    refine K.draw (by kernel_rfl) (by kernel_rfl) (by kernel_rfl) (H2 := [.box (encSt93 x0), vecL encSt144 7 145 s0.2, .box [iL ((nth x0.Locale_.Comps_ s0.1).Mag_), iL ((nth x0.Locale_.Comps_ s0.1).Cat_), .str ((nth x0.Locale_.Comps_ s0.1).Pat_)], .box (encSt32 y2.1), .res, .res, .res, .res]) (by kernel_rfl) (n := 4) (by kernel_rfl) ?_
    refine kD 5 ?_
    obtain ⟨y0, hy5, h8⟩ := bindS h7
    refine RJ.call0 (d := (some 53)) (f := 80) (args := [.agg (encSt22 x0.Locale_.S_), .agg (encSt32 y2.1), .nl]) (v := .agg (encSt124 y0)) (tr2 := [([], []), ([], []), ([], []), ([0, 1], []), ([6, 7], []), ([], [8, 9])]) (by kernel_rfl) (by kernel_rfl) (.cons (Le.refl _) (.cons (Le.refl _) (.cons (Le.nl _) .nil))) (loc_around_ok hy5) (by kernel_rfl) ?_
    refine kD 2 ?_
    obtain ⟨y1, hy6, h9⟩ := bindS h8
    refine RJ.call0 (d := (some 56)) (f := 18) (args := [.agg [iL ((nth x0.Locale_.Comps_ s0.1).Mag_), iL ((nth x0.Locale_.Comps_ s0.1).Cat_), .str ((nth x0.Locale_.Comps_ s0.1).Pat_)], .agg (encSt32 y2.1)]) (v := iL y1) (tr2 := [([], []), ([], []), ([], []), ([0, 1], []), ([6, 7], []), ([], [8, 9]), ([4, 5], []), ([6, 7], []), ([], [10, 11])]) (by kernel_rfl) (by kernel_rfl) (.cons (Le.refl _) (.cons (Le.refl _) .nil)) (loc_Power_ok hy6) (by kernel_rfl) ?_
    refine kD 2 ?_
    obtain ⟨hm, h10⟩ := asrt h9
    refine RJ.rel (d := (some 59)) (ef := ⟨.vc 7, [1, 6], [(1, .gone), (7, .vec (s0.2.length + ([(⟨y0, y1⟩ : St144)] : List St144).length) 7 145 (s0.2.flatMap encSt144 ++ ([(⟨y0, y1⟩ : St144)] : List St144).flatMap encSt144))]⟩) (ef' := ⟨.vc 7, [1, 6], [(1, .gone), (7, vecL encSt144 7 145 (s0.2 ++ ([(⟨y0, y1⟩ : St144)] : List St144)))]⟩) (c := room (s0.2.length + ([(⟨y0, y1⟩ : St144)] : List St144).length)) (tr2 := [([], []), ([], []), ([], []), ([0, 1], []), ([6, 7], []), ([], [8, 9]), ([4, 5], []), ([6, 7], []), ([], [10, 11]), ([], []), ([], [12, 13, 12, 13]), ([2, 3, 12, 13], [2, 3, 14, 15, 14, 15])]) (H2 := [.box (encSt93 x0), .gone, .box [iL ((nth x0.Locale_.Comps_ s0.1).Mag_), iL ((nth x0.Locale_.Comps_ s0.1).Cat_), .str ((nth x0.Locale_.Comps_ s0.1).Pat_)], .box (encSt32 y2.1), .res, .res, vecL encSt144 7 145 ([(⟨y0, y1⟩ : St144)] : List St144), vecL encSt144 7 145 ((s0.2 ++ ([(⟨y0, y1⟩ : St144)] : List St144)))]) (by kernel_rfl) hm (fun hc => N.app) (by kernel_rfl) ?_
    refine RJ.segD 1 (tr2 := [([], []), ([], []), ([], []), ([0, 1], []), ([6, 7], []), ([], [8, 9]), ([4, 5], []), ([6, 7], []), ([], [10, 11]), ([], []), ([], [12, 13, 12, 13]), ([2, 3, 12, 13], [2, 3, 14, 15, 14, 15]), ([], [])]) (L2 := [(6, .vc 7), (59, .vc 7), (58, .vc 6), (57, .agg [lR y0.a0_.Pre_, lR y0.a0_.Suf_, lR y0.a1_.Pre_, lR y0.a1_.Suf_, lR y0.a2_.Pre_, lR y0.a2_.Suf_, iL y1]), (56, iL y1), (55, .agg (encSt32 y2.1)), (54, .agg [iL ((nth x0.Locale_.Comps_ s0.1).Mag_), iL ((nth x0.Locale_.Comps_ s0.1).Cat_), .str ((nth x0.Locale_.Comps_ s0.1).Pat_)]), (53, .agg (encSt124 y0)), (52, .agg (encSt32 y2.1)), (51, .agg (encSt22 x0.Locale_.S_)), (50, .ptr 0 1), (49, .ptr 0 0), (48, .vc 1), (1, .ptr 0 0), (2, iL 0), (3, .bool false), (6, .vc 1), (7, iL s0.1), (8, .ptr 2 0), (9, .ptr 3 0), (33, lsv encSt25 3 x0.Locale_.Comps_), (34, iL (x0.Locale_.Comps_.length : Int)), (35, iL s0.1)]) (H2 := [.box (encSt93 x0), .gone, .box [iL ((nth x0.Locale_.Comps_ s0.1).Mag_), iL ((nth x0.Locale_.Comps_ s0.1).Cat_), .str ((nth x0.Locale_.Comps_ s0.1).Pat_)], .box (encSt32 y2.1), .res, .res, vecL encSt144 7 145 ([(⟨y0, y1⟩ : St144)] : List St144), vecL encSt144 7 145 ((s0.2 ++ ([(⟨y0, y1⟩ : St144)] : List St144)))]) (by kernel_rfl) ?_
    refine kEN ?_
    refine kSR ?_
    refine kC 3 [1,2,3,6,7,33,34,35,60,61,62] ?_
    refine kEN ?_
    refine kb 2 ?_
    refine J.wk (Wk.sel (L2 := [(1, .ptr 0 0), (2, iL 0), (3, .bool false), (6, .vc 1), (7, iL s0.1), (33, lsv encSt25 3 x0.Locale_.Comps_), (34, iL (x0.Locale_.Comps_.length : Int)), (35, iL s0.1), (60, .vc 1), (61, iL ((((s0.2 ++ ([(⟨y0, y1⟩ : St144)] : List St144))).length : Int))), (62, iL 0)]) (H2 := [.box (encSt93 x0), vecL encSt144 7 145 ((s0.2 ++ ([(⟨y0, y1⟩ : St144)] : List St144)))]) 0 (by rw [hFH]; rfl) hFD [0, 7] (by kernel_rfl) (by kernel_rfl) (by decide) (by kernel_rfl) (by kernel_rfl) (by kernel_rfl) (by kernel_rfl)) ?_
    refine kl (fun (s1 : Int) => ([(1, .ptr 0 0), (2, iL 0), (3, .bool false), (6, .vc 1), (7, iL s0.1), (33, lsv encSt25 3 x0.Locale_.Comps_), (34, iL (x0.Locale_.Comps_.length : Int)), (35, iL s0.1), (60, .vc 1), (61, iL ((((s0.2 ++ ([(⟨y0, y1⟩ : St144)] : List St144))).length : Int))), (62, iL s1)], [.box (encSt93 x0), vecL encSt144 7 145 ((s0.2 ++ ([(⟨y0, y1⟩ : St144)] : List St144)))])) h10 [1, 2, 3, 6, 7, 33, 34, 35, 60, 61, 62] (fun s1 x768 hs1 => ?_)
    refine kSR ?_
    refine kC 1 [1,2,3,6,7,33,34,35,60,61,62,63] ?_
    refine kEN ?_
    refine kS ?_
    refine kBJ 63 hs1 (fun h11 => ?_) (fun h12 => ?_)
    ·refine kT ?_
     refine kK ?_
     refine PJ.next ?_
     refine kS ?_
     refine kb 3 ?_
     refine kSR ?_
     obtain ⟨hm, h13⟩ := asrt h11
     refine kQ 64 (.ptr 1 ((s1 : Int).toNat * 7)) [1] (tr2 := []) hm ?_
     obtain ⟨hm, h14⟩ := asrt h13
     refine RJ.loadS (d := (some 65)) (i := 1) (enc := encSt144) (k := 7) (xs := ((s0.2 ++ ([(⟨y0, y1⟩ : St144)] : List St144)))) (j := s1) (tr2 := []) (by kernel_rfl) encSt144_len hm ?_
     refine kC 2 [1,2,3,6,7,12,33,34,35,60,61,62] ?_
     refine kEN ?_
     refine kS ?_
     refine J.keep [1, 2, 3, 6, 7, 12, 33, 34, 35, 60, 61, 62] (L2 := [(1, .ptr 0 0), (2, iL 0), (3, .bool false), (6, .vc 1), (7, iL s0.1), (12, .ptr 2 0), (33, lsv encSt25 3 x0.Locale_.Comps_), (34, iL (x0.Locale_.Comps_.length : Int)), (35, iL s0.1), (60, .vc 1), (61, iL ((((s0.2 ++ ([(⟨y0, y1⟩ : St144)] : List St144))).length : Int))), (62, iL s1)]) (by kernel_rfl) ?_
     refine K.draw (by kernel_rfl) (by kernel_rfl) (by kernel_rfl) (H2 := [.box (encSt93 x0), vecL encSt144 7 145 ((s0.2 ++ ([(⟨y0, y1⟩ : St144)] : List St144))), .box [lR ((((nth ((s0.2 ++ ([(⟨y0, y1⟩ : St144)] : List St144))) s1).around_).a0_).Pre_), lR ((((nth ((s0.2 ++ ([(⟨y0, y1⟩ : St144)] : List St144))) s1).around_).a0_).Suf_), lR ((((nth ((s0.2 ++ ([(⟨y0, y1⟩ : St144)] : List St144))) s1).around_).a1_).Pre_), lR ((((nth ((s0.2 ++ ([(⟨y0, y1⟩ : St144)] : List St144))) s1).around_).a1_).Suf_), lR ((((nth ((s0.2 ++ ([(⟨y0, y1⟩ : St144)] : List St144))) s1).around_).a2_).Pre_), lR ((((nth ((s0.2 ++ ([(⟨y0, y1⟩ : St144)] : List St144))) s1).around_).a2_).Suf_), iL ((nth ((s0.2 ++ ([(⟨y0, y1⟩ : St144)] : List St144))) s1).power_)], .res]) (by kernel_rfl) (n := 3) (by kernel_rfl) ?_
     refine kD 4 ?_
     obtain ⟨hm, h15⟩ := asrt h14
     refine kQ 70 (.ptr 1 (((IntKind.wrap .i64 (s0.1 + 1)) : Int).toNat * 7)) [1] (tr2 := [([4, 5], []), ([], []), ([], []), ([], []), ([3], [])]) hm ?_
     obtain ⟨hm, h16⟩ := asrt h15
     refine RJ.loadS (d := (some 71)) (i := 1) (enc := encSt144) (k := 7) (xs := ((s0.2 ++ ([(⟨y0, y1⟩ : St144)] : List St144)))) (j := (IntKind.wrap .i64 (s0.1 + 1))) (tr2 := [([4, 5], []), ([], []), ([], []), ([], []), ([3], []), ([2, 3], [])]) (by kernel_rfl) encSt144_len hm ?_
     obtain ⟨y5, hy7, h17⟩ := bindS h16
     refine RJ.call0 (d := (some 72)) (f := 104) (args := [.agg [lR ((((nth ((s0.2 ++ ([(⟨y0, y1⟩ : St144)] : List St144))) s1).around_).a0_).Pre_), lR ((((nth ((s0.2 ++ ([(⟨y0, y1⟩ : St144)] : List St144))) s1).around_).a0_).Suf_), lR ((((nth ((s0.2 ++ ([(⟨y0, y1⟩ : St144)] : List St144))) s1).around_).a1_).Pre_), lR ((((nth ((s0.2 ++ ([(⟨y0, y1⟩ : St144)] : List St144))) s1).around_).a1_).Suf_), lR ((((nth ((s0.2 ++ ([(⟨y0, y1⟩ : St144)] : List St144))) s1).around_).a2_).Pre_), lR ((((nth ((s0.2 ++ ([(⟨y0, y1⟩ : St144)] : List St144))) s1).around_).a2_).Suf_), iL ((nth ((s0.2 ++ ([(⟨y0, y1⟩ : St144)] : List St144))) s1).power_)], .agg [lR ((((nth ((s0.2 ++ ([(⟨y0, y1⟩ : St144)] : List St144))) (IntKind.wrap .i64 (s0.1 + 1))).around_).a0_).Pre_), lR ((((nth ((s0.2 ++ ([(⟨y0, y1⟩ : St144)] : List St144))) (IntKind.wrap .i64 (s0.1 + 1))).around_).a0_).Suf_), lR ((((nth ((s0.2 ++ ([(⟨y0, y1⟩ : St144)] : List St144))) (IntKind.wrap .i64 (s0.1 + 1))).around_).a1_).Pre_), lR ((((nth ((s0.2 ++ ([(⟨y0, y1⟩ : St144)] : List St144))) (IntKind.wrap .i64 (s0.1 + 1))).around_).a1_).Suf_), lR ((((nth ((s0.2 ++ ([(⟨y0, y1⟩ : St144)] : List St144))) (IntKind.wrap .i64 (s0.1 + 1))).around_).a2_).Pre_), lR ((((nth ((s0.2 ++ ([(⟨y0, y1⟩ : St144)] : List St144))) (IntKind.wrap .i64 (s0.1 + 1))).around_).a2_).Suf_), iL ((nth ((s0.2 ++ ([(⟨y0, y1⟩ : St144)] : List St144))) (IntKind.wrap .i64 (s0.1 + 1))).power_)]]) (v := .bool y5) (tr2 := [([4, 5], []), ([], []), ([], []), ([], []), ([3], []), ([2, 3], []), ([], [6, 7])]) (by kernel_rfl) (by kernel_rfl) (.cons (Le.refl _) (.cons (Le.refl _) .nil)) (loc_alike_ok hy7) (by kernel_rfl) ?_
     refine kEN ?_
     refine cT 72 h17 (fun h18 => ?_)
     refine kF ?_
     refine kK ?_
     refine PJ.blockNormal ?_
     refine PJ.next ?_
     refine kR ?_
     refine kC 2 [1,2,3,6,7,33,34,35,60,61,62] ?_
     refine kE ?_
     obtain rfl := oi h18
     refine kW (L2 := [(1, .ptr 0 0), (2, iL 0), (3, .bool false), (6, .vc 1), (7, iL s0.1), (33, lsv encSt25 3 x0.Locale_.Comps_), (34, iL (x0.Locale_.Comps_.length : Int)), (35, iL s0.1), (60, .vc 1), (61, iL ((((s0.2 ++ ([(⟨y0, y1⟩ : St144)] : List St144))).length : Int))), (62, iL (IntKind.wrap .i64 (s1 + 1)))]) (H2 := [.box (encSt93 x0), vecL encSt144 7 145 ((s0.2 ++ ([(⟨y0, y1⟩ : St144)] : List St144)))]) hFH hFD [0, 1] ?_
     exact kLN [1, 2, 3, 6, 7, 33, 34, 35, 60, 61, 62]
    ·refine kF ?_
     refine K.exit 2 (by kernel_rfl) ?_
     refine PJ.passExit ?_
     obtain rfl := oi h12
     refine PJ.loopOut (fun e => nomatch e) (fun he0 => ?_)
     have h19 := congrArg some he0
     refine PJ.blockOut ?_
     refine PJ.blockNormal ?_
     obtain rfl := oi h19
     exact kN [1, 2, 3, 6, 33, 34, 35]
   ·refine kR ?_
    refine kC 2 [1,2,3,6,33,34,35] ?_
    refine kE ?_
    obtain rfl := oi h5
    exact kLN [1, 2, 3, 6, 33, 34, 35]
  ·refine kF ?_
   refine K.exit 0 (by kernel_rfl) ?_
   refine PJ.passExit ?_
   obtain rfl := oi h4
   refine PJ.loopOut (fun e => nomatch e) (fun he1 => ?_)
   have h20 := congrArg some he1
   refine PJ.blockOut ?_
   obtain rfl := oi h20
   refine kW (L2 := [(2, iL 0), (3, .bool false)]) (H2 := []) hFH hFD [] ?_
   exact kN [2, 3]
 ·refine kSR ?_
  refine kC 2 [2,3] ?_
  refine kEN ?_
  refine kX ?_
  obtain rfl := oi h2
  exact kZ hFn hFH hFD
def loc_Check (x0 : St46) : Option (Int × Int × Int) :=
 (Option.bind (loopN (fun (s0 : Int) => (bif (decide (s0 < 7)) then (bif (decide (s0 = 0)) then (Option.bind (loc_checker__tag (⟨x0⟩ : St93)) fun y0 => (bif (!y0.2) then (some (.inr (.inr ((IntKind.wrap .i64 (0 + 1)), y0.1, 8)))) else (some (.inl (IntKind.wrap .i64 (0 + 1)))))) else (bif (decide (s0 = 1)) then (Option.bind (loc_checker__signs (⟨x0⟩ : St93)) fun y1 => (bif (!y1.2) then (some (.inr (.inr ((IntKind.wrap .i64 (1 + 1)), y1.1, 8)))) else (some (.inl (IntKind.wrap .i64 (1 + 1)))))) else (bif (decide (s0 = 2)) then (Option.bind (loc_checker__patterns (⟨x0⟩ : St93)) fun y2 => (bif (!y2.2) then (some (.inr (.inr ((IntKind.wrap .i64 (2 + 1)), y2.1, 8)))) else (some (.inl (IntKind.wrap .i64 (2 + 1)))))) else (bif (decide (s0 = 3)) then (Option.bind (loc_checker__rules (⟨x0⟩ : St93)) fun y3 => (bif (!y3.2) then (some (.inr (.inr ((IntKind.wrap .i64 (3 + 1)), y3.1, 8)))) else (some (.inl (IntKind.wrap .i64 (3 + 1)))))) else (bif (decide (s0 = 4)) then (Option.bind (loc_checker__currencies (⟨x0⟩ : St93)) fun y4 => (bif (!y4.2) then (some (.inr (.inr ((IntKind.wrap .i64 (4 + 1)), y4.1, 8)))) else (some (.inl (IntKind.wrap .i64 (4 + 1)))))) else (bif (decide (s0 = 5)) then (Option.bind (loc_checker__compacts (⟨x0⟩ : St93)) fun y5 => (bif (!y5.2) then (some (.inr (.inr ((IntKind.wrap .i64 (5 + 1)), y5.1, 8)))) else (some (.inl (IntKind.wrap .i64 (5 + 1)))))) else (bif (decide (s0 = 6)) then (Option.bind (loc_checker__confused (⟨x0⟩ : St93)) fun y6 => (bif (!y6.2) then (some (.inr (.inr ((IntKind.wrap .i64 (6 + 1)), y6.1, 8)))) else (some (.inl (IntKind.wrap .i64 (6 + 1)))))) else none))))))) else (some (.inr (.inl ()))))) big 0) (joinX fun (s1 : Unit) => (some (0, 0, 0))))
theorem loc_Check_ok {x0 : St46} {r : Int × Int × Int} (h : loc_Check x0 = some r) : SC Tryz.prog 23 [.agg (encSt46 x0)] [] (.tup [iL r.1, iL r.2.1, iL r.2.2]) [] := by
 refine kFn (fn := Tryz.f23) (fun F hFn hFH hFD => ?_)
 unfold loc_Check at h
 refine kSR ?_
 refine kC 4 [1,2,3,4] ?_
 refine kEN ?_
 refine kSR ?_
 refine kC 4 [2,3,4,5] ?_
 refine kEN ?_
 refine kSR ?_
 refine kC 17 [2,3,4,6] ?_
 refine kEN ?_
 obtain ⟨y7, hy0, h0⟩ := bindS h
 refine K.cutX (by kernel_rfl) (fun (s1 : Unit) => ([(2, iL 0), (3, iL 0), (4, iL 0)], [])) y7 ?_ (fun s1 hs => ?_)
 ·refine kSR ?_
  refine kC 2 [2,3,4,28,29] ?_
  refine kEN ?_
  refine kb 0 ?_
  refine J.wk (Wk.sel (L2 := [(2, iL 0), (3, iL 0), (4, iL 0), (28, .agg [.fn (.func 52) [.agg (encSt46 x0)] [], .fn (.func 53) [.agg (encSt46 x0)] [], .fn (.func 54) [.agg (encSt46 x0)] [], .fn (.func 55) [.agg (encSt46 x0)] [], .fn (.func 56) [.agg (encSt46 x0)] [], .fn (.func 57) [.agg (encSt46 x0)] [], .fn (.func 58) [.agg (encSt46 x0)] []]), (29, iL 0)]) (H2 := []) 0 (by rw [hFH]; rfl) hFD [] (by kernel_rfl) (by kernel_rfl) (by decide) (by kernel_rfl) (by kernel_rfl) (by kernel_rfl) (by kernel_rfl)) ?_
  refine kl (fun (s0 : Int) => ([(2, iL 0), (3, iL 0), (4, iL 0), (28, .agg [.fn (.func 52) [.agg (encSt46 x0)] [], .fn (.func 53) [.agg (encSt46 x0)] [], .fn (.func 54) [.agg (encSt46 x0)] [], .fn (.func 55) [.agg (encSt46 x0)] [], .fn (.func 56) [.agg (encSt46 x0)] [], .fn (.func 57) [.agg (encSt46 x0)] [], .fn (.func 58) [.agg (encSt46 x0)] []]), (29, iL s0)], [])) hy0 [2, 3, 4, 28, 29] (fun s0 x306 hs0 => ?_)
  refine kSR ?_
  refine kC 1 [2,3,4,28,29,30] ?_
  refine kEN ?_
  refine kS ?_
  refine kBJ 30 hs0 (fun h1 => ?_) (fun h8 => ?_)
  ·refine kT ?_
   refine kK ?_
   refine PJ.next ?_
   refine kS ?_
   refine kb 1 ?_
   refine kSR ?_
   refine kC 1 [2,3,4,28,29,31] ?_
   cases hb0 : (decide (s0 = 0))
   ·have h2 := condF hb0 h1
    cases hb1 : (decide (s0 = 1))
    ·have h3 := condF hb1 h2
     cases hb2 : (decide (s0 = 2))
     ·have h4 := condF hb2 h3
      cases hb3 : (decide (s0 = 3))
      ·have h5 := condF hb3 h4
       cases hb4 : (decide (s0 = 4))
       ·have h6 := condF hb4 h5
        cases hb5 : (decide (s0 = 5))
        ·have h7 := condF hb5 h6
         cases hb6 : (decide (s0 = 6))
         ·have h9 := condF hb6 h7
          cases h9
         ·have h10 := condT hb6 h7
          refine RJ.pin 29 (kd := .i64) (by kernel_rfl) (of_decide_eq_true hb6) ?_
          refine RJ.pin 31 (kd := .i64) (by kernel_rfl) (of_decide_eq_true hb6) ?_
          refine kC 3 [2,3,4,7,8,28,29] ?_
          refine kEN ?_
          refine kSR ?_
          refine kC 1 [2,3,4,7,28,29,34] ?_
          obtain ⟨y6, hy1, h11⟩ := bindS h10
          refine kA 35 (loc_checker__confused_ok hy1) ?_
          refine kC 5 [2,3,4,7,9,10,28,29] ?_
          refine kEN ?_
          refine kSR ?_
          refine kC 2 [2,3,4,7,9,28,29,39] ?_
          refine kEN ?_
          refine kBJ 39 h11 (fun h12 => ?_) (fun h13 => ?_)
          ·refine kT ?_
           refine kSR ?_
           refine kC 6 [2,3,4,28,29] ?_
           refine kEN ?_
           refine kX ?_
           refine PJ.blockRet ?_
           refine PJ.passRet ?_
           obtain rfl := oi h12
           refine PJ.loopOut (fun e => nomatch e) (fun he0 => ?_)
           have h14 := congrArg some he0
           refine PJ.blockRet ?_
           obtain rfl := oi h14
           have h15 := joinX_inr h0
           refine PJ.cutXr (fun e => nomatch e) ?_
           obtain rfl := oi h15
           exact kZ hFn hFH hFD
          ·refine kF ?_
           refine kK ?_
           refine PJ.blockNormal ?_
           refine PJ.next ?_
           refine kR ?_
           refine kC 2 [2,3,4,28,29] ?_
           refine kE ?_
           obtain rfl := oi h13
           exact kLN [2, 3, 4, 28, 29]
        ·have h16 := condT hb5 h6
         refine RJ.pin 29 (kd := .i64) (by kernel_rfl) (of_decide_eq_true hb5) ?_
         refine RJ.pin 31 (kd := .i64) (by kernel_rfl) (of_decide_eq_true hb5) ?_
         refine kC 3 [2,3,4,7,8,28,29] ?_
         refine kEN ?_
         refine kSR ?_
         refine kC 1 [2,3,4,7,28,29,34] ?_
         obtain ⟨y5, hy2, h17⟩ := bindS h16
         refine kA 35 (loc_checker__compacts_ok hy2) ?_
         refine kC 5 [2,3,4,7,9,10,28,29] ?_
         refine kEN ?_
         refine kSR ?_
         refine kC 2 [2,3,4,7,9,28,29,39] ?_
         refine kEN ?_
         refine kBJ 39 h17 (fun h18 => ?_) (fun h19 => ?_)
         ·refine kT ?_
          refine kSR ?_
          refine kC 6 [2,3,4,28,29] ?_
          refine kEN ?_
          refine kX ?_
          refine PJ.blockRet ?_
          refine PJ.passRet ?_
          obtain rfl := oi h18
          refine PJ.loopOut (fun e => nomatch e) (fun he1 => ?_)
          have h20 := congrArg some he1
          refine PJ.blockRet ?_
          obtain rfl := oi h20
          have h21 := joinX_inr h0
          refine PJ.cutXr (fun e => nomatch e) ?_
          obtain rfl := oi h21
          exact kZ hFn hFH hFD
         ·refine kF ?_
          refine kK ?_
          refine PJ.blockNormal ?_
          refine PJ.next ?_
          refine kR ?_
          refine kC 2 [2,3,4,28,29] ?_
          refine kE ?_
          obtain rfl := oi h19
          exact kLN [2, 3, 4, 28, 29]
       ·have h22 := condT hb4 h5
        refine RJ.pin 29 (kd := .i64) (by kernel_rfl) (of_decide_eq_true hb4) ?_
        refine RJ.pin 31 (kd := .i64) (by kernel_rfl) (of_decide_eq_true hb4) ?_
        refine kC 3 [2,3,4,7,8,28,29] ?_
        refine kEN ?_
        refine kSR ?_
        refine kC 1 [2,3,4,7,28,29,34] ?_
        obtain ⟨y4, hy3, h23⟩ := bindS h22
        refine kA 35 (loc_checker__currencies_ok hy3) ?_
        refine kC 5 [2,3,4,7,9,10,28,29] ?_
        refine kEN ?_
        refine kSR ?_
        refine kC 2 [2,3,4,7,9,28,29,39] ?_
        refine kEN ?_
        refine kBJ 39 h23 (fun h24 => ?_) (fun h25 => ?_)
        ·refine kT ?_
         refine kSR ?_
         refine kC 6 [2,3,4,28,29] ?_
         refine kEN ?_
         refine kX ?_
         refine PJ.blockRet ?_
         refine PJ.passRet ?_
         obtain rfl := oi h24
         refine PJ.loopOut (fun e => nomatch e) (fun he2 => ?_)
         have h26 := congrArg some he2
         refine PJ.blockRet ?_
         obtain rfl := oi h26
         have h27 := joinX_inr h0
         refine PJ.cutXr (fun e => nomatch e) ?_
         obtain rfl := oi h27
         exact kZ hFn hFH hFD
        ·refine kF ?_
         refine kK ?_
         refine PJ.blockNormal ?_
         refine PJ.next ?_
         refine kR ?_
         refine kC 2 [2,3,4,28,29] ?_
         refine kE ?_
         obtain rfl := oi h25
         exact kLN [2, 3, 4, 28, 29]
      ·have h28 := condT hb3 h4
       refine RJ.pin 29 (kd := .i64) (by kernel_rfl) (of_decide_eq_true hb3) ?_
       refine RJ.pin 31 (kd := .i64) (by kernel_rfl) (of_decide_eq_true hb3) ?_
       refine kC 3 [2,3,4,7,8,28,29] ?_
       refine kEN ?_
       refine kSR ?_
       refine kC 1 [2,3,4,7,28,29,34] ?_
       obtain ⟨y3, hy4, h29⟩ := bindS h28
       refine kA 35 (loc_checker__rules_ok hy4) ?_
       refine kC 5 [2,3,4,7,9,10,28,29] ?_
       refine kEN ?_
       refine kSR ?_
       refine kC 2 [2,3,4,7,9,28,29,39] ?_
       refine kEN ?_
       refine kBJ 39 h29 (fun h30 => ?_) (fun h31 => ?_)
       ·refine kT ?_
        refine kSR ?_
        refine kC 6 [2,3,4,28,29] ?_
        refine kEN ?_
        refine kX ?_
        refine PJ.blockRet ?_
        refine PJ.passRet ?_
        obtain rfl := oi h30
        refine PJ.loopOut (fun e => nomatch e) (fun he3 => ?_)
        have h32 := congrArg some he3
        refine PJ.blockRet ?_
        obtain rfl := oi h32
        have h33 := joinX_inr h0
        refine PJ.cutXr (fun e => nomatch e) ?_
        obtain rfl := oi h33
        exact kZ hFn hFH hFD
       ·refine kF ?_
        refine kK ?_
        refine PJ.blockNormal ?_
        refine PJ.next ?_
        refine kR ?_
        refine kC 2 [2,3,4,28,29] ?_
        refine kE ?_
        obtain rfl := oi h31
        exact kLN [2, 3, 4, 28, 29]
     ·have h34 := condT hb2 h3
      refine RJ.pin 29 (kd := .i64) (by kernel_rfl) (of_decide_eq_true hb2) ?_
      refine RJ.pin 31 (kd := .i64) (by kernel_rfl) (of_decide_eq_true hb2) ?_
      refine kC 3 [2,3,4,7,8,28,29] ?_
      refine kEN ?_
      refine kSR ?_
      refine kC 1 [2,3,4,7,28,29,34] ?_
      obtain ⟨y2, hy5, h35⟩ := bindS h34
      refine kA 35 (loc_checker__patterns_ok hy5) ?_
      refine kC 5 [2,3,4,7,9,10,28,29] ?_
      refine kEN ?_
      refine kSR ?_
      refine kC 2 [2,3,4,7,9,28,29,39] ?_
      refine kEN ?_
      refine kBJ 39 h35 (fun h36 => ?_) (fun h37 => ?_)
      ·refine kT ?_
       refine kSR ?_
       refine kC 6 [2,3,4,28,29] ?_
       refine kEN ?_
       refine kX ?_
       refine PJ.blockRet ?_
       refine PJ.passRet ?_
       obtain rfl := oi h36
       refine PJ.loopOut (fun e => nomatch e) (fun he4 => ?_)
       have h38 := congrArg some he4
       refine PJ.blockRet ?_
       obtain rfl := oi h38
       have h39 := joinX_inr h0
       refine PJ.cutXr (fun e => nomatch e) ?_
       obtain rfl := oi h39
       exact kZ hFn hFH hFD
      ·refine kF ?_
       refine kK ?_
       refine PJ.blockNormal ?_
       refine PJ.next ?_
       refine kR ?_
       refine kC 2 [2,3,4,28,29] ?_
       refine kE ?_
       obtain rfl := oi h37
       exact kLN [2, 3, 4, 28, 29]
    ·have h40 := condT hb1 h2
     refine RJ.pin 29 (kd := .i64) (by kernel_rfl) (of_decide_eq_true hb1) ?_
     refine RJ.pin 31 (kd := .i64) (by kernel_rfl) (of_decide_eq_true hb1) ?_
     refine kC 3 [2,3,4,7,8,28,29] ?_
     refine kEN ?_
     refine kSR ?_
     refine kC 1 [2,3,4,7,28,29,34] ?_
     obtain ⟨y1, hy6, h41⟩ := bindS h40
     refine kA 35 (loc_checker__signs_ok hy6) ?_
     refine kC 5 [2,3,4,7,9,10,28,29] ?_
     refine kEN ?_
     refine kSR ?_
     refine kC 2 [2,3,4,7,9,28,29,39] ?_
     refine kEN ?_
     refine kBJ 39 h41 (fun h42 => ?_) (fun h43 => ?_)
     ·refine kT ?_
      refine kSR ?_
      refine kC 6 [2,3,4,28,29] ?_
      refine kEN ?_
      refine kX ?_
      refine PJ.blockRet ?_
      refine PJ.passRet ?_
      obtain rfl := oi h42
      refine PJ.loopOut (fun e => nomatch e) (fun he5 => ?_)
      have h44 := congrArg some he5
      refine PJ.blockRet ?_
      obtain rfl := oi h44
      have h45 := joinX_inr h0
      refine PJ.cutXr (fun e => nomatch e) ?_
      obtain rfl := oi h45
      exact kZ hFn hFH hFD
     ·refine kF ?_
      refine kK ?_
      refine PJ.blockNormal ?_
      refine PJ.next ?_
      refine kR ?_
      refine kC 2 [2,3,4,28,29] ?_
      refine kE ?_
      obtain rfl := oi h43
      exact kLN [2, 3, 4, 28, 29]
   ·have h46 := condT hb0 h1
    refine RJ.pin 29 (kd := .i64) (by kernel_rfl) (of_decide_eq_true hb0) ?_
    refine RJ.pin 31 (kd := .i64) (by kernel_rfl) (of_decide_eq_true hb0) ?_
    refine kC 3 [2,3,4,7,8,28,29] ?_
    refine kEN ?_
    refine kSR ?_
    refine kC 1 [2,3,4,7,28,29,34] ?_
    obtain ⟨y0, hy7, h47⟩ := bindS h46
    refine kA 35 (loc_checker__tag_ok hy7) ?_
    refine kC 5 [2,3,4,7,9,10,28,29] ?_
    refine kEN ?_
    refine kSR ?_
    refine kC 2 [2,3,4,7,9,28,29,39] ?_
    refine kEN ?_
    refine kBJ 39 h47 (fun h48 => ?_) (fun h49 => ?_)
    ·refine kT ?_
     refine kSR ?_
     refine kC 6 [2,3,4,28,29] ?_
     refine kEN ?_
     refine kX ?_
     refine PJ.blockRet ?_
     refine PJ.passRet ?_
     obtain rfl := oi h48
     refine PJ.loopOut (fun e => nomatch e) (fun he6 => ?_)
     have h50 := congrArg some he6
     refine PJ.blockRet ?_
     obtain rfl := oi h50
     have h51 := joinX_inr h0
     refine PJ.cutXr (fun e => nomatch e) ?_
     obtain rfl := oi h51
     exact kZ hFn hFH hFD
    ·refine kF ?_
     refine kK ?_
     refine PJ.blockNormal ?_
     refine PJ.next ?_
     refine kR ?_
     refine kC 2 [2,3,4,28,29] ?_
     refine kE ?_
     obtain rfl := oi h49
     exact kLN [2, 3, 4, 28, 29]
  ·refine kF ?_
   refine K.exit 0 (by kernel_rfl) ?_
   refine PJ.passExit ?_
   obtain rfl := oi h8
   refine PJ.loopOut (fun e => nomatch e) (fun he7 => ?_)
   have h52 := congrArg some he7
   refine PJ.blockOut ?_
   obtain rfl := oi h52
   exact kXl [2, 3, 4]
 ·subst hs
  have h53 := joinX_inl h0
  refine kSR ?_
  refine kC 3 [2,3,4] ?_
  refine kEN ?_
  refine kX ?_
  obtain rfl := oi h53
  exact kZ hFn hFH hFD
def api_Rule_ (x0 : List St91) (x1 : List St91) : Option (Bool) :=
 (bif (decide (¬ (x0.length : Int) = (x1.length : Int))) then none else (Option.bind (loopN (fun (s0 : Int) => (bif (decide (s0 < (x0.length : Int))) then (bif inR s0 x0.length then (bif inR s0 x1.length then (bif (!((decide (((nth x0 s0).Cat_) = ((nth x1 s0).Cat_))) && ((((nth x0 s0).Text_) == ((nth x1 s0).Text_)) && true))) then none else (some (.inl (IntKind.wrap .i64 (s0 + 1))))) else none) else none) else (some (.inr ())))) big 0) fun (s1 : Unit) => (some true)))
theorem api_Rule__ok {x0 : List St91} {x1 : List St91} {r : Bool} (h : api_Rule_ x0 x1 = some r) : SC Tryz.prog 69 [lsv encSt91 2 x0, lsv encSt91 2 x1] [] (.bool r) [] := by
 refine kFn (fn := Tryz.f69) (fun F hFn hFH hFD => ?_)
 unfold api_Rule_ at h
 refine kSR ?_
 refine kC 1 [0,1,4] ?_
 refine kEN ?_
 refine kS ?_
 refine kSR ?_
 refine kC 5 [0,1,4,10] ?_
 refine kEN ?_
 refine cT 10 h (fun h0 => ?_)
 refine kF ?_
 refine kK ?_
 refine PJ.next ?_
 obtain ⟨s1, hy0, h1⟩ := bindS h0
 refine K.cutN (by kernel_rfl) (fun (s1 : Unit) => ([(4, .bool false)], [])) s1 ?_ ?_
 ·refine kSR ?_
  refine kC 3 [0,1,4,12,13] ?_
  refine kEN ?_
  refine kb 0 ?_
  refine kl (fun (s0 : Int) => ([(0, lsv encSt91 2 x0), (1, lsv encSt91 2 x1), (4, .bool false), (12, iL (x0.length : Int)), (13, iL s0)], [])) hy0 [0, 1, 4, 12, 13] (fun s0 x64 hs0 => ?_)
  refine kSR ?_
  refine kC 1 [0,1,4,12,13,14] ?_
  refine kEN ?_
  refine kS ?_
  refine kBJ 14 hs0 (fun h2 => ?_) (fun h3 => ?_)
  ·refine kT ?_
   refine kK ?_
   refine PJ.next ?_
   refine kS ?_
   refine kb 1 ?_
   refine kSR ?_
   refine kC 2 [0,1,4,5,12,13] ?_
   refine kEN ?_
   refine kS ?_
   refine J.keep [0, 1, 4, 5, 12, 13] (L2 := [(0, lsv encSt91 2 x0), (1, lsv encSt91 2 x1), (4, .bool false), (5, iL s0), (12, iL (x0.length : Int)), (13, iL s0)]) (by kernel_rfl) ?_
   refine K.draw (by kernel_rfl) (by kernel_rfl) (by kernel_rfl) (H2 := []) (by kernel_rfl) (n := 0) (by kernel_rfl) ?_
   refine kD 2 ?_
   obtain ⟨hm, h4⟩ := asrt h2
   refine kJ 18 (tr2 := [([], []), ([], []), ([], [])]) encSt91_len hm ?_
   refine kD 3 ?_
   obtain ⟨hm, h5⟩ := asrt h4
   refine kJ 22 (tr2 := [([], []), ([], []), ([], []), ([], []), ([], []), ([], []), ([], [])]) encSt91_len hm ?_
   refine kD 2 ?_
   refine kEN ?_
   refine cT 24 h5 (fun h6 => ?_)
   refine kF ?_
   refine kK ?_
   refine PJ.blockNormal ?_
   refine PJ.next ?_
   refine kR ?_
   refine kC 2 [0,1,4,12,13] ?_
   refine kE ?_
   obtain rfl := oi h6
   exact kLN [0, 1, 4, 12, 13]
  ·refine kF ?_
   refine K.exit 0 (by kernel_rfl) ?_
   refine PJ.passExit ?_
   obtain rfl := oi h3
   refine PJ.loopOut (fun e => nomatch e) (fun he0 => ?_)
   have h7 := congrArg some he0
   refine PJ.blockOut ?_
   obtain rfl := oi h7
   exact kN [4]
 ·refine kSR ?_
  refine kC 1 [4] ?_
  refine kEN ?_
  refine kX ?_
  obtain rfl := oi h1
  exact kZ hFn hFH hFD
def api_Cur_ (x0 : List St58) (x1 : List St58) : Option (Bool) :=
 (bif (decide (¬ (x0.length : Int) = (x1.length : Int))) then none else (Option.bind (loopN (fun (s0 : Int) => (bif (decide (s0 < (x0.length : Int))) then (bif inR s0 x0.length then (bif inR s0 x1.length then (bif (!((((nth x0 s0).Code_) == ((nth x1 s0).Code_)) && ((((nth x0 s0).Sign_) == ((nth x1 s0).Sign_)) && ((decide (((nth x0 s0).Digits_) = ((nth x1 s0).Digits_))) && true)))) then none else (some (.inl (IntKind.wrap .i64 (s0 + 1))))) else none) else none) else (some (.inr ())))) big 0) fun (s1 : Unit) => (some true)))
theorem api_Cur__ok {x0 : List St58} {x1 : List St58} {r : Bool} (h : api_Cur_ x0 x1 = some r) : SC Tryz.prog 70 [lsv encSt58 3 x0, lsv encSt58 3 x1] [] (.bool r) [] := by
 refine kFn (fn := Tryz.f70) (fun F hFn hFH hFD => ?_)
 unfold api_Cur_ at h
 refine kSR ?_
 refine kC 1 [0,1,4] ?_
 refine kEN ?_
 refine kS ?_
 refine kSR ?_
 refine kC 5 [0,1,4,10] ?_
 refine kEN ?_
 refine cT 10 h (fun h0 => ?_)
 refine kF ?_
 refine kK ?_
 refine PJ.next ?_
 obtain ⟨s1, hy0, h1⟩ := bindS h0
 refine K.cutN (by kernel_rfl) (fun (s1 : Unit) => ([(4, .bool false)], [])) s1 ?_ ?_
 ·refine kSR ?_
  refine kC 3 [0,1,4,12,13] ?_
  refine kEN ?_
  refine kb 0 ?_
  refine kl (fun (s0 : Int) => ([(0, lsv encSt58 3 x0), (1, lsv encSt58 3 x1), (4, .bool false), (12, iL (x0.length : Int)), (13, iL s0)], [])) hy0 [0, 1, 4, 12, 13] (fun s0 x64 hs0 => ?_)
  refine kSR ?_
  refine kC 1 [0,1,4,12,13,14] ?_
  refine kEN ?_
  refine kS ?_
  refine kBJ 14 hs0 (fun h2 => ?_) (fun h3 => ?_)
  ·refine kT ?_
   refine kK ?_
   refine PJ.next ?_
   refine kS ?_
   refine kb 1 ?_
   refine kSR ?_
   refine kC 2 [0,1,4,5,12,13] ?_
   refine kEN ?_
   refine kS ?_
   refine J.keep [0, 1, 4, 5, 12, 13] (L2 := [(0, lsv encSt58 3 x0), (1, lsv encSt58 3 x1), (4, .bool false), (5, iL s0), (12, iL (x0.length : Int)), (13, iL s0)]) (by kernel_rfl) ?_
   refine K.draw (by kernel_rfl) (by kernel_rfl) (by kernel_rfl) (H2 := []) (by kernel_rfl) (n := 0) (by kernel_rfl) ?_
   refine kD 2 ?_
   obtain ⟨hm, h4⟩ := asrt h2
   refine kJ 18 (tr2 := [([], []), ([], []), ([], [])]) encSt58_len hm ?_
   refine kD 3 ?_
   obtain ⟨hm, h5⟩ := asrt h4
   refine kJ 22 (tr2 := [([], []), ([], []), ([], []), ([], []), ([], []), ([], []), ([], [])]) encSt58_len hm ?_
   refine kD 2 ?_
   refine kEN ?_
   refine cT 24 h5 (fun h6 => ?_)
   refine kF ?_
   refine kK ?_
   refine PJ.blockNormal ?_
   refine PJ.next ?_
   refine kR ?_
   refine kC 2 [0,1,4,12,13] ?_
   refine kE ?_
   obtain rfl := oi h6
   exact kLN [0, 1, 4, 12, 13]
  ·refine kF ?_
   refine K.exit 0 (by kernel_rfl) ?_
   refine PJ.passExit ?_
   obtain rfl := oi h3
   refine PJ.loopOut (fun e => nomatch e) (fun he0 => ?_)
   have h7 := congrArg some he0
   refine PJ.blockOut ?_
   obtain rfl := oi h7
   exact kN [4]
 ·refine kSR ?_
  refine kC 1 [4] ?_
  refine kEN ?_
  refine kX ?_
  obtain rfl := oi h1
  exact kZ hFn hFH hFD
def api_Comp_ (x0 : List St25) (x1 : List St25) : Option (Bool) :=
 (bif (decide (¬ (x0.length : Int) = (x1.length : Int))) then none else (Option.bind (loopN (fun (s0 : Int) => (bif (decide (s0 < (x0.length : Int))) then (bif inR s0 x0.length then (bif inR s0 x1.length then (bif (!((decide (((nth x0 s0).Mag_) = ((nth x1 s0).Mag_))) && ((decide (((nth x0 s0).Cat_) = ((nth x1 s0).Cat_))) && ((((nth x0 s0).Pat_) == ((nth x1 s0).Pat_)) && true)))) then none else (some (.inl (IntKind.wrap .i64 (s0 + 1))))) else none) else none) else (some (.inr ())))) big 0) fun (s1 : Unit) => (some true)))
theorem api_Comp__ok {x0 : List St25} {x1 : List St25} {r : Bool} (h : api_Comp_ x0 x1 = some r) : SC Tryz.prog 71 [lsv encSt25 3 x0, lsv encSt25 3 x1] [] (.bool r) [] := by
 refine kFn (fn := Tryz.f71) (fun F hFn hFH hFD => ?_)
 unfold api_Comp_ at h
 refine kSR ?_
 refine kC 1 [0,1,4] ?_
 refine kEN ?_
 refine kS ?_
 refine kSR ?_
 refine kC 5 [0,1,4,10] ?_
 refine kEN ?_
 refine cT 10 h (fun h0 => ?_)
 refine kF ?_
 refine kK ?_
 refine PJ.next ?_
 obtain ⟨s1, hy0, h1⟩ := bindS h0
 refine K.cutN (by kernel_rfl) (fun (s1 : Unit) => ([(4, .bool false)], [])) s1 ?_ ?_
 ·refine kSR ?_
  refine kC 3 [0,1,4,12,13] ?_
  refine kEN ?_
  refine kb 0 ?_
  refine kl (fun (s0 : Int) => ([(0, lsv encSt25 3 x0), (1, lsv encSt25 3 x1), (4, .bool false), (12, iL (x0.length : Int)), (13, iL s0)], [])) hy0 [0, 1, 4, 12, 13] (fun s0 x64 hs0 => ?_)
  refine kSR ?_
  refine kC 1 [0,1,4,12,13,14] ?_
  refine kEN ?_
  refine kS ?_
  refine kBJ 14 hs0 (fun h2 => ?_) (fun h3 => ?_)
  ·refine kT ?_
   refine kK ?_
   refine PJ.next ?_
   refine kS ?_
   refine kb 1 ?_
   refine kSR ?_
   refine kC 2 [0,1,4,5,12,13] ?_
   refine kEN ?_
   refine kS ?_
   refine J.keep [0, 1, 4, 5, 12, 13] (L2 := [(0, lsv encSt25 3 x0), (1, lsv encSt25 3 x1), (4, .bool false), (5, iL s0), (12, iL (x0.length : Int)), (13, iL s0)]) (by kernel_rfl) ?_
   refine K.draw (by kernel_rfl) (by kernel_rfl) (by kernel_rfl) (H2 := []) (by kernel_rfl) (n := 0) (by kernel_rfl) ?_
   refine kD 2 ?_
   obtain ⟨hm, h4⟩ := asrt h2
   refine kJ 18 (tr2 := [([], []), ([], []), ([], [])]) encSt25_len hm ?_
   refine kD 3 ?_
   obtain ⟨hm, h5⟩ := asrt h4
   refine kJ 22 (tr2 := [([], []), ([], []), ([], []), ([], []), ([], []), ([], []), ([], [])]) encSt25_len hm ?_
   refine kD 2 ?_
   refine kEN ?_
   refine cT 24 h5 (fun h6 => ?_)
   refine kF ?_
   refine kK ?_
   refine PJ.blockNormal ?_
   refine PJ.next ?_
   refine kR ?_
   refine kC 2 [0,1,4,12,13] ?_
   refine kE ?_
   obtain rfl := oi h6
   exact kLN [0, 1, 4, 12, 13]
  ·refine kF ?_
   refine K.exit 0 (by kernel_rfl) ?_
   refine PJ.passExit ?_
   obtain rfl := oi h3
   refine PJ.loopOut (fun e => nomatch e) (fun he0 => ?_)
   have h7 := congrArg some he0
   refine PJ.blockOut ?_
   obtain rfl := oi h7
   exact kN [4]
 ·refine kSR ?_
  refine kC 1 [4] ?_
  refine kEN ?_
  refine kX ?_
  obtain rfl := oi h1
  exact kZ hFn hFH hFD
def loc_Same (x0 : St46) (x1 : St46) : Option (Bool) :=
 (Option.bind (bif (x0.Tag_ == x1.Tag_) then (bif ((decide (x0.S_.Zero_ = x1.S_.Zero_)) && ((decide (x0.S_.Dec_ = x1.S_.Dec_)) && ((decide (x0.S_.Group_ = x1.S_.Group_)) && ((decide (x0.S_.Minus_ = x1.S_.Minus_)) && ((decide (x0.S_.Plus_ = x1.S_.Plus_)) && ((decide (x0.S_.Percent_ = x1.S_.Percent_)) && ((decide (x0.S_.Exp_ = x1.S_.Exp_)) && true))))))) then (bif ((x0.Pats_.a0_ == x1.Pats_.a0_) && ((x0.Pats_.a1_ == x1.Pats_.a1_) && ((x0.Pats_.a2_ == x1.Pats_.a2_) && ((x0.Pats_.a3_ == x1.Pats_.a3_) && true)))) then (Option.bind (api_Rule_ x0.Rules_ x1.Rules_) fun y1 => (bif y1 then (Option.bind (api_Cur_ x0.Curs_ x1.Curs_) fun y2 => (bif y2 then (Option.bind (api_Comp_ x0.Comps_ x1.Comps_) fun y0 => (some y0)) else none)) else none)) else none) else none) else none) fun (s0 : Bool) => (some s0))
theorem loc_Same_ok {x0 : St46} {x1 : St46} {r : Bool} (h : loc_Same x0 x1 = some r) : SC Tryz.prog 34 [.agg (encSt46 x0), .agg (encSt46 x1)] [] (.bool r) [] := by
 refine kFn (fn := Tryz.f34) (fun F hFn hFH hFD => ?_)
 unfold loc_Same at h
 refine kSR ?_
 refine kC 3 [2,3,4] ?_
 refine kEN ?_
 obtain ⟨s0, hy0, h0⟩ := bindS h
 refine K.cutN (by kernel_rfl) (fun (s0 : Bool) => ([(4, .bool s0)], [])) s0 ?_ ?_
 ·refine kR ?_
  refine kC 6 [2,3,4,10] ?_
  refine cFR 10 hy0 (fun h1 => ?_)
  refine kC 7 [2,3,4,17] ?_
  refine cFR 17 h1 (fun h2 => ?_)
  refine kC 7 [2,3,4,24] ?_
  refine cFR 24 h2 (fun h3 => ?_)
  refine kC 4 [2,3,4,24,26,28] ?_
  obtain ⟨y1, hy1, h4⟩ := bindS h3
  refine kA 29 (api_Rule__ok hy1) ?_
  refine kC 2 [2,3,4,31] ?_
  refine cFR 31 h4 (fun h5 => ?_)
  refine kC 4 [2,3,4,31,33,35] ?_
  obtain ⟨y2, hy2, h6⟩ := bindS h5
  refine kA 36 (api_Cur__ok hy2) ?_
  refine kC 2 [2,3,4,38] ?_
  refine cFR 38 h6 (fun h7 => ?_)
  refine RJ.seg 4 [4, 38, 40, 42] (L2 := [(4, .bool false), (38, .bool true), (40, lsv encSt25 3 x0.Comps_), (42, lsv encSt25 3 x1.Comps_)]) (H2 := [.box (encSt46 x0), .box (encSt46 x1)]) (by kernel_rfl) ?_
  obtain ⟨y0, hy3, h8⟩ := bindS h7
  refine kA 43 (api_Comp__ok hy3) ?_
  refine kC 2 [4] ?_
  refine kE ?_
  obtain rfl := oi h8
  refine kW (L2 := [(4, .bool y0)]) (H2 := []) hFH hFD [] ?_
  exact kN [4]
 ·refine kX ?_
  obtain rfl := oi h0
  exact kZ hFn hFH hFD
def exerguelaw15_shown  : Option (Bool) :=
 (Option.bind exerguelaw15_latin fun y5 => (Option.bind (loc_Pattern y5 1 ([37, 48] : List UInt8)) fun y2 => (Option.bind exerguelaw15_latin fun y6 => (Option.bind (loc_Pattern y6 0 ([37, 48] : List UInt8)) fun y3 => (Option.bind exerguelaw15_small fun y7 => (Option.bind (loc_Check y7) fun y0 => (Option.bind (loc_Check (⟨[], (⟨0, 0, 0, 0, 0, 0, 0⟩ : St22), (⟨[], [], [], []⟩ : St42), ([] : List St91), ([] : List St58), ([] : List St25)⟩ : St46)) fun y1 => (Option.bind (bif y2.2 then (bif (!y3.2) then (bif (decide (y0.1 = 0)) then (bif (decide (y0.2.1 = 0)) then (bif (decide (y0.2.2 = 0)) then (bif (decide (y1.2.2 = 8)) then (Option.bind (loc_Tag ([101, 110] : List UInt8)) fun y8 => (bif y8 then (Option.bind exerguelaw15_small fun y9 => (Option.bind exerguelaw15_small fun y10 => (Option.bind (loc_Same y9 y10) fun y4 => (some y4)))) else none)) else none) else none) else none) else none) else none) else none) fun (s0 : Bool) => (some s0)))))))))
theorem exerguelaw15_shown_ok  {r : Bool} (h : exerguelaw15_shown = some r) : SC Tryz.prog 9 [] [] (.bool r) [] := by
 refine kFn (fn := Tryz.f9) (fun F hFn hFH hFD => ?_)
 unfold exerguelaw15_shown at h
 refine kSR ?_
 refine kC 1 [0] ?_
 refine kEN ?_
 refine kSR ?_
 obtain ⟨y5, hy0, h0⟩ := bindS h
 refine kA 12 (exerguelaw15_latin_ok hy0) ?_
 obtain ⟨y2, hy1, h1⟩ := bindS h0
 refine kA 13 (loc_Pattern_ok hy1) ?_
 refine kC 6 [0,2] ?_
 refine kEN ?_
 refine kSR ?_
 obtain ⟨y6, hy2, h2⟩ := bindS h1
 refine kA 17 (exerguelaw15_latin_ok hy2) ?_
 obtain ⟨y3, hy3, h3⟩ := bindS h2
 refine kA 18 (loc_Pattern_ok hy3) ?_
 refine kC 6 [0,2,4] ?_
 refine kEN ?_
 refine kSR ?_
 obtain ⟨y7, hy4, h4⟩ := bindS h3
 refine kA 22 (exerguelaw15_small_ok hy4) ?_
 obtain ⟨y0, hy5, h5⟩ := bindS h4
 refine kA 23 (loc_Check_ok hy5) ?_
 refine kC 7 [0,2,4,5,6,7] ?_
 refine kEN ?_
 refine kSR ?_
 refine kC 1 [0,2,4,5,6,7,28] ?_
 obtain ⟨y1, hy6, h6⟩ := bindS h5
 refine RJ.call0 (d := (some 29)) (f := 23) (args := [.agg (q12 [] 0 0 0 0 0 0 0 [] [] [] [] [.nl, .nl, .nl])]) (v := .tup [iL y1.1, iL y1.2.1, iL y1.2.2]) (tr2 := []) (by kernel_rfl) (by kernel_rfl) (.cons (Le.agg (.cons (Le.refl _) (.cons (Le.refl _) (.cons (Le.refl _) (.cons (Le.refl _) (.cons (Le.refl _) (.cons (Le.refl _) (.cons (Le.refl _) (.cons (Le.refl _) (.cons (Le.refl _) (.cons (Le.refl _) (.cons (Le.refl _) (.cons (Le.refl _) (.cons (Le.nl _) (.cons (Le.nl _) (.cons (Le.nl _) .nil)))))))))))))))) .nil) (loc_Check_ok hy6) (by kernel_rfl) ?_
 refine kC 7 [0,2,4,5,6,7,10] ?_
 refine kEN ?_
 obtain ⟨s0, hy7, h7⟩ := bindS h6
 refine K.cutN (by kernel_rfl) (fun (s0 : Bool) => ([(0, .bool s0)], [])) s0 ?_ ?_
 ·refine kR ?_
  refine kC 2 [0,4,5,6,7,10,34] ?_
  refine cFR 34 hy7 (fun h8 => ?_)
  refine kC 4 [0,5,6,7,10,38] ?_
  refine cFR 38 h8 (fun h9 => ?_)
  refine RJ.seg 4 [0, 6, 7, 10, 42] (L2 := [(0, .bool false), (6, iL y0.2.1), (7, iL y0.2.2), (10, iL y1.2.2), (42, .bool (decide (y0.1 = 0)))]) (H2 := [.box (encSt32 y2.1), .box (encSt32 y3.1)]) (by kernel_rfl) ?_
  refine cFR 42 h9 (fun h10 => ?_)
  refine kC 4 [0,7,10,46] ?_
  refine cFR 46 h10 (fun h11 => ?_)
  refine kC 4 [0,10,50] ?_
  refine cFR 50 h11 (fun h12 => ?_)
  refine kC 4 [0,54] ?_
  refine cFR 54 h12 (fun h13 => ?_)
  obtain ⟨y8, hy8, h14⟩ := bindS h13
  refine kA 55 (loc_Tag_ok hy8) ?_
  refine kC 2 [0,57] ?_
  refine cFR 57 h14 (fun h15 => ?_)
  obtain ⟨y9, hy9, h16⟩ := bindS h15
  refine kA 58 (exerguelaw15_small_ok hy9) ?_
  obtain ⟨y10, hy10, h17⟩ := bindS h16
  refine kA 59 (exerguelaw15_small_ok hy10) ?_
  obtain ⟨y4, hy11, h18⟩ := bindS h17
  refine kA 60 (loc_Same_ok hy11) ?_
  refine kC 2 [0] ?_
  refine kE ?_
  obtain rfl := oi h18
  refine kW (L2 := [(0, .bool y4)]) (H2 := []) hFH hFD [] ?_
  exact kN [0]
 ·refine kX ?_
  obtain rfl := oi h7
  exact kZ hFn hFH hFD
def exerguelaw15_LocTag (x0 : List UInt8) (x1 : Int) : Option (Bool) :=
 (Option.bind exerguelaw15_shown fun y0 => (bif (decide ((x0.length : Int) > 50)) then (some y0) else (Option.bind (bif (decide (x1 ≥ 97)) then (bif (decide (x1 ≤ 122)) then (some true) else (bif (decide (x1 ≥ 65)) then (bif (decide (x1 ≤ 90)) then (some true) else (bif (decide (x1 ≥ 48)) then (bif (decide (x1 ≤ 57)) then (some true) else (some (decide (x1 = 45)))) else (some (decide (x1 = 45))))) else (bif (decide (x1 ≥ 48)) then (bif (decide (x1 ≤ 57)) then (some true) else (some (decide (x1 = 45)))) else (some (decide (x1 = 45)))))) else (bif (decide (x1 ≥ 65)) then (bif (decide (x1 ≤ 90)) then (some true) else (bif (decide (x1 ≥ 48)) then (bif (decide (x1 ≤ 57)) then (some true) else (some (decide (x1 = 45)))) else (some (decide (x1 = 45))))) else (bif (decide (x1 ≥ 48)) then (bif (decide (x1 ≤ 57)) then (some true) else (some (decide (x1 = 45)))) else (some (decide (x1 = 45)))))) fun (s0 : Bool) => (bif room (x0.length + (bytesS ([x1] : List Int)).length) then (Option.bind (bif y0 then (Option.bind (loc_Tag x0) fun y4 => (bif (!y4) then (bif (decide ((x0.length : Int) = 0)) then (some true) else (Option.bind (loc_Tag ((x0 ++ (bytesS ([x1] : List Int))))) fun y1 => (Option.bind (loc_Tag x0) fun y3 => (bif y3 then (bif s0 then (some ((y1 == ((decide ((x0.length : Int) < 20)))))) else (some (y1 == false))) else (some (y1 == false)))))) else (bif (decide ((x0.length : Int) ≥ 1)) then (bif (decide ((x0.length : Int) ≤ 20)) then (bif (decide ((x0.length : Int) = 0)) then (some true) else (Option.bind (loc_Tag ((x0 ++ (bytesS ([x1] : List Int))))) fun y2 => (Option.bind (loc_Tag x0) fun y5 => (bif y5 then (bif s0 then (some ((y2 == ((decide ((x0.length : Int) < 20)))))) else (some (y2 == false))) else (some (y2 == false)))))) else (some false)) else (some false)))) else (some false)) fun (s1 : Bool) => (some s1)) else none))))
theorem exerguelaw15_LocTag_ok {x0 : List UInt8} {x1 : Int} {r : Bool} (h : exerguelaw15_LocTag x0 x1 = some r) : SC Tryz.prog 7 [.str x0, .int .u8 x1] [] (.bool r) [] := by
 refine kFn (fn := Tryz.f7) (fun F hFn hFH hFD => ?_)
 unfold exerguelaw15_LocTag at h
 refine kSR ?_
 refine kC 1 [0,1,4] ?_
 refine kEN ?_
 refine kSR ?_
 obtain ⟨y0, hy0, h0⟩ := bindS h
 refine kA 8 (exerguelaw15_shown_ok hy0) ?_
 refine kC 1 [0,1,4,5] ?_
 refine kEN ?_
 refine kS ?_
 refine kSR ?_
 refine kC 3 [0,1,4,5,11] ?_
 refine kEN ?_
 refine kBJ 11 h0 (fun h1 => ?_) (fun h2 => ?_)
 ·refine kT ?_
  refine kSR ?_
  refine kC 2 [0,1,4,5] ?_
  refine kEN ?_
  refine kX ?_
  refine PJ.passRet ?_
  obtain rfl := oi h1
  exact kZ hFn hFH hFD
 ·refine kF ?_
  refine kK ?_
  refine PJ.next ?_
  obtain ⟨s0, hy1, h3⟩ := bindS h2
  refine K.cutN (by kernel_rfl) (fun (s0 : Bool) => ([(0, .str x0), (1, .int .u8 x1), (4, .bool false), (5, .bool y0), (6, .bool s0)], [])) s0 ?_ ?_
  ·refine kR ?_
   refine kC 3 [0,1,4,5,15] ?_
   refine kB 15 hy1 (fun h4 => ?_) (fun h5 => ?_)
   ·refine kC 4 [0,1,4,5,19] ?_
    refine kB 19 h4 (fun h6 => ?_) (fun h7 => ?_)
    ·refine kC 20 [0,1,4,5,6] ?_
     refine kE ?_
     obtain rfl := oi h6
     exact kN [0, 1, 4, 5, 6]
    ·refine kC 3 [0,1,4,5,19,22] ?_
     refine kB 22 h7 (fun h8 => ?_) (fun h9 => ?_)
     ·refine kC 5 [0,1,4,5,27] ?_
      refine kB 27 h8 (fun h10 => ?_) (fun h11 => ?_)
      ·refine kC 12 [0,1,4,5,6] ?_
       refine kE ?_
       obtain rfl := oi h10
       exact kN [0, 1, 4, 5, 6]
      ·refine kC 3 [0,1,4,5,27,30] ?_
       refine kB 30 h11 (fun h12 => ?_) (fun h13 => ?_)
       ·refine RJ.seg 5 [0, 1, 4, 5, 35] (L2 := [(0, .str x0), (1, .int .u8 x1), (4, .bool false), (5, .bool y0), (35, .bool (decide (x1 ≤ 57)))]) (H2 := []) (by kernel_rfl) ?_
        refine kB 35 h12 (fun h14 => ?_) (fun h15 => ?_)
        ·refine kC 4 [0,1,4,5,6] ?_
         refine kE ?_
         obtain rfl := oi h14
         exact kN [0, 1, 4, 5, 6]
        ·refine kC 4 [0,1,4,5,6] ?_
         refine kE ?_
         obtain rfl := oi h15
         exact kN [0, 1, 4, 5, 6]
       ·refine RJ.seg 9 [0, 1, 4, 5, 6] (L2 := [(0, .str x0), (1, .int .u8 x1), (4, .bool false), (5, .bool y0), (6, .bool (decide (x1 = 45)))]) (H2 := []) (by kernel_rfl) ?_
        refine kE ?_
        obtain rfl := oi h13
        exact kN [0, 1, 4, 5, 6]
     ·refine kC 8 [0,1,4,5,27,30] ?_
      refine kB 30 h9 (fun h16 => ?_) (fun h17 => ?_)
      ·refine kC 5 [0,1,4,5,35] ?_
       refine kB 35 h16 (fun h18 => ?_) (fun h19 => ?_)
       ·refine RJ.seg 4 [0, 1, 4, 5, 6] (L2 := [(0, .str x0), (1, .int .u8 x1), (4, .bool false), (5, .bool y0), (6, .bool true)]) (H2 := []) (by kernel_rfl) ?_
        refine kE ?_
        obtain rfl := oi h18
        exact kN [0, 1, 4, 5, 6]
       ·refine RJ.seg 4 [0, 1, 4, 5, 6] (L2 := [(0, .str x0), (1, .int .u8 x1), (4, .bool false), (5, .bool y0), (6, .bool (decide (x1 = 45)))]) (H2 := []) (by kernel_rfl) ?_
        refine kE ?_
        obtain rfl := oi h19
        exact kN [0, 1, 4, 5, 6]
      ·refine kC 9 [0,1,4,5,6] ?_
       refine kE ?_
       obtain rfl := oi h17
       exact kN [0, 1, 4, 5, 6]
   ·refine kC 7 [0,1,4,5,19,22] ?_
    refine kB 22 h5 (fun h20 => ?_) (fun h21 => ?_)
    ·refine kC 5 [0,1,4,5,27] ?_
     refine kB 27 h20 (fun h22 => ?_) (fun h23 => ?_)
     ·refine kC 12 [0,1,4,5,6] ?_
      refine kE ?_
      obtain rfl := oi h22
      exact kN [0, 1, 4, 5, 6]
     ·refine kC 3 [0,1,4,5,27,30] ?_
      refine kB 30 h23 (fun h24 => ?_) (fun h25 => ?_)
      ·refine kC 5 [0,1,4,5,35] ?_
       refine kB 35 h24 (fun h26 => ?_) (fun h27 => ?_)
       ·refine RJ.seg 4 [0, 1, 4, 5, 6] (L2 := [(0, .str x0), (1, .int .u8 x1), (4, .bool false), (5, .bool y0), (6, .bool true)]) (H2 := []) (by kernel_rfl) ?_
        refine kE ?_
        obtain rfl := oi h26
        exact kN [0, 1, 4, 5, 6]
       ·refine RJ.seg 4 [0, 1, 4, 5, 6] (L2 := [(0, .str x0), (1, .int .u8 x1), (4, .bool false), (5, .bool y0), (6, .bool (decide (x1 = 45)))]) (H2 := []) (by kernel_rfl) ?_
        refine kE ?_
        obtain rfl := oi h27
        exact kN [0, 1, 4, 5, 6]
      ·refine kC 9 [0,1,4,5,6] ?_
       refine kE ?_
       obtain rfl := oi h25
       exact kN [0, 1, 4, 5, 6]
    ·refine kC 8 [0,1,4,5,27,30] ?_
     refine kB 30 h21 (fun h28 => ?_) (fun h29 => ?_)
     ·refine kC 5 [0,1,4,5,35] ?_
      refine kB 35 h28 (fun h30 => ?_) (fun h31 => ?_)
      ·refine kC 4 [0,1,4,5,6] ?_
       refine kE ?_
       obtain rfl := oi h30
       exact kN [0, 1, 4, 5, 6]
      ·refine kC 4 [0,1,4,5,6] ?_
       refine kE ?_
       obtain rfl := oi h31
       exact kN [0, 1, 4, 5, 6]
     ·refine kC 9 [0,1,4,5,6] ?_
      refine kE ?_
      obtain rfl := oi h29
      exact kN [0, 1, 4, 5, 6]
  ·refine kSR ?_
   refine kC 3 [0,4,5,6,39,41] ?_
   refine RJ.rel (d := (some 42)) (ef := ⟨.str ((([x1] : List Int).flatMap (encI .u8)).map Go.Sy.byteOf), [0], []⟩) (ef' := ⟨.str (bytesS ([x1] : List Int)), [0], []⟩) (c := (([x1] : List Int).flatMap (encI .u8)).all isByte) (tr2 := []) (H2 := [vecL (encI .u8) 1 5 ([x1] : List Int)]) (by kernel_rfl) (allByte ([x1] : List Int)) (fun hc => N.toStr) (by kernel_rfl) ?_
   obtain ⟨hm, h32⟩ := asrt h3
   refine kQ 43 (.str (x0 ++ (bytesS ([x1] : List Int)))) [] (tr2 := []) hm ?_
   refine kC 1 [0,4,5,6,7] ?_
   refine kEN ?_
   obtain ⟨s1, hy2, h33⟩ := bindS h32
   refine K.cutN (by kernel_rfl) (fun (s1 : Bool) => ([(4, .bool s1)], [])) s1 ?_ ?_
   ·refine kR ?_
    refine kC 2 [0,4,6,7,45] ?_
    refine kB 45 hy2 (fun h34 => ?_) (fun h35 => ?_)
    ·refine kC 1 [0,4,6,7,45,46] ?_
     obtain ⟨y4, hy3, h36⟩ := bindS h34
     refine kA 47 (loc_Tag_ok hy3) ?_
     refine kC 2 [0,4,6,7,45,49] ?_
     refine kB 49 h36 (fun h37 => ?_) (fun h38 => ?_)
     ·refine kC 15 [0,4,6,7,60,64] ?_
      refine kB 64 h37 (fun h39 => ?_) (fun h40 => ?_)
      ·refine kC 16 [4] ?_
       refine kE ?_
       obtain rfl := oi h39
       refine kW (L2 := [(4, .bool true)]) (H2 := []) hFH hFD [] ?_
       exact kN [4]
      ·refine kC 1 [0,4,6,60,64,65] ?_
       obtain ⟨y1, hy4, h41⟩ := bindS h40
       refine kA 66 (loc_Tag_ok hy4) ?_
       refine kC 1 [0,4,6,60,64,66,67] ?_
       obtain ⟨y3, hy5, h42⟩ := bindS h41
       refine kA 68 (loc_Tag_ok hy5) ?_
       refine RJ.seg 1 [0, 4, 6, 60, 64, 66, 69] (L2 := [(0, .str x0), (4, .bool false), (6, .bool s0), (60, .bool true), (64, .bool false), (66, .bool y1), (69, .bool y3)]) (H2 := [vecL (encI .u8) 1 5 ([x1] : List Int)]) (by kernel_rfl) ?_
       refine kB 69 h42 (fun h43 => ?_) (fun h44 => ?_)
       ·refine kC 3 [0,4,60,64,66,72] ?_
        refine kB 72 h43 (fun h45 => ?_) (fun h46 => ?_)
        ·refine kC 8 [4] ?_
         refine kE ?_
         obtain rfl := oi h45
         refine kW (L2 := [(4, .bool ((y1 == ((decide ((x0.length : Int) < 20))))))]) (H2 := []) hFH hFD [] ?_
         exact kN [4]
        ·refine kC 8 [4] ?_
         refine kE ?_
         obtain rfl := oi h46
         refine kW (L2 := [(4, .bool (y1 == false))]) (H2 := []) hFH hFD [] ?_
         exact kN [4]
       ·refine kC 11 [4] ?_
        refine kE ?_
        obtain rfl := oi h44
        refine kW (L2 := [(4, .bool (y1 == false))]) (H2 := []) hFH hFD [] ?_
        exact kN [4]
     ·refine kC 4 [0,4,6,7,45,49,53] ?_
      refine kB 53 h38 (fun h47 => ?_) (fun h48 => ?_)
      ·refine kC 7 [0,4,6,7,60] ?_
       refine kB 60 h47 (fun h49 => ?_) (fun h50 => ?_)
       ·refine kC 4 [0,4,6,7,60,64] ?_
        refine kB 64 h49 (fun h51 => ?_) (fun h52 => ?_)
        ·refine RJ.seg 16 [4] (L2 := [(4, .bool true)]) (H2 := [vecL (encI .u8) 1 5 ([x1] : List Int)]) (by kernel_rfl) ?_
         refine kE ?_
         obtain rfl := oi h51
         refine kW (L2 := [(4, .bool true)]) (H2 := []) hFH hFD [] ?_
         exact kN [4]
        ·refine RJ.seg 1 [0, 4, 6, 60, 64, 65] (L2 := [(0, .str x0), (4, .bool false), (6, .bool s0), (60, .bool true), (64, .bool false), (65, .str ((x0 ++ (bytesS ([x1] : List Int)))))]) (H2 := [vecL (encI .u8) 1 5 ([x1] : List Int)]) (by kernel_rfl) ?_
         obtain ⟨y2, hy6, h53⟩ := bindS h52
         refine kA 66 (loc_Tag_ok hy6) ?_
         refine kC 1 [0,4,6,60,64,66,67] ?_
         obtain ⟨y5, hy7, h54⟩ := bindS h53
         refine kA 68 (loc_Tag_ok hy7) ?_
         refine kC 1 [0,4,6,60,64,66,69] ?_
         refine kB 69 h54 (fun h55 => ?_) (fun h56 => ?_)
         ·refine kC 3 [0,4,60,64,66,72] ?_
          refine kB 72 h55 (fun h57 => ?_) (fun h58 => ?_)
          ·refine kC 8 [4] ?_
           refine kE ?_
           obtain rfl := oi h57
           refine kW (L2 := [(4, .bool ((y2 == ((decide ((x0.length : Int) < 20))))))]) (H2 := []) hFH hFD [] ?_
           exact kN [4]
          ·refine kC 8 [4] ?_
           refine kE ?_
           obtain rfl := oi h58
           refine kW (L2 := [(4, .bool (y2 == false))]) (H2 := []) hFH hFD [] ?_
           exact kN [4]
         ·refine kC 11 [4] ?_
          refine kE ?_
          obtain rfl := oi h56
          refine kW (L2 := [(4, .bool (y2 == false))]) (H2 := []) hFH hFD [] ?_
          exact kN [4]
       ·refine kC 20 [4] ?_
        refine kE ?_
        obtain rfl := oi h50
        refine kW (L2 := [(4, .bool false)]) (H2 := []) hFH hFD [] ?_
        exact kN [4]
      ·refine kC 27 [4] ?_
       refine kE ?_
       obtain rfl := oi h48
       refine kW (L2 := [(4, .bool false)]) (H2 := []) hFH hFD [] ?_
       exact kN [4]
    ·refine kC 35 [4] ?_
     refine kE ?_
     obtain rfl := oi h35
     refine kW (L2 := [(4, .bool false)]) (H2 := []) hFH hFD [] ?_
     exact kN [4]
   ·refine kX ?_
    obtain rfl := oi h33
    exact kZ hFn hFH hFD
end Go.Proofs.YtcapcgbamehojaaGreatDoor
