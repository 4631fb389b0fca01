/-
  What the functions of this program come to, as functions of natives, each with the proof that it does. No conditions.
-/
import Derived.Test.YteaokhdkocddcaaGreatDoorProg
import Derived.Test.YteaokhdkocddcaaGreatDoorSySL
import Derived.Test.YteaokhdkocddcaaGreatDoorGa
namespace Go.Proofs.YteaokhdkocddcaaGreatDoor
open Go Go.Sy Go.RowKit
set_option linter.unusedVariables false
set_option linter.unusedSimpArgs false
set_option maxRecDepth 100000
set_option maxHeartbeats 4000000
def rule_relation (x0 : List Int) (x1 : St75) : Option (List Int) :=
 (bif room (x0.length + ([x1.Op_] : List Int).length) then (Option.bind (bif (decide (¬ x1.Mod_ = 0)) then (bif room ((x0 ++ ([x1.Op_] : List Int)).length + ([32, 37, 32] : List UInt8).length) then (Option.bind (strconv_AppendInt (((x0 ++ ([x1.Op_] : List Int)) ++ (bytesI ([32, 37, 32] : List UInt8)))) x1.Mod_ 10) fun y18 => (some y18)) else none) else (some (x0 ++ ([x1.Op_] : List Int)))) fun (s9 : (List Int)) => (Option.bind (bif x1.Not_ then (bif room (s9.length + ([32, 33, 61, 32] : List UInt8).length) then (some ((s9 ++ (bytesI ([32, 33, 61, 32] : List UInt8))))) else none) else (bif room (s9.length + ([32, 61, 32] : List UInt8).length) then (some ((s9 ++ (bytesI ([32, 61, 32] : List UInt8))))) else none)) fun (s26 : (List Int)) => (Option.bind (loopN (fun (s218 : Int × (List Int)) => (bif (decide (s218.1 < (x1.R_.length : Int))) then (Option.bind (bif inR s218.1 x1.R_.length then (Option.bind (bif (decide (s218.1 > 0)) then (bif room (s218.2.length + ([44] : List Int).length) then (some (s218.2 ++ ([44] : List Int))) else none) else (some s218.2)) fun (s374 : (List Int)) => (Option.bind (strconv_AppendInt s374 ((nth x1.R_ s218.1).a0_) 10) fun y383 => (bif (decide (¬ ((nth x1.R_ s218.1).a0_) = ((nth x1.R_ s218.1).a1_))) then (bif room (y383.length + ([46, 46] : List UInt8).length) then (Option.bind (strconv_AppendInt ((y383 ++ (bytesI ([46, 46] : List UInt8)))) ((nth x1.R_ s218.1).a1_) 10) fun y390 => (some y390)) else none) else (some y383)))) else none) fun (s364 : (List Int)) => (some (.inl ((IntKind.wrap .i64 (s218.1 + 1)), s364)))) else (some (.inr s218.2)))) big (0, s26)) fun (s213 : (List Int)) => (some s213)))) else none)
theorem rule_relation_ok_0o {x0 : List Int} {x1 : St75} {r : List Int} (h : rule_relation x0 x1 = some r) : SC Tryz.prog 54 [.vc 0, .agg (encSt75 x1)] [vecL (encI .u8) 1 5 x0] (.vc 1) [.gone, vecL (encI .u8) 1 5 r] := by
 refine kFn (fn := Tryz.f54) (fun F hFn hFH hFD => ?_)
 unfold rule_relation at h
 refine kSR ?_
 refine kC 2 [0,3,4] ?_
 refine kEN ?_
 refine kSR ?_
 refine kC 4 [0,3,4,7,10] ?_
 obtain ⟨hm, h1⟩ := asrt h
 refine RJ.rel (d := (some 11)) (ef := ⟨.vc 3, [0, 2], [(0, .gone), (3, .vec (x0.length + ([x1.Op_] : List Int).length) 1 5 (x0.flatMap (encI .u8) ++ ([x1.Op_] : List Int).flatMap (encI .u8)))]⟩) (ef' := ⟨.vc 3, [0, 2], [(0, .gone), (3, vecL (encI .u8) 1 5 (x0 ++ ([x1.Op_] : List Int)))]⟩) (c := roomB (x0.length + ([x1.Op_] : List Int).length)) (tr2 := []) (H2 := [.gone, .box (encSt75 x1), vecL (encI .u8) 1 5 ([x1.Op_] : List Int), vecL (encI .u8) 1 5 (x0 ++ ([x1.Op_] : List Int))]) (by kernel_rfl) (roomB_of_room hm) (fun hc => N.app) (by kernel_rfl) ?_
 refine kC 1 [0,3,4] ?_
 refine kEN ?_
 obtain ⟨s9, hy11, h13⟩ := bindS h1
 refine K.cutN (by kernel_rfl) (fun (s9 : (List Int)) => ([(0, .vc 1), (3, .ptr 2 0), (4, .nl)], [.gone, vecL (encI .u8) 1 5 s9, .box (encSt75 x1)])) s9 ?_ ?_
 ·refine kSR ?_
  refine RJ.seg 3 [0, 3, 4, 14] (L2 := [(0, .vc 3), (3, .ptr 1 0), (4, .nl), (14, .bool (decide (¬ x1.Mod_ = 0)))]) (H2 := [.gone, .box (encSt75 x1), vecL (encI .u8) 1 5 ([x1.Op_] : List Int), vecL (encI .u8) 1 5 (x0 ++ ([x1.Op_] : List Int))]) (by kernel_rfl) ?_
  refine kEN ?_
  refine kBJ 14 hy11 (fun h15 => ?_) (fun h16 => ?_)
  ·refine kT ?_
   refine kSR ?_
   refine kC 1 [0,3,4,15] ?_
   obtain ⟨hm, h17⟩ := asrt h15
   refine RJ.rel (d := (some 16)) (ef := ⟨.vc 4, [3], [(3, .gone), (4, .vec ((x0 ++ ([x1.Op_] : List Int)).length + ([32, 37, 32] : List UInt8).length) 1 5 ((x0 ++ ([x1.Op_] : List Int)).flatMap (encI .u8) ++ ([32, 37, 32] : List UInt8).map byteSV))]⟩) (ef' := ⟨.vc 4, [3], [(3, .gone), (4, vecL (encI .u8) 1 5 ((x0 ++ ([x1.Op_] : List Int)) ++ (bytesI ([32, 37, 32] : List UInt8))))]⟩) (c := roomB ((x0 ++ ([x1.Op_] : List Int)).length + ([32, 37, 32] : List UInt8).length)) (tr2 := []) (H2 := [.gone, .box (encSt75 x1), vecL (encI .u8) 1 5 ([x1.Op_] : List Int), .gone, vecL (encI .u8) 1 5 (((x0 ++ ([x1.Op_] : List Int)) ++ (bytesI ([32, 37, 32] : List UInt8))))]) (by kernel_rfl) (roomB_of_room hm) (fun hc => (by rw [bytes_eq, ← bytesI_len ([32, 37, 32] : List UInt8)]; exact N.app)) (by kernel_rfl) ?_
   refine kC 1 [0,3,4] ?_
   refine kEN ?_
   refine kR ?_
   refine kC 3 [0,3,4,17,19] ?_
   obtain ⟨y18, hy19, h20⟩ := bindS h17
   refine RJ.callG (d := (some 20)) (f := 72) (args := [.vc 4, .int .i64 x1.Mod_, .int .i64 10]) (args0 := [.vc 0, .int .i64 x1.Mod_, .int .i64 10]) (v0 := .vc 1) (v := .vc 5) (tr2 := []) (H0 := [vecL (encI .u8) 1 5 (((x0 ++ ([x1.Op_] : List Int)) ++ (bytesI ([32, 37, 32] : List UInt8))))]) (H0' := [.gone, vecL (encI .u8) 1 5 y18]) (H2 := [.gone, .box (encSt75 x1), vecL (encI .u8) 1 5 ([x1.Op_] : List Int), .gone, .gone, vecL (encI .u8) 1 5 y18]) [4] (by kernel_rfl) (by kernel_rfl) (by kernel_rfl) (by kernel_rfl) (by decide) (by kernel_rfl) (by kernel_rfl) (by kernel_rfl) (.cons (Le.refl _) (.cons (Le.refl _) (.cons (Le.refl _) .nil))) (strconv_AppendInt_ok_0o hy19) (by kernel_rfl) (by kernel_rfl) (by kernel_rfl) ?_
   refine RJ.seg 1 [0, 3, 4] (L2 := [(0, .vc 5), (3, .ptr 1 0), (4, .nl)]) (H2 := [.gone, .box (encSt75 x1), vecL (encI .u8) 1 5 ([x1.Op_] : List Int), .gone, .gone, vecL (encI .u8) 1 5 y18]) (by kernel_rfl) ?_
   refine kE ?_
   obtain rfl := oi h20
   refine PJ.wk (Wk.sel (L2 := [(0, .vc 1), (3, .ptr 2 0), (4, .nl)]) (H2 := [.gone, vecL (encI .u8) 1 5 y18, .box (encSt75 x1)]) 1 (by rw [hFH]; rfl) hFD [0, 5, 1] (by kernel_rfl) (by kernel_rfl) (by decide) (by kernel_rfl) (by kernel_rfl) (by kernel_rfl) (by kernel_rfl)) ?_
   exact kN [0, 3, 4]
  ·refine kF ?_
   refine kK ?_
   obtain rfl := oi h16
   refine PJ.wk (Wk.sel (L2 := [(0, .vc 1), (3, .ptr 2 0), (4, .nl)]) (H2 := [.gone, vecL (encI .u8) 1 5 (x0 ++ ([x1.Op_] : List Int)), .box (encSt75 x1)]) 1 (by rw [hFH]; rfl) hFD [0, 3, 1] (by kernel_rfl) (by kernel_rfl) (by decide) (by kernel_rfl) (by kernel_rfl) (by kernel_rfl) (by kernel_rfl)) ?_
   exact kN [0, 3, 4]
 ·obtain ⟨s26, hy28, h30⟩ := bindS h13
  refine K.cutN (by kernel_rfl) (fun (s26 : (List Int)) => ([(0, .vc 1), (3, .ptr 2 0), (4, .nl)], [.gone, vecL (encI .u8) 1 5 s26, .box (encSt75 x1)])) s26 ?_ ?_
  ·refine kSR ?_
   refine kC 2 [0,3,4,22] ?_
   refine kEN ?_
   refine kBJ 22 hy28 (fun h32 => ?_) (fun h33 => ?_)
   ·refine kT ?_
    refine kR ?_
    refine kC 1 [0,3,4,23] ?_
    obtain ⟨hm, h34⟩ := asrt h32
    refine RJ.rel (d := (some 24)) (ef := ⟨.vc 3, [1], [(1, .gone), (3, .vec (s9.length + ([32, 33, 61, 32] : List UInt8).length) 1 5 (s9.flatMap (encI .u8) ++ ([32, 33, 61, 32] : List UInt8).map byteSV))]⟩) (ef' := ⟨.vc 3, [1], [(1, .gone), (3, vecL (encI .u8) 1 5 (s9 ++ (bytesI ([32, 33, 61, 32] : List UInt8))))]⟩) (c := roomB (s9.length + ([32, 33, 61, 32] : List UInt8).length)) (tr2 := []) (H2 := [.gone, .gone, .box (encSt75 x1), vecL (encI .u8) 1 5 ((s9 ++ (bytesI ([32, 33, 61, 32] : List UInt8))))]) (by kernel_rfl) (roomB_of_room hm) (fun hc => (by rw [bytes_eq, ← bytesI_len ([32, 33, 61, 32] : List UInt8)]; exact N.app)) (by kernel_rfl) ?_
    refine kC 1 [0,3,4] ?_
    refine kE ?_
    obtain rfl := oi h34
    refine PJ.wk (Wk.sel (L2 := [(0, .vc 1), (3, .ptr 2 0), (4, .nl)]) (H2 := [.gone, vecL (encI .u8) 1 5 ((s9 ++ (bytesI ([32, 33, 61, 32] : List UInt8)))), .box (encSt75 x1)]) 1 (by rw [hFH]; rfl) hFD [0, 3, 2] (by kernel_rfl) (by kernel_rfl) (by decide) (by kernel_rfl) (by kernel_rfl) (by kernel_rfl) (by kernel_rfl)) ?_
    exact kN [0, 3, 4]
   ·refine kF ?_
    refine kR ?_
    refine kC 1 [0,3,4,25] ?_
    obtain ⟨hm, h35⟩ := asrt h33
    refine RJ.rel (d := (some 26)) (ef := ⟨.vc 3, [1], [(1, .gone), (3, .vec (s9.length + ([32, 61, 32] : List UInt8).length) 1 5 (s9.flatMap (encI .u8) ++ ([32, 61, 32] : List UInt8).map byteSV))]⟩) (ef' := ⟨.vc 3, [1], [(1, .gone), (3, vecL (encI .u8) 1 5 (s9 ++ (bytesI ([32, 61, 32] : List UInt8))))]⟩) (c := roomB (s9.length + ([32, 61, 32] : List UInt8).length)) (tr2 := []) (H2 := [.gone, .gone, .box (encSt75 x1), vecL (encI .u8) 1 5 ((s9 ++ (bytesI ([32, 61, 32] : List UInt8))))]) (by kernel_rfl) (roomB_of_room hm) (fun hc => (by rw [bytes_eq, ← bytesI_len ([32, 61, 32] : List UInt8)]; exact N.app)) (by kernel_rfl) ?_
    refine kC 1 [0,3,4] ?_
    refine kE ?_
    obtain rfl := oi h35
    refine PJ.wk (Wk.sel (L2 := [(0, .vc 1), (3, .ptr 2 0), (4, .nl)]) (H2 := [.gone, vecL (encI .u8) 1 5 ((s9 ++ (bytesI ([32, 61, 32] : List UInt8)))), .box (encSt75 x1)]) 1 (by rw [hFH]; rfl) hFD [0, 3, 2] (by kernel_rfl) (by kernel_rfl) (by decide) (by kernel_rfl) (by kernel_rfl) (by kernel_rfl) (by kernel_rfl)) ?_
    exact kN [0, 3, 4]
  ·obtain ⟨s213, hy215, h217⟩ := bindS h30
   refine K.cutN (by kernel_rfl) (fun (s213 : (List Int)) => ([(0, .vc 1), (4, .nl)], [.gone, vecL (encI .u8) 1 5 s213])) s213 ?_ ?_
   ·refine kSR ?_
    refine kC 4 [0,4,28,29,30] ?_
    refine kEN ?_
    refine K.block 0 (by kernel_rfl) ?_
    refine J.wk (Wk.sel (L2 := [(0, .vc 1), (4, .nl), (28, lsv encSt80 2 x1.R_), (29, .int .i64 (x1.R_.length : Int)), (30, .int .i64 0)]) (H2 := [.gone, vecL (encI .u8) 1 5 s26]) 1 (by rw [hFH]; rfl) hFD [0, 1] (by kernel_rfl) (by kernel_rfl) (by decide) (by kernel_rfl) (by kernel_rfl) (by kernel_rfl) (by kernel_rfl)) ?_
    refine K.loop (by kernel_rfl) (fun (s218 : Int × (List Int)) => ([(0, .vc 1), (4, .nl), (28, lsv encSt80 2 x1.R_), (29, .int .i64 (x1.R_.length : Int)), (30, .int .i64 s218.1)], [.gone, vecL (encI .u8) 1 5 s218.2])) hy215 [0, 4, 28, 29, 30] (by kernel_rfl) (by kernel_rfl) (fun s218 x336 hs335 => ?_)
    refine kSR ?_
    refine kC 1 [0,4,28,29,30,31] ?_
    refine kEN ?_
    refine kS ?_
    refine kBJ 31 hs335 (fun h338 => ?_) (fun h339 => ?_)
    ·refine kT ?_
     refine kK ?_
     refine PJ.next ?_
     obtain ⟨s364, hy366, h368⟩ := bindS h338
     refine K.cutN (by kernel_rfl) (fun (s364 : (List Int)) => ([(0, .vc 1), (4, .nl), (28, lsv encSt80 2 x1.R_), (29, .int .i64 (x1.R_.length : Int)), (30, .int .i64 s218.1)], [.gone, vecL (encI .u8) 1 5 s364])) s364 ?_ ?_
     ·refine K.block 1 (by kernel_rfl) ?_
      refine kSR ?_
      refine kC 1 [0,4,28,29,30,32] ?_
      obtain ⟨hm, h369⟩ := asrt hy366
      refine kI 33 encSt80_len hm ?_
      refine kC 4 [0,4,5,6,28,29,30] ?_
      refine kEN ?_
      obtain ⟨s374, hy376, h378⟩ := bindS h369
      refine K.cutN (by kernel_rfl) (fun (s374 : (List Int)) => ([(0, .vc 1), (4, .nl), (6, .ptr 2 0), (28, lsv encSt80 2 x1.R_), (29, .int .i64 (x1.R_.length : Int)), (30, .int .i64 s218.1)], [.gone, vecL (encI .u8) 1 5 s374, .box [.int .i64 ((nth x1.R_ s218.1).a0_), .int .i64 ((nth x1.R_ s218.1).a1_)]])) s374 ?_ ?_
      ·refine kSR ?_
       refine RJ.seg 2 [0, 4, 6, 28, 29, 30, 36] (L2 := [(0, .vc 1), (4, .nl), (6, .ptr 2 0), (28, lsv encSt80 2 x1.R_), (29, .int .i64 (x1.R_.length : Int)), (30, .int .i64 s218.1), (36, .bool (decide (s218.1 > 0)))]) (H2 := [.gone, vecL (encI .u8) 1 5 s218.2, .box [.int .i64 ((nth x1.R_ s218.1).a0_), .int .i64 ((nth x1.R_ s218.1).a1_)]]) (by kernel_rfl) ?_
       refine kEN ?_
       refine kBJ 36 hy376 (fun h380 => ?_) (fun h381 => ?_)
       ·refine kT ?_
        refine kR ?_
        refine kC 2 [0,4,6,28,29,30,37,38] ?_
        obtain ⟨hm, h382⟩ := asrt h380
        refine RJ.rel (d := (some 39)) (ef := ⟨.vc 4, [1, 3], [(1, .gone), (4, .vec (s218.2.length + ([44] : List Int).length) 1 5 (s218.2.flatMap (encI .u8) ++ ([44] : List Int).flatMap (encI .u8)))]⟩) (ef' := ⟨.vc 4, [1, 3], [(1, .gone), (4, vecL (encI .u8) 1 5 (s218.2 ++ ([44] : List Int)))]⟩) (c := roomB (s218.2.length + ([44] : List Int).length)) (tr2 := []) (H2 := [.gone, .gone, .box [.int .i64 ((nth x1.R_ s218.1).a0_), .int .i64 ((nth x1.R_ s218.1).a1_)], vecL (encI .u8) 1 5 ([44] : List Int), vecL (encI .u8) 1 5 (s218.2 ++ ([44] : List Int))]) (by kernel_rfl) (roomB_of_room hm) (fun hc => N.app) (by kernel_rfl) ?_
        refine kC 1 [0,4,6,28,29,30] ?_
        refine kE ?_
        obtain rfl := oi h382
        refine PJ.wk (Wk.sel (L2 := [(0, .vc 1), (4, .nl), (6, .ptr 2 0), (28, lsv encSt80 2 x1.R_), (29, .int .i64 (x1.R_.length : Int)), (30, .int .i64 s218.1)]) (H2 := [.gone, vecL (encI .u8) 1 5 (s218.2 ++ ([44] : List Int)), .box [.int .i64 ((nth x1.R_ s218.1).a0_), .int .i64 ((nth x1.R_ s218.1).a1_)]]) 1 (by rw [hFH]; rfl) hFD [0, 4, 2] (by kernel_rfl) (by kernel_rfl) (by decide) (by kernel_rfl) (by kernel_rfl) (by kernel_rfl) (by kernel_rfl)) ?_
        exact kN [0, 4, 6, 28, 29, 30]
       ·refine kF ?_
        refine kK ?_
        obtain rfl := oi h381
        exact kN [0, 4, 6, 28, 29, 30]
      ·refine kSR ?_
       refine kC 3 [0,4,6,28,29,30,40,42] ?_
       obtain ⟨y383, hy384, h385⟩ := bindS h378
       refine RJ.callG (d := (some 43)) (f := 72) (args := [.vc 1, .int .i64 ((nth x1.R_ s218.1).a0_), .int .i64 10]) (args0 := [.vc 0, .int .i64 ((nth x1.R_ s218.1).a0_), .int .i64 10]) (v0 := .vc 1) (v := .vc 3) (tr2 := []) (H0 := [vecL (encI .u8) 1 5 s374]) (H0' := [.gone, vecL (encI .u8) 1 5 y383]) (H2 := [.gone, .gone, .box [.int .i64 ((nth x1.R_ s218.1).a0_), .int .i64 ((nth x1.R_ s218.1).a1_)], vecL (encI .u8) 1 5 y383]) [1] (by kernel_rfl) (by kernel_rfl) (by kernel_rfl) (by kernel_rfl) (by decide) (by kernel_rfl) (by kernel_rfl) (by kernel_rfl) (.cons (Le.refl _) (.cons (Le.refl _) (.cons (Le.refl _) .nil))) (strconv_AppendInt_ok_0o hy384) (by kernel_rfl) (by kernel_rfl) (by kernel_rfl) ?_
       refine kC 1 [0,4,6,28,29,30] ?_
       refine kEN ?_
       refine kSR ?_
       refine kC 5 [0,4,6,28,29,30,48] ?_
       refine kEN ?_
       refine kBJ 48 h385 (fun h387 => ?_) (fun h388 => ?_)
       ·refine kT ?_
        refine kSR ?_
        refine RJ.seg 1 [0, 4, 6, 28, 29, 30, 49] (L2 := [(0, .vc 3), (4, .nl), (6, .ptr 2 0), (28, lsv encSt80 2 x1.R_), (29, .int .i64 (x1.R_.length : Int)), (30, .int .i64 s218.1), (49, .vc 3)]) (H2 := [.gone, .gone, .box [.int .i64 ((nth x1.R_ s218.1).a0_), .int .i64 ((nth x1.R_ s218.1).a1_)], vecL (encI .u8) 1 5 y383]) (by kernel_rfl) ?_
        obtain ⟨hm, h389⟩ := asrt h387
        refine RJ.rel (d := (some 50)) (ef := ⟨.vc 4, [3], [(3, .gone), (4, .vec (y383.length + ([46, 46] : List UInt8).length) 1 5 (y383.flatMap (encI .u8) ++ ([46, 46] : List UInt8).map byteSV))]⟩) (ef' := ⟨.vc 4, [3], [(3, .gone), (4, vecL (encI .u8) 1 5 (y383 ++ (bytesI ([46, 46] : List UInt8))))]⟩) (c := roomB (y383.length + ([46, 46] : List UInt8).length)) (tr2 := []) (H2 := [.gone, .gone, .box [.int .i64 ((nth x1.R_ s218.1).a0_), .int .i64 ((nth x1.R_ s218.1).a1_)], .gone, vecL (encI .u8) 1 5 ((y383 ++ (bytesI ([46, 46] : List UInt8))))]) (by kernel_rfl) (roomB_of_room hm) (fun hc => (by rw [bytes_eq, ← bytesI_len ([46, 46] : List UInt8)]; exact N.app)) (by kernel_rfl) ?_
        refine kC 1 [0,4,6,28,29,30] ?_
        refine kEN ?_
        refine kR ?_
        refine kC 3 [0,4,28,29,30,51,53] ?_
        obtain ⟨y390, hy391, h392⟩ := bindS h389
        refine RJ.callG (d := (some 54)) (f := 72) (args := [.vc 4, .int .i64 ((nth x1.R_ s218.1).a1_), .int .i64 10]) (args0 := [.vc 0, .int .i64 ((nth x1.R_ s218.1).a1_), .int .i64 10]) (v0 := .vc 1) (v := .vc 5) (tr2 := []) (H0 := [vecL (encI .u8) 1 5 ((y383 ++ (bytesI ([46, 46] : List UInt8))))]) (H0' := [.gone, vecL (encI .u8) 1 5 y390]) (H2 := [.gone, .gone, .box [.int .i64 ((nth x1.R_ s218.1).a0_), .int .i64 ((nth x1.R_ s218.1).a1_)], .gone, .gone, vecL (encI .u8) 1 5 y390]) [4] (by kernel_rfl) (by kernel_rfl) (by kernel_rfl) (by kernel_rfl) (by decide) (by kernel_rfl) (by kernel_rfl) (by kernel_rfl) (.cons (Le.refl _) (.cons (Le.refl _) (.cons (Le.refl _) .nil))) (strconv_AppendInt_ok_0o hy391) (by kernel_rfl) (by kernel_rfl) (by kernel_rfl) ?_
        refine kC 1 [0,4,28,29,30] ?_
        refine kE ?_
        refine PJ.blockNormal ?_
        obtain rfl := oi h392
        refine PJ.wk (Wk.sel (L2 := [(0, .vc 1), (4, .nl), (28, lsv encSt80 2 x1.R_), (29, .int .i64 (x1.R_.length : Int)), (30, .int .i64 s218.1)]) (H2 := [.gone, vecL (encI .u8) 1 5 y390]) 1 (by rw [hFH]; rfl) hFD [0, 5] (by kernel_rfl) (by kernel_rfl) (by decide) (by kernel_rfl) (by kernel_rfl) (by kernel_rfl) (by kernel_rfl)) ?_
        exact kN [0, 4, 28, 29, 30]
       ·refine kF ?_
        refine kK ?_
        refine PJ.blockNormal ?_
        obtain rfl := oi h388
        refine PJ.wk (Wk.sel (L2 := [(0, .vc 1), (4, .nl), (28, lsv encSt80 2 x1.R_), (29, .int .i64 (x1.R_.length : Int)), (30, .int .i64 s218.1)]) (H2 := [.gone, vecL (encI .u8) 1 5 y383]) 1 (by rw [hFH]; rfl) hFD [0, 3] (by kernel_rfl) (by kernel_rfl) (by decide) (by kernel_rfl) (by kernel_rfl) (by kernel_rfl) (by kernel_rfl)) ?_
        exact kN [0, 4, 28, 29, 30]
     ·refine kR ?_
      refine kC 2 [0,4,28,29,30] ?_
      refine kE ?_
      obtain rfl := oi h368
      exact PJ.loopNext [0, 4, 28, 29, 30] (by kernel_rfl) (by kernel_rfl)
    ·refine kF ?_
     refine K.exit 0 (by kernel_rfl) ?_
     refine PJ.passExit ?_
     obtain rfl := oi h339
     refine PJ.loopOut (fun e => nomatch e) (fun he394 => ?_)
     have h393 := congrArg some he394
     refine PJ.blockOut ?_
     obtain rfl := oi h393
     exact kN [0, 4]
   ·refine kSR ?_
    refine kC 2 [4] ?_
    refine kEN ?_
    refine kX ?_
    obtain rfl := oi h217
    exact K.retV (H0 := [vecL (encI .u8) 1 5 x0]) [0, 1] (.inr rfl) hFn hFH hFD (by kernel_rfl) (v1 := .vc 1) (by kernel_rfl) (by kernel_rfl) (by kernel_rfl) (by decide) (by kernel_rfl) (by kernel_rfl) (by kernel_rfl) (by kernel_rfl) (by kernel_rfl)
def rule_Text (x0 : List (List St75)) : Option (List UInt8) :=
 (Option.bind (loopN (fun (s1143 : Int × (List Int)) => (bif (decide (s1143.1 < (x0.length : Int))) then (Option.bind (bif inR s1143.1 x0.length then (loopN (fun (s2095 : Int × (List Int)) => (bif (decide (s2095.1 < ((nth x0 s1143.1).length : Int))) then (Option.bind (bif inR s2095.1 (nth x0 s1143.1).length then (Option.bind (bif (decide ((s2095.2.length : Int) = 0)) then (some s2095.2) else (bif (decide (s2095.1 = 0)) then (bif room (s2095.2.length + ([32, 111, 114, 32] : List UInt8).length) then (some ((s2095.2 ++ (bytesI ([32, 111, 114, 32] : List UInt8))))) else none) else (bif room (s2095.2.length + ([32, 97, 110, 100, 32] : List UInt8).length) then (some ((s2095.2 ++ (bytesI ([32, 97, 110, 100, 32] : List UInt8))))) else none))) fun (s2260 : (List Int)) => (Option.bind (rule_relation s2260 (nth (nth x0 s1143.1) s2095.1)) fun y2273 => (some y2273))) else none) fun (s2246 : (List Int)) => (some (.inl ((IntKind.wrap .i64 (s2095.1 + 1)), s2246)))) else (some (.inr s2095.2)))) big (0, s1143.2)) else none) fun (s2089 : (List Int)) => (some (.inl ((IntKind.wrap .i64 (s1143.1 + 1)), s2089)))) else (some (.inr s1143.2)))) big (0, ([] : List Int))) fun (s1138 : (List Int)) => (some (bytesS s1138)))
theorem rule_Text_ok {x0 : List (List St75)} {r : List UInt8} (h : rule_Text x0 = some r) : SC Tryz.prog 40 [lsv (encL encSt75 4) 1 x0] [] (.str r) [] := by
 refine kFn (fn := Tryz.f40) (fun F hFn hFH hFD => ?_)
 unfold rule_Text at h
 refine kSR ?_
 refine kC 1 [0,2] ?_
 refine kEN ?_
 refine kSR ?_
 refine kC 1 [0,2,3] ?_
 refine kEN ?_
 obtain ⟨s1138, hy1140, h1142⟩ := bindS h
 refine K.cutN (by kernel_rfl) (fun (s1138 : (List Int)) => ([(2, .str ([] : List UInt8)), (3, .vc 0)], [vecL (encI .u8) 1 5 s1138])) s1138 ?_ ?_
 ·refine kSR ?_
  refine kC 3 [2,3,8,9,10] ?_
  refine kEN ?_
  refine K.block 0 (by kernel_rfl) ?_
  refine J.wk (Wk.viv 3 1 5 (by kernel_rfl)) ?_
  refine K.loop (by kernel_rfl) (fun (s1143 : Int × (List Int)) => ([(2, .str ([] : List UInt8)), (3, .vc 0), (8, lsv (encL encSt75 4) 1 x0), (9, .int .i64 (x0.length : Int)), (10, .int .i64 s1143.1)], [vecL (encI .u8) 1 5 s1143.2])) hy1140 [2, 3, 8, 9, 10] (by kernel_rfl) (by kernel_rfl) (fun s1143 x1901 hs1900 => ?_)
  refine kSR ?_
  refine kC 1 [2,3,8,9,10,11] ?_
  refine kEN ?_
  refine kS ?_
  refine kBJ 11 hs1900 (fun h1903 => ?_) (fun h1904 => ?_)
  ·refine kT ?_
   refine kK ?_
   refine PJ.next ?_
   obtain ⟨s2089, hy2091, h2093⟩ := bindS h1903
   refine K.cutN (by kernel_rfl) (fun (s2089 : (List Int)) => ([(2, .str ([] : List UInt8)), (3, .vc 0), (8, lsv (encL encSt75 4) 1 x0), (9, .int .i64 (x0.length : Int)), (10, .int .i64 s1143.1)], [vecL (encI .u8) 1 5 s2089])) s2089 ?_ ?_
   ·refine K.block 1 (by kernel_rfl) ?_
    refine kSR ?_
    obtain ⟨hm, h2094⟩ := asrt hy2091
    refine kI 12 (encL_len encSt75 4) hm ?_
    refine kC 2 [2,3,5,8,9,10] ?_
    refine kEN ?_
    refine kSR ?_
    refine kC 3 [2,3,8,9,10,14,15,16] ?_
    refine kEN ?_
    refine K.block 2 (by kernel_rfl) ?_
    refine K.loop (by kernel_rfl) (fun (s2095 : Int × (List Int)) => ([(2, .str ([] : List UInt8)), (3, .vc 0), (8, lsv (encL encSt75 4) 1 x0), (9, .int .i64 (x0.length : Int)), (10, .int .i64 s1143.1), (14, lsv encSt75 4 (nth x0 s1143.1)), (15, .int .i64 ((nth x0 s1143.1).length : Int)), (16, .int .i64 s2095.1)], [vecL (encI .u8) 1 5 s2095.2])) h2094 [2, 3, 8, 9, 10, 14, 15, 16] (by kernel_rfl) (by kernel_rfl) (fun s2095 x2217 hs2216 => ?_)
    refine kSR ?_
    refine kC 1 [2,3,8,9,10,14,15,16,17] ?_
    refine kEN ?_
    refine kS ?_
    refine kBJ 17 hs2216 (fun h2219 => ?_) (fun h2220 => ?_)
    ·refine kT ?_
     refine kK ?_
     refine PJ.next ?_
     obtain ⟨s2246, hy2248, h2250⟩ := bindS h2219
     refine K.cutN (by kernel_rfl) (fun (s2246 : (List Int)) => ([(2, .str ([] : List UInt8)), (3, .vc 0), (8, lsv (encL encSt75 4) 1 x0), (9, .int .i64 (x0.length : Int)), (10, .int .i64 s1143.1), (14, lsv encSt75 4 (nth x0 s1143.1)), (15, .int .i64 ((nth x0 s1143.1).length : Int)), (16, .int .i64 s2095.1)], [vecL (encI .u8) 1 5 s2246])) s2246 ?_ ?_
     ·refine K.block 3 (by kernel_rfl) ?_
      refine kSR ?_
      refine kC 1 [2,3,8,9,10,14,15,16,18] ?_
      obtain ⟨hm, h2251⟩ := asrt hy2248
      refine kI 19 encSt75_len hm ?_
      refine kC 4 [2,3,6,7,8,9,10,14,15,16] ?_
      refine kEN ?_
      obtain ⟨s2260, hy2262, h2264⟩ := bindS h2251
      refine K.cutN (by kernel_rfl) (fun (s2260 : (List Int)) => ([(2, .str ([] : List UInt8)), (3, .vc 0), (7, .ptr 1 0), (8, lsv (encL encSt75 4) 1 x0), (9, .int .i64 (x0.length : Int)), (10, .int .i64 s1143.1), (14, lsv encSt75 4 (nth x0 s1143.1)), (15, .int .i64 ((nth x0 s1143.1).length : Int)), (16, .int .i64 s2095.1)], [vecL (encI .u8) 1 5 s2260, .box [.int .u8 ((nth (nth x0 s1143.1) s2095.1).Op_), .int .i64 ((nth (nth x0 s1143.1) s2095.1).Mod_), .bool ((nth (nth x0 s1143.1) s2095.1).Not_), lsv encSt80 2 ((nth (nth x0 s1143.1) s2095.1).R_)]])) s2260 ?_ ?_
      ·refine K.block 4 (by kernel_rfl) ?_
       refine kSR ?_
       refine RJ.seg 4 [2, 3, 6, 7, 8, 9, 10, 14, 15, 16, 23] (L2 := [(2, .str ([] : List UInt8)), (3, .vc 0), (6, .int .i64 s2095.1), (7, .ptr 1 0), (8, lsv (encL encSt75 4) 1 x0), (9, .int .i64 (x0.length : Int)), (10, .int .i64 s1143.1), (14, lsv encSt75 4 (nth x0 s1143.1)), (15, .int .i64 ((nth x0 s1143.1).length : Int)), (16, .int .i64 s2095.1), (23, .bool ((decide ((s2095.2.length : Int) = 0))))]) (H2 := [vecL (encI .u8) 1 5 s2095.2, .box [.int .u8 ((nth (nth x0 s1143.1) s2095.1).Op_), .int .i64 ((nth (nth x0 s1143.1) s2095.1).Mod_), .bool ((nth (nth x0 s1143.1) s2095.1).Not_), lsv encSt80 2 ((nth (nth x0 s1143.1) s2095.1).R_)]]) (by kernel_rfl) ?_
       refine kEN ?_
       refine kBJ 23 hy2262 (fun h2266 => ?_) (fun h2267 => ?_)
       ·refine kT ?_
        refine kK ?_
        refine PJ.blockNormal ?_
        obtain rfl := oi h2266
        exact kN [2, 3, 7, 8, 9, 10, 14, 15, 16]
       ·refine kF ?_
        refine kSR ?_
        refine kC 3 [2,3,7,8,9,10,14,15,16,27] ?_
        refine kEN ?_
        refine kBJ 27 h2267 (fun h2269 => ?_) (fun h2270 => ?_)
        ·refine kT ?_
         refine kR ?_
         refine kC 1 [2,3,7,8,9,10,14,15,16,30] ?_
         obtain ⟨hm, h2271⟩ := asrt h2269
         refine RJ.rel (d := (some 31)) (ef := ⟨.vc 2, [0], [(0, .gone), (2, .vec (s2095.2.length + ([32, 111, 114, 32] : List UInt8).length) 1 5 (s2095.2.flatMap (encI .u8) ++ ([32, 111, 114, 32] : List UInt8).map byteSV))]⟩) (ef' := ⟨.vc 2, [0], [(0, .gone), (2, vecL (encI .u8) 1 5 (s2095.2 ++ (bytesI ([32, 111, 114, 32] : List UInt8))))]⟩) (c := roomB (s2095.2.length + ([32, 111, 114, 32] : List UInt8).length)) (tr2 := []) (H2 := [.gone, .box [.int .u8 ((nth (nth x0 s1143.1) s2095.1).Op_), .int .i64 ((nth (nth x0 s1143.1) s2095.1).Mod_), .bool ((nth (nth x0 s1143.1) s2095.1).Not_), lsv encSt80 2 ((nth (nth x0 s1143.1) s2095.1).R_)], vecL (encI .u8) 1 5 ((s2095.2 ++ (bytesI ([32, 111, 114, 32] : List UInt8))))]) (by kernel_rfl) (roomB_of_room hm) (fun hc => (by rw [bytes_eq, ← bytesI_len ([32, 111, 114, 32] : List UInt8)]; exact N.app)) (by kernel_rfl) ?_
         refine kC 1 [2,3,7,8,9,10,14,15,16] ?_
         refine kE ?_
         refine PJ.blockNormal ?_
         obtain rfl := oi h2271
         refine PJ.wk (Wk.sel (L2 := [(2, .str ([] : List UInt8)), (3, .vc 0), (7, .ptr 1 0), (8, lsv (encL encSt75 4) 1 x0), (9, .int .i64 (x0.length : Int)), (10, .int .i64 s1143.1), (14, lsv encSt75 4 (nth x0 s1143.1)), (15, .int .i64 ((nth x0 s1143.1).length : Int)), (16, .int .i64 s2095.1)]) (H2 := [vecL (encI .u8) 1 5 ((s2095.2 ++ (bytesI ([32, 111, 114, 32] : List UInt8)))), .box [.int .u8 ((nth (nth x0 s1143.1) s2095.1).Op_), .int .i64 ((nth (nth x0 s1143.1) s2095.1).Mod_), .bool ((nth (nth x0 s1143.1) s2095.1).Not_), lsv encSt80 2 ((nth (nth x0 s1143.1) s2095.1).R_)]]) 0 (by rw [hFH]; rfl) hFD [2, 1] (by kernel_rfl) (by kernel_rfl) (by decide) (by kernel_rfl) (by kernel_rfl) (by kernel_rfl) (by kernel_rfl)) ?_
         exact kN [2, 3, 7, 8, 9, 10, 14, 15, 16]
        ·refine kF ?_
         refine kR ?_
         refine kC 1 [2,3,7,8,9,10,14,15,16,21] ?_
         obtain ⟨hm, h2272⟩ := asrt h2270
         refine RJ.rel (d := (some 22)) (ef := ⟨.vc 2, [0], [(0, .gone), (2, .vec (s2095.2.length + ([32, 97, 110, 100, 32] : List UInt8).length) 1 5 (s2095.2.flatMap (encI .u8) ++ ([32, 97, 110, 100, 32] : List UInt8).map byteSV))]⟩) (ef' := ⟨.vc 2, [0], [(0, .gone), (2, vecL (encI .u8) 1 5 (s2095.2 ++ (bytesI ([32, 97, 110, 100, 32] : List UInt8))))]⟩) (c := roomB (s2095.2.length + ([32, 97, 110, 100, 32] : List UInt8).length)) (tr2 := []) (H2 := [.gone, .box [.int .u8 ((nth (nth x0 s1143.1) s2095.1).Op_), .int .i64 ((nth (nth x0 s1143.1) s2095.1).Mod_), .bool ((nth (nth x0 s1143.1) s2095.1).Not_), lsv encSt80 2 ((nth (nth x0 s1143.1) s2095.1).R_)], vecL (encI .u8) 1 5 ((s2095.2 ++ (bytesI ([32, 97, 110, 100, 32] : List UInt8))))]) (by kernel_rfl) (roomB_of_room hm) (fun hc => (by rw [bytes_eq, ← bytesI_len ([32, 97, 110, 100, 32] : List UInt8)]; exact N.app)) (by kernel_rfl) ?_
         refine kC 1 [2,3,7,8,9,10,14,15,16] ?_
         refine kE ?_
         refine PJ.blockNormal ?_
         obtain rfl := oi h2272
         refine PJ.wk (Wk.sel (L2 := [(2, .str ([] : List UInt8)), (3, .vc 0), (7, .ptr 1 0), (8, lsv (encL encSt75 4) 1 x0), (9, .int .i64 (x0.length : Int)), (10, .int .i64 s1143.1), (14, lsv encSt75 4 (nth x0 s1143.1)), (15, .int .i64 ((nth x0 s1143.1).length : Int)), (16, .int .i64 s2095.1)]) (H2 := [vecL (encI .u8) 1 5 ((s2095.2 ++ (bytesI ([32, 97, 110, 100, 32] : List UInt8)))), .box [.int .u8 ((nth (nth x0 s1143.1) s2095.1).Op_), .int .i64 ((nth (nth x0 s1143.1) s2095.1).Mod_), .bool ((nth (nth x0 s1143.1) s2095.1).Not_), lsv encSt80 2 ((nth (nth x0 s1143.1) s2095.1).R_)]]) 0 (by rw [hFH]; rfl) hFD [2, 1] (by kernel_rfl) (by kernel_rfl) (by decide) (by kernel_rfl) (by kernel_rfl) (by kernel_rfl) (by kernel_rfl)) ?_
         exact kN [2, 3, 7, 8, 9, 10, 14, 15, 16]
      ·refine kR ?_
       refine kC 2 [2,3,8,9,10,14,15,16,32,33] ?_
       obtain ⟨y2273, hy2274, h2275⟩ := bindS h2264
       refine RJ.callG (d := (some 34)) (f := 54) (args := [.vc 0, .agg [.int .u8 ((nth (nth x0 s1143.1) s2095.1).Op_), .int .i64 ((nth (nth x0 s1143.1) s2095.1).Mod_), .bool ((nth (nth x0 s1143.1) s2095.1).Not_), lsv encSt80 2 ((nth (nth x0 s1143.1) s2095.1).R_)]]) (args0 := [.vc 0, .agg [.int .u8 ((nth (nth x0 s1143.1) s2095.1).Op_), .int .i64 ((nth (nth x0 s1143.1) s2095.1).Mod_), .bool ((nth (nth x0 s1143.1) s2095.1).Not_), lsv encSt80 2 ((nth (nth x0 s1143.1) s2095.1).R_)]]) (v0 := .vc 1) (v := .vc 2) (tr2 := []) (H0 := [vecL (encI .u8) 1 5 s2260]) (H0' := [.gone, vecL (encI .u8) 1 5 y2273]) (H2 := [.gone, .box [.int .u8 ((nth (nth x0 s1143.1) s2095.1).Op_), .int .i64 ((nth (nth x0 s1143.1) s2095.1).Mod_), .bool ((nth (nth x0 s1143.1) s2095.1).Not_), lsv encSt80 2 ((nth (nth x0 s1143.1) s2095.1).R_)], vecL (encI .u8) 1 5 y2273]) [0] (by kernel_rfl) (by kernel_rfl) (by kernel_rfl) (by kernel_rfl) (by decide) (by kernel_rfl) (by kernel_rfl) (by kernel_rfl) (.cons (Le.refl _) (.cons (Le.refl _) .nil)) (rule_relation_ok_0o hy2274) (by kernel_rfl) (by kernel_rfl) (by kernel_rfl) ?_
       refine kC 1 [2,3,8,9,10,14,15,16] ?_
       refine kE ?_
       refine PJ.blockNormal ?_
       obtain rfl := oi h2275
       refine PJ.wk (Wk.sel (L2 := [(2, .str ([] : List UInt8)), (3, .vc 0), (8, lsv (encL encSt75 4) 1 x0), (9, .int .i64 (x0.length : Int)), (10, .int .i64 s1143.1), (14, lsv encSt75 4 (nth x0 s1143.1)), (15, .int .i64 ((nth x0 s1143.1).length : Int)), (16, .int .i64 s2095.1)]) (H2 := [vecL (encI .u8) 1 5 y2273]) 0 (by rw [hFH]; rfl) hFD [2] (by kernel_rfl) (by kernel_rfl) (by decide) (by kernel_rfl) (by kernel_rfl) (by kernel_rfl) (by kernel_rfl)) ?_
       exact kN [2, 3, 8, 9, 10, 14, 15, 16]
     ·refine kR ?_
      refine kC 2 [2,3,8,9,10,14,15,16] ?_
      refine kE ?_
      obtain rfl := oi h2250
      exact PJ.loopNext [2, 3, 8, 9, 10, 14, 15, 16] (by kernel_rfl) (by kernel_rfl)
    ·refine kF ?_
     refine K.exit 2 (by kernel_rfl) ?_
     refine PJ.passExit ?_
     obtain rfl := oi h2220
     refine PJ.loopOut (fun e => nomatch e) (fun he2277 => ?_)
     have h2276 := congrArg some he2277
     refine PJ.blockOut ?_
     refine PJ.blockNormal ?_
     obtain rfl := oi h2276
     exact kN [2, 3, 8, 9, 10]
   ·refine kR ?_
    refine kC 2 [2,3,8,9,10] ?_
    refine kE ?_
    obtain rfl := oi h2093
    exact PJ.loopNext [2, 3, 8, 9, 10] (by kernel_rfl) (by kernel_rfl)
  ·refine kF ?_
   refine K.exit 0 (by kernel_rfl) ?_
   refine PJ.passExit ?_
   obtain rfl := oi h1904
   refine PJ.loopOut (fun e => nomatch e) (fun he2279 => ?_)
   have h2278 := congrArg some he2279
   refine PJ.blockOut ?_
   obtain rfl := oi h2278
   exact kN [2, 3]
 ·refine kSR ?_
  refine kC 1 [2,37] ?_
  refine RJ.rel (d := (some 38)) (ef := ⟨.str ((s1138.flatMap (encI .u8)).map Go.Sy.byteOf), [0], []⟩) (ef' := ⟨.str (bytesS s1138), [0], []⟩) (c := (s1138.flatMap (encI .u8)).all isByte) (tr2 := []) (H2 := [vecL (encI .u8) 1 5 s1138]) (by kernel_rfl) (allByte s1138) (fun hc => N.toStr) (by kernel_rfl) ?_
  refine kC 1 [2] ?_
  refine kEN ?_
  refine kX ?_
  obtain rfl := oi h1142
  exact kZ hFn hFH hFD
def slices_Equal (x0 : List St80) (x1 : List St80) : Option (Bool) :=
 (bif (decide (¬ (x0.length : Int) = (x1.length : Int))) then (some false) else (Option.bind (loopN (fun (s51 : Int) => (bif (decide (s51 < (x0.length : Int))) then (bif inR s51 x0.length then (bif inR s51 x1.length then (bif (!((decide (((nth x0 s51).a0_) = ((nth x1 s51).a0_))) && ((decide (((nth x0 s51).a1_) = ((nth x1 s51).a1_))) && true))) then (some (.inr (.inr false))) else (some (.inl (IntKind.wrap .i64 (s51 + 1))))) else none) else none) else (some (.inr (.inl ()))))) big 0) (joinX fun (s46 : Unit) => (some true))))
theorem slices_Equal_ok {x0 : List St80} {x1 : List St80} {r : Bool} (h : slices_Equal x0 x1 = some r) : SC Tryz.prog 60 [lsv encSt80 2 x0, lsv encSt80 2 x1] [] (.bool r) [] := by
 refine kFn (fn := Tryz.f60) (fun F hFn hFH hFD => ?_)
 unfold slices_Equal at h
 refine kSR ?_
 refine kC 1 [0,1,4] ?_
 refine kEN ?_
 refine kS ?_
 refine kSR ?_
 refine kC 5 [0,1,4,10] ?_
 refine kEN ?_
 refine kBJ 10 h (fun h2 => ?_) (fun h3 => ?_)
 ·refine kT ?_
  refine kSR ?_
  refine kC 1 [0,1,4] ?_
  refine kEN ?_
  refine kX ?_
  refine PJ.passRet ?_
  obtain rfl := oi h2
  exact kZ hFn hFH hFD
 ·refine kF ?_
  refine kK ?_
  refine PJ.next ?_
  obtain ⟨y47, hy48, h49⟩ := bindS h3
  refine K.cutX (by kernel_rfl) (fun (s46 : Unit) => ([(4, .bool false)], [])) y47 ?_ (fun s46 hs => ?_)
  ·refine kSR ?_
   refine kC 3 [0,1,4,12,13] ?_
   refine kEN ?_
   refine K.block 0 (by kernel_rfl) ?_
   refine K.loop (by kernel_rfl) (fun (s51 : Int) => ([(0, lsv encSt80 2 x0), (1, lsv encSt80 2 x1), (4, .bool false), (12, .int .i64 (x0.length : Int)), (13, .int .i64 s51)], [])) hy48 [0, 1, 4, 12, 13] (by kernel_rfl) (by kernel_rfl) (fun s51 x79 hs78 => ?_)
   refine kSR ?_
   refine kC 1 [0,1,4,12,13,14] ?_
   refine kEN ?_
   refine kS ?_
   refine kBJ 14 hs78 (fun h81 => ?_) (fun h82 => ?_)
   ·refine kT ?_
    refine kK ?_
    refine PJ.next ?_
    refine kS ?_
    refine K.block 1 (by kernel_rfl) ?_
    refine kSR ?_
    refine kC 2 [0,1,4,5,12,13] ?_
    refine kEN ?_
    refine kS ?_
    refine J.keep [0, 1, 4, 5, 12, 13] (L2 := [(0, lsv encSt80 2 x0), (1, lsv encSt80 2 x1), (4, .bool false), (5, .int .i64 s51), (12, .int .i64 (x0.length : Int)), (13, .int .i64 s51)]) (by kernel_rfl) ?_
    refine K.draw (by kernel_rfl) (by kernel_rfl) (by kernel_rfl) (H2 := []) (by kernel_rfl) (n := 0) (by kernel_rfl) ?_
    refine kD 2 ?_
    obtain ⟨hm, h83⟩ := asrt h81
    refine RJ.rel (d := (some 18)) (ef := ⟨.ep (((x0.flatMap encSt80).drop ((s51 : Int).toNat * 2)).take 2), [], []⟩) (ef' := ⟨.ep (encSt80 (nth x0 s51)), [], []⟩) (c := inR s51 x0.length) (tr2 := [([], []), ([], []), ([], [])]) (H2 := []) (by kernel_rfl) hm (fun hc => N.idx encSt80_len hc) (by kernel_rfl) ?_
    refine RJ.segD 3 (tr2 := [([], []), ([], []), ([], []), ([], []), ([], []), ([], [])]) (L2 := [(21, .int .i64 s51), (20, lsv encSt80 2 x1), (19, .agg [.int .i64 ((nth x0 s51).a0_), .int .i64 ((nth x0 s51).a1_)]), (18, .ep [.int .i64 ((nth x0 s51).a0_), .int .i64 ((nth x0 s51).a1_)]), (17, .int .i64 s51), (16, lsv encSt80 2 x0), (0, lsv encSt80 2 x0), (1, lsv encSt80 2 x1), (4, .bool false), (5, .int .i64 s51), (12, .int .i64 (x0.length : Int)), (13, .int .i64 s51)]) (H2 := []) (by kernel_rfl) ?_
    obtain ⟨hm, h84⟩ := asrt h83
    refine RJ.rel (d := (some 22)) (ef := ⟨.ep (((x1.flatMap encSt80).drop ((s51 : Int).toNat * 2)).take 2), [], []⟩) (ef' := ⟨.ep (encSt80 (nth x1 s51)), [], []⟩) (c := inR s51 x1.length) (tr2 := [([], []), ([], []), ([], []), ([], []), ([], []), ([], []), ([], [])]) (H2 := []) (by kernel_rfl) hm (fun hc => N.idx encSt80_len hc) (by kernel_rfl) ?_
    refine kD 2 ?_
    refine kEN ?_
    refine kBJ 24 h84 (fun h86 => ?_) (fun h87 => ?_)
    ·refine kT ?_
     refine kSR ?_
     refine kC 1 [0,1,4,12,13] ?_
     refine kEN ?_
     refine kX ?_
     refine PJ.blockRet ?_
     refine PJ.passRet ?_
     obtain rfl := oi h86
     refine PJ.loopOut (fun e => nomatch e) (fun he90 => ?_)
     have h88 := congrArg some he90
     refine PJ.blockRet ?_
     obtain rfl := oi h88
     have h89 := joinX_inr h49
     refine PJ.cutXr (fun e => nomatch e) ?_
     obtain rfl := oi h89
     exact kZ hFn hFH hFD
    ·refine kF ?_
     refine kK ?_
     refine PJ.blockNormal ?_
     refine PJ.next ?_
     refine kR ?_
     refine kC 2 [0,1,4,12,13] ?_
     refine kE ?_
     obtain rfl := oi h87
     exact PJ.loopNext [0, 1, 4, 12, 13] (by kernel_rfl) (by kernel_rfl)
   ·refine kF ?_
    refine K.exit 0 (by kernel_rfl) ?_
    refine PJ.passExit ?_
    obtain rfl := oi h82
    refine PJ.loopOut (fun e => nomatch e) (fun he92 => ?_)
    have h91 := congrArg some he92
    refine PJ.blockOut ?_
    obtain rfl := oi h91
    exact PJ.cutXl [4] (by kernel_rfl) (by kernel_rfl)
  ·subst hs
   have h50 := joinX_inl h49
   refine kSR ?_
   refine kC 1 [4] ?_
   refine kEN ?_
   refine kX ?_
   obtain rfl := oi h50
   exact kZ hFn hFH hFD
def rule_sameRel (x0 : St75) (x1 : St75) : Option (Bool) :=
 (Option.bind (bif (decide (x0.Op_ = x1.Op_)) then (bif (decide (x0.Mod_ = x1.Mod_)) then (bif (x0.Not_ == x1.Not_) then (Option.bind (slices_Equal x0.R_ x1.R_) fun y27 => (some y27)) else (some false)) else (some false)) else (some false)) fun (s13 : Bool) => (some s13))
theorem rule_sameRel_ok {x0 : St75} {x1 : St75} {r : Bool} (h : rule_sameRel x0 x1 = some r) : SC Tryz.prog 48 [.agg (encSt75 x0), .agg (encSt75 x1)] [] (.bool r) [] := by
 refine kFn (fn := Tryz.f48) (fun F hFn hFH hFD => ?_)
 unfold rule_sameRel at h
 refine kSR ?_
 refine kC 3 [2,3,4] ?_
 refine kEN ?_
 obtain ⟨s13, hy15, h17⟩ := bindS h
 refine K.cutN (by kernel_rfl) (fun (s13 : Bool) => ([(4, .bool s13)], [])) s13 ?_ ?_
 ·refine kR ?_
  refine kC 6 [2,3,4,10] ?_
  refine kB 10 hy15 (fun h19 => ?_) (fun h20 => ?_)
  ·refine kC 7 [2,3,4,17] ?_
   refine kB 17 h19 (fun h22 => ?_) (fun h23 => ?_)
   ·refine RJ.seg 7 [2, 3, 4, 24] (L2 := [(2, .ptr 0 0), (3, .ptr 1 0), (4, .bool false), (24, .bool (x0.Not_ == x1.Not_))]) (H2 := [.box (encSt75 x0), .box (encSt75 x1)]) (by kernel_rfl) ?_
    refine kB 24 h22 (fun h25 => ?_) (fun h26 => ?_)
    ·refine kC 4 [4,24,26,28] ?_
     obtain ⟨y27, hy28, h29⟩ := bindS h25
     refine kA 29 (slices_Equal_ok hy28) ?_
     refine kC 2 [4] ?_
     refine kE ?_
     obtain rfl := oi h29
     refine PJ.wk (Wk.sel (L2 := [(4, .bool y27)]) (H2 := []) 0 (by rw [hFH]; rfl) hFD [] (by kernel_rfl) (by kernel_rfl) (by decide) (by kernel_rfl) (by kernel_rfl) (by kernel_rfl) (by kernel_rfl)) ?_
     exact kN [4]
    ·refine kC 7 [4] ?_
     refine kE ?_
     obtain rfl := oi h26
     refine PJ.wk (Wk.sel (L2 := [(4, .bool false)]) (H2 := []) 0 (by rw [hFH]; rfl) hFD [] (by kernel_rfl) (by kernel_rfl) (by decide) (by kernel_rfl) (by kernel_rfl) (by kernel_rfl) (by kernel_rfl)) ?_
     exact kN [4]
   ·refine RJ.seg 14 [4] (L2 := [(4, .bool false)]) (H2 := [.box (encSt75 x0), .box (encSt75 x1)]) (by kernel_rfl) ?_
    refine kE ?_
    obtain rfl := oi h23
    refine PJ.wk (Wk.sel (L2 := [(4, .bool false)]) (H2 := []) 0 (by rw [hFH]; rfl) hFD [] (by kernel_rfl) (by kernel_rfl) (by decide) (by kernel_rfl) (by kernel_rfl) (by kernel_rfl) (by kernel_rfl)) ?_
    exact kN [4]
  ·refine kC 21 [4] ?_
   refine kE ?_
   obtain rfl := oi h20
   refine PJ.wk (Wk.sel (L2 := [(4, .bool false)]) (H2 := []) 0 (by rw [hFH]; rfl) hFD [] (by kernel_rfl) (by kernel_rfl) (by decide) (by kernel_rfl) (by kernel_rfl) (by kernel_rfl) (by kernel_rfl)) ?_
   exact kN [4]
 ·refine kX ?_
  obtain rfl := oi h17
  exact kZ hFn hFH hFD
def api_Rel__47_s0 (x0 : List St75) (x1 : List St75) : Option (Bool) :=
 (bif (decide (¬ (x0.length : Int) = (x1.length : Int))) then (some false) else (Option.bind (loopN (fun (s60 : Int) => (bif (decide (s60 < (x0.length : Int))) then (bif inR s60 x0.length then (bif inR s60 x1.length then (Option.bind (rule_sameRel (nth x0 s60) (nth x1 s60)) fun y100 => (bif (!y100) then (some (.inr (.inr false))) else (some (.inl (IntKind.wrap .i64 (s60 + 1)))))) else none) else none) else (some (.inr (.inl ()))))) big 0) (joinX fun (s55 : Unit) => (some true))))
theorem api_Rel__47_s0_ok {x0 : List St75} {x1 : List St75} {r : Bool} (h : api_Rel__47_s0 x0 x1 = some r) : SC Tryz.prog 47 [lsv encSt75 4 x0, lsv encSt75 4 x1, .fn (.func 48) [] []] [] (.bool r) [] := by
 refine kFn (fn := Tryz.f47) (fun F hFn hFH hFD => ?_)
 unfold api_Rel__47_s0 at h
 refine kSR ?_
 refine kC 1 [0,1,2,6] ?_
 refine kEN ?_
 refine kS ?_
 refine kSR ?_
 refine kC 5 [0,1,2,6,14] ?_
 refine kEN ?_
 refine kBJ 14 h (fun h2 => ?_) (fun h3 => ?_)
 ·refine kT ?_
  refine kSR ?_
  refine kC 1 [0,1,2,6] ?_
  refine kEN ?_
  refine kX ?_
  refine PJ.passRet ?_
  obtain rfl := oi h2
  exact K.retV (H0 := []) [] (.inr rfl) hFn hFH hFD (by kernel_rfl) (v1 := .bool false) (by kernel_rfl) (by kernel_rfl) (by kernel_rfl) (by decide) (by kernel_rfl) (by kernel_rfl) (by kernel_rfl) (by kernel_rfl) (by kernel_rfl)
 ·refine kF ?_
  refine kK ?_
  refine PJ.next ?_
  obtain ⟨y56, hy57, h58⟩ := bindS h3
  refine K.cutX (by kernel_rfl) (fun (s55 : Unit) => ([(6, .bool false)], [])) y56 ?_ (fun s55 hs => ?_)
  ·refine kSR ?_
   refine kC 3 [1,2,6,15,16,17] ?_
   refine kEN ?_
   refine K.block 0 (by kernel_rfl) ?_
   refine K.loop (by kernel_rfl) (fun (s60 : Int) => ([(1, lsv encSt75 4 x1), (2, .fn (.func 48) [] []), (6, .bool false), (15, lsv encSt75 4 x0), (16, .int .i64 (x0.length : Int)), (17, .int .i64 s60)], [])) hy57 [1, 2, 6, 15, 16, 17] (by kernel_rfl) (by kernel_rfl) (fun s60 x94 hs93 => ?_)
   refine kSR ?_
   refine kC 1 [1,2,6,15,16,17,18] ?_
   refine kEN ?_
   refine kS ?_
   refine kBJ 18 hs93 (fun h96 => ?_) (fun h97 => ?_)
   ·refine kT ?_
    refine kK ?_
    refine PJ.next ?_
    refine kS ?_
    refine K.block 1 (by kernel_rfl) ?_
    refine kSR ?_
    refine kC 1 [1,2,6,15,16,17,19] ?_
    obtain ⟨hm, h98⟩ := asrt h96
    refine kI 20 encSt75_len hm ?_
    refine kC 4 [1,2,6,7,8,15,16,17] ?_
    refine kEN ?_
    refine kSR ?_
    refine RJ.seg 2 [1, 2, 6, 8, 15, 16, 17, 22, 23] (L2 := [(1, lsv encSt75 4 x1), (2, .fn (.func 48) [] []), (6, .bool false), (8, .ptr 0 0), (15, lsv encSt75 4 x0), (16, .int .i64 (x0.length : Int)), (17, .int .i64 s60), (22, lsv encSt75 4 x1), (23, .int .i64 s60)]) (H2 := [.box [.int .u8 ((nth x0 s60).Op_), .int .i64 ((nth x0 s60).Mod_), .bool ((nth x0 s60).Not_), lsv encSt80 2 ((nth x0 s60).R_)]]) (by kernel_rfl) ?_
    obtain ⟨hm, h99⟩ := asrt h98
    refine kI 24 encSt75_len hm ?_
    refine kC 3 [1,2,6,8,9,15,16,17] ?_
    refine kEN ?_
    refine kSR ?_
    refine kC 3 [1,2,6,15,16,17,26,27,28] ?_
    obtain ⟨y100, hy101, h102⟩ := bindS h99
    refine kA 29 (rule_sameRel_ok hy101) ?_
    refine kC 1 [1,2,6,15,16,17,30] ?_
    refine kEN ?_
    refine kBJ 30 h102 (fun h104 => ?_) (fun h105 => ?_)
    ·refine kT ?_
     refine kSR ?_
     refine RJ.seg 1 [1, 2, 6, 15, 16, 17] (L2 := [(1, lsv encSt75 4 x1), (2, .fn (.func 48) [] []), (6, .bool false), (15, lsv encSt75 4 x0), (16, .int .i64 (x0.length : Int)), (17, .int .i64 s60)]) (H2 := [.box [.int .u8 ((nth x0 s60).Op_), .int .i64 ((nth x0 s60).Mod_), .bool ((nth x0 s60).Not_), lsv encSt80 2 ((nth x0 s60).R_)], .box [.int .u8 ((nth x1 s60).Op_), .int .i64 ((nth x1 s60).Mod_), .bool ((nth x1 s60).Not_), lsv encSt80 2 ((nth x1 s60).R_)]]) (by kernel_rfl) ?_
     refine kEN ?_
     refine kX ?_
     refine PJ.blockRet ?_
     refine PJ.passRet ?_
     obtain rfl := oi h104
     refine PJ.loopOut (fun e => nomatch e) (fun he108 => ?_)
     have h106 := congrArg some he108
     refine PJ.blockRet ?_
     obtain rfl := oi h106
     have h107 := joinX_inr h58
     refine PJ.cutXr (fun e => nomatch e) ?_
     obtain rfl := oi h107
     exact K.retV (H0 := []) [] (.inr rfl) hFn hFH hFD (by kernel_rfl) (v1 := .bool false) (by kernel_rfl) (by kernel_rfl) (by kernel_rfl) (by decide) (by kernel_rfl) (by kernel_rfl) (by kernel_rfl) (by kernel_rfl) (by kernel_rfl)
    ·refine kF ?_
     refine kK ?_
     refine PJ.blockNormal ?_
     refine PJ.next ?_
     refine kR ?_
     refine RJ.seg 2 [1, 2, 6, 15, 16, 17] (L2 := [(1, lsv encSt75 4 x1), (2, .fn (.func 48) [] []), (6, .bool false), (15, lsv encSt75 4 x0), (16, .int .i64 (x0.length : Int)), (17, .int .i64 (IntKind.wrap .i64 (s60 + 1)))]) (H2 := [.box [.int .u8 ((nth x0 s60).Op_), .int .i64 ((nth x0 s60).Mod_), .bool ((nth x0 s60).Not_), lsv encSt80 2 ((nth x0 s60).R_)], .box [.int .u8 ((nth x1 s60).Op_), .int .i64 ((nth x1 s60).Mod_), .bool ((nth x1 s60).Not_), lsv encSt80 2 ((nth x1 s60).R_)]]) (by kernel_rfl) ?_
     refine kE ?_
     obtain rfl := oi h105
     refine PJ.wk (Wk.sel (L2 := [(1, lsv encSt75 4 x1), (2, .fn (.func 48) [] []), (6, .bool false), (15, lsv encSt75 4 x0), (16, .int .i64 (x0.length : Int)), (17, .int .i64 (IntKind.wrap .i64 (s60 + 1)))]) (H2 := []) 0 (by rw [hFH]; rfl) hFD [] (by kernel_rfl) (by kernel_rfl) (by decide) (by kernel_rfl) (by kernel_rfl) (by kernel_rfl) (by kernel_rfl)) ?_
     exact PJ.loopNext [1, 2, 6, 15, 16, 17] (by kernel_rfl) (by kernel_rfl)
   ·refine kF ?_
    refine K.exit 0 (by kernel_rfl) ?_
    refine PJ.passExit ?_
    obtain rfl := oi h97
    refine PJ.loopOut (fun e => nomatch e) (fun he110 => ?_)
    have h109 := congrArg some he110
    refine PJ.blockOut ?_
    obtain rfl := oi h109
    exact PJ.cutXl [6] (by kernel_rfl) (by kernel_rfl)
  ·subst hs
   have h59 := joinX_inl h58
   refine kSR ?_
   refine kC 1 [6] ?_
   refine kEN ?_
   refine kX ?_
   obtain rfl := oi h59
   exact K.retV (H0 := []) [] (.inr rfl) hFn hFH hFD (by kernel_rfl) (v1 := .bool true) (by kernel_rfl) (by kernel_rfl) (by kernel_rfl) (by decide) (by kernel_rfl) (by kernel_rfl) (by kernel_rfl) (by kernel_rfl) (by kernel_rfl)
def rule_Same_1 (x0 : List St75) (x1 : List St75) : Option (Bool) :=
 (Option.bind (api_Rel__47_s0 x0 x1) fun y1 => (some y1))
theorem rule_Same_1_ok {x0 : List St75} {x1 : List St75} {r : Bool} (h : rule_Same_1 x0 x1 = some r) : SC Tryz.prog 46 [lsv encSt75 4 x0, lsv encSt75 4 x1] [] (.bool r) [] := by
 refine kFn (fn := Tryz.f46) (fun F hFn hFH hFD => ?_)
 unfold rule_Same_1 at h
 refine kSR ?_
 refine kC 1 [0,1,4] ?_
 refine kEN ?_
 refine kSR ?_
 refine kC 2 [4,5,6] ?_
 obtain ⟨y1, hy2, h3⟩ := bindS h
 refine RJ.callG (d := (some 7)) (f := 47) (args := [lsv encSt75 4 x0, lsv encSt75 4 x1, .fn (.func 48) [] []]) (args0 := [lsv encSt75 4 x0, lsv encSt75 4 x1, .fn (.func 48) [] []]) (v0 := .bool y1) (v := .bool y1) (tr2 := []) (H0 := []) (H0' := []) (H2 := []) [] (by kernel_rfl) (by kernel_rfl) (by kernel_rfl) (by kernel_rfl) (by decide) (by kernel_rfl) (by kernel_rfl) (by kernel_rfl) (.cons (Le.refl _) (.cons (Le.refl _) (.cons (Le.refl _) .nil))) (api_Rel__47_s0_ok hy2) (by kernel_rfl) (by kernel_rfl) (by kernel_rfl) ?_
 refine kC 1 [4] ?_
 refine kEN ?_
 refine kX ?_
 obtain rfl := oi h3
 exact kZ hFn hFH hFD
def api_Rel__s0 (x0 : List (List St75)) (x1 : List (List St75)) : Option (Bool) :=
 (bif (decide (¬ (x0.length : Int) = (x1.length : Int))) then (some false) else (Option.bind (loopN (fun (s60 : Int) => (bif (decide (s60 < (x0.length : Int))) then (bif inR s60 x0.length then (bif inR s60 x1.length then (Option.bind (rule_Same_1 (nth x0 s60) (nth x1 s60)) fun y100 => (bif (!y100) then (some (.inr (.inr false))) else (some (.inl (IntKind.wrap .i64 (s60 + 1)))))) else none) else none) else (some (.inr (.inl ()))))) big 0) (joinX fun (s55 : Unit) => (some true))))
theorem api_Rel__s0_ok {x0 : List (List St75)} {x1 : List (List St75)} {r : Bool} (h : api_Rel__s0 x0 x1 = some r) : SC Tryz.prog 45 [lsv (encL encSt75 4) 1 x0, lsv (encL encSt75 4) 1 x1, .fn (.func 46) [] []] [] (.bool r) [] := by
 refine kFn (fn := Tryz.f45) (fun F hFn hFH hFD => ?_)
 unfold api_Rel__s0 at h
 refine kSR ?_
 refine kC 1 [0,1,2,6] ?_
 refine kEN ?_
 refine kS ?_
 refine kSR ?_
 refine kC 5 [0,1,2,6,14] ?_
 refine kEN ?_
 refine kBJ 14 h (fun h2 => ?_) (fun h3 => ?_)
 ·refine kT ?_
  refine kSR ?_
  refine kC 1 [0,1,2,6] ?_
  refine kEN ?_
  refine kX ?_
  refine PJ.passRet ?_
  obtain rfl := oi h2
  exact K.retV (H0 := []) [] (.inr rfl) hFn hFH hFD (by kernel_rfl) (v1 := .bool false) (by kernel_rfl) (by kernel_rfl) (by kernel_rfl) (by decide) (by kernel_rfl) (by kernel_rfl) (by kernel_rfl) (by kernel_rfl) (by kernel_rfl)
 ·refine kF ?_
  refine kK ?_
  refine PJ.next ?_
  obtain ⟨y56, hy57, h58⟩ := bindS h3
  refine K.cutX (by kernel_rfl) (fun (s55 : Unit) => ([(6, .bool false)], [])) y56 ?_ (fun s55 hs => ?_)
  ·refine kSR ?_
   refine kC 3 [1,2,6,15,16,17] ?_
   refine kEN ?_
   refine K.block 0 (by kernel_rfl) ?_
   refine K.loop (by kernel_rfl) (fun (s60 : Int) => ([(1, lsv (encL encSt75 4) 1 x1), (2, .fn (.func 46) [] []), (6, .bool false), (15, lsv (encL encSt75 4) 1 x0), (16, .int .i64 (x0.length : Int)), (17, .int .i64 s60)], [])) hy57 [1, 2, 6, 15, 16, 17] (by kernel_rfl) (by kernel_rfl) (fun s60 x94 hs93 => ?_)
   refine kSR ?_
   refine kC 1 [1,2,6,15,16,17,18] ?_
   refine kEN ?_
   refine kS ?_
   refine kBJ 18 hs93 (fun h96 => ?_) (fun h97 => ?_)
   ·refine kT ?_
    refine kK ?_
    refine PJ.next ?_
    refine kS ?_
    refine K.block 1 (by kernel_rfl) ?_
    refine kSR ?_
    refine kC 1 [1,2,6,15,16,17,19] ?_
    obtain ⟨hm, h98⟩ := asrt h96
    refine kI 20 (encL_len encSt75 4) hm ?_
    refine kC 3 [1,2,6,7,8,15,16,17] ?_
    refine kEN ?_
    refine kSR ?_
    refine RJ.seg 2 [1, 2, 6, 8, 15, 16, 17, 22, 23] (L2 := [(1, lsv (encL encSt75 4) 1 x1), (2, .fn (.func 46) [] []), (6, .bool false), (8, lsv encSt75 4 (nth x0 s60)), (15, lsv (encL encSt75 4) 1 x0), (16, .int .i64 (x0.length : Int)), (17, .int .i64 s60), (22, lsv (encL encSt75 4) 1 x1), (23, .int .i64 s60)]) (H2 := []) (by kernel_rfl) ?_
    obtain ⟨hm, h99⟩ := asrt h98
    refine kI 24 (encL_len encSt75 4) hm ?_
    refine kC 2 [1,2,6,8,9,15,16,17] ?_
    refine kEN ?_
    refine kSR ?_
    refine kC 3 [1,2,6,15,16,17,26,27,28] ?_
    obtain ⟨y100, hy101, h102⟩ := bindS h99
    refine kA 29 (rule_Same_1_ok hy101) ?_
    refine kC 1 [1,2,6,15,16,17,30] ?_
    refine kEN ?_
    refine kBJ 30 h102 (fun h104 => ?_) (fun h105 => ?_)
    ·refine kT ?_
     refine kSR ?_
     refine RJ.seg 1 [1, 2, 6, 15, 16, 17] (L2 := [(1, lsv (encL encSt75 4) 1 x1), (2, .fn (.func 46) [] []), (6, .bool false), (15, lsv (encL encSt75 4) 1 x0), (16, .int .i64 (x0.length : Int)), (17, .int .i64 s60)]) (H2 := []) (by kernel_rfl) ?_
     refine kEN ?_
     refine kX ?_
     refine PJ.blockRet ?_
     refine PJ.passRet ?_
     obtain rfl := oi h104
     refine PJ.loopOut (fun e => nomatch e) (fun he108 => ?_)
     have h106 := congrArg some he108
     refine PJ.blockRet ?_
     obtain rfl := oi h106
     have h107 := joinX_inr h58
     refine PJ.cutXr (fun e => nomatch e) ?_
     obtain rfl := oi h107
     exact K.retV (H0 := []) [] (.inr rfl) hFn hFH hFD (by kernel_rfl) (v1 := .bool false) (by kernel_rfl) (by kernel_rfl) (by kernel_rfl) (by decide) (by kernel_rfl) (by kernel_rfl) (by kernel_rfl) (by kernel_rfl) (by kernel_rfl)
    ·refine kF ?_
     refine kK ?_
     refine PJ.blockNormal ?_
     refine PJ.next ?_
     refine kR ?_
     refine RJ.seg 2 [1, 2, 6, 15, 16, 17] (L2 := [(1, lsv (encL encSt75 4) 1 x1), (2, .fn (.func 46) [] []), (6, .bool false), (15, lsv (encL encSt75 4) 1 x0), (16, .int .i64 (x0.length : Int)), (17, .int .i64 (IntKind.wrap .i64 (s60 + 1)))]) (H2 := []) (by kernel_rfl) ?_
     refine kE ?_
     obtain rfl := oi h105
     exact PJ.loopNext [1, 2, 6, 15, 16, 17] (by kernel_rfl) (by kernel_rfl)
   ·refine kF ?_
    refine K.exit 0 (by kernel_rfl) ?_
    refine PJ.passExit ?_
    obtain rfl := oi h97
    refine PJ.loopOut (fun e => nomatch e) (fun he110 => ?_)
    have h109 := congrArg some he110
    refine PJ.blockOut ?_
    obtain rfl := oi h109
    exact PJ.cutXl [6] (by kernel_rfl) (by kernel_rfl)
  ·subst hs
   have h59 := joinX_inl h58
   refine kSR ?_
   refine kC 1 [6] ?_
   refine kEN ?_
   refine kX ?_
   obtain rfl := oi h59
   exact K.retV (H0 := []) [] (.inr rfl) hFn hFH hFD (by kernel_rfl) (v1 := .bool true) (by kernel_rfl) (by kernel_rfl) (by kernel_rfl) (by decide) (by kernel_rfl) (by kernel_rfl) (by kernel_rfl) (by kernel_rfl) (by kernel_rfl)
def rule_Same (x0 : List (List St75)) (x1 : List (List St75)) : Option (Bool) :=
 (Option.bind (api_Rel__s0 x0 x1) fun y1 => (some y1))
theorem rule_Same_ok {x0 : List (List St75)} {x1 : List (List St75)} {r : Bool} (h : rule_Same x0 x1 = some r) : SC Tryz.prog 31 [lsv (encL encSt75 4) 1 x0, lsv (encL encSt75 4) 1 x1] [] (.bool r) [] := by
 refine kFn (fn := Tryz.f31) (fun F hFn hFH hFD => ?_)
 unfold rule_Same at h
 refine kSR ?_
 refine kC 1 [0,1,4] ?_
 refine kEN ?_
 refine kSR ?_
 refine kC 2 [4,5,6] ?_
 obtain ⟨y1, hy2, h3⟩ := bindS h
 refine RJ.callG (d := (some 7)) (f := 45) (args := [lsv (encL encSt75 4) 1 x0, lsv (encL encSt75 4) 1 x1, .fn (.func 46) [] []]) (args0 := [lsv (encL encSt75 4) 1 x0, lsv (encL encSt75 4) 1 x1, .fn (.func 46) [] []]) (v0 := .bool y1) (v := .bool y1) (tr2 := []) (H0 := []) (H0' := []) (H2 := []) [] (by kernel_rfl) (by kernel_rfl) (by kernel_rfl) (by kernel_rfl) (by decide) (by kernel_rfl) (by kernel_rfl) (by kernel_rfl) (.cons (Le.refl _) (.cons (Le.refl _) (.cons (Le.refl _) .nil))) (api_Rel__s0_ok hy2) (by kernel_rfl) (by kernel_rfl) (by kernel_rfl) ?_
 refine kC 1 [4] ?_
 refine kEN ?_
 refine kX ?_
 obtain rfl := oi h3
 exact kZ hFn hFH hFD
def rule_Right (x0 : List (List St75)) : Option (Bool) :=
 (Option.bind (rule_Text x0) fun y1 => (Option.bind (rule_Parse y1) fun y4 => (Option.bind (bif (decide (y4.2.2 = 0)) then (Option.bind (rule_Same x0 y4.1) fun y21 => (some y21)) else (some false)) fun (s13 : Bool) => (some s13))))
theorem rule_Right_ok {x0 : List (List St75)} {r : Bool} (h : rule_Right x0 = some r) : SC Tryz.prog 25 [lsv (encL encSt75 4) 1 x0] [] (.bool r) [] := by
 refine kFn (fn := Tryz.f25) (fun F hFn hFH hFD => ?_)
 unfold rule_Right at h
 refine kSR ?_
 refine kC 1 [0,2] ?_
 refine kEN ?_
 refine kSR ?_
 refine kC 1 [0,2,7] ?_
 obtain ⟨y1, hy2, h3⟩ := bindS h
 refine kA 8 (rule_Text_ok hy2) ?_
 obtain ⟨y4, hy5, h6⟩ := bindS h3
 refine kA 9 (rule_Parse_ok hy5) ?_
 refine kC 7 [0,2,3,5] ?_
 refine kEN ?_
 obtain ⟨s13, hy15, h17⟩ := bindS h6
 refine K.cutN (by kernel_rfl) (fun (s13 : Bool) => ([(2, .bool s13)], [])) s13 ?_ ?_
 ·refine kR ?_
  refine RJ.seg 3 [0, 2, 3, 15] (L2 := [(0, lsv (encL encSt75 4) 1 x0), (2, .bool false), (3, lsv (encL encSt75 4) 1 y4.1), (15, .bool (decide (y4.2.2 = 0)))]) (H2 := []) (by kernel_rfl) ?_
  refine kB 15 hy15 (fun h19 => ?_) (fun h20 => ?_)
  ·refine kC 2 [2,15,16,17] ?_
   obtain ⟨y21, hy22, h23⟩ := bindS h19
   refine kA 18 (rule_Same_ok hy22) ?_
   refine kC 2 [2] ?_
   refine kE ?_
   obtain rfl := oi h23
   exact kN [2]
  ·refine kC 5 [2] ?_
   refine kE ?_
   obtain rfl := oi h20
   exact kN [2]
 ·refine kX ?_
  obtain rfl := oi h17
  exact kZ hFn hFH hFD
def plur_Read (x0 : List St49) : Option ((List St46) × Int × Int) :=
 (Option.bind (loopN (fun (s459 : Int × Int × (List St46)) => (bif (decide (s459.2.1 < (x0.length : Int))) then (Option.bind (bif inR s459.2.1 x0.length then (Option.bind (plur_rises s459.1 ((nth x0 s459.2.1).Cat_)) fun y841 => (bif (!y841) then (some (.inr (.inr (.inr (([] : List St46), s459.2.1, 1))))) else (Option.bind (rule_Parse ((nth x0 s459.2.1).Text_)) fun y851 => (Option.bind (Option.bind (bif (decide (¬ y851.2.2 = 0)) then (some true) else (Option.bind (rule_Right y851.1) fun y898 => (some (!y898)))) fun (s890 : Bool) => (bif s890 then (some (.inr (.inr (.inr (.inr (([] : List St46), s459.2.1, 2)))))) else (some (.inl ())))) (joinX fun (s879 : Unit) => (bif room (s459.2.2.length + (([(⟨(nth x0 s459.2.1).Cat_, y851.1⟩ : St46)] : List St46)).length) then (some (.inl ((s459.2.2 ++ (([(⟨(nth x0 s459.2.1).Cat_, y851.1⟩ : St46)] : List St46)))))) else none)))))) else none) (joinX fun (s835 : (List St46)) => (some (.inl ((nth x0 s459.2.1).Cat_, (IntKind.wrap .i64 (s459.2.1 + 1)), s835))))) else (some (.inr (.inl s459.2.2))))) big (0, 0, ([] : List St46))) (joinX fun (s454 : (List St46)) => (some (s454, 0, 0))))
theorem plur_Read_ok {x0 : List St49} {r : (List St46) × Int × Int} (h : plur_Read x0 = some r) : SC Tryz.prog 9 [lsv encSt49 2 x0] [] (.tup [lsv encSt46 2 r.1, .int .i64 r.2.1, .int .i64 r.2.2]) [] := by
 refine kFn (fn := Tryz.f9) (fun F hFn hFH hFD => ?_)
 unfold plur_Read at h
 refine kSR ?_
 refine kC 3 [0,2,3,4] ?_
 refine kEN ?_
 refine kSR ?_
 refine kC 1 [0,2,3,4,5] ?_
 refine kEN ?_
 refine kSR ?_
 refine kC 1 [0,2,3,4,5,6] ?_
 refine kEN ?_
 obtain ⟨y455, hy456, h457⟩ := bindS h
 refine K.cutX (by kernel_rfl) (fun (s454 : (List St46)) => ([(2, .nl), (3, .int .i64 0), (4, .int .i64 0), (5, .vc 0)], [vecL encSt46 2 47 s454])) y455 ?_ (fun s454 hs => ?_)
 ·refine kSR ?_
  refine RJ.seg 3 [2, 3, 4, 5, 6, 12, 13, 14] (L2 := [(2, .nl), (3, .int .i64 0), (4, .int .i64 0), (5, .nl), (6, .int .i64 0), (12, lsv encSt49 2 x0), (13, .int .i64 (x0.length : Int)), (14, .int .i64 0)]) (H2 := []) (by kernel_rfl) ?_
  refine kEN ?_
  refine K.block 0 (by kernel_rfl) ?_
  refine J.wk (Wk.viv 5 2 47 (by kernel_rfl)) ?_
  refine K.loop (by kernel_rfl) (fun (s459 : Int × Int × (List St46)) => ([(2, .nl), (3, .int .i64 0), (4, .int .i64 0), (5, .vc 0), (6, .int .i64 s459.1), (12, lsv encSt49 2 x0), (13, .int .i64 (x0.length : Int)), (14, .int .i64 s459.2.1)], [vecL encSt46 2 47 s459.2.2])) hy456 [2, 3, 4, 5, 6, 12, 13, 14] (by kernel_rfl) (by kernel_rfl) (fun s459 x761 hs760 => ?_)
  refine kSR ?_
  refine kC 1 [2,3,4,5,6,12,13,14,15] ?_
  refine kEN ?_
  refine kS ?_
  refine kBJ 15 hs760 (fun h763 => ?_) (fun h764 => ?_)
  ·refine kT ?_
   refine kK ?_
   refine PJ.next ?_
   obtain ⟨y836, hy837, h838⟩ := bindS h763
   refine K.cutX (by kernel_rfl) (fun (s835 : (List St46)) => ([(2, .nl), (3, .int .i64 0), (4, .int .i64 0), (5, .vc 0), (6, .int .i64 ((nth x0 s459.2.1).Cat_)), (12, lsv encSt49 2 x0), (13, .int .i64 (x0.length : Int)), (14, .int .i64 s459.2.1)], [vecL encSt46 2 47 s835])) y836 ?_ (fun s835 hs => ?_)
   ·refine K.block 1 (by kernel_rfl) ?_
    refine kSR ?_
    refine kC 1 [2,3,4,5,6,12,13,14,16] ?_
    obtain ⟨hm, h840⟩ := asrt hy837
    refine kI 17 encSt49_len hm ?_
    refine kC 4 [2,3,4,5,6,7,8,12,13,14] ?_
    refine kEN ?_
    refine kS ?_
    refine kSR ?_
    refine RJ.seg 3 [2, 3, 4, 5, 6, 7, 8, 12, 13, 14, 19, 21] (L2 := [(2, .nl), (3, .int .i64 0), (4, .int .i64 0), (5, .vc 0), (6, .int .i64 s459.1), (7, .int .i64 s459.2.1), (8, .ptr 1 0), (12, lsv encSt49 2 x0), (13, .int .i64 (x0.length : Int)), (14, .int .i64 s459.2.1), (19, .int .i64 s459.1), (21, .int .i64 ((nth x0 s459.2.1).Cat_))]) (H2 := [vecL encSt46 2 47 s459.2.2, .box [.int .i64 ((nth x0 s459.2.1).Cat_), .str ((nth x0 s459.2.1).Text_)]]) (by kernel_rfl) ?_
    obtain ⟨y841, hy842, h843⟩ := bindS h840
    refine kA 22 (plur_rises_ok hy842) ?_
    refine kC 1 [2,3,4,5,6,7,8,12,13,14,23] ?_
    refine kEN ?_
    refine kBJ 23 h843 (fun h845 => ?_) (fun h846 => ?_)
    ·refine kT ?_
     refine kSR ?_
     refine kC 4 [2,3,4,5,6,7,8,12,13,14] ?_
     refine kEN ?_
     refine kX ?_
     refine PJ.passRet ?_
     refine PJ.blockRet ?_
     obtain rfl := oi h845
     have h847 := joinX_inr h838
     refine PJ.cutXr (fun e => nomatch e) ?_
     obtain rfl := oi h847
     refine PJ.loopOut (fun e => nomatch e) (fun he850 => ?_)
     have h848 := congrArg some he850
     refine PJ.blockRet ?_
     obtain rfl := oi h848
     have h849 := joinX_inr h457
     refine PJ.cutXr (fun e => nomatch e) ?_
     obtain rfl := oi h849
     refine PJ.res (v1 := .tup [.nl, .int .i64 s459.2.1, .int .i64 1]) (Le.tup (.cons (Le.nl _) (.cons (Le.refl _) (.cons (Le.refl _) .nil)))) ?_
     exact kZ hFn hFH hFD
    ·refine kF ?_
     refine kK ?_
     refine PJ.next ?_
     refine kSR ?_
     refine kC 2 [2,3,4,5,6,7,8,12,13,14,27] ?_
     obtain ⟨y851, hy852, h853⟩ := bindS h846
     refine kA 28 (rule_Parse_ok hy852) ?_
     refine kC 7 [2,3,4,5,6,7,8,9,11,12,13,14] ?_
     refine kEN ?_
     obtain ⟨y880, hy881, h882⟩ := bindS h853
     refine K.cutX (by kernel_rfl) (fun (s879 : Unit) => ([(2, .nl), (3, .int .i64 0), (4, .int .i64 0), (5, .vc 0), (6, .int .i64 s459.1), (8, .ptr 1 0), (9, lsv (encL encSt75 4) 1 y851.1), (12, lsv encSt49 2 x0), (13, .int .i64 (x0.length : Int)), (14, .int .i64 s459.2.1)], [vecL encSt46 2 47 s459.2.2, .box [.int .i64 ((nth x0 s459.2.1).Cat_), .str ((nth x0 s459.2.1).Text_)]])) y880 ?_ (fun s879 hs => ?_)
     ·obtain ⟨s890, hy892, h894⟩ := bindS hy881
      refine K.cutN (by kernel_rfl) (fun (s890 : Bool) => ([(2, .nl), (3, .int .i64 0), (4, .int .i64 0), (5, .vc 0), (6, .int .i64 s459.1), (7, .int .i64 s459.2.1), (8, .ptr 1 0), (9, lsv (encL encSt75 4) 1 y851.1), (12, lsv encSt49 2 x0), (13, .int .i64 (x0.length : Int)), (14, .int .i64 s459.2.1), (38, .bool s890)], [vecL encSt46 2 47 s459.2.2, .box [.int .i64 ((nth x0 s459.2.1).Cat_), .str ((nth x0 s459.2.1).Text_)]])) s890 ?_ ?_
      ·refine kR ?_
       refine RJ.seg 3 [2, 3, 4, 5, 6, 7, 8, 9, 12, 13, 14, 34] (L2 := [(2, .nl), (3, .int .i64 0), (4, .int .i64 0), (5, .vc 0), (6, .int .i64 s459.1), (7, .int .i64 s459.2.1), (8, .ptr 1 0), (9, lsv (encL encSt75 4) 1 y851.1), (12, lsv encSt49 2 x0), (13, .int .i64 (x0.length : Int)), (14, .int .i64 s459.2.1), (34, .bool (decide (¬ y851.2.2 = 0)))]) (H2 := [vecL encSt46 2 47 s459.2.2, .box [.int .i64 ((nth x0 s459.2.1).Cat_), .str ((nth x0 s459.2.1).Text_)]]) (by kernel_rfl) ?_
       refine kB 34 hy892 (fun h896 => ?_) (fun h897 => ?_)
       ·refine kC 4 [2,3,4,5,6,7,8,9,12,13,14,38] ?_
        refine kE ?_
        obtain rfl := oi h896
        exact kN [2, 3, 4, 5, 6, 7, 8, 9, 12, 13, 14, 38]
       ·refine kC 1 [2,3,4,5,6,7,8,9,12,13,14,34,35] ?_
        obtain ⟨y898, hy899, h900⟩ := bindS h897
        refine kA 36 (rule_Right_ok hy899) ?_
        refine kC 2 [2,3,4,5,6,7,8,9,12,13,14,38] ?_
        refine kE ?_
        obtain rfl := oi h900
        exact kN [2, 3, 4, 5, 6, 7, 8, 9, 12, 13, 14, 38]
      ·refine kBJ 38 h894 (fun h902 => ?_) (fun h903 => ?_)
       ·refine kT ?_
        refine kSR ?_
        refine kC 4 [2,3,4,5,6,8,9,12,13,14] ?_
        refine kEN ?_
        refine kX ?_
        obtain rfl := oi h902
        have h904 := joinX_inr h882
        refine PJ.cutXr (fun e => nomatch e) ?_
        refine PJ.blockRet ?_
        obtain rfl := oi h904
        have h905 := joinX_inr h838
        refine PJ.cutXr (fun e => nomatch e) ?_
        obtain rfl := oi h905
        refine PJ.loopOut (fun e => nomatch e) (fun he908 => ?_)
        have h906 := congrArg some he908
        refine PJ.blockRet ?_
        obtain rfl := oi h906
        have h907 := joinX_inr h457
        refine PJ.cutXr (fun e => nomatch e) ?_
        obtain rfl := oi h907
        refine PJ.res (v1 := .tup [.nl, .int .i64 s459.2.1, .int .i64 2]) (Le.tup (.cons (Le.nl _) (.cons (Le.refl _) (.cons (Le.refl _) .nil)))) ?_
        exact kZ hFn hFH hFD
       ·refine kF ?_
        refine kK ?_
        obtain rfl := oi h903
        exact PJ.cutXl [2, 3, 4, 5, 6, 8, 9, 12, 13, 14] (by kernel_rfl) (by kernel_rfl)
     ·subst hs
      have h883 := joinX_inl h882
      refine kSR ?_
      refine kC 6 [2,3,4,5,6,8,12,13,14,40,45] ?_
      obtain ⟨hm, h909⟩ := asrt h883
      refine RJ.rel (d := (some 46)) (ef := ⟨.vc 3, [0, 2], [(0, .gone), (3, .vec (s459.2.2.length + (([(⟨(nth x0 s459.2.1).Cat_, y851.1⟩ : St46)] : List St46)).length) 2 47 (s459.2.2.flatMap encSt46 ++ (([(⟨(nth x0 s459.2.1).Cat_, y851.1⟩ : St46)] : List St46)).flatMap encSt46))]⟩) (ef' := ⟨.vc 3, [0, 2], [(0, .gone), (3, vecL encSt46 2 47 (s459.2.2 ++ (([(⟨(nth x0 s459.2.1).Cat_, y851.1⟩ : St46)] : List St46))))]⟩) (c := room (s459.2.2.length + (([(⟨(nth x0 s459.2.1).Cat_, y851.1⟩ : St46)] : List St46)).length)) (tr2 := []) (H2 := [.gone, .box [.int .i64 ((nth x0 s459.2.1).Cat_), .str ((nth x0 s459.2.1).Text_)], vecL encSt46 2 47 (([(⟨(nth x0 s459.2.1).Cat_, y851.1⟩ : St46)] : List St46)), vecL encSt46 2 47 ((s459.2.2 ++ (([(⟨(nth x0 s459.2.1).Cat_, y851.1⟩ : St46)] : List St46))))]) (by kernel_rfl) hm (fun hc => N.app) (by kernel_rfl) ?_
      refine kC 1 [2,3,4,5,6,8,12,13,14] ?_
      refine kEN ?_
      refine kR ?_
      refine kC 3 [2,3,4,5,6,12,13,14] ?_
      refine kE ?_
      refine PJ.blockNormal ?_
      obtain rfl := oi h909
      refine PJ.wk (Wk.sel (L2 := [(2, .nl), (3, .int .i64 0), (4, .int .i64 0), (5, .vc 0), (6, .int .i64 ((nth x0 s459.2.1).Cat_)), (12, lsv encSt49 2 x0), (13, .int .i64 (x0.length : Int)), (14, .int .i64 s459.2.1)]) (H2 := [vecL encSt46 2 47 ((s459.2.2 ++ (([(⟨(nth x0 s459.2.1).Cat_, y851.1⟩ : St46)] : List St46))))]) 0 (by rw [hFH]; rfl) hFD [3] (by kernel_rfl) (by kernel_rfl) (by decide) (by kernel_rfl) (by kernel_rfl) (by kernel_rfl) (by kernel_rfl)) ?_
      exact PJ.cutXl [2, 3, 4, 5, 6, 12, 13, 14] (by kernel_rfl) (by kernel_rfl)
   ·subst hs
    have h839 := joinX_inl h838
    refine kR ?_
    refine kC 2 [2,3,4,5,6,12,13,14] ?_
    refine kE ?_
    obtain rfl := oi h839
    exact PJ.loopNext [2, 3, 4, 5, 6, 12, 13, 14] (by kernel_rfl) (by kernel_rfl)
  ·refine kF ?_
   refine K.exit 0 (by kernel_rfl) ?_
   refine PJ.passExit ?_
   obtain rfl := oi h764
   refine PJ.loopOut (fun e => nomatch e) (fun he911 => ?_)
   have h910 := congrArg some he911
   refine PJ.blockOut ?_
   obtain rfl := oi h910
   exact PJ.cutXl [2, 3, 4, 5] (by kernel_rfl) (by kernel_rfl)
 ·subst hs
  have h458 := joinX_inl h457
  refine kSR ?_
  refine kC 4 [2,3,4] ?_
  refine kEN ?_
  refine kX ?_
  obtain rfl := oi h458
  refine PJ.wk (Wk.freeze 0 (n := s454.length) (k := 2) (e := 47) (cs := s454.flatMap encSt46) (by kernel_rfl)) ?_
  exact kZ hFn hFH hFD
structure St33 where
 I_ : List Int
 F_ : List Int
 W_ : Int
 C_ : Int
 deriving Inhabited, DecidableEq
def encSt33 (x : St33) : List SV := [lsv (encI .u8) 1 x.I_, lsv (encI .u8) 1 x.F_, .int .i64 x.W_, .int .i64 x.C_]
theorem encSt33_len (x : St33) : (encSt33 x).length = 4 := rfl
def rule_asks_s0 (x0 : St33) : Option (Unit) :=
 (some ())
theorem rule_asks_s0_ok {x0 : St33} {r : Unit} (h : rule_asks_s0 x0 = some r) : SC Tryz.prog 61 [.agg (encSt33 x0)] [] (.fn (.func 73) [] [.ptr 0 0]) [.box (encSt33 x0)] := by
 refine kFn (fn := Tryz.f61) (fun F hFn hFH hFD => ?_)
 unfold rule_asks_s0 at h
 refine kSR ?_
 refine kC 2 [1] ?_
 refine kEN ?_
 refine kSR ?_
 refine kC 2 [2] ?_
 refine kEN ?_
 refine kX ?_
 obtain rfl := oi h
 exact K.retV (H0 := []) [0] (.inr rfl) hFn hFH hFD (by kernel_rfl) (v1 := .fn (.func 73) [] [.ptr 0 0]) (by kernel_rfl) (by kernel_rfl) (by kernel_rfl) (by decide) (by kernel_rfl) (by kernel_rfl) (by kernel_rfl) (by kernel_rfl) (by kernel_rfl)
def oper_figures (x0 : List Int) : Option (Bool) :=
 (Option.bind (loopN (fun (s45 : Int) => (bif (decide (s45 < (x0.length : Int))) then (bif inR s45 x0.length then (bif (decide ((nth x0 s45) > 9)) then (some (.inr (.inr false))) else (some (.inl (IntKind.wrap .i64 (s45 + 1))))) else none) else (some (.inr (.inl ()))))) big 0) (joinX fun (s40 : Unit) => (some true)))
theorem oper_figures_ok {x0 : List Int} {r : Bool} (h : oper_figures x0 = some r) : SC Tryz.prog 95 [lsv (encI .u8) 1 x0] [] (.bool r) [] := by
 refine kFn (fn := Tryz.f95) (fun F hFn hFH hFD => ?_)
 unfold oper_figures at h
 refine kSR ?_
 refine kC 1 [0,2] ?_
 refine kEN ?_
 obtain ⟨y41, hy42, h43⟩ := bindS h
 refine K.cutX (by kernel_rfl) (fun (s40 : Unit) => ([(2, .bool false)], [])) y41 ?_ (fun s40 hs => ?_)
 ·refine kSR ?_
  refine kC 3 [2,5,6,7] ?_
  refine kEN ?_
  refine K.block 0 (by kernel_rfl) ?_
  refine K.loop (by kernel_rfl) (fun (s45 : Int) => ([(2, .bool false), (5, lsv (encI .u8) 1 x0), (6, .int .i64 (x0.length : Int)), (7, .int .i64 s45)], [])) hy42 [2, 5, 6, 7] (by kernel_rfl) (by kernel_rfl) (fun s45 x71 hs70 => ?_)
  refine kSR ?_
  refine kC 1 [2,5,6,7,8] ?_
  refine kEN ?_
  refine kS ?_
  refine kBJ 8 hs70 (fun h73 => ?_) (fun h74 => ?_)
  ·refine kT ?_
   refine kK ?_
   refine PJ.next ?_
   refine kS ?_
   refine K.block 1 (by kernel_rfl) ?_
   refine kSR ?_
   obtain ⟨hm, h75⟩ := asrt h73
   refine kI 9 (encI_len .u8) hm ?_
   refine kC 2 [2,4,5,6,7] ?_
   refine kEN ?_
   refine kSR ?_
   refine kC 2 [2,5,6,7,12] ?_
   refine kEN ?_
   refine kBJ 12 h75 (fun h77 => ?_) (fun h78 => ?_)
   ·refine kT ?_
    refine kSR ?_
    refine RJ.seg 1 [2, 5, 6, 7] (L2 := [(2, .bool false), (5, lsv (encI .u8) 1 x0), (6, .int .i64 (x0.length : Int)), (7, .int .i64 s45)]) (H2 := []) (by kernel_rfl) ?_
    refine kEN ?_
    refine kX ?_
    refine PJ.blockRet ?_
    refine PJ.passRet ?_
    obtain rfl := oi h77
    refine PJ.loopOut (fun e => nomatch e) (fun he81 => ?_)
    have h79 := congrArg some he81
    refine PJ.blockRet ?_
    obtain rfl := oi h79
    have h80 := joinX_inr h43
    refine PJ.cutXr (fun e => nomatch e) ?_
    obtain rfl := oi h80
    exact kZ hFn hFH hFD
   ·refine kF ?_
    refine kK ?_
    refine PJ.blockNormal ?_
    refine PJ.next ?_
    refine kR ?_
    refine RJ.seg 2 [2, 5, 6, 7] (L2 := [(2, .bool false), (5, lsv (encI .u8) 1 x0), (6, .int .i64 (x0.length : Int)), (7, .int .i64 (IntKind.wrap .i64 (s45 + 1)))]) (H2 := []) (by kernel_rfl) ?_
    refine kE ?_
    obtain rfl := oi h78
    exact PJ.loopNext [2, 5, 6, 7] (by kernel_rfl) (by kernel_rfl)
  ·refine kF ?_
   refine K.exit 0 (by kernel_rfl) ?_
   refine PJ.passExit ?_
   obtain rfl := oi h74
   refine PJ.loopOut (fun e => nomatch e) (fun he83 => ?_)
   have h82 := congrArg some he83
   refine PJ.blockOut ?_
   obtain rfl := oi h82
   exact PJ.cutXl [2] (by kernel_rfl) (by kernel_rfl)
 ·subst hs
  have h44 := joinX_inl h43
  refine kSR ?_
  refine kC 1 [2] ?_
  refine kEN ?_
  refine kX ?_
  obtain rfl := oi h44
  exact kZ hFn hFH hFD
def oper_shown (x0 : List Int) : Option (Int) :=
 (Option.bind (loopN (fun (s138 : Int) => (Option.bind (Option.bind (bif (decide (s138 > 0)) then (bif inR (IntKind.wrap .i64 (s138 - 1)) x0.length then (some ((decide (((nth x0 (IntKind.wrap .i64 (s138 - 1)))) = 0)))) else none) else (some false)) fun (s255 : Bool) => (bif s255 then (some (.inl ())) else (some (.inr (.inr s138))))) (joinX fun (s246 : Unit) => (some (.inl (IntKind.wrap .i64 (s138 - 1))))))) big (x0.length : Int)) fun (s133 : Int) => (some s133))
theorem oper_shown_ok {x0 : List Int} {r : Int} (h : oper_shown x0 = some r) : SC Tryz.prog 96 [lsv (encI .u8) 1 x0] [] (.int .i64 r) [] := by
 refine kFn (fn := Tryz.f96) (fun F hFn hFH hFD => ?_)
 unfold oper_shown at h
 refine kSR ?_
 refine kC 1 [0,2] ?_
 refine kEN ?_
 refine kSR ?_
 refine kC 3 [0,2,3] ?_
 refine kEN ?_
 obtain ⟨s133, hy135, h137⟩ := bindS h
 refine K.cutN (by kernel_rfl) (fun (s133 : Int) => ([(2, .int .i64 0), (3, .int .i64 s133)], [])) s133 ?_ ?_
 ·refine K.block 0 (by kernel_rfl) ?_
  refine K.loop (by kernel_rfl) (fun (s138 : Int) => ([(0, lsv (encI .u8) 1 x0), (2, .int .i64 0), (3, .int .i64 s138)], [])) hy135 [0, 2, 3] (by kernel_rfl) (by kernel_rfl) (fun s138 x226 hs225 => ?_)
  obtain ⟨y247, hy248, h249⟩ := bindS hs225
  refine K.cutX (by kernel_rfl) (fun (s246 : Unit) => ([(0, lsv (encI .u8) 1 x0), (2, .int .i64 0), (3, .int .i64 s138)], [])) y247 ?_ (fun s246 hs => ?_)
  ·obtain ⟨s255, hy257, h259⟩ := bindS hy248
   refine K.cutN (by kernel_rfl) (fun (s255 : Bool) => ([(0, lsv (encI .u8) 1 x0), (2, .int .i64 0), (3, .int .i64 s138), (15, .bool s255)], [])) s255 ?_ ?_
   ·refine kR ?_
    refine kC 3 [0,2,3,8] ?_
    refine kB 8 hy257 (fun h261 => ?_) (fun h262 => ?_)
    ·refine kC 3 [0,2,3,8,9,11] ?_
     obtain ⟨hm, h263⟩ := asrt h261
     refine kI 12 (encI_len .u8) hm ?_
     refine kC 3 [0,2,3,15] ?_
     refine kE ?_
     obtain rfl := oi h263
     exact kN [0, 2, 3, 15]
    ·refine kC 7 [0,2,3,15] ?_
     refine kE ?_
     obtain rfl := oi h262
     exact kN [0, 2, 3, 15]
   ·refine kBJ 15 h259 (fun h265 => ?_) (fun h266 => ?_)
    ·refine kT ?_
     refine kK ?_
     obtain rfl := oi h265
     exact PJ.cutXl [0, 2, 3] (by kernel_rfl) (by kernel_rfl)
    ·refine kF ?_
     refine K.exit 0 (by kernel_rfl) ?_
     obtain rfl := oi h266
     have h267 := joinX_inr h249
     refine PJ.cutXr (fun e => nomatch e) ?_
     obtain rfl := oi h267
     refine PJ.loopOut (fun e => nomatch e) (fun he269 => ?_)
     have h268 := congrArg some he269
     refine PJ.blockOut ?_
     obtain rfl := oi h268
     exact kN [2, 3]
  ·subst hs
   have h250 := joinX_inl h249
   refine K.block 1 (by kernel_rfl) ?_
   refine kR ?_
   refine kC 3 [0,2,3] ?_
   refine kE ?_
   refine PJ.blockNormal ?_
   obtain rfl := oi h250
   exact PJ.loopNext [0, 2, 3] (by kernel_rfl) (by kernel_rfl)
 ·refine kSR ?_
  refine kC 2 [2] ?_
  refine kEN ?_
  refine kX ?_
  obtain rfl := oi h137
  exact kZ hFn hFH hFD
def oper_Right (x0 : St33) : Option (Bool) :=
 (Option.bind (Option.bind (Option.bind (oper_figures x0.I_) fun y68 => (bif (!y68) then (some true) else (Option.bind (oper_figures x0.F_) fun y74 => (bif (!y74) then (some true) else (bif (decide ((x0.I_.length : Int) > 0)) then (bif inR 0 x0.I_.length then (some ((decide ((nth x0.I_ 0) = 0)))) else none) else (some false)))))) fun (s63 : Bool) => (bif s63 then (some (.inr false)) else (some (.inl ())))) (joinX fun (s42 : Unit) => (Option.bind (Option.bind (oper_shown x0.F_) fun y102 => (bif (decide (x0.W_ = y102)) then (bif (decide (x0.C_ ≥ 0)) then (some (decide (x0.C_ ≤ 1000))) else (some false)) else (some false))) fun (s97 : Bool) => (some s97))))
theorem oper_Right_ok {x0 : St33} {r : Bool} (h : oper_Right x0 = some r) : SC Tryz.prog 83 [.agg (encSt33 x0)] [] (.bool r) [] := by
 refine kFn (fn := Tryz.f83) (fun F hFn hFH hFD => ?_)
 unfold oper_Right at h
 refine kSR ?_
 refine kC 2 [1,2] ?_
 refine kEN ?_
 obtain ⟨y43, hy44, h45⟩ := bindS h
 refine K.cutX (by kernel_rfl) (fun (s42 : Unit) => ([(1, .ptr 0 0), (2, .bool false)], [.box (encSt33 x0)])) y43 ?_ (fun s42 hs => ?_)
 ·obtain ⟨s63, hy65, h67⟩ := bindS hy44
  refine K.cutN (by kernel_rfl) (fun (s63 : Bool) => ([(1, .ptr 0 0), (2, .bool false), (25, .bool s63)], [.box (encSt33 x0)])) s63 ?_ ?_
  ·refine kR ?_
   refine kC 2 [1,2,4] ?_
   obtain ⟨y68, hy69, h70⟩ := bindS hy65
   refine kA 5 (oper_figures_ok hy69) ?_
   refine kC 2 [1,2,7] ?_
   refine kB 7 h70 (fun h72 => ?_) (fun h73 => ?_)
   ·refine RJ.seg 18 [1, 2, 25] (L2 := [(1, .ptr 0 0), (2, .bool false), (25, .bool true)]) (H2 := [.box (encSt33 x0)]) (by kernel_rfl) ?_
    refine kE ?_
    obtain rfl := oi h72
    exact kN [1, 2, 25]
   ·refine RJ.seg 2 [1, 2, 7, 9] (L2 := [(1, .ptr 0 0), (2, .bool false), (7, .bool false), (9, lsv (encI .u8) 1 x0.F_)]) (H2 := [.box (encSt33 x0)]) (by kernel_rfl) ?_
    obtain ⟨y74, hy75, h76⟩ := bindS h73
    refine kA 10 (oper_figures_ok hy75) ?_
    refine kC 3 [1,2,13] ?_
    refine kB 13 h76 (fun h78 => ?_) (fun h79 => ?_)
    ·refine kC 12 [1,2,25] ?_
     refine kE ?_
     obtain rfl := oi h78
     exact kN [1, 2, 25]
    ·refine kC 5 [1,2,13,18] ?_
     refine kB 18 h79 (fun h81 => ?_) (fun h82 => ?_)
     ·refine kC 2 [1,2,13,18,20] ?_
      obtain ⟨hm, h83⟩ := asrt h81
      refine kI 21 (encI_len .u8) hm ?_
      refine RJ.seg 4 [1, 2, 25] (L2 := [(1, .ptr 0 0), (2, .bool false), (25, .bool ((decide ((nth x0.I_ 0) = 0))))]) (H2 := [.box (encSt33 x0)]) (by kernel_rfl) ?_
      refine kE ?_
      obtain rfl := oi h83
      exact kN [1, 2, 25]
     ·refine kC 7 [1,2,25] ?_
      refine kE ?_
      obtain rfl := oi h82
      exact kN [1, 2, 25]
  ·refine kBJ 25 h67 (fun h85 => ?_) (fun h86 => ?_)
   ·refine kT ?_
    refine kSR ?_
    refine kC 1 [1,2] ?_
    refine kEN ?_
    refine kX ?_
    obtain rfl := oi h85
    have h87 := joinX_inr h45
    refine PJ.cutXr (fun e => nomatch e) ?_
    obtain rfl := oi h87
    exact kZ hFn hFH hFD
   ·refine kF ?_
    refine kK ?_
    obtain rfl := oi h86
    exact PJ.cutXl [1, 2] (by kernel_rfl) (by kernel_rfl)
 ·subst hs
  have h46 := joinX_inl h45
  obtain ⟨s97, hy99, h101⟩ := bindS h46
  refine K.cutN (by kernel_rfl) (fun (s97 : Bool) => ([(2, .bool s97)], [])) s97 ?_ ?_
  ·refine J.keep [1, 2] (L2 := [(1, .ptr 0 0), (2, .bool false)]) (by kernel_rfl) ?_
   refine K.draw (by kernel_rfl) (by kernel_rfl) (by kernel_rfl) (H2 := [.box (encSt33 x0), .res]) (by kernel_rfl) (n := 1) (by kernel_rfl) ?_
   refine kD 4 ?_
   obtain ⟨y102, hy103, h104⟩ := bindS hy99
   refine RJ.call0 (d := (some 30)) (f := 96) (args := [lsv (encI .u8) 1 x0.F_]) (v := .int .i64 y102) (tr2 := [([], []), ([0, 1], []), ([], []), ([0, 1], []), ([], [2, 3])]) (by kernel_rfl) (by kernel_rfl) (.cons (Le.refl _) .nil) (oper_shown_ok hy103) (by kernel_rfl) ?_
   refine kD 2 ?_
   refine kB 32 h104 (fun h106 => ?_) (fun h107 => ?_)
   ·refine kD 5 ?_
    refine kB 37 h106 (fun h109 => ?_) (fun h110 => ?_)
    ·refine RJ.segD 5 (tr2 := [([], []), ([0, 1], []), ([], []), ([0, 1], []), ([], [2, 3]), ([], []), ([], []), ([], []), ([0, 1], []), ([], []), ([], []), ([], []), ([], []), ([0, 1], []), ([], []), ([], []), ([], [])]) (L2 := [(2, .bool (decide (x0.C_ ≤ 1000))), (41, .bool (decide (x0.C_ ≤ 1000))), (40, .bool (decide (x0.C_ ≤ 1000))), (39, .int .i64 x0.C_), (38, .ptr 0 3), (37, .bool true), (37, .bool (decide (x0.C_ ≥ 0))), (36, .bool (decide (x0.C_ ≥ 0))), (35, .bool (decide (x0.C_ ≥ 0))), (34, .int .i64 x0.C_), (33, .ptr 0 3), (32, .bool true), (32, .bool (decide (x0.W_ = y102))), (31, .bool (decide (x0.W_ = y102))), (30, .int .i64 y102), (29, lsv (encI .u8) 1 x0.F_), (28, .ptr 0 1), (27, .int .i64 x0.W_), (26, .ptr 0 2), (1, .ptr 0 0), (2, .bool false)]) (H2 := [.box (encSt33 x0), .res]) (by kernel_rfl) ?_
     refine kE ?_
     obtain rfl := oi h109
     refine PJ.wk (Wk.sel (L2 := [(2, .bool (decide (x0.C_ ≤ 1000)))]) (H2 := []) 0 (by rw [hFH]; rfl) hFD [] (by kernel_rfl) (by kernel_rfl) (by decide) (by kernel_rfl) (by kernel_rfl) (by kernel_rfl) (by kernel_rfl)) ?_
     exact kN [2]
    ·refine RJ.segD 5 (tr2 := [([], []), ([0, 1], []), ([], []), ([0, 1], []), ([], [2, 3]), ([], []), ([], []), ([], []), ([0, 1], []), ([], []), ([], []), ([], []), ([], []), ([], []), ([], []), ([], []), ([], [])]) (L2 := [(2, .bool false), (41, .bool false), (40, .tup []), (39, .tup []), (38, .tup []), (37, .bool false), (37, .bool (decide (x0.C_ ≥ 0))), (36, .bool (decide (x0.C_ ≥ 0))), (35, .bool (decide (x0.C_ ≥ 0))), (34, .int .i64 x0.C_), (33, .ptr 0 3), (32, .bool true), (32, .bool (decide (x0.W_ = y102))), (31, .bool (decide (x0.W_ = y102))), (30, .int .i64 y102), (29, lsv (encI .u8) 1 x0.F_), (28, .ptr 0 1), (27, .int .i64 x0.W_), (26, .ptr 0 2), (1, .ptr 0 0), (2, .bool false)]) (H2 := [.box (encSt33 x0), .res]) (by kernel_rfl) ?_
     refine kE ?_
     obtain rfl := oi h110
     refine PJ.wk (Wk.sel (L2 := [(2, .bool false)]) (H2 := []) 0 (by rw [hFH]; rfl) hFD [] (by kernel_rfl) (by kernel_rfl) (by decide) (by kernel_rfl) (by kernel_rfl) (by kernel_rfl) (by kernel_rfl)) ?_
     exact kN [2]
   ·refine kD 10 ?_
    refine kE ?_
    obtain rfl := oi h107
    refine PJ.wk (Wk.sel (L2 := [(2, .bool false)]) (H2 := []) 0 (by rw [hFH]; rfl) hFD [] (by kernel_rfl) (by kernel_rfl) (by decide) (by kernel_rfl) (by kernel_rfl) (by kernel_rfl) (by kernel_rfl)) ?_
    exact kN [2]
  ·refine kX ?_
   obtain rfl := oi h101
   exact kZ hFn hFH hFD
structure St120 where
 Oper_ : St33
 deriving Inhabited, DecidableEq
def encSt120 (x : St120) : List SV := [lsv (encI .u8) 1 x.Oper_.I_, lsv (encI .u8) 1 x.Oper_.F_, .int .i64 x.Oper_.W_, .int .i64 x.Oper_.C_]
theorem encSt120_len (x : St120) : (encSt120 x).length = 4 := rfl
def oper_asked__operands_s0 (x0 : St120) : Option (Unit) :=
 (some ())
theorem oper_asked__operands_s0_ok {x0 : St120} {r : Unit} (h : oper_asked__operands_s0 x0 = some r) : SC Tryz.prog 84 [.agg (encSt120 x0)] [] (.mp 0) [.map [(.int .u8 110, .fn (.func 97) [.agg (encSt120 x0)] []), (.int .u8 105, .fn (.func 98) [.agg (encSt120 x0)] []), (.int .u8 118, .fn (.func 99) [.agg (encSt120 x0)] []), (.int .u8 119, .fn (.func 100) [.agg (encSt120 x0)] []), (.int .u8 102, .fn (.func 101) [.agg (encSt120 x0)] []), (.int .u8 116, .fn (.func 102) [.agg (encSt120 x0)] []), (.int .u8 99, .fn (.func 103) [.agg (encSt120 x0)] []), (.int .u8 101, .fn (.func 103) [.agg (encSt120 x0)] [])]] := by
 refine kFn (fn := Tryz.f84) (fun F hFn hFH hFD => ?_)
 unfold oper_asked__operands_s0 at h
 refine kSR ?_
 refine kC 2 [1] ?_
 refine kEN ?_
 refine kSR ?_
 refine kC 27 [2] ?_
 refine kEN ?_
 refine kX ?_
 obtain rfl := oi h
 exact K.retV (H0 := []) [1] (.inr rfl) hFn hFH hFD (by kernel_rfl) (v1 := .mp 1) (by kernel_rfl) (by kernel_rfl) (by kernel_rfl) (by decide) (by kernel_rfl) (by kernel_rfl) (by kernel_rfl) (by kernel_rfl) (by kernel_rfl)
def slices_Clone (x0 : List Int) : Option (List Int) :=
 (bif (Nat.beq x0.length 0) then agree (some ([] : List Int)) (bif room x0.length then (some x0) else none) else (bif room x0.length then (some x0) else none))
theorem slices_Clone_ok {x0 : List Int} {r : List Int} (h : slices_Clone x0 = some r) : SC Tryz.prog 111 [lsv (encI .u8) 1 x0] [] (lsv (encI .u8) 1 r) [] := by
 refine kFn (fn := Tryz.f111) (fun F hFn hFH hFD => ?_)
 unfold slices_Clone at h
 refine kSR ?_
 refine kC 1 [0,2] ?_
 refine kEN ?_
 refine kS ?_
 refine kSR ?_
 refine kC 1 [0,2,3] ?_
 refine RJ.isNil (d := 4) (n := x0.length) (eq := true) (by kernel_rfl) (fun b hb3 => ?_)
 cases b
 ·have h2 := agreeF h
  refine kEN ?_
  refine kF ?_
  refine kK ?_
  refine PJ.next ?_
  refine kSR ?_
  refine kC 2 [2,5,6] ?_
  obtain ⟨hm, h4⟩ := asrt h2
  refine RJ.rel (d := (some 7)) (ef := ⟨.vc 0, [], [(0, .vec x0.length 1 5 (x0.flatMap (encI .u8)))]⟩) (ef' := ⟨.vc 0, [], [(0, .vec x0.length 1 5 (x0.flatMap (encI .u8)))]⟩) (c := roomB x0.length) (tr2 := []) (H2 := [vecL (encI .u8) 1 5 x0]) (by kernel_rfl) (roomB_of_room hm) (fun hc => rfl) (by kernel_rfl) ?_
  refine RJ.seg 1 [2] (L2 := [(2, .vc 0)]) (H2 := [vecL (encI .u8) 1 5 x0]) (by kernel_rfl) ?_
  refine kEN ?_
  refine kX ?_
  obtain rfl := oi h4
  refine PJ.wk (Wk.freeze 0 (n := x0.length) (k := 1) (e := 5) (cs := x0.flatMap (encI .u8)) (by kernel_rfl)) ?_
  exact kZ hFn hFH hFD
 ·have h1 := agreeT (by rw [hb3 rfl]; rfl) h
  refine kEN ?_
  refine kT ?_
  refine kSR ?_
  refine kC 1 [0,2] ?_
  refine kEN ?_
  refine kX ?_
  refine PJ.passRet ?_
  obtain rfl := oi h1
  refine PJ.res (v1 := .nl) (Le.nl _) ?_
  exact kZ hFn hFH hFD
def oper_asked__number (x0 : St120) : Option ((List Int) × Bool) :=
 (bif (decide (x0.Oper_.W_ > 0)) then (some (([] : List Int), false)) else (Option.bind (slices_Clone x0.Oper_.I_) fun y4 => (some (y4, true))))
theorem oper_asked__number_ok {x0 : St120} {r : (List Int) × Bool} (h : oper_asked__number x0 = some r) : SC Tryz.prog 97 [.agg (encSt120 x0)] [] (.tup [lsv (encI .u8) 1 r.1, .bool r.2]) [] := by
 refine kFn (fn := Tryz.f97) (fun F hFn hFH hFD => ?_)
 unfold oper_asked__number at h
 refine kSR ?_
 refine kC 3 [1,2,3] ?_
 refine kEN ?_
 refine kS ?_
 refine kSR ?_
 refine kC 4 [1,2,3,7] ?_
 refine kEN ?_
 refine kBJ 7 h (fun h2 => ?_) (fun h3 => ?_)
 ·refine kT ?_
  refine kSR ?_
  refine kC 2 [1,2,3] ?_
  refine kEN ?_
  refine kX ?_
  refine PJ.passRet ?_
  obtain rfl := oi h2
  refine PJ.res (v1 := .tup [.nl, .bool false]) (Le.tup (.cons (Le.nl _) (.cons (Le.refl _) .nil))) ?_
  exact kZ hFn hFH hFD
 ·refine kF ?_
  refine kK ?_
  refine PJ.next ?_
  refine kSR ?_
  refine kC 3 [2,3,10] ?_
  obtain ⟨y4, hy5, h6⟩ := bindS h3
  refine kA 11 (slices_Clone_ok hy5) ?_
  refine RJ.seg 2 [2, 3] (L2 := [(2, lsv (encI .u8) 1 y4), (3, .bool true)]) (H2 := [.box (encSt120 x0)]) (by kernel_rfl) ?_
  refine kEN ?_
  refine kX ?_
  obtain rfl := oi h6
  exact kZ hFn hFH hFD
def oper_asked__whole (x0 : St120) : Option ((List Int) × Bool) :=
 (Option.bind (slices_Clone x0.Oper_.I_) fun y1 => (some (y1, true)))
theorem oper_asked__whole_ok {x0 : St120} {r : (List Int) × Bool} (h : oper_asked__whole x0 = some r) : SC Tryz.prog 98 [.agg (encSt120 x0)] [] (.tup [lsv (encI .u8) 1 r.1, .bool r.2]) [] := by
 refine kFn (fn := Tryz.f98) (fun F hFn hFH hFD => ?_)
 unfold oper_asked__whole at h
 refine kSR ?_
 refine kC 3 [1,2,3] ?_
 refine kEN ?_
 refine kSR ?_
 refine kC 3 [2,3,6] ?_
 obtain ⟨y1, hy2, h3⟩ := bindS h
 refine kA 7 (slices_Clone_ok hy2) ?_
 refine kC 2 [2,3] ?_
 refine kEN ?_
 refine kX ?_
 obtain rfl := oi h3
 exact kZ hFn hFH hFD
def slices_Reverse_s0 (x0 : List Int) : Option ((List Int)) :=
 (loopN (fun (s1 : Int × Int × (List Int)) => (bif (decide (s1.1 < s1.2.1)) then (bif inR s1.2.1 s1.2.2.length then (bif inR s1.2.1 s1.2.2.length then (bif inR s1.1 s1.2.2.length then (bif inR s1.1 s1.2.2.length then (bif inR s1.1 s1.2.2.length then (bif inR s1.1 s1.2.2.length then (bif inR s1.2.1 (setAt s1.2.2 s1.1 (nth s1.2.2 s1.2.1)).length then (bif inR s1.2.1 (setAt s1.2.2 s1.1 (nth s1.2.2 s1.2.1)).length then (some (.inl ((IntKind.wrap .i64 (s1.1 + 1)), (IntKind.wrap .i64 (s1.2.1 - 1)), (setAt (setAt s1.2.2 s1.1 (nth s1.2.2 s1.2.1)) s1.2.1 (nth s1.2.2 s1.1))))) else none) else none) else none) else none) else none) else none) else none) else none) else (some (.inr s1.2.2)))) big (0, (IntKind.wrap .i64 ((x0.length : Int) - 1)), x0))
theorem slices_Reverse_s0_ok {x0 : List Int} {r : (List Int)} (h : slices_Reverse_s0 x0 = some r) : SC Tryz.prog 122 [.vc 0] [vecL (encI .u8) 1 5 x0] (.tup []) [vecL (encI .u8) 1 5 r] := by
 refine kFn (fn := Tryz.f122) (fun F hFn hFH hFD => ?_)
 unfold slices_Reverse_s0 at h
 refine kSR ?_
 refine kC 5 [0,2,3] ?_
 refine kEN ?_
 refine K.block 0 (by kernel_rfl) ?_
 refine K.loop (by kernel_rfl) (fun (s1 : Int × Int × (List Int)) => ([(0, .vc 0), (2, .int .i64 s1.1), (3, .int .i64 s1.2.1)], [vecL (encI .u8) 1 5 s1.2.2])) h [0, 2, 3] (by kernel_rfl) (by kernel_rfl) (fun s1 x29 hs28 => ?_)
 refine kS ?_
 refine kSR ?_
 refine kC 3 [0,2,3,9] ?_
 refine kEN ?_
 refine kBJ 9 hs28 (fun h31 => ?_) (fun h32 => ?_)
 ·refine kT ?_
  refine kK ?_
  refine PJ.next ?_
  refine kS ?_
  refine K.block 1 (by kernel_rfl) ?_
  refine J.keep [0, 2, 3] (L2 := [(0, .vc 0), (2, .int .i64 s1.1), (3, .int .i64 s1.2.1)]) (by kernel_rfl) ?_
  refine K.draw (by kernel_rfl) (by kernel_rfl) (by kernel_rfl) (H2 := [vecL (encI .u8) 1 5 s1.2.2]) (by kernel_rfl) (n := 1) (by kernel_rfl) ?_
  refine kD 6 ?_
  obtain ⟨hm, h33⟩ := asrt h31
  refine RJ.rel (d := (some 20)) (ef := ⟨.ptr 0 ((s1.2.1 : Int).toNat * 1), [0], []⟩) (ef' := ⟨.ptr 0 ((s1.2.1 : Int).toNat * 1), [0], []⟩) (c := inR s1.2.1 s1.2.2.length) (tr2 := [([], []), ([], []), ([], []), ([], []), ([], []), ([], []), ([1], [])]) (H2 := [vecL (encI .u8) 1 5 s1.2.2]) (by kernel_rfl) hm (fun hc => rfl) (by kernel_rfl) ?_
  obtain ⟨hm, h34⟩ := asrt h33
  refine RJ.rel (d := (some 21)) (ef := ⟨(((s1.2.2).flatMap (encI .u8)).drop ((s1.2.1 : Int).toNat * 1)).headD .undef, [0], []⟩) (ef' := ⟨.int .u8 (nth s1.2.2 s1.2.1), [0], []⟩) (c := Nat.blt ((s1.2.1 : Int).toNat * 1) (s1.2.2.flatMap (encI .u8)).length) (tr2 := [([], []), ([], []), ([], []), ([], []), ([], []), ([], []), ([1], []), ([0, 1], [])]) (H2 := [vecL (encI .u8) 1 5 s1.2.2]) (by kernel_rfl) (loadv_ok (encI_len .u8) rfl hm) (fun hc => N.load1 (encI_len .u8) (fun _ => rfl) hm) (by kernel_rfl) ?_
  refine kD 2 ?_
  obtain ⟨hm, h35⟩ := asrt h34
  refine RJ.rel (d := (some 24)) (ef := ⟨.ptr 0 ((s1.1 : Int).toNat * 1), [0], []⟩) (ef' := ⟨.ptr 0 ((s1.1 : Int).toNat * 1), [0], []⟩) (c := inR s1.1 s1.2.2.length) (tr2 := [([], []), ([], []), ([], []), ([], []), ([], []), ([], []), ([1], []), ([0, 1], []), ([], []), ([], []), ([1], [])]) (H2 := [vecL (encI .u8) 1 5 s1.2.2]) (by kernel_rfl) hm (fun hc => rfl) (by kernel_rfl) ?_
  obtain ⟨hm, h36⟩ := asrt h35
  refine RJ.rel (d := (some 25)) (ef := ⟨(((s1.2.2).flatMap (encI .u8)).drop ((s1.1 : Int).toNat * 1)).headD .undef, [0], []⟩) (ef' := ⟨.int .u8 (nth s1.2.2 s1.1), [0], []⟩) (c := Nat.blt ((s1.1 : Int).toNat * 1) (s1.2.2.flatMap (encI .u8)).length) (tr2 := [([], []), ([], []), ([], []), ([], []), ([], []), ([], []), ([1], []), ([0, 1], []), ([], []), ([], []), ([1], []), ([0, 1], [])]) (H2 := [vecL (encI .u8) 1 5 s1.2.2]) (by kernel_rfl) (loadv_ok (encI_len .u8) rfl hm) (fun hc => N.load1 (encI_len .u8) (fun _ => rfl) hm) (by kernel_rfl) ?_
  obtain ⟨hm, h37⟩ := asrt h36
  refine RJ.rel (d := (some 26)) (ef := ⟨.ptr 0 ((s1.1 : Int).toNat * 1), [0], []⟩) (ef' := ⟨.ptr 0 ((s1.1 : Int).toNat * 1), [0], []⟩) (c := inR s1.1 s1.2.2.length) (tr2 := [([], []), ([], []), ([], []), ([], []), ([], []), ([], []), ([1], []), ([0, 1], []), ([], []), ([], []), ([1], []), ([0, 1], []), ([1], [])]) (H2 := [vecL (encI .u8) 1 5 s1.2.2]) (by kernel_rfl) hm (fun hc => rfl) (by kernel_rfl) ?_
  obtain ⟨hm, h38⟩ := asrt h37
  refine RJ.rel (d := none) (ef := ⟨.undef, [0], [(0, .vec (s1.2.2).length 1 5 (splice ((s1.2.2).flatMap (encI .u8)) ((s1.1 : Int).toNat * 1) ((encI .u8) (nth s1.2.2 s1.2.1))))]⟩) (ef' := ⟨.undef, [0], [(0, vecL (encI .u8) 1 5 (setAt s1.2.2 s1.1 (nth s1.2.2 s1.2.1)))]⟩) (c := Nat.ble (((s1.1 : Int).toNat * 1) + ((encI .u8) (nth s1.2.2 s1.2.1)).length) (s1.2.2.flatMap (encI .u8)).length) (tr2 := [([], []), ([], []), ([], []), ([], []), ([], []), ([], []), ([1], []), ([0, 1], []), ([], []), ([], []), ([1], []), ([0, 1], []), ([1], []), ([0, 1], [0])]) (H2 := [vecL (encI .u8) 1 5 (setAt s1.2.2 s1.1 (nth s1.2.2 s1.2.1))]) (by kernel_rfl) (storev_ok (encI_len .u8) hm) (fun hc => N.store (encI_len .u8) hm) (by kernel_rfl) ?_
  obtain ⟨hm, h39⟩ := asrt h38
  refine RJ.rel (d := (some 27)) (ef := ⟨.ptr 0 ((s1.2.1 : Int).toNat * 1), [0], []⟩) (ef' := ⟨.ptr 0 ((s1.2.1 : Int).toNat * 1), [0], []⟩) (c := inR s1.2.1 (setAt s1.2.2 s1.1 (nth s1.2.2 s1.2.1)).length) (tr2 := [([], []), ([], []), ([], []), ([], []), ([], []), ([], []), ([1], []), ([0, 1], []), ([], []), ([], []), ([1], []), ([0, 1], []), ([1], []), ([0, 1], [0]), ([1], [])]) (H2 := [vecL (encI .u8) 1 5 (setAt s1.2.2 s1.1 (nth s1.2.2 s1.2.1))]) (by kernel_rfl) hm (fun hc => rfl) (by kernel_rfl) ?_
  obtain ⟨hm, h40⟩ := asrt h39
  refine RJ.rel (d := none) (ef := ⟨.undef, [0], [(0, .vec ((setAt s1.2.2 s1.1 (nth s1.2.2 s1.2.1))).length 1 5 (splice (((setAt s1.2.2 s1.1 (nth s1.2.2 s1.2.1))).flatMap (encI .u8)) ((s1.2.1 : Int).toNat * 1) ((encI .u8) (nth s1.2.2 s1.1))))]⟩) (ef' := ⟨.undef, [0], [(0, vecL (encI .u8) 1 5 (setAt (setAt s1.2.2 s1.1 (nth s1.2.2 s1.2.1)) s1.2.1 (nth s1.2.2 s1.1)))]⟩) (c := Nat.ble (((s1.2.1 : Int).toNat * 1) + ((encI .u8) (nth s1.2.2 s1.1)).length) ((setAt s1.2.2 s1.1 (nth s1.2.2 s1.2.1)).flatMap (encI .u8)).length) (tr2 := [([], []), ([], []), ([], []), ([], []), ([], []), ([], []), ([1], []), ([0, 1], []), ([], []), ([], []), ([1], []), ([0, 1], []), ([1], []), ([0, 1], [0]), ([1], []), ([0, 1], [0])]) (H2 := [vecL (encI .u8) 1 5 ((setAt (setAt s1.2.2 s1.1 (nth s1.2.2 s1.2.1)) s1.2.1 (nth s1.2.2 s1.1)))]) (by kernel_rfl) (storev_ok (encI_len .u8) hm) (fun hc => N.store (encI_len .u8) hm) (by kernel_rfl) ?_
  refine kE ?_
  refine PJ.blockNormal ?_
  refine PJ.next ?_
  refine kR ?_
  refine RJ.seg 6 [0, 2, 3] (L2 := [(0, .vc 0), (2, .int .i64 (IntKind.wrap .i64 (s1.1 + 1))), (3, .int .i64 (IntKind.wrap .i64 (s1.2.1 - 1)))]) (H2 := [vecL (encI .u8) 1 5 ((setAt (setAt s1.2.2 s1.1 (nth s1.2.2 s1.2.1)) s1.2.1 (nth s1.2.2 s1.1)))]) (by kernel_rfl) ?_
  refine kE ?_
  obtain rfl := oi h40
  exact PJ.loopNext [0, 2, 3] (by kernel_rfl) (by kernel_rfl)
 ·refine kF ?_
  refine K.exit 0 (by kernel_rfl) ?_
  refine PJ.passExit ?_
  obtain rfl := oi h32
  refine PJ.loopOut (fun e => nomatch e) (fun he42 => ?_)
  have h41 := congrArg some he42
  refine PJ.blockOut ?_
  obtain rfl := oi h41
  exact K.retV (H0 := [vecL (encI .u8) 1 5 x0]) [0] (.inl rfl) hFn hFH hFD (by kernel_rfl) (v1 := .tup []) (by kernel_rfl) (by kernel_rfl) (by kernel_rfl) (by decide) (by kernel_rfl) (by kernel_rfl) (by kernel_rfl) (by kernel_rfl) (by kernel_rfl)
def oper_spell (x0 : Int) : Option (List Int) :=
 (Option.bind (loopN (fun (s27 : Int × (List Int)) => (bif (decide (s27.1 > 0)) then (bif room (s27.2.length + (([(IntKind.wrap .u8 (Int.tmod s27.1 10))] : List Int)).length) then (some (.inl ((IntKind.wrap .i64 (Int.tdiv s27.1 10)), (s27.2 ++ (([(IntKind.wrap .u8 (Int.tmod s27.1 10))] : List Int)))))) else none) else (some (.inr s27.2)))) big (x0, ([] : List Int))) fun (s22 : (List Int)) => (Option.bind (slices_Reverse_s0 s22) fun y48 => (some y48)))
theorem oper_spell_ok {x0 : Int} {r : List Int} (h : oper_spell x0 = some r) : SC Tryz.prog 112 [.int .i64 x0] [] (lsv (encI .u8) 1 r) [] := by
 refine kFn (fn := Tryz.f112) (fun F hFn hFH hFD => ?_)
 unfold oper_spell at h
 refine kSR ?_
 refine kC 1 [0,2] ?_
 refine kEN ?_
 refine kSR ?_
 refine kC 1 [0,2,3] ?_
 refine kEN ?_
 obtain ⟨s22, hy24, h26⟩ := bindS h
 refine K.cutN (by kernel_rfl) (fun (s22 : (List Int)) => ([(2, .nl), (3, .vc 0)], [vecL (encI .u8) 1 5 s22])) s22 ?_ ?_
 ·refine K.block 0 (by kernel_rfl) ?_
  refine J.wk (Wk.viv 3 1 5 (by kernel_rfl)) ?_
  refine K.loop (by kernel_rfl) (fun (s27 : Int × (List Int)) => ([(0, .int .i64 s27.1), (2, .nl), (3, .vc 0)], [vecL (encI .u8) 1 5 s27.2])) hy24 [0, 2, 3] (by kernel_rfl) (by kernel_rfl) (fun s27 x41 hs40 => ?_)
  refine kS ?_
  refine kSR ?_
  refine kC 2 [0,2,3,5] ?_
  refine kEN ?_
  refine kBJ 5 hs40 (fun h43 => ?_) (fun h44 => ?_)
  ·refine kT ?_
   refine kK ?_
   refine PJ.next ?_
   refine kS ?_
   refine K.block 1 (by kernel_rfl) ?_
   refine kR ?_
   refine kC 5 [0,2,3,8,12] ?_
   obtain ⟨hm, h45⟩ := asrt h43
   refine RJ.rel (d := (some 13)) (ef := ⟨.vc 2, [0, 1], [(0, .gone), (2, .vec (s27.2.length + (([(IntKind.wrap .u8 (Int.tmod s27.1 10))] : List Int)).length) 1 5 (s27.2.flatMap (encI .u8) ++ (([(IntKind.wrap .u8 (Int.tmod s27.1 10))] : List Int)).flatMap (encI .u8)))]⟩) (ef' := ⟨.vc 2, [0, 1], [(0, .gone), (2, vecL (encI .u8) 1 5 (s27.2 ++ (([(IntKind.wrap .u8 (Int.tmod s27.1 10))] : List Int))))]⟩) (c := roomB (s27.2.length + (([(IntKind.wrap .u8 (Int.tmod s27.1 10))] : List Int)).length)) (tr2 := []) (H2 := [.gone, vecL (encI .u8) 1 5 (([(IntKind.wrap .u8 (Int.tmod s27.1 10))] : List Int)), vecL (encI .u8) 1 5 ((s27.2 ++ (([(IntKind.wrap .u8 (Int.tmod s27.1 10))] : List Int))))]) (by kernel_rfl) (roomB_of_room hm) (fun hc => N.app) (by kernel_rfl) ?_
   refine kC 1 [0,2,3] ?_
   refine kE ?_
   refine PJ.blockNormal ?_
   refine PJ.next ?_
   refine kR ?_
   refine RJ.seg 3 [0, 2, 3] (L2 := [(0, .int .i64 (IntKind.wrap .i64 (Int.tdiv s27.1 10))), (2, .nl), (3, .vc 2)]) (H2 := [.gone, vecL (encI .u8) 1 5 (([(IntKind.wrap .u8 (Int.tmod s27.1 10))] : List Int)), vecL (encI .u8) 1 5 ((s27.2 ++ (([(IntKind.wrap .u8 (Int.tmod s27.1 10))] : List Int))))]) (by kernel_rfl) ?_
   refine kE ?_
   obtain rfl := oi h45
   refine PJ.wk (Wk.sel (L2 := [(0, .int .i64 (IntKind.wrap .i64 (Int.tdiv s27.1 10))), (2, .nl), (3, .vc 0)]) (H2 := [vecL (encI .u8) 1 5 ((s27.2 ++ (([(IntKind.wrap .u8 (Int.tmod s27.1 10))] : List Int))))]) 0 (by rw [hFH]; rfl) hFD [2] (by kernel_rfl) (by kernel_rfl) (by decide) (by kernel_rfl) (by kernel_rfl) (by kernel_rfl) (by kernel_rfl)) ?_
   exact PJ.loopNext [0, 2, 3] (by kernel_rfl) (by kernel_rfl)
  ·refine kF ?_
   refine K.exit 0 (by kernel_rfl) ?_
   refine PJ.passExit ?_
   obtain rfl := oi h44
   refine PJ.loopOut (fun e => nomatch e) (fun he47 => ?_)
   have h46 := congrArg some he47
   refine PJ.blockOut ?_
   obtain rfl := oi h46
   exact kN [2, 3]
 ·refine kSR ?_
  refine kC 1 [2,3,14] ?_
  obtain ⟨y48, hy49, h50⟩ := bindS h26
  refine RJ.callG (d := (some 15)) (f := 122) (args := [.vc 0]) (args0 := [.vc 0]) (v0 := .tup []) (v := .tup []) (tr2 := []) (H0 := [vecL (encI .u8) 1 5 s22]) (H0' := [vecL (encI .u8) 1 5 y48]) (H2 := [vecL (encI .u8) 1 5 y48]) [0] (by kernel_rfl) (by kernel_rfl) (by kernel_rfl) (by kernel_rfl) (by decide) (by kernel_rfl) (by kernel_rfl) (by kernel_rfl) (.cons (Le.refl _) .nil) (slices_Reverse_s0_ok hy49) (by kernel_rfl) (by kernel_rfl) (by kernel_rfl) ?_
  refine kEN ?_
  refine kSR ?_
  refine kC 2 [2] ?_
  refine kEN ?_
  refine kX ?_
  obtain rfl := oi h50
  refine PJ.wk (Wk.freeze 0 (n := y48.length) (k := 1) (e := 5) (cs := y48.flatMap (encI .u8)) (by kernel_rfl)) ?_
  exact kZ hFn hFH hFD
def oper_asked__long (x0 : St120) : Option ((List Int) × Bool) :=
 (Option.bind (oper_spell (x0.Oper_.F_.length : Int)) fun y1 => (some (y1, true)))
theorem oper_asked__long_ok {x0 : St120} {r : (List Int) × Bool} (h : oper_asked__long x0 = some r) : SC Tryz.prog 99 [.agg (encSt120 x0)] [] (.tup [lsv (encI .u8) 1 r.1, .bool r.2]) [] := by
 refine kFn (fn := Tryz.f99) (fun F hFn hFH hFD => ?_)
 unfold oper_asked__long at h
 refine kSR ?_
 refine kC 3 [1,2,3] ?_
 refine kEN ?_
 refine kSR ?_
 refine kC 4 [2,3,7] ?_
 obtain ⟨y1, hy2, h3⟩ := bindS h
 refine kA 8 (oper_spell_ok hy2) ?_
 refine kC 2 [2,3] ?_
 refine kEN ?_
 refine kX ?_
 obtain rfl := oi h3
 exact kZ hFn hFH hFD
def oper_asked__short (x0 : St120) : Option ((List Int) × Bool) :=
 (Option.bind (oper_spell x0.Oper_.W_) fun y1 => (some (y1, true)))
theorem oper_asked__short_ok {x0 : St120} {r : (List Int) × Bool} (h : oper_asked__short x0 = some r) : SC Tryz.prog 100 [.agg (encSt120 x0)] [] (.tup [lsv (encI .u8) 1 r.1, .bool r.2]) [] := by
 refine kFn (fn := Tryz.f100) (fun F hFn hFH hFD => ?_)
 unfold oper_asked__short at h
 refine kSR ?_
 refine kC 3 [1,2,3] ?_
 refine kEN ?_
 refine kSR ?_
 refine kC 3 [2,3,6] ?_
 obtain ⟨y1, hy2, h3⟩ := bindS h
 refine kA 7 (oper_spell_ok hy2) ?_
 refine kC 2 [2,3] ?_
 refine kEN ?_
 refine kX ?_
 obtain rfl := oi h3
 exact kZ hFn hFH hFD
def oper_strip (x0 : List Int) : Option (List Int) :=
 (Option.bind (loopN (fun (s141 : (List Int)) => (Option.bind (Option.bind (bif (decide ((s141.length : Int) > 0)) then (bif inR 0 s141.length then (some ((decide ((nth s141 0) = 0)))) else none) else (some false)) fun (s260 : Bool) => (bif s260 then (some (.inl ())) else (some (.inr (.inr s141))))) (joinX fun (s251 : Unit) => (bif inS 1 (s141.length : Int) s141.length then (some (.inl (cut s141 1 (s141.length : Int)))) else none)))) big x0) fun (s136 : (List Int)) => (Option.bind (slices_Clone s136) fun y276 => (some y276)))
theorem oper_strip_ok {x0 : List Int} {r : List Int} (h : oper_strip x0 = some r) : SC Tryz.prog 104 [lsv (encI .u8) 1 x0] [] (lsv (encI .u8) 1 r) [] := by
 refine kFn (fn := Tryz.f104) (fun F hFn hFH hFD => ?_)
 unfold oper_strip at h
 refine kSR ?_
 refine kC 1 [0,2] ?_
 refine kEN ?_
 obtain ⟨s136, hy138, h140⟩ := bindS h
 refine K.cutN (by kernel_rfl) (fun (s136 : (List Int)) => ([(0, lsv (encI .u8) 1 s136), (2, .nl)], [])) s136 ?_ ?_
 ·refine K.block 0 (by kernel_rfl) ?_
  refine K.loop (by kernel_rfl) (fun (s141 : (List Int)) => ([(0, lsv (encI .u8) 1 s141), (2, .nl)], [])) hy138 [0, 2] (by kernel_rfl) (by kernel_rfl) (fun s141 x231 hs230 => ?_)
  obtain ⟨y252, hy253, h254⟩ := bindS hs230
  refine K.cutX (by kernel_rfl) (fun (s251 : Unit) => ([(0, lsv (encI .u8) 1 s141), (2, .nl)], [])) y252 ?_ (fun s251 hs => ?_)
  ·obtain ⟨s260, hy262, h264⟩ := bindS hy253
   refine K.cutN (by kernel_rfl) (fun (s260 : Bool) => ([(0, lsv (encI .u8) 1 s141), (2, .nl), (11, .bool s260)], [])) s260 ?_ ?_
   ·refine kR ?_
    refine kC 4 [0,2,6] ?_
    refine kB 6 hy262 (fun h266 => ?_) (fun h267 => ?_)
    ·refine kC 1 [0,2,6,7] ?_
     obtain ⟨hm, h268⟩ := asrt h266
     refine kI 8 (encI_len .u8) hm ?_
     refine kC 3 [0,2,11] ?_
     refine kE ?_
     obtain rfl := oi h268
     exact kN [0, 2, 11]
    ·refine kC 5 [0,2,11] ?_
     refine kE ?_
     obtain rfl := oi h267
     exact kN [0, 2, 11]
   ·refine kBJ 11 h264 (fun h270 => ?_) (fun h271 => ?_)
    ·refine kT ?_
     refine kK ?_
     obtain rfl := oi h270
     exact PJ.cutXl [0, 2] (by kernel_rfl) (by kernel_rfl)
    ·refine kF ?_
     refine K.exit 0 (by kernel_rfl) ?_
     obtain rfl := oi h271
     have h272 := joinX_inr h254
     refine PJ.cutXr (fun e => nomatch e) ?_
     obtain rfl := oi h272
     refine PJ.loopOut (fun e => nomatch e) (fun he274 => ?_)
     have h273 := congrArg some he274
     refine PJ.blockOut ?_
     obtain rfl := oi h273
     exact kN [0, 2]
  ·subst hs
   have h255 := joinX_inl h254
   refine K.block 1 (by kernel_rfl) ?_
   refine kR ?_
   refine kC 1 [0,2,12] ?_
   obtain ⟨hm, h275⟩ := asrt h255
   refine RJ.rel (d := (some 13)) (ef := ⟨.lst (((s141.length : Int) : Int).toNat - (1 : Int).toNat) 1 (((s141.flatMap (encI .u8)).take (((s141.length : Int) : Int).toNat * 1)).drop ((1 : Int).toNat * 1)), [], []⟩) (ef' := ⟨.lst (cut s141 1 (s141.length : Int)).length 1 ((cut s141 1 (s141.length : Int)).flatMap (encI .u8)), [], []⟩) (c := inS 1 (s141.length : Int) s141.length) (tr2 := []) (H2 := []) (by kernel_rfl) hm (fun hc => N.slice (encI_len .u8) hc) (by kernel_rfl) ?_
   refine kC 1 [0,2] ?_
   refine kE ?_
   refine PJ.blockNormal ?_
   obtain rfl := oi h275
   exact PJ.loopNext [0, 2] (by kernel_rfl) (by kernel_rfl)
 ·refine kSR ?_
  refine kC 1 [2,14] ?_
  obtain ⟨y276, hy277, h278⟩ := bindS h140
  refine kA 15 (slices_Clone_ok hy277) ?_
  refine kC 1 [2] ?_
  refine kEN ?_
  refine kX ?_
  obtain rfl := oi h278
  exact kZ hFn hFH hFD
def oper_asked__part (x0 : St120) : Option ((List Int) × Bool) :=
 (Option.bind (oper_strip x0.Oper_.F_) fun y1 => (some (y1, true)))
theorem oper_asked__part_ok {x0 : St120} {r : (List Int) × Bool} (h : oper_asked__part x0 = some r) : SC Tryz.prog 101 [.agg (encSt120 x0)] [] (.tup [lsv (encI .u8) 1 r.1, .bool r.2]) [] := by
 refine kFn (fn := Tryz.f101) (fun F hFn hFH hFD => ?_)
 unfold oper_asked__part at h
 refine kSR ?_
 refine kC 3 [1,2,3] ?_
 refine kEN ?_
 refine kSR ?_
 refine kC 3 [2,3,6] ?_
 obtain ⟨y1, hy2, h3⟩ := bindS h
 refine kA 7 (oper_strip_ok hy2) ?_
 refine kC 2 [2,3] ?_
 refine kEN ?_
 refine kX ?_
 obtain rfl := oi h3
 exact kZ hFn hFH hFD
def oper_asked__cut (x0 : St120) : Option ((List Int) × Bool) :=
 (bif inS 0 x0.Oper_.W_ x0.Oper_.F_.length then (Option.bind (oper_strip (cut x0.Oper_.F_ 0 x0.Oper_.W_)) fun y2 => (some (y2, true))) else none)
theorem oper_asked__cut_ok {x0 : St120} {r : (List Int) × Bool} (h : oper_asked__cut x0 = some r) : SC Tryz.prog 102 [.agg (encSt120 x0)] [] (.tup [lsv (encI .u8) 1 r.1, .bool r.2]) [] := by
 refine kFn (fn := Tryz.f102) (fun F hFn hFH hFD => ?_)
 unfold oper_asked__cut at h
 refine kSR ?_
 refine kC 3 [1,2,3] ?_
 refine kEN ?_
 refine kSR ?_
 refine kC 6 [2,3,6,9] ?_
 obtain ⟨hm, h1⟩ := asrt h
 refine RJ.rel (d := (some 10)) (ef := ⟨.lst ((x0.Oper_.W_ : Int).toNat - (0 : Int).toNat) 1 (((x0.Oper_.F_.flatMap (encI .u8)).take ((x0.Oper_.W_ : Int).toNat * 1)).drop ((0 : Int).toNat * 1)), [], []⟩) (ef' := ⟨.lst (cut x0.Oper_.F_ 0 x0.Oper_.W_).length 1 ((cut x0.Oper_.F_ 0 x0.Oper_.W_).flatMap (encI .u8)), [], []⟩) (c := inS 0 x0.Oper_.W_ x0.Oper_.F_.length) (tr2 := []) (H2 := [.box (encSt120 x0)]) (by kernel_rfl) hm (fun hc => N.slice (encI_len .u8) hc) (by kernel_rfl) ?_
 obtain ⟨y2, hy3, h4⟩ := bindS h1
 refine kA 11 (oper_strip_ok hy3) ?_
 refine kC 2 [2,3] ?_
 refine kEN ?_
 refine kX ?_
 obtain rfl := oi h4
 exact kZ hFn hFH hFD
def oper_asked__power (x0 : St120) : Option ((List Int) × Bool) :=
 (Option.bind (oper_spell x0.Oper_.C_) fun y1 => (some (y1, true)))
theorem oper_asked__power_ok {x0 : St120} {r : (List Int) × Bool} (h : oper_asked__power x0 = some r) : SC Tryz.prog 103 [.agg (encSt120 x0)] [] (.tup [lsv (encI .u8) 1 r.1, .bool r.2]) [] := by
 refine kFn (fn := Tryz.f103) (fun F hFn hFH hFD => ?_)
 unfold oper_asked__power at h
 refine kSR ?_
 refine kC 3 [1,2,3] ?_
 refine kEN ?_
 refine kSR ?_
 refine kC 3 [2,3,6] ?_
 obtain ⟨y1, hy2, h3⟩ := bindS h
 refine kA 7 (oper_spell_ok hy2) ?_
 refine kC 2 [2,3] ?_
 refine kEN ?_
 refine kX ?_
 obtain rfl := oi h3
 exact kZ hFn hFH hFD
def oper_Operand (x0 : St33) (x1 : Int) : Option ((List Int) × Bool) :=
 (Option.bind (oper_Right x0) fun y1 => (bif (!y1) then (some (([] : List Int), false)) else (Option.bind (oper_asked__operands_s0 (⟨x0⟩ : St120)) fun y7 => (bif (decide (x1 = 110)) then (Option.bind (oper_asked__number (⟨x0⟩ : St120)) fun y14 => (some (y14.1, y14.2))) else (bif (decide (x1 = 105)) then (Option.bind (oper_asked__whole (⟨x0⟩ : St120)) fun y21 => (some (y21.1, y21.2))) else (bif (decide (x1 = 118)) then (Option.bind (oper_asked__long (⟨x0⟩ : St120)) fun y28 => (some (y28.1, y28.2))) else (bif (decide (x1 = 119)) then (Option.bind (oper_asked__short (⟨x0⟩ : St120)) fun y35 => (some (y35.1, y35.2))) else (bif (decide (x1 = 102)) then (Option.bind (oper_asked__part (⟨x0⟩ : St120)) fun y42 => (some (y42.1, y42.2))) else (bif (decide (x1 = 116)) then (Option.bind (oper_asked__cut (⟨x0⟩ : St120)) fun y49 => (some (y49.1, y49.2))) else (bif (decide (x1 = 99)) then (Option.bind (oper_asked__power (⟨x0⟩ : St120)) fun y56 => (some (y56.1, y56.2))) else (bif (decide (x1 = 101)) then (Option.bind (oper_asked__power (⟨x0⟩ : St120)) fun y63 => (some (y63.1, y63.2))) else (some (([] : List Int), false)))))))))))))
theorem oper_Operand_ok {x0 : St33} {x1 : Int} {r : (List Int) × Bool} (h : oper_Operand x0 x1 = some r) : SC Tryz.prog 74 [.agg (encSt33 x0), .int .u8 x1] [] (.tup [lsv (encI .u8) 1 r.1, .bool r.2]) [] := by
 refine kFn (fn := Tryz.f74) (fun F hFn hFH hFD => ?_)
 unfold oper_Operand at h
 refine kSR ?_
 refine kC 3 [1,2,4,5] ?_
 refine kEN ?_
 refine kS ?_
 refine kSR ?_
 refine kC 1 [1,2,4,5,8] ?_
 obtain ⟨y1, hy2, h3⟩ := bindS h
 refine kA 9 (oper_Right_ok hy2) ?_
 refine kC 1 [1,2,4,5,10] ?_
 refine kEN ?_
 refine kBJ 10 h3 (fun h5 => ?_) (fun h6 => ?_)
 ·refine kT ?_
  refine kSR ?_
  refine RJ.seg 2 [1, 2, 4, 5] (L2 := [(1, .int .u8 x1), (2, .ptr 0 0), (4, .nl), (5, .bool false)]) (H2 := [.box (encSt33 x0)]) (by kernel_rfl) ?_
  refine kEN ?_
  refine kX ?_
  refine PJ.passRet ?_
  obtain rfl := oi h5
  refine PJ.res (v1 := .tup [.nl, .bool false]) (Le.tup (.cons (Le.nl _) (.cons (Le.refl _) .nil))) ?_
  exact kZ hFn hFH hFD
 ·refine kF ?_
  refine kK ?_
  refine PJ.next ?_
  refine kSR ?_
  refine RJ.seg 2 [1, 4, 5, 13] (L2 := [(1, .int .u8 x1), (4, .nl), (5, .bool false), (13, .agg (encSt33 x0))]) (H2 := [.box (encSt33 x0)]) (by kernel_rfl) ?_
  obtain ⟨y7, hy8, h9⟩ := bindS h6
  refine RJ.callG (d := (some 14)) (f := 84) (args := [.agg (encSt33 x0)]) (args0 := [.agg (encSt33 x0)]) (v0 := .mp 0) (v := .mp 1) (tr2 := []) (H0 := []) (H0' := [.map [(.int .u8 110, .fn (.func 97) [.agg [lsv (encI .u8) 1 ((⟨x0⟩ : St120).Oper_.I_), lsv (encI .u8) 1 ((⟨x0⟩ : St120).Oper_.F_), .int .i64 ((⟨x0⟩ : St120).Oper_.W_), .int .i64 ((⟨x0⟩ : St120).Oper_.C_)]] []), (.int .u8 105, .fn (.func 98) [.agg [lsv (encI .u8) 1 ((⟨x0⟩ : St120).Oper_.I_), lsv (encI .u8) 1 ((⟨x0⟩ : St120).Oper_.F_), .int .i64 ((⟨x0⟩ : St120).Oper_.W_), .int .i64 ((⟨x0⟩ : St120).Oper_.C_)]] []), (.int .u8 118, .fn (.func 99) [.agg [lsv (encI .u8) 1 ((⟨x0⟩ : St120).Oper_.I_), lsv (encI .u8) 1 ((⟨x0⟩ : St120).Oper_.F_), .int .i64 ((⟨x0⟩ : St120).Oper_.W_), .int .i64 ((⟨x0⟩ : St120).Oper_.C_)]] []), (.int .u8 119, .fn (.func 100) [.agg [lsv (encI .u8) 1 ((⟨x0⟩ : St120).Oper_.I_), lsv (encI .u8) 1 ((⟨x0⟩ : St120).Oper_.F_), .int .i64 ((⟨x0⟩ : St120).Oper_.W_), .int .i64 ((⟨x0⟩ : St120).Oper_.C_)]] []), (.int .u8 102, .fn (.func 101) [.agg [lsv (encI .u8) 1 ((⟨x0⟩ : St120).Oper_.I_), lsv (encI .u8) 1 ((⟨x0⟩ : St120).Oper_.F_), .int .i64 ((⟨x0⟩ : St120).Oper_.W_), .int .i64 ((⟨x0⟩ : St120).Oper_.C_)]] []), (.int .u8 116, .fn (.func 102) [.agg [lsv (encI .u8) 1 ((⟨x0⟩ : St120).Oper_.I_), lsv (encI .u8) 1 ((⟨x0⟩ : St120).Oper_.F_), .int .i64 ((⟨x0⟩ : St120).Oper_.W_), .int .i64 ((⟨x0⟩ : St120).Oper_.C_)]] []), (.int .u8 99, .fn (.func 103) [.agg [lsv (encI .u8) 1 ((⟨x0⟩ : St120).Oper_.I_), lsv (encI .u8) 1 ((⟨x0⟩ : St120).Oper_.F_), .int .i64 ((⟨x0⟩ : St120).Oper_.W_), .int .i64 ((⟨x0⟩ : St120).Oper_.C_)]] []), (.int .u8 101, .fn (.func 103) [.agg [lsv (encI .u8) 1 ((⟨x0⟩ : St120).Oper_.I_), lsv (encI .u8) 1 ((⟨x0⟩ : St120).Oper_.F_), .int .i64 ((⟨x0⟩ : St120).Oper_.W_), .int .i64 ((⟨x0⟩ : St120).Oper_.C_)]] [])]]) (H2 := [.box (encSt33 x0), .map [(.int .u8 110, .fn (.func 97) [.agg [lsv (encI .u8) 1 ((⟨x0⟩ : St120).Oper_.I_), lsv (encI .u8) 1 ((⟨x0⟩ : St120).Oper_.F_), .int .i64 ((⟨x0⟩ : St120).Oper_.W_), .int .i64 ((⟨x0⟩ : St120).Oper_.C_)]] []), (.int .u8 105, .fn (.func 98) [.agg [lsv (encI .u8) 1 ((⟨x0⟩ : St120).Oper_.I_), lsv (encI .u8) 1 ((⟨x0⟩ : St120).Oper_.F_), .int .i64 ((⟨x0⟩ : St120).Oper_.W_), .int .i64 ((⟨x0⟩ : St120).Oper_.C_)]] []), (.int .u8 118, .fn (.func 99) [.agg [lsv (encI .u8) 1 ((⟨x0⟩ : St120).Oper_.I_), lsv (encI .u8) 1 ((⟨x0⟩ : St120).Oper_.F_), .int .i64 ((⟨x0⟩ : St120).Oper_.W_), .int .i64 ((⟨x0⟩ : St120).Oper_.C_)]] []), (.int .u8 119, .fn (.func 100) [.agg [lsv (encI .u8) 1 ((⟨x0⟩ : St120).Oper_.I_), lsv (encI .u8) 1 ((⟨x0⟩ : St120).Oper_.F_), .int .i64 ((⟨x0⟩ : St120).Oper_.W_), .int .i64 ((⟨x0⟩ : St120).Oper_.C_)]] []), (.int .u8 102, .fn (.func 101) [.agg [lsv (encI .u8) 1 ((⟨x0⟩ : St120).Oper_.I_), lsv (encI .u8) 1 ((⟨x0⟩ : St120).Oper_.F_), .int .i64 ((⟨x0⟩ : St120).Oper_.W_), .int .i64 ((⟨x0⟩ : St120).Oper_.C_)]] []), (.int .u8 116, .fn (.func 102) [.agg [lsv (encI .u8) 1 ((⟨x0⟩ : St120).Oper_.I_), lsv (encI .u8) 1 ((⟨x0⟩ : St120).Oper_.F_), .int .i64 ((⟨x0⟩ : St120).Oper_.W_), .int .i64 ((⟨x0⟩ : St120).Oper_.C_)]] []), (.int .u8 99, .fn (.func 103) [.agg [lsv (encI .u8) 1 ((⟨x0⟩ : St120).Oper_.I_), lsv (encI .u8) 1 ((⟨x0⟩ : St120).Oper_.F_), .int .i64 ((⟨x0⟩ : St120).Oper_.W_), .int .i64 ((⟨x0⟩ : St120).Oper_.C_)]] []), (.int .u8 101, .fn (.func 103) [.agg [lsv (encI .u8) 1 ((⟨x0⟩ : St120).Oper_.I_), lsv (encI .u8) 1 ((⟨x0⟩ : St120).Oper_.F_), .int .i64 ((⟨x0⟩ : St120).Oper_.W_), .int .i64 ((⟨x0⟩ : St120).Oper_.C_)]] [])]]) [] (by kernel_rfl) (by kernel_rfl) (by kernel_rfl) (by kernel_rfl) (by decide) (by kernel_rfl) (by kernel_rfl) (by kernel_rfl) (.cons (Le.refl _) .nil) (oper_asked__operands_s0_ok hy8) (by kernel_rfl) (by kernel_rfl) (by kernel_rfl) ?_
  refine kC 1 [4,5,14,15] ?_
  cases hb10 : (decide (x1 = 110))
  ·have h12 := condF hb10 h9
   have hn13 := of_decide_eq_false hb10
   cases hb17 : (decide (x1 = 105))
   ·have h19 := condF hb17 h12
    have hn20 := of_decide_eq_false hb17
    cases hb24 : (decide (x1 = 118))
    ·have h26 := condF hb24 h19
     have hn27 := of_decide_eq_false hb24
     cases hb31 : (decide (x1 = 119))
     ·have h33 := condF hb31 h26
      have hn34 := of_decide_eq_false hb31
      cases hb38 : (decide (x1 = 102))
      ·have h40 := condF hb38 h33
       have hn41 := of_decide_eq_false hb38
       cases hb45 : (decide (x1 = 116))
       ·have h47 := condF hb45 h40
        have hn48 := of_decide_eq_false hb45
        cases hb52 : (decide (x1 = 99))
        ·have h54 := condF hb52 h47
         have hn55 := of_decide_eq_false hb52
         cases hb59 : (decide (x1 = 101))
         ·have h61 := condF hb59 h54
          have hn62 := of_decide_eq_false hb59
          refine RJ.look (none) (d := some 16) (ef := ⟨.tup [.undef, .bool false], [1], []⟩) (c := missC (.int .u8 x1) [(.int .u8 110, .fn (.func 97) [.agg [lsv (encI .u8) 1 ((⟨x0⟩ : St120).Oper_.I_), lsv (encI .u8) 1 ((⟨x0⟩ : St120).Oper_.F_), .int .i64 ((⟨x0⟩ : St120).Oper_.W_), .int .i64 ((⟨x0⟩ : St120).Oper_.C_)]] []), (.int .u8 105, .fn (.func 98) [.agg [lsv (encI .u8) 1 ((⟨x0⟩ : St120).Oper_.I_), lsv (encI .u8) 1 ((⟨x0⟩ : St120).Oper_.F_), .int .i64 ((⟨x0⟩ : St120).Oper_.W_), .int .i64 ((⟨x0⟩ : St120).Oper_.C_)]] []), (.int .u8 118, .fn (.func 99) [.agg [lsv (encI .u8) 1 ((⟨x0⟩ : St120).Oper_.I_), lsv (encI .u8) 1 ((⟨x0⟩ : St120).Oper_.F_), .int .i64 ((⟨x0⟩ : St120).Oper_.W_), .int .i64 ((⟨x0⟩ : St120).Oper_.C_)]] []), (.int .u8 119, .fn (.func 100) [.agg [lsv (encI .u8) 1 ((⟨x0⟩ : St120).Oper_.I_), lsv (encI .u8) 1 ((⟨x0⟩ : St120).Oper_.F_), .int .i64 ((⟨x0⟩ : St120).Oper_.W_), .int .i64 ((⟨x0⟩ : St120).Oper_.C_)]] []), (.int .u8 102, .fn (.func 101) [.agg [lsv (encI .u8) 1 ((⟨x0⟩ : St120).Oper_.I_), lsv (encI .u8) 1 ((⟨x0⟩ : St120).Oper_.F_), .int .i64 ((⟨x0⟩ : St120).Oper_.W_), .int .i64 ((⟨x0⟩ : St120).Oper_.C_)]] []), (.int .u8 116, .fn (.func 102) [.agg [lsv (encI .u8) 1 ((⟨x0⟩ : St120).Oper_.I_), lsv (encI .u8) 1 ((⟨x0⟩ : St120).Oper_.F_), .int .i64 ((⟨x0⟩ : St120).Oper_.W_), .int .i64 ((⟨x0⟩ : St120).Oper_.C_)]] []), (.int .u8 99, .fn (.func 103) [.agg [lsv (encI .u8) 1 ((⟨x0⟩ : St120).Oper_.I_), lsv (encI .u8) 1 ((⟨x0⟩ : St120).Oper_.F_), .int .i64 ((⟨x0⟩ : St120).Oper_.W_), .int .i64 ((⟨x0⟩ : St120).Oper_.C_)]] []), (.int .u8 101, .fn (.func 103) [.agg [lsv (encI .u8) 1 ((⟨x0⟩ : St120).Oper_.I_), lsv (encI .u8) 1 ((⟨x0⟩ : St120).Oper_.F_), .int .i64 ((⟨x0⟩ : St120).Oper_.W_), .int .i64 ((⟨x0⟩ : St120).Oper_.C_)]] [])]) (tr2 := []) (by kernel_rfl) (by simp [hitC, missC, sameB, sameE, hn13, hn20, hn27, hn34, hn41, hn48, hn55, hn62]) ?_
          refine kC 5 [4,5,7] ?_
          refine kEN ?_
          refine kS ?_
          refine kSR ?_
          refine kC 2 [4,5,20] ?_
          refine kEN ?_
          refine kT ?_
          refine kSR ?_
          refine RJ.seg 2 [4, 5] (L2 := [(4, .nl), (5, .bool false)]) (H2 := [.box (encSt33 x0), .map [(.int .u8 110, .fn (.func 97) [.agg [lsv (encI .u8) 1 ((⟨x0⟩ : St120).Oper_.I_), lsv (encI .u8) 1 ((⟨x0⟩ : St120).Oper_.F_), .int .i64 ((⟨x0⟩ : St120).Oper_.W_), .int .i64 ((⟨x0⟩ : St120).Oper_.C_)]] []), (.int .u8 105, .fn (.func 98) [.agg [lsv (encI .u8) 1 ((⟨x0⟩ : St120).Oper_.I_), lsv (encI .u8) 1 ((⟨x0⟩ : St120).Oper_.F_), .int .i64 ((⟨x0⟩ : St120).Oper_.W_), .int .i64 ((⟨x0⟩ : St120).Oper_.C_)]] []), (.int .u8 118, .fn (.func 99) [.agg [lsv (encI .u8) 1 ((⟨x0⟩ : St120).Oper_.I_), lsv (encI .u8) 1 ((⟨x0⟩ : St120).Oper_.F_), .int .i64 ((⟨x0⟩ : St120).Oper_.W_), .int .i64 ((⟨x0⟩ : St120).Oper_.C_)]] []), (.int .u8 119, .fn (.func 100) [.agg [lsv (encI .u8) 1 ((⟨x0⟩ : St120).Oper_.I_), lsv (encI .u8) 1 ((⟨x0⟩ : St120).Oper_.F_), .int .i64 ((⟨x0⟩ : St120).Oper_.W_), .int .i64 ((⟨x0⟩ : St120).Oper_.C_)]] []), (.int .u8 102, .fn (.func 101) [.agg [lsv (encI .u8) 1 ((⟨x0⟩ : St120).Oper_.I_), lsv (encI .u8) 1 ((⟨x0⟩ : St120).Oper_.F_), .int .i64 ((⟨x0⟩ : St120).Oper_.W_), .int .i64 ((⟨x0⟩ : St120).Oper_.C_)]] []), (.int .u8 116, .fn (.func 102) [.agg [lsv (encI .u8) 1 ((⟨x0⟩ : St120).Oper_.I_), lsv (encI .u8) 1 ((⟨x0⟩ : St120).Oper_.F_), .int .i64 ((⟨x0⟩ : St120).Oper_.W_), .int .i64 ((⟨x0⟩ : St120).Oper_.C_)]] []), (.int .u8 99, .fn (.func 103) [.agg [lsv (encI .u8) 1 ((⟨x0⟩ : St120).Oper_.I_), lsv (encI .u8) 1 ((⟨x0⟩ : St120).Oper_.F_), .int .i64 ((⟨x0⟩ : St120).Oper_.W_), .int .i64 ((⟨x0⟩ : St120).Oper_.C_)]] []), (.int .u8 101, .fn (.func 103) [.agg [lsv (encI .u8) 1 ((⟨x0⟩ : St120).Oper_.I_), lsv (encI .u8) 1 ((⟨x0⟩ : St120).Oper_.F_), .int .i64 ((⟨x0⟩ : St120).Oper_.W_), .int .i64 ((⟨x0⟩ : St120).Oper_.C_)]] [])]]) (by kernel_rfl) ?_
          refine kEN ?_
          refine kX ?_
          refine PJ.passRet ?_
          obtain rfl := oi h61
          refine PJ.res (v1 := .tup [.nl, .bool false]) (Le.tup (.cons (Le.nl _) (.cons (Le.refl _) .nil))) ?_
          exact kZ hFn hFH hFD
         ·have h60 := condT hb59 h54
          have hn62 := of_decide_eq_true hb59
          refine RJ.look (some 7) (d := some 16) (ef := ⟨.tup [.fn (.func 103) [.agg [lsv (encI .u8) 1 ((⟨x0⟩ : St120).Oper_.I_), lsv (encI .u8) 1 ((⟨x0⟩ : St120).Oper_.F_), .int .i64 ((⟨x0⟩ : St120).Oper_.W_), .int .i64 ((⟨x0⟩ : St120).Oper_.C_)]] [], .bool true], [1], []⟩) (c := hitC (.int .u8 x1) [(.int .u8 110, .fn (.func 97) [.agg [lsv (encI .u8) 1 ((⟨x0⟩ : St120).Oper_.I_), lsv (encI .u8) 1 ((⟨x0⟩ : St120).Oper_.F_), .int .i64 ((⟨x0⟩ : St120).Oper_.W_), .int .i64 ((⟨x0⟩ : St120).Oper_.C_)]] []), (.int .u8 105, .fn (.func 98) [.agg [lsv (encI .u8) 1 ((⟨x0⟩ : St120).Oper_.I_), lsv (encI .u8) 1 ((⟨x0⟩ : St120).Oper_.F_), .int .i64 ((⟨x0⟩ : St120).Oper_.W_), .int .i64 ((⟨x0⟩ : St120).Oper_.C_)]] []), (.int .u8 118, .fn (.func 99) [.agg [lsv (encI .u8) 1 ((⟨x0⟩ : St120).Oper_.I_), lsv (encI .u8) 1 ((⟨x0⟩ : St120).Oper_.F_), .int .i64 ((⟨x0⟩ : St120).Oper_.W_), .int .i64 ((⟨x0⟩ : St120).Oper_.C_)]] []), (.int .u8 119, .fn (.func 100) [.agg [lsv (encI .u8) 1 ((⟨x0⟩ : St120).Oper_.I_), lsv (encI .u8) 1 ((⟨x0⟩ : St120).Oper_.F_), .int .i64 ((⟨x0⟩ : St120).Oper_.W_), .int .i64 ((⟨x0⟩ : St120).Oper_.C_)]] []), (.int .u8 102, .fn (.func 101) [.agg [lsv (encI .u8) 1 ((⟨x0⟩ : St120).Oper_.I_), lsv (encI .u8) 1 ((⟨x0⟩ : St120).Oper_.F_), .int .i64 ((⟨x0⟩ : St120).Oper_.W_), .int .i64 ((⟨x0⟩ : St120).Oper_.C_)]] []), (.int .u8 116, .fn (.func 102) [.agg [lsv (encI .u8) 1 ((⟨x0⟩ : St120).Oper_.I_), lsv (encI .u8) 1 ((⟨x0⟩ : St120).Oper_.F_), .int .i64 ((⟨x0⟩ : St120).Oper_.W_), .int .i64 ((⟨x0⟩ : St120).Oper_.C_)]] []), (.int .u8 99, .fn (.func 103) [.agg [lsv (encI .u8) 1 ((⟨x0⟩ : St120).Oper_.I_), lsv (encI .u8) 1 ((⟨x0⟩ : St120).Oper_.F_), .int .i64 ((⟨x0⟩ : St120).Oper_.W_), .int .i64 ((⟨x0⟩ : St120).Oper_.C_)]] []), (.int .u8 101, .fn (.func 103) [.agg [lsv (encI .u8) 1 ((⟨x0⟩ : St120).Oper_.I_), lsv (encI .u8) 1 ((⟨x0⟩ : St120).Oper_.F_), .int .i64 ((⟨x0⟩ : St120).Oper_.W_), .int .i64 ((⟨x0⟩ : St120).Oper_.C_)]] [])] 7) (tr2 := []) (by kernel_rfl) (by simp [hitC, missC, sameB, sameE, hn13, hn20, hn27, hn34, hn41, hn48, hn55, hn62]) ?_
          refine kC 5 [4,5,6,7] ?_
          refine kEN ?_
          refine kS ?_
          refine kSR ?_
          refine kC 2 [4,5,6,20] ?_
          refine kEN ?_
          refine kF ?_
          refine kK ?_
          refine PJ.next ?_
          refine kSR ?_
          refine RJ.seg 1 [4, 5, 21] (L2 := [(4, .nl), (5, .bool false), (21, .fn (.func 103) [.agg [lsv (encI .u8) 1 ((⟨x0⟩ : St120).Oper_.I_), lsv (encI .u8) 1 ((⟨x0⟩ : St120).Oper_.F_), .int .i64 ((⟨x0⟩ : St120).Oper_.W_), .int .i64 ((⟨x0⟩ : St120).Oper_.C_)]] [])]) (H2 := [.box (encSt33 x0), .map [(.int .u8 110, .fn (.func 97) [.agg [lsv (encI .u8) 1 ((⟨x0⟩ : St120).Oper_.I_), lsv (encI .u8) 1 ((⟨x0⟩ : St120).Oper_.F_), .int .i64 ((⟨x0⟩ : St120).Oper_.W_), .int .i64 ((⟨x0⟩ : St120).Oper_.C_)]] []), (.int .u8 105, .fn (.func 98) [.agg [lsv (encI .u8) 1 ((⟨x0⟩ : St120).Oper_.I_), lsv (encI .u8) 1 ((⟨x0⟩ : St120).Oper_.F_), .int .i64 ((⟨x0⟩ : St120).Oper_.W_), .int .i64 ((⟨x0⟩ : St120).Oper_.C_)]] []), (.int .u8 118, .fn (.func 99) [.agg [lsv (encI .u8) 1 ((⟨x0⟩ : St120).Oper_.I_), lsv (encI .u8) 1 ((⟨x0⟩ : St120).Oper_.F_), .int .i64 ((⟨x0⟩ : St120).Oper_.W_), .int .i64 ((⟨x0⟩ : St120).Oper_.C_)]] []), (.int .u8 119, .fn (.func 100) [.agg [lsv (encI .u8) 1 ((⟨x0⟩ : St120).Oper_.I_), lsv (encI .u8) 1 ((⟨x0⟩ : St120).Oper_.F_), .int .i64 ((⟨x0⟩ : St120).Oper_.W_), .int .i64 ((⟨x0⟩ : St120).Oper_.C_)]] []), (.int .u8 102, .fn (.func 101) [.agg [lsv (encI .u8) 1 ((⟨x0⟩ : St120).Oper_.I_), lsv (encI .u8) 1 ((⟨x0⟩ : St120).Oper_.F_), .int .i64 ((⟨x0⟩ : St120).Oper_.W_), .int .i64 ((⟨x0⟩ : St120).Oper_.C_)]] []), (.int .u8 116, .fn (.func 102) [.agg [lsv (encI .u8) 1 ((⟨x0⟩ : St120).Oper_.I_), lsv (encI .u8) 1 ((⟨x0⟩ : St120).Oper_.F_), .int .i64 ((⟨x0⟩ : St120).Oper_.W_), .int .i64 ((⟨x0⟩ : St120).Oper_.C_)]] []), (.int .u8 99, .fn (.func 103) [.agg [lsv (encI .u8) 1 ((⟨x0⟩ : St120).Oper_.I_), lsv (encI .u8) 1 ((⟨x0⟩ : St120).Oper_.F_), .int .i64 ((⟨x0⟩ : St120).Oper_.W_), .int .i64 ((⟨x0⟩ : St120).Oper_.C_)]] []), (.int .u8 101, .fn (.func 103) [.agg [lsv (encI .u8) 1 ((⟨x0⟩ : St120).Oper_.I_), lsv (encI .u8) 1 ((⟨x0⟩ : St120).Oper_.F_), .int .i64 ((⟨x0⟩ : St120).Oper_.W_), .int .i64 ((⟨x0⟩ : St120).Oper_.C_)]] [])]]) (by kernel_rfl) ?_
          obtain ⟨y63, hy64, h65⟩ := bindS h60
          refine kA 22 (oper_asked__power_ok hy64) ?_
          refine kC 4 [4,5] ?_
          refine kEN ?_
          refine kX ?_
          obtain rfl := oi h65
          exact kZ hFn hFH hFD
        ·have h53 := condT hb52 h47
         have hn55 := of_decide_eq_true hb52
         refine RJ.look (some 6) (d := some 16) (ef := ⟨.tup [.fn (.func 103) [.agg [lsv (encI .u8) 1 ((⟨x0⟩ : St120).Oper_.I_), lsv (encI .u8) 1 ((⟨x0⟩ : St120).Oper_.F_), .int .i64 ((⟨x0⟩ : St120).Oper_.W_), .int .i64 ((⟨x0⟩ : St120).Oper_.C_)]] [], .bool true], [1], []⟩) (c := hitC (.int .u8 x1) [(.int .u8 110, .fn (.func 97) [.agg [lsv (encI .u8) 1 ((⟨x0⟩ : St120).Oper_.I_), lsv (encI .u8) 1 ((⟨x0⟩ : St120).Oper_.F_), .int .i64 ((⟨x0⟩ : St120).Oper_.W_), .int .i64 ((⟨x0⟩ : St120).Oper_.C_)]] []), (.int .u8 105, .fn (.func 98) [.agg [lsv (encI .u8) 1 ((⟨x0⟩ : St120).Oper_.I_), lsv (encI .u8) 1 ((⟨x0⟩ : St120).Oper_.F_), .int .i64 ((⟨x0⟩ : St120).Oper_.W_), .int .i64 ((⟨x0⟩ : St120).Oper_.C_)]] []), (.int .u8 118, .fn (.func 99) [.agg [lsv (encI .u8) 1 ((⟨x0⟩ : St120).Oper_.I_), lsv (encI .u8) 1 ((⟨x0⟩ : St120).Oper_.F_), .int .i64 ((⟨x0⟩ : St120).Oper_.W_), .int .i64 ((⟨x0⟩ : St120).Oper_.C_)]] []), (.int .u8 119, .fn (.func 100) [.agg [lsv (encI .u8) 1 ((⟨x0⟩ : St120).Oper_.I_), lsv (encI .u8) 1 ((⟨x0⟩ : St120).Oper_.F_), .int .i64 ((⟨x0⟩ : St120).Oper_.W_), .int .i64 ((⟨x0⟩ : St120).Oper_.C_)]] []), (.int .u8 102, .fn (.func 101) [.agg [lsv (encI .u8) 1 ((⟨x0⟩ : St120).Oper_.I_), lsv (encI .u8) 1 ((⟨x0⟩ : St120).Oper_.F_), .int .i64 ((⟨x0⟩ : St120).Oper_.W_), .int .i64 ((⟨x0⟩ : St120).Oper_.C_)]] []), (.int .u8 116, .fn (.func 102) [.agg [lsv (encI .u8) 1 ((⟨x0⟩ : St120).Oper_.I_), lsv (encI .u8) 1 ((⟨x0⟩ : St120).Oper_.F_), .int .i64 ((⟨x0⟩ : St120).Oper_.W_), .int .i64 ((⟨x0⟩ : St120).Oper_.C_)]] []), (.int .u8 99, .fn (.func 103) [.agg [lsv (encI .u8) 1 ((⟨x0⟩ : St120).Oper_.I_), lsv (encI .u8) 1 ((⟨x0⟩ : St120).Oper_.F_), .int .i64 ((⟨x0⟩ : St120).Oper_.W_), .int .i64 ((⟨x0⟩ : St120).Oper_.C_)]] []), (.int .u8 101, .fn (.func 103) [.agg [lsv (encI .u8) 1 ((⟨x0⟩ : St120).Oper_.I_), lsv (encI .u8) 1 ((⟨x0⟩ : St120).Oper_.F_), .int .i64 ((⟨x0⟩ : St120).Oper_.W_), .int .i64 ((⟨x0⟩ : St120).Oper_.C_)]] [])] 6) (tr2 := []) (by kernel_rfl) (by simp [hitC, missC, sameB, sameE, hn13, hn20, hn27, hn34, hn41, hn48, hn55]) ?_
         refine kC 5 [4,5,6,7] ?_
         refine kEN ?_
         refine kS ?_
         refine kSR ?_
         refine kC 2 [4,5,6,20] ?_
         refine kEN ?_
         refine kF ?_
         refine kK ?_
         refine PJ.next ?_
         refine kSR ?_
         refine RJ.seg 1 [4, 5, 21] (L2 := [(4, .nl), (5, .bool false), (21, .fn (.func 103) [.agg [lsv (encI .u8) 1 ((⟨x0⟩ : St120).Oper_.I_), lsv (encI .u8) 1 ((⟨x0⟩ : St120).Oper_.F_), .int .i64 ((⟨x0⟩ : St120).Oper_.W_), .int .i64 ((⟨x0⟩ : St120).Oper_.C_)]] [])]) (H2 := [.box (encSt33 x0), .map [(.int .u8 110, .fn (.func 97) [.agg [lsv (encI .u8) 1 ((⟨x0⟩ : St120).Oper_.I_), lsv (encI .u8) 1 ((⟨x0⟩ : St120).Oper_.F_), .int .i64 ((⟨x0⟩ : St120).Oper_.W_), .int .i64 ((⟨x0⟩ : St120).Oper_.C_)]] []), (.int .u8 105, .fn (.func 98) [.agg [lsv (encI .u8) 1 ((⟨x0⟩ : St120).Oper_.I_), lsv (encI .u8) 1 ((⟨x0⟩ : St120).Oper_.F_), .int .i64 ((⟨x0⟩ : St120).Oper_.W_), .int .i64 ((⟨x0⟩ : St120).Oper_.C_)]] []), (.int .u8 118, .fn (.func 99) [.agg [lsv (encI .u8) 1 ((⟨x0⟩ : St120).Oper_.I_), lsv (encI .u8) 1 ((⟨x0⟩ : St120).Oper_.F_), .int .i64 ((⟨x0⟩ : St120).Oper_.W_), .int .i64 ((⟨x0⟩ : St120).Oper_.C_)]] []), (.int .u8 119, .fn (.func 100) [.agg [lsv (encI .u8) 1 ((⟨x0⟩ : St120).Oper_.I_), lsv (encI .u8) 1 ((⟨x0⟩ : St120).Oper_.F_), .int .i64 ((⟨x0⟩ : St120).Oper_.W_), .int .i64 ((⟨x0⟩ : St120).Oper_.C_)]] []), (.int .u8 102, .fn (.func 101) [.agg [lsv (encI .u8) 1 ((⟨x0⟩ : St120).Oper_.I_), lsv (encI .u8) 1 ((⟨x0⟩ : St120).Oper_.F_), .int .i64 ((⟨x0⟩ : St120).Oper_.W_), .int .i64 ((⟨x0⟩ : St120).Oper_.C_)]] []), (.int .u8 116, .fn (.func 102) [.agg [lsv (encI .u8) 1 ((⟨x0⟩ : St120).Oper_.I_), lsv (encI .u8) 1 ((⟨x0⟩ : St120).Oper_.F_), .int .i64 ((⟨x0⟩ : St120).Oper_.W_), .int .i64 ((⟨x0⟩ : St120).Oper_.C_)]] []), (.int .u8 99, .fn (.func 103) [.agg [lsv (encI .u8) 1 ((⟨x0⟩ : St120).Oper_.I_), lsv (encI .u8) 1 ((⟨x0⟩ : St120).Oper_.F_), .int .i64 ((⟨x0⟩ : St120).Oper_.W_), .int .i64 ((⟨x0⟩ : St120).Oper_.C_)]] []), (.int .u8 101, .fn (.func 103) [.agg [lsv (encI .u8) 1 ((⟨x0⟩ : St120).Oper_.I_), lsv (encI .u8) 1 ((⟨x0⟩ : St120).Oper_.F_), .int .i64 ((⟨x0⟩ : St120).Oper_.W_), .int .i64 ((⟨x0⟩ : St120).Oper_.C_)]] [])]]) (by kernel_rfl) ?_
         obtain ⟨y56, hy57, h58⟩ := bindS h53
         refine kA 22 (oper_asked__power_ok hy57) ?_
         refine kC 4 [4,5] ?_
         refine kEN ?_
         refine kX ?_
         obtain rfl := oi h58
         exact kZ hFn hFH hFD
       ·have h46 := condT hb45 h40
        have hn48 := of_decide_eq_true hb45
        refine RJ.look (some 5) (d := some 16) (ef := ⟨.tup [.fn (.func 102) [.agg [lsv (encI .u8) 1 ((⟨x0⟩ : St120).Oper_.I_), lsv (encI .u8) 1 ((⟨x0⟩ : St120).Oper_.F_), .int .i64 ((⟨x0⟩ : St120).Oper_.W_), .int .i64 ((⟨x0⟩ : St120).Oper_.C_)]] [], .bool true], [1], []⟩) (c := hitC (.int .u8 x1) [(.int .u8 110, .fn (.func 97) [.agg [lsv (encI .u8) 1 ((⟨x0⟩ : St120).Oper_.I_), lsv (encI .u8) 1 ((⟨x0⟩ : St120).Oper_.F_), .int .i64 ((⟨x0⟩ : St120).Oper_.W_), .int .i64 ((⟨x0⟩ : St120).Oper_.C_)]] []), (.int .u8 105, .fn (.func 98) [.agg [lsv (encI .u8) 1 ((⟨x0⟩ : St120).Oper_.I_), lsv (encI .u8) 1 ((⟨x0⟩ : St120).Oper_.F_), .int .i64 ((⟨x0⟩ : St120).Oper_.W_), .int .i64 ((⟨x0⟩ : St120).Oper_.C_)]] []), (.int .u8 118, .fn (.func 99) [.agg [lsv (encI .u8) 1 ((⟨x0⟩ : St120).Oper_.I_), lsv (encI .u8) 1 ((⟨x0⟩ : St120).Oper_.F_), .int .i64 ((⟨x0⟩ : St120).Oper_.W_), .int .i64 ((⟨x0⟩ : St120).Oper_.C_)]] []), (.int .u8 119, .fn (.func 100) [.agg [lsv (encI .u8) 1 ((⟨x0⟩ : St120).Oper_.I_), lsv (encI .u8) 1 ((⟨x0⟩ : St120).Oper_.F_), .int .i64 ((⟨x0⟩ : St120).Oper_.W_), .int .i64 ((⟨x0⟩ : St120).Oper_.C_)]] []), (.int .u8 102, .fn (.func 101) [.agg [lsv (encI .u8) 1 ((⟨x0⟩ : St120).Oper_.I_), lsv (encI .u8) 1 ((⟨x0⟩ : St120).Oper_.F_), .int .i64 ((⟨x0⟩ : St120).Oper_.W_), .int .i64 ((⟨x0⟩ : St120).Oper_.C_)]] []), (.int .u8 116, .fn (.func 102) [.agg [lsv (encI .u8) 1 ((⟨x0⟩ : St120).Oper_.I_), lsv (encI .u8) 1 ((⟨x0⟩ : St120).Oper_.F_), .int .i64 ((⟨x0⟩ : St120).Oper_.W_), .int .i64 ((⟨x0⟩ : St120).Oper_.C_)]] []), (.int .u8 99, .fn (.func 103) [.agg [lsv (encI .u8) 1 ((⟨x0⟩ : St120).Oper_.I_), lsv (encI .u8) 1 ((⟨x0⟩ : St120).Oper_.F_), .int .i64 ((⟨x0⟩ : St120).Oper_.W_), .int .i64 ((⟨x0⟩ : St120).Oper_.C_)]] []), (.int .u8 101, .fn (.func 103) [.agg [lsv (encI .u8) 1 ((⟨x0⟩ : St120).Oper_.I_), lsv (encI .u8) 1 ((⟨x0⟩ : St120).Oper_.F_), .int .i64 ((⟨x0⟩ : St120).Oper_.W_), .int .i64 ((⟨x0⟩ : St120).Oper_.C_)]] [])] 5) (tr2 := []) (by kernel_rfl) (by simp [hitC, missC, sameB, sameE, hn13, hn20, hn27, hn34, hn41, hn48]) ?_
        refine kC 5 [4,5,6,7] ?_
        refine kEN ?_
        refine kS ?_
        refine kSR ?_
        refine kC 2 [4,5,6,20] ?_
        refine kEN ?_
        refine kF ?_
        refine kK ?_
        refine PJ.next ?_
        refine kSR ?_
        refine RJ.seg 1 [4, 5, 21] (L2 := [(4, .nl), (5, .bool false), (21, .fn (.func 102) [.agg [lsv (encI .u8) 1 ((⟨x0⟩ : St120).Oper_.I_), lsv (encI .u8) 1 ((⟨x0⟩ : St120).Oper_.F_), .int .i64 ((⟨x0⟩ : St120).Oper_.W_), .int .i64 ((⟨x0⟩ : St120).Oper_.C_)]] [])]) (H2 := [.box (encSt33 x0), .map [(.int .u8 110, .fn (.func 97) [.agg [lsv (encI .u8) 1 ((⟨x0⟩ : St120).Oper_.I_), lsv (encI .u8) 1 ((⟨x0⟩ : St120).Oper_.F_), .int .i64 ((⟨x0⟩ : St120).Oper_.W_), .int .i64 ((⟨x0⟩ : St120).Oper_.C_)]] []), (.int .u8 105, .fn (.func 98) [.agg [lsv (encI .u8) 1 ((⟨x0⟩ : St120).Oper_.I_), lsv (encI .u8) 1 ((⟨x0⟩ : St120).Oper_.F_), .int .i64 ((⟨x0⟩ : St120).Oper_.W_), .int .i64 ((⟨x0⟩ : St120).Oper_.C_)]] []), (.int .u8 118, .fn (.func 99) [.agg [lsv (encI .u8) 1 ((⟨x0⟩ : St120).Oper_.I_), lsv (encI .u8) 1 ((⟨x0⟩ : St120).Oper_.F_), .int .i64 ((⟨x0⟩ : St120).Oper_.W_), .int .i64 ((⟨x0⟩ : St120).Oper_.C_)]] []), (.int .u8 119, .fn (.func 100) [.agg [lsv (encI .u8) 1 ((⟨x0⟩ : St120).Oper_.I_), lsv (encI .u8) 1 ((⟨x0⟩ : St120).Oper_.F_), .int .i64 ((⟨x0⟩ : St120).Oper_.W_), .int .i64 ((⟨x0⟩ : St120).Oper_.C_)]] []), (.int .u8 102, .fn (.func 101) [.agg [lsv (encI .u8) 1 ((⟨x0⟩ : St120).Oper_.I_), lsv (encI .u8) 1 ((⟨x0⟩ : St120).Oper_.F_), .int .i64 ((⟨x0⟩ : St120).Oper_.W_), .int .i64 ((⟨x0⟩ : St120).Oper_.C_)]] []), (.int .u8 116, .fn (.func 102) [.agg [lsv (encI .u8) 1 ((⟨x0⟩ : St120).Oper_.I_), lsv (encI .u8) 1 ((⟨x0⟩ : St120).Oper_.F_), .int .i64 ((⟨x0⟩ : St120).Oper_.W_), .int .i64 ((⟨x0⟩ : St120).Oper_.C_)]] []), (.int .u8 99, .fn (.func 103) [.agg [lsv (encI .u8) 1 ((⟨x0⟩ : St120).Oper_.I_), lsv (encI .u8) 1 ((⟨x0⟩ : St120).Oper_.F_), .int .i64 ((⟨x0⟩ : St120).Oper_.W_), .int .i64 ((⟨x0⟩ : St120).Oper_.C_)]] []), (.int .u8 101, .fn (.func 103) [.agg [lsv (encI .u8) 1 ((⟨x0⟩ : St120).Oper_.I_), lsv (encI .u8) 1 ((⟨x0⟩ : St120).Oper_.F_), .int .i64 ((⟨x0⟩ : St120).Oper_.W_), .int .i64 ((⟨x0⟩ : St120).Oper_.C_)]] [])]]) (by kernel_rfl) ?_
        obtain ⟨y49, hy50, h51⟩ := bindS h46
        refine kA 22 (oper_asked__cut_ok hy50) ?_
        refine kC 4 [4,5] ?_
        refine kEN ?_
        refine kX ?_
        obtain rfl := oi h51
        exact kZ hFn hFH hFD
      ·have h39 := condT hb38 h33
       have hn41 := of_decide_eq_true hb38
       refine RJ.look (some 4) (d := some 16) (ef := ⟨.tup [.fn (.func 101) [.agg [lsv (encI .u8) 1 ((⟨x0⟩ : St120).Oper_.I_), lsv (encI .u8) 1 ((⟨x0⟩ : St120).Oper_.F_), .int .i64 ((⟨x0⟩ : St120).Oper_.W_), .int .i64 ((⟨x0⟩ : St120).Oper_.C_)]] [], .bool true], [1], []⟩) (c := hitC (.int .u8 x1) [(.int .u8 110, .fn (.func 97) [.agg [lsv (encI .u8) 1 ((⟨x0⟩ : St120).Oper_.I_), lsv (encI .u8) 1 ((⟨x0⟩ : St120).Oper_.F_), .int .i64 ((⟨x0⟩ : St120).Oper_.W_), .int .i64 ((⟨x0⟩ : St120).Oper_.C_)]] []), (.int .u8 105, .fn (.func 98) [.agg [lsv (encI .u8) 1 ((⟨x0⟩ : St120).Oper_.I_), lsv (encI .u8) 1 ((⟨x0⟩ : St120).Oper_.F_), .int .i64 ((⟨x0⟩ : St120).Oper_.W_), .int .i64 ((⟨x0⟩ : St120).Oper_.C_)]] []), (.int .u8 118, .fn (.func 99) [.agg [lsv (encI .u8) 1 ((⟨x0⟩ : St120).Oper_.I_), lsv (encI .u8) 1 ((⟨x0⟩ : St120).Oper_.F_), .int .i64 ((⟨x0⟩ : St120).Oper_.W_), .int .i64 ((⟨x0⟩ : St120).Oper_.C_)]] []), (.int .u8 119, .fn (.func 100) [.agg [lsv (encI .u8) 1 ((⟨x0⟩ : St120).Oper_.I_), lsv (encI .u8) 1 ((⟨x0⟩ : St120).Oper_.F_), .int .i64 ((⟨x0⟩ : St120).Oper_.W_), .int .i64 ((⟨x0⟩ : St120).Oper_.C_)]] []), (.int .u8 102, .fn (.func 101) [.agg [lsv (encI .u8) 1 ((⟨x0⟩ : St120).Oper_.I_), lsv (encI .u8) 1 ((⟨x0⟩ : St120).Oper_.F_), .int .i64 ((⟨x0⟩ : St120).Oper_.W_), .int .i64 ((⟨x0⟩ : St120).Oper_.C_)]] []), (.int .u8 116, .fn (.func 102) [.agg [lsv (encI .u8) 1 ((⟨x0⟩ : St120).Oper_.I_), lsv (encI .u8) 1 ((⟨x0⟩ : St120).Oper_.F_), .int .i64 ((⟨x0⟩ : St120).Oper_.W_), .int .i64 ((⟨x0⟩ : St120).Oper_.C_)]] []), (.int .u8 99, .fn (.func 103) [.agg [lsv (encI .u8) 1 ((⟨x0⟩ : St120).Oper_.I_), lsv (encI .u8) 1 ((⟨x0⟩ : St120).Oper_.F_), .int .i64 ((⟨x0⟩ : St120).Oper_.W_), .int .i64 ((⟨x0⟩ : St120).Oper_.C_)]] []), (.int .u8 101, .fn (.func 103) [.agg [lsv (encI .u8) 1 ((⟨x0⟩ : St120).Oper_.I_), lsv (encI .u8) 1 ((⟨x0⟩ : St120).Oper_.F_), .int .i64 ((⟨x0⟩ : St120).Oper_.W_), .int .i64 ((⟨x0⟩ : St120).Oper_.C_)]] [])] 4) (tr2 := []) (by kernel_rfl) (by simp [hitC, missC, sameB, sameE, hn13, hn20, hn27, hn34, hn41]) ?_
       refine kC 5 [4,5,6,7] ?_
       refine kEN ?_
       refine kS ?_
       refine kSR ?_
       refine kC 2 [4,5,6,20] ?_
       refine kEN ?_
       refine kF ?_
       refine kK ?_
       refine PJ.next ?_
       refine kSR ?_
       refine RJ.seg 1 [4, 5, 21] (L2 := [(4, .nl), (5, .bool false), (21, .fn (.func 101) [.agg [lsv (encI .u8) 1 ((⟨x0⟩ : St120).Oper_.I_), lsv (encI .u8) 1 ((⟨x0⟩ : St120).Oper_.F_), .int .i64 ((⟨x0⟩ : St120).Oper_.W_), .int .i64 ((⟨x0⟩ : St120).Oper_.C_)]] [])]) (H2 := [.box (encSt33 x0), .map [(.int .u8 110, .fn (.func 97) [.agg [lsv (encI .u8) 1 ((⟨x0⟩ : St120).Oper_.I_), lsv (encI .u8) 1 ((⟨x0⟩ : St120).Oper_.F_), .int .i64 ((⟨x0⟩ : St120).Oper_.W_), .int .i64 ((⟨x0⟩ : St120).Oper_.C_)]] []), (.int .u8 105, .fn (.func 98) [.agg [lsv (encI .u8) 1 ((⟨x0⟩ : St120).Oper_.I_), lsv (encI .u8) 1 ((⟨x0⟩ : St120).Oper_.F_), .int .i64 ((⟨x0⟩ : St120).Oper_.W_), .int .i64 ((⟨x0⟩ : St120).Oper_.C_)]] []), (.int .u8 118, .fn (.func 99) [.agg [lsv (encI .u8) 1 ((⟨x0⟩ : St120).Oper_.I_), lsv (encI .u8) 1 ((⟨x0⟩ : St120).Oper_.F_), .int .i64 ((⟨x0⟩ : St120).Oper_.W_), .int .i64 ((⟨x0⟩ : St120).Oper_.C_)]] []), (.int .u8 119, .fn (.func 100) [.agg [lsv (encI .u8) 1 ((⟨x0⟩ : St120).Oper_.I_), lsv (encI .u8) 1 ((⟨x0⟩ : St120).Oper_.F_), .int .i64 ((⟨x0⟩ : St120).Oper_.W_), .int .i64 ((⟨x0⟩ : St120).Oper_.C_)]] []), (.int .u8 102, .fn (.func 101) [.agg [lsv (encI .u8) 1 ((⟨x0⟩ : St120).Oper_.I_), lsv (encI .u8) 1 ((⟨x0⟩ : St120).Oper_.F_), .int .i64 ((⟨x0⟩ : St120).Oper_.W_), .int .i64 ((⟨x0⟩ : St120).Oper_.C_)]] []), (.int .u8 116, .fn (.func 102) [.agg [lsv (encI .u8) 1 ((⟨x0⟩ : St120).Oper_.I_), lsv (encI .u8) 1 ((⟨x0⟩ : St120).Oper_.F_), .int .i64 ((⟨x0⟩ : St120).Oper_.W_), .int .i64 ((⟨x0⟩ : St120).Oper_.C_)]] []), (.int .u8 99, .fn (.func 103) [.agg [lsv (encI .u8) 1 ((⟨x0⟩ : St120).Oper_.I_), lsv (encI .u8) 1 ((⟨x0⟩ : St120).Oper_.F_), .int .i64 ((⟨x0⟩ : St120).Oper_.W_), .int .i64 ((⟨x0⟩ : St120).Oper_.C_)]] []), (.int .u8 101, .fn (.func 103) [.agg [lsv (encI .u8) 1 ((⟨x0⟩ : St120).Oper_.I_), lsv (encI .u8) 1 ((⟨x0⟩ : St120).Oper_.F_), .int .i64 ((⟨x0⟩ : St120).Oper_.W_), .int .i64 ((⟨x0⟩ : St120).Oper_.C_)]] [])]]) (by kernel_rfl) ?_
       obtain ⟨y42, hy43, h44⟩ := bindS h39
       refine kA 22 (oper_asked__part_ok hy43) ?_
       refine kC 4 [4,5] ?_
       refine kEN ?_
       refine kX ?_
       obtain rfl := oi h44
       exact kZ hFn hFH hFD
     ·have h32 := condT hb31 h26
      have hn34 := of_decide_eq_true hb31
      refine RJ.look (some 3) (d := some 16) (ef := ⟨.tup [.fn (.func 100) [.agg [lsv (encI .u8) 1 ((⟨x0⟩ : St120).Oper_.I_), lsv (encI .u8) 1 ((⟨x0⟩ : St120).Oper_.F_), .int .i64 ((⟨x0⟩ : St120).Oper_.W_), .int .i64 ((⟨x0⟩ : St120).Oper_.C_)]] [], .bool true], [1], []⟩) (c := hitC (.int .u8 x1) [(.int .u8 110, .fn (.func 97) [.agg [lsv (encI .u8) 1 ((⟨x0⟩ : St120).Oper_.I_), lsv (encI .u8) 1 ((⟨x0⟩ : St120).Oper_.F_), .int .i64 ((⟨x0⟩ : St120).Oper_.W_), .int .i64 ((⟨x0⟩ : St120).Oper_.C_)]] []), (.int .u8 105, .fn (.func 98) [.agg [lsv (encI .u8) 1 ((⟨x0⟩ : St120).Oper_.I_), lsv (encI .u8) 1 ((⟨x0⟩ : St120).Oper_.F_), .int .i64 ((⟨x0⟩ : St120).Oper_.W_), .int .i64 ((⟨x0⟩ : St120).Oper_.C_)]] []), (.int .u8 118, .fn (.func 99) [.agg [lsv (encI .u8) 1 ((⟨x0⟩ : St120).Oper_.I_), lsv (encI .u8) 1 ((⟨x0⟩ : St120).Oper_.F_), .int .i64 ((⟨x0⟩ : St120).Oper_.W_), .int .i64 ((⟨x0⟩ : St120).Oper_.C_)]] []), (.int .u8 119, .fn (.func 100) [.agg [lsv (encI .u8) 1 ((⟨x0⟩ : St120).Oper_.I_), lsv (encI .u8) 1 ((⟨x0⟩ : St120).Oper_.F_), .int .i64 ((⟨x0⟩ : St120).Oper_.W_), .int .i64 ((⟨x0⟩ : St120).Oper_.C_)]] []), (.int .u8 102, .fn (.func 101) [.agg [lsv (encI .u8) 1 ((⟨x0⟩ : St120).Oper_.I_), lsv (encI .u8) 1 ((⟨x0⟩ : St120).Oper_.F_), .int .i64 ((⟨x0⟩ : St120).Oper_.W_), .int .i64 ((⟨x0⟩ : St120).Oper_.C_)]] []), (.int .u8 116, .fn (.func 102) [.agg [lsv (encI .u8) 1 ((⟨x0⟩ : St120).Oper_.I_), lsv (encI .u8) 1 ((⟨x0⟩ : St120).Oper_.F_), .int .i64 ((⟨x0⟩ : St120).Oper_.W_), .int .i64 ((⟨x0⟩ : St120).Oper_.C_)]] []), (.int .u8 99, .fn (.func 103) [.agg [lsv (encI .u8) 1 ((⟨x0⟩ : St120).Oper_.I_), lsv (encI .u8) 1 ((⟨x0⟩ : St120).Oper_.F_), .int .i64 ((⟨x0⟩ : St120).Oper_.W_), .int .i64 ((⟨x0⟩ : St120).Oper_.C_)]] []), (.int .u8 101, .fn (.func 103) [.agg [lsv (encI .u8) 1 ((⟨x0⟩ : St120).Oper_.I_), lsv (encI .u8) 1 ((⟨x0⟩ : St120).Oper_.F_), .int .i64 ((⟨x0⟩ : St120).Oper_.W_), .int .i64 ((⟨x0⟩ : St120).Oper_.C_)]] [])] 3) (tr2 := []) (by kernel_rfl) (by simp [hitC, missC, sameB, sameE, hn13, hn20, hn27, hn34]) ?_
      refine kC 5 [4,5,6,7] ?_
      refine kEN ?_
      refine kS ?_
      refine kSR ?_
      refine kC 2 [4,5,6,20] ?_
      refine kEN ?_
      refine kF ?_
      refine kK ?_
      refine PJ.next ?_
      refine kSR ?_
      refine RJ.seg 1 [4, 5, 21] (L2 := [(4, .nl), (5, .bool false), (21, .fn (.func 100) [.agg [lsv (encI .u8) 1 ((⟨x0⟩ : St120).Oper_.I_), lsv (encI .u8) 1 ((⟨x0⟩ : St120).Oper_.F_), .int .i64 ((⟨x0⟩ : St120).Oper_.W_), .int .i64 ((⟨x0⟩ : St120).Oper_.C_)]] [])]) (H2 := [.box (encSt33 x0), .map [(.int .u8 110, .fn (.func 97) [.agg [lsv (encI .u8) 1 ((⟨x0⟩ : St120).Oper_.I_), lsv (encI .u8) 1 ((⟨x0⟩ : St120).Oper_.F_), .int .i64 ((⟨x0⟩ : St120).Oper_.W_), .int .i64 ((⟨x0⟩ : St120).Oper_.C_)]] []), (.int .u8 105, .fn (.func 98) [.agg [lsv (encI .u8) 1 ((⟨x0⟩ : St120).Oper_.I_), lsv (encI .u8) 1 ((⟨x0⟩ : St120).Oper_.F_), .int .i64 ((⟨x0⟩ : St120).Oper_.W_), .int .i64 ((⟨x0⟩ : St120).Oper_.C_)]] []), (.int .u8 118, .fn (.func 99) [.agg [lsv (encI .u8) 1 ((⟨x0⟩ : St120).Oper_.I_), lsv (encI .u8) 1 ((⟨x0⟩ : St120).Oper_.F_), .int .i64 ((⟨x0⟩ : St120).Oper_.W_), .int .i64 ((⟨x0⟩ : St120).Oper_.C_)]] []), (.int .u8 119, .fn (.func 100) [.agg [lsv (encI .u8) 1 ((⟨x0⟩ : St120).Oper_.I_), lsv (encI .u8) 1 ((⟨x0⟩ : St120).Oper_.F_), .int .i64 ((⟨x0⟩ : St120).Oper_.W_), .int .i64 ((⟨x0⟩ : St120).Oper_.C_)]] []), (.int .u8 102, .fn (.func 101) [.agg [lsv (encI .u8) 1 ((⟨x0⟩ : St120).Oper_.I_), lsv (encI .u8) 1 ((⟨x0⟩ : St120).Oper_.F_), .int .i64 ((⟨x0⟩ : St120).Oper_.W_), .int .i64 ((⟨x0⟩ : St120).Oper_.C_)]] []), (.int .u8 116, .fn (.func 102) [.agg [lsv (encI .u8) 1 ((⟨x0⟩ : St120).Oper_.I_), lsv (encI .u8) 1 ((⟨x0⟩ : St120).Oper_.F_), .int .i64 ((⟨x0⟩ : St120).Oper_.W_), .int .i64 ((⟨x0⟩ : St120).Oper_.C_)]] []), (.int .u8 99, .fn (.func 103) [.agg [lsv (encI .u8) 1 ((⟨x0⟩ : St120).Oper_.I_), lsv (encI .u8) 1 ((⟨x0⟩ : St120).Oper_.F_), .int .i64 ((⟨x0⟩ : St120).Oper_.W_), .int .i64 ((⟨x0⟩ : St120).Oper_.C_)]] []), (.int .u8 101, .fn (.func 103) [.agg [lsv (encI .u8) 1 ((⟨x0⟩ : St120).Oper_.I_), lsv (encI .u8) 1 ((⟨x0⟩ : St120).Oper_.F_), .int .i64 ((⟨x0⟩ : St120).Oper_.W_), .int .i64 ((⟨x0⟩ : St120).Oper_.C_)]] [])]]) (by kernel_rfl) ?_
      obtain ⟨y35, hy36, h37⟩ := bindS h32
      refine kA 22 (oper_asked__short_ok hy36) ?_
      refine kC 4 [4,5] ?_
      refine kEN ?_
      refine kX ?_
      obtain rfl := oi h37
      exact kZ hFn hFH hFD
    ·have h25 := condT hb24 h19
     have hn27 := of_decide_eq_true hb24
     refine RJ.look (some 2) (d := some 16) (ef := ⟨.tup [.fn (.func 99) [.agg [lsv (encI .u8) 1 ((⟨x0⟩ : St120).Oper_.I_), lsv (encI .u8) 1 ((⟨x0⟩ : St120).Oper_.F_), .int .i64 ((⟨x0⟩ : St120).Oper_.W_), .int .i64 ((⟨x0⟩ : St120).Oper_.C_)]] [], .bool true], [1], []⟩) (c := hitC (.int .u8 x1) [(.int .u8 110, .fn (.func 97) [.agg [lsv (encI .u8) 1 ((⟨x0⟩ : St120).Oper_.I_), lsv (encI .u8) 1 ((⟨x0⟩ : St120).Oper_.F_), .int .i64 ((⟨x0⟩ : St120).Oper_.W_), .int .i64 ((⟨x0⟩ : St120).Oper_.C_)]] []), (.int .u8 105, .fn (.func 98) [.agg [lsv (encI .u8) 1 ((⟨x0⟩ : St120).Oper_.I_), lsv (encI .u8) 1 ((⟨x0⟩ : St120).Oper_.F_), .int .i64 ((⟨x0⟩ : St120).Oper_.W_), .int .i64 ((⟨x0⟩ : St120).Oper_.C_)]] []), (.int .u8 118, .fn (.func 99) [.agg [lsv (encI .u8) 1 ((⟨x0⟩ : St120).Oper_.I_), lsv (encI .u8) 1 ((⟨x0⟩ : St120).Oper_.F_), .int .i64 ((⟨x0⟩ : St120).Oper_.W_), .int .i64 ((⟨x0⟩ : St120).Oper_.C_)]] []), (.int .u8 119, .fn (.func 100) [.agg [lsv (encI .u8) 1 ((⟨x0⟩ : St120).Oper_.I_), lsv (encI .u8) 1 ((⟨x0⟩ : St120).Oper_.F_), .int .i64 ((⟨x0⟩ : St120).Oper_.W_), .int .i64 ((⟨x0⟩ : St120).Oper_.C_)]] []), (.int .u8 102, .fn (.func 101) [.agg [lsv (encI .u8) 1 ((⟨x0⟩ : St120).Oper_.I_), lsv (encI .u8) 1 ((⟨x0⟩ : St120).Oper_.F_), .int .i64 ((⟨x0⟩ : St120).Oper_.W_), .int .i64 ((⟨x0⟩ : St120).Oper_.C_)]] []), (.int .u8 116, .fn (.func 102) [.agg [lsv (encI .u8) 1 ((⟨x0⟩ : St120).Oper_.I_), lsv (encI .u8) 1 ((⟨x0⟩ : St120).Oper_.F_), .int .i64 ((⟨x0⟩ : St120).Oper_.W_), .int .i64 ((⟨x0⟩ : St120).Oper_.C_)]] []), (.int .u8 99, .fn (.func 103) [.agg [lsv (encI .u8) 1 ((⟨x0⟩ : St120).Oper_.I_), lsv (encI .u8) 1 ((⟨x0⟩ : St120).Oper_.F_), .int .i64 ((⟨x0⟩ : St120).Oper_.W_), .int .i64 ((⟨x0⟩ : St120).Oper_.C_)]] []), (.int .u8 101, .fn (.func 103) [.agg [lsv (encI .u8) 1 ((⟨x0⟩ : St120).Oper_.I_), lsv (encI .u8) 1 ((⟨x0⟩ : St120).Oper_.F_), .int .i64 ((⟨x0⟩ : St120).Oper_.W_), .int .i64 ((⟨x0⟩ : St120).Oper_.C_)]] [])] 2) (tr2 := []) (by kernel_rfl) (by simp [hitC, missC, sameB, sameE, hn13, hn20, hn27]) ?_
     refine kC 5 [4,5,6,7] ?_
     refine kEN ?_
     refine kS ?_
     refine kSR ?_
     refine kC 2 [4,5,6,20] ?_
     refine kEN ?_
     refine kF ?_
     refine kK ?_
     refine PJ.next ?_
     refine kSR ?_
     refine RJ.seg 1 [4, 5, 21] (L2 := [(4, .nl), (5, .bool false), (21, .fn (.func 99) [.agg [lsv (encI .u8) 1 ((⟨x0⟩ : St120).Oper_.I_), lsv (encI .u8) 1 ((⟨x0⟩ : St120).Oper_.F_), .int .i64 ((⟨x0⟩ : St120).Oper_.W_), .int .i64 ((⟨x0⟩ : St120).Oper_.C_)]] [])]) (H2 := [.box (encSt33 x0), .map [(.int .u8 110, .fn (.func 97) [.agg [lsv (encI .u8) 1 ((⟨x0⟩ : St120).Oper_.I_), lsv (encI .u8) 1 ((⟨x0⟩ : St120).Oper_.F_), .int .i64 ((⟨x0⟩ : St120).Oper_.W_), .int .i64 ((⟨x0⟩ : St120).Oper_.C_)]] []), (.int .u8 105, .fn (.func 98) [.agg [lsv (encI .u8) 1 ((⟨x0⟩ : St120).Oper_.I_), lsv (encI .u8) 1 ((⟨x0⟩ : St120).Oper_.F_), .int .i64 ((⟨x0⟩ : St120).Oper_.W_), .int .i64 ((⟨x0⟩ : St120).Oper_.C_)]] []), (.int .u8 118, .fn (.func 99) [.agg [lsv (encI .u8) 1 ((⟨x0⟩ : St120).Oper_.I_), lsv (encI .u8) 1 ((⟨x0⟩ : St120).Oper_.F_), .int .i64 ((⟨x0⟩ : St120).Oper_.W_), .int .i64 ((⟨x0⟩ : St120).Oper_.C_)]] []), (.int .u8 119, .fn (.func 100) [.agg [lsv (encI .u8) 1 ((⟨x0⟩ : St120).Oper_.I_), lsv (encI .u8) 1 ((⟨x0⟩ : St120).Oper_.F_), .int .i64 ((⟨x0⟩ : St120).Oper_.W_), .int .i64 ((⟨x0⟩ : St120).Oper_.C_)]] []), (.int .u8 102, .fn (.func 101) [.agg [lsv (encI .u8) 1 ((⟨x0⟩ : St120).Oper_.I_), lsv (encI .u8) 1 ((⟨x0⟩ : St120).Oper_.F_), .int .i64 ((⟨x0⟩ : St120).Oper_.W_), .int .i64 ((⟨x0⟩ : St120).Oper_.C_)]] []), (.int .u8 116, .fn (.func 102) [.agg [lsv (encI .u8) 1 ((⟨x0⟩ : St120).Oper_.I_), lsv (encI .u8) 1 ((⟨x0⟩ : St120).Oper_.F_), .int .i64 ((⟨x0⟩ : St120).Oper_.W_), .int .i64 ((⟨x0⟩ : St120).Oper_.C_)]] []), (.int .u8 99, .fn (.func 103) [.agg [lsv (encI .u8) 1 ((⟨x0⟩ : St120).Oper_.I_), lsv (encI .u8) 1 ((⟨x0⟩ : St120).Oper_.F_), .int .i64 ((⟨x0⟩ : St120).Oper_.W_), .int .i64 ((⟨x0⟩ : St120).Oper_.C_)]] []), (.int .u8 101, .fn (.func 103) [.agg [lsv (encI .u8) 1 ((⟨x0⟩ : St120).Oper_.I_), lsv (encI .u8) 1 ((⟨x0⟩ : St120).Oper_.F_), .int .i64 ((⟨x0⟩ : St120).Oper_.W_), .int .i64 ((⟨x0⟩ : St120).Oper_.C_)]] [])]]) (by kernel_rfl) ?_
     obtain ⟨y28, hy29, h30⟩ := bindS h25
     refine kA 22 (oper_asked__long_ok hy29) ?_
     refine kC 4 [4,5] ?_
     refine kEN ?_
     refine kX ?_
     obtain rfl := oi h30
     exact kZ hFn hFH hFD
   ·have h18 := condT hb17 h12
    have hn20 := of_decide_eq_true hb17
    refine RJ.look (some 1) (d := some 16) (ef := ⟨.tup [.fn (.func 98) [.agg [lsv (encI .u8) 1 ((⟨x0⟩ : St120).Oper_.I_), lsv (encI .u8) 1 ((⟨x0⟩ : St120).Oper_.F_), .int .i64 ((⟨x0⟩ : St120).Oper_.W_), .int .i64 ((⟨x0⟩ : St120).Oper_.C_)]] [], .bool true], [1], []⟩) (c := hitC (.int .u8 x1) [(.int .u8 110, .fn (.func 97) [.agg [lsv (encI .u8) 1 ((⟨x0⟩ : St120).Oper_.I_), lsv (encI .u8) 1 ((⟨x0⟩ : St120).Oper_.F_), .int .i64 ((⟨x0⟩ : St120).Oper_.W_), .int .i64 ((⟨x0⟩ : St120).Oper_.C_)]] []), (.int .u8 105, .fn (.func 98) [.agg [lsv (encI .u8) 1 ((⟨x0⟩ : St120).Oper_.I_), lsv (encI .u8) 1 ((⟨x0⟩ : St120).Oper_.F_), .int .i64 ((⟨x0⟩ : St120).Oper_.W_), .int .i64 ((⟨x0⟩ : St120).Oper_.C_)]] []), (.int .u8 118, .fn (.func 99) [.agg [lsv (encI .u8) 1 ((⟨x0⟩ : St120).Oper_.I_), lsv (encI .u8) 1 ((⟨x0⟩ : St120).Oper_.F_), .int .i64 ((⟨x0⟩ : St120).Oper_.W_), .int .i64 ((⟨x0⟩ : St120).Oper_.C_)]] []), (.int .u8 119, .fn (.func 100) [.agg [lsv (encI .u8) 1 ((⟨x0⟩ : St120).Oper_.I_), lsv (encI .u8) 1 ((⟨x0⟩ : St120).Oper_.F_), .int .i64 ((⟨x0⟩ : St120).Oper_.W_), .int .i64 ((⟨x0⟩ : St120).Oper_.C_)]] []), (.int .u8 102, .fn (.func 101) [.agg [lsv (encI .u8) 1 ((⟨x0⟩ : St120).Oper_.I_), lsv (encI .u8) 1 ((⟨x0⟩ : St120).Oper_.F_), .int .i64 ((⟨x0⟩ : St120).Oper_.W_), .int .i64 ((⟨x0⟩ : St120).Oper_.C_)]] []), (.int .u8 116, .fn (.func 102) [.agg [lsv (encI .u8) 1 ((⟨x0⟩ : St120).Oper_.I_), lsv (encI .u8) 1 ((⟨x0⟩ : St120).Oper_.F_), .int .i64 ((⟨x0⟩ : St120).Oper_.W_), .int .i64 ((⟨x0⟩ : St120).Oper_.C_)]] []), (.int .u8 99, .fn (.func 103) [.agg [lsv (encI .u8) 1 ((⟨x0⟩ : St120).Oper_.I_), lsv (encI .u8) 1 ((⟨x0⟩ : St120).Oper_.F_), .int .i64 ((⟨x0⟩ : St120).Oper_.W_), .int .i64 ((⟨x0⟩ : St120).Oper_.C_)]] []), (.int .u8 101, .fn (.func 103) [.agg [lsv (encI .u8) 1 ((⟨x0⟩ : St120).Oper_.I_), lsv (encI .u8) 1 ((⟨x0⟩ : St120).Oper_.F_), .int .i64 ((⟨x0⟩ : St120).Oper_.W_), .int .i64 ((⟨x0⟩ : St120).Oper_.C_)]] [])] 1) (tr2 := []) (by kernel_rfl) (by simp [hitC, missC, sameB, sameE, hn13, hn20]) ?_
    refine kC 5 [4,5,6,7] ?_
    refine kEN ?_
    refine kS ?_
    refine kSR ?_
    refine kC 2 [4,5,6,20] ?_
    refine kEN ?_
    refine kF ?_
    refine kK ?_
    refine PJ.next ?_
    refine kSR ?_
    refine RJ.seg 1 [4, 5, 21] (L2 := [(4, .nl), (5, .bool false), (21, .fn (.func 98) [.agg [lsv (encI .u8) 1 ((⟨x0⟩ : St120).Oper_.I_), lsv (encI .u8) 1 ((⟨x0⟩ : St120).Oper_.F_), .int .i64 ((⟨x0⟩ : St120).Oper_.W_), .int .i64 ((⟨x0⟩ : St120).Oper_.C_)]] [])]) (H2 := [.box (encSt33 x0), .map [(.int .u8 110, .fn (.func 97) [.agg [lsv (encI .u8) 1 ((⟨x0⟩ : St120).Oper_.I_), lsv (encI .u8) 1 ((⟨x0⟩ : St120).Oper_.F_), .int .i64 ((⟨x0⟩ : St120).Oper_.W_), .int .i64 ((⟨x0⟩ : St120).Oper_.C_)]] []), (.int .u8 105, .fn (.func 98) [.agg [lsv (encI .u8) 1 ((⟨x0⟩ : St120).Oper_.I_), lsv (encI .u8) 1 ((⟨x0⟩ : St120).Oper_.F_), .int .i64 ((⟨x0⟩ : St120).Oper_.W_), .int .i64 ((⟨x0⟩ : St120).Oper_.C_)]] []), (.int .u8 118, .fn (.func 99) [.agg [lsv (encI .u8) 1 ((⟨x0⟩ : St120).Oper_.I_), lsv (encI .u8) 1 ((⟨x0⟩ : St120).Oper_.F_), .int .i64 ((⟨x0⟩ : St120).Oper_.W_), .int .i64 ((⟨x0⟩ : St120).Oper_.C_)]] []), (.int .u8 119, .fn (.func 100) [.agg [lsv (encI .u8) 1 ((⟨x0⟩ : St120).Oper_.I_), lsv (encI .u8) 1 ((⟨x0⟩ : St120).Oper_.F_), .int .i64 ((⟨x0⟩ : St120).Oper_.W_), .int .i64 ((⟨x0⟩ : St120).Oper_.C_)]] []), (.int .u8 102, .fn (.func 101) [.agg [lsv (encI .u8) 1 ((⟨x0⟩ : St120).Oper_.I_), lsv (encI .u8) 1 ((⟨x0⟩ : St120).Oper_.F_), .int .i64 ((⟨x0⟩ : St120).Oper_.W_), .int .i64 ((⟨x0⟩ : St120).Oper_.C_)]] []), (.int .u8 116, .fn (.func 102) [.agg [lsv (encI .u8) 1 ((⟨x0⟩ : St120).Oper_.I_), lsv (encI .u8) 1 ((⟨x0⟩ : St120).Oper_.F_), .int .i64 ((⟨x0⟩ : St120).Oper_.W_), .int .i64 ((⟨x0⟩ : St120).Oper_.C_)]] []), (.int .u8 99, .fn (.func 103) [.agg [lsv (encI .u8) 1 ((⟨x0⟩ : St120).Oper_.I_), lsv (encI .u8) 1 ((⟨x0⟩ : St120).Oper_.F_), .int .i64 ((⟨x0⟩ : St120).Oper_.W_), .int .i64 ((⟨x0⟩ : St120).Oper_.C_)]] []), (.int .u8 101, .fn (.func 103) [.agg [lsv (encI .u8) 1 ((⟨x0⟩ : St120).Oper_.I_), lsv (encI .u8) 1 ((⟨x0⟩ : St120).Oper_.F_), .int .i64 ((⟨x0⟩ : St120).Oper_.W_), .int .i64 ((⟨x0⟩ : St120).Oper_.C_)]] [])]]) (by kernel_rfl) ?_
    obtain ⟨y21, hy22, h23⟩ := bindS h18
    refine kA 22 (oper_asked__whole_ok hy22) ?_
    refine kC 4 [4,5] ?_
    refine kEN ?_
    refine kX ?_
    obtain rfl := oi h23
    exact kZ hFn hFH hFD
  ·have h11 := condT hb10 h9
   have hn13 := of_decide_eq_true hb10
   refine RJ.look (some 0) (d := some 16) (ef := ⟨.tup [.fn (.func 97) [.agg [lsv (encI .u8) 1 ((⟨x0⟩ : St120).Oper_.I_), lsv (encI .u8) 1 ((⟨x0⟩ : St120).Oper_.F_), .int .i64 ((⟨x0⟩ : St120).Oper_.W_), .int .i64 ((⟨x0⟩ : St120).Oper_.C_)]] [], .bool true], [1], []⟩) (c := hitC (.int .u8 x1) [(.int .u8 110, .fn (.func 97) [.agg [lsv (encI .u8) 1 ((⟨x0⟩ : St120).Oper_.I_), lsv (encI .u8) 1 ((⟨x0⟩ : St120).Oper_.F_), .int .i64 ((⟨x0⟩ : St120).Oper_.W_), .int .i64 ((⟨x0⟩ : St120).Oper_.C_)]] []), (.int .u8 105, .fn (.func 98) [.agg [lsv (encI .u8) 1 ((⟨x0⟩ : St120).Oper_.I_), lsv (encI .u8) 1 ((⟨x0⟩ : St120).Oper_.F_), .int .i64 ((⟨x0⟩ : St120).Oper_.W_), .int .i64 ((⟨x0⟩ : St120).Oper_.C_)]] []), (.int .u8 118, .fn (.func 99) [.agg [lsv (encI .u8) 1 ((⟨x0⟩ : St120).Oper_.I_), lsv (encI .u8) 1 ((⟨x0⟩ : St120).Oper_.F_), .int .i64 ((⟨x0⟩ : St120).Oper_.W_), .int .i64 ((⟨x0⟩ : St120).Oper_.C_)]] []), (.int .u8 119, .fn (.func 100) [.agg [lsv (encI .u8) 1 ((⟨x0⟩ : St120).Oper_.I_), lsv (encI .u8) 1 ((⟨x0⟩ : St120).Oper_.F_), .int .i64 ((⟨x0⟩ : St120).Oper_.W_), .int .i64 ((⟨x0⟩ : St120).Oper_.C_)]] []), (.int .u8 102, .fn (.func 101) [.agg [lsv (encI .u8) 1 ((⟨x0⟩ : St120).Oper_.I_), lsv (encI .u8) 1 ((⟨x0⟩ : St120).Oper_.F_), .int .i64 ((⟨x0⟩ : St120).Oper_.W_), .int .i64 ((⟨x0⟩ : St120).Oper_.C_)]] []), (.int .u8 116, .fn (.func 102) [.agg [lsv (encI .u8) 1 ((⟨x0⟩ : St120).Oper_.I_), lsv (encI .u8) 1 ((⟨x0⟩ : St120).Oper_.F_), .int .i64 ((⟨x0⟩ : St120).Oper_.W_), .int .i64 ((⟨x0⟩ : St120).Oper_.C_)]] []), (.int .u8 99, .fn (.func 103) [.agg [lsv (encI .u8) 1 ((⟨x0⟩ : St120).Oper_.I_), lsv (encI .u8) 1 ((⟨x0⟩ : St120).Oper_.F_), .int .i64 ((⟨x0⟩ : St120).Oper_.W_), .int .i64 ((⟨x0⟩ : St120).Oper_.C_)]] []), (.int .u8 101, .fn (.func 103) [.agg [lsv (encI .u8) 1 ((⟨x0⟩ : St120).Oper_.I_), lsv (encI .u8) 1 ((⟨x0⟩ : St120).Oper_.F_), .int .i64 ((⟨x0⟩ : St120).Oper_.W_), .int .i64 ((⟨x0⟩ : St120).Oper_.C_)]] [])] 0) (tr2 := []) (by kernel_rfl) (by simp [hitC, missC, sameB, sameE, hn13]) ?_
   refine kC 5 [4,5,6,7] ?_
   refine kEN ?_
   refine kS ?_
   refine kSR ?_
   refine kC 2 [4,5,6,20] ?_
   refine kEN ?_
   refine kF ?_
   refine kK ?_
   refine PJ.next ?_
   refine kSR ?_
   refine RJ.seg 1 [4, 5, 21] (L2 := [(4, .nl), (5, .bool false), (21, .fn (.func 97) [.agg [lsv (encI .u8) 1 ((⟨x0⟩ : St120).Oper_.I_), lsv (encI .u8) 1 ((⟨x0⟩ : St120).Oper_.F_), .int .i64 ((⟨x0⟩ : St120).Oper_.W_), .int .i64 ((⟨x0⟩ : St120).Oper_.C_)]] [])]) (H2 := [.box (encSt33 x0), .map [(.int .u8 110, .fn (.func 97) [.agg [lsv (encI .u8) 1 ((⟨x0⟩ : St120).Oper_.I_), lsv (encI .u8) 1 ((⟨x0⟩ : St120).Oper_.F_), .int .i64 ((⟨x0⟩ : St120).Oper_.W_), .int .i64 ((⟨x0⟩ : St120).Oper_.C_)]] []), (.int .u8 105, .fn (.func 98) [.agg [lsv (encI .u8) 1 ((⟨x0⟩ : St120).Oper_.I_), lsv (encI .u8) 1 ((⟨x0⟩ : St120).Oper_.F_), .int .i64 ((⟨x0⟩ : St120).Oper_.W_), .int .i64 ((⟨x0⟩ : St120).Oper_.C_)]] []), (.int .u8 118, .fn (.func 99) [.agg [lsv (encI .u8) 1 ((⟨x0⟩ : St120).Oper_.I_), lsv (encI .u8) 1 ((⟨x0⟩ : St120).Oper_.F_), .int .i64 ((⟨x0⟩ : St120).Oper_.W_), .int .i64 ((⟨x0⟩ : St120).Oper_.C_)]] []), (.int .u8 119, .fn (.func 100) [.agg [lsv (encI .u8) 1 ((⟨x0⟩ : St120).Oper_.I_), lsv (encI .u8) 1 ((⟨x0⟩ : St120).Oper_.F_), .int .i64 ((⟨x0⟩ : St120).Oper_.W_), .int .i64 ((⟨x0⟩ : St120).Oper_.C_)]] []), (.int .u8 102, .fn (.func 101) [.agg [lsv (encI .u8) 1 ((⟨x0⟩ : St120).Oper_.I_), lsv (encI .u8) 1 ((⟨x0⟩ : St120).Oper_.F_), .int .i64 ((⟨x0⟩ : St120).Oper_.W_), .int .i64 ((⟨x0⟩ : St120).Oper_.C_)]] []), (.int .u8 116, .fn (.func 102) [.agg [lsv (encI .u8) 1 ((⟨x0⟩ : St120).Oper_.I_), lsv (encI .u8) 1 ((⟨x0⟩ : St120).Oper_.F_), .int .i64 ((⟨x0⟩ : St120).Oper_.W_), .int .i64 ((⟨x0⟩ : St120).Oper_.C_)]] []), (.int .u8 99, .fn (.func 103) [.agg [lsv (encI .u8) 1 ((⟨x0⟩ : St120).Oper_.I_), lsv (encI .u8) 1 ((⟨x0⟩ : St120).Oper_.F_), .int .i64 ((⟨x0⟩ : St120).Oper_.W_), .int .i64 ((⟨x0⟩ : St120).Oper_.C_)]] []), (.int .u8 101, .fn (.func 103) [.agg [lsv (encI .u8) 1 ((⟨x0⟩ : St120).Oper_.I_), lsv (encI .u8) 1 ((⟨x0⟩ : St120).Oper_.F_), .int .i64 ((⟨x0⟩ : St120).Oper_.W_), .int .i64 ((⟨x0⟩ : St120).Oper_.C_)]] [])]]) (by kernel_rfl) ?_
   obtain ⟨y14, hy15, h16⟩ := bindS h11
   refine kA 22 (oper_asked__number_ok hy15) ?_
   refine kC 4 [4,5] ?_
   refine kEN ?_
   refine kX ?_
   obtain rfl := oi h16
   exact kZ hFn hFH hFD
def oper_Mod (x0 : List Int) (x1 : Int) : Option (Int) :=
 (Option.bind (Option.bind (bif (decide (x1 < 1)) then (some true) else (some (decide (x1 > 1000000000)))) fun (s24 : Bool) => (bif s24 then (some (.inr 0)) else (some (.inl ())))) (joinX fun (s16 : Unit) => (Option.bind (loopN (fun (s65 : Int × Int) => (bif (decide (s65.2 < (x0.length : Int))) then (bif inR s65.2 x0.length then (bif nz x1 then (some (.inl ((Int.tmod ((IntKind.wrap .i64 ((IntKind.wrap .i64 (s65.1 * 10)) + (IntKind.wrap .i64 (nth x0 s65.2))))) x1), (IntKind.wrap .i64 (s65.2 + 1))))) else none) else none) else (some (.inr s65.1)))) big (0, 0)) fun (s60 : Int) => (some s60))))
theorem oper_Mod_ok {x0 : List Int} {x1 : Int} {r : Int} (h : oper_Mod x0 x1 = some r) : SC Tryz.prog 88 [lsv (encI .u8) 1 x0, .int .i64 x1] [] (.int .i64 r) [] := by
 refine kFn (fn := Tryz.f88) (fun F hFn hFH hFD => ?_)
 unfold oper_Mod at h
 refine kSR ?_
 refine kC 1 [0,1,4] ?_
 refine kEN ?_
 obtain ⟨y17, hy18, h19⟩ := bindS h
 refine K.cutX (by kernel_rfl) (fun (s16 : Unit) => ([(0, lsv (encI .u8) 1 x0), (1, .int .i64 x1), (4, .int .i64 0)], [])) y17 ?_ (fun s16 hs => ?_)
 ·obtain ⟨s24, hy26, h28⟩ := bindS hy18
  refine K.cutN (by kernel_rfl) (fun (s24 : Bool) => ([(0, lsv (encI .u8) 1 x0), (1, .int .i64 x1), (4, .int .i64 0), (13, .bool s24)], [])) s24 ?_ ?_
  ·refine kR ?_
   refine kC 3 [0,1,4,10] ?_
   refine kB 10 hy26 (fun h30 => ?_) (fun h31 => ?_)
   ·refine kC 3 [0,1,4,13] ?_
    refine kE ?_
    obtain rfl := oi h30
    exact kN [0, 1, 4, 13]
   ·refine kC 3 [0,1,4,13] ?_
    refine kE ?_
    obtain rfl := oi h31
    exact kN [0, 1, 4, 13]
  ·refine kBJ 13 h28 (fun h33 => ?_) (fun h34 => ?_)
   ·refine kT ?_
    refine kSR ?_
    refine kC 1 [0,1,4] ?_
    refine kEN ?_
    refine kX ?_
    obtain rfl := oi h33
    have h35 := joinX_inr h19
    refine PJ.cutXr (fun e => nomatch e) ?_
    obtain rfl := oi h35
    exact kZ hFn hFH hFD
   ·refine kF ?_
    refine kK ?_
    obtain rfl := oi h34
    exact PJ.cutXl [0, 1, 4] (by kernel_rfl) (by kernel_rfl)
 ·subst hs
  have h20 := joinX_inl h19
  refine kSR ?_
  refine kC 1 [0,1,4,5] ?_
  refine kEN ?_
  obtain ⟨s60, hy62, h64⟩ := bindS h20
  refine K.cutN (by kernel_rfl) (fun (s60 : Int) => ([(4, .int .i64 0), (5, .int .i64 s60)], [])) s60 ?_ ?_
  ·refine kSR ?_
   refine kC 3 [1,4,5,14,15,16] ?_
   refine kEN ?_
   refine K.block 0 (by kernel_rfl) ?_
   refine K.loop (by kernel_rfl) (fun (s65 : Int × Int) => ([(1, .int .i64 x1), (4, .int .i64 0), (5, .int .i64 s65.1), (14, lsv (encI .u8) 1 x0), (15, .int .i64 (x0.length : Int)), (16, .int .i64 s65.2)], [])) hy62 [1, 4, 5, 14, 15, 16] (by kernel_rfl) (by kernel_rfl) (fun s65 x81 hs80 => ?_)
   refine kSR ?_
   refine kC 1 [1,4,5,14,15,16,17] ?_
   refine kEN ?_
   refine kS ?_
   refine kBJ 17 hs80 (fun h83 => ?_) (fun h84 => ?_)
   ·refine kT ?_
    refine kK ?_
    refine PJ.next ?_
    refine kS ?_
    refine K.block 1 (by kernel_rfl) ?_
    refine kSR ?_
    obtain ⟨hm, h85⟩ := asrt h83
    refine kI 18 (encI_len .u8) hm ?_
    refine kC 2 [1,4,5,7,14,15,16] ?_
    refine kEN ?_
    refine kR ?_
    refine kC 6 [1,4,5,14,15,16,24,25] ?_
    obtain ⟨hm, h86⟩ := asrt h85
    refine RJ.rel (d := (some 26)) (ef := ⟨.int .i64 (Int.tmod ((IntKind.wrap .i64 ((IntKind.wrap .i64 (s65.1 * 10)) + (IntKind.wrap .i64 (nth x0 s65.2))))) x1), [], []⟩) (ef' := ⟨.int .i64 (Int.tmod ((IntKind.wrap .i64 ((IntKind.wrap .i64 (s65.1 * 10)) + (IntKind.wrap .i64 (nth x0 s65.2))))) x1), [], []⟩) (c := nz x1) (tr2 := []) (H2 := []) (by kernel_rfl) hm (fun hc => rfl) (by kernel_rfl) ?_
    refine RJ.seg 1 [1, 4, 5, 14, 15, 16] (L2 := [(1, .int .i64 x1), (4, .int .i64 0), (5, .int .i64 ((Int.tmod ((IntKind.wrap .i64 ((IntKind.wrap .i64 (s65.1 * 10)) + (IntKind.wrap .i64 (nth x0 s65.2))))) x1))), (14, lsv (encI .u8) 1 x0), (15, .int .i64 (x0.length : Int)), (16, .int .i64 s65.2)]) (H2 := []) (by kernel_rfl) ?_
    refine kE ?_
    refine PJ.blockNormal ?_
    refine PJ.next ?_
    refine kR ?_
    refine kC 2 [1,4,5,14,15,16] ?_
    refine kE ?_
    obtain rfl := oi h86
    exact PJ.loopNext [1, 4, 5, 14, 15, 16] (by kernel_rfl) (by kernel_rfl)
   ·refine kF ?_
    refine K.exit 0 (by kernel_rfl) ?_
    refine PJ.passExit ?_
    obtain rfl := oi h84
    refine PJ.loopOut (fun e => nomatch e) (fun he88 => ?_)
    have h87 := congrArg some he88
    refine PJ.blockOut ?_
    obtain rfl := oi h87
    exact kN [4, 5]
  ·refine kSR ?_
   refine kC 2 [4] ?_
   refine kEN ?_
   refine kX ?_
   obtain rfl := oi h64
   exact kZ hFn hFH hFD
def rule_holding_s0 (x0 : List Int) (x1 : Int) : Option (Unit ⊕ Int) :=
 (bif (decide (x1 = 0)) then (some (.inl ())) else (Option.bind (oper_Mod x0 x1) fun y4 => (some (.inr y4))))
theorem rule_holding_s0_ok0 {x0 : List Int} {x1 : Int} {r : Unit} (h : rule_holding_s0 x0 x1 = some (.inl r)) : SC Tryz.prog 76 [lsv (encI .u8) 1 x0, .int .i64 x1] [] (.fn (.func 86) [] [.ptr 0 0]) [.box [lsv (encI .u8) 1 x0]] := by
 refine kFn (fn := Tryz.f76) (fun F hFn hFH hFD => ?_)
 unfold rule_holding_s0 at h
 refine kSR ?_
 refine kC 2 [1,2] ?_
 refine kEN ?_
 refine kS ?_
 refine kSR ?_
 refine kC 2 [1,2,7] ?_
 refine kEN ?_
 refine kBJ 7 h (fun h2 => ?_) (fun h3 => ?_)
 ·refine kT ?_
  refine kSR ?_
  refine kC 2 [1,2,4] ?_
  refine kEN ?_
  refine kX ?_
  refine PJ.passRet ?_
  obtain rfl := Sum.inl.inj (Option.some.inj h2)
  exact K.retV (H0 := []) [0] (.inr rfl) hFn hFH hFD (by kernel_rfl) (v1 := .fn (.func 86) [] [.ptr 0 0]) (by kernel_rfl) (by kernel_rfl) (by kernel_rfl) (by decide) (by kernel_rfl) (by kernel_rfl) (by kernel_rfl) (by kernel_rfl) (by kernel_rfl)
 ·refine kF ?_
  refine kK ?_
  refine PJ.next ?_
  refine kSR ?_
  refine kC 2 [9,10] ?_
  obtain ⟨y4, hy5, h6⟩ := bindS h3
  refine kA 11 (oper_Mod_ok hy5) ?_
  refine RJ.seg 2 [5] (L2 := [(5, .ptr 1 0)]) (H2 := [.box [lsv (encI .u8) 1 x0], .box [.int .i64 y4]]) (by kernel_rfl) ?_
  refine kEN ?_
  refine kSR ?_
  refine kC 2 [4] ?_
  refine kEN ?_
  refine kX ?_
  cases h6
theorem rule_holding_s0_ok1 {x0 : List Int} {x1 : Int} {r : Int} (h : rule_holding_s0 x0 x1 = some (.inr r)) : SC Tryz.prog 76 [lsv (encI .u8) 1 x0, .int .i64 x1] [] (.fn (.func 89) [] [.ptr 0 0]) [.box [.int .i64 r]] := by
 refine kFn (fn := Tryz.f76) (fun F hFn hFH hFD => ?_)
 unfold rule_holding_s0 at h
 refine kSR ?_
 refine kC 2 [1,2] ?_
 refine kEN ?_
 refine kS ?_
 refine kSR ?_
 refine kC 2 [1,2,7] ?_
 refine kEN ?_
 refine kBJ 7 h (fun h2 => ?_) (fun h3 => ?_)
 ·refine kT ?_
  refine kSR ?_
  refine kC 2 [1,2,4] ?_
  refine kEN ?_
  refine kX ?_
  refine PJ.passRet ?_
  cases h2
 ·refine kF ?_
  refine kK ?_
  refine PJ.next ?_
  refine kSR ?_
  refine kC 2 [9,10] ?_
  obtain ⟨y4, hy5, h6⟩ := bindS h3
  refine kA 11 (oper_Mod_ok hy5) ?_
  refine RJ.seg 2 [5] (L2 := [(5, .ptr 1 0)]) (H2 := [.box [lsv (encI .u8) 1 x0], .box [.int .i64 y4]]) (by kernel_rfl) ?_
  refine kEN ?_
  refine kSR ?_
  refine kC 2 [4] ?_
  refine kEN ?_
  refine kX ?_
  obtain rfl := Sum.inr.inj (Option.some.inj h6)
  exact K.retV (H0 := []) [1] (.inr rfl) hFn hFH hFD (by kernel_rfl) (v1 := .fn (.func 89) [] [.ptr 1 0]) (by kernel_rfl) (by kernel_rfl) (by kernel_rfl) (by decide) (by kernel_rfl) (by kernel_rfl) (by kernel_rfl) (by kernel_rfl) (by kernel_rfl)
def oper_In (x0 : List Int) (x1 : Int) (x2 : Int) : Option (Bool) :=
 (Option.bind (oper_strip x0) fun y1 => (Option.bind (Option.bind (bif (decide ((y1.length : Int) > 19)) then (some true) else (some (decide (x2 < 0)))) fun (s27 : Bool) => (bif s27 then (some (.inr false)) else (some (.inl ())))) (joinX fun (s19 : Unit) => (Option.bind (loopN (fun (s65 : Int × Int) => (bif (decide (s65.2 < (y1.length : Int))) then (bif inR s65.2 y1.length then (some (.inl ((IntKind.wrap .u64 ((IntKind.wrap .u64 (s65.1 * 10)) + (IntKind.wrap .u64 (nth y1 s65.2)))), (IntKind.wrap .i64 (s65.2 + 1))))) else none) else (some (.inr s65.1)))) big (0, 0)) fun (s60 : Int) => (Option.bind (bif (decide (s60 ≤ (IntKind.wrap .u64 x2))) then (some ((decide (s60 ≥ (IntKind.wrap .u64 (maxI x1 0)))))) else (some false)) fun (s89 : Bool) => (some s89))))))
theorem oper_In_ok {x0 : List Int} {x1 : Int} {x2 : Int} {r : Bool} (h : oper_In x0 x1 x2 = some r) : SC Tryz.prog 87 [lsv (encI .u8) 1 x0, .int .i64 x1, .int .i64 x2] [] (.bool r) [] := by
 refine kFn (fn := Tryz.f87) (fun F hFn hFH hFD => ?_)
 unfold oper_In at h
 refine kSR ?_
 refine kC 1 [0,1,2,6] ?_
 refine kEN ?_
 refine kSR ?_
 refine kC 1 [0,1,2,6,10] ?_
 obtain ⟨y1, hy2, h3⟩ := bindS h
 refine kA 11 (oper_strip_ok hy2) ?_
 refine kC 1 [0,1,2,6] ?_
 refine kEN ?_
 obtain ⟨y20, hy21, h22⟩ := bindS h3
 refine K.cutX (by kernel_rfl) (fun (s19 : Unit) => ([(0, lsv (encI .u8) 1 y1), (1, .int .i64 x1), (2, .int .i64 x2), (6, .bool false)], [])) y20 ?_ (fun s19 hs => ?_)
 ·obtain ⟨s27, hy29, h31⟩ := bindS hy21
  refine K.cutN (by kernel_rfl) (fun (s27 : Bool) => ([(0, lsv (encI .u8) 1 y1), (1, .int .i64 x1), (2, .int .i64 x2), (6, .bool false), (18, .bool s27)], [])) s27 ?_ ?_
  ·refine kR ?_
   refine RJ.seg 4 [0, 1, 2, 6, 15] (L2 := [(0, lsv (encI .u8) 1 y1), (1, .int .i64 x1), (2, .int .i64 x2), (6, .bool false), (15, .bool ((decide ((y1.length : Int) > 19))))]) (H2 := []) (by kernel_rfl) ?_
   refine kB 15 hy29 (fun h33 => ?_) (fun h34 => ?_)
   ·refine kC 3 [0,1,2,6,18] ?_
    refine kE ?_
    obtain rfl := oi h33
    exact kN [0, 1, 2, 6, 18]
   ·refine kC 3 [0,1,2,6,18] ?_
    refine kE ?_
    obtain rfl := oi h34
    exact kN [0, 1, 2, 6, 18]
  ·refine kBJ 18 h31 (fun h36 => ?_) (fun h37 => ?_)
   ·refine kT ?_
    refine kSR ?_
    refine kC 1 [0,1,2,6] ?_
    refine kEN ?_
    refine kX ?_
    obtain rfl := oi h36
    have h38 := joinX_inr h22
    refine PJ.cutXr (fun e => nomatch e) ?_
    obtain rfl := oi h38
    exact kZ hFn hFH hFD
   ·refine kF ?_
    refine kK ?_
    obtain rfl := oi h37
    exact PJ.cutXl [0, 1, 2, 6] (by kernel_rfl) (by kernel_rfl)
 ·subst hs
  have h23 := joinX_inl h22
  refine kSR ?_
  refine kC 1 [0,1,2,6,7] ?_
  refine kEN ?_
  obtain ⟨s60, hy62, h64⟩ := bindS h23
  refine K.cutN (by kernel_rfl) (fun (s60 : Int) => ([(1, .int .i64 x1), (2, .int .i64 x2), (6, .bool false), (7, .int .u64 s60)], [])) s60 ?_ ?_
  ·refine kSR ?_
   refine kC 3 [1,2,6,7,19,20,21] ?_
   refine kEN ?_
   refine K.block 0 (by kernel_rfl) ?_
   refine K.loop (by kernel_rfl) (fun (s65 : Int × Int) => ([(1, .int .i64 x1), (2, .int .i64 x2), (6, .bool false), (7, .int .u64 s65.1), (19, lsv (encI .u8) 1 y1), (20, .int .i64 (y1.length : Int)), (21, .int .i64 s65.2)], [])) hy62 [1, 2, 6, 7, 19, 20, 21] (by kernel_rfl) (by kernel_rfl) (fun s65 x79 hs78 => ?_)
   refine kSR ?_
   refine kC 1 [1,2,6,7,19,20,21,22] ?_
   refine kEN ?_
   refine kS ?_
   refine kBJ 22 hs78 (fun h81 => ?_) (fun h82 => ?_)
   ·refine kT ?_
    refine kK ?_
    refine PJ.next ?_
    refine kS ?_
    refine K.block 1 (by kernel_rfl) ?_
    refine kSR ?_
    obtain ⟨hm, h83⟩ := asrt h81
    refine kI 23 (encI_len .u8) hm ?_
    refine kC 2 [1,2,6,7,9,19,20,21] ?_
    refine kEN ?_
    refine kR ?_
    refine kC 6 [1,2,6,7,19,20,21] ?_
    refine kE ?_
    refine PJ.blockNormal ?_
    refine PJ.next ?_
    refine kR ?_
    refine RJ.seg 2 [1, 2, 6, 7, 19, 20, 21] (L2 := [(1, .int .i64 x1), (2, .int .i64 x2), (6, .bool false), (7, .int .u64 ((IntKind.wrap .u64 ((IntKind.wrap .u64 (s65.1 * 10)) + (IntKind.wrap .u64 (nth y1 s65.2)))))), (19, lsv (encI .u8) 1 y1), (20, .int .i64 (y1.length : Int)), (21, .int .i64 (IntKind.wrap .i64 (s65.2 + 1)))]) (H2 := []) (by kernel_rfl) ?_
    refine kE ?_
    obtain rfl := oi h83
    exact PJ.loopNext [1, 2, 6, 7, 19, 20, 21] (by kernel_rfl) (by kernel_rfl)
   ·refine kF ?_
    refine K.exit 0 (by kernel_rfl) ?_
    refine PJ.passExit ?_
    obtain rfl := oi h82
    refine PJ.loopOut (fun e => nomatch e) (fun he85 => ?_)
    have h84 := congrArg some he85
    refine PJ.blockOut ?_
    obtain rfl := oi h84
    exact kN [1, 2, 6, 7]
  ·obtain ⟨s89, hy91, h93⟩ := bindS h64
   refine K.cutN (by kernel_rfl) (fun (s89 : Bool) => ([(6, .bool s89)], [])) s89 ?_ ?_
   ·refine kR ?_
    refine kC 5 [1,6,7,35] ?_
    refine kB 35 hy91 (fun h95 => ?_) (fun h96 => ?_)
    ·refine kC 7 [6] ?_
     refine kE ?_
     obtain rfl := oi h95
     exact kN [6]
    ·refine kC 7 [6] ?_
     refine kE ?_
     obtain rfl := oi h96
     exact kN [6]
   ·refine kX ?_
    obtain rfl := oi h93
    exact kZ hFn hFH hFD
def rule_holding_1_s0 (x0 : St80) (x1 : List Int) : Option (Bool) :=
 (Option.bind (oper_In x1 x0.a0_ x0.a1_) fun y1 => (some y1))
theorem rule_holding_1_s0_ok {x0 : St80} {x1 : List Int} {r : Bool} (h : rule_holding_1_s0 x0 x1 = some r) : SC Tryz.prog 86 [.agg (encSt80 x0), .ptr 0 0] [.box [lsv (encI .u8) 1 x1]] (.bool r) [.box [lsv (encI .u8) 1 x1]] := by
 refine kFn (fn := Tryz.f86) (fun F hFn hFH hFD => ?_)
 unfold rule_holding_1_s0 at h
 refine kSR ?_
 refine kC 2 [1,2,3] ?_
 refine kEN ?_
 refine kSR ?_
 refine kC 5 [3,4,6,8] ?_
 obtain ⟨y1, hy2, h3⟩ := bindS h
 refine kA 9 (oper_In_ok hy2) ?_
 refine kC 1 [3] ?_
 refine kEN ?_
 refine kX ?_
 obtain rfl := oi h3
 exact K.retV (H0 := [.box [lsv (encI .u8) 1 x1]]) [0] (.inr rfl) hFn hFH hFD (by kernel_rfl) (v1 := .bool y1) (by kernel_rfl) (by kernel_rfl) (by kernel_rfl) (by decide) (by kernel_rfl) (by kernel_rfl) (by kernel_rfl) (by kernel_rfl) (by kernel_rfl)
def slices_IndexFunc_s0 (x0 : List St80) (x1 : List Int) : Option (Int) :=
 (Option.bind (loopN (fun (s54 : Int) => (bif (decide (s54 < (x0.length : Int))) then (bif inR s54 x0.length then (Option.bind (rule_holding_1_s0 (nth x0 s54) x1) fun y91 => (bif y91 then (some (.inr (.inr s54))) else (some (.inl (IntKind.wrap .i64 (s54 + 1)))))) else none) else (some (.inr (.inl ()))))) big 0) (joinX fun (s49 : Unit) => (some (-1))))
theorem slices_IndexFunc_s0_ok {x0 : List St80} {x1 : List Int} {r : Int} (h : slices_IndexFunc_s0 x0 x1 = some r) : SC Tryz.prog 85 [lsv encSt80 2 x0, .fn (.func 86) [] [.ptr 0 0]] [.box [lsv (encI .u8) 1 x1]] (.int .i64 r) [.box [lsv (encI .u8) 1 x1]] := by
 refine kFn (fn := Tryz.f85) (fun F hFn hFH hFD => ?_)
 unfold slices_IndexFunc_s0 at h
 refine kSR ?_
 refine kC 1 [0,1,4] ?_
 refine kEN ?_
 obtain ⟨y50, hy51, h52⟩ := bindS h
 refine K.cutX (by kernel_rfl) (fun (s49 : Unit) => ([(4, .int .i64 0)], [.box [lsv (encI .u8) 1 x1]])) y50 ?_ (fun s49 hs => ?_)
 ·refine kSR ?_
  refine kC 3 [0,1,4,7,8] ?_
  refine kEN ?_
  refine K.block 0 (by kernel_rfl) ?_
  refine K.loop (by kernel_rfl) (fun (s54 : Int) => ([(0, lsv encSt80 2 x0), (1, .fn (.func 86) [] [.ptr 0 0]), (4, .int .i64 0), (7, .int .i64 (x0.length : Int)), (8, .int .i64 s54)], [.box [lsv (encI .u8) 1 x1]])) hy51 [0, 1, 4, 7, 8] (by kernel_rfl) (by kernel_rfl) (fun s54 x86 hs85 => ?_)
  refine kSR ?_
  refine kC 1 [0,1,4,7,8,9] ?_
  refine kEN ?_
  refine kS ?_
  refine kBJ 9 hs85 (fun h88 => ?_) (fun h89 => ?_)
  ·refine kT ?_
   refine kK ?_
   refine PJ.next ?_
   refine kS ?_
   refine K.block 1 (by kernel_rfl) ?_
   refine kSR ?_
   refine kC 2 [0,1,4,5,7,8] ?_
   refine kEN ?_
   refine kSR ?_
   refine kC 3 [0,1,4,5,7,8,11,12,13] ?_
   obtain ⟨hm, h90⟩ := asrt h88
   refine kI 14 encSt80_len hm ?_
   refine RJ.seg 1 [0, 1, 4, 5, 7, 8, 11, 15] (L2 := [(0, lsv encSt80 2 x0), (1, .fn (.func 86) [] [.ptr 0 0]), (4, .int .i64 0), (5, .int .i64 s54), (7, .int .i64 (x0.length : Int)), (8, .int .i64 s54), (11, .fn (.func 86) [] [.ptr 0 0]), (15, .agg [.int .i64 ((nth x0 s54).a0_), .int .i64 ((nth x0 s54).a1_)])]) (H2 := [.box [lsv (encI .u8) 1 x1]]) (by kernel_rfl) ?_
   obtain ⟨y91, hy92, h93⟩ := bindS h90
   refine RJ.callG (d := (some 16)) (f := 86) (args := [.agg [.int .i64 ((nth x0 s54).a0_), .int .i64 ((nth x0 s54).a1_)], .ptr 0 0]) (args0 := [.agg [.int .i64 ((nth x0 s54).a0_), .int .i64 ((nth x0 s54).a1_)], .ptr 0 0]) (v0 := .bool y91) (v := .bool y91) (tr2 := []) (H0 := [.box [lsv (encI .u8) 1 x1]]) (H0' := [.box [lsv (encI .u8) 1 x1]]) (H2 := [.box [lsv (encI .u8) 1 x1]]) [0] (by kernel_rfl) (by kernel_rfl) (by kernel_rfl) (by kernel_rfl) (by decide) (by kernel_rfl) (by kernel_rfl) (by kernel_rfl) (.cons (Le.refl _) (.cons (Le.refl _) .nil)) (rule_holding_1_s0_ok hy92) (by kernel_rfl) (by kernel_rfl) (by kernel_rfl) ?_
   refine kEN ?_
   refine kBJ 16 h93 (fun h95 => ?_) (fun h96 => ?_)
   ·refine kT ?_
    refine kSR ?_
    refine kC 2 [0,1,4,7,8] ?_
    refine kEN ?_
    refine kX ?_
    refine PJ.blockRet ?_
    refine PJ.passRet ?_
    obtain rfl := oi h95
    refine PJ.loopOut (fun e => nomatch e) (fun he99 => ?_)
    have h97 := congrArg some he99
    refine PJ.blockRet ?_
    obtain rfl := oi h97
    have h98 := joinX_inr h52
    refine PJ.cutXr (fun e => nomatch e) ?_
    obtain rfl := oi h98
    exact K.retV (H0 := [.box [lsv (encI .u8) 1 x1]]) [0] (.inr rfl) hFn hFH hFD (by kernel_rfl) (v1 := .int .i64 s54) (by kernel_rfl) (by kernel_rfl) (by kernel_rfl) (by decide) (by kernel_rfl) (by kernel_rfl) (by kernel_rfl) (by kernel_rfl) (by kernel_rfl)
   ·refine kF ?_
    refine kK ?_
    refine PJ.blockNormal ?_
    refine PJ.next ?_
    refine kR ?_
    refine kC 2 [0,1,4,7,8] ?_
    refine kE ?_
    obtain rfl := oi h96
    exact PJ.loopNext [0, 1, 4, 7, 8] (by kernel_rfl) (by kernel_rfl)
  ·refine kF ?_
   refine K.exit 0 (by kernel_rfl) ?_
   refine PJ.passExit ?_
   obtain rfl := oi h89
   refine PJ.loopOut (fun e => nomatch e) (fun he101 => ?_)
   have h100 := congrArg some he101
   refine PJ.blockOut ?_
   obtain rfl := oi h100
   exact PJ.cutXl [4] (by kernel_rfl) (by kernel_rfl)
 ·subst hs
  have h53 := joinX_inl h52
  refine kSR ?_
  refine kC 1 [4] ?_
  refine kEN ?_
  refine kX ?_
  obtain rfl := oi h53
  exact K.retV (H0 := [.box [lsv (encI .u8) 1 x1]]) [0] (.inr rfl) hFn hFH hFD (by kernel_rfl) (v1 := .int .i64 (-1)) (by kernel_rfl) (by kernel_rfl) (by kernel_rfl) (by decide) (by kernel_rfl) (by kernel_rfl) (by kernel_rfl) (by kernel_rfl) (by kernel_rfl)
def slices_ContainsFunc_s0 (x0 : List St80) (x1 : List Int) : Option (Bool) :=
 (Option.bind (slices_IndexFunc_s0 x0 x1) fun y1 => (some (decide (y1 ≥ 0))))
theorem slices_ContainsFunc_s0_ok {x0 : List St80} {x1 : List Int} {r : Bool} (h : slices_ContainsFunc_s0 x0 x1 = some r) : SC Tryz.prog 75 [lsv encSt80 2 x0, .fn (.func 86) [] [.ptr 0 0]] [.box [lsv (encI .u8) 1 x1]] (.bool r) [.box [lsv (encI .u8) 1 x1]] := by
 refine kFn (fn := Tryz.f75) (fun F hFn hFH hFD => ?_)
 unfold slices_ContainsFunc_s0 at h
 refine kSR ?_
 refine kC 1 [0,1,4] ?_
 refine kEN ?_
 refine kSR ?_
 refine kC 2 [4,5,6] ?_
 obtain ⟨y1, hy2, h3⟩ := bindS h
 refine RJ.callG (d := (some 7)) (f := 85) (args := [lsv encSt80 2 x0, .fn (.func 86) [] [.ptr 0 0]]) (args0 := [lsv encSt80 2 x0, .fn (.func 86) [] [.ptr 0 0]]) (v0 := .int .i64 y1) (v := .int .i64 y1) (tr2 := []) (H0 := [.box [lsv (encI .u8) 1 x1]]) (H0' := [.box [lsv (encI .u8) 1 x1]]) (H2 := [.box [lsv (encI .u8) 1 x1]]) [0] (by kernel_rfl) (by kernel_rfl) (by kernel_rfl) (by kernel_rfl) (by decide) (by kernel_rfl) (by kernel_rfl) (by kernel_rfl) (.cons (Le.refl _) (.cons (Le.refl _) .nil)) (slices_IndexFunc_s0_ok hy2) (by kernel_rfl) (by kernel_rfl) (by kernel_rfl) ?_
 refine kC 2 [4] ?_
 refine kEN ?_
 refine kX ?_
 obtain rfl := oi h3
 exact K.retV (H0 := [.box [lsv (encI .u8) 1 x1]]) [0] (.inr rfl) hFn hFH hFD (by kernel_rfl) (v1 := .bool (decide (y1 ≥ 0))) (by kernel_rfl) (by kernel_rfl) (by kernel_rfl) (by decide) (by kernel_rfl) (by kernel_rfl) (by kernel_rfl) (by kernel_rfl) (by kernel_rfl)
def rule_holding_2_s0 (x0 : St80) (x1 : Int) : Option (Bool) :=
 (Option.bind (bif (decide (x0.a0_ ≤ x1)) then (some (decide (x1 ≤ x0.a1_))) else (some false)) fun (s4 : Bool) => (some s4))
theorem rule_holding_2_s0_ok {x0 : St80} {x1 : Int} {r : Bool} (h : rule_holding_2_s0 x0 x1 = some r) : SC Tryz.prog 89 [.agg (encSt80 x0), .ptr 0 0] [.box [.int .i64 x1]] (.bool r) [.box [.int .i64 x1]] := by
 refine kFn (fn := Tryz.f89) (fun F hFn hFH hFD => ?_)
 unfold rule_holding_2_s0 at h
 refine kSR ?_
 refine kC 2 [1,2,3] ?_
 refine kEN ?_
 obtain ⟨s4, hy6, h8⟩ := bindS h
 refine K.cutN (by kernel_rfl) (fun (s4 : Bool) => ([(3, .bool s4)], [.box [.int .i64 x1]])) s4 ?_ ?_
 ·refine kR ?_
  refine kC 5 [1,2,3,8] ?_
  refine kB 8 hy6 (fun h10 => ?_) (fun h11 => ?_)
  ·refine kC 6 [3] ?_
   refine kE ?_
   obtain rfl := oi h10
   refine PJ.wk (Wk.sel (L2 := [(3, .bool (decide (x1 ≤ x0.a1_)))]) (H2 := [.box [.int .i64 x1]]) 1 (by rw [hFH]; rfl) hFD [0] (by kernel_rfl) (by kernel_rfl) (by decide) (by kernel_rfl) (by kernel_rfl) (by kernel_rfl) (by kernel_rfl)) ?_
   exact kN [3]
  ·refine kC 6 [3] ?_
   refine kE ?_
   obtain rfl := oi h11
   refine PJ.wk (Wk.sel (L2 := [(3, .bool false)]) (H2 := [.box [.int .i64 x1]]) 1 (by rw [hFH]; rfl) hFD [0] (by kernel_rfl) (by kernel_rfl) (by decide) (by kernel_rfl) (by kernel_rfl) (by kernel_rfl) (by kernel_rfl)) ?_
   exact kN [3]
 ·refine kX ?_
  obtain rfl := oi h8
  exact K.retV (H0 := [.box [.int .i64 x1]]) [0] (.inr rfl) hFn hFH hFD (by kernel_rfl) (v1 := .bool s4) (by kernel_rfl) (by kernel_rfl) (by kernel_rfl) (by decide) (by kernel_rfl) (by kernel_rfl) (by kernel_rfl) (by kernel_rfl) (by kernel_rfl)
def slices_IndexFunc_s1 (x0 : List St80) (x1 : Int) : Option (Int) :=
 (Option.bind (loopN (fun (s54 : Int) => (bif (decide (s54 < (x0.length : Int))) then (bif inR s54 x0.length then (Option.bind (rule_holding_2_s0 (nth x0 s54) x1) fun y91 => (bif y91 then (some (.inr (.inr s54))) else (some (.inl (IntKind.wrap .i64 (s54 + 1)))))) else none) else (some (.inr (.inl ()))))) big 0) (joinX fun (s49 : Unit) => (some (-1))))
theorem slices_IndexFunc_s1_ok {x0 : List St80} {x1 : Int} {r : Int} (h : slices_IndexFunc_s1 x0 x1 = some r) : SC Tryz.prog 85 [lsv encSt80 2 x0, .fn (.func 89) [] [.ptr 0 0]] [.box [.int .i64 x1]] (.int .i64 r) [.box [.int .i64 x1]] := by
 refine kFn (fn := Tryz.f85) (fun F hFn hFH hFD => ?_)
 unfold slices_IndexFunc_s1 at h
 refine kSR ?_
 refine kC 1 [0,1,4] ?_
 refine kEN ?_
 obtain ⟨y50, hy51, h52⟩ := bindS h
 refine K.cutX (by kernel_rfl) (fun (s49 : Unit) => ([(4, .int .i64 0)], [.box [.int .i64 x1]])) y50 ?_ (fun s49 hs => ?_)
 ·refine kSR ?_
  refine kC 3 [0,1,4,7,8] ?_
  refine kEN ?_
  refine K.block 0 (by kernel_rfl) ?_
  refine K.loop (by kernel_rfl) (fun (s54 : Int) => ([(0, lsv encSt80 2 x0), (1, .fn (.func 89) [] [.ptr 0 0]), (4, .int .i64 0), (7, .int .i64 (x0.length : Int)), (8, .int .i64 s54)], [.box [.int .i64 x1]])) hy51 [0, 1, 4, 7, 8] (by kernel_rfl) (by kernel_rfl) (fun s54 x86 hs85 => ?_)
  refine kSR ?_
  refine kC 1 [0,1,4,7,8,9] ?_
  refine kEN ?_
  refine kS ?_
  refine kBJ 9 hs85 (fun h88 => ?_) (fun h89 => ?_)
  ·refine kT ?_
   refine kK ?_
   refine PJ.next ?_
   refine kS ?_
   refine K.block 1 (by kernel_rfl) ?_
   refine kSR ?_
   refine kC 2 [0,1,4,5,7,8] ?_
   refine kEN ?_
   refine kSR ?_
   refine kC 3 [0,1,4,5,7,8,11,12,13] ?_
   obtain ⟨hm, h90⟩ := asrt h88
   refine kI 14 encSt80_len hm ?_
   refine RJ.seg 1 [0, 1, 4, 5, 7, 8, 11, 15] (L2 := [(0, lsv encSt80 2 x0), (1, .fn (.func 89) [] [.ptr 0 0]), (4, .int .i64 0), (5, .int .i64 s54), (7, .int .i64 (x0.length : Int)), (8, .int .i64 s54), (11, .fn (.func 89) [] [.ptr 0 0]), (15, .agg [.int .i64 ((nth x0 s54).a0_), .int .i64 ((nth x0 s54).a1_)])]) (H2 := [.box [.int .i64 x1]]) (by kernel_rfl) ?_
   obtain ⟨y91, hy92, h93⟩ := bindS h90
   refine RJ.callG (d := (some 16)) (f := 89) (args := [.agg [.int .i64 ((nth x0 s54).a0_), .int .i64 ((nth x0 s54).a1_)], .ptr 0 0]) (args0 := [.agg [.int .i64 ((nth x0 s54).a0_), .int .i64 ((nth x0 s54).a1_)], .ptr 0 0]) (v0 := .bool y91) (v := .bool y91) (tr2 := []) (H0 := [.box [.int .i64 x1]]) (H0' := [.box [.int .i64 x1]]) (H2 := [.box [.int .i64 x1]]) [0] (by kernel_rfl) (by kernel_rfl) (by kernel_rfl) (by kernel_rfl) (by decide) (by kernel_rfl) (by kernel_rfl) (by kernel_rfl) (.cons (Le.refl _) (.cons (Le.refl _) .nil)) (rule_holding_2_s0_ok hy92) (by kernel_rfl) (by kernel_rfl) (by kernel_rfl) ?_
   refine kEN ?_
   refine kBJ 16 h93 (fun h95 => ?_) (fun h96 => ?_)
   ·refine kT ?_
    refine kSR ?_
    refine kC 2 [0,1,4,7,8] ?_
    refine kEN ?_
    refine kX ?_
    refine PJ.blockRet ?_
    refine PJ.passRet ?_
    obtain rfl := oi h95
    refine PJ.loopOut (fun e => nomatch e) (fun he99 => ?_)
    have h97 := congrArg some he99
    refine PJ.blockRet ?_
    obtain rfl := oi h97
    have h98 := joinX_inr h52
    refine PJ.cutXr (fun e => nomatch e) ?_
    obtain rfl := oi h98
    exact K.retV (H0 := [.box [.int .i64 x1]]) [0] (.inr rfl) hFn hFH hFD (by kernel_rfl) (v1 := .int .i64 s54) (by kernel_rfl) (by kernel_rfl) (by kernel_rfl) (by decide) (by kernel_rfl) (by kernel_rfl) (by kernel_rfl) (by kernel_rfl) (by kernel_rfl)
   ·refine kF ?_
    refine kK ?_
    refine PJ.blockNormal ?_
    refine PJ.next ?_
    refine kR ?_
    refine kC 2 [0,1,4,7,8] ?_
    refine kE ?_
    obtain rfl := oi h96
    exact PJ.loopNext [0, 1, 4, 7, 8] (by kernel_rfl) (by kernel_rfl)
  ·refine kF ?_
   refine K.exit 0 (by kernel_rfl) ?_
   refine PJ.passExit ?_
   obtain rfl := oi h89
   refine PJ.loopOut (fun e => nomatch e) (fun he101 => ?_)
   have h100 := congrArg some he101
   refine PJ.blockOut ?_
   obtain rfl := oi h100
   exact PJ.cutXl [4] (by kernel_rfl) (by kernel_rfl)
 ·subst hs
  have h53 := joinX_inl h52
  refine kSR ?_
  refine kC 1 [4] ?_
  refine kEN ?_
  refine kX ?_
  obtain rfl := oi h53
  exact K.retV (H0 := [.box [.int .i64 x1]]) [0] (.inr rfl) hFn hFH hFD (by kernel_rfl) (v1 := .int .i64 (-1)) (by kernel_rfl) (by kernel_rfl) (by kernel_rfl) (by decide) (by kernel_rfl) (by kernel_rfl) (by kernel_rfl) (by kernel_rfl) (by kernel_rfl)
def slices_ContainsFunc_s1 (x0 : List St80) (x1 : Int) : Option (Bool) :=
 (Option.bind (slices_IndexFunc_s1 x0 x1) fun y1 => (some (decide (y1 ≥ 0))))
theorem slices_ContainsFunc_s1_ok {x0 : List St80} {x1 : Int} {r : Bool} (h : slices_ContainsFunc_s1 x0 x1 = some r) : SC Tryz.prog 75 [lsv encSt80 2 x0, .fn (.func 89) [] [.ptr 0 0]] [.box [.int .i64 x1]] (.bool r) [.box [.int .i64 x1]] := by
 refine kFn (fn := Tryz.f75) (fun F hFn hFH hFD => ?_)
 unfold slices_ContainsFunc_s1 at h
 refine kSR ?_
 refine kC 1 [0,1,4] ?_
 refine kEN ?_
 refine kSR ?_
 refine kC 2 [4,5,6] ?_
 obtain ⟨y1, hy2, h3⟩ := bindS h
 refine RJ.callG (d := (some 7)) (f := 85) (args := [lsv encSt80 2 x0, .fn (.func 89) [] [.ptr 0 0]]) (args0 := [lsv encSt80 2 x0, .fn (.func 89) [] [.ptr 0 0]]) (v0 := .int .i64 y1) (v := .int .i64 y1) (tr2 := []) (H0 := [.box [.int .i64 x1]]) (H0' := [.box [.int .i64 x1]]) (H2 := [.box [.int .i64 x1]]) [0] (by kernel_rfl) (by kernel_rfl) (by kernel_rfl) (by kernel_rfl) (by decide) (by kernel_rfl) (by kernel_rfl) (by kernel_rfl) (.cons (Le.refl _) (.cons (Le.refl _) .nil)) (slices_IndexFunc_s1_ok hy2) (by kernel_rfl) (by kernel_rfl) (by kernel_rfl) ?_
 refine kC 2 [4] ?_
 refine kEN ?_
 refine kX ?_
 obtain rfl := oi h3
 exact K.retV (H0 := [.box [.int .i64 x1]]) [0] (.inr rfl) hFn hFH hFD (by kernel_rfl) (v1 := .bool (decide (y1 ≥ 0))) (by kernel_rfl) (by kernel_rfl) (by kernel_rfl) (by decide) (by kernel_rfl) (by kernel_rfl) (by kernel_rfl) (by kernel_rfl) (by kernel_rfl)
def rule_asks_1_s0 (x0 : St75) (x1 : List Int) (x2 : List Int) (x3 : Int) (x4 : Int) : Option (Bool) :=
 (Option.bind (oper_Operand (⟨x1, x2, x3, x4⟩ : St33) x0.Op_) fun y1 => (Option.bind (bif y1.2 then (Option.bind (rule_holding_s0 y1.1 x0.Mod_) fun y29 => (Sum.elim (fun y32 => (Option.bind (slices_ContainsFunc_s0 x0.R_ y1.1) fun y36 => (some y36))) (fun y33 => (Option.bind (slices_ContainsFunc_s1 x0.R_ y33) fun y40 => (some y40))) y29)) else (some false)) fun (s21 : Bool) => (some (s21 != x0.Not_))))
theorem rule_asks_1_s0_ok {x0 : St75} {x1 : List Int} {x2 : List Int} {x3 : Int} {x4 : Int} {r : Bool} (h : rule_asks_1_s0 x0 x1 x2 x3 x4 = some r) : SC Tryz.prog 73 [.agg (encSt75 x0), .ptr 0 0] [.box [lsv (encI .u8) 1 x1, lsv (encI .u8) 1 x2, .int .i64 x3, .int .i64 x4]] (.bool r) [.box [lsv (encI .u8) 1 x1, lsv (encI .u8) 1 x2, .int .i64 x3, .int .i64 x4]] := by
 refine kFn (fn := Tryz.f73) (fun F hFn hFH hFD => ?_)
 unfold rule_asks_1_s0 at h
 refine kSR ?_
 refine kC 2 [1,2,3] ?_
 refine kEN ?_
 refine kSR ?_
 refine kC 3 [2,3,8,10] ?_
 obtain ⟨y1, hy2, h3⟩ := bindS h
 refine kA 11 (oper_Operand_ok hy2) ?_
 refine kC 5 [2,3,4,5] ?_
 refine kEN ?_
 obtain ⟨s21, hy23, h25⟩ := bindS h3
 refine K.cutN (by kernel_rfl) (fun (s21 : Bool) => ([(2, .ptr 1 0), (3, .bool false), (6, .bool s21)], [.box [lsv (encI .u8) 1 x1, lsv (encI .u8) 1 x2, .int .i64 x3, .int .i64 x4], .box (encSt75 x0)])) s21 ?_ ?_
 ·refine J.keep [2, 3, 4, 5] (L2 := [(2, .ptr 1 0), (3, .bool false), (4, lsv (encI .u8) 1 y1.1), (5, .bool y1.2)]) (by kernel_rfl) ?_
  refine K.draw (by kernel_rfl) (by kernel_rfl) (by kernel_rfl) (H2 := [.box [lsv (encI .u8) 1 x1, lsv (encI .u8) 1 x2, .int .i64 x3, .int .i64 x4], .box (encSt75 x0), .res, .res]) (by kernel_rfl) (n := 2) (by kernel_rfl) ?_
  refine RJ.segD 2 (tr2 := [([], []), ([], [])]) (L2 := [(15, .bool y1.2), (14, .bool y1.2), (2, .ptr 1 0), (3, .bool false), (4, lsv (encI .u8) 1 y1.1), (5, .bool y1.2)]) (H2 := [.box [lsv (encI .u8) 1 x1, lsv (encI .u8) 1 x2, .int .i64 x3, .int .i64 x4], .box (encSt75 x0), .res, .res]) (by kernel_rfl) ?_
  refine kB 15 hy23 (fun h27 => ?_) (fun h28 => ?_)
  ·refine kD 5 ?_
   obtain ⟨y29, hy30, h31⟩ := bindS h27
   rcases y29 with y32 | y33
   ·have h34 := elimL h31
    refine RJ.callM (d := (some 21)) (f := 76) (args := [lsv (encI .u8) 1 y1.1, .int .i64 x0.Mod_]) (v0 := .fn (.func 86) [] [.ptr 0 0]) (v := .fn (.func 86) [] [.ptr 2 0]) (en0 := .box [lsv (encI .u8) 1 y1.1]) (tr2 := [([], []), ([], []), ([], []), ([2, 3], []), ([], []), ([], []), ([2, 3], []), ([], [4, 5, 4, 5])]) (H2 := [.box [lsv (encI .u8) 1 x1, lsv (encI .u8) 1 x2, .int .i64 x3, .int .i64 x4], .box (encSt75 x0), .box [lsv (encI .u8) 1 y1.1], .res]) 2 (by kernel_rfl) (by kernel_rfl) (by kernel_rfl) (by kernel_rfl) (.cons (Le.refl _) (.cons (Le.refl _) .nil)) (rule_holding_s0_ok0 hy30) (by kernel_rfl) (by kernel_rfl) ?_ (hE := ern_box (by kernel_rfl))
    obtain ⟨y36, hy37, h38⟩ := bindS h34
    refine RJ.callU (d := (some 22)) (f := 75) (args := [lsv encSt80 2 x0.R_, .fn (.func 86) [] [.ptr 2 0]]) (args0 := [lsv encSt80 2 x0.R_, .fn (.func 86) [] [.ptr 0 0]]) (v := .bool y36) (tr2 := [([], []), ([], []), ([], []), ([2, 3], []), ([], []), ([], []), ([2, 3], []), ([], [4, 5, 4, 5]), ([4, 5], [6, 7])]) (H0 := [.box [lsv (encI .u8) 1 y1.1]]) [2] (by kernel_rfl) (by kernel_rfl) (by kernel_rfl) (by kernel_rfl) (by decide) (by kernel_rfl) (by kernel_rfl) (by kernel_rfl) (.cons (Le.refl _) (.cons (Le.refl _) .nil)) (slices_ContainsFunc_s0_ok hy37) (by kernel_rfl) ?_
    refine kD 2 ?_
    refine kE ?_
    obtain rfl := oi h38
    refine PJ.wk (Wk.sel (L2 := [(2, .ptr 1 0), (3, .bool false), (6, .bool y36)]) (H2 := [.box [lsv (encI .u8) 1 x1, lsv (encI .u8) 1 x2, .int .i64 x3, .int .i64 x4], .box (encSt75 x0)]) 1 (by rw [hFH]; rfl) hFD [0, 1] (by kernel_rfl) (by kernel_rfl) (by decide) (by kernel_rfl) (by kernel_rfl) (by kernel_rfl) (by kernel_rfl)) ?_
    exact kN [2, 3, 6]
   ·have h35 := elimR h31
    refine RJ.callM (d := (some 21)) (f := 76) (args := [lsv (encI .u8) 1 y1.1, .int .i64 x0.Mod_]) (v0 := .fn (.func 89) [] [.ptr 0 0]) (v := .fn (.func 89) [] [.ptr 2 0]) (en0 := .box [.int .i64 y33]) (tr2 := [([], []), ([], []), ([], []), ([2, 3], []), ([], []), ([], []), ([2, 3], []), ([], [4, 5, 4, 5])]) (H2 := [.box [lsv (encI .u8) 1 x1, lsv (encI .u8) 1 x2, .int .i64 x3, .int .i64 x4], .box (encSt75 x0), .box [.int .i64 y33], .res]) 2 (by kernel_rfl) (by kernel_rfl) (by kernel_rfl) (by kernel_rfl) (.cons (Le.refl _) (.cons (Le.refl _) .nil)) (rule_holding_s0_ok1 hy30) (by kernel_rfl) (by kernel_rfl) ?_ (hE := ern_box (by kernel_rfl))
    obtain ⟨y40, hy41, h42⟩ := bindS h35
    refine RJ.callU (d := (some 22)) (f := 75) (args := [lsv encSt80 2 x0.R_, .fn (.func 89) [] [.ptr 2 0]]) (args0 := [lsv encSt80 2 x0.R_, .fn (.func 89) [] [.ptr 0 0]]) (v := .bool y40) (tr2 := [([], []), ([], []), ([], []), ([2, 3], []), ([], []), ([], []), ([2, 3], []), ([], [4, 5, 4, 5]), ([4, 5], [6, 7])]) (H0 := [.box [.int .i64 y33]]) [2] (by kernel_rfl) (by kernel_rfl) (by kernel_rfl) (by kernel_rfl) (by decide) (by kernel_rfl) (by kernel_rfl) (by kernel_rfl) (.cons (Le.refl _) (.cons (Le.refl _) .nil)) (slices_ContainsFunc_s1_ok hy41) (by kernel_rfl) ?_
    refine kD 2 ?_
    refine kE ?_
    obtain rfl := oi h42
    refine PJ.wk (Wk.sel (L2 := [(2, .ptr 1 0), (3, .bool false), (6, .bool y40)]) (H2 := [.box [lsv (encI .u8) 1 x1, lsv (encI .u8) 1 x2, .int .i64 x3, .int .i64 x4], .box (encSt75 x0)]) 1 (by rw [hFH]; rfl) hFD [0, 1] (by kernel_rfl) (by kernel_rfl) (by decide) (by kernel_rfl) (by kernel_rfl) (by kernel_rfl) (by kernel_rfl)) ?_
    exact kN [2, 3, 6]
  ·refine kD 9 ?_
   refine kE ?_
   obtain rfl := oi h28
   refine PJ.wk (Wk.sel (L2 := [(2, .ptr 1 0), (3, .bool false), (6, .bool false)]) (H2 := [.box [lsv (encI .u8) 1 x1, lsv (encI .u8) 1 x2, .int .i64 x3, .int .i64 x4], .box (encSt75 x0)]) 1 (by rw [hFH]; rfl) hFD [0, 1] (by kernel_rfl) (by kernel_rfl) (by decide) (by kernel_rfl) (by kernel_rfl) (by kernel_rfl) (by kernel_rfl)) ?_
   exact kN [2, 3, 6]
 ·refine kSR ?_
  refine kC 5 [3] ?_
  refine kEN ?_
  refine kX ?_
  obtain rfl := oi h25
  exact K.retV (H0 := [.box [lsv (encI .u8) 1 x1, lsv (encI .u8) 1 x2, .int .i64 x3, .int .i64 x4]]) [0] (.inr rfl) hFn hFH hFD (by kernel_rfl) (v1 := .bool (s21 != x0.Not_)) (by kernel_rfl) (by kernel_rfl) (by kernel_rfl) (by decide) (by kernel_rfl) (by kernel_rfl) (by kernel_rfl) (by kernel_rfl) (by kernel_rfl)
def rule_Holds (x0 : List (List St75)) (x1 : St33) : Option (Bool) :=
 (Option.bind (rule_asks_s0 x1) fun y1 => (Option.bind (loopN (fun (s678 : Int) => (bif (decide (s678 < (x0.length : Int))) then (Option.bind (bif inR s678 x0.length then (Option.bind (loopN (fun (s1293 : Int) => (bif (decide (s1293 < ((nth x0 s678).length : Int))) then (bif inR s1293 (nth x0 s678).length then (Option.bind (rule_asks_1_s0 (nth (nth x0 s678) s1293) x1.I_ x1.F_ x1.W_ x1.C_) fun y1330 => (bif (!y1330) then (some (.inr (.inr (.inl ())))) else (some (.inl (IntKind.wrap .i64 (s1293 + 1)))))) else none) else (some (.inr (.inl ()))))) big 0) (joinX fun (s1288 : Unit) => (some (.inr (.inr (.inr true)))))) else none) (joinX fun (s1234 : Unit) => (some (.inl (IntKind.wrap .i64 (s678 + 1)))))) else (some (.inr (.inl ()))))) big 0) (joinX fun (s673 : Unit) => (some false))))
theorem rule_Holds_ok {x0 : List (List St75)} {x1 : St33} {r : Bool} (h : rule_Holds x0 x1 = some r) : SC Tryz.prog 50 [lsv (encL encSt75 4) 1 x0, .agg (encSt33 x1)] [] (.bool r) [] := by
 refine kFn (fn := Tryz.f50) (fun F hFn hFH hFD => ?_)
 unfold rule_Holds at h
 refine kSR ?_
 refine kC 2 [0,3,4] ?_
 refine kEN ?_
 refine K.scope (by kernel_rfl) ?_
 refine kSR ?_
 refine kC 1 [0,4,10] ?_
 obtain ⟨y1, hy2, h3⟩ := bindS h
 refine RJ.callG (d := (some 11)) (f := 61) (args := [.agg (encSt33 x1)]) (args0 := [.agg (encSt33 x1)]) (v0 := .fn (.func 73) [] [.ptr 0 0]) (v := .fn (.func 73) [] [.ptr 1 0]) (tr2 := []) (H0 := []) (H0' := [.box (encSt33 x1)]) (H2 := [.box (encSt33 x1), .box (encSt33 x1)]) [] (by kernel_rfl) (by kernel_rfl) (by kernel_rfl) (by kernel_rfl) (by decide) (by kernel_rfl) (by kernel_rfl) (by kernel_rfl) (.cons (Le.refl _) .nil) (rule_asks_s0_ok hy2) (by kernel_rfl) (by kernel_rfl) (by kernel_rfl) ?_
 refine kC 1 [0,4,5] ?_
 refine kEN ?_
 refine kS ?_
 refine K.label (by kernel_rfl) ?_
 refine PJ.next ?_
 obtain ⟨y674, hy675, h676⟩ := bindS h3
 refine K.cutX (by kernel_rfl) (fun (s673 : Unit) => ([(4, .bool false)], [])) y674 ?_ (fun s673 hs => ?_)
 ·refine kSR ?_
  refine RJ.seg 3 [4, 5, 12, 13, 14] (L2 := [(4, .bool false), (5, .fn (.func 73) [] [.ptr 1 0]), (12, lsv (encL encSt75 4) 1 x0), (13, .int .i64 (x0.length : Int)), (14, .int .i64 0)]) (H2 := [.box (encSt33 x1), .box (encSt33 x1)]) (by kernel_rfl) ?_
  refine kEN ?_
  refine K.block 0 (by kernel_rfl) ?_
  refine J.wk (Wk.sel (L2 := [(4, .bool false), (5, .fn (.func 73) [] [.ptr 0 0]), (12, lsv (encL encSt75 4) 1 x0), (13, .int .i64 (x0.length : Int)), (14, .int .i64 0)]) (H2 := [.box (encSt33 x1)]) 0 (by rw [hFH]; rfl) hFD [1] (by kernel_rfl) (by kernel_rfl) (by decide) (by kernel_rfl) (by kernel_rfl) (by kernel_rfl) (by kernel_rfl)) ?_
  refine K.loop (by kernel_rfl) (fun (s678 : Int) => ([(4, .bool false), (5, .fn (.func 73) [] [.ptr 0 0]), (12, lsv (encL encSt75 4) 1 x0), (13, .int .i64 (x0.length : Int)), (14, .int .i64 s678)], [.box (encSt33 x1)])) hy675 [4, 5, 12, 13, 14] (by kernel_rfl) (by kernel_rfl) (fun s678 x1124 hs1123 => ?_)
  refine kSR ?_
  refine kC 1 [4,5,12,13,14,15] ?_
  refine kEN ?_
  refine kS ?_
  refine kBJ 15 hs1123 (fun h1126 => ?_) (fun h1127 => ?_)
  ·refine kT ?_
   refine kK ?_
   refine PJ.next ?_
   obtain ⟨y1235, hy1236, h1237⟩ := bindS h1126
   refine K.cutX (by kernel_rfl) (fun (s1234 : Unit) => ([(4, .bool false), (5, .fn (.func 73) [] [.ptr 0 0]), (12, lsv (encL encSt75 4) 1 x0), (13, .int .i64 (x0.length : Int)), (14, .int .i64 s678)], [.box (encSt33 x1)])) y1235 ?_ (fun s1234 hs => ?_)
   ·refine K.block 1 (by kernel_rfl) ?_
    refine kSR ?_
    obtain ⟨hm, h1239⟩ := asrt hy1236
    refine kI 16 (encL_len encSt75 4) hm ?_
    refine kC 2 [4,5,7,12,13,14] ?_
    refine kEN ?_
    obtain ⟨y1289, hy1290, h1291⟩ := bindS h1239
    refine K.cutX (by kernel_rfl) (fun (s1288 : Unit) => ([(4, .bool false), (5, .fn (.func 73) [] [.ptr 0 0]), (12, lsv (encL encSt75 4) 1 x0), (13, .int .i64 (x0.length : Int)), (14, .int .i64 s678)], [.box (encSt33 x1)])) y1289 ?_ (fun s1288 hs => ?_)
    ·refine kSR ?_
     refine kC 3 [4,5,12,13,14,18,19,20] ?_
     refine kEN ?_
     refine K.block 2 (by kernel_rfl) ?_
     refine K.loop (by kernel_rfl) (fun (s1293 : Int) => ([(4, .bool false), (5, .fn (.func 73) [] [.ptr 0 0]), (12, lsv (encL encSt75 4) 1 x0), (13, .int .i64 (x0.length : Int)), (14, .int .i64 s678), (18, lsv encSt75 4 (nth x0 s678)), (19, .int .i64 ((nth x0 s678).length : Int)), (20, .int .i64 s1293)], [.box (encSt33 x1)])) hy1290 [4, 5, 12, 13, 14, 18, 19, 20] (by kernel_rfl) (by kernel_rfl) (fun s1293 x1325 hs1324 => ?_)
     refine kSR ?_
     refine kC 1 [4,5,12,13,14,18,19,20,21] ?_
     refine kEN ?_
     refine kS ?_
     refine kBJ 21 hs1324 (fun h1327 => ?_) (fun h1328 => ?_)
     ·refine kT ?_
      refine kK ?_
      refine PJ.next ?_
      refine kS ?_
      refine K.block 3 (by kernel_rfl) ?_
      refine kSR ?_
      obtain ⟨hm, h1329⟩ := asrt h1327
      refine kI 22 encSt75_len hm ?_
      refine kC 3 [4,5,9,12,13,14,18,19,20] ?_
      refine kEN ?_
      refine kSR ?_
      refine kC 2 [4,5,12,13,14,18,19,20,24,25] ?_
      obtain ⟨y1330, hy1331, h1332⟩ := bindS h1329
      refine RJ.callG (d := (some 26)) (f := 73) (args := [.agg [.int .u8 ((nth (nth x0 s678) s1293).Op_), .int .i64 ((nth (nth x0 s678) s1293).Mod_), .bool ((nth (nth x0 s678) s1293).Not_), lsv encSt80 2 ((nth (nth x0 s678) s1293).R_)], .ptr 0 0]) (args0 := [.agg [.int .u8 ((nth (nth x0 s678) s1293).Op_), .int .i64 ((nth (nth x0 s678) s1293).Mod_), .bool ((nth (nth x0 s678) s1293).Not_), lsv encSt80 2 ((nth (nth x0 s678) s1293).R_)], .ptr 0 0]) (v0 := .bool y1330) (v := .bool y1330) (tr2 := []) (H0 := [.box (encSt33 x1)]) (H0' := [.box (encSt33 x1)]) (H2 := [.box (encSt33 x1), .box [.int .u8 ((nth (nth x0 s678) s1293).Op_), .int .i64 ((nth (nth x0 s678) s1293).Mod_), .bool ((nth (nth x0 s678) s1293).Not_), lsv encSt80 2 ((nth (nth x0 s678) s1293).R_)]]) [0] (by kernel_rfl) (by kernel_rfl) (by kernel_rfl) (by kernel_rfl) (by decide) (by kernel_rfl) (by kernel_rfl) (by kernel_rfl) (.cons (Le.refl _) (.cons (Le.refl _) .nil)) (rule_asks_1_s0_ok hy1331) (by kernel_rfl) (by kernel_rfl) (by kernel_rfl) ?_
      refine RJ.seg 1 [4, 5, 12, 13, 14, 18, 19, 20, 27] (L2 := [(4, .bool false), (5, .fn (.func 73) [] [.ptr 0 0]), (12, lsv (encL encSt75 4) 1 x0), (13, .int .i64 (x0.length : Int)), (14, .int .i64 s678), (18, lsv encSt75 4 (nth x0 s678)), (19, .int .i64 ((nth x0 s678).length : Int)), (20, .int .i64 s1293), (27, .bool (!y1330))]) (H2 := [.box (encSt33 x1), .box [.int .u8 ((nth (nth x0 s678) s1293).Op_), .int .i64 ((nth (nth x0 s678) s1293).Mod_), .bool ((nth (nth x0 s678) s1293).Not_), lsv encSt80 2 ((nth (nth x0 s678) s1293).R_)]]) (by kernel_rfl) ?_
      refine kEN ?_
      refine kBJ 27 h1332 (fun h1334 => ?_) (fun h1335 => ?_)
      ·refine kT ?_
       refine K.exit 1 (by kernel_rfl) ?_
       refine PJ.blockPass (by kernel_rfl) ?_
       refine PJ.passExit ?_
       obtain rfl := oi h1334
       refine PJ.loopOut (fun e => nomatch e) (fun he1338 => ?_)
       have h1336 := congrArg some he1338
       refine PJ.blockPass (by kernel_rfl) ?_
       obtain rfl := oi h1336
       have h1337 := joinX_inr h1291
       refine PJ.cutXr (fun e => nomatch e) ?_
       refine PJ.blockOut ?_
       obtain rfl := oi h1337
       refine PJ.wk (Wk.sel (L2 := [(4, .bool false), (5, .fn (.func 73) [] [.ptr 0 0]), (12, lsv (encL encSt75 4) 1 x0), (13, .int .i64 (x0.length : Int)), (14, .int .i64 s678)]) (H2 := [.box (encSt33 x1)]) 0 (by rw [hFH]; rfl) hFD [0] (by kernel_rfl) (by kernel_rfl) (by decide) (by kernel_rfl) (by kernel_rfl) (by kernel_rfl) (by kernel_rfl)) ?_
       exact PJ.cutXl [4, 5, 12, 13, 14] (by kernel_rfl) (by kernel_rfl)
      ·refine kF ?_
       refine kK ?_
       refine PJ.blockNormal ?_
       refine PJ.next ?_
       refine kR ?_
       refine kC 2 [4,5,12,13,14,18,19,20] ?_
       refine kE ?_
       obtain rfl := oi h1335
       refine PJ.wk (Wk.sel (L2 := [(4, .bool false), (5, .fn (.func 73) [] [.ptr 0 0]), (12, lsv (encL encSt75 4) 1 x0), (13, .int .i64 (x0.length : Int)), (14, .int .i64 s678), (18, lsv encSt75 4 (nth x0 s678)), (19, .int .i64 ((nth x0 s678).length : Int)), (20, .int .i64 (IntKind.wrap .i64 (s1293 + 1)))]) (H2 := [.box (encSt33 x1)]) 0 (by rw [hFH]; rfl) hFD [0] (by kernel_rfl) (by kernel_rfl) (by decide) (by kernel_rfl) (by kernel_rfl) (by kernel_rfl) (by kernel_rfl)) ?_
       exact PJ.loopNext [4, 5, 12, 13, 14, 18, 19, 20] (by kernel_rfl) (by kernel_rfl)
     ·refine kF ?_
      refine K.exit 2 (by kernel_rfl) ?_
      refine PJ.passExit ?_
      obtain rfl := oi h1328
      refine PJ.loopOut (fun e => nomatch e) (fun he1340 => ?_)
      have h1339 := congrArg some he1340
      refine PJ.blockOut ?_
      obtain rfl := oi h1339
      exact PJ.cutXl [4, 5, 12, 13, 14] (by kernel_rfl) (by kernel_rfl)
    ·subst hs
     have h1292 := joinX_inl h1291
     refine kSR ?_
     refine kC 1 [4,5,12,13,14] ?_
     refine kEN ?_
     refine kX ?_
     refine PJ.blockRet ?_
     obtain rfl := oi h1292
     have h1341 := joinX_inr h1237
     refine PJ.cutXr (fun e => nomatch e) ?_
     obtain rfl := oi h1341
     refine PJ.loopOut (fun e => nomatch e) (fun he1344 => ?_)
     have h1342 := congrArg some he1344
     refine PJ.blockRet ?_
     obtain rfl := oi h1342
     have h1343 := joinX_inr h676
     refine PJ.cutXr (fun e => nomatch e) ?_
     refine PJ.scR ?_
     obtain rfl := oi h1343
     exact kZ hFn hFH hFD
   ·subst hs
    have h1238 := joinX_inl h1237
    refine kR ?_
    refine kC 2 [4,5,12,13,14] ?_
    refine kE ?_
    obtain rfl := oi h1238
    exact PJ.loopNext [4, 5, 12, 13, 14] (by kernel_rfl) (by kernel_rfl)
  ·refine kF ?_
   refine K.exit 0 (by kernel_rfl) ?_
   refine PJ.passExit ?_
   obtain rfl := oi h1127
   refine PJ.loopOut (fun e => nomatch e) (fun he1346 => ?_)
   have h1345 := congrArg some he1346
   refine PJ.blockOut ?_
   obtain rfl := oi h1345
   refine PJ.wk (Wk.sel (L2 := [(4, .bool false)]) (H2 := []) 0 (by rw [hFH]; rfl) hFD [] (by kernel_rfl) (by kernel_rfl) (by decide) (by kernel_rfl) (by kernel_rfl) (by kernel_rfl) (by kernel_rfl)) ?_
   exact PJ.cutXl [4] (by kernel_rfl) (by kernel_rfl)
 ·subst hs
  have h677 := joinX_inl h676
  refine kSR ?_
  refine kC 1 [4] ?_
  refine kEN ?_
  refine kX ?_
  refine PJ.scR ?_
  obtain rfl := oi h677
  exact kZ hFn hFH hFD
def plur_Of (x0 : List St46) (x1 : St33) : Option (Int) :=
 (Option.bind (loopN (fun (s1 : Int) => (bif (decide (s1 < (x0.length : Int))) then (bif inR s1 x0.length then (Option.bind (rule_Holds (nth x0 s1).C_ x1) fun y1 => (bif y1 then (some (.inr (.inr ((nth x0 s1).Cat_)))) else (some (.inl (IntKind.wrap .i64 (s1 + 1)))))) else none) else (some (.inr (.inl ()))))) big 0) (joinX fun (_ : Unit) => (some 0)))
theorem plur_Of_seq {x0 : List St46} {x1 : St33} : SC Tryz.prog 36 [lsv encSt46 2 x0, .agg (encSt33 x1)] [] (.fn (.func 49) [] [.ptr 0 0, .ptr 1 0]) [.box [lsv encSt46 2 x0], .box (encSt33 x1)] := by
 refine kFn (fn := Tryz.f36) (fun F hFn hFH hFD => ?_)
 refine kSR ?_
 refine kC 3 [2,3,4] ?_
 refine kEN ?_
 refine kSR ?_
 refine kC 2 [4] ?_
 refine kEN ?_
 refine kX ?_
 exact K.retV (H0 := []) [0, 1] (.inr rfl) hFn hFH hFD (by kernel_rfl) (v1 := .fn (.func 49) [] [.ptr 0 0, .ptr 1 0]) (by kernel_rfl) (by kernel_rfl) (by kernel_rfl) (by decide) (by kernel_rfl) (by kernel_rfl) (by kernel_rfl) (by kernel_rfl) (by kernel_rfl)
theorem plur_Of_it {x0 : List St46} {x1 : St33} {q : Unit ⊕ Int} (hq : loopN (fun (s1 : Int) => (bif (decide (s1 < (x0.length : Int))) then (bif inR s1 x0.length then (Option.bind (rule_Holds (nth x0 s1).C_ x1) fun y1 => (bif y1 then (some (.inr (.inr ((nth x0 s1).Cat_)))) else (some (.inl (IntKind.wrap .i64 (s1 + 1)))))) else none) else (some (.inr (.inl ()))))) big 0 = some q)
  (l : Nat) (F1 : Fr) (RE : World → Int → World → Prop) (hN : F1.n = 23) (hFH : F1.H0 = [.box [lsv encSt46 2 x0], .box (encSt33 x1)]) (hFD : ∀ i, F1.H0.length ≤ i → F1.D0 i = none) (hY : YW Tryz.prog F1 l RE) :
  J F1 Tryz.prog (bodyC Tryz.f49) (initL 0 [.fn (.yield l) [] [], .ptr 0 0, .ptr 1 0]) [.box [lsv encSt46 2 x0], .box (encSt33 x1)] (QI F1 RE (Sum.elim (fun _ => none) some q)) := by
 refine kSR ?_
 refine kC 3 [0,1,2,6,7,8] ?_
 refine kEN ?_
 refine K.block 0 (by kernel_rfl) ?_
 refine K.loop (by kernel_rfl) (fun (s1 : Int) => ([(0, .fn (.yield l) [] []), (1, .ptr 0 0), (2, .ptr 1 0), (6, lsv encSt46 2 x0), (7, .int .i64 (x0.length : Int)), (8, .int .i64 s1)], [.box [lsv encSt46 2 x0], .box (encSt33 x1)])) hq [0, 1, 2, 6, 7, 8] (by kernel_rfl) (by kernel_rfl) (fun s1 x86 hs85 => ?_)
 refine kSR ?_
 refine kC 1 [0,1,2,6,7,8,9] ?_
 refine kEN ?_
 refine kS ?_
 refine kBJ 9 hs85 (fun h88 => ?_) (fun h89 => ?_)
 ·refine kT ?_
  refine kK ?_
  refine PJ.next ?_
  refine kS ?_
  refine K.block 1 (by kernel_rfl) ?_
  refine kSR ?_
  obtain ⟨hm, h90⟩ := asrt h88
  refine kI 10 encSt46_len hm ?_
  refine kC 3 [0,1,2,5,6,7,8] ?_
  refine kEN ?_
  refine kS ?_
  refine J.regI 0 ?_
  refine RJi.pre (N := 23) wd_wide 5 hN ?_
  refine kC 3 [0,1,2,5,6,7,8,13,14] ?_
  obtain ⟨y91, hy92, h93⟩ := bindS h90
  refine kA 15 (rule_Holds_ok hy92) ?_
  refine kC 1 [0,1,2,5,6,7,8,16] ?_
  refine kE ?_
  refine RJi.nx ?_
  cases y91 with
  | true =>
   obtain rfl := oi h93
   refine RJi.pre (N := 23) wd_wide 7 hN ?_
   refine kC 2 [16,17,18] ?_
   refine kE ?_
   refine RJi.nx ?_
   refine K.yield (N := 23) (l := l) (d := 19) (d1 := 16) (b1 := true) (sv := .agg (encSt46 (nth x0 s1))) (cat := (nth x0 s1).Cat_) (s2 := lsv (encL encSt75 4) 1 (nth x0 s1).C_) hN (by kernel_rfl) rfl rfl (by kernel_rfl) (by kernel_rfl) hY (fun w' K' hf => ?_)
   refine RJi.pre (N := 23) wd_wide 10 rfl ?_
   refine kC 2 [21] ?_
   refine kE ?_
   refine RJi.nx ?_
   refine RJi.done ?_
   refine PJ.nextF hN.symm ?_
   refine kT ?_
   refine kX ?_
   refine PJ.blockRet ?_
   refine PJ.passRetF ?_
   refine PJ.loopOutF (fun e => nomatch e) (fun he99 => ?_)
   subst he99
   refine PJ.blockRet ?_
   exact PJ.iterSome (.inr rfl) hf
  | false =>
   obtain rfl := oi h93
   refine RJi.pre (N := 23) wd_wide 10 hN ?_
   refine kC 5 [0,1,2,6,7,8,21] ?_
   refine kE ?_
   refine RJi.nx ?_
   refine RJi.done ?_
   refine PJ.next ?_
   refine kF ?_
   refine kK ?_
   refine PJ.blockNormal ?_
   refine PJ.next ?_
   refine kR ?_
   refine kC 2 [0,1,2,6,7,8] ?_
   refine kE ?_
   refine PJ.wk (Wk.sel (L2 := [(0, .fn (.yield l) [] []), (1, .ptr 0 0), (2, .ptr 1 0), (6, lsv encSt46 2 x0), (7, .int .i64 (x0.length : Int)), (8, .int .i64 (IntKind.wrap .i64 (s1 + 1)))]) (H2 := [.box [lsv encSt46 2 x0], .box (encSt33 x1)]) 2 (by rw [hFH]; rfl) hFD [0, 1] (by kernel_rfl) (by kernel_rfl) (by decide) (by kernel_rfl) (by kernel_rfl) (by kernel_rfl) (by kernel_rfl)) ?_
   exact PJ.loopNext [0, 1, 2, 6, 7, 8] (by kernel_rfl) (by kernel_rfl)
 ·refine kF ?_
  refine K.exit 0 (by kernel_rfl) ?_
  refine PJ.passExit ?_
  obtain rfl := oi h89
  refine PJ.loopOut (fun e => nomatch e) (fun he101 => ?_)
  subst he101
  refine PJ.blockOut ?_
  exact PJ.iterNone (.inl rfl)
theorem plur_Of_ok {x0 : List St46} {x1 : St33} {r : Int} (h : plur_Of x0 x1 = some r) : SC Tryz.prog 21 [lsv encSt46 2 x0, .agg (encSt33 x1)] [] (.int .i64 r) [] := by
 unfold plur_Of at h
 obtain ⟨q, hq, h2⟩ := bindS h
 refine K.fnM (fn := Tryz.f21) (fun F hFn hFH hFD hFK => ?_)
 refine kSR ?_
 refine kC 2 [0,3,4] ?_
 refine kEN ?_
 refine kS ?_
 refine kSR ?_
 refine kC 2 [4,6,7] ?_
 refine RJ.callG (d := (some 8)) (f := 36) (args := [lsv encSt46 2 x0, .agg (encSt33 x1)]) (args0 := [lsv encSt46 2 x0, .agg (encSt33 x1)]) (v0 := .fn (.func 49) [] [.ptr 0 0, .ptr 1 0]) (v := .fn (.func 49) [] [.ptr 2 0, .ptr 3 0]) (tr2 := []) (H0 := []) (H0' := [.box [lsv encSt46 2 x0], .box (encSt33 x1)]) (H2 := [.box (encSt33 x1), .box [.int .i64 0], .box [lsv encSt46 2 x0], .box (encSt33 x1)]) []
  (by kernel_rfl) (by kernel_rfl) (by kernel_rfl) (by kernel_rfl) (by decide) (by kernel_rfl) (by kernel_rfl) (by kernel_rfl) (.cons (Le.refl _) (.cons (Le.refl _) .nil)) plur_Of_seq (by kernel_rfl) (by kernel_rfl) (by kernel_rfl) ?_
 refine kEN ?_
 refine K.block 0 (by kernel_rfl) ?_
 refine K.ranged (g := 49) Tryz.f49 12 4 8 9 3 2 3 1 (c2 := [lsv encSt46 2 x0]) (c3 := encSt33 x1) (x := r) (y := 0) (x4 := 0) (out := Sum.elim (fun _ => none) some q) hFn hFH hFD hFK (by kernel_rfl) (by kernel_rfl) (by kernel_rfl) (by kernel_rfl) (by kernel_rfl) (by kernel_rfl) (by kernel_rfl) (by kernel_rfl) (by kernel_rfl) (by kernel_rfl) (by kernel_rfl)
  (by kernel_rfl) (by kernel_rfl) (by kernel_rfl) (by kernel_rfl) (by kernel_rfl) (by kernel_rfl) (by kernel_rfl) (by kernel_rfl) (by kernel_rfl) (by kernel_rfl) (by kernel_rfl) (by kernel_rfl) (by kernel_rfl) (by kernel_rfl) (by kernel_rfl) (by kernel_rfl) ?_ ?_ (plur_Of_it hq) (fun l cat s2 hs2 => ?_)
 ·intro ho
  cases q with
  | inl u => have h3 := joinX_inl h2; exact oi h3
  | inr v => cases ho
 ·intro cat ho
  cases q with
  | inl u => cases ho
  | inr v =>
   have h3 := joinX_inr h2
   have h4 := oi h3
   cases ho; exact h4
 ·refine ⟨[(4, .ptr 0 0), (5, .ptr 1 0)], [(4, .ptr 0 0)], [.box [.int .i64 0], .box [.int .i64 cat, s2]], [.box [.int .i64 cat], .box [.int .i64 cat, s2]], fun F' hF' => ?_, fun F' hF' => ?_, rfl⟩
  ·refine Ji.region ?_
   refine RJi.pre (N := 12) (wd_round l) 2 hF' ?_
   refine kC 2 [4,5] ?_
   refine kE ?_
   refine RJi.nx ?_
   exact RJi.done (fun a w hs => ⟨rfl, hs⟩)
  ·refine Ji.block 1 ?_
   refine Ji.seq ?_
   refine Ji.region ?_
   refine RJi.pre (N := 12) (wd_round l) 3 hF' ?_
   refine kC 3 [4] ?_
   refine kE ?_
   refine RJi.nx ?_
   refine RJi.done ?_
   refine Ji.retN ?_
   exact fun a w hs => ⟨rfl, hs⟩
def plur_Name (x0 : Int) : Option (List UInt8) :=
 (Option.bind plur_names fun y1 => (Option.bind (Option.bind (bif (decide (x0 < 0)) then (some true) else (some (decide (x0 ≥ 6)))) fun (s27 : Bool) => (bif s27 then (some (.inr ([] : List UInt8))) else (some (.inl ())))) (joinX fun (s19 : Unit) => (bif (decide (x0 = 0)) then (some y1.a0_) else (bif (decide (x0 = 1)) then (some y1.a1_) else (bif (decide (x0 = 2)) then (some y1.a2_) else (bif (decide (x0 = 3)) then (some y1.a3_) else (bif (decide (x0 = 4)) then (some y1.a4_) else (bif (decide (x0 = 5)) then (some y1.a5_) else none)))))))))
theorem plur_Name_ok {x0 : Int} {r : List UInt8} (h : plur_Name x0 = some r) : SC Tryz.prog 18 [.int .i64 x0] [] (.str r) [] := by
 refine kFn (fn := Tryz.f18) (fun F hFn hFH hFD => ?_)
 unfold plur_Name at h
 refine kSR ?_
 refine kC 1 [0,2] ?_
 refine kEN ?_
 refine kSR ?_
 obtain ⟨y1, hy2, h3⟩ := bindS h
 refine kA 4 (plur_names_ok hy2) ?_
 refine kC 2 [0,2,3] ?_
 refine kEN ?_
 obtain ⟨y20, hy21, h22⟩ := bindS h3
 refine K.cutX (by kernel_rfl) (fun (s19 : Unit) => ([(0, .int .i64 x0), (2, .str ([] : List UInt8)), (3, .ptr 0 0)], [.box (encSt60 y1)])) y20 ?_ (fun s19 hs => ?_)
 ·obtain ⟨s27, hy29, h31⟩ := bindS hy21
  refine K.cutN (by kernel_rfl) (fun (s27 : Bool) => ([(0, .int .i64 x0), (2, .str ([] : List UInt8)), (3, .ptr 0 0), (10, .bool s27)], [.box (encSt60 y1)])) s27 ?_ ?_
  ·refine kR ?_
   refine kC 3 [0,2,3,7] ?_
   refine kB 7 hy29 (fun h33 => ?_) (fun h34 => ?_)
   ·refine RJ.seg 3 [0, 2, 3, 10] (L2 := [(0, .int .i64 x0), (2, .str ([] : List UInt8)), (3, .ptr 0 0), (10, .bool true)]) (H2 := [.box (encSt60 y1)]) (by kernel_rfl) ?_
    refine kE ?_
    obtain rfl := oi h33
    exact kN [0, 2, 3, 10]
   ·refine RJ.seg 3 [0, 2, 3, 10] (L2 := [(0, .int .i64 x0), (2, .str ([] : List UInt8)), (3, .ptr 0 0), (10, .bool (decide (x0 ≥ 6)))]) (H2 := [.box (encSt60 y1)]) (by kernel_rfl) ?_
    refine kE ?_
    obtain rfl := oi h34
    exact kN [0, 2, 3, 10]
  ·refine kBJ 10 h31 (fun h36 => ?_) (fun h37 => ?_)
   ·refine kT ?_
    refine kSR ?_
    refine kC 1 [0,2,3] ?_
    refine kEN ?_
    refine kX ?_
    obtain rfl := oi h36
    have h38 := joinX_inr h22
    refine PJ.cutXr (fun e => nomatch e) ?_
    obtain rfl := oi h38
    exact kZ hFn hFH hFD
   ·refine kF ?_
    refine kK ?_
    obtain rfl := oi h37
    exact PJ.cutXl [0, 2, 3] (by kernel_rfl) (by kernel_rfl)
 ·subst hs
  have h23 := joinX_inl h22
  refine kSR ?_
  refine kC 1 [2,3,11] ?_
  cases hb39 : (decide (x0 = 0))
  ·have h41 := condF hb39 h23
   cases hb42 : (decide (x0 = 1))
   ·have h44 := condF hb42 h41
    cases hb45 : (decide (x0 = 2))
    ·have h47 := condF hb45 h44
     cases hb48 : (decide (x0 = 3))
     ·have h50 := condF hb48 h47
      cases hb51 : (decide (x0 = 4))
      ·have h53 := condF hb51 h50
       cases hb54 : (decide (x0 = 5))
       ·have h56 := condF hb54 h53
        cases h56
       ·have h55 := condT hb54 h53
        refine RJ.pin 11 (kd := .i64) (by kernel_rfl) (of_decide_eq_true hb54) ?_
        refine kC 3 [2] ?_
        refine kEN ?_
        refine kX ?_
        obtain rfl := oi h55
        exact kZ hFn hFH hFD
      ·have h52 := condT hb51 h50
       refine RJ.pin 11 (kd := .i64) (by kernel_rfl) (of_decide_eq_true hb51) ?_
       refine kC 3 [2] ?_
       refine kEN ?_
       refine kX ?_
       obtain rfl := oi h52
       exact kZ hFn hFH hFD
     ·have h49 := condT hb48 h47
      refine RJ.pin 11 (kd := .i64) (by kernel_rfl) (of_decide_eq_true hb48) ?_
      refine kC 3 [2] ?_
      refine kEN ?_
      refine kX ?_
      obtain rfl := oi h49
      exact kZ hFn hFH hFD
    ·have h46 := condT hb45 h44
     refine RJ.pin 11 (kd := .i64) (by kernel_rfl) (of_decide_eq_true hb45) ?_
     refine kC 3 [2] ?_
     refine kEN ?_
     refine kX ?_
     obtain rfl := oi h46
     exact kZ hFn hFH hFD
   ·have h43 := condT hb42 h41
    refine RJ.pin 11 (kd := .i64) (by kernel_rfl) (of_decide_eq_true hb42) ?_
    refine kC 3 [2] ?_
    refine kEN ?_
    refine kX ?_
    obtain rfl := oi h43
    exact kZ hFn hFH hFD
  ·have h40 := condT hb39 h23
   refine RJ.pin 11 (kd := .i64) (by kernel_rfl) (of_decide_eq_true hb39) ?_
   refine kC 3 [2] ?_
   refine kEN ?_
   refine kX ?_
   obtain rfl := oi h40
   exact kZ hFn hFH hFD
def plur_Right (x0 : List St46) : Option (Bool) :=
 (Option.bind (loopN (fun (s447 : Int × Int) => (bif (decide (s447.2 < (x0.length : Int))) then (Option.bind (bif inR s447.2 x0.length then (Option.bind (Option.bind (Option.bind (plur_rises s447.1 ((nth x0 s447.2).Cat_)) fun y869 => (bif (!y869) then (some true) else (Option.bind (rule_Right ((nth x0 s447.2).C_)) fun y875 => (some (!y875))))) fun (s864 : Bool) => (bif s864 then (some (.inr (.inr (.inr (.inr false))))) else (some (.inl ())))) (joinX fun (s850 : Unit) => (some (.inl ())))) else none) (joinX fun (s813 : Unit) => (some (.inl ((nth x0 s447.2).Cat_, (IntKind.wrap .i64 (s447.2 + 1))))))) else (some (.inr (.inl ()))))) big (0, 0)) (joinX fun (s442 : Unit) => (some true)))
theorem plur_Right_ok {x0 : List St46} {r : Bool} (h : plur_Right x0 = some r) : SC Tryz.prog 17 [lsv encSt46 2 x0] [] (.bool r) [] := by
 refine kFn (fn := Tryz.f17) (fun F hFn hFH hFD => ?_)
 unfold plur_Right at h
 refine kSR ?_
 refine kC 1 [0,2] ?_
 refine kEN ?_
 refine kSR ?_
 refine kC 1 [0,2,3] ?_
 refine kEN ?_
 obtain ⟨y443, hy444, h445⟩ := bindS h
 refine K.cutX (by kernel_rfl) (fun (s442 : Unit) => ([(2, .bool false)], [])) y443 ?_ (fun s442 hs => ?_)
 ·refine kSR ?_
  refine kC 3 [2,3,6,7,8] ?_
  refine kEN ?_
  refine K.block 0 (by kernel_rfl) ?_
  refine K.loop (by kernel_rfl) (fun (s447 : Int × Int) => ([(2, .bool false), (3, .int .i64 s447.1), (6, lsv encSt46 2 x0), (7, .int .i64 (x0.length : Int)), (8, .int .i64 s447.2)], [])) hy444 [2, 3, 6, 7, 8] (by kernel_rfl) (by kernel_rfl) (fun s447 x741 hs740 => ?_)
  refine kSR ?_
  refine kC 1 [2,3,6,7,8,9] ?_
  refine kEN ?_
  refine kS ?_
  refine kBJ 9 hs740 (fun h743 => ?_) (fun h744 => ?_)
  ·refine kT ?_
   refine kK ?_
   refine PJ.next ?_
   obtain ⟨y814, hy815, h816⟩ := bindS h743
   refine K.cutX (by kernel_rfl) (fun (s813 : Unit) => ([(2, .bool false), (3, .int .i64 ((nth x0 s447.2).Cat_)), (6, lsv encSt46 2 x0), (7, .int .i64 (x0.length : Int)), (8, .int .i64 s447.2)], [])) y814 ?_ (fun s813 hs => ?_)
   ·refine K.block 1 (by kernel_rfl) ?_
    refine kSR ?_
    obtain ⟨hm, h818⟩ := asrt hy815
    refine kI 10 encSt46_len hm ?_
    refine kC 3 [2,3,5,6,7,8] ?_
    refine kEN ?_
    obtain ⟨y851, hy852, h853⟩ := bindS h818
    refine K.cutX (by kernel_rfl) (fun (s850 : Unit) => ([(2, .bool false), (3, .int .i64 s447.1), (5, .ptr 0 0), (6, lsv encSt46 2 x0), (7, .int .i64 (x0.length : Int)), (8, .int .i64 s447.2)], [.box [.int .i64 ((nth x0 s447.2).Cat_), lsv (encL encSt75 4) 1 ((nth x0 s447.2).C_)]])) y851 ?_ (fun s850 hs => ?_)
    ·obtain ⟨s864, hy866, h868⟩ := bindS hy852
     refine K.cutN (by kernel_rfl) (fun (s864 : Bool) => ([(2, .bool false), (3, .int .i64 s447.1), (5, .ptr 0 0), (6, lsv encSt46 2 x0), (7, .int .i64 (x0.length : Int)), (8, .int .i64 s447.2), (22, .bool s864)], [.box [.int .i64 ((nth x0 s447.2).Cat_), lsv (encL encSt75 4) 1 ((nth x0 s447.2).C_)]])) s864 ?_ ?_
     ·refine kR ?_
      refine kC 3 [2,3,5,6,7,8,12,14] ?_
      obtain ⟨y869, hy870, h871⟩ := bindS hy866
      refine kA 15 (plur_rises_ok hy870) ?_
      refine RJ.seg 2 [2, 3, 5, 6, 7, 8, 17] (L2 := [(2, .bool false), (3, .int .i64 s447.1), (5, .ptr 0 0), (6, lsv encSt46 2 x0), (7, .int .i64 (x0.length : Int)), (8, .int .i64 s447.2), (17, .bool (!y869))]) (H2 := [.box [.int .i64 ((nth x0 s447.2).Cat_), lsv (encL encSt75 4) 1 ((nth x0 s447.2).C_)]]) (by kernel_rfl) ?_
      refine kB 17 h871 (fun h873 => ?_) (fun h874 => ?_)
      ·refine kC 5 [2,3,5,6,7,8,22] ?_
       refine kE ?_
       obtain rfl := oi h873
       exact kN [2, 3, 5, 6, 7, 8, 22]
      ·refine kC 2 [2,3,5,6,7,8,17,19] ?_
       obtain ⟨y875, hy876, h877⟩ := bindS h874
       refine kA 20 (rule_Right_ok hy876) ?_
       refine kC 2 [2,3,5,6,7,8,22] ?_
       refine kE ?_
       obtain rfl := oi h877
       exact kN [2, 3, 5, 6, 7, 8, 22]
     ·refine kBJ 22 h868 (fun h879 => ?_) (fun h880 => ?_)
      ·refine kT ?_
       refine kSR ?_
       refine kC 1 [2,3,5,6,7,8] ?_
       refine kEN ?_
       refine kX ?_
       obtain rfl := oi h879
       have h881 := joinX_inr h853
       refine PJ.cutXr (fun e => nomatch e) ?_
       refine PJ.blockRet ?_
       obtain rfl := oi h881
       have h882 := joinX_inr h816
       refine PJ.cutXr (fun e => nomatch e) ?_
       obtain rfl := oi h882
       refine PJ.loopOut (fun e => nomatch e) (fun he885 => ?_)
       have h883 := congrArg some he885
       refine PJ.blockRet ?_
       obtain rfl := oi h883
       have h884 := joinX_inr h445
       refine PJ.cutXr (fun e => nomatch e) ?_
       obtain rfl := oi h884
       exact kZ hFn hFH hFD
      ·refine kF ?_
       refine kK ?_
       obtain rfl := oi h880
       exact PJ.cutXl [2, 3, 5, 6, 7, 8] (by kernel_rfl) (by kernel_rfl)
    ·subst hs
     have h854 := joinX_inl h853
     refine kR ?_
     refine kC 3 [2,3,6,7,8] ?_
     refine kE ?_
     refine PJ.blockNormal ?_
     obtain rfl := oi h854
     refine PJ.wk (Wk.sel (L2 := [(2, .bool false), (3, .int .i64 ((nth x0 s447.2).Cat_)), (6, lsv encSt46 2 x0), (7, .int .i64 (x0.length : Int)), (8, .int .i64 s447.2)]) (H2 := []) 0 (by rw [hFH]; rfl) hFD [] (by kernel_rfl) (by kernel_rfl) (by decide) (by kernel_rfl) (by kernel_rfl) (by kernel_rfl) (by kernel_rfl)) ?_
     exact PJ.cutXl [2, 3, 6, 7, 8] (by kernel_rfl) (by kernel_rfl)
   ·subst hs
    have h817 := joinX_inl h816
    refine kR ?_
    refine kC 2 [2,3,6,7,8] ?_
    refine kE ?_
    obtain rfl := oi h817
    exact PJ.loopNext [2, 3, 6, 7, 8] (by kernel_rfl) (by kernel_rfl)
  ·refine kF ?_
   refine K.exit 0 (by kernel_rfl) ?_
   refine PJ.passExit ?_
   obtain rfl := oi h744
   refine PJ.loopOut (fun e => nomatch e) (fun he887 => ?_)
   have h886 := congrArg some he887
   refine PJ.blockOut ?_
   obtain rfl := oi h886
   exact PJ.cutXl [2] (by kernel_rfl) (by kernel_rfl)
 ·subst hs
  have h446 := joinX_inl h445
  refine kSR ?_
  refine kC 1 [2] ?_
  refine kEN ?_
  refine kX ?_
  obtain rfl := oi h446
  exact kZ hFn hFH hFD
def exerguelaw12_shown  : Option (Bool) :=
 (Option.bind (plur_Read (([(⟨2, ([110, 32, 61, 32, 49] : List UInt8)⟩ : St49)] : List St49))) fun y1 => (Option.bind (bif (decide (y1.2.2 = 0)) then (bif (decide ((y1.1.length : Int) = 1)) then (Option.bind (plur_Of y1.1 (⟨([1] : List Int), ([] : List Int), 0, 0⟩ : St33)) fun y42 => (bif (decide (y42 = 2)) then (Option.bind (plur_Of y1.1 (⟨([2] : List Int), ([] : List Int), 0, 0⟩ : St33)) fun y48 => (bif (decide (y48 = 0)) then (Option.bind (plur_Name 2) fun y54 => (bif (y54 == ([111, 110, 101] : List UInt8)) then (Option.bind (plur_Right y1.1) fun y60 => (some y60)) else (some false))) else (some false))) else (some false))) else (some false)) else (some false)) fun (s31 : Bool) => (some s31)))
theorem exerguelaw12_shown_ok  {r : Bool} (h : exerguelaw12_shown = some r) : SC Tryz.prog 7 [] [] (.bool r) [] := by
 refine kFn (fn := Tryz.f7) (fun F hFn hFH hFD => ?_)
 unfold exerguelaw12_shown at h
 refine kSR ?_
 refine kC 1 [0] ?_
 refine kEN ?_
 refine kSR ?_
 refine kC 2 [0,6] ?_
 obtain ⟨y1, hy2, h3⟩ := bindS h
 refine RJ.wk (Wk.freeze 0 (n := (([(⟨2, ([110, 32, 61, 32, 49] : List UInt8)⟩ : St49)] : List St49)).length) (k := 2) (e := 50) (cs := (([(⟨2, ([110, 32, 61, 32, 49] : List UInt8)⟩ : St49)] : List St49)).flatMap encSt49) (by kernel_rfl)) ?_
 refine kA 7 (plur_Read_ok hy2) ?_
 refine kC 7 [0,1,3] ?_
 refine kEN ?_
 obtain ⟨s31, hy33, h35⟩ := bindS h3
 refine K.cutN (by kernel_rfl) (fun (s31 : Bool) => ([(0, .bool s31)], [])) s31 ?_ ?_
 ·refine kR ?_
  refine RJ.seg 3 [0, 1, 13] (L2 := [(0, .bool false), (1, lsv encSt46 2 y1.1), (13, .bool (decide (y1.2.2 = 0)))]) (H2 := [.gone]) (by kernel_rfl) ?_
  refine kB 13 hy33 (fun h37 => ?_) (fun h38 => ?_)
  ·refine kC 5 [0,1,18] ?_
   refine kB 18 h37 (fun h40 => ?_) (fun h41 => ?_)
   ·refine kC 3 [0,1,18,19,21] ?_
    obtain ⟨y42, hy43, h44⟩ := bindS h40
    refine RJ.callL (d := (some 22)) (f := 21) (args := [lsv encSt46 2 y1.1, .agg [.vc 1, .nl, .int .i64 0, .int .i64 0]]) (args0 := [lsv encSt46 2 y1.1, .agg [.vc 0, .nl, .int .i64 0, .int .i64 0]]) (args1 := [lsv encSt46 2 y1.1, .agg [lsv (encI .u8) 1 ([1] : List Int), .nl, .int .i64 0, .int .i64 0]]) (H0 := [vecL (encI .u8) 1 5 ([1] : List Int)]) (v := .int .i64 y42) (tr2 := []) [1] (by kernel_rfl) (by kernel_rfl) (by kernel_rfl) (by kernel_rfl) (by decide) (by kernel_rfl) (by kernel_rfl) (by kernel_rfl) (by kernel_rfl) (.cons (Le.refl _) (.cons (Le.agg (.cons (Le.refl _) (.cons (Le.nl _) (.cons (Le.refl _) (.cons (Le.refl _) .nil))))) .nil)) (plur_Of_ok hy43) (by kernel_rfl) (by kernel_rfl) ?_
    refine kC 3 [0,1,25] ?_
    refine kB 25 h44 (fun h46 => ?_) (fun h47 => ?_)
    ·refine RJ.seg 3 [0, 1, 25, 26, 28] (L2 := [(0, .bool false), (1, lsv encSt46 2 y1.1), (25, .bool true), (26, lsv encSt46 2 y1.1), (28, .agg [.vc 2, .nl, .int .i64 0, .int .i64 0])]) (H2 := [.gone, vecL (encI .u8) 1 5 ([1] : List Int), vecL (encI .u8) 1 5 ([2] : List Int)]) (by kernel_rfl) ?_
     obtain ⟨y48, hy49, h50⟩ := bindS h46
     refine RJ.callL (d := (some 29)) (f := 21) (args := [lsv encSt46 2 y1.1, .agg [.vc 2, .nl, .int .i64 0, .int .i64 0]]) (args0 := [lsv encSt46 2 y1.1, .agg [.vc 0, .nl, .int .i64 0, .int .i64 0]]) (args1 := [lsv encSt46 2 y1.1, .agg [lsv (encI .u8) 1 ([2] : List Int), .nl, .int .i64 0, .int .i64 0]]) (H0 := [vecL (encI .u8) 1 5 ([2] : List Int)]) (v := .int .i64 y48) (tr2 := []) [2] (by kernel_rfl) (by kernel_rfl) (by kernel_rfl) (by kernel_rfl) (by decide) (by kernel_rfl) (by kernel_rfl) (by kernel_rfl) (by kernel_rfl) (.cons (Le.refl _) (.cons (Le.agg (.cons (Le.refl _) (.cons (Le.nl _) (.cons (Le.refl _) (.cons (Le.refl _) .nil))))) .nil)) (plur_Of_ok hy49) (by kernel_rfl) (by kernel_rfl) ?_
     refine kC 3 [0,1,32] ?_
     refine kB 32 h50 (fun h52 => ?_) (fun h53 => ?_)
     ·obtain ⟨y54, hy55, h56⟩ := bindS h52
      refine kA 33 (plur_Name_ok hy55) ?_
      refine kC 3 [0,1,36] ?_
      refine kB 36 h56 (fun h58 => ?_) (fun h59 => ?_)
      ·refine kC 1 [0,36,37] ?_
       obtain ⟨y60, hy61, h62⟩ := bindS h58
       refine kA 38 (plur_Right_ok hy61) ?_
       refine RJ.seg 2 [0] (L2 := [(0, .bool y60)]) (H2 := [.gone, vecL (encI .u8) 1 5 ([1] : List Int), vecL (encI .u8) 1 5 ([2] : List Int)]) (by kernel_rfl) ?_
       refine kE ?_
       obtain rfl := oi h62
       refine PJ.wk (Wk.sel (L2 := [(0, .bool y60)]) (H2 := []) 0 (by rw [hFH]; rfl) hFD [] (by kernel_rfl) (by kernel_rfl) (by decide) (by kernel_rfl) (by kernel_rfl) (by kernel_rfl) (by kernel_rfl)) ?_
       exact kN [0]
      ·refine kC 4 [0] ?_
       refine kE ?_
       obtain rfl := oi h59
       refine PJ.wk (Wk.sel (L2 := [(0, .bool false)]) (H2 := []) 0 (by rw [hFH]; rfl) hFD [] (by kernel_rfl) (by kernel_rfl) (by decide) (by kernel_rfl) (by kernel_rfl) (by kernel_rfl) (by kernel_rfl)) ?_
       exact kN [0]
     ·refine kC 8 [0] ?_
      refine kE ?_
      obtain rfl := oi h53
      refine PJ.wk (Wk.sel (L2 := [(0, .bool false)]) (H2 := []) 0 (by rw [hFH]; rfl) hFD [] (by kernel_rfl) (by kernel_rfl) (by decide) (by kernel_rfl) (by kernel_rfl) (by kernel_rfl) (by kernel_rfl)) ?_
      exact kN [0]
    ·refine RJ.seg 15 [0] (L2 := [(0, .bool false)]) (H2 := [.gone, vecL (encI .u8) 1 5 ([1] : List Int)]) (by kernel_rfl) ?_
     refine kE ?_
     obtain rfl := oi h47
     refine PJ.wk (Wk.sel (L2 := [(0, .bool false)]) (H2 := []) 0 (by rw [hFH]; rfl) hFD [] (by kernel_rfl) (by kernel_rfl) (by decide) (by kernel_rfl) (by kernel_rfl) (by kernel_rfl) (by kernel_rfl)) ?_
     exact kN [0]
   ·refine kC 22 [0] ?_
    refine kE ?_
    obtain rfl := oi h41
    refine PJ.wk (Wk.sel (L2 := [(0, .bool false)]) (H2 := []) 0 (by rw [hFH]; rfl) hFD [] (by kernel_rfl) (by kernel_rfl) (by decide) (by kernel_rfl) (by kernel_rfl) (by kernel_rfl) (by kernel_rfl)) ?_
    exact kN [0]
  ·refine kC 27 [0] ?_
   refine kE ?_
   obtain rfl := oi h38
   refine PJ.wk (Wk.sel (L2 := [(0, .bool false)]) (H2 := []) 0 (by rw [hFH]; rfl) hFD [] (by kernel_rfl) (by kernel_rfl) (by decide) (by kernel_rfl) (by kernel_rfl) (by kernel_rfl) (by kernel_rfl)) ?_
   exact kN [0]
 ·refine kX ?_
  obtain rfl := oi h35
  exact kZ hFn hFH hFD
def exerguelaw12_short (x0 : List St49) : Option (Bool) :=
 (Option.bind (loopN (fun (s159 : Int) => (bif (decide (s159 < (x0.length : Int))) then (Option.bind (Option.bind (bif (decide (s159 ≥ 8)) then (some true) else (bif inR s159 x0.length then (some ((decide (((((nth x0 s159).Text_).length : Int)) > 500)))) else none)) fun (s294 : Bool) => (bif s294 then (some (.inr (.inr (.inr false)))) else (some (.inl ())))) (joinX fun (s285 : Unit) => (some (.inl (IntKind.wrap .i64 (s159 + 1)))))) else (some (.inr (.inl ()))))) big 0) (joinX fun (s154 : Unit) => (some true)))
theorem exerguelaw12_short_ok {x0 : List St49} {r : Bool} (h : exerguelaw12_short x0 = some r) : SC Tryz.prog 8 [lsv encSt49 2 x0] [] (.bool r) [] := by
 refine kFn (fn := Tryz.f8) (fun F hFn hFH hFD => ?_)
 unfold exerguelaw12_short at h
 refine kSR ?_
 refine kC 1 [0,2] ?_
 refine kEN ?_
 obtain ⟨y155, hy156, h157⟩ := bindS h
 refine K.cutX (by kernel_rfl) (fun (s154 : Unit) => ([(2, .bool false)], [])) y155 ?_ (fun s154 hs => ?_)
 ·refine kSR ?_
  refine kC 1 [0,2,3] ?_
  refine kEN ?_
  refine K.block 0 (by kernel_rfl) ?_
  refine K.loop (by kernel_rfl) (fun (s159 : Int) => ([(0, lsv encSt49 2 x0), (2, .bool false), (3, .int .i64 s159)], [])) hy156 [0, 2, 3] (by kernel_rfl) (by kernel_rfl) (fun s159 x261 hs260 => ?_)
  refine kS ?_
  refine kSR ?_
  refine kC 4 [0,2,3,7] ?_
  refine kEN ?_
  refine kBJ 7 hs260 (fun h263 => ?_) (fun h264 => ?_)
  ·refine kT ?_
   refine kK ?_
   refine PJ.next ?_
   obtain ⟨y286, hy287, h288⟩ := bindS h263
   refine K.cutX (by kernel_rfl) (fun (s285 : Unit) => ([(0, lsv encSt49 2 x0), (2, .bool false), (3, .int .i64 s159)], [])) y286 ?_ (fun s285 hs => ?_)
   ·refine K.block 1 (by kernel_rfl) ?_
    obtain ⟨s294, hy296, h298⟩ := bindS hy287
    refine K.cutN (by kernel_rfl) (fun (s294 : Bool) => ([(0, lsv encSt49 2 x0), (2, .bool false), (3, .int .i64 s159), (20, .bool s294)], [])) s294 ?_ ?_
    ·refine kR ?_
     refine kC 3 [0,2,3,12] ?_
     refine kB 12 hy296 (fun h300 => ?_) (fun h301 => ?_)
     ·refine kC 8 [0,2,3,20] ?_
      refine kE ?_
      obtain rfl := oi h300
      exact kN [0, 2, 3, 20]
     ·refine kC 2 [0,2,3,12,13,14] ?_
      obtain ⟨hm, h302⟩ := asrt h301
      refine kI 15 encSt49_len hm ?_
      refine RJ.seg 5 [0, 2, 3, 20] (L2 := [(0, lsv encSt49 2 x0), (2, .bool false), (3, .int .i64 s159), (20, .bool ((decide (((((nth x0 s159).Text_).length : Int)) > 500))))]) (H2 := []) (by kernel_rfl) ?_
      refine kE ?_
      obtain rfl := oi h302
      exact kN [0, 2, 3, 20]
    ·refine kBJ 20 h298 (fun h304 => ?_) (fun h305 => ?_)
     ·refine kT ?_
      refine kSR ?_
      refine kC 1 [0,2,3] ?_
      refine kEN ?_
      refine kX ?_
      refine PJ.blockRet ?_
      obtain rfl := oi h304
      have h306 := joinX_inr h288
      refine PJ.cutXr (fun e => nomatch e) ?_
      obtain rfl := oi h306
      refine PJ.loopOut (fun e => nomatch e) (fun he309 => ?_)
      have h307 := congrArg some he309
      refine PJ.blockRet ?_
      obtain rfl := oi h307
      have h308 := joinX_inr h157
      refine PJ.cutXr (fun e => nomatch e) ?_
      obtain rfl := oi h308
      exact kZ hFn hFH hFD
     ·refine kF ?_
      refine kK ?_
      refine PJ.blockNormal ?_
      obtain rfl := oi h305
      exact PJ.cutXl [0, 2, 3] (by kernel_rfl) (by kernel_rfl)
   ·subst hs
    have h289 := joinX_inl h288
    refine kR ?_
    refine kC 3 [0,2,3] ?_
    refine kE ?_
    obtain rfl := oi h289
    exact PJ.loopNext [0, 2, 3] (by kernel_rfl) (by kernel_rfl)
  ·refine kF ?_
   refine K.exit 0 (by kernel_rfl) ?_
   refine PJ.passExit ?_
   obtain rfl := oi h264
   refine PJ.loopOut (fun e => nomatch e) (fun he311 => ?_)
   have h310 := congrArg some he311
   refine PJ.blockOut ?_
   obtain rfl := oi h310
   exact PJ.cutXl [2] (by kernel_rfl) (by kernel_rfl)
 ·subst hs
  have h158 := joinX_inl h157
  refine kSR ?_
  refine kC 1 [2] ?_
  refine kEN ?_
  refine kX ?_
  obtain rfl := oi h158
  exact kZ hFn hFH hFD
def exergueref11_over (x0 : List UInt8) (x1 : Int) : Option (Int) :=
 (Option.bind (loopN (fun (s138 : Int) => (Option.bind (Option.bind (bif (decide (s138 < (x0.length : Int))) then (bif inR s138 x0.length then (some ((decide (((((x0.getD (s138 : Int).toNat 0).toNat : Nat) : Int)) = 32)))) else none) else (some false)) fun (s255 : Bool) => (bif s255 then (some (.inl ())) else (some (.inr (.inr s138))))) (joinX fun (s246 : Unit) => (some (.inl (IntKind.wrap .i64 (s138 + 1))))))) big x1) fun (s133 : Int) => (some s133))
theorem exergueref11_over_ok {x0 : List UInt8} {x1 : Int} {r : Int} (h : exergueref11_over x0 x1 = some r) : SC Tryz.prog 42 [.str x0, .int .i64 x1] [] (.int .i64 r) [] := by
 refine kFn (fn := Tryz.f42) (fun F hFn hFH hFD => ?_)
 unfold exergueref11_over at h
 refine kSR ?_
 refine kC 1 [0,1,4] ?_
 refine kEN ?_
 obtain ⟨s133, hy135, h137⟩ := bindS h
 refine K.cutN (by kernel_rfl) (fun (s133 : Int) => ([(1, .int .i64 s133), (4, .int .i64 0)], [])) s133 ?_ ?_
 ·refine K.block 0 (by kernel_rfl) ?_
  refine K.loop (by kernel_rfl) (fun (s138 : Int) => ([(0, .str x0), (1, .int .i64 s138), (4, .int .i64 0)], [])) hy135 [0, 1, 4] (by kernel_rfl) (by kernel_rfl) (fun s138 x226 hs225 => ?_)
  obtain ⟨y247, hy248, h249⟩ := bindS hs225
  refine K.cutX (by kernel_rfl) (fun (s246 : Unit) => ([(0, .str x0), (1, .int .i64 s138), (4, .int .i64 0)], [])) y247 ?_ (fun s246 hs => ?_)
  ·obtain ⟨s255, hy257, h259⟩ := bindS hy248
   refine K.cutN (by kernel_rfl) (fun (s255 : Bool) => ([(0, .str x0), (1, .int .i64 s138), (4, .int .i64 0), (14, .bool s255)], [])) s255 ?_ ?_
   ·refine kR ?_
    refine kC 5 [0,1,4,9] ?_
    refine kB 9 hy257 (fun h261 => ?_) (fun h262 => ?_)
    ·refine kC 2 [0,1,4,9,10,11] ?_
     obtain ⟨hm, h263⟩ := asrt h261
     refine kG 12 hm ?_
     refine kC 2 [0,1,4,14] ?_
     refine kE ?_
     obtain rfl := oi h263
     exact kN [0, 1, 4, 14]
    ·refine kC 5 [0,1,4,14] ?_
     refine kE ?_
     obtain rfl := oi h262
     exact kN [0, 1, 4, 14]
   ·refine kBJ 14 h259 (fun h265 => ?_) (fun h266 => ?_)
    ·refine kT ?_
     refine kK ?_
     obtain rfl := oi h265
     exact PJ.cutXl [0, 1, 4] (by kernel_rfl) (by kernel_rfl)
    ·refine kF ?_
     refine K.exit 0 (by kernel_rfl) ?_
     obtain rfl := oi h266
     have h267 := joinX_inr h249
     refine PJ.cutXr (fun e => nomatch e) ?_
     obtain rfl := oi h267
     refine PJ.loopOut (fun e => nomatch e) (fun he269 => ?_)
     have h268 := congrArg some he269
     refine PJ.blockOut ?_
     obtain rfl := oi h268
     exact kN [1, 4]
  ·subst hs
   have h250 := joinX_inl h249
   refine K.block 1 (by kernel_rfl) ?_
   refine kR ?_
   refine kC 3 [0,1,4] ?_
   refine kE ?_
   refine PJ.blockNormal ?_
   obtain rfl := oi h250
   exact PJ.loopNext [0, 1, 4] (by kernel_rfl) (by kernel_rfl)
 ·refine kSR ?_
  refine kC 2 [4] ?_
  refine kEN ?_
  refine kX ?_
  obtain rfl := oi h137
  exact kZ hFn hFH hFD
def exergueref11_word (x0 : List UInt8) (x1 : Int) : Option (Int) :=
 (Option.bind (loopN (fun (s186 : Int) => (Option.bind (Option.bind (bif (decide (s186 < (x0.length : Int))) then (bif inR s186 x0.length then (bif (decide (((((x0.getD (s186 : Int).toNat 0).toNat : Nat) : Int)) ≥ 97)) then (bif inR s186 x0.length then (some ((decide (((((x0.getD (s186 : Int).toNat 0).toNat : Nat) : Int)) ≤ 122)))) else none) else (some false)) else none) else (some false)) fun (s347 : Bool) => (bif s347 then (some (.inl ())) else (some (.inr (.inr s186))))) (joinX fun (s334 : Unit) => (some (.inl (IntKind.wrap .i64 (s186 + 1))))))) big x1) fun (s181 : Int) => (some s181))
theorem exergueref11_word_ok {x0 : List UInt8} {x1 : Int} {r : Int} (h : exergueref11_word x0 x1 = some r) : SC Tryz.prog 43 [.str x0, .int .i64 x1] [] (.int .i64 r) [] := by
 refine kFn (fn := Tryz.f43) (fun F hFn hFH hFD => ?_)
 unfold exergueref11_word at h
 refine kSR ?_
 refine kC 1 [0,1,4] ?_
 refine kEN ?_
 obtain ⟨s181, hy183, h185⟩ := bindS h
 refine K.cutN (by kernel_rfl) (fun (s181 : Int) => ([(1, .int .i64 s181), (4, .int .i64 0)], [])) s181 ?_ ?_
 ·refine K.block 0 (by kernel_rfl) ?_
  refine K.loop (by kernel_rfl) (fun (s186 : Int) => ([(0, .str x0), (1, .int .i64 s186), (4, .int .i64 0)], [])) hy183 [0, 1, 4] (by kernel_rfl) (by kernel_rfl) (fun s186 x306 hs305 => ?_)
  obtain ⟨y335, hy336, h337⟩ := bindS hs305
  refine K.cutX (by kernel_rfl) (fun (s334 : Unit) => ([(0, .str x0), (1, .int .i64 s186), (4, .int .i64 0)], [])) y335 ?_ (fun s334 hs => ?_)
  ·obtain ⟨s347, hy349, h351⟩ := bindS hy336
   refine K.cutN (by kernel_rfl) (fun (s347 : Bool) => ([(0, .str x0), (1, .int .i64 s186), (4, .int .i64 0), (20, .bool s347)], [])) s347 ?_ ?_
   ·refine kR ?_
    refine kC 5 [0,1,4,9] ?_
    refine kB 9 hy349 (fun h353 => ?_) (fun h354 => ?_)
    ·refine kC 2 [0,1,4,9,10,11] ?_
     obtain ⟨hm, h355⟩ := asrt h353
     refine kG 12 hm ?_
     refine kC 3 [0,1,4,15] ?_
     refine kB 15 h355 (fun h357 => ?_) (fun h358 => ?_)
     ·refine RJ.seg 2 [0, 1, 4, 15, 16, 17] (L2 := [(0, .str x0), (1, .int .i64 s186), (4, .int .i64 0), (15, .bool true), (16, .str x0), (17, .int .i64 s186)]) (H2 := []) (by kernel_rfl) ?_
      obtain ⟨hm, h359⟩ := asrt h357
      refine kG 18 hm ?_
      refine kC 2 [0,1,4,20] ?_
      refine kE ?_
      obtain rfl := oi h359
      exact kN [0, 1, 4, 20]
     ·refine RJ.seg 5 [0, 1, 4, 20] (L2 := [(0, .str x0), (1, .int .i64 s186), (4, .int .i64 0), (20, .bool false)]) (H2 := []) (by kernel_rfl) ?_
      refine kE ?_
      obtain rfl := oi h358
      exact kN [0, 1, 4, 20]
    ·refine kC 11 [0,1,4,20] ?_
     refine kE ?_
     obtain rfl := oi h354
     exact kN [0, 1, 4, 20]
   ·refine kBJ 20 h351 (fun h361 => ?_) (fun h362 => ?_)
    ·refine kT ?_
     refine kK ?_
     obtain rfl := oi h361
     exact PJ.cutXl [0, 1, 4] (by kernel_rfl) (by kernel_rfl)
    ·refine kF ?_
     refine K.exit 0 (by kernel_rfl) ?_
     obtain rfl := oi h362
     have h363 := joinX_inr h337
     refine PJ.cutXr (fun e => nomatch e) ?_
     obtain rfl := oi h363
     refine PJ.loopOut (fun e => nomatch e) (fun he365 => ?_)
     have h364 := congrArg some he365
     refine PJ.blockOut ?_
     obtain rfl := oi h364
     exact kN [1, 4]
  ·subst hs
   have h338 := joinX_inl h337
   refine K.block 1 (by kernel_rfl) ?_
   refine kR ?_
   refine kC 3 [0,1,4] ?_
   refine kE ?_
   refine PJ.blockNormal ?_
   obtain rfl := oi h338
   exact PJ.loopNext [0, 1, 4] (by kernel_rfl) (by kernel_rfl)
 ·refine kSR ?_
  refine kC 2 [4] ?_
  refine kEN ?_
  refine kX ?_
  obtain rfl := oi h185
  exact kZ hFn hFH hFD
def exergueref11_op (x0 : Int) : Option (Bool) :=
 (Option.bind (bif (decide (x0 = 110)) then (some true) else (bif (decide (x0 = 105)) then (some true) else (bif (decide (x0 = 118)) then (some true) else (bif (decide (x0 = 119)) then (some true) else (bif (decide (x0 = 102)) then (some true) else (bif (decide (x0 = 116)) then (some true) else (bif (decide (x0 = 99)) then (some true) else (some (decide (x0 = 101)))))))))) fun (s22 : Bool) => (some s22))
theorem exergueref11_op_ok {x0 : Int} {r : Bool} (h : exergueref11_op x0 = some r) : SC Tryz.prog 55 [.int .u8 x0] [] (.bool r) [] := by
 refine kFn (fn := Tryz.f55) (fun F hFn hFH hFD => ?_)
 unfold exergueref11_op at h
 refine kSR ?_
 refine kC 1 [0,2] ?_
 refine kEN ?_
 obtain ⟨s22, hy24, h26⟩ := bindS h
 refine K.cutN (by kernel_rfl) (fun (s22 : Bool) => ([(2, .bool s22)], [])) s22 ?_ ?_
 ·refine kR ?_
  refine kC 3 [0,2,5] ?_
  refine kB 5 hy24 (fun h28 => ?_) (fun h29 => ?_)
  ·refine kC 28 [2] ?_
   refine kE ?_
   obtain rfl := oi h28
   exact kN [2]
  ·refine kC 4 [0,2,9] ?_
   refine kB 9 h29 (fun h31 => ?_) (fun h32 => ?_)
   ·refine RJ.seg 24 [2] (L2 := [(2, .bool true)]) (H2 := []) (by kernel_rfl) ?_
    refine kE ?_
    obtain rfl := oi h31
    exact kN [2]
   ·refine RJ.seg 4 [0, 2, 13] (L2 := [(0, .int .u8 x0), (2, .bool false), (13, .bool (decide (x0 = 118)))]) (H2 := []) (by kernel_rfl) ?_
    refine kB 13 h32 (fun h34 => ?_) (fun h35 => ?_)
    ·refine kC 20 [2] ?_
     refine kE ?_
     obtain rfl := oi h34
     exact kN [2]
    ·refine kC 4 [0,2,17] ?_
     refine kB 17 h35 (fun h37 => ?_) (fun h38 => ?_)
     ·refine kC 16 [2] ?_
      refine kE ?_
      obtain rfl := oi h37
      exact kN [2]
     ·refine kC 4 [0,2,21] ?_
      refine kB 21 h38 (fun h40 => ?_) (fun h41 => ?_)
      ·refine kC 12 [2] ?_
       refine kE ?_
       obtain rfl := oi h40
       exact kN [2]
      ·refine kC 4 [0,2,25] ?_
       refine kB 25 h41 (fun h43 => ?_) (fun h44 => ?_)
       ·refine RJ.seg 8 [2] (L2 := [(2, .bool true)]) (H2 := []) (by kernel_rfl) ?_
        refine kE ?_
        obtain rfl := oi h43
        exact kN [2]
       ·refine RJ.seg 4 [0, 2, 29] (L2 := [(0, .int .u8 x0), (2, .bool false), (29, .bool (decide (x0 = 99)))]) (H2 := []) (by kernel_rfl) ?_
        refine kB 29 h44 (fun h46 => ?_) (fun h47 => ?_)
        ·refine kC 4 [2] ?_
         refine kE ?_
         obtain rfl := oi h46
         exact kN [2]
        ·refine kC 4 [2] ?_
         refine kE ?_
         obtain rfl := oi h47
         exact kN [2]
 ·refine kX ?_
  obtain rfl := oi h26
  exact kZ hFn hFH hFD
def exergueref11_sign (x0 : List UInt8) (x1 : Int) (x2 : List UInt8) : Option (Bool) :=
 (Option.bind (bif (decide (((IntKind.wrap .i64 (x1 + (x2.length : Int)))) ≤ (x0.length : Int))) then (bif inS x1 ((IntKind.wrap .i64 (x1 + (x2.length : Int)))) x0.length then (some ((((cut x0 x1 ((IntKind.wrap .i64 (x1 + (x2.length : Int)))))) == x2))) else none) else (some false)) fun (s5 : Bool) => (some s5))
theorem exergueref11_sign_ok {x0 : List UInt8} {x1 : Int} {x2 : List UInt8} {r : Bool} (h : exergueref11_sign x0 x1 x2 = some r) : SC Tryz.prog 56 [.str x0, .int .i64 x1, .str x2] [] (.bool r) [] := by
 refine kFn (fn := Tryz.f56) (fun F hFn hFH hFD => ?_)
 unfold exergueref11_sign at h
 refine kSR ?_
 refine kC 1 [0,1,2,6] ?_
 refine kEN ?_
 obtain ⟨s5, hy7, h9⟩ := bindS h
 refine K.cutN (by kernel_rfl) (fun (s5 : Bool) => ([(6, .bool s5)], [])) s5 ?_ ?_
 ·refine kR ?_
  refine kC 8 [0,1,2,6,14] ?_
  refine kB 14 hy7 (fun h11 => ?_) (fun h12 => ?_)
  ·refine kC 6 [2,6,14,15,16,20] ?_
   obtain ⟨hm, h13⟩ := asrt h11
   refine RJ.rel (d := (some 21)) (ef := ⟨.str (cut x0 x1 ((IntKind.wrap .i64 (x1 + (x2.length : Int))))), [], []⟩) (ef' := ⟨.str (cut x0 x1 ((IntKind.wrap .i64 (x1 + (x2.length : Int))))), [], []⟩) (c := inS x1 ((IntKind.wrap .i64 (x1 + (x2.length : Int)))) x0.length) (tr2 := []) (H2 := []) (by kernel_rfl) hm (fun hc => rfl) (by kernel_rfl) ?_
   refine RJ.seg 4 [6] (L2 := [(6, .bool ((((cut x0 x1 ((IntKind.wrap .i64 (x1 + (x2.length : Int)))))) == x2)))]) (H2 := []) (by kernel_rfl) ?_
   refine kE ?_
   obtain rfl := oi h13
   exact kN [6]
  ·refine kC 11 [6] ?_
   refine kE ?_
   obtain rfl := oi h12
   exact kN [6]
 ·refine kX ?_
  obtain rfl := oi h9
  exact kZ hFn hFH hFD
def exergueref11_number (x0 : List UInt8) (x1 : Int) (x2 : Int) : Option (Int × Int) :=
 (Option.bind (exergueref11_over x0 x1) fun y1 => (Option.bind (loopN (fun (s228 : Int × Int) => (Option.bind (Option.bind (bif (decide (s228.1 < (x0.length : Int))) then (bif inR s228.1 x0.length then (bif (decide (((((x0.getD (s228.1 : Int).toNat 0).toNat : Nat) : Int)) ≥ 48)) then (bif inR s228.1 x0.length then (some ((decide (((((x0.getD (s228.1 : Int).toNat 0).toNat : Nat) : Int)) ≤ 57)))) else none) else (some false)) else none) else (some false)) fun (s415 : Bool) => (bif s415 then (some (.inl ())) else (some (.inr (.inr (s228.1, s228.2)))))) (joinX fun (s402 : Unit) => (Option.bind (bif (decide ((IntKind.wrap .i64 (s228.1 - y1)) < 9)) then (bif inR s228.1 x0.length then (some ((IntKind.wrap .i64 ((IntKind.wrap .i64 (s228.2 * 10)) + ((IntKind.wrap .i64 ((IntKind.wrap .u8 (((((x0.getD (s228.1 : Int).toNat 0).toNat : Nat) : Int)) - 48))))))))) else none) else (some s228.2)) fun (s438 : Int) => (some (.inl ((IntKind.wrap .i64 (s228.1 + 1)), s438))))))) big (y1, 0)) fun (s223 : Int × Int) => (Option.bind (Option.bind (bif (decide (s223.1 = y1)) then (some true) else (bif (decide ((IntKind.wrap .i64 (s223.1 - y1)) > 9)) then (some true) else (bif inR y1 x0.length then (bif (decide (((((x0.getD (y1 : Int).toNat 0).toNat : Nat) : Int)) = 48)) then (bif (decide ((IntKind.wrap .i64 (s223.1 - y1)) > 1)) then (some true) else (some (decide (s223.2 < x2)))) else (some (decide (s223.2 < x2)))) else none))) fun (s500 : Bool) => (bif s500 then (some (.inr ((-1), y1))) else (some (.inl ())))) (joinX fun (s482 : Unit) => (some (s223.2, s223.1))))))
theorem exergueref11_number_ok {x0 : List UInt8} {x1 : Int} {x2 : Int} {r : Int × Int} (h : exergueref11_number x0 x1 x2 = some r) : SC Tryz.prog 57 [.str x0, .int .i64 x1, .int .i64 x2] [] (.tup [.int .i64 r.1, .int .i64 r.2]) [] := by
 refine kFn (fn := Tryz.f57) (fun F hFn hFH hFD => ?_)
 unfold exergueref11_number at h
 refine kSR ?_
 refine kC 2 [0,1,2,6,7] ?_
 refine kEN ?_
 refine kSR ?_
 refine kC 2 [0,2,6,7,11,12] ?_
 obtain ⟨y1, hy2, h3⟩ := bindS h
 refine kA 13 (exergueref11_over_ok hy2) ?_
 refine kC 1 [0,2,6,7,8] ?_
 refine kEN ?_
 refine kSR ?_
 refine RJ.seg 2 [0, 2, 6, 7, 8, 9] (L2 := [(0, .str x0), (2, .int .i64 x2), (6, .int .i64 0), (7, .int .i64 0), (8, .int .i64 y1), (9, .int .i64 y1)]) (H2 := []) (by kernel_rfl) ?_
 refine kEN ?_
 refine kSR ?_
 refine kC 1 [0,2,6,7,8,9,10] ?_
 refine kEN ?_
 obtain ⟨s223, hy225, h227⟩ := bindS h3
 refine K.cutN (by kernel_rfl) (fun (s223 : Int × Int) => ([(0, .str x0), (2, .int .i64 x2), (6, .int .i64 0), (7, .int .i64 0), (8, .int .i64 y1), (9, .int .i64 s223.1), (10, .int .i64 s223.2)], [])) s223 ?_ ?_
 ·refine K.block 0 (by kernel_rfl) ?_
  refine K.loop (by kernel_rfl) (fun (s228 : Int × Int) => ([(0, .str x0), (2, .int .i64 x2), (6, .int .i64 0), (7, .int .i64 0), (8, .int .i64 y1), (9, .int .i64 s228.1), (10, .int .i64 s228.2)], [])) hy225 [0, 2, 6, 7, 8, 9, 10] (by kernel_rfl) (by kernel_rfl) (fun s228 x374 hs373 => ?_)
  obtain ⟨y403, hy404, h405⟩ := bindS hs373
  refine K.cutX (by kernel_rfl) (fun (s402 : Unit) => ([(0, .str x0), (2, .int .i64 x2), (6, .int .i64 0), (7, .int .i64 0), (8, .int .i64 y1), (9, .int .i64 s228.1), (10, .int .i64 s228.2)], [])) y403 ?_ (fun s402 hs => ?_)
  ·obtain ⟨s415, hy417, h419⟩ := bindS hy404
   refine K.cutN (by kernel_rfl) (fun (s415 : Bool) => ([(0, .str x0), (2, .int .i64 x2), (6, .int .i64 0), (7, .int .i64 0), (8, .int .i64 y1), (9, .int .i64 s228.1), (10, .int .i64 s228.2), (30, .bool s415)], [])) s415 ?_ ?_
   ·refine kR ?_
    refine kC 5 [0,2,6,7,8,9,10,19] ?_
    refine kB 19 hy417 (fun h421 => ?_) (fun h422 => ?_)
    ·refine kC 2 [0,2,6,7,8,9,10,19,20,21] ?_
     obtain ⟨hm, h423⟩ := asrt h421
     refine kG 22 hm ?_
     refine kC 3 [0,2,6,7,8,9,10,25] ?_
     refine kB 25 h423 (fun h425 => ?_) (fun h426 => ?_)
     ·refine RJ.seg 2 [0, 2, 6, 7, 8, 9, 10, 25, 26, 27] (L2 := [(0, .str x0), (2, .int .i64 x2), (6, .int .i64 0), (7, .int .i64 0), (8, .int .i64 y1), (9, .int .i64 s228.1), (10, .int .i64 s228.2), (25, .bool true), (26, .str x0), (27, .int .i64 s228.1)]) (H2 := []) (by kernel_rfl) ?_
      obtain ⟨hm, h427⟩ := asrt h425
      refine kG 28 hm ?_
      refine kC 2 [0,2,6,7,8,9,10,30] ?_
      refine kE ?_
      obtain rfl := oi h427
      exact kN [0, 2, 6, 7, 8, 9, 10, 30]
     ·refine RJ.seg 5 [0, 2, 6, 7, 8, 9, 10, 30] (L2 := [(0, .str x0), (2, .int .i64 x2), (6, .int .i64 0), (7, .int .i64 0), (8, .int .i64 y1), (9, .int .i64 s228.1), (10, .int .i64 s228.2), (30, .bool false)]) (H2 := []) (by kernel_rfl) ?_
      refine kE ?_
      obtain rfl := oi h426
      exact kN [0, 2, 6, 7, 8, 9, 10, 30]
    ·refine kC 11 [0,2,6,7,8,9,10,30] ?_
     refine kE ?_
     obtain rfl := oi h422
     exact kN [0, 2, 6, 7, 8, 9, 10, 30]
   ·refine kBJ 30 h419 (fun h429 => ?_) (fun h430 => ?_)
    ·refine kT ?_
     refine kK ?_
     obtain rfl := oi h429
     exact PJ.cutXl [0, 2, 6, 7, 8, 9, 10] (by kernel_rfl) (by kernel_rfl)
    ·refine kF ?_
     refine K.exit 0 (by kernel_rfl) ?_
     obtain rfl := oi h430
     have h431 := joinX_inr h405
     refine PJ.cutXr (fun e => nomatch e) ?_
     obtain rfl := oi h431
     refine PJ.loopOut (fun e => nomatch e) (fun he433 => ?_)
     have h432 := congrArg some he433
     refine PJ.blockOut ?_
     obtain rfl := oi h432
     exact kN [0, 2, 6, 7, 8, 9, 10]
  ·subst hs
   have h406 := joinX_inl h405
   refine K.block 1 (by kernel_rfl) ?_
   obtain ⟨s438, hy440, h442⟩ := bindS h406
   refine K.cutN (by kernel_rfl) (fun (s438 : Int) => ([(0, .str x0), (2, .int .i64 x2), (6, .int .i64 0), (7, .int .i64 0), (8, .int .i64 y1), (9, .int .i64 s228.1), (10, .int .i64 s438)], [])) s438 ?_ ?_
   ·refine kSR ?_
    refine kC 4 [0,2,6,7,8,9,10,34] ?_
    refine kEN ?_
    refine kBJ 34 hy440 (fun h444 => ?_) (fun h445 => ?_)
    ·refine kT ?_
     refine kR ?_
     refine kC 4 [0,2,6,7,8,9,10,36,37,38] ?_
     obtain ⟨hm, h446⟩ := asrt h444
     refine kG 39 hm ?_
     refine kC 4 [0,2,6,7,8,9,10] ?_
     refine kE ?_
     obtain rfl := oi h446
     exact kN [0, 2, 6, 7, 8, 9, 10]
    ·refine kF ?_
     refine kK ?_
     obtain rfl := oi h445
     exact kN [0, 2, 6, 7, 8, 9, 10]
   ·refine kR ?_
    refine kC 3 [0,2,6,7,8,9,10] ?_
    refine kE ?_
    refine PJ.blockNormal ?_
    obtain rfl := oi h442
    exact PJ.loopNext [0, 2, 6, 7, 8, 9, 10] (by kernel_rfl) (by kernel_rfl)
 ·obtain ⟨y483, hy484, h485⟩ := bindS h227
  refine K.cutX (by kernel_rfl) (fun (s482 : Unit) => ([(6, .int .i64 0), (7, .int .i64 0), (9, .int .i64 s223.1), (10, .int .i64 s223.2)], [])) y483 ?_ (fun s482 hs => ?_)
  ·obtain ⟨s500, hy502, h504⟩ := bindS hy484
   refine K.cutN (by kernel_rfl) (fun (s500 : Bool) => ([(6, .int .i64 0), (7, .int .i64 0), (8, .int .i64 y1), (9, .int .i64 s223.1), (10, .int .i64 s223.2), (70, .bool s500)], [])) s500 ?_ ?_
   ·refine kR ?_
    refine kC 4 [0,2,6,7,8,9,10,48] ?_
    refine kB 48 hy502 (fun h506 => ?_) (fun h507 => ?_)
    ·refine kC 22 [6,7,8,9,10,70] ?_
     refine kE ?_
     obtain rfl := oi h506
     exact kN [6, 7, 8, 9, 10, 70]
    ·refine kC 6 [0,2,6,7,8,9,10,54] ?_
     refine kB 54 h507 (fun h509 => ?_) (fun h510 => ?_)
     ·refine kC 16 [6,7,8,9,10,70] ?_
      refine kE ?_
      obtain rfl := oi h509
      exact kN [6, 7, 8, 9, 10, 70]
     ·refine kC 2 [2,6,7,8,9,10,54,55,56] ?_
      obtain ⟨hm, h511⟩ := asrt h510
      refine kG 57 hm ?_
      refine RJ.seg 2 [2, 6, 7, 8, 9, 10, 54, 59] (L2 := [(2, .int .i64 x2), (6, .int .i64 0), (7, .int .i64 0), (8, .int .i64 y1), (9, .int .i64 s223.1), (10, .int .i64 s223.2), (54, .bool false), (59, .bool ((decide (((((x0.getD (y1 : Int).toNat 0).toNat : Nat) : Int)) = 48))))]) (H2 := []) (by kernel_rfl) ?_
      refine kB 59 h511 (fun h513 => ?_) (fun h514 => ?_)
      ·refine kC 7 [2,6,7,8,9,10,66] ?_
       refine kB 66 h513 (fun h516 => ?_) (fun h517 => ?_)
       ·refine kC 4 [6,7,8,9,10,70] ?_
        refine kE ?_
        obtain rfl := oi h516
        exact kN [6, 7, 8, 9, 10, 70]
       ·refine kC 4 [6,7,8,9,10,70] ?_
        refine kE ?_
        obtain rfl := oi h517
        exact kN [6, 7, 8, 9, 10, 70]
      ·refine kC 11 [6,7,8,9,10,70] ?_
       refine kE ?_
       obtain rfl := oi h514
       exact kN [6, 7, 8, 9, 10, 70]
   ·refine kBJ 70 h504 (fun h519 => ?_) (fun h520 => ?_)
    ·refine kT ?_
     refine kSR ?_
     refine kC 3 [6,7,9,10] ?_
     refine kEN ?_
     refine kX ?_
     obtain rfl := oi h519
     have h521 := joinX_inr h485
     refine PJ.cutXr (fun e => nomatch e) ?_
     obtain rfl := oi h521
     exact kZ hFn hFH hFD
    ·refine kF ?_
     refine kK ?_
     obtain rfl := oi h520
     exact PJ.cutXl [6, 7, 9, 10] (by kernel_rfl) (by kernel_rfl)
  ·subst hs
   have h486 := joinX_inl h485
   refine kSR ?_
   refine kC 4 [6,7] ?_
   refine kEN ?_
   refine kX ?_
   obtain rfl := oi h486
   exact kZ hFn hFH hFD
def exergueref11_ranges (x0 : List UInt8) (x1 : Int) : Option ((List St80) × Int × Bool) :=
 (loopN (fun (s1 : Int × (List St80)) => (Option.bind (exergueref11_number x0 s1.1 0) fun y120 => (bif (decide (y120.1 < 0)) then (some (.inr (([] : List St80), y120.2, false))) else (Option.bind (exergueref11_over x0 y120.2) fun y128 => (Option.bind (Option.bind (exergueref11_sign x0 y128 ([46, 46] : List UInt8)) fun y151 => (bif y151 then (Option.bind (exergueref11_number x0 (IntKind.wrap .i64 (y128 + 2)) (IntKind.wrap .i64 (y120.1 + 1))) fun y157 => (bif (decide (y157.1 < 0)) then (some (.inr (.inr (([] : List St80), y157.2, false)))) else (some (.inl (y157.2, y157.1))))) else (some (.inl (y120.2, y120.1))))) (joinX fun (s146 : Int × Int) => (bif room (s1.2.length + ([(⟨y120.1, s146.2⟩ : St80)] : List St80).length) then (Option.bind (exergueref11_over x0 s146.1) fun y167 => (Option.bind (exergueref11_sign x0 y167 ([44] : List UInt8)) fun y170 => (bif (!y170) then (some (.inr ((s1.2 ++ ([(⟨y120.1, s146.2⟩ : St80)] : List St80)), s146.1, true))) else (some (.inl ((IntKind.wrap .i64 (y167 + 1)), (s1.2 ++ ([(⟨y120.1, s146.2⟩ : St80)] : List St80)))))))) else none))))))) big (x1, ([] : List St80)))
theorem exergueref11_ranges_ok {x0 : List UInt8} {x1 : Int} {r : (List St80) × Int × Bool} (h : exergueref11_ranges x0 x1 = some r) : SC Tryz.prog 58 [.str x0, .int .i64 x1] [] (.tup [lsv encSt80 2 r.1, .int .i64 r.2.1, .bool r.2.2]) [] := by
 refine kFn (fn := Tryz.f58) (fun F hFn hFH hFD => ?_)
 unfold exergueref11_ranges at h
 refine kSR ?_
 refine kC 3 [0,1,4,5,6] ?_
 refine kEN ?_
 refine kSR ?_
 refine kC 1 [0,1,4,5,6,7] ?_
 refine kEN ?_
 refine K.block 0 (by kernel_rfl) ?_
 refine J.wk (Wk.viv 7 2 80 (by kernel_rfl)) ?_
 refine K.loop (by kernel_rfl) (fun (s1 : Int × (List St80)) => ([(0, .str x0), (1, .int .i64 s1.1), (4, .nl), (5, .int .i64 0), (6, .bool false), (7, .vc 0)], [vecL encSt80 2 80 s1.2])) h [0, 1, 4, 5, 6, 7] (by kernel_rfl) (by kernel_rfl) (fun s1 x119 hs118 => ?_)
 refine K.block 1 (by kernel_rfl) ?_
 refine kSR ?_
 refine kC 2 [0,1,4,5,6,7,16,17] ?_
 obtain ⟨y120, hy121, h122⟩ := bindS hs118
 refine kA 18 (exergueref11_number_ok hy121) ?_
 refine kC 5 [0,1,4,5,6,7,8,9] ?_
 refine kEN ?_
 refine kS ?_
 refine kSR ?_
 refine kC 2 [0,1,4,5,6,7,8,9,22] ?_
 refine kEN ?_
 refine kBJ 22 h122 (fun h124 => ?_) (fun h125 => ?_)
 ·refine kT ?_
  refine kSR ?_
  refine RJ.seg 4 [0, 1, 4, 5, 6, 7, 8, 9] (L2 := [(0, .str x0), (1, .int .i64 s1.1), (4, .nl), (5, .int .i64 y120.2), (6, .bool false), (7, .vc 0), (8, .int .i64 y120.1), (9, .int .i64 y120.2)]) (H2 := [vecL encSt80 2 80 s1.2]) (by kernel_rfl) ?_
  refine kEN ?_
  refine kX ?_
  refine PJ.passRet ?_
  refine PJ.blockRet ?_
  obtain rfl := oi h124
  refine PJ.loopOut (fun e => nomatch e) (fun he127 => ?_)
  have h126 := congrArg some he127
  refine PJ.blockRet ?_
  obtain rfl := oi h126
  refine PJ.res (v1 := .tup [.nl, .int .i64 y120.2, .bool false]) (Le.tup (.cons (Le.nl _) (.cons (Le.refl _) (.cons (Le.refl _) .nil)))) ?_
  exact kZ hFn hFH hFD
 ·refine kF ?_
  refine kK ?_
  refine PJ.next ?_
  refine kSR ?_
  refine RJ.seg 2 [0, 1, 4, 5, 6, 7, 8, 9, 10] (L2 := [(0, .str x0), (1, .int .i64 s1.1), (4, .nl), (5, .int .i64 0), (6, .bool false), (7, .vc 0), (8, .int .i64 y120.1), (9, .int .i64 y120.2), (10, .int .i64 y120.1)]) (H2 := [vecL encSt80 2 80 s1.2]) (by kernel_rfl) ?_
  refine kEN ?_
  refine kSR ?_
  refine kC 2 [0,1,4,5,6,7,8,9,10,25,26] ?_
  obtain ⟨y128, hy129, h130⟩ := bindS h125
  refine kA 27 (exergueref11_over_ok hy129) ?_
  refine kC 1 [0,1,4,5,6,7,8,9,10,11] ?_
  refine kEN ?_
  obtain ⟨y147, hy148, h149⟩ := bindS h130
  refine K.cutX (by kernel_rfl) (fun (s146 : Int × Int) => ([(0, .str x0), (1, .int .i64 s1.1), (4, .nl), (5, .int .i64 0), (6, .bool false), (7, .vc 0), (8, .int .i64 y120.1), (9, .int .i64 s146.1), (10, .int .i64 s146.2)], [vecL encSt80 2 80 s1.2])) y147 ?_ (fun s146 hs => ?_)
  ·refine kSR ?_
   refine kC 2 [0,1,4,5,6,7,8,9,10,11,28,29] ?_
   obtain ⟨y151, hy152, h153⟩ := bindS hy148
   refine kA 30 (exergueref11_sign_ok hy152) ?_
   refine kEN ?_
   refine kBJ 30 h153 (fun h155 => ?_) (fun h156 => ?_)
   ·refine kT ?_
    refine kSR ?_
    refine RJ.seg 5 [0, 1, 4, 5, 6, 7, 8, 9, 10, 32, 34, 36] (L2 := [(0, .str x0), (1, .int .i64 s1.1), (4, .nl), (5, .int .i64 0), (6, .bool false), (7, .vc 0), (8, .int .i64 y120.1), (9, .int .i64 y120.2), (10, .int .i64 y120.1), (32, .str x0), (34, .int .i64 (IntKind.wrap .i64 (y128 + 2))), (36, .int .i64 (IntKind.wrap .i64 (y120.1 + 1)))]) (H2 := [vecL encSt80 2 80 s1.2]) (by kernel_rfl) ?_
    obtain ⟨y157, hy158, h159⟩ := bindS h155
    refine kA 37 (exergueref11_number_ok hy158) ?_
    refine kC 5 [0,1,4,5,6,7,8,9,10,12,13] ?_
    refine kEN ?_
    refine kS ?_
    refine kSR ?_
    refine kC 2 [0,1,4,5,6,7,8,9,10,12,13,41] ?_
    refine kEN ?_
    refine kBJ 41 h159 (fun h161 => ?_) (fun h162 => ?_)
    ·refine kT ?_
     refine kSR ?_
     refine kC 4 [0,1,4,5,6,7,8,9,10,12,13] ?_
     refine kEN ?_
     refine kX ?_
     refine PJ.passRet ?_
     obtain rfl := oi h161
     have h163 := joinX_inr h149
     refine PJ.cutXr (fun e => nomatch e) ?_
     refine PJ.blockRet ?_
     obtain rfl := oi h163
     refine PJ.loopOut (fun e => nomatch e) (fun he165 => ?_)
     have h164 := congrArg some he165
     refine PJ.blockRet ?_
     obtain rfl := oi h164
     refine PJ.res (v1 := .tup [.nl, .int .i64 y157.2, .bool false]) (Le.tup (.cons (Le.nl _) (.cons (Le.refl _) (.cons (Le.refl _) .nil)))) ?_
     exact kZ hFn hFH hFD
    ·refine kF ?_
     refine kK ?_
     refine PJ.next ?_
     refine kSR ?_
     refine kC 2 [0,1,4,5,6,7,8,9,10,13] ?_
     refine kEN ?_
     refine kR ?_
     refine RJ.seg 2 [0, 1, 4, 5, 6, 7, 8, 9, 10] (L2 := [(0, .str x0), (1, .int .i64 s1.1), (4, .nl), (5, .int .i64 0), (6, .bool false), (7, .vc 0), (8, .int .i64 y120.1), (9, .int .i64 y157.2), (10, .int .i64 y157.1)]) (H2 := [vecL encSt80 2 80 s1.2]) (by kernel_rfl) ?_
     refine kE ?_
     obtain rfl := oi h162
     exact PJ.cutXl [0, 1, 4, 5, 6, 7, 8, 9, 10] (by kernel_rfl) (by kernel_rfl)
   ·refine kF ?_
    refine kK ?_
    obtain rfl := oi h156
    exact PJ.cutXl [0, 1, 4, 5, 6, 7, 8, 9, 10] (by kernel_rfl) (by kernel_rfl)
  ·subst hs
   have h150 := joinX_inl h149
   refine kSR ?_
   refine kC 5 [0,1,4,5,6,7,9,45,49] ?_
   obtain ⟨hm, h166⟩ := asrt h150
   refine RJ.rel (d := (some 50)) (ef := ⟨.vc 2, [0, 1], [(0, .gone), (2, .vec (s1.2.length + ([(⟨y120.1, s146.2⟩ : St80)] : List St80).length) 2 80 (s1.2.flatMap encSt80 ++ ([(⟨y120.1, s146.2⟩ : St80)] : List St80).flatMap encSt80))]⟩) (ef' := ⟨.vc 2, [0, 1], [(0, .gone), (2, vecL encSt80 2 80 (s1.2 ++ ([(⟨y120.1, s146.2⟩ : St80)] : List St80)))]⟩) (c := room (s1.2.length + ([(⟨y120.1, s146.2⟩ : St80)] : List St80).length)) (tr2 := []) (H2 := [.gone, vecL encSt80 2 80 ([(⟨y120.1, s146.2⟩ : St80)] : List St80), vecL encSt80 2 80 ((s1.2 ++ ([(⟨y120.1, s146.2⟩ : St80)] : List St80)))]) (by kernel_rfl) hm (fun hc => N.app) (by kernel_rfl) ?_
   refine kC 1 [0,1,4,5,6,7,9] ?_
   refine kEN ?_
   refine kSR ?_
   refine kC 2 [0,1,4,5,6,7,9,51,52] ?_
   obtain ⟨y167, hy168, h169⟩ := bindS h166
   refine kA 53 (exergueref11_over_ok hy168) ?_
   refine RJ.seg 1 [0, 1, 4, 5, 6, 7, 9, 14] (L2 := [(0, .str x0), (1, .int .i64 s1.1), (4, .nl), (5, .int .i64 0), (6, .bool false), (7, .vc 2), (9, .int .i64 s146.1), (14, .int .i64 y167)]) (H2 := [.gone, vecL encSt80 2 80 ([(⟨y120.1, s146.2⟩ : St80)] : List St80), vecL encSt80 2 80 ((s1.2 ++ ([(⟨y120.1, s146.2⟩ : St80)] : List St80)))]) (by kernel_rfl) ?_
   refine kEN ?_
   refine kS ?_
   refine kSR ?_
   refine kC 2 [0,1,4,5,6,7,9,14,54,55] ?_
   obtain ⟨y170, hy171, h172⟩ := bindS h169
   refine kA 56 (exergueref11_sign_ok hy171) ?_
   refine kC 1 [0,1,4,5,6,7,9,14,57] ?_
   refine kEN ?_
   refine kBJ 57 h172 (fun h174 => ?_) (fun h175 => ?_)
   ·refine kT ?_
    refine kSR ?_
    refine kC 5 [0,1,4,5,6,7,14] ?_
    refine kEN ?_
    refine kX ?_
    refine PJ.passRet ?_
    refine PJ.blockRet ?_
    obtain rfl := oi h174
    refine PJ.loopOut (fun e => nomatch e) (fun he177 => ?_)
    have h176 := congrArg some he177
    refine PJ.blockRet ?_
    obtain rfl := oi h176
    refine PJ.wk (Wk.freeze 2 (n := ((s1.2 ++ ([(⟨y120.1, s146.2⟩ : St80)] : List St80))).length) (k := 2) (e := 80) (cs := ((s1.2 ++ ([(⟨y120.1, s146.2⟩ : St80)] : List St80))).flatMap encSt80) (by kernel_rfl)) ?_
    exact kZ hFn hFH hFD
   ·refine kF ?_
    refine kK ?_
    refine PJ.next ?_
    refine kR ?_
    refine kC 3 [0,1,4,5,6,7] ?_
    refine kE ?_
    refine PJ.blockNormal ?_
    obtain rfl := oi h175
    refine PJ.wk (Wk.sel (L2 := [(0, .str x0), (1, .int .i64 (IntKind.wrap .i64 (y167 + 1))), (4, .nl), (5, .int .i64 0), (6, .bool false), (7, .vc 0)]) (H2 := [vecL encSt80 2 80 ((s1.2 ++ ([(⟨y120.1, s146.2⟩ : St80)] : List St80)))]) 0 (by rw [hFH]; rfl) hFD [2] (by kernel_rfl) (by kernel_rfl) (by decide) (by kernel_rfl) (by kernel_rfl) (by kernel_rfl) (by kernel_rfl)) ?_
    exact PJ.loopNext [0, 1, 4, 5, 6, 7] (by kernel_rfl) (by kernel_rfl)
end Go.Proofs.YteaokhdkocddcaaGreatDoor
