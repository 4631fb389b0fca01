/-
  What the functions of this program come to, as functions of natives, each with the proof that it does. No conditions.
-/
import Derived.Test.YteaokhdkocddcaaGreatDoorProg
import Derived.Test.YteaokhdkocddcaaGreatDoorSySL
import Derived.Test.YteaokhdkocddcaaGreatDoorGb
namespace Go.Proofs.YteaokhdkocddcaaGreatDoor
open Go Go.Sy Go.RowKit
set_option linter.unusedVariables false
set_option linter.unusedSimpArgs false
set_option maxRecDepth 100000
set_option maxHeartbeats 4000000
def exergueref11_Text (x0 : List (List St75)) : Option (List UInt8) :=
 (Option.bind (loopN (fun (s9657 : (List UInt8) × Int) => (bif (decide (s9657.2 < (x0.length : Int))) then (Option.bind (Option.bind (bif (decide (s9657.2 > 0)) then (bif room (s9657.1.length + ([32, 111, 114, 32] : List UInt8).length) then (some (s9657.1 ++ ([32, 111, 114, 32] : List UInt8))) else none) else (some s9657.1)) fun (s17707 : (List UInt8)) => (loopN (fun (s17716 : (List UInt8) × Int) => (bif inR s9657.2 x0.length then (bif (decide (s17716.2 < ((nth x0 s9657.2).length : Int))) then (Option.bind (bif inR s9657.2 x0.length then (bif inR s17716.2 (nth x0 s9657.2).length then (Option.bind (bif (decide (s17716.2 > 0)) then (bif room (s17716.1.length + ([32, 97, 110, 100, 32] : List UInt8).length) then (some (s17716.1 ++ ([32, 97, 110, 100, 32] : List UInt8))) else none) else (some s17716.1)) fun (s19051 : (List UInt8)) => (bif room (s19051.length + ((bytesS (([(nth (nth x0 s9657.2) s17716.2).Op_] : List Int)))).length) then (Option.bind (bif (decide (¬ ((nth (nth x0 s9657.2) s17716.2).Mod_) = 0)) then (bif room (((s19051 ++ ((bytesS (([(nth (nth x0 s9657.2) s17716.2).Op_] : List Int)))))).length + ([32, 37, 32] : List UInt8).length) then (Option.bind (exergueref05_Number big ((nth (nth x0 s9657.2) s17716.2).Mod_)) fun y19078 => (bif room (((((s19051 ++ ((bytesS (([(nth (nth x0 s9657.2) s17716.2).Op_] : List Int)))))) ++ ([32, 37, 32] : List UInt8))).length + y19078.length) then (some ((((((s19051 ++ ((bytesS (([(nth (nth x0 s9657.2) s17716.2).Op_] : List Int)))))) ++ ([32, 37, 32] : List UInt8))) ++ y19078))) else none)) else none) else (some ((s19051 ++ ((bytesS (([(nth (nth x0 s9657.2) s17716.2).Op_] : List Int)))))))) fun (s19069 : (List UInt8)) => (Option.bind (bif (nth (nth x0 s9657.2) s17716.2).Not_ then (bif room (s19069.length + ([32, 33, 61, 32] : List UInt8).length) then (some (s19069 ++ ([32, 33, 61, 32] : List UInt8))) else none) else (bif room (s19069.length + ([32, 61, 32] : List UInt8).length) then (some (s19069 ++ ([32, 61, 32] : List UInt8))) else none)) fun (s19087 : (List UInt8)) => (loopN (fun (s19097 : (List UInt8) × Int) => (bif (decide (s19097.2 < ((((nth (nth x0 s9657.2) s17716.2).R_).length : Int)))) then (Option.bind (Option.bind (bif (decide (s19097.2 > 0)) then (bif room (s19097.1.length + ([44] : List UInt8).length) then (some (s19097.1 ++ ([44] : List UInt8))) else none) else (some s19097.1)) fun (s19277 : (List UInt8)) => (bif inR s19097.2 ((nth (nth x0 s9657.2) s17716.2).R_).length then (Option.bind (exergueref05_Number big ((nth ((nth (nth x0 s9657.2) s17716.2).R_) s19097.2).a0_)) fun y19287 => (bif room (s19277.length + y19287.length) then (bif inR s19097.2 ((nth (nth x0 s9657.2) s17716.2).R_).length then (bif inR s19097.2 ((nth (nth x0 s9657.2) s17716.2).R_).length then (bif (decide (¬ ((nth ((nth (nth x0 s9657.2) s17716.2).R_) s19097.2).a1_) = ((nth ((nth (nth x0 s9657.2) s17716.2).R_) s19097.2).a0_))) then (bif room ((s19277 ++ y19287).length + ([46, 46] : List UInt8).length) then (bif inR s19097.2 ((nth (nth x0 s9657.2) s17716.2).R_).length then (Option.bind (exergueref05_Number big ((nth ((nth (nth x0 s9657.2) s17716.2).R_) s19097.2).a1_)) fun y19298 => (bif room (((s19277 ++ y19287) ++ ([46, 46] : List UInt8)).length + y19298.length) then (some ((((s19277 ++ y19287) ++ ([46, 46] : List UInt8)) ++ y19298))) else none)) else none) else none) else (some (s19277 ++ y19287))) else none) else none) else none)) else none)) fun (s19268 : (List UInt8)) => (some (.inl (s19268, (IntKind.wrap .i64 (s19097.2 + 1)))))) else (some (.inr s19097.1)))) big (s19087, 0)))) else none)) else none) else none) fun (s19040 : (List UInt8)) => (some (.inl (s19040, (IntKind.wrap .i64 (s17716.2 + 1)))))) else (some (.inr s17716.1))) else none)) big (s17707, 0))) fun (s17698 : (List UInt8)) => (some (.inl (s17698, (IntKind.wrap .i64 (s9657.2 + 1)))))) else (some (.inr s9657.1)))) big (([] : List UInt8), 0)) fun (s9652 : (List UInt8)) => (some s9652))
theorem exergueref11_Text_ok {x0 : List (List St75)} {r : List UInt8} (h : exergueref11_Text x0 = some r) : SC Tryz.prog 44 [lsv (encL encSt75 4) 1 x0] [] (.str r) [] := by
 refine kFn (fn := Tryz.f44) (fun F hFn hFH hFD => ?_)
 unfold exergueref11_Text at h
 refine kSR ?_
 refine kC 1 [0,2] ?_
 refine kEN ?_
 refine kSR ?_
 refine kC 1 [0,2,3] ?_
 refine kEN ?_
 obtain ⟨s9652, hy9654, h9656⟩ := bindS h
 refine K.cutN (by kernel_rfl) (fun (s9652 : (List UInt8)) => ([(2, .str ([] : List UInt8)), (3, .str s9652)], [])) s9652 ?_ ?_
 ·refine kSR ?_
  refine kC 1 [0,2,3,4] ?_
  refine kEN ?_
  refine K.block 0 (by kernel_rfl) ?_
  refine K.loop (by kernel_rfl) (fun (s9657 : (List UInt8) × Int) => ([(0, lsv (encL encSt75 4) 1 x0), (2, .str ([] : List UInt8)), (3, .str s9657.1), (4, .int .i64 s9657.2)], [])) hy9654 [0, 2, 3, 4] (by kernel_rfl) (by kernel_rfl) (fun s9657 x16091 hs16090 => ?_)
  refine kS ?_
  refine kSR ?_
  refine kC 4 [0,2,3,4,11] ?_
  refine kEN ?_
  refine kBJ 11 hs16090 (fun h16093 => ?_) (fun h16094 => ?_)
  ·refine kT ?_
   refine kK ?_
   refine PJ.next ?_
   obtain ⟨s17698, hy17700, h17702⟩ := bindS h16093
   refine K.cutN (by kernel_rfl) (fun (s17698 : (List UInt8)) => ([(0, lsv (encL encSt75 4) 1 x0), (2, .str ([] : List UInt8)), (3, .str s17698), (4, .int .i64 s9657.2)], [])) s17698 ?_ ?_
   ·refine K.block 1 (by kernel_rfl) ?_
    obtain ⟨s17707, hy17709, h17711⟩ := bindS hy17700
    refine K.cutN (by kernel_rfl) (fun (s17707 : (List UInt8)) => ([(0, lsv (encL encSt75 4) 1 x0), (2, .str ([] : List UInt8)), (3, .str s17707), (4, .int .i64 s9657.2)], [])) s17707 ?_ ?_
    ·refine kSR ?_
     refine kC 2 [0,2,3,4,15] ?_
     refine kEN ?_
     refine kBJ 15 hy17709 (fun h17713 => ?_) (fun h17714 => ?_)
     ·refine kT ?_
      refine kR ?_
      refine kC 1 [0,2,3,4,16] ?_
      obtain ⟨hm, h17715⟩ := asrt h17713
      refine RJ.rel (d := (some 17)) (ef := ⟨.str (s9657.1 ++ ([32, 111, 114, 32] : List UInt8)), [], []⟩) (ef' := ⟨.str (s9657.1 ++ ([32, 111, 114, 32] : List UInt8)), [], []⟩) (c := room (s9657.1.length + ([32, 111, 114, 32] : List UInt8).length)) (tr2 := []) (H2 := []) (by kernel_rfl) hm (fun hc => rfl) (by kernel_rfl) ?_
      refine RJ.seg 1 [0, 2, 3, 4] (L2 := [(0, lsv (encL encSt75 4) 1 x0), (2, .str ([] : List UInt8)), (3, .str (s9657.1 ++ ([32, 111, 114, 32] : List UInt8))), (4, .int .i64 s9657.2)]) (H2 := []) (by kernel_rfl) ?_
      refine kE ?_
      obtain rfl := oi h17715
      exact kN [0, 2, 3, 4]
     ·refine kF ?_
      refine kK ?_
      obtain rfl := oi h17714
      exact kN [0, 2, 3, 4]
    ·refine kSR ?_
     refine kC 1 [0,2,3,4,5] ?_
     refine kEN ?_
     refine K.block 2 (by kernel_rfl) ?_
     refine K.loop (by kernel_rfl) (fun (s17716 : (List UInt8) × Int) => ([(0, lsv (encL encSt75 4) 1 x0), (2, .str ([] : List UInt8)), (3, .str s17716.1), (4, .int .i64 s9657.2), (5, .int .i64 s17716.2)], [])) h17711 [0, 2, 3, 4, 5] (by kernel_rfl) (by kernel_rfl) (fun s17716 x18776 hs18775 => ?_)
     refine kS ?_
     refine kSR ?_
     refine kC 3 [0,2,3,4,5,18,19,20] ?_
     obtain ⟨hm, h18777⟩ := asrt hs18775
     refine kI 21 (encL_len encSt75 4) hm ?_
     refine kC 3 [0,2,3,4,5,24] ?_
     refine kEN ?_
     refine kBJ 24 h18777 (fun h18779 => ?_) (fun h18780 => ?_)
     ·refine kT ?_
      refine kK ?_
      refine PJ.next ?_
      obtain ⟨s19040, hy19042, h19044⟩ := bindS h18779
      refine K.cutN (by kernel_rfl) (fun (s19040 : (List UInt8)) => ([(0, lsv (encL encSt75 4) 1 x0), (2, .str ([] : List UInt8)), (3, .str s19040), (4, .int .i64 s9657.2), (5, .int .i64 s17716.2)], [])) s19040 ?_ ?_
      ·refine K.block 3 (by kernel_rfl) ?_
       refine kSR ?_
       refine kC 2 [0,2,3,4,5,27,28] ?_
       obtain ⟨hm, h19045⟩ := asrt hy19042
       refine kI 29 (encL_len encSt75 4) hm ?_
       refine RJ.seg 2 [0, 2, 3, 4, 5, 30, 31] (L2 := [(0, lsv (encL encSt75 4) 1 x0), (2, .str ([] : List UInt8)), (3, .str s17716.1), (4, .int .i64 s9657.2), (5, .int .i64 s17716.2), (30, lsv encSt75 4 (nth x0 s9657.2)), (31, .int .i64 s17716.2)]) (H2 := []) (by kernel_rfl) ?_
       obtain ⟨hm, h19046⟩ := asrt h19045
       refine kI 32 encSt75_len hm ?_
       refine kC 3 [0,2,3,4,5,6] ?_
       refine kEN ?_
       obtain ⟨s19051, hy19053, h19055⟩ := bindS h19046
       refine K.cutN (by kernel_rfl) (fun (s19051 : (List UInt8)) => ([(0, lsv (encL encSt75 4) 1 x0), (2, .str ([] : List UInt8)), (3, .str s19051), (4, .int .i64 s9657.2), (5, .int .i64 s17716.2), (6, .ptr 0 0)], [.box [.int .u8 ((nth (nth x0 s9657.2) s17716.2).Op_), .int .i64 ((nth (nth x0 s9657.2) s17716.2).Mod_), .bool ((nth (nth x0 s9657.2) s17716.2).Not_), lsv encSt80 2 ((nth (nth x0 s9657.2) s17716.2).R_)]])) s19051 ?_ ?_
       ·refine kSR ?_
        refine kC 2 [0,2,3,4,5,6,35] ?_
        refine kEN ?_
        refine kBJ 35 hy19053 (fun h19057 => ?_) (fun h19058 => ?_)
        ·refine kT ?_
         refine kR ?_
         refine kC 1 [0,2,3,4,5,6,36] ?_
         obtain ⟨hm, h19059⟩ := asrt h19057
         refine RJ.rel (d := (some 37)) (ef := ⟨.str (s17716.1 ++ ([32, 97, 110, 100, 32] : List UInt8)), [], []⟩) (ef' := ⟨.str (s17716.1 ++ ([32, 97, 110, 100, 32] : List UInt8)), [], []⟩) (c := room (s17716.1.length + ([32, 97, 110, 100, 32] : List UInt8).length)) (tr2 := []) (H2 := [.box [.int .u8 ((nth (nth x0 s9657.2) s17716.2).Op_), .int .i64 ((nth (nth x0 s9657.2) s17716.2).Mod_), .bool ((nth (nth x0 s9657.2) s17716.2).Not_), lsv encSt80 2 ((nth (nth x0 s9657.2) s17716.2).R_)]]) (by kernel_rfl) hm (fun hc => rfl) (by kernel_rfl) ?_
         refine RJ.seg 1 [0, 2, 3, 4, 5, 6] (L2 := [(0, lsv (encL encSt75 4) 1 x0), (2, .str ([] : List UInt8)), (3, .str (s17716.1 ++ ([32, 97, 110, 100, 32] : List UInt8))), (4, .int .i64 s9657.2), (5, .int .i64 s17716.2), (6, .ptr 0 0)]) (H2 := [.box [.int .u8 ((nth (nth x0 s9657.2) s17716.2).Op_), .int .i64 ((nth (nth x0 s9657.2) s17716.2).Mod_), .bool ((nth (nth x0 s9657.2) s17716.2).Not_), lsv encSt80 2 ((nth (nth x0 s9657.2) s17716.2).R_)]]) (by kernel_rfl) ?_
         refine kE ?_
         obtain rfl := oi h19059
         exact kN [0, 2, 3, 4, 5, 6]
        ·refine kF ?_
         refine kK ?_
         obtain rfl := oi h19058
         exact kN [0, 2, 3, 4, 5, 6]
       ·refine kSR ?_
        refine kC 4 [0,2,3,4,5,6,38,41] ?_
        refine RJ.rel (d := (some 42)) (ef := ⟨.str (((([(nth (nth x0 s9657.2) s17716.2).Op_] : List Int)).flatMap (encI .u8)).map Go.Sy.byteOf), [1], []⟩) (ef' := ⟨.str (bytesS (([(nth (nth x0 s9657.2) s17716.2).Op_] : List Int))), [1], []⟩) (c := ((([(nth (nth x0 s9657.2) s17716.2).Op_] : List Int)).flatMap (encI .u8)).all isByte) (tr2 := []) (H2 := [.box [.int .u8 ((nth (nth x0 s9657.2) s17716.2).Op_), .int .i64 ((nth (nth x0 s9657.2) s17716.2).Mod_), .bool ((nth (nth x0 s9657.2) s17716.2).Not_), lsv encSt80 2 ((nth (nth x0 s9657.2) s17716.2).R_)], vecL (encI .u8) 1 5 (([(nth (nth x0 s9657.2) s17716.2).Op_] : List Int))]) (by kernel_rfl) (allByte (([(nth (nth x0 s9657.2) s17716.2).Op_] : List Int))) (fun hc => N.toStr) (by kernel_rfl) ?_
        obtain ⟨hm, h19060⟩ := asrt h19055
        refine RJ.rel (d := (some 43)) (ef := ⟨.str (s19051 ++ ((bytesS (([(nth (nth x0 s9657.2) s17716.2).Op_] : List Int))))), [], []⟩) (ef' := ⟨.str (s19051 ++ ((bytesS (([(nth (nth x0 s9657.2) s17716.2).Op_] : List Int))))), [], []⟩) (c := room (s19051.length + ((bytesS (([(nth (nth x0 s9657.2) s17716.2).Op_] : List Int)))).length)) (tr2 := []) (H2 := [.box [.int .u8 ((nth (nth x0 s9657.2) s17716.2).Op_), .int .i64 ((nth (nth x0 s9657.2) s17716.2).Mod_), .bool ((nth (nth x0 s9657.2) s17716.2).Not_), lsv encSt80 2 ((nth (nth x0 s9657.2) s17716.2).R_)], vecL (encI .u8) 1 5 (([(nth (nth x0 s9657.2) s17716.2).Op_] : List Int))]) (by kernel_rfl) hm (fun hc => rfl) (by kernel_rfl) ?_
        refine kC 1 [0,2,3,4,5,6] ?_
        refine kEN ?_
        obtain ⟨s19069, hy19071, h19073⟩ := bindS h19060
        refine K.cutN (by kernel_rfl) (fun (s19069 : (List UInt8)) => ([(0, lsv (encL encSt75 4) 1 x0), (2, .str ([] : List UInt8)), (3, .str s19069), (4, .int .i64 s9657.2), (5, .int .i64 s17716.2), (6, .ptr 0 0)], [.box [.int .u8 ((nth (nth x0 s9657.2) s17716.2).Op_), .int .i64 ((nth (nth x0 s9657.2) s17716.2).Mod_), .bool ((nth (nth x0 s9657.2) s17716.2).Not_), lsv encSt80 2 ((nth (nth x0 s9657.2) s17716.2).R_)]])) s19069 ?_ ?_
        ·refine kSR ?_
         refine kC 3 [0,2,3,4,5,6,46] ?_
         refine kEN ?_
         refine kBJ 46 hy19071 (fun h19075 => ?_) (fun h19076 => ?_)
         ·refine kT ?_
          refine kR ?_
          refine RJ.seg 1 [0, 2, 3, 4, 5, 6, 47] (L2 := [(0, lsv (encL encSt75 4) 1 x0), (2, .str ([] : List UInt8)), (3, .str ((s19051 ++ ((bytesS (([(nth (nth x0 s9657.2) s17716.2).Op_] : List Int))))))), (4, .int .i64 s9657.2), (5, .int .i64 s17716.2), (6, .ptr 0 0), (47, .str ((s19051 ++ ((bytesS (([(nth (nth x0 s9657.2) s17716.2).Op_] : List Int)))))))]) (H2 := [.box [.int .u8 ((nth (nth x0 s9657.2) s17716.2).Op_), .int .i64 ((nth (nth x0 s9657.2) s17716.2).Mod_), .bool ((nth (nth x0 s9657.2) s17716.2).Not_), lsv encSt80 2 ((nth (nth x0 s9657.2) s17716.2).R_)], vecL (encI .u8) 1 5 (([(nth (nth x0 s9657.2) s17716.2).Op_] : List Int))]) (by kernel_rfl) ?_
          obtain ⟨hm, h19077⟩ := asrt h19075
          refine RJ.rel (d := (some 48)) (ef := ⟨.str (((s19051 ++ ((bytesS (([(nth (nth x0 s9657.2) s17716.2).Op_] : List Int)))))) ++ ([32, 37, 32] : List UInt8)), [], []⟩) (ef' := ⟨.str (((s19051 ++ ((bytesS (([(nth (nth x0 s9657.2) s17716.2).Op_] : List Int)))))) ++ ([32, 37, 32] : List UInt8)), [], []⟩) (c := room (((s19051 ++ ((bytesS (([(nth (nth x0 s9657.2) s17716.2).Op_] : List Int)))))).length + ([32, 37, 32] : List UInt8).length)) (tr2 := []) (H2 := [.box [.int .u8 ((nth (nth x0 s9657.2) s17716.2).Op_), .int .i64 ((nth (nth x0 s9657.2) s17716.2).Mod_), .bool ((nth (nth x0 s9657.2) s17716.2).Not_), lsv encSt80 2 ((nth (nth x0 s9657.2) s17716.2).R_)], vecL (encI .u8) 1 5 (([(nth (nth x0 s9657.2) s17716.2).Op_] : List Int))]) (by kernel_rfl) hm (fun hc => rfl) (by kernel_rfl) ?_
          refine kC 2 [0,2,3,4,5,6,48,50] ?_
          obtain ⟨y19078, hy19079, h19080⟩ := bindS h19077
          refine kA 51 (exergueref05_Number_ok big hy19079) ?_
          obtain ⟨hm, h19081⟩ := asrt h19080
          refine RJ.rel (d := (some 52)) (ef := ⟨.str (((((s19051 ++ ((bytesS (([(nth (nth x0 s9657.2) s17716.2).Op_] : List Int)))))) ++ ([32, 37, 32] : List UInt8))) ++ y19078), [], []⟩) (ef' := ⟨.str (((((s19051 ++ ((bytesS (([(nth (nth x0 s9657.2) s17716.2).Op_] : List Int)))))) ++ ([32, 37, 32] : List UInt8))) ++ y19078), [], []⟩) (c := room (((((s19051 ++ ((bytesS (([(nth (nth x0 s9657.2) s17716.2).Op_] : List Int)))))) ++ ([32, 37, 32] : List UInt8))).length + y19078.length)) (tr2 := []) (H2 := [.box [.int .u8 ((nth (nth x0 s9657.2) s17716.2).Op_), .int .i64 ((nth (nth x0 s9657.2) s17716.2).Mod_), .bool ((nth (nth x0 s9657.2) s17716.2).Not_), lsv encSt80 2 ((nth (nth x0 s9657.2) s17716.2).R_)], vecL (encI .u8) 1 5 (([(nth (nth x0 s9657.2) s17716.2).Op_] : List Int))]) (by kernel_rfl) hm (fun hc => rfl) (by kernel_rfl) ?_
          refine kC 1 [0,2,3,4,5,6] ?_
          refine kE ?_
          obtain rfl := oi h19081
          refine PJ.wk (Wk.sel (L2 := [(0, lsv (encL encSt75 4) 1 x0), (2, .str ([] : List UInt8)), (3, .str ((((((s19051 ++ ((bytesS (([(nth (nth x0 s9657.2) s17716.2).Op_] : List Int)))))) ++ ([32, 37, 32] : List UInt8))) ++ y19078))), (4, .int .i64 s9657.2), (5, .int .i64 s17716.2), (6, .ptr 0 0)]) (H2 := [.box [.int .u8 ((nth (nth x0 s9657.2) s17716.2).Op_), .int .i64 ((nth (nth x0 s9657.2) s17716.2).Mod_), .bool ((nth (nth x0 s9657.2) s17716.2).Not_), lsv encSt80 2 ((nth (nth x0 s9657.2) s17716.2).R_)]]) 0 (by rw [hFH]; rfl) hFD [0] (by kernel_rfl) (by kernel_rfl) (by decide) (by kernel_rfl) (by kernel_rfl) (by kernel_rfl) (by kernel_rfl)) ?_
          exact kN [0, 2, 3, 4, 5, 6]
         ·refine kF ?_
          refine kK ?_
          obtain rfl := oi h19076
          refine PJ.wk (Wk.sel (L2 := [(0, lsv (encL encSt75 4) 1 x0), (2, .str ([] : List UInt8)), (3, .str ((s19051 ++ ((bytesS (([(nth (nth x0 s9657.2) s17716.2).Op_] : List Int))))))), (4, .int .i64 s9657.2), (5, .int .i64 s17716.2), (6, .ptr 0 0)]) (H2 := [.box [.int .u8 ((nth (nth x0 s9657.2) s17716.2).Op_), .int .i64 ((nth (nth x0 s9657.2) s17716.2).Mod_), .bool ((nth (nth x0 s9657.2) s17716.2).Not_), lsv encSt80 2 ((nth (nth x0 s9657.2) s17716.2).R_)]]) 0 (by rw [hFH]; rfl) hFD [0] (by kernel_rfl) (by kernel_rfl) (by decide) (by kernel_rfl) (by kernel_rfl) (by kernel_rfl) (by kernel_rfl)) ?_
          exact kN [0, 2, 3, 4, 5, 6]
        ·obtain ⟨s19087, hy19089, h19091⟩ := bindS h19073
         refine K.cutN (by kernel_rfl) (fun (s19087 : (List UInt8)) => ([(0, lsv (encL encSt75 4) 1 x0), (2, .str ([] : List UInt8)), (3, .str s19087), (4, .int .i64 s9657.2), (5, .int .i64 s17716.2), (6, .ptr 0 0)], [.box [.int .u8 ((nth (nth x0 s9657.2) s17716.2).Op_), .int .i64 ((nth (nth x0 s9657.2) s17716.2).Mod_), .bool ((nth (nth x0 s9657.2) s17716.2).Not_), lsv encSt80 2 ((nth (nth x0 s9657.2) s17716.2).R_)]])) s19087 ?_ ?_
         ·refine kSR ?_
          refine kC 2 [0,2,3,4,5,6,54] ?_
          refine kEN ?_
          refine kBJ 54 hy19089 (fun h19093 => ?_) (fun h19094 => ?_)
          ·refine kT ?_
           refine kR ?_
           refine kC 1 [0,2,3,4,5,6,55] ?_
           obtain ⟨hm, h19095⟩ := asrt h19093
           refine RJ.rel (d := (some 56)) (ef := ⟨.str (s19069 ++ ([32, 33, 61, 32] : List UInt8)), [], []⟩) (ef' := ⟨.str (s19069 ++ ([32, 33, 61, 32] : List UInt8)), [], []⟩) (c := room (s19069.length + ([32, 33, 61, 32] : List UInt8).length)) (tr2 := []) (H2 := [.box [.int .u8 ((nth (nth x0 s9657.2) s17716.2).Op_), .int .i64 ((nth (nth x0 s9657.2) s17716.2).Mod_), .bool ((nth (nth x0 s9657.2) s17716.2).Not_), lsv encSt80 2 ((nth (nth x0 s9657.2) s17716.2).R_)]]) (by kernel_rfl) hm (fun hc => rfl) (by kernel_rfl) ?_
           refine kC 1 [0,2,3,4,5,6] ?_
           refine kE ?_
           obtain rfl := oi h19095
           exact kN [0, 2, 3, 4, 5, 6]
          ·refine kF ?_
           refine kR ?_
           refine kC 1 [0,2,3,4,5,6,57] ?_
           obtain ⟨hm, h19096⟩ := asrt h19094
           refine RJ.rel (d := (some 58)) (ef := ⟨.str (s19069 ++ ([32, 61, 32] : List UInt8)), [], []⟩) (ef' := ⟨.str (s19069 ++ ([32, 61, 32] : List UInt8)), [], []⟩) (c := room (s19069.length + ([32, 61, 32] : List UInt8).length)) (tr2 := []) (H2 := [.box [.int .u8 ((nth (nth x0 s9657.2) s17716.2).Op_), .int .i64 ((nth (nth x0 s9657.2) s17716.2).Mod_), .bool ((nth (nth x0 s9657.2) s17716.2).Not_), lsv encSt80 2 ((nth (nth x0 s9657.2) s17716.2).R_)]]) (by kernel_rfl) hm (fun hc => rfl) (by kernel_rfl) ?_
           refine kC 1 [0,2,3,4,5,6] ?_
           refine kE ?_
           obtain rfl := oi h19096
           exact kN [0, 2, 3, 4, 5, 6]
         ·refine kSR ?_
          refine kC 1 [0,2,3,4,5,6,7] ?_
          refine kEN ?_
          refine K.block 4 (by kernel_rfl) ?_
          refine K.loop (by kernel_rfl) (fun (s19097 : (List UInt8) × Int) => ([(0, lsv (encL encSt75 4) 1 x0), (2, .str ([] : List UInt8)), (3, .str s19097.1), (4, .int .i64 s9657.2), (5, .int .i64 s17716.2), (6, .ptr 0 0), (7, .int .i64 s19097.2)], [.box [.int .u8 ((nth (nth x0 s9657.2) s17716.2).Op_), .int .i64 ((nth (nth x0 s9657.2) s17716.2).Mod_), .bool ((nth (nth x0 s9657.2) s17716.2).Not_), lsv encSt80 2 ((nth (nth x0 s9657.2) s17716.2).R_)]])) h19091 [0, 2, 3, 4, 5, 6, 7] (by kernel_rfl) (by kernel_rfl) (fun s19097 x19235 hs19234 => ?_)
          refine kS ?_
          refine kSR ?_
          refine kC 5 [0,2,3,4,5,6,7,63] ?_
          refine kEN ?_
          refine kBJ 63 hs19234 (fun h19237 => ?_) (fun h19238 => ?_)
          ·refine kT ?_
           refine kK ?_
           refine PJ.next ?_
           obtain ⟨s19268, hy19270, h19272⟩ := bindS h19237
           refine K.cutN (by kernel_rfl) (fun (s19268 : (List UInt8)) => ([(0, lsv (encL encSt75 4) 1 x0), (2, .str ([] : List UInt8)), (3, .str s19268), (4, .int .i64 s9657.2), (5, .int .i64 s17716.2), (6, .ptr 0 0), (7, .int .i64 s19097.2)], [.box [.int .u8 ((nth (nth x0 s9657.2) s17716.2).Op_), .int .i64 ((nth (nth x0 s9657.2) s17716.2).Mod_), .bool ((nth (nth x0 s9657.2) s17716.2).Not_), lsv encSt80 2 ((nth (nth x0 s9657.2) s17716.2).R_)]])) s19268 ?_ ?_
           ·refine K.block 5 (by kernel_rfl) ?_
            obtain ⟨s19277, hy19279, h19281⟩ := bindS hy19270
            refine K.cutN (by kernel_rfl) (fun (s19277 : (List UInt8)) => ([(0, lsv (encL encSt75 4) 1 x0), (2, .str ([] : List UInt8)), (3, .str s19277), (4, .int .i64 s9657.2), (5, .int .i64 s17716.2), (6, .ptr 0 0), (7, .int .i64 s19097.2)], [.box [.int .u8 ((nth (nth x0 s9657.2) s17716.2).Op_), .int .i64 ((nth (nth x0 s9657.2) s17716.2).Mod_), .bool ((nth (nth x0 s9657.2) s17716.2).Not_), lsv encSt80 2 ((nth (nth x0 s9657.2) s17716.2).R_)]])) s19277 ?_ ?_
            ·refine kSR ?_
             refine kC 2 [0,2,3,4,5,6,7,67] ?_
             refine kEN ?_
             refine kBJ 67 hy19279 (fun h19283 => ?_) (fun h19284 => ?_)
             ·refine kT ?_
              refine kR ?_
              refine kC 1 [0,2,3,4,5,6,7,68] ?_
              obtain ⟨hm, h19285⟩ := asrt h19283
              refine RJ.rel (d := (some 69)) (ef := ⟨.str (s19097.1 ++ ([44] : List UInt8)), [], []⟩) (ef' := ⟨.str (s19097.1 ++ ([44] : List UInt8)), [], []⟩) (c := room (s19097.1.length + ([44] : List UInt8).length)) (tr2 := []) (H2 := [.box [.int .u8 ((nth (nth x0 s9657.2) s17716.2).Op_), .int .i64 ((nth (nth x0 s9657.2) s17716.2).Mod_), .bool ((nth (nth x0 s9657.2) s17716.2).Not_), lsv encSt80 2 ((nth (nth x0 s9657.2) s17716.2).R_)]]) (by kernel_rfl) hm (fun hc => rfl) (by kernel_rfl) ?_
              refine RJ.seg 1 [0, 2, 3, 4, 5, 6, 7] (L2 := [(0, lsv (encL encSt75 4) 1 x0), (2, .str ([] : List UInt8)), (3, .str (s19097.1 ++ ([44] : List UInt8))), (4, .int .i64 s9657.2), (5, .int .i64 s17716.2), (6, .ptr 0 0), (7, .int .i64 s19097.2)]) (H2 := [.box [.int .u8 ((nth (nth x0 s9657.2) s17716.2).Op_), .int .i64 ((nth (nth x0 s9657.2) s17716.2).Mod_), .bool ((nth (nth x0 s9657.2) s17716.2).Not_), lsv encSt80 2 ((nth (nth x0 s9657.2) s17716.2).R_)]]) (by kernel_rfl) ?_
              refine kE ?_
              obtain rfl := oi h19285
              exact kN [0, 2, 3, 4, 5, 6, 7]
             ·refine kF ?_
              refine kK ?_
              obtain rfl := oi h19284
              exact kN [0, 2, 3, 4, 5, 6, 7]
            ·refine kSR ?_
             refine kC 4 [0,2,3,4,5,6,7,70,72,73] ?_
             obtain ⟨hm, h19286⟩ := asrt h19281
             refine kI 74 encSt80_len hm ?_
             refine kC 2 [0,2,3,4,5,6,7,70,76] ?_
             obtain ⟨y19287, hy19288, h19289⟩ := bindS h19286
             refine kA 77 (exergueref05_Number_ok big hy19288) ?_
             obtain ⟨hm, h19290⟩ := asrt h19289
             refine RJ.rel (d := (some 78)) (ef := ⟨.str (s19277 ++ y19287), [], []⟩) (ef' := ⟨.str (s19277 ++ y19287), [], []⟩) (c := room (s19277.length + y19287.length)) (tr2 := []) (H2 := [.box [.int .u8 ((nth (nth x0 s9657.2) s17716.2).Op_), .int .i64 ((nth (nth x0 s9657.2) s17716.2).Mod_), .bool ((nth (nth x0 s9657.2) s17716.2).Not_), lsv encSt80 2 ((nth (nth x0 s9657.2) s17716.2).R_)]]) (by kernel_rfl) hm (fun hc => rfl) (by kernel_rfl) ?_
             refine kC 1 [0,2,3,4,5,6,7] ?_
             refine kEN ?_
             refine kS ?_
             refine J.keep [0, 2, 3, 4, 5, 6, 7] (L2 := [(0, lsv (encL encSt75 4) 1 x0), (2, .str ([] : List UInt8)), (3, .str (s19277 ++ y19287)), (4, .int .i64 s9657.2), (5, .int .i64 s17716.2), (6, .ptr 0 0), (7, .int .i64 s19097.2)]) (by kernel_rfl) ?_
             refine K.draw (by kernel_rfl) (by kernel_rfl) (by kernel_rfl) (H2 := [.box [.int .u8 ((nth (nth x0 s9657.2) s17716.2).Op_), .int .i64 ((nth (nth x0 s9657.2) s17716.2).Mod_), .bool ((nth (nth x0 s9657.2) s17716.2).Not_), lsv encSt80 2 ((nth (nth x0 s9657.2) s17716.2).R_)]]) (by kernel_rfl) (n := 1) (by kernel_rfl) ?_
             refine RJ.segD 3 (tr2 := [([], []), ([0, 1], []), ([], [])]) (L2 := [(81, .int .i64 s19097.2), (80, lsv encSt80 2 ((nth (nth x0 s9657.2) s17716.2).R_)), (79, .ptr 0 3), (0, lsv (encL encSt75 4) 1 x0), (2, .str ([] : List UInt8)), (3, .str (s19277 ++ y19287)), (4, .int .i64 s9657.2), (5, .int .i64 s17716.2), (6, .ptr 0 0), (7, .int .i64 s19097.2)]) (H2 := [.box [.int .u8 ((nth (nth x0 s9657.2) s17716.2).Op_), .int .i64 ((nth (nth x0 s9657.2) s17716.2).Mod_), .bool ((nth (nth x0 s9657.2) s17716.2).Not_), lsv encSt80 2 ((nth (nth x0 s9657.2) s17716.2).R_)]]) (by kernel_rfl) ?_
             obtain ⟨hm, h19291⟩ := asrt h19290
             refine RJ.rel (d := (some 82)) (ef := ⟨.ep (((((nth (nth x0 s9657.2) s17716.2).R_).flatMap encSt80).drop ((s19097.2 : Int).toNat * 2)).take 2), [], []⟩) (ef' := ⟨.ep (encSt80 (nth ((nth (nth x0 s9657.2) s17716.2).R_) s19097.2)), [], []⟩) (c := inR s19097.2 ((nth (nth x0 s9657.2) s17716.2).R_).length) (tr2 := [([], []), ([0, 1], []), ([], []), ([], [])]) (H2 := [.box [.int .u8 ((nth (nth x0 s9657.2) s17716.2).Op_), .int .i64 ((nth (nth x0 s9657.2) s17716.2).Mod_), .bool ((nth (nth x0 s9657.2) s17716.2).Not_), lsv encSt80 2 ((nth (nth x0 s9657.2) s17716.2).R_)]]) (by kernel_rfl) hm (fun hc => N.idx encSt80_len hc) (by kernel_rfl) ?_
             refine kD 5 ?_
             obtain ⟨hm, h19292⟩ := asrt h19291
             refine RJ.rel (d := (some 88)) (ef := ⟨.ep (((((nth (nth x0 s9657.2) s17716.2).R_).flatMap encSt80).drop ((s19097.2 : Int).toNat * 2)).take 2), [], []⟩) (ef' := ⟨.ep (encSt80 (nth ((nth (nth x0 s9657.2) s17716.2).R_) s19097.2)), [], []⟩) (c := inR s19097.2 ((nth (nth x0 s9657.2) s17716.2).R_).length) (tr2 := [([], []), ([0, 1], []), ([], []), ([], []), ([], []), ([], []), ([], []), ([0, 1], []), ([], []), ([], [])]) (H2 := [.box [.int .u8 ((nth (nth x0 s9657.2) s17716.2).Op_), .int .i64 ((nth (nth x0 s9657.2) s17716.2).Mod_), .bool ((nth (nth x0 s9657.2) s17716.2).Not_), lsv encSt80 2 ((nth (nth x0 s9657.2) s17716.2).R_)]]) (by kernel_rfl) hm (fun hc => N.idx encSt80_len hc) (by kernel_rfl) ?_
             refine kD 3 ?_
             refine kEN ?_
             refine kBJ 91 h19292 (fun h19294 => ?_) (fun h19295 => ?_)
             ·refine kT ?_
              refine kR ?_
              refine kC 1 [0,2,3,4,5,6,7,92] ?_
              obtain ⟨hm, h19296⟩ := asrt h19294
              refine RJ.rel (d := (some 93)) (ef := ⟨.str ((s19277 ++ y19287) ++ ([46, 46] : List UInt8)), [], []⟩) (ef' := ⟨.str ((s19277 ++ y19287) ++ ([46, 46] : List UInt8)), [], []⟩) (c := room ((s19277 ++ y19287).length + ([46, 46] : List UInt8).length)) (tr2 := []) (H2 := [.box [.int .u8 ((nth (nth x0 s9657.2) s17716.2).Op_), .int .i64 ((nth (nth x0 s9657.2) s17716.2).Mod_), .bool ((nth (nth x0 s9657.2) s17716.2).Not_), lsv encSt80 2 ((nth (nth x0 s9657.2) s17716.2).R_)]]) (by kernel_rfl) hm (fun hc => rfl) (by kernel_rfl) ?_
              refine RJ.seg 3 [0, 2, 3, 4, 5, 6, 7, 93, 95, 96] (L2 := [(0, lsv (encL encSt75 4) 1 x0), (2, .str ([] : List UInt8)), (3, .str (s19277 ++ y19287)), (4, .int .i64 s9657.2), (5, .int .i64 s17716.2), (6, .ptr 0 0), (7, .int .i64 s19097.2), (93, .str ((s19277 ++ y19287) ++ ([46, 46] : List UInt8))), (95, lsv encSt80 2 ((nth (nth x0 s9657.2) s17716.2).R_)), (96, .int .i64 s19097.2)]) (H2 := [.box [.int .u8 ((nth (nth x0 s9657.2) s17716.2).Op_), .int .i64 ((nth (nth x0 s9657.2) s17716.2).Mod_), .bool ((nth (nth x0 s9657.2) s17716.2).Not_), lsv encSt80 2 ((nth (nth x0 s9657.2) s17716.2).R_)]]) (by kernel_rfl) ?_
              obtain ⟨hm, h19297⟩ := asrt h19296
              refine kI 97 encSt80_len hm ?_
              refine kC 2 [0,2,3,4,5,6,7,93,99] ?_
              obtain ⟨y19298, hy19299, h19300⟩ := bindS h19297
              refine kA 100 (exergueref05_Number_ok big hy19299) ?_
              obtain ⟨hm, h19301⟩ := asrt h19300
              refine RJ.rel (d := (some 101)) (ef := ⟨.str (((s19277 ++ y19287) ++ ([46, 46] : List UInt8)) ++ y19298), [], []⟩) (ef' := ⟨.str (((s19277 ++ y19287) ++ ([46, 46] : List UInt8)) ++ y19298), [], []⟩) (c := room (((s19277 ++ y19287) ++ ([46, 46] : List UInt8)).length + y19298.length)) (tr2 := []) (H2 := [.box [.int .u8 ((nth (nth x0 s9657.2) s17716.2).Op_), .int .i64 ((nth (nth x0 s9657.2) s17716.2).Mod_), .bool ((nth (nth x0 s9657.2) s17716.2).Not_), lsv encSt80 2 ((nth (nth x0 s9657.2) s17716.2).R_)]]) (by kernel_rfl) hm (fun hc => rfl) (by kernel_rfl) ?_
              refine kC 1 [0,2,3,4,5,6,7] ?_
              refine kE ?_
              refine PJ.blockNormal ?_
              obtain rfl := oi h19301
              exact kN [0, 2, 3, 4, 5, 6, 7]
             ·refine kF ?_
              refine kK ?_
              refine PJ.blockNormal ?_
              obtain rfl := oi h19295
              exact kN [0, 2, 3, 4, 5, 6, 7]
           ·refine kR ?_
            refine kC 3 [0,2,3,4,5,6,7] ?_
            refine kE ?_
            obtain rfl := oi h19272
            exact PJ.loopNext [0, 2, 3, 4, 5, 6, 7] (by kernel_rfl) (by kernel_rfl)
          ·refine kF ?_
           refine K.exit 4 (by kernel_rfl) ?_
           refine PJ.passExit ?_
           obtain rfl := oi h19238
           refine PJ.loopOut (fun e => nomatch e) (fun he19303 => ?_)
           have h19302 := congrArg some he19303
           refine PJ.blockOut ?_
           refine PJ.blockNormal ?_
           obtain rfl := oi h19302
           refine PJ.wk (Wk.sel (L2 := [(0, lsv (encL encSt75 4) 1 x0), (2, .str ([] : List UInt8)), (3, .str s19097.1), (4, .int .i64 s9657.2), (5, .int .i64 s17716.2)]) (H2 := []) 0 (by rw [hFH]; rfl) hFD [] (by kernel_rfl) (by kernel_rfl) (by decide) (by kernel_rfl) (by kernel_rfl) (by kernel_rfl) (by kernel_rfl)) ?_
           exact kN [0, 2, 3, 4, 5]
      ·refine kR ?_
       refine kC 3 [0,2,3,4,5] ?_
       refine kE ?_
       obtain rfl := oi h19044
       exact PJ.loopNext [0, 2, 3, 4, 5] (by kernel_rfl) (by kernel_rfl)
     ·refine kF ?_
      refine K.exit 2 (by kernel_rfl) ?_
      refine PJ.passExit ?_
      obtain rfl := oi h18780
      refine PJ.loopOut (fun e => nomatch e) (fun he19305 => ?_)
      have h19304 := congrArg some he19305
      refine PJ.blockOut ?_
      refine PJ.blockNormal ?_
      obtain rfl := oi h19304
      exact kN [0, 2, 3, 4]
   ·refine kR ?_
    refine kC 3 [0,2,3,4] ?_
    refine kE ?_
    obtain rfl := oi h17702
    exact PJ.loopNext [0, 2, 3, 4] (by kernel_rfl) (by kernel_rfl)
  ·refine kF ?_
   refine K.exit 0 (by kernel_rfl) ?_
   refine PJ.passExit ?_
   obtain rfl := oi h16094
   refine PJ.loopOut (fun e => nomatch e) (fun he19307 => ?_)
   have h19306 := congrArg some he19307
   refine PJ.blockOut ?_
   obtain rfl := oi h19306
   exact kN [2, 3]
 ·refine kSR ?_
  refine kC 2 [2] ?_
  refine kEN ?_
  refine kX ?_
  obtain rfl := oi h9656
  exact kZ hFn hFH hFD
def exergueref11_over (x0 : List UInt8) (x1 : Int) : Option (Int) :=
 (Option.bind (loopN (fun (s138 : Int) => (Option.bind (Option.bind (bif (decide (s138 < (x0.length : Int))) then (bif inR s138 x0.length then (some ((decide (((((x0.getD (s138 : Int).toNat 0).toNat : Nat) : Int)) = 32)))) else none) else (some false)) fun (s255 : Bool) => (bif s255 then (some (.inl ())) else (some (.inr (.inr s138))))) (joinX fun (s246 : Unit) => (some (.inl (IntKind.wrap .i64 (s138 + 1))))))) big x1) fun (s133 : Int) => (some s133))
theorem exergueref11_over_ok {x0 : List UInt8} {x1 : Int} {r : Int} (h : exergueref11_over x0 x1 = some r) : SC Tryz.prog 42 [.str x0, .int .i64 x1] [] (.int .i64 r) [] := by
 refine kFn (fn := Tryz.f42) (fun F hFn hFH hFD => ?_)
 unfold exergueref11_over at h
 refine kSR ?_
 refine kC 1 [0,1,4] ?_
 refine kEN ?_
 obtain ⟨s133, hy135, h137⟩ := bindS h
 refine K.cutN (by kernel_rfl) (fun (s133 : Int) => ([(1, .int .i64 s133), (4, .int .i64 0)], [])) s133 ?_ ?_
 ·refine K.block 0 (by kernel_rfl) ?_
  refine K.loop (by kernel_rfl) (fun (s138 : Int) => ([(0, .str x0), (1, .int .i64 s138), (4, .int .i64 0)], [])) hy135 [0, 1, 4] (by kernel_rfl) (by kernel_rfl) (fun s138 x226 hs225 => ?_)
  obtain ⟨y247, hy248, h249⟩ := bindS hs225
  refine K.cutX (by kernel_rfl) (fun (s246 : Unit) => ([(0, .str x0), (1, .int .i64 s138), (4, .int .i64 0)], [])) y247 ?_ (fun s246 hs => ?_)
  ·obtain ⟨s255, hy257, h259⟩ := bindS hy248
   refine K.cutN (by kernel_rfl) (fun (s255 : Bool) => ([(0, .str x0), (1, .int .i64 s138), (4, .int .i64 0), (14, .bool s255)], [])) s255 ?_ ?_
   ·refine kR ?_
    refine kC 5 [0,1,4,9] ?_
    refine kB 9 hy257 (fun h261 => ?_) (fun h262 => ?_)
    ·refine kC 2 [0,1,4,9,10,11] ?_
     obtain ⟨hm, h263⟩ := asrt h261
     refine kG 12 hm ?_
     refine kC 2 [0,1,4,14] ?_
     refine kE ?_
     obtain rfl := oi h263
     exact kN [0, 1, 4, 14]
    ·refine kC 5 [0,1,4,14] ?_
     refine kE ?_
     obtain rfl := oi h262
     exact kN [0, 1, 4, 14]
   ·refine kBJ 14 h259 (fun h265 => ?_) (fun h266 => ?_)
    ·refine kT ?_
     refine kK ?_
     obtain rfl := oi h265
     exact PJ.cutXl [0, 1, 4] (by kernel_rfl) (by kernel_rfl)
    ·refine kF ?_
     refine K.exit 0 (by kernel_rfl) ?_
     obtain rfl := oi h266
     have h267 := joinX_inr h249
     refine PJ.cutXr (fun e => nomatch e) ?_
     obtain rfl := oi h267
     refine PJ.loopOut (fun e => nomatch e) (fun he269 => ?_)
     have h268 := congrArg some he269
     refine PJ.blockOut ?_
     obtain rfl := oi h268
     exact kN [1, 4]
  ·subst hs
   have h250 := joinX_inl h249
   refine K.block 1 (by kernel_rfl) ?_
   refine kR ?_
   refine kC 3 [0,1,4] ?_
   refine kE ?_
   refine PJ.blockNormal ?_
   obtain rfl := oi h250
   exact PJ.loopNext [0, 1, 4] (by kernel_rfl) (by kernel_rfl)
 ·refine kSR ?_
  refine kC 2 [4] ?_
  refine kEN ?_
  refine kX ?_
  obtain rfl := oi h137
  exact kZ hFn hFH hFD
def exergueref11_word (x0 : List UInt8) (x1 : Int) : Option (Int) :=
 (Option.bind (loopN (fun (s186 : Int) => (Option.bind (Option.bind (bif (decide (s186 < (x0.length : Int))) then (bif inR s186 x0.length then (bif (decide (((((x0.getD (s186 : Int).toNat 0).toNat : Nat) : Int)) ≥ 97)) then (bif inR s186 x0.length then (some ((decide (((((x0.getD (s186 : Int).toNat 0).toNat : Nat) : Int)) ≤ 122)))) else none) else (some false)) else none) else (some false)) fun (s347 : Bool) => (bif s347 then (some (.inl ())) else (some (.inr (.inr s186))))) (joinX fun (s334 : Unit) => (some (.inl (IntKind.wrap .i64 (s186 + 1))))))) big x1) fun (s181 : Int) => (some s181))
theorem exergueref11_word_ok {x0 : List UInt8} {x1 : Int} {r : Int} (h : exergueref11_word x0 x1 = some r) : SC Tryz.prog 43 [.str x0, .int .i64 x1] [] (.int .i64 r) [] := by
 refine kFn (fn := Tryz.f43) (fun F hFn hFH hFD => ?_)
 unfold exergueref11_word at h
 refine kSR ?_
 refine kC 1 [0,1,4] ?_
 refine kEN ?_
 obtain ⟨s181, hy183, h185⟩ := bindS h
 refine K.cutN (by kernel_rfl) (fun (s181 : Int) => ([(1, .int .i64 s181), (4, .int .i64 0)], [])) s181 ?_ ?_
 ·refine K.block 0 (by kernel_rfl) ?_
  refine K.loop (by kernel_rfl) (fun (s186 : Int) => ([(0, .str x0), (1, .int .i64 s186), (4, .int .i64 0)], [])) hy183 [0, 1, 4] (by kernel_rfl) (by kernel_rfl) (fun s186 x306 hs305 => ?_)
  obtain ⟨y335, hy336, h337⟩ := bindS hs305
  refine K.cutX (by kernel_rfl) (fun (s334 : Unit) => ([(0, .str x0), (1, .int .i64 s186), (4, .int .i64 0)], [])) y335 ?_ (fun s334 hs => ?_)
  ·obtain ⟨s347, hy349, h351⟩ := bindS hy336
   refine K.cutN (by kernel_rfl) (fun (s347 : Bool) => ([(0, .str x0), (1, .int .i64 s186), (4, .int .i64 0), (20, .bool s347)], [])) s347 ?_ ?_
   ·refine kR ?_
    refine kC 5 [0,1,4,9] ?_
    refine kB 9 hy349 (fun h353 => ?_) (fun h354 => ?_)
    ·refine kC 2 [0,1,4,9,10,11] ?_
     obtain ⟨hm, h355⟩ := asrt h353
     refine kG 12 hm ?_
     refine kC 3 [0,1,4,15] ?_
     refine kB 15 h355 (fun h357 => ?_) (fun h358 => ?_)
     ·refine RJ.seg 2 [0, 1, 4, 15, 16, 17] (L2 := [(0, .str x0), (1, .int .i64 s186), (4, .int .i64 0), (15, .bool true), (16, .str x0), (17, .int .i64 s186)]) (H2 := []) (by kernel_rfl) ?_
      obtain ⟨hm, h359⟩ := asrt h357
      refine kG 18 hm ?_
      refine kC 2 [0,1,4,20] ?_
      refine kE ?_
      obtain rfl := oi h359
      exact kN [0, 1, 4, 20]
     ·refine RJ.seg 5 [0, 1, 4, 20] (L2 := [(0, .str x0), (1, .int .i64 s186), (4, .int .i64 0), (20, .bool false)]) (H2 := []) (by kernel_rfl) ?_
      refine kE ?_
      obtain rfl := oi h358
      exact kN [0, 1, 4, 20]
    ·refine kC 11 [0,1,4,20] ?_
     refine kE ?_
     obtain rfl := oi h354
     exact kN [0, 1, 4, 20]
   ·refine kBJ 20 h351 (fun h361 => ?_) (fun h362 => ?_)
    ·refine kT ?_
     refine kK ?_
     obtain rfl := oi h361
     exact PJ.cutXl [0, 1, 4] (by kernel_rfl) (by kernel_rfl)
    ·refine kF ?_
     refine K.exit 0 (by kernel_rfl) ?_
     obtain rfl := oi h362
     have h363 := joinX_inr h337
     refine PJ.cutXr (fun e => nomatch e) ?_
     obtain rfl := oi h363
     refine PJ.loopOut (fun e => nomatch e) (fun he365 => ?_)
     have h364 := congrArg some he365
     refine PJ.blockOut ?_
     obtain rfl := oi h364
     exact kN [1, 4]
  ·subst hs
   have h338 := joinX_inl h337
   refine K.block 1 (by kernel_rfl) ?_
   refine kR ?_
   refine kC 3 [0,1,4] ?_
   refine kE ?_
   refine PJ.blockNormal ?_
   obtain rfl := oi h338
   exact PJ.loopNext [0, 1, 4] (by kernel_rfl) (by kernel_rfl)
 ·refine kSR ?_
  refine kC 2 [4] ?_
  refine kEN ?_
  refine kX ?_
  obtain rfl := oi h185
  exact kZ hFn hFH hFD
def exergueref11_op (x0 : Int) : Option (Bool) :=
 (Option.bind (bif (decide (x0 = 110)) then (some true) else (bif (decide (x0 = 105)) then (some true) else (bif (decide (x0 = 118)) then (some true) else (bif (decide (x0 = 119)) then (some true) else (bif (decide (x0 = 102)) then (some true) else (bif (decide (x0 = 116)) then (some true) else (bif (decide (x0 = 99)) then (some true) else (some (decide (x0 = 101)))))))))) fun (s22 : Bool) => (some s22))
theorem exergueref11_op_ok {x0 : Int} {r : Bool} (h : exergueref11_op x0 = some r) : SC Tryz.prog 55 [.int .u8 x0] [] (.bool r) [] := by
 refine kFn (fn := Tryz.f55) (fun F hFn hFH hFD => ?_)
 unfold exergueref11_op at h
 refine kSR ?_
 refine kC 1 [0,2] ?_
 refine kEN ?_
 obtain ⟨s22, hy24, h26⟩ := bindS h
 refine K.cutN (by kernel_rfl) (fun (s22 : Bool) => ([(2, .bool s22)], [])) s22 ?_ ?_
 ·refine kR ?_
  refine kC 3 [0,2,5] ?_
  refine kB 5 hy24 (fun h28 => ?_) (fun h29 => ?_)
  ·refine kC 28 [2] ?_
   refine kE ?_
   obtain rfl := oi h28
   exact kN [2]
  ·refine kC 4 [0,2,9] ?_
   refine kB 9 h29 (fun h31 => ?_) (fun h32 => ?_)
   ·refine RJ.seg 24 [2] (L2 := [(2, .bool true)]) (H2 := []) (by kernel_rfl) ?_
    refine kE ?_
    obtain rfl := oi h31
    exact kN [2]
   ·refine RJ.seg 4 [0, 2, 13] (L2 := [(0, .int .u8 x0), (2, .bool false), (13, .bool (decide (x0 = 118)))]) (H2 := []) (by kernel_rfl) ?_
    refine kB 13 h32 (fun h34 => ?_) (fun h35 => ?_)
    ·refine kC 20 [2] ?_
     refine kE ?_
     obtain rfl := oi h34
     exact kN [2]
    ·refine kC 4 [0,2,17] ?_
     refine kB 17 h35 (fun h37 => ?_) (fun h38 => ?_)
     ·refine kC 16 [2] ?_
      refine kE ?_
      obtain rfl := oi h37
      exact kN [2]
     ·refine kC 4 [0,2,21] ?_
      refine kB 21 h38 (fun h40 => ?_) (fun h41 => ?_)
      ·refine kC 12 [2] ?_
       refine kE ?_
       obtain rfl := oi h40
       exact kN [2]
      ·refine kC 4 [0,2,25] ?_
       refine kB 25 h41 (fun h43 => ?_) (fun h44 => ?_)
       ·refine RJ.seg 8 [2] (L2 := [(2, .bool true)]) (H2 := []) (by kernel_rfl) ?_
        refine kE ?_
        obtain rfl := oi h43
        exact kN [2]
       ·refine RJ.seg 4 [0, 2, 29] (L2 := [(0, .int .u8 x0), (2, .bool false), (29, .bool (decide (x0 = 99)))]) (H2 := []) (by kernel_rfl) ?_
        refine kB 29 h44 (fun h46 => ?_) (fun h47 => ?_)
        ·refine kC 4 [2] ?_
         refine kE ?_
         obtain rfl := oi h46
         exact kN [2]
        ·refine kC 4 [2] ?_
         refine kE ?_
         obtain rfl := oi h47
         exact kN [2]
 ·refine kX ?_
  obtain rfl := oi h26
  exact kZ hFn hFH hFD
def exergueref11_sign (x0 : List UInt8) (x1 : Int) (x2 : List UInt8) : Option (Bool) :=
 (Option.bind (bif (decide (((IntKind.wrap .i64 (x1 + (x2.length : Int)))) ≤ (x0.length : Int))) then (bif inS x1 ((IntKind.wrap .i64 (x1 + (x2.length : Int)))) x0.length then (some ((((cut x0 x1 ((IntKind.wrap .i64 (x1 + (x2.length : Int)))))) == x2))) else none) else (some false)) fun (s5 : Bool) => (some s5))
theorem exergueref11_sign_ok {x0 : List UInt8} {x1 : Int} {x2 : List UInt8} {r : Bool} (h : exergueref11_sign x0 x1 x2 = some r) : SC Tryz.prog 56 [.str x0, .int .i64 x1, .str x2] [] (.bool r) [] := by
 refine kFn (fn := Tryz.f56) (fun F hFn hFH hFD => ?_)
 unfold exergueref11_sign at h
 refine kSR ?_
 refine kC 1 [0,1,2,6] ?_
 refine kEN ?_
 obtain ⟨s5, hy7, h9⟩ := bindS h
 refine K.cutN (by kernel_rfl) (fun (s5 : Bool) => ([(6, .bool s5)], [])) s5 ?_ ?_
 ·refine kR ?_
  refine kC 8 [0,1,2,6,14] ?_
  refine kB 14 hy7 (fun h11 => ?_) (fun h12 => ?_)
  ·refine kC 6 [2,6,14,15,16,20] ?_
   obtain ⟨hm, h13⟩ := asrt h11
   refine RJ.rel (d := (some 21)) (ef := ⟨.str (cut x0 x1 ((IntKind.wrap .i64 (x1 + (x2.length : Int))))), [], []⟩) (ef' := ⟨.str (cut x0 x1 ((IntKind.wrap .i64 (x1 + (x2.length : Int))))), [], []⟩) (c := inS x1 ((IntKind.wrap .i64 (x1 + (x2.length : Int)))) x0.length) (tr2 := []) (H2 := []) (by kernel_rfl) hm (fun hc => rfl) (by kernel_rfl) ?_
   refine RJ.seg 4 [6] (L2 := [(6, .bool ((((cut x0 x1 ((IntKind.wrap .i64 (x1 + (x2.length : Int)))))) == x2)))]) (H2 := []) (by kernel_rfl) ?_
   refine kE ?_
   obtain rfl := oi h13
   exact kN [6]
  ·refine kC 11 [6] ?_
   refine kE ?_
   obtain rfl := oi h12
   exact kN [6]
 ·refine kX ?_
  obtain rfl := oi h9
  exact kZ hFn hFH hFD
def exergueref11_number (x0 : List UInt8) (x1 : Int) (x2 : Int) : Option (Int × Int) :=
 (Option.bind (exergueref11_over x0 x1) fun y1 => (Option.bind (loopN (fun (s228 : Int × Int) => (Option.bind (Option.bind (bif (decide (s228.1 < (x0.length : Int))) then (bif inR s228.1 x0.length then (bif (decide (((((x0.getD (s228.1 : Int).toNat 0).toNat : Nat) : Int)) ≥ 48)) then (bif inR s228.1 x0.length then (some ((decide (((((x0.getD (s228.1 : Int).toNat 0).toNat : Nat) : Int)) ≤ 57)))) else none) else (some false)) else none) else (some false)) fun (s415 : Bool) => (bif s415 then (some (.inl ())) else (some (.inr (.inr (s228.1, s228.2)))))) (joinX fun (s402 : Unit) => (Option.bind (bif (decide ((IntKind.wrap .i64 (s228.1 - y1)) < 9)) then (bif inR s228.1 x0.length then (some ((IntKind.wrap .i64 ((IntKind.wrap .i64 (s228.2 * 10)) + ((IntKind.wrap .i64 ((IntKind.wrap .u8 (((((x0.getD (s228.1 : Int).toNat 0).toNat : Nat) : Int)) - 48))))))))) else none) else (some s228.2)) fun (s438 : Int) => (some (.inl ((IntKind.wrap .i64 (s228.1 + 1)), s438))))))) big (y1, 0)) fun (s223 : Int × Int) => (Option.bind (Option.bind (bif (decide (s223.1 = y1)) then (some true) else (bif (decide ((IntKind.wrap .i64 (s223.1 - y1)) > 9)) then (some true) else (bif inR y1 x0.length then (bif (decide (((((x0.getD (y1 : Int).toNat 0).toNat : Nat) : Int)) = 48)) then (bif (decide ((IntKind.wrap .i64 (s223.1 - y1)) > 1)) then (some true) else (some (decide (s223.2 < x2)))) else (some (decide (s223.2 < x2)))) else none))) fun (s500 : Bool) => (bif s500 then (some (.inr ((-1), y1))) else (some (.inl ())))) (joinX fun (s482 : Unit) => (some (s223.2, s223.1))))))
theorem exergueref11_number_ok {x0 : List UInt8} {x1 : Int} {x2 : Int} {r : Int × Int} (h : exergueref11_number x0 x1 x2 = some r) : SC Tryz.prog 57 [.str x0, .int .i64 x1, .int .i64 x2] [] (.tup [.int .i64 r.1, .int .i64 r.2]) [] := by
 refine kFn (fn := Tryz.f57) (fun F hFn hFH hFD => ?_)
 unfold exergueref11_number at h
 refine kSR ?_
 refine kC 2 [0,1,2,6,7] ?_
 refine kEN ?_
 refine kSR ?_
 refine kC 2 [0,2,6,7,11,12] ?_
 obtain ⟨y1, hy2, h3⟩ := bindS h
 refine kA 13 (exergueref11_over_ok hy2) ?_
 refine kC 1 [0,2,6,7,8] ?_
 refine kEN ?_
 refine kSR ?_
 refine RJ.seg 2 [0, 2, 6, 7, 8, 9] (L2 := [(0, .str x0), (2, .int .i64 x2), (6, .int .i64 0), (7, .int .i64 0), (8, .int .i64 y1), (9, .int .i64 y1)]) (H2 := []) (by kernel_rfl) ?_
 refine kEN ?_
 refine kSR ?_
 refine kC 1 [0,2,6,7,8,9,10] ?_
 refine kEN ?_
 obtain ⟨s223, hy225, h227⟩ := bindS h3
 refine K.cutN (by kernel_rfl) (fun (s223 : Int × Int) => ([(0, .str x0), (2, .int .i64 x2), (6, .int .i64 0), (7, .int .i64 0), (8, .int .i64 y1), (9, .int .i64 s223.1), (10, .int .i64 s223.2)], [])) s223 ?_ ?_
 ·refine K.block 0 (by kernel_rfl) ?_
  refine K.loop (by kernel_rfl) (fun (s228 : Int × Int) => ([(0, .str x0), (2, .int .i64 x2), (6, .int .i64 0), (7, .int .i64 0), (8, .int .i64 y1), (9, .int .i64 s228.1), (10, .int .i64 s228.2)], [])) hy225 [0, 2, 6, 7, 8, 9, 10] (by kernel_rfl) (by kernel_rfl) (fun s228 x374 hs373 => ?_)
  obtain ⟨y403, hy404, h405⟩ := bindS hs373
  refine K.cutX (by kernel_rfl) (fun (s402 : Unit) => ([(0, .str x0), (2, .int .i64 x2), (6, .int .i64 0), (7, .int .i64 0), (8, .int .i64 y1), (9, .int .i64 s228.1), (10, .int .i64 s228.2)], [])) y403 ?_ (fun s402 hs => ?_)
  ·obtain ⟨s415, hy417, h419⟩ := bindS hy404
   refine K.cutN (by kernel_rfl) (fun (s415 : Bool) => ([(0, .str x0), (2, .int .i64 x2), (6, .int .i64 0), (7, .int .i64 0), (8, .int .i64 y1), (9, .int .i64 s228.1), (10, .int .i64 s228.2), (30, .bool s415)], [])) s415 ?_ ?_
   ·refine kR ?_
    refine kC 5 [0,2,6,7,8,9,10,19] ?_
    refine kB 19 hy417 (fun h421 => ?_) (fun h422 => ?_)
    ·refine kC 2 [0,2,6,7,8,9,10,19,20,21] ?_
     obtain ⟨hm, h423⟩ := asrt h421
     refine kG 22 hm ?_
     refine kC 3 [0,2,6,7,8,9,10,25] ?_
     refine kB 25 h423 (fun h425 => ?_) (fun h426 => ?_)
     ·refine RJ.seg 2 [0, 2, 6, 7, 8, 9, 10, 25, 26, 27] (L2 := [(0, .str x0), (2, .int .i64 x2), (6, .int .i64 0), (7, .int .i64 0), (8, .int .i64 y1), (9, .int .i64 s228.1), (10, .int .i64 s228.2), (25, .bool true), (26, .str x0), (27, .int .i64 s228.1)]) (H2 := []) (by kernel_rfl) ?_
      obtain ⟨hm, h427⟩ := asrt h425
      refine kG 28 hm ?_
      refine kC 2 [0,2,6,7,8,9,10,30] ?_
      refine kE ?_
      obtain rfl := oi h427
      exact kN [0, 2, 6, 7, 8, 9, 10, 30]
     ·refine RJ.seg 5 [0, 2, 6, 7, 8, 9, 10, 30] (L2 := [(0, .str x0), (2, .int .i64 x2), (6, .int .i64 0), (7, .int .i64 0), (8, .int .i64 y1), (9, .int .i64 s228.1), (10, .int .i64 s228.2), (30, .bool false)]) (H2 := []) (by kernel_rfl) ?_
      refine kE ?_
      obtain rfl := oi h426
      exact kN [0, 2, 6, 7, 8, 9, 10, 30]
    ·refine kC 11 [0,2,6,7,8,9,10,30] ?_
     refine kE ?_
     obtain rfl := oi h422
     exact kN [0, 2, 6, 7, 8, 9, 10, 30]
   ·refine kBJ 30 h419 (fun h429 => ?_) (fun h430 => ?_)
    ·refine kT ?_
     refine kK ?_
     obtain rfl := oi h429
     exact PJ.cutXl [0, 2, 6, 7, 8, 9, 10] (by kernel_rfl) (by kernel_rfl)
    ·refine kF ?_
     refine K.exit 0 (by kernel_rfl) ?_
     obtain rfl := oi h430
     have h431 := joinX_inr h405
     refine PJ.cutXr (fun e => nomatch e) ?_
     obtain rfl := oi h431
     refine PJ.loopOut (fun e => nomatch e) (fun he433 => ?_)
     have h432 := congrArg some he433
     refine PJ.blockOut ?_
     obtain rfl := oi h432
     exact kN [0, 2, 6, 7, 8, 9, 10]
  ·subst hs
   have h406 := joinX_inl h405
   refine K.block 1 (by kernel_rfl) ?_
   obtain ⟨s438, hy440, h442⟩ := bindS h406
   refine K.cutN (by kernel_rfl) (fun (s438 : Int) => ([(0, .str x0), (2, .int .i64 x2), (6, .int .i64 0), (7, .int .i64 0), (8, .int .i64 y1), (9, .int .i64 s228.1), (10, .int .i64 s438)], [])) s438 ?_ ?_
   ·refine kSR ?_
    refine kC 4 [0,2,6,7,8,9,10,34] ?_
    refine kEN ?_
    refine kBJ 34 hy440 (fun h444 => ?_) (fun h445 => ?_)
    ·refine kT ?_
     refine kR ?_
     refine kC 4 [0,2,6,7,8,9,10,36,37,38] ?_
     obtain ⟨hm, h446⟩ := asrt h444
     refine kG 39 hm ?_
     refine kC 4 [0,2,6,7,8,9,10] ?_
     refine kE ?_
     obtain rfl := oi h446
     exact kN [0, 2, 6, 7, 8, 9, 10]
    ·refine kF ?_
     refine kK ?_
     obtain rfl := oi h445
     exact kN [0, 2, 6, 7, 8, 9, 10]
   ·refine kR ?_
    refine kC 3 [0,2,6,7,8,9,10] ?_
    refine kE ?_
    refine PJ.blockNormal ?_
    obtain rfl := oi h442
    exact PJ.loopNext [0, 2, 6, 7, 8, 9, 10] (by kernel_rfl) (by kernel_rfl)
 ·obtain ⟨y483, hy484, h485⟩ := bindS h227
  refine K.cutX (by kernel_rfl) (fun (s482 : Unit) => ([(6, .int .i64 0), (7, .int .i64 0), (9, .int .i64 s223.1), (10, .int .i64 s223.2)], [])) y483 ?_ (fun s482 hs => ?_)
  ·obtain ⟨s500, hy502, h504⟩ := bindS hy484
   refine K.cutN (by kernel_rfl) (fun (s500 : Bool) => ([(6, .int .i64 0), (7, .int .i64 0), (8, .int .i64 y1), (9, .int .i64 s223.1), (10, .int .i64 s223.2), (70, .bool s500)], [])) s500 ?_ ?_
   ·refine kR ?_
    refine kC 4 [0,2,6,7,8,9,10,48] ?_
    refine kB 48 hy502 (fun h506 => ?_) (fun h507 => ?_)
    ·refine kC 22 [6,7,8,9,10,70] ?_
     refine kE ?_
     obtain rfl := oi h506
     exact kN [6, 7, 8, 9, 10, 70]
    ·refine kC 6 [0,2,6,7,8,9,10,54] ?_
     refine kB 54 h507 (fun h509 => ?_) (fun h510 => ?_)
     ·refine kC 16 [6,7,8,9,10,70] ?_
      refine kE ?_
      obtain rfl := oi h509
      exact kN [6, 7, 8, 9, 10, 70]
     ·refine kC 2 [2,6,7,8,9,10,54,55,56] ?_
      obtain ⟨hm, h511⟩ := asrt h510
      refine kG 57 hm ?_
      refine RJ.seg 2 [2, 6, 7, 8, 9, 10, 54, 59] (L2 := [(2, .int .i64 x2), (6, .int .i64 0), (7, .int .i64 0), (8, .int .i64 y1), (9, .int .i64 s223.1), (10, .int .i64 s223.2), (54, .bool false), (59, .bool ((decide (((((x0.getD (y1 : Int).toNat 0).toNat : Nat) : Int)) = 48))))]) (H2 := []) (by kernel_rfl) ?_
      refine kB 59 h511 (fun h513 => ?_) (fun h514 => ?_)
      ·refine kC 7 [2,6,7,8,9,10,66] ?_
       refine kB 66 h513 (fun h516 => ?_) (fun h517 => ?_)
       ·refine kC 4 [6,7,8,9,10,70] ?_
        refine kE ?_
        obtain rfl := oi h516
        exact kN [6, 7, 8, 9, 10, 70]
       ·refine kC 4 [6,7,8,9,10,70] ?_
        refine kE ?_
        obtain rfl := oi h517
        exact kN [6, 7, 8, 9, 10, 70]
      ·refine kC 11 [6,7,8,9,10,70] ?_
       refine kE ?_
       obtain rfl := oi h514
       exact kN [6, 7, 8, 9, 10, 70]
   ·refine kBJ 70 h504 (fun h519 => ?_) (fun h520 => ?_)
    ·refine kT ?_
     refine kSR ?_
     refine kC 3 [6,7,9,10] ?_
     refine kEN ?_
     refine kX ?_
     obtain rfl := oi h519
     have h521 := joinX_inr h485
     refine PJ.cutXr (fun e => nomatch e) ?_
     obtain rfl := oi h521
     exact kZ hFn hFH hFD
    ·refine kF ?_
     refine kK ?_
     obtain rfl := oi h520
     exact PJ.cutXl [6, 7, 9, 10] (by kernel_rfl) (by kernel_rfl)
  ·subst hs
   have h486 := joinX_inl h485
   refine kSR ?_
   refine kC 4 [6,7] ?_
   refine kEN ?_
   refine kX ?_
   obtain rfl := oi h486
   exact kZ hFn hFH hFD
def exergueref11_ranges (x0 : List UInt8) (x1 : Int) : Option ((List St80) × Int × Bool) :=
 (loopN (fun (s1 : Int × (List St80)) => (Option.bind (exergueref11_number x0 s1.1 0) fun y120 => (bif (decide (y120.1 < 0)) then (some (.inr (([] : List St80), y120.2, false))) else (Option.bind (exergueref11_over x0 y120.2) fun y128 => (Option.bind (Option.bind (exergueref11_sign x0 y128 ([46, 46] : List UInt8)) fun y151 => (bif y151 then (Option.bind (exergueref11_number x0 (IntKind.wrap .i64 (y128 + 2)) (IntKind.wrap .i64 (y120.1 + 1))) fun y157 => (bif (decide (y157.1 < 0)) then (some (.inr (.inr (([] : List St80), y157.2, false)))) else (some (.inl (y157.2, y157.1))))) else (some (.inl (y120.2, y120.1))))) (joinX fun (s146 : Int × Int) => (bif room (s1.2.length + ([(⟨y120.1, s146.2⟩ : St80)] : List St80).length) then (Option.bind (exergueref11_over x0 s146.1) fun y167 => (Option.bind (exergueref11_sign x0 y167 ([44] : List UInt8)) fun y170 => (bif (!y170) then (some (.inr ((s1.2 ++ ([(⟨y120.1, s146.2⟩ : St80)] : List St80)), s146.1, true))) else (some (.inl ((IntKind.wrap .i64 (y167 + 1)), (s1.2 ++ ([(⟨y120.1, s146.2⟩ : St80)] : List St80)))))))) else none))))))) big (x1, ([] : List St80)))
theorem exergueref11_ranges_ok {x0 : List UInt8} {x1 : Int} {r : (List St80) × Int × Bool} (h : exergueref11_ranges x0 x1 = some r) : SC Tryz.prog 58 [.str x0, .int .i64 x1] [] (.tup [lsv encSt80 2 r.1, .int .i64 r.2.1, .bool r.2.2]) [] := by
 refine kFn (fn := Tryz.f58) (fun F hFn hFH hFD => ?_)
 unfold exergueref11_ranges at h
 refine kSR ?_
 refine kC 3 [0,1,4,5,6] ?_
 refine kEN ?_
 refine kSR ?_
 refine kC 1 [0,1,4,5,6,7] ?_
 refine kEN ?_
 refine K.block 0 (by kernel_rfl) ?_
 refine J.wk (Wk.viv 7 2 80 (by kernel_rfl)) ?_
 refine K.loop (by kernel_rfl) (fun (s1 : Int × (List St80)) => ([(0, .str x0), (1, .int .i64 s1.1), (4, .nl), (5, .int .i64 0), (6, .bool false), (7, .vc 0)], [vecL encSt80 2 80 s1.2])) h [0, 1, 4, 5, 6, 7] (by kernel_rfl) (by kernel_rfl) (fun s1 x119 hs118 => ?_)
 refine K.block 1 (by kernel_rfl) ?_
 refine kSR ?_
 refine kC 2 [0,1,4,5,6,7,16,17] ?_
 obtain ⟨y120, hy121, h122⟩ := bindS hs118
 refine kA 18 (exergueref11_number_ok hy121) ?_
 refine kC 5 [0,1,4,5,6,7,8,9] ?_
 refine kEN ?_
 refine kS ?_
 refine kSR ?_
 refine kC 2 [0,1,4,5,6,7,8,9,22] ?_
 refine kEN ?_
 refine kBJ 22 h122 (fun h124 => ?_) (fun h125 => ?_)
 ·refine kT ?_
  refine kSR ?_
  refine RJ.seg 4 [0, 1, 4, 5, 6, 7, 8, 9] (L2 := [(0, .str x0), (1, .int .i64 s1.1), (4, .nl), (5, .int .i64 y120.2), (6, .bool false), (7, .vc 0), (8, .int .i64 y120.1), (9, .int .i64 y120.2)]) (H2 := [vecL encSt80 2 80 s1.2]) (by kernel_rfl) ?_
  refine kEN ?_
  refine kX ?_
  refine PJ.passRet ?_
  refine PJ.blockRet ?_
  obtain rfl := oi h124
  refine PJ.loopOut (fun e => nomatch e) (fun he127 => ?_)
  have h126 := congrArg some he127
  refine PJ.blockRet ?_
  obtain rfl := oi h126
  refine PJ.res (v1 := .tup [.nl, .int .i64 y120.2, .bool false]) (Le.tup (.cons (Le.nl _) (.cons (Le.refl _) (.cons (Le.refl _) .nil)))) ?_
  exact kZ hFn hFH hFD
 ·refine kF ?_
  refine kK ?_
  refine PJ.next ?_
  refine kSR ?_
  refine RJ.seg 2 [0, 1, 4, 5, 6, 7, 8, 9, 10] (L2 := [(0, .str x0), (1, .int .i64 s1.1), (4, .nl), (5, .int .i64 0), (6, .bool false), (7, .vc 0), (8, .int .i64 y120.1), (9, .int .i64 y120.2), (10, .int .i64 y120.1)]) (H2 := [vecL encSt80 2 80 s1.2]) (by kernel_rfl) ?_
  refine kEN ?_
  refine kSR ?_
  refine kC 2 [0,1,4,5,6,7,8,9,10,25,26] ?_
  obtain ⟨y128, hy129, h130⟩ := bindS h125
  refine kA 27 (exergueref11_over_ok hy129) ?_
  refine kC 1 [0,1,4,5,6,7,8,9,10,11] ?_
  refine kEN ?_
  obtain ⟨y147, hy148, h149⟩ := bindS h130
  refine K.cutX (by kernel_rfl) (fun (s146 : Int × Int) => ([(0, .str x0), (1, .int .i64 s1.1), (4, .nl), (5, .int .i64 0), (6, .bool false), (7, .vc 0), (8, .int .i64 y120.1), (9, .int .i64 s146.1), (10, .int .i64 s146.2)], [vecL encSt80 2 80 s1.2])) y147 ?_ (fun s146 hs => ?_)
  ·refine kSR ?_
   refine kC 2 [0,1,4,5,6,7,8,9,10,11,28,29] ?_
   obtain ⟨y151, hy152, h153⟩ := bindS hy148
   refine kA 30 (exergueref11_sign_ok hy152) ?_
   refine kEN ?_
   refine kBJ 30 h153 (fun h155 => ?_) (fun h156 => ?_)
   ·refine kT ?_
    refine kSR ?_
    refine RJ.seg 5 [0, 1, 4, 5, 6, 7, 8, 9, 10, 32, 34, 36] (L2 := [(0, .str x0), (1, .int .i64 s1.1), (4, .nl), (5, .int .i64 0), (6, .bool false), (7, .vc 0), (8, .int .i64 y120.1), (9, .int .i64 y120.2), (10, .int .i64 y120.1), (32, .str x0), (34, .int .i64 (IntKind.wrap .i64 (y128 + 2))), (36, .int .i64 (IntKind.wrap .i64 (y120.1 + 1)))]) (H2 := [vecL encSt80 2 80 s1.2]) (by kernel_rfl) ?_
    obtain ⟨y157, hy158, h159⟩ := bindS h155
    refine kA 37 (exergueref11_number_ok hy158) ?_
    refine kC 5 [0,1,4,5,6,7,8,9,10,12,13] ?_
    refine kEN ?_
    refine kS ?_
    refine kSR ?_
    refine kC 2 [0,1,4,5,6,7,8,9,10,12,13,41] ?_
    refine kEN ?_
    refine kBJ 41 h159 (fun h161 => ?_) (fun h162 => ?_)
    ·refine kT ?_
     refine kSR ?_
     refine kC 4 [0,1,4,5,6,7,8,9,10,12,13] ?_
     refine kEN ?_
     refine kX ?_
     refine PJ.passRet ?_
     obtain rfl := oi h161
     have h163 := joinX_inr h149
     refine PJ.cutXr (fun e => nomatch e) ?_
     refine PJ.blockRet ?_
     obtain rfl := oi h163
     refine PJ.loopOut (fun e => nomatch e) (fun he165 => ?_)
     have h164 := congrArg some he165
     refine PJ.blockRet ?_
     obtain rfl := oi h164
     refine PJ.res (v1 := .tup [.nl, .int .i64 y157.2, .bool false]) (Le.tup (.cons (Le.nl _) (.cons (Le.refl _) (.cons (Le.refl _) .nil)))) ?_
     exact kZ hFn hFH hFD
    ·refine kF ?_
     refine kK ?_
     refine PJ.next ?_
     refine kSR ?_
     refine kC 2 [0,1,4,5,6,7,8,9,10,13] ?_
     refine kEN ?_
     refine kR ?_
     refine RJ.seg 2 [0, 1, 4, 5, 6, 7, 8, 9, 10] (L2 := [(0, .str x0), (1, .int .i64 s1.1), (4, .nl), (5, .int .i64 0), (6, .bool false), (7, .vc 0), (8, .int .i64 y120.1), (9, .int .i64 y157.2), (10, .int .i64 y157.1)]) (H2 := [vecL encSt80 2 80 s1.2]) (by kernel_rfl) ?_
     refine kE ?_
     obtain rfl := oi h162
     exact PJ.cutXl [0, 1, 4, 5, 6, 7, 8, 9, 10] (by kernel_rfl) (by kernel_rfl)
   ·refine kF ?_
    refine kK ?_
    obtain rfl := oi h156
    exact PJ.cutXl [0, 1, 4, 5, 6, 7, 8, 9, 10] (by kernel_rfl) (by kernel_rfl)
  ·subst hs
   have h150 := joinX_inl h149
   refine kSR ?_
   refine kC 5 [0,1,4,5,6,7,9,45,49] ?_
   obtain ⟨hm, h166⟩ := asrt h150
   refine RJ.rel (d := (some 50)) (ef := ⟨.vc 2, [0, 1], [(0, .gone), (2, .vec (s1.2.length + ([(⟨y120.1, s146.2⟩ : St80)] : List St80).length) 2 80 (s1.2.flatMap encSt80 ++ ([(⟨y120.1, s146.2⟩ : St80)] : List St80).flatMap encSt80))]⟩) (ef' := ⟨.vc 2, [0, 1], [(0, .gone), (2, vecL encSt80 2 80 (s1.2 ++ ([(⟨y120.1, s146.2⟩ : St80)] : List St80)))]⟩) (c := room (s1.2.length + ([(⟨y120.1, s146.2⟩ : St80)] : List St80).length)) (tr2 := []) (H2 := [.gone, vecL encSt80 2 80 ([(⟨y120.1, s146.2⟩ : St80)] : List St80), vecL encSt80 2 80 ((s1.2 ++ ([(⟨y120.1, s146.2⟩ : St80)] : List St80)))]) (by kernel_rfl) hm (fun hc => N.app) (by kernel_rfl) ?_
   refine kC 1 [0,1,4,5,6,7,9] ?_
   refine kEN ?_
   refine kSR ?_
   refine kC 2 [0,1,4,5,6,7,9,51,52] ?_
   obtain ⟨y167, hy168, h169⟩ := bindS h166
   refine kA 53 (exergueref11_over_ok hy168) ?_
   refine RJ.seg 1 [0, 1, 4, 5, 6, 7, 9, 14] (L2 := [(0, .str x0), (1, .int .i64 s1.1), (4, .nl), (5, .int .i64 0), (6, .bool false), (7, .vc 2), (9, .int .i64 s146.1), (14, .int .i64 y167)]) (H2 := [.gone, vecL encSt80 2 80 ([(⟨y120.1, s146.2⟩ : St80)] : List St80), vecL encSt80 2 80 ((s1.2 ++ ([(⟨y120.1, s146.2⟩ : St80)] : List St80)))]) (by kernel_rfl) ?_
   refine kEN ?_
   refine kS ?_
   refine kSR ?_
   refine kC 2 [0,1,4,5,6,7,9,14,54,55] ?_
   obtain ⟨y170, hy171, h172⟩ := bindS h169
   refine kA 56 (exergueref11_sign_ok hy171) ?_
   refine kC 1 [0,1,4,5,6,7,9,14,57] ?_
   refine kEN ?_
   refine kBJ 57 h172 (fun h174 => ?_) (fun h175 => ?_)
   ·refine kT ?_
    refine kSR ?_
    refine kC 5 [0,1,4,5,6,7,14] ?_
    refine kEN ?_
    refine kX ?_
    refine PJ.passRet ?_
    refine PJ.blockRet ?_
    obtain rfl := oi h174
    refine PJ.loopOut (fun e => nomatch e) (fun he177 => ?_)
    have h176 := congrArg some he177
    refine PJ.blockRet ?_
    obtain rfl := oi h176
    refine PJ.wk (Wk.freeze 2 (n := ((s1.2 ++ ([(⟨y120.1, s146.2⟩ : St80)] : List St80))).length) (k := 2) (e := 80) (cs := ((s1.2 ++ ([(⟨y120.1, s146.2⟩ : St80)] : List St80))).flatMap encSt80) (by kernel_rfl)) ?_
    exact kZ hFn hFH hFD
   ·refine kF ?_
    refine kK ?_
    refine PJ.next ?_
    refine kR ?_
    refine kC 3 [0,1,4,5,6,7] ?_
    refine kE ?_
    refine PJ.blockNormal ?_
    obtain rfl := oi h175
    refine PJ.wk (Wk.sel (L2 := [(0, .str x0), (1, .int .i64 (IntKind.wrap .i64 (y167 + 1))), (4, .nl), (5, .int .i64 0), (6, .bool false), (7, .vc 0)]) (H2 := [vecL encSt80 2 80 ((s1.2 ++ ([(⟨y120.1, s146.2⟩ : St80)] : List St80)))]) 0 (by rw [hFH]; rfl) hFD [2] (by kernel_rfl) (by kernel_rfl) (by decide) (by kernel_rfl) (by kernel_rfl) (by kernel_rfl) (by kernel_rfl)) ?_
    exact PJ.loopNext [0, 1, 4, 5, 6, 7] (by kernel_rfl) (by kernel_rfl)
def exergueref11_rel (x0 : List UInt8) (x1 : Int) : Option (St75 × Int × Bool) :=
 (Option.bind (exergueref11_over x0 x1) fun y1 => (Option.bind (Option.bind (Option.bind (exergueref11_word x0 y1) fun y53 => (bif (decide (¬ y53 = (IntKind.wrap .i64 (y1 + 1)))) then (some true) else (bif inR y1 x0.length then (Option.bind (exergueref11_op ((((x0.getD (y1 : Int).toNat 0).toNat : Nat) : Int))) fun y60 => (some (!y60))) else none))) fun (s48 : Bool) => (bif s48 then (some (.inr ((⟨0, 0, false, ([] : List St80)⟩ : St75), y1, false))) else (some (.inl ())))) (joinX fun (s33 : Unit) => (bif inR y1 x0.length then (Option.bind (exergueref11_over x0 (IntKind.wrap .i64 (y1 + 1))) fun y68 => (Option.bind (Option.bind (exergueref11_sign x0 y68 ([37] : List UInt8)) fun y92 => (bif y92 then (Option.bind (exergueref11_number x0 (IntKind.wrap .i64 (y68 + 1)) 1) fun y98 => (bif (decide (y98.1 < 0)) then (some (.inr ((⟨(((x0.getD (y1 : Int).toNat 0).toNat : Nat) : Int), 0, false, ([] : List St80)⟩ : St75), y98.2, false))) else (Option.bind (exergueref11_over x0 y98.2) fun y105 => (some (.inl (y105, y98.1)))))) else (some (.inl (y68, 0))))) (joinX fun (s87 : Int × Int) => (Option.bind (Option.bind (exergueref11_sign x0 s87.1 ([33, 61] : List UInt8)) fun y119 => (bif y119 then (some ((IntKind.wrap .i64 (s87.1 + 1)), true)) else (some (s87.1, false)))) fun (s114 : Int × Bool) => (Option.bind (exergueref11_sign x0 s114.1 ([61] : List UInt8)) fun y125 => (bif (!y125) then (some ((⟨(((x0.getD (y1 : Int).toNat 0).toNat : Nat) : Int), s87.2, s114.2, ([] : List St80)⟩ : St75), s114.1, false)) else (Option.bind (exergueref11_ranges x0 (IntKind.wrap .i64 (s114.1 + 1))) fun y131 => (some ((⟨(((x0.getD (y1 : Int).toNat 0).toNat : Nat) : Int), s87.2, s114.2, y131.1⟩ : St75), y131.2.1, y131.2.2))))))))) else none))))
theorem exergueref11_rel_ok {x0 : List UInt8} {x1 : Int} {r : St75 × Int × Bool} (h : exergueref11_rel x0 x1 = some r) : SC Tryz.prog 41 [.str x0, .int .i64 x1] [] (.tup [.agg (encSt75 r.1), .int .i64 r.2.1, .bool r.2.2]) [] := by
 refine kFn (fn := Tryz.f41) (fun F hFn hFH hFD => ?_)
 unfold exergueref11_rel at h
 refine kSR ?_
 refine kC 3 [0,1,4,5,6] ?_
 refine kEN ?_
 refine kSR ?_
 refine kC 3 [0,1,4,5,6,7] ?_
 refine kEN ?_
 refine kSR ?_
 refine kC 2 [0,1,4,5,6,7,14,15] ?_
 obtain ⟨y1, hy2, h3⟩ := bindS h
 refine kA 16 (exergueref11_over_ok hy2) ?_
 refine RJ.seg 1 [0, 1, 4, 5, 6, 7] (L2 := [(0, .str x0), (1, .int .i64 y1), (4, .ptr 0 0), (5, .int .i64 0), (6, .bool false), (7, .ptr 1 0)]) (H2 := [.box [.int .u8 0, .int .i64 0, .bool false, .nl], .box [.int .u8 0, .int .i64 0, .bool false, .nl]]) (by kernel_rfl) ?_
 refine kEN ?_
 obtain ⟨y34, hy35, h36⟩ := bindS h3
 refine K.cutX (by kernel_rfl) (fun (s33 : Unit) => ([(0, .str x0), (1, .int .i64 y1), (4, .ptr 0 0), (5, .int .i64 0), (6, .bool false), (7, .ptr 1 0)], [.box [.int .u8 0, .int .i64 0, .bool false, .nl], .box [.int .u8 0, .int .i64 0, .bool false, .nl]])) y34 ?_ (fun s33 hs => ?_)
 ·obtain ⟨s48, hy50, h52⟩ := bindS hy35
  refine K.cutN (by kernel_rfl) (fun (s48 : Bool) => ([(0, .str x0), (1, .int .i64 y1), (4, .ptr 0 0), (5, .int .i64 0), (6, .bool false), (7, .ptr 1 0), (29, .bool s48)], [.box [.int .u8 0, .int .i64 0, .bool false, .nl], .box [.int .u8 0, .int .i64 0, .bool false, .nl]])) s48 ?_ ?_
  ·refine kR ?_
   refine kC 2 [0,1,4,5,6,7,17,18] ?_
   obtain ⟨y53, hy54, h55⟩ := bindS hy50
   refine kA 19 (exergueref11_word_ok hy54) ?_
   refine kC 4 [0,1,4,5,6,7,23] ?_
   refine kB 23 h55 (fun h57 => ?_) (fun h58 => ?_)
   ·refine kC 6 [0,1,4,5,6,7,29] ?_
    refine kE ?_
    obtain rfl := oi h57
    exact kN [0, 1, 4, 5, 6, 7, 29]
   ·refine kC 2 [0,1,4,5,6,7,23,24,25] ?_
    obtain ⟨hm, h59⟩ := asrt h58
    refine kG 26 hm ?_
    obtain ⟨y60, hy61, h62⟩ := bindS h59
    refine kA 27 (exergueref11_op_ok hy61) ?_
    refine RJ.seg 2 [0, 1, 4, 5, 6, 7, 29] (L2 := [(0, .str x0), (1, .int .i64 y1), (4, .ptr 0 0), (5, .int .i64 0), (6, .bool false), (7, .ptr 1 0), (29, .bool (!y60))]) (H2 := [.box [.int .u8 0, .int .i64 0, .bool false, .nl], .box [.int .u8 0, .int .i64 0, .bool false, .nl]]) (by kernel_rfl) ?_
    refine kE ?_
    obtain rfl := oi h62
    exact kN [0, 1, 4, 5, 6, 7, 29]
  ·refine kBJ 29 h52 (fun h64 => ?_) (fun h65 => ?_)
   ·refine kT ?_
    refine kSR ?_
    refine kC 5 [0,1,4,5,6,7] ?_
    refine kEN ?_
    refine kX ?_
    obtain rfl := oi h64
    have h66 := joinX_inr h36
    refine PJ.cutXr (fun e => nomatch e) ?_
    obtain rfl := oi h66
    refine PJ.res (v1 := .tup [.agg [.int .u8 0, .int .i64 0, .bool false, .nl], .int .i64 y1, .bool false]) (Le.tup (.cons (Le.agg (.cons (Le.refl _) (.cons (Le.refl _) (.cons (Le.refl _) (.cons (Le.nl _) .nil))))) (.cons (Le.refl _) (.cons (Le.refl _) .nil)))) ?_
    exact kZ hFn hFH hFD
   ·refine kF ?_
    refine kK ?_
    obtain rfl := oi h65
    exact PJ.cutXl [0, 1, 4, 5, 6, 7] (by kernel_rfl) (by kernel_rfl)
 ·subst hs
  have h37 := joinX_inl h36
  refine kSR ?_
  refine kC 2 [0,1,4,5,6,7,32,33] ?_
  obtain ⟨hm, h67⟩ := asrt h37
  refine kG 34 hm ?_
  refine kC 2 [0,1,4,5,6,7] ?_
  refine kEN ?_
  refine kSR ?_
  refine kC 3 [0,1,4,5,6,7,36,38] ?_
  obtain ⟨y68, hy69, h70⟩ := bindS h67
  refine kA 39 (exergueref11_over_ok hy69) ?_
  refine RJ.seg 1 [0, 1, 4, 5, 6, 7] (L2 := [(0, .str x0), (1, .int .i64 y68), (4, .ptr 0 0), (5, .int .i64 0), (6, .bool false), (7, .ptr 1 0)]) (H2 := [.box [.int .u8 0, .int .i64 0, .bool false, .nl], .box [.int .u8 ((((x0.getD (y1 : Int).toNat 0).toNat : Nat) : Int)), .int .i64 0, .bool false, .nl]]) (by kernel_rfl) ?_
  refine kEN ?_
  obtain ⟨y88, hy89, h90⟩ := bindS h70
  refine K.cutX (by kernel_rfl) (fun (s87 : Int × Int) => ([(0, .str x0), (1, .int .i64 s87.1), (4, .ptr 0 0), (5, .int .i64 0), (6, .bool false), (7, .ptr 1 0)], [.box [.int .u8 0, .int .i64 0, .bool false, .nl], .box [.int .u8 ((((x0.getD (y1 : Int).toNat 0).toNat : Nat) : Int)), .int .i64 s87.2, .bool false, .nl]])) y88 ?_ (fun s87 hs => ?_)
  ·refine kSR ?_
   refine kC 2 [0,1,4,5,6,7,40,41] ?_
   obtain ⟨y92, hy93, h94⟩ := bindS hy89
   refine kA 42 (exergueref11_sign_ok hy93) ?_
   refine kEN ?_
   refine kBJ 42 h94 (fun h96 => ?_) (fun h97 => ?_)
   ·refine kT ?_
    refine kSR ?_
    refine kC 3 [0,1,4,5,6,7,44,46] ?_
    obtain ⟨y98, hy99, h100⟩ := bindS h96
    refine kA 47 (exergueref11_number_ok hy99) ?_
    refine kC 5 [0,1,4,5,6,7,8,9] ?_
    refine kEN ?_
    refine kS ?_
    refine kSR ?_
    refine RJ.seg 2 [0, 1, 4, 5, 6, 7, 8, 9, 51] (L2 := [(0, .str x0), (1, .int .i64 y68), (4, .ptr 0 0), (5, .int .i64 0), (6, .bool false), (7, .ptr 1 0), (8, .int .i64 y98.1), (9, .int .i64 y98.2), (51, .bool (decide (y98.1 < 0)))]) (H2 := [.box [.int .u8 0, .int .i64 0, .bool false, .nl], .box [.int .u8 ((((x0.getD (y1 : Int).toNat 0).toNat : Nat) : Int)), .int .i64 0, .bool false, .nl]]) (by kernel_rfl) ?_
    refine kEN ?_
    refine kBJ 51 h100 (fun h102 => ?_) (fun h103 => ?_)
    ·refine kT ?_
     refine kSR ?_
     refine kC 5 [0,1,4,5,6,7,8,9] ?_
     refine kEN ?_
     refine kX ?_
     refine PJ.passRet ?_
     obtain rfl := oi h102
     have h104 := joinX_inr h90
     refine PJ.cutXr (fun e => nomatch e) ?_
     obtain rfl := oi h104
     refine PJ.res (v1 := .tup [.agg [.int .u8 ((((x0.getD (y1 : Int).toNat 0).toNat : Nat) : Int)), .int .i64 0, .bool false, .nl], .int .i64 y98.2, .bool false]) (Le.tup (.cons (Le.agg (.cons (Le.refl _) (.cons (Le.refl _) (.cons (Le.refl _) (.cons (Le.nl _) .nil))))) (.cons (Le.refl _) (.cons (Le.refl _) .nil)))) ?_
     exact kZ hFn hFH hFD
    ·refine kF ?_
     refine kK ?_
     refine PJ.next ?_
     refine kSR ?_
     refine kC 3 [0,1,4,5,6,7,9] ?_
     refine kEN ?_
     refine kR ?_
     refine kC 2 [0,1,4,5,6,7,56,57] ?_
     obtain ⟨y105, hy106, h107⟩ := bindS h103
     refine kA 58 (exergueref11_over_ok hy106) ?_
     refine kC 1 [0,1,4,5,6,7] ?_
     refine kE ?_
     obtain rfl := oi h107
     exact PJ.cutXl [0, 1, 4, 5, 6, 7] (by kernel_rfl) (by kernel_rfl)
   ·refine kF ?_
    refine kK ?_
    obtain rfl := oi h97
    exact PJ.cutXl [0, 1, 4, 5, 6, 7] (by kernel_rfl) (by kernel_rfl)
  ·subst hs
   have h91 := joinX_inl h90
   obtain ⟨s114, hy116, h118⟩ := bindS h91
   refine K.cutN (by kernel_rfl) (fun (s114 : Int × Bool) => ([(0, .str x0), (1, .int .i64 s114.1), (4, .ptr 0 0), (5, .int .i64 0), (6, .bool false), (7, .ptr 1 0)], [.box [.int .u8 0, .int .i64 0, .bool false, .nl], .box [.int .u8 ((((x0.getD (y1 : Int).toNat 0).toNat : Nat) : Int)), .int .i64 s87.2, .bool s114.2, .nl]])) s114 ?_ ?_
   ·refine kSR ?_
    refine kC 2 [0,1,4,5,6,7,59,60] ?_
    obtain ⟨y119, hy120, h121⟩ := bindS hy116
    refine kA 61 (exergueref11_sign_ok hy120) ?_
    refine kEN ?_
    refine kBJ 61 h121 (fun h123 => ?_) (fun h124 => ?_)
    ·refine kT ?_
     refine kSR ?_
     refine kC 2 [0,1,4,5,6,7] ?_
     refine kEN ?_
     refine kR ?_
     refine kC 3 [0,1,4,5,6,7] ?_
     refine kE ?_
     obtain rfl := oi h123
     exact kN [0, 1, 4, 5, 6, 7]
    ·refine kF ?_
     refine kK ?_
     obtain rfl := oi h124
     exact kN [0, 1, 4, 5, 6, 7]
   ·refine kS ?_
    refine kSR ?_
    refine kC 2 [0,1,4,5,6,7,65,66] ?_
    obtain ⟨y125, hy126, h127⟩ := bindS h118
    refine kA 67 (exergueref11_sign_ok hy126) ?_
    refine kC 1 [0,1,4,5,6,7,68] ?_
    refine kEN ?_
    refine kBJ 68 h127 (fun h129 => ?_) (fun h130 => ?_)
    ·refine kT ?_
     refine kSR ?_
     refine kC 5 [0,1,4,5,6,7] ?_
     refine kEN ?_
     refine kX ?_
     refine PJ.passRet ?_
     obtain rfl := oi h129
     refine PJ.res (v1 := .tup [.agg [.int .u8 ((((x0.getD (y1 : Int).toNat 0).toNat : Nat) : Int)), .int .i64 s87.2, .bool s114.2, .nl], .int .i64 s114.1, .bool false]) (Le.tup (.cons (Le.agg (.cons (Le.refl _) (.cons (Le.refl _) (.cons (Le.refl _) (.cons (Le.nl _) .nil))))) (.cons (Le.refl _) (.cons (Le.refl _) .nil)))) ?_
     exact kZ hFn hFH hFD
    ·refine kF ?_
     refine kK ?_
     refine PJ.next ?_
     refine kSR ?_
     refine kC 3 [4,5,6,7,72,74] ?_
     obtain ⟨y131, hy132, h133⟩ := bindS h130
     refine kA 75 (exergueref11_ranges_ok hy132) ?_
     refine RJ.seg 7 [4, 5, 6, 7, 10, 11, 12] (L2 := [(4, .ptr 0 0), (5, .int .i64 0), (6, .bool false), (7, .ptr 1 0), (10, lsv encSt80 2 y131.1), (11, .int .i64 y131.2.1), (12, .bool y131.2.2)]) (H2 := [.box [.int .u8 0, .int .i64 0, .bool false, .nl], .box [.int .u8 ((((x0.getD (y1 : Int).toNat 0).toNat : Nat) : Int)), .int .i64 s87.2, .bool s114.2, .nl]]) (by kernel_rfl) ?_
     refine kEN ?_
     refine kSR ?_
     refine kC 3 [4,5,6,7,11,12] ?_
     refine kEN ?_
     refine kSR ?_
     refine kC 6 [4,5,6] ?_
     refine kEN ?_
     refine kX ?_
     obtain rfl := oi h133
     exact kZ hFn hFH hFD
def exergueref11_Parse (x0 : List UInt8) : Option ((List (List St75)) × Int × Int) :=
 (bif (decide ((x0.length : Int) > 400)) then (some (([] : List (List St75)), 0, 11)) else (Option.bind (loopN (fun (s312 : Int × Bool × Int × (List (List St75)) × (List St75)) => (Option.bind (exergueref11_rel x0 s312.2.2.1) fun y513 => (bif (!y513.2.2) then (some (.inr (.inr (([] : List (List St75)), y513.2.1, 2)))) else (Option.bind (bif s312.2.1 then (some true) else (bif (decide ((y513.1.R_.length : Int) > 20)) then (some true) else (some ((decide ((IntKind.wrap .i64 (s312.1 + 1)) > 20)))))) fun (s528 : Bool) => (bif room (s312.2.2.2.2.length + ([y513.1] : List St75).length) then (Option.bind (exergueref11_over x0 y513.2.1) fun y540 => (bif (decide (y540 = (x0.length : Int))) then (some (.inr (.inl (s528, s312.2.2.2.1, (s312.2.2.2.2 ++ ([y513.1] : List St75)))))) else (Option.bind (exergueref11_word x0 y540) fun y548 => (Option.bind (Option.bind (bif inS y540 y548 x0.length then (bif ((cut x0 y540 y548) != ([97, 110, 100] : List UInt8)) then (bif inS y540 y548 x0.length then (some ((cut x0 y540 y548) != ([111, 114] : List UInt8))) else none) else (some false)) else none) fun (s583 : Bool) => (bif s583 then (some (.inr (.inr (.inr (([] : List (List St75)), y540, 2))))) else (some (.inl ())))) (joinX fun (s573 : Unit) => (Option.bind (bif inS y540 y548 x0.length then (bif ((cut x0 y540 y548) == ([111, 114] : List UInt8)) then (bif room (s312.2.2.2.1.length + (([(s312.2.2.2.2 ++ ([y513.1] : List St75))] : List (List St75))).length) then (some ((s312.2.2.2.1 ++ (([(s312.2.2.2.2 ++ ([y513.1] : List St75))] : List (List St75)))), ([] : List St75))) else none) else (some (s312.2.2.2.1, (s312.2.2.2.2 ++ ([y513.1] : List St75))))) else none) fun (s605 : (List (List St75)) × (List St75)) => (some (.inl ((IntKind.wrap .i64 (s312.1 + 1)), s528, y548, s605.1, s605.2))))))))) else none))))) big (0, false, 0, ([] : List (List St75)), ([] : List St75))) (joinX fun (s307 : Bool × (List (List St75)) × (List St75)) => (bif s307.1 then (some (([] : List (List St75)), 0, 11)) else (bif room (s307.2.1.length + ([s307.2.2] : List (List St75)).length) then (some ((s307.2.1 ++ ([s307.2.2] : List (List St75))), 0, 0)) else none)))))
theorem exergueref11_Parse_ok {x0 : List UInt8} {r : (List (List St75)) × Int × Int} (h : exergueref11_Parse x0 = some r) : SC Tryz.prog 26 [.str x0] [] (.tup [lsv (encL encSt75 4) 1 r.1, .int .i64 r.2.1, .int .i64 r.2.2]) [] := by
 refine kFn (fn := Tryz.f26) (fun F hFn hFH hFD => ?_)
 unfold exergueref11_Parse at h
 refine kSR ?_
 refine kC 3 [0,2,3,4] ?_
 refine kEN ?_
 refine kS ?_
 refine kSR ?_
 refine kC 3 [0,2,3,4,16] ?_
 refine kEN ?_
 refine kBJ 16 h (fun h2 => ?_) (fun h3 => ?_)
 ·refine kT ?_
  refine kSR ?_
  refine kC 3 [0,2,3,4] ?_
  refine kEN ?_
  refine kX ?_
  refine PJ.passRet ?_
  obtain rfl := oi h2
  refine PJ.res (v1 := .tup [.nl, .int .i64 0, .int .i64 11]) (Le.tup (.cons (Le.nl _) (.cons (Le.refl _) (.cons (Le.refl _) .nil)))) ?_
  exact kZ hFn hFH hFD
 ·refine kF ?_
  refine kK ?_
  refine PJ.next ?_
  refine kSR ?_
  refine kC 1 [0,2,3,4,5] ?_
  refine kEN ?_
  refine kSR ?_
  refine RJ.seg 1 [0, 2, 3, 4, 5, 6] (L2 := [(0, .str x0), (2, .nl), (3, .int .i64 0), (4, .int .i64 0), (5, .nl), (6, .nl)]) (H2 := []) (by kernel_rfl) ?_
  refine kEN ?_
  refine kSR ?_
  refine kC 1 [0,2,3,4,5,6,7] ?_
  refine kEN ?_
  refine kSR ?_
  refine kC 1 [0,2,3,4,5,6,7,8] ?_
  refine kEN ?_
  refine kSR ?_
  refine kC 1 [0,2,3,4,5,6,7,8,9] ?_
  refine kEN ?_
  obtain ⟨y308, hy309, h310⟩ := bindS h3
  refine K.cutX (by kernel_rfl) (fun (s307 : Bool × (List (List St75)) × (List St75)) => ([(2, .nl), (3, .int .i64 0), (4, .int .i64 0), (5, .vc 0), (6, .vc 1), (8, .bool s307.1)], [vecL (encL encSt75 4) 1 73 s307.2.1, vecL encSt75 4 76 s307.2.2])) y308 ?_ (fun s307 hs => ?_)
  ·refine K.block 0 (by kernel_rfl) ?_
   refine J.wk (Wk.viv 5 1 73 (by kernel_rfl)) ?_
   refine J.wk (Wk.viv 6 4 76 (by kernel_rfl)) ?_
   refine K.loop (by kernel_rfl) (fun (s312 : Int × Bool × Int × (List (List St75)) × (List St75)) => ([(0, .str x0), (2, .nl), (3, .int .i64 0), (4, .int .i64 0), (5, .vc 0), (6, .vc 1), (7, .int .i64 s312.1), (8, .bool s312.2.1), (9, .int .i64 s312.2.2.1)], [vecL (encL encSt75 4) 1 73 s312.2.2.2.1, vecL encSt75 4 76 s312.2.2.2.2])) hy309 [0, 2, 3, 4, 5, 6, 7, 8, 9] (by kernel_rfl) (by kernel_rfl) (fun s312 x512 hs511 => ?_)
   refine K.block 1 (by kernel_rfl) ?_
   refine kSR ?_
   refine kC 2 [0,2,3,4,5,6,7,8,9,18,19] ?_
   obtain ⟨y513, hy514, h515⟩ := bindS hs511
   refine kA 20 (exergueref11_rel_ok hy514) ?_
   refine kC 8 [0,2,3,4,5,6,7,8,9,10,11,12] ?_
   refine kEN ?_
   refine kS ?_
   refine kSR ?_
   refine kC 2 [0,2,3,4,5,6,7,8,9,10,11,25] ?_
   refine kEN ?_
   refine kBJ 25 h515 (fun h517 => ?_) (fun h518 => ?_)
   ·refine kT ?_
    refine kSR ?_
    refine RJ.seg 4 [0, 2, 3, 4, 5, 6, 7, 8, 9, 10, 11] (L2 := [(0, .str x0), (2, .nl), (3, .int .i64 y513.2.1), (4, .int .i64 2), (5, .vc 0), (6, .vc 1), (7, .int .i64 s312.1), (8, .bool s312.2.1), (9, .int .i64 s312.2.2.1), (10, .ptr 2 0), (11, .int .i64 y513.2.1)]) (H2 := [vecL (encL encSt75 4) 1 73 s312.2.2.2.1, vecL encSt75 4 76 s312.2.2.2.2, .box (encSt75 y513.1)]) (by kernel_rfl) ?_
    refine kEN ?_
    refine kX ?_
    refine PJ.passRet ?_
    refine PJ.blockRet ?_
    obtain rfl := oi h517
    refine PJ.loopOut (fun e => nomatch e) (fun he521 => ?_)
    have h519 := congrArg some he521
    refine PJ.blockRet ?_
    obtain rfl := oi h519
    have h520 := joinX_inr h310
    refine PJ.cutXr (fun e => nomatch e) ?_
    obtain rfl := oi h520
    refine PJ.res (v1 := .tup [.nl, .int .i64 y513.2.1, .int .i64 2]) (Le.tup (.cons (Le.nl _) (.cons (Le.refl _) (.cons (Le.refl _) .nil)))) ?_
    exact kZ hFn hFH hFD
   ·refine kF ?_
    refine kK ?_
    refine PJ.next ?_
    refine kSR ?_
    refine RJ.seg 3 [0, 2, 3, 4, 5, 6, 7, 8, 9, 10, 11] (L2 := [(0, .str x0), (2, .nl), (3, .int .i64 0), (4, .int .i64 0), (5, .vc 0), (6, .vc 1), (7, .int .i64 (IntKind.wrap .i64 (s312.1 + 1))), (8, .bool s312.2.1), (9, .int .i64 s312.2.2.1), (10, .ptr 2 0), (11, .int .i64 y513.2.1)]) (H2 := [vecL (encL encSt75 4) 1 73 s312.2.2.2.1, vecL encSt75 4 76 s312.2.2.2.2, .box (encSt75 y513.1)]) (by kernel_rfl) ?_
    refine kEN ?_
    obtain ⟨s528, hy530, h532⟩ := bindS h518
    refine K.cutN (by kernel_rfl) (fun (s528 : Bool) => ([(0, .str x0), (2, .nl), (3, .int .i64 0), (4, .int .i64 0), (5, .vc 0), (6, .vc 1), (7, .int .i64 (IntKind.wrap .i64 (s312.1 + 1))), (8, .bool s528), (9, .int .i64 s312.2.2.1), (10, .ptr 2 0), (11, .int .i64 y513.2.1)], [vecL (encL encSt75 4) 1 73 s312.2.2.2.1, vecL encSt75 4 76 s312.2.2.2.2, .box (encSt75 y513.1)])) s528 ?_ ?_
    ·refine kR ?_
     refine kC 2 [0,2,3,4,5,6,7,8,9,10,11,30] ?_
     refine kB 30 hy530 (fun h534 => ?_) (fun h535 => ?_)
     ·refine kC 10 [0,2,3,4,5,6,7,8,9,10,11] ?_
      refine kE ?_
      obtain rfl := oi h534
      exact kN [0, 2, 3, 4, 5, 6, 7, 8, 9, 10, 11]
     ·refine kC 6 [0,2,3,4,5,6,7,8,9,10,11,36] ?_
      refine kB 36 h535 (fun h537 => ?_) (fun h538 => ?_)
      ·refine kC 4 [0,2,3,4,5,6,7,8,9,10,11] ?_
       refine kE ?_
       obtain rfl := oi h537
       exact kN [0, 2, 3, 4, 5, 6, 7, 8, 9, 10, 11]
      ·refine kC 4 [0,2,3,4,5,6,7,8,9,10,11] ?_
       refine kE ?_
       obtain rfl := oi h538
       exact kN [0, 2, 3, 4, 5, 6, 7, 8, 9, 10, 11]
    ·refine kSR ?_
     refine kC 3 [0,2,3,4,5,6,7,8,9,11,40,42] ?_
     obtain ⟨hm, h539⟩ := asrt h532
     refine RJ.rel (d := (some 43)) (ef := ⟨.vc 4, [1, 3], [(1, .gone), (4, .vec (s312.2.2.2.2.length + ([y513.1] : List St75).length) 4 76 (s312.2.2.2.2.flatMap encSt75 ++ ([y513.1] : List St75).flatMap encSt75))]⟩) (ef' := ⟨.vc 4, [1, 3], [(1, .gone), (4, vecL encSt75 4 76 (s312.2.2.2.2 ++ ([y513.1] : List St75)))]⟩) (c := room (s312.2.2.2.2.length + ([y513.1] : List St75).length)) (tr2 := []) (H2 := [vecL (encL encSt75 4) 1 73 s312.2.2.2.1, .gone, .box (encSt75 y513.1), vecL encSt75 4 76 ([y513.1] : List St75), vecL encSt75 4 76 (s312.2.2.2.2 ++ ([y513.1] : List St75))]) (by kernel_rfl) hm (fun hc => N.app) (by kernel_rfl) ?_
     refine kC 1 [0,2,3,4,5,6,7,8,9,11] ?_
     refine kEN ?_
     refine kSR ?_
     refine kC 2 [0,2,3,4,5,6,7,8,9,44,45] ?_
     obtain ⟨y540, hy541, h542⟩ := bindS h539
     refine kA 46 (exergueref11_over_ok hy541) ?_
     refine RJ.seg 1 [0, 2, 3, 4, 5, 6, 7, 8, 9] (L2 := [(0, .str x0), (2, .nl), (3, .int .i64 0), (4, .int .i64 0), (5, .vc 0), (6, .vc 4), (7, .int .i64 (IntKind.wrap .i64 (s312.1 + 1))), (8, .bool s528), (9, .int .i64 y540)]) (H2 := [vecL (encL encSt75 4) 1 73 s312.2.2.2.1, .gone, .box (encSt75 y513.1), vecL encSt75 4 76 ([y513.1] : List St75), vecL encSt75 4 76 (s312.2.2.2.2 ++ ([y513.1] : List St75))]) (by kernel_rfl) ?_
     refine kEN ?_
     refine kS ?_
     refine kSR ?_
     refine kC 4 [0,2,3,4,5,6,7,8,9,50] ?_
     refine kEN ?_
     refine kBJ 50 h542 (fun h544 => ?_) (fun h545 => ?_)
     ·refine kT ?_
      refine K.exit 0 (by kernel_rfl) ?_
      refine PJ.passExit ?_
      refine PJ.blockPass (by kernel_rfl) ?_
      obtain rfl := oi h544
      refine PJ.loopOut (fun e => nomatch e) (fun he547 => ?_)
      have h546 := congrArg some he547
      refine PJ.blockOut ?_
      obtain rfl := oi h546
      refine PJ.wk (Wk.sel (L2 := [(2, .nl), (3, .int .i64 0), (4, .int .i64 0), (5, .vc 0), (6, .vc 1), (8, .bool s528)]) (H2 := [vecL (encL encSt75 4) 1 73 s312.2.2.2.1, vecL encSt75 4 76 (s312.2.2.2.2 ++ ([y513.1] : List St75))]) 0 (by rw [hFH]; rfl) hFD [0, 4] (by kernel_rfl) (by kernel_rfl) (by decide) (by kernel_rfl) (by kernel_rfl) (by kernel_rfl) (by kernel_rfl)) ?_
      exact PJ.cutXl [2, 3, 4, 5, 6, 8] (by kernel_rfl) (by kernel_rfl)
     ·refine kF ?_
      refine kK ?_
      refine PJ.next ?_
      refine kSR ?_
      refine kC 2 [0,2,3,4,5,6,7,8,9,51,52] ?_
      obtain ⟨y548, hy549, h550⟩ := bindS h545
      refine kA 53 (exergueref11_word_ok hy549) ?_
      refine kC 1 [0,2,3,4,5,6,7,8,9,13] ?_
      refine kEN ?_
      obtain ⟨y574, hy575, h576⟩ := bindS h550
      refine K.cutX (by kernel_rfl) (fun (s573 : Unit) => ([(0, .str x0), (2, .nl), (3, .int .i64 0), (4, .int .i64 0), (5, .vc 0), (6, .vc 1), (7, .int .i64 (IntKind.wrap .i64 (s312.1 + 1))), (8, .bool s528), (9, .int .i64 y540), (13, .int .i64 y548)], [vecL (encL encSt75 4) 1 73 s312.2.2.2.1, vecL encSt75 4 76 (s312.2.2.2.2 ++ ([y513.1] : List St75))])) y574 ?_ (fun s573 hs => ?_)
      ·obtain ⟨s583, hy585, h587⟩ := bindS hy575
       refine K.cutN (by kernel_rfl) (fun (s583 : Bool) => ([(0, .str x0), (2, .nl), (3, .int .i64 0), (4, .int .i64 0), (5, .vc 0), (6, .vc 1), (7, .int .i64 (IntKind.wrap .i64 (s312.1 + 1))), (8, .bool s528), (9, .int .i64 y540), (13, .int .i64 y548), (65, .bool s583)], [vecL (encL encSt75 4) 1 73 s312.2.2.2.1, vecL encSt75 4 76 (s312.2.2.2.2 ++ ([y513.1] : List St75))])) s583 ?_ ?_
       ·refine kR ?_
        refine RJ.seg 3 [0, 2, 3, 4, 5, 6, 7, 8, 9, 13, 54, 55, 56] (L2 := [(0, .str x0), (2, .nl), (3, .int .i64 0), (4, .int .i64 0), (5, .vc 0), (6, .vc 4), (7, .int .i64 (IntKind.wrap .i64 (s312.1 + 1))), (8, .bool s528), (9, .int .i64 y540), (13, .int .i64 y548), (54, .str x0), (55, .int .i64 y540), (56, .int .i64 y548)]) (H2 := [vecL (encL encSt75 4) 1 73 s312.2.2.2.1, .gone, .box (encSt75 y513.1), vecL encSt75 4 76 ([y513.1] : List St75), vecL encSt75 4 76 (s312.2.2.2.2 ++ ([y513.1] : List St75))]) (by kernel_rfl) ?_
        obtain ⟨hm, h588⟩ := asrt hy585
        refine RJ.rel (d := (some 57)) (ef := ⟨.str (cut x0 y540 y548), [], []⟩) (ef' := ⟨.str (cut x0 y540 y548), [], []⟩) (c := inS y540 y548 x0.length) (tr2 := []) (H2 := [vecL (encL encSt75 4) 1 73 s312.2.2.2.1, .gone, .box (encSt75 y513.1), vecL encSt75 4 76 ([y513.1] : List St75), vecL encSt75 4 76 (s312.2.2.2.2 ++ ([y513.1] : List St75))]) (by kernel_rfl) hm (fun hc => rfl) (by kernel_rfl) ?_
        refine kC 2 [0,2,3,4,5,6,7,8,9,13,59] ?_
        refine kB 59 h588 (fun h590 => ?_) (fun h591 => ?_)
        ·refine kC 3 [0,2,3,4,5,6,7,8,9,13,59,60,61,62] ?_
         obtain ⟨hm, h592⟩ := asrt h590
         refine RJ.rel (d := (some 63)) (ef := ⟨.str (cut x0 y540 y548), [], []⟩) (ef' := ⟨.str (cut x0 y540 y548), [], []⟩) (c := inS y540 y548 x0.length) (tr2 := []) (H2 := [vecL (encL encSt75 4) 1 73 s312.2.2.2.1, .gone, .box (encSt75 y513.1), vecL encSt75 4 76 ([y513.1] : List St75), vecL encSt75 4 76 (s312.2.2.2.2 ++ ([y513.1] : List St75))]) (by kernel_rfl) hm (fun hc => rfl) (by kernel_rfl) ?_
         refine kC 2 [0,2,3,4,5,6,7,8,9,13,65] ?_
         refine kE ?_
         obtain rfl := oi h592
         refine PJ.wk (Wk.sel (L2 := [(0, .str x0), (2, .nl), (3, .int .i64 0), (4, .int .i64 0), (5, .vc 0), (6, .vc 1), (7, .int .i64 (IntKind.wrap .i64 (s312.1 + 1))), (8, .bool s528), (9, .int .i64 y540), (13, .int .i64 y548), (65, .bool ((cut x0 y540 y548) != ([111, 114] : List UInt8)))]) (H2 := [vecL (encL encSt75 4) 1 73 s312.2.2.2.1, vecL encSt75 4 76 (s312.2.2.2.2 ++ ([y513.1] : List St75))]) 0 (by rw [hFH]; rfl) hFD [0, 4] (by kernel_rfl) (by kernel_rfl) (by decide) (by kernel_rfl) (by kernel_rfl) (by kernel_rfl) (by kernel_rfl)) ?_
         exact kN [0, 2, 3, 4, 5, 6, 7, 8, 9, 13, 65]
        ·refine kC 6 [0,2,3,4,5,6,7,8,9,13,65] ?_
         refine kE ?_
         obtain rfl := oi h591
         refine PJ.wk (Wk.sel (L2 := [(0, .str x0), (2, .nl), (3, .int .i64 0), (4, .int .i64 0), (5, .vc 0), (6, .vc 1), (7, .int .i64 (IntKind.wrap .i64 (s312.1 + 1))), (8, .bool s528), (9, .int .i64 y540), (13, .int .i64 y548), (65, .bool false)]) (H2 := [vecL (encL encSt75 4) 1 73 s312.2.2.2.1, vecL encSt75 4 76 (s312.2.2.2.2 ++ ([y513.1] : List St75))]) 0 (by rw [hFH]; rfl) hFD [0, 4] (by kernel_rfl) (by kernel_rfl) (by decide) (by kernel_rfl) (by kernel_rfl) (by kernel_rfl) (by kernel_rfl)) ?_
         exact kN [0, 2, 3, 4, 5, 6, 7, 8, 9, 13, 65]
       ·refine kBJ 65 h587 (fun h594 => ?_) (fun h595 => ?_)
        ·refine kT ?_
         refine kSR ?_
         refine kC 4 [0,2,3,4,5,6,7,8,9,13] ?_
         refine kEN ?_
         refine kX ?_
         obtain rfl := oi h594
         have h596 := joinX_inr h576
         refine PJ.cutXr (fun e => nomatch e) ?_
         refine PJ.blockRet ?_
         obtain rfl := oi h596
         refine PJ.loopOut (fun e => nomatch e) (fun he599 => ?_)
         have h597 := congrArg some he599
         refine PJ.blockRet ?_
         obtain rfl := oi h597
         have h598 := joinX_inr h310
         refine PJ.cutXr (fun e => nomatch e) ?_
         obtain rfl := oi h598
         refine PJ.res (v1 := .tup [.nl, .int .i64 y540, .int .i64 2]) (Le.tup (.cons (Le.nl _) (.cons (Le.refl _) (.cons (Le.refl _) .nil)))) ?_
         exact kZ hFn hFH hFD
        ·refine kF ?_
         refine kK ?_
         obtain rfl := oi h595
         exact PJ.cutXl [0, 2, 3, 4, 5, 6, 7, 8, 9, 13] (by kernel_rfl) (by kernel_rfl)
      ·subst hs
       have h577 := joinX_inl h576
       obtain ⟨s605, hy607, h609⟩ := bindS h577
       refine K.cutN (by kernel_rfl) (fun (s605 : (List (List St75)) × (List St75)) => ([(0, .str x0), (2, .nl), (3, .int .i64 0), (4, .int .i64 0), (5, .vc 0), (6, .vc 1), (7, .int .i64 (IntKind.wrap .i64 (s312.1 + 1))), (8, .bool s528), (9, .int .i64 y540), (13, .int .i64 y548)], [vecL (encL encSt75 4) 1 73 s605.1, vecL encSt75 4 76 s605.2])) s605 ?_ ?_
       ·refine kSR ?_
        refine kC 3 [0,2,3,4,5,6,7,8,9,13,67,68,69] ?_
        obtain ⟨hm, h610⟩ := asrt hy607
        refine RJ.rel (d := (some 70)) (ef := ⟨.str (cut x0 y540 y548), [], []⟩) (ef' := ⟨.str (cut x0 y540 y548), [], []⟩) (c := inS y540 y548 x0.length) (tr2 := []) (H2 := [vecL (encL encSt75 4) 1 73 s312.2.2.2.1, vecL encSt75 4 76 (s312.2.2.2.2 ++ ([y513.1] : List St75))]) (by kernel_rfl) hm (fun hc => rfl) (by kernel_rfl) ?_
        refine kC 1 [0,2,3,4,5,6,7,8,9,13,71] ?_
        refine kEN ?_
        refine kBJ 71 h610 (fun h612 => ?_) (fun h613 => ?_)
        ·refine kT ?_
         refine kSR ?_
         refine kC 2 [0,2,3,4,5,6,7,8,9,13,72,73] ?_
         refine RJ.wk (Wk.freeze 1 (n := (s312.2.2.2.2 ++ ([y513.1] : List St75)).length) (k := 4) (e := 76) (cs := (s312.2.2.2.2 ++ ([y513.1] : List St75)).flatMap encSt75) (by kernel_rfl)) ?_
         refine RJ.seg 1 [0, 2, 3, 4, 5, 6, 7, 8, 9, 13, 72, 74] (L2 := [(0, .str x0), (2, .nl), (3, .int .i64 0), (4, .int .i64 0), (5, .vc 0), (6, lsv encSt75 4 (s312.2.2.2.2 ++ ([y513.1] : List St75))), (7, .int .i64 (IntKind.wrap .i64 (s312.1 + 1))), (8, .bool s528), (9, .int .i64 y540), (13, .int .i64 y548), (72, .vc 0), (74, .vc 2)]) (H2 := [vecL (encL encSt75 4) 1 73 s312.2.2.2.1, .gone, vecL (encL encSt75 4) 1 73 (([(s312.2.2.2.2 ++ ([y513.1] : List St75))] : List (List St75)))]) (by kernel_rfl) ?_
         obtain ⟨hm, h614⟩ := asrt h612
         refine RJ.rel (d := (some 75)) (ef := ⟨.vc 3, [0, 2], [(0, .gone), (3, .vec (s312.2.2.2.1.length + (([(s312.2.2.2.2 ++ ([y513.1] : List St75))] : List (List St75))).length) 1 73 (s312.2.2.2.1.flatMap (encL encSt75 4) ++ (([(s312.2.2.2.2 ++ ([y513.1] : List St75))] : List (List St75))).flatMap (encL encSt75 4)))]⟩) (ef' := ⟨.vc 3, [0, 2], [(0, .gone), (3, vecL (encL encSt75 4) 1 73 (s312.2.2.2.1 ++ (([(s312.2.2.2.2 ++ ([y513.1] : List St75))] : List (List St75)))))]⟩) (c := room (s312.2.2.2.1.length + (([(s312.2.2.2.2 ++ ([y513.1] : List St75))] : List (List St75))).length)) (tr2 := []) (H2 := [.gone, .gone, vecL (encL encSt75 4) 1 73 (([(s312.2.2.2.2 ++ ([y513.1] : List St75))] : List (List St75))), vecL (encL encSt75 4) 1 73 ((s312.2.2.2.1 ++ (([(s312.2.2.2.2 ++ ([y513.1] : List St75))] : List (List St75)))))]) (by kernel_rfl) hm (fun hc => N.app) (by kernel_rfl) ?_
         refine kC 1 [0,2,3,4,5,6,7,8,9,13] ?_
         refine kEN ?_
         refine kR ?_
         refine kC 1 [0,2,3,4,5,6,7,8,9,13] ?_
         refine kE ?_
         obtain rfl := oi h614
         refine PJ.wk (Wk.viv 6 4 76 (by kernel_rfl)) ?_
         refine PJ.wk (Wk.sel (L2 := [(0, .str x0), (2, .nl), (3, .int .i64 0), (4, .int .i64 0), (5, .vc 0), (6, .vc 1), (7, .int .i64 (IntKind.wrap .i64 (s312.1 + 1))), (8, .bool s528), (9, .int .i64 y540), (13, .int .i64 y548)]) (H2 := [vecL (encL encSt75 4) 1 73 ((s312.2.2.2.1 ++ (([(s312.2.2.2.2 ++ ([y513.1] : List St75))] : List (List St75))))), vecL encSt75 4 76 ([] : List St75)]) 0 (by rw [hFH]; rfl) hFD [3, 4] (by kernel_rfl) (by kernel_rfl) (by decide) (by kernel_rfl) (by kernel_rfl) (by kernel_rfl) (by kernel_rfl)) ?_
         exact kN [0, 2, 3, 4, 5, 6, 7, 8, 9, 13]
        ·refine kF ?_
         refine kK ?_
         obtain rfl := oi h613
         exact kN [0, 2, 3, 4, 5, 6, 7, 8, 9, 13]
       ·refine kR ?_
        refine kC 2 [0,2,3,4,5,6,7,8,9] ?_
        refine kE ?_
        refine PJ.blockNormal ?_
        obtain rfl := oi h609
        exact PJ.loopNext [0, 2, 3, 4, 5, 6, 7, 8, 9] (by kernel_rfl) (by kernel_rfl)
  ·subst hs
   have h311 := joinX_inl h310
   refine kS ?_
   refine kSR ?_
   refine kC 1 [2,3,4,5,6,77] ?_
   refine kEN ?_
   refine kBJ 77 h311 (fun h616 => ?_) (fun h617 => ?_)
   ·refine kT ?_
    refine kSR ?_
    refine kC 3 [2,3,4,5,6] ?_
    refine kEN ?_
    refine kX ?_
    refine PJ.passRet ?_
    obtain rfl := oi h616
    refine PJ.res (v1 := .tup [.nl, .int .i64 0, .int .i64 11]) (Le.tup (.cons (Le.nl _) (.cons (Le.refl _) (.cons (Le.refl _) .nil)))) ?_
    exact kZ hFn hFH hFD
   ·refine kF ?_
    refine kK ?_
    refine PJ.next ?_
    refine kSR ?_
    refine kC 2 [2,3,4,78,79] ?_
    refine RJ.wk (Wk.freeze 1 (n := s307.2.2.length) (k := 4) (e := 76) (cs := s307.2.2.flatMap encSt75) (by kernel_rfl)) ?_
    refine kC 1 [2,3,4,78,80] ?_
    obtain ⟨hm, h618⟩ := asrt h617
    refine RJ.rel (d := (some 81)) (ef := ⟨.vc 3, [0, 2], [(0, .gone), (3, .vec (s307.2.1.length + ([s307.2.2] : List (List St75)).length) 1 73 (s307.2.1.flatMap (encL encSt75 4) ++ ([s307.2.2] : List (List St75)).flatMap (encL encSt75 4)))]⟩) (ef' := ⟨.vc 3, [0, 2], [(0, .gone), (3, vecL (encL encSt75 4) 1 73 (s307.2.1 ++ ([s307.2.2] : List (List St75))))]⟩) (c := room (s307.2.1.length + ([s307.2.2] : List (List St75)).length)) (tr2 := []) (H2 := [.gone, .gone, vecL (encL encSt75 4) 1 73 ([s307.2.2] : List (List St75)), vecL (encL encSt75 4) 1 73 ((s307.2.1 ++ ([s307.2.2] : List (List St75))))]) (by kernel_rfl) hm (fun hc => N.app) (by kernel_rfl) ?_
    refine RJ.seg 3 [2, 3, 4] (L2 := [(2, .vc 3), (3, .int .i64 0), (4, .int .i64 0)]) (H2 := [.gone, .gone, vecL (encL encSt75 4) 1 73 ([s307.2.2] : List (List St75)), vecL (encL encSt75 4) 1 73 ((s307.2.1 ++ ([s307.2.2] : List (List St75))))]) (by kernel_rfl) ?_
    refine kEN ?_
    refine kX ?_
    obtain rfl := oi h618
    refine PJ.wk (Wk.freeze 3 (n := ((s307.2.1 ++ ([s307.2.2] : List (List St75)))).length) (k := 1) (e := 73) (cs := ((s307.2.1 ++ ([s307.2.2] : List (List St75)))).flatMap (encL encSt75 4)) (by kernel_rfl)) ?_
    exact kZ hFn hFH hFD
def exergueref11_Same (x0 : List (List St75)) (x1 : List (List St75)) : Option (Bool) :=
 (bif (decide (¬ (x0.length : Int) = (x1.length : Int))) then (some false) else (Option.bind (loopN (fun (s5244 : Int) => (bif (decide (s5244 < (x0.length : Int))) then (Option.bind (bif inR s5244 x0.length then (bif inR s5244 x1.length then (bif (decide (¬ ((nth x0 s5244).length : Int) = ((nth x1 s5244).length : Int))) then (some (.inr (.inr (.inr false)))) else (loopN (fun (s9619 : Int) => (bif inR s5244 x0.length then (bif (decide (s9619 < ((nth x0 s5244).length : Int))) then (Option.bind (bif inR s5244 x0.length then (bif inR s9619 (nth x0 s5244).length then (bif inR s5244 x1.length then (bif inR s9619 (nth x1 s5244).length then (Option.bind (Option.bind (bif (decide (¬ ((nth (nth x0 s5244) s9619).Op_) = ((nth (nth x1 s5244) s9619).Op_))) then (some true) else (bif (decide (¬ ((nth (nth x0 s5244) s9619).Mod_) = ((nth (nth x1 s5244) s9619).Mod_))) then (some true) else (bif (((nth (nth x0 s5244) s9619).Not_) != ((nth (nth x1 s5244) s9619).Not_)) then (some true) else (some ((decide (¬ ((((nth (nth x0 s5244) s9619).R_).length : Int)) = ((((nth (nth x1 s5244) s9619).R_).length : Int))))))))) fun (s10390 : Bool) => (bif s10390 then (some (.inr (.inr (.inr (.inr (.inr (.inr false))))))) else (some (.inl ())))) (joinX fun (s10376 : Unit) => (loopN (fun (s10415 : Int) => (bif (decide (s10415 < ((((nth (nth x0 s5244) s9619).R_).length : Int)))) then (bif inR s10415 ((nth (nth x0 s5244) s9619).R_).length then (bif inR s10415 ((nth (nth x1 s5244) s9619).R_).length then (bif (!((decide (((nth ((nth (nth x0 s5244) s9619).R_) s10415).a0_) = ((nth ((nth (nth x1 s5244) s9619).R_) s10415).a0_))) && ((decide (((nth ((nth (nth x0 s5244) s9619).R_) s10415).a1_) = ((nth ((nth (nth x1 s5244) s9619).R_) s10415).a1_))) && true))) then (some (.inr (.inr (.inr (.inr (.inr (.inr false))))))) else (some (.inl (IntKind.wrap .i64 (s10415 + 1))))) else none) else none) else (some (.inr (.inl ()))))) big 0))) else none) else none) else none) else none) (joinX fun (s10333 : Unit) => (some (.inl (IntKind.wrap .i64 (s9619 + 1)))))) else (some (.inr (.inl ())))) else none)) big 0)) else none) else none) (joinX fun (s9605 : Unit) => (some (.inl (IntKind.wrap .i64 (s5244 + 1)))))) else (some (.inr (.inl ()))))) big 0) (joinX fun (s5239 : Unit) => (some true))))
theorem exergueref11_Same_ok {x0 : List (List St75)} {x1 : List (List St75)} {r : Bool} (h : exergueref11_Same x0 x1 = some r) : SC Tryz.prog 28 [lsv (encL encSt75 4) 1 x0, lsv (encL encSt75 4) 1 x1] [] (.bool r) [] := by
 refine kFn (fn := Tryz.f28) (fun F hFn hFH hFD => ?_)
 unfold exergueref11_Same at h
 refine kSR ?_
 refine kC 1 [0,1,4] ?_
 refine kEN ?_
 refine kS ?_
 refine kSR ?_
 refine kC 5 [0,1,4,14] ?_
 refine kEN ?_
 refine kBJ 14 h (fun h2 => ?_) (fun h3 => ?_)
 ·refine kT ?_
  refine kSR ?_
  refine kC 1 [0,1,4] ?_
  refine kEN ?_
  refine kX ?_
  refine PJ.passRet ?_
  obtain rfl := oi h2
  exact kZ hFn hFH hFD
 ·refine kF ?_
  refine kK ?_
  refine PJ.next ?_
  obtain ⟨y5240, hy5241, h5242⟩ := bindS h3
  refine K.cutX (by kernel_rfl) (fun (s5239 : Unit) => ([(4, .bool false)], [])) y5240 ?_ (fun s5239 hs => ?_)
  ·refine kSR ?_
   refine kC 1 [0,1,4,5] ?_
   refine kEN ?_
   refine K.block 0 (by kernel_rfl) ?_
   refine K.loop (by kernel_rfl) (fun (s5244 : Int) => ([(0, lsv (encL encSt75 4) 1 x0), (1, lsv (encL encSt75 4) 1 x1), (4, .bool false), (5, .int .i64 s5244)], [])) hy5241 [0, 1, 4, 5] (by kernel_rfl) (by kernel_rfl) (fun s5244 x8734 hs8733 => ?_)
   refine kS ?_
   refine kSR ?_
   refine kC 4 [0,1,4,5,18] ?_
   refine kEN ?_
   refine kBJ 18 hs8733 (fun h8736 => ?_) (fun h8737 => ?_)
   ·refine kT ?_
    refine kK ?_
    refine PJ.next ?_
    obtain ⟨y9606, hy9607, h9608⟩ := bindS h8736
    refine K.cutX (by kernel_rfl) (fun (s9605 : Unit) => ([(0, lsv (encL encSt75 4) 1 x0), (1, lsv (encL encSt75 4) 1 x1), (4, .bool false), (5, .int .i64 s5244)], [])) y9606 ?_ (fun s9605 hs => ?_)
    ·refine K.block 1 (by kernel_rfl) ?_
     refine kS ?_
     refine kS ?_
     refine J.keep [0, 1, 4, 5] (L2 := [(0, lsv (encL encSt75 4) 1 x0), (1, lsv (encL encSt75 4) 1 x1), (4, .bool false), (5, .int .i64 s5244)]) (by kernel_rfl) ?_
     refine K.draw (by kernel_rfl) (by kernel_rfl) (by kernel_rfl) (H2 := []) (by kernel_rfl) (n := 0) (by kernel_rfl) ?_
     refine kD 2 ?_
     obtain ⟨hm, h9610⟩ := asrt hy9607
     refine RJ.rel (d := (some 23)) (ef := ⟨.ep (((x0.flatMap (encL encSt75 4)).drop ((s5244 : Int).toNat * 1)).take 1), [], []⟩) (ef' := ⟨.ep ((encL encSt75 4) (nth x0 s5244)), [], []⟩) (c := inR s5244 x0.length) (tr2 := [([], []), ([], []), ([], [])]) (H2 := []) (by kernel_rfl) hm (fun hc => N.idx (encL_len encSt75 4) hc) (by kernel_rfl) ?_
     refine kD 4 ?_
     obtain ⟨hm, h9611⟩ := asrt h9610
     refine RJ.rel (d := (some 28)) (ef := ⟨.ep (((x1.flatMap (encL encSt75 4)).drop ((s5244 : Int).toNat * 1)).take 1), [], []⟩) (ef' := ⟨.ep ((encL encSt75 4) (nth x1 s5244)), [], []⟩) (c := inR s5244 x1.length) (tr2 := [([], []), ([], []), ([], []), ([], []), ([], []), ([], []), ([], []), ([], [])]) (H2 := []) (by kernel_rfl) hm (fun hc => N.idx (encL_len encSt75 4) hc) (by kernel_rfl) ?_
     refine RJ.segD 3 (tr2 := [([], []), ([], []), ([], []), ([], []), ([], []), ([], []), ([], []), ([], []), ([], []), ([], []), ([], [])]) (L2 := [(31, .bool ((decide (¬ ((nth x0 s5244).length : Int) = ((nth x1 s5244).length : Int))))), (30, .int .i64 ((nth x1 s5244).length : Int)), (29, lsv encSt75 4 (nth x1 s5244)), (28, .ep [lsv encSt75 4 (nth x1 s5244)]), (27, .int .i64 s5244), (26, lsv (encL encSt75 4) 1 x1), (25, .int .i64 ((nth x0 s5244).length : Int)), (24, lsv encSt75 4 (nth x0 s5244)), (23, .ep [lsv encSt75 4 (nth x0 s5244)]), (22, .int .i64 s5244), (21, lsv (encL encSt75 4) 1 x0), (0, lsv (encL encSt75 4) 1 x0), (1, lsv (encL encSt75 4) 1 x1), (4, .bool false), (5, .int .i64 s5244)]) (H2 := []) (by kernel_rfl) ?_
     refine kEN ?_
     refine kBJ 31 h9611 (fun h9613 => ?_) (fun h9614 => ?_)
     ·refine kT ?_
      refine kSR ?_
      refine kC 1 [0,1,4,5] ?_
      refine kEN ?_
      refine kX ?_
      refine PJ.passRet ?_
      refine PJ.blockRet ?_
      obtain rfl := oi h9613
      have h9615 := joinX_inr h9608
      refine PJ.cutXr (fun e => nomatch e) ?_
      obtain rfl := oi h9615
      refine PJ.loopOut (fun e => nomatch e) (fun he9618 => ?_)
      have h9616 := congrArg some he9618
      refine PJ.blockRet ?_
      obtain rfl := oi h9616
      have h9617 := joinX_inr h5242
      refine PJ.cutXr (fun e => nomatch e) ?_
      obtain rfl := oi h9617
      exact kZ hFn hFH hFD
     ·refine kF ?_
      refine kK ?_
      refine PJ.next ?_
      refine kSR ?_
      refine kC 1 [0,1,4,5,6] ?_
      refine kEN ?_
      refine K.block 2 (by kernel_rfl) ?_
      refine K.loop (by kernel_rfl) (fun (s9619 : Int) => ([(0, lsv (encL encSt75 4) 1 x0), (1, lsv (encL encSt75 4) 1 x1), (4, .bool false), (5, .int .i64 s5244), (6, .int .i64 s9619)], [])) h9614 [0, 1, 4, 5, 6] (by kernel_rfl) (by kernel_rfl) (fun s9619 x10191 hs10190 => ?_)
      refine kS ?_
      refine kSR ?_
      refine kC 3 [0,1,4,5,6,32,33,34] ?_
      obtain ⟨hm, h10192⟩ := asrt hs10190
      refine kI 35 (encL_len encSt75 4) hm ?_
      refine kC 3 [0,1,4,5,6,38] ?_
      refine kEN ?_
      refine kBJ 38 h10192 (fun h10194 => ?_) (fun h10195 => ?_)
      ·refine kT ?_
       refine kK ?_
       refine PJ.next ?_
       obtain ⟨y10334, hy10335, h10336⟩ := bindS h10194
       refine K.cutX (by kernel_rfl) (fun (s10333 : Unit) => ([(0, lsv (encL encSt75 4) 1 x0), (1, lsv (encL encSt75 4) 1 x1), (4, .bool false), (5, .int .i64 s5244), (6, .int .i64 s9619)], [])) y10334 ?_ (fun s10333 hs => ?_)
       ·refine K.block 3 (by kernel_rfl) ?_
        refine kSR ?_
        refine kC 2 [0,1,4,5,6,41,42] ?_
        obtain ⟨hm, h10338⟩ := asrt hy10335
        refine kI 43 (encL_len encSt75 4) hm ?_
        refine RJ.seg 2 [0, 1, 4, 5, 6, 44, 45] (L2 := [(0, lsv (encL encSt75 4) 1 x0), (1, lsv (encL encSt75 4) 1 x1), (4, .bool false), (5, .int .i64 s5244), (6, .int .i64 s9619), (44, lsv encSt75 4 (nth x0 s5244)), (45, .int .i64 s9619)]) (H2 := []) (by kernel_rfl) ?_
        obtain ⟨hm, h10339⟩ := asrt h10338
        refine kI 46 encSt75_len hm ?_
        refine kC 3 [0,1,4,5,6,7] ?_
        refine kEN ?_
        refine kSR ?_
        refine kC 2 [0,1,4,5,6,7,48,49] ?_
        obtain ⟨hm, h10340⟩ := asrt h10339
        refine kI 50 (encL_len encSt75 4) hm ?_
        refine kC 2 [0,1,4,5,6,7,51,52] ?_
        obtain ⟨hm, h10341⟩ := asrt h10340
        refine kI 53 encSt75_len hm ?_
        refine RJ.seg 3 [0, 1, 4, 5, 6, 7, 8] (L2 := [(0, lsv (encL encSt75 4) 1 x0), (1, lsv (encL encSt75 4) 1 x1), (4, .bool false), (5, .int .i64 s5244), (6, .int .i64 s9619), (7, .ptr 0 0), (8, .ptr 1 0)]) (H2 := [.box [.int .u8 ((nth (nth x0 s5244) s9619).Op_), .int .i64 ((nth (nth x0 s5244) s9619).Mod_), .bool ((nth (nth x0 s5244) s9619).Not_), lsv encSt80 2 ((nth (nth x0 s5244) s9619).R_)], .box [.int .u8 ((nth (nth x1 s5244) s9619).Op_), .int .i64 ((nth (nth x1 s5244) s9619).Mod_), .bool ((nth (nth x1 s5244) s9619).Not_), lsv encSt80 2 ((nth (nth x1 s5244) s9619).R_)]]) (by kernel_rfl) ?_
        refine kEN ?_
        obtain ⟨y10377, hy10378, h10379⟩ := bindS h10341
        refine K.cutX (by kernel_rfl) (fun (s10376 : Unit) => ([(0, lsv (encL encSt75 4) 1 x0), (1, lsv (encL encSt75 4) 1 x1), (4, .bool false), (5, .int .i64 s5244), (6, .int .i64 s9619), (7, .ptr 0 0), (8, .ptr 1 0)], [.box [.int .u8 ((nth (nth x0 s5244) s9619).Op_), .int .i64 ((nth (nth x0 s5244) s9619).Mod_), .bool ((nth (nth x0 s5244) s9619).Not_), lsv encSt80 2 ((nth (nth x0 s5244) s9619).R_)], .box [.int .u8 ((nth (nth x1 s5244) s9619).Op_), .int .i64 ((nth (nth x1 s5244) s9619).Mod_), .bool ((nth (nth x1 s5244) s9619).Not_), lsv encSt80 2 ((nth (nth x1 s5244) s9619).R_)]])) y10377 ?_ (fun s10376 hs => ?_)
        ·obtain ⟨s10390, hy10392, h10394⟩ := bindS hy10378
         refine K.cutN (by kernel_rfl) (fun (s10390 : Bool) => ([(0, lsv (encL encSt75 4) 1 x0), (1, lsv (encL encSt75 4) 1 x1), (4, .bool false), (5, .int .i64 s5244), (6, .int .i64 s9619), (7, .ptr 0 0), (8, .ptr 1 0), (82, .bool s10390)], [.box [.int .u8 ((nth (nth x0 s5244) s9619).Op_), .int .i64 ((nth (nth x0 s5244) s9619).Mod_), .bool ((nth (nth x0 s5244) s9619).Not_), lsv encSt80 2 ((nth (nth x0 s5244) s9619).R_)], .box [.int .u8 ((nth (nth x1 s5244) s9619).Op_), .int .i64 ((nth (nth x1 s5244) s9619).Mod_), .bool ((nth (nth x1 s5244) s9619).Not_), lsv encSt80 2 ((nth (nth x1 s5244) s9619).R_)]])) s10390 ?_ ?_
         ·refine kR ?_
          refine kC 6 [0,1,4,5,6,7,8,60] ?_
          refine kB 60 hy10392 (fun h10396 => ?_) (fun h10397 => ?_)
          ·refine kC 22 [0,1,4,5,6,7,8,82] ?_
           refine kE ?_
           obtain rfl := oi h10396
           exact kN [0, 1, 4, 5, 6, 7, 8, 82]
          ·refine kC 7 [0,1,4,5,6,7,8,67] ?_
           refine kB 67 h10397 (fun h10399 => ?_) (fun h10400 => ?_)
           ·refine kC 15 [0,1,4,5,6,7,8,82] ?_
            refine kE ?_
            obtain rfl := oi h10399
            exact kN [0, 1, 4, 5, 6, 7, 8, 82]
           ·refine kC 7 [0,1,4,5,6,7,8,74] ?_
            refine kB 74 h10400 (fun h10402 => ?_) (fun h10403 => ?_)
            ·refine RJ.seg 8 [0, 1, 4, 5, 6, 7, 8, 82] (L2 := [(0, lsv (encL encSt75 4) 1 x0), (1, lsv (encL encSt75 4) 1 x1), (4, .bool false), (5, .int .i64 s5244), (6, .int .i64 s9619), (7, .ptr 0 0), (8, .ptr 1 0), (82, .bool true)]) (H2 := [.box [.int .u8 ((nth (nth x0 s5244) s9619).Op_), .int .i64 ((nth (nth x0 s5244) s9619).Mod_), .bool ((nth (nth x0 s5244) s9619).Not_), lsv encSt80 2 ((nth (nth x0 s5244) s9619).R_)], .box [.int .u8 ((nth (nth x1 s5244) s9619).Op_), .int .i64 ((nth (nth x1 s5244) s9619).Mod_), .bool ((nth (nth x1 s5244) s9619).Not_), lsv encSt80 2 ((nth (nth x1 s5244) s9619).R_)]]) (by kernel_rfl) ?_
             refine kE ?_
             obtain rfl := oi h10402
             exact kN [0, 1, 4, 5, 6, 7, 8, 82]
            ·refine RJ.seg 8 [0, 1, 4, 5, 6, 7, 8, 82] (L2 := [(0, lsv (encL encSt75 4) 1 x0), (1, lsv (encL encSt75 4) 1 x1), (4, .bool false), (5, .int .i64 s5244), (6, .int .i64 s9619), (7, .ptr 0 0), (8, .ptr 1 0), (82, .bool ((decide (¬ ((((nth (nth x0 s5244) s9619).R_).length : Int)) = ((((nth (nth x1 s5244) s9619).R_).length : Int))))))]) (H2 := [.box [.int .u8 ((nth (nth x0 s5244) s9619).Op_), .int .i64 ((nth (nth x0 s5244) s9619).Mod_), .bool ((nth (nth x0 s5244) s9619).Not_), lsv encSt80 2 ((nth (nth x0 s5244) s9619).R_)], .box [.int .u8 ((nth (nth x1 s5244) s9619).Op_), .int .i64 ((nth (nth x1 s5244) s9619).Mod_), .bool ((nth (nth x1 s5244) s9619).Not_), lsv encSt80 2 ((nth (nth x1 s5244) s9619).R_)]]) (by kernel_rfl) ?_
             refine kE ?_
             obtain rfl := oi h10403
             exact kN [0, 1, 4, 5, 6, 7, 8, 82]
         ·refine kBJ 82 h10394 (fun h10405 => ?_) (fun h10406 => ?_)
          ·refine kT ?_
           refine kSR ?_
           refine kC 1 [0,1,4,5,6,7,8] ?_
           refine kEN ?_
           refine kX ?_
           obtain rfl := oi h10405
           have h10407 := joinX_inr h10379
           refine PJ.cutXr (fun e => nomatch e) ?_
           refine PJ.blockRet ?_
           obtain rfl := oi h10407
           have h10408 := joinX_inr h10336
           refine PJ.cutXr (fun e => nomatch e) ?_
           obtain rfl := oi h10408
           refine PJ.loopOut (fun e => nomatch e) (fun he10414 => ?_)
           have h10409 := congrArg some he10414
           refine PJ.blockRet ?_
           refine PJ.blockRet ?_
           obtain rfl := oi h10409
           have h10410 := joinX_inr h9608
           refine PJ.cutXr (fun e => nomatch e) ?_
           obtain rfl := oi h10410
           refine PJ.loopOut (fun e => nomatch e) (fun he10413 => ?_)
           have h10411 := congrArg some he10413
           refine PJ.blockRet ?_
           obtain rfl := oi h10411
           have h10412 := joinX_inr h5242
           refine PJ.cutXr (fun e => nomatch e) ?_
           obtain rfl := oi h10412
           exact kZ hFn hFH hFD
          ·refine kF ?_
           refine kK ?_
           obtain rfl := oi h10406
           exact PJ.cutXl [0, 1, 4, 5, 6, 7, 8] (by kernel_rfl) (by kernel_rfl)
        ·subst hs
         have h10380 := joinX_inl h10379
         refine kSR ?_
         refine kC 1 [0,1,4,5,6,7,8,9] ?_
         refine kEN ?_
         refine K.block 4 (by kernel_rfl) ?_
         refine K.loop (by kernel_rfl) (fun (s10415 : Int) => ([(0, lsv (encL encSt75 4) 1 x0), (1, lsv (encL encSt75 4) 1 x1), (4, .bool false), (5, .int .i64 s5244), (6, .int .i64 s9619), (7, .ptr 0 0), (8, .ptr 1 0), (9, .int .i64 s10415)], [.box [.int .u8 ((nth (nth x0 s5244) s9619).Op_), .int .i64 ((nth (nth x0 s5244) s9619).Mod_), .bool ((nth (nth x0 s5244) s9619).Not_), lsv encSt80 2 ((nth (nth x0 s5244) s9619).R_)], .box [.int .u8 ((nth (nth x1 s5244) s9619).Op_), .int .i64 ((nth (nth x1 s5244) s9619).Mod_), .bool ((nth (nth x1 s5244) s9619).Not_), lsv encSt80 2 ((nth (nth x1 s5244) s9619).R_)]])) h10380 [0, 1, 4, 5, 6, 7, 8, 9] (by kernel_rfl) (by kernel_rfl) (fun s10415 x10455 hs10454 => ?_)
         refine kS ?_
         refine kSR ?_
         refine kC 5 [0,1,4,5,6,7,8,9,87] ?_
         refine kEN ?_
         refine kBJ 87 hs10454 (fun h10457 => ?_) (fun h10458 => ?_)
         ·refine kT ?_
          refine kK ?_
          refine PJ.next ?_
          refine kS ?_
          refine K.block 5 (by kernel_rfl) ?_
          refine kS ?_
          refine J.keep [0, 1, 4, 5, 6, 7, 8, 9] (L2 := [(0, lsv (encL encSt75 4) 1 x0), (1, lsv (encL encSt75 4) 1 x1), (4, .bool false), (5, .int .i64 s5244), (6, .int .i64 s9619), (7, .ptr 0 0), (8, .ptr 1 0), (9, .int .i64 s10415)]) (by kernel_rfl) ?_
          refine K.draw (by kernel_rfl) (by kernel_rfl) (by kernel_rfl) (H2 := [.box [.int .u8 ((nth (nth x0 s5244) s9619).Op_), .int .i64 ((nth (nth x0 s5244) s9619).Mod_), .bool ((nth (nth x0 s5244) s9619).Not_), lsv encSt80 2 ((nth (nth x0 s5244) s9619).R_)], .box [.int .u8 ((nth (nth x1 s5244) s9619).Op_), .int .i64 ((nth (nth x1 s5244) s9619).Mod_), .bool ((nth (nth x1 s5244) s9619).Not_), lsv encSt80 2 ((nth (nth x1 s5244) s9619).R_)]]) (by kernel_rfl) (n := 2) (by kernel_rfl) ?_
          refine kD 3 ?_
          obtain ⟨hm, h10459⟩ := asrt h10457
          refine RJ.rel (d := (some 93)) (ef := ⟨.ep (((((nth (nth x0 s5244) s9619).R_).flatMap encSt80).drop ((s10415 : Int).toNat * 2)).take 2), [], []⟩) (ef' := ⟨.ep (encSt80 (nth ((nth (nth x0 s5244) s9619).R_) s10415)), [], []⟩) (c := inR s10415 ((nth (nth x0 s5244) s9619).R_).length) (tr2 := [([], []), ([0, 1], []), ([], []), ([], [])]) (H2 := [.box [.int .u8 ((nth (nth x0 s5244) s9619).Op_), .int .i64 ((nth (nth x0 s5244) s9619).Mod_), .bool ((nth (nth x0 s5244) s9619).Not_), lsv encSt80 2 ((nth (nth x0 s5244) s9619).R_)], .box [.int .u8 ((nth (nth x1 s5244) s9619).Op_), .int .i64 ((nth (nth x1 s5244) s9619).Mod_), .bool ((nth (nth x1 s5244) s9619).Not_), lsv encSt80 2 ((nth (nth x1 s5244) s9619).R_)]]) (by kernel_rfl) hm (fun hc => N.idx encSt80_len hc) (by kernel_rfl) ?_
          refine kD 4 ?_
          obtain ⟨hm, h10460⟩ := asrt h10459
          refine RJ.rel (d := (some 98)) (ef := ⟨.ep (((((nth (nth x1 s5244) s9619).R_).flatMap encSt80).drop ((s10415 : Int).toNat * 2)).take 2), [], []⟩) (ef' := ⟨.ep (encSt80 (nth ((nth (nth x1 s5244) s9619).R_) s10415)), [], []⟩) (c := inR s10415 ((nth (nth x1 s5244) s9619).R_).length) (tr2 := [([], []), ([0, 1], []), ([], []), ([], []), ([], []), ([], []), ([2, 3], []), ([], []), ([], [])]) (H2 := [.box [.int .u8 ((nth (nth x0 s5244) s9619).Op_), .int .i64 ((nth (nth x0 s5244) s9619).Mod_), .bool ((nth (nth x0 s5244) s9619).Not_), lsv encSt80 2 ((nth (nth x0 s5244) s9619).R_)], .box [.int .u8 ((nth (nth x1 s5244) s9619).Op_), .int .i64 ((nth (nth x1 s5244) s9619).Mod_), .bool ((nth (nth x1 s5244) s9619).Not_), lsv encSt80 2 ((nth (nth x1 s5244) s9619).R_)]]) (by kernel_rfl) hm (fun hc => N.idx encSt80_len hc) (by kernel_rfl) ?_
          refine RJ.segD 2 (tr2 := [([], []), ([0, 1], []), ([], []), ([], []), ([], []), ([], []), ([2, 3], []), ([], []), ([], []), ([], []), ([], [])]) (L2 := [(100, .bool ((!((decide (((nth ((nth (nth x0 s5244) s9619).R_) s10415).a0_) = ((nth ((nth (nth x1 s5244) s9619).R_) s10415).a0_))) && ((decide (((nth ((nth (nth x0 s5244) s9619).R_) s10415).a1_) = ((nth ((nth (nth x1 s5244) s9619).R_) s10415).a1_))) && true))))), (99, .agg [.int .i64 ((nth ((nth (nth x1 s5244) s9619).R_) s10415).a0_), .int .i64 ((nth ((nth (nth x1 s5244) s9619).R_) s10415).a1_)]), (98, .ep [.int .i64 ((nth ((nth (nth x1 s5244) s9619).R_) s10415).a0_), .int .i64 ((nth ((nth (nth x1 s5244) s9619).R_) s10415).a1_)]), (97, .int .i64 s10415), (96, lsv encSt80 2 ((nth (nth x1 s5244) s9619).R_)), (95, .ptr 1 3), (94, .agg [.int .i64 ((nth ((nth (nth x0 s5244) s9619).R_) s10415).a0_), .int .i64 ((nth ((nth (nth x0 s5244) s9619).R_) s10415).a1_)]), (93, .ep [.int .i64 ((nth ((nth (nth x0 s5244) s9619).R_) s10415).a0_), .int .i64 ((nth ((nth (nth x0 s5244) s9619).R_) s10415).a1_)]), (92, .int .i64 s10415), (91, lsv encSt80 2 ((nth (nth x0 s5244) s9619).R_)), (90, .ptr 0 3), (0, lsv (encL encSt75 4) 1 x0), (1, lsv (encL encSt75 4) 1 x1), (4, .bool false), (5, .int .i64 s5244), (6, .int .i64 s9619), (7, .ptr 0 0), (8, .ptr 1 0), (9, .int .i64 s10415)]) (H2 := [.box [.int .u8 ((nth (nth x0 s5244) s9619).Op_), .int .i64 ((nth (nth x0 s5244) s9619).Mod_), .bool ((nth (nth x0 s5244) s9619).Not_), lsv encSt80 2 ((nth (nth x0 s5244) s9619).R_)], .box [.int .u8 ((nth (nth x1 s5244) s9619).Op_), .int .i64 ((nth (nth x1 s5244) s9619).Mod_), .bool ((nth (nth x1 s5244) s9619).Not_), lsv encSt80 2 ((nth (nth x1 s5244) s9619).R_)]]) (by kernel_rfl) ?_
          refine kEN ?_
          refine kBJ 100 h10460 (fun h10462 => ?_) (fun h10463 => ?_)
          ·refine kT ?_
           refine kSR ?_
           refine kC 1 [0,1,4,5,6,7,8,9] ?_
           refine kEN ?_
           refine kX ?_
           refine PJ.blockRet ?_
           refine PJ.passRet ?_
           obtain rfl := oi h10462
           refine PJ.loopOut (fun e => nomatch e) (fun he10472 => ?_)
           have h10464 := congrArg some he10472
           refine PJ.blockRet ?_
           refine PJ.blockRet ?_
           obtain rfl := oi h10464
           have h10465 := joinX_inr h10336
           refine PJ.cutXr (fun e => nomatch e) ?_
           obtain rfl := oi h10465
           refine PJ.loopOut (fun e => nomatch e) (fun he10471 => ?_)
           have h10466 := congrArg some he10471
           refine PJ.blockRet ?_
           refine PJ.blockRet ?_
           obtain rfl := oi h10466
           have h10467 := joinX_inr h9608
           refine PJ.cutXr (fun e => nomatch e) ?_
           obtain rfl := oi h10467
           refine PJ.loopOut (fun e => nomatch e) (fun he10470 => ?_)
           have h10468 := congrArg some he10470
           refine PJ.blockRet ?_
           obtain rfl := oi h10468
           have h10469 := joinX_inr h5242
           refine PJ.cutXr (fun e => nomatch e) ?_
           obtain rfl := oi h10469
           exact kZ hFn hFH hFD
          ·refine kF ?_
           refine kK ?_
           refine PJ.blockNormal ?_
           refine PJ.next ?_
           refine kR ?_
           refine kC 3 [0,1,4,5,6,7,8,9] ?_
           refine kE ?_
           obtain rfl := oi h10463
           exact PJ.loopNext [0, 1, 4, 5, 6, 7, 8, 9] (by kernel_rfl) (by kernel_rfl)
         ·refine kF ?_
          refine K.exit 4 (by kernel_rfl) ?_
          refine PJ.passExit ?_
          obtain rfl := oi h10458
          refine PJ.loopOut (fun e => nomatch e) (fun he10474 => ?_)
          have h10473 := congrArg some he10474
          refine PJ.blockOut ?_
          refine PJ.blockNormal ?_
          obtain rfl := oi h10473
          refine PJ.wk (Wk.sel (L2 := [(0, lsv (encL encSt75 4) 1 x0), (1, lsv (encL encSt75 4) 1 x1), (4, .bool false), (5, .int .i64 s5244), (6, .int .i64 s9619)]) (H2 := []) 0 (by rw [hFH]; rfl) hFD [] (by kernel_rfl) (by kernel_rfl) (by decide) (by kernel_rfl) (by kernel_rfl) (by kernel_rfl) (by kernel_rfl)) ?_
          exact PJ.cutXl [0, 1, 4, 5, 6] (by kernel_rfl) (by kernel_rfl)
       ·subst hs
        have h10337 := joinX_inl h10336
        refine kR ?_
        refine kC 3 [0,1,4,5,6] ?_
        refine kE ?_
        obtain rfl := oi h10337
        exact PJ.loopNext [0, 1, 4, 5, 6] (by kernel_rfl) (by kernel_rfl)
      ·refine kF ?_
       refine K.exit 2 (by kernel_rfl) ?_
       refine PJ.passExit ?_
       obtain rfl := oi h10195
       refine PJ.loopOut (fun e => nomatch e) (fun he10476 => ?_)
       have h10475 := congrArg some he10476
       refine PJ.blockOut ?_
       refine PJ.blockNormal ?_
       obtain rfl := oi h10475
       exact PJ.cutXl [0, 1, 4, 5] (by kernel_rfl) (by kernel_rfl)
    ·subst hs
     have h9609 := joinX_inl h9608
     refine kR ?_
     refine kC 3 [0,1,4,5] ?_
     refine kE ?_
     obtain rfl := oi h9609
     exact PJ.loopNext [0, 1, 4, 5] (by kernel_rfl) (by kernel_rfl)
   ·refine kF ?_
    refine K.exit 0 (by kernel_rfl) ?_
    refine PJ.passExit ?_
    obtain rfl := oi h8737
    refine PJ.loopOut (fun e => nomatch e) (fun he10478 => ?_)
    have h10477 := congrArg some he10478
    refine PJ.blockOut ?_
    obtain rfl := oi h10477
    exact PJ.cutXl [4] (by kernel_rfl) (by kernel_rfl)
  ·subst hs
   have h5243 := joinX_inl h5242
   refine kSR ?_
   refine kC 1 [4] ?_
   refine kEN ?_
   refine kX ?_
   obtain rfl := oi h5243
   exact kZ hFn hFH hFD
def exergueref11_Right (x0 : List (List St75)) : Option (Bool) :=
 (Option.bind (exergueref11_Text x0) fun y1 => (Option.bind (exergueref11_Parse y1) fun y4 => (Option.bind (bif (decide (y4.2.2 = 0)) then (Option.bind (exergueref11_Same x0 y4.1) fun y21 => (some y21)) else (some false)) fun (s13 : Bool) => (some s13))))
theorem exergueref11_Right_ok {x0 : List (List St75)} {r : Bool} (h : exergueref11_Right x0 = some r) : SC Tryz.prog 27 [lsv (encL encSt75 4) 1 x0] [] (.bool r) [] := by
 refine kFn (fn := Tryz.f27) (fun F hFn hFH hFD => ?_)
 unfold exergueref11_Right at h
 refine kSR ?_
 refine kC 1 [0,2] ?_
 refine kEN ?_
 refine kSR ?_
 refine kC 1 [0,2,7] ?_
 obtain ⟨y1, hy2, h3⟩ := bindS h
 refine kA 8 (exergueref11_Text_ok hy2) ?_
 obtain ⟨y4, hy5, h6⟩ := bindS h3
 refine kA 9 (exergueref11_Parse_ok hy5) ?_
 refine kC 7 [0,2,3,5] ?_
 refine kEN ?_
 obtain ⟨s13, hy15, h17⟩ := bindS h6
 refine K.cutN (by kernel_rfl) (fun (s13 : Bool) => ([(2, .bool s13)], [])) s13 ?_ ?_
 ·refine kR ?_
  refine RJ.seg 3 [0, 2, 3, 15] (L2 := [(0, lsv (encL encSt75 4) 1 x0), (2, .bool false), (3, lsv (encL encSt75 4) 1 y4.1), (15, .bool (decide (y4.2.2 = 0)))]) (H2 := []) (by kernel_rfl) ?_
  refine kB 15 hy15 (fun h19 => ?_) (fun h20 => ?_)
  ·refine kC 2 [2,15,16,17] ?_
   obtain ⟨y21, hy22, h23⟩ := bindS h19
   refine kA 18 (exergueref11_Same_ok hy22) ?_
   refine kC 2 [2] ?_
   refine kE ?_
   obtain rfl := oi h23
   exact kN [2]
  ·refine kC 5 [2] ?_
   refine kE ?_
   obtain rfl := oi h20
   exact kN [2]
 ·refine kX ?_
  obtain rfl := oi h17
  exact kZ hFn hFH hFD
def exergueref12_Right (x0 : List St46) : Option (Bool) :=
 (Option.bind (loopN (fun (s327 : Int) => (bif (decide (s327 < (x0.length : Int))) then (Option.bind (bif inR s327 x0.length then (Option.bind (exergueref11_Right ((nth x0 s327).C_)) fun y599 => (Option.bind (bif (!y599) then (some true) else (bif inR s327 x0.length then (bif (decide (((nth x0 s327).Cat_) < 1)) then (some true) else (bif inR s327 x0.length then (bif (decide (((nth x0 s327).Cat_) > 5)) then (some true) else (bif (decide (s327 > 0)) then (bif inR s327 x0.length then (bif inR (IntKind.wrap .i64 (s327 - 1)) x0.length then (some ((decide (((nth x0 s327).Cat_) ≤ ((nth x0 (IntKind.wrap .i64 (s327 - 1))).Cat_))))) else none) else none) else (some false))) else none)) else none)) fun (s618 : Bool) => (bif s618 then (some (.inr (.inr (.inr false)))) else (some (.inl ()))))) else none) (joinX fun (s593 : Unit) => (some (.inl (IntKind.wrap .i64 (s327 + 1)))))) else (some (.inr (.inl ()))))) big 0) (joinX fun (s322 : Unit) => (some true)))
theorem exergueref12_Right_ok {x0 : List St46} {r : Bool} (h : exergueref12_Right x0 = some r) : SC Tryz.prog 16 [lsv encSt46 2 x0] [] (.bool r) [] := by
 refine kFn (fn := Tryz.f16) (fun F hFn hFH hFD => ?_)
 unfold exergueref12_Right at h
 refine kSR ?_
 refine kC 1 [0,2] ?_
 refine kEN ?_
 obtain ⟨y323, hy324, h325⟩ := bindS h
 refine K.cutX (by kernel_rfl) (fun (s322 : Unit) => ([(2, .bool false)], [])) y323 ?_ (fun s322 hs => ?_)
 ·refine kSR ?_
  refine kC 1 [0,2,3] ?_
  refine kEN ?_
  refine K.block 0 (by kernel_rfl) ?_
  refine K.loop (by kernel_rfl) (fun (s327 : Int) => ([(0, lsv encSt46 2 x0), (2, .bool false), (3, .int .i64 s327)], [])) hy324 [0, 2, 3] (by kernel_rfl) (by kernel_rfl) (fun s327 x541 hs540 => ?_)
  refine kS ?_
  refine kSR ?_
  refine kC 4 [0,2,3,8] ?_
  refine kEN ?_
  refine kBJ 8 hs540 (fun h543 => ?_) (fun h544 => ?_)
  ·refine kT ?_
   refine kK ?_
   refine PJ.next ?_
   obtain ⟨y594, hy595, h596⟩ := bindS h543
   refine K.cutX (by kernel_rfl) (fun (s593 : Unit) => ([(0, lsv encSt46 2 x0), (2, .bool false), (3, .int .i64 s327)], [])) y594 ?_ (fun s593 hs => ?_)
   ·refine K.block 1 (by kernel_rfl) ?_
    refine kSR ?_
    refine kC 2 [0,2,3,11,12] ?_
    obtain ⟨hm, h598⟩ := asrt hy595
    refine kI 13 encSt46_len hm ?_
    refine kC 2 [0,2,3,15] ?_
    obtain ⟨y599, hy600, h601⟩ := bindS h598
    refine kA 16 (exergueref11_Right_ok hy600) ?_
    refine RJ.seg 1 [0, 2, 3, 4] (L2 := [(0, lsv encSt46 2 x0), (2, .bool false), (3, .int .i64 s327), (4, .bool y599)]) (H2 := []) (by kernel_rfl) ?_
    refine kEN ?_
    obtain ⟨s618, hy620, h622⟩ := bindS h601
    refine K.cutN (by kernel_rfl) (fun (s618 : Bool) => ([(0, lsv encSt46 2 x0), (2, .bool false), (3, .int .i64 s327), (52, .bool s618)], [])) s618 ?_ ?_
    ·refine J.keep [0, 2, 3, 4] (L2 := [(0, lsv encSt46 2 x0), (2, .bool false), (3, .int .i64 s327), (4, .bool y599)]) (by kernel_rfl) ?_
     refine K.draw (by kernel_rfl) (by kernel_rfl) (by kernel_rfl) (H2 := []) (by kernel_rfl) (n := 0) (by kernel_rfl) ?_
     refine kD 3 ?_
     refine kB 19 hy620 (fun h624 => ?_) (fun h625 => ?_)
     ·refine kD 33 ?_
      refine kE ?_
      obtain rfl := oi h624
      exact kN [0, 2, 3, 52]
     ·refine kD 2 ?_
      obtain ⟨hm, h626⟩ := asrt h625
      refine RJ.rel (d := (some 22)) (ef := ⟨.ep (((x0.flatMap encSt46).drop ((s327 : Int).toNat * 2)).take 2), [], []⟩) (ef' := ⟨.ep (encSt46 (nth x0 s327)), [], []⟩) (c := inR s327 x0.length) (tr2 := [([], []), ([], []), ([], []), ([], []), ([], []), ([], [])]) (H2 := []) (by kernel_rfl) hm (fun hc => N.idx encSt46_len hc) (by kernel_rfl) ?_
      refine kD 5 ?_
      refine kB 27 h626 (fun h628 => ?_) (fun h629 => ?_)
      ·refine RJ.segD 25 (tr2 := [([], []), ([], []), ([], []), ([], []), ([], []), ([], []), ([], []), ([], []), ([], []), ([], []), ([], []), ([], []), ([], []), ([], []), ([], []), ([], []), ([], []), ([], []), ([], []), ([], []), ([], []), ([], []), ([], []), ([], []), ([], []), ([], []), ([], []), ([], []), ([], []), ([], []), ([], []), ([], []), ([], []), ([], []), ([], []), ([], [])]) (L2 := [(52, .bool true), (51, .tup []), (50, .tup []), (49, .tup []), (48, .tup []), (47, .tup []), (46, .tup []), (45, .tup []), (44, .tup []), (43, .tup []), (42, .tup []), (41, .tup []), (40, .tup []), (39, .tup []), (38, .tup []), (37, .tup []), (36, .tup []), (35, .bool true), (34, .bool true), (33, .tup []), (32, .tup []), (31, .tup []), (30, .tup []), (29, .tup []), (28, .tup []), (27, .bool true), (27, .bool ((decide (((nth x0 s327).Cat_) < 1)))), (26, .bool ((decide (((nth x0 s327).Cat_) < 1)))), (25, .bool ((decide (((nth x0 s327).Cat_) < 1)))), (24, .int .i64 ((nth x0 s327).Cat_)), (23, .ep [.int .i64 ((nth x0 s327).Cat_), lsv (encL encSt75 4) 1 ((nth x0 s327).C_)]), (22, .ep [.int .i64 ((nth x0 s327).Cat_), lsv (encL encSt75 4) 1 ((nth x0 s327).C_)]), (21, .int .i64 s327), (20, lsv encSt46 2 x0), (19, .bool false), (19, .bool (!y599)), (18, .bool (!y599)), (17, .bool y599), (0, lsv encSt46 2 x0), (2, .bool false), (3, .int .i64 s327), (4, .bool y599)]) (H2 := []) (by kernel_rfl) ?_
       refine kE ?_
       obtain rfl := oi h628
       exact kN [0, 2, 3, 52]
      ·refine RJ.segD 2 (tr2 := [([], []), ([], []), ([], []), ([], []), ([], []), ([], []), ([], []), ([], []), ([], []), ([], []), ([], []), ([], []), ([], [])]) (L2 := [(29, .int .i64 s327), (28, lsv encSt46 2 x0), (27, .bool false), (27, .bool ((decide (((nth x0 s327).Cat_) < 1)))), (26, .bool ((decide (((nth x0 s327).Cat_) < 1)))), (25, .bool ((decide (((nth x0 s327).Cat_) < 1)))), (24, .int .i64 ((nth x0 s327).Cat_)), (23, .ep [.int .i64 ((nth x0 s327).Cat_), lsv (encL encSt75 4) 1 ((nth x0 s327).C_)]), (22, .ep [.int .i64 ((nth x0 s327).Cat_), lsv (encL encSt75 4) 1 ((nth x0 s327).C_)]), (21, .int .i64 s327), (20, lsv encSt46 2 x0), (19, .bool false), (19, .bool (!y599)), (18, .bool (!y599)), (17, .bool y599), (0, lsv encSt46 2 x0), (2, .bool false), (3, .int .i64 s327), (4, .bool y599)]) (H2 := []) (by kernel_rfl) ?_
       obtain ⟨hm, h630⟩ := asrt h629
       refine RJ.rel (d := (some 30)) (ef := ⟨.ep (((x0.flatMap encSt46).drop ((s327 : Int).toNat * 2)).take 2), [], []⟩) (ef' := ⟨.ep (encSt46 (nth x0 s327)), [], []⟩) (c := inR s327 x0.length) (tr2 := [([], []), ([], []), ([], []), ([], []), ([], []), ([], []), ([], []), ([], []), ([], []), ([], []), ([], []), ([], []), ([], []), ([], [])]) (H2 := []) (by kernel_rfl) hm (fun hc => N.idx encSt46_len hc) (by kernel_rfl) ?_
       refine kD 5 ?_
       refine kB 35 h630 (fun h632 => ?_) (fun h633 => ?_)
       ·refine kD 17 ?_
        refine kE ?_
        obtain rfl := oi h632
        exact kN [0, 2, 3, 52]
       ·refine kD 3 ?_
        refine kB 38 h633 (fun h635 => ?_) (fun h636 => ?_)
        ·refine kD 2 ?_
         obtain ⟨hm, h637⟩ := asrt h635
         refine RJ.rel (d := (some 41)) (ef := ⟨.ep (((x0.flatMap encSt46).drop ((s327 : Int).toNat * 2)).take 2), [], []⟩) (ef' := ⟨.ep (encSt46 (nth x0 s327)), [], []⟩) (c := inR s327 x0.length) (tr2 := [([], []), ([], []), ([], []), ([], []), ([], []), ([], []), ([], []), ([], []), ([], []), ([], []), ([], []), ([], []), ([], []), ([], []), ([], []), ([], []), ([], []), ([], []), ([], []), ([], []), ([], []), ([], []), ([], []), ([], []), ([], [])]) (H2 := []) (by kernel_rfl) hm (fun hc => N.idx encSt46_len hc) (by kernel_rfl) ?_
         refine RJ.segD 5 (tr2 := [([], []), ([], []), ([], []), ([], []), ([], []), ([], []), ([], []), ([], []), ([], []), ([], []), ([], []), ([], []), ([], []), ([], []), ([], []), ([], []), ([], []), ([], []), ([], []), ([], []), ([], []), ([], []), ([], []), ([], []), ([], []), ([], []), ([], []), ([], []), ([], []), ([], [])]) (L2 := [(46, .int .i64 (IntKind.wrap .i64 (s327 - 1))), (45, .int .i64 s327), (44, lsv encSt46 2 x0), (43, .int .i64 ((nth x0 s327).Cat_)), (42, .ep [.int .i64 ((nth x0 s327).Cat_), lsv (encL encSt75 4) 1 ((nth x0 s327).C_)]), (41, .ep [.int .i64 ((nth x0 s327).Cat_), lsv (encL encSt75 4) 1 ((nth x0 s327).C_)]), (40, .int .i64 s327), (39, lsv encSt46 2 x0), (38, .bool true), (38, .bool (decide (s327 > 0))), (37, .bool (decide (s327 > 0))), (36, .int .i64 s327), (35, .bool false), (35, .bool ((decide (((nth x0 s327).Cat_) > 5)))), (34, .bool ((decide (((nth x0 s327).Cat_) > 5)))), (33, .bool ((decide (((nth x0 s327).Cat_) > 5)))), (32, .int .i64 ((nth x0 s327).Cat_)), (31, .ep [.int .i64 ((nth x0 s327).Cat_), lsv (encL encSt75 4) 1 ((nth x0 s327).C_)]), (30, .ep [.int .i64 ((nth x0 s327).Cat_), lsv (encL encSt75 4) 1 ((nth x0 s327).C_)]), (29, .int .i64 s327), (28, lsv encSt46 2 x0), (27, .bool false), (27, .bool ((decide (((nth x0 s327).Cat_) < 1)))), (26, .bool ((decide (((nth x0 s327).Cat_) < 1)))), (25, .bool ((decide (((nth x0 s327).Cat_) < 1)))), (24, .int .i64 ((nth x0 s327).Cat_)), (23, .ep [.int .i64 ((nth x0 s327).Cat_), lsv (encL encSt75 4) 1 ((nth x0 s327).C_)]), (22, .ep [.int .i64 ((nth x0 s327).Cat_), lsv (encL encSt75 4) 1 ((nth x0 s327).C_)]), (21, .int .i64 s327), (20, lsv encSt46 2 x0), (19, .bool false), (19, .bool (!y599)), (18, .bool (!y599)), (17, .bool y599), (0, lsv encSt46 2 x0), (2, .bool false), (3, .int .i64 s327), (4, .bool y599)]) (H2 := []) (by kernel_rfl) ?_
         obtain ⟨hm, h638⟩ := asrt h637
         refine RJ.rel (d := (some 47)) (ef := ⟨.ep (((x0.flatMap encSt46).drop (((IntKind.wrap .i64 (s327 - 1)) : Int).toNat * 2)).take 2), [], []⟩) (ef' := ⟨.ep (encSt46 (nth x0 (IntKind.wrap .i64 (s327 - 1)))), [], []⟩) (c := inR (IntKind.wrap .i64 (s327 - 1)) x0.length) (tr2 := [([], []), ([], []), ([], []), ([], []), ([], []), ([], []), ([], []), ([], []), ([], []), ([], []), ([], []), ([], []), ([], []), ([], []), ([], []), ([], []), ([], []), ([], []), ([], []), ([], []), ([], []), ([], []), ([], []), ([], []), ([], []), ([], []), ([], []), ([], []), ([], []), ([], []), ([], [])]) (H2 := []) (by kernel_rfl) hm (fun hc => N.idx encSt46_len hc) (by kernel_rfl) ?_
         refine kD 5 ?_
         refine kE ?_
         obtain rfl := oi h638
         exact kN [0, 2, 3, 52]
        ·refine kD 14 ?_
         refine kE ?_
         obtain rfl := oi h636
         exact kN [0, 2, 3, 52]
    ·refine kBJ 52 h622 (fun h640 => ?_) (fun h641 => ?_)
     ·refine kT ?_
      refine kSR ?_
      refine kC 1 [0,2,3] ?_
      refine kEN ?_
      refine kX ?_
      refine PJ.blockRet ?_
      obtain rfl := oi h640
      have h642 := joinX_inr h596
      refine PJ.cutXr (fun e => nomatch e) ?_
      obtain rfl := oi h642
      refine PJ.loopOut (fun e => nomatch e) (fun he645 => ?_)
      have h643 := congrArg some he645
      refine PJ.blockRet ?_
      obtain rfl := oi h643
      have h644 := joinX_inr h325
      refine PJ.cutXr (fun e => nomatch e) ?_
      obtain rfl := oi h644
      exact kZ hFn hFH hFD
     ·refine kF ?_
      refine kK ?_
      refine PJ.blockNormal ?_
      obtain rfl := oi h641
      exact PJ.cutXl [0, 2, 3] (by kernel_rfl) (by kernel_rfl)
   ·subst hs
    have h597 := joinX_inl h596
    refine kR ?_
    refine kC 3 [0,2,3] ?_
    refine kE ?_
    obtain rfl := oi h597
    exact PJ.loopNext [0, 2, 3] (by kernel_rfl) (by kernel_rfl)
  ·refine kF ?_
   refine K.exit 0 (by kernel_rfl) ?_
   refine PJ.passExit ?_
   obtain rfl := oi h544
   refine PJ.loopOut (fun e => nomatch e) (fun he647 => ?_)
   have h646 := congrArg some he647
   refine PJ.blockOut ?_
   obtain rfl := oi h646
   exact PJ.cutXl [2] (by kernel_rfl) (by kernel_rfl)
 ·subst hs
  have h326 := joinX_inl h325
  refine kSR ?_
  refine kC 1 [2] ?_
  refine kEN ?_
  refine kX ?_
  obtain rfl := oi h326
  exact kZ hFn hFH hFD
def exergueref07_Figures (x0 : List Int) : Option (Bool) :=
 (Option.bind (loopN (fun (s45 : Int) => (bif (decide (s45 < (x0.length : Int))) then (bif inR s45 x0.length then (bif (decide ((nth x0 s45) > 9)) then (some (.inr (.inr false))) else (some (.inl (IntKind.wrap .i64 (s45 + 1))))) else none) else (some (.inr (.inl ()))))) big 0) (joinX fun (s40 : Unit) => (some true)))
theorem exergueref07_Figures_ok {x0 : List Int} {r : Bool} (h : exergueref07_Figures x0 = some r) : SC Tryz.prog 34 [lsv (encI .u8) 1 x0] [] (.bool r) [] := by
 refine kFn (fn := Tryz.f34) (fun F hFn hFH hFD => ?_)
 unfold exergueref07_Figures at h
 refine kSR ?_
 refine kC 1 [0,2] ?_
 refine kEN ?_
 obtain ⟨y41, hy42, h43⟩ := bindS h
 refine K.cutX (by kernel_rfl) (fun (s40 : Unit) => ([(2, .bool false)], [])) y41 ?_ (fun s40 hs => ?_)
 ·refine kSR ?_
  refine kC 1 [0,2,3] ?_
  refine kEN ?_
  refine K.block 0 (by kernel_rfl) ?_
  refine K.loop (by kernel_rfl) (fun (s45 : Int) => ([(0, lsv (encI .u8) 1 x0), (2, .bool false), (3, .int .i64 s45)], [])) hy42 [0, 2, 3] (by kernel_rfl) (by kernel_rfl) (fun s45 x71 hs70 => ?_)
  refine kS ?_
  refine kSR ?_
  refine kC 4 [0,2,3,7] ?_
  refine kEN ?_
  refine kBJ 7 hs70 (fun h73 => ?_) (fun h74 => ?_)
  ·refine kT ?_
   refine kK ?_
   refine PJ.next ?_
   refine kS ?_
   refine K.block 1 (by kernel_rfl) ?_
   refine kSR ?_
   refine kC 2 [0,2,3,10,11] ?_
   obtain ⟨hm, h75⟩ := asrt h73
   refine kI 12 (encI_len .u8) hm ?_
   refine kC 2 [0,2,3,14] ?_
   refine kEN ?_
   refine kBJ 14 h75 (fun h77 => ?_) (fun h78 => ?_)
   ·refine kT ?_
    refine kSR ?_
    refine RJ.seg 1 [0, 2, 3] (L2 := [(0, lsv (encI .u8) 1 x0), (2, .bool false), (3, .int .i64 s45)]) (H2 := []) (by kernel_rfl) ?_
    refine kEN ?_
    refine kX ?_
    refine PJ.blockRet ?_
    refine PJ.passRet ?_
    obtain rfl := oi h77
    refine PJ.loopOut (fun e => nomatch e) (fun he81 => ?_)
    have h79 := congrArg some he81
    refine PJ.blockRet ?_
    obtain rfl := oi h79
    have h80 := joinX_inr h43
    refine PJ.cutXr (fun e => nomatch e) ?_
    obtain rfl := oi h80
    exact kZ hFn hFH hFD
   ·refine kF ?_
    refine kK ?_
    refine PJ.blockNormal ?_
    refine PJ.next ?_
    refine kR ?_
    refine RJ.seg 3 [0, 2, 3] (L2 := [(0, lsv (encI .u8) 1 x0), (2, .bool false), (3, .int .i64 (IntKind.wrap .i64 (s45 + 1)))]) (H2 := []) (by kernel_rfl) ?_
    refine kE ?_
    obtain rfl := oi h78
    exact PJ.loopNext [0, 2, 3] (by kernel_rfl) (by kernel_rfl)
  ·refine kF ?_
   refine K.exit 0 (by kernel_rfl) ?_
   refine PJ.passExit ?_
   obtain rfl := oi h74
   refine PJ.loopOut (fun e => nomatch e) (fun he83 => ?_)
   have h82 := congrArg some he83
   refine PJ.blockOut ?_
   obtain rfl := oi h82
   exact PJ.cutXl [2] (by kernel_rfl) (by kernel_rfl)
 ·subst hs
  have h44 := joinX_inl h43
  refine kSR ?_
  refine kC 1 [2] ?_
  refine kEN ?_
  refine kX ?_
  obtain rfl := oi h44
  exact kZ hFn hFH hFD
def exergueref07_Full (x0 : List Int) : Option (Int) :=
 (Option.bind (loopN (fun (s63 : Int × Int) => (bif (decide (s63.2 < (x0.length : Int))) then (Option.bind (bif inR s63.2 x0.length then (bif (decide (¬ (nth x0 s63.2) = 0)) then (some (IntKind.wrap .i64 (s63.2 + 1))) else (some s63.1)) else none) fun (s109 : Int) => (some (.inl (s109, (IntKind.wrap .i64 (s63.2 + 1)))))) else (some (.inr s63.1)))) big (0, 0)) fun (s58 : Int) => (some s58))
theorem exergueref07_Full_ok {x0 : List Int} {r : Int} (h : exergueref07_Full x0 = some r) : SC Tryz.prog 35 [lsv (encI .u8) 1 x0] [] (.int .i64 r) [] := by
 refine kFn (fn := Tryz.f35) (fun F hFn hFH hFD => ?_)
 unfold exergueref07_Full at h
 refine kSR ?_
 refine kC 1 [0,2] ?_
 refine kEN ?_
 refine kSR ?_
 refine kC 1 [0,2,3] ?_
 refine kEN ?_
 obtain ⟨s58, hy60, h62⟩ := bindS h
 refine K.cutN (by kernel_rfl) (fun (s58 : Int) => ([(2, .int .i64 0), (3, .int .i64 s58)], [])) s58 ?_ ?_
 ·refine kSR ?_
  refine kC 1 [0,2,3,4] ?_
  refine kEN ?_
  refine K.block 0 (by kernel_rfl) ?_
  refine K.loop (by kernel_rfl) (fun (s63 : Int × Int) => ([(0, lsv (encI .u8) 1 x0), (2, .int .i64 0), (3, .int .i64 s63.1), (4, .int .i64 s63.2)], [])) hy60 [0, 2, 3, 4] (by kernel_rfl) (by kernel_rfl) (fun s63 x101 hs100 => ?_)
  refine kS ?_
  refine kSR ?_
  refine kC 4 [0,2,3,4,8] ?_
  refine kEN ?_
  refine kBJ 8 hs100 (fun h103 => ?_) (fun h104 => ?_)
  ·refine kT ?_
   refine kK ?_
   refine PJ.next ?_
   obtain ⟨s109, hy111, h113⟩ := bindS h103
   refine K.cutN (by kernel_rfl) (fun (s109 : Int) => ([(0, lsv (encI .u8) 1 x0), (2, .int .i64 0), (3, .int .i64 s109), (4, .int .i64 s63.2)], [])) s109 ?_ ?_
   ·refine K.block 1 (by kernel_rfl) ?_
    refine kSR ?_
    refine kC 2 [0,2,3,4,11,12] ?_
    obtain ⟨hm, h114⟩ := asrt hy111
    refine kI 13 (encI_len .u8) hm ?_
    refine kC 2 [0,2,3,4,15] ?_
    refine kEN ?_
    refine kBJ 15 h114 (fun h116 => ?_) (fun h117 => ?_)
    ·refine kT ?_
     refine kR ?_
     refine RJ.seg 3 [0, 2, 3, 4] (L2 := [(0, lsv (encI .u8) 1 x0), (2, .int .i64 0), (3, .int .i64 (IntKind.wrap .i64 (s63.2 + 1))), (4, .int .i64 s63.2)]) (H2 := []) (by kernel_rfl) ?_
     refine kE ?_
     refine PJ.blockNormal ?_
     obtain rfl := oi h116
     exact kN [0, 2, 3, 4]
    ·refine kF ?_
     refine kK ?_
     refine PJ.blockNormal ?_
     obtain rfl := oi h117
     exact kN [0, 2, 3, 4]
   ·refine kR ?_
    refine kC 3 [0,2,3,4] ?_
    refine kE ?_
    obtain rfl := oi h113
    exact PJ.loopNext [0, 2, 3, 4] (by kernel_rfl) (by kernel_rfl)
  ·refine kF ?_
   refine K.exit 0 (by kernel_rfl) ?_
   refine PJ.passExit ?_
   obtain rfl := oi h104
   refine PJ.loopOut (fun e => nomatch e) (fun he119 => ?_)
   have h118 := congrArg some he119
   refine PJ.blockOut ?_
   obtain rfl := oi h118
   exact kN [2, 3]
 ·refine kSR ?_
  refine kC 2 [2] ?_
  refine kEN ?_
  refine kX ?_
  obtain rfl := oi h62
  exact kZ hFn hFH hFD
def exergueref07_Right (x0 : St33) : Option (Bool) :=
 (Option.bind (exergueref07_Figures x0.I_) fun y1 => (Option.bind (exergueref07_Figures x0.F_) fun y4 => (Option.bind (Option.bind (bif (!y1) then (some true) else (bif (!y4) then (some true) else (bif (decide ((x0.I_.length : Int) > 0)) then (bif inR 0 x0.I_.length then (some ((decide ((nth x0.I_ 0) = 0)))) else none) else (some false)))) fun (s51 : Bool) => (bif s51 then (some (.inr false)) else (some (.inl ())))) (joinX fun (s36 : Unit) => (Option.bind (Option.bind (exergueref07_Full x0.F_) fun y84 => (bif (decide (x0.W_ = y84)) then (bif (decide (x0.C_ ≥ 0)) then (some (decide (x0.C_ ≤ 1000))) else (some false)) else (some false))) fun (s79 : Bool) => (some s79))))))
theorem exergueref07_Right_ok {x0 : St33} {r : Bool} (h : exergueref07_Right x0 = some r) : SC Tryz.prog 20 [.agg (encSt33 x0)] [] (.bool r) [] := by
 refine kFn (fn := Tryz.f20) (fun F hFn hFH hFD => ?_)
 unfold exergueref07_Right at h
 refine kSR ?_
 refine kC 2 [1,2] ?_
 refine kEN ?_
 refine kSR ?_
 refine kC 2 [1,2,6] ?_
 obtain ⟨y1, hy2, h3⟩ := bindS h
 refine kA 7 (exergueref07_Figures_ok hy2) ?_
 refine kC 1 [1,2,3] ?_
 refine kEN ?_
 refine kSR ?_
 refine RJ.seg 2 [1, 2, 3, 9] (L2 := [(1, .ptr 0 0), (2, .bool false), (3, .bool y1), (9, lsv (encI .u8) 1 x0.F_)]) (H2 := [.box (encSt33 x0)]) (by kernel_rfl) ?_
 obtain ⟨y4, hy5, h6⟩ := bindS h3
 refine kA 10 (exergueref07_Figures_ok hy5) ?_
 refine kC 1 [1,2,3,4] ?_
 refine kEN ?_
 obtain ⟨y37, hy38, h39⟩ := bindS h6
 refine K.cutX (by kernel_rfl) (fun (s36 : Unit) => ([(1, .ptr 0 0), (2, .bool false)], [.box (encSt33 x0)])) y37 ?_ (fun s36 hs => ?_)
 ·obtain ⟨s51, hy53, h55⟩ := bindS hy38
  refine K.cutN (by kernel_rfl) (fun (s51 : Bool) => ([(1, .ptr 0 0), (2, .bool false), (29, .bool s51)], [.box (encSt33 x0)])) s51 ?_ ?_
  ·refine kR ?_
   refine kC 3 [1,2,4,13] ?_
   refine kB 13 hy53 (fun h57 => ?_) (fun h58 => ?_)
   ·refine kC 16 [1,2,29] ?_
    refine kE ?_
    obtain rfl := oi h57
    exact kN [1, 2, 29]
   ·refine kC 4 [1,2,17] ?_
    refine kB 17 h58 (fun h60 => ?_) (fun h61 => ?_)
    ·refine RJ.seg 12 [1, 2, 29] (L2 := [(1, .ptr 0 0), (2, .bool false), (29, .bool true)]) (H2 := [.box (encSt33 x0)]) (by kernel_rfl) ?_
     refine kE ?_
     obtain rfl := oi h60
     exact kN [1, 2, 29]
    ·refine RJ.seg 5 [1, 2, 17, 22] (L2 := [(1, .ptr 0 0), (2, .bool false), (17, .bool false), (22, .bool ((decide ((x0.I_.length : Int) > 0))))]) (H2 := [.box (encSt33 x0)]) (by kernel_rfl) ?_
     refine kB 22 h61 (fun h63 => ?_) (fun h64 => ?_)
     ·refine kC 2 [1,2,17,22,24] ?_
      obtain ⟨hm, h65⟩ := asrt h63
      refine kI 25 (encI_len .u8) hm ?_
      refine kC 4 [1,2,29] ?_
      refine kE ?_
      obtain rfl := oi h65
      exact kN [1, 2, 29]
     ·refine kC 7 [1,2,29] ?_
      refine kE ?_
      obtain rfl := oi h64
      exact kN [1, 2, 29]
  ·refine kBJ 29 h55 (fun h67 => ?_) (fun h68 => ?_)
   ·refine kT ?_
    refine kSR ?_
    refine kC 1 [1,2] ?_
    refine kEN ?_
    refine kX ?_
    obtain rfl := oi h67
    have h69 := joinX_inr h39
    refine PJ.cutXr (fun e => nomatch e) ?_
    obtain rfl := oi h69
    exact kZ hFn hFH hFD
   ·refine kF ?_
    refine kK ?_
    obtain rfl := oi h68
    exact PJ.cutXl [1, 2] (by kernel_rfl) (by kernel_rfl)
 ·subst hs
  have h40 := joinX_inl h39
  obtain ⟨s79, hy81, h83⟩ := bindS h40
  refine K.cutN (by kernel_rfl) (fun (s79 : Bool) => ([(2, .bool s79)], [])) s79 ?_ ?_
  ·refine J.keep [1, 2] (L2 := [(1, .ptr 0 0), (2, .bool false)]) (by kernel_rfl) ?_
   refine K.draw (by kernel_rfl) (by kernel_rfl) (by kernel_rfl) (H2 := [.box (encSt33 x0), .res]) (by kernel_rfl) (n := 1) (by kernel_rfl) ?_
   refine kD 4 ?_
   obtain ⟨y84, hy85, h86⟩ := bindS hy81
   refine RJ.call0 (d := (some 34)) (f := 35) (args := [lsv (encI .u8) 1 x0.F_]) (v := .int .i64 y84) (tr2 := [([], []), ([0, 1], []), ([], []), ([0, 1], []), ([], [2, 3])]) (by kernel_rfl) (by kernel_rfl) (.cons (Le.refl _) .nil) (exergueref07_Full_ok hy85) (by kernel_rfl) ?_
   refine kD 2 ?_
   refine kB 36 h86 (fun h88 => ?_) (fun h89 => ?_)
   ·refine kD 5 ?_
    refine kB 41 h88 (fun h91 => ?_) (fun h92 => ?_)
    ·refine RJ.segD 5 (tr2 := [([], []), ([0, 1], []), ([], []), ([0, 1], []), ([], [2, 3]), ([], []), ([], []), ([], []), ([0, 1], []), ([], []), ([], []), ([], []), ([], []), ([0, 1], []), ([], []), ([], []), ([], [])]) (L2 := [(2, .bool (decide (x0.C_ ≤ 1000))), (45, .bool (decide (x0.C_ ≤ 1000))), (44, .bool (decide (x0.C_ ≤ 1000))), (43, .int .i64 x0.C_), (42, .ptr 0 3), (41, .bool true), (41, .bool (decide (x0.C_ ≥ 0))), (40, .bool (decide (x0.C_ ≥ 0))), (39, .bool (decide (x0.C_ ≥ 0))), (38, .int .i64 x0.C_), (37, .ptr 0 3), (36, .bool true), (36, .bool (decide (x0.W_ = y84))), (35, .bool (decide (x0.W_ = y84))), (34, .int .i64 y84), (33, lsv (encI .u8) 1 x0.F_), (32, .ptr 0 1), (31, .int .i64 x0.W_), (30, .ptr 0 2), (1, .ptr 0 0), (2, .bool false)]) (H2 := [.box (encSt33 x0), .res]) (by kernel_rfl) ?_
     refine kE ?_
     obtain rfl := oi h91
     refine PJ.wk (Wk.sel (L2 := [(2, .bool (decide (x0.C_ ≤ 1000)))]) (H2 := []) 0 (by rw [hFH]; rfl) hFD [] (by kernel_rfl) (by kernel_rfl) (by decide) (by kernel_rfl) (by kernel_rfl) (by kernel_rfl) (by kernel_rfl)) ?_
     exact kN [2]
    ·refine RJ.segD 5 (tr2 := [([], []), ([0, 1], []), ([], []), ([0, 1], []), ([], [2, 3]), ([], []), ([], []), ([], []), ([0, 1], []), ([], []), ([], []), ([], []), ([], []), ([], []), ([], []), ([], []), ([], [])]) (L2 := [(2, .bool false), (45, .bool false), (44, .tup []), (43, .tup []), (42, .tup []), (41, .bool false), (41, .bool (decide (x0.C_ ≥ 0))), (40, .bool (decide (x0.C_ ≥ 0))), (39, .bool (decide (x0.C_ ≥ 0))), (38, .int .i64 x0.C_), (37, .ptr 0 3), (36, .bool true), (36, .bool (decide (x0.W_ = y84))), (35, .bool (decide (x0.W_ = y84))), (34, .int .i64 y84), (33, lsv (encI .u8) 1 x0.F_), (32, .ptr 0 1), (31, .int .i64 x0.W_), (30, .ptr 0 2), (1, .ptr 0 0), (2, .bool false)]) (H2 := [.box (encSt33 x0), .res]) (by kernel_rfl) ?_
     refine kE ?_
     obtain rfl := oi h92
     refine PJ.wk (Wk.sel (L2 := [(2, .bool false)]) (H2 := []) 0 (by rw [hFH]; rfl) hFD [] (by kernel_rfl) (by kernel_rfl) (by decide) (by kernel_rfl) (by kernel_rfl) (by kernel_rfl) (by kernel_rfl)) ?_
     exact kN [2]
   ·refine kD 10 ?_
    refine kE ?_
    obtain rfl := oi h89
    refine PJ.wk (Wk.sel (L2 := [(2, .bool false)]) (H2 := []) 0 (by rw [hFH]; rfl) hFD [] (by kernel_rfl) (by kernel_rfl) (by decide) (by kernel_rfl) (by kernel_rfl) (by kernel_rfl) (by kernel_rfl)) ?_
    exact kN [2]
  ·refine kX ?_
   obtain rfl := oi h83
   exact kZ hFn hFH hFD
def exerguelaw12_PlurTotal (x0 : List St46) (x1 : St33) : Option (Bool) :=
 (Option.bind exerguelaw12_shown fun y1 => (Option.bind (Option.bind (Option.bind (exergueref12_Short x0) fun y77 => (bif (!y77) then (some true) else (Option.bind (exergueref12_Right x0) fun y83 => (bif (!y83) then (some true) else (bif (decide (((IntKind.wrap .i64 ((x1.I_.length : Int) + (x1.F_.length : Int)))) > 1000)) then (some true) else (Option.bind (exergueref07_Right x1) fun y92 => (some (!y92)))))))) fun (s72 : Bool) => (bif s72 then (some (.inr y1)) else (some (.inl ())))) (joinX fun (s49 : Unit) => (Option.bind (plur_Of x0 x1) fun y99 => (Option.bind (loopN (fun (s1346 : Int) => (bif (decide (s1346 < (x0.length : Int))) then (Option.bind (bif inS s1346 (IntKind.wrap .i64 (s1346 + 1)) x0.length then (Option.bind (plur_Of ((cut x0 s1346 (IntKind.wrap .i64 (s1346 + 1)))) x1) fun y2383 => (Option.bind (Option.bind (bif (decide (¬ y2383 = 0)) then (bif inR s1346 x0.length then (bif (decide (¬ y2383 = ((nth x0 s1346).Cat_))) then (some true) else (bif (decide (¬ y2383 = 0)) then (bif inR s1346 x0.length then (bif (decide (((nth x0 s1346).Cat_) < y99)) then (some true) else (bif inR s1346 x0.length then (bif (decide (((nth x0 s1346).Cat_) = y99)) then (some (decide (¬ y2383 = y99))) else (some false)) else none)) else none) else (bif inR s1346 x0.length then (bif (decide (((nth x0 s1346).Cat_) = y99)) then (some (decide (¬ y2383 = y99))) else (some false)) else none))) else none) else (bif (decide (¬ y2383 = 0)) then (bif inR s1346 x0.length then (bif (decide (((nth x0 s1346).Cat_) < y99)) then (some true) else (bif inR s1346 x0.length then (bif (decide (((nth x0 s1346).Cat_) = y99)) then (some (decide (¬ y2383 = y99))) else (some false)) else none)) else none) else (bif inR s1346 x0.length then (bif (decide (((nth x0 s1346).Cat_) = y99)) then (some (decide (¬ y2383 = y99))) else (some false)) else none))) fun (s2515 : Bool) => (bif s2515 then (some (.inr (.inr (.inr (.inr false))))) else (some (.inl ())))) (joinX fun (s2473 : Unit) => (Option.bind (bif (decide (¬ y2383 = 0)) then (some (decide (y99 = 0))) else (some false)) fun (s2568 : Bool) => (bif s2568 then (some (.inr (.inr (.inr false)))) else (some (.inl ()))))))) else none) (joinX fun (s2377 : Unit) => (some (.inl (IntKind.wrap .i64 (s1346 + 1)))))) else (some (.inr (.inl ()))))) big 0) (joinX fun (s1341 : Unit) => (Option.bind (bif y1 then (bif (decide (y99 ≥ 0)) then (some (decide (y99 ≤ 5))) else (some false)) else (some false)) fun (s2591 : Bool) => (some s2591))))))))
theorem exerguelaw12_PlurTotal_ok {x0 : List St46} {x1 : St33} {r : Bool} (h : exerguelaw12_PlurTotal x0 x1 = some r) : SC Tryz.prog 5 [lsv encSt46 2 x0, .agg (encSt33 x1)] [] (.bool r) [] := by
 refine kFn (fn := Tryz.f5) (fun F hFn hFH hFD => ?_)
 unfold exerguelaw12_PlurTotal at h
 refine kSR ?_
 refine kC 2 [0,3,4] ?_
 refine kEN ?_
 refine kSR ?_
 obtain ⟨y1, hy2, h3⟩ := bindS h
 refine kA 9 (exerguelaw12_shown_ok hy2) ?_
 refine kC 1 [0,3,4,5] ?_
 refine kEN ?_
 obtain ⟨y50, hy51, h52⟩ := bindS h3
 refine K.cutX (by kernel_rfl) (fun (s49 : Unit) => ([(0, lsv encSt46 2 x0), (3, .ptr 0 0), (4, .bool false), (5, .bool y1)], [.box (encSt33 x1)])) y50 ?_ (fun s49 hs => ?_)
 ·obtain ⟨s72, hy74, h76⟩ := bindS hy51
  refine K.cutN (by kernel_rfl) (fun (s72 : Bool) => ([(0, lsv encSt46 2 x0), (3, .ptr 0 0), (4, .bool false), (5, .bool y1), (32, .bool s72)], [.box (encSt33 x1)])) s72 ?_ ?_
  ·refine kR ?_
   refine kC 1 [0,3,4,5,10] ?_
   obtain ⟨y77, hy78, h79⟩ := bindS hy74
   refine kA 11 (exergueref12_Short_ok hy78) ?_
   refine RJ.seg 2 [0, 3, 4, 5, 13] (L2 := [(0, lsv encSt46 2 x0), (3, .ptr 0 0), (4, .bool false), (5, .bool y1), (13, .bool (!y77))]) (H2 := [.box (encSt33 x1)]) (by kernel_rfl) ?_
   refine kB 13 h79 (fun h81 => ?_) (fun h82 => ?_)
   ·refine kC 19 [0,3,4,5,32] ?_
    refine kE ?_
    obtain rfl := oi h81
    exact kN [0, 3, 4, 5, 32]
   ·refine kC 1 [0,3,4,5,13,14] ?_
    obtain ⟨y83, hy84, h85⟩ := bindS h82
    refine kA 15 (exergueref12_Right_ok hy84) ?_
    refine kC 3 [0,3,4,5,18] ?_
    refine kB 18 h85 (fun h87 => ?_) (fun h88 => ?_)
    ·refine kC 14 [0,3,4,5,32] ?_
     refine kE ?_
     obtain rfl := oi h87
     exact kN [0, 3, 4, 5, 32]
    ·refine kC 10 [0,3,4,5,28] ?_
     refine kB 28 h88 (fun h90 => ?_) (fun h91 => ?_)
     ·refine RJ.seg 4 [0, 3, 4, 5, 32] (L2 := [(0, lsv encSt46 2 x0), (3, .ptr 0 0), (4, .bool false), (5, .bool y1), (32, .bool true)]) (H2 := [.box (encSt33 x1)]) (by kernel_rfl) ?_
      refine kE ?_
      obtain rfl := oi h90
      exact kN [0, 3, 4, 5, 32]
     ·refine RJ.seg 1 [0, 3, 4, 5, 28, 29] (L2 := [(0, lsv encSt46 2 x0), (3, .ptr 0 0), (4, .bool false), (5, .bool y1), (28, .bool false), (29, .agg (encSt33 x1))]) (H2 := [.box (encSt33 x1)]) (by kernel_rfl) ?_
      obtain ⟨y92, hy93, h94⟩ := bindS h91
      refine kA 30 (exergueref07_Right_ok hy93) ?_
      refine kC 2 [0,3,4,5,32] ?_
      refine kE ?_
      obtain rfl := oi h94
      exact kN [0, 3, 4, 5, 32]
  ·refine kBJ 32 h76 (fun h96 => ?_) (fun h97 => ?_)
   ·refine kT ?_
    refine kSR ?_
    refine kC 2 [0,3,4,5] ?_
    refine kEN ?_
    refine kX ?_
    obtain rfl := oi h96
    have h98 := joinX_inr h52
    refine PJ.cutXr (fun e => nomatch e) ?_
    obtain rfl := oi h98
    exact kZ hFn hFH hFD
   ·refine kF ?_
    refine kK ?_
    obtain rfl := oi h97
    exact PJ.cutXl [0, 3, 4, 5] (by kernel_rfl) (by kernel_rfl)
 ·subst hs
  have h53 := joinX_inl h52
  refine kSR ?_
  refine kC 2 [0,3,4,5,34,35] ?_
  obtain ⟨y99, hy100, h101⟩ := bindS h53
  refine kA 36 (plur_Of_ok hy100) ?_
  refine kC 1 [0,3,4,5,6] ?_
  refine kEN ?_
  obtain ⟨y1342, hy1343, h1344⟩ := bindS h101
  refine K.cutX (by kernel_rfl) (fun (s1341 : Unit) => ([(4, .bool false), (5, .bool y1), (6, .int .i64 y99)], [])) y1342 ?_ (fun s1341 hs => ?_)
  ·refine kSR ?_
   refine kC 1 [0,3,4,5,6,7] ?_
   refine kEN ?_
   refine K.block 0 (by kernel_rfl) ?_
   refine K.loop (by kernel_rfl) (fun (s1346 : Int) => ([(0, lsv encSt46 2 x0), (3, .ptr 0 0), (4, .bool false), (5, .bool y1), (6, .int .i64 y99), (7, .int .i64 s1346)], [.box (encSt33 x1)])) hy1343 [0, 3, 4, 5, 6, 7] (by kernel_rfl) (by kernel_rfl) (fun s1346 x2172 hs2171 => ?_)
   refine kS ?_
   refine kSR ?_
   refine kC 4 [0,3,4,5,6,7,40] ?_
   refine kEN ?_
   refine kBJ 40 hs2171 (fun h2174 => ?_) (fun h2175 => ?_)
   ·refine kT ?_
    refine kK ?_
    refine PJ.next ?_
    obtain ⟨y2378, hy2379, h2380⟩ := bindS h2174
    refine K.cutX (by kernel_rfl) (fun (s2377 : Unit) => ([(0, lsv encSt46 2 x0), (3, .ptr 0 0), (4, .bool false), (5, .bool y1), (6, .int .i64 y99), (7, .int .i64 s1346)], [.box (encSt33 x1)])) y2378 ?_ (fun s2377 hs => ?_)
    ·refine K.block 1 (by kernel_rfl) ?_
     refine kS ?_
     refine J.keep [0, 3, 4, 5, 6, 7] (L2 := [(0, lsv encSt46 2 x0), (3, .ptr 0 0), (4, .bool false), (5, .bool y1), (6, .int .i64 y99), (7, .int .i64 s1346)]) (by kernel_rfl) ?_
     refine K.draw (by kernel_rfl) (by kernel_rfl) (by kernel_rfl) (H2 := [.box (encSt33 x1), .res]) (by kernel_rfl) (n := 1) (by kernel_rfl) ?_
     refine kD 4 ?_
     obtain ⟨hm, h2382⟩ := asrt hy2379
     refine RJ.rel (d := (some 47)) (ef := ⟨.lst (((IntKind.wrap .i64 (s1346 + 1)) : Int).toNat - (s1346 : Int).toNat) 2 (((x0.flatMap encSt46).take (((IntKind.wrap .i64 (s1346 + 1)) : Int).toNat * 2)).drop ((s1346 : Int).toNat * 2)), [], []⟩) (ef' := ⟨.lst (cut x0 s1346 (IntKind.wrap .i64 (s1346 + 1))).length 2 ((cut x0 s1346 (IntKind.wrap .i64 (s1346 + 1))).flatMap encSt46), [], []⟩) (c := inS s1346 (IntKind.wrap .i64 (s1346 + 1)) x0.length) (tr2 := [([], []), ([], []), ([], []), ([], []), ([], [])]) (H2 := [.box (encSt33 x1), .res]) (by kernel_rfl) hm (fun hc => N.slice encSt46_len hc) (by kernel_rfl) ?_
     refine kD 1 ?_
     obtain ⟨y2383, hy2384, h2385⟩ := bindS h2382
     refine RJ.call0 (d := (some 49)) (f := 21) (args := [lsv encSt46 2 ((cut x0 s1346 (IntKind.wrap .i64 (s1346 + 1)))), .agg (encSt33 x1)]) (v := .int .i64 y2383) (tr2 := [([], []), ([], []), ([], []), ([], []), ([], []), ([0, 1], []), ([], [2, 3])]) (by kernel_rfl) (by kernel_rfl) (.cons (Le.refl _) (.cons (Le.refl _) .nil)) (plur_Of_ok hy2384) (by kernel_rfl) ?_
     refine RJ.segD 1 (tr2 := [([], []), ([], []), ([], []), ([], []), ([], []), ([0, 1], []), ([], [2, 3]), ([], [])]) (L2 := [(8, .int .i64 y2383), (49, .int .i64 y2383), (48, .agg (encSt33 x1)), (47, lsv encSt46 2 ((cut x0 s1346 (IntKind.wrap .i64 (s1346 + 1))))), (46, .int .i64 (IntKind.wrap .i64 (s1346 + 1))), (45, .int .i64 s1346), (44, .int .i64 s1346), (43, lsv encSt46 2 x0), (0, lsv encSt46 2 x0), (3, .ptr 0 0), (4, .bool false), (5, .bool y1), (6, .int .i64 y99), (7, .int .i64 s1346)]) (H2 := [.box (encSt33 x1), .res]) (by kernel_rfl) ?_
     refine kEN ?_
     obtain ⟨y2474, hy2475, h2476⟩ := bindS h2385
     refine K.cutX (by kernel_rfl) (fun (s2473 : Unit) => ([(0, lsv encSt46 2 x0), (3, .ptr 0 0), (4, .bool false), (5, .bool y1), (6, .int .i64 y99), (7, .int .i64 s1346), (8, .int .i64 y2383)], [.box (encSt33 x1)])) y2474 ?_ (fun s2473 hs => ?_)
     ·obtain ⟨s2515, hy2517, h2519⟩ := bindS hy2475
      refine K.cutN (by kernel_rfl) (fun (s2515 : Bool) => ([(0, lsv encSt46 2 x0), (3, .ptr 0 0), (4, .bool false), (5, .bool y1), (6, .int .i64 y99), (7, .int .i64 s1346), (8, .int .i64 y2383), (87, .bool s2515)], [.box (encSt33 x1)])) s2515 ?_ ?_
      ·refine kR ?_
       refine kC 3 [0,3,4,5,6,7,8,52] ?_
       refine kB 52 hy2517 (fun h2521 => ?_) (fun h2522 => ?_)
       ·refine kC 3 [0,3,4,5,6,7,8,52,53,54,55] ?_
        obtain ⟨hm, h2523⟩ := asrt h2521
        refine kI 56 encSt46_len hm ?_
        refine kC 5 [0,3,4,5,6,7,8,61] ?_
        refine kB 61 h2523 (fun h2525 => ?_) (fun h2526 => ?_)
        ·refine RJ.seg 26 [0, 3, 4, 5, 6, 7, 8, 87] (L2 := [(0, lsv encSt46 2 x0), (3, .ptr 0 0), (4, .bool false), (5, .bool y1), (6, .int .i64 y99), (7, .int .i64 s1346), (8, .int .i64 y2383), (87, .bool true)]) (H2 := [.box (encSt33 x1), .res]) (by kernel_rfl) ?_
         refine kE ?_
         obtain rfl := oi h2525
         refine PJ.wk (Wk.sel (L2 := [(0, lsv encSt46 2 x0), (3, .ptr 0 0), (4, .bool false), (5, .bool y1), (6, .int .i64 y99), (7, .int .i64 s1346), (8, .int .i64 y2383), (87, .bool true)]) (H2 := [.box (encSt33 x1)]) 0 (by rw [hFH]; rfl) hFD [0] (by kernel_rfl) (by kernel_rfl) (by decide) (by kernel_rfl) (by kernel_rfl) (by kernel_rfl) (by kernel_rfl)) ?_
         exact kN [0, 3, 4, 5, 6, 7, 8, 87]
        ·refine RJ.seg 3 [0, 3, 4, 5, 6, 7, 8, 61, 64] (L2 := [(0, lsv encSt46 2 x0), (3, .ptr 0 0), (4, .bool false), (5, .bool y1), (6, .int .i64 y99), (7, .int .i64 s1346), (8, .int .i64 y2383), (61, .bool false), (64, .bool (decide (¬ y2383 = 0)))]) (H2 := [.box (encSt33 x1), .res]) (by kernel_rfl) ?_
         refine kB 64 h2526 (fun h2528 => ?_) (fun h2529 => ?_)
         ·refine kC 2 [0,3,4,5,6,7,8,61,64,65,66] ?_
          obtain ⟨hm, h2530⟩ := asrt h2528
          refine kI 67 encSt46_len hm ?_
          refine kC 7 [0,3,4,5,6,7,8,74] ?_
          refine kB 74 h2530 (fun h2532 => ?_) (fun h2533 => ?_)
          ·refine kC 13 [0,3,4,5,6,7,8,87] ?_
           refine kE ?_
           obtain rfl := oi h2532
           refine PJ.wk (Wk.sel (L2 := [(0, lsv encSt46 2 x0), (3, .ptr 0 0), (4, .bool false), (5, .bool y1), (6, .int .i64 y99), (7, .int .i64 s1346), (8, .int .i64 y2383), (87, .bool true)]) (H2 := [.box (encSt33 x1)]) 0 (by rw [hFH]; rfl) hFD [0] (by kernel_rfl) (by kernel_rfl) (by decide) (by kernel_rfl) (by kernel_rfl) (by kernel_rfl) (by kernel_rfl)) ?_
           exact kN [0, 3, 4, 5, 6, 7, 8, 87]
          ·refine kC 2 [0,3,4,5,6,7,8,74,75,76] ?_
           obtain ⟨hm, h2534⟩ := asrt h2533
           refine kI 77 encSt46_len hm ?_
           refine RJ.seg 5 [0, 3, 4, 5, 6, 7, 8, 74, 82] (L2 := [(0, lsv encSt46 2 x0), (3, .ptr 0 0), (4, .bool false), (5, .bool y1), (6, .int .i64 y99), (7, .int .i64 s1346), (8, .int .i64 y2383), (74, .bool false), (82, .bool ((decide (((nth x0 s1346).Cat_) = y99))))]) (H2 := [.box (encSt33 x1), .res]) (by kernel_rfl) ?_
           refine kB 82 h2534 (fun h2536 => ?_) (fun h2537 => ?_)
           ·refine kC 5 [0,3,4,5,6,7,8,87] ?_
            refine kE ?_
            obtain rfl := oi h2536
            refine PJ.wk (Wk.sel (L2 := [(0, lsv encSt46 2 x0), (3, .ptr 0 0), (4, .bool false), (5, .bool y1), (6, .int .i64 y99), (7, .int .i64 s1346), (8, .int .i64 y2383), (87, .bool (decide (¬ y2383 = y99)))]) (H2 := [.box (encSt33 x1)]) 0 (by rw [hFH]; rfl) hFD [0] (by kernel_rfl) (by kernel_rfl) (by decide) (by kernel_rfl) (by kernel_rfl) (by kernel_rfl) (by kernel_rfl)) ?_
            exact kN [0, 3, 4, 5, 6, 7, 8, 87]
           ·refine kC 5 [0,3,4,5,6,7,8,87] ?_
            refine kE ?_
            obtain rfl := oi h2537
            refine PJ.wk (Wk.sel (L2 := [(0, lsv encSt46 2 x0), (3, .ptr 0 0), (4, .bool false), (5, .bool y1), (6, .int .i64 y99), (7, .int .i64 s1346), (8, .int .i64 y2383), (87, .bool false)]) (H2 := [.box (encSt33 x1)]) 0 (by rw [hFH]; rfl) hFD [0] (by kernel_rfl) (by kernel_rfl) (by decide) (by kernel_rfl) (by kernel_rfl) (by kernel_rfl) (by kernel_rfl)) ?_
            exact kN [0, 3, 4, 5, 6, 7, 8, 87]
         ·refine kC 12 [0,3,4,5,6,7,8,74,75,76] ?_
          obtain ⟨hm, h2538⟩ := asrt h2529
          refine kI 77 encSt46_len hm ?_
          refine kC 5 [0,3,4,5,6,7,8,74,82] ?_
          refine kB 82 h2538 (fun h2540 => ?_) (fun h2541 => ?_)
          ·refine kC 5 [0,3,4,5,6,7,8,87] ?_
           refine kE ?_
           obtain rfl := oi h2540
           refine PJ.wk (Wk.sel (L2 := [(0, lsv encSt46 2 x0), (3, .ptr 0 0), (4, .bool false), (5, .bool y1), (6, .int .i64 y99), (7, .int .i64 s1346), (8, .int .i64 y2383), (87, .bool (decide (¬ y2383 = y99)))]) (H2 := [.box (encSt33 x1)]) 0 (by rw [hFH]; rfl) hFD [0] (by kernel_rfl) (by kernel_rfl) (by decide) (by kernel_rfl) (by kernel_rfl) (by kernel_rfl) (by kernel_rfl)) ?_
           exact kN [0, 3, 4, 5, 6, 7, 8, 87]
          ·refine kC 5 [0,3,4,5,6,7,8,87] ?_
           refine kE ?_
           obtain rfl := oi h2541
           refine PJ.wk (Wk.sel (L2 := [(0, lsv encSt46 2 x0), (3, .ptr 0 0), (4, .bool false), (5, .bool y1), (6, .int .i64 y99), (7, .int .i64 s1346), (8, .int .i64 y2383), (87, .bool false)]) (H2 := [.box (encSt33 x1)]) 0 (by rw [hFH]; rfl) hFD [0] (by kernel_rfl) (by kernel_rfl) (by decide) (by kernel_rfl) (by kernel_rfl) (by kernel_rfl) (by kernel_rfl)) ?_
           exact kN [0, 3, 4, 5, 6, 7, 8, 87]
       ·refine kC 12 [0,3,4,5,6,7,8,61,64] ?_
        refine kB 64 h2522 (fun h2543 => ?_) (fun h2544 => ?_)
        ·refine kC 2 [0,3,4,5,6,7,8,61,64,65,66] ?_
         obtain ⟨hm, h2545⟩ := asrt h2543
         refine kI 67 encSt46_len hm ?_
         refine RJ.seg 7 [0, 3, 4, 5, 6, 7, 8, 74] (L2 := [(0, lsv encSt46 2 x0), (3, .ptr 0 0), (4, .bool false), (5, .bool y1), (6, .int .i64 y99), (7, .int .i64 s1346), (8, .int .i64 y2383), (74, .bool ((decide (((nth x0 s1346).Cat_) < y99))))]) (H2 := [.box (encSt33 x1), .res]) (by kernel_rfl) ?_
         refine kB 74 h2545 (fun h2547 => ?_) (fun h2548 => ?_)
         ·refine kC 13 [0,3,4,5,6,7,8,87] ?_
          refine kE ?_
          obtain rfl := oi h2547
          refine PJ.wk (Wk.sel (L2 := [(0, lsv encSt46 2 x0), (3, .ptr 0 0), (4, .bool false), (5, .bool y1), (6, .int .i64 y99), (7, .int .i64 s1346), (8, .int .i64 y2383), (87, .bool true)]) (H2 := [.box (encSt33 x1)]) 0 (by rw [hFH]; rfl) hFD [0] (by kernel_rfl) (by kernel_rfl) (by decide) (by kernel_rfl) (by kernel_rfl) (by kernel_rfl) (by kernel_rfl)) ?_
          exact kN [0, 3, 4, 5, 6, 7, 8, 87]
         ·refine kC 2 [0,3,4,5,6,7,8,74,75,76] ?_
          obtain ⟨hm, h2549⟩ := asrt h2548
          refine kI 77 encSt46_len hm ?_
          refine kC 5 [0,3,4,5,6,7,8,74,82] ?_
          refine kB 82 h2549 (fun h2551 => ?_) (fun h2552 => ?_)
          ·refine kC 5 [0,3,4,5,6,7,8,87] ?_
           refine kE ?_
           obtain rfl := oi h2551
           refine PJ.wk (Wk.sel (L2 := [(0, lsv encSt46 2 x0), (3, .ptr 0 0), (4, .bool false), (5, .bool y1), (6, .int .i64 y99), (7, .int .i64 s1346), (8, .int .i64 y2383), (87, .bool (decide (¬ y2383 = y99)))]) (H2 := [.box (encSt33 x1)]) 0 (by rw [hFH]; rfl) hFD [0] (by kernel_rfl) (by kernel_rfl) (by decide) (by kernel_rfl) (by kernel_rfl) (by kernel_rfl) (by kernel_rfl)) ?_
           exact kN [0, 3, 4, 5, 6, 7, 8, 87]
          ·refine kC 5 [0,3,4,5,6,7,8,87] ?_
           refine kE ?_
           obtain rfl := oi h2552
           refine PJ.wk (Wk.sel (L2 := [(0, lsv encSt46 2 x0), (3, .ptr 0 0), (4, .bool false), (5, .bool y1), (6, .int .i64 y99), (7, .int .i64 s1346), (8, .int .i64 y2383), (87, .bool false)]) (H2 := [.box (encSt33 x1)]) 0 (by rw [hFH]; rfl) hFD [0] (by kernel_rfl) (by kernel_rfl) (by decide) (by kernel_rfl) (by kernel_rfl) (by kernel_rfl) (by kernel_rfl)) ?_
           exact kN [0, 3, 4, 5, 6, 7, 8, 87]
        ·refine kC 12 [0,3,4,5,6,7,8,74,75,76] ?_
         obtain ⟨hm, h2553⟩ := asrt h2544
         refine kI 77 encSt46_len hm ?_
         refine RJ.seg 5 [0, 3, 4, 5, 6, 7, 8, 74, 82] (L2 := [(0, lsv encSt46 2 x0), (3, .ptr 0 0), (4, .bool false), (5, .bool y1), (6, .int .i64 y99), (7, .int .i64 s1346), (8, .int .i64 y2383), (74, .bool false), (82, .bool ((decide (((nth x0 s1346).Cat_) = y99))))]) (H2 := [.box (encSt33 x1), .res]) (by kernel_rfl) ?_
         refine kB 82 h2553 (fun h2555 => ?_) (fun h2556 => ?_)
         ·refine kC 5 [0,3,4,5,6,7,8,87] ?_
          refine kE ?_
          obtain rfl := oi h2555
          refine PJ.wk (Wk.sel (L2 := [(0, lsv encSt46 2 x0), (3, .ptr 0 0), (4, .bool false), (5, .bool y1), (6, .int .i64 y99), (7, .int .i64 s1346), (8, .int .i64 y2383), (87, .bool (decide (¬ y2383 = y99)))]) (H2 := [.box (encSt33 x1)]) 0 (by rw [hFH]; rfl) hFD [0] (by kernel_rfl) (by kernel_rfl) (by decide) (by kernel_rfl) (by kernel_rfl) (by kernel_rfl) (by kernel_rfl)) ?_
          exact kN [0, 3, 4, 5, 6, 7, 8, 87]
         ·refine kC 5 [0,3,4,5,6,7,8,87] ?_
          refine kE ?_
          obtain rfl := oi h2556
          refine PJ.wk (Wk.sel (L2 := [(0, lsv encSt46 2 x0), (3, .ptr 0 0), (4, .bool false), (5, .bool y1), (6, .int .i64 y99), (7, .int .i64 s1346), (8, .int .i64 y2383), (87, .bool false)]) (H2 := [.box (encSt33 x1)]) 0 (by rw [hFH]; rfl) hFD [0] (by kernel_rfl) (by kernel_rfl) (by decide) (by kernel_rfl) (by kernel_rfl) (by kernel_rfl) (by kernel_rfl)) ?_
          exact kN [0, 3, 4, 5, 6, 7, 8, 87]
      ·refine kBJ 87 h2519 (fun h2558 => ?_) (fun h2559 => ?_)
       ·refine kT ?_
        refine kSR ?_
        refine kC 1 [0,3,4,5,6,7,8] ?_
        refine kEN ?_
        refine kX ?_
        obtain rfl := oi h2558
        have h2560 := joinX_inr h2476
        refine PJ.cutXr (fun e => nomatch e) ?_
        refine PJ.blockRet ?_
        obtain rfl := oi h2560
        have h2561 := joinX_inr h2380
        refine PJ.cutXr (fun e => nomatch e) ?_
        obtain rfl := oi h2561
        refine PJ.loopOut (fun e => nomatch e) (fun he2564 => ?_)
        have h2562 := congrArg some he2564
        refine PJ.blockRet ?_
        obtain rfl := oi h2562
        have h2563 := joinX_inr h1344
        refine PJ.cutXr (fun e => nomatch e) ?_
        obtain rfl := oi h2563
        exact kZ hFn hFH hFD
       ·refine kF ?_
        refine kK ?_
        obtain rfl := oi h2559
        exact PJ.cutXl [0, 3, 4, 5, 6, 7, 8] (by kernel_rfl) (by kernel_rfl)
     ·subst hs
      have h2477 := joinX_inl h2476
      obtain ⟨s2568, hy2570, h2572⟩ := bindS h2477
      refine K.cutN (by kernel_rfl) (fun (s2568 : Bool) => ([(0, lsv encSt46 2 x0), (3, .ptr 0 0), (4, .bool false), (5, .bool y1), (6, .int .i64 y99), (7, .int .i64 s1346), (93, .bool s2568)], [.box (encSt33 x1)])) s2568 ?_ ?_
      ·refine kR ?_
       refine kC 3 [0,3,4,5,6,7,90] ?_
       refine kB 90 hy2570 (fun h2574 => ?_) (fun h2575 => ?_)
       ·refine kC 3 [0,3,4,5,6,7,93] ?_
        refine kE ?_
        obtain rfl := oi h2574
        exact kN [0, 3, 4, 5, 6, 7, 93]
       ·refine kC 3 [0,3,4,5,6,7,93] ?_
        refine kE ?_
        obtain rfl := oi h2575
        exact kN [0, 3, 4, 5, 6, 7, 93]
      ·refine kBJ 93 h2572 (fun h2577 => ?_) (fun h2578 => ?_)
       ·refine kT ?_
        refine kSR ?_
        refine kC 1 [0,3,4,5,6,7] ?_
        refine kEN ?_
        refine kX ?_
        refine PJ.blockRet ?_
        obtain rfl := oi h2577
        have h2579 := joinX_inr h2380
        refine PJ.cutXr (fun e => nomatch e) ?_
        obtain rfl := oi h2579
        refine PJ.loopOut (fun e => nomatch e) (fun he2582 => ?_)
        have h2580 := congrArg some he2582
        refine PJ.blockRet ?_
        obtain rfl := oi h2580
        have h2581 := joinX_inr h1344
        refine PJ.cutXr (fun e => nomatch e) ?_
        obtain rfl := oi h2581
        exact kZ hFn hFH hFD
       ·refine kF ?_
        refine kK ?_
        refine PJ.blockNormal ?_
        obtain rfl := oi h2578
        exact PJ.cutXl [0, 3, 4, 5, 6, 7] (by kernel_rfl) (by kernel_rfl)
    ·subst hs
     have h2381 := joinX_inl h2380
     refine kR ?_
     refine kC 3 [0,3,4,5,6,7] ?_
     refine kE ?_
     obtain rfl := oi h2381
     exact PJ.loopNext [0, 3, 4, 5, 6, 7] (by kernel_rfl) (by kernel_rfl)
   ·refine kF ?_
    refine K.exit 0 (by kernel_rfl) ?_
    refine PJ.passExit ?_
    obtain rfl := oi h2175
    refine PJ.loopOut (fun e => nomatch e) (fun he2584 => ?_)
    have h2583 := congrArg some he2584
    refine PJ.blockOut ?_
    obtain rfl := oi h2583
    refine PJ.wk (Wk.sel (L2 := [(4, .bool false), (5, .bool y1), (6, .int .i64 y99)]) (H2 := []) 0 (by rw [hFH]; rfl) hFD [] (by kernel_rfl) (by kernel_rfl) (by decide) (by kernel_rfl) (by kernel_rfl) (by kernel_rfl) (by kernel_rfl)) ?_
    exact PJ.cutXl [4, 5, 6] (by kernel_rfl) (by kernel_rfl)
  ·subst hs
   have h1345 := joinX_inl h1344
   obtain ⟨s2591, hy2593, h2595⟩ := bindS h1345
   refine K.cutN (by kernel_rfl) (fun (s2591 : Bool) => ([(4, .bool s2591)], [])) s2591 ?_ ?_
   ·refine kR ?_
    refine kC 2 [4,6,95] ?_
    refine kB 95 hy2593 (fun h2597 => ?_) (fun h2598 => ?_)
    ·refine kC 4 [4,6,99] ?_
     refine kB 99 h2597 (fun h2600 => ?_) (fun h2601 => ?_)
     ·refine kC 4 [4] ?_
      refine kE ?_
      obtain rfl := oi h2600
      exact kN [4]
     ·refine kC 4 [4] ?_
      refine kE ?_
      obtain rfl := oi h2601
      exact kN [4]
    ·refine kC 8 [4] ?_
     refine kE ?_
     obtain rfl := oi h2598
     exact kN [4]
   ·refine kX ?_
    obtain rfl := oi h2595
    exact kZ hFn hFH hFD
end Go.Proofs.YteaokhdkocddcaaGreatDoor
