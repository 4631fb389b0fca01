/-
  What the functions of this program come to, as functions of natives, each with the proof that it does. No conditions.
-/
import Derived.Test.YthpnbgbignjlpaaGreatDoorProg
import Derived.Test.YthpnbgbignjlpaaGreatDoorSySL
import Derived.Test.YthpnbgbignjlpaaGreatDoorGb
namespace Go.Proofs.YthpnbgbignjlpaaGreatDoor
open Go Go.Sy Go.RowKit
set_option linter.unusedVariables false
set_option linter.unusedSimpArgs false
set_option maxRecDepth 100000
set_option maxHeartbeats 4000000
def exergueref11_Text (x0 : List (List St39)) : Option (List UInt8) :=
 (Option.bind (loopN (fun (s9657 : (List UInt8) × Int) => (bif (decide (s9657.2 < (x0.length : Int))) then (Option.bind (Option.bind (bif (decide (s9657.2 > 0)) then (bif room (s9657.1.length + ([32, 111, 114, 32] : List UInt8).length) then (some (s9657.1 ++ ([32, 111, 114, 32] : List UInt8))) else none) else (some s9657.1)) fun (s17707 : (List UInt8)) => (loopN (fun (s17716 : (List UInt8) × Int) => (bif inR s9657.2 x0.length then (bif (decide (s17716.2 < ((nth x0 s9657.2).length : Int))) then (Option.bind (bif inR s9657.2 x0.length then (bif inR s17716.2 (nth x0 s9657.2).length then (Option.bind (bif (decide (s17716.2 > 0)) then (bif room (s17716.1.length + ([32, 97, 110, 100, 32] : List UInt8).length) then (some (s17716.1 ++ ([32, 97, 110, 100, 32] : List UInt8))) else none) else (some s17716.1)) fun (s19051 : (List UInt8)) => (bif room (s19051.length + ((bytesS (([(nth (nth x0 s9657.2) s17716.2).Op_] : List Int)))).length) then (Option.bind (bif (decide (¬ ((nth (nth x0 s9657.2) s17716.2).Mod_) = 0)) then (bif room (((s19051 ++ ((bytesS (([(nth (nth x0 s9657.2) s17716.2).Op_] : List Int)))))).length + ([32, 37, 32] : List UInt8).length) then (Option.bind (exergueref05_Number big ((nth (nth x0 s9657.2) s17716.2).Mod_)) fun y19078 => (bif room (((((s19051 ++ ((bytesS (([(nth (nth x0 s9657.2) s17716.2).Op_] : List Int)))))) ++ ([32, 37, 32] : List UInt8))).length + y19078.length) then (some ((((((s19051 ++ ((bytesS (([(nth (nth x0 s9657.2) s17716.2).Op_] : List Int)))))) ++ ([32, 37, 32] : List UInt8))) ++ y19078))) else none)) else none) else (some ((s19051 ++ ((bytesS (([(nth (nth x0 s9657.2) s17716.2).Op_] : List Int)))))))) fun (s19069 : (List UInt8)) => (Option.bind (bif (nth (nth x0 s9657.2) s17716.2).Not_ then (bif room (s19069.length + ([32, 33, 61, 32] : List UInt8).length) then (some (s19069 ++ ([32, 33, 61, 32] : List UInt8))) else none) else (bif room (s19069.length + ([32, 61, 32] : List UInt8).length) then (some (s19069 ++ ([32, 61, 32] : List UInt8))) else none)) fun (s19087 : (List UInt8)) => (loopN (fun (s19097 : (List UInt8) × Int) => (bif (decide (s19097.2 < ((((nth (nth x0 s9657.2) s17716.2).R_).length : Int)))) then (Option.bind (Option.bind (bif (decide (s19097.2 > 0)) then (bif room (s19097.1.length + ([44] : List UInt8).length) then (some (s19097.1 ++ ([44] : List UInt8))) else none) else (some s19097.1)) fun (s19277 : (List UInt8)) => (bif inR s19097.2 ((nth (nth x0 s9657.2) s17716.2).R_).length then (Option.bind (exergueref05_Number big ((nth ((nth (nth x0 s9657.2) s17716.2).R_) s19097.2).a0_)) fun y19287 => (bif room (s19277.length + y19287.length) then (bif inR s19097.2 ((nth (nth x0 s9657.2) s17716.2).R_).length then (bif inR s19097.2 ((nth (nth x0 s9657.2) s17716.2).R_).length then (bif (decide (¬ ((nth ((nth (nth x0 s9657.2) s17716.2).R_) s19097.2).a1_) = ((nth ((nth (nth x0 s9657.2) s17716.2).R_) s19097.2).a0_))) then (bif room ((s19277 ++ y19287).length + ([46, 46] : List UInt8).length) then (bif inR s19097.2 ((nth (nth x0 s9657.2) s17716.2).R_).length then (Option.bind (exergueref05_Number big ((nth ((nth (nth x0 s9657.2) s17716.2).R_) s19097.2).a1_)) fun y19298 => (bif room (((s19277 ++ y19287) ++ ([46, 46] : List UInt8)).length + y19298.length) then (some ((((s19277 ++ y19287) ++ ([46, 46] : List UInt8)) ++ y19298))) else none)) else none) else none) else (some (s19277 ++ y19287))) else none) else none) else none)) else none)) fun (s19268 : (List UInt8)) => (some (.inl (s19268, (IntKind.wrap .i64 (s19097.2 + 1)))))) else (some (.inr s19097.1)))) big (s19087, 0)))) else none)) else none) else none) fun (s19040 : (List UInt8)) => (some (.inl (s19040, (IntKind.wrap .i64 (s17716.2 + 1)))))) else (some (.inr s17716.1))) else none)) big (s17707, 0))) fun (s17698 : (List UInt8)) => (some (.inl (s17698, (IntKind.wrap .i64 (s9657.2 + 1)))))) else (some (.inr s9657.1)))) big (([] : List UInt8), 0)) fun (s9652 : (List UInt8)) => (some s9652))
theorem exergueref11_Text_ok {x0 : List (List St39)} {r : List UInt8} (h : exergueref11_Text x0 = some r) : SC Tryz.prog 11 [lsv (encL encSt39 4) 1 x0] [] (.str r) [] := by
 refine kFn (fn := Tryz.f11) (fun F hFn hFH hFD => ?_)
 unfold exergueref11_Text at h
 refine kSR ?_
 refine kC 1 [0,2] ?_
 refine kEN ?_
 refine kSR ?_
 refine kC 1 [0,2,3] ?_
 refine kEN ?_
 obtain ⟨s9652, hy9654, h9656⟩ := bindS h
 refine K.cutN (by kernel_rfl) (fun (s9652 : (List UInt8)) => ([(2, .str ([] : List UInt8)), (3, .str s9652)], [])) s9652 ?_ ?_
 ·refine kSR ?_
  refine kC 1 [0,2,3,4] ?_
  refine kEN ?_
  refine K.block 0 (by kernel_rfl) ?_
  refine K.loop (by kernel_rfl) (fun (s9657 : (List UInt8) × Int) => ([(0, lsv (encL encSt39 4) 1 x0), (2, .str ([] : List UInt8)), (3, .str s9657.1), (4, .int .i64 s9657.2)], [])) hy9654 [0, 2, 3, 4] (by kernel_rfl) (by kernel_rfl) (fun s9657 x16091 hs16090 => ?_)
  refine kS ?_
  refine kSR ?_
  refine kC 4 [0,2,3,4,11] ?_
  refine kEN ?_
  refine J.caseB 11 (b := (decide (s9657.2 < (x0.length : Int)))) (by kernel_rfl) (fun hb16092 => ?_) (fun hb16092 => ?_)
  ·have h16093 := condT hb16092 hs16090
   refine kT ?_
   refine kK ?_
   refine PJ.next ?_
   obtain ⟨s17698, hy17700, h17702⟩ := bindS h16093
   refine K.cutN (by kernel_rfl) (fun (s17698 : (List UInt8)) => ([(0, lsv (encL encSt39 4) 1 x0), (2, .str ([] : List UInt8)), (3, .str s17698), (4, .int .i64 s9657.2)], [])) s17698 ?_ ?_
   ·refine K.block 1 (by kernel_rfl) ?_
    obtain ⟨s17707, hy17709, h17711⟩ := bindS hy17700
    refine K.cutN (by kernel_rfl) (fun (s17707 : (List UInt8)) => ([(0, lsv (encL encSt39 4) 1 x0), (2, .str ([] : List UInt8)), (3, .str s17707), (4, .int .i64 s9657.2)], [])) s17707 ?_ ?_
    ·refine kSR ?_
     refine kC 2 [0,2,3,4,15] ?_
     refine kEN ?_
     refine J.caseB 15 (b := (decide (s9657.2 > 0))) (by kernel_rfl) (fun hb17712 => ?_) (fun hb17712 => ?_)
     ·have h17713 := condT hb17712 hy17709
      refine kT ?_
      refine kR ?_
      refine kC 1 [0,2,3,4,16] ?_
      obtain ⟨hm, h17715⟩ := asrt h17713
      refine RJ.rel (d := (some 17)) (ef := ⟨.str (s9657.1 ++ ([32, 111, 114, 32] : List UInt8)), [], []⟩) (ef' := ⟨.str (s9657.1 ++ ([32, 111, 114, 32] : List UInt8)), [], []⟩) (c := room (s9657.1.length + ([32, 111, 114, 32] : List UInt8).length)) (tr2 := []) (H2 := []) (by kernel_rfl) hm (fun hc => rfl) (by kernel_rfl) ?_
      refine RJ.seg 1 [0, 2, 3, 4] (L2 := [(0, lsv (encL encSt39 4) 1 x0), (2, .str ([] : List UInt8)), (3, .str (s9657.1 ++ ([32, 111, 114, 32] : List UInt8))), (4, .int .i64 s9657.2)]) (H2 := []) (by kernel_rfl) ?_
      refine kE ?_
      obtain rfl := oi h17715
      exact kN [0, 2, 3, 4]
     ·have h17714 := condF hb17712 hy17709
      refine kF ?_
      refine kK ?_
      obtain rfl := oi h17714
      exact kN [0, 2, 3, 4]
    ·refine kSR ?_
     refine kC 1 [0,2,3,4,5] ?_
     refine kEN ?_
     refine K.block 2 (by kernel_rfl) ?_
     refine K.loop (by kernel_rfl) (fun (s17716 : (List UInt8) × Int) => ([(0, lsv (encL encSt39 4) 1 x0), (2, .str ([] : List UInt8)), (3, .str s17716.1), (4, .int .i64 s9657.2), (5, .int .i64 s17716.2)], [])) h17711 [0, 2, 3, 4, 5] (by kernel_rfl) (by kernel_rfl) (fun s17716 x18776 hs18775 => ?_)
     refine kS ?_
     refine kSR ?_
     refine kC 3 [0,2,3,4,5,18,19,20] ?_
     obtain ⟨hm, h18777⟩ := asrt hs18775
     refine RJ.rel (d := (some 21)) (ef := ⟨.ep (((x0.flatMap (encL encSt39 4)).drop ((s9657.2 : Int).toNat * 1)).take 1), [], []⟩) (ef' := ⟨.ep ((encL encSt39 4) (nth x0 s9657.2)), [], []⟩) (c := inR s9657.2 x0.length) (tr2 := []) (H2 := []) (by kernel_rfl) hm (fun hc => N.idx (encL_len encSt39 4) hc) (by kernel_rfl) ?_
     refine kC 3 [0,2,3,4,5,24] ?_
     refine kEN ?_
     refine J.caseB 24 (b := (decide (s17716.2 < ((nth x0 s9657.2).length : Int)))) (by kernel_rfl) (fun hb18778 => ?_) (fun hb18778 => ?_)
     ·have h18779 := condT hb18778 h18777
      refine kT ?_
      refine kK ?_
      refine PJ.next ?_
      obtain ⟨s19040, hy19042, h19044⟩ := bindS h18779
      refine K.cutN (by kernel_rfl) (fun (s19040 : (List UInt8)) => ([(0, lsv (encL encSt39 4) 1 x0), (2, .str ([] : List UInt8)), (3, .str s19040), (4, .int .i64 s9657.2), (5, .int .i64 s17716.2)], [])) s19040 ?_ ?_
      ·refine K.block 3 (by kernel_rfl) ?_
       refine kSR ?_
       refine kC 2 [0,2,3,4,5,27,28] ?_
       obtain ⟨hm, h19045⟩ := asrt hy19042
       refine RJ.rel (d := (some 29)) (ef := ⟨.ep (((x0.flatMap (encL encSt39 4)).drop ((s9657.2 : Int).toNat * 1)).take 1), [], []⟩) (ef' := ⟨.ep ((encL encSt39 4) (nth x0 s9657.2)), [], []⟩) (c := inR s9657.2 x0.length) (tr2 := []) (H2 := []) (by kernel_rfl) hm (fun hc => N.idx (encL_len encSt39 4) hc) (by kernel_rfl) ?_
       refine RJ.seg 2 [0, 2, 3, 4, 5, 30, 31] (L2 := [(0, lsv (encL encSt39 4) 1 x0), (2, .str ([] : List UInt8)), (3, .str s17716.1), (4, .int .i64 s9657.2), (5, .int .i64 s17716.2), (30, lsv encSt39 4 (nth x0 s9657.2)), (31, .int .i64 s17716.2)]) (H2 := []) (by kernel_rfl) ?_
       obtain ⟨hm, h19046⟩ := asrt h19045
       refine RJ.rel (d := (some 32)) (ef := ⟨.ep ((((nth x0 s9657.2).flatMap encSt39).drop ((s17716.2 : Int).toNat * 4)).take 4), [], []⟩) (ef' := ⟨.ep (encSt39 (nth (nth x0 s9657.2) s17716.2)), [], []⟩) (c := inR s17716.2 (nth x0 s9657.2).length) (tr2 := []) (H2 := []) (by kernel_rfl) hm (fun hc => N.idx encSt39_len hc) (by kernel_rfl) ?_
       refine kC 3 [0,2,3,4,5,6] ?_
       refine kEN ?_
       obtain ⟨s19051, hy19053, h19055⟩ := bindS h19046
       refine K.cutN (by kernel_rfl) (fun (s19051 : (List UInt8)) => ([(0, lsv (encL encSt39 4) 1 x0), (2, .str ([] : List UInt8)), (3, .str s19051), (4, .int .i64 s9657.2), (5, .int .i64 s17716.2), (6, .ptr 0 0)], [.box [.int .u8 ((nth (nth x0 s9657.2) s17716.2).Op_), .int .i64 ((nth (nth x0 s9657.2) s17716.2).Mod_), .bool ((nth (nth x0 s9657.2) s17716.2).Not_), lsv encSt41 2 ((nth (nth x0 s9657.2) s17716.2).R_)]])) s19051 ?_ ?_
       ·refine kSR ?_
        refine kC 2 [0,2,3,4,5,6,35] ?_
        refine kEN ?_
        refine J.caseB 35 (b := (decide (s17716.2 > 0))) (by kernel_rfl) (fun hb19056 => ?_) (fun hb19056 => ?_)
        ·have h19057 := condT hb19056 hy19053
         refine kT ?_
         refine kR ?_
         refine kC 1 [0,2,3,4,5,6,36] ?_
         obtain ⟨hm, h19059⟩ := asrt h19057
         refine RJ.rel (d := (some 37)) (ef := ⟨.str (s17716.1 ++ ([32, 97, 110, 100, 32] : List UInt8)), [], []⟩) (ef' := ⟨.str (s17716.1 ++ ([32, 97, 110, 100, 32] : List UInt8)), [], []⟩) (c := room (s17716.1.length + ([32, 97, 110, 100, 32] : List UInt8).length)) (tr2 := []) (H2 := [.box [.int .u8 ((nth (nth x0 s9657.2) s17716.2).Op_), .int .i64 ((nth (nth x0 s9657.2) s17716.2).Mod_), .bool ((nth (nth x0 s9657.2) s17716.2).Not_), lsv encSt41 2 ((nth (nth x0 s9657.2) s17716.2).R_)]]) (by kernel_rfl) hm (fun hc => rfl) (by kernel_rfl) ?_
         refine RJ.seg 1 [0, 2, 3, 4, 5, 6] (L2 := [(0, lsv (encL encSt39 4) 1 x0), (2, .str ([] : List UInt8)), (3, .str (s17716.1 ++ ([32, 97, 110, 100, 32] : List UInt8))), (4, .int .i64 s9657.2), (5, .int .i64 s17716.2), (6, .ptr 0 0)]) (H2 := [.box [.int .u8 ((nth (nth x0 s9657.2) s17716.2).Op_), .int .i64 ((nth (nth x0 s9657.2) s17716.2).Mod_), .bool ((nth (nth x0 s9657.2) s17716.2).Not_), lsv encSt41 2 ((nth (nth x0 s9657.2) s17716.2).R_)]]) (by kernel_rfl) ?_
         refine kE ?_
         obtain rfl := oi h19059
         exact kN [0, 2, 3, 4, 5, 6]
        ·have h19058 := condF hb19056 hy19053
         refine kF ?_
         refine kK ?_
         obtain rfl := oi h19058
         exact kN [0, 2, 3, 4, 5, 6]
       ·refine kSR ?_
        refine kC 4 [0,2,3,4,5,6,38,41] ?_
        refine RJ.rel (d := (some 42)) (ef := ⟨.str (((([(nth (nth x0 s9657.2) s17716.2).Op_] : List Int)).flatMap (encI .u8)).map Go.Sy.byteOf), [1], []⟩) (ef' := ⟨.str (bytesS (([(nth (nth x0 s9657.2) s17716.2).Op_] : List Int))), [1], []⟩) (c := ((([(nth (nth x0 s9657.2) s17716.2).Op_] : List Int)).flatMap (encI .u8)).all isByte) (tr2 := []) (H2 := [.box [.int .u8 ((nth (nth x0 s9657.2) s17716.2).Op_), .int .i64 ((nth (nth x0 s9657.2) s17716.2).Mod_), .bool ((nth (nth x0 s9657.2) s17716.2).Not_), lsv encSt41 2 ((nth (nth x0 s9657.2) s17716.2).R_)], vecL (encI .u8) 1 5 (([(nth (nth x0 s9657.2) s17716.2).Op_] : List Int))]) (by kernel_rfl) (allByte (([(nth (nth x0 s9657.2) s17716.2).Op_] : List Int))) (fun hc => N.toStr) (by kernel_rfl) ?_
        obtain ⟨hm, h19060⟩ := asrt h19055
        refine RJ.rel (d := (some 43)) (ef := ⟨.str (s19051 ++ ((bytesS (([(nth (nth x0 s9657.2) s17716.2).Op_] : List Int))))), [], []⟩) (ef' := ⟨.str (s19051 ++ ((bytesS (([(nth (nth x0 s9657.2) s17716.2).Op_] : List Int))))), [], []⟩) (c := room (s19051.length + ((bytesS (([(nth (nth x0 s9657.2) s17716.2).Op_] : List Int)))).length)) (tr2 := []) (H2 := [.box [.int .u8 ((nth (nth x0 s9657.2) s17716.2).Op_), .int .i64 ((nth (nth x0 s9657.2) s17716.2).Mod_), .bool ((nth (nth x0 s9657.2) s17716.2).Not_), lsv encSt41 2 ((nth (nth x0 s9657.2) s17716.2).R_)], vecL (encI .u8) 1 5 (([(nth (nth x0 s9657.2) s17716.2).Op_] : List Int))]) (by kernel_rfl) hm (fun hc => rfl) (by kernel_rfl) ?_
        refine kC 1 [0,2,3,4,5,6] ?_
        refine kEN ?_
        obtain ⟨s19069, hy19071, h19073⟩ := bindS h19060
        refine K.cutN (by kernel_rfl) (fun (s19069 : (List UInt8)) => ([(0, lsv (encL encSt39 4) 1 x0), (2, .str ([] : List UInt8)), (3, .str s19069), (4, .int .i64 s9657.2), (5, .int .i64 s17716.2), (6, .ptr 0 0)], [.box [.int .u8 ((nth (nth x0 s9657.2) s17716.2).Op_), .int .i64 ((nth (nth x0 s9657.2) s17716.2).Mod_), .bool ((nth (nth x0 s9657.2) s17716.2).Not_), lsv encSt41 2 ((nth (nth x0 s9657.2) s17716.2).R_)]])) s19069 ?_ ?_
        ·refine kSR ?_
         refine kC 3 [0,2,3,4,5,6,46] ?_
         refine kEN ?_
         refine J.caseB 46 (b := (decide (¬ ((nth (nth x0 s9657.2) s17716.2).Mod_) = 0))) (by kernel_rfl) (fun hb19074 => ?_) (fun hb19074 => ?_)
         ·have h19075 := condT hb19074 hy19071
          refine kT ?_
          refine kR ?_
          refine RJ.seg 1 [0, 2, 3, 4, 5, 6, 47] (L2 := [(0, lsv (encL encSt39 4) 1 x0), (2, .str ([] : List UInt8)), (3, .str ((s19051 ++ ((bytesS (([(nth (nth x0 s9657.2) s17716.2).Op_] : List Int))))))), (4, .int .i64 s9657.2), (5, .int .i64 s17716.2), (6, .ptr 0 0), (47, .str ((s19051 ++ ((bytesS (([(nth (nth x0 s9657.2) s17716.2).Op_] : List Int)))))))]) (H2 := [.box [.int .u8 ((nth (nth x0 s9657.2) s17716.2).Op_), .int .i64 ((nth (nth x0 s9657.2) s17716.2).Mod_), .bool ((nth (nth x0 s9657.2) s17716.2).Not_), lsv encSt41 2 ((nth (nth x0 s9657.2) s17716.2).R_)], vecL (encI .u8) 1 5 (([(nth (nth x0 s9657.2) s17716.2).Op_] : List Int))]) (by kernel_rfl) ?_
          obtain ⟨hm, h19077⟩ := asrt h19075
          refine RJ.rel (d := (some 48)) (ef := ⟨.str (((s19051 ++ ((bytesS (([(nth (nth x0 s9657.2) s17716.2).Op_] : List Int)))))) ++ ([32, 37, 32] : List UInt8)), [], []⟩) (ef' := ⟨.str (((s19051 ++ ((bytesS (([(nth (nth x0 s9657.2) s17716.2).Op_] : List Int)))))) ++ ([32, 37, 32] : List UInt8)), [], []⟩) (c := room (((s19051 ++ ((bytesS (([(nth (nth x0 s9657.2) s17716.2).Op_] : List Int)))))).length + ([32, 37, 32] : List UInt8).length)) (tr2 := []) (H2 := [.box [.int .u8 ((nth (nth x0 s9657.2) s17716.2).Op_), .int .i64 ((nth (nth x0 s9657.2) s17716.2).Mod_), .bool ((nth (nth x0 s9657.2) s17716.2).Not_), lsv encSt41 2 ((nth (nth x0 s9657.2) s17716.2).R_)], vecL (encI .u8) 1 5 (([(nth (nth x0 s9657.2) s17716.2).Op_] : List Int))]) (by kernel_rfl) hm (fun hc => rfl) (by kernel_rfl) ?_
          refine kC 2 [0,2,3,4,5,6,48,50] ?_
          obtain ⟨y19078, hy19079, h19080⟩ := bindS h19077
          refine RJ.call0 (d := (some 51)) (f := 22) (args := [.int .i64 ((nth (nth x0 s9657.2) s17716.2).Mod_)]) (v := .str y19078) (tr2 := []) (by kernel_rfl) (by kernel_rfl) (.cons (Le.refl _) .nil) (exergueref05_Number_ok big hy19079) (by kernel_rfl) ?_
          obtain ⟨hm, h19081⟩ := asrt h19080
          refine RJ.rel (d := (some 52)) (ef := ⟨.str (((((s19051 ++ ((bytesS (([(nth (nth x0 s9657.2) s17716.2).Op_] : List Int)))))) ++ ([32, 37, 32] : List UInt8))) ++ y19078), [], []⟩) (ef' := ⟨.str (((((s19051 ++ ((bytesS (([(nth (nth x0 s9657.2) s17716.2).Op_] : List Int)))))) ++ ([32, 37, 32] : List UInt8))) ++ y19078), [], []⟩) (c := room (((((s19051 ++ ((bytesS (([(nth (nth x0 s9657.2) s17716.2).Op_] : List Int)))))) ++ ([32, 37, 32] : List UInt8))).length + y19078.length)) (tr2 := []) (H2 := [.box [.int .u8 ((nth (nth x0 s9657.2) s17716.2).Op_), .int .i64 ((nth (nth x0 s9657.2) s17716.2).Mod_), .bool ((nth (nth x0 s9657.2) s17716.2).Not_), lsv encSt41 2 ((nth (nth x0 s9657.2) s17716.2).R_)], vecL (encI .u8) 1 5 (([(nth (nth x0 s9657.2) s17716.2).Op_] : List Int))]) (by kernel_rfl) hm (fun hc => rfl) (by kernel_rfl) ?_
          refine kC 1 [0,2,3,4,5,6] ?_
          refine kE ?_
          obtain rfl := oi h19081
          refine PJ.wk (Wk.sel (L2 := [(0, lsv (encL encSt39 4) 1 x0), (2, .str ([] : List UInt8)), (3, .str ((((((s19051 ++ ((bytesS (([(nth (nth x0 s9657.2) s17716.2).Op_] : List Int)))))) ++ ([32, 37, 32] : List UInt8))) ++ y19078))), (4, .int .i64 s9657.2), (5, .int .i64 s17716.2), (6, .ptr 0 0)]) (H2 := [.box [.int .u8 ((nth (nth x0 s9657.2) s17716.2).Op_), .int .i64 ((nth (nth x0 s9657.2) s17716.2).Mod_), .bool ((nth (nth x0 s9657.2) s17716.2).Not_), lsv encSt41 2 ((nth (nth x0 s9657.2) s17716.2).R_)]]) 0 (by rw [hFH]; rfl) hFD [0] (by kernel_rfl) (by kernel_rfl) (by decide) (by kernel_rfl) (by kernel_rfl) (by kernel_rfl) (by kernel_rfl)) ?_
          exact kN [0, 2, 3, 4, 5, 6]
         ·have h19076 := condF hb19074 hy19071
          refine kF ?_
          refine kK ?_
          obtain rfl := oi h19076
          refine PJ.wk (Wk.sel (L2 := [(0, lsv (encL encSt39 4) 1 x0), (2, .str ([] : List UInt8)), (3, .str ((s19051 ++ ((bytesS (([(nth (nth x0 s9657.2) s17716.2).Op_] : List Int))))))), (4, .int .i64 s9657.2), (5, .int .i64 s17716.2), (6, .ptr 0 0)]) (H2 := [.box [.int .u8 ((nth (nth x0 s9657.2) s17716.2).Op_), .int .i64 ((nth (nth x0 s9657.2) s17716.2).Mod_), .bool ((nth (nth x0 s9657.2) s17716.2).Not_), lsv encSt41 2 ((nth (nth x0 s9657.2) s17716.2).R_)]]) 0 (by rw [hFH]; rfl) hFD [0] (by kernel_rfl) (by kernel_rfl) (by decide) (by kernel_rfl) (by kernel_rfl) (by kernel_rfl) (by kernel_rfl)) ?_
          exact kN [0, 2, 3, 4, 5, 6]
        ·obtain ⟨s19087, hy19089, h19091⟩ := bindS h19073
         refine K.cutN (by kernel_rfl) (fun (s19087 : (List UInt8)) => ([(0, lsv (encL encSt39 4) 1 x0), (2, .str ([] : List UInt8)), (3, .str s19087), (4, .int .i64 s9657.2), (5, .int .i64 s17716.2), (6, .ptr 0 0)], [.box [.int .u8 ((nth (nth x0 s9657.2) s17716.2).Op_), .int .i64 ((nth (nth x0 s9657.2) s17716.2).Mod_), .bool ((nth (nth x0 s9657.2) s17716.2).Not_), lsv encSt41 2 ((nth (nth x0 s9657.2) s17716.2).R_)]])) s19087 ?_ ?_
         ·refine kSR ?_
          refine kC 2 [0,2,3,4,5,6,54] ?_
          refine kEN ?_
          refine J.caseB 54 (b := (nth (nth x0 s9657.2) s17716.2).Not_) (by kernel_rfl) (fun hb19092 => ?_) (fun hb19092 => ?_)
          ·have h19093 := condT hb19092 hy19089
           refine kT ?_
           refine kR ?_
           refine kC 1 [0,2,3,4,5,6,55] ?_
           obtain ⟨hm, h19095⟩ := asrt h19093
           refine RJ.rel (d := (some 56)) (ef := ⟨.str (s19069 ++ ([32, 33, 61, 32] : List UInt8)), [], []⟩) (ef' := ⟨.str (s19069 ++ ([32, 33, 61, 32] : List UInt8)), [], []⟩) (c := room (s19069.length + ([32, 33, 61, 32] : List UInt8).length)) (tr2 := []) (H2 := [.box [.int .u8 ((nth (nth x0 s9657.2) s17716.2).Op_), .int .i64 ((nth (nth x0 s9657.2) s17716.2).Mod_), .bool ((nth (nth x0 s9657.2) s17716.2).Not_), lsv encSt41 2 ((nth (nth x0 s9657.2) s17716.2).R_)]]) (by kernel_rfl) hm (fun hc => rfl) (by kernel_rfl) ?_
           refine kC 1 [0,2,3,4,5,6] ?_
           refine kE ?_
           obtain rfl := oi h19095
           exact kN [0, 2, 3, 4, 5, 6]
          ·have h19094 := condF hb19092 hy19089
           refine kF ?_
           refine kR ?_
           refine kC 1 [0,2,3,4,5,6,57] ?_
           obtain ⟨hm, h19096⟩ := asrt h19094
           refine RJ.rel (d := (some 58)) (ef := ⟨.str (s19069 ++ ([32, 61, 32] : List UInt8)), [], []⟩) (ef' := ⟨.str (s19069 ++ ([32, 61, 32] : List UInt8)), [], []⟩) (c := room (s19069.length + ([32, 61, 32] : List UInt8).length)) (tr2 := []) (H2 := [.box [.int .u8 ((nth (nth x0 s9657.2) s17716.2).Op_), .int .i64 ((nth (nth x0 s9657.2) s17716.2).Mod_), .bool ((nth (nth x0 s9657.2) s17716.2).Not_), lsv encSt41 2 ((nth (nth x0 s9657.2) s17716.2).R_)]]) (by kernel_rfl) hm (fun hc => rfl) (by kernel_rfl) ?_
           refine kC 1 [0,2,3,4,5,6] ?_
           refine kE ?_
           obtain rfl := oi h19096
           exact kN [0, 2, 3, 4, 5, 6]
         ·refine kSR ?_
          refine kC 1 [0,2,3,4,5,6,7] ?_
          refine kEN ?_
          refine K.block 4 (by kernel_rfl) ?_
          refine K.loop (by kernel_rfl) (fun (s19097 : (List UInt8) × Int) => ([(0, lsv (encL encSt39 4) 1 x0), (2, .str ([] : List UInt8)), (3, .str s19097.1), (4, .int .i64 s9657.2), (5, .int .i64 s17716.2), (6, .ptr 0 0), (7, .int .i64 s19097.2)], [.box [.int .u8 ((nth (nth x0 s9657.2) s17716.2).Op_), .int .i64 ((nth (nth x0 s9657.2) s17716.2).Mod_), .bool ((nth (nth x0 s9657.2) s17716.2).Not_), lsv encSt41 2 ((nth (nth x0 s9657.2) s17716.2).R_)]])) h19091 [0, 2, 3, 4, 5, 6, 7] (by kernel_rfl) (by kernel_rfl) (fun s19097 x19235 hs19234 => ?_)
          refine kS ?_
          refine kSR ?_
          refine kC 5 [0,2,3,4,5,6,7,63] ?_
          refine kEN ?_
          refine J.caseB 63 (b := (decide (s19097.2 < ((((nth (nth x0 s9657.2) s17716.2).R_).length : Int))))) (by kernel_rfl) (fun hb19236 => ?_) (fun hb19236 => ?_)
          ·have h19237 := condT hb19236 hs19234
           refine kT ?_
           refine kK ?_
           refine PJ.next ?_
           obtain ⟨s19268, hy19270, h19272⟩ := bindS h19237
           refine K.cutN (by kernel_rfl) (fun (s19268 : (List UInt8)) => ([(0, lsv (encL encSt39 4) 1 x0), (2, .str ([] : List UInt8)), (3, .str s19268), (4, .int .i64 s9657.2), (5, .int .i64 s17716.2), (6, .ptr 0 0), (7, .int .i64 s19097.2)], [.box [.int .u8 ((nth (nth x0 s9657.2) s17716.2).Op_), .int .i64 ((nth (nth x0 s9657.2) s17716.2).Mod_), .bool ((nth (nth x0 s9657.2) s17716.2).Not_), lsv encSt41 2 ((nth (nth x0 s9657.2) s17716.2).R_)]])) s19268 ?_ ?_
           ·refine K.block 5 (by kernel_rfl) ?_
            obtain ⟨s19277, hy19279, h19281⟩ := bindS hy19270
            refine K.cutN (by kernel_rfl) (fun (s19277 : (List UInt8)) => ([(0, lsv (encL encSt39 4) 1 x0), (2, .str ([] : List UInt8)), (3, .str s19277), (4, .int .i64 s9657.2), (5, .int .i64 s17716.2), (6, .ptr 0 0), (7, .int .i64 s19097.2)], [.box [.int .u8 ((nth (nth x0 s9657.2) s17716.2).Op_), .int .i64 ((nth (nth x0 s9657.2) s17716.2).Mod_), .bool ((nth (nth x0 s9657.2) s17716.2).Not_), lsv encSt41 2 ((nth (nth x0 s9657.2) s17716.2).R_)]])) s19277 ?_ ?_
            ·refine kSR ?_
             refine kC 2 [0,2,3,4,5,6,7,67] ?_
             refine kEN ?_
             refine J.caseB 67 (b := (decide (s19097.2 > 0))) (by kernel_rfl) (fun hb19282 => ?_) (fun hb19282 => ?_)
             ·have h19283 := condT hb19282 hy19279
              refine kT ?_
              refine kR ?_
              refine kC 1 [0,2,3,4,5,6,7,68] ?_
              obtain ⟨hm, h19285⟩ := asrt h19283
              refine RJ.rel (d := (some 69)) (ef := ⟨.str (s19097.1 ++ ([44] : List UInt8)), [], []⟩) (ef' := ⟨.str (s19097.1 ++ ([44] : List UInt8)), [], []⟩) (c := room (s19097.1.length + ([44] : List UInt8).length)) (tr2 := []) (H2 := [.box [.int .u8 ((nth (nth x0 s9657.2) s17716.2).Op_), .int .i64 ((nth (nth x0 s9657.2) s17716.2).Mod_), .bool ((nth (nth x0 s9657.2) s17716.2).Not_), lsv encSt41 2 ((nth (nth x0 s9657.2) s17716.2).R_)]]) (by kernel_rfl) hm (fun hc => rfl) (by kernel_rfl) ?_
              refine RJ.seg 1 [0, 2, 3, 4, 5, 6, 7] (L2 := [(0, lsv (encL encSt39 4) 1 x0), (2, .str ([] : List UInt8)), (3, .str (s19097.1 ++ ([44] : List UInt8))), (4, .int .i64 s9657.2), (5, .int .i64 s17716.2), (6, .ptr 0 0), (7, .int .i64 s19097.2)]) (H2 := [.box [.int .u8 ((nth (nth x0 s9657.2) s17716.2).Op_), .int .i64 ((nth (nth x0 s9657.2) s17716.2).Mod_), .bool ((nth (nth x0 s9657.2) s17716.2).Not_), lsv encSt41 2 ((nth (nth x0 s9657.2) s17716.2).R_)]]) (by kernel_rfl) ?_
              refine kE ?_
              obtain rfl := oi h19285
              exact kN [0, 2, 3, 4, 5, 6, 7]
             ·have h19284 := condF hb19282 hy19279
              refine kF ?_
              refine kK ?_
              obtain rfl := oi h19284
              exact kN [0, 2, 3, 4, 5, 6, 7]
            ·refine kSR ?_
             refine kC 4 [0,2,3,4,5,6,7,70,72,73] ?_
             obtain ⟨hm, h19286⟩ := asrt h19281
             refine RJ.rel (d := (some 74)) (ef := ⟨.ep (((((nth (nth x0 s9657.2) s17716.2).R_).flatMap encSt41).drop ((s19097.2 : Int).toNat * 2)).take 2), [], []⟩) (ef' := ⟨.ep (encSt41 (nth ((nth (nth x0 s9657.2) s17716.2).R_) s19097.2)), [], []⟩) (c := inR s19097.2 ((nth (nth x0 s9657.2) s17716.2).R_).length) (tr2 := []) (H2 := [.box [.int .u8 ((nth (nth x0 s9657.2) s17716.2).Op_), .int .i64 ((nth (nth x0 s9657.2) s17716.2).Mod_), .bool ((nth (nth x0 s9657.2) s17716.2).Not_), lsv encSt41 2 ((nth (nth x0 s9657.2) s17716.2).R_)]]) (by kernel_rfl) hm (fun hc => N.idx encSt41_len hc) (by kernel_rfl) ?_
             refine kC 2 [0,2,3,4,5,6,7,70,76] ?_
             obtain ⟨y19287, hy19288, h19289⟩ := bindS h19286
             refine RJ.call0 (d := (some 77)) (f := 22) (args := [.int .i64 ((nth ((nth (nth x0 s9657.2) s17716.2).R_) s19097.2).a0_)]) (v := .str y19287) (tr2 := []) (by kernel_rfl) (by kernel_rfl) (.cons (Le.refl _) .nil) (exergueref05_Number_ok big hy19288) (by kernel_rfl) ?_
             obtain ⟨hm, h19290⟩ := asrt h19289
             refine RJ.rel (d := (some 78)) (ef := ⟨.str (s19277 ++ y19287), [], []⟩) (ef' := ⟨.str (s19277 ++ y19287), [], []⟩) (c := room (s19277.length + y19287.length)) (tr2 := []) (H2 := [.box [.int .u8 ((nth (nth x0 s9657.2) s17716.2).Op_), .int .i64 ((nth (nth x0 s9657.2) s17716.2).Mod_), .bool ((nth (nth x0 s9657.2) s17716.2).Not_), lsv encSt41 2 ((nth (nth x0 s9657.2) s17716.2).R_)]]) (by kernel_rfl) hm (fun hc => rfl) (by kernel_rfl) ?_
             refine kC 1 [0,2,3,4,5,6,7] ?_
             refine kEN ?_
             refine kS ?_
             refine J.keep [0, 2, 3, 4, 5, 6, 7] (L2 := [(0, lsv (encL encSt39 4) 1 x0), (2, .str ([] : List UInt8)), (3, .str (s19277 ++ y19287)), (4, .int .i64 s9657.2), (5, .int .i64 s17716.2), (6, .ptr 0 0), (7, .int .i64 s19097.2)]) (by kernel_rfl) ?_
             refine K.draw (by kernel_rfl) (by kernel_rfl) (by kernel_rfl) (H2 := [.box [.int .u8 ((nth (nth x0 s9657.2) s17716.2).Op_), .int .i64 ((nth (nth x0 s9657.2) s17716.2).Mod_), .bool ((nth (nth x0 s9657.2) s17716.2).Not_), lsv encSt41 2 ((nth (nth x0 s9657.2) s17716.2).R_)]]) (by kernel_rfl) (n := 1) (by kernel_rfl) ?_
             refine RJ.segD 3 (tr2 := [([], []), ([0, 1], []), ([], [])]) (L2 := [(81, .int .i64 s19097.2), (80, lsv encSt41 2 ((nth (nth x0 s9657.2) s17716.2).R_)), (79, .ptr 0 3), (0, lsv (encL encSt39 4) 1 x0), (2, .str ([] : List UInt8)), (3, .str (s19277 ++ y19287)), (4, .int .i64 s9657.2), (5, .int .i64 s17716.2), (6, .ptr 0 0), (7, .int .i64 s19097.2)]) (H2 := [.box [.int .u8 ((nth (nth x0 s9657.2) s17716.2).Op_), .int .i64 ((nth (nth x0 s9657.2) s17716.2).Mod_), .bool ((nth (nth x0 s9657.2) s17716.2).Not_), lsv encSt41 2 ((nth (nth x0 s9657.2) s17716.2).R_)]]) (by kernel_rfl) ?_
             obtain ⟨hm, h19291⟩ := asrt h19290
             refine RJ.rel (d := (some 82)) (ef := ⟨.ep (((((nth (nth x0 s9657.2) s17716.2).R_).flatMap encSt41).drop ((s19097.2 : Int).toNat * 2)).take 2), [], []⟩) (ef' := ⟨.ep (encSt41 (nth ((nth (nth x0 s9657.2) s17716.2).R_) s19097.2)), [], []⟩) (c := inR s19097.2 ((nth (nth x0 s9657.2) s17716.2).R_).length) (tr2 := [([], []), ([0, 1], []), ([], []), ([], [])]) (H2 := [.box [.int .u8 ((nth (nth x0 s9657.2) s17716.2).Op_), .int .i64 ((nth (nth x0 s9657.2) s17716.2).Mod_), .bool ((nth (nth x0 s9657.2) s17716.2).Not_), lsv encSt41 2 ((nth (nth x0 s9657.2) s17716.2).R_)]]) (by kernel_rfl) hm (fun hc => N.idx encSt41_len hc) (by kernel_rfl) ?_
             refine kD 5 ?_
             obtain ⟨hm, h19292⟩ := asrt h19291
             refine RJ.rel (d := (some 88)) (ef := ⟨.ep (((((nth (nth x0 s9657.2) s17716.2).R_).flatMap encSt41).drop ((s19097.2 : Int).toNat * 2)).take 2), [], []⟩) (ef' := ⟨.ep (encSt41 (nth ((nth (nth x0 s9657.2) s17716.2).R_) s19097.2)), [], []⟩) (c := inR s19097.2 ((nth (nth x0 s9657.2) s17716.2).R_).length) (tr2 := [([], []), ([0, 1], []), ([], []), ([], []), ([], []), ([], []), ([], []), ([0, 1], []), ([], []), ([], [])]) (H2 := [.box [.int .u8 ((nth (nth x0 s9657.2) s17716.2).Op_), .int .i64 ((nth (nth x0 s9657.2) s17716.2).Mod_), .bool ((nth (nth x0 s9657.2) s17716.2).Not_), lsv encSt41 2 ((nth (nth x0 s9657.2) s17716.2).R_)]]) (by kernel_rfl) hm (fun hc => N.idx encSt41_len hc) (by kernel_rfl) ?_
             refine kD 3 ?_
             refine kEN ?_
             refine J.caseB 91 (b := (decide (¬ ((nth ((nth (nth x0 s9657.2) s17716.2).R_) s19097.2).a1_) = ((nth ((nth (nth x0 s9657.2) s17716.2).R_) s19097.2).a0_)))) (by kernel_rfl) (fun hb19293 => ?_) (fun hb19293 => ?_)
             ·have h19294 := condT hb19293 h19292
              refine kT ?_
              refine kR ?_
              refine kC 1 [0,2,3,4,5,6,7,92] ?_
              obtain ⟨hm, h19296⟩ := asrt h19294
              refine RJ.rel (d := (some 93)) (ef := ⟨.str ((s19277 ++ y19287) ++ ([46, 46] : List UInt8)), [], []⟩) (ef' := ⟨.str ((s19277 ++ y19287) ++ ([46, 46] : List UInt8)), [], []⟩) (c := room ((s19277 ++ y19287).length + ([46, 46] : List UInt8).length)) (tr2 := []) (H2 := [.box [.int .u8 ((nth (nth x0 s9657.2) s17716.2).Op_), .int .i64 ((nth (nth x0 s9657.2) s17716.2).Mod_), .bool ((nth (nth x0 s9657.2) s17716.2).Not_), lsv encSt41 2 ((nth (nth x0 s9657.2) s17716.2).R_)]]) (by kernel_rfl) hm (fun hc => rfl) (by kernel_rfl) ?_
              refine RJ.seg 3 [0, 2, 3, 4, 5, 6, 7, 93, 95, 96] (L2 := [(0, lsv (encL encSt39 4) 1 x0), (2, .str ([] : List UInt8)), (3, .str (s19277 ++ y19287)), (4, .int .i64 s9657.2), (5, .int .i64 s17716.2), (6, .ptr 0 0), (7, .int .i64 s19097.2), (93, .str ((s19277 ++ y19287) ++ ([46, 46] : List UInt8))), (95, lsv encSt41 2 ((nth (nth x0 s9657.2) s17716.2).R_)), (96, .int .i64 s19097.2)]) (H2 := [.box [.int .u8 ((nth (nth x0 s9657.2) s17716.2).Op_), .int .i64 ((nth (nth x0 s9657.2) s17716.2).Mod_), .bool ((nth (nth x0 s9657.2) s17716.2).Not_), lsv encSt41 2 ((nth (nth x0 s9657.2) s17716.2).R_)]]) (by kernel_rfl) ?_
              obtain ⟨hm, h19297⟩ := asrt h19296
              refine RJ.rel (d := (some 97)) (ef := ⟨.ep (((((nth (nth x0 s9657.2) s17716.2).R_).flatMap encSt41).drop ((s19097.2 : Int).toNat * 2)).take 2), [], []⟩) (ef' := ⟨.ep (encSt41 (nth ((nth (nth x0 s9657.2) s17716.2).R_) s19097.2)), [], []⟩) (c := inR s19097.2 ((nth (nth x0 s9657.2) s17716.2).R_).length) (tr2 := []) (H2 := [.box [.int .u8 ((nth (nth x0 s9657.2) s17716.2).Op_), .int .i64 ((nth (nth x0 s9657.2) s17716.2).Mod_), .bool ((nth (nth x0 s9657.2) s17716.2).Not_), lsv encSt41 2 ((nth (nth x0 s9657.2) s17716.2).R_)]]) (by kernel_rfl) hm (fun hc => N.idx encSt41_len hc) (by kernel_rfl) ?_
              refine kC 2 [0,2,3,4,5,6,7,93,99] ?_
              obtain ⟨y19298, hy19299, h19300⟩ := bindS h19297
              refine RJ.call0 (d := (some 100)) (f := 22) (args := [.int .i64 ((nth ((nth (nth x0 s9657.2) s17716.2).R_) s19097.2).a1_)]) (v := .str y19298) (tr2 := []) (by kernel_rfl) (by kernel_rfl) (.cons (Le.refl _) .nil) (exergueref05_Number_ok big hy19299) (by kernel_rfl) ?_
              obtain ⟨hm, h19301⟩ := asrt h19300
              refine RJ.rel (d := (some 101)) (ef := ⟨.str (((s19277 ++ y19287) ++ ([46, 46] : List UInt8)) ++ y19298), [], []⟩) (ef' := ⟨.str (((s19277 ++ y19287) ++ ([46, 46] : List UInt8)) ++ y19298), [], []⟩) (c := room (((s19277 ++ y19287) ++ ([46, 46] : List UInt8)).length + y19298.length)) (tr2 := []) (H2 := [.box [.int .u8 ((nth (nth x0 s9657.2) s17716.2).Op_), .int .i64 ((nth (nth x0 s9657.2) s17716.2).Mod_), .bool ((nth (nth x0 s9657.2) s17716.2).Not_), lsv encSt41 2 ((nth (nth x0 s9657.2) s17716.2).R_)]]) (by kernel_rfl) hm (fun hc => rfl) (by kernel_rfl) ?_
              refine kC 1 [0,2,3,4,5,6,7] ?_
              refine kE ?_
              refine PJ.blockNormal ?_
              obtain rfl := oi h19301
              exact kN [0, 2, 3, 4, 5, 6, 7]
             ·have h19295 := condF hb19293 h19292
              refine kF ?_
              refine kK ?_
              refine PJ.blockNormal ?_
              obtain rfl := oi h19295
              exact kN [0, 2, 3, 4, 5, 6, 7]
           ·refine kR ?_
            refine kC 3 [0,2,3,4,5,6,7] ?_
            refine kE ?_
            obtain rfl := oi h19272
            exact PJ.loopNext [0, 2, 3, 4, 5, 6, 7] (by kernel_rfl) (by kernel_rfl)
          ·have h19238 := condF hb19236 hs19234
           refine kF ?_
           refine K.exit 4 (by kernel_rfl) ?_
           refine PJ.passExit ?_
           obtain rfl := oi h19238
           refine PJ.loopOut (fun e => nomatch e) (fun he19303 => ?_)
           have h19302 := congrArg some he19303
           refine PJ.blockOut ?_
           refine PJ.blockNormal ?_
           obtain rfl := oi h19302
           refine PJ.wk (Wk.sel (L2 := [(0, lsv (encL encSt39 4) 1 x0), (2, .str ([] : List UInt8)), (3, .str s19097.1), (4, .int .i64 s9657.2), (5, .int .i64 s17716.2)]) (H2 := []) 0 (by rw [hFH]; rfl) hFD [] (by kernel_rfl) (by kernel_rfl) (by decide) (by kernel_rfl) (by kernel_rfl) (by kernel_rfl) (by kernel_rfl)) ?_
           exact kN [0, 2, 3, 4, 5]
      ·refine kR ?_
       refine kC 3 [0,2,3,4,5] ?_
       refine kE ?_
       obtain rfl := oi h19044
       exact PJ.loopNext [0, 2, 3, 4, 5] (by kernel_rfl) (by kernel_rfl)
     ·have h18780 := condF hb18778 h18777
      refine kF ?_
      refine K.exit 2 (by kernel_rfl) ?_
      refine PJ.passExit ?_
      obtain rfl := oi h18780
      refine PJ.loopOut (fun e => nomatch e) (fun he19305 => ?_)
      have h19304 := congrArg some he19305
      refine PJ.blockOut ?_
      refine PJ.blockNormal ?_
      obtain rfl := oi h19304
      exact kN [0, 2, 3, 4]
   ·refine kR ?_
    refine kC 3 [0,2,3,4] ?_
    refine kE ?_
    obtain rfl := oi h17702
    exact PJ.loopNext [0, 2, 3, 4] (by kernel_rfl) (by kernel_rfl)
  ·have h16094 := condF hb16092 hs16090
   refine kF ?_
   refine K.exit 0 (by kernel_rfl) ?_
   refine PJ.passExit ?_
   obtain rfl := oi h16094
   refine PJ.loopOut (fun e => nomatch e) (fun he19307 => ?_)
   have h19306 := congrArg some he19307
   refine PJ.blockOut ?_
   obtain rfl := oi h19306
   exact kN [2, 3]
 ·refine kSR ?_
  refine kC 2 [2] ?_
  refine kEN ?_
  refine kX ?_
  obtain rfl := oi h9656
  exact kZ hFn hFH hFD
def exergueref11_over (x0 : List UInt8) (x1 : Int) : Option (Int) :=
 (Option.bind (loopN (fun (s138 : Int) => (Option.bind (Option.bind (bif (decide (s138 < (x0.length : Int))) then (bif inR s138 x0.length then (some ((decide (((((x0.getD (s138 : Int).toNat 0).toNat : Nat) : Int)) = 32)))) else none) else (some false)) fun (s255 : Bool) => (bif s255 then (some (.inl ())) else (some (.inr (.inr s138))))) (joinX fun (s246 : Unit) => (some (.inl (IntKind.wrap .i64 (s138 + 1))))))) big x1) fun (s133 : Int) => (some s133))
theorem exergueref11_over_ok {x0 : List UInt8} {x1 : Int} {r : Int} (h : exergueref11_over x0 x1 = some r) : SC Tryz.prog 30 [.str x0, .int .i64 x1] [] (.int .i64 r) [] := by
 refine kFn (fn := Tryz.f30) (fun F hFn hFH hFD => ?_)
 unfold exergueref11_over at h
 refine kSR ?_
 refine kC 1 [0,1,4] ?_
 refine kEN ?_
 obtain ⟨s133, hy135, h137⟩ := bindS h
 refine K.cutN (by kernel_rfl) (fun (s133 : Int) => ([(1, .int .i64 s133), (4, .int .i64 0)], [])) s133 ?_ ?_
 ·refine K.block 0 (by kernel_rfl) ?_
  refine K.loop (by kernel_rfl) (fun (s138 : Int) => ([(0, .str x0), (1, .int .i64 s138), (4, .int .i64 0)], [])) hy135 [0, 1, 4] (by kernel_rfl) (by kernel_rfl) (fun s138 x226 hs225 => ?_)
  obtain ⟨y247, hy248, h249⟩ := bindS hs225
  refine K.cutX (by kernel_rfl) (fun (s246 : Unit) => ([(0, .str x0), (1, .int .i64 s138), (4, .int .i64 0)], [])) y247 ?_ (fun s246 hs => ?_)
  ·obtain ⟨s255, hy257, h259⟩ := bindS hy248
   refine K.cutN (by kernel_rfl) (fun (s255 : Bool) => ([(0, .str x0), (1, .int .i64 s138), (4, .int .i64 0), (14, .bool s255)], [])) s255 ?_ ?_
   ·refine kR ?_
    refine kC 5 [0,1,4,9] ?_
    refine RJ.caseB 9 (b := (decide (s138 < (x0.length : Int)))) (by kernel_rfl) (fun hb260 => ?_) (fun hb260 => ?_)
    ·have h261 := condT hb260 hy257
     refine kC 2 [0,1,4,9,10,11] ?_
     obtain ⟨hm, h263⟩ := asrt h261
     refine RJ.rel (d := (some 12)) (ef := ⟨.int .u8 (((x0.getD (s138 : Int).toNat 0).toNat : Nat) : Int), [], []⟩) (ef' := ⟨.int .u8 (((x0.getD (s138 : Int).toNat 0).toNat : Nat) : Int), [], []⟩) (c := inR s138 x0.length) (tr2 := []) (H2 := []) (by kernel_rfl) hm (fun hc => rfl) (by kernel_rfl) ?_
     refine kC 2 [0,1,4,14] ?_
     refine kE ?_
     obtain rfl := oi h263
     exact kN [0, 1, 4, 14]
    ·have h262 := condF hb260 hy257
     refine kC 5 [0,1,4,14] ?_
     refine kE ?_
     obtain rfl := oi h262
     exact kN [0, 1, 4, 14]
   ·refine J.caseB 14 (b := s255) (by kernel_rfl) (fun hb264 => ?_) (fun hb264 => ?_)
    ·have h265 := condT hb264 h259
     refine kT ?_
     refine kK ?_
     obtain rfl := oi h265
     exact PJ.cutXl [0, 1, 4] (by kernel_rfl) (by kernel_rfl)
    ·have h266 := condF hb264 h259
     refine kF ?_
     refine K.exit 0 (by kernel_rfl) ?_
     obtain rfl := oi h266
     have h267 := joinX_inr h249
     refine PJ.cutXr (fun e => nomatch e) ?_
     obtain rfl := oi h267
     refine PJ.loopOut (fun e => nomatch e) (fun he269 => ?_)
     have h268 := congrArg some he269
     refine PJ.blockOut ?_
     obtain rfl := oi h268
     exact kN [1, 4]
  ·subst hs
   have h250 := joinX_inl h249
   refine K.block 1 (by kernel_rfl) ?_
   refine kR ?_
   refine kC 3 [0,1,4] ?_
   refine kE ?_
   refine PJ.blockNormal ?_
   obtain rfl := oi h250
   exact PJ.loopNext [0, 1, 4] (by kernel_rfl) (by kernel_rfl)
 ·refine kSR ?_
  refine kC 2 [4] ?_
  refine kEN ?_
  refine kX ?_
  obtain rfl := oi h137
  exact kZ hFn hFH hFD
def exergueref11_word (x0 : List UInt8) (x1 : Int) : Option (Int) :=
 (Option.bind (loopN (fun (s186 : Int) => (Option.bind (Option.bind (bif (decide (s186 < (x0.length : Int))) then (bif inR s186 x0.length then (bif (decide (((((x0.getD (s186 : Int).toNat 0).toNat : Nat) : Int)) ≥ 97)) then (bif inR s186 x0.length then (some ((decide (((((x0.getD (s186 : Int).toNat 0).toNat : Nat) : Int)) ≤ 122)))) else none) else (some false)) else none) else (some false)) fun (s347 : Bool) => (bif s347 then (some (.inl ())) else (some (.inr (.inr s186))))) (joinX fun (s334 : Unit) => (some (.inl (IntKind.wrap .i64 (s186 + 1))))))) big x1) fun (s181 : Int) => (some s181))
theorem exergueref11_word_ok {x0 : List UInt8} {x1 : Int} {r : Int} (h : exergueref11_word x0 x1 = some r) : SC Tryz.prog 31 [.str x0, .int .i64 x1] [] (.int .i64 r) [] := by
 refine kFn (fn := Tryz.f31) (fun F hFn hFH hFD => ?_)
 unfold exergueref11_word at h
 refine kSR ?_
 refine kC 1 [0,1,4] ?_
 refine kEN ?_
 obtain ⟨s181, hy183, h185⟩ := bindS h
 refine K.cutN (by kernel_rfl) (fun (s181 : Int) => ([(1, .int .i64 s181), (4, .int .i64 0)], [])) s181 ?_ ?_
 ·refine K.block 0 (by kernel_rfl) ?_
  refine K.loop (by kernel_rfl) (fun (s186 : Int) => ([(0, .str x0), (1, .int .i64 s186), (4, .int .i64 0)], [])) hy183 [0, 1, 4] (by kernel_rfl) (by kernel_rfl) (fun s186 x306 hs305 => ?_)
  obtain ⟨y335, hy336, h337⟩ := bindS hs305
  refine K.cutX (by kernel_rfl) (fun (s334 : Unit) => ([(0, .str x0), (1, .int .i64 s186), (4, .int .i64 0)], [])) y335 ?_ (fun s334 hs => ?_)
  ·obtain ⟨s347, hy349, h351⟩ := bindS hy336
   refine K.cutN (by kernel_rfl) (fun (s347 : Bool) => ([(0, .str x0), (1, .int .i64 s186), (4, .int .i64 0), (20, .bool s347)], [])) s347 ?_ ?_
   ·refine kR ?_
    refine kC 5 [0,1,4,9] ?_
    refine RJ.caseB 9 (b := (decide (s186 < (x0.length : Int)))) (by kernel_rfl) (fun hb352 => ?_) (fun hb352 => ?_)
    ·have h353 := condT hb352 hy349
     refine kC 2 [0,1,4,9,10,11] ?_
     obtain ⟨hm, h355⟩ := asrt h353
     refine RJ.rel (d := (some 12)) (ef := ⟨.int .u8 (((x0.getD (s186 : Int).toNat 0).toNat : Nat) : Int), [], []⟩) (ef' := ⟨.int .u8 (((x0.getD (s186 : Int).toNat 0).toNat : Nat) : Int), [], []⟩) (c := inR s186 x0.length) (tr2 := []) (H2 := []) (by kernel_rfl) hm (fun hc => rfl) (by kernel_rfl) ?_
     refine kC 3 [0,1,4,15] ?_
     refine RJ.caseB 15 (b := (decide (((((x0.getD (s186 : Int).toNat 0).toNat : Nat) : Int)) ≥ 97))) (by kernel_rfl) (fun hb356 => ?_) (fun hb356 => ?_)
     ·have h357 := condT hb356 h355
      refine RJ.seg 2 [0, 1, 4, 15, 16, 17] (L2 := [(0, .str x0), (1, .int .i64 s186), (4, .int .i64 0), (15, .bool true), (16, .str x0), (17, .int .i64 s186)]) (H2 := []) (by kernel_rfl) ?_
      obtain ⟨hm, h359⟩ := asrt h357
      refine RJ.rel (d := (some 18)) (ef := ⟨.int .u8 (((x0.getD (s186 : Int).toNat 0).toNat : Nat) : Int), [], []⟩) (ef' := ⟨.int .u8 (((x0.getD (s186 : Int).toNat 0).toNat : Nat) : Int), [], []⟩) (c := inR s186 x0.length) (tr2 := []) (H2 := []) (by kernel_rfl) hm (fun hc => rfl) (by kernel_rfl) ?_
      refine kC 2 [0,1,4,20] ?_
      refine kE ?_
      obtain rfl := oi h359
      exact kN [0, 1, 4, 20]
     ·have h358 := condF hb356 h355
      refine RJ.seg 5 [0, 1, 4, 20] (L2 := [(0, .str x0), (1, .int .i64 s186), (4, .int .i64 0), (20, .bool false)]) (H2 := []) (by kernel_rfl) ?_
      refine kE ?_
      obtain rfl := oi h358
      exact kN [0, 1, 4, 20]
    ·have h354 := condF hb352 hy349
     refine kC 11 [0,1,4,20] ?_
     refine kE ?_
     obtain rfl := oi h354
     exact kN [0, 1, 4, 20]
   ·refine J.caseB 20 (b := s347) (by kernel_rfl) (fun hb360 => ?_) (fun hb360 => ?_)
    ·have h361 := condT hb360 h351
     refine kT ?_
     refine kK ?_
     obtain rfl := oi h361
     exact PJ.cutXl [0, 1, 4] (by kernel_rfl) (by kernel_rfl)
    ·have h362 := condF hb360 h351
     refine kF ?_
     refine K.exit 0 (by kernel_rfl) ?_
     obtain rfl := oi h362
     have h363 := joinX_inr h337
     refine PJ.cutXr (fun e => nomatch e) ?_
     obtain rfl := oi h363
     refine PJ.loopOut (fun e => nomatch e) (fun he365 => ?_)
     have h364 := congrArg some he365
     refine PJ.blockOut ?_
     obtain rfl := oi h364
     exact kN [1, 4]
  ·subst hs
   have h338 := joinX_inl h337
   refine K.block 1 (by kernel_rfl) ?_
   refine kR ?_
   refine kC 3 [0,1,4] ?_
   refine kE ?_
   refine PJ.blockNormal ?_
   obtain rfl := oi h338
   exact PJ.loopNext [0, 1, 4] (by kernel_rfl) (by kernel_rfl)
 ·refine kSR ?_
  refine kC 2 [4] ?_
  refine kEN ?_
  refine kX ?_
  obtain rfl := oi h185
  exact kZ hFn hFH hFD
def exergueref11_op (x0 : Int) : Option (Bool) :=
 (Option.bind (bif (decide (x0 = 110)) then (some true) else (bif (decide (x0 = 105)) then (some true) else (bif (decide (x0 = 118)) then (some true) else (bif (decide (x0 = 119)) then (some true) else (bif (decide (x0 = 102)) then (some true) else (bif (decide (x0 = 116)) then (some true) else (bif (decide (x0 = 99)) then (some true) else (some (decide (x0 = 101)))))))))) fun (s22 : Bool) => (some s22))
theorem exergueref11_op_ok {x0 : Int} {r : Bool} (h : exergueref11_op x0 = some r) : SC Tryz.prog 44 [.int .u8 x0] [] (.bool r) [] := by
 refine kFn (fn := Tryz.f44) (fun F hFn hFH hFD => ?_)
 unfold exergueref11_op at h
 refine kSR ?_
 refine kC 1 [0,2] ?_
 refine kEN ?_
 obtain ⟨s22, hy24, h26⟩ := bindS h
 refine K.cutN (by kernel_rfl) (fun (s22 : Bool) => ([(2, .bool s22)], [])) s22 ?_ ?_
 ·refine kR ?_
  refine kC 3 [0,2,5] ?_
  refine RJ.caseB 5 (b := (decide (x0 = 110))) (by kernel_rfl) (fun hb27 => ?_) (fun hb27 => ?_)
  ·have h28 := condT hb27 hy24
   refine kC 28 [2] ?_
   refine kE ?_
   obtain rfl := oi h28
   exact kN [2]
  ·have h29 := condF hb27 hy24
   refine kC 4 [0,2,9] ?_
   refine RJ.caseB 9 (b := (decide (x0 = 105))) (by kernel_rfl) (fun hb30 => ?_) (fun hb30 => ?_)
   ·have h31 := condT hb30 h29
    refine RJ.seg 24 [2] (L2 := [(2, .bool true)]) (H2 := []) (by kernel_rfl) ?_
    refine kE ?_
    obtain rfl := oi h31
    exact kN [2]
   ·have h32 := condF hb30 h29
    refine RJ.seg 4 [0, 2, 13] (L2 := [(0, .int .u8 x0), (2, .bool false), (13, .bool (decide (x0 = 118)))]) (H2 := []) (by kernel_rfl) ?_
    refine RJ.caseB 13 (b := (decide (x0 = 118))) (by kernel_rfl) (fun hb33 => ?_) (fun hb33 => ?_)
    ·have h34 := condT hb33 h32
     refine kC 20 [2] ?_
     refine kE ?_
     obtain rfl := oi h34
     exact kN [2]
    ·have h35 := condF hb33 h32
     refine kC 4 [0,2,17] ?_
     refine RJ.caseB 17 (b := (decide (x0 = 119))) (by kernel_rfl) (fun hb36 => ?_) (fun hb36 => ?_)
     ·have h37 := condT hb36 h35
      refine kC 16 [2] ?_
      refine kE ?_
      obtain rfl := oi h37
      exact kN [2]
     ·have h38 := condF hb36 h35
      refine kC 4 [0,2,21] ?_
      refine RJ.caseB 21 (b := (decide (x0 = 102))) (by kernel_rfl) (fun hb39 => ?_) (fun hb39 => ?_)
      ·have h40 := condT hb39 h38
       refine kC 12 [2] ?_
       refine kE ?_
       obtain rfl := oi h40
       exact kN [2]
      ·have h41 := condF hb39 h38
       refine kC 4 [0,2,25] ?_
       refine RJ.caseB 25 (b := (decide (x0 = 116))) (by kernel_rfl) (fun hb42 => ?_) (fun hb42 => ?_)
       ·have h43 := condT hb42 h41
        refine RJ.seg 8 [2] (L2 := [(2, .bool true)]) (H2 := []) (by kernel_rfl) ?_
        refine kE ?_
        obtain rfl := oi h43
        exact kN [2]
       ·have h44 := condF hb42 h41
        refine RJ.seg 4 [0, 2, 29] (L2 := [(0, .int .u8 x0), (2, .bool false), (29, .bool (decide (x0 = 99)))]) (H2 := []) (by kernel_rfl) ?_
        refine RJ.caseB 29 (b := (decide (x0 = 99))) (by kernel_rfl) (fun hb45 => ?_) (fun hb45 => ?_)
        ·have h46 := condT hb45 h44
         refine kC 4 [2] ?_
         refine kE ?_
         obtain rfl := oi h46
         exact kN [2]
        ·have h47 := condF hb45 h44
         refine kC 4 [2] ?_
         refine kE ?_
         obtain rfl := oi h47
         exact kN [2]
 ·refine kX ?_
  obtain rfl := oi h26
  exact kZ hFn hFH hFD
def exergueref11_sign (x0 : List UInt8) (x1 : Int) (x2 : List UInt8) : Option (Bool) :=
 (Option.bind (bif (decide (((IntKind.wrap .i64 (x1 + (x2.length : Int)))) ≤ (x0.length : Int))) then (bif inS x1 ((IntKind.wrap .i64 (x1 + (x2.length : Int)))) x0.length then (some ((((cut x0 x1 ((IntKind.wrap .i64 (x1 + (x2.length : Int)))))) == x2))) else none) else (some false)) fun (s5 : Bool) => (some s5))
theorem exergueref11_sign_ok {x0 : List UInt8} {x1 : Int} {x2 : List UInt8} {r : Bool} (h : exergueref11_sign x0 x1 x2 = some r) : SC Tryz.prog 45 [.str x0, .int .i64 x1, .str x2] [] (.bool r) [] := by
 refine kFn (fn := Tryz.f45) (fun F hFn hFH hFD => ?_)
 unfold exergueref11_sign at h
 refine kSR ?_
 refine kC 1 [0,1,2,6] ?_
 refine kEN ?_
 obtain ⟨s5, hy7, h9⟩ := bindS h
 refine K.cutN (by kernel_rfl) (fun (s5 : Bool) => ([(6, .bool s5)], [])) s5 ?_ ?_
 ·refine kR ?_
  refine kC 8 [0,1,2,6,14] ?_
  refine RJ.caseB 14 (b := (decide (((IntKind.wrap .i64 (x1 + (x2.length : Int)))) ≤ (x0.length : Int)))) (by kernel_rfl) (fun hb10 => ?_) (fun hb10 => ?_)
  ·have h11 := condT hb10 hy7
   refine kC 6 [2,6,14,15,16,20] ?_
   obtain ⟨hm, h13⟩ := asrt h11
   refine RJ.rel (d := (some 21)) (ef := ⟨.str (cut x0 x1 ((IntKind.wrap .i64 (x1 + (x2.length : Int))))), [], []⟩) (ef' := ⟨.str (cut x0 x1 ((IntKind.wrap .i64 (x1 + (x2.length : Int))))), [], []⟩) (c := inS x1 ((IntKind.wrap .i64 (x1 + (x2.length : Int)))) x0.length) (tr2 := []) (H2 := []) (by kernel_rfl) hm (fun hc => rfl) (by kernel_rfl) ?_
   refine RJ.seg 4 [6] (L2 := [(6, .bool ((((cut x0 x1 ((IntKind.wrap .i64 (x1 + (x2.length : Int)))))) == x2)))]) (H2 := []) (by kernel_rfl) ?_
   refine kE ?_
   obtain rfl := oi h13
   exact kN [6]
  ·have h12 := condF hb10 hy7
   refine kC 11 [6] ?_
   refine kE ?_
   obtain rfl := oi h12
   exact kN [6]
 ·refine kX ?_
  obtain rfl := oi h9
  exact kZ hFn hFH hFD
def exergueref11_number (x0 : List UInt8) (x1 : Int) (x2 : Int) : Option (Int × Int) :=
 (Option.bind (exergueref11_over x0 x1) fun y1 => (Option.bind (loopN (fun (s228 : Int × Int) => (Option.bind (Option.bind (bif (decide (s228.1 < (x0.length : Int))) then (bif inR s228.1 x0.length then (bif (decide (((((x0.getD (s228.1 : Int).toNat 0).toNat : Nat) : Int)) ≥ 48)) then (bif inR s228.1 x0.length then (some ((decide (((((x0.getD (s228.1 : Int).toNat 0).toNat : Nat) : Int)) ≤ 57)))) else none) else (some false)) else none) else (some false)) fun (s415 : Bool) => (bif s415 then (some (.inl ())) else (some (.inr (.inr (s228.1, s228.2)))))) (joinX fun (s402 : Unit) => (Option.bind (bif (decide ((IntKind.wrap .i64 (s228.1 - y1)) < 9)) then (bif inR s228.1 x0.length then (some ((IntKind.wrap .i64 ((IntKind.wrap .i64 (s228.2 * 10)) + ((IntKind.wrap .i64 ((IntKind.wrap .u8 (((((x0.getD (s228.1 : Int).toNat 0).toNat : Nat) : Int)) - 48))))))))) else none) else (some s228.2)) fun (s438 : Int) => (some (.inl ((IntKind.wrap .i64 (s228.1 + 1)), s438))))))) big (y1, 0)) fun (s223 : Int × Int) => (Option.bind (Option.bind (bif (decide (s223.1 = y1)) then (some true) else (bif (decide ((IntKind.wrap .i64 (s223.1 - y1)) > 9)) then (some true) else (bif inR y1 x0.length then (bif (decide (((((x0.getD (y1 : Int).toNat 0).toNat : Nat) : Int)) = 48)) then (bif (decide ((IntKind.wrap .i64 (s223.1 - y1)) > 1)) then (some true) else (some (decide (s223.2 < x2)))) else (some (decide (s223.2 < x2)))) else none))) fun (s500 : Bool) => (bif s500 then (some (.inr ((-1), y1))) else (some (.inl ())))) (joinX fun (s482 : Unit) => (some (s223.2, s223.1))))))
theorem exergueref11_number_ok {x0 : List UInt8} {x1 : Int} {x2 : Int} {r : Int × Int} (h : exergueref11_number x0 x1 x2 = some r) : SC Tryz.prog 46 [.str x0, .int .i64 x1, .int .i64 x2] [] (.tup [.int .i64 r.1, .int .i64 r.2]) [] := by
 refine kFn (fn := Tryz.f46) (fun F hFn hFH hFD => ?_)
 unfold exergueref11_number at h
 refine kSR ?_
 refine kC 2 [0,1,2,6,7] ?_
 refine kEN ?_
 refine kSR ?_
 refine kC 2 [0,2,6,7,11,12] ?_
 obtain ⟨y1, hy2, h3⟩ := bindS h
 refine RJ.call0 (d := (some 13)) (f := 30) (args := [.str x0, .int .i64 x1]) (v := .int .i64 y1) (tr2 := []) (by kernel_rfl) (by kernel_rfl) (.cons (Le.refl _) (.cons (Le.refl _) .nil)) (exergueref11_over_ok hy2) (by kernel_rfl) ?_
 refine kC 1 [0,2,6,7,8] ?_
 refine kEN ?_
 refine kSR ?_
 refine RJ.seg 2 [0, 2, 6, 7, 8, 9] (L2 := [(0, .str x0), (2, .int .i64 x2), (6, .int .i64 0), (7, .int .i64 0), (8, .int .i64 y1), (9, .int .i64 y1)]) (H2 := []) (by kernel_rfl) ?_
 refine kEN ?_
 refine kSR ?_
 refine kC 1 [0,2,6,7,8,9,10] ?_
 refine kEN ?_
 obtain ⟨s223, hy225, h227⟩ := bindS h3
 refine K.cutN (by kernel_rfl) (fun (s223 : Int × Int) => ([(0, .str x0), (2, .int .i64 x2), (6, .int .i64 0), (7, .int .i64 0), (8, .int .i64 y1), (9, .int .i64 s223.1), (10, .int .i64 s223.2)], [])) s223 ?_ ?_
 ·refine K.block 0 (by kernel_rfl) ?_
  refine K.loop (by kernel_rfl) (fun (s228 : Int × Int) => ([(0, .str x0), (2, .int .i64 x2), (6, .int .i64 0), (7, .int .i64 0), (8, .int .i64 y1), (9, .int .i64 s228.1), (10, .int .i64 s228.2)], [])) hy225 [0, 2, 6, 7, 8, 9, 10] (by kernel_rfl) (by kernel_rfl) (fun s228 x374 hs373 => ?_)
  obtain ⟨y403, hy404, h405⟩ := bindS hs373
  refine K.cutX (by kernel_rfl) (fun (s402 : Unit) => ([(0, .str x0), (2, .int .i64 x2), (6, .int .i64 0), (7, .int .i64 0), (8, .int .i64 y1), (9, .int .i64 s228.1), (10, .int .i64 s228.2)], [])) y403 ?_ (fun s402 hs => ?_)
  ·obtain ⟨s415, hy417, h419⟩ := bindS hy404
   refine K.cutN (by kernel_rfl) (fun (s415 : Bool) => ([(0, .str x0), (2, .int .i64 x2), (6, .int .i64 0), (7, .int .i64 0), (8, .int .i64 y1), (9, .int .i64 s228.1), (10, .int .i64 s228.2), (30, .bool s415)], [])) s415 ?_ ?_
   ·refine kR ?_
    refine kC 5 [0,2,6,7,8,9,10,19] ?_
    refine RJ.caseB 19 (b := (decide (s228.1 < (x0.length : Int)))) (by kernel_rfl) (fun hb420 => ?_) (fun hb420 => ?_)
    ·have h421 := condT hb420 hy417
     refine kC 2 [0,2,6,7,8,9,10,19,20,21] ?_
     obtain ⟨hm, h423⟩ := asrt h421
     refine RJ.rel (d := (some 22)) (ef := ⟨.int .u8 (((x0.getD (s228.1 : Int).toNat 0).toNat : Nat) : Int), [], []⟩) (ef' := ⟨.int .u8 (((x0.getD (s228.1 : Int).toNat 0).toNat : Nat) : Int), [], []⟩) (c := inR s228.1 x0.length) (tr2 := []) (H2 := []) (by kernel_rfl) hm (fun hc => rfl) (by kernel_rfl) ?_
     refine kC 3 [0,2,6,7,8,9,10,25] ?_
     refine RJ.caseB 25 (b := (decide (((((x0.getD (s228.1 : Int).toNat 0).toNat : Nat) : Int)) ≥ 48))) (by kernel_rfl) (fun hb424 => ?_) (fun hb424 => ?_)
     ·have h425 := condT hb424 h423
      refine RJ.seg 2 [0, 2, 6, 7, 8, 9, 10, 25, 26, 27] (L2 := [(0, .str x0), (2, .int .i64 x2), (6, .int .i64 0), (7, .int .i64 0), (8, .int .i64 y1), (9, .int .i64 s228.1), (10, .int .i64 s228.2), (25, .bool true), (26, .str x0), (27, .int .i64 s228.1)]) (H2 := []) (by kernel_rfl) ?_
      obtain ⟨hm, h427⟩ := asrt h425
      refine RJ.rel (d := (some 28)) (ef := ⟨.int .u8 (((x0.getD (s228.1 : Int).toNat 0).toNat : Nat) : Int), [], []⟩) (ef' := ⟨.int .u8 (((x0.getD (s228.1 : Int).toNat 0).toNat : Nat) : Int), [], []⟩) (c := inR s228.1 x0.length) (tr2 := []) (H2 := []) (by kernel_rfl) hm (fun hc => rfl) (by kernel_rfl) ?_
      refine kC 2 [0,2,6,7,8,9,10,30] ?_
      refine kE ?_
      obtain rfl := oi h427
      exact kN [0, 2, 6, 7, 8, 9, 10, 30]
     ·have h426 := condF hb424 h423
      refine RJ.seg 5 [0, 2, 6, 7, 8, 9, 10, 30] (L2 := [(0, .str x0), (2, .int .i64 x2), (6, .int .i64 0), (7, .int .i64 0), (8, .int .i64 y1), (9, .int .i64 s228.1), (10, .int .i64 s228.2), (30, .bool false)]) (H2 := []) (by kernel_rfl) ?_
      refine kE ?_
      obtain rfl := oi h426
      exact kN [0, 2, 6, 7, 8, 9, 10, 30]
    ·have h422 := condF hb420 hy417
     refine kC 11 [0,2,6,7,8,9,10,30] ?_
     refine kE ?_
     obtain rfl := oi h422
     exact kN [0, 2, 6, 7, 8, 9, 10, 30]
   ·refine J.caseB 30 (b := s415) (by kernel_rfl) (fun hb428 => ?_) (fun hb428 => ?_)
    ·have h429 := condT hb428 h419
     refine kT ?_
     refine kK ?_
     obtain rfl := oi h429
     exact PJ.cutXl [0, 2, 6, 7, 8, 9, 10] (by kernel_rfl) (by kernel_rfl)
    ·have h430 := condF hb428 h419
     refine kF ?_
     refine K.exit 0 (by kernel_rfl) ?_
     obtain rfl := oi h430
     have h431 := joinX_inr h405
     refine PJ.cutXr (fun e => nomatch e) ?_
     obtain rfl := oi h431
     refine PJ.loopOut (fun e => nomatch e) (fun he433 => ?_)
     have h432 := congrArg some he433
     refine PJ.blockOut ?_
     obtain rfl := oi h432
     exact kN [0, 2, 6, 7, 8, 9, 10]
  ·subst hs
   have h406 := joinX_inl h405
   refine K.block 1 (by kernel_rfl) ?_
   obtain ⟨s438, hy440, h442⟩ := bindS h406
   refine K.cutN (by kernel_rfl) (fun (s438 : Int) => ([(0, .str x0), (2, .int .i64 x2), (6, .int .i64 0), (7, .int .i64 0), (8, .int .i64 y1), (9, .int .i64 s228.1), (10, .int .i64 s438)], [])) s438 ?_ ?_
   ·refine kSR ?_
    refine kC 4 [0,2,6,7,8,9,10,34] ?_
    refine kEN ?_
    refine J.caseB 34 (b := (decide ((IntKind.wrap .i64 (s228.1 - y1)) < 9))) (by kernel_rfl) (fun hb443 => ?_) (fun hb443 => ?_)
    ·have h444 := condT hb443 hy440
     refine kT ?_
     refine kR ?_
     refine kC 4 [0,2,6,7,8,9,10,36,37,38] ?_
     obtain ⟨hm, h446⟩ := asrt h444
     refine RJ.rel (d := (some 39)) (ef := ⟨.int .u8 (((x0.getD (s228.1 : Int).toNat 0).toNat : Nat) : Int), [], []⟩) (ef' := ⟨.int .u8 (((x0.getD (s228.1 : Int).toNat 0).toNat : Nat) : Int), [], []⟩) (c := inR s228.1 x0.length) (tr2 := []) (H2 := []) (by kernel_rfl) hm (fun hc => rfl) (by kernel_rfl) ?_
     refine kC 4 [0,2,6,7,8,9,10] ?_
     refine kE ?_
     obtain rfl := oi h446
     exact kN [0, 2, 6, 7, 8, 9, 10]
    ·have h445 := condF hb443 hy440
     refine kF ?_
     refine kK ?_
     obtain rfl := oi h445
     exact kN [0, 2, 6, 7, 8, 9, 10]
   ·refine kR ?_
    refine kC 3 [0,2,6,7,8,9,10] ?_
    refine kE ?_
    refine PJ.blockNormal ?_
    obtain rfl := oi h442
    exact PJ.loopNext [0, 2, 6, 7, 8, 9, 10] (by kernel_rfl) (by kernel_rfl)
 ·obtain ⟨y483, hy484, h485⟩ := bindS h227
  refine K.cutX (by kernel_rfl) (fun (s482 : Unit) => ([(6, .int .i64 0), (7, .int .i64 0), (9, .int .i64 s223.1), (10, .int .i64 s223.2)], [])) y483 ?_ (fun s482 hs => ?_)
  ·obtain ⟨s500, hy502, h504⟩ := bindS hy484
   refine K.cutN (by kernel_rfl) (fun (s500 : Bool) => ([(6, .int .i64 0), (7, .int .i64 0), (8, .int .i64 y1), (9, .int .i64 s223.1), (10, .int .i64 s223.2), (70, .bool s500)], [])) s500 ?_ ?_
   ·refine kR ?_
    refine kC 4 [0,2,6,7,8,9,10,48] ?_
    refine RJ.caseB 48 (b := (decide (s223.1 = y1))) (by kernel_rfl) (fun hb505 => ?_) (fun hb505 => ?_)
    ·have h506 := condT hb505 hy502
     refine kC 22 [6,7,8,9,10,70] ?_
     refine kE ?_
     obtain rfl := oi h506
     exact kN [6, 7, 8, 9, 10, 70]
    ·have h507 := condF hb505 hy502
     refine kC 6 [0,2,6,7,8,9,10,54] ?_
     refine RJ.caseB 54 (b := (decide ((IntKind.wrap .i64 (s223.1 - y1)) > 9))) (by kernel_rfl) (fun hb508 => ?_) (fun hb508 => ?_)
     ·have h509 := condT hb508 h507
      refine kC 16 [6,7,8,9,10,70] ?_
      refine kE ?_
      obtain rfl := oi h509
      exact kN [6, 7, 8, 9, 10, 70]
     ·have h510 := condF hb508 h507
      refine kC 2 [2,6,7,8,9,10,54,55,56] ?_
      obtain ⟨hm, h511⟩ := asrt h510
      refine RJ.rel (d := (some 57)) (ef := ⟨.int .u8 (((x0.getD (y1 : Int).toNat 0).toNat : Nat) : Int), [], []⟩) (ef' := ⟨.int .u8 (((x0.getD (y1 : Int).toNat 0).toNat : Nat) : Int), [], []⟩) (c := inR y1 x0.length) (tr2 := []) (H2 := []) (by kernel_rfl) hm (fun hc => rfl) (by kernel_rfl) ?_
      refine RJ.seg 2 [2, 6, 7, 8, 9, 10, 54, 59] (L2 := [(2, .int .i64 x2), (6, .int .i64 0), (7, .int .i64 0), (8, .int .i64 y1), (9, .int .i64 s223.1), (10, .int .i64 s223.2), (54, .bool false), (59, .bool ((decide (((((x0.getD (y1 : Int).toNat 0).toNat : Nat) : Int)) = 48))))]) (H2 := []) (by kernel_rfl) ?_
      refine RJ.caseB 59 (b := (decide (((((x0.getD (y1 : Int).toNat 0).toNat : Nat) : Int)) = 48))) (by kernel_rfl) (fun hb512 => ?_) (fun hb512 => ?_)
      ·have h513 := condT hb512 h511
       refine kC 7 [2,6,7,8,9,10,66] ?_
       refine RJ.caseB 66 (b := (decide ((IntKind.wrap .i64 (s223.1 - y1)) > 1))) (by kernel_rfl) (fun hb515 => ?_) (fun hb515 => ?_)
       ·have h516 := condT hb515 h513
        refine kC 4 [6,7,8,9,10,70] ?_
        refine kE ?_
        obtain rfl := oi h516
        exact kN [6, 7, 8, 9, 10, 70]
       ·have h517 := condF hb515 h513
        refine kC 4 [6,7,8,9,10,70] ?_
        refine kE ?_
        obtain rfl := oi h517
        exact kN [6, 7, 8, 9, 10, 70]
      ·have h514 := condF hb512 h511
       refine kC 11 [6,7,8,9,10,70] ?_
       refine kE ?_
       obtain rfl := oi h514
       exact kN [6, 7, 8, 9, 10, 70]
   ·refine J.caseB 70 (b := s500) (by kernel_rfl) (fun hb518 => ?_) (fun hb518 => ?_)
    ·have h519 := condT hb518 h504
     refine kT ?_
     refine kSR ?_
     refine kC 3 [6,7,9,10] ?_
     refine kEN ?_
     refine kX ?_
     obtain rfl := oi h519
     have h521 := joinX_inr h485
     refine PJ.cutXr (fun e => nomatch e) ?_
     obtain rfl := oi h521
     exact kZ hFn hFH hFD
    ·have h520 := condF hb518 h504
     refine kF ?_
     refine kK ?_
     obtain rfl := oi h520
     exact PJ.cutXl [6, 7, 9, 10] (by kernel_rfl) (by kernel_rfl)
  ·subst hs
   have h486 := joinX_inl h485
   refine kSR ?_
   refine kC 4 [6,7] ?_
   refine kEN ?_
   refine kX ?_
   obtain rfl := oi h486
   exact kZ hFn hFH hFD
def exergueref11_ranges (x0 : List UInt8) (x1 : Int) : Option ((List St41) × Int × Bool) :=
 (loopN (fun (s1 : Int × (List St41)) => (Option.bind (exergueref11_number x0 s1.1 0) fun y120 => (bif (decide (y120.1 < 0)) then (some (.inr (([] : List St41), y120.2, false))) else (Option.bind (exergueref11_over x0 y120.2) fun y128 => (Option.bind (Option.bind (exergueref11_sign x0 y128 ([46, 46] : List UInt8)) fun y151 => (bif y151 then (Option.bind (exergueref11_number x0 (IntKind.wrap .i64 (y128 + 2)) (IntKind.wrap .i64 (y120.1 + 1))) fun y157 => (bif (decide (y157.1 < 0)) then (some (.inr (.inr (([] : List St41), y157.2, false)))) else (some (.inl (y157.2, y157.1))))) else (some (.inl (y120.2, y120.1))))) (joinX fun (s146 : Int × Int) => (bif room (s1.2.length + ([(⟨y120.1, s146.2⟩ : St41)] : List St41).length) then (Option.bind (exergueref11_over x0 s146.1) fun y167 => (Option.bind (exergueref11_sign x0 y167 ([44] : List UInt8)) fun y170 => (bif (!y170) then (some (.inr ((s1.2 ++ ([(⟨y120.1, s146.2⟩ : St41)] : List St41)), s146.1, true))) else (some (.inl ((IntKind.wrap .i64 (y167 + 1)), (s1.2 ++ ([(⟨y120.1, s146.2⟩ : St41)] : List St41)))))))) else none))))))) big (x1, ([] : List St41)))
theorem exergueref11_ranges_ok {x0 : List UInt8} {x1 : Int} {r : (List St41) × Int × Bool} (h : exergueref11_ranges x0 x1 = some r) : SC Tryz.prog 47 [.str x0, .int .i64 x1] [] (.tup [lsv encSt41 2 r.1, .int .i64 r.2.1, .bool r.2.2]) [] := by
 refine kFn (fn := Tryz.f47) (fun F hFn hFH hFD => ?_)
 unfold exergueref11_ranges at h
 refine kSR ?_
 refine kC 3 [0,1,4,5,6] ?_
 refine kEN ?_
 refine kSR ?_
 refine kC 1 [0,1,4,5,6,7] ?_
 refine kEN ?_
 refine K.block 0 (by kernel_rfl) ?_
 refine J.wk (Wk.viv 7 2 41 (by kernel_rfl)) ?_
 refine K.loop (by kernel_rfl) (fun (s1 : Int × (List St41)) => ([(0, .str x0), (1, .int .i64 s1.1), (4, .nl), (5, .int .i64 0), (6, .bool false), (7, .vc 0)], [vecL encSt41 2 41 s1.2])) h [0, 1, 4, 5, 6, 7] (by kernel_rfl) (by kernel_rfl) (fun s1 x119 hs118 => ?_)
 refine K.block 1 (by kernel_rfl) ?_
 refine kSR ?_
 refine kC 2 [0,1,4,5,6,7,16,17] ?_
 obtain ⟨y120, hy121, h122⟩ := bindS hs118
 refine RJ.call0 (d := (some 18)) (f := 46) (args := [.str x0, .int .i64 s1.1, .int .i64 0]) (v := .tup [.int .i64 y120.1, .int .i64 y120.2]) (tr2 := []) (by kernel_rfl) (by kernel_rfl) (.cons (Le.refl _) (.cons (Le.refl _) (.cons (Le.refl _) .nil))) (exergueref11_number_ok hy121) (by kernel_rfl) ?_
 refine kC 5 [0,1,4,5,6,7,8,9] ?_
 refine kEN ?_
 refine kS ?_
 refine kSR ?_
 refine kC 2 [0,1,4,5,6,7,8,9,22] ?_
 refine kEN ?_
 refine J.caseB 22 (b := (decide (y120.1 < 0))) (by kernel_rfl) (fun hb123 => ?_) (fun hb123 => ?_)
 ·have h124 := condT hb123 h122
  refine kT ?_
  refine kSR ?_
  refine RJ.seg 4 [0, 1, 4, 5, 6, 7, 8, 9] (L2 := [(0, .str x0), (1, .int .i64 s1.1), (4, .nl), (5, .int .i64 y120.2), (6, .bool false), (7, .vc 0), (8, .int .i64 y120.1), (9, .int .i64 y120.2)]) (H2 := [vecL encSt41 2 41 s1.2]) (by kernel_rfl) ?_
  refine kEN ?_
  refine kX ?_
  refine PJ.passRet ?_
  refine PJ.blockRet ?_
  obtain rfl := oi h124
  refine PJ.loopOut (fun e => nomatch e) (fun he127 => ?_)
  have h126 := congrArg some he127
  refine PJ.blockRet ?_
  obtain rfl := oi h126
  refine PJ.res (v1 := .tup [.nl, .int .i64 y120.2, .bool false]) (Le.tup (.cons (Le.nl _) (.cons (Le.refl _) (.cons (Le.refl _) .nil)))) ?_
  exact kZ hFn hFH hFD
 ·have h125 := condF hb123 h122
  refine kF ?_
  refine kK ?_
  refine PJ.next ?_
  refine kSR ?_
  refine RJ.seg 2 [0, 1, 4, 5, 6, 7, 8, 9, 10] (L2 := [(0, .str x0), (1, .int .i64 s1.1), (4, .nl), (5, .int .i64 0), (6, .bool false), (7, .vc 0), (8, .int .i64 y120.1), (9, .int .i64 y120.2), (10, .int .i64 y120.1)]) (H2 := [vecL encSt41 2 41 s1.2]) (by kernel_rfl) ?_
  refine kEN ?_
  refine kSR ?_
  refine kC 2 [0,1,4,5,6,7,8,9,10,25,26] ?_
  obtain ⟨y128, hy129, h130⟩ := bindS h125
  refine RJ.call0 (d := (some 27)) (f := 30) (args := [.str x0, .int .i64 y120.2]) (v := .int .i64 y128) (tr2 := []) (by kernel_rfl) (by kernel_rfl) (.cons (Le.refl _) (.cons (Le.refl _) .nil)) (exergueref11_over_ok hy129) (by kernel_rfl) ?_
  refine kC 1 [0,1,4,5,6,7,8,9,10,11] ?_
  refine kEN ?_
  obtain ⟨y147, hy148, h149⟩ := bindS h130
  refine K.cutX (by kernel_rfl) (fun (s146 : Int × Int) => ([(0, .str x0), (1, .int .i64 s1.1), (4, .nl), (5, .int .i64 0), (6, .bool false), (7, .vc 0), (8, .int .i64 y120.1), (9, .int .i64 s146.1), (10, .int .i64 s146.2)], [vecL encSt41 2 41 s1.2])) y147 ?_ (fun s146 hs => ?_)
  ·refine kSR ?_
   refine kC 2 [0,1,4,5,6,7,8,9,10,11,28,29] ?_
   obtain ⟨y151, hy152, h153⟩ := bindS hy148
   refine RJ.call0 (d := (some 30)) (f := 45) (args := [.str x0, .int .i64 y128, .str ([46, 46] : List UInt8)]) (v := .bool y151) (tr2 := []) (by kernel_rfl) (by kernel_rfl) (.cons (Le.refl _) (.cons (Le.refl _) (.cons (Le.refl _) .nil))) (exergueref11_sign_ok hy152) (by kernel_rfl) ?_
   refine kEN ?_
   refine J.caseB 30 (b := y151) (by kernel_rfl) (fun hb154 => ?_) (fun hb154 => ?_)
   ·have h155 := condT hb154 h153
    refine kT ?_
    refine kSR ?_
    refine RJ.seg 5 [0, 1, 4, 5, 6, 7, 8, 9, 10, 32, 34, 36] (L2 := [(0, .str x0), (1, .int .i64 s1.1), (4, .nl), (5, .int .i64 0), (6, .bool false), (7, .vc 0), (8, .int .i64 y120.1), (9, .int .i64 y120.2), (10, .int .i64 y120.1), (32, .str x0), (34, .int .i64 (IntKind.wrap .i64 (y128 + 2))), (36, .int .i64 (IntKind.wrap .i64 (y120.1 + 1)))]) (H2 := [vecL encSt41 2 41 s1.2]) (by kernel_rfl) ?_
    obtain ⟨y157, hy158, h159⟩ := bindS h155
    refine RJ.call0 (d := (some 37)) (f := 46) (args := [.str x0, .int .i64 (IntKind.wrap .i64 (y128 + 2)), .int .i64 (IntKind.wrap .i64 (y120.1 + 1))]) (v := .tup [.int .i64 y157.1, .int .i64 y157.2]) (tr2 := []) (by kernel_rfl) (by kernel_rfl) (.cons (Le.refl _) (.cons (Le.refl _) (.cons (Le.refl _) .nil))) (exergueref11_number_ok hy158) (by kernel_rfl) ?_
    refine kC 5 [0,1,4,5,6,7,8,9,10,12,13] ?_
    refine kEN ?_
    refine kS ?_
    refine kSR ?_
    refine kC 2 [0,1,4,5,6,7,8,9,10,12,13,41] ?_
    refine kEN ?_
    refine J.caseB 41 (b := (decide (y157.1 < 0))) (by kernel_rfl) (fun hb160 => ?_) (fun hb160 => ?_)
    ·have h161 := condT hb160 h159
     refine kT ?_
     refine kSR ?_
     refine kC 4 [0,1,4,5,6,7,8,9,10,12,13] ?_
     refine kEN ?_
     refine kX ?_
     refine PJ.passRet ?_
     obtain rfl := oi h161
     have h163 := joinX_inr h149
     refine PJ.cutXr (fun e => nomatch e) ?_
     refine PJ.blockRet ?_
     obtain rfl := oi h163
     refine PJ.loopOut (fun e => nomatch e) (fun he165 => ?_)
     have h164 := congrArg some he165
     refine PJ.blockRet ?_
     obtain rfl := oi h164
     refine PJ.res (v1 := .tup [.nl, .int .i64 y157.2, .bool false]) (Le.tup (.cons (Le.nl _) (.cons (Le.refl _) (.cons (Le.refl _) .nil)))) ?_
     exact kZ hFn hFH hFD
    ·have h162 := condF hb160 h159
     refine kF ?_
     refine kK ?_
     refine PJ.next ?_
     refine kSR ?_
     refine kC 2 [0,1,4,5,6,7,8,9,10,13] ?_
     refine kEN ?_
     refine kR ?_
     refine RJ.seg 2 [0, 1, 4, 5, 6, 7, 8, 9, 10] (L2 := [(0, .str x0), (1, .int .i64 s1.1), (4, .nl), (5, .int .i64 0), (6, .bool false), (7, .vc 0), (8, .int .i64 y120.1), (9, .int .i64 y157.2), (10, .int .i64 y157.1)]) (H2 := [vecL encSt41 2 41 s1.2]) (by kernel_rfl) ?_
     refine kE ?_
     obtain rfl := oi h162
     exact PJ.cutXl [0, 1, 4, 5, 6, 7, 8, 9, 10] (by kernel_rfl) (by kernel_rfl)
   ·have h156 := condF hb154 h153
    refine kF ?_
    refine kK ?_
    obtain rfl := oi h156
    exact PJ.cutXl [0, 1, 4, 5, 6, 7, 8, 9, 10] (by kernel_rfl) (by kernel_rfl)
  ·subst hs
   have h150 := joinX_inl h149
   refine kSR ?_
   refine kC 5 [0,1,4,5,6,7,9,45,49] ?_
   obtain ⟨hm, h166⟩ := asrt h150
   refine RJ.rel (d := (some 50)) (ef := ⟨.vc 2, [0, 1], [(0, .gone), (2, .vec (s1.2.length + ([(⟨y120.1, s146.2⟩ : St41)] : List St41).length) 2 41 (s1.2.flatMap encSt41 ++ ([(⟨y120.1, s146.2⟩ : St41)] : List St41).flatMap encSt41))]⟩) (ef' := ⟨.vc 2, [0, 1], [(0, .gone), (2, vecL encSt41 2 41 (s1.2 ++ ([(⟨y120.1, s146.2⟩ : St41)] : List St41)))]⟩) (c := room (s1.2.length + ([(⟨y120.1, s146.2⟩ : St41)] : List St41).length)) (tr2 := []) (H2 := [.gone, vecL encSt41 2 41 ([(⟨y120.1, s146.2⟩ : St41)] : List St41), vecL encSt41 2 41 ((s1.2 ++ ([(⟨y120.1, s146.2⟩ : St41)] : List St41)))]) (by kernel_rfl) hm (fun hc => N.app) (by kernel_rfl) ?_
   refine kC 1 [0,1,4,5,6,7,9] ?_
   refine kEN ?_
   refine kSR ?_
   refine kC 2 [0,1,4,5,6,7,9,51,52] ?_
   obtain ⟨y167, hy168, h169⟩ := bindS h166
   refine RJ.call0 (d := (some 53)) (f := 30) (args := [.str x0, .int .i64 s146.1]) (v := .int .i64 y167) (tr2 := []) (by kernel_rfl) (by kernel_rfl) (.cons (Le.refl _) (.cons (Le.refl _) .nil)) (exergueref11_over_ok hy168) (by kernel_rfl) ?_
   refine RJ.seg 1 [0, 1, 4, 5, 6, 7, 9, 14] (L2 := [(0, .str x0), (1, .int .i64 s1.1), (4, .nl), (5, .int .i64 0), (6, .bool false), (7, .vc 2), (9, .int .i64 s146.1), (14, .int .i64 y167)]) (H2 := [.gone, vecL encSt41 2 41 ([(⟨y120.1, s146.2⟩ : St41)] : List St41), vecL encSt41 2 41 ((s1.2 ++ ([(⟨y120.1, s146.2⟩ : St41)] : List St41)))]) (by kernel_rfl) ?_
   refine kEN ?_
   refine kS ?_
   refine kSR ?_
   refine kC 2 [0,1,4,5,6,7,9,14,54,55] ?_
   obtain ⟨y170, hy171, h172⟩ := bindS h169
   refine RJ.call0 (d := (some 56)) (f := 45) (args := [.str x0, .int .i64 y167, .str ([44] : List UInt8)]) (v := .bool y170) (tr2 := []) (by kernel_rfl) (by kernel_rfl) (.cons (Le.refl _) (.cons (Le.refl _) (.cons (Le.refl _) .nil))) (exergueref11_sign_ok hy171) (by kernel_rfl) ?_
   refine kC 1 [0,1,4,5,6,7,9,14,57] ?_
   refine kEN ?_
   refine J.caseB 57 (b := (!y170)) (by kernel_rfl) (fun hb173 => ?_) (fun hb173 => ?_)
   ·have h174 := condT hb173 h172
    refine kT ?_
    refine kSR ?_
    refine kC 5 [0,1,4,5,6,7,14] ?_
    refine kEN ?_
    refine kX ?_
    refine PJ.passRet ?_
    refine PJ.blockRet ?_
    obtain rfl := oi h174
    refine PJ.loopOut (fun e => nomatch e) (fun he177 => ?_)
    have h176 := congrArg some he177
    refine PJ.blockRet ?_
    obtain rfl := oi h176
    refine PJ.wk (Wk.freeze 2 (n := ((s1.2 ++ ([(⟨y120.1, s146.2⟩ : St41)] : List St41))).length) (k := 2) (e := 41) (cs := ((s1.2 ++ ([(⟨y120.1, s146.2⟩ : St41)] : List St41))).flatMap encSt41) (by kernel_rfl)) ?_
    exact kZ hFn hFH hFD
   ·have h175 := condF hb173 h172
    refine kF ?_
    refine kK ?_
    refine PJ.next ?_
    refine kR ?_
    refine kC 3 [0,1,4,5,6,7] ?_
    refine kE ?_
    refine PJ.blockNormal ?_
    obtain rfl := oi h175
    refine PJ.wk (Wk.sel (L2 := [(0, .str x0), (1, .int .i64 (IntKind.wrap .i64 (y167 + 1))), (4, .nl), (5, .int .i64 0), (6, .bool false), (7, .vc 0)]) (H2 := [vecL encSt41 2 41 ((s1.2 ++ ([(⟨y120.1, s146.2⟩ : St41)] : List St41)))]) 0 (by rw [hFH]; rfl) hFD [2] (by kernel_rfl) (by kernel_rfl) (by decide) (by kernel_rfl) (by kernel_rfl) (by kernel_rfl) (by kernel_rfl)) ?_
    exact PJ.loopNext [0, 1, 4, 5, 6, 7] (by kernel_rfl) (by kernel_rfl)
def exergueref11_rel (x0 : List UInt8) (x1 : Int) : Option (St39 × Int × Bool) :=
 (Option.bind (exergueref11_over x0 x1) fun y1 => (Option.bind (Option.bind (Option.bind (exergueref11_word x0 y1) fun y53 => (bif (decide (¬ y53 = (IntKind.wrap .i64 (y1 + 1)))) then (some true) else (bif inR y1 x0.length then (Option.bind (exergueref11_op ((((x0.getD (y1 : Int).toNat 0).toNat : Nat) : Int))) fun y60 => (some (!y60))) else none))) fun (s48 : Bool) => (bif s48 then (some (.inr ((⟨0, 0, false, ([] : List St41)⟩ : St39), y1, false))) else (some (.inl ())))) (joinX fun (s33 : Unit) => (bif inR y1 x0.length then (Option.bind (exergueref11_over x0 (IntKind.wrap .i64 (y1 + 1))) fun y68 => (Option.bind (Option.bind (exergueref11_sign x0 y68 ([37] : List UInt8)) fun y92 => (bif y92 then (Option.bind (exergueref11_number x0 (IntKind.wrap .i64 (y68 + 1)) 1) fun y98 => (bif (decide (y98.1 < 0)) then (some (.inr ((⟨(((x0.getD (y1 : Int).toNat 0).toNat : Nat) : Int), 0, false, ([] : List St41)⟩ : St39), y98.2, false))) else (Option.bind (exergueref11_over x0 y98.2) fun y105 => (some (.inl (y105, y98.1)))))) else (some (.inl (y68, 0))))) (joinX fun (s87 : Int × Int) => (Option.bind (Option.bind (exergueref11_sign x0 s87.1 ([33, 61] : List UInt8)) fun y119 => (bif y119 then (some ((IntKind.wrap .i64 (s87.1 + 1)), true)) else (some (s87.1, false)))) fun (s114 : Int × Bool) => (Option.bind (exergueref11_sign x0 s114.1 ([61] : List UInt8)) fun y125 => (bif (!y125) then (some ((⟨(((x0.getD (y1 : Int).toNat 0).toNat : Nat) : Int), s87.2, s114.2, ([] : List St41)⟩ : St39), s114.1, false)) else (Option.bind (exergueref11_ranges x0 (IntKind.wrap .i64 (s114.1 + 1))) fun y131 => (some ((⟨(((x0.getD (y1 : Int).toNat 0).toNat : Nat) : Int), s87.2, s114.2, y131.1⟩ : St39), y131.2.1, y131.2.2))))))))) else none))))
theorem exergueref11_rel_ok {x0 : List UInt8} {x1 : Int} {r : St39 × Int × Bool} (h : exergueref11_rel x0 x1 = some r) : SC Tryz.prog 29 [.str x0, .int .i64 x1] [] (.tup [.agg (encSt39 r.1), .int .i64 r.2.1, .bool r.2.2]) [] := by
 refine kFn (fn := Tryz.f29) (fun F hFn hFH hFD => ?_)
 unfold exergueref11_rel at h
 refine kSR ?_
 refine kC 3 [0,1,4,5,6] ?_
 refine kEN ?_
 refine kSR ?_
 refine kC 3 [0,1,4,5,6,7] ?_
 refine kEN ?_
 refine kSR ?_
 refine kC 2 [0,1,4,5,6,7,14,15] ?_
 obtain ⟨y1, hy2, h3⟩ := bindS h
 refine RJ.call0 (d := (some 16)) (f := 30) (args := [.str x0, .int .i64 x1]) (v := .int .i64 y1) (tr2 := []) (by kernel_rfl) (by kernel_rfl) (.cons (Le.refl _) (.cons (Le.refl _) .nil)) (exergueref11_over_ok hy2) (by kernel_rfl) ?_
 refine RJ.seg 1 [0, 1, 4, 5, 6, 7] (L2 := [(0, .str x0), (1, .int .i64 y1), (4, .ptr 0 0), (5, .int .i64 0), (6, .bool false), (7, .ptr 1 0)]) (H2 := [.box [.int .u8 0, .int .i64 0, .bool false, .nl], .box [.int .u8 0, .int .i64 0, .bool false, .nl]]) (by kernel_rfl) ?_
 refine kEN ?_
 obtain ⟨y34, hy35, h36⟩ := bindS h3
 refine K.cutX (by kernel_rfl) (fun (s33 : Unit) => ([(0, .str x0), (1, .int .i64 y1), (4, .ptr 0 0), (5, .int .i64 0), (6, .bool false), (7, .ptr 1 0)], [.box [.int .u8 0, .int .i64 0, .bool false, .nl], .box [.int .u8 0, .int .i64 0, .bool false, .nl]])) y34 ?_ (fun s33 hs => ?_)
 ·obtain ⟨s48, hy50, h52⟩ := bindS hy35
  refine K.cutN (by kernel_rfl) (fun (s48 : Bool) => ([(0, .str x0), (1, .int .i64 y1), (4, .ptr 0 0), (5, .int .i64 0), (6, .bool false), (7, .ptr 1 0), (29, .bool s48)], [.box [.int .u8 0, .int .i64 0, .bool false, .nl], .box [.int .u8 0, .int .i64 0, .bool false, .nl]])) s48 ?_ ?_
  ·refine kR ?_
   refine kC 2 [0,1,4,5,6,7,17,18] ?_
   obtain ⟨y53, hy54, h55⟩ := bindS hy50
   refine RJ.call0 (d := (some 19)) (f := 31) (args := [.str x0, .int .i64 y1]) (v := .int .i64 y53) (tr2 := []) (by kernel_rfl) (by kernel_rfl) (.cons (Le.refl _) (.cons (Le.refl _) .nil)) (exergueref11_word_ok hy54) (by kernel_rfl) ?_
   refine kC 4 [0,1,4,5,6,7,23] ?_
   refine RJ.caseB 23 (b := (decide (¬ y53 = (IntKind.wrap .i64 (y1 + 1))))) (by kernel_rfl) (fun hb56 => ?_) (fun hb56 => ?_)
   ·have h57 := condT hb56 h55
    refine kC 6 [0,1,4,5,6,7,29] ?_
    refine kE ?_
    obtain rfl := oi h57
    exact kN [0, 1, 4, 5, 6, 7, 29]
   ·have h58 := condF hb56 h55
    refine kC 2 [0,1,4,5,6,7,23,24,25] ?_
    obtain ⟨hm, h59⟩ := asrt h58
    refine RJ.rel (d := (some 26)) (ef := ⟨.int .u8 (((x0.getD (y1 : Int).toNat 0).toNat : Nat) : Int), [], []⟩) (ef' := ⟨.int .u8 (((x0.getD (y1 : Int).toNat 0).toNat : Nat) : Int), [], []⟩) (c := inR y1 x0.length) (tr2 := []) (H2 := [.box [.int .u8 0, .int .i64 0, .bool false, .nl], .box [.int .u8 0, .int .i64 0, .bool false, .nl]]) (by kernel_rfl) hm (fun hc => rfl) (by kernel_rfl) ?_
    obtain ⟨y60, hy61, h62⟩ := bindS h59
    refine RJ.call0 (d := (some 27)) (f := 44) (args := [.int .u8 ((((x0.getD (y1 : Int).toNat 0).toNat : Nat) : Int))]) (v := .bool y60) (tr2 := []) (by kernel_rfl) (by kernel_rfl) (.cons (Le.refl _) .nil) (exergueref11_op_ok hy61) (by kernel_rfl) ?_
    refine RJ.seg 2 [0, 1, 4, 5, 6, 7, 29] (L2 := [(0, .str x0), (1, .int .i64 y1), (4, .ptr 0 0), (5, .int .i64 0), (6, .bool false), (7, .ptr 1 0), (29, .bool (!y60))]) (H2 := [.box [.int .u8 0, .int .i64 0, .bool false, .nl], .box [.int .u8 0, .int .i64 0, .bool false, .nl]]) (by kernel_rfl) ?_
    refine kE ?_
    obtain rfl := oi h62
    exact kN [0, 1, 4, 5, 6, 7, 29]
  ·refine J.caseB 29 (b := s48) (by kernel_rfl) (fun hb63 => ?_) (fun hb63 => ?_)
   ·have h64 := condT hb63 h52
    refine kT ?_
    refine kSR ?_
    refine kC 5 [0,1,4,5,6,7] ?_
    refine kEN ?_
    refine kX ?_
    obtain rfl := oi h64
    have h66 := joinX_inr h36
    refine PJ.cutXr (fun e => nomatch e) ?_
    obtain rfl := oi h66
    refine PJ.res (v1 := .tup [.agg [.int .u8 0, .int .i64 0, .bool false, .nl], .int .i64 y1, .bool false]) (Le.tup (.cons (Le.agg (.cons (Le.refl _) (.cons (Le.refl _) (.cons (Le.refl _) (.cons (Le.nl _) .nil))))) (.cons (Le.refl _) (.cons (Le.refl _) .nil)))) ?_
    exact kZ hFn hFH hFD
   ·have h65 := condF hb63 h52
    refine kF ?_
    refine kK ?_
    obtain rfl := oi h65
    exact PJ.cutXl [0, 1, 4, 5, 6, 7] (by kernel_rfl) (by kernel_rfl)
 ·subst hs
  have h37 := joinX_inl h36
  refine kSR ?_
  refine kC 2 [0,1,4,5,6,7,32,33] ?_
  obtain ⟨hm, h67⟩ := asrt h37
  refine RJ.rel (d := (some 34)) (ef := ⟨.int .u8 (((x0.getD (y1 : Int).toNat 0).toNat : Nat) : Int), [], []⟩) (ef' := ⟨.int .u8 (((x0.getD (y1 : Int).toNat 0).toNat : Nat) : Int), [], []⟩) (c := inR y1 x0.length) (tr2 := []) (H2 := [.box [.int .u8 0, .int .i64 0, .bool false, .nl], .box [.int .u8 0, .int .i64 0, .bool false, .nl]]) (by kernel_rfl) hm (fun hc => rfl) (by kernel_rfl) ?_
  refine kC 2 [0,1,4,5,6,7] ?_
  refine kEN ?_
  refine kSR ?_
  refine kC 3 [0,1,4,5,6,7,36,38] ?_
  obtain ⟨y68, hy69, h70⟩ := bindS h67
  refine RJ.call0 (d := (some 39)) (f := 30) (args := [.str x0, .int .i64 (IntKind.wrap .i64 (y1 + 1))]) (v := .int .i64 y68) (tr2 := []) (by kernel_rfl) (by kernel_rfl) (.cons (Le.refl _) (.cons (Le.refl _) .nil)) (exergueref11_over_ok hy69) (by kernel_rfl) ?_
  refine RJ.seg 1 [0, 1, 4, 5, 6, 7] (L2 := [(0, .str x0), (1, .int .i64 y68), (4, .ptr 0 0), (5, .int .i64 0), (6, .bool false), (7, .ptr 1 0)]) (H2 := [.box [.int .u8 0, .int .i64 0, .bool false, .nl], .box [.int .u8 ((((x0.getD (y1 : Int).toNat 0).toNat : Nat) : Int)), .int .i64 0, .bool false, .nl]]) (by kernel_rfl) ?_
  refine kEN ?_
  obtain ⟨y88, hy89, h90⟩ := bindS h70
  refine K.cutX (by kernel_rfl) (fun (s87 : Int × Int) => ([(0, .str x0), (1, .int .i64 s87.1), (4, .ptr 0 0), (5, .int .i64 0), (6, .bool false), (7, .ptr 1 0)], [.box [.int .u8 0, .int .i64 0, .bool false, .nl], .box [.int .u8 ((((x0.getD (y1 : Int).toNat 0).toNat : Nat) : Int)), .int .i64 s87.2, .bool false, .nl]])) y88 ?_ (fun s87 hs => ?_)
  ·refine kSR ?_
   refine kC 2 [0,1,4,5,6,7,40,41] ?_
   obtain ⟨y92, hy93, h94⟩ := bindS hy89
   refine RJ.call0 (d := (some 42)) (f := 45) (args := [.str x0, .int .i64 y68, .str ([37] : List UInt8)]) (v := .bool y92) (tr2 := []) (by kernel_rfl) (by kernel_rfl) (.cons (Le.refl _) (.cons (Le.refl _) (.cons (Le.refl _) .nil))) (exergueref11_sign_ok hy93) (by kernel_rfl) ?_
   refine kEN ?_
   refine J.caseB 42 (b := y92) (by kernel_rfl) (fun hb95 => ?_) (fun hb95 => ?_)
   ·have h96 := condT hb95 h94
    refine kT ?_
    refine kSR ?_
    refine kC 3 [0,1,4,5,6,7,44,46] ?_
    obtain ⟨y98, hy99, h100⟩ := bindS h96
    refine RJ.call0 (d := (some 47)) (f := 46) (args := [.str x0, .int .i64 (IntKind.wrap .i64 (y68 + 1)), .int .i64 1]) (v := .tup [.int .i64 y98.1, .int .i64 y98.2]) (tr2 := []) (by kernel_rfl) (by kernel_rfl) (.cons (Le.refl _) (.cons (Le.refl _) (.cons (Le.refl _) .nil))) (exergueref11_number_ok hy99) (by kernel_rfl) ?_
    refine kC 5 [0,1,4,5,6,7,8,9] ?_
    refine kEN ?_
    refine kS ?_
    refine kSR ?_
    refine RJ.seg 2 [0, 1, 4, 5, 6, 7, 8, 9, 51] (L2 := [(0, .str x0), (1, .int .i64 y68), (4, .ptr 0 0), (5, .int .i64 0), (6, .bool false), (7, .ptr 1 0), (8, .int .i64 y98.1), (9, .int .i64 y98.2), (51, .bool (decide (y98.1 < 0)))]) (H2 := [.box [.int .u8 0, .int .i64 0, .bool false, .nl], .box [.int .u8 ((((x0.getD (y1 : Int).toNat 0).toNat : Nat) : Int)), .int .i64 0, .bool false, .nl]]) (by kernel_rfl) ?_
    refine kEN ?_
    refine J.caseB 51 (b := (decide (y98.1 < 0))) (by kernel_rfl) (fun hb101 => ?_) (fun hb101 => ?_)
    ·have h102 := condT hb101 h100
     refine kT ?_
     refine kSR ?_
     refine kC 5 [0,1,4,5,6,7,8,9] ?_
     refine kEN ?_
     refine kX ?_
     refine PJ.passRet ?_
     obtain rfl := oi h102
     have h104 := joinX_inr h90
     refine PJ.cutXr (fun e => nomatch e) ?_
     obtain rfl := oi h104
     refine PJ.res (v1 := .tup [.agg [.int .u8 ((((x0.getD (y1 : Int).toNat 0).toNat : Nat) : Int)), .int .i64 0, .bool false, .nl], .int .i64 y98.2, .bool false]) (Le.tup (.cons (Le.agg (.cons (Le.refl _) (.cons (Le.refl _) (.cons (Le.refl _) (.cons (Le.nl _) .nil))))) (.cons (Le.refl _) (.cons (Le.refl _) .nil)))) ?_
     exact kZ hFn hFH hFD
    ·have h103 := condF hb101 h100
     refine kF ?_
     refine kK ?_
     refine PJ.next ?_
     refine kSR ?_
     refine kC 3 [0,1,4,5,6,7,9] ?_
     refine kEN ?_
     refine kR ?_
     refine kC 2 [0,1,4,5,6,7,56,57] ?_
     obtain ⟨y105, hy106, h107⟩ := bindS h103
     refine RJ.call0 (d := (some 58)) (f := 30) (args := [.str x0, .int .i64 y98.2]) (v := .int .i64 y105) (tr2 := []) (by kernel_rfl) (by kernel_rfl) (.cons (Le.refl _) (.cons (Le.refl _) .nil)) (exergueref11_over_ok hy106) (by kernel_rfl) ?_
     refine kC 1 [0,1,4,5,6,7] ?_
     refine kE ?_
     obtain rfl := oi h107
     exact PJ.cutXl [0, 1, 4, 5, 6, 7] (by kernel_rfl) (by kernel_rfl)
   ·have h97 := condF hb95 h94
    refine kF ?_
    refine kK ?_
    obtain rfl := oi h97
    exact PJ.cutXl [0, 1, 4, 5, 6, 7] (by kernel_rfl) (by kernel_rfl)
  ·subst hs
   have h91 := joinX_inl h90
   obtain ⟨s114, hy116, h118⟩ := bindS h91
   refine K.cutN (by kernel_rfl) (fun (s114 : Int × Bool) => ([(0, .str x0), (1, .int .i64 s114.1), (4, .ptr 0 0), (5, .int .i64 0), (6, .bool false), (7, .ptr 1 0)], [.box [.int .u8 0, .int .i64 0, .bool false, .nl], .box [.int .u8 ((((x0.getD (y1 : Int).toNat 0).toNat : Nat) : Int)), .int .i64 s87.2, .bool s114.2, .nl]])) s114 ?_ ?_
   ·refine kSR ?_
    refine kC 2 [0,1,4,5,6,7,59,60] ?_
    obtain ⟨y119, hy120, h121⟩ := bindS hy116
    refine RJ.call0 (d := (some 61)) (f := 45) (args := [.str x0, .int .i64 s87.1, .str ([33, 61] : List UInt8)]) (v := .bool y119) (tr2 := []) (by kernel_rfl) (by kernel_rfl) (.cons (Le.refl _) (.cons (Le.refl _) (.cons (Le.refl _) .nil))) (exergueref11_sign_ok hy120) (by kernel_rfl) ?_
    refine kEN ?_
    refine J.caseB 61 (b := y119) (by kernel_rfl) (fun hb122 => ?_) (fun hb122 => ?_)
    ·have h123 := condT hb122 h121
     refine kT ?_
     refine kSR ?_
     refine kC 2 [0,1,4,5,6,7] ?_
     refine kEN ?_
     refine kR ?_
     refine kC 3 [0,1,4,5,6,7] ?_
     refine kE ?_
     obtain rfl := oi h123
     exact kN [0, 1, 4, 5, 6, 7]
    ·have h124 := condF hb122 h121
     refine kF ?_
     refine kK ?_
     obtain rfl := oi h124
     exact kN [0, 1, 4, 5, 6, 7]
   ·refine kS ?_
    refine kSR ?_
    refine kC 2 [0,1,4,5,6,7,65,66] ?_
    obtain ⟨y125, hy126, h127⟩ := bindS h118
    refine RJ.call0 (d := (some 67)) (f := 45) (args := [.str x0, .int .i64 s114.1, .str ([61] : List UInt8)]) (v := .bool y125) (tr2 := []) (by kernel_rfl) (by kernel_rfl) (.cons (Le.refl _) (.cons (Le.refl _) (.cons (Le.refl _) .nil))) (exergueref11_sign_ok hy126) (by kernel_rfl) ?_
    refine kC 1 [0,1,4,5,6,7,68] ?_
    refine kEN ?_
    refine J.caseB 68 (b := (!y125)) (by kernel_rfl) (fun hb128 => ?_) (fun hb128 => ?_)
    ·have h129 := condT hb128 h127
     refine kT ?_
     refine kSR ?_
     refine kC 5 [0,1,4,5,6,7] ?_
     refine kEN ?_
     refine kX ?_
     refine PJ.passRet ?_
     obtain rfl := oi h129
     refine PJ.res (v1 := .tup [.agg [.int .u8 ((((x0.getD (y1 : Int).toNat 0).toNat : Nat) : Int)), .int .i64 s87.2, .bool s114.2, .nl], .int .i64 s114.1, .bool false]) (Le.tup (.cons (Le.agg (.cons (Le.refl _) (.cons (Le.refl _) (.cons (Le.refl _) (.cons (Le.nl _) .nil))))) (.cons (Le.refl _) (.cons (Le.refl _) .nil)))) ?_
     exact kZ hFn hFH hFD
    ·have h130 := condF hb128 h127
     refine kF ?_
     refine kK ?_
     refine PJ.next ?_
     refine kSR ?_
     refine kC 3 [4,5,6,7,72,74] ?_
     obtain ⟨y131, hy132, h133⟩ := bindS h130
     refine RJ.call0 (d := (some 75)) (f := 47) (args := [.str x0, .int .i64 (IntKind.wrap .i64 (s114.1 + 1))]) (v := .tup [lsv encSt41 2 y131.1, .int .i64 y131.2.1, .bool y131.2.2]) (tr2 := []) (by kernel_rfl) (by kernel_rfl) (.cons (Le.refl _) (.cons (Le.refl _) .nil)) (exergueref11_ranges_ok hy132) (by kernel_rfl) ?_
     refine RJ.seg 7 [4, 5, 6, 7, 10, 11, 12] (L2 := [(4, .ptr 0 0), (5, .int .i64 0), (6, .bool false), (7, .ptr 1 0), (10, lsv encSt41 2 y131.1), (11, .int .i64 y131.2.1), (12, .bool y131.2.2)]) (H2 := [.box [.int .u8 0, .int .i64 0, .bool false, .nl], .box [.int .u8 ((((x0.getD (y1 : Int).toNat 0).toNat : Nat) : Int)), .int .i64 s87.2, .bool s114.2, .nl]]) (by kernel_rfl) ?_
     refine kEN ?_
     refine kSR ?_
     refine kC 3 [4,5,6,7,11,12] ?_
     refine kEN ?_
     refine kSR ?_
     refine kC 6 [4,5,6] ?_
     refine kEN ?_
     refine kX ?_
     obtain rfl := oi h133
     exact kZ hFn hFH hFD
def exergueref11_Parse (x0 : List UInt8) : Option ((List (List St39)) × Int × Int) :=
 (bif (decide ((x0.length : Int) > 400)) then (some (([] : List (List St39)), 0, 11)) else (Option.bind (loopN (fun (s312 : Int × Bool × Int × (List (List St39)) × (List St39)) => (Option.bind (exergueref11_rel x0 s312.2.2.1) fun y513 => (bif (!y513.2.2) then (some (.inr (.inr (([] : List (List St39)), y513.2.1, 2)))) else (Option.bind (bif s312.2.1 then (some true) else (bif (decide ((y513.1.R_.length : Int) > 20)) then (some true) else (some ((decide ((IntKind.wrap .i64 (s312.1 + 1)) > 20)))))) fun (s528 : Bool) => (bif room (s312.2.2.2.2.length + ([y513.1] : List St39).length) then (Option.bind (exergueref11_over x0 y513.2.1) fun y540 => (bif (decide (y540 = (x0.length : Int))) then (some (.inr (.inl (s528, s312.2.2.2.1, (s312.2.2.2.2 ++ ([y513.1] : List St39)))))) else (Option.bind (exergueref11_word x0 y540) fun y548 => (Option.bind (Option.bind (bif inS y540 y548 x0.length then (bif ((cut x0 y540 y548) != ([97, 110, 100] : List UInt8)) then (bif inS y540 y548 x0.length then (some ((cut x0 y540 y548) != ([111, 114] : List UInt8))) else none) else (some false)) else none) fun (s583 : Bool) => (bif s583 then (some (.inr (.inr (.inr (([] : List (List St39)), y540, 2))))) else (some (.inl ())))) (joinX fun (s573 : Unit) => (Option.bind (bif inS y540 y548 x0.length then (bif ((cut x0 y540 y548) == ([111, 114] : List UInt8)) then (bif room (s312.2.2.2.1.length + (([(s312.2.2.2.2 ++ ([y513.1] : List St39))] : List (List St39))).length) then (some ((s312.2.2.2.1 ++ (([(s312.2.2.2.2 ++ ([y513.1] : List St39))] : List (List St39)))), ([] : List St39))) else none) else (some (s312.2.2.2.1, (s312.2.2.2.2 ++ ([y513.1] : List St39))))) else none) fun (s605 : (List (List St39)) × (List St39)) => (some (.inl ((IntKind.wrap .i64 (s312.1 + 1)), s528, y548, s605.1, s605.2))))))))) else none))))) big (0, false, 0, ([] : List (List St39)), ([] : List St39))) (joinX fun (s307 : Bool × (List (List St39)) × (List St39)) => (bif s307.1 then (some (([] : List (List St39)), 0, 11)) else (bif room (s307.2.1.length + ([s307.2.2] : List (List St39)).length) then (some ((s307.2.1 ++ ([s307.2.2] : List (List St39))), 0, 0)) else none)))))
theorem exergueref11_Parse_ok {x0 : List UInt8} {r : (List (List St39)) × Int × Int} (h : exergueref11_Parse x0 = some r) : SC Tryz.prog 16 [.str x0] [] (.tup [lsv (encL encSt39 4) 1 r.1, .int .i64 r.2.1, .int .i64 r.2.2]) [] := by
 refine kFn (fn := Tryz.f16) (fun F hFn hFH hFD => ?_)
 unfold exergueref11_Parse at h
 refine kSR ?_
 refine kC 3 [0,2,3,4] ?_
 refine kEN ?_
 refine kS ?_
 refine kSR ?_
 refine kC 3 [0,2,3,4,16] ?_
 refine kEN ?_
 refine J.caseB 16 (b := (decide ((x0.length : Int) > 400))) (by kernel_rfl) (fun hb1 => ?_) (fun hb1 => ?_)
 ·have h2 := condT hb1 h
  refine kT ?_
  refine kSR ?_
  refine kC 3 [0,2,3,4] ?_
  refine kEN ?_
  refine kX ?_
  refine PJ.passRet ?_
  obtain rfl := oi h2
  refine PJ.res (v1 := .tup [.nl, .int .i64 0, .int .i64 11]) (Le.tup (.cons (Le.nl _) (.cons (Le.refl _) (.cons (Le.refl _) .nil)))) ?_
  exact kZ hFn hFH hFD
 ·have h3 := condF hb1 h
  refine kF ?_
  refine kK ?_
  refine PJ.next ?_
  refine kSR ?_
  refine kC 1 [0,2,3,4,5] ?_
  refine kEN ?_
  refine kSR ?_
  refine RJ.seg 1 [0, 2, 3, 4, 5, 6] (L2 := [(0, .str x0), (2, .nl), (3, .int .i64 0), (4, .int .i64 0), (5, .nl), (6, .nl)]) (H2 := []) (by kernel_rfl) ?_
  refine kEN ?_
  refine kSR ?_
  refine kC 1 [0,2,3,4,5,6,7] ?_
  refine kEN ?_
  refine kSR ?_
  refine kC 1 [0,2,3,4,5,6,7,8] ?_
  refine kEN ?_
  refine kSR ?_
  refine kC 1 [0,2,3,4,5,6,7,8,9] ?_
  refine kEN ?_
  obtain ⟨y308, hy309, h310⟩ := bindS h3
  refine K.cutX (by kernel_rfl) (fun (s307 : Bool × (List (List St39)) × (List St39)) => ([(2, .nl), (3, .int .i64 0), (4, .int .i64 0), (5, .vc 0), (6, .vc 1), (8, .bool s307.1)], [vecL (encL encSt39 4) 1 37 s307.2.1, vecL encSt39 4 40 s307.2.2])) y308 ?_ (fun s307 hs => ?_)
  ·refine K.block 0 (by kernel_rfl) ?_
   refine J.wk (Wk.viv 5 1 37 (by kernel_rfl)) ?_
   refine J.wk (Wk.viv 6 4 40 (by kernel_rfl)) ?_
   refine K.loop (by kernel_rfl) (fun (s312 : Int × Bool × Int × (List (List St39)) × (List St39)) => ([(0, .str x0), (2, .nl), (3, .int .i64 0), (4, .int .i64 0), (5, .vc 0), (6, .vc 1), (7, .int .i64 s312.1), (8, .bool s312.2.1), (9, .int .i64 s312.2.2.1)], [vecL (encL encSt39 4) 1 37 s312.2.2.2.1, vecL encSt39 4 40 s312.2.2.2.2])) hy309 [0, 2, 3, 4, 5, 6, 7, 8, 9] (by kernel_rfl) (by kernel_rfl) (fun s312 x512 hs511 => ?_)
   refine K.block 1 (by kernel_rfl) ?_
   refine kSR ?_
   refine kC 2 [0,2,3,4,5,6,7,8,9,18,19] ?_
   obtain ⟨y513, hy514, h515⟩ := bindS hs511
   refine RJ.call0 (d := (some 20)) (f := 29) (args := [.str x0, .int .i64 s312.2.2.1]) (v := .tup [.agg (encSt39 y513.1), .int .i64 y513.2.1, .bool y513.2.2]) (tr2 := []) (by kernel_rfl) (by kernel_rfl) (.cons (Le.refl _) (.cons (Le.refl _) .nil)) (exergueref11_rel_ok hy514) (by kernel_rfl) ?_
   refine kC 8 [0,2,3,4,5,6,7,8,9,10,11,12] ?_
   refine kEN ?_
   refine kS ?_
   refine kSR ?_
   refine kC 2 [0,2,3,4,5,6,7,8,9,10,11,25] ?_
   refine kEN ?_
   refine J.caseB 25 (b := (!y513.2.2)) (by kernel_rfl) (fun hb516 => ?_) (fun hb516 => ?_)
   ·have h517 := condT hb516 h515
    refine kT ?_
    refine kSR ?_
    refine RJ.seg 4 [0, 2, 3, 4, 5, 6, 7, 8, 9, 10, 11] (L2 := [(0, .str x0), (2, .nl), (3, .int .i64 y513.2.1), (4, .int .i64 2), (5, .vc 0), (6, .vc 1), (7, .int .i64 s312.1), (8, .bool s312.2.1), (9, .int .i64 s312.2.2.1), (10, .ptr 2 0), (11, .int .i64 y513.2.1)]) (H2 := [vecL (encL encSt39 4) 1 37 s312.2.2.2.1, vecL encSt39 4 40 s312.2.2.2.2, .box (encSt39 y513.1)]) (by kernel_rfl) ?_
    refine kEN ?_
    refine kX ?_
    refine PJ.passRet ?_
    refine PJ.blockRet ?_
    obtain rfl := oi h517
    refine PJ.loopOut (fun e => nomatch e) (fun he521 => ?_)
    have h519 := congrArg some he521
    refine PJ.blockRet ?_
    obtain rfl := oi h519
    have h520 := joinX_inr h310
    refine PJ.cutXr (fun e => nomatch e) ?_
    obtain rfl := oi h520
    refine PJ.res (v1 := .tup [.nl, .int .i64 y513.2.1, .int .i64 2]) (Le.tup (.cons (Le.nl _) (.cons (Le.refl _) (.cons (Le.refl _) .nil)))) ?_
    exact kZ hFn hFH hFD
   ·have h518 := condF hb516 h515
    refine kF ?_
    refine kK ?_
    refine PJ.next ?_
    refine kSR ?_
    refine RJ.seg 3 [0, 2, 3, 4, 5, 6, 7, 8, 9, 10, 11] (L2 := [(0, .str x0), (2, .nl), (3, .int .i64 0), (4, .int .i64 0), (5, .vc 0), (6, .vc 1), (7, .int .i64 (IntKind.wrap .i64 (s312.1 + 1))), (8, .bool s312.2.1), (9, .int .i64 s312.2.2.1), (10, .ptr 2 0), (11, .int .i64 y513.2.1)]) (H2 := [vecL (encL encSt39 4) 1 37 s312.2.2.2.1, vecL encSt39 4 40 s312.2.2.2.2, .box (encSt39 y513.1)]) (by kernel_rfl) ?_
    refine kEN ?_
    obtain ⟨s528, hy530, h532⟩ := bindS h518
    refine K.cutN (by kernel_rfl) (fun (s528 : Bool) => ([(0, .str x0), (2, .nl), (3, .int .i64 0), (4, .int .i64 0), (5, .vc 0), (6, .vc 1), (7, .int .i64 (IntKind.wrap .i64 (s312.1 + 1))), (8, .bool s528), (9, .int .i64 s312.2.2.1), (10, .ptr 2 0), (11, .int .i64 y513.2.1)], [vecL (encL encSt39 4) 1 37 s312.2.2.2.1, vecL encSt39 4 40 s312.2.2.2.2, .box (encSt39 y513.1)])) s528 ?_ ?_
    ·refine kR ?_
     refine kC 2 [0,2,3,4,5,6,7,8,9,10,11,30] ?_
     refine RJ.caseB 30 (b := s312.2.1) (by kernel_rfl) (fun hb533 => ?_) (fun hb533 => ?_)
     ·have h534 := condT hb533 hy530
      refine kC 10 [0,2,3,4,5,6,7,8,9,10,11] ?_
      refine kE ?_
      obtain rfl := oi h534
      exact kN [0, 2, 3, 4, 5, 6, 7, 8, 9, 10, 11]
     ·have h535 := condF hb533 hy530
      refine kC 6 [0,2,3,4,5,6,7,8,9,10,11,36] ?_
      refine RJ.caseB 36 (b := (decide ((y513.1.R_.length : Int) > 20))) (by kernel_rfl) (fun hb536 => ?_) (fun hb536 => ?_)
      ·have h537 := condT hb536 h535
       refine kC 4 [0,2,3,4,5,6,7,8,9,10,11] ?_
       refine kE ?_
       obtain rfl := oi h537
       exact kN [0, 2, 3, 4, 5, 6, 7, 8, 9, 10, 11]
      ·have h538 := condF hb536 h535
       refine kC 4 [0,2,3,4,5,6,7,8,9,10,11] ?_
       refine kE ?_
       obtain rfl := oi h538
       exact kN [0, 2, 3, 4, 5, 6, 7, 8, 9, 10, 11]
    ·refine kSR ?_
     refine kC 3 [0,2,3,4,5,6,7,8,9,11,40,42] ?_
     obtain ⟨hm, h539⟩ := asrt h532
     refine RJ.rel (d := (some 43)) (ef := ⟨.vc 4, [1, 3], [(1, .gone), (4, .vec (s312.2.2.2.2.length + ([y513.1] : List St39).length) 4 40 (s312.2.2.2.2.flatMap encSt39 ++ ([y513.1] : List St39).flatMap encSt39))]⟩) (ef' := ⟨.vc 4, [1, 3], [(1, .gone), (4, vecL encSt39 4 40 (s312.2.2.2.2 ++ ([y513.1] : List St39)))]⟩) (c := room (s312.2.2.2.2.length + ([y513.1] : List St39).length)) (tr2 := []) (H2 := [vecL (encL encSt39 4) 1 37 s312.2.2.2.1, .gone, .box (encSt39 y513.1), vecL encSt39 4 40 ([y513.1] : List St39), vecL encSt39 4 40 (s312.2.2.2.2 ++ ([y513.1] : List St39))]) (by kernel_rfl) hm (fun hc => N.app) (by kernel_rfl) ?_
     refine kC 1 [0,2,3,4,5,6,7,8,9,11] ?_
     refine kEN ?_
     refine kSR ?_
     refine kC 2 [0,2,3,4,5,6,7,8,9,44,45] ?_
     obtain ⟨y540, hy541, h542⟩ := bindS h539
     refine RJ.call0 (d := (some 46)) (f := 30) (args := [.str x0, .int .i64 y513.2.1]) (v := .int .i64 y540) (tr2 := []) (by kernel_rfl) (by kernel_rfl) (.cons (Le.refl _) (.cons (Le.refl _) .nil)) (exergueref11_over_ok hy541) (by kernel_rfl) ?_
     refine RJ.seg 1 [0, 2, 3, 4, 5, 6, 7, 8, 9] (L2 := [(0, .str x0), (2, .nl), (3, .int .i64 0), (4, .int .i64 0), (5, .vc 0), (6, .vc 4), (7, .int .i64 (IntKind.wrap .i64 (s312.1 + 1))), (8, .bool s528), (9, .int .i64 y540)]) (H2 := [vecL (encL encSt39 4) 1 37 s312.2.2.2.1, .gone, .box (encSt39 y513.1), vecL encSt39 4 40 ([y513.1] : List St39), vecL encSt39 4 40 (s312.2.2.2.2 ++ ([y513.1] : List St39))]) (by kernel_rfl) ?_
     refine kEN ?_
     refine kS ?_
     refine kSR ?_
     refine kC 4 [0,2,3,4,5,6,7,8,9,50] ?_
     refine kEN ?_
     refine J.caseB 50 (b := (decide (y540 = (x0.length : Int)))) (by kernel_rfl) (fun hb543 => ?_) (fun hb543 => ?_)
     ·have h544 := condT hb543 h542
      refine kT ?_
      refine K.exit 0 (by kernel_rfl) ?_
      refine PJ.passExit ?_
      refine PJ.blockPass (by kernel_rfl) ?_
      obtain rfl := oi h544
      refine PJ.loopOut (fun e => nomatch e) (fun he547 => ?_)
      have h546 := congrArg some he547
      refine PJ.blockOut ?_
      obtain rfl := oi h546
      refine PJ.wk (Wk.sel (L2 := [(2, .nl), (3, .int .i64 0), (4, .int .i64 0), (5, .vc 0), (6, .vc 1), (8, .bool s528)]) (H2 := [vecL (encL encSt39 4) 1 37 s312.2.2.2.1, vecL encSt39 4 40 (s312.2.2.2.2 ++ ([y513.1] : List St39))]) 0 (by rw [hFH]; rfl) hFD [0, 4] (by kernel_rfl) (by kernel_rfl) (by decide) (by kernel_rfl) (by kernel_rfl) (by kernel_rfl) (by kernel_rfl)) ?_
      exact PJ.cutXl [2, 3, 4, 5, 6, 8] (by kernel_rfl) (by kernel_rfl)
     ·have h545 := condF hb543 h542
      refine kF ?_
      refine kK ?_
      refine PJ.next ?_
      refine kSR ?_
      refine kC 2 [0,2,3,4,5,6,7,8,9,51,52] ?_
      obtain ⟨y548, hy549, h550⟩ := bindS h545
      refine RJ.call0 (d := (some 53)) (f := 31) (args := [.str x0, .int .i64 y540]) (v := .int .i64 y548) (tr2 := []) (by kernel_rfl) (by kernel_rfl) (.cons (Le.refl _) (.cons (Le.refl _) .nil)) (exergueref11_word_ok hy549) (by kernel_rfl) ?_
      refine kC 1 [0,2,3,4,5,6,7,8,9,13] ?_
      refine kEN ?_
      obtain ⟨y574, hy575, h576⟩ := bindS h550
      refine K.cutX (by kernel_rfl) (fun (s573 : Unit) => ([(0, .str x0), (2, .nl), (3, .int .i64 0), (4, .int .i64 0), (5, .vc 0), (6, .vc 1), (7, .int .i64 (IntKind.wrap .i64 (s312.1 + 1))), (8, .bool s528), (9, .int .i64 y540), (13, .int .i64 y548)], [vecL (encL encSt39 4) 1 37 s312.2.2.2.1, vecL encSt39 4 40 (s312.2.2.2.2 ++ ([y513.1] : List St39))])) y574 ?_ (fun s573 hs => ?_)
      ·obtain ⟨s583, hy585, h587⟩ := bindS hy575
       refine K.cutN (by kernel_rfl) (fun (s583 : Bool) => ([(0, .str x0), (2, .nl), (3, .int .i64 0), (4, .int .i64 0), (5, .vc 0), (6, .vc 1), (7, .int .i64 (IntKind.wrap .i64 (s312.1 + 1))), (8, .bool s528), (9, .int .i64 y540), (13, .int .i64 y548), (65, .bool s583)], [vecL (encL encSt39 4) 1 37 s312.2.2.2.1, vecL encSt39 4 40 (s312.2.2.2.2 ++ ([y513.1] : List St39))])) s583 ?_ ?_
       ·refine kR ?_
        refine RJ.seg 3 [0, 2, 3, 4, 5, 6, 7, 8, 9, 13, 54, 55, 56] (L2 := [(0, .str x0), (2, .nl), (3, .int .i64 0), (4, .int .i64 0), (5, .vc 0), (6, .vc 4), (7, .int .i64 (IntKind.wrap .i64 (s312.1 + 1))), (8, .bool s528), (9, .int .i64 y540), (13, .int .i64 y548), (54, .str x0), (55, .int .i64 y540), (56, .int .i64 y548)]) (H2 := [vecL (encL encSt39 4) 1 37 s312.2.2.2.1, .gone, .box (encSt39 y513.1), vecL encSt39 4 40 ([y513.1] : List St39), vecL encSt39 4 40 (s312.2.2.2.2 ++ ([y513.1] : List St39))]) (by kernel_rfl) ?_
        obtain ⟨hm, h588⟩ := asrt hy585
        refine RJ.rel (d := (some 57)) (ef := ⟨.str (cut x0 y540 y548), [], []⟩) (ef' := ⟨.str (cut x0 y540 y548), [], []⟩) (c := inS y540 y548 x0.length) (tr2 := []) (H2 := [vecL (encL encSt39 4) 1 37 s312.2.2.2.1, .gone, .box (encSt39 y513.1), vecL encSt39 4 40 ([y513.1] : List St39), vecL encSt39 4 40 (s312.2.2.2.2 ++ ([y513.1] : List St39))]) (by kernel_rfl) hm (fun hc => rfl) (by kernel_rfl) ?_
        refine kC 2 [0,2,3,4,5,6,7,8,9,13,59] ?_
        refine RJ.caseB 59 (b := ((cut x0 y540 y548) != ([97, 110, 100] : List UInt8))) (by kernel_rfl) (fun hb589 => ?_) (fun hb589 => ?_)
        ·have h590 := condT hb589 h588
         refine kC 3 [0,2,3,4,5,6,7,8,9,13,59,60,61,62] ?_
         obtain ⟨hm, h592⟩ := asrt h590
         refine RJ.rel (d := (some 63)) (ef := ⟨.str (cut x0 y540 y548), [], []⟩) (ef' := ⟨.str (cut x0 y540 y548), [], []⟩) (c := inS y540 y548 x0.length) (tr2 := []) (H2 := [vecL (encL encSt39 4) 1 37 s312.2.2.2.1, .gone, .box (encSt39 y513.1), vecL encSt39 4 40 ([y513.1] : List St39), vecL encSt39 4 40 (s312.2.2.2.2 ++ ([y513.1] : List St39))]) (by kernel_rfl) hm (fun hc => rfl) (by kernel_rfl) ?_
         refine kC 2 [0,2,3,4,5,6,7,8,9,13,65] ?_
         refine kE ?_
         obtain rfl := oi h592
         refine PJ.wk (Wk.sel (L2 := [(0, .str x0), (2, .nl), (3, .int .i64 0), (4, .int .i64 0), (5, .vc 0), (6, .vc 1), (7, .int .i64 (IntKind.wrap .i64 (s312.1 + 1))), (8, .bool s528), (9, .int .i64 y540), (13, .int .i64 y548), (65, .bool ((cut x0 y540 y548) != ([111, 114] : List UInt8)))]) (H2 := [vecL (encL encSt39 4) 1 37 s312.2.2.2.1, vecL encSt39 4 40 (s312.2.2.2.2 ++ ([y513.1] : List St39))]) 0 (by rw [hFH]; rfl) hFD [0, 4] (by kernel_rfl) (by kernel_rfl) (by decide) (by kernel_rfl) (by kernel_rfl) (by kernel_rfl) (by kernel_rfl)) ?_
         exact kN [0, 2, 3, 4, 5, 6, 7, 8, 9, 13, 65]
        ·have h591 := condF hb589 h588
         refine kC 6 [0,2,3,4,5,6,7,8,9,13,65] ?_
         refine kE ?_
         obtain rfl := oi h591
         refine PJ.wk (Wk.sel (L2 := [(0, .str x0), (2, .nl), (3, .int .i64 0), (4, .int .i64 0), (5, .vc 0), (6, .vc 1), (7, .int .i64 (IntKind.wrap .i64 (s312.1 + 1))), (8, .bool s528), (9, .int .i64 y540), (13, .int .i64 y548), (65, .bool false)]) (H2 := [vecL (encL encSt39 4) 1 37 s312.2.2.2.1, vecL encSt39 4 40 (s312.2.2.2.2 ++ ([y513.1] : List St39))]) 0 (by rw [hFH]; rfl) hFD [0, 4] (by kernel_rfl) (by kernel_rfl) (by decide) (by kernel_rfl) (by kernel_rfl) (by kernel_rfl) (by kernel_rfl)) ?_
         exact kN [0, 2, 3, 4, 5, 6, 7, 8, 9, 13, 65]
       ·refine J.caseB 65 (b := s583) (by kernel_rfl) (fun hb593 => ?_) (fun hb593 => ?_)
        ·have h594 := condT hb593 h587
         refine kT ?_
         refine kSR ?_
         refine kC 4 [0,2,3,4,5,6,7,8,9,13] ?_
         refine kEN ?_
         refine kX ?_
         obtain rfl := oi h594
         have h596 := joinX_inr h576
         refine PJ.cutXr (fun e => nomatch e) ?_
         refine PJ.blockRet ?_
         obtain rfl := oi h596
         refine PJ.loopOut (fun e => nomatch e) (fun he599 => ?_)
         have h597 := congrArg some he599
         refine PJ.blockRet ?_
         obtain rfl := oi h597
         have h598 := joinX_inr h310
         refine PJ.cutXr (fun e => nomatch e) ?_
         obtain rfl := oi h598
         refine PJ.res (v1 := .tup [.nl, .int .i64 y540, .int .i64 2]) (Le.tup (.cons (Le.nl _) (.cons (Le.refl _) (.cons (Le.refl _) .nil)))) ?_
         exact kZ hFn hFH hFD
        ·have h595 := condF hb593 h587
         refine kF ?_
         refine kK ?_
         obtain rfl := oi h595
         exact PJ.cutXl [0, 2, 3, 4, 5, 6, 7, 8, 9, 13] (by kernel_rfl) (by kernel_rfl)
      ·subst hs
       have h577 := joinX_inl h576
       obtain ⟨s605, hy607, h609⟩ := bindS h577
       refine K.cutN (by kernel_rfl) (fun (s605 : (List (List St39)) × (List St39)) => ([(0, .str x0), (2, .nl), (3, .int .i64 0), (4, .int .i64 0), (5, .vc 0), (6, .vc 1), (7, .int .i64 (IntKind.wrap .i64 (s312.1 + 1))), (8, .bool s528), (9, .int .i64 y540), (13, .int .i64 y548)], [vecL (encL encSt39 4) 1 37 s605.1, vecL encSt39 4 40 s605.2])) s605 ?_ ?_
       ·refine kSR ?_
        refine kC 3 [0,2,3,4,5,6,7,8,9,13,67,68,69] ?_
        obtain ⟨hm, h610⟩ := asrt hy607
        refine RJ.rel (d := (some 70)) (ef := ⟨.str (cut x0 y540 y548), [], []⟩) (ef' := ⟨.str (cut x0 y540 y548), [], []⟩) (c := inS y540 y548 x0.length) (tr2 := []) (H2 := [vecL (encL encSt39 4) 1 37 s312.2.2.2.1, vecL encSt39 4 40 (s312.2.2.2.2 ++ ([y513.1] : List St39))]) (by kernel_rfl) hm (fun hc => rfl) (by kernel_rfl) ?_
        refine kC 1 [0,2,3,4,5,6,7,8,9,13,71] ?_
        refine kEN ?_
        refine J.caseB 71 (b := ((cut x0 y540 y548) == ([111, 114] : List UInt8))) (by kernel_rfl) (fun hb611 => ?_) (fun hb611 => ?_)
        ·have h612 := condT hb611 h610
         refine kT ?_
         refine kSR ?_
         refine kC 2 [0,2,3,4,5,6,7,8,9,13,72,73] ?_
         refine RJ.wk (Wk.freeze 1 (n := (s312.2.2.2.2 ++ ([y513.1] : List St39)).length) (k := 4) (e := 40) (cs := (s312.2.2.2.2 ++ ([y513.1] : List St39)).flatMap encSt39) (by kernel_rfl)) ?_
         refine RJ.seg 1 [0, 2, 3, 4, 5, 6, 7, 8, 9, 13, 72, 74] (L2 := [(0, .str x0), (2, .nl), (3, .int .i64 0), (4, .int .i64 0), (5, .vc 0), (6, lsv encSt39 4 (s312.2.2.2.2 ++ ([y513.1] : List St39))), (7, .int .i64 (IntKind.wrap .i64 (s312.1 + 1))), (8, .bool s528), (9, .int .i64 y540), (13, .int .i64 y548), (72, .vc 0), (74, .vc 2)]) (H2 := [vecL (encL encSt39 4) 1 37 s312.2.2.2.1, .gone, vecL (encL encSt39 4) 1 37 (([(s312.2.2.2.2 ++ ([y513.1] : List St39))] : List (List St39)))]) (by kernel_rfl) ?_
         obtain ⟨hm, h614⟩ := asrt h612
         refine RJ.rel (d := (some 75)) (ef := ⟨.vc 3, [0, 2], [(0, .gone), (3, .vec (s312.2.2.2.1.length + (([(s312.2.2.2.2 ++ ([y513.1] : List St39))] : List (List St39))).length) 1 37 (s312.2.2.2.1.flatMap (encL encSt39 4) ++ (([(s312.2.2.2.2 ++ ([y513.1] : List St39))] : List (List St39))).flatMap (encL encSt39 4)))]⟩) (ef' := ⟨.vc 3, [0, 2], [(0, .gone), (3, vecL (encL encSt39 4) 1 37 (s312.2.2.2.1 ++ (([(s312.2.2.2.2 ++ ([y513.1] : List St39))] : List (List St39)))))]⟩) (c := room (s312.2.2.2.1.length + (([(s312.2.2.2.2 ++ ([y513.1] : List St39))] : List (List St39))).length)) (tr2 := []) (H2 := [.gone, .gone, vecL (encL encSt39 4) 1 37 (([(s312.2.2.2.2 ++ ([y513.1] : List St39))] : List (List St39))), vecL (encL encSt39 4) 1 37 ((s312.2.2.2.1 ++ (([(s312.2.2.2.2 ++ ([y513.1] : List St39))] : List (List St39)))))]) (by kernel_rfl) hm (fun hc => N.app) (by kernel_rfl) ?_
         refine kC 1 [0,2,3,4,5,6,7,8,9,13] ?_
         refine kEN ?_
         refine kR ?_
         refine kC 1 [0,2,3,4,5,6,7,8,9,13] ?_
         refine kE ?_
         obtain rfl := oi h614
         refine PJ.wk (Wk.viv 6 4 40 (by kernel_rfl)) ?_
         refine PJ.wk (Wk.sel (L2 := [(0, .str x0), (2, .nl), (3, .int .i64 0), (4, .int .i64 0), (5, .vc 0), (6, .vc 1), (7, .int .i64 (IntKind.wrap .i64 (s312.1 + 1))), (8, .bool s528), (9, .int .i64 y540), (13, .int .i64 y548)]) (H2 := [vecL (encL encSt39 4) 1 37 ((s312.2.2.2.1 ++ (([(s312.2.2.2.2 ++ ([y513.1] : List St39))] : List (List St39))))), vecL encSt39 4 40 ([] : List St39)]) 0 (by rw [hFH]; rfl) hFD [3, 4] (by kernel_rfl) (by kernel_rfl) (by decide) (by kernel_rfl) (by kernel_rfl) (by kernel_rfl) (by kernel_rfl)) ?_
         exact kN [0, 2, 3, 4, 5, 6, 7, 8, 9, 13]
        ·have h613 := condF hb611 h610
         refine kF ?_
         refine kK ?_
         obtain rfl := oi h613
         exact kN [0, 2, 3, 4, 5, 6, 7, 8, 9, 13]
       ·refine kR ?_
        refine kC 2 [0,2,3,4,5,6,7,8,9] ?_
        refine kE ?_
        refine PJ.blockNormal ?_
        obtain rfl := oi h609
        exact PJ.loopNext [0, 2, 3, 4, 5, 6, 7, 8, 9] (by kernel_rfl) (by kernel_rfl)
  ·subst hs
   have h311 := joinX_inl h310
   refine kS ?_
   refine kSR ?_
   refine kC 1 [2,3,4,5,6,77] ?_
   refine kEN ?_
   refine J.caseB 77 (b := s307.1) (by kernel_rfl) (fun hb615 => ?_) (fun hb615 => ?_)
   ·have h616 := condT hb615 h311
    refine kT ?_
    refine kSR ?_
    refine kC 3 [2,3,4,5,6] ?_
    refine kEN ?_
    refine kX ?_
    refine PJ.passRet ?_
    obtain rfl := oi h616
    refine PJ.res (v1 := .tup [.nl, .int .i64 0, .int .i64 11]) (Le.tup (.cons (Le.nl _) (.cons (Le.refl _) (.cons (Le.refl _) .nil)))) ?_
    exact kZ hFn hFH hFD
   ·have h617 := condF hb615 h311
    refine kF ?_
    refine kK ?_
    refine PJ.next ?_
    refine kSR ?_
    refine kC 2 [2,3,4,78,79] ?_
    refine RJ.wk (Wk.freeze 1 (n := s307.2.2.length) (k := 4) (e := 40) (cs := s307.2.2.flatMap encSt39) (by kernel_rfl)) ?_
    refine kC 1 [2,3,4,78,80] ?_
    obtain ⟨hm, h618⟩ := asrt h617
    refine RJ.rel (d := (some 81)) (ef := ⟨.vc 3, [0, 2], [(0, .gone), (3, .vec (s307.2.1.length + ([s307.2.2] : List (List St39)).length) 1 37 (s307.2.1.flatMap (encL encSt39 4) ++ ([s307.2.2] : List (List St39)).flatMap (encL encSt39 4)))]⟩) (ef' := ⟨.vc 3, [0, 2], [(0, .gone), (3, vecL (encL encSt39 4) 1 37 (s307.2.1 ++ ([s307.2.2] : List (List St39))))]⟩) (c := room (s307.2.1.length + ([s307.2.2] : List (List St39)).length)) (tr2 := []) (H2 := [.gone, .gone, vecL (encL encSt39 4) 1 37 ([s307.2.2] : List (List St39)), vecL (encL encSt39 4) 1 37 ((s307.2.1 ++ ([s307.2.2] : List (List St39))))]) (by kernel_rfl) hm (fun hc => N.app) (by kernel_rfl) ?_
    refine RJ.seg 3 [2, 3, 4] (L2 := [(2, .vc 3), (3, .int .i64 0), (4, .int .i64 0)]) (H2 := [.gone, .gone, vecL (encL encSt39 4) 1 37 ([s307.2.2] : List (List St39)), vecL (encL encSt39 4) 1 37 ((s307.2.1 ++ ([s307.2.2] : List (List St39))))]) (by kernel_rfl) ?_
    refine kEN ?_
    refine kX ?_
    obtain rfl := oi h618
    refine PJ.wk (Wk.freeze 3 (n := ((s307.2.1 ++ ([s307.2.2] : List (List St39)))).length) (k := 1) (e := 37) (cs := ((s307.2.1 ++ ([s307.2.2] : List (List St39)))).flatMap (encL encSt39 4)) (by kernel_rfl)) ?_
    exact kZ hFn hFH hFD
def exergueref11_Same (x0 : List (List St39)) (x1 : List (List St39)) : Option (Bool) :=
 (bif (decide (¬ (x0.length : Int) = (x1.length : Int))) then (some false) else (Option.bind (loopN (fun (s5244 : Int) => (bif (decide (s5244 < (x0.length : Int))) then (Option.bind (bif inR s5244 x0.length then (bif inR s5244 x1.length then (bif (decide (¬ ((nth x0 s5244).length : Int) = ((nth x1 s5244).length : Int))) then (some (.inr (.inr (.inr false)))) else (loopN (fun (s9619 : Int) => (bif inR s5244 x0.length then (bif (decide (s9619 < ((nth x0 s5244).length : Int))) then (Option.bind (bif inR s5244 x0.length then (bif inR s9619 (nth x0 s5244).length then (bif inR s5244 x1.length then (bif inR s9619 (nth x1 s5244).length then (Option.bind (Option.bind (bif (decide (¬ ((nth (nth x0 s5244) s9619).Op_) = ((nth (nth x1 s5244) s9619).Op_))) then (some true) else (bif (decide (¬ ((nth (nth x0 s5244) s9619).Mod_) = ((nth (nth x1 s5244) s9619).Mod_))) then (some true) else (bif (((nth (nth x0 s5244) s9619).Not_) != ((nth (nth x1 s5244) s9619).Not_)) then (some true) else (some ((decide (¬ ((((nth (nth x0 s5244) s9619).R_).length : Int)) = ((((nth (nth x1 s5244) s9619).R_).length : Int))))))))) fun (s10390 : Bool) => (bif s10390 then (some (.inr (.inr (.inr (.inr (.inr (.inr false))))))) else (some (.inl ())))) (joinX fun (s10376 : Unit) => (loopN (fun (s10415 : Int) => (bif (decide (s10415 < ((((nth (nth x0 s5244) s9619).R_).length : Int)))) then (bif inR s10415 ((nth (nth x0 s5244) s9619).R_).length then (bif inR s10415 ((nth (nth x1 s5244) s9619).R_).length then (bif (!((decide (((nth ((nth (nth x0 s5244) s9619).R_) s10415).a0_) = ((nth ((nth (nth x1 s5244) s9619).R_) s10415).a0_))) && ((decide (((nth ((nth (nth x0 s5244) s9619).R_) s10415).a1_) = ((nth ((nth (nth x1 s5244) s9619).R_) s10415).a1_))) && true))) then (some (.inr (.inr (.inr (.inr (.inr (.inr false))))))) else (some (.inl (IntKind.wrap .i64 (s10415 + 1))))) else none) else none) else (some (.inr (.inl ()))))) big 0))) else none) else none) else none) else none) (joinX fun (s10333 : Unit) => (some (.inl (IntKind.wrap .i64 (s9619 + 1)))))) else (some (.inr (.inl ())))) else none)) big 0)) else none) else none) (joinX fun (s9605 : Unit) => (some (.inl (IntKind.wrap .i64 (s5244 + 1)))))) else (some (.inr (.inl ()))))) big 0) (joinX fun (s5239 : Unit) => (some true))))
theorem exergueref11_Same_ok {x0 : List (List St39)} {x1 : List (List St39)} {r : Bool} (h : exergueref11_Same x0 x1 = some r) : SC Tryz.prog 9 [lsv (encL encSt39 4) 1 x0, lsv (encL encSt39 4) 1 x1] [] (.bool r) [] := by
 refine kFn (fn := Tryz.f9) (fun F hFn hFH hFD => ?_)
 unfold exergueref11_Same at h
 refine kSR ?_
 refine kC 1 [0,1,4] ?_
 refine kEN ?_
 refine kS ?_
 refine kSR ?_
 refine kC 5 [0,1,4,14] ?_
 refine kEN ?_
 refine J.caseB 14 (b := (decide (¬ (x0.length : Int) = (x1.length : Int)))) (by kernel_rfl) (fun hb1 => ?_) (fun hb1 => ?_)
 ·have h2 := condT hb1 h
  refine kT ?_
  refine kSR ?_
  refine kC 1 [0,1,4] ?_
  refine kEN ?_
  refine kX ?_
  refine PJ.passRet ?_
  obtain rfl := oi h2
  exact kZ hFn hFH hFD
 ·have h3 := condF hb1 h
  refine kF ?_
  refine kK ?_
  refine PJ.next ?_
  obtain ⟨y5240, hy5241, h5242⟩ := bindS h3
  refine K.cutX (by kernel_rfl) (fun (s5239 : Unit) => ([(4, .bool false)], [])) y5240 ?_ (fun s5239 hs => ?_)
  ·refine kSR ?_
   refine kC 1 [0,1,4,5] ?_
   refine kEN ?_
   refine K.block 0 (by kernel_rfl) ?_
   refine K.loop (by kernel_rfl) (fun (s5244 : Int) => ([(0, lsv (encL encSt39 4) 1 x0), (1, lsv (encL encSt39 4) 1 x1), (4, .bool false), (5, .int .i64 s5244)], [])) hy5241 [0, 1, 4, 5] (by kernel_rfl) (by kernel_rfl) (fun s5244 x8734 hs8733 => ?_)
   refine kS ?_
   refine kSR ?_
   refine kC 4 [0,1,4,5,18] ?_
   refine kEN ?_
   refine J.caseB 18 (b := (decide (s5244 < (x0.length : Int)))) (by kernel_rfl) (fun hb8735 => ?_) (fun hb8735 => ?_)
   ·have h8736 := condT hb8735 hs8733
    refine kT ?_
    refine kK ?_
    refine PJ.next ?_
    obtain ⟨y9606, hy9607, h9608⟩ := bindS h8736
    refine K.cutX (by kernel_rfl) (fun (s9605 : Unit) => ([(0, lsv (encL encSt39 4) 1 x0), (1, lsv (encL encSt39 4) 1 x1), (4, .bool false), (5, .int .i64 s5244)], [])) y9606 ?_ (fun s9605 hs => ?_)
    ·refine K.block 1 (by kernel_rfl) ?_
     refine kS ?_
     refine kS ?_
     refine J.keep [0, 1, 4, 5] (L2 := [(0, lsv (encL encSt39 4) 1 x0), (1, lsv (encL encSt39 4) 1 x1), (4, .bool false), (5, .int .i64 s5244)]) (by kernel_rfl) ?_
     refine K.draw (by kernel_rfl) (by kernel_rfl) (by kernel_rfl) (H2 := []) (by kernel_rfl) (n := 0) (by kernel_rfl) ?_
     refine kD 2 ?_
     obtain ⟨hm, h9610⟩ := asrt hy9607
     refine RJ.rel (d := (some 23)) (ef := ⟨.ep (((x0.flatMap (encL encSt39 4)).drop ((s5244 : Int).toNat * 1)).take 1), [], []⟩) (ef' := ⟨.ep ((encL encSt39 4) (nth x0 s5244)), [], []⟩) (c := inR s5244 x0.length) (tr2 := [([], []), ([], []), ([], [])]) (H2 := []) (by kernel_rfl) hm (fun hc => N.idx (encL_len encSt39 4) hc) (by kernel_rfl) ?_
     refine kD 4 ?_
     obtain ⟨hm, h9611⟩ := asrt h9610
     refine RJ.rel (d := (some 28)) (ef := ⟨.ep (((x1.flatMap (encL encSt39 4)).drop ((s5244 : Int).toNat * 1)).take 1), [], []⟩) (ef' := ⟨.ep ((encL encSt39 4) (nth x1 s5244)), [], []⟩) (c := inR s5244 x1.length) (tr2 := [([], []), ([], []), ([], []), ([], []), ([], []), ([], []), ([], []), ([], [])]) (H2 := []) (by kernel_rfl) hm (fun hc => N.idx (encL_len encSt39 4) hc) (by kernel_rfl) ?_
     refine RJ.segD 3 (tr2 := [([], []), ([], []), ([], []), ([], []), ([], []), ([], []), ([], []), ([], []), ([], []), ([], []), ([], [])]) (L2 := [(31, .bool ((decide (¬ ((nth x0 s5244).length : Int) = ((nth x1 s5244).length : Int))))), (30, .int .i64 ((nth x1 s5244).length : Int)), (29, lsv encSt39 4 (nth x1 s5244)), (28, .ep [lsv encSt39 4 (nth x1 s5244)]), (27, .int .i64 s5244), (26, lsv (encL encSt39 4) 1 x1), (25, .int .i64 ((nth x0 s5244).length : Int)), (24, lsv encSt39 4 (nth x0 s5244)), (23, .ep [lsv encSt39 4 (nth x0 s5244)]), (22, .int .i64 s5244), (21, lsv (encL encSt39 4) 1 x0), (0, lsv (encL encSt39 4) 1 x0), (1, lsv (encL encSt39 4) 1 x1), (4, .bool false), (5, .int .i64 s5244)]) (H2 := []) (by kernel_rfl) ?_
     refine kEN ?_
     refine J.caseB 31 (b := (decide (¬ ((nth x0 s5244).length : Int) = ((nth x1 s5244).length : Int)))) (by kernel_rfl) (fun hb9612 => ?_) (fun hb9612 => ?_)
     ·have h9613 := condT hb9612 h9611
      refine kT ?_
      refine kSR ?_
      refine kC 1 [0,1,4,5] ?_
      refine kEN ?_
      refine kX ?_
      refine PJ.passRet ?_
      refine PJ.blockRet ?_
      obtain rfl := oi h9613
      have h9615 := joinX_inr h9608
      refine PJ.cutXr (fun e => nomatch e) ?_
      obtain rfl := oi h9615
      refine PJ.loopOut (fun e => nomatch e) (fun he9618 => ?_)
      have h9616 := congrArg some he9618
      refine PJ.blockRet ?_
      obtain rfl := oi h9616
      have h9617 := joinX_inr h5242
      refine PJ.cutXr (fun e => nomatch e) ?_
      obtain rfl := oi h9617
      exact kZ hFn hFH hFD
     ·have h9614 := condF hb9612 h9611
      refine kF ?_
      refine kK ?_
      refine PJ.next ?_
      refine kSR ?_
      refine kC 1 [0,1,4,5,6] ?_
      refine kEN ?_
      refine K.block 2 (by kernel_rfl) ?_
      refine K.loop (by kernel_rfl) (fun (s9619 : Int) => ([(0, lsv (encL encSt39 4) 1 x0), (1, lsv (encL encSt39 4) 1 x1), (4, .bool false), (5, .int .i64 s5244), (6, .int .i64 s9619)], [])) h9614 [0, 1, 4, 5, 6] (by kernel_rfl) (by kernel_rfl) (fun s9619 x10191 hs10190 => ?_)
      refine kS ?_
      refine kSR ?_
      refine kC 3 [0,1,4,5,6,32,33,34] ?_
      obtain ⟨hm, h10192⟩ := asrt hs10190
      refine RJ.rel (d := (some 35)) (ef := ⟨.ep (((x0.flatMap (encL encSt39 4)).drop ((s5244 : Int).toNat * 1)).take 1), [], []⟩) (ef' := ⟨.ep ((encL encSt39 4) (nth x0 s5244)), [], []⟩) (c := inR s5244 x0.length) (tr2 := []) (H2 := []) (by kernel_rfl) hm (fun hc => N.idx (encL_len encSt39 4) hc) (by kernel_rfl) ?_
      refine kC 3 [0,1,4,5,6,38] ?_
      refine kEN ?_
      refine J.caseB 38 (b := (decide (s9619 < ((nth x0 s5244).length : Int)))) (by kernel_rfl) (fun hb10193 => ?_) (fun hb10193 => ?_)
      ·have h10194 := condT hb10193 h10192
       refine kT ?_
       refine kK ?_
       refine PJ.next ?_
       obtain ⟨y10334, hy10335, h10336⟩ := bindS h10194
       refine K.cutX (by kernel_rfl) (fun (s10333 : Unit) => ([(0, lsv (encL encSt39 4) 1 x0), (1, lsv (encL encSt39 4) 1 x1), (4, .bool false), (5, .int .i64 s5244), (6, .int .i64 s9619)], [])) y10334 ?_ (fun s10333 hs => ?_)
       ·refine K.block 3 (by kernel_rfl) ?_
        refine kSR ?_
        refine kC 2 [0,1,4,5,6,41,42] ?_
        obtain ⟨hm, h10338⟩ := asrt hy10335
        refine RJ.rel (d := (some 43)) (ef := ⟨.ep (((x0.flatMap (encL encSt39 4)).drop ((s5244 : Int).toNat * 1)).take 1), [], []⟩) (ef' := ⟨.ep ((encL encSt39 4) (nth x0 s5244)), [], []⟩) (c := inR s5244 x0.length) (tr2 := []) (H2 := []) (by kernel_rfl) hm (fun hc => N.idx (encL_len encSt39 4) hc) (by kernel_rfl) ?_
        refine RJ.seg 2 [0, 1, 4, 5, 6, 44, 45] (L2 := [(0, lsv (encL encSt39 4) 1 x0), (1, lsv (encL encSt39 4) 1 x1), (4, .bool false), (5, .int .i64 s5244), (6, .int .i64 s9619), (44, lsv encSt39 4 (nth x0 s5244)), (45, .int .i64 s9619)]) (H2 := []) (by kernel_rfl) ?_
        obtain ⟨hm, h10339⟩ := asrt h10338
        refine RJ.rel (d := (some 46)) (ef := ⟨.ep ((((nth x0 s5244).flatMap encSt39).drop ((s9619 : Int).toNat * 4)).take 4), [], []⟩) (ef' := ⟨.ep (encSt39 (nth (nth x0 s5244) s9619)), [], []⟩) (c := inR s9619 (nth x0 s5244).length) (tr2 := []) (H2 := []) (by kernel_rfl) hm (fun hc => N.idx encSt39_len hc) (by kernel_rfl) ?_
        refine kC 3 [0,1,4,5,6,7] ?_
        refine kEN ?_
        refine kSR ?_
        refine kC 2 [0,1,4,5,6,7,48,49] ?_
        obtain ⟨hm, h10340⟩ := asrt h10339
        refine RJ.rel (d := (some 50)) (ef := ⟨.ep (((x1.flatMap (encL encSt39 4)).drop ((s5244 : Int).toNat * 1)).take 1), [], []⟩) (ef' := ⟨.ep ((encL encSt39 4) (nth x1 s5244)), [], []⟩) (c := inR s5244 x1.length) (tr2 := []) (H2 := [.box [.int .u8 ((nth (nth x0 s5244) s9619).Op_), .int .i64 ((nth (nth x0 s5244) s9619).Mod_), .bool ((nth (nth x0 s5244) s9619).Not_), lsv encSt41 2 ((nth (nth x0 s5244) s9619).R_)]]) (by kernel_rfl) hm (fun hc => N.idx (encL_len encSt39 4) hc) (by kernel_rfl) ?_
        refine kC 2 [0,1,4,5,6,7,51,52] ?_
        obtain ⟨hm, h10341⟩ := asrt h10340
        refine RJ.rel (d := (some 53)) (ef := ⟨.ep ((((nth x1 s5244).flatMap encSt39).drop ((s9619 : Int).toNat * 4)).take 4), [], []⟩) (ef' := ⟨.ep (encSt39 (nth (nth x1 s5244) s9619)), [], []⟩) (c := inR s9619 (nth x1 s5244).length) (tr2 := []) (H2 := [.box [.int .u8 ((nth (nth x0 s5244) s9619).Op_), .int .i64 ((nth (nth x0 s5244) s9619).Mod_), .bool ((nth (nth x0 s5244) s9619).Not_), lsv encSt41 2 ((nth (nth x0 s5244) s9619).R_)]]) (by kernel_rfl) hm (fun hc => N.idx encSt39_len hc) (by kernel_rfl) ?_
        refine RJ.seg 3 [0, 1, 4, 5, 6, 7, 8] (L2 := [(0, lsv (encL encSt39 4) 1 x0), (1, lsv (encL encSt39 4) 1 x1), (4, .bool false), (5, .int .i64 s5244), (6, .int .i64 s9619), (7, .ptr 0 0), (8, .ptr 1 0)]) (H2 := [.box [.int .u8 ((nth (nth x0 s5244) s9619).Op_), .int .i64 ((nth (nth x0 s5244) s9619).Mod_), .bool ((nth (nth x0 s5244) s9619).Not_), lsv encSt41 2 ((nth (nth x0 s5244) s9619).R_)], .box [.int .u8 ((nth (nth x1 s5244) s9619).Op_), .int .i64 ((nth (nth x1 s5244) s9619).Mod_), .bool ((nth (nth x1 s5244) s9619).Not_), lsv encSt41 2 ((nth (nth x1 s5244) s9619).R_)]]) (by kernel_rfl) ?_
        refine kEN ?_
        obtain ⟨y10377, hy10378, h10379⟩ := bindS h10341
        refine K.cutX (by kernel_rfl) (fun (s10376 : Unit) => ([(0, lsv (encL encSt39 4) 1 x0), (1, lsv (encL encSt39 4) 1 x1), (4, .bool false), (5, .int .i64 s5244), (6, .int .i64 s9619), (7, .ptr 0 0), (8, .ptr 1 0)], [.box [.int .u8 ((nth (nth x0 s5244) s9619).Op_), .int .i64 ((nth (nth x0 s5244) s9619).Mod_), .bool ((nth (nth x0 s5244) s9619).Not_), lsv encSt41 2 ((nth (nth x0 s5244) s9619).R_)], .box [.int .u8 ((nth (nth x1 s5244) s9619).Op_), .int .i64 ((nth (nth x1 s5244) s9619).Mod_), .bool ((nth (nth x1 s5244) s9619).Not_), lsv encSt41 2 ((nth (nth x1 s5244) s9619).R_)]])) y10377 ?_ (fun s10376 hs => ?_)
        ·obtain ⟨s10390, hy10392, h10394⟩ := bindS hy10378
         refine K.cutN (by kernel_rfl) (fun (s10390 : Bool) => ([(0, lsv (encL encSt39 4) 1 x0), (1, lsv (encL encSt39 4) 1 x1), (4, .bool false), (5, .int .i64 s5244), (6, .int .i64 s9619), (7, .ptr 0 0), (8, .ptr 1 0), (82, .bool s10390)], [.box [.int .u8 ((nth (nth x0 s5244) s9619).Op_), .int .i64 ((nth (nth x0 s5244) s9619).Mod_), .bool ((nth (nth x0 s5244) s9619).Not_), lsv encSt41 2 ((nth (nth x0 s5244) s9619).R_)], .box [.int .u8 ((nth (nth x1 s5244) s9619).Op_), .int .i64 ((nth (nth x1 s5244) s9619).Mod_), .bool ((nth (nth x1 s5244) s9619).Not_), lsv encSt41 2 ((nth (nth x1 s5244) s9619).R_)]])) s10390 ?_ ?_
         ·refine kR ?_
          refine kC 6 [0,1,4,5,6,7,8,60] ?_
          refine RJ.caseB 60 (b := (decide (¬ ((nth (nth x0 s5244) s9619).Op_) = ((nth (nth x1 s5244) s9619).Op_)))) (by kernel_rfl) (fun hb10395 => ?_) (fun hb10395 => ?_)
          ·have h10396 := condT hb10395 hy10392
           refine kC 22 [0,1,4,5,6,7,8,82] ?_
           refine kE ?_
           obtain rfl := oi h10396
           exact kN [0, 1, 4, 5, 6, 7, 8, 82]
          ·have h10397 := condF hb10395 hy10392
           refine kC 7 [0,1,4,5,6,7,8,67] ?_
           refine RJ.caseB 67 (b := (decide (¬ ((nth (nth x0 s5244) s9619).Mod_) = ((nth (nth x1 s5244) s9619).Mod_)))) (by kernel_rfl) (fun hb10398 => ?_) (fun hb10398 => ?_)
           ·have h10399 := condT hb10398 h10397
            refine kC 15 [0,1,4,5,6,7,8,82] ?_
            refine kE ?_
            obtain rfl := oi h10399
            exact kN [0, 1, 4, 5, 6, 7, 8, 82]
           ·have h10400 := condF hb10398 h10397
            refine kC 7 [0,1,4,5,6,7,8,74] ?_
            refine RJ.caseB 74 (b := (((nth (nth x0 s5244) s9619).Not_) != ((nth (nth x1 s5244) s9619).Not_))) (by kernel_rfl) (fun hb10401 => ?_) (fun hb10401 => ?_)
            ·have h10402 := condT hb10401 h10400
             refine RJ.seg 8 [0, 1, 4, 5, 6, 7, 8, 82] (L2 := [(0, lsv (encL encSt39 4) 1 x0), (1, lsv (encL encSt39 4) 1 x1), (4, .bool false), (5, .int .i64 s5244), (6, .int .i64 s9619), (7, .ptr 0 0), (8, .ptr 1 0), (82, .bool true)]) (H2 := [.box [.int .u8 ((nth (nth x0 s5244) s9619).Op_), .int .i64 ((nth (nth x0 s5244) s9619).Mod_), .bool ((nth (nth x0 s5244) s9619).Not_), lsv encSt41 2 ((nth (nth x0 s5244) s9619).R_)], .box [.int .u8 ((nth (nth x1 s5244) s9619).Op_), .int .i64 ((nth (nth x1 s5244) s9619).Mod_), .bool ((nth (nth x1 s5244) s9619).Not_), lsv encSt41 2 ((nth (nth x1 s5244) s9619).R_)]]) (by kernel_rfl) ?_
             refine kE ?_
             obtain rfl := oi h10402
             exact kN [0, 1, 4, 5, 6, 7, 8, 82]
            ·have h10403 := condF hb10401 h10400
             refine RJ.seg 8 [0, 1, 4, 5, 6, 7, 8, 82] (L2 := [(0, lsv (encL encSt39 4) 1 x0), (1, lsv (encL encSt39 4) 1 x1), (4, .bool false), (5, .int .i64 s5244), (6, .int .i64 s9619), (7, .ptr 0 0), (8, .ptr 1 0), (82, .bool ((decide (¬ ((((nth (nth x0 s5244) s9619).R_).length : Int)) = ((((nth (nth x1 s5244) s9619).R_).length : Int))))))]) (H2 := [.box [.int .u8 ((nth (nth x0 s5244) s9619).Op_), .int .i64 ((nth (nth x0 s5244) s9619).Mod_), .bool ((nth (nth x0 s5244) s9619).Not_), lsv encSt41 2 ((nth (nth x0 s5244) s9619).R_)], .box [.int .u8 ((nth (nth x1 s5244) s9619).Op_), .int .i64 ((nth (nth x1 s5244) s9619).Mod_), .bool ((nth (nth x1 s5244) s9619).Not_), lsv encSt41 2 ((nth (nth x1 s5244) s9619).R_)]]) (by kernel_rfl) ?_
             refine kE ?_
             obtain rfl := oi h10403
             exact kN [0, 1, 4, 5, 6, 7, 8, 82]
         ·refine J.caseB 82 (b := s10390) (by kernel_rfl) (fun hb10404 => ?_) (fun hb10404 => ?_)
          ·have h10405 := condT hb10404 h10394
           refine kT ?_
           refine kSR ?_
           refine kC 1 [0,1,4,5,6,7,8] ?_
           refine kEN ?_
           refine kX ?_
           obtain rfl := oi h10405
           have h10407 := joinX_inr h10379
           refine PJ.cutXr (fun e => nomatch e) ?_
           refine PJ.blockRet ?_
           obtain rfl := oi h10407
           have h10408 := joinX_inr h10336
           refine PJ.cutXr (fun e => nomatch e) ?_
           obtain rfl := oi h10408
           refine PJ.loopOut (fun e => nomatch e) (fun he10414 => ?_)
           have h10409 := congrArg some he10414
           refine PJ.blockRet ?_
           refine PJ.blockRet ?_
           obtain rfl := oi h10409
           have h10410 := joinX_inr h9608
           refine PJ.cutXr (fun e => nomatch e) ?_
           obtain rfl := oi h10410
           refine PJ.loopOut (fun e => nomatch e) (fun he10413 => ?_)
           have h10411 := congrArg some he10413
           refine PJ.blockRet ?_
           obtain rfl := oi h10411
           have h10412 := joinX_inr h5242
           refine PJ.cutXr (fun e => nomatch e) ?_
           obtain rfl := oi h10412
           exact kZ hFn hFH hFD
          ·have h10406 := condF hb10404 h10394
           refine kF ?_
           refine kK ?_
           obtain rfl := oi h10406
           exact PJ.cutXl [0, 1, 4, 5, 6, 7, 8] (by kernel_rfl) (by kernel_rfl)
        ·subst hs
         have h10380 := joinX_inl h10379
         refine kSR ?_
         refine kC 1 [0,1,4,5,6,7,8,9] ?_
         refine kEN ?_
         refine K.block 4 (by kernel_rfl) ?_
         refine K.loop (by kernel_rfl) (fun (s10415 : Int) => ([(0, lsv (encL encSt39 4) 1 x0), (1, lsv (encL encSt39 4) 1 x1), (4, .bool false), (5, .int .i64 s5244), (6, .int .i64 s9619), (7, .ptr 0 0), (8, .ptr 1 0), (9, .int .i64 s10415)], [.box [.int .u8 ((nth (nth x0 s5244) s9619).Op_), .int .i64 ((nth (nth x0 s5244) s9619).Mod_), .bool ((nth (nth x0 s5244) s9619).Not_), lsv encSt41 2 ((nth (nth x0 s5244) s9619).R_)], .box [.int .u8 ((nth (nth x1 s5244) s9619).Op_), .int .i64 ((nth (nth x1 s5244) s9619).Mod_), .bool ((nth (nth x1 s5244) s9619).Not_), lsv encSt41 2 ((nth (nth x1 s5244) s9619).R_)]])) h10380 [0, 1, 4, 5, 6, 7, 8, 9] (by kernel_rfl) (by kernel_rfl) (fun s10415 x10455 hs10454 => ?_)
         refine kS ?_
         refine kSR ?_
         refine kC 5 [0,1,4,5,6,7,8,9,87] ?_
         refine kEN ?_
         refine J.caseB 87 (b := (decide (s10415 < ((((nth (nth x0 s5244) s9619).R_).length : Int))))) (by kernel_rfl) (fun hb10456 => ?_) (fun hb10456 => ?_)
         ·have h10457 := condT hb10456 hs10454
          refine kT ?_
          refine kK ?_
          refine PJ.next ?_
          refine kS ?_
          refine K.block 5 (by kernel_rfl) ?_
          refine kS ?_
          refine J.keep [0, 1, 4, 5, 6, 7, 8, 9] (L2 := [(0, lsv (encL encSt39 4) 1 x0), (1, lsv (encL encSt39 4) 1 x1), (4, .bool false), (5, .int .i64 s5244), (6, .int .i64 s9619), (7, .ptr 0 0), (8, .ptr 1 0), (9, .int .i64 s10415)]) (by kernel_rfl) ?_
          refine K.draw (by kernel_rfl) (by kernel_rfl) (by kernel_rfl) (H2 := [.box [.int .u8 ((nth (nth x0 s5244) s9619).Op_), .int .i64 ((nth (nth x0 s5244) s9619).Mod_), .bool ((nth (nth x0 s5244) s9619).Not_), lsv encSt41 2 ((nth (nth x0 s5244) s9619).R_)], .box [.int .u8 ((nth (nth x1 s5244) s9619).Op_), .int .i64 ((nth (nth x1 s5244) s9619).Mod_), .bool ((nth (nth x1 s5244) s9619).Not_), lsv encSt41 2 ((nth (nth x1 s5244) s9619).R_)]]) (by kernel_rfl) (n := 2) (by kernel_rfl) ?_
          refine kD 3 ?_
          obtain ⟨hm, h10459⟩ := asrt h10457
          refine RJ.rel (d := (some 93)) (ef := ⟨.ep (((((nth (nth x0 s5244) s9619).R_).flatMap encSt41).drop ((s10415 : Int).toNat * 2)).take 2), [], []⟩) (ef' := ⟨.ep (encSt41 (nth ((nth (nth x0 s5244) s9619).R_) s10415)), [], []⟩) (c := inR s10415 ((nth (nth x0 s5244) s9619).R_).length) (tr2 := [([], []), ([0, 1], []), ([], []), ([], [])]) (H2 := [.box [.int .u8 ((nth (nth x0 s5244) s9619).Op_), .int .i64 ((nth (nth x0 s5244) s9619).Mod_), .bool ((nth (nth x0 s5244) s9619).Not_), lsv encSt41 2 ((nth (nth x0 s5244) s9619).R_)], .box [.int .u8 ((nth (nth x1 s5244) s9619).Op_), .int .i64 ((nth (nth x1 s5244) s9619).Mod_), .bool ((nth (nth x1 s5244) s9619).Not_), lsv encSt41 2 ((nth (nth x1 s5244) s9619).R_)]]) (by kernel_rfl) hm (fun hc => N.idx encSt41_len hc) (by kernel_rfl) ?_
          refine kD 4 ?_
          obtain ⟨hm, h10460⟩ := asrt h10459
          refine RJ.rel (d := (some 98)) (ef := ⟨.ep (((((nth (nth x1 s5244) s9619).R_).flatMap encSt41).drop ((s10415 : Int).toNat * 2)).take 2), [], []⟩) (ef' := ⟨.ep (encSt41 (nth ((nth (nth x1 s5244) s9619).R_) s10415)), [], []⟩) (c := inR s10415 ((nth (nth x1 s5244) s9619).R_).length) (tr2 := [([], []), ([0, 1], []), ([], []), ([], []), ([], []), ([], []), ([2, 3], []), ([], []), ([], [])]) (H2 := [.box [.int .u8 ((nth (nth x0 s5244) s9619).Op_), .int .i64 ((nth (nth x0 s5244) s9619).Mod_), .bool ((nth (nth x0 s5244) s9619).Not_), lsv encSt41 2 ((nth (nth x0 s5244) s9619).R_)], .box [.int .u8 ((nth (nth x1 s5244) s9619).Op_), .int .i64 ((nth (nth x1 s5244) s9619).Mod_), .bool ((nth (nth x1 s5244) s9619).Not_), lsv encSt41 2 ((nth (nth x1 s5244) s9619).R_)]]) (by kernel_rfl) hm (fun hc => N.idx encSt41_len hc) (by kernel_rfl) ?_
          refine RJ.segD 2 (tr2 := [([], []), ([0, 1], []), ([], []), ([], []), ([], []), ([], []), ([2, 3], []), ([], []), ([], []), ([], []), ([], [])]) (L2 := [(100, .bool ((!((decide (((nth ((nth (nth x0 s5244) s9619).R_) s10415).a0_) = ((nth ((nth (nth x1 s5244) s9619).R_) s10415).a0_))) && ((decide (((nth ((nth (nth x0 s5244) s9619).R_) s10415).a1_) = ((nth ((nth (nth x1 s5244) s9619).R_) s10415).a1_))) && true))))), (99, .agg [.int .i64 ((nth ((nth (nth x1 s5244) s9619).R_) s10415).a0_), .int .i64 ((nth ((nth (nth x1 s5244) s9619).R_) s10415).a1_)]), (98, .ep [.int .i64 ((nth ((nth (nth x1 s5244) s9619).R_) s10415).a0_), .int .i64 ((nth ((nth (nth x1 s5244) s9619).R_) s10415).a1_)]), (97, .int .i64 s10415), (96, lsv encSt41 2 ((nth (nth x1 s5244) s9619).R_)), (95, .ptr 1 3), (94, .agg [.int .i64 ((nth ((nth (nth x0 s5244) s9619).R_) s10415).a0_), .int .i64 ((nth ((nth (nth x0 s5244) s9619).R_) s10415).a1_)]), (93, .ep [.int .i64 ((nth ((nth (nth x0 s5244) s9619).R_) s10415).a0_), .int .i64 ((nth ((nth (nth x0 s5244) s9619).R_) s10415).a1_)]), (92, .int .i64 s10415), (91, lsv encSt41 2 ((nth (nth x0 s5244) s9619).R_)), (90, .ptr 0 3), (0, lsv (encL encSt39 4) 1 x0), (1, lsv (encL encSt39 4) 1 x1), (4, .bool false), (5, .int .i64 s5244), (6, .int .i64 s9619), (7, .ptr 0 0), (8, .ptr 1 0), (9, .int .i64 s10415)]) (H2 := [.box [.int .u8 ((nth (nth x0 s5244) s9619).Op_), .int .i64 ((nth (nth x0 s5244) s9619).Mod_), .bool ((nth (nth x0 s5244) s9619).Not_), lsv encSt41 2 ((nth (nth x0 s5244) s9619).R_)], .box [.int .u8 ((nth (nth x1 s5244) s9619).Op_), .int .i64 ((nth (nth x1 s5244) s9619).Mod_), .bool ((nth (nth x1 s5244) s9619).Not_), lsv encSt41 2 ((nth (nth x1 s5244) s9619).R_)]]) (by kernel_rfl) ?_
          refine kEN ?_
          refine J.caseB 100 (b := (!((decide (((nth ((nth (nth x0 s5244) s9619).R_) s10415).a0_) = ((nth ((nth (nth x1 s5244) s9619).R_) s10415).a0_))) && ((decide (((nth ((nth (nth x0 s5244) s9619).R_) s10415).a1_) = ((nth ((nth (nth x1 s5244) s9619).R_) s10415).a1_))) && true)))) (by kernel_rfl) (fun hb10461 => ?_) (fun hb10461 => ?_)
          ·have h10462 := condT hb10461 h10460
           refine kT ?_
           refine kSR ?_
           refine kC 1 [0,1,4,5,6,7,8,9] ?_
           refine kEN ?_
           refine kX ?_
           refine PJ.blockRet ?_
           refine PJ.passRet ?_
           obtain rfl := oi h10462
           refine PJ.loopOut (fun e => nomatch e) (fun he10472 => ?_)
           have h10464 := congrArg some he10472
           refine PJ.blockRet ?_
           refine PJ.blockRet ?_
           obtain rfl := oi h10464
           have h10465 := joinX_inr h10336
           refine PJ.cutXr (fun e => nomatch e) ?_
           obtain rfl := oi h10465
           refine PJ.loopOut (fun e => nomatch e) (fun he10471 => ?_)
           have h10466 := congrArg some he10471
           refine PJ.blockRet ?_
           refine PJ.blockRet ?_
           obtain rfl := oi h10466
           have h10467 := joinX_inr h9608
           refine PJ.cutXr (fun e => nomatch e) ?_
           obtain rfl := oi h10467
           refine PJ.loopOut (fun e => nomatch e) (fun he10470 => ?_)
           have h10468 := congrArg some he10470
           refine PJ.blockRet ?_
           obtain rfl := oi h10468
           have h10469 := joinX_inr h5242
           refine PJ.cutXr (fun e => nomatch e) ?_
           obtain rfl := oi h10469
           exact kZ hFn hFH hFD
          ·have h10463 := condF hb10461 h10460
           refine kF ?_
           refine kK ?_
           refine PJ.blockNormal ?_
           refine PJ.next ?_
           refine kR ?_
           refine kC 3 [0,1,4,5,6,7,8,9] ?_
           refine kE ?_
           obtain rfl := oi h10463
           exact PJ.loopNext [0, 1, 4, 5, 6, 7, 8, 9] (by kernel_rfl) (by kernel_rfl)
         ·have h10458 := condF hb10456 hs10454
          refine kF ?_
          refine K.exit 4 (by kernel_rfl) ?_
          refine PJ.passExit ?_
          obtain rfl := oi h10458
          refine PJ.loopOut (fun e => nomatch e) (fun he10474 => ?_)
          have h10473 := congrArg some he10474
          refine PJ.blockOut ?_
          refine PJ.blockNormal ?_
          obtain rfl := oi h10473
          refine PJ.wk (Wk.sel (L2 := [(0, lsv (encL encSt39 4) 1 x0), (1, lsv (encL encSt39 4) 1 x1), (4, .bool false), (5, .int .i64 s5244), (6, .int .i64 s9619)]) (H2 := []) 0 (by rw [hFH]; rfl) hFD [] (by kernel_rfl) (by kernel_rfl) (by decide) (by kernel_rfl) (by kernel_rfl) (by kernel_rfl) (by kernel_rfl)) ?_
          exact PJ.cutXl [0, 1, 4, 5, 6] (by kernel_rfl) (by kernel_rfl)
       ·subst hs
        have h10337 := joinX_inl h10336
        refine kR ?_
        refine kC 3 [0,1,4,5,6] ?_
        refine kE ?_
        obtain rfl := oi h10337
        exact PJ.loopNext [0, 1, 4, 5, 6] (by kernel_rfl) (by kernel_rfl)
      ·have h10195 := condF hb10193 h10192
       refine kF ?_
       refine K.exit 2 (by kernel_rfl) ?_
       refine PJ.passExit ?_
       obtain rfl := oi h10195
       refine PJ.loopOut (fun e => nomatch e) (fun he10476 => ?_)
       have h10475 := congrArg some he10476
       refine PJ.blockOut ?_
       refine PJ.blockNormal ?_
       obtain rfl := oi h10475
       exact PJ.cutXl [0, 1, 4, 5] (by kernel_rfl) (by kernel_rfl)
    ·subst hs
     have h9609 := joinX_inl h9608
     refine kR ?_
     refine kC 3 [0,1,4,5] ?_
     refine kE ?_
     obtain rfl := oi h9609
     exact PJ.loopNext [0, 1, 4, 5] (by kernel_rfl) (by kernel_rfl)
   ·have h8737 := condF hb8735 hs8733
    refine kF ?_
    refine K.exit 0 (by kernel_rfl) ?_
    refine PJ.passExit ?_
    obtain rfl := oi h8737
    refine PJ.loopOut (fun e => nomatch e) (fun he10478 => ?_)
    have h10477 := congrArg some he10478
    refine PJ.blockOut ?_
    obtain rfl := oi h10477
    exact PJ.cutXl [4] (by kernel_rfl) (by kernel_rfl)
  ·subst hs
   have h5243 := joinX_inl h5242
   refine kSR ?_
   refine kC 1 [4] ?_
   refine kEN ?_
   refine kX ?_
   obtain rfl := oi h5243
   exact kZ hFn hFH hFD
def exergueref11_Right (x0 : List (List St39)) : Option (Bool) :=
 (Option.bind (exergueref11_Text x0) fun y1 => (Option.bind (exergueref11_Parse y1) fun y4 => (Option.bind (bif (decide (y4.2.2 = 0)) then (Option.bind (exergueref11_Same x0 y4.1) fun y21 => (some y21)) else (some false)) fun (s13 : Bool) => (some s13))))
theorem exergueref11_Right_ok {x0 : List (List St39)} {r : Bool} (h : exergueref11_Right x0 = some r) : SC Tryz.prog 6 [lsv (encL encSt39 4) 1 x0] [] (.bool r) [] := by
 refine kFn (fn := Tryz.f6) (fun F hFn hFH hFD => ?_)
 unfold exergueref11_Right at h
 refine kSR ?_
 refine kC 1 [0,2] ?_
 refine kEN ?_
 refine kSR ?_
 refine kC 1 [0,2,7] ?_
 obtain ⟨y1, hy2, h3⟩ := bindS h
 refine RJ.call0 (d := (some 8)) (f := 11) (args := [lsv (encL encSt39 4) 1 x0]) (v := .str y1) (tr2 := []) (by kernel_rfl) (by kernel_rfl) (.cons (Le.refl _) .nil) (exergueref11_Text_ok hy2) (by kernel_rfl) ?_
 obtain ⟨y4, hy5, h6⟩ := bindS h3
 refine RJ.call0 (d := (some 9)) (f := 16) (args := [.str y1]) (v := .tup [lsv (encL encSt39 4) 1 y4.1, .int .i64 y4.2.1, .int .i64 y4.2.2]) (tr2 := []) (by kernel_rfl) (by kernel_rfl) (.cons (Le.refl _) .nil) (exergueref11_Parse_ok hy5) (by kernel_rfl) ?_
 refine kC 7 [0,2,3,5] ?_
 refine kEN ?_
 obtain ⟨s13, hy15, h17⟩ := bindS h6
 refine K.cutN (by kernel_rfl) (fun (s13 : Bool) => ([(2, .bool s13)], [])) s13 ?_ ?_
 ·refine kR ?_
  refine RJ.seg 3 [0, 2, 3, 15] (L2 := [(0, lsv (encL encSt39 4) 1 x0), (2, .bool false), (3, lsv (encL encSt39 4) 1 y4.1), (15, .bool (decide (y4.2.2 = 0)))]) (H2 := []) (by kernel_rfl) ?_
  refine RJ.caseB 15 (b := (decide (y4.2.2 = 0))) (by kernel_rfl) (fun hb18 => ?_) (fun hb18 => ?_)
  ·have h19 := condT hb18 hy15
   refine kC 2 [2,15,16,17] ?_
   obtain ⟨y21, hy22, h23⟩ := bindS h19
   refine RJ.call0 (d := (some 18)) (f := 9) (args := [lsv (encL encSt39 4) 1 x0, lsv (encL encSt39 4) 1 y4.1]) (v := .bool y21) (tr2 := []) (by kernel_rfl) (by kernel_rfl) (.cons (Le.refl _) (.cons (Le.refl _) .nil)) (exergueref11_Same_ok hy22) (by kernel_rfl) ?_
   refine kC 2 [2] ?_
   refine kE ?_
   obtain rfl := oi h23
   exact kN [2]
  ·have h20 := condF hb18 hy15
   refine kC 5 [2] ?_
   refine kE ?_
   obtain rfl := oi h20
   exact kN [2]
 ·refine kX ?_
  obtain rfl := oi h17
  exact kZ hFn hFH hFD
def exergueref07_Figures (x0 : List Int) : Option (Bool) :=
 (Option.bind (loopN (fun (s45 : Int) => (bif (decide (s45 < (x0.length : Int))) then (bif inR s45 x0.length then (bif (decide ((nth x0 s45) > 9)) then (some (.inr (.inr false))) else (some (.inl (IntKind.wrap .i64 (s45 + 1))))) else none) else (some (.inr (.inl ()))))) big 0) (joinX fun (s40 : Unit) => (some true)))
theorem exergueref07_Figures_ok {x0 : List Int} {r : Bool} (h : exergueref07_Figures x0 = some r) : SC Tryz.prog 23 [lsv (encI .u8) 1 x0] [] (.bool r) [] := by
 refine kFn (fn := Tryz.f23) (fun F hFn hFH hFD => ?_)
 unfold exergueref07_Figures at h
 refine kSR ?_
 refine kC 1 [0,2] ?_
 refine kEN ?_
 obtain ⟨y41, hy42, h43⟩ := bindS h
 refine K.cutX (by kernel_rfl) (fun (s40 : Unit) => ([(2, .bool false)], [])) y41 ?_ (fun s40 hs => ?_)
 ·refine kSR ?_
  refine kC 1 [0,2,3] ?_
  refine kEN ?_
  refine K.block 0 (by kernel_rfl) ?_
  refine K.loop (by kernel_rfl) (fun (s45 : Int) => ([(0, lsv (encI .u8) 1 x0), (2, .bool false), (3, .int .i64 s45)], [])) hy42 [0, 2, 3] (by kernel_rfl) (by kernel_rfl) (fun s45 x71 hs70 => ?_)
  refine kS ?_
  refine kSR ?_
  refine kC 4 [0,2,3,7] ?_
  refine kEN ?_
  refine J.caseB 7 (b := (decide (s45 < (x0.length : Int)))) (by kernel_rfl) (fun hb72 => ?_) (fun hb72 => ?_)
  ·have h73 := condT hb72 hs70
   refine kT ?_
   refine kK ?_
   refine PJ.next ?_
   refine kS ?_
   refine K.block 1 (by kernel_rfl) ?_
   refine kSR ?_
   refine kC 2 [0,2,3,10,11] ?_
   obtain ⟨hm, h75⟩ := asrt h73
   refine RJ.rel (d := (some 12)) (ef := ⟨.ep (((x0.flatMap (encI .u8)).drop ((s45 : Int).toNat * 1)).take 1), [], []⟩) (ef' := ⟨.ep ((encI .u8) (nth x0 s45)), [], []⟩) (c := inR s45 x0.length) (tr2 := []) (H2 := []) (by kernel_rfl) hm (fun hc => N.idx (encI_len .u8) hc) (by kernel_rfl) ?_
   refine kC 2 [0,2,3,14] ?_
   refine kEN ?_
   refine J.caseB 14 (b := (decide ((nth x0 s45) > 9))) (by kernel_rfl) (fun hb76 => ?_) (fun hb76 => ?_)
   ·have h77 := condT hb76 h75
    refine kT ?_
    refine kSR ?_
    refine RJ.seg 1 [0, 2, 3] (L2 := [(0, lsv (encI .u8) 1 x0), (2, .bool false), (3, .int .i64 s45)]) (H2 := []) (by kernel_rfl) ?_
    refine kEN ?_
    refine kX ?_
    refine PJ.blockRet ?_
    refine PJ.passRet ?_
    obtain rfl := oi h77
    refine PJ.loopOut (fun e => nomatch e) (fun he81 => ?_)
    have h79 := congrArg some he81
    refine PJ.blockRet ?_
    obtain rfl := oi h79
    have h80 := joinX_inr h43
    refine PJ.cutXr (fun e => nomatch e) ?_
    obtain rfl := oi h80
    exact kZ hFn hFH hFD
   ·have h78 := condF hb76 h75
    refine kF ?_
    refine kK ?_
    refine PJ.blockNormal ?_
    refine PJ.next ?_
    refine kR ?_
    refine RJ.seg 3 [0, 2, 3] (L2 := [(0, lsv (encI .u8) 1 x0), (2, .bool false), (3, .int .i64 (IntKind.wrap .i64 (s45 + 1)))]) (H2 := []) (by kernel_rfl) ?_
    refine kE ?_
    obtain rfl := oi h78
    exact PJ.loopNext [0, 2, 3] (by kernel_rfl) (by kernel_rfl)
  ·have h74 := condF hb72 hs70
   refine kF ?_
   refine K.exit 0 (by kernel_rfl) ?_
   refine PJ.passExit ?_
   obtain rfl := oi h74
   refine PJ.loopOut (fun e => nomatch e) (fun he83 => ?_)
   have h82 := congrArg some he83
   refine PJ.blockOut ?_
   obtain rfl := oi h82
   exact PJ.cutXl [2] (by kernel_rfl) (by kernel_rfl)
 ·subst hs
  have h44 := joinX_inl h43
  refine kSR ?_
  refine kC 1 [2] ?_
  refine kEN ?_
  refine kX ?_
  obtain rfl := oi h44
  exact kZ hFn hFH hFD
def exergueref07_Full (x0 : List Int) : Option (Int) :=
 (Option.bind (loopN (fun (s63 : Int × Int) => (bif (decide (s63.2 < (x0.length : Int))) then (Option.bind (bif inR s63.2 x0.length then (bif (decide (¬ (nth x0 s63.2) = 0)) then (some (IntKind.wrap .i64 (s63.2 + 1))) else (some s63.1)) else none) fun (s109 : Int) => (some (.inl (s109, (IntKind.wrap .i64 (s63.2 + 1)))))) else (some (.inr s63.1)))) big (0, 0)) fun (s58 : Int) => (some s58))
theorem exergueref07_Full_ok {x0 : List Int} {r : Int} (h : exergueref07_Full x0 = some r) : SC Tryz.prog 24 [lsv (encI .u8) 1 x0] [] (.int .i64 r) [] := by
 refine kFn (fn := Tryz.f24) (fun F hFn hFH hFD => ?_)
 unfold exergueref07_Full at h
 refine kSR ?_
 refine kC 1 [0,2] ?_
 refine kEN ?_
 refine kSR ?_
 refine kC 1 [0,2,3] ?_
 refine kEN ?_
 obtain ⟨s58, hy60, h62⟩ := bindS h
 refine K.cutN (by kernel_rfl) (fun (s58 : Int) => ([(2, .int .i64 0), (3, .int .i64 s58)], [])) s58 ?_ ?_
 ·refine kSR ?_
  refine kC 1 [0,2,3,4] ?_
  refine kEN ?_
  refine K.block 0 (by kernel_rfl) ?_
  refine K.loop (by kernel_rfl) (fun (s63 : Int × Int) => ([(0, lsv (encI .u8) 1 x0), (2, .int .i64 0), (3, .int .i64 s63.1), (4, .int .i64 s63.2)], [])) hy60 [0, 2, 3, 4] (by kernel_rfl) (by kernel_rfl) (fun s63 x101 hs100 => ?_)
  refine kS ?_
  refine kSR ?_
  refine kC 4 [0,2,3,4,8] ?_
  refine kEN ?_
  refine J.caseB 8 (b := (decide (s63.2 < (x0.length : Int)))) (by kernel_rfl) (fun hb102 => ?_) (fun hb102 => ?_)
  ·have h103 := condT hb102 hs100
   refine kT ?_
   refine kK ?_
   refine PJ.next ?_
   obtain ⟨s109, hy111, h113⟩ := bindS h103
   refine K.cutN (by kernel_rfl) (fun (s109 : Int) => ([(0, lsv (encI .u8) 1 x0), (2, .int .i64 0), (3, .int .i64 s109), (4, .int .i64 s63.2)], [])) s109 ?_ ?_
   ·refine K.block 1 (by kernel_rfl) ?_
    refine kSR ?_
    refine kC 2 [0,2,3,4,11,12] ?_
    obtain ⟨hm, h114⟩ := asrt hy111
    refine RJ.rel (d := (some 13)) (ef := ⟨.ep (((x0.flatMap (encI .u8)).drop ((s63.2 : Int).toNat * 1)).take 1), [], []⟩) (ef' := ⟨.ep ((encI .u8) (nth x0 s63.2)), [], []⟩) (c := inR s63.2 x0.length) (tr2 := []) (H2 := []) (by kernel_rfl) hm (fun hc => N.idx (encI_len .u8) hc) (by kernel_rfl) ?_
    refine kC 2 [0,2,3,4,15] ?_
    refine kEN ?_
    refine J.caseB 15 (b := (decide (¬ (nth x0 s63.2) = 0))) (by kernel_rfl) (fun hb115 => ?_) (fun hb115 => ?_)
    ·have h116 := condT hb115 h114
     refine kT ?_
     refine kR ?_
     refine RJ.seg 3 [0, 2, 3, 4] (L2 := [(0, lsv (encI .u8) 1 x0), (2, .int .i64 0), (3, .int .i64 (IntKind.wrap .i64 (s63.2 + 1))), (4, .int .i64 s63.2)]) (H2 := []) (by kernel_rfl) ?_
     refine kE ?_
     refine PJ.blockNormal ?_
     obtain rfl := oi h116
     exact kN [0, 2, 3, 4]
    ·have h117 := condF hb115 h114
     refine kF ?_
     refine kK ?_
     refine PJ.blockNormal ?_
     obtain rfl := oi h117
     exact kN [0, 2, 3, 4]
   ·refine kR ?_
    refine kC 3 [0,2,3,4] ?_
    refine kE ?_
    obtain rfl := oi h113
    exact PJ.loopNext [0, 2, 3, 4] (by kernel_rfl) (by kernel_rfl)
  ·have h104 := condF hb102 hs100
   refine kF ?_
   refine K.exit 0 (by kernel_rfl) ?_
   refine PJ.passExit ?_
   obtain rfl := oi h104
   refine PJ.loopOut (fun e => nomatch e) (fun he119 => ?_)
   have h118 := congrArg some he119
   refine PJ.blockOut ?_
   obtain rfl := oi h118
   exact kN [2, 3]
 ·refine kSR ?_
  refine kC 2 [2] ?_
  refine kEN ?_
  refine kX ?_
  obtain rfl := oi h62
  exact kZ hFn hFH hFD
def exergueref07_Right (x0 : St25) : Option (Bool) :=
 (Option.bind (exergueref07_Figures x0.I_) fun y1 => (Option.bind (exergueref07_Figures x0.F_) fun y4 => (Option.bind (Option.bind (bif (!y1) then (some true) else (bif (!y4) then (some true) else (bif (decide ((x0.I_.length : Int) > 0)) then (bif inR 0 x0.I_.length then (some ((decide ((nth x0.I_ 0) = 0)))) else none) else (some false)))) fun (s51 : Bool) => (bif s51 then (some (.inr false)) else (some (.inl ())))) (joinX fun (s36 : Unit) => (Option.bind (Option.bind (exergueref07_Full x0.F_) fun y84 => (bif (decide (x0.W_ = y84)) then (bif (decide (x0.C_ ≥ 0)) then (some (decide (x0.C_ ≤ 1000))) else (some false)) else (some false))) fun (s79 : Bool) => (some s79))))))
theorem exergueref07_Right_ok {x0 : St25} {r : Bool} (h : exergueref07_Right x0 = some r) : SC Tryz.prog 12 [.agg (encSt25 x0)] [] (.bool r) [] := by
 refine kFn (fn := Tryz.f12) (fun F hFn hFH hFD => ?_)
 unfold exergueref07_Right at h
 refine kSR ?_
 refine kC 2 [1,2] ?_
 refine kEN ?_
 refine kSR ?_
 refine kC 2 [1,2,6] ?_
 obtain ⟨y1, hy2, h3⟩ := bindS h
 refine RJ.call0 (d := (some 7)) (f := 23) (args := [lsv (encI .u8) 1 x0.I_]) (v := .bool y1) (tr2 := []) (by kernel_rfl) (by kernel_rfl) (.cons (Le.refl _) .nil) (exergueref07_Figures_ok hy2) (by kernel_rfl) ?_
 refine kC 1 [1,2,3] ?_
 refine kEN ?_
 refine kSR ?_
 refine RJ.seg 2 [1, 2, 3, 9] (L2 := [(1, .ptr 0 0), (2, .bool false), (3, .bool y1), (9, lsv (encI .u8) 1 x0.F_)]) (H2 := [.box (encSt25 x0)]) (by kernel_rfl) ?_
 obtain ⟨y4, hy5, h6⟩ := bindS h3
 refine RJ.call0 (d := (some 10)) (f := 23) (args := [lsv (encI .u8) 1 x0.F_]) (v := .bool y4) (tr2 := []) (by kernel_rfl) (by kernel_rfl) (.cons (Le.refl _) .nil) (exergueref07_Figures_ok hy5) (by kernel_rfl) ?_
 refine kC 1 [1,2,3,4] ?_
 refine kEN ?_
 obtain ⟨y37, hy38, h39⟩ := bindS h6
 refine K.cutX (by kernel_rfl) (fun (s36 : Unit) => ([(1, .ptr 0 0), (2, .bool false)], [.box (encSt25 x0)])) y37 ?_ (fun s36 hs => ?_)
 ·obtain ⟨s51, hy53, h55⟩ := bindS hy38
  refine K.cutN (by kernel_rfl) (fun (s51 : Bool) => ([(1, .ptr 0 0), (2, .bool false), (29, .bool s51)], [.box (encSt25 x0)])) s51 ?_ ?_
  ·refine kR ?_
   refine kC 3 [1,2,4,13] ?_
   refine RJ.caseB 13 (b := (!y1)) (by kernel_rfl) (fun hb56 => ?_) (fun hb56 => ?_)
   ·have h57 := condT hb56 hy53
    refine kC 16 [1,2,29] ?_
    refine kE ?_
    obtain rfl := oi h57
    exact kN [1, 2, 29]
   ·have h58 := condF hb56 hy53
    refine kC 4 [1,2,17] ?_
    refine RJ.caseB 17 (b := (!y4)) (by kernel_rfl) (fun hb59 => ?_) (fun hb59 => ?_)
    ·have h60 := condT hb59 h58
     refine RJ.seg 12 [1, 2, 29] (L2 := [(1, .ptr 0 0), (2, .bool false), (29, .bool true)]) (H2 := [.box (encSt25 x0)]) (by kernel_rfl) ?_
     refine kE ?_
     obtain rfl := oi h60
     exact kN [1, 2, 29]
    ·have h61 := condF hb59 h58
     refine RJ.seg 5 [1, 2, 17, 22] (L2 := [(1, .ptr 0 0), (2, .bool false), (17, .bool false), (22, .bool ((decide ((x0.I_.length : Int) > 0))))]) (H2 := [.box (encSt25 x0)]) (by kernel_rfl) ?_
     refine RJ.caseB 22 (b := (decide ((x0.I_.length : Int) > 0))) (by kernel_rfl) (fun hb62 => ?_) (fun hb62 => ?_)
     ·have h63 := condT hb62 h61
      refine kC 2 [1,2,17,22,24] ?_
      obtain ⟨hm, h65⟩ := asrt h63
      refine RJ.rel (d := (some 25)) (ef := ⟨.ep (((x0.I_.flatMap (encI .u8)).drop ((0 : Int).toNat * 1)).take 1), [], []⟩) (ef' := ⟨.ep ((encI .u8) (nth x0.I_ 0)), [], []⟩) (c := inR 0 x0.I_.length) (tr2 := []) (H2 := [.box (encSt25 x0)]) (by kernel_rfl) hm (fun hc => N.idx (encI_len .u8) hc) (by kernel_rfl) ?_
      refine kC 4 [1,2,29] ?_
      refine kE ?_
      obtain rfl := oi h65
      exact kN [1, 2, 29]
     ·have h64 := condF hb62 h61
      refine kC 7 [1,2,29] ?_
      refine kE ?_
      obtain rfl := oi h64
      exact kN [1, 2, 29]
  ·refine J.caseB 29 (b := s51) (by kernel_rfl) (fun hb66 => ?_) (fun hb66 => ?_)
   ·have h67 := condT hb66 h55
    refine kT ?_
    refine kSR ?_
    refine kC 1 [1,2] ?_
    refine kEN ?_
    refine kX ?_
    obtain rfl := oi h67
    have h69 := joinX_inr h39
    refine PJ.cutXr (fun e => nomatch e) ?_
    obtain rfl := oi h69
    exact kZ hFn hFH hFD
   ·have h68 := condF hb66 h55
    refine kF ?_
    refine kK ?_
    obtain rfl := oi h68
    exact PJ.cutXl [1, 2] (by kernel_rfl) (by kernel_rfl)
 ·subst hs
  have h40 := joinX_inl h39
  obtain ⟨s79, hy81, h83⟩ := bindS h40
  refine K.cutN (by kernel_rfl) (fun (s79 : Bool) => ([(2, .bool s79)], [])) s79 ?_ ?_
  ·refine J.keep [1, 2] (L2 := [(1, .ptr 0 0), (2, .bool false)]) (by kernel_rfl) ?_
   refine K.draw (by kernel_rfl) (by kernel_rfl) (by kernel_rfl) (H2 := [.box (encSt25 x0), .res]) (by kernel_rfl) (n := 1) (by kernel_rfl) ?_
   refine kD 4 ?_
   obtain ⟨y84, hy85, h86⟩ := bindS hy81
   refine RJ.call0 (d := (some 34)) (f := 24) (args := [lsv (encI .u8) 1 x0.F_]) (v := .int .i64 y84) (tr2 := [([], []), ([0, 1], []), ([], []), ([0, 1], []), ([], [2, 3])]) (by kernel_rfl) (by kernel_rfl) (.cons (Le.refl _) .nil) (exergueref07_Full_ok hy85) (by kernel_rfl) ?_
   refine kD 2 ?_
   refine RJ.caseB 36 (b := (decide (x0.W_ = y84))) (by kernel_rfl) (fun hb87 => ?_) (fun hb87 => ?_)
   ·have h88 := condT hb87 h86
    refine kD 5 ?_
    refine RJ.caseB 41 (b := (decide (x0.C_ ≥ 0))) (by kernel_rfl) (fun hb90 => ?_) (fun hb90 => ?_)
    ·have h91 := condT hb90 h88
     refine RJ.segD 5 (tr2 := [([], []), ([0, 1], []), ([], []), ([0, 1], []), ([], [2, 3]), ([], []), ([], []), ([], []), ([0, 1], []), ([], []), ([], []), ([], []), ([], []), ([0, 1], []), ([], []), ([], []), ([], [])]) (L2 := [(2, .bool (decide (x0.C_ ≤ 1000))), (45, .bool (decide (x0.C_ ≤ 1000))), (44, .bool (decide (x0.C_ ≤ 1000))), (43, .int .i64 x0.C_), (42, .ptr 0 3), (41, .bool true), (41, .bool (decide (x0.C_ ≥ 0))), (40, .bool (decide (x0.C_ ≥ 0))), (39, .bool (decide (x0.C_ ≥ 0))), (38, .int .i64 x0.C_), (37, .ptr 0 3), (36, .bool true), (36, .bool (decide (x0.W_ = y84))), (35, .bool (decide (x0.W_ = y84))), (34, .int .i64 y84), (33, lsv (encI .u8) 1 x0.F_), (32, .ptr 0 1), (31, .int .i64 x0.W_), (30, .ptr 0 2), (1, .ptr 0 0), (2, .bool false)]) (H2 := [.box (encSt25 x0), .res]) (by kernel_rfl) ?_
     refine kE ?_
     obtain rfl := oi h91
     refine PJ.wk (Wk.sel (L2 := [(2, .bool (decide (x0.C_ ≤ 1000)))]) (H2 := []) 0 (by rw [hFH]; rfl) hFD [] (by kernel_rfl) (by kernel_rfl) (by decide) (by kernel_rfl) (by kernel_rfl) (by kernel_rfl) (by kernel_rfl)) ?_
     exact kN [2]
    ·have h92 := condF hb90 h88
     refine RJ.segD 5 (tr2 := [([], []), ([0, 1], []), ([], []), ([0, 1], []), ([], [2, 3]), ([], []), ([], []), ([], []), ([0, 1], []), ([], []), ([], []), ([], []), ([], []), ([], []), ([], []), ([], []), ([], [])]) (L2 := [(2, .bool false), (45, .bool false), (44, .tup []), (43, .tup []), (42, .tup []), (41, .bool false), (41, .bool (decide (x0.C_ ≥ 0))), (40, .bool (decide (x0.C_ ≥ 0))), (39, .bool (decide (x0.C_ ≥ 0))), (38, .int .i64 x0.C_), (37, .ptr 0 3), (36, .bool true), (36, .bool (decide (x0.W_ = y84))), (35, .bool (decide (x0.W_ = y84))), (34, .int .i64 y84), (33, lsv (encI .u8) 1 x0.F_), (32, .ptr 0 1), (31, .int .i64 x0.W_), (30, .ptr 0 2), (1, .ptr 0 0), (2, .bool false)]) (H2 := [.box (encSt25 x0), .res]) (by kernel_rfl) ?_
     refine kE ?_
     obtain rfl := oi h92
     refine PJ.wk (Wk.sel (L2 := [(2, .bool false)]) (H2 := []) 0 (by rw [hFH]; rfl) hFD [] (by kernel_rfl) (by kernel_rfl) (by decide) (by kernel_rfl) (by kernel_rfl) (by kernel_rfl) (by kernel_rfl)) ?_
     exact kN [2]
   ·have h89 := condF hb87 h86
    refine kD 10 ?_
    refine kE ?_
    obtain rfl := oi h89
    refine PJ.wk (Wk.sel (L2 := [(2, .bool false)]) (H2 := []) 0 (by rw [hFH]; rfl) hFD [] (by kernel_rfl) (by kernel_rfl) (by decide) (by kernel_rfl) (by kernel_rfl) (by kernel_rfl) (by kernel_rfl)) ?_
    exact kN [2]
  ·refine kX ?_
   obtain rfl := oi h83
   exact kZ hFn hFH hFD
def exergueref07_number (x0 : Int) : Option (List Int) :=
 (Option.bind (loopN (fun (s27 : Int × (List Int)) => (bif (decide (s27.1 > 0)) then (bif room ((([(IntKind.wrap .u8 (Int.tmod s27.1 10))] : List Int)).length + s27.2.length) then (some (.inl ((IntKind.wrap .i64 (Int.tdiv s27.1 10)), ((([(IntKind.wrap .u8 (Int.tmod s27.1 10))] : List Int)) ++ s27.2)))) else none) else (some (.inr s27.2)))) big (x0, ([] : List Int))) fun (s22 : (List Int)) => (some s22))
theorem exergueref07_number_ok {x0 : Int} {r : List Int} (h : exergueref07_number x0 = some r) : SC Tryz.prog 56 [.int .i64 x0] [] (lsv (encI .u8) 1 r) [] := by
 refine kFn (fn := Tryz.f56) (fun F hFn hFH hFD => ?_)
 unfold exergueref07_number at h
 refine kSR ?_
 refine kC 1 [0,2] ?_
 refine kEN ?_
 refine kSR ?_
 refine kC 1 [0,2,3] ?_
 refine kEN ?_
 obtain ⟨s22, hy24, h26⟩ := bindS h
 refine K.cutN (by kernel_rfl) (fun (s22 : (List Int)) => ([(2, .nl), (3, .vc 0)], [vecL (encI .u8) 1 5 s22])) s22 ?_ ?_
 ·refine K.block 0 (by kernel_rfl) ?_
  refine J.wk (Wk.viv 3 1 5 (by kernel_rfl)) ?_
  refine K.loop (by kernel_rfl) (fun (s27 : Int × (List Int)) => ([(0, .int .i64 s27.1), (2, .nl), (3, .vc 0)], [vecL (encI .u8) 1 5 s27.2])) hy24 [0, 2, 3] (by kernel_rfl) (by kernel_rfl) (fun s27 x41 hs40 => ?_)
  refine kS ?_
  refine kSR ?_
  refine kC 2 [0,2,3,5] ?_
  refine kEN ?_
  refine J.caseB 5 (b := (decide (s27.1 > 0))) (by kernel_rfl) (fun hb42 => ?_) (fun hb42 => ?_)
  ·have h43 := condT hb42 hs40
   refine kT ?_
   refine kK ?_
   refine PJ.next ?_
   refine K.block 1 (by kernel_rfl) ?_
   refine kSR ?_
   refine kC 5 [0,2,3,9,10] ?_
   obtain ⟨hm, h45⟩ := asrt h43
   refine RJ.rel (d := (some 11)) (ef := ⟨.vc 2, [1, 0], [(1, .gone), (2, .vec ((([(IntKind.wrap .u8 (Int.tmod s27.1 10))] : List Int)).length + s27.2.length) 1 5 ((([(IntKind.wrap .u8 (Int.tmod s27.1 10))] : List Int)).flatMap (encI .u8) ++ s27.2.flatMap (encI .u8)))]⟩) (ef' := ⟨.vc 2, [1, 0], [(1, .gone), (2, vecL (encI .u8) 1 5 ((([(IntKind.wrap .u8 (Int.tmod s27.1 10))] : List Int)) ++ s27.2))]⟩) (c := roomB ((([(IntKind.wrap .u8 (Int.tmod s27.1 10))] : List Int)).length + s27.2.length)) (tr2 := []) (H2 := [vecL (encI .u8) 1 5 s27.2, .gone, vecL (encI .u8) 1 5 (((([(IntKind.wrap .u8 (Int.tmod s27.1 10))] : List Int)) ++ s27.2))]) (by kernel_rfl) (roomB_of_room hm) (fun hc => N.app) (by kernel_rfl) ?_
   refine kC 1 [0,2,3] ?_
   refine kEN ?_
   refine kR ?_
   refine RJ.seg 3 [0, 2, 3] (L2 := [(0, .int .i64 (IntKind.wrap .i64 (Int.tdiv s27.1 10))), (2, .nl), (3, .vc 2)]) (H2 := [vecL (encI .u8) 1 5 s27.2, .gone, vecL (encI .u8) 1 5 (((([(IntKind.wrap .u8 (Int.tmod s27.1 10))] : List Int)) ++ s27.2))]) (by kernel_rfl) ?_
   refine kE ?_
   refine PJ.blockNormal ?_
   obtain rfl := oi h45
   refine PJ.wk (Wk.sel (L2 := [(0, .int .i64 (IntKind.wrap .i64 (Int.tdiv s27.1 10))), (2, .nl), (3, .vc 0)]) (H2 := [vecL (encI .u8) 1 5 (((([(IntKind.wrap .u8 (Int.tmod s27.1 10))] : List Int)) ++ s27.2))]) 0 (by rw [hFH]; rfl) hFD [2] (by kernel_rfl) (by kernel_rfl) (by decide) (by kernel_rfl) (by kernel_rfl) (by kernel_rfl) (by kernel_rfl)) ?_
   exact PJ.loopNext [0, 2, 3] (by kernel_rfl) (by kernel_rfl)
  ·have h44 := condF hb42 hs40
   refine kF ?_
   refine K.exit 0 (by kernel_rfl) ?_
   refine PJ.passExit ?_
   obtain rfl := oi h44
   refine PJ.loopOut (fun e => nomatch e) (fun he47 => ?_)
   have h46 := congrArg some he47
   refine PJ.blockOut ?_
   obtain rfl := oi h46
   exact kN [2, 3]
 ·refine kSR ?_
  refine kC 2 [2] ?_
  refine kEN ?_
  refine kX ?_
  obtain rfl := oi h26
  refine PJ.wk (Wk.freeze 0 (n := s22.length) (k := 1) (e := 5) (cs := s22.flatMap (encI .u8)) (by kernel_rfl)) ?_
  exact kZ hFn hFH hFD
def exergueref07_Bare (x0 : List Int) : Option (List Int) :=
 (Option.bind (loopN (fun (s138 : Int) => (Option.bind (Option.bind (bif (decide (s138 < (x0.length : Int))) then (bif inR s138 x0.length then (some ((decide ((nth x0 s138) = 0)))) else none) else (some false)) fun (s255 : Bool) => (bif s255 then (some (.inl ())) else (some (.inr (.inr s138))))) (joinX fun (s246 : Unit) => (some (.inl (IntKind.wrap .i64 (s138 + 1))))))) big 0) fun (s133 : Int) => (bif inS s133 (x0.length : Int) x0.length then (some (cut x0 s133 (x0.length : Int))) else none))
theorem exergueref07_Bare_ok {x0 : List Int} {r : List Int} (h : exergueref07_Bare x0 = some r) : SC Tryz.prog 57 [lsv (encI .u8) 1 x0] [] (lsv (encI .u8) 1 r) [] := by
 refine kFn (fn := Tryz.f57) (fun F hFn hFH hFD => ?_)
 unfold exergueref07_Bare at h
 refine kSR ?_
 refine kC 1 [0,2] ?_
 refine kEN ?_
 refine kSR ?_
 refine kC 1 [0,2,3] ?_
 refine kEN ?_
 obtain ⟨s133, hy135, h137⟩ := bindS h
 refine K.cutN (by kernel_rfl) (fun (s133 : Int) => ([(0, lsv (encI .u8) 1 x0), (2, .nl), (3, .int .i64 s133)], [])) s133 ?_ ?_
 ·refine K.block 0 (by kernel_rfl) ?_
  refine K.loop (by kernel_rfl) (fun (s138 : Int) => ([(0, lsv (encI .u8) 1 x0), (2, .nl), (3, .int .i64 s138)], [])) hy135 [0, 2, 3] (by kernel_rfl) (by kernel_rfl) (fun s138 x226 hs225 => ?_)
  obtain ⟨y247, hy248, h249⟩ := bindS hs225
  refine K.cutX (by kernel_rfl) (fun (s246 : Unit) => ([(0, lsv (encI .u8) 1 x0), (2, .nl), (3, .int .i64 s138)], [])) y247 ?_ (fun s246 hs => ?_)
  ·obtain ⟨s255, hy257, h259⟩ := bindS hy248
   refine K.cutN (by kernel_rfl) (fun (s255 : Bool) => ([(0, lsv (encI .u8) 1 x0), (2, .nl), (3, .int .i64 s138), (14, .bool s255)], [])) s255 ?_ ?_
   ·refine kR ?_
    refine kC 5 [0,2,3,8] ?_
    refine RJ.caseB 8 (b := (decide (s138 < (x0.length : Int)))) (by kernel_rfl) (fun hb260 => ?_) (fun hb260 => ?_)
    ·have h261 := condT hb260 hy257
     refine kC 2 [0,2,3,8,9,10] ?_
     obtain ⟨hm, h263⟩ := asrt h261
     refine RJ.rel (d := (some 11)) (ef := ⟨.ep (((x0.flatMap (encI .u8)).drop ((s138 : Int).toNat * 1)).take 1), [], []⟩) (ef' := ⟨.ep ((encI .u8) (nth x0 s138)), [], []⟩) (c := inR s138 x0.length) (tr2 := []) (H2 := []) (by kernel_rfl) hm (fun hc => N.idx (encI_len .u8) hc) (by kernel_rfl) ?_
     refine kC 3 [0,2,3,14] ?_
     refine kE ?_
     obtain rfl := oi h263
     exact kN [0, 2, 3, 14]
    ·have h262 := condF hb260 hy257
     refine kC 6 [0,2,3,14] ?_
     refine kE ?_
     obtain rfl := oi h262
     exact kN [0, 2, 3, 14]
   ·refine J.caseB 14 (b := s255) (by kernel_rfl) (fun hb264 => ?_) (fun hb264 => ?_)
    ·have h265 := condT hb264 h259
     refine kT ?_
     refine kK ?_
     obtain rfl := oi h265
     exact PJ.cutXl [0, 2, 3] (by kernel_rfl) (by kernel_rfl)
    ·have h266 := condF hb264 h259
     refine kF ?_
     refine K.exit 0 (by kernel_rfl) ?_
     obtain rfl := oi h266
     have h267 := joinX_inr h249
     refine PJ.cutXr (fun e => nomatch e) ?_
     obtain rfl := oi h267
     refine PJ.loopOut (fun e => nomatch e) (fun he269 => ?_)
     have h268 := congrArg some he269
     refine PJ.blockOut ?_
     obtain rfl := oi h268
     exact kN [0, 2, 3]
  ·subst hs
   have h250 := joinX_inl h249
   refine K.block 1 (by kernel_rfl) ?_
   refine kR ?_
   refine kC 3 [0,2,3] ?_
   refine kE ?_
   refine PJ.blockNormal ?_
   obtain rfl := oi h250
   exact PJ.loopNext [0, 2, 3] (by kernel_rfl) (by kernel_rfl)
 ·refine kSR ?_
  refine kC 2 [2,17,18] ?_
  obtain ⟨hm, h270⟩ := asrt h137
  refine RJ.rel (d := (some 19)) (ef := ⟨.lst (((x0.length : Int) : Int).toNat - (s133 : Int).toNat) 1 (((x0.flatMap (encI .u8)).take (((x0.length : Int) : Int).toNat * 1)).drop ((s133 : Int).toNat * 1)), [], []⟩) (ef' := ⟨.lst (cut x0 s133 (x0.length : Int)).length 1 ((cut x0 s133 (x0.length : Int)).flatMap (encI .u8)), [], []⟩) (c := inS s133 (x0.length : Int) x0.length) (tr2 := []) (H2 := []) (by kernel_rfl) hm (fun hc => N.slice (encI_len .u8) hc) (by kernel_rfl) ?_
  refine kC 1 [2] ?_
  refine kEN ?_
  refine kX ?_
  obtain rfl := oi h270
  exact kZ hFn hFH hFD
def exergueref07_Operand (x0 : St25) (x1 : Int) : Option ((List Int) × Bool) :=
 (Option.bind (bif (decide (x1 = 110)) then (bif (decide (x0.W_ > 0)) then (some (.inr (([] : List Int), false))) else (some (.inr (x0.I_, true)))) else (bif (decide (x1 = 105)) then (some (.inr (x0.I_, true))) else (bif (decide (x1 = 118)) then (Option.bind (exergueref07_number (x0.F_.length : Int)) fun y80 => (some (.inr (y80, true)))) else (bif (decide (x1 = 119)) then (Option.bind (exergueref07_number x0.W_) fun y87 => (some (.inr (y87, true)))) else (bif (decide (x1 = 102)) then (Option.bind (exergueref07_Bare x0.F_) fun y94 => (some (.inr (y94, true)))) else (bif (decide (x1 = 116)) then (bif inS 0 x0.W_ x0.F_.length then (Option.bind (exergueref07_Bare (cut x0.F_ 0 x0.W_)) fun y102 => (some (.inr (y102, true)))) else none) else (Option.bind (bif (decide (x1 = 99)) then (some true) else (some (decide (x1 = 101)))) fun (s109 : Bool) => (bif s109 then (Option.bind (exergueref07_number x0.C_) fun y120 => (some (.inr (y120, true)))) else (some (.inl ())))))))))) (joinX fun (s60 : Unit) => (some (([] : List Int), false))))
theorem exergueref07_Operand_ok {x0 : St25} {x1 : Int} {r : (List Int) × Bool} (h : exergueref07_Operand x0 x1 = some r) : SC Tryz.prog 38 [.agg (encSt25 x0), .int .u8 x1] [] (.tup [lsv (encI .u8) 1 r.1, .bool r.2]) [] := by
 refine kFn (fn := Tryz.f38) (fun F hFn hFH hFD => ?_)
 unfold exergueref07_Operand at h
 refine kSR ?_
 refine kC 3 [1,2,4,5] ?_
 refine kEN ?_
 obtain ⟨y61, hy62, h63⟩ := bindS h
 refine K.cutX (by kernel_rfl) (fun (s60 : Unit) => ([(4, .nl), (5, .bool false)], [])) y61 ?_ (fun s60 hs => ?_)
 ·refine kSR ?_
  refine kC 1 [2,4,5,6] ?_
  refine kEN ?_
  refine K.block 0 (by kernel_rfl) ?_
  refine kSR ?_
  refine kC 2 [2,4,5,6,7] ?_
  refine kEN ?_
  refine J.caseB 7 (b := (decide (x1 = 110))) (by kernel_rfl) (fun hb65 => ?_) (fun hb65 => ?_)
  ·have h66 := condT hb65 hy62
   refine kT ?_
   refine kS ?_
   refine kSR ?_
   refine RJ.seg 3 [2, 4, 5, 11] (L2 := [(2, .ptr 0 0), (4, .nl), (5, .bool false), (11, .bool (decide (x0.W_ > 0)))]) (H2 := [.box (encSt25 x0)]) (by kernel_rfl) ?_
   refine kEN ?_
   refine J.caseB 11 (b := (decide (x0.W_ > 0))) (by kernel_rfl) (fun hb68 => ?_) (fun hb68 => ?_)
   ·have h69 := condT hb68 h66
    refine kT ?_
    refine kSR ?_
    refine kC 2 [2,4,5] ?_
    refine kEN ?_
    refine kX ?_
    refine PJ.passRet ?_
    refine PJ.blockRet ?_
    obtain rfl := oi h69
    have h71 := joinX_inr h63
    refine PJ.cutXr (fun e => nomatch e) ?_
    obtain rfl := oi h71
    refine PJ.res (v1 := .tup [.nl, .bool false]) (Le.tup (.cons (Le.nl _) (.cons (Le.refl _) .nil))) ?_
    exact kZ hFn hFH hFD
   ·have h70 := condF hb68 h66
    refine kF ?_
    refine kK ?_
    refine PJ.next ?_
    refine kSR ?_
    refine kC 4 [4,5] ?_
    refine kEN ?_
    refine kX ?_
    refine PJ.blockRet ?_
    obtain rfl := oi h70
    have h72 := joinX_inr h63
    refine PJ.cutXr (fun e => nomatch e) ?_
    obtain rfl := oi h72
    exact kZ hFn hFH hFD
  ·have h67 := condF hb65 hy62
   refine kF ?_
   refine kSR ?_
   refine RJ.seg 2 [2, 4, 5, 6, 14] (L2 := [(2, .ptr 0 0), (4, .nl), (5, .bool false), (6, .int .u8 x1), (14, .bool (decide (x1 = 105)))]) (H2 := [.box (encSt25 x0)]) (by kernel_rfl) ?_
   refine kEN ?_
   refine J.caseB 14 (b := (decide (x1 = 105))) (by kernel_rfl) (fun hb73 => ?_) (fun hb73 => ?_)
   ·have h74 := condT hb73 h67
    refine kT ?_
    refine kSR ?_
    refine kC 4 [4,5] ?_
    refine kEN ?_
    refine kX ?_
    refine PJ.blockRet ?_
    obtain rfl := oi h74
    have h76 := joinX_inr h63
    refine PJ.cutXr (fun e => nomatch e) ?_
    obtain rfl := oi h76
    exact kZ hFn hFH hFD
   ·have h75 := condF hb73 h67
    refine kF ?_
    refine kSR ?_
    refine kC 2 [2,4,5,6,18] ?_
    refine kEN ?_
    refine J.caseB 18 (b := (decide (x1 = 118))) (by kernel_rfl) (fun hb77 => ?_) (fun hb77 => ?_)
    ·have h78 := condT hb77 h75
     refine kT ?_
     refine kSR ?_
     refine kC 3 [4,5,22] ?_
     obtain ⟨y80, hy81, h82⟩ := bindS h78
     refine RJ.call0 (d := (some 23)) (f := 56) (args := [.int .i64 (x0.F_.length : Int)]) (v := lsv (encI .u8) 1 y80) (tr2 := []) (by kernel_rfl) (by kernel_rfl) (.cons (Le.refl _) .nil) (exergueref07_number_ok hy81) (by kernel_rfl) ?_
     refine kC 2 [4,5] ?_
     refine kEN ?_
     refine kX ?_
     refine PJ.blockRet ?_
     obtain rfl := oi h82
     have h83 := joinX_inr h63
     refine PJ.cutXr (fun e => nomatch e) ?_
     obtain rfl := oi h83
     exact kZ hFn hFH hFD
    ·have h79 := condF hb77 h75
     refine kF ?_
     refine kSR ?_
     refine kC 2 [2,4,5,6,24] ?_
     refine kEN ?_
     refine J.caseB 24 (b := (decide (x1 = 119))) (by kernel_rfl) (fun hb84 => ?_) (fun hb84 => ?_)
     ·have h85 := condT hb84 h79
      refine kT ?_
      refine kSR ?_
      refine kC 2 [4,5,27] ?_
      obtain ⟨y87, hy88, h89⟩ := bindS h85
      refine RJ.call0 (d := (some 28)) (f := 56) (args := [.int .i64 x0.W_]) (v := lsv (encI .u8) 1 y87) (tr2 := []) (by kernel_rfl) (by kernel_rfl) (.cons (Le.refl _) .nil) (exergueref07_number_ok hy88) (by kernel_rfl) ?_
      refine RJ.seg 2 [4, 5] (L2 := [(4, lsv (encI .u8) 1 y87), (5, .bool true)]) (H2 := [.box (encSt25 x0)]) (by kernel_rfl) ?_
      refine kEN ?_
      refine kX ?_
      refine PJ.blockRet ?_
      obtain rfl := oi h89
      have h90 := joinX_inr h63
      refine PJ.cutXr (fun e => nomatch e) ?_
      obtain rfl := oi h90
      exact kZ hFn hFH hFD
     ·have h86 := condF hb84 h79
      refine kF ?_
      refine kSR ?_
      refine kC 2 [2,4,5,6,29] ?_
      refine kEN ?_
      refine J.caseB 29 (b := (decide (x1 = 102))) (by kernel_rfl) (fun hb91 => ?_) (fun hb91 => ?_)
      ·have h92 := condT hb91 h86
       refine kT ?_
       refine kSR ?_
       refine RJ.seg 2 [4, 5, 32] (L2 := [(4, .nl), (5, .bool false), (32, lsv (encI .u8) 1 x0.F_)]) (H2 := [.box (encSt25 x0)]) (by kernel_rfl) ?_
       obtain ⟨y94, hy95, h96⟩ := bindS h92
       refine RJ.call0 (d := (some 33)) (f := 57) (args := [lsv (encI .u8) 1 x0.F_]) (v := lsv (encI .u8) 1 y94) (tr2 := []) (by kernel_rfl) (by kernel_rfl) (.cons (Le.refl _) .nil) (exergueref07_Bare_ok hy95) (by kernel_rfl) ?_
       refine kC 2 [4,5] ?_
       refine kEN ?_
       refine kX ?_
       refine PJ.blockRet ?_
       obtain rfl := oi h96
       have h97 := joinX_inr h63
       refine PJ.cutXr (fun e => nomatch e) ?_
       obtain rfl := oi h97
       exact kZ hFn hFH hFD
      ·have h93 := condF hb91 h86
       refine kF ?_
       refine kSR ?_
       refine RJ.seg 2 [2, 4, 5, 6, 34] (L2 := [(2, .ptr 0 0), (4, .nl), (5, .bool false), (6, .int .u8 x1), (34, .bool (decide (x1 = 116)))]) (H2 := [.box (encSt25 x0)]) (by kernel_rfl) ?_
       refine kEN ?_
       refine J.caseB 34 (b := (decide (x1 = 116))) (by kernel_rfl) (fun hb98 => ?_) (fun hb98 => ?_)
       ·have h99 := condT hb98 h93
        refine kT ?_
        refine kSR ?_
        refine kC 4 [4,5,37,39] ?_
        obtain ⟨hm, h101⟩ := asrt h99
        refine RJ.rel (d := (some 40)) (ef := ⟨.lst ((x0.W_ : Int).toNat - (0 : Int).toNat) 1 (((x0.F_.flatMap (encI .u8)).take ((x0.W_ : Int).toNat * 1)).drop ((0 : Int).toNat * 1)), [], []⟩) (ef' := ⟨.lst (cut x0.F_ 0 x0.W_).length 1 ((cut x0.F_ 0 x0.W_).flatMap (encI .u8)), [], []⟩) (c := inS 0 x0.W_ x0.F_.length) (tr2 := []) (H2 := [.box (encSt25 x0)]) (by kernel_rfl) hm (fun hc => N.slice (encI_len .u8) hc) (by kernel_rfl) ?_
        obtain ⟨y102, hy103, h104⟩ := bindS h101
        refine RJ.call0 (d := (some 41)) (f := 57) (args := [lsv (encI .u8) 1 (cut x0.F_ 0 x0.W_)]) (v := lsv (encI .u8) 1 y102) (tr2 := []) (by kernel_rfl) (by kernel_rfl) (.cons (Le.refl _) .nil) (exergueref07_Bare_ok hy103) (by kernel_rfl) ?_
        refine kC 2 [4,5] ?_
        refine kEN ?_
        refine kX ?_
        refine PJ.blockRet ?_
        obtain rfl := oi h104
        have h105 := joinX_inr h63
        refine PJ.cutXr (fun e => nomatch e) ?_
        obtain rfl := oi h105
        exact kZ hFn hFH hFD
       ·have h100 := condF hb98 h93
        refine kF ?_
        obtain ⟨s109, hy111, h113⟩ := bindS h100
        refine K.cutN (by kernel_rfl) (fun (s109 : Bool) => ([(2, .ptr 0 0), (4, .nl), (5, .bool false), (42, .bool s109)], [.box (encSt25 x0)])) s109 ?_ ?_
        ·refine kSR ?_
         refine kC 2 [2,4,5,6,42] ?_
         refine kEN ?_
         refine J.caseB 42 (b := (decide (x1 = 99))) (by kernel_rfl) (fun hb114 => ?_) (fun hb114 => ?_)
         ·have h115 := condT hb114 hy111
          refine kT ?_
          refine kK ?_
          obtain rfl := oi h115
          exact kN [2, 4, 5, 42]
         ·have h116 := condF hb114 hy111
          refine kF ?_
          refine kR ?_
          refine kC 2 [2,4,5,42] ?_
          refine kE ?_
          obtain rfl := oi h116
          exact kN [2, 4, 5, 42]
        ·refine J.caseB 42 (b := s109) (by kernel_rfl) (fun hb117 => ?_) (fun hb117 => ?_)
         ·have h118 := condT hb117 h113
          refine kT ?_
          refine kSR ?_
          refine kC 2 [4,5,46] ?_
          obtain ⟨y120, hy121, h122⟩ := bindS h118
          refine RJ.call0 (d := (some 47)) (f := 56) (args := [.int .i64 x0.C_]) (v := lsv (encI .u8) 1 y120) (tr2 := []) (by kernel_rfl) (by kernel_rfl) (.cons (Le.refl _) .nil) (exergueref07_number_ok hy121) (by kernel_rfl) ?_
          refine kC 2 [4,5] ?_
          refine kEN ?_
          refine kX ?_
          refine PJ.blockRet ?_
          obtain rfl := oi h122
          have h123 := joinX_inr h63
          refine PJ.cutXr (fun e => nomatch e) ?_
          obtain rfl := oi h123
          exact kZ hFn hFH hFD
         ·have h119 := condF hb117 h113
          refine kF ?_
          refine kK ?_
          refine PJ.blockNormal ?_
          obtain rfl := oi h119
          refine PJ.wk (Wk.sel (L2 := [(4, .nl), (5, .bool false)]) (H2 := []) 0 (by rw [hFH]; rfl) hFD [] (by kernel_rfl) (by kernel_rfl) (by decide) (by kernel_rfl) (by kernel_rfl) (by kernel_rfl) (by kernel_rfl)) ?_
          exact PJ.cutXl [4, 5] (by kernel_rfl) (by kernel_rfl)
 ·subst hs
  have h64 := joinX_inl h63
  refine kSR ?_
  refine kC 2 [4,5] ?_
  refine kEN ?_
  refine kX ?_
  obtain rfl := oi h64
  refine PJ.res (v1 := .tup [.nl, .bool false]) (Le.tup (.cons (Le.nl _) (.cons (Le.refl _) .nil))) ?_
  exact kZ hFn hFH hFD
def exergueref07_Mod (x0 : List Int) (x1 : Int) : Option (Int) :=
 (bif nz x1 then (Option.bind (loopN (fun (s34 : Int × Int × Int) => (bif (decide (s34.2.2 ≥ 0)) then (bif inR s34.2.2 x0.length then (bif nz x1 then (bif nz x1 then (some (.inl ((Int.tmod ((IntKind.wrap .i64 (s34.1 + ((IntKind.wrap .i64 ((IntKind.wrap .i64 (nth x0 s34.2.2)) * s34.2.1)))))) x1), (Int.tmod (IntKind.wrap .i64 (s34.2.1 * 10)) x1), (IntKind.wrap .i64 (s34.2.2 - 1))))) else none) else none) else none) else (some (.inr s34.1)))) big (0, (Int.tmod 1 x1), (IntKind.wrap .i64 ((x0.length : Int) - 1)))) fun (s29 : Int) => (some s29)) else none)
theorem exergueref07_Mod_ok {x0 : List Int} {x1 : Int} {r : Int} (h : exergueref07_Mod x0 x1 = some r) : SC Tryz.prog 40 [lsv (encI .u8) 1 x0, .int .i64 x1] [] (.int .i64 r) [] := by
 refine kFn (fn := Tryz.f40) (fun F hFn hFH hFD => ?_)
 unfold exergueref07_Mod at h
 refine kSR ?_
 refine kC 1 [0,1,4] ?_
 refine kEN ?_
 refine kSR ?_
 refine kC 1 [0,1,4,5] ?_
 refine kEN ?_
 refine kSR ?_
 refine kC 1 [0,1,4,5,8] ?_
 obtain ⟨hm, h1⟩ := asrt h
 refine RJ.rel (d := (some 9)) (ef := ⟨.int .i64 (Int.tmod 1 x1), [], []⟩) (ef' := ⟨.int .i64 (Int.tmod 1 x1), [], []⟩) (c := nz x1) (tr2 := []) (H2 := []) (by kernel_rfl) hm (fun hc => rfl) (by kernel_rfl) ?_
 refine RJ.seg 1 [0, 1, 4, 5, 6] (L2 := [(0, lsv (encI .u8) 1 x0), (1, .int .i64 x1), (4, .int .i64 0), (5, .int .i64 0), (6, .int .i64 (Int.tmod 1 x1))]) (H2 := []) (by kernel_rfl) ?_
 refine kEN ?_
 obtain ⟨s29, hy31, h33⟩ := bindS h1
 refine K.cutN (by kernel_rfl) (fun (s29 : Int) => ([(4, .int .i64 0), (5, .int .i64 s29)], [])) s29 ?_ ?_
 ·refine kSR ?_
  refine kC 4 [0,1,4,5,6,7] ?_
  refine kEN ?_
  refine K.block 0 (by kernel_rfl) ?_
  refine K.loop (by kernel_rfl) (fun (s34 : Int × Int × Int) => ([(0, lsv (encI .u8) 1 x0), (1, .int .i64 x1), (4, .int .i64 0), (5, .int .i64 s34.1), (6, .int .i64 s34.2.1), (7, .int .i64 s34.2.2)], [])) hy31 [0, 1, 4, 5, 6, 7] (by kernel_rfl) (by kernel_rfl) (fun s34 x52 hs51 => ?_)
  refine kS ?_
  refine kSR ?_
  refine kC 2 [0,1,4,5,6,7,14] ?_
  refine kEN ?_
  refine J.caseB 14 (b := (decide (s34.2.2 ≥ 0))) (by kernel_rfl) (fun hb53 => ?_) (fun hb53 => ?_)
  ·have h54 := condT hb53 hs51
   refine kT ?_
   refine kK ?_
   refine PJ.next ?_
   refine kS ?_
   refine K.block 1 (by kernel_rfl) ?_
   refine kSR ?_
   refine kC 3 [0,1,4,5,6,7,17,18,19] ?_
   obtain ⟨hm, h56⟩ := asrt h54
   refine RJ.rel (d := (some 20)) (ef := ⟨.ep (((x0.flatMap (encI .u8)).drop ((s34.2.2 : Int).toNat * 1)).take 1), [], []⟩) (ef' := ⟨.ep ((encI .u8) (nth x0 s34.2.2)), [], []⟩) (c := inR s34.2.2 x0.length) (tr2 := []) (H2 := []) (by kernel_rfl) hm (fun hc => N.idx (encI_len .u8) hc) (by kernel_rfl) ?_
   refine kC 6 [0,1,4,5,6,7,25,26] ?_
   obtain ⟨hm, h57⟩ := asrt h56
   refine RJ.rel (d := (some 27)) (ef := ⟨.int .i64 (Int.tmod ((IntKind.wrap .i64 (s34.1 + ((IntKind.wrap .i64 ((IntKind.wrap .i64 (nth x0 s34.2.2)) * s34.2.1)))))) x1), [], []⟩) (ef' := ⟨.int .i64 (Int.tmod ((IntKind.wrap .i64 (s34.1 + ((IntKind.wrap .i64 ((IntKind.wrap .i64 (nth x0 s34.2.2)) * s34.2.1)))))) x1), [], []⟩) (c := nz x1) (tr2 := []) (H2 := []) (by kernel_rfl) hm (fun hc => rfl) (by kernel_rfl) ?_
   refine RJ.seg 1 [0, 1, 4, 5, 6, 7] (L2 := [(0, lsv (encI .u8) 1 x0), (1, .int .i64 x1), (4, .int .i64 0), (5, .int .i64 ((Int.tmod ((IntKind.wrap .i64 (s34.1 + ((IntKind.wrap .i64 ((IntKind.wrap .i64 (nth x0 s34.2.2)) * s34.2.1)))))) x1))), (6, .int .i64 s34.2.1), (7, .int .i64 s34.2.2)]) (H2 := []) (by kernel_rfl) ?_
   refine kEN ?_
   refine kR ?_
   refine kC 3 [0,1,4,5,6,7,29,30] ?_
   obtain ⟨hm, h58⟩ := asrt h57
   refine RJ.rel (d := (some 31)) (ef := ⟨.int .i64 (Int.tmod (IntKind.wrap .i64 (s34.2.1 * 10)) x1), [], []⟩) (ef' := ⟨.int .i64 (Int.tmod (IntKind.wrap .i64 (s34.2.1 * 10)) x1), [], []⟩) (c := nz x1) (tr2 := []) (H2 := []) (by kernel_rfl) hm (fun hc => rfl) (by kernel_rfl) ?_
   refine kC 1 [0,1,4,5,6,7] ?_
   refine kE ?_
   refine PJ.blockNormal ?_
   refine PJ.next ?_
   refine kR ?_
   refine kC 3 [0,1,4,5,6,7] ?_
   refine kE ?_
   obtain rfl := oi h58
   exact PJ.loopNext [0, 1, 4, 5, 6, 7] (by kernel_rfl) (by kernel_rfl)
  ·have h55 := condF hb53 hs51
   refine kF ?_
   refine K.exit 0 (by kernel_rfl) ?_
   refine PJ.passExit ?_
   obtain rfl := oi h55
   refine PJ.loopOut (fun e => nomatch e) (fun he60 => ?_)
   have h59 := congrArg some he60
   refine PJ.blockOut ?_
   obtain rfl := oi h59
   exact kN [4, 5]
 ·refine kSR ?_
  refine kC 2 [4] ?_
  refine kEN ?_
  refine kX ?_
  obtain rfl := oi h33
  exact kZ hFn hFH hFD
def exergueref11_figures (x0 : Int) : Option (List Int) :=
 (Option.bind (exergueref05_Number big x0) fun y1 => (Option.bind (loopN (fun (s33 : Int × (List Int)) => (bif (decide (s33.1 < (y1.length : Int))) then (bif inR s33.1 y1.length then (bif room (s33.2.length + (([(IntKind.wrap .u8 (((((y1.getD (s33.1 : Int).toNat 0).toNat : Nat) : Int)) - 48))] : List Int)).length) then (some (.inl ((IntKind.wrap .i64 (s33.1 + 1)), (s33.2 ++ (([(IntKind.wrap .u8 (((((y1.getD (s33.1 : Int).toNat 0).toNat : Nat) : Int)) - 48))] : List Int)))))) else none) else none) else (some (.inr s33.2)))) big (0, ([] : List Int))) fun (s28 : (List Int)) => (some s28)))
theorem exergueref11_figures_ok {x0 : Int} {r : List Int} (h : exergueref11_figures x0 = some r) : SC Tryz.prog 39 [.int .i64 x0] [] (lsv (encI .u8) 1 r) [] := by
 refine kFn (fn := Tryz.f39) (fun F hFn hFH hFD => ?_)
 unfold exergueref11_figures at h
 refine kSR ?_
 refine kC 1 [0,2] ?_
 refine kEN ?_
 refine kSR ?_
 refine kC 1 [0,2,3] ?_
 refine kEN ?_
 refine kSR ?_
 refine kC 1 [2,3,6] ?_
 obtain ⟨y1, hy2, h3⟩ := bindS h
 refine RJ.call0 (d := (some 7)) (f := 22) (args := [.int .i64 x0]) (v := .str y1) (tr2 := []) (by kernel_rfl) (by kernel_rfl) (.cons (Le.refl _) .nil) (exergueref05_Number_ok big hy2) (by kernel_rfl) ?_
 refine RJ.seg 1 [2, 3, 4] (L2 := [(2, .nl), (3, .nl), (4, .str y1)]) (H2 := []) (by kernel_rfl) ?_
 refine kEN ?_
 obtain ⟨s28, hy30, h32⟩ := bindS h3
 refine K.cutN (by kernel_rfl) (fun (s28 : (List Int)) => ([(2, .nl), (3, .vc 0)], [vecL (encI .u8) 1 5 s28])) s28 ?_ ?_
 ·refine kSR ?_
  refine kC 1 [2,3,4,5] ?_
  refine kEN ?_
  refine K.block 0 (by kernel_rfl) ?_
  refine J.wk (Wk.viv 3 1 5 (by kernel_rfl)) ?_
  refine K.loop (by kernel_rfl) (fun (s33 : Int × (List Int)) => ([(2, .nl), (3, .vc 0), (4, .str y1), (5, .int .i64 s33.1)], [vecL (encI .u8) 1 5 s33.2])) hy30 [2, 3, 4, 5] (by kernel_rfl) (by kernel_rfl) (fun s33 x49 hs48 => ?_)
  refine kS ?_
  refine kSR ?_
  refine kC 4 [2,3,4,5,11] ?_
  refine kEN ?_
  refine J.caseB 11 (b := (decide (s33.1 < (y1.length : Int)))) (by kernel_rfl) (fun hb50 => ?_) (fun hb50 => ?_)
  ·have h51 := condT hb50 hs48
   refine kT ?_
   refine kK ?_
   refine PJ.next ?_
   refine kS ?_
   refine K.block 1 (by kernel_rfl) ?_
   refine kR ?_
   refine kC 3 [2,3,4,5,14,15,16] ?_
   obtain ⟨hm, h53⟩ := asrt h51
   refine RJ.rel (d := (some 17)) (ef := ⟨.int .u8 (((y1.getD (s33.1 : Int).toNat 0).toNat : Nat) : Int), [], []⟩) (ef' := ⟨.int .u8 (((y1.getD (s33.1 : Int).toNat 0).toNat : Nat) : Int), [], []⟩) (c := inR s33.1 y1.length) (tr2 := []) (H2 := [vecL (encI .u8) 1 5 s33.2]) (by kernel_rfl) hm (fun hc => rfl) (by kernel_rfl) ?_
   refine kC 2 [2,3,4,5,14,19] ?_
   obtain ⟨hm, h54⟩ := asrt h53
   refine RJ.rel (d := (some 20)) (ef := ⟨.vc 2, [0, 1], [(0, .gone), (2, .vec (s33.2.length + (([(IntKind.wrap .u8 (((((y1.getD (s33.1 : Int).toNat 0).toNat : Nat) : Int)) - 48))] : List Int)).length) 1 5 (s33.2.flatMap (encI .u8) ++ (([(IntKind.wrap .u8 (((((y1.getD (s33.1 : Int).toNat 0).toNat : Nat) : Int)) - 48))] : List Int)).flatMap (encI .u8)))]⟩) (ef' := ⟨.vc 2, [0, 1], [(0, .gone), (2, vecL (encI .u8) 1 5 (s33.2 ++ (([(IntKind.wrap .u8 (((((y1.getD (s33.1 : Int).toNat 0).toNat : Nat) : Int)) - 48))] : List Int))))]⟩) (c := roomB (s33.2.length + (([(IntKind.wrap .u8 (((((y1.getD (s33.1 : Int).toNat 0).toNat : Nat) : Int)) - 48))] : List Int)).length)) (tr2 := []) (H2 := [.gone, vecL (encI .u8) 1 5 (([(IntKind.wrap .u8 (((((y1.getD (s33.1 : Int).toNat 0).toNat : Nat) : Int)) - 48))] : List Int)), vecL (encI .u8) 1 5 ((s33.2 ++ (([(IntKind.wrap .u8 (((((y1.getD (s33.1 : Int).toNat 0).toNat : Nat) : Int)) - 48))] : List Int))))]) (by kernel_rfl) (roomB_of_room hm) (fun hc => N.app) (by kernel_rfl) ?_
   refine RJ.seg 1 [2, 3, 4, 5] (L2 := [(2, .nl), (3, .vc 2), (4, .str y1), (5, .int .i64 s33.1)]) (H2 := [.gone, vecL (encI .u8) 1 5 (([(IntKind.wrap .u8 (((((y1.getD (s33.1 : Int).toNat 0).toNat : Nat) : Int)) - 48))] : List Int)), vecL (encI .u8) 1 5 ((s33.2 ++ (([(IntKind.wrap .u8 (((((y1.getD (s33.1 : Int).toNat 0).toNat : Nat) : Int)) - 48))] : List Int))))]) (by kernel_rfl) ?_
   refine kE ?_
   refine PJ.blockNormal ?_
   refine PJ.next ?_
   refine kR ?_
   refine kC 3 [2,3,4,5] ?_
   refine kE ?_
   obtain rfl := oi h54
   refine PJ.wk (Wk.sel (L2 := [(2, .nl), (3, .vc 0), (4, .str y1), (5, .int .i64 (IntKind.wrap .i64 (s33.1 + 1)))]) (H2 := [vecL (encI .u8) 1 5 ((s33.2 ++ (([(IntKind.wrap .u8 (((((y1.getD (s33.1 : Int).toNat 0).toNat : Nat) : Int)) - 48))] : List Int))))]) 0 (by rw [hFH]; rfl) hFD [2] (by kernel_rfl) (by kernel_rfl) (by decide) (by kernel_rfl) (by kernel_rfl) (by kernel_rfl) (by kernel_rfl)) ?_
   exact PJ.loopNext [2, 3, 4, 5] (by kernel_rfl) (by kernel_rfl)
  ·have h52 := condF hb50 hs48
   refine kF ?_
   refine K.exit 0 (by kernel_rfl) ?_
   refine PJ.passExit ?_
   obtain rfl := oi h52
   refine PJ.loopOut (fun e => nomatch e) (fun he56 => ?_)
   have h55 := congrArg some he56
   refine PJ.blockOut ?_
   obtain rfl := oi h55
   exact kN [2, 3]
 ·refine kSR ?_
  refine kC 2 [2] ?_
  refine kEN ?_
  refine kX ?_
  obtain rfl := oi h32
  refine PJ.wk (Wk.freeze 0 (n := s28.length) (k := 1) (e := 5) (cs := s28.flatMap (encI .u8)) (by kernel_rfl)) ?_
  exact kZ hFn hFH hFD
def exergueref07_In (x0 : List Int) (x1 : Int) (x2 : Int) : Option (Bool) :=
 (Option.bind (exergueref07_Bare x0) fun y1 => (bif (decide ((y1.length : Int) > 19)) then (some false) else (Option.bind (loopN (fun (s33 : Int × Int) => (bif (decide (s33.2 < (y1.length : Int))) then (bif inR s33.2 y1.length then (some (.inl ((IntKind.wrap .u64 ((IntKind.wrap .u64 (s33.1 * 10)) + (IntKind.wrap .u64 (nth y1 s33.2)))), (IntKind.wrap .i64 (s33.2 + 1))))) else none) else (some (.inr s33.1)))) big (0, 0)) fun (s28 : Int) => (Option.bind (bif (decide (x2 ≥ 0)) then (bif (decide (s28 ≤ (IntKind.wrap .u64 x2))) then (bif (decide (x1 < 0)) then (some true) else (some ((decide (s28 ≥ (IntKind.wrap .u64 x1)))))) else (some false)) else (some false)) fun (s63 : Bool) => (some s63)))))
theorem exergueref07_In_ok {x0 : List Int} {x1 : Int} {x2 : Int} {r : Bool} (h : exergueref07_In x0 x1 x2 = some r) : SC Tryz.prog 41 [lsv (encI .u8) 1 x0, .int .i64 x1, .int .i64 x2] [] (.bool r) [] := by
 refine kFn (fn := Tryz.f41) (fun F hFn hFH hFD => ?_)
 unfold exergueref07_In at h
 refine kSR ?_
 refine kC 1 [0,1,2,6] ?_
 refine kEN ?_
 refine kSR ?_
 refine kC 1 [1,2,6,10] ?_
 obtain ⟨y1, hy2, h3⟩ := bindS h
 refine RJ.call0 (d := (some 11)) (f := 57) (args := [lsv (encI .u8) 1 x0]) (v := lsv (encI .u8) 1 y1) (tr2 := []) (by kernel_rfl) (by kernel_rfl) (.cons (Le.refl _) .nil) (exergueref07_Bare_ok hy2) (by kernel_rfl) ?_
 refine kC 1 [1,2,6,7] ?_
 refine kEN ?_
 refine kS ?_
 refine kSR ?_
 refine RJ.seg 3 [1, 2, 6, 7, 14] (L2 := [(1, .int .i64 x1), (2, .int .i64 x2), (6, .bool false), (7, lsv (encI .u8) 1 y1), (14, .bool ((decide ((y1.length : Int) > 19))))]) (H2 := []) (by kernel_rfl) ?_
 refine kEN ?_
 refine J.caseB 14 (b := (decide ((y1.length : Int) > 19))) (by kernel_rfl) (fun hb4 => ?_) (fun hb4 => ?_)
 ·have h5 := condT hb4 h3
  refine kT ?_
  refine kSR ?_
  refine kC 1 [1,2,6,7] ?_
  refine kEN ?_
  refine kX ?_
  refine PJ.passRet ?_
  obtain rfl := oi h5
  exact kZ hFn hFH hFD
 ·have h6 := condF hb4 h3
  refine kF ?_
  refine kK ?_
  refine PJ.next ?_
  refine kSR ?_
  refine kC 1 [1,2,6,7,8] ?_
  refine kEN ?_
  obtain ⟨s28, hy30, h32⟩ := bindS h6
  refine K.cutN (by kernel_rfl) (fun (s28 : Int) => ([(1, .int .i64 x1), (2, .int .i64 x2), (6, .bool false), (8, .int .u64 s28)], [])) s28 ?_ ?_
  ·refine kSR ?_
   refine kC 1 [1,2,6,7,8,9] ?_
   refine kEN ?_
   refine K.block 0 (by kernel_rfl) ?_
   refine K.loop (by kernel_rfl) (fun (s33 : Int × Int) => ([(1, .int .i64 x1), (2, .int .i64 x2), (6, .bool false), (7, lsv (encI .u8) 1 y1), (8, .int .u64 s33.1), (9, .int .i64 s33.2)], [])) hy30 [1, 2, 6, 7, 8, 9] (by kernel_rfl) (by kernel_rfl) (fun s33 x47 hs46 => ?_)
   refine kS ?_
   refine kSR ?_
   refine kC 4 [1,2,6,7,8,9,18] ?_
   refine kEN ?_
   refine J.caseB 18 (b := (decide (s33.2 < (y1.length : Int)))) (by kernel_rfl) (fun hb48 => ?_) (fun hb48 => ?_)
   ·have h49 := condT hb48 hs46
    refine kT ?_
    refine kK ?_
    refine PJ.next ?_
    refine kS ?_
    refine K.block 1 (by kernel_rfl) ?_
    refine kR ?_
    refine kC 4 [1,2,6,7,8,9,22,23,24] ?_
    obtain ⟨hm, h51⟩ := asrt h49
    refine RJ.rel (d := (some 25)) (ef := ⟨.ep (((y1.flatMap (encI .u8)).drop ((s33.2 : Int).toNat * 1)).take 1), [], []⟩) (ef' := ⟨.ep ((encI .u8) (nth y1 s33.2)), [], []⟩) (c := inR s33.2 y1.length) (tr2 := []) (H2 := []) (by kernel_rfl) hm (fun hc => N.idx (encI_len .u8) hc) (by kernel_rfl) ?_
    refine kC 4 [1,2,6,7,8,9] ?_
    refine kE ?_
    refine PJ.blockNormal ?_
    refine PJ.next ?_
    refine kR ?_
    refine RJ.seg 3 [1, 2, 6, 7, 8, 9] (L2 := [(1, .int .i64 x1), (2, .int .i64 x2), (6, .bool false), (7, lsv (encI .u8) 1 y1), (8, .int .u64 ((IntKind.wrap .u64 ((IntKind.wrap .u64 (s33.1 * 10)) + (IntKind.wrap .u64 (nth y1 s33.2)))))), (9, .int .i64 (IntKind.wrap .i64 (s33.2 + 1)))]) (H2 := []) (by kernel_rfl) ?_
    refine kE ?_
    obtain rfl := oi h51
    exact PJ.loopNext [1, 2, 6, 7, 8, 9] (by kernel_rfl) (by kernel_rfl)
   ·have h50 := condF hb48 hs46
    refine kF ?_
    refine K.exit 0 (by kernel_rfl) ?_
    refine PJ.passExit ?_
    obtain rfl := oi h50
    refine PJ.loopOut (fun e => nomatch e) (fun he53 => ?_)
    have h52 := congrArg some he53
    refine PJ.blockOut ?_
    obtain rfl := oi h52
    exact kN [1, 2, 6, 8]
  ·obtain ⟨s63, hy65, h67⟩ := bindS h32
   refine K.cutN (by kernel_rfl) (fun (s63 : Bool) => ([(6, .bool s63)], [])) s63 ?_ ?_
   ·refine kR ?_
    refine kC 3 [1,2,6,8,31] ?_
    refine RJ.caseB 31 (b := (decide (x2 ≥ 0))) (by kernel_rfl) (fun hb68 => ?_) (fun hb68 => ?_)
    ·have h69 := condT hb68 hy65
     refine kC 6 [1,6,8,37] ?_
     refine RJ.caseB 37 (b := (decide (s28 ≤ (IntKind.wrap .u64 x2)))) (by kernel_rfl) (fun hb71 => ?_) (fun hb71 => ?_)
     ·have h72 := condT hb71 h69
      refine kC 3 [1,6,8,37,40] ?_
      refine RJ.caseB 40 (b := (decide (x1 < 0))) (by kernel_rfl) (fun hb74 => ?_) (fun hb74 => ?_)
      ·have h75 := condT hb74 h72
       refine RJ.seg 7 [6] (L2 := [(6, .bool true)]) (H2 := []) (by kernel_rfl) ?_
       refine kE ?_
       obtain rfl := oi h75
       exact kN [6]
      ·have h76 := condF hb74 h72
       refine RJ.seg 7 [6] (L2 := [(6, .bool ((decide (s28 ≥ (IntKind.wrap .u64 x1)))))]) (H2 := []) (by kernel_rfl) ?_
       refine kE ?_
       obtain rfl := oi h76
       exact kN [6]
     ·have h73 := condF hb71 h69
      refine kC 10 [6] ?_
      refine kE ?_
      obtain rfl := oi h73
      exact kN [6]
    ·have h70 := condF hb68 hy65
     refine kC 16 [6] ?_
     refine kE ?_
     obtain rfl := oi h70
     exact kN [6]
   ·refine kX ?_
    obtain rfl := oi h67
    exact kZ hFn hFH hFD
def exergueref11_holds (x0 : St39) (x1 : St25) : Option (Bool) :=
 (Option.bind (exergueref07_Operand x1 x0.Op_) fun y1 => (bif (!y1.2) then (some x0.Not_) else (Option.bind (bif (decide (x0.Mod_ > 0)) then (Option.bind (exergueref07_Mod y1.1 x0.Mod_) fun y24 => (Option.bind (exergueref11_figures y24) fun y27 => (some y27))) else (some y1.1)) fun (s16 : (List Int)) => (Option.bind (loopN (fun (s86 : Int) => (bif (decide (s86 < (x0.R_.length : Int))) then (bif inR s86 x0.R_.length then (bif inR s86 x0.R_.length then (Option.bind (exergueref07_In s16 ((nth x0.R_ s86).a0_) ((nth x0.R_ s86).a1_)) fun y126 => (bif y126 then (some (.inr (.inr (!x0.Not_)))) else (some (.inl (IntKind.wrap .i64 (s86 + 1)))))) else none) else none) else (some (.inr (.inl ()))))) big 0) (joinX fun (s81 : Unit) => (some x0.Not_))))))
theorem exergueref11_holds_ok {x0 : St39} {x1 : St25} {r : Bool} (h : exergueref11_holds x0 x1 = some r) : SC Tryz.prog 26 [.agg (encSt39 x0), .agg (encSt25 x1)] [] (.bool r) [] := by
 refine kFn (fn := Tryz.f26) (fun F hFn hFH hFD => ?_)
 unfold exergueref11_holds at h
 refine kSR ?_
 refine kC 3 [2,3,4] ?_
 refine kEN ?_
 refine kSR ?_
 refine kC 3 [2,4,10,12] ?_
 obtain ⟨y1, hy2, h3⟩ := bindS h
 refine RJ.call0 (d := (some 13)) (f := 38) (args := [.agg (encSt25 x1), .int .u8 x0.Op_]) (v := .tup [lsv (encI .u8) 1 y1.1, .bool y1.2]) (tr2 := []) (by kernel_rfl) (by kernel_rfl) (.cons (Le.refl _) (.cons (Le.refl _) .nil)) (exergueref07_Operand_ok hy2) (by kernel_rfl) ?_
 refine kC 5 [2,4,5,6] ?_
 refine kEN ?_
 refine kS ?_
 refine kSR ?_
 refine RJ.seg 2 [2, 4, 5, 17] (L2 := [(2, .ptr 0 0), (4, .bool false), (5, lsv (encI .u8) 1 y1.1), (17, .bool (!y1.2))]) (H2 := [.box (encSt39 x0), .box (encSt25 x1)]) (by kernel_rfl) ?_
 refine kEN ?_
 refine J.caseB 17 (b := (!y1.2)) (by kernel_rfl) (fun hb4 => ?_) (fun hb4 => ?_)
 ·have h5 := condT hb4 h3
  refine kT ?_
  refine kSR ?_
  refine kC 3 [2,4,5] ?_
  refine kEN ?_
  refine kX ?_
  refine PJ.passRet ?_
  obtain rfl := oi h5
  exact kZ hFn hFH hFD
 ·have h6 := condF hb4 h3
  refine kF ?_
  refine kK ?_
  refine PJ.next ?_
  obtain ⟨s16, hy18, h20⟩ := bindS h6
  refine K.cutN (by kernel_rfl) (fun (s16 : (List Int)) => ([(2, .ptr 0 0), (4, .bool false), (5, lsv (encI .u8) 1 s16)], [.box (encSt39 x0)])) s16 ?_ ?_
  ·refine kSR ?_
   refine kC 3 [2,4,5,22] ?_
   refine kEN ?_
   refine J.caseB 22 (b := (decide (x0.Mod_ > 0))) (by kernel_rfl) (fun hb21 => ?_) (fun hb21 => ?_)
   ·have h22 := condT hb21 hy18
    refine kT ?_
    refine kR ?_
    refine kC 3 [2,4,5,23,25] ?_
    obtain ⟨y24, hy25, h26⟩ := bindS h22
    refine RJ.call0 (d := (some 26)) (f := 40) (args := [lsv (encI .u8) 1 y1.1, .int .i64 x0.Mod_]) (v := .int .i64 y24) (tr2 := []) (by kernel_rfl) (by kernel_rfl) (.cons (Le.refl _) (.cons (Le.refl _) .nil)) (exergueref07_Mod_ok hy25) (by kernel_rfl) ?_
    obtain ⟨y27, hy28, h29⟩ := bindS h26
    refine RJ.call0 (d := (some 27)) (f := 39) (args := [.int .i64 y24]) (v := lsv (encI .u8) 1 y27) (tr2 := []) (by kernel_rfl) (by kernel_rfl) (.cons (Le.refl _) .nil) (exergueref11_figures_ok hy28) (by kernel_rfl) ?_
    refine kC 1 [2,4,5] ?_
    refine kE ?_
    obtain rfl := oi h29
    refine PJ.wk (Wk.sel (L2 := [(2, .ptr 0 0), (4, .bool false), (5, lsv (encI .u8) 1 y27)]) (H2 := [.box (encSt39 x0)]) 0 (by rw [hFH]; rfl) hFD [0] (by kernel_rfl) (by kernel_rfl) (by decide) (by kernel_rfl) (by kernel_rfl) (by kernel_rfl) (by kernel_rfl)) ?_
    exact kN [2, 4, 5]
   ·have h23 := condF hb21 hy18
    refine kF ?_
    refine kK ?_
    obtain rfl := oi h23
    refine PJ.wk (Wk.sel (L2 := [(2, .ptr 0 0), (4, .bool false), (5, lsv (encI .u8) 1 y1.1)]) (H2 := [.box (encSt39 x0)]) 0 (by rw [hFH]; rfl) hFD [0] (by kernel_rfl) (by kernel_rfl) (by decide) (by kernel_rfl) (by kernel_rfl) (by kernel_rfl) (by kernel_rfl)) ?_
    exact kN [2, 4, 5]
  ·obtain ⟨y82, hy83, h84⟩ := bindS h20
   refine K.cutX (by kernel_rfl) (fun (s81 : Unit) => ([(2, .ptr 0 0), (4, .bool false)], [.box (encSt39 x0)])) y82 ?_ (fun s81 hs => ?_)
   ·refine kSR ?_
    refine kC 1 [2,4,5,7] ?_
    refine kEN ?_
    refine K.block 0 (by kernel_rfl) ?_
    refine K.loop (by kernel_rfl) (fun (s86 : Int) => ([(2, .ptr 0 0), (4, .bool false), (5, lsv (encI .u8) 1 s16), (7, .int .i64 s86)], [.box (encSt39 x0)])) hy83 [2, 4, 5, 7] (by kernel_rfl) (by kernel_rfl) (fun s86 x120 hs119 => ?_)
    refine kS ?_
    refine kSR ?_
    refine kC 5 [2,4,5,7,32] ?_
    refine kEN ?_
    refine J.caseB 32 (b := (decide (s86 < (x0.R_.length : Int)))) (by kernel_rfl) (fun hb121 => ?_) (fun hb121 => ?_)
    ·have h122 := condT hb121 hs119
     refine kT ?_
     refine kK ?_
     refine PJ.next ?_
     refine kS ?_
     refine K.block 1 (by kernel_rfl) ?_
     refine kS ?_
     refine J.keep [2, 4, 5, 7] (L2 := [(2, .ptr 0 0), (4, .bool false), (5, lsv (encI .u8) 1 s16), (7, .int .i64 s86)]) (by kernel_rfl) ?_
     refine K.draw (by kernel_rfl) (by kernel_rfl) (by kernel_rfl) (H2 := [.box (encSt39 x0), .res]) (by kernel_rfl) (n := 1) (by kernel_rfl) ?_
     refine kD 4 ?_
     obtain ⟨hm, h124⟩ := asrt h122
     refine RJ.rel (d := (some 39)) (ef := ⟨.ep (((x0.R_.flatMap encSt41).drop ((s86 : Int).toNat * 2)).take 2), [], []⟩) (ef' := ⟨.ep (encSt41 (nth x0.R_ s86)), [], []⟩) (c := inR s86 x0.R_.length) (tr2 := [([], []), ([], []), ([0, 1], []), ([], []), ([], [])]) (H2 := [.box (encSt39 x0), .res]) (by kernel_rfl) hm (fun hc => N.idx encSt41_len hc) (by kernel_rfl) ?_
     refine kD 5 ?_
     obtain ⟨hm, h125⟩ := asrt h124
     refine RJ.rel (d := (some 45)) (ef := ⟨.ep (((x0.R_.flatMap encSt41).drop ((s86 : Int).toNat * 2)).take 2), [], []⟩) (ef' := ⟨.ep (encSt41 (nth x0.R_ s86)), [], []⟩) (c := inR s86 x0.R_.length) (tr2 := [([], []), ([], []), ([0, 1], []), ([], []), ([], []), ([], []), ([], []), ([], []), ([0, 1], []), ([], []), ([], [])]) (H2 := [.box (encSt39 x0), .res]) (by kernel_rfl) hm (fun hc => N.idx encSt41_len hc) (by kernel_rfl) ?_
     refine RJ.segD 2 (tr2 := [([], []), ([], []), ([0, 1], []), ([], []), ([], []), ([], []), ([], []), ([], []), ([0, 1], []), ([], []), ([], []), ([], []), ([], [])]) (L2 := [(47, .int .i64 ((nth x0.R_ s86).a1_)), (46, .ep [.int .i64 ((nth x0.R_ s86).a1_)]), (45, .ep [.int .i64 ((nth x0.R_ s86).a0_), .int .i64 ((nth x0.R_ s86).a1_)]), (44, .int .i64 s86), (43, lsv encSt41 2 x0.R_), (42, .ptr 0 3), (41, .int .i64 ((nth x0.R_ s86).a0_)), (40, .ep [.int .i64 ((nth x0.R_ s86).a0_)]), (39, .ep [.int .i64 ((nth x0.R_ s86).a0_), .int .i64 ((nth x0.R_ s86).a1_)]), (38, .int .i64 s86), (37, lsv encSt41 2 x0.R_), (36, .ptr 0 3), (35, lsv (encI .u8) 1 s16), (2, .ptr 0 0), (4, .bool false), (5, lsv (encI .u8) 1 s16), (7, .int .i64 s86)]) (H2 := [.box (encSt39 x0), .res]) (by kernel_rfl) ?_
     obtain ⟨y126, hy127, h128⟩ := bindS h125
     refine RJ.call0 (d := (some 48)) (f := 41) (args := [lsv (encI .u8) 1 s16, .int .i64 ((nth x0.R_ s86).a0_), .int .i64 ((nth x0.R_ s86).a1_)]) (v := .bool y126) (tr2 := [([], []), ([], []), ([0, 1], []), ([], []), ([], []), ([], []), ([], []), ([], []), ([0, 1], []), ([], []), ([], []), ([], []), ([], []), ([], [2, 3])]) (by kernel_rfl) (by kernel_rfl) (.cons (Le.refl _) (.cons (Le.refl _) (.cons (Le.refl _) .nil))) (exergueref07_In_ok hy127) (by kernel_rfl) ?_
     refine kD 1 ?_
     refine kEN ?_
     refine kSR ?_
     refine kC 1 [2,4,5,7,49] ?_
     refine kEN ?_
     refine J.caseB 49 (b := y126) (by kernel_rfl) (fun hb129 => ?_) (fun hb129 => ?_)
     ·have h130 := condT hb129 h128
      refine kT ?_
      refine kSR ?_
      refine kC 4 [2,4,5,7] ?_
      refine kEN ?_
      refine kX ?_
      refine PJ.blockRet ?_
      refine PJ.passRet ?_
      obtain rfl := oi h130
      refine PJ.loopOut (fun e => nomatch e) (fun he134 => ?_)
      have h132 := congrArg some he134
      refine PJ.blockRet ?_
      obtain rfl := oi h132
      have h133 := joinX_inr h84
      refine PJ.cutXr (fun e => nomatch e) ?_
      obtain rfl := oi h133
      exact kZ hFn hFH hFD
     ·have h131 := condF hb129 h128
      refine kF ?_
      refine kK ?_
      refine PJ.blockNormal ?_
      refine PJ.next ?_
      refine kR ?_
      refine kC 3 [2,4,5,7] ?_
      refine kE ?_
      obtain rfl := oi h131
      refine PJ.wk (Wk.sel (L2 := [(2, .ptr 0 0), (4, .bool false), (5, lsv (encI .u8) 1 s16), (7, .int .i64 (IntKind.wrap .i64 (s86 + 1)))]) (H2 := [.box (encSt39 x0)]) 0 (by rw [hFH]; rfl) hFD [0] (by kernel_rfl) (by kernel_rfl) (by decide) (by kernel_rfl) (by kernel_rfl) (by kernel_rfl) (by kernel_rfl)) ?_
      exact PJ.loopNext [2, 4, 5, 7] (by kernel_rfl) (by kernel_rfl)
    ·have h123 := condF hb121 hs119
     refine kF ?_
     refine K.exit 0 (by kernel_rfl) ?_
     refine PJ.passExit ?_
     obtain rfl := oi h123
     refine PJ.loopOut (fun e => nomatch e) (fun he136 => ?_)
     have h135 := congrArg some he136
     refine PJ.blockOut ?_
     obtain rfl := oi h135
     exact PJ.cutXl [2, 4] (by kernel_rfl) (by kernel_rfl)
   ·subst hs
    have h85 := joinX_inl h84
    refine kSR ?_
    refine kC 3 [4] ?_
    refine kEN ?_
    refine kX ?_
    obtain rfl := oi h85
    exact kZ hFn hFH hFD
def exergueref11_Holds (x0 : List (List St39)) (x1 : St25) : Option (Bool) :=
 (Option.bind (loopN (fun (s1047 : Int) => (bif (decide (s1047 < (x0.length : Int))) then (Option.bind (Option.bind (loopN (fun (s2001 : Bool × Int) => (bif inR s1047 x0.length then (bif (decide (s2001.2 < ((nth x0 s1047).length : Int))) then (Option.bind (bif inR s1047 x0.length then (bif inR s2001.2 (nth x0 s1047).length then (Option.bind (exergueref11_holds (nth (nth x0 s1047) s2001.2) x1) fun y2071 => (bif s2001.1 then (some y2071) else (some false))) else none) else none) fun (s2064 : Bool) => (some (.inl (s2064, (IntKind.wrap .i64 (s2001.2 + 1)))))) else (some (.inr s2001.1))) else none)) big (true, 0)) fun (s1996 : Bool) => (bif s1996 then (some (.inr (.inr (.inr true)))) else (some (.inl ())))) (joinX fun (s1913 : Unit) => (some (.inl (IntKind.wrap .i64 (s1047 + 1)))))) else (some (.inr (.inl ()))))) big 0) (joinX fun (s1042 : Unit) => (some false)))
theorem exergueref11_Holds_ok {x0 : List (List St39)} {x1 : St25} {r : Bool} (h : exergueref11_Holds x0 x1 = some r) : SC Tryz.prog 14 [lsv (encL encSt39 4) 1 x0, .agg (encSt25 x1)] [] (.bool r) [] := by
 refine kFn (fn := Tryz.f14) (fun F hFn hFH hFD => ?_)
 unfold exergueref11_Holds at h
 refine kSR ?_
 refine kC 2 [0,3,4] ?_
 refine kEN ?_
 obtain ⟨y1043, hy1044, h1045⟩ := bindS h
 refine K.cutX (by kernel_rfl) (fun (s1042 : Unit) => ([(4, .bool false)], [])) y1043 ?_ (fun s1042 hs => ?_)
 ·refine kSR ?_
  refine kC 1 [0,3,4,5] ?_
  refine kEN ?_
  refine K.block 0 (by kernel_rfl) ?_
  refine K.loop (by kernel_rfl) (fun (s1047 : Int) => ([(0, lsv (encL encSt39 4) 1 x0), (3, .ptr 0 0), (4, .bool false), (5, .int .i64 s1047)], [.box (encSt25 x1)])) hy1044 [0, 3, 4, 5] (by kernel_rfl) (by kernel_rfl) (fun s1047 x1741 hs1740 => ?_)
  refine kS ?_
  refine kSR ?_
  refine kC 4 [0,3,4,5,12] ?_
  refine kEN ?_
  refine J.caseB 12 (b := (decide (s1047 < (x0.length : Int)))) (by kernel_rfl) (fun hb1742 => ?_) (fun hb1742 => ?_)
  ·have h1743 := condT hb1742 hs1740
   refine kT ?_
   refine kK ?_
   refine PJ.next ?_
   obtain ⟨y1914, hy1915, h1916⟩ := bindS h1743
   refine K.cutX (by kernel_rfl) (fun (s1913 : Unit) => ([(0, lsv (encL encSt39 4) 1 x0), (3, .ptr 0 0), (4, .bool false), (5, .int .i64 s1047)], [.box (encSt25 x1)])) y1914 ?_ (fun s1913 hs => ?_)
   ·refine K.block 1 (by kernel_rfl) ?_
    refine kSR ?_
    refine kC 1 [0,3,4,5,6] ?_
    refine kEN ?_
    obtain ⟨s1996, hy1998, h2000⟩ := bindS hy1915
    refine K.cutN (by kernel_rfl) (fun (s1996 : Bool) => ([(0, lsv (encL encSt39 4) 1 x0), (3, .ptr 0 0), (4, .bool false), (5, .int .i64 s1047), (6, .bool s1996)], [.box (encSt25 x1)])) s1996 ?_ ?_
    ·refine kSR ?_
     refine kC 1 [0,3,4,5,6,7] ?_
     refine kEN ?_
     refine K.block 2 (by kernel_rfl) ?_
     refine K.loop (by kernel_rfl) (fun (s2001 : Bool × Int) => ([(0, lsv (encL encSt39 4) 1 x0), (3, .ptr 0 0), (4, .bool false), (5, .int .i64 s1047), (6, .bool s2001.1), (7, .int .i64 s2001.2)], [.box (encSt25 x1)])) hy1998 [0, 3, 4, 5, 6, 7] (by kernel_rfl) (by kernel_rfl) (fun s2001 x2051 hs2050 => ?_)
     refine kS ?_
     refine kSR ?_
     refine kC 3 [0,3,4,5,6,7,15,16,17] ?_
     obtain ⟨hm, h2052⟩ := asrt hs2050
     refine RJ.rel (d := (some 18)) (ef := ⟨.ep (((x0.flatMap (encL encSt39 4)).drop ((s1047 : Int).toNat * 1)).take 1), [], []⟩) (ef' := ⟨.ep ((encL encSt39 4) (nth x0 s1047)), [], []⟩) (c := inR s1047 x0.length) (tr2 := []) (H2 := [.box (encSt25 x1)]) (by kernel_rfl) hm (fun hc => N.idx (encL_len encSt39 4) hc) (by kernel_rfl) ?_
     refine kC 3 [0,3,4,5,6,7,21] ?_
     refine kEN ?_
     refine J.caseB 21 (b := (decide (s2001.2 < ((nth x0 s1047).length : Int)))) (by kernel_rfl) (fun hb2053 => ?_) (fun hb2053 => ?_)
     ·have h2054 := condT hb2053 h2052
      refine kT ?_
      refine kK ?_
      refine PJ.next ?_
      obtain ⟨s2064, hy2066, h2068⟩ := bindS h2054
      refine K.cutN (by kernel_rfl) (fun (s2064 : Bool) => ([(0, lsv (encL encSt39 4) 1 x0), (3, .ptr 0 0), (4, .bool false), (5, .int .i64 s1047), (6, .bool s2064), (7, .int .i64 s2001.2)], [.box (encSt25 x1)])) s2064 ?_ ?_
      ·refine K.block 3 (by kernel_rfl) ?_
       refine kS ?_
       refine J.keep [0, 3, 4, 5, 6, 7] (L2 := [(0, lsv (encL encSt39 4) 1 x0), (3, .ptr 0 0), (4, .bool false), (5, .int .i64 s1047), (6, .bool s2001.1), (7, .int .i64 s2001.2)]) (by kernel_rfl) ?_
       refine K.draw (by kernel_rfl) (by kernel_rfl) (by kernel_rfl) (H2 := [.box (encSt25 x1), .res]) (by kernel_rfl) (n := 1) (by kernel_rfl) ?_
       refine kD 2 ?_
       obtain ⟨hm, h2069⟩ := asrt hy2066
       refine RJ.rel (d := (some 26)) (ef := ⟨.ep (((x0.flatMap (encL encSt39 4)).drop ((s1047 : Int).toNat * 1)).take 1), [], []⟩) (ef' := ⟨.ep ((encL encSt39 4) (nth x0 s1047)), [], []⟩) (c := inR s1047 x0.length) (tr2 := [([], []), ([], []), ([], [])]) (H2 := [.box (encSt25 x1), .res]) (by kernel_rfl) hm (fun hc => N.idx (encL_len encSt39 4) hc) (by kernel_rfl) ?_
       refine RJ.segD 2 (tr2 := [([], []), ([], []), ([], []), ([], []), ([], [])]) (L2 := [(28, .int .i64 s2001.2), (27, lsv encSt39 4 (nth x0 s1047)), (26, .ep [lsv encSt39 4 (nth x0 s1047)]), (25, .int .i64 s1047), (24, lsv (encL encSt39 4) 1 x0), (0, lsv (encL encSt39 4) 1 x0), (3, .ptr 0 0), (4, .bool false), (5, .int .i64 s1047), (6, .bool s2001.1), (7, .int .i64 s2001.2)]) (H2 := [.box (encSt25 x1), .res]) (by kernel_rfl) ?_
       obtain ⟨hm, h2070⟩ := asrt h2069
       refine RJ.rel (d := (some 29)) (ef := ⟨.ep ((((nth x0 s1047).flatMap encSt39).drop ((s2001.2 : Int).toNat * 4)).take 4), [], []⟩) (ef' := ⟨.ep (encSt39 (nth (nth x0 s1047) s2001.2)), [], []⟩) (c := inR s2001.2 (nth x0 s1047).length) (tr2 := [([], []), ([], []), ([], []), ([], []), ([], []), ([], [])]) (H2 := [.box (encSt25 x1), .res]) (by kernel_rfl) hm (fun hc => N.idx encSt39_len hc) (by kernel_rfl) ?_
       refine kD 2 ?_
       obtain ⟨y2071, hy2072, h2073⟩ := bindS h2070
       refine RJ.call0 (d := (some 32)) (f := 26) (args := [.agg [.int .u8 ((nth (nth x0 s1047) s2001.2).Op_), .int .i64 ((nth (nth x0 s1047) s2001.2).Mod_), .bool ((nth (nth x0 s1047) s2001.2).Not_), lsv encSt41 2 ((nth (nth x0 s1047) s2001.2).R_)], .agg (encSt25 x1)]) (v := .bool y2071) (tr2 := [([], []), ([], []), ([], []), ([], []), ([], []), ([], []), ([], []), ([0, 1], []), ([], [2, 3])]) (by kernel_rfl) (by kernel_rfl) (.cons (Le.refl _) (.cons (Le.refl _) .nil)) (exergueref11_holds_ok hy2072) (by kernel_rfl) ?_
       refine kD 1 ?_
       refine kEN ?_
       refine kR ?_
       refine kC 2 [0,3,4,5,6,7,8,34] ?_
       refine RJ.caseB 34 (b := s2001.1) (by kernel_rfl) (fun hb2074 => ?_) (fun hb2074 => ?_)
       ·have h2075 := condT hb2074 h2073
        refine RJ.seg 3 [0, 3, 4, 5, 6, 7] (L2 := [(0, lsv (encL encSt39 4) 1 x0), (3, .ptr 0 0), (4, .bool false), (5, .int .i64 s1047), (6, .bool y2071), (7, .int .i64 s2001.2)]) (H2 := [.box (encSt25 x1), .res]) (by kernel_rfl) ?_
        refine kE ?_
        refine PJ.blockNormal ?_
        obtain rfl := oi h2075
        refine PJ.wk (Wk.sel (L2 := [(0, lsv (encL encSt39 4) 1 x0), (3, .ptr 0 0), (4, .bool false), (5, .int .i64 s1047), (6, .bool y2071), (7, .int .i64 s2001.2)]) (H2 := [.box (encSt25 x1)]) 0 (by rw [hFH]; rfl) hFD [0] (by kernel_rfl) (by kernel_rfl) (by decide) (by kernel_rfl) (by kernel_rfl) (by kernel_rfl) (by kernel_rfl)) ?_
        exact kN [0, 3, 4, 5, 6, 7]
       ·have h2076 := condF hb2074 h2073
        refine RJ.seg 3 [0, 3, 4, 5, 6, 7] (L2 := [(0, lsv (encL encSt39 4) 1 x0), (3, .ptr 0 0), (4, .bool false), (5, .int .i64 s1047), (6, .bool false), (7, .int .i64 s2001.2)]) (H2 := [.box (encSt25 x1), .res]) (by kernel_rfl) ?_
        refine kE ?_
        refine PJ.blockNormal ?_
        obtain rfl := oi h2076
        refine PJ.wk (Wk.sel (L2 := [(0, lsv (encL encSt39 4) 1 x0), (3, .ptr 0 0), (4, .bool false), (5, .int .i64 s1047), (6, .bool false), (7, .int .i64 s2001.2)]) (H2 := [.box (encSt25 x1)]) 0 (by rw [hFH]; rfl) hFD [0] (by kernel_rfl) (by kernel_rfl) (by decide) (by kernel_rfl) (by kernel_rfl) (by kernel_rfl) (by kernel_rfl)) ?_
        exact kN [0, 3, 4, 5, 6, 7]
      ·refine kR ?_
       refine kC 3 [0,3,4,5,6,7] ?_
       refine kE ?_
       obtain rfl := oi h2068
       exact PJ.loopNext [0, 3, 4, 5, 6, 7] (by kernel_rfl) (by kernel_rfl)
     ·have h2055 := condF hb2053 h2052
      refine kF ?_
      refine K.exit 2 (by kernel_rfl) ?_
      refine PJ.passExit ?_
      obtain rfl := oi h2055
      refine PJ.loopOut (fun e => nomatch e) (fun he2078 => ?_)
      have h2077 := congrArg some he2078
      refine PJ.blockOut ?_
      obtain rfl := oi h2077
      exact kN [0, 3, 4, 5, 6]
    ·refine kSR ?_
     refine kC 1 [0,3,4,5,37] ?_
     refine kEN ?_
     refine J.caseB 37 (b := s1996) (by kernel_rfl) (fun hb2079 => ?_) (fun hb2079 => ?_)
     ·have h2080 := condT hb2079 h2000
      refine kT ?_
      refine kSR ?_
      refine kC 1 [0,3,4,5] ?_
      refine kEN ?_
      refine kX ?_
      refine PJ.blockRet ?_
      obtain rfl := oi h2080
      have h2082 := joinX_inr h1916
      refine PJ.cutXr (fun e => nomatch e) ?_
      obtain rfl := oi h2082
      refine PJ.loopOut (fun e => nomatch e) (fun he2085 => ?_)
      have h2083 := congrArg some he2085
      refine PJ.blockRet ?_
      obtain rfl := oi h2083
      have h2084 := joinX_inr h1045
      refine PJ.cutXr (fun e => nomatch e) ?_
      obtain rfl := oi h2084
      exact kZ hFn hFH hFD
     ·have h2081 := condF hb2079 h2000
      refine kF ?_
      refine kK ?_
      refine PJ.blockNormal ?_
      obtain rfl := oi h2081
      exact PJ.cutXl [0, 3, 4, 5] (by kernel_rfl) (by kernel_rfl)
   ·subst hs
    have h1917 := joinX_inl h1916
    refine kR ?_
    refine kC 3 [0,3,4,5] ?_
    refine kE ?_
    obtain rfl := oi h1917
    exact PJ.loopNext [0, 3, 4, 5] (by kernel_rfl) (by kernel_rfl)
  ·have h1744 := condF hb1742 hs1740
   refine kF ?_
   refine K.exit 0 (by kernel_rfl) ?_
   refine PJ.passExit ?_
   obtain rfl := oi h1744
   refine PJ.loopOut (fun e => nomatch e) (fun he2087 => ?_)
   have h2086 := congrArg some he2087
   refine PJ.blockOut ?_
   obtain rfl := oi h2086
   refine PJ.wk (Wk.sel (L2 := [(4, .bool false)]) (H2 := []) 0 (by rw [hFH]; rfl) hFD [] (by kernel_rfl) (by kernel_rfl) (by decide) (by kernel_rfl) (by kernel_rfl) (by kernel_rfl) (by kernel_rfl)) ?_
   exact PJ.cutXl [4] (by kernel_rfl) (by kernel_rfl)
 ·subst hs
  have h1046 := joinX_inl h1045
  refine kSR ?_
  refine kC 1 [4] ?_
  refine kEN ?_
  refine kX ?_
  obtain rfl := oi h1046
  exact kZ hFn hFH hFD
def exerguelaw11_RuleTells (x0 : List (List St39)) (x1 : List (List St39)) (x2 : St25) : Option (Bool) :=
 (Option.bind exerguelaw11_shown fun y1 => (Option.bind (Option.bind (Option.bind (exergueref11_Short x0) fun y59 => (bif (!y59) then (some true) else (Option.bind (exergueref11_Short x1) fun y65 => (bif (!y65) then (some true) else (some ((decide (((IntKind.wrap .i64 ((x2.I_.length : Int) + (x2.F_.length : Int)))) > 1000)))))))) fun (s54 : Bool) => (bif s54 then (some (.inr y1)) else (some (.inl ())))) (joinX fun (s37 : Unit) => (Option.bind (exergueref11_Right x0) fun y75 => (Option.bind (Option.bind (Option.bind (rule_Right x0) fun y133 => (bif (y133 != y75) then (some true) else (Option.bind (rule_Same x0 x1) fun y139 => (Option.bind (exergueref11_Same x0 x1) fun y142 => (some (y139 != y142)))))) fun (s128 : Bool) => (bif s128 then (some (.inr false)) else (some (.inl ())))) (joinX fun (s111 : Unit) => (bif (!y75) then (some y1) else (Option.bind (bif y1 then (Option.bind (rule_Text x0) fun y184 => (Option.bind (exergueref11_Text x0) fun y187 => (bif (y184 == y187) then (Option.bind (exergueref07_Right x2) fun y193 => (bif (!y193) then (some true) else (Option.bind (rule_Holds x0 x2) fun y199 => (Option.bind (exergueref11_Holds x0 x2) fun y202 => (some (y199 == y202)))))) else (some false)))) else (some false)) fun (s176 : Bool) => (some s176)))))))))
theorem exerguelaw11_RuleTells_ok {x0 : List (List St39)} {x1 : List (List St39)} {x2 : St25} {r : Bool} (h : exerguelaw11_RuleTells x0 x1 x2 = some r) : SC Tryz.prog 3 [lsv (encL encSt39 4) 1 x0, lsv (encL encSt39 4) 1 x1, .agg (encSt25 x2)] [] (.bool r) [] := by
 refine kFn (fn := Tryz.f3) (fun F hFn hFH hFD => ?_)
 unfold exerguelaw11_RuleTells at h
 refine kSR ?_
 refine kC 2 [0,1,5,6] ?_
 refine kEN ?_
 refine kSR ?_
 obtain ⟨y1, hy2, h3⟩ := bindS h
 refine RJ.call0 (d := (some 9)) (f := 4) (args := []) (v := .bool y1) (tr2 := []) (by kernel_rfl) (by kernel_rfl) .nil (exerguelaw11_shown_ok hy2) (by kernel_rfl) ?_
 refine kC 1 [0,1,5,6,7] ?_
 refine kEN ?_
 obtain ⟨y38, hy39, h40⟩ := bindS h3
 refine K.cutX (by kernel_rfl) (fun (s37 : Unit) => ([(0, lsv (encL encSt39 4) 1 x0), (1, lsv (encL encSt39 4) 1 x1), (5, .ptr 0 0), (6, .bool false), (7, .bool y1)], [.box (encSt25 x2)])) y38 ?_ (fun s37 hs => ?_)
 ·obtain ⟨s54, hy56, h58⟩ := bindS hy39
  refine K.cutN (by kernel_rfl) (fun (s54 : Bool) => ([(0, lsv (encL encSt39 4) 1 x0), (1, lsv (encL encSt39 4) 1 x1), (5, .ptr 0 0), (6, .bool false), (7, .bool y1), (27, .bool s54)], [.box (encSt25 x2)])) s54 ?_ ?_
  ·refine kR ?_
   refine kC 1 [0,1,5,6,7,10] ?_
   obtain ⟨y59, hy60, h61⟩ := bindS hy56
   refine RJ.call0 (d := (some 11)) (f := 5) (args := [lsv (encL encSt39 4) 1 x0]) (v := .bool y59) (tr2 := []) (by kernel_rfl) (by kernel_rfl) (.cons (Le.refl _) .nil) (exergueref11_Short_ok hy60) (by kernel_rfl) ?_
   refine RJ.seg 2 [0, 1, 5, 6, 7, 13] (L2 := [(0, lsv (encL encSt39 4) 1 x0), (1, lsv (encL encSt39 4) 1 x1), (5, .ptr 0 0), (6, .bool false), (7, .bool y1), (13, .bool (!y59))]) (H2 := [.box (encSt25 x2)]) (by kernel_rfl) ?_
   refine RJ.caseB 13 (b := (!y59)) (by kernel_rfl) (fun hb62 => ?_) (fun hb62 => ?_)
   ·have h63 := condT hb62 h61
    refine kC 14 [0,1,5,6,7,27] ?_
    refine kE ?_
    obtain rfl := oi h63
    exact kN [0, 1, 5, 6, 7, 27]
   ·have h64 := condF hb62 h61
    refine kC 1 [0,1,5,6,7,13,14] ?_
    obtain ⟨y65, hy66, h67⟩ := bindS h64
    refine RJ.call0 (d := (some 15)) (f := 5) (args := [lsv (encL encSt39 4) 1 x1]) (v := .bool y65) (tr2 := []) (by kernel_rfl) (by kernel_rfl) (.cons (Le.refl _) .nil) (exergueref11_Short_ok hy66) (by kernel_rfl) ?_
    refine kC 3 [0,1,5,6,7,18] ?_
    refine RJ.caseB 18 (b := (!y65)) (by kernel_rfl) (fun hb68 => ?_) (fun hb68 => ?_)
    ·have h69 := condT hb68 h67
     refine kC 9 [0,1,5,6,7,27] ?_
     refine kE ?_
     obtain rfl := oi h69
     exact kN [0, 1, 5, 6, 7, 27]
    ·have h70 := condF hb68 h67
     refine kC 9 [0,1,5,6,7,27] ?_
     refine kE ?_
     obtain rfl := oi h70
     exact kN [0, 1, 5, 6, 7, 27]
  ·refine J.caseB 27 (b := s54) (by kernel_rfl) (fun hb71 => ?_) (fun hb71 => ?_)
   ·have h72 := condT hb71 h58
    refine kT ?_
    refine kSR ?_
    refine kC 2 [0,1,5,6,7] ?_
    refine kEN ?_
    refine kX ?_
    obtain rfl := oi h72
    have h74 := joinX_inr h40
    refine PJ.cutXr (fun e => nomatch e) ?_
    obtain rfl := oi h74
    exact kZ hFn hFH hFD
   ·have h73 := condF hb71 h58
    refine kF ?_
    refine kK ?_
    obtain rfl := oi h73
    exact PJ.cutXl [0, 1, 5, 6, 7] (by kernel_rfl) (by kernel_rfl)
 ·subst hs
  have h41 := joinX_inl h40
  refine kSR ?_
  refine kC 1 [0,1,5,6,7,29] ?_
  obtain ⟨y75, hy76, h77⟩ := bindS h41
  refine RJ.call0 (d := (some 30)) (f := 6) (args := [lsv (encL encSt39 4) 1 x0]) (v := .bool y75) (tr2 := []) (by kernel_rfl) (by kernel_rfl) (.cons (Le.refl _) .nil) (exergueref11_Right_ok hy76) (by kernel_rfl) ?_
  refine kC 1 [0,1,5,6,7,8] ?_
  refine kEN ?_
  obtain ⟨y112, hy113, h114⟩ := bindS h77
  refine K.cutX (by kernel_rfl) (fun (s111 : Unit) => ([(0, lsv (encL encSt39 4) 1 x0), (5, .ptr 0 0), (6, .bool false), (7, .bool y1), (8, .bool y75)], [.box (encSt25 x2)])) y112 ?_ (fun s111 hs => ?_)
  ·obtain ⟨s128, hy130, h132⟩ := bindS hy113
   refine K.cutN (by kernel_rfl) (fun (s128 : Bool) => ([(0, lsv (encL encSt39 4) 1 x0), (5, .ptr 0 0), (6, .bool false), (7, .bool y1), (8, .bool y75), (43, .bool s128)], [.box (encSt25 x2)])) s128 ?_ ?_
   ·refine kR ?_
    refine kC 1 [0,1,5,6,7,8,31] ?_
    obtain ⟨y133, hy134, h135⟩ := bindS hy130
    refine RJ.call0 (d := (some 32)) (f := 7) (args := [lsv (encL encSt39 4) 1 x0]) (v := .bool y133) (tr2 := []) (by kernel_rfl) (by kernel_rfl) (.cons (Le.refl _) .nil) (rule_Right_ok hy134) (by kernel_rfl) ?_
    refine RJ.seg 3 [0, 1, 5, 6, 7, 8, 35] (L2 := [(0, lsv (encL encSt39 4) 1 x0), (1, lsv (encL encSt39 4) 1 x1), (5, .ptr 0 0), (6, .bool false), (7, .bool y1), (8, .bool y75), (35, .bool (y133 != y75))]) (H2 := [.box (encSt25 x2)]) (by kernel_rfl) ?_
    refine RJ.caseB 35 (b := (y133 != y75)) (by kernel_rfl) (fun hb136 => ?_) (fun hb136 => ?_)
    ·have h137 := condT hb136 h135
     refine kC 8 [0,5,6,7,8,43] ?_
     refine kE ?_
     obtain rfl := oi h137
     exact kN [0, 5, 6, 7, 8, 43]
    ·have h138 := condF hb136 h135
     refine kC 2 [0,1,5,6,7,8,35,36,37] ?_
     obtain ⟨y139, hy140, h141⟩ := bindS h138
     refine RJ.call0 (d := (some 38)) (f := 8) (args := [lsv (encL encSt39 4) 1 x0, lsv (encL encSt39 4) 1 x1]) (v := .bool y139) (tr2 := []) (by kernel_rfl) (by kernel_rfl) (.cons (Le.refl _) (.cons (Le.refl _) .nil)) (rule_Same_ok hy140) (by kernel_rfl) ?_
     refine kC 2 [0,5,6,7,8,35,38,39,40] ?_
     obtain ⟨y142, hy143, h144⟩ := bindS h141
     refine RJ.call0 (d := (some 41)) (f := 9) (args := [lsv (encL encSt39 4) 1 x0, lsv (encL encSt39 4) 1 x1]) (v := .bool y142) (tr2 := []) (by kernel_rfl) (by kernel_rfl) (.cons (Le.refl _) (.cons (Le.refl _) .nil)) (exergueref11_Same_ok hy143) (by kernel_rfl) ?_
     refine kC 2 [0,5,6,7,8,43] ?_
     refine kE ?_
     obtain rfl := oi h144
     exact kN [0, 5, 6, 7, 8, 43]
   ·refine J.caseB 43 (b := s128) (by kernel_rfl) (fun hb145 => ?_) (fun hb145 => ?_)
    ·have h146 := condT hb145 h132
     refine kT ?_
     refine kSR ?_
     refine kC 1 [0,5,6,7,8] ?_
     refine kEN ?_
     refine kX ?_
     obtain rfl := oi h146
     have h148 := joinX_inr h114
     refine PJ.cutXr (fun e => nomatch e) ?_
     obtain rfl := oi h148
     exact kZ hFn hFH hFD
    ·have h147 := condF hb145 h132
     refine kF ?_
     refine kK ?_
     obtain rfl := oi h147
     exact PJ.cutXl [0, 5, 6, 7, 8] (by kernel_rfl) (by kernel_rfl)
  ·subst hs
   have h115 := joinX_inl h114
   refine kS ?_
   refine kSR ?_
   refine kC 2 [0,5,6,7,45] ?_
   refine kEN ?_
   refine J.caseB 45 (b := (!y75)) (by kernel_rfl) (fun hb149 => ?_) (fun hb149 => ?_)
   ·have h150 := condT hb149 h115
    refine kT ?_
    refine kSR ?_
    refine kC 2 [0,5,6,7] ?_
    refine kEN ?_
    refine kX ?_
    refine PJ.passRet ?_
    obtain rfl := oi h150
    exact kZ hFn hFH hFD
   ·have h151 := condF hb149 h115
    refine kF ?_
    refine kK ?_
    refine PJ.next ?_
    obtain ⟨s176, hy178, h180⟩ := bindS h151
    refine K.cutN (by kernel_rfl) (fun (s176 : Bool) => ([(6, .bool s176)], [])) s176 ?_ ?_
    ·refine J.keep [0, 5, 6, 7] (L2 := [(0, lsv (encL encSt39 4) 1 x0), (5, .ptr 0 0), (6, .bool false), (7, .bool y1)]) (by kernel_rfl) ?_
     refine K.draw (by kernel_rfl) (by kernel_rfl) (by kernel_rfl) (H2 := [.box (encSt25 x2), .res, .res, .res, .res, .res]) (by kernel_rfl) (n := 1) (by kernel_rfl) ?_
     refine kD 2 ?_
     refine RJ.caseB 48 (b := y1) (by kernel_rfl) (fun hb181 => ?_) (fun hb181 => ?_)
     ·have h182 := condT hb181 hy178
      refine kD 1 ?_
      obtain ⟨y184, hy185, h186⟩ := bindS h182
      refine RJ.call0 (d := (some 50)) (f := 10) (args := [lsv (encL encSt39 4) 1 x0]) (v := .str y184) (tr2 := [([], []), ([], []), ([], []), ([], [2, 3])]) (by kernel_rfl) (by kernel_rfl) (.cons (Le.refl _) .nil) (rule_Text_ok hy185) (by kernel_rfl) ?_
      refine RJ.segD 1 (tr2 := [([], []), ([], []), ([], []), ([], [2, 3]), ([], [])]) (L2 := [(51, lsv (encL encSt39 4) 1 x0), (50, .str y184), (49, lsv (encL encSt39 4) 1 x0), (48, .bool true), (48, .bool y1), (47, .bool y1), (0, lsv (encL encSt39 4) 1 x0), (5, .ptr 0 0), (6, .bool false), (7, .bool y1)]) (H2 := [.box (encSt25 x2), .res, .res, .res, .res, .res]) (by kernel_rfl) ?_
      obtain ⟨y187, hy188, h189⟩ := bindS h186
      refine RJ.call0 (d := (some 52)) (f := 11) (args := [lsv (encL encSt39 4) 1 x0]) (v := .str y187) (tr2 := [([], []), ([], []), ([], []), ([], [2, 3]), ([], []), ([], [4, 5])]) (by kernel_rfl) (by kernel_rfl) (.cons (Le.refl _) .nil) (exergueref11_Text_ok hy188) (by kernel_rfl) ?_
      refine kD 3 ?_
      refine RJ.caseB 55 (b := (y184 == y187)) (by kernel_rfl) (fun hb190 => ?_) (fun hb190 => ?_)
      ·have h191 := condT hb190 h189
       refine kD 1 ?_
       obtain ⟨y193, hy194, h195⟩ := bindS h191
       refine RJ.call0 (d := (some 57)) (f := 12) (args := [.agg (encSt25 x2)]) (v := .bool y193) (tr2 := [([], []), ([], []), ([], []), ([], [2, 3]), ([], []), ([], [4, 5]), ([], []), ([], []), ([], []), ([0, 1], []), ([], [6, 7])]) (by kernel_rfl) (by kernel_rfl) (.cons (Le.refl _) .nil) (exergueref07_Right_ok hy194) (by kernel_rfl) ?_
       refine kD 2 ?_
       refine RJ.caseB 59 (b := (!y193)) (by kernel_rfl) (fun hb196 => ?_) (fun hb196 => ?_)
       ·have h197 := condT hb196 h195
        refine RJ.segD 10 (tr2 := [([], []), ([], []), ([], []), ([], [2, 3]), ([], []), ([], [4, 5]), ([], []), ([], []), ([], []), ([0, 1], []), ([], [6, 7]), ([], []), ([], []), ([], []), ([], []), ([], [8, 9]), ([], []), ([], []), ([], [10, 11]), ([], []), ([], []), ([], []), ([], [])]) (L2 := [(6, .bool true), (68, .bool true), (67, .bool true), (66, .tup []), (65, .tup []), (64, .tup []), (63, .tup []), (62, .tup []), (61, .tup []), (60, .tup []), (59, .bool true), (59, .bool (!y193)), (58, .bool (!y193)), (57, .bool y193), (56, .agg (encSt25 x2)), (55, .bool true), (55, .bool (y184 == y187)), (54, .bool (y184 == y187)), (53, .bool (y184 == y187)), (52, .str y187), (51, lsv (encL encSt39 4) 1 x0), (50, .str y184), (49, lsv (encL encSt39 4) 1 x0), (48, .bool true), (48, .bool y1), (47, .bool y1), (0, lsv (encL encSt39 4) 1 x0), (5, .ptr 0 0), (6, .bool false), (7, .bool y1)]) (H2 := [.box (encSt25 x2), .res, .res, .res, .res, .res]) (by kernel_rfl) ?_
        refine kE ?_
        obtain rfl := oi h197
        refine PJ.wk (Wk.sel (L2 := [(6, .bool true)]) (H2 := []) 0 (by rw [hFH]; rfl) hFD [] (by kernel_rfl) (by kernel_rfl) (by decide) (by kernel_rfl) (by kernel_rfl) (by kernel_rfl) (by kernel_rfl)) ?_
        exact kN [6]
       ·have h198 := condF hb196 h195
        refine RJ.segD 2 (tr2 := [([], []), ([], []), ([], []), ([], [2, 3]), ([], []), ([], [4, 5]), ([], []), ([], []), ([], []), ([0, 1], []), ([], [6, 7]), ([], []), ([], []), ([], []), ([0, 1], [])]) (L2 := [(61, .agg (encSt25 x2)), (60, lsv (encL encSt39 4) 1 x0), (59, .bool false), (59, .bool (!y193)), (58, .bool (!y193)), (57, .bool y193), (56, .agg (encSt25 x2)), (55, .bool true), (55, .bool (y184 == y187)), (54, .bool (y184 == y187)), (53, .bool (y184 == y187)), (52, .str y187), (51, lsv (encL encSt39 4) 1 x0), (50, .str y184), (49, lsv (encL encSt39 4) 1 x0), (48, .bool true), (48, .bool y1), (47, .bool y1), (0, lsv (encL encSt39 4) 1 x0), (5, .ptr 0 0), (6, .bool false), (7, .bool y1)]) (H2 := [.box (encSt25 x2), .res, .res, .res, .res, .res]) (by kernel_rfl) ?_
        obtain ⟨y199, hy200, h201⟩ := bindS h198
        refine RJ.call0 (d := (some 62)) (f := 13) (args := [lsv (encL encSt39 4) 1 x0, .agg (encSt25 x2)]) (v := .bool y199) (tr2 := [([], []), ([], []), ([], []), ([], [2, 3]), ([], []), ([], [4, 5]), ([], []), ([], []), ([], []), ([0, 1], []), ([], [6, 7]), ([], []), ([], []), ([], []), ([0, 1], []), ([], [8, 9])]) (by kernel_rfl) (by kernel_rfl) (.cons (Le.refl _) (.cons (Le.refl _) .nil)) (rule_Holds_ok hy200) (by kernel_rfl) ?_
        refine kD 2 ?_
        obtain ⟨y202, hy203, h204⟩ := bindS h201
        refine RJ.call0 (d := (some 65)) (f := 14) (args := [lsv (encL encSt39 4) 1 x0, .agg (encSt25 x2)]) (v := .bool y202) (tr2 := [([], []), ([], []), ([], []), ([], [2, 3]), ([], []), ([], [4, 5]), ([], []), ([], []), ([], []), ([0, 1], []), ([], [6, 7]), ([], []), ([], []), ([], []), ([0, 1], []), ([], [8, 9]), ([], []), ([0, 1], []), ([], [10, 11])]) (by kernel_rfl) (by kernel_rfl) (.cons (Le.refl _) (.cons (Le.refl _) .nil)) (exergueref11_Holds_ok hy203) (by kernel_rfl) ?_
        refine kD 4 ?_
        refine kE ?_
        obtain rfl := oi h204
        refine PJ.wk (Wk.sel (L2 := [(6, .bool (y199 == y202))]) (H2 := []) 0 (by rw [hFH]; rfl) hFD [] (by kernel_rfl) (by kernel_rfl) (by decide) (by kernel_rfl) (by kernel_rfl) (by kernel_rfl) (by kernel_rfl)) ?_
        exact kN [6]
      ·have h192 := condF hb190 h189
       refine kD 14 ?_
       refine kE ?_
       obtain rfl := oi h192
       refine PJ.wk (Wk.sel (L2 := [(6, .bool false)]) (H2 := []) 0 (by rw [hFH]; rfl) hFD [] (by kernel_rfl) (by kernel_rfl) (by decide) (by kernel_rfl) (by kernel_rfl) (by kernel_rfl) (by kernel_rfl)) ?_
       exact kN [6]
     ·have h183 := condF hb181 hy178
      refine kD 21 ?_
      refine kE ?_
      obtain rfl := oi h183
      refine PJ.wk (Wk.sel (L2 := [(6, .bool false)]) (H2 := []) 0 (by rw [hFH]; rfl) hFD [] (by kernel_rfl) (by kernel_rfl) (by decide) (by kernel_rfl) (by kernel_rfl) (by kernel_rfl) (by kernel_rfl)) ?_
      exact kN [6]
    ·refine kX ?_
     obtain rfl := oi h180
     exact kZ hFn hFH hFD
end Go.Proofs.YthpnbgbignjlpaaGreatDoor
