/-
  What the functions of this program come to, as functions of natives, each with the proof that it does. No conditions.
-/
import Derived.Test.YthpnbgbignjlpaaGreatDoorProg
import Derived.Test.YthpnbgbignjlpaaGreatDoorSySL
import Derived.Test.YthpnbgbignjlpaaGreatDoorGa
namespace Go.Proofs.YthpnbgbignjlpaaGreatDoor
open Go Go.Sy Go.RowKit
set_option linter.unusedVariables false
set_option linter.unusedSimpArgs false
set_option maxRecDepth 100000
set_option maxHeartbeats 4000000
def k1_ : List UInt8 := [0, 1, 2, 2, 3, 3, 3, 3, 4, 4, 4, 4, 4, 4, 4, 4, 5, 5, 5, 5, 5, 5, 5, 5, 5, 5, 5, 5, 5, 5, 5, 5, 6, 6, 6, 6, 6, 6, 6, 6, 6, 6, 6, 6, 6, 6, 6, 6, 6, 6, 6, 6, 6, 6, 6, 6, 6, 6, 6, 6, 6, 6, 6, 6, 7, 7, 7, 7, 7, 7, 7, 7, 7, 7, 7, 7, 7, 7, 7, 7, 7, 7, 7, 7, 7, 7, 7, 7, 7, 7, 7, 7, 7, 7, 7, 7, 7, 7, 7, 7, 7, 7, 7, 7, 7, 7, 7, 7, 7, 7, 7, 7, 7, 7, 7, 7, 7, 7, 7, 7, 7, 7, 7, 7, 7, 7, 7, 7, 8, 8, 8, 8, 8, 8, 8, 8, 8, 8, 8, 8, 8, 8, 8, 8, 8, 8, 8, 8, 8, 8, 8, 8, 8, 8, 8, 8, 8, 8, 8, 8, 8, 8, 8, 8, 8, 8, 8, 8, 8, 8, 8, 8, 8, 8, 8, 8, 8, 8, 8, 8, 8, 8, 8, 8, 8, 8, 8, 8, 8, 8, 8, 8, 8, 8, 8, 8, 8, 8, 8, 8, 8, 8, 8, 8, 8, 8, 8, 8, 8, 8, 8, 8, 8, 8, 8, 8, 8, 8, 8, 8, 8, 8, 8, 8, 8, 8, 8, 8, 8, 8, 8, 8, 8, 8, 8, 8, 8, 8, 8, 8, 8, 8, 8, 8, 8, 8, 8, 8, 8, 8, 8, 8, 8, 8, 8, 8]
def bits_Len64 (x0 : Int) : Option (Int) :=
 (Option.bind (bif (decide (x0 ≥ 4294967296)) then (some ((Int.fdiv x0 4294967296), 32)) else (some (x0, 0))) fun (s4 : Int × Int) => (Option.bind (bif (decide (s4.1 ≥ 65536)) then (some ((Int.fdiv s4.1 65536), (IntKind.wrap .i64 (s4.2 + 16)))) else (some (s4.1, s4.2))) fun (s15 : Int × Int) => (Option.bind (bif (decide (s15.1 ≥ 256)) then (some ((Int.fdiv s15.1 256), (IntKind.wrap .i64 (s15.2 + 8)))) else (some (s15.1, s15.2))) fun (s26 : Int × Int) => (bif inR (IntKind.wrap .u8 s26.1) k1_.length then (some (IntKind.wrap .i64 (s26.2 + ((IntKind.wrap .i64 ((((k1_.getD ((IntKind.wrap .u8 s26.1) : Int).toNat 0).toNat : Nat) : Int))))))) else none))))
theorem bits_Len64_ok {x0 : Int} {r : Int} (h : bits_Len64 x0 = some r) : SC Tryz.prog 89 [.int .u64 x0] [] (.int .i64 r) [] := by
 refine kFn (fn := Tryz.f89) (fun F hFn hFH hFD => ?_)
 unfold bits_Len64 at h
 refine kSR ?_
 refine kC 1 [0,2] ?_
 refine kEN ?_
 obtain ⟨s4, hy6, h8⟩ := bindS h
 refine K.cutN (by kernel_rfl) (fun (s4 : Int × Int) => ([(0, .int .u64 s4.1), (2, .int .i64 s4.2)], [])) s4 ?_ ?_
 ·refine kSR ?_
  refine kC 2 [0,2,4] ?_
  refine kEN ?_
  refine J.caseB 4 (b := (decide (x0 ≥ 4294967296))) (by kernel_rfl) (fun hb9 => ?_) (fun hb9 => ?_)
  ·have h10 := condT hb9 hy6
   refine kT ?_
   refine kSR ?_
   refine kC 3 [0,2] ?_
   refine kEN ?_
   refine kR ?_
   refine RJ.seg 1 [0, 2] (L2 := [(0, .int .u64 (Int.fdiv x0 4294967296)), (2, .int .i64 32)]) (H2 := []) (by kernel_rfl) ?_
   refine kE ?_
   obtain rfl := oi h10
   exact kN [0, 2]
  ·have h11 := condF hb9 hy6
   refine kF ?_
   refine kK ?_
   obtain rfl := oi h11
   exact kN [0, 2]
 ·obtain ⟨s15, hy17, h19⟩ := bindS h8
  refine K.cutN (by kernel_rfl) (fun (s15 : Int × Int) => ([(0, .int .u64 s15.1), (2, .int .i64 s15.2)], [])) s15 ?_ ?_
  ·refine kSR ?_
   refine kC 2 [0,2,8] ?_
   refine kEN ?_
   refine J.caseB 8 (b := (decide (s4.1 ≥ 65536))) (by kernel_rfl) (fun hb20 => ?_) (fun hb20 => ?_)
   ·have h21 := condT hb20 hy17
    refine kT ?_
    refine kSR ?_
    refine kC 3 [0,2] ?_
    refine kEN ?_
    refine kR ?_
    refine kC 3 [0,2] ?_
    refine kE ?_
    obtain rfl := oi h21
    exact kN [0, 2]
   ·have h22 := condF hb20 hy17
    refine kF ?_
    refine kK ?_
    obtain rfl := oi h22
    exact kN [0, 2]
  ·obtain ⟨s26, hy28, h30⟩ := bindS h19
   refine K.cutN (by kernel_rfl) (fun (s26 : Int × Int) => ([(0, .int .u64 s26.1), (2, .int .i64 s26.2)], [])) s26 ?_ ?_
   ·refine kSR ?_
    refine kC 2 [0,2,14] ?_
    refine kEN ?_
    refine J.caseB 14 (b := (decide (s15.1 ≥ 256))) (by kernel_rfl) (fun hb31 => ?_) (fun hb31 => ?_)
    ·have h32 := condT hb31 hy28
     refine kT ?_
     refine kSR ?_
     refine kC 3 [0,2] ?_
     refine kEN ?_
     refine kR ?_
     refine kC 3 [0,2] ?_
     refine kE ?_
     obtain rfl := oi h32
     exact kN [0, 2]
    ·have h33 := condF hb31 hy28
     refine kF ?_
     refine kK ?_
     obtain rfl := oi h33
     exact kN [0, 2]
   ·refine kSR ?_
    refine kC 3 [2,19,21] ?_
    obtain ⟨hm, h34⟩ := asrt h30
    refine RJ.rel (d := (some 22)) (ef := ⟨.int .u8 (((k1_.getD ((IntKind.wrap .u8 s26.1) : Int).toNat 0).toNat : Nat) : Int), [], []⟩) (ef' := ⟨.int .u8 (((k1_.getD ((IntKind.wrap .u8 s26.1) : Int).toNat 0).toNat : Nat) : Int), [], []⟩) (c := inR (IntKind.wrap .u8 s26.1) k1_.length) (tr2 := []) (H2 := []) (by kernel_rfl) hm (fun hc => rfl) (by kernel_rfl) ?_
    refine kC 3 [2] ?_
    refine kEN ?_
    refine kX ?_
    obtain rfl := oi h34
    exact kZ hFn hFH hFD
def strconv_log10Pow2 (x0 : Int) : Option (Int) :=
 (some (Int.fdiv (IntKind.wrap .i64 (x0 * 78913)) 262144))
theorem strconv_log10Pow2_ok {x0 : Int} {r : Int} (h : strconv_log10Pow2 x0 = some r) : SC Tryz.prog 88 [.int .i64 x0] [] (.int .i64 r) [] := by
 refine kFn (fn := Tryz.f88) (fun F hFn hFH hFD => ?_)
 unfold strconv_log10Pow2 at h
 refine kSR ?_
 refine kC 1 [0,2] ?_
 refine kEN ?_
 refine kSR ?_
 refine kC 4 [2] ?_
 refine kEN ?_
 refine kX ?_
 obtain rfl := oi h
 exact kZ hFn hFH hFD
def k2_ : List Int := [1, 10, 100, 1000, 10000, 100000, 1000000, 10000000, 100000000, 1000000000, 10000000000, 100000000000, 1000000000000, 10000000000000, 100000000000000, 1000000000000000, 10000000000000000, 100000000000000000, 1000000000000000000, 10000000000000000000]
def strconv_bool2 (x0 : Bool) : Option (Int) :=
 (bif x0 then (some 1) else (some 0))
theorem strconv_bool2_ok {x0 : Bool} {r : Int} (h : strconv_bool2 x0 = some r) : SC Tryz.prog 90 [.bool x0] [] (.int .i64 r) [] := by
 refine kFn (fn := Tryz.f90) (fun F hFn hFH hFD => ?_)
 unfold strconv_bool2 at h
 refine kSR ?_
 refine kC 1 [0,2] ?_
 refine kEN ?_
 refine kS ?_
 refine kSR ?_
 refine kC 1 [2,3] ?_
 refine kEN ?_
 refine J.caseB 3 (b := x0) (by kernel_rfl) (fun hb1 => ?_) (fun hb1 => ?_)
 ·have h2 := condT hb1 h
  refine kT ?_
  refine kSR ?_
  refine kC 1 [2] ?_
  refine kEN ?_
  refine kX ?_
  refine PJ.passRet ?_
  obtain rfl := oi h2
  exact kZ hFn hFH hFD
 ·have h3 := condF hb1 h
  refine kF ?_
  refine kK ?_
  refine PJ.next ?_
  refine kSR ?_
  refine kC 1 [2] ?_
  refine kEN ?_
  refine kX ?_
  obtain rfl := oi h3
  exact kZ hFn hFH hFD
def strconv_numDigits (x0 : Int) : Option (Int) :=
 (Option.bind (bits_Len64 x0) fun y1 => (Option.bind (strconv_log10Pow2 y1) fun y4 => (bif inR y4 20 then (Option.bind (strconv_bool2 ((decide (x0 ≥ (nth k2_ y4))))) fun y8 => (some (IntKind.wrap .i64 (y4 + y8)))) else none)))
theorem strconv_numDigits_ok {x0 : Int} {r : Int} (h : strconv_numDigits x0 = some r) : SC Tryz.prog 79 [.int .u64 x0] [] (.int .i64 r) [] := by
 refine kFn (fn := Tryz.f79) (fun F hFn hFH hFD => ?_)
 unfold strconv_numDigits at h
 refine kSR ?_
 refine kC 1 [0,2] ?_
 refine kEN ?_
 refine kSR ?_
 refine kC 1 [0,2,4] ?_
 obtain ⟨y1, hy2, h3⟩ := bindS h
 refine RJ.call0 (d := (some 5)) (f := 89) (args := [.int .u64 x0]) (v := .int .i64 y1) (tr2 := []) (by kernel_rfl) (by kernel_rfl) (.cons (Le.refl _) .nil) (bits_Len64_ok hy2) (by kernel_rfl) ?_
 obtain ⟨y4, hy5, h6⟩ := bindS h3
 refine RJ.call0 (d := (some 6)) (f := 88) (args := [.int .i64 y1]) (v := .int .i64 y4) (tr2 := []) (by kernel_rfl) (by kernel_rfl) (.cons (Le.refl _) .nil) (strconv_log10Pow2_ok hy5) (by kernel_rfl) ?_
 refine kC 1 [0,2,3] ?_
 refine kEN ?_
 refine kSR ?_
 refine RJ.seg 3 [2, 7, 8, 9] (L2 := [(2, .int .i64 0), (7, .int .i64 y4), (8, .int .u64 x0), (9, .int .i64 y4)]) (H2 := []) (by kernel_rfl) ?_
 obtain ⟨hm, h7⟩ := asrt h6
 refine RJ.rel (d := (some 10)) (ef := ⟨.ep (((k2_.flatMap (encI .u64)).drop ((y4 : Int).toNat * 1)).take 1), [], []⟩) (ef' := ⟨.ep ((encI .u64) (nth k2_ y4)), [], []⟩) (c := inR y4 20) (tr2 := []) (H2 := []) (by kernel_rfl) hm (fun hc => N.idx (encI_len .u64) hc) (by kernel_rfl) ?_
 refine kC 2 [2,7,12] ?_
 obtain ⟨y8, hy9, h10⟩ := bindS h7
 refine RJ.call0 (d := (some 13)) (f := 90) (args := [.bool ((decide (x0 ≥ (nth k2_ y4))))]) (v := .int .i64 y8) (tr2 := []) (by kernel_rfl) (by kernel_rfl) (.cons (Le.refl _) .nil) (strconv_bool2_ok hy9) (by kernel_rfl) ?_
 refine kC 2 [2] ?_
 refine kEN ?_
 refine kX ?_
 obtain rfl := oi h10
 exact kZ hFn hFH hFD
def strconv_formatBase10_s0 (x0 : Int) (x1 : Int) (x2 : List Int) : Option ((List Int)) :=
 (Option.bind (loopN (fun (s96 : Int × Int × (List Int)) => (bif (decide (s96.2.1 ≥ 8)) then (bif inR ((IntKind.wrap .u32 (((IntKind.wrap .u32 (((Int.tmod ((Int.tmod (IntKind.wrap .u32 (Int.tmod s96.1 100000000)) 10000)) 100)) * 2))) + 1))) k0_.length then (bif inR ((IntKind.wrap .u32 (((Int.tmod ((Int.tmod (IntKind.wrap .u32 (Int.tmod s96.1 100000000)) 10000)) 100)) * 2))) k0_.length then (bif inR (IntKind.wrap .i64 (s96.2.1 - 1)) x0.toNat then (bif inP 0 (IntKind.wrap .i64 (s96.2.1 - 1)) s96.2.2.length then (bif inR (IntKind.wrap .i64 (s96.2.1 - 2)) x0.toNat then (bif inP 0 (IntKind.wrap .i64 (s96.2.1 - 2)) ((setAt s96.2.2 ((0 : Nat) + (IntKind.wrap .i64 (s96.2.1 - 1)) : Int) ((((k0_.getD ((IntKind.wrap .u32 (((IntKind.wrap .u32 (((Int.tmod ((Int.tmod (IntKind.wrap .u32 (Int.tmod s96.1 100000000)) 10000)) 100)) * 2))) + 1)) : Int).toNat 0).toNat : Nat) : Int)))).length then (bif inR ((IntKind.wrap .u32 (((IntKind.wrap .u32 (((IntKind.wrap .u32 (Int.tdiv ((Int.tmod (IntKind.wrap .u32 (Int.tmod s96.1 100000000)) 10000)) 100))) * 2))) + 1))) k0_.length then (bif inR ((IntKind.wrap .u32 (((IntKind.wrap .u32 (Int.tdiv ((Int.tmod (IntKind.wrap .u32 (Int.tmod s96.1 100000000)) 10000)) 100))) * 2))) k0_.length then (bif inR (IntKind.wrap .i64 (s96.2.1 - 3)) x0.toNat then (bif inP 0 (IntKind.wrap .i64 (s96.2.1 - 3)) ((setAt ((setAt s96.2.2 ((0 : Nat) + (IntKind.wrap .i64 (s96.2.1 - 1)) : Int) ((((k0_.getD ((IntKind.wrap .u32 (((IntKind.wrap .u32 (((Int.tmod ((Int.tmod (IntKind.wrap .u32 (Int.tmod s96.1 100000000)) 10000)) 100)) * 2))) + 1)) : Int).toNat 0).toNat : Nat) : Int)))) ((0 : Nat) + (IntKind.wrap .i64 (s96.2.1 - 2)) : Int) ((((k0_.getD ((IntKind.wrap .u32 (((Int.tmod ((Int.tmod (IntKind.wrap .u32 (Int.tmod s96.1 100000000)) 10000)) 100)) * 2)) : Int).toNat 0).toNat : Nat) : Int)))).length then (bif inR (IntKind.wrap .i64 (s96.2.1 - 4)) x0.toNat then (bif inP 0 (IntKind.wrap .i64 (s96.2.1 - 4)) ((setAt ((setAt ((setAt s96.2.2 ((0 : Nat) + (IntKind.wrap .i64 (s96.2.1 - 1)) : Int) ((((k0_.getD ((IntKind.wrap .u32 (((IntKind.wrap .u32 (((Int.tmod ((Int.tmod (IntKind.wrap .u32 (Int.tmod s96.1 100000000)) 10000)) 100)) * 2))) + 1)) : Int).toNat 0).toNat : Nat) : Int)))) ((0 : Nat) + (IntKind.wrap .i64 (s96.2.1 - 2)) : Int) ((((k0_.getD ((IntKind.wrap .u32 (((Int.tmod ((Int.tmod (IntKind.wrap .u32 (Int.tmod s96.1 100000000)) 10000)) 100)) * 2)) : Int).toNat 0).toNat : Nat) : Int)))) ((0 : Nat) + (IntKind.wrap .i64 (s96.2.1 - 3)) : Int) ((((k0_.getD ((IntKind.wrap .u32 (((IntKind.wrap .u32 (((IntKind.wrap .u32 (Int.tdiv ((Int.tmod (IntKind.wrap .u32 (Int.tmod s96.1 100000000)) 10000)) 100))) * 2))) + 1)) : Int).toNat 0).toNat : Nat) : Int)))).length then (bif inR ((IntKind.wrap .u32 (((IntKind.wrap .u32 (((Int.tmod ((IntKind.wrap .u32 (Int.tdiv (IntKind.wrap .u32 (Int.tmod s96.1 100000000)) 10000))) 100)) * 2))) + 1))) k0_.length then (bif inR ((IntKind.wrap .u32 (((Int.tmod ((IntKind.wrap .u32 (Int.tdiv (IntKind.wrap .u32 (Int.tmod s96.1 100000000)) 10000))) 100)) * 2))) k0_.length then (bif inR (IntKind.wrap .i64 (s96.2.1 - 5)) x0.toNat then (bif inP 0 (IntKind.wrap .i64 (s96.2.1 - 5)) ((setAt ((setAt ((setAt ((setAt s96.2.2 ((0 : Nat) + (IntKind.wrap .i64 (s96.2.1 - 1)) : Int) ((((k0_.getD ((IntKind.wrap .u32 (((IntKind.wrap .u32 (((Int.tmod ((Int.tmod (IntKind.wrap .u32 (Int.tmod s96.1 100000000)) 10000)) 100)) * 2))) + 1)) : Int).toNat 0).toNat : Nat) : Int)))) ((0 : Nat) + (IntKind.wrap .i64 (s96.2.1 - 2)) : Int) ((((k0_.getD ((IntKind.wrap .u32 (((Int.tmod ((Int.tmod (IntKind.wrap .u32 (Int.tmod s96.1 100000000)) 10000)) 100)) * 2)) : Int).toNat 0).toNat : Nat) : Int)))) ((0 : Nat) + (IntKind.wrap .i64 (s96.2.1 - 3)) : Int) ((((k0_.getD ((IntKind.wrap .u32 (((IntKind.wrap .u32 (((IntKind.wrap .u32 (Int.tdiv ((Int.tmod (IntKind.wrap .u32 (Int.tmod s96.1 100000000)) 10000)) 100))) * 2))) + 1)) : Int).toNat 0).toNat : Nat) : Int)))) ((0 : Nat) + (IntKind.wrap .i64 (s96.2.1 - 4)) : Int) ((((k0_.getD ((IntKind.wrap .u32 (((IntKind.wrap .u32 (Int.tdiv ((Int.tmod (IntKind.wrap .u32 (Int.tmod s96.1 100000000)) 10000)) 100))) * 2)) : Int).toNat 0).toNat : Nat) : Int)))).length then (bif inR (IntKind.wrap .i64 (s96.2.1 - 6)) x0.toNat then (bif inP 0 (IntKind.wrap .i64 (s96.2.1 - 6)) ((setAt ((setAt ((setAt ((setAt ((setAt s96.2.2 ((0 : Nat) + (IntKind.wrap .i64 (s96.2.1 - 1)) : Int) ((((k0_.getD ((IntKind.wrap .u32 (((IntKind.wrap .u32 (((Int.tmod ((Int.tmod (IntKind.wrap .u32 (Int.tmod s96.1 100000000)) 10000)) 100)) * 2))) + 1)) : Int).toNat 0).toNat : Nat) : Int)))) ((0 : Nat) + (IntKind.wrap .i64 (s96.2.1 - 2)) : Int) ((((k0_.getD ((IntKind.wrap .u32 (((Int.tmod ((Int.tmod (IntKind.wrap .u32 (Int.tmod s96.1 100000000)) 10000)) 100)) * 2)) : Int).toNat 0).toNat : Nat) : Int)))) ((0 : Nat) + (IntKind.wrap .i64 (s96.2.1 - 3)) : Int) ((((k0_.getD ((IntKind.wrap .u32 (((IntKind.wrap .u32 (((IntKind.wrap .u32 (Int.tdiv ((Int.tmod (IntKind.wrap .u32 (Int.tmod s96.1 100000000)) 10000)) 100))) * 2))) + 1)) : Int).toNat 0).toNat : Nat) : Int)))) ((0 : Nat) + (IntKind.wrap .i64 (s96.2.1 - 4)) : Int) ((((k0_.getD ((IntKind.wrap .u32 (((IntKind.wrap .u32 (Int.tdiv ((Int.tmod (IntKind.wrap .u32 (Int.tmod s96.1 100000000)) 10000)) 100))) * 2)) : Int).toNat 0).toNat : Nat) : Int)))) ((0 : Nat) + (IntKind.wrap .i64 (s96.2.1 - 5)) : Int) ((((k0_.getD ((IntKind.wrap .u32 (((IntKind.wrap .u32 (((Int.tmod ((IntKind.wrap .u32 (Int.tdiv (IntKind.wrap .u32 (Int.tmod s96.1 100000000)) 10000))) 100)) * 2))) + 1)) : Int).toNat 0).toNat : Nat) : Int)))).length then (bif inR ((IntKind.wrap .u32 (((IntKind.wrap .u32 (((IntKind.wrap .u32 (Int.tdiv ((IntKind.wrap .u32 (Int.tdiv (IntKind.wrap .u32 (Int.tmod s96.1 100000000)) 10000))) 100))) * 2))) + 1))) k0_.length then (bif inR ((IntKind.wrap .u32 (((IntKind.wrap .u32 (Int.tdiv ((IntKind.wrap .u32 (Int.tdiv (IntKind.wrap .u32 (Int.tmod s96.1 100000000)) 10000))) 100))) * 2))) k0_.length then (bif inR (IntKind.wrap .i64 (s96.2.1 - 7)) x0.toNat then (bif inP 0 (IntKind.wrap .i64 (s96.2.1 - 7)) ((setAt ((setAt ((setAt ((setAt ((setAt ((setAt s96.2.2 ((0 : Nat) + (IntKind.wrap .i64 (s96.2.1 - 1)) : Int) ((((k0_.getD ((IntKind.wrap .u32 (((IntKind.wrap .u32 (((Int.tmod ((Int.tmod (IntKind.wrap .u32 (Int.tmod s96.1 100000000)) 10000)) 100)) * 2))) + 1)) : Int).toNat 0).toNat : Nat) : Int)))) ((0 : Nat) + (IntKind.wrap .i64 (s96.2.1 - 2)) : Int) ((((k0_.getD ((IntKind.wrap .u32 (((Int.tmod ((Int.tmod (IntKind.wrap .u32 (Int.tmod s96.1 100000000)) 10000)) 100)) * 2)) : Int).toNat 0).toNat : Nat) : Int)))) ((0 : Nat) + (IntKind.wrap .i64 (s96.2.1 - 3)) : Int) ((((k0_.getD ((IntKind.wrap .u32 (((IntKind.wrap .u32 (((IntKind.wrap .u32 (Int.tdiv ((Int.tmod (IntKind.wrap .u32 (Int.tmod s96.1 100000000)) 10000)) 100))) * 2))) + 1)) : Int).toNat 0).toNat : Nat) : Int)))) ((0 : Nat) + (IntKind.wrap .i64 (s96.2.1 - 4)) : Int) ((((k0_.getD ((IntKind.wrap .u32 (((IntKind.wrap .u32 (Int.tdiv ((Int.tmod (IntKind.wrap .u32 (Int.tmod s96.1 100000000)) 10000)) 100))) * 2)) : Int).toNat 0).toNat : Nat) : Int)))) ((0 : Nat) + (IntKind.wrap .i64 (s96.2.1 - 5)) : Int) ((((k0_.getD ((IntKind.wrap .u32 (((IntKind.wrap .u32 (((Int.tmod ((IntKind.wrap .u32 (Int.tdiv (IntKind.wrap .u32 (Int.tmod s96.1 100000000)) 10000))) 100)) * 2))) + 1)) : Int).toNat 0).toNat : Nat) : Int)))) ((0 : Nat) + (IntKind.wrap .i64 (s96.2.1 - 6)) : Int) ((((k0_.getD ((IntKind.wrap .u32 (((Int.tmod ((IntKind.wrap .u32 (Int.tdiv (IntKind.wrap .u32 (Int.tmod s96.1 100000000)) 10000))) 100)) * 2)) : Int).toNat 0).toNat : Nat) : Int)))).length then (bif inR (IntKind.wrap .i64 (s96.2.1 - 8)) x0.toNat then (bif inP 0 (IntKind.wrap .i64 (s96.2.1 - 8)) ((setAt ((setAt ((setAt ((setAt ((setAt ((setAt ((setAt s96.2.2 ((0 : Nat) + (IntKind.wrap .i64 (s96.2.1 - 1)) : Int) ((((k0_.getD ((IntKind.wrap .u32 (((IntKind.wrap .u32 (((Int.tmod ((Int.tmod (IntKind.wrap .u32 (Int.tmod s96.1 100000000)) 10000)) 100)) * 2))) + 1)) : Int).toNat 0).toNat : Nat) : Int)))) ((0 : Nat) + (IntKind.wrap .i64 (s96.2.1 - 2)) : Int) ((((k0_.getD ((IntKind.wrap .u32 (((Int.tmod ((Int.tmod (IntKind.wrap .u32 (Int.tmod s96.1 100000000)) 10000)) 100)) * 2)) : Int).toNat 0).toNat : Nat) : Int)))) ((0 : Nat) + (IntKind.wrap .i64 (s96.2.1 - 3)) : Int) ((((k0_.getD ((IntKind.wrap .u32 (((IntKind.wrap .u32 (((IntKind.wrap .u32 (Int.tdiv ((Int.tmod (IntKind.wrap .u32 (Int.tmod s96.1 100000000)) 10000)) 100))) * 2))) + 1)) : Int).toNat 0).toNat : Nat) : Int)))) ((0 : Nat) + (IntKind.wrap .i64 (s96.2.1 - 4)) : Int) ((((k0_.getD ((IntKind.wrap .u32 (((IntKind.wrap .u32 (Int.tdiv ((Int.tmod (IntKind.wrap .u32 (Int.tmod s96.1 100000000)) 10000)) 100))) * 2)) : Int).toNat 0).toNat : Nat) : Int)))) ((0 : Nat) + (IntKind.wrap .i64 (s96.2.1 - 5)) : Int) ((((k0_.getD ((IntKind.wrap .u32 (((IntKind.wrap .u32 (((Int.tmod ((IntKind.wrap .u32 (Int.tdiv (IntKind.wrap .u32 (Int.tmod s96.1 100000000)) 10000))) 100)) * 2))) + 1)) : Int).toNat 0).toNat : Nat) : Int)))) ((0 : Nat) + (IntKind.wrap .i64 (s96.2.1 - 6)) : Int) ((((k0_.getD ((IntKind.wrap .u32 (((Int.tmod ((IntKind.wrap .u32 (Int.tdiv (IntKind.wrap .u32 (Int.tmod s96.1 100000000)) 10000))) 100)) * 2)) : Int).toNat 0).toNat : Nat) : Int)))) ((0 : Nat) + (IntKind.wrap .i64 (s96.2.1 - 7)) : Int) ((((k0_.getD ((IntKind.wrap .u32 (((IntKind.wrap .u32 (((IntKind.wrap .u32 (Int.tdiv ((IntKind.wrap .u32 (Int.tdiv (IntKind.wrap .u32 (Int.tmod s96.1 100000000)) 10000))) 100))) * 2))) + 1)) : Int).toNat 0).toNat : Nat) : Int)))).length then (some (.inl ((IntKind.wrap .u64 (Int.tdiv s96.1 100000000)), (IntKind.wrap .i64 (s96.2.1 - 8)), (setAt ((setAt ((setAt ((setAt ((setAt ((setAt ((setAt ((setAt s96.2.2 ((0 : Nat) + (IntKind.wrap .i64 (s96.2.1 - 1)) : Int) ((((k0_.getD ((IntKind.wrap .u32 (((IntKind.wrap .u32 (((Int.tmod ((Int.tmod (IntKind.wrap .u32 (Int.tmod s96.1 100000000)) 10000)) 100)) * 2))) + 1)) : Int).toNat 0).toNat : Nat) : Int)))) ((0 : Nat) + (IntKind.wrap .i64 (s96.2.1 - 2)) : Int) ((((k0_.getD ((IntKind.wrap .u32 (((Int.tmod ((Int.tmod (IntKind.wrap .u32 (Int.tmod s96.1 100000000)) 10000)) 100)) * 2)) : Int).toNat 0).toNat : Nat) : Int)))) ((0 : Nat) + (IntKind.wrap .i64 (s96.2.1 - 3)) : Int) ((((k0_.getD ((IntKind.wrap .u32 (((IntKind.wrap .u32 (((IntKind.wrap .u32 (Int.tdiv ((Int.tmod (IntKind.wrap .u32 (Int.tmod s96.1 100000000)) 10000)) 100))) * 2))) + 1)) : Int).toNat 0).toNat : Nat) : Int)))) ((0 : Nat) + (IntKind.wrap .i64 (s96.2.1 - 4)) : Int) ((((k0_.getD ((IntKind.wrap .u32 (((IntKind.wrap .u32 (Int.tdiv ((Int.tmod (IntKind.wrap .u32 (Int.tmod s96.1 100000000)) 10000)) 100))) * 2)) : Int).toNat 0).toNat : Nat) : Int)))) ((0 : Nat) + (IntKind.wrap .i64 (s96.2.1 - 5)) : Int) ((((k0_.getD ((IntKind.wrap .u32 (((IntKind.wrap .u32 (((Int.tmod ((IntKind.wrap .u32 (Int.tdiv (IntKind.wrap .u32 (Int.tmod s96.1 100000000)) 10000))) 100)) * 2))) + 1)) : Int).toNat 0).toNat : Nat) : Int)))) ((0 : Nat) + (IntKind.wrap .i64 (s96.2.1 - 6)) : Int) ((((k0_.getD ((IntKind.wrap .u32 (((Int.tmod ((IntKind.wrap .u32 (Int.tdiv (IntKind.wrap .u32 (Int.tmod s96.1 100000000)) 10000))) 100)) * 2)) : Int).toNat 0).toNat : Nat) : Int)))) ((0 : Nat) + (IntKind.wrap .i64 (s96.2.1 - 7)) : Int) ((((k0_.getD ((IntKind.wrap .u32 (((IntKind.wrap .u32 (((IntKind.wrap .u32 (Int.tdiv ((IntKind.wrap .u32 (Int.tdiv (IntKind.wrap .u32 (Int.tmod s96.1 100000000)) 10000))) 100))) * 2))) + 1)) : Int).toNat 0).toNat : Nat) : Int)))) ((0 : Nat) + (IntKind.wrap .i64 (s96.2.1 - 8)) : Int) ((((k0_.getD ((IntKind.wrap .u32 (((IntKind.wrap .u32 (Int.tdiv ((IntKind.wrap .u32 (Int.tdiv (IntKind.wrap .u32 (Int.tmod s96.1 100000000)) 10000))) 100))) * 2)) : Int).toNat 0).toNat : Nat) : Int)))))) else none) else none) else none) else none) else none) else none) else none) else none) else none) else none) else none) else none) else none) else none) else none) else none) else none) else none) else none) else none) else none) else none) else none) else none) else (some (.inr (s96.1, s96.2.1, s96.2.2))))) big (x1, ((x0.toNat : Nat) : Int), x2)) fun (s91 : Int × Int × (List Int)) => (Option.bind (bif (decide (s91.2.1 ≥ 4)) then (bif inR ((IntKind.wrap .u32 (((IntKind.wrap .u32 (((Int.tmod (Int.tmod (IntKind.wrap .u32 s91.1) 10000) 100)) * 2))) + 1))) k0_.length then (bif inR ((IntKind.wrap .u32 (((Int.tmod (Int.tmod (IntKind.wrap .u32 s91.1) 10000) 100)) * 2))) k0_.length then (bif inR (IntKind.wrap .i64 (s91.2.1 - 1)) x0.toNat then (bif inP 0 (IntKind.wrap .i64 (s91.2.1 - 1)) s91.2.2.length then (bif inR (IntKind.wrap .i64 (s91.2.1 - 2)) x0.toNat then (bif inP 0 (IntKind.wrap .i64 (s91.2.1 - 2)) ((setAt s91.2.2 ((0 : Nat) + (IntKind.wrap .i64 (s91.2.1 - 1)) : Int) ((((k0_.getD ((IntKind.wrap .u32 (((IntKind.wrap .u32 (((Int.tmod (Int.tmod (IntKind.wrap .u32 s91.1) 10000) 100)) * 2))) + 1)) : Int).toNat 0).toNat : Nat) : Int)))).length then (bif inR ((IntKind.wrap .u32 (((IntKind.wrap .u32 (((IntKind.wrap .u32 (Int.tdiv (Int.tmod (IntKind.wrap .u32 s91.1) 10000) 100))) * 2))) + 1))) k0_.length then (bif inR ((IntKind.wrap .u32 (((IntKind.wrap .u32 (Int.tdiv (Int.tmod (IntKind.wrap .u32 s91.1) 10000) 100))) * 2))) k0_.length then (bif inR (IntKind.wrap .i64 (s91.2.1 - 3)) x0.toNat then (bif inP 0 (IntKind.wrap .i64 (s91.2.1 - 3)) ((setAt ((setAt s91.2.2 ((0 : Nat) + (IntKind.wrap .i64 (s91.2.1 - 1)) : Int) ((((k0_.getD ((IntKind.wrap .u32 (((IntKind.wrap .u32 (((Int.tmod (Int.tmod (IntKind.wrap .u32 s91.1) 10000) 100)) * 2))) + 1)) : Int).toNat 0).toNat : Nat) : Int)))) ((0 : Nat) + (IntKind.wrap .i64 (s91.2.1 - 2)) : Int) ((((k0_.getD ((IntKind.wrap .u32 (((Int.tmod (Int.tmod (IntKind.wrap .u32 s91.1) 10000) 100)) * 2)) : Int).toNat 0).toNat : Nat) : Int)))).length then (bif inR (IntKind.wrap .i64 (s91.2.1 - 4)) x0.toNat then (bif inP 0 (IntKind.wrap .i64 (s91.2.1 - 4)) ((setAt ((setAt ((setAt s91.2.2 ((0 : Nat) + (IntKind.wrap .i64 (s91.2.1 - 1)) : Int) ((((k0_.getD ((IntKind.wrap .u32 (((IntKind.wrap .u32 (((Int.tmod (Int.tmod (IntKind.wrap .u32 s91.1) 10000) 100)) * 2))) + 1)) : Int).toNat 0).toNat : Nat) : Int)))) ((0 : Nat) + (IntKind.wrap .i64 (s91.2.1 - 2)) : Int) ((((k0_.getD ((IntKind.wrap .u32 (((Int.tmod (Int.tmod (IntKind.wrap .u32 s91.1) 10000) 100)) * 2)) : Int).toNat 0).toNat : Nat) : Int)))) ((0 : Nat) + (IntKind.wrap .i64 (s91.2.1 - 3)) : Int) ((((k0_.getD ((IntKind.wrap .u32 (((IntKind.wrap .u32 (((IntKind.wrap .u32 (Int.tdiv (Int.tmod (IntKind.wrap .u32 s91.1) 10000) 100))) * 2))) + 1)) : Int).toNat 0).toNat : Nat) : Int)))).length then (some ((IntKind.wrap .i64 (s91.2.1 - 4)), (IntKind.wrap .u32 (Int.tdiv (IntKind.wrap .u32 s91.1) 10000)), (setAt ((setAt ((setAt ((setAt s91.2.2 ((0 : Nat) + (IntKind.wrap .i64 (s91.2.1 - 1)) : Int) ((((k0_.getD ((IntKind.wrap .u32 (((IntKind.wrap .u32 (((Int.tmod (Int.tmod (IntKind.wrap .u32 s91.1) 10000) 100)) * 2))) + 1)) : Int).toNat 0).toNat : Nat) : Int)))) ((0 : Nat) + (IntKind.wrap .i64 (s91.2.1 - 2)) : Int) ((((k0_.getD ((IntKind.wrap .u32 (((Int.tmod (Int.tmod (IntKind.wrap .u32 s91.1) 10000) 100)) * 2)) : Int).toNat 0).toNat : Nat) : Int)))) ((0 : Nat) + (IntKind.wrap .i64 (s91.2.1 - 3)) : Int) ((((k0_.getD ((IntKind.wrap .u32 (((IntKind.wrap .u32 (((IntKind.wrap .u32 (Int.tdiv (Int.tmod (IntKind.wrap .u32 s91.1) 10000) 100))) * 2))) + 1)) : Int).toNat 0).toNat : Nat) : Int)))) ((0 : Nat) + (IntKind.wrap .i64 (s91.2.1 - 4)) : Int) ((((k0_.getD ((IntKind.wrap .u32 (((IntKind.wrap .u32 (Int.tdiv (Int.tmod (IntKind.wrap .u32 s91.1) 10000) 100))) * 2)) : Int).toNat 0).toNat : Nat) : Int))))) else none) else none) else none) else none) else none) else none) else none) else none) else none) else none) else none) else none) else (some (s91.2.1, (IntKind.wrap .u32 s91.1), s91.2.2))) fun (s201 : Int × Int × (List Int)) => (Option.bind (bif (decide (s201.1 ≥ 2)) then (bif inR ((IntKind.wrap .u32 (((IntKind.wrap .u32 ((Int.tmod s201.2.1 100) * 2))) + 1))) k0_.length then (bif inR ((IntKind.wrap .u32 ((Int.tmod s201.2.1 100) * 2))) k0_.length then (bif inR (IntKind.wrap .i64 (s201.1 - 1)) x0.toNat then (bif inP 0 (IntKind.wrap .i64 (s201.1 - 1)) s201.2.2.length then (bif inR (IntKind.wrap .i64 (s201.1 - 2)) x0.toNat then (bif inP 0 (IntKind.wrap .i64 (s201.1 - 2)) ((setAt s201.2.2 ((0 : Nat) + (IntKind.wrap .i64 (s201.1 - 1)) : Int) ((((k0_.getD ((IntKind.wrap .u32 (((IntKind.wrap .u32 ((Int.tmod s201.2.1 100) * 2))) + 1)) : Int).toNat 0).toNat : Nat) : Int)))).length then (some ((IntKind.wrap .i64 (s201.1 - 2)), (IntKind.wrap .u32 (Int.tdiv s201.2.1 100)), (setAt ((setAt s201.2.2 ((0 : Nat) + (IntKind.wrap .i64 (s201.1 - 1)) : Int) ((((k0_.getD ((IntKind.wrap .u32 (((IntKind.wrap .u32 ((Int.tmod s201.2.1 100) * 2))) + 1)) : Int).toNat 0).toNat : Nat) : Int)))) ((0 : Nat) + (IntKind.wrap .i64 (s201.1 - 2)) : Int) ((((k0_.getD ((IntKind.wrap .u32 ((Int.tmod s201.2.1 100) * 2)) : Int).toNat 0).toNat : Nat) : Int))))) else none) else none) else none) else none) else none) else none) else (some (s201.1, s201.2.1, s201.2.2))) fun (s230 : Int × Int × (List Int)) => (bif (decide (s230.1 > 0)) then (bif inR 0 x0.toNat then (bif inP 0 0 s230.2.2.length then (some ((setAt s230.2.2 ((0 : Nat) + 0 : Int) ((IntKind.wrap .u8 (IntKind.wrap .u32 (48 + s230.2.1))))))) else none) else none) else (some s230.2.2)))))
theorem strconv_formatBase10_s0_ok {x0 : Int} {x1 : Int} {x2 : List Int} {r : (List Int)} (h : strconv_formatBase10_s0 x0 x1 x2 = some r) : SC Tryz.prog 80 [.sl 0 0 x0.toNat 1, .int .u64 x1] [.box (x2.flatMap (encI .u8))] (.tup []) [.box (r.flatMap (encI .u8))] := by
 refine kFn (fn := Tryz.f80) (fun F hFn hFH hFD => ?_)
 unfold strconv_formatBase10_s0 at h
 refine kSR ?_
 refine kC 3 [0,1,4] ?_
 refine kEN ?_
 obtain ⟨s91, hy93, h95⟩ := bindS h
 refine K.cutN (by kernel_rfl) (fun (s91 : Int × Int × (List Int)) => ([(0, .sl 0 0 x0.toNat 1), (1, .int .u64 s91.1), (4, .int .i64 s91.2.1)], [.box (s91.2.2.flatMap (encI .u8))])) s91 ?_ ?_
 ·refine K.block 0 (by kernel_rfl) ?_
  refine K.loop (by kernel_rfl) (fun (s96 : Int × Int × (List Int)) => ([(0, .sl 0 0 x0.toNat 1), (1, .int .u64 s96.1), (4, .int .i64 s96.2.1)], [.box (s96.2.2.flatMap (encI .u8))])) hy93 [0, 1, 4] (by kernel_rfl) (by kernel_rfl) (fun s96 x156 hs155 => ?_)
  refine kS ?_
  refine kSR ?_
  refine kC 2 [0,1,4,20] ?_
  refine kEN ?_
  refine J.caseB 20 (b := (decide (s96.2.1 ≥ 8))) (by kernel_rfl) (fun hb157 => ?_) (fun hb157 => ?_)
  ·have h158 := condT hb157 hs155
   refine kT ?_
   refine kK ?_
   refine PJ.next ?_
   refine K.block 1 (by kernel_rfl) ?_
   refine kSR ?_
   refine kC 4 [0,1,4,5] ?_
   refine kEN ?_
   refine kSR ?_
   refine kC 3 [0,1,4,5] ?_
   refine kEN ?_
   refine kSR ?_
   refine RJ.seg 6 [0, 1, 4, 6, 7] (L2 := [(0, .sl 0 0 x0.toNat 1), (1, .int .u64 (IntKind.wrap .u64 (Int.tdiv s96.1 100000000))), (4, .int .i64 s96.2.1), (6, .int .u32 ((IntKind.wrap .u32 (Int.tdiv (IntKind.wrap .u32 (Int.tmod s96.1 100000000)) 10000)))), (7, .int .u32 ((Int.tmod (IntKind.wrap .u32 (Int.tmod s96.1 100000000)) 10000)))]) (H2 := [.box (s96.2.2.flatMap (encI .u8))]) (by kernel_rfl) ?_
   refine kEN ?_
   refine kSR ?_
   refine kC 8 [0,1,4,6,8,9] ?_
   refine kEN ?_
   refine kSR ?_
   refine kC 8 [0,1,4,8,9,10,11] ?_
   refine kEN ?_
   refine kS ?_
   refine J.keep [0, 1, 4, 8, 9, 10, 11] (L2 := [(0, .sl 0 0 x0.toNat 1), (1, .int .u64 (IntKind.wrap .u64 (Int.tdiv s96.1 100000000))), (4, .int .i64 s96.2.1), (8, .int .u32 ((IntKind.wrap .u32 (((IntKind.wrap .u32 (Int.tdiv ((Int.tmod (IntKind.wrap .u32 (Int.tmod s96.1 100000000)) 10000)) 100))) * 2)))), (9, .int .u32 ((IntKind.wrap .u32 (((Int.tmod ((Int.tmod (IntKind.wrap .u32 (Int.tmod s96.1 100000000)) 10000)) 100)) * 2)))), (10, .int .u32 ((IntKind.wrap .u32 (((IntKind.wrap .u32 (Int.tdiv ((IntKind.wrap .u32 (Int.tdiv (IntKind.wrap .u32 (Int.tmod s96.1 100000000)) 10000))) 100))) * 2)))), (11, .int .u32 ((IntKind.wrap .u32 (((Int.tmod ((IntKind.wrap .u32 (Int.tdiv (IntKind.wrap .u32 (Int.tmod s96.1 100000000)) 10000))) 100)) * 2))))]) (by kernel_rfl) ?_
   refine K.draw (by kernel_rfl) (by kernel_rfl) (by kernel_rfl) (H2 := [.box (s96.2.2.flatMap (encI .u8))]) (by kernel_rfl) (n := 1) (by kernel_rfl) ?_
   refine kD 8 ?_
   obtain ⟨hm, h160⟩ := asrt h158
   refine RJ.rel (d := (some 50)) (ef := ⟨.int .u8 (((k0_.getD ((IntKind.wrap .u32 (((IntKind.wrap .u32 (((Int.tmod ((Int.tmod (IntKind.wrap .u32 (Int.tmod s96.1 100000000)) 10000)) 100)) * 2))) + 1)) : Int).toNat 0).toNat : Nat) : Int), [], []⟩) (ef' := ⟨.int .u8 (((k0_.getD ((IntKind.wrap .u32 (((IntKind.wrap .u32 (((Int.tmod ((Int.tmod (IntKind.wrap .u32 (Int.tmod s96.1 100000000)) 10000)) 100)) * 2))) + 1)) : Int).toNat 0).toNat : Nat) : Int), [], []⟩) (c := inR ((IntKind.wrap .u32 (((IntKind.wrap .u32 (((Int.tmod ((Int.tmod (IntKind.wrap .u32 (Int.tmod s96.1 100000000)) 10000)) 100)) * 2))) + 1))) k0_.length) (tr2 := [([], []), ([], []), ([], []), ([], []), ([], []), ([], []), ([], []), ([], []), ([], [])]) (H2 := [.box (s96.2.2.flatMap (encI .u8))]) (by kernel_rfl) hm (fun hc => rfl) (by kernel_rfl) ?_
   refine RJ.segD 1 (tr2 := [([], []), ([], []), ([], []), ([], []), ([], []), ([], []), ([], []), ([], []), ([], []), ([], [])]) (L2 := [(51, .int .u32 ((IntKind.wrap .u32 (((Int.tmod ((Int.tmod (IntKind.wrap .u32 (Int.tmod s96.1 100000000)) 10000)) 100)) * 2)))), (50, .int .u8 ((((k0_.getD ((IntKind.wrap .u32 (((IntKind.wrap .u32 (((Int.tmod ((Int.tmod (IntKind.wrap .u32 (Int.tmod s96.1 100000000)) 10000)) 100)) * 2))) + 1)) : Int).toNat 0).toNat : Nat) : Int))), (49, .int .u32 ((IntKind.wrap .u32 (((IntKind.wrap .u32 (((Int.tmod ((Int.tmod (IntKind.wrap .u32 (Int.tmod s96.1 100000000)) 10000)) 100)) * 2))) + 1)))), (48, .int .u32 ((IntKind.wrap .u32 (((Int.tmod ((Int.tmod (IntKind.wrap .u32 (Int.tmod s96.1 100000000)) 10000)) 100)) * 2)))), (47, .int .i64 (IntKind.wrap .i64 (s96.2.1 - 2))), (46, .int .i64 s96.2.1), (45, .sl 0 0 x0.toNat 1), (44, .int .i64 (IntKind.wrap .i64 (s96.2.1 - 1))), (43, .int .i64 s96.2.1), (42, .sl 0 0 x0.toNat 1), (0, .sl 0 0 x0.toNat 1), (1, .int .u64 (IntKind.wrap .u64 (Int.tdiv s96.1 100000000))), (4, .int .i64 s96.2.1), (8, .int .u32 ((IntKind.wrap .u32 (((IntKind.wrap .u32 (Int.tdiv ((Int.tmod (IntKind.wrap .u32 (Int.tmod s96.1 100000000)) 10000)) 100))) * 2)))), (9, .int .u32 ((IntKind.wrap .u32 (((Int.tmod ((Int.tmod (IntKind.wrap .u32 (Int.tmod s96.1 100000000)) 10000)) 100)) * 2)))), (10, .int .u32 ((IntKind.wrap .u32 (((IntKind.wrap .u32 (Int.tdiv ((IntKind.wrap .u32 (Int.tdiv (IntKind.wrap .u32 (Int.tmod s96.1 100000000)) 10000))) 100))) * 2)))), (11, .int .u32 ((IntKind.wrap .u32 (((Int.tmod ((IntKind.wrap .u32 (Int.tdiv (IntKind.wrap .u32 (Int.tmod s96.1 100000000)) 10000))) 100)) * 2))))]) (H2 := [.box (s96.2.2.flatMap (encI .u8))]) (by kernel_rfl) ?_
   obtain ⟨hm, h161⟩ := asrt h160
   refine RJ.rel (d := (some 52)) (ef := ⟨.int .u8 (((k0_.getD ((IntKind.wrap .u32 (((Int.tmod ((Int.tmod (IntKind.wrap .u32 (Int.tmod s96.1 100000000)) 10000)) 100)) * 2)) : Int).toNat 0).toNat : Nat) : Int), [], []⟩) (ef' := ⟨.int .u8 (((k0_.getD ((IntKind.wrap .u32 (((Int.tmod ((Int.tmod (IntKind.wrap .u32 (Int.tmod s96.1 100000000)) 10000)) 100)) * 2)) : Int).toNat 0).toNat : Nat) : Int), [], []⟩) (c := inR ((IntKind.wrap .u32 (((Int.tmod ((Int.tmod (IntKind.wrap .u32 (Int.tmod s96.1 100000000)) 10000)) 100)) * 2))) k0_.length) (tr2 := [([], []), ([], []), ([], []), ([], []), ([], []), ([], []), ([], []), ([], []), ([], []), ([], []), ([], [])]) (H2 := [.box (s96.2.2.flatMap (encI .u8))]) (by kernel_rfl) hm (fun hc => rfl) (by kernel_rfl) ?_
   obtain ⟨hm, h162⟩ := asrt h161
   refine RJ.rel (d := (some 53)) (ef := ⟨.ptr 0 (0 + ((IntKind.wrap .i64 (s96.2.1 - 1)) : Int).toNat * 1), [], []⟩) (ef' := ⟨.ptr 0 (0 + ((IntKind.wrap .i64 (s96.2.1 - 1)) : Int).toNat * 1), [], []⟩) (c := inR (IntKind.wrap .i64 (s96.2.1 - 1)) x0.toNat) (tr2 := [([], []), ([], []), ([], []), ([], []), ([], []), ([], []), ([], []), ([], []), ([], []), ([], []), ([], []), ([], [])]) (H2 := [.box (s96.2.2.flatMap (encI .u8))]) (by kernel_rfl) hm (fun hc => rfl) (by kernel_rfl) ?_
   obtain ⟨hm, h163⟩ := asrt h162
   refine RJ.relS (d := none) (ef := ⟨.undef, [0], [(0, .box (splice (s96.2.2.flatMap (encI .u8)) (0 * 1 + ((IntKind.wrap .i64 (s96.2.1 - 1)) : Int).toNat * 1) ((encI .u8) ((((k0_.getD ((IntKind.wrap .u32 (((IntKind.wrap .u32 (((Int.tmod ((Int.tmod (IntKind.wrap .u32 (Int.tmod s96.1 100000000)) 10000)) 100)) * 2))) + 1)) : Int).toNat 0).toNat : Nat) : Int)))))]⟩) (ef' := ⟨.undef, [0], [(0, .box ((setAt s96.2.2 ((0 : Nat) + (IntKind.wrap .i64 (s96.2.1 - 1)) : Int) ((((k0_.getD ((IntKind.wrap .u32 (((IntKind.wrap .u32 (((Int.tmod ((Int.tmod (IntKind.wrap .u32 (Int.tmod s96.1 100000000)) 10000)) 100)) * 2))) + 1)) : Int).toNat 0).toNat : Nat) : Int))).flatMap (encI .u8)))]⟩) (c := Nat.ble (0 * 1 + ((IntKind.wrap .i64 (s96.2.1 - 1)) : Int).toNat * 1 + ((encI .u8) ((((k0_.getD ((IntKind.wrap .u32 (((IntKind.wrap .u32 (((Int.tmod ((Int.tmod (IntKind.wrap .u32 (Int.tmod s96.1 100000000)) 10000)) 100)) * 2))) + 1)) : Int).toNat 0).toNat : Nat) : Int))).length) (s96.2.2.flatMap (encI .u8)).length) (tr2 := [([], []), ([], []), ([], []), ([], []), ([], []), ([], []), ([], []), ([], []), ([], []), ([], []), ([], []), ([], []), ([0, 1], [0])]) (H2 := [.box (((setAt s96.2.2 ((0 : Nat) + (IntKind.wrap .i64 (s96.2.1 - 1)) : Int) ((((k0_.getD ((IntKind.wrap .u32 (((IntKind.wrap .u32 (((Int.tmod ((Int.tmod (IntKind.wrap .u32 (Int.tmod s96.1 100000000)) 10000)) 100)) * 2))) + 1)) : Int).toNat 0).toNat : Nat) : Int)))).flatMap (encI .u8))]) (by kernel_rfl) (storeB_ok (encI_len .u8) hm) (fun hc => N.storeB (o := 0) (encI_len .u8) hm) (by kernel_rfl) ?_
   obtain ⟨hm, h164⟩ := asrt h163
   refine RJ.rel (d := (some 54)) (ef := ⟨.ptr 0 (0 + ((IntKind.wrap .i64 (s96.2.1 - 2)) : Int).toNat * 1), [], []⟩) (ef' := ⟨.ptr 0 (0 + ((IntKind.wrap .i64 (s96.2.1 - 2)) : Int).toNat * 1), [], []⟩) (c := inR (IntKind.wrap .i64 (s96.2.1 - 2)) x0.toNat) (tr2 := [([], []), ([], []), ([], []), ([], []), ([], []), ([], []), ([], []), ([], []), ([], []), ([], []), ([], []), ([], []), ([0, 1], [0]), ([], [])]) (H2 := [.box (((setAt s96.2.2 ((0 : Nat) + (IntKind.wrap .i64 (s96.2.1 - 1)) : Int) ((((k0_.getD ((IntKind.wrap .u32 (((IntKind.wrap .u32 (((Int.tmod ((Int.tmod (IntKind.wrap .u32 (Int.tmod s96.1 100000000)) 10000)) 100)) * 2))) + 1)) : Int).toNat 0).toNat : Nat) : Int)))).flatMap (encI .u8))]) (by kernel_rfl) hm (fun hc => rfl) (by kernel_rfl) ?_
   obtain ⟨hm, h165⟩ := asrt h164
   refine RJ.relS (d := none) (ef := ⟨.undef, [0], [(0, .box (splice (((setAt s96.2.2 ((0 : Nat) + (IntKind.wrap .i64 (s96.2.1 - 1)) : Int) ((((k0_.getD ((IntKind.wrap .u32 (((IntKind.wrap .u32 (((Int.tmod ((Int.tmod (IntKind.wrap .u32 (Int.tmod s96.1 100000000)) 10000)) 100)) * 2))) + 1)) : Int).toNat 0).toNat : Nat) : Int)))).flatMap (encI .u8)) (0 * 1 + ((IntKind.wrap .i64 (s96.2.1 - 2)) : Int).toNat * 1) ((encI .u8) ((((k0_.getD ((IntKind.wrap .u32 (((Int.tmod ((Int.tmod (IntKind.wrap .u32 (Int.tmod s96.1 100000000)) 10000)) 100)) * 2)) : Int).toNat 0).toNat : Nat) : Int)))))]⟩) (ef' := ⟨.undef, [0], [(0, .box ((setAt ((setAt s96.2.2 ((0 : Nat) + (IntKind.wrap .i64 (s96.2.1 - 1)) : Int) ((((k0_.getD ((IntKind.wrap .u32 (((IntKind.wrap .u32 (((Int.tmod ((Int.tmod (IntKind.wrap .u32 (Int.tmod s96.1 100000000)) 10000)) 100)) * 2))) + 1)) : Int).toNat 0).toNat : Nat) : Int)))) ((0 : Nat) + (IntKind.wrap .i64 (s96.2.1 - 2)) : Int) ((((k0_.getD ((IntKind.wrap .u32 (((Int.tmod ((Int.tmod (IntKind.wrap .u32 (Int.tmod s96.1 100000000)) 10000)) 100)) * 2)) : Int).toNat 0).toNat : Nat) : Int))).flatMap (encI .u8)))]⟩) (c := Nat.ble (0 * 1 + ((IntKind.wrap .i64 (s96.2.1 - 2)) : Int).toNat * 1 + ((encI .u8) ((((k0_.getD ((IntKind.wrap .u32 (((Int.tmod ((Int.tmod (IntKind.wrap .u32 (Int.tmod s96.1 100000000)) 10000)) 100)) * 2)) : Int).toNat 0).toNat : Nat) : Int))).length) (((setAt s96.2.2 ((0 : Nat) + (IntKind.wrap .i64 (s96.2.1 - 1)) : Int) ((((k0_.getD ((IntKind.wrap .u32 (((IntKind.wrap .u32 (((Int.tmod ((Int.tmod (IntKind.wrap .u32 (Int.tmod s96.1 100000000)) 10000)) 100)) * 2))) + 1)) : Int).toNat 0).toNat : Nat) : Int)))).flatMap (encI .u8)).length) (tr2 := [([], []), ([], []), ([], []), ([], []), ([], []), ([], []), ([], []), ([], []), ([], []), ([], []), ([], []), ([], []), ([0, 1], [0]), ([], []), ([0, 1], [0])]) (H2 := [.box (((setAt ((setAt s96.2.2 ((0 : Nat) + (IntKind.wrap .i64 (s96.2.1 - 1)) : Int) ((((k0_.getD ((IntKind.wrap .u32 (((IntKind.wrap .u32 (((Int.tmod ((Int.tmod (IntKind.wrap .u32 (Int.tmod s96.1 100000000)) 10000)) 100)) * 2))) + 1)) : Int).toNat 0).toNat : Nat) : Int)))) ((0 : Nat) + (IntKind.wrap .i64 (s96.2.1 - 2)) : Int) ((((k0_.getD ((IntKind.wrap .u32 (((Int.tmod ((Int.tmod (IntKind.wrap .u32 (Int.tmod s96.1 100000000)) 10000)) 100)) * 2)) : Int).toNat 0).toNat : Nat) : Int)))).flatMap (encI .u8))]) (by kernel_rfl) (storeB_ok (encI_len .u8) hm) (fun hc => N.storeB (o := 0) (encI_len .u8) hm) (by kernel_rfl) ?_
   refine kEN ?_
   refine kS ?_
   refine J.keep [0, 1, 4, 8, 10, 11] (L2 := [(0, .sl 0 0 x0.toNat 1), (1, .int .u64 (IntKind.wrap .u64 (Int.tdiv s96.1 100000000))), (4, .int .i64 s96.2.1), (8, .int .u32 ((IntKind.wrap .u32 (((IntKind.wrap .u32 (Int.tdiv ((Int.tmod (IntKind.wrap .u32 (Int.tmod s96.1 100000000)) 10000)) 100))) * 2)))), (10, .int .u32 ((IntKind.wrap .u32 (((IntKind.wrap .u32 (Int.tdiv ((IntKind.wrap .u32 (Int.tdiv (IntKind.wrap .u32 (Int.tmod s96.1 100000000)) 10000))) 100))) * 2)))), (11, .int .u32 ((IntKind.wrap .u32 (((Int.tmod ((IntKind.wrap .u32 (Int.tdiv (IntKind.wrap .u32 (Int.tmod s96.1 100000000)) 10000))) 100)) * 2))))]) (by kernel_rfl) ?_
   refine K.draw (by kernel_rfl) (by kernel_rfl) (by kernel_rfl) (H2 := [.box (((setAt ((setAt s96.2.2 ((0 : Nat) + (IntKind.wrap .i64 (s96.2.1 - 1)) : Int) ((((k0_.getD ((IntKind.wrap .u32 (((IntKind.wrap .u32 (((Int.tmod ((Int.tmod (IntKind.wrap .u32 (Int.tmod s96.1 100000000)) 10000)) 100)) * 2))) + 1)) : Int).toNat 0).toNat : Nat) : Int)))) ((0 : Nat) + (IntKind.wrap .i64 (s96.2.1 - 2)) : Int) ((((k0_.getD ((IntKind.wrap .u32 (((Int.tmod ((Int.tmod (IntKind.wrap .u32 (Int.tmod s96.1 100000000)) 10000)) 100)) * 2)) : Int).toNat 0).toNat : Nat) : Int)))).flatMap (encI .u8))]) (by kernel_rfl) (n := 1) (by kernel_rfl) ?_
   refine kD 8 ?_
   obtain ⟨hm, h166⟩ := asrt h165
   refine RJ.rel (d := (some 63)) (ef := ⟨.int .u8 (((k0_.getD ((IntKind.wrap .u32 (((IntKind.wrap .u32 (((IntKind.wrap .u32 (Int.tdiv ((Int.tmod (IntKind.wrap .u32 (Int.tmod s96.1 100000000)) 10000)) 100))) * 2))) + 1)) : Int).toNat 0).toNat : Nat) : Int), [], []⟩) (ef' := ⟨.int .u8 (((k0_.getD ((IntKind.wrap .u32 (((IntKind.wrap .u32 (((IntKind.wrap .u32 (Int.tdiv ((Int.tmod (IntKind.wrap .u32 (Int.tmod s96.1 100000000)) 10000)) 100))) * 2))) + 1)) : Int).toNat 0).toNat : Nat) : Int), [], []⟩) (c := inR ((IntKind.wrap .u32 (((IntKind.wrap .u32 (((IntKind.wrap .u32 (Int.tdiv ((Int.tmod (IntKind.wrap .u32 (Int.tmod s96.1 100000000)) 10000)) 100))) * 2))) + 1))) k0_.length) (tr2 := [([], []), ([], []), ([], []), ([], []), ([], []), ([], []), ([], []), ([], []), ([], [])]) (H2 := [.box (((setAt ((setAt s96.2.2 ((0 : Nat) + (IntKind.wrap .i64 (s96.2.1 - 1)) : Int) ((((k0_.getD ((IntKind.wrap .u32 (((IntKind.wrap .u32 (((Int.tmod ((Int.tmod (IntKind.wrap .u32 (Int.tmod s96.1 100000000)) 10000)) 100)) * 2))) + 1)) : Int).toNat 0).toNat : Nat) : Int)))) ((0 : Nat) + (IntKind.wrap .i64 (s96.2.1 - 2)) : Int) ((((k0_.getD ((IntKind.wrap .u32 (((Int.tmod ((Int.tmod (IntKind.wrap .u32 (Int.tmod s96.1 100000000)) 10000)) 100)) * 2)) : Int).toNat 0).toNat : Nat) : Int)))).flatMap (encI .u8))]) (by kernel_rfl) hm (fun hc => rfl) (by kernel_rfl) ?_
   refine kD 1 ?_
   obtain ⟨hm, h167⟩ := asrt h166
   refine RJ.rel (d := (some 65)) (ef := ⟨.int .u8 (((k0_.getD ((IntKind.wrap .u32 (((IntKind.wrap .u32 (Int.tdiv ((Int.tmod (IntKind.wrap .u32 (Int.tmod s96.1 100000000)) 10000)) 100))) * 2)) : Int).toNat 0).toNat : Nat) : Int), [], []⟩) (ef' := ⟨.int .u8 (((k0_.getD ((IntKind.wrap .u32 (((IntKind.wrap .u32 (Int.tdiv ((Int.tmod (IntKind.wrap .u32 (Int.tmod s96.1 100000000)) 10000)) 100))) * 2)) : Int).toNat 0).toNat : Nat) : Int), [], []⟩) (c := inR ((IntKind.wrap .u32 (((IntKind.wrap .u32 (Int.tdiv ((Int.tmod (IntKind.wrap .u32 (Int.tmod s96.1 100000000)) 10000)) 100))) * 2))) k0_.length) (tr2 := [([], []), ([], []), ([], []), ([], []), ([], []), ([], []), ([], []), ([], []), ([], []), ([], []), ([], [])]) (H2 := [.box (((setAt ((setAt s96.2.2 ((0 : Nat) + (IntKind.wrap .i64 (s96.2.1 - 1)) : Int) ((((k0_.getD ((IntKind.wrap .u32 (((IntKind.wrap .u32 (((Int.tmod ((Int.tmod (IntKind.wrap .u32 (Int.tmod s96.1 100000000)) 10000)) 100)) * 2))) + 1)) : Int).toNat 0).toNat : Nat) : Int)))) ((0 : Nat) + (IntKind.wrap .i64 (s96.2.1 - 2)) : Int) ((((k0_.getD ((IntKind.wrap .u32 (((Int.tmod ((Int.tmod (IntKind.wrap .u32 (Int.tmod s96.1 100000000)) 10000)) 100)) * 2)) : Int).toNat 0).toNat : Nat) : Int)))).flatMap (encI .u8))]) (by kernel_rfl) hm (fun hc => rfl) (by kernel_rfl) ?_
   obtain ⟨hm, h168⟩ := asrt h167
   refine RJ.rel (d := (some 66)) (ef := ⟨.ptr 0 (0 + ((IntKind.wrap .i64 (s96.2.1 - 3)) : Int).toNat * 1), [], []⟩) (ef' := ⟨.ptr 0 (0 + ((IntKind.wrap .i64 (s96.2.1 - 3)) : Int).toNat * 1), [], []⟩) (c := inR (IntKind.wrap .i64 (s96.2.1 - 3)) x0.toNat) (tr2 := [([], []), ([], []), ([], []), ([], []), ([], []), ([], []), ([], []), ([], []), ([], []), ([], []), ([], []), ([], [])]) (H2 := [.box (((setAt ((setAt s96.2.2 ((0 : Nat) + (IntKind.wrap .i64 (s96.2.1 - 1)) : Int) ((((k0_.getD ((IntKind.wrap .u32 (((IntKind.wrap .u32 (((Int.tmod ((Int.tmod (IntKind.wrap .u32 (Int.tmod s96.1 100000000)) 10000)) 100)) * 2))) + 1)) : Int).toNat 0).toNat : Nat) : Int)))) ((0 : Nat) + (IntKind.wrap .i64 (s96.2.1 - 2)) : Int) ((((k0_.getD ((IntKind.wrap .u32 (((Int.tmod ((Int.tmod (IntKind.wrap .u32 (Int.tmod s96.1 100000000)) 10000)) 100)) * 2)) : Int).toNat 0).toNat : Nat) : Int)))).flatMap (encI .u8))]) (by kernel_rfl) hm (fun hc => rfl) (by kernel_rfl) ?_
   obtain ⟨hm, h169⟩ := asrt h168
   refine RJ.relS (d := none) (ef := ⟨.undef, [0], [(0, .box (splice (((setAt ((setAt s96.2.2 ((0 : Nat) + (IntKind.wrap .i64 (s96.2.1 - 1)) : Int) ((((k0_.getD ((IntKind.wrap .u32 (((IntKind.wrap .u32 (((Int.tmod ((Int.tmod (IntKind.wrap .u32 (Int.tmod s96.1 100000000)) 10000)) 100)) * 2))) + 1)) : Int).toNat 0).toNat : Nat) : Int)))) ((0 : Nat) + (IntKind.wrap .i64 (s96.2.1 - 2)) : Int) ((((k0_.getD ((IntKind.wrap .u32 (((Int.tmod ((Int.tmod (IntKind.wrap .u32 (Int.tmod s96.1 100000000)) 10000)) 100)) * 2)) : Int).toNat 0).toNat : Nat) : Int)))).flatMap (encI .u8)) (0 * 1 + ((IntKind.wrap .i64 (s96.2.1 - 3)) : Int).toNat * 1) ((encI .u8) ((((k0_.getD ((IntKind.wrap .u32 (((IntKind.wrap .u32 (((IntKind.wrap .u32 (Int.tdiv ((Int.tmod (IntKind.wrap .u32 (Int.tmod s96.1 100000000)) 10000)) 100))) * 2))) + 1)) : Int).toNat 0).toNat : Nat) : Int)))))]⟩) (ef' := ⟨.undef, [0], [(0, .box ((setAt ((setAt ((setAt s96.2.2 ((0 : Nat) + (IntKind.wrap .i64 (s96.2.1 - 1)) : Int) ((((k0_.getD ((IntKind.wrap .u32 (((IntKind.wrap .u32 (((Int.tmod ((Int.tmod (IntKind.wrap .u32 (Int.tmod s96.1 100000000)) 10000)) 100)) * 2))) + 1)) : Int).toNat 0).toNat : Nat) : Int)))) ((0 : Nat) + (IntKind.wrap .i64 (s96.2.1 - 2)) : Int) ((((k0_.getD ((IntKind.wrap .u32 (((Int.tmod ((Int.tmod (IntKind.wrap .u32 (Int.tmod s96.1 100000000)) 10000)) 100)) * 2)) : Int).toNat 0).toNat : Nat) : Int)))) ((0 : Nat) + (IntKind.wrap .i64 (s96.2.1 - 3)) : Int) ((((k0_.getD ((IntKind.wrap .u32 (((IntKind.wrap .u32 (((IntKind.wrap .u32 (Int.tdiv ((Int.tmod (IntKind.wrap .u32 (Int.tmod s96.1 100000000)) 10000)) 100))) * 2))) + 1)) : Int).toNat 0).toNat : Nat) : Int))).flatMap (encI .u8)))]⟩) (c := Nat.ble (0 * 1 + ((IntKind.wrap .i64 (s96.2.1 - 3)) : Int).toNat * 1 + ((encI .u8) ((((k0_.getD ((IntKind.wrap .u32 (((IntKind.wrap .u32 (((IntKind.wrap .u32 (Int.tdiv ((Int.tmod (IntKind.wrap .u32 (Int.tmod s96.1 100000000)) 10000)) 100))) * 2))) + 1)) : Int).toNat 0).toNat : Nat) : Int))).length) (((setAt ((setAt s96.2.2 ((0 : Nat) + (IntKind.wrap .i64 (s96.2.1 - 1)) : Int) ((((k0_.getD ((IntKind.wrap .u32 (((IntKind.wrap .u32 (((Int.tmod ((Int.tmod (IntKind.wrap .u32 (Int.tmod s96.1 100000000)) 10000)) 100)) * 2))) + 1)) : Int).toNat 0).toNat : Nat) : Int)))) ((0 : Nat) + (IntKind.wrap .i64 (s96.2.1 - 2)) : Int) ((((k0_.getD ((IntKind.wrap .u32 (((Int.tmod ((Int.tmod (IntKind.wrap .u32 (Int.tmod s96.1 100000000)) 10000)) 100)) * 2)) : Int).toNat 0).toNat : Nat) : Int)))).flatMap (encI .u8)).length) (tr2 := [([], []), ([], []), ([], []), ([], []), ([], []), ([], []), ([], []), ([], []), ([], []), ([], []), ([], []), ([], []), ([0, 1], [0])]) (H2 := [.box (((setAt ((setAt ((setAt s96.2.2 ((0 : Nat) + (IntKind.wrap .i64 (s96.2.1 - 1)) : Int) ((((k0_.getD ((IntKind.wrap .u32 (((IntKind.wrap .u32 (((Int.tmod ((Int.tmod (IntKind.wrap .u32 (Int.tmod s96.1 100000000)) 10000)) 100)) * 2))) + 1)) : Int).toNat 0).toNat : Nat) : Int)))) ((0 : Nat) + (IntKind.wrap .i64 (s96.2.1 - 2)) : Int) ((((k0_.getD ((IntKind.wrap .u32 (((Int.tmod ((Int.tmod (IntKind.wrap .u32 (Int.tmod s96.1 100000000)) 10000)) 100)) * 2)) : Int).toNat 0).toNat : Nat) : Int)))) ((0 : Nat) + (IntKind.wrap .i64 (s96.2.1 - 3)) : Int) ((((k0_.getD ((IntKind.wrap .u32 (((IntKind.wrap .u32 (((IntKind.wrap .u32 (Int.tdiv ((Int.tmod (IntKind.wrap .u32 (Int.tmod s96.1 100000000)) 10000)) 100))) * 2))) + 1)) : Int).toNat 0).toNat : Nat) : Int)))).flatMap (encI .u8))]) (by kernel_rfl) (storeB_ok (encI_len .u8) hm) (fun hc => N.storeB (o := 0) (encI_len .u8) hm) (by kernel_rfl) ?_
   obtain ⟨hm, h170⟩ := asrt h169
   refine RJ.rel (d := (some 67)) (ef := ⟨.ptr 0 (0 + ((IntKind.wrap .i64 (s96.2.1 - 4)) : Int).toNat * 1), [], []⟩) (ef' := ⟨.ptr 0 (0 + ((IntKind.wrap .i64 (s96.2.1 - 4)) : Int).toNat * 1), [], []⟩) (c := inR (IntKind.wrap .i64 (s96.2.1 - 4)) x0.toNat) (tr2 := [([], []), ([], []), ([], []), ([], []), ([], []), ([], []), ([], []), ([], []), ([], []), ([], []), ([], []), ([], []), ([0, 1], [0]), ([], [])]) (H2 := [.box (((setAt ((setAt ((setAt s96.2.2 ((0 : Nat) + (IntKind.wrap .i64 (s96.2.1 - 1)) : Int) ((((k0_.getD ((IntKind.wrap .u32 (((IntKind.wrap .u32 (((Int.tmod ((Int.tmod (IntKind.wrap .u32 (Int.tmod s96.1 100000000)) 10000)) 100)) * 2))) + 1)) : Int).toNat 0).toNat : Nat) : Int)))) ((0 : Nat) + (IntKind.wrap .i64 (s96.2.1 - 2)) : Int) ((((k0_.getD ((IntKind.wrap .u32 (((Int.tmod ((Int.tmod (IntKind.wrap .u32 (Int.tmod s96.1 100000000)) 10000)) 100)) * 2)) : Int).toNat 0).toNat : Nat) : Int)))) ((0 : Nat) + (IntKind.wrap .i64 (s96.2.1 - 3)) : Int) ((((k0_.getD ((IntKind.wrap .u32 (((IntKind.wrap .u32 (((IntKind.wrap .u32 (Int.tdiv ((Int.tmod (IntKind.wrap .u32 (Int.tmod s96.1 100000000)) 10000)) 100))) * 2))) + 1)) : Int).toNat 0).toNat : Nat) : Int)))).flatMap (encI .u8))]) (by kernel_rfl) hm (fun hc => rfl) (by kernel_rfl) ?_
   obtain ⟨hm, h171⟩ := asrt h170
   refine RJ.relS (d := none) (ef := ⟨.undef, [0], [(0, .box (splice (((setAt ((setAt ((setAt s96.2.2 ((0 : Nat) + (IntKind.wrap .i64 (s96.2.1 - 1)) : Int) ((((k0_.getD ((IntKind.wrap .u32 (((IntKind.wrap .u32 (((Int.tmod ((Int.tmod (IntKind.wrap .u32 (Int.tmod s96.1 100000000)) 10000)) 100)) * 2))) + 1)) : Int).toNat 0).toNat : Nat) : Int)))) ((0 : Nat) + (IntKind.wrap .i64 (s96.2.1 - 2)) : Int) ((((k0_.getD ((IntKind.wrap .u32 (((Int.tmod ((Int.tmod (IntKind.wrap .u32 (Int.tmod s96.1 100000000)) 10000)) 100)) * 2)) : Int).toNat 0).toNat : Nat) : Int)))) ((0 : Nat) + (IntKind.wrap .i64 (s96.2.1 - 3)) : Int) ((((k0_.getD ((IntKind.wrap .u32 (((IntKind.wrap .u32 (((IntKind.wrap .u32 (Int.tdiv ((Int.tmod (IntKind.wrap .u32 (Int.tmod s96.1 100000000)) 10000)) 100))) * 2))) + 1)) : Int).toNat 0).toNat : Nat) : Int)))).flatMap (encI .u8)) (0 * 1 + ((IntKind.wrap .i64 (s96.2.1 - 4)) : Int).toNat * 1) ((encI .u8) ((((k0_.getD ((IntKind.wrap .u32 (((IntKind.wrap .u32 (Int.tdiv ((Int.tmod (IntKind.wrap .u32 (Int.tmod s96.1 100000000)) 10000)) 100))) * 2)) : Int).toNat 0).toNat : Nat) : Int)))))]⟩) (ef' := ⟨.undef, [0], [(0, .box ((setAt ((setAt ((setAt ((setAt s96.2.2 ((0 : Nat) + (IntKind.wrap .i64 (s96.2.1 - 1)) : Int) ((((k0_.getD ((IntKind.wrap .u32 (((IntKind.wrap .u32 (((Int.tmod ((Int.tmod (IntKind.wrap .u32 (Int.tmod s96.1 100000000)) 10000)) 100)) * 2))) + 1)) : Int).toNat 0).toNat : Nat) : Int)))) ((0 : Nat) + (IntKind.wrap .i64 (s96.2.1 - 2)) : Int) ((((k0_.getD ((IntKind.wrap .u32 (((Int.tmod ((Int.tmod (IntKind.wrap .u32 (Int.tmod s96.1 100000000)) 10000)) 100)) * 2)) : Int).toNat 0).toNat : Nat) : Int)))) ((0 : Nat) + (IntKind.wrap .i64 (s96.2.1 - 3)) : Int) ((((k0_.getD ((IntKind.wrap .u32 (((IntKind.wrap .u32 (((IntKind.wrap .u32 (Int.tdiv ((Int.tmod (IntKind.wrap .u32 (Int.tmod s96.1 100000000)) 10000)) 100))) * 2))) + 1)) : Int).toNat 0).toNat : Nat) : Int)))) ((0 : Nat) + (IntKind.wrap .i64 (s96.2.1 - 4)) : Int) ((((k0_.getD ((IntKind.wrap .u32 (((IntKind.wrap .u32 (Int.tdiv ((Int.tmod (IntKind.wrap .u32 (Int.tmod s96.1 100000000)) 10000)) 100))) * 2)) : Int).toNat 0).toNat : Nat) : Int))).flatMap (encI .u8)))]⟩) (c := Nat.ble (0 * 1 + ((IntKind.wrap .i64 (s96.2.1 - 4)) : Int).toNat * 1 + ((encI .u8) ((((k0_.getD ((IntKind.wrap .u32 (((IntKind.wrap .u32 (Int.tdiv ((Int.tmod (IntKind.wrap .u32 (Int.tmod s96.1 100000000)) 10000)) 100))) * 2)) : Int).toNat 0).toNat : Nat) : Int))).length) (((setAt ((setAt ((setAt s96.2.2 ((0 : Nat) + (IntKind.wrap .i64 (s96.2.1 - 1)) : Int) ((((k0_.getD ((IntKind.wrap .u32 (((IntKind.wrap .u32 (((Int.tmod ((Int.tmod (IntKind.wrap .u32 (Int.tmod s96.1 100000000)) 10000)) 100)) * 2))) + 1)) : Int).toNat 0).toNat : Nat) : Int)))) ((0 : Nat) + (IntKind.wrap .i64 (s96.2.1 - 2)) : Int) ((((k0_.getD ((IntKind.wrap .u32 (((Int.tmod ((Int.tmod (IntKind.wrap .u32 (Int.tmod s96.1 100000000)) 10000)) 100)) * 2)) : Int).toNat 0).toNat : Nat) : Int)))) ((0 : Nat) + (IntKind.wrap .i64 (s96.2.1 - 3)) : Int) ((((k0_.getD ((IntKind.wrap .u32 (((IntKind.wrap .u32 (((IntKind.wrap .u32 (Int.tdiv ((Int.tmod (IntKind.wrap .u32 (Int.tmod s96.1 100000000)) 10000)) 100))) * 2))) + 1)) : Int).toNat 0).toNat : Nat) : Int)))).flatMap (encI .u8)).length) (tr2 := [([], []), ([], []), ([], []), ([], []), ([], []), ([], []), ([], []), ([], []), ([], []), ([], []), ([], []), ([], []), ([0, 1], [0]), ([], []), ([0, 1], [0])]) (H2 := [.box (((setAt ((setAt ((setAt ((setAt s96.2.2 ((0 : Nat) + (IntKind.wrap .i64 (s96.2.1 - 1)) : Int) ((((k0_.getD ((IntKind.wrap .u32 (((IntKind.wrap .u32 (((Int.tmod ((Int.tmod (IntKind.wrap .u32 (Int.tmod s96.1 100000000)) 10000)) 100)) * 2))) + 1)) : Int).toNat 0).toNat : Nat) : Int)))) ((0 : Nat) + (IntKind.wrap .i64 (s96.2.1 - 2)) : Int) ((((k0_.getD ((IntKind.wrap .u32 (((Int.tmod ((Int.tmod (IntKind.wrap .u32 (Int.tmod s96.1 100000000)) 10000)) 100)) * 2)) : Int).toNat 0).toNat : Nat) : Int)))) ((0 : Nat) + (IntKind.wrap .i64 (s96.2.1 - 3)) : Int) ((((k0_.getD ((IntKind.wrap .u32 (((IntKind.wrap .u32 (((IntKind.wrap .u32 (Int.tdiv ((Int.tmod (IntKind.wrap .u32 (Int.tmod s96.1 100000000)) 10000)) 100))) * 2))) + 1)) : Int).toNat 0).toNat : Nat) : Int)))) ((0 : Nat) + (IntKind.wrap .i64 (s96.2.1 - 4)) : Int) ((((k0_.getD ((IntKind.wrap .u32 (((IntKind.wrap .u32 (Int.tdiv ((Int.tmod (IntKind.wrap .u32 (Int.tmod s96.1 100000000)) 10000)) 100))) * 2)) : Int).toNat 0).toNat : Nat) : Int)))).flatMap (encI .u8))]) (by kernel_rfl) (storeB_ok (encI_len .u8) hm) (fun hc => N.storeB (o := 0) (encI_len .u8) hm) (by kernel_rfl) ?_
   refine kEN ?_
   refine kS ?_
   refine J.keep [0, 1, 4, 10, 11] (L2 := [(0, .sl 0 0 x0.toNat 1), (1, .int .u64 (IntKind.wrap .u64 (Int.tdiv s96.1 100000000))), (4, .int .i64 s96.2.1), (10, .int .u32 ((IntKind.wrap .u32 (((IntKind.wrap .u32 (Int.tdiv ((IntKind.wrap .u32 (Int.tdiv (IntKind.wrap .u32 (Int.tmod s96.1 100000000)) 10000))) 100))) * 2)))), (11, .int .u32 ((IntKind.wrap .u32 (((Int.tmod ((IntKind.wrap .u32 (Int.tdiv (IntKind.wrap .u32 (Int.tmod s96.1 100000000)) 10000))) 100)) * 2))))]) (by kernel_rfl) ?_
   refine K.draw (by kernel_rfl) (by kernel_rfl) (by kernel_rfl) (H2 := [.box (((setAt ((setAt ((setAt ((setAt s96.2.2 ((0 : Nat) + (IntKind.wrap .i64 (s96.2.1 - 1)) : Int) ((((k0_.getD ((IntKind.wrap .u32 (((IntKind.wrap .u32 (((Int.tmod ((Int.tmod (IntKind.wrap .u32 (Int.tmod s96.1 100000000)) 10000)) 100)) * 2))) + 1)) : Int).toNat 0).toNat : Nat) : Int)))) ((0 : Nat) + (IntKind.wrap .i64 (s96.2.1 - 2)) : Int) ((((k0_.getD ((IntKind.wrap .u32 (((Int.tmod ((Int.tmod (IntKind.wrap .u32 (Int.tmod s96.1 100000000)) 10000)) 100)) * 2)) : Int).toNat 0).toNat : Nat) : Int)))) ((0 : Nat) + (IntKind.wrap .i64 (s96.2.1 - 3)) : Int) ((((k0_.getD ((IntKind.wrap .u32 (((IntKind.wrap .u32 (((IntKind.wrap .u32 (Int.tdiv ((Int.tmod (IntKind.wrap .u32 (Int.tmod s96.1 100000000)) 10000)) 100))) * 2))) + 1)) : Int).toNat 0).toNat : Nat) : Int)))) ((0 : Nat) + (IntKind.wrap .i64 (s96.2.1 - 4)) : Int) ((((k0_.getD ((IntKind.wrap .u32 (((IntKind.wrap .u32 (Int.tdiv ((Int.tmod (IntKind.wrap .u32 (Int.tmod s96.1 100000000)) 10000)) 100))) * 2)) : Int).toNat 0).toNat : Nat) : Int)))).flatMap (encI .u8))]) (by kernel_rfl) (n := 1) (by kernel_rfl) ?_
   refine kD 8 ?_
   obtain ⟨hm, h172⟩ := asrt h171
   refine RJ.rel (d := (some 76)) (ef := ⟨.int .u8 (((k0_.getD ((IntKind.wrap .u32 (((IntKind.wrap .u32 (((Int.tmod ((IntKind.wrap .u32 (Int.tdiv (IntKind.wrap .u32 (Int.tmod s96.1 100000000)) 10000))) 100)) * 2))) + 1)) : Int).toNat 0).toNat : Nat) : Int), [], []⟩) (ef' := ⟨.int .u8 (((k0_.getD ((IntKind.wrap .u32 (((IntKind.wrap .u32 (((Int.tmod ((IntKind.wrap .u32 (Int.tdiv (IntKind.wrap .u32 (Int.tmod s96.1 100000000)) 10000))) 100)) * 2))) + 1)) : Int).toNat 0).toNat : Nat) : Int), [], []⟩) (c := inR ((IntKind.wrap .u32 (((IntKind.wrap .u32 (((Int.tmod ((IntKind.wrap .u32 (Int.tdiv (IntKind.wrap .u32 (Int.tmod s96.1 100000000)) 10000))) 100)) * 2))) + 1))) k0_.length) (tr2 := [([], []), ([], []), ([], []), ([], []), ([], []), ([], []), ([], []), ([], []), ([], [])]) (H2 := [.box (((setAt ((setAt ((setAt ((setAt s96.2.2 ((0 : Nat) + (IntKind.wrap .i64 (s96.2.1 - 1)) : Int) ((((k0_.getD ((IntKind.wrap .u32 (((IntKind.wrap .u32 (((Int.tmod ((Int.tmod (IntKind.wrap .u32 (Int.tmod s96.1 100000000)) 10000)) 100)) * 2))) + 1)) : Int).toNat 0).toNat : Nat) : Int)))) ((0 : Nat) + (IntKind.wrap .i64 (s96.2.1 - 2)) : Int) ((((k0_.getD ((IntKind.wrap .u32 (((Int.tmod ((Int.tmod (IntKind.wrap .u32 (Int.tmod s96.1 100000000)) 10000)) 100)) * 2)) : Int).toNat 0).toNat : Nat) : Int)))) ((0 : Nat) + (IntKind.wrap .i64 (s96.2.1 - 3)) : Int) ((((k0_.getD ((IntKind.wrap .u32 (((IntKind.wrap .u32 (((IntKind.wrap .u32 (Int.tdiv ((Int.tmod (IntKind.wrap .u32 (Int.tmod s96.1 100000000)) 10000)) 100))) * 2))) + 1)) : Int).toNat 0).toNat : Nat) : Int)))) ((0 : Nat) + (IntKind.wrap .i64 (s96.2.1 - 4)) : Int) ((((k0_.getD ((IntKind.wrap .u32 (((IntKind.wrap .u32 (Int.tdiv ((Int.tmod (IntKind.wrap .u32 (Int.tmod s96.1 100000000)) 10000)) 100))) * 2)) : Int).toNat 0).toNat : Nat) : Int)))).flatMap (encI .u8))]) (by kernel_rfl) hm (fun hc => rfl) (by kernel_rfl) ?_
   refine RJ.segD 1 (tr2 := [([], []), ([], []), ([], []), ([], []), ([], []), ([], []), ([], []), ([], []), ([], []), ([], [])]) (L2 := [(77, .int .u32 ((IntKind.wrap .u32 (((Int.tmod ((IntKind.wrap .u32 (Int.tdiv (IntKind.wrap .u32 (Int.tmod s96.1 100000000)) 10000))) 100)) * 2)))), (76, .int .u8 ((((k0_.getD ((IntKind.wrap .u32 (((IntKind.wrap .u32 (((Int.tmod ((IntKind.wrap .u32 (Int.tdiv (IntKind.wrap .u32 (Int.tmod s96.1 100000000)) 10000))) 100)) * 2))) + 1)) : Int).toNat 0).toNat : Nat) : Int))), (75, .int .u32 ((IntKind.wrap .u32 (((IntKind.wrap .u32 (((Int.tmod ((IntKind.wrap .u32 (Int.tdiv (IntKind.wrap .u32 (Int.tmod s96.1 100000000)) 10000))) 100)) * 2))) + 1)))), (74, .int .u32 ((IntKind.wrap .u32 (((Int.tmod ((IntKind.wrap .u32 (Int.tdiv (IntKind.wrap .u32 (Int.tmod s96.1 100000000)) 10000))) 100)) * 2)))), (73, .int .i64 (IntKind.wrap .i64 (s96.2.1 - 6))), (72, .int .i64 s96.2.1), (71, .sl 0 0 x0.toNat 1), (70, .int .i64 (IntKind.wrap .i64 (s96.2.1 - 5))), (69, .int .i64 s96.2.1), (68, .sl 0 0 x0.toNat 1), (0, .sl 0 0 x0.toNat 1), (1, .int .u64 (IntKind.wrap .u64 (Int.tdiv s96.1 100000000))), (4, .int .i64 s96.2.1), (10, .int .u32 ((IntKind.wrap .u32 (((IntKind.wrap .u32 (Int.tdiv ((IntKind.wrap .u32 (Int.tdiv (IntKind.wrap .u32 (Int.tmod s96.1 100000000)) 10000))) 100))) * 2)))), (11, .int .u32 ((IntKind.wrap .u32 (((Int.tmod ((IntKind.wrap .u32 (Int.tdiv (IntKind.wrap .u32 (Int.tmod s96.1 100000000)) 10000))) 100)) * 2))))]) (H2 := [.box (((setAt ((setAt ((setAt ((setAt s96.2.2 ((0 : Nat) + (IntKind.wrap .i64 (s96.2.1 - 1)) : Int) ((((k0_.getD ((IntKind.wrap .u32 (((IntKind.wrap .u32 (((Int.tmod ((Int.tmod (IntKind.wrap .u32 (Int.tmod s96.1 100000000)) 10000)) 100)) * 2))) + 1)) : Int).toNat 0).toNat : Nat) : Int)))) ((0 : Nat) + (IntKind.wrap .i64 (s96.2.1 - 2)) : Int) ((((k0_.getD ((IntKind.wrap .u32 (((Int.tmod ((Int.tmod (IntKind.wrap .u32 (Int.tmod s96.1 100000000)) 10000)) 100)) * 2)) : Int).toNat 0).toNat : Nat) : Int)))) ((0 : Nat) + (IntKind.wrap .i64 (s96.2.1 - 3)) : Int) ((((k0_.getD ((IntKind.wrap .u32 (((IntKind.wrap .u32 (((IntKind.wrap .u32 (Int.tdiv ((Int.tmod (IntKind.wrap .u32 (Int.tmod s96.1 100000000)) 10000)) 100))) * 2))) + 1)) : Int).toNat 0).toNat : Nat) : Int)))) ((0 : Nat) + (IntKind.wrap .i64 (s96.2.1 - 4)) : Int) ((((k0_.getD ((IntKind.wrap .u32 (((IntKind.wrap .u32 (Int.tdiv ((Int.tmod (IntKind.wrap .u32 (Int.tmod s96.1 100000000)) 10000)) 100))) * 2)) : Int).toNat 0).toNat : Nat) : Int)))).flatMap (encI .u8))]) (by kernel_rfl) ?_
   obtain ⟨hm, h173⟩ := asrt h172
   refine RJ.rel (d := (some 78)) (ef := ⟨.int .u8 (((k0_.getD ((IntKind.wrap .u32 (((Int.tmod ((IntKind.wrap .u32 (Int.tdiv (IntKind.wrap .u32 (Int.tmod s96.1 100000000)) 10000))) 100)) * 2)) : Int).toNat 0).toNat : Nat) : Int), [], []⟩) (ef' := ⟨.int .u8 (((k0_.getD ((IntKind.wrap .u32 (((Int.tmod ((IntKind.wrap .u32 (Int.tdiv (IntKind.wrap .u32 (Int.tmod s96.1 100000000)) 10000))) 100)) * 2)) : Int).toNat 0).toNat : Nat) : Int), [], []⟩) (c := inR ((IntKind.wrap .u32 (((Int.tmod ((IntKind.wrap .u32 (Int.tdiv (IntKind.wrap .u32 (Int.tmod s96.1 100000000)) 10000))) 100)) * 2))) k0_.length) (tr2 := [([], []), ([], []), ([], []), ([], []), ([], []), ([], []), ([], []), ([], []), ([], []), ([], []), ([], [])]) (H2 := [.box (((setAt ((setAt ((setAt ((setAt s96.2.2 ((0 : Nat) + (IntKind.wrap .i64 (s96.2.1 - 1)) : Int) ((((k0_.getD ((IntKind.wrap .u32 (((IntKind.wrap .u32 (((Int.tmod ((Int.tmod (IntKind.wrap .u32 (Int.tmod s96.1 100000000)) 10000)) 100)) * 2))) + 1)) : Int).toNat 0).toNat : Nat) : Int)))) ((0 : Nat) + (IntKind.wrap .i64 (s96.2.1 - 2)) : Int) ((((k0_.getD ((IntKind.wrap .u32 (((Int.tmod ((Int.tmod (IntKind.wrap .u32 (Int.tmod s96.1 100000000)) 10000)) 100)) * 2)) : Int).toNat 0).toNat : Nat) : Int)))) ((0 : Nat) + (IntKind.wrap .i64 (s96.2.1 - 3)) : Int) ((((k0_.getD ((IntKind.wrap .u32 (((IntKind.wrap .u32 (((IntKind.wrap .u32 (Int.tdiv ((Int.tmod (IntKind.wrap .u32 (Int.tmod s96.1 100000000)) 10000)) 100))) * 2))) + 1)) : Int).toNat 0).toNat : Nat) : Int)))) ((0 : Nat) + (IntKind.wrap .i64 (s96.2.1 - 4)) : Int) ((((k0_.getD ((IntKind.wrap .u32 (((IntKind.wrap .u32 (Int.tdiv ((Int.tmod (IntKind.wrap .u32 (Int.tmod s96.1 100000000)) 10000)) 100))) * 2)) : Int).toNat 0).toNat : Nat) : Int)))).flatMap (encI .u8))]) (by kernel_rfl) hm (fun hc => rfl) (by kernel_rfl) ?_
   obtain ⟨hm, h174⟩ := asrt h173
   refine RJ.rel (d := (some 79)) (ef := ⟨.ptr 0 (0 + ((IntKind.wrap .i64 (s96.2.1 - 5)) : Int).toNat * 1), [], []⟩) (ef' := ⟨.ptr 0 (0 + ((IntKind.wrap .i64 (s96.2.1 - 5)) : Int).toNat * 1), [], []⟩) (c := inR (IntKind.wrap .i64 (s96.2.1 - 5)) x0.toNat) (tr2 := [([], []), ([], []), ([], []), ([], []), ([], []), ([], []), ([], []), ([], []), ([], []), ([], []), ([], []), ([], [])]) (H2 := [.box (((setAt ((setAt ((setAt ((setAt s96.2.2 ((0 : Nat) + (IntKind.wrap .i64 (s96.2.1 - 1)) : Int) ((((k0_.getD ((IntKind.wrap .u32 (((IntKind.wrap .u32 (((Int.tmod ((Int.tmod (IntKind.wrap .u32 (Int.tmod s96.1 100000000)) 10000)) 100)) * 2))) + 1)) : Int).toNat 0).toNat : Nat) : Int)))) ((0 : Nat) + (IntKind.wrap .i64 (s96.2.1 - 2)) : Int) ((((k0_.getD ((IntKind.wrap .u32 (((Int.tmod ((Int.tmod (IntKind.wrap .u32 (Int.tmod s96.1 100000000)) 10000)) 100)) * 2)) : Int).toNat 0).toNat : Nat) : Int)))) ((0 : Nat) + (IntKind.wrap .i64 (s96.2.1 - 3)) : Int) ((((k0_.getD ((IntKind.wrap .u32 (((IntKind.wrap .u32 (((IntKind.wrap .u32 (Int.tdiv ((Int.tmod (IntKind.wrap .u32 (Int.tmod s96.1 100000000)) 10000)) 100))) * 2))) + 1)) : Int).toNat 0).toNat : Nat) : Int)))) ((0 : Nat) + (IntKind.wrap .i64 (s96.2.1 - 4)) : Int) ((((k0_.getD ((IntKind.wrap .u32 (((IntKind.wrap .u32 (Int.tdiv ((Int.tmod (IntKind.wrap .u32 (Int.tmod s96.1 100000000)) 10000)) 100))) * 2)) : Int).toNat 0).toNat : Nat) : Int)))).flatMap (encI .u8))]) (by kernel_rfl) hm (fun hc => rfl) (by kernel_rfl) ?_
   obtain ⟨hm, h175⟩ := asrt h174
   refine RJ.relS (d := none) (ef := ⟨.undef, [0], [(0, .box (splice (((setAt ((setAt ((setAt ((setAt s96.2.2 ((0 : Nat) + (IntKind.wrap .i64 (s96.2.1 - 1)) : Int) ((((k0_.getD ((IntKind.wrap .u32 (((IntKind.wrap .u32 (((Int.tmod ((Int.tmod (IntKind.wrap .u32 (Int.tmod s96.1 100000000)) 10000)) 100)) * 2))) + 1)) : Int).toNat 0).toNat : Nat) : Int)))) ((0 : Nat) + (IntKind.wrap .i64 (s96.2.1 - 2)) : Int) ((((k0_.getD ((IntKind.wrap .u32 (((Int.tmod ((Int.tmod (IntKind.wrap .u32 (Int.tmod s96.1 100000000)) 10000)) 100)) * 2)) : Int).toNat 0).toNat : Nat) : Int)))) ((0 : Nat) + (IntKind.wrap .i64 (s96.2.1 - 3)) : Int) ((((k0_.getD ((IntKind.wrap .u32 (((IntKind.wrap .u32 (((IntKind.wrap .u32 (Int.tdiv ((Int.tmod (IntKind.wrap .u32 (Int.tmod s96.1 100000000)) 10000)) 100))) * 2))) + 1)) : Int).toNat 0).toNat : Nat) : Int)))) ((0 : Nat) + (IntKind.wrap .i64 (s96.2.1 - 4)) : Int) ((((k0_.getD ((IntKind.wrap .u32 (((IntKind.wrap .u32 (Int.tdiv ((Int.tmod (IntKind.wrap .u32 (Int.tmod s96.1 100000000)) 10000)) 100))) * 2)) : Int).toNat 0).toNat : Nat) : Int)))).flatMap (encI .u8)) (0 * 1 + ((IntKind.wrap .i64 (s96.2.1 - 5)) : Int).toNat * 1) ((encI .u8) ((((k0_.getD ((IntKind.wrap .u32 (((IntKind.wrap .u32 (((Int.tmod ((IntKind.wrap .u32 (Int.tdiv (IntKind.wrap .u32 (Int.tmod s96.1 100000000)) 10000))) 100)) * 2))) + 1)) : Int).toNat 0).toNat : Nat) : Int)))))]⟩) (ef' := ⟨.undef, [0], [(0, .box ((setAt ((setAt ((setAt ((setAt ((setAt s96.2.2 ((0 : Nat) + (IntKind.wrap .i64 (s96.2.1 - 1)) : Int) ((((k0_.getD ((IntKind.wrap .u32 (((IntKind.wrap .u32 (((Int.tmod ((Int.tmod (IntKind.wrap .u32 (Int.tmod s96.1 100000000)) 10000)) 100)) * 2))) + 1)) : Int).toNat 0).toNat : Nat) : Int)))) ((0 : Nat) + (IntKind.wrap .i64 (s96.2.1 - 2)) : Int) ((((k0_.getD ((IntKind.wrap .u32 (((Int.tmod ((Int.tmod (IntKind.wrap .u32 (Int.tmod s96.1 100000000)) 10000)) 100)) * 2)) : Int).toNat 0).toNat : Nat) : Int)))) ((0 : Nat) + (IntKind.wrap .i64 (s96.2.1 - 3)) : Int) ((((k0_.getD ((IntKind.wrap .u32 (((IntKind.wrap .u32 (((IntKind.wrap .u32 (Int.tdiv ((Int.tmod (IntKind.wrap .u32 (Int.tmod s96.1 100000000)) 10000)) 100))) * 2))) + 1)) : Int).toNat 0).toNat : Nat) : Int)))) ((0 : Nat) + (IntKind.wrap .i64 (s96.2.1 - 4)) : Int) ((((k0_.getD ((IntKind.wrap .u32 (((IntKind.wrap .u32 (Int.tdiv ((Int.tmod (IntKind.wrap .u32 (Int.tmod s96.1 100000000)) 10000)) 100))) * 2)) : Int).toNat 0).toNat : Nat) : Int)))) ((0 : Nat) + (IntKind.wrap .i64 (s96.2.1 - 5)) : Int) ((((k0_.getD ((IntKind.wrap .u32 (((IntKind.wrap .u32 (((Int.tmod ((IntKind.wrap .u32 (Int.tdiv (IntKind.wrap .u32 (Int.tmod s96.1 100000000)) 10000))) 100)) * 2))) + 1)) : Int).toNat 0).toNat : Nat) : Int))).flatMap (encI .u8)))]⟩) (c := Nat.ble (0 * 1 + ((IntKind.wrap .i64 (s96.2.1 - 5)) : Int).toNat * 1 + ((encI .u8) ((((k0_.getD ((IntKind.wrap .u32 (((IntKind.wrap .u32 (((Int.tmod ((IntKind.wrap .u32 (Int.tdiv (IntKind.wrap .u32 (Int.tmod s96.1 100000000)) 10000))) 100)) * 2))) + 1)) : Int).toNat 0).toNat : Nat) : Int))).length) (((setAt ((setAt ((setAt ((setAt s96.2.2 ((0 : Nat) + (IntKind.wrap .i64 (s96.2.1 - 1)) : Int) ((((k0_.getD ((IntKind.wrap .u32 (((IntKind.wrap .u32 (((Int.tmod ((Int.tmod (IntKind.wrap .u32 (Int.tmod s96.1 100000000)) 10000)) 100)) * 2))) + 1)) : Int).toNat 0).toNat : Nat) : Int)))) ((0 : Nat) + (IntKind.wrap .i64 (s96.2.1 - 2)) : Int) ((((k0_.getD ((IntKind.wrap .u32 (((Int.tmod ((Int.tmod (IntKind.wrap .u32 (Int.tmod s96.1 100000000)) 10000)) 100)) * 2)) : Int).toNat 0).toNat : Nat) : Int)))) ((0 : Nat) + (IntKind.wrap .i64 (s96.2.1 - 3)) : Int) ((((k0_.getD ((IntKind.wrap .u32 (((IntKind.wrap .u32 (((IntKind.wrap .u32 (Int.tdiv ((Int.tmod (IntKind.wrap .u32 (Int.tmod s96.1 100000000)) 10000)) 100))) * 2))) + 1)) : Int).toNat 0).toNat : Nat) : Int)))) ((0 : Nat) + (IntKind.wrap .i64 (s96.2.1 - 4)) : Int) ((((k0_.getD ((IntKind.wrap .u32 (((IntKind.wrap .u32 (Int.tdiv ((Int.tmod (IntKind.wrap .u32 (Int.tmod s96.1 100000000)) 10000)) 100))) * 2)) : Int).toNat 0).toNat : Nat) : Int)))).flatMap (encI .u8)).length) (tr2 := [([], []), ([], []), ([], []), ([], []), ([], []), ([], []), ([], []), ([], []), ([], []), ([], []), ([], []), ([], []), ([0, 1], [0])]) (H2 := [.box (((setAt ((setAt ((setAt ((setAt ((setAt s96.2.2 ((0 : Nat) + (IntKind.wrap .i64 (s96.2.1 - 1)) : Int) ((((k0_.getD ((IntKind.wrap .u32 (((IntKind.wrap .u32 (((Int.tmod ((Int.tmod (IntKind.wrap .u32 (Int.tmod s96.1 100000000)) 10000)) 100)) * 2))) + 1)) : Int).toNat 0).toNat : Nat) : Int)))) ((0 : Nat) + (IntKind.wrap .i64 (s96.2.1 - 2)) : Int) ((((k0_.getD ((IntKind.wrap .u32 (((Int.tmod ((Int.tmod (IntKind.wrap .u32 (Int.tmod s96.1 100000000)) 10000)) 100)) * 2)) : Int).toNat 0).toNat : Nat) : Int)))) ((0 : Nat) + (IntKind.wrap .i64 (s96.2.1 - 3)) : Int) ((((k0_.getD ((IntKind.wrap .u32 (((IntKind.wrap .u32 (((IntKind.wrap .u32 (Int.tdiv ((Int.tmod (IntKind.wrap .u32 (Int.tmod s96.1 100000000)) 10000)) 100))) * 2))) + 1)) : Int).toNat 0).toNat : Nat) : Int)))) ((0 : Nat) + (IntKind.wrap .i64 (s96.2.1 - 4)) : Int) ((((k0_.getD ((IntKind.wrap .u32 (((IntKind.wrap .u32 (Int.tdiv ((Int.tmod (IntKind.wrap .u32 (Int.tmod s96.1 100000000)) 10000)) 100))) * 2)) : Int).toNat 0).toNat : Nat) : Int)))) ((0 : Nat) + (IntKind.wrap .i64 (s96.2.1 - 5)) : Int) ((((k0_.getD ((IntKind.wrap .u32 (((IntKind.wrap .u32 (((Int.tmod ((IntKind.wrap .u32 (Int.tdiv (IntKind.wrap .u32 (Int.tmod s96.1 100000000)) 10000))) 100)) * 2))) + 1)) : Int).toNat 0).toNat : Nat) : Int)))).flatMap (encI .u8))]) (by kernel_rfl) (storeB_ok (encI_len .u8) hm) (fun hc => N.storeB (o := 0) (encI_len .u8) hm) (by kernel_rfl) ?_
   obtain ⟨hm, h176⟩ := asrt h175
   refine RJ.rel (d := (some 80)) (ef := ⟨.ptr 0 (0 + ((IntKind.wrap .i64 (s96.2.1 - 6)) : Int).toNat * 1), [], []⟩) (ef' := ⟨.ptr 0 (0 + ((IntKind.wrap .i64 (s96.2.1 - 6)) : Int).toNat * 1), [], []⟩) (c := inR (IntKind.wrap .i64 (s96.2.1 - 6)) x0.toNat) (tr2 := [([], []), ([], []), ([], []), ([], []), ([], []), ([], []), ([], []), ([], []), ([], []), ([], []), ([], []), ([], []), ([0, 1], [0]), ([], [])]) (H2 := [.box (((setAt ((setAt ((setAt ((setAt ((setAt s96.2.2 ((0 : Nat) + (IntKind.wrap .i64 (s96.2.1 - 1)) : Int) ((((k0_.getD ((IntKind.wrap .u32 (((IntKind.wrap .u32 (((Int.tmod ((Int.tmod (IntKind.wrap .u32 (Int.tmod s96.1 100000000)) 10000)) 100)) * 2))) + 1)) : Int).toNat 0).toNat : Nat) : Int)))) ((0 : Nat) + (IntKind.wrap .i64 (s96.2.1 - 2)) : Int) ((((k0_.getD ((IntKind.wrap .u32 (((Int.tmod ((Int.tmod (IntKind.wrap .u32 (Int.tmod s96.1 100000000)) 10000)) 100)) * 2)) : Int).toNat 0).toNat : Nat) : Int)))) ((0 : Nat) + (IntKind.wrap .i64 (s96.2.1 - 3)) : Int) ((((k0_.getD ((IntKind.wrap .u32 (((IntKind.wrap .u32 (((IntKind.wrap .u32 (Int.tdiv ((Int.tmod (IntKind.wrap .u32 (Int.tmod s96.1 100000000)) 10000)) 100))) * 2))) + 1)) : Int).toNat 0).toNat : Nat) : Int)))) ((0 : Nat) + (IntKind.wrap .i64 (s96.2.1 - 4)) : Int) ((((k0_.getD ((IntKind.wrap .u32 (((IntKind.wrap .u32 (Int.tdiv ((Int.tmod (IntKind.wrap .u32 (Int.tmod s96.1 100000000)) 10000)) 100))) * 2)) : Int).toNat 0).toNat : Nat) : Int)))) ((0 : Nat) + (IntKind.wrap .i64 (s96.2.1 - 5)) : Int) ((((k0_.getD ((IntKind.wrap .u32 (((IntKind.wrap .u32 (((Int.tmod ((IntKind.wrap .u32 (Int.tdiv (IntKind.wrap .u32 (Int.tmod s96.1 100000000)) 10000))) 100)) * 2))) + 1)) : Int).toNat 0).toNat : Nat) : Int)))).flatMap (encI .u8))]) (by kernel_rfl) hm (fun hc => rfl) (by kernel_rfl) ?_
   obtain ⟨hm, h177⟩ := asrt h176
   refine RJ.relS (d := none) (ef := ⟨.undef, [0], [(0, .box (splice (((setAt ((setAt ((setAt ((setAt ((setAt s96.2.2 ((0 : Nat) + (IntKind.wrap .i64 (s96.2.1 - 1)) : Int) ((((k0_.getD ((IntKind.wrap .u32 (((IntKind.wrap .u32 (((Int.tmod ((Int.tmod (IntKind.wrap .u32 (Int.tmod s96.1 100000000)) 10000)) 100)) * 2))) + 1)) : Int).toNat 0).toNat : Nat) : Int)))) ((0 : Nat) + (IntKind.wrap .i64 (s96.2.1 - 2)) : Int) ((((k0_.getD ((IntKind.wrap .u32 (((Int.tmod ((Int.tmod (IntKind.wrap .u32 (Int.tmod s96.1 100000000)) 10000)) 100)) * 2)) : Int).toNat 0).toNat : Nat) : Int)))) ((0 : Nat) + (IntKind.wrap .i64 (s96.2.1 - 3)) : Int) ((((k0_.getD ((IntKind.wrap .u32 (((IntKind.wrap .u32 (((IntKind.wrap .u32 (Int.tdiv ((Int.tmod (IntKind.wrap .u32 (Int.tmod s96.1 100000000)) 10000)) 100))) * 2))) + 1)) : Int).toNat 0).toNat : Nat) : Int)))) ((0 : Nat) + (IntKind.wrap .i64 (s96.2.1 - 4)) : Int) ((((k0_.getD ((IntKind.wrap .u32 (((IntKind.wrap .u32 (Int.tdiv ((Int.tmod (IntKind.wrap .u32 (Int.tmod s96.1 100000000)) 10000)) 100))) * 2)) : Int).toNat 0).toNat : Nat) : Int)))) ((0 : Nat) + (IntKind.wrap .i64 (s96.2.1 - 5)) : Int) ((((k0_.getD ((IntKind.wrap .u32 (((IntKind.wrap .u32 (((Int.tmod ((IntKind.wrap .u32 (Int.tdiv (IntKind.wrap .u32 (Int.tmod s96.1 100000000)) 10000))) 100)) * 2))) + 1)) : Int).toNat 0).toNat : Nat) : Int)))).flatMap (encI .u8)) (0 * 1 + ((IntKind.wrap .i64 (s96.2.1 - 6)) : Int).toNat * 1) ((encI .u8) ((((k0_.getD ((IntKind.wrap .u32 (((Int.tmod ((IntKind.wrap .u32 (Int.tdiv (IntKind.wrap .u32 (Int.tmod s96.1 100000000)) 10000))) 100)) * 2)) : Int).toNat 0).toNat : Nat) : Int)))))]⟩) (ef' := ⟨.undef, [0], [(0, .box ((setAt ((setAt ((setAt ((setAt ((setAt ((setAt s96.2.2 ((0 : Nat) + (IntKind.wrap .i64 (s96.2.1 - 1)) : Int) ((((k0_.getD ((IntKind.wrap .u32 (((IntKind.wrap .u32 (((Int.tmod ((Int.tmod (IntKind.wrap .u32 (Int.tmod s96.1 100000000)) 10000)) 100)) * 2))) + 1)) : Int).toNat 0).toNat : Nat) : Int)))) ((0 : Nat) + (IntKind.wrap .i64 (s96.2.1 - 2)) : Int) ((((k0_.getD ((IntKind.wrap .u32 (((Int.tmod ((Int.tmod (IntKind.wrap .u32 (Int.tmod s96.1 100000000)) 10000)) 100)) * 2)) : Int).toNat 0).toNat : Nat) : Int)))) ((0 : Nat) + (IntKind.wrap .i64 (s96.2.1 - 3)) : Int) ((((k0_.getD ((IntKind.wrap .u32 (((IntKind.wrap .u32 (((IntKind.wrap .u32 (Int.tdiv ((Int.tmod (IntKind.wrap .u32 (Int.tmod s96.1 100000000)) 10000)) 100))) * 2))) + 1)) : Int).toNat 0).toNat : Nat) : Int)))) ((0 : Nat) + (IntKind.wrap .i64 (s96.2.1 - 4)) : Int) ((((k0_.getD ((IntKind.wrap .u32 (((IntKind.wrap .u32 (Int.tdiv ((Int.tmod (IntKind.wrap .u32 (Int.tmod s96.1 100000000)) 10000)) 100))) * 2)) : Int).toNat 0).toNat : Nat) : Int)))) ((0 : Nat) + (IntKind.wrap .i64 (s96.2.1 - 5)) : Int) ((((k0_.getD ((IntKind.wrap .u32 (((IntKind.wrap .u32 (((Int.tmod ((IntKind.wrap .u32 (Int.tdiv (IntKind.wrap .u32 (Int.tmod s96.1 100000000)) 10000))) 100)) * 2))) + 1)) : Int).toNat 0).toNat : Nat) : Int)))) ((0 : Nat) + (IntKind.wrap .i64 (s96.2.1 - 6)) : Int) ((((k0_.getD ((IntKind.wrap .u32 (((Int.tmod ((IntKind.wrap .u32 (Int.tdiv (IntKind.wrap .u32 (Int.tmod s96.1 100000000)) 10000))) 100)) * 2)) : Int).toNat 0).toNat : Nat) : Int))).flatMap (encI .u8)))]⟩) (c := Nat.ble (0 * 1 + ((IntKind.wrap .i64 (s96.2.1 - 6)) : Int).toNat * 1 + ((encI .u8) ((((k0_.getD ((IntKind.wrap .u32 (((Int.tmod ((IntKind.wrap .u32 (Int.tdiv (IntKind.wrap .u32 (Int.tmod s96.1 100000000)) 10000))) 100)) * 2)) : Int).toNat 0).toNat : Nat) : Int))).length) (((setAt ((setAt ((setAt ((setAt ((setAt s96.2.2 ((0 : Nat) + (IntKind.wrap .i64 (s96.2.1 - 1)) : Int) ((((k0_.getD ((IntKind.wrap .u32 (((IntKind.wrap .u32 (((Int.tmod ((Int.tmod (IntKind.wrap .u32 (Int.tmod s96.1 100000000)) 10000)) 100)) * 2))) + 1)) : Int).toNat 0).toNat : Nat) : Int)))) ((0 : Nat) + (IntKind.wrap .i64 (s96.2.1 - 2)) : Int) ((((k0_.getD ((IntKind.wrap .u32 (((Int.tmod ((Int.tmod (IntKind.wrap .u32 (Int.tmod s96.1 100000000)) 10000)) 100)) * 2)) : Int).toNat 0).toNat : Nat) : Int)))) ((0 : Nat) + (IntKind.wrap .i64 (s96.2.1 - 3)) : Int) ((((k0_.getD ((IntKind.wrap .u32 (((IntKind.wrap .u32 (((IntKind.wrap .u32 (Int.tdiv ((Int.tmod (IntKind.wrap .u32 (Int.tmod s96.1 100000000)) 10000)) 100))) * 2))) + 1)) : Int).toNat 0).toNat : Nat) : Int)))) ((0 : Nat) + (IntKind.wrap .i64 (s96.2.1 - 4)) : Int) ((((k0_.getD ((IntKind.wrap .u32 (((IntKind.wrap .u32 (Int.tdiv ((Int.tmod (IntKind.wrap .u32 (Int.tmod s96.1 100000000)) 10000)) 100))) * 2)) : Int).toNat 0).toNat : Nat) : Int)))) ((0 : Nat) + (IntKind.wrap .i64 (s96.2.1 - 5)) : Int) ((((k0_.getD ((IntKind.wrap .u32 (((IntKind.wrap .u32 (((Int.tmod ((IntKind.wrap .u32 (Int.tdiv (IntKind.wrap .u32 (Int.tmod s96.1 100000000)) 10000))) 100)) * 2))) + 1)) : Int).toNat 0).toNat : Nat) : Int)))).flatMap (encI .u8)).length) (tr2 := [([], []), ([], []), ([], []), ([], []), ([], []), ([], []), ([], []), ([], []), ([], []), ([], []), ([], []), ([], []), ([0, 1], [0]), ([], []), ([0, 1], [0])]) (H2 := [.box (((setAt ((setAt ((setAt ((setAt ((setAt ((setAt s96.2.2 ((0 : Nat) + (IntKind.wrap .i64 (s96.2.1 - 1)) : Int) ((((k0_.getD ((IntKind.wrap .u32 (((IntKind.wrap .u32 (((Int.tmod ((Int.tmod (IntKind.wrap .u32 (Int.tmod s96.1 100000000)) 10000)) 100)) * 2))) + 1)) : Int).toNat 0).toNat : Nat) : Int)))) ((0 : Nat) + (IntKind.wrap .i64 (s96.2.1 - 2)) : Int) ((((k0_.getD ((IntKind.wrap .u32 (((Int.tmod ((Int.tmod (IntKind.wrap .u32 (Int.tmod s96.1 100000000)) 10000)) 100)) * 2)) : Int).toNat 0).toNat : Nat) : Int)))) ((0 : Nat) + (IntKind.wrap .i64 (s96.2.1 - 3)) : Int) ((((k0_.getD ((IntKind.wrap .u32 (((IntKind.wrap .u32 (((IntKind.wrap .u32 (Int.tdiv ((Int.tmod (IntKind.wrap .u32 (Int.tmod s96.1 100000000)) 10000)) 100))) * 2))) + 1)) : Int).toNat 0).toNat : Nat) : Int)))) ((0 : Nat) + (IntKind.wrap .i64 (s96.2.1 - 4)) : Int) ((((k0_.getD ((IntKind.wrap .u32 (((IntKind.wrap .u32 (Int.tdiv ((Int.tmod (IntKind.wrap .u32 (Int.tmod s96.1 100000000)) 10000)) 100))) * 2)) : Int).toNat 0).toNat : Nat) : Int)))) ((0 : Nat) + (IntKind.wrap .i64 (s96.2.1 - 5)) : Int) ((((k0_.getD ((IntKind.wrap .u32 (((IntKind.wrap .u32 (((Int.tmod ((IntKind.wrap .u32 (Int.tdiv (IntKind.wrap .u32 (Int.tmod s96.1 100000000)) 10000))) 100)) * 2))) + 1)) : Int).toNat 0).toNat : Nat) : Int)))) ((0 : Nat) + (IntKind.wrap .i64 (s96.2.1 - 6)) : Int) ((((k0_.getD ((IntKind.wrap .u32 (((Int.tmod ((IntKind.wrap .u32 (Int.tdiv (IntKind.wrap .u32 (Int.tmod s96.1 100000000)) 10000))) 100)) * 2)) : Int).toNat 0).toNat : Nat) : Int)))).flatMap (encI .u8))]) (by kernel_rfl) (storeB_ok (encI_len .u8) hm) (fun hc => N.storeB (o := 0) (encI_len .u8) hm) (by kernel_rfl) ?_
   refine kEN ?_
   refine kS ?_
   refine J.keep [0, 1, 4, 10] (L2 := [(0, .sl 0 0 x0.toNat 1), (1, .int .u64 (IntKind.wrap .u64 (Int.tdiv s96.1 100000000))), (4, .int .i64 s96.2.1), (10, .int .u32 ((IntKind.wrap .u32 (((IntKind.wrap .u32 (Int.tdiv ((IntKind.wrap .u32 (Int.tdiv (IntKind.wrap .u32 (Int.tmod s96.1 100000000)) 10000))) 100))) * 2))))]) (by kernel_rfl) ?_
   refine K.draw (by kernel_rfl) (by kernel_rfl) (by kernel_rfl) (H2 := [.box (((setAt ((setAt ((setAt ((setAt ((setAt ((setAt s96.2.2 ((0 : Nat) + (IntKind.wrap .i64 (s96.2.1 - 1)) : Int) ((((k0_.getD ((IntKind.wrap .u32 (((IntKind.wrap .u32 (((Int.tmod ((Int.tmod (IntKind.wrap .u32 (Int.tmod s96.1 100000000)) 10000)) 100)) * 2))) + 1)) : Int).toNat 0).toNat : Nat) : Int)))) ((0 : Nat) + (IntKind.wrap .i64 (s96.2.1 - 2)) : Int) ((((k0_.getD ((IntKind.wrap .u32 (((Int.tmod ((Int.tmod (IntKind.wrap .u32 (Int.tmod s96.1 100000000)) 10000)) 100)) * 2)) : Int).toNat 0).toNat : Nat) : Int)))) ((0 : Nat) + (IntKind.wrap .i64 (s96.2.1 - 3)) : Int) ((((k0_.getD ((IntKind.wrap .u32 (((IntKind.wrap .u32 (((IntKind.wrap .u32 (Int.tdiv ((Int.tmod (IntKind.wrap .u32 (Int.tmod s96.1 100000000)) 10000)) 100))) * 2))) + 1)) : Int).toNat 0).toNat : Nat) : Int)))) ((0 : Nat) + (IntKind.wrap .i64 (s96.2.1 - 4)) : Int) ((((k0_.getD ((IntKind.wrap .u32 (((IntKind.wrap .u32 (Int.tdiv ((Int.tmod (IntKind.wrap .u32 (Int.tmod s96.1 100000000)) 10000)) 100))) * 2)) : Int).toNat 0).toNat : Nat) : Int)))) ((0 : Nat) + (IntKind.wrap .i64 (s96.2.1 - 5)) : Int) ((((k0_.getD ((IntKind.wrap .u32 (((IntKind.wrap .u32 (((Int.tmod ((IntKind.wrap .u32 (Int.tdiv (IntKind.wrap .u32 (Int.tmod s96.1 100000000)) 10000))) 100)) * 2))) + 1)) : Int).toNat 0).toNat : Nat) : Int)))) ((0 : Nat) + (IntKind.wrap .i64 (s96.2.1 - 6)) : Int) ((((k0_.getD ((IntKind.wrap .u32 (((Int.tmod ((IntKind.wrap .u32 (Int.tdiv (IntKind.wrap .u32 (Int.tmod s96.1 100000000)) 10000))) 100)) * 2)) : Int).toNat 0).toNat : Nat) : Int)))).flatMap (encI .u8))]) (by kernel_rfl) (n := 1) (by kernel_rfl) ?_
   refine kD 8 ?_
   obtain ⟨hm, h178⟩ := asrt h177
   refine RJ.rel (d := (some 89)) (ef := ⟨.int .u8 (((k0_.getD ((IntKind.wrap .u32 (((IntKind.wrap .u32 (((IntKind.wrap .u32 (Int.tdiv ((IntKind.wrap .u32 (Int.tdiv (IntKind.wrap .u32 (Int.tmod s96.1 100000000)) 10000))) 100))) * 2))) + 1)) : Int).toNat 0).toNat : Nat) : Int), [], []⟩) (ef' := ⟨.int .u8 (((k0_.getD ((IntKind.wrap .u32 (((IntKind.wrap .u32 (((IntKind.wrap .u32 (Int.tdiv ((IntKind.wrap .u32 (Int.tdiv (IntKind.wrap .u32 (Int.tmod s96.1 100000000)) 10000))) 100))) * 2))) + 1)) : Int).toNat 0).toNat : Nat) : Int), [], []⟩) (c := inR ((IntKind.wrap .u32 (((IntKind.wrap .u32 (((IntKind.wrap .u32 (Int.tdiv ((IntKind.wrap .u32 (Int.tdiv (IntKind.wrap .u32 (Int.tmod s96.1 100000000)) 10000))) 100))) * 2))) + 1))) k0_.length) (tr2 := [([], []), ([], []), ([], []), ([], []), ([], []), ([], []), ([], []), ([], []), ([], [])]) (H2 := [.box (((setAt ((setAt ((setAt ((setAt ((setAt ((setAt s96.2.2 ((0 : Nat) + (IntKind.wrap .i64 (s96.2.1 - 1)) : Int) ((((k0_.getD ((IntKind.wrap .u32 (((IntKind.wrap .u32 (((Int.tmod ((Int.tmod (IntKind.wrap .u32 (Int.tmod s96.1 100000000)) 10000)) 100)) * 2))) + 1)) : Int).toNat 0).toNat : Nat) : Int)))) ((0 : Nat) + (IntKind.wrap .i64 (s96.2.1 - 2)) : Int) ((((k0_.getD ((IntKind.wrap .u32 (((Int.tmod ((Int.tmod (IntKind.wrap .u32 (Int.tmod s96.1 100000000)) 10000)) 100)) * 2)) : Int).toNat 0).toNat : Nat) : Int)))) ((0 : Nat) + (IntKind.wrap .i64 (s96.2.1 - 3)) : Int) ((((k0_.getD ((IntKind.wrap .u32 (((IntKind.wrap .u32 (((IntKind.wrap .u32 (Int.tdiv ((Int.tmod (IntKind.wrap .u32 (Int.tmod s96.1 100000000)) 10000)) 100))) * 2))) + 1)) : Int).toNat 0).toNat : Nat) : Int)))) ((0 : Nat) + (IntKind.wrap .i64 (s96.2.1 - 4)) : Int) ((((k0_.getD ((IntKind.wrap .u32 (((IntKind.wrap .u32 (Int.tdiv ((Int.tmod (IntKind.wrap .u32 (Int.tmod s96.1 100000000)) 10000)) 100))) * 2)) : Int).toNat 0).toNat : Nat) : Int)))) ((0 : Nat) + (IntKind.wrap .i64 (s96.2.1 - 5)) : Int) ((((k0_.getD ((IntKind.wrap .u32 (((IntKind.wrap .u32 (((Int.tmod ((IntKind.wrap .u32 (Int.tdiv (IntKind.wrap .u32 (Int.tmod s96.1 100000000)) 10000))) 100)) * 2))) + 1)) : Int).toNat 0).toNat : Nat) : Int)))) ((0 : Nat) + (IntKind.wrap .i64 (s96.2.1 - 6)) : Int) ((((k0_.getD ((IntKind.wrap .u32 (((Int.tmod ((IntKind.wrap .u32 (Int.tdiv (IntKind.wrap .u32 (Int.tmod s96.1 100000000)) 10000))) 100)) * 2)) : Int).toNat 0).toNat : Nat) : Int)))).flatMap (encI .u8))]) (by kernel_rfl) hm (fun hc => rfl) (by kernel_rfl) ?_
   refine kD 1 ?_
   obtain ⟨hm, h179⟩ := asrt h178
   refine RJ.rel (d := (some 91)) (ef := ⟨.int .u8 (((k0_.getD ((IntKind.wrap .u32 (((IntKind.wrap .u32 (Int.tdiv ((IntKind.wrap .u32 (Int.tdiv (IntKind.wrap .u32 (Int.tmod s96.1 100000000)) 10000))) 100))) * 2)) : Int).toNat 0).toNat : Nat) : Int), [], []⟩) (ef' := ⟨.int .u8 (((k0_.getD ((IntKind.wrap .u32 (((IntKind.wrap .u32 (Int.tdiv ((IntKind.wrap .u32 (Int.tdiv (IntKind.wrap .u32 (Int.tmod s96.1 100000000)) 10000))) 100))) * 2)) : Int).toNat 0).toNat : Nat) : Int), [], []⟩) (c := inR ((IntKind.wrap .u32 (((IntKind.wrap .u32 (Int.tdiv ((IntKind.wrap .u32 (Int.tdiv (IntKind.wrap .u32 (Int.tmod s96.1 100000000)) 10000))) 100))) * 2))) k0_.length) (tr2 := [([], []), ([], []), ([], []), ([], []), ([], []), ([], []), ([], []), ([], []), ([], []), ([], []), ([], [])]) (H2 := [.box (((setAt ((setAt ((setAt ((setAt ((setAt ((setAt s96.2.2 ((0 : Nat) + (IntKind.wrap .i64 (s96.2.1 - 1)) : Int) ((((k0_.getD ((IntKind.wrap .u32 (((IntKind.wrap .u32 (((Int.tmod ((Int.tmod (IntKind.wrap .u32 (Int.tmod s96.1 100000000)) 10000)) 100)) * 2))) + 1)) : Int).toNat 0).toNat : Nat) : Int)))) ((0 : Nat) + (IntKind.wrap .i64 (s96.2.1 - 2)) : Int) ((((k0_.getD ((IntKind.wrap .u32 (((Int.tmod ((Int.tmod (IntKind.wrap .u32 (Int.tmod s96.1 100000000)) 10000)) 100)) * 2)) : Int).toNat 0).toNat : Nat) : Int)))) ((0 : Nat) + (IntKind.wrap .i64 (s96.2.1 - 3)) : Int) ((((k0_.getD ((IntKind.wrap .u32 (((IntKind.wrap .u32 (((IntKind.wrap .u32 (Int.tdiv ((Int.tmod (IntKind.wrap .u32 (Int.tmod s96.1 100000000)) 10000)) 100))) * 2))) + 1)) : Int).toNat 0).toNat : Nat) : Int)))) ((0 : Nat) + (IntKind.wrap .i64 (s96.2.1 - 4)) : Int) ((((k0_.getD ((IntKind.wrap .u32 (((IntKind.wrap .u32 (Int.tdiv ((Int.tmod (IntKind.wrap .u32 (Int.tmod s96.1 100000000)) 10000)) 100))) * 2)) : Int).toNat 0).toNat : Nat) : Int)))) ((0 : Nat) + (IntKind.wrap .i64 (s96.2.1 - 5)) : Int) ((((k0_.getD ((IntKind.wrap .u32 (((IntKind.wrap .u32 (((Int.tmod ((IntKind.wrap .u32 (Int.tdiv (IntKind.wrap .u32 (Int.tmod s96.1 100000000)) 10000))) 100)) * 2))) + 1)) : Int).toNat 0).toNat : Nat) : Int)))) ((0 : Nat) + (IntKind.wrap .i64 (s96.2.1 - 6)) : Int) ((((k0_.getD ((IntKind.wrap .u32 (((Int.tmod ((IntKind.wrap .u32 (Int.tdiv (IntKind.wrap .u32 (Int.tmod s96.1 100000000)) 10000))) 100)) * 2)) : Int).toNat 0).toNat : Nat) : Int)))).flatMap (encI .u8))]) (by kernel_rfl) hm (fun hc => rfl) (by kernel_rfl) ?_
   obtain ⟨hm, h180⟩ := asrt h179
   refine RJ.rel (d := (some 92)) (ef := ⟨.ptr 0 (0 + ((IntKind.wrap .i64 (s96.2.1 - 7)) : Int).toNat * 1), [], []⟩) (ef' := ⟨.ptr 0 (0 + ((IntKind.wrap .i64 (s96.2.1 - 7)) : Int).toNat * 1), [], []⟩) (c := inR (IntKind.wrap .i64 (s96.2.1 - 7)) x0.toNat) (tr2 := [([], []), ([], []), ([], []), ([], []), ([], []), ([], []), ([], []), ([], []), ([], []), ([], []), ([], []), ([], [])]) (H2 := [.box (((setAt ((setAt ((setAt ((setAt ((setAt ((setAt s96.2.2 ((0 : Nat) + (IntKind.wrap .i64 (s96.2.1 - 1)) : Int) ((((k0_.getD ((IntKind.wrap .u32 (((IntKind.wrap .u32 (((Int.tmod ((Int.tmod (IntKind.wrap .u32 (Int.tmod s96.1 100000000)) 10000)) 100)) * 2))) + 1)) : Int).toNat 0).toNat : Nat) : Int)))) ((0 : Nat) + (IntKind.wrap .i64 (s96.2.1 - 2)) : Int) ((((k0_.getD ((IntKind.wrap .u32 (((Int.tmod ((Int.tmod (IntKind.wrap .u32 (Int.tmod s96.1 100000000)) 10000)) 100)) * 2)) : Int).toNat 0).toNat : Nat) : Int)))) ((0 : Nat) + (IntKind.wrap .i64 (s96.2.1 - 3)) : Int) ((((k0_.getD ((IntKind.wrap .u32 (((IntKind.wrap .u32 (((IntKind.wrap .u32 (Int.tdiv ((Int.tmod (IntKind.wrap .u32 (Int.tmod s96.1 100000000)) 10000)) 100))) * 2))) + 1)) : Int).toNat 0).toNat : Nat) : Int)))) ((0 : Nat) + (IntKind.wrap .i64 (s96.2.1 - 4)) : Int) ((((k0_.getD ((IntKind.wrap .u32 (((IntKind.wrap .u32 (Int.tdiv ((Int.tmod (IntKind.wrap .u32 (Int.tmod s96.1 100000000)) 10000)) 100))) * 2)) : Int).toNat 0).toNat : Nat) : Int)))) ((0 : Nat) + (IntKind.wrap .i64 (s96.2.1 - 5)) : Int) ((((k0_.getD ((IntKind.wrap .u32 (((IntKind.wrap .u32 (((Int.tmod ((IntKind.wrap .u32 (Int.tdiv (IntKind.wrap .u32 (Int.tmod s96.1 100000000)) 10000))) 100)) * 2))) + 1)) : Int).toNat 0).toNat : Nat) : Int)))) ((0 : Nat) + (IntKind.wrap .i64 (s96.2.1 - 6)) : Int) ((((k0_.getD ((IntKind.wrap .u32 (((Int.tmod ((IntKind.wrap .u32 (Int.tdiv (IntKind.wrap .u32 (Int.tmod s96.1 100000000)) 10000))) 100)) * 2)) : Int).toNat 0).toNat : Nat) : Int)))).flatMap (encI .u8))]) (by kernel_rfl) hm (fun hc => rfl) (by kernel_rfl) ?_
   obtain ⟨hm, h181⟩ := asrt h180
   refine RJ.relS (d := none) (ef := ⟨.undef, [0], [(0, .box (splice (((setAt ((setAt ((setAt ((setAt ((setAt ((setAt s96.2.2 ((0 : Nat) + (IntKind.wrap .i64 (s96.2.1 - 1)) : Int) ((((k0_.getD ((IntKind.wrap .u32 (((IntKind.wrap .u32 (((Int.tmod ((Int.tmod (IntKind.wrap .u32 (Int.tmod s96.1 100000000)) 10000)) 100)) * 2))) + 1)) : Int).toNat 0).toNat : Nat) : Int)))) ((0 : Nat) + (IntKind.wrap .i64 (s96.2.1 - 2)) : Int) ((((k0_.getD ((IntKind.wrap .u32 (((Int.tmod ((Int.tmod (IntKind.wrap .u32 (Int.tmod s96.1 100000000)) 10000)) 100)) * 2)) : Int).toNat 0).toNat : Nat) : Int)))) ((0 : Nat) + (IntKind.wrap .i64 (s96.2.1 - 3)) : Int) ((((k0_.getD ((IntKind.wrap .u32 (((IntKind.wrap .u32 (((IntKind.wrap .u32 (Int.tdiv ((Int.tmod (IntKind.wrap .u32 (Int.tmod s96.1 100000000)) 10000)) 100))) * 2))) + 1)) : Int).toNat 0).toNat : Nat) : Int)))) ((0 : Nat) + (IntKind.wrap .i64 (s96.2.1 - 4)) : Int) ((((k0_.getD ((IntKind.wrap .u32 (((IntKind.wrap .u32 (Int.tdiv ((Int.tmod (IntKind.wrap .u32 (Int.tmod s96.1 100000000)) 10000)) 100))) * 2)) : Int).toNat 0).toNat : Nat) : Int)))) ((0 : Nat) + (IntKind.wrap .i64 (s96.2.1 - 5)) : Int) ((((k0_.getD ((IntKind.wrap .u32 (((IntKind.wrap .u32 (((Int.tmod ((IntKind.wrap .u32 (Int.tdiv (IntKind.wrap .u32 (Int.tmod s96.1 100000000)) 10000))) 100)) * 2))) + 1)) : Int).toNat 0).toNat : Nat) : Int)))) ((0 : Nat) + (IntKind.wrap .i64 (s96.2.1 - 6)) : Int) ((((k0_.getD ((IntKind.wrap .u32 (((Int.tmod ((IntKind.wrap .u32 (Int.tdiv (IntKind.wrap .u32 (Int.tmod s96.1 100000000)) 10000))) 100)) * 2)) : Int).toNat 0).toNat : Nat) : Int)))).flatMap (encI .u8)) (0 * 1 + ((IntKind.wrap .i64 (s96.2.1 - 7)) : Int).toNat * 1) ((encI .u8) ((((k0_.getD ((IntKind.wrap .u32 (((IntKind.wrap .u32 (((IntKind.wrap .u32 (Int.tdiv ((IntKind.wrap .u32 (Int.tdiv (IntKind.wrap .u32 (Int.tmod s96.1 100000000)) 10000))) 100))) * 2))) + 1)) : Int).toNat 0).toNat : Nat) : Int)))))]⟩) (ef' := ⟨.undef, [0], [(0, .box ((setAt ((setAt ((setAt ((setAt ((setAt ((setAt ((setAt s96.2.2 ((0 : Nat) + (IntKind.wrap .i64 (s96.2.1 - 1)) : Int) ((((k0_.getD ((IntKind.wrap .u32 (((IntKind.wrap .u32 (((Int.tmod ((Int.tmod (IntKind.wrap .u32 (Int.tmod s96.1 100000000)) 10000)) 100)) * 2))) + 1)) : Int).toNat 0).toNat : Nat) : Int)))) ((0 : Nat) + (IntKind.wrap .i64 (s96.2.1 - 2)) : Int) ((((k0_.getD ((IntKind.wrap .u32 (((Int.tmod ((Int.tmod (IntKind.wrap .u32 (Int.tmod s96.1 100000000)) 10000)) 100)) * 2)) : Int).toNat 0).toNat : Nat) : Int)))) ((0 : Nat) + (IntKind.wrap .i64 (s96.2.1 - 3)) : Int) ((((k0_.getD ((IntKind.wrap .u32 (((IntKind.wrap .u32 (((IntKind.wrap .u32 (Int.tdiv ((Int.tmod (IntKind.wrap .u32 (Int.tmod s96.1 100000000)) 10000)) 100))) * 2))) + 1)) : Int).toNat 0).toNat : Nat) : Int)))) ((0 : Nat) + (IntKind.wrap .i64 (s96.2.1 - 4)) : Int) ((((k0_.getD ((IntKind.wrap .u32 (((IntKind.wrap .u32 (Int.tdiv ((Int.tmod (IntKind.wrap .u32 (Int.tmod s96.1 100000000)) 10000)) 100))) * 2)) : Int).toNat 0).toNat : Nat) : Int)))) ((0 : Nat) + (IntKind.wrap .i64 (s96.2.1 - 5)) : Int) ((((k0_.getD ((IntKind.wrap .u32 (((IntKind.wrap .u32 (((Int.tmod ((IntKind.wrap .u32 (Int.tdiv (IntKind.wrap .u32 (Int.tmod s96.1 100000000)) 10000))) 100)) * 2))) + 1)) : Int).toNat 0).toNat : Nat) : Int)))) ((0 : Nat) + (IntKind.wrap .i64 (s96.2.1 - 6)) : Int) ((((k0_.getD ((IntKind.wrap .u32 (((Int.tmod ((IntKind.wrap .u32 (Int.tdiv (IntKind.wrap .u32 (Int.tmod s96.1 100000000)) 10000))) 100)) * 2)) : Int).toNat 0).toNat : Nat) : Int)))) ((0 : Nat) + (IntKind.wrap .i64 (s96.2.1 - 7)) : Int) ((((k0_.getD ((IntKind.wrap .u32 (((IntKind.wrap .u32 (((IntKind.wrap .u32 (Int.tdiv ((IntKind.wrap .u32 (Int.tdiv (IntKind.wrap .u32 (Int.tmod s96.1 100000000)) 10000))) 100))) * 2))) + 1)) : Int).toNat 0).toNat : Nat) : Int))).flatMap (encI .u8)))]⟩) (c := Nat.ble (0 * 1 + ((IntKind.wrap .i64 (s96.2.1 - 7)) : Int).toNat * 1 + ((encI .u8) ((((k0_.getD ((IntKind.wrap .u32 (((IntKind.wrap .u32 (((IntKind.wrap .u32 (Int.tdiv ((IntKind.wrap .u32 (Int.tdiv (IntKind.wrap .u32 (Int.tmod s96.1 100000000)) 10000))) 100))) * 2))) + 1)) : Int).toNat 0).toNat : Nat) : Int))).length) (((setAt ((setAt ((setAt ((setAt ((setAt ((setAt s96.2.2 ((0 : Nat) + (IntKind.wrap .i64 (s96.2.1 - 1)) : Int) ((((k0_.getD ((IntKind.wrap .u32 (((IntKind.wrap .u32 (((Int.tmod ((Int.tmod (IntKind.wrap .u32 (Int.tmod s96.1 100000000)) 10000)) 100)) * 2))) + 1)) : Int).toNat 0).toNat : Nat) : Int)))) ((0 : Nat) + (IntKind.wrap .i64 (s96.2.1 - 2)) : Int) ((((k0_.getD ((IntKind.wrap .u32 (((Int.tmod ((Int.tmod (IntKind.wrap .u32 (Int.tmod s96.1 100000000)) 10000)) 100)) * 2)) : Int).toNat 0).toNat : Nat) : Int)))) ((0 : Nat) + (IntKind.wrap .i64 (s96.2.1 - 3)) : Int) ((((k0_.getD ((IntKind.wrap .u32 (((IntKind.wrap .u32 (((IntKind.wrap .u32 (Int.tdiv ((Int.tmod (IntKind.wrap .u32 (Int.tmod s96.1 100000000)) 10000)) 100))) * 2))) + 1)) : Int).toNat 0).toNat : Nat) : Int)))) ((0 : Nat) + (IntKind.wrap .i64 (s96.2.1 - 4)) : Int) ((((k0_.getD ((IntKind.wrap .u32 (((IntKind.wrap .u32 (Int.tdiv ((Int.tmod (IntKind.wrap .u32 (Int.tmod s96.1 100000000)) 10000)) 100))) * 2)) : Int).toNat 0).toNat : Nat) : Int)))) ((0 : Nat) + (IntKind.wrap .i64 (s96.2.1 - 5)) : Int) ((((k0_.getD ((IntKind.wrap .u32 (((IntKind.wrap .u32 (((Int.tmod ((IntKind.wrap .u32 (Int.tdiv (IntKind.wrap .u32 (Int.tmod s96.1 100000000)) 10000))) 100)) * 2))) + 1)) : Int).toNat 0).toNat : Nat) : Int)))) ((0 : Nat) + (IntKind.wrap .i64 (s96.2.1 - 6)) : Int) ((((k0_.getD ((IntKind.wrap .u32 (((Int.tmod ((IntKind.wrap .u32 (Int.tdiv (IntKind.wrap .u32 (Int.tmod s96.1 100000000)) 10000))) 100)) * 2)) : Int).toNat 0).toNat : Nat) : Int)))).flatMap (encI .u8)).length) (tr2 := [([], []), ([], []), ([], []), ([], []), ([], []), ([], []), ([], []), ([], []), ([], []), ([], []), ([], []), ([], []), ([0, 1], [0])]) (H2 := [.box (((setAt ((setAt ((setAt ((setAt ((setAt ((setAt ((setAt s96.2.2 ((0 : Nat) + (IntKind.wrap .i64 (s96.2.1 - 1)) : Int) ((((k0_.getD ((IntKind.wrap .u32 (((IntKind.wrap .u32 (((Int.tmod ((Int.tmod (IntKind.wrap .u32 (Int.tmod s96.1 100000000)) 10000)) 100)) * 2))) + 1)) : Int).toNat 0).toNat : Nat) : Int)))) ((0 : Nat) + (IntKind.wrap .i64 (s96.2.1 - 2)) : Int) ((((k0_.getD ((IntKind.wrap .u32 (((Int.tmod ((Int.tmod (IntKind.wrap .u32 (Int.tmod s96.1 100000000)) 10000)) 100)) * 2)) : Int).toNat 0).toNat : Nat) : Int)))) ((0 : Nat) + (IntKind.wrap .i64 (s96.2.1 - 3)) : Int) ((((k0_.getD ((IntKind.wrap .u32 (((IntKind.wrap .u32 (((IntKind.wrap .u32 (Int.tdiv ((Int.tmod (IntKind.wrap .u32 (Int.tmod s96.1 100000000)) 10000)) 100))) * 2))) + 1)) : Int).toNat 0).toNat : Nat) : Int)))) ((0 : Nat) + (IntKind.wrap .i64 (s96.2.1 - 4)) : Int) ((((k0_.getD ((IntKind.wrap .u32 (((IntKind.wrap .u32 (Int.tdiv ((Int.tmod (IntKind.wrap .u32 (Int.tmod s96.1 100000000)) 10000)) 100))) * 2)) : Int).toNat 0).toNat : Nat) : Int)))) ((0 : Nat) + (IntKind.wrap .i64 (s96.2.1 - 5)) : Int) ((((k0_.getD ((IntKind.wrap .u32 (((IntKind.wrap .u32 (((Int.tmod ((IntKind.wrap .u32 (Int.tdiv (IntKind.wrap .u32 (Int.tmod s96.1 100000000)) 10000))) 100)) * 2))) + 1)) : Int).toNat 0).toNat : Nat) : Int)))) ((0 : Nat) + (IntKind.wrap .i64 (s96.2.1 - 6)) : Int) ((((k0_.getD ((IntKind.wrap .u32 (((Int.tmod ((IntKind.wrap .u32 (Int.tdiv (IntKind.wrap .u32 (Int.tmod s96.1 100000000)) 10000))) 100)) * 2)) : Int).toNat 0).toNat : Nat) : Int)))) ((0 : Nat) + (IntKind.wrap .i64 (s96.2.1 - 7)) : Int) ((((k0_.getD ((IntKind.wrap .u32 (((IntKind.wrap .u32 (((IntKind.wrap .u32 (Int.tdiv ((IntKind.wrap .u32 (Int.tdiv (IntKind.wrap .u32 (Int.tmod s96.1 100000000)) 10000))) 100))) * 2))) + 1)) : Int).toNat 0).toNat : Nat) : Int)))).flatMap (encI .u8))]) (by kernel_rfl) (storeB_ok (encI_len .u8) hm) (fun hc => N.storeB (o := 0) (encI_len .u8) hm) (by kernel_rfl) ?_
   obtain ⟨hm, h182⟩ := asrt h181
   refine RJ.rel (d := (some 93)) (ef := ⟨.ptr 0 (0 + ((IntKind.wrap .i64 (s96.2.1 - 8)) : Int).toNat * 1), [], []⟩) (ef' := ⟨.ptr 0 (0 + ((IntKind.wrap .i64 (s96.2.1 - 8)) : Int).toNat * 1), [], []⟩) (c := inR (IntKind.wrap .i64 (s96.2.1 - 8)) x0.toNat) (tr2 := [([], []), ([], []), ([], []), ([], []), ([], []), ([], []), ([], []), ([], []), ([], []), ([], []), ([], []), ([], []), ([0, 1], [0]), ([], [])]) (H2 := [.box (((setAt ((setAt ((setAt ((setAt ((setAt ((setAt ((setAt s96.2.2 ((0 : Nat) + (IntKind.wrap .i64 (s96.2.1 - 1)) : Int) ((((k0_.getD ((IntKind.wrap .u32 (((IntKind.wrap .u32 (((Int.tmod ((Int.tmod (IntKind.wrap .u32 (Int.tmod s96.1 100000000)) 10000)) 100)) * 2))) + 1)) : Int).toNat 0).toNat : Nat) : Int)))) ((0 : Nat) + (IntKind.wrap .i64 (s96.2.1 - 2)) : Int) ((((k0_.getD ((IntKind.wrap .u32 (((Int.tmod ((Int.tmod (IntKind.wrap .u32 (Int.tmod s96.1 100000000)) 10000)) 100)) * 2)) : Int).toNat 0).toNat : Nat) : Int)))) ((0 : Nat) + (IntKind.wrap .i64 (s96.2.1 - 3)) : Int) ((((k0_.getD ((IntKind.wrap .u32 (((IntKind.wrap .u32 (((IntKind.wrap .u32 (Int.tdiv ((Int.tmod (IntKind.wrap .u32 (Int.tmod s96.1 100000000)) 10000)) 100))) * 2))) + 1)) : Int).toNat 0).toNat : Nat) : Int)))) ((0 : Nat) + (IntKind.wrap .i64 (s96.2.1 - 4)) : Int) ((((k0_.getD ((IntKind.wrap .u32 (((IntKind.wrap .u32 (Int.tdiv ((Int.tmod (IntKind.wrap .u32 (Int.tmod s96.1 100000000)) 10000)) 100))) * 2)) : Int).toNat 0).toNat : Nat) : Int)))) ((0 : Nat) + (IntKind.wrap .i64 (s96.2.1 - 5)) : Int) ((((k0_.getD ((IntKind.wrap .u32 (((IntKind.wrap .u32 (((Int.tmod ((IntKind.wrap .u32 (Int.tdiv (IntKind.wrap .u32 (Int.tmod s96.1 100000000)) 10000))) 100)) * 2))) + 1)) : Int).toNat 0).toNat : Nat) : Int)))) ((0 : Nat) + (IntKind.wrap .i64 (s96.2.1 - 6)) : Int) ((((k0_.getD ((IntKind.wrap .u32 (((Int.tmod ((IntKind.wrap .u32 (Int.tdiv (IntKind.wrap .u32 (Int.tmod s96.1 100000000)) 10000))) 100)) * 2)) : Int).toNat 0).toNat : Nat) : Int)))) ((0 : Nat) + (IntKind.wrap .i64 (s96.2.1 - 7)) : Int) ((((k0_.getD ((IntKind.wrap .u32 (((IntKind.wrap .u32 (((IntKind.wrap .u32 (Int.tdiv ((IntKind.wrap .u32 (Int.tdiv (IntKind.wrap .u32 (Int.tmod s96.1 100000000)) 10000))) 100))) * 2))) + 1)) : Int).toNat 0).toNat : Nat) : Int)))).flatMap (encI .u8))]) (by kernel_rfl) hm (fun hc => rfl) (by kernel_rfl) ?_
   obtain ⟨hm, h183⟩ := asrt h182
   refine RJ.relS (d := none) (ef := ⟨.undef, [0], [(0, .box (splice (((setAt ((setAt ((setAt ((setAt ((setAt ((setAt ((setAt s96.2.2 ((0 : Nat) + (IntKind.wrap .i64 (s96.2.1 - 1)) : Int) ((((k0_.getD ((IntKind.wrap .u32 (((IntKind.wrap .u32 (((Int.tmod ((Int.tmod (IntKind.wrap .u32 (Int.tmod s96.1 100000000)) 10000)) 100)) * 2))) + 1)) : Int).toNat 0).toNat : Nat) : Int)))) ((0 : Nat) + (IntKind.wrap .i64 (s96.2.1 - 2)) : Int) ((((k0_.getD ((IntKind.wrap .u32 (((Int.tmod ((Int.tmod (IntKind.wrap .u32 (Int.tmod s96.1 100000000)) 10000)) 100)) * 2)) : Int).toNat 0).toNat : Nat) : Int)))) ((0 : Nat) + (IntKind.wrap .i64 (s96.2.1 - 3)) : Int) ((((k0_.getD ((IntKind.wrap .u32 (((IntKind.wrap .u32 (((IntKind.wrap .u32 (Int.tdiv ((Int.tmod (IntKind.wrap .u32 (Int.tmod s96.1 100000000)) 10000)) 100))) * 2))) + 1)) : Int).toNat 0).toNat : Nat) : Int)))) ((0 : Nat) + (IntKind.wrap .i64 (s96.2.1 - 4)) : Int) ((((k0_.getD ((IntKind.wrap .u32 (((IntKind.wrap .u32 (Int.tdiv ((Int.tmod (IntKind.wrap .u32 (Int.tmod s96.1 100000000)) 10000)) 100))) * 2)) : Int).toNat 0).toNat : Nat) : Int)))) ((0 : Nat) + (IntKind.wrap .i64 (s96.2.1 - 5)) : Int) ((((k0_.getD ((IntKind.wrap .u32 (((IntKind.wrap .u32 (((Int.tmod ((IntKind.wrap .u32 (Int.tdiv (IntKind.wrap .u32 (Int.tmod s96.1 100000000)) 10000))) 100)) * 2))) + 1)) : Int).toNat 0).toNat : Nat) : Int)))) ((0 : Nat) + (IntKind.wrap .i64 (s96.2.1 - 6)) : Int) ((((k0_.getD ((IntKind.wrap .u32 (((Int.tmod ((IntKind.wrap .u32 (Int.tdiv (IntKind.wrap .u32 (Int.tmod s96.1 100000000)) 10000))) 100)) * 2)) : Int).toNat 0).toNat : Nat) : Int)))) ((0 : Nat) + (IntKind.wrap .i64 (s96.2.1 - 7)) : Int) ((((k0_.getD ((IntKind.wrap .u32 (((IntKind.wrap .u32 (((IntKind.wrap .u32 (Int.tdiv ((IntKind.wrap .u32 (Int.tdiv (IntKind.wrap .u32 (Int.tmod s96.1 100000000)) 10000))) 100))) * 2))) + 1)) : Int).toNat 0).toNat : Nat) : Int)))).flatMap (encI .u8)) (0 * 1 + ((IntKind.wrap .i64 (s96.2.1 - 8)) : Int).toNat * 1) ((encI .u8) ((((k0_.getD ((IntKind.wrap .u32 (((IntKind.wrap .u32 (Int.tdiv ((IntKind.wrap .u32 (Int.tdiv (IntKind.wrap .u32 (Int.tmod s96.1 100000000)) 10000))) 100))) * 2)) : Int).toNat 0).toNat : Nat) : Int)))))]⟩) (ef' := ⟨.undef, [0], [(0, .box ((setAt ((setAt ((setAt ((setAt ((setAt ((setAt ((setAt ((setAt s96.2.2 ((0 : Nat) + (IntKind.wrap .i64 (s96.2.1 - 1)) : Int) ((((k0_.getD ((IntKind.wrap .u32 (((IntKind.wrap .u32 (((Int.tmod ((Int.tmod (IntKind.wrap .u32 (Int.tmod s96.1 100000000)) 10000)) 100)) * 2))) + 1)) : Int).toNat 0).toNat : Nat) : Int)))) ((0 : Nat) + (IntKind.wrap .i64 (s96.2.1 - 2)) : Int) ((((k0_.getD ((IntKind.wrap .u32 (((Int.tmod ((Int.tmod (IntKind.wrap .u32 (Int.tmod s96.1 100000000)) 10000)) 100)) * 2)) : Int).toNat 0).toNat : Nat) : Int)))) ((0 : Nat) + (IntKind.wrap .i64 (s96.2.1 - 3)) : Int) ((((k0_.getD ((IntKind.wrap .u32 (((IntKind.wrap .u32 (((IntKind.wrap .u32 (Int.tdiv ((Int.tmod (IntKind.wrap .u32 (Int.tmod s96.1 100000000)) 10000)) 100))) * 2))) + 1)) : Int).toNat 0).toNat : Nat) : Int)))) ((0 : Nat) + (IntKind.wrap .i64 (s96.2.1 - 4)) : Int) ((((k0_.getD ((IntKind.wrap .u32 (((IntKind.wrap .u32 (Int.tdiv ((Int.tmod (IntKind.wrap .u32 (Int.tmod s96.1 100000000)) 10000)) 100))) * 2)) : Int).toNat 0).toNat : Nat) : Int)))) ((0 : Nat) + (IntKind.wrap .i64 (s96.2.1 - 5)) : Int) ((((k0_.getD ((IntKind.wrap .u32 (((IntKind.wrap .u32 (((Int.tmod ((IntKind.wrap .u32 (Int.tdiv (IntKind.wrap .u32 (Int.tmod s96.1 100000000)) 10000))) 100)) * 2))) + 1)) : Int).toNat 0).toNat : Nat) : Int)))) ((0 : Nat) + (IntKind.wrap .i64 (s96.2.1 - 6)) : Int) ((((k0_.getD ((IntKind.wrap .u32 (((Int.tmod ((IntKind.wrap .u32 (Int.tdiv (IntKind.wrap .u32 (Int.tmod s96.1 100000000)) 10000))) 100)) * 2)) : Int).toNat 0).toNat : Nat) : Int)))) ((0 : Nat) + (IntKind.wrap .i64 (s96.2.1 - 7)) : Int) ((((k0_.getD ((IntKind.wrap .u32 (((IntKind.wrap .u32 (((IntKind.wrap .u32 (Int.tdiv ((IntKind.wrap .u32 (Int.tdiv (IntKind.wrap .u32 (Int.tmod s96.1 100000000)) 10000))) 100))) * 2))) + 1)) : Int).toNat 0).toNat : Nat) : Int)))) ((0 : Nat) + (IntKind.wrap .i64 (s96.2.1 - 8)) : Int) ((((k0_.getD ((IntKind.wrap .u32 (((IntKind.wrap .u32 (Int.tdiv ((IntKind.wrap .u32 (Int.tdiv (IntKind.wrap .u32 (Int.tmod s96.1 100000000)) 10000))) 100))) * 2)) : Int).toNat 0).toNat : Nat) : Int))).flatMap (encI .u8)))]⟩) (c := Nat.ble (0 * 1 + ((IntKind.wrap .i64 (s96.2.1 - 8)) : Int).toNat * 1 + ((encI .u8) ((((k0_.getD ((IntKind.wrap .u32 (((IntKind.wrap .u32 (Int.tdiv ((IntKind.wrap .u32 (Int.tdiv (IntKind.wrap .u32 (Int.tmod s96.1 100000000)) 10000))) 100))) * 2)) : Int).toNat 0).toNat : Nat) : Int))).length) (((setAt ((setAt ((setAt ((setAt ((setAt ((setAt ((setAt s96.2.2 ((0 : Nat) + (IntKind.wrap .i64 (s96.2.1 - 1)) : Int) ((((k0_.getD ((IntKind.wrap .u32 (((IntKind.wrap .u32 (((Int.tmod ((Int.tmod (IntKind.wrap .u32 (Int.tmod s96.1 100000000)) 10000)) 100)) * 2))) + 1)) : Int).toNat 0).toNat : Nat) : Int)))) ((0 : Nat) + (IntKind.wrap .i64 (s96.2.1 - 2)) : Int) ((((k0_.getD ((IntKind.wrap .u32 (((Int.tmod ((Int.tmod (IntKind.wrap .u32 (Int.tmod s96.1 100000000)) 10000)) 100)) * 2)) : Int).toNat 0).toNat : Nat) : Int)))) ((0 : Nat) + (IntKind.wrap .i64 (s96.2.1 - 3)) : Int) ((((k0_.getD ((IntKind.wrap .u32 (((IntKind.wrap .u32 (((IntKind.wrap .u32 (Int.tdiv ((Int.tmod (IntKind.wrap .u32 (Int.tmod s96.1 100000000)) 10000)) 100))) * 2))) + 1)) : Int).toNat 0).toNat : Nat) : Int)))) ((0 : Nat) + (IntKind.wrap .i64 (s96.2.1 - 4)) : Int) ((((k0_.getD ((IntKind.wrap .u32 (((IntKind.wrap .u32 (Int.tdiv ((Int.tmod (IntKind.wrap .u32 (Int.tmod s96.1 100000000)) 10000)) 100))) * 2)) : Int).toNat 0).toNat : Nat) : Int)))) ((0 : Nat) + (IntKind.wrap .i64 (s96.2.1 - 5)) : Int) ((((k0_.getD ((IntKind.wrap .u32 (((IntKind.wrap .u32 (((Int.tmod ((IntKind.wrap .u32 (Int.tdiv (IntKind.wrap .u32 (Int.tmod s96.1 100000000)) 10000))) 100)) * 2))) + 1)) : Int).toNat 0).toNat : Nat) : Int)))) ((0 : Nat) + (IntKind.wrap .i64 (s96.2.1 - 6)) : Int) ((((k0_.getD ((IntKind.wrap .u32 (((Int.tmod ((IntKind.wrap .u32 (Int.tdiv (IntKind.wrap .u32 (Int.tmod s96.1 100000000)) 10000))) 100)) * 2)) : Int).toNat 0).toNat : Nat) : Int)))) ((0 : Nat) + (IntKind.wrap .i64 (s96.2.1 - 7)) : Int) ((((k0_.getD ((IntKind.wrap .u32 (((IntKind.wrap .u32 (((IntKind.wrap .u32 (Int.tdiv ((IntKind.wrap .u32 (Int.tdiv (IntKind.wrap .u32 (Int.tmod s96.1 100000000)) 10000))) 100))) * 2))) + 1)) : Int).toNat 0).toNat : Nat) : Int)))).flatMap (encI .u8)).length) (tr2 := [([], []), ([], []), ([], []), ([], []), ([], []), ([], []), ([], []), ([], []), ([], []), ([], []), ([], []), ([], []), ([0, 1], [0]), ([], []), ([0, 1], [0])]) (H2 := [.box (((setAt ((setAt ((setAt ((setAt ((setAt ((setAt ((setAt ((setAt s96.2.2 ((0 : Nat) + (IntKind.wrap .i64 (s96.2.1 - 1)) : Int) ((((k0_.getD ((IntKind.wrap .u32 (((IntKind.wrap .u32 (((Int.tmod ((Int.tmod (IntKind.wrap .u32 (Int.tmod s96.1 100000000)) 10000)) 100)) * 2))) + 1)) : Int).toNat 0).toNat : Nat) : Int)))) ((0 : Nat) + (IntKind.wrap .i64 (s96.2.1 - 2)) : Int) ((((k0_.getD ((IntKind.wrap .u32 (((Int.tmod ((Int.tmod (IntKind.wrap .u32 (Int.tmod s96.1 100000000)) 10000)) 100)) * 2)) : Int).toNat 0).toNat : Nat) : Int)))) ((0 : Nat) + (IntKind.wrap .i64 (s96.2.1 - 3)) : Int) ((((k0_.getD ((IntKind.wrap .u32 (((IntKind.wrap .u32 (((IntKind.wrap .u32 (Int.tdiv ((Int.tmod (IntKind.wrap .u32 (Int.tmod s96.1 100000000)) 10000)) 100))) * 2))) + 1)) : Int).toNat 0).toNat : Nat) : Int)))) ((0 : Nat) + (IntKind.wrap .i64 (s96.2.1 - 4)) : Int) ((((k0_.getD ((IntKind.wrap .u32 (((IntKind.wrap .u32 (Int.tdiv ((Int.tmod (IntKind.wrap .u32 (Int.tmod s96.1 100000000)) 10000)) 100))) * 2)) : Int).toNat 0).toNat : Nat) : Int)))) ((0 : Nat) + (IntKind.wrap .i64 (s96.2.1 - 5)) : Int) ((((k0_.getD ((IntKind.wrap .u32 (((IntKind.wrap .u32 (((Int.tmod ((IntKind.wrap .u32 (Int.tdiv (IntKind.wrap .u32 (Int.tmod s96.1 100000000)) 10000))) 100)) * 2))) + 1)) : Int).toNat 0).toNat : Nat) : Int)))) ((0 : Nat) + (IntKind.wrap .i64 (s96.2.1 - 6)) : Int) ((((k0_.getD ((IntKind.wrap .u32 (((Int.tmod ((IntKind.wrap .u32 (Int.tdiv (IntKind.wrap .u32 (Int.tmod s96.1 100000000)) 10000))) 100)) * 2)) : Int).toNat 0).toNat : Nat) : Int)))) ((0 : Nat) + (IntKind.wrap .i64 (s96.2.1 - 7)) : Int) ((((k0_.getD ((IntKind.wrap .u32 (((IntKind.wrap .u32 (((IntKind.wrap .u32 (Int.tdiv ((IntKind.wrap .u32 (Int.tdiv (IntKind.wrap .u32 (Int.tmod s96.1 100000000)) 10000))) 100))) * 2))) + 1)) : Int).toNat 0).toNat : Nat) : Int)))) ((0 : Nat) + (IntKind.wrap .i64 (s96.2.1 - 8)) : Int) ((((k0_.getD ((IntKind.wrap .u32 (((IntKind.wrap .u32 (Int.tdiv ((IntKind.wrap .u32 (Int.tdiv (IntKind.wrap .u32 (Int.tmod s96.1 100000000)) 10000))) 100))) * 2)) : Int).toNat 0).toNat : Nat) : Int)))).flatMap (encI .u8))]) (by kernel_rfl) (storeB_ok (encI_len .u8) hm) (fun hc => N.storeB (o := 0) (encI_len .u8) hm) (by kernel_rfl) ?_
   refine kEN ?_
   refine kR ?_
   refine kC 3 [0,1,4] ?_
   refine kE ?_
   refine PJ.blockNormal ?_
   obtain rfl := oi h183
   exact PJ.loopNext [0, 1, 4] (by kernel_rfl) (by kernel_rfl)
  ·have h159 := condF hb157 hs155
   refine kF ?_
   refine K.exit 0 (by kernel_rfl) ?_
   refine PJ.passExit ?_
   obtain rfl := oi h159
   refine PJ.loopOut (fun e => nomatch e) (fun he185 => ?_)
   have h184 := congrArg some he185
   refine PJ.blockOut ?_
   obtain rfl := oi h184
   exact kN [0, 1, 4]
 ·refine kSR ?_
  refine kC 3 [0,4,12] ?_
  refine kEN ?_
  obtain ⟨s201, hy203, h205⟩ := bindS h95
  refine K.cutN (by kernel_rfl) (fun (s201 : Int × Int × (List Int)) => ([(0, .sl 0 0 x0.toNat 1), (4, .int .i64 s201.1), (12, .int .u32 s201.2.1)], [.box (s201.2.2.flatMap (encI .u8))])) s201 ?_ ?_
  ·refine kSR ?_
   refine kC 2 [0,4,12,99] ?_
   refine kEN ?_
   refine J.caseB 99 (b := (decide (s91.2.1 ≥ 4))) (by kernel_rfl) (fun hb206 => ?_) (fun hb206 => ?_)
   ·have h207 := condT hb206 hy203
    refine kT ?_
    refine kSR ?_
    refine kC 3 [0,4,12,13] ?_
    refine kEN ?_
    refine kSR ?_
    refine RJ.seg 3 [0, 4, 12, 13] (L2 := [(0, .sl 0 0 x0.toNat 1), (4, .int .i64 s91.2.1), (12, .int .u32 ((IntKind.wrap .u32 (Int.tdiv (IntKind.wrap .u32 s91.1) 10000)))), (13, .int .u32 (Int.tmod (IntKind.wrap .u32 s91.1) 10000))]) (H2 := [.box (s91.2.2.flatMap (encI .u8))]) (by kernel_rfl) ?_
    refine kEN ?_
    refine kSR ?_
    refine kC 8 [0,4,12,14,15] ?_
    refine kEN ?_
    refine kS ?_
    refine J.keep [0, 4, 12, 14, 15] (L2 := [(0, .sl 0 0 x0.toNat 1), (4, .int .i64 s91.2.1), (12, .int .u32 ((IntKind.wrap .u32 (Int.tdiv (IntKind.wrap .u32 s91.1) 10000)))), (14, .int .u32 ((IntKind.wrap .u32 (((IntKind.wrap .u32 (Int.tdiv (Int.tmod (IntKind.wrap .u32 s91.1) 10000) 100))) * 2)))), (15, .int .u32 ((IntKind.wrap .u32 (((Int.tmod (Int.tmod (IntKind.wrap .u32 s91.1) 10000) 100)) * 2))))]) (by kernel_rfl) ?_
    refine K.draw (by kernel_rfl) (by kernel_rfl) (by kernel_rfl) (H2 := [.box (s91.2.2.flatMap (encI .u8))]) (by kernel_rfl) (n := 1) (by kernel_rfl) ?_
    refine kD 8 ?_
    obtain ⟨hm, h209⟩ := asrt h207
    refine RJ.rel (d := (some 118)) (ef := ⟨.int .u8 (((k0_.getD ((IntKind.wrap .u32 (((IntKind.wrap .u32 (((Int.tmod (Int.tmod (IntKind.wrap .u32 s91.1) 10000) 100)) * 2))) + 1)) : Int).toNat 0).toNat : Nat) : Int), [], []⟩) (ef' := ⟨.int .u8 (((k0_.getD ((IntKind.wrap .u32 (((IntKind.wrap .u32 (((Int.tmod (Int.tmod (IntKind.wrap .u32 s91.1) 10000) 100)) * 2))) + 1)) : Int).toNat 0).toNat : Nat) : Int), [], []⟩) (c := inR ((IntKind.wrap .u32 (((IntKind.wrap .u32 (((Int.tmod (Int.tmod (IntKind.wrap .u32 s91.1) 10000) 100)) * 2))) + 1))) k0_.length) (tr2 := [([], []), ([], []), ([], []), ([], []), ([], []), ([], []), ([], []), ([], []), ([], [])]) (H2 := [.box (s91.2.2.flatMap (encI .u8))]) (by kernel_rfl) hm (fun hc => rfl) (by kernel_rfl) ?_
    refine kD 1 ?_
    obtain ⟨hm, h210⟩ := asrt h209
    refine RJ.rel (d := (some 120)) (ef := ⟨.int .u8 (((k0_.getD ((IntKind.wrap .u32 (((Int.tmod (Int.tmod (IntKind.wrap .u32 s91.1) 10000) 100)) * 2)) : Int).toNat 0).toNat : Nat) : Int), [], []⟩) (ef' := ⟨.int .u8 (((k0_.getD ((IntKind.wrap .u32 (((Int.tmod (Int.tmod (IntKind.wrap .u32 s91.1) 10000) 100)) * 2)) : Int).toNat 0).toNat : Nat) : Int), [], []⟩) (c := inR ((IntKind.wrap .u32 (((Int.tmod (Int.tmod (IntKind.wrap .u32 s91.1) 10000) 100)) * 2))) k0_.length) (tr2 := [([], []), ([], []), ([], []), ([], []), ([], []), ([], []), ([], []), ([], []), ([], []), ([], []), ([], [])]) (H2 := [.box (s91.2.2.flatMap (encI .u8))]) (by kernel_rfl) hm (fun hc => rfl) (by kernel_rfl) ?_
    obtain ⟨hm, h211⟩ := asrt h210
    refine RJ.rel (d := (some 121)) (ef := ⟨.ptr 0 (0 + ((IntKind.wrap .i64 (s91.2.1 - 1)) : Int).toNat * 1), [], []⟩) (ef' := ⟨.ptr 0 (0 + ((IntKind.wrap .i64 (s91.2.1 - 1)) : Int).toNat * 1), [], []⟩) (c := inR (IntKind.wrap .i64 (s91.2.1 - 1)) x0.toNat) (tr2 := [([], []), ([], []), ([], []), ([], []), ([], []), ([], []), ([], []), ([], []), ([], []), ([], []), ([], []), ([], [])]) (H2 := [.box (s91.2.2.flatMap (encI .u8))]) (by kernel_rfl) hm (fun hc => rfl) (by kernel_rfl) ?_
    obtain ⟨hm, h212⟩ := asrt h211
    refine RJ.relS (d := none) (ef := ⟨.undef, [0], [(0, .box (splice (s91.2.2.flatMap (encI .u8)) (0 * 1 + ((IntKind.wrap .i64 (s91.2.1 - 1)) : Int).toNat * 1) ((encI .u8) ((((k0_.getD ((IntKind.wrap .u32 (((IntKind.wrap .u32 (((Int.tmod (Int.tmod (IntKind.wrap .u32 s91.1) 10000) 100)) * 2))) + 1)) : Int).toNat 0).toNat : Nat) : Int)))))]⟩) (ef' := ⟨.undef, [0], [(0, .box ((setAt s91.2.2 ((0 : Nat) + (IntKind.wrap .i64 (s91.2.1 - 1)) : Int) ((((k0_.getD ((IntKind.wrap .u32 (((IntKind.wrap .u32 (((Int.tmod (Int.tmod (IntKind.wrap .u32 s91.1) 10000) 100)) * 2))) + 1)) : Int).toNat 0).toNat : Nat) : Int))).flatMap (encI .u8)))]⟩) (c := Nat.ble (0 * 1 + ((IntKind.wrap .i64 (s91.2.1 - 1)) : Int).toNat * 1 + ((encI .u8) ((((k0_.getD ((IntKind.wrap .u32 (((IntKind.wrap .u32 (((Int.tmod (Int.tmod (IntKind.wrap .u32 s91.1) 10000) 100)) * 2))) + 1)) : Int).toNat 0).toNat : Nat) : Int))).length) (s91.2.2.flatMap (encI .u8)).length) (tr2 := [([], []), ([], []), ([], []), ([], []), ([], []), ([], []), ([], []), ([], []), ([], []), ([], []), ([], []), ([], []), ([0, 1], [0])]) (H2 := [.box (((setAt s91.2.2 ((0 : Nat) + (IntKind.wrap .i64 (s91.2.1 - 1)) : Int) ((((k0_.getD ((IntKind.wrap .u32 (((IntKind.wrap .u32 (((Int.tmod (Int.tmod (IntKind.wrap .u32 s91.1) 10000) 100)) * 2))) + 1)) : Int).toNat 0).toNat : Nat) : Int)))).flatMap (encI .u8))]) (by kernel_rfl) (storeB_ok (encI_len .u8) hm) (fun hc => N.storeB (o := 0) (encI_len .u8) hm) (by kernel_rfl) ?_
    obtain ⟨hm, h213⟩ := asrt h212
    refine RJ.rel (d := (some 122)) (ef := ⟨.ptr 0 (0 + ((IntKind.wrap .i64 (s91.2.1 - 2)) : Int).toNat * 1), [], []⟩) (ef' := ⟨.ptr 0 (0 + ((IntKind.wrap .i64 (s91.2.1 - 2)) : Int).toNat * 1), [], []⟩) (c := inR (IntKind.wrap .i64 (s91.2.1 - 2)) x0.toNat) (tr2 := [([], []), ([], []), ([], []), ([], []), ([], []), ([], []), ([], []), ([], []), ([], []), ([], []), ([], []), ([], []), ([0, 1], [0]), ([], [])]) (H2 := [.box (((setAt s91.2.2 ((0 : Nat) + (IntKind.wrap .i64 (s91.2.1 - 1)) : Int) ((((k0_.getD ((IntKind.wrap .u32 (((IntKind.wrap .u32 (((Int.tmod (Int.tmod (IntKind.wrap .u32 s91.1) 10000) 100)) * 2))) + 1)) : Int).toNat 0).toNat : Nat) : Int)))).flatMap (encI .u8))]) (by kernel_rfl) hm (fun hc => rfl) (by kernel_rfl) ?_
    obtain ⟨hm, h214⟩ := asrt h213
    refine RJ.relS (d := none) (ef := ⟨.undef, [0], [(0, .box (splice (((setAt s91.2.2 ((0 : Nat) + (IntKind.wrap .i64 (s91.2.1 - 1)) : Int) ((((k0_.getD ((IntKind.wrap .u32 (((IntKind.wrap .u32 (((Int.tmod (Int.tmod (IntKind.wrap .u32 s91.1) 10000) 100)) * 2))) + 1)) : Int).toNat 0).toNat : Nat) : Int)))).flatMap (encI .u8)) (0 * 1 + ((IntKind.wrap .i64 (s91.2.1 - 2)) : Int).toNat * 1) ((encI .u8) ((((k0_.getD ((IntKind.wrap .u32 (((Int.tmod (Int.tmod (IntKind.wrap .u32 s91.1) 10000) 100)) * 2)) : Int).toNat 0).toNat : Nat) : Int)))))]⟩) (ef' := ⟨.undef, [0], [(0, .box ((setAt ((setAt s91.2.2 ((0 : Nat) + (IntKind.wrap .i64 (s91.2.1 - 1)) : Int) ((((k0_.getD ((IntKind.wrap .u32 (((IntKind.wrap .u32 (((Int.tmod (Int.tmod (IntKind.wrap .u32 s91.1) 10000) 100)) * 2))) + 1)) : Int).toNat 0).toNat : Nat) : Int)))) ((0 : Nat) + (IntKind.wrap .i64 (s91.2.1 - 2)) : Int) ((((k0_.getD ((IntKind.wrap .u32 (((Int.tmod (Int.tmod (IntKind.wrap .u32 s91.1) 10000) 100)) * 2)) : Int).toNat 0).toNat : Nat) : Int))).flatMap (encI .u8)))]⟩) (c := Nat.ble (0 * 1 + ((IntKind.wrap .i64 (s91.2.1 - 2)) : Int).toNat * 1 + ((encI .u8) ((((k0_.getD ((IntKind.wrap .u32 (((Int.tmod (Int.tmod (IntKind.wrap .u32 s91.1) 10000) 100)) * 2)) : Int).toNat 0).toNat : Nat) : Int))).length) (((setAt s91.2.2 ((0 : Nat) + (IntKind.wrap .i64 (s91.2.1 - 1)) : Int) ((((k0_.getD ((IntKind.wrap .u32 (((IntKind.wrap .u32 (((Int.tmod (Int.tmod (IntKind.wrap .u32 s91.1) 10000) 100)) * 2))) + 1)) : Int).toNat 0).toNat : Nat) : Int)))).flatMap (encI .u8)).length) (tr2 := [([], []), ([], []), ([], []), ([], []), ([], []), ([], []), ([], []), ([], []), ([], []), ([], []), ([], []), ([], []), ([0, 1], [0]), ([], []), ([0, 1], [0])]) (H2 := [.box (((setAt ((setAt s91.2.2 ((0 : Nat) + (IntKind.wrap .i64 (s91.2.1 - 1)) : Int) ((((k0_.getD ((IntKind.wrap .u32 (((IntKind.wrap .u32 (((Int.tmod (Int.tmod (IntKind.wrap .u32 s91.1) 10000) 100)) * 2))) + 1)) : Int).toNat 0).toNat : Nat) : Int)))) ((0 : Nat) + (IntKind.wrap .i64 (s91.2.1 - 2)) : Int) ((((k0_.getD ((IntKind.wrap .u32 (((Int.tmod (Int.tmod (IntKind.wrap .u32 s91.1) 10000) 100)) * 2)) : Int).toNat 0).toNat : Nat) : Int)))).flatMap (encI .u8))]) (by kernel_rfl) (storeB_ok (encI_len .u8) hm) (fun hc => N.storeB (o := 0) (encI_len .u8) hm) (by kernel_rfl) ?_
    refine kEN ?_
    refine kS ?_
    refine J.keep [0, 4, 12, 14] (L2 := [(0, .sl 0 0 x0.toNat 1), (4, .int .i64 s91.2.1), (12, .int .u32 ((IntKind.wrap .u32 (Int.tdiv (IntKind.wrap .u32 s91.1) 10000)))), (14, .int .u32 ((IntKind.wrap .u32 (((IntKind.wrap .u32 (Int.tdiv (Int.tmod (IntKind.wrap .u32 s91.1) 10000) 100))) * 2))))]) (by kernel_rfl) ?_
    refine K.draw (by kernel_rfl) (by kernel_rfl) (by kernel_rfl) (H2 := [.box (((setAt ((setAt s91.2.2 ((0 : Nat) + (IntKind.wrap .i64 (s91.2.1 - 1)) : Int) ((((k0_.getD ((IntKind.wrap .u32 (((IntKind.wrap .u32 (((Int.tmod (Int.tmod (IntKind.wrap .u32 s91.1) 10000) 100)) * 2))) + 1)) : Int).toNat 0).toNat : Nat) : Int)))) ((0 : Nat) + (IntKind.wrap .i64 (s91.2.1 - 2)) : Int) ((((k0_.getD ((IntKind.wrap .u32 (((Int.tmod (Int.tmod (IntKind.wrap .u32 s91.1) 10000) 100)) * 2)) : Int).toNat 0).toNat : Nat) : Int)))).flatMap (encI .u8))]) (by kernel_rfl) (n := 1) (by kernel_rfl) ?_
    refine RJ.segD 8 (tr2 := [([], []), ([], []), ([], []), ([], []), ([], []), ([], []), ([], []), ([], [])]) (L2 := [(130, .int .u32 ((IntKind.wrap .u32 (((IntKind.wrap .u32 (((IntKind.wrap .u32 (Int.tdiv (Int.tmod (IntKind.wrap .u32 s91.1) 10000) 100))) * 2))) + 1)))), (129, .int .u32 ((IntKind.wrap .u32 (((IntKind.wrap .u32 (Int.tdiv (Int.tmod (IntKind.wrap .u32 s91.1) 10000) 100))) * 2)))), (128, .int .i64 (IntKind.wrap .i64 (s91.2.1 - 4))), (127, .int .i64 s91.2.1), (126, .sl 0 0 x0.toNat 1), (125, .int .i64 (IntKind.wrap .i64 (s91.2.1 - 3))), (124, .int .i64 s91.2.1), (123, .sl 0 0 x0.toNat 1), (0, .sl 0 0 x0.toNat 1), (4, .int .i64 s91.2.1), (12, .int .u32 ((IntKind.wrap .u32 (Int.tdiv (IntKind.wrap .u32 s91.1) 10000)))), (14, .int .u32 ((IntKind.wrap .u32 (((IntKind.wrap .u32 (Int.tdiv (Int.tmod (IntKind.wrap .u32 s91.1) 10000) 100))) * 2))))]) (H2 := [.box (((setAt ((setAt s91.2.2 ((0 : Nat) + (IntKind.wrap .i64 (s91.2.1 - 1)) : Int) ((((k0_.getD ((IntKind.wrap .u32 (((IntKind.wrap .u32 (((Int.tmod (Int.tmod (IntKind.wrap .u32 s91.1) 10000) 100)) * 2))) + 1)) : Int).toNat 0).toNat : Nat) : Int)))) ((0 : Nat) + (IntKind.wrap .i64 (s91.2.1 - 2)) : Int) ((((k0_.getD ((IntKind.wrap .u32 (((Int.tmod (Int.tmod (IntKind.wrap .u32 s91.1) 10000) 100)) * 2)) : Int).toNat 0).toNat : Nat) : Int)))).flatMap (encI .u8))]) (by kernel_rfl) ?_
    obtain ⟨hm, h215⟩ := asrt h214
    refine RJ.rel (d := (some 131)) (ef := ⟨.int .u8 (((k0_.getD ((IntKind.wrap .u32 (((IntKind.wrap .u32 (((IntKind.wrap .u32 (Int.tdiv (Int.tmod (IntKind.wrap .u32 s91.1) 10000) 100))) * 2))) + 1)) : Int).toNat 0).toNat : Nat) : Int), [], []⟩) (ef' := ⟨.int .u8 (((k0_.getD ((IntKind.wrap .u32 (((IntKind.wrap .u32 (((IntKind.wrap .u32 (Int.tdiv (Int.tmod (IntKind.wrap .u32 s91.1) 10000) 100))) * 2))) + 1)) : Int).toNat 0).toNat : Nat) : Int), [], []⟩) (c := inR ((IntKind.wrap .u32 (((IntKind.wrap .u32 (((IntKind.wrap .u32 (Int.tdiv (Int.tmod (IntKind.wrap .u32 s91.1) 10000) 100))) * 2))) + 1))) k0_.length) (tr2 := [([], []), ([], []), ([], []), ([], []), ([], []), ([], []), ([], []), ([], []), ([], [])]) (H2 := [.box (((setAt ((setAt s91.2.2 ((0 : Nat) + (IntKind.wrap .i64 (s91.2.1 - 1)) : Int) ((((k0_.getD ((IntKind.wrap .u32 (((IntKind.wrap .u32 (((Int.tmod (Int.tmod (IntKind.wrap .u32 s91.1) 10000) 100)) * 2))) + 1)) : Int).toNat 0).toNat : Nat) : Int)))) ((0 : Nat) + (IntKind.wrap .i64 (s91.2.1 - 2)) : Int) ((((k0_.getD ((IntKind.wrap .u32 (((Int.tmod (Int.tmod (IntKind.wrap .u32 s91.1) 10000) 100)) * 2)) : Int).toNat 0).toNat : Nat) : Int)))).flatMap (encI .u8))]) (by kernel_rfl) hm (fun hc => rfl) (by kernel_rfl) ?_
    refine kD 1 ?_
    obtain ⟨hm, h216⟩ := asrt h215
    refine RJ.rel (d := (some 133)) (ef := ⟨.int .u8 (((k0_.getD ((IntKind.wrap .u32 (((IntKind.wrap .u32 (Int.tdiv (Int.tmod (IntKind.wrap .u32 s91.1) 10000) 100))) * 2)) : Int).toNat 0).toNat : Nat) : Int), [], []⟩) (ef' := ⟨.int .u8 (((k0_.getD ((IntKind.wrap .u32 (((IntKind.wrap .u32 (Int.tdiv (Int.tmod (IntKind.wrap .u32 s91.1) 10000) 100))) * 2)) : Int).toNat 0).toNat : Nat) : Int), [], []⟩) (c := inR ((IntKind.wrap .u32 (((IntKind.wrap .u32 (Int.tdiv (Int.tmod (IntKind.wrap .u32 s91.1) 10000) 100))) * 2))) k0_.length) (tr2 := [([], []), ([], []), ([], []), ([], []), ([], []), ([], []), ([], []), ([], []), ([], []), ([], []), ([], [])]) (H2 := [.box (((setAt ((setAt s91.2.2 ((0 : Nat) + (IntKind.wrap .i64 (s91.2.1 - 1)) : Int) ((((k0_.getD ((IntKind.wrap .u32 (((IntKind.wrap .u32 (((Int.tmod (Int.tmod (IntKind.wrap .u32 s91.1) 10000) 100)) * 2))) + 1)) : Int).toNat 0).toNat : Nat) : Int)))) ((0 : Nat) + (IntKind.wrap .i64 (s91.2.1 - 2)) : Int) ((((k0_.getD ((IntKind.wrap .u32 (((Int.tmod (Int.tmod (IntKind.wrap .u32 s91.1) 10000) 100)) * 2)) : Int).toNat 0).toNat : Nat) : Int)))).flatMap (encI .u8))]) (by kernel_rfl) hm (fun hc => rfl) (by kernel_rfl) ?_
    obtain ⟨hm, h217⟩ := asrt h216
    refine RJ.rel (d := (some 134)) (ef := ⟨.ptr 0 (0 + ((IntKind.wrap .i64 (s91.2.1 - 3)) : Int).toNat * 1), [], []⟩) (ef' := ⟨.ptr 0 (0 + ((IntKind.wrap .i64 (s91.2.1 - 3)) : Int).toNat * 1), [], []⟩) (c := inR (IntKind.wrap .i64 (s91.2.1 - 3)) x0.toNat) (tr2 := [([], []), ([], []), ([], []), ([], []), ([], []), ([], []), ([], []), ([], []), ([], []), ([], []), ([], []), ([], [])]) (H2 := [.box (((setAt ((setAt s91.2.2 ((0 : Nat) + (IntKind.wrap .i64 (s91.2.1 - 1)) : Int) ((((k0_.getD ((IntKind.wrap .u32 (((IntKind.wrap .u32 (((Int.tmod (Int.tmod (IntKind.wrap .u32 s91.1) 10000) 100)) * 2))) + 1)) : Int).toNat 0).toNat : Nat) : Int)))) ((0 : Nat) + (IntKind.wrap .i64 (s91.2.1 - 2)) : Int) ((((k0_.getD ((IntKind.wrap .u32 (((Int.tmod (Int.tmod (IntKind.wrap .u32 s91.1) 10000) 100)) * 2)) : Int).toNat 0).toNat : Nat) : Int)))).flatMap (encI .u8))]) (by kernel_rfl) hm (fun hc => rfl) (by kernel_rfl) ?_
    obtain ⟨hm, h218⟩ := asrt h217
    refine RJ.relS (d := none) (ef := ⟨.undef, [0], [(0, .box (splice (((setAt ((setAt s91.2.2 ((0 : Nat) + (IntKind.wrap .i64 (s91.2.1 - 1)) : Int) ((((k0_.getD ((IntKind.wrap .u32 (((IntKind.wrap .u32 (((Int.tmod (Int.tmod (IntKind.wrap .u32 s91.1) 10000) 100)) * 2))) + 1)) : Int).toNat 0).toNat : Nat) : Int)))) ((0 : Nat) + (IntKind.wrap .i64 (s91.2.1 - 2)) : Int) ((((k0_.getD ((IntKind.wrap .u32 (((Int.tmod (Int.tmod (IntKind.wrap .u32 s91.1) 10000) 100)) * 2)) : Int).toNat 0).toNat : Nat) : Int)))).flatMap (encI .u8)) (0 * 1 + ((IntKind.wrap .i64 (s91.2.1 - 3)) : Int).toNat * 1) ((encI .u8) ((((k0_.getD ((IntKind.wrap .u32 (((IntKind.wrap .u32 (((IntKind.wrap .u32 (Int.tdiv (Int.tmod (IntKind.wrap .u32 s91.1) 10000) 100))) * 2))) + 1)) : Int).toNat 0).toNat : Nat) : Int)))))]⟩) (ef' := ⟨.undef, [0], [(0, .box ((setAt ((setAt ((setAt s91.2.2 ((0 : Nat) + (IntKind.wrap .i64 (s91.2.1 - 1)) : Int) ((((k0_.getD ((IntKind.wrap .u32 (((IntKind.wrap .u32 (((Int.tmod (Int.tmod (IntKind.wrap .u32 s91.1) 10000) 100)) * 2))) + 1)) : Int).toNat 0).toNat : Nat) : Int)))) ((0 : Nat) + (IntKind.wrap .i64 (s91.2.1 - 2)) : Int) ((((k0_.getD ((IntKind.wrap .u32 (((Int.tmod (Int.tmod (IntKind.wrap .u32 s91.1) 10000) 100)) * 2)) : Int).toNat 0).toNat : Nat) : Int)))) ((0 : Nat) + (IntKind.wrap .i64 (s91.2.1 - 3)) : Int) ((((k0_.getD ((IntKind.wrap .u32 (((IntKind.wrap .u32 (((IntKind.wrap .u32 (Int.tdiv (Int.tmod (IntKind.wrap .u32 s91.1) 10000) 100))) * 2))) + 1)) : Int).toNat 0).toNat : Nat) : Int))).flatMap (encI .u8)))]⟩) (c := Nat.ble (0 * 1 + ((IntKind.wrap .i64 (s91.2.1 - 3)) : Int).toNat * 1 + ((encI .u8) ((((k0_.getD ((IntKind.wrap .u32 (((IntKind.wrap .u32 (((IntKind.wrap .u32 (Int.tdiv (Int.tmod (IntKind.wrap .u32 s91.1) 10000) 100))) * 2))) + 1)) : Int).toNat 0).toNat : Nat) : Int))).length) (((setAt ((setAt s91.2.2 ((0 : Nat) + (IntKind.wrap .i64 (s91.2.1 - 1)) : Int) ((((k0_.getD ((IntKind.wrap .u32 (((IntKind.wrap .u32 (((Int.tmod (Int.tmod (IntKind.wrap .u32 s91.1) 10000) 100)) * 2))) + 1)) : Int).toNat 0).toNat : Nat) : Int)))) ((0 : Nat) + (IntKind.wrap .i64 (s91.2.1 - 2)) : Int) ((((k0_.getD ((IntKind.wrap .u32 (((Int.tmod (Int.tmod (IntKind.wrap .u32 s91.1) 10000) 100)) * 2)) : Int).toNat 0).toNat : Nat) : Int)))).flatMap (encI .u8)).length) (tr2 := [([], []), ([], []), ([], []), ([], []), ([], []), ([], []), ([], []), ([], []), ([], []), ([], []), ([], []), ([], []), ([0, 1], [0])]) (H2 := [.box (((setAt ((setAt ((setAt s91.2.2 ((0 : Nat) + (IntKind.wrap .i64 (s91.2.1 - 1)) : Int) ((((k0_.getD ((IntKind.wrap .u32 (((IntKind.wrap .u32 (((Int.tmod (Int.tmod (IntKind.wrap .u32 s91.1) 10000) 100)) * 2))) + 1)) : Int).toNat 0).toNat : Nat) : Int)))) ((0 : Nat) + (IntKind.wrap .i64 (s91.2.1 - 2)) : Int) ((((k0_.getD ((IntKind.wrap .u32 (((Int.tmod (Int.tmod (IntKind.wrap .u32 s91.1) 10000) 100)) * 2)) : Int).toNat 0).toNat : Nat) : Int)))) ((0 : Nat) + (IntKind.wrap .i64 (s91.2.1 - 3)) : Int) ((((k0_.getD ((IntKind.wrap .u32 (((IntKind.wrap .u32 (((IntKind.wrap .u32 (Int.tdiv (Int.tmod (IntKind.wrap .u32 s91.1) 10000) 100))) * 2))) + 1)) : Int).toNat 0).toNat : Nat) : Int)))).flatMap (encI .u8))]) (by kernel_rfl) (storeB_ok (encI_len .u8) hm) (fun hc => N.storeB (o := 0) (encI_len .u8) hm) (by kernel_rfl) ?_
    obtain ⟨hm, h219⟩ := asrt h218
    refine RJ.rel (d := (some 135)) (ef := ⟨.ptr 0 (0 + ((IntKind.wrap .i64 (s91.2.1 - 4)) : Int).toNat * 1), [], []⟩) (ef' := ⟨.ptr 0 (0 + ((IntKind.wrap .i64 (s91.2.1 - 4)) : Int).toNat * 1), [], []⟩) (c := inR (IntKind.wrap .i64 (s91.2.1 - 4)) x0.toNat) (tr2 := [([], []), ([], []), ([], []), ([], []), ([], []), ([], []), ([], []), ([], []), ([], []), ([], []), ([], []), ([], []), ([0, 1], [0]), ([], [])]) (H2 := [.box (((setAt ((setAt ((setAt s91.2.2 ((0 : Nat) + (IntKind.wrap .i64 (s91.2.1 - 1)) : Int) ((((k0_.getD ((IntKind.wrap .u32 (((IntKind.wrap .u32 (((Int.tmod (Int.tmod (IntKind.wrap .u32 s91.1) 10000) 100)) * 2))) + 1)) : Int).toNat 0).toNat : Nat) : Int)))) ((0 : Nat) + (IntKind.wrap .i64 (s91.2.1 - 2)) : Int) ((((k0_.getD ((IntKind.wrap .u32 (((Int.tmod (Int.tmod (IntKind.wrap .u32 s91.1) 10000) 100)) * 2)) : Int).toNat 0).toNat : Nat) : Int)))) ((0 : Nat) + (IntKind.wrap .i64 (s91.2.1 - 3)) : Int) ((((k0_.getD ((IntKind.wrap .u32 (((IntKind.wrap .u32 (((IntKind.wrap .u32 (Int.tdiv (Int.tmod (IntKind.wrap .u32 s91.1) 10000) 100))) * 2))) + 1)) : Int).toNat 0).toNat : Nat) : Int)))).flatMap (encI .u8))]) (by kernel_rfl) hm (fun hc => rfl) (by kernel_rfl) ?_
    obtain ⟨hm, h220⟩ := asrt h219
    refine RJ.relS (d := none) (ef := ⟨.undef, [0], [(0, .box (splice (((setAt ((setAt ((setAt s91.2.2 ((0 : Nat) + (IntKind.wrap .i64 (s91.2.1 - 1)) : Int) ((((k0_.getD ((IntKind.wrap .u32 (((IntKind.wrap .u32 (((Int.tmod (Int.tmod (IntKind.wrap .u32 s91.1) 10000) 100)) * 2))) + 1)) : Int).toNat 0).toNat : Nat) : Int)))) ((0 : Nat) + (IntKind.wrap .i64 (s91.2.1 - 2)) : Int) ((((k0_.getD ((IntKind.wrap .u32 (((Int.tmod (Int.tmod (IntKind.wrap .u32 s91.1) 10000) 100)) * 2)) : Int).toNat 0).toNat : Nat) : Int)))) ((0 : Nat) + (IntKind.wrap .i64 (s91.2.1 - 3)) : Int) ((((k0_.getD ((IntKind.wrap .u32 (((IntKind.wrap .u32 (((IntKind.wrap .u32 (Int.tdiv (Int.tmod (IntKind.wrap .u32 s91.1) 10000) 100))) * 2))) + 1)) : Int).toNat 0).toNat : Nat) : Int)))).flatMap (encI .u8)) (0 * 1 + ((IntKind.wrap .i64 (s91.2.1 - 4)) : Int).toNat * 1) ((encI .u8) ((((k0_.getD ((IntKind.wrap .u32 (((IntKind.wrap .u32 (Int.tdiv (Int.tmod (IntKind.wrap .u32 s91.1) 10000) 100))) * 2)) : Int).toNat 0).toNat : Nat) : Int)))))]⟩) (ef' := ⟨.undef, [0], [(0, .box ((setAt ((setAt ((setAt ((setAt s91.2.2 ((0 : Nat) + (IntKind.wrap .i64 (s91.2.1 - 1)) : Int) ((((k0_.getD ((IntKind.wrap .u32 (((IntKind.wrap .u32 (((Int.tmod (Int.tmod (IntKind.wrap .u32 s91.1) 10000) 100)) * 2))) + 1)) : Int).toNat 0).toNat : Nat) : Int)))) ((0 : Nat) + (IntKind.wrap .i64 (s91.2.1 - 2)) : Int) ((((k0_.getD ((IntKind.wrap .u32 (((Int.tmod (Int.tmod (IntKind.wrap .u32 s91.1) 10000) 100)) * 2)) : Int).toNat 0).toNat : Nat) : Int)))) ((0 : Nat) + (IntKind.wrap .i64 (s91.2.1 - 3)) : Int) ((((k0_.getD ((IntKind.wrap .u32 (((IntKind.wrap .u32 (((IntKind.wrap .u32 (Int.tdiv (Int.tmod (IntKind.wrap .u32 s91.1) 10000) 100))) * 2))) + 1)) : Int).toNat 0).toNat : Nat) : Int)))) ((0 : Nat) + (IntKind.wrap .i64 (s91.2.1 - 4)) : Int) ((((k0_.getD ((IntKind.wrap .u32 (((IntKind.wrap .u32 (Int.tdiv (Int.tmod (IntKind.wrap .u32 s91.1) 10000) 100))) * 2)) : Int).toNat 0).toNat : Nat) : Int))).flatMap (encI .u8)))]⟩) (c := Nat.ble (0 * 1 + ((IntKind.wrap .i64 (s91.2.1 - 4)) : Int).toNat * 1 + ((encI .u8) ((((k0_.getD ((IntKind.wrap .u32 (((IntKind.wrap .u32 (Int.tdiv (Int.tmod (IntKind.wrap .u32 s91.1) 10000) 100))) * 2)) : Int).toNat 0).toNat : Nat) : Int))).length) (((setAt ((setAt ((setAt s91.2.2 ((0 : Nat) + (IntKind.wrap .i64 (s91.2.1 - 1)) : Int) ((((k0_.getD ((IntKind.wrap .u32 (((IntKind.wrap .u32 (((Int.tmod (Int.tmod (IntKind.wrap .u32 s91.1) 10000) 100)) * 2))) + 1)) : Int).toNat 0).toNat : Nat) : Int)))) ((0 : Nat) + (IntKind.wrap .i64 (s91.2.1 - 2)) : Int) ((((k0_.getD ((IntKind.wrap .u32 (((Int.tmod (Int.tmod (IntKind.wrap .u32 s91.1) 10000) 100)) * 2)) : Int).toNat 0).toNat : Nat) : Int)))) ((0 : Nat) + (IntKind.wrap .i64 (s91.2.1 - 3)) : Int) ((((k0_.getD ((IntKind.wrap .u32 (((IntKind.wrap .u32 (((IntKind.wrap .u32 (Int.tdiv (Int.tmod (IntKind.wrap .u32 s91.1) 10000) 100))) * 2))) + 1)) : Int).toNat 0).toNat : Nat) : Int)))).flatMap (encI .u8)).length) (tr2 := [([], []), ([], []), ([], []), ([], []), ([], []), ([], []), ([], []), ([], []), ([], []), ([], []), ([], []), ([], []), ([0, 1], [0]), ([], []), ([0, 1], [0])]) (H2 := [.box (((setAt ((setAt ((setAt ((setAt s91.2.2 ((0 : Nat) + (IntKind.wrap .i64 (s91.2.1 - 1)) : Int) ((((k0_.getD ((IntKind.wrap .u32 (((IntKind.wrap .u32 (((Int.tmod (Int.tmod (IntKind.wrap .u32 s91.1) 10000) 100)) * 2))) + 1)) : Int).toNat 0).toNat : Nat) : Int)))) ((0 : Nat) + (IntKind.wrap .i64 (s91.2.1 - 2)) : Int) ((((k0_.getD ((IntKind.wrap .u32 (((Int.tmod (Int.tmod (IntKind.wrap .u32 s91.1) 10000) 100)) * 2)) : Int).toNat 0).toNat : Nat) : Int)))) ((0 : Nat) + (IntKind.wrap .i64 (s91.2.1 - 3)) : Int) ((((k0_.getD ((IntKind.wrap .u32 (((IntKind.wrap .u32 (((IntKind.wrap .u32 (Int.tdiv (Int.tmod (IntKind.wrap .u32 s91.1) 10000) 100))) * 2))) + 1)) : Int).toNat 0).toNat : Nat) : Int)))) ((0 : Nat) + (IntKind.wrap .i64 (s91.2.1 - 4)) : Int) ((((k0_.getD ((IntKind.wrap .u32 (((IntKind.wrap .u32 (Int.tdiv (Int.tmod (IntKind.wrap .u32 s91.1) 10000) 100))) * 2)) : Int).toNat 0).toNat : Nat) : Int)))).flatMap (encI .u8))]) (by kernel_rfl) (storeB_ok (encI_len .u8) hm) (fun hc => N.storeB (o := 0) (encI_len .u8) hm) (by kernel_rfl) ?_
    refine kEN ?_
    refine kR ?_
    refine kC 3 [0,4,12] ?_
    refine kE ?_
    obtain rfl := oi h220
    exact kN [0, 4, 12]
   ·have h208 := condF hb206 hy203
    refine kF ?_
    refine kK ?_
    obtain rfl := oi h208
    exact kN [0, 4, 12]
  ·obtain ⟨s230, hy232, h234⟩ := bindS h205
   refine K.cutN (by kernel_rfl) (fun (s230 : Int × Int × (List Int)) => ([(0, .sl 0 0 x0.toNat 1), (4, .int .i64 s230.1), (12, .int .u32 s230.2.1)], [.box (s230.2.2.flatMap (encI .u8))])) s230 ?_ ?_
   ·refine kSR ?_
    refine kC 2 [0,4,12,139] ?_
    refine kEN ?_
    refine J.caseB 139 (b := (decide (s201.1 ≥ 2))) (by kernel_rfl) (fun hb235 => ?_) (fun hb235 => ?_)
    ·have h236 := condT hb235 hy232
     refine kT ?_
     refine kSR ?_
     refine kC 4 [0,4,12,16] ?_
     refine kEN ?_
     refine kSR ?_
     refine kC 3 [0,4,12,16] ?_
     refine kEN ?_
     refine kS ?_
     refine J.keep [0, 4, 12, 16] (L2 := [(0, .sl 0 0 x0.toNat 1), (4, .int .i64 s201.1), (12, .int .u32 (IntKind.wrap .u32 (Int.tdiv s201.2.1 100))), (16, .int .u32 ((IntKind.wrap .u32 ((Int.tmod s201.2.1 100) * 2))))]) (by kernel_rfl) ?_
     refine K.draw (by kernel_rfl) (by kernel_rfl) (by kernel_rfl) (H2 := [.box (s201.2.2.flatMap (encI .u8))]) (by kernel_rfl) (n := 1) (by kernel_rfl) ?_
     refine RJ.segD 8 (tr2 := [([], []), ([], []), ([], []), ([], []), ([], []), ([], []), ([], []), ([], [])]) (L2 := [(152, .int .u32 ((IntKind.wrap .u32 (((IntKind.wrap .u32 ((Int.tmod s201.2.1 100) * 2))) + 1)))), (151, .int .u32 ((IntKind.wrap .u32 ((Int.tmod s201.2.1 100) * 2)))), (150, .int .i64 (IntKind.wrap .i64 (s201.1 - 2))), (149, .int .i64 s201.1), (148, .sl 0 0 x0.toNat 1), (147, .int .i64 (IntKind.wrap .i64 (s201.1 - 1))), (146, .int .i64 s201.1), (145, .sl 0 0 x0.toNat 1), (0, .sl 0 0 x0.toNat 1), (4, .int .i64 s201.1), (12, .int .u32 (IntKind.wrap .u32 (Int.tdiv s201.2.1 100))), (16, .int .u32 ((IntKind.wrap .u32 ((Int.tmod s201.2.1 100) * 2))))]) (H2 := [.box (s201.2.2.flatMap (encI .u8))]) (by kernel_rfl) ?_
     obtain ⟨hm, h238⟩ := asrt h236
     refine RJ.rel (d := (some 153)) (ef := ⟨.int .u8 (((k0_.getD ((IntKind.wrap .u32 (((IntKind.wrap .u32 ((Int.tmod s201.2.1 100) * 2))) + 1)) : Int).toNat 0).toNat : Nat) : Int), [], []⟩) (ef' := ⟨.int .u8 (((k0_.getD ((IntKind.wrap .u32 (((IntKind.wrap .u32 ((Int.tmod s201.2.1 100) * 2))) + 1)) : Int).toNat 0).toNat : Nat) : Int), [], []⟩) (c := inR ((IntKind.wrap .u32 (((IntKind.wrap .u32 ((Int.tmod s201.2.1 100) * 2))) + 1))) k0_.length) (tr2 := [([], []), ([], []), ([], []), ([], []), ([], []), ([], []), ([], []), ([], []), ([], [])]) (H2 := [.box (s201.2.2.flatMap (encI .u8))]) (by kernel_rfl) hm (fun hc => rfl) (by kernel_rfl) ?_
     refine kD 1 ?_
     obtain ⟨hm, h239⟩ := asrt h238
     refine RJ.rel (d := (some 155)) (ef := ⟨.int .u8 (((k0_.getD ((IntKind.wrap .u32 ((Int.tmod s201.2.1 100) * 2)) : Int).toNat 0).toNat : Nat) : Int), [], []⟩) (ef' := ⟨.int .u8 (((k0_.getD ((IntKind.wrap .u32 ((Int.tmod s201.2.1 100) * 2)) : Int).toNat 0).toNat : Nat) : Int), [], []⟩) (c := inR ((IntKind.wrap .u32 ((Int.tmod s201.2.1 100) * 2))) k0_.length) (tr2 := [([], []), ([], []), ([], []), ([], []), ([], []), ([], []), ([], []), ([], []), ([], []), ([], []), ([], [])]) (H2 := [.box (s201.2.2.flatMap (encI .u8))]) (by kernel_rfl) hm (fun hc => rfl) (by kernel_rfl) ?_
     obtain ⟨hm, h240⟩ := asrt h239
     refine RJ.rel (d := (some 156)) (ef := ⟨.ptr 0 (0 + ((IntKind.wrap .i64 (s201.1 - 1)) : Int).toNat * 1), [], []⟩) (ef' := ⟨.ptr 0 (0 + ((IntKind.wrap .i64 (s201.1 - 1)) : Int).toNat * 1), [], []⟩) (c := inR (IntKind.wrap .i64 (s201.1 - 1)) x0.toNat) (tr2 := [([], []), ([], []), ([], []), ([], []), ([], []), ([], []), ([], []), ([], []), ([], []), ([], []), ([], []), ([], [])]) (H2 := [.box (s201.2.2.flatMap (encI .u8))]) (by kernel_rfl) hm (fun hc => rfl) (by kernel_rfl) ?_
     obtain ⟨hm, h241⟩ := asrt h240
     refine RJ.relS (d := none) (ef := ⟨.undef, [0], [(0, .box (splice (s201.2.2.flatMap (encI .u8)) (0 * 1 + ((IntKind.wrap .i64 (s201.1 - 1)) : Int).toNat * 1) ((encI .u8) ((((k0_.getD ((IntKind.wrap .u32 (((IntKind.wrap .u32 ((Int.tmod s201.2.1 100) * 2))) + 1)) : Int).toNat 0).toNat : Nat) : Int)))))]⟩) (ef' := ⟨.undef, [0], [(0, .box ((setAt s201.2.2 ((0 : Nat) + (IntKind.wrap .i64 (s201.1 - 1)) : Int) ((((k0_.getD ((IntKind.wrap .u32 (((IntKind.wrap .u32 ((Int.tmod s201.2.1 100) * 2))) + 1)) : Int).toNat 0).toNat : Nat) : Int))).flatMap (encI .u8)))]⟩) (c := Nat.ble (0 * 1 + ((IntKind.wrap .i64 (s201.1 - 1)) : Int).toNat * 1 + ((encI .u8) ((((k0_.getD ((IntKind.wrap .u32 (((IntKind.wrap .u32 ((Int.tmod s201.2.1 100) * 2))) + 1)) : Int).toNat 0).toNat : Nat) : Int))).length) (s201.2.2.flatMap (encI .u8)).length) (tr2 := [([], []), ([], []), ([], []), ([], []), ([], []), ([], []), ([], []), ([], []), ([], []), ([], []), ([], []), ([], []), ([0, 1], [0])]) (H2 := [.box (((setAt s201.2.2 ((0 : Nat) + (IntKind.wrap .i64 (s201.1 - 1)) : Int) ((((k0_.getD ((IntKind.wrap .u32 (((IntKind.wrap .u32 ((Int.tmod s201.2.1 100) * 2))) + 1)) : Int).toNat 0).toNat : Nat) : Int)))).flatMap (encI .u8))]) (by kernel_rfl) (storeB_ok (encI_len .u8) hm) (fun hc => N.storeB (o := 0) (encI_len .u8) hm) (by kernel_rfl) ?_
     obtain ⟨hm, h242⟩ := asrt h241
     refine RJ.rel (d := (some 157)) (ef := ⟨.ptr 0 (0 + ((IntKind.wrap .i64 (s201.1 - 2)) : Int).toNat * 1), [], []⟩) (ef' := ⟨.ptr 0 (0 + ((IntKind.wrap .i64 (s201.1 - 2)) : Int).toNat * 1), [], []⟩) (c := inR (IntKind.wrap .i64 (s201.1 - 2)) x0.toNat) (tr2 := [([], []), ([], []), ([], []), ([], []), ([], []), ([], []), ([], []), ([], []), ([], []), ([], []), ([], []), ([], []), ([0, 1], [0]), ([], [])]) (H2 := [.box (((setAt s201.2.2 ((0 : Nat) + (IntKind.wrap .i64 (s201.1 - 1)) : Int) ((((k0_.getD ((IntKind.wrap .u32 (((IntKind.wrap .u32 ((Int.tmod s201.2.1 100) * 2))) + 1)) : Int).toNat 0).toNat : Nat) : Int)))).flatMap (encI .u8))]) (by kernel_rfl) hm (fun hc => rfl) (by kernel_rfl) ?_
     obtain ⟨hm, h243⟩ := asrt h242
     refine RJ.relS (d := none) (ef := ⟨.undef, [0], [(0, .box (splice (((setAt s201.2.2 ((0 : Nat) + (IntKind.wrap .i64 (s201.1 - 1)) : Int) ((((k0_.getD ((IntKind.wrap .u32 (((IntKind.wrap .u32 ((Int.tmod s201.2.1 100) * 2))) + 1)) : Int).toNat 0).toNat : Nat) : Int)))).flatMap (encI .u8)) (0 * 1 + ((IntKind.wrap .i64 (s201.1 - 2)) : Int).toNat * 1) ((encI .u8) ((((k0_.getD ((IntKind.wrap .u32 ((Int.tmod s201.2.1 100) * 2)) : Int).toNat 0).toNat : Nat) : Int)))))]⟩) (ef' := ⟨.undef, [0], [(0, .box ((setAt ((setAt s201.2.2 ((0 : Nat) + (IntKind.wrap .i64 (s201.1 - 1)) : Int) ((((k0_.getD ((IntKind.wrap .u32 (((IntKind.wrap .u32 ((Int.tmod s201.2.1 100) * 2))) + 1)) : Int).toNat 0).toNat : Nat) : Int)))) ((0 : Nat) + (IntKind.wrap .i64 (s201.1 - 2)) : Int) ((((k0_.getD ((IntKind.wrap .u32 ((Int.tmod s201.2.1 100) * 2)) : Int).toNat 0).toNat : Nat) : Int))).flatMap (encI .u8)))]⟩) (c := Nat.ble (0 * 1 + ((IntKind.wrap .i64 (s201.1 - 2)) : Int).toNat * 1 + ((encI .u8) ((((k0_.getD ((IntKind.wrap .u32 ((Int.tmod s201.2.1 100) * 2)) : Int).toNat 0).toNat : Nat) : Int))).length) (((setAt s201.2.2 ((0 : Nat) + (IntKind.wrap .i64 (s201.1 - 1)) : Int) ((((k0_.getD ((IntKind.wrap .u32 (((IntKind.wrap .u32 ((Int.tmod s201.2.1 100) * 2))) + 1)) : Int).toNat 0).toNat : Nat) : Int)))).flatMap (encI .u8)).length) (tr2 := [([], []), ([], []), ([], []), ([], []), ([], []), ([], []), ([], []), ([], []), ([], []), ([], []), ([], []), ([], []), ([0, 1], [0]), ([], []), ([0, 1], [0])]) (H2 := [.box (((setAt ((setAt s201.2.2 ((0 : Nat) + (IntKind.wrap .i64 (s201.1 - 1)) : Int) ((((k0_.getD ((IntKind.wrap .u32 (((IntKind.wrap .u32 ((Int.tmod s201.2.1 100) * 2))) + 1)) : Int).toNat 0).toNat : Nat) : Int)))) ((0 : Nat) + (IntKind.wrap .i64 (s201.1 - 2)) : Int) ((((k0_.getD ((IntKind.wrap .u32 ((Int.tmod s201.2.1 100) * 2)) : Int).toNat 0).toNat : Nat) : Int)))).flatMap (encI .u8))]) (by kernel_rfl) (storeB_ok (encI_len .u8) hm) (fun hc => N.storeB (o := 0) (encI_len .u8) hm) (by kernel_rfl) ?_
     refine kEN ?_
     refine kR ?_
     refine kC 3 [0,4,12] ?_
     refine kE ?_
     obtain rfl := oi h243
     exact kN [0, 4, 12]
    ·have h237 := condF hb235 hy232
     refine kF ?_
     refine kK ?_
     obtain rfl := oi h237
     exact kN [0, 4, 12]
   ·refine kSR ?_
    refine kC 2 [0,12,161] ?_
    refine kEN ?_
    refine J.caseB 161 (b := (decide (s230.1 > 0))) (by kernel_rfl) (fun hb244 => ?_) (fun hb244 => ?_)
    ·have h245 := condT hb244 h234
     refine kT ?_
     refine kR ?_
     refine kC 4 [162,165] ?_
     obtain ⟨hm, h247⟩ := asrt h245
     refine RJ.rel (d := (some 166)) (ef := ⟨.ptr 0 (0 + (0 : Int).toNat * 1), [], []⟩) (ef' := ⟨.ptr 0 (0 + (0 : Int).toNat * 1), [], []⟩) (c := inR 0 x0.toNat) (tr2 := []) (H2 := [.box (s230.2.2.flatMap (encI .u8))]) (by kernel_rfl) hm (fun hc => rfl) (by kernel_rfl) ?_
     obtain ⟨hm, h248⟩ := asrt h247
     refine RJ.relS (d := none) (ef := ⟨.undef, [0], [(0, .box (splice (s230.2.2.flatMap (encI .u8)) (0 * 1 + (0 : Int).toNat * 1) ((encI .u8) ((IntKind.wrap .u8 (IntKind.wrap .u32 (48 + s230.2.1)))))))]⟩) (ef' := ⟨.undef, [0], [(0, .box ((setAt s230.2.2 ((0 : Nat) + 0 : Int) ((IntKind.wrap .u8 (IntKind.wrap .u32 (48 + s230.2.1))))).flatMap (encI .u8)))]⟩) (c := Nat.ble (0 * 1 + (0 : Int).toNat * 1 + ((encI .u8) ((IntKind.wrap .u8 (IntKind.wrap .u32 (48 + s230.2.1))))).length) (s230.2.2.flatMap (encI .u8)).length) (tr2 := []) (H2 := [.box (((setAt s230.2.2 ((0 : Nat) + 0 : Int) ((IntKind.wrap .u8 (IntKind.wrap .u32 (48 + s230.2.1)))))).flatMap (encI .u8))]) (by kernel_rfl) (storeB_ok (encI_len .u8) hm) (fun hc => N.storeB (o := 0) (encI_len .u8) hm) (by kernel_rfl) ?_
     refine kE ?_
     obtain rfl := oi h248
     exact K.retV (H0 := [.box (x2.flatMap (encI .u8))]) [0] (.inl rfl) hFn hFH hFD (by kernel_rfl) (v1 := .tup []) (by kernel_rfl) (by kernel_rfl) (by simp only [List.map_cons, List.map_nil, rn_lbox (enc := (encI .u8)) (fun _ _ => rfl)]; kernel_rfl) (by decide) (by simp only [List.all_cons, List.all_nil, refs_lbox (enc := (encI .u8)) (fun _ _ => rfl)]; kernel_rfl) (by kernel_rfl) (by kernel_rfl) (by kernel_rfl) (by kernel_rfl)
    ·have h246 := condF hb244 h234
     refine kF ?_
     refine kK ?_
     obtain rfl := oi h246
     exact K.retV (H0 := [.box (x2.flatMap (encI .u8))]) [0] (.inl rfl) hFn hFH hFD (by kernel_rfl) (v1 := .tup []) (by kernel_rfl) (by kernel_rfl) (by simp only [List.map_cons, List.map_nil, rn_lbox (enc := (encI .u8)) (fun _ _ => rfl)]; kernel_rfl) (by decide) (by simp only [List.all_cons, List.all_nil, refs_lbox (enc := (encI .u8)) (fun _ _ => rfl)]; kernel_rfl) (by kernel_rfl) (by kernel_rfl) (by kernel_rfl) (by kernel_rfl)
def strconv_AppendUint (x0 : List Int) (x1 : Int) (x2 : Int) : Option (List Int) :=
 (bif (decide (x2 = 10)) then (bif (decide (x1 < 100)) then (Option.bind (strconv_small (IntKind.wrap .i64 x1)) fun y7 => (bif room (x0.length + y7.length) then (some (x0 ++ (bytesI y7))) else none)) else (Option.bind (strconv_numDigits x1) fun y11 => (bif inS 0 y11 24 then (Option.bind (strconv_formatBase10_s0 (y11 : Int) x1 (rep 24 (0 : Int))) fun y15 => (bif inS 0 y11 24 then (bif (inS ((0 : Nat) : Int) (((0 : Nat) : Int) + (y11 : Int)) y15.length && roomB (x0.length + (y11 : Int).toNat)) then (some (x0 ++ (cut y15 ((0 : Nat) : Int) (((0 : Nat) : Int) + (y11 : Int))))) else none) else none)) else none))) else none)
theorem strconv_AppendUint_ok_0o {x0 : List Int} {x1 : Int} {x2 : Int} {r : List Int} (h : strconv_AppendUint x0 x1 x2 = some r) : SC Tryz.prog 64 [.vc 0, .int .u64 x1, .int .i64 x2] [vecL (encI .u8) 1 5 x0] (.vc 1) [.gone, vecL (encI .u8) 1 5 r] := by
 refine kFn (fn := Tryz.f64) (fun F hFn hFH hFD => ?_)
 unfold strconv_AppendUint at h
 refine kSR ?_
 refine kC 1 [0,1,2,6] ?_
 refine kEN ?_
 refine kS ?_
 refine kSR ?_
 refine kC 2 [0,1,2,6,10] ?_
 refine kEN ?_
 refine J.caseB 10 (b := (decide (x2 = 10))) (by kernel_rfl) (fun hb1 => ?_) (fun hb1 => ?_)
 ·have h2 := condT hb1 h
  refine kT ?_
  refine kS ?_
  refine kSR ?_
  refine kC 2 [0,1,2,6,12] ?_
  refine kEN ?_
  refine J.caseB 12 (b := (decide (x1 < 100))) (by kernel_rfl) (fun hb4 => ?_) (fun hb4 => ?_)
  ·have h5 := condT hb4 h2
   refine kT ?_
   refine kSR ?_
   refine RJ.seg 3 [0, 1, 2, 6, 13, 15] (L2 := [(0, .vc 0), (1, .int .u64 x1), (2, .int .i64 x2), (6, .nl), (13, .vc 0), (15, .int .i64 (IntKind.wrap .i64 x1))]) (H2 := [vecL (encI .u8) 1 5 x0]) (by kernel_rfl) ?_
   obtain ⟨y7, hy8, h9⟩ := bindS h5
   refine RJ.call0 (d := (some 16)) (f := 78) (args := [.int .i64 (IntKind.wrap .i64 x1)]) (v := .str y7) (tr2 := []) (by kernel_rfl) (by kernel_rfl) (.cons (Le.refl _) .nil) (strconv_small_ok hy8) (by kernel_rfl) ?_
   obtain ⟨hm, h10⟩ := asrt h9
   refine RJ.rel (d := (some 17)) (ef := ⟨.vc 1, [0], [(0, .gone), (1, .vec (x0.length + y7.length) 1 5 (x0.flatMap (encI .u8) ++ y7.map byteSV))]⟩) (ef' := ⟨.vc 1, [0], [(0, .gone), (1, vecL (encI .u8) 1 5 (x0 ++ (bytesI y7)))]⟩) (c := roomB (x0.length + y7.length)) (tr2 := []) (H2 := [.gone, vecL (encI .u8) 1 5 (x0 ++ (bytesI y7))]) (by kernel_rfl) (roomB_of_room hm) (fun hc => (by rw [bytes_eq, ← bytesI_len y7]; exact N.app)) (by kernel_rfl) ?_
   refine kC 1 [0,1,2,6] ?_
   refine kEN ?_
   refine kX ?_
   refine PJ.passRet ?_
   refine PJ.passRet ?_
   obtain rfl := oi h10
   exact K.retV (H0 := [vecL (encI .u8) 1 5 x0]) [0, 1] (.inr rfl) hFn hFH hFD (by kernel_rfl) (v1 := .vc 1) (by kernel_rfl) (by kernel_rfl) (by kernel_rfl) (by decide) (by kernel_rfl) (by kernel_rfl) (by kernel_rfl) (by kernel_rfl) (by kernel_rfl)
  ·have h6 := condF hb4 h2
   refine kF ?_
   refine kK ?_
   refine PJ.next ?_
   refine kSR ?_
   refine RJ.seg 1 [0, 1, 2, 6, 7] (L2 := [(0, .vc 0), (1, .int .u64 x1), (2, .int .i64 x2), (6, .nl), (7, .ptr 1 0)]) (H2 := [vecL (encI .u8) 1 5 x0, .box ((rep 24 (0 : Int)).flatMap (encI .u8))]) (by kernel_rfl) ?_
   refine kEN ?_
   refine kSR ?_
   refine kC 1 [0,1,2,6,7,18] ?_
   obtain ⟨y11, hy12, h13⟩ := bindS h6
   refine RJ.call0 (d := (some 19)) (f := 79) (args := [.int .u64 x1]) (v := .int .i64 y11) (tr2 := []) (by kernel_rfl) (by kernel_rfl) (.cons (Le.refl _) .nil) (strconv_numDigits_ok hy12) (by kernel_rfl) ?_
   refine kC 1 [0,1,2,6,7,8] ?_
   refine kEN ?_
   refine kSR ?_
   refine kC 1 [0,1,2,6,7,8,20] ?_
   obtain ⟨hm, h14⟩ := asrt h13
   refine RJ.relS (d := (some 21)) (ef := ⟨.sl 1 0 (y11 : Int).toNat 1, [], []⟩) (ef' := ⟨.sl 1 0 (y11 : Int).toNat 1, [], []⟩) (c := inS 0 y11 24) (tr2 := []) (H2 := [vecL (encI .u8) 1 5 x0, .box ((rep 24 (0 : Int)).flatMap (encI .u8))]) (by kernel_rfl) hm (fun hc => rfl) (by kernel_rfl) ?_
   refine RJ.seg 1 [0, 1, 2, 6, 7, 8, 21, 22] (L2 := [(0, .vc 0), (1, .int .u64 x1), (2, .int .i64 x2), (6, .nl), (7, .ptr 1 0), (8, .int .i64 y11), (21, .sl 1 0 (y11 : Int).toNat 1), (22, .int .u64 x1)]) (H2 := [vecL (encI .u8) 1 5 x0, .box ((rep 24 (0 : Int)).flatMap (encI .u8))]) (by kernel_rfl) ?_
   obtain ⟨y15, hy16, h17⟩ := bindS h14
   refine RJ.callG (d := (some 23)) (f := 80) (args := [.sl 1 0 (y11 : Int).toNat 1, .int .u64 x1]) (args0 := [.sl 0 0 (y11 : Int).toNat 1, .int .u64 x1]) (v0 := .tup []) (v := .tup []) (tr2 := []) (H0 := [.box ((rep 24 (0 : Int)).flatMap (encI .u8))]) (H0' := [.box (y15.flatMap (encI .u8))]) (H2 := [vecL (encI .u8) 1 5 x0, .box (y15.flatMap (encI .u8))]) [1] (by kernel_rfl) (by kernel_rfl) (by kernel_rfl) (by simp only [List.map_cons, List.map_nil, rn_lbox (enc := (encI .u8)) (fun _ _ => rfl)]; kernel_rfl) (by decide) (by simp only [List.all_cons, List.all_nil, refs_lbox (enc := (encI .u8)) (fun _ _ => rfl)]; kernel_rfl) (by kernel_rfl) (by kernel_rfl) (.cons (Le.refl _) (.cons (Le.refl _) .nil)) (strconv_formatBase10_s0_ok hy16) (by kernel_rfl) (by kernel_rfl) ((show frameH (selF [1]) 1 _ [.box (y15.flatMap (encI .u8))] = [vecL (encI .u8) 1 5 x0, Ent.rn (gOf (selF [1]) 1 2) (.box (y15.flatMap (encI .u8)))] by kernel_rfl).trans (by simp only [rn_lbox (enc := (encI .u8)) (fun _ _ => rfl)])) ?_
   refine kEN ?_
   refine kSR ?_
   refine kC 2 [0,1,2,6,7,24,25] ?_
   obtain ⟨hm, h18⟩ := asrt h17
   refine RJ.relS (d := (some 26)) (ef := ⟨.sl 1 0 (y11 : Int).toNat 1, [], []⟩) (ef' := ⟨.sl 1 0 (y11 : Int).toNat 1, [], []⟩) (c := inS 0 y11 24) (tr2 := []) (H2 := [vecL (encI .u8) 1 5 x0, .box (y15.flatMap (encI .u8))]) (by kernel_rfl) hm (fun hc => rfl) (by kernel_rfl) ?_
   obtain ⟨hm, h19⟩ := asrt h18
   refine RJ.relS (d := (some 27)) (ef := ⟨.vc 2, [0, 1], [(0, .gone), (2, .vec (x0.length + (y11 : Int).toNat) 1 5 (x0.flatMap (encI .u8) ++ ((y15.flatMap (encI .u8)).drop (0 * 1)).take ((y11 : Int).toNat * 1)))]⟩) (ef' := ⟨.vc 2, [0, 1], [(0, .gone), (2, vecL (encI .u8) 1 5 (x0 ++ (cut y15 ((0 : Nat) : Int) (((0 : Nat) : Int) + (y11 : Int)))))]⟩) (c := (Nat.ble (0 * 1 + (y11 : Int).toNat * 1) (y15.flatMap (encI .u8)).length && (plainL (((y15.flatMap (encI .u8)).drop (0 * 1)).take ((y11 : Int).toNat * 1)) && roomB (x0.length + (y11 : Int).toNat)))) (tr2 := []) (H2 := [.gone, .box (y15.flatMap (encI .u8)), vecL (encI .u8) 1 5 ((x0 ++ (cut y15 ((0 : Nat) : Int) (((0 : Nat) : Int) + (y11 : Int)))))]) (by kernel_rfl) (appB_ok (o := 0) (encI_len .u8) (fun _ => rfl) (Bool.and_eq_true_iff.1 hm).1 (Bool.and_eq_true_iff.1 hm).2) (fun hc => N.appB (o := 0) (encI_len .u8) (Bool.and_eq_true_iff.1 hm).1) (by kernel_rfl) ?_
   refine kC 1 [0,1,2,6] ?_
   refine kEN ?_
   refine kX ?_
   refine PJ.passRet ?_
   obtain rfl := oi h19
   exact K.retV (H0 := [vecL (encI .u8) 1 5 x0]) [0, 2] (.inr rfl) hFn hFH hFD (by kernel_rfl) (v1 := .vc 2) (by kernel_rfl) (by kernel_rfl) (by kernel_rfl) (by decide) (by kernel_rfl) (by kernel_rfl) (by kernel_rfl) (by kernel_rfl) (by kernel_rfl)
 ·have h3 := condF hb1 h
  refine kF ?_
  refine kK ?_
  refine PJ.next ?_
  refine kSR ?_
  refine kC 3 [0,6,29,30,31] ?_
  cases h3
def strconv_AppendInt_48 (x0 : List Int) (x1 : Int) (x2 : Int) : Option (List Int) :=
 (Option.bind (bif (decide (x1 < 0)) then (bif room (x0.length + ([45] : List Int).length) then (some ((IntKind.wrap .u64 (0 - (IntKind.wrap .u64 x1))), (x0 ++ ([45] : List Int)))) else none) else (some ((IntKind.wrap .u64 x1), x0))) fun (s5 : Int × (List Int)) => (Option.bind (strconv_AppendUint s5.2 s5.1 x2) fun y14 => (some y14)))
theorem strconv_AppendInt_48_ok_0o {x0 : List Int} {x1 : Int} {x2 : Int} {r : List Int} (h : strconv_AppendInt_48 x0 x1 x2 = some r) : SC Tryz.prog 48 [.vc 0, .int .i64 x1, .int .i64 x2] [vecL (encI .u8) 1 5 x0] (.vc 1) [.gone, vecL (encI .u8) 1 5 r] := by
 refine kFn (fn := Tryz.f48) (fun F hFn hFH hFD => ?_)
 unfold strconv_AppendInt_48 at h
 refine J.wk (Wk.move 0 (n := x0.length) (k := 1) (e := 5) (cs := x0.flatMap (encI .u8)) (by kernel_rfl)) ?_
 refine kSR ?_
 refine kC 1 [0,1,2,6] ?_
 refine kEN ?_
 refine kSR ?_
 refine kC 3 [0,1,2,6,7] ?_
 refine kEN ?_
 obtain ⟨s5, hy7, h9⟩ := bindS h
 refine K.cutN (by kernel_rfl) (fun (s5 : Int × (List Int)) => ([(0, .vc 1), (2, .int .i64 x2), (6, .nl), (7, .int .u64 s5.1)], [.gone, vecL (encI .u8) 1 5 s5.2])) s5 ?_ ?_
 ·refine kSR ?_
  refine kC 2 [0,2,6,7,11] ?_
  refine kEN ?_
  refine J.caseB 11 (b := (decide (x1 < 0))) (by kernel_rfl) (fun hb10 => ?_) (fun hb10 => ?_)
  ·have h11 := condT hb10 hy7
   refine kT ?_
   refine kSR ?_
   refine RJ.seg 2 [0, 2, 6, 7, 12, 13] (L2 := [(0, .vc 1), (2, .int .i64 x2), (6, .nl), (7, .int .u64 (IntKind.wrap .u64 x1)), (12, .vc 1), (13, .vc 2)]) (H2 := [.gone, vecL (encI .u8) 1 5 x0, vecL (encI .u8) 1 5 ([45] : List Int)]) (by kernel_rfl) ?_
   obtain ⟨hm, h13⟩ := asrt h11
   refine RJ.rel (d := (some 14)) (ef := ⟨.vc 3, [1, 2], [(1, .gone), (3, .vec (x0.length + ([45] : List Int).length) 1 5 (x0.flatMap (encI .u8) ++ ([45] : List Int).flatMap (encI .u8)))]⟩) (ef' := ⟨.vc 3, [1, 2], [(1, .gone), (3, vecL (encI .u8) 1 5 (x0 ++ ([45] : List Int)))]⟩) (c := roomB (x0.length + ([45] : List Int).length)) (tr2 := []) (H2 := [.gone, .gone, vecL (encI .u8) 1 5 ([45] : List Int), vecL (encI .u8) 1 5 (x0 ++ ([45] : List Int))]) (by kernel_rfl) (roomB_of_room hm) (fun hc => N.app) (by kernel_rfl) ?_
   refine kC 1 [0,2,6,7] ?_
   refine kEN ?_
   refine kR ?_
   refine kC 3 [0,2,6,7] ?_
   refine kE ?_
   obtain rfl := oi h13
   refine PJ.wk (Wk.sel (L2 := [(0, .vc 1), (2, .int .i64 x2), (6, .nl), (7, .int .u64 ((IntKind.wrap .u64 (0 - (IntKind.wrap .u64 x1)))))]) (H2 := [.gone, vecL (encI .u8) 1 5 (x0 ++ ([45] : List Int))]) 1 (by rw [hFH]; rfl) hFD [0, 3] (by kernel_rfl) (by kernel_rfl) (by decide) (by kernel_rfl) (by kernel_rfl) (by kernel_rfl) (by kernel_rfl)) ?_
   exact kN [0, 2, 6, 7]
  ·have h12 := condF hb10 hy7
   refine kF ?_
   refine kK ?_
   obtain rfl := oi h12
   exact kN [0, 2, 6, 7]
 ·refine kSR ?_
  refine kC 3 [6,17,18,19] ?_
  obtain ⟨y14, hy15, h16⟩ := bindS h9
  refine RJ.callG (d := (some 20)) (f := 64) (args := [.vc 1, .int .u64 s5.1, .int .i64 x2]) (args0 := [.vc 0, .int .u64 s5.1, .int .i64 x2]) (v0 := .vc 1) (v := .vc 2) (tr2 := []) (H0 := [vecL (encI .u8) 1 5 s5.2]) (H0' := [.gone, vecL (encI .u8) 1 5 y14]) (H2 := [.gone, .gone, vecL (encI .u8) 1 5 y14]) [1] (by kernel_rfl) (by kernel_rfl) (by kernel_rfl) (by kernel_rfl) (by decide) (by kernel_rfl) (by kernel_rfl) (by kernel_rfl) (.cons (Le.refl _) (.cons (Le.refl _) (.cons (Le.refl _) .nil))) (strconv_AppendUint_ok_0o hy15) (by kernel_rfl) (by kernel_rfl) (by kernel_rfl) ?_
  refine kC 1 [6] ?_
  refine kEN ?_
  refine kX ?_
  obtain rfl := oi h16
  exact K.retV (H0 := [vecL (encI .u8) 1 5 x0]) [0, 2] (.inr rfl) hFn hFH hFD (by kernel_rfl) (v1 := .vc 2) (by kernel_rfl) (by kernel_rfl) (by kernel_rfl) (by decide) (by kernel_rfl) (by kernel_rfl) (by kernel_rfl) (by kernel_rfl) (by kernel_rfl)
def strconv_AppendInt (x0 : List Int) (x1 : Int) (x2 : Int) : Option (List Int) :=
 (Option.bind (strconv_AppendInt_48 x0 x1 x2) fun y1 => (some y1))
theorem strconv_AppendInt_ok_0o {x0 : List Int} {x1 : Int} {x2 : Int} {r : List Int} (h : strconv_AppendInt x0 x1 x2 = some r) : SC Tryz.prog 33 [.vc 0, .int .i64 x1, .int .i64 x2] [vecL (encI .u8) 1 5 x0] (.vc 1) [.gone, vecL (encI .u8) 1 5 r] := by
 refine kFn (fn := Tryz.f33) (fun F hFn hFH hFD => ?_)
 unfold strconv_AppendInt at h
 refine kSR ?_
 refine kC 1 [0,1,2,6] ?_
 refine kEN ?_
 refine kSR ?_
 refine kC 3 [6,7,8,9] ?_
 obtain ⟨y1, hy2, h3⟩ := bindS h
 refine RJ.callG (d := (some 10)) (f := 48) (args := [.vc 0, .int .i64 x1, .int .i64 x2]) (args0 := [.vc 0, .int .i64 x1, .int .i64 x2]) (v0 := .vc 1) (v := .vc 1) (tr2 := []) (H0 := [vecL (encI .u8) 1 5 x0]) (H0' := [.gone, vecL (encI .u8) 1 5 y1]) (H2 := [.gone, vecL (encI .u8) 1 5 y1]) [0] (by kernel_rfl) (by kernel_rfl) (by kernel_rfl) (by kernel_rfl) (by decide) (by kernel_rfl) (by kernel_rfl) (by kernel_rfl) (.cons (Le.refl _) (.cons (Le.refl _) (.cons (Le.refl _) .nil))) (strconv_AppendInt_48_ok_0o hy2) (by kernel_rfl) (by kernel_rfl) (by kernel_rfl) ?_
 refine kC 1 [6] ?_
 refine kEN ?_
 refine kX ?_
 obtain rfl := oi h3
 exact K.retV (H0 := [vecL (encI .u8) 1 5 x0]) [0, 1] (.inr rfl) hFn hFH hFD (by kernel_rfl) (v1 := .vc 1) (by kernel_rfl) (by kernel_rfl) (by kernel_rfl) (by decide) (by kernel_rfl) (by kernel_rfl) (by kernel_rfl) (by kernel_rfl) (by kernel_rfl)
def rule_relation (x0 : List Int) (x1 : St39) : Option (List Int) :=
 (bif room (x0.length + ([x1.Op_] : List Int).length) then (Option.bind (bif (decide (¬ x1.Mod_ = 0)) then (bif room ((x0 ++ ([x1.Op_] : List Int)).length + ([32, 37, 32] : List UInt8).length) then (Option.bind (strconv_AppendInt (((x0 ++ ([x1.Op_] : List Int)) ++ (bytesI ([32, 37, 32] : List UInt8)))) x1.Mod_ 10) fun y18 => (some y18)) else none) else (some (x0 ++ ([x1.Op_] : List Int)))) fun (s9 : (List Int)) => (Option.bind (bif x1.Not_ then (bif room (s9.length + ([32, 33, 61, 32] : List UInt8).length) then (some ((s9 ++ (bytesI ([32, 33, 61, 32] : List UInt8))))) else none) else (bif room (s9.length + ([32, 61, 32] : List UInt8).length) then (some ((s9 ++ (bytesI ([32, 61, 32] : List UInt8))))) else none)) fun (s26 : (List Int)) => (Option.bind (loopN (fun (s218 : Int × (List Int)) => (bif (decide (s218.1 < (x1.R_.length : Int))) then (Option.bind (bif inR s218.1 x1.R_.length then (Option.bind (bif (decide (s218.1 > 0)) then (bif room (s218.2.length + ([44] : List Int).length) then (some (s218.2 ++ ([44] : List Int))) else none) else (some s218.2)) fun (s374 : (List Int)) => (Option.bind (strconv_AppendInt s374 ((nth x1.R_ s218.1).a0_) 10) fun y383 => (bif (decide (¬ ((nth x1.R_ s218.1).a0_) = ((nth x1.R_ s218.1).a1_))) then (bif room (y383.length + ([46, 46] : List UInt8).length) then (Option.bind (strconv_AppendInt ((y383 ++ (bytesI ([46, 46] : List UInt8)))) ((nth x1.R_ s218.1).a1_) 10) fun y390 => (some y390)) else none) else (some y383)))) else none) fun (s364 : (List Int)) => (some (.inl ((IntKind.wrap .i64 (s218.1 + 1)), s364)))) else (some (.inr s218.2)))) big (0, s26)) fun (s213 : (List Int)) => (some s213)))) else none)
theorem rule_relation_ok_0o {x0 : List Int} {x1 : St39} {r : List Int} (h : rule_relation x0 x1 = some r) : SC Tryz.prog 21 [.vc 0, .agg (encSt39 x1)] [vecL (encI .u8) 1 5 x0] (.vc 1) [.gone, vecL (encI .u8) 1 5 r] := by
 refine kFn (fn := Tryz.f21) (fun F hFn hFH hFD => ?_)
 unfold rule_relation at h
 refine kSR ?_
 refine kC 2 [0,3,4] ?_
 refine kEN ?_
 refine kSR ?_
 refine kC 4 [0,3,4,7,10] ?_
 obtain ⟨hm, h1⟩ := asrt h
 refine RJ.rel (d := (some 11)) (ef := ⟨.vc 3, [0, 2], [(0, .gone), (3, .vec (x0.length + ([x1.Op_] : List Int).length) 1 5 (x0.flatMap (encI .u8) ++ ([x1.Op_] : List Int).flatMap (encI .u8)))]⟩) (ef' := ⟨.vc 3, [0, 2], [(0, .gone), (3, vecL (encI .u8) 1 5 (x0 ++ ([x1.Op_] : List Int)))]⟩) (c := roomB (x0.length + ([x1.Op_] : List Int).length)) (tr2 := []) (H2 := [.gone, .box (encSt39 x1), vecL (encI .u8) 1 5 ([x1.Op_] : List Int), vecL (encI .u8) 1 5 (x0 ++ ([x1.Op_] : List Int))]) (by kernel_rfl) (roomB_of_room hm) (fun hc => N.app) (by kernel_rfl) ?_
 refine kC 1 [0,3,4] ?_
 refine kEN ?_
 obtain ⟨s9, hy11, h13⟩ := bindS h1
 refine K.cutN (by kernel_rfl) (fun (s9 : (List Int)) => ([(0, .vc 1), (3, .ptr 2 0), (4, .nl)], [.gone, vecL (encI .u8) 1 5 s9, .box (encSt39 x1)])) s9 ?_ ?_
 ·refine kSR ?_
  refine RJ.seg 3 [0, 3, 4, 14] (L2 := [(0, .vc 3), (3, .ptr 1 0), (4, .nl), (14, .bool (decide (¬ x1.Mod_ = 0)))]) (H2 := [.gone, .box (encSt39 x1), vecL (encI .u8) 1 5 ([x1.Op_] : List Int), vecL (encI .u8) 1 5 (x0 ++ ([x1.Op_] : List Int))]) (by kernel_rfl) ?_
  refine kEN ?_
  refine J.caseB 14 (b := (decide (¬ x1.Mod_ = 0))) (by kernel_rfl) (fun hb14 => ?_) (fun hb14 => ?_)
  ·have h15 := condT hb14 hy11
   refine kT ?_
   refine kSR ?_
   refine kC 1 [0,3,4,15] ?_
   obtain ⟨hm, h17⟩ := asrt h15
   refine RJ.rel (d := (some 16)) (ef := ⟨.vc 4, [3], [(3, .gone), (4, .vec ((x0 ++ ([x1.Op_] : List Int)).length + ([32, 37, 32] : List UInt8).length) 1 5 ((x0 ++ ([x1.Op_] : List Int)).flatMap (encI .u8) ++ ([32, 37, 32] : List UInt8).map byteSV))]⟩) (ef' := ⟨.vc 4, [3], [(3, .gone), (4, vecL (encI .u8) 1 5 ((x0 ++ ([x1.Op_] : List Int)) ++ (bytesI ([32, 37, 32] : List UInt8))))]⟩) (c := roomB ((x0 ++ ([x1.Op_] : List Int)).length + ([32, 37, 32] : List UInt8).length)) (tr2 := []) (H2 := [.gone, .box (encSt39 x1), vecL (encI .u8) 1 5 ([x1.Op_] : List Int), .gone, vecL (encI .u8) 1 5 (((x0 ++ ([x1.Op_] : List Int)) ++ (bytesI ([32, 37, 32] : List UInt8))))]) (by kernel_rfl) (roomB_of_room hm) (fun hc => (by rw [bytes_eq, ← bytesI_len ([32, 37, 32] : List UInt8)]; exact N.app)) (by kernel_rfl) ?_
   refine kC 1 [0,3,4] ?_
   refine kEN ?_
   refine kR ?_
   refine kC 3 [0,3,4,17,19] ?_
   obtain ⟨y18, hy19, h20⟩ := bindS h17
   refine RJ.callG (d := (some 20)) (f := 33) (args := [.vc 4, .int .i64 x1.Mod_, .int .i64 10]) (args0 := [.vc 0, .int .i64 x1.Mod_, .int .i64 10]) (v0 := .vc 1) (v := .vc 5) (tr2 := []) (H0 := [vecL (encI .u8) 1 5 (((x0 ++ ([x1.Op_] : List Int)) ++ (bytesI ([32, 37, 32] : List UInt8))))]) (H0' := [.gone, vecL (encI .u8) 1 5 y18]) (H2 := [.gone, .box (encSt39 x1), vecL (encI .u8) 1 5 ([x1.Op_] : List Int), .gone, .gone, vecL (encI .u8) 1 5 y18]) [4] (by kernel_rfl) (by kernel_rfl) (by kernel_rfl) (by kernel_rfl) (by decide) (by kernel_rfl) (by kernel_rfl) (by kernel_rfl) (.cons (Le.refl _) (.cons (Le.refl _) (.cons (Le.refl _) .nil))) (strconv_AppendInt_ok_0o hy19) (by kernel_rfl) (by kernel_rfl) (by kernel_rfl) ?_
   refine RJ.seg 1 [0, 3, 4] (L2 := [(0, .vc 5), (3, .ptr 1 0), (4, .nl)]) (H2 := [.gone, .box (encSt39 x1), vecL (encI .u8) 1 5 ([x1.Op_] : List Int), .gone, .gone, vecL (encI .u8) 1 5 y18]) (by kernel_rfl) ?_
   refine kE ?_
   obtain rfl := oi h20
   refine PJ.wk (Wk.sel (L2 := [(0, .vc 1), (3, .ptr 2 0), (4, .nl)]) (H2 := [.gone, vecL (encI .u8) 1 5 y18, .box (encSt39 x1)]) 1 (by rw [hFH]; rfl) hFD [0, 5, 1] (by kernel_rfl) (by kernel_rfl) (by decide) (by kernel_rfl) (by kernel_rfl) (by kernel_rfl) (by kernel_rfl)) ?_
   exact kN [0, 3, 4]
  ·have h16 := condF hb14 hy11
   refine kF ?_
   refine kK ?_
   obtain rfl := oi h16
   refine PJ.wk (Wk.sel (L2 := [(0, .vc 1), (3, .ptr 2 0), (4, .nl)]) (H2 := [.gone, vecL (encI .u8) 1 5 (x0 ++ ([x1.Op_] : List Int)), .box (encSt39 x1)]) 1 (by rw [hFH]; rfl) hFD [0, 3, 1] (by kernel_rfl) (by kernel_rfl) (by decide) (by kernel_rfl) (by kernel_rfl) (by kernel_rfl) (by kernel_rfl)) ?_
   exact kN [0, 3, 4]
 ·obtain ⟨s26, hy28, h30⟩ := bindS h13
  refine K.cutN (by kernel_rfl) (fun (s26 : (List Int)) => ([(0, .vc 1), (3, .ptr 2 0), (4, .nl)], [.gone, vecL (encI .u8) 1 5 s26, .box (encSt39 x1)])) s26 ?_ ?_
  ·refine kSR ?_
   refine kC 2 [0,3,4,22] ?_
   refine kEN ?_
   refine J.caseB 22 (b := x1.Not_) (by kernel_rfl) (fun hb31 => ?_) (fun hb31 => ?_)
   ·have h32 := condT hb31 hy28
    refine kT ?_
    refine kR ?_
    refine kC 1 [0,3,4,23] ?_
    obtain ⟨hm, h34⟩ := asrt h32
    refine RJ.rel (d := (some 24)) (ef := ⟨.vc 3, [1], [(1, .gone), (3, .vec (s9.length + ([32, 33, 61, 32] : List UInt8).length) 1 5 (s9.flatMap (encI .u8) ++ ([32, 33, 61, 32] : List UInt8).map byteSV))]⟩) (ef' := ⟨.vc 3, [1], [(1, .gone), (3, vecL (encI .u8) 1 5 (s9 ++ (bytesI ([32, 33, 61, 32] : List UInt8))))]⟩) (c := roomB (s9.length + ([32, 33, 61, 32] : List UInt8).length)) (tr2 := []) (H2 := [.gone, .gone, .box (encSt39 x1), vecL (encI .u8) 1 5 ((s9 ++ (bytesI ([32, 33, 61, 32] : List UInt8))))]) (by kernel_rfl) (roomB_of_room hm) (fun hc => (by rw [bytes_eq, ← bytesI_len ([32, 33, 61, 32] : List UInt8)]; exact N.app)) (by kernel_rfl) ?_
    refine kC 1 [0,3,4] ?_
    refine kE ?_
    obtain rfl := oi h34
    refine PJ.wk (Wk.sel (L2 := [(0, .vc 1), (3, .ptr 2 0), (4, .nl)]) (H2 := [.gone, vecL (encI .u8) 1 5 ((s9 ++ (bytesI ([32, 33, 61, 32] : List UInt8)))), .box (encSt39 x1)]) 1 (by rw [hFH]; rfl) hFD [0, 3, 2] (by kernel_rfl) (by kernel_rfl) (by decide) (by kernel_rfl) (by kernel_rfl) (by kernel_rfl) (by kernel_rfl)) ?_
    exact kN [0, 3, 4]
   ·have h33 := condF hb31 hy28
    refine kF ?_
    refine kR ?_
    refine kC 1 [0,3,4,25] ?_
    obtain ⟨hm, h35⟩ := asrt h33
    refine RJ.rel (d := (some 26)) (ef := ⟨.vc 3, [1], [(1, .gone), (3, .vec (s9.length + ([32, 61, 32] : List UInt8).length) 1 5 (s9.flatMap (encI .u8) ++ ([32, 61, 32] : List UInt8).map byteSV))]⟩) (ef' := ⟨.vc 3, [1], [(1, .gone), (3, vecL (encI .u8) 1 5 (s9 ++ (bytesI ([32, 61, 32] : List UInt8))))]⟩) (c := roomB (s9.length + ([32, 61, 32] : List UInt8).length)) (tr2 := []) (H2 := [.gone, .gone, .box (encSt39 x1), vecL (encI .u8) 1 5 ((s9 ++ (bytesI ([32, 61, 32] : List UInt8))))]) (by kernel_rfl) (roomB_of_room hm) (fun hc => (by rw [bytes_eq, ← bytesI_len ([32, 61, 32] : List UInt8)]; exact N.app)) (by kernel_rfl) ?_
    refine kC 1 [0,3,4] ?_
    refine kE ?_
    obtain rfl := oi h35
    refine PJ.wk (Wk.sel (L2 := [(0, .vc 1), (3, .ptr 2 0), (4, .nl)]) (H2 := [.gone, vecL (encI .u8) 1 5 ((s9 ++ (bytesI ([32, 61, 32] : List UInt8)))), .box (encSt39 x1)]) 1 (by rw [hFH]; rfl) hFD [0, 3, 2] (by kernel_rfl) (by kernel_rfl) (by decide) (by kernel_rfl) (by kernel_rfl) (by kernel_rfl) (by kernel_rfl)) ?_
    exact kN [0, 3, 4]
  ·obtain ⟨s213, hy215, h217⟩ := bindS h30
   refine K.cutN (by kernel_rfl) (fun (s213 : (List Int)) => ([(0, .vc 1), (4, .nl)], [.gone, vecL (encI .u8) 1 5 s213])) s213 ?_ ?_
   ·refine kSR ?_
    refine kC 4 [0,4,28,29,30] ?_
    refine kEN ?_
    refine K.block 0 (by kernel_rfl) ?_
    refine J.wk (Wk.sel (L2 := [(0, .vc 1), (4, .nl), (28, lsv encSt41 2 x1.R_), (29, .int .i64 (x1.R_.length : Int)), (30, .int .i64 0)]) (H2 := [.gone, vecL (encI .u8) 1 5 s26]) 1 (by rw [hFH]; rfl) hFD [0, 1] (by kernel_rfl) (by kernel_rfl) (by decide) (by kernel_rfl) (by kernel_rfl) (by kernel_rfl) (by kernel_rfl)) ?_
    refine K.loop (by kernel_rfl) (fun (s218 : Int × (List Int)) => ([(0, .vc 1), (4, .nl), (28, lsv encSt41 2 x1.R_), (29, .int .i64 (x1.R_.length : Int)), (30, .int .i64 s218.1)], [.gone, vecL (encI .u8) 1 5 s218.2])) hy215 [0, 4, 28, 29, 30] (by kernel_rfl) (by kernel_rfl) (fun s218 x336 hs335 => ?_)
    refine kSR ?_
    refine kC 1 [0,4,28,29,30,31] ?_
    refine kEN ?_
    refine kS ?_
    refine J.caseB 31 (b := (decide (s218.1 < (x1.R_.length : Int)))) (by kernel_rfl) (fun hb337 => ?_) (fun hb337 => ?_)
    ·have h338 := condT hb337 hs335
     refine kT ?_
     refine kK ?_
     refine PJ.next ?_
     obtain ⟨s364, hy366, h368⟩ := bindS h338
     refine K.cutN (by kernel_rfl) (fun (s364 : (List Int)) => ([(0, .vc 1), (4, .nl), (28, lsv encSt41 2 x1.R_), (29, .int .i64 (x1.R_.length : Int)), (30, .int .i64 s218.1)], [.gone, vecL (encI .u8) 1 5 s364])) s364 ?_ ?_
     ·refine K.block 1 (by kernel_rfl) ?_
      refine kSR ?_
      refine kC 1 [0,4,28,29,30,32] ?_
      obtain ⟨hm, h369⟩ := asrt hy366
      refine RJ.rel (d := (some 33)) (ef := ⟨.ep (((x1.R_.flatMap encSt41).drop ((s218.1 : Int).toNat * 2)).take 2), [], []⟩) (ef' := ⟨.ep (encSt41 (nth x1.R_ s218.1)), [], []⟩) (c := inR s218.1 x1.R_.length) (tr2 := []) (H2 := [.gone, vecL (encI .u8) 1 5 s218.2]) (by kernel_rfl) hm (fun hc => N.idx encSt41_len hc) (by kernel_rfl) ?_
      refine kC 4 [0,4,5,6,28,29,30] ?_
      refine kEN ?_
      obtain ⟨s374, hy376, h378⟩ := bindS h369
      refine K.cutN (by kernel_rfl) (fun (s374 : (List Int)) => ([(0, .vc 1), (4, .nl), (6, .ptr 2 0), (28, lsv encSt41 2 x1.R_), (29, .int .i64 (x1.R_.length : Int)), (30, .int .i64 s218.1)], [.gone, vecL (encI .u8) 1 5 s374, .box [.int .i64 ((nth x1.R_ s218.1).a0_), .int .i64 ((nth x1.R_ s218.1).a1_)]])) s374 ?_ ?_
      ·refine kSR ?_
       refine RJ.seg 2 [0, 4, 6, 28, 29, 30, 36] (L2 := [(0, .vc 1), (4, .nl), (6, .ptr 2 0), (28, lsv encSt41 2 x1.R_), (29, .int .i64 (x1.R_.length : Int)), (30, .int .i64 s218.1), (36, .bool (decide (s218.1 > 0)))]) (H2 := [.gone, vecL (encI .u8) 1 5 s218.2, .box [.int .i64 ((nth x1.R_ s218.1).a0_), .int .i64 ((nth x1.R_ s218.1).a1_)]]) (by kernel_rfl) ?_
       refine kEN ?_
       refine J.caseB 36 (b := (decide (s218.1 > 0))) (by kernel_rfl) (fun hb379 => ?_) (fun hb379 => ?_)
       ·have h380 := condT hb379 hy376
        refine kT ?_
        refine kR ?_
        refine kC 2 [0,4,6,28,29,30,37,38] ?_
        obtain ⟨hm, h382⟩ := asrt h380
        refine RJ.rel (d := (some 39)) (ef := ⟨.vc 4, [1, 3], [(1, .gone), (4, .vec (s218.2.length + ([44] : List Int).length) 1 5 (s218.2.flatMap (encI .u8) ++ ([44] : List Int).flatMap (encI .u8)))]⟩) (ef' := ⟨.vc 4, [1, 3], [(1, .gone), (4, vecL (encI .u8) 1 5 (s218.2 ++ ([44] : List Int)))]⟩) (c := roomB (s218.2.length + ([44] : List Int).length)) (tr2 := []) (H2 := [.gone, .gone, .box [.int .i64 ((nth x1.R_ s218.1).a0_), .int .i64 ((nth x1.R_ s218.1).a1_)], vecL (encI .u8) 1 5 ([44] : List Int), vecL (encI .u8) 1 5 (s218.2 ++ ([44] : List Int))]) (by kernel_rfl) (roomB_of_room hm) (fun hc => N.app) (by kernel_rfl) ?_
        refine kC 1 [0,4,6,28,29,30] ?_
        refine kE ?_
        obtain rfl := oi h382
        refine PJ.wk (Wk.sel (L2 := [(0, .vc 1), (4, .nl), (6, .ptr 2 0), (28, lsv encSt41 2 x1.R_), (29, .int .i64 (x1.R_.length : Int)), (30, .int .i64 s218.1)]) (H2 := [.gone, vecL (encI .u8) 1 5 (s218.2 ++ ([44] : List Int)), .box [.int .i64 ((nth x1.R_ s218.1).a0_), .int .i64 ((nth x1.R_ s218.1).a1_)]]) 1 (by rw [hFH]; rfl) hFD [0, 4, 2] (by kernel_rfl) (by kernel_rfl) (by decide) (by kernel_rfl) (by kernel_rfl) (by kernel_rfl) (by kernel_rfl)) ?_
        exact kN [0, 4, 6, 28, 29, 30]
       ·have h381 := condF hb379 hy376
        refine kF ?_
        refine kK ?_
        obtain rfl := oi h381
        exact kN [0, 4, 6, 28, 29, 30]
      ·refine kSR ?_
       refine kC 3 [0,4,6,28,29,30,40,42] ?_
       obtain ⟨y383, hy384, h385⟩ := bindS h378
       refine RJ.callG (d := (some 43)) (f := 33) (args := [.vc 1, .int .i64 ((nth x1.R_ s218.1).a0_), .int .i64 10]) (args0 := [.vc 0, .int .i64 ((nth x1.R_ s218.1).a0_), .int .i64 10]) (v0 := .vc 1) (v := .vc 3) (tr2 := []) (H0 := [vecL (encI .u8) 1 5 s374]) (H0' := [.gone, vecL (encI .u8) 1 5 y383]) (H2 := [.gone, .gone, .box [.int .i64 ((nth x1.R_ s218.1).a0_), .int .i64 ((nth x1.R_ s218.1).a1_)], vecL (encI .u8) 1 5 y383]) [1] (by kernel_rfl) (by kernel_rfl) (by kernel_rfl) (by kernel_rfl) (by decide) (by kernel_rfl) (by kernel_rfl) (by kernel_rfl) (.cons (Le.refl _) (.cons (Le.refl _) (.cons (Le.refl _) .nil))) (strconv_AppendInt_ok_0o hy384) (by kernel_rfl) (by kernel_rfl) (by kernel_rfl) ?_
       refine kC 1 [0,4,6,28,29,30] ?_
       refine kEN ?_
       refine kSR ?_
       refine kC 5 [0,4,6,28,29,30,48] ?_
       refine kEN ?_
       refine J.caseB 48 (b := (decide (¬ ((nth x1.R_ s218.1).a0_) = ((nth x1.R_ s218.1).a1_)))) (by kernel_rfl) (fun hb386 => ?_) (fun hb386 => ?_)
       ·have h387 := condT hb386 h385
        refine kT ?_
        refine kSR ?_
        refine RJ.seg 1 [0, 4, 6, 28, 29, 30, 49] (L2 := [(0, .vc 3), (4, .nl), (6, .ptr 2 0), (28, lsv encSt41 2 x1.R_), (29, .int .i64 (x1.R_.length : Int)), (30, .int .i64 s218.1), (49, .vc 3)]) (H2 := [.gone, .gone, .box [.int .i64 ((nth x1.R_ s218.1).a0_), .int .i64 ((nth x1.R_ s218.1).a1_)], vecL (encI .u8) 1 5 y383]) (by kernel_rfl) ?_
        obtain ⟨hm, h389⟩ := asrt h387
        refine RJ.rel (d := (some 50)) (ef := ⟨.vc 4, [3], [(3, .gone), (4, .vec (y383.length + ([46, 46] : List UInt8).length) 1 5 (y383.flatMap (encI .u8) ++ ([46, 46] : List UInt8).map byteSV))]⟩) (ef' := ⟨.vc 4, [3], [(3, .gone), (4, vecL (encI .u8) 1 5 (y383 ++ (bytesI ([46, 46] : List UInt8))))]⟩) (c := roomB (y383.length + ([46, 46] : List UInt8).length)) (tr2 := []) (H2 := [.gone, .gone, .box [.int .i64 ((nth x1.R_ s218.1).a0_), .int .i64 ((nth x1.R_ s218.1).a1_)], .gone, vecL (encI .u8) 1 5 ((y383 ++ (bytesI ([46, 46] : List UInt8))))]) (by kernel_rfl) (roomB_of_room hm) (fun hc => (by rw [bytes_eq, ← bytesI_len ([46, 46] : List UInt8)]; exact N.app)) (by kernel_rfl) ?_
        refine kC 1 [0,4,6,28,29,30] ?_
        refine kEN ?_
        refine kR ?_
        refine kC 3 [0,4,28,29,30,51,53] ?_
        obtain ⟨y390, hy391, h392⟩ := bindS h389
        refine RJ.callG (d := (some 54)) (f := 33) (args := [.vc 4, .int .i64 ((nth x1.R_ s218.1).a1_), .int .i64 10]) (args0 := [.vc 0, .int .i64 ((nth x1.R_ s218.1).a1_), .int .i64 10]) (v0 := .vc 1) (v := .vc 5) (tr2 := []) (H0 := [vecL (encI .u8) 1 5 ((y383 ++ (bytesI ([46, 46] : List UInt8))))]) (H0' := [.gone, vecL (encI .u8) 1 5 y390]) (H2 := [.gone, .gone, .box [.int .i64 ((nth x1.R_ s218.1).a0_), .int .i64 ((nth x1.R_ s218.1).a1_)], .gone, .gone, vecL (encI .u8) 1 5 y390]) [4] (by kernel_rfl) (by kernel_rfl) (by kernel_rfl) (by kernel_rfl) (by decide) (by kernel_rfl) (by kernel_rfl) (by kernel_rfl) (.cons (Le.refl _) (.cons (Le.refl _) (.cons (Le.refl _) .nil))) (strconv_AppendInt_ok_0o hy391) (by kernel_rfl) (by kernel_rfl) (by kernel_rfl) ?_
        refine kC 1 [0,4,28,29,30] ?_
        refine kE ?_
        refine PJ.blockNormal ?_
        obtain rfl := oi h392
        refine PJ.wk (Wk.sel (L2 := [(0, .vc 1), (4, .nl), (28, lsv encSt41 2 x1.R_), (29, .int .i64 (x1.R_.length : Int)), (30, .int .i64 s218.1)]) (H2 := [.gone, vecL (encI .u8) 1 5 y390]) 1 (by rw [hFH]; rfl) hFD [0, 5] (by kernel_rfl) (by kernel_rfl) (by decide) (by kernel_rfl) (by kernel_rfl) (by kernel_rfl) (by kernel_rfl)) ?_
        exact kN [0, 4, 28, 29, 30]
       ·have h388 := condF hb386 h385
        refine kF ?_
        refine kK ?_
        refine PJ.blockNormal ?_
        obtain rfl := oi h388
        refine PJ.wk (Wk.sel (L2 := [(0, .vc 1), (4, .nl), (28, lsv encSt41 2 x1.R_), (29, .int .i64 (x1.R_.length : Int)), (30, .int .i64 s218.1)]) (H2 := [.gone, vecL (encI .u8) 1 5 y383]) 1 (by rw [hFH]; rfl) hFD [0, 3] (by kernel_rfl) (by kernel_rfl) (by decide) (by kernel_rfl) (by kernel_rfl) (by kernel_rfl) (by kernel_rfl)) ?_
        exact kN [0, 4, 28, 29, 30]
     ·refine kR ?_
      refine kC 2 [0,4,28,29,30] ?_
      refine kE ?_
      obtain rfl := oi h368
      exact PJ.loopNext [0, 4, 28, 29, 30] (by kernel_rfl) (by kernel_rfl)
    ·have h339 := condF hb337 hs335
     refine kF ?_
     refine K.exit 0 (by kernel_rfl) ?_
     refine PJ.passExit ?_
     obtain rfl := oi h339
     refine PJ.loopOut (fun e => nomatch e) (fun he394 => ?_)
     have h393 := congrArg some he394
     refine PJ.blockOut ?_
     obtain rfl := oi h393
     exact kN [0, 4]
   ·refine kSR ?_
    refine kC 2 [4] ?_
    refine kEN ?_
    refine kX ?_
    obtain rfl := oi h217
    exact K.retV (H0 := [vecL (encI .u8) 1 5 x0]) [0, 1] (.inr rfl) hFn hFH hFD (by kernel_rfl) (v1 := .vc 1) (by kernel_rfl) (by kernel_rfl) (by kernel_rfl) (by decide) (by kernel_rfl) (by kernel_rfl) (by kernel_rfl) (by kernel_rfl) (by kernel_rfl)
def rule_Text (x0 : List (List St39)) : Option (List UInt8) :=
 (Option.bind (loopN (fun (s1143 : Int × (List Int)) => (bif (decide (s1143.1 < (x0.length : Int))) then (Option.bind (bif inR s1143.1 x0.length then (loopN (fun (s2095 : Int × (List Int)) => (bif (decide (s2095.1 < ((nth x0 s1143.1).length : Int))) then (Option.bind (bif inR s2095.1 (nth x0 s1143.1).length then (Option.bind (bif (decide ((s2095.2.length : Int) = 0)) then (some s2095.2) else (bif (decide (s2095.1 = 0)) then (bif room (s2095.2.length + ([32, 111, 114, 32] : List UInt8).length) then (some ((s2095.2 ++ (bytesI ([32, 111, 114, 32] : List UInt8))))) else none) else (bif room (s2095.2.length + ([32, 97, 110, 100, 32] : List UInt8).length) then (some ((s2095.2 ++ (bytesI ([32, 97, 110, 100, 32] : List UInt8))))) else none))) fun (s2260 : (List Int)) => (Option.bind (rule_relation s2260 (nth (nth x0 s1143.1) s2095.1)) fun y2273 => (some y2273))) else none) fun (s2246 : (List Int)) => (some (.inl ((IntKind.wrap .i64 (s2095.1 + 1)), s2246)))) else (some (.inr s2095.2)))) big (0, s1143.2)) else none) fun (s2089 : (List Int)) => (some (.inl ((IntKind.wrap .i64 (s1143.1 + 1)), s2089)))) else (some (.inr s1143.2)))) big (0, ([] : List Int))) fun (s1138 : (List Int)) => (some (bytesS s1138)))
theorem rule_Text_ok {x0 : List (List St39)} {r : List UInt8} (h : rule_Text x0 = some r) : SC Tryz.prog 10 [lsv (encL encSt39 4) 1 x0] [] (.str r) [] := by
 refine kFn (fn := Tryz.f10) (fun F hFn hFH hFD => ?_)
 unfold rule_Text at h
 refine kSR ?_
 refine kC 1 [0,2] ?_
 refine kEN ?_
 refine kSR ?_
 refine kC 1 [0,2,3] ?_
 refine kEN ?_
 obtain ⟨s1138, hy1140, h1142⟩ := bindS h
 refine K.cutN (by kernel_rfl) (fun (s1138 : (List Int)) => ([(2, .str ([] : List UInt8)), (3, .vc 0)], [vecL (encI .u8) 1 5 s1138])) s1138 ?_ ?_
 ·refine kSR ?_
  refine kC 3 [2,3,8,9,10] ?_
  refine kEN ?_
  refine K.block 0 (by kernel_rfl) ?_
  refine J.wk (Wk.viv 3 1 5 (by kernel_rfl)) ?_
  refine K.loop (by kernel_rfl) (fun (s1143 : Int × (List Int)) => ([(2, .str ([] : List UInt8)), (3, .vc 0), (8, lsv (encL encSt39 4) 1 x0), (9, .int .i64 (x0.length : Int)), (10, .int .i64 s1143.1)], [vecL (encI .u8) 1 5 s1143.2])) hy1140 [2, 3, 8, 9, 10] (by kernel_rfl) (by kernel_rfl) (fun s1143 x1901 hs1900 => ?_)
  refine kSR ?_
  refine kC 1 [2,3,8,9,10,11] ?_
  refine kEN ?_
  refine kS ?_
  refine J.caseB 11 (b := (decide (s1143.1 < (x0.length : Int)))) (by kernel_rfl) (fun hb1902 => ?_) (fun hb1902 => ?_)
  ·have h1903 := condT hb1902 hs1900
   refine kT ?_
   refine kK ?_
   refine PJ.next ?_
   obtain ⟨s2089, hy2091, h2093⟩ := bindS h1903
   refine K.cutN (by kernel_rfl) (fun (s2089 : (List Int)) => ([(2, .str ([] : List UInt8)), (3, .vc 0), (8, lsv (encL encSt39 4) 1 x0), (9, .int .i64 (x0.length : Int)), (10, .int .i64 s1143.1)], [vecL (encI .u8) 1 5 s2089])) s2089 ?_ ?_
   ·refine K.block 1 (by kernel_rfl) ?_
    refine kSR ?_
    obtain ⟨hm, h2094⟩ := asrt hy2091
    refine RJ.rel (d := (some 12)) (ef := ⟨.ep (((x0.flatMap (encL encSt39 4)).drop ((s1143.1 : Int).toNat * 1)).take 1), [], []⟩) (ef' := ⟨.ep ((encL encSt39 4) (nth x0 s1143.1)), [], []⟩) (c := inR s1143.1 x0.length) (tr2 := []) (H2 := [vecL (encI .u8) 1 5 s1143.2]) (by kernel_rfl) hm (fun hc => N.idx (encL_len encSt39 4) hc) (by kernel_rfl) ?_
    refine kC 2 [2,3,5,8,9,10] ?_
    refine kEN ?_
    refine kSR ?_
    refine kC 3 [2,3,8,9,10,14,15,16] ?_
    refine kEN ?_
    refine K.block 2 (by kernel_rfl) ?_
    refine K.loop (by kernel_rfl) (fun (s2095 : Int × (List Int)) => ([(2, .str ([] : List UInt8)), (3, .vc 0), (8, lsv (encL encSt39 4) 1 x0), (9, .int .i64 (x0.length : Int)), (10, .int .i64 s1143.1), (14, lsv encSt39 4 (nth x0 s1143.1)), (15, .int .i64 ((nth x0 s1143.1).length : Int)), (16, .int .i64 s2095.1)], [vecL (encI .u8) 1 5 s2095.2])) h2094 [2, 3, 8, 9, 10, 14, 15, 16] (by kernel_rfl) (by kernel_rfl) (fun s2095 x2217 hs2216 => ?_)
    refine kSR ?_
    refine kC 1 [2,3,8,9,10,14,15,16,17] ?_
    refine kEN ?_
    refine kS ?_
    refine J.caseB 17 (b := (decide (s2095.1 < ((nth x0 s1143.1).length : Int)))) (by kernel_rfl) (fun hb2218 => ?_) (fun hb2218 => ?_)
    ·have h2219 := condT hb2218 hs2216
     refine kT ?_
     refine kK ?_
     refine PJ.next ?_
     obtain ⟨s2246, hy2248, h2250⟩ := bindS h2219
     refine K.cutN (by kernel_rfl) (fun (s2246 : (List Int)) => ([(2, .str ([] : List UInt8)), (3, .vc 0), (8, lsv (encL encSt39 4) 1 x0), (9, .int .i64 (x0.length : Int)), (10, .int .i64 s1143.1), (14, lsv encSt39 4 (nth x0 s1143.1)), (15, .int .i64 ((nth x0 s1143.1).length : Int)), (16, .int .i64 s2095.1)], [vecL (encI .u8) 1 5 s2246])) s2246 ?_ ?_
     ·refine K.block 3 (by kernel_rfl) ?_
      refine kSR ?_
      refine kC 1 [2,3,8,9,10,14,15,16,18] ?_
      obtain ⟨hm, h2251⟩ := asrt hy2248
      refine RJ.rel (d := (some 19)) (ef := ⟨.ep ((((nth x0 s1143.1).flatMap encSt39).drop ((s2095.1 : Int).toNat * 4)).take 4), [], []⟩) (ef' := ⟨.ep (encSt39 (nth (nth x0 s1143.1) s2095.1)), [], []⟩) (c := inR s2095.1 (nth x0 s1143.1).length) (tr2 := []) (H2 := [vecL (encI .u8) 1 5 s2095.2]) (by kernel_rfl) hm (fun hc => N.idx encSt39_len hc) (by kernel_rfl) ?_
      refine kC 4 [2,3,6,7,8,9,10,14,15,16] ?_
      refine kEN ?_
      obtain ⟨s2260, hy2262, h2264⟩ := bindS h2251
      refine K.cutN (by kernel_rfl) (fun (s2260 : (List Int)) => ([(2, .str ([] : List UInt8)), (3, .vc 0), (7, .ptr 1 0), (8, lsv (encL encSt39 4) 1 x0), (9, .int .i64 (x0.length : Int)), (10, .int .i64 s1143.1), (14, lsv encSt39 4 (nth x0 s1143.1)), (15, .int .i64 ((nth x0 s1143.1).length : Int)), (16, .int .i64 s2095.1)], [vecL (encI .u8) 1 5 s2260, .box [.int .u8 ((nth (nth x0 s1143.1) s2095.1).Op_), .int .i64 ((nth (nth x0 s1143.1) s2095.1).Mod_), .bool ((nth (nth x0 s1143.1) s2095.1).Not_), lsv encSt41 2 ((nth (nth x0 s1143.1) s2095.1).R_)]])) s2260 ?_ ?_
      ·refine K.block 4 (by kernel_rfl) ?_
       refine kSR ?_
       refine RJ.seg 4 [2, 3, 6, 7, 8, 9, 10, 14, 15, 16, 23] (L2 := [(2, .str ([] : List UInt8)), (3, .vc 0), (6, .int .i64 s2095.1), (7, .ptr 1 0), (8, lsv (encL encSt39 4) 1 x0), (9, .int .i64 (x0.length : Int)), (10, .int .i64 s1143.1), (14, lsv encSt39 4 (nth x0 s1143.1)), (15, .int .i64 ((nth x0 s1143.1).length : Int)), (16, .int .i64 s2095.1), (23, .bool ((decide ((s2095.2.length : Int) = 0))))]) (H2 := [vecL (encI .u8) 1 5 s2095.2, .box [.int .u8 ((nth (nth x0 s1143.1) s2095.1).Op_), .int .i64 ((nth (nth x0 s1143.1) s2095.1).Mod_), .bool ((nth (nth x0 s1143.1) s2095.1).Not_), lsv encSt41 2 ((nth (nth x0 s1143.1) s2095.1).R_)]]) (by kernel_rfl) ?_
       refine kEN ?_
       refine J.caseB 23 (b := (decide ((s2095.2.length : Int) = 0))) (by kernel_rfl) (fun hb2265 => ?_) (fun hb2265 => ?_)
       ·have h2266 := condT hb2265 hy2262
        refine kT ?_
        refine kK ?_
        refine PJ.blockNormal ?_
        obtain rfl := oi h2266
        exact kN [2, 3, 7, 8, 9, 10, 14, 15, 16]
       ·have h2267 := condF hb2265 hy2262
        refine kF ?_
        refine kSR ?_
        refine kC 3 [2,3,7,8,9,10,14,15,16,27] ?_
        refine kEN ?_
        refine J.caseB 27 (b := (decide (s2095.1 = 0))) (by kernel_rfl) (fun hb2268 => ?_) (fun hb2268 => ?_)
        ·have h2269 := condT hb2268 h2267
         refine kT ?_
         refine kR ?_
         refine kC 1 [2,3,7,8,9,10,14,15,16,30] ?_
         obtain ⟨hm, h2271⟩ := asrt h2269
         refine RJ.rel (d := (some 31)) (ef := ⟨.vc 2, [0], [(0, .gone), (2, .vec (s2095.2.length + ([32, 111, 114, 32] : List UInt8).length) 1 5 (s2095.2.flatMap (encI .u8) ++ ([32, 111, 114, 32] : List UInt8).map byteSV))]⟩) (ef' := ⟨.vc 2, [0], [(0, .gone), (2, vecL (encI .u8) 1 5 (s2095.2 ++ (bytesI ([32, 111, 114, 32] : List UInt8))))]⟩) (c := roomB (s2095.2.length + ([32, 111, 114, 32] : List UInt8).length)) (tr2 := []) (H2 := [.gone, .box [.int .u8 ((nth (nth x0 s1143.1) s2095.1).Op_), .int .i64 ((nth (nth x0 s1143.1) s2095.1).Mod_), .bool ((nth (nth x0 s1143.1) s2095.1).Not_), lsv encSt41 2 ((nth (nth x0 s1143.1) s2095.1).R_)], vecL (encI .u8) 1 5 ((s2095.2 ++ (bytesI ([32, 111, 114, 32] : List UInt8))))]) (by kernel_rfl) (roomB_of_room hm) (fun hc => (by rw [bytes_eq, ← bytesI_len ([32, 111, 114, 32] : List UInt8)]; exact N.app)) (by kernel_rfl) ?_
         refine kC 1 [2,3,7,8,9,10,14,15,16] ?_
         refine kE ?_
         refine PJ.blockNormal ?_
         obtain rfl := oi h2271
         refine PJ.wk (Wk.sel (L2 := [(2, .str ([] : List UInt8)), (3, .vc 0), (7, .ptr 1 0), (8, lsv (encL encSt39 4) 1 x0), (9, .int .i64 (x0.length : Int)), (10, .int .i64 s1143.1), (14, lsv encSt39 4 (nth x0 s1143.1)), (15, .int .i64 ((nth x0 s1143.1).length : Int)), (16, .int .i64 s2095.1)]) (H2 := [vecL (encI .u8) 1 5 ((s2095.2 ++ (bytesI ([32, 111, 114, 32] : List UInt8)))), .box [.int .u8 ((nth (nth x0 s1143.1) s2095.1).Op_), .int .i64 ((nth (nth x0 s1143.1) s2095.1).Mod_), .bool ((nth (nth x0 s1143.1) s2095.1).Not_), lsv encSt41 2 ((nth (nth x0 s1143.1) s2095.1).R_)]]) 0 (by rw [hFH]; rfl) hFD [2, 1] (by kernel_rfl) (by kernel_rfl) (by decide) (by kernel_rfl) (by kernel_rfl) (by kernel_rfl) (by kernel_rfl)) ?_
         exact kN [2, 3, 7, 8, 9, 10, 14, 15, 16]
        ·have h2270 := condF hb2268 h2267
         refine kF ?_
         refine kR ?_
         refine kC 1 [2,3,7,8,9,10,14,15,16,21] ?_
         obtain ⟨hm, h2272⟩ := asrt h2270
         refine RJ.rel (d := (some 22)) (ef := ⟨.vc 2, [0], [(0, .gone), (2, .vec (s2095.2.length + ([32, 97, 110, 100, 32] : List UInt8).length) 1 5 (s2095.2.flatMap (encI .u8) ++ ([32, 97, 110, 100, 32] : List UInt8).map byteSV))]⟩) (ef' := ⟨.vc 2, [0], [(0, .gone), (2, vecL (encI .u8) 1 5 (s2095.2 ++ (bytesI ([32, 97, 110, 100, 32] : List UInt8))))]⟩) (c := roomB (s2095.2.length + ([32, 97, 110, 100, 32] : List UInt8).length)) (tr2 := []) (H2 := [.gone, .box [.int .u8 ((nth (nth x0 s1143.1) s2095.1).Op_), .int .i64 ((nth (nth x0 s1143.1) s2095.1).Mod_), .bool ((nth (nth x0 s1143.1) s2095.1).Not_), lsv encSt41 2 ((nth (nth x0 s1143.1) s2095.1).R_)], vecL (encI .u8) 1 5 ((s2095.2 ++ (bytesI ([32, 97, 110, 100, 32] : List UInt8))))]) (by kernel_rfl) (roomB_of_room hm) (fun hc => (by rw [bytes_eq, ← bytesI_len ([32, 97, 110, 100, 32] : List UInt8)]; exact N.app)) (by kernel_rfl) ?_
         refine kC 1 [2,3,7,8,9,10,14,15,16] ?_
         refine kE ?_
         refine PJ.blockNormal ?_
         obtain rfl := oi h2272
         refine PJ.wk (Wk.sel (L2 := [(2, .str ([] : List UInt8)), (3, .vc 0), (7, .ptr 1 0), (8, lsv (encL encSt39 4) 1 x0), (9, .int .i64 (x0.length : Int)), (10, .int .i64 s1143.1), (14, lsv encSt39 4 (nth x0 s1143.1)), (15, .int .i64 ((nth x0 s1143.1).length : Int)), (16, .int .i64 s2095.1)]) (H2 := [vecL (encI .u8) 1 5 ((s2095.2 ++ (bytesI ([32, 97, 110, 100, 32] : List UInt8)))), .box [.int .u8 ((nth (nth x0 s1143.1) s2095.1).Op_), .int .i64 ((nth (nth x0 s1143.1) s2095.1).Mod_), .bool ((nth (nth x0 s1143.1) s2095.1).Not_), lsv encSt41 2 ((nth (nth x0 s1143.1) s2095.1).R_)]]) 0 (by rw [hFH]; rfl) hFD [2, 1] (by kernel_rfl) (by kernel_rfl) (by decide) (by kernel_rfl) (by kernel_rfl) (by kernel_rfl) (by kernel_rfl)) ?_
         exact kN [2, 3, 7, 8, 9, 10, 14, 15, 16]
      ·refine kR ?_
       refine kC 2 [2,3,8,9,10,14,15,16,32,33] ?_
       obtain ⟨y2273, hy2274, h2275⟩ := bindS h2264
       refine RJ.callG (d := (some 34)) (f := 21) (args := [.vc 0, .agg [.int .u8 ((nth (nth x0 s1143.1) s2095.1).Op_), .int .i64 ((nth (nth x0 s1143.1) s2095.1).Mod_), .bool ((nth (nth x0 s1143.1) s2095.1).Not_), lsv encSt41 2 ((nth (nth x0 s1143.1) s2095.1).R_)]]) (args0 := [.vc 0, .agg [.int .u8 ((nth (nth x0 s1143.1) s2095.1).Op_), .int .i64 ((nth (nth x0 s1143.1) s2095.1).Mod_), .bool ((nth (nth x0 s1143.1) s2095.1).Not_), lsv encSt41 2 ((nth (nth x0 s1143.1) s2095.1).R_)]]) (v0 := .vc 1) (v := .vc 2) (tr2 := []) (H0 := [vecL (encI .u8) 1 5 s2260]) (H0' := [.gone, vecL (encI .u8) 1 5 y2273]) (H2 := [.gone, .box [.int .u8 ((nth (nth x0 s1143.1) s2095.1).Op_), .int .i64 ((nth (nth x0 s1143.1) s2095.1).Mod_), .bool ((nth (nth x0 s1143.1) s2095.1).Not_), lsv encSt41 2 ((nth (nth x0 s1143.1) s2095.1).R_)], vecL (encI .u8) 1 5 y2273]) [0] (by kernel_rfl) (by kernel_rfl) (by kernel_rfl) (by kernel_rfl) (by decide) (by kernel_rfl) (by kernel_rfl) (by kernel_rfl) (.cons (Le.refl _) (.cons (Le.refl _) .nil)) (rule_relation_ok_0o hy2274) (by kernel_rfl) (by kernel_rfl) (by kernel_rfl) ?_
       refine kC 1 [2,3,8,9,10,14,15,16] ?_
       refine kE ?_
       refine PJ.blockNormal ?_
       obtain rfl := oi h2275
       refine PJ.wk (Wk.sel (L2 := [(2, .str ([] : List UInt8)), (3, .vc 0), (8, lsv (encL encSt39 4) 1 x0), (9, .int .i64 (x0.length : Int)), (10, .int .i64 s1143.1), (14, lsv encSt39 4 (nth x0 s1143.1)), (15, .int .i64 ((nth x0 s1143.1).length : Int)), (16, .int .i64 s2095.1)]) (H2 := [vecL (encI .u8) 1 5 y2273]) 0 (by rw [hFH]; rfl) hFD [2] (by kernel_rfl) (by kernel_rfl) (by decide) (by kernel_rfl) (by kernel_rfl) (by kernel_rfl) (by kernel_rfl)) ?_
       exact kN [2, 3, 8, 9, 10, 14, 15, 16]
     ·refine kR ?_
      refine kC 2 [2,3,8,9,10,14,15,16] ?_
      refine kE ?_
      obtain rfl := oi h2250
      exact PJ.loopNext [2, 3, 8, 9, 10, 14, 15, 16] (by kernel_rfl) (by kernel_rfl)
    ·have h2220 := condF hb2218 hs2216
     refine kF ?_
     refine K.exit 2 (by kernel_rfl) ?_
     refine PJ.passExit ?_
     obtain rfl := oi h2220
     refine PJ.loopOut (fun e => nomatch e) (fun he2277 => ?_)
     have h2276 := congrArg some he2277
     refine PJ.blockOut ?_
     refine PJ.blockNormal ?_
     obtain rfl := oi h2276
     exact kN [2, 3, 8, 9, 10]
   ·refine kR ?_
    refine kC 2 [2,3,8,9,10] ?_
    refine kE ?_
    obtain rfl := oi h2093
    exact PJ.loopNext [2, 3, 8, 9, 10] (by kernel_rfl) (by kernel_rfl)
  ·have h1904 := condF hb1902 hs1900
   refine kF ?_
   refine K.exit 0 (by kernel_rfl) ?_
   refine PJ.passExit ?_
   obtain rfl := oi h1904
   refine PJ.loopOut (fun e => nomatch e) (fun he2279 => ?_)
   have h2278 := congrArg some he2279
   refine PJ.blockOut ?_
   obtain rfl := oi h2278
   exact kN [2, 3]
 ·refine kSR ?_
  refine kC 1 [2,37] ?_
  refine RJ.rel (d := (some 38)) (ef := ⟨.str ((s1138.flatMap (encI .u8)).map Go.Sy.byteOf), [0], []⟩) (ef' := ⟨.str (bytesS s1138), [0], []⟩) (c := (s1138.flatMap (encI .u8)).all isByte) (tr2 := []) (H2 := [vecL (encI .u8) 1 5 s1138]) (by kernel_rfl) (allByte s1138) (fun hc => N.toStr) (by kernel_rfl) ?_
  refine kC 1 [2] ?_
  refine kEN ?_
  refine kX ?_
  obtain rfl := oi h1142
  exact kZ hFn hFH hFD
def slices_Equal (x0 : List St41) (x1 : List St41) : Option (Bool) :=
 (bif (decide (¬ (x0.length : Int) = (x1.length : Int))) then (some false) else (Option.bind (loopN (fun (s51 : Int) => (bif (decide (s51 < (x0.length : Int))) then (bif inR s51 x0.length then (bif inR s51 x1.length then (bif (!((decide (((nth x0 s51).a0_) = ((nth x1 s51).a0_))) && ((decide (((nth x0 s51).a1_) = ((nth x1 s51).a1_))) && true))) then (some (.inr (.inr false))) else (some (.inl (IntKind.wrap .i64 (s51 + 1))))) else none) else none) else (some (.inr (.inl ()))))) big 0) (joinX fun (s46 : Unit) => (some true))))
theorem slices_Equal_ok {x0 : List St41} {x1 : List St41} {r : Bool} (h : slices_Equal x0 x1 = some r) : SC Tryz.prog 32 [lsv encSt41 2 x0, lsv encSt41 2 x1] [] (.bool r) [] := by
 refine kFn (fn := Tryz.f32) (fun F hFn hFH hFD => ?_)
 unfold slices_Equal at h
 refine kSR ?_
 refine kC 1 [0,1,4] ?_
 refine kEN ?_
 refine kS ?_
 refine kSR ?_
 refine kC 5 [0,1,4,10] ?_
 refine kEN ?_
 refine J.caseB 10 (b := (decide (¬ (x0.length : Int) = (x1.length : Int)))) (by kernel_rfl) (fun hb1 => ?_) (fun hb1 => ?_)
 ·have h2 := condT hb1 h
  refine kT ?_
  refine kSR ?_
  refine kC 1 [0,1,4] ?_
  refine kEN ?_
  refine kX ?_
  refine PJ.passRet ?_
  obtain rfl := oi h2
  exact kZ hFn hFH hFD
 ·have h3 := condF hb1 h
  refine kF ?_
  refine kK ?_
  refine PJ.next ?_
  obtain ⟨y47, hy48, h49⟩ := bindS h3
  refine K.cutX (by kernel_rfl) (fun (s46 : Unit) => ([(4, .bool false)], [])) y47 ?_ (fun s46 hs => ?_)
  ·refine kSR ?_
   refine kC 3 [0,1,4,12,13] ?_
   refine kEN ?_
   refine K.block 0 (by kernel_rfl) ?_
   refine K.loop (by kernel_rfl) (fun (s51 : Int) => ([(0, lsv encSt41 2 x0), (1, lsv encSt41 2 x1), (4, .bool false), (12, .int .i64 (x0.length : Int)), (13, .int .i64 s51)], [])) hy48 [0, 1, 4, 12, 13] (by kernel_rfl) (by kernel_rfl) (fun s51 x79 hs78 => ?_)
   refine kSR ?_
   refine kC 1 [0,1,4,12,13,14] ?_
   refine kEN ?_
   refine kS ?_
   refine J.caseB 14 (b := (decide (s51 < (x0.length : Int)))) (by kernel_rfl) (fun hb80 => ?_) (fun hb80 => ?_)
   ·have h81 := condT hb80 hs78
    refine kT ?_
    refine kK ?_
    refine PJ.next ?_
    refine kS ?_
    refine K.block 1 (by kernel_rfl) ?_
    refine kSR ?_
    refine kC 2 [0,1,4,5,12,13] ?_
    refine kEN ?_
    refine kS ?_
    refine J.keep [0, 1, 4, 5, 12, 13] (L2 := [(0, lsv encSt41 2 x0), (1, lsv encSt41 2 x1), (4, .bool false), (5, .int .i64 s51), (12, .int .i64 (x0.length : Int)), (13, .int .i64 s51)]) (by kernel_rfl) ?_
    refine K.draw (by kernel_rfl) (by kernel_rfl) (by kernel_rfl) (H2 := []) (by kernel_rfl) (n := 0) (by kernel_rfl) ?_
    refine kD 2 ?_
    obtain ⟨hm, h83⟩ := asrt h81
    refine RJ.rel (d := (some 18)) (ef := ⟨.ep (((x0.flatMap encSt41).drop ((s51 : Int).toNat * 2)).take 2), [], []⟩) (ef' := ⟨.ep (encSt41 (nth x0 s51)), [], []⟩) (c := inR s51 x0.length) (tr2 := [([], []), ([], []), ([], [])]) (H2 := []) (by kernel_rfl) hm (fun hc => N.idx encSt41_len hc) (by kernel_rfl) ?_
    refine RJ.segD 3 (tr2 := [([], []), ([], []), ([], []), ([], []), ([], []), ([], [])]) (L2 := [(21, .int .i64 s51), (20, lsv encSt41 2 x1), (19, .agg [.int .i64 ((nth x0 s51).a0_), .int .i64 ((nth x0 s51).a1_)]), (18, .ep [.int .i64 ((nth x0 s51).a0_), .int .i64 ((nth x0 s51).a1_)]), (17, .int .i64 s51), (16, lsv encSt41 2 x0), (0, lsv encSt41 2 x0), (1, lsv encSt41 2 x1), (4, .bool false), (5, .int .i64 s51), (12, .int .i64 (x0.length : Int)), (13, .int .i64 s51)]) (H2 := []) (by kernel_rfl) ?_
    obtain ⟨hm, h84⟩ := asrt h83
    refine RJ.rel (d := (some 22)) (ef := ⟨.ep (((x1.flatMap encSt41).drop ((s51 : Int).toNat * 2)).take 2), [], []⟩) (ef' := ⟨.ep (encSt41 (nth x1 s51)), [], []⟩) (c := inR s51 x1.length) (tr2 := [([], []), ([], []), ([], []), ([], []), ([], []), ([], []), ([], [])]) (H2 := []) (by kernel_rfl) hm (fun hc => N.idx encSt41_len hc) (by kernel_rfl) ?_
    refine kD 2 ?_
    refine kEN ?_
    refine J.caseB 24 (b := (!((decide (((nth x0 s51).a0_) = ((nth x1 s51).a0_))) && ((decide (((nth x0 s51).a1_) = ((nth x1 s51).a1_))) && true)))) (by kernel_rfl) (fun hb85 => ?_) (fun hb85 => ?_)
    ·have h86 := condT hb85 h84
     refine kT ?_
     refine kSR ?_
     refine kC 1 [0,1,4,12,13] ?_
     refine kEN ?_
     refine kX ?_
     refine PJ.blockRet ?_
     refine PJ.passRet ?_
     obtain rfl := oi h86
     refine PJ.loopOut (fun e => nomatch e) (fun he90 => ?_)
     have h88 := congrArg some he90
     refine PJ.blockRet ?_
     obtain rfl := oi h88
     have h89 := joinX_inr h49
     refine PJ.cutXr (fun e => nomatch e) ?_
     obtain rfl := oi h89
     exact kZ hFn hFH hFD
    ·have h87 := condF hb85 h84
     refine kF ?_
     refine kK ?_
     refine PJ.blockNormal ?_
     refine PJ.next ?_
     refine kR ?_
     refine kC 2 [0,1,4,12,13] ?_
     refine kE ?_
     obtain rfl := oi h87
     exact PJ.loopNext [0, 1, 4, 12, 13] (by kernel_rfl) (by kernel_rfl)
   ·have h82 := condF hb80 hs78
    refine kF ?_
    refine K.exit 0 (by kernel_rfl) ?_
    refine PJ.passExit ?_
    obtain rfl := oi h82
    refine PJ.loopOut (fun e => nomatch e) (fun he92 => ?_)
    have h91 := congrArg some he92
    refine PJ.blockOut ?_
    obtain rfl := oi h91
    exact PJ.cutXl [4] (by kernel_rfl) (by kernel_rfl)
  ·subst hs
   have h50 := joinX_inl h49
   refine kSR ?_
   refine kC 1 [4] ?_
   refine kEN ?_
   refine kX ?_
   obtain rfl := oi h50
   exact kZ hFn hFH hFD
def rule_sameRel (x0 : St39) (x1 : St39) : Option (Bool) :=
 (Option.bind (bif (decide (x0.Op_ = x1.Op_)) then (bif (decide (x0.Mod_ = x1.Mod_)) then (bif (x0.Not_ == x1.Not_) then (Option.bind (slices_Equal x0.R_ x1.R_) fun y27 => (some y27)) else (some false)) else (some false)) else (some false)) fun (s13 : Bool) => (some s13))
theorem rule_sameRel_ok {x0 : St39} {x1 : St39} {r : Bool} (h : rule_sameRel x0 x1 = some r) : SC Tryz.prog 20 [.agg (encSt39 x0), .agg (encSt39 x1)] [] (.bool r) [] := by
 refine kFn (fn := Tryz.f20) (fun F hFn hFH hFD => ?_)
 unfold rule_sameRel at h
 refine kSR ?_
 refine kC 3 [2,3,4] ?_
 refine kEN ?_
 obtain ⟨s13, hy15, h17⟩ := bindS h
 refine K.cutN (by kernel_rfl) (fun (s13 : Bool) => ([(4, .bool s13)], [])) s13 ?_ ?_
 ·refine kR ?_
  refine kC 6 [2,3,4,10] ?_
  refine RJ.caseB 10 (b := (decide (x0.Op_ = x1.Op_))) (by kernel_rfl) (fun hb18 => ?_) (fun hb18 => ?_)
  ·have h19 := condT hb18 hy15
   refine kC 7 [2,3,4,17] ?_
   refine RJ.caseB 17 (b := (decide (x0.Mod_ = x1.Mod_))) (by kernel_rfl) (fun hb21 => ?_) (fun hb21 => ?_)
   ·have h22 := condT hb21 h19
    refine RJ.seg 7 [2, 3, 4, 24] (L2 := [(2, .ptr 0 0), (3, .ptr 1 0), (4, .bool false), (24, .bool (x0.Not_ == x1.Not_))]) (H2 := [.box (encSt39 x0), .box (encSt39 x1)]) (by kernel_rfl) ?_
    refine RJ.caseB 24 (b := (x0.Not_ == x1.Not_)) (by kernel_rfl) (fun hb24 => ?_) (fun hb24 => ?_)
    ·have h25 := condT hb24 h22
     refine kC 4 [4,24,26,28] ?_
     obtain ⟨y27, hy28, h29⟩ := bindS h25
     refine RJ.call0 (d := (some 29)) (f := 32) (args := [lsv encSt41 2 x0.R_, lsv encSt41 2 x1.R_]) (v := .bool y27) (tr2 := []) (by kernel_rfl) (by kernel_rfl) (.cons (Le.refl _) (.cons (Le.refl _) .nil)) (slices_Equal_ok hy28) (by kernel_rfl) ?_
     refine kC 2 [4] ?_
     refine kE ?_
     obtain rfl := oi h29
     refine PJ.wk (Wk.sel (L2 := [(4, .bool y27)]) (H2 := []) 0 (by rw [hFH]; rfl) hFD [] (by kernel_rfl) (by kernel_rfl) (by decide) (by kernel_rfl) (by kernel_rfl) (by kernel_rfl) (by kernel_rfl)) ?_
     exact kN [4]
    ·have h26 := condF hb24 h22
     refine kC 7 [4] ?_
     refine kE ?_
     obtain rfl := oi h26
     refine PJ.wk (Wk.sel (L2 := [(4, .bool false)]) (H2 := []) 0 (by rw [hFH]; rfl) hFD [] (by kernel_rfl) (by kernel_rfl) (by decide) (by kernel_rfl) (by kernel_rfl) (by kernel_rfl) (by kernel_rfl)) ?_
     exact kN [4]
   ·have h23 := condF hb21 h19
    refine RJ.seg 14 [4] (L2 := [(4, .bool false)]) (H2 := [.box (encSt39 x0), .box (encSt39 x1)]) (by kernel_rfl) ?_
    refine kE ?_
    obtain rfl := oi h23
    refine PJ.wk (Wk.sel (L2 := [(4, .bool false)]) (H2 := []) 0 (by rw [hFH]; rfl) hFD [] (by kernel_rfl) (by kernel_rfl) (by decide) (by kernel_rfl) (by kernel_rfl) (by kernel_rfl) (by kernel_rfl)) ?_
    exact kN [4]
  ·have h20 := condF hb18 hy15
   refine kC 21 [4] ?_
   refine kE ?_
   obtain rfl := oi h20
   refine PJ.wk (Wk.sel (L2 := [(4, .bool false)]) (H2 := []) 0 (by rw [hFH]; rfl) hFD [] (by kernel_rfl) (by kernel_rfl) (by decide) (by kernel_rfl) (by kernel_rfl) (by kernel_rfl) (by kernel_rfl)) ?_
   exact kN [4]
 ·refine kX ?_
  obtain rfl := oi h17
  exact kZ hFn hFH hFD
def api_Rel__19_s0 (x0 : List St39) (x1 : List St39) : Option (Bool) :=
 (bif (decide (¬ (x0.length : Int) = (x1.length : Int))) then (some false) else (Option.bind (loopN (fun (s60 : Int) => (bif (decide (s60 < (x0.length : Int))) then (bif inR s60 x0.length then (bif inR s60 x1.length then (Option.bind (rule_sameRel (nth x0 s60) (nth x1 s60)) fun y100 => (bif (!y100) then (some (.inr (.inr false))) else (some (.inl (IntKind.wrap .i64 (s60 + 1)))))) else none) else none) else (some (.inr (.inl ()))))) big 0) (joinX fun (s55 : Unit) => (some true))))
theorem api_Rel__19_s0_ok {x0 : List St39} {x1 : List St39} {r : Bool} (h : api_Rel__19_s0 x0 x1 = some r) : SC Tryz.prog 19 [lsv encSt39 4 x0, lsv encSt39 4 x1, .fn (.func 20) [] []] [] (.bool r) [] := by
 refine kFn (fn := Tryz.f19) (fun F hFn hFH hFD => ?_)
 unfold api_Rel__19_s0 at h
 refine kSR ?_
 refine kC 1 [0,1,2,6] ?_
 refine kEN ?_
 refine kS ?_
 refine kSR ?_
 refine kC 5 [0,1,2,6,14] ?_
 refine kEN ?_
 refine J.caseB 14 (b := (decide (¬ (x0.length : Int) = (x1.length : Int)))) (by kernel_rfl) (fun hb1 => ?_) (fun hb1 => ?_)
 ·have h2 := condT hb1 h
  refine kT ?_
  refine kSR ?_
  refine kC 1 [0,1,2,6] ?_
  refine kEN ?_
  refine kX ?_
  refine PJ.passRet ?_
  obtain rfl := oi h2
  exact K.retV (H0 := []) [] (.inr rfl) hFn hFH hFD (by kernel_rfl) (v1 := .bool false) (by kernel_rfl) (by kernel_rfl) (by kernel_rfl) (by decide) (by kernel_rfl) (by kernel_rfl) (by kernel_rfl) (by kernel_rfl) (by kernel_rfl)
 ·have h3 := condF hb1 h
  refine kF ?_
  refine kK ?_
  refine PJ.next ?_
  obtain ⟨y56, hy57, h58⟩ := bindS h3
  refine K.cutX (by kernel_rfl) (fun (s55 : Unit) => ([(6, .bool false)], [])) y56 ?_ (fun s55 hs => ?_)
  ·refine kSR ?_
   refine kC 3 [1,2,6,15,16,17] ?_
   refine kEN ?_
   refine K.block 0 (by kernel_rfl) ?_
   refine K.loop (by kernel_rfl) (fun (s60 : Int) => ([(1, lsv encSt39 4 x1), (2, .fn (.func 20) [] []), (6, .bool false), (15, lsv encSt39 4 x0), (16, .int .i64 (x0.length : Int)), (17, .int .i64 s60)], [])) hy57 [1, 2, 6, 15, 16, 17] (by kernel_rfl) (by kernel_rfl) (fun s60 x94 hs93 => ?_)
   refine kSR ?_
   refine kC 1 [1,2,6,15,16,17,18] ?_
   refine kEN ?_
   refine kS ?_
   refine J.caseB 18 (b := (decide (s60 < (x0.length : Int)))) (by kernel_rfl) (fun hb95 => ?_) (fun hb95 => ?_)
   ·have h96 := condT hb95 hs93
    refine kT ?_
    refine kK ?_
    refine PJ.next ?_
    refine kS ?_
    refine K.block 1 (by kernel_rfl) ?_
    refine kSR ?_
    refine kC 1 [1,2,6,15,16,17,19] ?_
    obtain ⟨hm, h98⟩ := asrt h96
    refine RJ.rel (d := (some 20)) (ef := ⟨.ep (((x0.flatMap encSt39).drop ((s60 : Int).toNat * 4)).take 4), [], []⟩) (ef' := ⟨.ep (encSt39 (nth x0 s60)), [], []⟩) (c := inR s60 x0.length) (tr2 := []) (H2 := []) (by kernel_rfl) hm (fun hc => N.idx encSt39_len hc) (by kernel_rfl) ?_
    refine kC 4 [1,2,6,7,8,15,16,17] ?_
    refine kEN ?_
    refine kSR ?_
    refine RJ.seg 2 [1, 2, 6, 8, 15, 16, 17, 22, 23] (L2 := [(1, lsv encSt39 4 x1), (2, .fn (.func 20) [] []), (6, .bool false), (8, .ptr 0 0), (15, lsv encSt39 4 x0), (16, .int .i64 (x0.length : Int)), (17, .int .i64 s60), (22, lsv encSt39 4 x1), (23, .int .i64 s60)]) (H2 := [.box [.int .u8 ((nth x0 s60).Op_), .int .i64 ((nth x0 s60).Mod_), .bool ((nth x0 s60).Not_), lsv encSt41 2 ((nth x0 s60).R_)]]) (by kernel_rfl) ?_
    obtain ⟨hm, h99⟩ := asrt h98
    refine RJ.rel (d := (some 24)) (ef := ⟨.ep (((x1.flatMap encSt39).drop ((s60 : Int).toNat * 4)).take 4), [], []⟩) (ef' := ⟨.ep (encSt39 (nth x1 s60)), [], []⟩) (c := inR s60 x1.length) (tr2 := []) (H2 := [.box [.int .u8 ((nth x0 s60).Op_), .int .i64 ((nth x0 s60).Mod_), .bool ((nth x0 s60).Not_), lsv encSt41 2 ((nth x0 s60).R_)]]) (by kernel_rfl) hm (fun hc => N.idx encSt39_len hc) (by kernel_rfl) ?_
    refine kC 3 [1,2,6,8,9,15,16,17] ?_
    refine kEN ?_
    refine kSR ?_
    refine kC 3 [1,2,6,15,16,17,26,27,28] ?_
    obtain ⟨y100, hy101, h102⟩ := bindS h99
    refine RJ.call0 (d := (some 29)) (f := 20) (args := [.agg [.int .u8 ((nth x0 s60).Op_), .int .i64 ((nth x0 s60).Mod_), .bool ((nth x0 s60).Not_), lsv encSt41 2 ((nth x0 s60).R_)], .agg [.int .u8 ((nth x1 s60).Op_), .int .i64 ((nth x1 s60).Mod_), .bool ((nth x1 s60).Not_), lsv encSt41 2 ((nth x1 s60).R_)]]) (v := .bool y100) (tr2 := []) (by kernel_rfl) (by kernel_rfl) (.cons (Le.refl _) (.cons (Le.refl _) .nil)) (rule_sameRel_ok hy101) (by kernel_rfl) ?_
    refine kC 1 [1,2,6,15,16,17,30] ?_
    refine kEN ?_
    refine J.caseB 30 (b := (!y100)) (by kernel_rfl) (fun hb103 => ?_) (fun hb103 => ?_)
    ·have h104 := condT hb103 h102
     refine kT ?_
     refine kSR ?_
     refine RJ.seg 1 [1, 2, 6, 15, 16, 17] (L2 := [(1, lsv encSt39 4 x1), (2, .fn (.func 20) [] []), (6, .bool false), (15, lsv encSt39 4 x0), (16, .int .i64 (x0.length : Int)), (17, .int .i64 s60)]) (H2 := [.box [.int .u8 ((nth x0 s60).Op_), .int .i64 ((nth x0 s60).Mod_), .bool ((nth x0 s60).Not_), lsv encSt41 2 ((nth x0 s60).R_)], .box [.int .u8 ((nth x1 s60).Op_), .int .i64 ((nth x1 s60).Mod_), .bool ((nth x1 s60).Not_), lsv encSt41 2 ((nth x1 s60).R_)]]) (by kernel_rfl) ?_
     refine kEN ?_
     refine kX ?_
     refine PJ.blockRet ?_
     refine PJ.passRet ?_
     obtain rfl := oi h104
     refine PJ.loopOut (fun e => nomatch e) (fun he108 => ?_)
     have h106 := congrArg some he108
     refine PJ.blockRet ?_
     obtain rfl := oi h106
     have h107 := joinX_inr h58
     refine PJ.cutXr (fun e => nomatch e) ?_
     obtain rfl := oi h107
     exact K.retV (H0 := []) [] (.inr rfl) hFn hFH hFD (by kernel_rfl) (v1 := .bool false) (by kernel_rfl) (by kernel_rfl) (by kernel_rfl) (by decide) (by kernel_rfl) (by kernel_rfl) (by kernel_rfl) (by kernel_rfl) (by kernel_rfl)
    ·have h105 := condF hb103 h102
     refine kF ?_
     refine kK ?_
     refine PJ.blockNormal ?_
     refine PJ.next ?_
     refine kR ?_
     refine RJ.seg 2 [1, 2, 6, 15, 16, 17] (L2 := [(1, lsv encSt39 4 x1), (2, .fn (.func 20) [] []), (6, .bool false), (15, lsv encSt39 4 x0), (16, .int .i64 (x0.length : Int)), (17, .int .i64 (IntKind.wrap .i64 (s60 + 1)))]) (H2 := [.box [.int .u8 ((nth x0 s60).Op_), .int .i64 ((nth x0 s60).Mod_), .bool ((nth x0 s60).Not_), lsv encSt41 2 ((nth x0 s60).R_)], .box [.int .u8 ((nth x1 s60).Op_), .int .i64 ((nth x1 s60).Mod_), .bool ((nth x1 s60).Not_), lsv encSt41 2 ((nth x1 s60).R_)]]) (by kernel_rfl) ?_
     refine kE ?_
     obtain rfl := oi h105
     refine PJ.wk (Wk.sel (L2 := [(1, lsv encSt39 4 x1), (2, .fn (.func 20) [] []), (6, .bool false), (15, lsv encSt39 4 x0), (16, .int .i64 (x0.length : Int)), (17, .int .i64 (IntKind.wrap .i64 (s60 + 1)))]) (H2 := []) 0 (by rw [hFH]; rfl) hFD [] (by kernel_rfl) (by kernel_rfl) (by decide) (by kernel_rfl) (by kernel_rfl) (by kernel_rfl) (by kernel_rfl)) ?_
     exact PJ.loopNext [1, 2, 6, 15, 16, 17] (by kernel_rfl) (by kernel_rfl)
   ·have h97 := condF hb95 hs93
    refine kF ?_
    refine K.exit 0 (by kernel_rfl) ?_
    refine PJ.passExit ?_
    obtain rfl := oi h97
    refine PJ.loopOut (fun e => nomatch e) (fun he110 => ?_)
    have h109 := congrArg some he110
    refine PJ.blockOut ?_
    obtain rfl := oi h109
    exact PJ.cutXl [6] (by kernel_rfl) (by kernel_rfl)
  ·subst hs
   have h59 := joinX_inl h58
   refine kSR ?_
   refine kC 1 [6] ?_
   refine kEN ?_
   refine kX ?_
   obtain rfl := oi h59
   exact K.retV (H0 := []) [] (.inr rfl) hFn hFH hFD (by kernel_rfl) (v1 := .bool true) (by kernel_rfl) (by kernel_rfl) (by kernel_rfl) (by decide) (by kernel_rfl) (by kernel_rfl) (by kernel_rfl) (by kernel_rfl) (by kernel_rfl)
def rule_Same_1 (x0 : List St39) (x1 : List St39) : Option (Bool) :=
 (Option.bind (api_Rel__19_s0 x0 x1) fun y1 => (some y1))
theorem rule_Same_1_ok {x0 : List St39} {x1 : List St39} {r : Bool} (h : rule_Same_1 x0 x1 = some r) : SC Tryz.prog 18 [lsv encSt39 4 x0, lsv encSt39 4 x1] [] (.bool r) [] := by
 refine kFn (fn := Tryz.f18) (fun F hFn hFH hFD => ?_)
 unfold rule_Same_1 at h
 refine kSR ?_
 refine kC 1 [0,1,4] ?_
 refine kEN ?_
 refine kSR ?_
 refine kC 2 [4,5,6] ?_
 obtain ⟨y1, hy2, h3⟩ := bindS h
 refine RJ.callG (d := (some 7)) (f := 19) (args := [lsv encSt39 4 x0, lsv encSt39 4 x1, .fn (.func 20) [] []]) (args0 := [lsv encSt39 4 x0, lsv encSt39 4 x1, .fn (.func 20) [] []]) (v0 := .bool y1) (v := .bool y1) (tr2 := []) (H0 := []) (H0' := []) (H2 := []) [] (by kernel_rfl) (by kernel_rfl) (by kernel_rfl) (by kernel_rfl) (by decide) (by kernel_rfl) (by kernel_rfl) (by kernel_rfl) (.cons (Le.refl _) (.cons (Le.refl _) (.cons (Le.refl _) .nil))) (api_Rel__19_s0_ok hy2) (by kernel_rfl) (by kernel_rfl) (by kernel_rfl) ?_
 refine kC 1 [4] ?_
 refine kEN ?_
 refine kX ?_
 obtain rfl := oi h3
 exact kZ hFn hFH hFD
def api_Rel__s0 (x0 : List (List St39)) (x1 : List (List St39)) : Option (Bool) :=
 (bif (decide (¬ (x0.length : Int) = (x1.length : Int))) then (some false) else (Option.bind (loopN (fun (s60 : Int) => (bif (decide (s60 < (x0.length : Int))) then (bif inR s60 x0.length then (bif inR s60 x1.length then (Option.bind (rule_Same_1 (nth x0 s60) (nth x1 s60)) fun y100 => (bif (!y100) then (some (.inr (.inr false))) else (some (.inl (IntKind.wrap .i64 (s60 + 1)))))) else none) else none) else (some (.inr (.inl ()))))) big 0) (joinX fun (s55 : Unit) => (some true))))
theorem api_Rel__s0_ok {x0 : List (List St39)} {x1 : List (List St39)} {r : Bool} (h : api_Rel__s0 x0 x1 = some r) : SC Tryz.prog 17 [lsv (encL encSt39 4) 1 x0, lsv (encL encSt39 4) 1 x1, .fn (.func 18) [] []] [] (.bool r) [] := by
 refine kFn (fn := Tryz.f17) (fun F hFn hFH hFD => ?_)
 unfold api_Rel__s0 at h
 refine kSR ?_
 refine kC 1 [0,1,2,6] ?_
 refine kEN ?_
 refine kS ?_
 refine kSR ?_
 refine kC 5 [0,1,2,6,14] ?_
 refine kEN ?_
 refine J.caseB 14 (b := (decide (¬ (x0.length : Int) = (x1.length : Int)))) (by kernel_rfl) (fun hb1 => ?_) (fun hb1 => ?_)
 ·have h2 := condT hb1 h
  refine kT ?_
  refine kSR ?_
  refine kC 1 [0,1,2,6] ?_
  refine kEN ?_
  refine kX ?_
  refine PJ.passRet ?_
  obtain rfl := oi h2
  exact K.retV (H0 := []) [] (.inr rfl) hFn hFH hFD (by kernel_rfl) (v1 := .bool false) (by kernel_rfl) (by kernel_rfl) (by kernel_rfl) (by decide) (by kernel_rfl) (by kernel_rfl) (by kernel_rfl) (by kernel_rfl) (by kernel_rfl)
 ·have h3 := condF hb1 h
  refine kF ?_
  refine kK ?_
  refine PJ.next ?_
  obtain ⟨y56, hy57, h58⟩ := bindS h3
  refine K.cutX (by kernel_rfl) (fun (s55 : Unit) => ([(6, .bool false)], [])) y56 ?_ (fun s55 hs => ?_)
  ·refine kSR ?_
   refine kC 3 [1,2,6,15,16,17] ?_
   refine kEN ?_
   refine K.block 0 (by kernel_rfl) ?_
   refine K.loop (by kernel_rfl) (fun (s60 : Int) => ([(1, lsv (encL encSt39 4) 1 x1), (2, .fn (.func 18) [] []), (6, .bool false), (15, lsv (encL encSt39 4) 1 x0), (16, .int .i64 (x0.length : Int)), (17, .int .i64 s60)], [])) hy57 [1, 2, 6, 15, 16, 17] (by kernel_rfl) (by kernel_rfl) (fun s60 x94 hs93 => ?_)
   refine kSR ?_
   refine kC 1 [1,2,6,15,16,17,18] ?_
   refine kEN ?_
   refine kS ?_
   refine J.caseB 18 (b := (decide (s60 < (x0.length : Int)))) (by kernel_rfl) (fun hb95 => ?_) (fun hb95 => ?_)
   ·have h96 := condT hb95 hs93
    refine kT ?_
    refine kK ?_
    refine PJ.next ?_
    refine kS ?_
    refine K.block 1 (by kernel_rfl) ?_
    refine kSR ?_
    refine kC 1 [1,2,6,15,16,17,19] ?_
    obtain ⟨hm, h98⟩ := asrt h96
    refine RJ.rel (d := (some 20)) (ef := ⟨.ep (((x0.flatMap (encL encSt39 4)).drop ((s60 : Int).toNat * 1)).take 1), [], []⟩) (ef' := ⟨.ep ((encL encSt39 4) (nth x0 s60)), [], []⟩) (c := inR s60 x0.length) (tr2 := []) (H2 := []) (by kernel_rfl) hm (fun hc => N.idx (encL_len encSt39 4) hc) (by kernel_rfl) ?_
    refine kC 3 [1,2,6,7,8,15,16,17] ?_
    refine kEN ?_
    refine kSR ?_
    refine RJ.seg 2 [1, 2, 6, 8, 15, 16, 17, 22, 23] (L2 := [(1, lsv (encL encSt39 4) 1 x1), (2, .fn (.func 18) [] []), (6, .bool false), (8, lsv encSt39 4 (nth x0 s60)), (15, lsv (encL encSt39 4) 1 x0), (16, .int .i64 (x0.length : Int)), (17, .int .i64 s60), (22, lsv (encL encSt39 4) 1 x1), (23, .int .i64 s60)]) (H2 := []) (by kernel_rfl) ?_
    obtain ⟨hm, h99⟩ := asrt h98
    refine RJ.rel (d := (some 24)) (ef := ⟨.ep (((x1.flatMap (encL encSt39 4)).drop ((s60 : Int).toNat * 1)).take 1), [], []⟩) (ef' := ⟨.ep ((encL encSt39 4) (nth x1 s60)), [], []⟩) (c := inR s60 x1.length) (tr2 := []) (H2 := []) (by kernel_rfl) hm (fun hc => N.idx (encL_len encSt39 4) hc) (by kernel_rfl) ?_
    refine kC 2 [1,2,6,8,9,15,16,17] ?_
    refine kEN ?_
    refine kSR ?_
    refine kC 3 [1,2,6,15,16,17,26,27,28] ?_
    obtain ⟨y100, hy101, h102⟩ := bindS h99
    refine RJ.call0 (d := (some 29)) (f := 18) (args := [lsv encSt39 4 (nth x0 s60), lsv encSt39 4 (nth x1 s60)]) (v := .bool y100) (tr2 := []) (by kernel_rfl) (by kernel_rfl) (.cons (Le.refl _) (.cons (Le.refl _) .nil)) (rule_Same_1_ok hy101) (by kernel_rfl) ?_
    refine kC 1 [1,2,6,15,16,17,30] ?_
    refine kEN ?_
    refine J.caseB 30 (b := (!y100)) (by kernel_rfl) (fun hb103 => ?_) (fun hb103 => ?_)
    ·have h104 := condT hb103 h102
     refine kT ?_
     refine kSR ?_
     refine RJ.seg 1 [1, 2, 6, 15, 16, 17] (L2 := [(1, lsv (encL encSt39 4) 1 x1), (2, .fn (.func 18) [] []), (6, .bool false), (15, lsv (encL encSt39 4) 1 x0), (16, .int .i64 (x0.length : Int)), (17, .int .i64 s60)]) (H2 := []) (by kernel_rfl) ?_
     refine kEN ?_
     refine kX ?_
     refine PJ.blockRet ?_
     refine PJ.passRet ?_
     obtain rfl := oi h104
     refine PJ.loopOut (fun e => nomatch e) (fun he108 => ?_)
     have h106 := congrArg some he108
     refine PJ.blockRet ?_
     obtain rfl := oi h106
     have h107 := joinX_inr h58
     refine PJ.cutXr (fun e => nomatch e) ?_
     obtain rfl := oi h107
     exact K.retV (H0 := []) [] (.inr rfl) hFn hFH hFD (by kernel_rfl) (v1 := .bool false) (by kernel_rfl) (by kernel_rfl) (by kernel_rfl) (by decide) (by kernel_rfl) (by kernel_rfl) (by kernel_rfl) (by kernel_rfl) (by kernel_rfl)
    ·have h105 := condF hb103 h102
     refine kF ?_
     refine kK ?_
     refine PJ.blockNormal ?_
     refine PJ.next ?_
     refine kR ?_
     refine RJ.seg 2 [1, 2, 6, 15, 16, 17] (L2 := [(1, lsv (encL encSt39 4) 1 x1), (2, .fn (.func 18) [] []), (6, .bool false), (15, lsv (encL encSt39 4) 1 x0), (16, .int .i64 (x0.length : Int)), (17, .int .i64 (IntKind.wrap .i64 (s60 + 1)))]) (H2 := []) (by kernel_rfl) ?_
     refine kE ?_
     obtain rfl := oi h105
     exact PJ.loopNext [1, 2, 6, 15, 16, 17] (by kernel_rfl) (by kernel_rfl)
   ·have h97 := condF hb95 hs93
    refine kF ?_
    refine K.exit 0 (by kernel_rfl) ?_
    refine PJ.passExit ?_
    obtain rfl := oi h97
    refine PJ.loopOut (fun e => nomatch e) (fun he110 => ?_)
    have h109 := congrArg some he110
    refine PJ.blockOut ?_
    obtain rfl := oi h109
    exact PJ.cutXl [6] (by kernel_rfl) (by kernel_rfl)
  ·subst hs
   have h59 := joinX_inl h58
   refine kSR ?_
   refine kC 1 [6] ?_
   refine kEN ?_
   refine kX ?_
   obtain rfl := oi h59
   exact K.retV (H0 := []) [] (.inr rfl) hFn hFH hFD (by kernel_rfl) (v1 := .bool true) (by kernel_rfl) (by kernel_rfl) (by kernel_rfl) (by decide) (by kernel_rfl) (by kernel_rfl) (by kernel_rfl) (by kernel_rfl) (by kernel_rfl)
def rule_Same (x0 : List (List St39)) (x1 : List (List St39)) : Option (Bool) :=
 (Option.bind (api_Rel__s0 x0 x1) fun y1 => (some y1))
theorem rule_Same_ok {x0 : List (List St39)} {x1 : List (List St39)} {r : Bool} (h : rule_Same x0 x1 = some r) : SC Tryz.prog 8 [lsv (encL encSt39 4) 1 x0, lsv (encL encSt39 4) 1 x1] [] (.bool r) [] := by
 refine kFn (fn := Tryz.f8) (fun F hFn hFH hFD => ?_)
 unfold rule_Same at h
 refine kSR ?_
 refine kC 1 [0,1,4] ?_
 refine kEN ?_
 refine kSR ?_
 refine kC 2 [4,5,6] ?_
 obtain ⟨y1, hy2, h3⟩ := bindS h
 refine RJ.callG (d := (some 7)) (f := 17) (args := [lsv (encL encSt39 4) 1 x0, lsv (encL encSt39 4) 1 x1, .fn (.func 18) [] []]) (args0 := [lsv (encL encSt39 4) 1 x0, lsv (encL encSt39 4) 1 x1, .fn (.func 18) [] []]) (v0 := .bool y1) (v := .bool y1) (tr2 := []) (H0 := []) (H0' := []) (H2 := []) [] (by kernel_rfl) (by kernel_rfl) (by kernel_rfl) (by kernel_rfl) (by decide) (by kernel_rfl) (by kernel_rfl) (by kernel_rfl) (.cons (Le.refl _) (.cons (Le.refl _) (.cons (Le.refl _) .nil))) (api_Rel__s0_ok hy2) (by kernel_rfl) (by kernel_rfl) (by kernel_rfl) ?_
 refine kC 1 [4] ?_
 refine kEN ?_
 refine kX ?_
 obtain rfl := oi h3
 exact kZ hFn hFH hFD
def rule_Right (x0 : List (List St39)) : Option (Bool) :=
 (Option.bind (rule_Text x0) fun y1 => (Option.bind (rule_Parse y1) fun y4 => (Option.bind (bif (decide (y4.2.2 = 0)) then (Option.bind (rule_Same x0 y4.1) fun y21 => (some y21)) else (some false)) fun (s13 : Bool) => (some s13))))
theorem rule_Right_ok {x0 : List (List St39)} {r : Bool} (h : rule_Right x0 = some r) : SC Tryz.prog 7 [lsv (encL encSt39 4) 1 x0] [] (.bool r) [] := by
 refine kFn (fn := Tryz.f7) (fun F hFn hFH hFD => ?_)
 unfold rule_Right at h
 refine kSR ?_
 refine kC 1 [0,2] ?_
 refine kEN ?_
 refine kSR ?_
 refine kC 1 [0,2,7] ?_
 obtain ⟨y1, hy2, h3⟩ := bindS h
 refine RJ.call0 (d := (some 8)) (f := 10) (args := [lsv (encL encSt39 4) 1 x0]) (v := .str y1) (tr2 := []) (by kernel_rfl) (by kernel_rfl) (.cons (Le.refl _) .nil) (rule_Text_ok hy2) (by kernel_rfl) ?_
 obtain ⟨y4, hy5, h6⟩ := bindS h3
 refine RJ.call0 (d := (some 9)) (f := 15) (args := [.str y1]) (v := .tup [lsv (encL encSt39 4) 1 y4.1, .int .i64 y4.2.1, .int .i64 y4.2.2]) (tr2 := []) (by kernel_rfl) (by kernel_rfl) (.cons (Le.refl _) .nil) (rule_Parse_ok hy5) (by kernel_rfl) ?_
 refine kC 7 [0,2,3,5] ?_
 refine kEN ?_
 obtain ⟨s13, hy15, h17⟩ := bindS h6
 refine K.cutN (by kernel_rfl) (fun (s13 : Bool) => ([(2, .bool s13)], [])) s13 ?_ ?_
 ·refine kR ?_
  refine RJ.seg 3 [0, 2, 3, 15] (L2 := [(0, lsv (encL encSt39 4) 1 x0), (2, .bool false), (3, lsv (encL encSt39 4) 1 y4.1), (15, .bool (decide (y4.2.2 = 0)))]) (H2 := []) (by kernel_rfl) ?_
  refine RJ.caseB 15 (b := (decide (y4.2.2 = 0))) (by kernel_rfl) (fun hb18 => ?_) (fun hb18 => ?_)
  ·have h19 := condT hb18 hy15
   refine kC 2 [2,15,16,17] ?_
   obtain ⟨y21, hy22, h23⟩ := bindS h19
   refine RJ.call0 (d := (some 18)) (f := 8) (args := [lsv (encL encSt39 4) 1 x0, lsv (encL encSt39 4) 1 y4.1]) (v := .bool y21) (tr2 := []) (by kernel_rfl) (by kernel_rfl) (.cons (Le.refl _) (.cons (Le.refl _) .nil)) (rule_Same_ok hy22) (by kernel_rfl) ?_
   refine kC 2 [2] ?_
   refine kE ?_
   obtain rfl := oi h23
   exact kN [2]
  ·have h20 := condF hb18 hy15
   refine kC 5 [2] ?_
   refine kE ?_
   obtain rfl := oi h20
   exact kN [2]
 ·refine kX ?_
  obtain rfl := oi h17
  exact kZ hFn hFH hFD
def exerguelaw11_shown  : Option (Bool) :=
 (Option.bind (rule_Parse ([110, 32, 37, 32, 49, 48, 32, 61, 32, 49, 32, 97, 110, 100, 32, 110, 32, 37, 32, 49, 48, 48, 32, 33, 61, 32, 49, 49] : List UInt8)) fun y1 => (Option.bind (bif (decide (y1.2.2 = 0)) then (bif (decide (y1.2.1 = 0)) then (bif (decide ((y1.1.length : Int) = 1)) then (bif inR 0 y1.1.length then (bif (decide (((nth y1.1 0).length : Int) = 2)) then (Option.bind (rule_Holds y1.1 (⟨([2, 1] : List Int), ([] : List Int), 0, 0⟩ : St25)) fun y56 => (bif y56 then (Option.bind (rule_Holds y1.1 (⟨([1, 1] : List Int), ([] : List Int), 0, 0⟩ : St25)) fun y62 => (bif (!y62) then (Option.bind (rule_Text y1.1) fun y68 => (bif (y68 == ([110, 32, 37, 32, 49, 48, 32, 61, 32, 49, 32, 97, 110, 100, 32, 110, 32, 37, 32, 49, 48, 48, 32, 33, 61, 32, 49, 49] : List UInt8)) then (Option.bind (rule_Right y1.1) fun y74 => (some y74)) else (some false))) else (some false))) else (some false))) else (some false)) else none) else (some false)) else (some false)) else (some false)) fun (s38 : Bool) => (some s38)))
theorem exerguelaw11_shown_ok  {r : Bool} (h : exerguelaw11_shown = some r) : SC Tryz.prog 4 [] [] (.bool r) [] := by
 refine kFn (fn := Tryz.f4) (fun F hFn hFH hFD => ?_)
 unfold exerguelaw11_shown at h
 refine kSR ?_
 refine kC 1 [0] ?_
 refine kEN ?_
 refine kSR ?_
 obtain ⟨y1, hy2, h3⟩ := bindS h
 refine RJ.call0 (d := (some 5)) (f := 15) (args := [.str ([110, 32, 37, 32, 49, 48, 32, 61, 32, 49, 32, 97, 110, 100, 32, 110, 32, 37, 32, 49, 48, 48, 32, 33, 61, 32, 49, 49] : List UInt8)]) (v := .tup [lsv (encL encSt39 4) 1 y1.1, .int .i64 y1.2.1, .int .i64 y1.2.2]) (tr2 := []) (by kernel_rfl) (by kernel_rfl) (.cons (Le.refl _) .nil) (rule_Parse_ok hy2) (by kernel_rfl) ?_
 refine kC 7 [0,1,2,3] ?_
 refine kEN ?_
 obtain ⟨s38, hy40, h42⟩ := bindS h3
 refine K.cutN (by kernel_rfl) (fun (s38 : Bool) => ([(0, .bool s38)], [])) s38 ?_ ?_
 ·refine kR ?_
  refine kC 3 [0,1,2,11] ?_
  refine RJ.caseB 11 (b := (decide (y1.2.2 = 0))) (by kernel_rfl) (fun hb43 => ?_) (fun hb43 => ?_)
  ·have h44 := condT hb43 hy40
   refine RJ.seg 4 [0, 1, 15] (L2 := [(0, .bool false), (1, lsv (encL encSt39 4) 1 y1.1), (15, .bool (decide (y1.2.1 = 0)))]) (H2 := []) (by kernel_rfl) ?_
   refine RJ.caseB 15 (b := (decide (y1.2.1 = 0))) (by kernel_rfl) (fun hb46 => ?_) (fun hb46 => ?_)
   ·have h47 := condT hb46 h44
    refine kC 5 [0,1,20] ?_
    refine RJ.caseB 20 (b := (decide ((y1.1.length : Int) = 1))) (by kernel_rfl) (fun hb49 => ?_) (fun hb49 => ?_)
    ·have h50 := condT hb49 h47
     refine kC 1 [0,1,20,21] ?_
     obtain ⟨hm, h52⟩ := asrt h50
     refine RJ.rel (d := (some 22)) (ef := ⟨.ep (((y1.1.flatMap (encL encSt39 4)).drop ((0 : Int).toNat * 1)).take 1), [], []⟩) (ef' := ⟨.ep ((encL encSt39 4) (nth y1.1 0)), [], []⟩) (c := inR 0 y1.1.length) (tr2 := []) (H2 := []) (by kernel_rfl) hm (fun hc => N.idx (encL_len encSt39 4) hc) (by kernel_rfl) ?_
     refine kC 5 [0,1,27] ?_
     refine RJ.caseB 27 (b := (decide (((nth y1.1 0).length : Int) = 2))) (by kernel_rfl) (fun hb53 => ?_) (fun hb53 => ?_)
     ·have h54 := condT hb53 h52
      refine RJ.seg 3 [0, 1, 27, 28, 30] (L2 := [(0, .bool false), (1, lsv (encL encSt39 4) 1 y1.1), (27, .bool true), (28, lsv (encL encSt39 4) 1 y1.1), (30, .agg [.vc 0, .nl, .int .i64 0, .int .i64 0])]) (H2 := [vecL (encI .u8) 1 5 ([2, 1] : List Int)]) (by kernel_rfl) ?_
      obtain ⟨y56, hy57, h58⟩ := bindS h54
      refine RJ.callL (d := (some 31)) (f := 13) (args := [lsv (encL encSt39 4) 1 y1.1, .agg [.vc 0, .nl, .int .i64 0, .int .i64 0]]) (args0 := [lsv (encL encSt39 4) 1 y1.1, .agg [.vc 0, .nl, .int .i64 0, .int .i64 0]]) (args1 := [lsv (encL encSt39 4) 1 y1.1, .agg [lsv (encI .u8) 1 ([2, 1] : List Int), .nl, .int .i64 0, .int .i64 0]]) (H0 := [vecL (encI .u8) 1 5 ([2, 1] : List Int)]) (v := .bool y56) (tr2 := []) [0] (by kernel_rfl) (by kernel_rfl) (by kernel_rfl) (by kernel_rfl) (by decide) (by kernel_rfl) (by kernel_rfl) (by kernel_rfl) (by kernel_rfl) (.cons (Le.refl _) (.cons (Le.agg (.cons (Le.refl _) (.cons (Le.nl _) (.cons (Le.refl _) (.cons (Le.refl _) .nil))))) .nil)) (rule_Holds_ok hy57) (by kernel_rfl) (by kernel_rfl) ?_
      refine kC 2 [0,1,33] ?_
      refine RJ.caseB 33 (b := y56) (by kernel_rfl) (fun hb59 => ?_) (fun hb59 => ?_)
      ·have h60 := condT hb59 h58
       refine kC 3 [0,1,33,34,36] ?_
       obtain ⟨y62, hy63, h64⟩ := bindS h60
       refine RJ.callL (d := (some 37)) (f := 13) (args := [lsv (encL encSt39 4) 1 y1.1, .agg [.vc 1, .nl, .int .i64 0, .int .i64 0]]) (args0 := [lsv (encL encSt39 4) 1 y1.1, .agg [.vc 0, .nl, .int .i64 0, .int .i64 0]]) (args1 := [lsv (encL encSt39 4) 1 y1.1, .agg [lsv (encI .u8) 1 ([1, 1] : List Int), .nl, .int .i64 0, .int .i64 0]]) (H0 := [vecL (encI .u8) 1 5 ([1, 1] : List Int)]) (v := .bool y62) (tr2 := []) [1] (by kernel_rfl) (by kernel_rfl) (by kernel_rfl) (by kernel_rfl) (by decide) (by kernel_rfl) (by kernel_rfl) (by kernel_rfl) (by kernel_rfl) (.cons (Le.refl _) (.cons (Le.agg (.cons (Le.refl _) (.cons (Le.nl _) (.cons (Le.refl _) (.cons (Le.refl _) .nil))))) .nil)) (rule_Holds_ok hy63) (by kernel_rfl) (by kernel_rfl) ?_
       refine kC 3 [0,1,40] ?_
       refine RJ.caseB 40 (b := (!y62)) (by kernel_rfl) (fun hb65 => ?_) (fun hb65 => ?_)
       ·have h66 := condT hb65 h64
        refine RJ.seg 1 [0, 1, 40, 41] (L2 := [(0, .bool false), (1, lsv (encL encSt39 4) 1 y1.1), (40, .bool true), (41, lsv (encL encSt39 4) 1 y1.1)]) (H2 := [vecL (encI .u8) 1 5 ([2, 1] : List Int), vecL (encI .u8) 1 5 ([1, 1] : List Int)]) (by kernel_rfl) ?_
        obtain ⟨y68, hy69, h70⟩ := bindS h66
        refine RJ.call0 (d := (some 42)) (f := 10) (args := [lsv (encL encSt39 4) 1 y1.1]) (v := .str y68) (tr2 := []) (by kernel_rfl) (by kernel_rfl) (.cons (Le.refl _) .nil) (rule_Text_ok hy69) (by kernel_rfl) ?_
        refine kC 3 [0,1,45] ?_
        refine RJ.caseB 45 (b := (y68 == ([110, 32, 37, 32, 49, 48, 32, 61, 32, 49, 32, 97, 110, 100, 32, 110, 32, 37, 32, 49, 48, 48, 32, 33, 61, 32, 49, 49] : List UInt8))) (by kernel_rfl) (fun hb71 => ?_) (fun hb71 => ?_)
        ·have h72 := condT hb71 h70
         refine kC 1 [0,45,46] ?_
         obtain ⟨y74, hy75, h76⟩ := bindS h72
         refine RJ.call0 (d := (some 47)) (f := 7) (args := [lsv (encL encSt39 4) 1 y1.1]) (v := .bool y74) (tr2 := []) (by kernel_rfl) (by kernel_rfl) (.cons (Le.refl _) .nil) (rule_Right_ok hy75) (by kernel_rfl) ?_
         refine kC 2 [0] ?_
         refine kE ?_
         obtain rfl := oi h76
         refine PJ.wk (Wk.sel (L2 := [(0, .bool y74)]) (H2 := []) 0 (by rw [hFH]; rfl) hFD [] (by kernel_rfl) (by kernel_rfl) (by decide) (by kernel_rfl) (by kernel_rfl) (by kernel_rfl) (by kernel_rfl)) ?_
         exact kN [0]
        ·have h73 := condF hb71 h70
         refine kC 4 [0] ?_
         refine kE ?_
         obtain rfl := oi h73
         refine PJ.wk (Wk.sel (L2 := [(0, .bool false)]) (H2 := []) 0 (by rw [hFH]; rfl) hFD [] (by kernel_rfl) (by kernel_rfl) (by decide) (by kernel_rfl) (by kernel_rfl) (by kernel_rfl) (by kernel_rfl)) ?_
         exact kN [0]
       ·have h67 := condF hb65 h64
        refine RJ.seg 9 [0] (L2 := [(0, .bool false)]) (H2 := [vecL (encI .u8) 1 5 ([2, 1] : List Int), vecL (encI .u8) 1 5 ([1, 1] : List Int)]) (by kernel_rfl) ?_
        refine kE ?_
        obtain rfl := oi h67
        refine PJ.wk (Wk.sel (L2 := [(0, .bool false)]) (H2 := []) 0 (by rw [hFH]; rfl) hFD [] (by kernel_rfl) (by kernel_rfl) (by decide) (by kernel_rfl) (by kernel_rfl) (by kernel_rfl) (by kernel_rfl)) ?_
        exact kN [0]
      ·have h61 := condF hb59 h58
       refine kC 16 [0] ?_
       refine kE ?_
       obtain rfl := oi h61
       refine PJ.wk (Wk.sel (L2 := [(0, .bool false)]) (H2 := []) 0 (by rw [hFH]; rfl) hFD [] (by kernel_rfl) (by kernel_rfl) (by decide) (by kernel_rfl) (by kernel_rfl) (by kernel_rfl) (by kernel_rfl)) ?_
       exact kN [0]
     ·have h55 := condF hb53 h52
      refine RJ.seg 22 [0] (L2 := [(0, .bool false)]) (H2 := []) (by kernel_rfl) ?_
      refine kE ?_
      obtain rfl := oi h55
      exact kN [0]
    ·have h51 := condF hb49 h47
     refine kC 29 [0] ?_
     refine kE ?_
     obtain rfl := oi h51
     exact kN [0]
   ·have h48 := condF hb46 h44
    refine kC 34 [0] ?_
    refine kE ?_
    obtain rfl := oi h48
    exact kN [0]
  ·have h45 := condF hb43 hy40
   refine RJ.seg 38 [0] (L2 := [(0, .bool false)]) (H2 := []) (by kernel_rfl) ?_
   refine kE ?_
   obtain rfl := oi h45
   exact kN [0]
 ·refine kX ?_
  obtain rfl := oi h42
  exact kZ hFn hFH hFD
def exergueref11_Short (x0 : List (List St39)) : Option (Bool) :=
 (Option.bind (loopN (fun (s41367 : Int × Int) => (bif (decide (s41367.2 < (x0.length : Int))) then (Option.bind (Option.bind (loopN (fun (s79281 : Int × Int) => (bif inR s41367.2 x0.length then (bif (decide (s79281.2 < ((nth x0 s41367.2).length : Int))) then (Option.bind (bif inR s41367.2 x0.length then (bif inR s79281.2 (nth x0 s41367.2).length then (Option.bind (loopN (fun (s82424 : Int) => (bif inR s41367.2 x0.length then (bif inR s79281.2 (nth x0 s41367.2).length then (bif (decide (s82424 < ((((nth (nth x0 s41367.2) s79281.2).R_).length : Int)))) then (Option.bind (Option.bind (bif inR s41367.2 x0.length then (bif inR s79281.2 (nth x0 s41367.2).length then (bif inR s82424 ((nth (nth x0 s41367.2) s79281.2).R_).length then (bif (decide (((nth ((nth (nth x0 s41367.2) s79281.2).R_) s82424).a0_) < (-1000000000000))) then (some true) else (bif inR s41367.2 x0.length then (bif inR s79281.2 (nth x0 s41367.2).length then (bif inR s82424 ((nth (nth x0 s41367.2) s79281.2).R_).length then (some ((decide (((nth ((nth (nth x0 s41367.2) s79281.2).R_) s82424).a1_) < (-1000000000000))))) else none) else none) else none)) else none) else none) else none) fun (s82660 : Bool) => (bif s82660 then (some (.inr (.inr (.inr (.inr (.inr (.inr (.inr (.inr (.inr false)))))))))) else (some (.inl ())))) (joinX fun (s82646 : Unit) => (some (.inl (IntKind.wrap .i64 (s82424 + 1)))))) else (some (.inr (.inl ())))) else none) else none)) big 0) (joinX fun (s82419 : Unit) => (Option.bind (bif inR s41367.2 x0.length then (bif inR s79281.2 (nth x0 s41367.2).length then (bif (decide (((nth (nth x0 s41367.2) s79281.2).Mod_) < (-1000000000000))) then (some true) else (some ((decide (((IntKind.wrap .i64 ((IntKind.wrap .i64 (s79281.1 + 1)) + ((((nth (nth x0 s41367.2) s79281.2).R_).length : Int))))) > 200))))) else none) else none) fun (s82696 : Bool) => (bif s82696 then (some (.inr (.inr (.inr (.inr (.inr (.inr false))))))) else (some (.inl ())))))) else none) else none) (joinX fun (s82145 : Unit) => (some (.inl ((IntKind.wrap .i64 ((IntKind.wrap .i64 (s79281.1 + 1)) + ((((nth (nth x0 s41367.2) s79281.2).R_).length : Int)))), (IntKind.wrap .i64 (s79281.2 + 1))))))) else (some (.inr (.inl s79281.1)))) else none)) big ((IntKind.wrap .i64 (s41367.1 + 1)), 0)) (joinX fun (s79276 : Int) => (bif (decide (s79276 > 200)) then (some (.inr (.inr (.inr false)))) else (some (.inl s79276))))) (joinX fun (s75833 : Int) => (some (.inl (s75833, (IntKind.wrap .i64 (s41367.2 + 1))))))) else (some (.inr (.inl ()))))) big (0, 0)) (joinX fun (s41362 : Unit) => (some true)))
theorem exergueref11_Short_ok {x0 : List (List St39)} {r : Bool} (h : exergueref11_Short x0 = some r) : SC Tryz.prog 5 [lsv (encL encSt39 4) 1 x0] [] (.bool r) [] := by
 refine kFn (fn := Tryz.f5) (fun F hFn hFH hFD => ?_)
 unfold exergueref11_Short at h
 refine kSR ?_
 refine kC 1 [0,2] ?_
 refine kEN ?_
 refine kSR ?_
 refine kC 1 [0,2,3] ?_
 refine kEN ?_
 obtain ⟨y41363, hy41364, h41365⟩ := bindS h
 refine K.cutX (by kernel_rfl) (fun (s41362 : Unit) => ([(2, .bool false)], [])) y41363 ?_ (fun s41362 hs => ?_)
 ·refine kSR ?_
  refine kC 1 [0,2,3,4] ?_
  refine kEN ?_
  refine K.block 0 (by kernel_rfl) ?_
  refine K.loop (by kernel_rfl) (fun (s41367 : Int × Int) => ([(0, lsv (encL encSt39 4) 1 x0), (2, .bool false), (3, .int .i64 s41367.1), (4, .int .i64 s41367.2)], [])) hy41364 [0, 2, 3, 4] (by kernel_rfl) (by kernel_rfl) (fun s41367 x68941 hs68940 => ?_)
  refine kS ?_
  refine kSR ?_
  refine kC 4 [0,2,3,4,10] ?_
  refine kEN ?_
  refine J.caseB 10 (b := (decide (s41367.2 < (x0.length : Int)))) (by kernel_rfl) (fun hb68942 => ?_) (fun hb68942 => ?_)
  ·have h68943 := condT hb68942 hs68940
   refine kT ?_
   refine kK ?_
   refine PJ.next ?_
   obtain ⟨y75834, hy75835, h75836⟩ := bindS h68943
   refine K.cutX (by kernel_rfl) (fun (s75833 : Int) => ([(0, lsv (encL encSt39 4) 1 x0), (2, .bool false), (3, .int .i64 s75833), (4, .int .i64 s41367.2)], [])) y75834 ?_ (fun s75833 hs => ?_)
   ·refine K.block 1 (by kernel_rfl) ?_
    refine kSR ?_
    refine kC 3 [0,2,3,4] ?_
    refine kEN ?_
    obtain ⟨y79277, hy79278, h79279⟩ := bindS hy75835
    refine K.cutX (by kernel_rfl) (fun (s79276 : Int) => ([(0, lsv (encL encSt39 4) 1 x0), (2, .bool false), (3, .int .i64 s79276), (4, .int .i64 s41367.2)], [])) y79277 ?_ (fun s79276 hs => ?_)
    ·refine kSR ?_
     refine kC 1 [0,2,3,4,5] ?_
     refine kEN ?_
     refine K.block 2 (by kernel_rfl) ?_
     refine K.loop (by kernel_rfl) (fun (s79281 : Int × Int) => ([(0, lsv (encL encSt39 4) 1 x0), (2, .bool false), (3, .int .i64 s79281.1), (4, .int .i64 s41367.2), (5, .int .i64 s79281.2)], [])) hy79278 [0, 2, 3, 4, 5] (by kernel_rfl) (by kernel_rfl) (fun s79281 x81573 hs81572 => ?_)
     refine kS ?_
     refine kSR ?_
     refine kC 3 [0,2,3,4,5,15,16,17] ?_
     obtain ⟨hm, h81574⟩ := asrt hs81572
     refine RJ.rel (d := (some 18)) (ef := ⟨.ep (((x0.flatMap (encL encSt39 4)).drop ((s41367.2 : Int).toNat * 1)).take 1), [], []⟩) (ef' := ⟨.ep ((encL encSt39 4) (nth x0 s41367.2)), [], []⟩) (c := inR s41367.2 x0.length) (tr2 := []) (H2 := []) (by kernel_rfl) hm (fun hc => N.idx (encL_len encSt39 4) hc) (by kernel_rfl) ?_
     refine kC 3 [0,2,3,4,5,21] ?_
     refine kEN ?_
     refine J.caseB 21 (b := (decide (s79281.2 < ((nth x0 s41367.2).length : Int)))) (by kernel_rfl) (fun hb81575 => ?_) (fun hb81575 => ?_)
     ·have h81576 := condT hb81575 h81574
      refine kT ?_
      refine kK ?_
      refine PJ.next ?_
      obtain ⟨y82146, hy82147, h82148⟩ := bindS h81576
      refine K.cutX (by kernel_rfl) (fun (s82145 : Unit) => ([(0, lsv (encL encSt39 4) 1 x0), (2, .bool false), (3, .int .i64 ((IntKind.wrap .i64 ((IntKind.wrap .i64 (s79281.1 + 1)) + ((((nth (nth x0 s41367.2) s79281.2).R_).length : Int)))))), (4, .int .i64 s41367.2), (5, .int .i64 s79281.2)], [])) y82146 ?_ (fun s82145 hs => ?_)
      ·refine K.block 3 (by kernel_rfl) ?_
       refine kSR ?_
       refine kC 4 [0,2,3,4,5,25,26,27] ?_
       obtain ⟨hm, h82150⟩ := asrt hy82147
       refine RJ.rel (d := (some 28)) (ef := ⟨.ep (((x0.flatMap (encL encSt39 4)).drop ((s41367.2 : Int).toNat * 1)).take 1), [], []⟩) (ef' := ⟨.ep ((encL encSt39 4) (nth x0 s41367.2)), [], []⟩) (c := inR s41367.2 x0.length) (tr2 := []) (H2 := []) (by kernel_rfl) hm (fun hc => N.idx (encL_len encSt39 4) hc) (by kernel_rfl) ?_
       refine RJ.seg 2 [0, 2, 3, 4, 5, 25, 29, 30] (L2 := [(0, lsv (encL encSt39 4) 1 x0), (2, .bool false), (3, .int .i64 s79281.1), (4, .int .i64 s41367.2), (5, .int .i64 s79281.2), (25, .int .i64 (IntKind.wrap .i64 (s79281.1 + 1))), (29, lsv encSt39 4 (nth x0 s41367.2)), (30, .int .i64 s79281.2)]) (H2 := []) (by kernel_rfl) ?_
       obtain ⟨hm, h82151⟩ := asrt h82150
       refine RJ.rel (d := (some 31)) (ef := ⟨.ep ((((nth x0 s41367.2).flatMap encSt39).drop ((s79281.2 : Int).toNat * 4)).take 4), [], []⟩) (ef' := ⟨.ep (encSt39 (nth (nth x0 s41367.2) s79281.2)), [], []⟩) (c := inR s79281.2 (nth x0 s41367.2).length) (tr2 := []) (H2 := []) (by kernel_rfl) hm (fun hc => N.idx encSt39_len hc) (by kernel_rfl) ?_
       refine kC 5 [0,2,3,4,5] ?_
       refine kEN ?_
       obtain ⟨y82420, hy82421, h82422⟩ := bindS h82151
       refine K.cutX (by kernel_rfl) (fun (s82419 : Unit) => ([(0, lsv (encL encSt39 4) 1 x0), (2, .bool false), (3, .int .i64 ((IntKind.wrap .i64 ((IntKind.wrap .i64 (s79281.1 + 1)) + ((((nth (nth x0 s41367.2) s79281.2).R_).length : Int)))))), (4, .int .i64 s41367.2), (5, .int .i64 s79281.2)], [])) y82420 ?_ (fun s82419 hs => ?_)
       ·refine kSR ?_
        refine kC 1 [0,2,3,4,5,6] ?_
        refine kEN ?_
        refine K.block 4 (by kernel_rfl) ?_
        refine K.loop (by kernel_rfl) (fun (s82424 : Int) => ([(0, lsv (encL encSt39 4) 1 x0), (2, .bool false), (3, .int .i64 ((IntKind.wrap .i64 ((IntKind.wrap .i64 (s79281.1 + 1)) + ((((nth (nth x0 s41367.2) s79281.2).R_).length : Int)))))), (4, .int .i64 s41367.2), (5, .int .i64 s79281.2), (6, .int .i64 s82424)], [])) hy82421 [0, 2, 3, 4, 5, 6] (by kernel_rfl) (by kernel_rfl) (fun s82424 x82602 hs82601 => ?_)
        refine kS ?_
        refine kSR ?_
        refine kC 3 [0,2,3,4,5,6,36,37,38] ?_
        obtain ⟨hm, h82603⟩ := asrt hs82601
        refine RJ.rel (d := (some 39)) (ef := ⟨.ep (((x0.flatMap (encL encSt39 4)).drop ((s41367.2 : Int).toNat * 1)).take 1), [], []⟩) (ef' := ⟨.ep ((encL encSt39 4) (nth x0 s41367.2)), [], []⟩) (c := inR s41367.2 x0.length) (tr2 := []) (H2 := []) (by kernel_rfl) hm (fun hc => N.idx (encL_len encSt39 4) hc) (by kernel_rfl) ?_
        refine kC 2 [0,2,3,4,5,6,36,40,41] ?_
        obtain ⟨hm, h82604⟩ := asrt h82603
        refine RJ.rel (d := (some 42)) (ef := ⟨.ep ((((nth x0 s41367.2).flatMap encSt39).drop ((s79281.2 : Int).toNat * 4)).take 4), [], []⟩) (ef' := ⟨.ep (encSt39 (nth (nth x0 s41367.2) s79281.2)), [], []⟩) (c := inR s79281.2 (nth x0 s41367.2).length) (tr2 := []) (H2 := []) (by kernel_rfl) hm (fun hc => N.idx encSt39_len hc) (by kernel_rfl) ?_
        refine kC 4 [0,2,3,4,5,6,46] ?_
        refine kEN ?_
        refine J.caseB 46 (b := (decide (s82424 < ((((nth (nth x0 s41367.2) s79281.2).R_).length : Int))))) (by kernel_rfl) (fun hb82605 => ?_) (fun hb82605 => ?_)
        ·have h82606 := condT hb82605 h82604
         refine kT ?_
         refine kK ?_
         refine PJ.next ?_
         obtain ⟨y82647, hy82648, h82649⟩ := bindS h82606
         refine K.cutX (by kernel_rfl) (fun (s82646 : Unit) => ([(0, lsv (encL encSt39 4) 1 x0), (2, .bool false), (3, .int .i64 ((IntKind.wrap .i64 ((IntKind.wrap .i64 (s79281.1 + 1)) + ((((nth (nth x0 s41367.2) s79281.2).R_).length : Int)))))), (4, .int .i64 s41367.2), (5, .int .i64 s79281.2), (6, .int .i64 s82424)], [])) y82647 ?_ (fun s82646 hs => ?_)
         ·refine K.block 5 (by kernel_rfl) ?_
          obtain ⟨s82660, hy82662, h82664⟩ := bindS hy82648
          refine K.cutN (by kernel_rfl) (fun (s82660 : Bool) => ([(0, lsv (encL encSt39 4) 1 x0), (2, .bool false), (3, .int .i64 ((IntKind.wrap .i64 ((IntKind.wrap .i64 (s79281.1 + 1)) + ((((nth (nth x0 s41367.2) s79281.2).R_).length : Int)))))), (4, .int .i64 s41367.2), (5, .int .i64 s79281.2), (6, .int .i64 s82424), (76, .bool s82660)], [])) s82660 ?_ ?_
          ·refine kR ?_
           refine RJ.seg 2 [0, 2, 3, 4, 5, 6, 49, 50] (L2 := [(0, lsv (encL encSt39 4) 1 x0), (2, .bool false), (3, .int .i64 ((IntKind.wrap .i64 ((IntKind.wrap .i64 (s79281.1 + 1)) + ((((nth (nth x0 s41367.2) s79281.2).R_).length : Int)))))), (4, .int .i64 s41367.2), (5, .int .i64 s79281.2), (6, .int .i64 s82424), (49, lsv (encL encSt39 4) 1 x0), (50, .int .i64 s41367.2)]) (H2 := []) (by kernel_rfl) ?_
           obtain ⟨hm, h82665⟩ := asrt hy82662
           refine RJ.rel (d := (some 51)) (ef := ⟨.ep (((x0.flatMap (encL encSt39 4)).drop ((s41367.2 : Int).toNat * 1)).take 1), [], []⟩) (ef' := ⟨.ep ((encL encSt39 4) (nth x0 s41367.2)), [], []⟩) (c := inR s41367.2 x0.length) (tr2 := []) (H2 := []) (by kernel_rfl) hm (fun hc => N.idx (encL_len encSt39 4) hc) (by kernel_rfl) ?_
           refine kC 2 [0,2,3,4,5,6,52,53] ?_
           obtain ⟨hm, h82666⟩ := asrt h82665
           refine RJ.rel (d := (some 54)) (ef := ⟨.ep ((((nth x0 s41367.2).flatMap encSt39).drop ((s79281.2 : Int).toNat * 4)).take 4), [], []⟩) (ef' := ⟨.ep (encSt39 (nth (nth x0 s41367.2) s79281.2)), [], []⟩) (c := inR s79281.2 (nth x0 s41367.2).length) (tr2 := []) (H2 := []) (by kernel_rfl) hm (fun hc => N.idx encSt39_len hc) (by kernel_rfl) ?_
           refine kC 3 [0,2,3,4,5,6,56,57] ?_
           obtain ⟨hm, h82667⟩ := asrt h82666
           refine RJ.rel (d := (some 58)) (ef := ⟨.ep (((((nth (nth x0 s41367.2) s79281.2).R_).flatMap encSt41).drop ((s82424 : Int).toNat * 2)).take 2), [], []⟩) (ef' := ⟨.ep (encSt41 (nth ((nth (nth x0 s41367.2) s79281.2).R_) s82424)), [], []⟩) (c := inR s82424 ((nth (nth x0 s41367.2) s79281.2).R_).length) (tr2 := []) (H2 := []) (by kernel_rfl) hm (fun hc => N.idx encSt41_len hc) (by kernel_rfl) ?_
           refine kC 4 [0,2,3,4,5,6,62] ?_
           refine RJ.caseB 62 (b := (decide (((nth ((nth (nth x0 s41367.2) s79281.2).R_) s82424).a0_) < (-1000000000000)))) (by kernel_rfl) (fun hb82668 => ?_) (fun hb82668 => ?_)
           ·have h82669 := condT hb82668 h82667
            refine RJ.seg 14 [0, 2, 3, 4, 5, 6, 76] (L2 := [(0, lsv (encL encSt39 4) 1 x0), (2, .bool false), (3, .int .i64 ((IntKind.wrap .i64 ((IntKind.wrap .i64 (s79281.1 + 1)) + ((((nth (nth x0 s41367.2) s79281.2).R_).length : Int)))))), (4, .int .i64 s41367.2), (5, .int .i64 s79281.2), (6, .int .i64 s82424), (76, .bool true)]) (H2 := []) (by kernel_rfl) ?_
            refine kE ?_
            obtain rfl := oi h82669
            exact kN [0, 2, 3, 4, 5, 6, 76]
           ·have h82670 := condF hb82668 h82667
            refine RJ.seg 2 [0, 2, 3, 4, 5, 6, 62, 63, 64] (L2 := [(0, lsv (encL encSt39 4) 1 x0), (2, .bool false), (3, .int .i64 ((IntKind.wrap .i64 ((IntKind.wrap .i64 (s79281.1 + 1)) + ((((nth (nth x0 s41367.2) s79281.2).R_).length : Int)))))), (4, .int .i64 s41367.2), (5, .int .i64 s79281.2), (6, .int .i64 s82424), (62, .bool false), (63, lsv (encL encSt39 4) 1 x0), (64, .int .i64 s41367.2)]) (H2 := []) (by kernel_rfl) ?_
            obtain ⟨hm, h82671⟩ := asrt h82670
            refine RJ.rel (d := (some 65)) (ef := ⟨.ep (((x0.flatMap (encL encSt39 4)).drop ((s41367.2 : Int).toNat * 1)).take 1), [], []⟩) (ef' := ⟨.ep ((encL encSt39 4) (nth x0 s41367.2)), [], []⟩) (c := inR s41367.2 x0.length) (tr2 := []) (H2 := []) (by kernel_rfl) hm (fun hc => N.idx (encL_len encSt39 4) hc) (by kernel_rfl) ?_
            refine kC 2 [0,2,3,4,5,6,62,66,67] ?_
            obtain ⟨hm, h82672⟩ := asrt h82671
            refine RJ.rel (d := (some 68)) (ef := ⟨.ep ((((nth x0 s41367.2).flatMap encSt39).drop ((s79281.2 : Int).toNat * 4)).take 4), [], []⟩) (ef' := ⟨.ep (encSt39 (nth (nth x0 s41367.2) s79281.2)), [], []⟩) (c := inR s79281.2 (nth x0 s41367.2).length) (tr2 := []) (H2 := []) (by kernel_rfl) hm (fun hc => N.idx encSt39_len hc) (by kernel_rfl) ?_
            refine kC 3 [0,2,3,4,5,6,62,70,71] ?_
            obtain ⟨hm, h82673⟩ := asrt h82672
            refine RJ.rel (d := (some 72)) (ef := ⟨.ep (((((nth (nth x0 s41367.2) s79281.2).R_).flatMap encSt41).drop ((s82424 : Int).toNat * 2)).take 2), [], []⟩) (ef' := ⟨.ep (encSt41 (nth ((nth (nth x0 s41367.2) s79281.2).R_) s82424)), [], []⟩) (c := inR s82424 ((nth (nth x0 s41367.2) s79281.2).R_).length) (tr2 := []) (H2 := []) (by kernel_rfl) hm (fun hc => N.idx encSt41_len hc) (by kernel_rfl) ?_
            refine kC 4 [0,2,3,4,5,6,76] ?_
            refine kE ?_
            obtain rfl := oi h82673
            exact kN [0, 2, 3, 4, 5, 6, 76]
          ·refine J.caseB 76 (b := s82660) (by kernel_rfl) (fun hb82674 => ?_) (fun hb82674 => ?_)
           ·have h82675 := condT hb82674 h82664
            refine kT ?_
            refine kSR ?_
            refine kC 1 [0,2,3,4,5,6] ?_
            refine kEN ?_
            refine kX ?_
            refine PJ.blockRet ?_
            obtain rfl := oi h82675
            have h82677 := joinX_inr h82649
            refine PJ.cutXr (fun e => nomatch e) ?_
            obtain rfl := oi h82677
            refine PJ.loopOut (fun e => nomatch e) (fun he82688 => ?_)
            have h82678 := congrArg some he82688
            refine PJ.blockRet ?_
            obtain rfl := oi h82678
            have h82679 := joinX_inr h82422
            refine PJ.cutXr (fun e => nomatch e) ?_
            refine PJ.blockRet ?_
            obtain rfl := oi h82679
            have h82680 := joinX_inr h82148
            refine PJ.cutXr (fun e => nomatch e) ?_
            obtain rfl := oi h82680
            refine PJ.loopOut (fun e => nomatch e) (fun he82687 => ?_)
            have h82681 := congrArg some he82687
            refine PJ.blockRet ?_
            obtain rfl := oi h82681
            have h82682 := joinX_inr h79279
            refine PJ.cutXr (fun e => nomatch e) ?_
            refine PJ.blockRet ?_
            obtain rfl := oi h82682
            have h82683 := joinX_inr h75836
            refine PJ.cutXr (fun e => nomatch e) ?_
            obtain rfl := oi h82683
            refine PJ.loopOut (fun e => nomatch e) (fun he82686 => ?_)
            have h82684 := congrArg some he82686
            refine PJ.blockRet ?_
            obtain rfl := oi h82684
            have h82685 := joinX_inr h41365
            refine PJ.cutXr (fun e => nomatch e) ?_
            obtain rfl := oi h82685
            exact kZ hFn hFH hFD
           ·have h82676 := condF hb82674 h82664
            refine kF ?_
            refine kK ?_
            refine PJ.blockNormal ?_
            obtain rfl := oi h82676
            exact PJ.cutXl [0, 2, 3, 4, 5, 6] (by kernel_rfl) (by kernel_rfl)
         ·subst hs
          have h82650 := joinX_inl h82649
          refine kR ?_
          refine kC 3 [0,2,3,4,5,6] ?_
          refine kE ?_
          obtain rfl := oi h82650
          exact PJ.loopNext [0, 2, 3, 4, 5, 6] (by kernel_rfl) (by kernel_rfl)
        ·have h82607 := condF hb82605 h82604
         refine kF ?_
         refine K.exit 4 (by kernel_rfl) ?_
         refine PJ.passExit ?_
         obtain rfl := oi h82607
         refine PJ.loopOut (fun e => nomatch e) (fun he82690 => ?_)
         have h82689 := congrArg some he82690
         refine PJ.blockOut ?_
         obtain rfl := oi h82689
         exact PJ.cutXl [0, 2, 3, 4, 5] (by kernel_rfl) (by kernel_rfl)
       ·subst hs
        have h82423 := joinX_inl h82422
        obtain ⟨s82696, hy82698, h82700⟩ := bindS h82423
        refine K.cutN (by kernel_rfl) (fun (s82696 : Bool) => ([(0, lsv (encL encSt39 4) 1 x0), (2, .bool false), (3, .int .i64 ((IntKind.wrap .i64 ((IntKind.wrap .i64 (s79281.1 + 1)) + ((((nth (nth x0 s41367.2) s79281.2).R_).length : Int)))))), (4, .int .i64 s41367.2), (5, .int .i64 s79281.2), (89, .bool s82696)], [])) s82696 ?_ ?_
        ·refine kR ?_
         refine kC 2 [0,2,3,4,5,77,78] ?_
         obtain ⟨hm, h82701⟩ := asrt hy82698
         refine RJ.rel (d := (some 79)) (ef := ⟨.ep (((x0.flatMap (encL encSt39 4)).drop ((s41367.2 : Int).toNat * 1)).take 1), [], []⟩) (ef' := ⟨.ep ((encL encSt39 4) (nth x0 s41367.2)), [], []⟩) (c := inR s41367.2 x0.length) (tr2 := []) (H2 := []) (by kernel_rfl) hm (fun hc => N.idx (encL_len encSt39 4) hc) (by kernel_rfl) ?_
         refine kC 2 [0,2,3,4,5,80,81] ?_
         obtain ⟨hm, h82702⟩ := asrt h82701
         refine RJ.rel (d := (some 82)) (ef := ⟨.ep ((((nth x0 s41367.2).flatMap encSt39).drop ((s79281.2 : Int).toNat * 4)).take 4), [], []⟩) (ef' := ⟨.ep (encSt39 (nth (nth x0 s41367.2) s79281.2)), [], []⟩) (c := inR s79281.2 (nth x0 s41367.2).length) (tr2 := []) (H2 := []) (by kernel_rfl) hm (fun hc => N.idx encSt39_len hc) (by kernel_rfl) ?_
         refine kC 4 [0,2,3,4,5,86] ?_
         refine RJ.caseB 86 (b := (decide (((nth (nth x0 s41367.2) s79281.2).Mod_) < (-1000000000000)))) (by kernel_rfl) (fun hb82703 => ?_) (fun hb82703 => ?_)
         ·have h82704 := condT hb82703 h82702
          refine RJ.seg 3 [0, 2, 3, 4, 5, 89] (L2 := [(0, lsv (encL encSt39 4) 1 x0), (2, .bool false), (3, .int .i64 ((IntKind.wrap .i64 ((IntKind.wrap .i64 (s79281.1 + 1)) + ((((nth (nth x0 s41367.2) s79281.2).R_).length : Int)))))), (4, .int .i64 s41367.2), (5, .int .i64 s79281.2), (89, .bool true)]) (H2 := []) (by kernel_rfl) ?_
          refine kE ?_
          obtain rfl := oi h82704
          exact kN [0, 2, 3, 4, 5, 89]
         ·have h82705 := condF hb82703 h82702
          refine RJ.seg 3 [0, 2, 3, 4, 5, 89] (L2 := [(0, lsv (encL encSt39 4) 1 x0), (2, .bool false), (3, .int .i64 ((IntKind.wrap .i64 ((IntKind.wrap .i64 (s79281.1 + 1)) + ((((nth (nth x0 s41367.2) s79281.2).R_).length : Int)))))), (4, .int .i64 s41367.2), (5, .int .i64 s79281.2), (89, .bool ((decide (((IntKind.wrap .i64 ((IntKind.wrap .i64 (s79281.1 + 1)) + ((((nth (nth x0 s41367.2) s79281.2).R_).length : Int))))) > 200))))]) (H2 := []) (by kernel_rfl) ?_
          refine kE ?_
          obtain rfl := oi h82705
          exact kN [0, 2, 3, 4, 5, 89]
        ·refine J.caseB 89 (b := s82696) (by kernel_rfl) (fun hb82706 => ?_) (fun hb82706 => ?_)
         ·have h82707 := condT hb82706 h82700
          refine kT ?_
          refine kSR ?_
          refine kC 1 [0,2,3,4,5] ?_
          refine kEN ?_
          refine kX ?_
          refine PJ.blockRet ?_
          obtain rfl := oi h82707
          have h82709 := joinX_inr h82148
          refine PJ.cutXr (fun e => nomatch e) ?_
          obtain rfl := oi h82709
          refine PJ.loopOut (fun e => nomatch e) (fun he82716 => ?_)
          have h82710 := congrArg some he82716
          refine PJ.blockRet ?_
          obtain rfl := oi h82710
          have h82711 := joinX_inr h79279
          refine PJ.cutXr (fun e => nomatch e) ?_
          refine PJ.blockRet ?_
          obtain rfl := oi h82711
          have h82712 := joinX_inr h75836
          refine PJ.cutXr (fun e => nomatch e) ?_
          obtain rfl := oi h82712
          refine PJ.loopOut (fun e => nomatch e) (fun he82715 => ?_)
          have h82713 := congrArg some he82715
          refine PJ.blockRet ?_
          obtain rfl := oi h82713
          have h82714 := joinX_inr h41365
          refine PJ.cutXr (fun e => nomatch e) ?_
          obtain rfl := oi h82714
          exact kZ hFn hFH hFD
         ·have h82708 := condF hb82706 h82700
          refine kF ?_
          refine kK ?_
          refine PJ.blockNormal ?_
          obtain rfl := oi h82708
          exact PJ.cutXl [0, 2, 3, 4, 5] (by kernel_rfl) (by kernel_rfl)
      ·subst hs
       have h82149 := joinX_inl h82148
       refine kR ?_
       refine kC 3 [0,2,3,4,5] ?_
       refine kE ?_
       obtain rfl := oi h82149
       exact PJ.loopNext [0, 2, 3, 4, 5] (by kernel_rfl) (by kernel_rfl)
     ·have h81577 := condF hb81575 h81574
      refine kF ?_
      refine K.exit 2 (by kernel_rfl) ?_
      refine PJ.passExit ?_
      obtain rfl := oi h81577
      refine PJ.loopOut (fun e => nomatch e) (fun he82718 => ?_)
      have h82717 := congrArg some he82718
      refine PJ.blockOut ?_
      obtain rfl := oi h82717
      exact PJ.cutXl [0, 2, 3, 4] (by kernel_rfl) (by kernel_rfl)
    ·subst hs
     have h79280 := joinX_inl h79279
     refine kSR ?_
     refine kC 2 [0,2,3,4,91] ?_
     refine kEN ?_
     refine J.caseB 91 (b := (decide (s79276 > 200))) (by kernel_rfl) (fun hb82719 => ?_) (fun hb82719 => ?_)
     ·have h82720 := condT hb82719 h79280
      refine kT ?_
      refine kSR ?_
      refine kC 1 [0,2,3,4] ?_
      refine kEN ?_
      refine kX ?_
      refine PJ.blockRet ?_
      obtain rfl := oi h82720
      have h82722 := joinX_inr h75836
      refine PJ.cutXr (fun e => nomatch e) ?_
      obtain rfl := oi h82722
      refine PJ.loopOut (fun e => nomatch e) (fun he82725 => ?_)
      have h82723 := congrArg some he82725
      refine PJ.blockRet ?_
      obtain rfl := oi h82723
      have h82724 := joinX_inr h41365
      refine PJ.cutXr (fun e => nomatch e) ?_
      obtain rfl := oi h82724
      exact kZ hFn hFH hFD
     ·have h82721 := condF hb82719 h79280
      refine kF ?_
      refine kK ?_
      refine PJ.blockNormal ?_
      obtain rfl := oi h82721
      exact PJ.cutXl [0, 2, 3, 4] (by kernel_rfl) (by kernel_rfl)
   ·subst hs
    have h75837 := joinX_inl h75836
    refine kR ?_
    refine kC 3 [0,2,3,4] ?_
    refine kE ?_
    obtain rfl := oi h75837
    exact PJ.loopNext [0, 2, 3, 4] (by kernel_rfl) (by kernel_rfl)
  ·have h68944 := condF hb68942 hs68940
   refine kF ?_
   refine K.exit 0 (by kernel_rfl) ?_
   refine PJ.passExit ?_
   obtain rfl := oi h68944
   refine PJ.loopOut (fun e => nomatch e) (fun he82727 => ?_)
   have h82726 := congrArg some he82727
   refine PJ.blockOut ?_
   obtain rfl := oi h82726
   exact PJ.cutXl [2] (by kernel_rfl) (by kernel_rfl)
 ·subst hs
  have h41366 := joinX_inl h41365
  refine kSR ?_
  refine kC 1 [2] ?_
  refine kEN ?_
  refine kX ?_
  obtain rfl := oi h41366
  exact kZ hFn hFH hFD
def exergueref05_Number : Nat → Int → Option (List UInt8)
 | 0, _ => none
 | n + 1, x0 => (bif (decide (x0 < 0)) then (Option.bind (exergueref05_Number n (IntKind.wrap .i64 (0 - x0))) fun y4 => (bif room (([45] : List UInt8).length + y4.length) then (some (([45] : List UInt8) ++ y4)) else none)) else (Option.bind (loopN (fun (s34 : Int × (List UInt8)) => (bif (decide (s34.1 ≥ 10)) then (bif room (((bytesS (([(IntKind.wrap .u8 ((IntKind.wrap .i64 (48 + ((Int.tmod (IntKind.wrap .i64 (Int.tdiv s34.1 10)) 10))))))] : List Int)))).length + s34.2.length) then (some (.inl ((IntKind.wrap .i64 (Int.tdiv s34.1 10)), (((bytesS (([(IntKind.wrap .u8 ((IntKind.wrap .i64 (48 + ((Int.tmod (IntKind.wrap .i64 (Int.tdiv s34.1 10)) 10))))))] : List Int)))) ++ s34.2)))) else none) else (some (.inr s34.2)))) big (x0, (bytesS (([(IntKind.wrap .u8 ((IntKind.wrap .i64 (48 + (Int.tmod x0 10)))))] : List Int))))) fun (s29 : (List UInt8)) => (some s29)))
theorem exergueref05_Number_ok : ∀ (n : Nat) {x0 : Int} {r : List UInt8} (h : exergueref05_Number n x0 = some r), SC Tryz.prog 22 [.int .i64 x0] [] (.str r) [] := by
 intro n
 induction n with
 | zero => intro x0 r h; cases h
 | succ n ih =>
 intro x0 r h
 refine kFn (fn := Tryz.f22) (fun F hFn hFH hFD => ?_)
 rw [exergueref05_Number.eq_2] at h
 refine kSR ?_
 refine kC 1 [0,2] ?_
 refine kEN ?_
 refine kS ?_
 refine kSR ?_
 refine kC 2 [0,2,5] ?_
 refine kEN ?_
 refine J.caseB 5 (b := (decide (x0 < 0))) (by kernel_rfl) (fun hb1 => ?_) (fun hb1 => ?_)
 ·have h2 := condT hb1 h
  refine kT ?_
  refine kSR ?_
  refine kC 2 [0,2,7] ?_
  obtain ⟨y4, hy5, h6⟩ := bindS h2
  refine RJ.call0 (d := (some 8)) (f := 22) (args := [.int .i64 (IntKind.wrap .i64 (0 - x0))]) (v := .str y4) (tr2 := []) (by kernel_rfl) (by kernel_rfl) (.cons (Le.refl _) .nil) (ih hy5) (by kernel_rfl) ?_
  obtain ⟨hm, h7⟩ := asrt h6
  refine RJ.rel (d := (some 9)) (ef := ⟨.str (([45] : List UInt8) ++ y4), [], []⟩) (ef' := ⟨.str (([45] : List UInt8) ++ y4), [], []⟩) (c := room (([45] : List UInt8).length + y4.length)) (tr2 := []) (H2 := []) (by kernel_rfl) hm (fun hc => rfl) (by kernel_rfl) ?_
  refine RJ.seg 1 [0, 2] (L2 := [(0, .int .i64 x0), (2, .str (([45] : List UInt8) ++ y4))]) (H2 := []) (by kernel_rfl) ?_
  refine kEN ?_
  refine kX ?_
  refine PJ.passRet ?_
  obtain rfl := oi h7
  exact kZ hFn hFH hFD
 ·have h3 := condF hb1 h
  refine kF ?_
  refine kK ?_
  refine PJ.next ?_
  refine kSR ?_
  refine kC 5 [0,2,14] ?_
  refine RJ.rel (d := (some 15)) (ef := ⟨.str (((([(IntKind.wrap .u8 ((IntKind.wrap .i64 (48 + (Int.tmod x0 10)))))] : List Int)).flatMap (encI .u8)).map Go.Sy.byteOf), [0], []⟩) (ef' := ⟨.str (bytesS (([(IntKind.wrap .u8 ((IntKind.wrap .i64 (48 + (Int.tmod x0 10)))))] : List Int))), [0], []⟩) (c := ((([(IntKind.wrap .u8 ((IntKind.wrap .i64 (48 + (Int.tmod x0 10)))))] : List Int)).flatMap (encI .u8)).all isByte) (tr2 := []) (H2 := [vecL (encI .u8) 1 5 (([(IntKind.wrap .u8 ((IntKind.wrap .i64 (48 + (Int.tmod x0 10)))))] : List Int))]) (by kernel_rfl) (allByte (([(IntKind.wrap .u8 ((IntKind.wrap .i64 (48 + (Int.tmod x0 10)))))] : List Int))) (fun hc => N.toStr) (by kernel_rfl) ?_
  refine RJ.seg 1 [0, 2, 3] (L2 := [(0, .int .i64 x0), (2, .str ([] : List UInt8)), (3, .str ((bytesS (([(IntKind.wrap .u8 ((IntKind.wrap .i64 (48 + (Int.tmod x0 10)))))] : List Int)))))]) (H2 := [vecL (encI .u8) 1 5 (([(IntKind.wrap .u8 ((IntKind.wrap .i64 (48 + (Int.tmod x0 10)))))] : List Int))]) (by kernel_rfl) ?_
  refine kEN ?_
  obtain ⟨s29, hy31, h33⟩ := bindS h3
  refine K.cutN (by kernel_rfl) (fun (s29 : (List UInt8)) => ([(2, .str ([] : List UInt8)), (3, .str s29)], [])) s29 ?_ ?_
  ·refine K.block 0 (by kernel_rfl) ?_
   refine J.wk (Wk.sel (L2 := [(0, .int .i64 x0), (2, .str ([] : List UInt8)), (3, .str ((bytesS (([(IntKind.wrap .u8 ((IntKind.wrap .i64 (48 + (Int.tmod x0 10)))))] : List Int)))))]) (H2 := []) 0 (by rw [hFH]; rfl) hFD [] (by kernel_rfl) (by kernel_rfl) (by decide) (by kernel_rfl) (by kernel_rfl) (by kernel_rfl) (by kernel_rfl)) ?_
   refine K.loop (by kernel_rfl) (fun (s34 : Int × (List UInt8)) => ([(0, .int .i64 s34.1), (2, .str ([] : List UInt8)), (3, .str s34.2)], [])) hy31 [0, 2, 3] (by kernel_rfl) (by kernel_rfl) (fun s34 x48 hs47 => ?_)
   refine kS ?_
   refine kSR ?_
   refine kC 2 [0,2,3,17] ?_
   refine kEN ?_
   refine J.caseB 17 (b := (decide (s34.1 ≥ 10))) (by kernel_rfl) (fun hb49 => ?_) (fun hb49 => ?_)
   ·have h50 := condT hb49 hs47
    refine kT ?_
    refine kK ?_
    refine PJ.next ?_
    refine K.block 1 (by kernel_rfl) ?_
    refine kSR ?_
    refine kC 3 [0,2,3] ?_
    refine kEN ?_
    refine kR ?_
    refine kC 5 [0,2,3,24] ?_
    refine RJ.rel (d := (some 25)) (ef := ⟨.str (((([(IntKind.wrap .u8 ((IntKind.wrap .i64 (48 + ((Int.tmod (IntKind.wrap .i64 (Int.tdiv s34.1 10)) 10))))))] : List Int)).flatMap (encI .u8)).map Go.Sy.byteOf), [0], []⟩) (ef' := ⟨.str (bytesS (([(IntKind.wrap .u8 ((IntKind.wrap .i64 (48 + ((Int.tmod (IntKind.wrap .i64 (Int.tdiv s34.1 10)) 10))))))] : List Int))), [0], []⟩) (c := ((([(IntKind.wrap .u8 ((IntKind.wrap .i64 (48 + ((Int.tmod (IntKind.wrap .i64 (Int.tdiv s34.1 10)) 10))))))] : List Int)).flatMap (encI .u8)).all isByte) (tr2 := []) (H2 := [vecL (encI .u8) 1 5 (([(IntKind.wrap .u8 ((IntKind.wrap .i64 (48 + ((Int.tmod (IntKind.wrap .i64 (Int.tdiv s34.1 10)) 10))))))] : List Int))]) (by kernel_rfl) (allByte (([(IntKind.wrap .u8 ((IntKind.wrap .i64 (48 + ((Int.tmod (IntKind.wrap .i64 (Int.tdiv s34.1 10)) 10))))))] : List Int))) (fun hc => N.toStr) (by kernel_rfl) ?_
    refine RJ.seg 1 [0, 2, 3, 25, 26] (L2 := [(0, .int .i64 (IntKind.wrap .i64 (Int.tdiv s34.1 10))), (2, .str ([] : List UInt8)), (3, .str s34.2), (25, .str ((bytesS (([(IntKind.wrap .u8 ((IntKind.wrap .i64 (48 + ((Int.tmod (IntKind.wrap .i64 (Int.tdiv s34.1 10)) 10))))))] : List Int))))), (26, .str s34.2)]) (H2 := [vecL (encI .u8) 1 5 (([(IntKind.wrap .u8 ((IntKind.wrap .i64 (48 + ((Int.tmod (IntKind.wrap .i64 (Int.tdiv s34.1 10)) 10))))))] : List Int))]) (by kernel_rfl) ?_
    obtain ⟨hm, h52⟩ := asrt h50
    refine RJ.rel (d := (some 27)) (ef := ⟨.str (((bytesS (([(IntKind.wrap .u8 ((IntKind.wrap .i64 (48 + ((Int.tmod (IntKind.wrap .i64 (Int.tdiv s34.1 10)) 10))))))] : List Int)))) ++ s34.2), [], []⟩) (ef' := ⟨.str (((bytesS (([(IntKind.wrap .u8 ((IntKind.wrap .i64 (48 + ((Int.tmod (IntKind.wrap .i64 (Int.tdiv s34.1 10)) 10))))))] : List Int)))) ++ s34.2), [], []⟩) (c := room (((bytesS (([(IntKind.wrap .u8 ((IntKind.wrap .i64 (48 + ((Int.tmod (IntKind.wrap .i64 (Int.tdiv s34.1 10)) 10))))))] : List Int)))).length + s34.2.length)) (tr2 := []) (H2 := [vecL (encI .u8) 1 5 (([(IntKind.wrap .u8 ((IntKind.wrap .i64 (48 + ((Int.tmod (IntKind.wrap .i64 (Int.tdiv s34.1 10)) 10))))))] : List Int))]) (by kernel_rfl) hm (fun hc => rfl) (by kernel_rfl) ?_
    refine kC 1 [0,2,3] ?_
    refine kE ?_
    refine PJ.blockNormal ?_
    obtain rfl := oi h52
    refine PJ.wk (Wk.sel (L2 := [(0, .int .i64 (IntKind.wrap .i64 (Int.tdiv s34.1 10))), (2, .str ([] : List UInt8)), (3, .str ((((bytesS (([(IntKind.wrap .u8 ((IntKind.wrap .i64 (48 + ((Int.tmod (IntKind.wrap .i64 (Int.tdiv s34.1 10)) 10))))))] : List Int)))) ++ s34.2)))]) (H2 := []) 0 (by rw [hFH]; rfl) hFD [] (by kernel_rfl) (by kernel_rfl) (by decide) (by kernel_rfl) (by kernel_rfl) (by kernel_rfl) (by kernel_rfl)) ?_
    exact PJ.loopNext [0, 2, 3] (by kernel_rfl) (by kernel_rfl)
   ·have h51 := condF hb49 hs47
    refine kF ?_
    refine K.exit 0 (by kernel_rfl) ?_
    refine PJ.passExit ?_
    obtain rfl := oi h51
    refine PJ.loopOut (fun e => nomatch e) (fun he54 => ?_)
    have h53 := congrArg some he54
    refine PJ.blockOut ?_
    obtain rfl := oi h53
    exact kN [2, 3]
  ·refine kSR ?_
   refine kC 2 [2] ?_
   refine kEN ?_
   refine kX ?_
   obtain rfl := oi h33
   exact kZ hFn hFH hFD
end Go.Proofs.YthpnbgbignjlpaaGreatDoor
