/-
  What the functions of this program come to, as functions of natives, each with the proof that it does. No conditions.
-/
import Derived.Test.YtdflcknbelpflaaProg
import Derived.Test.YtdflcknbelpflaaSySL
import Derived.Test.YtdflcknbelpflaaGa
namespace Go.Proofs.Ytdflcknbelpflaa
open Go Go.Sy Go.RowKit
set_option linter.unusedVariables false
set_option linter.unusedSimpArgs false
set_option maxRecDepth 100000
set_option maxHeartbeats 4000000
def pat_reader__number_s0 (x0 : List Int) (x1 : Int) (x2 : Int) (x3 : Int) (x4 : Int) (x5 : Int) (x6 : Int) (x7 : List St33) (x8 : Bool) (x9 : Int) (x10 : Int) (x11 : Int) (x12 : Int) (x13 : Int) (x14 : Int) (x15 : Int) (x16 : Int) (x17 : Int) (x18 : Bool) (x19 : Int) (x20 : Int) : Option ((Int × Int × Int × Int × Int × Int × Int × Int × Int × Int × Bool) ⊕ (Int × Int × Int × Int × Int × Int × Int × Int × Int × Int × Int × Bool)) :=
 (Option.bind (pat_reader__many_s0 64 x0 x1 x2 x3 x4 x5 x6) fun y1 => (Option.bind (bif (decide (y1.1 > 0)) then (Option.bind (pat_reader__many_s0 35 x0 y1.2 x2 x3 x4 x5 x6) fun y36 => (some (.inl (y36.2, x9, x10, x11, x12, x13, x14, (IntKind.wrap .i64 (y1.1 + y36.1)))))) else (Option.bind (pat_reader__places_s0 x0 y1.2 x2 x3 x4 x5 x6 x7 x8 x9 x10 x11 x12 x13 x14 y1.1 x16 x17 x18 x19 x20) fun y39 => (Sum.elim (fun y42 => (Option.bind (pat_reader__fraction_s0 x0 y42.1 x2 x3 x4 x5 x6 x7 x8 y42.2.1 y42.2.2.1 x11 x12 y42.2.2.2.1 y42.2.2.2.2 y1.1 x16 x17 x18 x19 x20) fun y46 => (Sum.elim (fun y49 => (some (.inl (y49.1, y42.2.1, y42.2.2.1, y49.2.1, y49.2.2, y42.2.2.2.1, y42.2.2.2.2, x16)))) (fun y50 => (some (.inr (.inr (y50.1, y50.2.1, y42.2.1, y42.2.2.1, y50.2.2.1, y50.2.2.2, y42.2.2.2.1, y42.2.2.2.2, y1.1, x16, x17, x18))))) y46))) (fun y43 => (some (.inr (.inr (y43.1, y43.2.1, y43.2.2.1, y43.2.2.2.1, x11, x12, x13, y43.2.2.2.2, y1.1, x16, x17, x18))))) y39))) (joinX fun (s28 : Int × Int × Int × Int × Int × Int × Int × Int) => (Option.bind (pat_reader__eat_s0 69 x0 s28.1 x2 x3 x4 x5 x6) fun y57 => (bif (!y57.1) then (some (.inl (y57.2, s28.2.1, s28.2.2.1, s28.2.2.2.1, s28.2.2.2.2.1, s28.2.2.2.2.2.1, s28.2.2.2.2.2.2.1, y1.1, s28.2.2.2.2.2.2.2, x17, x18))) else (Option.bind (pat_reader__eat_s0 43 x0 y57.2 x2 x3 x4 x5 x6) fun y63 => (Option.bind (pat_reader__many_s0 48 x0 y63.2 x2 x3 x4 x5 x6) fun y66 => (bif (decide (y66.1 = 0)) then (Option.bind (pat_reader__fail_s0 y66.2 x0 y66.2 x2 x3 x4 x5 x6) fun y72 => (some (.inr (y66.2, y66.2, s28.2.1, s28.2.2.1, s28.2.2.2.1, s28.2.2.2.2.1, s28.2.2.2.2.2.1, s28.2.2.2.2.2.2.1, y1.1, s28.2.2.2.2.2.2.2, y66.1, y63.1)))) else (some (.inl (y66.2, s28.2.1, s28.2.2.1, s28.2.2.2.1, s28.2.2.2.2.1, s28.2.2.2.2.2.1, s28.2.2.2.2.2.2.1, y1.1, s28.2.2.2.2.2.2.2, y66.1, y63.1)))))))))))
theorem pat_reader__number_s0_ok0 {x0 : List Int} {x1 : Int} {x2 : Int} {x3 : Int} {x4 : Int} {x5 : Int} {x6 : Int} {x7 : List St33} {x8 : Bool} {x9 : Int} {x10 : Int} {x11 : Int} {x12 : Int} {x13 : Int} {x14 : Int} {x15 : Int} {x16 : Int} {x17 : Int} {x18 : Bool} {x19 : Int} {x20 : Int} {r : Int × Int × Int × Int × Int × Int × Int × Int × Int × Int × Bool} (h : pat_reader__number_s0 x0 x1 x2 x3 x4 x5 x6 x7 x8 x9 x10 x11 x12 x13 x14 x15 x16 x17 x18 x19 x20 = some (.inl r)) : SC Try.prog 62 [.ptr 0 0, .ptr 2 0] [.box [lsv (encI .i32) 1 x0, .mp 1, .int .i64 x1, .int .i64 x2], mQ x3 x4 x5 x6, .box [lsv encSt33 2 x7, .nl, .nl, .nl, .bool x8, .int .i64 x9, .int .i64 x10, .int .i64 x11, .int .i64 x12, .int .i64 x13, .int .i64 x14, .int .i64 x15, .int .i64 x16, .int .i64 x17, .bool x18, .int .i32 x19, .int .i64 x20]] (.tup []) [.box [lsv (encI .i32) 1 x0, .mp 1, .int .i64 r.1, .int .i64 x2], mQ x3 x4 x5 x6, .box [lsv encSt33 2 x7, .nl, .nl, .nl, .bool x8, .int .i64 r.2.1, .int .i64 r.2.2.1, .int .i64 r.2.2.2.1, .int .i64 r.2.2.2.2.1, .int .i64 r.2.2.2.2.2.1, .int .i64 r.2.2.2.2.2.2.1, .int .i64 r.2.2.2.2.2.2.2.1, .int .i64 r.2.2.2.2.2.2.2.2.1, .int .i64 r.2.2.2.2.2.2.2.2.2.1, .bool r.2.2.2.2.2.2.2.2.2.2, .int .i32 x19, .int .i64 x20]] := by
 refine kFn (fn := Try.f62) (fun F hFn hFH hFD => ?_)
 unfold pat_reader__number_s0 at h
 refine kSR ?_
 refine kC 2 [0,1,4,5] ?_
 obtain ⟨y1, hy2, h3⟩ := bindS h
 refine kCG (some 6) (args := [.ptr 0 0, .int .i32 64]) (v := .int .i64 y1.1) (H2 := [.box [lsv (encI .i32) 1 x0, .mp 1, .int .i64 y1.2, .int .i64 x2], mQ x3 x4 x5 x6, .box [lsv encSt33 2 x7, .nl, .nl, .nl, .bool x8, .int .i64 x9, .int .i64 x10, .int .i64 x11, .int .i64 x12, .int .i64 x13, .int .i64 x14, .int .i64 x15, .int .i64 x16, .int .i64 x17, .bool x18, .int .i32 x19, .int .i64 x20]]) [0, 1] (pat_reader__many_s0_ok hy2) ?_
 refine kC 3 [0,1] ?_
 refine kEN ?_
 obtain ⟨y29, hy30, h31⟩ := bindS h3
 refine K.cutX (by kernel_rfl) (fun (s28 : Int × Int × Int × Int × Int × Int × Int × Int) => ([(0, .ptr 0 0), (1, .ptr 2 0)], [.box [lsv (encI .i32) 1 x0, .mp 1, .int .i64 s28.1, .int .i64 x2], mQ x3 x4 x5 x6, .box [lsv encSt33 2 x7, .nl, .nl, .nl, .bool x8, .int .i64 s28.2.1, .int .i64 s28.2.2.1, .int .i64 s28.2.2.2.1, .int .i64 s28.2.2.2.2.1, .int .i64 s28.2.2.2.2.2.1, .int .i64 s28.2.2.2.2.2.2.1, .int .i64 y1.1, .int .i64 s28.2.2.2.2.2.2.2, .int .i64 x17, .bool x18, .int .i32 x19, .int .i64 x20]])) y29 ?_ (fun s28 hs => ?_)
 ·refine kSR ?_
  refine kC 5 [0,1,13] ?_
  refine kEN ?_
  refine kBJ 13 hy30 (fun h34 => ?_) (fun h35 => ?_)
  ·refine kT ?_
   refine J.keep [0, 1] (L2 := [(0, .ptr 0 0), (1, .ptr 2 0)]) (by kernel_rfl) ?_
   refine K.draw (by kernel_rfl) (by kernel_rfl) (by kernel_rfl) (H2 := [.box [lsv (encI .i32) 1 x0, .mp 1, .int .i64 y1.2, .int .i64 x2], mQ x3 x4 x5 x6, .box [lsv encSt33 2 x7, .nl, .nl, .nl, .bool x8, .int .i64 x9, .int .i64 x10, .int .i64 x11, .int .i64 x12, .int .i64 x13, .int .i64 x14, .int .i64 y1.1, .int .i64 x16, .int .i64 x17, .bool x18, .int .i32 x19, .int .i64 x20], .res]) (by kernel_rfl) (n := 3) (by kernel_rfl) ?_
   refine kD 6 ?_
   obtain ⟨y36, hy37, h38⟩ := bindS h34
   refine RJ.callWr (d := (some 20)) (f := 73) (args := [.ptr 0 0, .int .i32 35]) (args0 := [.ptr 0 0, .int .i32 35]) (v0 := .int .i64 y36.1) (v := .int .i64 y36.1) (tr2 := [([], []), ([], []), ([], []), ([], []), ([4, 5], []), ([], []), ([0, 1, 2, 3], [0, 1, 2, 3, 6, 7])]) (H0 := [.box [lsv (encI .i32) 1 x0, .mp 1, .int .i64 y1.2, .int .i64 x2], mQ x3 x4 x5 x6]) (H0' := [.box [lsv (encI .i32) 1 x0, .mp 1, .int .i64 y36.2, .int .i64 x2], mQ x3 x4 x5 x6]) (H2 := [.box [lsv (encI .i32) 1 x0, .mp 1, .int .i64 y36.2, .int .i64 x2], mQ x3 x4 x5 x6, .box [lsv encSt33 2 x7, .nl, .nl, .nl, .bool x8, .int .i64 x9, .int .i64 x10, .int .i64 x11, .int .i64 x12, .int .i64 x13, .int .i64 x14, .int .i64 y1.1, .int .i64 x16, .int .i64 x17, .bool x18, .int .i32 x19, .int .i64 x20], .res]) [0, 1] (by kernel_rfl) (by kernel_rfl) (by kernel_rfl) (by kernel_rfl) (by decide) (by kernel_rfl) (by kernel_rfl) (by kernel_rfl) (.cons (Le.refl _) (.cons (Le.refl _) .nil)) (pat_reader__many_s0_ok hy37) (by kernel_rfl) (by kernel_rfl) (by kernel_rfl) (by kernel_rfl) (by kernel_rfl) ?_
   refine kD 4 ?_
   refine kE ?_
   obtain rfl := oi h38
   refine kW (L2 := [(0, .ptr 0 0), (1, .ptr 2 0)]) (H2 := [.box [lsv (encI .i32) 1 x0, .mp 1, .int .i64 y36.2, .int .i64 x2], mQ x3 x4 x5 x6, .box [lsv encSt33 2 x7, .nl, .nl, .nl, .bool x8, .int .i64 x9, .int .i64 x10, .int .i64 x11, .int .i64 x12, .int .i64 x13, .int .i64 x14, .int .i64 y1.1, .int .i64 (IntKind.wrap .i64 (y1.1 + y36.1)), .int .i64 x17, .bool x18, .int .i32 x19, .int .i64 x20]]) hFH hFD [0, 1, 2] ?_
   exact kXl [0, 1]
  ·refine kF ?_
   refine kSR ?_
   refine kC 2 [0,1,24,25] ?_
   obtain ⟨y39, hy40, h41⟩ := bindS h35
   rcases y39 with y42 | y43
   ·have h44 := elimL h41
    refine kCG (some 26) (args := [.ptr 0 0, .ptr 2 0]) (v := .tup []) (H2 := [.box [lsv (encI .i32) 1 x0, .mp 1, .int .i64 y42.1, .int .i64 x2], mQ x3 x4 x5 x6, .box [lsv encSt33 2 x7, .nl, .nl, .nl, .bool x8, .int .i64 y42.2.1, .int .i64 y42.2.2.1, .int .i64 x11, .int .i64 x12, .int .i64 y42.2.2.2.1, .int .i64 y42.2.2.2.2, .int .i64 y1.1, .int .i64 x16, .int .i64 x17, .bool x18, .int .i32 x19, .int .i64 x20]]) [0, 1, 2] (pat_reader__places_s0_ok0 hy40) ?_
    refine kEN ?_
    refine kR ?_
    refine kC 2 [0,1,27,28] ?_
    obtain ⟨y46, hy47, h48⟩ := bindS h44
    rcases y46 with y49 | y50
    ·have h51 := elimL h48
     refine kCG (some 29) (args := [.ptr 0 0, .ptr 2 0]) (v := .tup []) (H2 := [.box [lsv (encI .i32) 1 x0, .mp 1, .int .i64 y49.1, .int .i64 x2], mQ x3 x4 x5 x6, .box [lsv encSt33 2 x7, .nl, .nl, .nl, .bool x8, .int .i64 y42.2.1, .int .i64 y42.2.2.1, .int .i64 y49.2.1, .int .i64 y49.2.2, .int .i64 y42.2.2.2.1, .int .i64 y42.2.2.2.2, .int .i64 y1.1, .int .i64 x16, .int .i64 x17, .bool x18, .int .i32 x19, .int .i64 x20]]) [0, 1, 2] (pat_reader__fraction_s0_ok0 hy47) ?_
     refine kE ?_
     obtain rfl := oi h51
     exact kXl [0, 1]
    ·have h52 := elimR h48
     refine RJ.callP (d := (some 29)) (f := 75) (args := [.ptr 0 0, .ptr 2 0]) (args0 := [.ptr 0 0, .ptr 2 0]) (H0 := [.box [lsv (encI .i32) 1 x0, .mp 1, .int .i64 y42.1, .int .i64 x2], mQ x3 x4 x5 x6, .box [lsv encSt33 2 x7, .nl, .nl, .nl, .bool x8, .int .i64 y42.2.1, .int .i64 y42.2.2.1, .int .i64 x11, .int .i64 x12, .int .i64 y42.2.2.2.1, .int .i64 y42.2.2.2.2, .int .i64 y1.1, .int .i64 x16, .int .i64 x17, .bool x18, .int .i32 x19, .int .i64 x20]]) (H0' := [.box [.undef, .mp 1, .int .i64 y50.1, .int .i64 y50.2.1], mQ x3 x4 x5 x6, .box [.undef, .undef, .undef, .undef, .bool x8, .int .i64 y42.2.1, .int .i64 y42.2.2.1, .int .i64 y50.2.2.1, .int .i64 y50.2.2.2, .int .i64 y42.2.2.2.1, .int .i64 y42.2.2.2.2, .int .i64 y1.1, .int .i64 x16, .int .i64 x17, .bool x18, .int .i32 x19, .int .i64 x20]]) (H2 := [.box [.undef, .mp 1, .int .i64 y50.1, .int .i64 y50.2.1], mQ x3 x4 x5 x6, .box [.undef, .undef, .undef, .undef, .bool x8, .int .i64 y42.2.1, .int .i64 y42.2.2.1, .int .i64 y50.2.2.1, .int .i64 y50.2.2.2, .int .i64 y42.2.2.2.1, .int .i64 y42.2.2.2.2, .int .i64 y1.1, .int .i64 x16, .int .i64 x17, .bool x18, .int .i32 x19, .int .i64 x20]]) [0, 1, 2] (by kernel_rfl) (by kernel_rfl) (by kernel_rfl) (by kernel_rfl) (by decide) (by kernel_rfl) (by kernel_rfl) (by kernel_rfl) (.cons (Le.refl _) (.cons (Le.refl _) .nil)) (pat_reader__fraction_s0_ok1 hy47) (by kernel_rfl) (by kernel_rfl) ?_
     obtain rfl := oi h52
     have h54 := joinX_inr h31
     refine PP.cutXr ?_
     cases h54
   ·have h45 := elimR h41
    refine RJ.callP (d := (some 26)) (f := 74) (args := [.ptr 0 0, .ptr 2 0]) (args0 := [.ptr 0 0, .ptr 2 0]) (H0 := [.box [lsv (encI .i32) 1 x0, .mp 1, .int .i64 y1.2, .int .i64 x2], mQ x3 x4 x5 x6, .box [lsv encSt33 2 x7, .nl, .nl, .nl, .bool x8, .int .i64 x9, .int .i64 x10, .int .i64 x11, .int .i64 x12, .int .i64 x13, .int .i64 x14, .int .i64 y1.1, .int .i64 x16, .int .i64 x17, .bool x18, .int .i32 x19, .int .i64 x20]]) (H0' := [.box [.undef, .mp 1, .int .i64 y43.1, .int .i64 y43.2.1], mQ x3 x4 x5 x6, .box [.undef, .undef, .undef, .undef, .bool x8, .int .i64 y43.2.2.1, .int .i64 y43.2.2.2.1, .int .i64 x11, .int .i64 x12, .int .i64 x13, .int .i64 y43.2.2.2.2, .int .i64 y1.1, .int .i64 x16, .int .i64 x17, .bool x18, .int .i32 x19, .int .i64 x20]]) (H2 := [.box [.undef, .mp 1, .int .i64 y43.1, .int .i64 y43.2.1], mQ x3 x4 x5 x6, .box [.undef, .undef, .undef, .undef, .bool x8, .int .i64 y43.2.2.1, .int .i64 y43.2.2.2.1, .int .i64 x11, .int .i64 x12, .int .i64 x13, .int .i64 y43.2.2.2.2, .int .i64 y1.1, .int .i64 x16, .int .i64 x17, .bool x18, .int .i32 x19, .int .i64 x20]]) [0, 1, 2] (by kernel_rfl) (by kernel_rfl) (by kernel_rfl) (by kernel_rfl) (by decide) (by kernel_rfl) (by kernel_rfl) (by kernel_rfl) (.cons (Le.refl _) (.cons (Le.refl _) .nil)) (pat_reader__places_s0_ok1 hy40) (by kernel_rfl) (by kernel_rfl) ?_
    refine PP.next ?_
    obtain rfl := oi h45
    have h56 := joinX_inr h31
    refine PP.cutXr ?_
    cases h56
 ·subst hs
  have h32 := joinX_inl h31
  refine kS ?_
  refine kSR ?_
  refine kC 1 [0,1,30] ?_
  obtain ⟨y57, hy58, h59⟩ := bindS h32
  refine kCG (some 31) (args := [.ptr 0 0, .int .i32 69]) (v := .bool y57.1) (H2 := [.box [lsv (encI .i32) 1 x0, .mp 1, .int .i64 y57.2, .int .i64 x2], mQ x3 x4 x5 x6, .box [lsv encSt33 2 x7, .nl, .nl, .nl, .bool x8, .int .i64 s28.2.1, .int .i64 s28.2.2.1, .int .i64 s28.2.2.2.1, .int .i64 s28.2.2.2.2.1, .int .i64 s28.2.2.2.2.2.1, .int .i64 s28.2.2.2.2.2.2.1, .int .i64 y1.1, .int .i64 s28.2.2.2.2.2.2.2, .int .i64 x17, .bool x18, .int .i32 x19, .int .i64 x20]]) [0, 1] (pat_reader__eat_s0_ok hy58) ?_
  refine kC 1 [0,1,32] ?_
  refine kEN ?_
  refine kBJ 32 h59 (fun h61 => ?_) (fun h62 => ?_)
  ·refine kT ?_
   refine kX ?_
   refine PJ.passRet ?_
   obtain rfl := Sum.inl.inj (Option.some.inj h61)
   exact kV [0, 1, 2] hFn hFH hFD (v1 := .tup [])
  ·refine kF ?_
   refine kK ?_
   refine PJ.next ?_
   refine kSR ?_
   refine kC 2 [0,1,33,34] ?_
   obtain ⟨y63, hy64, h65⟩ := bindS h62
   refine kCG (some 35) (args := [.ptr 0 0, .int .i32 43]) (v := .bool y63.1) (H2 := [.box [lsv (encI .i32) 1 x0, .mp 1, .int .i64 y63.2, .int .i64 x2], mQ x3 x4 x5 x6, .box [lsv encSt33 2 x7, .nl, .nl, .nl, .bool x8, .int .i64 s28.2.1, .int .i64 s28.2.2.1, .int .i64 s28.2.2.2.1, .int .i64 s28.2.2.2.2.1, .int .i64 s28.2.2.2.2.2.1, .int .i64 s28.2.2.2.2.2.2.1, .int .i64 y1.1, .int .i64 s28.2.2.2.2.2.2.2, .int .i64 x17, .bool x18, .int .i32 x19, .int .i64 x20]]) [0, 1] (pat_reader__eat_s0_ok hy64) ?_
   refine kC 3 [0,1] ?_
   refine kEN ?_
   refine kSR ?_
   refine kC 2 [0,1,38,39] ?_
   obtain ⟨y66, hy67, h68⟩ := bindS h65
   refine kCG (some 40) (args := [.ptr 0 0, .int .i32 48]) (v := .int .i64 y66.1) (H2 := [.box [lsv (encI .i32) 1 x0, .mp 1, .int .i64 y66.2, .int .i64 x2], mQ x3 x4 x5 x6, .box [lsv encSt33 2 x7, .nl, .nl, .nl, .bool x8, .int .i64 s28.2.1, .int .i64 s28.2.2.1, .int .i64 s28.2.2.2.1, .int .i64 s28.2.2.2.2.1, .int .i64 s28.2.2.2.2.2.1, .int .i64 s28.2.2.2.2.2.2.1, .int .i64 y1.1, .int .i64 s28.2.2.2.2.2.2.2, .int .i64 x17, .bool y63.1, .int .i32 x19, .int .i64 x20]]) [0, 1] (pat_reader__many_s0_ok hy67) ?_
   refine kC 3 [0,1] ?_
   refine kEN ?_
   refine kSR ?_
   refine kC 5 [0,47] ?_
   refine kEN ?_
   refine kBJ 47 h68 (fun h70 => ?_) (fun h71 => ?_)
   ·refine kT ?_
    refine kR ?_
    refine kC 5 [48,52] ?_
    obtain ⟨y72, hy73, h74⟩ := bindS h70
    refine RJ.callP (d := (some 53)) (f := 65) (args := [.ptr 0 0, .int .i64 y66.2]) (args0 := [.ptr 0 0, .int .i64 y66.2]) (H0 := [.box [lsv (encI .i32) 1 x0, .mp 1, .int .i64 y66.2, .int .i64 x2], mQ x3 x4 x5 x6]) (H0' := [.box [.undef, .mp 1, .int .i64 y66.2, .int .i64 y66.2], mQ x3 x4 x5 x6]) (H2 := [.box [.undef, .mp 1, .int .i64 y66.2, .int .i64 y66.2], mQ x3 x4 x5 x6, .box [lsv encSt33 2 x7, .nl, .nl, .nl, .bool x8, .int .i64 s28.2.1, .int .i64 s28.2.2.1, .int .i64 s28.2.2.2.1, .int .i64 s28.2.2.2.2.1, .int .i64 s28.2.2.2.2.2.1, .int .i64 s28.2.2.2.2.2.2.1, .int .i64 y1.1, .int .i64 s28.2.2.2.2.2.2.2, .int .i64 y66.1, .bool y63.1, .int .i32 x19, .int .i64 x20]]) [0, 1] (by kernel_rfl) (by kernel_rfl) (by kernel_rfl) (by kernel_rfl) (by decide) (by kernel_rfl) (by kernel_rfl) (by kernel_rfl) (.cons (Le.refl _) (.cons (Le.refl _) .nil)) (pat_reader__fail_s0_ok0 hy73) (by kernel_rfl) (by kernel_rfl) ?_
    cases h74
   ·refine kF ?_
    refine kK ?_
    obtain rfl := Sum.inl.inj (Option.some.inj h71)
    exact K.retV (H0 := [.box [lsv (encI .i32) 1 x0, .mp 1, .int .i64 x1, .int .i64 x2], mQ x3 x4 x5 x6, .box [lsv encSt33 2 x7, .nl, .nl, .nl, .bool x8, .int .i64 x9, .int .i64 x10, .int .i64 x11, .int .i64 x12, .int .i64 x13, .int .i64 x14, .int .i64 x15, .int .i64 x16, .int .i64 x17, .bool x18, .int .i32 x19, .int .i64 x20]]) [0, 1, 2] (.inl rfl) hFn hFH hFD (by kernel_rfl) (v1 := .tup []) (by kernel_rfl) (by kernel_rfl) (by kernel_rfl) (by decide) (by kernel_rfl) (by kernel_rfl) (by kernel_rfl) (by kernel_rfl) (by kernel_rfl)
theorem pat_reader__number_s0_ok1 {x0 : List Int} {x1 : Int} {x2 : Int} {x3 : Int} {x4 : Int} {x5 : Int} {x6 : Int} {x7 : List St33} {x8 : Bool} {x9 : Int} {x10 : Int} {x11 : Int} {x12 : Int} {x13 : Int} {x14 : Int} {x15 : Int} {x16 : Int} {x17 : Int} {x18 : Bool} {x19 : Int} {x20 : Int} {r : Int × Int × Int × Int × Int × Int × Int × Int × Int × Int × Int × Bool} (h : pat_reader__number_s0 x0 x1 x2 x3 x4 x5 x6 x7 x8 x9 x10 x11 x12 x13 x14 x15 x16 x17 x18 x19 x20 = some (.inr r)) : SP Try.prog 62 [.ptr 0 0, .ptr 2 0] [.box [lsv (encI .i32) 1 x0, .mp 1, .int .i64 x1, .int .i64 x2], mQ x3 x4 x5 x6, .box [lsv encSt33 2 x7, .nl, .nl, .nl, .bool x8, .int .i64 x9, .int .i64 x10, .int .i64 x11, .int .i64 x12, .int .i64 x13, .int .i64 x14, .int .i64 x15, .int .i64 x16, .int .i64 x17, .bool x18, .int .i32 x19, .int .i64 x20]] [.box [.undef, .mp 1, .int .i64 r.1, .int .i64 r.2.1], mQ x3 x4 x5 x6, .box [.undef, .undef, .undef, .undef, .bool x8, .int .i64 r.2.2.1, .int .i64 r.2.2.2.1, .int .i64 r.2.2.2.2.1, .int .i64 r.2.2.2.2.2.1, .int .i64 r.2.2.2.2.2.2.1, .int .i64 r.2.2.2.2.2.2.2.1, .int .i64 r.2.2.2.2.2.2.2.2.1, .int .i64 r.2.2.2.2.2.2.2.2.2.1, .int .i64 r.2.2.2.2.2.2.2.2.2.2.1, .bool r.2.2.2.2.2.2.2.2.2.2.2, .int .i32 x19, .int .i64 x20]] := by
 refine kFnP (fn := Try.f62) (fun F hFn hFH hFD => ?_)
 unfold pat_reader__number_s0 at h
 refine kSR ?_
 refine kC 2 [0,1,4,5] ?_
 obtain ⟨y1, hy2, h3⟩ := bindS h
 refine kCG (some 6) (args := [.ptr 0 0, .int .i32 64]) (v := .int .i64 y1.1) (H2 := [.box [lsv (encI .i32) 1 x0, .mp 1, .int .i64 y1.2, .int .i64 x2], mQ x3 x4 x5 x6, .box [lsv encSt33 2 x7, .nl, .nl, .nl, .bool x8, .int .i64 x9, .int .i64 x10, .int .i64 x11, .int .i64 x12, .int .i64 x13, .int .i64 x14, .int .i64 x15, .int .i64 x16, .int .i64 x17, .bool x18, .int .i32 x19, .int .i64 x20]]) [0, 1] (pat_reader__many_s0_ok hy2) ?_
 refine kC 3 [0,1] ?_
 refine kEN ?_
 obtain ⟨y29, hy30, h31⟩ := bindS h3
 refine K.cutX (by kernel_rfl) (fun (s28 : Int × Int × Int × Int × Int × Int × Int × Int) => ([(0, .ptr 0 0), (1, .ptr 2 0)], [.box [lsv (encI .i32) 1 x0, .mp 1, .int .i64 s28.1, .int .i64 x2], mQ x3 x4 x5 x6, .box [lsv encSt33 2 x7, .nl, .nl, .nl, .bool x8, .int .i64 s28.2.1, .int .i64 s28.2.2.1, .int .i64 s28.2.2.2.1, .int .i64 s28.2.2.2.2.1, .int .i64 s28.2.2.2.2.2.1, .int .i64 s28.2.2.2.2.2.2.1, .int .i64 y1.1, .int .i64 s28.2.2.2.2.2.2.2, .int .i64 x17, .bool x18, .int .i32 x19, .int .i64 x20]])) y29 ?_ (fun s28 hs => ?_)
 ·refine kSR ?_
  refine kC 5 [0,1,13] ?_
  refine kEN ?_
  refine kBJ 13 hy30 (fun h34 => ?_) (fun h35 => ?_)
  ·refine kT ?_
   refine J.keep [0, 1] (L2 := [(0, .ptr 0 0), (1, .ptr 2 0)]) (by kernel_rfl) ?_
   refine K.draw (by kernel_rfl) (by kernel_rfl) (by kernel_rfl) (H2 := [.box [lsv (encI .i32) 1 x0, .mp 1, .int .i64 y1.2, .int .i64 x2], mQ x3 x4 x5 x6, .box [lsv encSt33 2 x7, .nl, .nl, .nl, .bool x8, .int .i64 x9, .int .i64 x10, .int .i64 x11, .int .i64 x12, .int .i64 x13, .int .i64 x14, .int .i64 y1.1, .int .i64 x16, .int .i64 x17, .bool x18, .int .i32 x19, .int .i64 x20], .res]) (by kernel_rfl) (n := 3) (by kernel_rfl) ?_
   refine kD 6 ?_
   obtain ⟨y36, hy37, h38⟩ := bindS h34
   refine RJ.callWr (d := (some 20)) (f := 73) (args := [.ptr 0 0, .int .i32 35]) (args0 := [.ptr 0 0, .int .i32 35]) (v0 := .int .i64 y36.1) (v := .int .i64 y36.1) (tr2 := [([], []), ([], []), ([], []), ([], []), ([4, 5], []), ([], []), ([0, 1, 2, 3], [0, 1, 2, 3, 6, 7])]) (H0 := [.box [lsv (encI .i32) 1 x0, .mp 1, .int .i64 y1.2, .int .i64 x2], mQ x3 x4 x5 x6]) (H0' := [.box [lsv (encI .i32) 1 x0, .mp 1, .int .i64 y36.2, .int .i64 x2], mQ x3 x4 x5 x6]) (H2 := [.box [lsv (encI .i32) 1 x0, .mp 1, .int .i64 y36.2, .int .i64 x2], mQ x3 x4 x5 x6, .box [lsv encSt33 2 x7, .nl, .nl, .nl, .bool x8, .int .i64 x9, .int .i64 x10, .int .i64 x11, .int .i64 x12, .int .i64 x13, .int .i64 x14, .int .i64 y1.1, .int .i64 x16, .int .i64 x17, .bool x18, .int .i32 x19, .int .i64 x20], .res]) [0, 1] (by kernel_rfl) (by kernel_rfl) (by kernel_rfl) (by kernel_rfl) (by decide) (by kernel_rfl) (by kernel_rfl) (by kernel_rfl) (.cons (Le.refl _) (.cons (Le.refl _) .nil)) (pat_reader__many_s0_ok hy37) (by kernel_rfl) (by kernel_rfl) (by kernel_rfl) (by kernel_rfl) (by kernel_rfl) ?_
   refine kD 4 ?_
   refine kE ?_
   obtain rfl := oi h38
   refine kW (L2 := [(0, .ptr 0 0), (1, .ptr 2 0)]) (H2 := [.box [lsv (encI .i32) 1 x0, .mp 1, .int .i64 y36.2, .int .i64 x2], mQ x3 x4 x5 x6, .box [lsv encSt33 2 x7, .nl, .nl, .nl, .bool x8, .int .i64 x9, .int .i64 x10, .int .i64 x11, .int .i64 x12, .int .i64 x13, .int .i64 x14, .int .i64 y1.1, .int .i64 (IntKind.wrap .i64 (y1.1 + y36.1)), .int .i64 x17, .bool x18, .int .i32 x19, .int .i64 x20]]) hFH hFD [0, 1, 2] ?_
   exact kXl [0, 1]
  ·refine kF ?_
   refine kSR ?_
   refine kC 2 [0,1,24,25] ?_
   obtain ⟨y39, hy40, h41⟩ := bindS h35
   rcases y39 with y42 | y43
   ·have h44 := elimL h41
    refine kCG (some 26) (args := [.ptr 0 0, .ptr 2 0]) (v := .tup []) (H2 := [.box [lsv (encI .i32) 1 x0, .mp 1, .int .i64 y42.1, .int .i64 x2], mQ x3 x4 x5 x6, .box [lsv encSt33 2 x7, .nl, .nl, .nl, .bool x8, .int .i64 y42.2.1, .int .i64 y42.2.2.1, .int .i64 x11, .int .i64 x12, .int .i64 y42.2.2.2.1, .int .i64 y42.2.2.2.2, .int .i64 y1.1, .int .i64 x16, .int .i64 x17, .bool x18, .int .i32 x19, .int .i64 x20]]) [0, 1, 2] (pat_reader__places_s0_ok0 hy40) ?_
    refine kEN ?_
    refine kR ?_
    refine kC 2 [0,1,27,28] ?_
    obtain ⟨y46, hy47, h48⟩ := bindS h44
    rcases y46 with y49 | y50
    ·have h51 := elimL h48
     refine kCG (some 29) (args := [.ptr 0 0, .ptr 2 0]) (v := .tup []) (H2 := [.box [lsv (encI .i32) 1 x0, .mp 1, .int .i64 y49.1, .int .i64 x2], mQ x3 x4 x5 x6, .box [lsv encSt33 2 x7, .nl, .nl, .nl, .bool x8, .int .i64 y42.2.1, .int .i64 y42.2.2.1, .int .i64 y49.2.1, .int .i64 y49.2.2, .int .i64 y42.2.2.2.1, .int .i64 y42.2.2.2.2, .int .i64 y1.1, .int .i64 x16, .int .i64 x17, .bool x18, .int .i32 x19, .int .i64 x20]]) [0, 1, 2] (pat_reader__fraction_s0_ok0 hy47) ?_
     refine kE ?_
     obtain rfl := oi h51
     exact kXl [0, 1]
    ·have h52 := elimR h48
     refine RJ.callP (d := (some 29)) (f := 75) (args := [.ptr 0 0, .ptr 2 0]) (args0 := [.ptr 0 0, .ptr 2 0]) (H0 := [.box [lsv (encI .i32) 1 x0, .mp 1, .int .i64 y42.1, .int .i64 x2], mQ x3 x4 x5 x6, .box [lsv encSt33 2 x7, .nl, .nl, .nl, .bool x8, .int .i64 y42.2.1, .int .i64 y42.2.2.1, .int .i64 x11, .int .i64 x12, .int .i64 y42.2.2.2.1, .int .i64 y42.2.2.2.2, .int .i64 y1.1, .int .i64 x16, .int .i64 x17, .bool x18, .int .i32 x19, .int .i64 x20]]) (H0' := [.box [.undef, .mp 1, .int .i64 y50.1, .int .i64 y50.2.1], mQ x3 x4 x5 x6, .box [.undef, .undef, .undef, .undef, .bool x8, .int .i64 y42.2.1, .int .i64 y42.2.2.1, .int .i64 y50.2.2.1, .int .i64 y50.2.2.2, .int .i64 y42.2.2.2.1, .int .i64 y42.2.2.2.2, .int .i64 y1.1, .int .i64 x16, .int .i64 x17, .bool x18, .int .i32 x19, .int .i64 x20]]) (H2 := [.box [.undef, .mp 1, .int .i64 y50.1, .int .i64 y50.2.1], mQ x3 x4 x5 x6, .box [.undef, .undef, .undef, .undef, .bool x8, .int .i64 y42.2.1, .int .i64 y42.2.2.1, .int .i64 y50.2.2.1, .int .i64 y50.2.2.2, .int .i64 y42.2.2.2.1, .int .i64 y42.2.2.2.2, .int .i64 y1.1, .int .i64 x16, .int .i64 x17, .bool x18, .int .i32 x19, .int .i64 x20]]) [0, 1, 2] (by kernel_rfl) (by kernel_rfl) (by kernel_rfl) (by kernel_rfl) (by decide) (by kernel_rfl) (by kernel_rfl) (by kernel_rfl) (.cons (Le.refl _) (.cons (Le.refl _) .nil)) (pat_reader__fraction_s0_ok1 hy47) (by kernel_rfl) (by kernel_rfl) ?_
     obtain rfl := oi h52
     have h54 := joinX_inr h31
     refine PP.cutXr ?_
     obtain rfl := Sum.inr.inj (Option.some.inj h54)
     exact K.panV (H0 := [.box [lsv (encI .i32) 1 x0, .mp 1, .int .i64 x1, .int .i64 x2], mQ x3 x4 x5 x6, .box [lsv encSt33 2 x7, .nl, .nl, .nl, .bool x8, .int .i64 x9, .int .i64 x10, .int .i64 x11, .int .i64 x12, .int .i64 x13, .int .i64 x14, .int .i64 x15, .int .i64 x16, .int .i64 x17, .bool x18, .int .i32 x19, .int .i64 x20]]) (H' := [.box [.undef, .mp 1, .int .i64 y50.1, .int .i64 y50.2.1], mQ x3 x4 x5 x6, .box [.undef, .undef, .undef, .undef, .bool x8, .int .i64 y42.2.1, .int .i64 y42.2.2.1, .int .i64 y50.2.2.1, .int .i64 y50.2.2.2, .int .i64 y42.2.2.2.1, .int .i64 y42.2.2.2.2, .int .i64 y1.1, .int .i64 x16, .int .i64 x17, .bool x18, .int .i32 x19, .int .i64 x20]]) [0, 1, 2] hFH hFD (by kernel_rfl) (by kernel_rfl) (by decide) (by kernel_rfl) (by kernel_rfl) (by kernel_rfl)
   ·have h45 := elimR h41
    refine RJ.callP (d := (some 26)) (f := 74) (args := [.ptr 0 0, .ptr 2 0]) (args0 := [.ptr 0 0, .ptr 2 0]) (H0 := [.box [lsv (encI .i32) 1 x0, .mp 1, .int .i64 y1.2, .int .i64 x2], mQ x3 x4 x5 x6, .box [lsv encSt33 2 x7, .nl, .nl, .nl, .bool x8, .int .i64 x9, .int .i64 x10, .int .i64 x11, .int .i64 x12, .int .i64 x13, .int .i64 x14, .int .i64 y1.1, .int .i64 x16, .int .i64 x17, .bool x18, .int .i32 x19, .int .i64 x20]]) (H0' := [.box [.undef, .mp 1, .int .i64 y43.1, .int .i64 y43.2.1], mQ x3 x4 x5 x6, .box [.undef, .undef, .undef, .undef, .bool x8, .int .i64 y43.2.2.1, .int .i64 y43.2.2.2.1, .int .i64 x11, .int .i64 x12, .int .i64 x13, .int .i64 y43.2.2.2.2, .int .i64 y1.1, .int .i64 x16, .int .i64 x17, .bool x18, .int .i32 x19, .int .i64 x20]]) (H2 := [.box [.undef, .mp 1, .int .i64 y43.1, .int .i64 y43.2.1], mQ x3 x4 x5 x6, .box [.undef, .undef, .undef, .undef, .bool x8, .int .i64 y43.2.2.1, .int .i64 y43.2.2.2.1, .int .i64 x11, .int .i64 x12, .int .i64 x13, .int .i64 y43.2.2.2.2, .int .i64 y1.1, .int .i64 x16, .int .i64 x17, .bool x18, .int .i32 x19, .int .i64 x20]]) [0, 1, 2] (by kernel_rfl) (by kernel_rfl) (by kernel_rfl) (by kernel_rfl) (by decide) (by kernel_rfl) (by kernel_rfl) (by kernel_rfl) (.cons (Le.refl _) (.cons (Le.refl _) .nil)) (pat_reader__places_s0_ok1 hy40) (by kernel_rfl) (by kernel_rfl) ?_
    refine PP.next ?_
    obtain rfl := oi h45
    have h56 := joinX_inr h31
    refine PP.cutXr ?_
    obtain rfl := Sum.inr.inj (Option.some.inj h56)
    exact K.panV (H0 := [.box [lsv (encI .i32) 1 x0, .mp 1, .int .i64 x1, .int .i64 x2], mQ x3 x4 x5 x6, .box [lsv encSt33 2 x7, .nl, .nl, .nl, .bool x8, .int .i64 x9, .int .i64 x10, .int .i64 x11, .int .i64 x12, .int .i64 x13, .int .i64 x14, .int .i64 x15, .int .i64 x16, .int .i64 x17, .bool x18, .int .i32 x19, .int .i64 x20]]) (H' := [.box [.undef, .mp 1, .int .i64 y43.1, .int .i64 y43.2.1], mQ x3 x4 x5 x6, .box [.undef, .undef, .undef, .undef, .bool x8, .int .i64 y43.2.2.1, .int .i64 y43.2.2.2.1, .int .i64 x11, .int .i64 x12, .int .i64 x13, .int .i64 y43.2.2.2.2, .int .i64 y1.1, .int .i64 x16, .int .i64 x17, .bool x18, .int .i32 x19, .int .i64 x20]]) [0, 1, 2] hFH hFD (by kernel_rfl) (by kernel_rfl) (by decide) (by kernel_rfl) (by kernel_rfl) (by kernel_rfl)
 ·subst hs
  have h32 := joinX_inl h31
  refine kS ?_
  refine kSR ?_
  refine kC 1 [0,1,30] ?_
  obtain ⟨y57, hy58, h59⟩ := bindS h32
  refine kCG (some 31) (args := [.ptr 0 0, .int .i32 69]) (v := .bool y57.1) (H2 := [.box [lsv (encI .i32) 1 x0, .mp 1, .int .i64 y57.2, .int .i64 x2], mQ x3 x4 x5 x6, .box [lsv encSt33 2 x7, .nl, .nl, .nl, .bool x8, .int .i64 s28.2.1, .int .i64 s28.2.2.1, .int .i64 s28.2.2.2.1, .int .i64 s28.2.2.2.2.1, .int .i64 s28.2.2.2.2.2.1, .int .i64 s28.2.2.2.2.2.2.1, .int .i64 y1.1, .int .i64 s28.2.2.2.2.2.2.2, .int .i64 x17, .bool x18, .int .i32 x19, .int .i64 x20]]) [0, 1] (pat_reader__eat_s0_ok hy58) ?_
  refine kC 1 [0,1,32] ?_
  refine kEN ?_
  refine kBJ 32 h59 (fun h61 => ?_) (fun h62 => ?_)
  ·refine kT ?_
   refine kX ?_
   refine PJ.passRet ?_
   cases h61
  ·refine kF ?_
   refine kK ?_
   refine PJ.next ?_
   refine kSR ?_
   refine kC 2 [0,1,33,34] ?_
   obtain ⟨y63, hy64, h65⟩ := bindS h62
   refine kCG (some 35) (args := [.ptr 0 0, .int .i32 43]) (v := .bool y63.1) (H2 := [.box [lsv (encI .i32) 1 x0, .mp 1, .int .i64 y63.2, .int .i64 x2], mQ x3 x4 x5 x6, .box [lsv encSt33 2 x7, .nl, .nl, .nl, .bool x8, .int .i64 s28.2.1, .int .i64 s28.2.2.1, .int .i64 s28.2.2.2.1, .int .i64 s28.2.2.2.2.1, .int .i64 s28.2.2.2.2.2.1, .int .i64 s28.2.2.2.2.2.2.1, .int .i64 y1.1, .int .i64 s28.2.2.2.2.2.2.2, .int .i64 x17, .bool x18, .int .i32 x19, .int .i64 x20]]) [0, 1] (pat_reader__eat_s0_ok hy64) ?_
   refine kC 3 [0,1] ?_
   refine kEN ?_
   refine kSR ?_
   refine kC 2 [0,1,38,39] ?_
   obtain ⟨y66, hy67, h68⟩ := bindS h65
   refine kCG (some 40) (args := [.ptr 0 0, .int .i32 48]) (v := .int .i64 y66.1) (H2 := [.box [lsv (encI .i32) 1 x0, .mp 1, .int .i64 y66.2, .int .i64 x2], mQ x3 x4 x5 x6, .box [lsv encSt33 2 x7, .nl, .nl, .nl, .bool x8, .int .i64 s28.2.1, .int .i64 s28.2.2.1, .int .i64 s28.2.2.2.1, .int .i64 s28.2.2.2.2.1, .int .i64 s28.2.2.2.2.2.1, .int .i64 s28.2.2.2.2.2.2.1, .int .i64 y1.1, .int .i64 s28.2.2.2.2.2.2.2, .int .i64 x17, .bool y63.1, .int .i32 x19, .int .i64 x20]]) [0, 1] (pat_reader__many_s0_ok hy67) ?_
   refine kC 3 [0,1] ?_
   refine kEN ?_
   refine kSR ?_
   refine kC 5 [0,47] ?_
   refine kEN ?_
   refine kBJ 47 h68 (fun h70 => ?_) (fun h71 => ?_)
   ·refine kT ?_
    refine kR ?_
    refine kC 5 [48,52] ?_
    obtain ⟨y72, hy73, h74⟩ := bindS h70
    refine RJ.callP (d := (some 53)) (f := 65) (args := [.ptr 0 0, .int .i64 y66.2]) (args0 := [.ptr 0 0, .int .i64 y66.2]) (H0 := [.box [lsv (encI .i32) 1 x0, .mp 1, .int .i64 y66.2, .int .i64 x2], mQ x3 x4 x5 x6]) (H0' := [.box [.undef, .mp 1, .int .i64 y66.2, .int .i64 y66.2], mQ x3 x4 x5 x6]) (H2 := [.box [.undef, .mp 1, .int .i64 y66.2, .int .i64 y66.2], mQ x3 x4 x5 x6, .box [lsv encSt33 2 x7, .nl, .nl, .nl, .bool x8, .int .i64 s28.2.1, .int .i64 s28.2.2.1, .int .i64 s28.2.2.2.1, .int .i64 s28.2.2.2.2.1, .int .i64 s28.2.2.2.2.2.1, .int .i64 s28.2.2.2.2.2.2.1, .int .i64 y1.1, .int .i64 s28.2.2.2.2.2.2.2, .int .i64 y66.1, .bool y63.1, .int .i32 x19, .int .i64 x20]]) [0, 1] (by kernel_rfl) (by kernel_rfl) (by kernel_rfl) (by kernel_rfl) (by decide) (by kernel_rfl) (by kernel_rfl) (by kernel_rfl) (.cons (Le.refl _) (.cons (Le.refl _) .nil)) (pat_reader__fail_s0_ok0 hy73) (by kernel_rfl) (by kernel_rfl) ?_
    obtain rfl := Sum.inr.inj (Option.some.inj h74)
    refine PP.wk (Wk.undefs 2 [true, true, true, true, false, false, false, false, false, false, false, false, false, false, false, false, false] (cs := [lsv encSt33 2 x7, .nl, .nl, .nl, .bool x8, .int .i64 s28.2.1, .int .i64 s28.2.2.1, .int .i64 s28.2.2.2.1, .int .i64 s28.2.2.2.2.1, .int .i64 s28.2.2.2.2.2.1, .int .i64 s28.2.2.2.2.2.2.1, .int .i64 y1.1, .int .i64 s28.2.2.2.2.2.2.2, .int .i64 y66.1, .bool y63.1, .int .i32 x19, .int .i64 x20]) (by kernel_rfl)) ?_
    exact K.panV (H0 := [.box [lsv (encI .i32) 1 x0, .mp 1, .int .i64 x1, .int .i64 x2], mQ x3 x4 x5 x6, .box [lsv encSt33 2 x7, .nl, .nl, .nl, .bool x8, .int .i64 x9, .int .i64 x10, .int .i64 x11, .int .i64 x12, .int .i64 x13, .int .i64 x14, .int .i64 x15, .int .i64 x16, .int .i64 x17, .bool x18, .int .i32 x19, .int .i64 x20]]) (H' := [.box [.undef, .mp 1, .int .i64 y66.2, .int .i64 y66.2], mQ x3 x4 x5 x6, .box [.undef, .undef, .undef, .undef, .bool x8, .int .i64 s28.2.1, .int .i64 s28.2.2.1, .int .i64 s28.2.2.2.1, .int .i64 s28.2.2.2.2.1, .int .i64 s28.2.2.2.2.2.1, .int .i64 s28.2.2.2.2.2.2.1, .int .i64 y1.1, .int .i64 s28.2.2.2.2.2.2.2, .int .i64 y66.1, .bool y63.1, .int .i32 x19, .int .i64 x20]]) [0, 1, 2] hFH hFD (by kernel_rfl) (by kernel_rfl) (by decide) (by kernel_rfl) (by kernel_rfl) (by kernel_rfl)
   ·refine kF ?_
    refine kK ?_
    cases h71
def pat_reader__pad_s2 (x0 : Int) (x1 : List Int) (x2 : Int) (x3 : Int) (x4 : Int) (x5 : Int) (x6 : Int) (x7 : Int) (x8 : List St33) (x9 : List St33) (x10 : Bool) (x11 : Int) (x12 : Int) (x13 : Int) (x14 : Int) (x15 : Int) (x16 : Int) (x17 : Int) (x18 : Int) (x19 : Int) (x20 : Bool) (x21 : Int) (x22 : Int) : Option ((Int × Int × Int) ⊕ (Int × Int)) :=
 (Option.bind (Option.bind (bif (decide (¬ x22 = 0)) then (some (true, x2)) else (Option.bind (pat_reader__eat_s0 42 x1 x2 x3 x4 x5 x6 x7) fun y41 => (some ((!y41.1), y41.2)))) fun (s33 : Bool × Int) => (bif s33.1 then (some (.inr (.inl (s33.2, x21, x22)))) else (some (.inl s33.2)))) (joinX fun (s22 : Int) => (Option.bind (bif (decide (s22 = (x1.length : Int))) then (Option.bind (pat_reader__fail_s0 s22 x1 s22 x3 x4 x5 x6 x7) fun y64 => (some (.inr (.inr (s22, s22))))) else (some (.inl ()))) (joinX fun (s56 : Unit) => (bif inR s22 x1.length then (some (.inl ((IntKind.wrap .i64 (s22 + 1)), (nth x1 s22), x0))) else none)))))
theorem pat_reader__pad_s2_ok0 {x0 : Int} {x1 : List Int} {x2 : Int} {x3 : Int} {x4 : Int} {x5 : Int} {x6 : Int} {x7 : Int} {x8 : List St33} {x9 : List St33} {x10 : Bool} {x11 : Int} {x12 : Int} {x13 : Int} {x14 : Int} {x15 : Int} {x16 : Int} {x17 : Int} {x18 : Int} {x19 : Int} {x20 : Bool} {x21 : Int} {x22 : Int} {r : Int × Int × Int} (h : pat_reader__pad_s2 x0 x1 x2 x3 x4 x5 x6 x7 x8 x9 x10 x11 x12 x13 x14 x15 x16 x17 x18 x19 x20 x21 x22 = some (.inl r)) : SC Try.prog 60 [.ptr 0 0, .ptr 2 0, .int .i64 x0] [.box [lsv (encI .i32) 1 x1, .mp 1, .int .i64 x2, .int .i64 x3], mQ x4 x5 x6 x7, .box [lsv encSt33 2 x8, lsv encSt33 2 x9, .nl, .nl, .bool x10, .int .i64 x11, .int .i64 x12, .int .i64 x13, .int .i64 x14, .int .i64 x15, .int .i64 x16, .int .i64 x17, .int .i64 x18, .int .i64 x19, .bool x20, .int .i32 x21, .int .i64 x22]] (.tup []) [.box [lsv (encI .i32) 1 x1, .mp 1, .int .i64 r.1, .int .i64 x3], mQ x4 x5 x6 x7, .box [lsv encSt33 2 x8, lsv encSt33 2 x9, .nl, .nl, .bool x10, .int .i64 x11, .int .i64 x12, .int .i64 x13, .int .i64 x14, .int .i64 x15, .int .i64 x16, .int .i64 x17, .int .i64 x18, .int .i64 x19, .bool x20, .int .i32 r.2.1, .int .i64 r.2.2]] := by
 refine kFn (fn := Try.f60) (fun F hFn hFH hFD => ?_)
 unfold pat_reader__pad_s2 at h
 obtain ⟨y23, hy24, h25⟩ := bindS h
 refine K.cutX (by kernel_rfl) (fun (s22 : Int) => ([(0, .ptr 0 0), (1, .ptr 2 0), (2, .int .i64 x0)], [.box [lsv (encI .i32) 1 x1, .mp 1, .int .i64 s22, .int .i64 x3], mQ x4 x5 x6 x7, .box [lsv encSt33 2 x8, lsv encSt33 2 x9, .nl, .nl, .bool x10, .int .i64 x11, .int .i64 x12, .int .i64 x13, .int .i64 x14, .int .i64 x15, .int .i64 x16, .int .i64 x17, .int .i64 x18, .int .i64 x19, .bool x20, .int .i32 x21, .int .i64 x22]])) y23 ?_ (fun s22 hs => ?_)
 ·obtain ⟨s33, hy35, h37⟩ := bindS hy24
  refine K.cutN (by kernel_rfl) (fun (s33 : Bool × Int) => ([(0, .ptr 0 0), (1, .ptr 2 0), (2, .int .i64 x0), (15, .bool s33.1)], [.box [lsv (encI .i32) 1 x1, .mp 1, .int .i64 s33.2, .int .i64 x3], mQ x4 x5 x6 x7, .box [lsv encSt33 2 x8, lsv encSt33 2 x9, .nl, .nl, .bool x10, .int .i64 x11, .int .i64 x12, .int .i64 x13, .int .i64 x14, .int .i64 x15, .int .i64 x16, .int .i64 x17, .int .i64 x18, .int .i64 x19, .bool x20, .int .i32 x21, .int .i64 x22]])) s33 ?_ ?_
  ·refine kR ?_
   refine kC 6 [0,1,2,11] ?_
   refine kB 11 hy35 (fun h39 => ?_) (fun h40 => ?_)
   ·refine kC 4 [0,1,2,15] ?_
    refine kE ?_
    obtain rfl := oi h39
    exact kN [0, 1, 2, 15]
   ·refine kC 1 [0,1,2,11,12] ?_
    obtain ⟨y41, hy42, h43⟩ := bindS h40
    refine kCG (some 13) (args := [.ptr 0 0, .int .i32 42]) (v := .bool y41.1) (H2 := [.box [lsv (encI .i32) 1 x1, .mp 1, .int .i64 y41.2, .int .i64 x3], mQ x4 x5 x6 x7, .box [lsv encSt33 2 x8, lsv encSt33 2 x9, .nl, .nl, .bool x10, .int .i64 x11, .int .i64 x12, .int .i64 x13, .int .i64 x14, .int .i64 x15, .int .i64 x16, .int .i64 x17, .int .i64 x18, .int .i64 x19, .bool x20, .int .i32 x21, .int .i64 x22]]) [0, 1] (pat_reader__eat_s0_ok hy42) ?_
    refine kC 2 [0,1,2,15] ?_
    refine kE ?_
    obtain rfl := oi h43
    exact kN [0, 1, 2, 15]
  ·refine kBJ 15 h37 (fun h45 => ?_) (fun h46 => ?_)
   ·refine kT ?_
    refine kX ?_
    obtain rfl := oi h45
    have h47 := joinX_inr h25
    refine PJ.cutXr (fun e => nomatch e) ?_
    obtain rfl := Sum.inl.inj (Option.some.inj h47)
    exact kV [0, 1, 2] hFn hFH hFD (v1 := .tup [])
   ·refine kF ?_
    refine kK ?_
    obtain rfl := oi h46
    exact kXl [0, 1, 2]
 ·subst hs
  have h26 := joinX_inl h25
  obtain ⟨y57, hy58, h59⟩ := bindS h26
  refine K.cutX (by kernel_rfl) (fun (s56 : Unit) => ([(0, .ptr 0 0), (1, .ptr 2 0), (2, .int .i64 x0)], [.box [lsv (encI .i32) 1 x1, .mp 1, .int .i64 s22, .int .i64 x3], mQ x4 x5 x6 x7, .box [lsv encSt33 2 x8, lsv encSt33 2 x9, .nl, .nl, .bool x10, .int .i64 x11, .int .i64 x12, .int .i64 x13, .int .i64 x14, .int .i64 x15, .int .i64 x16, .int .i64 x17, .int .i64 x18, .int .i64 x19, .bool x20, .int .i32 x21, .int .i64 x22]])) y57 ?_ (fun s56 hs => ?_)
  ·refine kS ?_
   refine J.keep [0, 1, 2] (L2 := [(0, .ptr 0 0), (1, .ptr 2 0), (2, .int .i64 x0)]) (by kernel_rfl) ?_
   refine K.draw (by kernel_rfl) (by kernel_rfl) (by kernel_rfl) (H2 := [.box [lsv (encI .i32) 1 x1, .mp 1, .int .i64 s22, .int .i64 x3], mQ x4 x5 x6 x7, .box [lsv encSt33 2 x8, lsv encSt33 2 x9, .nl, .nl, .bool x10, .int .i64 x11, .int .i64 x12, .int .i64 x13, .int .i64 x14, .int .i64 x15, .int .i64 x16, .int .i64 x17, .int .i64 x18, .int .i64 x19, .bool x20, .int .i32 x21, .int .i64 x22]]) (by kernel_rfl) (n := 3) (by kernel_rfl) ?_
   refine kD 10 ?_
   refine kEN ?_
   refine kBJ 25 hy58 (fun h62 => ?_) (fun h63 => ?_)
   ·refine kT ?_
    refine kR ?_
    refine kC 5 [0,1,2,26,30] ?_
    obtain ⟨y64, hy65, h66⟩ := bindS h62
    refine RJ.callP (d := (some 31)) (f := 65) (args := [.ptr 0 0, .int .i64 s22]) (args0 := [.ptr 0 0, .int .i64 s22]) (H0 := [.box [lsv (encI .i32) 1 x1, .mp 1, .int .i64 s22, .int .i64 x3], mQ x4 x5 x6 x7]) (H0' := [.box [.undef, .mp 1, .int .i64 s22, .int .i64 s22], mQ x4 x5 x6 x7]) (H2 := [.box [.undef, .mp 1, .int .i64 s22, .int .i64 s22], mQ x4 x5 x6 x7, .box [lsv encSt33 2 x8, lsv encSt33 2 x9, .nl, .nl, .bool x10, .int .i64 x11, .int .i64 x12, .int .i64 x13, .int .i64 x14, .int .i64 x15, .int .i64 x16, .int .i64 x17, .int .i64 x18, .int .i64 x19, .bool x20, .int .i32 x21, .int .i64 x22]]) [0, 1] (by kernel_rfl) (by kernel_rfl) (by kernel_rfl) (by kernel_rfl) (by decide) (by kernel_rfl) (by kernel_rfl) (by kernel_rfl) (.cons (Le.refl _) (.cons (Le.refl _) .nil)) (pat_reader__fail_s0_ok0 hy65) (by kernel_rfl) (by kernel_rfl) ?_
    obtain rfl := oi h66
    have h68 := joinX_inr h59
    refine PP.cutXr ?_
    cases h68
   ·refine kF ?_
    refine kK ?_
    obtain rfl := oi h63
    exact kXl [0, 1, 2]
  ·subst hs
   have h60 := joinX_inl h59
   refine kS ?_
   refine J.keep [0, 1, 2] (L2 := [(0, .ptr 0 0), (1, .ptr 2 0), (2, .int .i64 x0)]) (by kernel_rfl) ?_
   refine K.draw (by kernel_rfl) (by kernel_rfl) (by kernel_rfl) (H2 := [.box [lsv (encI .i32) 1 x1, .mp 1, .int .i64 s22, .int .i64 x3], mQ x4 x5 x6 x7, .box [lsv encSt33 2 x8, lsv encSt33 2 x9, .nl, .nl, .bool x10, .int .i64 x11, .int .i64 x12, .int .i64 x13, .int .i64 x14, .int .i64 x15, .int .i64 x16, .int .i64 x17, .int .i64 x18, .int .i64 x19, .bool x20, .int .i32 x21, .int .i64 x22]]) (by kernel_rfl) (n := 3) (by kernel_rfl) ?_
   refine kD 10 ?_
   obtain ⟨hm, h69⟩ := asrt h60
   refine kJ 42 (tr2 := [([], []), ([], []), ([], []), ([], []), ([], []), ([0, 1], []), ([], []), ([], []), ([], []), ([0, 1], []), ([], [])]) (encI_len .i32) hm ?_
   refine kD 8 ?_
   refine kEN ?_
   refine kR ?_
   refine kC 8 [] ?_
   refine kE ?_
   obtain rfl := Sum.inl.inj (Option.some.inj h69)
   exact K.retV (H0 := [.box [lsv (encI .i32) 1 x1, .mp 1, .int .i64 x2, .int .i64 x3], mQ x4 x5 x6 x7, .box [lsv encSt33 2 x8, lsv encSt33 2 x9, .nl, .nl, .bool x10, .int .i64 x11, .int .i64 x12, .int .i64 x13, .int .i64 x14, .int .i64 x15, .int .i64 x16, .int .i64 x17, .int .i64 x18, .int .i64 x19, .bool x20, .int .i32 x21, .int .i64 x22]]) [0, 1, 2] (.inl rfl) hFn hFH hFD (by kernel_rfl) (v1 := .tup []) (by kernel_rfl) (by kernel_rfl) (by kernel_rfl) (by decide) (by kernel_rfl) (by kernel_rfl) (by kernel_rfl) (by kernel_rfl) (by kernel_rfl)
theorem pat_reader__pad_s2_ok1 {x0 : Int} {x1 : List Int} {x2 : Int} {x3 : Int} {x4 : Int} {x5 : Int} {x6 : Int} {x7 : Int} {x8 : List St33} {x9 : List St33} {x10 : Bool} {x11 : Int} {x12 : Int} {x13 : Int} {x14 : Int} {x15 : Int} {x16 : Int} {x17 : Int} {x18 : Int} {x19 : Int} {x20 : Bool} {x21 : Int} {x22 : Int} {r : Int × Int} (h : pat_reader__pad_s2 x0 x1 x2 x3 x4 x5 x6 x7 x8 x9 x10 x11 x12 x13 x14 x15 x16 x17 x18 x19 x20 x21 x22 = some (.inr r)) : SP Try.prog 60 [.ptr 0 0, .ptr 2 0, .int .i64 x0] [.box [lsv (encI .i32) 1 x1, .mp 1, .int .i64 x2, .int .i64 x3], mQ x4 x5 x6 x7, .box [lsv encSt33 2 x8, lsv encSt33 2 x9, .nl, .nl, .bool x10, .int .i64 x11, .int .i64 x12, .int .i64 x13, .int .i64 x14, .int .i64 x15, .int .i64 x16, .int .i64 x17, .int .i64 x18, .int .i64 x19, .bool x20, .int .i32 x21, .int .i64 x22]] [.box [.undef, .mp 1, .int .i64 r.1, .int .i64 r.2], mQ x4 x5 x6 x7, .box [.undef, .undef, .undef, .undef, .bool x10, .int .i64 x11, .int .i64 x12, .int .i64 x13, .int .i64 x14, .int .i64 x15, .int .i64 x16, .int .i64 x17, .int .i64 x18, .int .i64 x19, .bool x20, .int .i32 x21, .int .i64 x22]] := by
 refine kFnP (fn := Try.f60) (fun F hFn hFH hFD => ?_)
 unfold pat_reader__pad_s2 at h
 obtain ⟨y23, hy24, h25⟩ := bindS h
 refine K.cutX (by kernel_rfl) (fun (s22 : Int) => ([(0, .ptr 0 0), (1, .ptr 2 0), (2, .int .i64 x0)], [.box [lsv (encI .i32) 1 x1, .mp 1, .int .i64 s22, .int .i64 x3], mQ x4 x5 x6 x7, .box [lsv encSt33 2 x8, lsv encSt33 2 x9, .nl, .nl, .bool x10, .int .i64 x11, .int .i64 x12, .int .i64 x13, .int .i64 x14, .int .i64 x15, .int .i64 x16, .int .i64 x17, .int .i64 x18, .int .i64 x19, .bool x20, .int .i32 x21, .int .i64 x22]])) y23 ?_ (fun s22 hs => ?_)
 ·obtain ⟨s33, hy35, h37⟩ := bindS hy24
  refine K.cutN (by kernel_rfl) (fun (s33 : Bool × Int) => ([(0, .ptr 0 0), (1, .ptr 2 0), (2, .int .i64 x0), (15, .bool s33.1)], [.box [lsv (encI .i32) 1 x1, .mp 1, .int .i64 s33.2, .int .i64 x3], mQ x4 x5 x6 x7, .box [lsv encSt33 2 x8, lsv encSt33 2 x9, .nl, .nl, .bool x10, .int .i64 x11, .int .i64 x12, .int .i64 x13, .int .i64 x14, .int .i64 x15, .int .i64 x16, .int .i64 x17, .int .i64 x18, .int .i64 x19, .bool x20, .int .i32 x21, .int .i64 x22]])) s33 ?_ ?_
  ·refine kR ?_
   refine kC 6 [0,1,2,11] ?_
   refine kB 11 hy35 (fun h39 => ?_) (fun h40 => ?_)
   ·refine kC 4 [0,1,2,15] ?_
    refine kE ?_
    obtain rfl := oi h39
    exact kN [0, 1, 2, 15]
   ·refine kC 1 [0,1,2,11,12] ?_
    obtain ⟨y41, hy42, h43⟩ := bindS h40
    refine kCG (some 13) (args := [.ptr 0 0, .int .i32 42]) (v := .bool y41.1) (H2 := [.box [lsv (encI .i32) 1 x1, .mp 1, .int .i64 y41.2, .int .i64 x3], mQ x4 x5 x6 x7, .box [lsv encSt33 2 x8, lsv encSt33 2 x9, .nl, .nl, .bool x10, .int .i64 x11, .int .i64 x12, .int .i64 x13, .int .i64 x14, .int .i64 x15, .int .i64 x16, .int .i64 x17, .int .i64 x18, .int .i64 x19, .bool x20, .int .i32 x21, .int .i64 x22]]) [0, 1] (pat_reader__eat_s0_ok hy42) ?_
    refine kC 2 [0,1,2,15] ?_
    refine kE ?_
    obtain rfl := oi h43
    exact kN [0, 1, 2, 15]
  ·refine kBJ 15 h37 (fun h45 => ?_) (fun h46 => ?_)
   ·refine kT ?_
    refine kX ?_
    obtain rfl := oi h45
    have h47 := joinX_inr h25
    refine PJ.cutXr (fun e => nomatch e) ?_
    cases h47
   ·refine kF ?_
    refine kK ?_
    obtain rfl := oi h46
    exact kXl [0, 1, 2]
 ·subst hs
  have h26 := joinX_inl h25
  obtain ⟨y57, hy58, h59⟩ := bindS h26
  refine K.cutX (by kernel_rfl) (fun (s56 : Unit) => ([(0, .ptr 0 0), (1, .ptr 2 0), (2, .int .i64 x0)], [.box [lsv (encI .i32) 1 x1, .mp 1, .int .i64 s22, .int .i64 x3], mQ x4 x5 x6 x7, .box [lsv encSt33 2 x8, lsv encSt33 2 x9, .nl, .nl, .bool x10, .int .i64 x11, .int .i64 x12, .int .i64 x13, .int .i64 x14, .int .i64 x15, .int .i64 x16, .int .i64 x17, .int .i64 x18, .int .i64 x19, .bool x20, .int .i32 x21, .int .i64 x22]])) y57 ?_ (fun s56 hs => ?_)
  ·refine kS ?_
   refine J.keep [0, 1, 2] (L2 := [(0, .ptr 0 0), (1, .ptr 2 0), (2, .int .i64 x0)]) (by kernel_rfl) ?_
   refine K.draw (by kernel_rfl) (by kernel_rfl) (by kernel_rfl) (H2 := [.box [lsv (encI .i32) 1 x1, .mp 1, .int .i64 s22, .int .i64 x3], mQ x4 x5 x6 x7, .box [lsv encSt33 2 x8, lsv encSt33 2 x9, .nl, .nl, .bool x10, .int .i64 x11, .int .i64 x12, .int .i64 x13, .int .i64 x14, .int .i64 x15, .int .i64 x16, .int .i64 x17, .int .i64 x18, .int .i64 x19, .bool x20, .int .i32 x21, .int .i64 x22]]) (by kernel_rfl) (n := 3) (by kernel_rfl) ?_
   refine kD 10 ?_
   refine kEN ?_
   refine kBJ 25 hy58 (fun h62 => ?_) (fun h63 => ?_)
   ·refine kT ?_
    refine kR ?_
    refine kC 5 [0,1,2,26,30] ?_
    obtain ⟨y64, hy65, h66⟩ := bindS h62
    refine RJ.callP (d := (some 31)) (f := 65) (args := [.ptr 0 0, .int .i64 s22]) (args0 := [.ptr 0 0, .int .i64 s22]) (H0 := [.box [lsv (encI .i32) 1 x1, .mp 1, .int .i64 s22, .int .i64 x3], mQ x4 x5 x6 x7]) (H0' := [.box [.undef, .mp 1, .int .i64 s22, .int .i64 s22], mQ x4 x5 x6 x7]) (H2 := [.box [.undef, .mp 1, .int .i64 s22, .int .i64 s22], mQ x4 x5 x6 x7, .box [lsv encSt33 2 x8, lsv encSt33 2 x9, .nl, .nl, .bool x10, .int .i64 x11, .int .i64 x12, .int .i64 x13, .int .i64 x14, .int .i64 x15, .int .i64 x16, .int .i64 x17, .int .i64 x18, .int .i64 x19, .bool x20, .int .i32 x21, .int .i64 x22]]) [0, 1] (by kernel_rfl) (by kernel_rfl) (by kernel_rfl) (by kernel_rfl) (by decide) (by kernel_rfl) (by kernel_rfl) (by kernel_rfl) (.cons (Le.refl _) (.cons (Le.refl _) .nil)) (pat_reader__fail_s0_ok0 hy65) (by kernel_rfl) (by kernel_rfl) ?_
    obtain rfl := oi h66
    have h68 := joinX_inr h59
    refine PP.cutXr ?_
    obtain rfl := Sum.inr.inj (Option.some.inj h68)
    refine PP.wk (Wk.undefs 2 [true, true, true, true, false, false, false, false, false, false, false, false, false, false, false, false, false] (cs := [lsv encSt33 2 x8, lsv encSt33 2 x9, .nl, .nl, .bool x10, .int .i64 x11, .int .i64 x12, .int .i64 x13, .int .i64 x14, .int .i64 x15, .int .i64 x16, .int .i64 x17, .int .i64 x18, .int .i64 x19, .bool x20, .int .i32 x21, .int .i64 x22]) (by kernel_rfl)) ?_
    exact K.panV (H0 := [.box [lsv (encI .i32) 1 x1, .mp 1, .int .i64 x2, .int .i64 x3], mQ x4 x5 x6 x7, .box [lsv encSt33 2 x8, lsv encSt33 2 x9, .nl, .nl, .bool x10, .int .i64 x11, .int .i64 x12, .int .i64 x13, .int .i64 x14, .int .i64 x15, .int .i64 x16, .int .i64 x17, .int .i64 x18, .int .i64 x19, .bool x20, .int .i32 x21, .int .i64 x22]]) (H' := [.box [.undef, .mp 1, .int .i64 s22, .int .i64 s22], mQ x4 x5 x6 x7, .box [.undef, .undef, .undef, .undef, .bool x10, .int .i64 x11, .int .i64 x12, .int .i64 x13, .int .i64 x14, .int .i64 x15, .int .i64 x16, .int .i64 x17, .int .i64 x18, .int .i64 x19, .bool x20, .int .i32 x21, .int .i64 x22]]) [0, 1, 2] hFH hFD (by kernel_rfl) (by kernel_rfl) (by decide) (by kernel_rfl) (by kernel_rfl) (by kernel_rfl)
   ·refine kF ?_
    refine kK ?_
    obtain rfl := oi h63
    exact kXl [0, 1, 2]
  ·subst hs
   have h60 := joinX_inl h59
   refine kS ?_
   refine J.keep [0, 1, 2] (L2 := [(0, .ptr 0 0), (1, .ptr 2 0), (2, .int .i64 x0)]) (by kernel_rfl) ?_
   refine K.draw (by kernel_rfl) (by kernel_rfl) (by kernel_rfl) (H2 := [.box [lsv (encI .i32) 1 x1, .mp 1, .int .i64 s22, .int .i64 x3], mQ x4 x5 x6 x7, .box [lsv encSt33 2 x8, lsv encSt33 2 x9, .nl, .nl, .bool x10, .int .i64 x11, .int .i64 x12, .int .i64 x13, .int .i64 x14, .int .i64 x15, .int .i64 x16, .int .i64 x17, .int .i64 x18, .int .i64 x19, .bool x20, .int .i32 x21, .int .i64 x22]]) (by kernel_rfl) (n := 3) (by kernel_rfl) ?_
   refine kD 10 ?_
   obtain ⟨hm, h69⟩ := asrt h60
   refine kJ 42 (tr2 := [([], []), ([], []), ([], []), ([], []), ([], []), ([0, 1], []), ([], []), ([], []), ([], []), ([0, 1], []), ([], [])]) (encI_len .i32) hm ?_
   refine kD 8 ?_
   refine kEN ?_
   refine kR ?_
   refine kC 8 [] ?_
   refine kE ?_
   cases h69
def pat_reader__negative_s0 (x0 : List Int) (x1 : List Int) (x2 : Int) (x3 : Int) (x4 : Int) (x5 : Int) (x6 : Int) (x7 : Int) (x8 : List St33) (x9 : List St33) (x10 : Bool) (x11 : Int) (x12 : Int) (x13 : Int) (x14 : Int) (x15 : Int) (x16 : Int) (x17 : Int) (x18 : Int) (x19 : Int) (x20 : Bool) (x21 : Int) (x22 : Int) : Option ((Int × (List St33) × (List St33)) ⊕ (Int × Int)) :=
 (Option.bind (pat_reader__affix_s0 x1 x2 x3 x4 x5 x6 x7) fun y1 => (Sum.elim (fun y4 => (Option.bind (loopN (fun (s136 : Int × Int) => (bif (decide (s136.1 < (x0.length : Int))) then (Option.bind (bif inR s136.1 x0.length then (Option.bind (pat_reader__eat_s0 (nth x0 s136.1) x1 s136.2 x3 x4 x5 x6 x7) fun y243 => (bif (!y243.1) then (Option.bind (pat_reader__fail_s0 y243.2 x1 y243.2 x3 x4 x5 x6 x7) fun y249 => (some (.inr (.inr (.inr (.inr (y243.2, y243.2))))))) else (some (.inl y243.2)))) else none) (joinX fun (s237 : Int) => (some (.inl ((IntKind.wrap .i64 (s136.1 + 1)), s237))))) else (some (.inr (.inl s136.2))))) big (0, y4.2)) (joinX fun (s131 : Int) => (Option.bind (pat_reader__affix_s0 x1 s131 x3 x4 x5 x6 x7) fun y259 => (Sum.elim (fun y262 => (some (.inl (y262.2, y4.1, y262.1)))) (fun y263 => (some (.inr (y263.1, y263.2)))) y259))))) (fun y5 => (some (.inr (y5.1, y5.2)))) y1))
theorem pat_reader__negative_s0_ok0 {x0 : List Int} {x1 : List Int} {x2 : Int} {x3 : Int} {x4 : Int} {x5 : Int} {x6 : Int} {x7 : Int} {x8 : List St33} {x9 : List St33} {x10 : Bool} {x11 : Int} {x12 : Int} {x13 : Int} {x14 : Int} {x15 : Int} {x16 : Int} {x17 : Int} {x18 : Int} {x19 : Int} {x20 : Bool} {x21 : Int} {x22 : Int} {r : Int × (List St33) × (List St33)} (h : pat_reader__negative_s0 x0 x1 x2 x3 x4 x5 x6 x7 x8 x9 x10 x11 x12 x13 x14 x15 x16 x17 x18 x19 x20 x21 x22 = some (.inl r)) : SC Try.prog 64 [.ptr 0 0, .ptr 2 0, lsv (encI .i32) 1 x0] [.box [lsv (encI .i32) 1 x1, .mp 1, .int .i64 x2, .int .i64 x3], mQ x4 x5 x6 x7, .box [lsv encSt33 2 x8, lsv encSt33 2 x9, .nl, .nl, .bool x10, .int .i64 x11, .int .i64 x12, .int .i64 x13, .int .i64 x14, .int .i64 x15, .int .i64 x16, .int .i64 x17, .int .i64 x18, .int .i64 x19, .bool x20, .int .i32 x21, .int .i64 x22]] (.tup []) [.box [lsv (encI .i32) 1 x1, .mp 1, .int .i64 r.1, .int .i64 x3], mQ x4 x5 x6 x7, .box [lsv encSt33 2 x8, lsv encSt33 2 x9, lsv encSt33 2 r.2.1, lsv encSt33 2 r.2.2, .bool true, .int .i64 x11, .int .i64 x12, .int .i64 x13, .int .i64 x14, .int .i64 x15, .int .i64 x16, .int .i64 x17, .int .i64 x18, .int .i64 x19, .bool x20, .int .i32 x21, .int .i64 x22]] := by
 refine kFn (fn := Try.f64) (fun F hFn hFH hFD => ?_)
 unfold pat_reader__negative_s0 at h
 refine kSR ?_
 refine kC 4 [0,1,2] ?_
 refine kEN ?_
 refine kSR ?_
 refine kC 2 [0,1,2,11,12] ?_
 obtain ⟨y1, hy2, h3⟩ := bindS h
 rcases y1 with y4 | y5
 ·have h6 := elimL h3
  refine kCG (some 13) (args := [.ptr 0 0]) (v := lsv encSt33 2 y4.1) (H2 := [.box [lsv (encI .i32) 1 x1, .mp 1, .int .i64 y4.2, .int .i64 x3], mQ x4 x5 x6 x7, .box [lsv encSt33 2 x8, lsv encSt33 2 x9, .nl, .nl, .bool true, .int .i64 x11, .int .i64 x12, .int .i64 x13, .int .i64 x14, .int .i64 x15, .int .i64 x16, .int .i64 x17, .int .i64 x18, .int .i64 x19, .bool x20, .int .i32 x21, .int .i64 x22]]) [0, 1] (pat_reader__affix_s0_ok0 hy2) ?_
  refine kC 3 [0,1,2] ?_
  refine kEN ?_
  obtain ⟨y132, hy133, h134⟩ := bindS h6
  refine K.cutX (by kernel_rfl) (fun (s131 : Int) => ([(0, .ptr 0 0), (1, .ptr 2 0)], [.box [lsv (encI .i32) 1 x1, .mp 1, .int .i64 s131, .int .i64 x3], mQ x4 x5 x6 x7, .box [lsv encSt33 2 x8, lsv encSt33 2 x9, lsv encSt33 2 y4.1, .nl, .bool true, .int .i64 x11, .int .i64 x12, .int .i64 x13, .int .i64 x14, .int .i64 x15, .int .i64 x16, .int .i64 x17, .int .i64 x18, .int .i64 x19, .bool x20, .int .i32 x21, .int .i64 x22]])) y132 ?_ (fun s131 hs => ?_)
  ·refine kSR ?_
   refine kC 3 [0,1,16,17,18] ?_
   refine kEN ?_
   refine kb 0 ?_
   refine kl (fun (s136 : Int × Int) => ([(0, .ptr 0 0), (1, .ptr 2 0), (16, lsv (encI .i32) 1 x0), (17, .int .i64 (x0.length : Int)), (18, .int .i64 s136.1)], [.box [lsv (encI .i32) 1 x1, .mp 1, .int .i64 s136.2, .int .i64 x3], mQ x4 x5 x6 x7, .box [lsv encSt33 2 x8, lsv encSt33 2 x9, lsv encSt33 2 y4.1, .nl, .bool true, .int .i64 x11, .int .i64 x12, .int .i64 x13, .int .i64 x14, .int .i64 x15, .int .i64 x16, .int .i64 x17, .int .i64 x18, .int .i64 x19, .bool x20, .int .i32 x21, .int .i64 x22]])) hy133 [0, 1, 16, 17, 18] (fun s136 x218 hs217 => ?_)
   refine kSR ?_
   refine kC 1 [0,1,16,17,18,19] ?_
   refine kEN ?_
   refine kS ?_
   refine kBJ 19 hs217 (fun h220 => ?_) (fun h221 => ?_)
   ·refine kT ?_
    refine kK ?_
    refine PJ.next ?_
    obtain ⟨y238, hy239, h240⟩ := bindS h220
    refine K.cutX (by kernel_rfl) (fun (s237 : Int) => ([(0, .ptr 0 0), (1, .ptr 2 0), (16, lsv (encI .i32) 1 x0), (17, .int .i64 (x0.length : Int)), (18, .int .i64 s136.1)], [.box [lsv (encI .i32) 1 x1, .mp 1, .int .i64 s237, .int .i64 x3], mQ x4 x5 x6 x7, .box [lsv encSt33 2 x8, lsv encSt33 2 x9, lsv encSt33 2 y4.1, .nl, .bool true, .int .i64 x11, .int .i64 x12, .int .i64 x13, .int .i64 x14, .int .i64 x15, .int .i64 x16, .int .i64 x17, .int .i64 x18, .int .i64 x19, .bool x20, .int .i32 x21, .int .i64 x22]])) y238 ?_ (fun s237 hs => ?_)
    ·refine kb 1 ?_
     refine kSR ?_
     obtain ⟨hm, h242⟩ := asrt hy239
     refine kI 20 (encI_len .i32) hm ?_
     refine kC 2 [0,1,7,16,17,18] ?_
     refine kEN ?_
     refine kSR ?_
     refine kC 2 [0,1,16,17,18,22,23] ?_
     obtain ⟨y243, hy244, h245⟩ := bindS h242
     refine kCG (some 24) (args := [.ptr 0 0, .int .i32 (nth x0 s136.1)]) (v := .bool y243.1) (H2 := [.box [lsv (encI .i32) 1 x1, .mp 1, .int .i64 y243.2, .int .i64 x3], mQ x4 x5 x6 x7, .box [lsv encSt33 2 x8, lsv encSt33 2 x9, lsv encSt33 2 y4.1, .nl, .bool true, .int .i64 x11, .int .i64 x12, .int .i64 x13, .int .i64 x14, .int .i64 x15, .int .i64 x16, .int .i64 x17, .int .i64 x18, .int .i64 x19, .bool x20, .int .i32 x21, .int .i64 x22]]) [0, 1] (pat_reader__eat_s0_ok hy244) ?_
     refine kC 1 [0,1,16,17,18,25] ?_
     refine kEN ?_
     refine kBJ 25 h245 (fun h247 => ?_) (fun h248 => ?_)
     ·refine kT ?_
      refine kR ?_
      refine kC 5 [0,1,16,17,18,26,30] ?_
      obtain ⟨y249, hy250, h251⟩ := bindS h247
      refine RJ.callP (d := (some 31)) (f := 65) (args := [.ptr 0 0, .int .i64 y243.2]) (args0 := [.ptr 0 0, .int .i64 y243.2]) (H0 := [.box [lsv (encI .i32) 1 x1, .mp 1, .int .i64 y243.2, .int .i64 x3], mQ x4 x5 x6 x7]) (H0' := [.box [.undef, .mp 1, .int .i64 y243.2, .int .i64 y243.2], mQ x4 x5 x6 x7]) (H2 := [.box [.undef, .mp 1, .int .i64 y243.2, .int .i64 y243.2], mQ x4 x5 x6 x7, .box [lsv encSt33 2 x8, lsv encSt33 2 x9, lsv encSt33 2 y4.1, .nl, .bool true, .int .i64 x11, .int .i64 x12, .int .i64 x13, .int .i64 x14, .int .i64 x15, .int .i64 x16, .int .i64 x17, .int .i64 x18, .int .i64 x19, .bool x20, .int .i32 x21, .int .i64 x22]]) [0, 1] (by kernel_rfl) (by kernel_rfl) (by kernel_rfl) (by kernel_rfl) (by decide) (by kernel_rfl) (by kernel_rfl) (by kernel_rfl) (.cons (Le.refl _) (.cons (Le.refl _) .nil)) (pat_reader__fail_s0_ok0 hy250) (by kernel_rfl) (by kernel_rfl) ?_
      refine PP.block ?_
      obtain rfl := oi h251
      have h253 := joinX_inr h240
      refine PP.cutXr ?_
      obtain rfl := oi h253
      refine PP.loopOut (fun he256 => ?_)
      have h254 := congrArg some he256
      refine PP.block ?_
      obtain rfl := oi h254
      have h255 := joinX_inr h134
      refine PP.cutXr ?_
      cases h255
     ·refine kF ?_
      refine kK ?_
      refine PJ.blockNormal ?_
      obtain rfl := oi h248
      exact kXl [0, 1, 16, 17, 18]
    ·subst hs
     have h241 := joinX_inl h240
     refine kR ?_
     refine kC 2 [0,1,16,17,18] ?_
     refine kE ?_
     obtain rfl := oi h241
     exact kLN [0, 1, 16, 17, 18]
   ·refine kF ?_
    refine K.exit 0 (by kernel_rfl) ?_
    refine PJ.passExit ?_
    obtain rfl := oi h221
    refine PJ.loopOut (fun e => nomatch e) (fun he258 => ?_)
    have h257 := congrArg some he258
    refine PJ.blockOut ?_
    obtain rfl := oi h257
    exact kXl [0, 1]
  ·subst hs
   have h135 := joinX_inl h134
   refine kR ?_
   refine kC 2 [33,34] ?_
   obtain ⟨y259, hy260, h261⟩ := bindS h135
   rcases y259 with y262 | y263
   ·have h264 := elimL h261
    refine kCG (some 35) (args := [.ptr 0 0]) (v := lsv encSt33 2 y262.1) (H2 := [.box [lsv (encI .i32) 1 x1, .mp 1, .int .i64 y262.2, .int .i64 x3], mQ x4 x5 x6 x7, .box [lsv encSt33 2 x8, lsv encSt33 2 x9, lsv encSt33 2 y4.1, .nl, .bool true, .int .i64 x11, .int .i64 x12, .int .i64 x13, .int .i64 x14, .int .i64 x15, .int .i64 x16, .int .i64 x17, .int .i64 x18, .int .i64 x19, .bool x20, .int .i32 x21, .int .i64 x22]]) [0, 1] (pat_reader__affix_s0_ok0 hy260) ?_
    refine kC 3 [] ?_
    refine kE ?_
    obtain rfl := Sum.inl.inj (Option.some.inj h264)
    exact K.retV (H0 := [.box [lsv (encI .i32) 1 x1, .mp 1, .int .i64 x2, .int .i64 x3], mQ x4 x5 x6 x7, .box [lsv encSt33 2 x8, lsv encSt33 2 x9, .nl, .nl, .bool x10, .int .i64 x11, .int .i64 x12, .int .i64 x13, .int .i64 x14, .int .i64 x15, .int .i64 x16, .int .i64 x17, .int .i64 x18, .int .i64 x19, .bool x20, .int .i32 x21, .int .i64 x22]]) [0, 1, 2] (.inl rfl) hFn hFH hFD (by kernel_rfl) (v1 := .tup []) (by kernel_rfl) (by kernel_rfl) (by kernel_rfl) (by decide) (by kernel_rfl) (by kernel_rfl) (by kernel_rfl) (by kernel_rfl) (by kernel_rfl)
   ·have h265 := elimR h261
    refine RJ.callP (d := (some 35)) (f := 61) (args := [.ptr 0 0]) (args0 := [.ptr 0 0]) (H0 := [.box [lsv (encI .i32) 1 x1, .mp 1, .int .i64 s131, .int .i64 x3], mQ x4 x5 x6 x7]) (H0' := [.box [.undef, .mp 1, .int .i64 y263.1, .int .i64 y263.2], mQ x4 x5 x6 x7]) (H2 := [.box [.undef, .mp 1, .int .i64 y263.1, .int .i64 y263.2], mQ x4 x5 x6 x7, .box [lsv encSt33 2 x8, lsv encSt33 2 x9, lsv encSt33 2 y4.1, .nl, .bool true, .int .i64 x11, .int .i64 x12, .int .i64 x13, .int .i64 x14, .int .i64 x15, .int .i64 x16, .int .i64 x17, .int .i64 x18, .int .i64 x19, .bool x20, .int .i32 x21, .int .i64 x22]]) [0, 1] (by kernel_rfl) (by kernel_rfl) (by kernel_rfl) (by kernel_rfl) (by decide) (by kernel_rfl) (by kernel_rfl) (by kernel_rfl) (.cons (Le.refl _) .nil) (pat_reader__affix_s0_ok1 hy260) (by kernel_rfl) (by kernel_rfl) ?_
    cases h265
 ·have h7 := elimR h3
  refine RJ.callP (d := (some 13)) (f := 61) (args := [.ptr 0 0]) (args0 := [.ptr 0 0]) (H0 := [.box [lsv (encI .i32) 1 x1, .mp 1, .int .i64 x2, .int .i64 x3], mQ x4 x5 x6 x7]) (H0' := [.box [.undef, .mp 1, .int .i64 y5.1, .int .i64 y5.2], mQ x4 x5 x6 x7]) (H2 := [.box [.undef, .mp 1, .int .i64 y5.1, .int .i64 y5.2], mQ x4 x5 x6 x7, .box [lsv encSt33 2 x8, lsv encSt33 2 x9, .nl, .nl, .bool true, .int .i64 x11, .int .i64 x12, .int .i64 x13, .int .i64 x14, .int .i64 x15, .int .i64 x16, .int .i64 x17, .int .i64 x18, .int .i64 x19, .bool x20, .int .i32 x21, .int .i64 x22]]) [0, 1] (by kernel_rfl) (by kernel_rfl) (by kernel_rfl) (by kernel_rfl) (by decide) (by kernel_rfl) (by kernel_rfl) (by kernel_rfl) (.cons (Le.refl _) .nil) (pat_reader__affix_s0_ok1 hy2) (by kernel_rfl) (by kernel_rfl) ?_
  refine PP.next ?_
  cases h7
theorem pat_reader__negative_s0_ok1 {x0 : List Int} {x1 : List Int} {x2 : Int} {x3 : Int} {x4 : Int} {x5 : Int} {x6 : Int} {x7 : Int} {x8 : List St33} {x9 : List St33} {x10 : Bool} {x11 : Int} {x12 : Int} {x13 : Int} {x14 : Int} {x15 : Int} {x16 : Int} {x17 : Int} {x18 : Int} {x19 : Int} {x20 : Bool} {x21 : Int} {x22 : Int} {r : Int × Int} (h : pat_reader__negative_s0 x0 x1 x2 x3 x4 x5 x6 x7 x8 x9 x10 x11 x12 x13 x14 x15 x16 x17 x18 x19 x20 x21 x22 = some (.inr r)) : SP Try.prog 64 [.ptr 0 0, .ptr 2 0, lsv (encI .i32) 1 x0] [.box [lsv (encI .i32) 1 x1, .mp 1, .int .i64 x2, .int .i64 x3], mQ x4 x5 x6 x7, .box [lsv encSt33 2 x8, lsv encSt33 2 x9, .nl, .nl, .bool x10, .int .i64 x11, .int .i64 x12, .int .i64 x13, .int .i64 x14, .int .i64 x15, .int .i64 x16, .int .i64 x17, .int .i64 x18, .int .i64 x19, .bool x20, .int .i32 x21, .int .i64 x22]] [.box [.undef, .mp 1, .int .i64 r.1, .int .i64 r.2], mQ x4 x5 x6 x7, .box [.undef, .undef, .undef, .undef, .bool true, .int .i64 x11, .int .i64 x12, .int .i64 x13, .int .i64 x14, .int .i64 x15, .int .i64 x16, .int .i64 x17, .int .i64 x18, .int .i64 x19, .bool x20, .int .i32 x21, .int .i64 x22]] := by
 refine kFnP (fn := Try.f64) (fun F hFn hFH hFD => ?_)
 unfold pat_reader__negative_s0 at h
 refine kSR ?_
 refine kC 4 [0,1,2] ?_
 refine kEN ?_
 refine kSR ?_
 refine kC 2 [0,1,2,11,12] ?_
 obtain ⟨y1, hy2, h3⟩ := bindS h
 rcases y1 with y4 | y5
 ·have h6 := elimL h3
  refine kCG (some 13) (args := [.ptr 0 0]) (v := lsv encSt33 2 y4.1) (H2 := [.box [lsv (encI .i32) 1 x1, .mp 1, .int .i64 y4.2, .int .i64 x3], mQ x4 x5 x6 x7, .box [lsv encSt33 2 x8, lsv encSt33 2 x9, .nl, .nl, .bool true, .int .i64 x11, .int .i64 x12, .int .i64 x13, .int .i64 x14, .int .i64 x15, .int .i64 x16, .int .i64 x17, .int .i64 x18, .int .i64 x19, .bool x20, .int .i32 x21, .int .i64 x22]]) [0, 1] (pat_reader__affix_s0_ok0 hy2) ?_
  refine kC 3 [0,1,2] ?_
  refine kEN ?_
  obtain ⟨y132, hy133, h134⟩ := bindS h6
  refine K.cutX (by kernel_rfl) (fun (s131 : Int) => ([(0, .ptr 0 0), (1, .ptr 2 0)], [.box [lsv (encI .i32) 1 x1, .mp 1, .int .i64 s131, .int .i64 x3], mQ x4 x5 x6 x7, .box [lsv encSt33 2 x8, lsv encSt33 2 x9, lsv encSt33 2 y4.1, .nl, .bool true, .int .i64 x11, .int .i64 x12, .int .i64 x13, .int .i64 x14, .int .i64 x15, .int .i64 x16, .int .i64 x17, .int .i64 x18, .int .i64 x19, .bool x20, .int .i32 x21, .int .i64 x22]])) y132 ?_ (fun s131 hs => ?_)
  ·refine kSR ?_
   refine kC 3 [0,1,16,17,18] ?_
   refine kEN ?_
   refine kb 0 ?_
   refine kl (fun (s136 : Int × Int) => ([(0, .ptr 0 0), (1, .ptr 2 0), (16, lsv (encI .i32) 1 x0), (17, .int .i64 (x0.length : Int)), (18, .int .i64 s136.1)], [.box [lsv (encI .i32) 1 x1, .mp 1, .int .i64 s136.2, .int .i64 x3], mQ x4 x5 x6 x7, .box [lsv encSt33 2 x8, lsv encSt33 2 x9, lsv encSt33 2 y4.1, .nl, .bool true, .int .i64 x11, .int .i64 x12, .int .i64 x13, .int .i64 x14, .int .i64 x15, .int .i64 x16, .int .i64 x17, .int .i64 x18, .int .i64 x19, .bool x20, .int .i32 x21, .int .i64 x22]])) hy133 [0, 1, 16, 17, 18] (fun s136 x218 hs217 => ?_)
   refine kSR ?_
   refine kC 1 [0,1,16,17,18,19] ?_
   refine kEN ?_
   refine kS ?_
   refine kBJ 19 hs217 (fun h220 => ?_) (fun h221 => ?_)
   ·refine kT ?_
    refine kK ?_
    refine PJ.next ?_
    obtain ⟨y238, hy239, h240⟩ := bindS h220
    refine K.cutX (by kernel_rfl) (fun (s237 : Int) => ([(0, .ptr 0 0), (1, .ptr 2 0), (16, lsv (encI .i32) 1 x0), (17, .int .i64 (x0.length : Int)), (18, .int .i64 s136.1)], [.box [lsv (encI .i32) 1 x1, .mp 1, .int .i64 s237, .int .i64 x3], mQ x4 x5 x6 x7, .box [lsv encSt33 2 x8, lsv encSt33 2 x9, lsv encSt33 2 y4.1, .nl, .bool true, .int .i64 x11, .int .i64 x12, .int .i64 x13, .int .i64 x14, .int .i64 x15, .int .i64 x16, .int .i64 x17, .int .i64 x18, .int .i64 x19, .bool x20, .int .i32 x21, .int .i64 x22]])) y238 ?_ (fun s237 hs => ?_)
    ·refine kb 1 ?_
     refine kSR ?_
     obtain ⟨hm, h242⟩ := asrt hy239
     refine kI 20 (encI_len .i32) hm ?_
     refine kC 2 [0,1,7,16,17,18] ?_
     refine kEN ?_
     refine kSR ?_
     refine kC 2 [0,1,16,17,18,22,23] ?_
     obtain ⟨y243, hy244, h245⟩ := bindS h242
     refine kCG (some 24) (args := [.ptr 0 0, .int .i32 (nth x0 s136.1)]) (v := .bool y243.1) (H2 := [.box [lsv (encI .i32) 1 x1, .mp 1, .int .i64 y243.2, .int .i64 x3], mQ x4 x5 x6 x7, .box [lsv encSt33 2 x8, lsv encSt33 2 x9, lsv encSt33 2 y4.1, .nl, .bool true, .int .i64 x11, .int .i64 x12, .int .i64 x13, .int .i64 x14, .int .i64 x15, .int .i64 x16, .int .i64 x17, .int .i64 x18, .int .i64 x19, .bool x20, .int .i32 x21, .int .i64 x22]]) [0, 1] (pat_reader__eat_s0_ok hy244) ?_
     refine kC 1 [0,1,16,17,18,25] ?_
     refine kEN ?_
     refine kBJ 25 h245 (fun h247 => ?_) (fun h248 => ?_)
     ·refine kT ?_
      refine kR ?_
      refine kC 5 [0,1,16,17,18,26,30] ?_
      obtain ⟨y249, hy250, h251⟩ := bindS h247
      refine RJ.callP (d := (some 31)) (f := 65) (args := [.ptr 0 0, .int .i64 y243.2]) (args0 := [.ptr 0 0, .int .i64 y243.2]) (H0 := [.box [lsv (encI .i32) 1 x1, .mp 1, .int .i64 y243.2, .int .i64 x3], mQ x4 x5 x6 x7]) (H0' := [.box [.undef, .mp 1, .int .i64 y243.2, .int .i64 y243.2], mQ x4 x5 x6 x7]) (H2 := [.box [.undef, .mp 1, .int .i64 y243.2, .int .i64 y243.2], mQ x4 x5 x6 x7, .box [lsv encSt33 2 x8, lsv encSt33 2 x9, lsv encSt33 2 y4.1, .nl, .bool true, .int .i64 x11, .int .i64 x12, .int .i64 x13, .int .i64 x14, .int .i64 x15, .int .i64 x16, .int .i64 x17, .int .i64 x18, .int .i64 x19, .bool x20, .int .i32 x21, .int .i64 x22]]) [0, 1] (by kernel_rfl) (by kernel_rfl) (by kernel_rfl) (by kernel_rfl) (by decide) (by kernel_rfl) (by kernel_rfl) (by kernel_rfl) (.cons (Le.refl _) (.cons (Le.refl _) .nil)) (pat_reader__fail_s0_ok0 hy250) (by kernel_rfl) (by kernel_rfl) ?_
      refine PP.block ?_
      obtain rfl := oi h251
      have h253 := joinX_inr h240
      refine PP.cutXr ?_
      obtain rfl := oi h253
      refine PP.loopOut (fun he256 => ?_)
      have h254 := congrArg some he256
      refine PP.block ?_
      obtain rfl := oi h254
      have h255 := joinX_inr h134
      refine PP.cutXr ?_
      obtain rfl := Sum.inr.inj (Option.some.inj h255)
      refine PP.wk (Wk.undefs 2 [true, true, true, true, false, false, false, false, false, false, false, false, false, false, false, false, false] (cs := [lsv encSt33 2 x8, lsv encSt33 2 x9, lsv encSt33 2 y4.1, .nl, .bool true, .int .i64 x11, .int .i64 x12, .int .i64 x13, .int .i64 x14, .int .i64 x15, .int .i64 x16, .int .i64 x17, .int .i64 x18, .int .i64 x19, .bool x20, .int .i32 x21, .int .i64 x22]) (by kernel_rfl)) ?_
      exact K.panV (H0 := [.box [lsv (encI .i32) 1 x1, .mp 1, .int .i64 x2, .int .i64 x3], mQ x4 x5 x6 x7, .box [lsv encSt33 2 x8, lsv encSt33 2 x9, .nl, .nl, .bool x10, .int .i64 x11, .int .i64 x12, .int .i64 x13, .int .i64 x14, .int .i64 x15, .int .i64 x16, .int .i64 x17, .int .i64 x18, .int .i64 x19, .bool x20, .int .i32 x21, .int .i64 x22]]) (H' := [.box [.undef, .mp 1, .int .i64 y243.2, .int .i64 y243.2], mQ x4 x5 x6 x7, .box [.undef, .undef, .undef, .undef, .bool true, .int .i64 x11, .int .i64 x12, .int .i64 x13, .int .i64 x14, .int .i64 x15, .int .i64 x16, .int .i64 x17, .int .i64 x18, .int .i64 x19, .bool x20, .int .i32 x21, .int .i64 x22]]) [0, 1, 2] hFH hFD (by kernel_rfl) (by kernel_rfl) (by decide) (by kernel_rfl) (by kernel_rfl) (by kernel_rfl)
     ·refine kF ?_
      refine kK ?_
      refine PJ.blockNormal ?_
      obtain rfl := oi h248
      exact kXl [0, 1, 16, 17, 18]
    ·subst hs
     have h241 := joinX_inl h240
     refine kR ?_
     refine kC 2 [0,1,16,17,18] ?_
     refine kE ?_
     obtain rfl := oi h241
     exact kLN [0, 1, 16, 17, 18]
   ·refine kF ?_
    refine K.exit 0 (by kernel_rfl) ?_
    refine PJ.passExit ?_
    obtain rfl := oi h221
    refine PJ.loopOut (fun e => nomatch e) (fun he258 => ?_)
    have h257 := congrArg some he258
    refine PJ.blockOut ?_
    obtain rfl := oi h257
    exact kXl [0, 1]
  ·subst hs
   have h135 := joinX_inl h134
   refine kR ?_
   refine kC 2 [33,34] ?_
   obtain ⟨y259, hy260, h261⟩ := bindS h135
   rcases y259 with y262 | y263
   ·have h264 := elimL h261
    refine kCG (some 35) (args := [.ptr 0 0]) (v := lsv encSt33 2 y262.1) (H2 := [.box [lsv (encI .i32) 1 x1, .mp 1, .int .i64 y262.2, .int .i64 x3], mQ x4 x5 x6 x7, .box [lsv encSt33 2 x8, lsv encSt33 2 x9, lsv encSt33 2 y4.1, .nl, .bool true, .int .i64 x11, .int .i64 x12, .int .i64 x13, .int .i64 x14, .int .i64 x15, .int .i64 x16, .int .i64 x17, .int .i64 x18, .int .i64 x19, .bool x20, .int .i32 x21, .int .i64 x22]]) [0, 1] (pat_reader__affix_s0_ok0 hy260) ?_
    refine kC 3 [] ?_
    refine kE ?_
    cases h264
   ·have h265 := elimR h261
    refine RJ.callP (d := (some 35)) (f := 61) (args := [.ptr 0 0]) (args0 := [.ptr 0 0]) (H0 := [.box [lsv (encI .i32) 1 x1, .mp 1, .int .i64 s131, .int .i64 x3], mQ x4 x5 x6 x7]) (H0' := [.box [.undef, .mp 1, .int .i64 y263.1, .int .i64 y263.2], mQ x4 x5 x6 x7]) (H2 := [.box [.undef, .mp 1, .int .i64 y263.1, .int .i64 y263.2], mQ x4 x5 x6 x7, .box [lsv encSt33 2 x8, lsv encSt33 2 x9, lsv encSt33 2 y4.1, .nl, .bool true, .int .i64 x11, .int .i64 x12, .int .i64 x13, .int .i64 x14, .int .i64 x15, .int .i64 x16, .int .i64 x17, .int .i64 x18, .int .i64 x19, .bool x20, .int .i32 x21, .int .i64 x22]]) [0, 1] (by kernel_rfl) (by kernel_rfl) (by kernel_rfl) (by kernel_rfl) (by decide) (by kernel_rfl) (by kernel_rfl) (by kernel_rfl) (.cons (Le.refl _) .nil) (pat_reader__affix_s0_ok1 hy260) (by kernel_rfl) (by kernel_rfl) ?_
    obtain rfl := Sum.inr.inj (Option.some.inj h265)
    refine PP.wk (Wk.undefs 2 [true, true, true, true, false, false, false, false, false, false, false, false, false, false, false, false, false] (cs := [lsv encSt33 2 x8, lsv encSt33 2 x9, lsv encSt33 2 y4.1, .nl, .bool true, .int .i64 x11, .int .i64 x12, .int .i64 x13, .int .i64 x14, .int .i64 x15, .int .i64 x16, .int .i64 x17, .int .i64 x18, .int .i64 x19, .bool x20, .int .i32 x21, .int .i64 x22]) (by kernel_rfl)) ?_
    exact K.panV (H0 := [.box [lsv (encI .i32) 1 x1, .mp 1, .int .i64 x2, .int .i64 x3], mQ x4 x5 x6 x7, .box [lsv encSt33 2 x8, lsv encSt33 2 x9, .nl, .nl, .bool x10, .int .i64 x11, .int .i64 x12, .int .i64 x13, .int .i64 x14, .int .i64 x15, .int .i64 x16, .int .i64 x17, .int .i64 x18, .int .i64 x19, .bool x20, .int .i32 x21, .int .i64 x22]]) (H' := [.box [.undef, .mp 1, .int .i64 y263.1, .int .i64 y263.2], mQ x4 x5 x6 x7, .box [.undef, .undef, .undef, .undef, .bool true, .int .i64 x11, .int .i64 x12, .int .i64 x13, .int .i64 x14, .int .i64 x15, .int .i64 x16, .int .i64 x17, .int .i64 x18, .int .i64 x19, .bool x20, .int .i32 x21, .int .i64 x22]]) [0, 1, 2] hFH hFD (by kernel_rfl) (by kernel_rfl) (by decide) (by kernel_rfl) (by kernel_rfl) (by kernel_rfl)
 ·have h7 := elimR h3
  refine RJ.callP (d := (some 13)) (f := 61) (args := [.ptr 0 0]) (args0 := [.ptr 0 0]) (H0 := [.box [lsv (encI .i32) 1 x1, .mp 1, .int .i64 x2, .int .i64 x3], mQ x4 x5 x6 x7]) (H0' := [.box [.undef, .mp 1, .int .i64 y5.1, .int .i64 y5.2], mQ x4 x5 x6 x7]) (H2 := [.box [.undef, .mp 1, .int .i64 y5.1, .int .i64 y5.2], mQ x4 x5 x6 x7, .box [lsv encSt33 2 x8, lsv encSt33 2 x9, .nl, .nl, .bool true, .int .i64 x11, .int .i64 x12, .int .i64 x13, .int .i64 x14, .int .i64 x15, .int .i64 x16, .int .i64 x17, .int .i64 x18, .int .i64 x19, .bool x20, .int .i32 x21, .int .i64 x22]]) [0, 1] (by kernel_rfl) (by kernel_rfl) (by kernel_rfl) (by kernel_rfl) (by decide) (by kernel_rfl) (by kernel_rfl) (by kernel_rfl) (.cons (Le.refl _) .nil) (pat_reader__affix_s0_ok1 hy2) (by kernel_rfl) (by kernel_rfl) ?_
  refine PP.next ?_
  obtain rfl := Sum.inr.inj (Option.some.inj h7)
  refine PP.wk (Wk.undefs 2 [true, true, true, true, false, false, false, false, false, false, false, false, false, false, false, false, false] (cs := [lsv encSt33 2 x8, lsv encSt33 2 x9, .nl, .nl, .bool true, .int .i64 x11, .int .i64 x12, .int .i64 x13, .int .i64 x14, .int .i64 x15, .int .i64 x16, .int .i64 x17, .int .i64 x18, .int .i64 x19, .bool x20, .int .i32 x21, .int .i64 x22]) (by kernel_rfl)) ?_
  exact K.panV (H0 := [.box [lsv (encI .i32) 1 x1, .mp 1, .int .i64 x2, .int .i64 x3], mQ x4 x5 x6 x7, .box [lsv encSt33 2 x8, lsv encSt33 2 x9, .nl, .nl, .bool x10, .int .i64 x11, .int .i64 x12, .int .i64 x13, .int .i64 x14, .int .i64 x15, .int .i64 x16, .int .i64 x17, .int .i64 x18, .int .i64 x19, .bool x20, .int .i32 x21, .int .i64 x22]]) (H' := [.box [.undef, .mp 1, .int .i64 y5.1, .int .i64 y5.2], mQ x4 x5 x6 x7, .box [.undef, .undef, .undef, .undef, .bool true, .int .i64 x11, .int .i64 x12, .int .i64 x13, .int .i64 x14, .int .i64 x15, .int .i64 x16, .int .i64 x17, .int .i64 x18, .int .i64 x19, .bool x20, .int .i32 x21, .int .i64 x22]]) [0, 1, 2] hFH hFD (by kernel_rfl) (by kernel_rfl) (by decide) (by kernel_rfl) (by kernel_rfl) (by kernel_rfl)
def pat_reader__pattern_s0 (x0 : List Int) (x1 : Int) (x2 : Int) (x3 : Int) (x4 : Int) (x5 : Int) (x6 : Int) : Option ((St23 × Int) ⊕ (Int × Int)) :=
 (Option.bind (pat_reader__pad_s0 1 x0 x1 x2 x3 x4 x5 x6 false 0 0 0 0 0 0 0 0 0 false 0 0) fun y1 => (Sum.elim (fun y4 => (Option.bind (pat_reader__affix_s0 x0 y4.1 x2 x3 x4 x5 x6) fun y8 => (Sum.elim (fun y11 => (Option.bind (bif (decide ((y11.1.length : Int) > 0)) then (Option.bind (pat_reader__pad_s1 2 x0 y11.2 x2 x3 x4 x5 x6 y11.1 false 0 0 0 0 0 0 0 0 0 false y4.2.1 y4.2.2) fun y35 => (Sum.elim (fun y38 => (some (.inl (y38.1, y38.2.1, y38.2.2)))) (fun y39 => (some (.inr (.inr (y39.1, y39.2))))) y35)) else (some (.inl (y11.2, y4.2.1, y4.2.2)))) (joinX fun (s27 : Int × Int × Int) => (Option.bind (pat_reader__number_s0 x0 s27.1 x2 x3 x4 x5 x6 y11.1 false 0 0 0 0 0 0 0 0 0 false s27.2.1 s27.2.2) fun y44 => (Sum.elim (fun y47 => (bif inS s27.1 y47.1 x0.length then (Option.bind (pat_reader__pad_s1 3 x0 y47.1 x2 x3 x4 x5 x6 y11.1 false y47.2.1 y47.2.2.1 y47.2.2.2.1 y47.2.2.2.2.1 y47.2.2.2.2.2.1 y47.2.2.2.2.2.2.1 y47.2.2.2.2.2.2.2.1 y47.2.2.2.2.2.2.2.2.1 y47.2.2.2.2.2.2.2.2.2.1 y47.2.2.2.2.2.2.2.2.2.2 s27.2.1 s27.2.2) fun y52 => (Sum.elim (fun y55 => (Option.bind (pat_reader__affix_s0 x0 y55.1 x2 x3 x4 x5 x6) fun y59 => (Sum.elim (fun y62 => (Option.bind (bif (decide ((y62.1.length : Int) > 0)) then (Option.bind (pat_reader__pad_s2 4 x0 y62.2 x2 x3 x4 x5 x6 y11.1 y62.1 false y47.2.1 y47.2.2.1 y47.2.2.2.1 y47.2.2.2.2.1 y47.2.2.2.2.2.1 y47.2.2.2.2.2.2.1 y47.2.2.2.2.2.2.2.1 y47.2.2.2.2.2.2.2.2.1 y47.2.2.2.2.2.2.2.2.2.1 y47.2.2.2.2.2.2.2.2.2.2 y55.2.1 y55.2.2) fun y86 => (Sum.elim (fun y89 => (some (.inl (y89.1, y89.2.1, y89.2.2)))) (fun y90 => (some (.inr (.inr (y90.1, y90.2))))) y86)) else (some (.inl (y62.2, y55.2.1, y55.2.2)))) (joinX fun (s78 : Int × Int × Int) => (Option.bind (Option.bind (pat_reader__eat_s0 59 x0 s78.1 x2 x3 x4 x5 x6) fun y115 => (bif y115.1 then (Option.bind (pat_reader__negative_s0 (cut x0 s27.1 y47.1) x0 y115.2 x2 x3 x4 x5 x6 y11.1 y62.1 false y47.2.1 y47.2.2.1 y47.2.2.2.1 y47.2.2.2.2.1 y47.2.2.2.2.2.1 y47.2.2.2.2.2.2.1 y47.2.2.2.2.2.2.2.1 y47.2.2.2.2.2.2.2.2.1 y47.2.2.2.2.2.2.2.2.2.1 y47.2.2.2.2.2.2.2.2.2.2 s78.2.1 s78.2.2) fun y121 => (Sum.elim (fun y124 => (some (.inl (y124.1, y124.2.1, y124.2.2, true)))) (fun y125 => (some (.inr (.inr (y125.1, y125.2))))) y121)) else (some (.inl (y115.2, ([] : List St33), ([] : List St33), false))))) (joinX fun (s110 : Int × (List St33) × (List St33) × Bool) => (Option.bind (bif (decide (s110.1 < (x0.length : Int))) then (Option.bind (pat_reader__fail_s0 s110.1 x0 s110.1 x2 x3 x4 x5 x6) fun y146 => (some (.inr (.inr (s110.1, s110.1))))) else (some (.inl ()))) (joinX fun (s138 : Unit) => (some (.inl ((⟨y11.1, y62.1, s110.2.1, s110.2.2.1, s110.2.2.2, y47.2.1, y47.2.2.1, y47.2.2.2.1, y47.2.2.2.2.1, y47.2.2.2.2.2.1, y47.2.2.2.2.2.2.1, y47.2.2.2.2.2.2.2.1, y47.2.2.2.2.2.2.2.2.1, y47.2.2.2.2.2.2.2.2.2.1, y47.2.2.2.2.2.2.2.2.2.2, s78.2.1, s78.2.2⟩ : St23), s110.1)))))))))) (fun y63 => (some (.inr (y63.1, y63.2)))) y59))) (fun y56 => (some (.inr (y56.1, y56.2)))) y52)) else none)) (fun y48 => (some (.inr (y48.1, y48.2.1)))) y44))))) (fun y12 => (some (.inr (y12.1, y12.2)))) y8))) (fun y5 => (some (.inr (y5.1, y5.2)))) y1))
theorem pat_reader__pattern_s0_ok0 {x0 : List Int} {x1 : Int} {x2 : Int} {x3 : Int} {x4 : Int} {x5 : Int} {x6 : Int} {r : St23 × Int} (h : pat_reader__pattern_s0 x0 x1 x2 x3 x4 x5 x6 = some (.inl r)) : SC Try.prog 47 [.ptr 0 0] [.box [lsv (encI .i32) 1 x0, .mp 1, .int .i64 x1, .int .i64 x2], mQ x3 x4 x5 x6] (.agg (encSt23 r.1)) [.box [lsv (encI .i32) 1 x0, .mp 1, .int .i64 r.2, .int .i64 x2], mQ x3 x4 x5 x6] := by
 refine kFn (fn := Try.f47) (fun F hFn hFH hFD => ?_)
 unfold pat_reader__pattern_s0 at h
 refine kSR ?_
 refine kC 1 [0,2] ?_
 refine kEN ?_
 refine kSR ?_
 refine kC 1 [0,2,3] ?_
 refine kEN ?_
 refine kSR ?_
 refine kC 1 [0,2,3,6] ?_
 obtain ⟨y1, hy2, h3⟩ := bindS h
 rcases y1 with y4 | y5
 ·have h6 := elimL h3
  refine kCG (some 7) (args := [.ptr 0 0, .ptr 3 0, .int .i64 1]) (v := .tup []) (H2 := [.box [lsv (encI .i32) 1 x0, .mp 1, .int .i64 y4.1, .int .i64 x2], mQ x3 x4 x5 x6, .box [.nl, .nl, .nl, .nl, .bool false, .int .i64 0, .int .i64 0, .int .i64 0, .int .i64 0, .int .i64 0, .int .i64 0, .int .i64 0, .int .i64 0, .int .i64 0, .bool false, .int .i32 0, .int .i64 0], .box [.nl, .nl, .nl, .nl, .bool false, .int .i64 0, .int .i64 0, .int .i64 0, .int .i64 0, .int .i64 0, .int .i64 0, .int .i64 0, .int .i64 0, .int .i64 0, .bool false, .int .i32 y4.2.1, .int .i64 y4.2.2]]) [0, 1, 3] (pat_reader__pad_s0_ok0 hy2) ?_
  refine kEN ?_
  refine kSR ?_
  refine kC 1 [0,2,3,8] ?_
  obtain ⟨y8, hy9, h10⟩ := bindS h6
  rcases y8 with y11 | y12
  ·have h13 := elimL h10
   refine kCG (some 9) (args := [.ptr 0 0]) (v := lsv encSt33 2 y11.1) (H2 := [.box [lsv (encI .i32) 1 x0, .mp 1, .int .i64 y11.2, .int .i64 x2], mQ x3 x4 x5 x6, .box [.nl, .nl, .nl, .nl, .bool false, .int .i64 0, .int .i64 0, .int .i64 0, .int .i64 0, .int .i64 0, .int .i64 0, .int .i64 0, .int .i64 0, .int .i64 0, .bool false, .int .i32 0, .int .i64 0], .box [.nl, .nl, .nl, .nl, .bool false, .int .i64 0, .int .i64 0, .int .i64 0, .int .i64 0, .int .i64 0, .int .i64 0, .int .i64 0, .int .i64 0, .int .i64 0, .bool false, .int .i32 y4.2.1, .int .i64 y4.2.2]]) [0, 1] (pat_reader__affix_s0_ok0 hy9) ?_
   refine kC 2 [0,2,3] ?_
   refine kEN ?_
   obtain ⟨y28, hy29, h30⟩ := bindS h13
   refine K.cutX (by kernel_rfl) (fun (s27 : Int × Int × Int) => ([(0, .ptr 0 0), (2, .ptr 2 0), (3, .ptr 3 0)], [.box [lsv (encI .i32) 1 x0, .mp 1, .int .i64 s27.1, .int .i64 x2], mQ x3 x4 x5 x6, .box [.nl, .nl, .nl, .nl, .bool false, .int .i64 0, .int .i64 0, .int .i64 0, .int .i64 0, .int .i64 0, .int .i64 0, .int .i64 0, .int .i64 0, .int .i64 0, .bool false, .int .i32 0, .int .i64 0], .box [lsv encSt33 2 y11.1, .nl, .nl, .nl, .bool false, .int .i64 0, .int .i64 0, .int .i64 0, .int .i64 0, .int .i64 0, .int .i64 0, .int .i64 0, .int .i64 0, .int .i64 0, .bool false, .int .i32 s27.2.1, .int .i64 s27.2.2]])) y28 ?_ (fun s27 hs => ?_)
   ·refine kSR ?_
    refine kC 4 [0,2,3,14] ?_
    refine kEN ?_
    refine kBJ 14 hy29 (fun h33 => ?_) (fun h34 => ?_)
    ·refine kT ?_
     refine kR ?_
     refine kC 1 [0,2,3,15] ?_
     obtain ⟨y35, hy36, h37⟩ := bindS h33
     rcases y35 with y38 | y39
     ·have h40 := elimL h37
      refine kCG (some 16) (args := [.ptr 0 0, .ptr 3 0, .int .i64 2]) (v := .tup []) (H2 := [.box [lsv (encI .i32) 1 x0, .mp 1, .int .i64 y38.1, .int .i64 x2], mQ x3 x4 x5 x6, .box [.nl, .nl, .nl, .nl, .bool false, .int .i64 0, .int .i64 0, .int .i64 0, .int .i64 0, .int .i64 0, .int .i64 0, .int .i64 0, .int .i64 0, .int .i64 0, .bool false, .int .i32 0, .int .i64 0], .box [lsv encSt33 2 y11.1, .nl, .nl, .nl, .bool false, .int .i64 0, .int .i64 0, .int .i64 0, .int .i64 0, .int .i64 0, .int .i64 0, .int .i64 0, .int .i64 0, .int .i64 0, .bool false, .int .i32 y38.2.1, .int .i64 y38.2.2]]) [0, 1, 3] (pat_reader__pad_s1_ok0 hy36) ?_
      refine kE ?_
      obtain rfl := oi h40
      exact kXl [0, 2, 3]
     ·have h41 := elimR h37
      refine RJ.callP (d := (some 16)) (f := 60) (args := [.ptr 0 0, .ptr 3 0, .int .i64 2]) (args0 := [.ptr 0 0, .ptr 2 0, .int .i64 2]) (H0 := [.box [lsv (encI .i32) 1 x0, .mp 1, .int .i64 y11.2, .int .i64 x2], mQ x3 x4 x5 x6, .box [lsv encSt33 2 y11.1, .nl, .nl, .nl, .bool false, .int .i64 0, .int .i64 0, .int .i64 0, .int .i64 0, .int .i64 0, .int .i64 0, .int .i64 0, .int .i64 0, .int .i64 0, .bool false, .int .i32 y4.2.1, .int .i64 y4.2.2]]) (H0' := [.box [.undef, .mp 1, .int .i64 y39.1, .int .i64 y39.2], mQ x3 x4 x5 x6, .box [.undef, .undef, .undef, .undef, .bool false, .int .i64 0, .int .i64 0, .int .i64 0, .int .i64 0, .int .i64 0, .int .i64 0, .int .i64 0, .int .i64 0, .int .i64 0, .bool false, .int .i32 y4.2.1, .int .i64 y4.2.2]]) (H2 := [.box [.undef, .mp 1, .int .i64 y39.1, .int .i64 y39.2], mQ x3 x4 x5 x6, .box [.nl, .nl, .nl, .nl, .bool false, .int .i64 0, .int .i64 0, .int .i64 0, .int .i64 0, .int .i64 0, .int .i64 0, .int .i64 0, .int .i64 0, .int .i64 0, .bool false, .int .i32 0, .int .i64 0], .box [.undef, .undef, .undef, .undef, .bool false, .int .i64 0, .int .i64 0, .int .i64 0, .int .i64 0, .int .i64 0, .int .i64 0, .int .i64 0, .int .i64 0, .int .i64 0, .bool false, .int .i32 y4.2.1, .int .i64 y4.2.2]]) [0, 1, 3] (by kernel_rfl) (by kernel_rfl) (by kernel_rfl) (by kernel_rfl) (by decide) (by kernel_rfl) (by kernel_rfl) (by kernel_rfl) (.cons (Le.refl _) (.cons (Le.refl _) (.cons (Le.refl _) .nil))) (pat_reader__pad_s1_ok1 hy36) (by kernel_rfl) (by kernel_rfl) ?_
      obtain rfl := oi h41
      have h43 := joinX_inr h30
      refine PP.cutXr ?_
      cases h43
    ·refine kF ?_
     refine kK ?_
     obtain rfl := oi h34
     exact kXl [0, 2, 3]
   ·subst hs
    have h31 := joinX_inl h30
    refine kSR ?_
    refine kC 5 [0,2,3,4] ?_
    refine kEN ?_
    refine kSR ?_
    refine kC 1 [0,2,3,4,21] ?_
    obtain ⟨y44, hy45, h46⟩ := bindS h31
    rcases y44 with y47 | y48
    ·have h49 := elimL h46
     refine kCG (some 22) (args := [.ptr 0 0, .ptr 3 0]) (v := .tup []) (H2 := [.box [lsv (encI .i32) 1 x0, .mp 1, .int .i64 y47.1, .int .i64 x2], mQ x3 x4 x5 x6, .box [.nl, .nl, .nl, .nl, .bool false, .int .i64 0, .int .i64 0, .int .i64 0, .int .i64 0, .int .i64 0, .int .i64 0, .int .i64 0, .int .i64 0, .int .i64 0, .bool false, .int .i32 0, .int .i64 0], .box [lsv encSt33 2 y11.1, .nl, .nl, .nl, .bool false, .int .i64 y47.2.1, .int .i64 y47.2.2.1, .int .i64 y47.2.2.2.1, .int .i64 y47.2.2.2.2.1, .int .i64 y47.2.2.2.2.2.1, .int .i64 y47.2.2.2.2.2.2.1, .int .i64 y47.2.2.2.2.2.2.2.1, .int .i64 y47.2.2.2.2.2.2.2.2.1, .int .i64 y47.2.2.2.2.2.2.2.2.2.1, .bool y47.2.2.2.2.2.2.2.2.2.2, .int .i32 s27.2.1, .int .i64 s27.2.2]]) [0, 1, 3] (pat_reader__number_s0_ok0 hy45) ?_
     refine kEN ?_
     refine kS ?_
     refine J.keep [0, 2, 3, 4] (L2 := [(0, .ptr 0 0), (2, .ptr 2 0), (3, .ptr 3 0), (4, .int .i64 s27.1)]) (by kernel_rfl) ?_
     refine K.draw (by kernel_rfl) (by kernel_rfl) (by kernel_rfl) (H2 := [.box [lsv (encI .i32) 1 x0, .mp 1, .int .i64 y47.1, .int .i64 x2], mQ x3 x4 x5 x6, .box [.nl, .nl, .nl, .nl, .bool false, .int .i64 0, .int .i64 0, .int .i64 0, .int .i64 0, .int .i64 0, .int .i64 0, .int .i64 0, .int .i64 0, .int .i64 0, .bool false, .int .i32 0, .int .i64 0], .box [lsv encSt33 2 y11.1, .nl, .nl, .nl, .bool false, .int .i64 y47.2.1, .int .i64 y47.2.2.1, .int .i64 y47.2.2.2.1, .int .i64 y47.2.2.2.2.1, .int .i64 y47.2.2.2.2.2.1, .int .i64 y47.2.2.2.2.2.2.1, .int .i64 y47.2.2.2.2.2.2.2.1, .int .i64 y47.2.2.2.2.2.2.2.2.1, .int .i64 y47.2.2.2.2.2.2.2.2.2.1, .bool y47.2.2.2.2.2.2.2.2.2.2, .int .i32 s27.2.1, .int .i64 s27.2.2]]) (by kernel_rfl) (n := 4) (by kernel_rfl) ?_
     refine kD 9 ?_
     obtain ⟨hm, h51⟩ := asrt h49
     refine RJ.rel (d := (some 32)) (ef := ⟨.lst ((y47.1 : Int).toNat - (s27.1 : Int).toNat) 1 (((x0.flatMap (encI .i32)).take ((y47.1 : Int).toNat * 1)).drop ((s27.1 : Int).toNat * 1)), [], []⟩) (ef' := ⟨.lst (cut x0 s27.1 y47.1).length 1 ((cut x0 s27.1 y47.1).flatMap (encI .i32)), [], []⟩) (c := inS s27.1 y47.1 x0.length) (tr2 := [([], []), ([], []), ([], []), ([0, 1], []), ([], []), ([], []), ([], []), ([], []), ([0, 1], []), ([], [])]) (H2 := [.box [lsv (encI .i32) 1 x0, .mp 1, .int .i64 y47.1, .int .i64 x2], mQ x3 x4 x5 x6, .box [.nl, .nl, .nl, .nl, .bool false, .int .i64 0, .int .i64 0, .int .i64 0, .int .i64 0, .int .i64 0, .int .i64 0, .int .i64 0, .int .i64 0, .int .i64 0, .bool false, .int .i32 0, .int .i64 0], .box [lsv encSt33 2 y11.1, .nl, .nl, .nl, .bool false, .int .i64 y47.2.1, .int .i64 y47.2.2.1, .int .i64 y47.2.2.2.1, .int .i64 y47.2.2.2.2.1, .int .i64 y47.2.2.2.2.2.1, .int .i64 y47.2.2.2.2.2.2.1, .int .i64 y47.2.2.2.2.2.2.2.1, .int .i64 y47.2.2.2.2.2.2.2.2.1, .int .i64 y47.2.2.2.2.2.2.2.2.2.1, .bool y47.2.2.2.2.2.2.2.2.2.2, .int .i32 s27.2.1, .int .i64 s27.2.2]]) (by kernel_rfl) hm (fun hc => N.slice (encI_len .i32) hc) (by kernel_rfl) ?_
     refine kD 1 ?_
     refine kEN ?_
     refine kSR ?_
     refine kC 1 [0,2,3,5,33] ?_
     obtain ⟨y52, hy53, h54⟩ := bindS h51
     rcases y52 with y55 | y56
     ·have h57 := elimL h54
      refine kCG (some 34) (args := [.ptr 0 0, .ptr 3 0, .int .i64 3]) (v := .tup []) (H2 := [.box [lsv (encI .i32) 1 x0, .mp 1, .int .i64 y55.1, .int .i64 x2], mQ x3 x4 x5 x6, .box [.nl, .nl, .nl, .nl, .bool false, .int .i64 0, .int .i64 0, .int .i64 0, .int .i64 0, .int .i64 0, .int .i64 0, .int .i64 0, .int .i64 0, .int .i64 0, .bool false, .int .i32 0, .int .i64 0], .box [lsv encSt33 2 y11.1, .nl, .nl, .nl, .bool false, .int .i64 y47.2.1, .int .i64 y47.2.2.1, .int .i64 y47.2.2.2.1, .int .i64 y47.2.2.2.2.1, .int .i64 y47.2.2.2.2.2.1, .int .i64 y47.2.2.2.2.2.2.1, .int .i64 y47.2.2.2.2.2.2.2.1, .int .i64 y47.2.2.2.2.2.2.2.2.1, .int .i64 y47.2.2.2.2.2.2.2.2.2.1, .bool y47.2.2.2.2.2.2.2.2.2.2, .int .i32 y55.2.1, .int .i64 y55.2.2]]) [0, 1, 3] (pat_reader__pad_s1_ok0 hy53) ?_
      refine kEN ?_
      refine kSR ?_
      refine kC 1 [0,2,3,5,35] ?_
      obtain ⟨y59, hy60, h61⟩ := bindS h57
      rcases y59 with y62 | y63
      ·have h64 := elimL h61
       refine kCG (some 36) (args := [.ptr 0 0]) (v := lsv encSt33 2 y62.1) (H2 := [.box [lsv (encI .i32) 1 x0, .mp 1, .int .i64 y62.2, .int .i64 x2], mQ x3 x4 x5 x6, .box [.nl, .nl, .nl, .nl, .bool false, .int .i64 0, .int .i64 0, .int .i64 0, .int .i64 0, .int .i64 0, .int .i64 0, .int .i64 0, .int .i64 0, .int .i64 0, .bool false, .int .i32 0, .int .i64 0], .box [lsv encSt33 2 y11.1, .nl, .nl, .nl, .bool false, .int .i64 y47.2.1, .int .i64 y47.2.2.1, .int .i64 y47.2.2.2.1, .int .i64 y47.2.2.2.2.1, .int .i64 y47.2.2.2.2.2.1, .int .i64 y47.2.2.2.2.2.2.1, .int .i64 y47.2.2.2.2.2.2.2.1, .int .i64 y47.2.2.2.2.2.2.2.2.1, .int .i64 y47.2.2.2.2.2.2.2.2.2.1, .bool y47.2.2.2.2.2.2.2.2.2.2, .int .i32 y55.2.1, .int .i64 y55.2.2]]) [0, 1] (pat_reader__affix_s0_ok0 hy60) ?_
       refine kC 2 [0,2,3,5] ?_
       refine kEN ?_
       obtain ⟨y79, hy80, h81⟩ := bindS h64
       refine K.cutX (by kernel_rfl) (fun (s78 : Int × Int × Int) => ([(0, .ptr 0 0), (2, .ptr 2 0), (3, .ptr 3 0), (5, lsv (encI .i32) 1 (cut x0 s27.1 y47.1))], [.box [lsv (encI .i32) 1 x0, .mp 1, .int .i64 s78.1, .int .i64 x2], mQ x3 x4 x5 x6, .box [.nl, .nl, .nl, .nl, .bool false, .int .i64 0, .int .i64 0, .int .i64 0, .int .i64 0, .int .i64 0, .int .i64 0, .int .i64 0, .int .i64 0, .int .i64 0, .bool false, .int .i32 0, .int .i64 0], .box [lsv encSt33 2 y11.1, lsv encSt33 2 y62.1, .nl, .nl, .bool false, .int .i64 y47.2.1, .int .i64 y47.2.2.1, .int .i64 y47.2.2.2.1, .int .i64 y47.2.2.2.2.1, .int .i64 y47.2.2.2.2.2.1, .int .i64 y47.2.2.2.2.2.2.1, .int .i64 y47.2.2.2.2.2.2.2.1, .int .i64 y47.2.2.2.2.2.2.2.2.1, .int .i64 y47.2.2.2.2.2.2.2.2.2.1, .bool y47.2.2.2.2.2.2.2.2.2.2, .int .i32 s78.2.1, .int .i64 s78.2.2]])) y79 ?_ (fun s78 hs => ?_)
       ·refine kSR ?_
        refine kC 4 [0,2,3,5,41] ?_
        refine kEN ?_
        refine kBJ 41 hy80 (fun h84 => ?_) (fun h85 => ?_)
        ·refine kT ?_
         refine kR ?_
         refine kC 1 [0,2,3,5,42] ?_
         obtain ⟨y86, hy87, h88⟩ := bindS h84
         rcases y86 with y89 | y90
         ·have h91 := elimL h88
          refine kCG (some 43) (args := [.ptr 0 0, .ptr 3 0, .int .i64 4]) (v := .tup []) (H2 := [.box [lsv (encI .i32) 1 x0, .mp 1, .int .i64 y89.1, .int .i64 x2], mQ x3 x4 x5 x6, .box [.nl, .nl, .nl, .nl, .bool false, .int .i64 0, .int .i64 0, .int .i64 0, .int .i64 0, .int .i64 0, .int .i64 0, .int .i64 0, .int .i64 0, .int .i64 0, .bool false, .int .i32 0, .int .i64 0], .box [lsv encSt33 2 y11.1, lsv encSt33 2 y62.1, .nl, .nl, .bool false, .int .i64 y47.2.1, .int .i64 y47.2.2.1, .int .i64 y47.2.2.2.1, .int .i64 y47.2.2.2.2.1, .int .i64 y47.2.2.2.2.2.1, .int .i64 y47.2.2.2.2.2.2.1, .int .i64 y47.2.2.2.2.2.2.2.1, .int .i64 y47.2.2.2.2.2.2.2.2.1, .int .i64 y47.2.2.2.2.2.2.2.2.2.1, .bool y47.2.2.2.2.2.2.2.2.2.2, .int .i32 y89.2.1, .int .i64 y89.2.2]]) [0, 1, 3] (pat_reader__pad_s2_ok0 hy87) ?_
          refine kE ?_
          obtain rfl := oi h91
          exact kXl [0, 2, 3, 5]
         ·have h92 := elimR h88
          refine RJ.callP (d := (some 43)) (f := 60) (args := [.ptr 0 0, .ptr 3 0, .int .i64 4]) (args0 := [.ptr 0 0, .ptr 2 0, .int .i64 4]) (H0 := [.box [lsv (encI .i32) 1 x0, .mp 1, .int .i64 y62.2, .int .i64 x2], mQ x3 x4 x5 x6, .box [lsv encSt33 2 y11.1, lsv encSt33 2 y62.1, .nl, .nl, .bool false, .int .i64 y47.2.1, .int .i64 y47.2.2.1, .int .i64 y47.2.2.2.1, .int .i64 y47.2.2.2.2.1, .int .i64 y47.2.2.2.2.2.1, .int .i64 y47.2.2.2.2.2.2.1, .int .i64 y47.2.2.2.2.2.2.2.1, .int .i64 y47.2.2.2.2.2.2.2.2.1, .int .i64 y47.2.2.2.2.2.2.2.2.2.1, .bool y47.2.2.2.2.2.2.2.2.2.2, .int .i32 y55.2.1, .int .i64 y55.2.2]]) (H0' := [.box [.undef, .mp 1, .int .i64 y90.1, .int .i64 y90.2], mQ x3 x4 x5 x6, .box [.undef, .undef, .undef, .undef, .bool false, .int .i64 y47.2.1, .int .i64 y47.2.2.1, .int .i64 y47.2.2.2.1, .int .i64 y47.2.2.2.2.1, .int .i64 y47.2.2.2.2.2.1, .int .i64 y47.2.2.2.2.2.2.1, .int .i64 y47.2.2.2.2.2.2.2.1, .int .i64 y47.2.2.2.2.2.2.2.2.1, .int .i64 y47.2.2.2.2.2.2.2.2.2.1, .bool y47.2.2.2.2.2.2.2.2.2.2, .int .i32 y55.2.1, .int .i64 y55.2.2]]) (H2 := [.box [.undef, .mp 1, .int .i64 y90.1, .int .i64 y90.2], mQ x3 x4 x5 x6, .box [.nl, .nl, .nl, .nl, .bool false, .int .i64 0, .int .i64 0, .int .i64 0, .int .i64 0, .int .i64 0, .int .i64 0, .int .i64 0, .int .i64 0, .int .i64 0, .bool false, .int .i32 0, .int .i64 0], .box [.undef, .undef, .undef, .undef, .bool false, .int .i64 y47.2.1, .int .i64 y47.2.2.1, .int .i64 y47.2.2.2.1, .int .i64 y47.2.2.2.2.1, .int .i64 y47.2.2.2.2.2.1, .int .i64 y47.2.2.2.2.2.2.1, .int .i64 y47.2.2.2.2.2.2.2.1, .int .i64 y47.2.2.2.2.2.2.2.2.1, .int .i64 y47.2.2.2.2.2.2.2.2.2.1, .bool y47.2.2.2.2.2.2.2.2.2.2, .int .i32 y55.2.1, .int .i64 y55.2.2]]) [0, 1, 3] (by kernel_rfl) (by kernel_rfl) (by kernel_rfl) (by kernel_rfl) (by decide) (by kernel_rfl) (by kernel_rfl) (by kernel_rfl) (.cons (Le.refl _) (.cons (Le.refl _) (.cons (Le.refl _) .nil))) (pat_reader__pad_s2_ok1 hy87) (by kernel_rfl) (by kernel_rfl) ?_
          obtain rfl := oi h92
          have h94 := joinX_inr h81
          refine PP.cutXr ?_
          cases h94
        ·refine kF ?_
         refine kK ?_
         obtain rfl := oi h85
         exact kXl [0, 2, 3, 5]
       ·subst hs
        have h82 := joinX_inl h81
        obtain ⟨y111, hy112, h113⟩ := bindS h82
        refine K.cutX (by kernel_rfl) (fun (s110 : Int × (List St33) × (List St33) × Bool) => ([(0, .ptr 0 0), (2, .ptr 2 0), (3, .ptr 3 0)], [.box [lsv (encI .i32) 1 x0, .mp 1, .int .i64 s110.1, .int .i64 x2], mQ x3 x4 x5 x6, .box [.nl, .nl, .nl, .nl, .bool false, .int .i64 0, .int .i64 0, .int .i64 0, .int .i64 0, .int .i64 0, .int .i64 0, .int .i64 0, .int .i64 0, .int .i64 0, .bool false, .int .i32 0, .int .i64 0], .box [lsv encSt33 2 y11.1, lsv encSt33 2 y62.1, lsv encSt33 2 s110.2.1, lsv encSt33 2 s110.2.2.1, .bool s110.2.2.2, .int .i64 y47.2.1, .int .i64 y47.2.2.1, .int .i64 y47.2.2.2.1, .int .i64 y47.2.2.2.2.1, .int .i64 y47.2.2.2.2.2.1, .int .i64 y47.2.2.2.2.2.2.1, .int .i64 y47.2.2.2.2.2.2.2.1, .int .i64 y47.2.2.2.2.2.2.2.2.1, .int .i64 y47.2.2.2.2.2.2.2.2.2.1, .bool y47.2.2.2.2.2.2.2.2.2.2, .int .i32 s78.2.1, .int .i64 s78.2.2]])) y111 ?_ (fun s110 hs => ?_)
        ·refine kSR ?_
         refine kC 1 [0,2,3,5,44] ?_
         obtain ⟨y115, hy116, h117⟩ := bindS hy112
         refine kCG (some 45) (args := [.ptr 0 0, .int .i32 59]) (v := .bool y115.1) (H2 := [.box [lsv (encI .i32) 1 x0, .mp 1, .int .i64 y115.2, .int .i64 x2], mQ x3 x4 x5 x6, .box [.nl, .nl, .nl, .nl, .bool false, .int .i64 0, .int .i64 0, .int .i64 0, .int .i64 0, .int .i64 0, .int .i64 0, .int .i64 0, .int .i64 0, .int .i64 0, .bool false, .int .i32 0, .int .i64 0], .box [lsv encSt33 2 y11.1, lsv encSt33 2 y62.1, .nl, .nl, .bool false, .int .i64 y47.2.1, .int .i64 y47.2.2.1, .int .i64 y47.2.2.2.1, .int .i64 y47.2.2.2.2.1, .int .i64 y47.2.2.2.2.2.1, .int .i64 y47.2.2.2.2.2.2.1, .int .i64 y47.2.2.2.2.2.2.2.1, .int .i64 y47.2.2.2.2.2.2.2.2.1, .int .i64 y47.2.2.2.2.2.2.2.2.2.1, .bool y47.2.2.2.2.2.2.2.2.2.2, .int .i32 s78.2.1, .int .i64 s78.2.2]]) [0, 1] (pat_reader__eat_s0_ok hy116) ?_
         refine kEN ?_
         refine kBJ 45 h117 (fun h119 => ?_) (fun h120 => ?_)
         ·refine kT ?_
          refine kR ?_
          refine kC 2 [0,2,3,46,47] ?_
          obtain ⟨y121, hy122, h123⟩ := bindS h119
          rcases y121 with y124 | y125
          ·have h126 := elimL h123
           refine kCG (some 48) (args := [.ptr 0 0, .ptr 3 0, lsv (encI .i32) 1 (cut x0 s27.1 y47.1)]) (v := .tup []) (H2 := [.box [lsv (encI .i32) 1 x0, .mp 1, .int .i64 y124.1, .int .i64 x2], mQ x3 x4 x5 x6, .box [.nl, .nl, .nl, .nl, .bool false, .int .i64 0, .int .i64 0, .int .i64 0, .int .i64 0, .int .i64 0, .int .i64 0, .int .i64 0, .int .i64 0, .int .i64 0, .bool false, .int .i32 0, .int .i64 0], .box [lsv encSt33 2 y11.1, lsv encSt33 2 y62.1, lsv encSt33 2 y124.2.1, lsv encSt33 2 y124.2.2, .bool true, .int .i64 y47.2.1, .int .i64 y47.2.2.1, .int .i64 y47.2.2.2.1, .int .i64 y47.2.2.2.2.1, .int .i64 y47.2.2.2.2.2.1, .int .i64 y47.2.2.2.2.2.2.1, .int .i64 y47.2.2.2.2.2.2.2.1, .int .i64 y47.2.2.2.2.2.2.2.2.1, .int .i64 y47.2.2.2.2.2.2.2.2.2.1, .bool y47.2.2.2.2.2.2.2.2.2.2, .int .i32 s78.2.1, .int .i64 s78.2.2]]) [0, 1, 3] (pat_reader__negative_s0_ok0 hy122) ?_
           refine kE ?_
           obtain rfl := oi h126
           exact kXl [0, 2, 3]
          ·have h127 := elimR h123
           refine RJ.callP (d := (some 48)) (f := 64) (args := [.ptr 0 0, .ptr 3 0, lsv (encI .i32) 1 (cut x0 s27.1 y47.1)]) (args0 := [.ptr 0 0, .ptr 2 0, lsv (encI .i32) 1 (cut x0 s27.1 y47.1)]) (H0 := [.box [lsv (encI .i32) 1 x0, .mp 1, .int .i64 y115.2, .int .i64 x2], mQ x3 x4 x5 x6, .box [lsv encSt33 2 y11.1, lsv encSt33 2 y62.1, .nl, .nl, .bool false, .int .i64 y47.2.1, .int .i64 y47.2.2.1, .int .i64 y47.2.2.2.1, .int .i64 y47.2.2.2.2.1, .int .i64 y47.2.2.2.2.2.1, .int .i64 y47.2.2.2.2.2.2.1, .int .i64 y47.2.2.2.2.2.2.2.1, .int .i64 y47.2.2.2.2.2.2.2.2.1, .int .i64 y47.2.2.2.2.2.2.2.2.2.1, .bool y47.2.2.2.2.2.2.2.2.2.2, .int .i32 s78.2.1, .int .i64 s78.2.2]]) (H0' := [.box [.undef, .mp 1, .int .i64 y125.1, .int .i64 y125.2], mQ x3 x4 x5 x6, .box [.undef, .undef, .undef, .undef, .bool true, .int .i64 y47.2.1, .int .i64 y47.2.2.1, .int .i64 y47.2.2.2.1, .int .i64 y47.2.2.2.2.1, .int .i64 y47.2.2.2.2.2.1, .int .i64 y47.2.2.2.2.2.2.1, .int .i64 y47.2.2.2.2.2.2.2.1, .int .i64 y47.2.2.2.2.2.2.2.2.1, .int .i64 y47.2.2.2.2.2.2.2.2.2.1, .bool y47.2.2.2.2.2.2.2.2.2.2, .int .i32 s78.2.1, .int .i64 s78.2.2]]) (H2 := [.box [.undef, .mp 1, .int .i64 y125.1, .int .i64 y125.2], mQ x3 x4 x5 x6, .box [.nl, .nl, .nl, .nl, .bool false, .int .i64 0, .int .i64 0, .int .i64 0, .int .i64 0, .int .i64 0, .int .i64 0, .int .i64 0, .int .i64 0, .int .i64 0, .bool false, .int .i32 0, .int .i64 0], .box [.undef, .undef, .undef, .undef, .bool true, .int .i64 y47.2.1, .int .i64 y47.2.2.1, .int .i64 y47.2.2.2.1, .int .i64 y47.2.2.2.2.1, .int .i64 y47.2.2.2.2.2.1, .int .i64 y47.2.2.2.2.2.2.1, .int .i64 y47.2.2.2.2.2.2.2.1, .int .i64 y47.2.2.2.2.2.2.2.2.1, .int .i64 y47.2.2.2.2.2.2.2.2.2.1, .bool y47.2.2.2.2.2.2.2.2.2.2, .int .i32 s78.2.1, .int .i64 s78.2.2]]) [0, 1, 3] (by kernel_rfl) (by kernel_rfl) (by kernel_rfl) (by kernel_rfl) (by decide) (by kernel_rfl) (by kernel_rfl) (by kernel_rfl) (.cons (Le.refl _) (.cons (Le.refl _) (.cons (Le.refl _) .nil))) (pat_reader__negative_s0_ok1 hy122) (by kernel_rfl) (by kernel_rfl) ?_
           obtain rfl := oi h127
           have h129 := joinX_inr h113
           refine PP.cutXr ?_
           cases h129
         ·refine kF ?_
          refine kK ?_
          obtain rfl := oi h120
          refine PJ.wk (Wk.leBox 3 2 (cs := [lsv encSt33 2 y11.1, lsv encSt33 2 y62.1, .nl, .nl, .bool false, .int .i64 y47.2.1, .int .i64 y47.2.2.1, .int .i64 y47.2.2.2.1, .int .i64 y47.2.2.2.2.1, .int .i64 y47.2.2.2.2.2.1, .int .i64 y47.2.2.2.2.2.2.1, .int .i64 y47.2.2.2.2.2.2.2.1, .int .i64 y47.2.2.2.2.2.2.2.2.1, .int .i64 y47.2.2.2.2.2.2.2.2.2.1, .bool y47.2.2.2.2.2.2.2.2.2.2, .int .i32 s78.2.1, .int .i64 s78.2.2]) (v := .nl) (v' := lsv encSt33 2 []) (by kernel_rfl) (by kernel_rfl) (Le.nl _)) ?_
          refine PJ.wk (Wk.leBox 3 3 (cs := [lsv encSt33 2 y11.1, lsv encSt33 2 y62.1, lsv encSt33 2 ([] : List St33), .nl, .bool false, .int .i64 y47.2.1, .int .i64 y47.2.2.1, .int .i64 y47.2.2.2.1, .int .i64 y47.2.2.2.2.1, .int .i64 y47.2.2.2.2.2.1, .int .i64 y47.2.2.2.2.2.2.1, .int .i64 y47.2.2.2.2.2.2.2.1, .int .i64 y47.2.2.2.2.2.2.2.2.1, .int .i64 y47.2.2.2.2.2.2.2.2.2.1, .bool y47.2.2.2.2.2.2.2.2.2.2, .int .i32 s78.2.1, .int .i64 s78.2.2]) (v := .nl) (v' := lsv encSt33 2 []) (by kernel_rfl) (by kernel_rfl) (Le.nl _)) ?_
          exact kXl [0, 2, 3]
        ·subst hs
         have h114 := joinX_inl h113
         obtain ⟨y139, hy140, h141⟩ := bindS h114
         refine K.cutX (by kernel_rfl) (fun (s138 : Unit) => ([(2, .ptr 2 0), (3, .ptr 3 0)], [.box [lsv (encI .i32) 1 x0, .mp 1, .int .i64 s110.1, .int .i64 x2], mQ x3 x4 x5 x6, .box [.nl, .nl, .nl, .nl, .bool false, .int .i64 0, .int .i64 0, .int .i64 0, .int .i64 0, .int .i64 0, .int .i64 0, .int .i64 0, .int .i64 0, .int .i64 0, .bool false, .int .i32 0, .int .i64 0], .box [lsv encSt33 2 y11.1, lsv encSt33 2 y62.1, lsv encSt33 2 s110.2.1, lsv encSt33 2 s110.2.2.1, .bool s110.2.2.2, .int .i64 y47.2.1, .int .i64 y47.2.2.1, .int .i64 y47.2.2.2.1, .int .i64 y47.2.2.2.2.1, .int .i64 y47.2.2.2.2.2.1, .int .i64 y47.2.2.2.2.2.2.1, .int .i64 y47.2.2.2.2.2.2.2.1, .int .i64 y47.2.2.2.2.2.2.2.2.1, .int .i64 y47.2.2.2.2.2.2.2.2.2.1, .bool y47.2.2.2.2.2.2.2.2.2.2, .int .i32 s78.2.1, .int .i64 s78.2.2]])) y139 ?_ (fun s138 hs => ?_)
         ·refine kS ?_
          refine J.keep [0, 2, 3] (L2 := [(0, .ptr 0 0), (2, .ptr 2 0), (3, .ptr 3 0)]) (by kernel_rfl) ?_
          refine K.draw (by kernel_rfl) (by kernel_rfl) (by kernel_rfl) (H2 := [.box [lsv (encI .i32) 1 x0, .mp 1, .int .i64 s110.1, .int .i64 x2], mQ x3 x4 x5 x6, .box [.nl, .nl, .nl, .nl, .bool false, .int .i64 0, .int .i64 0, .int .i64 0, .int .i64 0, .int .i64 0, .int .i64 0, .int .i64 0, .int .i64 0, .int .i64 0, .bool false, .int .i32 0, .int .i64 0], .box [lsv encSt33 2 y11.1, lsv encSt33 2 y62.1, lsv encSt33 2 s110.2.1, lsv encSt33 2 s110.2.2.1, .bool s110.2.2.2, .int .i64 y47.2.1, .int .i64 y47.2.2.1, .int .i64 y47.2.2.2.1, .int .i64 y47.2.2.2.2.1, .int .i64 y47.2.2.2.2.2.1, .int .i64 y47.2.2.2.2.2.2.1, .int .i64 y47.2.2.2.2.2.2.2.1, .int .i64 y47.2.2.2.2.2.2.2.2.1, .int .i64 y47.2.2.2.2.2.2.2.2.2.1, .bool y47.2.2.2.2.2.2.2.2.2.2, .int .i32 s78.2.1, .int .i64 s78.2.2]]) (by kernel_rfl) (n := 4) (by kernel_rfl) ?_
          refine kD 10 ?_
          refine kEN ?_
          refine kBJ 58 hy140 (fun h144 => ?_) (fun h145 => ?_)
          ·refine kT ?_
           refine kR ?_
           refine kC 5 [2,3,59,63] ?_
           obtain ⟨y146, hy147, h148⟩ := bindS h144
           refine RJ.callP (d := (some 64)) (f := 65) (args := [.ptr 0 0, .int .i64 s110.1]) (args0 := [.ptr 0 0, .int .i64 s110.1]) (H0 := [.box [lsv (encI .i32) 1 x0, .mp 1, .int .i64 s110.1, .int .i64 x2], mQ x3 x4 x5 x6]) (H0' := [.box [.undef, .mp 1, .int .i64 s110.1, .int .i64 s110.1], mQ x3 x4 x5 x6]) (H2 := [.box [.undef, .mp 1, .int .i64 s110.1, .int .i64 s110.1], mQ x3 x4 x5 x6, .box [.nl, .nl, .nl, .nl, .bool false, .int .i64 0, .int .i64 0, .int .i64 0, .int .i64 0, .int .i64 0, .int .i64 0, .int .i64 0, .int .i64 0, .int .i64 0, .bool false, .int .i32 0, .int .i64 0], .box [lsv encSt33 2 y11.1, lsv encSt33 2 y62.1, lsv encSt33 2 s110.2.1, lsv encSt33 2 s110.2.2.1, .bool s110.2.2.2, .int .i64 y47.2.1, .int .i64 y47.2.2.1, .int .i64 y47.2.2.2.1, .int .i64 y47.2.2.2.2.1, .int .i64 y47.2.2.2.2.2.1, .int .i64 y47.2.2.2.2.2.2.1, .int .i64 y47.2.2.2.2.2.2.2.1, .int .i64 y47.2.2.2.2.2.2.2.2.1, .int .i64 y47.2.2.2.2.2.2.2.2.2.1, .bool y47.2.2.2.2.2.2.2.2.2.2, .int .i32 s78.2.1, .int .i64 s78.2.2]]) [0, 1] (by kernel_rfl) (by kernel_rfl) (by kernel_rfl) (by kernel_rfl) (by decide) (by kernel_rfl) (by kernel_rfl) (by kernel_rfl) (.cons (Le.refl _) (.cons (Le.refl _) .nil)) (pat_reader__fail_s0_ok0 hy147) (by kernel_rfl) (by kernel_rfl) ?_
           obtain rfl := oi h148
           have h150 := joinX_inr h141
           refine PP.cutXr ?_
           cases h150
          ·refine kF ?_
           refine kK ?_
           obtain rfl := oi h145
           exact kXl [2, 3]
         ·subst hs
          have h142 := joinX_inl h141
          refine kSR ?_
          refine kC 2 [2] ?_
          refine kEN ?_
          refine kX ?_
          obtain rfl := Sum.inl.inj (Option.some.inj h142)
          exact kV [0, 1] hFn hFH hFD (v1 := .agg [lsv encSt33 2 y11.1, lsv encSt33 2 y62.1, lsv encSt33 2 s110.2.1, lsv encSt33 2 s110.2.2.1, .bool s110.2.2.2, .int .i64 y47.2.1, .int .i64 y47.2.2.1, .int .i64 y47.2.2.2.1, .int .i64 y47.2.2.2.2.1, .int .i64 y47.2.2.2.2.2.1, .int .i64 y47.2.2.2.2.2.2.1, .int .i64 y47.2.2.2.2.2.2.2.1, .int .i64 y47.2.2.2.2.2.2.2.2.1, .int .i64 y47.2.2.2.2.2.2.2.2.2.1, .bool y47.2.2.2.2.2.2.2.2.2.2, .int .i32 s78.2.1, .int .i64 s78.2.2])
      ·have h65 := elimR h61
       refine RJ.callP (d := (some 36)) (f := 61) (args := [.ptr 0 0]) (args0 := [.ptr 0 0]) (H0 := [.box [lsv (encI .i32) 1 x0, .mp 1, .int .i64 y55.1, .int .i64 x2], mQ x3 x4 x5 x6]) (H0' := [.box [.undef, .mp 1, .int .i64 y63.1, .int .i64 y63.2], mQ x3 x4 x5 x6]) (H2 := [.box [.undef, .mp 1, .int .i64 y63.1, .int .i64 y63.2], mQ x3 x4 x5 x6, .box [.nl, .nl, .nl, .nl, .bool false, .int .i64 0, .int .i64 0, .int .i64 0, .int .i64 0, .int .i64 0, .int .i64 0, .int .i64 0, .int .i64 0, .int .i64 0, .bool false, .int .i32 0, .int .i64 0], .box [lsv encSt33 2 y11.1, .nl, .nl, .nl, .bool false, .int .i64 y47.2.1, .int .i64 y47.2.2.1, .int .i64 y47.2.2.2.1, .int .i64 y47.2.2.2.2.1, .int .i64 y47.2.2.2.2.2.1, .int .i64 y47.2.2.2.2.2.2.1, .int .i64 y47.2.2.2.2.2.2.2.1, .int .i64 y47.2.2.2.2.2.2.2.2.1, .int .i64 y47.2.2.2.2.2.2.2.2.2.1, .bool y47.2.2.2.2.2.2.2.2.2.2, .int .i32 y55.2.1, .int .i64 y55.2.2]]) [0, 1] (by kernel_rfl) (by kernel_rfl) (by kernel_rfl) (by kernel_rfl) (by decide) (by kernel_rfl) (by kernel_rfl) (by kernel_rfl) (.cons (Le.refl _) .nil) (pat_reader__affix_s0_ok1 hy60) (by kernel_rfl) (by kernel_rfl) ?_
       refine PP.next ?_
       cases h65
     ·have h58 := elimR h54
      refine RJ.callP (d := (some 34)) (f := 60) (args := [.ptr 0 0, .ptr 3 0, .int .i64 3]) (args0 := [.ptr 0 0, .ptr 2 0, .int .i64 3]) (H0 := [.box [lsv (encI .i32) 1 x0, .mp 1, .int .i64 y47.1, .int .i64 x2], mQ x3 x4 x5 x6, .box [lsv encSt33 2 y11.1, .nl, .nl, .nl, .bool false, .int .i64 y47.2.1, .int .i64 y47.2.2.1, .int .i64 y47.2.2.2.1, .int .i64 y47.2.2.2.2.1, .int .i64 y47.2.2.2.2.2.1, .int .i64 y47.2.2.2.2.2.2.1, .int .i64 y47.2.2.2.2.2.2.2.1, .int .i64 y47.2.2.2.2.2.2.2.2.1, .int .i64 y47.2.2.2.2.2.2.2.2.2.1, .bool y47.2.2.2.2.2.2.2.2.2.2, .int .i32 s27.2.1, .int .i64 s27.2.2]]) (H0' := [.box [.undef, .mp 1, .int .i64 y56.1, .int .i64 y56.2], mQ x3 x4 x5 x6, .box [.undef, .undef, .undef, .undef, .bool false, .int .i64 y47.2.1, .int .i64 y47.2.2.1, .int .i64 y47.2.2.2.1, .int .i64 y47.2.2.2.2.1, .int .i64 y47.2.2.2.2.2.1, .int .i64 y47.2.2.2.2.2.2.1, .int .i64 y47.2.2.2.2.2.2.2.1, .int .i64 y47.2.2.2.2.2.2.2.2.1, .int .i64 y47.2.2.2.2.2.2.2.2.2.1, .bool y47.2.2.2.2.2.2.2.2.2.2, .int .i32 s27.2.1, .int .i64 s27.2.2]]) (H2 := [.box [.undef, .mp 1, .int .i64 y56.1, .int .i64 y56.2], mQ x3 x4 x5 x6, .box [.nl, .nl, .nl, .nl, .bool false, .int .i64 0, .int .i64 0, .int .i64 0, .int .i64 0, .int .i64 0, .int .i64 0, .int .i64 0, .int .i64 0, .int .i64 0, .bool false, .int .i32 0, .int .i64 0], .box [.undef, .undef, .undef, .undef, .bool false, .int .i64 y47.2.1, .int .i64 y47.2.2.1, .int .i64 y47.2.2.2.1, .int .i64 y47.2.2.2.2.1, .int .i64 y47.2.2.2.2.2.1, .int .i64 y47.2.2.2.2.2.2.1, .int .i64 y47.2.2.2.2.2.2.2.1, .int .i64 y47.2.2.2.2.2.2.2.2.1, .int .i64 y47.2.2.2.2.2.2.2.2.2.1, .bool y47.2.2.2.2.2.2.2.2.2.2, .int .i32 s27.2.1, .int .i64 s27.2.2]]) [0, 1, 3] (by kernel_rfl) (by kernel_rfl) (by kernel_rfl) (by kernel_rfl) (by decide) (by kernel_rfl) (by kernel_rfl) (by kernel_rfl) (.cons (Le.refl _) (.cons (Le.refl _) (.cons (Le.refl _) .nil))) (pat_reader__pad_s1_ok1 hy53) (by kernel_rfl) (by kernel_rfl) ?_
      refine PP.next ?_
      cases h58
    ·have h50 := elimR h46
     refine RJ.callP (d := (some 22)) (f := 62) (args := [.ptr 0 0, .ptr 3 0]) (args0 := [.ptr 0 0, .ptr 2 0]) (H0 := [.box [lsv (encI .i32) 1 x0, .mp 1, .int .i64 s27.1, .int .i64 x2], mQ x3 x4 x5 x6, .box [lsv encSt33 2 y11.1, .nl, .nl, .nl, .bool false, .int .i64 0, .int .i64 0, .int .i64 0, .int .i64 0, .int .i64 0, .int .i64 0, .int .i64 0, .int .i64 0, .int .i64 0, .bool false, .int .i32 s27.2.1, .int .i64 s27.2.2]]) (H0' := [.box [.undef, .mp 1, .int .i64 y48.1, .int .i64 y48.2.1], mQ x3 x4 x5 x6, .box [.undef, .undef, .undef, .undef, .bool false, .int .i64 y48.2.2.1, .int .i64 y48.2.2.2.1, .int .i64 y48.2.2.2.2.1, .int .i64 y48.2.2.2.2.2.1, .int .i64 y48.2.2.2.2.2.2.1, .int .i64 y48.2.2.2.2.2.2.2.1, .int .i64 y48.2.2.2.2.2.2.2.2.1, .int .i64 y48.2.2.2.2.2.2.2.2.2.1, .int .i64 y48.2.2.2.2.2.2.2.2.2.2.1, .bool y48.2.2.2.2.2.2.2.2.2.2.2, .int .i32 s27.2.1, .int .i64 s27.2.2]]) (H2 := [.box [.undef, .mp 1, .int .i64 y48.1, .int .i64 y48.2.1], mQ x3 x4 x5 x6, .box [.nl, .nl, .nl, .nl, .bool false, .int .i64 0, .int .i64 0, .int .i64 0, .int .i64 0, .int .i64 0, .int .i64 0, .int .i64 0, .int .i64 0, .int .i64 0, .bool false, .int .i32 0, .int .i64 0], .box [.undef, .undef, .undef, .undef, .bool false, .int .i64 y48.2.2.1, .int .i64 y48.2.2.2.1, .int .i64 y48.2.2.2.2.1, .int .i64 y48.2.2.2.2.2.1, .int .i64 y48.2.2.2.2.2.2.1, .int .i64 y48.2.2.2.2.2.2.2.1, .int .i64 y48.2.2.2.2.2.2.2.2.1, .int .i64 y48.2.2.2.2.2.2.2.2.2.1, .int .i64 y48.2.2.2.2.2.2.2.2.2.2.1, .bool y48.2.2.2.2.2.2.2.2.2.2.2, .int .i32 s27.2.1, .int .i64 s27.2.2]]) [0, 1, 3] (by kernel_rfl) (by kernel_rfl) (by kernel_rfl) (by kernel_rfl) (by decide) (by kernel_rfl) (by kernel_rfl) (by kernel_rfl) (.cons (Le.refl _) (.cons (Le.refl _) .nil)) (pat_reader__number_s0_ok1 hy45) (by kernel_rfl) (by kernel_rfl) ?_
     refine PP.next ?_
     cases h50
  ·have h14 := elimR h10
   refine RJ.callP (d := (some 9)) (f := 61) (args := [.ptr 0 0]) (args0 := [.ptr 0 0]) (H0 := [.box [lsv (encI .i32) 1 x0, .mp 1, .int .i64 y4.1, .int .i64 x2], mQ x3 x4 x5 x6]) (H0' := [.box [.undef, .mp 1, .int .i64 y12.1, .int .i64 y12.2], mQ x3 x4 x5 x6]) (H2 := [.box [.undef, .mp 1, .int .i64 y12.1, .int .i64 y12.2], mQ x3 x4 x5 x6, .box [.nl, .nl, .nl, .nl, .bool false, .int .i64 0, .int .i64 0, .int .i64 0, .int .i64 0, .int .i64 0, .int .i64 0, .int .i64 0, .int .i64 0, .int .i64 0, .bool false, .int .i32 0, .int .i64 0], .box [.nl, .nl, .nl, .nl, .bool false, .int .i64 0, .int .i64 0, .int .i64 0, .int .i64 0, .int .i64 0, .int .i64 0, .int .i64 0, .int .i64 0, .int .i64 0, .bool false, .int .i32 y4.2.1, .int .i64 y4.2.2]]) [0, 1] (by kernel_rfl) (by kernel_rfl) (by kernel_rfl) (by kernel_rfl) (by decide) (by kernel_rfl) (by kernel_rfl) (by kernel_rfl) (.cons (Le.refl _) .nil) (pat_reader__affix_s0_ok1 hy9) (by kernel_rfl) (by kernel_rfl) ?_
   refine PP.next ?_
   cases h14
 ·have h7 := elimR h3
  refine RJ.callP (d := (some 7)) (f := 60) (args := [.ptr 0 0, .ptr 3 0, .int .i64 1]) (args0 := [.ptr 0 0, .ptr 2 0, .int .i64 1]) (H0 := [.box [lsv (encI .i32) 1 x0, .mp 1, .int .i64 x1, .int .i64 x2], mQ x3 x4 x5 x6, .box [.nl, .nl, .nl, .nl, .bool false, .int .i64 0, .int .i64 0, .int .i64 0, .int .i64 0, .int .i64 0, .int .i64 0, .int .i64 0, .int .i64 0, .int .i64 0, .bool false, .int .i32 0, .int .i64 0]]) (H0' := [.box [.undef, .mp 1, .int .i64 y5.1, .int .i64 y5.2], mQ x3 x4 x5 x6, .box [.undef, .undef, .undef, .undef, .bool false, .int .i64 0, .int .i64 0, .int .i64 0, .int .i64 0, .int .i64 0, .int .i64 0, .int .i64 0, .int .i64 0, .int .i64 0, .bool false, .int .i32 0, .int .i64 0]]) (H2 := [.box [.undef, .mp 1, .int .i64 y5.1, .int .i64 y5.2], mQ x3 x4 x5 x6, .box [.nl, .nl, .nl, .nl, .bool false, .int .i64 0, .int .i64 0, .int .i64 0, .int .i64 0, .int .i64 0, .int .i64 0, .int .i64 0, .int .i64 0, .int .i64 0, .bool false, .int .i32 0, .int .i64 0], .box [.undef, .undef, .undef, .undef, .bool false, .int .i64 0, .int .i64 0, .int .i64 0, .int .i64 0, .int .i64 0, .int .i64 0, .int .i64 0, .int .i64 0, .int .i64 0, .bool false, .int .i32 0, .int .i64 0]]) [0, 1, 3] (by kernel_rfl) (by kernel_rfl) (by kernel_rfl) (by kernel_rfl) (by decide) (by kernel_rfl) (by kernel_rfl) (by kernel_rfl) (.cons (Le.refl _) (.cons (Le.refl _) (.cons (Le.refl _) .nil))) (pat_reader__pad_s0_ok1 hy2) (by kernel_rfl) (by kernel_rfl) ?_
  refine PP.next ?_
  cases h7
theorem pat_reader__pattern_s0_ok1 {x0 : List Int} {x1 : Int} {x2 : Int} {x3 : Int} {x4 : Int} {x5 : Int} {x6 : Int} {r : Int × Int} (h : pat_reader__pattern_s0 x0 x1 x2 x3 x4 x5 x6 = some (.inr r)) : SP Try.prog 47 [.ptr 0 0] [.box [lsv (encI .i32) 1 x0, .mp 1, .int .i64 x1, .int .i64 x2], mQ x3 x4 x5 x6] [.box [.undef, .mp 1, .int .i64 r.1, .int .i64 r.2], mQ x3 x4 x5 x6] := by
 refine kFnP (fn := Try.f47) (fun F hFn hFH hFD => ?_)
 unfold pat_reader__pattern_s0 at h
 refine kSR ?_
 refine kC 1 [0,2] ?_
 refine kEN ?_
 refine kSR ?_
 refine kC 1 [0,2,3] ?_
 refine kEN ?_
 refine kSR ?_
 refine kC 1 [0,2,3,6] ?_
 obtain ⟨y1, hy2, h3⟩ := bindS h
 rcases y1 with y4 | y5
 ·have h6 := elimL h3
  refine kCG (some 7) (args := [.ptr 0 0, .ptr 3 0, .int .i64 1]) (v := .tup []) (H2 := [.box [lsv (encI .i32) 1 x0, .mp 1, .int .i64 y4.1, .int .i64 x2], mQ x3 x4 x5 x6, .box [.nl, .nl, .nl, .nl, .bool false, .int .i64 0, .int .i64 0, .int .i64 0, .int .i64 0, .int .i64 0, .int .i64 0, .int .i64 0, .int .i64 0, .int .i64 0, .bool false, .int .i32 0, .int .i64 0], .box [.nl, .nl, .nl, .nl, .bool false, .int .i64 0, .int .i64 0, .int .i64 0, .int .i64 0, .int .i64 0, .int .i64 0, .int .i64 0, .int .i64 0, .int .i64 0, .bool false, .int .i32 y4.2.1, .int .i64 y4.2.2]]) [0, 1, 3] (pat_reader__pad_s0_ok0 hy2) ?_
  refine kEN ?_
  refine kSR ?_
  refine kC 1 [0,2,3,8] ?_
  obtain ⟨y8, hy9, h10⟩ := bindS h6
  rcases y8 with y11 | y12
  ·have h13 := elimL h10
   refine kCG (some 9) (args := [.ptr 0 0]) (v := lsv encSt33 2 y11.1) (H2 := [.box [lsv (encI .i32) 1 x0, .mp 1, .int .i64 y11.2, .int .i64 x2], mQ x3 x4 x5 x6, .box [.nl, .nl, .nl, .nl, .bool false, .int .i64 0, .int .i64 0, .int .i64 0, .int .i64 0, .int .i64 0, .int .i64 0, .int .i64 0, .int .i64 0, .int .i64 0, .bool false, .int .i32 0, .int .i64 0], .box [.nl, .nl, .nl, .nl, .bool false, .int .i64 0, .int .i64 0, .int .i64 0, .int .i64 0, .int .i64 0, .int .i64 0, .int .i64 0, .int .i64 0, .int .i64 0, .bool false, .int .i32 y4.2.1, .int .i64 y4.2.2]]) [0, 1] (pat_reader__affix_s0_ok0 hy9) ?_
   refine kC 2 [0,2,3] ?_
   refine kEN ?_
   obtain ⟨y28, hy29, h30⟩ := bindS h13
   refine K.cutX (by kernel_rfl) (fun (s27 : Int × Int × Int) => ([(0, .ptr 0 0), (2, .ptr 2 0), (3, .ptr 3 0)], [.box [lsv (encI .i32) 1 x0, .mp 1, .int .i64 s27.1, .int .i64 x2], mQ x3 x4 x5 x6, .box [.nl, .nl, .nl, .nl, .bool false, .int .i64 0, .int .i64 0, .int .i64 0, .int .i64 0, .int .i64 0, .int .i64 0, .int .i64 0, .int .i64 0, .int .i64 0, .bool false, .int .i32 0, .int .i64 0], .box [lsv encSt33 2 y11.1, .nl, .nl, .nl, .bool false, .int .i64 0, .int .i64 0, .int .i64 0, .int .i64 0, .int .i64 0, .int .i64 0, .int .i64 0, .int .i64 0, .int .i64 0, .bool false, .int .i32 s27.2.1, .int .i64 s27.2.2]])) y28 ?_ (fun s27 hs => ?_)
   ·refine kSR ?_
    refine kC 4 [0,2,3,14] ?_
    refine kEN ?_
    refine kBJ 14 hy29 (fun h33 => ?_) (fun h34 => ?_)
    ·refine kT ?_
     refine kR ?_
     refine kC 1 [0,2,3,15] ?_
     obtain ⟨y35, hy36, h37⟩ := bindS h33
     rcases y35 with y38 | y39
     ·have h40 := elimL h37
      refine kCG (some 16) (args := [.ptr 0 0, .ptr 3 0, .int .i64 2]) (v := .tup []) (H2 := [.box [lsv (encI .i32) 1 x0, .mp 1, .int .i64 y38.1, .int .i64 x2], mQ x3 x4 x5 x6, .box [.nl, .nl, .nl, .nl, .bool false, .int .i64 0, .int .i64 0, .int .i64 0, .int .i64 0, .int .i64 0, .int .i64 0, .int .i64 0, .int .i64 0, .int .i64 0, .bool false, .int .i32 0, .int .i64 0], .box [lsv encSt33 2 y11.1, .nl, .nl, .nl, .bool false, .int .i64 0, .int .i64 0, .int .i64 0, .int .i64 0, .int .i64 0, .int .i64 0, .int .i64 0, .int .i64 0, .int .i64 0, .bool false, .int .i32 y38.2.1, .int .i64 y38.2.2]]) [0, 1, 3] (pat_reader__pad_s1_ok0 hy36) ?_
      refine kE ?_
      obtain rfl := oi h40
      exact kXl [0, 2, 3]
     ·have h41 := elimR h37
      refine RJ.callP (d := (some 16)) (f := 60) (args := [.ptr 0 0, .ptr 3 0, .int .i64 2]) (args0 := [.ptr 0 0, .ptr 2 0, .int .i64 2]) (H0 := [.box [lsv (encI .i32) 1 x0, .mp 1, .int .i64 y11.2, .int .i64 x2], mQ x3 x4 x5 x6, .box [lsv encSt33 2 y11.1, .nl, .nl, .nl, .bool false, .int .i64 0, .int .i64 0, .int .i64 0, .int .i64 0, .int .i64 0, .int .i64 0, .int .i64 0, .int .i64 0, .int .i64 0, .bool false, .int .i32 y4.2.1, .int .i64 y4.2.2]]) (H0' := [.box [.undef, .mp 1, .int .i64 y39.1, .int .i64 y39.2], mQ x3 x4 x5 x6, .box [.undef, .undef, .undef, .undef, .bool false, .int .i64 0, .int .i64 0, .int .i64 0, .int .i64 0, .int .i64 0, .int .i64 0, .int .i64 0, .int .i64 0, .int .i64 0, .bool false, .int .i32 y4.2.1, .int .i64 y4.2.2]]) (H2 := [.box [.undef, .mp 1, .int .i64 y39.1, .int .i64 y39.2], mQ x3 x4 x5 x6, .box [.nl, .nl, .nl, .nl, .bool false, .int .i64 0, .int .i64 0, .int .i64 0, .int .i64 0, .int .i64 0, .int .i64 0, .int .i64 0, .int .i64 0, .int .i64 0, .bool false, .int .i32 0, .int .i64 0], .box [.undef, .undef, .undef, .undef, .bool false, .int .i64 0, .int .i64 0, .int .i64 0, .int .i64 0, .int .i64 0, .int .i64 0, .int .i64 0, .int .i64 0, .int .i64 0, .bool false, .int .i32 y4.2.1, .int .i64 y4.2.2]]) [0, 1, 3] (by kernel_rfl) (by kernel_rfl) (by kernel_rfl) (by kernel_rfl) (by decide) (by kernel_rfl) (by kernel_rfl) (by kernel_rfl) (.cons (Le.refl _) (.cons (Le.refl _) (.cons (Le.refl _) .nil))) (pat_reader__pad_s1_ok1 hy36) (by kernel_rfl) (by kernel_rfl) ?_
      obtain rfl := oi h41
      have h43 := joinX_inr h30
      refine PP.cutXr ?_
      obtain rfl := Sum.inr.inj (Option.some.inj h43)
      exact K.panV (H0 := [.box [lsv (encI .i32) 1 x0, .mp 1, .int .i64 x1, .int .i64 x2], mQ x3 x4 x5 x6]) (H' := [.box [.undef, .mp 1, .int .i64 y39.1, .int .i64 y39.2], mQ x3 x4 x5 x6]) [0, 1] hFH hFD (by kernel_rfl) (by kernel_rfl) (by decide) (by kernel_rfl) (by kernel_rfl) (by kernel_rfl)
    ·refine kF ?_
     refine kK ?_
     obtain rfl := oi h34
     exact kXl [0, 2, 3]
   ·subst hs
    have h31 := joinX_inl h30
    refine kSR ?_
    refine kC 5 [0,2,3,4] ?_
    refine kEN ?_
    refine kSR ?_
    refine kC 1 [0,2,3,4,21] ?_
    obtain ⟨y44, hy45, h46⟩ := bindS h31
    rcases y44 with y47 | y48
    ·have h49 := elimL h46
     refine kCG (some 22) (args := [.ptr 0 0, .ptr 3 0]) (v := .tup []) (H2 := [.box [lsv (encI .i32) 1 x0, .mp 1, .int .i64 y47.1, .int .i64 x2], mQ x3 x4 x5 x6, .box [.nl, .nl, .nl, .nl, .bool false, .int .i64 0, .int .i64 0, .int .i64 0, .int .i64 0, .int .i64 0, .int .i64 0, .int .i64 0, .int .i64 0, .int .i64 0, .bool false, .int .i32 0, .int .i64 0], .box [lsv encSt33 2 y11.1, .nl, .nl, .nl, .bool false, .int .i64 y47.2.1, .int .i64 y47.2.2.1, .int .i64 y47.2.2.2.1, .int .i64 y47.2.2.2.2.1, .int .i64 y47.2.2.2.2.2.1, .int .i64 y47.2.2.2.2.2.2.1, .int .i64 y47.2.2.2.2.2.2.2.1, .int .i64 y47.2.2.2.2.2.2.2.2.1, .int .i64 y47.2.2.2.2.2.2.2.2.2.1, .bool y47.2.2.2.2.2.2.2.2.2.2, .int .i32 s27.2.1, .int .i64 s27.2.2]]) [0, 1, 3] (pat_reader__number_s0_ok0 hy45) ?_
     refine kEN ?_
     refine kS ?_
     refine J.keep [0, 2, 3, 4] (L2 := [(0, .ptr 0 0), (2, .ptr 2 0), (3, .ptr 3 0), (4, .int .i64 s27.1)]) (by kernel_rfl) ?_
     refine K.draw (by kernel_rfl) (by kernel_rfl) (by kernel_rfl) (H2 := [.box [lsv (encI .i32) 1 x0, .mp 1, .int .i64 y47.1, .int .i64 x2], mQ x3 x4 x5 x6, .box [.nl, .nl, .nl, .nl, .bool false, .int .i64 0, .int .i64 0, .int .i64 0, .int .i64 0, .int .i64 0, .int .i64 0, .int .i64 0, .int .i64 0, .int .i64 0, .bool false, .int .i32 0, .int .i64 0], .box [lsv encSt33 2 y11.1, .nl, .nl, .nl, .bool false, .int .i64 y47.2.1, .int .i64 y47.2.2.1, .int .i64 y47.2.2.2.1, .int .i64 y47.2.2.2.2.1, .int .i64 y47.2.2.2.2.2.1, .int .i64 y47.2.2.2.2.2.2.1, .int .i64 y47.2.2.2.2.2.2.2.1, .int .i64 y47.2.2.2.2.2.2.2.2.1, .int .i64 y47.2.2.2.2.2.2.2.2.2.1, .bool y47.2.2.2.2.2.2.2.2.2.2, .int .i32 s27.2.1, .int .i64 s27.2.2]]) (by kernel_rfl) (n := 4) (by kernel_rfl) ?_
     refine kD 9 ?_
     obtain ⟨hm, h51⟩ := asrt h49
     refine RJ.rel (d := (some 32)) (ef := ⟨.lst ((y47.1 : Int).toNat - (s27.1 : Int).toNat) 1 (((x0.flatMap (encI .i32)).take ((y47.1 : Int).toNat * 1)).drop ((s27.1 : Int).toNat * 1)), [], []⟩) (ef' := ⟨.lst (cut x0 s27.1 y47.1).length 1 ((cut x0 s27.1 y47.1).flatMap (encI .i32)), [], []⟩) (c := inS s27.1 y47.1 x0.length) (tr2 := [([], []), ([], []), ([], []), ([0, 1], []), ([], []), ([], []), ([], []), ([], []), ([0, 1], []), ([], [])]) (H2 := [.box [lsv (encI .i32) 1 x0, .mp 1, .int .i64 y47.1, .int .i64 x2], mQ x3 x4 x5 x6, .box [.nl, .nl, .nl, .nl, .bool false, .int .i64 0, .int .i64 0, .int .i64 0, .int .i64 0, .int .i64 0, .int .i64 0, .int .i64 0, .int .i64 0, .int .i64 0, .bool false, .int .i32 0, .int .i64 0], .box [lsv encSt33 2 y11.1, .nl, .nl, .nl, .bool false, .int .i64 y47.2.1, .int .i64 y47.2.2.1, .int .i64 y47.2.2.2.1, .int .i64 y47.2.2.2.2.1, .int .i64 y47.2.2.2.2.2.1, .int .i64 y47.2.2.2.2.2.2.1, .int .i64 y47.2.2.2.2.2.2.2.1, .int .i64 y47.2.2.2.2.2.2.2.2.1, .int .i64 y47.2.2.2.2.2.2.2.2.2.1, .bool y47.2.2.2.2.2.2.2.2.2.2, .int .i32 s27.2.1, .int .i64 s27.2.2]]) (by kernel_rfl) hm (fun hc => N.slice (encI_len .i32) hc) (by kernel_rfl) ?_
     refine kD 1 ?_
     refine kEN ?_
     refine kSR ?_
     refine kC 1 [0,2,3,5,33] ?_
     obtain ⟨y52, hy53, h54⟩ := bindS h51
     rcases y52 with y55 | y56
     ·have h57 := elimL h54
      refine kCG (some 34) (args := [.ptr 0 0, .ptr 3 0, .int .i64 3]) (v := .tup []) (H2 := [.box [lsv (encI .i32) 1 x0, .mp 1, .int .i64 y55.1, .int .i64 x2], mQ x3 x4 x5 x6, .box [.nl, .nl, .nl, .nl, .bool false, .int .i64 0, .int .i64 0, .int .i64 0, .int .i64 0, .int .i64 0, .int .i64 0, .int .i64 0, .int .i64 0, .int .i64 0, .bool false, .int .i32 0, .int .i64 0], .box [lsv encSt33 2 y11.1, .nl, .nl, .nl, .bool false, .int .i64 y47.2.1, .int .i64 y47.2.2.1, .int .i64 y47.2.2.2.1, .int .i64 y47.2.2.2.2.1, .int .i64 y47.2.2.2.2.2.1, .int .i64 y47.2.2.2.2.2.2.1, .int .i64 y47.2.2.2.2.2.2.2.1, .int .i64 y47.2.2.2.2.2.2.2.2.1, .int .i64 y47.2.2.2.2.2.2.2.2.2.1, .bool y47.2.2.2.2.2.2.2.2.2.2, .int .i32 y55.2.1, .int .i64 y55.2.2]]) [0, 1, 3] (pat_reader__pad_s1_ok0 hy53) ?_
      refine kEN ?_
      refine kSR ?_
      refine kC 1 [0,2,3,5,35] ?_
      obtain ⟨y59, hy60, h61⟩ := bindS h57
      rcases y59 with y62 | y63
      ·have h64 := elimL h61
       refine kCG (some 36) (args := [.ptr 0 0]) (v := lsv encSt33 2 y62.1) (H2 := [.box [lsv (encI .i32) 1 x0, .mp 1, .int .i64 y62.2, .int .i64 x2], mQ x3 x4 x5 x6, .box [.nl, .nl, .nl, .nl, .bool false, .int .i64 0, .int .i64 0, .int .i64 0, .int .i64 0, .int .i64 0, .int .i64 0, .int .i64 0, .int .i64 0, .int .i64 0, .bool false, .int .i32 0, .int .i64 0], .box [lsv encSt33 2 y11.1, .nl, .nl, .nl, .bool false, .int .i64 y47.2.1, .int .i64 y47.2.2.1, .int .i64 y47.2.2.2.1, .int .i64 y47.2.2.2.2.1, .int .i64 y47.2.2.2.2.2.1, .int .i64 y47.2.2.2.2.2.2.1, .int .i64 y47.2.2.2.2.2.2.2.1, .int .i64 y47.2.2.2.2.2.2.2.2.1, .int .i64 y47.2.2.2.2.2.2.2.2.2.1, .bool y47.2.2.2.2.2.2.2.2.2.2, .int .i32 y55.2.1, .int .i64 y55.2.2]]) [0, 1] (pat_reader__affix_s0_ok0 hy60) ?_
       refine kC 2 [0,2,3,5] ?_
       refine kEN ?_
       obtain ⟨y79, hy80, h81⟩ := bindS h64
       refine K.cutX (by kernel_rfl) (fun (s78 : Int × Int × Int) => ([(0, .ptr 0 0), (2, .ptr 2 0), (3, .ptr 3 0), (5, lsv (encI .i32) 1 (cut x0 s27.1 y47.1))], [.box [lsv (encI .i32) 1 x0, .mp 1, .int .i64 s78.1, .int .i64 x2], mQ x3 x4 x5 x6, .box [.nl, .nl, .nl, .nl, .bool false, .int .i64 0, .int .i64 0, .int .i64 0, .int .i64 0, .int .i64 0, .int .i64 0, .int .i64 0, .int .i64 0, .int .i64 0, .bool false, .int .i32 0, .int .i64 0], .box [lsv encSt33 2 y11.1, lsv encSt33 2 y62.1, .nl, .nl, .bool false, .int .i64 y47.2.1, .int .i64 y47.2.2.1, .int .i64 y47.2.2.2.1, .int .i64 y47.2.2.2.2.1, .int .i64 y47.2.2.2.2.2.1, .int .i64 y47.2.2.2.2.2.2.1, .int .i64 y47.2.2.2.2.2.2.2.1, .int .i64 y47.2.2.2.2.2.2.2.2.1, .int .i64 y47.2.2.2.2.2.2.2.2.2.1, .bool y47.2.2.2.2.2.2.2.2.2.2, .int .i32 s78.2.1, .int .i64 s78.2.2]])) y79 ?_ (fun s78 hs => ?_)
       ·refine kSR ?_
        refine kC 4 [0,2,3,5,41] ?_
        refine kEN ?_
        refine kBJ 41 hy80 (fun h84 => ?_) (fun h85 => ?_)
        ·refine kT ?_
         refine kR ?_
         refine kC 1 [0,2,3,5,42] ?_
         obtain ⟨y86, hy87, h88⟩ := bindS h84
         rcases y86 with y89 | y90
         ·have h91 := elimL h88
          refine kCG (some 43) (args := [.ptr 0 0, .ptr 3 0, .int .i64 4]) (v := .tup []) (H2 := [.box [lsv (encI .i32) 1 x0, .mp 1, .int .i64 y89.1, .int .i64 x2], mQ x3 x4 x5 x6, .box [.nl, .nl, .nl, .nl, .bool false, .int .i64 0, .int .i64 0, .int .i64 0, .int .i64 0, .int .i64 0, .int .i64 0, .int .i64 0, .int .i64 0, .int .i64 0, .bool false, .int .i32 0, .int .i64 0], .box [lsv encSt33 2 y11.1, lsv encSt33 2 y62.1, .nl, .nl, .bool false, .int .i64 y47.2.1, .int .i64 y47.2.2.1, .int .i64 y47.2.2.2.1, .int .i64 y47.2.2.2.2.1, .int .i64 y47.2.2.2.2.2.1, .int .i64 y47.2.2.2.2.2.2.1, .int .i64 y47.2.2.2.2.2.2.2.1, .int .i64 y47.2.2.2.2.2.2.2.2.1, .int .i64 y47.2.2.2.2.2.2.2.2.2.1, .bool y47.2.2.2.2.2.2.2.2.2.2, .int .i32 y89.2.1, .int .i64 y89.2.2]]) [0, 1, 3] (pat_reader__pad_s2_ok0 hy87) ?_
          refine kE ?_
          obtain rfl := oi h91
          exact kXl [0, 2, 3, 5]
         ·have h92 := elimR h88
          refine RJ.callP (d := (some 43)) (f := 60) (args := [.ptr 0 0, .ptr 3 0, .int .i64 4]) (args0 := [.ptr 0 0, .ptr 2 0, .int .i64 4]) (H0 := [.box [lsv (encI .i32) 1 x0, .mp 1, .int .i64 y62.2, .int .i64 x2], mQ x3 x4 x5 x6, .box [lsv encSt33 2 y11.1, lsv encSt33 2 y62.1, .nl, .nl, .bool false, .int .i64 y47.2.1, .int .i64 y47.2.2.1, .int .i64 y47.2.2.2.1, .int .i64 y47.2.2.2.2.1, .int .i64 y47.2.2.2.2.2.1, .int .i64 y47.2.2.2.2.2.2.1, .int .i64 y47.2.2.2.2.2.2.2.1, .int .i64 y47.2.2.2.2.2.2.2.2.1, .int .i64 y47.2.2.2.2.2.2.2.2.2.1, .bool y47.2.2.2.2.2.2.2.2.2.2, .int .i32 y55.2.1, .int .i64 y55.2.2]]) (H0' := [.box [.undef, .mp 1, .int .i64 y90.1, .int .i64 y90.2], mQ x3 x4 x5 x6, .box [.undef, .undef, .undef, .undef, .bool false, .int .i64 y47.2.1, .int .i64 y47.2.2.1, .int .i64 y47.2.2.2.1, .int .i64 y47.2.2.2.2.1, .int .i64 y47.2.2.2.2.2.1, .int .i64 y47.2.2.2.2.2.2.1, .int .i64 y47.2.2.2.2.2.2.2.1, .int .i64 y47.2.2.2.2.2.2.2.2.1, .int .i64 y47.2.2.2.2.2.2.2.2.2.1, .bool y47.2.2.2.2.2.2.2.2.2.2, .int .i32 y55.2.1, .int .i64 y55.2.2]]) (H2 := [.box [.undef, .mp 1, .int .i64 y90.1, .int .i64 y90.2], mQ x3 x4 x5 x6, .box [.nl, .nl, .nl, .nl, .bool false, .int .i64 0, .int .i64 0, .int .i64 0, .int .i64 0, .int .i64 0, .int .i64 0, .int .i64 0, .int .i64 0, .int .i64 0, .bool false, .int .i32 0, .int .i64 0], .box [.undef, .undef, .undef, .undef, .bool false, .int .i64 y47.2.1, .int .i64 y47.2.2.1, .int .i64 y47.2.2.2.1, .int .i64 y47.2.2.2.2.1, .int .i64 y47.2.2.2.2.2.1, .int .i64 y47.2.2.2.2.2.2.1, .int .i64 y47.2.2.2.2.2.2.2.1, .int .i64 y47.2.2.2.2.2.2.2.2.1, .int .i64 y47.2.2.2.2.2.2.2.2.2.1, .bool y47.2.2.2.2.2.2.2.2.2.2, .int .i32 y55.2.1, .int .i64 y55.2.2]]) [0, 1, 3] (by kernel_rfl) (by kernel_rfl) (by kernel_rfl) (by kernel_rfl) (by decide) (by kernel_rfl) (by kernel_rfl) (by kernel_rfl) (.cons (Le.refl _) (.cons (Le.refl _) (.cons (Le.refl _) .nil))) (pat_reader__pad_s2_ok1 hy87) (by kernel_rfl) (by kernel_rfl) ?_
          obtain rfl := oi h92
          have h94 := joinX_inr h81
          refine PP.cutXr ?_
          obtain rfl := Sum.inr.inj (Option.some.inj h94)
          exact K.panV (H0 := [.box [lsv (encI .i32) 1 x0, .mp 1, .int .i64 x1, .int .i64 x2], mQ x3 x4 x5 x6]) (H' := [.box [.undef, .mp 1, .int .i64 y90.1, .int .i64 y90.2], mQ x3 x4 x5 x6]) [0, 1] hFH hFD (by kernel_rfl) (by kernel_rfl) (by decide) (by kernel_rfl) (by kernel_rfl) (by kernel_rfl)
        ·refine kF ?_
         refine kK ?_
         obtain rfl := oi h85
         exact kXl [0, 2, 3, 5]
       ·subst hs
        have h82 := joinX_inl h81
        obtain ⟨y111, hy112, h113⟩ := bindS h82
        refine K.cutX (by kernel_rfl) (fun (s110 : Int × (List St33) × (List St33) × Bool) => ([(0, .ptr 0 0), (2, .ptr 2 0), (3, .ptr 3 0)], [.box [lsv (encI .i32) 1 x0, .mp 1, .int .i64 s110.1, .int .i64 x2], mQ x3 x4 x5 x6, .box [.nl, .nl, .nl, .nl, .bool false, .int .i64 0, .int .i64 0, .int .i64 0, .int .i64 0, .int .i64 0, .int .i64 0, .int .i64 0, .int .i64 0, .int .i64 0, .bool false, .int .i32 0, .int .i64 0], .box [lsv encSt33 2 y11.1, lsv encSt33 2 y62.1, lsv encSt33 2 s110.2.1, lsv encSt33 2 s110.2.2.1, .bool s110.2.2.2, .int .i64 y47.2.1, .int .i64 y47.2.2.1, .int .i64 y47.2.2.2.1, .int .i64 y47.2.2.2.2.1, .int .i64 y47.2.2.2.2.2.1, .int .i64 y47.2.2.2.2.2.2.1, .int .i64 y47.2.2.2.2.2.2.2.1, .int .i64 y47.2.2.2.2.2.2.2.2.1, .int .i64 y47.2.2.2.2.2.2.2.2.2.1, .bool y47.2.2.2.2.2.2.2.2.2.2, .int .i32 s78.2.1, .int .i64 s78.2.2]])) y111 ?_ (fun s110 hs => ?_)
        ·refine kSR ?_
         refine kC 1 [0,2,3,5,44] ?_
         obtain ⟨y115, hy116, h117⟩ := bindS hy112
         refine kCG (some 45) (args := [.ptr 0 0, .int .i32 59]) (v := .bool y115.1) (H2 := [.box [lsv (encI .i32) 1 x0, .mp 1, .int .i64 y115.2, .int .i64 x2], mQ x3 x4 x5 x6, .box [.nl, .nl, .nl, .nl, .bool false, .int .i64 0, .int .i64 0, .int .i64 0, .int .i64 0, .int .i64 0, .int .i64 0, .int .i64 0, .int .i64 0, .int .i64 0, .bool false, .int .i32 0, .int .i64 0], .box [lsv encSt33 2 y11.1, lsv encSt33 2 y62.1, .nl, .nl, .bool false, .int .i64 y47.2.1, .int .i64 y47.2.2.1, .int .i64 y47.2.2.2.1, .int .i64 y47.2.2.2.2.1, .int .i64 y47.2.2.2.2.2.1, .int .i64 y47.2.2.2.2.2.2.1, .int .i64 y47.2.2.2.2.2.2.2.1, .int .i64 y47.2.2.2.2.2.2.2.2.1, .int .i64 y47.2.2.2.2.2.2.2.2.2.1, .bool y47.2.2.2.2.2.2.2.2.2.2, .int .i32 s78.2.1, .int .i64 s78.2.2]]) [0, 1] (pat_reader__eat_s0_ok hy116) ?_
         refine kEN ?_
         refine kBJ 45 h117 (fun h119 => ?_) (fun h120 => ?_)
         ·refine kT ?_
          refine kR ?_
          refine kC 2 [0,2,3,46,47] ?_
          obtain ⟨y121, hy122, h123⟩ := bindS h119
          rcases y121 with y124 | y125
          ·have h126 := elimL h123
           refine kCG (some 48) (args := [.ptr 0 0, .ptr 3 0, lsv (encI .i32) 1 (cut x0 s27.1 y47.1)]) (v := .tup []) (H2 := [.box [lsv (encI .i32) 1 x0, .mp 1, .int .i64 y124.1, .int .i64 x2], mQ x3 x4 x5 x6, .box [.nl, .nl, .nl, .nl, .bool false, .int .i64 0, .int .i64 0, .int .i64 0, .int .i64 0, .int .i64 0, .int .i64 0, .int .i64 0, .int .i64 0, .int .i64 0, .bool false, .int .i32 0, .int .i64 0], .box [lsv encSt33 2 y11.1, lsv encSt33 2 y62.1, lsv encSt33 2 y124.2.1, lsv encSt33 2 y124.2.2, .bool true, .int .i64 y47.2.1, .int .i64 y47.2.2.1, .int .i64 y47.2.2.2.1, .int .i64 y47.2.2.2.2.1, .int .i64 y47.2.2.2.2.2.1, .int .i64 y47.2.2.2.2.2.2.1, .int .i64 y47.2.2.2.2.2.2.2.1, .int .i64 y47.2.2.2.2.2.2.2.2.1, .int .i64 y47.2.2.2.2.2.2.2.2.2.1, .bool y47.2.2.2.2.2.2.2.2.2.2, .int .i32 s78.2.1, .int .i64 s78.2.2]]) [0, 1, 3] (pat_reader__negative_s0_ok0 hy122) ?_
           refine kE ?_
           obtain rfl := oi h126
           exact kXl [0, 2, 3]
          ·have h127 := elimR h123
           refine RJ.callP (d := (some 48)) (f := 64) (args := [.ptr 0 0, .ptr 3 0, lsv (encI .i32) 1 (cut x0 s27.1 y47.1)]) (args0 := [.ptr 0 0, .ptr 2 0, lsv (encI .i32) 1 (cut x0 s27.1 y47.1)]) (H0 := [.box [lsv (encI .i32) 1 x0, .mp 1, .int .i64 y115.2, .int .i64 x2], mQ x3 x4 x5 x6, .box [lsv encSt33 2 y11.1, lsv encSt33 2 y62.1, .nl, .nl, .bool false, .int .i64 y47.2.1, .int .i64 y47.2.2.1, .int .i64 y47.2.2.2.1, .int .i64 y47.2.2.2.2.1, .int .i64 y47.2.2.2.2.2.1, .int .i64 y47.2.2.2.2.2.2.1, .int .i64 y47.2.2.2.2.2.2.2.1, .int .i64 y47.2.2.2.2.2.2.2.2.1, .int .i64 y47.2.2.2.2.2.2.2.2.2.1, .bool y47.2.2.2.2.2.2.2.2.2.2, .int .i32 s78.2.1, .int .i64 s78.2.2]]) (H0' := [.box [.undef, .mp 1, .int .i64 y125.1, .int .i64 y125.2], mQ x3 x4 x5 x6, .box [.undef, .undef, .undef, .undef, .bool true, .int .i64 y47.2.1, .int .i64 y47.2.2.1, .int .i64 y47.2.2.2.1, .int .i64 y47.2.2.2.2.1, .int .i64 y47.2.2.2.2.2.1, .int .i64 y47.2.2.2.2.2.2.1, .int .i64 y47.2.2.2.2.2.2.2.1, .int .i64 y47.2.2.2.2.2.2.2.2.1, .int .i64 y47.2.2.2.2.2.2.2.2.2.1, .bool y47.2.2.2.2.2.2.2.2.2.2, .int .i32 s78.2.1, .int .i64 s78.2.2]]) (H2 := [.box [.undef, .mp 1, .int .i64 y125.1, .int .i64 y125.2], mQ x3 x4 x5 x6, .box [.nl, .nl, .nl, .nl, .bool false, .int .i64 0, .int .i64 0, .int .i64 0, .int .i64 0, .int .i64 0, .int .i64 0, .int .i64 0, .int .i64 0, .int .i64 0, .bool false, .int .i32 0, .int .i64 0], .box [.undef, .undef, .undef, .undef, .bool true, .int .i64 y47.2.1, .int .i64 y47.2.2.1, .int .i64 y47.2.2.2.1, .int .i64 y47.2.2.2.2.1, .int .i64 y47.2.2.2.2.2.1, .int .i64 y47.2.2.2.2.2.2.1, .int .i64 y47.2.2.2.2.2.2.2.1, .int .i64 y47.2.2.2.2.2.2.2.2.1, .int .i64 y47.2.2.2.2.2.2.2.2.2.1, .bool y47.2.2.2.2.2.2.2.2.2.2, .int .i32 s78.2.1, .int .i64 s78.2.2]]) [0, 1, 3] (by kernel_rfl) (by kernel_rfl) (by kernel_rfl) (by kernel_rfl) (by decide) (by kernel_rfl) (by kernel_rfl) (by kernel_rfl) (.cons (Le.refl _) (.cons (Le.refl _) (.cons (Le.refl _) .nil))) (pat_reader__negative_s0_ok1 hy122) (by kernel_rfl) (by kernel_rfl) ?_
           obtain rfl := oi h127
           have h129 := joinX_inr h113
           refine PP.cutXr ?_
           obtain rfl := Sum.inr.inj (Option.some.inj h129)
           exact K.panV (H0 := [.box [lsv (encI .i32) 1 x0, .mp 1, .int .i64 x1, .int .i64 x2], mQ x3 x4 x5 x6]) (H' := [.box [.undef, .mp 1, .int .i64 y125.1, .int .i64 y125.2], mQ x3 x4 x5 x6]) [0, 1] hFH hFD (by kernel_rfl) (by kernel_rfl) (by decide) (by kernel_rfl) (by kernel_rfl) (by kernel_rfl)
         ·refine kF ?_
          refine kK ?_
          obtain rfl := oi h120
          refine PJ.wk (Wk.leBox 3 2 (cs := [lsv encSt33 2 y11.1, lsv encSt33 2 y62.1, .nl, .nl, .bool false, .int .i64 y47.2.1, .int .i64 y47.2.2.1, .int .i64 y47.2.2.2.1, .int .i64 y47.2.2.2.2.1, .int .i64 y47.2.2.2.2.2.1, .int .i64 y47.2.2.2.2.2.2.1, .int .i64 y47.2.2.2.2.2.2.2.1, .int .i64 y47.2.2.2.2.2.2.2.2.1, .int .i64 y47.2.2.2.2.2.2.2.2.2.1, .bool y47.2.2.2.2.2.2.2.2.2.2, .int .i32 s78.2.1, .int .i64 s78.2.2]) (v := .nl) (v' := lsv encSt33 2 []) (by kernel_rfl) (by kernel_rfl) (Le.nl _)) ?_
          refine PJ.wk (Wk.leBox 3 3 (cs := [lsv encSt33 2 y11.1, lsv encSt33 2 y62.1, lsv encSt33 2 ([] : List St33), .nl, .bool false, .int .i64 y47.2.1, .int .i64 y47.2.2.1, .int .i64 y47.2.2.2.1, .int .i64 y47.2.2.2.2.1, .int .i64 y47.2.2.2.2.2.1, .int .i64 y47.2.2.2.2.2.2.1, .int .i64 y47.2.2.2.2.2.2.2.1, .int .i64 y47.2.2.2.2.2.2.2.2.1, .int .i64 y47.2.2.2.2.2.2.2.2.2.1, .bool y47.2.2.2.2.2.2.2.2.2.2, .int .i32 s78.2.1, .int .i64 s78.2.2]) (v := .nl) (v' := lsv encSt33 2 []) (by kernel_rfl) (by kernel_rfl) (Le.nl _)) ?_
          exact kXl [0, 2, 3]
        ·subst hs
         have h114 := joinX_inl h113
         obtain ⟨y139, hy140, h141⟩ := bindS h114
         refine K.cutX (by kernel_rfl) (fun (s138 : Unit) => ([(2, .ptr 2 0), (3, .ptr 3 0)], [.box [lsv (encI .i32) 1 x0, .mp 1, .int .i64 s110.1, .int .i64 x2], mQ x3 x4 x5 x6, .box [.nl, .nl, .nl, .nl, .bool false, .int .i64 0, .int .i64 0, .int .i64 0, .int .i64 0, .int .i64 0, .int .i64 0, .int .i64 0, .int .i64 0, .int .i64 0, .bool false, .int .i32 0, .int .i64 0], .box [lsv encSt33 2 y11.1, lsv encSt33 2 y62.1, lsv encSt33 2 s110.2.1, lsv encSt33 2 s110.2.2.1, .bool s110.2.2.2, .int .i64 y47.2.1, .int .i64 y47.2.2.1, .int .i64 y47.2.2.2.1, .int .i64 y47.2.2.2.2.1, .int .i64 y47.2.2.2.2.2.1, .int .i64 y47.2.2.2.2.2.2.1, .int .i64 y47.2.2.2.2.2.2.2.1, .int .i64 y47.2.2.2.2.2.2.2.2.1, .int .i64 y47.2.2.2.2.2.2.2.2.2.1, .bool y47.2.2.2.2.2.2.2.2.2.2, .int .i32 s78.2.1, .int .i64 s78.2.2]])) y139 ?_ (fun s138 hs => ?_)
         ·refine kS ?_
          refine J.keep [0, 2, 3] (L2 := [(0, .ptr 0 0), (2, .ptr 2 0), (3, .ptr 3 0)]) (by kernel_rfl) ?_
          refine K.draw (by kernel_rfl) (by kernel_rfl) (by kernel_rfl) (H2 := [.box [lsv (encI .i32) 1 x0, .mp 1, .int .i64 s110.1, .int .i64 x2], mQ x3 x4 x5 x6, .box [.nl, .nl, .nl, .nl, .bool false, .int .i64 0, .int .i64 0, .int .i64 0, .int .i64 0, .int .i64 0, .int .i64 0, .int .i64 0, .int .i64 0, .int .i64 0, .bool false, .int .i32 0, .int .i64 0], .box [lsv encSt33 2 y11.1, lsv encSt33 2 y62.1, lsv encSt33 2 s110.2.1, lsv encSt33 2 s110.2.2.1, .bool s110.2.2.2, .int .i64 y47.2.1, .int .i64 y47.2.2.1, .int .i64 y47.2.2.2.1, .int .i64 y47.2.2.2.2.1, .int .i64 y47.2.2.2.2.2.1, .int .i64 y47.2.2.2.2.2.2.1, .int .i64 y47.2.2.2.2.2.2.2.1, .int .i64 y47.2.2.2.2.2.2.2.2.1, .int .i64 y47.2.2.2.2.2.2.2.2.2.1, .bool y47.2.2.2.2.2.2.2.2.2.2, .int .i32 s78.2.1, .int .i64 s78.2.2]]) (by kernel_rfl) (n := 4) (by kernel_rfl) ?_
          refine kD 10 ?_
          refine kEN ?_
          refine kBJ 58 hy140 (fun h144 => ?_) (fun h145 => ?_)
          ·refine kT ?_
           refine kR ?_
           refine kC 5 [2,3,59,63] ?_
           obtain ⟨y146, hy147, h148⟩ := bindS h144
           refine RJ.callP (d := (some 64)) (f := 65) (args := [.ptr 0 0, .int .i64 s110.1]) (args0 := [.ptr 0 0, .int .i64 s110.1]) (H0 := [.box [lsv (encI .i32) 1 x0, .mp 1, .int .i64 s110.1, .int .i64 x2], mQ x3 x4 x5 x6]) (H0' := [.box [.undef, .mp 1, .int .i64 s110.1, .int .i64 s110.1], mQ x3 x4 x5 x6]) (H2 := [.box [.undef, .mp 1, .int .i64 s110.1, .int .i64 s110.1], mQ x3 x4 x5 x6, .box [.nl, .nl, .nl, .nl, .bool false, .int .i64 0, .int .i64 0, .int .i64 0, .int .i64 0, .int .i64 0, .int .i64 0, .int .i64 0, .int .i64 0, .int .i64 0, .bool false, .int .i32 0, .int .i64 0], .box [lsv encSt33 2 y11.1, lsv encSt33 2 y62.1, lsv encSt33 2 s110.2.1, lsv encSt33 2 s110.2.2.1, .bool s110.2.2.2, .int .i64 y47.2.1, .int .i64 y47.2.2.1, .int .i64 y47.2.2.2.1, .int .i64 y47.2.2.2.2.1, .int .i64 y47.2.2.2.2.2.1, .int .i64 y47.2.2.2.2.2.2.1, .int .i64 y47.2.2.2.2.2.2.2.1, .int .i64 y47.2.2.2.2.2.2.2.2.1, .int .i64 y47.2.2.2.2.2.2.2.2.2.1, .bool y47.2.2.2.2.2.2.2.2.2.2, .int .i32 s78.2.1, .int .i64 s78.2.2]]) [0, 1] (by kernel_rfl) (by kernel_rfl) (by kernel_rfl) (by kernel_rfl) (by decide) (by kernel_rfl) (by kernel_rfl) (by kernel_rfl) (.cons (Le.refl _) (.cons (Le.refl _) .nil)) (pat_reader__fail_s0_ok0 hy147) (by kernel_rfl) (by kernel_rfl) ?_
           obtain rfl := oi h148
           have h150 := joinX_inr h141
           refine PP.cutXr ?_
           obtain rfl := Sum.inr.inj (Option.some.inj h150)
           exact K.panV (H0 := [.box [lsv (encI .i32) 1 x0, .mp 1, .int .i64 x1, .int .i64 x2], mQ x3 x4 x5 x6]) (H' := [.box [.undef, .mp 1, .int .i64 s110.1, .int .i64 s110.1], mQ x3 x4 x5 x6]) [0, 1] hFH hFD (by kernel_rfl) (by kernel_rfl) (by decide) (by kernel_rfl) (by kernel_rfl) (by kernel_rfl)
          ·refine kF ?_
           refine kK ?_
           obtain rfl := oi h145
           exact kXl [2, 3]
         ·subst hs
          have h142 := joinX_inl h141
          refine kSR ?_
          refine kC 2 [2] ?_
          refine kEN ?_
          refine kX ?_
          cases h142
      ·have h65 := elimR h61
       refine RJ.callP (d := (some 36)) (f := 61) (args := [.ptr 0 0]) (args0 := [.ptr 0 0]) (H0 := [.box [lsv (encI .i32) 1 x0, .mp 1, .int .i64 y55.1, .int .i64 x2], mQ x3 x4 x5 x6]) (H0' := [.box [.undef, .mp 1, .int .i64 y63.1, .int .i64 y63.2], mQ x3 x4 x5 x6]) (H2 := [.box [.undef, .mp 1, .int .i64 y63.1, .int .i64 y63.2], mQ x3 x4 x5 x6, .box [.nl, .nl, .nl, .nl, .bool false, .int .i64 0, .int .i64 0, .int .i64 0, .int .i64 0, .int .i64 0, .int .i64 0, .int .i64 0, .int .i64 0, .int .i64 0, .bool false, .int .i32 0, .int .i64 0], .box [lsv encSt33 2 y11.1, .nl, .nl, .nl, .bool false, .int .i64 y47.2.1, .int .i64 y47.2.2.1, .int .i64 y47.2.2.2.1, .int .i64 y47.2.2.2.2.1, .int .i64 y47.2.2.2.2.2.1, .int .i64 y47.2.2.2.2.2.2.1, .int .i64 y47.2.2.2.2.2.2.2.1, .int .i64 y47.2.2.2.2.2.2.2.2.1, .int .i64 y47.2.2.2.2.2.2.2.2.2.1, .bool y47.2.2.2.2.2.2.2.2.2.2, .int .i32 y55.2.1, .int .i64 y55.2.2]]) [0, 1] (by kernel_rfl) (by kernel_rfl) (by kernel_rfl) (by kernel_rfl) (by decide) (by kernel_rfl) (by kernel_rfl) (by kernel_rfl) (.cons (Le.refl _) .nil) (pat_reader__affix_s0_ok1 hy60) (by kernel_rfl) (by kernel_rfl) ?_
       refine PP.next ?_
       obtain rfl := Sum.inr.inj (Option.some.inj h65)
       exact K.panV (H0 := [.box [lsv (encI .i32) 1 x0, .mp 1, .int .i64 x1, .int .i64 x2], mQ x3 x4 x5 x6]) (H' := [.box [.undef, .mp 1, .int .i64 y63.1, .int .i64 y63.2], mQ x3 x4 x5 x6]) [0, 1] hFH hFD (by kernel_rfl) (by kernel_rfl) (by decide) (by kernel_rfl) (by kernel_rfl) (by kernel_rfl)
     ·have h58 := elimR h54
      refine RJ.callP (d := (some 34)) (f := 60) (args := [.ptr 0 0, .ptr 3 0, .int .i64 3]) (args0 := [.ptr 0 0, .ptr 2 0, .int .i64 3]) (H0 := [.box [lsv (encI .i32) 1 x0, .mp 1, .int .i64 y47.1, .int .i64 x2], mQ x3 x4 x5 x6, .box [lsv encSt33 2 y11.1, .nl, .nl, .nl, .bool false, .int .i64 y47.2.1, .int .i64 y47.2.2.1, .int .i64 y47.2.2.2.1, .int .i64 y47.2.2.2.2.1, .int .i64 y47.2.2.2.2.2.1, .int .i64 y47.2.2.2.2.2.2.1, .int .i64 y47.2.2.2.2.2.2.2.1, .int .i64 y47.2.2.2.2.2.2.2.2.1, .int .i64 y47.2.2.2.2.2.2.2.2.2.1, .bool y47.2.2.2.2.2.2.2.2.2.2, .int .i32 s27.2.1, .int .i64 s27.2.2]]) (H0' := [.box [.undef, .mp 1, .int .i64 y56.1, .int .i64 y56.2], mQ x3 x4 x5 x6, .box [.undef, .undef, .undef, .undef, .bool false, .int .i64 y47.2.1, .int .i64 y47.2.2.1, .int .i64 y47.2.2.2.1, .int .i64 y47.2.2.2.2.1, .int .i64 y47.2.2.2.2.2.1, .int .i64 y47.2.2.2.2.2.2.1, .int .i64 y47.2.2.2.2.2.2.2.1, .int .i64 y47.2.2.2.2.2.2.2.2.1, .int .i64 y47.2.2.2.2.2.2.2.2.2.1, .bool y47.2.2.2.2.2.2.2.2.2.2, .int .i32 s27.2.1, .int .i64 s27.2.2]]) (H2 := [.box [.undef, .mp 1, .int .i64 y56.1, .int .i64 y56.2], mQ x3 x4 x5 x6, .box [.nl, .nl, .nl, .nl, .bool false, .int .i64 0, .int .i64 0, .int .i64 0, .int .i64 0, .int .i64 0, .int .i64 0, .int .i64 0, .int .i64 0, .int .i64 0, .bool false, .int .i32 0, .int .i64 0], .box [.undef, .undef, .undef, .undef, .bool false, .int .i64 y47.2.1, .int .i64 y47.2.2.1, .int .i64 y47.2.2.2.1, .int .i64 y47.2.2.2.2.1, .int .i64 y47.2.2.2.2.2.1, .int .i64 y47.2.2.2.2.2.2.1, .int .i64 y47.2.2.2.2.2.2.2.1, .int .i64 y47.2.2.2.2.2.2.2.2.1, .int .i64 y47.2.2.2.2.2.2.2.2.2.1, .bool y47.2.2.2.2.2.2.2.2.2.2, .int .i32 s27.2.1, .int .i64 s27.2.2]]) [0, 1, 3] (by kernel_rfl) (by kernel_rfl) (by kernel_rfl) (by kernel_rfl) (by decide) (by kernel_rfl) (by kernel_rfl) (by kernel_rfl) (.cons (Le.refl _) (.cons (Le.refl _) (.cons (Le.refl _) .nil))) (pat_reader__pad_s1_ok1 hy53) (by kernel_rfl) (by kernel_rfl) ?_
      refine PP.next ?_
      obtain rfl := Sum.inr.inj (Option.some.inj h58)
      exact K.panV (H0 := [.box [lsv (encI .i32) 1 x0, .mp 1, .int .i64 x1, .int .i64 x2], mQ x3 x4 x5 x6]) (H' := [.box [.undef, .mp 1, .int .i64 y56.1, .int .i64 y56.2], mQ x3 x4 x5 x6]) [0, 1] hFH hFD (by kernel_rfl) (by kernel_rfl) (by decide) (by kernel_rfl) (by kernel_rfl) (by kernel_rfl)
    ·have h50 := elimR h46
     refine RJ.callP (d := (some 22)) (f := 62) (args := [.ptr 0 0, .ptr 3 0]) (args0 := [.ptr 0 0, .ptr 2 0]) (H0 := [.box [lsv (encI .i32) 1 x0, .mp 1, .int .i64 s27.1, .int .i64 x2], mQ x3 x4 x5 x6, .box [lsv encSt33 2 y11.1, .nl, .nl, .nl, .bool false, .int .i64 0, .int .i64 0, .int .i64 0, .int .i64 0, .int .i64 0, .int .i64 0, .int .i64 0, .int .i64 0, .int .i64 0, .bool false, .int .i32 s27.2.1, .int .i64 s27.2.2]]) (H0' := [.box [.undef, .mp 1, .int .i64 y48.1, .int .i64 y48.2.1], mQ x3 x4 x5 x6, .box [.undef, .undef, .undef, .undef, .bool false, .int .i64 y48.2.2.1, .int .i64 y48.2.2.2.1, .int .i64 y48.2.2.2.2.1, .int .i64 y48.2.2.2.2.2.1, .int .i64 y48.2.2.2.2.2.2.1, .int .i64 y48.2.2.2.2.2.2.2.1, .int .i64 y48.2.2.2.2.2.2.2.2.1, .int .i64 y48.2.2.2.2.2.2.2.2.2.1, .int .i64 y48.2.2.2.2.2.2.2.2.2.2.1, .bool y48.2.2.2.2.2.2.2.2.2.2.2, .int .i32 s27.2.1, .int .i64 s27.2.2]]) (H2 := [.box [.undef, .mp 1, .int .i64 y48.1, .int .i64 y48.2.1], mQ x3 x4 x5 x6, .box [.nl, .nl, .nl, .nl, .bool false, .int .i64 0, .int .i64 0, .int .i64 0, .int .i64 0, .int .i64 0, .int .i64 0, .int .i64 0, .int .i64 0, .int .i64 0, .bool false, .int .i32 0, .int .i64 0], .box [.undef, .undef, .undef, .undef, .bool false, .int .i64 y48.2.2.1, .int .i64 y48.2.2.2.1, .int .i64 y48.2.2.2.2.1, .int .i64 y48.2.2.2.2.2.1, .int .i64 y48.2.2.2.2.2.2.1, .int .i64 y48.2.2.2.2.2.2.2.1, .int .i64 y48.2.2.2.2.2.2.2.2.1, .int .i64 y48.2.2.2.2.2.2.2.2.2.1, .int .i64 y48.2.2.2.2.2.2.2.2.2.2.1, .bool y48.2.2.2.2.2.2.2.2.2.2.2, .int .i32 s27.2.1, .int .i64 s27.2.2]]) [0, 1, 3] (by kernel_rfl) (by kernel_rfl) (by kernel_rfl) (by kernel_rfl) (by decide) (by kernel_rfl) (by kernel_rfl) (by kernel_rfl) (.cons (Le.refl _) (.cons (Le.refl _) .nil)) (pat_reader__number_s0_ok1 hy45) (by kernel_rfl) (by kernel_rfl) ?_
     refine PP.next ?_
     obtain rfl := Sum.inr.inj (Option.some.inj h50)
     exact K.panV (H0 := [.box [lsv (encI .i32) 1 x0, .mp 1, .int .i64 x1, .int .i64 x2], mQ x3 x4 x5 x6]) (H' := [.box [.undef, .mp 1, .int .i64 y48.1, .int .i64 y48.2.1], mQ x3 x4 x5 x6]) [0, 1] hFH hFD (by kernel_rfl) (by kernel_rfl) (by decide) (by kernel_rfl) (by kernel_rfl) (by kernel_rfl)
  ·have h14 := elimR h10
   refine RJ.callP (d := (some 9)) (f := 61) (args := [.ptr 0 0]) (args0 := [.ptr 0 0]) (H0 := [.box [lsv (encI .i32) 1 x0, .mp 1, .int .i64 y4.1, .int .i64 x2], mQ x3 x4 x5 x6]) (H0' := [.box [.undef, .mp 1, .int .i64 y12.1, .int .i64 y12.2], mQ x3 x4 x5 x6]) (H2 := [.box [.undef, .mp 1, .int .i64 y12.1, .int .i64 y12.2], mQ x3 x4 x5 x6, .box [.nl, .nl, .nl, .nl, .bool false, .int .i64 0, .int .i64 0, .int .i64 0, .int .i64 0, .int .i64 0, .int .i64 0, .int .i64 0, .int .i64 0, .int .i64 0, .bool false, .int .i32 0, .int .i64 0], .box [.nl, .nl, .nl, .nl, .bool false, .int .i64 0, .int .i64 0, .int .i64 0, .int .i64 0, .int .i64 0, .int .i64 0, .int .i64 0, .int .i64 0, .int .i64 0, .bool false, .int .i32 y4.2.1, .int .i64 y4.2.2]]) [0, 1] (by kernel_rfl) (by kernel_rfl) (by kernel_rfl) (by kernel_rfl) (by decide) (by kernel_rfl) (by kernel_rfl) (by kernel_rfl) (.cons (Le.refl _) .nil) (pat_reader__affix_s0_ok1 hy9) (by kernel_rfl) (by kernel_rfl) ?_
   refine PP.next ?_
   obtain rfl := Sum.inr.inj (Option.some.inj h14)
   exact K.panV (H0 := [.box [lsv (encI .i32) 1 x0, .mp 1, .int .i64 x1, .int .i64 x2], mQ x3 x4 x5 x6]) (H' := [.box [.undef, .mp 1, .int .i64 y12.1, .int .i64 y12.2], mQ x3 x4 x5 x6]) [0, 1] hFH hFD (by kernel_rfl) (by kernel_rfl) (by decide) (by kernel_rfl) (by kernel_rfl) (by kernel_rfl)
 ·have h7 := elimR h3
  refine RJ.callP (d := (some 7)) (f := 60) (args := [.ptr 0 0, .ptr 3 0, .int .i64 1]) (args0 := [.ptr 0 0, .ptr 2 0, .int .i64 1]) (H0 := [.box [lsv (encI .i32) 1 x0, .mp 1, .int .i64 x1, .int .i64 x2], mQ x3 x4 x5 x6, .box [.nl, .nl, .nl, .nl, .bool false, .int .i64 0, .int .i64 0, .int .i64 0, .int .i64 0, .int .i64 0, .int .i64 0, .int .i64 0, .int .i64 0, .int .i64 0, .bool false, .int .i32 0, .int .i64 0]]) (H0' := [.box [.undef, .mp 1, .int .i64 y5.1, .int .i64 y5.2], mQ x3 x4 x5 x6, .box [.undef, .undef, .undef, .undef, .bool false, .int .i64 0, .int .i64 0, .int .i64 0, .int .i64 0, .int .i64 0, .int .i64 0, .int .i64 0, .int .i64 0, .int .i64 0, .bool false, .int .i32 0, .int .i64 0]]) (H2 := [.box [.undef, .mp 1, .int .i64 y5.1, .int .i64 y5.2], mQ x3 x4 x5 x6, .box [.nl, .nl, .nl, .nl, .bool false, .int .i64 0, .int .i64 0, .int .i64 0, .int .i64 0, .int .i64 0, .int .i64 0, .int .i64 0, .int .i64 0, .int .i64 0, .bool false, .int .i32 0, .int .i64 0], .box [.undef, .undef, .undef, .undef, .bool false, .int .i64 0, .int .i64 0, .int .i64 0, .int .i64 0, .int .i64 0, .int .i64 0, .int .i64 0, .int .i64 0, .int .i64 0, .bool false, .int .i32 0, .int .i64 0]]) [0, 1, 3] (by kernel_rfl) (by kernel_rfl) (by kernel_rfl) (by kernel_rfl) (by decide) (by kernel_rfl) (by kernel_rfl) (by kernel_rfl) (.cons (Le.refl _) (.cons (Le.refl _) (.cons (Le.refl _) .nil))) (pat_reader__pad_s0_ok1 hy2) (by kernel_rfl) (by kernel_rfl) ?_
  refine PP.next ?_
  obtain rfl := Sum.inr.inj (Option.some.inj h7)
  exact K.panV (H0 := [.box [lsv (encI .i32) 1 x0, .mp 1, .int .i64 x1, .int .i64 x2], mQ x3 x4 x5 x6]) (H' := [.box [.undef, .mp 1, .int .i64 y5.1, .int .i64 y5.2], mQ x3 x4 x5 x6]) [0, 1] hFH hFD (by kernel_rfl) (by kernel_rfl) (by decide) (by kernel_rfl) (by kernel_rfl) (by kernel_rfl)
def pat_read_1_s0 (x0 : List Int) (x1 : Int) (x2 : Int) (x3 : Int) (x4 : Int) (x5 : Int) (x6 : Int) (x7 : List St33) (x8 : List St33) (x9 : List St33) (x10 : List St33) (x11 : Bool) (x12 : Int) (x13 : Int) (x14 : Int) (x15 : Int) (x16 : Int) (x17 : Int) (x18 : Int) (x19 : Int) (x20 : Int) (x21 : Bool) (x22 : Int) (x23 : Int) (x24 : Int) (x25 : Bool) : Option (Unit) :=
 (some ())
theorem pat_read_1_s0_ok {x0 : List Int} {x1 : Int} {x2 : Int} {x3 : Int} {x4 : Int} {x5 : Int} {x6 : Int} {x7 : List St33} {x8 : List St33} {x9 : List St33} {x10 : List St33} {x11 : Bool} {x12 : Int} {x13 : Int} {x14 : Int} {x15 : Int} {x16 : Int} {x17 : Int} {x18 : Int} {x19 : Int} {x20 : Int} {x21 : Bool} {x22 : Int} {x23 : Int} {x24 : Int} {x25 : Bool} {r : Unit} (h : pat_read_1_s0 x0 x1 x2 x3 x4 x5 x6 x7 x8 x9 x10 x11 x12 x13 x14 x15 x16 x17 x18 x19 x20 x21 x22 x23 x24 x25 = some r) : SD Try.prog 46 false [.ptr 0 0, .ptr 3 0, .ptr 4 0, .ptr 5 0] [.box [.ptr 1 0], .box [lsv (encI .i32) 1 x0, .mp 2, .int .i64 x1, .int .i64 x2], mQ x3 x4 x5 x6, .box [lsv encSt33 2 x7, lsv encSt33 2 x8, lsv encSt33 2 x9, lsv encSt33 2 x10, .bool x11, .int .i64 x12, .int .i64 x13, .int .i64 x14, .int .i64 x15, .int .i64 x16, .int .i64 x17, .int .i64 x18, .int .i64 x19, .int .i64 x20, .bool x21, .int .i32 x22, .int .i64 x23], .box [.int .i64 x24], .box [.bool x25]] [.box [.ptr 1 0], .box [lsv (encI .i32) 1 x0, .mp 2, .int .i64 x1, .int .i64 x2], mQ x3 x4 x5 x6, .box [lsv encSt33 2 x7, lsv encSt33 2 x8, lsv encSt33 2 x9, lsv encSt33 2 x10, .bool x11, .int .i64 x12, .int .i64 x13, .int .i64 x14, .int .i64 x15, .int .i64 x16, .int .i64 x17, .int .i64 x18, .int .i64 x19, .int .i64 x20, .bool x21, .int .i32 x22, .int .i64 x23], .box [.int .i64 x24], .box [.bool x25]] := by
 refine kFnC (fn := Try.f46) false 4 5 (fun F hFn hFH hFD => ?_)
 unfold pat_read_1_s0 at h
 refine kF ?_
 refine kK ?_
 obtain rfl := oi h
 exact K.retV (H0 := [.box [.ptr 1 0], .box [lsv (encI .i32) 1 x0, .mp 2, .int .i64 x1, .int .i64 x2], mQ x3 x4 x5 x6, .box [lsv encSt33 2 x7, lsv encSt33 2 x8, lsv encSt33 2 x9, lsv encSt33 2 x10, .bool x11, .int .i64 x12, .int .i64 x13, .int .i64 x14, .int .i64 x15, .int .i64 x16, .int .i64 x17, .int .i64 x18, .int .i64 x19, .int .i64 x20, .bool x21, .int .i32 x22, .int .i64 x23], .box [.int .i64 x24], .box [.bool x25]]) [0, 1, 2, 3, 4, 5] (.inl rfl) hFn hFH hFD (by kernel_rfl) (v1 := .tup []) (by kernel_rfl) (by kernel_rfl) (by kernel_rfl) (by decide) (by kernel_rfl) (by kernel_rfl) (by kernel_rfl) (by kernel_rfl) (by kernel_rfl)
def pat_read_1_s1 (x0 : Int) (x1 : Int) (x2 : Int) (x3 : Int) (x4 : Int) (x5 : Int) (x6 : Bool) (x7 : Int) (x8 : Int) (x9 : Int) (x10 : Int) (x11 : Int) (x12 : Int) (x13 : Int) (x14 : Int) (x15 : Int) (x16 : Bool) (x17 : Int) (x18 : Int) (x19 : Int) (x20 : Bool) : Option (Unit) :=
 (some ())
theorem pat_read_1_s1_ok {x0 : Int} {x1 : Int} {x2 : Int} {x3 : Int} {x4 : Int} {x5 : Int} {x6 : Bool} {x7 : Int} {x8 : Int} {x9 : Int} {x10 : Int} {x11 : Int} {x12 : Int} {x13 : Int} {x14 : Int} {x15 : Int} {x16 : Bool} {x17 : Int} {x18 : Int} {x19 : Int} {x20 : Bool} {r : Unit} (h : pat_read_1_s1 x0 x1 x2 x3 x4 x5 x6 x7 x8 x9 x10 x11 x12 x13 x14 x15 x16 x17 x18 x19 x20 = some r) : SD Try.prog 46 true [.ptr 0 0, .ptr 3 0, .ptr 4 0, .ptr 5 0] [.box [.ptr 1 0], .box [.undef, .mp 2, .int .i64 x0, .int .i64 x1], mQ x2 x3 x4 x5, .box [.nl, .nl, .nl, .nl, .bool x6, .int .i64 x7, .int .i64 x8, .int .i64 x9, .int .i64 x10, .int .i64 x11, .int .i64 x12, .int .i64 x13, .int .i64 x14, .int .i64 x15, .bool x16, .int .i32 x17, .int .i64 x18], .box [.int .i64 x19], .box [.bool x20]] [.box [.ptr 1 0], .box [.undef, .mp 2, .int .i64 x0, .int .i64 x1], mQ x2 x3 x4 x5, .box [.nl, .nl, .nl, .nl, .bool false, .int .i64 0, .int .i64 0, .int .i64 0, .int .i64 0, .int .i64 0, .int .i64 0, .int .i64 0, .int .i64 0, .int .i64 0, .bool false, .int .i32 0, .int .i64 0], .box [.int .i64 x1], .box [.bool false]] := by
 refine kFnC (fn := Try.f46) true 4 5 (fun F hFn hFH hFD => ?_)
 unfold pat_read_1_s1 at h
 refine kT ?_
 refine kR ?_
 refine kC 8 [] ?_
 refine kE ?_
 obtain rfl := oi h
 exact K.retV (H0 := [.box [.ptr 1 0], .box [.undef, .mp 2, .int .i64 x0, .int .i64 x1], mQ x2 x3 x4 x5, .box [.nl, .nl, .nl, .nl, .bool x6, .int .i64 x7, .int .i64 x8, .int .i64 x9, .int .i64 x10, .int .i64 x11, .int .i64 x12, .int .i64 x13, .int .i64 x14, .int .i64 x15, .bool x16, .int .i32 x17, .int .i64 x18], .box [.int .i64 x19], .box [.bool x20]]) [0, 1, 2, 3, 4, 5] (.inl rfl) hFn hFH hFD (by kernel_rfl) (v1 := .tup []) (by kernel_rfl) (by kernel_rfl) (by kernel_rfl) (by decide) (by kernel_rfl) (by kernel_rfl) (by kernel_rfl) (by kernel_rfl) (by kernel_rfl)
def pat_read (x0 : List Int) : Option (St23 × Int × Bool) :=
 (Option.bind pat_signs_s0 fun y1 => (Option.bind (pat_reader__pattern_s0 x0 0 0 1 2 3 4) fun y4 => (Sum.elim (fun y7 => (Option.bind (pat_read_1_s0 x0 y7.2 0 1 2 3 4 y7.1.Pre_ y7.1.Suf_ y7.1.NPre_ y7.1.NSuf_ y7.1.Neg_ y7.1.Hash_ y7.1.MinInt_ y7.1.MinFrac_ y7.1.MaxFrac_ y7.1.G1_ y7.1.G2_ y7.1.MinSig_ y7.1.MaxSig_ y7.1.Exp_ y7.1.ExpPlus_ y7.1.Pad_ y7.1.PadAt_ 0 true) fun y11 => (some (y7.1, 0, true)))) (fun y8 => (Option.bind (pat_read_1_s1 y8.1 y8.2 1 2 3 4 false 0 0 0 0 0 0 0 0 0 false 0 0 0 false) fun y15 => (some ((⟨([] : List St33), ([] : List St33), ([] : List St33), ([] : List St33), false, 0, 0, 0, 0, 0, 0, 0, 0, 0, false, 0, 0⟩ : St23), y8.2, false)))) y4)))
theorem pat_read_ok {x0 : List Int} {r : St23 × Int × Bool} (h : pat_read x0 = some r) : SC Try.prog 32 [lsv (encI .i32) 1 x0] [] (.tup [.agg (encSt23 r.1), .int .i64 r.2.1, .bool r.2.2]) [] := by
 refine kFnD (fn := Try.f32) (fun F hFn hFH hFD hFds => ?_)
 unfold pat_read at h
 refine kSR ?_
 refine kC 3 [0,2,3,4] ?_
 refine kEN ?_
 refine kSR ?_
 refine kC 1 [2,3,4,6] ?_
 obtain ⟨y1, hy2, h3⟩ := bindS h
 refine kCG (some 7) (args := []) (v := .mp 3) (H2 := [.box [.nl, .nl, .nl, .nl, .bool false, .int .i64 0, .int .i64 0, .int .i64 0, .int .i64 0, .int .i64 0, .int .i64 0, .int .i64 0, .int .i64 0, .int .i64 0, .bool false, .int .i32 0, .int .i64 0], .box [.int .i64 0], .box [.bool false], mQ 1 2 3 4]) [] (pat_signs_s0_ok hy2) ?_
 refine kC 4 [2,3,4,5] ?_
 refine kEN ?_
 refine kSR ?_
 refine kC 1 [2,3,4,5,10] ?_
 refine RJ.defer (f := 46) (args := [.ptr 5 0, .ptr 0 0, .ptr 1 0, .ptr 2 0]) (by kernel_rfl) hFds (fun w1 K1 D1 d1 hok hgr hFD1 => ?_)
 refine kEN ?_
 refine kSR ?_
 refine kC 1 [2,3,4,11] ?_
 obtain ⟨y4, hy5, h6⟩ := bindS h3
 rcases y4 with y7 | y8
 ·have h9 := elimL h6
  refine kCG (some 12) (args := [.ptr 4 0]) (v := .agg (encSt23 y7.1)) (H2 := [.box [.nl, .nl, .nl, .nl, .bool false, .int .i64 0, .int .i64 0, .int .i64 0, .int .i64 0, .int .i64 0, .int .i64 0, .int .i64 0, .int .i64 0, .int .i64 0, .bool false, .int .i32 0, .int .i64 0], .box [.int .i64 0], .box [.bool false], mQ 1 2 3 4, .box [lsv (encI .i32) 1 x0, .mp 3, .int .i64 y7.2, .int .i64 0], .box [.ptr 4 0]]) [4, 3] (pat_reader__pattern_s0_ok0 hy5) ?_
  refine kC 3 [2,3,4] ?_
  refine kEN ?_
  refine kX ?_
  obtain ⟨y11, hy12, h13⟩ := bindS h9
  obtain rfl := oi h13
  exact PJ.retD (args := [.ptr 5 0, .ptr 0 0, .ptr 1 0, .ptr 2 0]) (args0 := [.ptr 0 0, .ptr 3 0, .ptr 4 0, .ptr 5 0]) (H0 := [.box [.ptr 1 0], .box [lsv (encI .i32) 1 x0, .mp 2, .int .i64 y7.2, .int .i64 0], mQ 1 2 3 4, .box (encSt23 y7.1), .box [.int .i64 0], .box [.bool true]]) (H0' := [.box [.ptr 1 0], .box [lsv (encI .i32) 1 x0, .mp 2, .int .i64 y7.2, .int .i64 0], mQ 1 2 3 4, .box (encSt23 y7.1), .box [.int .i64 0], .box [.bool true]]) (H2 := [.box (encSt23 y7.1), .box [.int .i64 0], .box [.bool true], mQ 1 2 3 4, .box [lsv (encI .i32) 1 x0, .mp 3, .int .i64 y7.2, .int .i64 0], .box [.ptr 4 0]]) (H1 := []) (H' := []) (v := .tup [.agg (encSt23 y7.1), .int .i64 0, .bool true]) (v1 := .tup [.agg (encSt23 y7.1), .int .i64 0, .bool true]) [5, 4, 3, 0, 1, 2] [] hok hgr rfl hFn (pat_read_1_s0_ok hy12) (by kernel_rfl) (by kernel_rfl) (by kernel_rfl) (by decide) (by kernel_rfl) (by kernel_rfl) (by kernel_rfl) (by kernel_rfl) (by kernel_rfl) (by kernel_rfl) (by kernel_rfl) hFH hFD (by kernel_rfl) (by kernel_rfl) (by decide) (by kernel_rfl) (by kernel_rfl) (by kernel_rfl) (by kernel_rfl) (by kernel_rfl) (Le.refl _)
 ·have h10 := elimR h6
  refine RJ.callP (d := (some 12)) (f := 47) (args := [.ptr 4 0]) (args0 := [.ptr 0 0]) (H0 := [.box [lsv (encI .i32) 1 x0, .mp 1, .int .i64 0, .int .i64 0], mQ 1 2 3 4]) (H0' := [.box [.undef, .mp 1, .int .i64 y8.1, .int .i64 y8.2], mQ 1 2 3 4]) (H2 := [.box [.nl, .nl, .nl, .nl, .bool false, .int .i64 0, .int .i64 0, .int .i64 0, .int .i64 0, .int .i64 0, .int .i64 0, .int .i64 0, .int .i64 0, .int .i64 0, .bool false, .int .i32 0, .int .i64 0], .box [.int .i64 0], .box [.bool false], mQ 1 2 3 4, .box [.undef, .mp 3, .int .i64 y8.1, .int .i64 y8.2], .box [.ptr 4 0]]) [4, 3] (by kernel_rfl) (by kernel_rfl) (by kernel_rfl) (by kernel_rfl) (by decide) (by kernel_rfl) (by kernel_rfl) (by kernel_rfl) (.cons (Le.refl _) .nil) (pat_reader__pattern_s0_ok1 hy5) (by kernel_rfl) (by kernel_rfl) ?_
  refine PP.next ?_
  obtain ⟨y15, hy16, h17⟩ := bindS h10
  obtain rfl := oi h17
  exact PP.retD (args := [.ptr 5 0, .ptr 0 0, .ptr 1 0, .ptr 2 0]) (args0 := [.ptr 0 0, .ptr 3 0, .ptr 4 0, .ptr 5 0]) (H0 := [.box [.ptr 1 0], .box [.undef, .mp 2, .int .i64 y8.1, .int .i64 y8.2], mQ 1 2 3 4, .box [.nl, .nl, .nl, .nl, .bool false, .int .i64 0, .int .i64 0, .int .i64 0, .int .i64 0, .int .i64 0, .int .i64 0, .int .i64 0, .int .i64 0, .int .i64 0, .bool false, .int .i32 0, .int .i64 0], .box [.int .i64 0], .box [.bool false]]) (H0' := [.box [.ptr 1 0], .box [.undef, .mp 2, .int .i64 y8.1, .int .i64 y8.2], mQ 1 2 3 4, .box [.nl, .nl, .nl, .nl, .bool false, .int .i64 0, .int .i64 0, .int .i64 0, .int .i64 0, .int .i64 0, .int .i64 0, .int .i64 0, .int .i64 0, .int .i64 0, .bool false, .int .i32 0, .int .i64 0], .box [.int .i64 y8.2], .box [.bool false]]) (H2 := [.box [.nl, .nl, .nl, .nl, .bool false, .int .i64 0, .int .i64 0, .int .i64 0, .int .i64 0, .int .i64 0, .int .i64 0, .int .i64 0, .int .i64 0, .int .i64 0, .bool false, .int .i32 0, .int .i64 0], .box [.int .i64 y8.2], .box [.bool false], mQ 1 2 3 4, .box [.undef, .mp 3, .int .i64 y8.1, .int .i64 y8.2], .box [.ptr 4 0]]) (H1 := []) (H' := []) (v := .tup [.agg [.nl, .nl, .nl, .nl, .bool false, .int .i64 0, .int .i64 0, .int .i64 0, .int .i64 0, .int .i64 0, .int .i64 0, .int .i64 0, .int .i64 0, .int .i64 0, .bool false, .int .i32 0, .int .i64 0], .int .i64 y8.2, .bool false]) (v1 := .tup [.agg [.nl, .nl, .nl, .nl, .bool false, .int .i64 0, .int .i64 0, .int .i64 0, .int .i64 0, .int .i64 0, .int .i64 0, .int .i64 0, .int .i64 0, .int .i64 0, .bool false, .int .i32 0, .int .i64 0], .int .i64 y8.2, .bool false]) [5, 4, 3, 0, 1, 2] [] hok hgr rfl hFn (pat_read_1_s1_ok hy16) (by kernel_rfl) (by kernel_rfl) (by kernel_rfl) (by decide) (by kernel_rfl) (by kernel_rfl) (by kernel_rfl) (by kernel_rfl) (by kernel_rfl) (by kernel_rfl) (by kernel_rfl) hFH hFD (by kernel_rfl) (by kernel_rfl) (by decide) (by kernel_rfl) (by kernel_rfl) (by kernel_rfl) (by kernel_rfl) (by kernel_rfl) (Le.tup (.cons (Le.agg (.cons (Le.nl _) (.cons (Le.nl _) (.cons (Le.nl _) (.cons (Le.nl _) (.cons (Le.refl _) (.cons (Le.refl _) (.cons (Le.refl _) (.cons (Le.refl _) (.cons (Le.refl _) (.cons (Le.refl _) (.cons (Le.refl _) (.cons (Le.refl _) (.cons (Le.refl _) (.cons (Le.refl _) (.cons (Le.refl _) (.cons (Le.refl _) (.cons (Le.refl _) .nil)))))))))))))))))) (.cons (Le.refl _) (.cons (Le.refl _) .nil))))
def pat_Parse (x0 : List UInt8) : Option (St23 × Int × Int) :=
 (Option.bind (utf_Decode (bytesI x0)) fun y1 => (bif (decide (¬ y1.2.2 = 0)) then (some ((⟨([] : List St33), ([] : List St33), ([] : List St33), ([] : List St33), false, 0, 0, 0, 0, 0, 0, 0, 0, 0, false, 0, 0⟩ : St23), y1.2.1, y1.2.2)) else (bif (decide ((y1.1.length : Int) > 120)) then (some ((⟨([] : List St33), ([] : List St33), ([] : List St33), ([] : List St33), false, 0, 0, 0, 0, 0, 0, 0, 0, 0, false, 0, 0⟩ : St23), 0, 11)) else (Option.bind (pat_read y1.1) fun y10 => (bif (!y10.2.2) then (some ((⟨([] : List St33), ([] : List St33), ([] : List St33), ([] : List St33), false, 0, 0, 0, 0, 0, 0, 0, 0, 0, false, 0, 0⟩ : St23), y10.2.1, 2)) else (bif (decide (((maxI ((maxI ((maxI (IntKind.wrap .i64 (y10.1.Hash_ + y10.1.MinInt_)) y10.1.MaxFrac_)) y10.1.MaxSig_)) y10.1.Exp_)) > 40)) then (some ((⟨([] : List St33), ([] : List St33), ([] : List St33), ([] : List St33), false, 0, 0, 0, 0, 0, 0, 0, 0, 0, false, 0, 0⟩ : St23), 0, 11)) else (some (y10.1, 0, 0))))))))
theorem pat_Parse_ok {x0 : List UInt8} {r : St23 × Int × Int} (h : pat_Parse x0 = some r) : SC Try.prog 19 [.str x0] [] (.tup [.agg (encSt23 r.1), .int .i64 r.2.1, .int .i64 r.2.2]) [] := by
 refine kFn (fn := Try.f19) (fun F hFn hFH hFD => ?_)
 unfold pat_Parse at h
 refine kSR ?_
 refine kC 3 [0,2,3,4] ?_
 refine kEN ?_
 refine kSR ?_
 refine kC 1 [2,3,4,11] ?_
 refine RJ.rel (d := (some 12)) (ef := ⟨.lst x0.length 1 (x0.map byteSV), [], []⟩) (ef' := ⟨lsv (encI .u8) 1 (bytesI x0), [], []⟩) (c := true) (tr2 := []) (H2 := [.box [.nl, .nl, .nl, .nl, .bool false, .int .i64 0, .int .i64 0, .int .i64 0, .int .i64 0, .int .i64 0, .int .i64 0, .int .i64 0, .int .i64 0, .int .i64 0, .bool false, .int .i32 0, .int .i64 0]]) (by kernel_rfl) rfl (fun hc => N.toBytes) (by kernel_rfl) ?_
 obtain ⟨y1, hy2, h3⟩ := bindS h
 refine kA 13 (utf_Decode_ok hy2) ?_
 refine kC 7 [2,3,4,5,6,7] ?_
 refine kEN ?_
 refine kS ?_
 refine kSR ?_
 refine kC 2 [2,3,4,5,6,7,18] ?_
 refine kEN ?_
 refine kBJ 18 h3 (fun h5 => ?_) (fun h6 => ?_)
 ·refine kT ?_
  refine kSR ?_
  refine kC 6 [2,3,4,5,6] ?_
  refine kEN ?_
  refine kX ?_
  refine PJ.passRet ?_
  obtain rfl := oi h5
  refine PJ.res (v1 := .tup [.agg [.nl, .nl, .nl, .nl, .bool false, .int .i64 0, .int .i64 0, .int .i64 0, .int .i64 0, .int .i64 0, .int .i64 0, .int .i64 0, .int .i64 0, .int .i64 0, .bool false, .int .i32 0, .int .i64 0], .int .i64 y1.2.1, .int .i64 y1.2.2]) (Le.tup (.cons (Le.agg (.cons (Le.nl _) (.cons (Le.nl _) (.cons (Le.nl _) (.cons (Le.nl _) (.cons (Le.refl _) (.cons (Le.refl _) (.cons (Le.refl _) (.cons (Le.refl _) (.cons (Le.refl _) (.cons (Le.refl _) (.cons (Le.refl _) (.cons (Le.refl _) (.cons (Le.refl _) (.cons (Le.refl _) (.cons (Le.refl _) (.cons (Le.refl _) (.cons (Le.refl _) .nil)))))))))))))))))) (.cons (Le.refl _) (.cons (Le.refl _) .nil)))) ?_
  exact kZ hFn hFH hFD
 ·refine kF ?_
  refine kK ?_
  refine PJ.next ?_
  refine kS ?_
  refine kSR ?_
  refine kC 3 [2,3,4,5,6,24] ?_
  refine kEN ?_
  refine kBJ 24 h6 (fun h8 => ?_) (fun h9 => ?_)
  ·refine kT ?_
   refine kSR ?_
   refine kC 4 [2,3,4,5,6] ?_
   refine kEN ?_
   refine kX ?_
   refine PJ.passRet ?_
   obtain rfl := oi h8
   refine PJ.res (v1 := .tup [.agg [.nl, .nl, .nl, .nl, .bool false, .int .i64 0, .int .i64 0, .int .i64 0, .int .i64 0, .int .i64 0, .int .i64 0, .int .i64 0, .int .i64 0, .int .i64 0, .bool false, .int .i32 0, .int .i64 0], .int .i64 0, .int .i64 11]) (Le.tup (.cons (Le.agg (.cons (Le.nl _) (.cons (Le.nl _) (.cons (Le.nl _) (.cons (Le.nl _) (.cons (Le.refl _) (.cons (Le.refl _) (.cons (Le.refl _) (.cons (Le.refl _) (.cons (Le.refl _) (.cons (Le.refl _) (.cons (Le.refl _) (.cons (Le.refl _) (.cons (Le.refl _) (.cons (Le.refl _) (.cons (Le.refl _) (.cons (Le.refl _) (.cons (Le.refl _) .nil)))))))))))))))))) (.cons (Le.refl _) (.cons (Le.refl _) .nil)))) ?_
   exact kZ hFn hFH hFD
  ·refine kF ?_
   refine kK ?_
   refine PJ.next ?_
   refine kSR ?_
   refine kC 1 [2,3,4,6,27] ?_
   obtain ⟨y10, hy11, h12⟩ := bindS h9
   refine kA 28 (pat_read_ok hy11) ?_
   refine kC 8 [2,3,4,6,8,9] ?_
   refine kEN ?_
   refine kS ?_
   refine kSR ?_
   refine kC 2 [2,3,4,6,8,33] ?_
   refine kEN ?_
   refine kBJ 33 h12 (fun h14 => ?_) (fun h15 => ?_)
   ·refine kT ?_
    refine kSR ?_
    refine kC 5 [2,3,4,8] ?_
    refine kEN ?_
    refine kX ?_
    refine PJ.passRet ?_
    obtain rfl := oi h14
    refine PJ.res (v1 := .tup [.agg [.nl, .nl, .nl, .nl, .bool false, .int .i64 0, .int .i64 0, .int .i64 0, .int .i64 0, .int .i64 0, .int .i64 0, .int .i64 0, .int .i64 0, .int .i64 0, .bool false, .int .i32 0, .int .i64 0], .int .i64 y10.2.1, .int .i64 2]) (Le.tup (.cons (Le.agg (.cons (Le.nl _) (.cons (Le.nl _) (.cons (Le.nl _) (.cons (Le.nl _) (.cons (Le.refl _) (.cons (Le.refl _) (.cons (Le.refl _) (.cons (Le.refl _) (.cons (Le.refl _) (.cons (Le.refl _) (.cons (Le.refl _) (.cons (Le.refl _) (.cons (Le.refl _) (.cons (Le.refl _) (.cons (Le.refl _) (.cons (Le.refl _) (.cons (Le.refl _) .nil)))))))))))))))))) (.cons (Le.refl _) (.cons (Le.refl _) .nil)))) ?_
    exact kZ hFn hFH hFD
   ·refine kF ?_
    refine kK ?_
    refine PJ.next ?_
    refine kS ?_
    refine kSR ?_
    refine kC 13 [2,3,4,8,48] ?_
    refine kEN ?_
    refine kBJ 48 h15 (fun h17 => ?_) (fun h18 => ?_)
    ·refine kT ?_
     refine kSR ?_
     refine kC 4 [2,3,4,8] ?_
     refine kEN ?_
     refine kX ?_
     refine PJ.passRet ?_
     obtain rfl := oi h17
     refine PJ.res (v1 := .tup [.agg [.nl, .nl, .nl, .nl, .bool false, .int .i64 0, .int .i64 0, .int .i64 0, .int .i64 0, .int .i64 0, .int .i64 0, .int .i64 0, .int .i64 0, .int .i64 0, .bool false, .int .i32 0, .int .i64 0], .int .i64 0, .int .i64 11]) (Le.tup (.cons (Le.agg (.cons (Le.nl _) (.cons (Le.nl _) (.cons (Le.nl _) (.cons (Le.nl _) (.cons (Le.refl _) (.cons (Le.refl _) (.cons (Le.refl _) (.cons (Le.refl _) (.cons (Le.refl _) (.cons (Le.refl _) (.cons (Le.refl _) (.cons (Le.refl _) (.cons (Le.refl _) (.cons (Le.refl _) (.cons (Le.refl _) (.cons (Le.refl _) (.cons (Le.refl _) .nil)))))))))))))))))) (.cons (Le.refl _) (.cons (Le.refl _) .nil)))) ?_
     exact kZ hFn hFH hFD
    ·refine kF ?_
     refine kK ?_
     refine PJ.next ?_
     refine kSR ?_
     refine kC 4 [2,3,4] ?_
     refine kEN ?_
     refine kX ?_
     obtain rfl := oi h18
     exact kZ hFn hFH hFD
def pat_some (x0 : Int) : Option (Int) :=
 (some (maxI 0 (minI x0 121)))
theorem pat_some_ok {x0 : Int} {r : Int} (h : pat_some x0 = some r) : SC Try.prog 42 [.int .i64 x0] [] (.int .i64 r) [] := by
 refine kFn (fn := Try.f42) (fun F hFn hFH hFD => ?_)
 unfold pat_some at h
 refine kSR ?_
 refine kC 1 [0,2] ?_
 refine kEN ?_
 refine kSR ?_
 refine kC 4 [2] ?_
 refine kEN ?_
 refine kX ?_
 obtain rfl := oi h
 exact kZ hFn hFH hFD
def pat_repeat (x0 : List Int) (x1 : Int) (x2 : Int) : Option (List Int) :=
 (Option.bind (Option.bind (pat_some x2) fun y30 => (loopN (fun (s33 : Int × (List Int)) => (bif (decide (s33.1 < y30)) then (bif room (s33.2.length + ([x1] : List Int).length) then (some (.inl ((IntKind.wrap .i64 (s33.1 + 1)), (s33.2 ++ ([x1] : List Int))))) else none) else (some (.inr s33.2)))) big (0, x0))) fun (s25 : (List Int)) => (some s25))
theorem pat_repeat_ok_0o {x0 : List Int} {x1 : Int} {x2 : Int} {r : List Int} (h : pat_repeat x0 x1 x2 = some r) : SC Try.prog 41 [.vc 0, .int .i32 x1, .int .i64 x2] [vecL (encI .i32) 1 21 x0] (.vc 1) [.gone, vecL (encI .i32) 1 21 r] := by
 refine kFn (fn := Try.f41) (fun F hFn hFH hFD => ?_)
 unfold pat_repeat at h
 refine J.wk (Wk.move 0 (n := x0.length) (k := 1) (e := 21) (cs := x0.flatMap (encI .i32)) (by kernel_rfl)) ?_
 refine kSR ?_
 refine kC 1 [0,1,2,6] ?_
 refine kEN ?_
 obtain ⟨s25, hy27, h29⟩ := bindS h
 refine K.cutN (by kernel_rfl) (fun (s25 : (List Int)) => ([(0, .vc 1), (6, .nl)], [.gone, vecL (encI .i32) 1 21 s25])) s25 ?_ ?_
 ·refine kSR ?_
  refine kC 1 [0,1,6,7] ?_
  obtain ⟨y30, hy31, h32⟩ := bindS hy27
  refine kA 8 (pat_some_ok hy31) ?_
  refine kC 1 [0,1,6,8,9] ?_
  refine kEN ?_
  refine kb 0 ?_
  refine kl (fun (s33 : Int × (List Int)) => ([(0, .vc 1), (1, .int .i32 x1), (6, .nl), (8, .int .i64 y30), (9, .int .i64 s33.1)], [.gone, vecL (encI .i32) 1 21 s33.2])) h32 [0, 1, 6, 8, 9] (fun s33 x47 hs46 => ?_)
  refine kSR ?_
  refine kC 1 [0,1,6,8,9,10] ?_
  refine kEN ?_
  refine kS ?_
  refine kBJ 10 hs46 (fun h49 => ?_) (fun h50 => ?_)
  ·refine kT ?_
   refine kK ?_
   refine PJ.next ?_
   refine kS ?_
   refine kb 1 ?_
   refine kR ?_
   refine kC 3 [0,1,6,8,9,11,13] ?_
   obtain ⟨hm, h51⟩ := asrt h49
   refine RJ.rel (d := (some 14)) (ef := ⟨.vc 3, [1, 2], [(1, .gone), (3, .vec (s33.2.length + ([x1] : List Int).length) 1 21 (s33.2.flatMap (encI .i32) ++ ([x1] : List Int).flatMap (encI .i32)))]⟩) (ef' := ⟨.vc 3, [1, 2], [(1, .gone), (3, vecL (encI .i32) 1 21 (s33.2 ++ ([x1] : List Int)))]⟩) (c := room (s33.2.length + ([x1] : List Int).length)) (tr2 := []) (H2 := [.gone, .gone, vecL (encI .i32) 1 21 ([x1] : List Int), vecL (encI .i32) 1 21 (s33.2 ++ ([x1] : List Int))]) (by kernel_rfl) hm (fun hc => N.app) (by kernel_rfl) ?_
   refine kC 1 [0,1,6,8,9] ?_
   refine kE ?_
   refine PJ.blockNormal ?_
   refine PJ.next ?_
   refine kR ?_
   refine kC 2 [0,1,6,8,9] ?_
   refine kE ?_
   obtain rfl := oi h51
   refine kW (L2 := [(0, .vc 1), (1, .int .i32 x1), (6, .nl), (8, .int .i64 y30), (9, .int .i64 (IntKind.wrap .i64 (s33.1 + 1)))]) (H2 := [.gone, vecL (encI .i32) 1 21 (s33.2 ++ ([x1] : List Int))]) hFH hFD [0, 3] ?_
   exact kLN [0, 1, 6, 8, 9]
  ·refine kF ?_
   refine K.exit 0 (by kernel_rfl) ?_
   refine PJ.passExit ?_
   obtain rfl := oi h50
   refine PJ.loopOut (fun e => nomatch e) (fun he53 => ?_)
   have h52 := congrArg some he53
   refine PJ.blockOut ?_
   obtain rfl := oi h52
   exact kN [0, 6]
 ·refine kSR ?_
  refine kC 2 [6] ?_
  refine kEN ?_
  refine kX ?_
  obtain rfl := oi h29
  exact kV [0, 1] hFn hFH hFD (v1 := .vc 1)
def pat_grouped (x0 : St23) (x1 : Int) : Option (Bool) :=
 (Option.bind (Option.bind (bif (decide (x0.G1_ < 1)) then (some true) else (some (decide (x1 < x0.G1_)))) fun (s24 : Bool) => (bif s24 then (some (.inr false)) else (some (.inl ())))) (joinX fun (s16 : Unit) => (Option.bind (bif (decide (x1 = x0.G1_)) then (some true) else (bif (decide (x0.G2_ > 0)) then (bif nz x0.G2_ then (some ((decide (((Int.tmod (IntKind.wrap .i64 (x1 - x0.G1_)) x0.G2_)) = 0)))) else none) else (some false))) fun (s43 : Bool) => (some s43))))
theorem pat_grouped_ok {x0 : St23} {x1 : Int} {r : Bool} (h : pat_grouped x0 x1 = some r) : SC Try.prog 56 [.agg (encSt23 x0), .int .i64 x1] [] (.bool r) [] := by
 refine kFn (fn := Try.f56) (fun F hFn hFH hFD => ?_)
 unfold pat_grouped at h
 refine kSR ?_
 refine kC 2 [1,2,4] ?_
 refine kEN ?_
 obtain ⟨y17, hy18, h19⟩ := bindS h
 refine K.cutX (by kernel_rfl) (fun (s16 : Unit) => ([(1, .int .i64 x1), (2, .ptr 0 0), (4, .bool false)], [.box (encSt23 x0)])) y17 ?_ (fun s16 hs => ?_)
 ·obtain ⟨s24, hy26, h28⟩ := bindS hy18
  refine K.cutN (by kernel_rfl) (fun (s24 : Bool) => ([(1, .int .i64 x1), (2, .ptr 0 0), (4, .bool false), (13, .bool s24)], [.box (encSt23 x0)])) s24 ?_ ?_
  ·refine kR ?_
   refine kC 4 [1,2,4,8] ?_
   refine kB 8 hy26 (fun h30 => ?_) (fun h31 => ?_)
   ·refine kC 5 [1,2,4,13] ?_
    refine kE ?_
    obtain rfl := oi h30
    exact kN [1, 2, 4, 13]
   ·refine kC 5 [1,2,4,13] ?_
    refine kE ?_
    obtain rfl := oi h31
    exact kN [1, 2, 4, 13]
  ·refine kBJ 13 h28 (fun h33 => ?_) (fun h34 => ?_)
   ·refine kT ?_
    refine kSR ?_
    refine kC 1 [1,2,4] ?_
    refine kEN ?_
    refine kX ?_
    obtain rfl := oi h33
    have h35 := joinX_inr h19
    refine PJ.cutXr (fun e => nomatch e) ?_
    obtain rfl := oi h35
    exact kZ hFn hFH hFD
   ·refine kF ?_
    refine kK ?_
    obtain rfl := oi h34
    exact kXl [1, 2, 4]
 ·subst hs
  have h20 := joinX_inl h19
  obtain ⟨s43, hy45, h47⟩ := bindS h20
  refine K.cutN (by kernel_rfl) (fun (s43 : Bool) => ([(4, .bool s43)], [])) s43 ?_ ?_
  ·refine kR ?_
   refine kC 5 [1,2,4,18] ?_
   refine kB 18 hy45 (fun h49 => ?_) (fun h50 => ?_)
   ·refine kC 15 [4] ?_
    refine kE ?_
    obtain rfl := oi h49
    refine kW (L2 := [(4, .bool true)]) (H2 := []) hFH hFD [] ?_
    exact kN [4]
   ·refine kC 4 [1,2,4,18,22] ?_
    refine kB 22 h50 (fun h52 => ?_) (fun h53 => ?_)
    ·refine kC 6 [4,18,22,26,28] ?_
     obtain ⟨hm, h54⟩ := asrt h52
     refine kQ 29 (.int .i64 (Int.tmod (IntKind.wrap .i64 (x1 - x0.G1_)) x0.G2_)) [] (tr2 := []) hm ?_
     refine kC 4 [4] ?_
     refine kE ?_
     obtain rfl := oi h54
     refine kW (L2 := [(4, .bool ((decide (((Int.tmod (IntKind.wrap .i64 (x1 - x0.G1_)) x0.G2_)) = 0))))]) (H2 := []) hFH hFD [] ?_
     exact kN [4]
    ·refine kC 11 [4] ?_
     refine kE ?_
     obtain rfl := oi h53
     refine kW (L2 := [(4, .bool false)]) (H2 := []) hFH hFD [] ?_
     exact kN [4]
  ·refine kX ?_
   obtain rfl := oi h47
   exact kZ hFn hFH hFD
def pat_places (x0 : List Int) (x1 : St23) : Option (List Int) :=
 (Option.bind (pat_some x1.Hash_) fun y1 => (Option.bind (pat_some x1.MinInt_) fun y4 => (Option.bind (loopN (fun (s357 : Int × (List Int)) => (bif (decide (s357.1 < (IntKind.wrap .i64 (y1 + y4)))) then (Option.bind (Option.bind (Option.bind (bif (decide (s357.1 > 0)) then (Option.bind (pat_grouped x1 ((IntKind.wrap .i64 ((IntKind.wrap .i64 (y1 + y4)) - s357.1)))) fun y688 => (some y688)) else (some false)) fun (s680 : Bool) => (bif s680 then (bif room (s357.2.length + ([44] : List Int).length) then (some (s357.2 ++ ([44] : List Int))) else none) else (some s357.2))) fun (s669 : (List Int)) => (bif (decide (s357.1 < y1)) then (bif room (s669.length + ([35] : List Int).length) then (some (s669 ++ ([35] : List Int))) else none) else (bif room (s669.length + ([48] : List Int).length) then (some (s669 ++ ([48] : List Int))) else none))) fun (s643 : (List Int)) => (some (.inl ((IntKind.wrap .i64 (s357.1 + 1)), s643)))) else (some (.inr s357.2)))) big (0, x0)) fun (s352 : (List Int)) => (some s352))))
theorem pat_places_ok_0o {x0 : List Int} {x1 : St23} {r : List Int} (h : pat_places x0 x1 = some r) : SC Try.prog 43 [.vc 0, .agg (encSt23 x1)] [vecL (encI .i32) 1 21 x0] (.vc 1) [.gone, vecL (encI .i32) 1 21 r] := by
 refine kFn (fn := Try.f43) (fun F hFn hFH hFD => ?_)
 unfold pat_places at h
 refine J.wk (Wk.move 0 (n := x0.length) (k := 1) (e := 21) (cs := x0.flatMap (encI .i32)) (by kernel_rfl)) ?_
 refine kSR ?_
 refine kC 2 [0,3,4] ?_
 refine kEN ?_
 refine kSR ?_
 refine kC 2 [0,3,4,9] ?_
 obtain ⟨y1, hy2, h3⟩ := bindS h
 refine kA 10 (pat_some_ok hy2) ?_
 refine kC 1 [0,3,4,5] ?_
 refine kEN ?_
 refine kSR ?_
 refine kC 3 [0,3,4,5,11,13] ?_
 obtain ⟨y4, hy5, h6⟩ := bindS h3
 refine kA 14 (pat_some_ok hy5) ?_
 refine kC 2 [0,3,4,5,6] ?_
 refine kEN ?_
 obtain ⟨s352, hy354, h356⟩ := bindS h6
 refine K.cutN (by kernel_rfl) (fun (s352 : (List Int)) => ([(0, .vc 1), (4, .nl)], [.gone, vecL (encI .i32) 1 21 s352])) s352 ?_ ?_
 ·refine kSR ?_
  refine kC 2 [0,3,4,5,6,16,17] ?_
  refine kEN ?_
  refine kb 0 ?_
  refine kl (fun (s357 : Int × (List Int)) => ([(0, .vc 1), (3, .ptr 2 0), (4, .nl), (5, .int .i64 y1), (6, .int .i64 (IntKind.wrap .i64 (y1 + y4))), (16, .int .i64 (IntKind.wrap .i64 (y1 + y4))), (17, .int .i64 s357.1)], [.gone, vecL (encI .i32) 1 21 s357.2, .box (encSt23 x1)])) hy354 [0, 3, 4, 5, 6, 16, 17] (fun s357 x587 hs586 => ?_)
  refine kSR ?_
  refine kC 1 [0,3,4,5,6,16,17,18] ?_
  refine kEN ?_
  refine kS ?_
  refine kBJ 18 hs586 (fun h589 => ?_) (fun h590 => ?_)
  ·refine kT ?_
   refine kK ?_
   refine PJ.next ?_
   obtain ⟨s643, hy645, h647⟩ := bindS h589
   refine K.cutN (by kernel_rfl) (fun (s643 : (List Int)) => ([(0, .vc 1), (3, .ptr 2 0), (4, .nl), (5, .int .i64 y1), (6, .int .i64 (IntKind.wrap .i64 (y1 + y4))), (16, .int .i64 (IntKind.wrap .i64 (y1 + y4))), (17, .int .i64 s357.1)], [.gone, vecL (encI .i32) 1 21 s643, .box (encSt23 x1)])) s643 ?_ ?_
   ·refine kb 1 ?_
    refine kSR ?_
    refine kC 2 [0,3,4,5,6,7,16,17] ?_
    refine kEN ?_
    obtain ⟨s669, hy671, h673⟩ := bindS hy645
    refine K.cutN (by kernel_rfl) (fun (s669 : (List Int)) => ([(0, .vc 1), (3, .ptr 2 0), (4, .nl), (5, .int .i64 y1), (6, .int .i64 (IntKind.wrap .i64 (y1 + y4))), (7, .int .i64 s357.1), (16, .int .i64 (IntKind.wrap .i64 (y1 + y4))), (17, .int .i64 s357.1)], [.gone, vecL (encI .i32) 1 21 s669, .box (encSt23 x1)])) s669 ?_ ?_
    ·obtain ⟨s680, hy682, h684⟩ := bindS hy671
     refine K.cutN (by kernel_rfl) (fun (s680 : Bool) => ([(0, .vc 1), (3, .ptr 2 0), (4, .nl), (5, .int .i64 y1), (6, .int .i64 (IntKind.wrap .i64 (y1 + y4))), (7, .int .i64 s357.1), (16, .int .i64 (IntKind.wrap .i64 (y1 + y4))), (17, .int .i64 s357.1), (28, .bool s680)], [.gone, vecL (encI .i32) 1 21 s357.2, .box (encSt23 x1)])) s680 ?_ ?_
     ·refine kR ?_
      refine kC 3 [0,3,4,5,6,7,16,17,22] ?_
      refine kB 22 hy682 (fun h686 => ?_) (fun h687 => ?_)
      ·refine kC 4 [0,3,4,5,6,7,16,17,22,23,26] ?_
       obtain ⟨y688, hy689, h690⟩ := bindS h686
       refine kA 27 (pat_grouped_ok hy689) ?_
       refine kC 1 [0,3,4,5,6,7,16,17,28] ?_
       refine kE ?_
       obtain rfl := oi h690
       exact kN [0, 3, 4, 5, 6, 7, 16, 17, 28]
      ·refine kC 6 [0,3,4,5,6,7,16,17,28] ?_
       refine kE ?_
       obtain rfl := oi h687
       exact kN [0, 3, 4, 5, 6, 7, 16, 17, 28]
     ·refine kBJ 28 h684 (fun h692 => ?_) (fun h693 => ?_)
      ·refine kT ?_
       refine kR ?_
       refine kC 2 [0,3,4,5,6,7,16,17,29,30] ?_
       obtain ⟨hm, h694⟩ := asrt h692
       refine RJ.rel (d := (some 31)) (ef := ⟨.vc 4, [1, 3], [(1, .gone), (4, .vec (s357.2.length + ([44] : List Int).length) 1 21 (s357.2.flatMap (encI .i32) ++ ([44] : List Int).flatMap (encI .i32)))]⟩) (ef' := ⟨.vc 4, [1, 3], [(1, .gone), (4, vecL (encI .i32) 1 21 (s357.2 ++ ([44] : List Int)))]⟩) (c := room (s357.2.length + ([44] : List Int).length)) (tr2 := []) (H2 := [.gone, .gone, .box (encSt23 x1), vecL (encI .i32) 1 21 ([44] : List Int), vecL (encI .i32) 1 21 (s357.2 ++ ([44] : List Int))]) (by kernel_rfl) hm (fun hc => N.app) (by kernel_rfl) ?_
       refine kC 1 [0,3,4,5,6,7,16,17] ?_
       refine kE ?_
       obtain rfl := oi h694
       refine kW (L2 := [(0, .vc 1), (3, .ptr 2 0), (4, .nl), (5, .int .i64 y1), (6, .int .i64 (IntKind.wrap .i64 (y1 + y4))), (7, .int .i64 s357.1), (16, .int .i64 (IntKind.wrap .i64 (y1 + y4))), (17, .int .i64 s357.1)]) (H2 := [.gone, vecL (encI .i32) 1 21 (s357.2 ++ ([44] : List Int)), .box (encSt23 x1)]) hFH hFD [0, 4, 2] ?_
       exact kN [0, 3, 4, 5, 6, 7, 16, 17]
      ·refine kF ?_
       refine kK ?_
       obtain rfl := oi h693
       exact kN [0, 3, 4, 5, 6, 7, 16, 17]
    ·refine kSR ?_
     refine kC 3 [0,3,4,5,6,16,17,34] ?_
     refine kEN ?_
     refine kBJ 34 h673 (fun h696 => ?_) (fun h697 => ?_)
     ·refine kT ?_
      refine kR ?_
      refine kC 2 [0,3,4,5,6,16,17,35,36] ?_
      obtain ⟨hm, h698⟩ := asrt h696
      refine RJ.rel (d := (some 37)) (ef := ⟨.vc 4, [1, 3], [(1, .gone), (4, .vec (s669.length + ([35] : List Int).length) 1 21 (s669.flatMap (encI .i32) ++ ([35] : List Int).flatMap (encI .i32)))]⟩) (ef' := ⟨.vc 4, [1, 3], [(1, .gone), (4, vecL (encI .i32) 1 21 (s669 ++ ([35] : List Int)))]⟩) (c := room (s669.length + ([35] : List Int).length)) (tr2 := []) (H2 := [.gone, .gone, .box (encSt23 x1), vecL (encI .i32) 1 21 ([35] : List Int), vecL (encI .i32) 1 21 (s669 ++ ([35] : List Int))]) (by kernel_rfl) hm (fun hc => N.app) (by kernel_rfl) ?_
      refine kC 1 [0,3,4,5,6,16,17] ?_
      refine kE ?_
      refine PJ.blockNormal ?_
      obtain rfl := oi h698
      refine kW (L2 := [(0, .vc 1), (3, .ptr 2 0), (4, .nl), (5, .int .i64 y1), (6, .int .i64 (IntKind.wrap .i64 (y1 + y4))), (16, .int .i64 (IntKind.wrap .i64 (y1 + y4))), (17, .int .i64 s357.1)]) (H2 := [.gone, vecL (encI .i32) 1 21 (s669 ++ ([35] : List Int)), .box (encSt23 x1)]) hFH hFD [0, 4, 2] ?_
      exact kN [0, 3, 4, 5, 6, 16, 17]
     ·refine kF ?_
      refine kR ?_
      refine kC 2 [0,3,4,5,6,16,17,38,39] ?_
      obtain ⟨hm, h699⟩ := asrt h697
      refine RJ.rel (d := (some 40)) (ef := ⟨.vc 4, [1, 3], [(1, .gone), (4, .vec (s669.length + ([48] : List Int).length) 1 21 (s669.flatMap (encI .i32) ++ ([48] : List Int).flatMap (encI .i32)))]⟩) (ef' := ⟨.vc 4, [1, 3], [(1, .gone), (4, vecL (encI .i32) 1 21 (s669 ++ ([48] : List Int)))]⟩) (c := room (s669.length + ([48] : List Int).length)) (tr2 := []) (H2 := [.gone, .gone, .box (encSt23 x1), vecL (encI .i32) 1 21 ([48] : List Int), vecL (encI .i32) 1 21 (s669 ++ ([48] : List Int))]) (by kernel_rfl) hm (fun hc => N.app) (by kernel_rfl) ?_
      refine kC 1 [0,3,4,5,6,16,17] ?_
      refine kE ?_
      refine PJ.blockNormal ?_
      obtain rfl := oi h699
      refine kW (L2 := [(0, .vc 1), (3, .ptr 2 0), (4, .nl), (5, .int .i64 y1), (6, .int .i64 (IntKind.wrap .i64 (y1 + y4))), (16, .int .i64 (IntKind.wrap .i64 (y1 + y4))), (17, .int .i64 s357.1)]) (H2 := [.gone, vecL (encI .i32) 1 21 (s669 ++ ([48] : List Int)), .box (encSt23 x1)]) hFH hFD [0, 4, 2] ?_
      exact kN [0, 3, 4, 5, 6, 16, 17]
   ·refine kR ?_
    refine kC 2 [0,3,4,5,6,16,17] ?_
    refine kE ?_
    obtain rfl := oi h647
    exact kLN [0, 3, 4, 5, 6, 16, 17]
  ·refine kF ?_
   refine K.exit 0 (by kernel_rfl) ?_
   refine PJ.passExit ?_
   obtain rfl := oi h590
   refine PJ.loopOut (fun e => nomatch e) (fun he701 => ?_)
   have h700 := congrArg some he701
   refine PJ.blockOut ?_
   obtain rfl := oi h700
   refine kW (L2 := [(0, .vc 1), (4, .nl)]) (H2 := [.gone, vecL (encI .i32) 1 21 s357.2]) hFH hFD [0, 1] ?_
   exact kN [0, 4]
 ·refine kSR ?_
  refine kC 2 [4] ?_
  refine kEN ?_
  refine kX ?_
  obtain rfl := oi h356
  exact kV [0, 1] hFn hFH hFD (v1 := .vc 1)
def pat_number (x0 : St23) : Option (List Int) :=
 (Option.bind (Option.bind (bif (decide (x0.MinSig_ > 0)) then (some true) else (some (decide (x0.MaxSig_ > 0)))) fun (s48 : Bool) => (bif s48 then (Option.bind (pat_repeat ([] : List Int) 64 x0.MinSig_) fun y59 => (Option.bind (pat_some x0.MinSig_) fun y62 => (Option.bind (pat_repeat y59 35 (IntKind.wrap .i64 (x0.MaxSig_ - y62))) fun y65 => (some y65)))) else (Option.bind (pat_places ([] : List Int) x0) fun y68 => (bif (decide (¬ x0.MaxFrac_ = 0)) then (bif room (y68.length + ([46] : List Int).length) then (Option.bind (pat_repeat (y68 ++ ([46] : List Int)) 48 x0.MinFrac_) fun y75 => (Option.bind (pat_some x0.MinFrac_) fun y78 => (Option.bind (pat_repeat y75 35 (IntKind.wrap .i64 (x0.MaxFrac_ - y78))) fun y81 => (some y81)))) else none) else (some y68))))) fun (s40 : (List Int)) => (Option.bind (bif (decide (¬ x0.Exp_ = 0)) then (bif room (s40.length + ([69] : List Int).length) then (Option.bind (bif x0.ExpPlus_ then (bif room ((s40 ++ ([69] : List Int)).length + ([43] : List Int).length) then (some (((s40 ++ ([69] : List Int)) ++ ([43] : List Int)))) else none) else (some (s40 ++ ([69] : List Int)))) fun (s117 : (List Int)) => (Option.bind (pat_repeat s117 48 x0.Exp_) fun y126 => (some y126))) else none) else (some s40)) fun (s104 : (List Int)) => (some s104)))
theorem pat_number_ok {x0 : St23} {r : List Int} (h : pat_number x0 = some r) : SC Try.prog 29 [.agg (encSt23 x0)] [] (lsv (encI .i32) 1 r) [] := by
 refine kFn (fn := Try.f29) (fun F hFn hFH hFD => ?_)
 unfold pat_number at h
 refine kSR ?_
 refine kC 2 [1,2] ?_
 refine kEN ?_
 refine kSR ?_
 refine kC 1 [1,2,3] ?_
 refine kEN ?_
 obtain ⟨s40, hy42, h44⟩ := bindS h
 refine K.cutN (by kernel_rfl) (fun (s40 : (List Int)) => ([(1, .ptr 0 0), (2, .nl), (3, .vc 1)], [.box (encSt23 x0), vecL (encI .i32) 1 21 s40])) s40 ?_ ?_
 ·obtain ⟨s48, hy50, h52⟩ := bindS hy42
  refine K.cutN (by kernel_rfl) (fun (s48 : Bool) => ([(1, .ptr 0 0), (2, .nl), (3, .nl), (11, .bool s48)], [.box (encSt23 x0)])) s48 ?_ ?_
  ·refine kR ?_
   refine kC 4 [1,2,3,7] ?_
   refine kB 7 hy50 (fun h54 => ?_) (fun h55 => ?_)
   ·refine kC 4 [1,2,3,11] ?_
    refine kE ?_
    obtain rfl := oi h54
    exact kN [1, 2, 3, 11]
   ·refine kC 4 [1,2,3,11] ?_
    refine kE ?_
    obtain rfl := oi h55
    exact kN [1, 2, 3, 11]
  ·refine kBJ 11 h52 (fun h57 => ?_) (fun h58 => ?_)
   ·refine kT ?_
    refine kSR ?_
    refine kC 3 [1,2,3,12,14] ?_
    obtain ⟨y59, hy60, h61⟩ := bindS h57
    refine RJ.wk (Wk.viv 12 1 21 (by kernel_rfl)) ?_
    refine kCG (some 15) (args := [.vc 1, .int .i32 64, .int .i64 x0.MinSig_]) (v := .vc 2) (H2 := [.box (encSt23 x0), .gone, vecL (encI .i32) 1 21 y59]) [1] (pat_repeat_ok_0o hy60) ?_
    refine kC 1 [1,2,3] ?_
    refine kEN ?_
    refine J.keep [1, 2, 3] (L2 := [(1, .ptr 0 0), (2, .nl), (3, .vc 2)]) (by kernel_rfl) ?_
    refine K.draw (by kernel_rfl) (by kernel_rfl) (by kernel_rfl) (H2 := [.box (encSt23 x0), .gone, vecL (encI .i32) 1 21 y59, .res, .res]) (by kernel_rfl) (n := 3) (by kernel_rfl) ?_
    refine kD 5 ?_
    obtain ⟨y62, hy63, h64⟩ := bindS h61
    refine RJ.call0 (d := (some 21)) (f := 42) (args := [.int .i64 x0.MinSig_]) (v := .int .i64 y62) (tr2 := [([], []), ([], []), ([0, 1], []), ([], []), ([0, 1], []), ([], [6, 7])]) (by kernel_rfl) (by kernel_rfl) (.cons (Le.refl _) .nil) (pat_some_ok hy63) (by kernel_rfl) ?_
    refine kD 1 ?_
    obtain ⟨y65, hy66, h67⟩ := bindS h64
    refine RJ.callX (d := (some 23)) (f := 41) (args := [.vc 2, .int .i32 35, .int .i64 (IntKind.wrap .i64 (x0.MaxSig_ - y62))]) (args0 := [.vc 0, .int .i32 35, .int .i64 (IntKind.wrap .i64 (x0.MaxSig_ - y62))]) (v0 := .vc 1) (v := .vc 4) (tr2 := [([], []), ([], []), ([0, 1], []), ([], []), ([0, 1], []), ([], [6, 7]), ([], []), ([4, 5], [4, 5, 8, 9, 8, 9])]) (H0 := [vecL (encI .i32) 1 21 y59]) (H0' := [.gone, vecL (encI .i32) 1 21 y65]) (H2 := [.box (encSt23 x0), .gone, .gone, .res, vecL (encI .i32) 1 21 y65]) 4 [2] (by kernel_rfl) (by kernel_rfl) (by kernel_rfl) (by kernel_rfl) (by kernel_rfl) (by kernel_rfl) (by decide) (by kernel_rfl) (by kernel_rfl) (by kernel_rfl) (.cons (Le.refl _) (.cons (Le.refl _) (.cons (Le.refl _) .nil))) (pat_repeat_ok_0o hy66) (by kernel_rfl) (by kernel_rfl) (by kernel_rfl) ?_
    refine kD 1 ?_
    refine kE ?_
    obtain rfl := oi h67
    refine kW (L2 := [(1, .ptr 0 0), (2, .nl), (3, .vc 1)]) (H2 := [.box (encSt23 x0), vecL (encI .i32) 1 21 y65]) hFH hFD [0, 4] ?_
    exact kN [1, 2, 3]
   ·refine kF ?_
    refine kSR ?_
    refine kC 2 [1,2,3,24,25] ?_
    obtain ⟨y68, hy69, h70⟩ := bindS h58
    refine RJ.wk (Wk.viv 24 1 21 (by kernel_rfl)) ?_
    refine kCG (some 26) (args := [.vc 1, .agg (encSt23 x0)]) (v := .vc 2) (H2 := [.box (encSt23 x0), .gone, vecL (encI .i32) 1 21 y68]) [1] (pat_places_ok_0o hy69) ?_
    refine kC 1 [1,2,3] ?_
    refine kEN ?_
    refine kSR ?_
    refine kC 3 [1,2,3,29] ?_
    refine kEN ?_
    refine kBJ 29 h70 (fun h72 => ?_) (fun h73 => ?_)
    ·refine kT ?_
     refine kSR ?_
     refine kC 2 [1,2,3,30,31] ?_
     obtain ⟨hm, h74⟩ := asrt h72
     refine RJ.rel (d := (some 32)) (ef := ⟨.vc 4, [2, 3], [(2, .gone), (4, .vec (y68.length + ([46] : List Int).length) 1 21 (y68.flatMap (encI .i32) ++ ([46] : List Int).flatMap (encI .i32)))]⟩) (ef' := ⟨.vc 4, [2, 3], [(2, .gone), (4, vecL (encI .i32) 1 21 (y68 ++ ([46] : List Int)))]⟩) (c := room (y68.length + ([46] : List Int).length)) (tr2 := []) (H2 := [.box (encSt23 x0), .gone, .gone, vecL (encI .i32) 1 21 ([46] : List Int), vecL (encI .i32) 1 21 (y68 ++ ([46] : List Int))]) (by kernel_rfl) hm (fun hc => N.app) (by kernel_rfl) ?_
     refine kC 1 [1,2,3] ?_
     refine kEN ?_
     refine kSR ?_
     refine kC 3 [1,2,3,33,35] ?_
     obtain ⟨y75, hy76, h77⟩ := bindS h74
     refine kCG (some 36) (args := [.vc 4, .int .i32 48, .int .i64 x0.MinFrac_]) (v := .vc 5) (H2 := [.box (encSt23 x0), .gone, .gone, vecL (encI .i32) 1 21 ([46] : List Int), .gone, vecL (encI .i32) 1 21 y75]) [4] (pat_repeat_ok_0o hy76) ?_
     refine kC 1 [1,2,3] ?_
     refine kEN ?_
     refine J.keep [1, 2, 3] (L2 := [(1, .ptr 0 0), (2, .nl), (3, .vc 5)]) (by kernel_rfl) ?_
     refine K.draw (by kernel_rfl) (by kernel_rfl) (by kernel_rfl) (H2 := [.box (encSt23 x0), .gone, .gone, vecL (encI .i32) 1 21 ([46] : List Int), .gone, vecL (encI .i32) 1 21 y75, .res, .res]) (by kernel_rfl) (n := 6) (by kernel_rfl) ?_
     refine kD 5 ?_
     obtain ⟨y78, hy79, h80⟩ := bindS h77
     refine RJ.call0 (d := (some 42)) (f := 42) (args := [.int .i64 x0.MinFrac_]) (v := .int .i64 y78) (tr2 := [([], []), ([], []), ([0, 1], []), ([], []), ([0, 1], []), ([], [12, 13])]) (by kernel_rfl) (by kernel_rfl) (.cons (Le.refl _) .nil) (pat_some_ok hy79) (by kernel_rfl) ?_
     refine kD 1 ?_
     obtain ⟨y81, hy82, h83⟩ := bindS h80
     refine RJ.callX (d := (some 44)) (f := 41) (args := [.vc 5, .int .i32 35, .int .i64 (IntKind.wrap .i64 (x0.MaxFrac_ - y78))]) (args0 := [.vc 0, .int .i32 35, .int .i64 (IntKind.wrap .i64 (x0.MaxFrac_ - y78))]) (v0 := .vc 1) (v := .vc 7) (tr2 := [([], []), ([], []), ([0, 1], []), ([], []), ([0, 1], []), ([], [12, 13]), ([], []), ([10, 11], [10, 11, 14, 15, 14, 15])]) (H0 := [vecL (encI .i32) 1 21 y75]) (H0' := [.gone, vecL (encI .i32) 1 21 y81]) (H2 := [.box (encSt23 x0), .gone, .gone, vecL (encI .i32) 1 21 ([46] : List Int), .gone, .gone, .res, vecL (encI .i32) 1 21 y81]) 7 [5] (by kernel_rfl) (by kernel_rfl) (by kernel_rfl) (by kernel_rfl) (by kernel_rfl) (by kernel_rfl) (by decide) (by kernel_rfl) (by kernel_rfl) (by kernel_rfl) (.cons (Le.refl _) (.cons (Le.refl _) (.cons (Le.refl _) .nil))) (pat_repeat_ok_0o hy82) (by kernel_rfl) (by kernel_rfl) (by kernel_rfl) ?_
     refine kD 1 ?_
     refine kE ?_
     obtain rfl := oi h83
     refine kW (L2 := [(1, .ptr 0 0), (2, .nl), (3, .vc 1)]) (H2 := [.box (encSt23 x0), vecL (encI .i32) 1 21 y81]) hFH hFD [0, 7] ?_
     exact kN [1, 2, 3]
    ·refine kF ?_
     refine kK ?_
     obtain rfl := oi h73
     refine kW (L2 := [(1, .ptr 0 0), (2, .nl), (3, .vc 1)]) (H2 := [.box (encSt23 x0), vecL (encI .i32) 1 21 y68]) hFH hFD [0, 2] ?_
     exact kN [1, 2, 3]
 ·obtain ⟨s104, hy106, h108⟩ := bindS h44
  refine K.cutN (by kernel_rfl) (fun (s104 : (List Int)) => ([(2, .nl), (3, .vc 0)], [vecL (encI .i32) 1 21 s104])) s104 ?_ ?_
  ·refine kSR ?_
   refine kC 3 [1,2,3,47] ?_
   refine kEN ?_
   refine kBJ 47 hy106 (fun h110 => ?_) (fun h111 => ?_)
   ·refine kT ?_
    refine kSR ?_
    refine kC 2 [1,2,3,48,49] ?_
    obtain ⟨hm, h112⟩ := asrt h110
    refine RJ.rel (d := (some 50)) (ef := ⟨.vc 3, [1, 2], [(1, .gone), (3, .vec (s40.length + ([69] : List Int).length) 1 21 (s40.flatMap (encI .i32) ++ ([69] : List Int).flatMap (encI .i32)))]⟩) (ef' := ⟨.vc 3, [1, 2], [(1, .gone), (3, vecL (encI .i32) 1 21 (s40 ++ ([69] : List Int)))]⟩) (c := room (s40.length + ([69] : List Int).length)) (tr2 := []) (H2 := [.box (encSt23 x0), .gone, vecL (encI .i32) 1 21 ([69] : List Int), vecL (encI .i32) 1 21 (s40 ++ ([69] : List Int))]) (by kernel_rfl) hm (fun hc => N.app) (by kernel_rfl) ?_
    refine kC 1 [1,2,3] ?_
    refine kEN ?_
    obtain ⟨s117, hy119, h121⟩ := bindS h112
    refine K.cutN (by kernel_rfl) (fun (s117 : (List Int)) => ([(1, .ptr 0 0), (2, .nl), (3, .vc 1)], [.box (encSt23 x0), vecL (encI .i32) 1 21 s117])) s117 ?_ ?_
    ·refine kSR ?_
     refine kC 2 [1,2,3,52] ?_
     refine kEN ?_
     refine kBJ 52 hy119 (fun h123 => ?_) (fun h124 => ?_)
     ·refine kT ?_
      refine kR ?_
      refine kC 2 [1,2,3,53,54] ?_
      obtain ⟨hm, h125⟩ := asrt h123
      refine RJ.rel (d := (some 55)) (ef := ⟨.vc 5, [3, 4], [(3, .gone), (5, .vec ((s40 ++ ([69] : List Int)).length + ([43] : List Int).length) 1 21 ((s40 ++ ([69] : List Int)).flatMap (encI .i32) ++ ([43] : List Int).flatMap (encI .i32)))]⟩) (ef' := ⟨.vc 5, [3, 4], [(3, .gone), (5, vecL (encI .i32) 1 21 ((s40 ++ ([69] : List Int)) ++ ([43] : List Int)))]⟩) (c := room ((s40 ++ ([69] : List Int)).length + ([43] : List Int).length)) (tr2 := []) (H2 := [.box (encSt23 x0), .gone, vecL (encI .i32) 1 21 ([69] : List Int), .gone, vecL (encI .i32) 1 21 ([43] : List Int), vecL (encI .i32) 1 21 (((s40 ++ ([69] : List Int)) ++ ([43] : List Int)))]) (by kernel_rfl) hm (fun hc => N.app) (by kernel_rfl) ?_
      refine kC 1 [1,2,3] ?_
      refine kE ?_
      obtain rfl := oi h125
      refine kW (L2 := [(1, .ptr 0 0), (2, .nl), (3, .vc 1)]) (H2 := [.box (encSt23 x0), vecL (encI .i32) 1 21 (((s40 ++ ([69] : List Int)) ++ ([43] : List Int)))]) hFH hFD [0, 5] ?_
      exact kN [1, 2, 3]
     ·refine kF ?_
      refine kK ?_
      obtain rfl := oi h124
      refine kW (L2 := [(1, .ptr 0 0), (2, .nl), (3, .vc 1)]) (H2 := [.box (encSt23 x0), vecL (encI .i32) 1 21 (s40 ++ ([69] : List Int))]) hFH hFD [0, 3] ?_
      exact kN [1, 2, 3]
    ·refine kR ?_
     refine kC 3 [2,3,56,58] ?_
     obtain ⟨y126, hy127, h128⟩ := bindS h121
     refine kCG (some 59) (args := [.vc 1, .int .i32 48, .int .i64 x0.Exp_]) (v := .vc 2) (H2 := [.box (encSt23 x0), .gone, vecL (encI .i32) 1 21 y126]) [1] (pat_repeat_ok_0o hy127) ?_
     refine kC 1 [2,3] ?_
     refine kE ?_
     obtain rfl := oi h128
     refine kW (L2 := [(2, .nl), (3, .vc 0)]) (H2 := [vecL (encI .i32) 1 21 y126]) hFH hFD [2] ?_
     exact kN [2, 3]
   ·refine kF ?_
    refine kK ?_
    obtain rfl := oi h111
    refine kW (L2 := [(2, .nl), (3, .vc 0)]) (H2 := [vecL (encI .i32) 1 21 s40]) hFH hFD [1] ?_
    exact kN [2, 3]
  ·refine kSR ?_
   refine kC 2 [2] ?_
   refine kEN ?_
   refine kX ?_
   obtain rfl := oi h108
   refine PJ.wk (Wk.freeze 0 (n := s104.length) (k := 1) (e := 21) (cs := s104.flatMap (encI .i32)) (by kernel_rfl)) ?_
   exact kZ hFn hFH hFD
def pat_pad (x0 : List Int) (x1 : St23) (x2 : Int) : Option (List Int) :=
 (bif (decide (¬ x1.PadAt_ = x2)) then (some x0) else (bif room (x0.length + ([42, x1.Pad_] : List Int).length) then (some (x0 ++ ([42, x1.Pad_] : List Int))) else none))
theorem pat_pad_ok_0o {x0 : List Int} {x1 : St23} {x2 : Int} {r : List Int} (h : pat_pad x0 x1 x2 = some r) : SC Try.prog 37 [.vc 0, .agg (encSt23 x1), .int .i64 x2] [vecL (encI .i32) 1 21 x0] (.vc 1) [.gone, vecL (encI .i32) 1 21 r] := by
 refine kFn (fn := Try.f37) (fun F hFn hFH hFD => ?_)
 unfold pat_pad at h
 refine J.wk (Wk.move 0 (n := x0.length) (k := 1) (e := 21) (cs := x0.flatMap (encI .i32)) (by kernel_rfl)) ?_
 refine kSR ?_
 refine kC 2 [0,2,4,6] ?_
 refine kEN ?_
 refine kS ?_
 refine kSR ?_
 refine kC 4 [0,4,6,10] ?_
 refine kEN ?_
 refine kBJ 10 h (fun h2 => ?_) (fun h3 => ?_)
 ·refine kT ?_
  refine kSR ?_
  refine kC 2 [0,4,6] ?_
  refine kEN ?_
  refine kX ?_
  refine PJ.passRet ?_
  obtain rfl := oi h2
  exact kV [0, 1] hFn hFH hFD (v1 := .vc 1)
 ·refine kF ?_
  refine kK ?_
  refine PJ.next ?_
  refine kSR ?_
  refine kC 4 [6,12,15] ?_
  obtain ⟨hm, h4⟩ := asrt h3
  refine RJ.rel (d := (some 16)) (ef := ⟨.vc 4, [1, 3], [(1, .gone), (4, .vec (x0.length + ([42, x1.Pad_] : List Int).length) 1 21 (x0.flatMap (encI .i32) ++ ([42, x1.Pad_] : List Int).flatMap (encI .i32)))]⟩) (ef' := ⟨.vc 4, [1, 3], [(1, .gone), (4, vecL (encI .i32) 1 21 (x0 ++ ([42, x1.Pad_] : List Int)))]⟩) (c := room (x0.length + ([42, x1.Pad_] : List Int).length)) (tr2 := []) (H2 := [.gone, .gone, .box (encSt23 x1), vecL (encI .i32) 1 21 ([42, x1.Pad_] : List Int), vecL (encI .i32) 1 21 (x0 ++ ([42, x1.Pad_] : List Int))]) (by kernel_rfl) hm (fun hc => N.app) (by kernel_rfl) ?_
  refine kC 1 [6] ?_
  refine kEN ?_
  refine kX ?_
  obtain rfl := oi h4
  exact kV [0, 4] hFn hFH hFD (v1 := .vc 4)
def pat_piece (x0 : St33) : Option (List Int) :=
 (bif (decide (x0.Kind_ = 0)) then (bif (decide (x0.R_ = 39)) then (some ([x0.R_, x0.R_] : List Int)) else (some ([x0.R_] : List Int))) else (Option.bind (Option.bind pat_signs_s0 fun y32 => (Option.bind (mapRun (fun (e41 : Int × Int) => (bif (decide (e41.2 = x0.Kind_)) then (some (.inr (.inr ([e41.1] : List Int)))) else (some (.inl ())))) ([(45, 1), (43, 2), (37, 3), (164, 4)] : List (Int × Int))) (joinX fun (_ : Unit) => (some (.inl ()))))) (joinX fun (s27 : Unit) => (some ([] : List Int)))))
theorem pat_piece_ok {x0 : St33} {r : List Int} (h : pat_piece x0 = some r) : SC Try.prog 54 [.agg (encSt33 x0)] [] (lsv (encI .i32) 1 r) [] := by
 refine kFn (fn := Try.f54) (fun F hFn hFH hFD => ?_)
 unfold pat_piece at h
 refine kSR ?_
 refine kC 2 [1,2] ?_
 refine kEN ?_
 refine kS ?_
 refine kSR ?_
 refine kC 3 [1,2,7] ?_
 refine kEN ?_
 refine kBJ 7 h (fun h2 => ?_) (fun h3 => ?_)
 ·refine kT ?_
  refine kS ?_
  refine kSR ?_
  refine kC 3 [1,2,10] ?_
  refine kEN ?_
  refine kBJ 10 h2 (fun h5 => ?_) (fun h6 => ?_)
  ·refine kT ?_
   refine kSR ?_
   refine kC 6 [1,2] ?_
   refine kEN ?_
   refine kX ?_
   refine PJ.passRet ?_
   refine PJ.passRet ?_
   obtain rfl := oi h5
   refine PJ.wk (Wk.freeze 1 (n := ([x0.R_, x0.R_] : List Int).length) (k := 1) (e := 21) (cs := ([x0.R_, x0.R_] : List Int).flatMap (encI .i32)) (by kernel_rfl)) ?_
   exact kZ hFn hFH hFD
  ·refine kF ?_
   refine kK ?_
   refine PJ.next ?_
   refine kSR ?_
   refine kC 4 [1,2] ?_
   refine kEN ?_
   refine kX ?_
   refine PJ.passRet ?_
   obtain rfl := oi h6
   refine PJ.wk (Wk.freeze 1 (n := ([x0.R_] : List Int).length) (k := 1) (e := 21) (cs := ([x0.R_] : List Int).flatMap (encI .i32)) (by kernel_rfl)) ?_
   exact kZ hFn hFH hFD
 ·refine kF ?_
  refine kK ?_
  refine PJ.next ?_
  obtain ⟨y28, hy29, h30⟩ := bindS h3
  refine K.cutX (by kernel_rfl) (fun (s27 : Unit) => ([(2, .nl)], [])) y28 ?_ (fun s27 hs => ?_)
  ·refine kSR ?_
   obtain ⟨y32, hy33, h34⟩ := bindS hy29
   refine kCG (some 19) (args := []) (v := .mp 1) (H2 := [.box (encSt33 x0), mQ 1 2 3 4]) [] (pat_signs_s0_ok hy33) ?_
   refine RJ.range (d := (some 20)) (i := 1) (n := (mapL (fun k : Int => .int .i32 k) (fun k : Int => .int .i64 k) ([(45, 1), (43, 2), (37, 3), (164, 4)] : List (Int × Int))).length) (by kernel_rfl) ?_
   refine kEN ?_
   refine kb 0 ?_
   refine J.wk (Wk.sel (L2 := [(1, .ptr 0 0), (2, .nl), (20, .ptr 1 0)]) (H2 := [.box (encSt33 x0), .itr 2 ((mapL (fun k : Int => .int .i32 k) (fun k : Int => .int .i64 k) ([(45, 1), (43, 2), (37, 3), (164, 4)] : List (Int × Int))).length) ([] : List Nat), .map (mapL (fun k : Int => .int .i32 k) (fun k : Int => .int .i64 k) ([(45, 1), (43, 2), (37, 3), (164, 4)] : List (Int × Int)))]) 0 (by rw [hFH]; rfl) hFD [0, 2, 1] (by kernel_rfl) (by simp only [List.map_cons, List.map_nil, rn_mapL (ek := (fun k : Int => .int .i32 k)) (ev := (fun k : Int => .int .i64 k)) (fun _ _ => rfl) (fun _ _ => rfl)]; kernel_rfl) (by decide) (by simp only [List.all_cons, List.all_nil, refs_mapL (ek := (fun k : Int => .int .i32 k)) (ev := (fun k : Int => .int .i64 k)) (fun _ _ => rfl) (fun _ _ => rfl)]; kernel_rfl) (by kernel_rfl) (by kernel_rfl) (by kernel_rfl)) ?_
   obtain ⟨y35, hy36, h37⟩ := bindS h34
   refine K.mapLoop 20 21 22 0 1 2 (n := (mapL (fun k : Int => .int .i32 k) (fun k : Int => .int .i64 k) ([(45, 1), (43, 2), (37, 3), (164, 4)] : List (Int × Int))).length) (by kernel_rfl) (by kernel_rfl) _ _ (fun p : Int × Int => ((fun k : Int => .int .i32 k) p.1, (fun k : Int => .int .i64 k) p.2)) hy36 [1, 2, 20] (L2 := [(1, .ptr 0 0), (2, .nl), (20, .ptr 1 0)]) (by kernel_rfl) (by kernel_rfl) (by kernel_rfl) (by kernel_rfl) (by kernel_rfl) (by kernel_rfl) (fun sq => [.box (encSt33 x0), .itr 2 ((mapL (fun k : Int => .int .i32 k) (fun k : Int => .int .i64 k) ([(45, 1), (43, 2), (37, 3), (164, 4)] : List (Int × Int))).length) sq, .map (mapL (fun k : Int => .int .i32 k) (fun k : Int => .int .i64 k) ([(45, 1), (43, 2), (37, 3), (164, 4)] : List (Int × Int)))]) (by kernel_rfl) (fun _ _ => by kernel_rfl) (fun _ => by kernel_rfl) (fun _ => by kernel_rfl) rfl (fun sv42 he40 => ?_) (fun sv42 bv43 e41 x51 hb44 hx38 => ?_)
   ·subst he40
    have h39 := joinX_inl h37
    refine PJ.blockOut ?_
    obtain rfl := oi h39
    refine kW (L2 := [(2, .nl)]) (H2 := []) hFH hFD [] ?_
    exact kXl [2]
   ·refine kb 1 ?_
    refine kSR ?_
    refine RJ.entry (d := (some 23)) (i := 2) (n := (mapL (fun k : Int => .int .i32 k) (fun k : Int => .int .i64 k) ([(45, 1), (43, 2), (37, 3), (164, 4)] : List (Int × Int))).length) (b := bv43) (s := sv42) (kv := ((.int .i32 e41.1 : SV), (.int .i64 e41.2 : SV))) (by kernel_rfl) (by kernel_rfl) rfl hb44 ?_
    refine kC 4 [1,2,3,4,20] ?_
    refine kEN ?_
    refine kSR ?_
    refine kC 4 [1,2,3,20,29] ?_
    refine kEN ?_
    refine kBJ 29 hx38 (fun h46 => ?_) (fun h47 => ?_)
    ·refine kT ?_
     refine kSR ?_
     refine kC 3 [1,2,20] ?_
     refine kEN ?_
     refine kX ?_
     refine PJ.blockRet ?_
     obtain rfl := oi h46
     refine PJ.mapOut (fun e => nomatch e) (fun he50 => ?_)
     subst he50
     have h48 := joinX_inr h37
     refine PJ.blockRet ?_
     obtain rfl := oi h48
     have h49 := joinX_inr h30
     refine PJ.cutXr (fun e => nomatch e) ?_
     obtain rfl := oi h49
     refine PJ.wk (Wk.freeze 3 (n := ([e41.1] : List Int).length) (k := 1) (e := 21) (cs := ([e41.1] : List Int).flatMap (encI .i32)) (by kernel_rfl)) ?_
     exact kZ hFn hFH hFD
    ·refine kF ?_
     refine kK ?_
     refine PJ.blockNormal ?_
     obtain rfl := oi h47
     exact PJ.mapNext [1, 2, 20] (by kernel_rfl) (by kernel_rfl)
  ·subst hs
   have h31 := joinX_inl h30
   refine kSR ?_
   refine kC 1 [2] ?_
   refine kEN ?_
   refine kX ?_
   obtain rfl := oi h31
   refine PJ.res (v1 := .nl) (Le.nl _) ?_
   exact kZ hFn hFH hFD
def pat_affix (x0 : List Int) (x1 : List St33) : Option (List Int) :=
 (Option.bind (loopN (fun (s519 : Bool × Int × (List Int)) => (bif (decide (s519.2.1 < (x1.length : Int))) then (Option.bind (bif inR s519.2.1 x1.length then (Option.bind (bif (decide (((nth x1 s519.2.1).Kind_) = 0)) then (some ((decide (((nth x1 s519.2.1).R_) = 39)))) else (some false)) fun (s952 : Bool) => (Option.bind (bif s952 then (bif s519.1 then (some true) else (bif (!s952) then (bif (decide (((nth x1 s519.2.1).Kind_) = 0)) then (Option.bind (pat_special ((nth x1 s519.2.1).R_)) fun y1001 => (some y1001)) else (some false)) else (some false))) else (bif (!s952) then (bif (decide (((nth x1 s519.2.1).Kind_) = 0)) then (Option.bind (pat_special ((nth x1 s519.2.1).R_)) fun y1010 => (some y1010)) else (some false)) else (some false))) fun (s984 : Bool) => (Option.bind (bif (s984 != s519.1) then (bif room (s519.2.2.length + ([39] : List Int).length) then (some (s984, (s519.2.2 ++ ([39] : List Int)))) else none) else (some (s519.1, s519.2.2))) fun (s1017 : Bool × (List Int)) => (Option.bind (pat_piece (nth x1 s519.2.1)) fun y1026 => (bif room (s1017.2.length + y1026.length) then (some (s1017.1, (s1017.2 ++ y1026))) else none))))) else none) fun (s943 : Bool × (List Int)) => (some (.inl (s943.1, (IntKind.wrap .i64 (s519.2.1 + 1)), s943.2)))) else (some (.inr (s519.1, s519.2.2))))) big (false, 0, x0)) fun (s514 : Bool × (List Int)) => (Option.bind (bif s514.1 then (bif room (s514.2.length + ([39] : List Int).length) then (some (s514.2 ++ ([39] : List Int))) else none) else (some s514.2)) fun (s1036 : (List Int)) => (some s1036)))
theorem pat_affix_ok_0o {x0 : List Int} {x1 : List St33} {r : List Int} (h : pat_affix x0 x1 = some r) : SC Try.prog 38 [.vc 0, lsv encSt33 2 x1] [vecL (encI .i32) 1 21 x0] (.vc 1) [.gone, vecL (encI .i32) 1 21 r] := by
 refine kFn (fn := Try.f38) (fun F hFn hFH hFD => ?_)
 unfold pat_affix at h
 refine J.wk (Wk.move 0 (n := x0.length) (k := 1) (e := 21) (cs := x0.flatMap (encI .i32)) (by kernel_rfl)) ?_
 refine kSR ?_
 refine kC 1 [0,1,4] ?_
 refine kEN ?_
 refine kSR ?_
 refine kC 1 [0,1,4,5] ?_
 refine kEN ?_
 obtain ⟨s514, hy516, h518⟩ := bindS h
 refine K.cutN (by kernel_rfl) (fun (s514 : Bool × (List Int)) => ([(0, .vc 1), (4, .nl), (5, .bool s514.1)], [.gone, vecL (encI .i32) 1 21 s514.2])) s514 ?_ ?_
 ·refine kSR ?_
  refine kC 3 [0,4,5,10,11,12] ?_
  refine kEN ?_
  refine kb 0 ?_
  refine kl (fun (s519 : Bool × Int × (List Int)) => ([(0, .vc 1), (4, .nl), (5, .bool s519.1), (10, lsv encSt33 2 x1), (11, .int .i64 (x1.length : Int)), (12, .int .i64 s519.2.1)], [.gone, vecL (encI .i32) 1 21 s519.2.2])) hy516 [0, 4, 5, 10, 11, 12] (fun s519 x857 hs856 => ?_)
  refine kSR ?_
  refine kC 1 [0,4,5,10,11,12,13] ?_
  refine kEN ?_
  refine kS ?_
  refine kBJ 13 hs856 (fun h859 => ?_) (fun h860 => ?_)
  ·refine kT ?_
   refine kK ?_
   refine PJ.next ?_
   obtain ⟨s943, hy945, h947⟩ := bindS h859
   refine K.cutN (by kernel_rfl) (fun (s943 : Bool × (List Int)) => ([(0, .vc 1), (4, .nl), (5, .bool s943.1), (10, lsv encSt33 2 x1), (11, .int .i64 (x1.length : Int)), (12, .int .i64 s519.2.1)], [.gone, vecL (encI .i32) 1 21 s943.2])) s943 ?_ ?_
   ·refine kb 1 ?_
    refine kSR ?_
    obtain ⟨hm, h948⟩ := asrt hy945
    refine kI 14 encSt33_len hm ?_
    refine kC 3 [0,4,5,7,10,11,12] ?_
    refine kEN ?_
    obtain ⟨s952, hy954, h956⟩ := bindS h948
    refine K.cutN (by kernel_rfl) (fun (s952 : Bool) => ([(0, .vc 1), (4, .nl), (5, .bool s519.1), (7, .ptr 2 0), (8, .bool s952), (10, lsv encSt33 2 x1), (11, .int .i64 (x1.length : Int)), (12, .int .i64 s519.2.1)], [.gone, vecL (encI .i32) 1 21 s519.2.2, .box [.int .i64 ((nth x1 s519.2.1).Kind_), .int .i32 ((nth x1 s519.2.1).R_)]])) s952 ?_ ?_
    ·refine kR ?_
     refine kC 4 [0,4,5,7,10,11,12,19] ?_
     refine kB 19 hy954 (fun h958 => ?_) (fun h959 => ?_)
     ·refine kC 5 [0,4,5,7,8,10,11,12] ?_
      refine kE ?_
      obtain rfl := oi h958
      exact kN [0, 4, 5, 7, 8, 10, 11, 12]
     ·refine kC 5 [0,4,5,7,8,10,11,12] ?_
      refine kE ?_
      obtain rfl := oi h959
      exact kN [0, 4, 5, 7, 8, 10, 11, 12]
    ·obtain ⟨s984, hy986, h988⟩ := bindS h956
     refine K.cutN (by kernel_rfl) (fun (s984 : Bool) => ([(0, .vc 1), (4, .nl), (5, .bool s519.1), (7, .ptr 2 0), (9, .bool s984), (10, lsv encSt33 2 x1), (11, .int .i64 (x1.length : Int)), (12, .int .i64 s519.2.1)], [.gone, vecL (encI .i32) 1 21 s519.2.2, .box [.int .i64 ((nth x1 s519.2.1).Kind_), .int .i32 ((nth x1 s519.2.1).R_)]])) s984 ?_ ?_
     ·refine kR ?_
      refine kC 2 [0,4,5,7,8,10,11,12,25] ?_
      refine kB 25 hy986 (fun h990 => ?_) (fun h991 => ?_)
      ·refine kC 3 [0,4,5,7,8,10,11,12,28] ?_
       refine kB 28 h990 (fun h993 => ?_) (fun h994 => ?_)
       ·refine kC 14 [0,4,5,7,9,10,11,12] ?_
        refine kE ?_
        obtain rfl := oi h993
        exact kN [0, 4, 5, 7, 9, 10, 11, 12]
       ·refine kC 3 [0,4,5,7,10,11,12,28,31] ?_
        refine kB 31 h994 (fun h996 => ?_) (fun h997 => ?_)
        ·refine kC 5 [0,4,5,7,10,11,12,28,36] ?_
         refine kB 36 h996 (fun h999 => ?_) (fun h1000 => ?_)
         ·refine kC 2 [0,4,5,7,10,11,12,28,36,38] ?_
          obtain ⟨y1001, hy1002, h1003⟩ := bindS h999
          refine kA 39 (pat_special_ok hy1002) ?_
          refine kC 3 [0,4,5,7,9,10,11,12] ?_
          refine kE ?_
          obtain rfl := oi h1003
          exact kN [0, 4, 5, 7, 9, 10, 11, 12]
         ·refine kC 6 [0,4,5,7,9,10,11,12] ?_
          refine kE ?_
          obtain rfl := oi h1000
          exact kN [0, 4, 5, 7, 9, 10, 11, 12]
        ·refine kC 11 [0,4,5,7,9,10,11,12] ?_
         refine kE ?_
         obtain rfl := oi h997
         exact kN [0, 4, 5, 7, 9, 10, 11, 12]
      ·refine kC 6 [0,4,5,7,10,11,12,28,31] ?_
       refine kB 31 h991 (fun h1005 => ?_) (fun h1006 => ?_)
       ·refine kC 5 [0,4,5,7,10,11,12,28,36] ?_
        refine kB 36 h1005 (fun h1008 => ?_) (fun h1009 => ?_)
        ·refine kC 2 [0,4,5,7,10,11,12,28,36,38] ?_
         obtain ⟨y1010, hy1011, h1012⟩ := bindS h1008
         refine kA 39 (pat_special_ok hy1011) ?_
         refine kC 3 [0,4,5,7,9,10,11,12] ?_
         refine kE ?_
         obtain rfl := oi h1012
         exact kN [0, 4, 5, 7, 9, 10, 11, 12]
        ·refine kC 6 [0,4,5,7,9,10,11,12] ?_
         refine kE ?_
         obtain rfl := oi h1009
         exact kN [0, 4, 5, 7, 9, 10, 11, 12]
       ·refine kC 11 [0,4,5,7,9,10,11,12] ?_
        refine kE ?_
        obtain rfl := oi h1006
        exact kN [0, 4, 5, 7, 9, 10, 11, 12]
     ·obtain ⟨s1017, hy1019, h1021⟩ := bindS h988
      refine K.cutN (by kernel_rfl) (fun (s1017 : Bool × (List Int)) => ([(0, .vc 1), (4, .nl), (5, .bool s1017.1), (7, .ptr 2 0), (10, lsv encSt33 2 x1), (11, .int .i64 (x1.length : Int)), (12, .int .i64 s519.2.1)], [.gone, vecL (encI .i32) 1 21 s1017.2, .box [.int .i64 ((nth x1 s519.2.1).Kind_), .int .i32 ((nth x1 s519.2.1).R_)]])) s1017 ?_ ?_
      ·refine kSR ?_
       refine kC 3 [0,4,5,7,9,10,11,12,44] ?_
       refine kEN ?_
       refine kBJ 44 hy1019 (fun h1023 => ?_) (fun h1024 => ?_)
       ·refine kT ?_
        refine kSR ?_
        refine kC 2 [0,4,5,7,9,10,11,12,45,46] ?_
        obtain ⟨hm, h1025⟩ := asrt h1023
        refine RJ.rel (d := (some 47)) (ef := ⟨.vc 4, [1, 3], [(1, .gone), (4, .vec (s519.2.2.length + ([39] : List Int).length) 1 21 (s519.2.2.flatMap (encI .i32) ++ ([39] : List Int).flatMap (encI .i32)))]⟩) (ef' := ⟨.vc 4, [1, 3], [(1, .gone), (4, vecL (encI .i32) 1 21 (s519.2.2 ++ ([39] : List Int)))]⟩) (c := room (s519.2.2.length + ([39] : List Int).length)) (tr2 := []) (H2 := [.gone, .gone, .box [.int .i64 ((nth x1 s519.2.1).Kind_), .int .i32 ((nth x1 s519.2.1).R_)], vecL (encI .i32) 1 21 ([39] : List Int), vecL (encI .i32) 1 21 (s519.2.2 ++ ([39] : List Int))]) (by kernel_rfl) hm (fun hc => N.app) (by kernel_rfl) ?_
        refine kC 1 [0,4,5,7,9,10,11,12] ?_
        refine kEN ?_
        refine kR ?_
        refine kC 2 [0,4,5,7,10,11,12] ?_
        refine kE ?_
        obtain rfl := oi h1025
        refine kW (L2 := [(0, .vc 1), (4, .nl), (5, .bool s984), (7, .ptr 2 0), (10, lsv encSt33 2 x1), (11, .int .i64 (x1.length : Int)), (12, .int .i64 s519.2.1)]) (H2 := [.gone, vecL (encI .i32) 1 21 (s519.2.2 ++ ([39] : List Int)), .box [.int .i64 ((nth x1 s519.2.1).Kind_), .int .i32 ((nth x1 s519.2.1).R_)]]) hFH hFD [0, 4, 2] ?_
        exact kN [0, 4, 5, 7, 10, 11, 12]
       ·refine kF ?_
        refine kK ?_
        obtain rfl := oi h1024
        exact kN [0, 4, 5, 7, 10, 11, 12]
      ·refine kR ?_
       refine kC 2 [0,4,5,10,11,12,49,50] ?_
       obtain ⟨y1026, hy1027, h1028⟩ := bindS h1021
       refine kA 51 (pat_piece_ok hy1027) ?_
       obtain ⟨hm, h1029⟩ := asrt h1028
       refine RJ.rel (d := (some 52)) (ef := ⟨.vc 3, [1], [(1, .gone), (3, .vec (s1017.2.length + y1026.length) 1 21 (s1017.2.flatMap (encI .i32) ++ y1026.flatMap (encI .i32)))]⟩) (ef' := ⟨.vc 3, [1], [(1, .gone), (3, vecL (encI .i32) 1 21 (s1017.2 ++ y1026))]⟩) (c := room (s1017.2.length + y1026.length)) (tr2 := []) (H2 := [.gone, .gone, .box [.int .i64 ((nth x1 s519.2.1).Kind_), .int .i32 ((nth x1 s519.2.1).R_)], vecL (encI .i32) 1 21 (s1017.2 ++ y1026)]) (by kernel_rfl) hm (fun hc => N.app) (by kernel_rfl) ?_
       refine kC 1 [0,4,5,10,11,12] ?_
       refine kE ?_
       refine PJ.blockNormal ?_
       obtain rfl := oi h1029
       refine kW (L2 := [(0, .vc 1), (4, .nl), (5, .bool s1017.1), (10, lsv encSt33 2 x1), (11, .int .i64 (x1.length : Int)), (12, .int .i64 s519.2.1)]) (H2 := [.gone, vecL (encI .i32) 1 21 (s1017.2 ++ y1026)]) hFH hFD [0, 3] ?_
       exact kN [0, 4, 5, 10, 11, 12]
   ·refine kR ?_
    refine kC 2 [0,4,5,10,11,12] ?_
    refine kE ?_
    obtain rfl := oi h947
    exact kLN [0, 4, 5, 10, 11, 12]
  ·refine kF ?_
   refine K.exit 0 (by kernel_rfl) ?_
   refine PJ.passExit ?_
   obtain rfl := oi h860
   refine PJ.loopOut (fun e => nomatch e) (fun he1031 => ?_)
   have h1030 := congrArg some he1031
   refine PJ.blockOut ?_
   obtain rfl := oi h1030
   exact kN [0, 4, 5]
 ·obtain ⟨s1036, hy1038, h1040⟩ := bindS h518
  refine K.cutN (by kernel_rfl) (fun (s1036 : (List Int)) => ([(0, .vc 1), (4, .nl)], [.gone, vecL (encI .i32) 1 21 s1036])) s1036 ?_ ?_
  ·refine kSR ?_
   refine kC 1 [0,4,54] ?_
   refine kEN ?_
   refine kBJ 54 hy1038 (fun h1042 => ?_) (fun h1043 => ?_)
   ·refine kT ?_
    refine kR ?_
    refine kC 2 [0,4,55,56] ?_
    obtain ⟨hm, h1044⟩ := asrt h1042
    refine RJ.rel (d := (some 57)) (ef := ⟨.vc 3, [1, 2], [(1, .gone), (3, .vec (s514.2.length + ([39] : List Int).length) 1 21 (s514.2.flatMap (encI .i32) ++ ([39] : List Int).flatMap (encI .i32)))]⟩) (ef' := ⟨.vc 3, [1, 2], [(1, .gone), (3, vecL (encI .i32) 1 21 (s514.2 ++ ([39] : List Int)))]⟩) (c := room (s514.2.length + ([39] : List Int).length)) (tr2 := []) (H2 := [.gone, .gone, vecL (encI .i32) 1 21 ([39] : List Int), vecL (encI .i32) 1 21 (s514.2 ++ ([39] : List Int))]) (by kernel_rfl) hm (fun hc => N.app) (by kernel_rfl) ?_
    refine kC 1 [0,4] ?_
    refine kE ?_
    obtain rfl := oi h1044
    refine kW (L2 := [(0, .vc 1), (4, .nl)]) (H2 := [.gone, vecL (encI .i32) 1 21 (s514.2 ++ ([39] : List Int))]) hFH hFD [0, 3] ?_
    exact kN [0, 4]
   ·refine kF ?_
    refine kK ?_
    obtain rfl := oi h1043
    exact kN [0, 4]
  ·refine kSR ?_
   refine kC 2 [4] ?_
   refine kEN ?_
   refine kX ?_
   obtain rfl := oi h1040
   exact kV [0, 1] hFn hFH hFD (v1 := .vc 1)
def pat_pattern (x0 : St23) : Option (List Int) :=
 (Option.bind (pat_number x0) fun y1 => (Option.bind (pat_pad ([] : List Int) x0 1) fun y4 => (Option.bind (pat_affix y4 x0.Pre_) fun y7 => (Option.bind (pat_pad y7 x0 2) fun y10 => (bif room (y10.length + y1.length) then (Option.bind (pat_pad (y10 ++ y1) x0 3) fun y14 => (Option.bind (pat_affix y14 x0.Suf_) fun y17 => (Option.bind (pat_pad y17 x0 4) fun y20 => (Option.bind (bif x0.Neg_ then (bif room (y20.length + ([59] : List Int).length) then (Option.bind (pat_affix (y20 ++ ([59] : List Int)) x0.NPre_) fun y43 => (bif room (y43.length + y1.length) then (Option.bind (pat_affix (y43 ++ y1) x0.NSuf_) fun y47 => (some y47)) else none)) else none) else (some y20)) fun (s34 : (List Int)) => (some s34))))) else none)))))
theorem pat_pattern_ok {x0 : St23} {r : List Int} (h : pat_pattern x0 = some r) : SC Try.prog 26 [.agg (encSt23 x0)] [] (lsv (encI .i32) 1 r) [] := by
 refine kFn (fn := Try.f26) (fun F hFn hFH hFD => ?_)
 unfold pat_pattern at h
 refine kSR ?_
 refine kC 2 [1,2] ?_
 refine kEN ?_
 refine kSR ?_
 refine kC 1 [1,2,5] ?_
 obtain ⟨y1, hy2, h3⟩ := bindS h
 refine kA 6 (pat_number_ok hy2) ?_
 refine kC 1 [1,2,3] ?_
 refine kEN ?_
 refine kSR ?_
 refine kC 1 [1,2,3,7] ?_
 obtain ⟨y4, hy5, h6⟩ := bindS h3
 refine kCG (some 8) (args := [.nl, .agg (encSt23 x0), .int .i64 1]) (v := .vc 2) (H2 := [.box (encSt23 x0), .gone, vecL (encI .i32) 1 21 y4]) [] (SC.nil (args1 := []) (args2 := [.agg (encSt23 x0), .int .i64 1]) (H0 := []) (k := 1) (e := 21) (pat_pad_ok_0o hy5)) ?_
 refine kC 1 [1,2,3,4] ?_
 refine kEN ?_
 refine kSR ?_
 refine kC 3 [1,2,3,4,9,11] ?_
 obtain ⟨y7, hy8, h9⟩ := bindS h6
 refine kCG (some 12) (args := [.vc 2, lsv encSt33 2 x0.Pre_]) (v := .vc 3) (H2 := [.box (encSt23 x0), .gone, .gone, vecL (encI .i32) 1 21 y7]) [2] (pat_affix_ok_0o hy8) ?_
 refine kC 1 [1,2,3,4] ?_
 refine kEN ?_
 refine kSR ?_
 refine kC 2 [1,2,3,4,13,14] ?_
 obtain ⟨y10, hy11, h12⟩ := bindS h9
 refine kCG (some 15) (args := [.vc 3, .agg (encSt23 x0), .int .i64 2]) (v := .vc 4) (H2 := [.box (encSt23 x0), .gone, .gone, .gone, vecL (encI .i32) 1 21 y10]) [3] (pat_pad_ok_0o hy11) ?_
 refine kC 1 [1,2,3,4] ?_
 refine kEN ?_
 refine kSR ?_
 refine kC 2 [1,2,3,4,16,17] ?_
 obtain ⟨hm, h13⟩ := asrt h12
 refine RJ.rel (d := (some 18)) (ef := ⟨.vc 5, [4], [(4, .gone), (5, .vec (y10.length + y1.length) 1 21 (y10.flatMap (encI .i32) ++ y1.flatMap (encI .i32)))]⟩) (ef' := ⟨.vc 5, [4], [(4, .gone), (5, vecL (encI .i32) 1 21 (y10 ++ y1))]⟩) (c := room (y10.length + y1.length)) (tr2 := []) (H2 := [.box (encSt23 x0), .gone, .gone, .gone, .gone, vecL (encI .i32) 1 21 (y10 ++ y1)]) (by kernel_rfl) hm (fun hc => N.app) (by kernel_rfl) ?_
 refine kC 1 [1,2,3,4] ?_
 refine kEN ?_
 refine kSR ?_
 refine kC 2 [1,2,3,4,19,20] ?_
 obtain ⟨y14, hy15, h16⟩ := bindS h13
 refine kCG (some 21) (args := [.vc 5, .agg (encSt23 x0), .int .i64 3]) (v := .vc 6) (H2 := [.box (encSt23 x0), .gone, .gone, .gone, .gone, .gone, vecL (encI .i32) 1 21 y14]) [5] (pat_pad_ok_0o hy15) ?_
 refine kC 1 [1,2,3,4] ?_
 refine kEN ?_
 refine kSR ?_
 refine kC 3 [1,2,3,4,22,24] ?_
 obtain ⟨y17, hy18, h19⟩ := bindS h16
 refine kCG (some 25) (args := [.vc 6, lsv encSt33 2 x0.Suf_]) (v := .vc 7) (H2 := [.box (encSt23 x0), .gone, .gone, .gone, .gone, .gone, .gone, vecL (encI .i32) 1 21 y17]) [6] (pat_affix_ok_0o hy18) ?_
 refine kC 1 [1,2,3,4] ?_
 refine kEN ?_
 refine kSR ?_
 refine kC 2 [1,2,3,4,26,27] ?_
 obtain ⟨y20, hy21, h22⟩ := bindS h19
 refine kCG (some 28) (args := [.vc 7, .agg (encSt23 x0), .int .i64 4]) (v := .vc 8) (H2 := [.box (encSt23 x0), .gone, .gone, .gone, .gone, .gone, .gone, .gone, vecL (encI .i32) 1 21 y20]) [7] (pat_pad_ok_0o hy21) ?_
 refine RJ.seg 1 [1, 2, 3, 4] (L2 := [(1, .ptr 0 0), (2, .nl), (3, lsv (encI .i32) 1 y1), (4, .vc 8)]) (H2 := [.box (encSt23 x0), .gone, .gone, .gone, .gone, .gone, .gone, .gone, vecL (encI .i32) 1 21 y20]) (by kernel_rfl) ?_
 refine kEN ?_
 obtain ⟨s34, hy36, h38⟩ := bindS h22
 refine K.cutN (by kernel_rfl) (fun (s34 : (List Int)) => ([(2, .nl), (4, .vc 0)], [vecL (encI .i32) 1 21 s34])) s34 ?_ ?_
 ·refine kSR ?_
  refine kC 2 [1,2,3,4,30] ?_
  refine kEN ?_
  refine kBJ 30 hy36 (fun h40 => ?_) (fun h41 => ?_)
  ·refine kT ?_
   refine kS ?_
   refine J.keep [1, 2, 3, 4] (L2 := [(1, .ptr 0 0), (2, .nl), (3, lsv (encI .i32) 1 y1), (4, .vc 8)]) (by kernel_rfl) ?_
   refine K.draw (by kernel_rfl) (by kernel_rfl) (by kernel_rfl) (H2 := [.box (encSt23 x0), .gone, .gone, .gone, .gone, .gone, .gone, .gone, vecL (encI .i32) 1 21 y20, .res, .res, .res]) (by kernel_rfl) (n := 9) (by kernel_rfl) ?_
   refine kD 2 ?_
   obtain ⟨hm, h42⟩ := asrt h40
   refine RJ.rel (d := (some 33)) (ef := ⟨.vc 10, [8, 9], [(8, .gone), (10, .vec (y20.length + ([59] : List Int).length) 1 21 (y20.flatMap (encI .i32) ++ ([59] : List Int).flatMap (encI .i32)))]⟩) (ef' := ⟨.vc 10, [8, 9], [(8, .gone), (10, vecL (encI .i32) 1 21 (y20 ++ ([59] : List Int)))]⟩) (c := room (y20.length + ([59] : List Int).length)) (tr2 := [([], []), ([], [18, 19, 18, 19]), ([16, 17, 18, 19], [16, 17, 20, 21, 20, 21])]) (H2 := [.box (encSt23 x0), .gone, .gone, .gone, .gone, .gone, .gone, .gone, .gone, vecL (encI .i32) 1 21 ([59] : List Int), vecL (encI .i32) 1 21 (y20 ++ ([59] : List Int)), .res]) (by kernel_rfl) hm (fun hc => N.app) (by kernel_rfl) ?_
   refine kD 2 ?_
   obtain ⟨y43, hy44, h45⟩ := bindS h42
   refine RJ.callX (d := (some 36)) (f := 38) (args := [.vc 10, lsv encSt33 2 x0.NPre_]) (args0 := [.vc 0, lsv encSt33 2 x0.NPre_]) (v0 := .vc 1) (v := .vc 11) (tr2 := [([], []), ([], [18, 19, 18, 19]), ([16, 17, 18, 19], [16, 17, 20, 21, 20, 21]), ([], []), ([0, 1], []), ([20, 21], [20, 21, 22, 23, 22, 23])]) (H0 := [vecL (encI .i32) 1 21 (y20 ++ ([59] : List Int))]) (H0' := [.gone, vecL (encI .i32) 1 21 y43]) (H2 := [.box (encSt23 x0), .gone, .gone, .gone, .gone, .gone, .gone, .gone, .gone, vecL (encI .i32) 1 21 ([59] : List Int), .gone, vecL (encI .i32) 1 21 y43]) 11 [10] (by kernel_rfl) (by kernel_rfl) (by kernel_rfl) (by kernel_rfl) (by kernel_rfl) (by kernel_rfl) (by decide) (by kernel_rfl) (by kernel_rfl) (by kernel_rfl) (.cons (Le.refl _) (.cons (Le.refl _) .nil)) (pat_affix_ok_0o hy44) (by kernel_rfl) (by kernel_rfl) (by kernel_rfl) ?_
   refine kD 1 ?_
   refine kEN ?_
   refine J.keep [1, 2, 3, 4] (L2 := [(1, .ptr 0 0), (2, .nl), (3, lsv (encI .i32) 1 y1), (4, .vc 11)]) (by kernel_rfl) ?_
   refine K.draw (by kernel_rfl) (by kernel_rfl) (by kernel_rfl) (H2 := [.box (encSt23 x0), .gone, .gone, .gone, .gone, .gone, .gone, .gone, .gone, vecL (encI .i32) 1 21 ([59] : List Int), .gone, vecL (encI .i32) 1 21 y43, .res, .res]) (by kernel_rfl) (n := 12) (by kernel_rfl) ?_
   refine kD 2 ?_
   obtain ⟨hm, h46⟩ := asrt h45
   refine RJ.rel (d := (some 39)) (ef := ⟨.vc 12, [11], [(11, .gone), (12, .vec (y43.length + y1.length) 1 21 (y43.flatMap (encI .i32) ++ y1.flatMap (encI .i32)))]⟩) (ef' := ⟨.vc 12, [11], [(11, .gone), (12, vecL (encI .i32) 1 21 (y43 ++ y1))]⟩) (c := room (y43.length + y1.length)) (tr2 := [([], []), ([], []), ([22, 23], [22, 23, 24, 25, 24, 25])]) (H2 := [.box (encSt23 x0), .gone, .gone, .gone, .gone, .gone, .gone, .gone, .gone, vecL (encI .i32) 1 21 ([59] : List Int), .gone, .gone, vecL (encI .i32) 1 21 (y43 ++ y1), .res]) (by kernel_rfl) hm (fun hc => N.app) (by kernel_rfl) ?_
   refine kD 2 ?_
   obtain ⟨y47, hy48, h49⟩ := bindS h46
   refine RJ.callX (d := (some 42)) (f := 38) (args := [.vc 12, lsv encSt33 2 x0.NSuf_]) (args0 := [.vc 0, lsv encSt33 2 x0.NSuf_]) (v0 := .vc 1) (v := .vc 13) (tr2 := [([], []), ([], []), ([22, 23], [22, 23, 24, 25, 24, 25]), ([], []), ([0, 1], []), ([24, 25], [24, 25, 26, 27, 26, 27])]) (H0 := [vecL (encI .i32) 1 21 (y43 ++ y1)]) (H0' := [.gone, vecL (encI .i32) 1 21 y47]) (H2 := [.box (encSt23 x0), .gone, .gone, .gone, .gone, .gone, .gone, .gone, .gone, vecL (encI .i32) 1 21 ([59] : List Int), .gone, .gone, .gone, vecL (encI .i32) 1 21 y47]) 13 [12] (by kernel_rfl) (by kernel_rfl) (by kernel_rfl) (by kernel_rfl) (by kernel_rfl) (by kernel_rfl) (by decide) (by kernel_rfl) (by kernel_rfl) (by kernel_rfl) (.cons (Le.refl _) (.cons (Le.refl _) .nil)) (pat_affix_ok_0o hy48) (by kernel_rfl) (by kernel_rfl) (by kernel_rfl) ?_
   refine kD 1 ?_
   refine kE ?_
   obtain rfl := oi h49
   refine kW (L2 := [(2, .nl), (4, .vc 0)]) (H2 := [vecL (encI .i32) 1 21 y47]) hFH hFD [13] ?_
   exact kN [2, 4]
  ·refine kF ?_
   refine kK ?_
   obtain rfl := oi h41
   refine kW (L2 := [(2, .nl), (4, .vc 0)]) (H2 := [vecL (encI .i32) 1 21 y20]) hFH hFD [8] ?_
   exact kN [2, 4]
 ·refine kSR ?_
  refine kC 2 [2] ?_
  refine kEN ?_
  refine kX ?_
  obtain rfl := oi h38
  refine PJ.wk (Wk.freeze 0 (n := s34.length) (k := 1) (e := 21) (cs := s34.flatMap (encI .i32)) (by kernel_rfl)) ?_
  exact kZ hFn hFH hFD
def pat_Text (x0 : St23) : Option (List UInt8) :=
 (Option.bind (pat_pattern x0) fun y1 => (some (runesS y1)))
theorem pat_Text_ok {x0 : St23} {r : List UInt8} (h : pat_Text x0 = some r) : SC Try.prog 13 [.agg (encSt23 x0)] [] (.str r) [] := by
 refine kFn (fn := Try.f13) (fun F hFn hFH hFD => ?_)
 unfold pat_Text at h
 refine kSR ?_
 refine kC 2 [1,2] ?_
 refine kEN ?_
 refine kSR ?_
 refine kC 1 [2,3] ?_
 obtain ⟨y1, hy2, h3⟩ := bindS h
 refine kA 4 (pat_pattern_ok hy2) ?_
 refine RJ.rel (d := (some 5)) (ef := ⟨.str ((y1.flatMap (encI .i32)).flatMap Go.Sy.runeB), [], []⟩) (ef' := ⟨.str (runesS y1), [], []⟩) (c := (y1.flatMap (encI .i32)).all isRuneS) (tr2 := []) (H2 := [.box (encSt23 x0)]) (by kernel_rfl) (allRune y1) (fun hc => N.toRStr) (by kernel_rfl) ?_
 refine kC 1 [2] ?_
 refine kEN ?_
 refine kX ?_
 obtain rfl := oi h3
 exact kZ hFn hFH hFD
structure St41 where
 a0_ : Int
 a1_ : Int
 a2_ : Int
 a3_ : Int
 a4_ : Int
 a5_ : Int
 a6_ : Int
 a7_ : Int
 a8_ : Int
 a9_ : Int
 a10_ : Int
 deriving Inhabited, DecidableEq
def encSt41 (x : St41) : List SV := [.int .i64 x.a0_, .int .i64 x.a1_, .int .i64 x.a2_, .int .i64 x.a3_, .int .i64 x.a4_, .int .i64 x.a5_, .int .i64 x.a6_, .int .i64 x.a7_, .int .i64 x.a8_, .int .i64 x.a9_, .int .i64 x.a10_]
theorem encSt41_len (x : St41) : (encSt41 x).length = 11 := rfl
def pat_numbers (x0 : St23) : Option (St41) :=
 (some (⟨x0.Hash_, x0.MinInt_, x0.MinFrac_, x0.MaxFrac_, x0.G1_, x0.G2_, x0.MinSig_, x0.MaxSig_, x0.Exp_, (IntKind.wrap .i64 x0.Pad_), x0.PadAt_⟩ : St41))
theorem pat_numbers_ok {x0 : St23} {r : St41} (h : pat_numbers x0 = some r) : SC Try.prog 23 [.agg (encSt23 x0)] [] (.agg (encSt41 r)) [] := by
 refine kFn (fn := Try.f23) (fun F hFn hFH hFD => ?_)
 unfold pat_numbers at h
 refine kSR ?_
 refine kC 2 [1,2] ?_
 refine kEN ?_
 refine kSR ?_
 refine kC 25 [2] ?_
 refine kEN ?_
 refine kX ?_
 obtain rfl := oi h
 exact kZ hFn hFH hFD
def api_Tok_ (x0 : List St33) (x1 : List St33) : Option (Bool) :=
 (bif (decide (¬ (x0.length : Int) = (x1.length : Int))) then (some false) else (Option.bind (loopN (fun (s51 : Int) => (bif (decide (s51 < (x0.length : Int))) then (bif inR s51 x0.length then (bif inR s51 x1.length then (bif (!((decide (((nth x0 s51).Kind_) = ((nth x1 s51).Kind_))) && ((decide (((nth x0 s51).R_) = ((nth x1 s51).R_))) && true))) then (some (.inr (.inr false))) else (some (.inl (IntKind.wrap .i64 (s51 + 1))))) else none) else none) else (some (.inr (.inl ()))))) big 0) (joinX fun (s46 : Unit) => (some true))))
theorem api_Tok__ok {x0 : List St33} {x1 : List St33} {r : Bool} (h : api_Tok_ x0 x1 = some r) : SC Try.prog 24 [lsv encSt33 2 x0, lsv encSt33 2 x1] [] (.bool r) [] := by
 refine kFn (fn := Try.f24) (fun F hFn hFH hFD => ?_)
 unfold api_Tok_ at h
 refine kSR ?_
 refine kC 1 [0,1,4] ?_
 refine kEN ?_
 refine kS ?_
 refine kSR ?_
 refine kC 5 [0,1,4,10] ?_
 refine kEN ?_
 refine kBJ 10 h (fun h2 => ?_) (fun h3 => ?_)
 ·refine kT ?_
  refine kSR ?_
  refine kC 1 [0,1,4] ?_
  refine kEN ?_
  refine kX ?_
  refine PJ.passRet ?_
  obtain rfl := oi h2
  exact kZ hFn hFH hFD
 ·refine kF ?_
  refine kK ?_
  refine PJ.next ?_
  obtain ⟨y47, hy48, h49⟩ := bindS h3
  refine K.cutX (by kernel_rfl) (fun (s46 : Unit) => ([(4, .bool false)], [])) y47 ?_ (fun s46 hs => ?_)
  ·refine kSR ?_
   refine kC 3 [0,1,4,12,13] ?_
   refine kEN ?_
   refine kb 0 ?_
   refine kl (fun (s51 : Int) => ([(0, lsv encSt33 2 x0), (1, lsv encSt33 2 x1), (4, .bool false), (12, .int .i64 (x0.length : Int)), (13, .int .i64 s51)], [])) hy48 [0, 1, 4, 12, 13] (fun s51 x79 hs78 => ?_)
   refine kSR ?_
   refine kC 1 [0,1,4,12,13,14] ?_
   refine kEN ?_
   refine kS ?_
   refine kBJ 14 hs78 (fun h81 => ?_) (fun h82 => ?_)
   ·refine kT ?_
    refine kK ?_
    refine PJ.next ?_
    refine kS ?_
    refine kb 1 ?_
    refine kSR ?_
    refine kC 2 [0,1,4,5,12,13] ?_
    refine kEN ?_
    refine kS ?_
    refine J.keep [0, 1, 4, 5, 12, 13] (L2 := [(0, lsv encSt33 2 x0), (1, lsv encSt33 2 x1), (4, .bool false), (5, .int .i64 s51), (12, .int .i64 (x0.length : Int)), (13, .int .i64 s51)]) (by kernel_rfl) ?_
    refine K.draw (by kernel_rfl) (by kernel_rfl) (by kernel_rfl) (H2 := []) (by kernel_rfl) (n := 0) (by kernel_rfl) ?_
    refine kD 2 ?_
    obtain ⟨hm, h83⟩ := asrt h81
    refine kJ 18 (tr2 := [([], []), ([], []), ([], [])]) encSt33_len hm ?_
    refine kD 3 ?_
    obtain ⟨hm, h84⟩ := asrt h83
    refine kJ 22 (tr2 := [([], []), ([], []), ([], []), ([], []), ([], []), ([], []), ([], [])]) encSt33_len hm ?_
    refine kD 2 ?_
    refine kEN ?_
    refine kBJ 24 h84 (fun h86 => ?_) (fun h87 => ?_)
    ·refine kT ?_
     refine kSR ?_
     refine kC 1 [0,1,4,12,13] ?_
     refine kEN ?_
     refine kX ?_
     refine PJ.blockRet ?_
     refine PJ.passRet ?_
     obtain rfl := oi h86
     refine PJ.loopOut (fun e => nomatch e) (fun he90 => ?_)
     have h88 := congrArg some he90
     refine PJ.blockRet ?_
     obtain rfl := oi h88
     have h89 := joinX_inr h49
     refine PJ.cutXr (fun e => nomatch e) ?_
     obtain rfl := oi h89
     exact kZ hFn hFH hFD
    ·refine kF ?_
     refine kK ?_
     refine PJ.blockNormal ?_
     refine PJ.next ?_
     refine kR ?_
     refine kC 2 [0,1,4,12,13] ?_
     refine kE ?_
     obtain rfl := oi h87
     exact kLN [0, 1, 4, 12, 13]
   ·refine kF ?_
    refine K.exit 0 (by kernel_rfl) ?_
    refine PJ.passExit ?_
    obtain rfl := oi h82
    refine PJ.loopOut (fun e => nomatch e) (fun he92 => ?_)
    have h91 := congrArg some he92
    refine PJ.blockOut ?_
    obtain rfl := oi h91
    exact kXl [4]
  ·subst hs
   have h50 := joinX_inl h49
   refine kSR ?_
   refine kC 1 [4] ?_
   refine kEN ?_
   refine kX ?_
   obtain rfl := oi h50
   exact kZ hFn hFH hFD
def pat_Same (x0 : St23) (x1 : St23) : Option (Bool) :=
 (Option.bind (Option.bind (pat_numbers x0) fun y42 => (Option.bind (pat_numbers x1) fun y45 => (bif ((decide (y42.a0_ = y45.a0_)) && ((decide (y42.a1_ = y45.a1_)) && ((decide (y42.a2_ = y45.a2_)) && ((decide (y42.a3_ = y45.a3_)) && ((decide (y42.a4_ = y45.a4_)) && ((decide (y42.a5_ = y45.a5_)) && ((decide (y42.a6_ = y45.a6_)) && ((decide (y42.a7_ = y45.a7_)) && ((decide (y42.a8_ = y45.a8_)) && ((decide (y42.a9_ = y45.a9_)) && ((decide (y42.a10_ = y45.a10_)) && true))))))))))) then (bif (x0.Neg_ == x1.Neg_) then (bif (x0.ExpPlus_ == x1.ExpPlus_) then (Option.bind (api_Tok_ x0.Pre_ x1.Pre_) fun y57 => (bif y57 then (Option.bind (api_Tok_ x0.Suf_ x1.Suf_) fun y63 => (bif y63 then (Option.bind (api_Tok_ x0.NPre_ x1.NPre_) fun y69 => (bif y69 then (Option.bind (api_Tok_ x0.NSuf_ x1.NSuf_) fun y75 => (some y75)) else (some false))) else (some false))) else (some false))) else (some false)) else (some false)) else (some false)))) fun (s37 : Bool) => (some s37))
theorem pat_Same_ok {x0 : St23} {x1 : St23} {r : Bool} (h : pat_Same x0 x1 = some r) : SC Try.prog 11 [.agg (encSt23 x0), .agg (encSt23 x1)] [] (.bool r) [] := by
 refine kFn (fn := Try.f11) (fun F hFn hFH hFD => ?_)
 unfold pat_Same at h
 refine kSR ?_
 refine kC 3 [2,3,4] ?_
 refine kEN ?_
 obtain ⟨s37, hy39, h41⟩ := bindS h
 refine K.cutN (by kernel_rfl) (fun (s37 : Bool) => ([(4, .bool s37)], [])) s37 ?_ ?_
 ·refine J.keep [2, 3, 4] (L2 := [(2, .ptr 0 0), (3, .ptr 1 0), (4, .bool false)]) (by kernel_rfl) ?_
  refine K.draw (by kernel_rfl) (by kernel_rfl) (by kernel_rfl) (H2 := [.box (encSt23 x0), .box (encSt23 x1), .res, .res, .res, .res, .res, .res]) (by kernel_rfl) (n := 2) (by kernel_rfl) ?_
  refine kD 1 ?_
  obtain ⟨y42, hy43, h44⟩ := bindS hy39
  refine RJ.call0 (d := (some 6)) (f := 23) (args := [.agg (encSt23 x0)]) (v := .agg (encSt41 y42)) (tr2 := [([0, 1], []), ([], [4, 5])]) (by kernel_rfl) (by kernel_rfl) (.cons (Le.refl _) .nil) (pat_numbers_ok hy43) (by kernel_rfl) ?_
  refine kD 1 ?_
  obtain ⟨y45, hy46, h47⟩ := bindS h44
  refine RJ.call0 (d := (some 8)) (f := 23) (args := [.agg (encSt23 x1)]) (v := .agg (encSt41 y45)) (tr2 := [([0, 1], []), ([], [4, 5]), ([2, 3], []), ([], [6, 7])]) (by kernel_rfl) (by kernel_rfl) (.cons (Le.refl _) .nil) (pat_numbers_ok hy46) (by kernel_rfl) ?_
  refine kD 2 ?_
  refine kB 10 h47 (fun h49 => ?_) (fun h50 => ?_)
  ·refine kD 7 ?_
   refine kB 17 h49 (fun h52 => ?_) (fun h53 => ?_)
   ·refine kD 7 ?_
    refine kB 24 h52 (fun h55 => ?_) (fun h56 => ?_)
    ·refine kD 4 ?_
     obtain ⟨y57, hy58, h59⟩ := bindS h55
     refine RJ.call0 (d := (some 29)) (f := 24) (args := [lsv encSt33 2 x0.Pre_, lsv encSt33 2 x1.Pre_]) (v := .bool y57) (tr2 := [([0, 1], []), ([], [4, 5]), ([2, 3], []), ([], [6, 7]), ([], []), ([], []), ([], []), ([0, 1], []), ([], []), ([2, 3], []), ([], []), ([], []), ([], []), ([], []), ([0, 1], []), ([], []), ([2, 3], []), ([], []), ([], []), ([], []), ([], []), ([0, 1], []), ([], []), ([2, 3], []), ([], [8, 9])]) (by kernel_rfl) (by kernel_rfl) (.cons (Le.refl _) (.cons (Le.refl _) .nil)) (api_Tok__ok hy58) (by kernel_rfl) ?_
     refine kD 2 ?_
     refine kB 31 h59 (fun h61 => ?_) (fun h62 => ?_)
     ·refine kD 4 ?_
      obtain ⟨y63, hy64, h65⟩ := bindS h61
      refine RJ.call0 (d := (some 36)) (f := 24) (args := [lsv encSt33 2 x0.Suf_, lsv encSt33 2 x1.Suf_]) (v := .bool y63) (tr2 := [([0, 1], []), ([], [4, 5]), ([2, 3], []), ([], [6, 7]), ([], []), ([], []), ([], []), ([0, 1], []), ([], []), ([2, 3], []), ([], []), ([], []), ([], []), ([], []), ([0, 1], []), ([], []), ([2, 3], []), ([], []), ([], []), ([], []), ([], []), ([0, 1], []), ([], []), ([2, 3], []), ([], [8, 9]), ([], []), ([], []), ([], []), ([0, 1], []), ([], []), ([2, 3], []), ([], [10, 11])]) (by kernel_rfl) (by kernel_rfl) (.cons (Le.refl _) (.cons (Le.refl _) .nil)) (api_Tok__ok hy64) (by kernel_rfl) ?_
      refine kD 2 ?_
      refine kB 38 h65 (fun h67 => ?_) (fun h68 => ?_)
      ·refine kD 4 ?_
       obtain ⟨y69, hy70, h71⟩ := bindS h67
       refine RJ.call0 (d := (some 43)) (f := 24) (args := [lsv encSt33 2 x0.NPre_, lsv encSt33 2 x1.NPre_]) (v := .bool y69) (tr2 := [([0, 1], []), ([], [4, 5]), ([2, 3], []), ([], [6, 7]), ([], []), ([], []), ([], []), ([0, 1], []), ([], []), ([2, 3], []), ([], []), ([], []), ([], []), ([], []), ([0, 1], []), ([], []), ([2, 3], []), ([], []), ([], []), ([], []), ([], []), ([0, 1], []), ([], []), ([2, 3], []), ([], [8, 9]), ([], []), ([], []), ([], []), ([0, 1], []), ([], []), ([2, 3], []), ([], [10, 11]), ([], []), ([], []), ([], []), ([0, 1], []), ([], []), ([2, 3], []), ([], [12, 13])]) (by kernel_rfl) (by kernel_rfl) (.cons (Le.refl _) (.cons (Le.refl _) .nil)) (api_Tok__ok hy70) (by kernel_rfl) ?_
       refine kD 2 ?_
       refine kB 45 h71 (fun h73 => ?_) (fun h74 => ?_)
       ·refine kD 4 ?_
        obtain ⟨y75, hy76, h77⟩ := bindS h73
        refine RJ.call0 (d := (some 50)) (f := 24) (args := [lsv encSt33 2 x0.NSuf_, lsv encSt33 2 x1.NSuf_]) (v := .bool y75) (tr2 := [([0, 1], []), ([], [4, 5]), ([2, 3], []), ([], [6, 7]), ([], []), ([], []), ([], []), ([0, 1], []), ([], []), ([2, 3], []), ([], []), ([], []), ([], []), ([], []), ([0, 1], []), ([], []), ([2, 3], []), ([], []), ([], []), ([], []), ([], []), ([0, 1], []), ([], []), ([2, 3], []), ([], [8, 9]), ([], []), ([], []), ([], []), ([0, 1], []), ([], []), ([2, 3], []), ([], [10, 11]), ([], []), ([], []), ([], []), ([0, 1], []), ([], []), ([2, 3], []), ([], [12, 13]), ([], []), ([], []), ([], []), ([0, 1], []), ([], []), ([2, 3], []), ([], [14, 15])]) (by kernel_rfl) (by kernel_rfl) (.cons (Le.refl _) (.cons (Le.refl _) .nil)) (api_Tok__ok hy76) (by kernel_rfl) ?_
        refine kD 2 ?_
        refine kE ?_
        obtain rfl := oi h77
        refine kW (L2 := [(4, .bool y75)]) (H2 := []) hFH hFD [] ?_
        exact kN [4]
       ·refine kD 7 ?_
        refine kE ?_
        obtain rfl := oi h74
        refine kW (L2 := [(4, .bool false)]) (H2 := []) hFH hFD [] ?_
        exact kN [4]
      ·refine kD 14 ?_
       refine kE ?_
       obtain rfl := oi h68
       refine kW (L2 := [(4, .bool false)]) (H2 := []) hFH hFD [] ?_
       exact kN [4]
     ·refine kD 21 ?_
      refine kE ?_
      obtain rfl := oi h62
      refine kW (L2 := [(4, .bool false)]) (H2 := []) hFH hFD [] ?_
      exact kN [4]
    ·refine kD 28 ?_
     refine kE ?_
     obtain rfl := oi h56
     refine kW (L2 := [(4, .bool false)]) (H2 := []) hFH hFD [] ?_
     exact kN [4]
   ·refine kD 35 ?_
    refine kE ?_
    obtain rfl := oi h53
    refine kW (L2 := [(4, .bool false)]) (H2 := []) hFH hFD [] ?_
    exact kN [4]
  ·refine kD 42 ?_
   refine kE ?_
   obtain rfl := oi h50
   refine kW (L2 := [(4, .bool false)]) (H2 := []) hFH hFD [] ?_
   exact kN [4]
 ·refine kX ?_
  obtain rfl := oi h41
  exact kZ hFn hFH hFD
def pat_Right (x0 : St23) : Option (Bool) :=
 (Option.bind (pat_Text x0) fun y1 => (Option.bind (pat_Parse y1) fun y4 => (Option.bind (bif (decide (y4.2.2 = 0)) then (Option.bind (pat_Same x0 y4.1) fun y21 => (some y21)) else (some false)) fun (s13 : Bool) => (some s13))))
theorem pat_Right_ok {x0 : St23} {r : Bool} (h : pat_Right x0 = some r) : SC Try.prog 10 [.agg (encSt23 x0)] [] (.bool r) [] := by
 refine kFn (fn := Try.f10) (fun F hFn hFH hFD => ?_)
 unfold pat_Right at h
 refine kSR ?_
 refine kC 2 [1,2] ?_
 refine kEN ?_
 refine kSR ?_
 refine kC 1 [1,2,7] ?_
 obtain ⟨y1, hy2, h3⟩ := bindS h
 refine kA 8 (pat_Text_ok hy2) ?_
 obtain ⟨y4, hy5, h6⟩ := bindS h3
 refine kA 9 (pat_Parse_ok hy5) ?_
 refine kC 8 [1,2,3,5] ?_
 refine kEN ?_
 obtain ⟨s13, hy15, h17⟩ := bindS h6
 refine K.cutN (by kernel_rfl) (fun (s13 : Bool) => ([(2, .bool s13)], [])) s13 ?_ ?_
 ·refine kR ?_
  refine kC 3 [1,2,3,15] ?_
  refine kB 15 hy15 (fun h19 => ?_) (fun h20 => ?_)
  ·refine kC 2 [2,15,16,17] ?_
   obtain ⟨y21, hy22, h23⟩ := bindS h19
   refine kA 18 (pat_Same_ok hy22) ?_
   refine kC 2 [2] ?_
   refine kE ?_
   obtain rfl := oi h23
   refine kW (L2 := [(2, .bool y21)]) (H2 := []) hFH hFD [] ?_
   exact kN [2]
  ·refine kC 5 [2] ?_
   refine kE ?_
   obtain rfl := oi h20
   refine kW (L2 := [(2, .bool false)]) (H2 := []) hFH hFD [] ?_
   exact kN [2]
 ·refine kX ?_
  obtain rfl := oi h17
  exact kZ hFn hFH hFD
def pat_Width (x0 : St23) : Option (Int) :=
 (Option.bind (pat_number x0) fun y1 => (some (IntKind.wrap .i64 (((IntKind.wrap .i64 ((y1.length : Int) + (x0.Pre_.length : Int)))) + (x0.Suf_.length : Int)))))
theorem pat_Width_ok {x0 : St23} {r : Int} (h : pat_Width x0 = some r) : SC Try.prog 17 [.agg (encSt23 x0)] [] (.int .i64 r) [] := by
 refine kFn (fn := Try.f17) (fun F hFn hFH hFD => ?_)
 unfold pat_Width at h
 refine kSR ?_
 refine kC 2 [1,2] ?_
 refine kEN ?_
 refine kS ?_
 refine J.keep [1, 2] (L2 := [(1, .ptr 0 0), (2, .int .i64 0)]) (by kernel_rfl) ?_
 refine K.draw (by kernel_rfl) (by kernel_rfl) (by kernel_rfl) (H2 := [.box (encSt23 x0), .res]) (by kernel_rfl) (n := 1) (by kernel_rfl) ?_
 refine kD 1 ?_
 obtain ⟨y1, hy2, h3⟩ := bindS h
 refine RJ.call0 (d := (some 4)) (f := 29) (args := [.agg (encSt23 x0)]) (v := lsv (encI .i32) 1 y1) (tr2 := [([0, 1], []), ([], [2, 3])]) (by kernel_rfl) (by kernel_rfl) (.cons (Le.refl _) .nil) (pat_number_ok hy2) (by kernel_rfl) ?_
 refine kD 10 ?_
 refine kEN ?_
 refine kX ?_
 obtain rfl := oi h3
 exact kZ hFn hFH hFD
def pat_Number (x0 : St23) : Option (List UInt8) :=
 (Option.bind (pat_number x0) fun y1 => (some (runesS y1)))
theorem pat_Number_ok {x0 : St23} {r : List UInt8} (h : pat_Number x0 = some r) : SC Try.prog 15 [.agg (encSt23 x0)] [] (.str r) [] := by
 refine kFn (fn := Try.f15) (fun F hFn hFH hFD => ?_)
 unfold pat_Number at h
 refine kSR ?_
 refine kC 2 [1,2] ?_
 refine kEN ?_
 refine kSR ?_
 refine kC 1 [2,3] ?_
 obtain ⟨y1, hy2, h3⟩ := bindS h
 refine kA 4 (pat_number_ok hy2) ?_
 refine RJ.rel (d := (some 5)) (ef := ⟨.str ((y1.flatMap (encI .i32)).flatMap Go.Sy.runeB), [], []⟩) (ef' := ⟨.str (runesS y1), [], []⟩) (c := (y1.flatMap (encI .i32)).all isRuneS) (tr2 := []) (H2 := [.box (encSt23 x0)]) (by kernel_rfl) (allRune y1) (fun hc => N.toRStr) (by kernel_rfl) ?_
 refine kC 1 [2] ?_
 refine kEN ?_
 refine kX ?_
 obtain rfl := oi h3
 exact kZ hFn hFH hFD
end Go.Proofs.Ytdflcknbelpflaa
