/-
  What the functions of this program come to, as functions of natives, each with the proof that it does. No conditions.
-/
import Derived.Test.YtcmmjficmoflkaaGreatProg
import Derived.Test.YtcmmjficmoflkaaGreatSyV
import Derived.Test.YtcmmjficmoflkaaGreatGb
namespace Go.Proofs.YtcmmjficmoflkaaGreat
open Go Go.Sy Go.RowKit
set_option linter.unusedVariables false
set_option linter.unusedSimpArgs false
set_option maxRecDepth 100000
set_option maxHeartbeats 4000000

def exergueref10_places (x0 : St25) (x1 : List Int) (x2 : Int) : Option (St25 × Int × Bool) :=
 (loopN (fun (s1 : Int × Int × Int × Int × (List Int)) => (Option.bind (exergueref10_at x1 s1.1) fun y442 => (Option.bind (exergueref10_at x1 (IntKind.wrap .i64 (s1.1 + 1))) fun y445 => (Option.bind (Option.bind (bif (decide (y442 = 35)) then (some (decide (s1.2.2.2.1 = 0))) else (some false)) fun (s471 : Bool) => (bif s471 then (some (.inr (.inl ((IntKind.wrap .i64 (s1.1 + 1)), (IntKind.wrap .i64 (s1.2.1 + 1)), (IntKind.wrap .i64 (s1.2.2.1 + 1)), s1.2.2.2.1, s1.2.2.2.2)))) else (some (.inl ())))) (joinX fun (s463 : Unit) => (bif (decide (y442 = 48)) then (some (.inl ((IntKind.wrap .i64 (s1.1 + 1)), (IntKind.wrap .i64 (s1.2.1 + 1)), s1.2.2.1, (IntKind.wrap .i64 (s1.2.2.2.1 + 1)), s1.2.2.2.2))) else (Option.bind (Option.bind (bif (decide (y442 = 44)) then (bif (decide (s1.2.1 > 0)) then (bif (decide (y445 = 48)) then (some true) else (bif (decide (y445 = 35)) then (some (decide (s1.2.2.2.1 = 0))) else (some false))) else (some false)) else (some false)) fun (s586 : Bool) => (bif s586 then (Option.bind (Option.bind (bif (decide ((s1.2.2.2.2.length : Int) ≥ 2)) then (bif inR 1 s1.2.2.2.2.length then (bif inR 1 s1.2.2.2.2.length then (some ((decide (¬ (nth s1.2.2.2.2 1) = s1.2.1)))) else none) else none) else (some false)) fun (s638 : Bool) => (bif s638 then (some (.inr (.inr (.inr ((⟨x0.Pre_, x0.Suf_, x0.NPre_, x0.NSuf_, x0.Neg_, s1.2.2.1, s1.2.2.2.1, x0.MinFrac_, x0.MaxFrac_, x0.G1_, x0.G2_, x0.MinSig_, x0.MaxSig_, x0.Exp_, x0.ExpPlus_, x0.Pad_, x0.PadAt_⟩ : St25), s1.1, false))))) else (some (.inl ())))) (joinX fun (s628 : Unit) => (bif room (s1.2.2.2.2.length + ([s1.2.1] : List Int).length) then (some (.inr (.inl ((IntKind.wrap .i64 (s1.1 + 1)), 0, s1.2.2.1, s1.2.2.2.1, (s1.2.2.2.2 ++ ([s1.2.1] : List Int)))))) else none))) else (some (.inl ())))) (joinX fun (s569 : Unit) => (Option.bind (bif (decide ((s1.2.2.2.2.length : Int) = 1)) then (some (s1.2.1, s1.2.1)) else (some (x0.G1_, x0.G2_))) fun (s660 : Int × Int) => (Option.bind (bif (decide ((s1.2.2.2.2.length : Int) > 1)) then (bif inR 1 s1.2.2.2.2.length then (bif inR 1 s1.2.2.2.2.length then (some (s1.2.1, (nth s1.2.2.2.2 1))) else none) else none) else (some (s660.1, s660.2))) fun (s673 : Int × Int) => (some (.inr ((⟨x0.Pre_, x0.Suf_, x0.NPre_, x0.NSuf_, x0.Neg_, s1.2.2.1, s1.2.2.2.1, x0.MinFrac_, x0.MaxFrac_, s673.1, s673.2, x0.MinSig_, x0.MaxSig_, x0.Exp_, x0.ExpPlus_, x0.Pad_, x0.PadAt_⟩ : St25), s1.1, (decide ((IntKind.wrap .i64 (s1.2.2.1 + s1.2.2.2.1)) > 0))))))))))))))) big (x2, 0, x0.Hash_, x0.MinInt_, ([] : List Int)))
theorem exergueref10_places_ok {x0 : St25} {x1 : List Int} {x2 : Int} {r : St25 × Int × Bool} (h : exergueref10_places x0 x1 x2 = some r) : SC Tryz.prog 127 [.agg (encSt25 x0), lsv (encI .i32) 1 x1, .int .i64 x2] [] (.tup [.agg (encSt25 r.1), .int .i64 r.2.1, .bool r.2.2]) [] := by
 refine kFn (fn := Tryz.f127) (fun F hFn hFH hFD => ?_)
 unfold exergueref10_places at h
 refine kSR ?_
 refine kC 4 [1,2,3,6,7,8] ?_
 refine kEN ?_
 refine kSR ?_
 refine kC 1 [1,2,3,6,7,8,9] ?_
 refine kEN ?_
 refine kSR ?_
 refine kC 1 [1,2,3,6,7,8,9,10] ?_
 refine kEN ?_
 refine K.block 0 (by kernel_rfl) ?_
 refine J.wk (Wk.viv 9 1 3 (by kernel_rfl)) ?_
 refine K.loop (by kernel_rfl) (fun (s1 : Int × Int × Int × Int × (List Int)) => ([(1, lsv (encI .i32) 1 x1), (2, .int .i64 s1.1), (3, .ptr 0 0), (6, .ptr 1 0), (7, .int .i64 0), (8, .bool false), (9, .vc 2), (10, .int .i64 s1.2.1)], [.box [lsv encSt106 2 x0.Pre_, lsv encSt106 2 x0.Suf_, lsv encSt106 2 x0.NPre_, lsv encSt106 2 x0.NSuf_, .bool x0.Neg_, .int .i64 s1.2.2.1, .int .i64 s1.2.2.2.1, .int .i64 x0.MinFrac_, .int .i64 x0.MaxFrac_, .int .i64 x0.G1_, .int .i64 x0.G2_, .int .i64 x0.MinSig_, .int .i64 x0.MaxSig_, .int .i64 x0.Exp_, .bool x0.ExpPlus_, .int .i32 x0.Pad_, .int .i64 x0.PadAt_], .box [.nl, .nl, .nl, .nl, .bool false, .int .i64 0, .int .i64 0, .int .i64 0, .int .i64 0, .int .i64 0, .int .i64 0, .int .i64 0, .int .i64 0, .int .i64 0, .bool false, .int .i32 0, .int .i64 0], vecL (encI .i64) 1 3 s1.2.2.2.2])) h [1, 2, 3, 6, 7, 8, 9, 10] (by kernel_rfl) (by kernel_rfl) (fun s1 x441 hs440 => ?_)
 refine K.block 1 (by kernel_rfl) ?_
 refine kSR ?_
 refine kC 2 [1,2,3,6,7,8,9,10,13,14] ?_
 obtain ⟨y442, hy443, h444⟩ := bindS hs440
 refine RJ.call0 (d := (some 15)) (f := 83) (args := [lsv (encI .i32) 1 x1, .int .i64 s1.1]) (v := .int .i32 y442) (tr2 := []) (by kernel_rfl) (by kernel_rfl) (.cons (Le.refl _) (.cons (Le.refl _) .nil)) (exergueref10_at_ok hy443) (by kernel_rfl) ?_
 refine kC 1 [1,2,3,6,7,8,9,10,11] ?_
 refine kEN ?_
 refine kSR ?_
 refine kC 3 [1,2,3,6,7,8,9,10,11,16,18] ?_
 obtain ⟨y445, hy446, h447⟩ := bindS h444
 refine RJ.call0 (d := (some 19)) (f := 83) (args := [lsv (encI .i32) 1 x1, .int .i64 (IntKind.wrap .i64 (s1.1 + 1))]) (v := .int .i32 y445) (tr2 := []) (by kernel_rfl) (by kernel_rfl) (.cons (Le.refl _) (.cons (Le.refl _) .nil)) (exergueref10_at_ok hy446) (by kernel_rfl) ?_
 refine RJ.seg 1 [1, 2, 3, 6, 7, 8, 9, 10, 11, 12] (L2 := [(1, lsv (encI .i32) 1 x1), (2, .int .i64 s1.1), (3, .ptr 0 0), (6, .ptr 1 0), (7, .int .i64 0), (8, .bool false), (9, .vc 2), (10, .int .i64 s1.2.1), (11, .int .i32 y442), (12, .int .i32 y445)]) (H2 := [.box [lsv encSt106 2 x0.Pre_, lsv encSt106 2 x0.Suf_, lsv encSt106 2 x0.NPre_, lsv encSt106 2 x0.NSuf_, .bool x0.Neg_, .int .i64 s1.2.2.1, .int .i64 s1.2.2.2.1, .int .i64 x0.MinFrac_, .int .i64 x0.MaxFrac_, .int .i64 x0.G1_, .int .i64 x0.G2_, .int .i64 x0.MinSig_, .int .i64 x0.MaxSig_, .int .i64 x0.Exp_, .bool x0.ExpPlus_, .int .i32 x0.Pad_, .int .i64 x0.PadAt_], .box [.nl, .nl, .nl, .nl, .bool false, .int .i64 0, .int .i64 0, .int .i64 0, .int .i64 0, .int .i64 0, .int .i64 0, .int .i64 0, .int .i64 0, .int .i64 0, .bool false, .int .i32 0, .int .i64 0], vecL (encI .i64) 1 3 s1.2.2.2.2]) (by kernel_rfl) ?_
 refine kEN ?_
 obtain ⟨y464, hy465, h466⟩ := bindS h447
 refine K.cutX (by kernel_rfl) (fun (s463 : Unit) => ([(1, lsv (encI .i32) 1 x1), (2, .int .i64 s1.1), (3, .ptr 0 0), (6, .ptr 1 0), (7, .int .i64 0), (8, .bool false), (9, .vc 2), (10, .int .i64 s1.2.1), (11, .int .i32 y442), (12, .int .i32 y445)], [.box [lsv encSt106 2 x0.Pre_, lsv encSt106 2 x0.Suf_, lsv encSt106 2 x0.NPre_, lsv encSt106 2 x0.NSuf_, .bool x0.Neg_, .int .i64 s1.2.2.1, .int .i64 s1.2.2.2.1, .int .i64 x0.MinFrac_, .int .i64 x0.MaxFrac_, .int .i64 x0.G1_, .int .i64 x0.G2_, .int .i64 x0.MinSig_, .int .i64 x0.MaxSig_, .int .i64 x0.Exp_, .bool x0.ExpPlus_, .int .i32 x0.Pad_, .int .i64 x0.PadAt_], .box [.nl, .nl, .nl, .nl, .bool false, .int .i64 0, .int .i64 0, .int .i64 0, .int .i64 0, .int .i64 0, .int .i64 0, .int .i64 0, .int .i64 0, .int .i64 0, .bool false, .int .i32 0, .int .i64 0], vecL (encI .i64) 1 3 s1.2.2.2.2])) y464 ?_ (fun s463 hs => ?_)
 ·obtain ⟨s471, hy473, h475⟩ := bindS hy465
  refine K.cutN (by kernel_rfl) (fun (s471 : Bool) => ([(1, lsv (encI .i32) 1 x1), (2, .int .i64 s1.1), (3, .ptr 0 0), (6, .ptr 1 0), (7, .int .i64 0), (8, .bool false), (9, .vc 2), (10, .int .i64 s1.2.1), (11, .int .i32 y442), (12, .int .i32 y445), (26, .bool s471)], [.box [lsv encSt106 2 x0.Pre_, lsv encSt106 2 x0.Suf_, lsv encSt106 2 x0.NPre_, lsv encSt106 2 x0.NSuf_, .bool x0.Neg_, .int .i64 s1.2.2.1, .int .i64 s1.2.2.2.1, .int .i64 x0.MinFrac_, .int .i64 x0.MaxFrac_, .int .i64 x0.G1_, .int .i64 x0.G2_, .int .i64 x0.MinSig_, .int .i64 x0.MaxSig_, .int .i64 x0.Exp_, .bool x0.ExpPlus_, .int .i32 x0.Pad_, .int .i64 x0.PadAt_], .box [.nl, .nl, .nl, .nl, .bool false, .int .i64 0, .int .i64 0, .int .i64 0, .int .i64 0, .int .i64 0, .int .i64 0, .int .i64 0, .int .i64 0, .int .i64 0, .bool false, .int .i32 0, .int .i64 0], vecL (encI .i64) 1 3 s1.2.2.2.2])) s471 ?_ ?_
  ·refine kR ?_
   refine kC 3 [1,2,3,6,7,8,9,10,11,12,22] ?_
   refine RJ.caseB 22 (b := (decide (y442 = 35))) (by kernel_rfl) (fun hb476 => ?_) (fun hb476 => ?_)
   ·have h477 := condT hb476 hy473
    refine kC 4 [1,2,3,6,7,8,9,10,11,12,26] ?_
    refine kE ?_
    obtain rfl := oi h477
    exact kN [1, 2, 3, 6, 7, 8, 9, 10, 11, 12, 26]
   ·have h478 := condF hb476 hy473
    refine kC 4 [1,2,3,6,7,8,9,10,11,12,26] ?_
    refine kE ?_
    obtain rfl := oi h478
    exact kN [1, 2, 3, 6, 7, 8, 9, 10, 11, 12, 26]
  ·refine J.caseB 26 (b := s471) (by kernel_rfl) (fun hb479 => ?_) (fun hb479 => ?_)
   ·have h480 := condT hb479 h475
    refine kT ?_
    refine kSR ?_
    refine kC 5 [1,2,3,6,7,8,9,10,11,12] ?_
    refine kEN ?_
    refine kSR ?_
    refine kC 3 [1,2,3,6,7,8,9,10,11,12] ?_
    refine kEN ?_
    refine kSR ?_
    refine kC 3 [1,2,3,6,7,8,9,10,11,12] ?_
    refine kEN ?_
    refine K.exit 1 (by kernel_rfl) ?_
    obtain rfl := oi h480
    have h482 := joinX_inr h466
    refine PJ.cutXr (fun e => nomatch e) ?_
    refine PJ.blockOut ?_
    obtain rfl := oi h482
    exact PJ.loopNext [1, 2, 3, 6, 7, 8, 9, 10] (by kernel_rfl) (by kernel_rfl)
   ·have h481 := condF hb479 h475
    refine kF ?_
    refine kK ?_
    obtain rfl := oi h481
    exact PJ.cutXl [1, 2, 3, 6, 7, 8, 9, 10, 11, 12] (by kernel_rfl) (by kernel_rfl)
 ·subst hs
  have h467 := joinX_inl h466
  refine kS ?_
  refine kSR ?_
  refine kC 2 [1,2,3,6,7,8,9,10,11,12,36] ?_
  refine kEN ?_
  refine J.caseB 36 (b := (decide (y442 = 48))) (by kernel_rfl) (fun hb483 => ?_) (fun hb483 => ?_)
  ·have h484 := condT hb483 h467
   refine kT ?_
   refine kSR ?_
   refine kC 5 [1,2,3,6,7,8,9,10,11,12] ?_
   refine kEN ?_
   refine kSR ?_
   refine kC 3 [1,2,3,6,7,8,9,10,11,12] ?_
   refine kEN ?_
   refine kSR ?_
   refine RJ.seg 3 [1, 2, 3, 6, 7, 8, 9, 10, 11, 12] (L2 := [(1, lsv (encI .i32) 1 x1), (2, .int .i64 (IntKind.wrap .i64 (s1.1 + 1))), (3, .ptr 0 0), (6, .ptr 1 0), (7, .int .i64 0), (8, .bool false), (9, .vc 2), (10, .int .i64 (IntKind.wrap .i64 (s1.2.1 + 1))), (11, .int .i32 y442), (12, .int .i32 y445)]) (H2 := [.box [lsv encSt106 2 x0.Pre_, lsv encSt106 2 x0.Suf_, lsv encSt106 2 x0.NPre_, lsv encSt106 2 x0.NSuf_, .bool x0.Neg_, .int .i64 s1.2.2.1, .int .i64 (IntKind.wrap .i64 (s1.2.2.2.1 + 1)), .int .i64 x0.MinFrac_, .int .i64 x0.MaxFrac_, .int .i64 x0.G1_, .int .i64 x0.G2_, .int .i64 x0.MinSig_, .int .i64 x0.MaxSig_, .int .i64 x0.Exp_, .bool x0.ExpPlus_, .int .i32 x0.Pad_, .int .i64 x0.PadAt_], .box [.nl, .nl, .nl, .nl, .bool false, .int .i64 0, .int .i64 0, .int .i64 0, .int .i64 0, .int .i64 0, .int .i64 0, .int .i64 0, .int .i64 0, .int .i64 0, .bool false, .int .i32 0, .int .i64 0], vecL (encI .i64) 1 3 s1.2.2.2.2]) (by kernel_rfl) ?_
   refine kEN ?_
   refine K.exit 1 (by kernel_rfl) ?_
   refine PJ.passExit ?_
   refine PJ.blockOut ?_
   obtain rfl := oi h484
   exact PJ.loopNext [1, 2, 3, 6, 7, 8, 9, 10] (by kernel_rfl) (by kernel_rfl)
  ·have h485 := condF hb483 h467
   refine kF ?_
   refine kK ?_
   refine PJ.next ?_
   obtain ⟨y570, hy571, h572⟩ := bindS h485
   refine K.cutX (by kernel_rfl) (fun (s569 : Unit) => ([(1, lsv (encI .i32) 1 x1), (2, .int .i64 s1.1), (3, .ptr 0 0), (6, .ptr 1 0), (7, .int .i64 0), (8, .bool false), (9, .vc 2), (10, .int .i64 s1.2.1)], [.box [lsv encSt106 2 x0.Pre_, lsv encSt106 2 x0.Suf_, lsv encSt106 2 x0.NPre_, lsv encSt106 2 x0.NSuf_, .bool x0.Neg_, .int .i64 s1.2.2.1, .int .i64 s1.2.2.2.1, .int .i64 x0.MinFrac_, .int .i64 x0.MaxFrac_, .int .i64 x0.G1_, .int .i64 x0.G2_, .int .i64 x0.MinSig_, .int .i64 x0.MaxSig_, .int .i64 x0.Exp_, .bool x0.ExpPlus_, .int .i32 x0.Pad_, .int .i64 x0.PadAt_], .box [.nl, .nl, .nl, .nl, .bool false, .int .i64 0, .int .i64 0, .int .i64 0, .int .i64 0, .int .i64 0, .int .i64 0, .int .i64 0, .int .i64 0, .int .i64 0, .bool false, .int .i32 0, .int .i64 0], vecL (encI .i64) 1 3 s1.2.2.2.2])) y570 ?_ (fun s569 hs => ?_)
   ·obtain ⟨s586, hy588, h590⟩ := bindS hy571
    refine K.cutN (by kernel_rfl) (fun (s586 : Bool) => ([(1, lsv (encI .i32) 1 x1), (2, .int .i64 s1.1), (3, .ptr 0 0), (6, .ptr 1 0), (7, .int .i64 0), (8, .bool false), (9, .vc 2), (10, .int .i64 s1.2.1), (63, .bool s586)], [.box [lsv encSt106 2 x0.Pre_, lsv encSt106 2 x0.Suf_, lsv encSt106 2 x0.NPre_, lsv encSt106 2 x0.NSuf_, .bool x0.Neg_, .int .i64 s1.2.2.1, .int .i64 s1.2.2.2.1, .int .i64 x0.MinFrac_, .int .i64 x0.MaxFrac_, .int .i64 x0.G1_, .int .i64 x0.G2_, .int .i64 x0.MinSig_, .int .i64 x0.MaxSig_, .int .i64 x0.Exp_, .bool x0.ExpPlus_, .int .i32 x0.Pad_, .int .i64 x0.PadAt_], .box [.nl, .nl, .nl, .nl, .bool false, .int .i64 0, .int .i64 0, .int .i64 0, .int .i64 0, .int .i64 0, .int .i64 0, .int .i64 0, .int .i64 0, .int .i64 0, .bool false, .int .i32 0, .int .i64 0], vecL (encI .i64) 1 3 s1.2.2.2.2])) s586 ?_ ?_
    ·refine kR ?_
     refine kC 3 [1,2,3,6,7,8,9,10,12,47] ?_
     refine RJ.caseB 47 (b := (decide (y442 = 44))) (by kernel_rfl) (fun hb591 => ?_) (fun hb591 => ?_)
     ·have h592 := condT hb591 hy588
      refine kC 4 [1,2,3,6,7,8,9,10,12,51] ?_
      refine RJ.caseB 51 (b := (decide (s1.2.1 > 0))) (by kernel_rfl) (fun hb594 => ?_) (fun hb594 => ?_)
      ·have h595 := condT hb594 h592
       refine RJ.seg 3 [1, 2, 3, 6, 7, 8, 9, 10, 12, 51, 54] (L2 := [(1, lsv (encI .i32) 1 x1), (2, .int .i64 s1.1), (3, .ptr 0 0), (6, .ptr 1 0), (7, .int .i64 0), (8, .bool false), (9, .vc 2), (10, .int .i64 s1.2.1), (12, .int .i32 y445), (51, .bool true), (54, .bool (decide (y445 = 48)))]) (H2 := [.box [lsv encSt106 2 x0.Pre_, lsv encSt106 2 x0.Suf_, lsv encSt106 2 x0.NPre_, lsv encSt106 2 x0.NSuf_, .bool x0.Neg_, .int .i64 s1.2.2.1, .int .i64 s1.2.2.2.1, .int .i64 x0.MinFrac_, .int .i64 x0.MaxFrac_, .int .i64 x0.G1_, .int .i64 x0.G2_, .int .i64 x0.MinSig_, .int .i64 x0.MaxSig_, .int .i64 x0.Exp_, .bool x0.ExpPlus_, .int .i32 x0.Pad_, .int .i64 x0.PadAt_], .box [.nl, .nl, .nl, .nl, .bool false, .int .i64 0, .int .i64 0, .int .i64 0, .int .i64 0, .int .i64 0, .int .i64 0, .int .i64 0, .int .i64 0, .int .i64 0, .bool false, .int .i32 0, .int .i64 0], vecL (encI .i64) 1 3 s1.2.2.2.2]) (by kernel_rfl) ?_
       refine RJ.caseB 54 (b := (decide (y445 = 48))) (by kernel_rfl) (fun hb597 => ?_) (fun hb597 => ?_)
       ·have h598 := condT hb597 h595
        refine kC 9 [1,2,3,6,7,8,9,10,63] ?_
        refine kE ?_
        obtain rfl := oi h598
        exact kN [1, 2, 3, 6, 7, 8, 9, 10, 63]
       ·have h599 := condF hb597 h595
        refine kC 3 [1,2,3,6,7,8,9,10,51,54,57] ?_
        refine RJ.caseB 57 (b := (decide (y445 = 35))) (by kernel_rfl) (fun hb600 => ?_) (fun hb600 => ?_)
        ·have h601 := condT hb600 h599
         refine kC 6 [1,2,3,6,7,8,9,10,63] ?_
         refine kE ?_
         obtain rfl := oi h601
         exact kN [1, 2, 3, 6, 7, 8, 9, 10, 63]
        ·have h602 := condF hb600 h599
         refine kC 6 [1,2,3,6,7,8,9,10,63] ?_
         refine kE ?_
         obtain rfl := oi h602
         exact kN [1, 2, 3, 6, 7, 8, 9, 10, 63]
      ·have h596 := condF hb594 h592
       refine RJ.seg 12 [1, 2, 3, 6, 7, 8, 9, 10, 63] (L2 := [(1, lsv (encI .i32) 1 x1), (2, .int .i64 s1.1), (3, .ptr 0 0), (6, .ptr 1 0), (7, .int .i64 0), (8, .bool false), (9, .vc 2), (10, .int .i64 s1.2.1), (63, .bool false)]) (H2 := [.box [lsv encSt106 2 x0.Pre_, lsv encSt106 2 x0.Suf_, lsv encSt106 2 x0.NPre_, lsv encSt106 2 x0.NSuf_, .bool x0.Neg_, .int .i64 s1.2.2.1, .int .i64 s1.2.2.2.1, .int .i64 x0.MinFrac_, .int .i64 x0.MaxFrac_, .int .i64 x0.G1_, .int .i64 x0.G2_, .int .i64 x0.MinSig_, .int .i64 x0.MaxSig_, .int .i64 x0.Exp_, .bool x0.ExpPlus_, .int .i32 x0.Pad_, .int .i64 x0.PadAt_], .box [.nl, .nl, .nl, .nl, .bool false, .int .i64 0, .int .i64 0, .int .i64 0, .int .i64 0, .int .i64 0, .int .i64 0, .int .i64 0, .int .i64 0, .int .i64 0, .bool false, .int .i32 0, .int .i64 0], vecL (encI .i64) 1 3 s1.2.2.2.2]) (by kernel_rfl) ?_
       refine kE ?_
       obtain rfl := oi h596
       exact kN [1, 2, 3, 6, 7, 8, 9, 10, 63]
     ·have h593 := condF hb591 hy588
      refine kC 16 [1,2,3,6,7,8,9,10,63] ?_
      refine kE ?_
      obtain rfl := oi h593
      exact kN [1, 2, 3, 6, 7, 8, 9, 10, 63]
    ·refine J.caseB 63 (b := s586) (by kernel_rfl) (fun hb603 => ?_) (fun hb603 => ?_)
     ·have h604 := condT hb603 h590
      refine kT ?_
      obtain ⟨y629, hy630, h631⟩ := bindS h604
      refine K.cutX (by kernel_rfl) (fun (s628 : Unit) => ([(1, lsv (encI .i32) 1 x1), (2, .int .i64 s1.1), (3, .ptr 0 0), (6, .ptr 1 0), (7, .int .i64 0), (8, .bool false), (9, .vc 2), (10, .int .i64 s1.2.1)], [.box [lsv encSt106 2 x0.Pre_, lsv encSt106 2 x0.Suf_, lsv encSt106 2 x0.NPre_, lsv encSt106 2 x0.NSuf_, .bool x0.Neg_, .int .i64 s1.2.2.1, .int .i64 s1.2.2.2.1, .int .i64 x0.MinFrac_, .int .i64 x0.MaxFrac_, .int .i64 x0.G1_, .int .i64 x0.G2_, .int .i64 x0.MinSig_, .int .i64 x0.MaxSig_, .int .i64 x0.Exp_, .bool x0.ExpPlus_, .int .i32 x0.Pad_, .int .i64 x0.PadAt_], .box [.nl, .nl, .nl, .nl, .bool false, .int .i64 0, .int .i64 0, .int .i64 0, .int .i64 0, .int .i64 0, .int .i64 0, .int .i64 0, .int .i64 0, .int .i64 0, .bool false, .int .i32 0, .int .i64 0], vecL (encI .i64) 1 3 s1.2.2.2.2])) y629 ?_ (fun s628 hs => ?_)
      ·obtain ⟨s638, hy640, h642⟩ := bindS hy630
       refine K.cutN (by kernel_rfl) (fun (s638 : Bool) => ([(1, lsv (encI .i32) 1 x1), (2, .int .i64 s1.1), (3, .ptr 0 0), (6, .ptr 1 0), (7, .int .i64 0), (8, .bool false), (9, .vc 2), (10, .int .i64 s1.2.1), (73, .bool s638)], [.box [lsv encSt106 2 x0.Pre_, lsv encSt106 2 x0.Suf_, lsv encSt106 2 x0.NPre_, lsv encSt106 2 x0.NSuf_, .bool x0.Neg_, .int .i64 s1.2.2.1, .int .i64 s1.2.2.2.1, .int .i64 x0.MinFrac_, .int .i64 x0.MaxFrac_, .int .i64 x0.G1_, .int .i64 x0.G2_, .int .i64 x0.MinSig_, .int .i64 x0.MaxSig_, .int .i64 x0.Exp_, .bool x0.ExpPlus_, .int .i32 x0.Pad_, .int .i64 x0.PadAt_], .box [.nl, .nl, .nl, .nl, .bool false, .int .i64 0, .int .i64 0, .int .i64 0, .int .i64 0, .int .i64 0, .int .i64 0, .int .i64 0, .int .i64 0, .int .i64 0, .bool false, .int .i32 0, .int .i64 0], vecL (encI .i64) 1 3 s1.2.2.2.2])) s638 ?_ ?_
       ·refine kR ?_
        refine kC 4 [1,2,3,6,7,8,9,10,67] ?_
        refine RJ.caseB 67 (b := (decide ((s1.2.2.2.2.length : Int) ≥ 2))) (by kernel_rfl) (fun hb643 => ?_) (fun hb643 => ?_)
        ·have h644 := condT hb643 hy640
         refine kC 1 [1,2,3,6,7,8,9,10,67,68] ?_
         obtain ⟨hm, h646⟩ := asrt h644
         refine RJ.rel (d := (some 69)) (ef := ⟨.ptr 2 ((1 : Int).toNat * 1), [2], []⟩) (ef' := ⟨.ptr 2 ((1 : Int).toNat * 1), [2], []⟩) (c := inR 1 s1.2.2.2.2.length) (tr2 := []) (H2 := [.box [lsv encSt106 2 x0.Pre_, lsv encSt106 2 x0.Suf_, lsv encSt106 2 x0.NPre_, lsv encSt106 2 x0.NSuf_, .bool x0.Neg_, .int .i64 s1.2.2.1, .int .i64 s1.2.2.2.1, .int .i64 x0.MinFrac_, .int .i64 x0.MaxFrac_, .int .i64 x0.G1_, .int .i64 x0.G2_, .int .i64 x0.MinSig_, .int .i64 x0.MaxSig_, .int .i64 x0.Exp_, .bool x0.ExpPlus_, .int .i32 x0.Pad_, .int .i64 x0.PadAt_], .box [.nl, .nl, .nl, .nl, .bool false, .int .i64 0, .int .i64 0, .int .i64 0, .int .i64 0, .int .i64 0, .int .i64 0, .int .i64 0, .int .i64 0, .int .i64 0, .bool false, .int .i32 0, .int .i64 0], vecL (encI .i64) 1 3 s1.2.2.2.2]) (by kernel_rfl) hm (fun hc => rfl) (by kernel_rfl) ?_
         obtain ⟨hm, h647⟩ := asrt h646
         refine RJ.rel (d := (some 70)) (ef := ⟨(((s1.2.2.2.2).flatMap (encI .i64)).drop ((1 : Int).toNat * 1)).headD .undef, [2], []⟩) (ef' := ⟨.int .i64 (nth s1.2.2.2.2 1), [2], []⟩) (c := Nat.blt ((1 : Int).toNat * 1) (s1.2.2.2.2.flatMap (encI .i64)).length) (tr2 := []) (H2 := [.box [lsv encSt106 2 x0.Pre_, lsv encSt106 2 x0.Suf_, lsv encSt106 2 x0.NPre_, lsv encSt106 2 x0.NSuf_, .bool x0.Neg_, .int .i64 s1.2.2.1, .int .i64 s1.2.2.2.1, .int .i64 x0.MinFrac_, .int .i64 x0.MaxFrac_, .int .i64 x0.G1_, .int .i64 x0.G2_, .int .i64 x0.MinSig_, .int .i64 x0.MaxSig_, .int .i64 x0.Exp_, .bool x0.ExpPlus_, .int .i32 x0.Pad_, .int .i64 x0.PadAt_], .box [.nl, .nl, .nl, .nl, .bool false, .int .i64 0, .int .i64 0, .int .i64 0, .int .i64 0, .int .i64 0, .int .i64 0, .int .i64 0, .int .i64 0, .int .i64 0, .bool false, .int .i32 0, .int .i64 0], vecL (encI .i64) 1 3 s1.2.2.2.2]) (by kernel_rfl) (loadv_ok (encI_len .i64) rfl hm) (fun hc => N.load1 (encI_len .i64) (fun _ => rfl) hm) (by kernel_rfl) ?_
         refine kC 3 [1,2,3,6,7,8,9,10,73] ?_
         refine kE ?_
         obtain rfl := oi h647
         exact kN [1, 2, 3, 6, 7, 8, 9, 10, 73]
        ·have h645 := condF hb643 hy640
         refine kC 6 [1,2,3,6,7,8,9,10,73] ?_
         refine kE ?_
         obtain rfl := oi h645
         exact kN [1, 2, 3, 6, 7, 8, 9, 10, 73]
       ·refine J.caseB 73 (b := s638) (by kernel_rfl) (fun hb648 => ?_) (fun hb648 => ?_)
        ·have h649 := condT hb648 h642
         refine kT ?_
         refine kSR ?_
         refine kC 5 [1,2,3,6,7,8,9,10] ?_
         refine kEN ?_
         refine kX ?_
         obtain rfl := oi h649
         have h651 := joinX_inr h631
         refine PJ.cutXr (fun e => nomatch e) ?_
         obtain rfl := oi h651
         have h652 := joinX_inr h572
         refine PJ.cutXr (fun e => nomatch e) ?_
         refine PJ.blockRet ?_
         obtain rfl := oi h652
         refine PJ.loopOut (fun e => nomatch e) (fun he654 => ?_)
         have h653 := congrArg some he654
         refine PJ.blockRet ?_
         obtain rfl := oi h653
         exact kZ hFn hFH hFD
        ·have h650 := condF hb648 h642
         refine kF ?_
         refine kK ?_
         obtain rfl := oi h650
         exact PJ.cutXl [1, 2, 3, 6, 7, 8, 9, 10] (by kernel_rfl) (by kernel_rfl)
      ·subst hs
       have h632 := joinX_inl h631
       refine kSR ?_
       refine kC 3 [1,2,3,6,7,8,9,10,76,78] ?_
       obtain ⟨hm, h655⟩ := asrt h632
       refine RJ.rel (d := (some 79)) (ef := ⟨.vc 4, [2, 3], [(2, .gone), (4, .vec (s1.2.2.2.2.length + ([s1.2.1] : List Int).length) 1 3 (s1.2.2.2.2.flatMap (encI .i64) ++ ([s1.2.1] : List Int).flatMap (encI .i64)))]⟩) (ef' := ⟨.vc 4, [2, 3], [(2, .gone), (4, vecL (encI .i64) 1 3 (s1.2.2.2.2 ++ ([s1.2.1] : List Int)))]⟩) (c := room (s1.2.2.2.2.length + ([s1.2.1] : List Int).length)) (tr2 := []) (H2 := [.box [lsv encSt106 2 x0.Pre_, lsv encSt106 2 x0.Suf_, lsv encSt106 2 x0.NPre_, lsv encSt106 2 x0.NSuf_, .bool x0.Neg_, .int .i64 s1.2.2.1, .int .i64 s1.2.2.2.1, .int .i64 x0.MinFrac_, .int .i64 x0.MaxFrac_, .int .i64 x0.G1_, .int .i64 x0.G2_, .int .i64 x0.MinSig_, .int .i64 x0.MaxSig_, .int .i64 x0.Exp_, .bool x0.ExpPlus_, .int .i32 x0.Pad_, .int .i64 x0.PadAt_], .box [.nl, .nl, .nl, .nl, .bool false, .int .i64 0, .int .i64 0, .int .i64 0, .int .i64 0, .int .i64 0, .int .i64 0, .int .i64 0, .int .i64 0, .int .i64 0, .bool false, .int .i32 0, .int .i64 0], .gone, vecL (encI .i64) 1 3 ([s1.2.1] : List Int), vecL (encI .i64) 1 3 (s1.2.2.2.2 ++ ([s1.2.1] : List Int))]) (by kernel_rfl) hm (fun hc => N.app) (by kernel_rfl) ?_
       refine kC 1 [1,2,3,6,7,8,9,10] ?_
       refine kEN ?_
       refine kSR ?_
       refine kC 1 [1,2,3,6,7,8,9,10] ?_
       refine kEN ?_
       refine kSR ?_
       refine RJ.seg 3 [1, 2, 3, 6, 7, 8, 9, 10] (L2 := [(1, lsv (encI .i32) 1 x1), (2, .int .i64 (IntKind.wrap .i64 (s1.1 + 1))), (3, .ptr 0 0), (6, .ptr 1 0), (7, .int .i64 0), (8, .bool false), (9, .vc 4), (10, .int .i64 0)]) (H2 := [.box [lsv encSt106 2 x0.Pre_, lsv encSt106 2 x0.Suf_, lsv encSt106 2 x0.NPre_, lsv encSt106 2 x0.NSuf_, .bool x0.Neg_, .int .i64 s1.2.2.1, .int .i64 s1.2.2.2.1, .int .i64 x0.MinFrac_, .int .i64 x0.MaxFrac_, .int .i64 x0.G1_, .int .i64 x0.G2_, .int .i64 x0.MinSig_, .int .i64 x0.MaxSig_, .int .i64 x0.Exp_, .bool x0.ExpPlus_, .int .i32 x0.Pad_, .int .i64 x0.PadAt_], .box [.nl, .nl, .nl, .nl, .bool false, .int .i64 0, .int .i64 0, .int .i64 0, .int .i64 0, .int .i64 0, .int .i64 0, .int .i64 0, .int .i64 0, .int .i64 0, .bool false, .int .i32 0, .int .i64 0], .gone, vecL (encI .i64) 1 3 ([s1.2.1] : List Int), vecL (encI .i64) 1 3 (s1.2.2.2.2 ++ ([s1.2.1] : List Int))]) (by kernel_rfl) ?_
       refine kEN ?_
       refine K.exit 1 (by kernel_rfl) ?_
       obtain rfl := oi h655
       have h656 := joinX_inr h572
       refine PJ.cutXr (fun e => nomatch e) ?_
       refine PJ.blockOut ?_
       obtain rfl := oi h656
       refine PJ.wk (Wk.sel (L2 := [(1, lsv (encI .i32) 1 x1), (2, .int .i64 (IntKind.wrap .i64 (s1.1 + 1))), (3, .ptr 0 0), (6, .ptr 1 0), (7, .int .i64 0), (8, .bool false), (9, .vc 2), (10, .int .i64 0)]) (H2 := [.box [lsv encSt106 2 x0.Pre_, lsv encSt106 2 x0.Suf_, lsv encSt106 2 x0.NPre_, lsv encSt106 2 x0.NSuf_, .bool x0.Neg_, .int .i64 s1.2.2.1, .int .i64 s1.2.2.2.1, .int .i64 x0.MinFrac_, .int .i64 x0.MaxFrac_, .int .i64 x0.G1_, .int .i64 x0.G2_, .int .i64 x0.MinSig_, .int .i64 x0.MaxSig_, .int .i64 x0.Exp_, .bool x0.ExpPlus_, .int .i32 x0.Pad_, .int .i64 x0.PadAt_], .box [.nl, .nl, .nl, .nl, .bool false, .int .i64 0, .int .i64 0, .int .i64 0, .int .i64 0, .int .i64 0, .int .i64 0, .int .i64 0, .int .i64 0, .int .i64 0, .bool false, .int .i32 0, .int .i64 0], vecL (encI .i64) 1 3 (s1.2.2.2.2 ++ ([s1.2.1] : List Int))]) 0 (by rw [hFH]; rfl) hFD [0, 1, 4] (by kernel_rfl) (by kernel_rfl) (by decide) (by kernel_rfl) (by kernel_rfl) (by kernel_rfl) (by kernel_rfl)) ?_
       exact PJ.loopNext [1, 2, 3, 6, 7, 8, 9, 10] (by kernel_rfl) (by kernel_rfl)
     ·have h605 := condF hb603 h590
      refine kF ?_
      refine kK ?_
      obtain rfl := oi h605
      exact PJ.cutXl [1, 2, 3, 6, 7, 8, 9, 10] (by kernel_rfl) (by kernel_rfl)
   ·subst hs
    have h573 := joinX_inl h572
    obtain ⟨s660, hy662, h664⟩ := bindS h573
    refine K.cutN (by kernel_rfl) (fun (s660 : Int × Int) => ([(1, lsv (encI .i32) 1 x1), (2, .int .i64 s1.1), (3, .ptr 0 0), (6, .ptr 1 0), (7, .int .i64 0), (8, .bool false), (9, .vc 2), (10, .int .i64 s1.2.1)], [.box [lsv encSt106 2 x0.Pre_, lsv encSt106 2 x0.Suf_, lsv encSt106 2 x0.NPre_, lsv encSt106 2 x0.NSuf_, .bool x0.Neg_, .int .i64 s1.2.2.1, .int .i64 s1.2.2.2.1, .int .i64 x0.MinFrac_, .int .i64 x0.MaxFrac_, .int .i64 s660.1, .int .i64 s660.2, .int .i64 x0.MinSig_, .int .i64 x0.MaxSig_, .int .i64 x0.Exp_, .bool x0.ExpPlus_, .int .i32 x0.Pad_, .int .i64 x0.PadAt_], .box [.nl, .nl, .nl, .nl, .bool false, .int .i64 0, .int .i64 0, .int .i64 0, .int .i64 0, .int .i64 0, .int .i64 0, .int .i64 0, .int .i64 0, .int .i64 0, .bool false, .int .i32 0, .int .i64 0], vecL (encI .i64) 1 3 s1.2.2.2.2])) s660 ?_ ?_
    ·refine kSR ?_
     refine kC 3 [1,2,3,6,7,8,9,10,84] ?_
     refine kEN ?_
     refine J.caseB 84 (b := (decide ((s1.2.2.2.2.length : Int) = 1))) (by kernel_rfl) (fun hb665 => ?_) (fun hb665 => ?_)
     ·have h666 := condT hb665 hy662
      refine kT ?_
      refine kSR ?_
      refine kC 3 [1,2,3,6,7,8,9,10] ?_
      refine kEN ?_
      refine kR ?_
      refine kC 3 [1,2,3,6,7,8,9,10] ?_
      refine kE ?_
      obtain rfl := oi h666
      exact kN [1, 2, 3, 6, 7, 8, 9, 10]
     ·have h667 := condF hb665 hy662
      refine kF ?_
      refine kK ?_
      obtain rfl := oi h667
      exact kN [1, 2, 3, 6, 7, 8, 9, 10]
    ·obtain ⟨s673, hy675, h677⟩ := bindS h664
     refine K.cutN (by kernel_rfl) (fun (s673 : Int × Int) => ([(1, lsv (encI .i32) 1 x1), (2, .int .i64 s1.1), (3, .ptr 0 0), (6, .ptr 1 0), (7, .int .i64 0), (8, .bool false), (9, .vc 2), (10, .int .i64 s1.2.1)], [.box [lsv encSt106 2 x0.Pre_, lsv encSt106 2 x0.Suf_, lsv encSt106 2 x0.NPre_, lsv encSt106 2 x0.NSuf_, .bool x0.Neg_, .int .i64 s1.2.2.1, .int .i64 s1.2.2.2.1, .int .i64 x0.MinFrac_, .int .i64 x0.MaxFrac_, .int .i64 s673.1, .int .i64 s673.2, .int .i64 x0.MinSig_, .int .i64 x0.MaxSig_, .int .i64 x0.Exp_, .bool x0.ExpPlus_, .int .i32 x0.Pad_, .int .i64 x0.PadAt_], .box [.nl, .nl, .nl, .nl, .bool false, .int .i64 0, .int .i64 0, .int .i64 0, .int .i64 0, .int .i64 0, .int .i64 0, .int .i64 0, .int .i64 0, .int .i64 0, .bool false, .int .i32 0, .int .i64 0], vecL (encI .i64) 1 3 s1.2.2.2.2])) s673 ?_ ?_
     ·refine kSR ?_
      refine kC 3 [1,2,3,6,7,8,9,10,91] ?_
      refine kEN ?_
      refine J.caseB 91 (b := (decide ((s1.2.2.2.2.length : Int) > 1))) (by kernel_rfl) (fun hb678 => ?_) (fun hb678 => ?_)
      ·have h679 := condT hb678 hy675
       refine kT ?_
       refine kSR ?_
       refine kC 3 [1,2,3,6,7,8,9,10] ?_
       refine kEN ?_
       refine kR ?_
       refine kC 1 [1,2,3,6,7,8,9,10,94] ?_
       obtain ⟨hm, h681⟩ := asrt h679
       refine RJ.rel (d := (some 95)) (ef := ⟨.ptr 2 ((1 : Int).toNat * 1), [2], []⟩) (ef' := ⟨.ptr 2 ((1 : Int).toNat * 1), [2], []⟩) (c := inR 1 s1.2.2.2.2.length) (tr2 := []) (H2 := [.box [lsv encSt106 2 x0.Pre_, lsv encSt106 2 x0.Suf_, lsv encSt106 2 x0.NPre_, lsv encSt106 2 x0.NSuf_, .bool x0.Neg_, .int .i64 s1.2.2.1, .int .i64 s1.2.2.2.1, .int .i64 x0.MinFrac_, .int .i64 x0.MaxFrac_, .int .i64 s1.2.1, .int .i64 s660.2, .int .i64 x0.MinSig_, .int .i64 x0.MaxSig_, .int .i64 x0.Exp_, .bool x0.ExpPlus_, .int .i32 x0.Pad_, .int .i64 x0.PadAt_], .box [.nl, .nl, .nl, .nl, .bool false, .int .i64 0, .int .i64 0, .int .i64 0, .int .i64 0, .int .i64 0, .int .i64 0, .int .i64 0, .int .i64 0, .int .i64 0, .bool false, .int .i32 0, .int .i64 0], vecL (encI .i64) 1 3 s1.2.2.2.2]) (by kernel_rfl) hm (fun hc => rfl) (by kernel_rfl) ?_
       obtain ⟨hm, h682⟩ := asrt h681
       refine RJ.rel (d := (some 96)) (ef := ⟨(((s1.2.2.2.2).flatMap (encI .i64)).drop ((1 : Int).toNat * 1)).headD .undef, [2], []⟩) (ef' := ⟨.int .i64 (nth s1.2.2.2.2 1), [2], []⟩) (c := Nat.blt ((1 : Int).toNat * 1) (s1.2.2.2.2.flatMap (encI .i64)).length) (tr2 := []) (H2 := [.box [lsv encSt106 2 x0.Pre_, lsv encSt106 2 x0.Suf_, lsv encSt106 2 x0.NPre_, lsv encSt106 2 x0.NSuf_, .bool x0.Neg_, .int .i64 s1.2.2.1, .int .i64 s1.2.2.2.1, .int .i64 x0.MinFrac_, .int .i64 x0.MaxFrac_, .int .i64 s1.2.1, .int .i64 s660.2, .int .i64 x0.MinSig_, .int .i64 x0.MaxSig_, .int .i64 x0.Exp_, .bool x0.ExpPlus_, .int .i32 x0.Pad_, .int .i64 x0.PadAt_], .box [.nl, .nl, .nl, .nl, .bool false, .int .i64 0, .int .i64 0, .int .i64 0, .int .i64 0, .int .i64 0, .int .i64 0, .int .i64 0, .int .i64 0, .int .i64 0, .bool false, .int .i32 0, .int .i64 0], vecL (encI .i64) 1 3 s1.2.2.2.2]) (by kernel_rfl) (loadv_ok (encI_len .i64) rfl hm) (fun hc => N.load1 (encI_len .i64) (fun _ => rfl) hm) (by kernel_rfl) ?_
       refine RJ.seg 2 [1, 2, 3, 6, 7, 8, 9, 10] (L2 := [(1, lsv (encI .i32) 1 x1), (2, .int .i64 s1.1), (3, .ptr 0 0), (6, .ptr 1 0), (7, .int .i64 0), (8, .bool false), (9, .vc 2), (10, .int .i64 s1.2.1)]) (H2 := [.box [lsv encSt106 2 x0.Pre_, lsv encSt106 2 x0.Suf_, lsv encSt106 2 x0.NPre_, lsv encSt106 2 x0.NSuf_, .bool x0.Neg_, .int .i64 s1.2.2.1, .int .i64 s1.2.2.2.1, .int .i64 x0.MinFrac_, .int .i64 x0.MaxFrac_, .int .i64 s1.2.1, .int .i64 (nth s1.2.2.2.2 1), .int .i64 x0.MinSig_, .int .i64 x0.MaxSig_, .int .i64 x0.Exp_, .bool x0.ExpPlus_, .int .i32 x0.Pad_, .int .i64 x0.PadAt_], .box [.nl, .nl, .nl, .nl, .bool false, .int .i64 0, .int .i64 0, .int .i64 0, .int .i64 0, .int .i64 0, .int .i64 0, .int .i64 0, .int .i64 0, .int .i64 0, .bool false, .int .i32 0, .int .i64 0], vecL (encI .i64) 1 3 s1.2.2.2.2]) (by kernel_rfl) ?_
       refine kE ?_
       obtain rfl := oi h682
       exact kN [1, 2, 3, 6, 7, 8, 9, 10]
      ·have h680 := condF hb678 hy675
       refine kF ?_
       refine kK ?_
       obtain rfl := oi h680
       exact kN [1, 2, 3, 6, 7, 8, 9, 10]
     ·refine kS ?_
      refine J.keep [1, 2, 3, 6, 7, 8, 9, 10] (L2 := [(1, lsv (encI .i32) 1 x1), (2, .int .i64 s1.1), (3, .ptr 0 0), (6, .ptr 1 0), (7, .int .i64 0), (8, .bool false), (9, .vc 2), (10, .int .i64 s1.2.1)]) (by kernel_rfl) ?_
      refine K.draw (by kernel_rfl) (by kernel_rfl) (by kernel_rfl) (H2 := [.box [lsv encSt106 2 x0.Pre_, lsv encSt106 2 x0.Suf_, lsv encSt106 2 x0.NPre_, lsv encSt106 2 x0.NSuf_, .bool x0.Neg_, .int .i64 s1.2.2.1, .int .i64 s1.2.2.2.1, .int .i64 x0.MinFrac_, .int .i64 x0.MaxFrac_, .int .i64 s673.1, .int .i64 s673.2, .int .i64 x0.MinSig_, .int .i64 x0.MaxSig_, .int .i64 x0.Exp_, .bool x0.ExpPlus_, .int .i32 x0.Pad_, .int .i64 x0.PadAt_], .box [.nl, .nl, .nl, .nl, .bool false, .int .i64 0, .int .i64 0, .int .i64 0, .int .i64 0, .int .i64 0, .int .i64 0, .int .i64 0, .int .i64 0, .int .i64 0, .bool false, .int .i32 0, .int .i64 0], vecL (encI .i64) 1 3 s1.2.2.2.2]) (by kernel_rfl) (n := 3) (by kernel_rfl) ?_
      refine kD 11 ?_
      refine kEN ?_
      refine kX ?_
      refine PJ.blockRet ?_
      obtain rfl := oi h677
      refine PJ.loopOut (fun e => nomatch e) (fun he684 => ?_)
      have h683 := congrArg some he684
      refine PJ.blockRet ?_
      obtain rfl := oi h683
      exact kZ hFn hFH hFD

def exergueref10_number (x0 : St25) (x1 : List Int) (x2 : Int) : Option (St25 × Int × Bool) :=
 (Option.bind (exergueref10_many x1 x2 64) fun y1 => (Option.bind (bif (decide (y1 > 0)) then (Option.bind (exergueref10_many x1 (IntKind.wrap .i64 (x2 + y1)) 35) fun y41 => (some (.inl ((IntKind.wrap .i64 ((IntKind.wrap .i64 (x2 + y1)) + y41)), x0.Pre_, x0.Suf_, x0.NPre_, x0.NSuf_, x0.Neg_, x0.Hash_, x0.MinInt_, x0.MinFrac_, x0.MaxFrac_, x0.G1_, x0.G2_, y1, (IntKind.wrap .i64 (y1 + y41)), x0.Exp_, x0.ExpPlus_, x0.Pad_, x0.PadAt_)))) else (Option.bind (exergueref10_places x0 x1 x2) fun y44 => (bif (!y44.2.2) then (some (.inr (x0, y44.2.1, false))) else (Option.bind (exergueref10_at x1 y44.2.1) fun y51 => (bif (decide (y51 = 46)) then (Option.bind (exergueref10_many x1 (IntKind.wrap .i64 (y44.2.1 + 1)) 48) fun y57 => (Option.bind (exergueref10_many x1 ((IntKind.wrap .i64 ((IntKind.wrap .i64 (y44.2.1 + 1)) + y57))) 35) fun y60 => (bif (decide ((IntKind.wrap .i64 (y57 + y60)) = 0)) then (some (.inr ((⟨y44.1.Pre_, y44.1.Suf_, y44.1.NPre_, y44.1.NSuf_, y44.1.Neg_, y44.1.Hash_, y44.1.MinInt_, y57, (IntKind.wrap .i64 (y57 + y60)), y44.1.G1_, y44.1.G2_, y44.1.MinSig_, y44.1.MaxSig_, y44.1.Exp_, y44.1.ExpPlus_, y44.1.Pad_, y44.1.PadAt_⟩ : St25), (IntKind.wrap .i64 (((IntKind.wrap .i64 ((IntKind.wrap .i64 (y44.2.1 + 1)) + y57))) + y60)), false))) else (some (.inl ((IntKind.wrap .i64 (((IntKind.wrap .i64 ((IntKind.wrap .i64 (y44.2.1 + 1)) + y57))) + y60)), y44.1.Pre_, y44.1.Suf_, y44.1.NPre_, y44.1.NSuf_, y44.1.Neg_, y44.1.Hash_, y44.1.MinInt_, y57, (IntKind.wrap .i64 (y57 + y60)), y44.1.G1_, y44.1.G2_, y44.1.MinSig_, y44.1.MaxSig_, y44.1.Exp_, y44.1.ExpPlus_, y44.1.Pad_, y44.1.PadAt_)))))) else (some (.inl (y44.2.1, y44.1.Pre_, y44.1.Suf_, y44.1.NPre_, y44.1.NSuf_, y44.1.Neg_, y44.1.Hash_, y44.1.MinInt_, y44.1.MinFrac_, y44.1.MaxFrac_, y44.1.G1_, y44.1.G2_, y44.1.MinSig_, y44.1.MaxSig_, y44.1.Exp_, y44.1.ExpPlus_, y44.1.Pad_, y44.1.PadAt_)))))))) (joinX fun (s33 : Int × (List St106) × (List St106) × (List St106) × (List St106) × Bool × Int × Int × Int × Int × Int × Int × Int × Int × Int × Bool × Int × Int) => (Option.bind (exergueref10_at x1 s33.1) fun y67 => (bif (decide (¬ y67 = 69)) then (some ((⟨s33.2.1, s33.2.2.1, s33.2.2.2.1, s33.2.2.2.2.1, s33.2.2.2.2.2.1, s33.2.2.2.2.2.2.1, s33.2.2.2.2.2.2.2.1, s33.2.2.2.2.2.2.2.2.1, s33.2.2.2.2.2.2.2.2.2.1, s33.2.2.2.2.2.2.2.2.2.2.1, s33.2.2.2.2.2.2.2.2.2.2.2.1, s33.2.2.2.2.2.2.2.2.2.2.2.2.1, s33.2.2.2.2.2.2.2.2.2.2.2.2.2.1, s33.2.2.2.2.2.2.2.2.2.2.2.2.2.2.1, s33.2.2.2.2.2.2.2.2.2.2.2.2.2.2.2.1, s33.2.2.2.2.2.2.2.2.2.2.2.2.2.2.2.2.1, s33.2.2.2.2.2.2.2.2.2.2.2.2.2.2.2.2.2⟩ : St25), s33.1, true)) else (Option.bind (Option.bind (exergueref10_at x1 (IntKind.wrap .i64 (s33.1 + 1))) fun y84 => (bif (decide (y84 = 43)) then (some ((IntKind.wrap .i64 ((IntKind.wrap .i64 (s33.1 + 1)) + 1)), true)) else (some ((IntKind.wrap .i64 (s33.1 + 1)), s33.2.2.2.2.2.2.2.2.2.2.2.2.2.2.2.1)))) fun (s79 : Int × Bool) => (Option.bind (exergueref10_many x1 s79.1 48) fun y90 => (some ((⟨s33.2.1, s33.2.2.1, s33.2.2.2.1, s33.2.2.2.2.1, s33.2.2.2.2.2.1, s33.2.2.2.2.2.2.1, s33.2.2.2.2.2.2.2.1, s33.2.2.2.2.2.2.2.2.1, s33.2.2.2.2.2.2.2.2.2.1, s33.2.2.2.2.2.2.2.2.2.2.1, s33.2.2.2.2.2.2.2.2.2.2.2.1, s33.2.2.2.2.2.2.2.2.2.2.2.2.1, s33.2.2.2.2.2.2.2.2.2.2.2.2.2.1, y90, s79.2, s33.2.2.2.2.2.2.2.2.2.2.2.2.2.2.2.2.1, s33.2.2.2.2.2.2.2.2.2.2.2.2.2.2.2.2.2⟩ : St25), (IntKind.wrap .i64 (s79.1 + y90)), (decide (y90 > 0)))))))))))
theorem exergueref10_number_ok {x0 : St25} {x1 : List Int} {x2 : Int} {r : St25 × Int × Bool} (h : exergueref10_number x0 x1 x2 = some r) : SC Tryz.prog 109 [.agg (encSt25 x0), lsv (encI .i32) 1 x1, .int .i64 x2] [] (.tup [.agg (encSt25 r.1), .int .i64 r.2.1, .bool r.2.2]) [] := by
 refine kFn (fn := Tryz.f109) (fun F hFn hFH hFD => ?_)
 unfold exergueref10_number at h
 refine kSR ?_
 refine kC 4 [1,2,3,6,7,8] ?_
 refine kEN ?_
 refine kSR ?_
 refine kC 2 [1,2,3,6,7,8,16,17] ?_
 obtain ⟨y1, hy2, h3⟩ := bindS h
 refine RJ.call0 (d := (some 18)) (f := 126) (args := [lsv (encI .i32) 1 x1, .int .i64 x2, .int .i32 64]) (v := .int .i64 y1) (tr2 := []) (by kernel_rfl) (by kernel_rfl) (.cons (Le.refl _) (.cons (Le.refl _) (.cons (Le.refl _) .nil))) (exergueref10_many_ok hy2) (by kernel_rfl) ?_
 refine kC 1 [1,2,3,6,7,8,9] ?_
 refine kEN ?_
 obtain ⟨y34, hy35, h36⟩ := bindS h3
 refine K.cutX (by kernel_rfl) (fun (s33 : Int × (List St106) × (List St106) × (List St106) × (List St106) × Bool × Int × Int × Int × Int × Int × Int × Int × Int × Int × Bool × Int × Int) => ([(1, lsv (encI .i32) 1 x1), (2, .int .i64 s33.1), (3, .ptr 0 0), (6, .ptr 1 0), (7, .int .i64 0), (8, .bool false)], [.box [lsv encSt106 2 s33.2.1, lsv encSt106 2 s33.2.2.1, lsv encSt106 2 s33.2.2.2.1, lsv encSt106 2 s33.2.2.2.2.1, .bool s33.2.2.2.2.2.1, .int .i64 s33.2.2.2.2.2.2.1, .int .i64 s33.2.2.2.2.2.2.2.1, .int .i64 s33.2.2.2.2.2.2.2.2.1, .int .i64 s33.2.2.2.2.2.2.2.2.2.1, .int .i64 s33.2.2.2.2.2.2.2.2.2.2.1, .int .i64 s33.2.2.2.2.2.2.2.2.2.2.2.1, .int .i64 s33.2.2.2.2.2.2.2.2.2.2.2.2.1, .int .i64 s33.2.2.2.2.2.2.2.2.2.2.2.2.2.1, .int .i64 s33.2.2.2.2.2.2.2.2.2.2.2.2.2.2.1, .bool s33.2.2.2.2.2.2.2.2.2.2.2.2.2.2.2.1, .int .i32 s33.2.2.2.2.2.2.2.2.2.2.2.2.2.2.2.2.1, .int .i64 s33.2.2.2.2.2.2.2.2.2.2.2.2.2.2.2.2.2], .box [.nl, .nl, .nl, .nl, .bool false, .int .i64 0, .int .i64 0, .int .i64 0, .int .i64 0, .int .i64 0, .int .i64 0, .int .i64 0, .int .i64 0, .int .i64 0, .bool false, .int .i32 0, .int .i64 0]])) y34 ?_ (fun s33 hs => ?_)
 ·refine kSR ?_
  refine RJ.seg 2 [1, 2, 3, 6, 7, 8, 9, 20] (L2 := [(1, lsv (encI .i32) 1 x1), (2, .int .i64 x2), (3, .ptr 0 0), (6, .ptr 1 0), (7, .int .i64 0), (8, .bool false), (9, .int .i64 y1), (20, .bool (decide (y1 > 0)))]) (H2 := [.box (encSt25 x0), .box [.nl, .nl, .nl, .nl, .bool false, .int .i64 0, .int .i64 0, .int .i64 0, .int .i64 0, .int .i64 0, .int .i64 0, .int .i64 0, .int .i64 0, .int .i64 0, .bool false, .int .i32 0, .int .i64 0]]) (by kernel_rfl) ?_
  refine kEN ?_
  refine J.caseB 20 (b := (decide (y1 > 0))) (by kernel_rfl) (fun hb38 => ?_) (fun hb38 => ?_)
  ·have h39 := condT hb38 hy35
   refine kT ?_
   refine kSR ?_
   refine kC 4 [1,2,3,6,7,8,9,21,24] ?_
   obtain ⟨y41, hy42, h43⟩ := bindS h39
   refine RJ.call0 (d := (some 25)) (f := 126) (args := [lsv (encI .i32) 1 x1, .int .i64 (IntKind.wrap .i64 (x2 + y1)), .int .i32 35]) (v := .int .i64 y41) (tr2 := []) (by kernel_rfl) (by kernel_rfl) (.cons (Le.refl _) (.cons (Le.refl _) (.cons (Le.refl _) .nil))) (exergueref10_many_ok hy42) (by kernel_rfl) ?_
   refine kC 1 [1,2,3,6,7,8,9,10] ?_
   refine kEN ?_
   refine kSR ?_
   refine kC 3 [1,2,3,6,7,8,9,10] ?_
   refine kEN ?_
   refine kSR ?_
   refine RJ.seg 5 [1, 2, 3, 6, 7, 8, 9, 10] (L2 := [(1, lsv (encI .i32) 1 x1), (2, .int .i64 x2), (3, .ptr 0 0), (6, .ptr 1 0), (7, .int .i64 0), (8, .bool false), (9, .int .i64 y1), (10, .int .i64 y41)]) (H2 := [.box [lsv encSt106 2 x0.Pre_, lsv encSt106 2 x0.Suf_, lsv encSt106 2 x0.NPre_, lsv encSt106 2 x0.NSuf_, .bool x0.Neg_, .int .i64 x0.Hash_, .int .i64 x0.MinInt_, .int .i64 x0.MinFrac_, .int .i64 x0.MaxFrac_, .int .i64 x0.G1_, .int .i64 x0.G2_, .int .i64 y1, .int .i64 (IntKind.wrap .i64 (y1 + y41)), .int .i64 x0.Exp_, .bool x0.ExpPlus_, .int .i32 x0.Pad_, .int .i64 x0.PadAt_], .box [.nl, .nl, .nl, .nl, .bool false, .int .i64 0, .int .i64 0, .int .i64 0, .int .i64 0, .int .i64 0, .int .i64 0, .int .i64 0, .int .i64 0, .int .i64 0, .bool false, .int .i32 0, .int .i64 0]]) (by kernel_rfl) ?_
   refine kEN ?_
   refine kR ?_
   refine kC 6 [1,2,3,6,7,8] ?_
   refine kE ?_
   obtain rfl := oi h43
   exact PJ.cutXl [1, 2, 3, 6, 7, 8] (by kernel_rfl) (by kernel_rfl)
  ·have h40 := condF hb38 hy35
   refine kF ?_
   refine kSR ?_
   refine kC 3 [1,2,3,6,7,8,38,39,40] ?_
   obtain ⟨y44, hy45, h46⟩ := bindS h40
   refine RJ.call0 (d := (some 41)) (f := 127) (args := [.agg (encSt25 x0), lsv (encI .i32) 1 x1, .int .i64 x2]) (v := .tup [.agg (encSt25 y44.1), .int .i64 y44.2.1, .bool y44.2.2]) (tr2 := []) (by kernel_rfl) (by kernel_rfl) (.cons (Le.refl _) (.cons (Le.refl _) (.cons (Le.refl _) .nil))) (exergueref10_places_ok hy45) (by kernel_rfl) ?_
   refine kC 8 [1,2,3,6,7,8,11,12,13] ?_
   refine kEN ?_
   refine kS ?_
   refine kSR ?_
   refine kC 2 [1,2,3,6,7,8,11,12,46] ?_
   refine kEN ?_
   refine J.caseB 46 (b := (!y44.2.2)) (by kernel_rfl) (fun hb47 => ?_) (fun hb47 => ?_)
   ·have h48 := condT hb47 h46
    refine kT ?_
    refine kSR ?_
    refine RJ.seg 5 [1, 2, 3, 6, 7, 8, 11, 12] (L2 := [(1, lsv (encI .i32) 1 x1), (2, .int .i64 x2), (3, .ptr 0 0), (6, .ptr 1 0), (7, .int .i64 y44.2.1), (8, .bool false), (11, .ptr 2 0), (12, .int .i64 y44.2.1)]) (H2 := [.box (encSt25 x0), .box (encSt25 x0), .box (encSt25 y44.1)]) (by kernel_rfl) ?_
    refine kEN ?_
    refine kX ?_
    refine PJ.passRet ?_
    obtain rfl := oi h48
    have h50 := joinX_inr h36
    refine PJ.cutXr (fun e => nomatch e) ?_
    obtain rfl := oi h50
    exact kZ hFn hFH hFD
   ·have h49 := condF hb47 h46
    refine kF ?_
    refine kK ?_
    refine PJ.next ?_
    refine kSR ?_
    refine RJ.seg 2 [1, 2, 3, 6, 7, 8, 12] (L2 := [(1, lsv (encI .i32) 1 x1), (2, .int .i64 x2), (3, .ptr 0 0), (6, .ptr 1 0), (7, .int .i64 0), (8, .bool false), (12, .int .i64 y44.2.1)]) (H2 := [.box (encSt25 y44.1), .box [.nl, .nl, .nl, .nl, .bool false, .int .i64 0, .int .i64 0, .int .i64 0, .int .i64 0, .int .i64 0, .int .i64 0, .int .i64 0, .int .i64 0, .int .i64 0, .bool false, .int .i32 0, .int .i64 0], .box (encSt25 y44.1)]) (by kernel_rfl) ?_
    refine kEN ?_
    refine kSR ?_
    refine kC 2 [1,2,3,6,7,8] ?_
    refine kEN ?_
    refine kSR ?_
    refine kC 2 [1,2,3,6,7,8,51,52] ?_
    obtain ⟨y51, hy52, h53⟩ := bindS h49
    refine RJ.call0 (d := (some 53)) (f := 83) (args := [lsv (encI .i32) 1 x1, .int .i64 y44.2.1]) (v := .int .i32 y51) (tr2 := []) (by kernel_rfl) (by kernel_rfl) (.cons (Le.refl _) (.cons (Le.refl _) .nil)) (exergueref10_at_ok hy52) (by kernel_rfl) ?_
    refine kC 1 [1,2,3,6,7,8,54] ?_
    refine kEN ?_
    refine J.caseB 54 (b := (decide (y51 = 46))) (by kernel_rfl) (fun hb54 => ?_) (fun hb54 => ?_)
    ·have h55 := condT hb54 h53
     refine kT ?_
     refine kSR ?_
     refine RJ.seg 3 [1, 2, 3, 6, 7, 8, 55, 57] (L2 := [(1, lsv (encI .i32) 1 x1), (2, .int .i64 y44.2.1), (3, .ptr 0 0), (6, .ptr 1 0), (7, .int .i64 0), (8, .bool false), (55, lsv (encI .i32) 1 x1), (57, .int .i64 (IntKind.wrap .i64 (y44.2.1 + 1)))]) (H2 := [.box (encSt25 y44.1), .box [.nl, .nl, .nl, .nl, .bool false, .int .i64 0, .int .i64 0, .int .i64 0, .int .i64 0, .int .i64 0, .int .i64 0, .int .i64 0, .int .i64 0, .int .i64 0, .bool false, .int .i32 0, .int .i64 0], .box (encSt25 y44.1)]) (by kernel_rfl) ?_
     obtain ⟨y57, hy58, h59⟩ := bindS h55
     refine RJ.call0 (d := (some 58)) (f := 126) (args := [lsv (encI .i32) 1 x1, .int .i64 (IntKind.wrap .i64 (y44.2.1 + 1)), .int .i32 48]) (v := .int .i64 y57) (tr2 := []) (by kernel_rfl) (by kernel_rfl) (.cons (Le.refl _) (.cons (Le.refl _) (.cons (Le.refl _) .nil))) (exergueref10_many_ok hy58) (by kernel_rfl) ?_
     refine kC 1 [1,2,3,6,7,8,14] ?_
     refine kEN ?_
     refine kSR ?_
     refine kC 5 [1,2,3,6,7,8,14,59,63] ?_
     obtain ⟨y60, hy61, h62⟩ := bindS h59
     refine RJ.call0 (d := (some 64)) (f := 126) (args := [lsv (encI .i32) 1 x1, .int .i64 ((IntKind.wrap .i64 ((IntKind.wrap .i64 (y44.2.1 + 1)) + y57))), .int .i32 35]) (v := .int .i64 y60) (tr2 := []) (by kernel_rfl) (by kernel_rfl) (.cons (Le.refl _) (.cons (Le.refl _) (.cons (Le.refl _) .nil))) (exergueref10_many_ok hy61) (by kernel_rfl) ?_
     refine kC 1 [1,2,3,6,7,8,14,15] ?_
     refine kEN ?_
     refine kSR ?_
     refine RJ.seg 3 [1, 2, 3, 6, 7, 8, 14, 15] (L2 := [(1, lsv (encI .i32) 1 x1), (2, .int .i64 y44.2.1), (3, .ptr 0 0), (6, .ptr 1 0), (7, .int .i64 0), (8, .bool false), (14, .int .i64 y57), (15, .int .i64 y60)]) (H2 := [.box [lsv encSt106 2 y44.1.Pre_, lsv encSt106 2 y44.1.Suf_, lsv encSt106 2 y44.1.NPre_, lsv encSt106 2 y44.1.NSuf_, .bool y44.1.Neg_, .int .i64 y44.1.Hash_, .int .i64 y44.1.MinInt_, .int .i64 y57, .int .i64 y44.1.MaxFrac_, .int .i64 y44.1.G1_, .int .i64 y44.1.G2_, .int .i64 y44.1.MinSig_, .int .i64 y44.1.MaxSig_, .int .i64 y44.1.Exp_, .bool y44.1.ExpPlus_, .int .i32 y44.1.Pad_, .int .i64 y44.1.PadAt_], .box [.nl, .nl, .nl, .nl, .bool false, .int .i64 0, .int .i64 0, .int .i64 0, .int .i64 0, .int .i64 0, .int .i64 0, .int .i64 0, .int .i64 0, .int .i64 0, .bool false, .int .i32 0, .int .i64 0], .box (encSt25 y44.1)]) (by kernel_rfl) ?_
     refine kEN ?_
     refine kSR ?_
     refine kC 5 [1,2,3,6,7,8,14,15] ?_
     refine kEN ?_
     refine kSR ?_
     refine kC 7 [1,2,3,6,7,8,14,15] ?_
     refine kEN ?_
     refine kSR ?_
     refine kC 4 [1,2,3,6,7,8,80] ?_
     refine kEN ?_
     refine J.caseB 80 (b := (decide ((IntKind.wrap .i64 (y57 + y60)) = 0))) (by kernel_rfl) (fun hb63 => ?_) (fun hb63 => ?_)
     ·have h64 := condT hb63 h62
      refine kT ?_
      refine kSR ?_
      refine RJ.seg 5 [1, 2, 3, 6, 7, 8] (L2 := [(1, lsv (encI .i32) 1 x1), (2, .int .i64 ((IntKind.wrap .i64 (((IntKind.wrap .i64 ((IntKind.wrap .i64 (y44.2.1 + 1)) + y57))) + y60)))), (3, .ptr 0 0), (6, .ptr 1 0), (7, .int .i64 ((IntKind.wrap .i64 (((IntKind.wrap .i64 ((IntKind.wrap .i64 (y44.2.1 + 1)) + y57))) + y60)))), (8, .bool false)]) (H2 := [.box [lsv encSt106 2 y44.1.Pre_, lsv encSt106 2 y44.1.Suf_, lsv encSt106 2 y44.1.NPre_, lsv encSt106 2 y44.1.NSuf_, .bool y44.1.Neg_, .int .i64 y44.1.Hash_, .int .i64 y44.1.MinInt_, .int .i64 y57, .int .i64 (IntKind.wrap .i64 (y57 + y60)), .int .i64 y44.1.G1_, .int .i64 y44.1.G2_, .int .i64 y44.1.MinSig_, .int .i64 y44.1.MaxSig_, .int .i64 y44.1.Exp_, .bool y44.1.ExpPlus_, .int .i32 y44.1.Pad_, .int .i64 y44.1.PadAt_], .box [lsv encSt106 2 y44.1.Pre_, lsv encSt106 2 y44.1.Suf_, lsv encSt106 2 y44.1.NPre_, lsv encSt106 2 y44.1.NSuf_, .bool y44.1.Neg_, .int .i64 y44.1.Hash_, .int .i64 y44.1.MinInt_, .int .i64 y57, .int .i64 (IntKind.wrap .i64 (y57 + y60)), .int .i64 y44.1.G1_, .int .i64 y44.1.G2_, .int .i64 y44.1.MinSig_, .int .i64 y44.1.MaxSig_, .int .i64 y44.1.Exp_, .bool y44.1.ExpPlus_, .int .i32 y44.1.Pad_, .int .i64 y44.1.PadAt_], .box (encSt25 y44.1)]) (by kernel_rfl) ?_
      refine kEN ?_
      refine kX ?_
      obtain rfl := oi h64
      have h66 := joinX_inr h36
      refine PJ.cutXr (fun e => nomatch e) ?_
      obtain rfl := oi h66
      exact kZ hFn hFH hFD
     ·have h65 := condF hb63 h62
      refine kF ?_
      refine kK ?_
      obtain rfl := oi h65
      refine PJ.wk (Wk.sel (L2 := [(1, lsv (encI .i32) 1 x1), (2, .int .i64 ((IntKind.wrap .i64 (((IntKind.wrap .i64 ((IntKind.wrap .i64 (y44.2.1 + 1)) + y57))) + y60)))), (3, .ptr 0 0), (6, .ptr 1 0), (7, .int .i64 0), (8, .bool false)]) (H2 := [.box [lsv encSt106 2 y44.1.Pre_, lsv encSt106 2 y44.1.Suf_, lsv encSt106 2 y44.1.NPre_, lsv encSt106 2 y44.1.NSuf_, .bool y44.1.Neg_, .int .i64 y44.1.Hash_, .int .i64 y44.1.MinInt_, .int .i64 y57, .int .i64 (IntKind.wrap .i64 (y57 + y60)), .int .i64 y44.1.G1_, .int .i64 y44.1.G2_, .int .i64 y44.1.MinSig_, .int .i64 y44.1.MaxSig_, .int .i64 y44.1.Exp_, .bool y44.1.ExpPlus_, .int .i32 y44.1.Pad_, .int .i64 y44.1.PadAt_], .box [.nl, .nl, .nl, .nl, .bool false, .int .i64 0, .int .i64 0, .int .i64 0, .int .i64 0, .int .i64 0, .int .i64 0, .int .i64 0, .int .i64 0, .int .i64 0, .bool false, .int .i32 0, .int .i64 0]]) 0 (by rw [hFH]; rfl) hFD [0, 1] (by kernel_rfl) (by kernel_rfl) (by decide) (by kernel_rfl) (by kernel_rfl) (by kernel_rfl) (by kernel_rfl)) ?_
      exact PJ.cutXl [1, 2, 3, 6, 7, 8] (by kernel_rfl) (by kernel_rfl)
    ·have h56 := condF hb54 h53
     refine kF ?_
     refine kK ?_
     obtain rfl := oi h56
     refine PJ.wk (Wk.sel (L2 := [(1, lsv (encI .i32) 1 x1), (2, .int .i64 y44.2.1), (3, .ptr 0 0), (6, .ptr 1 0), (7, .int .i64 0), (8, .bool false)]) (H2 := [.box (encSt25 y44.1), .box [.nl, .nl, .nl, .nl, .bool false, .int .i64 0, .int .i64 0, .int .i64 0, .int .i64 0, .int .i64 0, .int .i64 0, .int .i64 0, .int .i64 0, .int .i64 0, .bool false, .int .i32 0, .int .i64 0]]) 0 (by rw [hFH]; rfl) hFD [0, 1] (by kernel_rfl) (by kernel_rfl) (by decide) (by kernel_rfl) (by kernel_rfl) (by kernel_rfl) (by kernel_rfl)) ?_
     exact PJ.cutXl [1, 2, 3, 6, 7, 8] (by kernel_rfl) (by kernel_rfl)
 ·subst hs
  have h37 := joinX_inl h36
  refine kS ?_
  refine kSR ?_
  refine kC 2 [1,2,3,6,7,8,83,84] ?_
  obtain ⟨y67, hy68, h69⟩ := bindS h37
  refine RJ.call0 (d := (some 85)) (f := 83) (args := [lsv (encI .i32) 1 x1, .int .i64 s33.1]) (v := .int .i32 y67) (tr2 := []) (by kernel_rfl) (by kernel_rfl) (.cons (Le.refl _) (.cons (Le.refl _) .nil)) (exergueref10_at_ok hy68) (by kernel_rfl) ?_
  refine kC 1 [1,2,3,6,7,8,86] ?_
  refine kEN ?_
  refine J.caseB 86 (b := (decide (¬ y67 = 69))) (by kernel_rfl) (fun hb70 => ?_) (fun hb70 => ?_)
  ·have h71 := condT hb70 h69
   refine kT ?_
   refine kSR ?_
   refine kC 5 [1,2,3,6,7,8] ?_
   refine kEN ?_
   refine kX ?_
   refine PJ.passRet ?_
   obtain rfl := oi h71
   exact kZ hFn hFH hFD
  ·have h72 := condF hb70 h69
   refine kF ?_
   refine kK ?_
   refine PJ.next ?_
   refine kSR ?_
   refine kC 3 [1,2,3,6,7,8] ?_
   refine kEN ?_
   obtain ⟨s79, hy81, h83⟩ := bindS h72
   refine K.cutN (by kernel_rfl) (fun (s79 : Int × Bool) => ([(1, lsv (encI .i32) 1 x1), (2, .int .i64 s79.1), (3, .ptr 0 0), (6, .ptr 1 0), (7, .int .i64 0), (8, .bool false)], [.box [lsv encSt106 2 s33.2.1, lsv encSt106 2 s33.2.2.1, lsv encSt106 2 s33.2.2.2.1, lsv encSt106 2 s33.2.2.2.2.1, .bool s33.2.2.2.2.2.1, .int .i64 s33.2.2.2.2.2.2.1, .int .i64 s33.2.2.2.2.2.2.2.1, .int .i64 s33.2.2.2.2.2.2.2.2.1, .int .i64 s33.2.2.2.2.2.2.2.2.2.1, .int .i64 s33.2.2.2.2.2.2.2.2.2.2.1, .int .i64 s33.2.2.2.2.2.2.2.2.2.2.2.1, .int .i64 s33.2.2.2.2.2.2.2.2.2.2.2.2.1, .int .i64 s33.2.2.2.2.2.2.2.2.2.2.2.2.2.1, .int .i64 s33.2.2.2.2.2.2.2.2.2.2.2.2.2.2.1, .bool s79.2, .int .i32 s33.2.2.2.2.2.2.2.2.2.2.2.2.2.2.2.2.1, .int .i64 s33.2.2.2.2.2.2.2.2.2.2.2.2.2.2.2.2.2], .box [.nl, .nl, .nl, .nl, .bool false, .int .i64 0, .int .i64 0, .int .i64 0, .int .i64 0, .int .i64 0, .int .i64 0, .int .i64 0, .int .i64 0, .int .i64 0, .bool false, .int .i32 0, .int .i64 0]])) s79 ?_ ?_
   ·refine kSR ?_
    refine RJ.seg 2 [1, 2, 3, 6, 7, 8, 91, 92] (L2 := [(1, lsv (encI .i32) 1 x1), (2, .int .i64 (IntKind.wrap .i64 (s33.1 + 1))), (3, .ptr 0 0), (6, .ptr 1 0), (7, .int .i64 0), (8, .bool false), (91, lsv (encI .i32) 1 x1), (92, .int .i64 (IntKind.wrap .i64 (s33.1 + 1)))]) (H2 := [.box [lsv encSt106 2 s33.2.1, lsv encSt106 2 s33.2.2.1, lsv encSt106 2 s33.2.2.2.1, lsv encSt106 2 s33.2.2.2.2.1, .bool s33.2.2.2.2.2.1, .int .i64 s33.2.2.2.2.2.2.1, .int .i64 s33.2.2.2.2.2.2.2.1, .int .i64 s33.2.2.2.2.2.2.2.2.1, .int .i64 s33.2.2.2.2.2.2.2.2.2.1, .int .i64 s33.2.2.2.2.2.2.2.2.2.2.1, .int .i64 s33.2.2.2.2.2.2.2.2.2.2.2.1, .int .i64 s33.2.2.2.2.2.2.2.2.2.2.2.2.1, .int .i64 s33.2.2.2.2.2.2.2.2.2.2.2.2.2.1, .int .i64 s33.2.2.2.2.2.2.2.2.2.2.2.2.2.2.1, .bool s33.2.2.2.2.2.2.2.2.2.2.2.2.2.2.2.1, .int .i32 s33.2.2.2.2.2.2.2.2.2.2.2.2.2.2.2.2.1, .int .i64 s33.2.2.2.2.2.2.2.2.2.2.2.2.2.2.2.2.2], .box [.nl, .nl, .nl, .nl, .bool false, .int .i64 0, .int .i64 0, .int .i64 0, .int .i64 0, .int .i64 0, .int .i64 0, .int .i64 0, .int .i64 0, .int .i64 0, .bool false, .int .i32 0, .int .i64 0]]) (by kernel_rfl) ?_
    obtain ⟨y84, hy85, h86⟩ := bindS hy81
    refine RJ.call0 (d := (some 93)) (f := 83) (args := [lsv (encI .i32) 1 x1, .int .i64 (IntKind.wrap .i64 (s33.1 + 1))]) (v := .int .i32 y84) (tr2 := []) (by kernel_rfl) (by kernel_rfl) (.cons (Le.refl _) (.cons (Le.refl _) .nil)) (exergueref10_at_ok hy85) (by kernel_rfl) ?_
    refine kC 1 [1,2,3,6,7,8,94] ?_
    refine kEN ?_
    refine J.caseB 94 (b := (decide (y84 = 43))) (by kernel_rfl) (fun hb87 => ?_) (fun hb87 => ?_)
    ·have h88 := condT hb87 h86
     refine kT ?_
     refine kSR ?_
     refine kC 2 [1,2,3,6,7,8] ?_
     refine kEN ?_
     refine kR ?_
     refine kC 3 [1,2,3,6,7,8] ?_
     refine kE ?_
     obtain rfl := oi h88
     exact kN [1, 2, 3, 6, 7, 8]
    ·have h89 := condF hb87 h86
     refine kF ?_
     refine kK ?_
     obtain rfl := oi h89
     exact kN [1, 2, 3, 6, 7, 8]
   ·refine kSR ?_
    refine kC 2 [2,3,6,7,8,98,99] ?_
    obtain ⟨y90, hy91, h92⟩ := bindS h83
    refine RJ.call0 (d := (some 100)) (f := 126) (args := [lsv (encI .i32) 1 x1, .int .i64 s79.1, .int .i32 48]) (v := .int .i64 y90) (tr2 := []) (by kernel_rfl) (by kernel_rfl) (.cons (Le.refl _) (.cons (Le.refl _) (.cons (Le.refl _) .nil))) (exergueref10_many_ok hy91) (by kernel_rfl) ?_
    refine kC 2 [2,3,6,7,8] ?_
    refine kEN ?_
    refine kS ?_
    refine J.keep [2, 3, 6, 7, 8] (L2 := [(2, .int .i64 s79.1), (3, .ptr 0 0), (6, .ptr 1 0), (7, .int .i64 0), (8, .bool false)]) (by kernel_rfl) ?_
    refine K.draw (by kernel_rfl) (by kernel_rfl) (by kernel_rfl) (H2 := [.box [lsv encSt106 2 s33.2.1, lsv encSt106 2 s33.2.2.1, lsv encSt106 2 s33.2.2.2.1, lsv encSt106 2 s33.2.2.2.2.1, .bool s33.2.2.2.2.2.1, .int .i64 s33.2.2.2.2.2.2.1, .int .i64 s33.2.2.2.2.2.2.2.1, .int .i64 s33.2.2.2.2.2.2.2.2.1, .int .i64 s33.2.2.2.2.2.2.2.2.2.1, .int .i64 s33.2.2.2.2.2.2.2.2.2.2.1, .int .i64 s33.2.2.2.2.2.2.2.2.2.2.2.1, .int .i64 s33.2.2.2.2.2.2.2.2.2.2.2.2.1, .int .i64 s33.2.2.2.2.2.2.2.2.2.2.2.2.2.1, .int .i64 y90, .bool s79.2, .int .i32 s33.2.2.2.2.2.2.2.2.2.2.2.2.2.2.2.2.1, .int .i64 s33.2.2.2.2.2.2.2.2.2.2.2.2.2.2.2.2.2], .box [.nl, .nl, .nl, .nl, .bool false, .int .i64 0, .int .i64 0, .int .i64 0, .int .i64 0, .int .i64 0, .int .i64 0, .int .i64 0, .int .i64 0, .int .i64 0, .bool false, .int .i32 0, .int .i64 0]]) (by kernel_rfl) (n := 2) (by kernel_rfl) ?_
    refine kD 11 ?_
    refine kEN ?_
    refine kX ?_
    obtain rfl := oi h92
    exact kZ hFn hFH hFD

def exergueref10_first (x0 : List Int) : Option (St25 × Int × Int × Int × Bool) :=
 (Option.bind (exergueref10_pad (⟨([] : List St106), ([] : List St106), ([] : List St106), ([] : List St106), false, 0, 0, 0, 0, 0, 0, 0, 0, 0, false, 0, 0⟩ : St25) x0 0 1) fun y1 => (bif (!y1.2.2) then (some (y1.1, 0, 0, y1.2.1, false)) else (Option.bind (exergueref10_affix x0 y1.2.1) fun y7 => (bif (!y7.2.2) then (some (y1.1, 0, 0, y7.2.1, false)) else (Option.bind (exergueref10_pad (⟨y7.1, y1.1.Suf_, y1.1.NPre_, y1.1.NSuf_, y1.1.Neg_, y1.1.Hash_, y1.1.MinInt_, y1.1.MinFrac_, y1.1.MaxFrac_, y1.1.G1_, y1.1.G2_, y1.1.MinSig_, y1.1.MaxSig_, y1.1.Exp_, y1.1.ExpPlus_, y1.1.Pad_, y1.1.PadAt_⟩ : St25) x0 y7.2.1 2) fun y13 => (bif (!y13.2.2) then (some ((⟨y7.1, y1.1.Suf_, y1.1.NPre_, y1.1.NSuf_, y1.1.Neg_, y1.1.Hash_, y1.1.MinInt_, y1.1.MinFrac_, y1.1.MaxFrac_, y1.1.G1_, y1.1.G2_, y1.1.MinSig_, y1.1.MaxSig_, y1.1.Exp_, y1.1.ExpPlus_, y1.1.Pad_, y1.1.PadAt_⟩ : St25), 0, 0, y13.2.1, false)) else (Option.bind (exergueref10_number y13.1 x0 y13.2.1) fun y19 => (bif (!y19.2.2) then (some ((⟨y7.1, y1.1.Suf_, y1.1.NPre_, y1.1.NSuf_, y1.1.Neg_, y1.1.Hash_, y1.1.MinInt_, y1.1.MinFrac_, y1.1.MaxFrac_, y1.1.G1_, y1.1.G2_, y1.1.MinSig_, y1.1.MaxSig_, y1.1.Exp_, y1.1.ExpPlus_, y1.1.Pad_, y1.1.PadAt_⟩ : St25), 0, 0, y19.2.1, false)) else (Option.bind (exergueref10_pad y19.1 x0 y19.2.1 3) fun y25 => (bif (!y25.2.2) then (some ((⟨y7.1, y1.1.Suf_, y1.1.NPre_, y1.1.NSuf_, y1.1.Neg_, y1.1.Hash_, y1.1.MinInt_, y1.1.MinFrac_, y1.1.MaxFrac_, y1.1.G1_, y1.1.G2_, y1.1.MinSig_, y1.1.MaxSig_, y1.1.Exp_, y1.1.ExpPlus_, y1.1.Pad_, y1.1.PadAt_⟩ : St25), 0, 0, y25.2.1, false)) else (Option.bind (exergueref10_affix x0 y25.2.1) fun y31 => (bif (!y31.2.2) then (some ((⟨y7.1, y1.1.Suf_, y1.1.NPre_, y1.1.NSuf_, y1.1.Neg_, y1.1.Hash_, y1.1.MinInt_, y1.1.MinFrac_, y1.1.MaxFrac_, y1.1.G1_, y1.1.G2_, y1.1.MinSig_, y1.1.MaxSig_, y1.1.Exp_, y1.1.ExpPlus_, y1.1.Pad_, y1.1.PadAt_⟩ : St25), 0, 0, y31.2.1, false)) else (Option.bind (exergueref10_pad (⟨y25.1.Pre_, y31.1, y25.1.NPre_, y25.1.NSuf_, y25.1.Neg_, y25.1.Hash_, y25.1.MinInt_, y25.1.MinFrac_, y25.1.MaxFrac_, y25.1.G1_, y25.1.G2_, y25.1.MinSig_, y25.1.MaxSig_, y25.1.Exp_, y25.1.ExpPlus_, y25.1.Pad_, y25.1.PadAt_⟩ : St25) x0 y31.2.1 4) fun y37 => (some (y37.1, y13.2.1, y19.2.1, y37.2.1, y37.2.2)))))))))))))))
theorem exergueref10_first_ok {x0 : List Int} {r : St25 × Int × Int × Int × Bool} (h : exergueref10_first x0 = some r) : SC Tryz.prog 82 [lsv (encI .i32) 1 x0] [] (.tup [.agg (encSt25 r.1), .int .i64 r.2.1, .int .i64 r.2.2.1, .int .i64 r.2.2.2.1, .bool r.2.2.2.2]) [] := by
 refine kFn (fn := Tryz.f82) (fun F hFn hFH hFD => ?_)
 unfold exergueref10_first at h
 refine kSR ?_
 refine kC 5 [0,2,3,4,5,6] ?_
 refine kEN ?_
 refine kSR ?_
 refine kC 2 [0,2,3,4,5,6,29,30] ?_
 obtain ⟨y1, hy2, h3⟩ := bindS h
 refine RJ.call0 (d := (some 31)) (f := 107) (args := [.agg [.nl, .nl, .nl, .nl, .bool false, .int .i64 0, .int .i64 0, .int .i64 0, .int .i64 0, .int .i64 0, .int .i64 0, .int .i64 0, .int .i64 0, .int .i64 0, .bool false, .int .i32 0, .int .i64 0], lsv (encI .i32) 1 x0, .int .i64 0, .int .i64 1]) (v := .tup [.agg (encSt25 y1.1), .int .i64 y1.2.1, .bool y1.2.2]) (tr2 := []) (by kernel_rfl) (by kernel_rfl) (.cons (Le.agg (.cons (Le.nl _) (.cons (Le.nl _) (.cons (Le.nl _) (.cons (Le.nl _) (.cons (Le.refl _) (.cons (Le.refl _) (.cons (Le.refl _) (.cons (Le.refl _) (.cons (Le.refl _) (.cons (Le.refl _) (.cons (Le.refl _) (.cons (Le.refl _) (.cons (Le.refl _) (.cons (Le.refl _) (.cons (Le.refl _) (.cons (Le.refl _) (.cons (Le.refl _) .nil)))))))))))))))))) (.cons (Le.refl _) (.cons (Le.refl _) (.cons (Le.refl _) .nil)))) (exergueref10_pad_ok hy2) (by kernel_rfl) ?_
 refine kC 8 [0,2,3,4,5,6,7,8,9] ?_
 refine kEN ?_
 refine kS ?_
 refine kSR ?_
 refine RJ.seg 2 [0, 2, 3, 4, 5, 6, 7, 8, 36] (L2 := [(0, lsv (encI .i32) 1 x0), (2, .ptr 0 0), (3, .int .i64 0), (4, .int .i64 0), (5, .int .i64 0), (6, .bool false), (7, .ptr 1 0), (8, .int .i64 y1.2.1), (36, .bool (!y1.2.2))]) (H2 := [.box [.nl, .nl, .nl, .nl, .bool false, .int .i64 0, .int .i64 0, .int .i64 0, .int .i64 0, .int .i64 0, .int .i64 0, .int .i64 0, .int .i64 0, .int .i64 0, .bool false, .int .i32 0, .int .i64 0], .box (encSt25 y1.1)]) (by kernel_rfl) ?_
 refine kEN ?_
 refine J.caseB 36 (b := (!y1.2.2)) (by kernel_rfl) (fun hb4 => ?_) (fun hb4 => ?_)
 ·have h5 := condT hb4 h3
  refine kT ?_
  refine kSR ?_
  refine kC 7 [0,2,3,4,5,6,7,8] ?_
  refine kEN ?_
  refine kX ?_
  refine PJ.passRet ?_
  obtain rfl := oi h5
  exact kZ hFn hFH hFD
 ·have h6 := condF hb4 h3
  refine kF ?_
  refine kK ?_
  refine PJ.next ?_
  refine kSR ?_
  refine kC 2 [0,2,3,4,5,6,7,40,41] ?_
  obtain ⟨y7, hy8, h9⟩ := bindS h6
  refine RJ.call0 (d := (some 42)) (f := 108) (args := [lsv (encI .i32) 1 x0, .int .i64 y1.2.1]) (v := .tup [lsv encSt106 2 y7.1, .int .i64 y7.2.1, .bool y7.2.2]) (tr2 := []) (by kernel_rfl) (by kernel_rfl) (.cons (Le.refl _) (.cons (Le.refl _) .nil)) (exergueref10_affix_ok hy8) (by kernel_rfl) ?_
  refine kC 7 [0,2,3,4,5,6,7,10,11,12] ?_
  refine kEN ?_
  refine kS ?_
  refine kSR ?_
  refine kC 2 [0,2,3,4,5,6,7,10,11,47] ?_
  refine kEN ?_
  refine J.caseB 47 (b := (!y7.2.2)) (by kernel_rfl) (fun hb10 => ?_) (fun hb10 => ?_)
  ·have h11 := condT hb10 h9
   refine kT ?_
   refine kSR ?_
   refine RJ.seg 7 [0, 2, 3, 4, 5, 6, 7, 10, 11] (L2 := [(0, lsv (encI .i32) 1 x0), (2, .ptr 0 0), (3, .int .i64 0), (4, .int .i64 0), (5, .int .i64 y7.2.1), (6, .bool false), (7, .ptr 1 0), (10, lsv encSt106 2 y7.1), (11, .int .i64 y7.2.1)]) (H2 := [.box (encSt25 y1.1), .box (encSt25 y1.1)]) (by kernel_rfl) ?_
   refine kEN ?_
   refine kX ?_
   refine PJ.passRet ?_
   obtain rfl := oi h11
   exact kZ hFn hFH hFD
  ·have h12 := condF hb10 h9
   refine kF ?_
   refine kK ?_
   refine PJ.next ?_
   refine kSR ?_
   refine RJ.seg 3 [0, 2, 3, 4, 5, 6, 7, 11] (L2 := [(0, lsv (encI .i32) 1 x0), (2, .ptr 0 0), (3, .int .i64 0), (4, .int .i64 0), (5, .int .i64 0), (6, .bool false), (7, .ptr 1 0), (11, .int .i64 y7.2.1)]) (H2 := [.box [.nl, .nl, .nl, .nl, .bool false, .int .i64 0, .int .i64 0, .int .i64 0, .int .i64 0, .int .i64 0, .int .i64 0, .int .i64 0, .int .i64 0, .int .i64 0, .bool false, .int .i32 0, .int .i64 0], .box [lsv encSt106 2 y7.1, lsv encSt106 2 y1.1.Suf_, lsv encSt106 2 y1.1.NPre_, lsv encSt106 2 y1.1.NSuf_, .bool y1.1.Neg_, .int .i64 y1.1.Hash_, .int .i64 y1.1.MinInt_, .int .i64 y1.1.MinFrac_, .int .i64 y1.1.MaxFrac_, .int .i64 y1.1.G1_, .int .i64 y1.1.G2_, .int .i64 y1.1.MinSig_, .int .i64 y1.1.MaxSig_, .int .i64 y1.1.Exp_, .bool y1.1.ExpPlus_, .int .i32 y1.1.Pad_, .int .i64 y1.1.PadAt_]]) (by kernel_rfl) ?_
   refine kEN ?_
   refine kSR ?_
   refine kC 3 [0,2,3,4,5,6,7,53,54,55] ?_
   obtain ⟨y13, hy14, h15⟩ := bindS h12
   refine RJ.call0 (d := (some 56)) (f := 107) (args := [.agg [lsv encSt106 2 y7.1, lsv encSt106 2 y1.1.Suf_, lsv encSt106 2 y1.1.NPre_, lsv encSt106 2 y1.1.NSuf_, .bool y1.1.Neg_, .int .i64 y1.1.Hash_, .int .i64 y1.1.MinInt_, .int .i64 y1.1.MinFrac_, .int .i64 y1.1.MaxFrac_, .int .i64 y1.1.G1_, .int .i64 y1.1.G2_, .int .i64 y1.1.MinSig_, .int .i64 y1.1.MaxSig_, .int .i64 y1.1.Exp_, .bool y1.1.ExpPlus_, .int .i32 y1.1.Pad_, .int .i64 y1.1.PadAt_], lsv (encI .i32) 1 x0, .int .i64 y7.2.1, .int .i64 2]) (v := .tup [.agg (encSt25 y13.1), .int .i64 y13.2.1, .bool y13.2.2]) (tr2 := []) (by kernel_rfl) (by kernel_rfl) (.cons (Le.refl _) (.cons (Le.refl _) (.cons (Le.refl _) (.cons (Le.refl _) .nil)))) (exergueref10_pad_ok hy14) (by kernel_rfl) ?_
   refine kC 8 [0,2,3,4,5,6,7,13,14,15] ?_
   refine kEN ?_
   refine kS ?_
   refine kSR ?_
   refine kC 2 [0,2,3,4,5,6,7,13,14,61] ?_
   refine kEN ?_
   refine J.caseB 61 (b := (!y13.2.2)) (by kernel_rfl) (fun hb16 => ?_) (fun hb16 => ?_)
   ·have h17 := condT hb16 h15
    refine kT ?_
    refine kSR ?_
    refine RJ.seg 7 [0, 2, 3, 4, 5, 6, 7, 13, 14] (L2 := [(0, lsv (encI .i32) 1 x0), (2, .ptr 0 0), (3, .int .i64 0), (4, .int .i64 0), (5, .int .i64 y13.2.1), (6, .bool false), (7, .ptr 1 0), (13, .ptr 2 0), (14, .int .i64 y13.2.1)]) (H2 := [.box [lsv encSt106 2 y7.1, lsv encSt106 2 y1.1.Suf_, lsv encSt106 2 y1.1.NPre_, lsv encSt106 2 y1.1.NSuf_, .bool y1.1.Neg_, .int .i64 y1.1.Hash_, .int .i64 y1.1.MinInt_, .int .i64 y1.1.MinFrac_, .int .i64 y1.1.MaxFrac_, .int .i64 y1.1.G1_, .int .i64 y1.1.G2_, .int .i64 y1.1.MinSig_, .int .i64 y1.1.MaxSig_, .int .i64 y1.1.Exp_, .bool y1.1.ExpPlus_, .int .i32 y1.1.Pad_, .int .i64 y1.1.PadAt_], .box [lsv encSt106 2 y7.1, lsv encSt106 2 y1.1.Suf_, lsv encSt106 2 y1.1.NPre_, lsv encSt106 2 y1.1.NSuf_, .bool y1.1.Neg_, .int .i64 y1.1.Hash_, .int .i64 y1.1.MinInt_, .int .i64 y1.1.MinFrac_, .int .i64 y1.1.MaxFrac_, .int .i64 y1.1.G1_, .int .i64 y1.1.G2_, .int .i64 y1.1.MinSig_, .int .i64 y1.1.MaxSig_, .int .i64 y1.1.Exp_, .bool y1.1.ExpPlus_, .int .i32 y1.1.Pad_, .int .i64 y1.1.PadAt_], .box (encSt25 y13.1)]) (by kernel_rfl) ?_
    refine kEN ?_
    refine kX ?_
    refine PJ.passRet ?_
    obtain rfl := oi h17
    exact kZ hFn hFH hFD
   ·have h18 := condF hb16 h15
    refine kF ?_
    refine kK ?_
    refine PJ.next ?_
    refine kSR ?_
    refine RJ.seg 3 [0, 2, 3, 4, 5, 6, 7, 14, 65, 66, 67] (L2 := [(0, lsv (encI .i32) 1 x0), (2, .ptr 0 0), (3, .int .i64 0), (4, .int .i64 0), (5, .int .i64 0), (6, .bool false), (7, .ptr 1 0), (14, .int .i64 y13.2.1), (65, .agg (encSt25 y13.1)), (66, lsv (encI .i32) 1 x0), (67, .int .i64 y13.2.1)]) (H2 := [.box [.nl, .nl, .nl, .nl, .bool false, .int .i64 0, .int .i64 0, .int .i64 0, .int .i64 0, .int .i64 0, .int .i64 0, .int .i64 0, .int .i64 0, .int .i64 0, .bool false, .int .i32 0, .int .i64 0], .box [lsv encSt106 2 y7.1, lsv encSt106 2 y1.1.Suf_, lsv encSt106 2 y1.1.NPre_, lsv encSt106 2 y1.1.NSuf_, .bool y1.1.Neg_, .int .i64 y1.1.Hash_, .int .i64 y1.1.MinInt_, .int .i64 y1.1.MinFrac_, .int .i64 y1.1.MaxFrac_, .int .i64 y1.1.G1_, .int .i64 y1.1.G2_, .int .i64 y1.1.MinSig_, .int .i64 y1.1.MaxSig_, .int .i64 y1.1.Exp_, .bool y1.1.ExpPlus_, .int .i32 y1.1.Pad_, .int .i64 y1.1.PadAt_], .box (encSt25 y13.1)]) (by kernel_rfl) ?_
    obtain ⟨y19, hy20, h21⟩ := bindS h18
    refine RJ.call0 (d := (some 68)) (f := 109) (args := [.agg (encSt25 y13.1), lsv (encI .i32) 1 x0, .int .i64 y13.2.1]) (v := .tup [.agg (encSt25 y19.1), .int .i64 y19.2.1, .bool y19.2.2]) (tr2 := []) (by kernel_rfl) (by kernel_rfl) (.cons (Le.refl _) (.cons (Le.refl _) (.cons (Le.refl _) .nil))) (exergueref10_number_ok hy20) (by kernel_rfl) ?_
    refine kC 8 [0,2,3,4,5,6,7,14,16,17,18] ?_
    refine kEN ?_
    refine kS ?_
    refine kSR ?_
    refine kC 2 [0,2,3,4,5,6,7,14,16,17,73] ?_
    refine kEN ?_
    refine J.caseB 73 (b := (!y19.2.2)) (by kernel_rfl) (fun hb22 => ?_) (fun hb22 => ?_)
    ·have h23 := condT hb22 h21
     refine kT ?_
     refine kSR ?_
     refine kC 7 [0,2,3,4,5,6,7,14,16,17] ?_
     refine kEN ?_
     refine kX ?_
     refine PJ.passRet ?_
     obtain rfl := oi h23
     exact kZ hFn hFH hFD
    ·have h24 := condF hb22 h21
     refine kF ?_
     refine kK ?_
     refine PJ.next ?_
     refine kSR ?_
     refine kC 3 [0,2,3,4,5,6,7,14,17,77,78,79] ?_
     obtain ⟨y25, hy26, h27⟩ := bindS h24
     refine RJ.call0 (d := (some 80)) (f := 107) (args := [.agg (encSt25 y19.1), lsv (encI .i32) 1 x0, .int .i64 y19.2.1, .int .i64 3]) (v := .tup [.agg (encSt25 y25.1), .int .i64 y25.2.1, .bool y25.2.2]) (tr2 := []) (by kernel_rfl) (by kernel_rfl) (.cons (Le.refl _) (.cons (Le.refl _) (.cons (Le.refl _) (.cons (Le.refl _) .nil)))) (exergueref10_pad_ok hy26) (by kernel_rfl) ?_
     refine RJ.seg 8 [0, 2, 3, 4, 5, 6, 7, 14, 17, 19, 20, 21] (L2 := [(0, lsv (encI .i32) 1 x0), (2, .ptr 0 0), (3, .int .i64 0), (4, .int .i64 0), (5, .int .i64 0), (6, .bool false), (7, .ptr 1 0), (14, .int .i64 y13.2.1), (17, .int .i64 y19.2.1), (19, .ptr 4 0), (20, .int .i64 y25.2.1), (21, .bool y25.2.2)]) (H2 := [.box [.nl, .nl, .nl, .nl, .bool false, .int .i64 0, .int .i64 0, .int .i64 0, .int .i64 0, .int .i64 0, .int .i64 0, .int .i64 0, .int .i64 0, .int .i64 0, .bool false, .int .i32 0, .int .i64 0], .box [lsv encSt106 2 y7.1, lsv encSt106 2 y1.1.Suf_, lsv encSt106 2 y1.1.NPre_, lsv encSt106 2 y1.1.NSuf_, .bool y1.1.Neg_, .int .i64 y1.1.Hash_, .int .i64 y1.1.MinInt_, .int .i64 y1.1.MinFrac_, .int .i64 y1.1.MaxFrac_, .int .i64 y1.1.G1_, .int .i64 y1.1.G2_, .int .i64 y1.1.MinSig_, .int .i64 y1.1.MaxSig_, .int .i64 y1.1.Exp_, .bool y1.1.ExpPlus_, .int .i32 y1.1.Pad_, .int .i64 y1.1.PadAt_], .box (encSt25 y13.1), .box (encSt25 y19.1), .box (encSt25 y25.1)]) (by kernel_rfl) ?_
     refine kEN ?_
     refine kS ?_
     refine kSR ?_
     refine kC 2 [0,2,3,4,5,6,7,14,17,19,20,85] ?_
     refine kEN ?_
     refine J.caseB 85 (b := (!y25.2.2)) (by kernel_rfl) (fun hb28 => ?_) (fun hb28 => ?_)
     ·have h29 := condT hb28 h27
      refine kT ?_
      refine kSR ?_
      refine kC 7 [0,2,3,4,5,6,7,14,17,19,20] ?_
      refine kEN ?_
      refine kX ?_
      refine PJ.passRet ?_
      obtain rfl := oi h29
      exact kZ hFn hFH hFD
     ·have h30 := condF hb28 h27
      refine kF ?_
      refine kK ?_
      refine PJ.next ?_
      refine kSR ?_
      refine kC 2 [0,2,3,4,5,6,7,14,17,19,89,90] ?_
      obtain ⟨y31, hy32, h33⟩ := bindS h30
      refine RJ.call0 (d := (some 91)) (f := 108) (args := [lsv (encI .i32) 1 x0, .int .i64 y25.2.1]) (v := .tup [lsv encSt106 2 y31.1, .int .i64 y31.2.1, .bool y31.2.2]) (tr2 := []) (by kernel_rfl) (by kernel_rfl) (.cons (Le.refl _) (.cons (Le.refl _) .nil)) (exergueref10_affix_ok hy32) (by kernel_rfl) ?_
      refine kC 7 [0,2,3,4,5,6,7,14,17,19,22,23,24] ?_
      refine kEN ?_
      refine kS ?_
      refine kSR ?_
      refine RJ.seg 2 [0, 2, 3, 4, 5, 6, 7, 14, 17, 19, 22, 23, 96] (L2 := [(0, lsv (encI .i32) 1 x0), (2, .ptr 0 0), (3, .int .i64 0), (4, .int .i64 0), (5, .int .i64 0), (6, .bool false), (7, .ptr 1 0), (14, .int .i64 y13.2.1), (17, .int .i64 y19.2.1), (19, .ptr 4 0), (22, lsv encSt106 2 y31.1), (23, .int .i64 y31.2.1), (96, .bool (!y31.2.2))]) (H2 := [.box [.nl, .nl, .nl, .nl, .bool false, .int .i64 0, .int .i64 0, .int .i64 0, .int .i64 0, .int .i64 0, .int .i64 0, .int .i64 0, .int .i64 0, .int .i64 0, .bool false, .int .i32 0, .int .i64 0], .box [lsv encSt106 2 y7.1, lsv encSt106 2 y1.1.Suf_, lsv encSt106 2 y1.1.NPre_, lsv encSt106 2 y1.1.NSuf_, .bool y1.1.Neg_, .int .i64 y1.1.Hash_, .int .i64 y1.1.MinInt_, .int .i64 y1.1.MinFrac_, .int .i64 y1.1.MaxFrac_, .int .i64 y1.1.G1_, .int .i64 y1.1.G2_, .int .i64 y1.1.MinSig_, .int .i64 y1.1.MaxSig_, .int .i64 y1.1.Exp_, .bool y1.1.ExpPlus_, .int .i32 y1.1.Pad_, .int .i64 y1.1.PadAt_], .box (encSt25 y13.1), .box (encSt25 y19.1), .box (encSt25 y25.1)]) (by kernel_rfl) ?_
      refine kEN ?_
      refine J.caseB 96 (b := (!y31.2.2)) (by kernel_rfl) (fun hb34 => ?_) (fun hb34 => ?_)
      ·have h35 := condT hb34 h33
       refine kT ?_
       refine kSR ?_
       refine kC 7 [0,2,3,4,5,6,14,17,19,22,23] ?_
       refine kEN ?_
       refine kX ?_
       refine PJ.passRet ?_
       obtain rfl := oi h35
       exact kZ hFn hFH hFD
      ·have h36 := condF hb34 h33
       refine kF ?_
       refine kK ?_
       refine PJ.next ?_
       refine kSR ?_
       refine kC 3 [0,2,3,4,5,6,14,17,19,23] ?_
       refine kEN ?_
       refine kSR ?_
       refine kC 3 [2,3,4,5,6,14,17,102,103,104] ?_
       obtain ⟨y37, hy38, h39⟩ := bindS h36
       refine RJ.call0 (d := (some 105)) (f := 107) (args := [.agg [lsv encSt106 2 y25.1.Pre_, lsv encSt106 2 y31.1, lsv encSt106 2 y25.1.NPre_, lsv encSt106 2 y25.1.NSuf_, .bool y25.1.Neg_, .int .i64 y25.1.Hash_, .int .i64 y25.1.MinInt_, .int .i64 y25.1.MinFrac_, .int .i64 y25.1.MaxFrac_, .int .i64 y25.1.G1_, .int .i64 y25.1.G2_, .int .i64 y25.1.MinSig_, .int .i64 y25.1.MaxSig_, .int .i64 y25.1.Exp_, .bool y25.1.ExpPlus_, .int .i32 y25.1.Pad_, .int .i64 y25.1.PadAt_], lsv (encI .i32) 1 x0, .int .i64 y31.2.1, .int .i64 4]) (v := .tup [.agg (encSt25 y37.1), .int .i64 y37.2.1, .bool y37.2.2]) (tr2 := []) (by kernel_rfl) (by kernel_rfl) (.cons (Le.refl _) (.cons (Le.refl _) (.cons (Le.refl _) (.cons (Le.refl _) .nil)))) (exergueref10_pad_ok hy38) (by kernel_rfl) ?_
       refine kC 8 [2,3,4,5,6,14,17,25,26,27] ?_
       refine kEN ?_
       refine kSR ?_
       refine RJ.seg 10 [2, 3, 4, 5, 6] (L2 := [(2, .ptr 0 0), (3, .int .i64 y13.2.1), (4, .int .i64 y19.2.1), (5, .int .i64 y37.2.1), (6, .bool y37.2.2)]) (H2 := [.box (encSt25 y37.1), .box [lsv encSt106 2 y7.1, lsv encSt106 2 y1.1.Suf_, lsv encSt106 2 y1.1.NPre_, lsv encSt106 2 y1.1.NSuf_, .bool y1.1.Neg_, .int .i64 y1.1.Hash_, .int .i64 y1.1.MinInt_, .int .i64 y1.1.MinFrac_, .int .i64 y1.1.MaxFrac_, .int .i64 y1.1.G1_, .int .i64 y1.1.G2_, .int .i64 y1.1.MinSig_, .int .i64 y1.1.MaxSig_, .int .i64 y1.1.Exp_, .bool y1.1.ExpPlus_, .int .i32 y1.1.Pad_, .int .i64 y1.1.PadAt_], .box (encSt25 y13.1), .box (encSt25 y19.1), .box [lsv encSt106 2 y25.1.Pre_, lsv encSt106 2 y31.1, lsv encSt106 2 y25.1.NPre_, lsv encSt106 2 y25.1.NSuf_, .bool y25.1.Neg_, .int .i64 y25.1.Hash_, .int .i64 y25.1.MinInt_, .int .i64 y25.1.MinFrac_, .int .i64 y25.1.MaxFrac_, .int .i64 y25.1.G1_, .int .i64 y25.1.G2_, .int .i64 y25.1.MinSig_, .int .i64 y25.1.MaxSig_, .int .i64 y25.1.Exp_, .bool y25.1.ExpPlus_, .int .i32 y25.1.Pad_, .int .i64 y25.1.PadAt_], .box (encSt25 y37.1)]) (by kernel_rfl) ?_
       refine kEN ?_
       refine kX ?_
       obtain rfl := oi h39
       exact kZ hFn hFH hFD

def exergueref10_second (x0 : St25) (x1 : List Int) (x2 : Int) (x3 : Int) (x4 : Int) : Option (St25 × Int × Bool) :=
 (Option.bind (exergueref10_affix x1 x2) fun y1 => (bif (!y1.2.2) then (some ((⟨x0.Pre_, x0.Suf_, x0.NPre_, x0.NSuf_, true, x0.Hash_, x0.MinInt_, x0.MinFrac_, x0.MaxFrac_, x0.G1_, x0.G2_, x0.MinSig_, x0.MaxSig_, x0.Exp_, x0.ExpPlus_, x0.Pad_, x0.PadAt_⟩ : St25), y1.2.1, false)) else (Option.bind (loopN (fun (s60 : Int × Int) => (bif (decide (s60.2 < x4)) then (Option.bind (exergueref10_at x1 s60.1) fun y96 => (bif inR s60.2 x1.length then (bif (decide (¬ y96 = (nth x1 s60.2))) then (some (.inr (.inr ((⟨x0.Pre_, x0.Suf_, y1.1, x0.NSuf_, true, x0.Hash_, x0.MinInt_, x0.MinFrac_, x0.MaxFrac_, x0.G1_, x0.G2_, x0.MinSig_, x0.MaxSig_, x0.Exp_, x0.ExpPlus_, x0.Pad_, x0.PadAt_⟩ : St25), s60.1, false)))) else (some (.inl ((IntKind.wrap .i64 (s60.1 + 1)), (IntKind.wrap .i64 (s60.2 + 1)))))) else none)) else (some (.inr (.inl s60.1))))) big (y1.2.1, x3)) (joinX fun (s55 : Int) => (Option.bind (exergueref10_affix x1 s55) fun y108 => (some ((⟨x0.Pre_, x0.Suf_, y1.1, y108.1, true, x0.Hash_, x0.MinInt_, x0.MinFrac_, x0.MaxFrac_, x0.G1_, x0.G2_, x0.MinSig_, x0.MaxSig_, x0.Exp_, x0.ExpPlus_, x0.Pad_, x0.PadAt_⟩ : St25), y108.2.1, y108.2.2)))))))
theorem exergueref10_second_ok {x0 : St25} {x1 : List Int} {x2 : Int} {x3 : Int} {x4 : Int} {r : St25 × Int × Bool} (h : exergueref10_second x0 x1 x2 x3 x4 = some r) : SC Tryz.prog 84 [.agg (encSt25 x0), lsv (encI .i32) 1 x1, .int .i64 x2, .int .i64 x3, .int .i64 x4] [] (.tup [.agg (encSt25 r.1), .int .i64 r.2.1, .bool r.2.2]) [] := by
 refine kFn (fn := Tryz.f84) (fun F hFn hFH hFD => ?_)
 unfold exergueref10_second at h
 refine kSR ?_
 refine kC 4 [1,2,3,4,5,10,11,12] ?_
 refine kEN ?_
 refine kSR ?_
 refine kC 2 [1,2,3,4,5,10,11,12] ?_
 refine kEN ?_
 refine kSR ?_
 refine kC 2 [1,3,4,5,10,11,12,22,23] ?_
 obtain ⟨y1, hy2, h3⟩ := bindS h
 refine RJ.call0 (d := (some 24)) (f := 108) (args := [lsv (encI .i32) 1 x1, .int .i64 x2]) (v := .tup [lsv encSt106 2 y1.1, .int .i64 y1.2.1, .bool y1.2.2]) (tr2 := []) (by kernel_rfl) (by kernel_rfl) (.cons (Le.refl _) (.cons (Le.refl _) .nil)) (exergueref10_affix_ok hy2) (by kernel_rfl) ?_
 refine RJ.seg 7 [1, 3, 4, 5, 10, 11, 12, 13, 14, 15] (L2 := [(1, lsv (encI .i32) 1 x1), (3, .int .i64 x3), (4, .int .i64 x4), (5, .ptr 0 0), (10, .ptr 1 0), (11, .int .i64 0), (12, .bool false), (13, lsv encSt106 2 y1.1), (14, .int .i64 y1.2.1), (15, .bool y1.2.2)]) (H2 := [.box [lsv encSt106 2 x0.Pre_, lsv encSt106 2 x0.Suf_, lsv encSt106 2 x0.NPre_, lsv encSt106 2 x0.NSuf_, .bool true, .int .i64 x0.Hash_, .int .i64 x0.MinInt_, .int .i64 x0.MinFrac_, .int .i64 x0.MaxFrac_, .int .i64 x0.G1_, .int .i64 x0.G2_, .int .i64 x0.MinSig_, .int .i64 x0.MaxSig_, .int .i64 x0.Exp_, .bool x0.ExpPlus_, .int .i32 x0.Pad_, .int .i64 x0.PadAt_], .box [.nl, .nl, .nl, .nl, .bool false, .int .i64 0, .int .i64 0, .int .i64 0, .int .i64 0, .int .i64 0, .int .i64 0, .int .i64 0, .int .i64 0, .int .i64 0, .bool false, .int .i32 0, .int .i64 0]]) (by kernel_rfl) ?_
 refine kEN ?_
 refine kS ?_
 refine kSR ?_
 refine kC 2 [1,3,4,5,10,11,12,13,14,29] ?_
 refine kEN ?_
 refine J.caseB 29 (b := (!y1.2.2)) (by kernel_rfl) (fun hb4 => ?_) (fun hb4 => ?_)
 ·have h5 := condT hb4 h3
  refine kT ?_
  refine kSR ?_
  refine kC 5 [1,3,4,5,10,11,12,13,14] ?_
  refine kEN ?_
  refine kX ?_
  refine PJ.passRet ?_
  obtain rfl := oi h5
  exact kZ hFn hFH hFD
 ·have h6 := condF hb4 h3
  refine kF ?_
  refine kK ?_
  refine PJ.next ?_
  refine kSR ?_
  refine kC 3 [1,3,4,5,10,11,12,14] ?_
  refine kEN ?_
  obtain ⟨y56, hy57, h58⟩ := bindS h6
  refine K.cutX (by kernel_rfl) (fun (s55 : Int) => ([(1, lsv (encI .i32) 1 x1), (5, .ptr 0 0), (10, .ptr 1 0), (11, .int .i64 0), (12, .bool false), (14, .int .i64 s55)], [.box [lsv encSt106 2 x0.Pre_, lsv encSt106 2 x0.Suf_, lsv encSt106 2 y1.1, lsv encSt106 2 x0.NSuf_, .bool true, .int .i64 x0.Hash_, .int .i64 x0.MinInt_, .int .i64 x0.MinFrac_, .int .i64 x0.MaxFrac_, .int .i64 x0.G1_, .int .i64 x0.G2_, .int .i64 x0.MinSig_, .int .i64 x0.MaxSig_, .int .i64 x0.Exp_, .bool x0.ExpPlus_, .int .i32 x0.Pad_, .int .i64 x0.PadAt_], .box [.nl, .nl, .nl, .nl, .bool false, .int .i64 0, .int .i64 0, .int .i64 0, .int .i64 0, .int .i64 0, .int .i64 0, .int .i64 0, .int .i64 0, .int .i64 0, .bool false, .int .i32 0, .int .i64 0]])) y56 ?_ (fun s55 hs => ?_)
  ·refine kSR ?_
   refine kC 2 [1,4,5,10,11,12,14,16] ?_
   refine kEN ?_
   refine K.block 0 (by kernel_rfl) ?_
   refine K.loop (by kernel_rfl) (fun (s60 : Int × Int) => ([(1, lsv (encI .i32) 1 x1), (4, .int .i64 x4), (5, .ptr 0 0), (10, .ptr 1 0), (11, .int .i64 0), (12, .bool false), (14, .int .i64 s60.1), (16, .int .i64 s60.2)], [.box [lsv encSt106 2 x0.Pre_, lsv encSt106 2 x0.Suf_, lsv encSt106 2 y1.1, lsv encSt106 2 x0.NSuf_, .bool true, .int .i64 x0.Hash_, .int .i64 x0.MinInt_, .int .i64 x0.MinFrac_, .int .i64 x0.MaxFrac_, .int .i64 x0.G1_, .int .i64 x0.G2_, .int .i64 x0.MinSig_, .int .i64 x0.MaxSig_, .int .i64 x0.Exp_, .bool x0.ExpPlus_, .int .i32 x0.Pad_, .int .i64 x0.PadAt_], .box [.nl, .nl, .nl, .nl, .bool false, .int .i64 0, .int .i64 0, .int .i64 0, .int .i64 0, .int .i64 0, .int .i64 0, .int .i64 0, .int .i64 0, .int .i64 0, .bool false, .int .i32 0, .int .i64 0]])) hy57 [1, 4, 5, 10, 11, 12, 14, 16] (by kernel_rfl) (by kernel_rfl) (fun s60 x92 hs91 => ?_)
   refine kS ?_
   refine kSR ?_
   refine kC 3 [1,4,5,10,11,12,14,16,37] ?_
   refine kEN ?_
   refine J.caseB 37 (b := (decide (s60.2 < x4))) (by kernel_rfl) (fun hb93 => ?_) (fun hb93 => ?_)
   ·have h94 := condT hb93 hs91
    refine kT ?_
    refine kK ?_
    refine PJ.next ?_
    refine kS ?_
    refine K.block 1 (by kernel_rfl) ?_
    refine kS ?_
    refine kS ?_
    refine J.keep [1, 4, 5, 10, 11, 12, 14, 16] (L2 := [(1, lsv (encI .i32) 1 x1), (4, .int .i64 x4), (5, .ptr 0 0), (10, .ptr 1 0), (11, .int .i64 0), (12, .bool false), (14, .int .i64 s60.1), (16, .int .i64 s60.2)]) (by kernel_rfl) ?_
    refine K.draw (by kernel_rfl) (by kernel_rfl) (by kernel_rfl) (H2 := [.box [lsv encSt106 2 x0.Pre_, lsv encSt106 2 x0.Suf_, lsv encSt106 2 y1.1, lsv encSt106 2 x0.NSuf_, .bool true, .int .i64 x0.Hash_, .int .i64 x0.MinInt_, .int .i64 x0.MinFrac_, .int .i64 x0.MaxFrac_, .int .i64 x0.G1_, .int .i64 x0.G2_, .int .i64 x0.MinSig_, .int .i64 x0.MaxSig_, .int .i64 x0.Exp_, .bool x0.ExpPlus_, .int .i32 x0.Pad_, .int .i64 x0.PadAt_], .box [.nl, .nl, .nl, .nl, .bool false, .int .i64 0, .int .i64 0, .int .i64 0, .int .i64 0, .int .i64 0, .int .i64 0, .int .i64 0, .int .i64 0, .int .i64 0, .bool false, .int .i32 0, .int .i64 0], .res]) (by kernel_rfl) (n := 2) (by kernel_rfl) ?_
    refine kD 2 ?_
    obtain ⟨y96, hy97, h98⟩ := bindS h94
    refine RJ.call0 (d := (some 42)) (f := 83) (args := [lsv (encI .i32) 1 x1, .int .i64 s60.1]) (v := .int .i32 y96) (tr2 := [([], []), ([], []), ([], [4, 5])]) (by kernel_rfl) (by kernel_rfl) (.cons (Le.refl _) (.cons (Le.refl _) .nil)) (exergueref10_at_ok hy97) (by kernel_rfl) ?_
    refine kD 2 ?_
    obtain ⟨hm, h99⟩ := asrt h98
    refine RJ.rel (d := (some 45)) (ef := ⟨.ep (((x1.flatMap (encI .i32)).drop ((s60.2 : Int).toNat * 1)).take 1), [], []⟩) (ef' := ⟨.ep ((encI .i32) (nth x1 s60.2)), [], []⟩) (c := inR s60.2 x1.length) (tr2 := [([], []), ([], []), ([], [4, 5]), ([], []), ([], []), ([], [])]) (H2 := [.box [lsv encSt106 2 x0.Pre_, lsv encSt106 2 x0.Suf_, lsv encSt106 2 y1.1, lsv encSt106 2 x0.NSuf_, .bool true, .int .i64 x0.Hash_, .int .i64 x0.MinInt_, .int .i64 x0.MinFrac_, .int .i64 x0.MaxFrac_, .int .i64 x0.G1_, .int .i64 x0.G2_, .int .i64 x0.MinSig_, .int .i64 x0.MaxSig_, .int .i64 x0.Exp_, .bool x0.ExpPlus_, .int .i32 x0.Pad_, .int .i64 x0.PadAt_], .box [.nl, .nl, .nl, .nl, .bool false, .int .i64 0, .int .i64 0, .int .i64 0, .int .i64 0, .int .i64 0, .int .i64 0, .int .i64 0, .int .i64 0, .int .i64 0, .bool false, .int .i32 0, .int .i64 0], .res]) (by kernel_rfl) hm (fun hc => N.idx (encI_len .i32) hc) (by kernel_rfl) ?_
    refine RJ.segD 2 (tr2 := [([], []), ([], []), ([], [4, 5]), ([], []), ([], []), ([], []), ([], []), ([], [])]) (L2 := [(47, .bool ((decide (¬ y96 = (nth x1 s60.2))))), (46, .int .i32 (nth x1 s60.2)), (45, .ep [.int .i32 (nth x1 s60.2)]), (44, .int .i64 s60.2), (43, lsv (encI .i32) 1 x1), (42, .int .i32 y96), (41, .int .i64 s60.1), (40, lsv (encI .i32) 1 x1), (1, lsv (encI .i32) 1 x1), (4, .int .i64 x4), (5, .ptr 0 0), (10, .ptr 1 0), (11, .int .i64 0), (12, .bool false), (14, .int .i64 s60.1), (16, .int .i64 s60.2)]) (H2 := [.box [lsv encSt106 2 x0.Pre_, lsv encSt106 2 x0.Suf_, lsv encSt106 2 y1.1, lsv encSt106 2 x0.NSuf_, .bool true, .int .i64 x0.Hash_, .int .i64 x0.MinInt_, .int .i64 x0.MinFrac_, .int .i64 x0.MaxFrac_, .int .i64 x0.G1_, .int .i64 x0.G2_, .int .i64 x0.MinSig_, .int .i64 x0.MaxSig_, .int .i64 x0.Exp_, .bool x0.ExpPlus_, .int .i32 x0.Pad_, .int .i64 x0.PadAt_], .box [.nl, .nl, .nl, .nl, .bool false, .int .i64 0, .int .i64 0, .int .i64 0, .int .i64 0, .int .i64 0, .int .i64 0, .int .i64 0, .int .i64 0, .int .i64 0, .bool false, .int .i32 0, .int .i64 0], .res]) (by kernel_rfl) ?_
    refine kEN ?_
    refine J.caseB 47 (b := (decide (¬ y96 = (nth x1 s60.2)))) (by kernel_rfl) (fun hb100 => ?_) (fun hb100 => ?_)
    ·have h101 := condT hb100 h99
     refine kT ?_
     refine kSR ?_
     refine kC 5 [1,4,5,10,11,12,14,16] ?_
     refine kEN ?_
     refine kX ?_
     refine PJ.passRet ?_
     refine PJ.blockRet ?_
     refine PJ.passRet ?_
     obtain rfl := oi h101
     refine PJ.loopOut (fun e => nomatch e) (fun he105 => ?_)
     have h103 := congrArg some he105
     refine PJ.blockRet ?_
     obtain rfl := oi h103
     have h104 := joinX_inr h58
     refine PJ.cutXr (fun e => nomatch e) ?_
     obtain rfl := oi h104
     exact kZ hFn hFH hFD
    ·have h102 := condF hb100 h99
     refine kF ?_
     refine kK ?_
     refine PJ.next ?_
     refine kR ?_
     refine kC 3 [1,4,5,10,11,12,14,16] ?_
     refine kE ?_
     refine PJ.blockNormal ?_
     refine PJ.next ?_
     refine kR ?_
     refine kC 3 [1,4,5,10,11,12,14,16] ?_
     refine kE ?_
     obtain rfl := oi h102
     refine PJ.wk (Wk.sel (L2 := [(1, lsv (encI .i32) 1 x1), (4, .int .i64 x4), (5, .ptr 0 0), (10, .ptr 1 0), (11, .int .i64 0), (12, .bool false), (14, .int .i64 (IntKind.wrap .i64 (s60.1 + 1))), (16, .int .i64 (IntKind.wrap .i64 (s60.2 + 1)))]) (H2 := [.box [lsv encSt106 2 x0.Pre_, lsv encSt106 2 x0.Suf_, lsv encSt106 2 y1.1, lsv encSt106 2 x0.NSuf_, .bool true, .int .i64 x0.Hash_, .int .i64 x0.MinInt_, .int .i64 x0.MinFrac_, .int .i64 x0.MaxFrac_, .int .i64 x0.G1_, .int .i64 x0.G2_, .int .i64 x0.MinSig_, .int .i64 x0.MaxSig_, .int .i64 x0.Exp_, .bool x0.ExpPlus_, .int .i32 x0.Pad_, .int .i64 x0.PadAt_], .box [.nl, .nl, .nl, .nl, .bool false, .int .i64 0, .int .i64 0, .int .i64 0, .int .i64 0, .int .i64 0, .int .i64 0, .int .i64 0, .int .i64 0, .int .i64 0, .bool false, .int .i32 0, .int .i64 0]]) 0 (by rw [hFH]; rfl) hFD [0, 1] (by kernel_rfl) (by kernel_rfl) (by decide) (by kernel_rfl) (by kernel_rfl) (by kernel_rfl) (by kernel_rfl)) ?_
     exact PJ.loopNext [1, 4, 5, 10, 11, 12, 14, 16] (by kernel_rfl) (by kernel_rfl)
   ·have h95 := condF hb93 hs91
    refine kF ?_
    refine K.exit 0 (by kernel_rfl) ?_
    refine PJ.passExit ?_
    obtain rfl := oi h95
    refine PJ.loopOut (fun e => nomatch e) (fun he107 => ?_)
    have h106 := congrArg some he107
    refine PJ.blockOut ?_
    obtain rfl := oi h106
    exact PJ.cutXl [1, 5, 10, 11, 12, 14] (by kernel_rfl) (by kernel_rfl)
  ·subst hs
   have h59 := joinX_inl h58
   refine kSR ?_
   refine kC 2 [5,10,11,12,53,54] ?_
   obtain ⟨y108, hy109, h110⟩ := bindS h59
   refine RJ.call0 (d := (some 55)) (f := 108) (args := [lsv (encI .i32) 1 x1, .int .i64 s55]) (v := .tup [lsv encSt106 2 y108.1, .int .i64 y108.2.1, .bool y108.2.2]) (tr2 := []) (by kernel_rfl) (by kernel_rfl) (.cons (Le.refl _) (.cons (Le.refl _) .nil)) (exergueref10_affix_ok hy109) (by kernel_rfl) ?_
   refine kC 7 [5,10,11,12,17,18,19] ?_
   refine kEN ?_
   refine kSR ?_
   refine kC 3 [5,10,11,12,18,19] ?_
   refine kEN ?_
   refine kSR ?_
   refine RJ.seg 6 [10, 11, 12] (L2 := [(10, .ptr 1 0), (11, .int .i64 y108.2.1), (12, .bool y108.2.2)]) (H2 := [.box [lsv encSt106 2 x0.Pre_, lsv encSt106 2 x0.Suf_, lsv encSt106 2 y1.1, lsv encSt106 2 y108.1, .bool true, .int .i64 x0.Hash_, .int .i64 x0.MinInt_, .int .i64 x0.MinFrac_, .int .i64 x0.MaxFrac_, .int .i64 x0.G1_, .int .i64 x0.G2_, .int .i64 x0.MinSig_, .int .i64 x0.MaxSig_, .int .i64 x0.Exp_, .bool x0.ExpPlus_, .int .i32 x0.Pad_, .int .i64 x0.PadAt_], .box [lsv encSt106 2 x0.Pre_, lsv encSt106 2 x0.Suf_, lsv encSt106 2 y1.1, lsv encSt106 2 y108.1, .bool true, .int .i64 x0.Hash_, .int .i64 x0.MinInt_, .int .i64 x0.MinFrac_, .int .i64 x0.MaxFrac_, .int .i64 x0.G1_, .int .i64 x0.G2_, .int .i64 x0.MinSig_, .int .i64 x0.MaxSig_, .int .i64 x0.Exp_, .bool x0.ExpPlus_, .int .i32 x0.Pad_, .int .i64 x0.PadAt_]]) (by kernel_rfl) ?_
   refine kEN ?_
   refine kX ?_
   obtain rfl := oi h110
   exact kZ hFn hFH hFD

def exergueref10_Parse (x0 : List UInt8) : Option (St25 × Int × Int) :=
 (Option.bind (exergueref01_Decode (bytesI x0)) fun y1 => (bif (decide (¬ y1.2.2 = 0)) then (some ((⟨([] : List St106), ([] : List St106), ([] : List St106), ([] : List St106), false, 0, 0, 0, 0, 0, 0, 0, 0, 0, false, 0, 0⟩ : St25), y1.2.1, 3)) else (bif (decide ((y1.1.length : Int) > 120)) then (some ((⟨([] : List St106), ([] : List St106), ([] : List St106), ([] : List St106), false, 0, 0, 0, 0, 0, 0, 0, 0, 0, false, 0, 0⟩ : St25), 0, 11)) else (Option.bind (exergueref10_first y1.1) fun y10 => (Option.bind (Option.bind (bif y10.2.2.2.2 then (Option.bind (exergueref10_at y1.1 y10.2.2.2.1) fun y55 => (some (decide (y55 = 59)))) else (some false)) fun (s47 : Bool) => (bif s47 then (Option.bind (exergueref10_second y10.1 y1.1 (IntKind.wrap .i64 (y10.2.2.2.1 + 1)) y10.2.1 y10.2.2.1) fun y61 => (some (y61.2.1, y61.2.2, y61.1.Pre_, y61.1.Suf_, y61.1.NPre_, y61.1.NSuf_, y61.1.Neg_, y61.1.Hash_, y61.1.MinInt_, y61.1.MinFrac_, y61.1.MaxFrac_, y61.1.G1_, y61.1.G2_, y61.1.MinSig_, y61.1.MaxSig_, y61.1.Exp_, y61.1.ExpPlus_, y61.1.Pad_, y61.1.PadAt_))) else (some (y10.2.2.2.1, y10.2.2.2.2, y10.1.Pre_, y10.1.Suf_, y10.1.NPre_, y10.1.NSuf_, y10.1.Neg_, y10.1.Hash_, y10.1.MinInt_, y10.1.MinFrac_, y10.1.MaxFrac_, y10.1.G1_, y10.1.G2_, y10.1.MinSig_, y10.1.MaxSig_, y10.1.Exp_, y10.1.ExpPlus_, y10.1.Pad_, y10.1.PadAt_)))) fun (s36 : Int × Bool × (List St106) × (List St106) × (List St106) × (List St106) × Bool × Int × Int × Int × Int × Int × Int × Int × Int × Int × Bool × Int × Int) => (Option.bind (Option.bind (bif (!s36.2.1) then (some true) else (some ((decide (s36.1 < (y1.1.length : Int)))))) fun (s87 : Bool) => (bif s87 then (some (.inr ((⟨([] : List St106), ([] : List St106), ([] : List St106), ([] : List St106), false, 0, 0, 0, 0, 0, 0, 0, 0, 0, false, 0, 0⟩ : St25), s36.1, 2))) else (some (.inl ())))) (joinX fun (s79 : Unit) => (Option.bind (Option.bind (bif (decide ((IntKind.wrap .i64 (s36.2.2.2.2.2.2.2.1 + s36.2.2.2.2.2.2.2.2.1)) > 40)) then (some true) else (bif (decide (s36.2.2.2.2.2.2.2.2.2.2.1 > 40)) then (some true) else (bif (decide (s36.2.2.2.2.2.2.2.2.2.2.2.2.2.2.1 > 40)) then (some true) else (some (decide (s36.2.2.2.2.2.2.2.2.2.2.2.2.2.2.2.1 > 40)))))) fun (s140 : Bool) => (bif s140 then (some (.inr ((⟨([] : List St106), ([] : List St106), ([] : List St106), ([] : List St106), false, 0, 0, 0, 0, 0, 0, 0, 0, 0, false, 0, 0⟩ : St25), 0, 11))) else (some (.inl ())))) (joinX fun (s126 : Unit) => (some ((⟨s36.2.2.1, s36.2.2.2.1, s36.2.2.2.2.1, s36.2.2.2.2.2.1, s36.2.2.2.2.2.2.1, s36.2.2.2.2.2.2.2.1, s36.2.2.2.2.2.2.2.2.1, s36.2.2.2.2.2.2.2.2.2.1, s36.2.2.2.2.2.2.2.2.2.2.1, s36.2.2.2.2.2.2.2.2.2.2.2.1, s36.2.2.2.2.2.2.2.2.2.2.2.2.1, s36.2.2.2.2.2.2.2.2.2.2.2.2.2.1, s36.2.2.2.2.2.2.2.2.2.2.2.2.2.2.1, s36.2.2.2.2.2.2.2.2.2.2.2.2.2.2.2.1, s36.2.2.2.2.2.2.2.2.2.2.2.2.2.2.2.2.1, s36.2.2.2.2.2.2.2.2.2.2.2.2.2.2.2.2.2.1, s36.2.2.2.2.2.2.2.2.2.2.2.2.2.2.2.2.2.2⟩ : St25), 0, 0)))))))))))
theorem exergueref10_Parse_ok {x0 : List UInt8} {r : St25 × Int × Int} (h : exergueref10_Parse x0 = some r) : SC Tryz.prog 57 [.str x0] [] (.tup [.agg (encSt25 r.1), .int .i64 r.2.1, .int .i64 r.2.2]) [] := by
 refine kFn (fn := Tryz.f57) (fun F hFn hFH hFD => ?_)
 unfold exergueref10_Parse at h
 refine kSR ?_
 refine kC 3 [0,2,3,4] ?_
 refine kEN ?_
 refine kSR ?_
 refine kC 1 [2,3,4,17] ?_
 refine RJ.rel (d := (some 18)) (ef := ⟨.lst x0.length 1 (x0.map byteSV), [], []⟩) (ef' := ⟨lsv (encI .u8) 1 (bytesI x0), [], []⟩) (c := true) (tr2 := []) (H2 := [.box [.nl, .nl, .nl, .nl, .bool false, .int .i64 0, .int .i64 0, .int .i64 0, .int .i64 0, .int .i64 0, .int .i64 0, .int .i64 0, .int .i64 0, .int .i64 0, .bool false, .int .i32 0, .int .i64 0]]) (by kernel_rfl) rfl (fun hc => N.toBytes) (by kernel_rfl) ?_
 obtain ⟨y1, hy2, h3⟩ := bindS h
 refine RJ.call0 (d := (some 19)) (f := 81) (args := [lsv (encI .u8) 1 (bytesI x0)]) (v := .tup [lsv (encI .i32) 1 y1.1, .int .i64 y1.2.1, .int .i64 y1.2.2]) (tr2 := []) (by kernel_rfl) (by kernel_rfl) (.cons (Le.refl _) .nil) (exergueref01_Decode_ok hy2) (by kernel_rfl) ?_
 refine kC 7 [2,3,4,5,6,7] ?_
 refine kEN ?_
 refine kS ?_
 refine kSR ?_
 refine RJ.seg 2 [2, 3, 4, 5, 6, 24] (L2 := [(2, .ptr 0 0), (3, .int .i64 0), (4, .int .i64 0), (5, lsv (encI .i32) 1 y1.1), (6, .int .i64 y1.2.1), (24, .bool (decide (¬ y1.2.2 = 0)))]) (H2 := [.box [.nl, .nl, .nl, .nl, .bool false, .int .i64 0, .int .i64 0, .int .i64 0, .int .i64 0, .int .i64 0, .int .i64 0, .int .i64 0, .int .i64 0, .int .i64 0, .bool false, .int .i32 0, .int .i64 0]]) (by kernel_rfl) ?_
 refine kEN ?_
 refine J.caseB 24 (b := (decide (¬ y1.2.2 = 0))) (by kernel_rfl) (fun hb4 => ?_) (fun hb4 => ?_)
 ·have h5 := condT hb4 h3
  refine kT ?_
  refine kSR ?_
  refine kC 5 [2,3,4,5] ?_
  refine kEN ?_
  refine kX ?_
  refine PJ.passRet ?_
  obtain rfl := oi h5
  refine PJ.res (v1 := .tup [.agg [.nl, .nl, .nl, .nl, .bool false, .int .i64 0, .int .i64 0, .int .i64 0, .int .i64 0, .int .i64 0, .int .i64 0, .int .i64 0, .int .i64 0, .int .i64 0, .bool false, .int .i32 0, .int .i64 0], .int .i64 y1.2.1, .int .i64 3]) (Le.tup (.cons (Le.agg (.cons (Le.nl _) (.cons (Le.nl _) (.cons (Le.nl _) (.cons (Le.nl _) (.cons (Le.refl _) (.cons (Le.refl _) (.cons (Le.refl _) (.cons (Le.refl _) (.cons (Le.refl _) (.cons (Le.refl _) (.cons (Le.refl _) (.cons (Le.refl _) (.cons (Le.refl _) (.cons (Le.refl _) (.cons (Le.refl _) (.cons (Le.refl _) (.cons (Le.refl _) .nil)))))))))))))))))) (.cons (Le.refl _) (.cons (Le.refl _) .nil)))) ?_
  exact kZ hFn hFH hFD
 ·have h6 := condF hb4 h3
  refine kF ?_
  refine kK ?_
  refine PJ.next ?_
  refine kS ?_
  refine kSR ?_
  refine kC 3 [2,3,4,5,29] ?_
  refine kEN ?_
  refine J.caseB 29 (b := (decide ((y1.1.length : Int) > 120))) (by kernel_rfl) (fun hb7 => ?_) (fun hb7 => ?_)
  ·have h8 := condT hb7 h6
   refine kT ?_
   refine kSR ?_
   refine kC 4 [2,3,4,5] ?_
   refine kEN ?_
   refine kX ?_
   refine PJ.passRet ?_
   obtain rfl := oi h8
   refine PJ.res (v1 := .tup [.agg [.nl, .nl, .nl, .nl, .bool false, .int .i64 0, .int .i64 0, .int .i64 0, .int .i64 0, .int .i64 0, .int .i64 0, .int .i64 0, .int .i64 0, .int .i64 0, .bool false, .int .i32 0, .int .i64 0], .int .i64 0, .int .i64 11]) (Le.tup (.cons (Le.agg (.cons (Le.nl _) (.cons (Le.nl _) (.cons (Le.nl _) (.cons (Le.nl _) (.cons (Le.refl _) (.cons (Le.refl _) (.cons (Le.refl _) (.cons (Le.refl _) (.cons (Le.refl _) (.cons (Le.refl _) (.cons (Le.refl _) (.cons (Le.refl _) (.cons (Le.refl _) (.cons (Le.refl _) (.cons (Le.refl _) (.cons (Le.refl _) (.cons (Le.refl _) .nil)))))))))))))))))) (.cons (Le.refl _) (.cons (Le.refl _) .nil)))) ?_
   exact kZ hFn hFH hFD
  ·have h9 := condF hb7 h6
   refine kF ?_
   refine kK ?_
   refine PJ.next ?_
   refine kSR ?_
   refine kC 1 [2,3,4,5,32] ?_
   obtain ⟨y10, hy11, h12⟩ := bindS h9
   refine RJ.call0 (d := (some 33)) (f := 82) (args := [lsv (encI .i32) 1 y1.1]) (v := .tup [.agg (encSt25 y10.1), .int .i64 y10.2.1, .int .i64 y10.2.2.1, .int .i64 y10.2.2.2.1, .bool y10.2.2.2.2]) (tr2 := []) (by kernel_rfl) (by kernel_rfl) (.cons (Le.refl _) .nil) (exergueref10_first_ok hy11) (by kernel_rfl) ?_
   refine kC 12 [2,3,4,5,8,9,10,11,12] ?_
   refine kEN ?_
   obtain ⟨s36, hy38, h40⟩ := bindS h12
   refine K.cutN (by kernel_rfl) (fun (s36 : Int × Bool × (List St106) × (List St106) × (List St106) × (List St106) × Bool × Int × Int × Int × Int × Int × Int × Int × Int × Int × Bool × Int × Int) => ([(2, .ptr 0 0), (3, .int .i64 0), (4, .int .i64 0), (5, lsv (encI .i32) 1 y1.1), (8, .ptr 1 0), (11, .int .i64 s36.1), (12, .bool s36.2.1)], [.box [.nl, .nl, .nl, .nl, .bool false, .int .i64 0, .int .i64 0, .int .i64 0, .int .i64 0, .int .i64 0, .int .i64 0, .int .i64 0, .int .i64 0, .int .i64 0, .bool false, .int .i32 0, .int .i64 0], .box [lsv encSt106 2 s36.2.2.1, lsv encSt106 2 s36.2.2.2.1, lsv encSt106 2 s36.2.2.2.2.1, lsv encSt106 2 s36.2.2.2.2.2.1, .bool s36.2.2.2.2.2.2.1, .int .i64 s36.2.2.2.2.2.2.2.1, .int .i64 s36.2.2.2.2.2.2.2.2.1, .int .i64 s36.2.2.2.2.2.2.2.2.2.1, .int .i64 s36.2.2.2.2.2.2.2.2.2.2.1, .int .i64 s36.2.2.2.2.2.2.2.2.2.2.2.1, .int .i64 s36.2.2.2.2.2.2.2.2.2.2.2.2.1, .int .i64 s36.2.2.2.2.2.2.2.2.2.2.2.2.2.1, .int .i64 s36.2.2.2.2.2.2.2.2.2.2.2.2.2.2.1, .int .i64 s36.2.2.2.2.2.2.2.2.2.2.2.2.2.2.2.1, .bool s36.2.2.2.2.2.2.2.2.2.2.2.2.2.2.2.2.1, .int .i32 s36.2.2.2.2.2.2.2.2.2.2.2.2.2.2.2.2.2.1, .int .i64 s36.2.2.2.2.2.2.2.2.2.2.2.2.2.2.2.2.2.2]])) s36 ?_ ?_
   ·obtain ⟨s47, hy49, h51⟩ := bindS hy38
    refine K.cutN (by kernel_rfl) (fun (s47 : Bool) => ([(2, .ptr 0 0), (3, .int .i64 0), (4, .int .i64 0), (5, lsv (encI .i32) 1 y1.1), (8, .ptr 1 0), (9, .int .i64 y10.2.1), (10, .int .i64 y10.2.2.1), (11, .int .i64 y10.2.2.2.1), (12, .bool y10.2.2.2.2), (45, .bool s47)], [.box [.nl, .nl, .nl, .nl, .bool false, .int .i64 0, .int .i64 0, .int .i64 0, .int .i64 0, .int .i64 0, .int .i64 0, .int .i64 0, .int .i64 0, .int .i64 0, .bool false, .int .i32 0, .int .i64 0], .box (encSt25 y10.1)])) s47 ?_ ?_
    ·refine kR ?_
     refine RJ.seg 2 [2, 3, 4, 5, 8, 9, 10, 11, 12, 40] (L2 := [(2, .ptr 0 0), (3, .int .i64 0), (4, .int .i64 0), (5, lsv (encI .i32) 1 y1.1), (8, .ptr 1 0), (9, .int .i64 y10.2.1), (10, .int .i64 y10.2.2.1), (11, .int .i64 y10.2.2.2.1), (12, .bool y10.2.2.2.2), (40, .bool y10.2.2.2.2)]) (H2 := [.box [.nl, .nl, .nl, .nl, .bool false, .int .i64 0, .int .i64 0, .int .i64 0, .int .i64 0, .int .i64 0, .int .i64 0, .int .i64 0, .int .i64 0, .int .i64 0, .bool false, .int .i32 0, .int .i64 0], .box (encSt25 y10.1)]) (by kernel_rfl) ?_
     refine RJ.caseB 40 (b := y10.2.2.2.2) (by kernel_rfl) (fun hb52 => ?_) (fun hb52 => ?_)
     ·have h53 := condT hb52 hy49
      refine kC 2 [2,3,4,5,8,9,10,11,12,40,41,42] ?_
      obtain ⟨y55, hy56, h57⟩ := bindS h53
      refine RJ.call0 (d := (some 43)) (f := 83) (args := [lsv (encI .i32) 1 y1.1, .int .i64 y10.2.2.2.1]) (v := .int .i32 y55) (tr2 := []) (by kernel_rfl) (by kernel_rfl) (.cons (Le.refl _) (.cons (Le.refl _) .nil)) (exergueref10_at_ok hy56) (by kernel_rfl) ?_
      refine kC 2 [2,3,4,5,8,9,10,11,12,45] ?_
      refine kE ?_
      obtain rfl := oi h57
      exact kN [2, 3, 4, 5, 8, 9, 10, 11, 12, 45]
     ·have h54 := condF hb52 hy49
      refine kC 5 [2,3,4,5,8,9,10,11,12,45] ?_
      refine kE ?_
      obtain rfl := oi h54
      exact kN [2, 3, 4, 5, 8, 9, 10, 11, 12, 45]
    ·refine J.caseB 45 (b := s47) (by kernel_rfl) (fun hb58 => ?_) (fun hb58 => ?_)
     ·have h59 := condT hb58 h51
      refine kT ?_
      refine kSR ?_
      refine kC 6 [2,3,4,5,8,11,12,47,48,50,51,52] ?_
      obtain ⟨y61, hy62, h63⟩ := bindS h59
      refine RJ.call0 (d := (some 53)) (f := 84) (args := [.agg (encSt25 y10.1), lsv (encI .i32) 1 y1.1, .int .i64 (IntKind.wrap .i64 (y10.2.2.2.1 + 1)), .int .i64 y10.2.1, .int .i64 y10.2.2.1]) (v := .tup [.agg (encSt25 y61.1), .int .i64 y61.2.1, .bool y61.2.2]) (tr2 := []) (by kernel_rfl) (by kernel_rfl) (.cons (Le.refl _) (.cons (Le.refl _) (.cons (Le.refl _) (.cons (Le.refl _) (.cons (Le.refl _) .nil))))) (exergueref10_second_ok hy62) (by kernel_rfl) ?_
      refine kC 8 [2,3,4,5,8,11,12,13,14,15] ?_
      refine kEN ?_
      refine kSR ?_
      refine kC 2 [2,3,4,5,8,11,12,14,15] ?_
      refine kEN ?_
      refine kSR ?_
      refine RJ.seg 2 [2, 3, 4, 5, 8, 11, 12, 15] (L2 := [(2, .ptr 0 0), (3, .int .i64 0), (4, .int .i64 0), (5, lsv (encI .i32) 1 y1.1), (8, .ptr 1 0), (11, .int .i64 y61.2.1), (12, .bool y10.2.2.2.2), (15, .bool y61.2.2)]) (H2 := [.box [.nl, .nl, .nl, .nl, .bool false, .int .i64 0, .int .i64 0, .int .i64 0, .int .i64 0, .int .i64 0, .int .i64 0, .int .i64 0, .int .i64 0, .int .i64 0, .bool false, .int .i32 0, .int .i64 0], .box (encSt25 y61.1), .box (encSt25 y61.1)]) (by kernel_rfl) ?_
      refine kEN ?_
      refine kR ?_
      refine kC 2 [2,3,4,5,8,11,12] ?_
      refine kE ?_
      obtain rfl := oi h63
      refine PJ.wk (Wk.sel (L2 := [(2, .ptr 0 0), (3, .int .i64 0), (4, .int .i64 0), (5, lsv (encI .i32) 1 y1.1), (8, .ptr 1 0), (11, .int .i64 y61.2.1), (12, .bool y61.2.2)]) (H2 := [.box [.nl, .nl, .nl, .nl, .bool false, .int .i64 0, .int .i64 0, .int .i64 0, .int .i64 0, .int .i64 0, .int .i64 0, .int .i64 0, .int .i64 0, .int .i64 0, .bool false, .int .i32 0, .int .i64 0], .box (encSt25 y61.1)]) 0 (by rw [hFH]; rfl) hFD [0, 1] (by kernel_rfl) (by kernel_rfl) (by decide) (by kernel_rfl) (by kernel_rfl) (by kernel_rfl) (by kernel_rfl)) ?_
      exact kN [2, 3, 4, 5, 8, 11, 12]
     ·have h60 := condF hb58 h51
      refine kF ?_
      refine kK ?_
      obtain rfl := oi h60
      exact kN [2, 3, 4, 5, 8, 11, 12]
   ·obtain ⟨y80, hy81, h82⟩ := bindS h40
    refine K.cutX (by kernel_rfl) (fun (s79 : Unit) => ([(2, .ptr 0 0), (3, .int .i64 0), (4, .int .i64 0), (8, .ptr 1 0)], [.box [.nl, .nl, .nl, .nl, .bool false, .int .i64 0, .int .i64 0, .int .i64 0, .int .i64 0, .int .i64 0, .int .i64 0, .int .i64 0, .int .i64 0, .int .i64 0, .bool false, .int .i32 0, .int .i64 0], .box [lsv encSt106 2 s36.2.2.1, lsv encSt106 2 s36.2.2.2.1, lsv encSt106 2 s36.2.2.2.2.1, lsv encSt106 2 s36.2.2.2.2.2.1, .bool s36.2.2.2.2.2.2.1, .int .i64 s36.2.2.2.2.2.2.2.1, .int .i64 s36.2.2.2.2.2.2.2.2.1, .int .i64 s36.2.2.2.2.2.2.2.2.2.1, .int .i64 s36.2.2.2.2.2.2.2.2.2.2.1, .int .i64 s36.2.2.2.2.2.2.2.2.2.2.2.1, .int .i64 s36.2.2.2.2.2.2.2.2.2.2.2.2.1, .int .i64 s36.2.2.2.2.2.2.2.2.2.2.2.2.2.1, .int .i64 s36.2.2.2.2.2.2.2.2.2.2.2.2.2.2.1, .int .i64 s36.2.2.2.2.2.2.2.2.2.2.2.2.2.2.2.1, .bool s36.2.2.2.2.2.2.2.2.2.2.2.2.2.2.2.2.1, .int .i32 s36.2.2.2.2.2.2.2.2.2.2.2.2.2.2.2.2.2.1, .int .i64 s36.2.2.2.2.2.2.2.2.2.2.2.2.2.2.2.2.2.2]])) y80 ?_ (fun s79 hs => ?_)
    ·obtain ⟨s87, hy89, h91⟩ := bindS hy81
     refine K.cutN (by kernel_rfl) (fun (s87 : Bool) => ([(2, .ptr 0 0), (3, .int .i64 0), (4, .int .i64 0), (8, .ptr 1 0), (11, .int .i64 s36.1), (67, .bool s87)], [.box [.nl, .nl, .nl, .nl, .bool false, .int .i64 0, .int .i64 0, .int .i64 0, .int .i64 0, .int .i64 0, .int .i64 0, .int .i64 0, .int .i64 0, .int .i64 0, .bool false, .int .i32 0, .int .i64 0], .box [lsv encSt106 2 s36.2.2.1, lsv encSt106 2 s36.2.2.2.1, lsv encSt106 2 s36.2.2.2.2.1, lsv encSt106 2 s36.2.2.2.2.2.1, .bool s36.2.2.2.2.2.2.1, .int .i64 s36.2.2.2.2.2.2.2.1, .int .i64 s36.2.2.2.2.2.2.2.2.1, .int .i64 s36.2.2.2.2.2.2.2.2.2.1, .int .i64 s36.2.2.2.2.2.2.2.2.2.2.1, .int .i64 s36.2.2.2.2.2.2.2.2.2.2.2.1, .int .i64 s36.2.2.2.2.2.2.2.2.2.2.2.2.1, .int .i64 s36.2.2.2.2.2.2.2.2.2.2.2.2.2.1, .int .i64 s36.2.2.2.2.2.2.2.2.2.2.2.2.2.2.1, .int .i64 s36.2.2.2.2.2.2.2.2.2.2.2.2.2.2.2.1, .bool s36.2.2.2.2.2.2.2.2.2.2.2.2.2.2.2.2.1, .int .i32 s36.2.2.2.2.2.2.2.2.2.2.2.2.2.2.2.2.2.1, .int .i64 s36.2.2.2.2.2.2.2.2.2.2.2.2.2.2.2.2.2.2]])) s87 ?_ ?_
     ·refine kR ?_
      refine kC 3 [2,3,4,5,8,11,62] ?_
      refine RJ.caseB 62 (b := (!s36.2.1)) (by kernel_rfl) (fun hb92 => ?_) (fun hb92 => ?_)
      ·have h93 := condT hb92 hy89
       refine kC 5 [2,3,4,8,11,67] ?_
       refine kE ?_
       obtain rfl := oi h93
       exact kN [2, 3, 4, 8, 11, 67]
      ·have h94 := condF hb92 hy89
       refine kC 5 [2,3,4,8,11,67] ?_
       refine kE ?_
       obtain rfl := oi h94
       exact kN [2, 3, 4, 8, 11, 67]
     ·refine J.caseB 67 (b := s87) (by kernel_rfl) (fun hb95 => ?_) (fun hb95 => ?_)
      ·have h96 := condT hb95 h91
       refine kT ?_
       refine kSR ?_
       refine kC 5 [2,3,4,8] ?_
       refine kEN ?_
       refine kX ?_
       obtain rfl := oi h96
       have h98 := joinX_inr h82
       refine PJ.cutXr (fun e => nomatch e) ?_
       obtain rfl := oi h98
       refine PJ.res (v1 := .tup [.agg [.nl, .nl, .nl, .nl, .bool false, .int .i64 0, .int .i64 0, .int .i64 0, .int .i64 0, .int .i64 0, .int .i64 0, .int .i64 0, .int .i64 0, .int .i64 0, .bool false, .int .i32 0, .int .i64 0], .int .i64 s36.1, .int .i64 2]) (Le.tup (.cons (Le.agg (.cons (Le.nl _) (.cons (Le.nl _) (.cons (Le.nl _) (.cons (Le.nl _) (.cons (Le.refl _) (.cons (Le.refl _) (.cons (Le.refl _) (.cons (Le.refl _) (.cons (Le.refl _) (.cons (Le.refl _) (.cons (Le.refl _) (.cons (Le.refl _) (.cons (Le.refl _) (.cons (Le.refl _) (.cons (Le.refl _) (.cons (Le.refl _) (.cons (Le.refl _) .nil)))))))))))))))))) (.cons (Le.refl _) (.cons (Le.refl _) .nil)))) ?_
       exact kZ hFn hFH hFD
      ·have h97 := condF hb95 h91
       refine kF ?_
       refine kK ?_
       obtain rfl := oi h97
       exact PJ.cutXl [2, 3, 4, 8] (by kernel_rfl) (by kernel_rfl)
    ·subst hs
     have h83 := joinX_inl h82
     obtain ⟨y127, hy128, h129⟩ := bindS h83
     refine K.cutX (by kernel_rfl) (fun (s126 : Unit) => ([(2, .ptr 0 0), (3, .int .i64 0), (4, .int .i64 0), (8, .ptr 1 0)], [.box [.nl, .nl, .nl, .nl, .bool false, .int .i64 0, .int .i64 0, .int .i64 0, .int .i64 0, .int .i64 0, .int .i64 0, .int .i64 0, .int .i64 0, .int .i64 0, .bool false, .int .i32 0, .int .i64 0], .box [lsv encSt106 2 s36.2.2.1, lsv encSt106 2 s36.2.2.2.1, lsv encSt106 2 s36.2.2.2.2.1, lsv encSt106 2 s36.2.2.2.2.2.1, .bool s36.2.2.2.2.2.2.1, .int .i64 s36.2.2.2.2.2.2.2.1, .int .i64 s36.2.2.2.2.2.2.2.2.1, .int .i64 s36.2.2.2.2.2.2.2.2.2.1, .int .i64 s36.2.2.2.2.2.2.2.2.2.2.1, .int .i64 s36.2.2.2.2.2.2.2.2.2.2.2.1, .int .i64 s36.2.2.2.2.2.2.2.2.2.2.2.2.1, .int .i64 s36.2.2.2.2.2.2.2.2.2.2.2.2.2.1, .int .i64 s36.2.2.2.2.2.2.2.2.2.2.2.2.2.2.1, .int .i64 s36.2.2.2.2.2.2.2.2.2.2.2.2.2.2.2.1, .bool s36.2.2.2.2.2.2.2.2.2.2.2.2.2.2.2.2.1, .int .i32 s36.2.2.2.2.2.2.2.2.2.2.2.2.2.2.2.2.2.1, .int .i64 s36.2.2.2.2.2.2.2.2.2.2.2.2.2.2.2.2.2.2]])) y127 ?_ (fun s126 hs => ?_)
     ·obtain ⟨s140, hy142, h144⟩ := bindS hy128
      refine K.cutN (by kernel_rfl) (fun (s140 : Bool) => ([(2, .ptr 0 0), (3, .int .i64 0), (4, .int .i64 0), (8, .ptr 1 0), (90, .bool s140)], [.box [.nl, .nl, .nl, .nl, .bool false, .int .i64 0, .int .i64 0, .int .i64 0, .int .i64 0, .int .i64 0, .int .i64 0, .int .i64 0, .int .i64 0, .int .i64 0, .bool false, .int .i32 0, .int .i64 0], .box [lsv encSt106 2 s36.2.2.1, lsv encSt106 2 s36.2.2.2.1, lsv encSt106 2 s36.2.2.2.2.1, lsv encSt106 2 s36.2.2.2.2.2.1, .bool s36.2.2.2.2.2.2.1, .int .i64 s36.2.2.2.2.2.2.2.1, .int .i64 s36.2.2.2.2.2.2.2.2.1, .int .i64 s36.2.2.2.2.2.2.2.2.2.1, .int .i64 s36.2.2.2.2.2.2.2.2.2.2.1, .int .i64 s36.2.2.2.2.2.2.2.2.2.2.2.1, .int .i64 s36.2.2.2.2.2.2.2.2.2.2.2.2.1, .int .i64 s36.2.2.2.2.2.2.2.2.2.2.2.2.2.1, .int .i64 s36.2.2.2.2.2.2.2.2.2.2.2.2.2.2.1, .int .i64 s36.2.2.2.2.2.2.2.2.2.2.2.2.2.2.2.1, .bool s36.2.2.2.2.2.2.2.2.2.2.2.2.2.2.2.2.1, .int .i32 s36.2.2.2.2.2.2.2.2.2.2.2.2.2.2.2.2.2.1, .int .i64 s36.2.2.2.2.2.2.2.2.2.2.2.2.2.2.2.2.2.2]])) s140 ?_ ?_
      ·refine kR ?_
       refine kC 7 [2,3,4,8,76] ?_
       refine RJ.caseB 76 (b := (decide ((IntKind.wrap .i64 (s36.2.2.2.2.2.2.2.1 + s36.2.2.2.2.2.2.2.2.1)) > 40))) (by kernel_rfl) (fun hb145 => ?_) (fun hb145 => ?_)
       ·have h146 := condT hb145 hy142
        refine kC 14 [2,3,4,8,90] ?_
        refine kE ?_
        obtain rfl := oi h146
        exact kN [2, 3, 4, 8, 90]
       ·have h147 := condF hb145 hy142
        refine kC 5 [2,3,4,8,81] ?_
        refine RJ.caseB 81 (b := (decide (s36.2.2.2.2.2.2.2.2.2.2.1 > 40))) (by kernel_rfl) (fun hb148 => ?_) (fun hb148 => ?_)
        ·have h149 := condT hb148 h147
         refine kC 9 [2,3,4,8,90] ?_
         refine kE ?_
         obtain rfl := oi h149
         exact kN [2, 3, 4, 8, 90]
        ·have h150 := condF hb148 h147
         refine kC 5 [2,3,4,8,86] ?_
         refine RJ.caseB 86 (b := (decide (s36.2.2.2.2.2.2.2.2.2.2.2.2.2.2.1 > 40))) (by kernel_rfl) (fun hb151 => ?_) (fun hb151 => ?_)
         ·have h152 := condT hb151 h150
          refine RJ.seg 4 [2, 3, 4, 8, 90] (L2 := [(2, .ptr 0 0), (3, .int .i64 0), (4, .int .i64 0), (8, .ptr 1 0), (90, .bool true)]) (H2 := [.box [.nl, .nl, .nl, .nl, .bool false, .int .i64 0, .int .i64 0, .int .i64 0, .int .i64 0, .int .i64 0, .int .i64 0, .int .i64 0, .int .i64 0, .int .i64 0, .bool false, .int .i32 0, .int .i64 0], .box [lsv encSt106 2 s36.2.2.1, lsv encSt106 2 s36.2.2.2.1, lsv encSt106 2 s36.2.2.2.2.1, lsv encSt106 2 s36.2.2.2.2.2.1, .bool s36.2.2.2.2.2.2.1, .int .i64 s36.2.2.2.2.2.2.2.1, .int .i64 s36.2.2.2.2.2.2.2.2.1, .int .i64 s36.2.2.2.2.2.2.2.2.2.1, .int .i64 s36.2.2.2.2.2.2.2.2.2.2.1, .int .i64 s36.2.2.2.2.2.2.2.2.2.2.2.1, .int .i64 s36.2.2.2.2.2.2.2.2.2.2.2.2.1, .int .i64 s36.2.2.2.2.2.2.2.2.2.2.2.2.2.1, .int .i64 s36.2.2.2.2.2.2.2.2.2.2.2.2.2.2.1, .int .i64 s36.2.2.2.2.2.2.2.2.2.2.2.2.2.2.2.1, .bool s36.2.2.2.2.2.2.2.2.2.2.2.2.2.2.2.2.1, .int .i32 s36.2.2.2.2.2.2.2.2.2.2.2.2.2.2.2.2.2.1, .int .i64 s36.2.2.2.2.2.2.2.2.2.2.2.2.2.2.2.2.2.2]]) (by kernel_rfl) ?_
          refine kE ?_
          obtain rfl := oi h152
          exact kN [2, 3, 4, 8, 90]
         ·have h153 := condF hb151 h150
          refine RJ.seg 4 [2, 3, 4, 8, 90] (L2 := [(2, .ptr 0 0), (3, .int .i64 0), (4, .int .i64 0), (8, .ptr 1 0), (90, .bool (decide (s36.2.2.2.2.2.2.2.2.2.2.2.2.2.2.2.1 > 40)))]) (H2 := [.box [.nl, .nl, .nl, .nl, .bool false, .int .i64 0, .int .i64 0, .int .i64 0, .int .i64 0, .int .i64 0, .int .i64 0, .int .i64 0, .int .i64 0, .int .i64 0, .bool false, .int .i32 0, .int .i64 0], .box [lsv encSt106 2 s36.2.2.1, lsv encSt106 2 s36.2.2.2.1, lsv encSt106 2 s36.2.2.2.2.1, lsv encSt106 2 s36.2.2.2.2.2.1, .bool s36.2.2.2.2.2.2.1, .int .i64 s36.2.2.2.2.2.2.2.1, .int .i64 s36.2.2.2.2.2.2.2.2.1, .int .i64 s36.2.2.2.2.2.2.2.2.2.1, .int .i64 s36.2.2.2.2.2.2.2.2.2.2.1, .int .i64 s36.2.2.2.2.2.2.2.2.2.2.2.1, .int .i64 s36.2.2.2.2.2.2.2.2.2.2.2.2.1, .int .i64 s36.2.2.2.2.2.2.2.2.2.2.2.2.2.1, .int .i64 s36.2.2.2.2.2.2.2.2.2.2.2.2.2.2.1, .int .i64 s36.2.2.2.2.2.2.2.2.2.2.2.2.2.2.2.1, .bool s36.2.2.2.2.2.2.2.2.2.2.2.2.2.2.2.2.1, .int .i32 s36.2.2.2.2.2.2.2.2.2.2.2.2.2.2.2.2.2.1, .int .i64 s36.2.2.2.2.2.2.2.2.2.2.2.2.2.2.2.2.2.2]]) (by kernel_rfl) ?_
          refine kE ?_
          obtain rfl := oi h153
          exact kN [2, 3, 4, 8, 90]
      ·refine J.caseB 90 (b := s140) (by kernel_rfl) (fun hb154 => ?_) (fun hb154 => ?_)
       ·have h155 := condT hb154 h144
        refine kT ?_
        refine kSR ?_
        refine kC 4 [2,3,4,8] ?_
        refine kEN ?_
        refine kX ?_
        obtain rfl := oi h155
        have h157 := joinX_inr h129
        refine PJ.cutXr (fun e => nomatch e) ?_
        obtain rfl := oi h157
        refine PJ.res (v1 := .tup [.agg [.nl, .nl, .nl, .nl, .bool false, .int .i64 0, .int .i64 0, .int .i64 0, .int .i64 0, .int .i64 0, .int .i64 0, .int .i64 0, .int .i64 0, .int .i64 0, .bool false, .int .i32 0, .int .i64 0], .int .i64 0, .int .i64 11]) (Le.tup (.cons (Le.agg (.cons (Le.nl _) (.cons (Le.nl _) (.cons (Le.nl _) (.cons (Le.nl _) (.cons (Le.refl _) (.cons (Le.refl _) (.cons (Le.refl _) (.cons (Le.refl _) (.cons (Le.refl _) (.cons (Le.refl _) (.cons (Le.refl _) (.cons (Le.refl _) (.cons (Le.refl _) (.cons (Le.refl _) (.cons (Le.refl _) (.cons (Le.refl _) (.cons (Le.refl _) .nil)))))))))))))))))) (.cons (Le.refl _) (.cons (Le.refl _) .nil)))) ?_
        exact kZ hFn hFH hFD
       ·have h156 := condF hb154 h144
        refine kF ?_
        refine kK ?_
        obtain rfl := oi h156
        exact PJ.cutXl [2, 3, 4, 8] (by kernel_rfl) (by kernel_rfl)
     ·subst hs
      have h130 := joinX_inl h129
      refine kSR ?_
      refine kC 4 [2,3,4] ?_
      refine kEN ?_
      refine kX ?_
      obtain rfl := oi h130
      exact kZ hFn hFH hFD

def exergueref10_Toks (x0 : List St106) (x1 : List St106) : Option (Bool) :=
 (bif (decide (¬ (x0.length : Int) = (x1.length : Int))) then (some false) else (Option.bind (loopN (fun (s51 : Int) => (bif (decide (s51 < (x0.length : Int))) then (bif inR s51 x0.length then (bif inR s51 x1.length then (bif (!((decide (((nth x0 s51).Kind_) = ((nth x1 s51).Kind_))) && ((decide (((nth x0 s51).R_) = ((nth x1 s51).R_))) && true))) then (some (.inr (.inr false))) else (some (.inl (IntKind.wrap .i64 (s51 + 1))))) else none) else none) else (some (.inr (.inl ()))))) big 0) (joinX fun (s46 : Unit) => (some true))))
theorem exergueref10_Toks_ok {x0 : List St106} {x1 : List St106} {r : Bool} (h : exergueref10_Toks x0 x1 = some r) : SC Tryz.prog 88 [lsv encSt106 2 x0, lsv encSt106 2 x1] [] (.bool r) [] := by
 refine kFn (fn := Tryz.f88) (fun F hFn hFH hFD => ?_)
 unfold exergueref10_Toks at h
 refine kSR ?_
 refine kC 1 [0,1,4] ?_
 refine kEN ?_
 refine kS ?_
 refine kSR ?_
 refine kC 5 [0,1,4,10] ?_
 refine kEN ?_
 refine J.caseB 10 (b := (decide (¬ (x0.length : Int) = (x1.length : Int)))) (by kernel_rfl) (fun hb1 => ?_) (fun hb1 => ?_)
 ·have h2 := condT hb1 h
  refine kT ?_
  refine kSR ?_
  refine kC 1 [0,1,4] ?_
  refine kEN ?_
  refine kX ?_
  refine PJ.passRet ?_
  obtain rfl := oi h2
  exact kZ hFn hFH hFD
 ·have h3 := condF hb1 h
  refine kF ?_
  refine kK ?_
  refine PJ.next ?_
  obtain ⟨y47, hy48, h49⟩ := bindS h3
  refine K.cutX (by kernel_rfl) (fun (s46 : Unit) => ([(4, .bool false)], [])) y47 ?_ (fun s46 hs => ?_)
  ·refine kSR ?_
   refine kC 1 [0,1,4,5] ?_
   refine kEN ?_
   refine K.block 0 (by kernel_rfl) ?_
   refine K.loop (by kernel_rfl) (fun (s51 : Int) => ([(0, lsv encSt106 2 x0), (1, lsv encSt106 2 x1), (4, .bool false), (5, .int .i64 s51)], [])) hy48 [0, 1, 4, 5] (by kernel_rfl) (by kernel_rfl) (fun s51 x79 hs78 => ?_)
   refine kS ?_
   refine kSR ?_
   refine kC 4 [0,1,4,5,14] ?_
   refine kEN ?_
   refine J.caseB 14 (b := (decide (s51 < (x0.length : Int)))) (by kernel_rfl) (fun hb80 => ?_) (fun hb80 => ?_)
   ·have h81 := condT hb80 hs78
    refine kT ?_
    refine kK ?_
    refine PJ.next ?_
    refine kS ?_
    refine K.block 1 (by kernel_rfl) ?_
    refine kS ?_
    refine J.keep [0, 1, 4, 5] (L2 := [(0, lsv encSt106 2 x0), (1, lsv encSt106 2 x1), (4, .bool false), (5, .int .i64 s51)]) (by kernel_rfl) ?_
    refine K.draw (by kernel_rfl) (by kernel_rfl) (by kernel_rfl) (H2 := []) (by kernel_rfl) (n := 0) (by kernel_rfl) ?_
    refine kD 2 ?_
    obtain ⟨hm, h83⟩ := asrt h81
    refine RJ.rel (d := (some 19)) (ef := ⟨.ep (((x0.flatMap encSt106).drop ((s51 : Int).toNat * 2)).take 2), [], []⟩) (ef' := ⟨.ep (encSt106 (nth x0 s51)), [], []⟩) (c := inR s51 x0.length) (tr2 := [([], []), ([], []), ([], [])]) (H2 := []) (by kernel_rfl) hm (fun hc => N.idx encSt106_len hc) (by kernel_rfl) ?_
    refine kD 3 ?_
    obtain ⟨hm, h84⟩ := asrt h83
    refine RJ.rel (d := (some 23)) (ef := ⟨.ep (((x1.flatMap encSt106).drop ((s51 : Int).toNat * 2)).take 2), [], []⟩) (ef' := ⟨.ep (encSt106 (nth x1 s51)), [], []⟩) (c := inR s51 x1.length) (tr2 := [([], []), ([], []), ([], []), ([], []), ([], []), ([], []), ([], [])]) (H2 := []) (by kernel_rfl) hm (fun hc => N.idx encSt106_len hc) (by kernel_rfl) ?_
    refine RJ.segD 2 (tr2 := [([], []), ([], []), ([], []), ([], []), ([], []), ([], []), ([], []), ([], []), ([], [])]) (L2 := [(25, .bool ((!((decide (((nth x0 s51).Kind_) = ((nth x1 s51).Kind_))) && ((decide (((nth x0 s51).R_) = ((nth x1 s51).R_))) && true))))), (24, .agg [.int .i64 ((nth x1 s51).Kind_), .int .i32 ((nth x1 s51).R_)]), (23, .ep [.int .i64 ((nth x1 s51).Kind_), .int .i32 ((nth x1 s51).R_)]), (22, .int .i64 s51), (21, lsv encSt106 2 x1), (20, .agg [.int .i64 ((nth x0 s51).Kind_), .int .i32 ((nth x0 s51).R_)]), (19, .ep [.int .i64 ((nth x0 s51).Kind_), .int .i32 ((nth x0 s51).R_)]), (18, .int .i64 s51), (17, lsv encSt106 2 x0), (0, lsv encSt106 2 x0), (1, lsv encSt106 2 x1), (4, .bool false), (5, .int .i64 s51)]) (H2 := []) (by kernel_rfl) ?_
    refine kEN ?_
    refine J.caseB 25 (b := (!((decide (((nth x0 s51).Kind_) = ((nth x1 s51).Kind_))) && ((decide (((nth x0 s51).R_) = ((nth x1 s51).R_))) && true)))) (by kernel_rfl) (fun hb85 => ?_) (fun hb85 => ?_)
    ·have h86 := condT hb85 h84
     refine kT ?_
     refine kSR ?_
     refine kC 1 [0,1,4,5] ?_
     refine kEN ?_
     refine kX ?_
     refine PJ.blockRet ?_
     refine PJ.passRet ?_
     obtain rfl := oi h86
     refine PJ.loopOut (fun e => nomatch e) (fun he90 => ?_)
     have h88 := congrArg some he90
     refine PJ.blockRet ?_
     obtain rfl := oi h88
     have h89 := joinX_inr h49
     refine PJ.cutXr (fun e => nomatch e) ?_
     obtain rfl := oi h89
     exact kZ hFn hFH hFD
    ·have h87 := condF hb85 h84
     refine kF ?_
     refine kK ?_
     refine PJ.blockNormal ?_
     refine PJ.next ?_
     refine kR ?_
     refine kC 3 [0,1,4,5] ?_
     refine kE ?_
     obtain rfl := oi h87
     exact PJ.loopNext [0, 1, 4, 5] (by kernel_rfl) (by kernel_rfl)
   ·have h82 := condF hb80 hs78
    refine kF ?_
    refine K.exit 0 (by kernel_rfl) ?_
    refine PJ.passExit ?_
    obtain rfl := oi h82
    refine PJ.loopOut (fun e => nomatch e) (fun he92 => ?_)
    have h91 := congrArg some he92
    refine PJ.blockOut ?_
    obtain rfl := oi h91
    exact PJ.cutXl [4] (by kernel_rfl) (by kernel_rfl)
  ·subst hs
   have h50 := joinX_inl h49
   refine kSR ?_
   refine kC 1 [4] ?_
   refine kEN ?_
   refine kX ?_
   obtain rfl := oi h50
   exact kZ hFn hFH hFD

def exergueref10_Same (x0 : St25) (x1 : St25) : Option (Bool) :=
 (Option.bind (Option.bind (exergueref10_Toks x0.Pre_ x1.Pre_) fun y15 => (bif y15 then (Option.bind (exergueref10_Toks x0.Suf_ x1.Suf_) fun y21 => (some y21)) else (some false))) fun (s10 : Bool) => (Option.bind (Option.bind (exergueref10_Toks x0.NPre_ x1.NPre_) fun y38 => (bif y38 then (Option.bind (exergueref10_Toks x0.NSuf_ x1.NSuf_) fun y44 => (some y44)) else (some false))) fun (s33 : Bool) => (Option.bind (Option.bind (bif (!s10) then (some true) else (bif (!s33) then (some true) else (bif (x0.Neg_ != x1.Neg_) then (some true) else (bif (decide (¬ x0.Pad_ = x1.Pad_)) then (some true) else (bif (decide (¬ x0.PadAt_ = x1.PadAt_)) then (some true) else (some (x0.ExpPlus_ != x1.ExpPlus_))))))) fun (s106 : Bool) => (bif s106 then (some (.inr false)) else (some (.inl ())))) (joinX fun (s86 : Unit) => (Option.bind (bif (decide (x0.Hash_ = x1.Hash_)) then (bif (decide (x0.MinInt_ = x1.MinInt_)) then (bif (decide (x0.G1_ = x1.G1_)) then (some (decide (x0.G2_ = x1.G2_))) else (some false)) else (some false)) else (some false)) fun (s139 : Bool) => (Option.bind (bif s139 then (bif (decide (x0.MinFrac_ = x1.MinFrac_)) then (bif (decide (x0.MaxFrac_ = x1.MaxFrac_)) then (bif (decide (x0.MinSig_ = x1.MinSig_)) then (bif (decide (x0.MaxSig_ = x1.MaxSig_)) then (some (decide (x0.Exp_ = x1.Exp_))) else (some false)) else (some false)) else (some false)) else (some false)) else (some false)) fun (s168 : Bool) => (some s168)))))))
theorem exergueref10_Same_ok {x0 : St25} {x1 : St25} {r : Bool} (h : exergueref10_Same x0 x1 = some r) : SC Tryz.prog 59 [.agg (encSt25 x0), .agg (encSt25 x1)] [] (.bool r) [] := by
 refine kFn (fn := Tryz.f59) (fun F hFn hFH hFD => ?_)
 unfold exergueref10_Same at h
 refine kSR ?_
 refine kC 3 [2,3,4] ?_
 refine kEN ?_
 obtain ⟨s10, hy12, h14⟩ := bindS h
 refine K.cutN (by kernel_rfl) (fun (s10 : Bool) => ([(2, .ptr 0 0), (3, .ptr 1 0), (4, .bool false), (5, .bool s10)], [.box (encSt25 x0), .box (encSt25 x1)])) s10 ?_ ?_
 ·refine kR ?_
  refine kC 4 [2,3,4,9,11] ?_
  obtain ⟨y15, hy16, h17⟩ := bindS hy12
  refine RJ.call0 (d := (some 12)) (f := 88) (args := [lsv encSt106 2 x0.Pre_, lsv encSt106 2 x1.Pre_]) (v := .bool y15) (tr2 := []) (by kernel_rfl) (by kernel_rfl) (.cons (Le.refl _) (.cons (Le.refl _) .nil)) (exergueref10_Toks_ok hy16) (by kernel_rfl) ?_
  refine kC 1 [2,3,4,13] ?_
  refine RJ.caseB 13 (b := y15) (by kernel_rfl) (fun hb18 => ?_) (fun hb18 => ?_)
  ·have h19 := condT hb18 h17
   refine RJ.seg 4 [2, 3, 4, 13, 15, 17] (L2 := [(2, .ptr 0 0), (3, .ptr 1 0), (4, .bool false), (13, .bool true), (15, lsv encSt106 2 x0.Suf_), (17, lsv encSt106 2 x1.Suf_)]) (H2 := [.box (encSt25 x0), .box (encSt25 x1)]) (by kernel_rfl) ?_
   obtain ⟨y21, hy22, h23⟩ := bindS h19
   refine RJ.call0 (d := (some 18)) (f := 88) (args := [lsv encSt106 2 x0.Suf_, lsv encSt106 2 x1.Suf_]) (v := .bool y21) (tr2 := []) (by kernel_rfl) (by kernel_rfl) (.cons (Le.refl _) (.cons (Le.refl _) .nil)) (exergueref10_Toks_ok hy22) (by kernel_rfl) ?_
   refine kC 2 [2,3,4,5] ?_
   refine kE ?_
   obtain rfl := oi h23
   exact kN [2, 3, 4, 5]
  ·have h20 := condF hb18 h17
   refine RJ.seg 7 [2, 3, 4, 5] (L2 := [(2, .ptr 0 0), (3, .ptr 1 0), (4, .bool false), (5, .bool false)]) (H2 := [.box (encSt25 x0), .box (encSt25 x1)]) (by kernel_rfl) ?_
   refine kE ?_
   obtain rfl := oi h20
   exact kN [2, 3, 4, 5]
 ·obtain ⟨s33, hy35, h37⟩ := bindS h14
  refine K.cutN (by kernel_rfl) (fun (s33 : Bool) => ([(2, .ptr 0 0), (3, .ptr 1 0), (4, .bool false), (5, .bool s10), (6, .bool s33)], [.box (encSt25 x0), .box (encSt25 x1)])) s33 ?_ ?_
  ·refine kR ?_
   refine kC 4 [2,3,4,5,21,23] ?_
   obtain ⟨y38, hy39, h40⟩ := bindS hy35
   refine RJ.call0 (d := (some 24)) (f := 88) (args := [lsv encSt106 2 x0.NPre_, lsv encSt106 2 x1.NPre_]) (v := .bool y38) (tr2 := []) (by kernel_rfl) (by kernel_rfl) (.cons (Le.refl _) (.cons (Le.refl _) .nil)) (exergueref10_Toks_ok hy39) (by kernel_rfl) ?_
   refine kC 1 [2,3,4,5,25] ?_
   refine RJ.caseB 25 (b := y38) (by kernel_rfl) (fun hb41 => ?_) (fun hb41 => ?_)
   ·have h42 := condT hb41 h40
    refine kC 4 [2,3,4,5,25,27,29] ?_
    obtain ⟨y44, hy45, h46⟩ := bindS h42
    refine RJ.call0 (d := (some 30)) (f := 88) (args := [lsv encSt106 2 x0.NSuf_, lsv encSt106 2 x1.NSuf_]) (v := .bool y44) (tr2 := []) (by kernel_rfl) (by kernel_rfl) (.cons (Le.refl _) (.cons (Le.refl _) .nil)) (exergueref10_Toks_ok hy45) (by kernel_rfl) ?_
    refine RJ.seg 2 [2, 3, 4, 5, 6] (L2 := [(2, .ptr 0 0), (3, .ptr 1 0), (4, .bool false), (5, .bool s10), (6, .bool y44)]) (H2 := [.box (encSt25 x0), .box (encSt25 x1)]) (by kernel_rfl) ?_
    refine kE ?_
    obtain rfl := oi h46
    exact kN [2, 3, 4, 5, 6]
   ·have h43 := condF hb41 h40
    refine kC 7 [2,3,4,5,6] ?_
    refine kE ?_
    obtain rfl := oi h43
    exact kN [2, 3, 4, 5, 6]
  ·obtain ⟨y87, hy88, h89⟩ := bindS h37
   refine K.cutX (by kernel_rfl) (fun (s86 : Unit) => ([(2, .ptr 0 0), (3, .ptr 1 0), (4, .bool false)], [.box (encSt25 x0), .box (encSt25 x1)])) y87 ?_ (fun s86 hs => ?_)
   ·obtain ⟨s106, hy108, h110⟩ := bindS hy88
    refine K.cutN (by kernel_rfl) (fun (s106 : Bool) => ([(2, .ptr 0 0), (3, .ptr 1 0), (4, .bool false), (65, .bool s106)], [.box (encSt25 x0), .box (encSt25 x1)])) s106 ?_ ?_
    ·refine kR ?_
     refine kC 3 [2,3,4,6,34] ?_
     refine RJ.caseB 34 (b := (!s10)) (by kernel_rfl) (fun hb111 => ?_) (fun hb111 => ?_)
     ·have h112 := condT hb111 hy108
      refine kC 31 [2,3,4,65] ?_
      refine kE ?_
      obtain rfl := oi h112
      exact kN [2, 3, 4, 65]
     ·have h113 := condF hb111 hy108
      refine kC 4 [2,3,4,38] ?_
      refine RJ.caseB 38 (b := (!s33)) (by kernel_rfl) (fun hb114 => ?_) (fun hb114 => ?_)
      ·have h115 := condT hb114 h113
       refine kC 27 [2,3,4,65] ?_
       refine kE ?_
       obtain rfl := oi h115
       exact kN [2, 3, 4, 65]
      ·have h116 := condF hb114 h113
       refine kC 7 [2,3,4,45] ?_
       refine RJ.caseB 45 (b := (x0.Neg_ != x1.Neg_)) (by kernel_rfl) (fun hb117 => ?_) (fun hb117 => ?_)
       ·have h118 := condT hb117 h116
        refine RJ.seg 20 [2, 3, 4, 65] (L2 := [(2, .ptr 0 0), (3, .ptr 1 0), (4, .bool false), (65, .bool true)]) (H2 := [.box (encSt25 x0), .box (encSt25 x1)]) (by kernel_rfl) ?_
        refine kE ?_
        obtain rfl := oi h118
        exact kN [2, 3, 4, 65]
       ·have h119 := condF hb117 h116
        refine RJ.seg 7 [2, 3, 4, 52] (L2 := [(2, .ptr 0 0), (3, .ptr 1 0), (4, .bool false), (52, .bool (decide (¬ x0.Pad_ = x1.Pad_)))]) (H2 := [.box (encSt25 x0), .box (encSt25 x1)]) (by kernel_rfl) ?_
        refine RJ.caseB 52 (b := (decide (¬ x0.Pad_ = x1.Pad_))) (by kernel_rfl) (fun hb120 => ?_) (fun hb120 => ?_)
        ·have h121 := condT hb120 h119
         refine kC 13 [2,3,4,65] ?_
         refine kE ?_
         obtain rfl := oi h121
         exact kN [2, 3, 4, 65]
        ·have h122 := condF hb120 h119
         refine kC 7 [2,3,4,59] ?_
         refine RJ.caseB 59 (b := (decide (¬ x0.PadAt_ = x1.PadAt_))) (by kernel_rfl) (fun hb123 => ?_) (fun hb123 => ?_)
         ·have h124 := condT hb123 h122
          refine kC 6 [2,3,4,65] ?_
          refine kE ?_
          obtain rfl := oi h124
          exact kN [2, 3, 4, 65]
         ·have h125 := condF hb123 h122
          refine kC 6 [2,3,4,65] ?_
          refine kE ?_
          obtain rfl := oi h125
          exact kN [2, 3, 4, 65]
    ·refine J.caseB 65 (b := s106) (by kernel_rfl) (fun hb126 => ?_) (fun hb126 => ?_)
     ·have h127 := condT hb126 h110
      refine kT ?_
      refine kSR ?_
      refine kC 1 [2,3,4] ?_
      refine kEN ?_
      refine kX ?_
      obtain rfl := oi h127
      have h129 := joinX_inr h89
      refine PJ.cutXr (fun e => nomatch e) ?_
      obtain rfl := oi h129
      exact kZ hFn hFH hFD
     ·have h128 := condF hb126 h110
      refine kF ?_
      refine kK ?_
      obtain rfl := oi h128
      exact PJ.cutXl [2, 3, 4] (by kernel_rfl) (by kernel_rfl)
   ·subst hs
    have h90 := joinX_inl h89
    obtain ⟨s139, hy141, h143⟩ := bindS h90
    refine K.cutN (by kernel_rfl) (fun (s139 : Bool) => ([(2, .ptr 0 0), (3, .ptr 1 0), (4, .bool false), (7, .bool s139)], [.box (encSt25 x0), .box (encSt25 x1)])) s139 ?_ ?_
    ·refine kR ?_
     refine kC 6 [2,3,4,71] ?_
     refine RJ.caseB 71 (b := (decide (x0.Hash_ = x1.Hash_))) (by kernel_rfl) (fun hb144 => ?_) (fun hb144 => ?_)
     ·have h145 := condT hb144 hy141
      refine kC 7 [2,3,4,78] ?_
      refine RJ.caseB 78 (b := (decide (x0.MinInt_ = x1.MinInt_))) (by kernel_rfl) (fun hb147 => ?_) (fun hb147 => ?_)
      ·have h148 := condT hb147 h145
       refine kC 7 [2,3,4,85] ?_
       refine RJ.caseB 85 (b := (decide (x0.G1_ = x1.G1_))) (by kernel_rfl) (fun hb150 => ?_) (fun hb150 => ?_)
       ·have h151 := condT hb150 h148
        refine RJ.seg 7 [2, 3, 4, 7] (L2 := [(2, .ptr 0 0), (3, .ptr 1 0), (4, .bool false), (7, .bool (decide (x0.G2_ = x1.G2_)))]) (H2 := [.box (encSt25 x0), .box (encSt25 x1)]) (by kernel_rfl) ?_
        refine kE ?_
        obtain rfl := oi h151
        exact kN [2, 3, 4, 7]
       ·have h152 := condF hb150 h148
        refine RJ.seg 7 [2, 3, 4, 7] (L2 := [(2, .ptr 0 0), (3, .ptr 1 0), (4, .bool false), (7, .bool false)]) (H2 := [.box (encSt25 x0), .box (encSt25 x1)]) (by kernel_rfl) ?_
        refine kE ?_
        obtain rfl := oi h152
        exact kN [2, 3, 4, 7]
      ·have h149 := condF hb147 h145
       refine kC 14 [2,3,4,7] ?_
       refine kE ?_
       obtain rfl := oi h149
       exact kN [2, 3, 4, 7]
     ·have h146 := condF hb144 hy141
      refine kC 21 [2,3,4,7] ?_
      refine kE ?_
      obtain rfl := oi h146
      exact kN [2, 3, 4, 7]
    ·obtain ⟨s168, hy170, h172⟩ := bindS h143
     refine K.cutN (by kernel_rfl) (fun (s168 : Bool) => ([(4, .bool s168)], [])) s168 ?_ ?_
     ·refine kR ?_
      refine kC 2 [2,3,4,93] ?_
      refine RJ.caseB 93 (b := s139) (by kernel_rfl) (fun hb173 => ?_) (fun hb173 => ?_)
      ·have h174 := condT hb173 hy170
       refine kC 7 [2,3,4,100] ?_
       refine RJ.caseB 100 (b := (decide (x0.MinFrac_ = x1.MinFrac_))) (by kernel_rfl) (fun hb176 => ?_) (fun hb176 => ?_)
       ·have h177 := condT hb176 h174
        refine kC 7 [2,3,4,107] ?_
        refine RJ.caseB 107 (b := (decide (x0.MaxFrac_ = x1.MaxFrac_))) (by kernel_rfl) (fun hb179 => ?_) (fun hb179 => ?_)
        ·have h180 := condT hb179 h177
         refine RJ.seg 7 [2, 3, 4, 114] (L2 := [(2, .ptr 0 0), (3, .ptr 1 0), (4, .bool false), (114, .bool (decide (x0.MinSig_ = x1.MinSig_)))]) (H2 := [.box (encSt25 x0), .box (encSt25 x1)]) (by kernel_rfl) ?_
         refine RJ.caseB 114 (b := (decide (x0.MinSig_ = x1.MinSig_))) (by kernel_rfl) (fun hb182 => ?_) (fun hb182 => ?_)
         ·have h183 := condT hb182 h180
          refine kC 7 [2,3,4,121] ?_
          refine RJ.caseB 121 (b := (decide (x0.MaxSig_ = x1.MaxSig_))) (by kernel_rfl) (fun hb185 => ?_) (fun hb185 => ?_)
          ·have h186 := condT hb185 h183
           refine kC 7 [4] ?_
           refine kE ?_
           obtain rfl := oi h186
           refine PJ.wk (Wk.sel (L2 := [(4, .bool (decide (x0.Exp_ = x1.Exp_)))]) (H2 := []) 0 (by rw [hFH]; rfl) hFD [] (by kernel_rfl) (by kernel_rfl) (by decide) (by kernel_rfl) (by kernel_rfl) (by kernel_rfl) (by kernel_rfl)) ?_
           exact kN [4]
          ·have h187 := condF hb185 h183
           refine kC 7 [4] ?_
           refine kE ?_
           obtain rfl := oi h187
           refine PJ.wk (Wk.sel (L2 := [(4, .bool false)]) (H2 := []) 0 (by rw [hFH]; rfl) hFD [] (by kernel_rfl) (by kernel_rfl) (by decide) (by kernel_rfl) (by kernel_rfl) (by kernel_rfl) (by kernel_rfl)) ?_
           exact kN [4]
         ·have h184 := condF hb182 h180
          refine kC 14 [4] ?_
          refine kE ?_
          obtain rfl := oi h184
          refine PJ.wk (Wk.sel (L2 := [(4, .bool false)]) (H2 := []) 0 (by rw [hFH]; rfl) hFD [] (by kernel_rfl) (by kernel_rfl) (by decide) (by kernel_rfl) (by kernel_rfl) (by kernel_rfl) (by kernel_rfl)) ?_
          exact kN [4]
        ·have h181 := condF hb179 h177
         refine RJ.seg 21 [4] (L2 := [(4, .bool false)]) (H2 := [.box (encSt25 x0), .box (encSt25 x1)]) (by kernel_rfl) ?_
         refine kE ?_
         obtain rfl := oi h181
         refine PJ.wk (Wk.sel (L2 := [(4, .bool false)]) (H2 := []) 0 (by rw [hFH]; rfl) hFD [] (by kernel_rfl) (by kernel_rfl) (by decide) (by kernel_rfl) (by kernel_rfl) (by kernel_rfl) (by kernel_rfl)) ?_
         exact kN [4]
       ·have h178 := condF hb176 h174
        refine kC 28 [4] ?_
        refine kE ?_
        obtain rfl := oi h178
        refine PJ.wk (Wk.sel (L2 := [(4, .bool false)]) (H2 := []) 0 (by rw [hFH]; rfl) hFD [] (by kernel_rfl) (by kernel_rfl) (by decide) (by kernel_rfl) (by kernel_rfl) (by kernel_rfl) (by kernel_rfl)) ?_
        exact kN [4]
      ·have h175 := condF hb173 hy170
       refine kC 35 [4] ?_
       refine kE ?_
       obtain rfl := oi h175
       refine PJ.wk (Wk.sel (L2 := [(4, .bool false)]) (H2 := []) 0 (by rw [hFH]; rfl) hFD [] (by kernel_rfl) (by kernel_rfl) (by decide) (by kernel_rfl) (by kernel_rfl) (by kernel_rfl) (by kernel_rfl)) ?_
       exact kN [4]
     ·refine kX ?_
      obtain rfl := oi h172
      exact kZ hFn hFH hFD

def exergueref10_Right (x0 : St25) : Option (Bool) :=
 (Option.bind (loopN (fun (s195 : Int) => (bif (decide (s195 < (([x0.Hash_, x0.MinInt_, x0.MinFrac_, x0.MaxFrac_, x0.G1_, x0.G2_, x0.MinSig_, x0.MaxSig_, x0.Exp_] : List Int).length : Int))) then (Option.bind (Option.bind (bif inR s195 ([x0.Hash_, x0.MinInt_, x0.MinFrac_, x0.MaxFrac_, x0.G1_, x0.G2_, x0.MinSig_, x0.MaxSig_, x0.Exp_] : List Int).length then (bif inR s195 ([x0.Hash_, x0.MinInt_, x0.MinFrac_, x0.MaxFrac_, x0.G1_, x0.G2_, x0.MinSig_, x0.MaxSig_, x0.Exp_] : List Int).length then (bif (decide ((nth ([x0.Hash_, x0.MinInt_, x0.MinFrac_, x0.MaxFrac_, x0.G1_, x0.G2_, x0.MinSig_, x0.MaxSig_, x0.Exp_] : List Int) s195) < 0)) then (some true) else (bif inR s195 ([x0.Hash_, x0.MinInt_, x0.MinFrac_, x0.MaxFrac_, x0.G1_, x0.G2_, x0.MinSig_, x0.MaxSig_, x0.Exp_] : List Int).length then (bif inR s195 ([x0.Hash_, x0.MinInt_, x0.MinFrac_, x0.MaxFrac_, x0.G1_, x0.G2_, x0.MinSig_, x0.MaxSig_, x0.Exp_] : List Int).length then (some ((decide ((nth ([x0.Hash_, x0.MinInt_, x0.MinFrac_, x0.MaxFrac_, x0.G1_, x0.G2_, x0.MinSig_, x0.MaxSig_, x0.Exp_] : List Int) s195) > 40)))) else none) else none)) else none) else none) fun (s363 : Bool) => (bif s363 then (some (.inr (.inr (.inr false)))) else (some (.inl ())))) (joinX fun (s351 : Unit) => (some (.inl (IntKind.wrap .i64 (s195 + 1)))))) else (some (.inr (.inl ()))))) big 0) (joinX fun (s190 : Unit) => (Option.bind (exergueref01_Is x0.Pad_) fun y384 => (Option.bind (Option.bind (exergueref10_runes x0.Pre_) fun y401 => (bif y401 then (Option.bind (exergueref10_runes x0.Suf_) fun y407 => (some y407)) else (some false))) fun (s396 : Bool) => (Option.bind (Option.bind (exergueref10_runes x0.NPre_) fun y424 => (bif y424 then (Option.bind (exergueref10_runes x0.NSuf_) fun y430 => (some y430)) else (some false))) fun (s419 : Bool) => (Option.bind (Option.bind (bif (!y384) then (some true) else (bif (!s396) then (some true) else (some (!s419)))) fun (s465 : Bool) => (bif s465 then (some (.inr false)) else (some (.inl ())))) (joinX fun (s454 : Unit) => (Option.bind (exergueref10_Text x0) fun y480 => (Option.bind (exergueref10_Parse y480) fun y483 => (Option.bind (bif (decide (y483.2.2 = 0)) then (Option.bind (exergueref10_Same x0 y483.1) fun y500 => (some y500)) else (some false)) fun (s492 : Bool) => (some s492)))))))))))
theorem exergueref10_Right_ok {x0 : St25} {r : Bool} (h : exergueref10_Right x0 = some r) : SC Tryz.prog 23 [.agg (encSt25 x0)] [] (.bool r) [] := by
 refine kFn (fn := Tryz.f23) (fun F hFn hFH hFD => ?_)
 unfold exergueref10_Right at h
 refine kSR ?_
 refine kC 2 [1,2] ?_
 refine kEN ?_
 refine kSR ?_
 refine kC 20 [1,2,3] ?_
 refine kEN ?_
 obtain ⟨y191, hy192, h193⟩ := bindS h
 refine K.cutX (by kernel_rfl) (fun (s190 : Unit) => ([(1, .ptr 0 0), (2, .bool false)], [.box (encSt25 x0)])) y191 ?_ (fun s190 hs => ?_)
 ·refine kSR ?_
  refine kC 1 [1,2,3,4] ?_
  refine kEN ?_
  refine K.block 0 (by kernel_rfl) ?_
  refine K.loop (by kernel_rfl) (fun (s195 : Int) => ([(1, .ptr 0 0), (2, .bool false), (3, .vc 1), (4, .int .i64 s195)], [.box (encSt25 x0), vecL (encI .i64) 1 3 ([x0.Hash_, x0.MinInt_, x0.MinFrac_, x0.MaxFrac_, x0.G1_, x0.G2_, x0.MinSig_, x0.MaxSig_, x0.Exp_] : List Int)])) hy192 [1, 2, 3, 4] (by kernel_rfl) (by kernel_rfl) (fun s195 x321 hs320 => ?_)
  refine kS ?_
  refine kSR ?_
  refine kC 4 [1,2,3,4,33] ?_
  refine kEN ?_
  refine J.caseB 33 (b := (decide (s195 < (([x0.Hash_, x0.MinInt_, x0.MinFrac_, x0.MaxFrac_, x0.G1_, x0.G2_, x0.MinSig_, x0.MaxSig_, x0.Exp_] : List Int).length : Int)))) (by kernel_rfl) (fun hb322 => ?_) (fun hb322 => ?_)
  ·have h323 := condT hb322 hs320
   refine kT ?_
   refine kK ?_
   refine PJ.next ?_
   obtain ⟨y352, hy353, h354⟩ := bindS h323
   refine K.cutX (by kernel_rfl) (fun (s351 : Unit) => ([(1, .ptr 0 0), (2, .bool false), (3, .vc 1), (4, .int .i64 s195)], [.box (encSt25 x0), vecL (encI .i64) 1 3 ([x0.Hash_, x0.MinInt_, x0.MinFrac_, x0.MaxFrac_, x0.G1_, x0.G2_, x0.MinSig_, x0.MaxSig_, x0.Exp_] : List Int)])) y352 ?_ (fun s351 hs => ?_)
   ·refine K.block 1 (by kernel_rfl) ?_
    obtain ⟨s363, hy365, h367⟩ := bindS hy353
    refine K.cutN (by kernel_rfl) (fun (s363 : Bool) => ([(1, .ptr 0 0), (2, .bool false), (3, .vc 1), (4, .int .i64 s195), (47, .bool s363)], [.box (encSt25 x0), vecL (encI .i64) 1 3 ([x0.Hash_, x0.MinInt_, x0.MinFrac_, x0.MaxFrac_, x0.G1_, x0.G2_, x0.MinSig_, x0.MaxSig_, x0.Exp_] : List Int)])) s363 ?_ ?_
    ·refine kR ?_
     refine kC 2 [1,2,3,4,36,37] ?_
     obtain ⟨hm, h368⟩ := asrt hy365
     refine RJ.rel (d := (some 38)) (ef := ⟨.ptr 1 ((s195 : Int).toNat * 1), [1], []⟩) (ef' := ⟨.ptr 1 ((s195 : Int).toNat * 1), [1], []⟩) (c := inR s195 ([x0.Hash_, x0.MinInt_, x0.MinFrac_, x0.MaxFrac_, x0.G1_, x0.G2_, x0.MinSig_, x0.MaxSig_, x0.Exp_] : List Int).length) (tr2 := []) (H2 := [.box (encSt25 x0), vecL (encI .i64) 1 3 ([x0.Hash_, x0.MinInt_, x0.MinFrac_, x0.MaxFrac_, x0.G1_, x0.G2_, x0.MinSig_, x0.MaxSig_, x0.Exp_] : List Int)]) (by kernel_rfl) hm (fun hc => rfl) (by kernel_rfl) ?_
     obtain ⟨hm, h369⟩ := asrt h368
     refine RJ.rel (d := (some 39)) (ef := ⟨(((([x0.Hash_, x0.MinInt_, x0.MinFrac_, x0.MaxFrac_, x0.G1_, x0.G2_, x0.MinSig_, x0.MaxSig_, x0.Exp_] : List Int)).flatMap (encI .i64)).drop ((s195 : Int).toNat * 1)).headD .undef, [1], []⟩) (ef' := ⟨.int .i64 (nth ([x0.Hash_, x0.MinInt_, x0.MinFrac_, x0.MaxFrac_, x0.G1_, x0.G2_, x0.MinSig_, x0.MaxSig_, x0.Exp_] : List Int) s195), [1], []⟩) (c := Nat.blt ((s195 : Int).toNat * 1) (([x0.Hash_, x0.MinInt_, x0.MinFrac_, x0.MaxFrac_, x0.G1_, x0.G2_, x0.MinSig_, x0.MaxSig_, x0.Exp_] : List Int).flatMap (encI .i64)).length) (tr2 := []) (H2 := [.box (encSt25 x0), vecL (encI .i64) 1 3 ([x0.Hash_, x0.MinInt_, x0.MinFrac_, x0.MaxFrac_, x0.G1_, x0.G2_, x0.MinSig_, x0.MaxSig_, x0.Exp_] : List Int)]) (by kernel_rfl) (loadv_ok (encI_len .i64) rfl hm) (fun hc => N.load1 (encI_len .i64) (fun _ => rfl) hm) (by kernel_rfl) ?_
     refine kC 2 [1,2,3,4,41] ?_
     refine RJ.caseB 41 (b := (decide ((nth ([x0.Hash_, x0.MinInt_, x0.MinFrac_, x0.MaxFrac_, x0.G1_, x0.G2_, x0.MinSig_, x0.MaxSig_, x0.Exp_] : List Int) s195) < 0))) (by kernel_rfl) (fun hb370 => ?_) (fun hb370 => ?_)
     ·have h371 := condT hb370 h369
      refine RJ.seg 6 [1, 2, 3, 4, 47] (L2 := [(1, .ptr 0 0), (2, .bool false), (3, .vc 1), (4, .int .i64 s195), (47, .bool true)]) (H2 := [.box (encSt25 x0), vecL (encI .i64) 1 3 ([x0.Hash_, x0.MinInt_, x0.MinFrac_, x0.MaxFrac_, x0.G1_, x0.G2_, x0.MinSig_, x0.MaxSig_, x0.Exp_] : List Int)]) (by kernel_rfl) ?_
      refine kE ?_
      obtain rfl := oi h371
      exact kN [1, 2, 3, 4, 47]
     ·have h372 := condF hb370 h369
      refine RJ.seg 2 [1, 2, 3, 4, 41, 42, 43] (L2 := [(1, .ptr 0 0), (2, .bool false), (3, .vc 1), (4, .int .i64 s195), (41, .bool false), (42, .vc 1), (43, .int .i64 s195)]) (H2 := [.box (encSt25 x0), vecL (encI .i64) 1 3 ([x0.Hash_, x0.MinInt_, x0.MinFrac_, x0.MaxFrac_, x0.G1_, x0.G2_, x0.MinSig_, x0.MaxSig_, x0.Exp_] : List Int)]) (by kernel_rfl) ?_
      obtain ⟨hm, h373⟩ := asrt h372
      refine RJ.rel (d := (some 44)) (ef := ⟨.ptr 1 ((s195 : Int).toNat * 1), [1], []⟩) (ef' := ⟨.ptr 1 ((s195 : Int).toNat * 1), [1], []⟩) (c := inR s195 ([x0.Hash_, x0.MinInt_, x0.MinFrac_, x0.MaxFrac_, x0.G1_, x0.G2_, x0.MinSig_, x0.MaxSig_, x0.Exp_] : List Int).length) (tr2 := []) (H2 := [.box (encSt25 x0), vecL (encI .i64) 1 3 ([x0.Hash_, x0.MinInt_, x0.MinFrac_, x0.MaxFrac_, x0.G1_, x0.G2_, x0.MinSig_, x0.MaxSig_, x0.Exp_] : List Int)]) (by kernel_rfl) hm (fun hc => rfl) (by kernel_rfl) ?_
      obtain ⟨hm, h374⟩ := asrt h373
      refine RJ.rel (d := (some 45)) (ef := ⟨(((([x0.Hash_, x0.MinInt_, x0.MinFrac_, x0.MaxFrac_, x0.G1_, x0.G2_, x0.MinSig_, x0.MaxSig_, x0.Exp_] : List Int)).flatMap (encI .i64)).drop ((s195 : Int).toNat * 1)).headD .undef, [1], []⟩) (ef' := ⟨.int .i64 (nth ([x0.Hash_, x0.MinInt_, x0.MinFrac_, x0.MaxFrac_, x0.G1_, x0.G2_, x0.MinSig_, x0.MaxSig_, x0.Exp_] : List Int) s195), [1], []⟩) (c := Nat.blt ((s195 : Int).toNat * 1) (([x0.Hash_, x0.MinInt_, x0.MinFrac_, x0.MaxFrac_, x0.G1_, x0.G2_, x0.MinSig_, x0.MaxSig_, x0.Exp_] : List Int).flatMap (encI .i64)).length) (tr2 := []) (H2 := [.box (encSt25 x0), vecL (encI .i64) 1 3 ([x0.Hash_, x0.MinInt_, x0.MinFrac_, x0.MaxFrac_, x0.G1_, x0.G2_, x0.MinSig_, x0.MaxSig_, x0.Exp_] : List Int)]) (by kernel_rfl) (loadv_ok (encI_len .i64) rfl hm) (fun hc => N.load1 (encI_len .i64) (fun _ => rfl) hm) (by kernel_rfl) ?_
      refine kC 2 [1,2,3,4,47] ?_
      refine kE ?_
      obtain rfl := oi h374
      exact kN [1, 2, 3, 4, 47]
    ·refine J.caseB 47 (b := s363) (by kernel_rfl) (fun hb375 => ?_) (fun hb375 => ?_)
     ·have h376 := condT hb375 h367
      refine kT ?_
      refine kSR ?_
      refine kC 1 [1,2,3,4] ?_
      refine kEN ?_
      refine kX ?_
      refine PJ.blockRet ?_
      obtain rfl := oi h376
      have h378 := joinX_inr h354
      refine PJ.cutXr (fun e => nomatch e) ?_
      obtain rfl := oi h378
      refine PJ.loopOut (fun e => nomatch e) (fun he381 => ?_)
      have h379 := congrArg some he381
      refine PJ.blockRet ?_
      obtain rfl := oi h379
      have h380 := joinX_inr h193
      refine PJ.cutXr (fun e => nomatch e) ?_
      obtain rfl := oi h380
      exact kZ hFn hFH hFD
     ·have h377 := condF hb375 h367
      refine kF ?_
      refine kK ?_
      refine PJ.blockNormal ?_
      obtain rfl := oi h377
      exact PJ.cutXl [1, 2, 3, 4] (by kernel_rfl) (by kernel_rfl)
   ·subst hs
    have h355 := joinX_inl h354
    refine kR ?_
    refine kC 3 [1,2,3,4] ?_
    refine kE ?_
    obtain rfl := oi h355
    exact PJ.loopNext [1, 2, 3, 4] (by kernel_rfl) (by kernel_rfl)
  ·have h324 := condF hb322 hs320
   refine kF ?_
   refine K.exit 0 (by kernel_rfl) ?_
   refine PJ.passExit ?_
   obtain rfl := oi h324
   refine PJ.loopOut (fun e => nomatch e) (fun he383 => ?_)
   have h382 := congrArg some he383
   refine PJ.blockOut ?_
   obtain rfl := oi h382
   refine PJ.wk (Wk.sel (L2 := [(1, .ptr 0 0), (2, .bool false)]) (H2 := [.box (encSt25 x0)]) 0 (by rw [hFH]; rfl) hFD [0] (by kernel_rfl) (by kernel_rfl) (by decide) (by kernel_rfl) (by kernel_rfl) (by kernel_rfl) (by kernel_rfl)) ?_
   exact PJ.cutXl [1, 2] (by kernel_rfl) (by kernel_rfl)
 ·subst hs
  have h194 := joinX_inl h193
  refine kSR ?_
  refine kC 2 [1,2,49] ?_
  obtain ⟨y384, hy385, h386⟩ := bindS h194
  refine RJ.call0 (d := (some 50)) (f := 55) (args := [.int .i32 x0.Pad_]) (v := .bool y384) (tr2 := []) (by kernel_rfl) (by kernel_rfl) (.cons (Le.refl _) .nil) (exergueref01_Is_ok hy385) (by kernel_rfl) ?_
  refine kC 1 [1,2,5] ?_
  refine kEN ?_
  obtain ⟨s396, hy398, h400⟩ := bindS h386
  refine K.cutN (by kernel_rfl) (fun (s396 : Bool) => ([(1, .ptr 0 0), (2, .bool false), (5, .bool y384), (6, .bool s396)], [.box (encSt25 x0)])) s396 ?_ ?_
  ·refine kR ?_
   refine kC 2 [1,2,5,52] ?_
   obtain ⟨y401, hy402, h403⟩ := bindS hy398
   refine RJ.call0 (d := (some 53)) (f := 56) (args := [lsv encSt106 2 x0.Pre_]) (v := .bool y401) (tr2 := []) (by kernel_rfl) (by kernel_rfl) (.cons (Le.refl _) .nil) (exergueref10_runes_ok hy402) (by kernel_rfl) ?_
   refine RJ.seg 1 [1, 2, 5, 54] (L2 := [(1, .ptr 0 0), (2, .bool false), (5, .bool y384), (54, .bool y401)]) (H2 := [.box (encSt25 x0)]) (by kernel_rfl) ?_
   refine RJ.caseB 54 (b := y401) (by kernel_rfl) (fun hb404 => ?_) (fun hb404 => ?_)
   ·have h405 := condT hb404 h403
    refine kC 2 [1,2,5,54,56] ?_
    obtain ⟨y407, hy408, h409⟩ := bindS h405
    refine RJ.call0 (d := (some 57)) (f := 56) (args := [lsv encSt106 2 x0.Suf_]) (v := .bool y407) (tr2 := []) (by kernel_rfl) (by kernel_rfl) (.cons (Le.refl _) .nil) (exergueref10_runes_ok hy408) (by kernel_rfl) ?_
    refine kC 2 [1,2,5,6] ?_
    refine kE ?_
    obtain rfl := oi h409
    exact kN [1, 2, 5, 6]
   ·have h406 := condF hb404 h403
    refine kC 5 [1,2,5,6] ?_
    refine kE ?_
    obtain rfl := oi h406
    exact kN [1, 2, 5, 6]
  ·obtain ⟨s419, hy421, h423⟩ := bindS h400
   refine K.cutN (by kernel_rfl) (fun (s419 : Bool) => ([(1, .ptr 0 0), (2, .bool false), (5, .bool y384), (6, .bool s396), (7, .bool s419)], [.box (encSt25 x0)])) s419 ?_ ?_
   ·refine kR ?_
    refine kC 2 [1,2,5,6,60] ?_
    obtain ⟨y424, hy425, h426⟩ := bindS hy421
    refine RJ.call0 (d := (some 61)) (f := 56) (args := [lsv encSt106 2 x0.NPre_]) (v := .bool y424) (tr2 := []) (by kernel_rfl) (by kernel_rfl) (.cons (Le.refl _) .nil) (exergueref10_runes_ok hy425) (by kernel_rfl) ?_
    refine kC 1 [1,2,5,6,62] ?_
    refine RJ.caseB 62 (b := y424) (by kernel_rfl) (fun hb427 => ?_) (fun hb427 => ?_)
    ·have h428 := condT hb427 h426
     refine kC 2 [1,2,5,6,62,64] ?_
     obtain ⟨y430, hy431, h432⟩ := bindS h428
     refine RJ.call0 (d := (some 65)) (f := 56) (args := [lsv encSt106 2 x0.NSuf_]) (v := .bool y430) (tr2 := []) (by kernel_rfl) (by kernel_rfl) (.cons (Le.refl _) .nil) (exergueref10_runes_ok hy431) (by kernel_rfl) ?_
     refine RJ.seg 2 [1, 2, 5, 6, 7] (L2 := [(1, .ptr 0 0), (2, .bool false), (5, .bool y384), (6, .bool s396), (7, .bool y430)]) (H2 := [.box (encSt25 x0)]) (by kernel_rfl) ?_
     refine kE ?_
     obtain rfl := oi h432
     exact kN [1, 2, 5, 6, 7]
    ·have h429 := condF hb427 h426
     refine kC 5 [1,2,5,6,7] ?_
     refine kE ?_
     obtain rfl := oi h429
     exact kN [1, 2, 5, 6, 7]
   ·obtain ⟨y455, hy456, h457⟩ := bindS h423
    refine K.cutX (by kernel_rfl) (fun (s454 : Unit) => ([(1, .ptr 0 0), (2, .bool false)], [.box (encSt25 x0)])) y455 ?_ (fun s454 hs => ?_)
    ·obtain ⟨s465, hy467, h469⟩ := bindS hy456
     refine K.cutN (by kernel_rfl) (fun (s465 : Bool) => ([(1, .ptr 0 0), (2, .bool false), (76, .bool s465)], [.box (encSt25 x0)])) s465 ?_ ?_
     ·refine kR ?_
      refine kC 3 [1,2,6,7,69] ?_
      refine RJ.caseB 69 (b := (!y384)) (by kernel_rfl) (fun hb470 => ?_) (fun hb470 => ?_)
      ·have h471 := condT hb470 hy467
       refine kC 7 [1,2,76] ?_
       refine kE ?_
       obtain rfl := oi h471
       exact kN [1, 2, 76]
      ·have h472 := condF hb470 hy467
       refine kC 4 [1,2,7,73] ?_
       refine RJ.caseB 73 (b := (!s396)) (by kernel_rfl) (fun hb473 => ?_) (fun hb473 => ?_)
       ·have h474 := condT hb473 h472
        refine kC 3 [1,2,76] ?_
        refine kE ?_
        obtain rfl := oi h474
        exact kN [1, 2, 76]
       ·have h475 := condF hb473 h472
        refine kC 3 [1,2,76] ?_
        refine kE ?_
        obtain rfl := oi h475
        exact kN [1, 2, 76]
     ·refine J.caseB 76 (b := s465) (by kernel_rfl) (fun hb476 => ?_) (fun hb476 => ?_)
      ·have h477 := condT hb476 h469
       refine kT ?_
       refine kSR ?_
       refine kC 1 [1,2] ?_
       refine kEN ?_
       refine kX ?_
       obtain rfl := oi h477
       have h479 := joinX_inr h457
       refine PJ.cutXr (fun e => nomatch e) ?_
       obtain rfl := oi h479
       exact kZ hFn hFH hFD
      ·have h478 := condF hb476 h469
       refine kF ?_
       refine kK ?_
       obtain rfl := oi h478
       exact PJ.cutXl [1, 2] (by kernel_rfl) (by kernel_rfl)
    ·subst hs
     have h458 := joinX_inl h457
     refine kSR ?_
     refine kC 1 [1,2,78] ?_
     obtain ⟨y480, hy481, h482⟩ := bindS h458
     refine RJ.call0 (d := (some 79)) (f := 58) (args := [.agg (encSt25 x0)]) (v := .str y480) (tr2 := []) (by kernel_rfl) (by kernel_rfl) (.cons (Le.refl _) .nil) (exergueref10_Text_ok hy481) (by kernel_rfl) ?_
     obtain ⟨y483, hy484, h485⟩ := bindS h482
     refine RJ.call0 (d := (some 80)) (f := 57) (args := [.str y480]) (v := .tup [.agg (encSt25 y483.1), .int .i64 y483.2.1, .int .i64 y483.2.2]) (tr2 := []) (by kernel_rfl) (by kernel_rfl) (.cons (Le.refl _) .nil) (exergueref10_Parse_ok hy484) (by kernel_rfl) ?_
     refine kC 8 [1,2,8,10] ?_
     refine kEN ?_
     obtain ⟨s492, hy494, h496⟩ := bindS h485
     refine K.cutN (by kernel_rfl) (fun (s492 : Bool) => ([(2, .bool s492)], [])) s492 ?_ ?_
     ·refine kR ?_
      refine kC 3 [1,2,8,86] ?_
      refine RJ.caseB 86 (b := (decide (y483.2.2 = 0))) (by kernel_rfl) (fun hb497 => ?_) (fun hb497 => ?_)
      ·have h498 := condT hb497 hy494
       refine RJ.seg 2 [2, 86, 87, 88] (L2 := [(2, .bool false), (86, .bool true), (87, .agg (encSt25 x0)), (88, .agg (encSt25 y483.1))]) (H2 := [.box (encSt25 x0), .box (encSt25 y483.1)]) (by kernel_rfl) ?_
       obtain ⟨y500, hy501, h502⟩ := bindS h498
       refine RJ.call0 (d := (some 89)) (f := 59) (args := [.agg (encSt25 x0), .agg (encSt25 y483.1)]) (v := .bool y500) (tr2 := []) (by kernel_rfl) (by kernel_rfl) (.cons (Le.refl _) (.cons (Le.refl _) .nil)) (exergueref10_Same_ok hy501) (by kernel_rfl) ?_
       refine kC 2 [2] ?_
       refine kE ?_
       obtain rfl := oi h502
       refine PJ.wk (Wk.sel (L2 := [(2, .bool y500)]) (H2 := []) 0 (by rw [hFH]; rfl) hFD [] (by kernel_rfl) (by kernel_rfl) (by decide) (by kernel_rfl) (by kernel_rfl) (by kernel_rfl) (by kernel_rfl)) ?_
       exact kN [2]
      ·have h499 := condF hb497 hy494
       refine RJ.seg 5 [2] (L2 := [(2, .bool false)]) (H2 := [.box (encSt25 x0), .box (encSt25 y483.1)]) (by kernel_rfl) ?_
       refine kE ?_
       obtain rfl := oi h499
       refine PJ.wk (Wk.sel (L2 := [(2, .bool false)]) (H2 := []) 0 (by rw [hFH]; rfl) hFD [] (by kernel_rfl) (by kernel_rfl) (by decide) (by kernel_rfl) (by kernel_rfl) (by kernel_rfl) (by kernel_rfl)) ?_
       exact kN [2]
     ·refine kX ?_
      obtain rfl := oi h496
      exact kZ hFn hFH hFD

def exerguelaw17_of (x0 : St25) (x1 : Int) : Option (Bool) :=
 (Option.bind (Option.bind (exergueref10_Few x0) fun y18 => (bif y18 then (Option.bind (exergueref10_Right x0) fun y24 => (bif y24 then (some (decide (x1 ≤ 40))) else (some false))) else (some false))) fun (s13 : Bool) => (some s13))
theorem exerguelaw17_of_ok {x0 : St25} {x1 : Int} {r : Bool} (h : exerguelaw17_of x0 x1 = some r) : SC Tryz.prog 6 [.agg (encSt25 x0), .int .i64 x1] [] (.bool r) [] := by
 refine kFn (fn := Tryz.f6) (fun F hFn hFH hFD => ?_)
 unfold exerguelaw17_of at h
 refine kSR ?_
 refine kC 2 [1,2,4] ?_
 refine kEN ?_
 obtain ⟨s13, hy15, h17⟩ := bindS h
 refine K.cutN (by kernel_rfl) (fun (s13 : Bool) => ([(4, .bool s13)], [])) s13 ?_ ?_
 ·refine kR ?_
  refine kC 1 [1,2,4,5] ?_
  obtain ⟨y18, hy19, h20⟩ := bindS hy15
  refine RJ.call0 (d := (some 6)) (f := 22) (args := [.agg (encSt25 x0)]) (v := .bool y18) (tr2 := []) (by kernel_rfl) (by kernel_rfl) (.cons (Le.refl _) .nil) (exergueref10_Few_ok hy19) (by kernel_rfl) ?_
  refine kC 1 [1,2,4,7] ?_
  refine RJ.caseB 7 (b := y18) (by kernel_rfl) (fun hb21 => ?_) (fun hb21 => ?_)
  ·have h22 := condT hb21 h20
   refine RJ.seg 1 [1, 4, 7, 8] (L2 := [(1, .int .i64 x1), (4, .bool false), (7, .bool true), (8, .agg (encSt25 x0))]) (H2 := [.box (encSt25 x0)]) (by kernel_rfl) ?_
   obtain ⟨y24, hy25, h26⟩ := bindS h22
   refine RJ.call0 (d := (some 9)) (f := 23) (args := [.agg (encSt25 x0)]) (v := .bool y24) (tr2 := []) (by kernel_rfl) (by kernel_rfl) (.cons (Le.refl _) .nil) (exergueref10_Right_ok hy25) (by kernel_rfl) ?_
   refine kC 2 [1,4,11] ?_
   refine RJ.caseB 11 (b := y24) (by kernel_rfl) (fun hb27 => ?_) (fun hb27 => ?_)
   ·have h28 := condT hb27 h26
    refine kC 4 [4] ?_
    refine kE ?_
    obtain rfl := oi h28
    refine PJ.wk (Wk.sel (L2 := [(4, .bool (decide (x1 ≤ 40)))]) (H2 := []) 0 (by rw [hFH]; rfl) hFD [] (by kernel_rfl) (by kernel_rfl) (by decide) (by kernel_rfl) (by kernel_rfl) (by kernel_rfl) (by kernel_rfl)) ?_
    exact kN [4]
   ·have h29 := condF hb27 h26
    refine kC 4 [4] ?_
    refine kE ?_
    obtain rfl := oi h29
    refine PJ.wk (Wk.sel (L2 := [(4, .bool false)]) (H2 := []) 0 (by rw [hFH]; rfl) hFD [] (by kernel_rfl) (by kernel_rfl) (by decide) (by kernel_rfl) (by kernel_rfl) (by kernel_rfl) (by kernel_rfl)) ?_
    exact kN [4]
  ·have h23 := condF hb21 h20
   refine RJ.seg 8 [4] (L2 := [(4, .bool false)]) (H2 := [.box (encSt25 x0)]) (by kernel_rfl) ?_
   refine kE ?_
   obtain rfl := oi h23
   refine PJ.wk (Wk.sel (L2 := [(4, .bool false)]) (H2 := []) 0 (by rw [hFH]; rfl) hFD [] (by kernel_rfl) (by kernel_rfl) (by decide) (by kernel_rfl) (by kernel_rfl) (by kernel_rfl) (by kernel_rfl)) ?_
   exact kN [4]
 ·refine kX ?_
  obtain rfl := oi h17
  exact kZ hFn hFH hFD

def exergueref02_turning (x0 : Int) : Option (Bool) :=
 (Option.bind (bif (decide (x0 = 1564)) then (some true) else (bif (decide (x0 = 8206)) then (some true) else (bif (decide (x0 = 8207)) then (some true) else (bif (decide (x0 ≥ 8234)) then (bif (decide (x0 ≤ 8238)) then (some true) else (bif (decide (x0 ≥ 8294)) then (some (decide (x0 ≤ 8297))) else (some false))) else (bif (decide (x0 ≥ 8294)) then (some (decide (x0 ≤ 8297))) else (some false)))))) fun (s22 : Bool) => (some s22))
theorem exergueref02_turning_ok {x0 : Int} {r : Bool} (h : exergueref02_turning x0 = some r) : SC Tryz.prog 60 [.int .i64 x0] [] (.bool r) [] := by
 refine kFn (fn := Tryz.f60) (fun F hFn hFH hFD => ?_)
 unfold exergueref02_turning at h
 refine kSR ?_
 refine kC 1 [0,2] ?_
 refine kEN ?_
 obtain ⟨s22, hy24, h26⟩ := bindS h
 refine K.cutN (by kernel_rfl) (fun (s22 : Bool) => ([(2, .bool s22)], [])) s22 ?_ ?_
 ·refine kR ?_
  refine kC 3 [0,2,5] ?_
  refine RJ.caseB 5 (b := (decide (x0 = 1564))) (by kernel_rfl) (fun hb27 => ?_) (fun hb27 => ?_)
  ·have h28 := condT hb27 hy24
   refine kC 24 [2] ?_
   refine kE ?_
   obtain rfl := oi h28
   exact kN [2]
  ·have h29 := condF hb27 hy24
   refine kC 4 [0,2,9] ?_
   refine RJ.caseB 9 (b := (decide (x0 = 8206))) (by kernel_rfl) (fun hb30 => ?_) (fun hb30 => ?_)
   ·have h31 := condT hb30 h29
    refine RJ.seg 20 [2] (L2 := [(2, .bool true)]) (H2 := []) (by kernel_rfl) ?_
    refine kE ?_
    obtain rfl := oi h31
    exact kN [2]
   ·have h32 := condF hb30 h29
    refine RJ.seg 4 [0, 2, 13] (L2 := [(0, .int .i64 x0), (2, .bool false), (13, .bool (decide (x0 = 8207)))]) (H2 := []) (by kernel_rfl) ?_
    refine RJ.caseB 13 (b := (decide (x0 = 8207))) (by kernel_rfl) (fun hb33 => ?_) (fun hb33 => ?_)
    ·have h34 := condT hb33 h32
     refine kC 16 [2] ?_
     refine kE ?_
     obtain rfl := oi h34
     exact kN [2]
    ·have h35 := condF hb33 h32
     refine kC 3 [0,2,13,16] ?_
     refine RJ.caseB 16 (b := (decide (x0 ≥ 8234))) (by kernel_rfl) (fun hb36 => ?_) (fun hb36 => ?_)
     ·have h37 := condT hb36 h35
      refine kC 5 [0,2,21] ?_
      refine RJ.caseB 21 (b := (decide (x0 ≤ 8238))) (by kernel_rfl) (fun hb39 => ?_) (fun hb39 => ?_)
      ·have h40 := condT hb39 h37
       refine kC 8 [2] ?_
       refine kE ?_
       obtain rfl := oi h40
       exact kN [2]
      ·have h41 := condF hb39 h37
       refine kC 3 [0,2,21,24] ?_
       refine RJ.caseB 24 (b := (decide (x0 ≥ 8294))) (by kernel_rfl) (fun hb42 => ?_) (fun hb42 => ?_)
       ·have h43 := condT hb42 h41
        refine RJ.seg 5 [2] (L2 := [(2, .bool (decide (x0 ≤ 8297)))]) (H2 := []) (by kernel_rfl) ?_
        refine kE ?_
        obtain rfl := oi h43
        exact kN [2]
       ·have h44 := condF hb42 h41
        refine RJ.seg 5 [2] (L2 := [(2, .bool false)]) (H2 := []) (by kernel_rfl) ?_
        refine kE ?_
        obtain rfl := oi h44
        exact kN [2]
     ·have h38 := condF hb36 h35
      refine kC 8 [0,2,21,24] ?_
      refine RJ.caseB 24 (b := (decide (x0 ≥ 8294))) (by kernel_rfl) (fun hb45 => ?_) (fun hb45 => ?_)
      ·have h46 := condT hb45 h38
       refine kC 5 [2] ?_
       refine kE ?_
       obtain rfl := oi h46
       exact kN [2]
      ·have h47 := condF hb45 h38
       refine kC 5 [2] ?_
       refine kE ?_
       obtain rfl := oi h47
       exact kN [2]
 ·refine kX ?_
  obtain rfl := oi h26
  exact kZ hFn hFH hFD

def exergueref02_blank (x0 : Int) : Option (Bool) :=
 (Option.bind (bif (decide (x0 = 32)) then (some true) else (bif (decide (x0 = 160)) then (some true) else (bif (decide (x0 = 5760)) then (some true) else (bif (decide (x0 ≥ 8192)) then (bif (decide (x0 ≤ 8202)) then (some true) else (bif (decide (x0 = 8232)) then (some true) else (bif (decide (x0 = 8233)) then (some true) else (bif (decide (x0 = 8239)) then (some true) else (bif (decide (x0 = 8287)) then (some true) else (some (decide (x0 = 12288)))))))) else (bif (decide (x0 = 8232)) then (some true) else (bif (decide (x0 = 8233)) then (some true) else (bif (decide (x0 = 8239)) then (some true) else (bif (decide (x0 = 8287)) then (some true) else (some (decide (x0 = 12288))))))))))) fun (s40 : Bool) => (some s40))
theorem exergueref02_blank_ok {x0 : Int} {r : Bool} (h : exergueref02_blank x0 = some r) : SC Tryz.prog 61 [.int .i64 x0] [] (.bool r) [] := by
 refine kFn (fn := Tryz.f61) (fun F hFn hFH hFD => ?_)
 unfold exergueref02_blank at h
 refine kSR ?_
 refine kC 1 [0,2] ?_
 refine kEN ?_
 obtain ⟨s40, hy42, h44⟩ := bindS h
 refine K.cutN (by kernel_rfl) (fun (s40 : Bool) => ([(2, .bool s40)], [])) s40 ?_ ?_
 ·refine kR ?_
  refine kC 3 [0,2,5] ?_
  refine RJ.caseB 5 (b := (decide (x0 = 32))) (by kernel_rfl) (fun hb45 => ?_) (fun hb45 => ?_)
  ·have h46 := condT hb45 hy42
   refine kC 36 [2] ?_
   refine kE ?_
   obtain rfl := oi h46
   exact kN [2]
  ·have h47 := condF hb45 hy42
   refine kC 4 [0,2,9] ?_
   refine RJ.caseB 9 (b := (decide (x0 = 160))) (by kernel_rfl) (fun hb48 => ?_) (fun hb48 => ?_)
   ·have h49 := condT hb48 h47
    refine RJ.seg 32 [2] (L2 := [(2, .bool true)]) (H2 := []) (by kernel_rfl) ?_
    refine kE ?_
    obtain rfl := oi h49
    exact kN [2]
   ·have h50 := condF hb48 h47
    refine RJ.seg 4 [0, 2, 13] (L2 := [(0, .int .i64 x0), (2, .bool false), (13, .bool (decide (x0 = 5760)))]) (H2 := []) (by kernel_rfl) ?_
    refine RJ.caseB 13 (b := (decide (x0 = 5760))) (by kernel_rfl) (fun hb51 => ?_) (fun hb51 => ?_)
    ·have h52 := condT hb51 h50
     refine kC 28 [2] ?_
     refine kE ?_
     obtain rfl := oi h52
     exact kN [2]
    ·have h53 := condF hb51 h50
     refine kC 3 [0,2,13,16] ?_
     refine RJ.caseB 16 (b := (decide (x0 ≥ 8192))) (by kernel_rfl) (fun hb54 => ?_) (fun hb54 => ?_)
     ·have h55 := condT hb54 h53
      refine kC 5 [0,2,21] ?_
      refine RJ.caseB 21 (b := (decide (x0 ≤ 8202))) (by kernel_rfl) (fun hb57 => ?_) (fun hb57 => ?_)
      ·have h58 := condT hb57 h55
       refine kC 20 [2] ?_
       refine kE ?_
       obtain rfl := oi h58
       exact kN [2]
      ·have h59 := condF hb57 h55
       refine kC 4 [0,2,25] ?_
       refine RJ.caseB 25 (b := (decide (x0 = 8232))) (by kernel_rfl) (fun hb60 => ?_) (fun hb60 => ?_)
       ·have h61 := condT hb60 h59
        refine RJ.seg 16 [2] (L2 := [(2, .bool true)]) (H2 := []) (by kernel_rfl) ?_
        refine kE ?_
        obtain rfl := oi h61
        exact kN [2]
       ·have h62 := condF hb60 h59
        refine RJ.seg 4 [0, 2, 29] (L2 := [(0, .int .i64 x0), (2, .bool false), (29, .bool (decide (x0 = 8233)))]) (H2 := []) (by kernel_rfl) ?_
        refine RJ.caseB 29 (b := (decide (x0 = 8233))) (by kernel_rfl) (fun hb63 => ?_) (fun hb63 => ?_)
        ·have h64 := condT hb63 h62
         refine kC 12 [2] ?_
         refine kE ?_
         obtain rfl := oi h64
         exact kN [2]
        ·have h65 := condF hb63 h62
         refine kC 4 [0,2,33] ?_
         refine RJ.caseB 33 (b := (decide (x0 = 8239))) (by kernel_rfl) (fun hb66 => ?_) (fun hb66 => ?_)
         ·have h67 := condT hb66 h65
          refine kC 8 [2] ?_
          refine kE ?_
          obtain rfl := oi h67
          exact kN [2]
         ·have h68 := condF hb66 h65
          refine kC 4 [0,2,37] ?_
          refine RJ.caseB 37 (b := (decide (x0 = 8287))) (by kernel_rfl) (fun hb69 => ?_) (fun hb69 => ?_)
          ·have h70 := condT hb69 h68
           refine kC 4 [2] ?_
           refine kE ?_
           obtain rfl := oi h70
           exact kN [2]
          ·have h71 := condF hb69 h68
           refine kC 4 [2] ?_
           refine kE ?_
           obtain rfl := oi h71
           exact kN [2]
     ·have h56 := condF hb54 h53
      refine kC 9 [0,2,25] ?_
      refine RJ.caseB 25 (b := (decide (x0 = 8232))) (by kernel_rfl) (fun hb72 => ?_) (fun hb72 => ?_)
      ·have h73 := condT hb72 h56
       refine kC 16 [2] ?_
       refine kE ?_
       obtain rfl := oi h73
       exact kN [2]
      ·have h74 := condF hb72 h56
       refine kC 4 [0,2,29] ?_
       refine RJ.caseB 29 (b := (decide (x0 = 8233))) (by kernel_rfl) (fun hb75 => ?_) (fun hb75 => ?_)
       ·have h76 := condT hb75 h74
        refine RJ.seg 12 [2] (L2 := [(2, .bool true)]) (H2 := []) (by kernel_rfl) ?_
        refine kE ?_
        obtain rfl := oi h76
        exact kN [2]
       ·have h77 := condF hb75 h74
        refine RJ.seg 4 [0, 2, 33] (L2 := [(0, .int .i64 x0), (2, .bool false), (33, .bool (decide (x0 = 8239)))]) (H2 := []) (by kernel_rfl) ?_
        refine RJ.caseB 33 (b := (decide (x0 = 8239))) (by kernel_rfl) (fun hb78 => ?_) (fun hb78 => ?_)
        ·have h79 := condT hb78 h77
         refine kC 8 [2] ?_
         refine kE ?_
         obtain rfl := oi h79
         exact kN [2]
        ·have h80 := condF hb78 h77
         refine kC 4 [0,2,37] ?_
         refine RJ.caseB 37 (b := (decide (x0 = 8287))) (by kernel_rfl) (fun hb81 => ?_) (fun hb81 => ?_)
         ·have h82 := condT hb81 h80
          refine kC 4 [2] ?_
          refine kE ?_
          obtain rfl := oi h82
          exact kN [2]
         ·have h83 := condF hb81 h80
          refine kC 4 [2] ?_
          refine kE ?_
          obtain rfl := oi h83
          exact kN [2]
 ·refine kX ?_
  obtain rfl := oi h44
  exact kZ hFn hFH hFD

def exergueref02_noughts  : Option (List Int) :=
 (some ([48, 1632, 1776, 1984, 2406, 2534, 2662, 2790, 2918, 3046, 3174, 3302, 3430, 3664, 3792, 3872, 6112, 6160, 65296, 120782] : List Int))
theorem exergueref02_noughts_ok  {r : List Int} (h : exergueref02_noughts = some r) : SC Tryz.prog 63 [] [] (lsv (encI .i32) 1 r) [] := by
 refine kFn (fn := Tryz.f63) (fun F hFn hFH hFD => ?_)
 unfold exergueref02_noughts at h
 refine kSR ?_
 refine kC 1 [0] ?_
 refine kEN ?_
 refine kSR ?_
 refine kC 2 [0] ?_
 refine kEN ?_
 refine kX ?_
 obtain rfl := oi h
 refine PJ.wk (Wk.freeze 0 (n := ([48, 1632, 1776, 1984, 2406, 2534, 2662, 2790, 2918, 3046, 3174, 3302, 3430, 3664, 3792, 3872, 6112, 6160, 65296, 120782] : List Int).length) (k := 1) (e := 21) (cs := ([48, 1632, 1776, 1984, 2406, 2534, 2662, 2790, 2918, 3046, 3174, 3302, 3430, 3664, 3792, 3872, 6112, 6160, 65296, 120782] : List Int).flatMap (encI .i32)) (by kernel_rfl)) ?_
 exact kZ hFn hFH hFD

def exergueref02_Value (x0 : Int) : Option (Int × Bool) :=
 (Option.bind exergueref02_noughts fun y1 => (Option.bind (loopN (fun (s330 : Int) => (bif (decide (s330 < (y1.length : Int))) then (Option.bind (loopN (fun (s601 : Int) => (bif (decide (s601 < 10)) then (bif inR s330 y1.length then (bif (decide (((IntKind.wrap .i64 ((IntKind.wrap .i64 (nth y1 s330)) + s601))) = (IntKind.wrap .i64 x0))) then (some (.inr (.inr (.inr (.inr (s601, true)))))) else (some (.inl (IntKind.wrap .i64 (s601 + 1))))) else none) else (some (.inr (.inl ()))))) big 0) (joinX fun (s596 : Unit) => (some (.inl (IntKind.wrap .i64 (s330 + 1)))))) else (some (.inr (.inl ()))))) big 0) (joinX fun (s325 : Unit) => (some (0, false)))))
theorem exergueref02_Value_ok {x0 : Int} {r : Int × Bool} (h : exergueref02_Value x0 = some r) : SC Tryz.prog 62 [.int .i32 x0] [] (.tup [.int .i64 r.1, .bool r.2]) [] := by
 refine kFn (fn := Tryz.f62) (fun F hFn hFH hFD => ?_)
 unfold exergueref02_Value at h
 refine kSR ?_
 refine kC 2 [0,2,3] ?_
 refine kEN ?_
 refine kSR ?_
 obtain ⟨y1, hy2, h3⟩ := bindS h
 refine RJ.call0 (d := (some 7)) (f := 63) (args := []) (v := lsv (encI .i32) 1 y1) (tr2 := []) (by kernel_rfl) (by kernel_rfl) .nil (exergueref02_noughts_ok hy2) (by kernel_rfl) ?_
 refine kC 1 [0,2,3,4] ?_
 refine kEN ?_
 obtain ⟨y326, hy327, h328⟩ := bindS h3
 refine K.cutX (by kernel_rfl) (fun (s325 : Unit) => ([(2, .int .i64 0), (3, .bool false)], [])) y326 ?_ (fun s325 hs => ?_)
 ·refine kSR ?_
  refine kC 1 [0,2,3,4,5] ?_
  refine kEN ?_
  refine K.block 0 (by kernel_rfl) ?_
  refine K.loop (by kernel_rfl) (fun (s330 : Int) => ([(0, .int .i32 x0), (2, .int .i64 0), (3, .bool false), (4, lsv (encI .i32) 1 y1), (5, .int .i64 s330)], [])) hy327 [0, 2, 3, 4, 5] (by kernel_rfl) (by kernel_rfl) (fun s330 x544 hs543 => ?_)
  refine kS ?_
  refine kSR ?_
  refine kC 4 [0,2,3,4,5,11] ?_
  refine kEN ?_
  refine J.caseB 11 (b := (decide (s330 < (y1.length : Int)))) (by kernel_rfl) (fun hb545 => ?_) (fun hb545 => ?_)
  ·have h546 := condT hb545 hs543
   refine kT ?_
   refine kK ?_
   refine PJ.next ?_
   obtain ⟨y597, hy598, h599⟩ := bindS h546
   refine K.cutX (by kernel_rfl) (fun (s596 : Unit) => ([(0, .int .i32 x0), (2, .int .i64 0), (3, .bool false), (4, lsv (encI .i32) 1 y1), (5, .int .i64 s330)], [])) y597 ?_ (fun s596 hs => ?_)
   ·refine K.block 1 (by kernel_rfl) ?_
    refine kSR ?_
    refine kC 1 [0,2,3,4,5,6] ?_
    refine kEN ?_
    refine K.block 2 (by kernel_rfl) ?_
    refine K.loop (by kernel_rfl) (fun (s601 : Int) => ([(0, .int .i32 x0), (2, .int .i64 0), (3, .bool false), (4, lsv (encI .i32) 1 y1), (5, .int .i64 s330), (6, .int .i64 s601)], [])) hy598 [0, 2, 3, 4, 5, 6] (by kernel_rfl) (by kernel_rfl) (fun s601 x633 hs632 => ?_)
    refine kS ?_
    refine kSR ?_
    refine kC 2 [0,2,3,4,5,6,15] ?_
    refine kEN ?_
    refine J.caseB 15 (b := (decide (s601 < 10))) (by kernel_rfl) (fun hb634 => ?_) (fun hb634 => ?_)
    ·have h635 := condT hb634 hs632
     refine kT ?_
     refine kK ?_
     refine PJ.next ?_
     refine kS ?_
     refine K.block 3 (by kernel_rfl) ?_
     refine kSR ?_
     refine kC 2 [0,2,3,4,5,6,18,19] ?_
     obtain ⟨hm, h637⟩ := asrt h635
     refine RJ.rel (d := (some 20)) (ef := ⟨.ep (((y1.flatMap (encI .i32)).drop ((s330 : Int).toNat * 1)).take 1), [], []⟩) (ef' := ⟨.ep ((encI .i32) (nth y1 s330)), [], []⟩) (c := inR s330 y1.length) (tr2 := []) (H2 := []) (by kernel_rfl) hm (fun hc => N.idx (encI_len .i32) hc) (by kernel_rfl) ?_
     refine kC 7 [0,2,3,4,5,6,27] ?_
     refine kEN ?_
     refine J.caseB 27 (b := (decide (((IntKind.wrap .i64 ((IntKind.wrap .i64 (nth y1 s330)) + s601))) = (IntKind.wrap .i64 x0)))) (by kernel_rfl) (fun hb638 => ?_) (fun hb638 => ?_)
     ·have h639 := condT hb638 h637
      refine kT ?_
      refine kSR ?_
      refine RJ.seg 3 [0, 2, 3, 4, 5, 6] (L2 := [(0, .int .i32 x0), (2, .int .i64 s601), (3, .bool true), (4, lsv (encI .i32) 1 y1), (5, .int .i64 s330), (6, .int .i64 s601)]) (H2 := []) (by kernel_rfl) ?_
      refine kEN ?_
      refine kX ?_
      refine PJ.blockRet ?_
      refine PJ.passRet ?_
      obtain rfl := oi h639
      refine PJ.loopOut (fun e => nomatch e) (fun he646 => ?_)
      have h641 := congrArg some he646
      refine PJ.blockRet ?_
      refine PJ.blockRet ?_
      obtain rfl := oi h641
      have h642 := joinX_inr h599
      refine PJ.cutXr (fun e => nomatch e) ?_
      obtain rfl := oi h642
      refine PJ.loopOut (fun e => nomatch e) (fun he645 => ?_)
      have h643 := congrArg some he645
      refine PJ.blockRet ?_
      obtain rfl := oi h643
      have h644 := joinX_inr h328
      refine PJ.cutXr (fun e => nomatch e) ?_
      obtain rfl := oi h644
      exact kZ hFn hFH hFD
     ·have h640 := condF hb638 h637
      refine kF ?_
      refine kK ?_
      refine PJ.blockNormal ?_
      refine PJ.next ?_
      refine kR ?_
      refine RJ.seg 3 [0, 2, 3, 4, 5, 6] (L2 := [(0, .int .i32 x0), (2, .int .i64 0), (3, .bool false), (4, lsv (encI .i32) 1 y1), (5, .int .i64 s330), (6, .int .i64 (IntKind.wrap .i64 (s601 + 1)))]) (H2 := []) (by kernel_rfl) ?_
      refine kE ?_
      obtain rfl := oi h640
      exact PJ.loopNext [0, 2, 3, 4, 5, 6] (by kernel_rfl) (by kernel_rfl)
    ·have h636 := condF hb634 hs632
     refine kF ?_
     refine K.exit 2 (by kernel_rfl) ?_
     refine PJ.passExit ?_
     obtain rfl := oi h636
     refine PJ.loopOut (fun e => nomatch e) (fun he648 => ?_)
     have h647 := congrArg some he648
     refine PJ.blockOut ?_
     refine PJ.blockNormal ?_
     obtain rfl := oi h647
     exact PJ.cutXl [0, 2, 3, 4, 5] (by kernel_rfl) (by kernel_rfl)
   ·subst hs
    have h600 := joinX_inl h599
    refine kR ?_
    refine kC 3 [0,2,3,4,5] ?_
    refine kE ?_
    obtain rfl := oi h600
    exact PJ.loopNext [0, 2, 3, 4, 5] (by kernel_rfl) (by kernel_rfl)
  ·have h547 := condF hb545 hs543
   refine kF ?_
   refine K.exit 0 (by kernel_rfl) ?_
   refine PJ.passExit ?_
   obtain rfl := oi h547
   refine PJ.loopOut (fun e => nomatch e) (fun he650 => ?_)
   have h649 := congrArg some he650
   refine PJ.blockOut ?_
   obtain rfl := oi h649
   exact PJ.cutXl [2, 3] (by kernel_rfl) (by kernel_rfl)
 ·subst hs
  have h329 := joinX_inl h328
  refine kSR ?_
  refine kC 2 [2,3] ?_
  refine kEN ?_
  refine kX ?_
  obtain rfl := oi h329
  exact kZ hFn hFH hFD

def exergueref02_Of (x0 : Int) : Option (Int) :=
 (Option.bind (exergueref01_Is x0) fun y1 => (Option.bind (exergueref02_turning (IntKind.wrap .i64 x0)) fun y4 => (Option.bind (exergueref02_blank (IntKind.wrap .i64 x0)) fun y7 => (Option.bind (exergueref02_Value x0) fun y10 => (bif (!y1) then (some 6) else (Option.bind (Option.bind (bif (decide ((IntKind.wrap .i64 x0) < 32)) then (some true) else (bif (decide ((IntKind.wrap .i64 x0) ≥ 127)) then (some ((decide ((IntKind.wrap .i64 x0) ≤ 159)))) else (some false))) fun (s48 : Bool) => (bif s48 then (some (.inr 1)) else (some (.inl ())))) (joinX fun (s37 : Unit) => (bif y4 then (some 2) else (Option.bind (Option.bind (bif (decide ((IntKind.wrap .i64 x0) ≥ 64976)) then (bif (decide ((IntKind.wrap .i64 x0) ≤ 65007)) then (some true) else (some ((decide ((Int.tmod (IntKind.wrap .i64 x0) 65536) ≥ 65534))))) else (some ((decide ((Int.tmod (IntKind.wrap .i64 x0) 65536) ≥ 65534))))) fun (s98 : Bool) => (bif s98 then (some (.inr 3)) else (some (.inl ())))) (joinX fun (s87 : Unit) => (bif y7 then (some 4) else (bif y10.2 then (some 5) else (some 0)))))))))))))
theorem exergueref02_Of_ok {x0 : Int} {r : Int} (h : exergueref02_Of x0 = some r) : SC Tryz.prog 24 [.int .i32 x0] [] (.int .i64 r) [] := by
 refine kFn (fn := Tryz.f24) (fun F hFn hFH hFD => ?_)
 unfold exergueref02_Of at h
 refine kSR ?_
 refine kC 1 [0,2] ?_
 refine kEN ?_
 refine kSR ?_
 refine kC 3 [0,2,3] ?_
 refine kEN ?_
 refine kSR ?_
 refine kC 1 [0,2,3,11] ?_
 obtain ⟨y1, hy2, h3⟩ := bindS h
 refine RJ.call0 (d := (some 12)) (f := 55) (args := [.int .i32 x0]) (v := .bool y1) (tr2 := []) (by kernel_rfl) (by kernel_rfl) (.cons (Le.refl _) .nil) (exergueref01_Is_ok hy2) (by kernel_rfl) ?_
 refine RJ.seg 1 [0, 2, 3, 4] (L2 := [(0, .int .i32 x0), (2, .int .i64 0), (3, .int .i64 (IntKind.wrap .i64 x0)), (4, .bool y1)]) (H2 := []) (by kernel_rfl) ?_
 refine kEN ?_
 refine kSR ?_
 refine kC 1 [0,2,3,4,13] ?_
 obtain ⟨y4, hy5, h6⟩ := bindS h3
 refine RJ.call0 (d := (some 14)) (f := 60) (args := [.int .i64 (IntKind.wrap .i64 x0)]) (v := .bool y4) (tr2 := []) (by kernel_rfl) (by kernel_rfl) (.cons (Le.refl _) .nil) (exergueref02_turning_ok hy5) (by kernel_rfl) ?_
 refine kC 1 [0,2,3,4,5] ?_
 refine kEN ?_
 refine kSR ?_
 refine kC 1 [0,2,3,4,5,15] ?_
 obtain ⟨y7, hy8, h9⟩ := bindS h6
 refine RJ.call0 (d := (some 16)) (f := 61) (args := [.int .i64 (IntKind.wrap .i64 x0)]) (v := .bool y7) (tr2 := []) (by kernel_rfl) (by kernel_rfl) (.cons (Le.refl _) .nil) (exergueref02_blank_ok hy8) (by kernel_rfl) ?_
 refine RJ.seg 1 [0, 2, 3, 4, 5, 6] (L2 := [(0, .int .i32 x0), (2, .int .i64 0), (3, .int .i64 (IntKind.wrap .i64 x0)), (4, .bool y1), (5, .bool y4), (6, .bool y7)]) (H2 := []) (by kernel_rfl) ?_
 refine kEN ?_
 refine kSR ?_
 refine kC 1 [2,3,4,5,6,18] ?_
 obtain ⟨y10, hy11, h12⟩ := bindS h9
 refine RJ.call0 (d := (some 19)) (f := 62) (args := [.int .i32 x0]) (v := .tup [.int .i64 y10.1, .bool y10.2]) (tr2 := []) (by kernel_rfl) (by kernel_rfl) (.cons (Le.refl _) .nil) (exergueref02_Value_ok hy11) (by kernel_rfl) ?_
 refine kC 5 [2,3,4,5,6,8] ?_
 refine kEN ?_
 refine kS ?_
 refine kSR ?_
 refine kC 2 [2,3,5,6,8,23] ?_
 refine kEN ?_
 refine J.caseB 23 (b := (!y1)) (by kernel_rfl) (fun hb13 => ?_) (fun hb13 => ?_)
 ·have h14 := condT hb13 h12
  refine kT ?_
  refine kSR ?_
  refine RJ.seg 1 [2, 3, 5, 6, 8] (L2 := [(2, .int .i64 6), (3, .int .i64 (IntKind.wrap .i64 x0)), (5, .bool y4), (6, .bool y7), (8, .bool y10.2)]) (H2 := []) (by kernel_rfl) ?_
  refine kEN ?_
  refine kX ?_
  refine PJ.passRet ?_
  obtain rfl := oi h14
  exact kZ hFn hFH hFD
 ·have h15 := condF hb13 h12
  refine kF ?_
  refine kK ?_
  refine PJ.next ?_
  obtain ⟨y38, hy39, h40⟩ := bindS h15
  refine K.cutX (by kernel_rfl) (fun (s37 : Unit) => ([(2, .int .i64 0), (3, .int .i64 (IntKind.wrap .i64 x0)), (5, .bool y4), (6, .bool y7), (8, .bool y10.2)], [])) y38 ?_ (fun s37 hs => ?_)
  ·obtain ⟨s48, hy50, h52⟩ := bindS hy39
   refine K.cutN (by kernel_rfl) (fun (s48 : Bool) => ([(2, .int .i64 0), (3, .int .i64 (IntKind.wrap .i64 x0)), (5, .bool y4), (6, .bool y7), (8, .bool y10.2), (33, .bool s48)], [])) s48 ?_ ?_
   ·refine kR ?_
    refine RJ.seg 3 [2, 3, 5, 6, 8, 26] (L2 := [(2, .int .i64 0), (3, .int .i64 (IntKind.wrap .i64 x0)), (5, .bool y4), (6, .bool y7), (8, .bool y10.2), (26, .bool ((decide ((IntKind.wrap .i64 x0) < 32))))]) (H2 := []) (by kernel_rfl) ?_
    refine RJ.caseB 26 (b := (decide ((IntKind.wrap .i64 x0) < 32))) (by kernel_rfl) (fun hb53 => ?_) (fun hb53 => ?_)
    ·have h54 := condT hb53 hy50
     refine kC 7 [2,3,5,6,8,33] ?_
     refine kE ?_
     obtain rfl := oi h54
     exact kN [2, 3, 5, 6, 8, 33]
    ·have h55 := condF hb53 hy50
     refine kC 3 [2,3,5,6,8,26,29] ?_
     refine RJ.caseB 29 (b := (decide ((IntKind.wrap .i64 x0) ≥ 127))) (by kernel_rfl) (fun hb56 => ?_) (fun hb56 => ?_)
     ·have h57 := condT hb56 h55
      refine kC 4 [2,3,5,6,8,33] ?_
      refine kE ?_
      obtain rfl := oi h57
      exact kN [2, 3, 5, 6, 8, 33]
     ·have h58 := condF hb56 h55
      refine kC 4 [2,3,5,6,8,33] ?_
      refine kE ?_
      obtain rfl := oi h58
      exact kN [2, 3, 5, 6, 8, 33]
   ·refine J.caseB 33 (b := s48) (by kernel_rfl) (fun hb59 => ?_) (fun hb59 => ?_)
    ·have h60 := condT hb59 h52
     refine kT ?_
     refine kSR ?_
     refine kC 1 [2,3,5,6,8] ?_
     refine kEN ?_
     refine kX ?_
     obtain rfl := oi h60
     have h62 := joinX_inr h40
     refine PJ.cutXr (fun e => nomatch e) ?_
     obtain rfl := oi h62
     exact kZ hFn hFH hFD
    ·have h61 := condF hb59 h52
     refine kF ?_
     refine kK ?_
     obtain rfl := oi h61
     exact PJ.cutXl [2, 3, 5, 6, 8] (by kernel_rfl) (by kernel_rfl)
  ·subst hs
   have h41 := joinX_inl h40
   refine kS ?_
   refine kSR ?_
   refine kC 1 [2,3,6,8,34] ?_
   refine kEN ?_
   refine J.caseB 34 (b := y4) (by kernel_rfl) (fun hb63 => ?_) (fun hb63 => ?_)
   ·have h64 := condT hb63 h41
    refine kT ?_
    refine kSR ?_
    refine kC 1 [2,3,6,8] ?_
    refine kEN ?_
    refine kX ?_
    refine PJ.passRet ?_
    obtain rfl := oi h64
    exact kZ hFn hFH hFD
   ·have h65 := condF hb63 h41
    refine kF ?_
    refine kK ?_
    refine PJ.next ?_
    obtain ⟨y88, hy89, h90⟩ := bindS h65
    refine K.cutX (by kernel_rfl) (fun (s87 : Unit) => ([(2, .int .i64 0), (6, .bool y7), (8, .bool y10.2)], [])) y88 ?_ (fun s87 hs => ?_)
    ·obtain ⟨s98, hy100, h102⟩ := bindS hy89
     refine K.cutN (by kernel_rfl) (fun (s98 : Bool) => ([(2, .int .i64 0), (6, .bool y7), (8, .bool y10.2), (45, .bool s98)], [])) s98 ?_ ?_
     ·refine kR ?_
      refine kC 3 [2,3,6,8,37] ?_
      refine RJ.caseB 37 (b := (decide ((IntKind.wrap .i64 x0) ≥ 64976))) (by kernel_rfl) (fun hb103 => ?_) (fun hb103 => ?_)
      ·have h104 := condT hb103 hy100
       refine kC 4 [2,3,6,8,41] ?_
       refine RJ.caseB 41 (b := (decide ((IntKind.wrap .i64 x0) ≤ 65007))) (by kernel_rfl) (fun hb106 => ?_) (fun hb106 => ?_)
       ·have h107 := condT hb106 h104
        refine RJ.seg 4 [2, 6, 8, 45] (L2 := [(2, .int .i64 0), (6, .bool y7), (8, .bool y10.2), (45, .bool true)]) (H2 := []) (by kernel_rfl) ?_
        refine kE ?_
        obtain rfl := oi h107
        exact kN [2, 6, 8, 45]
       ·have h108 := condF hb106 h104
        refine RJ.seg 4 [2, 6, 8, 45] (L2 := [(2, .int .i64 0), (6, .bool y7), (8, .bool y10.2), (45, .bool ((decide ((Int.tmod (IntKind.wrap .i64 x0) 65536) ≥ 65534))))]) (H2 := []) (by kernel_rfl) ?_
        refine kE ?_
        obtain rfl := oi h108
        exact kN [2, 6, 8, 45]
      ·have h105 := condF hb103 hy100
       refine kC 8 [2,6,8,45] ?_
       refine kE ?_
       obtain rfl := oi h105
       exact kN [2, 6, 8, 45]
     ·refine J.caseB 45 (b := s98) (by kernel_rfl) (fun hb109 => ?_) (fun hb109 => ?_)
      ·have h110 := condT hb109 h102
       refine kT ?_
       refine kSR ?_
       refine kC 1 [2,6,8] ?_
       refine kEN ?_
       refine kX ?_
       obtain rfl := oi h110
       have h112 := joinX_inr h90
       refine PJ.cutXr (fun e => nomatch e) ?_
       obtain rfl := oi h112
       exact kZ hFn hFH hFD
      ·have h111 := condF hb109 h102
       refine kF ?_
       refine kK ?_
       obtain rfl := oi h111
       exact PJ.cutXl [2, 6, 8] (by kernel_rfl) (by kernel_rfl)
    ·subst hs
     have h91 := joinX_inl h90
     refine kS ?_
     refine kSR ?_
     refine kC 1 [2,8,46] ?_
     refine kEN ?_
     refine J.caseB 46 (b := y7) (by kernel_rfl) (fun hb113 => ?_) (fun hb113 => ?_)
     ·have h114 := condT hb113 h91
      refine kT ?_
      refine kSR ?_
      refine kC 1 [2,8] ?_
      refine kEN ?_
      refine kX ?_
      refine PJ.passRet ?_
      obtain rfl := oi h114
      exact kZ hFn hFH hFD
     ·have h115 := condF hb113 h91
      refine kF ?_
      refine kK ?_
      refine PJ.next ?_
      refine kS ?_
      refine kSR ?_
      refine kC 1 [2,47] ?_
      refine kEN ?_
      refine J.caseB 47 (b := y10.2) (by kernel_rfl) (fun hb116 => ?_) (fun hb116 => ?_)
      ·have h117 := condT hb116 h115
       refine kT ?_
       refine kSR ?_
       refine kC 1 [2] ?_
       refine kEN ?_
       refine kX ?_
       refine PJ.passRet ?_
       obtain rfl := oi h117
       exact kZ hFn hFH hFD
      ·have h118 := condF hb116 h115
       refine kF ?_
       refine kK ?_
       refine PJ.next ?_
       refine kSR ?_
       refine kC 1 [2] ?_
       refine kEN ?_
       refine kX ?_
       obtain rfl := oi h118
       exact kZ hFn hFH hFD

def exergueref02_Zero (x0 : Int) : Option (Bool) :=
 (Option.bind exergueref02_noughts fun y1 => (Option.bind (loopN (fun (s48 : Int) => (bif (decide (s48 < (y1.length : Int))) then (bif inR s48 y1.length then (bif (decide ((nth y1 s48) = x0)) then (some (.inr (.inr true))) else (some (.inl (IntKind.wrap .i64 (s48 + 1))))) else none) else (some (.inr (.inl ()))))) big 0) (joinX fun (s43 : Unit) => (some false))))
theorem exergueref02_Zero_ok {x0 : Int} {r : Bool} (h : exergueref02_Zero x0 = some r) : SC Tryz.prog 25 [.int .i32 x0] [] (.bool r) [] := by
 refine kFn (fn := Tryz.f25) (fun F hFn hFH hFD => ?_)
 unfold exergueref02_Zero at h
 refine kSR ?_
 refine kC 1 [0,2] ?_
 refine kEN ?_
 refine kSR ?_
 obtain ⟨y1, hy2, h3⟩ := bindS h
 refine RJ.call0 (d := (some 5)) (f := 63) (args := []) (v := lsv (encI .i32) 1 y1) (tr2 := []) (by kernel_rfl) (by kernel_rfl) .nil (exergueref02_noughts_ok hy2) (by kernel_rfl) ?_
 refine kC 1 [0,2,3] ?_
 refine kEN ?_
 obtain ⟨y44, hy45, h46⟩ := bindS h3
 refine K.cutX (by kernel_rfl) (fun (s43 : Unit) => ([(2, .bool false)], [])) y44 ?_ (fun s43 hs => ?_)
 ·refine kSR ?_
  refine kC 1 [0,2,3,4] ?_
  refine kEN ?_
  refine K.block 0 (by kernel_rfl) ?_
  refine K.loop (by kernel_rfl) (fun (s48 : Int) => ([(0, .int .i32 x0), (2, .bool false), (3, lsv (encI .i32) 1 y1), (4, .int .i64 s48)], [])) hy45 [0, 2, 3, 4] (by kernel_rfl) (by kernel_rfl) (fun s48 x74 hs73 => ?_)
  refine kS ?_
  refine kSR ?_
  refine kC 4 [0,2,3,4,9] ?_
  refine kEN ?_
  refine J.caseB 9 (b := (decide (s48 < (y1.length : Int)))) (by kernel_rfl) (fun hb75 => ?_) (fun hb75 => ?_)
  ·have h76 := condT hb75 hs73
   refine kT ?_
   refine kK ?_
   refine PJ.next ?_
   refine kS ?_
   refine K.block 1 (by kernel_rfl) ?_
   refine kSR ?_
   refine kC 2 [0,2,3,4,12,13] ?_
   obtain ⟨hm, h78⟩ := asrt h76
   refine RJ.rel (d := (some 14)) (ef := ⟨.ep (((y1.flatMap (encI .i32)).drop ((s48 : Int).toNat * 1)).take 1), [], []⟩) (ef' := ⟨.ep ((encI .i32) (nth y1 s48)), [], []⟩) (c := inR s48 y1.length) (tr2 := []) (H2 := []) (by kernel_rfl) hm (fun hc => N.idx (encI_len .i32) hc) (by kernel_rfl) ?_
   refine kC 3 [0,2,3,4,17] ?_
   refine kEN ?_
   refine J.caseB 17 (b := (decide ((nth y1 s48) = x0))) (by kernel_rfl) (fun hb79 => ?_) (fun hb79 => ?_)
   ·have h80 := condT hb79 h78
    refine kT ?_
    refine kSR ?_
    refine RJ.seg 1 [0, 2, 3, 4] (L2 := [(0, .int .i32 x0), (2, .bool true), (3, lsv (encI .i32) 1 y1), (4, .int .i64 s48)]) (H2 := []) (by kernel_rfl) ?_
    refine kEN ?_
    refine kX ?_
    refine PJ.blockRet ?_
    refine PJ.passRet ?_
    obtain rfl := oi h80
    refine PJ.loopOut (fun e => nomatch e) (fun he84 => ?_)
    have h82 := congrArg some he84
    refine PJ.blockRet ?_
    obtain rfl := oi h82
    have h83 := joinX_inr h46
    refine PJ.cutXr (fun e => nomatch e) ?_
    obtain rfl := oi h83
    exact kZ hFn hFH hFD
   ·have h81 := condF hb79 h78
    refine kF ?_
    refine kK ?_
    refine PJ.blockNormal ?_
    refine PJ.next ?_
    refine kR ?_
    refine RJ.seg 3 [0, 2, 3, 4] (L2 := [(0, .int .i32 x0), (2, .bool false), (3, lsv (encI .i32) 1 y1), (4, .int .i64 (IntKind.wrap .i64 (s48 + 1)))]) (H2 := []) (by kernel_rfl) ?_
    refine kE ?_
    obtain rfl := oi h81
    exact PJ.loopNext [0, 2, 3, 4] (by kernel_rfl) (by kernel_rfl)
  ·have h77 := condF hb75 hs73
   refine kF ?_
   refine K.exit 0 (by kernel_rfl) ?_
   refine PJ.passExit ?_
   obtain rfl := oi h77
   refine PJ.loopOut (fun e => nomatch e) (fun he86 => ?_)
   have h85 := congrArg some he86
   refine PJ.blockOut ?_
   obtain rfl := oi h85
   exact PJ.cutXl [2] (by kernel_rfl) (by kernel_rfl)
 ·subst hs
  have h47 := joinX_inl h46
  refine kSR ?_
  refine kC 1 [2] ?_
  refine kEN ?_
  refine kX ?_
  obtain rfl := oi h47
  exact kZ hFn hFH hFD

def exergueref13_Good (x0 : St22) : Option (Bool) :=
 (Option.bind (loopN (fun (s669 : Int) => (bif (decide (s669 < (([x0.Dec_, x0.Group_, x0.Minus_, x0.Plus_, x0.Percent_, x0.Exp_] : List Int).length : Int))) then (Option.bind (bif inR s669 ([x0.Dec_, x0.Group_, x0.Minus_, x0.Plus_, x0.Percent_, x0.Exp_] : List Int).length then (bif inR s669 ([x0.Dec_, x0.Group_, x0.Minus_, x0.Plus_, x0.Percent_, x0.Exp_] : List Int).length then (Option.bind (exergueref02_Of (nth ([x0.Dec_, x0.Group_, x0.Minus_, x0.Plus_, x0.Percent_, x0.Exp_] : List Int) s669)) fun y1227 => (Option.bind (Option.bind (bif (decide (¬ y1227 = 0)) then (some (decide (¬ y1227 = 4))) else (some false)) fun (s1257 : Bool) => (bif s1257 then (some (.inr (.inr (.inr (.inr false))))) else (some (.inl ())))) (joinX fun (s1249 : Unit) => (loopN (fun (s1273 : Int) => (bif (decide (s1273 < s669)) then (bif inR s1273 ([x0.Dec_, x0.Group_, x0.Minus_, x0.Plus_, x0.Percent_, x0.Exp_] : List Int).length then (bif inR s1273 ([x0.Dec_, x0.Group_, x0.Minus_, x0.Plus_, x0.Percent_, x0.Exp_] : List Int).length then (bif inR s669 ([x0.Dec_, x0.Group_, x0.Minus_, x0.Plus_, x0.Percent_, x0.Exp_] : List Int).length then (bif inR s669 ([x0.Dec_, x0.Group_, x0.Minus_, x0.Plus_, x0.Percent_, x0.Exp_] : List Int).length then (bif (decide ((nth ([x0.Dec_, x0.Group_, x0.Minus_, x0.Plus_, x0.Percent_, x0.Exp_] : List Int) s1273) = (nth ([x0.Dec_, x0.Group_, x0.Minus_, x0.Plus_, x0.Percent_, x0.Exp_] : List Int) s669))) then (some (.inr (.inr (.inr (.inr false))))) else (some (.inl (IntKind.wrap .i64 (s1273 + 1))))) else none) else none) else none) else none) else (some (.inr (.inl ()))))) big 0)))) else none) else none) (joinX fun (s1220 : Unit) => (some (.inl (IntKind.wrap .i64 (s669 + 1)))))) else (some (.inr (.inl ()))))) big 0) (joinX fun (s664 : Unit) => (Option.bind (exergueref02_Zero x0.Zero_) fun y1332 => (some y1332))))
theorem exergueref13_Good_ok {x0 : St22} {r : Bool} (h : exergueref13_Good x0 = some r) : SC Tryz.prog 7 [.agg (encSt22 x0)] [] (.bool r) [] := by
 refine kFn (fn := Tryz.f7) (fun F hFn hFH hFD => ?_)
 unfold exergueref13_Good at h
 refine kSR ?_
 refine kC 2 [1,2] ?_
 refine kEN ?_
 refine kSR ?_
 refine kC 14 [1,2,3] ?_
 refine kEN ?_
 obtain ⟨y665, hy666, h667⟩ := bindS h
 refine K.cutX (by kernel_rfl) (fun (s664 : Unit) => ([(1, .ptr 0 0), (2, .bool false)], [.box (encSt22 x0)])) y665 ?_ (fun s664 hs => ?_)
 ·refine kSR ?_
  refine kC 1 [1,2,3,4] ?_
  refine kEN ?_
  refine K.block 0 (by kernel_rfl) ?_
  refine K.loop (by kernel_rfl) (fun (s669 : Int) => ([(1, .ptr 0 0), (2, .bool false), (3, .vc 1), (4, .int .i64 s669)], [.box (encSt22 x0), vecL (encI .i32) 1 21 ([x0.Dec_, x0.Group_, x0.Minus_, x0.Plus_, x0.Percent_, x0.Exp_] : List Int)])) hy666 [1, 2, 3, 4] (by kernel_rfl) (by kernel_rfl) (fun s669 x1111 hs1110 => ?_)
  refine kS ?_
  refine kSR ?_
  refine kC 4 [1,2,3,4,23] ?_
  refine kEN ?_
  refine J.caseB 23 (b := (decide (s669 < (([x0.Dec_, x0.Group_, x0.Minus_, x0.Plus_, x0.Percent_, x0.Exp_] : List Int).length : Int)))) (by kernel_rfl) (fun hb1112 => ?_) (fun hb1112 => ?_)
  ·have h1113 := condT hb1112 hs1110
   refine kT ?_
   refine kK ?_
   refine PJ.next ?_
   obtain ⟨y1221, hy1222, h1223⟩ := bindS h1113
   refine K.cutX (by kernel_rfl) (fun (s1220 : Unit) => ([(1, .ptr 0 0), (2, .bool false), (3, .vc 1), (4, .int .i64 s669)], [.box (encSt22 x0), vecL (encI .i32) 1 21 ([x0.Dec_, x0.Group_, x0.Minus_, x0.Plus_, x0.Percent_, x0.Exp_] : List Int)])) y1221 ?_ (fun s1220 hs => ?_)
   ·refine K.block 1 (by kernel_rfl) ?_
    refine kSR ?_
    refine kC 2 [1,2,3,4,26,27] ?_
    obtain ⟨hm, h1225⟩ := asrt hy1222
    refine RJ.rel (d := (some 28)) (ef := ⟨.ptr 1 ((s669 : Int).toNat * 1), [1], []⟩) (ef' := ⟨.ptr 1 ((s669 : Int).toNat * 1), [1], []⟩) (c := inR s669 ([x0.Dec_, x0.Group_, x0.Minus_, x0.Plus_, x0.Percent_, x0.Exp_] : List Int).length) (tr2 := []) (H2 := [.box (encSt22 x0), vecL (encI .i32) 1 21 ([x0.Dec_, x0.Group_, x0.Minus_, x0.Plus_, x0.Percent_, x0.Exp_] : List Int)]) (by kernel_rfl) hm (fun hc => rfl) (by kernel_rfl) ?_
    obtain ⟨hm, h1226⟩ := asrt h1225
    refine RJ.rel (d := (some 29)) (ef := ⟨(((([x0.Dec_, x0.Group_, x0.Minus_, x0.Plus_, x0.Percent_, x0.Exp_] : List Int)).flatMap (encI .i32)).drop ((s669 : Int).toNat * 1)).headD .undef, [1], []⟩) (ef' := ⟨.int .i32 (nth ([x0.Dec_, x0.Group_, x0.Minus_, x0.Plus_, x0.Percent_, x0.Exp_] : List Int) s669), [1], []⟩) (c := Nat.blt ((s669 : Int).toNat * 1) (([x0.Dec_, x0.Group_, x0.Minus_, x0.Plus_, x0.Percent_, x0.Exp_] : List Int).flatMap (encI .i32)).length) (tr2 := []) (H2 := [.box (encSt22 x0), vecL (encI .i32) 1 21 ([x0.Dec_, x0.Group_, x0.Minus_, x0.Plus_, x0.Percent_, x0.Exp_] : List Int)]) (by kernel_rfl) (loadv_ok (encI_len .i32) rfl hm) (fun hc => N.load1 (encI_len .i32) (fun _ => rfl) hm) (by kernel_rfl) ?_
    obtain ⟨y1227, hy1228, h1229⟩ := bindS h1226
    refine RJ.call0 (d := (some 30)) (f := 24) (args := [.int .i32 (nth ([x0.Dec_, x0.Group_, x0.Minus_, x0.Plus_, x0.Percent_, x0.Exp_] : List Int) s669)]) (v := .int .i64 y1227) (tr2 := []) (by kernel_rfl) (by kernel_rfl) (.cons (Le.refl _) .nil) (exergueref02_Of_ok hy1228) (by kernel_rfl) ?_
    refine kC 1 [1,2,3,4,5] ?_
    refine kEN ?_
    obtain ⟨y1250, hy1251, h1252⟩ := bindS h1229
    refine K.cutX (by kernel_rfl) (fun (s1249 : Unit) => ([(1, .ptr 0 0), (2, .bool false), (3, .vc 1), (4, .int .i64 s669)], [.box (encSt22 x0), vecL (encI .i32) 1 21 ([x0.Dec_, x0.Group_, x0.Minus_, x0.Plus_, x0.Percent_, x0.Exp_] : List Int)])) y1250 ?_ (fun s1249 hs => ?_)
    ·obtain ⟨s1257, hy1259, h1261⟩ := bindS hy1251
     refine K.cutN (by kernel_rfl) (fun (s1257 : Bool) => ([(1, .ptr 0 0), (2, .bool false), (3, .vc 1), (4, .int .i64 s669), (36, .bool s1257)], [.box (encSt22 x0), vecL (encI .i32) 1 21 ([x0.Dec_, x0.Group_, x0.Minus_, x0.Plus_, x0.Percent_, x0.Exp_] : List Int)])) s1257 ?_ ?_
     ·refine kR ?_
      refine RJ.seg 3 [1, 2, 3, 4, 5, 33] (L2 := [(1, .ptr 0 0), (2, .bool false), (3, .vc 1), (4, .int .i64 s669), (5, .int .i64 y1227), (33, .bool (decide (¬ y1227 = 0)))]) (H2 := [.box (encSt22 x0), vecL (encI .i32) 1 21 ([x0.Dec_, x0.Group_, x0.Minus_, x0.Plus_, x0.Percent_, x0.Exp_] : List Int)]) (by kernel_rfl) ?_
      refine RJ.caseB 33 (b := (decide (¬ y1227 = 0))) (by kernel_rfl) (fun hb1262 => ?_) (fun hb1262 => ?_)
      ·have h1263 := condT hb1262 hy1259
       refine kC 3 [1,2,3,4,36] ?_
       refine kE ?_
       obtain rfl := oi h1263
       exact kN [1, 2, 3, 4, 36]
      ·have h1264 := condF hb1262 hy1259
       refine kC 3 [1,2,3,4,36] ?_
       refine kE ?_
       obtain rfl := oi h1264
       exact kN [1, 2, 3, 4, 36]
     ·refine J.caseB 36 (b := s1257) (by kernel_rfl) (fun hb1265 => ?_) (fun hb1265 => ?_)
      ·have h1266 := condT hb1265 h1261
       refine kT ?_
       refine kSR ?_
       refine kC 1 [1,2,3,4] ?_
       refine kEN ?_
       refine kX ?_
       obtain rfl := oi h1266
       have h1268 := joinX_inr h1252
       refine PJ.cutXr (fun e => nomatch e) ?_
       refine PJ.blockRet ?_
       obtain rfl := oi h1268
       have h1269 := joinX_inr h1223
       refine PJ.cutXr (fun e => nomatch e) ?_
       obtain rfl := oi h1269
       refine PJ.loopOut (fun e => nomatch e) (fun he1272 => ?_)
       have h1270 := congrArg some he1272
       refine PJ.blockRet ?_
       obtain rfl := oi h1270
       have h1271 := joinX_inr h667
       refine PJ.cutXr (fun e => nomatch e) ?_
       obtain rfl := oi h1271
       exact kZ hFn hFH hFD
      ·have h1267 := condF hb1265 h1261
       refine kF ?_
       refine kK ?_
       obtain rfl := oi h1267
       exact PJ.cutXl [1, 2, 3, 4] (by kernel_rfl) (by kernel_rfl)
    ·subst hs
     have h1253 := joinX_inl h1252
     refine kSR ?_
     refine kC 1 [1,2,3,4,6] ?_
     refine kEN ?_
     refine K.block 2 (by kernel_rfl) ?_
     refine K.loop (by kernel_rfl) (fun (s1273 : Int) => ([(1, .ptr 0 0), (2, .bool false), (3, .vc 1), (4, .int .i64 s669), (6, .int .i64 s1273)], [.box (encSt22 x0), vecL (encI .i32) 1 21 ([x0.Dec_, x0.Group_, x0.Minus_, x0.Plus_, x0.Percent_, x0.Exp_] : List Int)])) h1253 [1, 2, 3, 4, 6] (by kernel_rfl) (by kernel_rfl) (fun s1273 x1311 hs1310 => ?_)
     refine kS ?_
     refine kSR ?_
     refine kC 3 [1,2,3,4,6,39] ?_
     refine kEN ?_
     refine J.caseB 39 (b := (decide (s1273 < s669))) (by kernel_rfl) (fun hb1312 => ?_) (fun hb1312 => ?_)
     ·have h1313 := condT hb1312 hs1310
      refine kT ?_
      refine kK ?_
      refine PJ.next ?_
      refine kS ?_
      refine K.block 3 (by kernel_rfl) ?_
      refine kS ?_
      refine J.keep [1, 2, 3, 4, 6] (L2 := [(1, .ptr 0 0), (2, .bool false), (3, .vc 1), (4, .int .i64 s669), (6, .int .i64 s1273)]) (by kernel_rfl) ?_
      refine K.draw (by kernel_rfl) (by kernel_rfl) (by kernel_rfl) (H2 := [.box (encSt22 x0), vecL (encI .i32) 1 21 ([x0.Dec_, x0.Group_, x0.Minus_, x0.Plus_, x0.Percent_, x0.Exp_] : List Int)]) (by kernel_rfl) (n := 2) (by kernel_rfl) ?_
      refine kD 2 ?_
      obtain ⟨hm, h1315⟩ := asrt h1313
      refine RJ.rel (d := (some 44)) (ef := ⟨.ptr 1 ((s1273 : Int).toNat * 1), [1], []⟩) (ef' := ⟨.ptr 1 ((s1273 : Int).toNat * 1), [1], []⟩) (c := inR s1273 ([x0.Dec_, x0.Group_, x0.Minus_, x0.Plus_, x0.Percent_, x0.Exp_] : List Int).length) (tr2 := [([], []), ([], []), ([3], [])]) (H2 := [.box (encSt22 x0), vecL (encI .i32) 1 21 ([x0.Dec_, x0.Group_, x0.Minus_, x0.Plus_, x0.Percent_, x0.Exp_] : List Int)]) (by kernel_rfl) hm (fun hc => rfl) (by kernel_rfl) ?_
      obtain ⟨hm, h1316⟩ := asrt h1315
      refine RJ.rel (d := (some 45)) (ef := ⟨(((([x0.Dec_, x0.Group_, x0.Minus_, x0.Plus_, x0.Percent_, x0.Exp_] : List Int)).flatMap (encI .i32)).drop ((s1273 : Int).toNat * 1)).headD .undef, [1], []⟩) (ef' := ⟨.int .i32 (nth ([x0.Dec_, x0.Group_, x0.Minus_, x0.Plus_, x0.Percent_, x0.Exp_] : List Int) s1273), [1], []⟩) (c := Nat.blt ((s1273 : Int).toNat * 1) (([x0.Dec_, x0.Group_, x0.Minus_, x0.Plus_, x0.Percent_, x0.Exp_] : List Int).flatMap (encI .i32)).length) (tr2 := [([], []), ([], []), ([3], []), ([2, 3], [])]) (H2 := [.box (encSt22 x0), vecL (encI .i32) 1 21 ([x0.Dec_, x0.Group_, x0.Minus_, x0.Plus_, x0.Percent_, x0.Exp_] : List Int)]) (by kernel_rfl) (loadv_ok (encI_len .i32) rfl hm) (fun hc => N.load1 (encI_len .i32) (fun _ => rfl) hm) (by kernel_rfl) ?_
      refine kD 2 ?_
      obtain ⟨hm, h1317⟩ := asrt h1316
      refine RJ.rel (d := (some 48)) (ef := ⟨.ptr 1 ((s669 : Int).toNat * 1), [1], []⟩) (ef' := ⟨.ptr 1 ((s669 : Int).toNat * 1), [1], []⟩) (c := inR s669 ([x0.Dec_, x0.Group_, x0.Minus_, x0.Plus_, x0.Percent_, x0.Exp_] : List Int).length) (tr2 := [([], []), ([], []), ([3], []), ([2, 3], []), ([], []), ([], []), ([3], [])]) (H2 := [.box (encSt22 x0), vecL (encI .i32) 1 21 ([x0.Dec_, x0.Group_, x0.Minus_, x0.Plus_, x0.Percent_, x0.Exp_] : List Int)]) (by kernel_rfl) hm (fun hc => rfl) (by kernel_rfl) ?_
      obtain ⟨hm, h1318⟩ := asrt h1317
      refine RJ.rel (d := (some 49)) (ef := ⟨(((([x0.Dec_, x0.Group_, x0.Minus_, x0.Plus_, x0.Percent_, x0.Exp_] : List Int)).flatMap (encI .i32)).drop ((s669 : Int).toNat * 1)).headD .undef, [1], []⟩) (ef' := ⟨.int .i32 (nth ([x0.Dec_, x0.Group_, x0.Minus_, x0.Plus_, x0.Percent_, x0.Exp_] : List Int) s669), [1], []⟩) (c := Nat.blt ((s669 : Int).toNat * 1) (([x0.Dec_, x0.Group_, x0.Minus_, x0.Plus_, x0.Percent_, x0.Exp_] : List Int).flatMap (encI .i32)).length) (tr2 := [([], []), ([], []), ([3], []), ([2, 3], []), ([], []), ([], []), ([3], []), ([2, 3], [])]) (H2 := [.box (encSt22 x0), vecL (encI .i32) 1 21 ([x0.Dec_, x0.Group_, x0.Minus_, x0.Plus_, x0.Percent_, x0.Exp_] : List Int)]) (by kernel_rfl) (loadv_ok (encI_len .i32) rfl hm) (fun hc => N.load1 (encI_len .i32) (fun _ => rfl) hm) (by kernel_rfl) ?_
      refine RJ.segD 1 (tr2 := [([], []), ([], []), ([3], []), ([2, 3], []), ([], []), ([], []), ([3], []), ([2, 3], []), ([], [])]) (L2 := [(50, .bool ((decide ((nth ([x0.Dec_, x0.Group_, x0.Minus_, x0.Plus_, x0.Percent_, x0.Exp_] : List Int) s1273) = (nth ([x0.Dec_, x0.Group_, x0.Minus_, x0.Plus_, x0.Percent_, x0.Exp_] : List Int) s669))))), (49, .int .i32 (nth ([x0.Dec_, x0.Group_, x0.Minus_, x0.Plus_, x0.Percent_, x0.Exp_] : List Int) s669)), (48, .ptr 1 ((s669 : Int).toNat * 1)), (47, .int .i64 s669), (46, .vc 1), (45, .int .i32 (nth ([x0.Dec_, x0.Group_, x0.Minus_, x0.Plus_, x0.Percent_, x0.Exp_] : List Int) s1273)), (44, .ptr 1 ((s1273 : Int).toNat * 1)), (43, .int .i64 s1273), (42, .vc 1), (1, .ptr 0 0), (2, .bool false), (3, .vc 1), (4, .int .i64 s669), (6, .int .i64 s1273)]) (H2 := [.box (encSt22 x0), vecL (encI .i32) 1 21 ([x0.Dec_, x0.Group_, x0.Minus_, x0.Plus_, x0.Percent_, x0.Exp_] : List Int)]) (by kernel_rfl) ?_
      refine kEN ?_
      refine J.caseB 50 (b := (decide ((nth ([x0.Dec_, x0.Group_, x0.Minus_, x0.Plus_, x0.Percent_, x0.Exp_] : List Int) s1273) = (nth ([x0.Dec_, x0.Group_, x0.Minus_, x0.Plus_, x0.Percent_, x0.Exp_] : List Int) s669)))) (by kernel_rfl) (fun hb1319 => ?_) (fun hb1319 => ?_)
      ·have h1320 := condT hb1319 h1318
       refine kT ?_
       refine kSR ?_
       refine kC 1 [1,2,3,4,6] ?_
       refine kEN ?_
       refine kX ?_
       refine PJ.blockRet ?_
       refine PJ.passRet ?_
       obtain rfl := oi h1320
       refine PJ.loopOut (fun e => nomatch e) (fun he1327 => ?_)
       have h1322 := congrArg some he1327
       refine PJ.blockRet ?_
       refine PJ.blockRet ?_
       obtain rfl := oi h1322
       have h1323 := joinX_inr h1223
       refine PJ.cutXr (fun e => nomatch e) ?_
       obtain rfl := oi h1323
       refine PJ.loopOut (fun e => nomatch e) (fun he1326 => ?_)
       have h1324 := congrArg some he1326
       refine PJ.blockRet ?_
       obtain rfl := oi h1324
       have h1325 := joinX_inr h667
       refine PJ.cutXr (fun e => nomatch e) ?_
       obtain rfl := oi h1325
       exact kZ hFn hFH hFD
      ·have h1321 := condF hb1319 h1318
       refine kF ?_
       refine kK ?_
       refine PJ.blockNormal ?_
       refine PJ.next ?_
       refine kR ?_
       refine kC 3 [1,2,3,4,6] ?_
       refine kE ?_
       obtain rfl := oi h1321
       exact PJ.loopNext [1, 2, 3, 4, 6] (by kernel_rfl) (by kernel_rfl)
     ·have h1314 := condF hb1312 hs1310
      refine kF ?_
      refine K.exit 2 (by kernel_rfl) ?_
      refine PJ.passExit ?_
      obtain rfl := oi h1314
      refine PJ.loopOut (fun e => nomatch e) (fun he1329 => ?_)
      have h1328 := congrArg some he1329
      refine PJ.blockOut ?_
      refine PJ.blockNormal ?_
      obtain rfl := oi h1328
      exact PJ.cutXl [1, 2, 3, 4] (by kernel_rfl) (by kernel_rfl)
   ·subst hs
    have h1224 := joinX_inl h1223
    refine kR ?_
    refine kC 3 [1,2,3,4] ?_
    refine kE ?_
    obtain rfl := oi h1224
    exact PJ.loopNext [1, 2, 3, 4] (by kernel_rfl) (by kernel_rfl)
  ·have h1114 := condF hb1112 hs1110
   refine kF ?_
   refine K.exit 0 (by kernel_rfl) ?_
   refine PJ.passExit ?_
   obtain rfl := oi h1114
   refine PJ.loopOut (fun e => nomatch e) (fun he1331 => ?_)
   have h1330 := congrArg some he1331
   refine PJ.blockOut ?_
   obtain rfl := oi h1330
   refine PJ.wk (Wk.sel (L2 := [(1, .ptr 0 0), (2, .bool false)]) (H2 := [.box (encSt22 x0)]) 0 (by rw [hFH]; rfl) hFD [0] (by kernel_rfl) (by kernel_rfl) (by decide) (by kernel_rfl) (by kernel_rfl) (by kernel_rfl) (by kernel_rfl)) ?_
   exact PJ.cutXl [1, 2] (by kernel_rfl) (by kernel_rfl)
 ·subst hs
  have h668 := joinX_inl h667
  refine kSR ?_
  refine kC 2 [2,52] ?_
  obtain ⟨y1332, hy1333, h1334⟩ := bindS h668
  refine RJ.call0 (d := (some 53)) (f := 25) (args := [.int .i32 x0.Zero_]) (v := .bool y1332) (tr2 := []) (by kernel_rfl) (by kernel_rfl) (.cons (Le.refl _) .nil) (exergueref02_Zero_ok hy1333) (by kernel_rfl) ?_
  refine kC 1 [2] ?_
  refine kEN ?_
  refine kX ?_
  obtain rfl := oi h1334
  exact kZ hFn hFH hFD

def exergueref17_place (x0 : List Int) (x1 : Int) : Option (Int) :=
 (Option.bind (loopN (fun (s45 : Int) => (bif (decide (s45 < (x0.length : Int))) then (bif inR s45 x0.length then (bif (decide ((nth x0 s45) = x1)) then (some (.inr (.inr s45))) else (some (.inl (IntKind.wrap .i64 (s45 + 1))))) else none) else (some (.inr (.inl ()))))) big 0) (joinX fun (s40 : Unit) => (some (x0.length : Int))))
theorem exergueref17_place_ok {x0 : List Int} {x1 : Int} {r : Int} (h : exergueref17_place x0 x1 = some r) : SC Tryz.prog 50 [lsv (encI .i32) 1 x0, .int .i32 x1] [] (.int .i64 r) [] := by
 refine kFn (fn := Tryz.f50) (fun F hFn hFH hFD => ?_)
 unfold exergueref17_place at h
 refine kSR ?_
 refine kC 1 [0,1,4] ?_
 refine kEN ?_
 obtain ⟨y41, hy42, h43⟩ := bindS h
 refine K.cutX (by kernel_rfl) (fun (s40 : Unit) => ([(0, lsv (encI .i32) 1 x0), (4, .int .i64 0)], [])) y41 ?_ (fun s40 hs => ?_)
 ·refine kSR ?_
  refine kC 1 [0,1,4,5] ?_
  refine kEN ?_
  refine K.block 0 (by kernel_rfl) ?_
  refine K.loop (by kernel_rfl) (fun (s45 : Int) => ([(0, lsv (encI .i32) 1 x0), (1, .int .i32 x1), (4, .int .i64 0), (5, .int .i64 s45)], [])) hy42 [0, 1, 4, 5] (by kernel_rfl) (by kernel_rfl) (fun s45 x71 hs70 => ?_)
  refine kS ?_
  refine kSR ?_
  refine kC 4 [0,1,4,5,9] ?_
  refine kEN ?_
  refine J.caseB 9 (b := (decide (s45 < (x0.length : Int)))) (by kernel_rfl) (fun hb72 => ?_) (fun hb72 => ?_)
  ·have h73 := condT hb72 hs70
   refine kT ?_
   refine kK ?_
   refine PJ.next ?_
   refine kS ?_
   refine K.block 1 (by kernel_rfl) ?_
   refine kSR ?_
   refine kC 2 [0,1,4,5,12,13] ?_
   obtain ⟨hm, h75⟩ := asrt h73
   refine RJ.rel (d := (some 14)) (ef := ⟨.ep (((x0.flatMap (encI .i32)).drop ((s45 : Int).toNat * 1)).take 1), [], []⟩) (ef' := ⟨.ep ((encI .i32) (nth x0 s45)), [], []⟩) (c := inR s45 x0.length) (tr2 := []) (H2 := []) (by kernel_rfl) hm (fun hc => N.idx (encI_len .i32) hc) (by kernel_rfl) ?_
   refine kC 3 [0,1,4,5,17] ?_
   refine kEN ?_
   refine J.caseB 17 (b := (decide ((nth x0 s45) = x1))) (by kernel_rfl) (fun hb76 => ?_) (fun hb76 => ?_)
   ·have h77 := condT hb76 h75
    refine kT ?_
    refine kSR ?_
    refine RJ.seg 2 [0, 1, 4, 5] (L2 := [(0, lsv (encI .i32) 1 x0), (1, .int .i32 x1), (4, .int .i64 s45), (5, .int .i64 s45)]) (H2 := []) (by kernel_rfl) ?_
    refine kEN ?_
    refine kX ?_
    refine PJ.blockRet ?_
    refine PJ.passRet ?_
    obtain rfl := oi h77
    refine PJ.loopOut (fun e => nomatch e) (fun he81 => ?_)
    have h79 := congrArg some he81
    refine PJ.blockRet ?_
    obtain rfl := oi h79
    have h80 := joinX_inr h43
    refine PJ.cutXr (fun e => nomatch e) ?_
    obtain rfl := oi h80
    exact kZ hFn hFH hFD
   ·have h78 := condF hb76 h75
    refine kF ?_
    refine kK ?_
    refine PJ.blockNormal ?_
    refine PJ.next ?_
    refine kR ?_
    refine RJ.seg 3 [0, 1, 4, 5] (L2 := [(0, lsv (encI .i32) 1 x0), (1, .int .i32 x1), (4, .int .i64 0), (5, .int .i64 (IntKind.wrap .i64 (s45 + 1)))]) (H2 := []) (by kernel_rfl) ?_
    refine kE ?_
    obtain rfl := oi h78
    exact PJ.loopNext [0, 1, 4, 5] (by kernel_rfl) (by kernel_rfl)
  ·have h74 := condF hb72 hs70
   refine kF ?_
   refine K.exit 0 (by kernel_rfl) ?_
   refine PJ.passExit ?_
   obtain rfl := oi h74
   refine PJ.loopOut (fun e => nomatch e) (fun he83 => ?_)
   have h82 := congrArg some he83
   refine PJ.blockOut ?_
   obtain rfl := oi h82
   exact PJ.cutXl [0, 4] (by kernel_rfl) (by kernel_rfl)
 ·subst hs
  have h44 := joinX_inl h43
  refine kSR ?_
  refine kC 3 [4] ?_
  refine kEN ?_
  refine kX ?_
  obtain rfl := oi h44
  exact kZ hFn hFH hFD

def exergueref13_Value (x0 : St22) (x1 : Int) : Option (Int × Bool) :=
 (Option.bind (loopN (fun (s42 : Int) => (bif (decide (s42 < 10)) then (bif (decide (((IntKind.wrap .i64 ((IntKind.wrap .i64 x0.Zero_) + s42))) = (IntKind.wrap .i64 x1))) then (some (.inr (.inr ((IntKind.wrap .u8 s42), true)))) else (some (.inl (IntKind.wrap .i64 (s42 + 1))))) else (some (.inr (.inl ()))))) big 0) (joinX fun (s37 : Unit) => (some (0, false))))
theorem exergueref13_Value_ok {x0 : St22} {x1 : Int} {r : Int × Bool} (h : exergueref13_Value x0 x1 = some r) : SC Tryz.prog 80 [.agg (encSt22 x0), .int .i32 x1] [] (.tup [.int .u8 r.1, .bool r.2]) [] := by
 refine kFn (fn := Tryz.f80) (fun F hFn hFH hFD => ?_)
 unfold exergueref13_Value at h
 refine kSR ?_
 refine kC 3 [1,2,4,5] ?_
 refine kEN ?_
 obtain ⟨y38, hy39, h40⟩ := bindS h
 refine K.cutX (by kernel_rfl) (fun (s37 : Unit) => ([(4, .int .u8 0), (5, .bool false)], [])) y38 ?_ (fun s37 hs => ?_)
 ·refine kSR ?_
  refine kC 1 [1,2,4,5,6] ?_
  refine kEN ?_
  refine K.block 0 (by kernel_rfl) ?_
  refine K.loop (by kernel_rfl) (fun (s42 : Int) => ([(1, .int .i32 x1), (2, .ptr 0 0), (4, .int .u8 0), (5, .bool false), (6, .int .i64 s42)], [.box (encSt22 x0)])) hy39 [1, 2, 4, 5, 6] (by kernel_rfl) (by kernel_rfl) (fun s42 x66 hs65 => ?_)
  refine kS ?_
  refine kSR ?_
  refine kC 2 [1,2,4,5,6,8] ?_
  refine kEN ?_
  refine J.caseB 8 (b := (decide (s42 < 10))) (by kernel_rfl) (fun hb67 => ?_) (fun hb67 => ?_)
  ·have h68 := condT hb67 hs65
   refine kT ?_
   refine kK ?_
   refine PJ.next ?_
   refine kS ?_
   refine K.block 1 (by kernel_rfl) ?_
   refine kSR ?_
   refine kC 8 [1,2,4,5,6,18] ?_
   refine kEN ?_
   refine J.caseB 18 (b := (decide (((IntKind.wrap .i64 ((IntKind.wrap .i64 x0.Zero_) + s42))) = (IntKind.wrap .i64 x1)))) (by kernel_rfl) (fun hb70 => ?_) (fun hb70 => ?_)
   ·have h71 := condT hb70 h68
    refine kT ?_
    refine kSR ?_
    refine kC 4 [1,2,4,5,6] ?_
    refine kEN ?_
    refine kX ?_
    refine PJ.blockRet ?_
    refine PJ.passRet ?_
    obtain rfl := oi h71
    refine PJ.loopOut (fun e => nomatch e) (fun he75 => ?_)
    have h73 := congrArg some he75
    refine PJ.blockRet ?_
    obtain rfl := oi h73
    have h74 := joinX_inr h40
    refine PJ.cutXr (fun e => nomatch e) ?_
    obtain rfl := oi h74
    exact kZ hFn hFH hFD
   ·have h72 := condF hb70 h68
    refine kF ?_
    refine kK ?_
    refine PJ.blockNormal ?_
    refine PJ.next ?_
    refine kR ?_
    refine kC 3 [1,2,4,5,6] ?_
    refine kE ?_
    obtain rfl := oi h72
    exact PJ.loopNext [1, 2, 4, 5, 6] (by kernel_rfl) (by kernel_rfl)
  ·have h69 := condF hb67 hs65
   refine kF ?_
   refine K.exit 0 (by kernel_rfl) ?_
   refine PJ.passExit ?_
   obtain rfl := oi h69
   refine PJ.loopOut (fun e => nomatch e) (fun he77 => ?_)
   have h76 := congrArg some he77
   refine PJ.blockOut ?_
   obtain rfl := oi h76
   refine PJ.wk (Wk.sel (L2 := [(4, .int .u8 0), (5, .bool false)]) (H2 := []) 0 (by rw [hFH]; rfl) hFD [] (by kernel_rfl) (by kernel_rfl) (by decide) (by kernel_rfl) (by kernel_rfl) (by kernel_rfl) (by kernel_rfl)) ?_
   exact PJ.cutXl [4, 5] (by kernel_rfl) (by kernel_rfl)
 ·subst hs
  have h41 := joinX_inl h40
  refine kSR ?_
  refine kC 2 [4,5] ?_
  refine kEN ?_
  refine kX ?_
  obtain rfl := oi h41
  exact kZ hFn hFH hFD

def exergueref17_figures (x0 : St22) (x1 : List Int) : Option ((List Int) × Bool) :=
 (Option.bind (loopN (fun (s57 : Int × (List Int)) => (bif (decide (s57.1 < (x1.length : Int))) then (bif inR s57.1 x1.length then (Option.bind (exergueref13_Value x0 (nth x1 s57.1)) fun y96 => (bif (!y96.2) then (some (.inr (.inr (([] : List Int), false)))) else (bif room (s57.2.length + ([y96.1] : List Int).length) then (some (.inl ((IntKind.wrap .i64 (s57.1 + 1)), (s57.2 ++ ([y96.1] : List Int))))) else none))) else none) else (some (.inr (.inl s57.2))))) big (0, ([] : List Int))) (joinX fun (s52 : (List Int)) => (some (s52, true))))
theorem exergueref17_figures_ok {x0 : St22} {x1 : List Int} {r : (List Int) × Bool} (h : exergueref17_figures x0 x1 = some r) : SC Tryz.prog 53 [.agg (encSt22 x0), lsv (encI .i32) 1 x1] [] (.tup [lsv (encI .u8) 1 r.1, .bool r.2]) [] := by
 refine kFn (fn := Tryz.f53) (fun F hFn hFH hFD => ?_)
 unfold exergueref17_figures at h
 refine kSR ?_
 refine kC 3 [1,2,4,5] ?_
 refine kEN ?_
 refine kSR ?_
 refine kC 1 [1,2,4,5,6] ?_
 refine kEN ?_
 obtain ⟨y53, hy54, h55⟩ := bindS h
 refine K.cutX (by kernel_rfl) (fun (s52 : (List Int)) => ([(4, .nl), (5, .bool false), (6, .vc 0)], [vecL (encI .u8) 1 5 s52])) y53 ?_ (fun s52 hs => ?_)
 ·refine kSR ?_
  refine kC 1 [1,2,4,5,6,7] ?_
  refine kEN ?_
  refine K.block 0 (by kernel_rfl) ?_
  refine J.wk (Wk.viv 6 1 5 (by kernel_rfl)) ?_
  refine K.loop (by kernel_rfl) (fun (s57 : Int × (List Int)) => ([(1, lsv (encI .i32) 1 x1), (2, .ptr 0 0), (4, .nl), (5, .bool false), (6, .vc 1), (7, .int .i64 s57.1)], [.box (encSt22 x0), vecL (encI .u8) 1 5 s57.2])) hy54 [1, 2, 4, 5, 6, 7] (by kernel_rfl) (by kernel_rfl) (fun s57 x91 hs90 => ?_)
  refine kS ?_
  refine kSR ?_
  refine kC 4 [1,2,4,5,6,7,13] ?_
  refine kEN ?_
  refine J.caseB 13 (b := (decide (s57.1 < (x1.length : Int)))) (by kernel_rfl) (fun hb92 => ?_) (fun hb92 => ?_)
  ·have h93 := condT hb92 hs90
   refine kT ?_
   refine kK ?_
   refine PJ.next ?_
   refine kS ?_
   refine K.block 1 (by kernel_rfl) ?_
   refine kS ?_
   refine J.keep [1, 2, 4, 5, 6, 7] (L2 := [(1, lsv (encI .i32) 1 x1), (2, .ptr 0 0), (4, .nl), (5, .bool false), (6, .vc 1), (7, .int .i64 s57.1)]) (by kernel_rfl) ?_
   refine K.draw (by kernel_rfl) (by kernel_rfl) (by kernel_rfl) (H2 := [.box (encSt22 x0), vecL (encI .u8) 1 5 s57.2, .res]) (by kernel_rfl) (n := 2) (by kernel_rfl) ?_
   refine kD 3 ?_
   obtain ⟨hm, h95⟩ := asrt h93
   refine RJ.rel (d := (some 20)) (ef := ⟨.ep (((x1.flatMap (encI .i32)).drop ((s57.1 : Int).toNat * 1)).take 1), [], []⟩) (ef' := ⟨.ep ((encI .i32) (nth x1 s57.1)), [], []⟩) (c := inR s57.1 x1.length) (tr2 := [([0, 1], []), ([], []), ([], []), ([], [])]) (H2 := [.box (encSt22 x0), vecL (encI .u8) 1 5 s57.2, .res]) (by kernel_rfl) hm (fun hc => N.idx (encI_len .i32) hc) (by kernel_rfl) ?_
   refine kD 1 ?_
   obtain ⟨y96, hy97, h98⟩ := bindS h95
   refine RJ.call0 (d := (some 22)) (f := 80) (args := [.agg (encSt22 x0), .int .i32 (nth x1 s57.1)]) (v := .tup [.int .u8 y96.1, .bool y96.2]) (tr2 := [([0, 1], []), ([], []), ([], []), ([], []), ([], []), ([], [4, 5])]) (by kernel_rfl) (by kernel_rfl) (.cons (Le.refl _) (.cons (Le.refl _) .nil)) (exergueref13_Value_ok hy97) (by kernel_rfl) ?_
   refine RJ.segD 5 (tr2 := [([0, 1], []), ([], []), ([], []), ([], []), ([], []), ([], [4, 5]), ([], []), ([], []), ([], []), ([], []), ([], [])]) (L2 := [(9, .bool y96.2), (8, .int .u8 y96.1), (24, .bool y96.2), (23, .int .u8 y96.1), (16, .tup [.int .u8 y96.1, .bool y96.2]), (22, .tup [.int .u8 y96.1, .bool y96.2]), (21, .int .i32 (nth x1 s57.1)), (20, .ep [.int .i32 (nth x1 s57.1)]), (19, .int .i64 s57.1), (18, lsv (encI .i32) 1 x1), (17, .agg (encSt22 x0)), (1, lsv (encI .i32) 1 x1), (2, .ptr 0 0), (4, .nl), (5, .bool false), (6, .vc 1), (7, .int .i64 s57.1)]) (H2 := [.box (encSt22 x0), vecL (encI .u8) 1 5 s57.2, .res]) (by kernel_rfl) ?_
   refine kEN ?_
   refine kS ?_
   refine kSR ?_
   refine kC 2 [1,2,4,5,6,7,8,26] ?_
   refine kEN ?_
   refine J.caseB 26 (b := (!y96.2)) (by kernel_rfl) (fun hb99 => ?_) (fun hb99 => ?_)
   ·have h100 := condT hb99 h98
    refine kT ?_
    refine kSR ?_
    refine kC 2 [1,2,4,5,6,7,8] ?_
    refine kEN ?_
    refine kX ?_
    refine PJ.passRet ?_
    refine PJ.blockRet ?_
    refine PJ.passRet ?_
    obtain rfl := oi h100
    refine PJ.loopOut (fun e => nomatch e) (fun he104 => ?_)
    have h102 := congrArg some he104
    refine PJ.blockRet ?_
    obtain rfl := oi h102
    have h103 := joinX_inr h55
    refine PJ.cutXr (fun e => nomatch e) ?_
    obtain rfl := oi h103
    refine PJ.res (v1 := .tup [.nl, .bool false]) (Le.tup (.cons (Le.nl _) (.cons (Le.refl _) .nil))) ?_
    exact kZ hFn hFH hFD
   ·have h101 := condF hb99 h98
    refine kF ?_
    refine kK ?_
    refine PJ.next ?_
    refine kR ?_
    refine kC 3 [1,2,4,5,6,7,27,29] ?_
    obtain ⟨hm, h105⟩ := asrt h101
    refine RJ.rel (d := (some 30)) (ef := ⟨.vc 4, [1, 3], [(1, .gone), (4, .vec (s57.2.length + ([y96.1] : List Int).length) 1 5 (s57.2.flatMap (encI .u8) ++ ([y96.1] : List Int).flatMap (encI .u8)))]⟩) (ef' := ⟨.vc 4, [1, 3], [(1, .gone), (4, vecL (encI .u8) 1 5 (s57.2 ++ ([y96.1] : List Int)))]⟩) (c := roomB (s57.2.length + ([y96.1] : List Int).length)) (tr2 := []) (H2 := [.box (encSt22 x0), .gone, .res, vecL (encI .u8) 1 5 ([y96.1] : List Int), vecL (encI .u8) 1 5 (s57.2 ++ ([y96.1] : List Int))]) (by kernel_rfl) (roomB_of_room hm) (fun hc => N.app) (by kernel_rfl) ?_
    refine kC 1 [1,2,4,5,6,7] ?_
    refine kE ?_
    refine PJ.blockNormal ?_
    refine PJ.next ?_
    refine kR ?_
    refine RJ.seg 3 [1, 2, 4, 5, 6, 7] (L2 := [(1, lsv (encI .i32) 1 x1), (2, .ptr 0 0), (4, .nl), (5, .bool false), (6, .vc 4), (7, .int .i64 (IntKind.wrap .i64 (s57.1 + 1)))]) (H2 := [.box (encSt22 x0), .gone, .res, vecL (encI .u8) 1 5 ([y96.1] : List Int), vecL (encI .u8) 1 5 (s57.2 ++ ([y96.1] : List Int))]) (by kernel_rfl) ?_
    refine kE ?_
    obtain rfl := oi h105
    refine PJ.wk (Wk.sel (L2 := [(1, lsv (encI .i32) 1 x1), (2, .ptr 0 0), (4, .nl), (5, .bool false), (6, .vc 1), (7, .int .i64 (IntKind.wrap .i64 (s57.1 + 1)))]) (H2 := [.box (encSt22 x0), vecL (encI .u8) 1 5 (s57.2 ++ ([y96.1] : List Int))]) 0 (by rw [hFH]; rfl) hFD [0, 4] (by kernel_rfl) (by kernel_rfl) (by decide) (by kernel_rfl) (by kernel_rfl) (by kernel_rfl) (by kernel_rfl)) ?_
    exact PJ.loopNext [1, 2, 4, 5, 6, 7] (by kernel_rfl) (by kernel_rfl)
  ·have h94 := condF hb92 hs90
   refine kF ?_
   refine K.exit 0 (by kernel_rfl) ?_
   refine PJ.passExit ?_
   obtain rfl := oi h94
   refine PJ.loopOut (fun e => nomatch e) (fun he107 => ?_)
   have h106 := congrArg some he107
   refine PJ.blockOut ?_
   obtain rfl := oi h106
   refine PJ.wk (Wk.sel (L2 := [(4, .nl), (5, .bool false), (6, .vc 0)]) (H2 := [vecL (encI .u8) 1 5 s57.2]) 0 (by rw [hFH]; rfl) hFD [1] (by kernel_rfl) (by kernel_rfl) (by decide) (by kernel_rfl) (by kernel_rfl) (by kernel_rfl) (by kernel_rfl)) ?_
   exact PJ.cutXl [4, 5, 6] (by kernel_rfl) (by kernel_rfl)
 ·subst hs
  have h56 := joinX_inl h55
  refine kSR ?_
  refine kC 3 [4,5] ?_
  refine kEN ?_
  refine kX ?_
  obtain rfl := oi h56
  refine PJ.wk (Wk.freeze 0 (n := s52.length) (k := 1) (e := 5) (cs := s52.flatMap (encI .u8)) (by kernel_rfl)) ?_
  exact kZ hFn hFH hFD

def exergueref17_exponent (x0 : St22) (x1 : List Int) : Option (Int × Bool) :=
 (Option.bind (Option.bind (bif (decide ((x1.length : Int) > 0)) then (bif inR 0 x1.length then (bif (decide ((nth x1 0) = x0.Minus_)) then (some true) else (bif inR 0 x1.length then (some ((decide ((nth x1 0) = x0.Plus_)))) else none)) else none) else (some false)) fun (s40 : Bool) => (bif s40 then (bif inR 0 x1.length then (bif inS 1 (x1.length : Int) x1.length then (some ((cut x1 1 (x1.length : Int)), (decide ((nth x1 0) = x0.Minus_)))) else none) else none) else (some (x1, false)))) fun (s27 : (List Int) × Bool) => (Option.bind (exergueref17_figures x0 s27.1) fun y58 => (Option.bind (Option.bind (bif (!y58.2) then (some true) else (bif (decide ((y58.1.length : Int) < 1)) then (some true) else (some ((decide ((y58.1.length : Int) > 40)))))) fun (s93 : Bool) => (bif s93 then (some (.inr (0, false))) else (some (.inl ())))) (joinX fun (s82 : Unit) => (Option.bind (loopN (fun (s152 : Int × Int) => (bif (decide (s152.2 < (y58.1.length : Int))) then (bif inR s152.2 y58.1.length then (bif (decide (((IntKind.wrap .i64 ((IntKind.wrap .i64 (s152.1 * 10)) + (IntKind.wrap .i64 (nth y58.1 s152.2))))) > 100000)) then (some (.inr (.inr (0, false)))) else (some (.inl ((IntKind.wrap .i64 ((IntKind.wrap .i64 (s152.1 * 10)) + (IntKind.wrap .i64 (nth y58.1 s152.2)))), (IntKind.wrap .i64 (s152.2 + 1)))))) else none) else (some (.inr (.inl s152.1))))) big (0, 0)) (joinX fun (s147 : Int) => (bif s27.2 then (some ((IntKind.wrap .i64 (0 - s147)), true)) else (some (s147, true)))))))))
theorem exergueref17_exponent_ok {x0 : St22} {x1 : List Int} {r : Int × Bool} (h : exergueref17_exponent x0 x1 = some r) : SC Tryz.prog 51 [.agg (encSt22 x0), lsv (encI .i32) 1 x1] [] (.tup [.int .i64 r.1, .bool r.2]) [] := by
 refine kFn (fn := Tryz.f51) (fun F hFn hFH hFD => ?_)
 unfold exergueref17_exponent at h
 refine kSR ?_
 refine kC 3 [1,2,4,5] ?_
 refine kEN ?_
 refine kSR ?_
 refine kC 1 [1,2,4,5,6] ?_
 refine kEN ?_
 obtain ⟨s27, hy29, h31⟩ := bindS h
 refine K.cutN (by kernel_rfl) (fun (s27 : (List Int) × Bool) => ([(1, lsv (encI .i32) 1 s27.1), (2, .ptr 0 0), (4, .int .i64 0), (5, .bool false), (6, .bool s27.2)], [.box (encSt22 x0)])) s27 ?_ ?_
 ·obtain ⟨s40, hy42, h44⟩ := bindS hy29
  refine K.cutN (by kernel_rfl) (fun (s40 : Bool) => ([(1, lsv (encI .i32) 1 x1), (2, .ptr 0 0), (4, .int .i64 0), (5, .bool false), (6, .bool false), (29, .bool s40)], [.box (encSt22 x0)])) s40 ?_ ?_
  ·refine J.keep [1, 2, 4, 5, 6] (L2 := [(1, lsv (encI .i32) 1 x1), (2, .ptr 0 0), (4, .int .i64 0), (5, .bool false), (6, .bool false)]) (by kernel_rfl) ?_
   refine K.draw (by kernel_rfl) (by kernel_rfl) (by kernel_rfl) (H2 := [.box (encSt22 x0)]) (by kernel_rfl) (n := 1) (by kernel_rfl) ?_
   refine kD 4 ?_
   refine RJ.caseB 14 (b := (decide ((x1.length : Int) > 0))) (by kernel_rfl) (fun hb45 => ?_) (fun hb45 => ?_)
   ·have h46 := condT hb45 hy42
    refine RJ.segD 1 (tr2 := [([], []), ([], []), ([], []), ([], []), ([], [])]) (L2 := [(15, lsv (encI .i32) 1 x1), (14, .bool true), (14, .bool ((decide ((x1.length : Int) > 0)))), (13, .bool ((decide ((x1.length : Int) > 0)))), (12, .int .i64 (x1.length : Int)), (11, lsv (encI .i32) 1 x1), (1, lsv (encI .i32) 1 x1), (2, .ptr 0 0), (4, .int .i64 0), (5, .bool false), (6, .bool false)]) (H2 := [.box (encSt22 x0)]) (by kernel_rfl) ?_
    obtain ⟨hm, h48⟩ := asrt h46
    refine RJ.rel (d := (some 16)) (ef := ⟨.ep (((x1.flatMap (encI .i32)).drop ((0 : Int).toNat * 1)).take 1), [], []⟩) (ef' := ⟨.ep ((encI .i32) (nth x1 0)), [], []⟩) (c := inR 0 x1.length) (tr2 := [([], []), ([], []), ([], []), ([], []), ([], []), ([], [])]) (H2 := [.box (encSt22 x0)]) (by kernel_rfl) hm (fun hc => N.idx (encI_len .i32) hc) (by kernel_rfl) ?_
    refine kD 5 ?_
    refine RJ.caseB 21 (b := (decide ((nth x1 0) = x0.Minus_))) (by kernel_rfl) (fun hb49 => ?_) (fun hb49 => ?_)
    ·have h50 := condT hb49 h48
     refine kD 8 ?_
     refine kE ?_
     obtain rfl := oi h50
     exact kN [1, 2, 4, 5, 6, 29]
    ·have h51 := condF hb49 h48
     refine kD 1 ?_
     obtain ⟨hm, h52⟩ := asrt h51
     refine RJ.rel (d := (some 23)) (ef := ⟨.ep (((x1.flatMap (encI .i32)).drop ((0 : Int).toNat * 1)).take 1), [], []⟩) (ef' := ⟨.ep ((encI .i32) (nth x1 0)), [], []⟩) (c := inR 0 x1.length) (tr2 := [([], []), ([], []), ([], []), ([], []), ([], []), ([], []), ([], []), ([], []), ([0, 1], []), ([], []), ([], []), ([], []), ([], [])]) (H2 := [.box (encSt22 x0)]) (by kernel_rfl) hm (fun hc => N.idx (encI_len .i32) hc) (by kernel_rfl) ?_
     refine kD 6 ?_
     refine kE ?_
     obtain rfl := oi h52
     exact kN [1, 2, 4, 5, 6, 29]
   ·have h47 := condF hb45 hy42
    refine RJ.segD 15 (tr2 := [([], []), ([], []), ([], []), ([], []), ([], []), ([], []), ([], []), ([], []), ([], []), ([], []), ([], []), ([], []), ([], []), ([], []), ([], []), ([], []), ([], []), ([], []), ([], [])]) (L2 := [(29, .bool false), (28, .tup []), (27, .tup []), (26, .tup []), (25, .tup []), (24, .tup []), (23, .tup []), (22, .tup []), (21, .tup []), (20, .tup []), (19, .tup []), (18, .tup []), (17, .tup []), (16, .tup []), (15, .tup []), (14, .bool false), (14, .bool ((decide ((x1.length : Int) > 0)))), (13, .bool ((decide ((x1.length : Int) > 0)))), (12, .int .i64 (x1.length : Int)), (11, lsv (encI .i32) 1 x1), (1, lsv (encI .i32) 1 x1), (2, .ptr 0 0), (4, .int .i64 0), (5, .bool false), (6, .bool false)]) (H2 := [.box (encSt22 x0)]) (by kernel_rfl) ?_
    refine kE ?_
    obtain rfl := oi h47
    exact kN [1, 2, 4, 5, 6, 29]
  ·refine J.caseB 29 (b := s40) (by kernel_rfl) (fun hb53 => ?_) (fun hb53 => ?_)
   ·have h54 := condT hb53 h44
    refine kT ?_
    refine kS ?_
    refine J.keep [1, 2, 4, 5, 6] (L2 := [(1, lsv (encI .i32) 1 x1), (2, .ptr 0 0), (4, .int .i64 0), (5, .bool false), (6, .bool false)]) (by kernel_rfl) ?_
    refine K.draw (by kernel_rfl) (by kernel_rfl) (by kernel_rfl) (H2 := [.box (encSt22 x0)]) (by kernel_rfl) (n := 1) (by kernel_rfl) ?_
    refine kD 1 ?_
    obtain ⟨hm, h56⟩ := asrt h54
    refine RJ.rel (d := (some 31)) (ef := ⟨.ep (((x1.flatMap (encI .i32)).drop ((0 : Int).toNat * 1)).take 1), [], []⟩) (ef' := ⟨.ep ((encI .i32) (nth x1 0)), [], []⟩) (c := inR 0 x1.length) (tr2 := [([], []), ([], [])]) (H2 := [.box (encSt22 x0)]) (by kernel_rfl) hm (fun hc => N.idx (encI_len .i32) hc) (by kernel_rfl) ?_
    refine kD 5 ?_
    refine kEN ?_
    refine kR ?_
    refine kC 1 [1,2,4,5,6,36] ?_
    obtain ⟨hm, h57⟩ := asrt h56
    refine RJ.rel (d := (some 37)) (ef := ⟨.lst (((x1.length : Int) : Int).toNat - (1 : Int).toNat) 1 (((x1.flatMap (encI .i32)).take (((x1.length : Int) : Int).toNat * 1)).drop ((1 : Int).toNat * 1)), [], []⟩) (ef' := ⟨.lst (cut x1 1 (x1.length : Int)).length 1 ((cut x1 1 (x1.length : Int)).flatMap (encI .i32)), [], []⟩) (c := inS 1 (x1.length : Int) x1.length) (tr2 := []) (H2 := [.box (encSt22 x0)]) (by kernel_rfl) hm (fun hc => N.slice (encI_len .i32) hc) (by kernel_rfl) ?_
    refine RJ.seg 1 [1, 2, 4, 5, 6] (L2 := [(1, lsv (encI .i32) 1 (cut x1 1 (x1.length : Int))), (2, .ptr 0 0), (4, .int .i64 0), (5, .bool false), (6, .bool ((decide ((nth x1 0) = x0.Minus_))))]) (H2 := [.box (encSt22 x0)]) (by kernel_rfl) ?_
    refine kE ?_
    obtain rfl := oi h57
    exact kN [1, 2, 4, 5, 6]
   ·have h55 := condF hb53 h44
    refine kF ?_
    refine kK ?_
    obtain rfl := oi h55
    exact kN [1, 2, 4, 5, 6]
 ·refine kSR ?_
  refine kC 2 [4,5,6,39,40] ?_
  obtain ⟨y58, hy59, h60⟩ := bindS h31
  refine RJ.call0 (d := (some 41)) (f := 53) (args := [.agg (encSt22 x0), lsv (encI .i32) 1 s27.1]) (v := .tup [lsv (encI .u8) 1 y58.1, .bool y58.2]) (tr2 := []) (by kernel_rfl) (by kernel_rfl) (.cons (Le.refl _) (.cons (Le.refl _) .nil)) (exergueref17_figures_ok hy59) (by kernel_rfl) ?_
  refine kC 5 [4,5,6,7,8] ?_
  refine kEN ?_
  obtain ⟨y83, hy84, h85⟩ := bindS h60
  refine K.cutX (by kernel_rfl) (fun (s82 : Unit) => ([(4, .int .i64 0), (5, .bool false), (6, .bool s27.2), (7, lsv (encI .u8) 1 y58.1)], [])) y83 ?_ (fun s82 hs => ?_)
  ·obtain ⟨s93, hy95, h97⟩ := bindS hy84
   refine K.cutN (by kernel_rfl) (fun (s93 : Bool) => ([(4, .int .i64 0), (5, .bool false), (6, .bool s27.2), (7, lsv (encI .u8) 1 y58.1), (55, .bool s93)], [])) s93 ?_ ?_
   ·refine kR ?_
    refine kC 3 [4,5,6,7,46] ?_
    refine RJ.caseB 46 (b := (!y58.2)) (by kernel_rfl) (fun hb98 => ?_) (fun hb98 => ?_)
    ·have h99 := condT hb98 hy95
     refine RJ.seg 9 [4, 5, 6, 7, 55] (L2 := [(4, .int .i64 0), (5, .bool false), (6, .bool s27.2), (7, lsv (encI .u8) 1 y58.1), (55, .bool true)]) (H2 := [.box (encSt22 x0)]) (by kernel_rfl) ?_
     refine kE ?_
     obtain rfl := oi h99
     refine PJ.wk (Wk.sel (L2 := [(4, .int .i64 0), (5, .bool false), (6, .bool s27.2), (7, lsv (encI .u8) 1 y58.1), (55, .bool true)]) (H2 := []) 0 (by rw [hFH]; rfl) hFD [] (by kernel_rfl) (by kernel_rfl) (by decide) (by kernel_rfl) (by kernel_rfl) (by kernel_rfl) (by kernel_rfl)) ?_
     exact kN [4, 5, 6, 7, 55]
    ·have h100 := condF hb98 hy95
     refine RJ.seg 5 [4, 5, 6, 7, 51] (L2 := [(4, .int .i64 0), (5, .bool false), (6, .bool s27.2), (7, lsv (encI .u8) 1 y58.1), (51, .bool ((decide ((y58.1.length : Int) < 1))))]) (H2 := [.box (encSt22 x0)]) (by kernel_rfl) ?_
     refine RJ.caseB 51 (b := (decide ((y58.1.length : Int) < 1))) (by kernel_rfl) (fun hb101 => ?_) (fun hb101 => ?_)
     ·have h102 := condT hb101 h100
      refine kC 4 [4,5,6,7,55] ?_
      refine kE ?_
      obtain rfl := oi h102
      refine PJ.wk (Wk.sel (L2 := [(4, .int .i64 0), (5, .bool false), (6, .bool s27.2), (7, lsv (encI .u8) 1 y58.1), (55, .bool true)]) (H2 := []) 0 (by rw [hFH]; rfl) hFD [] (by kernel_rfl) (by kernel_rfl) (by decide) (by kernel_rfl) (by kernel_rfl) (by kernel_rfl) (by kernel_rfl)) ?_
      exact kN [4, 5, 6, 7, 55]
     ·have h103 := condF hb101 h100
      refine kC 4 [4,5,6,7,55] ?_
      refine kE ?_
      obtain rfl := oi h103
      refine PJ.wk (Wk.sel (L2 := [(4, .int .i64 0), (5, .bool false), (6, .bool s27.2), (7, lsv (encI .u8) 1 y58.1), (55, .bool ((decide ((y58.1.length : Int) > 40))))]) (H2 := []) 0 (by rw [hFH]; rfl) hFD [] (by kernel_rfl) (by kernel_rfl) (by decide) (by kernel_rfl) (by kernel_rfl) (by kernel_rfl) (by kernel_rfl)) ?_
      exact kN [4, 5, 6, 7, 55]
   ·refine J.caseB 55 (b := s93) (by kernel_rfl) (fun hb104 => ?_) (fun hb104 => ?_)
    ·have h105 := condT hb104 h97
     refine kT ?_
     refine kSR ?_
     refine kC 2 [4,5,6,7] ?_
     refine kEN ?_
     refine kX ?_
     obtain rfl := oi h105
     have h107 := joinX_inr h85
     refine PJ.cutXr (fun e => nomatch e) ?_
     obtain rfl := oi h107
     exact kZ hFn hFH hFD
    ·have h106 := condF hb104 h97
     refine kF ?_
     refine kK ?_
     obtain rfl := oi h106
     exact PJ.cutXl [4, 5, 6, 7] (by kernel_rfl) (by kernel_rfl)
  ·subst hs
   have h86 := joinX_inl h85
   refine kSR ?_
   refine kC 1 [4,5,6,7,9] ?_
   refine kEN ?_
   obtain ⟨y148, hy149, h150⟩ := bindS h86
   refine K.cutX (by kernel_rfl) (fun (s147 : Int) => ([(4, .int .i64 0), (5, .bool false), (6, .bool s27.2), (9, .int .i64 s147)], [])) y148 ?_ (fun s147 hs => ?_)
   ·refine kSR ?_
    refine kC 1 [4,5,6,7,9,10] ?_
    refine kEN ?_
    refine K.block 0 (by kernel_rfl) ?_
    refine K.loop (by kernel_rfl) (fun (s152 : Int × Int) => ([(4, .int .i64 0), (5, .bool false), (6, .bool s27.2), (7, lsv (encI .u8) 1 y58.1), (9, .int .i64 s152.1), (10, .int .i64 s152.2)], [])) hy149 [4, 5, 6, 7, 9, 10] (by kernel_rfl) (by kernel_rfl) (fun s152 x178 hs177 => ?_)
    refine kS ?_
    refine kSR ?_
    refine kC 4 [4,5,6,7,9,10,59] ?_
    refine kEN ?_
    refine J.caseB 59 (b := (decide (s152.2 < (y58.1.length : Int)))) (by kernel_rfl) (fun hb179 => ?_) (fun hb179 => ?_)
    ·have h180 := condT hb179 hs177
     refine kT ?_
     refine kK ?_
     refine PJ.next ?_
     refine kS ?_
     refine K.block 1 (by kernel_rfl) ?_
     refine kSR ?_
     refine kC 4 [4,5,6,7,9,10,63,64,65] ?_
     obtain ⟨hm, h182⟩ := asrt h180
     refine RJ.rel (d := (some 66)) (ef := ⟨.ep (((y58.1.flatMap (encI .u8)).drop ((s152.2 : Int).toNat * 1)).take 1), [], []⟩) (ef' := ⟨.ep ((encI .u8) (nth y58.1 s152.2)), [], []⟩) (c := inR s152.2 y58.1.length) (tr2 := []) (H2 := []) (by kernel_rfl) hm (fun hc => N.idx (encI_len .u8) hc) (by kernel_rfl) ?_
     refine kC 4 [4,5,6,7,9,10] ?_
     refine kEN ?_
     refine kSR ?_
     refine RJ.seg 2 [4, 5, 6, 7, 9, 10, 71] (L2 := [(4, .int .i64 0), (5, .bool false), (6, .bool s27.2), (7, lsv (encI .u8) 1 y58.1), (9, .int .i64 ((IntKind.wrap .i64 ((IntKind.wrap .i64 (s152.1 * 10)) + (IntKind.wrap .i64 (nth y58.1 s152.2)))))), (10, .int .i64 s152.2), (71, .bool ((decide (((IntKind.wrap .i64 ((IntKind.wrap .i64 (s152.1 * 10)) + (IntKind.wrap .i64 (nth y58.1 s152.2))))) > 100000))))]) (H2 := []) (by kernel_rfl) ?_
     refine kEN ?_
     refine J.caseB 71 (b := (decide (((IntKind.wrap .i64 ((IntKind.wrap .i64 (s152.1 * 10)) + (IntKind.wrap .i64 (nth y58.1 s152.2))))) > 100000))) (by kernel_rfl) (fun hb183 => ?_) (fun hb183 => ?_)
     ·have h184 := condT hb183 h182
      refine kT ?_
      refine kSR ?_
      refine kC 2 [4,5,6,7,9,10] ?_
      refine kEN ?_
      refine kX ?_
      refine PJ.blockRet ?_
      refine PJ.passRet ?_
      obtain rfl := oi h184
      refine PJ.loopOut (fun e => nomatch e) (fun he188 => ?_)
      have h186 := congrArg some he188
      refine PJ.blockRet ?_
      obtain rfl := oi h186
      have h187 := joinX_inr h150
      refine PJ.cutXr (fun e => nomatch e) ?_
      obtain rfl := oi h187
      exact kZ hFn hFH hFD
     ·have h185 := condF hb183 h182
      refine kF ?_
      refine kK ?_
      refine PJ.blockNormal ?_
      refine PJ.next ?_
      refine kR ?_
      refine kC 3 [4,5,6,7,9,10] ?_
      refine kE ?_
      obtain rfl := oi h185
      exact PJ.loopNext [4, 5, 6, 7, 9, 10] (by kernel_rfl) (by kernel_rfl)
    ·have h181 := condF hb179 hs177
     refine kF ?_
     refine K.exit 0 (by kernel_rfl) ?_
     refine PJ.passExit ?_
     obtain rfl := oi h181
     refine PJ.loopOut (fun e => nomatch e) (fun he190 => ?_)
     have h189 := congrArg some he190
     refine PJ.blockOut ?_
     obtain rfl := oi h189
     exact PJ.cutXl [4, 5, 6, 9] (by kernel_rfl) (by kernel_rfl)
   ·subst hs
    have h151 := joinX_inl h150
    refine kS ?_
    refine kSR ?_
    refine kC 1 [4,5,9,72] ?_
    refine kEN ?_
    refine J.caseB 72 (b := s27.2) (by kernel_rfl) (fun hb191 => ?_) (fun hb191 => ?_)
    ·have h192 := condT hb191 h151
     refine kT ?_
     refine kSR ?_
     refine kC 4 [4,5,9] ?_
     refine kEN ?_
     refine kX ?_
     refine PJ.passRet ?_
     obtain rfl := oi h192
     exact kZ hFn hFH hFD
    ·have h193 := condF hb191 h151
     refine kF ?_
     refine kK ?_
     refine PJ.next ?_
     refine kSR ?_
     refine kC 3 [4,5] ?_
     refine kEN ?_
     refine kX ?_
     obtain rfl := oi h193
     exact kZ hFn hFH hFD

def exergueref13_Grouped (x0 : St22) (x1 : List Int) (x2 : Int) (x3 : Int) : Option (List Int) :=
 (Option.bind (loopN (fun (s261 : Int × Int × Int × (List Int)) => (bif (decide (s261.2.2.1 ≥ 0)) then (Option.bind (Option.bind (Option.bind (bif (decide (s261.2.1 > 0)) then (some (decide (s261.1 = s261.2.1))) else (some false)) fun (s500 : Bool) => (bif s500 then (bif room (([x0.Group_] : List Int).length + s261.2.2.2.length) then (some (0, x3, (([x0.Group_] : List Int) ++ s261.2.2.2))) else none) else (some (s261.1, s261.2.1, s261.2.2.2)))) fun (s492 : Int × Int × (List Int)) => (bif inR s261.2.2.1 x1.length then (bif room ((([(IntKind.wrap .i32 ((IntKind.wrap .i64 ((IntKind.wrap .i64 x0.Zero_) + (IntKind.wrap .i64 (nth x1 s261.2.2.1))))))] : List Int)).length + s492.2.2.length) then (some ((IntKind.wrap .i64 (s492.1 + 1)), s492.2.1, ((([(IntKind.wrap .i32 ((IntKind.wrap .i64 ((IntKind.wrap .i64 x0.Zero_) + (IntKind.wrap .i64 (nth x1 s261.2.2.1))))))] : List Int)) ++ s492.2.2))) else none) else none)) fun (s472 : Int × Int × (List Int)) => (some (.inl (s472.1, s472.2.1, (IntKind.wrap .i64 (s261.2.2.1 - 1)), s472.2.2)))) else (some (.inr s261.2.2.2)))) big (0, x2, (IntKind.wrap .i64 ((x1.length : Int) - 1)), ([] : List Int))) fun (s256 : (List Int)) => (some s256))
theorem exergueref13_Grouped_ok {x0 : St22} {x1 : List Int} {x2 : Int} {x3 : Int} {r : List Int} (h : exergueref13_Grouped x0 x1 x2 x3 = some r) : SC Tryz.prog 43 [.agg (encSt22 x0), lsv (encI .u8) 1 x1, .int .i64 x2, .int .i64 x3] [] (lsv (encI .i32) 1 r) [] := by
 refine kFn (fn := Tryz.f43) (fun F hFn hFH hFD => ?_)
 unfold exergueref13_Grouped at h
 refine kSR ?_
 refine kC 2 [1,2,3,4,8] ?_
 refine kEN ?_
 refine kSR ?_
 refine kC 1 [1,2,3,4,8,9] ?_
 refine kEN ?_
 refine kSR ?_
 refine kC 1 [1,2,3,4,8,9,10] ?_
 refine kEN ?_
 refine kSR ?_
 refine RJ.seg 2 [1, 3, 4, 8, 9, 10, 11] (L2 := [(1, lsv (encI .u8) 1 x1), (3, .int .i64 x3), (4, .ptr 0 0), (8, .nl), (9, .nl), (10, .int .i64 0), (11, .int .i64 x2)]) (H2 := [.box (encSt22 x0)]) (by kernel_rfl) ?_
 refine kEN ?_
 obtain ⟨s256, hy258, h260⟩ := bindS h
 refine K.cutN (by kernel_rfl) (fun (s256 : (List Int)) => ([(8, .nl), (9, .vc 0)], [vecL (encI .i32) 1 21 s256])) s256 ?_ ?_
 ·refine kSR ?_
  refine kC 4 [1,3,4,8,9,10,11,12] ?_
  refine kEN ?_
  refine K.block 0 (by kernel_rfl) ?_
  refine J.wk (Wk.viv 9 1 21 (by kernel_rfl)) ?_
  refine K.loop (by kernel_rfl) (fun (s261 : Int × Int × Int × (List Int)) => ([(1, lsv (encI .u8) 1 x1), (3, .int .i64 x3), (4, .ptr 0 0), (8, .nl), (9, .vc 1), (10, .int .i64 s261.1), (11, .int .i64 s261.2.1), (12, .int .i64 s261.2.2.1)], [.box (encSt22 x0), vecL (encI .i32) 1 21 s261.2.2.2])) hy258 [1, 3, 4, 8, 9, 10, 11, 12] (by kernel_rfl) (by kernel_rfl) (fun s261 x431 hs430 => ?_)
  refine kS ?_
  refine kSR ?_
  refine kC 2 [1,3,4,8,9,10,11,12,18] ?_
  refine kEN ?_
  refine J.caseB 18 (b := (decide (s261.2.2.1 ≥ 0))) (by kernel_rfl) (fun hb432 => ?_) (fun hb432 => ?_)
  ·have h433 := condT hb432 hs430
   refine kT ?_
   refine kK ?_
   refine PJ.next ?_
   obtain ⟨s472, hy474, h476⟩ := bindS h433
   refine K.cutN (by kernel_rfl) (fun (s472 : Int × Int × (List Int)) => ([(1, lsv (encI .u8) 1 x1), (3, .int .i64 x3), (4, .ptr 0 0), (8, .nl), (9, .vc 1), (10, .int .i64 s472.1), (11, .int .i64 s472.2.1), (12, .int .i64 s261.2.2.1)], [.box (encSt22 x0), vecL (encI .i32) 1 21 s472.2.2])) s472 ?_ ?_
   ·refine K.block 1 (by kernel_rfl) ?_
    obtain ⟨s492, hy494, h496⟩ := bindS hy474
    refine K.cutN (by kernel_rfl) (fun (s492 : Int × Int × (List Int)) => ([(1, lsv (encI .u8) 1 x1), (3, .int .i64 x3), (4, .ptr 0 0), (8, .nl), (9, .vc 1), (10, .int .i64 s492.1), (11, .int .i64 s492.2.1), (12, .int .i64 s261.2.2.1)], [.box (encSt22 x0), vecL (encI .i32) 1 21 s492.2.2])) s492 ?_ ?_
    ·obtain ⟨s500, hy502, h504⟩ := bindS hy494
     refine K.cutN (by kernel_rfl) (fun (s500 : Bool) => ([(1, lsv (encI .u8) 1 x1), (3, .int .i64 x3), (4, .ptr 0 0), (8, .nl), (9, .vc 1), (10, .int .i64 s261.1), (11, .int .i64 s261.2.1), (12, .int .i64 s261.2.2.1), (27, .bool s500)], [.box (encSt22 x0), vecL (encI .i32) 1 21 s261.2.2.2])) s500 ?_ ?_
     ·refine kR ?_
      refine kC 3 [1,3,4,8,9,10,11,12,23] ?_
      refine RJ.caseB 23 (b := (decide (s261.2.1 > 0))) (by kernel_rfl) (fun hb505 => ?_) (fun hb505 => ?_)
      ·have h506 := condT hb505 hy502
       refine kC 4 [1,3,4,8,9,10,11,12,27] ?_
       refine kE ?_
       obtain rfl := oi h506
       exact kN [1, 3, 4, 8, 9, 10, 11, 12, 27]
      ·have h507 := condF hb505 hy502
       refine kC 4 [1,3,4,8,9,10,11,12,27] ?_
       refine kE ?_
       obtain rfl := oi h507
       exact kN [1, 3, 4, 8, 9, 10, 11, 12, 27]
     ·refine J.caseB 27 (b := s500) (by kernel_rfl) (fun hb508 => ?_) (fun hb508 => ?_)
      ·have h509 := condT hb508 h504
       refine kT ?_
       refine kSR ?_
       refine kC 4 [1,3,4,8,9,10,11,12,30,31] ?_
       obtain ⟨hm, h511⟩ := asrt h509
       refine RJ.rel (d := (some 32)) (ef := ⟨.vc 3, [2, 1], [(2, .gone), (3, .vec (([x0.Group_] : List Int).length + s261.2.2.2.length) 1 21 (([x0.Group_] : List Int).flatMap (encI .i32) ++ s261.2.2.2.flatMap (encI .i32)))]⟩) (ef' := ⟨.vc 3, [2, 1], [(2, .gone), (3, vecL (encI .i32) 1 21 (([x0.Group_] : List Int) ++ s261.2.2.2))]⟩) (c := room (([x0.Group_] : List Int).length + s261.2.2.2.length)) (tr2 := []) (H2 := [.box (encSt22 x0), vecL (encI .i32) 1 21 s261.2.2.2, .gone, vecL (encI .i32) 1 21 (([x0.Group_] : List Int) ++ s261.2.2.2)]) (by kernel_rfl) hm (fun hc => N.app) (by kernel_rfl) ?_
       refine kC 1 [1,3,4,8,9,10,11,12] ?_
       refine kEN ?_
       refine kSR ?_
       refine kC 1 [1,3,4,8,9,10,11,12] ?_
       refine kEN ?_
       refine kR ?_
       refine RJ.seg 2 [1, 3, 4, 8, 9, 10, 11, 12] (L2 := [(1, lsv (encI .u8) 1 x1), (3, .int .i64 x3), (4, .ptr 0 0), (8, .nl), (9, .vc 3), (10, .int .i64 0), (11, .int .i64 x3), (12, .int .i64 s261.2.2.1)]) (H2 := [.box (encSt22 x0), vecL (encI .i32) 1 21 s261.2.2.2, .gone, vecL (encI .i32) 1 21 (([x0.Group_] : List Int) ++ s261.2.2.2)]) (by kernel_rfl) ?_
       refine kE ?_
       obtain rfl := oi h511
       refine PJ.wk (Wk.sel (L2 := [(1, lsv (encI .u8) 1 x1), (3, .int .i64 x3), (4, .ptr 0 0), (8, .nl), (9, .vc 1), (10, .int .i64 0), (11, .int .i64 x3), (12, .int .i64 s261.2.2.1)]) (H2 := [.box (encSt22 x0), vecL (encI .i32) 1 21 (([x0.Group_] : List Int) ++ s261.2.2.2)]) 0 (by rw [hFH]; rfl) hFD [0, 3] (by kernel_rfl) (by kernel_rfl) (by decide) (by kernel_rfl) (by kernel_rfl) (by kernel_rfl) (by kernel_rfl)) ?_
       exact kN [1, 3, 4, 8, 9, 10, 11, 12]
      ·have h510 := condF hb508 h504
       refine kF ?_
       refine kK ?_
       obtain rfl := oi h510
       exact kN [1, 3, 4, 8, 9, 10, 11, 12]
    ·refine kS ?_
     refine J.keep [1, 3, 4, 8, 9, 10, 11, 12] (L2 := [(1, lsv (encI .u8) 1 x1), (3, .int .i64 x3), (4, .ptr 0 0), (8, .nl), (9, .vc 1), (10, .int .i64 s492.1), (11, .int .i64 s492.2.1), (12, .int .i64 s261.2.2.1)]) (by kernel_rfl) ?_
     refine K.draw (by kernel_rfl) (by kernel_rfl) (by kernel_rfl) (H2 := [.box (encSt22 x0), vecL (encI .i32) 1 21 s492.2.2, .res, .res]) (by kernel_rfl) (n := 2) (by kernel_rfl) ?_
     refine kD 5 ?_
     obtain ⟨hm, h512⟩ := asrt h496
     refine RJ.rel (d := (some 39)) (ef := ⟨.ep (((x1.flatMap (encI .u8)).drop ((s261.2.2.1 : Int).toNat * 1)).take 1), [], []⟩) (ef' := ⟨.ep ((encI .u8) (nth x1 s261.2.2.1)), [], []⟩) (c := inR s261.2.2.1 x1.length) (tr2 := [([], []), ([0, 1], []), ([], []), ([], []), ([], []), ([], [])]) (H2 := [.box (encSt22 x0), vecL (encI .i32) 1 21 s492.2.2, .res, .res]) (by kernel_rfl) hm (fun hc => N.idx (encI_len .u8) hc) (by kernel_rfl) ?_
     refine kD 6 ?_
     obtain ⟨hm, h513⟩ := asrt h512
     refine RJ.rel (d := (some 46)) (ef := ⟨.vc 3, [2, 1], [(2, .gone), (3, .vec ((([(IntKind.wrap .i32 ((IntKind.wrap .i64 ((IntKind.wrap .i64 x0.Zero_) + (IntKind.wrap .i64 (nth x1 s261.2.2.1))))))] : List Int)).length + s492.2.2.length) 1 21 ((([(IntKind.wrap .i32 ((IntKind.wrap .i64 ((IntKind.wrap .i64 x0.Zero_) + (IntKind.wrap .i64 (nth x1 s261.2.2.1))))))] : List Int)).flatMap (encI .i32) ++ s492.2.2.flatMap (encI .i32)))]⟩) (ef' := ⟨.vc 3, [2, 1], [(2, .gone), (3, vecL (encI .i32) 1 21 ((([(IntKind.wrap .i32 ((IntKind.wrap .i64 ((IntKind.wrap .i64 x0.Zero_) + (IntKind.wrap .i64 (nth x1 s261.2.2.1))))))] : List Int)) ++ s492.2.2))]⟩) (c := room ((([(IntKind.wrap .i32 ((IntKind.wrap .i64 ((IntKind.wrap .i64 x0.Zero_) + (IntKind.wrap .i64 (nth x1 s261.2.2.1))))))] : List Int)).length + s492.2.2.length)) (tr2 := [([], []), ([0, 1], []), ([], []), ([], []), ([], []), ([], []), ([], []), ([], []), ([], []), ([], []), ([], [4, 5, 4, 5]), ([], []), ([4, 5, 2, 3], [4, 5, 6, 7, 6, 7])]) (H2 := [.box (encSt22 x0), vecL (encI .i32) 1 21 s492.2.2, .gone, vecL (encI .i32) 1 21 (((([(IntKind.wrap .i32 ((IntKind.wrap .i64 ((IntKind.wrap .i64 x0.Zero_) + (IntKind.wrap .i64 (nth x1 s261.2.2.1))))))] : List Int)) ++ s492.2.2))]) (by kernel_rfl) hm (fun hc => N.app) (by kernel_rfl) ?_
     refine kD 1 ?_
     refine kEN ?_
     refine kR ?_
     refine RJ.seg 3 [1, 3, 4, 8, 9, 10, 11, 12] (L2 := [(1, lsv (encI .u8) 1 x1), (3, .int .i64 x3), (4, .ptr 0 0), (8, .nl), (9, .vc 3), (10, .int .i64 (IntKind.wrap .i64 (s492.1 + 1))), (11, .int .i64 s492.2.1), (12, .int .i64 s261.2.2.1)]) (H2 := [.box (encSt22 x0), vecL (encI .i32) 1 21 s492.2.2, .gone, vecL (encI .i32) 1 21 (((([(IntKind.wrap .i32 ((IntKind.wrap .i64 ((IntKind.wrap .i64 x0.Zero_) + (IntKind.wrap .i64 (nth x1 s261.2.2.1))))))] : List Int)) ++ s492.2.2))]) (by kernel_rfl) ?_
     refine kE ?_
     refine PJ.blockNormal ?_
     obtain rfl := oi h513
     refine PJ.wk (Wk.sel (L2 := [(1, lsv (encI .u8) 1 x1), (3, .int .i64 x3), (4, .ptr 0 0), (8, .nl), (9, .vc 1), (10, .int .i64 (IntKind.wrap .i64 (s492.1 + 1))), (11, .int .i64 s492.2.1), (12, .int .i64 s261.2.2.1)]) (H2 := [.box (encSt22 x0), vecL (encI .i32) 1 21 (((([(IntKind.wrap .i32 ((IntKind.wrap .i64 ((IntKind.wrap .i64 x0.Zero_) + (IntKind.wrap .i64 (nth x1 s261.2.2.1))))))] : List Int)) ++ s492.2.2))]) 0 (by rw [hFH]; rfl) hFD [0, 3] (by kernel_rfl) (by kernel_rfl) (by decide) (by kernel_rfl) (by kernel_rfl) (by kernel_rfl) (by kernel_rfl)) ?_
     exact kN [1, 3, 4, 8, 9, 10, 11, 12]
   ·refine kR ?_
    refine kC 3 [1,3,4,8,9,10,11,12] ?_
    refine kE ?_
    obtain rfl := oi h476
    exact PJ.loopNext [1, 3, 4, 8, 9, 10, 11, 12] (by kernel_rfl) (by kernel_rfl)
  ·have h434 := condF hb432 hs430
   refine kF ?_
   refine K.exit 0 (by kernel_rfl) ?_
   refine PJ.passExit ?_
   obtain rfl := oi h434
   refine PJ.loopOut (fun e => nomatch e) (fun he515 => ?_)
   have h514 := congrArg some he515
   refine PJ.blockOut ?_
   obtain rfl := oi h514
   refine PJ.wk (Wk.sel (L2 := [(8, .nl), (9, .vc 0)]) (H2 := [vecL (encI .i32) 1 21 s261.2.2.2]) 0 (by rw [hFH]; rfl) hFD [1] (by kernel_rfl) (by kernel_rfl) (by decide) (by kernel_rfl) (by kernel_rfl) (by kernel_rfl) (by kernel_rfl)) ?_
   exact kN [8, 9]
 ·refine kSR ?_
  refine kC 2 [8] ?_
  refine kEN ?_
  refine kX ?_
  obtain rfl := oi h260
  refine PJ.wk (Wk.freeze 0 (n := s256.length) (k := 1) (e := 21) (cs := s256.flatMap (encI .i32)) (by kernel_rfl)) ?_
  exact kZ hFn hFH hFD

def exergueref01_Same (x0 : List Int) (x1 : List Int) : Option (Bool) :=
 (bif (decide (¬ (x0.length : Int) = (x1.length : Int))) then (some false) else (Option.bind (loopN (fun (s51 : Int) => (bif (decide (s51 < (x0.length : Int))) then (bif inR s51 x0.length then (bif inR s51 x1.length then (bif (decide (¬ (nth x0 s51) = (nth x1 s51))) then (some (.inr (.inr false))) else (some (.inl (IntKind.wrap .i64 (s51 + 1))))) else none) else none) else (some (.inr (.inl ()))))) big 0) (joinX fun (s46 : Unit) => (some true))))
theorem exergueref01_Same_ok {x0 : List Int} {x1 : List Int} {r : Bool} (h : exergueref01_Same x0 x1 = some r) : SC Tryz.prog 15 [lsv (encI .i32) 1 x0, lsv (encI .i32) 1 x1] [] (.bool r) [] := by
 refine kFn (fn := Tryz.f15) (fun F hFn hFH hFD => ?_)
 unfold exergueref01_Same at h
 refine kSR ?_
 refine kC 1 [0,1,4] ?_
 refine kEN ?_
 refine kS ?_
 refine kSR ?_
 refine kC 5 [0,1,4,10] ?_
 refine kEN ?_
 refine J.caseB 10 (b := (decide (¬ (x0.length : Int) = (x1.length : Int)))) (by kernel_rfl) (fun hb1 => ?_) (fun hb1 => ?_)
 ·have h2 := condT hb1 h
  refine kT ?_
  refine kSR ?_
  refine kC 1 [0,1,4] ?_
  refine kEN ?_
  refine kX ?_
  refine PJ.passRet ?_
  obtain rfl := oi h2
  exact kZ hFn hFH hFD
 ·have h3 := condF hb1 h
  refine kF ?_
  refine kK ?_
  refine PJ.next ?_
  obtain ⟨y47, hy48, h49⟩ := bindS h3
  refine K.cutX (by kernel_rfl) (fun (s46 : Unit) => ([(4, .bool false)], [])) y47 ?_ (fun s46 hs => ?_)
  ·refine kSR ?_
   refine kC 1 [0,1,4,5] ?_
   refine kEN ?_
   refine K.block 0 (by kernel_rfl) ?_
   refine K.loop (by kernel_rfl) (fun (s51 : Int) => ([(0, lsv (encI .i32) 1 x0), (1, lsv (encI .i32) 1 x1), (4, .bool false), (5, .int .i64 s51)], [])) hy48 [0, 1, 4, 5] (by kernel_rfl) (by kernel_rfl) (fun s51 x79 hs78 => ?_)
   refine kS ?_
   refine kSR ?_
   refine kC 4 [0,1,4,5,14] ?_
   refine kEN ?_
   refine J.caseB 14 (b := (decide (s51 < (x0.length : Int)))) (by kernel_rfl) (fun hb80 => ?_) (fun hb80 => ?_)
   ·have h81 := condT hb80 hs78
    refine kT ?_
    refine kK ?_
    refine PJ.next ?_
    refine kS ?_
    refine K.block 1 (by kernel_rfl) ?_
    refine kS ?_
    refine J.keep [0, 1, 4, 5] (L2 := [(0, lsv (encI .i32) 1 x0), (1, lsv (encI .i32) 1 x1), (4, .bool false), (5, .int .i64 s51)]) (by kernel_rfl) ?_
    refine K.draw (by kernel_rfl) (by kernel_rfl) (by kernel_rfl) (H2 := []) (by kernel_rfl) (n := 0) (by kernel_rfl) ?_
    refine kD 2 ?_
    obtain ⟨hm, h83⟩ := asrt h81
    refine RJ.rel (d := (some 19)) (ef := ⟨.ep (((x0.flatMap (encI .i32)).drop ((s51 : Int).toNat * 1)).take 1), [], []⟩) (ef' := ⟨.ep ((encI .i32) (nth x0 s51)), [], []⟩) (c := inR s51 x0.length) (tr2 := [([], []), ([], []), ([], [])]) (H2 := []) (by kernel_rfl) hm (fun hc => N.idx (encI_len .i32) hc) (by kernel_rfl) ?_
    refine kD 3 ?_
    obtain ⟨hm, h84⟩ := asrt h83
    refine RJ.rel (d := (some 23)) (ef := ⟨.ep (((x1.flatMap (encI .i32)).drop ((s51 : Int).toNat * 1)).take 1), [], []⟩) (ef' := ⟨.ep ((encI .i32) (nth x1 s51)), [], []⟩) (c := inR s51 x1.length) (tr2 := [([], []), ([], []), ([], []), ([], []), ([], []), ([], []), ([], [])]) (H2 := []) (by kernel_rfl) hm (fun hc => N.idx (encI_len .i32) hc) (by kernel_rfl) ?_
    refine RJ.segD 2 (tr2 := [([], []), ([], []), ([], []), ([], []), ([], []), ([], []), ([], []), ([], []), ([], [])]) (L2 := [(25, .bool ((decide (¬ (nth x0 s51) = (nth x1 s51))))), (24, .int .i32 (nth x1 s51)), (23, .ep [.int .i32 (nth x1 s51)]), (22, .int .i64 s51), (21, lsv (encI .i32) 1 x1), (20, .int .i32 (nth x0 s51)), (19, .ep [.int .i32 (nth x0 s51)]), (18, .int .i64 s51), (17, lsv (encI .i32) 1 x0), (0, lsv (encI .i32) 1 x0), (1, lsv (encI .i32) 1 x1), (4, .bool false), (5, .int .i64 s51)]) (H2 := []) (by kernel_rfl) ?_
    refine kEN ?_
    refine J.caseB 25 (b := (decide (¬ (nth x0 s51) = (nth x1 s51)))) (by kernel_rfl) (fun hb85 => ?_) (fun hb85 => ?_)
    ·have h86 := condT hb85 h84
     refine kT ?_
     refine kSR ?_
     refine kC 1 [0,1,4,5] ?_
     refine kEN ?_
     refine kX ?_
     refine PJ.blockRet ?_
     refine PJ.passRet ?_
     obtain rfl := oi h86
     refine PJ.loopOut (fun e => nomatch e) (fun he90 => ?_)
     have h88 := congrArg some he90
     refine PJ.blockRet ?_
     obtain rfl := oi h88
     have h89 := joinX_inr h49
     refine PJ.cutXr (fun e => nomatch e) ?_
     obtain rfl := oi h89
     exact kZ hFn hFH hFD
    ·have h87 := condF hb85 h84
     refine kF ?_
     refine kK ?_
     refine PJ.blockNormal ?_
     refine PJ.next ?_
     refine kR ?_
     refine kC 3 [0,1,4,5] ?_
     refine kE ?_
     obtain rfl := oi h87
     exact PJ.loopNext [0, 1, 4, 5] (by kernel_rfl) (by kernel_rfl)
   ·have h82 := condF hb80 hs78
    refine kF ?_
    refine K.exit 0 (by kernel_rfl) ?_
    refine PJ.passExit ?_
    obtain rfl := oi h82
    refine PJ.loopOut (fun e => nomatch e) (fun he92 => ?_)
    have h91 := congrArg some he92
    refine PJ.blockOut ?_
    obtain rfl := oi h91
    exact PJ.cutXl [4] (by kernel_rfl) (by kernel_rfl)
  ·subst hs
   have h50 := joinX_inl h49
   refine kSR ?_
   refine kC 1 [4] ?_
   refine kEN ?_
   refine kX ?_
   obtain rfl := oi h50
   exact kZ hFn hFH hFD

def exergueref13_Ungrouped (x0 : St22) (x1 : List Int) (x2 : Int) (x3 : Int) : Option ((List Int) × Int × Int) :=
 (Option.bind (loopN (fun (s369 : Int × (List Int)) => (bif (decide (s369.1 < (x1.length : Int))) then (Option.bind (bif inR s369.1 x1.length then (Option.bind (exergueref13_Value x0 (nth x1 s369.1)) fun y676 => (Option.bind (Option.bind (bif (!y676.2) then (bif inR s369.1 x1.length then (some ((decide (¬ (nth x1 s369.1) = x0.Group_)))) else none) else (some false)) fun (s709 : Bool) => (bif s709 then (some (.inr (.inr (.inr (.inr (([] : List Int), s369.1, 10)))))) else (some (.inl ())))) (joinX fun (s700 : Unit) => (bif y676.2 then (bif room (s369.2.length + ([y676.1] : List Int).length) then (some (.inl (s369.2 ++ ([y676.1] : List Int)))) else none) else (some (.inl s369.2)))))) else none) (joinX fun (s670 : (List Int)) => (some (.inl ((IntKind.wrap .i64 (s369.1 + 1)), s670))))) else (some (.inr (.inl s369.2))))) big (0, ([] : List Int))) (joinX fun (s364 : (List Int)) => (Option.bind (exergueref13_Grouped x0 s364 x2 x3) fun y732 => (Option.bind (exergueref01_Same y732 x1) fun y735 => (bif (!y735) then (some (([] : List Int), (x1.length : Int), 10)) else (some (s364, 0, 0)))))))
theorem exergueref13_Ungrouped_ok {x0 : St22} {x1 : List Int} {x2 : Int} {x3 : Int} {r : (List Int) × Int × Int} (h : exergueref13_Ungrouped x0 x1 x2 x3 = some r) : SC Tryz.prog 52 [.agg (encSt22 x0), lsv (encI .i32) 1 x1, .int .i64 x2, .int .i64 x3] [] (.tup [lsv (encI .u8) 1 r.1, .int .i64 r.2.1, .int .i64 r.2.2]) [] := by
 refine kFn (fn := Tryz.f52) (fun F hFn hFH hFD => ?_)
 unfold exergueref13_Ungrouped at h
 refine kSR ?_
 refine kC 4 [1,2,3,4,8,9,10] ?_
 refine kEN ?_
 refine kSR ?_
 refine kC 1 [1,2,3,4,8,9,10,11] ?_
 refine kEN ?_
 obtain ⟨y365, hy366, h367⟩ := bindS h
 refine K.cutX (by kernel_rfl) (fun (s364 : (List Int)) => ([(1, lsv (encI .i32) 1 x1), (2, .int .i64 x2), (3, .int .i64 x3), (4, .ptr 0 0), (8, .nl), (9, .int .i64 0), (10, .int .i64 0), (11, .vc 1)], [.box (encSt22 x0), vecL (encI .u8) 1 5 s364])) y365 ?_ (fun s364 hs => ?_)
 ·refine kSR ?_
  refine kC 1 [1,2,3,4,8,9,10,11,12] ?_
  refine kEN ?_
  refine K.block 0 (by kernel_rfl) ?_
  refine J.wk (Wk.viv 11 1 5 (by kernel_rfl)) ?_
  refine K.loop (by kernel_rfl) (fun (s369 : Int × (List Int)) => ([(1, lsv (encI .i32) 1 x1), (2, .int .i64 x2), (3, .int .i64 x3), (4, .ptr 0 0), (8, .nl), (9, .int .i64 0), (10, .int .i64 0), (11, .vc 1), (12, .int .i64 s369.1)], [.box (encSt22 x0), vecL (encI .u8) 1 5 s369.2])) hy366 [1, 2, 3, 4, 8, 9, 10, 11, 12] (by kernel_rfl) (by kernel_rfl) (fun s369 x611 hs610 => ?_)
  refine kS ?_
  refine kSR ?_
  refine kC 4 [1,2,3,4,8,9,10,11,12,19] ?_
  refine kEN ?_
  refine J.caseB 19 (b := (decide (s369.1 < (x1.length : Int)))) (by kernel_rfl) (fun hb612 => ?_) (fun hb612 => ?_)
  ·have h613 := condT hb612 hs610
   refine kT ?_
   refine kK ?_
   refine PJ.next ?_
   obtain ⟨y671, hy672, h673⟩ := bindS h613
   refine K.cutX (by kernel_rfl) (fun (s670 : (List Int)) => ([(1, lsv (encI .i32) 1 x1), (2, .int .i64 x2), (3, .int .i64 x3), (4, .ptr 0 0), (8, .nl), (9, .int .i64 0), (10, .int .i64 0), (11, .vc 1), (12, .int .i64 s369.1)], [.box (encSt22 x0), vecL (encI .u8) 1 5 s670])) y671 ?_ (fun s670 hs => ?_)
   ·refine K.block 1 (by kernel_rfl) ?_
    refine kS ?_
    refine J.keep [1, 2, 3, 4, 8, 9, 10, 11, 12] (L2 := [(1, lsv (encI .i32) 1 x1), (2, .int .i64 x2), (3, .int .i64 x3), (4, .ptr 0 0), (8, .nl), (9, .int .i64 0), (10, .int .i64 0), (11, .vc 1), (12, .int .i64 s369.1)]) (by kernel_rfl) ?_
    refine K.draw (by kernel_rfl) (by kernel_rfl) (by kernel_rfl) (H2 := [.box (encSt22 x0), vecL (encI .u8) 1 5 s369.2, .res]) (by kernel_rfl) (n := 2) (by kernel_rfl) ?_
    refine kD 3 ?_
    obtain ⟨hm, h675⟩ := asrt hy672
    refine RJ.rel (d := (some 26)) (ef := ⟨.ep (((x1.flatMap (encI .i32)).drop ((s369.1 : Int).toNat * 1)).take 1), [], []⟩) (ef' := ⟨.ep ((encI .i32) (nth x1 s369.1)), [], []⟩) (c := inR s369.1 x1.length) (tr2 := [([0, 1], []), ([], []), ([], []), ([], [])]) (H2 := [.box (encSt22 x0), vecL (encI .u8) 1 5 s369.2, .res]) (by kernel_rfl) hm (fun hc => N.idx (encI_len .i32) hc) (by kernel_rfl) ?_
    refine kD 1 ?_
    obtain ⟨y676, hy677, h678⟩ := bindS h675
    refine RJ.call0 (d := (some 28)) (f := 80) (args := [.agg (encSt22 x0), .int .i32 (nth x1 s369.1)]) (v := .tup [.int .u8 y676.1, .bool y676.2]) (tr2 := [([0, 1], []), ([], []), ([], []), ([], []), ([], []), ([], [4, 5])]) (by kernel_rfl) (by kernel_rfl) (.cons (Le.refl _) (.cons (Le.refl _) .nil)) (exergueref13_Value_ok hy677) (by kernel_rfl) ?_
    refine RJ.segD 5 (tr2 := [([0, 1], []), ([], []), ([], []), ([], []), ([], []), ([], [4, 5]), ([], []), ([], []), ([], []), ([], []), ([], [])]) (L2 := [(14, .bool y676.2), (13, .int .u8 y676.1), (30, .bool y676.2), (29, .int .u8 y676.1), (22, .tup [.int .u8 y676.1, .bool y676.2]), (28, .tup [.int .u8 y676.1, .bool y676.2]), (27, .int .i32 (nth x1 s369.1)), (26, .ep [.int .i32 (nth x1 s369.1)]), (25, .int .i64 s369.1), (24, lsv (encI .i32) 1 x1), (23, .agg (encSt22 x0)), (1, lsv (encI .i32) 1 x1), (2, .int .i64 x2), (3, .int .i64 x3), (4, .ptr 0 0), (8, .nl), (9, .int .i64 0), (10, .int .i64 0), (11, .vc 1), (12, .int .i64 s369.1)]) (H2 := [.box (encSt22 x0), vecL (encI .u8) 1 5 s369.2, .res]) (by kernel_rfl) ?_
    refine kEN ?_
    obtain ⟨y701, hy702, h703⟩ := bindS h678
    refine K.cutX (by kernel_rfl) (fun (s700 : Unit) => ([(1, lsv (encI .i32) 1 x1), (2, .int .i64 x2), (3, .int .i64 x3), (4, .ptr 0 0), (8, .nl), (9, .int .i64 0), (10, .int .i64 0), (11, .vc 1), (12, .int .i64 s369.1), (13, .int .u8 y676.1), (14, .bool y676.2)], [.box (encSt22 x0), vecL (encI .u8) 1 5 s369.2])) y701 ?_ (fun s700 hs => ?_)
    ·obtain ⟨s709, hy711, h713⟩ := bindS hy702
     refine K.cutN (by kernel_rfl) (fun (s709 : Bool) => ([(1, lsv (encI .i32) 1 x1), (2, .int .i64 x2), (3, .int .i64 x3), (4, .ptr 0 0), (8, .nl), (9, .int .i64 0), (10, .int .i64 0), (11, .vc 1), (12, .int .i64 s369.1), (13, .int .u8 y676.1), (14, .bool y676.2), (41, .bool s709)], [.box (encSt22 x0), vecL (encI .u8) 1 5 s369.2])) s709 ?_ ?_
     ·refine J.keep [1, 2, 3, 4, 8, 9, 10, 11, 12, 13, 14] (L2 := [(1, lsv (encI .i32) 1 x1), (2, .int .i64 x2), (3, .int .i64 x3), (4, .ptr 0 0), (8, .nl), (9, .int .i64 0), (10, .int .i64 0), (11, .vc 1), (12, .int .i64 s369.1), (13, .int .u8 y676.1), (14, .bool y676.2)]) (by kernel_rfl) ?_
      refine K.draw (by kernel_rfl) (by kernel_rfl) (by kernel_rfl) (H2 := [.box (encSt22 x0), vecL (encI .u8) 1 5 s369.2, .res]) (by kernel_rfl) (n := 3) (by kernel_rfl) ?_
      refine kD 3 ?_
      refine RJ.caseB 33 (b := (!y676.2)) (by kernel_rfl) (fun hb714 => ?_) (fun hb714 => ?_)
      ·have h715 := condT hb714 hy711
       refine kD 2 ?_
       obtain ⟨hm, h717⟩ := asrt h715
       refine RJ.rel (d := (some 36)) (ef := ⟨.ep (((x1.flatMap (encI .i32)).drop ((s369.1 : Int).toNat * 1)).take 1), [], []⟩) (ef' := ⟨.ep ((encI .i32) (nth x1 s369.1)), [], []⟩) (c := inR s369.1 x1.length) (tr2 := [([], []), ([], []), ([], []), ([], []), ([], []), ([], [])]) (H2 := [.box (encSt22 x0), vecL (encI .u8) 1 5 s369.2, .res]) (by kernel_rfl) hm (fun hc => N.idx (encI_len .i32) hc) (by kernel_rfl) ?_
       refine kD 5 ?_
       refine kE ?_
       obtain rfl := oi h717
       refine PJ.wk (Wk.sel (L2 := [(1, lsv (encI .i32) 1 x1), (2, .int .i64 x2), (3, .int .i64 x3), (4, .ptr 0 0), (8, .nl), (9, .int .i64 0), (10, .int .i64 0), (11, .vc 1), (12, .int .i64 s369.1), (13, .int .u8 y676.1), (14, .bool y676.2), (41, .bool ((decide (¬ (nth x1 s369.1) = x0.Group_))))]) (H2 := [.box (encSt22 x0), vecL (encI .u8) 1 5 s369.2]) 0 (by rw [hFH]; rfl) hFD [0, 1] (by kernel_rfl) (by kernel_rfl) (by decide) (by kernel_rfl) (by kernel_rfl) (by kernel_rfl) (by kernel_rfl)) ?_
       exact kN [1, 2, 3, 4, 8, 9, 10, 11, 12, 13, 14, 41]
      ·have h716 := condF hb714 hy711
       refine kD 8 ?_
       refine kE ?_
       obtain rfl := oi h716
       refine PJ.wk (Wk.sel (L2 := [(1, lsv (encI .i32) 1 x1), (2, .int .i64 x2), (3, .int .i64 x3), (4, .ptr 0 0), (8, .nl), (9, .int .i64 0), (10, .int .i64 0), (11, .vc 1), (12, .int .i64 s369.1), (13, .int .u8 y676.1), (14, .bool y676.2), (41, .bool false)]) (H2 := [.box (encSt22 x0), vecL (encI .u8) 1 5 s369.2]) 0 (by rw [hFH]; rfl) hFD [0, 1] (by kernel_rfl) (by kernel_rfl) (by decide) (by kernel_rfl) (by kernel_rfl) (by kernel_rfl) (by kernel_rfl)) ?_
       exact kN [1, 2, 3, 4, 8, 9, 10, 11, 12, 13, 14, 41]
     ·refine J.caseB 41 (b := s709) (by kernel_rfl) (fun hb718 => ?_) (fun hb718 => ?_)
      ·have h719 := condT hb718 h713
       refine kT ?_
       refine kSR ?_
       refine kC 4 [1,2,3,4,8,9,10,11,12,13,14] ?_
       refine kEN ?_
       refine kX ?_
       obtain rfl := oi h719
       have h721 := joinX_inr h703
       refine PJ.cutXr (fun e => nomatch e) ?_
       refine PJ.blockRet ?_
       obtain rfl := oi h721
       have h722 := joinX_inr h673
       refine PJ.cutXr (fun e => nomatch e) ?_
       obtain rfl := oi h722
       refine PJ.loopOut (fun e => nomatch e) (fun he725 => ?_)
       have h723 := congrArg some he725
       refine PJ.blockRet ?_
       obtain rfl := oi h723
       have h724 := joinX_inr h367
       refine PJ.cutXr (fun e => nomatch e) ?_
       obtain rfl := oi h724
       refine PJ.res (v1 := .tup [.nl, .int .i64 s369.1, .int .i64 10]) (Le.tup (.cons (Le.nl _) (.cons (Le.refl _) (.cons (Le.refl _) .nil)))) ?_
       exact kZ hFn hFH hFD
      ·have h720 := condF hb718 h713
       refine kF ?_
       refine kK ?_
       obtain rfl := oi h720
       exact PJ.cutXl [1, 2, 3, 4, 8, 9, 10, 11, 12, 13, 14] (by kernel_rfl) (by kernel_rfl)
    ·subst hs
     have h704 := joinX_inl h703
     refine kSR ?_
     refine kC 1 [1,2,3,4,8,9,10,11,12,13,43] ?_
     refine kEN ?_
     refine J.caseB 43 (b := y676.2) (by kernel_rfl) (fun hb726 => ?_) (fun hb726 => ?_)
     ·have h727 := condT hb726 h704
      refine kT ?_
      refine kR ?_
      refine kC 3 [1,2,3,4,8,9,10,11,12,44,46] ?_
      obtain ⟨hm, h729⟩ := asrt h727
      refine RJ.rel (d := (some 47)) (ef := ⟨.vc 3, [1, 2], [(1, .gone), (3, .vec (s369.2.length + ([y676.1] : List Int).length) 1 5 (s369.2.flatMap (encI .u8) ++ ([y676.1] : List Int).flatMap (encI .u8)))]⟩) (ef' := ⟨.vc 3, [1, 2], [(1, .gone), (3, vecL (encI .u8) 1 5 (s369.2 ++ ([y676.1] : List Int)))]⟩) (c := roomB (s369.2.length + ([y676.1] : List Int).length)) (tr2 := []) (H2 := [.box (encSt22 x0), .gone, vecL (encI .u8) 1 5 ([y676.1] : List Int), vecL (encI .u8) 1 5 (s369.2 ++ ([y676.1] : List Int))]) (by kernel_rfl) (roomB_of_room hm) (fun hc => N.app) (by kernel_rfl) ?_
      refine kC 1 [1,2,3,4,8,9,10,11,12] ?_
      refine kE ?_
      refine PJ.blockNormal ?_
      obtain rfl := oi h729
      refine PJ.wk (Wk.sel (L2 := [(1, lsv (encI .i32) 1 x1), (2, .int .i64 x2), (3, .int .i64 x3), (4, .ptr 0 0), (8, .nl), (9, .int .i64 0), (10, .int .i64 0), (11, .vc 1), (12, .int .i64 s369.1)]) (H2 := [.box (encSt22 x0), vecL (encI .u8) 1 5 (s369.2 ++ ([y676.1] : List Int))]) 0 (by rw [hFH]; rfl) hFD [0, 3] (by kernel_rfl) (by kernel_rfl) (by decide) (by kernel_rfl) (by kernel_rfl) (by kernel_rfl) (by kernel_rfl)) ?_
      exact PJ.cutXl [1, 2, 3, 4, 8, 9, 10, 11, 12] (by kernel_rfl) (by kernel_rfl)
     ·have h728 := condF hb726 h704
      refine kF ?_
      refine kK ?_
      refine PJ.blockNormal ?_
      obtain rfl := oi h728
      exact PJ.cutXl [1, 2, 3, 4, 8, 9, 10, 11, 12] (by kernel_rfl) (by kernel_rfl)
   ·subst hs
    have h674 := joinX_inl h673
    refine kR ?_
    refine kC 3 [1,2,3,4,8,9,10,11,12] ?_
    refine kE ?_
    obtain rfl := oi h674
    exact PJ.loopNext [1, 2, 3, 4, 8, 9, 10, 11, 12] (by kernel_rfl) (by kernel_rfl)
  ·have h614 := condF hb612 hs610
   refine kF ?_
   refine K.exit 0 (by kernel_rfl) ?_
   refine PJ.passExit ?_
   obtain rfl := oi h614
   refine PJ.loopOut (fun e => nomatch e) (fun he731 => ?_)
   have h730 := congrArg some he731
   refine PJ.blockOut ?_
   obtain rfl := oi h730
   exact PJ.cutXl [1, 2, 3, 4, 8, 9, 10, 11] (by kernel_rfl) (by kernel_rfl)
 ·subst hs
  have h368 := joinX_inl h367
  refine kSR ?_
  refine kC 4 [1,8,9,10,11,48,49,50,51] ?_
  obtain ⟨y732, hy733, h734⟩ := bindS h368
  refine RJ.wk (Wk.freeze 1 (n := s364.length) (k := 1) (e := 5) (cs := s364.flatMap (encI .u8)) (by kernel_rfl)) ?_
  refine RJ.call0 (d := (some 52)) (f := 43) (args := [.agg (encSt22 x0), lsv (encI .u8) 1 s364, .int .i64 x2, .int .i64 x3]) (v := lsv (encI .i32) 1 y732) (tr2 := []) (by kernel_rfl) (by kernel_rfl) (.cons (Le.refl _) (.cons (Le.refl _) (.cons (Le.refl _) (.cons (Le.refl _) .nil)))) (exergueref13_Grouped_ok hy733) (by kernel_rfl) ?_
  refine kC 1 [1,8,9,10,11,52,53] ?_
  obtain ⟨y735, hy736, h737⟩ := bindS h734
  refine RJ.call0 (d := (some 54)) (f := 15) (args := [lsv (encI .i32) 1 y732, lsv (encI .i32) 1 x1]) (v := .bool y735) (tr2 := []) (by kernel_rfl) (by kernel_rfl) (.cons (Le.refl _) (.cons (Le.refl _) .nil)) (exergueref01_Same_ok hy736) (by kernel_rfl) ?_
  refine kC 1 [1,8,9,10,11,15] ?_
  refine kEN ?_
  refine kS ?_
  refine kSR ?_
  refine RJ.seg 2 [1, 8, 9, 10, 11, 56] (L2 := [(1, lsv (encI .i32) 1 x1), (8, .nl), (9, .int .i64 0), (10, .int .i64 0), (11, lsv (encI .u8) 1 s364), (56, .bool (!y735))]) (H2 := [.box (encSt22 x0), .gone]) (by kernel_rfl) ?_
  refine kEN ?_
  refine J.caseB 56 (b := (!y735)) (by kernel_rfl) (fun hb738 => ?_) (fun hb738 => ?_)
  ·have h739 := condT hb738 h737
   refine kT ?_
   refine kSR ?_
   refine kC 5 [8,9,10,11] ?_
   refine kEN ?_
   refine kX ?_
   refine PJ.passRet ?_
   obtain rfl := oi h739
   refine PJ.res (v1 := .tup [.nl, .int .i64 (x1.length : Int), .int .i64 10]) (Le.tup (.cons (Le.nl _) (.cons (Le.refl _) (.cons (Le.refl _) .nil)))) ?_
   exact kZ hFn hFH hFD
  ·have h740 := condF hb738 h737
   refine kF ?_
   refine kK ?_
   refine PJ.next ?_
   refine kSR ?_
   refine kC 4 [8,9,10] ?_
   refine kEN ?_
   refine kX ?_
   obtain rfl := oi h740
   exact kZ hFn hFH hFD

end Go.Proofs.YtcmmjficmoflkaaGreat
