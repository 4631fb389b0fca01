/-
  What the functions of this program come to, as functions of natives, each with the proof that it does. No conditions.
-/
import Derived.Test.YtcmmjficmoflkaaProg
import Derived.Test.YtcmmjficmoflkaaSyV
import Derived.Test.YtcmmjficmoflkaaGb
namespace Go.Proofs.Ytcmmjficmoflkaa
open Go Go.Sy Go.RowKit
set_option linter.unusedVariables false
set_option linter.unusedSimpArgs false
set_option maxRecDepth 100000
set_option maxHeartbeats 4000000

def exergueref10_places (x0 : St25) (x1 : List Int) (x2 : Int) : Option (St25 × Int × Bool) :=
  (loopN (fun (s1 : Int × Int × Int × Int × (List Int)) => (Option.bind (exergueref10_at x1 s1.1) fun y442 => (Option.bind (exergueref10_at x1 (IntKind.wrap .i64 (s1.1 + 1))) fun y445 => (Option.bind (Option.bind (bif (decide (y442 = 35)) then (some (decide (s1.2.2.2.1 = 0))) else (some false)) fun (s471 : Bool) => (bif s471 then (some (.inr (.inl ((IntKind.wrap .i64 (s1.1 + 1)), (IntKind.wrap .i64 (s1.2.1 + 1)), (IntKind.wrap .i64 (s1.2.2.1 + 1)), s1.2.2.2.1, s1.2.2.2.2)))) else (some (.inl ())))) (joinX fun (s463 : Unit) => (bif (decide (y442 = 48)) then (some (.inl ((IntKind.wrap .i64 (s1.1 + 1)), (IntKind.wrap .i64 (s1.2.1 + 1)), s1.2.2.1, (IntKind.wrap .i64 (s1.2.2.2.1 + 1)), s1.2.2.2.2))) else (Option.bind (Option.bind (bif (decide (y442 = 44)) then (bif (decide (s1.2.1 > 0)) then (bif (decide (y445 = 48)) then (some true) else (bif (decide (y445 = 35)) then (some (decide (s1.2.2.2.1 = 0))) else (some false))) else (some false)) else (some false)) fun (s586 : Bool) => (bif s586 then (Option.bind (Option.bind (bif (decide ((s1.2.2.2.2.length : Int) ≥ 2)) then (bif inR 1 s1.2.2.2.2.length then (bif inR 1 s1.2.2.2.2.length then (some ((decide (¬ (nth s1.2.2.2.2 1) = s1.2.1)))) else none) else none) else (some false)) fun (s638 : Bool) => (bif s638 then (some (.inr (.inr (.inr ((⟨x0.Pre_, x0.Suf_, x0.NPre_, x0.NSuf_, x0.Neg_, s1.2.2.1, s1.2.2.2.1, x0.MinFrac_, x0.MaxFrac_, x0.G1_, x0.G2_, x0.MinSig_, x0.MaxSig_, x0.Exp_, x0.ExpPlus_, x0.Pad_, x0.PadAt_⟩ : St25), s1.1, false))))) else (some (.inl ())))) (joinX fun (s628 : Unit) => (bif room (s1.2.2.2.2.length + ([s1.2.1] : List Int).length) then (some (.inr (.inl ((IntKind.wrap .i64 (s1.1 + 1)), 0, s1.2.2.1, s1.2.2.2.1, (s1.2.2.2.2 ++ ([s1.2.1] : List Int)))))) else none))) else (some (.inl ())))) (joinX fun (s569 : Unit) => (Option.bind (bif (decide ((s1.2.2.2.2.length : Int) = 1)) then (some (s1.2.1, s1.2.1)) else (some (x0.G1_, x0.G2_))) fun (s660 : Int × Int) => (Option.bind (bif (decide ((s1.2.2.2.2.length : Int) > 1)) then (bif inR 1 s1.2.2.2.2.length then (bif inR 1 s1.2.2.2.2.length then (some (s1.2.1, (nth s1.2.2.2.2 1))) else none) else none) else (some (s660.1, s660.2))) fun (s673 : Int × Int) => (some (.inr ((⟨x0.Pre_, x0.Suf_, x0.NPre_, x0.NSuf_, x0.Neg_, s1.2.2.1, s1.2.2.2.1, x0.MinFrac_, x0.MaxFrac_, s673.1, s673.2, x0.MinSig_, x0.MaxSig_, x0.Exp_, x0.ExpPlus_, x0.Pad_, x0.PadAt_⟩ : St25), s1.1, (decide ((IntKind.wrap .i64 (s1.2.2.1 + s1.2.2.2.1)) > 0))))))))))))))) big (x2, 0, x0.Hash_, x0.MinInt_, ([] : List Int)))
theorem exergueref10_places_ok {x0 : St25} {x1 : List Int} {x2 : Int} {r : St25 × Int × Bool} (h : exergueref10_places x0 x1 x2 = some r) : SC Try.prog 111 [.agg (encSt25 x0), lsv (encI .i32) 1 x1, .int .i64 x2] [] (.tup [.agg (encSt25 r.1), .int .i64 r.2.1, .bool r.2.2]) [] := by
  refine kFn (fn := Try.f111) (fun F hFn hFH hFD => ?_)
  unfold exergueref10_places at h
  refine kSR ?_
  refine kC 4 [1,2,3,6,7,8] ?_
  refine kEN ?_
  refine kSR ?_
  refine kC 1 [1,2,3,6,7,8,9] ?_
  refine kEN ?_
  refine kSR ?_
  refine kC 1 [1,2,3,6,7,8,9,10] ?_
  refine kEN ?_
  refine K.block 0 (by kernel_rfl) ?_
  refine J.wk (Wk.viv 9 1 3 (by kernel_rfl)) ?_
  refine K.loop (by kernel_rfl) (fun (s1 : Int × Int × Int × Int × (List Int)) => ([(1, lsv (encI .i32) 1 x1), (2, .int .i64 s1.1), (3, .ptr 0 0), (6, .ptr 1 0), (7, .int .i64 0), (8, .bool false), (9, .vc 2), (10, .int .i64 s1.2.1)], [.box [lsv encSt108 2 x0.Pre_, lsv encSt108 2 x0.Suf_, lsv encSt108 2 x0.NPre_, lsv encSt108 2 x0.NSuf_, .bool x0.Neg_, .int .i64 s1.2.2.1, .int .i64 s1.2.2.2.1, .int .i64 x0.MinFrac_, .int .i64 x0.MaxFrac_, .int .i64 x0.G1_, .int .i64 x0.G2_, .int .i64 x0.MinSig_, .int .i64 x0.MaxSig_, .int .i64 x0.Exp_, .bool x0.ExpPlus_, .int .i32 x0.Pad_, .int .i64 x0.PadAt_], .box [.nl, .nl, .nl, .nl, .bool false, .int .i64 0, .int .i64 0, .int .i64 0, .int .i64 0, .int .i64 0, .int .i64 0, .int .i64 0, .int .i64 0, .int .i64 0, .bool false, .int .i32 0, .int .i64 0], vecL (encI .i64) 1 3 s1.2.2.2.2])) h [1, 2, 3, 6, 7, 8, 9, 10] (by kernel_rfl) (by kernel_rfl) (fun s1 x441 hs440 => ?_)
  refine K.block 1 (by kernel_rfl) ?_
  refine kSR ?_
  refine kC 2 [1,2,3,6,7,8,9,10,13,14] ?_
  obtain ⟨y442, hy443, h444⟩ := bindS hs440
  refine RJ.call0 (d := (some 15)) (f := 77) (args := [lsv (encI .i32) 1 x1, .int .i64 s1.1]) (v := .int .i32 y442) (tr2 := []) (by kernel_rfl) (by kernel_rfl) (.cons (Le.refl _) (.cons (Le.refl _) .nil)) (exergueref10_at_ok hy443) (by kernel_rfl) ?_
  refine kC 1 [1,2,3,6,7,8,9,10,11] ?_
  refine kEN ?_
  refine kSR ?_
  refine kC 3 [1,2,3,6,7,8,9,10,11,16,18] ?_
  obtain ⟨y445, hy446, h447⟩ := bindS h444
  refine RJ.call0 (d := (some 19)) (f := 77) (args := [lsv (encI .i32) 1 x1, .int .i64 (IntKind.wrap .i64 (s1.1 + 1))]) (v := .int .i32 y445) (tr2 := []) (by kernel_rfl) (by kernel_rfl) (.cons (Le.refl _) (.cons (Le.refl _) .nil)) (exergueref10_at_ok hy446) (by kernel_rfl) ?_
  refine RJ.seg 1 [1, 2, 3, 6, 7, 8, 9, 10, 11, 12] (L2 := [(1, lsv (encI .i32) 1 x1), (2, .int .i64 s1.1), (3, .ptr 0 0), (6, .ptr 1 0), (7, .int .i64 0), (8, .bool false), (9, .vc 2), (10, .int .i64 s1.2.1), (11, .int .i32 y442), (12, .int .i32 y445)]) (H2 := [.box [lsv encSt108 2 x0.Pre_, lsv encSt108 2 x0.Suf_, lsv encSt108 2 x0.NPre_, lsv encSt108 2 x0.NSuf_, .bool x0.Neg_, .int .i64 s1.2.2.1, .int .i64 s1.2.2.2.1, .int .i64 x0.MinFrac_, .int .i64 x0.MaxFrac_, .int .i64 x0.G1_, .int .i64 x0.G2_, .int .i64 x0.MinSig_, .int .i64 x0.MaxSig_, .int .i64 x0.Exp_, .bool x0.ExpPlus_, .int .i32 x0.Pad_, .int .i64 x0.PadAt_], .box [.nl, .nl, .nl, .nl, .bool false, .int .i64 0, .int .i64 0, .int .i64 0, .int .i64 0, .int .i64 0, .int .i64 0, .int .i64 0, .int .i64 0, .int .i64 0, .bool false, .int .i32 0, .int .i64 0], vecL (encI .i64) 1 3 s1.2.2.2.2]) (by kernel_rfl) ?_
  refine kEN ?_
  obtain ⟨y464, hy465, h466⟩ := bindS h447
  refine K.cutX (by kernel_rfl) (fun (s463 : Unit) => ([(1, lsv (encI .i32) 1 x1), (2, .int .i64 s1.1), (3, .ptr 0 0), (6, .ptr 1 0), (7, .int .i64 0), (8, .bool false), (9, .vc 2), (10, .int .i64 s1.2.1), (11, .int .i32 y442), (12, .int .i32 y445)], [.box [lsv encSt108 2 x0.Pre_, lsv encSt108 2 x0.Suf_, lsv encSt108 2 x0.NPre_, lsv encSt108 2 x0.NSuf_, .bool x0.Neg_, .int .i64 s1.2.2.1, .int .i64 s1.2.2.2.1, .int .i64 x0.MinFrac_, .int .i64 x0.MaxFrac_, .int .i64 x0.G1_, .int .i64 x0.G2_, .int .i64 x0.MinSig_, .int .i64 x0.MaxSig_, .int .i64 x0.Exp_, .bool x0.ExpPlus_, .int .i32 x0.Pad_, .int .i64 x0.PadAt_], .box [.nl, .nl, .nl, .nl, .bool false, .int .i64 0, .int .i64 0, .int .i64 0, .int .i64 0, .int .i64 0, .int .i64 0, .int .i64 0, .int .i64 0, .int .i64 0, .bool false, .int .i32 0, .int .i64 0], vecL (encI .i64) 1 3 s1.2.2.2.2])) y464 ?_ (fun s463 hs => ?_)
  · obtain ⟨s471, hy473, h475⟩ := bindS hy465
    refine K.cutN (by kernel_rfl) (fun (s471 : Bool) => ([(1, lsv (encI .i32) 1 x1), (2, .int .i64 s1.1), (3, .ptr 0 0), (6, .ptr 1 0), (7, .int .i64 0), (8, .bool false), (9, .vc 2), (10, .int .i64 s1.2.1), (11, .int .i32 y442), (12, .int .i32 y445), (26, .bool s471)], [.box [lsv encSt108 2 x0.Pre_, lsv encSt108 2 x0.Suf_, lsv encSt108 2 x0.NPre_, lsv encSt108 2 x0.NSuf_, .bool x0.Neg_, .int .i64 s1.2.2.1, .int .i64 s1.2.2.2.1, .int .i64 x0.MinFrac_, .int .i64 x0.MaxFrac_, .int .i64 x0.G1_, .int .i64 x0.G2_, .int .i64 x0.MinSig_, .int .i64 x0.MaxSig_, .int .i64 x0.Exp_, .bool x0.ExpPlus_, .int .i32 x0.Pad_, .int .i64 x0.PadAt_], .box [.nl, .nl, .nl, .nl, .bool false, .int .i64 0, .int .i64 0, .int .i64 0, .int .i64 0, .int .i64 0, .int .i64 0, .int .i64 0, .int .i64 0, .int .i64 0, .bool false, .int .i32 0, .int .i64 0], vecL (encI .i64) 1 3 s1.2.2.2.2])) s471 ?_ ?_
    · refine kR ?_
      refine kC 3 [1,2,3,6,7,8,9,10,11,12,22] ?_
      refine RJ.caseB 22 (b := (decide (y442 = 35))) (by kernel_rfl) (fun hb476 => ?_) (fun hb476 => ?_)
      · have h477 := condT hb476 hy473
        refine kC 4 [1,2,3,6,7,8,9,10,11,12,26] ?_
        refine kE ?_
        obtain rfl := oi h477
        exact kN [1, 2, 3, 6, 7, 8, 9, 10, 11, 12, 26]
      · have h478 := condF hb476 hy473
        refine kC 4 [1,2,3,6,7,8,9,10,11,12,26] ?_
        refine kE ?_
        obtain rfl := oi h478
        exact kN [1, 2, 3, 6, 7, 8, 9, 10, 11, 12, 26]
    · refine J.caseB 26 (b := s471) (by kernel_rfl) (fun hb479 => ?_) (fun hb479 => ?_)
      · have h480 := condT hb479 h475
        refine kT ?_
        refine kSR ?_
        refine kC 5 [1,2,3,6,7,8,9,10,11,12] ?_
        refine kEN ?_
        refine kSR ?_
        refine kC 3 [1,2,3,6,7,8,9,10,11,12] ?_
        refine kEN ?_
        refine kSR ?_
        refine kC 3 [1,2,3,6,7,8,9,10,11,12] ?_
        refine kEN ?_
        refine K.exit 1 (by kernel_rfl) ?_
        obtain rfl := oi h480
        have h482 := joinX_inr h466
        refine PJ.cutXr (fun e => nomatch e) ?_
        refine PJ.blockOut ?_
        obtain rfl := oi h482
        exact PJ.loopNext [1, 2, 3, 6, 7, 8, 9, 10] (by kernel_rfl) (by kernel_rfl)
      · have h481 := condF hb479 h475
        refine kF ?_
        refine kK ?_
        obtain rfl := oi h481
        exact PJ.cutXl [1, 2, 3, 6, 7, 8, 9, 10, 11, 12] (by kernel_rfl) (by kernel_rfl)
  · subst hs
    have h467 := joinX_inl h466
    refine kS ?_
    refine kSR ?_
    refine kC 2 [1,2,3,6,7,8,9,10,11,12,36] ?_
    refine kEN ?_
    refine J.caseB 36 (b := (decide (y442 = 48))) (by kernel_rfl) (fun hb483 => ?_) (fun hb483 => ?_)
    · have h484 := condT hb483 h467
      refine kT ?_
      refine kSR ?_
      refine kC 5 [1,2,3,6,7,8,9,10,11,12] ?_
      refine kEN ?_
      refine kSR ?_
      refine kC 3 [1,2,3,6,7,8,9,10,11,12] ?_
      refine kEN ?_
      refine kSR ?_
      refine RJ.seg 3 [1, 2, 3, 6, 7, 8, 9, 10, 11, 12] (L2 := [(1, lsv (encI .i32) 1 x1), (2, .int .i64 (IntKind.wrap .i64 (s1.1 + 1))), (3, .ptr 0 0), (6, .ptr 1 0), (7, .int .i64 0), (8, .bool false), (9, .vc 2), (10, .int .i64 (IntKind.wrap .i64 (s1.2.1 + 1))), (11, .int .i32 y442), (12, .int .i32 y445)]) (H2 := [.box [lsv encSt108 2 x0.Pre_, lsv encSt108 2 x0.Suf_, lsv encSt108 2 x0.NPre_, lsv encSt108 2 x0.NSuf_, .bool x0.Neg_, .int .i64 s1.2.2.1, .int .i64 (IntKind.wrap .i64 (s1.2.2.2.1 + 1)), .int .i64 x0.MinFrac_, .int .i64 x0.MaxFrac_, .int .i64 x0.G1_, .int .i64 x0.G2_, .int .i64 x0.MinSig_, .int .i64 x0.MaxSig_, .int .i64 x0.Exp_, .bool x0.ExpPlus_, .int .i32 x0.Pad_, .int .i64 x0.PadAt_], .box [.nl, .nl, .nl, .nl, .bool false, .int .i64 0, .int .i64 0, .int .i64 0, .int .i64 0, .int .i64 0, .int .i64 0, .int .i64 0, .int .i64 0, .int .i64 0, .bool false, .int .i32 0, .int .i64 0], vecL (encI .i64) 1 3 s1.2.2.2.2]) (by kernel_rfl) ?_
      refine kEN ?_
      refine K.exit 1 (by kernel_rfl) ?_
      refine PJ.passExit ?_
      refine PJ.blockOut ?_
      obtain rfl := oi h484
      exact PJ.loopNext [1, 2, 3, 6, 7, 8, 9, 10] (by kernel_rfl) (by kernel_rfl)
    · have h485 := condF hb483 h467
      refine kF ?_
      refine kK ?_
      refine PJ.next ?_
      obtain ⟨y570, hy571, h572⟩ := bindS h485
      refine K.cutX (by kernel_rfl) (fun (s569 : Unit) => ([(1, lsv (encI .i32) 1 x1), (2, .int .i64 s1.1), (3, .ptr 0 0), (6, .ptr 1 0), (7, .int .i64 0), (8, .bool false), (9, .vc 2), (10, .int .i64 s1.2.1)], [.box [lsv encSt108 2 x0.Pre_, lsv encSt108 2 x0.Suf_, lsv encSt108 2 x0.NPre_, lsv encSt108 2 x0.NSuf_, .bool x0.Neg_, .int .i64 s1.2.2.1, .int .i64 s1.2.2.2.1, .int .i64 x0.MinFrac_, .int .i64 x0.MaxFrac_, .int .i64 x0.G1_, .int .i64 x0.G2_, .int .i64 x0.MinSig_, .int .i64 x0.MaxSig_, .int .i64 x0.Exp_, .bool x0.ExpPlus_, .int .i32 x0.Pad_, .int .i64 x0.PadAt_], .box [.nl, .nl, .nl, .nl, .bool false, .int .i64 0, .int .i64 0, .int .i64 0, .int .i64 0, .int .i64 0, .int .i64 0, .int .i64 0, .int .i64 0, .int .i64 0, .bool false, .int .i32 0, .int .i64 0], vecL (encI .i64) 1 3 s1.2.2.2.2])) y570 ?_ (fun s569 hs => ?_)
      · obtain ⟨s586, hy588, h590⟩ := bindS hy571
        refine K.cutN (by kernel_rfl) (fun (s586 : Bool) => ([(1, lsv (encI .i32) 1 x1), (2, .int .i64 s1.1), (3, .ptr 0 0), (6, .ptr 1 0), (7, .int .i64 0), (8, .bool false), (9, .vc 2), (10, .int .i64 s1.2.1), (63, .bool s586)], [.box [lsv encSt108 2 x0.Pre_, lsv encSt108 2 x0.Suf_, lsv encSt108 2 x0.NPre_, lsv encSt108 2 x0.NSuf_, .bool x0.Neg_, .int .i64 s1.2.2.1, .int .i64 s1.2.2.2.1, .int .i64 x0.MinFrac_, .int .i64 x0.MaxFrac_, .int .i64 x0.G1_, .int .i64 x0.G2_, .int .i64 x0.MinSig_, .int .i64 x0.MaxSig_, .int .i64 x0.Exp_, .bool x0.ExpPlus_, .int .i32 x0.Pad_, .int .i64 x0.PadAt_], .box [.nl, .nl, .nl, .nl, .bool false, .int .i64 0, .int .i64 0, .int .i64 0, .int .i64 0, .int .i64 0, .int .i64 0, .int .i64 0, .int .i64 0, .int .i64 0, .bool false, .int .i32 0, .int .i64 0], vecL (encI .i64) 1 3 s1.2.2.2.2])) s586 ?_ ?_
        · refine kR ?_
          refine kC 3 [1,2,3,6,7,8,9,10,12,47] ?_
          refine RJ.caseB 47 (b := (decide (y442 = 44))) (by kernel_rfl) (fun hb591 => ?_) (fun hb591 => ?_)
          · have h592 := condT hb591 hy588
            refine kC 4 [1,2,3,6,7,8,9,10,12,51] ?_
            refine RJ.caseB 51 (b := (decide (s1.2.1 > 0))) (by kernel_rfl) (fun hb594 => ?_) (fun hb594 => ?_)
            · have h595 := condT hb594 h592
              refine RJ.seg 3 [1, 2, 3, 6, 7, 8, 9, 10, 12, 51, 54] (L2 := [(1, lsv (encI .i32) 1 x1), (2, .int .i64 s1.1), (3, .ptr 0 0), (6, .ptr 1 0), (7, .int .i64 0), (8, .bool false), (9, .vc 2), (10, .int .i64 s1.2.1), (12, .int .i32 y445), (51, .bool true), (54, .bool (decide (y445 = 48)))]) (H2 := [.box [lsv encSt108 2 x0.Pre_, lsv encSt108 2 x0.Suf_, lsv encSt108 2 x0.NPre_, lsv encSt108 2 x0.NSuf_, .bool x0.Neg_, .int .i64 s1.2.2.1, .int .i64 s1.2.2.2.1, .int .i64 x0.MinFrac_, .int .i64 x0.MaxFrac_, .int .i64 x0.G1_, .int .i64 x0.G2_, .int .i64 x0.MinSig_, .int .i64 x0.MaxSig_, .int .i64 x0.Exp_, .bool x0.ExpPlus_, .int .i32 x0.Pad_, .int .i64 x0.PadAt_], .box [.nl, .nl, .nl, .nl, .bool false, .int .i64 0, .int .i64 0, .int .i64 0, .int .i64 0, .int .i64 0, .int .i64 0, .int .i64 0, .int .i64 0, .int .i64 0, .bool false, .int .i32 0, .int .i64 0], vecL (encI .i64) 1 3 s1.2.2.2.2]) (by kernel_rfl) ?_
              refine RJ.caseB 54 (b := (decide (y445 = 48))) (by kernel_rfl) (fun hb597 => ?_) (fun hb597 => ?_)
              · have h598 := condT hb597 h595
                refine kC 9 [1,2,3,6,7,8,9,10,63] ?_
                refine kE ?_
                obtain rfl := oi h598
                exact kN [1, 2, 3, 6, 7, 8, 9, 10, 63]
              · have h599 := condF hb597 h595
                refine kC 3 [1,2,3,6,7,8,9,10,51,54,57] ?_
                refine RJ.caseB 57 (b := (decide (y445 = 35))) (by kernel_rfl) (fun hb600 => ?_) (fun hb600 => ?_)
                · have h601 := condT hb600 h599
                  refine kC 6 [1,2,3,6,7,8,9,10,63] ?_
                  refine kE ?_
                  obtain rfl := oi h601
                  exact kN [1, 2, 3, 6, 7, 8, 9, 10, 63]
                · have h602 := condF hb600 h599
                  refine kC 6 [1,2,3,6,7,8,9,10,63] ?_
                  refine kE ?_
                  obtain rfl := oi h602
                  exact kN [1, 2, 3, 6, 7, 8, 9, 10, 63]
            · have h596 := condF hb594 h592
              refine RJ.seg 12 [1, 2, 3, 6, 7, 8, 9, 10, 63] (L2 := [(1, lsv (encI .i32) 1 x1), (2, .int .i64 s1.1), (3, .ptr 0 0), (6, .ptr 1 0), (7, .int .i64 0), (8, .bool false), (9, .vc 2), (10, .int .i64 s1.2.1), (63, .bool false)]) (H2 := [.box [lsv encSt108 2 x0.Pre_, lsv encSt108 2 x0.Suf_, lsv encSt108 2 x0.NPre_, lsv encSt108 2 x0.NSuf_, .bool x0.Neg_, .int .i64 s1.2.2.1, .int .i64 s1.2.2.2.1, .int .i64 x0.MinFrac_, .int .i64 x0.MaxFrac_, .int .i64 x0.G1_, .int .i64 x0.G2_, .int .i64 x0.MinSig_, .int .i64 x0.MaxSig_, .int .i64 x0.Exp_, .bool x0.ExpPlus_, .int .i32 x0.Pad_, .int .i64 x0.PadAt_], .box [.nl, .nl, .nl, .nl, .bool false, .int .i64 0, .int .i64 0, .int .i64 0, .int .i64 0, .int .i64 0, .int .i64 0, .int .i64 0, .int .i64 0, .int .i64 0, .bool false, .int .i32 0, .int .i64 0], vecL (encI .i64) 1 3 s1.2.2.2.2]) (by kernel_rfl) ?_
              refine kE ?_
              obtain rfl := oi h596
              exact kN [1, 2, 3, 6, 7, 8, 9, 10, 63]
          · have h593 := condF hb591 hy588
            refine kC 16 [1,2,3,6,7,8,9,10,63] ?_
            refine kE ?_
            obtain rfl := oi h593
            exact kN [1, 2, 3, 6, 7, 8, 9, 10, 63]
        · refine J.caseB 63 (b := s586) (by kernel_rfl) (fun hb603 => ?_) (fun hb603 => ?_)
          · have h604 := condT hb603 h590
            refine kT ?_
            obtain ⟨y629, hy630, h631⟩ := bindS h604
            refine K.cutX (by kernel_rfl) (fun (s628 : Unit) => ([(1, lsv (encI .i32) 1 x1), (2, .int .i64 s1.1), (3, .ptr 0 0), (6, .ptr 1 0), (7, .int .i64 0), (8, .bool false), (9, .vc 2), (10, .int .i64 s1.2.1)], [.box [lsv encSt108 2 x0.Pre_, lsv encSt108 2 x0.Suf_, lsv encSt108 2 x0.NPre_, lsv encSt108 2 x0.NSuf_, .bool x0.Neg_, .int .i64 s1.2.2.1, .int .i64 s1.2.2.2.1, .int .i64 x0.MinFrac_, .int .i64 x0.MaxFrac_, .int .i64 x0.G1_, .int .i64 x0.G2_, .int .i64 x0.MinSig_, .int .i64 x0.MaxSig_, .int .i64 x0.Exp_, .bool x0.ExpPlus_, .int .i32 x0.Pad_, .int .i64 x0.PadAt_], .box [.nl, .nl, .nl, .nl, .bool false, .int .i64 0, .int .i64 0, .int .i64 0, .int .i64 0, .int .i64 0, .int .i64 0, .int .i64 0, .int .i64 0, .int .i64 0, .bool false, .int .i32 0, .int .i64 0], vecL (encI .i64) 1 3 s1.2.2.2.2])) y629 ?_ (fun s628 hs => ?_)
            · obtain ⟨s638, hy640, h642⟩ := bindS hy630
              refine K.cutN (by kernel_rfl) (fun (s638 : Bool) => ([(1, lsv (encI .i32) 1 x1), (2, .int .i64 s1.1), (3, .ptr 0 0), (6, .ptr 1 0), (7, .int .i64 0), (8, .bool false), (9, .vc 2), (10, .int .i64 s1.2.1), (73, .bool s638)], [.box [lsv encSt108 2 x0.Pre_, lsv encSt108 2 x0.Suf_, lsv encSt108 2 x0.NPre_, lsv encSt108 2 x0.NSuf_, .bool x0.Neg_, .int .i64 s1.2.2.1, .int .i64 s1.2.2.2.1, .int .i64 x0.MinFrac_, .int .i64 x0.MaxFrac_, .int .i64 x0.G1_, .int .i64 x0.G2_, .int .i64 x0.MinSig_, .int .i64 x0.MaxSig_, .int .i64 x0.Exp_, .bool x0.ExpPlus_, .int .i32 x0.Pad_, .int .i64 x0.PadAt_], .box [.nl, .nl, .nl, .nl, .bool false, .int .i64 0, .int .i64 0, .int .i64 0, .int .i64 0, .int .i64 0, .int .i64 0, .int .i64 0, .int .i64 0, .int .i64 0, .bool false, .int .i32 0, .int .i64 0], vecL (encI .i64) 1 3 s1.2.2.2.2])) s638 ?_ ?_
              · refine kR ?_
                refine kC 4 [1,2,3,6,7,8,9,10,67] ?_
                refine RJ.caseB 67 (b := (decide ((s1.2.2.2.2.length : Int) ≥ 2))) (by kernel_rfl) (fun hb643 => ?_) (fun hb643 => ?_)
                · have h644 := condT hb643 hy640
                  refine kC 1 [1,2,3,6,7,8,9,10,67,68] ?_
                  obtain ⟨hm, h646⟩ := asrt h644
                  refine RJ.rel (d := (some 69)) (ef := ⟨.ptr 2 ((1 : Int).toNat * 1), [2], []⟩) (ef' := ⟨.ptr 2 ((1 : Int).toNat * 1), [2], []⟩) (c := inR 1 s1.2.2.2.2.length) (tr2 := []) (H2 := [.box [lsv encSt108 2 x0.Pre_, lsv encSt108 2 x0.Suf_, lsv encSt108 2 x0.NPre_, lsv encSt108 2 x0.NSuf_, .bool x0.Neg_, .int .i64 s1.2.2.1, .int .i64 s1.2.2.2.1, .int .i64 x0.MinFrac_, .int .i64 x0.MaxFrac_, .int .i64 x0.G1_, .int .i64 x0.G2_, .int .i64 x0.MinSig_, .int .i64 x0.MaxSig_, .int .i64 x0.Exp_, .bool x0.ExpPlus_, .int .i32 x0.Pad_, .int .i64 x0.PadAt_], .box [.nl, .nl, .nl, .nl, .bool false, .int .i64 0, .int .i64 0, .int .i64 0, .int .i64 0, .int .i64 0, .int .i64 0, .int .i64 0, .int .i64 0, .int .i64 0, .bool false, .int .i32 0, .int .i64 0], vecL (encI .i64) 1 3 s1.2.2.2.2]) (by kernel_rfl) hm (fun hc => rfl) (by kernel_rfl) ?_
                  obtain ⟨hm, h647⟩ := asrt h646
                  refine RJ.rel (d := (some 70)) (ef := ⟨(((s1.2.2.2.2).flatMap (encI .i64)).drop ((1 : Int).toNat * 1)).headD .undef, [2], []⟩) (ef' := ⟨.int .i64 (nth s1.2.2.2.2 1), [2], []⟩) (c := Nat.blt ((1 : Int).toNat * 1) (s1.2.2.2.2.flatMap (encI .i64)).length) (tr2 := []) (H2 := [.box [lsv encSt108 2 x0.Pre_, lsv encSt108 2 x0.Suf_, lsv encSt108 2 x0.NPre_, lsv encSt108 2 x0.NSuf_, .bool x0.Neg_, .int .i64 s1.2.2.1, .int .i64 s1.2.2.2.1, .int .i64 x0.MinFrac_, .int .i64 x0.MaxFrac_, .int .i64 x0.G1_, .int .i64 x0.G2_, .int .i64 x0.MinSig_, .int .i64 x0.MaxSig_, .int .i64 x0.Exp_, .bool x0.ExpPlus_, .int .i32 x0.Pad_, .int .i64 x0.PadAt_], .box [.nl, .nl, .nl, .nl, .bool false, .int .i64 0, .int .i64 0, .int .i64 0, .int .i64 0, .int .i64 0, .int .i64 0, .int .i64 0, .int .i64 0, .int .i64 0, .bool false, .int .i32 0, .int .i64 0], vecL (encI .i64) 1 3 s1.2.2.2.2]) (by kernel_rfl) (loadv_ok (encI_len .i64) rfl hm) (fun hc => N.load1 (encI_len .i64) (fun _ => rfl) hm) (by kernel_rfl) ?_
                  refine kC 3 [1,2,3,6,7,8,9,10,73] ?_
                  refine kE ?_
                  obtain rfl := oi h647
                  exact kN [1, 2, 3, 6, 7, 8, 9, 10, 73]
                · have h645 := condF hb643 hy640
                  refine kC 6 [1,2,3,6,7,8,9,10,73] ?_
                  refine kE ?_
                  obtain rfl := oi h645
                  exact kN [1, 2, 3, 6, 7, 8, 9, 10, 73]
              · refine J.caseB 73 (b := s638) (by kernel_rfl) (fun hb648 => ?_) (fun hb648 => ?_)
                · have h649 := condT hb648 h642
                  refine kT ?_
                  refine kSR ?_
                  refine kC 5 [1,2,3,6,7,8,9,10] ?_
                  refine kEN ?_
                  refine kX ?_
                  obtain rfl := oi h649
                  have h651 := joinX_inr h631
                  refine PJ.cutXr (fun e => nomatch e) ?_
                  obtain rfl := oi h651
                  have h652 := joinX_inr h572
                  refine PJ.cutXr (fun e => nomatch e) ?_
                  refine PJ.blockRet ?_
                  obtain rfl := oi h652
                  refine PJ.loopOut (fun e => nomatch e) (fun he654 => ?_)
                  have h653 := congrArg some he654
                  refine PJ.blockRet ?_
                  obtain rfl := oi h653
                  exact kZ hFn hFH hFD
                · have h650 := condF hb648 h642
                  refine kF ?_
                  refine kK ?_
                  obtain rfl := oi h650
                  exact PJ.cutXl [1, 2, 3, 6, 7, 8, 9, 10] (by kernel_rfl) (by kernel_rfl)
            · subst hs
              have h632 := joinX_inl h631
              refine kSR ?_
              refine kC 3 [1,2,3,6,7,8,9,10,76,78] ?_
              obtain ⟨hm, h655⟩ := asrt h632
              refine RJ.rel (d := (some 79)) (ef := ⟨.vc 4, [2, 3], [(2, .gone), (4, .vec (s1.2.2.2.2.length + ([s1.2.1] : List Int).length) 1 3 (s1.2.2.2.2.flatMap (encI .i64) ++ ([s1.2.1] : List Int).flatMap (encI .i64)))]⟩) (ef' := ⟨.vc 4, [2, 3], [(2, .gone), (4, vecL (encI .i64) 1 3 (s1.2.2.2.2 ++ ([s1.2.1] : List Int)))]⟩) (c := room (s1.2.2.2.2.length + ([s1.2.1] : List Int).length)) (tr2 := []) (H2 := [.box [lsv encSt108 2 x0.Pre_, lsv encSt108 2 x0.Suf_, lsv encSt108 2 x0.NPre_, lsv encSt108 2 x0.NSuf_, .bool x0.Neg_, .int .i64 s1.2.2.1, .int .i64 s1.2.2.2.1, .int .i64 x0.MinFrac_, .int .i64 x0.MaxFrac_, .int .i64 x0.G1_, .int .i64 x0.G2_, .int .i64 x0.MinSig_, .int .i64 x0.MaxSig_, .int .i64 x0.Exp_, .bool x0.ExpPlus_, .int .i32 x0.Pad_, .int .i64 x0.PadAt_], .box [.nl, .nl, .nl, .nl, .bool false, .int .i64 0, .int .i64 0, .int .i64 0, .int .i64 0, .int .i64 0, .int .i64 0, .int .i64 0, .int .i64 0, .int .i64 0, .bool false, .int .i32 0, .int .i64 0], .gone, vecL (encI .i64) 1 3 ([s1.2.1] : List Int), vecL (encI .i64) 1 3 (s1.2.2.2.2 ++ ([s1.2.1] : List Int))]) (by kernel_rfl) hm (fun hc => N.app) (by kernel_rfl) ?_
              refine kC 1 [1,2,3,6,7,8,9,10] ?_
              refine kEN ?_
              refine kSR ?_
              refine kC 1 [1,2,3,6,7,8,9,10] ?_
              refine kEN ?_
              refine kSR ?_
              refine RJ.seg 3 [1, 2, 3, 6, 7, 8, 9, 10] (L2 := [(1, lsv (encI .i32) 1 x1), (2, .int .i64 (IntKind.wrap .i64 (s1.1 + 1))), (3, .ptr 0 0), (6, .ptr 1 0), (7, .int .i64 0), (8, .bool false), (9, .vc 4), (10, .int .i64 0)]) (H2 := [.box [lsv encSt108 2 x0.Pre_, lsv encSt108 2 x0.Suf_, lsv encSt108 2 x0.NPre_, lsv encSt108 2 x0.NSuf_, .bool x0.Neg_, .int .i64 s1.2.2.1, .int .i64 s1.2.2.2.1, .int .i64 x0.MinFrac_, .int .i64 x0.MaxFrac_, .int .i64 x0.G1_, .int .i64 x0.G2_, .int .i64 x0.MinSig_, .int .i64 x0.MaxSig_, .int .i64 x0.Exp_, .bool x0.ExpPlus_, .int .i32 x0.Pad_, .int .i64 x0.PadAt_], .box [.nl, .nl, .nl, .nl, .bool false, .int .i64 0, .int .i64 0, .int .i64 0, .int .i64 0, .int .i64 0, .int .i64 0, .int .i64 0, .int .i64 0, .int .i64 0, .bool false, .int .i32 0, .int .i64 0], .gone, vecL (encI .i64) 1 3 ([s1.2.1] : List Int), vecL (encI .i64) 1 3 (s1.2.2.2.2 ++ ([s1.2.1] : List Int))]) (by kernel_rfl) ?_
              refine kEN ?_
              refine K.exit 1 (by kernel_rfl) ?_
              obtain rfl := oi h655
              have h656 := joinX_inr h572
              refine PJ.cutXr (fun e => nomatch e) ?_
              refine PJ.blockOut ?_
              obtain rfl := oi h656
              refine PJ.wk (Wk.sel (L2 := [(1, lsv (encI .i32) 1 x1), (2, .int .i64 (IntKind.wrap .i64 (s1.1 + 1))), (3, .ptr 0 0), (6, .ptr 1 0), (7, .int .i64 0), (8, .bool false), (9, .vc 2), (10, .int .i64 0)]) (H2 := [.box [lsv encSt108 2 x0.Pre_, lsv encSt108 2 x0.Suf_, lsv encSt108 2 x0.NPre_, lsv encSt108 2 x0.NSuf_, .bool x0.Neg_, .int .i64 s1.2.2.1, .int .i64 s1.2.2.2.1, .int .i64 x0.MinFrac_, .int .i64 x0.MaxFrac_, .int .i64 x0.G1_, .int .i64 x0.G2_, .int .i64 x0.MinSig_, .int .i64 x0.MaxSig_, .int .i64 x0.Exp_, .bool x0.ExpPlus_, .int .i32 x0.Pad_, .int .i64 x0.PadAt_], .box [.nl, .nl, .nl, .nl, .bool false, .int .i64 0, .int .i64 0, .int .i64 0, .int .i64 0, .int .i64 0, .int .i64 0, .int .i64 0, .int .i64 0, .int .i64 0, .bool false, .int .i32 0, .int .i64 0], vecL (encI .i64) 1 3 (s1.2.2.2.2 ++ ([s1.2.1] : List Int))]) 0 (by rw [hFH]; rfl) hFD [0, 1, 4] (by kernel_rfl) (by kernel_rfl) (by decide) (by kernel_rfl) (by kernel_rfl) (by kernel_rfl) (by kernel_rfl)) ?_
              exact PJ.loopNext [1, 2, 3, 6, 7, 8, 9, 10] (by kernel_rfl) (by kernel_rfl)
          · have h605 := condF hb603 h590
            refine kF ?_
            refine kK ?_
            obtain rfl := oi h605
            exact PJ.cutXl [1, 2, 3, 6, 7, 8, 9, 10] (by kernel_rfl) (by kernel_rfl)
      · subst hs
        have h573 := joinX_inl h572
        obtain ⟨s660, hy662, h664⟩ := bindS h573
        refine K.cutN (by kernel_rfl) (fun (s660 : Int × Int) => ([(1, lsv (encI .i32) 1 x1), (2, .int .i64 s1.1), (3, .ptr 0 0), (6, .ptr 1 0), (7, .int .i64 0), (8, .bool false), (9, .vc 2), (10, .int .i64 s1.2.1)], [.box [lsv encSt108 2 x0.Pre_, lsv encSt108 2 x0.Suf_, lsv encSt108 2 x0.NPre_, lsv encSt108 2 x0.NSuf_, .bool x0.Neg_, .int .i64 s1.2.2.1, .int .i64 s1.2.2.2.1, .int .i64 x0.MinFrac_, .int .i64 x0.MaxFrac_, .int .i64 s660.1, .int .i64 s660.2, .int .i64 x0.MinSig_, .int .i64 x0.MaxSig_, .int .i64 x0.Exp_, .bool x0.ExpPlus_, .int .i32 x0.Pad_, .int .i64 x0.PadAt_], .box [.nl, .nl, .nl, .nl, .bool false, .int .i64 0, .int .i64 0, .int .i64 0, .int .i64 0, .int .i64 0, .int .i64 0, .int .i64 0, .int .i64 0, .int .i64 0, .bool false, .int .i32 0, .int .i64 0], vecL (encI .i64) 1 3 s1.2.2.2.2])) s660 ?_ ?_
        · refine kSR ?_
          refine kC 3 [1,2,3,6,7,8,9,10,84] ?_
          refine kEN ?_
          refine J.caseB 84 (b := (decide ((s1.2.2.2.2.length : Int) = 1))) (by kernel_rfl) (fun hb665 => ?_) (fun hb665 => ?_)
          · have h666 := condT hb665 hy662
            refine kT ?_
            refine kSR ?_
            refine kC 3 [1,2,3,6,7,8,9,10] ?_
            refine kEN ?_
            refine kR ?_
            refine kC 3 [1,2,3,6,7,8,9,10] ?_
            refine kE ?_
            obtain rfl := oi h666
            exact kN [1, 2, 3, 6, 7, 8, 9, 10]
          · have h667 := condF hb665 hy662
            refine kF ?_
            refine kK ?_
            obtain rfl := oi h667
            exact kN [1, 2, 3, 6, 7, 8, 9, 10]
        · obtain ⟨s673, hy675, h677⟩ := bindS h664
          refine K.cutN (by kernel_rfl) (fun (s673 : Int × Int) => ([(1, lsv (encI .i32) 1 x1), (2, .int .i64 s1.1), (3, .ptr 0 0), (6, .ptr 1 0), (7, .int .i64 0), (8, .bool false), (9, .vc 2), (10, .int .i64 s1.2.1)], [.box [lsv encSt108 2 x0.Pre_, lsv encSt108 2 x0.Suf_, lsv encSt108 2 x0.NPre_, lsv encSt108 2 x0.NSuf_, .bool x0.Neg_, .int .i64 s1.2.2.1, .int .i64 s1.2.2.2.1, .int .i64 x0.MinFrac_, .int .i64 x0.MaxFrac_, .int .i64 s673.1, .int .i64 s673.2, .int .i64 x0.MinSig_, .int .i64 x0.MaxSig_, .int .i64 x0.Exp_, .bool x0.ExpPlus_, .int .i32 x0.Pad_, .int .i64 x0.PadAt_], .box [.nl, .nl, .nl, .nl, .bool false, .int .i64 0, .int .i64 0, .int .i64 0, .int .i64 0, .int .i64 0, .int .i64 0, .int .i64 0, .int .i64 0, .int .i64 0, .bool false, .int .i32 0, .int .i64 0], vecL (encI .i64) 1 3 s1.2.2.2.2])) s673 ?_ ?_
          · refine kSR ?_
            refine kC 3 [1,2,3,6,7,8,9,10,91] ?_
            refine kEN ?_
            refine J.caseB 91 (b := (decide ((s1.2.2.2.2.length : Int) > 1))) (by kernel_rfl) (fun hb678 => ?_) (fun hb678 => ?_)
            · have h679 := condT hb678 hy675
              refine kT ?_
              refine kSR ?_
              refine kC 3 [1,2,3,6,7,8,9,10] ?_
              refine kEN ?_
              refine kR ?_
              refine kC 1 [1,2,3,6,7,8,9,10,94] ?_
              obtain ⟨hm, h681⟩ := asrt h679
              refine RJ.rel (d := (some 95)) (ef := ⟨.ptr 2 ((1 : Int).toNat * 1), [2], []⟩) (ef' := ⟨.ptr 2 ((1 : Int).toNat * 1), [2], []⟩) (c := inR 1 s1.2.2.2.2.length) (tr2 := []) (H2 := [.box [lsv encSt108 2 x0.Pre_, lsv encSt108 2 x0.Suf_, lsv encSt108 2 x0.NPre_, lsv encSt108 2 x0.NSuf_, .bool x0.Neg_, .int .i64 s1.2.2.1, .int .i64 s1.2.2.2.1, .int .i64 x0.MinFrac_, .int .i64 x0.MaxFrac_, .int .i64 s1.2.1, .int .i64 s660.2, .int .i64 x0.MinSig_, .int .i64 x0.MaxSig_, .int .i64 x0.Exp_, .bool x0.ExpPlus_, .int .i32 x0.Pad_, .int .i64 x0.PadAt_], .box [.nl, .nl, .nl, .nl, .bool false, .int .i64 0, .int .i64 0, .int .i64 0, .int .i64 0, .int .i64 0, .int .i64 0, .int .i64 0, .int .i64 0, .int .i64 0, .bool false, .int .i32 0, .int .i64 0], vecL (encI .i64) 1 3 s1.2.2.2.2]) (by kernel_rfl) hm (fun hc => rfl) (by kernel_rfl) ?_
              obtain ⟨hm, h682⟩ := asrt h681
              refine RJ.rel (d := (some 96)) (ef := ⟨(((s1.2.2.2.2).flatMap (encI .i64)).drop ((1 : Int).toNat * 1)).headD .undef, [2], []⟩) (ef' := ⟨.int .i64 (nth s1.2.2.2.2 1), [2], []⟩) (c := Nat.blt ((1 : Int).toNat * 1) (s1.2.2.2.2.flatMap (encI .i64)).length) (tr2 := []) (H2 := [.box [lsv encSt108 2 x0.Pre_, lsv encSt108 2 x0.Suf_, lsv encSt108 2 x0.NPre_, lsv encSt108 2 x0.NSuf_, .bool x0.Neg_, .int .i64 s1.2.2.1, .int .i64 s1.2.2.2.1, .int .i64 x0.MinFrac_, .int .i64 x0.MaxFrac_, .int .i64 s1.2.1, .int .i64 s660.2, .int .i64 x0.MinSig_, .int .i64 x0.MaxSig_, .int .i64 x0.Exp_, .bool x0.ExpPlus_, .int .i32 x0.Pad_, .int .i64 x0.PadAt_], .box [.nl, .nl, .nl, .nl, .bool false, .int .i64 0, .int .i64 0, .int .i64 0, .int .i64 0, .int .i64 0, .int .i64 0, .int .i64 0, .int .i64 0, .int .i64 0, .bool false, .int .i32 0, .int .i64 0], vecL (encI .i64) 1 3 s1.2.2.2.2]) (by kernel_rfl) (loadv_ok (encI_len .i64) rfl hm) (fun hc => N.load1 (encI_len .i64) (fun _ => rfl) hm) (by kernel_rfl) ?_
              refine RJ.seg 2 [1, 2, 3, 6, 7, 8, 9, 10] (L2 := [(1, lsv (encI .i32) 1 x1), (2, .int .i64 s1.1), (3, .ptr 0 0), (6, .ptr 1 0), (7, .int .i64 0), (8, .bool false), (9, .vc 2), (10, .int .i64 s1.2.1)]) (H2 := [.box [lsv encSt108 2 x0.Pre_, lsv encSt108 2 x0.Suf_, lsv encSt108 2 x0.NPre_, lsv encSt108 2 x0.NSuf_, .bool x0.Neg_, .int .i64 s1.2.2.1, .int .i64 s1.2.2.2.1, .int .i64 x0.MinFrac_, .int .i64 x0.MaxFrac_, .int .i64 s1.2.1, .int .i64 (nth s1.2.2.2.2 1), .int .i64 x0.MinSig_, .int .i64 x0.MaxSig_, .int .i64 x0.Exp_, .bool x0.ExpPlus_, .int .i32 x0.Pad_, .int .i64 x0.PadAt_], .box [.nl, .nl, .nl, .nl, .bool false, .int .i64 0, .int .i64 0, .int .i64 0, .int .i64 0, .int .i64 0, .int .i64 0, .int .i64 0, .int .i64 0, .int .i64 0, .bool false, .int .i32 0, .int .i64 0], vecL (encI .i64) 1 3 s1.2.2.2.2]) (by kernel_rfl) ?_
              refine kE ?_
              obtain rfl := oi h682
              exact kN [1, 2, 3, 6, 7, 8, 9, 10]
            · have h680 := condF hb678 hy675
              refine kF ?_
              refine kK ?_
              obtain rfl := oi h680
              exact kN [1, 2, 3, 6, 7, 8, 9, 10]
          · refine kS ?_
            refine J.keep [1, 2, 3, 6, 7, 8, 9, 10] (L2 := [(1, lsv (encI .i32) 1 x1), (2, .int .i64 s1.1), (3, .ptr 0 0), (6, .ptr 1 0), (7, .int .i64 0), (8, .bool false), (9, .vc 2), (10, .int .i64 s1.2.1)]) (by kernel_rfl) ?_
            refine K.draw (by kernel_rfl) (by kernel_rfl) (by kernel_rfl) (H2 := [.box [lsv encSt108 2 x0.Pre_, lsv encSt108 2 x0.Suf_, lsv encSt108 2 x0.NPre_, lsv encSt108 2 x0.NSuf_, .bool x0.Neg_, .int .i64 s1.2.2.1, .int .i64 s1.2.2.2.1, .int .i64 x0.MinFrac_, .int .i64 x0.MaxFrac_, .int .i64 s673.1, .int .i64 s673.2, .int .i64 x0.MinSig_, .int .i64 x0.MaxSig_, .int .i64 x0.Exp_, .bool x0.ExpPlus_, .int .i32 x0.Pad_, .int .i64 x0.PadAt_], .box [.nl, .nl, .nl, .nl, .bool false, .int .i64 0, .int .i64 0, .int .i64 0, .int .i64 0, .int .i64 0, .int .i64 0, .int .i64 0, .int .i64 0, .int .i64 0, .bool false, .int .i32 0, .int .i64 0], vecL (encI .i64) 1 3 s1.2.2.2.2]) (by kernel_rfl) (n := 3) (by kernel_rfl) ?_
            refine kD 11 ?_
            refine kEN ?_
            refine kX ?_
            refine PJ.blockRet ?_
            obtain rfl := oi h677
            refine PJ.loopOut (fun e => nomatch e) (fun he684 => ?_)
            have h683 := congrArg some he684
            refine PJ.blockRet ?_
            obtain rfl := oi h683
            exact kZ hFn hFH hFD

def exergueref10_number (x0 : St25) (x1 : List Int) (x2 : Int) : Option (St25 × Int × Bool) :=
  (Option.bind (exergueref10_many x1 x2 64) fun y1 => (Option.bind (bif (decide (y1 > 0)) then (Option.bind (exergueref10_many x1 (IntKind.wrap .i64 (x2 + y1)) 35) fun y41 => (some (.inl ((IntKind.wrap .i64 ((IntKind.wrap .i64 (x2 + y1)) + y41)), x0.Pre_, x0.Suf_, x0.NPre_, x0.NSuf_, x0.Neg_, x0.Hash_, x0.MinInt_, x0.MinFrac_, x0.MaxFrac_, x0.G1_, x0.G2_, y1, (IntKind.wrap .i64 (y1 + y41)), x0.Exp_, x0.ExpPlus_, x0.Pad_, x0.PadAt_)))) else (Option.bind (exergueref10_places x0 x1 x2) fun y44 => (bif (!y44.2.2) then (some (.inr (x0, y44.2.1, false))) else (Option.bind (exergueref10_at x1 y44.2.1) fun y51 => (bif (decide (y51 = 46)) then (Option.bind (exergueref10_many x1 (IntKind.wrap .i64 (y44.2.1 + 1)) 48) fun y57 => (Option.bind (exergueref10_many x1 ((IntKind.wrap .i64 ((IntKind.wrap .i64 (y44.2.1 + 1)) + y57))) 35) fun y60 => (bif (decide ((IntKind.wrap .i64 (y57 + y60)) = 0)) then (some (.inr ((⟨y44.1.Pre_, y44.1.Suf_, y44.1.NPre_, y44.1.NSuf_, y44.1.Neg_, y44.1.Hash_, y44.1.MinInt_, y57, (IntKind.wrap .i64 (y57 + y60)), y44.1.G1_, y44.1.G2_, y44.1.MinSig_, y44.1.MaxSig_, y44.1.Exp_, y44.1.ExpPlus_, y44.1.Pad_, y44.1.PadAt_⟩ : St25), (IntKind.wrap .i64 (((IntKind.wrap .i64 ((IntKind.wrap .i64 (y44.2.1 + 1)) + y57))) + y60)), false))) else (some (.inl ((IntKind.wrap .i64 (((IntKind.wrap .i64 ((IntKind.wrap .i64 (y44.2.1 + 1)) + y57))) + y60)), y44.1.Pre_, y44.1.Suf_, y44.1.NPre_, y44.1.NSuf_, y44.1.Neg_, y44.1.Hash_, y44.1.MinInt_, y57, (IntKind.wrap .i64 (y57 + y60)), y44.1.G1_, y44.1.G2_, y44.1.MinSig_, y44.1.MaxSig_, y44.1.Exp_, y44.1.ExpPlus_, y44.1.Pad_, y44.1.PadAt_)))))) else (some (.inl (y44.2.1, y44.1.Pre_, y44.1.Suf_, y44.1.NPre_, y44.1.NSuf_, y44.1.Neg_, y44.1.Hash_, y44.1.MinInt_, y44.1.MinFrac_, y44.1.MaxFrac_, y44.1.G1_, y44.1.G2_, y44.1.MinSig_, y44.1.MaxSig_, y44.1.Exp_, y44.1.ExpPlus_, y44.1.Pad_, y44.1.PadAt_)))))))) (joinX fun (s33 : Int × (List St108) × (List St108) × (List St108) × (List St108) × Bool × Int × Int × Int × Int × Int × Int × Int × Int × Int × Bool × Int × Int) => (Option.bind (exergueref10_at x1 s33.1) fun y67 => (bif (decide (¬ y67 = 69)) then (some ((⟨s33.2.1, s33.2.2.1, s33.2.2.2.1, s33.2.2.2.2.1, s33.2.2.2.2.2.1, s33.2.2.2.2.2.2.1, s33.2.2.2.2.2.2.2.1, s33.2.2.2.2.2.2.2.2.1, s33.2.2.2.2.2.2.2.2.2.1, s33.2.2.2.2.2.2.2.2.2.2.1, s33.2.2.2.2.2.2.2.2.2.2.2.1, s33.2.2.2.2.2.2.2.2.2.2.2.2.1, s33.2.2.2.2.2.2.2.2.2.2.2.2.2.1, s33.2.2.2.2.2.2.2.2.2.2.2.2.2.2.1, s33.2.2.2.2.2.2.2.2.2.2.2.2.2.2.2.1, s33.2.2.2.2.2.2.2.2.2.2.2.2.2.2.2.2.1, s33.2.2.2.2.2.2.2.2.2.2.2.2.2.2.2.2.2⟩ : St25), s33.1, true)) else (Option.bind (Option.bind (exergueref10_at x1 (IntKind.wrap .i64 (s33.1 + 1))) fun y84 => (bif (decide (y84 = 43)) then (some ((IntKind.wrap .i64 ((IntKind.wrap .i64 (s33.1 + 1)) + 1)), true)) else (some ((IntKind.wrap .i64 (s33.1 + 1)), s33.2.2.2.2.2.2.2.2.2.2.2.2.2.2.2.1)))) fun (s79 : Int × Bool) => (Option.bind (exergueref10_many x1 s79.1 48) fun y90 => (some ((⟨s33.2.1, s33.2.2.1, s33.2.2.2.1, s33.2.2.2.2.1, s33.2.2.2.2.2.1, s33.2.2.2.2.2.2.1, s33.2.2.2.2.2.2.2.1, s33.2.2.2.2.2.2.2.2.1, s33.2.2.2.2.2.2.2.2.2.1, s33.2.2.2.2.2.2.2.2.2.2.1, s33.2.2.2.2.2.2.2.2.2.2.2.1, s33.2.2.2.2.2.2.2.2.2.2.2.2.1, s33.2.2.2.2.2.2.2.2.2.2.2.2.2.1, y90, s79.2, s33.2.2.2.2.2.2.2.2.2.2.2.2.2.2.2.2.1, s33.2.2.2.2.2.2.2.2.2.2.2.2.2.2.2.2.2⟩ : St25), (IntKind.wrap .i64 (s79.1 + y90)), (decide (y90 > 0)))))))))))
theorem exergueref10_number_ok {x0 : St25} {x1 : List Int} {x2 : Int} {r : St25 × Int × Bool} (h : exergueref10_number x0 x1 x2 = some r) : SC Try.prog 94 [.agg (encSt25 x0), lsv (encI .i32) 1 x1, .int .i64 x2] [] (.tup [.agg (encSt25 r.1), .int .i64 r.2.1, .bool r.2.2]) [] := by
  refine kFn (fn := Try.f94) (fun F hFn hFH hFD => ?_)
  unfold exergueref10_number at h
  refine kSR ?_
  refine kC 4 [1,2,3,6,7,8] ?_
  refine kEN ?_
  refine kSR ?_
  refine kC 2 [1,2,3,6,7,8,16,17] ?_
  obtain ⟨y1, hy2, h3⟩ := bindS h
  refine RJ.call0 (d := (some 18)) (f := 110) (args := [lsv (encI .i32) 1 x1, .int .i64 x2, .int .i32 64]) (v := .int .i64 y1) (tr2 := []) (by kernel_rfl) (by kernel_rfl) (.cons (Le.refl _) (.cons (Le.refl _) (.cons (Le.refl _) .nil))) (exergueref10_many_ok hy2) (by kernel_rfl) ?_
  refine kC 1 [1,2,3,6,7,8,9] ?_
  refine kEN ?_
  obtain ⟨y34, hy35, h36⟩ := bindS h3
  refine K.cutX (by kernel_rfl) (fun (s33 : Int × (List St108) × (List St108) × (List St108) × (List St108) × Bool × Int × Int × Int × Int × Int × Int × Int × Int × Int × Bool × Int × Int) => ([(1, lsv (encI .i32) 1 x1), (2, .int .i64 s33.1), (3, .ptr 0 0), (6, .ptr 1 0), (7, .int .i64 0), (8, .bool false)], [.box [lsv encSt108 2 s33.2.1, lsv encSt108 2 s33.2.2.1, lsv encSt108 2 s33.2.2.2.1, lsv encSt108 2 s33.2.2.2.2.1, .bool s33.2.2.2.2.2.1, .int .i64 s33.2.2.2.2.2.2.1, .int .i64 s33.2.2.2.2.2.2.2.1, .int .i64 s33.2.2.2.2.2.2.2.2.1, .int .i64 s33.2.2.2.2.2.2.2.2.2.1, .int .i64 s33.2.2.2.2.2.2.2.2.2.2.1, .int .i64 s33.2.2.2.2.2.2.2.2.2.2.2.1, .int .i64 s33.2.2.2.2.2.2.2.2.2.2.2.2.1, .int .i64 s33.2.2.2.2.2.2.2.2.2.2.2.2.2.1, .int .i64 s33.2.2.2.2.2.2.2.2.2.2.2.2.2.2.1, .bool s33.2.2.2.2.2.2.2.2.2.2.2.2.2.2.2.1, .int .i32 s33.2.2.2.2.2.2.2.2.2.2.2.2.2.2.2.2.1, .int .i64 s33.2.2.2.2.2.2.2.2.2.2.2.2.2.2.2.2.2], .box [.nl, .nl, .nl, .nl, .bool false, .int .i64 0, .int .i64 0, .int .i64 0, .int .i64 0, .int .i64 0, .int .i64 0, .int .i64 0, .int .i64 0, .int .i64 0, .bool false, .int .i32 0, .int .i64 0]])) y34 ?_ (fun s33 hs => ?_)
  · refine kSR ?_
    refine RJ.seg 2 [1, 2, 3, 6, 7, 8, 9, 20] (L2 := [(1, lsv (encI .i32) 1 x1), (2, .int .i64 x2), (3, .ptr 0 0), (6, .ptr 1 0), (7, .int .i64 0), (8, .bool false), (9, .int .i64 y1), (20, .bool (decide (y1 > 0)))]) (H2 := [.box (encSt25 x0), .box [.nl, .nl, .nl, .nl, .bool false, .int .i64 0, .int .i64 0, .int .i64 0, .int .i64 0, .int .i64 0, .int .i64 0, .int .i64 0, .int .i64 0, .int .i64 0, .bool false, .int .i32 0, .int .i64 0]]) (by kernel_rfl) ?_
    refine kEN ?_
    refine J.caseB 20 (b := (decide (y1 > 0))) (by kernel_rfl) (fun hb38 => ?_) (fun hb38 => ?_)
    · have h39 := condT hb38 hy35
      refine kT ?_
      refine kSR ?_
      refine kC 4 [1,2,3,6,7,8,9,21,24] ?_
      obtain ⟨y41, hy42, h43⟩ := bindS h39
      refine RJ.call0 (d := (some 25)) (f := 110) (args := [lsv (encI .i32) 1 x1, .int .i64 (IntKind.wrap .i64 (x2 + y1)), .int .i32 35]) (v := .int .i64 y41) (tr2 := []) (by kernel_rfl) (by kernel_rfl) (.cons (Le.refl _) (.cons (Le.refl _) (.cons (Le.refl _) .nil))) (exergueref10_many_ok hy42) (by kernel_rfl) ?_
      refine kC 1 [1,2,3,6,7,8,9,10] ?_
      refine kEN ?_
      refine kSR ?_
      refine kC 3 [1,2,3,6,7,8,9,10] ?_
      refine kEN ?_
      refine kSR ?_
      refine RJ.seg 5 [1, 2, 3, 6, 7, 8, 9, 10] (L2 := [(1, lsv (encI .i32) 1 x1), (2, .int .i64 x2), (3, .ptr 0 0), (6, .ptr 1 0), (7, .int .i64 0), (8, .bool false), (9, .int .i64 y1), (10, .int .i64 y41)]) (H2 := [.box [lsv encSt108 2 x0.Pre_, lsv encSt108 2 x0.Suf_, lsv encSt108 2 x0.NPre_, lsv encSt108 2 x0.NSuf_, .bool x0.Neg_, .int .i64 x0.Hash_, .int .i64 x0.MinInt_, .int .i64 x0.MinFrac_, .int .i64 x0.MaxFrac_, .int .i64 x0.G1_, .int .i64 x0.G2_, .int .i64 y1, .int .i64 (IntKind.wrap .i64 (y1 + y41)), .int .i64 x0.Exp_, .bool x0.ExpPlus_, .int .i32 x0.Pad_, .int .i64 x0.PadAt_], .box [.nl, .nl, .nl, .nl, .bool false, .int .i64 0, .int .i64 0, .int .i64 0, .int .i64 0, .int .i64 0, .int .i64 0, .int .i64 0, .int .i64 0, .int .i64 0, .bool false, .int .i32 0, .int .i64 0]]) (by kernel_rfl) ?_
      refine kEN ?_
      refine kR ?_
      refine kC 6 [1,2,3,6,7,8] ?_
      refine kE ?_
      obtain rfl := oi h43
      exact PJ.cutXl [1, 2, 3, 6, 7, 8] (by kernel_rfl) (by kernel_rfl)
    · have h40 := condF hb38 hy35
      refine kF ?_
      refine kSR ?_
      refine kC 3 [1,2,3,6,7,8,38,39,40] ?_
      obtain ⟨y44, hy45, h46⟩ := bindS h40
      refine RJ.call0 (d := (some 41)) (f := 111) (args := [.agg (encSt25 x0), lsv (encI .i32) 1 x1, .int .i64 x2]) (v := .tup [.agg (encSt25 y44.1), .int .i64 y44.2.1, .bool y44.2.2]) (tr2 := []) (by kernel_rfl) (by kernel_rfl) (.cons (Le.refl _) (.cons (Le.refl _) (.cons (Le.refl _) .nil))) (exergueref10_places_ok hy45) (by kernel_rfl) ?_
      refine kC 8 [1,2,3,6,7,8,11,12,13] ?_
      refine kEN ?_
      refine kS ?_
      refine kSR ?_
      refine kC 2 [1,2,3,6,7,8,11,12,46] ?_
      refine kEN ?_
      refine J.caseB 46 (b := (!y44.2.2)) (by kernel_rfl) (fun hb47 => ?_) (fun hb47 => ?_)
      · have h48 := condT hb47 h46
        refine kT ?_
        refine kSR ?_
        refine RJ.seg 5 [1, 2, 3, 6, 7, 8, 11, 12] (L2 := [(1, lsv (encI .i32) 1 x1), (2, .int .i64 x2), (3, .ptr 0 0), (6, .ptr 1 0), (7, .int .i64 y44.2.1), (8, .bool false), (11, .ptr 2 0), (12, .int .i64 y44.2.1)]) (H2 := [.box (encSt25 x0), .box (encSt25 x0), .box (encSt25 y44.1)]) (by kernel_rfl) ?_
        refine kEN ?_
        refine kX ?_
        refine PJ.passRet ?_
        obtain rfl := oi h48
        have h50 := joinX_inr h36
        refine PJ.cutXr (fun e => nomatch e) ?_
        obtain rfl := oi h50
        exact kZ hFn hFH hFD
      · have h49 := condF hb47 h46
        refine kF ?_
        refine kK ?_
        refine PJ.next ?_
        refine kSR ?_
        refine RJ.seg 2 [1, 2, 3, 6, 7, 8, 12] (L2 := [(1, lsv (encI .i32) 1 x1), (2, .int .i64 x2), (3, .ptr 0 0), (6, .ptr 1 0), (7, .int .i64 0), (8, .bool false), (12, .int .i64 y44.2.1)]) (H2 := [.box (encSt25 y44.1), .box [.nl, .nl, .nl, .nl, .bool false, .int .i64 0, .int .i64 0, .int .i64 0, .int .i64 0, .int .i64 0, .int .i64 0, .int .i64 0, .int .i64 0, .int .i64 0, .bool false, .int .i32 0, .int .i64 0], .box (encSt25 y44.1)]) (by kernel_rfl) ?_
        refine kEN ?_
        refine kSR ?_
        refine kC 2 [1,2,3,6,7,8] ?_
        refine kEN ?_
        refine kSR ?_
        refine kC 2 [1,2,3,6,7,8,51,52] ?_
        obtain ⟨y51, hy52, h53⟩ := bindS h49
        refine RJ.call0 (d := (some 53)) (f := 77) (args := [lsv (encI .i32) 1 x1, .int .i64 y44.2.1]) (v := .int .i32 y51) (tr2 := []) (by kernel_rfl) (by kernel_rfl) (.cons (Le.refl _) (.cons (Le.refl _) .nil)) (exergueref10_at_ok hy52) (by kernel_rfl) ?_
        refine kC 1 [1,2,3,6,7,8,54] ?_
        refine kEN ?_
        refine J.caseB 54 (b := (decide (y51 = 46))) (by kernel_rfl) (fun hb54 => ?_) (fun hb54 => ?_)
        · have h55 := condT hb54 h53
          refine kT ?_
          refine kSR ?_
          refine RJ.seg 3 [1, 2, 3, 6, 7, 8, 55, 57] (L2 := [(1, lsv (encI .i32) 1 x1), (2, .int .i64 y44.2.1), (3, .ptr 0 0), (6, .ptr 1 0), (7, .int .i64 0), (8, .bool false), (55, lsv (encI .i32) 1 x1), (57, .int .i64 (IntKind.wrap .i64 (y44.2.1 + 1)))]) (H2 := [.box (encSt25 y44.1), .box [.nl, .nl, .nl, .nl, .bool false, .int .i64 0, .int .i64 0, .int .i64 0, .int .i64 0, .int .i64 0, .int .i64 0, .int .i64 0, .int .i64 0, .int .i64 0, .bool false, .int .i32 0, .int .i64 0], .box (encSt25 y44.1)]) (by kernel_rfl) ?_
          obtain ⟨y57, hy58, h59⟩ := bindS h55
          refine RJ.call0 (d := (some 58)) (f := 110) (args := [lsv (encI .i32) 1 x1, .int .i64 (IntKind.wrap .i64 (y44.2.1 + 1)), .int .i32 48]) (v := .int .i64 y57) (tr2 := []) (by kernel_rfl) (by kernel_rfl) (.cons (Le.refl _) (.cons (Le.refl _) (.cons (Le.refl _) .nil))) (exergueref10_many_ok hy58) (by kernel_rfl) ?_
          refine kC 1 [1,2,3,6,7,8,14] ?_
          refine kEN ?_
          refine kSR ?_
          refine kC 5 [1,2,3,6,7,8,14,59,63] ?_
          obtain ⟨y60, hy61, h62⟩ := bindS h59
          refine RJ.call0 (d := (some 64)) (f := 110) (args := [lsv (encI .i32) 1 x1, .int .i64 ((IntKind.wrap .i64 ((IntKind.wrap .i64 (y44.2.1 + 1)) + y57))), .int .i32 35]) (v := .int .i64 y60) (tr2 := []) (by kernel_rfl) (by kernel_rfl) (.cons (Le.refl _) (.cons (Le.refl _) (.cons (Le.refl _) .nil))) (exergueref10_many_ok hy61) (by kernel_rfl) ?_
          refine kC 1 [1,2,3,6,7,8,14,15] ?_
          refine kEN ?_
          refine kSR ?_
          refine RJ.seg 3 [1, 2, 3, 6, 7, 8, 14, 15] (L2 := [(1, lsv (encI .i32) 1 x1), (2, .int .i64 y44.2.1), (3, .ptr 0 0), (6, .ptr 1 0), (7, .int .i64 0), (8, .bool false), (14, .int .i64 y57), (15, .int .i64 y60)]) (H2 := [.box [lsv encSt108 2 y44.1.Pre_, lsv encSt108 2 y44.1.Suf_, lsv encSt108 2 y44.1.NPre_, lsv encSt108 2 y44.1.NSuf_, .bool y44.1.Neg_, .int .i64 y44.1.Hash_, .int .i64 y44.1.MinInt_, .int .i64 y57, .int .i64 y44.1.MaxFrac_, .int .i64 y44.1.G1_, .int .i64 y44.1.G2_, .int .i64 y44.1.MinSig_, .int .i64 y44.1.MaxSig_, .int .i64 y44.1.Exp_, .bool y44.1.ExpPlus_, .int .i32 y44.1.Pad_, .int .i64 y44.1.PadAt_], .box [.nl, .nl, .nl, .nl, .bool false, .int .i64 0, .int .i64 0, .int .i64 0, .int .i64 0, .int .i64 0, .int .i64 0, .int .i64 0, .int .i64 0, .int .i64 0, .bool false, .int .i32 0, .int .i64 0], .box (encSt25 y44.1)]) (by kernel_rfl) ?_
          refine kEN ?_
          refine kSR ?_
          refine kC 5 [1,2,3,6,7,8,14,15] ?_
          refine kEN ?_
          refine kSR ?_
          refine kC 7 [1,2,3,6,7,8,14,15] ?_
          refine kEN ?_
          refine kSR ?_
          refine kC 4 [1,2,3,6,7,8,80] ?_
          refine kEN ?_
          refine J.caseB 80 (b := (decide ((IntKind.wrap .i64 (y57 + y60)) = 0))) (by kernel_rfl) (fun hb63 => ?_) (fun hb63 => ?_)
          · have h64 := condT hb63 h62
            refine kT ?_
            refine kSR ?_
            refine RJ.seg 5 [1, 2, 3, 6, 7, 8] (L2 := [(1, lsv (encI .i32) 1 x1), (2, .int .i64 ((IntKind.wrap .i64 (((IntKind.wrap .i64 ((IntKind.wrap .i64 (y44.2.1 + 1)) + y57))) + y60)))), (3, .ptr 0 0), (6, .ptr 1 0), (7, .int .i64 ((IntKind.wrap .i64 (((IntKind.wrap .i64 ((IntKind.wrap .i64 (y44.2.1 + 1)) + y57))) + y60)))), (8, .bool false)]) (H2 := [.box [lsv encSt108 2 y44.1.Pre_, lsv encSt108 2 y44.1.Suf_, lsv encSt108 2 y44.1.NPre_, lsv encSt108 2 y44.1.NSuf_, .bool y44.1.Neg_, .int .i64 y44.1.Hash_, .int .i64 y44.1.MinInt_, .int .i64 y57, .int .i64 (IntKind.wrap .i64 (y57 + y60)), .int .i64 y44.1.G1_, .int .i64 y44.1.G2_, .int .i64 y44.1.MinSig_, .int .i64 y44.1.MaxSig_, .int .i64 y44.1.Exp_, .bool y44.1.ExpPlus_, .int .i32 y44.1.Pad_, .int .i64 y44.1.PadAt_], .box [lsv encSt108 2 y44.1.Pre_, lsv encSt108 2 y44.1.Suf_, lsv encSt108 2 y44.1.NPre_, lsv encSt108 2 y44.1.NSuf_, .bool y44.1.Neg_, .int .i64 y44.1.Hash_, .int .i64 y44.1.MinInt_, .int .i64 y57, .int .i64 (IntKind.wrap .i64 (y57 + y60)), .int .i64 y44.1.G1_, .int .i64 y44.1.G2_, .int .i64 y44.1.MinSig_, .int .i64 y44.1.MaxSig_, .int .i64 y44.1.Exp_, .bool y44.1.ExpPlus_, .int .i32 y44.1.Pad_, .int .i64 y44.1.PadAt_], .box (encSt25 y44.1)]) (by kernel_rfl) ?_
            refine kEN ?_
            refine kX ?_
            obtain rfl := oi h64
            have h66 := joinX_inr h36
            refine PJ.cutXr (fun e => nomatch e) ?_
            obtain rfl := oi h66
            exact kZ hFn hFH hFD
          · have h65 := condF hb63 h62
            refine kF ?_
            refine kK ?_
            obtain rfl := oi h65
            refine PJ.wk (Wk.sel (L2 := [(1, lsv (encI .i32) 1 x1), (2, .int .i64 ((IntKind.wrap .i64 (((IntKind.wrap .i64 ((IntKind.wrap .i64 (y44.2.1 + 1)) + y57))) + y60)))), (3, .ptr 0 0), (6, .ptr 1 0), (7, .int .i64 0), (8, .bool false)]) (H2 := [.box [lsv encSt108 2 y44.1.Pre_, lsv encSt108 2 y44.1.Suf_, lsv encSt108 2 y44.1.NPre_, lsv encSt108 2 y44.1.NSuf_, .bool y44.1.Neg_, .int .i64 y44.1.Hash_, .int .i64 y44.1.MinInt_, .int .i64 y57, .int .i64 (IntKind.wrap .i64 (y57 + y60)), .int .i64 y44.1.G1_, .int .i64 y44.1.G2_, .int .i64 y44.1.MinSig_, .int .i64 y44.1.MaxSig_, .int .i64 y44.1.Exp_, .bool y44.1.ExpPlus_, .int .i32 y44.1.Pad_, .int .i64 y44.1.PadAt_], .box [.nl, .nl, .nl, .nl, .bool false, .int .i64 0, .int .i64 0, .int .i64 0, .int .i64 0, .int .i64 0, .int .i64 0, .int .i64 0, .int .i64 0, .int .i64 0, .bool false, .int .i32 0, .int .i64 0]]) 0 (by rw [hFH]; rfl) hFD [0, 1] (by kernel_rfl) (by kernel_rfl) (by decide) (by kernel_rfl) (by kernel_rfl) (by kernel_rfl) (by kernel_rfl)) ?_
            exact PJ.cutXl [1, 2, 3, 6, 7, 8] (by kernel_rfl) (by kernel_rfl)
        · have h56 := condF hb54 h53
          refine kF ?_
          refine kK ?_
          obtain rfl := oi h56
          refine PJ.wk (Wk.sel (L2 := [(1, lsv (encI .i32) 1 x1), (2, .int .i64 y44.2.1), (3, .ptr 0 0), (6, .ptr 1 0), (7, .int .i64 0), (8, .bool false)]) (H2 := [.box (encSt25 y44.1), .box [.nl, .nl, .nl, .nl, .bool false, .int .i64 0, .int .i64 0, .int .i64 0, .int .i64 0, .int .i64 0, .int .i64 0, .int .i64 0, .int .i64 0, .int .i64 0, .bool false, .int .i32 0, .int .i64 0]]) 0 (by rw [hFH]; rfl) hFD [0, 1] (by kernel_rfl) (by kernel_rfl) (by decide) (by kernel_rfl) (by kernel_rfl) (by kernel_rfl) (by kernel_rfl)) ?_
          exact PJ.cutXl [1, 2, 3, 6, 7, 8] (by kernel_rfl) (by kernel_rfl)
  · subst hs
    have h37 := joinX_inl h36
    refine kS ?_
    refine kSR ?_
    refine kC 2 [1,2,3,6,7,8,83,84] ?_
    obtain ⟨y67, hy68, h69⟩ := bindS h37
    refine RJ.call0 (d := (some 85)) (f := 77) (args := [lsv (encI .i32) 1 x1, .int .i64 s33.1]) (v := .int .i32 y67) (tr2 := []) (by kernel_rfl) (by kernel_rfl) (.cons (Le.refl _) (.cons (Le.refl _) .nil)) (exergueref10_at_ok hy68) (by kernel_rfl) ?_
    refine kC 1 [1,2,3,6,7,8,86] ?_
    refine kEN ?_
    refine J.caseB 86 (b := (decide (¬ y67 = 69))) (by kernel_rfl) (fun hb70 => ?_) (fun hb70 => ?_)
    · have h71 := condT hb70 h69
      refine kT ?_
      refine kSR ?_
      refine kC 5 [1,2,3,6,7,8] ?_
      refine kEN ?_
      refine kX ?_
      refine PJ.passRet ?_
      obtain rfl := oi h71
      exact kZ hFn hFH hFD
    · have h72 := condF hb70 h69
      refine kF ?_
      refine kK ?_
      refine PJ.next ?_
      refine kSR ?_
      refine kC 3 [1,2,3,6,7,8] ?_
      refine kEN ?_
      obtain ⟨s79, hy81, h83⟩ := bindS h72
      refine K.cutN (by kernel_rfl) (fun (s79 : Int × Bool) => ([(1, lsv (encI .i32) 1 x1), (2, .int .i64 s79.1), (3, .ptr 0 0), (6, .ptr 1 0), (7, .int .i64 0), (8, .bool false)], [.box [lsv encSt108 2 s33.2.1, lsv encSt108 2 s33.2.2.1, lsv encSt108 2 s33.2.2.2.1, lsv encSt108 2 s33.2.2.2.2.1, .bool s33.2.2.2.2.2.1, .int .i64 s33.2.2.2.2.2.2.1, .int .i64 s33.2.2.2.2.2.2.2.1, .int .i64 s33.2.2.2.2.2.2.2.2.1, .int .i64 s33.2.2.2.2.2.2.2.2.2.1, .int .i64 s33.2.2.2.2.2.2.2.2.2.2.1, .int .i64 s33.2.2.2.2.2.2.2.2.2.2.2.1, .int .i64 s33.2.2.2.2.2.2.2.2.2.2.2.2.1, .int .i64 s33.2.2.2.2.2.2.2.2.2.2.2.2.2.1, .int .i64 s33.2.2.2.2.2.2.2.2.2.2.2.2.2.2.1, .bool s79.2, .int .i32 s33.2.2.2.2.2.2.2.2.2.2.2.2.2.2.2.2.1, .int .i64 s33.2.2.2.2.2.2.2.2.2.2.2.2.2.2.2.2.2], .box [.nl, .nl, .nl, .nl, .bool false, .int .i64 0, .int .i64 0, .int .i64 0, .int .i64 0, .int .i64 0, .int .i64 0, .int .i64 0, .int .i64 0, .int .i64 0, .bool false, .int .i32 0, .int .i64 0]])) s79 ?_ ?_
      · refine kSR ?_
        refine RJ.seg 2 [1, 2, 3, 6, 7, 8, 91, 92] (L2 := [(1, lsv (encI .i32) 1 x1), (2, .int .i64 (IntKind.wrap .i64 (s33.1 + 1))), (3, .ptr 0 0), (6, .ptr 1 0), (7, .int .i64 0), (8, .bool false), (91, lsv (encI .i32) 1 x1), (92, .int .i64 (IntKind.wrap .i64 (s33.1 + 1)))]) (H2 := [.box [lsv encSt108 2 s33.2.1, lsv encSt108 2 s33.2.2.1, lsv encSt108 2 s33.2.2.2.1, lsv encSt108 2 s33.2.2.2.2.1, .bool s33.2.2.2.2.2.1, .int .i64 s33.2.2.2.2.2.2.1, .int .i64 s33.2.2.2.2.2.2.2.1, .int .i64 s33.2.2.2.2.2.2.2.2.1, .int .i64 s33.2.2.2.2.2.2.2.2.2.1, .int .i64 s33.2.2.2.2.2.2.2.2.2.2.1, .int .i64 s33.2.2.2.2.2.2.2.2.2.2.2.1, .int .i64 s33.2.2.2.2.2.2.2.2.2.2.2.2.1, .int .i64 s33.2.2.2.2.2.2.2.2.2.2.2.2.2.1, .int .i64 s33.2.2.2.2.2.2.2.2.2.2.2.2.2.2.1, .bool s33.2.2.2.2.2.2.2.2.2.2.2.2.2.2.2.1, .int .i32 s33.2.2.2.2.2.2.2.2.2.2.2.2.2.2.2.2.1, .int .i64 s33.2.2.2.2.2.2.2.2.2.2.2.2.2.2.2.2.2], .box [.nl, .nl, .nl, .nl, .bool false, .int .i64 0, .int .i64 0, .int .i64 0, .int .i64 0, .int .i64 0, .int .i64 0, .int .i64 0, .int .i64 0, .int .i64 0, .bool false, .int .i32 0, .int .i64 0]]) (by kernel_rfl) ?_
        obtain ⟨y84, hy85, h86⟩ := bindS hy81
        refine RJ.call0 (d := (some 93)) (f := 77) (args := [lsv (encI .i32) 1 x1, .int .i64 (IntKind.wrap .i64 (s33.1 + 1))]) (v := .int .i32 y84) (tr2 := []) (by kernel_rfl) (by kernel_rfl) (.cons (Le.refl _) (.cons (Le.refl _) .nil)) (exergueref10_at_ok hy85) (by kernel_rfl) ?_
        refine kC 1 [1,2,3,6,7,8,94] ?_
        refine kEN ?_
        refine J.caseB 94 (b := (decide (y84 = 43))) (by kernel_rfl) (fun hb87 => ?_) (fun hb87 => ?_)
        · have h88 := condT hb87 h86
          refine kT ?_
          refine kSR ?_
          refine kC 2 [1,2,3,6,7,8] ?_
          refine kEN ?_
          refine kR ?_
          refine kC 3 [1,2,3,6,7,8] ?_
          refine kE ?_
          obtain rfl := oi h88
          exact kN [1, 2, 3, 6, 7, 8]
        · have h89 := condF hb87 h86
          refine kF ?_
          refine kK ?_
          obtain rfl := oi h89
          exact kN [1, 2, 3, 6, 7, 8]
      · refine kSR ?_
        refine kC 2 [2,3,6,7,8,98,99] ?_
        obtain ⟨y90, hy91, h92⟩ := bindS h83
        refine RJ.call0 (d := (some 100)) (f := 110) (args := [lsv (encI .i32) 1 x1, .int .i64 s79.1, .int .i32 48]) (v := .int .i64 y90) (tr2 := []) (by kernel_rfl) (by kernel_rfl) (.cons (Le.refl _) (.cons (Le.refl _) (.cons (Le.refl _) .nil))) (exergueref10_many_ok hy91) (by kernel_rfl) ?_
        refine kC 2 [2,3,6,7,8] ?_
        refine kEN ?_
        refine kS ?_
        refine J.keep [2, 3, 6, 7, 8] (L2 := [(2, .int .i64 s79.1), (3, .ptr 0 0), (6, .ptr 1 0), (7, .int .i64 0), (8, .bool false)]) (by kernel_rfl) ?_
        refine K.draw (by kernel_rfl) (by kernel_rfl) (by kernel_rfl) (H2 := [.box [lsv encSt108 2 s33.2.1, lsv encSt108 2 s33.2.2.1, lsv encSt108 2 s33.2.2.2.1, lsv encSt108 2 s33.2.2.2.2.1, .bool s33.2.2.2.2.2.1, .int .i64 s33.2.2.2.2.2.2.1, .int .i64 s33.2.2.2.2.2.2.2.1, .int .i64 s33.2.2.2.2.2.2.2.2.1, .int .i64 s33.2.2.2.2.2.2.2.2.2.1, .int .i64 s33.2.2.2.2.2.2.2.2.2.2.1, .int .i64 s33.2.2.2.2.2.2.2.2.2.2.2.1, .int .i64 s33.2.2.2.2.2.2.2.2.2.2.2.2.1, .int .i64 s33.2.2.2.2.2.2.2.2.2.2.2.2.2.1, .int .i64 y90, .bool s79.2, .int .i32 s33.2.2.2.2.2.2.2.2.2.2.2.2.2.2.2.2.1, .int .i64 s33.2.2.2.2.2.2.2.2.2.2.2.2.2.2.2.2.2], .box [.nl, .nl, .nl, .nl, .bool false, .int .i64 0, .int .i64 0, .int .i64 0, .int .i64 0, .int .i64 0, .int .i64 0, .int .i64 0, .int .i64 0, .int .i64 0, .bool false, .int .i32 0, .int .i64 0]]) (by kernel_rfl) (n := 2) (by kernel_rfl) ?_
        refine kD 11 ?_
        refine kEN ?_
        refine kX ?_
        obtain rfl := oi h92
        exact kZ hFn hFH hFD

def exergueref10_first (x0 : List Int) : Option (St25 × Int × Int × Int × Bool) :=
  (Option.bind (exergueref10_pad (⟨([] : List St108), ([] : List St108), ([] : List St108), ([] : List St108), false, 0, 0, 0, 0, 0, 0, 0, 0, 0, false, 0, 0⟩ : St25) x0 0 1) fun y1 => (bif (!y1.2.2) then (some (y1.1, 0, 0, y1.2.1, false)) else (Option.bind (exergueref10_affix x0 y1.2.1) fun y7 => (bif (!y7.2.2) then (some (y1.1, 0, 0, y7.2.1, false)) else (Option.bind (exergueref10_pad (⟨y7.1, y1.1.Suf_, y1.1.NPre_, y1.1.NSuf_, y1.1.Neg_, y1.1.Hash_, y1.1.MinInt_, y1.1.MinFrac_, y1.1.MaxFrac_, y1.1.G1_, y1.1.G2_, y1.1.MinSig_, y1.1.MaxSig_, y1.1.Exp_, y1.1.ExpPlus_, y1.1.Pad_, y1.1.PadAt_⟩ : St25) x0 y7.2.1 2) fun y13 => (bif (!y13.2.2) then (some ((⟨y7.1, y1.1.Suf_, y1.1.NPre_, y1.1.NSuf_, y1.1.Neg_, y1.1.Hash_, y1.1.MinInt_, y1.1.MinFrac_, y1.1.MaxFrac_, y1.1.G1_, y1.1.G2_, y1.1.MinSig_, y1.1.MaxSig_, y1.1.Exp_, y1.1.ExpPlus_, y1.1.Pad_, y1.1.PadAt_⟩ : St25), 0, 0, y13.2.1, false)) else (Option.bind (exergueref10_number y13.1 x0 y13.2.1) fun y19 => (bif (!y19.2.2) then (some ((⟨y7.1, y1.1.Suf_, y1.1.NPre_, y1.1.NSuf_, y1.1.Neg_, y1.1.Hash_, y1.1.MinInt_, y1.1.MinFrac_, y1.1.MaxFrac_, y1.1.G1_, y1.1.G2_, y1.1.MinSig_, y1.1.MaxSig_, y1.1.Exp_, y1.1.ExpPlus_, y1.1.Pad_, y1.1.PadAt_⟩ : St25), 0, 0, y19.2.1, false)) else (Option.bind (exergueref10_pad y19.1 x0 y19.2.1 3) fun y25 => (bif (!y25.2.2) then (some ((⟨y7.1, y1.1.Suf_, y1.1.NPre_, y1.1.NSuf_, y1.1.Neg_, y1.1.Hash_, y1.1.MinInt_, y1.1.MinFrac_, y1.1.MaxFrac_, y1.1.G1_, y1.1.G2_, y1.1.MinSig_, y1.1.MaxSig_, y1.1.Exp_, y1.1.ExpPlus_, y1.1.Pad_, y1.1.PadAt_⟩ : St25), 0, 0, y25.2.1, false)) else (Option.bind (exergueref10_affix x0 y25.2.1) fun y31 => (bif (!y31.2.2) then (some ((⟨y7.1, y1.1.Suf_, y1.1.NPre_, y1.1.NSuf_, y1.1.Neg_, y1.1.Hash_, y1.1.MinInt_, y1.1.MinFrac_, y1.1.MaxFrac_, y1.1.G1_, y1.1.G2_, y1.1.MinSig_, y1.1.MaxSig_, y1.1.Exp_, y1.1.ExpPlus_, y1.1.Pad_, y1.1.PadAt_⟩ : St25), 0, 0, y31.2.1, false)) else (Option.bind (exergueref10_pad (⟨y25.1.Pre_, y31.1, y25.1.NPre_, y25.1.NSuf_, y25.1.Neg_, y25.1.Hash_, y25.1.MinInt_, y25.1.MinFrac_, y25.1.MaxFrac_, y25.1.G1_, y25.1.G2_, y25.1.MinSig_, y25.1.MaxSig_, y25.1.Exp_, y25.1.ExpPlus_, y25.1.Pad_, y25.1.PadAt_⟩ : St25) x0 y31.2.1 4) fun y37 => (some (y37.1, y13.2.1, y19.2.1, y37.2.1, y37.2.2)))))))))))))))
theorem exergueref10_first_ok {x0 : List Int} {r : St25 × Int × Int × Int × Bool} (h : exergueref10_first x0 = some r) : SC Try.prog 76 [lsv (encI .i32) 1 x0] [] (.tup [.agg (encSt25 r.1), .int .i64 r.2.1, .int .i64 r.2.2.1, .int .i64 r.2.2.2.1, .bool r.2.2.2.2]) [] := by
  refine kFn (fn := Try.f76) (fun F hFn hFH hFD => ?_)
  unfold exergueref10_first at h
  refine kSR ?_
  refine kC 5 [0,2,3,4,5,6] ?_
  refine kEN ?_
  refine kSR ?_
  refine kC 2 [0,2,3,4,5,6,29,30] ?_
  obtain ⟨y1, hy2, h3⟩ := bindS h
  refine RJ.call0 (d := (some 31)) (f := 92) (args := [.agg [.nl, .nl, .nl, .nl, .bool false, .int .i64 0, .int .i64 0, .int .i64 0, .int .i64 0, .int .i64 0, .int .i64 0, .int .i64 0, .int .i64 0, .int .i64 0, .bool false, .int .i32 0, .int .i64 0], lsv (encI .i32) 1 x0, .int .i64 0, .int .i64 1]) (v := .tup [.agg (encSt25 y1.1), .int .i64 y1.2.1, .bool y1.2.2]) (tr2 := []) (by kernel_rfl) (by kernel_rfl) (.cons (Le.agg (.cons (Le.nl _) (.cons (Le.nl _) (.cons (Le.nl _) (.cons (Le.nl _) (.cons (Le.refl _) (.cons (Le.refl _) (.cons (Le.refl _) (.cons (Le.refl _) (.cons (Le.refl _) (.cons (Le.refl _) (.cons (Le.refl _) (.cons (Le.refl _) (.cons (Le.refl _) (.cons (Le.refl _) (.cons (Le.refl _) (.cons (Le.refl _) (.cons (Le.refl _) .nil)))))))))))))))))) (.cons (Le.refl _) (.cons (Le.refl _) (.cons (Le.refl _) .nil)))) (exergueref10_pad_ok hy2) (by kernel_rfl) ?_
  refine kC 8 [0,2,3,4,5,6,7,8,9] ?_
  refine kEN ?_
  refine kS ?_
  refine kSR ?_
  refine RJ.seg 2 [0, 2, 3, 4, 5, 6, 7, 8, 36] (L2 := [(0, lsv (encI .i32) 1 x0), (2, .ptr 0 0), (3, .int .i64 0), (4, .int .i64 0), (5, .int .i64 0), (6, .bool false), (7, .ptr 1 0), (8, .int .i64 y1.2.1), (36, .bool (!y1.2.2))]) (H2 := [.box [.nl, .nl, .nl, .nl, .bool false, .int .i64 0, .int .i64 0, .int .i64 0, .int .i64 0, .int .i64 0, .int .i64 0, .int .i64 0, .int .i64 0, .int .i64 0, .bool false, .int .i32 0, .int .i64 0], .box (encSt25 y1.1)]) (by kernel_rfl) ?_
  refine kEN ?_
  refine J.caseB 36 (b := (!y1.2.2)) (by kernel_rfl) (fun hb4 => ?_) (fun hb4 => ?_)
  · have h5 := condT hb4 h3
    refine kT ?_
    refine kSR ?_
    refine kC 7 [0,2,3,4,5,6,7,8] ?_
    refine kEN ?_
    refine kX ?_
    refine PJ.passRet ?_
    obtain rfl := oi h5
    exact kZ hFn hFH hFD
  · have h6 := condF hb4 h3
    refine kF ?_
    refine kK ?_
    refine PJ.next ?_
    refine kSR ?_
    refine kC 2 [0,2,3,4,5,6,7,40,41] ?_
    obtain ⟨y7, hy8, h9⟩ := bindS h6
    refine RJ.call0 (d := (some 42)) (f := 93) (args := [lsv (encI .i32) 1 x0, .int .i64 y1.2.1]) (v := .tup [lsv encSt108 2 y7.1, .int .i64 y7.2.1, .bool y7.2.2]) (tr2 := []) (by kernel_rfl) (by kernel_rfl) (.cons (Le.refl _) (.cons (Le.refl _) .nil)) (exergueref10_affix_ok hy8) (by kernel_rfl) ?_
    refine kC 7 [0,2,3,4,5,6,7,10,11,12] ?_
    refine kEN ?_
    refine kS ?_
    refine kSR ?_
    refine kC 2 [0,2,3,4,5,6,7,10,11,47] ?_
    refine kEN ?_
    refine J.caseB 47 (b := (!y7.2.2)) (by kernel_rfl) (fun hb10 => ?_) (fun hb10 => ?_)
    · have h11 := condT hb10 h9
      refine kT ?_
      refine kSR ?_
      refine RJ.seg 7 [0, 2, 3, 4, 5, 6, 7, 10, 11] (L2 := [(0, lsv (encI .i32) 1 x0), (2, .ptr 0 0), (3, .int .i64 0), (4, .int .i64 0), (5, .int .i64 y7.2.1), (6, .bool false), (7, .ptr 1 0), (10, lsv encSt108 2 y7.1), (11, .int .i64 y7.2.1)]) (H2 := [.box (encSt25 y1.1), .box (encSt25 y1.1)]) (by kernel_rfl) ?_
      refine kEN ?_
      refine kX ?_
      refine PJ.passRet ?_
      obtain rfl := oi h11
      exact kZ hFn hFH hFD
    · have h12 := condF hb10 h9
      refine kF ?_
      refine kK ?_
      refine PJ.next ?_
      refine kSR ?_
      refine RJ.seg 3 [0, 2, 3, 4, 5, 6, 7, 11] (L2 := [(0, lsv (encI .i32) 1 x0), (2, .ptr 0 0), (3, .int .i64 0), (4, .int .i64 0), (5, .int .i64 0), (6, .bool false), (7, .ptr 1 0), (11, .int .i64 y7.2.1)]) (H2 := [.box [.nl, .nl, .nl, .nl, .bool false, .int .i64 0, .int .i64 0, .int .i64 0, .int .i64 0, .int .i64 0, .int .i64 0, .int .i64 0, .int .i64 0, .int .i64 0, .bool false, .int .i32 0, .int .i64 0], .box [lsv encSt108 2 y7.1, lsv encSt108 2 y1.1.Suf_, lsv encSt108 2 y1.1.NPre_, lsv encSt108 2 y1.1.NSuf_, .bool y1.1.Neg_, .int .i64 y1.1.Hash_, .int .i64 y1.1.MinInt_, .int .i64 y1.1.MinFrac_, .int .i64 y1.1.MaxFrac_, .int .i64 y1.1.G1_, .int .i64 y1.1.G2_, .int .i64 y1.1.MinSig_, .int .i64 y1.1.MaxSig_, .int .i64 y1.1.Exp_, .bool y1.1.ExpPlus_, .int .i32 y1.1.Pad_, .int .i64 y1.1.PadAt_]]) (by kernel_rfl) ?_
      refine kEN ?_
      refine kSR ?_
      refine kC 3 [0,2,3,4,5,6,7,53,54,55] ?_
      obtain ⟨y13, hy14, h15⟩ := bindS h12
      refine RJ.call0 (d := (some 56)) (f := 92) (args := [.agg [lsv encSt108 2 y7.1, lsv encSt108 2 y1.1.Suf_, lsv encSt108 2 y1.1.NPre_, lsv encSt108 2 y1.1.NSuf_, .bool y1.1.Neg_, .int .i64 y1.1.Hash_, .int .i64 y1.1.MinInt_, .int .i64 y1.1.MinFrac_, .int .i64 y1.1.MaxFrac_, .int .i64 y1.1.G1_, .int .i64 y1.1.G2_, .int .i64 y1.1.MinSig_, .int .i64 y1.1.MaxSig_, .int .i64 y1.1.Exp_, .bool y1.1.ExpPlus_, .int .i32 y1.1.Pad_, .int .i64 y1.1.PadAt_], lsv (encI .i32) 1 x0, .int .i64 y7.2.1, .int .i64 2]) (v := .tup [.agg (encSt25 y13.1), .int .i64 y13.2.1, .bool y13.2.2]) (tr2 := []) (by kernel_rfl) (by kernel_rfl) (.cons (Le.refl _) (.cons (Le.refl _) (.cons (Le.refl _) (.cons (Le.refl _) .nil)))) (exergueref10_pad_ok hy14) (by kernel_rfl) ?_
      refine kC 8 [0,2,3,4,5,6,7,13,14,15] ?_
      refine kEN ?_
      refine kS ?_
      refine kSR ?_
      refine kC 2 [0,2,3,4,5,6,7,13,14,61] ?_
      refine kEN ?_
      refine J.caseB 61 (b := (!y13.2.2)) (by kernel_rfl) (fun hb16 => ?_) (fun hb16 => ?_)
      · have h17 := condT hb16 h15
        refine kT ?_
        refine kSR ?_
        refine RJ.seg 7 [0, 2, 3, 4, 5, 6, 7, 13, 14] (L2 := [(0, lsv (encI .i32) 1 x0), (2, .ptr 0 0), (3, .int .i64 0), (4, .int .i64 0), (5, .int .i64 y13.2.1), (6, .bool false), (7, .ptr 1 0), (13, .ptr 2 0), (14, .int .i64 y13.2.1)]) (H2 := [.box [lsv encSt108 2 y7.1, lsv encSt108 2 y1.1.Suf_, lsv encSt108 2 y1.1.NPre_, lsv encSt108 2 y1.1.NSuf_, .bool y1.1.Neg_, .int .i64 y1.1.Hash_, .int .i64 y1.1.MinInt_, .int .i64 y1.1.MinFrac_, .int .i64 y1.1.MaxFrac_, .int .i64 y1.1.G1_, .int .i64 y1.1.G2_, .int .i64 y1.1.MinSig_, .int .i64 y1.1.MaxSig_, .int .i64 y1.1.Exp_, .bool y1.1.ExpPlus_, .int .i32 y1.1.Pad_, .int .i64 y1.1.PadAt_], .box [lsv encSt108 2 y7.1, lsv encSt108 2 y1.1.Suf_, lsv encSt108 2 y1.1.NPre_, lsv encSt108 2 y1.1.NSuf_, .bool y1.1.Neg_, .int .i64 y1.1.Hash_, .int .i64 y1.1.MinInt_, .int .i64 y1.1.MinFrac_, .int .i64 y1.1.MaxFrac_, .int .i64 y1.1.G1_, .int .i64 y1.1.G2_, .int .i64 y1.1.MinSig_, .int .i64 y1.1.MaxSig_, .int .i64 y1.1.Exp_, .bool y1.1.ExpPlus_, .int .i32 y1.1.Pad_, .int .i64 y1.1.PadAt_], .box (encSt25 y13.1)]) (by kernel_rfl) ?_
        refine kEN ?_
        refine kX ?_
        refine PJ.passRet ?_
        obtain rfl := oi h17
        exact kZ hFn hFH hFD
      · have h18 := condF hb16 h15
        refine kF ?_
        refine kK ?_
        refine PJ.next ?_
        refine kSR ?_
        refine RJ.seg 3 [0, 2, 3, 4, 5, 6, 7, 14, 65, 66, 67] (L2 := [(0, lsv (encI .i32) 1 x0), (2, .ptr 0 0), (3, .int .i64 0), (4, .int .i64 0), (5, .int .i64 0), (6, .bool false), (7, .ptr 1 0), (14, .int .i64 y13.2.1), (65, .agg (encSt25 y13.1)), (66, lsv (encI .i32) 1 x0), (67, .int .i64 y13.2.1)]) (H2 := [.box [.nl, .nl, .nl, .nl, .bool false, .int .i64 0, .int .i64 0, .int .i64 0, .int .i64 0, .int .i64 0, .int .i64 0, .int .i64 0, .int .i64 0, .int .i64 0, .bool false, .int .i32 0, .int .i64 0], .box [lsv encSt108 2 y7.1, lsv encSt108 2 y1.1.Suf_, lsv encSt108 2 y1.1.NPre_, lsv encSt108 2 y1.1.NSuf_, .bool y1.1.Neg_, .int .i64 y1.1.Hash_, .int .i64 y1.1.MinInt_, .int .i64 y1.1.MinFrac_, .int .i64 y1.1.MaxFrac_, .int .i64 y1.1.G1_, .int .i64 y1.1.G2_, .int .i64 y1.1.MinSig_, .int .i64 y1.1.MaxSig_, .int .i64 y1.1.Exp_, .bool y1.1.ExpPlus_, .int .i32 y1.1.Pad_, .int .i64 y1.1.PadAt_], .box (encSt25 y13.1)]) (by kernel_rfl) ?_
        obtain ⟨y19, hy20, h21⟩ := bindS h18
        refine RJ.call0 (d := (some 68)) (f := 94) (args := [.agg (encSt25 y13.1), lsv (encI .i32) 1 x0, .int .i64 y13.2.1]) (v := .tup [.agg (encSt25 y19.1), .int .i64 y19.2.1, .bool y19.2.2]) (tr2 := []) (by kernel_rfl) (by kernel_rfl) (.cons (Le.refl _) (.cons (Le.refl _) (.cons (Le.refl _) .nil))) (exergueref10_number_ok hy20) (by kernel_rfl) ?_
        refine kC 8 [0,2,3,4,5,6,7,14,16,17,18] ?_
        refine kEN ?_
        refine kS ?_
        refine kSR ?_
        refine kC 2 [0,2,3,4,5,6,7,14,16,17,73] ?_
        refine kEN ?_
        refine J.caseB 73 (b := (!y19.2.2)) (by kernel_rfl) (fun hb22 => ?_) (fun hb22 => ?_)
        · have h23 := condT hb22 h21
          refine kT ?_
          refine kSR ?_
          refine kC 7 [0,2,3,4,5,6,7,14,16,17] ?_
          refine kEN ?_
          refine kX ?_
          refine PJ.passRet ?_
          obtain rfl := oi h23
          exact kZ hFn hFH hFD
        · have h24 := condF hb22 h21
          refine kF ?_
          refine kK ?_
          refine PJ.next ?_
          refine kSR ?_
          refine kC 3 [0,2,3,4,5,6,7,14,17,77,78,79] ?_
          obtain ⟨y25, hy26, h27⟩ := bindS h24
          refine RJ.call0 (d := (some 80)) (f := 92) (args := [.agg (encSt25 y19.1), lsv (encI .i32) 1 x0, .int .i64 y19.2.1, .int .i64 3]) (v := .tup [.agg (encSt25 y25.1), .int .i64 y25.2.1, .bool y25.2.2]) (tr2 := []) (by kernel_rfl) (by kernel_rfl) (.cons (Le.refl _) (.cons (Le.refl _) (.cons (Le.refl _) (.cons (Le.refl _) .nil)))) (exergueref10_pad_ok hy26) (by kernel_rfl) ?_
          refine RJ.seg 8 [0, 2, 3, 4, 5, 6, 7, 14, 17, 19, 20, 21] (L2 := [(0, lsv (encI .i32) 1 x0), (2, .ptr 0 0), (3, .int .i64 0), (4, .int .i64 0), (5, .int .i64 0), (6, .bool false), (7, .ptr 1 0), (14, .int .i64 y13.2.1), (17, .int .i64 y19.2.1), (19, .ptr 4 0), (20, .int .i64 y25.2.1), (21, .bool y25.2.2)]) (H2 := [.box [.nl, .nl, .nl, .nl, .bool false, .int .i64 0, .int .i64 0, .int .i64 0, .int .i64 0, .int .i64 0, .int .i64 0, .int .i64 0, .int .i64 0, .int .i64 0, .bool false, .int .i32 0, .int .i64 0], .box [lsv encSt108 2 y7.1, lsv encSt108 2 y1.1.Suf_, lsv encSt108 2 y1.1.NPre_, lsv encSt108 2 y1.1.NSuf_, .bool y1.1.Neg_, .int .i64 y1.1.Hash_, .int .i64 y1.1.MinInt_, .int .i64 y1.1.MinFrac_, .int .i64 y1.1.MaxFrac_, .int .i64 y1.1.G1_, .int .i64 y1.1.G2_, .int .i64 y1.1.MinSig_, .int .i64 y1.1.MaxSig_, .int .i64 y1.1.Exp_, .bool y1.1.ExpPlus_, .int .i32 y1.1.Pad_, .int .i64 y1.1.PadAt_], .box (encSt25 y13.1), .box (encSt25 y19.1), .box (encSt25 y25.1)]) (by kernel_rfl) ?_
          refine kEN ?_
          refine kS ?_
          refine kSR ?_
          refine kC 2 [0,2,3,4,5,6,7,14,17,19,20,85] ?_
          refine kEN ?_
          refine J.caseB 85 (b := (!y25.2.2)) (by kernel_rfl) (fun hb28 => ?_) (fun hb28 => ?_)
          · have h29 := condT hb28 h27
            refine kT ?_
            refine kSR ?_
            refine kC 7 [0,2,3,4,5,6,7,14,17,19,20] ?_
            refine kEN ?_
            refine kX ?_
            refine PJ.passRet ?_
            obtain rfl := oi h29
            exact kZ hFn hFH hFD
          · have h30 := condF hb28 h27
            refine kF ?_
            refine kK ?_
            refine PJ.next ?_
            refine kSR ?_
            refine kC 2 [0,2,3,4,5,6,7,14,17,19,89,90] ?_
            obtain ⟨y31, hy32, h33⟩ := bindS h30
            refine RJ.call0 (d := (some 91)) (f := 93) (args := [lsv (encI .i32) 1 x0, .int .i64 y25.2.1]) (v := .tup [lsv encSt108 2 y31.1, .int .i64 y31.2.1, .bool y31.2.2]) (tr2 := []) (by kernel_rfl) (by kernel_rfl) (.cons (Le.refl _) (.cons (Le.refl _) .nil)) (exergueref10_affix_ok hy32) (by kernel_rfl) ?_
            refine kC 7 [0,2,3,4,5,6,7,14,17,19,22,23,24] ?_
            refine kEN ?_
            refine kS ?_
            refine kSR ?_
            refine RJ.seg 2 [0, 2, 3, 4, 5, 6, 7, 14, 17, 19, 22, 23, 96] (L2 := [(0, lsv (encI .i32) 1 x0), (2, .ptr 0 0), (3, .int .i64 0), (4, .int .i64 0), (5, .int .i64 0), (6, .bool false), (7, .ptr 1 0), (14, .int .i64 y13.2.1), (17, .int .i64 y19.2.1), (19, .ptr 4 0), (22, lsv encSt108 2 y31.1), (23, .int .i64 y31.2.1), (96, .bool (!y31.2.2))]) (H2 := [.box [.nl, .nl, .nl, .nl, .bool false, .int .i64 0, .int .i64 0, .int .i64 0, .int .i64 0, .int .i64 0, .int .i64 0, .int .i64 0, .int .i64 0, .int .i64 0, .bool false, .int .i32 0, .int .i64 0], .box [lsv encSt108 2 y7.1, lsv encSt108 2 y1.1.Suf_, lsv encSt108 2 y1.1.NPre_, lsv encSt108 2 y1.1.NSuf_, .bool y1.1.Neg_, .int .i64 y1.1.Hash_, .int .i64 y1.1.MinInt_, .int .i64 y1.1.MinFrac_, .int .i64 y1.1.MaxFrac_, .int .i64 y1.1.G1_, .int .i64 y1.1.G2_, .int .i64 y1.1.MinSig_, .int .i64 y1.1.MaxSig_, .int .i64 y1.1.Exp_, .bool y1.1.ExpPlus_, .int .i32 y1.1.Pad_, .int .i64 y1.1.PadAt_], .box (encSt25 y13.1), .box (encSt25 y19.1), .box (encSt25 y25.1)]) (by kernel_rfl) ?_
            refine kEN ?_
            refine J.caseB 96 (b := (!y31.2.2)) (by kernel_rfl) (fun hb34 => ?_) (fun hb34 => ?_)
            · have h35 := condT hb34 h33
              refine kT ?_
              refine kSR ?_
              refine kC 7 [0,2,3,4,5,6,14,17,19,22,23] ?_
              refine kEN ?_
              refine kX ?_
              refine PJ.passRet ?_
              obtain rfl := oi h35
              exact kZ hFn hFH hFD
            · have h36 := condF hb34 h33
              refine kF ?_
              refine kK ?_
              refine PJ.next ?_
              refine kSR ?_
              refine kC 3 [0,2,3,4,5,6,14,17,19,23] ?_
              refine kEN ?_
              refine kSR ?_
              refine kC 3 [2,3,4,5,6,14,17,102,103,104] ?_
              obtain ⟨y37, hy38, h39⟩ := bindS h36
              refine RJ.call0 (d := (some 105)) (f := 92) (args := [.agg [lsv encSt108 2 y25.1.Pre_, lsv encSt108 2 y31.1, lsv encSt108 2 y25.1.NPre_, lsv encSt108 2 y25.1.NSuf_, .bool y25.1.Neg_, .int .i64 y25.1.Hash_, .int .i64 y25.1.MinInt_, .int .i64 y25.1.MinFrac_, .int .i64 y25.1.MaxFrac_, .int .i64 y25.1.G1_, .int .i64 y25.1.G2_, .int .i64 y25.1.MinSig_, .int .i64 y25.1.MaxSig_, .int .i64 y25.1.Exp_, .bool y25.1.ExpPlus_, .int .i32 y25.1.Pad_, .int .i64 y25.1.PadAt_], lsv (encI .i32) 1 x0, .int .i64 y31.2.1, .int .i64 4]) (v := .tup [.agg (encSt25 y37.1), .int .i64 y37.2.1, .bool y37.2.2]) (tr2 := []) (by kernel_rfl) (by kernel_rfl) (.cons (Le.refl _) (.cons (Le.refl _) (.cons (Le.refl _) (.cons (Le.refl _) .nil)))) (exergueref10_pad_ok hy38) (by kernel_rfl) ?_
              refine kC 8 [2,3,4,5,6,14,17,25,26,27] ?_
              refine kEN ?_
              refine kSR ?_
              refine RJ.seg 10 [2, 3, 4, 5, 6] (L2 := [(2, .ptr 0 0), (3, .int .i64 y13.2.1), (4, .int .i64 y19.2.1), (5, .int .i64 y37.2.1), (6, .bool y37.2.2)]) (H2 := [.box (encSt25 y37.1), .box [lsv encSt108 2 y7.1, lsv encSt108 2 y1.1.Suf_, lsv encSt108 2 y1.1.NPre_, lsv encSt108 2 y1.1.NSuf_, .bool y1.1.Neg_, .int .i64 y1.1.Hash_, .int .i64 y1.1.MinInt_, .int .i64 y1.1.MinFrac_, .int .i64 y1.1.MaxFrac_, .int .i64 y1.1.G1_, .int .i64 y1.1.G2_, .int .i64 y1.1.MinSig_, .int .i64 y1.1.MaxSig_, .int .i64 y1.1.Exp_, .bool y1.1.ExpPlus_, .int .i32 y1.1.Pad_, .int .i64 y1.1.PadAt_], .box (encSt25 y13.1), .box (encSt25 y19.1), .box [lsv encSt108 2 y25.1.Pre_, lsv encSt108 2 y31.1, lsv encSt108 2 y25.1.NPre_, lsv encSt108 2 y25.1.NSuf_, .bool y25.1.Neg_, .int .i64 y25.1.Hash_, .int .i64 y25.1.MinInt_, .int .i64 y25.1.MinFrac_, .int .i64 y25.1.MaxFrac_, .int .i64 y25.1.G1_, .int .i64 y25.1.G2_, .int .i64 y25.1.MinSig_, .int .i64 y25.1.MaxSig_, .int .i64 y25.1.Exp_, .bool y25.1.ExpPlus_, .int .i32 y25.1.Pad_, .int .i64 y25.1.PadAt_], .box (encSt25 y37.1)]) (by kernel_rfl) ?_
              refine kEN ?_
              refine kX ?_
              obtain rfl := oi h39
              exact kZ hFn hFH hFD

def exergueref10_second (x0 : St25) (x1 : List Int) (x2 : Int) (x3 : Int) (x4 : Int) : Option (St25 × Int × Bool) :=
  (Option.bind (exergueref10_affix x1 x2) fun y1 => (bif (!y1.2.2) then (some ((⟨x0.Pre_, x0.Suf_, x0.NPre_, x0.NSuf_, true, x0.Hash_, x0.MinInt_, x0.MinFrac_, x0.MaxFrac_, x0.G1_, x0.G2_, x0.MinSig_, x0.MaxSig_, x0.Exp_, x0.ExpPlus_, x0.Pad_, x0.PadAt_⟩ : St25), y1.2.1, false)) else (Option.bind (loopN (fun (s60 : Int × Int) => (bif (decide (s60.2 < x4)) then (Option.bind (exergueref10_at x1 s60.1) fun y96 => (bif inR s60.2 x1.length then (bif (decide (¬ y96 = (nth x1 s60.2))) then (some (.inr (.inr ((⟨x0.Pre_, x0.Suf_, y1.1, x0.NSuf_, true, x0.Hash_, x0.MinInt_, x0.MinFrac_, x0.MaxFrac_, x0.G1_, x0.G2_, x0.MinSig_, x0.MaxSig_, x0.Exp_, x0.ExpPlus_, x0.Pad_, x0.PadAt_⟩ : St25), s60.1, false)))) else (some (.inl ((IntKind.wrap .i64 (s60.1 + 1)), (IntKind.wrap .i64 (s60.2 + 1)))))) else none)) else (some (.inr (.inl s60.1))))) big (y1.2.1, x3)) (joinX fun (s55 : Int) => (Option.bind (exergueref10_affix x1 s55) fun y108 => (some ((⟨x0.Pre_, x0.Suf_, y1.1, y108.1, true, x0.Hash_, x0.MinInt_, x0.MinFrac_, x0.MaxFrac_, x0.G1_, x0.G2_, x0.MinSig_, x0.MaxSig_, x0.Exp_, x0.ExpPlus_, x0.Pad_, x0.PadAt_⟩ : St25), y108.2.1, y108.2.2)))))))
theorem exergueref10_second_ok {x0 : St25} {x1 : List Int} {x2 : Int} {x3 : Int} {x4 : Int} {r : St25 × Int × Bool} (h : exergueref10_second x0 x1 x2 x3 x4 = some r) : SC Try.prog 78 [.agg (encSt25 x0), lsv (encI .i32) 1 x1, .int .i64 x2, .int .i64 x3, .int .i64 x4] [] (.tup [.agg (encSt25 r.1), .int .i64 r.2.1, .bool r.2.2]) [] := by
  refine kFn (fn := Try.f78) (fun F hFn hFH hFD => ?_)
  unfold exergueref10_second at h
  refine kSR ?_
  refine kC 4 [1,2,3,4,5,10,11,12] ?_
  refine kEN ?_
  refine kSR ?_
  refine kC 2 [1,2,3,4,5,10,11,12] ?_
  refine kEN ?_
  refine kSR ?_
  refine kC 2 [1,3,4,5,10,11,12,22,23] ?_
  obtain ⟨y1, hy2, h3⟩ := bindS h
  refine RJ.call0 (d := (some 24)) (f := 93) (args := [lsv (encI .i32) 1 x1, .int .i64 x2]) (v := .tup [lsv encSt108 2 y1.1, .int .i64 y1.2.1, .bool y1.2.2]) (tr2 := []) (by kernel_rfl) (by kernel_rfl) (.cons (Le.refl _) (.cons (Le.refl _) .nil)) (exergueref10_affix_ok hy2) (by kernel_rfl) ?_
  refine RJ.seg 7 [1, 3, 4, 5, 10, 11, 12, 13, 14, 15] (L2 := [(1, lsv (encI .i32) 1 x1), (3, .int .i64 x3), (4, .int .i64 x4), (5, .ptr 0 0), (10, .ptr 1 0), (11, .int .i64 0), (12, .bool false), (13, lsv encSt108 2 y1.1), (14, .int .i64 y1.2.1), (15, .bool y1.2.2)]) (H2 := [.box [lsv encSt108 2 x0.Pre_, lsv encSt108 2 x0.Suf_, lsv encSt108 2 x0.NPre_, lsv encSt108 2 x0.NSuf_, .bool true, .int .i64 x0.Hash_, .int .i64 x0.MinInt_, .int .i64 x0.MinFrac_, .int .i64 x0.MaxFrac_, .int .i64 x0.G1_, .int .i64 x0.G2_, .int .i64 x0.MinSig_, .int .i64 x0.MaxSig_, .int .i64 x0.Exp_, .bool x0.ExpPlus_, .int .i32 x0.Pad_, .int .i64 x0.PadAt_], .box [.nl, .nl, .nl, .nl, .bool false, .int .i64 0, .int .i64 0, .int .i64 0, .int .i64 0, .int .i64 0, .int .i64 0, .int .i64 0, .int .i64 0, .int .i64 0, .bool false, .int .i32 0, .int .i64 0]]) (by kernel_rfl) ?_
  refine kEN ?_
  refine kS ?_
  refine kSR ?_
  refine kC 2 [1,3,4,5,10,11,12,13,14,29] ?_
  refine kEN ?_
  refine J.caseB 29 (b := (!y1.2.2)) (by kernel_rfl) (fun hb4 => ?_) (fun hb4 => ?_)
  · have h5 := condT hb4 h3
    refine kT ?_
    refine kSR ?_
    refine kC 5 [1,3,4,5,10,11,12,13,14] ?_
    refine kEN ?_
    refine kX ?_
    refine PJ.passRet ?_
    obtain rfl := oi h5
    exact kZ hFn hFH hFD
  · have h6 := condF hb4 h3
    refine kF ?_
    refine kK ?_
    refine PJ.next ?_
    refine kSR ?_
    refine kC 3 [1,3,4,5,10,11,12,14] ?_
    refine kEN ?_
    obtain ⟨y56, hy57, h58⟩ := bindS h6
    refine K.cutX (by kernel_rfl) (fun (s55 : Int) => ([(1, lsv (encI .i32) 1 x1), (5, .ptr 0 0), (10, .ptr 1 0), (11, .int .i64 0), (12, .bool false), (14, .int .i64 s55)], [.box [lsv encSt108 2 x0.Pre_, lsv encSt108 2 x0.Suf_, lsv encSt108 2 y1.1, lsv encSt108 2 x0.NSuf_, .bool true, .int .i64 x0.Hash_, .int .i64 x0.MinInt_, .int .i64 x0.MinFrac_, .int .i64 x0.MaxFrac_, .int .i64 x0.G1_, .int .i64 x0.G2_, .int .i64 x0.MinSig_, .int .i64 x0.MaxSig_, .int .i64 x0.Exp_, .bool x0.ExpPlus_, .int .i32 x0.Pad_, .int .i64 x0.PadAt_], .box [.nl, .nl, .nl, .nl, .bool false, .int .i64 0, .int .i64 0, .int .i64 0, .int .i64 0, .int .i64 0, .int .i64 0, .int .i64 0, .int .i64 0, .int .i64 0, .bool false, .int .i32 0, .int .i64 0]])) y56 ?_ (fun s55 hs => ?_)
    · refine kSR ?_
      refine kC 2 [1,4,5,10,11,12,14,16] ?_
      refine kEN ?_
      refine K.block 0 (by kernel_rfl) ?_
      refine K.loop (by kernel_rfl) (fun (s60 : Int × Int) => ([(1, lsv (encI .i32) 1 x1), (4, .int .i64 x4), (5, .ptr 0 0), (10, .ptr 1 0), (11, .int .i64 0), (12, .bool false), (14, .int .i64 s60.1), (16, .int .i64 s60.2)], [.box [lsv encSt108 2 x0.Pre_, lsv encSt108 2 x0.Suf_, lsv encSt108 2 y1.1, lsv encSt108 2 x0.NSuf_, .bool true, .int .i64 x0.Hash_, .int .i64 x0.MinInt_, .int .i64 x0.MinFrac_, .int .i64 x0.MaxFrac_, .int .i64 x0.G1_, .int .i64 x0.G2_, .int .i64 x0.MinSig_, .int .i64 x0.MaxSig_, .int .i64 x0.Exp_, .bool x0.ExpPlus_, .int .i32 x0.Pad_, .int .i64 x0.PadAt_], .box [.nl, .nl, .nl, .nl, .bool false, .int .i64 0, .int .i64 0, .int .i64 0, .int .i64 0, .int .i64 0, .int .i64 0, .int .i64 0, .int .i64 0, .int .i64 0, .bool false, .int .i32 0, .int .i64 0]])) hy57 [1, 4, 5, 10, 11, 12, 14, 16] (by kernel_rfl) (by kernel_rfl) (fun s60 x92 hs91 => ?_)
      refine kS ?_
      refine kSR ?_
      refine kC 3 [1,4,5,10,11,12,14,16,37] ?_
      refine kEN ?_
      refine J.caseB 37 (b := (decide (s60.2 < x4))) (by kernel_rfl) (fun hb93 => ?_) (fun hb93 => ?_)
      · have h94 := condT hb93 hs91
        refine kT ?_
        refine kK ?_
        refine PJ.next ?_
        refine kS ?_
        refine K.block 1 (by kernel_rfl) ?_
        refine kS ?_
        refine kS ?_
        refine J.keep [1, 4, 5, 10, 11, 12, 14, 16] (L2 := [(1, lsv (encI .i32) 1 x1), (4, .int .i64 x4), (5, .ptr 0 0), (10, .ptr 1 0), (11, .int .i64 0), (12, .bool false), (14, .int .i64 s60.1), (16, .int .i64 s60.2)]) (by kernel_rfl) ?_
        refine K.draw (by kernel_rfl) (by kernel_rfl) (by kernel_rfl) (H2 := [.box [lsv encSt108 2 x0.Pre_, lsv encSt108 2 x0.Suf_, lsv encSt108 2 y1.1, lsv encSt108 2 x0.NSuf_, .bool true, .int .i64 x0.Hash_, .int .i64 x0.MinInt_, .int .i64 x0.MinFrac_, .int .i64 x0.MaxFrac_, .int .i64 x0.G1_, .int .i64 x0.G2_, .int .i64 x0.MinSig_, .int .i64 x0.MaxSig_, .int .i64 x0.Exp_, .bool x0.ExpPlus_, .int .i32 x0.Pad_, .int .i64 x0.PadAt_], .box [.nl, .nl, .nl, .nl, .bool false, .int .i64 0, .int .i64 0, .int .i64 0, .int .i64 0, .int .i64 0, .int .i64 0, .int .i64 0, .int .i64 0, .int .i64 0, .bool false, .int .i32 0, .int .i64 0], .res]) (by kernel_rfl) (n := 2) (by kernel_rfl) ?_
        refine kD 2 ?_
        obtain ⟨y96, hy97, h98⟩ := bindS h94
        refine RJ.call0 (d := (some 42)) (f := 77) (args := [lsv (encI .i32) 1 x1, .int .i64 s60.1]) (v := .int .i32 y96) (tr2 := [([], []), ([], []), ([], [4, 5])]) (by kernel_rfl) (by kernel_rfl) (.cons (Le.refl _) (.cons (Le.refl _) .nil)) (exergueref10_at_ok hy97) (by kernel_rfl) ?_
        refine kD 2 ?_
        obtain ⟨hm, h99⟩ := asrt h98
        refine RJ.rel (d := (some 45)) (ef := ⟨.ep (((x1.flatMap (encI .i32)).drop ((s60.2 : Int).toNat * 1)).take 1), [], []⟩) (ef' := ⟨.ep ((encI .i32) (nth x1 s60.2)), [], []⟩) (c := inR s60.2 x1.length) (tr2 := [([], []), ([], []), ([], [4, 5]), ([], []), ([], []), ([], [])]) (H2 := [.box [lsv encSt108 2 x0.Pre_, lsv encSt108 2 x0.Suf_, lsv encSt108 2 y1.1, lsv encSt108 2 x0.NSuf_, .bool true, .int .i64 x0.Hash_, .int .i64 x0.MinInt_, .int .i64 x0.MinFrac_, .int .i64 x0.MaxFrac_, .int .i64 x0.G1_, .int .i64 x0.G2_, .int .i64 x0.MinSig_, .int .i64 x0.MaxSig_, .int .i64 x0.Exp_, .bool x0.ExpPlus_, .int .i32 x0.Pad_, .int .i64 x0.PadAt_], .box [.nl, .nl, .nl, .nl, .bool false, .int .i64 0, .int .i64 0, .int .i64 0, .int .i64 0, .int .i64 0, .int .i64 0, .int .i64 0, .int .i64 0, .int .i64 0, .bool false, .int .i32 0, .int .i64 0], .res]) (by kernel_rfl) hm (fun hc => N.idx (encI_len .i32) hc) (by kernel_rfl) ?_
        refine RJ.segD 2 (tr2 := [([], []), ([], []), ([], [4, 5]), ([], []), ([], []), ([], []), ([], []), ([], [])]) (L2 := [(47, .bool ((decide (¬ y96 = (nth x1 s60.2))))), (46, .int .i32 (nth x1 s60.2)), (45, .ep [.int .i32 (nth x1 s60.2)]), (44, .int .i64 s60.2), (43, lsv (encI .i32) 1 x1), (42, .int .i32 y96), (41, .int .i64 s60.1), (40, lsv (encI .i32) 1 x1), (1, lsv (encI .i32) 1 x1), (4, .int .i64 x4), (5, .ptr 0 0), (10, .ptr 1 0), (11, .int .i64 0), (12, .bool false), (14, .int .i64 s60.1), (16, .int .i64 s60.2)]) (H2 := [.box [lsv encSt108 2 x0.Pre_, lsv encSt108 2 x0.Suf_, lsv encSt108 2 y1.1, lsv encSt108 2 x0.NSuf_, .bool true, .int .i64 x0.Hash_, .int .i64 x0.MinInt_, .int .i64 x0.MinFrac_, .int .i64 x0.MaxFrac_, .int .i64 x0.G1_, .int .i64 x0.G2_, .int .i64 x0.MinSig_, .int .i64 x0.MaxSig_, .int .i64 x0.Exp_, .bool x0.ExpPlus_, .int .i32 x0.Pad_, .int .i64 x0.PadAt_], .box [.nl, .nl, .nl, .nl, .bool false, .int .i64 0, .int .i64 0, .int .i64 0, .int .i64 0, .int .i64 0, .int .i64 0, .int .i64 0, .int .i64 0, .int .i64 0, .bool false, .int .i32 0, .int .i64 0], .res]) (by kernel_rfl) ?_
        refine kEN ?_
        refine J.caseB 47 (b := (decide (¬ y96 = (nth x1 s60.2)))) (by kernel_rfl) (fun hb100 => ?_) (fun hb100 => ?_)
        · have h101 := condT hb100 h99
          refine kT ?_
          refine kSR ?_
          refine kC 5 [1,4,5,10,11,12,14,16] ?_
          refine kEN ?_
          refine kX ?_
          refine PJ.passRet ?_
          refine PJ.blockRet ?_
          refine PJ.passRet ?_
          obtain rfl := oi h101
          refine PJ.loopOut (fun e => nomatch e) (fun he105 => ?_)
          have h103 := congrArg some he105
          refine PJ.blockRet ?_
          obtain rfl := oi h103
          have h104 := joinX_inr h58
          refine PJ.cutXr (fun e => nomatch e) ?_
          obtain rfl := oi h104
          exact kZ hFn hFH hFD
        · have h102 := condF hb100 h99
          refine kF ?_
          refine kK ?_
          refine PJ.next ?_
          refine kR ?_
          refine kC 3 [1,4,5,10,11,12,14,16] ?_
          refine kE ?_
          refine PJ.blockNormal ?_
          refine PJ.next ?_
          refine kR ?_
          refine kC 3 [1,4,5,10,11,12,14,16] ?_
          refine kE ?_
          obtain rfl := oi h102
          refine PJ.wk (Wk.sel (L2 := [(1, lsv (encI .i32) 1 x1), (4, .int .i64 x4), (5, .ptr 0 0), (10, .ptr 1 0), (11, .int .i64 0), (12, .bool false), (14, .int .i64 (IntKind.wrap .i64 (s60.1 + 1))), (16, .int .i64 (IntKind.wrap .i64 (s60.2 + 1)))]) (H2 := [.box [lsv encSt108 2 x0.Pre_, lsv encSt108 2 x0.Suf_, lsv encSt108 2 y1.1, lsv encSt108 2 x0.NSuf_, .bool true, .int .i64 x0.Hash_, .int .i64 x0.MinInt_, .int .i64 x0.MinFrac_, .int .i64 x0.MaxFrac_, .int .i64 x0.G1_, .int .i64 x0.G2_, .int .i64 x0.MinSig_, .int .i64 x0.MaxSig_, .int .i64 x0.Exp_, .bool x0.ExpPlus_, .int .i32 x0.Pad_, .int .i64 x0.PadAt_], .box [.nl, .nl, .nl, .nl, .bool false, .int .i64 0, .int .i64 0, .int .i64 0, .int .i64 0, .int .i64 0, .int .i64 0, .int .i64 0, .int .i64 0, .int .i64 0, .bool false, .int .i32 0, .int .i64 0]]) 0 (by rw [hFH]; rfl) hFD [0, 1] (by kernel_rfl) (by kernel_rfl) (by decide) (by kernel_rfl) (by kernel_rfl) (by kernel_rfl) (by kernel_rfl)) ?_
          exact PJ.loopNext [1, 4, 5, 10, 11, 12, 14, 16] (by kernel_rfl) (by kernel_rfl)
      · have h95 := condF hb93 hs91
        refine kF ?_
        refine K.exit 0 (by kernel_rfl) ?_
        refine PJ.passExit ?_
        obtain rfl := oi h95
        refine PJ.loopOut (fun e => nomatch e) (fun he107 => ?_)
        have h106 := congrArg some he107
        refine PJ.blockOut ?_
        obtain rfl := oi h106
        exact PJ.cutXl [1, 5, 10, 11, 12, 14] (by kernel_rfl) (by kernel_rfl)
    · subst hs
      have h59 := joinX_inl h58
      refine kSR ?_
      refine kC 2 [5,10,11,12,53,54] ?_
      obtain ⟨y108, hy109, h110⟩ := bindS h59
      refine RJ.call0 (d := (some 55)) (f := 93) (args := [lsv (encI .i32) 1 x1, .int .i64 s55]) (v := .tup [lsv encSt108 2 y108.1, .int .i64 y108.2.1, .bool y108.2.2]) (tr2 := []) (by kernel_rfl) (by kernel_rfl) (.cons (Le.refl _) (.cons (Le.refl _) .nil)) (exergueref10_affix_ok hy109) (by kernel_rfl) ?_
      refine kC 7 [5,10,11,12,17,18,19] ?_
      refine kEN ?_
      refine kSR ?_
      refine kC 3 [5,10,11,12,18,19] ?_
      refine kEN ?_
      refine kSR ?_
      refine RJ.seg 6 [10, 11, 12] (L2 := [(10, .ptr 1 0), (11, .int .i64 y108.2.1), (12, .bool y108.2.2)]) (H2 := [.box [lsv encSt108 2 x0.Pre_, lsv encSt108 2 x0.Suf_, lsv encSt108 2 y1.1, lsv encSt108 2 y108.1, .bool true, .int .i64 x0.Hash_, .int .i64 x0.MinInt_, .int .i64 x0.MinFrac_, .int .i64 x0.MaxFrac_, .int .i64 x0.G1_, .int .i64 x0.G2_, .int .i64 x0.MinSig_, .int .i64 x0.MaxSig_, .int .i64 x0.Exp_, .bool x0.ExpPlus_, .int .i32 x0.Pad_, .int .i64 x0.PadAt_], .box [lsv encSt108 2 x0.Pre_, lsv encSt108 2 x0.Suf_, lsv encSt108 2 y1.1, lsv encSt108 2 y108.1, .bool true, .int .i64 x0.Hash_, .int .i64 x0.MinInt_, .int .i64 x0.MinFrac_, .int .i64 x0.MaxFrac_, .int .i64 x0.G1_, .int .i64 x0.G2_, .int .i64 x0.MinSig_, .int .i64 x0.MaxSig_, .int .i64 x0.Exp_, .bool x0.ExpPlus_, .int .i32 x0.Pad_, .int .i64 x0.PadAt_]]) (by kernel_rfl) ?_
      refine kEN ?_
      refine kX ?_
      obtain rfl := oi h110
      exact kZ hFn hFH hFD

def exergueref10_Parse (x0 : List UInt8) : Option (St25 × Int × Int) :=
  (Option.bind (exergueref01_Decode (bytesI x0)) fun y1 => (bif (decide (¬ y1.2.2 = 0)) then (some ((⟨([] : List St108), ([] : List St108), ([] : List St108), ([] : List St108), false, 0, 0, 0, 0, 0, 0, 0, 0, 0, false, 0, 0⟩ : St25), y1.2.1, 3)) else (bif (decide ((y1.1.length : Int) > 120)) then (some ((⟨([] : List St108), ([] : List St108), ([] : List St108), ([] : List St108), false, 0, 0, 0, 0, 0, 0, 0, 0, 0, false, 0, 0⟩ : St25), 0, 11)) else (Option.bind (exergueref10_first y1.1) fun y10 => (Option.bind (Option.bind (bif y10.2.2.2.2 then (Option.bind (exergueref10_at y1.1 y10.2.2.2.1) fun y55 => (some (decide (y55 = 59)))) else (some false)) fun (s47 : Bool) => (bif s47 then (Option.bind (exergueref10_second y10.1 y1.1 (IntKind.wrap .i64 (y10.2.2.2.1 + 1)) y10.2.1 y10.2.2.1) fun y61 => (some (y61.2.1, y61.2.2, y61.1.Pre_, y61.1.Suf_, y61.1.NPre_, y61.1.NSuf_, y61.1.Neg_, y61.1.Hash_, y61.1.MinInt_, y61.1.MinFrac_, y61.1.MaxFrac_, y61.1.G1_, y61.1.G2_, y61.1.MinSig_, y61.1.MaxSig_, y61.1.Exp_, y61.1.ExpPlus_, y61.1.Pad_, y61.1.PadAt_))) else (some (y10.2.2.2.1, y10.2.2.2.2, y10.1.Pre_, y10.1.Suf_, y10.1.NPre_, y10.1.NSuf_, y10.1.Neg_, y10.1.Hash_, y10.1.MinInt_, y10.1.MinFrac_, y10.1.MaxFrac_, y10.1.G1_, y10.1.G2_, y10.1.MinSig_, y10.1.MaxSig_, y10.1.Exp_, y10.1.ExpPlus_, y10.1.Pad_, y10.1.PadAt_)))) fun (s36 : Int × Bool × (List St108) × (List St108) × (List St108) × (List St108) × Bool × Int × Int × Int × Int × Int × Int × Int × Int × Int × Bool × Int × Int) => (Option.bind (Option.bind (bif (!s36.2.1) then (some true) else (some ((decide (s36.1 < (y1.1.length : Int)))))) fun (s87 : Bool) => (bif s87 then (some (.inr ((⟨([] : List St108), ([] : List St108), ([] : List St108), ([] : List St108), false, 0, 0, 0, 0, 0, 0, 0, 0, 0, false, 0, 0⟩ : St25), s36.1, 2))) else (some (.inl ())))) (joinX fun (s79 : Unit) => (Option.bind (Option.bind (bif (decide ((IntKind.wrap .i64 (s36.2.2.2.2.2.2.2.1 + s36.2.2.2.2.2.2.2.2.1)) > 40)) then (some true) else (bif (decide (s36.2.2.2.2.2.2.2.2.2.2.1 > 40)) then (some true) else (bif (decide (s36.2.2.2.2.2.2.2.2.2.2.2.2.2.2.1 > 40)) then (some true) else (some (decide (s36.2.2.2.2.2.2.2.2.2.2.2.2.2.2.2.1 > 40)))))) fun (s140 : Bool) => (bif s140 then (some (.inr ((⟨([] : List St108), ([] : List St108), ([] : List St108), ([] : List St108), false, 0, 0, 0, 0, 0, 0, 0, 0, 0, false, 0, 0⟩ : St25), 0, 11))) else (some (.inl ())))) (joinX fun (s126 : Unit) => (some ((⟨s36.2.2.1, s36.2.2.2.1, s36.2.2.2.2.1, s36.2.2.2.2.2.1, s36.2.2.2.2.2.2.1, s36.2.2.2.2.2.2.2.1, s36.2.2.2.2.2.2.2.2.1, s36.2.2.2.2.2.2.2.2.2.1, s36.2.2.2.2.2.2.2.2.2.2.1, s36.2.2.2.2.2.2.2.2.2.2.2.1, s36.2.2.2.2.2.2.2.2.2.2.2.2.1, s36.2.2.2.2.2.2.2.2.2.2.2.2.2.1, s36.2.2.2.2.2.2.2.2.2.2.2.2.2.2.1, s36.2.2.2.2.2.2.2.2.2.2.2.2.2.2.2.1, s36.2.2.2.2.2.2.2.2.2.2.2.2.2.2.2.2.1, s36.2.2.2.2.2.2.2.2.2.2.2.2.2.2.2.2.2.1, s36.2.2.2.2.2.2.2.2.2.2.2.2.2.2.2.2.2.2⟩ : St25), 0, 0)))))))))))
theorem exergueref10_Parse_ok {x0 : List UInt8} {r : St25 × Int × Int} (h : exergueref10_Parse x0 = some r) : SC Try.prog 53 [.str x0] [] (.tup [.agg (encSt25 r.1), .int .i64 r.2.1, .int .i64 r.2.2]) [] := by
  refine kFn (fn := Try.f53) (fun F hFn hFH hFD => ?_)
  unfold exergueref10_Parse at h
  refine kSR ?_
  refine kC 3 [0,2,3,4] ?_
  refine kEN ?_
  refine kSR ?_
  refine kC 1 [2,3,4,17] ?_
  refine RJ.rel (d := (some 18)) (ef := ⟨.lst x0.length 1 (x0.map byteSV), [], []⟩) (ef' := ⟨lsv (encI .u8) 1 (bytesI x0), [], []⟩) (c := true) (tr2 := []) (H2 := [.box [.nl, .nl, .nl, .nl, .bool false, .int .i64 0, .int .i64 0, .int .i64 0, .int .i64 0, .int .i64 0, .int .i64 0, .int .i64 0, .int .i64 0, .int .i64 0, .bool false, .int .i32 0, .int .i64 0]]) (by kernel_rfl) rfl (fun hc => N.toBytes) (by kernel_rfl) ?_
  obtain ⟨y1, hy2, h3⟩ := bindS h
  refine RJ.call0 (d := (some 19)) (f := 75) (args := [lsv (encI .u8) 1 (bytesI x0)]) (v := .tup [lsv (encI .i32) 1 y1.1, .int .i64 y1.2.1, .int .i64 y1.2.2]) (tr2 := []) (by kernel_rfl) (by kernel_rfl) (.cons (Le.refl _) .nil) (exergueref01_Decode_ok hy2) (by kernel_rfl) ?_
  refine kC 7 [2,3,4,5,6,7] ?_
  refine kEN ?_
  refine kS ?_
  refine kSR ?_
  refine RJ.seg 2 [2, 3, 4, 5, 6, 24] (L2 := [(2, .ptr 0 0), (3, .int .i64 0), (4, .int .i64 0), (5, lsv (encI .i32) 1 y1.1), (6, .int .i64 y1.2.1), (24, .bool (decide (¬ y1.2.2 = 0)))]) (H2 := [.box [.nl, .nl, .nl, .nl, .bool false, .int .i64 0, .int .i64 0, .int .i64 0, .int .i64 0, .int .i64 0, .int .i64 0, .int .i64 0, .int .i64 0, .int .i64 0, .bool false, .int .i32 0, .int .i64 0]]) (by kernel_rfl) ?_
  refine kEN ?_
  refine J.caseB 24 (b := (decide (¬ y1.2.2 = 0))) (by kernel_rfl) (fun hb4 => ?_) (fun hb4 => ?_)
  · have h5 := condT hb4 h3
    refine kT ?_
    refine kSR ?_
    refine kC 5 [2,3,4,5] ?_
    refine kEN ?_
    refine kX ?_
    refine PJ.passRet ?_
    obtain rfl := oi h5
    refine PJ.res (v1 := .tup [.agg [.nl, .nl, .nl, .nl, .bool false, .int .i64 0, .int .i64 0, .int .i64 0, .int .i64 0, .int .i64 0, .int .i64 0, .int .i64 0, .int .i64 0, .int .i64 0, .bool false, .int .i32 0, .int .i64 0], .int .i64 y1.2.1, .int .i64 3]) (Le.tup (.cons (Le.agg (.cons (Le.nl _) (.cons (Le.nl _) (.cons (Le.nl _) (.cons (Le.nl _) (.cons (Le.refl _) (.cons (Le.refl _) (.cons (Le.refl _) (.cons (Le.refl _) (.cons (Le.refl _) (.cons (Le.refl _) (.cons (Le.refl _) (.cons (Le.refl _) (.cons (Le.refl _) (.cons (Le.refl _) (.cons (Le.refl _) (.cons (Le.refl _) (.cons (Le.refl _) .nil)))))))))))))))))) (.cons (Le.refl _) (.cons (Le.refl _) .nil)))) ?_
    exact kZ hFn hFH hFD
  · have h6 := condF hb4 h3
    refine kF ?_
    refine kK ?_
    refine PJ.next ?_
    refine kS ?_
    refine kSR ?_
    refine kC 3 [2,3,4,5,29] ?_
    refine kEN ?_
    refine J.caseB 29 (b := (decide ((y1.1.length : Int) > 120))) (by kernel_rfl) (fun hb7 => ?_) (fun hb7 => ?_)
    · have h8 := condT hb7 h6
      refine kT ?_
      refine kSR ?_
      refine kC 4 [2,3,4,5] ?_
      refine kEN ?_
      refine kX ?_
      refine PJ.passRet ?_
      obtain rfl := oi h8
      refine PJ.res (v1 := .tup [.agg [.nl, .nl, .nl, .nl, .bool false, .int .i64 0, .int .i64 0, .int .i64 0, .int .i64 0, .int .i64 0, .int .i64 0, .int .i64 0, .int .i64 0, .int .i64 0, .bool false, .int .i32 0, .int .i64 0], .int .i64 0, .int .i64 11]) (Le.tup (.cons (Le.agg (.cons (Le.nl _) (.cons (Le.nl _) (.cons (Le.nl _) (.cons (Le.nl _) (.cons (Le.refl _) (.cons (Le.refl _) (.cons (Le.refl _) (.cons (Le.refl _) (.cons (Le.refl _) (.cons (Le.refl _) (.cons (Le.refl _) (.cons (Le.refl _) (.cons (Le.refl _) (.cons (Le.refl _) (.cons (Le.refl _) (.cons (Le.refl _) (.cons (Le.refl _) .nil)))))))))))))))))) (.cons (Le.refl _) (.cons (Le.refl _) .nil)))) ?_
      exact kZ hFn hFH hFD
    · have h9 := condF hb7 h6
      refine kF ?_
      refine kK ?_
      refine PJ.next ?_
      refine kSR ?_
      refine kC 1 [2,3,4,5,32] ?_
      obtain ⟨y10, hy11, h12⟩ := bindS h9
      refine RJ.call0 (d := (some 33)) (f := 76) (args := [lsv (encI .i32) 1 y1.1]) (v := .tup [.agg (encSt25 y10.1), .int .i64 y10.2.1, .int .i64 y10.2.2.1, .int .i64 y10.2.2.2.1, .bool y10.2.2.2.2]) (tr2 := []) (by kernel_rfl) (by kernel_rfl) (.cons (Le.refl _) .nil) (exergueref10_first_ok hy11) (by kernel_rfl) ?_
      refine kC 12 [2,3,4,5,8,9,10,11,12] ?_
      refine kEN ?_
      obtain ⟨s36, hy38, h40⟩ := bindS h12
      refine K.cutN (by kernel_rfl) (fun (s36 : Int × Bool × (List St108) × (List St108) × (List St108) × (List St108) × Bool × Int × Int × Int × Int × Int × Int × Int × Int × Int × Bool × Int × Int) => ([(2, .ptr 0 0), (3, .int .i64 0), (4, .int .i64 0), (5, lsv (encI .i32) 1 y1.1), (8, .ptr 1 0), (11, .int .i64 s36.1), (12, .bool s36.2.1)], [.box [.nl, .nl, .nl, .nl, .bool false, .int .i64 0, .int .i64 0, .int .i64 0, .int .i64 0, .int .i64 0, .int .i64 0, .int .i64 0, .int .i64 0, .int .i64 0, .bool false, .int .i32 0, .int .i64 0], .box [lsv encSt108 2 s36.2.2.1, lsv encSt108 2 s36.2.2.2.1, lsv encSt108 2 s36.2.2.2.2.1, lsv encSt108 2 s36.2.2.2.2.2.1, .bool s36.2.2.2.2.2.2.1, .int .i64 s36.2.2.2.2.2.2.2.1, .int .i64 s36.2.2.2.2.2.2.2.2.1, .int .i64 s36.2.2.2.2.2.2.2.2.2.1, .int .i64 s36.2.2.2.2.2.2.2.2.2.2.1, .int .i64 s36.2.2.2.2.2.2.2.2.2.2.2.1, .int .i64 s36.2.2.2.2.2.2.2.2.2.2.2.2.1, .int .i64 s36.2.2.2.2.2.2.2.2.2.2.2.2.2.1, .int .i64 s36.2.2.2.2.2.2.2.2.2.2.2.2.2.2.1, .int .i64 s36.2.2.2.2.2.2.2.2.2.2.2.2.2.2.2.1, .bool s36.2.2.2.2.2.2.2.2.2.2.2.2.2.2.2.2.1, .int .i32 s36.2.2.2.2.2.2.2.2.2.2.2.2.2.2.2.2.2.1, .int .i64 s36.2.2.2.2.2.2.2.2.2.2.2.2.2.2.2.2.2.2]])) s36 ?_ ?_
      · obtain ⟨s47, hy49, h51⟩ := bindS hy38
        refine K.cutN (by kernel_rfl) (fun (s47 : Bool) => ([(2, .ptr 0 0), (3, .int .i64 0), (4, .int .i64 0), (5, lsv (encI .i32) 1 y1.1), (8, .ptr 1 0), (9, .int .i64 y10.2.1), (10, .int .i64 y10.2.2.1), (11, .int .i64 y10.2.2.2.1), (12, .bool y10.2.2.2.2), (45, .bool s47)], [.box [.nl, .nl, .nl, .nl, .bool false, .int .i64 0, .int .i64 0, .int .i64 0, .int .i64 0, .int .i64 0, .int .i64 0, .int .i64 0, .int .i64 0, .int .i64 0, .bool false, .int .i32 0, .int .i64 0], .box (encSt25 y10.1)])) s47 ?_ ?_
        · refine kR ?_
          refine RJ.seg 2 [2, 3, 4, 5, 8, 9, 10, 11, 12, 40] (L2 := [(2, .ptr 0 0), (3, .int .i64 0), (4, .int .i64 0), (5, lsv (encI .i32) 1 y1.1), (8, .ptr 1 0), (9, .int .i64 y10.2.1), (10, .int .i64 y10.2.2.1), (11, .int .i64 y10.2.2.2.1), (12, .bool y10.2.2.2.2), (40, .bool y10.2.2.2.2)]) (H2 := [.box [.nl, .nl, .nl, .nl, .bool false, .int .i64 0, .int .i64 0, .int .i64 0, .int .i64 0, .int .i64 0, .int .i64 0, .int .i64 0, .int .i64 0, .int .i64 0, .bool false, .int .i32 0, .int .i64 0], .box (encSt25 y10.1)]) (by kernel_rfl) ?_
          refine RJ.caseB 40 (b := y10.2.2.2.2) (by kernel_rfl) (fun hb52 => ?_) (fun hb52 => ?_)
          · have h53 := condT hb52 hy49
            refine kC 2 [2,3,4,5,8,9,10,11,12,40,41,42] ?_
            obtain ⟨y55, hy56, h57⟩ := bindS h53
            refine RJ.call0 (d := (some 43)) (f := 77) (args := [lsv (encI .i32) 1 y1.1, .int .i64 y10.2.2.2.1]) (v := .int .i32 y55) (tr2 := []) (by kernel_rfl) (by kernel_rfl) (.cons (Le.refl _) (.cons (Le.refl _) .nil)) (exergueref10_at_ok hy56) (by kernel_rfl) ?_
            refine kC 2 [2,3,4,5,8,9,10,11,12,45] ?_
            refine kE ?_
            obtain rfl := oi h57
            exact kN [2, 3, 4, 5, 8, 9, 10, 11, 12, 45]
          · have h54 := condF hb52 hy49
            refine kC 5 [2,3,4,5,8,9,10,11,12,45] ?_
            refine kE ?_
            obtain rfl := oi h54
            exact kN [2, 3, 4, 5, 8, 9, 10, 11, 12, 45]
        · refine J.caseB 45 (b := s47) (by kernel_rfl) (fun hb58 => ?_) (fun hb58 => ?_)
          · have h59 := condT hb58 h51
            refine kT ?_
            refine kSR ?_
            refine kC 6 [2,3,4,5,8,11,12,47,48,50,51,52] ?_
            obtain ⟨y61, hy62, h63⟩ := bindS h59
            refine RJ.call0 (d := (some 53)) (f := 78) (args := [.agg (encSt25 y10.1), lsv (encI .i32) 1 y1.1, .int .i64 (IntKind.wrap .i64 (y10.2.2.2.1 + 1)), .int .i64 y10.2.1, .int .i64 y10.2.2.1]) (v := .tup [.agg (encSt25 y61.1), .int .i64 y61.2.1, .bool y61.2.2]) (tr2 := []) (by kernel_rfl) (by kernel_rfl) (.cons (Le.refl _) (.cons (Le.refl _) (.cons (Le.refl _) (.cons (Le.refl _) (.cons (Le.refl _) .nil))))) (exergueref10_second_ok hy62) (by kernel_rfl) ?_
            refine kC 8 [2,3,4,5,8,11,12,13,14,15] ?_
            refine kEN ?_
            refine kSR ?_
            refine kC 2 [2,3,4,5,8,11,12,14,15] ?_
            refine kEN ?_
            refine kSR ?_
            refine RJ.seg 2 [2, 3, 4, 5, 8, 11, 12, 15] (L2 := [(2, .ptr 0 0), (3, .int .i64 0), (4, .int .i64 0), (5, lsv (encI .i32) 1 y1.1), (8, .ptr 1 0), (11, .int .i64 y61.2.1), (12, .bool y10.2.2.2.2), (15, .bool y61.2.2)]) (H2 := [.box [.nl, .nl, .nl, .nl, .bool false, .int .i64 0, .int .i64 0, .int .i64 0, .int .i64 0, .int .i64 0, .int .i64 0, .int .i64 0, .int .i64 0, .int .i64 0, .bool false, .int .i32 0, .int .i64 0], .box (encSt25 y61.1), .box (encSt25 y61.1)]) (by kernel_rfl) ?_
            refine kEN ?_
            refine kR ?_
            refine kC 2 [2,3,4,5,8,11,12] ?_
            refine kE ?_
            obtain rfl := oi h63
            refine PJ.wk (Wk.sel (L2 := [(2, .ptr 0 0), (3, .int .i64 0), (4, .int .i64 0), (5, lsv (encI .i32) 1 y1.1), (8, .ptr 1 0), (11, .int .i64 y61.2.1), (12, .bool y61.2.2)]) (H2 := [.box [.nl, .nl, .nl, .nl, .bool false, .int .i64 0, .int .i64 0, .int .i64 0, .int .i64 0, .int .i64 0, .int .i64 0, .int .i64 0, .int .i64 0, .int .i64 0, .bool false, .int .i32 0, .int .i64 0], .box (encSt25 y61.1)]) 0 (by rw [hFH]; rfl) hFD [0, 1] (by kernel_rfl) (by kernel_rfl) (by decide) (by kernel_rfl) (by kernel_rfl) (by kernel_rfl) (by kernel_rfl)) ?_
            exact kN [2, 3, 4, 5, 8, 11, 12]
          · have h60 := condF hb58 h51
            refine kF ?_
            refine kK ?_
            obtain rfl := oi h60
            exact kN [2, 3, 4, 5, 8, 11, 12]
      · obtain ⟨y80, hy81, h82⟩ := bindS h40
        refine K.cutX (by kernel_rfl) (fun (s79 : Unit) => ([(2, .ptr 0 0), (3, .int .i64 0), (4, .int .i64 0), (8, .ptr 1 0)], [.box [.nl, .nl, .nl, .nl, .bool false, .int .i64 0, .int .i64 0, .int .i64 0, .int .i64 0, .int .i64 0, .int .i64 0, .int .i64 0, .int .i64 0, .int .i64 0, .bool false, .int .i32 0, .int .i64 0], .box [lsv encSt108 2 s36.2.2.1, lsv encSt108 2 s36.2.2.2.1, lsv encSt108 2 s36.2.2.2.2.1, lsv encSt108 2 s36.2.2.2.2.2.1, .bool s36.2.2.2.2.2.2.1, .int .i64 s36.2.2.2.2.2.2.2.1, .int .i64 s36.2.2.2.2.2.2.2.2.1, .int .i64 s36.2.2.2.2.2.2.2.2.2.1, .int .i64 s36.2.2.2.2.2.2.2.2.2.2.1, .int .i64 s36.2.2.2.2.2.2.2.2.2.2.2.1, .int .i64 s36.2.2.2.2.2.2.2.2.2.2.2.2.1, .int .i64 s36.2.2.2.2.2.2.2.2.2.2.2.2.2.1, .int .i64 s36.2.2.2.2.2.2.2.2.2.2.2.2.2.2.1, .int .i64 s36.2.2.2.2.2.2.2.2.2.2.2.2.2.2.2.1, .bool s36.2.2.2.2.2.2.2.2.2.2.2.2.2.2.2.2.1, .int .i32 s36.2.2.2.2.2.2.2.2.2.2.2.2.2.2.2.2.2.1, .int .i64 s36.2.2.2.2.2.2.2.2.2.2.2.2.2.2.2.2.2.2]])) y80 ?_ (fun s79 hs => ?_)
        · obtain ⟨s87, hy89, h91⟩ := bindS hy81
          refine K.cutN (by kernel_rfl) (fun (s87 : Bool) => ([(2, .ptr 0 0), (3, .int .i64 0), (4, .int .i64 0), (8, .ptr 1 0), (11, .int .i64 s36.1), (67, .bool s87)], [.box [.nl, .nl, .nl, .nl, .bool false, .int .i64 0, .int .i64 0, .int .i64 0, .int .i64 0, .int .i64 0, .int .i64 0, .int .i64 0, .int .i64 0, .int .i64 0, .bool false, .int .i32 0, .int .i64 0], .box [lsv encSt108 2 s36.2.2.1, lsv encSt108 2 s36.2.2.2.1, lsv encSt108 2 s36.2.2.2.2.1, lsv encSt108 2 s36.2.2.2.2.2.1, .bool s36.2.2.2.2.2.2.1, .int .i64 s36.2.2.2.2.2.2.2.1, .int .i64 s36.2.2.2.2.2.2.2.2.1, .int .i64 s36.2.2.2.2.2.2.2.2.2.1, .int .i64 s36.2.2.2.2.2.2.2.2.2.2.1, .int .i64 s36.2.2.2.2.2.2.2.2.2.2.2.1, .int .i64 s36.2.2.2.2.2.2.2.2.2.2.2.2.1, .int .i64 s36.2.2.2.2.2.2.2.2.2.2.2.2.2.1, .int .i64 s36.2.2.2.2.2.2.2.2.2.2.2.2.2.2.1, .int .i64 s36.2.2.2.2.2.2.2.2.2.2.2.2.2.2.2.1, .bool s36.2.2.2.2.2.2.2.2.2.2.2.2.2.2.2.2.1, .int .i32 s36.2.2.2.2.2.2.2.2.2.2.2.2.2.2.2.2.2.1, .int .i64 s36.2.2.2.2.2.2.2.2.2.2.2.2.2.2.2.2.2.2]])) s87 ?_ ?_
          · refine kR ?_
            refine kC 3 [2,3,4,5,8,11,62] ?_
            refine RJ.caseB 62 (b := (!s36.2.1)) (by kernel_rfl) (fun hb92 => ?_) (fun hb92 => ?_)
            · have h93 := condT hb92 hy89
              refine kC 5 [2,3,4,8,11,67] ?_
              refine kE ?_
              obtain rfl := oi h93
              exact kN [2, 3, 4, 8, 11, 67]
            · have h94 := condF hb92 hy89
              refine kC 5 [2,3,4,8,11,67] ?_
              refine kE ?_
              obtain rfl := oi h94
              exact kN [2, 3, 4, 8, 11, 67]
          · refine J.caseB 67 (b := s87) (by kernel_rfl) (fun hb95 => ?_) (fun hb95 => ?_)
            · have h96 := condT hb95 h91
              refine kT ?_
              refine kSR ?_
              refine kC 5 [2,3,4,8] ?_
              refine kEN ?_
              refine kX ?_
              obtain rfl := oi h96
              have h98 := joinX_inr h82
              refine PJ.cutXr (fun e => nomatch e) ?_
              obtain rfl := oi h98
              refine PJ.res (v1 := .tup [.agg [.nl, .nl, .nl, .nl, .bool false, .int .i64 0, .int .i64 0, .int .i64 0, .int .i64 0, .int .i64 0, .int .i64 0, .int .i64 0, .int .i64 0, .int .i64 0, .bool false, .int .i32 0, .int .i64 0], .int .i64 s36.1, .int .i64 2]) (Le.tup (.cons (Le.agg (.cons (Le.nl _) (.cons (Le.nl _) (.cons (Le.nl _) (.cons (Le.nl _) (.cons (Le.refl _) (.cons (Le.refl _) (.cons (Le.refl _) (.cons (Le.refl _) (.cons (Le.refl _) (.cons (Le.refl _) (.cons (Le.refl _) (.cons (Le.refl _) (.cons (Le.refl _) (.cons (Le.refl _) (.cons (Le.refl _) (.cons (Le.refl _) (.cons (Le.refl _) .nil)))))))))))))))))) (.cons (Le.refl _) (.cons (Le.refl _) .nil)))) ?_
              exact kZ hFn hFH hFD
            · have h97 := condF hb95 h91
              refine kF ?_
              refine kK ?_
              obtain rfl := oi h97
              exact PJ.cutXl [2, 3, 4, 8] (by kernel_rfl) (by kernel_rfl)
        · subst hs
          have h83 := joinX_inl h82
          obtain ⟨y127, hy128, h129⟩ := bindS h83
          refine K.cutX (by kernel_rfl) (fun (s126 : Unit) => ([(2, .ptr 0 0), (3, .int .i64 0), (4, .int .i64 0), (8, .ptr 1 0)], [.box [.nl, .nl, .nl, .nl, .bool false, .int .i64 0, .int .i64 0, .int .i64 0, .int .i64 0, .int .i64 0, .int .i64 0, .int .i64 0, .int .i64 0, .int .i64 0, .bool false, .int .i32 0, .int .i64 0], .box [lsv encSt108 2 s36.2.2.1, lsv encSt108 2 s36.2.2.2.1, lsv encSt108 2 s36.2.2.2.2.1, lsv encSt108 2 s36.2.2.2.2.2.1, .bool s36.2.2.2.2.2.2.1, .int .i64 s36.2.2.2.2.2.2.2.1, .int .i64 s36.2.2.2.2.2.2.2.2.1, .int .i64 s36.2.2.2.2.2.2.2.2.2.1, .int .i64 s36.2.2.2.2.2.2.2.2.2.2.1, .int .i64 s36.2.2.2.2.2.2.2.2.2.2.2.1, .int .i64 s36.2.2.2.2.2.2.2.2.2.2.2.2.1, .int .i64 s36.2.2.2.2.2.2.2.2.2.2.2.2.2.1, .int .i64 s36.2.2.2.2.2.2.2.2.2.2.2.2.2.2.1, .int .i64 s36.2.2.2.2.2.2.2.2.2.2.2.2.2.2.2.1, .bool s36.2.2.2.2.2.2.2.2.2.2.2.2.2.2.2.2.1, .int .i32 s36.2.2.2.2.2.2.2.2.2.2.2.2.2.2.2.2.2.1, .int .i64 s36.2.2.2.2.2.2.2.2.2.2.2.2.2.2.2.2.2.2]])) y127 ?_ (fun s126 hs => ?_)
          · obtain ⟨s140, hy142, h144⟩ := bindS hy128
            refine K.cutN (by kernel_rfl) (fun (s140 : Bool) => ([(2, .ptr 0 0), (3, .int .i64 0), (4, .int .i64 0), (8, .ptr 1 0), (90, .bool s140)], [.box [.nl, .nl, .nl, .nl, .bool false, .int .i64 0, .int .i64 0, .int .i64 0, .int .i64 0, .int .i64 0, .int .i64 0, .int .i64 0, .int .i64 0, .int .i64 0, .bool false, .int .i32 0, .int .i64 0], .box [lsv encSt108 2 s36.2.2.1, lsv encSt108 2 s36.2.2.2.1, lsv encSt108 2 s36.2.2.2.2.1, lsv encSt108 2 s36.2.2.2.2.2.1, .bool s36.2.2.2.2.2.2.1, .int .i64 s36.2.2.2.2.2.2.2.1, .int .i64 s36.2.2.2.2.2.2.2.2.1, .int .i64 s36.2.2.2.2.2.2.2.2.2.1, .int .i64 s36.2.2.2.2.2.2.2.2.2.2.1, .int .i64 s36.2.2.2.2.2.2.2.2.2.2.2.1, .int .i64 s36.2.2.2.2.2.2.2.2.2.2.2.2.1, .int .i64 s36.2.2.2.2.2.2.2.2.2.2.2.2.2.1, .int .i64 s36.2.2.2.2.2.2.2.2.2.2.2.2.2.2.1, .int .i64 s36.2.2.2.2.2.2.2.2.2.2.2.2.2.2.2.1, .bool s36.2.2.2.2.2.2.2.2.2.2.2.2.2.2.2.2.1, .int .i32 s36.2.2.2.2.2.2.2.2.2.2.2.2.2.2.2.2.2.1, .int .i64 s36.2.2.2.2.2.2.2.2.2.2.2.2.2.2.2.2.2.2]])) s140 ?_ ?_
            · refine kR ?_
              refine kC 7 [2,3,4,8,76] ?_
              refine RJ.caseB 76 (b := (decide ((IntKind.wrap .i64 (s36.2.2.2.2.2.2.2.1 + s36.2.2.2.2.2.2.2.2.1)) > 40))) (by kernel_rfl) (fun hb145 => ?_) (fun hb145 => ?_)
              · have h146 := condT hb145 hy142
                refine kC 14 [2,3,4,8,90] ?_
                refine kE ?_
                obtain rfl := oi h146
                exact kN [2, 3, 4, 8, 90]
              · have h147 := condF hb145 hy142
                refine kC 5 [2,3,4,8,81] ?_
                refine RJ.caseB 81 (b := (decide (s36.2.2.2.2.2.2.2.2.2.2.1 > 40))) (by kernel_rfl) (fun hb148 => ?_) (fun hb148 => ?_)
                · have h149 := condT hb148 h147
                  refine kC 9 [2,3,4,8,90] ?_
                  refine kE ?_
                  obtain rfl := oi h149
                  exact kN [2, 3, 4, 8, 90]
                · have h150 := condF hb148 h147
                  refine kC 5 [2,3,4,8,86] ?_
                  refine RJ.caseB 86 (b := (decide (s36.2.2.2.2.2.2.2.2.2.2.2.2.2.2.1 > 40))) (by kernel_rfl) (fun hb151 => ?_) (fun hb151 => ?_)
                  · have h152 := condT hb151 h150
                    refine RJ.seg 4 [2, 3, 4, 8, 90] (L2 := [(2, .ptr 0 0), (3, .int .i64 0), (4, .int .i64 0), (8, .ptr 1 0), (90, .bool true)]) (H2 := [.box [.nl, .nl, .nl, .nl, .bool false, .int .i64 0, .int .i64 0, .int .i64 0, .int .i64 0, .int .i64 0, .int .i64 0, .int .i64 0, .int .i64 0, .int .i64 0, .bool false, .int .i32 0, .int .i64 0], .box [lsv encSt108 2 s36.2.2.1, lsv encSt108 2 s36.2.2.2.1, lsv encSt108 2 s36.2.2.2.2.1, lsv encSt108 2 s36.2.2.2.2.2.1, .bool s36.2.2.2.2.2.2.1, .int .i64 s36.2.2.2.2.2.2.2.1, .int .i64 s36.2.2.2.2.2.2.2.2.1, .int .i64 s36.2.2.2.2.2.2.2.2.2.1, .int .i64 s36.2.2.2.2.2.2.2.2.2.2.1, .int .i64 s36.2.2.2.2.2.2.2.2.2.2.2.1, .int .i64 s36.2.2.2.2.2.2.2.2.2.2.2.2.1, .int .i64 s36.2.2.2.2.2.2.2.2.2.2.2.2.2.1, .int .i64 s36.2.2.2.2.2.2.2.2.2.2.2.2.2.2.1, .int .i64 s36.2.2.2.2.2.2.2.2.2.2.2.2.2.2.2.1, .bool s36.2.2.2.2.2.2.2.2.2.2.2.2.2.2.2.2.1, .int .i32 s36.2.2.2.2.2.2.2.2.2.2.2.2.2.2.2.2.2.1, .int .i64 s36.2.2.2.2.2.2.2.2.2.2.2.2.2.2.2.2.2.2]]) (by kernel_rfl) ?_
                    refine kE ?_
                    obtain rfl := oi h152
                    exact kN [2, 3, 4, 8, 90]
                  · have h153 := condF hb151 h150
                    refine RJ.seg 4 [2, 3, 4, 8, 90] (L2 := [(2, .ptr 0 0), (3, .int .i64 0), (4, .int .i64 0), (8, .ptr 1 0), (90, .bool (decide (s36.2.2.2.2.2.2.2.2.2.2.2.2.2.2.2.1 > 40)))]) (H2 := [.box [.nl, .nl, .nl, .nl, .bool false, .int .i64 0, .int .i64 0, .int .i64 0, .int .i64 0, .int .i64 0, .int .i64 0, .int .i64 0, .int .i64 0, .int .i64 0, .bool false, .int .i32 0, .int .i64 0], .box [lsv encSt108 2 s36.2.2.1, lsv encSt108 2 s36.2.2.2.1, lsv encSt108 2 s36.2.2.2.2.1, lsv encSt108 2 s36.2.2.2.2.2.1, .bool s36.2.2.2.2.2.2.1, .int .i64 s36.2.2.2.2.2.2.2.1, .int .i64 s36.2.2.2.2.2.2.2.2.1, .int .i64 s36.2.2.2.2.2.2.2.2.2.1, .int .i64 s36.2.2.2.2.2.2.2.2.2.2.1, .int .i64 s36.2.2.2.2.2.2.2.2.2.2.2.1, .int .i64 s36.2.2.2.2.2.2.2.2.2.2.2.2.1, .int .i64 s36.2.2.2.2.2.2.2.2.2.2.2.2.2.1, .int .i64 s36.2.2.2.2.2.2.2.2.2.2.2.2.2.2.1, .int .i64 s36.2.2.2.2.2.2.2.2.2.2.2.2.2.2.2.1, .bool s36.2.2.2.2.2.2.2.2.2.2.2.2.2.2.2.2.1, .int .i32 s36.2.2.2.2.2.2.2.2.2.2.2.2.2.2.2.2.2.1, .int .i64 s36.2.2.2.2.2.2.2.2.2.2.2.2.2.2.2.2.2.2]]) (by kernel_rfl) ?_
                    refine kE ?_
                    obtain rfl := oi h153
                    exact kN [2, 3, 4, 8, 90]
            · refine J.caseB 90 (b := s140) (by kernel_rfl) (fun hb154 => ?_) (fun hb154 => ?_)
              · have h155 := condT hb154 h144
                refine kT ?_
                refine kSR ?_
                refine kC 4 [2,3,4,8] ?_
                refine kEN ?_
                refine kX ?_
                obtain rfl := oi h155
                have h157 := joinX_inr h129
                refine PJ.cutXr (fun e => nomatch e) ?_
                obtain rfl := oi h157
                refine PJ.res (v1 := .tup [.agg [.nl, .nl, .nl, .nl, .bool false, .int .i64 0, .int .i64 0, .int .i64 0, .int .i64 0, .int .i64 0, .int .i64 0, .int .i64 0, .int .i64 0, .int .i64 0, .bool false, .int .i32 0, .int .i64 0], .int .i64 0, .int .i64 11]) (Le.tup (.cons (Le.agg (.cons (Le.nl _) (.cons (Le.nl _) (.cons (Le.nl _) (.cons (Le.nl _) (.cons (Le.refl _) (.cons (Le.refl _) (.cons (Le.refl _) (.cons (Le.refl _) (.cons (Le.refl _) (.cons (Le.refl _) (.cons (Le.refl _) (.cons (Le.refl _) (.cons (Le.refl _) (.cons (Le.refl _) (.cons (Le.refl _) (.cons (Le.refl _) (.cons (Le.refl _) .nil)))))))))))))))))) (.cons (Le.refl _) (.cons (Le.refl _) .nil)))) ?_
                exact kZ hFn hFH hFD
              · have h156 := condF hb154 h144
                refine kF ?_
                refine kK ?_
                obtain rfl := oi h156
                exact PJ.cutXl [2, 3, 4, 8] (by kernel_rfl) (by kernel_rfl)
          · subst hs
            have h130 := joinX_inl h129
            refine kSR ?_
            refine kC 4 [2,3,4] ?_
            refine kEN ?_
            refine kX ?_
            obtain rfl := oi h130
            exact kZ hFn hFH hFD

def exergueref10_Toks (x0 : List St108) (x1 : List St108) : Option (Bool) :=
  (bif (decide (¬ (x0.length : Int) = (x1.length : Int))) then (some false) else (Option.bind (loopN (fun (s51 : Int) => (bif (decide (s51 < (x0.length : Int))) then (bif inR s51 x0.length then (bif inR s51 x1.length then (bif (!((decide (((nth x0 s51).Kind_) = ((nth x1 s51).Kind_))) && ((decide (((nth x0 s51).R_) = ((nth x1 s51).R_))) && true))) then (some (.inr (.inr false))) else (some (.inl (IntKind.wrap .i64 (s51 + 1))))) else none) else none) else (some (.inr (.inl ()))))) big 0) (joinX fun (s46 : Unit) => (some true))))
theorem exergueref10_Toks_ok {x0 : List St108} {x1 : List St108} {r : Bool} (h : exergueref10_Toks x0 x1 = some r) : SC Try.prog 82 [lsv encSt108 2 x0, lsv encSt108 2 x1] [] (.bool r) [] := by
  refine kFn (fn := Try.f82) (fun F hFn hFH hFD => ?_)
  unfold exergueref10_Toks at h
  refine kSR ?_
  refine kC 1 [0,1,4] ?_
  refine kEN ?_
  refine kS ?_
  refine kSR ?_
  refine kC 5 [0,1,4,10] ?_
  refine kEN ?_
  refine J.caseB 10 (b := (decide (¬ (x0.length : Int) = (x1.length : Int)))) (by kernel_rfl) (fun hb1 => ?_) (fun hb1 => ?_)
  · have h2 := condT hb1 h
    refine kT ?_
    refine kSR ?_
    refine kC 1 [0,1,4] ?_
    refine kEN ?_
    refine kX ?_
    refine PJ.passRet ?_
    obtain rfl := oi h2
    exact kZ hFn hFH hFD
  · have h3 := condF hb1 h
    refine kF ?_
    refine kK ?_
    refine PJ.next ?_
    obtain ⟨y47, hy48, h49⟩ := bindS h3
    refine K.cutX (by kernel_rfl) (fun (s46 : Unit) => ([(4, .bool false)], [])) y47 ?_ (fun s46 hs => ?_)
    · refine kSR ?_
      refine kC 1 [0,1,4,5] ?_
      refine kEN ?_
      refine K.block 0 (by kernel_rfl) ?_
      refine K.loop (by kernel_rfl) (fun (s51 : Int) => ([(0, lsv encSt108 2 x0), (1, lsv encSt108 2 x1), (4, .bool false), (5, .int .i64 s51)], [])) hy48 [0, 1, 4, 5] (by kernel_rfl) (by kernel_rfl) (fun s51 x79 hs78 => ?_)
      refine kS ?_
      refine kSR ?_
      refine kC 4 [0,1,4,5,14] ?_
      refine kEN ?_
      refine J.caseB 14 (b := (decide (s51 < (x0.length : Int)))) (by kernel_rfl) (fun hb80 => ?_) (fun hb80 => ?_)
      · have h81 := condT hb80 hs78
        refine kT ?_
        refine kK ?_
        refine PJ.next ?_
        refine kS ?_
        refine K.block 1 (by kernel_rfl) ?_
        refine kS ?_
        refine J.keep [0, 1, 4, 5] (L2 := [(0, lsv encSt108 2 x0), (1, lsv encSt108 2 x1), (4, .bool false), (5, .int .i64 s51)]) (by kernel_rfl) ?_
        refine K.draw (by kernel_rfl) (by kernel_rfl) (by kernel_rfl) (H2 := []) (by kernel_rfl) (n := 0) (by kernel_rfl) ?_
        refine kD 2 ?_
        obtain ⟨hm, h83⟩ := asrt h81
        refine RJ.rel (d := (some 19)) (ef := ⟨.ep (((x0.flatMap encSt108).drop ((s51 : Int).toNat * 2)).take 2), [], []⟩) (ef' := ⟨.ep (encSt108 (nth x0 s51)), [], []⟩) (c := inR s51 x0.length) (tr2 := [([], []), ([], []), ([], [])]) (H2 := []) (by kernel_rfl) hm (fun hc => N.idx encSt108_len hc) (by kernel_rfl) ?_
        refine kD 3 ?_
        obtain ⟨hm, h84⟩ := asrt h83
        refine RJ.rel (d := (some 23)) (ef := ⟨.ep (((x1.flatMap encSt108).drop ((s51 : Int).toNat * 2)).take 2), [], []⟩) (ef' := ⟨.ep (encSt108 (nth x1 s51)), [], []⟩) (c := inR s51 x1.length) (tr2 := [([], []), ([], []), ([], []), ([], []), ([], []), ([], []), ([], [])]) (H2 := []) (by kernel_rfl) hm (fun hc => N.idx encSt108_len hc) (by kernel_rfl) ?_
        refine RJ.segD 2 (tr2 := [([], []), ([], []), ([], []), ([], []), ([], []), ([], []), ([], []), ([], []), ([], [])]) (L2 := [(25, .bool ((!((decide (((nth x0 s51).Kind_) = ((nth x1 s51).Kind_))) && ((decide (((nth x0 s51).R_) = ((nth x1 s51).R_))) && true))))), (24, .agg [.int .i64 ((nth x1 s51).Kind_), .int .i32 ((nth x1 s51).R_)]), (23, .ep [.int .i64 ((nth x1 s51).Kind_), .int .i32 ((nth x1 s51).R_)]), (22, .int .i64 s51), (21, lsv encSt108 2 x1), (20, .agg [.int .i64 ((nth x0 s51).Kind_), .int .i32 ((nth x0 s51).R_)]), (19, .ep [.int .i64 ((nth x0 s51).Kind_), .int .i32 ((nth x0 s51).R_)]), (18, .int .i64 s51), (17, lsv encSt108 2 x0), (0, lsv encSt108 2 x0), (1, lsv encSt108 2 x1), (4, .bool false), (5, .int .i64 s51)]) (H2 := []) (by kernel_rfl) ?_
        refine kEN ?_
        refine J.caseB 25 (b := (!((decide (((nth x0 s51).Kind_) = ((nth x1 s51).Kind_))) && ((decide (((nth x0 s51).R_) = ((nth x1 s51).R_))) && true)))) (by kernel_rfl) (fun hb85 => ?_) (fun hb85 => ?_)
        · have h86 := condT hb85 h84
          refine kT ?_
          refine kSR ?_
          refine kC 1 [0,1,4,5] ?_
          refine kEN ?_
          refine kX ?_
          refine PJ.blockRet ?_
          refine PJ.passRet ?_
          obtain rfl := oi h86
          refine PJ.loopOut (fun e => nomatch e) (fun he90 => ?_)
          have h88 := congrArg some he90
          refine PJ.blockRet ?_
          obtain rfl := oi h88
          have h89 := joinX_inr h49
          refine PJ.cutXr (fun e => nomatch e) ?_
          obtain rfl := oi h89
          exact kZ hFn hFH hFD
        · have h87 := condF hb85 h84
          refine kF ?_
          refine kK ?_
          refine PJ.blockNormal ?_
          refine PJ.next ?_
          refine kR ?_
          refine kC 3 [0,1,4,5] ?_
          refine kE ?_
          obtain rfl := oi h87
          exact PJ.loopNext [0, 1, 4, 5] (by kernel_rfl) (by kernel_rfl)
      · have h82 := condF hb80 hs78
        refine kF ?_
        refine K.exit 0 (by kernel_rfl) ?_
        refine PJ.passExit ?_
        obtain rfl := oi h82
        refine PJ.loopOut (fun e => nomatch e) (fun he92 => ?_)
        have h91 := congrArg some he92
        refine PJ.blockOut ?_
        obtain rfl := oi h91
        exact PJ.cutXl [4] (by kernel_rfl) (by kernel_rfl)
    · subst hs
      have h50 := joinX_inl h49
      refine kSR ?_
      refine kC 1 [4] ?_
      refine kEN ?_
      refine kX ?_
      obtain rfl := oi h50
      exact kZ hFn hFH hFD

def exergueref10_Same (x0 : St25) (x1 : St25) : Option (Bool) :=
  (Option.bind (Option.bind (exergueref10_Toks x0.Pre_ x1.Pre_) fun y15 => (bif y15 then (Option.bind (exergueref10_Toks x0.Suf_ x1.Suf_) fun y21 => (some y21)) else (some false))) fun (s10 : Bool) => (Option.bind (Option.bind (exergueref10_Toks x0.NPre_ x1.NPre_) fun y38 => (bif y38 then (Option.bind (exergueref10_Toks x0.NSuf_ x1.NSuf_) fun y44 => (some y44)) else (some false))) fun (s33 : Bool) => (Option.bind (Option.bind (bif (!s10) then (some true) else (bif (!s33) then (some true) else (bif (x0.Neg_ != x1.Neg_) then (some true) else (bif (decide (¬ x0.Pad_ = x1.Pad_)) then (some true) else (bif (decide (¬ x0.PadAt_ = x1.PadAt_)) then (some true) else (some (x0.ExpPlus_ != x1.ExpPlus_))))))) fun (s106 : Bool) => (bif s106 then (some (.inr false)) else (some (.inl ())))) (joinX fun (s86 : Unit) => (Option.bind (bif (decide (x0.Hash_ = x1.Hash_)) then (bif (decide (x0.MinInt_ = x1.MinInt_)) then (bif (decide (x0.G1_ = x1.G1_)) then (some (decide (x0.G2_ = x1.G2_))) else (some false)) else (some false)) else (some false)) fun (s139 : Bool) => (Option.bind (bif s139 then (bif (decide (x0.MinFrac_ = x1.MinFrac_)) then (bif (decide (x0.MaxFrac_ = x1.MaxFrac_)) then (bif (decide (x0.MinSig_ = x1.MinSig_)) then (bif (decide (x0.MaxSig_ = x1.MaxSig_)) then (some (decide (x0.Exp_ = x1.Exp_))) else (some false)) else (some false)) else (some false)) else (some false)) else (some false)) fun (s168 : Bool) => (some s168)))))))
theorem exergueref10_Same_ok {x0 : St25} {x1 : St25} {r : Bool} (h : exergueref10_Same x0 x1 = some r) : SC Try.prog 55 [.agg (encSt25 x0), .agg (encSt25 x1)] [] (.bool r) [] := by
  refine kFn (fn := Try.f55) (fun F hFn hFH hFD => ?_)
  unfold exergueref10_Same at h
  refine kSR ?_
  refine kC 3 [2,3,4] ?_
  refine kEN ?_
  obtain ⟨s10, hy12, h14⟩ := bindS h
  refine K.cutN (by kernel_rfl) (fun (s10 : Bool) => ([(2, .ptr 0 0), (3, .ptr 1 0), (4, .bool false), (5, .bool s10)], [.box (encSt25 x0), .box (encSt25 x1)])) s10 ?_ ?_
  · refine kR ?_
    refine kC 4 [2,3,4,9,11] ?_
    obtain ⟨y15, hy16, h17⟩ := bindS hy12
    refine RJ.call0 (d := (some 12)) (f := 82) (args := [lsv encSt108 2 x0.Pre_, lsv encSt108 2 x1.Pre_]) (v := .bool y15) (tr2 := []) (by kernel_rfl) (by kernel_rfl) (.cons (Le.refl _) (.cons (Le.refl _) .nil)) (exergueref10_Toks_ok hy16) (by kernel_rfl) ?_
    refine kC 1 [2,3,4,13] ?_
    refine RJ.caseB 13 (b := y15) (by kernel_rfl) (fun hb18 => ?_) (fun hb18 => ?_)
    · have h19 := condT hb18 h17
      refine RJ.seg 4 [2, 3, 4, 13, 15, 17] (L2 := [(2, .ptr 0 0), (3, .ptr 1 0), (4, .bool false), (13, .bool true), (15, lsv encSt108 2 x0.Suf_), (17, lsv encSt108 2 x1.Suf_)]) (H2 := [.box (encSt25 x0), .box (encSt25 x1)]) (by kernel_rfl) ?_
      obtain ⟨y21, hy22, h23⟩ := bindS h19
      refine RJ.call0 (d := (some 18)) (f := 82) (args := [lsv encSt108 2 x0.Suf_, lsv encSt108 2 x1.Suf_]) (v := .bool y21) (tr2 := []) (by kernel_rfl) (by kernel_rfl) (.cons (Le.refl _) (.cons (Le.refl _) .nil)) (exergueref10_Toks_ok hy22) (by kernel_rfl) ?_
      refine kC 2 [2,3,4,5] ?_
      refine kE ?_
      obtain rfl := oi h23
      exact kN [2, 3, 4, 5]
    · have h20 := condF hb18 h17
      refine RJ.seg 7 [2, 3, 4, 5] (L2 := [(2, .ptr 0 0), (3, .ptr 1 0), (4, .bool false), (5, .bool false)]) (H2 := [.box (encSt25 x0), .box (encSt25 x1)]) (by kernel_rfl) ?_
      refine kE ?_
      obtain rfl := oi h20
      exact kN [2, 3, 4, 5]
  · obtain ⟨s33, hy35, h37⟩ := bindS h14
    refine K.cutN (by kernel_rfl) (fun (s33 : Bool) => ([(2, .ptr 0 0), (3, .ptr 1 0), (4, .bool false), (5, .bool s10), (6, .bool s33)], [.box (encSt25 x0), .box (encSt25 x1)])) s33 ?_ ?_
    · refine kR ?_
      refine kC 4 [2,3,4,5,21,23] ?_
      obtain ⟨y38, hy39, h40⟩ := bindS hy35
      refine RJ.call0 (d := (some 24)) (f := 82) (args := [lsv encSt108 2 x0.NPre_, lsv encSt108 2 x1.NPre_]) (v := .bool y38) (tr2 := []) (by kernel_rfl) (by kernel_rfl) (.cons (Le.refl _) (.cons (Le.refl _) .nil)) (exergueref10_Toks_ok hy39) (by kernel_rfl) ?_
      refine kC 1 [2,3,4,5,25] ?_
      refine RJ.caseB 25 (b := y38) (by kernel_rfl) (fun hb41 => ?_) (fun hb41 => ?_)
      · have h42 := condT hb41 h40
        refine kC 4 [2,3,4,5,25,27,29] ?_
        obtain ⟨y44, hy45, h46⟩ := bindS h42
        refine RJ.call0 (d := (some 30)) (f := 82) (args := [lsv encSt108 2 x0.NSuf_, lsv encSt108 2 x1.NSuf_]) (v := .bool y44) (tr2 := []) (by kernel_rfl) (by kernel_rfl) (.cons (Le.refl _) (.cons (Le.refl _) .nil)) (exergueref10_Toks_ok hy45) (by kernel_rfl) ?_
        refine RJ.seg 2 [2, 3, 4, 5, 6] (L2 := [(2, .ptr 0 0), (3, .ptr 1 0), (4, .bool false), (5, .bool s10), (6, .bool y44)]) (H2 := [.box (encSt25 x0), .box (encSt25 x1)]) (by kernel_rfl) ?_
        refine kE ?_
        obtain rfl := oi h46
        exact kN [2, 3, 4, 5, 6]
      · have h43 := condF hb41 h40
        refine kC 7 [2,3,4,5,6] ?_
        refine kE ?_
        obtain rfl := oi h43
        exact kN [2, 3, 4, 5, 6]
    · obtain ⟨y87, hy88, h89⟩ := bindS h37
      refine K.cutX (by kernel_rfl) (fun (s86 : Unit) => ([(2, .ptr 0 0), (3, .ptr 1 0), (4, .bool false)], [.box (encSt25 x0), .box (encSt25 x1)])) y87 ?_ (fun s86 hs => ?_)
      · obtain ⟨s106, hy108, h110⟩ := bindS hy88
        refine K.cutN (by kernel_rfl) (fun (s106 : Bool) => ([(2, .ptr 0 0), (3, .ptr 1 0), (4, .bool false), (65, .bool s106)], [.box (encSt25 x0), .box (encSt25 x1)])) s106 ?_ ?_
        · refine kR ?_
          refine kC 3 [2,3,4,6,34] ?_
          refine RJ.caseB 34 (b := (!s10)) (by kernel_rfl) (fun hb111 => ?_) (fun hb111 => ?_)
          · have h112 := condT hb111 hy108
            refine kC 31 [2,3,4,65] ?_
            refine kE ?_
            obtain rfl := oi h112
            exact kN [2, 3, 4, 65]
          · have h113 := condF hb111 hy108
            refine kC 4 [2,3,4,38] ?_
            refine RJ.caseB 38 (b := (!s33)) (by kernel_rfl) (fun hb114 => ?_) (fun hb114 => ?_)
            · have h115 := condT hb114 h113
              refine kC 27 [2,3,4,65] ?_
              refine kE ?_
              obtain rfl := oi h115
              exact kN [2, 3, 4, 65]
            · have h116 := condF hb114 h113
              refine kC 7 [2,3,4,45] ?_
              refine RJ.caseB 45 (b := (x0.Neg_ != x1.Neg_)) (by kernel_rfl) (fun hb117 => ?_) (fun hb117 => ?_)
              · have h118 := condT hb117 h116
                refine RJ.seg 20 [2, 3, 4, 65] (L2 := [(2, .ptr 0 0), (3, .ptr 1 0), (4, .bool false), (65, .bool true)]) (H2 := [.box (encSt25 x0), .box (encSt25 x1)]) (by kernel_rfl) ?_
                refine kE ?_
                obtain rfl := oi h118
                exact kN [2, 3, 4, 65]
              · have h119 := condF hb117 h116
                refine RJ.seg 7 [2, 3, 4, 52] (L2 := [(2, .ptr 0 0), (3, .ptr 1 0), (4, .bool false), (52, .bool (decide (¬ x0.Pad_ = x1.Pad_)))]) (H2 := [.box (encSt25 x0), .box (encSt25 x1)]) (by kernel_rfl) ?_
                refine RJ.caseB 52 (b := (decide (¬ x0.Pad_ = x1.Pad_))) (by kernel_rfl) (fun hb120 => ?_) (fun hb120 => ?_)
                · have h121 := condT hb120 h119
                  refine kC 13 [2,3,4,65] ?_
                  refine kE ?_
                  obtain rfl := oi h121
                  exact kN [2, 3, 4, 65]
                · have h122 := condF hb120 h119
                  refine kC 7 [2,3,4,59] ?_
                  refine RJ.caseB 59 (b := (decide (¬ x0.PadAt_ = x1.PadAt_))) (by kernel_rfl) (fun hb123 => ?_) (fun hb123 => ?_)
                  · have h124 := condT hb123 h122
                    refine kC 6 [2,3,4,65] ?_
                    refine kE ?_
                    obtain rfl := oi h124
                    exact kN [2, 3, 4, 65]
                  · have h125 := condF hb123 h122
                    refine kC 6 [2,3,4,65] ?_
                    refine kE ?_
                    obtain rfl := oi h125
                    exact kN [2, 3, 4, 65]
        · refine J.caseB 65 (b := s106) (by kernel_rfl) (fun hb126 => ?_) (fun hb126 => ?_)
          · have h127 := condT hb126 h110
            refine kT ?_
            refine kSR ?_
            refine kC 1 [2,3,4] ?_
            refine kEN ?_
            refine kX ?_
            obtain rfl := oi h127
            have h129 := joinX_inr h89
            refine PJ.cutXr (fun e => nomatch e) ?_
            obtain rfl := oi h129
            exact kZ hFn hFH hFD
          · have h128 := condF hb126 h110
            refine kF ?_
            refine kK ?_
            obtain rfl := oi h128
            exact PJ.cutXl [2, 3, 4] (by kernel_rfl) (by kernel_rfl)
      · subst hs
        have h90 := joinX_inl h89
        obtain ⟨s139, hy141, h143⟩ := bindS h90
        refine K.cutN (by kernel_rfl) (fun (s139 : Bool) => ([(2, .ptr 0 0), (3, .ptr 1 0), (4, .bool false), (7, .bool s139)], [.box (encSt25 x0), .box (encSt25 x1)])) s139 ?_ ?_
        · refine kR ?_
          refine kC 6 [2,3,4,71] ?_
          refine RJ.caseB 71 (b := (decide (x0.Hash_ = x1.Hash_))) (by kernel_rfl) (fun hb144 => ?_) (fun hb144 => ?_)
          · have h145 := condT hb144 hy141
            refine kC 7 [2,3,4,78] ?_
            refine RJ.caseB 78 (b := (decide (x0.MinInt_ = x1.MinInt_))) (by kernel_rfl) (fun hb147 => ?_) (fun hb147 => ?_)
            · have h148 := condT hb147 h145
              refine kC 7 [2,3,4,85] ?_
              refine RJ.caseB 85 (b := (decide (x0.G1_ = x1.G1_))) (by kernel_rfl) (fun hb150 => ?_) (fun hb150 => ?_)
              · have h151 := condT hb150 h148
                refine RJ.seg 7 [2, 3, 4, 7] (L2 := [(2, .ptr 0 0), (3, .ptr 1 0), (4, .bool false), (7, .bool (decide (x0.G2_ = x1.G2_)))]) (H2 := [.box (encSt25 x0), .box (encSt25 x1)]) (by kernel_rfl) ?_
                refine kE ?_
                obtain rfl := oi h151
                exact kN [2, 3, 4, 7]
              · have h152 := condF hb150 h148
                refine RJ.seg 7 [2, 3, 4, 7] (L2 := [(2, .ptr 0 0), (3, .ptr 1 0), (4, .bool false), (7, .bool false)]) (H2 := [.box (encSt25 x0), .box (encSt25 x1)]) (by kernel_rfl) ?_
                refine kE ?_
                obtain rfl := oi h152
                exact kN [2, 3, 4, 7]
            · have h149 := condF hb147 h145
              refine kC 14 [2,3,4,7] ?_
              refine kE ?_
              obtain rfl := oi h149
              exact kN [2, 3, 4, 7]
          · have h146 := condF hb144 hy141
            refine kC 21 [2,3,4,7] ?_
            refine kE ?_
            obtain rfl := oi h146
            exact kN [2, 3, 4, 7]
        · obtain ⟨s168, hy170, h172⟩ := bindS h143
          refine K.cutN (by kernel_rfl) (fun (s168 : Bool) => ([(4, .bool s168)], [])) s168 ?_ ?_
          · refine kR ?_
            refine kC 2 [2,3,4,93] ?_
            refine RJ.caseB 93 (b := s139) (by kernel_rfl) (fun hb173 => ?_) (fun hb173 => ?_)
            · have h174 := condT hb173 hy170
              refine kC 7 [2,3,4,100] ?_
              refine RJ.caseB 100 (b := (decide (x0.MinFrac_ = x1.MinFrac_))) (by kernel_rfl) (fun hb176 => ?_) (fun hb176 => ?_)
              · have h177 := condT hb176 h174
                refine kC 7 [2,3,4,107] ?_
                refine RJ.caseB 107 (b := (decide (x0.MaxFrac_ = x1.MaxFrac_))) (by kernel_rfl) (fun hb179 => ?_) (fun hb179 => ?_)
                · have h180 := condT hb179 h177
                  refine RJ.seg 7 [2, 3, 4, 114] (L2 := [(2, .ptr 0 0), (3, .ptr 1 0), (4, .bool false), (114, .bool (decide (x0.MinSig_ = x1.MinSig_)))]) (H2 := [.box (encSt25 x0), .box (encSt25 x1)]) (by kernel_rfl) ?_
                  refine RJ.caseB 114 (b := (decide (x0.MinSig_ = x1.MinSig_))) (by kernel_rfl) (fun hb182 => ?_) (fun hb182 => ?_)
                  · have h183 := condT hb182 h180
                    refine kC 7 [2,3,4,121] ?_
                    refine RJ.caseB 121 (b := (decide (x0.MaxSig_ = x1.MaxSig_))) (by kernel_rfl) (fun hb185 => ?_) (fun hb185 => ?_)
                    · have h186 := condT hb185 h183
                      refine kC 7 [4] ?_
                      refine kE ?_
                      obtain rfl := oi h186
                      refine PJ.wk (Wk.sel (L2 := [(4, .bool (decide (x0.Exp_ = x1.Exp_)))]) (H2 := []) 0 (by rw [hFH]; rfl) hFD [] (by kernel_rfl) (by kernel_rfl) (by decide) (by kernel_rfl) (by kernel_rfl) (by kernel_rfl) (by kernel_rfl)) ?_
                      exact kN [4]
                    · have h187 := condF hb185 h183
                      refine kC 7 [4] ?_
                      refine kE ?_
                      obtain rfl := oi h187
                      refine PJ.wk (Wk.sel (L2 := [(4, .bool false)]) (H2 := []) 0 (by rw [hFH]; rfl) hFD [] (by kernel_rfl) (by kernel_rfl) (by decide) (by kernel_rfl) (by kernel_rfl) (by kernel_rfl) (by kernel_rfl)) ?_
                      exact kN [4]
                  · have h184 := condF hb182 h180
                    refine kC 14 [4] ?_
                    refine kE ?_
                    obtain rfl := oi h184
                    refine PJ.wk (Wk.sel (L2 := [(4, .bool false)]) (H2 := []) 0 (by rw [hFH]; rfl) hFD [] (by kernel_rfl) (by kernel_rfl) (by decide) (by kernel_rfl) (by kernel_rfl) (by kernel_rfl) (by kernel_rfl)) ?_
                    exact kN [4]
                · have h181 := condF hb179 h177
                  refine RJ.seg 21 [4] (L2 := [(4, .bool false)]) (H2 := [.box (encSt25 x0), .box (encSt25 x1)]) (by kernel_rfl) ?_
                  refine kE ?_
                  obtain rfl := oi h181
                  refine PJ.wk (Wk.sel (L2 := [(4, .bool false)]) (H2 := []) 0 (by rw [hFH]; rfl) hFD [] (by kernel_rfl) (by kernel_rfl) (by decide) (by kernel_rfl) (by kernel_rfl) (by kernel_rfl) (by kernel_rfl)) ?_
                  exact kN [4]
              · have h178 := condF hb176 h174
                refine kC 28 [4] ?_
                refine kE ?_
                obtain rfl := oi h178
                refine PJ.wk (Wk.sel (L2 := [(4, .bool false)]) (H2 := []) 0 (by rw [hFH]; rfl) hFD [] (by kernel_rfl) (by kernel_rfl) (by decide) (by kernel_rfl) (by kernel_rfl) (by kernel_rfl) (by kernel_rfl)) ?_
                exact kN [4]
            · have h175 := condF hb173 hy170
              refine kC 35 [4] ?_
              refine kE ?_
              obtain rfl := oi h175
              refine PJ.wk (Wk.sel (L2 := [(4, .bool false)]) (H2 := []) 0 (by rw [hFH]; rfl) hFD [] (by kernel_rfl) (by kernel_rfl) (by decide) (by kernel_rfl) (by kernel_rfl) (by kernel_rfl) (by kernel_rfl)) ?_
              exact kN [4]
          · refine kX ?_
            obtain rfl := oi h172
            exact kZ hFn hFH hFD

def exergueref10_Right (x0 : St25) : Option (Bool) :=
  (Option.bind (loopN (fun (s195 : Int) => (bif (decide (s195 < (([x0.Hash_, x0.MinInt_, x0.MinFrac_, x0.MaxFrac_, x0.G1_, x0.G2_, x0.MinSig_, x0.MaxSig_, x0.Exp_] : List Int).length : Int))) then (Option.bind (Option.bind (bif inR s195 ([x0.Hash_, x0.MinInt_, x0.MinFrac_, x0.MaxFrac_, x0.G1_, x0.G2_, x0.MinSig_, x0.MaxSig_, x0.Exp_] : List Int).length then (bif inR s195 ([x0.Hash_, x0.MinInt_, x0.MinFrac_, x0.MaxFrac_, x0.G1_, x0.G2_, x0.MinSig_, x0.MaxSig_, x0.Exp_] : List Int).length then (bif (decide ((nth ([x0.Hash_, x0.MinInt_, x0.MinFrac_, x0.MaxFrac_, x0.G1_, x0.G2_, x0.MinSig_, x0.MaxSig_, x0.Exp_] : List Int) s195) < 0)) then (some true) else (bif inR s195 ([x0.Hash_, x0.MinInt_, x0.MinFrac_, x0.MaxFrac_, x0.G1_, x0.G2_, x0.MinSig_, x0.MaxSig_, x0.Exp_] : List Int).length then (bif inR s195 ([x0.Hash_, x0.MinInt_, x0.MinFrac_, x0.MaxFrac_, x0.G1_, x0.G2_, x0.MinSig_, x0.MaxSig_, x0.Exp_] : List Int).length then (some ((decide ((nth ([x0.Hash_, x0.MinInt_, x0.MinFrac_, x0.MaxFrac_, x0.G1_, x0.G2_, x0.MinSig_, x0.MaxSig_, x0.Exp_] : List Int) s195) > 40)))) else none) else none)) else none) else none) fun (s363 : Bool) => (bif s363 then (some (.inr (.inr (.inr false)))) else (some (.inl ())))) (joinX fun (s351 : Unit) => (some (.inl (IntKind.wrap .i64 (s195 + 1)))))) else (some (.inr (.inl ()))))) big 0) (joinX fun (s190 : Unit) => (Option.bind (exergueref01_Is x0.Pad_) fun y384 => (Option.bind (Option.bind (exergueref10_runes x0.Pre_) fun y401 => (bif y401 then (Option.bind (exergueref10_runes x0.Suf_) fun y407 => (some y407)) else (some false))) fun (s396 : Bool) => (Option.bind (Option.bind (exergueref10_runes x0.NPre_) fun y424 => (bif y424 then (Option.bind (exergueref10_runes x0.NSuf_) fun y430 => (some y430)) else (some false))) fun (s419 : Bool) => (Option.bind (Option.bind (bif (!y384) then (some true) else (bif (!s396) then (some true) else (some (!s419)))) fun (s465 : Bool) => (bif s465 then (some (.inr false)) else (some (.inl ())))) (joinX fun (s454 : Unit) => (Option.bind (exergueref10_Text x0) fun y480 => (Option.bind (exergueref10_Parse y480) fun y483 => (Option.bind (bif (decide (y483.2.2 = 0)) then (Option.bind (exergueref10_Same x0 y483.1) fun y500 => (some y500)) else (some false)) fun (s492 : Bool) => (some s492)))))))))))
theorem exergueref10_Right_ok {x0 : St25} {r : Bool} (h : exergueref10_Right x0 = some r) : SC Try.prog 30 [.agg (encSt25 x0)] [] (.bool r) [] := by
  refine kFn (fn := Try.f30) (fun F hFn hFH hFD => ?_)
  unfold exergueref10_Right at h
  refine kSR ?_
  refine kC 2 [1,2] ?_
  refine kEN ?_
  refine kSR ?_
  refine kC 20 [1,2,3] ?_
  refine kEN ?_
  obtain ⟨y191, hy192, h193⟩ := bindS h
  refine K.cutX (by kernel_rfl) (fun (s190 : Unit) => ([(1, .ptr 0 0), (2, .bool false)], [.box (encSt25 x0)])) y191 ?_ (fun s190 hs => ?_)
  · refine kSR ?_
    refine kC 1 [1,2,3,4] ?_
    refine kEN ?_
    refine K.block 0 (by kernel_rfl) ?_
    refine K.loop (by kernel_rfl) (fun (s195 : Int) => ([(1, .ptr 0 0), (2, .bool false), (3, .vc 1), (4, .int .i64 s195)], [.box (encSt25 x0), vecL (encI .i64) 1 3 ([x0.Hash_, x0.MinInt_, x0.MinFrac_, x0.MaxFrac_, x0.G1_, x0.G2_, x0.MinSig_, x0.MaxSig_, x0.Exp_] : List Int)])) hy192 [1, 2, 3, 4] (by kernel_rfl) (by kernel_rfl) (fun s195 x321 hs320 => ?_)
    refine kS ?_
    refine kSR ?_
    refine kC 4 [1,2,3,4,33] ?_
    refine kEN ?_
    refine J.caseB 33 (b := (decide (s195 < (([x0.Hash_, x0.MinInt_, x0.MinFrac_, x0.MaxFrac_, x0.G1_, x0.G2_, x0.MinSig_, x0.MaxSig_, x0.Exp_] : List Int).length : Int)))) (by kernel_rfl) (fun hb322 => ?_) (fun hb322 => ?_)
    · have h323 := condT hb322 hs320
      refine kT ?_
      refine kK ?_
      refine PJ.next ?_
      obtain ⟨y352, hy353, h354⟩ := bindS h323
      refine K.cutX (by kernel_rfl) (fun (s351 : Unit) => ([(1, .ptr 0 0), (2, .bool false), (3, .vc 1), (4, .int .i64 s195)], [.box (encSt25 x0), vecL (encI .i64) 1 3 ([x0.Hash_, x0.MinInt_, x0.MinFrac_, x0.MaxFrac_, x0.G1_, x0.G2_, x0.MinSig_, x0.MaxSig_, x0.Exp_] : List Int)])) y352 ?_ (fun s351 hs => ?_)
      · refine K.block 1 (by kernel_rfl) ?_
        obtain ⟨s363, hy365, h367⟩ := bindS hy353
        refine K.cutN (by kernel_rfl) (fun (s363 : Bool) => ([(1, .ptr 0 0), (2, .bool false), (3, .vc 1), (4, .int .i64 s195), (47, .bool s363)], [.box (encSt25 x0), vecL (encI .i64) 1 3 ([x0.Hash_, x0.MinInt_, x0.MinFrac_, x0.MaxFrac_, x0.G1_, x0.G2_, x0.MinSig_, x0.MaxSig_, x0.Exp_] : List Int)])) s363 ?_ ?_
        · refine kR ?_
          refine kC 2 [1,2,3,4,36,37] ?_
          obtain ⟨hm, h368⟩ := asrt hy365
          refine RJ.rel (d := (some 38)) (ef := ⟨.ptr 1 ((s195 : Int).toNat * 1), [1], []⟩) (ef' := ⟨.ptr 1 ((s195 : Int).toNat * 1), [1], []⟩) (c := inR s195 ([x0.Hash_, x0.MinInt_, x0.MinFrac_, x0.MaxFrac_, x0.G1_, x0.G2_, x0.MinSig_, x0.MaxSig_, x0.Exp_] : List Int).length) (tr2 := []) (H2 := [.box (encSt25 x0), vecL (encI .i64) 1 3 ([x0.Hash_, x0.MinInt_, x0.MinFrac_, x0.MaxFrac_, x0.G1_, x0.G2_, x0.MinSig_, x0.MaxSig_, x0.Exp_] : List Int)]) (by kernel_rfl) hm (fun hc => rfl) (by kernel_rfl) ?_
          obtain ⟨hm, h369⟩ := asrt h368
          refine RJ.rel (d := (some 39)) (ef := ⟨(((([x0.Hash_, x0.MinInt_, x0.MinFrac_, x0.MaxFrac_, x0.G1_, x0.G2_, x0.MinSig_, x0.MaxSig_, x0.Exp_] : List Int)).flatMap (encI .i64)).drop ((s195 : Int).toNat * 1)).headD .undef, [1], []⟩) (ef' := ⟨.int .i64 (nth ([x0.Hash_, x0.MinInt_, x0.MinFrac_, x0.MaxFrac_, x0.G1_, x0.G2_, x0.MinSig_, x0.MaxSig_, x0.Exp_] : List Int) s195), [1], []⟩) (c := Nat.blt ((s195 : Int).toNat * 1) (([x0.Hash_, x0.MinInt_, x0.MinFrac_, x0.MaxFrac_, x0.G1_, x0.G2_, x0.MinSig_, x0.MaxSig_, x0.Exp_] : List Int).flatMap (encI .i64)).length) (tr2 := []) (H2 := [.box (encSt25 x0), vecL (encI .i64) 1 3 ([x0.Hash_, x0.MinInt_, x0.MinFrac_, x0.MaxFrac_, x0.G1_, x0.G2_, x0.MinSig_, x0.MaxSig_, x0.Exp_] : List Int)]) (by kernel_rfl) (loadv_ok (encI_len .i64) rfl hm) (fun hc => N.load1 (encI_len .i64) (fun _ => rfl) hm) (by kernel_rfl) ?_
          refine kC 2 [1,2,3,4,41] ?_
          refine RJ.caseB 41 (b := (decide ((nth ([x0.Hash_, x0.MinInt_, x0.MinFrac_, x0.MaxFrac_, x0.G1_, x0.G2_, x0.MinSig_, x0.MaxSig_, x0.Exp_] : List Int) s195) < 0))) (by kernel_rfl) (fun hb370 => ?_) (fun hb370 => ?_)
          · have h371 := condT hb370 h369
            refine RJ.seg 6 [1, 2, 3, 4, 47] (L2 := [(1, .ptr 0 0), (2, .bool false), (3, .vc 1), (4, .int .i64 s195), (47, .bool true)]) (H2 := [.box (encSt25 x0), vecL (encI .i64) 1 3 ([x0.Hash_, x0.MinInt_, x0.MinFrac_, x0.MaxFrac_, x0.G1_, x0.G2_, x0.MinSig_, x0.MaxSig_, x0.Exp_] : List Int)]) (by kernel_rfl) ?_
            refine kE ?_
            obtain rfl := oi h371
            exact kN [1, 2, 3, 4, 47]
          · have h372 := condF hb370 h369
            refine RJ.seg 2 [1, 2, 3, 4, 41, 42, 43] (L2 := [(1, .ptr 0 0), (2, .bool false), (3, .vc 1), (4, .int .i64 s195), (41, .bool false), (42, .vc 1), (43, .int .i64 s195)]) (H2 := [.box (encSt25 x0), vecL (encI .i64) 1 3 ([x0.Hash_, x0.MinInt_, x0.MinFrac_, x0.MaxFrac_, x0.G1_, x0.G2_, x0.MinSig_, x0.MaxSig_, x0.Exp_] : List Int)]) (by kernel_rfl) ?_
            obtain ⟨hm, h373⟩ := asrt h372
            refine RJ.rel (d := (some 44)) (ef := ⟨.ptr 1 ((s195 : Int).toNat * 1), [1], []⟩) (ef' := ⟨.ptr 1 ((s195 : Int).toNat * 1), [1], []⟩) (c := inR s195 ([x0.Hash_, x0.MinInt_, x0.MinFrac_, x0.MaxFrac_, x0.G1_, x0.G2_, x0.MinSig_, x0.MaxSig_, x0.Exp_] : List Int).length) (tr2 := []) (H2 := [.box (encSt25 x0), vecL (encI .i64) 1 3 ([x0.Hash_, x0.MinInt_, x0.MinFrac_, x0.MaxFrac_, x0.G1_, x0.G2_, x0.MinSig_, x0.MaxSig_, x0.Exp_] : List Int)]) (by kernel_rfl) hm (fun hc => rfl) (by kernel_rfl) ?_
            obtain ⟨hm, h374⟩ := asrt h373
            refine RJ.rel (d := (some 45)) (ef := ⟨(((([x0.Hash_, x0.MinInt_, x0.MinFrac_, x0.MaxFrac_, x0.G1_, x0.G2_, x0.MinSig_, x0.MaxSig_, x0.Exp_] : List Int)).flatMap (encI .i64)).drop ((s195 : Int).toNat * 1)).headD .undef, [1], []⟩) (ef' := ⟨.int .i64 (nth ([x0.Hash_, x0.MinInt_, x0.MinFrac_, x0.MaxFrac_, x0.G1_, x0.G2_, x0.MinSig_, x0.MaxSig_, x0.Exp_] : List Int) s195), [1], []⟩) (c := Nat.blt ((s195 : Int).toNat * 1) (([x0.Hash_, x0.MinInt_, x0.MinFrac_, x0.MaxFrac_, x0.G1_, x0.G2_, x0.MinSig_, x0.MaxSig_, x0.Exp_] : List Int).flatMap (encI .i64)).length) (tr2 := []) (H2 := [.box (encSt25 x0), vecL (encI .i64) 1 3 ([x0.Hash_, x0.MinInt_, x0.MinFrac_, x0.MaxFrac_, x0.G1_, x0.G2_, x0.MinSig_, x0.MaxSig_, x0.Exp_] : List Int)]) (by kernel_rfl) (loadv_ok (encI_len .i64) rfl hm) (fun hc => N.load1 (encI_len .i64) (fun _ => rfl) hm) (by kernel_rfl) ?_
            refine kC 2 [1,2,3,4,47] ?_
            refine kE ?_
            obtain rfl := oi h374
            exact kN [1, 2, 3, 4, 47]
        · refine J.caseB 47 (b := s363) (by kernel_rfl) (fun hb375 => ?_) (fun hb375 => ?_)
          · have h376 := condT hb375 h367
            refine kT ?_
            refine kSR ?_
            refine kC 1 [1,2,3,4] ?_
            refine kEN ?_
            refine kX ?_
            refine PJ.blockRet ?_
            obtain rfl := oi h376
            have h378 := joinX_inr h354
            refine PJ.cutXr (fun e => nomatch e) ?_
            obtain rfl := oi h378
            refine PJ.loopOut (fun e => nomatch e) (fun he381 => ?_)
            have h379 := congrArg some he381
            refine PJ.blockRet ?_
            obtain rfl := oi h379
            have h380 := joinX_inr h193
            refine PJ.cutXr (fun e => nomatch e) ?_
            obtain rfl := oi h380
            exact kZ hFn hFH hFD
          · have h377 := condF hb375 h367
            refine kF ?_
            refine kK ?_
            refine PJ.blockNormal ?_
            obtain rfl := oi h377
            exact PJ.cutXl [1, 2, 3, 4] (by kernel_rfl) (by kernel_rfl)
      · subst hs
        have h355 := joinX_inl h354
        refine kR ?_
        refine kC 3 [1,2,3,4] ?_
        refine kE ?_
        obtain rfl := oi h355
        exact PJ.loopNext [1, 2, 3, 4] (by kernel_rfl) (by kernel_rfl)
    · have h324 := condF hb322 hs320
      refine kF ?_
      refine K.exit 0 (by kernel_rfl) ?_
      refine PJ.passExit ?_
      obtain rfl := oi h324
      refine PJ.loopOut (fun e => nomatch e) (fun he383 => ?_)
      have h382 := congrArg some he383
      refine PJ.blockOut ?_
      obtain rfl := oi h382
      refine PJ.wk (Wk.sel (L2 := [(1, .ptr 0 0), (2, .bool false)]) (H2 := [.box (encSt25 x0)]) 0 (by rw [hFH]; rfl) hFD [0] (by kernel_rfl) (by kernel_rfl) (by decide) (by kernel_rfl) (by kernel_rfl) (by kernel_rfl) (by kernel_rfl)) ?_
      exact PJ.cutXl [1, 2] (by kernel_rfl) (by kernel_rfl)
  · subst hs
    have h194 := joinX_inl h193
    refine kSR ?_
    refine kC 2 [1,2,49] ?_
    obtain ⟨y384, hy385, h386⟩ := bindS h194
    refine RJ.call0 (d := (some 50)) (f := 51) (args := [.int .i32 x0.Pad_]) (v := .bool y384) (tr2 := []) (by kernel_rfl) (by kernel_rfl) (.cons (Le.refl _) .nil) (exergueref01_Is_ok hy385) (by kernel_rfl) ?_
    refine kC 1 [1,2,5] ?_
    refine kEN ?_
    obtain ⟨s396, hy398, h400⟩ := bindS h386
    refine K.cutN (by kernel_rfl) (fun (s396 : Bool) => ([(1, .ptr 0 0), (2, .bool false), (5, .bool y384), (6, .bool s396)], [.box (encSt25 x0)])) s396 ?_ ?_
    · refine kR ?_
      refine kC 2 [1,2,5,52] ?_
      obtain ⟨y401, hy402, h403⟩ := bindS hy398
      refine RJ.call0 (d := (some 53)) (f := 52) (args := [lsv encSt108 2 x0.Pre_]) (v := .bool y401) (tr2 := []) (by kernel_rfl) (by kernel_rfl) (.cons (Le.refl _) .nil) (exergueref10_runes_ok hy402) (by kernel_rfl) ?_
      refine RJ.seg 1 [1, 2, 5, 54] (L2 := [(1, .ptr 0 0), (2, .bool false), (5, .bool y384), (54, .bool y401)]) (H2 := [.box (encSt25 x0)]) (by kernel_rfl) ?_
      refine RJ.caseB 54 (b := y401) (by kernel_rfl) (fun hb404 => ?_) (fun hb404 => ?_)
      · have h405 := condT hb404 h403
        refine kC 2 [1,2,5,54,56] ?_
        obtain ⟨y407, hy408, h409⟩ := bindS h405
        refine RJ.call0 (d := (some 57)) (f := 52) (args := [lsv encSt108 2 x0.Suf_]) (v := .bool y407) (tr2 := []) (by kernel_rfl) (by kernel_rfl) (.cons (Le.refl _) .nil) (exergueref10_runes_ok hy408) (by kernel_rfl) ?_
        refine kC 2 [1,2,5,6] ?_
        refine kE ?_
        obtain rfl := oi h409
        exact kN [1, 2, 5, 6]
      · have h406 := condF hb404 h403
        refine kC 5 [1,2,5,6] ?_
        refine kE ?_
        obtain rfl := oi h406
        exact kN [1, 2, 5, 6]
    · obtain ⟨s419, hy421, h423⟩ := bindS h400
      refine K.cutN (by kernel_rfl) (fun (s419 : Bool) => ([(1, .ptr 0 0), (2, .bool false), (5, .bool y384), (6, .bool s396), (7, .bool s419)], [.box (encSt25 x0)])) s419 ?_ ?_
      · refine kR ?_
        refine kC 2 [1,2,5,6,60] ?_
        obtain ⟨y424, hy425, h426⟩ := bindS hy421
        refine RJ.call0 (d := (some 61)) (f := 52) (args := [lsv encSt108 2 x0.NPre_]) (v := .bool y424) (tr2 := []) (by kernel_rfl) (by kernel_rfl) (.cons (Le.refl _) .nil) (exergueref10_runes_ok hy425) (by kernel_rfl) ?_
        refine kC 1 [1,2,5,6,62] ?_
        refine RJ.caseB 62 (b := y424) (by kernel_rfl) (fun hb427 => ?_) (fun hb427 => ?_)
        · have h428 := condT hb427 h426
          refine kC 2 [1,2,5,6,62,64] ?_
          obtain ⟨y430, hy431, h432⟩ := bindS h428
          refine RJ.call0 (d := (some 65)) (f := 52) (args := [lsv encSt108 2 x0.NSuf_]) (v := .bool y430) (tr2 := []) (by kernel_rfl) (by kernel_rfl) (.cons (Le.refl _) .nil) (exergueref10_runes_ok hy431) (by kernel_rfl) ?_
          refine RJ.seg 2 [1, 2, 5, 6, 7] (L2 := [(1, .ptr 0 0), (2, .bool false), (5, .bool y384), (6, .bool s396), (7, .bool y430)]) (H2 := [.box (encSt25 x0)]) (by kernel_rfl) ?_
          refine kE ?_
          obtain rfl := oi h432
          exact kN [1, 2, 5, 6, 7]
        · have h429 := condF hb427 h426
          refine kC 5 [1,2,5,6,7] ?_
          refine kE ?_
          obtain rfl := oi h429
          exact kN [1, 2, 5, 6, 7]
      · obtain ⟨y455, hy456, h457⟩ := bindS h423
        refine K.cutX (by kernel_rfl) (fun (s454 : Unit) => ([(1, .ptr 0 0), (2, .bool false)], [.box (encSt25 x0)])) y455 ?_ (fun s454 hs => ?_)
        · obtain ⟨s465, hy467, h469⟩ := bindS hy456
          refine K.cutN (by kernel_rfl) (fun (s465 : Bool) => ([(1, .ptr 0 0), (2, .bool false), (76, .bool s465)], [.box (encSt25 x0)])) s465 ?_ ?_
          · refine kR ?_
            refine kC 3 [1,2,6,7,69] ?_
            refine RJ.caseB 69 (b := (!y384)) (by kernel_rfl) (fun hb470 => ?_) (fun hb470 => ?_)
            · have h471 := condT hb470 hy467
              refine kC 7 [1,2,76] ?_
              refine kE ?_
              obtain rfl := oi h471
              exact kN [1, 2, 76]
            · have h472 := condF hb470 hy467
              refine kC 4 [1,2,7,73] ?_
              refine RJ.caseB 73 (b := (!s396)) (by kernel_rfl) (fun hb473 => ?_) (fun hb473 => ?_)
              · have h474 := condT hb473 h472
                refine kC 3 [1,2,76] ?_
                refine kE ?_
                obtain rfl := oi h474
                exact kN [1, 2, 76]
              · have h475 := condF hb473 h472
                refine kC 3 [1,2,76] ?_
                refine kE ?_
                obtain rfl := oi h475
                exact kN [1, 2, 76]
          · refine J.caseB 76 (b := s465) (by kernel_rfl) (fun hb476 => ?_) (fun hb476 => ?_)
            · have h477 := condT hb476 h469
              refine kT ?_
              refine kSR ?_
              refine kC 1 [1,2] ?_
              refine kEN ?_
              refine kX ?_
              obtain rfl := oi h477
              have h479 := joinX_inr h457
              refine PJ.cutXr (fun e => nomatch e) ?_
              obtain rfl := oi h479
              exact kZ hFn hFH hFD
            · have h478 := condF hb476 h469
              refine kF ?_
              refine kK ?_
              obtain rfl := oi h478
              exact PJ.cutXl [1, 2] (by kernel_rfl) (by kernel_rfl)
        · subst hs
          have h458 := joinX_inl h457
          refine kSR ?_
          refine kC 1 [1,2,78] ?_
          obtain ⟨y480, hy481, h482⟩ := bindS h458
          refine RJ.call0 (d := (some 79)) (f := 54) (args := [.agg (encSt25 x0)]) (v := .str y480) (tr2 := []) (by kernel_rfl) (by kernel_rfl) (.cons (Le.refl _) .nil) (exergueref10_Text_ok hy481) (by kernel_rfl) ?_
          obtain ⟨y483, hy484, h485⟩ := bindS h482
          refine RJ.call0 (d := (some 80)) (f := 53) (args := [.str y480]) (v := .tup [.agg (encSt25 y483.1), .int .i64 y483.2.1, .int .i64 y483.2.2]) (tr2 := []) (by kernel_rfl) (by kernel_rfl) (.cons (Le.refl _) .nil) (exergueref10_Parse_ok hy484) (by kernel_rfl) ?_
          refine kC 8 [1,2,8,10] ?_
          refine kEN ?_
          obtain ⟨s492, hy494, h496⟩ := bindS h485
          refine K.cutN (by kernel_rfl) (fun (s492 : Bool) => ([(2, .bool s492)], [])) s492 ?_ ?_
          · refine kR ?_
            refine kC 3 [1,2,8,86] ?_
            refine RJ.caseB 86 (b := (decide (y483.2.2 = 0))) (by kernel_rfl) (fun hb497 => ?_) (fun hb497 => ?_)
            · have h498 := condT hb497 hy494
              refine RJ.seg 2 [2, 86, 87, 88] (L2 := [(2, .bool false), (86, .bool true), (87, .agg (encSt25 x0)), (88, .agg (encSt25 y483.1))]) (H2 := [.box (encSt25 x0), .box (encSt25 y483.1)]) (by kernel_rfl) ?_
              obtain ⟨y500, hy501, h502⟩ := bindS h498
              refine RJ.call0 (d := (some 89)) (f := 55) (args := [.agg (encSt25 x0), .agg (encSt25 y483.1)]) (v := .bool y500) (tr2 := []) (by kernel_rfl) (by kernel_rfl) (.cons (Le.refl _) (.cons (Le.refl _) .nil)) (exergueref10_Same_ok hy501) (by kernel_rfl) ?_
              refine kC 2 [2] ?_
              refine kE ?_
              obtain rfl := oi h502
              refine PJ.wk (Wk.sel (L2 := [(2, .bool y500)]) (H2 := []) 0 (by rw [hFH]; rfl) hFD [] (by kernel_rfl) (by kernel_rfl) (by decide) (by kernel_rfl) (by kernel_rfl) (by kernel_rfl) (by kernel_rfl)) ?_
              exact kN [2]
            · have h499 := condF hb497 hy494
              refine RJ.seg 5 [2] (L2 := [(2, .bool false)]) (H2 := [.box (encSt25 x0), .box (encSt25 y483.1)]) (by kernel_rfl) ?_
              refine kE ?_
              obtain rfl := oi h499
              refine PJ.wk (Wk.sel (L2 := [(2, .bool false)]) (H2 := []) 0 (by rw [hFH]; rfl) hFD [] (by kernel_rfl) (by kernel_rfl) (by decide) (by kernel_rfl) (by kernel_rfl) (by kernel_rfl) (by kernel_rfl)) ?_
              exact kN [2]
          · refine kX ?_
            obtain rfl := oi h496
            exact kZ hFn hFH hFD

def exerguelaw17_of (x0 : St25) (x1 : Int) : Option (Bool) :=
  (Option.bind (Option.bind (exergueref10_Few x0) fun y18 => (bif y18 then (Option.bind (exergueref10_Right x0) fun y24 => (bif y24 then (some (decide (x1 ≤ 40))) else (some false))) else (some false))) fun (s13 : Bool) => (some s13))
theorem exerguelaw17_of_ok {x0 : St25} {x1 : Int} {r : Bool} (h : exerguelaw17_of x0 x1 = some r) : SC Try.prog 10 [.agg (encSt25 x0), .int .i64 x1] [] (.bool r) [] := by
  refine kFn (fn := Try.f10) (fun F hFn hFH hFD => ?_)
  unfold exerguelaw17_of at h
  refine kSR ?_
  refine kC 2 [1,2,4] ?_
  refine kEN ?_
  obtain ⟨s13, hy15, h17⟩ := bindS h
  refine K.cutN (by kernel_rfl) (fun (s13 : Bool) => ([(4, .bool s13)], [])) s13 ?_ ?_
  · refine kR ?_
    refine kC 1 [1,2,4,5] ?_
    obtain ⟨y18, hy19, h20⟩ := bindS hy15
    refine RJ.call0 (d := (some 6)) (f := 29) (args := [.agg (encSt25 x0)]) (v := .bool y18) (tr2 := []) (by kernel_rfl) (by kernel_rfl) (.cons (Le.refl _) .nil) (exergueref10_Few_ok hy19) (by kernel_rfl) ?_
    refine kC 1 [1,2,4,7] ?_
    refine RJ.caseB 7 (b := y18) (by kernel_rfl) (fun hb21 => ?_) (fun hb21 => ?_)
    · have h22 := condT hb21 h20
      refine RJ.seg 1 [1, 4, 7, 8] (L2 := [(1, .int .i64 x1), (4, .bool false), (7, .bool true), (8, .agg (encSt25 x0))]) (H2 := [.box (encSt25 x0)]) (by kernel_rfl) ?_
      obtain ⟨y24, hy25, h26⟩ := bindS h22
      refine RJ.call0 (d := (some 9)) (f := 30) (args := [.agg (encSt25 x0)]) (v := .bool y24) (tr2 := []) (by kernel_rfl) (by kernel_rfl) (.cons (Le.refl _) .nil) (exergueref10_Right_ok hy25) (by kernel_rfl) ?_
      refine kC 2 [1,4,11] ?_
      refine RJ.caseB 11 (b := y24) (by kernel_rfl) (fun hb27 => ?_) (fun hb27 => ?_)
      · have h28 := condT hb27 h26
        refine kC 4 [4] ?_
        refine kE ?_
        obtain rfl := oi h28
        refine PJ.wk (Wk.sel (L2 := [(4, .bool (decide (x1 ≤ 40)))]) (H2 := []) 0 (by rw [hFH]; rfl) hFD [] (by kernel_rfl) (by kernel_rfl) (by decide) (by kernel_rfl) (by kernel_rfl) (by kernel_rfl) (by kernel_rfl)) ?_
        exact kN [4]
      · have h29 := condF hb27 h26
        refine kC 4 [4] ?_
        refine kE ?_
        obtain rfl := oi h29
        refine PJ.wk (Wk.sel (L2 := [(4, .bool false)]) (H2 := []) 0 (by rw [hFH]; rfl) hFD [] (by kernel_rfl) (by kernel_rfl) (by decide) (by kernel_rfl) (by kernel_rfl) (by kernel_rfl) (by kernel_rfl)) ?_
        exact kN [4]
    · have h23 := condF hb21 h20
      refine RJ.seg 8 [4] (L2 := [(4, .bool false)]) (H2 := [.box (encSt25 x0)]) (by kernel_rfl) ?_
      refine kE ?_
      obtain rfl := oi h23
      refine PJ.wk (Wk.sel (L2 := [(4, .bool false)]) (H2 := []) 0 (by rw [hFH]; rfl) hFD [] (by kernel_rfl) (by kernel_rfl) (by decide) (by kernel_rfl) (by kernel_rfl) (by kernel_rfl) (by kernel_rfl)) ?_
      exact kN [4]
  · refine kX ?_
    obtain rfl := oi h17
    exact kZ hFn hFH hFD

def exergueref05_Right (x0 : St28) : Option (Bool) :=
  (Option.bind (loopN (fun (s45 : Int) => (bif (decide (s45 < (x0.D_.length : Int))) then (bif inR s45 x0.D_.length then (bif (decide ((nth x0.D_ s45) > 9)) then (some (.inr (.inr false))) else (some (.inl (IntKind.wrap .i64 (s45 + 1))))) else none) else (some (.inr (.inl ()))))) big 0) (joinX fun (s40 : Unit) => (bif (decide ((x0.D_.length : Int) = 0)) then (some (decide (x0.E_ = 0))) else (Option.bind (bif (decide ((x0.D_.length : Int) ≤ 1000)) then (bif inR 0 x0.D_.length then (bif (decide ((nth x0.D_ 0) > 0)) then (bif inR ((IntKind.wrap .i64 ((x0.D_.length : Int) - 1))) x0.D_.length then (bif (decide (((nth x0.D_ ((IntKind.wrap .i64 ((x0.D_.length : Int) - 1))))) > 0)) then (bif (decide (x0.E_ ≥ (-1000))) then (some (decide (x0.E_ ≤ 1000))) else (some false)) else (some false)) else none) else (some false)) else none) else (some false)) fun (s101 : Bool) => (some s101)))))
theorem exergueref05_Right_ok {x0 : St28} {r : Bool} (h : exergueref05_Right x0 = some r) : SC Try.prog 26 [.agg (encSt28 x0)] [] (.bool r) [] := by
  refine kFn (fn := Try.f26) (fun F hFn hFH hFD => ?_)
  unfold exergueref05_Right at h
  refine kSR ?_
  refine kC 2 [1,2] ?_
  refine kEN ?_
  refine kSR ?_
  refine kC 4 [1,2,3] ?_
  refine kEN ?_
  obtain ⟨y41, hy42, h43⟩ := bindS h
  refine K.cutX (by kernel_rfl) (fun (s40 : Unit) => ([(1, .ptr 0 0), (2, .bool false), (3, .int .i64 (x0.D_.length : Int))], [.box (encSt28 x0)])) y41 ?_ (fun s40 hs => ?_)
  · refine kSR ?_
    refine kC 1 [1,2,3,4] ?_
    refine kEN ?_
    refine K.block 0 (by kernel_rfl) ?_
    refine K.loop (by kernel_rfl) (fun (s45 : Int) => ([(1, .ptr 0 0), (2, .bool false), (3, .int .i64 (x0.D_.length : Int)), (4, .int .i64 s45)], [.box (encSt28 x0)])) hy42 [1, 2, 3, 4] (by kernel_rfl) (by kernel_rfl) (fun s45 x71 hs70 => ?_)
    refine kS ?_
    refine kSR ?_
    refine kC 3 [1,2,3,4,10] ?_
    refine kEN ?_
    refine J.caseB 10 (b := (decide (s45 < (x0.D_.length : Int)))) (by kernel_rfl) (fun hb72 => ?_) (fun hb72 => ?_)
    · have h73 := condT hb72 hs70
      refine kT ?_
      refine kK ?_
      refine PJ.next ?_
      refine kS ?_
      refine K.block 1 (by kernel_rfl) ?_
      refine kSR ?_
      refine kC 3 [1,2,3,4,14,15] ?_
      obtain ⟨hm, h75⟩ := asrt h73
      refine RJ.rel (d := (some 16)) (ef := ⟨.ep (((x0.D_.flatMap (encI .u8)).drop ((s45 : Int).toNat * 1)).take 1), [], []⟩) (ef' := ⟨.ep ((encI .u8) (nth x0.D_ s45)), [], []⟩) (c := inR s45 x0.D_.length) (tr2 := []) (H2 := [.box (encSt28 x0)]) (by kernel_rfl) hm (fun hc => N.idx (encI_len .u8) hc) (by kernel_rfl) ?_
      refine kC 2 [1,2,3,4,18] ?_
      refine kEN ?_
      refine J.caseB 18 (b := (decide ((nth x0.D_ s45) > 9))) (by kernel_rfl) (fun hb76 => ?_) (fun hb76 => ?_)
      · have h77 := condT hb76 h75
        refine kT ?_
        refine kSR ?_
        refine RJ.seg 1 [1, 2, 3, 4] (L2 := [(1, .ptr 0 0), (2, .bool false), (3, .int .i64 (x0.D_.length : Int)), (4, .int .i64 s45)]) (H2 := [.box (encSt28 x0)]) (by kernel_rfl) ?_
        refine kEN ?_
        refine kX ?_
        refine PJ.blockRet ?_
        refine PJ.passRet ?_
        obtain rfl := oi h77
        refine PJ.loopOut (fun e => nomatch e) (fun he81 => ?_)
        have h79 := congrArg some he81
        refine PJ.blockRet ?_
        obtain rfl := oi h79
        have h80 := joinX_inr h43
        refine PJ.cutXr (fun e => nomatch e) ?_
        obtain rfl := oi h80
        exact kZ hFn hFH hFD
      · have h78 := condF hb76 h75
        refine kF ?_
        refine kK ?_
        refine PJ.blockNormal ?_
        refine PJ.next ?_
        refine kR ?_
        refine RJ.seg 3 [1, 2, 3, 4] (L2 := [(1, .ptr 0 0), (2, .bool false), (3, .int .i64 (x0.D_.length : Int)), (4, .int .i64 (IntKind.wrap .i64 (s45 + 1)))]) (H2 := [.box (encSt28 x0)]) (by kernel_rfl) ?_
        refine kE ?_
        obtain rfl := oi h78
        exact PJ.loopNext [1, 2, 3, 4] (by kernel_rfl) (by kernel_rfl)
    · have h74 := condF hb72 hs70
      refine kF ?_
      refine K.exit 0 (by kernel_rfl) ?_
      refine PJ.passExit ?_
      obtain rfl := oi h74
      refine PJ.loopOut (fun e => nomatch e) (fun he83 => ?_)
      have h82 := congrArg some he83
      refine PJ.blockOut ?_
      obtain rfl := oi h82
      exact PJ.cutXl [1, 2, 3] (by kernel_rfl) (by kernel_rfl)
  · subst hs
    have h44 := joinX_inl h43
    refine kS ?_
    refine kSR ?_
    refine kC 2 [1,2,3,20] ?_
    refine kEN ?_
    refine J.caseB 20 (b := (decide ((x0.D_.length : Int) = 0))) (by kernel_rfl) (fun hb84 => ?_) (fun hb84 => ?_)
    · have h85 := condT hb84 h44
      refine kT ?_
      refine kSR ?_
      refine kC 4 [1,2,3] ?_
      refine kEN ?_
      refine kX ?_
      refine PJ.passRet ?_
      obtain rfl := oi h85
      exact kZ hFn hFH hFD
    · have h86 := condF hb84 h44
      refine kF ?_
      refine kK ?_
      refine PJ.next ?_
      obtain ⟨s101, hy103, h105⟩ := bindS h86
      refine K.cutN (by kernel_rfl) (fun (s101 : Bool) => ([(2, .bool s101)], [])) s101 ?_ ?_
      · refine kR ?_
        refine kC 3 [1,2,3,26] ?_
        refine RJ.caseB 26 (b := (decide ((x0.D_.length : Int) ≤ 1000))) (by kernel_rfl) (fun hb106 => ?_) (fun hb106 => ?_)
        · have h107 := condT hb106 hy103
          refine kC 2 [1,2,3,26,28] ?_
          obtain ⟨hm, h109⟩ := asrt h107
          refine RJ.rel (d := (some 29)) (ef := ⟨.ep (((x0.D_.flatMap (encI .u8)).drop ((0 : Int).toNat * 1)).take 1), [], []⟩) (ef' := ⟨.ep ((encI .u8) (nth x0.D_ 0)), [], []⟩) (c := inR 0 x0.D_.length) (tr2 := []) (H2 := [.box (encSt28 x0)]) (by kernel_rfl) hm (fun hc => N.idx (encI_len .u8) hc) (by kernel_rfl) ?_
          refine RJ.seg 4 [1, 2, 3, 33] (L2 := [(1, .ptr 0 0), (2, .bool false), (3, .int .i64 (x0.D_.length : Int)), (33, .bool ((decide ((nth x0.D_ 0) > 0))))]) (H2 := [.box (encSt28 x0)]) (by kernel_rfl) ?_
          refine RJ.caseB 33 (b := (decide ((nth x0.D_ 0) > 0))) (by kernel_rfl) (fun hb110 => ?_) (fun hb110 => ?_)
          · have h111 := condT hb110 h109
            refine kC 4 [1,2,33,35,37] ?_
            obtain ⟨hm, h113⟩ := asrt h111
            refine RJ.rel (d := (some 38)) (ef := ⟨.ep (((x0.D_.flatMap (encI .u8)).drop (((IntKind.wrap .i64 ((x0.D_.length : Int) - 1)) : Int).toNat * 1)).take 1), [], []⟩) (ef' := ⟨.ep ((encI .u8) (nth x0.D_ ((IntKind.wrap .i64 ((x0.D_.length : Int) - 1))))), [], []⟩) (c := inR ((IntKind.wrap .i64 ((x0.D_.length : Int) - 1))) x0.D_.length) (tr2 := []) (H2 := [.box (encSt28 x0)]) (by kernel_rfl) hm (fun hc => N.idx (encI_len .u8) hc) (by kernel_rfl) ?_
            refine kC 4 [1,2,42] ?_
            refine RJ.caseB 42 (b := (decide (((nth x0.D_ ((IntKind.wrap .i64 ((x0.D_.length : Int) - 1))))) > 0))) (by kernel_rfl) (fun hb114 => ?_) (fun hb114 => ?_)
            · have h115 := condT hb114 h113
              refine kC 5 [1,2,47] ?_
              refine RJ.caseB 47 (b := (decide (x0.E_ ≥ (-1000)))) (by kernel_rfl) (fun hb117 => ?_) (fun hb117 => ?_)
              · have h118 := condT hb117 h115
                refine RJ.seg 5 [2] (L2 := [(2, .bool (decide (x0.E_ ≤ 1000)))]) (H2 := [.box (encSt28 x0)]) (by kernel_rfl) ?_
                refine kE ?_
                obtain rfl := oi h118
                refine PJ.wk (Wk.sel (L2 := [(2, .bool (decide (x0.E_ ≤ 1000)))]) (H2 := []) 0 (by rw [hFH]; rfl) hFD [] (by kernel_rfl) (by kernel_rfl) (by decide) (by kernel_rfl) (by kernel_rfl) (by kernel_rfl) (by kernel_rfl)) ?_
                exact kN [2]
              · have h119 := condF hb117 h115
                refine RJ.seg 5 [2] (L2 := [(2, .bool false)]) (H2 := [.box (encSt28 x0)]) (by kernel_rfl) ?_
                refine kE ?_
                obtain rfl := oi h119
                refine PJ.wk (Wk.sel (L2 := [(2, .bool false)]) (H2 := []) 0 (by rw [hFH]; rfl) hFD [] (by kernel_rfl) (by kernel_rfl) (by decide) (by kernel_rfl) (by kernel_rfl) (by kernel_rfl) (by kernel_rfl)) ?_
                exact kN [2]
            · have h116 := condF hb114 h113
              refine kC 10 [2] ?_
              refine kE ?_
              obtain rfl := oi h116
              refine PJ.wk (Wk.sel (L2 := [(2, .bool false)]) (H2 := []) 0 (by rw [hFH]; rfl) hFD [] (by kernel_rfl) (by kernel_rfl) (by decide) (by kernel_rfl) (by kernel_rfl) (by kernel_rfl) (by kernel_rfl)) ?_
              exact kN [2]
          · have h112 := condF hb110 h109
            refine kC 19 [2] ?_
            refine kE ?_
            obtain rfl := oi h112
            refine PJ.wk (Wk.sel (L2 := [(2, .bool false)]) (H2 := []) 0 (by rw [hFH]; rfl) hFD [] (by kernel_rfl) (by kernel_rfl) (by decide) (by kernel_rfl) (by kernel_rfl) (by kernel_rfl) (by kernel_rfl)) ?_
            exact kN [2]
        · have h108 := condF hb106 hy103
          refine kC 26 [2] ?_
          refine kE ?_
          obtain rfl := oi h108
          refine PJ.wk (Wk.sel (L2 := [(2, .bool false)]) (H2 := []) 0 (by rw [hFH]; rfl) hFD [] (by kernel_rfl) (by kernel_rfl) (by decide) (by kernel_rfl) (by kernel_rfl) (by kernel_rfl) (by kernel_rfl)) ?_
          exact kN [2]
      · refine kX ?_
        obtain rfl := oi h105
        exact kZ hFn hFH hFD

def exergueref06_Near (x0 : St28) : Option (Bool) :=
  (Option.bind (exergueref05_Right x0) fun y1 => (Option.bind (bif y1 then (bif (decide ((x0.D_.length : Int) ≤ 40)) then (bif (decide (x0.E_ ≥ (-60))) then (some (decide (x0.E_ ≤ 60))) else (some false)) else (some false)) else (some false)) fun (s13 : Bool) => (some s13)))
theorem exergueref06_Near_ok {x0 : St28} {r : Bool} (h : exergueref06_Near x0 = some r) : SC Try.prog 12 [.agg (encSt28 x0)] [] (.bool r) [] := by
  refine kFn (fn := Try.f12) (fun F hFn hFH hFD => ?_)
  unfold exergueref06_Near at h
  refine kSR ?_
  refine kC 2 [1,2] ?_
  refine kEN ?_
  refine kSR ?_
  refine kC 1 [1,2,4] ?_
  obtain ⟨y1, hy2, h3⟩ := bindS h
  refine RJ.call0 (d := (some 5)) (f := 26) (args := [.agg (encSt28 x0)]) (v := .bool y1) (tr2 := []) (by kernel_rfl) (by kernel_rfl) (.cons (Le.refl _) .nil) (exergueref05_Right_ok hy2) (by kernel_rfl) ?_
  refine kC 1 [1,2,3] ?_
  refine kEN ?_
  obtain ⟨s13, hy15, h17⟩ := bindS h3
  refine K.cutN (by kernel_rfl) (fun (s13 : Bool) => ([(2, .bool s13)], [])) s13 ?_ ?_
  · refine kR ?_
    refine RJ.seg 2 [1, 2, 7] (L2 := [(1, .ptr 0 0), (2, .bool false), (7, .bool y1)]) (H2 := [.box (encSt28 x0)]) (by kernel_rfl) ?_
    refine RJ.caseB 7 (b := y1) (by kernel_rfl) (fun hb18 => ?_) (fun hb18 => ?_)
    · have h19 := condT hb18 hy15
      refine kC 6 [1,2,13] ?_
      refine RJ.caseB 13 (b := (decide ((x0.D_.length : Int) ≤ 40))) (by kernel_rfl) (fun hb21 => ?_) (fun hb21 => ?_)
      · have h22 := condT hb21 h19
        refine kC 5 [1,2,18] ?_
        refine RJ.caseB 18 (b := (decide (x0.E_ ≥ (-60)))) (by kernel_rfl) (fun hb24 => ?_) (fun hb24 => ?_)
        · have h25 := condT hb24 h22
          refine kC 5 [2] ?_
          refine kE ?_
          obtain rfl := oi h25
          refine PJ.wk (Wk.sel (L2 := [(2, .bool (decide (x0.E_ ≤ 60)))]) (H2 := []) 0 (by rw [hFH]; rfl) hFD [] (by kernel_rfl) (by kernel_rfl) (by decide) (by kernel_rfl) (by kernel_rfl) (by kernel_rfl) (by kernel_rfl)) ?_
          exact kN [2]
        · have h26 := condF hb24 h22
          refine kC 5 [2] ?_
          refine kE ?_
          obtain rfl := oi h26
          refine PJ.wk (Wk.sel (L2 := [(2, .bool false)]) (H2 := []) 0 (by rw [hFH]; rfl) hFD [] (by kernel_rfl) (by kernel_rfl) (by decide) (by kernel_rfl) (by kernel_rfl) (by kernel_rfl) (by kernel_rfl)) ?_
          exact kN [2]
      · have h23 := condF hb21 h19
        refine kC 10 [2] ?_
        refine kE ?_
        obtain rfl := oi h23
        refine PJ.wk (Wk.sel (L2 := [(2, .bool false)]) (H2 := []) 0 (by rw [hFH]; rfl) hFD [] (by kernel_rfl) (by kernel_rfl) (by decide) (by kernel_rfl) (by kernel_rfl) (by kernel_rfl) (by kernel_rfl)) ?_
        exact kN [2]
    · have h20 := condF hb18 hy15
      refine kC 16 [2] ?_
      refine kE ?_
      obtain rfl := oi h20
      refine PJ.wk (Wk.sel (L2 := [(2, .bool false)]) (H2 := []) 0 (by rw [hFH]; rfl) hFD [] (by kernel_rfl) (by kernel_rfl) (by decide) (by kernel_rfl) (by kernel_rfl) (by kernel_rfl) (by kernel_rfl)) ?_
      exact kN [2]
  · refine kX ?_
    obtain rfl := oi h17
    exact kZ hFn hFH hFD

def exergueref06_Is (x0 : Int) : Option (Bool) :=
  (Option.bind (bif (decide (x0 ≥ 0)) then (some (decide (x0 ≤ 7))) else (some false)) fun (s4 : Bool) => (some s4))
theorem exergueref06_Is_ok {x0 : Int} {r : Bool} (h : exergueref06_Is x0 = some r) : SC Try.prog 17 [.int .i64 x0] [] (.bool r) [] := by
  refine kFn (fn := Try.f17) (fun F hFn hFH hFD => ?_)
  unfold exergueref06_Is at h
  refine kSR ?_
  refine kC 1 [0,2] ?_
  refine kEN ?_
  obtain ⟨s4, hy6, h8⟩ := bindS h
  refine K.cutN (by kernel_rfl) (fun (s4 : Bool) => ([(2, .bool s4)], [])) s4 ?_ ?_
  · refine kR ?_
    refine kC 3 [0,2,5] ?_
    refine RJ.caseB 5 (b := (decide (x0 ≥ 0))) (by kernel_rfl) (fun hb9 => ?_) (fun hb9 => ?_)
    · have h10 := condT hb9 hy6
      refine kC 4 [2] ?_
      refine kE ?_
      obtain rfl := oi h10
      exact kN [2]
    · have h11 := condF hb9 hy6
      refine kC 4 [2] ?_
      refine kE ?_
      obtain rfl := oi h11
      exact kN [2]
  · refine kX ?_
    obtain rfl := oi h8
    exact kZ hFn hFH hFD

def exergueref01_Row (x0 : List Int) (x1 : List Int) : Option (Bool) :=
  (bif (decide (¬ (x0.length : Int) = (x1.length : Int))) then (some false) else (Option.bind (loopN (fun (s51 : Int) => (bif (decide (s51 < (x0.length : Int))) then (bif inR s51 x0.length then (bif inR s51 x1.length then (bif (decide (¬ (nth x0 s51) = (nth x1 s51))) then (some (.inr (.inr false))) else (some (.inl (IntKind.wrap .i64 (s51 + 1))))) else none) else none) else (some (.inr (.inl ()))))) big 0) (joinX fun (s46 : Unit) => (some true))))
theorem exergueref01_Row_ok {x0 : List Int} {x1 : List Int} {r : Bool} (h : exergueref01_Row x0 x1 = some r) : SC Try.prog 40 [lsv (encI .u8) 1 x0, lsv (encI .u8) 1 x1] [] (.bool r) [] := by
  refine kFn (fn := Try.f40) (fun F hFn hFH hFD => ?_)
  unfold exergueref01_Row at h
  refine kSR ?_
  refine kC 1 [0,1,4] ?_
  refine kEN ?_
  refine kS ?_
  refine kSR ?_
  refine kC 5 [0,1,4,10] ?_
  refine kEN ?_
  refine J.caseB 10 (b := (decide (¬ (x0.length : Int) = (x1.length : Int)))) (by kernel_rfl) (fun hb1 => ?_) (fun hb1 => ?_)
  · have h2 := condT hb1 h
    refine kT ?_
    refine kSR ?_
    refine kC 1 [0,1,4] ?_
    refine kEN ?_
    refine kX ?_
    refine PJ.passRet ?_
    obtain rfl := oi h2
    exact kZ hFn hFH hFD
  · have h3 := condF hb1 h
    refine kF ?_
    refine kK ?_
    refine PJ.next ?_
    obtain ⟨y47, hy48, h49⟩ := bindS h3
    refine K.cutX (by kernel_rfl) (fun (s46 : Unit) => ([(4, .bool false)], [])) y47 ?_ (fun s46 hs => ?_)
    · refine kSR ?_
      refine kC 1 [0,1,4,5] ?_
      refine kEN ?_
      refine K.block 0 (by kernel_rfl) ?_
      refine K.loop (by kernel_rfl) (fun (s51 : Int) => ([(0, lsv (encI .u8) 1 x0), (1, lsv (encI .u8) 1 x1), (4, .bool false), (5, .int .i64 s51)], [])) hy48 [0, 1, 4, 5] (by kernel_rfl) (by kernel_rfl) (fun s51 x79 hs78 => ?_)
      refine kS ?_
      refine kSR ?_
      refine kC 4 [0,1,4,5,14] ?_
      refine kEN ?_
      refine J.caseB 14 (b := (decide (s51 < (x0.length : Int)))) (by kernel_rfl) (fun hb80 => ?_) (fun hb80 => ?_)
      · have h81 := condT hb80 hs78
        refine kT ?_
        refine kK ?_
        refine PJ.next ?_
        refine kS ?_
        refine K.block 1 (by kernel_rfl) ?_
        refine kS ?_
        refine J.keep [0, 1, 4, 5] (L2 := [(0, lsv (encI .u8) 1 x0), (1, lsv (encI .u8) 1 x1), (4, .bool false), (5, .int .i64 s51)]) (by kernel_rfl) ?_
        refine K.draw (by kernel_rfl) (by kernel_rfl) (by kernel_rfl) (H2 := []) (by kernel_rfl) (n := 0) (by kernel_rfl) ?_
        refine kD 2 ?_
        obtain ⟨hm, h83⟩ := asrt h81
        refine RJ.rel (d := (some 19)) (ef := ⟨.ep (((x0.flatMap (encI .u8)).drop ((s51 : Int).toNat * 1)).take 1), [], []⟩) (ef' := ⟨.ep ((encI .u8) (nth x0 s51)), [], []⟩) (c := inR s51 x0.length) (tr2 := [([], []), ([], []), ([], [])]) (H2 := []) (by kernel_rfl) hm (fun hc => N.idx (encI_len .u8) hc) (by kernel_rfl) ?_
        refine kD 3 ?_
        obtain ⟨hm, h84⟩ := asrt h83
        refine RJ.rel (d := (some 23)) (ef := ⟨.ep (((x1.flatMap (encI .u8)).drop ((s51 : Int).toNat * 1)).take 1), [], []⟩) (ef' := ⟨.ep ((encI .u8) (nth x1 s51)), [], []⟩) (c := inR s51 x1.length) (tr2 := [([], []), ([], []), ([], []), ([], []), ([], []), ([], []), ([], [])]) (H2 := []) (by kernel_rfl) hm (fun hc => N.idx (encI_len .u8) hc) (by kernel_rfl) ?_
        refine RJ.segD 2 (tr2 := [([], []), ([], []), ([], []), ([], []), ([], []), ([], []), ([], []), ([], []), ([], [])]) (L2 := [(25, .bool ((decide (¬ (nth x0 s51) = (nth x1 s51))))), (24, .int .u8 (nth x1 s51)), (23, .ep [.int .u8 (nth x1 s51)]), (22, .int .i64 s51), (21, lsv (encI .u8) 1 x1), (20, .int .u8 (nth x0 s51)), (19, .ep [.int .u8 (nth x0 s51)]), (18, .int .i64 s51), (17, lsv (encI .u8) 1 x0), (0, lsv (encI .u8) 1 x0), (1, lsv (encI .u8) 1 x1), (4, .bool false), (5, .int .i64 s51)]) (H2 := []) (by kernel_rfl) ?_
        refine kEN ?_
        refine J.caseB 25 (b := (decide (¬ (nth x0 s51) = (nth x1 s51)))) (by kernel_rfl) (fun hb85 => ?_) (fun hb85 => ?_)
        · have h86 := condT hb85 h84
          refine kT ?_
          refine kSR ?_
          refine kC 1 [0,1,4,5] ?_
          refine kEN ?_
          refine kX ?_
          refine PJ.blockRet ?_
          refine PJ.passRet ?_
          obtain rfl := oi h86
          refine PJ.loopOut (fun e => nomatch e) (fun he90 => ?_)
          have h88 := congrArg some he90
          refine PJ.blockRet ?_
          obtain rfl := oi h88
          have h89 := joinX_inr h49
          refine PJ.cutXr (fun e => nomatch e) ?_
          obtain rfl := oi h89
          exact kZ hFn hFH hFD
        · have h87 := condF hb85 h84
          refine kF ?_
          refine kK ?_
          refine PJ.blockNormal ?_
          refine PJ.next ?_
          refine kR ?_
          refine kC 3 [0,1,4,5] ?_
          refine kE ?_
          obtain rfl := oi h87
          exact PJ.loopNext [0, 1, 4, 5] (by kernel_rfl) (by kernel_rfl)
      · have h82 := condF hb80 hs78
        refine kF ?_
        refine K.exit 0 (by kernel_rfl) ?_
        refine PJ.passExit ?_
        obtain rfl := oi h82
        refine PJ.loopOut (fun e => nomatch e) (fun he92 => ?_)
        have h91 := congrArg some he92
        refine PJ.blockOut ?_
        obtain rfl := oi h91
        exact PJ.cutXl [4] (by kernel_rfl) (by kernel_rfl)
    · subst hs
      have h50 := joinX_inl h49
      refine kSR ?_
      refine kC 1 [4] ?_
      refine kEN ?_
      refine kX ?_
      obtain rfl := oi h50
      exact kZ hFn hFH hFD

def exergueref05_Same (x0 : St28) (x1 : St28) : Option (Bool) :=
  (Option.bind (exergueref01_Row x0.D_ x1.D_) fun y1 => (Option.bind (bif y1 then (bif (x0.Neg_ == x1.Neg_) then (some (decide (x0.E_ = x1.E_))) else (some false)) else (some false)) fun (s10 : Bool) => (some s10)))
theorem exergueref05_Same_ok {x0 : St28} {x1 : St28} {r : Bool} (h : exergueref05_Same x0 x1 = some r) : SC Try.prog 15 [.agg (encSt28 x0), .agg (encSt28 x1)] [] (.bool r) [] := by
  refine kFn (fn := Try.f15) (fun F hFn hFH hFD => ?_)
  unfold exergueref05_Same at h
  refine kSR ?_
  refine kC 3 [2,3,4] ?_
  refine kEN ?_
  refine kSR ?_
  refine kC 4 [2,3,4,7,9] ?_
  obtain ⟨y1, hy2, h3⟩ := bindS h
  refine RJ.call0 (d := (some 10)) (f := 40) (args := [lsv (encI .u8) 1 x0.D_, lsv (encI .u8) 1 x1.D_]) (v := .bool y1) (tr2 := []) (by kernel_rfl) (by kernel_rfl) (.cons (Le.refl _) (.cons (Le.refl _) .nil)) (exergueref01_Row_ok hy2) (by kernel_rfl) ?_
  refine kC 1 [2,3,4,5] ?_
  refine kEN ?_
  obtain ⟨s10, hy12, h14⟩ := bindS h3
  refine K.cutN (by kernel_rfl) (fun (s10 : Bool) => ([(4, .bool s10)], [])) s10 ?_ ?_
  · refine kR ?_
    refine RJ.seg 2 [2, 3, 4, 12] (L2 := [(2, .ptr 0 0), (3, .ptr 1 0), (4, .bool false), (12, .bool y1)]) (H2 := [.box (encSt28 x0), .box (encSt28 x1)]) (by kernel_rfl) ?_
    refine RJ.caseB 12 (b := y1) (by kernel_rfl) (fun hb15 => ?_) (fun hb15 => ?_)
    · have h16 := condT hb15 hy12
      refine kC 7 [2,3,4,19] ?_
      refine RJ.caseB 19 (b := (x0.Neg_ == x1.Neg_)) (by kernel_rfl) (fun hb18 => ?_) (fun hb18 => ?_)
      · have h19 := condT hb18 h16
        refine kC 7 [4] ?_
        refine kE ?_
        obtain rfl := oi h19
        refine PJ.wk (Wk.sel (L2 := [(4, .bool (decide (x0.E_ = x1.E_)))]) (H2 := []) 0 (by rw [hFH]; rfl) hFD [] (by kernel_rfl) (by kernel_rfl) (by decide) (by kernel_rfl) (by kernel_rfl) (by kernel_rfl) (by kernel_rfl)) ?_
        exact kN [4]
      · have h20 := condF hb18 h16
        refine kC 7 [4] ?_
        refine kE ?_
        obtain rfl := oi h20
        refine PJ.wk (Wk.sel (L2 := [(4, .bool false)]) (H2 := []) 0 (by rw [hFH]; rfl) hFD [] (by kernel_rfl) (by kernel_rfl) (by decide) (by kernel_rfl) (by kernel_rfl) (by kernel_rfl) (by kernel_rfl)) ?_
        exact kN [4]
    · have h17 := condF hb15 hy12
      refine kC 14 [4] ?_
      refine kE ?_
      obtain rfl := oi h17
      refine PJ.wk (Wk.sel (L2 := [(4, .bool false)]) (H2 := []) 0 (by rw [hFH]; rfl) hFD [] (by kernel_rfl) (by kernel_rfl) (by decide) (by kernel_rfl) (by kernel_rfl) (by kernel_rfl) (by kernel_rfl)) ?_
      exact kN [4]
  · refine kX ?_
    obtain rfl := oi h14
    exact kZ hFn hFH hFD

def exergueref05_Mag (x0 : St28) : Option (Int) :=
  (bif (decide ((x0.D_.length : Int) = 0)) then (some 0) else (some (IntKind.wrap .i64 (((IntKind.wrap .i64 (x0.E_ + (x0.D_.length : Int)))) - 1))))
theorem exergueref05_Mag_ok {x0 : St28} {r : Int} (h : exergueref05_Mag x0 = some r) : SC Try.prog 20 [.agg (encSt28 x0)] [] (.int .i64 r) [] := by
  refine kFn (fn := Try.f20) (fun F hFn hFH hFD => ?_)
  unfold exergueref05_Mag at h
  refine kSR ?_
  refine kC 2 [1,2] ?_
  refine kEN ?_
  refine kS ?_
  refine kSR ?_
  refine kC 4 [1,2,6] ?_
  refine kEN ?_
  refine J.caseB 6 (b := (decide ((x0.D_.length : Int) = 0))) (by kernel_rfl) (fun hb1 => ?_) (fun hb1 => ?_)
  · have h2 := condT hb1 h
    refine kT ?_
    refine kSR ?_
    refine kC 1 [1,2] ?_
    refine kEN ?_
    refine kX ?_
    refine PJ.passRet ?_
    obtain rfl := oi h2
    exact kZ hFn hFH hFD
  · have h3 := condF hb1 h
    refine kF ?_
    refine kK ?_
    refine PJ.next ?_
    refine kSR ?_
    refine kC 8 [2] ?_
    refine kEN ?_
    refine kX ?_
    obtain rfl := oi h3
    exact kZ hFn hFH hFD

def exerguelaw17_ShapeFew (x0 : St44) : Option (Bool) :=
  (Option.bind exerguelaw17_shown fun y1 => (Option.bind (Option.bind (Option.bind (exerguelaw17_of x0.P_ x0.Digits_) fun y86 => (bif (!y86) then (some true) else (Option.bind (exergueref06_Near x0.D_) fun y92 => (bif (!y92) then (some true) else (Option.bind (exergueref06_Is x0.Mode_) fun y98 => (bif (!y98) then (some true) else (Option.bind (exergueref06_Is x0.Other_) fun y104 => (some (!y104))))))))) fun (s81 : Bool) => (bif s81 then (some (.inr y1)) else (some (.inl ())))) (joinX fun (s55 : Unit) => (Option.bind (shape_Round x0.P_ x0.Digits_ x0.D_ x0.Mode_) fun y111 => (Option.bind (shape_Round x0.P_ x0.Digits_ y111.1 x0.Other_) fun y114 => (Option.bind (Option.bind (bif (decide (¬ y111.2 = 0)) then (some true) else (bif (decide (¬ y114.2 = 0)) then (some true) else (Option.bind (exergueref05_Same y111.1 y114.1) fun y178 => (bif (!y178) then (some true) else (some (y111.1.Neg_ != x0.D_.Neg_)))))) fun (s167 : Bool) => (bif s167 then (some (.inr false)) else (some (.inl ())))) (joinX fun (s150 : Unit) => (Option.bind (shape_Figures x0.P_ x0.Digits_ y111.1) fun y188 => (bif (decide (x0.P_.Exp_ > 0)) then (Option.bind (bif y1 then (bif (decide ((y188.2.1.length : Int) ≤ x0.P_.MaxFrac_)) then (bif (decide ((y188.2.1.length : Int) ≥ x0.P_.MinFrac_)) then (Option.bind (exergueref05_Mag y111.1) fun y220 => (some (decide (y188.2.2 = y220)))) else (some false)) else (some false)) else (some false)) fun (s206 : Bool) => (some s206)) else (bif (decide (x0.P_.MaxSig_ > 0)) then (Option.bind (bif y1 then (bif (decide ((y111.1.D_.length : Int) ≤ x0.P_.MaxSig_)) then (bif (decide ((y188.1.length : Int) ≥ 1)) then (some (decide (y188.2.2 = 0))) else (some false)) else (some false)) else (some false)) fun (s235 : Bool) => (some s235)) else (bif (decide (x0.Digits_ ≥ 0)) then (Option.bind (bif y1 then (bif (decide ((y188.2.1.length : Int) = x0.Digits_)) then (bif (decide ((y188.1.length : Int) ≥ x0.P_.MinInt_)) then (some (decide (y188.2.2 = 0))) else (some false)) else (some false)) else (some false)) fun (s261 : Bool) => (some s261)) else (Option.bind (bif y1 then (bif (decide ((y188.2.1.length : Int) ≤ x0.P_.MaxFrac_)) then (bif (decide ((y188.2.1.length : Int) ≥ x0.P_.MinFrac_)) then (bif (decide ((y188.1.length : Int) ≥ x0.P_.MinInt_)) then (some (decide (y188.2.2 = 0))) else (some false)) else (some false)) else (some false)) else (some false)) fun (s287 : Bool) => (some s287)))))))))))))
theorem exerguelaw17_ShapeFew_ok {x0 : St44} {r : Bool} (h : exerguelaw17_ShapeFew x0 = some r) : SC Try.prog 4 [.agg (encSt44 x0)] [] (.bool r) [] := by
  refine kFn (fn := Try.f4) (fun F hFn hFH hFD => ?_)
  unfold exerguelaw17_ShapeFew at h
  refine kSR ?_
  refine kC 2 [1,2] ?_
  refine kEN ?_
  refine kSR ?_
  refine kC 4 [1,2,3] ?_
  refine kEN ?_
  refine kSR ?_
  refine kC 3 [1,2,3,4] ?_
  refine kEN ?_
  refine kSR ?_
  refine RJ.seg 4 [1, 2, 3, 4, 5] (L2 := [(1, .ptr 0 0), (2, .bool false), (3, .ptr 1 0), (4, .int .i64 x0.Digits_), (5, .ptr 2 0)]) (H2 := [.box (encSt44 x0), .box (encSt25 x0.P_), .box (encSt28 x0.D_)]) (by kernel_rfl) ?_
  refine kEN ?_
  refine kSR ?_
  refine kC 3 [1,2,3,4,5,6] ?_
  refine kEN ?_
  refine kSR ?_
  refine kC 3 [2,3,4,5,6,7] ?_
  refine kEN ?_
  refine kSR ?_
  obtain ⟨y1, hy2, h3⟩ := bindS h
  refine RJ.call0 (d := (some 26)) (f := 9) (args := []) (v := .bool y1) (tr2 := []) (by kernel_rfl) (by kernel_rfl) .nil (exerguelaw17_shown_ok hy2) (by kernel_rfl) ?_
  refine kC 1 [2,3,4,5,6,7,8] ?_
  refine kEN ?_
  obtain ⟨y56, hy57, h58⟩ := bindS h3
  refine K.cutX (by kernel_rfl) (fun (s55 : Unit) => ([(2, .bool false), (3, .ptr 0 0), (4, .int .i64 x0.Digits_), (5, .ptr 1 0), (6, .int .i64 x0.Mode_), (7, .int .i64 x0.Other_), (8, .bool y1)], [.box (encSt25 x0.P_), .box (encSt28 x0.D_)])) y56 ?_ (fun s55 hs => ?_)
  · obtain ⟨s81, hy83, h85⟩ := bindS hy57
    refine K.cutN (by kernel_rfl) (fun (s81 : Bool) => ([(2, .bool false), (3, .ptr 0 0), (4, .int .i64 x0.Digits_), (5, .ptr 1 0), (6, .int .i64 x0.Mode_), (7, .int .i64 x0.Other_), (8, .bool y1), (45, .bool s81)], [.box (encSt25 x0.P_), .box (encSt28 x0.D_)])) s81 ?_ ?_
    · refine kR ?_
      refine RJ.seg 2 [2, 3, 4, 5, 6, 7, 8, 27, 28] (L2 := [(2, .bool false), (3, .ptr 1 0), (4, .int .i64 x0.Digits_), (5, .ptr 2 0), (6, .int .i64 x0.Mode_), (7, .int .i64 x0.Other_), (8, .bool y1), (27, .agg (encSt25 x0.P_)), (28, .int .i64 x0.Digits_)]) (H2 := [.box (encSt44 x0), .box (encSt25 x0.P_), .box (encSt28 x0.D_)]) (by kernel_rfl) ?_
      obtain ⟨y86, hy87, h88⟩ := bindS hy83
      refine RJ.call0 (d := (some 29)) (f := 10) (args := [.agg (encSt25 x0.P_), .int .i64 x0.Digits_]) (v := .bool y86) (tr2 := []) (by kernel_rfl) (by kernel_rfl) (.cons (Le.refl _) (.cons (Le.refl _) .nil)) (exerguelaw17_of_ok hy87) (by kernel_rfl) ?_
      refine kC 2 [2,3,4,5,6,7,8,31] ?_
      refine RJ.caseB 31 (b := (!y86)) (by kernel_rfl) (fun hb89 => ?_) (fun hb89 => ?_)
      · have h90 := condT hb89 h88
        refine kC 14 [2,3,4,5,6,7,8,45] ?_
        refine kE ?_
        obtain rfl := oi h90
        refine PJ.wk (Wk.sel (L2 := [(2, .bool false), (3, .ptr 0 0), (4, .int .i64 x0.Digits_), (5, .ptr 1 0), (6, .int .i64 x0.Mode_), (7, .int .i64 x0.Other_), (8, .bool y1), (45, .bool true)]) (H2 := [.box (encSt25 x0.P_), .box (encSt28 x0.D_)]) 0 (by rw [hFH]; rfl) hFD [1, 2] (by kernel_rfl) (by kernel_rfl) (by decide) (by kernel_rfl) (by kernel_rfl) (by kernel_rfl) (by kernel_rfl)) ?_
        exact kN [2, 3, 4, 5, 6, 7, 8, 45]
      · have h91 := condF hb89 h88
        refine kC 1 [2,3,4,5,6,7,8,31,32] ?_
        obtain ⟨y92, hy93, h94⟩ := bindS h91
        refine RJ.call0 (d := (some 33)) (f := 12) (args := [.agg (encSt28 x0.D_)]) (v := .bool y92) (tr2 := []) (by kernel_rfl) (by kernel_rfl) (.cons (Le.refl _) .nil) (exergueref06_Near_ok hy93) (by kernel_rfl) ?_
        refine kC 3 [2,3,4,5,6,7,8,36] ?_
        refine RJ.caseB 36 (b := (!y92)) (by kernel_rfl) (fun hb95 => ?_) (fun hb95 => ?_)
        · have h96 := condT hb95 h94
          refine RJ.seg 9 [2, 3, 4, 5, 6, 7, 8, 45] (L2 := [(2, .bool false), (3, .ptr 1 0), (4, .int .i64 x0.Digits_), (5, .ptr 2 0), (6, .int .i64 x0.Mode_), (7, .int .i64 x0.Other_), (8, .bool y1), (45, .bool true)]) (H2 := [.box (encSt44 x0), .box (encSt25 x0.P_), .box (encSt28 x0.D_)]) (by kernel_rfl) ?_
          refine kE ?_
          obtain rfl := oi h96
          refine PJ.wk (Wk.sel (L2 := [(2, .bool false), (3, .ptr 0 0), (4, .int .i64 x0.Digits_), (5, .ptr 1 0), (6, .int .i64 x0.Mode_), (7, .int .i64 x0.Other_), (8, .bool y1), (45, .bool true)]) (H2 := [.box (encSt25 x0.P_), .box (encSt28 x0.D_)]) 0 (by rw [hFH]; rfl) hFD [1, 2] (by kernel_rfl) (by kernel_rfl) (by decide) (by kernel_rfl) (by kernel_rfl) (by kernel_rfl) (by kernel_rfl)) ?_
          exact kN [2, 3, 4, 5, 6, 7, 8, 45]
        · have h97 := condF hb95 h94
          refine RJ.seg 1 [2, 3, 4, 5, 6, 7, 8, 36, 37] (L2 := [(2, .bool false), (3, .ptr 1 0), (4, .int .i64 x0.Digits_), (5, .ptr 2 0), (6, .int .i64 x0.Mode_), (7, .int .i64 x0.Other_), (8, .bool y1), (36, .bool false), (37, .int .i64 x0.Mode_)]) (H2 := [.box (encSt44 x0), .box (encSt25 x0.P_), .box (encSt28 x0.D_)]) (by kernel_rfl) ?_
          obtain ⟨y98, hy99, h100⟩ := bindS h97
          refine RJ.call0 (d := (some 38)) (f := 17) (args := [.int .i64 x0.Mode_]) (v := .bool y98) (tr2 := []) (by kernel_rfl) (by kernel_rfl) (.cons (Le.refl _) .nil) (exergueref06_Is_ok hy99) (by kernel_rfl) ?_
          refine kC 3 [2,3,4,5,6,7,8,41] ?_
          refine RJ.caseB 41 (b := (!y98)) (by kernel_rfl) (fun hb101 => ?_) (fun hb101 => ?_)
          · have h102 := condT hb101 h100
            refine kC 4 [2,3,4,5,6,7,8,45] ?_
            refine kE ?_
            obtain rfl := oi h102
            refine PJ.wk (Wk.sel (L2 := [(2, .bool false), (3, .ptr 0 0), (4, .int .i64 x0.Digits_), (5, .ptr 1 0), (6, .int .i64 x0.Mode_), (7, .int .i64 x0.Other_), (8, .bool y1), (45, .bool true)]) (H2 := [.box (encSt25 x0.P_), .box (encSt28 x0.D_)]) 0 (by rw [hFH]; rfl) hFD [1, 2] (by kernel_rfl) (by kernel_rfl) (by decide) (by kernel_rfl) (by kernel_rfl) (by kernel_rfl) (by kernel_rfl)) ?_
            exact kN [2, 3, 4, 5, 6, 7, 8, 45]
          · have h103 := condF hb101 h100
            refine kC 1 [2,3,4,5,6,7,8,41,42] ?_
            obtain ⟨y104, hy105, h106⟩ := bindS h103
            refine RJ.call0 (d := (some 43)) (f := 17) (args := [.int .i64 x0.Other_]) (v := .bool y104) (tr2 := []) (by kernel_rfl) (by kernel_rfl) (.cons (Le.refl _) .nil) (exergueref06_Is_ok hy105) (by kernel_rfl) ?_
            refine kC 2 [2,3,4,5,6,7,8,45] ?_
            refine kE ?_
            obtain rfl := oi h106
            refine PJ.wk (Wk.sel (L2 := [(2, .bool false), (3, .ptr 0 0), (4, .int .i64 x0.Digits_), (5, .ptr 1 0), (6, .int .i64 x0.Mode_), (7, .int .i64 x0.Other_), (8, .bool y1), (45, .bool (!y104))]) (H2 := [.box (encSt25 x0.P_), .box (encSt28 x0.D_)]) 0 (by rw [hFH]; rfl) hFD [1, 2] (by kernel_rfl) (by kernel_rfl) (by decide) (by kernel_rfl) (by kernel_rfl) (by kernel_rfl) (by kernel_rfl)) ?_
            exact kN [2, 3, 4, 5, 6, 7, 8, 45]
    · refine J.caseB 45 (b := s81) (by kernel_rfl) (fun hb107 => ?_) (fun hb107 => ?_)
      · have h108 := condT hb107 h85
        refine kT ?_
        refine kSR ?_
        refine kC 2 [2,3,4,5,6,7,8] ?_
        refine kEN ?_
        refine kX ?_
        obtain rfl := oi h108
        have h110 := joinX_inr h58
        refine PJ.cutXr (fun e => nomatch e) ?_
        obtain rfl := oi h110
        exact kZ hFn hFH hFD
      · have h109 := condF hb107 h85
        refine kF ?_
        refine kK ?_
        obtain rfl := oi h109
        exact PJ.cutXl [2, 3, 4, 5, 6, 7, 8] (by kernel_rfl) (by kernel_rfl)
  · subst hs
    have h59 := joinX_inl h58
    refine kSR ?_
    refine kC 4 [2,3,4,5,7,8,48,49,50,51] ?_
    obtain ⟨y111, hy112, h113⟩ := bindS h59
    refine RJ.call0 (d := (some 52)) (f := 18) (args := [.agg (encSt25 x0.P_), .int .i64 x0.Digits_, .agg (encSt28 x0.D_), .int .i64 x0.Mode_]) (v := .tup [.agg (encSt28 y111.1), .int .i64 y111.2]) (tr2 := []) (by kernel_rfl) (by kernel_rfl) (.cons (Le.refl _) (.cons (Le.refl _) (.cons (Le.refl _) (.cons (Le.refl _) .nil)))) (shape_Round_ok hy112) (by kernel_rfl) ?_
    refine kC 6 [2,3,4,5,7,8,9,10] ?_
    refine kEN ?_
    refine kSR ?_
    refine kC 4 [2,3,4,5,8,9,10,56,57,58,59] ?_
    obtain ⟨y114, hy115, h116⟩ := bindS h113
    refine RJ.call0 (d := (some 60)) (f := 18) (args := [.agg (encSt25 x0.P_), .int .i64 x0.Digits_, .agg (encSt28 y111.1), .int .i64 x0.Other_]) (v := .tup [.agg (encSt28 y114.1), .int .i64 y114.2]) (tr2 := []) (by kernel_rfl) (by kernel_rfl) (.cons (Le.refl _) (.cons (Le.refl _) (.cons (Le.refl _) (.cons (Le.refl _) .nil)))) (shape_Round_ok hy115) (by kernel_rfl) ?_
    refine RJ.seg 6 [2, 3, 4, 5, 8, 9, 10, 11, 12] (L2 := [(2, .bool false), (3, .ptr 0 0), (4, .int .i64 x0.Digits_), (5, .ptr 1 0), (8, .bool y1), (9, .ptr 2 0), (10, .int .i64 y111.2), (11, .ptr 3 0), (12, .int .i64 y114.2)]) (H2 := [.box (encSt25 x0.P_), .box (encSt28 x0.D_), .box (encSt28 y111.1), .box (encSt28 y114.1)]) (by kernel_rfl) ?_
    refine kEN ?_
    obtain ⟨y151, hy152, h153⟩ := bindS h116
    refine K.cutX (by kernel_rfl) (fun (s150 : Unit) => ([(2, .bool false), (3, .ptr 0 0), (4, .int .i64 x0.Digits_), (8, .bool y1), (9, .ptr 1 0)], [.box (encSt25 x0.P_), .box (encSt28 y111.1)])) y151 ?_ (fun s150 hs => ?_)
    · obtain ⟨s167, hy169, h171⟩ := bindS hy152
      refine K.cutN (by kernel_rfl) (fun (s167 : Bool) => ([(2, .bool false), (3, .ptr 0 0), (4, .int .i64 x0.Digits_), (8, .bool y1), (9, .ptr 1 0), (81, .bool s167)], [.box (encSt25 x0.P_), .box (encSt28 y111.1)])) s167 ?_ ?_
      · refine kR ?_
        refine kC 3 [2,3,4,5,8,9,11,12,65] ?_
        refine RJ.caseB 65 (b := (decide (¬ y111.2 = 0))) (by kernel_rfl) (fun hb172 => ?_) (fun hb172 => ?_)
        · have h173 := condT hb172 hy169
          refine kC 16 [2,3,4,8,9,81] ?_
          refine kE ?_
          obtain rfl := oi h173
          refine PJ.wk (Wk.sel (L2 := [(2, .bool false), (3, .ptr 0 0), (4, .int .i64 x0.Digits_), (8, .bool y1), (9, .ptr 1 0), (81, .bool true)]) (H2 := [.box (encSt25 x0.P_), .box (encSt28 y111.1)]) 0 (by rw [hFH]; rfl) hFD [0, 2] (by kernel_rfl) (by kernel_rfl) (by decide) (by kernel_rfl) (by kernel_rfl) (by kernel_rfl) (by kernel_rfl)) ?_
          exact kN [2, 3, 4, 8, 9, 81]
        · have h174 := condF hb172 hy169
          refine kC 4 [2,3,4,5,8,9,11,69] ?_
          refine RJ.caseB 69 (b := (decide (¬ y114.2 = 0))) (by kernel_rfl) (fun hb175 => ?_) (fun hb175 => ?_)
          · have h176 := condT hb175 h174
            refine kC 12 [2,3,4,8,9,81] ?_
            refine kE ?_
            obtain rfl := oi h176
            refine PJ.wk (Wk.sel (L2 := [(2, .bool false), (3, .ptr 0 0), (4, .int .i64 x0.Digits_), (8, .bool y1), (9, .ptr 1 0), (81, .bool true)]) (H2 := [.box (encSt25 x0.P_), .box (encSt28 y111.1)]) 0 (by rw [hFH]; rfl) hFD [0, 2] (by kernel_rfl) (by kernel_rfl) (by decide) (by kernel_rfl) (by kernel_rfl) (by kernel_rfl) (by kernel_rfl)) ?_
            exact kN [2, 3, 4, 8, 9, 81]
          · have h177 := condF hb175 h174
            refine kC 2 [2,3,4,5,8,9,69,70,71] ?_
            obtain ⟨y178, hy179, h180⟩ := bindS h177
            refine RJ.call0 (d := (some 72)) (f := 15) (args := [.agg (encSt28 y111.1), .agg (encSt28 y114.1)]) (v := .bool y178) (tr2 := []) (by kernel_rfl) (by kernel_rfl) (.cons (Le.refl _) (.cons (Le.refl _) .nil)) (exergueref05_Same_ok hy179) (by kernel_rfl) ?_
            refine RJ.seg 3 [2, 3, 4, 5, 8, 9, 75] (L2 := [(2, .bool false), (3, .ptr 0 0), (4, .int .i64 x0.Digits_), (5, .ptr 1 0), (8, .bool y1), (9, .ptr 2 0), (75, .bool (!y178))]) (H2 := [.box (encSt25 x0.P_), .box (encSt28 x0.D_), .box (encSt28 y111.1), .box (encSt28 y114.1)]) (by kernel_rfl) ?_
            refine RJ.caseB 75 (b := (!y178)) (by kernel_rfl) (fun hb181 => ?_) (fun hb181 => ?_)
            · have h182 := condT hb181 h180
              refine kC 6 [2,3,4,8,9,81] ?_
              refine kE ?_
              obtain rfl := oi h182
              refine PJ.wk (Wk.sel (L2 := [(2, .bool false), (3, .ptr 0 0), (4, .int .i64 x0.Digits_), (8, .bool y1), (9, .ptr 1 0), (81, .bool true)]) (H2 := [.box (encSt25 x0.P_), .box (encSt28 y111.1)]) 0 (by rw [hFH]; rfl) hFD [0, 2] (by kernel_rfl) (by kernel_rfl) (by decide) (by kernel_rfl) (by kernel_rfl) (by kernel_rfl) (by kernel_rfl)) ?_
              exact kN [2, 3, 4, 8, 9, 81]
            · have h183 := condF hb181 h180
              refine kC 6 [2,3,4,8,9,81] ?_
              refine kE ?_
              obtain rfl := oi h183
              refine PJ.wk (Wk.sel (L2 := [(2, .bool false), (3, .ptr 0 0), (4, .int .i64 x0.Digits_), (8, .bool y1), (9, .ptr 1 0), (81, .bool (y111.1.Neg_ != x0.D_.Neg_))]) (H2 := [.box (encSt25 x0.P_), .box (encSt28 y111.1)]) 0 (by rw [hFH]; rfl) hFD [0, 2] (by kernel_rfl) (by kernel_rfl) (by decide) (by kernel_rfl) (by kernel_rfl) (by kernel_rfl) (by kernel_rfl)) ?_
              exact kN [2, 3, 4, 8, 9, 81]
      · refine J.caseB 81 (b := s167) (by kernel_rfl) (fun hb184 => ?_) (fun hb184 => ?_)
        · have h185 := condT hb184 h171
          refine kT ?_
          refine kSR ?_
          refine kC 1 [2,3,4,8,9] ?_
          refine kEN ?_
          refine kX ?_
          obtain rfl := oi h185
          have h187 := joinX_inr h153
          refine PJ.cutXr (fun e => nomatch e) ?_
          obtain rfl := oi h187
          exact kZ hFn hFH hFD
        · have h186 := condF hb184 h171
          refine kF ?_
          refine kK ?_
          obtain rfl := oi h186
          exact PJ.cutXl [2, 3, 4, 8, 9] (by kernel_rfl) (by kernel_rfl)
    · subst hs
      have h154 := joinX_inl h153
      refine kSR ?_
      refine kC 3 [2,3,4,8,9,83,84,85] ?_
      obtain ⟨y188, hy189, h190⟩ := bindS h154
      refine RJ.call0 (d := (some 86)) (f := 19) (args := [.agg (encSt25 x0.P_), .int .i64 x0.Digits_, .agg (encSt28 y111.1)]) (v := .tup [lsv (encI .u8) 1 y188.1, lsv (encI .u8) 1 y188.2.1, .int .i64 y188.2.2]) (tr2 := []) (by kernel_rfl) (by kernel_rfl) (.cons (Le.refl _) (.cons (Le.refl _) (.cons (Le.refl _) .nil))) (shape_Figures_ok hy189) (by kernel_rfl) ?_
      refine kC 7 [2,3,4,8,9,13,14,15] ?_
      refine kEN ?_
      refine kS ?_
      refine K.block 0 (by kernel_rfl) ?_
      refine kSR ?_
      refine kC 4 [2,3,4,8,9,13,14,15,90] ?_
      refine kEN ?_
      refine J.caseB 90 (b := (decide (x0.P_.Exp_ > 0))) (by kernel_rfl) (fun hb191 => ?_) (fun hb191 => ?_)
      · have h192 := condT hb191 h190
        refine kT ?_
        obtain ⟨s206, hy208, h210⟩ := bindS h192
        refine K.cutN (by kernel_rfl) (fun (s206 : Bool) => ([(2, .bool s206), (3, .ptr 0 0), (8, .bool y1), (13, lsv (encI .u8) 1 y188.1), (14, lsv (encI .u8) 1 y188.2.1), (15, .int .i64 y188.2.2)], [.box (encSt25 x0.P_)])) s206 ?_ ?_
        · refine kR ?_
          refine RJ.seg 2 [2, 3, 8, 9, 13, 14, 15, 95] (L2 := [(2, .bool false), (3, .ptr 0 0), (8, .bool y1), (9, .ptr 1 0), (13, lsv (encI .u8) 1 y188.1), (14, lsv (encI .u8) 1 y188.2.1), (15, .int .i64 y188.2.2), (95, .bool y1)]) (H2 := [.box (encSt25 x0.P_), .box (encSt28 y111.1)]) (by kernel_rfl) ?_
          refine RJ.caseB 95 (b := y1) (by kernel_rfl) (fun hb211 => ?_) (fun hb211 => ?_)
          · have h212 := condT hb211 hy208
            refine kC 7 [2,3,8,9,13,14,15,102] ?_
            refine RJ.caseB 102 (b := (decide ((y188.2.1.length : Int) ≤ x0.P_.MaxFrac_))) (by kernel_rfl) (fun hb214 => ?_) (fun hb214 => ?_)
            · have h215 := condT hb214 h212
              refine kC 7 [2,3,8,9,13,14,15,109] ?_
              refine RJ.caseB 109 (b := (decide ((y188.2.1.length : Int) ≥ x0.P_.MinFrac_))) (by kernel_rfl) (fun hb217 => ?_) (fun hb217 => ?_)
              · have h218 := condT hb217 h215
                refine kC 2 [2,3,8,13,14,15,109,110,111] ?_
                obtain ⟨y220, hy221, h222⟩ := bindS h218
                refine RJ.call0 (d := (some 112)) (f := 20) (args := [.agg (encSt28 y111.1)]) (v := .int .i64 y220) (tr2 := []) (by kernel_rfl) (by kernel_rfl) (.cons (Le.refl _) .nil) (exergueref05_Mag_ok hy221) (by kernel_rfl) ?_
                refine RJ.seg 3 [2, 3, 8, 13, 14, 15] (L2 := [(2, .bool (decide (y188.2.2 = y220))), (3, .ptr 0 0), (8, .bool y1), (13, lsv (encI .u8) 1 y188.1), (14, lsv (encI .u8) 1 y188.2.1), (15, .int .i64 y188.2.2)]) (H2 := [.box (encSt25 x0.P_), .box (encSt28 y111.1)]) (by kernel_rfl) ?_
                refine kE ?_
                obtain rfl := oi h222
                refine PJ.wk (Wk.sel (L2 := [(2, .bool (decide (y188.2.2 = y220))), (3, .ptr 0 0), (8, .bool y1), (13, lsv (encI .u8) 1 y188.1), (14, lsv (encI .u8) 1 y188.2.1), (15, .int .i64 y188.2.2)]) (H2 := [.box (encSt25 x0.P_)]) 0 (by rw [hFH]; rfl) hFD [0] (by kernel_rfl) (by kernel_rfl) (by decide) (by kernel_rfl) (by kernel_rfl) (by kernel_rfl) (by kernel_rfl)) ?_
                exact kN [2, 3, 8, 13, 14, 15]
              · have h219 := condF hb217 h215
                refine kC 6 [2,3,8,13,14,15] ?_
                refine kE ?_
                obtain rfl := oi h219
                refine PJ.wk (Wk.sel (L2 := [(2, .bool false), (3, .ptr 0 0), (8, .bool y1), (13, lsv (encI .u8) 1 y188.1), (14, lsv (encI .u8) 1 y188.2.1), (15, .int .i64 y188.2.2)]) (H2 := [.box (encSt25 x0.P_)]) 0 (by rw [hFH]; rfl) hFD [0] (by kernel_rfl) (by kernel_rfl) (by decide) (by kernel_rfl) (by kernel_rfl) (by kernel_rfl) (by kernel_rfl)) ?_
                exact kN [2, 3, 8, 13, 14, 15]
            · have h216 := condF hb214 h212
              refine kC 13 [2,3,8,13,14,15] ?_
              refine kE ?_
              obtain rfl := oi h216
              refine PJ.wk (Wk.sel (L2 := [(2, .bool false), (3, .ptr 0 0), (8, .bool y1), (13, lsv (encI .u8) 1 y188.1), (14, lsv (encI .u8) 1 y188.2.1), (15, .int .i64 y188.2.2)]) (H2 := [.box (encSt25 x0.P_)]) 0 (by rw [hFH]; rfl) hFD [0] (by kernel_rfl) (by kernel_rfl) (by decide) (by kernel_rfl) (by kernel_rfl) (by kernel_rfl) (by kernel_rfl)) ?_
              exact kN [2, 3, 8, 13, 14, 15]
          · have h213 := condF hb211 hy208
            refine kC 20 [2,3,8,13,14,15] ?_
            refine kE ?_
            obtain rfl := oi h213
            refine PJ.wk (Wk.sel (L2 := [(2, .bool false), (3, .ptr 0 0), (8, .bool y1), (13, lsv (encI .u8) 1 y188.1), (14, lsv (encI .u8) 1 y188.2.1), (15, .int .i64 y188.2.2)]) (H2 := [.box (encSt25 x0.P_)]) 0 (by rw [hFH]; rfl) hFD [0] (by kernel_rfl) (by kernel_rfl) (by decide) (by kernel_rfl) (by kernel_rfl) (by kernel_rfl) (by kernel_rfl)) ?_
            exact kN [2, 3, 8, 13, 14, 15]
        · refine kX ?_
          refine PJ.blockRet ?_
          refine PJ.passRet ?_
          obtain rfl := oi h210
          exact kZ hFn hFH hFD
      · have h193 := condF hb191 h190
        refine kF ?_
        refine kSR ?_
        refine RJ.seg 4 [2, 3, 4, 8, 9, 13, 14, 15, 115] (L2 := [(2, .bool false), (3, .ptr 0 0), (4, .int .i64 x0.Digits_), (8, .bool y1), (9, .ptr 1 0), (13, lsv (encI .u8) 1 y188.1), (14, lsv (encI .u8) 1 y188.2.1), (15, .int .i64 y188.2.2), (115, .bool (decide (x0.P_.MaxSig_ > 0)))]) (H2 := [.box (encSt25 x0.P_), .box (encSt28 y111.1)]) (by kernel_rfl) ?_
        refine kEN ?_
        refine J.caseB 115 (b := (decide (x0.P_.MaxSig_ > 0))) (by kernel_rfl) (fun hb223 => ?_) (fun hb223 => ?_)
        · have h224 := condT hb223 h193
          refine kT ?_
          obtain ⟨s235, hy237, h239⟩ := bindS h224
          refine K.cutN (by kernel_rfl) (fun (s235 : Bool) => ([(2, .bool s235), (3, .ptr 0 0), (8, .bool y1), (13, lsv (encI .u8) 1 y188.1), (14, lsv (encI .u8) 1 y188.2.1), (15, .int .i64 y188.2.2)], [.box (encSt25 x0.P_)])) s235 ?_ ?_
          · refine kR ?_
            refine kC 2 [2,3,8,9,13,14,15,120] ?_
            refine RJ.caseB 120 (b := y1) (by kernel_rfl) (fun hb240 => ?_) (fun hb240 => ?_)
            · have h241 := condT hb240 hy237
              refine kC 8 [2,3,8,13,14,15,128] ?_
              refine RJ.caseB 128 (b := (decide ((y111.1.D_.length : Int) ≤ x0.P_.MaxSig_))) (by kernel_rfl) (fun hb243 => ?_) (fun hb243 => ?_)
              · have h244 := condT hb243 h241
                refine kC 5 [2,3,8,13,14,15,133] ?_
                refine RJ.caseB 133 (b := (decide ((y188.1.length : Int) ≥ 1))) (by kernel_rfl) (fun hb246 => ?_) (fun hb246 => ?_)
                · have h247 := condT hb246 h244
                  refine RJ.seg 4 [2, 3, 8, 13, 14, 15] (L2 := [(2, .bool (decide (y188.2.2 = 0))), (3, .ptr 0 0), (8, .bool y1), (13, lsv (encI .u8) 1 y188.1), (14, lsv (encI .u8) 1 y188.2.1), (15, .int .i64 y188.2.2)]) (H2 := [.box (encSt25 x0.P_), .box (encSt28 y111.1)]) (by kernel_rfl) ?_
                  refine kE ?_
                  obtain rfl := oi h247
                  refine PJ.wk (Wk.sel (L2 := [(2, .bool (decide (y188.2.2 = 0))), (3, .ptr 0 0), (8, .bool y1), (13, lsv (encI .u8) 1 y188.1), (14, lsv (encI .u8) 1 y188.2.1), (15, .int .i64 y188.2.2)]) (H2 := [.box (encSt25 x0.P_)]) 0 (by rw [hFH]; rfl) hFD [0] (by kernel_rfl) (by kernel_rfl) (by decide) (by kernel_rfl) (by kernel_rfl) (by kernel_rfl) (by kernel_rfl)) ?_
                  exact kN [2, 3, 8, 13, 14, 15]
                · have h248 := condF hb246 h244
                  refine RJ.seg 4 [2, 3, 8, 13, 14, 15] (L2 := [(2, .bool false), (3, .ptr 0 0), (8, .bool y1), (13, lsv (encI .u8) 1 y188.1), (14, lsv (encI .u8) 1 y188.2.1), (15, .int .i64 y188.2.2)]) (H2 := [.box (encSt25 x0.P_), .box (encSt28 y111.1)]) (by kernel_rfl) ?_
                  refine kE ?_
                  obtain rfl := oi h248
                  refine PJ.wk (Wk.sel (L2 := [(2, .bool false), (3, .ptr 0 0), (8, .bool y1), (13, lsv (encI .u8) 1 y188.1), (14, lsv (encI .u8) 1 y188.2.1), (15, .int .i64 y188.2.2)]) (H2 := [.box (encSt25 x0.P_)]) 0 (by rw [hFH]; rfl) hFD [0] (by kernel_rfl) (by kernel_rfl) (by decide) (by kernel_rfl) (by kernel_rfl) (by kernel_rfl) (by kernel_rfl)) ?_
                  exact kN [2, 3, 8, 13, 14, 15]
              · have h245 := condF hb243 h241
                refine kC 9 [2,3,8,13,14,15] ?_
                refine kE ?_
                obtain rfl := oi h245
                refine PJ.wk (Wk.sel (L2 := [(2, .bool false), (3, .ptr 0 0), (8, .bool y1), (13, lsv (encI .u8) 1 y188.1), (14, lsv (encI .u8) 1 y188.2.1), (15, .int .i64 y188.2.2)]) (H2 := [.box (encSt25 x0.P_)]) 0 (by rw [hFH]; rfl) hFD [0] (by kernel_rfl) (by kernel_rfl) (by decide) (by kernel_rfl) (by kernel_rfl) (by kernel_rfl) (by kernel_rfl)) ?_
                exact kN [2, 3, 8, 13, 14, 15]
            · have h242 := condF hb240 hy237
              refine kC 17 [2,3,8,13,14,15] ?_
              refine kE ?_
              obtain rfl := oi h242
              refine PJ.wk (Wk.sel (L2 := [(2, .bool false), (3, .ptr 0 0), (8, .bool y1), (13, lsv (encI .u8) 1 y188.1), (14, lsv (encI .u8) 1 y188.2.1), (15, .int .i64 y188.2.2)]) (H2 := [.box (encSt25 x0.P_)]) 0 (by rw [hFH]; rfl) hFD [0] (by kernel_rfl) (by kernel_rfl) (by decide) (by kernel_rfl) (by kernel_rfl) (by kernel_rfl) (by kernel_rfl)) ?_
              exact kN [2, 3, 8, 13, 14, 15]
          · refine kX ?_
            refine PJ.blockRet ?_
            refine PJ.passRet ?_
            obtain rfl := oi h239
            exact kZ hFn hFH hFD
        · have h225 := condF hb223 h193
          refine kF ?_
          refine kSR ?_
          refine kC 3 [2,3,4,8,13,14,15,137] ?_
          refine kEN ?_
          refine J.caseB 137 (b := (decide (x0.Digits_ ≥ 0))) (by kernel_rfl) (fun hb249 => ?_) (fun hb249 => ?_)
          · have h250 := condT hb249 h225
            refine kT ?_
            obtain ⟨s261, hy263, h265⟩ := bindS h250
            refine K.cutN (by kernel_rfl) (fun (s261 : Bool) => ([(2, .bool s261), (3, .ptr 0 0), (8, .bool y1), (13, lsv (encI .u8) 1 y188.1), (14, lsv (encI .u8) 1 y188.2.1), (15, .int .i64 y188.2.2)], [.box (encSt25 x0.P_)])) s261 ?_ ?_
            · refine kR ?_
              refine kC 2 [2,3,4,8,13,14,15,141] ?_
              refine RJ.caseB 141 (b := y1) (by kernel_rfl) (fun hb266 => ?_) (fun hb266 => ?_)
              · have h267 := condT hb266 hy263
                refine kC 6 [2,3,8,13,14,15,147] ?_
                refine RJ.caseB 147 (b := (decide ((y188.2.1.length : Int) = x0.Digits_))) (by kernel_rfl) (fun hb269 => ?_) (fun hb269 => ?_)
                · have h270 := condT hb269 h267
                  refine RJ.seg 7 [2, 3, 8, 13, 14, 15, 154] (L2 := [(2, .bool false), (3, .ptr 0 0), (8, .bool y1), (13, lsv (encI .u8) 1 y188.1), (14, lsv (encI .u8) 1 y188.2.1), (15, .int .i64 y188.2.2), (154, .bool ((decide ((y188.1.length : Int) ≥ x0.P_.MinInt_))))]) (H2 := [.box (encSt25 x0.P_), .box (encSt28 y111.1)]) (by kernel_rfl) ?_
                  refine RJ.caseB 154 (b := (decide ((y188.1.length : Int) ≥ x0.P_.MinInt_))) (by kernel_rfl) (fun hb272 => ?_) (fun hb272 => ?_)
                  · have h273 := condT hb272 h270
                    refine kC 4 [2,3,8,13,14,15] ?_
                    refine kE ?_
                    obtain rfl := oi h273
                    refine PJ.wk (Wk.sel (L2 := [(2, .bool (decide (y188.2.2 = 0))), (3, .ptr 0 0), (8, .bool y1), (13, lsv (encI .u8) 1 y188.1), (14, lsv (encI .u8) 1 y188.2.1), (15, .int .i64 y188.2.2)]) (H2 := [.box (encSt25 x0.P_)]) 0 (by rw [hFH]; rfl) hFD [0] (by kernel_rfl) (by kernel_rfl) (by decide) (by kernel_rfl) (by kernel_rfl) (by kernel_rfl) (by kernel_rfl)) ?_
                    exact kN [2, 3, 8, 13, 14, 15]
                  · have h274 := condF hb272 h270
                    refine kC 4 [2,3,8,13,14,15] ?_
                    refine kE ?_
                    obtain rfl := oi h274
                    refine PJ.wk (Wk.sel (L2 := [(2, .bool false), (3, .ptr 0 0), (8, .bool y1), (13, lsv (encI .u8) 1 y188.1), (14, lsv (encI .u8) 1 y188.2.1), (15, .int .i64 y188.2.2)]) (H2 := [.box (encSt25 x0.P_)]) 0 (by rw [hFH]; rfl) hFD [0] (by kernel_rfl) (by kernel_rfl) (by decide) (by kernel_rfl) (by kernel_rfl) (by kernel_rfl) (by kernel_rfl)) ?_
                    exact kN [2, 3, 8, 13, 14, 15]
                · have h271 := condF hb269 h267
                  refine RJ.seg 11 [2, 3, 8, 13, 14, 15] (L2 := [(2, .bool false), (3, .ptr 0 0), (8, .bool y1), (13, lsv (encI .u8) 1 y188.1), (14, lsv (encI .u8) 1 y188.2.1), (15, .int .i64 y188.2.2)]) (H2 := [.box (encSt25 x0.P_), .box (encSt28 y111.1)]) (by kernel_rfl) ?_
                  refine kE ?_
                  obtain rfl := oi h271
                  refine PJ.wk (Wk.sel (L2 := [(2, .bool false), (3, .ptr 0 0), (8, .bool y1), (13, lsv (encI .u8) 1 y188.1), (14, lsv (encI .u8) 1 y188.2.1), (15, .int .i64 y188.2.2)]) (H2 := [.box (encSt25 x0.P_)]) 0 (by rw [hFH]; rfl) hFD [0] (by kernel_rfl) (by kernel_rfl) (by decide) (by kernel_rfl) (by kernel_rfl) (by kernel_rfl) (by kernel_rfl)) ?_
                  exact kN [2, 3, 8, 13, 14, 15]
              · have h268 := condF hb266 hy263
                refine kC 17 [2,3,8,13,14,15] ?_
                refine kE ?_
                obtain rfl := oi h268
                refine PJ.wk (Wk.sel (L2 := [(2, .bool false), (3, .ptr 0 0), (8, .bool y1), (13, lsv (encI .u8) 1 y188.1), (14, lsv (encI .u8) 1 y188.2.1), (15, .int .i64 y188.2.2)]) (H2 := [.box (encSt25 x0.P_)]) 0 (by rw [hFH]; rfl) hFD [0] (by kernel_rfl) (by kernel_rfl) (by decide) (by kernel_rfl) (by kernel_rfl) (by kernel_rfl) (by kernel_rfl)) ?_
                exact kN [2, 3, 8, 13, 14, 15]
            · refine kX ?_
              refine PJ.blockRet ?_
              refine PJ.passRet ?_
              obtain rfl := oi h265
              exact kZ hFn hFH hFD
          · have h251 := condF hb249 h225
            refine kF ?_
            refine kK ?_
            refine PJ.blockNormal ?_
            refine PJ.next ?_
            obtain ⟨s287, hy289, h291⟩ := bindS h251
            refine K.cutN (by kernel_rfl) (fun (s287 : Bool) => ([(2, .bool s287)], [])) s287 ?_ ?_
            · refine kR ?_
              refine kC 2 [2,3,13,14,15,159] ?_
              refine RJ.caseB 159 (b := y1) (by kernel_rfl) (fun hb292 => ?_) (fun hb292 => ?_)
              · have h293 := condT hb292 hy289
                refine kC 7 [2,3,13,14,15,166] ?_
                refine RJ.caseB 166 (b := (decide ((y188.2.1.length : Int) ≤ x0.P_.MaxFrac_))) (by kernel_rfl) (fun hb295 => ?_) (fun hb295 => ?_)
                · have h296 := condT hb295 h293
                  refine RJ.seg 7 [2, 3, 13, 15, 173] (L2 := [(2, .bool false), (3, .ptr 0 0), (13, lsv (encI .u8) 1 y188.1), (15, .int .i64 y188.2.2), (173, .bool ((decide ((y188.2.1.length : Int) ≥ x0.P_.MinFrac_))))]) (H2 := [.box (encSt25 x0.P_), .box (encSt28 y111.1)]) (by kernel_rfl) ?_
                  refine RJ.caseB 173 (b := (decide ((y188.2.1.length : Int) ≥ x0.P_.MinFrac_))) (by kernel_rfl) (fun hb298 => ?_) (fun hb298 => ?_)
                  · have h299 := condT hb298 h296
                    refine kC 7 [2,15,180] ?_
                    refine RJ.caseB 180 (b := (decide ((y188.1.length : Int) ≥ x0.P_.MinInt_))) (by kernel_rfl) (fun hb301 => ?_) (fun hb301 => ?_)
                    · have h302 := condT hb301 h299
                      refine kC 4 [2] ?_
                      refine kE ?_
                      obtain rfl := oi h302
                      refine PJ.wk (Wk.sel (L2 := [(2, .bool (decide (y188.2.2 = 0)))]) (H2 := []) 0 (by rw [hFH]; rfl) hFD [] (by kernel_rfl) (by kernel_rfl) (by decide) (by kernel_rfl) (by kernel_rfl) (by kernel_rfl) (by kernel_rfl)) ?_
                      exact kN [2]
                    · have h303 := condF hb301 h299
                      refine kC 4 [2] ?_
                      refine kE ?_
                      obtain rfl := oi h303
                      refine PJ.wk (Wk.sel (L2 := [(2, .bool false)]) (H2 := []) 0 (by rw [hFH]; rfl) hFD [] (by kernel_rfl) (by kernel_rfl) (by decide) (by kernel_rfl) (by kernel_rfl) (by kernel_rfl) (by kernel_rfl)) ?_
                      exact kN [2]
                  · have h300 := condF hb298 h296
                    refine kC 11 [2] ?_
                    refine kE ?_
                    obtain rfl := oi h300
                    refine PJ.wk (Wk.sel (L2 := [(2, .bool false)]) (H2 := []) 0 (by rw [hFH]; rfl) hFD [] (by kernel_rfl) (by kernel_rfl) (by decide) (by kernel_rfl) (by kernel_rfl) (by kernel_rfl) (by kernel_rfl)) ?_
                    exact kN [2]
                · have h297 := condF hb295 h293
                  refine RJ.seg 18 [2] (L2 := [(2, .bool false)]) (H2 := [.box (encSt25 x0.P_), .box (encSt28 y111.1)]) (by kernel_rfl) ?_
                  refine kE ?_
                  obtain rfl := oi h297
                  refine PJ.wk (Wk.sel (L2 := [(2, .bool false)]) (H2 := []) 0 (by rw [hFH]; rfl) hFD [] (by kernel_rfl) (by kernel_rfl) (by decide) (by kernel_rfl) (by kernel_rfl) (by kernel_rfl) (by kernel_rfl)) ?_
                  exact kN [2]
              · have h294 := condF hb292 hy289
                refine kC 25 [2] ?_
                refine kE ?_
                obtain rfl := oi h294
                refine PJ.wk (Wk.sel (L2 := [(2, .bool false)]) (H2 := []) 0 (by rw [hFH]; rfl) hFD [] (by kernel_rfl) (by kernel_rfl) (by decide) (by kernel_rfl) (by kernel_rfl) (by kernel_rfl) (by kernel_rfl)) ?_
                exact kN [2]
            · refine kX ?_
              obtain rfl := oi h291
              exact kZ hFn hFH hFD

end Go.Proofs.Ytcmmjficmoflkaa
