/-
  What the functions of this program come to, as functions of natives, each with the proof that it does. No conditions.
-/
import Derived.Test.YtcmmjficmoflkaaGreatProg
import Derived.Test.YtcmmjficmoflkaaGreatSySL
import Derived.Test.YtcmmjficmoflkaaGreatGb
namespace Go.Proofs.YtcmmjficmoflkaaGreat
open Go Go.Sy Go.RowKit
set_option linter.unusedVariables false
set_option linter.unusedSimpArgs false
set_option maxRecDepth 100000
set_option maxHeartbeats 4000000
def exergueref06_Less (x0 : List Int) (x1 : List Int) : Option (Bool) :=
 (Option.bind (loopN (fun (s0 : Int) => (bif (decide (s0 ≥ 0)) then (Option.bind (exergueref06_at x0 s0) fun y0 => (Option.bind (exergueref06_at x1 s0) fun y1 => (bif (decide (¬ y0 = y1)) then (Option.bind (exergueref06_at x0 s0) fun y2 => (Option.bind (exergueref06_at x1 s0) fun y3 => (some (.inr (.inr (decide (y2 < y3))))))) else (some (.inl (IntKind.wrap .i64 (s0 - 1))))))) else (some (.inr (.inl ()))))) big ((IntKind.wrap .i64 ((maxI (x0.length : Int) (x1.length : Int)) - 1)))) (joinX fun (s1 : Unit) => (some false)))
theorem exergueref06_Less_ok {x0 : List Int} {x1 : List Int} {r : Bool} (h : exergueref06_Less x0 x1 = some r) : SC Tryz.prog 102 [lsv (encI .u8) 1 x0, lsv (encI .u8) 1 x1] [] (.bool r) [] := by
 refine kFn (fn := Tryz.f102) (fun F hFn hFH hFD => ?_)
 unfold exergueref06_Less at h
 refine kSR ?_
 refine kC 1 [0,1,4] ?_
 refine kEN ?_
 obtain ⟨y4, hy0, h0⟩ := bindS h
 refine K.cutX (by kernel_rfl) (fun (s1 : Unit) => ([(4, .bool false)], [])) y4 ?_ (fun s1 hs => ?_)
 ·refine kSR ?_
  refine kC 7 [0,1,4,5] ?_
  refine kEN ?_
  refine kb 0 ?_
  refine kl (fun (s0 : Int) => ([(0, lsv (encI .u8) 1 x0), (1, lsv (encI .u8) 1 x1), (4, .bool false), (5, .int .i64 s0)], [])) hy0 [0, 1, 4, 5] (fun s0 x126 hs0 => ?_)
  refine kS ?_
  refine kSR ?_
  refine kC 2 [0,1,4,5,13] ?_
  refine kEN ?_
  refine kBJ 13 hs0 (fun h1 => ?_) (fun h2 => ?_)
  ·refine kT ?_
   refine kK ?_
   refine PJ.next ?_
   refine kS ?_
   refine kb 1 ?_
   refine kSR ?_
   refine kC 2 [0,1,4,5,16,17] ?_
   obtain ⟨y0, hy1, h3⟩ := bindS h1
   refine kA 18 (exergueref06_at_ok hy1) ?_
   refine kC 2 [0,1,4,5,18,19,20] ?_
   obtain ⟨y1, hy2, h4⟩ := bindS h3
   refine kA 21 (exergueref06_at_ok hy2) ?_
   refine kC 1 [0,1,4,5,22] ?_
   refine kEN ?_
   refine kBJ 22 h4 (fun h5 => ?_) (fun h6 => ?_)
   ·refine kT ?_
    refine kSR ?_
    refine kC 2 [0,1,4,5,23,24] ?_
    obtain ⟨y2, hy3, h7⟩ := bindS h5
    refine kA 25 (exergueref06_at_ok hy3) ?_
    refine kC 2 [0,1,4,5,25,26,27] ?_
    obtain ⟨y3, hy4, h8⟩ := bindS h7
    refine kA 28 (exergueref06_at_ok hy4) ?_
    refine kC 2 [0,1,4,5] ?_
    refine kEN ?_
    refine kX ?_
    refine PJ.blockRet ?_
    refine PJ.passRet ?_
    obtain rfl := oi h8
    refine PJ.loopOut (fun e => nomatch e) (fun he0 => ?_)
    have h9 := congrArg some he0
    refine PJ.blockRet ?_
    obtain rfl := oi h9
    have h10 := joinX_inr h0
    refine PJ.cutXr (fun e => nomatch e) ?_
    obtain rfl := oi h10
    exact kZ hFn hFH hFD
   ·refine kF ?_
    refine kK ?_
    refine PJ.blockNormal ?_
    refine PJ.next ?_
    refine kR ?_
    refine kC 3 [0,1,4,5] ?_
    refine kE ?_
    obtain rfl := oi h6
    exact kLN [0, 1, 4, 5]
  ·refine kF ?_
   refine K.exit 0 (by kernel_rfl) ?_
   refine PJ.passExit ?_
   obtain rfl := oi h2
   refine PJ.loopOut (fun e => nomatch e) (fun he1 => ?_)
   have h11 := congrArg some he1
   refine PJ.blockOut ?_
   obtain rfl := oi h11
   exact kXl [4]
 ·subst hs
  have h12 := joinX_inl h0
  refine kSR ?_
  refine kC 1 [4] ?_
  refine kEN ?_
  refine kX ?_
  obtain rfl := oi h12
  exact kZ hFn hFH hFD
def exergueref06_Sum (x0 : List Int) (x1 : List Int) (x2 : Bool) : Option (List Int) :=
 (Option.bind (loopN (fun (s0 : Int × Int × (List Int)) => (bif (decide (s0.2.1 < ((IntKind.wrap .i64 ((maxI (x0.length : Int) (x1.length : Int)) + 1))))) then (Option.bind (Option.bind (exergueref06_at x0 s0.2.1) fun y0 => (Option.bind (exergueref06_at x1 s0.2.1) fun y1 => (Option.bind (bif x2 then (some ((IntKind.wrap .i64 (0 - (IntKind.wrap .i64 y1))))) else (some (IntKind.wrap .i64 y1))) fun (s3 : Int) => (Option.bind (bif (decide (((IntKind.wrap .i64 (((IntKind.wrap .i64 ((IntKind.wrap .i64 y0) + s0.1))) + s3))) > 9)) then (some (1, (IntKind.wrap .i64 (((IntKind.wrap .i64 (((IntKind.wrap .i64 ((IntKind.wrap .i64 y0) + s0.1))) + s3))) - 10)))) else (some (0, (IntKind.wrap .i64 (((IntKind.wrap .i64 ((IntKind.wrap .i64 y0) + s0.1))) + s3))))) fun (s2 : Int × Int) => (Option.bind (bif (decide (s2.2 < 0)) then (some ((-1), (IntKind.wrap .i64 (s2.2 + 10)))) else (some (s2.1, s2.2))) fun (s1 : Int × Int) => (bif room (s0.2.2.length + ([(IntKind.wrap .u8 s1.2)] : List Int).length) then (some (s1.1, (s0.2.2 ++ ([(IntKind.wrap .u8 s1.2)] : List Int)))) else none)))))) fun (s4 : Int × (List Int)) => (some (.inl (s4.1, (IntKind.wrap .i64 (s0.2.1 + 1)), s4.2)))) else (some (.inr s0.2.2)))) big (0, 0, ([] : List Int))) fun (s5 : (List Int)) => (some s5))
theorem exergueref06_Sum_ok {x0 : List Int} {x1 : List Int} {x2 : Bool} {r : List Int} (h : exergueref06_Sum x0 x1 x2 = some r) : SC Tryz.prog 101 [lsv (encI .u8) 1 x0, lsv (encI .u8) 1 x1, .bool x2] [] (lsv (encI .u8) 1 r) [] := by
 refine kFn (fn := Tryz.f101) (fun F hFn hFH hFD => ?_)
 unfold exergueref06_Sum at h
 refine kSR ?_
 refine kC 1 [0,1,2,6] ?_
 refine kEN ?_
 refine kSR ?_
 refine kC 1 [0,1,2,6,7] ?_
 refine kEN ?_
 refine kSR ?_
 refine kC 1 [0,1,2,6,7,8] ?_
 refine kEN ?_
 obtain ⟨s5, hy0, h0⟩ := bindS h
 refine K.cutN (by kernel_rfl) (fun (s5 : (List Int)) => ([(6, .nl), (7, .vc 0)], [vecL (encI .u8) 1 5 s5])) s5 ?_ ?_
 ·refine kSR ?_
  refine kC 1 [0,1,2,6,7,8,9] ?_
  refine kEN ?_
  refine kb 0 ?_
  refine J.wk (Wk.viv 7 1 5 (by kernel_rfl)) ?_
  refine kl (fun (s0 : Int × Int × (List Int)) => ([(0, lsv (encI .u8) 1 x0), (1, lsv (encI .u8) 1 x1), (2, .bool x2), (6, .nl), (7, .vc 0), (8, .int .i64 s0.1), (9, .int .i64 s0.2.1)], [vecL (encI .u8) 1 5 s0.2.2])) hy0 [0, 1, 2, 6, 7, 8, 9] (fun s0 x461 hs0 => ?_)
  refine kS ?_
  refine kSR ?_
  refine kC 8 [0,1,2,6,7,8,9,20] ?_
  refine kEN ?_
  refine kBJ 20 hs0 (fun h1 => ?_) (fun h2 => ?_)
  ·refine kT ?_
   refine kK ?_
   refine PJ.next ?_
   obtain ⟨s4, hy1, h3⟩ := bindS h1
   refine K.cutN (by kernel_rfl) (fun (s4 : Int × (List Int)) => ([(0, lsv (encI .u8) 1 x0), (1, lsv (encI .u8) 1 x1), (2, .bool x2), (6, .nl), (7, .vc 0), (8, .int .i64 s4.1), (9, .int .i64 s0.2.1)], [vecL (encI .u8) 1 5 s4.2])) s4 ?_ ?_
   ·refine kb 1 ?_
    refine kSR ?_
    refine kC 2 [0,1,2,6,7,8,9,23,24] ?_
    obtain ⟨y0, hy2, h4⟩ := bindS hy1
    refine kA 25 (exergueref06_at_ok hy2) ?_
    refine kC 4 [0,1,2,6,7,8,9,10] ?_
    refine kEN ?_
    refine kSR ?_
    refine kC 2 [0,1,2,6,7,8,9,10,29,30] ?_
    obtain ⟨y1, hy3, h5⟩ := bindS h4
    refine kA 31 (exergueref06_at_ok hy3) ?_
    refine kC 2 [0,1,2,6,7,8,9,10,11] ?_
    refine kEN ?_
    obtain ⟨s3, hy4, h6⟩ := bindS h5
    refine K.cutN (by kernel_rfl) (fun (s3 : Int) => ([(0, lsv (encI .u8) 1 x0), (1, lsv (encI .u8) 1 x1), (2, .bool x2), (6, .nl), (7, .vc 0), (8, .int .i64 s0.1), (9, .int .i64 s0.2.1), (10, .int .i64 ((IntKind.wrap .i64 ((IntKind.wrap .i64 y0) + s0.1)))), (11, .int .i64 s3)], [vecL (encI .u8) 1 5 s0.2.2])) s3 ?_ ?_
    ·refine kSR ?_
     refine kC 1 [0,1,2,6,7,8,9,10,11,33] ?_
     refine kEN ?_
     refine kBJ 33 hy4 (fun h7 => ?_) (fun h8 => ?_)
     ·refine kT ?_
      refine kR ?_
      refine kC 3 [0,1,2,6,7,8,9,10,11] ?_
      refine kE ?_
      obtain rfl := oi h7
      exact kN [0, 1, 2, 6, 7, 8, 9, 10, 11]
     ·refine kF ?_
      refine kK ?_
      obtain rfl := oi h8
      exact kN [0, 1, 2, 6, 7, 8, 9, 10, 11]
    ·refine kSR ?_
     refine kC 4 [0,1,2,6,7,8,9,12] ?_
     refine kEN ?_
     refine kSR ?_
     refine kC 1 [0,1,2,6,7,8,9,12] ?_
     refine kEN ?_
     obtain ⟨s2, hy5, h9⟩ := bindS h6
     refine K.cutN (by kernel_rfl) (fun (s2 : Int × Int) => ([(0, lsv (encI .u8) 1 x0), (1, lsv (encI .u8) 1 x1), (2, .bool x2), (6, .nl), (7, .vc 0), (8, .int .i64 s2.1), (9, .int .i64 s0.2.1), (12, .int .i64 s2.2)], [vecL (encI .u8) 1 5 s0.2.2])) s2 ?_ ?_
     ·refine kSR ?_
      refine kC 2 [0,1,2,6,7,8,9,12,40] ?_
      refine kEN ?_
      refine kBJ 40 hy5 (fun h10 => ?_) (fun h11 => ?_)
      ·refine kT ?_
       refine kSR ?_
       refine kC 3 [0,1,2,6,7,8,9,12] ?_
       refine kEN ?_
       refine kR ?_
       refine kC 1 [0,1,2,6,7,8,9,12] ?_
       refine kE ?_
       obtain rfl := oi h10
       exact kN [0, 1, 2, 6, 7, 8, 9, 12]
      ·refine kF ?_
       refine kK ?_
       obtain rfl := oi h11
       exact kN [0, 1, 2, 6, 7, 8, 9, 12]
     ·obtain ⟨s1, hy6, h12⟩ := bindS h9
      refine K.cutN (by kernel_rfl) (fun (s1 : Int × Int) => ([(0, lsv (encI .u8) 1 x0), (1, lsv (encI .u8) 1 x1), (2, .bool x2), (6, .nl), (7, .vc 0), (8, .int .i64 s1.1), (9, .int .i64 s0.2.1), (12, .int .i64 s1.2)], [vecL (encI .u8) 1 5 s0.2.2])) s1 ?_ ?_
      ·refine kSR ?_
       refine kC 2 [0,1,2,6,7,8,9,12,44] ?_
       refine kEN ?_
       refine kBJ 44 hy6 (fun h13 => ?_) (fun h14 => ?_)
       ·refine kT ?_
        refine kSR ?_
        refine kC 3 [0,1,2,6,7,8,9,12] ?_
        refine kEN ?_
        refine kR ?_
        refine kC 1 [0,1,2,6,7,8,9,12] ?_
        refine kE ?_
        obtain rfl := oi h13
        exact kN [0, 1, 2, 6, 7, 8, 9, 12]
       ·refine kF ?_
        refine kK ?_
        obtain rfl := oi h14
        exact kN [0, 1, 2, 6, 7, 8, 9, 12]
      ·refine kR ?_
       refine kC 4 [0,1,2,6,7,8,9,47,50] ?_
       obtain ⟨hm, h15⟩ := asrt h12
       refine RJ.rel (d := (some 51)) (ef := ⟨.vc 2, [0, 1], [(0, .gone), (2, .vec (s0.2.2.length + ([(IntKind.wrap .u8 s1.2)] : List Int).length) 1 5 (s0.2.2.flatMap (encI .u8) ++ ([(IntKind.wrap .u8 s1.2)] : List Int).flatMap (encI .u8)))]⟩) (ef' := ⟨.vc 2, [0, 1], [(0, .gone), (2, vecL (encI .u8) 1 5 (s0.2.2 ++ ([(IntKind.wrap .u8 s1.2)] : List Int)))]⟩) (c := roomB (s0.2.2.length + ([(IntKind.wrap .u8 s1.2)] : List Int).length)) (tr2 := []) (H2 := [.gone, vecL (encI .u8) 1 5 ([(IntKind.wrap .u8 s1.2)] : List Int), vecL (encI .u8) 1 5 ((s0.2.2 ++ ([(IntKind.wrap .u8 s1.2)] : List Int)))]) (by kernel_rfl) (roomB_of_room hm) (fun hc => N.app) (by kernel_rfl) ?_
       refine kC 1 [0,1,2,6,7,8,9] ?_
       refine kE ?_
       refine PJ.blockNormal ?_
       obtain rfl := oi h15
       refine kW (L2 := [(0, lsv (encI .u8) 1 x0), (1, lsv (encI .u8) 1 x1), (2, .bool x2), (6, .nl), (7, .vc 0), (8, .int .i64 s1.1), (9, .int .i64 s0.2.1)]) (H2 := [vecL (encI .u8) 1 5 ((s0.2.2 ++ ([(IntKind.wrap .u8 s1.2)] : List Int)))]) hFH hFD [2] ?_
       exact kN [0, 1, 2, 6, 7, 8, 9]
   ·refine kR ?_
    refine kC 3 [0,1,2,6,7,8,9] ?_
    refine kE ?_
    obtain rfl := oi h3
    exact kLN [0, 1, 2, 6, 7, 8, 9]
  ·refine kF ?_
   refine K.exit 0 (by kernel_rfl) ?_
   refine PJ.passExit ?_
   obtain rfl := oi h2
   refine PJ.loopOut (fun e => nomatch e) (fun he0 => ?_)
   have h16 := congrArg some he0
   refine PJ.blockOut ?_
   obtain rfl := oi h16
   exact kN [6, 7]
 ·refine kSR ?_
  refine kC 2 [6] ?_
  refine kEN ?_
  refine kX ?_
  obtain rfl := oi h0
  refine PJ.wk (Wk.freeze 0 (n := s5.length) (k := 1) (e := 5) (cs := s5.flatMap (encI .u8)) (by kernel_rfl)) ?_
  exact kZ hFn hFH hFD
def exergueref06_split (x0 : List Int) (x1 : List Int) : Option (Bool × (List Int) × (List Int)) :=
 (Option.bind (loopN (fun (s0 : (List Int) × Bool × Int) => (bif (decide (s0.2.2 ≥ 0)) then (Option.bind (bif inR s0.2.2 x0.length then (bif room (([(nth x0 s0.2.2)] : List Int).length + s0.1.length) then (loopN (fun (s1 : (List Int) × Bool × Int) => (bif (decide (s1.2.2 < 10)) then (Option.bind (Option.bind (exergueref06_Less s1.1 x1) fun y0 => (bif (!y0) then (Option.bind (exergueref06_Sum s1.1 x1 true) fun y1 => (some (y1, (!s1.2.1)))) else (some (s1.1, s1.2.1)))) fun (s3 : (List Int) × Bool) => (some (.inl (s3.1, s3.2, (IntKind.wrap .i64 (s1.2.2 + 1)))))) else (some (.inr (s1.1, s1.2.1))))) big ((([(nth x0 s0.2.2)] : List Int) ++ s0.1), false, 0)) else none) else none) fun (s4 : (List Int) × Bool) => (some (.inl (s4.1, s4.2, (IntKind.wrap .i64 (s0.2.2 - 1)))))) else (some (.inr (s0.1, s0.2.1))))) big (([] : List Int), false, (IntKind.wrap .i64 ((x0.length : Int) - 1)))) fun (s2 : (List Int) × Bool) => (Option.bind (exergueref06_Sum x0 s2.1 true) fun y2 => (some (s2.2, y2, s2.1))))
theorem exergueref06_split_ok {x0 : List Int} {x1 : List Int} {r : Bool × (List Int) × (List Int)} (h : exergueref06_split x0 x1 = some r) : SC Tryz.prog 99 [lsv (encI .u8) 1 x0, lsv (encI .u8) 1 x1] [] (.tup [.bool r.1, lsv (encI .u8) 1 r.2.1, lsv (encI .u8) 1 r.2.2]) [] := by
 refine kFn (fn := Tryz.f99) (fun F hFn hFH hFD => ?_)
 unfold exergueref06_split at h
 refine kSR ?_
 refine kC 3 [0,1,4,5,6] ?_
 refine kEN ?_
 refine kSR ?_
 refine kC 1 [0,1,4,5,6,7] ?_
 refine kEN ?_
 refine kSR ?_
 refine kC 1 [0,1,4,5,6,7,8] ?_
 refine kEN ?_
 obtain ⟨s2, hy0, h0⟩ := bindS h
 refine K.cutN (by kernel_rfl) (fun (s2 : (List Int) × Bool) => ([(0, lsv (encI .u8) 1 x0), (4, .bool false), (5, .nl), (6, .nl), (7, lsv (encI .u8) 1 s2.1), (8, .bool s2.2)], [])) s2 ?_ ?_
 ·refine kSR ?_
  refine kC 4 [0,1,4,5,6,7,8,9] ?_
  refine kEN ?_
  refine kb 0 ?_
  refine J.wk (Wk.le 7 (v := .nl) (v' := lsv (encI .u8) 1 []) (by kernel_rfl) (Le.nl _)) ?_
  refine kl (fun (s0 : (List Int) × Bool × Int) => ([(0, lsv (encI .u8) 1 x0), (1, lsv (encI .u8) 1 x1), (4, .bool false), (5, .nl), (6, .nl), (7, lsv (encI .u8) 1 s0.1), (8, .bool s0.2.1), (9, .int .i64 s0.2.2)], [])) hy0 [0, 1, 4, 5, 6, 7, 8, 9] (fun s0 x951 hs0 => ?_)
  refine kS ?_
  refine kSR ?_
  refine kC 2 [0,1,4,5,6,7,8,9,16] ?_
  refine kEN ?_
  refine kBJ 16 hs0 (fun h1 => ?_) (fun h2 => ?_)
  ·refine kT ?_
   refine kK ?_
   refine PJ.next ?_
   obtain ⟨s4, hy1, h3⟩ := bindS h1
   refine K.cutN (by kernel_rfl) (fun (s4 : (List Int) × Bool) => ([(0, lsv (encI .u8) 1 x0), (1, lsv (encI .u8) 1 x1), (4, .bool false), (5, .nl), (6, .nl), (7, lsv (encI .u8) 1 s4.1), (8, .bool s4.2), (9, .int .i64 s0.2.2)], [])) s4 ?_ ?_
   ·refine kb 1 ?_
    refine kSR ?_
    refine kC 2 [0,1,4,5,6,7,8,9,19,20] ?_
    obtain ⟨hm, h4⟩ := asrt hy1
    refine kI 21 (encI_len .u8) hm ?_
    refine kC 3 [0,1,4,5,6,7,8,9,23,24] ?_
    obtain ⟨hm, h5⟩ := asrt h4
    refine RJ.rel (d := (some 25)) (ef := ⟨.vc 1, [0], [(0, .gone), (1, .vec (([(nth x0 s0.2.2)] : List Int).length + s0.1.length) 1 5 (([(nth x0 s0.2.2)] : List Int).flatMap (encI .u8) ++ s0.1.flatMap (encI .u8)))]⟩) (ef' := ⟨.vc 1, [0], [(0, .gone), (1, vecL (encI .u8) 1 5 (([(nth x0 s0.2.2)] : List Int) ++ s0.1))]⟩) (c := roomB (([(nth x0 s0.2.2)] : List Int).length + s0.1.length)) (tr2 := []) (H2 := [.gone, vecL (encI .u8) 1 5 ((([(nth x0 s0.2.2)] : List Int) ++ s0.1))]) (by kernel_rfl) (roomB_of_room hm) (fun hc => N.app) (by kernel_rfl) ?_
    refine kC 1 [0,1,4,5,6,7,8,9] ?_
    refine kEN ?_
    refine kSR ?_
    refine kC 1 [0,1,4,5,6,7,8,9] ?_
    refine kEN ?_
    refine kSR ?_
    refine kC 1 [0,1,4,5,6,7,8,9,10] ?_
    refine kEN ?_
    refine kb 2 ?_
    refine J.wk (Wk.freeze 1 (n := ((([(nth x0 s0.2.2)] : List Int) ++ s0.1)).length) (k := 1) (e := 5) (cs := ((([(nth x0 s0.2.2)] : List Int) ++ s0.1)).flatMap (encI .u8)) (by kernel_rfl)) ?_
    refine J.wk (Wk.sel (L2 := [(0, lsv (encI .u8) 1 x0), (1, lsv (encI .u8) 1 x1), (4, .bool false), (5, .nl), (6, .nl), (7, lsv (encI .u8) 1 ((([(nth x0 s0.2.2)] : List Int) ++ s0.1))), (8, .bool false), (9, .int .i64 s0.2.2), (10, .int .i64 0)]) (H2 := []) 0 (by rw [hFH]; rfl) hFD [] (by kernel_rfl) (by kernel_rfl) (by decide) (by kernel_rfl) (by kernel_rfl) (by kernel_rfl) (by kernel_rfl)) ?_
    refine kl (fun (s1 : (List Int) × Bool × Int) => ([(0, lsv (encI .u8) 1 x0), (1, lsv (encI .u8) 1 x1), (4, .bool false), (5, .nl), (6, .nl), (7, lsv (encI .u8) 1 s1.1), (8, .bool s1.2.1), (9, .int .i64 s0.2.2), (10, .int .i64 s1.2.2)], [])) h5 [0, 1, 4, 5, 6, 7, 8, 9, 10] (fun s1 x1109 hs1 => ?_)
    refine kS ?_
    refine kSR ?_
    refine kC 2 [0,1,4,5,6,7,8,9,10,27] ?_
    refine kEN ?_
    refine kBJ 27 hs1 (fun h6 => ?_) (fun h7 => ?_)
    ·refine kT ?_
     refine kK ?_
     refine PJ.next ?_
     obtain ⟨s3, hy2, h8⟩ := bindS h6
     refine K.cutN (by kernel_rfl) (fun (s3 : (List Int) × Bool) => ([(0, lsv (encI .u8) 1 x0), (1, lsv (encI .u8) 1 x1), (4, .bool false), (5, .nl), (6, .nl), (7, lsv (encI .u8) 1 s3.1), (8, .bool s3.2), (9, .int .i64 s0.2.2), (10, .int .i64 s1.2.2)], [])) s3 ?_ ?_
     ·refine kb 3 ?_
      refine kSR ?_
      refine kC 2 [0,1,4,5,6,7,8,9,10,30,31] ?_
      obtain ⟨y0, hy3, h9⟩ := bindS hy2
      refine kA 32 (exergueref06_Less_ok hy3) ?_
      refine kC 1 [0,1,4,5,6,7,8,9,10,11] ?_
      refine kEN ?_
      refine kSR ?_
      refine kC 2 [0,1,4,5,6,7,8,9,10,34] ?_
      refine kEN ?_
      refine kBJ 34 h9 (fun h10 => ?_) (fun h11 => ?_)
      ·refine kT ?_
       refine kSR ?_
       refine kC 2 [0,1,4,5,6,7,8,9,10,35,36] ?_
       obtain ⟨y1, hy4, h12⟩ := bindS h10
       refine kA 37 (exergueref06_Sum_ok hy4) ?_
       refine kC 1 [0,1,4,5,6,7,8,9,10] ?_
       refine kEN ?_
       refine kR ?_
       refine kC 3 [0,1,4,5,6,7,8,9,10] ?_
       refine kE ?_
       refine PJ.blockNormal ?_
       obtain rfl := oi h12
       exact kN [0, 1, 4, 5, 6, 7, 8, 9, 10]
      ·refine kF ?_
       refine kK ?_
       refine PJ.blockNormal ?_
       obtain rfl := oi h11
       exact kN [0, 1, 4, 5, 6, 7, 8, 9, 10]
     ·refine kR ?_
      refine kC 3 [0,1,4,5,6,7,8,9,10] ?_
      refine kE ?_
      obtain rfl := oi h8
      exact kLN [0, 1, 4, 5, 6, 7, 8, 9, 10]
    ·refine kF ?_
     refine K.exit 2 (by kernel_rfl) ?_
     refine PJ.passExit ?_
     obtain rfl := oi h7
     refine PJ.loopOut (fun e => nomatch e) (fun he0 => ?_)
     have h13 := congrArg some he0
     refine PJ.blockOut ?_
     refine PJ.blockNormal ?_
     obtain rfl := oi h13
     exact kN [0, 1, 4, 5, 6, 7, 8, 9]
   ·refine kR ?_
    refine kC 3 [0,1,4,5,6,7,8,9] ?_
    refine kE ?_
    obtain rfl := oi h3
    exact kLN [0, 1, 4, 5, 6, 7, 8, 9]
  ·refine kF ?_
   refine K.exit 0 (by kernel_rfl) ?_
   refine PJ.passExit ?_
   obtain rfl := oi h2
   refine PJ.loopOut (fun e => nomatch e) (fun he1 => ?_)
   have h14 := congrArg some he1
   refine PJ.blockOut ?_
   obtain rfl := oi h14
   exact kN [0, 4, 5, 6, 7, 8]
 ·refine kSR ?_
  refine kC 3 [4,5,6,7,40,41,42] ?_
  obtain ⟨y2, hy5, h15⟩ := bindS h0
  refine kA 43 (exergueref06_Sum_ok hy5) ?_
  refine kC 4 [4,5,6] ?_
  refine kEN ?_
  refine kX ?_
  obtain rfl := oi h15
  exact kZ hFn hFH hFD
def exergueref06_nought (x0 : List Int) : Option (Bool) :=
 (Option.bind (loopN (fun (s0 : Int) => (bif (decide (s0 < (x0.length : Int))) then (bif inR s0 x0.length then (bif (decide ((nth x0 s0) > 0)) then (some (.inr (.inr false))) else (some (.inl (IntKind.wrap .i64 (s0 + 1))))) else none) else (some (.inr (.inl ()))))) big 0) (joinX fun (s1 : Unit) => (some true)))
theorem exergueref06_nought_ok {x0 : List Int} {r : Bool} (h : exergueref06_nought x0 = some r) : SC Tryz.prog 100 [lsv (encI .u8) 1 x0] [] (.bool r) [] := by
 refine kFn (fn := Tryz.f100) (fun F hFn hFH hFD => ?_)
 unfold exergueref06_nought at h
 refine kSR ?_
 refine kC 1 [0,2] ?_
 refine kEN ?_
 obtain ⟨y0, hy0, h0⟩ := bindS h
 refine K.cutX (by kernel_rfl) (fun (s1 : Unit) => ([(2, .bool false)], [])) y0 ?_ (fun s1 hs => ?_)
 ·refine kSR ?_
  refine kC 1 [0,2,3] ?_
  refine kEN ?_
  refine kb 0 ?_
  refine kl (fun (s0 : Int) => ([(0, lsv (encI .u8) 1 x0), (2, .bool false), (3, .int .i64 s0)], [])) hy0 [0, 2, 3] (fun s0 x71 hs0 => ?_)
  refine kS ?_
  refine kSR ?_
  refine kC 4 [0,2,3,7] ?_
  refine kEN ?_
  refine kBJ 7 hs0 (fun h1 => ?_) (fun h2 => ?_)
  ·refine kT ?_
   refine kK ?_
   refine PJ.next ?_
   refine kS ?_
   refine kb 1 ?_
   refine kSR ?_
   refine kC 2 [0,2,3,10,11] ?_
   obtain ⟨hm, h3⟩ := asrt h1
   refine kI 12 (encI_len .u8) hm ?_
   refine kC 2 [0,2,3,14] ?_
   refine kEN ?_
   refine kBJ 14 h3 (fun h4 => ?_) (fun h5 => ?_)
   ·refine kT ?_
    refine kSR ?_
    refine kC 1 [0,2,3] ?_
    refine kEN ?_
    refine kX ?_
    refine PJ.blockRet ?_
    refine PJ.passRet ?_
    obtain rfl := oi h4
    refine PJ.loopOut (fun e => nomatch e) (fun he0 => ?_)
    have h6 := congrArg some he0
    refine PJ.blockRet ?_
    obtain rfl := oi h6
    have h7 := joinX_inr h0
    refine PJ.cutXr (fun e => nomatch e) ?_
    obtain rfl := oi h7
    exact kZ hFn hFH hFD
   ·refine kF ?_
    refine kK ?_
    refine PJ.blockNormal ?_
    refine PJ.next ?_
    refine kR ?_
    refine kC 3 [0,2,3] ?_
    refine kE ?_
    obtain rfl := oi h5
    exact kLN [0, 2, 3]
  ·refine kF ?_
   refine K.exit 0 (by kernel_rfl) ?_
   refine PJ.passExit ?_
   obtain rfl := oi h2
   refine PJ.loopOut (fun e => nomatch e) (fun he1 => ?_)
   have h8 := congrArg some he1
   refine PJ.blockOut ?_
   obtain rfl := oi h8
   exact kXl [2]
 ·subst hs
  have h9 := joinX_inl h0
  refine kSR ?_
  refine kC 1 [2] ?_
  refine kEN ?_
  refine kX ?_
  obtain rfl := oi h9
  exact kZ hFn hFH hFD
def exergueref06_farther (x0 : Int) (x1 : Bool) (x2 : Bool) (x3 : Bool) (x4 : Bool) : Option (Bool) :=
 (bif (decide (x0 = 0)) then (some true) else (bif (decide (x0 = 1)) then (some false) else (bif (decide (x0 = 2)) then (some (!x1)) else (bif (decide (x0 = 3)) then (some x1) else (bif (decide (x0 = 4)) then (some (!x3)) else (bif (decide (x0 = 5)) then (some x4) else (bif (decide (x0 = 6)) then (Option.bind (bif x4 then (some true) else (bif (!x3) then (some x2) else (some false))) fun (s0 : Bool) => (some s0)) else (Option.bind (bif x4 then (some true) else (bif (!x3) then (some (!x2)) else (some false))) fun (s1 : Bool) => (some s1)))))))))
theorem exergueref06_farther_ok {x0 : Int} {x1 : Bool} {x2 : Bool} {x3 : Bool} {x4 : Bool} {r : Bool} (h : exergueref06_farther x0 x1 x2 x3 x4 = some r) : SC Tryz.prog 103 [.int .i64 x0, .bool x1, .bool x2, .bool x3, .bool x4] [] (.bool r) [] := by
 refine kFn (fn := Tryz.f103) (fun F hFn hFH hFD => ?_)
 unfold exergueref06_farther at h
 refine kSR ?_
 refine kC 1 [0,1,2,3,4,10] ?_
 refine kEN ?_
 refine kS ?_
 refine kSR ?_
 refine kC 1 [1,2,3,4,10,11] ?_
 refine kEN ?_
 refine kb 0 ?_
 refine kSR ?_
 refine kC 2 [1,2,3,4,10,11,12] ?_
 refine kEN ?_
 refine kBJ 12 h (fun h0 => ?_) (fun h1 => ?_)
 ·refine kT ?_
  refine kSR ?_
  refine kC 1 [2,3,4,10] ?_
  refine kEN ?_
  refine kX ?_
  refine PJ.blockRet ?_
  refine PJ.passRet ?_
  obtain rfl := oi h0
  exact kZ hFn hFH hFD
 ·refine kF ?_
  refine kSR ?_
  refine kC 2 [1,2,3,4,10,11,14] ?_
  refine kEN ?_
  refine kBJ 14 h1 (fun h2 => ?_) (fun h3 => ?_)
  ·refine kT ?_
   refine kSR ?_
   refine kC 1 [2,3,4,10] ?_
   refine kEN ?_
   refine kX ?_
   refine PJ.blockRet ?_
   refine PJ.passRet ?_
   obtain rfl := oi h2
   exact kZ hFn hFH hFD
  ·refine kF ?_
   refine kSR ?_
   refine kC 2 [1,2,3,4,10,11,16] ?_
   refine kEN ?_
   refine kBJ 16 h3 (fun h4 => ?_) (fun h5 => ?_)
   ·refine kT ?_
    refine kSR ?_
    refine kC 3 [2,3,4,10] ?_
    refine kEN ?_
    refine kX ?_
    refine PJ.blockRet ?_
    refine PJ.passRet ?_
    obtain rfl := oi h4
    exact kZ hFn hFH hFD
   ·refine kF ?_
    refine kSR ?_
    refine kC 2 [1,2,3,4,10,11,20] ?_
    refine kEN ?_
    refine kBJ 20 h5 (fun h6 => ?_) (fun h7 => ?_)
    ·refine kT ?_
     refine kSR ?_
     refine kC 2 [2,3,4,10] ?_
     refine kEN ?_
     refine kX ?_
     refine PJ.blockRet ?_
     refine PJ.passRet ?_
     obtain rfl := oi h6
     exact kZ hFn hFH hFD
    ·refine kF ?_
     refine kSR ?_
     refine kC 2 [2,3,4,10,11,23] ?_
     refine kEN ?_
     refine kBJ 23 h7 (fun h8 => ?_) (fun h9 => ?_)
     ·refine kT ?_
      refine kSR ?_
      refine kC 3 [2,3,4,10] ?_
      refine kEN ?_
      refine kX ?_
      refine PJ.blockRet ?_
      refine PJ.passRet ?_
      obtain rfl := oi h8
      exact kZ hFn hFH hFD
     ·refine kF ?_
      refine kSR ?_
      refine kC 2 [2,3,4,10,11,27] ?_
      refine kEN ?_
      refine kBJ 27 h9 (fun h10 => ?_) (fun h11 => ?_)
      ·refine kT ?_
       refine kSR ?_
       refine RJ.seg 2 [2, 3, 4, 10] (L2 := [(2, .bool x2), (3, .bool x3), (4, .bool x4), (10, .bool x4)]) (H2 := []) (by kernel_rfl) ?_
       refine kEN ?_
       refine kX ?_
       refine PJ.blockRet ?_
       refine PJ.passRet ?_
       obtain rfl := oi h10
       exact kZ hFn hFH hFD
      ·refine kF ?_
       refine kSR ?_
       refine RJ.seg 2 [2, 3, 4, 10, 30] (L2 := [(2, .bool x2), (3, .bool x3), (4, .bool x4), (10, .bool false), (30, .bool (decide (x0 = 6)))]) (H2 := []) (by kernel_rfl) ?_
       refine kEN ?_
       refine kBJ 30 h11 (fun h12 => ?_) (fun h13 => ?_)
       ·refine kT ?_
        obtain ⟨s0, hy0, h14⟩ := bindS h12
        refine K.cutN (by kernel_rfl) (fun (s0 : Bool) => ([(2, .bool x2), (3, .bool x3), (4, .bool x4), (10, .bool s0)], [])) s0 ?_ ?_
        ·refine kR ?_
         refine kC 2 [2,3,4,10,33] ?_
         refine kB 33 hy0 (fun h15 => ?_) (fun h16 => ?_)
         ·refine kC 7 [2,3,4,10] ?_
          refine kE ?_
          obtain rfl := oi h15
          exact kN [2, 3, 4, 10]
         ·refine kC 3 [2,3,4,10,33,36] ?_
          refine kB 36 h16 (fun h17 => ?_) (fun h18 => ?_)
          ·refine kC 4 [2,3,4,10] ?_
           refine kE ?_
           obtain rfl := oi h17
           exact kN [2, 3, 4, 10]
          ·refine kC 4 [2,3,4,10] ?_
           refine kE ?_
           obtain rfl := oi h18
           exact kN [2, 3, 4, 10]
        ·refine kX ?_
         refine PJ.blockRet ?_
         refine PJ.passRet ?_
         obtain rfl := oi h14
         exact kZ hFn hFH hFD
       ·refine kF ?_
        refine kK ?_
        refine PJ.blockNormal ?_
        refine PJ.next ?_
        obtain ⟨s1, hy1, h19⟩ := bindS h13
        refine K.cutN (by kernel_rfl) (fun (s1 : Bool) => ([(10, .bool s1)], [])) s1 ?_ ?_
        ·refine kR ?_
         refine kC 2 [2,3,10,41] ?_
         refine kB 41 hy1 (fun h20 => ?_) (fun h21 => ?_)
         ·refine kC 8 [10] ?_
          refine kE ?_
          obtain rfl := oi h20
          exact kN [10]
         ·refine kC 3 [2,10,41,44] ?_
          refine kB 44 h21 (fun h22 => ?_) (fun h23 => ?_)
          ·refine kC 5 [10] ?_
           refine kE ?_
           obtain rfl := oi h22
           exact kN [10]
          ·refine kC 5 [10] ?_
           refine kE ?_
           obtain rfl := oi h23
           exact kN [10]
        ·refine kX ?_
         obtain rfl := oi h19
         exact kZ hFn hFH hFD
def exergueref05_Norm (x0 : Bool) (x1 : List Int) (x2 : Int) : Option (St28 × Int) :=
 (Option.bind (loopN (fun (s1 : Int × Int × Int) => (bif (decide (s1.2.2 < (x1.length : Int))) then (Option.bind (bif inR s1.2.2 x1.length then (bif (decide ((nth x1 s1.2.2) > 9)) then (some (.inr (.inr (.inr ((⟨false, ([] : List Int), 0⟩ : St28), 1))))) else (bif inR s1.2.2 x1.length then (bif (decide ((nth x1 s1.2.2) > 0)) then (bif (decide (s1.1 < 0)) then (some (.inl (s1.2.2, s1.2.2))) else (some (.inl (s1.1, s1.2.2)))) else (some (.inl (s1.1, s1.2.1)))) else none)) else none) (joinX fun (s2 : Int × Int) => (some (.inl (s2.1, s2.2, (IntKind.wrap .i64 (s1.2.2 + 1))))))) else (some (.inr (.inl (s1.1, s1.2.1)))))) big ((-1), (-1), 0)) (joinX fun (s0 : Int × Int) => (Option.bind (Option.bind (bif (decide (x2 < (-1099511627776))) then (some true) else (some (decide (x2 > 1099511627776)))) fun (s3 : Bool) => (bif s3 then (some (.inr ((⟨false, ([] : List Int), 0⟩ : St28), 11))) else (some (.inl ())))) (joinX fun (s4 : Unit) => (bif (decide (s0.1 < 0)) then (some ((⟨x0, ([] : List Int), 0⟩ : St28), 0)) else (bif inS s0.1 (IntKind.wrap .i64 (s0.2 + 1)) x1.length then (Option.bind (exergueref05_Right ((⟨x0, (cut x1 s0.1 (IntKind.wrap .i64 (s0.2 + 1))), (IntKind.wrap .i64 (((IntKind.wrap .i64 (((IntKind.wrap .i64 (x2 + (x1.length : Int)))) - 1))) - s0.2))⟩ : St28))) fun y0 => (bif (!y0) then (some ((⟨false, ([] : List Int), 0⟩ : St28), 11)) else (some ((⟨x0, (cut x1 s0.1 (IntKind.wrap .i64 (s0.2 + 1))), (IntKind.wrap .i64 (((IntKind.wrap .i64 (((IntKind.wrap .i64 (x2 + (x1.length : Int)))) - 1))) - s0.2))⟩ : St28), 0)))) else none))))))
theorem exergueref05_Norm_ok {x0 : Bool} {x1 : List Int} {x2 : Int} {r : St28 × Int} (h : exergueref05_Norm x0 x1 x2 = some r) : SC Tryz.prog 54 [.bool x0, lsv (encI .u8) 1 x1, .int .i64 x2] [] (.tup [.agg (encSt28 r.1), .int .i64 r.2]) [] := by
 refine kFn (fn := Tryz.f54) (fun F hFn hFH hFD => ?_)
 unfold exergueref05_Norm at h
 refine kSR ?_
 refine kC 2 [0,1,2,6,7] ?_
 refine kEN ?_
 refine kSR ?_
 refine kC 1 [0,1,2,6,7,8] ?_
 refine kEN ?_
 refine kSR ?_
 refine kC 1 [0,1,2,6,7,8,9] ?_
 refine kEN ?_
 obtain ⟨y1, hy0, h0⟩ := bindS h
 refine K.cutX (by kernel_rfl) (fun (s0 : Int × Int) => ([(0, .bool x0), (1, lsv (encI .u8) 1 x1), (2, .int .i64 x2), (6, .ptr 0 0), (7, .int .i64 0), (8, .int .i64 s0.1), (9, .int .i64 s0.2)], [.box [.bool false, .nl, .int .i64 0]])) y1 ?_ (fun s0 hs => ?_)
 ·refine kSR ?_
  refine kC 1 [0,1,2,6,7,8,9,10] ?_
  refine kEN ?_
  refine kb 0 ?_
  refine kl (fun (s1 : Int × Int × Int) => ([(0, .bool x0), (1, lsv (encI .u8) 1 x1), (2, .int .i64 x2), (6, .ptr 0 0), (7, .int .i64 0), (8, .int .i64 s1.1), (9, .int .i64 s1.2.1), (10, .int .i64 s1.2.2)], [.box [.bool false, .nl, .int .i64 0]])) hy0 [0, 1, 2, 6, 7, 8, 9, 10] (fun s1 x211 hs0 => ?_)
  refine kS ?_
  refine kSR ?_
  refine kC 4 [0,1,2,6,7,8,9,10,16] ?_
  refine kEN ?_
  refine kBJ 16 hs0 (fun h3 => ?_) (fun h4 => ?_)
  ·refine kT ?_
   refine kK ?_
   refine PJ.next ?_
   obtain ⟨y2, hy1, h1⟩ := bindS h3
   refine K.cutX (by kernel_rfl) (fun (s2 : Int × Int) => ([(0, .bool x0), (1, lsv (encI .u8) 1 x1), (2, .int .i64 x2), (6, .ptr 0 0), (7, .int .i64 0), (8, .int .i64 s2.1), (9, .int .i64 s2.2), (10, .int .i64 s1.2.2)], [.box [.bool false, .nl, .int .i64 0]])) y2 ?_ (fun s2 hs => ?_)
   ·refine kb 1 ?_
    refine kS ?_
    refine kSR ?_
    refine kC 2 [0,1,2,6,7,8,9,10,19,20] ?_
    obtain ⟨hm, h5⟩ := asrt hy1
    refine kI 21 (encI_len .u8) hm ?_
    refine kC 2 [0,1,2,6,7,8,9,10,23] ?_
    refine kEN ?_
    refine kBJ 23 h5 (fun h6 => ?_) (fun h7 => ?_)
    ·refine kT ?_
     refine kSR ?_
     refine kC 3 [0,1,2,6,7,8,9,10] ?_
     refine kEN ?_
     refine kX ?_
     refine PJ.passRet ?_
     refine PJ.blockRet ?_
     obtain rfl := oi h6
     have h8 := joinX_inr h1
     refine PJ.cutXr (fun e => nomatch e) ?_
     obtain rfl := oi h8
     refine PJ.loopOut (fun e => nomatch e) (fun he0 => ?_)
     have h9 := congrArg some he0
     refine PJ.blockRet ?_
     obtain rfl := oi h9
     have h10 := joinX_inr h0
     refine PJ.cutXr (fun e => nomatch e) ?_
     obtain rfl := oi h10
     refine PJ.res (v1 := .tup [.agg [.bool false, .nl, .int .i64 0], .int .i64 1]) (Le.tup (.cons (Le.agg (.cons (Le.refl _) (.cons (Le.nl _) (.cons (Le.refl _) .nil)))) (.cons (Le.refl _) .nil))) ?_
     exact kZ hFn hFH hFD
    ·refine kF ?_
     refine kK ?_
     refine PJ.next ?_
     refine kSR ?_
     refine kC 2 [0,1,2,6,7,8,9,10,25,26] ?_
     obtain ⟨hm, h11⟩ := asrt h7
     refine kI 27 (encI_len .u8) hm ?_
     refine kC 2 [0,1,2,6,7,8,9,10,29] ?_
     refine kEN ?_
     refine kBJ 29 h11 (fun h12 => ?_) (fun h13 => ?_)
     ·refine kT ?_
      refine kSR ?_
      refine kC 2 [0,1,2,6,7,8,9,10] ?_
      refine kEN ?_
      refine kSR ?_
      refine kC 2 [0,1,2,6,7,8,9,10,32] ?_
      refine kEN ?_
      refine kBJ 32 h12 (fun h14 => ?_) (fun h15 => ?_)
      ·refine kT ?_
       refine kR ?_
       refine kC 2 [0,1,2,6,7,8,9,10] ?_
       refine kE ?_
       refine PJ.blockNormal ?_
       obtain rfl := oi h14
       exact kXl [0, 1, 2, 6, 7, 8, 9, 10]
      ·refine kF ?_
       refine kK ?_
       refine PJ.blockNormal ?_
       obtain rfl := oi h15
       exact kXl [0, 1, 2, 6, 7, 8, 9, 10]
     ·refine kF ?_
      refine kK ?_
      refine PJ.blockNormal ?_
      obtain rfl := oi h13
      exact kXl [0, 1, 2, 6, 7, 8, 9, 10]
   ·subst hs
    have h16 := joinX_inl h1
    refine kR ?_
    refine kC 3 [0,1,2,6,7,8,9,10] ?_
    refine kE ?_
    obtain rfl := oi h16
    exact kLN [0, 1, 2, 6, 7, 8, 9, 10]
  ·refine kF ?_
   refine K.exit 0 (by kernel_rfl) ?_
   refine PJ.passExit ?_
   obtain rfl := oi h4
   refine PJ.loopOut (fun e => nomatch e) (fun he1 => ?_)
   have h17 := congrArg some he1
   refine PJ.blockOut ?_
   obtain rfl := oi h17
   exact kXl [0, 1, 2, 6, 7, 8, 9]
 ·subst hs
  have h18 := joinX_inl h0
  obtain ⟨y3, hy2, h2⟩ := bindS h18
  refine K.cutX (by kernel_rfl) (fun (s4 : Unit) => ([(0, .bool x0), (1, lsv (encI .u8) 1 x1), (2, .int .i64 x2), (6, .ptr 0 0), (7, .int .i64 0), (8, .int .i64 s0.1), (9, .int .i64 s0.2)], [.box [.bool false, .nl, .int .i64 0]])) y3 ?_ (fun s4 hs => ?_)
  ·obtain ⟨s3, hy3, h19⟩ := bindS hy2
   refine K.cutN (by kernel_rfl) (fun (s3 : Bool) => ([(0, .bool x0), (1, lsv (encI .u8) 1 x1), (2, .int .i64 x2), (6, .ptr 0 0), (7, .int .i64 0), (8, .int .i64 s0.1), (9, .int .i64 s0.2), (39, .bool s3)], [.box [.bool false, .nl, .int .i64 0]])) s3 ?_ ?_
   ·refine kR ?_
    refine kC 3 [0,1,2,6,7,8,9,36] ?_
    refine kB 36 hy3 (fun h20 => ?_) (fun h21 => ?_)
    ·refine kC 3 [0,1,2,6,7,8,9,39] ?_
     refine kE ?_
     obtain rfl := oi h20
     exact kN [0, 1, 2, 6, 7, 8, 9, 39]
    ·refine kC 3 [0,1,2,6,7,8,9,39] ?_
     refine kE ?_
     obtain rfl := oi h21
     exact kN [0, 1, 2, 6, 7, 8, 9, 39]
   ·refine kBJ 39 h19 (fun h22 => ?_) (fun h23 => ?_)
    ·refine kT ?_
     refine kSR ?_
     refine kC 3 [0,1,2,6,7,8,9] ?_
     refine kEN ?_
     refine kX ?_
     obtain rfl := oi h22
     have h24 := joinX_inr h2
     refine PJ.cutXr (fun e => nomatch e) ?_
     obtain rfl := oi h24
     refine PJ.res (v1 := .tup [.agg [.bool false, .nl, .int .i64 0], .int .i64 11]) (Le.tup (.cons (Le.agg (.cons (Le.refl _) (.cons (Le.nl _) (.cons (Le.refl _) .nil)))) (.cons (Le.refl _) .nil))) ?_
     exact kZ hFn hFH hFD
    ·refine kF ?_
     refine kK ?_
     obtain rfl := oi h23
     exact kXl [0, 1, 2, 6, 7, 8, 9]
  ·subst hs
   have h25 := joinX_inl h2
   refine kS ?_
   refine kSR ?_
   refine kC 2 [0,1,2,6,7,8,9,42] ?_
   refine kEN ?_
   refine kBJ 42 h25 (fun h26 => ?_) (fun h27 => ?_)
   ·refine kT ?_
    refine kSR ?_
    refine kC 4 [0,1,2,6,7,8,9] ?_
    refine kEN ?_
    refine kX ?_
    refine PJ.passRet ?_
    obtain rfl := oi h26
    refine PJ.res (v1 := .tup [.agg [.bool x0, .nl, .int .i64 0], .int .i64 0]) (Le.tup (.cons (Le.agg (.cons (Le.refl _) (.cons (Le.nl _) (.cons (Le.refl _) .nil)))) (.cons (Le.refl _) .nil))) ?_
    exact kZ hFn hFH hFD
   ·refine kF ?_
    refine kK ?_
    refine PJ.next ?_
    refine kSR ?_
    refine kC 5 [1,2,6,7,9,45,46,47,49] ?_
    obtain ⟨hm, h28⟩ := asrt h27
    refine RJ.rel (d := (some 50)) (ef := ⟨.lst (((IntKind.wrap .i64 (s0.2 + 1)) : Int).toNat - (s0.1 : Int).toNat) 1 (((x1.flatMap (encI .u8)).take (((IntKind.wrap .i64 (s0.2 + 1)) : Int).toNat * 1)).drop ((s0.1 : Int).toNat * 1)), [], []⟩) (ef' := ⟨.lst (cut x1 s0.1 (IntKind.wrap .i64 (s0.2 + 1))).length 1 ((cut x1 s0.1 (IntKind.wrap .i64 (s0.2 + 1))).flatMap (encI .u8)), [], []⟩) (c := inS s0.1 (IntKind.wrap .i64 (s0.2 + 1)) x1.length) (tr2 := []) (H2 := [.box [.bool false, .nl, .int .i64 0]]) (by kernel_rfl) hm (fun hc => N.slice (encI_len .u8) hc) (by kernel_rfl) ?_
    refine kC 10 [6,7,11] ?_
    refine kEN ?_
    refine kSR ?_
    refine kC 1 [6,7,11,59] ?_
    obtain ⟨y0, hy4, h29⟩ := bindS h28
    refine kA 60 (exergueref05_Right_ok hy4) ?_
    refine kC 1 [6,7,11,12] ?_
    refine kEN ?_
    refine kS ?_
    refine kSR ?_
    refine kC 2 [6,7,11,62] ?_
    refine kEN ?_
    refine kBJ 62 h29 (fun h30 => ?_) (fun h31 => ?_)
    ·refine kT ?_
     refine kSR ?_
     refine kC 3 [6,7,11] ?_
     refine kEN ?_
     refine kX ?_
     refine PJ.passRet ?_
     obtain rfl := oi h30
     refine PJ.res (v1 := .tup [.agg [.bool false, .nl, .int .i64 0], .int .i64 11]) (Le.tup (.cons (Le.agg (.cons (Le.refl _) (.cons (Le.nl _) (.cons (Le.refl _) .nil)))) (.cons (Le.refl _) .nil))) ?_
     exact kZ hFn hFH hFD
    ·refine kF ?_
     refine kK ?_
     refine PJ.next ?_
     refine kSR ?_
     refine kC 3 [6,7] ?_
     refine kEN ?_
     refine kX ?_
     obtain rfl := oi h31
     exact kZ hFn hFH hFD
def exergueref06_whole (x0 : Bool) (x1 : List Int) (x2 : Int) : Option (St28 × Int) :=
 (Option.bind (loopN (fun (s0 : Int × (List Int)) => (bif (decide (s0.1 ≥ 0)) then (bif inR s0.1 x1.length then (bif room (s0.2.length + ([(nth x1 s0.1)] : List Int).length) then (some (.inl ((IntKind.wrap .i64 (s0.1 - 1)), (s0.2 ++ ([(nth x1 s0.1)] : List Int))))) else none) else none) else (some (.inr s0.2)))) big ((IntKind.wrap .i64 ((x1.length : Int) - 1)), ([] : List Int))) fun (s1 : (List Int)) => (Option.bind (exergueref05_Norm x0 s1 x2) fun y0 => (some (y0.1, y0.2))))
theorem exergueref06_whole_ok {x0 : Bool} {x1 : List Int} {x2 : Int} {r : St28 × Int} (h : exergueref06_whole x0 x1 x2 = some r) : SC Tryz.prog 104 [.bool x0, lsv (encI .u8) 1 x1, .int .i64 x2] [] (.tup [.agg (encSt28 r.1), .int .i64 r.2]) [] := by
 refine kFn (fn := Tryz.f104) (fun F hFn hFH hFD => ?_)
 unfold exergueref06_whole at h
 refine kSR ?_
 refine kC 2 [0,1,2,6,7] ?_
 refine kEN ?_
 refine kSR ?_
 refine kC 1 [0,1,2,6,7,8] ?_
 refine kEN ?_
 obtain ⟨s1, hy0, h0⟩ := bindS h
 refine K.cutN (by kernel_rfl) (fun (s1 : (List Int)) => ([(0, .bool x0), (2, .int .i64 x2), (6, .ptr 0 0), (7, .int .i64 0), (8, .vc 1)], [.box [.bool false, .nl, .int .i64 0], vecL (encI .u8) 1 5 s1])) s1 ?_ ?_
 ·refine kSR ?_
  refine kC 4 [0,1,2,6,7,8,9] ?_
  refine kEN ?_
  refine kb 0 ?_
  refine J.wk (Wk.viv 8 1 5 (by kernel_rfl)) ?_
  refine kl (fun (s0 : Int × (List Int)) => ([(0, .bool x0), (1, lsv (encI .u8) 1 x1), (2, .int .i64 x2), (6, .ptr 0 0), (7, .int .i64 0), (8, .vc 1), (9, .int .i64 s0.1)], [.box [.bool false, .nl, .int .i64 0], vecL (encI .u8) 1 5 s0.2])) hy0 [0, 1, 2, 6, 7, 8, 9] (fun s0 x46 hs0 => ?_)
  refine kS ?_
  refine kSR ?_
  refine kC 2 [0,1,2,6,7,8,9,14] ?_
  refine kEN ?_
  refine kBJ 14 hs0 (fun h1 => ?_) (fun h2 => ?_)
  ·refine kT ?_
   refine kK ?_
   refine PJ.next ?_
   refine kS ?_
   refine kb 1 ?_
   refine kR ?_
   refine kC 3 [0,1,2,6,7,8,9,17,18,19] ?_
   obtain ⟨hm, h3⟩ := asrt h1
   refine kI 20 (encI_len .u8) hm ?_
   refine kC 2 [0,1,2,6,7,8,9,17,22] ?_
   obtain ⟨hm, h4⟩ := asrt h3
   refine RJ.rel (d := (some 23)) (ef := ⟨.vc 3, [1, 2], [(1, .gone), (3, .vec (s0.2.length + ([(nth x1 s0.1)] : List Int).length) 1 5 (s0.2.flatMap (encI .u8) ++ ([(nth x1 s0.1)] : List Int).flatMap (encI .u8)))]⟩) (ef' := ⟨.vc 3, [1, 2], [(1, .gone), (3, vecL (encI .u8) 1 5 (s0.2 ++ ([(nth x1 s0.1)] : List Int)))]⟩) (c := roomB (s0.2.length + ([(nth x1 s0.1)] : List Int).length)) (tr2 := []) (H2 := [.box [.bool false, .nl, .int .i64 0], .gone, vecL (encI .u8) 1 5 ([(nth x1 s0.1)] : List Int), vecL (encI .u8) 1 5 ((s0.2 ++ ([(nth x1 s0.1)] : List Int)))]) (by kernel_rfl) (roomB_of_room hm) (fun hc => N.app) (by kernel_rfl) ?_
   refine kC 1 [0,1,2,6,7,8,9] ?_
   refine kE ?_
   refine PJ.blockNormal ?_
   refine PJ.next ?_
   refine kR ?_
   refine kC 3 [0,1,2,6,7,8,9] ?_
   refine kE ?_
   obtain rfl := oi h4
   refine kW (L2 := [(0, .bool x0), (1, lsv (encI .u8) 1 x1), (2, .int .i64 x2), (6, .ptr 0 0), (7, .int .i64 0), (8, .vc 1), (9, .int .i64 (IntKind.wrap .i64 (s0.1 - 1)))]) (H2 := [.box [.bool false, .nl, .int .i64 0], vecL (encI .u8) 1 5 ((s0.2 ++ ([(nth x1 s0.1)] : List Int)))]) hFH hFD [0, 3] ?_
   exact kLN [0, 1, 2, 6, 7, 8, 9]
  ·refine kF ?_
   refine K.exit 0 (by kernel_rfl) ?_
   refine PJ.passExit ?_
   obtain rfl := oi h2
   refine PJ.loopOut (fun e => nomatch e) (fun he0 => ?_)
   have h5 := congrArg some he0
   refine PJ.blockOut ?_
   obtain rfl := oi h5
   exact kN [0, 2, 6, 7, 8]
 ·refine kSR ?_
  refine kC 3 [6,7,24,25,26] ?_
  obtain ⟨y0, hy1, h6⟩ := bindS h0
  refine RJ.wk (Wk.freeze 1 (n := s1.length) (k := 1) (e := 5) (cs := s1.flatMap (encI .u8)) (by kernel_rfl)) ?_
  refine kA 27 (exergueref05_Norm_ok hy1) ?_
  refine kC 4 [6,7] ?_
  refine kEN ?_
  refine kX ?_
  obtain rfl := oi h6
  exact kZ hFn hFH hFD
def exergueref06_Inc (x0 : St28) (x1 : Int) (x2 : Int) (x3 : Int) : Option (St28 × Int) :=
 (Option.bind (exergueref06_Unit x1 x2) fun y8 => (Option.bind (Option.bind (bif (decide (x3 < 0)) then (some true) else (bif (decide (x3 > 7)) then (some true) else (some (!y8)))) fun (s0 : Bool) => (bif s0 then (some (.inr ((⟨false, ([] : List Int), 0⟩ : St28), 1))) else (some (.inl ())))) (joinX fun (s1 : Unit) => (Option.bind (exergueref06_least x0 ((IntKind.wrap .i64 (x0.E_ - (minI x0.E_ x2))))) fun y9 => (Option.bind (exergueref06_from x1 ((IntKind.wrap .i64 (x2 - (minI x0.E_ x2))))) fun y1 => (Option.bind (exergueref06_split y9 y1) fun y0 => (Option.bind (exergueref06_nought y0.2.2) fun y4 => (bif y4 then (some (x0, 0)) else (Option.bind (exergueref06_Sum y0.2.2 y0.2.2 false) fun y5 => (Option.bind (exergueref06_Less y5 y1) fun y10 => (Option.bind (exergueref06_Less y1 y5) fun y11 => (Option.bind (exergueref06_farther x3 x0.Neg_ y0.1 y10 y11) fun y6 => (bif y6 then (Option.bind (exergueref06_Sum y0.2.1 y1 false) fun y3 => (Option.bind (exergueref06_whole x0.Neg_ y3 (minI x0.E_ x2)) fun y2 => (some (y2.1, y2.2)))) else (Option.bind (exergueref06_whole x0.Neg_ y0.2.1 (minI x0.E_ x2)) fun y7 => (some (y7.1, y7.2))))))))))))))))
theorem exergueref06_Inc_ok {x0 : St28} {x1 : Int} {x2 : Int} {x3 : Int} {r : St28 × Int} (h : exergueref06_Inc x0 x1 x2 x3 = some r) : SC Tryz.prog 67 [.agg (encSt28 x0), .int .i64 x1, .int .i64 x2, .int .i64 x3] [] (.tup [.agg (encSt28 r.1), .int .i64 r.2]) [] := by
 refine kFn (fn := Tryz.f67) (fun F hFn hFH hFD => ?_)
 unfold exergueref06_Inc at h
 refine kSR ?_
 refine kC 3 [1,2,3,4,8,9] ?_
 refine kEN ?_
 refine kSR ?_
 refine kC 2 [1,2,3,4,8,9,22,23] ?_
 obtain ⟨y8, hy0, h1⟩ := bindS h
 refine kA 24 (exergueref06_Unit_ok hy0) ?_
 refine kC 1 [1,2,3,4,8,9,10] ?_
 refine kEN ?_
 obtain ⟨y12, hy1, h0⟩ := bindS h1
 refine K.cutX (by kernel_rfl) (fun (s1 : Unit) => ([(1, .int .i64 x1), (2, .int .i64 x2), (3, .int .i64 x3), (4, .ptr 0 0), (8, .ptr 1 0), (9, .int .i64 0)], [.box (encSt28 x0), .box [.bool false, .nl, .int .i64 0]])) y12 ?_ (fun s1 hs => ?_)
 ·obtain ⟨s0, hy2, h2⟩ := bindS hy1
  refine K.cutN (by kernel_rfl) (fun (s0 : Bool) => ([(1, .int .i64 x1), (2, .int .i64 x2), (3, .int .i64 x3), (4, .ptr 0 0), (8, .ptr 1 0), (9, .int .i64 0), (34, .bool s0)], [.box (encSt28 x0), .box [.bool false, .nl, .int .i64 0]])) s0 ?_ ?_
  ·refine kR ?_
   refine kC 3 [1,2,3,4,8,9,10,27] ?_
   refine kB 27 hy2 (fun h3 => ?_) (fun h4 => ?_)
   ·refine kC 7 [1,2,3,4,8,9,34] ?_
    refine kE ?_
    obtain rfl := oi h3
    exact kN [1, 2, 3, 4, 8, 9, 34]
   ·refine kC 4 [1,2,3,4,8,9,10,31] ?_
    refine kB 31 h4 (fun h5 => ?_) (fun h6 => ?_)
    ·refine kC 3 [1,2,3,4,8,9,34] ?_
     refine kE ?_
     obtain rfl := oi h5
     exact kN [1, 2, 3, 4, 8, 9, 34]
    ·refine kC 3 [1,2,3,4,8,9,34] ?_
     refine kE ?_
     obtain rfl := oi h6
     exact kN [1, 2, 3, 4, 8, 9, 34]
  ·refine kBJ 34 h2 (fun h7 => ?_) (fun h8 => ?_)
   ·refine kT ?_
    refine kSR ?_
    refine kC 3 [1,2,3,4,8,9] ?_
    refine kEN ?_
    refine kX ?_
    obtain rfl := oi h7
    have h9 := joinX_inr h0
    refine PJ.cutXr (fun e => nomatch e) ?_
    obtain rfl := oi h9
    refine PJ.res (v1 := .tup [.agg [.bool false, .nl, .int .i64 0], .int .i64 1]) (Le.tup (.cons (Le.agg (.cons (Le.refl _) (.cons (Le.nl _) (.cons (Le.refl _) .nil)))) (.cons (Le.refl _) .nil))) ?_
    exact kZ hFn hFH hFD
   ·refine kF ?_
    refine kK ?_
    obtain rfl := oi h8
    exact kXl [1, 2, 3, 4, 8, 9]
 ·subst hs
  have h10 := joinX_inl h0
  refine kSR ?_
  refine kC 5 [1,2,3,4,8,9,11] ?_
  refine kEN ?_
  refine kSR ?_
  refine kC 5 [1,2,3,4,8,9,11,40,44] ?_
  obtain ⟨y9, hy3, h11⟩ := bindS h10
  refine kA 45 (exergueref06_least_ok hy3) ?_
  refine kC 1 [1,2,3,4,8,9,11,12] ?_
  refine kEN ?_
  refine kSR ?_
  refine kC 4 [3,4,8,9,11,12,46,49] ?_
  obtain ⟨y1, hy4, h12⟩ := bindS h11
  refine kA 50 (exergueref06_from_ok hy4) ?_
  refine kC 1 [3,4,8,9,11,12,13] ?_
  refine kEN ?_
  refine kSR ?_
  refine kC 2 [3,4,8,9,11,13,52,53] ?_
  obtain ⟨y0, hy5, h13⟩ := bindS h12
  refine kA 54 (exergueref06_split_ok hy5) ?_
  refine kC 7 [3,4,8,9,11,13,14,15,16] ?_
  refine kEN ?_
  refine kSR ?_
  refine kC 1 [3,4,8,9,11,13,14,15,16,58] ?_
  obtain ⟨y4, hy6, h14⟩ := bindS h13
  refine kA 59 (exergueref06_nought_ok hy6) ?_
  refine RJ.seg 1 [3, 4, 8, 9, 11, 13, 14, 15, 16, 17] (L2 := [(3, .int .i64 x3), (4, .ptr 0 0), (8, .ptr 1 0), (9, .int .i64 0), (11, .int .i64 (minI x0.E_ x2)), (13, lsv (encI .u8) 1 y1), (14, .bool y0.1), (15, lsv (encI .u8) 1 y0.2.1), (16, lsv (encI .u8) 1 y0.2.2), (17, .bool y4)]) (H2 := [.box (encSt28 x0), .box [.bool false, .nl, .int .i64 0]]) (by kernel_rfl) ?_
  refine kEN ?_
  refine kS ?_
  refine kSR ?_
  refine kC 1 [3,4,8,9,11,13,14,15,16,60] ?_
  refine kEN ?_
  refine kBJ 60 h14 (fun h15 => ?_) (fun h16 => ?_)
  ·refine kT ?_
   refine kSR ?_
   refine kC 3 [3,4,8,9,11,13,14,15,16] ?_
   refine kEN ?_
   refine kX ?_
   refine PJ.passRet ?_
   obtain rfl := oi h15
   exact kZ hFn hFH hFD
  ·refine kF ?_
   refine kK ?_
   refine PJ.next ?_
   refine kSR ?_
   refine kC 2 [3,4,8,9,11,13,14,15,62,63] ?_
   obtain ⟨y5, hy7, h17⟩ := bindS h16
   refine kA 64 (exergueref06_Sum_ok hy7) ?_
   refine kC 1 [3,4,8,9,11,13,14,15,18] ?_
   refine kEN ?_
   refine kSR ?_
   refine kC 2 [3,4,8,9,11,13,14,15,18,65,66] ?_
   obtain ⟨y10, hy8, h18⟩ := bindS h17
   refine kA 67 (exergueref06_Less_ok hy8) ?_
   refine kC 1 [3,4,8,9,11,13,14,15,18,19] ?_
   refine kEN ?_
   refine kSR ?_
   refine kC 2 [3,4,8,9,11,13,14,15,19,68,69] ?_
   obtain ⟨y11, hy9, h19⟩ := bindS h18
   refine kA 70 (exergueref06_Less_ok hy9) ?_
   refine kC 1 [3,4,8,9,11,13,14,15,19,20] ?_
   refine kEN ?_
   refine kSR ?_
   refine kC 6 [4,8,9,11,13,15,71,73,74,75,76] ?_
   obtain ⟨y6, hy10, h20⟩ := bindS h19
   refine kA 77 (exergueref06_farther_ok hy10) ?_
   refine RJ.seg 1 [4, 8, 9, 11, 13, 15, 21] (L2 := [(4, .ptr 0 0), (8, .ptr 1 0), (9, .int .i64 0), (11, .int .i64 (minI x0.E_ x2)), (13, lsv (encI .u8) 1 y1), (15, lsv (encI .u8) 1 y0.2.1), (21, .bool y6)]) (H2 := [.box (encSt28 x0), .box [.bool false, .nl, .int .i64 0]]) (by kernel_rfl) ?_
   refine kEN ?_
   refine kS ?_
   refine kSR ?_
   refine kC 1 [4,8,9,11,13,15,78] ?_
   refine kEN ?_
   refine kBJ 78 h20 (fun h21 => ?_) (fun h22 => ?_)
   ·refine kT ?_
    refine kS ?_
    refine J.keep [4, 8, 9, 11, 13, 15] (L2 := [(4, .ptr 0 0), (8, .ptr 1 0), (9, .int .i64 0), (11, .int .i64 (minI x0.E_ x2)), (13, lsv (encI .u8) 1 y1), (15, lsv (encI .u8) 1 y0.2.1)]) (by kernel_rfl) ?_
    refine K.draw (by kernel_rfl) (by kernel_rfl) (by kernel_rfl) (H2 := [.box (encSt28 x0), .box [.bool false, .nl, .int .i64 0], .res, .res]) (by kernel_rfl) (n := 2) (by kernel_rfl) ?_
    refine kD 4 ?_
    obtain ⟨y3, hy11, h23⟩ := bindS h21
    refine RJ.call0 (d := (some 83)) (f := 101) (args := [lsv (encI .u8) 1 y0.2.1, lsv (encI .u8) 1 y1, .bool false]) (v := lsv (encI .u8) 1 y3) (tr2 := [([], []), ([0, 1], []), ([], []), ([], []), ([], [4, 5])]) (by kernel_rfl) (by kernel_rfl) (.cons (Le.refl _) (.cons (Le.refl _) (.cons (Le.refl _) .nil))) (exergueref06_Sum_ok hy11) (by kernel_rfl) ?_
    refine kD 1 ?_
    obtain ⟨y2, hy12, h24⟩ := bindS h23
    refine RJ.call0 (d := (some 85)) (f := 104) (args := [.bool x0.Neg_, lsv (encI .u8) 1 y3, .int .i64 (minI x0.E_ x2)]) (v := .tup [.agg (encSt28 y2.1), .int .i64 y2.2]) (tr2 := [([], []), ([0, 1], []), ([], []), ([], []), ([], [4, 5]), ([], []), ([], [6, 7])]) (by kernel_rfl) (by kernel_rfl) (.cons (Le.refl _) (.cons (Le.refl _) (.cons (Le.refl _) .nil))) (exergueref06_whole_ok hy12) (by kernel_rfl) ?_
    refine kD 4 ?_
    refine kEN ?_
    refine kX ?_
    refine PJ.passRet ?_
    obtain rfl := oi h24
    exact kZ hFn hFH hFD
   ·refine kF ?_
    refine kK ?_
    refine PJ.next ?_
    refine kSR ?_
    refine kC 4 [8,9,89,90,91] ?_
    obtain ⟨y7, hy13, h25⟩ := bindS h22
    refine kA 92 (exergueref06_whole_ok hy13) ?_
    refine kC 4 [8,9] ?_
    refine kEN ?_
    refine kX ?_
    obtain rfl := oi h25
    exact kZ hFn hFH hFD
def exergueref06_Sig (x0 : St28) (x1 : Int) (x2 : Int) : Option (St28 × Int) :=
 (Option.bind (Option.bind (bif (decide (x2 < 0)) then (some true) else (bif (decide (x2 > 7)) then (some true) else (some (decide (x1 < 1))))) fun (s0 : Bool) => (bif s0 then (some (.inr ((⟨false, ([] : List Int), 0⟩ : St28), 1))) else (some (.inl ())))) (joinX fun (s2 : Unit) => (Option.bind (Option.bind (bif (decide ((x0.D_.length : Int) = 0)) then (some true) else (Option.bind (exergueref05_Mag x0) fun y2 => (some ((decide (((IntKind.wrap .i64 ((IntKind.wrap .i64 (y2 - x1)) + 1))) < (-1000))))))) fun (s1 : Bool) => (bif s1 then (some (.inr (x0, 0))) else (some (.inl ())))) (joinX fun (s3 : Unit) => (Option.bind (exergueref05_Mag x0) fun y1 => (Option.bind (exergueref06_Inc x0 1 ((IntKind.wrap .i64 ((IntKind.wrap .i64 (y1 - x1)) + 1))) x2) fun y0 => (some (y0.1, y0.2))))))))
theorem exergueref06_Sig_ok {x0 : St28} {x1 : Int} {x2 : Int} {r : St28 × Int} (h : exergueref06_Sig x0 x1 x2 = some r) : SC Tryz.prog 30 [.agg (encSt28 x0), .int .i64 x1, .int .i64 x2] [] (.tup [.agg (encSt28 r.1), .int .i64 r.2]) [] := by
 refine kFn (fn := Tryz.f30) (fun F hFn hFH hFD => ?_)
 unfold exergueref06_Sig at h
 refine kSR ?_
 refine kC 3 [1,2,3,6,7] ?_
 refine kEN ?_
 obtain ⟨y3, hy0, h0⟩ := bindS h
 refine K.cutX (by kernel_rfl) (fun (s2 : Unit) => ([(1, .int .i64 x1), (2, .int .i64 x2), (3, .ptr 0 0), (6, .ptr 1 0), (7, .int .i64 0)], [.box (encSt28 x0), .box [.bool false, .nl, .int .i64 0]])) y3 ?_ (fun s2 hs => ?_)
 ·obtain ⟨s0, hy1, h2⟩ := bindS hy0
  refine K.cutN (by kernel_rfl) (fun (s0 : Bool) => ([(1, .int .i64 x1), (2, .int .i64 x2), (3, .ptr 0 0), (6, .ptr 1 0), (7, .int .i64 0), (17, .bool s0)], [.box (encSt28 x0), .box [.bool false, .nl, .int .i64 0]])) s0 ?_ ?_
  ·refine kR ?_
   refine kC 3 [1,2,3,6,7,10] ?_
   refine kB 10 hy1 (fun h3 => ?_) (fun h4 => ?_)
   ·refine kC 7 [1,2,3,6,7,17] ?_
    refine kE ?_
    obtain rfl := oi h3
    exact kN [1, 2, 3, 6, 7, 17]
   ·refine kC 4 [1,2,3,6,7,14] ?_
    refine kB 14 h4 (fun h5 => ?_) (fun h6 => ?_)
    ·refine kC 3 [1,2,3,6,7,17] ?_
     refine kE ?_
     obtain rfl := oi h5
     exact kN [1, 2, 3, 6, 7, 17]
    ·refine kC 3 [1,2,3,6,7,17] ?_
     refine kE ?_
     obtain rfl := oi h6
     exact kN [1, 2, 3, 6, 7, 17]
  ·refine kBJ 17 h2 (fun h7 => ?_) (fun h8 => ?_)
   ·refine kT ?_
    refine kSR ?_
    refine kC 3 [1,2,3,6,7] ?_
    refine kEN ?_
    refine kX ?_
    obtain rfl := oi h7
    have h9 := joinX_inr h0
    refine PJ.cutXr (fun e => nomatch e) ?_
    obtain rfl := oi h9
    refine PJ.res (v1 := .tup [.agg [.bool false, .nl, .int .i64 0], .int .i64 1]) (Le.tup (.cons (Le.agg (.cons (Le.refl _) (.cons (Le.nl _) (.cons (Le.refl _) .nil)))) (.cons (Le.refl _) .nil))) ?_
    exact kZ hFn hFH hFD
   ·refine kF ?_
    refine kK ?_
    obtain rfl := oi h8
    exact kXl [1, 2, 3, 6, 7]
 ·subst hs
  have h10 := joinX_inl h0
  obtain ⟨y4, hy2, h1⟩ := bindS h10
  refine K.cutX (by kernel_rfl) (fun (s3 : Unit) => ([(1, .int .i64 x1), (2, .int .i64 x2), (3, .ptr 0 0), (6, .ptr 1 0), (7, .int .i64 0)], [.box (encSt28 x0), .box [.bool false, .nl, .int .i64 0]])) y4 ?_ (fun s3 hs => ?_)
  ·obtain ⟨s1, hy3, h11⟩ := bindS hy2
   refine K.cutN (by kernel_rfl) (fun (s1 : Bool) => ([(1, .int .i64 x1), (2, .int .i64 x2), (3, .ptr 0 0), (6, .ptr 1 0), (7, .int .i64 0), (30, .bool s1)], [.box (encSt28 x0), .box [.bool false, .nl, .int .i64 0]])) s1 ?_ ?_
   ·refine kR ?_
    refine kC 5 [1,2,3,6,7,23] ?_
    refine kB 23 hy3 (fun h12 => ?_) (fun h13 => ?_)
    ·refine kC 7 [1,2,3,6,7,30] ?_
     refine kE ?_
     obtain rfl := oi h12
     exact kN [1, 2, 3, 6, 7, 30]
    ·refine kC 1 [1,2,3,6,7,23,24] ?_
     obtain ⟨y2, hy4, h14⟩ := bindS h13
     refine kA 25 (exergueref05_Mag_ok hy4) ?_
     refine kC 5 [1,2,3,6,7,30] ?_
     refine kE ?_
     obtain rfl := oi h14
     exact kN [1, 2, 3, 6, 7, 30]
   ·refine kBJ 30 h11 (fun h15 => ?_) (fun h16 => ?_)
    ·refine kT ?_
     refine kSR ?_
     refine kC 3 [1,2,3,6,7] ?_
     refine kEN ?_
     refine kX ?_
     obtain rfl := oi h15
     have h17 := joinX_inr h1
     refine PJ.cutXr (fun e => nomatch e) ?_
     obtain rfl := oi h17
     exact kZ hFn hFH hFD
    ·refine kF ?_
     refine kK ?_
     obtain rfl := oi h16
     exact kXl [1, 2, 3, 6, 7]
  ·subst hs
   have h18 := joinX_inl h1
   refine kS ?_
   refine J.keep [1, 2, 3, 6, 7] (L2 := [(1, .int .i64 x1), (2, .int .i64 x2), (3, .ptr 0 0), (6, .ptr 1 0), (7, .int .i64 0)]) (by kernel_rfl) ?_
   refine K.draw (by kernel_rfl) (by kernel_rfl) (by kernel_rfl) (H2 := [.box (encSt28 x0), .box [.bool false, .nl, .int .i64 0], .res, .res]) (by kernel_rfl) (n := 2) (by kernel_rfl) ?_
   refine kD 2 ?_
   obtain ⟨y1, hy5, h19⟩ := bindS h18
   refine RJ.call0 (d := (some 34)) (f := 38) (args := [.agg (encSt28 x0)]) (v := .int .i64 y1) (tr2 := [([0, 1], []), ([0, 1], []), ([], [4, 5])]) (by kernel_rfl) (by kernel_rfl) (.cons (Le.refl _) .nil) (exergueref05_Mag_ok hy5) (by kernel_rfl) ?_
   refine kD 4 ?_
   obtain ⟨y0, hy6, h20⟩ := bindS h19
   refine RJ.call0 (d := (some 39)) (f := 67) (args := [.agg (encSt28 x0), .int .i64 1, .int .i64 ((IntKind.wrap .i64 ((IntKind.wrap .i64 (y1 - x1)) + 1))), .int .i64 x2]) (v := .tup [.agg (encSt28 y0.1), .int .i64 y0.2]) (tr2 := [([0, 1], []), ([0, 1], []), ([], [4, 5]), ([], []), ([], []), ([], []), ([], []), ([], [6, 7])]) (by kernel_rfl) (by kernel_rfl) (.cons (Le.refl _) (.cons (Le.refl _) (.cons (Le.refl _) (.cons (Le.refl _) .nil)))) (exergueref06_Inc_ok hy6) (by kernel_rfl) ?_
   refine kD 4 ?_
   refine kEN ?_
   refine kX ?_
   obtain rfl := oi h20
   exact kZ hFn hFH hFD
def exergueref06_To (x0 : St28) (x1 : Int) (x2 : Int) : Option (St28 × Int) :=
 (Option.bind (exergueref06_Inc x0 1 x1 x2) fun y0 => (some (y0.1, y0.2)))
theorem exergueref06_To_ok {x0 : St28} {x1 : Int} {x2 : Int} {r : St28 × Int} (h : exergueref06_To x0 x1 x2 = some r) : SC Tryz.prog 31 [.agg (encSt28 x0), .int .i64 x1, .int .i64 x2] [] (.tup [.agg (encSt28 r.1), .int .i64 r.2]) [] := by
 refine kFn (fn := Tryz.f31) (fun F hFn hFH hFD => ?_)
 unfold exergueref06_To at h
 refine kSR ?_
 refine kC 3 [1,2,3,6,7] ?_
 refine kEN ?_
 refine kSR ?_
 refine kC 3 [6,7,8,9,10] ?_
 obtain ⟨y0, hy0, h0⟩ := bindS h
 refine kA 11 (exergueref06_Inc_ok hy0) ?_
 refine kC 4 [6,7] ?_
 refine kEN ?_
 refine kX ?_
 obtain rfl := oi h0
 exact kZ hFn hFH hFD
def exergueref17_Round (x0 : St25) (x1 : Int) (x2 : St28) (x3 : Int) : Option (St28 × Int) :=
 (bif (decide (x0.Exp_ > 0)) then (Option.bind (exergueref06_Sig x2 (IntKind.wrap .i64 (x0.MaxFrac_ + 1)) x3) fun y0 => (some (y0.1, y0.2))) else (bif (decide (x0.MaxSig_ > 0)) then (Option.bind (exergueref06_Sig x2 x0.MaxSig_ x3) fun y1 => (some (y1.1, y1.2))) else (bif (decide (x1 ≥ 0)) then (Option.bind (exergueref06_To x2 (IntKind.wrap .i64 (0 - x1)) x3) fun y2 => (some (y2.1, y2.2))) else (Option.bind (exergueref06_To x2 (IntKind.wrap .i64 (0 - x0.MaxFrac_)) x3) fun y3 => (some (y3.1, y3.2))))))
theorem exergueref17_Round_ok {x0 : St25} {x1 : Int} {x2 : St28} {x3 : Int} {r : St28 × Int} (h : exergueref17_Round x0 x1 x2 x3 = some r) : SC Tryz.prog 10 [.agg (encSt25 x0), .int .i64 x1, .agg (encSt28 x2), .int .i64 x3] [] (.tup [.agg (encSt28 r.1), .int .i64 r.2]) [] := by
 refine kFn (fn := Tryz.f10) (fun F hFn hFH hFD => ?_)
 unfold exergueref17_Round at h
 refine kSR ?_
 refine kC 4 [1,3,4,6,8,9] ?_
 refine kEN ?_
 refine kS ?_
 refine kSR ?_
 refine kC 3 [1,3,4,6,8,9,12] ?_
 refine kEN ?_
 refine kBJ 12 h (fun h0 => ?_) (fun h1 => ?_)
 ·refine kT ?_
  refine kSR ?_
  refine kC 5 [1,3,4,6,8,9,13,16,17] ?_
  obtain ⟨y0, hy0, h2⟩ := bindS h0
  refine kA 18 (exergueref06_Sig_ok hy0) ?_
  refine kC 4 [1,3,4,6,8,9] ?_
  refine kEN ?_
  refine kX ?_
  refine PJ.passRet ?_
  obtain rfl := oi h2
  exact kZ hFn hFH hFD
 ·refine kF ?_
  refine kK ?_
  refine PJ.next ?_
  refine kS ?_
  refine kSR ?_
  refine kC 3 [1,3,4,6,8,9,23] ?_
  refine kEN ?_
  refine kBJ 23 h1 (fun h3 => ?_) (fun h4 => ?_)
  ·refine kT ?_
   refine kSR ?_
   refine kC 4 [1,3,4,6,8,9,24,26,27] ?_
   obtain ⟨y1, hy1, h5⟩ := bindS h3
   refine kA 28 (exergueref06_Sig_ok hy1) ?_
   refine kC 4 [1,3,4,6,8,9] ?_
   refine kEN ?_
   refine kX ?_
   refine PJ.passRet ?_
   obtain rfl := oi h5
   exact kZ hFn hFH hFD
  ·refine kF ?_
   refine kK ?_
   refine PJ.next ?_
   refine kS ?_
   refine kSR ?_
   refine kC 2 [1,3,4,6,8,9,32] ?_
   refine kEN ?_
   refine kBJ 32 h4 (fun h6 => ?_) (fun h7 => ?_)
   ·refine kT ?_
    refine kSR ?_
    refine kC 4 [3,4,6,8,9,33,35,36] ?_
    obtain ⟨y2, hy2, h8⟩ := bindS h6
    refine kA 37 (exergueref06_To_ok hy2) ?_
    refine kC 4 [3,4,6,8,9] ?_
    refine kEN ?_
    refine kX ?_
    refine PJ.passRet ?_
    obtain rfl := oi h8
    exact kZ hFn hFH hFD
   ·refine kF ?_
    refine kK ?_
    refine PJ.next ?_
    refine kSR ?_
    refine kC 5 [8,9,40,43,44] ?_
    obtain ⟨y3, hy3, h9⟩ := bindS h7
    refine kA 45 (exergueref06_To_ok hy3) ?_
    refine kC 4 [8,9] ?_
    refine kEN ?_
    refine kX ?_
    obtain rfl := oi h9
    exact kZ hFn hFH hFD
def exergueref05_At (x0 : St28) (x1 : Int) : Option (Int) :=
 (Option.bind (loopN (fun (s0 : Int) => (bif (decide (s0 < (x0.D_.length : Int))) then (bif (decide (((IntKind.wrap .i64 (((IntKind.wrap .i64 (((IntKind.wrap .i64 (x0.E_ + (x0.D_.length : Int)))) - 1))) - s0))) = x1)) then (bif inR s0 x0.D_.length then (some (.inr (.inr (nth x0.D_ s0)))) else none) else (some (.inl (IntKind.wrap .i64 (s0 + 1))))) else (some (.inr (.inl ()))))) big 0) (joinX fun (s1 : Unit) => (some 0)))
theorem exergueref05_At_ok {x0 : St28} {x1 : Int} {r : Int} (h : exergueref05_At x0 x1 = some r) : SC Tryz.prog 39 [.agg (encSt28 x0), .int .i64 x1] [] (.int .u8 r) [] := by
 refine kFn (fn := Tryz.f39) (fun F hFn hFH hFD => ?_)
 unfold exergueref05_At at h
 refine kSR ?_
 refine kC 2 [1,2,4] ?_
 refine kEN ?_
 obtain ⟨y0, hy0, h0⟩ := bindS h
 refine K.cutX (by kernel_rfl) (fun (s1 : Unit) => ([(4, .int .u8 0)], [])) y0 ?_ (fun s1 hs => ?_)
 ·refine kSR ?_
  refine kC 1 [1,2,4,5] ?_
  refine kEN ?_
  refine kb 0 ?_
  refine kl (fun (s0 : Int) => ([(1, .int .i64 x1), (2, .ptr 0 0), (4, .int .u8 0), (5, .int .i64 s0)], [.box (encSt28 x0)])) hy0 [1, 2, 4, 5] (fun s0 x71 hs0 => ?_)
  refine kS ?_
  refine kSR ?_
  refine kC 5 [1,2,4,5,10] ?_
  refine kEN ?_
  refine kBJ 10 hs0 (fun h1 => ?_) (fun h2 => ?_)
  ·refine kT ?_
   refine kK ?_
   refine PJ.next ?_
   refine kS ?_
   refine kb 1 ?_
   refine kSR ?_
   refine kC 11 [1,2,4,5,23] ?_
   refine kEN ?_
   refine kBJ 23 h1 (fun h3 => ?_) (fun h4 => ?_)
   ·refine kT ?_
    refine kSR ?_
    refine kC 3 [1,2,4,5,25,26] ?_
    obtain ⟨hm, h5⟩ := asrt h3
    refine kI 27 (encI_len .u8) hm ?_
    refine kC 2 [1,2,4,5] ?_
    refine kEN ?_
    refine kX ?_
    refine PJ.blockRet ?_
    refine PJ.passRet ?_
    obtain rfl := oi h5
    refine PJ.loopOut (fun e => nomatch e) (fun he0 => ?_)
    have h6 := congrArg some he0
    refine PJ.blockRet ?_
    obtain rfl := oi h6
    have h7 := joinX_inr h0
    refine PJ.cutXr (fun e => nomatch e) ?_
    obtain rfl := oi h7
    exact kZ hFn hFH hFD
   ·refine kF ?_
    refine kK ?_
    refine PJ.blockNormal ?_
    refine PJ.next ?_
    refine kR ?_
    refine kC 3 [1,2,4,5] ?_
    refine kE ?_
    obtain rfl := oi h4
    exact kLN [1, 2, 4, 5]
  ·refine kF ?_
   refine K.exit 0 (by kernel_rfl) ?_
   refine PJ.passExit ?_
   obtain rfl := oi h2
   refine PJ.loopOut (fun e => nomatch e) (fun he1 => ?_)
   have h8 := congrArg some he1
   refine PJ.blockOut ?_
   obtain rfl := oi h8
   refine kW (L2 := [(4, .int .u8 0)]) (H2 := []) hFH hFD [] ?_
   exact kXl [4]
 ·subst hs
  have h9 := joinX_inl h0
  refine kSR ?_
  refine kC 1 [4] ?_
  refine kEN ?_
  refine kX ?_
  obtain rfl := oi h9
  exact kZ hFn hFH hFD
def exergueref17_Figures (x0 : St25) (x1 : Int) (x2 : St28) : Option ((List Int) × (List Int) × Int) :=
 (Option.bind (exergueref05_Mag x2) fun y1 => (Option.bind (bif (decide (x0.Exp_ > 0)) then (some y1) else (some 0)) fun (s1 : Int) => (Option.bind (Option.bind (bif (decide (x0.Exp_ = 0)) then (some (decide (x0.MaxSig_ > 0))) else (some false)) fun (s7 : Bool) => (bif s7 then (some (1, (IntKind.wrap .i64 ((IntKind.wrap .i64 (x0.MinSig_ - 1)) - y1)))) else (some (x0.MinInt_, x0.MinFrac_)))) fun (s2 : Int × Int) => (Option.bind (Option.bind (bif (decide (x0.Exp_ = 0)) then (bif (decide (x0.MaxSig_ = 0)) then (some (decide (x1 ≥ 0))) else (some false)) else (some false)) fun (s8 : Bool) => (bif s8 then (some x1) else (some s2.2))) fun (s3 : Int) => (Option.bind (loopN (fun (s0 : Int × (List Int) × (List Int)) => (bif (decide (s0.1 ≥ (-2100))) then (Option.bind (Option.bind (exergueref05_At x2 (IntKind.wrap .i64 (s0.1 + s1))) fun y0 => (Option.bind (Option.bind (bif (decide (s0.1 ≥ 0)) then (bif (decide ((s0.2.1.length : Int) > 0)) then (some true) else (bif (decide (y0 > 0)) then (some true) else (some (decide (s0.1 < s2.1))))) else (some false)) fun (s9 : Bool) => (bif s9 then (bif room (s0.2.1.length + ([y0] : List Int).length) then (some (s0.2.1 ++ ([y0] : List Int))) else none) else (some s0.2.1))) fun (s5 : (List Int)) => (Option.bind (bif (decide (s0.1 < 0)) then (bif (decide (s0.1 ≥ (IntKind.wrap .i64 (x2.E_ - s1)))) then (bif (decide ((x2.D_.length : Int) > 0)) then (some true) else (some ((decide (s0.1 ≥ (IntKind.wrap .i64 (0 - s3))))))) else (some ((decide (s0.1 ≥ (IntKind.wrap .i64 (0 - s3))))))) else (some false)) fun (s10 : Bool) => (bif s10 then (bif room (s0.2.2.length + ([y0] : List Int).length) then (some (s5, (s0.2.2 ++ ([y0] : List Int)))) else none) else (some (s5, s0.2.2)))))) fun (s6 : (List Int) × (List Int)) => (some (.inl ((IntKind.wrap .i64 (s0.1 - 1)), s6.1, s6.2)))) else (some (.inr (s0.2.1, s0.2.2))))) big (2100, ([] : List Int), ([] : List Int))) fun (s4 : (List Int) × (List Int)) => (some (s4.1, s4.2, s1)))))))
theorem exergueref17_Figures_ok {x0 : St25} {x1 : Int} {x2 : St28} {r : (List Int) × (List Int) × Int} (h : exergueref17_Figures x0 x1 x2 = some r) : SC Tryz.prog 12 [.agg (encSt25 x0), .int .i64 x1, .agg (encSt28 x2)] [] (.tup [lsv (encI .u8) 1 r.1, lsv (encI .u8) 1 r.2.1, .int .i64 r.2.2]) [] := by
 refine kFn (fn := Tryz.f12) (fun F hFn hFH hFD => ?_)
 unfold exergueref17_Figures at h
 refine kSR ?_
 refine kC 5 [1,3,5,6,7,8] ?_
 refine kEN ?_
 refine kSR ?_
 refine kC 1 [1,3,5,6,7,8,9] ?_
 refine kEN ?_
 refine kSR ?_
 refine kC 1 [1,3,5,6,7,8,9,17] ?_
 obtain ⟨y1, hy0, h0⟩ := bindS h
 refine kA 18 (exergueref05_Mag_ok hy0) ?_
 refine kC 1 [1,3,5,6,7,8,9,10] ?_
 refine kEN ?_
 obtain ⟨s1, hy1, h1⟩ := bindS h0
 refine K.cutN (by kernel_rfl) (fun (s1 : Int) => ([(1, .int .i64 x1), (3, .ptr 0 0), (5, .ptr 1 0), (6, .nl), (7, .nl), (8, .int .i64 0), (9, .int .i64 s1), (10, .int .i64 y1)], [.box (encSt25 x0), .box (encSt28 x2)])) s1 ?_ ?_
 ·refine kSR ?_
  refine kC 3 [1,3,5,6,7,8,9,10,21] ?_
  refine kEN ?_
  refine kBJ 21 hy1 (fun h2 => ?_) (fun h3 => ?_)
  ·refine kT ?_
   refine kR ?_
   refine kC 2 [1,3,5,6,7,8,9,10] ?_
   refine kE ?_
   obtain rfl := oi h2
   exact kN [1, 3, 5, 6, 7, 8, 9, 10]
  ·refine kF ?_
   refine kK ?_
   obtain rfl := oi h3
   exact kN [1, 3, 5, 6, 7, 8, 9, 10]
 ·refine kSR ?_
  refine kC 3 [1,3,5,6,7,8,9,10,11] ?_
  refine kEN ?_
  refine kSR ?_
  refine kC 3 [1,3,5,6,7,8,9,10,11,12] ?_
  refine kEN ?_
  obtain ⟨s2, hy2, h4⟩ := bindS h1
  refine K.cutN (by kernel_rfl) (fun (s2 : Int × Int) => ([(1, .int .i64 x1), (3, .ptr 0 0), (5, .ptr 1 0), (6, .nl), (7, .nl), (8, .int .i64 0), (9, .int .i64 s1), (11, .int .i64 s2.1), (12, .int .i64 s2.2)], [.box (encSt25 x0), .box (encSt28 x2)])) s2 ?_ ?_
  ·obtain ⟨s7, hy3, h5⟩ := bindS hy2
   refine K.cutN (by kernel_rfl) (fun (s7 : Bool) => ([(1, .int .i64 x1), (3, .ptr 0 0), (5, .ptr 1 0), (6, .nl), (7, .nl), (8, .int .i64 0), (9, .int .i64 s1), (10, .int .i64 y1), (11, .int .i64 x0.MinInt_), (12, .int .i64 x0.MinFrac_), (34, .bool s7)], [.box (encSt25 x0), .box (encSt28 x2)])) s7 ?_ ?_
   ·refine kR ?_
    refine kC 4 [1,3,5,6,7,8,9,10,11,12,30] ?_
    refine kB 30 hy3 (fun h6 => ?_) (fun h7 => ?_)
    ·refine kC 4 [1,3,5,6,7,8,9,10,11,12,34] ?_
     refine kE ?_
     obtain rfl := oi h6
     exact kN [1, 3, 5, 6, 7, 8, 9, 10, 11, 12, 34]
    ·refine kC 4 [1,3,5,6,7,8,9,10,11,12,34] ?_
     refine kE ?_
     obtain rfl := oi h7
     exact kN [1, 3, 5, 6, 7, 8, 9, 10, 11, 12, 34]
   ·refine kBJ 34 h5 (fun h8 => ?_) (fun h9 => ?_)
    ·refine kT ?_
     refine kSR ?_
     refine kC 1 [1,3,5,6,7,8,9,10,11,12] ?_
     refine kEN ?_
     refine kR ?_
     refine kC 6 [1,3,5,6,7,8,9,11,12] ?_
     refine kE ?_
     obtain rfl := oi h8
     exact kN [1, 3, 5, 6, 7, 8, 9, 11, 12]
    ·refine kF ?_
     refine kK ?_
     obtain rfl := oi h9
     exact kN [1, 3, 5, 6, 7, 8, 9, 11, 12]
  ·obtain ⟨s3, hy4, h10⟩ := bindS h4
   refine K.cutN (by kernel_rfl) (fun (s3 : Int) => ([(5, .ptr 0 0), (6, .nl), (7, .nl), (8, .int .i64 0), (9, .int .i64 s1), (11, .int .i64 s2.1), (12, .int .i64 s3)], [.box (encSt28 x2)])) s3 ?_ ?_
   ·obtain ⟨s8, hy5, h11⟩ := bindS hy4
    refine K.cutN (by kernel_rfl) (fun (s8 : Bool) => ([(1, .int .i64 x1), (5, .ptr 0 0), (6, .nl), (7, .nl), (8, .int .i64 0), (9, .int .i64 s1), (11, .int .i64 s2.1), (12, .int .i64 s2.2), (51, .bool s8)], [.box (encSt28 x2)])) s8 ?_ ?_
    ·refine kR ?_
     refine kC 4 [1,3,5,6,7,8,9,11,12,43] ?_
     refine kB 43 hy5 (fun h12 => ?_) (fun h13 => ?_)
     ·refine kC 5 [1,5,6,7,8,9,11,12,48] ?_
      refine kB 48 h12 (fun h14 => ?_) (fun h15 => ?_)
      ·refine kC 3 [1,5,6,7,8,9,11,12,51] ?_
       refine kE ?_
       obtain rfl := oi h14
       refine kW (L2 := [(1, .int .i64 x1), (5, .ptr 0 0), (6, .nl), (7, .nl), (8, .int .i64 0), (9, .int .i64 s1), (11, .int .i64 s2.1), (12, .int .i64 s2.2), (51, .bool (decide (x1 ≥ 0)))]) (H2 := [.box (encSt28 x2)]) hFH hFD [1] ?_
       exact kN [1, 5, 6, 7, 8, 9, 11, 12, 51]
      ·refine kC 3 [1,5,6,7,8,9,11,12,51] ?_
       refine kE ?_
       obtain rfl := oi h15
       refine kW (L2 := [(1, .int .i64 x1), (5, .ptr 0 0), (6, .nl), (7, .nl), (8, .int .i64 0), (9, .int .i64 s1), (11, .int .i64 s2.1), (12, .int .i64 s2.2), (51, .bool false)]) (H2 := [.box (encSt28 x2)]) hFH hFD [1] ?_
       exact kN [1, 5, 6, 7, 8, 9, 11, 12, 51]
     ·refine kC 8 [1,5,6,7,8,9,11,12,51] ?_
      refine kE ?_
      obtain rfl := oi h13
      refine kW (L2 := [(1, .int .i64 x1), (5, .ptr 0 0), (6, .nl), (7, .nl), (8, .int .i64 0), (9, .int .i64 s1), (11, .int .i64 s2.1), (12, .int .i64 s2.2), (51, .bool false)]) (H2 := [.box (encSt28 x2)]) hFH hFD [1] ?_
      exact kN [1, 5, 6, 7, 8, 9, 11, 12, 51]
    ·refine kBJ 51 h11 (fun h16 => ?_) (fun h17 => ?_)
     ·refine kT ?_
      refine kR ?_
      refine kC 2 [5,6,7,8,9,11,12] ?_
      refine kE ?_
      obtain rfl := oi h16
      exact kN [5, 6, 7, 8, 9, 11, 12]
     ·refine kF ?_
      refine kK ?_
      obtain rfl := oi h17
      exact kN [5, 6, 7, 8, 9, 11, 12]
   ·refine kSR ?_
    refine kC 1 [5,6,7,8,9,11,12,13] ?_
    refine kEN ?_
    refine kSR ?_
    refine kC 1 [5,6,7,8,9,11,12,13,14] ?_
    refine kEN ?_
    obtain ⟨s4, hy6, h18⟩ := bindS h10
    refine K.cutN (by kernel_rfl) (fun (s4 : (List Int) × (List Int)) => ([(6, .nl), (7, .nl), (8, .int .i64 0), (9, .int .i64 s1), (13, .vc 0), (14, .vc 1)], [vecL (encI .u8) 1 5 s4.1, vecL (encI .u8) 1 5 s4.2])) s4 ?_ ?_
    ·refine kSR ?_
     refine kC 1 [5,6,7,8,9,11,12,13,14,15] ?_
     refine kEN ?_
     refine kb 0 ?_
     refine J.wk (Wk.viv 13 1 5 (by kernel_rfl)) ?_
     refine J.wk (Wk.viv 14 1 5 (by kernel_rfl)) ?_
     refine kl (fun (s0 : Int × (List Int) × (List Int)) => ([(5, .ptr 0 0), (6, .nl), (7, .nl), (8, .int .i64 0), (9, .int .i64 s1), (11, .int .i64 s2.1), (12, .int .i64 s3), (13, .vc 1), (14, .vc 2), (15, .int .i64 s0.1)], [.box (encSt28 x2), vecL (encI .u8) 1 5 s0.2.1, vecL (encI .u8) 1 5 s0.2.2])) hy6 [5, 6, 7, 8, 9, 11, 12, 13, 14, 15] (fun s0 x1043 hs0 => ?_)
     refine kS ?_
     refine kSR ?_
     refine kC 2 [5,6,7,8,9,11,12,13,14,15,54] ?_
     refine kEN ?_
     refine kBJ 54 hs0 (fun h19 => ?_) (fun h20 => ?_)
     ·refine kT ?_
      refine kK ?_
      refine PJ.next ?_
      obtain ⟨s6, hy7, h21⟩ := bindS h19
      refine K.cutN (by kernel_rfl) (fun (s6 : (List Int) × (List Int)) => ([(5, .ptr 0 0), (6, .nl), (7, .nl), (8, .int .i64 0), (9, .int .i64 s1), (11, .int .i64 s2.1), (12, .int .i64 s3), (13, .vc 1), (14, .vc 2), (15, .int .i64 s0.1)], [.box (encSt28 x2), vecL (encI .u8) 1 5 s6.1, vecL (encI .u8) 1 5 s6.2])) s6 ?_ ?_
      ·refine kb 1 ?_
       refine kSR ?_
       refine kC 4 [5,6,7,8,9,11,12,13,14,15,57,60] ?_
       obtain ⟨y0, hy8, h22⟩ := bindS hy7
       refine kA 61 (exergueref05_At_ok hy8) ?_
       refine kC 1 [5,6,7,8,9,11,12,13,14,15,16] ?_
       refine kEN ?_
       obtain ⟨s5, hy9, h23⟩ := bindS h22
       refine K.cutN (by kernel_rfl) (fun (s5 : (List Int)) => ([(5, .ptr 0 0), (6, .nl), (7, .nl), (8, .int .i64 0), (9, .int .i64 s1), (11, .int .i64 s2.1), (12, .int .i64 s3), (13, .vc 1), (14, .vc 2), (15, .int .i64 s0.1), (16, .int .u8 y0)], [.box (encSt28 x2), vecL (encI .u8) 1 5 s5, vecL (encI .u8) 1 5 s0.2.2])) s5 ?_ ?_
       ·obtain ⟨s9, hy10, h24⟩ := bindS hy9
        refine K.cutN (by kernel_rfl) (fun (s9 : Bool) => ([(5, .ptr 0 0), (6, .nl), (7, .nl), (8, .int .i64 0), (9, .int .i64 s1), (11, .int .i64 s2.1), (12, .int .i64 s3), (13, .vc 1), (14, .vc 2), (15, .int .i64 s0.1), (16, .int .u8 y0), (77, .bool s9)], [.box (encSt28 x2), vecL (encI .u8) 1 5 s0.2.1, vecL (encI .u8) 1 5 s0.2.2])) s9 ?_ ?_
        ·refine kR ?_
         refine kC 3 [5,6,7,8,9,11,12,13,14,15,16,64] ?_
         refine kB 64 hy10 (fun h25 => ?_) (fun h26 => ?_)
         ·refine kC 4 [5,6,7,8,9,11,12,13,14,15,16,64,68] ?_
          refine kB 68 h25 (fun h27 => ?_) (fun h28 => ?_)
          ·refine kC 9 [5,6,7,8,9,11,12,13,14,15,16,77] ?_
           refine kE ?_
           obtain rfl := oi h27
           exact kN [5, 6, 7, 8, 9, 11, 12, 13, 14, 15, 16, 77]
          ·refine kC 4 [5,6,7,8,9,11,12,13,14,15,16,64,72] ?_
           refine kB 72 h28 (fun h29 => ?_) (fun h30 => ?_)
           ·refine kC 5 [5,6,7,8,9,11,12,13,14,15,16,77] ?_
            refine kE ?_
            obtain rfl := oi h29
            exact kN [5, 6, 7, 8, 9, 11, 12, 13, 14, 15, 16, 77]
           ·refine kC 5 [5,6,7,8,9,11,12,13,14,15,16,77] ?_
            refine kE ?_
            obtain rfl := oi h30
            exact kN [5, 6, 7, 8, 9, 11, 12, 13, 14, 15, 16, 77]
         ·refine kC 13 [5,6,7,8,9,11,12,13,14,15,16,77] ?_
          refine kE ?_
          obtain rfl := oi h26
          exact kN [5, 6, 7, 8, 9, 11, 12, 13, 14, 15, 16, 77]
        ·refine kBJ 77 h24 (fun h31 => ?_) (fun h32 => ?_)
         ·refine kT ?_
          refine kR ?_
          refine kC 3 [5,6,7,8,9,11,12,13,14,15,16,78,80] ?_
          obtain ⟨hm, h33⟩ := asrt h31
          refine RJ.rel (d := (some 81)) (ef := ⟨.vc 4, [1, 3], [(1, .gone), (4, .vec (s0.2.1.length + ([y0] : List Int).length) 1 5 (s0.2.1.flatMap (encI .u8) ++ ([y0] : List Int).flatMap (encI .u8)))]⟩) (ef' := ⟨.vc 4, [1, 3], [(1, .gone), (4, vecL (encI .u8) 1 5 (s0.2.1 ++ ([y0] : List Int)))]⟩) (c := roomB (s0.2.1.length + ([y0] : List Int).length)) (tr2 := []) (H2 := [.box (encSt28 x2), .gone, vecL (encI .u8) 1 5 s0.2.2, vecL (encI .u8) 1 5 ([y0] : List Int), vecL (encI .u8) 1 5 (s0.2.1 ++ ([y0] : List Int))]) (by kernel_rfl) (roomB_of_room hm) (fun hc => N.app) (by kernel_rfl) ?_
          refine kC 1 [5,6,7,8,9,11,12,13,14,15,16] ?_
          refine kE ?_
          obtain rfl := oi h33
          refine kW (L2 := [(5, .ptr 0 0), (6, .nl), (7, .nl), (8, .int .i64 0), (9, .int .i64 s1), (11, .int .i64 s2.1), (12, .int .i64 s3), (13, .vc 1), (14, .vc 2), (15, .int .i64 s0.1), (16, .int .u8 y0)]) (H2 := [.box (encSt28 x2), vecL (encI .u8) 1 5 (s0.2.1 ++ ([y0] : List Int)), vecL (encI .u8) 1 5 s0.2.2]) hFH hFD [0, 4, 2] ?_
          exact kN [5, 6, 7, 8, 9, 11, 12, 13, 14, 15, 16]
         ·refine kF ?_
          refine kK ?_
          obtain rfl := oi h32
          exact kN [5, 6, 7, 8, 9, 11, 12, 13, 14, 15, 16]
       ·obtain ⟨s10, hy11, h34⟩ := bindS h23
        refine K.cutN (by kernel_rfl) (fun (s10 : Bool) => ([(5, .ptr 0 0), (6, .nl), (7, .nl), (8, .int .i64 0), (9, .int .i64 s1), (11, .int .i64 s2.1), (12, .int .i64 s3), (13, .vc 1), (14, .vc 2), (15, .int .i64 s0.1), (16, .int .u8 y0), (103, .bool s10)], [.box (encSt28 x2), vecL (encI .u8) 1 5 s5, vecL (encI .u8) 1 5 s0.2.2])) s10 ?_ ?_
        ·refine kR ?_
         refine kC 3 [5,6,7,8,9,11,12,13,14,15,16,84] ?_
         refine kB 84 hy11 (fun h35 => ?_) (fun h36 => ?_)
         ·refine kC 7 [5,6,7,8,9,11,12,13,14,15,16,84,91] ?_
          refine kB 91 h35 (fun h37 => ?_) (fun h38 => ?_)
          ·refine kC 6 [5,6,7,8,9,11,12,13,14,15,16,84,97] ?_
           refine kB 97 h37 (fun h39 => ?_) (fun h40 => ?_)
           ·refine kC 6 [5,6,7,8,9,11,12,13,14,15,16,103] ?_
            refine kE ?_
            obtain rfl := oi h39
            exact kN [5, 6, 7, 8, 9, 11, 12, 13, 14, 15, 16, 103]
           ·refine kC 6 [5,6,7,8,9,11,12,13,14,15,16,103] ?_
            refine kE ?_
            obtain rfl := oi h40
            exact kN [5, 6, 7, 8, 9, 11, 12, 13, 14, 15, 16, 103]
          ·refine kC 12 [5,6,7,8,9,11,12,13,14,15,16,103] ?_
           refine kE ?_
           obtain rfl := oi h38
           exact kN [5, 6, 7, 8, 9, 11, 12, 13, 14, 15, 16, 103]
         ·refine kC 19 [5,6,7,8,9,11,12,13,14,15,16,103] ?_
          refine kE ?_
          obtain rfl := oi h36
          exact kN [5, 6, 7, 8, 9, 11, 12, 13, 14, 15, 16, 103]
        ·refine kBJ 103 h34 (fun h41 => ?_) (fun h42 => ?_)
         ·refine kT ?_
          refine kR ?_
          refine kC 3 [5,6,7,8,9,11,12,13,14,15,104,106] ?_
          obtain ⟨hm, h43⟩ := asrt h41
          refine RJ.rel (d := (some 107)) (ef := ⟨.vc 4, [2, 3], [(2, .gone), (4, .vec (s0.2.2.length + ([y0] : List Int).length) 1 5 (s0.2.2.flatMap (encI .u8) ++ ([y0] : List Int).flatMap (encI .u8)))]⟩) (ef' := ⟨.vc 4, [2, 3], [(2, .gone), (4, vecL (encI .u8) 1 5 (s0.2.2 ++ ([y0] : List Int)))]⟩) (c := roomB (s0.2.2.length + ([y0] : List Int).length)) (tr2 := []) (H2 := [.box (encSt28 x2), vecL (encI .u8) 1 5 s5, .gone, vecL (encI .u8) 1 5 ([y0] : List Int), vecL (encI .u8) 1 5 (s0.2.2 ++ ([y0] : List Int))]) (by kernel_rfl) (roomB_of_room hm) (fun hc => N.app) (by kernel_rfl) ?_
          refine kC 1 [5,6,7,8,9,11,12,13,14,15] ?_
          refine kE ?_
          refine PJ.blockNormal ?_
          obtain rfl := oi h43
          refine kW (L2 := [(5, .ptr 0 0), (6, .nl), (7, .nl), (8, .int .i64 0), (9, .int .i64 s1), (11, .int .i64 s2.1), (12, .int .i64 s3), (13, .vc 1), (14, .vc 2), (15, .int .i64 s0.1)]) (H2 := [.box (encSt28 x2), vecL (encI .u8) 1 5 s5, vecL (encI .u8) 1 5 (s0.2.2 ++ ([y0] : List Int))]) hFH hFD [0, 1, 4] ?_
          exact kN [5, 6, 7, 8, 9, 11, 12, 13, 14, 15]
         ·refine kF ?_
          refine kK ?_
          refine PJ.blockNormal ?_
          obtain rfl := oi h42
          exact kN [5, 6, 7, 8, 9, 11, 12, 13, 14, 15]
      ·refine kR ?_
       refine kC 3 [5,6,7,8,9,11,12,13,14,15] ?_
       refine kE ?_
       obtain rfl := oi h21
       exact kLN [5, 6, 7, 8, 9, 11, 12, 13, 14, 15]
     ·refine kF ?_
      refine K.exit 0 (by kernel_rfl) ?_
      refine PJ.passExit ?_
      obtain rfl := oi h20
      refine PJ.loopOut (fun e => nomatch e) (fun he0 => ?_)
      have h44 := congrArg some he0
      refine PJ.blockOut ?_
      obtain rfl := oi h44
      refine kW (L2 := [(6, .nl), (7, .nl), (8, .int .i64 0), (9, .int .i64 s1), (13, .vc 0), (14, .vc 1)]) (H2 := [vecL (encI .u8) 1 5 s0.2.1, vecL (encI .u8) 1 5 s0.2.2]) hFH hFD [1, 2] ?_
      exact kN [6, 7, 8, 9, 13, 14]
    ·refine kSR ?_
     refine kC 6 [6,7,8] ?_
     refine kEN ?_
     refine kX ?_
     obtain rfl := oi h18
     refine PJ.wk (Wk.freeze 0 (n := s4.1.length) (k := 1) (e := 5) (cs := s4.1.flatMap (encI .u8)) (by kernel_rfl)) ?_
     refine PJ.wk (Wk.freeze 1 (n := s4.2.length) (k := 1) (e := 5) (cs := s4.2.flatMap (encI .u8)) (by kernel_rfl)) ?_
     exact kZ hFn hFH hFD
def exergueref01_Row (x0 : List Int) (x1 : List Int) : Option (Bool) :=
 (bif (decide (¬ (x0.length : Int) = (x1.length : Int))) then (some false) else (Option.bind (loopN (fun (s0 : Int) => (bif (decide (s0 < (x0.length : Int))) then (bif inR s0 x0.length then (bif inR s0 x1.length then (bif (decide (¬ (nth x0 s0) = (nth x1 s0))) then (some (.inr (.inr false))) else (some (.inl (IntKind.wrap .i64 (s0 + 1))))) else none) else none) else (some (.inr (.inl ()))))) big 0) (joinX fun (s1 : Unit) => (some true))))
theorem exergueref01_Row_ok {x0 : List Int} {x1 : List Int} {r : Bool} (h : exergueref01_Row x0 x1 = some r) : SC Tryz.prog 14 [lsv (encI .u8) 1 x0, lsv (encI .u8) 1 x1] [] (.bool r) [] := by
 refine kFn (fn := Tryz.f14) (fun F hFn hFH hFD => ?_)
 unfold exergueref01_Row at h
 refine kSR ?_
 refine kC 1 [0,1,4] ?_
 refine kEN ?_
 refine kS ?_
 refine kSR ?_
 refine kC 5 [0,1,4,10] ?_
 refine kEN ?_
 refine kBJ 10 h (fun h1 => ?_) (fun h2 => ?_)
 ·refine kT ?_
  refine kSR ?_
  refine kC 1 [0,1,4] ?_
  refine kEN ?_
  refine kX ?_
  refine PJ.passRet ?_
  obtain rfl := oi h1
  exact kZ hFn hFH hFD
 ·refine kF ?_
  refine kK ?_
  refine PJ.next ?_
  obtain ⟨y0, hy0, h0⟩ := bindS h2
  refine K.cutX (by kernel_rfl) (fun (s1 : Unit) => ([(4, .bool false)], [])) y0 ?_ (fun s1 hs => ?_)
  ·refine kSR ?_
   refine kC 1 [0,1,4,5] ?_
   refine kEN ?_
   refine kb 0 ?_
   refine kl (fun (s0 : Int) => ([(0, lsv (encI .u8) 1 x0), (1, lsv (encI .u8) 1 x1), (4, .bool false), (5, .int .i64 s0)], [])) hy0 [0, 1, 4, 5] (fun s0 x79 hs0 => ?_)
   refine kS ?_
   refine kSR ?_
   refine kC 4 [0,1,4,5,14] ?_
   refine kEN ?_
   refine kBJ 14 hs0 (fun h3 => ?_) (fun h4 => ?_)
   ·refine kT ?_
    refine kK ?_
    refine PJ.next ?_
    refine kS ?_
    refine kb 1 ?_
    refine kS ?_
    refine J.keep [0, 1, 4, 5] (L2 := [(0, lsv (encI .u8) 1 x0), (1, lsv (encI .u8) 1 x1), (4, .bool false), (5, .int .i64 s0)]) (by kernel_rfl) ?_
    refine K.draw (by kernel_rfl) (by kernel_rfl) (by kernel_rfl) (H2 := []) (by kernel_rfl) (n := 0) (by kernel_rfl) ?_
    refine kD 2 ?_
    obtain ⟨hm, h5⟩ := asrt h3
    refine kJ 19 (tr2 := [([], []), ([], []), ([], [])]) (encI_len .u8) hm ?_
    refine kD 3 ?_
    obtain ⟨hm, h6⟩ := asrt h5
    refine kJ 23 (tr2 := [([], []), ([], []), ([], []), ([], []), ([], []), ([], []), ([], [])]) (encI_len .u8) hm ?_
    refine kD 2 ?_
    refine kEN ?_
    refine kBJ 25 h6 (fun h7 => ?_) (fun h8 => ?_)
    ·refine kT ?_
     refine kSR ?_
     refine kC 1 [0,1,4,5] ?_
     refine kEN ?_
     refine kX ?_
     refine PJ.blockRet ?_
     refine PJ.passRet ?_
     obtain rfl := oi h7
     refine PJ.loopOut (fun e => nomatch e) (fun he0 => ?_)
     have h9 := congrArg some he0
     refine PJ.blockRet ?_
     obtain rfl := oi h9
     have h10 := joinX_inr h0
     refine PJ.cutXr (fun e => nomatch e) ?_
     obtain rfl := oi h10
     exact kZ hFn hFH hFD
    ·refine kF ?_
     refine kK ?_
     refine PJ.blockNormal ?_
     refine PJ.next ?_
     refine kR ?_
     refine kC 3 [0,1,4,5] ?_
     refine kE ?_
     obtain rfl := oi h8
     exact kLN [0, 1, 4, 5]
   ·refine kF ?_
    refine K.exit 0 (by kernel_rfl) ?_
    refine PJ.passExit ?_
    obtain rfl := oi h4
    refine PJ.loopOut (fun e => nomatch e) (fun he1 => ?_)
    have h11 := congrArg some he1
    refine PJ.blockOut ?_
    obtain rfl := oi h11
    exact kXl [4]
  ·subst hs
   have h12 := joinX_inl h0
   refine kSR ?_
   refine kC 1 [4] ?_
   refine kEN ?_
   refine kX ?_
   obtain rfl := oi h12
   exact kZ hFn hFH hFD
def exergueref05_Same (x0 : St28) (x1 : St28) : Option (Bool) :=
 (Option.bind (exergueref01_Row x0.D_ x1.D_) fun y0 => (Option.bind (bif y0 then (bif (x0.Neg_ == x1.Neg_) then (some (decide (x0.E_ = x1.E_))) else (some false)) else (some false)) fun (s0 : Bool) => (some s0)))
theorem exergueref05_Same_ok {x0 : St28} {x1 : St28} {r : Bool} (h : exergueref05_Same x0 x1 = some r) : SC Tryz.prog 13 [.agg (encSt28 x0), .agg (encSt28 x1)] [] (.bool r) [] := by
 refine kFn (fn := Tryz.f13) (fun F hFn hFH hFD => ?_)
 unfold exergueref05_Same at h
 refine kSR ?_
 refine kC 3 [2,3,4] ?_
 refine kEN ?_
 refine kSR ?_
 refine kC 4 [2,3,4,7,9] ?_
 obtain ⟨y0, hy0, h0⟩ := bindS h
 refine kA 10 (exergueref01_Row_ok hy0) ?_
 refine kC 1 [2,3,4,5] ?_
 refine kEN ?_
 obtain ⟨s0, hy1, h1⟩ := bindS h0
 refine K.cutN (by kernel_rfl) (fun (s0 : Bool) => ([(4, .bool s0)], [])) s0 ?_ ?_
 ·refine kR ?_
  refine kC 2 [2,3,4,12] ?_
  refine kB 12 hy1 (fun h2 => ?_) (fun h3 => ?_)
  ·refine kC 7 [2,3,4,19] ?_
   refine kB 19 h2 (fun h4 => ?_) (fun h5 => ?_)
   ·refine kC 7 [4] ?_
    refine kE ?_
    obtain rfl := oi h4
    refine kW (L2 := [(4, .bool (decide (x0.E_ = x1.E_)))]) (H2 := []) hFH hFD [] ?_
    exact kN [4]
   ·refine kC 7 [4] ?_
    refine kE ?_
    obtain rfl := oi h5
    refine kW (L2 := [(4, .bool false)]) (H2 := []) hFH hFD [] ?_
    exact kN [4]
  ·refine kC 14 [4] ?_
   refine kE ?_
   obtain rfl := oi h3
   refine kW (L2 := [(4, .bool false)]) (H2 := []) hFH hFD [] ?_
   exact kN [4]
 ·refine kX ?_
  obtain rfl := oi h1
  exact kZ hFn hFH hFD
def exergueref13_Grouped (x0 : St22) (x1 : List Int) (x2 : Int) (x3 : Int) : Option (List Int) :=
 (Option.bind (loopN (fun (s0 : Int × Int × Int × (List Int)) => (bif (decide (s0.2.2.1 ≥ 0)) then (Option.bind (Option.bind (Option.bind (bif (decide (s0.2.1 > 0)) then (some (decide (s0.1 = s0.2.1))) else (some false)) fun (s3 : Bool) => (bif s3 then (bif room (([x0.Group_] : List Int).length + s0.2.2.2.length) then (some (0, x3, (([x0.Group_] : List Int) ++ s0.2.2.2))) else none) else (some (s0.1, s0.2.1, s0.2.2.2)))) fun (s1 : Int × Int × (List Int)) => (bif inR s0.2.2.1 x1.length then (bif room ((([(IntKind.wrap .i32 ((IntKind.wrap .i64 ((IntKind.wrap .i64 x0.Zero_) + (IntKind.wrap .i64 (nth x1 s0.2.2.1))))))] : List Int)).length + s1.2.2.length) then (some ((IntKind.wrap .i64 (s1.1 + 1)), s1.2.1, ((([(IntKind.wrap .i32 ((IntKind.wrap .i64 ((IntKind.wrap .i64 x0.Zero_) + (IntKind.wrap .i64 (nth x1 s0.2.2.1))))))] : List Int)) ++ s1.2.2))) else none) else none)) fun (s2 : Int × Int × (List Int)) => (some (.inl (s2.1, s2.2.1, (IntKind.wrap .i64 (s0.2.2.1 - 1)), s2.2.2)))) else (some (.inr s0.2.2.2)))) big (0, x2, (IntKind.wrap .i64 ((x1.length : Int) - 1)), ([] : List Int))) fun (s4 : (List Int)) => (some s4))
theorem exergueref13_Grouped_ok_o {x0 : St22} {x1 : List Int} {x2 : Int} {x3 : Int} {r : List Int} (h : exergueref13_Grouped x0 x1 x2 x3 = some r) : SC Tryz.prog 43 [.agg (encSt22 x0), lsv (encI .u8) 1 x1, .int .i64 x2, .int .i64 x3] [] (.vc 0) [vecL (encI .i32) 1 21 r] := by
 refine kFn (fn := Tryz.f43) (fun F hFn hFH hFD => ?_)
 unfold exergueref13_Grouped at h
 refine kSR ?_
 refine kC 2 [1,2,3,4,8] ?_
 refine kEN ?_
 refine kSR ?_
 refine kC 1 [1,2,3,4,8,9] ?_
 refine kEN ?_
 refine kSR ?_
 refine kC 1 [1,2,3,4,8,9,10] ?_
 refine kEN ?_
 refine kSR ?_
 refine kC 2 [1,3,4,8,9,10,11] ?_
 refine kEN ?_
 obtain ⟨s4, hy0, h0⟩ := bindS h
 refine K.cutN (by kernel_rfl) (fun (s4 : (List Int)) => ([(8, .nl), (9, .vc 0)], [vecL (encI .i32) 1 21 s4])) s4 ?_ ?_
 ·refine kSR ?_
  refine kC 4 [1,3,4,8,9,10,11,12] ?_
  refine kEN ?_
  refine kb 0 ?_
  refine J.wk (Wk.viv 9 1 21 (by kernel_rfl)) ?_
  refine kl (fun (s0 : Int × Int × Int × (List Int)) => ([(1, lsv (encI .u8) 1 x1), (3, .int .i64 x3), (4, .ptr 0 0), (8, .nl), (9, .vc 1), (10, .int .i64 s0.1), (11, .int .i64 s0.2.1), (12, .int .i64 s0.2.2.1)], [.box (encSt22 x0), vecL (encI .i32) 1 21 s0.2.2.2])) hy0 [1, 3, 4, 8, 9, 10, 11, 12] (fun s0 x431 hs0 => ?_)
  refine kS ?_
  refine kSR ?_
  refine kC 2 [1,3,4,8,9,10,11,12,18] ?_
  refine kEN ?_
  refine kBJ 18 hs0 (fun h1 => ?_) (fun h2 => ?_)
  ·refine kT ?_
   refine kK ?_
   refine PJ.next ?_
   obtain ⟨s2, hy1, h3⟩ := bindS h1
   refine K.cutN (by kernel_rfl) (fun (s2 : Int × Int × (List Int)) => ([(1, lsv (encI .u8) 1 x1), (3, .int .i64 x3), (4, .ptr 0 0), (8, .nl), (9, .vc 1), (10, .int .i64 s2.1), (11, .int .i64 s2.2.1), (12, .int .i64 s0.2.2.1)], [.box (encSt22 x0), vecL (encI .i32) 1 21 s2.2.2])) s2 ?_ ?_
   ·refine kb 1 ?_
    obtain ⟨s1, hy2, h4⟩ := bindS hy1
    refine K.cutN (by kernel_rfl) (fun (s1 : Int × Int × (List Int)) => ([(1, lsv (encI .u8) 1 x1), (3, .int .i64 x3), (4, .ptr 0 0), (8, .nl), (9, .vc 1), (10, .int .i64 s1.1), (11, .int .i64 s1.2.1), (12, .int .i64 s0.2.2.1)], [.box (encSt22 x0), vecL (encI .i32) 1 21 s1.2.2])) s1 ?_ ?_
    ·obtain ⟨s3, hy3, h5⟩ := bindS hy2
     refine K.cutN (by kernel_rfl) (fun (s3 : Bool) => ([(1, lsv (encI .u8) 1 x1), (3, .int .i64 x3), (4, .ptr 0 0), (8, .nl), (9, .vc 1), (10, .int .i64 s0.1), (11, .int .i64 s0.2.1), (12, .int .i64 s0.2.2.1), (27, .bool s3)], [.box (encSt22 x0), vecL (encI .i32) 1 21 s0.2.2.2])) s3 ?_ ?_
     ·refine kR ?_
      refine kC 3 [1,3,4,8,9,10,11,12,23] ?_
      refine kB 23 hy3 (fun h6 => ?_) (fun h7 => ?_)
      ·refine kC 4 [1,3,4,8,9,10,11,12,27] ?_
       refine kE ?_
       obtain rfl := oi h6
       exact kN [1, 3, 4, 8, 9, 10, 11, 12, 27]
      ·refine kC 4 [1,3,4,8,9,10,11,12,27] ?_
       refine kE ?_
       obtain rfl := oi h7
       exact kN [1, 3, 4, 8, 9, 10, 11, 12, 27]
     ·refine kBJ 27 h5 (fun h8 => ?_) (fun h9 => ?_)
      ·refine kT ?_
       refine kSR ?_
       refine kC 4 [1,3,4,8,9,10,11,12,30,31] ?_
       obtain ⟨hm, h10⟩ := asrt h8
       refine RJ.rel (d := (some 32)) (ef := ⟨.vc 3, [2, 1], [(2, .gone), (3, .vec (([x0.Group_] : List Int).length + s0.2.2.2.length) 1 21 (([x0.Group_] : List Int).flatMap (encI .i32) ++ s0.2.2.2.flatMap (encI .i32)))]⟩) (ef' := ⟨.vc 3, [2, 1], [(2, .gone), (3, vecL (encI .i32) 1 21 (([x0.Group_] : List Int) ++ s0.2.2.2))]⟩) (c := room (([x0.Group_] : List Int).length + s0.2.2.2.length)) (tr2 := []) (H2 := [.box (encSt22 x0), vecL (encI .i32) 1 21 s0.2.2.2, .gone, vecL (encI .i32) 1 21 (([x0.Group_] : List Int) ++ s0.2.2.2)]) (by kernel_rfl) hm (fun hc => N.app) (by kernel_rfl) ?_
       refine kC 1 [1,3,4,8,9,10,11,12] ?_
       refine kEN ?_
       refine kSR ?_
       refine kC 1 [1,3,4,8,9,10,11,12] ?_
       refine kEN ?_
       refine kR ?_
       refine kC 2 [1,3,4,8,9,10,11,12] ?_
       refine kE ?_
       obtain rfl := oi h10
       refine kW (L2 := [(1, lsv (encI .u8) 1 x1), (3, .int .i64 x3), (4, .ptr 0 0), (8, .nl), (9, .vc 1), (10, .int .i64 0), (11, .int .i64 x3), (12, .int .i64 s0.2.2.1)]) (H2 := [.box (encSt22 x0), vecL (encI .i32) 1 21 (([x0.Group_] : List Int) ++ s0.2.2.2)]) hFH hFD [0, 3] ?_
       exact kN [1, 3, 4, 8, 9, 10, 11, 12]
      ·refine kF ?_
       refine kK ?_
       obtain rfl := oi h9
       exact kN [1, 3, 4, 8, 9, 10, 11, 12]
    ·refine kS ?_
     refine J.keep [1, 3, 4, 8, 9, 10, 11, 12] (L2 := [(1, lsv (encI .u8) 1 x1), (3, .int .i64 x3), (4, .ptr 0 0), (8, .nl), (9, .vc 1), (10, .int .i64 s1.1), (11, .int .i64 s1.2.1), (12, .int .i64 s0.2.2.1)]) (by kernel_rfl) ?_
     refine K.draw (by kernel_rfl) (by kernel_rfl) (by kernel_rfl) (H2 := [.box (encSt22 x0), vecL (encI .i32) 1 21 s1.2.2, .res, .res]) (by kernel_rfl) (n := 2) (by kernel_rfl) ?_
     refine kD 5 ?_
     obtain ⟨hm, h11⟩ := asrt h4
     refine kJ 39 (tr2 := [([], []), ([0, 1], []), ([], []), ([], []), ([], []), ([], [])]) (encI_len .u8) hm ?_
     refine kD 6 ?_
     obtain ⟨hm, h12⟩ := asrt h11
     refine RJ.rel (d := (some 46)) (ef := ⟨.vc 3, [2, 1], [(2, .gone), (3, .vec ((([(IntKind.wrap .i32 ((IntKind.wrap .i64 ((IntKind.wrap .i64 x0.Zero_) + (IntKind.wrap .i64 (nth x1 s0.2.2.1))))))] : List Int)).length + s1.2.2.length) 1 21 ((([(IntKind.wrap .i32 ((IntKind.wrap .i64 ((IntKind.wrap .i64 x0.Zero_) + (IntKind.wrap .i64 (nth x1 s0.2.2.1))))))] : List Int)).flatMap (encI .i32) ++ s1.2.2.flatMap (encI .i32)))]⟩) (ef' := ⟨.vc 3, [2, 1], [(2, .gone), (3, vecL (encI .i32) 1 21 ((([(IntKind.wrap .i32 ((IntKind.wrap .i64 ((IntKind.wrap .i64 x0.Zero_) + (IntKind.wrap .i64 (nth x1 s0.2.2.1))))))] : List Int)) ++ s1.2.2))]⟩) (c := room ((([(IntKind.wrap .i32 ((IntKind.wrap .i64 ((IntKind.wrap .i64 x0.Zero_) + (IntKind.wrap .i64 (nth x1 s0.2.2.1))))))] : List Int)).length + s1.2.2.length)) (tr2 := [([], []), ([0, 1], []), ([], []), ([], []), ([], []), ([], []), ([], []), ([], []), ([], []), ([], []), ([], [4, 5, 4, 5]), ([], []), ([4, 5, 2, 3], [4, 5, 6, 7, 6, 7])]) (H2 := [.box (encSt22 x0), vecL (encI .i32) 1 21 s1.2.2, .gone, vecL (encI .i32) 1 21 (((([(IntKind.wrap .i32 ((IntKind.wrap .i64 ((IntKind.wrap .i64 x0.Zero_) + (IntKind.wrap .i64 (nth x1 s0.2.2.1))))))] : List Int)) ++ s1.2.2))]) (by kernel_rfl) hm (fun hc => N.app) (by kernel_rfl) ?_
     refine kD 1 ?_
     refine kEN ?_
     refine kR ?_
     refine kC 3 [1,3,4,8,9,10,11,12] ?_
     refine kE ?_
     refine PJ.blockNormal ?_
     obtain rfl := oi h12
     refine kW (L2 := [(1, lsv (encI .u8) 1 x1), (3, .int .i64 x3), (4, .ptr 0 0), (8, .nl), (9, .vc 1), (10, .int .i64 (IntKind.wrap .i64 (s1.1 + 1))), (11, .int .i64 s1.2.1), (12, .int .i64 s0.2.2.1)]) (H2 := [.box (encSt22 x0), vecL (encI .i32) 1 21 (((([(IntKind.wrap .i32 ((IntKind.wrap .i64 ((IntKind.wrap .i64 x0.Zero_) + (IntKind.wrap .i64 (nth x1 s0.2.2.1))))))] : List Int)) ++ s1.2.2))]) hFH hFD [0, 3] ?_
     exact kN [1, 3, 4, 8, 9, 10, 11, 12]
   ·refine kR ?_
    refine kC 3 [1,3,4,8,9,10,11,12] ?_
    refine kE ?_
    obtain rfl := oi h3
    exact kLN [1, 3, 4, 8, 9, 10, 11, 12]
  ·refine kF ?_
   refine K.exit 0 (by kernel_rfl) ?_
   refine PJ.passExit ?_
   obtain rfl := oi h2
   refine PJ.loopOut (fun e => nomatch e) (fun he0 => ?_)
   have h13 := congrArg some he0
   refine PJ.blockOut ?_
   obtain rfl := oi h13
   refine kW (L2 := [(8, .nl), (9, .vc 0)]) (H2 := [vecL (encI .i32) 1 21 s0.2.2.2]) hFH hFD [1] ?_
   exact kN [8, 9]
 ·refine kSR ?_
  refine kC 2 [8] ?_
  refine kEN ?_
  refine kX ?_
  obtain rfl := oi h0
  exact kV [0] hFn hFH hFD (v1 := .vc 0)
def exergueref13_Digits (x0 : St22) (x1 : List Int) : Option (List Int) :=
 (Option.bind (loopN (fun (s0 : Int × (List Int)) => (bif (decide (s0.1 < (x1.length : Int))) then (bif inR s0.1 x1.length then (bif room (s0.2.length + (([(IntKind.wrap .i32 ((IntKind.wrap .i64 ((IntKind.wrap .i64 x0.Zero_) + (IntKind.wrap .i64 (nth x1 s0.1))))))] : List Int)).length) then (some (.inl ((IntKind.wrap .i64 (s0.1 + 1)), (s0.2 ++ (([(IntKind.wrap .i32 ((IntKind.wrap .i64 ((IntKind.wrap .i64 x0.Zero_) + (IntKind.wrap .i64 (nth x1 s0.1))))))] : List Int)))))) else none) else none) else (some (.inr s0.2)))) big (0, ([] : List Int))) fun (s1 : (List Int)) => (some s1))
theorem exergueref13_Digits_ok {x0 : St22} {x1 : List Int} {r : List Int} (h : exergueref13_Digits x0 x1 = some r) : SC Tryz.prog 44 [.agg (encSt22 x0), lsv (encI .u8) 1 x1] [] (lsv (encI .i32) 1 r) [] := by
 refine kFn (fn := Tryz.f44) (fun F hFn hFH hFD => ?_)
 unfold exergueref13_Digits at h
 refine kSR ?_
 refine kC 2 [1,2,4] ?_
 refine kEN ?_
 refine kSR ?_
 refine kC 1 [1,2,4,5] ?_
 refine kEN ?_
 obtain ⟨s1, hy0, h0⟩ := bindS h
 refine K.cutN (by kernel_rfl) (fun (s1 : (List Int)) => ([(4, .nl), (5, .vc 0)], [vecL (encI .i32) 1 21 s1])) s1 ?_ ?_
 ·refine kSR ?_
  refine kC 1 [1,2,4,5,6] ?_
  refine kEN ?_
  refine kb 0 ?_
  refine J.wk (Wk.viv 5 1 21 (by kernel_rfl)) ?_
  refine kl (fun (s0 : Int × (List Int)) => ([(1, lsv (encI .u8) 1 x1), (2, .ptr 0 0), (4, .nl), (5, .vc 1), (6, .int .i64 s0.1)], [.box (encSt22 x0), vecL (encI .i32) 1 21 s0.2])) hy0 [1, 2, 4, 5, 6] (fun s0 x46 hs0 => ?_)
  refine kS ?_
  refine kSR ?_
  refine kC 4 [1,2,4,5,6,10] ?_
  refine kEN ?_
  refine kBJ 10 hs0 (fun h1 => ?_) (fun h2 => ?_)
  ·refine kT ?_
   refine kK ?_
   refine PJ.next ?_
   refine kS ?_
   refine kb 1 ?_
   refine J.keep [1, 2, 4, 5, 6] (L2 := [(1, lsv (encI .u8) 1 x1), (2, .ptr 0 0), (4, .nl), (5, .vc 1), (6, .int .i64 s0.1)]) (by kernel_rfl) ?_
   refine K.draw (by kernel_rfl) (by kernel_rfl) (by kernel_rfl) (H2 := [.box (encSt22 x0), vecL (encI .i32) 1 21 s0.2, .res, .res]) (by kernel_rfl) (n := 2) (by kernel_rfl) ?_
   refine kD 6 ?_
   obtain ⟨hm, h3⟩ := asrt h1
   refine kJ 19 (tr2 := [([], []), ([], []), ([0, 1], []), ([], []), ([], []), ([], []), ([], [])]) (encI_len .u8) hm ?_
   refine kD 5 ?_
   obtain ⟨hm, h4⟩ := asrt h3
   refine RJ.rel (d := (some 25)) (ef := ⟨.vc 3, [1, 2], [(1, .gone), (3, .vec (s0.2.length + (([(IntKind.wrap .i32 ((IntKind.wrap .i64 ((IntKind.wrap .i64 x0.Zero_) + (IntKind.wrap .i64 (nth x1 s0.1))))))] : List Int)).length) 1 21 (s0.2.flatMap (encI .i32) ++ (([(IntKind.wrap .i32 ((IntKind.wrap .i64 ((IntKind.wrap .i64 x0.Zero_) + (IntKind.wrap .i64 (nth x1 s0.1))))))] : List Int)).flatMap (encI .i32)))]⟩) (ef' := ⟨.vc 3, [1, 2], [(1, .gone), (3, vecL (encI .i32) 1 21 (s0.2 ++ (([(IntKind.wrap .i32 ((IntKind.wrap .i64 ((IntKind.wrap .i64 x0.Zero_) + (IntKind.wrap .i64 (nth x1 s0.1))))))] : List Int))))]⟩) (c := room (s0.2.length + (([(IntKind.wrap .i32 ((IntKind.wrap .i64 ((IntKind.wrap .i64 x0.Zero_) + (IntKind.wrap .i64 (nth x1 s0.1))))))] : List Int)).length)) (tr2 := [([], []), ([], []), ([0, 1], []), ([], []), ([], []), ([], []), ([], []), ([], []), ([], []), ([], []), ([], []), ([], [4, 5, 4, 5]), ([2, 3, 4, 5], [2, 3, 6, 7, 6, 7])]) (H2 := [.box (encSt22 x0), .gone, vecL (encI .i32) 1 21 (([(IntKind.wrap .i32 ((IntKind.wrap .i64 ((IntKind.wrap .i64 x0.Zero_) + (IntKind.wrap .i64 (nth x1 s0.1))))))] : List Int)), vecL (encI .i32) 1 21 ((s0.2 ++ (([(IntKind.wrap .i32 ((IntKind.wrap .i64 ((IntKind.wrap .i64 x0.Zero_) + (IntKind.wrap .i64 (nth x1 s0.1))))))] : List Int))))]) (by kernel_rfl) hm (fun hc => N.app) (by kernel_rfl) ?_
   refine kD 1 ?_
   refine kE ?_
   refine PJ.blockNormal ?_
   refine PJ.next ?_
   refine kR ?_
   refine kC 3 [1,2,4,5,6] ?_
   refine kE ?_
   obtain rfl := oi h4
   refine kW (L2 := [(1, lsv (encI .u8) 1 x1), (2, .ptr 0 0), (4, .nl), (5, .vc 1), (6, .int .i64 (IntKind.wrap .i64 (s0.1 + 1)))]) (H2 := [.box (encSt22 x0), vecL (encI .i32) 1 21 ((s0.2 ++ (([(IntKind.wrap .i32 ((IntKind.wrap .i64 ((IntKind.wrap .i64 x0.Zero_) + (IntKind.wrap .i64 (nth x1 s0.1))))))] : List Int))))]) hFH hFD [0, 3] ?_
   exact kLN [1, 2, 4, 5, 6]
  ·refine kF ?_
   refine K.exit 0 (by kernel_rfl) ?_
   refine PJ.passExit ?_
   obtain rfl := oi h2
   refine PJ.loopOut (fun e => nomatch e) (fun he0 => ?_)
   have h5 := congrArg some he0
   refine PJ.blockOut ?_
   obtain rfl := oi h5
   refine kW (L2 := [(4, .nl), (5, .vc 0)]) (H2 := [vecL (encI .i32) 1 21 s0.2]) hFH hFD [1] ?_
   exact kN [4, 5]
 ·refine kSR ?_
  refine kC 2 [4] ?_
  refine kEN ?_
  refine kX ?_
  obtain rfl := oi h0
  refine PJ.wk (Wk.freeze 0 (n := s1.length) (k := 1) (e := 21) (cs := s1.flatMap (encI .i32)) (by kernel_rfl)) ?_
  exact kZ hFn hFH hFD
def exergueref17_Write (x0 : St22) (x1 : St25) (x2 : Int) (x3 : St28) : Option (List Int) :=
 (Option.bind (exergueref17_Figures x1 x2 x3) fun y2 => (Option.bind (exergueref13_Grouped x0 y2.1 x1.G1_ x1.G2_) fun y1 => (Option.bind (bif (decide ((y2.2.1.length : Int) > 0)) then (bif room (y1.length + ([x0.Dec_] : List Int).length) then (Option.bind (exergueref13_Digits x0 y2.2.1) fun y3 => (bif room ((y1 ++ ([x0.Dec_] : List Int)).length + y3.length) then (some (((y1 ++ ([x0.Dec_] : List Int)) ++ y3))) else none)) else none) else (some y1)) fun (s0 : (List Int)) => (bif (decide (x1.Exp_ = 0)) then (some s0) else (bif room (s0.length + ([x0.Exp_] : List Int).length) then (Option.bind (bif (decide (y2.2.2 < 0)) then (bif room ((s0 ++ ([x0.Exp_] : List Int)).length + ([x0.Minus_] : List Int).length) then (some ((IntKind.wrap .i64 (0 - y2.2.2)), ((s0 ++ ([x0.Exp_] : List Int)) ++ ([x0.Minus_] : List Int)))) else none) else (bif x1.ExpPlus_ then (bif room ((s0 ++ ([x0.Exp_] : List Int)).length + ([x0.Plus_] : List Int).length) then (some (y2.2.2, ((s0 ++ ([x0.Exp_] : List Int)) ++ ([x0.Plus_] : List Int)))) else none) else (some (y2.2.2, (s0 ++ ([x0.Exp_] : List Int)))))) fun (s3 : Int × (List Int)) => (Option.bind (exergueref05_Number big s3.1) fun y0 => (Option.bind (loopN (fun (s2 : Int × (List Int)) => (bif (decide (s2.1 < x1.Exp_)) then (bif room (s2.2.length + ([x0.Zero_] : List Int).length) then (some (.inl ((IntKind.wrap .i64 (s2.1 + 1)), (s2.2 ++ ([x0.Zero_] : List Int))))) else none) else (some (.inr s2.2)))) big ((y0.length : Int), s3.2)) fun (s5 : (List Int)) => (Option.bind (loopN (fun (s1 : Int × (List Int)) => (bif (decide (s1.1 < (y0.length : Int))) then (bif inR s1.1 y0.length then (bif room (s1.2.length + (([(IntKind.wrap .i32 ((IntKind.wrap .i64 ((IntKind.wrap .i64 x0.Zero_) + ((IntKind.wrap .i64 ((IntKind.wrap .u8 (((((y0.getD (s1.1 : Int).toNat 0).toNat : Nat) : Int)) - 48)))))))))] : List Int)).length) then (some (.inl ((IntKind.wrap .i64 (s1.1 + 1)), (s1.2 ++ (([(IntKind.wrap .i32 ((IntKind.wrap .i64 ((IntKind.wrap .i64 x0.Zero_) + ((IntKind.wrap .i64 ((IntKind.wrap .u8 (((((y0.getD (s1.1 : Int).toNat 0).toNat : Nat) : Int)) - 48)))))))))] : List Int)))))) else none) else none) else (some (.inr s1.2)))) big (0, s5)) fun (s4 : (List Int)) => (some s4))))) else none)))))
theorem exergueref17_Write_ok {x0 : St22} {x1 : St25} {x2 : Int} {x3 : St28} {r : List Int} (h : exergueref17_Write x0 x1 x2 x3 = some r) : SC Tryz.prog 17 [.agg (encSt22 x0), .agg (encSt25 x1), .int .i64 x2, .agg (encSt28 x3)] [] (lsv (encI .i32) 1 r) [] := by
 refine kFn (fn := Tryz.f17) (fun F hFn hFH hFD => ?_)
 unfold exergueref17_Write at h
 refine kSR ?_
 refine kC 4 [2,4,5,7,8] ?_
 refine kEN ?_
 refine kSR ?_
 refine kC 3 [4,5,8,17,18,19] ?_
 obtain ⟨y2, hy0, h0⟩ := bindS h
 refine kA 20 (exergueref17_Figures_ok hy0) ?_
 refine kC 7 [4,5,8,9,10,11] ?_
 refine kEN ?_
 refine kSR ?_
 refine kC 6 [4,5,8,10,11,24,25,27,29] ?_
 obtain ⟨y1, hy1, h1⟩ := bindS h0
 refine kCG (some 30) (args := [.agg (encSt22 x0), lsv (encI .u8) 1 y2.1, .int .i64 x1.G1_, .int .i64 x1.G2_]) (v := .vc 3) (H2 := [.box (encSt22 x0), .box (encSt25 x1), .box (encSt28 x3), vecL (encI .i32) 1 21 y1]) [] (exergueref13_Grouped_ok_o hy1) ?_
 refine kC 1 [4,5,8,10,11,12] ?_
 refine kEN ?_
 obtain ⟨s0, hy2, h2⟩ := bindS h1
 refine K.cutN (by kernel_rfl) (fun (s0 : (List Int)) => ([(4, .ptr 0 0), (5, .ptr 1 0), (8, .nl), (11, .int .i64 y2.2.2), (12, .vc 2)], [.box (encSt22 x0), .box (encSt25 x1), vecL (encI .i32) 1 21 s0])) s0 ?_ ?_
 ·refine kSR ?_
  refine kC 3 [4,5,8,10,11,12,33] ?_
  refine kEN ?_
  refine kBJ 33 hy2 (fun h3 => ?_) (fun h4 => ?_)
  ·refine kT ?_
   refine kSR ?_
   refine kC 4 [4,5,8,10,11,12,34,37] ?_
   obtain ⟨hm, h5⟩ := asrt h3
   refine RJ.rel (d := (some 38)) (ef := ⟨.vc 5, [3, 4], [(3, .gone), (5, .vec (y1.length + ([x0.Dec_] : List Int).length) 1 21 (y1.flatMap (encI .i32) ++ ([x0.Dec_] : List Int).flatMap (encI .i32)))]⟩) (ef' := ⟨.vc 5, [3, 4], [(3, .gone), (5, vecL (encI .i32) 1 21 (y1 ++ ([x0.Dec_] : List Int)))]⟩) (c := room (y1.length + ([x0.Dec_] : List Int).length)) (tr2 := []) (H2 := [.box (encSt22 x0), .box (encSt25 x1), .box (encSt28 x3), .gone, vecL (encI .i32) 1 21 ([x0.Dec_] : List Int), vecL (encI .i32) 1 21 (y1 ++ ([x0.Dec_] : List Int))]) (by kernel_rfl) hm (fun hc => N.app) (by kernel_rfl) ?_
   refine kC 1 [4,5,8,10,11,12] ?_
   refine kEN ?_
   refine kR ?_
   refine RJ.seg 3 [4, 5, 8, 11, 12, 39, 40, 41] (L2 := [(4, .ptr 0 0), (5, .ptr 1 0), (8, .nl), (11, .int .i64 y2.2.2), (12, .vc 5), (39, .vc 5), (40, .agg (encSt22 x0)), (41, lsv (encI .u8) 1 y2.2.1)]) (H2 := [.box (encSt22 x0), .box (encSt25 x1), .box (encSt28 x3), .gone, vecL (encI .i32) 1 21 ([x0.Dec_] : List Int), vecL (encI .i32) 1 21 (y1 ++ ([x0.Dec_] : List Int))]) (by kernel_rfl) ?_
   obtain ⟨y3, hy3, h6⟩ := bindS h5
   refine kA 42 (exergueref13_Digits_ok hy3) ?_
   obtain ⟨hm, h7⟩ := asrt h6
   refine RJ.rel (d := (some 43)) (ef := ⟨.vc 6, [5], [(5, .gone), (6, .vec ((y1 ++ ([x0.Dec_] : List Int)).length + y3.length) 1 21 ((y1 ++ ([x0.Dec_] : List Int)).flatMap (encI .i32) ++ y3.flatMap (encI .i32)))]⟩) (ef' := ⟨.vc 6, [5], [(5, .gone), (6, vecL (encI .i32) 1 21 ((y1 ++ ([x0.Dec_] : List Int)) ++ y3))]⟩) (c := room ((y1 ++ ([x0.Dec_] : List Int)).length + y3.length)) (tr2 := []) (H2 := [.box (encSt22 x0), .box (encSt25 x1), .box (encSt28 x3), .gone, vecL (encI .i32) 1 21 ([x0.Dec_] : List Int), .gone, vecL (encI .i32) 1 21 (((y1 ++ ([x0.Dec_] : List Int)) ++ y3))]) (by kernel_rfl) hm (fun hc => N.app) (by kernel_rfl) ?_
   refine kC 1 [4,5,8,11,12] ?_
   refine kE ?_
   obtain rfl := oi h7
   refine kW (L2 := [(4, .ptr 0 0), (5, .ptr 1 0), (8, .nl), (11, .int .i64 y2.2.2), (12, .vc 2)]) (H2 := [.box (encSt22 x0), .box (encSt25 x1), vecL (encI .i32) 1 21 (((y1 ++ ([x0.Dec_] : List Int)) ++ y3))]) hFH hFD [0, 1, 6] ?_
   exact kN [4, 5, 8, 11, 12]
  ·refine kF ?_
   refine kK ?_
   obtain rfl := oi h4
   refine kW (L2 := [(4, .ptr 0 0), (5, .ptr 1 0), (8, .nl), (11, .int .i64 y2.2.2), (12, .vc 2)]) (H2 := [.box (encSt22 x0), .box (encSt25 x1), vecL (encI .i32) 1 21 y1]) hFH hFD [0, 1, 3] ?_
   exact kN [4, 5, 8, 11, 12]
 ·refine kS ?_
  refine kSR ?_
  refine kC 3 [4,5,8,11,12,46] ?_
  refine kEN ?_
  refine kBJ 46 h2 (fun h8 => ?_) (fun h9 => ?_)
  ·refine kT ?_
   refine kSR ?_
   refine kC 2 [4,5,8,11,12] ?_
   refine kEN ?_
   refine kX ?_
   refine PJ.passRet ?_
   obtain rfl := oi h8
   refine PJ.wk (Wk.freeze 2 (n := s0.length) (k := 1) (e := 21) (cs := s0.flatMap (encI .i32)) (by kernel_rfl)) ?_
   exact kZ hFn hFH hFD
  ·refine kF ?_
   refine kK ?_
   refine PJ.next ?_
   refine kSR ?_
   refine kC 4 [4,5,8,11,12,48,51] ?_
   obtain ⟨hm, h10⟩ := asrt h9
   refine RJ.rel (d := (some 52)) (ef := ⟨.vc 4, [2, 3], [(2, .gone), (4, .vec (s0.length + ([x0.Exp_] : List Int).length) 1 21 (s0.flatMap (encI .i32) ++ ([x0.Exp_] : List Int).flatMap (encI .i32)))]⟩) (ef' := ⟨.vc 4, [2, 3], [(2, .gone), (4, vecL (encI .i32) 1 21 (s0 ++ ([x0.Exp_] : List Int)))]⟩) (c := room (s0.length + ([x0.Exp_] : List Int).length)) (tr2 := []) (H2 := [.box (encSt22 x0), .box (encSt25 x1), .gone, vecL (encI .i32) 1 21 ([x0.Exp_] : List Int), vecL (encI .i32) 1 21 (s0 ++ ([x0.Exp_] : List Int))]) (by kernel_rfl) hm (fun hc => N.app) (by kernel_rfl) ?_
   refine kC 1 [4,5,8,11,12] ?_
   refine kEN ?_
   obtain ⟨s3, hy4, h11⟩ := bindS h10
   refine K.cutN (by kernel_rfl) (fun (s3 : Int × (List Int)) => ([(4, .ptr 0 0), (5, .ptr 1 0), (8, .nl), (11, .int .i64 s3.1), (12, .vc 2)], [.box (encSt22 x0), .box (encSt25 x1), vecL (encI .i32) 1 21 s3.2])) s3 ?_ ?_
   ·refine kSR ?_
    refine kC 2 [4,5,8,11,12,54] ?_
    refine kEN ?_
    refine kBJ 54 hy4 (fun h12 => ?_) (fun h13 => ?_)
    ·refine kT ?_
     refine kSR ?_
     refine kC 4 [4,5,8,11,12,55,58] ?_
     obtain ⟨hm, h14⟩ := asrt h12
     refine RJ.rel (d := (some 59)) (ef := ⟨.vc 6, [4, 5], [(4, .gone), (6, .vec ((s0 ++ ([x0.Exp_] : List Int)).length + ([x0.Minus_] : List Int).length) 1 21 ((s0 ++ ([x0.Exp_] : List Int)).flatMap (encI .i32) ++ ([x0.Minus_] : List Int).flatMap (encI .i32)))]⟩) (ef' := ⟨.vc 6, [4, 5], [(4, .gone), (6, vecL (encI .i32) 1 21 ((s0 ++ ([x0.Exp_] : List Int)) ++ ([x0.Minus_] : List Int)))]⟩) (c := room ((s0 ++ ([x0.Exp_] : List Int)).length + ([x0.Minus_] : List Int).length)) (tr2 := []) (H2 := [.box (encSt22 x0), .box (encSt25 x1), .gone, vecL (encI .i32) 1 21 ([x0.Exp_] : List Int), .gone, vecL (encI .i32) 1 21 ([x0.Minus_] : List Int), vecL (encI .i32) 1 21 (((s0 ++ ([x0.Exp_] : List Int)) ++ ([x0.Minus_] : List Int)))]) (by kernel_rfl) hm (fun hc => N.app) (by kernel_rfl) ?_
     refine kC 1 [4,5,8,11,12] ?_
     refine kEN ?_
     refine kR ?_
     refine kC 3 [4,5,8,11,12] ?_
     refine kE ?_
     obtain rfl := oi h14
     refine kW (L2 := [(4, .ptr 0 0), (5, .ptr 1 0), (8, .nl), (11, .int .i64 (IntKind.wrap .i64 (0 - y2.2.2))), (12, .vc 2)]) (H2 := [.box (encSt22 x0), .box (encSt25 x1), vecL (encI .i32) 1 21 (((s0 ++ ([x0.Exp_] : List Int)) ++ ([x0.Minus_] : List Int)))]) hFH hFD [0, 1, 6] ?_
     exact kN [4, 5, 8, 11, 12]
    ·refine kF ?_
     refine kSR ?_
     refine kC 2 [4,5,8,11,12,63] ?_
     refine kEN ?_
     refine kBJ 63 h13 (fun h15 => ?_) (fun h16 => ?_)
     ·refine kT ?_
      refine kR ?_
      refine kC 4 [4,5,8,11,12,64,67] ?_
      obtain ⟨hm, h17⟩ := asrt h15
      refine RJ.rel (d := (some 68)) (ef := ⟨.vc 6, [4, 5], [(4, .gone), (6, .vec ((s0 ++ ([x0.Exp_] : List Int)).length + ([x0.Plus_] : List Int).length) 1 21 ((s0 ++ ([x0.Exp_] : List Int)).flatMap (encI .i32) ++ ([x0.Plus_] : List Int).flatMap (encI .i32)))]⟩) (ef' := ⟨.vc 6, [4, 5], [(4, .gone), (6, vecL (encI .i32) 1 21 ((s0 ++ ([x0.Exp_] : List Int)) ++ ([x0.Plus_] : List Int)))]⟩) (c := room ((s0 ++ ([x0.Exp_] : List Int)).length + ([x0.Plus_] : List Int).length)) (tr2 := []) (H2 := [.box (encSt22 x0), .box (encSt25 x1), .gone, vecL (encI .i32) 1 21 ([x0.Exp_] : List Int), .gone, vecL (encI .i32) 1 21 ([x0.Plus_] : List Int), vecL (encI .i32) 1 21 (((s0 ++ ([x0.Exp_] : List Int)) ++ ([x0.Plus_] : List Int)))]) (by kernel_rfl) hm (fun hc => N.app) (by kernel_rfl) ?_
      refine kC 1 [4,5,8,11,12] ?_
      refine kE ?_
      obtain rfl := oi h17
      refine kW (L2 := [(4, .ptr 0 0), (5, .ptr 1 0), (8, .nl), (11, .int .i64 y2.2.2), (12, .vc 2)]) (H2 := [.box (encSt22 x0), .box (encSt25 x1), vecL (encI .i32) 1 21 (((s0 ++ ([x0.Exp_] : List Int)) ++ ([x0.Plus_] : List Int)))]) hFH hFD [0, 1, 6] ?_
      exact kN [4, 5, 8, 11, 12]
     ·refine kF ?_
      refine kK ?_
      obtain rfl := oi h16
      refine kW (L2 := [(4, .ptr 0 0), (5, .ptr 1 0), (8, .nl), (11, .int .i64 y2.2.2), (12, .vc 2)]) (H2 := [.box (encSt22 x0), .box (encSt25 x1), vecL (encI .i32) 1 21 (s0 ++ ([x0.Exp_] : List Int))]) hFH hFD [0, 1, 4] ?_
      exact kN [4, 5, 8, 11, 12]
   ·refine kSR ?_
    refine kC 1 [4,5,8,12,69] ?_
    obtain ⟨y0, hy5, h18⟩ := bindS h11
    refine kA 70 (exergueref05_Number_ok big hy5) ?_
    refine kC 1 [4,5,8,12,13] ?_
    refine kEN ?_
    obtain ⟨s5, hy6, h19⟩ := bindS h18
    refine K.cutN (by kernel_rfl) (fun (s5 : (List Int)) => ([(4, .ptr 0 0), (8, .nl), (12, .vc 1), (13, .str y0)], [.box (encSt22 x0), vecL (encI .i32) 1 21 s5])) s5 ?_ ?_
    ·refine kSR ?_
     refine kC 3 [4,5,8,12,13,14] ?_
     refine kEN ?_
     refine kb 0 ?_
     refine kl (fun (s2 : Int × (List Int)) => ([(4, .ptr 0 0), (5, .ptr 1 0), (8, .nl), (12, .vc 2), (13, .str y0), (14, .int .i64 s2.1)], [.box (encSt22 x0), .box (encSt25 x1), vecL (encI .i32) 1 21 s2.2])) hy6 [4, 5, 8, 12, 13, 14] (fun s2 x96 hs0 => ?_)
     refine kS ?_
     refine kSR ?_
     refine kC 4 [4,5,8,12,13,14,76] ?_
     refine kEN ?_
     refine kBJ 76 hs0 (fun h20 => ?_) (fun h21 => ?_)
     ·refine kT ?_
      refine kK ?_
      refine PJ.next ?_
      refine kS ?_
      refine kb 1 ?_
      refine kR ?_
      refine kC 4 [4,5,8,12,13,14,79,82] ?_
      obtain ⟨hm, h22⟩ := asrt h20
      refine RJ.rel (d := (some 83)) (ef := ⟨.vc 4, [2, 3], [(2, .gone), (4, .vec (s2.2.length + ([x0.Zero_] : List Int).length) 1 21 (s2.2.flatMap (encI .i32) ++ ([x0.Zero_] : List Int).flatMap (encI .i32)))]⟩) (ef' := ⟨.vc 4, [2, 3], [(2, .gone), (4, vecL (encI .i32) 1 21 (s2.2 ++ ([x0.Zero_] : List Int)))]⟩) (c := room (s2.2.length + ([x0.Zero_] : List Int).length)) (tr2 := []) (H2 := [.box (encSt22 x0), .box (encSt25 x1), .gone, vecL (encI .i32) 1 21 ([x0.Zero_] : List Int), vecL (encI .i32) 1 21 (s2.2 ++ ([x0.Zero_] : List Int))]) (by kernel_rfl) hm (fun hc => N.app) (by kernel_rfl) ?_
      refine kC 1 [4,5,8,12,13,14] ?_
      refine kE ?_
      refine PJ.blockNormal ?_
      refine PJ.next ?_
      refine kR ?_
      refine kC 3 [4,5,8,12,13,14] ?_
      refine kE ?_
      obtain rfl := oi h22
      refine kW (L2 := [(4, .ptr 0 0), (5, .ptr 1 0), (8, .nl), (12, .vc 2), (13, .str y0), (14, .int .i64 (IntKind.wrap .i64 (s2.1 + 1)))]) (H2 := [.box (encSt22 x0), .box (encSt25 x1), vecL (encI .i32) 1 21 (s2.2 ++ ([x0.Zero_] : List Int))]) hFH hFD [0, 1, 4] ?_
      exact kLN [4, 5, 8, 12, 13, 14]
     ·refine kF ?_
      refine K.exit 0 (by kernel_rfl) ?_
      refine PJ.passExit ?_
      obtain rfl := oi h21
      refine PJ.loopOut (fun e => nomatch e) (fun he0 => ?_)
      have h23 := congrArg some he0
      refine PJ.blockOut ?_
      obtain rfl := oi h23
      refine kW (L2 := [(4, .ptr 0 0), (8, .nl), (12, .vc 1), (13, .str y0)]) (H2 := [.box (encSt22 x0), vecL (encI .i32) 1 21 s2.2]) hFH hFD [0, 2] ?_
      exact kN [4, 8, 12, 13]
    ·obtain ⟨s4, hy7, h24⟩ := bindS h19
     refine K.cutN (by kernel_rfl) (fun (s4 : (List Int)) => ([(8, .nl), (12, .vc 0)], [vecL (encI .i32) 1 21 s4])) s4 ?_ ?_
     ·refine kSR ?_
      refine kC 1 [4,8,12,13,15] ?_
      refine kEN ?_
      refine kb 2 ?_
      refine kl (fun (s1 : Int × (List Int)) => ([(4, .ptr 0 0), (8, .nl), (12, .vc 1), (13, .str y0), (15, .int .i64 s1.1)], [.box (encSt22 x0), vecL (encI .i32) 1 21 s1.2])) hy7 [4, 8, 12, 13, 15] (fun s1 x148 hs1 => ?_)
      refine kS ?_
      refine kSR ?_
      refine kC 4 [4,8,12,13,15,87] ?_
      refine kEN ?_
      refine kBJ 87 hs1 (fun h25 => ?_) (fun h26 => ?_)
      ·refine kT ?_
       refine kK ?_
       refine PJ.next ?_
       refine kS ?_
       refine kb 3 ?_
       refine J.keep [4, 8, 12, 13, 15] (L2 := [(4, .ptr 0 0), (8, .nl), (12, .vc 1), (13, .str y0), (15, .int .i64 s1.1)]) (by kernel_rfl) ?_
       refine K.draw (by kernel_rfl) (by kernel_rfl) (by kernel_rfl) (H2 := [.box (encSt22 x0), vecL (encI .i32) 1 21 s1.2, .res, .res]) (by kernel_rfl) (n := 2) (by kernel_rfl) ?_
       refine kD 6 ?_
       obtain ⟨hm, h27⟩ := asrt h25
       refine kQ 96 (.int .u8 (((y0.getD (s1.1 : Int).toNat 0).toNat : Nat) : Int)) [] (tr2 := [([], []), ([], []), ([0, 1], []), ([], []), ([], []), ([], []), ([], [])]) hm ?_
       refine kD 5 ?_
       obtain ⟨hm, h28⟩ := asrt h27
       refine RJ.rel (d := (some 102)) (ef := ⟨.vc 3, [1, 2], [(1, .gone), (3, .vec (s1.2.length + (([(IntKind.wrap .i32 ((IntKind.wrap .i64 ((IntKind.wrap .i64 x0.Zero_) + ((IntKind.wrap .i64 ((IntKind.wrap .u8 (((((y0.getD (s1.1 : Int).toNat 0).toNat : Nat) : Int)) - 48)))))))))] : List Int)).length) 1 21 (s1.2.flatMap (encI .i32) ++ (([(IntKind.wrap .i32 ((IntKind.wrap .i64 ((IntKind.wrap .i64 x0.Zero_) + ((IntKind.wrap .i64 ((IntKind.wrap .u8 (((((y0.getD (s1.1 : Int).toNat 0).toNat : Nat) : Int)) - 48)))))))))] : List Int)).flatMap (encI .i32)))]⟩) (ef' := ⟨.vc 3, [1, 2], [(1, .gone), (3, vecL (encI .i32) 1 21 (s1.2 ++ (([(IntKind.wrap .i32 ((IntKind.wrap .i64 ((IntKind.wrap .i64 x0.Zero_) + ((IntKind.wrap .i64 ((IntKind.wrap .u8 (((((y0.getD (s1.1 : Int).toNat 0).toNat : Nat) : Int)) - 48)))))))))] : List Int))))]⟩) (c := room (s1.2.length + (([(IntKind.wrap .i32 ((IntKind.wrap .i64 ((IntKind.wrap .i64 x0.Zero_) + ((IntKind.wrap .i64 ((IntKind.wrap .u8 (((((y0.getD (s1.1 : Int).toNat 0).toNat : Nat) : Int)) - 48)))))))))] : List Int)).length)) (tr2 := [([], []), ([], []), ([0, 1], []), ([], []), ([], []), ([], []), ([], []), ([], []), ([], []), ([], []), ([], []), ([], [4, 5, 4, 5]), ([2, 3, 4, 5], [2, 3, 6, 7, 6, 7])]) (H2 := [.box (encSt22 x0), .gone, vecL (encI .i32) 1 21 (([(IntKind.wrap .i32 ((IntKind.wrap .i64 ((IntKind.wrap .i64 x0.Zero_) + ((IntKind.wrap .i64 ((IntKind.wrap .u8 (((((y0.getD (s1.1 : Int).toNat 0).toNat : Nat) : Int)) - 48)))))))))] : List Int)), vecL (encI .i32) 1 21 ((s1.2 ++ (([(IntKind.wrap .i32 ((IntKind.wrap .i64 ((IntKind.wrap .i64 x0.Zero_) + ((IntKind.wrap .i64 ((IntKind.wrap .u8 (((((y0.getD (s1.1 : Int).toNat 0).toNat : Nat) : Int)) - 48)))))))))] : List Int))))]) (by kernel_rfl) hm (fun hc => N.app) (by kernel_rfl) ?_
       refine kD 1 ?_
       refine kE ?_
       refine PJ.blockNormal ?_
       refine PJ.next ?_
       refine kR ?_
       refine kC 3 [4,8,12,13,15] ?_
       refine kE ?_
       obtain rfl := oi h28
       refine kW (L2 := [(4, .ptr 0 0), (8, .nl), (12, .vc 1), (13, .str y0), (15, .int .i64 (IntKind.wrap .i64 (s1.1 + 1)))]) (H2 := [.box (encSt22 x0), vecL (encI .i32) 1 21 ((s1.2 ++ (([(IntKind.wrap .i32 ((IntKind.wrap .i64 ((IntKind.wrap .i64 x0.Zero_) + ((IntKind.wrap .i64 ((IntKind.wrap .u8 (((((y0.getD (s1.1 : Int).toNat 0).toNat : Nat) : Int)) - 48)))))))))] : List Int))))]) hFH hFD [0, 3] ?_
       exact kLN [4, 8, 12, 13, 15]
      ·refine kF ?_
       refine K.exit 2 (by kernel_rfl) ?_
       refine PJ.passExit ?_
       obtain rfl := oi h26
       refine PJ.loopOut (fun e => nomatch e) (fun he1 => ?_)
       have h29 := congrArg some he1
       refine PJ.blockOut ?_
       obtain rfl := oi h29
       refine kW (L2 := [(8, .nl), (12, .vc 0)]) (H2 := [vecL (encI .i32) 1 21 s1.2]) hFH hFD [1] ?_
       exact kN [8, 12]
     ·refine kSR ?_
      refine kC 2 [8] ?_
      refine kEN ?_
      refine kX ?_
      obtain rfl := oi h24
      refine PJ.wk (Wk.freeze 0 (n := s4.length) (k := 1) (e := 21) (cs := s4.flatMap (encI .i32)) (by kernel_rfl)) ?_
      exact kZ hFn hFH hFD
def exergueref01_Same (x0 : List Int) (x1 : List Int) : Option (Bool) :=
 (bif (decide (¬ (x0.length : Int) = (x1.length : Int))) then (some false) else (Option.bind (loopN (fun (s0 : Int) => (bif (decide (s0 < (x0.length : Int))) then (bif inR s0 x0.length then (bif inR s0 x1.length then (bif (decide (¬ (nth x0 s0) = (nth x1 s0))) then (some (.inr (.inr false))) else (some (.inl (IntKind.wrap .i64 (s0 + 1))))) else none) else none) else (some (.inr (.inl ()))))) big 0) (joinX fun (s1 : Unit) => (some true))))
theorem exergueref01_Same_ok {x0 : List Int} {x1 : List Int} {r : Bool} (h : exergueref01_Same x0 x1 = some r) : SC Tryz.prog 15 [lsv (encI .i32) 1 x0, lsv (encI .i32) 1 x1] [] (.bool r) [] := by
 refine kFn (fn := Tryz.f15) (fun F hFn hFH hFD => ?_)
 unfold exergueref01_Same at h
 refine kSR ?_
 refine kC 1 [0,1,4] ?_
 refine kEN ?_
 refine kS ?_
 refine kSR ?_
 refine kC 5 [0,1,4,10] ?_
 refine kEN ?_
 refine kBJ 10 h (fun h1 => ?_) (fun h2 => ?_)
 ·refine kT ?_
  refine kSR ?_
  refine kC 1 [0,1,4] ?_
  refine kEN ?_
  refine kX ?_
  refine PJ.passRet ?_
  obtain rfl := oi h1
  exact kZ hFn hFH hFD
 ·refine kF ?_
  refine kK ?_
  refine PJ.next ?_
  obtain ⟨y0, hy0, h0⟩ := bindS h2
  refine K.cutX (by kernel_rfl) (fun (s1 : Unit) => ([(4, .bool false)], [])) y0 ?_ (fun s1 hs => ?_)
  ·refine kSR ?_
   refine kC 1 [0,1,4,5] ?_
   refine kEN ?_
   refine kb 0 ?_
   refine kl (fun (s0 : Int) => ([(0, lsv (encI .i32) 1 x0), (1, lsv (encI .i32) 1 x1), (4, .bool false), (5, .int .i64 s0)], [])) hy0 [0, 1, 4, 5] (fun s0 x79 hs0 => ?_)
   refine kS ?_
   refine kSR ?_
   refine kC 4 [0,1,4,5,14] ?_
   refine kEN ?_
   refine kBJ 14 hs0 (fun h3 => ?_) (fun h4 => ?_)
   ·refine kT ?_
    refine kK ?_
    refine PJ.next ?_
    refine kS ?_
    refine kb 1 ?_
    refine kS ?_
    refine J.keep [0, 1, 4, 5] (L2 := [(0, lsv (encI .i32) 1 x0), (1, lsv (encI .i32) 1 x1), (4, .bool false), (5, .int .i64 s0)]) (by kernel_rfl) ?_
    refine K.draw (by kernel_rfl) (by kernel_rfl) (by kernel_rfl) (H2 := []) (by kernel_rfl) (n := 0) (by kernel_rfl) ?_
    refine kD 2 ?_
    obtain ⟨hm, h5⟩ := asrt h3
    refine kJ 19 (tr2 := [([], []), ([], []), ([], [])]) (encI_len .i32) hm ?_
    refine kD 3 ?_
    obtain ⟨hm, h6⟩ := asrt h5
    refine kJ 23 (tr2 := [([], []), ([], []), ([], []), ([], []), ([], []), ([], []), ([], [])]) (encI_len .i32) hm ?_
    refine kD 2 ?_
    refine kEN ?_
    refine kBJ 25 h6 (fun h7 => ?_) (fun h8 => ?_)
    ·refine kT ?_
     refine kSR ?_
     refine kC 1 [0,1,4,5] ?_
     refine kEN ?_
     refine kX ?_
     refine PJ.blockRet ?_
     refine PJ.passRet ?_
     obtain rfl := oi h7
     refine PJ.loopOut (fun e => nomatch e) (fun he0 => ?_)
     have h9 := congrArg some he0
     refine PJ.blockRet ?_
     obtain rfl := oi h9
     have h10 := joinX_inr h0
     refine PJ.cutXr (fun e => nomatch e) ?_
     obtain rfl := oi h10
     exact kZ hFn hFH hFD
    ·refine kF ?_
     refine kK ?_
     refine PJ.blockNormal ?_
     refine PJ.next ?_
     refine kR ?_
     refine kC 3 [0,1,4,5] ?_
     refine kE ?_
     obtain rfl := oi h8
     exact kLN [0, 1, 4, 5]
   ·refine kF ?_
    refine K.exit 0 (by kernel_rfl) ?_
    refine PJ.passExit ?_
    obtain rfl := oi h4
    refine PJ.loopOut (fun e => nomatch e) (fun he1 => ?_)
    have h11 := congrArg some he1
    refine PJ.blockOut ?_
    obtain rfl := oi h11
    exact kXl [4]
  ·subst hs
   have h12 := joinX_inl h0
   refine kSR ?_
   refine kC 1 [4] ?_
   refine kEN ?_
   refine kX ?_
   obtain rfl := oi h12
   exact kZ hFn hFH hFD
def exerguelaw17_ShapeWrites (x0 : St30) : Option (Bool) :=
 (Option.bind exerguelaw17_shown fun y0 => (Option.bind (Option.bind (Option.bind (exerguelaw17_of x0.P_ x0.Digits_) fun y8 => (bif (!y8) then (some true) else (Option.bind (exergueref13_Good x0.S_) fun y10 => (bif (!y10) then (some true) else (Option.bind (exergueref06_Near x0.D_) fun y9 => (some (!y9))))))) fun (s0 : Bool) => (bif s0 then (some (.inr y0)) else (some (.inl ())))) (joinX fun (s3 : Unit) => (Option.bind (shape_Round x0.P_ x0.Digits_ x0.D_ x0.Mode_) fun y3 => (Option.bind (exergueref17_Round x0.P_ x0.Digits_ x0.D_ x0.Mode_) fun y4 => (Option.bind (shape_Figures x0.P_ x0.Digits_ x0.D_) fun y1 => (Option.bind (exergueref17_Figures x0.P_ x0.Digits_ x0.D_) fun y2 => (Option.bind (Option.bind (Option.bind (exergueref05_Same y3.1 y4.1) fun y11 => (bif (!y11) then (some true) else (bif (decide (¬ y3.2 = y4.2)) then (some true) else (Option.bind (exergueref01_Row y1.1 y2.1) fun y12 => (bif (!y12) then (some true) else (Option.bind (exergueref01_Row y1.2.1 y2.2.1) fun y13 => (bif (!y13) then (some true) else (some (decide (¬ y1.2.2 = y2.2.2)))))))))) fun (s1 : Bool) => (bif s1 then (some (.inr false)) else (some (.inl ())))) (joinX fun (s4 : Unit) => (Option.bind (bif y0 then (Option.bind (shape_Write x0.S_ x0.P_ x0.Digits_ x0.D_) fun y5 => (Option.bind (exergueref17_Write x0.S_ x0.P_ x0.Digits_ x0.D_) fun y6 => (Option.bind (exergueref01_Same y5 y6) fun y7 => (some y7)))) else (some false)) fun (s2 : Bool) => (some s2)))))))))))
theorem exerguelaw17_ShapeWrites_ok {x0 : St30} {r : Bool} (h : exerguelaw17_ShapeWrites x0 = some r) : SC Tryz.prog 3 [.agg (encSt30 x0)] [] (.bool r) [] := by
 refine kFn (fn := Tryz.f3) (fun F hFn hFH hFD => ?_)
 unfold exerguelaw17_ShapeWrites at h
 refine kSR ?_
 refine kC 2 [1,2] ?_
 refine kEN ?_
 refine kSR ?_
 refine kC 4 [1,2,3] ?_
 refine kEN ?_
 refine kSR ?_
 refine kC 4 [1,2,3,4] ?_
 refine kEN ?_
 refine kSR ?_
 refine kC 3 [1,2,3,4,5] ?_
 refine kEN ?_
 refine kSR ?_
 refine kC 4 [1,2,3,4,5,6] ?_
 refine kEN ?_
 refine kSR ?_
 refine kC 3 [2,3,4,5,6,7] ?_
 refine kEN ?_
 refine kSR ?_
 obtain ⟨y0, hy0, h2⟩ := bindS h
 refine kA 29 (exerguelaw17_shown_ok hy0) ?_
 refine kC 1 [2,3,4,5,6,7,8] ?_
 refine kEN ?_
 obtain ⟨y14, hy1, h0⟩ := bindS h2
 refine K.cutX (by kernel_rfl) (fun (s3 : Unit) => ([(2, .bool false), (3, .ptr 0 0), (4, .ptr 1 0), (5, .int .i64 x0.Digits_), (6, .ptr 2 0), (7, .int .i64 x0.Mode_), (8, .bool y0)], [.box (encSt22 x0.S_), .box (encSt25 x0.P_), .box (encSt28 x0.D_)])) y14 ?_ (fun s3 hs => ?_)
 ·obtain ⟨s0, hy2, h3⟩ := bindS hy1
  refine K.cutN (by kernel_rfl) (fun (s0 : Bool) => ([(2, .bool false), (3, .ptr 0 0), (4, .ptr 1 0), (5, .int .i64 x0.Digits_), (6, .ptr 2 0), (7, .int .i64 x0.Mode_), (8, .bool y0), (43, .bool s0)], [.box (encSt22 x0.S_), .box (encSt25 x0.P_), .box (encSt28 x0.D_)])) s0 ?_ ?_
  ·refine kR ?_
   refine kC 2 [2,3,4,5,6,7,8,30,31] ?_
   obtain ⟨y8, hy3, h4⟩ := bindS hy2
   refine kA 32 (exerguelaw17_of_ok hy3) ?_
   refine RJ.seg 2 [2, 3, 4, 5, 6, 7, 8, 34] (L2 := [(2, .bool false), (3, .ptr 1 0), (4, .ptr 2 0), (5, .int .i64 x0.Digits_), (6, .ptr 3 0), (7, .int .i64 x0.Mode_), (8, .bool y0), (34, .bool (!y8))]) (H2 := [.box (encSt30 x0), .box (encSt22 x0.S_), .box (encSt25 x0.P_), .box (encSt28 x0.D_)]) (by kernel_rfl) ?_
   refine kB 34 h4 (fun h5 => ?_) (fun h6 => ?_)
   ·refine kC 9 [2,3,4,5,6,7,8,43] ?_
    refine kE ?_
    obtain rfl := oi h5
    refine kW (L2 := [(2, .bool false), (3, .ptr 0 0), (4, .ptr 1 0), (5, .int .i64 x0.Digits_), (6, .ptr 2 0), (7, .int .i64 x0.Mode_), (8, .bool y0), (43, .bool true)]) (H2 := [.box (encSt22 x0.S_), .box (encSt25 x0.P_), .box (encSt28 x0.D_)]) hFH hFD [1, 2, 3] ?_
    exact kN [2, 3, 4, 5, 6, 7, 8, 43]
   ·refine kC 1 [2,3,4,5,6,7,8,34,35] ?_
    obtain ⟨y10, hy4, h7⟩ := bindS h6
    refine kA 36 (exergueref13_Good_ok hy4) ?_
    refine kC 3 [2,3,4,5,6,7,8,39] ?_
    refine kB 39 h7 (fun h8 => ?_) (fun h9 => ?_)
    ·refine kC 4 [2,3,4,5,6,7,8,43] ?_
     refine kE ?_
     obtain rfl := oi h8
     refine kW (L2 := [(2, .bool false), (3, .ptr 0 0), (4, .ptr 1 0), (5, .int .i64 x0.Digits_), (6, .ptr 2 0), (7, .int .i64 x0.Mode_), (8, .bool y0), (43, .bool true)]) (H2 := [.box (encSt22 x0.S_), .box (encSt25 x0.P_), .box (encSt28 x0.D_)]) hFH hFD [1, 2, 3] ?_
     exact kN [2, 3, 4, 5, 6, 7, 8, 43]
    ·refine kC 1 [2,3,4,5,6,7,8,39,40] ?_
     obtain ⟨y9, hy5, h10⟩ := bindS h9
     refine kA 41 (exergueref06_Near_ok hy5) ?_
     refine kC 2 [2,3,4,5,6,7,8,43] ?_
     refine kE ?_
     obtain rfl := oi h10
     refine kW (L2 := [(2, .bool false), (3, .ptr 0 0), (4, .ptr 1 0), (5, .int .i64 x0.Digits_), (6, .ptr 2 0), (7, .int .i64 x0.Mode_), (8, .bool y0), (43, .bool (!y9))]) (H2 := [.box (encSt22 x0.S_), .box (encSt25 x0.P_), .box (encSt28 x0.D_)]) hFH hFD [1, 2, 3] ?_
     exact kN [2, 3, 4, 5, 6, 7, 8, 43]
  ·refine kBJ 43 h3 (fun h11 => ?_) (fun h12 => ?_)
   ·refine kT ?_
    refine kSR ?_
    refine kC 2 [2,3,4,5,6,7,8] ?_
    refine kEN ?_
    refine kX ?_
    obtain rfl := oi h11
    have h13 := joinX_inr h0
    refine PJ.cutXr (fun e => nomatch e) ?_
    obtain rfl := oi h13
    exact kZ hFn hFH hFD
   ·refine kF ?_
    refine kK ?_
    obtain rfl := oi h12
    exact kXl [2, 3, 4, 5, 6, 7, 8]
 ·subst hs
  have h14 := joinX_inl h0
  refine kSR ?_
  refine kC 4 [2,3,4,5,6,7,8,46,47,48,49] ?_
  obtain ⟨y3, hy6, h15⟩ := bindS h14
  refine kA 50 (shape_Round_ok hy6) ?_
  refine kC 6 [2,3,4,5,6,7,8,9,10] ?_
  refine kEN ?_
  refine kSR ?_
  refine kC 4 [2,3,4,5,6,8,9,10,54,55,56,57] ?_
  obtain ⟨y4, hy7, h16⟩ := bindS h15
  refine kA 58 (exergueref17_Round_ok hy7) ?_
  refine kC 6 [2,3,4,5,6,8,9,10,11,12] ?_
  refine kEN ?_
  refine kSR ?_
  refine kC 3 [2,3,4,5,6,8,9,10,11,12,62,63,64] ?_
  obtain ⟨y1, hy8, h17⟩ := bindS h16
  refine kA 65 (shape_Figures_ok hy8) ?_
  refine kC 7 [2,3,4,5,6,8,9,10,11,12,13,14,15] ?_
  refine kEN ?_
  refine kSR ?_
  refine kC 3 [2,3,4,5,6,8,9,10,11,12,13,14,15,70,71,72] ?_
  obtain ⟨y2, hy9, h18⟩ := bindS h17
  refine kA 73 (exergueref17_Figures_ok hy9) ?_
  refine kC 7 [2,3,4,5,6,8,9,10,11,12,13,14,15,16,17,18] ?_
  refine kEN ?_
  obtain ⟨y15, hy10, h1⟩ := bindS h18
  refine K.cutX (by kernel_rfl) (fun (s4 : Unit) => ([(2, .bool false), (3, .ptr 0 0), (4, .ptr 1 0), (5, .int .i64 x0.Digits_), (6, .ptr 2 0), (8, .bool y0)], [.box (encSt22 x0.S_), .box (encSt25 x0.P_), .box (encSt28 x0.D_)])) y15 ?_ (fun s4 hs => ?_)
  ·obtain ⟨s1, hy11, h19⟩ := bindS hy10
   refine K.cutN (by kernel_rfl) (fun (s1 : Bool) => ([(2, .bool false), (3, .ptr 0 0), (4, .ptr 1 0), (5, .int .i64 x0.Digits_), (6, .ptr 2 0), (8, .bool y0), (102, .bool s1)], [.box (encSt22 x0.S_), .box (encSt25 x0.P_), .box (encSt28 x0.D_)])) s1 ?_ ?_
   ·refine kR ?_
    refine RJ.seg 2 [2, 3, 4, 5, 6, 8, 10, 12, 13, 14, 15, 16, 17, 18, 77, 78] (L2 := [(2, .bool false), (3, .ptr 0 0), (4, .ptr 1 0), (5, .int .i64 x0.Digits_), (6, .ptr 2 0), (8, .bool y0), (10, .int .i64 y3.2), (12, .int .i64 y4.2), (13, lsv (encI .u8) 1 y1.1), (14, lsv (encI .u8) 1 y1.2.1), (15, .int .i64 y1.2.2), (16, lsv (encI .u8) 1 y2.1), (17, lsv (encI .u8) 1 y2.2.1), (18, .int .i64 y2.2.2), (77, .agg (encSt28 y3.1)), (78, .agg (encSt28 y4.1))]) (H2 := [.box (encSt22 x0.S_), .box (encSt25 x0.P_), .box (encSt28 x0.D_), .box (encSt28 y3.1), .box (encSt28 y4.1)]) (by kernel_rfl) ?_
    obtain ⟨y11, hy12, h20⟩ := bindS hy11
    refine kA 79 (exergueref05_Same_ok hy12) ?_
    refine kC 2 [2,3,4,5,6,8,10,12,13,14,15,16,17,18,81] ?_
    refine kB 81 h20 (fun h21 => ?_) (fun h22 => ?_)
    ·refine kC 21 [2,3,4,5,6,8,102] ?_
     refine kE ?_
     obtain rfl := oi h21
     refine kW (L2 := [(2, .bool false), (3, .ptr 0 0), (4, .ptr 1 0), (5, .int .i64 x0.Digits_), (6, .ptr 2 0), (8, .bool y0), (102, .bool true)]) (H2 := [.box (encSt22 x0.S_), .box (encSt25 x0.P_), .box (encSt28 x0.D_)]) hFH hFD [0, 1, 2] ?_
     exact kN [2, 3, 4, 5, 6, 8, 102]
    ·refine kC 5 [2,3,4,5,6,8,13,14,15,16,17,18,86] ?_
     refine kB 86 h22 (fun h23 => ?_) (fun h24 => ?_)
     ·refine kC 16 [2,3,4,5,6,8,102] ?_
      refine kE ?_
      obtain rfl := oi h23
      refine kW (L2 := [(2, .bool false), (3, .ptr 0 0), (4, .ptr 1 0), (5, .int .i64 x0.Digits_), (6, .ptr 2 0), (8, .bool y0), (102, .bool true)]) (H2 := [.box (encSt22 x0.S_), .box (encSt25 x0.P_), .box (encSt28 x0.D_)]) hFH hFD [0, 1, 2] ?_
      exact kN [2, 3, 4, 5, 6, 8, 102]
     ·refine kC 2 [2,3,4,5,6,8,14,15,17,18,86,87,88] ?_
      obtain ⟨y12, hy13, h25⟩ := bindS h24
      refine kA 89 (exergueref01_Row_ok hy13) ?_
      refine kC 3 [2,3,4,5,6,8,14,15,17,18,92] ?_
      refine kB 92 h25 (fun h26 => ?_) (fun h27 => ?_)
      ·refine kC 10 [2,3,4,5,6,8,102] ?_
       refine kE ?_
       obtain rfl := oi h26
       refine kW (L2 := [(2, .bool false), (3, .ptr 0 0), (4, .ptr 1 0), (5, .int .i64 x0.Digits_), (6, .ptr 2 0), (8, .bool y0), (102, .bool true)]) (H2 := [.box (encSt22 x0.S_), .box (encSt25 x0.P_), .box (encSt28 x0.D_)]) hFH hFD [0, 1, 2] ?_
       exact kN [2, 3, 4, 5, 6, 8, 102]
      ·refine kC 2 [2,3,4,5,6,8,15,18,92,93,94] ?_
       obtain ⟨y13, hy14, h28⟩ := bindS h27
       refine kA 95 (exergueref01_Row_ok hy14) ?_
       refine kC 3 [2,3,4,5,6,8,15,18,98] ?_
       refine kB 98 h28 (fun h29 => ?_) (fun h30 => ?_)
       ·refine kC 4 [2,3,4,5,6,8,102] ?_
        refine kE ?_
        obtain rfl := oi h29
        refine kW (L2 := [(2, .bool false), (3, .ptr 0 0), (4, .ptr 1 0), (5, .int .i64 x0.Digits_), (6, .ptr 2 0), (8, .bool y0), (102, .bool true)]) (H2 := [.box (encSt22 x0.S_), .box (encSt25 x0.P_), .box (encSt28 x0.D_)]) hFH hFD [0, 1, 2] ?_
        exact kN [2, 3, 4, 5, 6, 8, 102]
       ·refine kC 4 [2,3,4,5,6,8,102] ?_
        refine kE ?_
        obtain rfl := oi h30
        refine kW (L2 := [(2, .bool false), (3, .ptr 0 0), (4, .ptr 1 0), (5, .int .i64 x0.Digits_), (6, .ptr 2 0), (8, .bool y0), (102, .bool (decide (¬ y1.2.2 = y2.2.2)))]) (H2 := [.box (encSt22 x0.S_), .box (encSt25 x0.P_), .box (encSt28 x0.D_)]) hFH hFD [0, 1, 2] ?_
        exact kN [2, 3, 4, 5, 6, 8, 102]
   ·refine kBJ 102 h19 (fun h31 => ?_) (fun h32 => ?_)
    ·refine kT ?_
     refine kSR ?_
     refine kC 1 [2,3,4,5,6,8] ?_
     refine kEN ?_
     refine kX ?_
     obtain rfl := oi h31
     have h33 := joinX_inr h1
     refine PJ.cutXr (fun e => nomatch e) ?_
     obtain rfl := oi h33
     exact kZ hFn hFH hFD
    ·refine kF ?_
     refine kK ?_
     obtain rfl := oi h32
     exact kXl [2, 3, 4, 5, 6, 8]
  ·subst hs
   have h34 := joinX_inl h1
   obtain ⟨s2, hy15, h35⟩ := bindS h34
   refine K.cutN (by kernel_rfl) (fun (s2 : Bool) => ([(2, .bool s2)], [])) s2 ?_ ?_
   ·refine J.keep [2, 3, 4, 5, 6, 8] (L2 := [(2, .bool false), (3, .ptr 0 0), (4, .ptr 1 0), (5, .int .i64 x0.Digits_), (6, .ptr 2 0), (8, .bool y0)]) (by kernel_rfl) ?_
    refine K.draw (by kernel_rfl) (by kernel_rfl) (by kernel_rfl) (H2 := [.box (encSt22 x0.S_), .box (encSt25 x0.P_), .box (encSt28 x0.D_), .res, .res, .res]) (by kernel_rfl) (n := 3) (by kernel_rfl) ?_
    refine kD 2 ?_
    refine kB 104 hy15 (fun h36 => ?_) (fun h37 => ?_)
    ·refine kD 4 ?_
     obtain ⟨y5, hy16, h38⟩ := bindS h36
     refine RJ.call0 (d := (some 109)) (f := 16) (args := [.agg (encSt22 x0.S_), .agg (encSt25 x0.P_), .int .i64 x0.Digits_, .agg (encSt28 x0.D_)]) (v := lsv (encI .i32) 1 y5) (tr2 := [([], []), ([], []), ([0, 1], []), ([2, 3], []), ([], []), ([4, 5], []), ([], [6, 7])]) (by kernel_rfl) (by kernel_rfl) (.cons (Le.refl _) (.cons (Le.refl _) (.cons (Le.refl _) (.cons (Le.refl _) .nil)))) (shape_Write_ok hy16) (by kernel_rfl) ?_
     refine kD 4 ?_
     obtain ⟨y6, hy17, h39⟩ := bindS h38
     refine RJ.call0 (d := (some 114)) (f := 17) (args := [.agg (encSt22 x0.S_), .agg (encSt25 x0.P_), .int .i64 x0.Digits_, .agg (encSt28 x0.D_)]) (v := lsv (encI .i32) 1 y6) (tr2 := [([], []), ([], []), ([0, 1], []), ([2, 3], []), ([], []), ([4, 5], []), ([], [6, 7]), ([0, 1], []), ([2, 3], []), ([], []), ([4, 5], []), ([], [8, 9])]) (by kernel_rfl) (by kernel_rfl) (.cons (Le.refl _) (.cons (Le.refl _) (.cons (Le.refl _) (.cons (Le.refl _) .nil)))) (exergueref17_Write_ok hy17) (by kernel_rfl) ?_
     obtain ⟨y7, hy18, h40⟩ := bindS h39
     refine RJ.call0 (d := (some 115)) (f := 15) (args := [lsv (encI .i32) 1 y5, lsv (encI .i32) 1 y6]) (v := .bool y7) (tr2 := [([], []), ([], []), ([0, 1], []), ([2, 3], []), ([], []), ([4, 5], []), ([], [6, 7]), ([0, 1], []), ([2, 3], []), ([], []), ([4, 5], []), ([], [8, 9]), ([], [10, 11])]) (by kernel_rfl) (by kernel_rfl) (.cons (Le.refl _) (.cons (Le.refl _) .nil)) (exergueref01_Same_ok hy18) (by kernel_rfl) ?_
     refine kD 2 ?_
     refine kE ?_
     obtain rfl := oi h40
     refine kW (L2 := [(2, .bool y7)]) (H2 := []) hFH hFD [] ?_
     exact kN [2]
    ·refine kD 13 ?_
     refine kE ?_
     obtain rfl := oi h37
     refine kW (L2 := [(2, .bool false)]) (H2 := []) hFH hFD [] ?_
     exact kN [2]
   ·refine kX ?_
    obtain rfl := oi h35
    exact kZ hFn hFH hFD
end Go.Proofs.YtcmmjficmoflkaaGreat
