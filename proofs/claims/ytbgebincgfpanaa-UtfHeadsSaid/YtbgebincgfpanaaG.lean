/-
  What the functions of this program come to, as functions of natives, each with the proof that it does. No conditions.
-/
import Derived.Test.YtbgebincgfpanaaProg
import Derived.Test.YtbgebincgfpanaaSyV
namespace Go.Proofs.Ytbgebincgfpanaa
open Go Go.Sy Go.RowKit
set_option linter.unusedVariables false
set_option maxRecDepth 100000

def utf_Is (x0 : Int) : Option (Bool) :=
  (Option.bind (bif (decide (x0 ≥ 0)) then (bif (decide (x0 ≤ 1114111)) then (bif (decide (x0 < 55296)) then (some true) else (some (decide (x0 > 57343)))) else (some false)) else (some false)) fun (s10 : Bool) => (some s10))
theorem utf_Is_ok {x0 : Int} {r : Bool} (h : utf_Is x0 = some r) : SC Try.prog 11 [.int .i32 x0] [] (.bool r) [] := by
  refine K.fn (fn := Try.f11) (by kernel_rfl) (by kernel_rfl) (by kernel_rfl) (by kernel_rfl) (by kernel_rfl) (fun F hFn hFH hFD => ?_)
  unfold utf_Is at h
  refine K.seq (by kernel_rfl) ?_
  refine K.region (by kernel_rfl) ?_
  refine RJ.seg 1 [0, 2] (L2 := [(0, .int .i32 x0), (2, .bool false)]) (H2 := []) (by kernel_rfl) ?_
  refine RJ.end (by kernel_rfl) ?_
  refine PJ.next ?_
  obtain ⟨s10, hy12, h14⟩ := bindS h
  refine K.cutN (by kernel_rfl) (fun (s10 : Bool) => ([(2, .bool s10)], [])) s10 ?_ ?_
  · refine K.region (by kernel_rfl) ?_
    refine RJ.seg 3 [0, 2, 5] (L2 := [(0, .int .i32 x0), (2, .bool false), (5, .bool (decide (x0 ≥ 0)))]) (H2 := []) (by kernel_rfl) ?_
    refine RJ.caseB 5 (b := (decide (x0 ≥ 0))) (by kernel_rfl) (fun hb15 => ?_) (fun hb15 => ?_)
    · have h16 := condT hb15 hy12
      refine RJ.seg 4 [0, 2, 9] (L2 := [(0, .int .i32 x0), (2, .bool false), (9, .bool (decide (x0 ≤ 1114111)))]) (H2 := []) (by kernel_rfl) ?_
      refine RJ.caseB 9 (b := (decide (x0 ≤ 1114111))) (by kernel_rfl) (fun hb18 => ?_) (fun hb18 => ?_)
      · have h19 := condT hb18 h16
        refine RJ.seg 3 [0, 2, 9, 12] (L2 := [(0, .int .i32 x0), (2, .bool false), (9, .bool true), (12, .bool (decide (x0 < 55296)))]) (H2 := []) (by kernel_rfl) ?_
        refine RJ.caseB 12 (b := (decide (x0 < 55296))) (by kernel_rfl) (fun hb21 => ?_) (fun hb21 => ?_)
        · have h22 := condT hb21 h19
          refine RJ.seg 5 [2] (L2 := [(2, .bool true)]) (H2 := []) (by kernel_rfl) ?_
          refine RJ.end (by kernel_rfl) ?_
          obtain rfl := Option.some.inj h22
          exact PJ.cutN [2] (by kernel_rfl) (by kernel_rfl)
        · have h23 := condF hb21 h19
          refine RJ.seg 5 [2] (L2 := [(2, .bool (decide (x0 > 57343)))]) (H2 := []) (by kernel_rfl) ?_
          refine RJ.end (by kernel_rfl) ?_
          obtain rfl := Option.some.inj h23
          exact PJ.cutN [2] (by kernel_rfl) (by kernel_rfl)
      · have h20 := condF hb18 h16
        refine RJ.seg 8 [2] (L2 := [(2, .bool false)]) (H2 := []) (by kernel_rfl) ?_
        refine RJ.end (by kernel_rfl) ?_
        obtain rfl := Option.some.inj h20
        exact PJ.cutN [2] (by kernel_rfl) (by kernel_rfl)
    · have h17 := condF hb15 hy12
      refine RJ.seg 12 [2] (L2 := [(2, .bool false)]) (H2 := []) (by kernel_rfl) ?_
      refine RJ.end (by kernel_rfl) ?_
      obtain rfl := Option.some.inj h17
      exact PJ.cutN [2] (by kernel_rfl) (by kernel_rfl)
  · refine K.ret (by kernel_rfl) ?_
    obtain rfl := Option.some.inj h14
    exact K.ret0 (.inr rfl) hFn hFH hFD (by kernel_rfl) (by kernel_rfl) (by kernel_rfl)

def utf_Size (x0 : Int) : Option (Int) :=
  (Option.bind (utf_Is x0) fun y1 => (bif (!y1) then (some 0) else (bif (decide (x0 < 128)) then (some 1) else (bif (decide (x0 < 2048)) then (some 2) else (bif (decide (x0 < 65536)) then (some 3) else (some 4))))))
theorem utf_Size_ok {x0 : Int} {r : Int} (h : utf_Size x0 = some r) : SC Try.prog 13 [.int .i32 x0] [] (.int .i64 r) [] := by
  refine K.fn (fn := Try.f13) (by kernel_rfl) (by kernel_rfl) (by kernel_rfl) (by kernel_rfl) (by kernel_rfl) (fun F hFn hFH hFD => ?_)
  unfold utf_Size at h
  refine K.seq (by kernel_rfl) ?_
  refine K.region (by kernel_rfl) ?_
  refine RJ.seg 1 [0, 2] (L2 := [(0, .int .i32 x0), (2, .int .i64 0)]) (H2 := []) (by kernel_rfl) ?_
  refine RJ.end (by kernel_rfl) ?_
  refine PJ.next ?_
  refine K.seq (by kernel_rfl) ?_
  refine K.block 0 (by kernel_rfl) ?_
  refine K.seq (by kernel_rfl) ?_
  refine K.region (by kernel_rfl) ?_
  refine RJ.seg 1 [0, 2, 4] (L2 := [(0, .int .i32 x0), (2, .int .i64 0), (4, .int .i32 x0)]) (H2 := []) (by kernel_rfl) ?_
  obtain ⟨y1, hy2, h3⟩ := bindS h
  refine RJ.call0 (d := (some 5)) (f := 11) (args := [.int .i32 x0]) (v := .bool y1) (tr2 := []) (by kernel_rfl) (by kernel_rfl) (.cons (Le.refl _) .nil) (utf_Is_ok hy2) (by kernel_rfl) ?_
  refine RJ.seg 2 [0, 2, 3] (L2 := [(0, .int .i32 x0), (2, .int .i64 0), (3, .bool (!y1))]) (H2 := []) (by kernel_rfl) ?_
  refine RJ.end (by kernel_rfl) ?_
  refine PJ.next ?_
  refine J.caseB 3 (b := (!y1)) (by kernel_rfl) (fun hb4 => ?_) (fun hb4 => ?_)
  · have h5 := condT hb4 h3
    refine K.condT (by kernel_rfl) ?_
    refine K.seq (by kernel_rfl) ?_
    refine K.region (by kernel_rfl) ?_
    refine RJ.seg 1 [2] (L2 := [(2, .int .i64 0)]) (H2 := []) (by kernel_rfl) ?_
    refine RJ.end (by kernel_rfl) ?_
    refine PJ.next ?_
    refine K.ret (by kernel_rfl) ?_
    refine PJ.blockRet ?_
    refine PJ.passRet ?_
    obtain rfl := Option.some.inj h5
    exact K.ret0 (.inr rfl) hFn hFH hFD (by kernel_rfl) (by kernel_rfl) (by kernel_rfl)
  · have h6 := condF hb4 h3
    refine K.condF (by kernel_rfl) ?_
    refine K.seq (by kernel_rfl) ?_
    refine K.region (by kernel_rfl) ?_
    refine RJ.seg 3 [0, 2, 7] (L2 := [(0, .int .i32 x0), (2, .int .i64 0), (7, .bool (decide (x0 < 128)))]) (H2 := []) (by kernel_rfl) ?_
    refine RJ.end (by kernel_rfl) ?_
    refine PJ.next ?_
    refine J.caseB 7 (b := (decide (x0 < 128))) (by kernel_rfl) (fun hb7 => ?_) (fun hb7 => ?_)
    · have h8 := condT hb7 h6
      refine K.condT (by kernel_rfl) ?_
      refine K.seq (by kernel_rfl) ?_
      refine K.region (by kernel_rfl) ?_
      refine RJ.seg 1 [2] (L2 := [(2, .int .i64 1)]) (H2 := []) (by kernel_rfl) ?_
      refine RJ.end (by kernel_rfl) ?_
      refine PJ.next ?_
      refine K.ret (by kernel_rfl) ?_
      refine PJ.blockRet ?_
      refine PJ.passRet ?_
      obtain rfl := Option.some.inj h8
      exact K.ret0 (.inr rfl) hFn hFH hFD (by kernel_rfl) (by kernel_rfl) (by kernel_rfl)
    · have h9 := condF hb7 h6
      refine K.condF (by kernel_rfl) ?_
      refine K.seq (by kernel_rfl) ?_
      refine K.region (by kernel_rfl) ?_
      refine RJ.seg 3 [0, 2, 10] (L2 := [(0, .int .i32 x0), (2, .int .i64 0), (10, .bool (decide (x0 < 2048)))]) (H2 := []) (by kernel_rfl) ?_
      refine RJ.end (by kernel_rfl) ?_
      refine PJ.next ?_
      refine J.caseB 10 (b := (decide (x0 < 2048))) (by kernel_rfl) (fun hb10 => ?_) (fun hb10 => ?_)
      · have h11 := condT hb10 h9
        refine K.condT (by kernel_rfl) ?_
        refine K.seq (by kernel_rfl) ?_
        refine K.region (by kernel_rfl) ?_
        refine RJ.seg 1 [2] (L2 := [(2, .int .i64 2)]) (H2 := []) (by kernel_rfl) ?_
        refine RJ.end (by kernel_rfl) ?_
        refine PJ.next ?_
        refine K.ret (by kernel_rfl) ?_
        refine PJ.blockRet ?_
        refine PJ.passRet ?_
        obtain rfl := Option.some.inj h11
        exact K.ret0 (.inr rfl) hFn hFH hFD (by kernel_rfl) (by kernel_rfl) (by kernel_rfl)
      · have h12 := condF hb10 h9
        refine K.condF (by kernel_rfl) ?_
        refine K.seq (by kernel_rfl) ?_
        refine K.region (by kernel_rfl) ?_
        refine RJ.seg 3 [2, 13] (L2 := [(2, .int .i64 0), (13, .bool (decide (x0 < 65536)))]) (H2 := []) (by kernel_rfl) ?_
        refine RJ.end (by kernel_rfl) ?_
        refine PJ.next ?_
        refine J.caseB 13 (b := (decide (x0 < 65536))) (by kernel_rfl) (fun hb13 => ?_) (fun hb13 => ?_)
        · have h14 := condT hb13 h12
          refine K.condT (by kernel_rfl) ?_
          refine K.seq (by kernel_rfl) ?_
          refine K.region (by kernel_rfl) ?_
          refine RJ.seg 1 [2] (L2 := [(2, .int .i64 3)]) (H2 := []) (by kernel_rfl) ?_
          refine RJ.end (by kernel_rfl) ?_
          refine PJ.next ?_
          refine K.ret (by kernel_rfl) ?_
          refine PJ.blockRet ?_
          refine PJ.passRet ?_
          obtain rfl := Option.some.inj h14
          exact K.ret0 (.inr rfl) hFn hFH hFD (by kernel_rfl) (by kernel_rfl) (by kernel_rfl)
        · have h15 := condF hb13 h12
          refine K.condF (by kernel_rfl) ?_
          refine K.skip (by kernel_rfl) ?_
          refine PJ.blockNormal ?_
          refine PJ.next ?_
          refine K.seq (by kernel_rfl) ?_
          refine K.region (by kernel_rfl) ?_
          refine RJ.seg 1 [2] (L2 := [(2, .int .i64 4)]) (H2 := []) (by kernel_rfl) ?_
          refine RJ.end (by kernel_rfl) ?_
          refine PJ.next ?_
          refine K.ret (by kernel_rfl) ?_
          obtain rfl := Option.some.inj h15
          exact K.ret0 (.inr rfl) hFn hFH hFD (by kernel_rfl) (by kernel_rfl) (by kernel_rfl)

def utf_mark (x0 : Int) : Option (Int) :=
  (bif (decide (x0 = 2)) then (some 192) else (bif (decide (x0 = 3)) then (some 224) else (bif (decide (x0 = 4)) then (some 240) else (some 0))))
theorem utf_mark_ok {x0 : Int} {r : Int} (h : utf_mark x0 = some r) : SC Try.prog 27 [.int .i64 x0] [] (.int .u8 r) [] := by
  refine K.fn (fn := Try.f27) (by kernel_rfl) (by kernel_rfl) (by kernel_rfl) (by kernel_rfl) (by kernel_rfl) (fun F hFn hFH hFD => ?_)
  unfold utf_mark at h
  refine K.seq (by kernel_rfl) ?_
  refine K.region (by kernel_rfl) ?_
  refine RJ.seg 1 [0, 2] (L2 := [(0, .int .i64 x0), (2, .int .u8 0)]) (H2 := []) (by kernel_rfl) ?_
  refine RJ.end (by kernel_rfl) ?_
  refine PJ.next ?_
  refine K.seq (by kernel_rfl) ?_
  refine K.seq (by kernel_rfl) ?_
  refine K.region (by kernel_rfl) ?_
  refine RJ.seg 1 [2, 3] (L2 := [(2, .int .u8 0), (3, .int .i64 x0)]) (H2 := []) (by kernel_rfl) ?_
  refine RJ.end (by kernel_rfl) ?_
  refine PJ.next ?_
  refine K.block 0 (by kernel_rfl) ?_
  refine K.seq (by kernel_rfl) ?_
  refine K.region (by kernel_rfl) ?_
  refine RJ.seg 2 [2, 3, 4] (L2 := [(2, .int .u8 0), (3, .int .i64 x0), (4, .bool (decide (x0 = 2)))]) (H2 := []) (by kernel_rfl) ?_
  refine RJ.end (by kernel_rfl) ?_
  refine PJ.next ?_
  refine J.caseB 4 (b := (decide (x0 = 2))) (by kernel_rfl) (fun hb1 => ?_) (fun hb1 => ?_)
  · have h2 := condT hb1 h
    refine K.condT (by kernel_rfl) ?_
    refine K.seq (by kernel_rfl) ?_
    refine K.region (by kernel_rfl) ?_
    refine RJ.seg 1 [2] (L2 := [(2, .int .u8 192)]) (H2 := []) (by kernel_rfl) ?_
    refine RJ.end (by kernel_rfl) ?_
    refine PJ.next ?_
    refine K.ret (by kernel_rfl) ?_
    refine PJ.blockRet ?_
    refine PJ.passRet ?_
    obtain rfl := Option.some.inj h2
    exact K.ret0 (.inr rfl) hFn hFH hFD (by kernel_rfl) (by kernel_rfl) (by kernel_rfl)
  · have h3 := condF hb1 h
    refine K.condF (by kernel_rfl) ?_
    refine K.seq (by kernel_rfl) ?_
    refine K.region (by kernel_rfl) ?_
    refine RJ.seg 2 [2, 3, 6] (L2 := [(2, .int .u8 0), (3, .int .i64 x0), (6, .bool (decide (x0 = 3)))]) (H2 := []) (by kernel_rfl) ?_
    refine RJ.end (by kernel_rfl) ?_
    refine PJ.next ?_
    refine J.caseB 6 (b := (decide (x0 = 3))) (by kernel_rfl) (fun hb4 => ?_) (fun hb4 => ?_)
    · have h5 := condT hb4 h3
      refine K.condT (by kernel_rfl) ?_
      refine K.seq (by kernel_rfl) ?_
      refine K.region (by kernel_rfl) ?_
      refine RJ.seg 1 [2] (L2 := [(2, .int .u8 224)]) (H2 := []) (by kernel_rfl) ?_
      refine RJ.end (by kernel_rfl) ?_
      refine PJ.next ?_
      refine K.ret (by kernel_rfl) ?_
      refine PJ.blockRet ?_
      refine PJ.passRet ?_
      obtain rfl := Option.some.inj h5
      exact K.ret0 (.inr rfl) hFn hFH hFD (by kernel_rfl) (by kernel_rfl) (by kernel_rfl)
    · have h6 := condF hb4 h3
      refine K.condF (by kernel_rfl) ?_
      refine K.seq (by kernel_rfl) ?_
      refine K.region (by kernel_rfl) ?_
      refine RJ.seg 2 [2, 8] (L2 := [(2, .int .u8 0), (8, .bool (decide (x0 = 4)))]) (H2 := []) (by kernel_rfl) ?_
      refine RJ.end (by kernel_rfl) ?_
      refine PJ.next ?_
      refine J.caseB 8 (b := (decide (x0 = 4))) (by kernel_rfl) (fun hb7 => ?_) (fun hb7 => ?_)
      · have h8 := condT hb7 h6
        refine K.condT (by kernel_rfl) ?_
        refine K.seq (by kernel_rfl) ?_
        refine K.region (by kernel_rfl) ?_
        refine RJ.seg 1 [2] (L2 := [(2, .int .u8 240)]) (H2 := []) (by kernel_rfl) ?_
        refine RJ.end (by kernel_rfl) ?_
        refine PJ.next ?_
        refine K.ret (by kernel_rfl) ?_
        refine PJ.blockRet ?_
        refine PJ.passRet ?_
        obtain rfl := Option.some.inj h8
        exact K.ret0 (.inr rfl) hFn hFH hFD (by kernel_rfl) (by kernel_rfl) (by kernel_rfl)
      · have h9 := condF hb7 h6
        refine K.condF (by kernel_rfl) ?_
        refine K.skip (by kernel_rfl) ?_
        refine PJ.blockNormal ?_
        refine PJ.next ?_
        refine K.seq (by kernel_rfl) ?_
        refine K.region (by kernel_rfl) ?_
        refine RJ.seg 1 [2] (L2 := [(2, .int .u8 0)]) (H2 := []) (by kernel_rfl) ?_
        refine RJ.end (by kernel_rfl) ?_
        refine PJ.next ?_
        refine K.ret (by kernel_rfl) ?_
        obtain rfl := Option.some.inj h9
        exact K.ret0 (.inr rfl) hFn hFH hFD (by kernel_rfl) (by kernel_rfl) (by kernel_rfl)

def utf_lay (x0 : List Int) (x1 : Int) (x2 : Int) : Option (List Int) :=
  (Option.bind (utf_mark x2) fun y1 => (bif sh ((IntKind.wrap .i64 (6 * (IntKind.wrap .i64 (x2 - 1))))) then (bif room (x0.length + (([(bits .or .u8 y1 ((IntKind.wrap .u8 ((Int.fdiv x1 (2 ^ (min ((IntKind.wrap .i64 (6 * (IntKind.wrap .i64 (x2 - 1)))) : Int).toNat 32)))))))] : List Int)).length) then (Option.bind (loopN (fun (s35 : Int × (List Int)) => (bif (decide (s35.1 > 0)) then (bif sh (IntKind.wrap .i64 (s35.1 - 6)) then (bif room (s35.2.length + (([(bits .or .u8 128 ((bits .and .u8 ((IntKind.wrap .u8 ((Int.fdiv x1 (2 ^ (min ((IntKind.wrap .i64 (s35.1 - 6)) : Int).toNat 32)))))) 63)))] : List Int)).length) then (some (.inl ((IntKind.wrap .i64 (s35.1 - 6)), (s35.2 ++ (([(bits .or .u8 128 ((bits .and .u8 ((IntKind.wrap .u8 ((Int.fdiv x1 (2 ^ (min ((IntKind.wrap .i64 (s35.1 - 6)) : Int).toNat 32)))))) 63)))] : List Int)))))) else none) else none) else (some (.inr s35.2)))) big ((IntKind.wrap .i64 (6 * (IntKind.wrap .i64 (x2 - 1)))), (x0 ++ (([(bits .or .u8 y1 ((IntKind.wrap .u8 ((Int.fdiv x1 (2 ^ (min ((IntKind.wrap .i64 (6 * (IntKind.wrap .i64 (x2 - 1)))) : Int).toNat 32)))))))] : List Int))))) fun (s30 : (List Int)) => (some s30)) else none) else none))
theorem utf_lay_ok_0o {x0 : List Int} {x1 : Int} {x2 : Int} {r : List Int} (h : utf_lay x0 x1 x2 = some r) : SC Try.prog 23 [.vc 0, .int .i32 x1, .int .i64 x2] [vecL (encI .u8) 1 5 x0] (.vc 1) [.gone, vecL (encI .u8) 1 5 r] := by
  refine K.fn (fn := Try.f23) (by kernel_rfl) (by kernel_rfl) (by kernel_rfl) (by kernel_rfl) (by kernel_rfl) (fun F hFn hFH hFD => ?_)
  unfold utf_lay at h
  refine K.seq (by kernel_rfl) ?_
  refine K.region (by kernel_rfl) ?_
  refine RJ.seg 1 [0, 1, 2, 6] (L2 := [(0, .vc 0), (1, .int .i32 x1), (2, .int .i64 x2), (6, .nl)]) (H2 := [vecL (encI .u8) 1 5 x0]) (by kernel_rfl) ?_
  refine RJ.end (by kernel_rfl) ?_
  refine PJ.next ?_
  refine K.seq (by kernel_rfl) ?_
  refine K.region (by kernel_rfl) ?_
  refine RJ.seg 4 [0, 1, 2, 6, 7] (L2 := [(0, .vc 0), (1, .int .i32 x1), (2, .int .i64 x2), (6, .nl), (7, .int .i64 ((IntKind.wrap .i64 (6 * (IntKind.wrap .i64 (x2 - 1))))))]) (H2 := [vecL (encI .u8) 1 5 x0]) (by kernel_rfl) ?_
  refine RJ.end (by kernel_rfl) ?_
  refine PJ.next ?_
  refine K.seq (by kernel_rfl) ?_
  refine J.keep [0, 1, 2, 6, 7] (L2 := [(0, .vc 0), (1, .int .i32 x1), (2, .int .i64 x2), (6, .nl), (7, .int .i64 ((IntKind.wrap .i64 (6 * (IntKind.wrap .i64 (x2 - 1))))))]) (by kernel_rfl) ?_
  refine K.draw (by kernel_rfl) (by kernel_rfl) (by kernel_rfl) (H2 := [vecL (encI .u8) 1 5 x0, .res, .res, .res]) (by kernel_rfl) (n := 1) (by kernel_rfl) ?_
  refine RJ.segD 2 (tr2 := [([], []), ([], [])]) (L2 := [(12, .int .i64 x2), (11, .vc 0), (0, .vc 0), (1, .int .i32 x1), (2, .int .i64 x2), (6, .nl), (7, .int .i64 ((IntKind.wrap .i64 (6 * (IntKind.wrap .i64 (x2 - 1))))))]) (H2 := [vecL (encI .u8) 1 5 x0, .res, .res, .res]) (by kernel_rfl) ?_
  obtain ⟨y1, hy2, h3⟩ := bindS h
  refine RJ.call0 (d := (some 13)) (f := 27) (args := [.int .i64 x2]) (v := .int .u8 y1) (tr2 := [([], []), ([], []), ([], [1])]) (by kernel_rfl) (by kernel_rfl) (.cons (Le.refl _) .nil) (utf_mark_ok hy2) (by kernel_rfl) ?_
  refine RJ.segD 2 (tr2 := [([], []), ([], []), ([], [1]), ([], []), ([], [])]) (L2 := [(15, .int .i64 ((IntKind.wrap .i64 (6 * (IntKind.wrap .i64 (x2 - 1)))))), (14, .int .i32 x1), (13, .int .u8 y1), (12, .int .i64 x2), (11, .vc 0), (0, .vc 0), (1, .int .i32 x1), (2, .int .i64 x2), (6, .nl), (7, .int .i64 ((IntKind.wrap .i64 (6 * (IntKind.wrap .i64 (x2 - 1))))))]) (H2 := [vecL (encI .u8) 1 5 x0, .res, .res, .res]) (by kernel_rfl) ?_
  obtain ⟨hm, h4⟩ := asrt h3
  refine RJ.rel (d := (some 16)) (ef := ⟨.int .i32 (Int.fdiv x1 (2 ^ (min ((IntKind.wrap .i64 (6 * (IntKind.wrap .i64 (x2 - 1)))) : Int).toNat 32))), [], []⟩) (ef' := ⟨.int .i32 (Int.fdiv x1 (2 ^ (min ((IntKind.wrap .i64 (6 * (IntKind.wrap .i64 (x2 - 1)))) : Int).toNat 32))), [], []⟩) (c := sh ((IntKind.wrap .i64 (6 * (IntKind.wrap .i64 (x2 - 1)))))) (tr2 := [([], []), ([], []), ([], [1]), ([], []), ([], []), ([], [])]) (H2 := [vecL (encI .u8) 1 5 x0, .res, .res, .res]) (by kernel_rfl) hm (fun hc => rfl) (by kernel_rfl) ?_
  refine RJ.segD 3 (tr2 := [([], []), ([], []), ([], [1]), ([], []), ([], []), ([], []), ([], []), ([], []), ([], [2, 2])]) (L2 := [(19, .vc 2), (18, .int .u8 ((bits .or .u8 y1 ((IntKind.wrap .u8 ((Int.fdiv x1 (2 ^ (min ((IntKind.wrap .i64 (6 * (IntKind.wrap .i64 (x2 - 1)))) : Int).toNat 32))))))))), (17, .int .u8 ((IntKind.wrap .u8 ((Int.fdiv x1 (2 ^ (min ((IntKind.wrap .i64 (6 * (IntKind.wrap .i64 (x2 - 1)))) : Int).toNat 32))))))), (16, .int .i32 ((Int.fdiv x1 (2 ^ (min ((IntKind.wrap .i64 (6 * (IntKind.wrap .i64 (x2 - 1)))) : Int).toNat 32))))), (15, .int .i64 ((IntKind.wrap .i64 (6 * (IntKind.wrap .i64 (x2 - 1)))))), (14, .int .i32 x1), (13, .int .u8 y1), (12, .int .i64 x2), (11, .vc 0), (0, .vc 0), (1, .int .i32 x1), (2, .int .i64 x2), (6, .nl), (7, .int .i64 ((IntKind.wrap .i64 (6 * (IntKind.wrap .i64 (x2 - 1))))))]) (H2 := [vecL (encI .u8) 1 5 x0, .res, vecL (encI .u8) 1 5 (([(bits .or .u8 y1 ((IntKind.wrap .u8 ((Int.fdiv x1 (2 ^ (min ((IntKind.wrap .i64 (6 * (IntKind.wrap .i64 (x2 - 1)))) : Int).toNat 32)))))))] : List Int)), .res]) (by kernel_rfl) ?_
  obtain ⟨hm, h5⟩ := asrt h4
  refine RJ.rel (d := (some 20)) (ef := ⟨.vc 3, [0, 2], [(0, .gone), (3, .vec (x0.length + (([(bits .or .u8 y1 ((IntKind.wrap .u8 ((Int.fdiv x1 (2 ^ (min ((IntKind.wrap .i64 (6 * (IntKind.wrap .i64 (x2 - 1)))) : Int).toNat 32)))))))] : List Int)).length) 1 5 (x0.flatMap (encI .u8) ++ (([(bits .or .u8 y1 ((IntKind.wrap .u8 ((Int.fdiv x1 (2 ^ (min ((IntKind.wrap .i64 (6 * (IntKind.wrap .i64 (x2 - 1)))) : Int).toNat 32)))))))] : List Int)).flatMap (encI .u8)))]⟩) (ef' := ⟨.vc 3, [0, 2], [(0, .gone), (3, vecL (encI .u8) 1 5 (x0 ++ (([(bits .or .u8 y1 ((IntKind.wrap .u8 ((Int.fdiv x1 (2 ^ (min ((IntKind.wrap .i64 (6 * (IntKind.wrap .i64 (x2 - 1)))) : Int).toNat 32)))))))] : List Int))))]⟩) (c := room (x0.length + (([(bits .or .u8 y1 ((IntKind.wrap .u8 ((Int.fdiv x1 (2 ^ (min ((IntKind.wrap .i64 (6 * (IntKind.wrap .i64 (x2 - 1)))) : Int).toNat 32)))))))] : List Int)).length)) (tr2 := [([], []), ([], []), ([], [1]), ([], []), ([], []), ([], []), ([], []), ([], []), ([], [2, 2]), ([0, 2], [0, 3, 3])]) (H2 := [.gone, .res, vecL (encI .u8) 1 5 (([(bits .or .u8 y1 ((IntKind.wrap .u8 ((Int.fdiv x1 (2 ^ (min ((IntKind.wrap .i64 (6 * (IntKind.wrap .i64 (x2 - 1)))) : Int).toNat 32)))))))] : List Int)), vecL (encI .u8) 1 5 ((x0 ++ (([(bits .or .u8 y1 ((IntKind.wrap .u8 ((Int.fdiv x1 (2 ^ (min ((IntKind.wrap .i64 (6 * (IntKind.wrap .i64 (x2 - 1)))) : Int).toNat 32)))))))] : List Int))))]) (by kernel_rfl) hm (fun hc => N.app) (by kernel_rfl) ?_
  refine RJ.segD 1 (tr2 := [([], []), ([], []), ([], [1]), ([], []), ([], []), ([], []), ([], []), ([], []), ([], [2, 2]), ([0, 2], [0, 3, 3]), ([], [])]) (L2 := [(0, .vc 3), (20, .vc 3), (19, .vc 2), (18, .int .u8 ((bits .or .u8 y1 ((IntKind.wrap .u8 ((Int.fdiv x1 (2 ^ (min ((IntKind.wrap .i64 (6 * (IntKind.wrap .i64 (x2 - 1)))) : Int).toNat 32))))))))), (17, .int .u8 ((IntKind.wrap .u8 ((Int.fdiv x1 (2 ^ (min ((IntKind.wrap .i64 (6 * (IntKind.wrap .i64 (x2 - 1)))) : Int).toNat 32))))))), (16, .int .i32 ((Int.fdiv x1 (2 ^ (min ((IntKind.wrap .i64 (6 * (IntKind.wrap .i64 (x2 - 1)))) : Int).toNat 32))))), (15, .int .i64 ((IntKind.wrap .i64 (6 * (IntKind.wrap .i64 (x2 - 1)))))), (14, .int .i32 x1), (13, .int .u8 y1), (12, .int .i64 x2), (11, .vc 0), (0, .vc 0), (1, .int .i32 x1), (2, .int .i64 x2), (6, .nl), (7, .int .i64 ((IntKind.wrap .i64 (6 * (IntKind.wrap .i64 (x2 - 1))))))]) (H2 := [.gone, .res, vecL (encI .u8) 1 5 (([(bits .or .u8 y1 ((IntKind.wrap .u8 ((Int.fdiv x1 (2 ^ (min ((IntKind.wrap .i64 (6 * (IntKind.wrap .i64 (x2 - 1)))) : Int).toNat 32)))))))] : List Int)), vecL (encI .u8) 1 5 ((x0 ++ (([(bits .or .u8 y1 ((IntKind.wrap .u8 ((Int.fdiv x1 (2 ^ (min ((IntKind.wrap .i64 (6 * (IntKind.wrap .i64 (x2 - 1)))) : Int).toNat 32)))))))] : List Int))))]) (by kernel_rfl) ?_
  refine RJ.end (by kernel_rfl) ?_
  refine PJ.next ?_
  obtain ⟨s30, hy32, h34⟩ := bindS h5
  refine K.cutN (by kernel_rfl) (fun (s30 : (List Int)) => ([(0, .vc 1), (6, .nl)], [.gone, vecL (encI .u8) 1 5 s30])) s30 ?_ ?_
  · refine K.block 0 (by kernel_rfl) ?_
    refine J.wk (Wk.sel (L2 := [(0, .vc 1), (1, .int .i32 x1), (6, .nl), (7, .int .i64 ((IntKind.wrap .i64 (6 * (IntKind.wrap .i64 (x2 - 1))))))]) (H2 := [.gone, vecL (encI .u8) 1 5 ((x0 ++ (([(bits .or .u8 y1 ((IntKind.wrap .u8 ((Int.fdiv x1 (2 ^ (min ((IntKind.wrap .i64 (6 * (IntKind.wrap .i64 (x2 - 1)))) : Int).toNat 32)))))))] : List Int))))]) 1 (by rw [hFH]; rfl) hFD [0, 3] (by kernel_rfl) (by kernel_rfl) (by decide) (by kernel_rfl) (by kernel_rfl) (by kernel_rfl) (by kernel_rfl)) ?_
    refine K.loop (by kernel_rfl) (fun (s35 : Int × (List Int)) => ([(0, .vc 1), (1, .int .i32 x1), (6, .nl), (7, .int .i64 s35.1)], [.gone, vecL (encI .u8) 1 5 s35.2])) hy32 [0, 1, 6, 7] (by kernel_rfl) (by kernel_rfl) (fun s35 x51 hs50 => ?_)
    refine K.seq (by kernel_rfl) ?_
    refine K.seq (by kernel_rfl) ?_
    refine K.region (by kernel_rfl) ?_
    refine RJ.seg 2 [0, 1, 6, 7, 22] (L2 := [(0, .vc 1), (1, .int .i32 x1), (6, .nl), (7, .int .i64 s35.1), (22, .bool (decide (s35.1 > 0)))]) (H2 := [.gone, vecL (encI .u8) 1 5 s35.2]) (by kernel_rfl) ?_
    refine RJ.end (by kernel_rfl) ?_
    refine PJ.next ?_
    refine J.caseB 22 (b := (decide (s35.1 > 0))) (by kernel_rfl) (fun hb52 => ?_) (fun hb52 => ?_)
    · have h53 := condT hb52 hs50
      refine K.condT (by kernel_rfl) ?_
      refine K.skip (by kernel_rfl) ?_
      refine PJ.next ?_
      refine K.block 1 (by kernel_rfl) ?_
      refine K.seq (by kernel_rfl) ?_
      refine K.region (by kernel_rfl) ?_
      refine RJ.seg 3 [0, 1, 6, 7] (L2 := [(0, .vc 1), (1, .int .i32 x1), (6, .nl), (7, .int .i64 (IntKind.wrap .i64 (s35.1 - 6)))]) (H2 := [.gone, vecL (encI .u8) 1 5 s35.2]) (by kernel_rfl) ?_
      refine RJ.end (by kernel_rfl) ?_
      refine PJ.next ?_
      refine K.region (by kernel_rfl) ?_
      refine RJ.seg 3 [0, 1, 6, 7, 25, 26, 27] (L2 := [(0, .vc 1), (1, .int .i32 x1), (6, .nl), (7, .int .i64 (IntKind.wrap .i64 (s35.1 - 6))), (25, .vc 1), (26, .int .i32 x1), (27, .int .i64 (IntKind.wrap .i64 (s35.1 - 6)))]) (H2 := [.gone, vecL (encI .u8) 1 5 s35.2]) (by kernel_rfl) ?_
      obtain ⟨hm, h55⟩ := asrt h53
      refine RJ.rel (d := (some 28)) (ef := ⟨.int .i32 (Int.fdiv x1 (2 ^ (min ((IntKind.wrap .i64 (s35.1 - 6)) : Int).toNat 32))), [], []⟩) (ef' := ⟨.int .i32 (Int.fdiv x1 (2 ^ (min ((IntKind.wrap .i64 (s35.1 - 6)) : Int).toNat 32))), [], []⟩) (c := sh (IntKind.wrap .i64 (s35.1 - 6))) (tr2 := []) (H2 := [.gone, vecL (encI .u8) 1 5 s35.2]) (by kernel_rfl) hm (fun hc => rfl) (by kernel_rfl) ?_
      refine RJ.seg 4 [0, 1, 6, 7, 25, 32] (L2 := [(0, .vc 1), (1, .int .i32 x1), (6, .nl), (7, .int .i64 (IntKind.wrap .i64 (s35.1 - 6))), (25, .vc 1), (32, .vc 2)]) (H2 := [.gone, vecL (encI .u8) 1 5 s35.2, vecL (encI .u8) 1 5 (([(bits .or .u8 128 ((bits .and .u8 ((IntKind.wrap .u8 ((Int.fdiv x1 (2 ^ (min ((IntKind.wrap .i64 (s35.1 - 6)) : Int).toNat 32)))))) 63)))] : List Int))]) (by kernel_rfl) ?_
      obtain ⟨hm, h56⟩ := asrt h55
      refine RJ.rel (d := (some 33)) (ef := ⟨.vc 3, [1, 2], [(1, .gone), (3, .vec (s35.2.length + (([(bits .or .u8 128 ((bits .and .u8 ((IntKind.wrap .u8 ((Int.fdiv x1 (2 ^ (min ((IntKind.wrap .i64 (s35.1 - 6)) : Int).toNat 32)))))) 63)))] : List Int)).length) 1 5 (s35.2.flatMap (encI .u8) ++ (([(bits .or .u8 128 ((bits .and .u8 ((IntKind.wrap .u8 ((Int.fdiv x1 (2 ^ (min ((IntKind.wrap .i64 (s35.1 - 6)) : Int).toNat 32)))))) 63)))] : List Int)).flatMap (encI .u8)))]⟩) (ef' := ⟨.vc 3, [1, 2], [(1, .gone), (3, vecL (encI .u8) 1 5 (s35.2 ++ (([(bits .or .u8 128 ((bits .and .u8 ((IntKind.wrap .u8 ((Int.fdiv x1 (2 ^ (min ((IntKind.wrap .i64 (s35.1 - 6)) : Int).toNat 32)))))) 63)))] : List Int))))]⟩) (c := room (s35.2.length + (([(bits .or .u8 128 ((bits .and .u8 ((IntKind.wrap .u8 ((Int.fdiv x1 (2 ^ (min ((IntKind.wrap .i64 (s35.1 - 6)) : Int).toNat 32)))))) 63)))] : List Int)).length)) (tr2 := []) (H2 := [.gone, .gone, vecL (encI .u8) 1 5 (([(bits .or .u8 128 ((bits .and .u8 ((IntKind.wrap .u8 ((Int.fdiv x1 (2 ^ (min ((IntKind.wrap .i64 (s35.1 - 6)) : Int).toNat 32)))))) 63)))] : List Int)), vecL (encI .u8) 1 5 ((s35.2 ++ (([(bits .or .u8 128 ((bits .and .u8 ((IntKind.wrap .u8 ((Int.fdiv x1 (2 ^ (min ((IntKind.wrap .i64 (s35.1 - 6)) : Int).toNat 32)))))) 63)))] : List Int))))]) (by kernel_rfl) hm (fun hc => N.app) (by kernel_rfl) ?_
      refine RJ.seg 1 [0, 1, 6, 7] (L2 := [(0, .vc 3), (1, .int .i32 x1), (6, .nl), (7, .int .i64 (IntKind.wrap .i64 (s35.1 - 6)))]) (H2 := [.gone, .gone, vecL (encI .u8) 1 5 (([(bits .or .u8 128 ((bits .and .u8 ((IntKind.wrap .u8 ((Int.fdiv x1 (2 ^ (min ((IntKind.wrap .i64 (s35.1 - 6)) : Int).toNat 32)))))) 63)))] : List Int)), vecL (encI .u8) 1 5 ((s35.2 ++ (([(bits .or .u8 128 ((bits .and .u8 ((IntKind.wrap .u8 ((Int.fdiv x1 (2 ^ (min ((IntKind.wrap .i64 (s35.1 - 6)) : Int).toNat 32)))))) 63)))] : List Int))))]) (by kernel_rfl) ?_
      refine RJ.end (by kernel_rfl) ?_
      refine PJ.blockNormal ?_
      obtain rfl := Option.some.inj h56
      refine PJ.wk (Wk.sel (L2 := [(0, .vc 1), (1, .int .i32 x1), (6, .nl), (7, .int .i64 (IntKind.wrap .i64 (s35.1 - 6)))]) (H2 := [.gone, vecL (encI .u8) 1 5 ((s35.2 ++ (([(bits .or .u8 128 ((bits .and .u8 ((IntKind.wrap .u8 ((Int.fdiv x1 (2 ^ (min ((IntKind.wrap .i64 (s35.1 - 6)) : Int).toNat 32)))))) 63)))] : List Int))))]) 1 (by rw [hFH]; rfl) hFD [0, 3] (by kernel_rfl) (by kernel_rfl) (by decide) (by kernel_rfl) (by kernel_rfl) (by kernel_rfl) (by kernel_rfl)) ?_
      exact PJ.loopNext [0, 1, 6, 7] (by kernel_rfl) (by kernel_rfl)
    · have h54 := condF hb52 hs50
      refine K.condF (by kernel_rfl) ?_
      refine K.exit 0 (by kernel_rfl) ?_
      refine PJ.passExit ?_
      obtain rfl := Option.some.inj h54
      refine PJ.loopOut (fun e => nomatch e) (fun he58 => ?_)
      have h57 := congrArg some he58
      refine PJ.blockOut ?_
      obtain rfl := Option.some.inj h57
      exact PJ.cutN [0, 6] (by kernel_rfl) (by kernel_rfl)
  · refine K.seq (by kernel_rfl) ?_
    refine K.region (by kernel_rfl) ?_
    refine RJ.seg 2 [6] (L2 := [(6, .vc 1)]) (H2 := [.gone, vecL (encI .u8) 1 5 s30]) (by kernel_rfl) ?_
    refine RJ.end (by kernel_rfl) ?_
    refine PJ.next ?_
    refine K.ret (by kernel_rfl) ?_
    obtain rfl := Option.some.inj h34
    exact K.retV (H0 := [vecL (encI .u8) 1 5 x0]) [0, 1] (.inr rfl) hFn hFH hFD (by kernel_rfl) (v1 := .vc 1) (by kernel_rfl) (by kernel_rfl) (by kernel_rfl) (by decide) (by kernel_rfl) (by kernel_rfl) (by kernel_rfl) (by kernel_rfl) (by kernel_rfl)

def utf_Encode (x0 : List Int) : Option ((List Int) × Int) :=
  (Option.bind (loopN (fun (s63 : Int × (List Int)) => (bif (decide (s63.1 < (x0.length : Int))) then (bif inR s63.1 x0.length then (Option.bind (utf_Size (nth x0 s63.1)) fun y106 => (bif (decide (y106 = 0)) then (some (.inr (.inr (([] : List Int), 3)))) else (Option.bind (utf_lay s63.2 (nth x0 s63.1) y106) fun y115 => (some (.inl ((IntKind.wrap .i64 (s63.1 + 1)), y115)))))) else none) else (some (.inr (.inl s63.2))))) big (0, ([] : List Int))) (joinX fun (s58 : (List Int)) => (some (s58, 0))))
theorem utf_Encode_ok {x0 : List Int} {r : (List Int) × Int} (h : utf_Encode x0 = some r) : SC Try.prog 17 [lsv (encI .i32) 1 x0] [] (.tup [lsv (encI .u8) 1 r.1, .int .i64 r.2]) [] := by
  refine K.fn (fn := Try.f17) (by kernel_rfl) (by kernel_rfl) (by kernel_rfl) (by kernel_rfl) (by kernel_rfl) (fun F hFn hFH hFD => ?_)
  unfold utf_Encode at h
  refine K.seq (by kernel_rfl) ?_
  refine K.region (by kernel_rfl) ?_
  refine RJ.seg 2 [0, 2, 3] (L2 := [(0, lsv (encI .i32) 1 x0), (2, .nl), (3, .int .i64 0)]) (H2 := []) (by kernel_rfl) ?_
  refine RJ.end (by kernel_rfl) ?_
  refine PJ.next ?_
  refine K.seq (by kernel_rfl) ?_
  refine K.region (by kernel_rfl) ?_
  refine RJ.seg 1 [0, 2, 3, 4] (L2 := [(0, lsv (encI .i32) 1 x0), (2, .nl), (3, .int .i64 0), (4, .nl)]) (H2 := []) (by kernel_rfl) ?_
  refine RJ.end (by kernel_rfl) ?_
  refine PJ.next ?_
  obtain ⟨y59, hy60, h61⟩ := bindS h
  refine K.cutX (by kernel_rfl) (fun (s58 : (List Int)) => ([(2, .nl), (3, .int .i64 0), (4, .vc 0)], [vecL (encI .u8) 1 5 s58])) y59 ?_ (fun s58 hs => ?_)
  · refine K.seq (by kernel_rfl) ?_
    refine K.region (by kernel_rfl) ?_
    refine RJ.seg 3 [2, 3, 4, 8, 9, 10] (L2 := [(2, .nl), (3, .int .i64 0), (4, .nl), (8, lsv (encI .i32) 1 x0), (9, .int .i64 (x0.length : Int)), (10, .int .i64 0)]) (H2 := []) (by kernel_rfl) ?_
    refine RJ.end (by kernel_rfl) ?_
    refine PJ.next ?_
    refine K.block 0 (by kernel_rfl) ?_
    refine J.wk (Wk.viv 4 1 5 (by kernel_rfl)) ?_
    refine K.loop (by kernel_rfl) (fun (s63 : Int × (List Int)) => ([(2, .nl), (3, .int .i64 0), (4, .vc 0), (8, lsv (encI .i32) 1 x0), (9, .int .i64 (x0.length : Int)), (10, .int .i64 s63.1)], [vecL (encI .u8) 1 5 s63.2])) hy60 [2, 3, 4, 8, 9, 10] (by kernel_rfl) (by kernel_rfl) (fun s63 x101 hs100 => ?_)
    refine K.seq (by kernel_rfl) ?_
    refine K.region (by kernel_rfl) ?_
    refine RJ.seg 1 [2, 3, 4, 8, 9, 10, 11] (L2 := [(2, .nl), (3, .int .i64 0), (4, .vc 0), (8, lsv (encI .i32) 1 x0), (9, .int .i64 (x0.length : Int)), (10, .int .i64 s63.1), (11, .bool ((decide (s63.1 < (x0.length : Int)))))]) (H2 := [vecL (encI .u8) 1 5 s63.2]) (by kernel_rfl) ?_
    refine RJ.end (by kernel_rfl) ?_
    refine PJ.next ?_
    refine K.seq (by kernel_rfl) ?_
    refine J.caseB 11 (b := (decide (s63.1 < (x0.length : Int)))) (by kernel_rfl) (fun hb102 => ?_) (fun hb102 => ?_)
    · have h103 := condT hb102 hs100
      refine K.condT (by kernel_rfl) ?_
      refine K.skip (by kernel_rfl) ?_
      refine PJ.next ?_
      refine K.seq (by kernel_rfl) ?_
      refine K.block 1 (by kernel_rfl) ?_
      refine K.seq (by kernel_rfl) ?_
      refine K.region (by kernel_rfl) ?_
      obtain ⟨hm, h105⟩ := asrt h103
      refine RJ.rel (d := (some 12)) (ef := ⟨.ep (((x0.flatMap (encI .i32)).drop ((s63.1 : Int).toNat * 1)).take 1), [], []⟩) (ef' := ⟨.ep ((encI .i32) (nth x0 s63.1)), [], []⟩) (c := inR s63.1 x0.length) (tr2 := []) (H2 := [vecL (encI .u8) 1 5 s63.2]) (by kernel_rfl) hm (fun hc => N.idx (encI_len .i32) hc) (by kernel_rfl) ?_
      refine RJ.seg 2 [2, 3, 4, 6, 8, 9, 10] (L2 := [(2, .nl), (3, .int .i64 0), (4, .vc 0), (6, .int .i32 (nth x0 s63.1)), (8, lsv (encI .i32) 1 x0), (9, .int .i64 (x0.length : Int)), (10, .int .i64 s63.1)]) (H2 := [vecL (encI .u8) 1 5 s63.2]) (by kernel_rfl) ?_
      refine RJ.end (by kernel_rfl) ?_
      refine PJ.next ?_
      refine K.seq (by kernel_rfl) ?_
      refine K.region (by kernel_rfl) ?_
      refine RJ.seg 1 [2, 3, 4, 6, 8, 9, 10, 14] (L2 := [(2, .nl), (3, .int .i64 0), (4, .vc 0), (6, .int .i32 (nth x0 s63.1)), (8, lsv (encI .i32) 1 x0), (9, .int .i64 (x0.length : Int)), (10, .int .i64 s63.1), (14, .int .i32 (nth x0 s63.1))]) (H2 := [vecL (encI .u8) 1 5 s63.2]) (by kernel_rfl) ?_
      obtain ⟨y106, hy107, h108⟩ := bindS h105
      refine RJ.call0 (d := (some 15)) (f := 13) (args := [.int .i32 (nth x0 s63.1)]) (v := .int .i64 y106) (tr2 := []) (by kernel_rfl) (by kernel_rfl) (.cons (Le.refl _) .nil) (utf_Size_ok hy107) (by kernel_rfl) ?_
      refine RJ.seg 1 [2, 3, 4, 6, 7, 8, 9, 10] (L2 := [(2, .nl), (3, .int .i64 0), (4, .vc 0), (6, .int .i32 (nth x0 s63.1)), (7, .int .i64 y106), (8, lsv (encI .i32) 1 x0), (9, .int .i64 (x0.length : Int)), (10, .int .i64 s63.1)]) (H2 := [vecL (encI .u8) 1 5 s63.2]) (by kernel_rfl) ?_
      refine RJ.end (by kernel_rfl) ?_
      refine PJ.next ?_
      refine K.seq (by kernel_rfl) ?_
      refine K.seq (by kernel_rfl) ?_
      refine K.region (by kernel_rfl) ?_
      refine RJ.seg 2 [2, 3, 4, 6, 7, 8, 9, 10, 17] (L2 := [(2, .nl), (3, .int .i64 0), (4, .vc 0), (6, .int .i32 (nth x0 s63.1)), (7, .int .i64 y106), (8, lsv (encI .i32) 1 x0), (9, .int .i64 (x0.length : Int)), (10, .int .i64 s63.1), (17, .bool (decide (y106 = 0)))]) (H2 := [vecL (encI .u8) 1 5 s63.2]) (by kernel_rfl) ?_
      refine RJ.end (by kernel_rfl) ?_
      refine PJ.next ?_
      refine J.caseB 17 (b := (decide (y106 = 0))) (by kernel_rfl) (fun hb109 => ?_) (fun hb109 => ?_)
      · have h110 := condT hb109 h108
        refine K.condT (by kernel_rfl) ?_
        refine K.seq (by kernel_rfl) ?_
        refine K.region (by kernel_rfl) ?_
        refine RJ.seg 2 [2, 3, 4, 6, 7, 8, 9, 10] (L2 := [(2, .nl), (3, .int .i64 3), (4, .vc 0), (6, .int .i32 (nth x0 s63.1)), (7, .int .i64 y106), (8, lsv (encI .i32) 1 x0), (9, .int .i64 (x0.length : Int)), (10, .int .i64 s63.1)]) (H2 := [vecL (encI .u8) 1 5 s63.2]) (by kernel_rfl) ?_
        refine RJ.end (by kernel_rfl) ?_
        refine PJ.next ?_
        refine K.ret (by kernel_rfl) ?_
        refine PJ.passRet ?_
        refine PJ.blockRet ?_
        refine PJ.passRet ?_
        obtain rfl := Option.some.inj h110
        refine PJ.loopOut (fun e => nomatch e) (fun he114 => ?_)
        have h112 := congrArg some he114
        refine PJ.blockRet ?_
        obtain rfl := Option.some.inj h112
        have h113 := joinX_inr h61
        refine PJ.cutXr (fun e => nomatch e) ?_
        obtain rfl := Option.some.inj h113
        refine PJ.res (v1 := .tup [.nl, .int .i64 3]) (Le.tup (.cons (Le.nl _) (.cons (Le.refl _) .nil))) ?_
        exact K.ret0 (.inr rfl) hFn hFH hFD (by kernel_rfl) (by kernel_rfl) (by kernel_rfl)
      · have h111 := condF hb109 h108
        refine K.condF (by kernel_rfl) ?_
        refine K.skip (by kernel_rfl) ?_
        refine PJ.next ?_
        refine K.region (by kernel_rfl) ?_
        refine RJ.seg 3 [2, 3, 4, 8, 9, 10, 18, 19, 20] (L2 := [(2, .nl), (3, .int .i64 0), (4, .vc 0), (8, lsv (encI .i32) 1 x0), (9, .int .i64 (x0.length : Int)), (10, .int .i64 s63.1), (18, .vc 0), (19, .int .i32 (nth x0 s63.1)), (20, .int .i64 y106)]) (H2 := [vecL (encI .u8) 1 5 s63.2]) (by kernel_rfl) ?_
        obtain ⟨y115, hy116, h117⟩ := bindS h111
        refine RJ.callG (d := (some 21)) (f := 23) (args := [.vc 0, .int .i32 (nth x0 s63.1), .int .i64 y106]) (args0 := [.vc 0, .int .i32 (nth x0 s63.1), .int .i64 y106]) (v0 := .vc 1) (v := .vc 1) (tr2 := []) (H0 := [vecL (encI .u8) 1 5 s63.2]) (H0' := [.gone, vecL (encI .u8) 1 5 y115]) (H2 := [.gone, vecL (encI .u8) 1 5 y115]) [0] (by kernel_rfl) (by kernel_rfl) (by kernel_rfl) (by kernel_rfl) (by decide) (by kernel_rfl) (by kernel_rfl) (by kernel_rfl) (.cons (Le.refl _) (.cons (Le.refl _) (.cons (Le.refl _) .nil))) (utf_lay_ok_0o hy116) (by kernel_rfl) (by kernel_rfl) (by kernel_rfl) ?_
        refine RJ.seg 1 [2, 3, 4, 8, 9, 10] (L2 := [(2, .nl), (3, .int .i64 0), (4, .vc 1), (8, lsv (encI .i32) 1 x0), (9, .int .i64 (x0.length : Int)), (10, .int .i64 s63.1)]) (H2 := [.gone, vecL (encI .u8) 1 5 y115]) (by kernel_rfl) ?_
        refine RJ.end (by kernel_rfl) ?_
        refine PJ.blockNormal ?_
        refine PJ.next ?_
        refine K.region (by kernel_rfl) ?_
        refine RJ.seg 2 [2, 3, 4, 8, 9, 10] (L2 := [(2, .nl), (3, .int .i64 0), (4, .vc 1), (8, lsv (encI .i32) 1 x0), (9, .int .i64 (x0.length : Int)), (10, .int .i64 (IntKind.wrap .i64 (s63.1 + 1)))]) (H2 := [.gone, vecL (encI .u8) 1 5 y115]) (by kernel_rfl) ?_
        refine RJ.end (by kernel_rfl) ?_
        obtain rfl := Option.some.inj h117
        refine PJ.wk (Wk.sel (L2 := [(2, .nl), (3, .int .i64 0), (4, .vc 0), (8, lsv (encI .i32) 1 x0), (9, .int .i64 (x0.length : Int)), (10, .int .i64 (IntKind.wrap .i64 (s63.1 + 1)))]) (H2 := [vecL (encI .u8) 1 5 y115]) 0 (by rw [hFH]; rfl) hFD [1] (by kernel_rfl) (by kernel_rfl) (by decide) (by kernel_rfl) (by kernel_rfl) (by kernel_rfl) (by kernel_rfl)) ?_
        exact PJ.loopNext [2, 3, 4, 8, 9, 10] (by kernel_rfl) (by kernel_rfl)
    · have h104 := condF hb102 hs100
      refine K.condF (by kernel_rfl) ?_
      refine K.exit 0 (by kernel_rfl) ?_
      refine PJ.passExit ?_
      obtain rfl := Option.some.inj h104
      refine PJ.loopOut (fun e => nomatch e) (fun he119 => ?_)
      have h118 := congrArg some he119
      refine PJ.blockOut ?_
      obtain rfl := Option.some.inj h118
      exact PJ.cutXl [2, 3, 4] (by kernel_rfl) (by kernel_rfl)
  · subst hs
    have h62 := joinX_inl h61
    refine K.seq (by kernel_rfl) ?_
    refine K.region (by kernel_rfl) ?_
    refine RJ.seg 3 [2, 3] (L2 := [(2, .vc 0), (3, .int .i64 0)]) (H2 := [vecL (encI .u8) 1 5 s58]) (by kernel_rfl) ?_
    refine RJ.end (by kernel_rfl) ?_
    refine PJ.next ?_
    refine K.ret (by kernel_rfl) ?_
    obtain rfl := Option.some.inj h62
    refine PJ.wk (Wk.freeze 0 (n := s58.length) (k := 1) (e := 5) (cs := s58.flatMap (encI .u8)) (by kernel_rfl)) ?_
    exact K.ret0 (.inr rfl) hFn hFH hFD (by kernel_rfl) (by kernel_rfl) (by kernel_rfl)

def utf_promised (x0 : Int) : Option (Int) :=
  (bif (decide (x0 < 128)) then (some 1) else (bif (decide ((Int.fdiv x0 32) = 6)) then (some 2) else (bif (decide ((Int.fdiv x0 16) = 14)) then (some 3) else (bif (decide ((Int.fdiv x0 8) = 30)) then (some 4) else (some 0)))))
theorem utf_promised_ok {x0 : Int} {r : Int} (h : utf_promised x0 = some r) : SC Try.prog 28 [.int .u8 x0] [] (.int .i64 r) [] := by
  refine K.fn (fn := Try.f28) (by kernel_rfl) (by kernel_rfl) (by kernel_rfl) (by kernel_rfl) (by kernel_rfl) (fun F hFn hFH hFD => ?_)
  unfold utf_promised at h
  refine K.seq (by kernel_rfl) ?_
  refine K.region (by kernel_rfl) ?_
  refine RJ.seg 1 [0, 2] (L2 := [(0, .int .u8 x0), (2, .int .i64 0)]) (H2 := []) (by kernel_rfl) ?_
  refine RJ.end (by kernel_rfl) ?_
  refine PJ.next ?_
  refine K.seq (by kernel_rfl) ?_
  refine K.block 0 (by kernel_rfl) ?_
  refine K.seq (by kernel_rfl) ?_
  refine K.region (by kernel_rfl) ?_
  refine RJ.seg 3 [0, 2, 3] (L2 := [(0, .int .u8 x0), (2, .int .i64 0), (3, .bool (decide (x0 < 128)))]) (H2 := []) (by kernel_rfl) ?_
  refine RJ.end (by kernel_rfl) ?_
  refine PJ.next ?_
  refine J.caseB 3 (b := (decide (x0 < 128))) (by kernel_rfl) (fun hb1 => ?_) (fun hb1 => ?_)
  · have h2 := condT hb1 h
    refine K.condT (by kernel_rfl) ?_
    refine K.seq (by kernel_rfl) ?_
    refine K.region (by kernel_rfl) ?_
    refine RJ.seg 1 [2] (L2 := [(2, .int .i64 1)]) (H2 := []) (by kernel_rfl) ?_
    refine RJ.end (by kernel_rfl) ?_
    refine PJ.next ?_
    refine K.ret (by kernel_rfl) ?_
    refine PJ.blockRet ?_
    refine PJ.passRet ?_
    obtain rfl := Option.some.inj h2
    exact K.ret0 (.inr rfl) hFn hFH hFD (by kernel_rfl) (by kernel_rfl) (by kernel_rfl)
  · have h3 := condF hb1 h
    refine K.condF (by kernel_rfl) ?_
    refine K.seq (by kernel_rfl) ?_
    refine K.region (by kernel_rfl) ?_
    refine RJ.seg 4 [0, 2, 6] (L2 := [(0, .int .u8 x0), (2, .int .i64 0), (6, .bool ((decide ((Int.fdiv x0 32) = 6))))]) (H2 := []) (by kernel_rfl) ?_
    refine RJ.end (by kernel_rfl) ?_
    refine PJ.next ?_
    refine J.caseB 6 (b := (decide ((Int.fdiv x0 32) = 6))) (by kernel_rfl) (fun hb4 => ?_) (fun hb4 => ?_)
    · have h5 := condT hb4 h3
      refine K.condT (by kernel_rfl) ?_
      refine K.seq (by kernel_rfl) ?_
      refine K.region (by kernel_rfl) ?_
      refine RJ.seg 1 [2] (L2 := [(2, .int .i64 2)]) (H2 := []) (by kernel_rfl) ?_
      refine RJ.end (by kernel_rfl) ?_
      refine PJ.next ?_
      refine K.ret (by kernel_rfl) ?_
      refine PJ.blockRet ?_
      refine PJ.passRet ?_
      obtain rfl := Option.some.inj h5
      exact K.ret0 (.inr rfl) hFn hFH hFD (by kernel_rfl) (by kernel_rfl) (by kernel_rfl)
    · have h6 := condF hb4 h3
      refine K.condF (by kernel_rfl) ?_
      refine K.seq (by kernel_rfl) ?_
      refine K.region (by kernel_rfl) ?_
      refine RJ.seg 4 [0, 2, 10] (L2 := [(0, .int .u8 x0), (2, .int .i64 0), (10, .bool ((decide ((Int.fdiv x0 16) = 14))))]) (H2 := []) (by kernel_rfl) ?_
      refine RJ.end (by kernel_rfl) ?_
      refine PJ.next ?_
      refine J.caseB 10 (b := (decide ((Int.fdiv x0 16) = 14))) (by kernel_rfl) (fun hb7 => ?_) (fun hb7 => ?_)
      · have h8 := condT hb7 h6
        refine K.condT (by kernel_rfl) ?_
        refine K.seq (by kernel_rfl) ?_
        refine K.region (by kernel_rfl) ?_
        refine RJ.seg 1 [2] (L2 := [(2, .int .i64 3)]) (H2 := []) (by kernel_rfl) ?_
        refine RJ.end (by kernel_rfl) ?_
        refine PJ.next ?_
        refine K.ret (by kernel_rfl) ?_
        refine PJ.blockRet ?_
        refine PJ.passRet ?_
        obtain rfl := Option.some.inj h8
        exact K.ret0 (.inr rfl) hFn hFH hFD (by kernel_rfl) (by kernel_rfl) (by kernel_rfl)
      · have h9 := condF hb7 h6
        refine K.condF (by kernel_rfl) ?_
        refine K.seq (by kernel_rfl) ?_
        refine K.region (by kernel_rfl) ?_
        refine RJ.seg 4 [2, 14] (L2 := [(2, .int .i64 0), (14, .bool ((decide ((Int.fdiv x0 8) = 30))))]) (H2 := []) (by kernel_rfl) ?_
        refine RJ.end (by kernel_rfl) ?_
        refine PJ.next ?_
        refine J.caseB 14 (b := (decide ((Int.fdiv x0 8) = 30))) (by kernel_rfl) (fun hb10 => ?_) (fun hb10 => ?_)
        · have h11 := condT hb10 h9
          refine K.condT (by kernel_rfl) ?_
          refine K.seq (by kernel_rfl) ?_
          refine K.region (by kernel_rfl) ?_
          refine RJ.seg 1 [2] (L2 := [(2, .int .i64 4)]) (H2 := []) (by kernel_rfl) ?_
          refine RJ.end (by kernel_rfl) ?_
          refine PJ.next ?_
          refine K.ret (by kernel_rfl) ?_
          refine PJ.blockRet ?_
          refine PJ.passRet ?_
          obtain rfl := Option.some.inj h11
          exact K.ret0 (.inr rfl) hFn hFH hFD (by kernel_rfl) (by kernel_rfl) (by kernel_rfl)
        · have h12 := condF hb10 h9
          refine K.condF (by kernel_rfl) ?_
          refine K.skip (by kernel_rfl) ?_
          refine PJ.blockNormal ?_
          refine PJ.next ?_
          refine K.seq (by kernel_rfl) ?_
          refine K.region (by kernel_rfl) ?_
          refine RJ.seg 1 [2] (L2 := [(2, .int .i64 0)]) (H2 := []) (by kernel_rfl) ?_
          refine RJ.end (by kernel_rfl) ?_
          refine PJ.next ?_
          refine K.ret (by kernel_rfl) ?_
          obtain rfl := Option.some.inj h12
          exact K.ret0 (.inr rfl) hFn hFH hFD (by kernel_rfl) (by kernel_rfl) (by kernel_rfl)

def utf_first (x0 : List Int) : Option (Int × Int) :=
  (bif inR 0 x0.length then (Option.bind (utf_promised (nth x0 0)) fun y2 => (Option.bind (Option.bind (bif (decide (y2 = 0)) then (some true) else (some ((decide (y2 > (x0.length : Int)))))) fun (s28 : Bool) => (bif s28 then (some (.inr (0, 0))) else (some (.inl ())))) (joinX fun (s20 : Unit) => (bif inR 0 x0.length then (Option.bind (utf_mark y2) fun y41 => (Option.bind (bif inS 1 y2 x0.length then (loopN (fun (s90 : Int × Int) => (bif (decide (s90.2 < ((cut x0 1 y2).length : Int))) then (bif inR s90.2 (cut x0 1 y2).length then (bif (decide (¬ ((bits .andNot .u8 (nth (cut x0 1 y2) s90.2) 63)) = 128)) then (some (.inr (.inr (0, 0)))) else (some (.inl ((bits .or .i32 (IntKind.wrap .i32 (s90.1 * 64)) ((IntKind.wrap .i32 ((bits .and .u8 (nth (cut x0 1 y2) s90.2) 63))))), (IntKind.wrap .i64 (s90.2 + 1)))))) else none) else (some (.inr (.inl s90.1))))) big ((IntKind.wrap .i32 (bits .andNot .u8 (nth x0 0) y41)), 0)) else none) (joinX fun (s84 : Int) => (Option.bind (utf_Size s84) fun y129 => (bif (decide (¬ y129 = y2)) then (some (0, 0)) else (some (s84, y2))))))) else none)))) else none)
theorem utf_first_ok {x0 : List Int} {r : Int × Int} (h : utf_first x0 = some r) : SC Try.prog 25 [lsv (encI .u8) 1 x0] [] (.tup [.int .i32 r.1, .int .i64 r.2]) [] := by
  refine K.fn (fn := Try.f25) (by kernel_rfl) (by kernel_rfl) (by kernel_rfl) (by kernel_rfl) (by kernel_rfl) (fun F hFn hFH hFD => ?_)
  unfold utf_first at h
  refine K.seq (by kernel_rfl) ?_
  refine K.region (by kernel_rfl) ?_
  refine RJ.seg 2 [0, 2, 3] (L2 := [(0, lsv (encI .u8) 1 x0), (2, .int .i32 0), (3, .int .i64 0)]) (H2 := []) (by kernel_rfl) ?_
  refine RJ.end (by kernel_rfl) ?_
  refine PJ.next ?_
  refine K.seq (by kernel_rfl) ?_
  refine K.region (by kernel_rfl) ?_
  refine RJ.seg 1 [0, 2, 3, 8] (L2 := [(0, lsv (encI .u8) 1 x0), (2, .int .i32 0), (3, .int .i64 0), (8, lsv (encI .u8) 1 x0)]) (H2 := []) (by kernel_rfl) ?_
  obtain ⟨hm, h1⟩ := asrt h
  refine RJ.rel (d := (some 9)) (ef := ⟨.ep (((x0.flatMap (encI .u8)).drop ((0 : Int).toNat * 1)).take 1), [], []⟩) (ef' := ⟨.ep ((encI .u8) (nth x0 0)), [], []⟩) (c := inR 0 x0.length) (tr2 := []) (H2 := []) (by kernel_rfl) hm (fun hc => N.idx (encI_len .u8) hc) (by kernel_rfl) ?_
  refine RJ.seg 1 [0, 2, 3, 10] (L2 := [(0, lsv (encI .u8) 1 x0), (2, .int .i32 0), (3, .int .i64 0), (10, .int .u8 (nth x0 0))]) (H2 := []) (by kernel_rfl) ?_
  obtain ⟨y2, hy3, h4⟩ := bindS h1
  refine RJ.call0 (d := (some 11)) (f := 28) (args := [.int .u8 (nth x0 0)]) (v := .int .i64 y2) (tr2 := []) (by kernel_rfl) (by kernel_rfl) (.cons (Le.refl _) .nil) (utf_promised_ok hy3) (by kernel_rfl) ?_
  refine RJ.seg 1 [0, 2, 3, 4] (L2 := [(0, lsv (encI .u8) 1 x0), (2, .int .i32 0), (3, .int .i64 0), (4, .int .i64 y2)]) (H2 := []) (by kernel_rfl) ?_
  refine RJ.end (by kernel_rfl) ?_
  refine PJ.next ?_
  obtain ⟨y21, hy22, h23⟩ := bindS h4
  refine K.cutX (by kernel_rfl) (fun (s20 : Unit) => ([(0, lsv (encI .u8) 1 x0), (2, .int .i32 0), (3, .int .i64 0), (4, .int .i64 y2)], [])) y21 ?_ (fun s20 hs => ?_)
  · obtain ⟨s28, hy30, h32⟩ := bindS hy22
    refine K.cutN (by kernel_rfl) (fun (s28 : Bool) => ([(0, lsv (encI .u8) 1 x0), (2, .int .i32 0), (3, .int .i64 0), (4, .int .i64 y2), (19, .bool s28)], [])) s28 ?_ ?_
    · refine K.region (by kernel_rfl) ?_
      refine RJ.seg 3 [0, 2, 3, 4, 14] (L2 := [(0, lsv (encI .u8) 1 x0), (2, .int .i32 0), (3, .int .i64 0), (4, .int .i64 y2), (14, .bool (decide (y2 = 0)))]) (H2 := []) (by kernel_rfl) ?_
      refine RJ.caseB 14 (b := (decide (y2 = 0))) (by kernel_rfl) (fun hb33 => ?_) (fun hb33 => ?_)
      · have h34 := condT hb33 hy30
        refine RJ.seg 5 [0, 2, 3, 4, 19] (L2 := [(0, lsv (encI .u8) 1 x0), (2, .int .i32 0), (3, .int .i64 0), (4, .int .i64 y2), (19, .bool true)]) (H2 := []) (by kernel_rfl) ?_
        refine RJ.end (by kernel_rfl) ?_
        obtain rfl := Option.some.inj h34
        exact PJ.cutN [0, 2, 3, 4, 19] (by kernel_rfl) (by kernel_rfl)
      · have h35 := condF hb33 hy30
        refine RJ.seg 5 [0, 2, 3, 4, 19] (L2 := [(0, lsv (encI .u8) 1 x0), (2, .int .i32 0), (3, .int .i64 0), (4, .int .i64 y2), (19, .bool ((decide (y2 > (x0.length : Int)))))]) (H2 := []) (by kernel_rfl) ?_
        refine RJ.end (by kernel_rfl) ?_
        obtain rfl := Option.some.inj h35
        exact PJ.cutN [0, 2, 3, 4, 19] (by kernel_rfl) (by kernel_rfl)
    · refine J.caseB 19 (b := s28) (by kernel_rfl) (fun hb36 => ?_) (fun hb36 => ?_)
      · have h37 := condT hb36 h32
        refine K.condT (by kernel_rfl) ?_
        refine K.seq (by kernel_rfl) ?_
        refine K.region (by kernel_rfl) ?_
        refine RJ.seg 2 [0, 2, 3, 4] (L2 := [(0, lsv (encI .u8) 1 x0), (2, .int .i32 0), (3, .int .i64 0), (4, .int .i64 y2)]) (H2 := []) (by kernel_rfl) ?_
        refine RJ.end (by kernel_rfl) ?_
        refine PJ.next ?_
        refine K.ret (by kernel_rfl) ?_
        obtain rfl := Option.some.inj h37
        have h39 := joinX_inr h23
        refine PJ.cutXr (fun e => nomatch e) ?_
        obtain rfl := Option.some.inj h39
        exact K.ret0 (.inr rfl) hFn hFH hFD (by kernel_rfl) (by kernel_rfl) (by kernel_rfl)
      · have h38 := condF hb36 h32
        refine K.condF (by kernel_rfl) ?_
        refine K.skip (by kernel_rfl) ?_
        obtain rfl := Option.some.inj h38
        exact PJ.cutXl [0, 2, 3, 4] (by kernel_rfl) (by kernel_rfl)
  · subst hs
    have h24 := joinX_inl h23
    refine K.seq (by kernel_rfl) ?_
    refine J.keep [0, 2, 3, 4] (L2 := [(0, lsv (encI .u8) 1 x0), (2, .int .i32 0), (3, .int .i64 0), (4, .int .i64 y2)]) (by kernel_rfl) ?_
    refine K.draw (by kernel_rfl) (by kernel_rfl) (by kernel_rfl) (H2 := [.res]) (by kernel_rfl) (n := 0) (by kernel_rfl) ?_
    refine RJ.segD 1 (tr2 := [([], [])]) (L2 := [(20, lsv (encI .u8) 1 x0), (0, lsv (encI .u8) 1 x0), (2, .int .i32 0), (3, .int .i64 0), (4, .int .i64 y2)]) (H2 := [.res]) (by kernel_rfl) ?_
    obtain ⟨hm, h40⟩ := asrt h24
    refine RJ.rel (d := (some 21)) (ef := ⟨.ep (((x0.flatMap (encI .u8)).drop ((0 : Int).toNat * 1)).take 1), [], []⟩) (ef' := ⟨.ep ((encI .u8) (nth x0 0)), [], []⟩) (c := inR 0 x0.length) (tr2 := [([], []), ([], [])]) (H2 := [.res]) (by kernel_rfl) hm (fun hc => N.idx (encI_len .u8) hc) (by kernel_rfl) ?_
    refine RJ.segD 2 (tr2 := [([], []), ([], []), ([], []), ([], [])]) (L2 := [(23, .int .i64 y2), (22, .int .u8 (nth x0 0)), (21, .ep [.int .u8 (nth x0 0)]), (20, lsv (encI .u8) 1 x0), (0, lsv (encI .u8) 1 x0), (2, .int .i32 0), (3, .int .i64 0), (4, .int .i64 y2)]) (H2 := [.res]) (by kernel_rfl) ?_
    obtain ⟨y41, hy42, h43⟩ := bindS h40
    refine RJ.call0 (d := (some 24)) (f := 27) (args := [.int .i64 y2]) (v := .int .u8 y41) (tr2 := [([], []), ([], []), ([], []), ([], []), ([], [0])]) (by kernel_rfl) (by kernel_rfl) (.cons (Le.refl _) .nil) (utf_mark_ok hy42) (by kernel_rfl) ?_
    refine RJ.segD 3 (tr2 := [([], []), ([], []), ([], []), ([], []), ([], [0]), ([], []), ([], []), ([], [])]) (L2 := [(5, .int .i32 ((IntKind.wrap .i32 (bits .andNot .u8 (nth x0 0) y41)))), (26, .int .i32 ((IntKind.wrap .i32 (bits .andNot .u8 (nth x0 0) y41)))), (25, .int .u8 (bits .andNot .u8 (nth x0 0) y41)), (24, .int .u8 y41), (23, .int .i64 y2), (22, .int .u8 (nth x0 0)), (21, .ep [.int .u8 (nth x0 0)]), (20, lsv (encI .u8) 1 x0), (0, lsv (encI .u8) 1 x0), (2, .int .i32 0), (3, .int .i64 0), (4, .int .i64 y2)]) (H2 := [.res]) (by kernel_rfl) ?_
    refine RJ.end (by kernel_rfl) ?_
    refine PJ.next ?_
    obtain ⟨y85, hy86, h87⟩ := bindS h43
    refine K.cutX (by kernel_rfl) (fun (s84 : Int) => ([(2, .int .i32 0), (3, .int .i64 0), (4, .int .i64 y2), (5, .int .i32 s84)], [])) y85 ?_ (fun s84 hs => ?_)
    · refine K.seq (by kernel_rfl) ?_
      refine K.region (by kernel_rfl) ?_
      refine RJ.seg 2 [2, 3, 4, 5, 27, 28] (L2 := [(2, .int .i32 0), (3, .int .i64 0), (4, .int .i64 y2), (5, .int .i32 ((IntKind.wrap .i32 (bits .andNot .u8 (nth x0 0) y41)))), (27, lsv (encI .u8) 1 x0), (28, .int .i64 y2)]) (H2 := [.res]) (by kernel_rfl) ?_
      obtain ⟨hm, h89⟩ := asrt hy86
      refine RJ.rel (d := (some 29)) (ef := ⟨.lst ((y2 : Int).toNat - (1 : Int).toNat) 1 (((x0.flatMap (encI .u8)).take ((y2 : Int).toNat * 1)).drop ((1 : Int).toNat * 1)), [], []⟩) (ef' := ⟨.lst (cut x0 1 y2).length 1 ((cut x0 1 y2).flatMap (encI .u8)), [], []⟩) (c := inS 1 y2 x0.length) (tr2 := []) (H2 := [.res]) (by kernel_rfl) hm (fun hc => N.slice (encI_len .u8) hc) (by kernel_rfl) ?_
      refine RJ.seg 2 [2, 3, 4, 5, 29, 30, 31] (L2 := [(2, .int .i32 0), (3, .int .i64 0), (4, .int .i64 y2), (5, .int .i32 ((IntKind.wrap .i32 (bits .andNot .u8 (nth x0 0) y41)))), (29, lsv (encI .u8) 1 (cut x0 1 y2)), (30, .int .i64 ((cut x0 1 y2).length : Int)), (31, .int .i64 0)]) (H2 := [.res]) (by kernel_rfl) ?_
      refine RJ.end (by kernel_rfl) ?_
      refine PJ.next ?_
      refine K.block 0 (by kernel_rfl) ?_
      refine J.wk (Wk.sel (L2 := [(2, .int .i32 0), (3, .int .i64 0), (4, .int .i64 y2), (5, .int .i32 ((IntKind.wrap .i32 (bits .andNot .u8 (nth x0 0) y41)))), (29, lsv (encI .u8) 1 (cut x0 1 y2)), (30, .int .i64 ((cut x0 1 y2).length : Int)), (31, .int .i64 0)]) (H2 := []) 0 (by rw [hFH]; rfl) hFD [] (by kernel_rfl) (by kernel_rfl) (by decide) (by kernel_rfl) (by kernel_rfl) (by kernel_rfl) (by kernel_rfl)) ?_
      refine K.loop (by kernel_rfl) (fun (s90 : Int × Int) => ([(2, .int .i32 0), (3, .int .i64 0), (4, .int .i64 y2), (5, .int .i32 s90.1), (29, lsv (encI .u8) 1 (cut x0 1 y2)), (30, .int .i64 ((cut x0 1 y2).length : Int)), (31, .int .i64 s90.2)], [])) h89 [2, 3, 4, 5, 29, 30, 31] (by kernel_rfl) (by kernel_rfl) (fun s90 x116 hs115 => ?_)
      refine K.seq (by kernel_rfl) ?_
      refine K.region (by kernel_rfl) ?_
      refine RJ.seg 1 [2, 3, 4, 5, 29, 30, 31, 32] (L2 := [(2, .int .i32 0), (3, .int .i64 0), (4, .int .i64 y2), (5, .int .i32 s90.1), (29, lsv (encI .u8) 1 (cut x0 1 y2)), (30, .int .i64 ((cut x0 1 y2).length : Int)), (31, .int .i64 s90.2), (32, .bool ((decide (s90.2 < ((cut x0 1 y2).length : Int)))))]) (H2 := []) (by kernel_rfl) ?_
      refine RJ.end (by kernel_rfl) ?_
      refine PJ.next ?_
      refine K.seq (by kernel_rfl) ?_
      refine J.caseB 32 (b := (decide (s90.2 < ((cut x0 1 y2).length : Int)))) (by kernel_rfl) (fun hb117 => ?_) (fun hb117 => ?_)
      · have h118 := condT hb117 hs115
        refine K.condT (by kernel_rfl) ?_
        refine K.skip (by kernel_rfl) ?_
        refine PJ.next ?_
        refine K.seq (by kernel_rfl) ?_
        refine K.block 1 (by kernel_rfl) ?_
        refine K.seq (by kernel_rfl) ?_
        refine K.region (by kernel_rfl) ?_
        obtain ⟨hm, h120⟩ := asrt h118
        refine RJ.rel (d := (some 33)) (ef := ⟨.ep ((((cut x0 1 y2).flatMap (encI .u8)).drop ((s90.2 : Int).toNat * 1)).take 1), [], []⟩) (ef' := ⟨.ep ((encI .u8) (nth (cut x0 1 y2) s90.2)), [], []⟩) (c := inR s90.2 (cut x0 1 y2).length) (tr2 := []) (H2 := []) (by kernel_rfl) hm (fun hc => N.idx (encI_len .u8) hc) (by kernel_rfl) ?_
        refine RJ.seg 2 [2, 3, 4, 5, 7, 29, 30, 31] (L2 := [(2, .int .i32 0), (3, .int .i64 0), (4, .int .i64 y2), (5, .int .i32 s90.1), (7, .int .u8 (nth (cut x0 1 y2) s90.2)), (29, lsv (encI .u8) 1 (cut x0 1 y2)), (30, .int .i64 ((cut x0 1 y2).length : Int)), (31, .int .i64 s90.2)]) (H2 := []) (by kernel_rfl) ?_
        refine RJ.end (by kernel_rfl) ?_
        refine PJ.next ?_
        refine K.seq (by kernel_rfl) ?_
        refine K.seq (by kernel_rfl) ?_
        refine K.region (by kernel_rfl) ?_
        refine RJ.seg 3 [2, 3, 4, 5, 7, 29, 30, 31, 37] (L2 := [(2, .int .i32 0), (3, .int .i64 0), (4, .int .i64 y2), (5, .int .i32 s90.1), (7, .int .u8 (nth (cut x0 1 y2) s90.2)), (29, lsv (encI .u8) 1 (cut x0 1 y2)), (30, .int .i64 ((cut x0 1 y2).length : Int)), (31, .int .i64 s90.2), (37, .bool ((decide (¬ ((bits .andNot .u8 (nth (cut x0 1 y2) s90.2) 63)) = 128))))]) (H2 := []) (by kernel_rfl) ?_
        refine RJ.end (by kernel_rfl) ?_
        refine PJ.next ?_
        refine J.caseB 37 (b := (decide (¬ ((bits .andNot .u8 (nth (cut x0 1 y2) s90.2) 63)) = 128))) (by kernel_rfl) (fun hb121 => ?_) (fun hb121 => ?_)
        · have h122 := condT hb121 h120
          refine K.condT (by kernel_rfl) ?_
          refine K.seq (by kernel_rfl) ?_
          refine K.region (by kernel_rfl) ?_
          refine RJ.seg 2 [2, 3, 4, 5, 7, 29, 30, 31] (L2 := [(2, .int .i32 0), (3, .int .i64 0), (4, .int .i64 y2), (5, .int .i32 s90.1), (7, .int .u8 (nth (cut x0 1 y2) s90.2)), (29, lsv (encI .u8) 1 (cut x0 1 y2)), (30, .int .i64 ((cut x0 1 y2).length : Int)), (31, .int .i64 s90.2)]) (H2 := []) (by kernel_rfl) ?_
          refine RJ.end (by kernel_rfl) ?_
          refine PJ.next ?_
          refine K.ret (by kernel_rfl) ?_
          refine PJ.passRet ?_
          refine PJ.blockRet ?_
          refine PJ.passRet ?_
          obtain rfl := Option.some.inj h122
          refine PJ.loopOut (fun e => nomatch e) (fun he126 => ?_)
          have h124 := congrArg some he126
          refine PJ.blockRet ?_
          obtain rfl := Option.some.inj h124
          have h125 := joinX_inr h87
          refine PJ.cutXr (fun e => nomatch e) ?_
          obtain rfl := Option.some.inj h125
          exact K.ret0 (.inr rfl) hFn hFH hFD (by kernel_rfl) (by kernel_rfl) (by kernel_rfl)
        · have h123 := condF hb121 h120
          refine K.condF (by kernel_rfl) ?_
          refine K.skip (by kernel_rfl) ?_
          refine PJ.next ?_
          refine K.region (by kernel_rfl) ?_
          refine RJ.seg 7 [2, 3, 4, 5, 29, 30, 31] (L2 := [(2, .int .i32 0), (3, .int .i64 0), (4, .int .i64 y2), (5, .int .i32 ((bits .or .i32 (IntKind.wrap .i32 (s90.1 * 64)) ((IntKind.wrap .i32 ((bits .and .u8 (nth (cut x0 1 y2) s90.2) 63))))))), (29, lsv (encI .u8) 1 (cut x0 1 y2)), (30, .int .i64 ((cut x0 1 y2).length : Int)), (31, .int .i64 s90.2)]) (H2 := []) (by kernel_rfl) ?_
          refine RJ.end (by kernel_rfl) ?_
          refine PJ.blockNormal ?_
          refine PJ.next ?_
          refine K.region (by kernel_rfl) ?_
          refine RJ.seg 2 [2, 3, 4, 5, 29, 30, 31] (L2 := [(2, .int .i32 0), (3, .int .i64 0), (4, .int .i64 y2), (5, .int .i32 ((bits .or .i32 (IntKind.wrap .i32 (s90.1 * 64)) ((IntKind.wrap .i32 ((bits .and .u8 (nth (cut x0 1 y2) s90.2) 63))))))), (29, lsv (encI .u8) 1 (cut x0 1 y2)), (30, .int .i64 ((cut x0 1 y2).length : Int)), (31, .int .i64 (IntKind.wrap .i64 (s90.2 + 1)))]) (H2 := []) (by kernel_rfl) ?_
          refine RJ.end (by kernel_rfl) ?_
          obtain rfl := Option.some.inj h123
          exact PJ.loopNext [2, 3, 4, 5, 29, 30, 31] (by kernel_rfl) (by kernel_rfl)
      · have h119 := condF hb117 hs115
        refine K.condF (by kernel_rfl) ?_
        refine K.exit 0 (by kernel_rfl) ?_
        refine PJ.passExit ?_
        obtain rfl := Option.some.inj h119
        refine PJ.loopOut (fun e => nomatch e) (fun he128 => ?_)
        have h127 := congrArg some he128
        refine PJ.blockOut ?_
        obtain rfl := Option.some.inj h127
        exact PJ.cutXl [2, 3, 4, 5] (by kernel_rfl) (by kernel_rfl)
    · subst hs
      have h88 := joinX_inl h87
      refine K.seq (by kernel_rfl) ?_
      refine K.seq (by kernel_rfl) ?_
      refine K.region (by kernel_rfl) ?_
      refine RJ.seg 1 [2, 3, 4, 5, 45] (L2 := [(2, .int .i32 0), (3, .int .i64 0), (4, .int .i64 y2), (5, .int .i32 s84), (45, .int .i32 s84)]) (H2 := []) (by kernel_rfl) ?_
      obtain ⟨y129, hy130, h131⟩ := bindS h88
      refine RJ.call0 (d := (some 46)) (f := 13) (args := [.int .i32 s84]) (v := .int .i64 y129) (tr2 := []) (by kernel_rfl) (by kernel_rfl) (.cons (Le.refl _) .nil) (utf_Size_ok hy130) (by kernel_rfl) ?_
      refine RJ.seg 2 [2, 3, 4, 5, 48] (L2 := [(2, .int .i32 0), (3, .int .i64 0), (4, .int .i64 y2), (5, .int .i32 s84), (48, .bool (decide (¬ y129 = y2)))]) (H2 := []) (by kernel_rfl) ?_
      refine RJ.end (by kernel_rfl) ?_
      refine PJ.next ?_
      refine J.caseB 48 (b := (decide (¬ y129 = y2))) (by kernel_rfl) (fun hb132 => ?_) (fun hb132 => ?_)
      · have h133 := condT hb132 h131
        refine K.condT (by kernel_rfl) ?_
        refine K.seq (by kernel_rfl) ?_
        refine K.region (by kernel_rfl) ?_
        refine RJ.seg 2 [2, 3, 4, 5] (L2 := [(2, .int .i32 0), (3, .int .i64 0), (4, .int .i64 y2), (5, .int .i32 s84)]) (H2 := []) (by kernel_rfl) ?_
        refine RJ.end (by kernel_rfl) ?_
        refine PJ.next ?_
        refine K.ret (by kernel_rfl) ?_
        refine PJ.passRet ?_
        obtain rfl := Option.some.inj h133
        exact K.ret0 (.inr rfl) hFn hFH hFD (by kernel_rfl) (by kernel_rfl) (by kernel_rfl)
      · have h134 := condF hb132 h131
        refine K.condF (by kernel_rfl) ?_
        refine K.skip (by kernel_rfl) ?_
        refine PJ.next ?_
        refine K.seq (by kernel_rfl) ?_
        refine K.region (by kernel_rfl) ?_
        refine RJ.seg 4 [2, 3] (L2 := [(2, .int .i32 s84), (3, .int .i64 y2)]) (H2 := []) (by kernel_rfl) ?_
        refine RJ.end (by kernel_rfl) ?_
        refine PJ.next ?_
        refine K.ret (by kernel_rfl) ?_
        obtain rfl := Option.some.inj h134
        exact K.ret0 (.inr rfl) hFn hFH hFD (by kernel_rfl) (by kernel_rfl) (by kernel_rfl)

def utf_Decode (x0 : List Int) : Option ((List Int) × Int × Int) :=
  (Option.bind (loopN (fun (s57 : Int × (List Int)) => (bif (decide (s57.1 < (x0.length : Int))) then (bif inS s57.1 (x0.length : Int) x0.length then (Option.bind (utf_first (cut x0 s57.1 (x0.length : Int))) fun y96 => (bif (decide (y96.2 = 0)) then (some (.inr (.inr (([] : List Int), s57.1, 3)))) else (bif room (s57.2.length + ([y96.1] : List Int).length) then (some (.inl ((IntKind.wrap .i64 (s57.1 + y96.2)), (s57.2 ++ ([y96.1] : List Int))))) else none))) else none) else (some (.inr (.inl s57.2))))) big (0, ([] : List Int))) (joinX fun (s52 : (List Int)) => (some (s52, 0, 0))))
theorem utf_Decode_ok {x0 : List Int} {r : (List Int) × Int × Int} (h : utf_Decode x0 = some r) : SC Try.prog 19 [lsv (encI .u8) 1 x0] [] (.tup [lsv (encI .i32) 1 r.1, .int .i64 r.2.1, .int .i64 r.2.2]) [] := by
  refine K.fn (fn := Try.f19) (by kernel_rfl) (by kernel_rfl) (by kernel_rfl) (by kernel_rfl) (by kernel_rfl) (fun F hFn hFH hFD => ?_)
  unfold utf_Decode at h
  refine K.seq (by kernel_rfl) ?_
  refine K.region (by kernel_rfl) ?_
  refine RJ.seg 3 [0, 2, 3, 4] (L2 := [(0, lsv (encI .u8) 1 x0), (2, .nl), (3, .int .i64 0), (4, .int .i64 0)]) (H2 := []) (by kernel_rfl) ?_
  refine RJ.end (by kernel_rfl) ?_
  refine PJ.next ?_
  refine K.seq (by kernel_rfl) ?_
  refine K.region (by kernel_rfl) ?_
  refine RJ.seg 1 [0, 2, 3, 4, 5] (L2 := [(0, lsv (encI .u8) 1 x0), (2, .nl), (3, .int .i64 0), (4, .int .i64 0), (5, .nl)]) (H2 := []) (by kernel_rfl) ?_
  refine RJ.end (by kernel_rfl) ?_
  refine PJ.next ?_
  obtain ⟨y53, hy54, h55⟩ := bindS h
  refine K.cutX (by kernel_rfl) (fun (s52 : (List Int)) => ([(2, .nl), (3, .int .i64 0), (4, .int .i64 0), (5, .vc 0)], [vecL (encI .i32) 1 21 s52])) y53 ?_ (fun s52 hs => ?_)
  · refine K.seq (by kernel_rfl) ?_
    refine K.region (by kernel_rfl) ?_
    refine RJ.seg 1 [0, 2, 3, 4, 5, 6] (L2 := [(0, lsv (encI .u8) 1 x0), (2, .nl), (3, .int .i64 0), (4, .int .i64 0), (5, .nl), (6, .int .i64 0)]) (H2 := []) (by kernel_rfl) ?_
    refine RJ.end (by kernel_rfl) ?_
    refine PJ.next ?_
    refine K.block 0 (by kernel_rfl) ?_
    refine J.wk (Wk.viv 5 1 21 (by kernel_rfl)) ?_
    refine K.loop (by kernel_rfl) (fun (s57 : Int × (List Int)) => ([(0, lsv (encI .u8) 1 x0), (2, .nl), (3, .int .i64 0), (4, .int .i64 0), (5, .vc 0), (6, .int .i64 s57.1)], [vecL (encI .i32) 1 21 s57.2])) hy54 [0, 2, 3, 4, 5, 6] (by kernel_rfl) (by kernel_rfl) (fun s57 x91 hs90 => ?_)
    refine K.seq (by kernel_rfl) ?_
    refine K.seq (by kernel_rfl) ?_
    refine K.region (by kernel_rfl) ?_
    refine RJ.seg 4 [0, 2, 3, 4, 5, 6, 12] (L2 := [(0, lsv (encI .u8) 1 x0), (2, .nl), (3, .int .i64 0), (4, .int .i64 0), (5, .vc 0), (6, .int .i64 s57.1), (12, .bool ((decide (s57.1 < (x0.length : Int)))))]) (H2 := [vecL (encI .i32) 1 21 s57.2]) (by kernel_rfl) ?_
    refine RJ.end (by kernel_rfl) ?_
    refine PJ.next ?_
    refine J.caseB 12 (b := (decide (s57.1 < (x0.length : Int)))) (by kernel_rfl) (fun hb92 => ?_) (fun hb92 => ?_)
    · have h93 := condT hb92 hs90
      refine K.condT (by kernel_rfl) ?_
      refine K.skip (by kernel_rfl) ?_
      refine PJ.next ?_
      refine K.block 1 (by kernel_rfl) ?_
      refine K.seq (by kernel_rfl) ?_
      refine K.region (by kernel_rfl) ?_
      refine RJ.seg 2 [0, 2, 3, 4, 5, 6, 14, 15] (L2 := [(0, lsv (encI .u8) 1 x0), (2, .nl), (3, .int .i64 0), (4, .int .i64 0), (5, .vc 0), (6, .int .i64 s57.1), (14, lsv (encI .u8) 1 x0), (15, .int .i64 s57.1)]) (H2 := [vecL (encI .i32) 1 21 s57.2]) (by kernel_rfl) ?_
      obtain ⟨hm, h95⟩ := asrt h93
      refine RJ.rel (d := (some 16)) (ef := ⟨.lst (((x0.length : Int) : Int).toNat - (s57.1 : Int).toNat) 1 (((x0.flatMap (encI .u8)).take (((x0.length : Int) : Int).toNat * 1)).drop ((s57.1 : Int).toNat * 1)), [], []⟩) (ef' := ⟨.lst (cut x0 s57.1 (x0.length : Int)).length 1 ((cut x0 s57.1 (x0.length : Int)).flatMap (encI .u8)), [], []⟩) (c := inS s57.1 (x0.length : Int) x0.length) (tr2 := []) (H2 := [vecL (encI .i32) 1 21 s57.2]) (by kernel_rfl) hm (fun hc => N.slice (encI_len .u8) hc) (by kernel_rfl) ?_
      obtain ⟨y96, hy97, h98⟩ := bindS h95
      refine RJ.call0 (d := (some 17)) (f := 25) (args := [lsv (encI .u8) 1 (cut x0 s57.1 (x0.length : Int))]) (v := .tup [.int .i32 y96.1, .int .i64 y96.2]) (tr2 := []) (by kernel_rfl) (by kernel_rfl) (.cons (Le.refl _) .nil) (utf_first_ok hy97) (by kernel_rfl) ?_
      refine RJ.seg 5 [0, 2, 3, 4, 5, 6, 7, 8] (L2 := [(0, lsv (encI .u8) 1 x0), (2, .nl), (3, .int .i64 0), (4, .int .i64 0), (5, .vc 0), (6, .int .i64 s57.1), (7, .int .i32 y96.1), (8, .int .i64 y96.2)]) (H2 := [vecL (encI .i32) 1 21 s57.2]) (by kernel_rfl) ?_
      refine RJ.end (by kernel_rfl) ?_
      refine PJ.next ?_
      refine K.seq (by kernel_rfl) ?_
      refine K.seq (by kernel_rfl) ?_
      refine K.region (by kernel_rfl) ?_
      refine RJ.seg 2 [0, 2, 3, 4, 5, 6, 7, 8, 21] (L2 := [(0, lsv (encI .u8) 1 x0), (2, .nl), (3, .int .i64 0), (4, .int .i64 0), (5, .vc 0), (6, .int .i64 s57.1), (7, .int .i32 y96.1), (8, .int .i64 y96.2), (21, .bool (decide (y96.2 = 0)))]) (H2 := [vecL (encI .i32) 1 21 s57.2]) (by kernel_rfl) ?_
      refine RJ.end (by kernel_rfl) ?_
      refine PJ.next ?_
      refine J.caseB 21 (b := (decide (y96.2 = 0))) (by kernel_rfl) (fun hb99 => ?_) (fun hb99 => ?_)
      · have h100 := condT hb99 h98
        refine K.condT (by kernel_rfl) ?_
        refine K.seq (by kernel_rfl) ?_
        refine K.region (by kernel_rfl) ?_
        refine RJ.seg 4 [0, 2, 3, 4, 5, 6, 7, 8] (L2 := [(0, lsv (encI .u8) 1 x0), (2, .nl), (3, .int .i64 s57.1), (4, .int .i64 3), (5, .vc 0), (6, .int .i64 s57.1), (7, .int .i32 y96.1), (8, .int .i64 y96.2)]) (H2 := [vecL (encI .i32) 1 21 s57.2]) (by kernel_rfl) ?_
        refine RJ.end (by kernel_rfl) ?_
        refine PJ.next ?_
        refine K.ret (by kernel_rfl) ?_
        refine PJ.passRet ?_
        refine PJ.blockRet ?_
        obtain rfl := Option.some.inj h100
        refine PJ.loopOut (fun e => nomatch e) (fun he104 => ?_)
        have h102 := congrArg some he104
        refine PJ.blockRet ?_
        obtain rfl := Option.some.inj h102
        have h103 := joinX_inr h55
        refine PJ.cutXr (fun e => nomatch e) ?_
        obtain rfl := Option.some.inj h103
        refine PJ.res (v1 := .tup [.nl, .int .i64 s57.1, .int .i64 3]) (Le.tup (.cons (Le.nl _) (.cons (Le.refl _) (.cons (Le.refl _) .nil)))) ?_
        exact K.ret0 (.inr rfl) hFn hFH hFD (by kernel_rfl) (by kernel_rfl) (by kernel_rfl)
      · have h101 := condF hb99 h98
        refine K.condF (by kernel_rfl) ?_
        refine K.skip (by kernel_rfl) ?_
        refine PJ.next ?_
        refine K.seq (by kernel_rfl) ?_
        refine K.region (by kernel_rfl) ?_
        refine RJ.seg 3 [0, 2, 3, 4, 5, 6, 8, 23, 25] (L2 := [(0, lsv (encI .u8) 1 x0), (2, .nl), (3, .int .i64 0), (4, .int .i64 0), (5, .vc 0), (6, .int .i64 s57.1), (8, .int .i64 y96.2), (23, .vc 0), (25, .vc 1)]) (H2 := [vecL (encI .i32) 1 21 s57.2, vecL (encI .i32) 1 21 ([y96.1] : List Int)]) (by kernel_rfl) ?_
        obtain ⟨hm, h105⟩ := asrt h101
        refine RJ.rel (d := (some 26)) (ef := ⟨.vc 2, [0, 1], [(0, .gone), (2, .vec (s57.2.length + ([y96.1] : List Int).length) 1 21 (s57.2.flatMap (encI .i32) ++ ([y96.1] : List Int).flatMap (encI .i32)))]⟩) (ef' := ⟨.vc 2, [0, 1], [(0, .gone), (2, vecL (encI .i32) 1 21 (s57.2 ++ ([y96.1] : List Int)))]⟩) (c := room (s57.2.length + ([y96.1] : List Int).length)) (tr2 := []) (H2 := [.gone, vecL (encI .i32) 1 21 ([y96.1] : List Int), vecL (encI .i32) 1 21 (s57.2 ++ ([y96.1] : List Int))]) (by kernel_rfl) hm (fun hc => N.app) (by kernel_rfl) ?_
        refine RJ.seg 1 [0, 2, 3, 4, 5, 6, 8] (L2 := [(0, lsv (encI .u8) 1 x0), (2, .nl), (3, .int .i64 0), (4, .int .i64 0), (5, .vc 2), (6, .int .i64 s57.1), (8, .int .i64 y96.2)]) (H2 := [.gone, vecL (encI .i32) 1 21 ([y96.1] : List Int), vecL (encI .i32) 1 21 (s57.2 ++ ([y96.1] : List Int))]) (by kernel_rfl) ?_
        refine RJ.end (by kernel_rfl) ?_
        refine PJ.next ?_
        refine K.region (by kernel_rfl) ?_
        refine RJ.seg 4 [0, 2, 3, 4, 5, 6] (L2 := [(0, lsv (encI .u8) 1 x0), (2, .nl), (3, .int .i64 0), (4, .int .i64 0), (5, .vc 2), (6, .int .i64 (IntKind.wrap .i64 (s57.1 + y96.2)))]) (H2 := [.gone, vecL (encI .i32) 1 21 ([y96.1] : List Int), vecL (encI .i32) 1 21 (s57.2 ++ ([y96.1] : List Int))]) (by kernel_rfl) ?_
        refine RJ.end (by kernel_rfl) ?_
        refine PJ.blockNormal ?_
        obtain rfl := Option.some.inj h105
        refine PJ.wk (Wk.sel (L2 := [(0, lsv (encI .u8) 1 x0), (2, .nl), (3, .int .i64 0), (4, .int .i64 0), (5, .vc 0), (6, .int .i64 (IntKind.wrap .i64 (s57.1 + y96.2)))]) (H2 := [vecL (encI .i32) 1 21 (s57.2 ++ ([y96.1] : List Int))]) 0 (by rw [hFH]; rfl) hFD [2] (by kernel_rfl) (by kernel_rfl) (by decide) (by kernel_rfl) (by kernel_rfl) (by kernel_rfl) (by kernel_rfl)) ?_
        exact PJ.loopNext [0, 2, 3, 4, 5, 6] (by kernel_rfl) (by kernel_rfl)
    · have h94 := condF hb92 hs90
      refine K.condF (by kernel_rfl) ?_
      refine K.exit 0 (by kernel_rfl) ?_
      refine PJ.passExit ?_
      obtain rfl := Option.some.inj h94
      refine PJ.loopOut (fun e => nomatch e) (fun he107 => ?_)
      have h106 := congrArg some he107
      refine PJ.blockOut ?_
      obtain rfl := Option.some.inj h106
      exact PJ.cutXl [2, 3, 4, 5] (by kernel_rfl) (by kernel_rfl)
  · subst hs
    have h56 := joinX_inl h55
    refine K.seq (by kernel_rfl) ?_
    refine K.region (by kernel_rfl) ?_
    refine RJ.seg 4 [2, 3, 4] (L2 := [(2, .vc 0), (3, .int .i64 0), (4, .int .i64 0)]) (H2 := [vecL (encI .i32) 1 21 s52]) (by kernel_rfl) ?_
    refine RJ.end (by kernel_rfl) ?_
    refine PJ.next ?_
    refine K.ret (by kernel_rfl) ?_
    obtain rfl := Option.some.inj h56
    refine PJ.wk (Wk.freeze 0 (n := s52.length) (k := 1) (e := 21) (cs := s52.flatMap (encI .i32)) (by kernel_rfl)) ?_
    exact K.ret0 (.inr rfl) hFn hFH hFD (by kernel_rfl) (by kernel_rfl) (by kernel_rfl)

def slices_Equal (x0 : List Int) (x1 : List Int) : Option (Bool) :=
  (bif (decide (¬ (x0.length : Int) = (x1.length : Int))) then (some false) else (Option.bind (loopN (fun (s51 : Int) => (bif (decide (s51 < (x0.length : Int))) then (bif inR s51 x0.length then (bif inR s51 x1.length then (bif (decide (¬ (nth x0 s51) = (nth x1 s51))) then (some (.inr (.inr false))) else (some (.inl (IntKind.wrap .i64 (s51 + 1))))) else none) else none) else (some (.inr (.inl ()))))) big 0) (joinX fun (s46 : Unit) => (some true))))
theorem slices_Equal_ok {x0 : List Int} {x1 : List Int} {r : Bool} (h : slices_Equal x0 x1 = some r) : SC Try.prog 22 [lsv (encI .i32) 1 x0, lsv (encI .i32) 1 x1] [] (.bool r) [] := by
  refine K.fn (fn := Try.f22) (by kernel_rfl) (by kernel_rfl) (by kernel_rfl) (by kernel_rfl) (by kernel_rfl) (fun F hFn hFH hFD => ?_)
  unfold slices_Equal at h
  refine K.seq (by kernel_rfl) ?_
  refine K.region (by kernel_rfl) ?_
  refine RJ.seg 1 [0, 1, 4] (L2 := [(0, lsv (encI .i32) 1 x0), (1, lsv (encI .i32) 1 x1), (4, .bool false)]) (H2 := []) (by kernel_rfl) ?_
  refine RJ.end (by kernel_rfl) ?_
  refine PJ.next ?_
  refine K.seq (by kernel_rfl) ?_
  refine K.seq (by kernel_rfl) ?_
  refine K.region (by kernel_rfl) ?_
  refine RJ.seg 5 [0, 1, 4, 10] (L2 := [(0, lsv (encI .i32) 1 x0), (1, lsv (encI .i32) 1 x1), (4, .bool false), (10, .bool ((decide (¬ (x0.length : Int) = (x1.length : Int)))))]) (H2 := []) (by kernel_rfl) ?_
  refine RJ.end (by kernel_rfl) ?_
  refine PJ.next ?_
  refine J.caseB 10 (b := (decide (¬ (x0.length : Int) = (x1.length : Int)))) (by kernel_rfl) (fun hb1 => ?_) (fun hb1 => ?_)
  · have h2 := condT hb1 h
    refine K.condT (by kernel_rfl) ?_
    refine K.seq (by kernel_rfl) ?_
    refine K.region (by kernel_rfl) ?_
    refine RJ.seg 1 [0, 1, 4] (L2 := [(0, lsv (encI .i32) 1 x0), (1, lsv (encI .i32) 1 x1), (4, .bool false)]) (H2 := []) (by kernel_rfl) ?_
    refine RJ.end (by kernel_rfl) ?_
    refine PJ.next ?_
    refine K.ret (by kernel_rfl) ?_
    refine PJ.passRet ?_
    obtain rfl := Option.some.inj h2
    exact K.ret0 (.inr rfl) hFn hFH hFD (by kernel_rfl) (by kernel_rfl) (by kernel_rfl)
  · have h3 := condF hb1 h
    refine K.condF (by kernel_rfl) ?_
    refine K.skip (by kernel_rfl) ?_
    refine PJ.next ?_
    obtain ⟨y47, hy48, h49⟩ := bindS h3
    refine K.cutX (by kernel_rfl) (fun (s46 : Unit) => ([(4, .bool false)], [])) y47 ?_ (fun s46 hs => ?_)
    · refine K.seq (by kernel_rfl) ?_
      refine K.region (by kernel_rfl) ?_
      refine RJ.seg 3 [0, 1, 4, 12, 13] (L2 := [(0, lsv (encI .i32) 1 x0), (1, lsv (encI .i32) 1 x1), (4, .bool false), (12, .int .i64 (x0.length : Int)), (13, .int .i64 0)]) (H2 := []) (by kernel_rfl) ?_
      refine RJ.end (by kernel_rfl) ?_
      refine PJ.next ?_
      refine K.block 0 (by kernel_rfl) ?_
      refine K.loop (by kernel_rfl) (fun (s51 : Int) => ([(0, lsv (encI .i32) 1 x0), (1, lsv (encI .i32) 1 x1), (4, .bool false), (12, .int .i64 (x0.length : Int)), (13, .int .i64 s51)], [])) hy48 [0, 1, 4, 12, 13] (by kernel_rfl) (by kernel_rfl) (fun s51 x79 hs78 => ?_)
      refine K.seq (by kernel_rfl) ?_
      refine K.region (by kernel_rfl) ?_
      refine RJ.seg 1 [0, 1, 4, 12, 13, 14] (L2 := [(0, lsv (encI .i32) 1 x0), (1, lsv (encI .i32) 1 x1), (4, .bool false), (12, .int .i64 (x0.length : Int)), (13, .int .i64 s51), (14, .bool ((decide (s51 < (x0.length : Int)))))]) (H2 := []) (by kernel_rfl) ?_
      refine RJ.end (by kernel_rfl) ?_
      refine PJ.next ?_
      refine K.seq (by kernel_rfl) ?_
      refine J.caseB 14 (b := (decide (s51 < (x0.length : Int)))) (by kernel_rfl) (fun hb80 => ?_) (fun hb80 => ?_)
      · have h81 := condT hb80 hs78
        refine K.condT (by kernel_rfl) ?_
        refine K.skip (by kernel_rfl) ?_
        refine PJ.next ?_
        refine K.seq (by kernel_rfl) ?_
        refine K.block 1 (by kernel_rfl) ?_
        refine K.seq (by kernel_rfl) ?_
        refine K.region (by kernel_rfl) ?_
        refine RJ.seg 2 [0, 1, 4, 5, 12, 13] (L2 := [(0, lsv (encI .i32) 1 x0), (1, lsv (encI .i32) 1 x1), (4, .bool false), (5, .int .i64 s51), (12, .int .i64 (x0.length : Int)), (13, .int .i64 s51)]) (H2 := []) (by kernel_rfl) ?_
        refine RJ.end (by kernel_rfl) ?_
        refine PJ.next ?_
        refine K.seq (by kernel_rfl) ?_
        refine J.keep [0, 1, 4, 5, 12, 13] (L2 := [(0, lsv (encI .i32) 1 x0), (1, lsv (encI .i32) 1 x1), (4, .bool false), (5, .int .i64 s51), (12, .int .i64 (x0.length : Int)), (13, .int .i64 s51)]) (by kernel_rfl) ?_
        refine K.draw (by kernel_rfl) (by kernel_rfl) (by kernel_rfl) (H2 := []) (by kernel_rfl) (n := 0) (by kernel_rfl) ?_
        refine RJ.segD 2 (tr2 := [([], []), ([], [])]) (L2 := [(17, .int .i64 s51), (16, lsv (encI .i32) 1 x0), (0, lsv (encI .i32) 1 x0), (1, lsv (encI .i32) 1 x1), (4, .bool false), (5, .int .i64 s51), (12, .int .i64 (x0.length : Int)), (13, .int .i64 s51)]) (H2 := []) (by kernel_rfl) ?_
        obtain ⟨hm, h83⟩ := asrt h81
        refine RJ.rel (d := (some 18)) (ef := ⟨.ep (((x0.flatMap (encI .i32)).drop ((s51 : Int).toNat * 1)).take 1), [], []⟩) (ef' := ⟨.ep ((encI .i32) (nth x0 s51)), [], []⟩) (c := inR s51 x0.length) (tr2 := [([], []), ([], []), ([], [])]) (H2 := []) (by kernel_rfl) hm (fun hc => N.idx (encI_len .i32) hc) (by kernel_rfl) ?_
        refine RJ.segD 3 (tr2 := [([], []), ([], []), ([], []), ([], []), ([], []), ([], [])]) (L2 := [(21, .int .i64 s51), (20, lsv (encI .i32) 1 x1), (19, .int .i32 (nth x0 s51)), (18, .ep [.int .i32 (nth x0 s51)]), (17, .int .i64 s51), (16, lsv (encI .i32) 1 x0), (0, lsv (encI .i32) 1 x0), (1, lsv (encI .i32) 1 x1), (4, .bool false), (5, .int .i64 s51), (12, .int .i64 (x0.length : Int)), (13, .int .i64 s51)]) (H2 := []) (by kernel_rfl) ?_
        obtain ⟨hm, h84⟩ := asrt h83
        refine RJ.rel (d := (some 22)) (ef := ⟨.ep (((x1.flatMap (encI .i32)).drop ((s51 : Int).toNat * 1)).take 1), [], []⟩) (ef' := ⟨.ep ((encI .i32) (nth x1 s51)), [], []⟩) (c := inR s51 x1.length) (tr2 := [([], []), ([], []), ([], []), ([], []), ([], []), ([], []), ([], [])]) (H2 := []) (by kernel_rfl) hm (fun hc => N.idx (encI_len .i32) hc) (by kernel_rfl) ?_
        refine RJ.segD 2 (tr2 := [([], []), ([], []), ([], []), ([], []), ([], []), ([], []), ([], []), ([], []), ([], [])]) (L2 := [(24, .bool ((decide (¬ (nth x0 s51) = (nth x1 s51))))), (23, .int .i32 (nth x1 s51)), (22, .ep [.int .i32 (nth x1 s51)]), (21, .int .i64 s51), (20, lsv (encI .i32) 1 x1), (19, .int .i32 (nth x0 s51)), (18, .ep [.int .i32 (nth x0 s51)]), (17, .int .i64 s51), (16, lsv (encI .i32) 1 x0), (0, lsv (encI .i32) 1 x0), (1, lsv (encI .i32) 1 x1), (4, .bool false), (5, .int .i64 s51), (12, .int .i64 (x0.length : Int)), (13, .int .i64 s51)]) (H2 := []) (by kernel_rfl) ?_
        refine RJ.end (by kernel_rfl) ?_
        refine PJ.next ?_
        refine J.caseB 24 (b := (decide (¬ (nth x0 s51) = (nth x1 s51)))) (by kernel_rfl) (fun hb85 => ?_) (fun hb85 => ?_)
        · have h86 := condT hb85 h84
          refine K.condT (by kernel_rfl) ?_
          refine K.seq (by kernel_rfl) ?_
          refine K.region (by kernel_rfl) ?_
          refine RJ.seg 1 [0, 1, 4, 12, 13] (L2 := [(0, lsv (encI .i32) 1 x0), (1, lsv (encI .i32) 1 x1), (4, .bool false), (12, .int .i64 (x0.length : Int)), (13, .int .i64 s51)]) (H2 := []) (by kernel_rfl) ?_
          refine RJ.end (by kernel_rfl) ?_
          refine PJ.next ?_
          refine K.ret (by kernel_rfl) ?_
          refine PJ.blockRet ?_
          refine PJ.passRet ?_
          obtain rfl := Option.some.inj h86
          refine PJ.loopOut (fun e => nomatch e) (fun he90 => ?_)
          have h88 := congrArg some he90
          refine PJ.blockRet ?_
          obtain rfl := Option.some.inj h88
          have h89 := joinX_inr h49
          refine PJ.cutXr (fun e => nomatch e) ?_
          obtain rfl := Option.some.inj h89
          exact K.ret0 (.inr rfl) hFn hFH hFD (by kernel_rfl) (by kernel_rfl) (by kernel_rfl)
        · have h87 := condF hb85 h84
          refine K.condF (by kernel_rfl) ?_
          refine K.skip (by kernel_rfl) ?_
          refine PJ.blockNormal ?_
          refine PJ.next ?_
          refine K.region (by kernel_rfl) ?_
          refine RJ.seg 2 [0, 1, 4, 12, 13] (L2 := [(0, lsv (encI .i32) 1 x0), (1, lsv (encI .i32) 1 x1), (4, .bool false), (12, .int .i64 (x0.length : Int)), (13, .int .i64 (IntKind.wrap .i64 (s51 + 1)))]) (H2 := []) (by kernel_rfl) ?_
          refine RJ.end (by kernel_rfl) ?_
          obtain rfl := Option.some.inj h87
          exact PJ.loopNext [0, 1, 4, 12, 13] (by kernel_rfl) (by kernel_rfl)
      · have h82 := condF hb80 hs78
        refine K.condF (by kernel_rfl) ?_
        refine K.exit 0 (by kernel_rfl) ?_
        refine PJ.passExit ?_
        obtain rfl := Option.some.inj h82
        refine PJ.loopOut (fun e => nomatch e) (fun he92 => ?_)
        have h91 := congrArg some he92
        refine PJ.blockOut ?_
        obtain rfl := Option.some.inj h91
        exact PJ.cutXl [4] (by kernel_rfl) (by kernel_rfl)
    · subst hs
      have h50 := joinX_inl h49
      refine K.seq (by kernel_rfl) ?_
      refine K.region (by kernel_rfl) ?_
      refine RJ.seg 1 [4] (L2 := [(4, .bool true)]) (H2 := []) (by kernel_rfl) ?_
      refine RJ.end (by kernel_rfl) ?_
      refine PJ.next ?_
      refine K.ret (by kernel_rfl) ?_
      obtain rfl := Option.some.inj h50
      exact K.ret0 (.inr rfl) hFn hFH hFD (by kernel_rfl) (by kernel_rfl) (by kernel_rfl)

def utf_Same (x0 : List Int) (x1 : List Int) : Option (Bool) :=
  (Option.bind (slices_Equal x0 x1) fun y1 => (some y1))
theorem utf_Same_ok {x0 : List Int} {x1 : List Int} {r : Bool} (h : utf_Same x0 x1 = some r) : SC Try.prog 15 [lsv (encI .i32) 1 x0, lsv (encI .i32) 1 x1] [] (.bool r) [] := by
  refine K.fn (fn := Try.f15) (by kernel_rfl) (by kernel_rfl) (by kernel_rfl) (by kernel_rfl) (by kernel_rfl) (fun F hFn hFH hFD => ?_)
  unfold utf_Same at h
  refine K.seq (by kernel_rfl) ?_
  refine K.region (by kernel_rfl) ?_
  refine RJ.seg 1 [0, 1, 4] (L2 := [(0, lsv (encI .i32) 1 x0), (1, lsv (encI .i32) 1 x1), (4, .bool false)]) (H2 := []) (by kernel_rfl) ?_
  refine RJ.end (by kernel_rfl) ?_
  refine PJ.next ?_
  refine K.seq (by kernel_rfl) ?_
  refine K.region (by kernel_rfl) ?_
  refine RJ.seg 2 [4, 5, 6] (L2 := [(4, .bool false), (5, lsv (encI .i32) 1 x0), (6, lsv (encI .i32) 1 x1)]) (H2 := []) (by kernel_rfl) ?_
  obtain ⟨y1, hy2, h3⟩ := bindS h
  refine RJ.call0 (d := (some 7)) (f := 22) (args := [lsv (encI .i32) 1 x0, lsv (encI .i32) 1 x1]) (v := .bool y1) (tr2 := []) (by kernel_rfl) (by kernel_rfl) (.cons (Le.refl _) (.cons (Le.refl _) .nil)) (slices_Equal_ok hy2) (by kernel_rfl) ?_
  refine RJ.seg 1 [4] (L2 := [(4, .bool y1)]) (H2 := []) (by kernel_rfl) ?_
  refine RJ.end (by kernel_rfl) ?_
  refine PJ.next ?_
  refine K.ret (by kernel_rfl) ?_
  obtain rfl := Option.some.inj h3
  exact K.ret0 (.inr rfl) hFn hFH hFD (by kernel_rfl) (by kernel_rfl) (by kernel_rfl)

def exerguelaw01_shown  : Option (Bool) :=
  (Option.bind (utf_Encode ([233] : List Int)) fun y1 => (Option.bind (utf_Decode y1.1) fun y4 => (Option.bind (bif (decide (y1.2 = 0)) then (bif (decide ((y1.1.length : Int) = 2)) then (bif inR 0 y1.1.length then (bif (decide ((nth y1.1 0) = 195)) then (bif inR 1 y1.1.length then (bif (decide ((nth y1.1 1) = 169)) then (bif (decide (y4.2.2 = 0)) then (bif (decide (y4.2.1 = 0)) then (bif (decide ((y4.1.length : Int) = 1)) then (bif inR 0 y4.1.length then (bif (decide ((nth y4.1 0) = 233)) then (Option.bind (utf_Is 97) fun y81 => (bif y81 then (Option.bind (utf_Size 97) fun y87 => (bif (decide (y87 = 1)) then (Option.bind (utf_Same y4.1 y4.1) fun y93 => (some y93)) else (some false))) else (some false))) else (some false)) else none) else (some false)) else (some false)) else (some false)) else (some false)) else none) else (some false)) else none) else (some false)) else (some false)) fun (s49 : Bool) => (some s49))))
theorem exerguelaw01_shown_ok  {r : Bool} (h : exerguelaw01_shown = some r) : SC Try.prog 10 [] [] (.bool r) [] := by
  refine K.fn (fn := Try.f10) (by kernel_rfl) (by kernel_rfl) (by kernel_rfl) (by kernel_rfl) (by kernel_rfl) (fun F hFn hFH hFD => ?_)
  unfold exerguelaw01_shown at h
  refine K.seq (by kernel_rfl) ?_
  refine K.region (by kernel_rfl) ?_
  refine RJ.seg 1 [0] (L2 := [(0, .bool false)]) (H2 := []) (by kernel_rfl) ?_
  refine RJ.end (by kernel_rfl) ?_
  refine PJ.next ?_
  refine K.seq (by kernel_rfl) ?_
  refine K.region (by kernel_rfl) ?_
  refine RJ.seg 1 [0, 7] (L2 := [(0, .bool false), (7, .vc 0)]) (H2 := [vecL (encI .i32) 1 21 ([233] : List Int)]) (by kernel_rfl) ?_
  obtain ⟨y1, hy2, h3⟩ := bindS h
  refine RJ.wk (Wk.freeze 0 (n := ([233] : List Int).length) (k := 1) (e := 21) (cs := ([233] : List Int).flatMap (encI .i32)) (by kernel_rfl)) ?_
  refine RJ.call0 (d := (some 8)) (f := 17) (args := [lsv (encI .i32) 1 ([233] : List Int)]) (v := .tup [lsv (encI .u8) 1 y1.1, .int .i64 y1.2]) (tr2 := []) (by kernel_rfl) (by kernel_rfl) (.cons (Le.refl _) .nil) (utf_Encode_ok hy2) (by kernel_rfl) ?_
  refine RJ.seg 5 [0, 1, 2] (L2 := [(0, .bool false), (1, lsv (encI .u8) 1 y1.1), (2, .int .i64 y1.2)]) (H2 := [.gone]) (by kernel_rfl) ?_
  refine RJ.end (by kernel_rfl) ?_
  refine PJ.next ?_
  refine K.seq (by kernel_rfl) ?_
  refine K.region (by kernel_rfl) ?_
  refine RJ.seg 1 [0, 1, 2, 12] (L2 := [(0, .bool false), (1, lsv (encI .u8) 1 y1.1), (2, .int .i64 y1.2), (12, lsv (encI .u8) 1 y1.1)]) (H2 := [.gone]) (by kernel_rfl) ?_
  obtain ⟨y4, hy5, h6⟩ := bindS h3
  refine RJ.call0 (d := (some 13)) (f := 19) (args := [lsv (encI .u8) 1 y1.1]) (v := .tup [lsv (encI .i32) 1 y4.1, .int .i64 y4.2.1, .int .i64 y4.2.2]) (tr2 := []) (by kernel_rfl) (by kernel_rfl) (.cons (Le.refl _) .nil) (utf_Decode_ok hy5) (by kernel_rfl) ?_
  refine RJ.seg 7 [0, 1, 2, 3, 4, 5] (L2 := [(0, .bool false), (1, lsv (encI .u8) 1 y1.1), (2, .int .i64 y1.2), (3, lsv (encI .i32) 1 y4.1), (4, .int .i64 y4.2.1), (5, .int .i64 y4.2.2)]) (H2 := [.gone]) (by kernel_rfl) ?_
  refine RJ.end (by kernel_rfl) ?_
  refine PJ.next ?_
  obtain ⟨s49, hy51, h53⟩ := bindS h6
  refine K.cutN (by kernel_rfl) (fun (s49 : Bool) => ([(0, .bool s49)], [])) s49 ?_ ?_
  · refine K.region (by kernel_rfl) ?_
    refine RJ.seg 3 [0, 1, 3, 4, 5, 19] (L2 := [(0, .bool false), (1, lsv (encI .u8) 1 y1.1), (3, lsv (encI .i32) 1 y4.1), (4, .int .i64 y4.2.1), (5, .int .i64 y4.2.2), (19, .bool (decide (y1.2 = 0)))]) (H2 := [.gone]) (by kernel_rfl) ?_
    refine RJ.caseB 19 (b := (decide (y1.2 = 0))) (by kernel_rfl) (fun hb54 => ?_) (fun hb54 => ?_)
    · have h55 := condT hb54 hy51
      refine RJ.seg 5 [0, 1, 3, 4, 5, 24] (L2 := [(0, .bool false), (1, lsv (encI .u8) 1 y1.1), (3, lsv (encI .i32) 1 y4.1), (4, .int .i64 y4.2.1), (5, .int .i64 y4.2.2), (24, .bool ((decide ((y1.1.length : Int) = 2))))]) (H2 := [.gone]) (by kernel_rfl) ?_
      refine RJ.caseB 24 (b := (decide ((y1.1.length : Int) = 2))) (by kernel_rfl) (fun hb57 => ?_) (fun hb57 => ?_)
      · have h58 := condT hb57 h55
        refine RJ.seg 1 [0, 1, 3, 4, 5, 24, 25] (L2 := [(0, .bool false), (1, lsv (encI .u8) 1 y1.1), (3, lsv (encI .i32) 1 y4.1), (4, .int .i64 y4.2.1), (5, .int .i64 y4.2.2), (24, .bool true), (25, lsv (encI .u8) 1 y1.1)]) (H2 := [.gone]) (by kernel_rfl) ?_
        obtain ⟨hm, h60⟩ := asrt h58
        refine RJ.rel (d := (some 26)) (ef := ⟨.ep (((y1.1.flatMap (encI .u8)).drop ((0 : Int).toNat * 1)).take 1), [], []⟩) (ef' := ⟨.ep ((encI .u8) (nth y1.1 0)), [], []⟩) (c := inR 0 y1.1.length) (tr2 := []) (H2 := [.gone]) (by kernel_rfl) hm (fun hc => N.idx (encI_len .u8) hc) (by kernel_rfl) ?_
        refine RJ.seg 4 [0, 1, 3, 4, 5, 30] (L2 := [(0, .bool false), (1, lsv (encI .u8) 1 y1.1), (3, lsv (encI .i32) 1 y4.1), (4, .int .i64 y4.2.1), (5, .int .i64 y4.2.2), (30, .bool ((decide ((nth y1.1 0) = 195))))]) (H2 := [.gone]) (by kernel_rfl) ?_
        refine RJ.caseB 30 (b := (decide ((nth y1.1 0) = 195))) (by kernel_rfl) (fun hb61 => ?_) (fun hb61 => ?_)
        · have h62 := condT hb61 h60
          refine RJ.seg 1 [0, 3, 4, 5, 30, 31] (L2 := [(0, .bool false), (3, lsv (encI .i32) 1 y4.1), (4, .int .i64 y4.2.1), (5, .int .i64 y4.2.2), (30, .bool true), (31, lsv (encI .u8) 1 y1.1)]) (H2 := [.gone]) (by kernel_rfl) ?_
          obtain ⟨hm, h64⟩ := asrt h62
          refine RJ.rel (d := (some 32)) (ef := ⟨.ep (((y1.1.flatMap (encI .u8)).drop ((1 : Int).toNat * 1)).take 1), [], []⟩) (ef' := ⟨.ep ((encI .u8) (nth y1.1 1)), [], []⟩) (c := inR 1 y1.1.length) (tr2 := []) (H2 := [.gone]) (by kernel_rfl) hm (fun hc => N.idx (encI_len .u8) hc) (by kernel_rfl) ?_
          refine RJ.seg 4 [0, 3, 4, 5, 36] (L2 := [(0, .bool false), (3, lsv (encI .i32) 1 y4.1), (4, .int .i64 y4.2.1), (5, .int .i64 y4.2.2), (36, .bool ((decide ((nth y1.1 1) = 169))))]) (H2 := [.gone]) (by kernel_rfl) ?_
          refine RJ.caseB 36 (b := (decide ((nth y1.1 1) = 169))) (by kernel_rfl) (fun hb65 => ?_) (fun hb65 => ?_)
          · have h66 := condT hb65 h64
            refine RJ.seg 4 [0, 3, 4, 40] (L2 := [(0, .bool false), (3, lsv (encI .i32) 1 y4.1), (4, .int .i64 y4.2.1), (40, .bool (decide (y4.2.2 = 0)))]) (H2 := [.gone]) (by kernel_rfl) ?_
            refine RJ.caseB 40 (b := (decide (y4.2.2 = 0))) (by kernel_rfl) (fun hb68 => ?_) (fun hb68 => ?_)
            · have h69 := condT hb68 h66
              refine RJ.seg 4 [0, 3, 44] (L2 := [(0, .bool false), (3, lsv (encI .i32) 1 y4.1), (44, .bool (decide (y4.2.1 = 0)))]) (H2 := [.gone]) (by kernel_rfl) ?_
              refine RJ.caseB 44 (b := (decide (y4.2.1 = 0))) (by kernel_rfl) (fun hb71 => ?_) (fun hb71 => ?_)
              · have h72 := condT hb71 h69
                refine RJ.seg 5 [0, 3, 49] (L2 := [(0, .bool false), (3, lsv (encI .i32) 1 y4.1), (49, .bool ((decide ((y4.1.length : Int) = 1))))]) (H2 := [.gone]) (by kernel_rfl) ?_
                refine RJ.caseB 49 (b := (decide ((y4.1.length : Int) = 1))) (by kernel_rfl) (fun hb74 => ?_) (fun hb74 => ?_)
                · have h75 := condT hb74 h72
                  refine RJ.seg 1 [0, 3, 49, 50] (L2 := [(0, .bool false), (3, lsv (encI .i32) 1 y4.1), (49, .bool true), (50, lsv (encI .i32) 1 y4.1)]) (H2 := [.gone]) (by kernel_rfl) ?_
                  obtain ⟨hm, h77⟩ := asrt h75
                  refine RJ.rel (d := (some 51)) (ef := ⟨.ep (((y4.1.flatMap (encI .i32)).drop ((0 : Int).toNat * 1)).take 1), [], []⟩) (ef' := ⟨.ep ((encI .i32) (nth y4.1 0)), [], []⟩) (c := inR 0 y4.1.length) (tr2 := []) (H2 := [.gone]) (by kernel_rfl) hm (fun hc => N.idx (encI_len .i32) hc) (by kernel_rfl) ?_
                  refine RJ.seg 4 [0, 3, 55] (L2 := [(0, .bool false), (3, lsv (encI .i32) 1 y4.1), (55, .bool ((decide ((nth y4.1 0) = 233))))]) (H2 := [.gone]) (by kernel_rfl) ?_
                  refine RJ.caseB 55 (b := (decide ((nth y4.1 0) = 233))) (by kernel_rfl) (fun hb78 => ?_) (fun hb78 => ?_)
                  · have h79 := condT hb78 h77
                    obtain ⟨y81, hy82, h83⟩ := bindS h79
                    refine RJ.call0 (d := (some 56)) (f := 11) (args := [.int .i32 97]) (v := .bool y81) (tr2 := []) (by kernel_rfl) (by kernel_rfl) (.cons (Le.refl _) .nil) (utf_Is_ok hy82) (by kernel_rfl) ?_
                    refine RJ.seg 2 [0, 3, 58] (L2 := [(0, .bool false), (3, lsv (encI .i32) 1 y4.1), (58, .bool y81)]) (H2 := [.gone]) (by kernel_rfl) ?_
                    refine RJ.caseB 58 (b := y81) (by kernel_rfl) (fun hb84 => ?_) (fun hb84 => ?_)
                    · have h85 := condT hb84 h83
                      obtain ⟨y87, hy88, h89⟩ := bindS h85
                      refine RJ.call0 (d := (some 59)) (f := 13) (args := [.int .i32 97]) (v := .int .i64 y87) (tr2 := []) (by kernel_rfl) (by kernel_rfl) (.cons (Le.refl _) .nil) (utf_Size_ok hy88) (by kernel_rfl) ?_
                      refine RJ.seg 3 [0, 3, 62] (L2 := [(0, .bool false), (3, lsv (encI .i32) 1 y4.1), (62, .bool (decide (y87 = 1)))]) (H2 := [.gone]) (by kernel_rfl) ?_
                      refine RJ.caseB 62 (b := (decide (y87 = 1))) (by kernel_rfl) (fun hb90 => ?_) (fun hb90 => ?_)
                      · have h91 := condT hb90 h89
                        refine RJ.seg 2 [0, 62, 63, 64] (L2 := [(0, .bool false), (62, .bool true), (63, lsv (encI .i32) 1 y4.1), (64, lsv (encI .i32) 1 y4.1)]) (H2 := [.gone]) (by kernel_rfl) ?_
                        obtain ⟨y93, hy94, h95⟩ := bindS h91
                        refine RJ.call0 (d := (some 65)) (f := 15) (args := [lsv (encI .i32) 1 y4.1, lsv (encI .i32) 1 y4.1]) (v := .bool y93) (tr2 := []) (by kernel_rfl) (by kernel_rfl) (.cons (Le.refl _) (.cons (Le.refl _) .nil)) (utf_Same_ok hy94) (by kernel_rfl) ?_
                        refine RJ.seg 2 [0] (L2 := [(0, .bool y93)]) (H2 := [.gone]) (by kernel_rfl) ?_
                        refine RJ.end (by kernel_rfl) ?_
                        obtain rfl := Option.some.inj h95
                        refine PJ.wk (Wk.sel (L2 := [(0, .bool y93)]) (H2 := []) 0 (by rw [hFH]; rfl) hFD [] (by kernel_rfl) (by kernel_rfl) (by decide) (by kernel_rfl) (by kernel_rfl) (by kernel_rfl) (by kernel_rfl)) ?_
                        exact PJ.cutN [0] (by kernel_rfl) (by kernel_rfl)
                      · have h92 := condF hb90 h89
                        refine RJ.seg 5 [0] (L2 := [(0, .bool false)]) (H2 := [.gone]) (by kernel_rfl) ?_
                        refine RJ.end (by kernel_rfl) ?_
                        obtain rfl := Option.some.inj h92
                        refine PJ.wk (Wk.sel (L2 := [(0, .bool false)]) (H2 := []) 0 (by rw [hFH]; rfl) hFD [] (by kernel_rfl) (by kernel_rfl) (by decide) (by kernel_rfl) (by kernel_rfl) (by kernel_rfl) (by kernel_rfl)) ?_
                        exact PJ.cutN [0] (by kernel_rfl) (by kernel_rfl)
                    · have h86 := condF hb84 h83
                      refine RJ.seg 9 [0] (L2 := [(0, .bool false)]) (H2 := [.gone]) (by kernel_rfl) ?_
                      refine RJ.end (by kernel_rfl) ?_
                      obtain rfl := Option.some.inj h86
                      refine PJ.wk (Wk.sel (L2 := [(0, .bool false)]) (H2 := []) 0 (by rw [hFH]; rfl) hFD [] (by kernel_rfl) (by kernel_rfl) (by decide) (by kernel_rfl) (by kernel_rfl) (by kernel_rfl) (by kernel_rfl)) ?_
                      exact PJ.cutN [0] (by kernel_rfl) (by kernel_rfl)
                  · have h80 := condF hb78 h77
                    refine RJ.seg 12 [0] (L2 := [(0, .bool false)]) (H2 := [.gone]) (by kernel_rfl) ?_
                    refine RJ.end (by kernel_rfl) ?_
                    obtain rfl := Option.some.inj h80
                    refine PJ.wk (Wk.sel (L2 := [(0, .bool false)]) (H2 := []) 0 (by rw [hFH]; rfl) hFD [] (by kernel_rfl) (by kernel_rfl) (by decide) (by kernel_rfl) (by kernel_rfl) (by kernel_rfl) (by kernel_rfl)) ?_
                    exact PJ.cutN [0] (by kernel_rfl) (by kernel_rfl)
                · have h76 := condF hb74 h72
                  refine RJ.seg 18 [0] (L2 := [(0, .bool false)]) (H2 := [.gone]) (by kernel_rfl) ?_
                  refine RJ.end (by kernel_rfl) ?_
                  obtain rfl := Option.some.inj h76
                  refine PJ.wk (Wk.sel (L2 := [(0, .bool false)]) (H2 := []) 0 (by rw [hFH]; rfl) hFD [] (by kernel_rfl) (by kernel_rfl) (by decide) (by kernel_rfl) (by kernel_rfl) (by kernel_rfl) (by kernel_rfl)) ?_
                  exact PJ.cutN [0] (by kernel_rfl) (by kernel_rfl)
              · have h73 := condF hb71 h69
                refine RJ.seg 23 [0] (L2 := [(0, .bool false)]) (H2 := [.gone]) (by kernel_rfl) ?_
                refine RJ.end (by kernel_rfl) ?_
                obtain rfl := Option.some.inj h73
                refine PJ.wk (Wk.sel (L2 := [(0, .bool false)]) (H2 := []) 0 (by rw [hFH]; rfl) hFD [] (by kernel_rfl) (by kernel_rfl) (by decide) (by kernel_rfl) (by kernel_rfl) (by kernel_rfl) (by kernel_rfl)) ?_
                exact PJ.cutN [0] (by kernel_rfl) (by kernel_rfl)
            · have h70 := condF hb68 h66
              refine RJ.seg 27 [0] (L2 := [(0, .bool false)]) (H2 := [.gone]) (by kernel_rfl) ?_
              refine RJ.end (by kernel_rfl) ?_
              obtain rfl := Option.some.inj h70
              refine PJ.wk (Wk.sel (L2 := [(0, .bool false)]) (H2 := []) 0 (by rw [hFH]; rfl) hFD [] (by kernel_rfl) (by kernel_rfl) (by decide) (by kernel_rfl) (by kernel_rfl) (by kernel_rfl) (by kernel_rfl)) ?_
              exact PJ.cutN [0] (by kernel_rfl) (by kernel_rfl)
          · have h67 := condF hb65 h64
            refine RJ.seg 31 [0] (L2 := [(0, .bool false)]) (H2 := [.gone]) (by kernel_rfl) ?_
            refine RJ.end (by kernel_rfl) ?_
            obtain rfl := Option.some.inj h67
            refine PJ.wk (Wk.sel (L2 := [(0, .bool false)]) (H2 := []) 0 (by rw [hFH]; rfl) hFD [] (by kernel_rfl) (by kernel_rfl) (by decide) (by kernel_rfl) (by kernel_rfl) (by kernel_rfl) (by kernel_rfl)) ?_
            exact PJ.cutN [0] (by kernel_rfl) (by kernel_rfl)
        · have h63 := condF hb61 h60
          refine RJ.seg 37 [0] (L2 := [(0, .bool false)]) (H2 := [.gone]) (by kernel_rfl) ?_
          refine RJ.end (by kernel_rfl) ?_
          obtain rfl := Option.some.inj h63
          refine PJ.wk (Wk.sel (L2 := [(0, .bool false)]) (H2 := []) 0 (by rw [hFH]; rfl) hFD [] (by kernel_rfl) (by kernel_rfl) (by decide) (by kernel_rfl) (by kernel_rfl) (by kernel_rfl) (by kernel_rfl)) ?_
          exact PJ.cutN [0] (by kernel_rfl) (by kernel_rfl)
      · have h59 := condF hb57 h55
        refine RJ.seg 43 [0] (L2 := [(0, .bool false)]) (H2 := [.gone]) (by kernel_rfl) ?_
        refine RJ.end (by kernel_rfl) ?_
        obtain rfl := Option.some.inj h59
        refine PJ.wk (Wk.sel (L2 := [(0, .bool false)]) (H2 := []) 0 (by rw [hFH]; rfl) hFD [] (by kernel_rfl) (by kernel_rfl) (by decide) (by kernel_rfl) (by kernel_rfl) (by kernel_rfl) (by kernel_rfl)) ?_
        exact PJ.cutN [0] (by kernel_rfl) (by kernel_rfl)
    · have h56 := condF hb54 hy51
      refine RJ.seg 48 [0] (L2 := [(0, .bool false)]) (H2 := [.gone]) (by kernel_rfl) ?_
      refine RJ.end (by kernel_rfl) ?_
      obtain rfl := Option.some.inj h56
      refine PJ.wk (Wk.sel (L2 := [(0, .bool false)]) (H2 := []) 0 (by rw [hFH]; rfl) hFD [] (by kernel_rfl) (by kernel_rfl) (by decide) (by kernel_rfl) (by kernel_rfl) (by kernel_rfl) (by kernel_rfl)) ?_
      exact PJ.cutN [0] (by kernel_rfl) (by kernel_rfl)
  · refine K.ret (by kernel_rfl) ?_
    obtain rfl := Option.some.inj h53
    exact K.ret0 (.inr rfl) hFn hFH hFD (by kernel_rfl) (by kernel_rfl) (by kernel_rfl)

def exerguelaw01_UtfHeads (x0 : List Int) (x1 : Int) (x2 : Int) : Option (Bool) :=
  (Option.bind exerguelaw01_shown fun y1 => (bif (decide ((x0.length : Int) > 300)) then (some y1) else (Option.bind (utf_Encode x0) fun y7 => (Option.bind (utf_Encode ([x1] : List Int)) fun y10 => (Option.bind (Option.bind (bif (decide (¬ y7.2 = 0)) then (some true) else (bif (decide (¬ y10.2 = 0)) then (some true) else (bif (decide (x2 < 1)) then (some true) else (some ((decide (x2 ≥ (y10.1.length : Int)))))))) fun (s54 : Bool) => (bif s54 then (some (.inr y1)) else (some (.inl ())))) (joinX fun (s40 : Unit) => (bif room y7.1.length then (bif inS 0 x2 y10.1.length then (bif room (y7.1.length + (cut y10.1 0 x2).length) then (Option.bind (utf_Decode (y7.1 ++ (cut y10.1 0 x2))) fun y75 => (bif inS x2 (y10.1.length : Int) y10.1.length then (Option.bind (utf_Decode (cut y10.1 x2 (y10.1.length : Int))) fun y79 => (Option.bind (bif y1 then (bif (decide (y75.2.2 = 3)) then (bif (decide (y75.2.1 = (y7.1.length : Int))) then (bif (decide ((y75.1.length : Int) = 0)) then (bif (decide (y79.2.2 = 3)) then (some (decide (y79.2.1 = 0))) else (some false)) else (some false)) else (some false)) else (some false)) else (some false)) fun (s97 : Bool) => (some s97))) else none)) else none) else none) else none)))))))
theorem exerguelaw01_UtfHeads_ok {x0 : List Int} {x1 : Int} {x2 : Int} {r : Bool} (h : exerguelaw01_UtfHeads x0 x1 x2 = some r) : SC Try.prog 8 [lsv (encI .i32) 1 x0, .int .i32 x1, .int .i64 x2] [] (.bool r) [] := by
  refine K.fn (fn := Try.f8) (by kernel_rfl) (by kernel_rfl) (by kernel_rfl) (by kernel_rfl) (by kernel_rfl) (fun F hFn hFH hFD => ?_)
  unfold exerguelaw01_UtfHeads at h
  refine K.seq (by kernel_rfl) ?_
  refine K.region (by kernel_rfl) ?_
  refine RJ.seg 1 [0, 1, 2, 6] (L2 := [(0, lsv (encI .i32) 1 x0), (1, .int .i32 x1), (2, .int .i64 x2), (6, .bool false)]) (H2 := []) (by kernel_rfl) ?_
  refine RJ.end (by kernel_rfl) ?_
  refine PJ.next ?_
  refine K.seq (by kernel_rfl) ?_
  refine K.region (by kernel_rfl) ?_
  obtain ⟨y1, hy2, h3⟩ := bindS h
  refine RJ.call0 (d := (some 18)) (f := 10) (args := []) (v := .bool y1) (tr2 := []) (by kernel_rfl) (by kernel_rfl) .nil (exerguelaw01_shown_ok hy2) (by kernel_rfl) ?_
  refine RJ.seg 1 [0, 1, 2, 6, 7] (L2 := [(0, lsv (encI .i32) 1 x0), (1, .int .i32 x1), (2, .int .i64 x2), (6, .bool false), (7, .bool y1)]) (H2 := []) (by kernel_rfl) ?_
  refine RJ.end (by kernel_rfl) ?_
  refine PJ.next ?_
  refine K.seq (by kernel_rfl) ?_
  refine K.seq (by kernel_rfl) ?_
  refine K.region (by kernel_rfl) ?_
  refine RJ.seg 3 [0, 1, 2, 6, 7, 21] (L2 := [(0, lsv (encI .i32) 1 x0), (1, .int .i32 x1), (2, .int .i64 x2), (6, .bool false), (7, .bool y1), (21, .bool ((decide ((x0.length : Int) > 300))))]) (H2 := []) (by kernel_rfl) ?_
  refine RJ.end (by kernel_rfl) ?_
  refine PJ.next ?_
  refine J.caseB 21 (b := (decide ((x0.length : Int) > 300))) (by kernel_rfl) (fun hb4 => ?_) (fun hb4 => ?_)
  · have h5 := condT hb4 h3
    refine K.condT (by kernel_rfl) ?_
    refine K.seq (by kernel_rfl) ?_
    refine K.region (by kernel_rfl) ?_
    refine RJ.seg 2 [0, 1, 2, 6, 7] (L2 := [(0, lsv (encI .i32) 1 x0), (1, .int .i32 x1), (2, .int .i64 x2), (6, .bool y1), (7, .bool y1)]) (H2 := []) (by kernel_rfl) ?_
    refine RJ.end (by kernel_rfl) ?_
    refine PJ.next ?_
    refine K.ret (by kernel_rfl) ?_
    refine PJ.passRet ?_
    obtain rfl := Option.some.inj h5
    exact K.ret0 (.inr rfl) hFn hFH hFD (by kernel_rfl) (by kernel_rfl) (by kernel_rfl)
  · have h6 := condF hb4 h3
    refine K.condF (by kernel_rfl) ?_
    refine K.skip (by kernel_rfl) ?_
    refine PJ.next ?_
    refine K.seq (by kernel_rfl) ?_
    refine K.region (by kernel_rfl) ?_
    refine RJ.seg 1 [1, 2, 6, 7, 24] (L2 := [(1, .int .i32 x1), (2, .int .i64 x2), (6, .bool false), (7, .bool y1), (24, lsv (encI .i32) 1 x0)]) (H2 := []) (by kernel_rfl) ?_
    obtain ⟨y7, hy8, h9⟩ := bindS h6
    refine RJ.call0 (d := (some 25)) (f := 17) (args := [lsv (encI .i32) 1 x0]) (v := .tup [lsv (encI .u8) 1 y7.1, .int .i64 y7.2]) (tr2 := []) (by kernel_rfl) (by kernel_rfl) (.cons (Le.refl _) .nil) (utf_Encode_ok hy8) (by kernel_rfl) ?_
    refine RJ.seg 5 [1, 2, 6, 7, 8, 9] (L2 := [(1, .int .i32 x1), (2, .int .i64 x2), (6, .bool false), (7, .bool y1), (8, lsv (encI .u8) 1 y7.1), (9, .int .i64 y7.2)]) (H2 := []) (by kernel_rfl) ?_
    refine RJ.end (by kernel_rfl) ?_
    refine PJ.next ?_
    refine K.seq (by kernel_rfl) ?_
    refine K.region (by kernel_rfl) ?_
    refine RJ.seg 2 [2, 6, 7, 8, 9, 30] (L2 := [(2, .int .i64 x2), (6, .bool false), (7, .bool y1), (8, lsv (encI .u8) 1 y7.1), (9, .int .i64 y7.2), (30, .vc 0)]) (H2 := [vecL (encI .i32) 1 21 ([x1] : List Int)]) (by kernel_rfl) ?_
    obtain ⟨y10, hy11, h12⟩ := bindS h9
    refine RJ.wk (Wk.freeze 0 (n := ([x1] : List Int).length) (k := 1) (e := 21) (cs := ([x1] : List Int).flatMap (encI .i32)) (by kernel_rfl)) ?_
    refine RJ.call0 (d := (some 31)) (f := 17) (args := [lsv (encI .i32) 1 ([x1] : List Int)]) (v := .tup [lsv (encI .u8) 1 y10.1, .int .i64 y10.2]) (tr2 := []) (by kernel_rfl) (by kernel_rfl) (.cons (Le.refl _) .nil) (utf_Encode_ok hy11) (by kernel_rfl) ?_
    refine RJ.seg 5 [2, 6, 7, 8, 9, 10, 11] (L2 := [(2, .int .i64 x2), (6, .bool false), (7, .bool y1), (8, lsv (encI .u8) 1 y7.1), (9, .int .i64 y7.2), (10, lsv (encI .u8) 1 y10.1), (11, .int .i64 y10.2)]) (H2 := [.gone]) (by kernel_rfl) ?_
    refine RJ.end (by kernel_rfl) ?_
    refine PJ.next ?_
    obtain ⟨y41, hy42, h43⟩ := bindS h12
    refine K.cutX (by kernel_rfl) (fun (s40 : Unit) => ([(2, .int .i64 x2), (6, .bool false), (7, .bool y1), (8, lsv (encI .u8) 1 y7.1), (10, lsv (encI .u8) 1 y10.1)], [])) y41 ?_ (fun s40 hs => ?_)
    · obtain ⟨s54, hy56, h58⟩ := bindS hy42
      refine K.cutN (by kernel_rfl) (fun (s54 : Bool) => ([(2, .int .i64 x2), (6, .bool false), (7, .bool y1), (8, lsv (encI .u8) 1 y7.1), (10, lsv (encI .u8) 1 y10.1), (49, .bool s54)], [])) s54 ?_ ?_
      · refine K.region (by kernel_rfl) ?_
        refine RJ.seg 3 [2, 6, 7, 8, 10, 11, 36] (L2 := [(2, .int .i64 x2), (6, .bool false), (7, .bool y1), (8, lsv (encI .u8) 1 y7.1), (10, lsv (encI .u8) 1 y10.1), (11, .int .i64 y10.2), (36, .bool (decide (¬ y7.2 = 0)))]) (H2 := [.gone]) (by kernel_rfl) ?_
        refine RJ.caseB 36 (b := (decide (¬ y7.2 = 0))) (by kernel_rfl) (fun hb59 => ?_) (fun hb59 => ?_)
        · have h60 := condT hb59 hy56
          refine RJ.seg 13 [2, 6, 7, 8, 10, 49] (L2 := [(2, .int .i64 x2), (6, .bool false), (7, .bool y1), (8, lsv (encI .u8) 1 y7.1), (10, lsv (encI .u8) 1 y10.1), (49, .bool true)]) (H2 := [.gone]) (by kernel_rfl) ?_
          refine RJ.end (by kernel_rfl) ?_
          obtain rfl := Option.some.inj h60
          refine PJ.wk (Wk.sel (L2 := [(2, .int .i64 x2), (6, .bool false), (7, .bool y1), (8, lsv (encI .u8) 1 y7.1), (10, lsv (encI .u8) 1 y10.1), (49, .bool true)]) (H2 := []) 0 (by rw [hFH]; rfl) hFD [] (by kernel_rfl) (by kernel_rfl) (by decide) (by kernel_rfl) (by kernel_rfl) (by kernel_rfl) (by kernel_rfl)) ?_
          exact PJ.cutN [2, 6, 7, 8, 10, 49] (by kernel_rfl) (by kernel_rfl)
        · have h61 := condF hb59 hy56
          refine RJ.seg 4 [2, 6, 7, 8, 10, 40] (L2 := [(2, .int .i64 x2), (6, .bool false), (7, .bool y1), (8, lsv (encI .u8) 1 y7.1), (10, lsv (encI .u8) 1 y10.1), (40, .bool (decide (¬ y10.2 = 0)))]) (H2 := [.gone]) (by kernel_rfl) ?_
          refine RJ.caseB 40 (b := (decide (¬ y10.2 = 0))) (by kernel_rfl) (fun hb62 => ?_) (fun hb62 => ?_)
          · have h63 := condT hb62 h61
            refine RJ.seg 9 [2, 6, 7, 8, 10, 49] (L2 := [(2, .int .i64 x2), (6, .bool false), (7, .bool y1), (8, lsv (encI .u8) 1 y7.1), (10, lsv (encI .u8) 1 y10.1), (49, .bool true)]) (H2 := [.gone]) (by kernel_rfl) ?_
            refine RJ.end (by kernel_rfl) ?_
            obtain rfl := Option.some.inj h63
            refine PJ.wk (Wk.sel (L2 := [(2, .int .i64 x2), (6, .bool false), (7, .bool y1), (8, lsv (encI .u8) 1 y7.1), (10, lsv (encI .u8) 1 y10.1), (49, .bool true)]) (H2 := []) 0 (by rw [hFH]; rfl) hFD [] (by kernel_rfl) (by kernel_rfl) (by decide) (by kernel_rfl) (by kernel_rfl) (by kernel_rfl) (by kernel_rfl)) ?_
            exact PJ.cutN [2, 6, 7, 8, 10, 49] (by kernel_rfl) (by kernel_rfl)
          · have h64 := condF hb62 h61
            refine RJ.seg 4 [2, 6, 7, 8, 10, 44] (L2 := [(2, .int .i64 x2), (6, .bool false), (7, .bool y1), (8, lsv (encI .u8) 1 y7.1), (10, lsv (encI .u8) 1 y10.1), (44, .bool (decide (x2 < 1)))]) (H2 := [.gone]) (by kernel_rfl) ?_
            refine RJ.caseB 44 (b := (decide (x2 < 1))) (by kernel_rfl) (fun hb65 => ?_) (fun hb65 => ?_)
            · have h66 := condT hb65 h64
              refine RJ.seg 5 [2, 6, 7, 8, 10, 49] (L2 := [(2, .int .i64 x2), (6, .bool false), (7, .bool y1), (8, lsv (encI .u8) 1 y7.1), (10, lsv (encI .u8) 1 y10.1), (49, .bool true)]) (H2 := [.gone]) (by kernel_rfl) ?_
              refine RJ.end (by kernel_rfl) ?_
              obtain rfl := Option.some.inj h66
              refine PJ.wk (Wk.sel (L2 := [(2, .int .i64 x2), (6, .bool false), (7, .bool y1), (8, lsv (encI .u8) 1 y7.1), (10, lsv (encI .u8) 1 y10.1), (49, .bool true)]) (H2 := []) 0 (by rw [hFH]; rfl) hFD [] (by kernel_rfl) (by kernel_rfl) (by decide) (by kernel_rfl) (by kernel_rfl) (by kernel_rfl) (by kernel_rfl)) ?_
              exact PJ.cutN [2, 6, 7, 8, 10, 49] (by kernel_rfl) (by kernel_rfl)
            · have h67 := condF hb65 h64
              refine RJ.seg 5 [2, 6, 7, 8, 10, 49] (L2 := [(2, .int .i64 x2), (6, .bool false), (7, .bool y1), (8, lsv (encI .u8) 1 y7.1), (10, lsv (encI .u8) 1 y10.1), (49, .bool ((decide (x2 ≥ (y10.1.length : Int)))))]) (H2 := [.gone]) (by kernel_rfl) ?_
              refine RJ.end (by kernel_rfl) ?_
              obtain rfl := Option.some.inj h67
              refine PJ.wk (Wk.sel (L2 := [(2, .int .i64 x2), (6, .bool false), (7, .bool y1), (8, lsv (encI .u8) 1 y7.1), (10, lsv (encI .u8) 1 y10.1), (49, .bool ((decide (x2 ≥ (y10.1.length : Int)))))]) (H2 := []) 0 (by rw [hFH]; rfl) hFD [] (by kernel_rfl) (by kernel_rfl) (by decide) (by kernel_rfl) (by kernel_rfl) (by kernel_rfl) (by kernel_rfl)) ?_
              exact PJ.cutN [2, 6, 7, 8, 10, 49] (by kernel_rfl) (by kernel_rfl)
      · refine J.caseB 49 (b := s54) (by kernel_rfl) (fun hb68 => ?_) (fun hb68 => ?_)
        · have h69 := condT hb68 h58
          refine K.condT (by kernel_rfl) ?_
          refine K.seq (by kernel_rfl) ?_
          refine K.region (by kernel_rfl) ?_
          refine RJ.seg 2 [2, 6, 7, 8, 10] (L2 := [(2, .int .i64 x2), (6, .bool y1), (7, .bool y1), (8, lsv (encI .u8) 1 y7.1), (10, lsv (encI .u8) 1 y10.1)]) (H2 := []) (by kernel_rfl) ?_
          refine RJ.end (by kernel_rfl) ?_
          refine PJ.next ?_
          refine K.ret (by kernel_rfl) ?_
          obtain rfl := Option.some.inj h69
          have h71 := joinX_inr h43
          refine PJ.cutXr (fun e => nomatch e) ?_
          obtain rfl := Option.some.inj h71
          exact K.ret0 (.inr rfl) hFn hFH hFD (by kernel_rfl) (by kernel_rfl) (by kernel_rfl)
        · have h70 := condF hb68 h58
          refine K.condF (by kernel_rfl) ?_
          refine K.skip (by kernel_rfl) ?_
          obtain rfl := Option.some.inj h70
          exact PJ.cutXl [2, 6, 7, 8, 10] (by kernel_rfl) (by kernel_rfl)
    · subst hs
      have h44 := joinX_inl h43
      refine K.seq (by kernel_rfl) ?_
      refine J.keep [2, 6, 7, 8, 10] (L2 := [(2, .int .i64 x2), (6, .bool false), (7, .bool y1), (8, lsv (encI .u8) 1 y7.1), (10, lsv (encI .u8) 1 y10.1)]) (by kernel_rfl) ?_
      refine K.draw (by kernel_rfl) (by kernel_rfl) (by kernel_rfl) (H2 := [.res, .res, .res, .res]) (by kernel_rfl) (n := 0) (by kernel_rfl) ?_
      refine RJ.segD 2 (tr2 := [([], [0]), ([], [])]) (L2 := [(53, lsv (encI .u8) 1 y7.1), (52, .nl), (2, .int .i64 x2), (6, .bool false), (7, .bool y1), (8, lsv (encI .u8) 1 y7.1), (10, lsv (encI .u8) 1 y10.1)]) (H2 := [.res, .res, .res, .res]) (by kernel_rfl) ?_
      obtain ⟨hm, h72⟩ := asrt h44
      refine RJ.rel (d := (some 54)) (ef := ⟨.vc 1, [], [(1, .vec y7.1.length 1 5 (y7.1.flatMap (encI .u8)))]⟩) (ef' := ⟨.vc 1, [], [(1, .vec y7.1.length 1 5 (y7.1.flatMap (encI .u8)))]⟩) (c := room y7.1.length) (tr2 := [([], [0]), ([], []), ([], [1, 1])]) (H2 := [.res, vecL (encI .u8) 1 5 y7.1, .res, .res]) (by kernel_rfl) hm (fun hc => rfl) (by kernel_rfl) ?_
      refine RJ.segD 2 (tr2 := [([], [0]), ([], []), ([], [1, 1]), ([], []), ([], [])]) (L2 := [(56, .int .i64 x2), (55, lsv (encI .u8) 1 y10.1), (54, .vc 1), (53, lsv (encI .u8) 1 y7.1), (52, .nl), (2, .int .i64 x2), (6, .bool false), (7, .bool y1), (8, lsv (encI .u8) 1 y7.1), (10, lsv (encI .u8) 1 y10.1)]) (H2 := [.res, vecL (encI .u8) 1 5 y7.1, .res, .res]) (by kernel_rfl) ?_
      obtain ⟨hm, h73⟩ := asrt h72
      refine RJ.rel (d := (some 57)) (ef := ⟨.lst ((x2 : Int).toNat - (0 : Int).toNat) 1 (((y10.1.flatMap (encI .u8)).take ((x2 : Int).toNat * 1)).drop ((0 : Int).toNat * 1)), [], []⟩) (ef' := ⟨.lst (cut y10.1 0 x2).length 1 ((cut y10.1 0 x2).flatMap (encI .u8)), [], []⟩) (c := inS 0 x2 y10.1.length) (tr2 := [([], [0]), ([], []), ([], [1, 1]), ([], []), ([], []), ([], [])]) (H2 := [.res, vecL (encI .u8) 1 5 y7.1, .res, .res]) (by kernel_rfl) hm (fun hc => N.slice (encI_len .u8) hc) (by kernel_rfl) ?_
      obtain ⟨hm, h74⟩ := asrt h73
      refine RJ.relZ (d := (some 58)) (ef := ⟨.lst (y7.1.length + (cut y10.1 0 x2).length) 1 (y7.1.flatMap (encI .u8) ++ (cut y10.1 0 x2).flatMap (encI .u8)), [1], [(1, .gone), (2, .vec (y7.1.length + (cut y10.1 0 x2).length) 1 5 (y7.1.flatMap (encI .u8) ++ (cut y10.1 0 x2).flatMap (encI .u8))), (2, .gone)]⟩) (ef' := ⟨.lst (y7.1 ++ (cut y10.1 0 x2)).length 1 ((y7.1 ++ (cut y10.1 0 x2)).flatMap (encI .u8)), [1], [(1, .gone), (2, .vec (y7.1 ++ (cut y10.1 0 x2)).length 1 5 ((y7.1 ++ (cut y10.1 0 x2)).flatMap (encI .u8))), (2, .gone)]⟩) (c := room (y7.1.length + (cut y10.1 0 x2).length)) (tr2 := [([], [0]), ([], []), ([], [1, 1]), ([], []), ([], []), ([], []), ([1], [1, 2, 2, 2])]) (H2 := [.res, .gone, .gone, .res]) (by kernel_rfl) hm (fun hc => N.appZ) (by kernel_rfl) ?_
      obtain ⟨y75, hy76, h77⟩ := bindS h74
      refine RJ.call0 (d := (some 59)) (f := 19) (args := [lsv (encI .u8) 1 (y7.1 ++ (cut y10.1 0 x2))]) (v := .tup [lsv (encI .i32) 1 y75.1, .int .i64 y75.2.1, .int .i64 y75.2.2]) (tr2 := [([], [0]), ([], []), ([], [1, 1]), ([], []), ([], []), ([], []), ([1], [1, 2, 2, 2]), ([], [3])]) (by kernel_rfl) (by kernel_rfl) (.cons (Le.refl _) .nil) (utf_Decode_ok hy76) (by kernel_rfl) ?_
      refine RJ.segD 7 (tr2 := [([], [0]), ([], []), ([], [1, 1]), ([], []), ([], []), ([], []), ([1], [1, 2, 2, 2]), ([], [3]), ([], []), ([], []), ([], []), ([], []), ([], []), ([], []), ([], [])]) (L2 := [(14, .int .i64 y75.2.2), (13, .int .i64 y75.2.1), (12, lsv (encI .i32) 1 y75.1), (62, .int .i64 y75.2.2), (61, .int .i64 y75.2.1), (60, lsv (encI .i32) 1 y75.1), (51, .tup [lsv (encI .i32) 1 y75.1, .int .i64 y75.2.1, .int .i64 y75.2.2]), (59, .tup [lsv (encI .i32) 1 y75.1, .int .i64 y75.2.1, .int .i64 y75.2.2]), (58, lsv (encI .u8) 1 (y7.1 ++ (cut y10.1 0 x2))), (57, lsv (encI .u8) 1 (cut y10.1 0 x2)), (56, .int .i64 x2), (55, lsv (encI .u8) 1 y10.1), (54, .vc 1), (53, lsv (encI .u8) 1 y7.1), (52, .nl), (2, .int .i64 x2), (6, .bool false), (7, .bool y1), (8, lsv (encI .u8) 1 y7.1), (10, lsv (encI .u8) 1 y10.1)]) (H2 := [.res, .gone, .gone, .res]) (by kernel_rfl) ?_
      refine RJ.end (by kernel_rfl) ?_
      refine PJ.next ?_
      refine K.seq (by kernel_rfl) ?_
      refine K.region (by kernel_rfl) ?_
      refine RJ.seg 2 [6, 7, 8, 12, 13, 14, 64, 65] (L2 := [(6, .bool false), (7, .bool y1), (8, lsv (encI .u8) 1 y7.1), (12, lsv (encI .i32) 1 y75.1), (13, .int .i64 y75.2.1), (14, .int .i64 y75.2.2), (64, lsv (encI .u8) 1 y10.1), (65, .int .i64 x2)]) (H2 := [.res, .gone, .gone, .res]) (by kernel_rfl) ?_
      obtain ⟨hm, h78⟩ := asrt h77
      refine RJ.rel (d := (some 66)) (ef := ⟨.lst (((y10.1.length : Int) : Int).toNat - (x2 : Int).toNat) 1 (((y10.1.flatMap (encI .u8)).take (((y10.1.length : Int) : Int).toNat * 1)).drop ((x2 : Int).toNat * 1)), [], []⟩) (ef' := ⟨.lst (cut y10.1 x2 (y10.1.length : Int)).length 1 ((cut y10.1 x2 (y10.1.length : Int)).flatMap (encI .u8)), [], []⟩) (c := inS x2 (y10.1.length : Int) y10.1.length) (tr2 := []) (H2 := [.res, .gone, .gone, .res]) (by kernel_rfl) hm (fun hc => N.slice (encI_len .u8) hc) (by kernel_rfl) ?_
      obtain ⟨y79, hy80, h81⟩ := bindS h78
      refine RJ.call0 (d := (some 67)) (f := 19) (args := [lsv (encI .u8) 1 (cut y10.1 x2 (y10.1.length : Int))]) (v := .tup [lsv (encI .i32) 1 y79.1, .int .i64 y79.2.1, .int .i64 y79.2.2]) (tr2 := []) (by kernel_rfl) (by kernel_rfl) (.cons (Le.refl _) .nil) (utf_Decode_ok hy80) (by kernel_rfl) ?_
      refine RJ.seg 7 [6, 7, 8, 12, 13, 14, 16, 17] (L2 := [(6, .bool false), (7, .bool y1), (8, lsv (encI .u8) 1 y7.1), (12, lsv (encI .i32) 1 y75.1), (13, .int .i64 y75.2.1), (14, .int .i64 y75.2.2), (16, .int .i64 y79.2.1), (17, .int .i64 y79.2.2)]) (H2 := [.res, .gone, .gone, .res]) (by kernel_rfl) ?_
      refine RJ.end (by kernel_rfl) ?_
      refine PJ.next ?_
      obtain ⟨s97, hy99, h101⟩ := bindS h81
      refine K.cutN (by kernel_rfl) (fun (s97 : Bool) => ([(6, .bool s97)], [])) s97 ?_ ?_
      · refine K.region (by kernel_rfl) ?_
        refine RJ.seg 2 [6, 8, 12, 13, 14, 16, 17, 72] (L2 := [(6, .bool false), (8, lsv (encI .u8) 1 y7.1), (12, lsv (encI .i32) 1 y75.1), (13, .int .i64 y75.2.1), (14, .int .i64 y75.2.2), (16, .int .i64 y79.2.1), (17, .int .i64 y79.2.2), (72, .bool y1)]) (H2 := [.res, .gone, .gone, .res]) (by kernel_rfl) ?_
        refine RJ.caseB 72 (b := y1) (by kernel_rfl) (fun hb102 => ?_) (fun hb102 => ?_)
        · have h103 := condT hb102 hy99
          refine RJ.seg 4 [6, 8, 12, 13, 16, 17, 76] (L2 := [(6, .bool false), (8, lsv (encI .u8) 1 y7.1), (12, lsv (encI .i32) 1 y75.1), (13, .int .i64 y75.2.1), (16, .int .i64 y79.2.1), (17, .int .i64 y79.2.2), (76, .bool (decide (y75.2.2 = 3)))]) (H2 := [.res, .gone, .gone, .res]) (by kernel_rfl) ?_
          refine RJ.caseB 76 (b := (decide (y75.2.2 = 3))) (by kernel_rfl) (fun hb105 => ?_) (fun hb105 => ?_)
          · have h106 := condT hb105 h103
            refine RJ.seg 6 [6, 12, 16, 17, 82] (L2 := [(6, .bool false), (12, lsv (encI .i32) 1 y75.1), (16, .int .i64 y79.2.1), (17, .int .i64 y79.2.2), (82, .bool ((decide (y75.2.1 = (y7.1.length : Int)))))]) (H2 := [.res, .gone, .gone, .res]) (by kernel_rfl) ?_
            refine RJ.caseB 82 (b := (decide (y75.2.1 = (y7.1.length : Int)))) (by kernel_rfl) (fun hb108 => ?_) (fun hb108 => ?_)
            · have h109 := condT hb108 h106
              refine RJ.seg 5 [6, 16, 17, 87] (L2 := [(6, .bool false), (16, .int .i64 y79.2.1), (17, .int .i64 y79.2.2), (87, .bool ((decide ((y75.1.length : Int) = 0))))]) (H2 := [.res, .gone, .gone, .res]) (by kernel_rfl) ?_
              refine RJ.caseB 87 (b := (decide ((y75.1.length : Int) = 0))) (by kernel_rfl) (fun hb111 => ?_) (fun hb111 => ?_)
              · have h112 := condT hb111 h109
                refine RJ.seg 4 [6, 16, 91] (L2 := [(6, .bool false), (16, .int .i64 y79.2.1), (91, .bool (decide (y79.2.2 = 3)))]) (H2 := [.res, .gone, .gone, .res]) (by kernel_rfl) ?_
                refine RJ.caseB 91 (b := (decide (y79.2.2 = 3))) (by kernel_rfl) (fun hb114 => ?_) (fun hb114 => ?_)
                · have h115 := condT hb114 h112
                  refine RJ.seg 4 [6] (L2 := [(6, .bool (decide (y79.2.1 = 0)))]) (H2 := [.res, .gone, .gone, .res]) (by kernel_rfl) ?_
                  refine RJ.end (by kernel_rfl) ?_
                  obtain rfl := Option.some.inj h115
                  refine PJ.wk (Wk.sel (L2 := [(6, .bool (decide (y79.2.1 = 0)))]) (H2 := []) 0 (by rw [hFH]; rfl) hFD [] (by kernel_rfl) (by kernel_rfl) (by decide) (by kernel_rfl) (by kernel_rfl) (by kernel_rfl) (by kernel_rfl)) ?_
                  exact PJ.cutN [6] (by kernel_rfl) (by kernel_rfl)
                · have h116 := condF hb114 h112
                  refine RJ.seg 4 [6] (L2 := [(6, .bool false)]) (H2 := [.res, .gone, .gone, .res]) (by kernel_rfl) ?_
                  refine RJ.end (by kernel_rfl) ?_
                  obtain rfl := Option.some.inj h116
                  refine PJ.wk (Wk.sel (L2 := [(6, .bool false)]) (H2 := []) 0 (by rw [hFH]; rfl) hFD [] (by kernel_rfl) (by kernel_rfl) (by decide) (by kernel_rfl) (by kernel_rfl) (by kernel_rfl) (by kernel_rfl)) ?_
                  exact PJ.cutN [6] (by kernel_rfl) (by kernel_rfl)
              · have h113 := condF hb111 h109
                refine RJ.seg 8 [6] (L2 := [(6, .bool false)]) (H2 := [.res, .gone, .gone, .res]) (by kernel_rfl) ?_
                refine RJ.end (by kernel_rfl) ?_
                obtain rfl := Option.some.inj h113
                refine PJ.wk (Wk.sel (L2 := [(6, .bool false)]) (H2 := []) 0 (by rw [hFH]; rfl) hFD [] (by kernel_rfl) (by kernel_rfl) (by decide) (by kernel_rfl) (by kernel_rfl) (by kernel_rfl) (by kernel_rfl)) ?_
                exact PJ.cutN [6] (by kernel_rfl) (by kernel_rfl)
            · have h110 := condF hb108 h106
              refine RJ.seg 13 [6] (L2 := [(6, .bool false)]) (H2 := [.res, .gone, .gone, .res]) (by kernel_rfl) ?_
              refine RJ.end (by kernel_rfl) ?_
              obtain rfl := Option.some.inj h110
              refine PJ.wk (Wk.sel (L2 := [(6, .bool false)]) (H2 := []) 0 (by rw [hFH]; rfl) hFD [] (by kernel_rfl) (by kernel_rfl) (by decide) (by kernel_rfl) (by kernel_rfl) (by kernel_rfl) (by kernel_rfl)) ?_
              exact PJ.cutN [6] (by kernel_rfl) (by kernel_rfl)
          · have h107 := condF hb105 h103
            refine RJ.seg 19 [6] (L2 := [(6, .bool false)]) (H2 := [.res, .gone, .gone, .res]) (by kernel_rfl) ?_
            refine RJ.end (by kernel_rfl) ?_
            obtain rfl := Option.some.inj h107
            refine PJ.wk (Wk.sel (L2 := [(6, .bool false)]) (H2 := []) 0 (by rw [hFH]; rfl) hFD [] (by kernel_rfl) (by kernel_rfl) (by decide) (by kernel_rfl) (by kernel_rfl) (by kernel_rfl) (by kernel_rfl)) ?_
            exact PJ.cutN [6] (by kernel_rfl) (by kernel_rfl)
        · have h104 := condF hb102 hy99
          refine RJ.seg 23 [6] (L2 := [(6, .bool false)]) (H2 := [.res, .gone, .gone, .res]) (by kernel_rfl) ?_
          refine RJ.end (by kernel_rfl) ?_
          obtain rfl := Option.some.inj h104
          refine PJ.wk (Wk.sel (L2 := [(6, .bool false)]) (H2 := []) 0 (by rw [hFH]; rfl) hFD [] (by kernel_rfl) (by kernel_rfl) (by decide) (by kernel_rfl) (by kernel_rfl) (by kernel_rfl) (by kernel_rfl)) ?_
          exact PJ.cutN [6] (by kernel_rfl) (by kernel_rfl)
      · refine K.ret (by kernel_rfl) ?_
        obtain rfl := Option.some.inj h101
        exact K.ret0 (.inr rfl) hFn hFH hFD (by kernel_rfl) (by kernel_rfl) (by kernel_rfl)

structure St43 where
  L_ : List Int
  A_ : Int
  B_ : Int
  M_ : List Int
  deriving Inhabited, DecidableEq
def encSt43 (x : St43) : List SV := [lsv (encI .i32) 1 x.L_, .int .i32 x.A_, .int .i32 x.B_, lsv (encI .i32) 1 x.M_]
theorem encSt43_len (x : St43) : (encSt43 x).length = 4 := rfl

def exergueref01_Same (x0 : List Int) (x1 : List Int) : Option (Bool) :=
  (bif (decide (¬ (x0.length : Int) = (x1.length : Int))) then (some false) else (Option.bind (loopN (fun (s51 : Int) => (bif (decide (s51 < (x0.length : Int))) then (bif inR s51 x0.length then (bif inR s51 x1.length then (bif (decide (¬ (nth x0 s51) = (nth x1 s51))) then (some (.inr (.inr false))) else (some (.inl (IntKind.wrap .i64 (s51 + 1))))) else none) else none) else (some (.inr (.inl ()))))) big 0) (joinX fun (s46 : Unit) => (some true))))
theorem exergueref01_Same_ok {x0 : List Int} {x1 : List Int} {r : Bool} (h : exergueref01_Same x0 x1 = some r) : SC Try.prog 16 [lsv (encI .i32) 1 x0, lsv (encI .i32) 1 x1] [] (.bool r) [] := by
  refine K.fn (fn := Try.f16) (by kernel_rfl) (by kernel_rfl) (by kernel_rfl) (by kernel_rfl) (by kernel_rfl) (fun F hFn hFH hFD => ?_)
  unfold exergueref01_Same at h
  refine K.seq (by kernel_rfl) ?_
  refine K.region (by kernel_rfl) ?_
  refine RJ.seg 1 [0, 1, 4] (L2 := [(0, lsv (encI .i32) 1 x0), (1, lsv (encI .i32) 1 x1), (4, .bool false)]) (H2 := []) (by kernel_rfl) ?_
  refine RJ.end (by kernel_rfl) ?_
  refine PJ.next ?_
  refine K.seq (by kernel_rfl) ?_
  refine K.seq (by kernel_rfl) ?_
  refine K.region (by kernel_rfl) ?_
  refine RJ.seg 5 [0, 1, 4, 10] (L2 := [(0, lsv (encI .i32) 1 x0), (1, lsv (encI .i32) 1 x1), (4, .bool false), (10, .bool ((decide (¬ (x0.length : Int) = (x1.length : Int)))))]) (H2 := []) (by kernel_rfl) ?_
  refine RJ.end (by kernel_rfl) ?_
  refine PJ.next ?_
  refine J.caseB 10 (b := (decide (¬ (x0.length : Int) = (x1.length : Int)))) (by kernel_rfl) (fun hb1 => ?_) (fun hb1 => ?_)
  · have h2 := condT hb1 h
    refine K.condT (by kernel_rfl) ?_
    refine K.seq (by kernel_rfl) ?_
    refine K.region (by kernel_rfl) ?_
    refine RJ.seg 1 [0, 1, 4] (L2 := [(0, lsv (encI .i32) 1 x0), (1, lsv (encI .i32) 1 x1), (4, .bool false)]) (H2 := []) (by kernel_rfl) ?_
    refine RJ.end (by kernel_rfl) ?_
    refine PJ.next ?_
    refine K.ret (by kernel_rfl) ?_
    refine PJ.passRet ?_
    obtain rfl := Option.some.inj h2
    exact K.ret0 (.inr rfl) hFn hFH hFD (by kernel_rfl) (by kernel_rfl) (by kernel_rfl)
  · have h3 := condF hb1 h
    refine K.condF (by kernel_rfl) ?_
    refine K.skip (by kernel_rfl) ?_
    refine PJ.next ?_
    obtain ⟨y47, hy48, h49⟩ := bindS h3
    refine K.cutX (by kernel_rfl) (fun (s46 : Unit) => ([(4, .bool false)], [])) y47 ?_ (fun s46 hs => ?_)
    · refine K.seq (by kernel_rfl) ?_
      refine K.region (by kernel_rfl) ?_
      refine RJ.seg 1 [0, 1, 4, 5] (L2 := [(0, lsv (encI .i32) 1 x0), (1, lsv (encI .i32) 1 x1), (4, .bool false), (5, .int .i64 0)]) (H2 := []) (by kernel_rfl) ?_
      refine RJ.end (by kernel_rfl) ?_
      refine PJ.next ?_
      refine K.block 0 (by kernel_rfl) ?_
      refine K.loop (by kernel_rfl) (fun (s51 : Int) => ([(0, lsv (encI .i32) 1 x0), (1, lsv (encI .i32) 1 x1), (4, .bool false), (5, .int .i64 s51)], [])) hy48 [0, 1, 4, 5] (by kernel_rfl) (by kernel_rfl) (fun s51 x79 hs78 => ?_)
      refine K.seq (by kernel_rfl) ?_
      refine K.seq (by kernel_rfl) ?_
      refine K.region (by kernel_rfl) ?_
      refine RJ.seg 4 [0, 1, 4, 5, 14] (L2 := [(0, lsv (encI .i32) 1 x0), (1, lsv (encI .i32) 1 x1), (4, .bool false), (5, .int .i64 s51), (14, .bool ((decide (s51 < (x0.length : Int)))))]) (H2 := []) (by kernel_rfl) ?_
      refine RJ.end (by kernel_rfl) ?_
      refine PJ.next ?_
      refine J.caseB 14 (b := (decide (s51 < (x0.length : Int)))) (by kernel_rfl) (fun hb80 => ?_) (fun hb80 => ?_)
      · have h81 := condT hb80 hs78
        refine K.condT (by kernel_rfl) ?_
        refine K.skip (by kernel_rfl) ?_
        refine PJ.next ?_
        refine K.seq (by kernel_rfl) ?_
        refine K.block 1 (by kernel_rfl) ?_
        refine K.seq (by kernel_rfl) ?_
        refine J.keep [0, 1, 4, 5] (L2 := [(0, lsv (encI .i32) 1 x0), (1, lsv (encI .i32) 1 x1), (4, .bool false), (5, .int .i64 s51)]) (by kernel_rfl) ?_
        refine K.draw (by kernel_rfl) (by kernel_rfl) (by kernel_rfl) (H2 := []) (by kernel_rfl) (n := 0) (by kernel_rfl) ?_
        refine RJ.segD 2 (tr2 := [([], []), ([], [])]) (L2 := [(18, .int .i64 s51), (17, lsv (encI .i32) 1 x0), (0, lsv (encI .i32) 1 x0), (1, lsv (encI .i32) 1 x1), (4, .bool false), (5, .int .i64 s51)]) (H2 := []) (by kernel_rfl) ?_
        obtain ⟨hm, h83⟩ := asrt h81
        refine RJ.rel (d := (some 19)) (ef := ⟨.ep (((x0.flatMap (encI .i32)).drop ((s51 : Int).toNat * 1)).take 1), [], []⟩) (ef' := ⟨.ep ((encI .i32) (nth x0 s51)), [], []⟩) (c := inR s51 x0.length) (tr2 := [([], []), ([], []), ([], [])]) (H2 := []) (by kernel_rfl) hm (fun hc => N.idx (encI_len .i32) hc) (by kernel_rfl) ?_
        refine RJ.segD 3 (tr2 := [([], []), ([], []), ([], []), ([], []), ([], []), ([], [])]) (L2 := [(22, .int .i64 s51), (21, lsv (encI .i32) 1 x1), (20, .int .i32 (nth x0 s51)), (19, .ep [.int .i32 (nth x0 s51)]), (18, .int .i64 s51), (17, lsv (encI .i32) 1 x0), (0, lsv (encI .i32) 1 x0), (1, lsv (encI .i32) 1 x1), (4, .bool false), (5, .int .i64 s51)]) (H2 := []) (by kernel_rfl) ?_
        obtain ⟨hm, h84⟩ := asrt h83
        refine RJ.rel (d := (some 23)) (ef := ⟨.ep (((x1.flatMap (encI .i32)).drop ((s51 : Int).toNat * 1)).take 1), [], []⟩) (ef' := ⟨.ep ((encI .i32) (nth x1 s51)), [], []⟩) (c := inR s51 x1.length) (tr2 := [([], []), ([], []), ([], []), ([], []), ([], []), ([], []), ([], [])]) (H2 := []) (by kernel_rfl) hm (fun hc => N.idx (encI_len .i32) hc) (by kernel_rfl) ?_
        refine RJ.segD 2 (tr2 := [([], []), ([], []), ([], []), ([], []), ([], []), ([], []), ([], []), ([], []), ([], [])]) (L2 := [(25, .bool ((decide (¬ (nth x0 s51) = (nth x1 s51))))), (24, .int .i32 (nth x1 s51)), (23, .ep [.int .i32 (nth x1 s51)]), (22, .int .i64 s51), (21, lsv (encI .i32) 1 x1), (20, .int .i32 (nth x0 s51)), (19, .ep [.int .i32 (nth x0 s51)]), (18, .int .i64 s51), (17, lsv (encI .i32) 1 x0), (0, lsv (encI .i32) 1 x0), (1, lsv (encI .i32) 1 x1), (4, .bool false), (5, .int .i64 s51)]) (H2 := []) (by kernel_rfl) ?_
        refine RJ.end (by kernel_rfl) ?_
        refine PJ.next ?_
        refine J.caseB 25 (b := (decide (¬ (nth x0 s51) = (nth x1 s51)))) (by kernel_rfl) (fun hb85 => ?_) (fun hb85 => ?_)
        · have h86 := condT hb85 h84
          refine K.condT (by kernel_rfl) ?_
          refine K.seq (by kernel_rfl) ?_
          refine K.region (by kernel_rfl) ?_
          refine RJ.seg 1 [0, 1, 4, 5] (L2 := [(0, lsv (encI .i32) 1 x0), (1, lsv (encI .i32) 1 x1), (4, .bool false), (5, .int .i64 s51)]) (H2 := []) (by kernel_rfl) ?_
          refine RJ.end (by kernel_rfl) ?_
          refine PJ.next ?_
          refine K.ret (by kernel_rfl) ?_
          refine PJ.blockRet ?_
          refine PJ.passRet ?_
          obtain rfl := Option.some.inj h86
          refine PJ.loopOut (fun e => nomatch e) (fun he90 => ?_)
          have h88 := congrArg some he90
          refine PJ.blockRet ?_
          obtain rfl := Option.some.inj h88
          have h89 := joinX_inr h49
          refine PJ.cutXr (fun e => nomatch e) ?_
          obtain rfl := Option.some.inj h89
          exact K.ret0 (.inr rfl) hFn hFH hFD (by kernel_rfl) (by kernel_rfl) (by kernel_rfl)
        · have h87 := condF hb85 h84
          refine K.condF (by kernel_rfl) ?_
          refine K.skip (by kernel_rfl) ?_
          refine PJ.blockNormal ?_
          refine PJ.next ?_
          refine K.region (by kernel_rfl) ?_
          refine RJ.seg 3 [0, 1, 4, 5] (L2 := [(0, lsv (encI .i32) 1 x0), (1, lsv (encI .i32) 1 x1), (4, .bool false), (5, .int .i64 (IntKind.wrap .i64 (s51 + 1)))]) (H2 := []) (by kernel_rfl) ?_
          refine RJ.end (by kernel_rfl) ?_
          obtain rfl := Option.some.inj h87
          exact PJ.loopNext [0, 1, 4, 5] (by kernel_rfl) (by kernel_rfl)
      · have h82 := condF hb80 hs78
        refine K.condF (by kernel_rfl) ?_
        refine K.exit 0 (by kernel_rfl) ?_
        refine PJ.passExit ?_
        obtain rfl := Option.some.inj h82
        refine PJ.loopOut (fun e => nomatch e) (fun he92 => ?_)
        have h91 := congrArg some he92
        refine PJ.blockOut ?_
        obtain rfl := Option.some.inj h91
        exact PJ.cutXl [4] (by kernel_rfl) (by kernel_rfl)
    · subst hs
      have h50 := joinX_inl h49
      refine K.seq (by kernel_rfl) ?_
      refine K.region (by kernel_rfl) ?_
      refine RJ.seg 1 [4] (L2 := [(4, .bool true)]) (H2 := []) (by kernel_rfl) ?_
      refine RJ.end (by kernel_rfl) ?_
      refine PJ.next ?_
      refine K.ret (by kernel_rfl) ?_
      obtain rfl := Option.some.inj h50
      exact K.ret0 (.inr rfl) hFn hFH hFD (by kernel_rfl) (by kernel_rfl) (by kernel_rfl)

def exerguelaw01_UtfOrder (x0 : St43) : Option (Bool) :=
  (Option.bind exerguelaw01_shown fun y1 => (Option.bind (Option.bind (bif (decide (((IntKind.wrap .i64 ((x0.L_.length : Int) + (x0.M_.length : Int)))) > 500)) then (some true) else (some (decide (x0.A_ ≥ x0.B_)))) fun (s27 : Bool) => (bif s27 then (some (.inr y1)) else (some (.inl ())))) (joinX fun (s19 : Unit) => (bif room x0.L_.length then (bif room (x0.L_.length + ([x0.A_] : List Int).length) then (Option.bind (utf_Encode (x0.L_ ++ ([x0.A_] : List Int))) fun y41 => (bif room x0.L_.length then (bif room (x0.L_.length + ([x0.B_] : List Int).length) then (bif room ((x0.L_ ++ ([x0.B_] : List Int)).length + x0.M_.length) then (Option.bind (utf_Encode (((x0.L_ ++ ([x0.B_] : List Int)) ++ x0.M_))) fun y47 => (Option.bind (bif y1 then (bif (decide (¬ y41.2 = 0)) then (Option.bind (exergueref01_Same x0.L_ x0.L_) fun y82 => (some y82)) else (bif (decide (¬ y47.2 = 0)) then (Option.bind (exergueref01_Same x0.L_ x0.L_) fun y88 => (some y88)) else (bif (Op.bytesLess (bytesS y41.1) (bytesS y47.1)) then (Option.bind (exergueref01_Same x0.L_ x0.L_) fun y94 => (some y94)) else (some false)))) else (some false)) fun (s71 : Bool) => (some s71))) else none) else none) else none)) else none) else none))))
theorem exerguelaw01_UtfOrder_ok {x0 : St43} {r : Bool} (h : exerguelaw01_UtfOrder x0 = some r) : SC Try.prog 9 [.agg [lsv (encI .i32) 1 x0.L_, .int .i32 x0.A_, .int .i32 x0.B_, lsv (encI .i32) 1 x0.M_]] [] (.bool r) [] := by
  refine K.fn (fn := Try.f9) (by kernel_rfl) (by kernel_rfl) (by kernel_rfl) (by kernel_rfl) (by kernel_rfl) (fun F hFn hFH hFD => ?_)
  unfold exerguelaw01_UtfOrder at h
  refine K.seq (by kernel_rfl) ?_
  refine K.region (by kernel_rfl) ?_
  refine RJ.seg 2 [1, 2] (L2 := [(1, .ptr 0 0), (2, .bool false)]) (H2 := [.box [lsv (encI .i32) 1 x0.L_, .int .i32 x0.A_, .int .i32 x0.B_, lsv (encI .i32) 1 x0.M_]]) (by kernel_rfl) ?_
  refine RJ.end (by kernel_rfl) ?_
  refine PJ.next ?_
  refine K.seq (by kernel_rfl) ?_
  refine K.region (by kernel_rfl) ?_
  refine RJ.seg 3 [1, 2, 3] (L2 := [(1, .ptr 0 0), (2, .bool false), (3, lsv (encI .i32) 1 x0.L_)]) (H2 := [.box [lsv (encI .i32) 1 x0.L_, .int .i32 x0.A_, .int .i32 x0.B_, lsv (encI .i32) 1 x0.M_]]) (by kernel_rfl) ?_
  refine RJ.end (by kernel_rfl) ?_
  refine PJ.next ?_
  refine K.seq (by kernel_rfl) ?_
  refine K.region (by kernel_rfl) ?_
  refine RJ.seg 3 [1, 2, 3, 4] (L2 := [(1, .ptr 0 0), (2, .bool false), (3, lsv (encI .i32) 1 x0.L_), (4, .int .i32 x0.A_)]) (H2 := [.box [lsv (encI .i32) 1 x0.L_, .int .i32 x0.A_, .int .i32 x0.B_, lsv (encI .i32) 1 x0.M_]]) (by kernel_rfl) ?_
  refine RJ.end (by kernel_rfl) ?_
  refine PJ.next ?_
  refine K.seq (by kernel_rfl) ?_
  refine K.region (by kernel_rfl) ?_
  refine RJ.seg 3 [1, 2, 3, 4, 5] (L2 := [(1, .ptr 0 0), (2, .bool false), (3, lsv (encI .i32) 1 x0.L_), (4, .int .i32 x0.A_), (5, .int .i32 x0.B_)]) (H2 := [.box [lsv (encI .i32) 1 x0.L_, .int .i32 x0.A_, .int .i32 x0.B_, lsv (encI .i32) 1 x0.M_]]) (by kernel_rfl) ?_
  refine RJ.end (by kernel_rfl) ?_
  refine PJ.next ?_
  refine K.seq (by kernel_rfl) ?_
  refine K.region (by kernel_rfl) ?_
  refine RJ.seg 3 [2, 3, 4, 5, 6] (L2 := [(2, .bool false), (3, lsv (encI .i32) 1 x0.L_), (4, .int .i32 x0.A_), (5, .int .i32 x0.B_), (6, lsv (encI .i32) 1 x0.M_)]) (H2 := [.box [lsv (encI .i32) 1 x0.L_, .int .i32 x0.A_, .int .i32 x0.B_, lsv (encI .i32) 1 x0.M_]]) (by kernel_rfl) ?_
  refine RJ.end (by kernel_rfl) ?_
  refine PJ.next ?_
  refine K.seq (by kernel_rfl) ?_
  refine K.region (by kernel_rfl) ?_
  obtain ⟨y1, hy2, h3⟩ := bindS h
  refine RJ.call0 (d := (some 20)) (f := 10) (args := []) (v := .bool y1) (tr2 := []) (by kernel_rfl) (by kernel_rfl) .nil (exerguelaw01_shown_ok hy2) (by kernel_rfl) ?_
  refine RJ.seg 1 [2, 3, 4, 5, 6, 7] (L2 := [(2, .bool false), (3, lsv (encI .i32) 1 x0.L_), (4, .int .i32 x0.A_), (5, .int .i32 x0.B_), (6, lsv (encI .i32) 1 x0.M_), (7, .bool y1)]) (H2 := [.box [lsv (encI .i32) 1 x0.L_, .int .i32 x0.A_, .int .i32 x0.B_, lsv (encI .i32) 1 x0.M_]]) (by kernel_rfl) ?_
  refine RJ.end (by kernel_rfl) ?_
  refine PJ.next ?_
  obtain ⟨y20, hy21, h22⟩ := bindS h3
  refine K.cutX (by kernel_rfl) (fun (s19 : Unit) => ([(2, .bool false), (3, lsv (encI .i32) 1 x0.L_), (4, .int .i32 x0.A_), (5, .int .i32 x0.B_), (6, lsv (encI .i32) 1 x0.M_), (7, .bool y1)], [])) y20 ?_ (fun s19 hs => ?_)
  · obtain ⟨s27, hy29, h31⟩ := bindS hy21
    refine K.cutN (by kernel_rfl) (fun (s27 : Bool) => ([(2, .bool false), (3, lsv (encI .i32) 1 x0.L_), (4, .int .i32 x0.A_), (5, .int .i32 x0.B_), (6, lsv (encI .i32) 1 x0.M_), (7, .bool y1), (31, .bool s27)], [])) s27 ?_ ?_
    · refine K.region (by kernel_rfl) ?_
      refine RJ.seg 7 [2, 3, 4, 5, 6, 7, 27] (L2 := [(2, .bool false), (3, lsv (encI .i32) 1 x0.L_), (4, .int .i32 x0.A_), (5, .int .i32 x0.B_), (6, lsv (encI .i32) 1 x0.M_), (7, .bool y1), (27, .bool ((decide (((IntKind.wrap .i64 ((x0.L_.length : Int) + (x0.M_.length : Int)))) > 500))))]) (H2 := [.box [lsv (encI .i32) 1 x0.L_, .int .i32 x0.A_, .int .i32 x0.B_, lsv (encI .i32) 1 x0.M_]]) (by kernel_rfl) ?_
      refine RJ.caseB 27 (b := (decide (((IntKind.wrap .i64 ((x0.L_.length : Int) + (x0.M_.length : Int)))) > 500))) (by kernel_rfl) (fun hb32 => ?_) (fun hb32 => ?_)
      · have h33 := condT hb32 hy29
        refine RJ.seg 4 [2, 3, 4, 5, 6, 7, 31] (L2 := [(2, .bool false), (3, lsv (encI .i32) 1 x0.L_), (4, .int .i32 x0.A_), (5, .int .i32 x0.B_), (6, lsv (encI .i32) 1 x0.M_), (7, .bool y1), (31, .bool true)]) (H2 := [.box [lsv (encI .i32) 1 x0.L_, .int .i32 x0.A_, .int .i32 x0.B_, lsv (encI .i32) 1 x0.M_]]) (by kernel_rfl) ?_
        refine RJ.end (by kernel_rfl) ?_
        obtain rfl := Option.some.inj h33
        refine PJ.wk (Wk.sel (L2 := [(2, .bool false), (3, lsv (encI .i32) 1 x0.L_), (4, .int .i32 x0.A_), (5, .int .i32 x0.B_), (6, lsv (encI .i32) 1 x0.M_), (7, .bool y1), (31, .bool true)]) (H2 := []) 0 (by rw [hFH]; rfl) hFD [] (by kernel_rfl) (by kernel_rfl) (by decide) (by kernel_rfl) (by kernel_rfl) (by kernel_rfl) (by kernel_rfl)) ?_
        exact PJ.cutN [2, 3, 4, 5, 6, 7, 31] (by kernel_rfl) (by kernel_rfl)
      · have h34 := condF hb32 hy29
        refine RJ.seg 4 [2, 3, 4, 5, 6, 7, 31] (L2 := [(2, .bool false), (3, lsv (encI .i32) 1 x0.L_), (4, .int .i32 x0.A_), (5, .int .i32 x0.B_), (6, lsv (encI .i32) 1 x0.M_), (7, .bool y1), (31, .bool (decide (x0.A_ ≥ x0.B_)))]) (H2 := [.box [lsv (encI .i32) 1 x0.L_, .int .i32 x0.A_, .int .i32 x0.B_, lsv (encI .i32) 1 x0.M_]]) (by kernel_rfl) ?_
        refine RJ.end (by kernel_rfl) ?_
        obtain rfl := Option.some.inj h34
        refine PJ.wk (Wk.sel (L2 := [(2, .bool false), (3, lsv (encI .i32) 1 x0.L_), (4, .int .i32 x0.A_), (5, .int .i32 x0.B_), (6, lsv (encI .i32) 1 x0.M_), (7, .bool y1), (31, .bool (decide (x0.A_ ≥ x0.B_)))]) (H2 := []) 0 (by rw [hFH]; rfl) hFD [] (by kernel_rfl) (by kernel_rfl) (by decide) (by kernel_rfl) (by kernel_rfl) (by kernel_rfl) (by kernel_rfl)) ?_
        exact PJ.cutN [2, 3, 4, 5, 6, 7, 31] (by kernel_rfl) (by kernel_rfl)
    · refine J.caseB 31 (b := s27) (by kernel_rfl) (fun hb35 => ?_) (fun hb35 => ?_)
      · have h36 := condT hb35 h31
        refine K.condT (by kernel_rfl) ?_
        refine K.seq (by kernel_rfl) ?_
        refine K.region (by kernel_rfl) ?_
        refine RJ.seg 2 [2, 3, 4, 5, 6, 7] (L2 := [(2, .bool y1), (3, lsv (encI .i32) 1 x0.L_), (4, .int .i32 x0.A_), (5, .int .i32 x0.B_), (6, lsv (encI .i32) 1 x0.M_), (7, .bool y1)]) (H2 := []) (by kernel_rfl) ?_
        refine RJ.end (by kernel_rfl) ?_
        refine PJ.next ?_
        refine K.ret (by kernel_rfl) ?_
        obtain rfl := Option.some.inj h36
        have h38 := joinX_inr h22
        refine PJ.cutXr (fun e => nomatch e) ?_
        obtain rfl := Option.some.inj h38
        exact K.ret0 (.inr rfl) hFn hFH hFD (by kernel_rfl) (by kernel_rfl) (by kernel_rfl)
      · have h37 := condF hb35 h31
        refine K.condF (by kernel_rfl) ?_
        refine K.skip (by kernel_rfl) ?_
        obtain rfl := Option.some.inj h37
        exact PJ.cutXl [2, 3, 4, 5, 6, 7] (by kernel_rfl) (by kernel_rfl)
  · subst hs
    have h23 := joinX_inl h22
    refine K.seq (by kernel_rfl) ?_
    refine K.region (by kernel_rfl) ?_
    refine RJ.seg 2 [2, 3, 4, 5, 6, 7, 34, 35] (L2 := [(2, .bool false), (3, lsv (encI .i32) 1 x0.L_), (4, .int .i32 x0.A_), (5, .int .i32 x0.B_), (6, lsv (encI .i32) 1 x0.M_), (7, .bool y1), (34, .nl), (35, lsv (encI .i32) 1 x0.L_)]) (H2 := []) (by kernel_rfl) ?_
    obtain ⟨hm, h39⟩ := asrt h23
    refine RJ.rel (d := (some 36)) (ef := ⟨.vc 0, [], [(0, .vec x0.L_.length 1 21 (x0.L_.flatMap (encI .i32)))]⟩) (ef' := ⟨.vc 0, [], [(0, .vec x0.L_.length 1 21 (x0.L_.flatMap (encI .i32)))]⟩) (c := room x0.L_.length) (tr2 := []) (H2 := [vecL (encI .i32) 1 21 x0.L_]) (by kernel_rfl) hm (fun hc => rfl) (by kernel_rfl) ?_
    refine RJ.seg 2 [2, 3, 5, 6, 7, 36, 38] (L2 := [(2, .bool false), (3, lsv (encI .i32) 1 x0.L_), (5, .int .i32 x0.B_), (6, lsv (encI .i32) 1 x0.M_), (7, .bool y1), (36, .vc 0), (38, .vc 1)]) (H2 := [vecL (encI .i32) 1 21 x0.L_, vecL (encI .i32) 1 21 ([x0.A_] : List Int)]) (by kernel_rfl) ?_
    obtain ⟨hm, h40⟩ := asrt h39
    refine RJ.rel (d := (some 39)) (ef := ⟨.vc 2, [0, 1], [(0, .gone), (2, .vec (x0.L_.length + ([x0.A_] : List Int).length) 1 21 (x0.L_.flatMap (encI .i32) ++ ([x0.A_] : List Int).flatMap (encI .i32)))]⟩) (ef' := ⟨.vc 2, [0, 1], [(0, .gone), (2, vecL (encI .i32) 1 21 (x0.L_ ++ ([x0.A_] : List Int)))]⟩) (c := room (x0.L_.length + ([x0.A_] : List Int).length)) (tr2 := []) (H2 := [.gone, vecL (encI .i32) 1 21 ([x0.A_] : List Int), vecL (encI .i32) 1 21 (x0.L_ ++ ([x0.A_] : List Int))]) (by kernel_rfl) hm (fun hc => N.app) (by kernel_rfl) ?_
    obtain ⟨y41, hy42, h43⟩ := bindS h40
    refine RJ.wk (Wk.freeze 2 (n := (x0.L_ ++ ([x0.A_] : List Int)).length) (k := 1) (e := 21) (cs := (x0.L_ ++ ([x0.A_] : List Int)).flatMap (encI .i32)) (by kernel_rfl)) ?_
    refine RJ.call0 (d := (some 40)) (f := 17) (args := [lsv (encI .i32) 1 (x0.L_ ++ ([x0.A_] : List Int))]) (v := .tup [lsv (encI .u8) 1 y41.1, .int .i64 y41.2]) (tr2 := []) (by kernel_rfl) (by kernel_rfl) (.cons (Le.refl _) .nil) (utf_Encode_ok hy42) (by kernel_rfl) ?_
    refine RJ.seg 5 [2, 3, 5, 6, 7, 8, 9] (L2 := [(2, .bool false), (3, lsv (encI .i32) 1 x0.L_), (5, .int .i32 x0.B_), (6, lsv (encI .i32) 1 x0.M_), (7, .bool y1), (8, lsv (encI .u8) 1 y41.1), (9, .int .i64 y41.2)]) (H2 := [.gone, vecL (encI .i32) 1 21 ([x0.A_] : List Int), .gone]) (by kernel_rfl) ?_
    refine RJ.end (by kernel_rfl) ?_
    refine PJ.next ?_
    refine K.seq (by kernel_rfl) ?_
    refine K.region (by kernel_rfl) ?_
    refine RJ.seg 2 [2, 3, 5, 6, 7, 8, 9, 44, 45] (L2 := [(2, .bool false), (3, lsv (encI .i32) 1 x0.L_), (5, .int .i32 x0.B_), (6, lsv (encI .i32) 1 x0.M_), (7, .bool y1), (8, lsv (encI .u8) 1 y41.1), (9, .int .i64 y41.2), (44, .nl), (45, lsv (encI .i32) 1 x0.L_)]) (H2 := [.gone, vecL (encI .i32) 1 21 ([x0.A_] : List Int), .gone]) (by kernel_rfl) ?_
    obtain ⟨hm, h44⟩ := asrt h43
    refine RJ.rel (d := (some 46)) (ef := ⟨.vc 3, [], [(3, .vec x0.L_.length 1 21 (x0.L_.flatMap (encI .i32)))]⟩) (ef' := ⟨.vc 3, [], [(3, .vec x0.L_.length 1 21 (x0.L_.flatMap (encI .i32)))]⟩) (c := room x0.L_.length) (tr2 := []) (H2 := [.gone, vecL (encI .i32) 1 21 ([x0.A_] : List Int), .gone, vecL (encI .i32) 1 21 x0.L_]) (by kernel_rfl) hm (fun hc => rfl) (by kernel_rfl) ?_
    refine RJ.seg 2 [2, 3, 6, 7, 8, 9, 46, 48] (L2 := [(2, .bool false), (3, lsv (encI .i32) 1 x0.L_), (6, lsv (encI .i32) 1 x0.M_), (7, .bool y1), (8, lsv (encI .u8) 1 y41.1), (9, .int .i64 y41.2), (46, .vc 3), (48, .vc 4)]) (H2 := [.gone, vecL (encI .i32) 1 21 ([x0.A_] : List Int), .gone, vecL (encI .i32) 1 21 x0.L_, vecL (encI .i32) 1 21 ([x0.B_] : List Int)]) (by kernel_rfl) ?_
    obtain ⟨hm, h45⟩ := asrt h44
    refine RJ.rel (d := (some 49)) (ef := ⟨.vc 5, [3, 4], [(3, .gone), (5, .vec (x0.L_.length + ([x0.B_] : List Int).length) 1 21 (x0.L_.flatMap (encI .i32) ++ ([x0.B_] : List Int).flatMap (encI .i32)))]⟩) (ef' := ⟨.vc 5, [3, 4], [(3, .gone), (5, vecL (encI .i32) 1 21 (x0.L_ ++ ([x0.B_] : List Int)))]⟩) (c := room (x0.L_.length + ([x0.B_] : List Int).length)) (tr2 := []) (H2 := [.gone, vecL (encI .i32) 1 21 ([x0.A_] : List Int), .gone, .gone, vecL (encI .i32) 1 21 ([x0.B_] : List Int), vecL (encI .i32) 1 21 (x0.L_ ++ ([x0.B_] : List Int))]) (by kernel_rfl) hm (fun hc => N.app) (by kernel_rfl) ?_
    refine RJ.seg 1 [2, 3, 7, 8, 9, 49, 50] (L2 := [(2, .bool false), (3, lsv (encI .i32) 1 x0.L_), (7, .bool y1), (8, lsv (encI .u8) 1 y41.1), (9, .int .i64 y41.2), (49, .vc 5), (50, lsv (encI .i32) 1 x0.M_)]) (H2 := [.gone, vecL (encI .i32) 1 21 ([x0.A_] : List Int), .gone, .gone, vecL (encI .i32) 1 21 ([x0.B_] : List Int), vecL (encI .i32) 1 21 (x0.L_ ++ ([x0.B_] : List Int))]) (by kernel_rfl) ?_
    obtain ⟨hm, h46⟩ := asrt h45
    refine RJ.rel (d := (some 51)) (ef := ⟨.vc 6, [5], [(5, .gone), (6, .vec ((x0.L_ ++ ([x0.B_] : List Int)).length + x0.M_.length) 1 21 ((x0.L_ ++ ([x0.B_] : List Int)).flatMap (encI .i32) ++ x0.M_.flatMap (encI .i32)))]⟩) (ef' := ⟨.vc 6, [5], [(5, .gone), (6, vecL (encI .i32) 1 21 ((x0.L_ ++ ([x0.B_] : List Int)) ++ x0.M_))]⟩) (c := room ((x0.L_ ++ ([x0.B_] : List Int)).length + x0.M_.length)) (tr2 := []) (H2 := [.gone, vecL (encI .i32) 1 21 ([x0.A_] : List Int), .gone, .gone, vecL (encI .i32) 1 21 ([x0.B_] : List Int), .gone, vecL (encI .i32) 1 21 (((x0.L_ ++ ([x0.B_] : List Int)) ++ x0.M_))]) (by kernel_rfl) hm (fun hc => N.app) (by kernel_rfl) ?_
    obtain ⟨y47, hy48, h49⟩ := bindS h46
    refine RJ.wk (Wk.freeze 6 (n := (((x0.L_ ++ ([x0.B_] : List Int)) ++ x0.M_)).length) (k := 1) (e := 21) (cs := (((x0.L_ ++ ([x0.B_] : List Int)) ++ x0.M_)).flatMap (encI .i32)) (by kernel_rfl)) ?_
    refine RJ.call0 (d := (some 52)) (f := 17) (args := [lsv (encI .i32) 1 (((x0.L_ ++ ([x0.B_] : List Int)) ++ x0.M_))]) (v := .tup [lsv (encI .u8) 1 y47.1, .int .i64 y47.2]) (tr2 := []) (by kernel_rfl) (by kernel_rfl) (.cons (Le.refl _) .nil) (utf_Encode_ok hy48) (by kernel_rfl) ?_
    refine RJ.seg 5 [2, 3, 7, 8, 9, 10, 11] (L2 := [(2, .bool false), (3, lsv (encI .i32) 1 x0.L_), (7, .bool y1), (8, lsv (encI .u8) 1 y41.1), (9, .int .i64 y41.2), (10, lsv (encI .u8) 1 y47.1), (11, .int .i64 y47.2)]) (H2 := [.gone, vecL (encI .i32) 1 21 ([x0.A_] : List Int), .gone, .gone, vecL (encI .i32) 1 21 ([x0.B_] : List Int), .gone, .gone]) (by kernel_rfl) ?_
    refine RJ.end (by kernel_rfl) ?_
    refine PJ.next ?_
    obtain ⟨s71, hy73, h75⟩ := bindS h49
    refine K.cutN (by kernel_rfl) (fun (s71 : Bool) => ([(2, .bool s71)], [])) s71 ?_ ?_
    · refine K.region (by kernel_rfl) ?_
      refine RJ.seg 2 [2, 3, 8, 9, 10, 11, 56] (L2 := [(2, .bool false), (3, lsv (encI .i32) 1 x0.L_), (8, lsv (encI .u8) 1 y41.1), (9, .int .i64 y41.2), (10, lsv (encI .u8) 1 y47.1), (11, .int .i64 y47.2), (56, .bool y1)]) (H2 := [.gone, vecL (encI .i32) 1 21 ([x0.A_] : List Int), .gone, .gone, vecL (encI .i32) 1 21 ([x0.B_] : List Int), .gone, .gone]) (by kernel_rfl) ?_
      refine RJ.caseB 56 (b := y1) (by kernel_rfl) (fun hb76 => ?_) (fun hb76 => ?_)
      · have h77 := condT hb76 hy73
        refine RJ.seg 3 [2, 3, 8, 10, 11, 56, 59] (L2 := [(2, .bool false), (3, lsv (encI .i32) 1 x0.L_), (8, lsv (encI .u8) 1 y41.1), (10, lsv (encI .u8) 1 y47.1), (11, .int .i64 y47.2), (56, .bool true), (59, .bool (decide (¬ y41.2 = 0)))]) (H2 := [.gone, vecL (encI .i32) 1 21 ([x0.A_] : List Int), .gone, .gone, vecL (encI .i32) 1 21 ([x0.B_] : List Int), .gone, .gone]) (by kernel_rfl) ?_
        refine RJ.caseB 59 (b := (decide (¬ y41.2 = 0))) (by kernel_rfl) (fun hb79 => ?_) (fun hb79 => ?_)
        · have h80 := condT hb79 h77
          refine RJ.seg 14 [2, 71, 72, 73] (L2 := [(2, .bool false), (71, .bool true), (72, lsv (encI .i32) 1 x0.L_), (73, lsv (encI .i32) 1 x0.L_)]) (H2 := [.gone, vecL (encI .i32) 1 21 ([x0.A_] : List Int), .gone, .gone, vecL (encI .i32) 1 21 ([x0.B_] : List Int), .gone, .gone]) (by kernel_rfl) ?_
          obtain ⟨y82, hy83, h84⟩ := bindS h80
          refine RJ.call0 (d := (some 74)) (f := 16) (args := [lsv (encI .i32) 1 x0.L_, lsv (encI .i32) 1 x0.L_]) (v := .bool y82) (tr2 := []) (by kernel_rfl) (by kernel_rfl) (.cons (Le.refl _) (.cons (Le.refl _) .nil)) (exergueref01_Same_ok hy83) (by kernel_rfl) ?_
          refine RJ.seg 2 [2] (L2 := [(2, .bool y82)]) (H2 := [.gone, vecL (encI .i32) 1 21 ([x0.A_] : List Int), .gone, .gone, vecL (encI .i32) 1 21 ([x0.B_] : List Int), .gone, .gone]) (by kernel_rfl) ?_
          refine RJ.end (by kernel_rfl) ?_
          obtain rfl := Option.some.inj h84
          refine PJ.wk (Wk.sel (L2 := [(2, .bool y82)]) (H2 := []) 0 (by rw [hFH]; rfl) hFD [] (by kernel_rfl) (by kernel_rfl) (by decide) (by kernel_rfl) (by kernel_rfl) (by kernel_rfl) (by kernel_rfl)) ?_
          exact PJ.cutN [2] (by kernel_rfl) (by kernel_rfl)
        · have h81 := condF hb79 h77
          refine RJ.seg 4 [2, 3, 8, 10, 56, 63] (L2 := [(2, .bool false), (3, lsv (encI .i32) 1 x0.L_), (8, lsv (encI .u8) 1 y41.1), (10, lsv (encI .u8) 1 y47.1), (56, .bool true), (63, .bool (decide (¬ y47.2 = 0)))]) (H2 := [.gone, vecL (encI .i32) 1 21 ([x0.A_] : List Int), .gone, .gone, vecL (encI .i32) 1 21 ([x0.B_] : List Int), .gone, .gone]) (by kernel_rfl) ?_
          refine RJ.caseB 63 (b := (decide (¬ y47.2 = 0))) (by kernel_rfl) (fun hb85 => ?_) (fun hb85 => ?_)
          · have h86 := condT hb85 h81
            refine RJ.seg 10 [2, 71, 72, 73] (L2 := [(2, .bool false), (71, .bool true), (72, lsv (encI .i32) 1 x0.L_), (73, lsv (encI .i32) 1 x0.L_)]) (H2 := [.gone, vecL (encI .i32) 1 21 ([x0.A_] : List Int), .gone, .gone, vecL (encI .i32) 1 21 ([x0.B_] : List Int), .gone, .gone]) (by kernel_rfl) ?_
            obtain ⟨y88, hy89, h90⟩ := bindS h86
            refine RJ.call0 (d := (some 74)) (f := 16) (args := [lsv (encI .i32) 1 x0.L_, lsv (encI .i32) 1 x0.L_]) (v := .bool y88) (tr2 := []) (by kernel_rfl) (by kernel_rfl) (.cons (Le.refl _) (.cons (Le.refl _) .nil)) (exergueref01_Same_ok hy89) (by kernel_rfl) ?_
            refine RJ.seg 2 [2] (L2 := [(2, .bool y88)]) (H2 := [.gone, vecL (encI .i32) 1 21 ([x0.A_] : List Int), .gone, .gone, vecL (encI .i32) 1 21 ([x0.B_] : List Int), .gone, .gone]) (by kernel_rfl) ?_
            refine RJ.end (by kernel_rfl) ?_
            obtain rfl := Option.some.inj h90
            refine PJ.wk (Wk.sel (L2 := [(2, .bool y88)]) (H2 := []) 0 (by rw [hFH]; rfl) hFD [] (by kernel_rfl) (by kernel_rfl) (by decide) (by kernel_rfl) (by kernel_rfl) (by kernel_rfl) (by kernel_rfl)) ?_
            exact PJ.cutN [2] (by kernel_rfl) (by kernel_rfl)
          · have h87 := condF hb85 h81
            refine RJ.seg 1 [2, 3, 10, 56, 63, 64] (L2 := [(2, .bool false), (3, lsv (encI .i32) 1 x0.L_), (10, lsv (encI .u8) 1 y47.1), (56, .bool true), (63, .bool false), (64, lsv (encI .u8) 1 y41.1)]) (H2 := [.gone, vecL (encI .i32) 1 21 ([x0.A_] : List Int), .gone, .gone, vecL (encI .i32) 1 21 ([x0.B_] : List Int), .gone, .gone]) (by kernel_rfl) ?_
            refine RJ.rel (d := (some 65)) (ef := ⟨.str ((y41.1.flatMap (encI .u8)).map Go.Sy.byteOf), [], []⟩) (ef' := ⟨.str (bytesS y41.1), [], []⟩) (c := (y41.1.flatMap (encI .u8)).all isByte) (tr2 := []) (H2 := [.gone, vecL (encI .i32) 1 21 ([x0.A_] : List Int), .gone, .gone, vecL (encI .i32) 1 21 ([x0.B_] : List Int), .gone, .gone]) (by kernel_rfl) (allByte y41.1) (fun hc => N.toStr) (by kernel_rfl) ?_
            refine RJ.seg 1 [2, 3, 56, 63, 65, 66] (L2 := [(2, .bool false), (3, lsv (encI .i32) 1 x0.L_), (56, .bool true), (63, .bool false), (65, .str (bytesS y41.1)), (66, lsv (encI .u8) 1 y47.1)]) (H2 := [.gone, vecL (encI .i32) 1 21 ([x0.A_] : List Int), .gone, .gone, vecL (encI .i32) 1 21 ([x0.B_] : List Int), .gone, .gone]) (by kernel_rfl) ?_
            refine RJ.rel (d := (some 67)) (ef := ⟨.str ((y47.1.flatMap (encI .u8)).map Go.Sy.byteOf), [], []⟩) (ef' := ⟨.str (bytesS y47.1), [], []⟩) (c := (y47.1.flatMap (encI .u8)).all isByte) (tr2 := []) (H2 := [.gone, vecL (encI .i32) 1 21 ([x0.A_] : List Int), .gone, .gone, vecL (encI .i32) 1 21 ([x0.B_] : List Int), .gone, .gone]) (by kernel_rfl) (allByte y47.1) (fun hc => N.toStr) (by kernel_rfl) ?_
            refine RJ.seg 4 [2, 3, 71] (L2 := [(2, .bool false), (3, lsv (encI .i32) 1 x0.L_), (71, .bool (Op.bytesLess (bytesS y41.1) (bytesS y47.1)))]) (H2 := [.gone, vecL (encI .i32) 1 21 ([x0.A_] : List Int), .gone, .gone, vecL (encI .i32) 1 21 ([x0.B_] : List Int), .gone, .gone]) (by kernel_rfl) ?_
            refine RJ.caseB 71 (b := (Op.bytesLess (bytesS y41.1) (bytesS y47.1))) (by kernel_rfl) (fun hb91 => ?_) (fun hb91 => ?_)
            · have h92 := condT hb91 h87
              refine RJ.seg 2 [2, 71, 72, 73] (L2 := [(2, .bool false), (71, .bool true), (72, lsv (encI .i32) 1 x0.L_), (73, lsv (encI .i32) 1 x0.L_)]) (H2 := [.gone, vecL (encI .i32) 1 21 ([x0.A_] : List Int), .gone, .gone, vecL (encI .i32) 1 21 ([x0.B_] : List Int), .gone, .gone]) (by kernel_rfl) ?_
              obtain ⟨y94, hy95, h96⟩ := bindS h92
              refine RJ.call0 (d := (some 74)) (f := 16) (args := [lsv (encI .i32) 1 x0.L_, lsv (encI .i32) 1 x0.L_]) (v := .bool y94) (tr2 := []) (by kernel_rfl) (by kernel_rfl) (.cons (Le.refl _) (.cons (Le.refl _) .nil)) (exergueref01_Same_ok hy95) (by kernel_rfl) ?_
              refine RJ.seg 2 [2] (L2 := [(2, .bool y94)]) (H2 := [.gone, vecL (encI .i32) 1 21 ([x0.A_] : List Int), .gone, .gone, vecL (encI .i32) 1 21 ([x0.B_] : List Int), .gone, .gone]) (by kernel_rfl) ?_
              refine RJ.end (by kernel_rfl) ?_
              obtain rfl := Option.some.inj h96
              refine PJ.wk (Wk.sel (L2 := [(2, .bool y94)]) (H2 := []) 0 (by rw [hFH]; rfl) hFD [] (by kernel_rfl) (by kernel_rfl) (by decide) (by kernel_rfl) (by kernel_rfl) (by kernel_rfl) (by kernel_rfl)) ?_
              exact PJ.cutN [2] (by kernel_rfl) (by kernel_rfl)
            · have h93 := condF hb91 h87
              refine RJ.seg 5 [2] (L2 := [(2, .bool false)]) (H2 := [.gone, vecL (encI .i32) 1 21 ([x0.A_] : List Int), .gone, .gone, vecL (encI .i32) 1 21 ([x0.B_] : List Int), .gone, .gone]) (by kernel_rfl) ?_
              refine RJ.end (by kernel_rfl) ?_
              obtain rfl := Option.some.inj h93
              refine PJ.wk (Wk.sel (L2 := [(2, .bool false)]) (H2 := []) 0 (by rw [hFH]; rfl) hFD [] (by kernel_rfl) (by kernel_rfl) (by decide) (by kernel_rfl) (by kernel_rfl) (by kernel_rfl) (by kernel_rfl)) ?_
              exact PJ.cutN [2] (by kernel_rfl) (by kernel_rfl)
      · have h78 := condF hb76 hy73
        refine RJ.seg 20 [2] (L2 := [(2, .bool false)]) (H2 := [.gone, vecL (encI .i32) 1 21 ([x0.A_] : List Int), .gone, .gone, vecL (encI .i32) 1 21 ([x0.B_] : List Int), .gone, .gone]) (by kernel_rfl) ?_
        refine RJ.end (by kernel_rfl) ?_
        obtain rfl := Option.some.inj h78
        refine PJ.wk (Wk.sel (L2 := [(2, .bool false)]) (H2 := []) 0 (by rw [hFH]; rfl) hFD [] (by kernel_rfl) (by kernel_rfl) (by decide) (by kernel_rfl) (by kernel_rfl) (by kernel_rfl) (by kernel_rfl)) ?_
        exact PJ.cutN [2] (by kernel_rfl) (by kernel_rfl)
    · refine K.ret (by kernel_rfl) ?_
      obtain rfl := Option.some.inj h75
      exact K.ret0 (.inr rfl) hFn hFH hFD (by kernel_rfl) (by kernel_rfl) (by kernel_rfl)

end Go.Proofs.Ytbgebincgfpanaa
