/-
  What the functions of this program come to, as functions of natives, each with the proof that it does. No conditions.
-/
import Derived.Test.YtdeaonfclkffnaaProg
import Derived.Test.YtdeaonfclkffnaaSyV
namespace Go.Proofs.Ytdeaonfclkffnaa
open Go Go.Sy Go.RowKit
set_option linter.unusedVariables false
set_option linter.unusedSimpArgs false
set_option maxRecDepth 100000

structure St24 where
  B_ : List Int
  N_ : Int
  Size_ : Int
  At_ : Int
  deriving Inhabited, DecidableEq
def encSt24 (x : St24) : List SV := [lsv (encI .u8) 1 x.B_, .int .u32 x.N_, .int .i64 x.Size_, .int .i64 x.At_]
theorem encSt24_len (x : St24) : (encSt24 x).length = 4 := rfl

def slices_Clone (x0 : List Int) : Option (List Int) :=
  (bif (Nat.beq x0.length 0) then agree (some ([] : List Int)) (bif room x0.length then (some x0) else none) else (bif room x0.length then (some x0) else none))
theorem slices_Clone_ok_o {x0 : List Int} {r : List Int} (h : slices_Clone x0 = some r) : SC Try.prog 29 [lsv (encI .u8) 1 x0] [] (.vc 0) [vecL (encI .u8) 1 5 r] := by
  refine K.fn (fn := Try.f29) (by kernel_rfl) (by kernel_rfl) (by kernel_rfl) (by kernel_rfl) (by kernel_rfl) (fun F hFn hFH hFD => ?_)
  unfold slices_Clone at h
  refine K.seq (by kernel_rfl) ?_
  refine K.region (by kernel_rfl) ?_
  refine RJ.seg 1 [0, 2] (L2 := [(0, lsv (encI .u8) 1 x0), (2, .nl)]) (H2 := []) (by kernel_rfl) ?_
  refine RJ.end (by kernel_rfl) ?_
  refine PJ.next ?_
  refine K.seq (by kernel_rfl) ?_
  refine K.seq (by kernel_rfl) ?_
  refine K.region (by kernel_rfl) ?_
  refine RJ.seg 1 [0, 2, 3] (L2 := [(0, lsv (encI .u8) 1 x0), (2, .nl), (3, lsv (encI .u8) 1 x0)]) (H2 := []) (by kernel_rfl) ?_
  refine RJ.isNil (d := 4) (n := x0.length) (eq := true) (by kernel_rfl) (fun b hb3 => ?_)
  cases b
  · have h2 := agreeF h
    refine RJ.end (by kernel_rfl) ?_
    refine PJ.next ?_
    refine K.condF (by kernel_rfl) ?_
    refine K.skip (by kernel_rfl) ?_
    refine PJ.next ?_
    refine K.seq (by kernel_rfl) ?_
    refine K.region (by kernel_rfl) ?_
    refine RJ.seg 2 [2, 5, 6] (L2 := [(2, .nl), (5, .nl), (6, lsv (encI .u8) 1 x0)]) (H2 := []) (by kernel_rfl) ?_
    obtain ⟨hm, h4⟩ := asrt h2
    refine RJ.rel (d := (some 7)) (ef := ⟨.vc 0, [], [(0, .vec x0.length 1 5 (x0.flatMap (encI .u8)))]⟩) (ef' := ⟨.vc 0, [], [(0, .vec x0.length 1 5 (x0.flatMap (encI .u8)))]⟩) (c := room x0.length) (tr2 := []) (H2 := [vecL (encI .u8) 1 5 x0]) (by kernel_rfl) hm (fun hc => rfl) (by kernel_rfl) ?_
    refine RJ.seg 1 [2] (L2 := [(2, .vc 0)]) (H2 := [vecL (encI .u8) 1 5 x0]) (by kernel_rfl) ?_
    refine RJ.end (by kernel_rfl) ?_
    refine PJ.next ?_
    refine K.ret (by kernel_rfl) ?_
    obtain rfl := Option.some.inj h4
    exact K.retV (H0 := []) [0] (.inr rfl) hFn hFH hFD (by kernel_rfl) (v1 := .vc 0) (by kernel_rfl) (by kernel_rfl) (by kernel_rfl) (by decide) (by kernel_rfl) (by kernel_rfl) (by kernel_rfl) (by kernel_rfl) (by kernel_rfl)
  · have h1 := agreeT (by rw [hb3 rfl]; rfl) h
    refine RJ.end (by kernel_rfl) ?_
    refine PJ.next ?_
    refine K.condT (by kernel_rfl) ?_
    refine K.seq (by kernel_rfl) ?_
    refine K.region (by kernel_rfl) ?_
    refine RJ.seg 1 [0, 2] (L2 := [(0, lsv (encI .u8) 1 x0), (2, .nl)]) (H2 := []) (by kernel_rfl) ?_
    refine RJ.end (by kernel_rfl) ?_
    refine PJ.next ?_
    refine K.ret (by kernel_rfl) ?_
    refine PJ.passRet ?_
    obtain rfl := Option.some.inj h1
    refine PJ.wk (Wk.viv 2 1 5 (by kernel_rfl)) ?_
    exact K.retV (H0 := []) [0] (.inr rfl) hFn hFH hFD (by kernel_rfl) (v1 := .vc 0) (by kernel_rfl) (by kernel_rfl) (by kernel_rfl) (by decide) (by kernel_rfl) (by kernel_rfl) (by kernel_rfl) (by kernel_rfl) (by kernel_rfl)

def pack_sized (x0 : Int) : Option (Bool) :=
  (Option.bind (bif (decide (x0 = 1)) then (some true) else (bif (decide (x0 = 2)) then (some true) else (some (decide (x0 = 4))))) fun (s7 : Bool) => (some s7))
theorem pack_sized_ok {x0 : Int} {r : Bool} (h : pack_sized x0 = some r) : SC Try.prog 30 [.int .i64 x0] [] (.bool r) [] := by
  refine K.fn (fn := Try.f30) (by kernel_rfl) (by kernel_rfl) (by kernel_rfl) (by kernel_rfl) (by kernel_rfl) (fun F hFn hFH hFD => ?_)
  unfold pack_sized at h
  refine K.seq (by kernel_rfl) ?_
  refine K.region (by kernel_rfl) ?_
  refine RJ.seg 1 [0, 2] (L2 := [(0, .int .i64 x0), (2, .bool false)]) (H2 := []) (by kernel_rfl) ?_
  refine RJ.end (by kernel_rfl) ?_
  refine PJ.next ?_
  obtain ⟨s7, hy9, h11⟩ := bindS h
  refine K.cutN (by kernel_rfl) (fun (s7 : Bool) => ([(2, .bool s7)], [])) s7 ?_ ?_
  · refine K.region (by kernel_rfl) ?_
    refine RJ.seg 3 [0, 2, 5] (L2 := [(0, .int .i64 x0), (2, .bool false), (5, .bool (decide (x0 = 1)))]) (H2 := []) (by kernel_rfl) ?_
    refine RJ.caseB 5 (b := (decide (x0 = 1))) (by kernel_rfl) (fun hb12 => ?_) (fun hb12 => ?_)
    · have h13 := condT hb12 hy9
      refine RJ.seg 8 [2] (L2 := [(2, .bool true)]) (H2 := []) (by kernel_rfl) ?_
      refine RJ.end (by kernel_rfl) ?_
      obtain rfl := Option.some.inj h13
      exact PJ.cutN [2] (by kernel_rfl) (by kernel_rfl)
    · have h14 := condF hb12 hy9
      refine RJ.seg 4 [0, 2, 9] (L2 := [(0, .int .i64 x0), (2, .bool false), (9, .bool (decide (x0 = 2)))]) (H2 := []) (by kernel_rfl) ?_
      refine RJ.caseB 9 (b := (decide (x0 = 2))) (by kernel_rfl) (fun hb15 => ?_) (fun hb15 => ?_)
      · have h16 := condT hb15 h14
        refine RJ.seg 4 [2] (L2 := [(2, .bool true)]) (H2 := []) (by kernel_rfl) ?_
        refine RJ.end (by kernel_rfl) ?_
        obtain rfl := Option.some.inj h16
        exact PJ.cutN [2] (by kernel_rfl) (by kernel_rfl)
      · have h17 := condF hb15 h14
        refine RJ.seg 4 [2] (L2 := [(2, .bool (decide (x0 = 4)))]) (H2 := []) (by kernel_rfl) ?_
        refine RJ.end (by kernel_rfl) ?_
        obtain rfl := Option.some.inj h17
        exact PJ.cutN [2] (by kernel_rfl) (by kernel_rfl)
  · refine K.ret (by kernel_rfl) ?_
    obtain rfl := Option.some.inj h11
    exact K.ret0 (.inr rfl) hFn hFH hFD (by kernel_rfl) (by kernel_rfl) (by kernel_rfl)

def pack_lay_1_s0 (x0 : Int) (x1 : Int) (x2 : List Int) (x3 : Int) : Option (Unit) :=
  (bif sh x1 then (bif room (x2.length + (([(IntKind.wrap .u8 ((Int.fdiv x3 (2 ^ (min (x1 : Int).toNat 32)))))] : List Int)).length) then (some ()) else none) else none)
theorem pack_lay_1_s0_ok {x0 : Int} {x1 : Int} {x2 : List Int} {x3 : Int} {r : Unit} (h : pack_lay_1_s0 x0 x1 x2 x3 = some r) : SC Try.prog 36 [.int .i64 x0, .int .i64 x1, .ptr 0 0, .ptr 2 0] [.box [.vc 1], vecL (encI .u8) 1 5 x2, .box [.int .u32 x3]] (.tup []) [.box [.vc 3], .gone, .box [.int .u32 x3], vecL (encI .u8) 1 5 ((x2 ++ (([(IntKind.wrap .u8 ((Int.fdiv x3 (2 ^ (min (x1 : Int).toNat 32)))))] : List Int))))] := by
  refine K.fn (fn := Try.f36) (by kernel_rfl) (by kernel_rfl) (by kernel_rfl) (by kernel_rfl) (by kernel_rfl) (fun F hFn hFH hFD => ?_)
  unfold pack_lay_1_s0 at h
  refine J.wk (Wk.move 1 (n := x2.length) (k := 1) (e := 5) (cs := x2.flatMap (encI .u8)) (by kernel_rfl)) ?_
  refine J.keep [1, 2, 3] (L2 := [(1, .int .i64 x1), (2, .ptr 0 0), (3, .ptr 2 0)]) (by kernel_rfl) ?_
  refine K.draw (by kernel_rfl) (by kernel_rfl) (by kernel_rfl) (H2 := [.box [.vc 3], .gone, .box [.int .u32 x3], vecL (encI .u8) 1 5 x2, .res, .res]) (by kernel_rfl) (n := 4) (by kernel_rfl) ?_
  refine RJ.segD 3 (tr2 := [([0, 1], []), ([4, 5], []), ([], [])]) (L2 := [(8, .int .i64 x1), (7, .int .u32 x3), (6, .vc 3), (1, .int .i64 x1), (2, .ptr 0 0), (3, .ptr 2 0)]) (H2 := [.box [.vc 3], .gone, .box [.int .u32 x3], vecL (encI .u8) 1 5 x2, .res, .res]) (by kernel_rfl) ?_
  obtain ⟨hm, h1⟩ := asrt h
  refine RJ.rel (d := (some 9)) (ef := ⟨.int .u32 (Int.fdiv x3 (2 ^ (min (x1 : Int).toNat 32))), [], []⟩) (ef' := ⟨.int .u32 (Int.fdiv x3 (2 ^ (min (x1 : Int).toNat 32))), [], []⟩) (c := sh x1) (tr2 := [([0, 1], []), ([4, 5], []), ([], []), ([], [])]) (H2 := [.box [.vc 3], .gone, .box [.int .u32 x3], vecL (encI .u8) 1 5 x2, .res, .res]) (by kernel_rfl) hm (fun hc => rfl) (by kernel_rfl) ?_
  refine RJ.segD 2 (tr2 := [([0, 1], []), ([4, 5], []), ([], []), ([], []), ([], []), ([], [8, 9, 8, 9])]) (L2 := [(11, .vc 4), (10, .int .u8 ((IntKind.wrap .u8 ((Int.fdiv x3 (2 ^ (min (x1 : Int).toNat 32))))))), (9, .int .u32 ((Int.fdiv x3 (2 ^ (min (x1 : Int).toNat 32))))), (8, .int .i64 x1), (7, .int .u32 x3), (6, .vc 3), (1, .int .i64 x1), (2, .ptr 0 0), (3, .ptr 2 0)]) (H2 := [.box [.vc 3], .gone, .box [.int .u32 x3], vecL (encI .u8) 1 5 x2, vecL (encI .u8) 1 5 (([(IntKind.wrap .u8 ((Int.fdiv x3 (2 ^ (min (x1 : Int).toNat 32)))))] : List Int)), .res]) (by kernel_rfl) ?_
  obtain ⟨hm, h2⟩ := asrt h1
  refine RJ.rel (d := (some 12)) (ef := ⟨.vc 5, [3, 4], [(3, .gone), (5, .vec (x2.length + (([(IntKind.wrap .u8 ((Int.fdiv x3 (2 ^ (min (x1 : Int).toNat 32)))))] : List Int)).length) 1 5 (x2.flatMap (encI .u8) ++ (([(IntKind.wrap .u8 ((Int.fdiv x3 (2 ^ (min (x1 : Int).toNat 32)))))] : List Int)).flatMap (encI .u8)))]⟩) (ef' := ⟨.vc 5, [3, 4], [(3, .gone), (5, vecL (encI .u8) 1 5 (x2 ++ (([(IntKind.wrap .u8 ((Int.fdiv x3 (2 ^ (min (x1 : Int).toNat 32)))))] : List Int))))]⟩) (c := room (x2.length + (([(IntKind.wrap .u8 ((Int.fdiv x3 (2 ^ (min (x1 : Int).toNat 32)))))] : List Int)).length)) (tr2 := [([0, 1], []), ([4, 5], []), ([], []), ([], []), ([], []), ([], [8, 9, 8, 9]), ([6, 7, 8, 9], [6, 7, 10, 11, 10, 11])]) (H2 := [.box [.vc 3], .gone, .box [.int .u32 x3], .gone, vecL (encI .u8) 1 5 (([(IntKind.wrap .u8 ((Int.fdiv x3 (2 ^ (min (x1 : Int).toNat 32)))))] : List Int)), vecL (encI .u8) 1 5 ((x2 ++ (([(IntKind.wrap .u8 ((Int.fdiv x3 (2 ^ (min (x1 : Int).toNat 32)))))] : List Int))))]) (by kernel_rfl) hm (fun hc => N.app) (by kernel_rfl) ?_
  refine RJ.segD 1 (tr2 := [([0, 1], []), ([4, 5], []), ([], []), ([], []), ([], []), ([], [8, 9, 8, 9]), ([6, 7, 8, 9], [6, 7, 10, 11, 10, 11]), ([0, 1], [0])]) (L2 := [(12, .vc 5), (11, .vc 4), (10, .int .u8 ((IntKind.wrap .u8 ((Int.fdiv x3 (2 ^ (min (x1 : Int).toNat 32))))))), (9, .int .u32 ((Int.fdiv x3 (2 ^ (min (x1 : Int).toNat 32))))), (8, .int .i64 x1), (7, .int .u32 x3), (6, .vc 3), (1, .int .i64 x1), (2, .ptr 0 0), (3, .ptr 2 0)]) (H2 := [.box [.vc 5], .gone, .box [.int .u32 x3], .gone, vecL (encI .u8) 1 5 (([(IntKind.wrap .u8 ((Int.fdiv x3 (2 ^ (min (x1 : Int).toNat 32)))))] : List Int)), vecL (encI .u8) 1 5 ((x2 ++ (([(IntKind.wrap .u8 ((Int.fdiv x3 (2 ^ (min (x1 : Int).toNat 32)))))] : List Int))))]) (by kernel_rfl) ?_
  refine RJ.end (by kernel_rfl) ?_
  obtain rfl := Option.some.inj h2
  exact K.retV (H0 := [.box [.vc 1], vecL (encI .u8) 1 5 x2, .box [.int .u32 x3]]) [0, 1, 2, 5] (.inl rfl) hFn hFH hFD (by kernel_rfl) (v1 := .tup []) (by kernel_rfl) (by kernel_rfl) (by kernel_rfl) (by decide) (by kernel_rfl) (by kernel_rfl) (by kernel_rfl) (by kernel_rfl) (by kernel_rfl)

def pack_each_s0 (x0 : Int) (x1 : List Int) (x2 : Int) : Option ((List Int)) :=
  (loopN (fun (s1 : Int × (List Int)) => (bif (decide (s1.1 < x0)) then (Option.bind (pack_lay_1_s0 s1.1 ((IntKind.wrap .i64 (8 * ((IntKind.wrap .i64 ((IntKind.wrap .i64 (x0 - 1)) - s1.1)))))) s1.2 x2) fun y23 => (some (.inl ((IntKind.wrap .i64 (s1.1 + 1)), (s1.2 ++ (([(IntKind.wrap .u8 ((Int.fdiv x2 (2 ^ (min (((IntKind.wrap .i64 (8 * ((IntKind.wrap .i64 ((IntKind.wrap .i64 (x0 - 1)) - s1.1)))))) : Int).toNat 32)))))] : List Int))))))) else (some (.inr s1.2)))) big (0, x1))
theorem pack_each_s0_ok {x0 : Int} {x1 : List Int} {x2 : Int} {r : (List Int)} (h : pack_each_s0 x0 x1 x2 = some r) : SC Try.prog 32 [.int .i64 x0, .fn (.func 36) [] [.ptr 0 0, .ptr 2 0]] [.box [.vc 1], vecL (encI .u8) 1 5 x1, .box [.int .u32 x2]] (.tup []) [.box [.vc 3], .gone, .box [.int .u32 x2], vecL (encI .u8) 1 5 r] := by
  refine K.fn (fn := Try.f32) (by kernel_rfl) (by kernel_rfl) (by kernel_rfl) (by kernel_rfl) (by kernel_rfl) (fun F hFn hFH hFD => ?_)
  unfold pack_each_s0 at h
  refine J.wk (Wk.move 1 (n := x1.length) (k := 1) (e := 5) (cs := x1.flatMap (encI .u8)) (by kernel_rfl)) ?_
  refine K.seq (by kernel_rfl) ?_
  refine K.region (by kernel_rfl) ?_
  refine RJ.seg 2 [0, 1, 5, 6] (L2 := [(0, .int .i64 x0), (1, .fn (.func 36) [] [.ptr 0 0, .ptr 2 0]), (5, .int .i64 x0), (6, .int .i64 0)]) (H2 := [.box [.vc 3], .gone, .box [.int .u32 x2], vecL (encI .u8) 1 5 x1]) (by kernel_rfl) ?_
  refine RJ.end (by kernel_rfl) ?_
  refine PJ.next ?_
  refine K.block 0 (by kernel_rfl) ?_
  refine K.loop (by kernel_rfl) (fun (s1 : Int × (List Int)) => ([(0, .int .i64 x0), (1, .fn (.func 36) [] [.ptr 0 0, .ptr 2 0]), (5, .int .i64 x0), (6, .int .i64 s1.1)], [.box [.vc 3], .gone, .box [.int .u32 x2], vecL (encI .u8) 1 5 s1.2])) h [0, 1, 5, 6] (by kernel_rfl) (by kernel_rfl) (fun s1 x19 hs18 => ?_)
  refine K.seq (by kernel_rfl) ?_
  refine K.region (by kernel_rfl) ?_
  refine RJ.seg 1 [0, 1, 5, 6, 7] (L2 := [(0, .int .i64 x0), (1, .fn (.func 36) [] [.ptr 0 0, .ptr 2 0]), (5, .int .i64 x0), (6, .int .i64 s1.1), (7, .bool (decide (s1.1 < x0)))]) (H2 := [.box [.vc 3], .gone, .box [.int .u32 x2], vecL (encI .u8) 1 5 s1.2]) (by kernel_rfl) ?_
  refine RJ.end (by kernel_rfl) ?_
  refine PJ.next ?_
  refine K.seq (by kernel_rfl) ?_
  refine J.caseB 7 (b := (decide (s1.1 < x0))) (by kernel_rfl) (fun hb20 => ?_) (fun hb20 => ?_)
  · have h21 := condT hb20 hs18
    refine K.condT (by kernel_rfl) ?_
    refine K.skip (by kernel_rfl) ?_
    refine PJ.next ?_
    refine K.seq (by kernel_rfl) ?_
    refine K.block 1 (by kernel_rfl) ?_
    refine K.seq (by kernel_rfl) ?_
    refine K.region (by kernel_rfl) ?_
    refine RJ.seg 2 [0, 1, 4, 5, 6] (L2 := [(0, .int .i64 x0), (1, .fn (.func 36) [] [.ptr 0 0, .ptr 2 0]), (4, .int .i64 s1.1), (5, .int .i64 x0), (6, .int .i64 s1.1)]) (H2 := [.box [.vc 3], .gone, .box [.int .u32 x2], vecL (encI .u8) 1 5 s1.2]) (by kernel_rfl) ?_
    refine RJ.end (by kernel_rfl) ?_
    refine PJ.next ?_
    refine K.region (by kernel_rfl) ?_
    refine RJ.seg 7 [0, 1, 5, 6, 9, 10, 15] (L2 := [(0, .int .i64 x0), (1, .fn (.func 36) [] [.ptr 0 0, .ptr 2 0]), (5, .int .i64 x0), (6, .int .i64 s1.1), (9, .fn (.func 36) [] [.ptr 0 0, .ptr 2 0]), (10, .int .i64 s1.1), (15, .int .i64 ((IntKind.wrap .i64 (8 * ((IntKind.wrap .i64 ((IntKind.wrap .i64 (x0 - 1)) - s1.1)))))))]) (H2 := [.box [.vc 3], .gone, .box [.int .u32 x2], vecL (encI .u8) 1 5 s1.2]) (by kernel_rfl) ?_
    obtain ⟨y23, hy24, h25⟩ := bindS h21
    refine RJ.callG (d := (some 16)) (f := 36) (args := [.int .i64 s1.1, .int .i64 ((IntKind.wrap .i64 (8 * ((IntKind.wrap .i64 ((IntKind.wrap .i64 (x0 - 1)) - s1.1)))))), .ptr 0 0, .ptr 2 0]) (args0 := [.int .i64 s1.1, .int .i64 ((IntKind.wrap .i64 (8 * ((IntKind.wrap .i64 ((IntKind.wrap .i64 (x0 - 1)) - s1.1)))))), .ptr 0 0, .ptr 2 0]) (v0 := .tup []) (v := .tup []) (tr2 := []) (H0 := [.box [.vc 1], vecL (encI .u8) 1 5 s1.2, .box [.int .u32 x2]]) (H0' := [.box [.vc 3], .gone, .box [.int .u32 x2], vecL (encI .u8) 1 5 ((s1.2 ++ (([(IntKind.wrap .u8 ((Int.fdiv x2 (2 ^ (min (((IntKind.wrap .i64 (8 * ((IntKind.wrap .i64 ((IntKind.wrap .i64 (x0 - 1)) - s1.1)))))) : Int).toNat 32)))))] : List Int))))]) (H2 := [.box [.vc 4], .gone, .box [.int .u32 x2], .gone, vecL (encI .u8) 1 5 ((s1.2 ++ (([(IntKind.wrap .u8 ((Int.fdiv x2 (2 ^ (min (((IntKind.wrap .i64 (8 * ((IntKind.wrap .i64 ((IntKind.wrap .i64 (x0 - 1)) - s1.1)))))) : Int).toNat 32)))))] : List Int))))]) [0, 3, 2] (by kernel_rfl) (by kernel_rfl) (by kernel_rfl) (by kernel_rfl) (by decide) (by kernel_rfl) (by kernel_rfl) (by kernel_rfl) (.cons (Le.refl _) (.cons (Le.refl _) (.cons (Le.refl _) (.cons (Le.refl _) .nil)))) (pack_lay_1_s0_ok hy24) (by kernel_rfl) (by kernel_rfl) (by kernel_rfl) ?_
    refine RJ.end (by kernel_rfl) ?_
    refine PJ.blockNormal ?_
    refine PJ.next ?_
    refine K.region (by kernel_rfl) ?_
    refine RJ.seg 2 [0, 1, 5, 6] (L2 := [(0, .int .i64 x0), (1, .fn (.func 36) [] [.ptr 0 0, .ptr 2 0]), (5, .int .i64 x0), (6, .int .i64 (IntKind.wrap .i64 (s1.1 + 1)))]) (H2 := [.box [.vc 4], .gone, .box [.int .u32 x2], .gone, vecL (encI .u8) 1 5 ((s1.2 ++ (([(IntKind.wrap .u8 ((Int.fdiv x2 (2 ^ (min (((IntKind.wrap .i64 (8 * ((IntKind.wrap .i64 ((IntKind.wrap .i64 (x0 - 1)) - s1.1)))))) : Int).toNat 32)))))] : List Int))))]) (by kernel_rfl) ?_
    refine RJ.end (by kernel_rfl) ?_
    obtain rfl := Option.some.inj h25
    refine PJ.wk (Wk.sel (L2 := [(0, .int .i64 x0), (1, .fn (.func 36) [] [.ptr 0 0, .ptr 2 0]), (5, .int .i64 x0), (6, .int .i64 (IntKind.wrap .i64 (s1.1 + 1)))]) (H2 := [.box [.vc 3], .gone, .box [.int .u32 x2], vecL (encI .u8) 1 5 ((s1.2 ++ (([(IntKind.wrap .u8 ((Int.fdiv x2 (2 ^ (min (((IntKind.wrap .i64 (8 * ((IntKind.wrap .i64 ((IntKind.wrap .i64 (x0 - 1)) - s1.1)))))) : Int).toNat 32)))))] : List Int))))]) 3 (by rw [hFH]; rfl) hFD [0, 1, 2, 4] (by kernel_rfl) (by kernel_rfl) (by decide) (by kernel_rfl) (by kernel_rfl) (by kernel_rfl) (by kernel_rfl)) ?_
    exact PJ.loopNext [0, 1, 5, 6] (by kernel_rfl) (by kernel_rfl)
  · have h22 := condF hb20 hs18
    refine K.condF (by kernel_rfl) ?_
    refine K.exit 0 (by kernel_rfl) ?_
    refine PJ.passExit ?_
    obtain rfl := Option.some.inj h22
    refine PJ.loopOut (fun e => nomatch e) (fun he27 => ?_)
    have h26 := congrArg some he27
    refine PJ.blockOut ?_
    obtain rfl := Option.some.inj h26
    exact K.retV (H0 := [.box [.vc 1], vecL (encI .u8) 1 5 x1, .box [.int .u32 x2]]) [0, 1, 2, 3] (.inl rfl) hFn hFH hFD (by kernel_rfl) (v1 := .tup []) (by kernel_rfl) (by kernel_rfl) (by kernel_rfl) (by decide) (by kernel_rfl) (by kernel_rfl) (by kernel_rfl) (by kernel_rfl) (by kernel_rfl)

def pack_lay (x0 : List Int) (x1 : Int) (x2 : Int) : Option (List Int) :=
  (Option.bind (pack_each_s0 x2 x0 x1) fun y1 => (some y1))
theorem pack_lay_ok_0o {x0 : List Int} {x1 : Int} {x2 : Int} {r : List Int} (h : pack_lay x0 x1 x2 = some r) : SC Try.prog 31 [.vc 0, .int .u32 x1, .int .i64 x2] [vecL (encI .u8) 1 5 x0] (.vc 1) [.gone, vecL (encI .u8) 1 5 r] := by
  refine K.fn (fn := Try.f31) (by kernel_rfl) (by kernel_rfl) (by kernel_rfl) (by kernel_rfl) (by kernel_rfl) (fun F hFn hFH hFD => ?_)
  unfold pack_lay at h
  refine K.seq (by kernel_rfl) ?_
  refine K.region (by kernel_rfl) ?_
  refine RJ.seg 3 [2, 3, 4, 6] (L2 := [(2, .int .i64 x2), (3, .ptr 1 0), (4, .ptr 2 0), (6, .nl)]) (H2 := [vecL (encI .u8) 1 5 x0, .box [.vc 0], .box [.int .u32 x1]]) (by kernel_rfl) ?_
  refine RJ.end (by kernel_rfl) ?_
  refine PJ.next ?_
  refine K.seq (by kernel_rfl) ?_
  refine K.region (by kernel_rfl) ?_
  refine RJ.seg 2 [3, 6, 7, 8] (L2 := [(3, .ptr 1 0), (6, .nl), (7, .int .i64 x2), (8, .fn (.func 36) [] [.ptr 1 0, .ptr 2 0])]) (H2 := [vecL (encI .u8) 1 5 x0, .box [.vc 0], .box [.int .u32 x1]]) (by kernel_rfl) ?_
  obtain ⟨y1, hy2, h3⟩ := bindS h
  refine RJ.callG (d := (some 9)) (f := 32) (args := [.int .i64 x2, .fn (.func 36) [] [.ptr 1 0, .ptr 2 0]]) (args0 := [.int .i64 x2, .fn (.func 36) [] [.ptr 0 0, .ptr 2 0]]) (v0 := .tup []) (v := .tup []) (tr2 := []) (H0 := [.box [.vc 1], vecL (encI .u8) 1 5 x0, .box [.int .u32 x1]]) (H0' := [.box [.vc 3], .gone, .box [.int .u32 x1], vecL (encI .u8) 1 5 y1]) (H2 := [.gone, .box [.vc 3], .box [.int .u32 x1], vecL (encI .u8) 1 5 y1]) [1, 0, 2] (by kernel_rfl) (by kernel_rfl) (by kernel_rfl) (by kernel_rfl) (by decide) (by kernel_rfl) (by kernel_rfl) (by kernel_rfl) (.cons (Le.refl _) (.cons (Le.refl _) .nil)) (pack_each_s0_ok hy2) (by kernel_rfl) (by kernel_rfl) (by kernel_rfl) ?_
  refine RJ.end (by kernel_rfl) ?_
  refine PJ.next ?_
  refine K.seq (by kernel_rfl) ?_
  refine K.region (by kernel_rfl) ?_
  refine RJ.seg 2 [6] (L2 := [(6, .vc 3)]) (H2 := [.gone, .box [.vc 3], .box [.int .u32 x1], vecL (encI .u8) 1 5 y1]) (by kernel_rfl) ?_
  refine RJ.end (by kernel_rfl) ?_
  refine PJ.next ?_
  refine K.ret (by kernel_rfl) ?_
  obtain rfl := Option.some.inj h3
  exact K.retV (H0 := [vecL (encI .u8) 1 5 x0]) [0, 3] (.inr rfl) hFn hFH hFD (by kernel_rfl) (v1 := .vc 3) (by kernel_rfl) (by kernel_rfl) (by kernel_rfl) (by decide) (by kernel_rfl) (by kernel_rfl) (by kernel_rfl) (by kernel_rfl) (by kernel_rfl)

def pack_Put (x0 : List Int) (x1 : Int) (x2 : Int) : Option ((List Int) × Int) :=
  (Option.bind (slices_Clone x0) fun y1 => (Option.bind (Option.bind (Option.bind (pack_sized x2) fun y44 => (bif (!y44) then (some true) else (bif sh (IntKind.wrap .i64 (8 * x2)) then (some ((decide (¬ ((Int.fdiv (IntKind.wrap .u64 x1) (2 ^ (min ((IntKind.wrap .i64 (8 * x2)) : Int).toNat 64)))) = 0)))) else none))) fun (s39 : Bool) => (bif s39 then (some (.inr (y1, 1))) else (some (.inl ())))) (joinX fun (s27 : Unit) => (Option.bind (pack_lay y1 x1 x2) fun y55 => (some (y55, 0))))))
theorem pack_Put_ok {x0 : List Int} {x1 : Int} {x2 : Int} {r : (List Int) × Int} (h : pack_Put x0 x1 x2 = some r) : SC Try.prog 11 [lsv (encI .u8) 1 x0, .int .u32 x1, .int .i64 x2] [] (.tup [lsv (encI .u8) 1 r.1, .int .i64 r.2]) [] := by
  refine K.fn (fn := Try.f11) (by kernel_rfl) (by kernel_rfl) (by kernel_rfl) (by kernel_rfl) (by kernel_rfl) (fun F hFn hFH hFD => ?_)
  unfold pack_Put at h
  refine K.seq (by kernel_rfl) ?_
  refine K.region (by kernel_rfl) ?_
  refine RJ.seg 2 [0, 1, 2, 6, 7] (L2 := [(0, lsv (encI .u8) 1 x0), (1, .int .u32 x1), (2, .int .i64 x2), (6, .nl), (7, .int .i64 0)]) (H2 := []) (by kernel_rfl) ?_
  refine RJ.end (by kernel_rfl) ?_
  refine PJ.next ?_
  refine K.seq (by kernel_rfl) ?_
  refine K.region (by kernel_rfl) ?_
  refine RJ.seg 1 [0, 1, 2, 6, 7, 8] (L2 := [(0, lsv (encI .u8) 1 x0), (1, .int .u32 x1), (2, .int .i64 x2), (6, .nl), (7, .int .i64 0), (8, lsv (encI .u8) 1 x0)]) (H2 := []) (by kernel_rfl) ?_
  obtain ⟨y1, hy2, h3⟩ := bindS h
  refine RJ.callG (d := (some 9)) (f := 29) (args := [lsv (encI .u8) 1 x0]) (args0 := [lsv (encI .u8) 1 x0]) (v0 := .vc 0) (v := .vc 0) (tr2 := []) (H0 := []) (H0' := [vecL (encI .u8) 1 5 y1]) (H2 := [vecL (encI .u8) 1 5 y1]) [] (by kernel_rfl) (by kernel_rfl) (by kernel_rfl) (by kernel_rfl) (by decide) (by kernel_rfl) (by kernel_rfl) (by kernel_rfl) (.cons (Le.refl _) .nil) (slices_Clone_ok_o hy2) (by kernel_rfl) (by kernel_rfl) (by kernel_rfl) ?_
  refine RJ.seg 1 [0, 1, 2, 6, 7] (L2 := [(0, .vc 0), (1, .int .u32 x1), (2, .int .i64 x2), (6, .nl), (7, .int .i64 0)]) (H2 := [vecL (encI .u8) 1 5 y1]) (by kernel_rfl) ?_
  refine RJ.end (by kernel_rfl) ?_
  refine PJ.next ?_
  obtain ⟨y28, hy29, h30⟩ := bindS h3
  refine K.cutX (by kernel_rfl) (fun (s27 : Unit) => ([(0, .vc 0), (1, .int .u32 x1), (2, .int .i64 x2), (6, .nl), (7, .int .i64 0)], [vecL (encI .u8) 1 5 y1])) y28 ?_ (fun s27 hs => ?_)
  · obtain ⟨s39, hy41, h43⟩ := bindS hy29
    refine K.cutN (by kernel_rfl) (fun (s39 : Bool) => ([(0, .vc 0), (1, .int .u32 x1), (2, .int .i64 x2), (6, .nl), (7, .int .i64 0), (20, .bool s39)], [vecL (encI .u8) 1 5 y1])) s39 ?_ ?_
    · refine K.region (by kernel_rfl) ?_
      refine RJ.seg 1 [0, 1, 2, 6, 7, 10] (L2 := [(0, .vc 0), (1, .int .u32 x1), (2, .int .i64 x2), (6, .nl), (7, .int .i64 0), (10, .int .i64 x2)]) (H2 := [vecL (encI .u8) 1 5 y1]) (by kernel_rfl) ?_
      obtain ⟨y44, hy45, h46⟩ := bindS hy41
      refine RJ.call0 (d := (some 11)) (f := 30) (args := [.int .i64 x2]) (v := .bool y44) (tr2 := []) (by kernel_rfl) (by kernel_rfl) (.cons (Le.refl _) .nil) (pack_sized_ok hy45) (by kernel_rfl) ?_
      refine RJ.seg 2 [0, 1, 2, 6, 7, 13] (L2 := [(0, .vc 0), (1, .int .u32 x1), (2, .int .i64 x2), (6, .nl), (7, .int .i64 0), (13, .bool (!y44))]) (H2 := [vecL (encI .u8) 1 5 y1]) (by kernel_rfl) ?_
      refine RJ.caseB 13 (b := (!y44)) (by kernel_rfl) (fun hb47 => ?_) (fun hb47 => ?_)
      · have h48 := condT hb47 h46
        refine RJ.seg 7 [0, 1, 2, 6, 7, 20] (L2 := [(0, .vc 0), (1, .int .u32 x1), (2, .int .i64 x2), (6, .nl), (7, .int .i64 0), (20, .bool true)]) (H2 := [vecL (encI .u8) 1 5 y1]) (by kernel_rfl) ?_
        refine RJ.end (by kernel_rfl) ?_
        obtain rfl := Option.some.inj h48
        exact PJ.cutN [0, 1, 2, 6, 7, 20] (by kernel_rfl) (by kernel_rfl)
      · have h49 := condF hb47 h46
        refine RJ.seg 4 [0, 1, 2, 6, 7, 13, 15, 17] (L2 := [(0, .vc 0), (1, .int .u32 x1), (2, .int .i64 x2), (6, .nl), (7, .int .i64 0), (13, .bool false), (15, .int .u64 (IntKind.wrap .u64 x1)), (17, .int .i64 (IntKind.wrap .i64 (8 * x2)))]) (H2 := [vecL (encI .u8) 1 5 y1]) (by kernel_rfl) ?_
        obtain ⟨hm, h50⟩ := asrt h49
        refine RJ.rel (d := (some 18)) (ef := ⟨.int .u64 (Int.fdiv (IntKind.wrap .u64 x1) (2 ^ (min ((IntKind.wrap .i64 (8 * x2)) : Int).toNat 64))), [], []⟩) (ef' := ⟨.int .u64 (Int.fdiv (IntKind.wrap .u64 x1) (2 ^ (min ((IntKind.wrap .i64 (8 * x2)) : Int).toNat 64))), [], []⟩) (c := sh (IntKind.wrap .i64 (8 * x2))) (tr2 := []) (H2 := [vecL (encI .u8) 1 5 y1]) (by kernel_rfl) hm (fun hc => rfl) (by kernel_rfl) ?_
        refine RJ.seg 2 [0, 1, 2, 6, 7, 20] (L2 := [(0, .vc 0), (1, .int .u32 x1), (2, .int .i64 x2), (6, .nl), (7, .int .i64 0), (20, .bool ((decide (¬ ((Int.fdiv (IntKind.wrap .u64 x1) (2 ^ (min ((IntKind.wrap .i64 (8 * x2)) : Int).toNat 64)))) = 0))))]) (H2 := [vecL (encI .u8) 1 5 y1]) (by kernel_rfl) ?_
        refine RJ.end (by kernel_rfl) ?_
        obtain rfl := Option.some.inj h50
        exact PJ.cutN [0, 1, 2, 6, 7, 20] (by kernel_rfl) (by kernel_rfl)
    · refine J.caseB 20 (b := s39) (by kernel_rfl) (fun hb51 => ?_) (fun hb51 => ?_)
      · have h52 := condT hb51 h43
        refine K.condT (by kernel_rfl) ?_
        refine K.seq (by kernel_rfl) ?_
        refine K.region (by kernel_rfl) ?_
        refine RJ.seg 3 [0, 1, 2, 6, 7] (L2 := [(0, .vc 0), (1, .int .u32 x1), (2, .int .i64 x2), (6, .vc 0), (7, .int .i64 1)]) (H2 := [vecL (encI .u8) 1 5 y1]) (by kernel_rfl) ?_
        refine RJ.end (by kernel_rfl) ?_
        refine PJ.next ?_
        refine K.ret (by kernel_rfl) ?_
        obtain rfl := Option.some.inj h52
        have h54 := joinX_inr h30
        refine PJ.cutXr (fun e => nomatch e) ?_
        obtain rfl := Option.some.inj h54
        refine PJ.wk (Wk.freeze 0 (n := y1.length) (k := 1) (e := 5) (cs := y1.flatMap (encI .u8)) (by kernel_rfl)) ?_
        exact K.ret0 (.inr rfl) hFn hFH hFD (by kernel_rfl) (by kernel_rfl) (by kernel_rfl)
      · have h53 := condF hb51 h43
        refine K.condF (by kernel_rfl) ?_
        refine K.skip (by kernel_rfl) ?_
        obtain rfl := Option.some.inj h53
        exact PJ.cutXl [0, 1, 2, 6, 7] (by kernel_rfl) (by kernel_rfl)
  · subst hs
    have h31 := joinX_inl h30
    refine K.seq (by kernel_rfl) ?_
    refine K.region (by kernel_rfl) ?_
    refine RJ.seg 3 [6, 7, 22, 23, 24] (L2 := [(6, .nl), (7, .int .i64 0), (22, .vc 0), (23, .int .u32 x1), (24, .int .i64 x2)]) (H2 := [vecL (encI .u8) 1 5 y1]) (by kernel_rfl) ?_
    obtain ⟨y55, hy56, h57⟩ := bindS h31
    refine RJ.callG (d := (some 25)) (f := 31) (args := [.vc 0, .int .u32 x1, .int .i64 x2]) (args0 := [.vc 0, .int .u32 x1, .int .i64 x2]) (v0 := .vc 1) (v := .vc 1) (tr2 := []) (H0 := [vecL (encI .u8) 1 5 y1]) (H0' := [.gone, vecL (encI .u8) 1 5 y55]) (H2 := [.gone, vecL (encI .u8) 1 5 y55]) [0] (by kernel_rfl) (by kernel_rfl) (by kernel_rfl) (by kernel_rfl) (by decide) (by kernel_rfl) (by kernel_rfl) (by kernel_rfl) (.cons (Le.refl _) (.cons (Le.refl _) (.cons (Le.refl _) .nil))) (pack_lay_ok_0o hy56) (by kernel_rfl) (by kernel_rfl) (by kernel_rfl) ?_
    refine RJ.seg 2 [6, 7] (L2 := [(6, .vc 1), (7, .int .i64 0)]) (H2 := [.gone, vecL (encI .u8) 1 5 y55]) (by kernel_rfl) ?_
    refine RJ.end (by kernel_rfl) ?_
    refine PJ.next ?_
    refine K.ret (by kernel_rfl) ?_
    obtain rfl := Option.some.inj h57
    refine PJ.wk (Wk.freeze 1 (n := y55.length) (k := 1) (e := 5) (cs := y55.flatMap (encI .u8)) (by kernel_rfl)) ?_
    exact K.ret0 (.inr rfl) hFn hFH hFD (by kernel_rfl) (by kernel_rfl) (by kernel_rfl)

def pack_Take_1_s0 (x0 : Int) (x1 : Int) (x2 : Int) (x3 : List Int) (x4 : Int) : Option (Unit) :=
  (bif inR (IntKind.wrap .i64 (x4 + x0)) x3.length then (bif sh x1 then (some ()) else none) else none)
theorem pack_Take_1_s0_ok {x0 : Int} {x1 : Int} {x2 : Int} {x3 : List Int} {x4 : Int} {r : Unit} (h : pack_Take_1_s0 x0 x1 x2 x3 x4 = some r) : SC Try.prog 33 [.int .i64 x0, .int .i64 x1, .ptr 0 0, .ptr 1 0, .ptr 2 0] [.box [.int .u32 x2], .box [lsv (encI .u8) 1 x3], .box [.int .i64 x4]] (.tup []) [.box [.int .u32 ((bits .or .u32 x2 ((IntKind.wrap .u32 (((IntKind.wrap .u32 ((nth x3 (IntKind.wrap .i64 (x4 + x0)))))) * (2 ^ (min (x1 : Int).toNat 32)))))))], .box [lsv (encI .u8) 1 x3], .box [.int .i64 x4]] := by
  refine K.fn (fn := Try.f33) (by kernel_rfl) (by kernel_rfl) (by kernel_rfl) (by kernel_rfl) (by kernel_rfl) (fun F hFn hFH hFD => ?_)
  unfold pack_Take_1_s0 at h
  refine J.keep [0, 1, 2, 3, 4] (L2 := [(0, .int .i64 x0), (1, .int .i64 x1), (2, .ptr 0 0), (3, .ptr 1 0), (4, .ptr 2 0)]) (by kernel_rfl) ?_
  refine K.draw (by kernel_rfl) (by kernel_rfl) (by kernel_rfl) (H2 := [.box [.int .u32 x2], .box [lsv (encI .u8) 1 x3], .box [.int .i64 x4]]) (by kernel_rfl) (n := 3) (by kernel_rfl) ?_
  refine RJ.segD 5 (tr2 := [([0, 1], []), ([2, 3], []), ([4, 5], []), ([], []), ([], [])]) (L2 := [(11, .int .i64 (IntKind.wrap .i64 (x4 + x0))), (10, .int .i64 x0), (9, .int .i64 x4), (8, lsv (encI .u8) 1 x3), (7, .int .u32 x2), (0, .int .i64 x0), (1, .int .i64 x1), (2, .ptr 0 0), (3, .ptr 1 0), (4, .ptr 2 0)]) (H2 := [.box [.int .u32 x2], .box [lsv (encI .u8) 1 x3], .box [.int .i64 x4]]) (by kernel_rfl) ?_
  obtain ⟨hm, h1⟩ := asrt h
  refine RJ.rel (d := (some 12)) (ef := ⟨.ep (((x3.flatMap (encI .u8)).drop (((IntKind.wrap .i64 (x4 + x0)) : Int).toNat * 1)).take 1), [], []⟩) (ef' := ⟨.ep ((encI .u8) (nth x3 (IntKind.wrap .i64 (x4 + x0)))), [], []⟩) (c := inR (IntKind.wrap .i64 (x4 + x0)) x3.length) (tr2 := [([0, 1], []), ([2, 3], []), ([4, 5], []), ([], []), ([], []), ([], [])]) (H2 := [.box [.int .u32 x2], .box [lsv (encI .u8) 1 x3], .box [.int .i64 x4]]) (by kernel_rfl) hm (fun hc => N.idx (encI_len .u8) hc) (by kernel_rfl) ?_
  refine RJ.segD 3 (tr2 := [([0, 1], []), ([2, 3], []), ([4, 5], []), ([], []), ([], []), ([], []), ([], []), ([], []), ([], [])]) (L2 := [(15, .int .i64 x1), (14, .int .u32 ((IntKind.wrap .u32 ((nth x3 (IntKind.wrap .i64 (x4 + x0))))))), (13, .int .u8 ((nth x3 (IntKind.wrap .i64 (x4 + x0))))), (12, .ep [.int .u8 ((nth x3 (IntKind.wrap .i64 (x4 + x0))))]), (11, .int .i64 (IntKind.wrap .i64 (x4 + x0))), (10, .int .i64 x0), (9, .int .i64 x4), (8, lsv (encI .u8) 1 x3), (7, .int .u32 x2), (0, .int .i64 x0), (1, .int .i64 x1), (2, .ptr 0 0), (3, .ptr 1 0), (4, .ptr 2 0)]) (H2 := [.box [.int .u32 x2], .box [lsv (encI .u8) 1 x3], .box [.int .i64 x4]]) (by kernel_rfl) ?_
  obtain ⟨hm, h2⟩ := asrt h1
  refine RJ.rel (d := (some 16)) (ef := ⟨.int .u32 (IntKind.wrap .u32 (((IntKind.wrap .u32 ((nth x3 (IntKind.wrap .i64 (x4 + x0)))))) * (2 ^ (min (x1 : Int).toNat 32)))), [], []⟩) (ef' := ⟨.int .u32 (IntKind.wrap .u32 (((IntKind.wrap .u32 ((nth x3 (IntKind.wrap .i64 (x4 + x0)))))) * (2 ^ (min (x1 : Int).toNat 32)))), [], []⟩) (c := sh x1) (tr2 := [([0, 1], []), ([2, 3], []), ([4, 5], []), ([], []), ([], []), ([], []), ([], []), ([], []), ([], []), ([], [])]) (H2 := [.box [.int .u32 x2], .box [lsv (encI .u8) 1 x3], .box [.int .i64 x4]]) (by kernel_rfl) hm (fun hc => rfl) (by kernel_rfl) ?_
  refine RJ.segD 2 (tr2 := [([0, 1], []), ([2, 3], []), ([4, 5], []), ([], []), ([], []), ([], []), ([], []), ([], []), ([], []), ([], []), ([], []), ([0, 1], [0])]) (L2 := [(17, .int .u32 ((bits .or .u32 x2 ((IntKind.wrap .u32 (((IntKind.wrap .u32 ((nth x3 (IntKind.wrap .i64 (x4 + x0)))))) * (2 ^ (min (x1 : Int).toNat 32)))))))), (16, .int .u32 ((IntKind.wrap .u32 (((IntKind.wrap .u32 ((nth x3 (IntKind.wrap .i64 (x4 + x0)))))) * (2 ^ (min (x1 : Int).toNat 32)))))), (15, .int .i64 x1), (14, .int .u32 ((IntKind.wrap .u32 ((nth x3 (IntKind.wrap .i64 (x4 + x0))))))), (13, .int .u8 ((nth x3 (IntKind.wrap .i64 (x4 + x0))))), (12, .ep [.int .u8 ((nth x3 (IntKind.wrap .i64 (x4 + x0))))]), (11, .int .i64 (IntKind.wrap .i64 (x4 + x0))), (10, .int .i64 x0), (9, .int .i64 x4), (8, lsv (encI .u8) 1 x3), (7, .int .u32 x2), (0, .int .i64 x0), (1, .int .i64 x1), (2, .ptr 0 0), (3, .ptr 1 0), (4, .ptr 2 0)]) (H2 := [.box [.int .u32 ((bits .or .u32 x2 ((IntKind.wrap .u32 (((IntKind.wrap .u32 ((nth x3 (IntKind.wrap .i64 (x4 + x0)))))) * (2 ^ (min (x1 : Int).toNat 32)))))))], .box [lsv (encI .u8) 1 x3], .box [.int .i64 x4]]) (by kernel_rfl) ?_
  refine RJ.end (by kernel_rfl) ?_
  obtain rfl := Option.some.inj h2
  exact K.retV (H0 := [.box [.int .u32 x2], .box [lsv (encI .u8) 1 x3], .box [.int .i64 x4]]) [0, 1, 2] (.inl rfl) hFn hFH hFD (by kernel_rfl) (v1 := .tup []) (by kernel_rfl) (by kernel_rfl) (by kernel_rfl) (by decide) (by kernel_rfl) (by kernel_rfl) (by kernel_rfl) (by kernel_rfl) (by kernel_rfl)

def pack_each_s1 (x0 : Int) (x1 : Int) (x2 : List Int) (x3 : Int) : Option (Int) :=
  (loopN (fun (s1 : Int × Int) => (bif (decide (s1.1 < x0)) then (Option.bind (pack_Take_1_s0 s1.1 ((IntKind.wrap .i64 (8 * ((IntKind.wrap .i64 ((IntKind.wrap .i64 (x0 - 1)) - s1.1)))))) s1.2 x2 x3) fun y23 => (some (.inl ((IntKind.wrap .i64 (s1.1 + 1)), (bits .or .u32 s1.2 ((IntKind.wrap .u32 (((IntKind.wrap .u32 ((nth x2 (IntKind.wrap .i64 (x3 + s1.1)))))) * (2 ^ (min (((IntKind.wrap .i64 (8 * ((IntKind.wrap .i64 ((IntKind.wrap .i64 (x0 - 1)) - s1.1)))))) : Int).toNat 32)))))))))) else (some (.inr s1.2)))) big (0, x1))
theorem pack_each_s1_ok {x0 : Int} {x1 : Int} {x2 : List Int} {x3 : Int} {r : Int} (h : pack_each_s1 x0 x1 x2 x3 = some r) : SC Try.prog 32 [.int .i64 x0, .fn (.func 33) [] [.ptr 0 0, .ptr 1 0, .ptr 2 0]] [.box [.int .u32 x1], .box [lsv (encI .u8) 1 x2], .box [.int .i64 x3]] (.tup []) [.box [.int .u32 r], .box [lsv (encI .u8) 1 x2], .box [.int .i64 x3]] := by
  refine K.fn (fn := Try.f32) (by kernel_rfl) (by kernel_rfl) (by kernel_rfl) (by kernel_rfl) (by kernel_rfl) (fun F hFn hFH hFD => ?_)
  unfold pack_each_s1 at h
  refine K.seq (by kernel_rfl) ?_
  refine K.region (by kernel_rfl) ?_
  refine RJ.seg 2 [0, 1, 5, 6] (L2 := [(0, .int .i64 x0), (1, .fn (.func 33) [] [.ptr 0 0, .ptr 1 0, .ptr 2 0]), (5, .int .i64 x0), (6, .int .i64 0)]) (H2 := [.box [.int .u32 x1], .box [lsv (encI .u8) 1 x2], .box [.int .i64 x3]]) (by kernel_rfl) ?_
  refine RJ.end (by kernel_rfl) ?_
  refine PJ.next ?_
  refine K.block 0 (by kernel_rfl) ?_
  refine K.loop (by kernel_rfl) (fun (s1 : Int × Int) => ([(0, .int .i64 x0), (1, .fn (.func 33) [] [.ptr 0 0, .ptr 1 0, .ptr 2 0]), (5, .int .i64 x0), (6, .int .i64 s1.1)], [.box [.int .u32 s1.2], .box [lsv (encI .u8) 1 x2], .box [.int .i64 x3]])) h [0, 1, 5, 6] (by kernel_rfl) (by kernel_rfl) (fun s1 x19 hs18 => ?_)
  refine K.seq (by kernel_rfl) ?_
  refine K.region (by kernel_rfl) ?_
  refine RJ.seg 1 [0, 1, 5, 6, 7] (L2 := [(0, .int .i64 x0), (1, .fn (.func 33) [] [.ptr 0 0, .ptr 1 0, .ptr 2 0]), (5, .int .i64 x0), (6, .int .i64 s1.1), (7, .bool (decide (s1.1 < x0)))]) (H2 := [.box [.int .u32 s1.2], .box [lsv (encI .u8) 1 x2], .box [.int .i64 x3]]) (by kernel_rfl) ?_
  refine RJ.end (by kernel_rfl) ?_
  refine PJ.next ?_
  refine K.seq (by kernel_rfl) ?_
  refine J.caseB 7 (b := (decide (s1.1 < x0))) (by kernel_rfl) (fun hb20 => ?_) (fun hb20 => ?_)
  · have h21 := condT hb20 hs18
    refine K.condT (by kernel_rfl) ?_
    refine K.skip (by kernel_rfl) ?_
    refine PJ.next ?_
    refine K.seq (by kernel_rfl) ?_
    refine K.block 1 (by kernel_rfl) ?_
    refine K.seq (by kernel_rfl) ?_
    refine K.region (by kernel_rfl) ?_
    refine RJ.seg 2 [0, 1, 4, 5, 6] (L2 := [(0, .int .i64 x0), (1, .fn (.func 33) [] [.ptr 0 0, .ptr 1 0, .ptr 2 0]), (4, .int .i64 s1.1), (5, .int .i64 x0), (6, .int .i64 s1.1)]) (H2 := [.box [.int .u32 s1.2], .box [lsv (encI .u8) 1 x2], .box [.int .i64 x3]]) (by kernel_rfl) ?_
    refine RJ.end (by kernel_rfl) ?_
    refine PJ.next ?_
    refine K.region (by kernel_rfl) ?_
    refine RJ.seg 7 [0, 1, 5, 6, 9, 10, 15] (L2 := [(0, .int .i64 x0), (1, .fn (.func 33) [] [.ptr 0 0, .ptr 1 0, .ptr 2 0]), (5, .int .i64 x0), (6, .int .i64 s1.1), (9, .fn (.func 33) [] [.ptr 0 0, .ptr 1 0, .ptr 2 0]), (10, .int .i64 s1.1), (15, .int .i64 ((IntKind.wrap .i64 (8 * ((IntKind.wrap .i64 ((IntKind.wrap .i64 (x0 - 1)) - s1.1)))))))]) (H2 := [.box [.int .u32 s1.2], .box [lsv (encI .u8) 1 x2], .box [.int .i64 x3]]) (by kernel_rfl) ?_
    obtain ⟨y23, hy24, h25⟩ := bindS h21
    refine RJ.callG (d := (some 16)) (f := 33) (args := [.int .i64 s1.1, .int .i64 ((IntKind.wrap .i64 (8 * ((IntKind.wrap .i64 ((IntKind.wrap .i64 (x0 - 1)) - s1.1)))))), .ptr 0 0, .ptr 1 0, .ptr 2 0]) (args0 := [.int .i64 s1.1, .int .i64 ((IntKind.wrap .i64 (8 * ((IntKind.wrap .i64 ((IntKind.wrap .i64 (x0 - 1)) - s1.1)))))), .ptr 0 0, .ptr 1 0, .ptr 2 0]) (v0 := .tup []) (v := .tup []) (tr2 := []) (H0 := [.box [.int .u32 s1.2], .box [lsv (encI .u8) 1 x2], .box [.int .i64 x3]]) (H0' := [.box [.int .u32 ((bits .or .u32 s1.2 ((IntKind.wrap .u32 (((IntKind.wrap .u32 ((nth x2 (IntKind.wrap .i64 (x3 + s1.1)))))) * (2 ^ (min (((IntKind.wrap .i64 (8 * ((IntKind.wrap .i64 ((IntKind.wrap .i64 (x0 - 1)) - s1.1)))))) : Int).toNat 32)))))))], .box [lsv (encI .u8) 1 x2], .box [.int .i64 x3]]) (H2 := [.box [.int .u32 ((bits .or .u32 s1.2 ((IntKind.wrap .u32 (((IntKind.wrap .u32 ((nth x2 (IntKind.wrap .i64 (x3 + s1.1)))))) * (2 ^ (min (((IntKind.wrap .i64 (8 * ((IntKind.wrap .i64 ((IntKind.wrap .i64 (x0 - 1)) - s1.1)))))) : Int).toNat 32)))))))], .box [lsv (encI .u8) 1 x2], .box [.int .i64 x3]]) [0, 1, 2] (by kernel_rfl) (by kernel_rfl) (by kernel_rfl) (by kernel_rfl) (by decide) (by kernel_rfl) (by kernel_rfl) (by kernel_rfl) (.cons (Le.refl _) (.cons (Le.refl _) (.cons (Le.refl _) (.cons (Le.refl _) (.cons (Le.refl _) .nil))))) (pack_Take_1_s0_ok hy24) (by kernel_rfl) (by kernel_rfl) (by kernel_rfl) ?_
    refine RJ.end (by kernel_rfl) ?_
    refine PJ.blockNormal ?_
    refine PJ.next ?_
    refine K.region (by kernel_rfl) ?_
    refine RJ.seg 2 [0, 1, 5, 6] (L2 := [(0, .int .i64 x0), (1, .fn (.func 33) [] [.ptr 0 0, .ptr 1 0, .ptr 2 0]), (5, .int .i64 x0), (6, .int .i64 (IntKind.wrap .i64 (s1.1 + 1)))]) (H2 := [.box [.int .u32 ((bits .or .u32 s1.2 ((IntKind.wrap .u32 (((IntKind.wrap .u32 ((nth x2 (IntKind.wrap .i64 (x3 + s1.1)))))) * (2 ^ (min (((IntKind.wrap .i64 (8 * ((IntKind.wrap .i64 ((IntKind.wrap .i64 (x0 - 1)) - s1.1)))))) : Int).toNat 32)))))))], .box [lsv (encI .u8) 1 x2], .box [.int .i64 x3]]) (by kernel_rfl) ?_
    refine RJ.end (by kernel_rfl) ?_
    obtain rfl := Option.some.inj h25
    exact PJ.loopNext [0, 1, 5, 6] (by kernel_rfl) (by kernel_rfl)
  · have h22 := condF hb20 hs18
    refine K.condF (by kernel_rfl) ?_
    refine K.exit 0 (by kernel_rfl) ?_
    refine PJ.passExit ?_
    obtain rfl := Option.some.inj h22
    refine PJ.loopOut (fun e => nomatch e) (fun he27 => ?_)
    have h26 := congrArg some he27
    refine PJ.blockOut ?_
    obtain rfl := Option.some.inj h26
    exact K.retV (H0 := [.box [.int .u32 x1], .box [lsv (encI .u8) 1 x2], .box [.int .i64 x3]]) [0, 1, 2] (.inl rfl) hFn hFH hFD (by kernel_rfl) (v1 := .tup []) (by kernel_rfl) (by kernel_rfl) (by kernel_rfl) (by decide) (by kernel_rfl) (by kernel_rfl) (by kernel_rfl) (by kernel_rfl) (by kernel_rfl)

def pack_Take (x0 : List Int) (x1 : Int) (x2 : Int) : Option (Int × Int × Int) :=
  (Option.bind (Option.bind (Option.bind (pack_sized x2) fun y38 => (bif (!y38) then (some true) else (some (decide (x1 < 0))))) fun (s33 : Bool) => (bif s33 then (some (.inr (0, 0, 1))) else (some (.inl ())))) (joinX fun (s22 : Unit) => (bif (decide (x1 > ((IntKind.wrap .i64 ((x0.length : Int) - x2))))) then (some (0, 0, 2)) else (Option.bind (pack_each_s1 x2 0 x0 x1) fun y51 => (some (y51, (IntKind.wrap .i64 (x1 + x2)), 0))))))
theorem pack_Take_ok {x0 : List Int} {x1 : Int} {x2 : Int} {r : Int × Int × Int} (h : pack_Take x0 x1 x2 = some r) : SC Try.prog 13 [lsv (encI .u8) 1 x0, .int .i64 x1, .int .i64 x2] [] (.tup [.int .u32 r.1, .int .i64 r.2.1, .int .i64 r.2.2]) [] := by
  refine K.fn (fn := Try.f13) (by kernel_rfl) (by kernel_rfl) (by kernel_rfl) (by kernel_rfl) (by kernel_rfl) (fun F hFn hFH hFD => ?_)
  unfold pack_Take at h
  refine K.seq (by kernel_rfl) ?_
  refine K.region (by kernel_rfl) ?_
  refine RJ.seg 5 [2, 3, 4, 6, 7, 8] (L2 := [(2, .int .i64 x2), (3, .ptr 0 0), (4, .ptr 1 0), (6, .int .u32 0), (7, .int .i64 0), (8, .int .i64 0)]) (H2 := [.box [lsv (encI .u8) 1 x0], .box [.int .i64 x1]]) (by kernel_rfl) ?_
  refine RJ.end (by kernel_rfl) ?_
  refine PJ.next ?_
  obtain ⟨y23, hy24, h25⟩ := bindS h
  refine K.cutX (by kernel_rfl) (fun (s22 : Unit) => ([(2, .int .i64 x2), (3, .ptr 0 0), (4, .ptr 1 0), (6, .int .u32 0), (7, .int .i64 0), (8, .int .i64 0)], [.box [lsv (encI .u8) 1 x0], .box [.int .i64 x1]])) y23 ?_ (fun s22 hs => ?_)
  · obtain ⟨s33, hy35, h37⟩ := bindS hy24
    refine K.cutN (by kernel_rfl) (fun (s33 : Bool) => ([(2, .int .i64 x2), (3, .ptr 0 0), (4, .ptr 1 0), (6, .int .u32 0), (7, .int .i64 0), (8, .int .i64 0), (16, .bool s33)], [.box [lsv (encI .u8) 1 x0], .box [.int .i64 x1]])) s33 ?_ ?_
    · refine K.region (by kernel_rfl) ?_
      refine RJ.seg 1 [2, 3, 4, 6, 7, 8, 10] (L2 := [(2, .int .i64 x2), (3, .ptr 0 0), (4, .ptr 1 0), (6, .int .u32 0), (7, .int .i64 0), (8, .int .i64 0), (10, .int .i64 x2)]) (H2 := [.box [lsv (encI .u8) 1 x0], .box [.int .i64 x1]]) (by kernel_rfl) ?_
      obtain ⟨y38, hy39, h40⟩ := bindS hy35
      refine RJ.call0 (d := (some 11)) (f := 30) (args := [.int .i64 x2]) (v := .bool y38) (tr2 := []) (by kernel_rfl) (by kernel_rfl) (.cons (Le.refl _) .nil) (pack_sized_ok hy39) (by kernel_rfl) ?_
      refine RJ.seg 2 [2, 3, 4, 6, 7, 8, 13] (L2 := [(2, .int .i64 x2), (3, .ptr 0 0), (4, .ptr 1 0), (6, .int .u32 0), (7, .int .i64 0), (8, .int .i64 0), (13, .bool (!y38))]) (H2 := [.box [lsv (encI .u8) 1 x0], .box [.int .i64 x1]]) (by kernel_rfl) ?_
      refine RJ.caseB 13 (b := (!y38)) (by kernel_rfl) (fun hb41 => ?_) (fun hb41 => ?_)
      · have h42 := condT hb41 h40
        refine RJ.seg 3 [2, 3, 4, 6, 7, 8, 16] (L2 := [(2, .int .i64 x2), (3, .ptr 0 0), (4, .ptr 1 0), (6, .int .u32 0), (7, .int .i64 0), (8, .int .i64 0), (16, .bool true)]) (H2 := [.box [lsv (encI .u8) 1 x0], .box [.int .i64 x1]]) (by kernel_rfl) ?_
        refine RJ.end (by kernel_rfl) ?_
        obtain rfl := Option.some.inj h42
        exact PJ.cutN [2, 3, 4, 6, 7, 8, 16] (by kernel_rfl) (by kernel_rfl)
      · have h43 := condF hb41 h40
        refine RJ.seg 3 [2, 3, 4, 6, 7, 8, 16] (L2 := [(2, .int .i64 x2), (3, .ptr 0 0), (4, .ptr 1 0), (6, .int .u32 0), (7, .int .i64 0), (8, .int .i64 0), (16, .bool (decide (x1 < 0)))]) (H2 := [.box [lsv (encI .u8) 1 x0], .box [.int .i64 x1]]) (by kernel_rfl) ?_
        refine RJ.end (by kernel_rfl) ?_
        obtain rfl := Option.some.inj h43
        exact PJ.cutN [2, 3, 4, 6, 7, 8, 16] (by kernel_rfl) (by kernel_rfl)
    · refine J.caseB 16 (b := s33) (by kernel_rfl) (fun hb44 => ?_) (fun hb44 => ?_)
      · have h45 := condT hb44 h37
        refine K.condT (by kernel_rfl) ?_
        refine K.seq (by kernel_rfl) ?_
        refine K.region (by kernel_rfl) ?_
        refine RJ.seg 3 [2, 3, 4, 6, 7, 8] (L2 := [(2, .int .i64 x2), (3, .ptr 0 0), (4, .ptr 1 0), (6, .int .u32 0), (7, .int .i64 0), (8, .int .i64 1)]) (H2 := [.box [lsv (encI .u8) 1 x0], .box [.int .i64 x1]]) (by kernel_rfl) ?_
        refine RJ.end (by kernel_rfl) ?_
        refine PJ.next ?_
        refine K.ret (by kernel_rfl) ?_
        obtain rfl := Option.some.inj h45
        have h47 := joinX_inr h25
        refine PJ.cutXr (fun e => nomatch e) ?_
        obtain rfl := Option.some.inj h47
        exact K.ret0 (.inr rfl) hFn hFH hFD (by kernel_rfl) (by kernel_rfl) (by kernel_rfl)
      · have h46 := condF hb44 h37
        refine K.condF (by kernel_rfl) ?_
        refine K.skip (by kernel_rfl) ?_
        obtain rfl := Option.some.inj h46
        exact PJ.cutXl [2, 3, 4, 6, 7, 8] (by kernel_rfl) (by kernel_rfl)
  · subst hs
    have h26 := joinX_inl h25
    refine K.seq (by kernel_rfl) ?_
    refine K.seq (by kernel_rfl) ?_
    refine K.region (by kernel_rfl) ?_
    refine RJ.seg 6 [2, 3, 4, 6, 7, 8, 22] (L2 := [(2, .int .i64 x2), (3, .ptr 0 0), (4, .ptr 1 0), (6, .int .u32 0), (7, .int .i64 0), (8, .int .i64 0), (22, .bool ((decide (x1 > ((IntKind.wrap .i64 ((x0.length : Int) - x2)))))))]) (H2 := [.box [lsv (encI .u8) 1 x0], .box [.int .i64 x1]]) (by kernel_rfl) ?_
    refine RJ.end (by kernel_rfl) ?_
    refine PJ.next ?_
    refine J.caseB 22 (b := (decide (x1 > ((IntKind.wrap .i64 ((x0.length : Int) - x2)))))) (by kernel_rfl) (fun hb48 => ?_) (fun hb48 => ?_)
    · have h49 := condT hb48 h26
      refine K.condT (by kernel_rfl) ?_
      refine K.seq (by kernel_rfl) ?_
      refine K.region (by kernel_rfl) ?_
      refine RJ.seg 3 [2, 3, 4, 6, 7, 8] (L2 := [(2, .int .i64 x2), (3, .ptr 0 0), (4, .ptr 1 0), (6, .int .u32 0), (7, .int .i64 0), (8, .int .i64 2)]) (H2 := [.box [lsv (encI .u8) 1 x0], .box [.int .i64 x1]]) (by kernel_rfl) ?_
      refine RJ.end (by kernel_rfl) ?_
      refine PJ.next ?_
      refine K.ret (by kernel_rfl) ?_
      refine PJ.passRet ?_
      obtain rfl := Option.some.inj h49
      exact K.ret0 (.inr rfl) hFn hFH hFD (by kernel_rfl) (by kernel_rfl) (by kernel_rfl)
    · have h50 := condF hb48 h26
      refine K.condF (by kernel_rfl) ?_
      refine K.skip (by kernel_rfl) ?_
      refine PJ.next ?_
      refine K.seq (by kernel_rfl) ?_
      refine K.region (by kernel_rfl) ?_
      refine RJ.seg 1 [2, 3, 4, 6, 7, 8, 9] (L2 := [(2, .int .i64 x2), (3, .ptr 0 0), (4, .ptr 1 0), (6, .int .u32 0), (7, .int .i64 0), (8, .int .i64 0), (9, .ptr 2 0)]) (H2 := [.box [lsv (encI .u8) 1 x0], .box [.int .i64 x1], .box [.int .u32 0]]) (by kernel_rfl) ?_
      refine RJ.end (by kernel_rfl) ?_
      refine PJ.next ?_
      refine K.seq (by kernel_rfl) ?_
      refine K.region (by kernel_rfl) ?_
      refine RJ.seg 2 [2, 4, 6, 7, 8, 9, 23, 24] (L2 := [(2, .int .i64 x2), (4, .ptr 1 0), (6, .int .u32 0), (7, .int .i64 0), (8, .int .i64 0), (9, .ptr 2 0), (23, .int .i64 x2), (24, .fn (.func 33) [] [.ptr 2 0, .ptr 0 0, .ptr 1 0])]) (H2 := [.box [lsv (encI .u8) 1 x0], .box [.int .i64 x1], .box [.int .u32 0]]) (by kernel_rfl) ?_
      obtain ⟨y51, hy52, h53⟩ := bindS h50
      refine RJ.callG (d := (some 25)) (f := 32) (args := [.int .i64 x2, .fn (.func 33) [] [.ptr 2 0, .ptr 0 0, .ptr 1 0]]) (args0 := [.int .i64 x2, .fn (.func 33) [] [.ptr 0 0, .ptr 1 0, .ptr 2 0]]) (v0 := .tup []) (v := .tup []) (tr2 := []) (H0 := [.box [.int .u32 0], .box [lsv (encI .u8) 1 x0], .box [.int .i64 x1]]) (H0' := [.box [.int .u32 y51], .box [lsv (encI .u8) 1 x0], .box [.int .i64 x1]]) (H2 := [.box [lsv (encI .u8) 1 x0], .box [.int .i64 x1], .box [.int .u32 y51]]) [2, 0, 1] (by kernel_rfl) (by kernel_rfl) (by kernel_rfl) (by kernel_rfl) (by decide) (by kernel_rfl) (by kernel_rfl) (by kernel_rfl) (.cons (Le.refl _) (.cons (Le.refl _) .nil)) (pack_each_s1_ok hy52) (by kernel_rfl) (by kernel_rfl) (by kernel_rfl) ?_
      refine RJ.end (by kernel_rfl) ?_
      refine PJ.next ?_
      refine K.seq (by kernel_rfl) ?_
      refine J.keep [2, 4, 6, 7, 8, 9] (L2 := [(2, .int .i64 x2), (4, .ptr 1 0), (6, .int .u32 0), (7, .int .i64 0), (8, .int .i64 0), (9, .ptr 2 0)]) (by kernel_rfl) ?_
      refine K.draw (by kernel_rfl) (by kernel_rfl) (by kernel_rfl) (H2 := [.box [lsv (encI .u8) 1 x0], .box [.int .i64 x1], .box [.int .u32 y51]]) (by kernel_rfl) (n := 3) (by kernel_rfl) ?_
      refine RJ.segD 7 (tr2 := [([4, 5], []), ([2, 3], []), ([], []), ([], []), ([], []), ([], []), ([], [])]) (L2 := [(8, .int .i64 0), (7, .int .i64 (IntKind.wrap .i64 (x1 + x2))), (6, .int .u32 y51), (29, .int .i64 (IntKind.wrap .i64 (x1 + x2))), (28, .int .i64 x2), (27, .int .i64 x1), (26, .int .u32 y51), (2, .int .i64 x2), (4, .ptr 1 0), (6, .int .u32 0), (7, .int .i64 0), (8, .int .i64 0), (9, .ptr 2 0)]) (H2 := [.box [lsv (encI .u8) 1 x0], .box [.int .i64 x1], .box [.int .u32 y51]]) (by kernel_rfl) ?_
      refine RJ.end (by kernel_rfl) ?_
      refine PJ.next ?_
      refine K.ret (by kernel_rfl) ?_
      obtain rfl := Option.some.inj h53
      exact K.ret0 (.inr rfl) hFn hFH hFD (by kernel_rfl) (by kernel_rfl) (by kernel_rfl)

structure St72 where
  text_ : List UInt8
  deriving Inhabited, DecidableEq
def encSt72 (x : St72) : List SV := [.str x.text_]
theorem encSt72_len (x : St72) : (encSt72 x).length = 1 := rfl

def pack_Gather (x0 : List (List UInt8)) : Option ((List (List UInt8)) × (List Int)) :=
  (Option.bind (loopN (fun (s141 : Int × (List (List UInt8)) × (List Int) × (List (St72 × Int))) => (bif (decide (s141.1 < (x0.length : Int))) then (Option.bind (bif inR s141.1 x0.length then (Option.bind (bif (!((mget (fun a b : St72 => ((a.text_ == b.text_) && true)) s141.2.2.2 (⟨(nth x0 s141.1)⟩ : St72)).isSome)) then (bif (mget (fun a b : St72 => ((a.text_ == b.text_) && true)) s141.2.2.2 (⟨(nth x0 s141.1)⟩ : St72)).isNone then (bif room (s141.2.1.length + ([(nth x0 s141.1)] : List (List UInt8)).length) then (some ((s141.2.1.length : Int), (s141.2.1 ++ ([(nth x0 s141.1)] : List (List UInt8))), (s141.2.2.2 ++ [((⟨(nth x0 s141.1)⟩ : St72), (s141.2.1.length : Int))]))) else none) else none) else (some (((mget (fun a b : St72 => ((a.text_ == b.text_) && true)) s141.2.2.2 (⟨(nth x0 s141.1)⟩ : St72)).getD 0), s141.2.1, s141.2.2.2))) fun (s263 : Int × (List (List UInt8)) × (List (St72 × Int))) => (bif room (s141.2.2.1.length + ([s263.1] : List Int).length) then (some (s263.2.1, (s141.2.2.1 ++ ([s263.1] : List Int)), s263.2.2)) else none)) else none) fun (s252 : (List (List UInt8)) × (List Int) × (List (St72 × Int))) => (some (.inl ((IntKind.wrap .i64 (s141.1 + 1)), s252.1, s252.2.1, s252.2.2)))) else (some (.inr (s141.2.1, s141.2.2.1))))) big (0, ([] : List (List UInt8)), ([] : List Int), ([] : List (St72 × Int)))) fun (s136 : (List (List UInt8)) × (List Int)) => (some (s136.1, s136.2)))
theorem pack_Gather_ok {x0 : List (List UInt8)} {r : (List (List UInt8)) × (List Int)} (h : pack_Gather x0 = some r) : SC Try.prog 17 [lsv encT 1 x0] [] (.tup [lsv encT 1 r.1, lsv (encI .i64) 1 r.2]) [] := by
  refine K.fn (fn := Try.f17) (by kernel_rfl) (by kernel_rfl) (by kernel_rfl) (by kernel_rfl) (by kernel_rfl) (fun F hFn hFH hFD => ?_)
  unfold pack_Gather at h
  refine K.seq (by kernel_rfl) ?_
  refine K.region (by kernel_rfl) ?_
  refine RJ.seg 2 [0, 2, 3] (L2 := [(0, lsv encT 1 x0), (2, .nl), (3, .nl)]) (H2 := []) (by kernel_rfl) ?_
  refine RJ.end (by kernel_rfl) ?_
  refine PJ.next ?_
  refine K.seq (by kernel_rfl) ?_
  refine K.region (by kernel_rfl) ?_
  refine RJ.seg 1 [0, 2, 3, 4] (L2 := [(0, lsv encT 1 x0), (2, .nl), (3, .nl), (4, .nl)]) (H2 := []) (by kernel_rfl) ?_
  refine RJ.end (by kernel_rfl) ?_
  refine PJ.next ?_
  refine K.seq (by kernel_rfl) ?_
  refine K.region (by kernel_rfl) ?_
  refine RJ.seg 1 [0, 2, 3, 4, 5] (L2 := [(0, lsv encT 1 x0), (2, .nl), (3, .nl), (4, .nl), (5, .nl)]) (H2 := []) (by kernel_rfl) ?_
  refine RJ.end (by kernel_rfl) ?_
  refine PJ.next ?_
  refine K.seq (by kernel_rfl) ?_
  refine K.region (by kernel_rfl) ?_
  refine RJ.seg 2 [0, 2, 3, 4, 5, 6] (L2 := [(0, lsv encT 1 x0), (2, .nl), (3, .nl), (4, .nl), (5, .nl), (6, .mp 0)]) (H2 := [.map (mapL (fun k : St72 => .agg [.str k.text_]) (fun k : Int => .int .i64 k) ([] : List (St72 × Int)))]) (by kernel_rfl) ?_
  refine RJ.end (by kernel_rfl) ?_
  refine PJ.next ?_
  obtain ⟨s136, hy138, h140⟩ := bindS h
  refine K.cutN (by kernel_rfl) (fun (s136 : (List (List UInt8)) × (List Int)) => ([(2, .nl), (3, .nl), (4, .vc 0), (5, .vc 1)], [vecL encT 1 9 s136.1, vecL (encI .i64) 1 3 s136.2])) s136 ?_ ?_
  · refine K.seq (by kernel_rfl) ?_
    refine K.region (by kernel_rfl) ?_
    refine RJ.seg 3 [2, 3, 4, 5, 6, 12, 13, 14] (L2 := [(2, .nl), (3, .nl), (4, .nl), (5, .nl), (6, .mp 0), (12, lsv encT 1 x0), (13, .int .i64 (x0.length : Int)), (14, .int .i64 0)]) (H2 := [.map (mapL (fun k : St72 => .agg [.str k.text_]) (fun k : Int => .int .i64 k) ([] : List (St72 × Int)))]) (by kernel_rfl) ?_
    refine RJ.end (by kernel_rfl) ?_
    refine PJ.next ?_
    refine K.block 0 (by kernel_rfl) ?_
    refine J.wk (Wk.viv 4 1 9 (by kernel_rfl)) ?_
    refine J.wk (Wk.viv 5 1 3 (by kernel_rfl)) ?_
    refine J.wk (Wk.sel (L2 := [(2, .nl), (3, .nl), (4, .vc 0), (5, .vc 1), (6, .mp 2), (12, lsv encT 1 x0), (13, .int .i64 (x0.length : Int)), (14, .int .i64 0)]) (H2 := [vecL encT 1 9 ([] : List (List UInt8)), vecL (encI .i64) 1 3 ([] : List Int), .map (mapL (fun k : St72 => .agg [.str k.text_]) (fun k : Int => .int .i64 k) ([] : List (St72 × Int)))]) 0 (by rw [hFH]; rfl) hFD [1, 2, 0] (by kernel_rfl) (by simp only [List.map_cons, List.map_nil, rn_mapL (ek := (fun k : St72 => .agg [.str k.text_])) (ev := (fun k : Int => .int .i64 k)) (fun _ _ => rfl) (fun _ _ => rfl)]; kernel_rfl) (by decide) (by simp only [List.all_cons, List.all_nil, refs_mapL (ek := (fun k : St72 => .agg [.str k.text_])) (ev := (fun k : Int => .int .i64 k)) (fun _ _ => rfl) (fun _ _ => rfl)]; kernel_rfl) (by kernel_rfl) (by kernel_rfl) (by kernel_rfl)) ?_
    refine K.loop (by kernel_rfl) (fun (s141 : Int × (List (List UInt8)) × (List Int) × (List (St72 × Int))) => ([(2, .nl), (3, .nl), (4, .vc 0), (5, .vc 1), (6, .mp 2), (12, lsv encT 1 x0), (13, .int .i64 (x0.length : Int)), (14, .int .i64 s141.1)], [vecL encT 1 9 s141.2.1, vecL (encI .i64) 1 3 s141.2.2.1, .map (mapL (fun k : St72 => .agg [.str k.text_]) (fun k : Int => .int .i64 k) s141.2.2.2)])) hy138 [2, 3, 4, 5, 6, 12, 13, 14] (by kernel_rfl) (by kernel_rfl) (fun s141 x231 hs230 => ?_)
    refine K.seq (by kernel_rfl) ?_
    refine K.region (by kernel_rfl) ?_
    refine RJ.seg 1 [2, 3, 4, 5, 6, 12, 13, 14, 15] (L2 := [(2, .nl), (3, .nl), (4, .vc 0), (5, .vc 1), (6, .mp 2), (12, lsv encT 1 x0), (13, .int .i64 (x0.length : Int)), (14, .int .i64 s141.1), (15, .bool ((decide (s141.1 < (x0.length : Int)))))]) (H2 := [vecL encT 1 9 s141.2.1, vecL (encI .i64) 1 3 s141.2.2.1, .map (mapL (fun k : St72 => .agg [.str k.text_]) (fun k : Int => .int .i64 k) s141.2.2.2)]) (by kernel_rfl) ?_
    refine RJ.end (by kernel_rfl) ?_
    refine PJ.next ?_
    refine K.seq (by kernel_rfl) ?_
    refine J.caseB 15 (b := (decide (s141.1 < (x0.length : Int)))) (by kernel_rfl) (fun hb232 => ?_) (fun hb232 => ?_)
    · have h233 := condT hb232 hs230
      refine K.condT (by kernel_rfl) ?_
      refine K.skip (by kernel_rfl) ?_
      refine PJ.next ?_
      obtain ⟨s252, hy254, h256⟩ := bindS h233
      refine K.cutN (by kernel_rfl) (fun (s252 : (List (List UInt8)) × (List Int) × (List (St72 × Int))) => ([(2, .nl), (3, .nl), (4, .vc 0), (5, .vc 1), (6, .mp 2), (12, lsv encT 1 x0), (13, .int .i64 (x0.length : Int)), (14, .int .i64 s141.1)], [vecL encT 1 9 s252.1, vecL (encI .i64) 1 3 s252.2.1, .map (mapL (fun k : St72 => .agg [.str k.text_]) (fun k : Int => .int .i64 k) s252.2.2)])) s252 ?_ ?_
      · refine K.block 1 (by kernel_rfl) ?_
        refine K.seq (by kernel_rfl) ?_
        refine K.region (by kernel_rfl) ?_
        obtain ⟨hm, h257⟩ := asrt hy254
        refine RJ.rel (d := (some 16)) (ef := ⟨.ep (((x0.flatMap encT).drop ((s141.1 : Int).toNat * 1)).take 1), [], []⟩) (ef' := ⟨.ep (encT (nth x0 s141.1)), [], []⟩) (c := inR s141.1 x0.length) (tr2 := []) (H2 := [vecL encT 1 9 s141.2.1, vecL (encI .i64) 1 3 s141.2.2.1, .map (mapL (fun k : St72 => .agg [.str k.text_]) (fun k : Int => .int .i64 k) s141.2.2.2)]) (by kernel_rfl) hm (fun hc => N.idx encT_len hc) (by kernel_rfl) ?_
        refine RJ.seg 2 [2, 3, 4, 5, 6, 8, 12, 13, 14] (L2 := [(2, .nl), (3, .nl), (4, .vc 0), (5, .vc 1), (6, .mp 2), (8, .str (nth x0 s141.1)), (12, lsv encT 1 x0), (13, .int .i64 (x0.length : Int)), (14, .int .i64 s141.1)]) (H2 := [vecL encT 1 9 s141.2.1, vecL (encI .i64) 1 3 s141.2.2.1, .map (mapL (fun k : St72 => .agg [.str k.text_]) (fun k : Int => .int .i64 k) s141.2.2.2)]) (by kernel_rfl) ?_
        refine RJ.end (by kernel_rfl) ?_
        refine PJ.next ?_
        refine K.seq (by kernel_rfl) ?_
        refine K.region (by kernel_rfl) ?_
        refine RJ.seg 3 [2, 3, 4, 5, 6, 8, 12, 13, 14, 19, 21] (L2 := [(2, .nl), (3, .nl), (4, .vc 0), (5, .vc 1), (6, .mp 2), (8, .str (nth x0 s141.1)), (12, lsv encT 1 x0), (13, .int .i64 (x0.length : Int)), (14, .int .i64 s141.1), (19, .mp 2), (21, .agg [.str (nth x0 s141.1)])]) (H2 := [vecL encT 1 9 s141.2.1, vecL (encI .i64) 1 3 s141.2.2.1, .map (mapL (fun k : St72 => .agg [.str k.text_]) (fun k : Int => .int .i64 k) s141.2.2.2)]) (by kernel_rfl) ?_
        refine RJ.lookD (d := (some 22)) (kt := 73) (i := 2) (cs := [.str (nth x0 s141.1)]) (ok := true) (tr2 := []) (fun k : St72 => .agg [.str k.text_]) (fun k : Int => .int .i64 k) (fun a b : St72 => ((a.text_ == b.text_) && true)) s141.2.2.2 (⟨(nth x0 s141.1)⟩ : St72) (0 : Int) (by kernel_rfl) rfl (fun a b => by kernel_rfl) ?_
        refine RJ.seg 5 [2, 3, 4, 5, 6, 8, 9, 10, 12, 13, 14] (L2 := [(2, .nl), (3, .nl), (4, .vc 0), (5, .vc 1), (6, .mp 2), (8, .str (nth x0 s141.1)), (9, .int .i64 (((mget (fun a b : St72 => ((a.text_ == b.text_) && true)) s141.2.2.2 (⟨(nth x0 s141.1)⟩ : St72)).getD 0))), (10, .bool ((mget (fun a b : St72 => ((a.text_ == b.text_) && true)) s141.2.2.2 (⟨(nth x0 s141.1)⟩ : St72)).isSome)), (12, lsv encT 1 x0), (13, .int .i64 (x0.length : Int)), (14, .int .i64 s141.1)]) (H2 := [vecL encT 1 9 s141.2.1, vecL (encI .i64) 1 3 s141.2.2.1, .map (mapL (fun k : St72 => .agg [.str k.text_]) (fun k : Int => .int .i64 k) s141.2.2.2)]) (by kernel_rfl) ?_
        refine RJ.end (by kernel_rfl) ?_
        refine PJ.next ?_
        obtain ⟨s263, hy265, h267⟩ := bindS h257
        refine K.cutN (by kernel_rfl) (fun (s263 : Int × (List (List UInt8)) × (List (St72 × Int))) => ([(2, .nl), (3, .nl), (4, .vc 0), (5, .vc 1), (6, .mp 2), (9, .int .i64 s263.1), (12, lsv encT 1 x0), (13, .int .i64 (x0.length : Int)), (14, .int .i64 s141.1)], [vecL encT 1 9 s263.2.1, vecL (encI .i64) 1 3 s141.2.2.1, .map (mapL (fun k : St72 => .agg [.str k.text_]) (fun k : Int => .int .i64 k) s263.2.2)])) s263 ?_ ?_
        · refine K.seq (by kernel_rfl) ?_
          refine K.region (by kernel_rfl) ?_
          refine RJ.seg 2 [2, 3, 4, 5, 6, 8, 9, 12, 13, 14, 26] (L2 := [(2, .nl), (3, .nl), (4, .vc 0), (5, .vc 1), (6, .mp 2), (8, .str (nth x0 s141.1)), (9, .int .i64 (((mget (fun a b : St72 => ((a.text_ == b.text_) && true)) s141.2.2.2 (⟨(nth x0 s141.1)⟩ : St72)).getD 0))), (12, lsv encT 1 x0), (13, .int .i64 (x0.length : Int)), (14, .int .i64 s141.1), (26, .bool ((!((mget (fun a b : St72 => ((a.text_ == b.text_) && true)) s141.2.2.2 (⟨(nth x0 s141.1)⟩ : St72)).isSome))))]) (H2 := [vecL encT 1 9 s141.2.1, vecL (encI .i64) 1 3 s141.2.2.1, .map (mapL (fun k : St72 => .agg [.str k.text_]) (fun k : Int => .int .i64 k) s141.2.2.2)]) (by kernel_rfl) ?_
          refine RJ.end (by kernel_rfl) ?_
          refine PJ.next ?_
          refine J.caseB 26 (b := (!((mget (fun a b : St72 => ((a.text_ == b.text_) && true)) s141.2.2.2 (⟨(nth x0 s141.1)⟩ : St72)).isSome))) (by kernel_rfl) (fun hb268 => ?_) (fun hb268 => ?_)
          · have h269 := condT hb268 hy265
            refine K.condT (by kernel_rfl) ?_
            refine K.seq (by kernel_rfl) ?_
            refine K.region (by kernel_rfl) ?_
            refine RJ.seg 3 [2, 3, 4, 5, 6, 8, 9, 12, 13, 14] (L2 := [(2, .nl), (3, .nl), (4, .vc 0), (5, .vc 1), (6, .mp 2), (8, .str (nth x0 s141.1)), (9, .int .i64 (s141.2.1.length : Int)), (12, lsv encT 1 x0), (13, .int .i64 (x0.length : Int)), (14, .int .i64 s141.1)]) (H2 := [vecL encT 1 9 s141.2.1, vecL (encI .i64) 1 3 s141.2.2.1, .map (mapL (fun k : St72 => .agg [.str k.text_]) (fun k : Int => .int .i64 k) s141.2.2.2)]) (by kernel_rfl) ?_
            refine RJ.end (by kernel_rfl) ?_
            refine PJ.next ?_
            refine K.seq (by kernel_rfl) ?_
            refine K.region (by kernel_rfl) ?_
            refine RJ.seg 4 [2, 3, 4, 5, 6, 8, 9, 12, 13, 14, 29, 31, 32] (L2 := [(2, .nl), (3, .nl), (4, .vc 0), (5, .vc 1), (6, .mp 2), (8, .str (nth x0 s141.1)), (9, .int .i64 (s141.2.1.length : Int)), (12, lsv encT 1 x0), (13, .int .i64 (x0.length : Int)), (14, .int .i64 s141.1), (29, .mp 2), (31, .agg [.str (nth x0 s141.1)]), (32, .int .i64 (s141.2.1.length : Int))]) (H2 := [vecL encT 1 9 s141.2.1, vecL (encI .i64) 1 3 s141.2.2.1, .map (mapL (fun k : St72 => .agg [.str k.text_]) (fun k : Int => .int .i64 k) s141.2.2.2)]) (by kernel_rfl) ?_
            obtain ⟨hm, h271⟩ := asrt h269
            refine RJ.insD (d := none) (kt := 73) (i := 2) (cs := [.str (nth x0 s141.1)]) (sv := .int .i64 (s141.2.1.length : Int)) (tr2 := []) (H2 := [vecL encT 1 9 s141.2.1, vecL (encI .i64) 1 3 s141.2.2.1, .map (mapL (fun k : St72 => .agg [.str k.text_]) (fun k : Int => .int .i64 k) ((s141.2.2.2 ++ [((⟨(nth x0 s141.1)⟩ : St72), (s141.2.1.length : Int))])))]) (fun k : St72 => .agg [.str k.text_]) (fun k : Int => .int .i64 k) (fun a b : St72 => ((a.text_ == b.text_) && true)) s141.2.2.2 (⟨(nth x0 s141.1)⟩ : St72) (s141.2.1.length : Int) (by kernel_rfl) rfl rfl (fun a b => by kernel_rfl) hm (by kernel_rfl) ?_
            refine RJ.end (by kernel_rfl) ?_
            refine PJ.next ?_
            refine K.region (by kernel_rfl) ?_
            refine RJ.seg 3 [2, 3, 4, 5, 6, 9, 12, 13, 14, 33, 35] (L2 := [(2, .nl), (3, .nl), (4, .vc 0), (5, .vc 1), (6, .mp 2), (9, .int .i64 (s141.2.1.length : Int)), (12, lsv encT 1 x0), (13, .int .i64 (x0.length : Int)), (14, .int .i64 s141.1), (33, .vc 0), (35, .vc 3)]) (H2 := [vecL encT 1 9 s141.2.1, vecL (encI .i64) 1 3 s141.2.2.1, .map (mapL (fun k : St72 => .agg [.str k.text_]) (fun k : Int => .int .i64 k) ((s141.2.2.2 ++ [((⟨(nth x0 s141.1)⟩ : St72), (s141.2.1.length : Int))]))), vecL encT 1 9 ([(nth x0 s141.1)] : List (List UInt8))]) (by kernel_rfl) ?_
            obtain ⟨hm, h272⟩ := asrt h271
            refine RJ.rel (d := (some 36)) (ef := ⟨.vc 4, [0, 3], [(0, .gone), (4, .vec (s141.2.1.length + ([(nth x0 s141.1)] : List (List UInt8)).length) 1 9 (s141.2.1.flatMap encT ++ ([(nth x0 s141.1)] : List (List UInt8)).flatMap encT))]⟩) (ef' := ⟨.vc 4, [0, 3], [(0, .gone), (4, vecL encT 1 9 (s141.2.1 ++ ([(nth x0 s141.1)] : List (List UInt8))))]⟩) (c := room (s141.2.1.length + ([(nth x0 s141.1)] : List (List UInt8)).length)) (tr2 := []) (H2 := [.gone, vecL (encI .i64) 1 3 s141.2.2.1, .map (mapL (fun k : St72 => .agg [.str k.text_]) (fun k : Int => .int .i64 k) ((s141.2.2.2 ++ [((⟨(nth x0 s141.1)⟩ : St72), (s141.2.1.length : Int))]))), vecL encT 1 9 ([(nth x0 s141.1)] : List (List UInt8)), vecL encT 1 9 ((s141.2.1 ++ ([(nth x0 s141.1)] : List (List UInt8))))]) (by kernel_rfl) hm (fun hc => N.app) (by kernel_rfl) ?_
            refine RJ.seg 1 [2, 3, 4, 5, 6, 9, 12, 13, 14] (L2 := [(2, .nl), (3, .nl), (4, .vc 4), (5, .vc 1), (6, .mp 2), (9, .int .i64 (s141.2.1.length : Int)), (12, lsv encT 1 x0), (13, .int .i64 (x0.length : Int)), (14, .int .i64 s141.1)]) (H2 := [.gone, vecL (encI .i64) 1 3 s141.2.2.1, .map (mapL (fun k : St72 => .agg [.str k.text_]) (fun k : Int => .int .i64 k) ((s141.2.2.2 ++ [((⟨(nth x0 s141.1)⟩ : St72), (s141.2.1.length : Int))]))), vecL encT 1 9 ([(nth x0 s141.1)] : List (List UInt8)), vecL encT 1 9 ((s141.2.1 ++ ([(nth x0 s141.1)] : List (List UInt8))))]) (by kernel_rfl) ?_
            refine RJ.end (by kernel_rfl) ?_
            obtain rfl := Option.some.inj h272
            refine PJ.wk (Wk.sel (L2 := [(2, .nl), (3, .nl), (4, .vc 0), (5, .vc 1), (6, .mp 2), (9, .int .i64 (s141.2.1.length : Int)), (12, lsv encT 1 x0), (13, .int .i64 (x0.length : Int)), (14, .int .i64 s141.1)]) (H2 := [vecL encT 1 9 ((s141.2.1 ++ ([(nth x0 s141.1)] : List (List UInt8)))), vecL (encI .i64) 1 3 s141.2.2.1, .map (mapL (fun k : St72 => .agg [.str k.text_]) (fun k : Int => .int .i64 k) ((s141.2.2.2 ++ [((⟨(nth x0 s141.1)⟩ : St72), (s141.2.1.length : Int))])))]) 0 (by rw [hFH]; rfl) hFD [4, 1, 2] (by kernel_rfl) (by simp only [List.map_cons, List.map_nil, rn_mapL (ek := (fun k : St72 => .agg [.str k.text_])) (ev := (fun k : Int => .int .i64 k)) (fun _ _ => rfl) (fun _ _ => rfl)]; kernel_rfl) (by decide) (by simp only [List.all_cons, List.all_nil, refs_mapL (ek := (fun k : St72 => .agg [.str k.text_])) (ev := (fun k : Int => .int .i64 k)) (fun _ _ => rfl) (fun _ _ => rfl)]; kernel_rfl) (by kernel_rfl) (by kernel_rfl) (by kernel_rfl)) ?_
            exact PJ.cutN [2, 3, 4, 5, 6, 9, 12, 13, 14] (by kernel_rfl) (by kernel_rfl)
          · have h270 := condF hb268 hy265
            refine K.condF (by kernel_rfl) ?_
            refine K.skip (by kernel_rfl) ?_
            obtain rfl := Option.some.inj h270
            exact PJ.cutN [2, 3, 4, 5, 6, 9, 12, 13, 14] (by kernel_rfl) (by kernel_rfl)
        · refine K.region (by kernel_rfl) ?_
          refine RJ.seg 3 [2, 3, 4, 5, 6, 12, 13, 14, 37, 39] (L2 := [(2, .nl), (3, .nl), (4, .vc 0), (5, .vc 1), (6, .mp 2), (12, lsv encT 1 x0), (13, .int .i64 (x0.length : Int)), (14, .int .i64 s141.1), (37, .vc 1), (39, .vc 3)]) (H2 := [vecL encT 1 9 s263.2.1, vecL (encI .i64) 1 3 s141.2.2.1, .map (mapL (fun k : St72 => .agg [.str k.text_]) (fun k : Int => .int .i64 k) s263.2.2), vecL (encI .i64) 1 3 ([s263.1] : List Int)]) (by kernel_rfl) ?_
          obtain ⟨hm, h273⟩ := asrt h267
          refine RJ.rel (d := (some 40)) (ef := ⟨.vc 4, [1, 3], [(1, .gone), (4, .vec (s141.2.2.1.length + ([s263.1] : List Int).length) 1 3 (s141.2.2.1.flatMap (encI .i64) ++ ([s263.1] : List Int).flatMap (encI .i64)))]⟩) (ef' := ⟨.vc 4, [1, 3], [(1, .gone), (4, vecL (encI .i64) 1 3 (s141.2.2.1 ++ ([s263.1] : List Int)))]⟩) (c := room (s141.2.2.1.length + ([s263.1] : List Int).length)) (tr2 := []) (H2 := [vecL encT 1 9 s263.2.1, .gone, .map (mapL (fun k : St72 => .agg [.str k.text_]) (fun k : Int => .int .i64 k) s263.2.2), vecL (encI .i64) 1 3 ([s263.1] : List Int), vecL (encI .i64) 1 3 (s141.2.2.1 ++ ([s263.1] : List Int))]) (by kernel_rfl) hm (fun hc => N.app) (by kernel_rfl) ?_
          refine RJ.seg 1 [2, 3, 4, 5, 6, 12, 13, 14] (L2 := [(2, .nl), (3, .nl), (4, .vc 0), (5, .vc 4), (6, .mp 2), (12, lsv encT 1 x0), (13, .int .i64 (x0.length : Int)), (14, .int .i64 s141.1)]) (H2 := [vecL encT 1 9 s263.2.1, .gone, .map (mapL (fun k : St72 => .agg [.str k.text_]) (fun k : Int => .int .i64 k) s263.2.2), vecL (encI .i64) 1 3 ([s263.1] : List Int), vecL (encI .i64) 1 3 (s141.2.2.1 ++ ([s263.1] : List Int))]) (by kernel_rfl) ?_
          refine RJ.end (by kernel_rfl) ?_
          refine PJ.blockNormal ?_
          obtain rfl := Option.some.inj h273
          refine PJ.wk (Wk.sel (L2 := [(2, .nl), (3, .nl), (4, .vc 0), (5, .vc 1), (6, .mp 2), (12, lsv encT 1 x0), (13, .int .i64 (x0.length : Int)), (14, .int .i64 s141.1)]) (H2 := [vecL encT 1 9 s263.2.1, vecL (encI .i64) 1 3 (s141.2.2.1 ++ ([s263.1] : List Int)), .map (mapL (fun k : St72 => .agg [.str k.text_]) (fun k : Int => .int .i64 k) s263.2.2)]) 0 (by rw [hFH]; rfl) hFD [0, 4, 2] (by kernel_rfl) (by simp only [List.map_cons, List.map_nil, rn_mapL (ek := (fun k : St72 => .agg [.str k.text_])) (ev := (fun k : Int => .int .i64 k)) (fun _ _ => rfl) (fun _ _ => rfl)]; kernel_rfl) (by decide) (by simp only [List.all_cons, List.all_nil, refs_mapL (ek := (fun k : St72 => .agg [.str k.text_])) (ev := (fun k : Int => .int .i64 k)) (fun _ _ => rfl) (fun _ _ => rfl)]; kernel_rfl) (by kernel_rfl) (by kernel_rfl) (by kernel_rfl)) ?_
          exact PJ.cutN [2, 3, 4, 5, 6, 12, 13, 14] (by kernel_rfl) (by kernel_rfl)
      · refine K.region (by kernel_rfl) ?_
        refine RJ.seg 2 [2, 3, 4, 5, 6, 12, 13, 14] (L2 := [(2, .nl), (3, .nl), (4, .vc 0), (5, .vc 1), (6, .mp 2), (12, lsv encT 1 x0), (13, .int .i64 (x0.length : Int)), (14, .int .i64 (IntKind.wrap .i64 (s141.1 + 1)))]) (H2 := [vecL encT 1 9 s252.1, vecL (encI .i64) 1 3 s252.2.1, .map (mapL (fun k : St72 => .agg [.str k.text_]) (fun k : Int => .int .i64 k) s252.2.2)]) (by kernel_rfl) ?_
        refine RJ.end (by kernel_rfl) ?_
        obtain rfl := Option.some.inj h256
        exact PJ.loopNext [2, 3, 4, 5, 6, 12, 13, 14] (by kernel_rfl) (by kernel_rfl)
    · have h234 := condF hb232 hs230
      refine K.condF (by kernel_rfl) ?_
      refine K.exit 0 (by kernel_rfl) ?_
      refine PJ.passExit ?_
      obtain rfl := Option.some.inj h234
      refine PJ.loopOut (fun e => nomatch e) (fun he275 => ?_)
      have h274 := congrArg some he275
      refine PJ.blockOut ?_
      obtain rfl := Option.some.inj h274
      refine PJ.wk (Wk.sel (L2 := [(2, .nl), (3, .nl), (4, .vc 0), (5, .vc 1)]) (H2 := [vecL encT 1 9 s141.2.1, vecL (encI .i64) 1 3 s141.2.2.1]) 0 (by rw [hFH]; rfl) hFD [0, 1] (by kernel_rfl) (by kernel_rfl) (by decide) (by kernel_rfl) (by kernel_rfl) (by kernel_rfl) (by kernel_rfl)) ?_
      exact PJ.cutN [2, 3, 4, 5] (by kernel_rfl) (by kernel_rfl)
  · refine K.seq (by kernel_rfl) ?_
    refine K.region (by kernel_rfl) ?_
    refine RJ.seg 4 [2, 3] (L2 := [(2, .vc 0), (3, .vc 1)]) (H2 := [vecL encT 1 9 s136.1, vecL (encI .i64) 1 3 s136.2]) (by kernel_rfl) ?_
    refine RJ.end (by kernel_rfl) ?_
    refine PJ.next ?_
    refine K.ret (by kernel_rfl) ?_
    obtain rfl := Option.some.inj h140
    refine PJ.wk (Wk.freeze 0 (n := s136.1.length) (k := 1) (e := 9) (cs := s136.1.flatMap encT) (by kernel_rfl)) ?_
    refine PJ.wk (Wk.freeze 1 (n := s136.2.length) (k := 1) (e := 3) (cs := s136.2.flatMap (encI .i64)) (by kernel_rfl)) ?_
    exact K.ret0 (.inr rfl) hFn hFH hFD (by kernel_rfl) (by kernel_rfl) (by kernel_rfl)

def exerguelaw09_shown  : Option (Bool) :=
  (Option.bind (pack_Put ([] : List Int) 258 2) fun y1 => (Option.bind (pack_Take y1.1 0 2) fun y4 => (Option.bind (pack_Gather ([([97] : List UInt8), ([98] : List UInt8), ([97] : List UInt8)] : List (List UInt8))) fun y7 => (Option.bind (bif (decide (y1.2 = 0)) then (bif (decide ((y1.1.length : Int) = 2)) then (bif inR 0 y1.1.length then (bif (decide ((nth y1.1 0) = 1)) then (bif inR 1 y1.1.length then (bif (decide ((nth y1.1 1) = 2)) then (bif (decide (y4.1 = 258)) then (bif (decide (y4.2.1 = 2)) then (bif (decide (y4.2.2 = 0)) then (bif (decide ((y7.1.length : Int) = 2)) then (bif (decide ((y7.2.length : Int) = 3)) then (bif inR 2 y7.2.length then (some ((decide ((nth y7.2 2) = 0)))) else none) else (some false)) else (some false)) else (some false)) else (some false)) else (some false)) else (some false)) else none) else (some false)) else none) else (some false)) else (some false)) fun (s40 : Bool) => (some s40)))))
theorem exerguelaw09_shown_ok  {r : Bool} (h : exerguelaw09_shown = some r) : SC Try.prog 10 [] [] (.bool r) [] := by
  refine K.fn (fn := Try.f10) (by kernel_rfl) (by kernel_rfl) (by kernel_rfl) (by kernel_rfl) (by kernel_rfl) (fun F hFn hFH hFD => ?_)
  unfold exerguelaw09_shown at h
  refine K.seq (by kernel_rfl) ?_
  refine K.region (by kernel_rfl) ?_
  refine RJ.seg 1 [0] (L2 := [(0, .bool false)]) (H2 := []) (by kernel_rfl) ?_
  refine RJ.end (by kernel_rfl) ?_
  refine PJ.next ?_
  refine K.seq (by kernel_rfl) ?_
  refine K.region (by kernel_rfl) ?_
  obtain ⟨y1, hy2, h3⟩ := bindS h
  refine RJ.call0 (d := (some 9)) (f := 11) (args := [.nl, .int .u32 258, .int .i64 2]) (v := .tup [lsv (encI .u8) 1 y1.1, .int .i64 y1.2]) (tr2 := []) (by kernel_rfl) (by kernel_rfl) (.cons (Le.nl _) (.cons (Le.refl _) (.cons (Le.refl _) .nil))) (pack_Put_ok hy2) (by kernel_rfl) ?_
  refine RJ.seg 5 [0, 1, 2] (L2 := [(0, .bool false), (1, lsv (encI .u8) 1 y1.1), (2, .int .i64 y1.2)]) (H2 := []) (by kernel_rfl) ?_
  refine RJ.end (by kernel_rfl) ?_
  refine PJ.next ?_
  refine K.seq (by kernel_rfl) ?_
  refine K.region (by kernel_rfl) ?_
  refine RJ.seg 1 [0, 1, 2, 13] (L2 := [(0, .bool false), (1, lsv (encI .u8) 1 y1.1), (2, .int .i64 y1.2), (13, lsv (encI .u8) 1 y1.1)]) (H2 := []) (by kernel_rfl) ?_
  obtain ⟨y4, hy5, h6⟩ := bindS h3
  refine RJ.call0 (d := (some 14)) (f := 13) (args := [lsv (encI .u8) 1 y1.1, .int .i64 0, .int .i64 2]) (v := .tup [.int .u32 y4.1, .int .i64 y4.2.1, .int .i64 y4.2.2]) (tr2 := []) (by kernel_rfl) (by kernel_rfl) (.cons (Le.refl _) (.cons (Le.refl _) (.cons (Le.refl _) .nil))) (pack_Take_ok hy5) (by kernel_rfl) ?_
  refine RJ.seg 7 [0, 1, 2, 3, 4, 5] (L2 := [(0, .bool false), (1, lsv (encI .u8) 1 y1.1), (2, .int .i64 y1.2), (3, .int .u32 y4.1), (4, .int .i64 y4.2.1), (5, .int .i64 y4.2.2)]) (H2 := []) (by kernel_rfl) ?_
  refine RJ.end (by kernel_rfl) ?_
  refine PJ.next ?_
  refine K.seq (by kernel_rfl) ?_
  refine K.region (by kernel_rfl) ?_
  refine RJ.seg 1 [0, 1, 2, 3, 4, 5, 19] (L2 := [(0, .bool false), (1, lsv (encI .u8) 1 y1.1), (2, .int .i64 y1.2), (3, .int .u32 y4.1), (4, .int .i64 y4.2.1), (5, .int .i64 y4.2.2), (19, .vc 0)]) (H2 := [vecL encT 1 9 ([([97] : List UInt8), ([98] : List UInt8), ([97] : List UInt8)] : List (List UInt8))]) (by kernel_rfl) ?_
  obtain ⟨y7, hy8, h9⟩ := bindS h6
  refine RJ.wk (Wk.freeze 0 (n := ([([97] : List UInt8), ([98] : List UInt8), ([97] : List UInt8)] : List (List UInt8)).length) (k := 1) (e := 9) (cs := ([([97] : List UInt8), ([98] : List UInt8), ([97] : List UInt8)] : List (List UInt8)).flatMap encT) (by kernel_rfl)) ?_
  refine RJ.call0 (d := (some 20)) (f := 17) (args := [lsv encT 1 ([([97] : List UInt8), ([98] : List UInt8), ([97] : List UInt8)] : List (List UInt8))]) (v := .tup [lsv encT 1 y7.1, lsv (encI .i64) 1 y7.2]) (tr2 := []) (by kernel_rfl) (by kernel_rfl) (.cons (Le.refl _) .nil) (pack_Gather_ok hy8) (by kernel_rfl) ?_
  refine RJ.seg 5 [0, 1, 2, 3, 4, 5, 6, 7] (L2 := [(0, .bool false), (1, lsv (encI .u8) 1 y1.1), (2, .int .i64 y1.2), (3, .int .u32 y4.1), (4, .int .i64 y4.2.1), (5, .int .i64 y4.2.2), (6, lsv encT 1 y7.1), (7, lsv (encI .i64) 1 y7.2)]) (H2 := [.gone]) (by kernel_rfl) ?_
  refine RJ.end (by kernel_rfl) ?_
  refine PJ.next ?_
  obtain ⟨s40, hy42, h44⟩ := bindS h9
  refine K.cutN (by kernel_rfl) (fun (s40 : Bool) => ([(0, .bool s40)], [])) s40 ?_ ?_
  · refine K.region (by kernel_rfl) ?_
    refine RJ.seg 3 [0, 1, 3, 4, 5, 6, 7, 25] (L2 := [(0, .bool false), (1, lsv (encI .u8) 1 y1.1), (3, .int .u32 y4.1), (4, .int .i64 y4.2.1), (5, .int .i64 y4.2.2), (6, lsv encT 1 y7.1), (7, lsv (encI .i64) 1 y7.2), (25, .bool (decide (y1.2 = 0)))]) (H2 := [.gone]) (by kernel_rfl) ?_
    refine RJ.caseB 25 (b := (decide (y1.2 = 0))) (by kernel_rfl) (fun hb45 => ?_) (fun hb45 => ?_)
    · have h46 := condT hb45 hy42
      refine RJ.seg 5 [0, 1, 3, 4, 5, 6, 7, 30] (L2 := [(0, .bool false), (1, lsv (encI .u8) 1 y1.1), (3, .int .u32 y4.1), (4, .int .i64 y4.2.1), (5, .int .i64 y4.2.2), (6, lsv encT 1 y7.1), (7, lsv (encI .i64) 1 y7.2), (30, .bool ((decide ((y1.1.length : Int) = 2))))]) (H2 := [.gone]) (by kernel_rfl) ?_
      refine RJ.caseB 30 (b := (decide ((y1.1.length : Int) = 2))) (by kernel_rfl) (fun hb48 => ?_) (fun hb48 => ?_)
      · have h49 := condT hb48 h46
        refine RJ.seg 1 [0, 1, 3, 4, 5, 6, 7, 30, 31] (L2 := [(0, .bool false), (1, lsv (encI .u8) 1 y1.1), (3, .int .u32 y4.1), (4, .int .i64 y4.2.1), (5, .int .i64 y4.2.2), (6, lsv encT 1 y7.1), (7, lsv (encI .i64) 1 y7.2), (30, .bool true), (31, lsv (encI .u8) 1 y1.1)]) (H2 := [.gone]) (by kernel_rfl) ?_
        obtain ⟨hm, h51⟩ := asrt h49
        refine RJ.rel (d := (some 32)) (ef := ⟨.ep (((y1.1.flatMap (encI .u8)).drop ((0 : Int).toNat * 1)).take 1), [], []⟩) (ef' := ⟨.ep ((encI .u8) (nth y1.1 0)), [], []⟩) (c := inR 0 y1.1.length) (tr2 := []) (H2 := [.gone]) (by kernel_rfl) hm (fun hc => N.idx (encI_len .u8) hc) (by kernel_rfl) ?_
        refine RJ.seg 4 [0, 1, 3, 4, 5, 6, 7, 36] (L2 := [(0, .bool false), (1, lsv (encI .u8) 1 y1.1), (3, .int .u32 y4.1), (4, .int .i64 y4.2.1), (5, .int .i64 y4.2.2), (6, lsv encT 1 y7.1), (7, lsv (encI .i64) 1 y7.2), (36, .bool ((decide ((nth y1.1 0) = 1))))]) (H2 := [.gone]) (by kernel_rfl) ?_
        refine RJ.caseB 36 (b := (decide ((nth y1.1 0) = 1))) (by kernel_rfl) (fun hb52 => ?_) (fun hb52 => ?_)
        · have h53 := condT hb52 h51
          refine RJ.seg 1 [0, 3, 4, 5, 6, 7, 36, 37] (L2 := [(0, .bool false), (3, .int .u32 y4.1), (4, .int .i64 y4.2.1), (5, .int .i64 y4.2.2), (6, lsv encT 1 y7.1), (7, lsv (encI .i64) 1 y7.2), (36, .bool true), (37, lsv (encI .u8) 1 y1.1)]) (H2 := [.gone]) (by kernel_rfl) ?_
          obtain ⟨hm, h55⟩ := asrt h53
          refine RJ.rel (d := (some 38)) (ef := ⟨.ep (((y1.1.flatMap (encI .u8)).drop ((1 : Int).toNat * 1)).take 1), [], []⟩) (ef' := ⟨.ep ((encI .u8) (nth y1.1 1)), [], []⟩) (c := inR 1 y1.1.length) (tr2 := []) (H2 := [.gone]) (by kernel_rfl) hm (fun hc => N.idx (encI_len .u8) hc) (by kernel_rfl) ?_
          refine RJ.seg 4 [0, 3, 4, 5, 6, 7, 42] (L2 := [(0, .bool false), (3, .int .u32 y4.1), (4, .int .i64 y4.2.1), (5, .int .i64 y4.2.2), (6, lsv encT 1 y7.1), (7, lsv (encI .i64) 1 y7.2), (42, .bool ((decide ((nth y1.1 1) = 2))))]) (H2 := [.gone]) (by kernel_rfl) ?_
          refine RJ.caseB 42 (b := (decide ((nth y1.1 1) = 2))) (by kernel_rfl) (fun hb56 => ?_) (fun hb56 => ?_)
          · have h57 := condT hb56 h55
            refine RJ.seg 4 [0, 4, 5, 6, 7, 46] (L2 := [(0, .bool false), (4, .int .i64 y4.2.1), (5, .int .i64 y4.2.2), (6, lsv encT 1 y7.1), (7, lsv (encI .i64) 1 y7.2), (46, .bool (decide (y4.1 = 258)))]) (H2 := [.gone]) (by kernel_rfl) ?_
            refine RJ.caseB 46 (b := (decide (y4.1 = 258))) (by kernel_rfl) (fun hb59 => ?_) (fun hb59 => ?_)
            · have h60 := condT hb59 h57
              refine RJ.seg 4 [0, 5, 6, 7, 50] (L2 := [(0, .bool false), (5, .int .i64 y4.2.2), (6, lsv encT 1 y7.1), (7, lsv (encI .i64) 1 y7.2), (50, .bool (decide (y4.2.1 = 2)))]) (H2 := [.gone]) (by kernel_rfl) ?_
              refine RJ.caseB 50 (b := (decide (y4.2.1 = 2))) (by kernel_rfl) (fun hb62 => ?_) (fun hb62 => ?_)
              · have h63 := condT hb62 h60
                refine RJ.seg 4 [0, 6, 7, 54] (L2 := [(0, .bool false), (6, lsv encT 1 y7.1), (7, lsv (encI .i64) 1 y7.2), (54, .bool (decide (y4.2.2 = 0)))]) (H2 := [.gone]) (by kernel_rfl) ?_
                refine RJ.caseB 54 (b := (decide (y4.2.2 = 0))) (by kernel_rfl) (fun hb65 => ?_) (fun hb65 => ?_)
                · have h66 := condT hb65 h63
                  refine RJ.seg 5 [0, 7, 59] (L2 := [(0, .bool false), (7, lsv (encI .i64) 1 y7.2), (59, .bool ((decide ((y7.1.length : Int) = 2))))]) (H2 := [.gone]) (by kernel_rfl) ?_
                  refine RJ.caseB 59 (b := (decide ((y7.1.length : Int) = 2))) (by kernel_rfl) (fun hb68 => ?_) (fun hb68 => ?_)
                  · have h69 := condT hb68 h66
                    refine RJ.seg 5 [0, 7, 64] (L2 := [(0, .bool false), (7, lsv (encI .i64) 1 y7.2), (64, .bool ((decide ((y7.2.length : Int) = 3))))]) (H2 := [.gone]) (by kernel_rfl) ?_
                    refine RJ.caseB 64 (b := (decide ((y7.2.length : Int) = 3))) (by kernel_rfl) (fun hb71 => ?_) (fun hb71 => ?_)
                    · have h72 := condT hb71 h69
                      refine RJ.seg 1 [0, 64, 65] (L2 := [(0, .bool false), (64, .bool true), (65, lsv (encI .i64) 1 y7.2)]) (H2 := [.gone]) (by kernel_rfl) ?_
                      obtain ⟨hm, h74⟩ := asrt h72
                      refine RJ.rel (d := (some 66)) (ef := ⟨.ep (((y7.2.flatMap (encI .i64)).drop ((2 : Int).toNat * 1)).take 1), [], []⟩) (ef' := ⟨.ep ((encI .i64) (nth y7.2 2)), [], []⟩) (c := inR 2 y7.2.length) (tr2 := []) (H2 := [.gone]) (by kernel_rfl) hm (fun hc => N.idx (encI_len .i64) hc) (by kernel_rfl) ?_
                      refine RJ.seg 4 [0] (L2 := [(0, .bool ((decide ((nth y7.2 2) = 0))))]) (H2 := [.gone]) (by kernel_rfl) ?_
                      refine RJ.end (by kernel_rfl) ?_
                      obtain rfl := Option.some.inj h74
                      refine PJ.wk (Wk.sel (L2 := [(0, .bool ((decide ((nth y7.2 2) = 0))))]) (H2 := []) 0 (by rw [hFH]; rfl) hFD [] (by kernel_rfl) (by kernel_rfl) (by decide) (by kernel_rfl) (by kernel_rfl) (by kernel_rfl) (by kernel_rfl)) ?_
                      exact PJ.cutN [0] (by kernel_rfl) (by kernel_rfl)
                    · have h73 := condF hb71 h69
                      refine RJ.seg 6 [0] (L2 := [(0, .bool false)]) (H2 := [.gone]) (by kernel_rfl) ?_
                      refine RJ.end (by kernel_rfl) ?_
                      obtain rfl := Option.some.inj h73
                      refine PJ.wk (Wk.sel (L2 := [(0, .bool false)]) (H2 := []) 0 (by rw [hFH]; rfl) hFD [] (by kernel_rfl) (by kernel_rfl) (by decide) (by kernel_rfl) (by kernel_rfl) (by kernel_rfl) (by kernel_rfl)) ?_
                      exact PJ.cutN [0] (by kernel_rfl) (by kernel_rfl)
                  · have h70 := condF hb68 h66
                    refine RJ.seg 11 [0] (L2 := [(0, .bool false)]) (H2 := [.gone]) (by kernel_rfl) ?_
                    refine RJ.end (by kernel_rfl) ?_
                    obtain rfl := Option.some.inj h70
                    refine PJ.wk (Wk.sel (L2 := [(0, .bool false)]) (H2 := []) 0 (by rw [hFH]; rfl) hFD [] (by kernel_rfl) (by kernel_rfl) (by decide) (by kernel_rfl) (by kernel_rfl) (by kernel_rfl) (by kernel_rfl)) ?_
                    exact PJ.cutN [0] (by kernel_rfl) (by kernel_rfl)
                · have h67 := condF hb65 h63
                  refine RJ.seg 16 [0] (L2 := [(0, .bool false)]) (H2 := [.gone]) (by kernel_rfl) ?_
                  refine RJ.end (by kernel_rfl) ?_
                  obtain rfl := Option.some.inj h67
                  refine PJ.wk (Wk.sel (L2 := [(0, .bool false)]) (H2 := []) 0 (by rw [hFH]; rfl) hFD [] (by kernel_rfl) (by kernel_rfl) (by decide) (by kernel_rfl) (by kernel_rfl) (by kernel_rfl) (by kernel_rfl)) ?_
                  exact PJ.cutN [0] (by kernel_rfl) (by kernel_rfl)
              · have h64 := condF hb62 h60
                refine RJ.seg 20 [0] (L2 := [(0, .bool false)]) (H2 := [.gone]) (by kernel_rfl) ?_
                refine RJ.end (by kernel_rfl) ?_
                obtain rfl := Option.some.inj h64
                refine PJ.wk (Wk.sel (L2 := [(0, .bool false)]) (H2 := []) 0 (by rw [hFH]; rfl) hFD [] (by kernel_rfl) (by kernel_rfl) (by decide) (by kernel_rfl) (by kernel_rfl) (by kernel_rfl) (by kernel_rfl)) ?_
                exact PJ.cutN [0] (by kernel_rfl) (by kernel_rfl)
            · have h61 := condF hb59 h57
              refine RJ.seg 24 [0] (L2 := [(0, .bool false)]) (H2 := [.gone]) (by kernel_rfl) ?_
              refine RJ.end (by kernel_rfl) ?_
              obtain rfl := Option.some.inj h61
              refine PJ.wk (Wk.sel (L2 := [(0, .bool false)]) (H2 := []) 0 (by rw [hFH]; rfl) hFD [] (by kernel_rfl) (by kernel_rfl) (by decide) (by kernel_rfl) (by kernel_rfl) (by kernel_rfl) (by kernel_rfl)) ?_
              exact PJ.cutN [0] (by kernel_rfl) (by kernel_rfl)
          · have h58 := condF hb56 h55
            refine RJ.seg 28 [0] (L2 := [(0, .bool false)]) (H2 := [.gone]) (by kernel_rfl) ?_
            refine RJ.end (by kernel_rfl) ?_
            obtain rfl := Option.some.inj h58
            refine PJ.wk (Wk.sel (L2 := [(0, .bool false)]) (H2 := []) 0 (by rw [hFH]; rfl) hFD [] (by kernel_rfl) (by kernel_rfl) (by decide) (by kernel_rfl) (by kernel_rfl) (by kernel_rfl) (by kernel_rfl)) ?_
            exact PJ.cutN [0] (by kernel_rfl) (by kernel_rfl)
        · have h54 := condF hb52 h51
          refine RJ.seg 34 [0] (L2 := [(0, .bool false)]) (H2 := [.gone]) (by kernel_rfl) ?_
          refine RJ.end (by kernel_rfl) ?_
          obtain rfl := Option.some.inj h54
          refine PJ.wk (Wk.sel (L2 := [(0, .bool false)]) (H2 := []) 0 (by rw [hFH]; rfl) hFD [] (by kernel_rfl) (by kernel_rfl) (by decide) (by kernel_rfl) (by kernel_rfl) (by kernel_rfl) (by kernel_rfl)) ?_
          exact PJ.cutN [0] (by kernel_rfl) (by kernel_rfl)
      · have h50 := condF hb48 h46
        refine RJ.seg 40 [0] (L2 := [(0, .bool false)]) (H2 := [.gone]) (by kernel_rfl) ?_
        refine RJ.end (by kernel_rfl) ?_
        obtain rfl := Option.some.inj h50
        refine PJ.wk (Wk.sel (L2 := [(0, .bool false)]) (H2 := []) 0 (by rw [hFH]; rfl) hFD [] (by kernel_rfl) (by kernel_rfl) (by decide) (by kernel_rfl) (by kernel_rfl) (by kernel_rfl) (by kernel_rfl)) ?_
        exact PJ.cutN [0] (by kernel_rfl) (by kernel_rfl)
    · have h47 := condF hb45 hy42
      refine RJ.seg 45 [0] (L2 := [(0, .bool false)]) (H2 := [.gone]) (by kernel_rfl) ?_
      refine RJ.end (by kernel_rfl) ?_
      obtain rfl := Option.some.inj h47
      refine PJ.wk (Wk.sel (L2 := [(0, .bool false)]) (H2 := []) 0 (by rw [hFH]; rfl) hFD [] (by kernel_rfl) (by kernel_rfl) (by decide) (by kernel_rfl) (by kernel_rfl) (by kernel_rfl) (by kernel_rfl)) ?_
      exact PJ.cutN [0] (by kernel_rfl) (by kernel_rfl)
  · refine K.ret (by kernel_rfl) ?_
    obtain rfl := Option.some.inj h44
    exact K.ret0 (.inr rfl) hFn hFH hFD (by kernel_rfl) (by kernel_rfl) (by kernel_rfl)

def exergueref09_Put (x0 : List Int) (x1 : Int) (x2 : Int) : Option ((List Int) × Int) :=
  (bif room x0.length then (Option.bind (Option.bind (bif (decide (x2 = 1)) then (some (decide (x1 < 256))) else (some false)) fun (s26 : Bool) => (bif s26 then (bif room (x0.length + ([(IntKind.wrap .u8 x1)] : List Int).length) then (some (.inr ((x0 ++ ([(IntKind.wrap .u8 x1)] : List Int)), 0))) else none) else (some (.inl ())))) (joinX fun (s18 : Unit) => (Option.bind (Option.bind (bif (decide (x2 = 2)) then (some (decide (x1 < 65536))) else (some false)) fun (s63 : Bool) => (bif s63 then (bif room (x0.length + (([(IntKind.wrap .u8 (IntKind.wrap .u32 (Int.tdiv x1 256))), (IntKind.wrap .u8 (Int.tmod x1 256))] : List Int)).length) then (some (.inr ((x0 ++ (([(IntKind.wrap .u8 (IntKind.wrap .u32 (Int.tdiv x1 256))), (IntKind.wrap .u8 (Int.tmod x1 256))] : List Int))), 0))) else none) else (some (.inl ())))) (joinX fun (s55 : Unit) => (bif (decide (x2 = 4)) then (bif room (x0.length + (([(IntKind.wrap .u8 (IntKind.wrap .u32 (Int.tdiv x1 16777216))), (IntKind.wrap .u8 ((Int.tmod (IntKind.wrap .u32 (Int.tdiv x1 65536)) 256))), (IntKind.wrap .u8 ((Int.tmod (IntKind.wrap .u32 (Int.tdiv x1 256)) 256))), (IntKind.wrap .u8 (Int.tmod x1 256))] : List Int)).length) then (some ((x0 ++ (([(IntKind.wrap .u8 (IntKind.wrap .u32 (Int.tdiv x1 16777216))), (IntKind.wrap .u8 ((Int.tmod (IntKind.wrap .u32 (Int.tdiv x1 65536)) 256))), (IntKind.wrap .u8 ((Int.tmod (IntKind.wrap .u32 (Int.tdiv x1 256)) 256))), (IntKind.wrap .u8 (Int.tmod x1 256))] : List Int))), 0)) else none) else (some (x0, 1))))))) else none)
theorem exergueref09_Put_ok {x0 : List Int} {x1 : Int} {x2 : Int} {r : (List Int) × Int} (h : exergueref09_Put x0 x1 x2 = some r) : SC Try.prog 12 [lsv (encI .u8) 1 x0, .int .u32 x1, .int .i64 x2] [] (.tup [lsv (encI .u8) 1 r.1, .int .i64 r.2]) [] := by
  refine K.fn (fn := Try.f12) (by kernel_rfl) (by kernel_rfl) (by kernel_rfl) (by kernel_rfl) (by kernel_rfl) (fun F hFn hFH hFD => ?_)
  unfold exergueref09_Put at h
  refine K.seq (by kernel_rfl) ?_
  refine K.region (by kernel_rfl) ?_
  refine RJ.seg 2 [0, 1, 2, 6, 7] (L2 := [(0, lsv (encI .u8) 1 x0), (1, .int .u32 x1), (2, .int .i64 x2), (6, .nl), (7, .int .i64 0)]) (H2 := []) (by kernel_rfl) ?_
  refine RJ.end (by kernel_rfl) ?_
  refine PJ.next ?_
  refine K.seq (by kernel_rfl) ?_
  refine K.region (by kernel_rfl) ?_
  refine RJ.seg 2 [0, 1, 2, 6, 7, 9, 10] (L2 := [(0, lsv (encI .u8) 1 x0), (1, .int .u32 x1), (2, .int .i64 x2), (6, .nl), (7, .int .i64 0), (9, .nl), (10, lsv (encI .u8) 1 x0)]) (H2 := []) (by kernel_rfl) ?_
  obtain ⟨hm, h1⟩ := asrt h
  refine RJ.rel (d := (some 11)) (ef := ⟨.vc 0, [], [(0, .vec x0.length 1 5 (x0.flatMap (encI .u8)))]⟩) (ef' := ⟨.vc 0, [], [(0, .vec x0.length 1 5 (x0.flatMap (encI .u8)))]⟩) (c := room x0.length) (tr2 := []) (H2 := [vecL (encI .u8) 1 5 x0]) (by kernel_rfl) hm (fun hc => rfl) (by kernel_rfl) ?_
  refine RJ.seg 1 [0, 1, 2, 6, 7, 8] (L2 := [(0, lsv (encI .u8) 1 x0), (1, .int .u32 x1), (2, .int .i64 x2), (6, .nl), (7, .int .i64 0), (8, .vc 0)]) (H2 := [vecL (encI .u8) 1 5 x0]) (by kernel_rfl) ?_
  refine RJ.end (by kernel_rfl) ?_
  refine PJ.next ?_
  obtain ⟨y19, hy20, h21⟩ := bindS h1
  refine K.cutX (by kernel_rfl) (fun (s18 : Unit) => ([(0, lsv (encI .u8) 1 x0), (1, .int .u32 x1), (2, .int .i64 x2), (6, .nl), (7, .int .i64 0), (8, .vc 0)], [vecL (encI .u8) 1 5 x0])) y19 ?_ (fun s18 hs => ?_)
  · obtain ⟨s26, hy28, h30⟩ := bindS hy20
    refine K.cutN (by kernel_rfl) (fun (s26 : Bool) => ([(0, lsv (encI .u8) 1 x0), (1, .int .u32 x1), (2, .int .i64 x2), (6, .nl), (7, .int .i64 0), (8, .vc 0), (17, .bool s26)], [vecL (encI .u8) 1 5 x0])) s26 ?_ ?_
    · refine K.region (by kernel_rfl) ?_
      refine RJ.seg 3 [0, 1, 2, 6, 7, 8, 14] (L2 := [(0, lsv (encI .u8) 1 x0), (1, .int .u32 x1), (2, .int .i64 x2), (6, .nl), (7, .int .i64 0), (8, .vc 0), (14, .bool (decide (x2 = 1)))]) (H2 := [vecL (encI .u8) 1 5 x0]) (by kernel_rfl) ?_
      refine RJ.caseB 14 (b := (decide (x2 = 1))) (by kernel_rfl) (fun hb31 => ?_) (fun hb31 => ?_)
      · have h32 := condT hb31 hy28
        refine RJ.seg 3 [0, 1, 2, 6, 7, 8, 17] (L2 := [(0, lsv (encI .u8) 1 x0), (1, .int .u32 x1), (2, .int .i64 x2), (6, .nl), (7, .int .i64 0), (8, .vc 0), (17, .bool (decide (x1 < 256)))]) (H2 := [vecL (encI .u8) 1 5 x0]) (by kernel_rfl) ?_
        refine RJ.end (by kernel_rfl) ?_
        obtain rfl := Option.some.inj h32
        exact PJ.cutN [0, 1, 2, 6, 7, 8, 17] (by kernel_rfl) (by kernel_rfl)
      · have h33 := condF hb31 hy28
        refine RJ.seg 3 [0, 1, 2, 6, 7, 8, 17] (L2 := [(0, lsv (encI .u8) 1 x0), (1, .int .u32 x1), (2, .int .i64 x2), (6, .nl), (7, .int .i64 0), (8, .vc 0), (17, .bool false)]) (H2 := [vecL (encI .u8) 1 5 x0]) (by kernel_rfl) ?_
        refine RJ.end (by kernel_rfl) ?_
        obtain rfl := Option.some.inj h33
        exact PJ.cutN [0, 1, 2, 6, 7, 8, 17] (by kernel_rfl) (by kernel_rfl)
    · refine J.caseB 17 (b := s26) (by kernel_rfl) (fun hb34 => ?_) (fun hb34 => ?_)
      · have h35 := condT hb34 h30
        refine K.condT (by kernel_rfl) ?_
        refine K.seq (by kernel_rfl) ?_
        refine K.region (by kernel_rfl) ?_
        refine RJ.seg 4 [0, 1, 2, 6, 7, 8, 18, 21] (L2 := [(0, lsv (encI .u8) 1 x0), (1, .int .u32 x1), (2, .int .i64 x2), (6, .nl), (7, .int .i64 0), (8, .vc 0), (18, .vc 0), (21, .vc 1)]) (H2 := [vecL (encI .u8) 1 5 x0, vecL (encI .u8) 1 5 ([(IntKind.wrap .u8 x1)] : List Int)]) (by kernel_rfl) ?_
        obtain ⟨hm, h37⟩ := asrt h35
        refine RJ.rel (d := (some 22)) (ef := ⟨.vc 2, [0, 1], [(0, .gone), (2, .vec (x0.length + ([(IntKind.wrap .u8 x1)] : List Int).length) 1 5 (x0.flatMap (encI .u8) ++ ([(IntKind.wrap .u8 x1)] : List Int).flatMap (encI .u8)))]⟩) (ef' := ⟨.vc 2, [0, 1], [(0, .gone), (2, vecL (encI .u8) 1 5 (x0 ++ ([(IntKind.wrap .u8 x1)] : List Int)))]⟩) (c := room (x0.length + ([(IntKind.wrap .u8 x1)] : List Int).length)) (tr2 := []) (H2 := [.gone, vecL (encI .u8) 1 5 ([(IntKind.wrap .u8 x1)] : List Int), vecL (encI .u8) 1 5 ((x0 ++ ([(IntKind.wrap .u8 x1)] : List Int)))]) (by kernel_rfl) hm (fun hc => N.app) (by kernel_rfl) ?_
        refine RJ.seg 2 [0, 1, 2, 6, 7, 8] (L2 := [(0, lsv (encI .u8) 1 x0), (1, .int .u32 x1), (2, .int .i64 x2), (6, .vc 2), (7, .int .i64 0), (8, .vc 0)]) (H2 := [.gone, vecL (encI .u8) 1 5 ([(IntKind.wrap .u8 x1)] : List Int), vecL (encI .u8) 1 5 ((x0 ++ ([(IntKind.wrap .u8 x1)] : List Int)))]) (by kernel_rfl) ?_
        refine RJ.end (by kernel_rfl) ?_
        refine PJ.next ?_
        refine K.ret (by kernel_rfl) ?_
        obtain rfl := Option.some.inj h37
        have h38 := joinX_inr h21
        refine PJ.cutXr (fun e => nomatch e) ?_
        obtain rfl := Option.some.inj h38
        refine PJ.wk (Wk.freeze 2 (n := ((x0 ++ ([(IntKind.wrap .u8 x1)] : List Int))).length) (k := 1) (e := 5) (cs := ((x0 ++ ([(IntKind.wrap .u8 x1)] : List Int))).flatMap (encI .u8)) (by kernel_rfl)) ?_
        exact K.ret0 (.inr rfl) hFn hFH hFD (by kernel_rfl) (by kernel_rfl) (by kernel_rfl)
      · have h36 := condF hb34 h30
        refine K.condF (by kernel_rfl) ?_
        refine K.skip (by kernel_rfl) ?_
        obtain rfl := Option.some.inj h36
        exact PJ.cutXl [0, 1, 2, 6, 7, 8] (by kernel_rfl) (by kernel_rfl)
  · subst hs
    have h22 := joinX_inl h21
    obtain ⟨y56, hy57, h58⟩ := bindS h22
    refine K.cutX (by kernel_rfl) (fun (s55 : Unit) => ([(0, lsv (encI .u8) 1 x0), (1, .int .u32 x1), (2, .int .i64 x2), (6, .nl), (7, .int .i64 0), (8, .vc 0)], [vecL (encI .u8) 1 5 x0])) y56 ?_ (fun s55 hs => ?_)
    · obtain ⟨s63, hy65, h67⟩ := bindS hy57
      refine K.cutN (by kernel_rfl) (fun (s63 : Bool) => ([(0, lsv (encI .u8) 1 x0), (1, .int .u32 x1), (2, .int .i64 x2), (6, .nl), (7, .int .i64 0), (8, .vc 0), (28, .bool s63)], [vecL (encI .u8) 1 5 x0])) s63 ?_ ?_
      · refine K.region (by kernel_rfl) ?_
        refine RJ.seg 3 [0, 1, 2, 6, 7, 8, 25] (L2 := [(0, lsv (encI .u8) 1 x0), (1, .int .u32 x1), (2, .int .i64 x2), (6, .nl), (7, .int .i64 0), (8, .vc 0), (25, .bool (decide (x2 = 2)))]) (H2 := [vecL (encI .u8) 1 5 x0]) (by kernel_rfl) ?_
        refine RJ.caseB 25 (b := (decide (x2 = 2))) (by kernel_rfl) (fun hb68 => ?_) (fun hb68 => ?_)
        · have h69 := condT hb68 hy65
          refine RJ.seg 3 [0, 1, 2, 6, 7, 8, 28] (L2 := [(0, lsv (encI .u8) 1 x0), (1, .int .u32 x1), (2, .int .i64 x2), (6, .nl), (7, .int .i64 0), (8, .vc 0), (28, .bool (decide (x1 < 65536)))]) (H2 := [vecL (encI .u8) 1 5 x0]) (by kernel_rfl) ?_
          refine RJ.end (by kernel_rfl) ?_
          obtain rfl := Option.some.inj h69
          exact PJ.cutN [0, 1, 2, 6, 7, 8, 28] (by kernel_rfl) (by kernel_rfl)
        · have h70 := condF hb68 hy65
          refine RJ.seg 3 [0, 1, 2, 6, 7, 8, 28] (L2 := [(0, lsv (encI .u8) 1 x0), (1, .int .u32 x1), (2, .int .i64 x2), (6, .nl), (7, .int .i64 0), (8, .vc 0), (28, .bool false)]) (H2 := [vecL (encI .u8) 1 5 x0]) (by kernel_rfl) ?_
          refine RJ.end (by kernel_rfl) ?_
          obtain rfl := Option.some.inj h70
          exact PJ.cutN [0, 1, 2, 6, 7, 8, 28] (by kernel_rfl) (by kernel_rfl)
      · refine J.caseB 28 (b := s63) (by kernel_rfl) (fun hb71 => ?_) (fun hb71 => ?_)
        · have h72 := condT hb71 h67
          refine K.condT (by kernel_rfl) ?_
          refine K.seq (by kernel_rfl) ?_
          refine K.region (by kernel_rfl) ?_
          refine RJ.seg 8 [0, 1, 2, 6, 7, 8, 29, 36] (L2 := [(0, lsv (encI .u8) 1 x0), (1, .int .u32 x1), (2, .int .i64 x2), (6, .nl), (7, .int .i64 0), (8, .vc 0), (29, .vc 0), (36, .vc 1)]) (H2 := [vecL (encI .u8) 1 5 x0, vecL (encI .u8) 1 5 (([(IntKind.wrap .u8 (IntKind.wrap .u32 (Int.tdiv x1 256))), (IntKind.wrap .u8 (Int.tmod x1 256))] : List Int))]) (by kernel_rfl) ?_
          obtain ⟨hm, h74⟩ := asrt h72
          refine RJ.rel (d := (some 37)) (ef := ⟨.vc 2, [0, 1], [(0, .gone), (2, .vec (x0.length + (([(IntKind.wrap .u8 (IntKind.wrap .u32 (Int.tdiv x1 256))), (IntKind.wrap .u8 (Int.tmod x1 256))] : List Int)).length) 1 5 (x0.flatMap (encI .u8) ++ (([(IntKind.wrap .u8 (IntKind.wrap .u32 (Int.tdiv x1 256))), (IntKind.wrap .u8 (Int.tmod x1 256))] : List Int)).flatMap (encI .u8)))]⟩) (ef' := ⟨.vc 2, [0, 1], [(0, .gone), (2, vecL (encI .u8) 1 5 (x0 ++ (([(IntKind.wrap .u8 (IntKind.wrap .u32 (Int.tdiv x1 256))), (IntKind.wrap .u8 (Int.tmod x1 256))] : List Int))))]⟩) (c := room (x0.length + (([(IntKind.wrap .u8 (IntKind.wrap .u32 (Int.tdiv x1 256))), (IntKind.wrap .u8 (Int.tmod x1 256))] : List Int)).length)) (tr2 := []) (H2 := [.gone, vecL (encI .u8) 1 5 (([(IntKind.wrap .u8 (IntKind.wrap .u32 (Int.tdiv x1 256))), (IntKind.wrap .u8 (Int.tmod x1 256))] : List Int)), vecL (encI .u8) 1 5 ((x0 ++ (([(IntKind.wrap .u8 (IntKind.wrap .u32 (Int.tdiv x1 256))), (IntKind.wrap .u8 (Int.tmod x1 256))] : List Int))))]) (by kernel_rfl) hm (fun hc => N.app) (by kernel_rfl) ?_
          refine RJ.seg 2 [0, 1, 2, 6, 7, 8] (L2 := [(0, lsv (encI .u8) 1 x0), (1, .int .u32 x1), (2, .int .i64 x2), (6, .vc 2), (7, .int .i64 0), (8, .vc 0)]) (H2 := [.gone, vecL (encI .u8) 1 5 (([(IntKind.wrap .u8 (IntKind.wrap .u32 (Int.tdiv x1 256))), (IntKind.wrap .u8 (Int.tmod x1 256))] : List Int)), vecL (encI .u8) 1 5 ((x0 ++ (([(IntKind.wrap .u8 (IntKind.wrap .u32 (Int.tdiv x1 256))), (IntKind.wrap .u8 (Int.tmod x1 256))] : List Int))))]) (by kernel_rfl) ?_
          refine RJ.end (by kernel_rfl) ?_
          refine PJ.next ?_
          refine K.ret (by kernel_rfl) ?_
          obtain rfl := Option.some.inj h74
          have h75 := joinX_inr h58
          refine PJ.cutXr (fun e => nomatch e) ?_
          obtain rfl := Option.some.inj h75
          refine PJ.wk (Wk.freeze 2 (n := ((x0 ++ (([(IntKind.wrap .u8 (IntKind.wrap .u32 (Int.tdiv x1 256))), (IntKind.wrap .u8 (Int.tmod x1 256))] : List Int)))).length) (k := 1) (e := 5) (cs := ((x0 ++ (([(IntKind.wrap .u8 (IntKind.wrap .u32 (Int.tdiv x1 256))), (IntKind.wrap .u8 (Int.tmod x1 256))] : List Int)))).flatMap (encI .u8)) (by kernel_rfl)) ?_
          exact K.ret0 (.inr rfl) hFn hFH hFD (by kernel_rfl) (by kernel_rfl) (by kernel_rfl)
        · have h73 := condF hb71 h67
          refine K.condF (by kernel_rfl) ?_
          refine K.skip (by kernel_rfl) ?_
          obtain rfl := Option.some.inj h73
          exact PJ.cutXl [0, 1, 2, 6, 7, 8] (by kernel_rfl) (by kernel_rfl)
    · subst hs
      have h59 := joinX_inl h58
      refine K.seq (by kernel_rfl) ?_
      refine K.seq (by kernel_rfl) ?_
      refine K.region (by kernel_rfl) ?_
      refine RJ.seg 2 [0, 1, 6, 7, 8, 39] (L2 := [(0, lsv (encI .u8) 1 x0), (1, .int .u32 x1), (6, .nl), (7, .int .i64 0), (8, .vc 0), (39, .bool (decide (x2 = 4)))]) (H2 := [vecL (encI .u8) 1 5 x0]) (by kernel_rfl) ?_
      refine RJ.end (by kernel_rfl) ?_
      refine PJ.next ?_
      refine J.caseB 39 (b := (decide (x2 = 4))) (by kernel_rfl) (fun hb76 => ?_) (fun hb76 => ?_)
      · have h77 := condT hb76 h59
        refine K.condT (by kernel_rfl) ?_
        refine K.seq (by kernel_rfl) ?_
        refine K.region (by kernel_rfl) ?_
        refine RJ.seg 16 [0, 6, 7, 40, 55] (L2 := [(0, lsv (encI .u8) 1 x0), (6, .nl), (7, .int .i64 0), (40, .vc 0), (55, .vc 1)]) (H2 := [vecL (encI .u8) 1 5 x0, vecL (encI .u8) 1 5 (([(IntKind.wrap .u8 (IntKind.wrap .u32 (Int.tdiv x1 16777216))), (IntKind.wrap .u8 ((Int.tmod (IntKind.wrap .u32 (Int.tdiv x1 65536)) 256))), (IntKind.wrap .u8 ((Int.tmod (IntKind.wrap .u32 (Int.tdiv x1 256)) 256))), (IntKind.wrap .u8 (Int.tmod x1 256))] : List Int))]) (by kernel_rfl) ?_
        obtain ⟨hm, h79⟩ := asrt h77
        refine RJ.rel (d := (some 56)) (ef := ⟨.vc 2, [0, 1], [(0, .gone), (2, .vec (x0.length + (([(IntKind.wrap .u8 (IntKind.wrap .u32 (Int.tdiv x1 16777216))), (IntKind.wrap .u8 ((Int.tmod (IntKind.wrap .u32 (Int.tdiv x1 65536)) 256))), (IntKind.wrap .u8 ((Int.tmod (IntKind.wrap .u32 (Int.tdiv x1 256)) 256))), (IntKind.wrap .u8 (Int.tmod x1 256))] : List Int)).length) 1 5 (x0.flatMap (encI .u8) ++ (([(IntKind.wrap .u8 (IntKind.wrap .u32 (Int.tdiv x1 16777216))), (IntKind.wrap .u8 ((Int.tmod (IntKind.wrap .u32 (Int.tdiv x1 65536)) 256))), (IntKind.wrap .u8 ((Int.tmod (IntKind.wrap .u32 (Int.tdiv x1 256)) 256))), (IntKind.wrap .u8 (Int.tmod x1 256))] : List Int)).flatMap (encI .u8)))]⟩) (ef' := ⟨.vc 2, [0, 1], [(0, .gone), (2, vecL (encI .u8) 1 5 (x0 ++ (([(IntKind.wrap .u8 (IntKind.wrap .u32 (Int.tdiv x1 16777216))), (IntKind.wrap .u8 ((Int.tmod (IntKind.wrap .u32 (Int.tdiv x1 65536)) 256))), (IntKind.wrap .u8 ((Int.tmod (IntKind.wrap .u32 (Int.tdiv x1 256)) 256))), (IntKind.wrap .u8 (Int.tmod x1 256))] : List Int))))]⟩) (c := room (x0.length + (([(IntKind.wrap .u8 (IntKind.wrap .u32 (Int.tdiv x1 16777216))), (IntKind.wrap .u8 ((Int.tmod (IntKind.wrap .u32 (Int.tdiv x1 65536)) 256))), (IntKind.wrap .u8 ((Int.tmod (IntKind.wrap .u32 (Int.tdiv x1 256)) 256))), (IntKind.wrap .u8 (Int.tmod x1 256))] : List Int)).length)) (tr2 := []) (H2 := [.gone, vecL (encI .u8) 1 5 (([(IntKind.wrap .u8 (IntKind.wrap .u32 (Int.tdiv x1 16777216))), (IntKind.wrap .u8 ((Int.tmod (IntKind.wrap .u32 (Int.tdiv x1 65536)) 256))), (IntKind.wrap .u8 ((Int.tmod (IntKind.wrap .u32 (Int.tdiv x1 256)) 256))), (IntKind.wrap .u8 (Int.tmod x1 256))] : List Int)), vecL (encI .u8) 1 5 ((x0 ++ (([(IntKind.wrap .u8 (IntKind.wrap .u32 (Int.tdiv x1 16777216))), (IntKind.wrap .u8 ((Int.tmod (IntKind.wrap .u32 (Int.tdiv x1 65536)) 256))), (IntKind.wrap .u8 ((Int.tmod (IntKind.wrap .u32 (Int.tdiv x1 256)) 256))), (IntKind.wrap .u8 (Int.tmod x1 256))] : List Int))))]) (by kernel_rfl) hm (fun hc => N.app) (by kernel_rfl) ?_
        refine RJ.seg 2 [0, 6, 7] (L2 := [(0, lsv (encI .u8) 1 x0), (6, .vc 2), (7, .int .i64 0)]) (H2 := [.gone, vecL (encI .u8) 1 5 (([(IntKind.wrap .u8 (IntKind.wrap .u32 (Int.tdiv x1 16777216))), (IntKind.wrap .u8 ((Int.tmod (IntKind.wrap .u32 (Int.tdiv x1 65536)) 256))), (IntKind.wrap .u8 ((Int.tmod (IntKind.wrap .u32 (Int.tdiv x1 256)) 256))), (IntKind.wrap .u8 (Int.tmod x1 256))] : List Int)), vecL (encI .u8) 1 5 ((x0 ++ (([(IntKind.wrap .u8 (IntKind.wrap .u32 (Int.tdiv x1 16777216))), (IntKind.wrap .u8 ((Int.tmod (IntKind.wrap .u32 (Int.tdiv x1 65536)) 256))), (IntKind.wrap .u8 ((Int.tmod (IntKind.wrap .u32 (Int.tdiv x1 256)) 256))), (IntKind.wrap .u8 (Int.tmod x1 256))] : List Int))))]) (by kernel_rfl) ?_
        refine RJ.end (by kernel_rfl) ?_
        refine PJ.next ?_
        refine K.ret (by kernel_rfl) ?_
        refine PJ.passRet ?_
        obtain rfl := Option.some.inj h79
        refine PJ.wk (Wk.freeze 2 (n := ((x0 ++ (([(IntKind.wrap .u8 (IntKind.wrap .u32 (Int.tdiv x1 16777216))), (IntKind.wrap .u8 ((Int.tmod (IntKind.wrap .u32 (Int.tdiv x1 65536)) 256))), (IntKind.wrap .u8 ((Int.tmod (IntKind.wrap .u32 (Int.tdiv x1 256)) 256))), (IntKind.wrap .u8 (Int.tmod x1 256))] : List Int)))).length) (k := 1) (e := 5) (cs := ((x0 ++ (([(IntKind.wrap .u8 (IntKind.wrap .u32 (Int.tdiv x1 16777216))), (IntKind.wrap .u8 ((Int.tmod (IntKind.wrap .u32 (Int.tdiv x1 65536)) 256))), (IntKind.wrap .u8 ((Int.tmod (IntKind.wrap .u32 (Int.tdiv x1 256)) 256))), (IntKind.wrap .u8 (Int.tmod x1 256))] : List Int)))).flatMap (encI .u8)) (by kernel_rfl)) ?_
        exact K.ret0 (.inr rfl) hFn hFH hFD (by kernel_rfl) (by kernel_rfl) (by kernel_rfl)
      · have h78 := condF hb76 h59
        refine K.condF (by kernel_rfl) ?_
        refine K.skip (by kernel_rfl) ?_
        refine PJ.next ?_
        refine K.seq (by kernel_rfl) ?_
        refine K.region (by kernel_rfl) ?_
        refine RJ.seg 3 [6, 7] (L2 := [(6, lsv (encI .u8) 1 x0), (7, .int .i64 1)]) (H2 := [vecL (encI .u8) 1 5 x0]) (by kernel_rfl) ?_
        refine RJ.end (by kernel_rfl) ?_
        refine PJ.next ?_
        refine K.ret (by kernel_rfl) ?_
        obtain rfl := Option.some.inj h78
        exact K.ret0 (.inr rfl) hFn hFH hFD (by kernel_rfl) (by kernel_rfl) (by kernel_rfl)

def exergueref09_Take (x0 : List Int) (x1 : Int) (x2 : Int) : Option (Int × Int × Int) :=
  (Option.bind (Option.bind (bif (decide (¬ x2 = 1)) then (bif (decide (¬ x2 = 2)) then (bif (decide (¬ x2 = 4)) then (some true) else (some (decide (x1 < 0)))) else (some (decide (x1 < 0)))) else (some (decide (x1 < 0)))) fun (s42 : Bool) => (bif s42 then (some (.inr (0, 0, 1))) else (some (.inl ())))) (joinX fun (s28 : Unit) => (Option.bind (Option.bind (bif (decide (x1 > (x0.length : Int))) then (some true) else (some ((decide (((IntKind.wrap .i64 ((x0.length : Int) - x1))) < x2))))) fun (s83 : Bool) => (bif s83 then (some (.inr (0, 0, 2))) else (some (.inl ())))) (joinX fun (s75 : Unit) => (Option.bind (loopN (fun (s121 : Int × Int) => (bif (decide (s121.2 < x2)) then (bif inR (IntKind.wrap .i64 (x1 + s121.2)) x0.length then (some (.inl ((IntKind.wrap .u32 ((IntKind.wrap .u32 (s121.1 * 256)) + ((IntKind.wrap .u32 ((nth x0 (IntKind.wrap .i64 (x1 + s121.2)))))))), (IntKind.wrap .i64 (s121.2 + 1))))) else none) else (some (.inr s121.1)))) big (0, 0)) fun (s116 : Int) => (some (s116, (IntKind.wrap .i64 (x1 + x2)), 0)))))))
theorem exergueref09_Take_ok {x0 : List Int} {x1 : Int} {x2 : Int} {r : Int × Int × Int} (h : exergueref09_Take x0 x1 x2 = some r) : SC Try.prog 14 [lsv (encI .u8) 1 x0, .int .i64 x1, .int .i64 x2] [] (.tup [.int .u32 r.1, .int .i64 r.2.1, .int .i64 r.2.2]) [] := by
  refine K.fn (fn := Try.f14) (by kernel_rfl) (by kernel_rfl) (by kernel_rfl) (by kernel_rfl) (by kernel_rfl) (fun F hFn hFH hFD => ?_)
  unfold exergueref09_Take at h
  refine K.seq (by kernel_rfl) ?_
  refine K.region (by kernel_rfl) ?_
  refine RJ.seg 3 [0, 1, 2, 6, 7, 8] (L2 := [(0, lsv (encI .u8) 1 x0), (1, .int .i64 x1), (2, .int .i64 x2), (6, .int .u32 0), (7, .int .i64 0), (8, .int .i64 0)]) (H2 := []) (by kernel_rfl) ?_
  refine RJ.end (by kernel_rfl) ?_
  refine PJ.next ?_
  obtain ⟨y29, hy30, h31⟩ := bindS h
  refine K.cutX (by kernel_rfl) (fun (s28 : Unit) => ([(0, lsv (encI .u8) 1 x0), (1, .int .i64 x1), (2, .int .i64 x2), (6, .int .u32 0), (7, .int .i64 0), (8, .int .i64 0)], [])) y29 ?_ (fun s28 hs => ?_)
  · obtain ⟨s42, hy44, h46⟩ := bindS hy30
    refine K.cutN (by kernel_rfl) (fun (s42 : Bool) => ([(0, lsv (encI .u8) 1 x0), (1, .int .i64 x1), (2, .int .i64 x2), (6, .int .u32 0), (7, .int .i64 0), (8, .int .i64 0), (24, .bool s42)], [])) s42 ?_ ?_
    · refine K.region (by kernel_rfl) ?_
      refine RJ.seg 3 [0, 1, 2, 6, 7, 8, 13] (L2 := [(0, lsv (encI .u8) 1 x0), (1, .int .i64 x1), (2, .int .i64 x2), (6, .int .u32 0), (7, .int .i64 0), (8, .int .i64 0), (13, .bool (decide (¬ x2 = 1)))]) (H2 := []) (by kernel_rfl) ?_
      refine RJ.caseB 13 (b := (decide (¬ x2 = 1))) (by kernel_rfl) (fun hb47 => ?_) (fun hb47 => ?_)
      · have h48 := condT hb47 hy44
        refine RJ.seg 4 [0, 1, 2, 6, 7, 8, 17] (L2 := [(0, lsv (encI .u8) 1 x0), (1, .int .i64 x1), (2, .int .i64 x2), (6, .int .u32 0), (7, .int .i64 0), (8, .int .i64 0), (17, .bool (decide (¬ x2 = 2)))]) (H2 := []) (by kernel_rfl) ?_
        refine RJ.caseB 17 (b := (decide (¬ x2 = 2))) (by kernel_rfl) (fun hb50 => ?_) (fun hb50 => ?_)
        · have h51 := condT hb50 h48
          refine RJ.seg 4 [0, 1, 2, 6, 7, 8, 21] (L2 := [(0, lsv (encI .u8) 1 x0), (1, .int .i64 x1), (2, .int .i64 x2), (6, .int .u32 0), (7, .int .i64 0), (8, .int .i64 0), (21, .bool (decide (¬ x2 = 4)))]) (H2 := []) (by kernel_rfl) ?_
          refine RJ.caseB 21 (b := (decide (¬ x2 = 4))) (by kernel_rfl) (fun hb53 => ?_) (fun hb53 => ?_)
          · have h54 := condT hb53 h51
            refine RJ.seg 3 [0, 1, 2, 6, 7, 8, 24] (L2 := [(0, lsv (encI .u8) 1 x0), (1, .int .i64 x1), (2, .int .i64 x2), (6, .int .u32 0), (7, .int .i64 0), (8, .int .i64 0), (24, .bool true)]) (H2 := []) (by kernel_rfl) ?_
            refine RJ.end (by kernel_rfl) ?_
            obtain rfl := Option.some.inj h54
            exact PJ.cutN [0, 1, 2, 6, 7, 8, 24] (by kernel_rfl) (by kernel_rfl)
          · have h55 := condF hb53 h51
            refine RJ.seg 3 [0, 1, 2, 6, 7, 8, 24] (L2 := [(0, lsv (encI .u8) 1 x0), (1, .int .i64 x1), (2, .int .i64 x2), (6, .int .u32 0), (7, .int .i64 0), (8, .int .i64 0), (24, .bool (decide (x1 < 0)))]) (H2 := []) (by kernel_rfl) ?_
            refine RJ.end (by kernel_rfl) ?_
            obtain rfl := Option.some.inj h55
            exact PJ.cutN [0, 1, 2, 6, 7, 8, 24] (by kernel_rfl) (by kernel_rfl)
        · have h52 := condF hb50 h48
          refine RJ.seg 7 [0, 1, 2, 6, 7, 8, 24] (L2 := [(0, lsv (encI .u8) 1 x0), (1, .int .i64 x1), (2, .int .i64 x2), (6, .int .u32 0), (7, .int .i64 0), (8, .int .i64 0), (24, .bool (decide (x1 < 0)))]) (H2 := []) (by kernel_rfl) ?_
          refine RJ.end (by kernel_rfl) ?_
          obtain rfl := Option.some.inj h52
          exact PJ.cutN [0, 1, 2, 6, 7, 8, 24] (by kernel_rfl) (by kernel_rfl)
      · have h49 := condF hb47 hy44
        refine RJ.seg 11 [0, 1, 2, 6, 7, 8, 24] (L2 := [(0, lsv (encI .u8) 1 x0), (1, .int .i64 x1), (2, .int .i64 x2), (6, .int .u32 0), (7, .int .i64 0), (8, .int .i64 0), (24, .bool (decide (x1 < 0)))]) (H2 := []) (by kernel_rfl) ?_
        refine RJ.end (by kernel_rfl) ?_
        obtain rfl := Option.some.inj h49
        exact PJ.cutN [0, 1, 2, 6, 7, 8, 24] (by kernel_rfl) (by kernel_rfl)
    · refine J.caseB 24 (b := s42) (by kernel_rfl) (fun hb56 => ?_) (fun hb56 => ?_)
      · have h57 := condT hb56 h46
        refine K.condT (by kernel_rfl) ?_
        refine K.seq (by kernel_rfl) ?_
        refine K.region (by kernel_rfl) ?_
        refine RJ.seg 3 [0, 1, 2, 6, 7, 8] (L2 := [(0, lsv (encI .u8) 1 x0), (1, .int .i64 x1), (2, .int .i64 x2), (6, .int .u32 0), (7, .int .i64 0), (8, .int .i64 1)]) (H2 := []) (by kernel_rfl) ?_
        refine RJ.end (by kernel_rfl) ?_
        refine PJ.next ?_
        refine K.ret (by kernel_rfl) ?_
        obtain rfl := Option.some.inj h57
        have h59 := joinX_inr h31
        refine PJ.cutXr (fun e => nomatch e) ?_
        obtain rfl := Option.some.inj h59
        exact K.ret0 (.inr rfl) hFn hFH hFD (by kernel_rfl) (by kernel_rfl) (by kernel_rfl)
      · have h58 := condF hb56 h46
        refine K.condF (by kernel_rfl) ?_
        refine K.skip (by kernel_rfl) ?_
        obtain rfl := Option.some.inj h58
        exact PJ.cutXl [0, 1, 2, 6, 7, 8] (by kernel_rfl) (by kernel_rfl)
  · subst hs
    have h32 := joinX_inl h31
    obtain ⟨y76, hy77, h78⟩ := bindS h32
    refine K.cutX (by kernel_rfl) (fun (s75 : Unit) => ([(0, lsv (encI .u8) 1 x0), (1, .int .i64 x1), (2, .int .i64 x2), (6, .int .u32 0), (7, .int .i64 0), (8, .int .i64 0)], [])) y76 ?_ (fun s75 hs => ?_)
    · obtain ⟨s83, hy85, h87⟩ := bindS hy77
      refine K.cutN (by kernel_rfl) (fun (s83 : Bool) => ([(0, lsv (encI .u8) 1 x0), (1, .int .i64 x1), (2, .int .i64 x2), (6, .int .u32 0), (7, .int .i64 0), (8, .int .i64 0), (36, .bool s83)], [])) s83 ?_ ?_
      · refine K.region (by kernel_rfl) ?_
        refine RJ.seg 5 [0, 1, 2, 6, 7, 8, 29] (L2 := [(0, lsv (encI .u8) 1 x0), (1, .int .i64 x1), (2, .int .i64 x2), (6, .int .u32 0), (7, .int .i64 0), (8, .int .i64 0), (29, .bool ((decide (x1 > (x0.length : Int)))))]) (H2 := []) (by kernel_rfl) ?_
        refine RJ.caseB 29 (b := (decide (x1 > (x0.length : Int)))) (by kernel_rfl) (fun hb88 => ?_) (fun hb88 => ?_)
        · have h89 := condT hb88 hy85
          refine RJ.seg 7 [0, 1, 2, 6, 7, 8, 36] (L2 := [(0, lsv (encI .u8) 1 x0), (1, .int .i64 x1), (2, .int .i64 x2), (6, .int .u32 0), (7, .int .i64 0), (8, .int .i64 0), (36, .bool true)]) (H2 := []) (by kernel_rfl) ?_
          refine RJ.end (by kernel_rfl) ?_
          obtain rfl := Option.some.inj h89
          exact PJ.cutN [0, 1, 2, 6, 7, 8, 36] (by kernel_rfl) (by kernel_rfl)
        · have h90 := condF hb88 hy85
          refine RJ.seg 7 [0, 1, 2, 6, 7, 8, 36] (L2 := [(0, lsv (encI .u8) 1 x0), (1, .int .i64 x1), (2, .int .i64 x2), (6, .int .u32 0), (7, .int .i64 0), (8, .int .i64 0), (36, .bool ((decide (((IntKind.wrap .i64 ((x0.length : Int) - x1))) < x2))))]) (H2 := []) (by kernel_rfl) ?_
          refine RJ.end (by kernel_rfl) ?_
          obtain rfl := Option.some.inj h90
          exact PJ.cutN [0, 1, 2, 6, 7, 8, 36] (by kernel_rfl) (by kernel_rfl)
      · refine J.caseB 36 (b := s83) (by kernel_rfl) (fun hb91 => ?_) (fun hb91 => ?_)
        · have h92 := condT hb91 h87
          refine K.condT (by kernel_rfl) ?_
          refine K.seq (by kernel_rfl) ?_
          refine K.region (by kernel_rfl) ?_
          refine RJ.seg 3 [0, 1, 2, 6, 7, 8] (L2 := [(0, lsv (encI .u8) 1 x0), (1, .int .i64 x1), (2, .int .i64 x2), (6, .int .u32 0), (7, .int .i64 0), (8, .int .i64 2)]) (H2 := []) (by kernel_rfl) ?_
          refine RJ.end (by kernel_rfl) ?_
          refine PJ.next ?_
          refine K.ret (by kernel_rfl) ?_
          obtain rfl := Option.some.inj h92
          have h94 := joinX_inr h78
          refine PJ.cutXr (fun e => nomatch e) ?_
          obtain rfl := Option.some.inj h94
          exact K.ret0 (.inr rfl) hFn hFH hFD (by kernel_rfl) (by kernel_rfl) (by kernel_rfl)
        · have h93 := condF hb91 h87
          refine K.condF (by kernel_rfl) ?_
          refine K.skip (by kernel_rfl) ?_
          obtain rfl := Option.some.inj h93
          exact PJ.cutXl [0, 1, 2, 6, 7, 8] (by kernel_rfl) (by kernel_rfl)
    · subst hs
      have h79 := joinX_inl h78
      refine K.seq (by kernel_rfl) ?_
      refine K.region (by kernel_rfl) ?_
      refine RJ.seg 1 [0, 1, 2, 6, 7, 8, 9] (L2 := [(0, lsv (encI .u8) 1 x0), (1, .int .i64 x1), (2, .int .i64 x2), (6, .int .u32 0), (7, .int .i64 0), (8, .int .i64 0), (9, .int .u32 0)]) (H2 := []) (by kernel_rfl) ?_
      refine RJ.end (by kernel_rfl) ?_
      refine PJ.next ?_
      obtain ⟨s116, hy118, h120⟩ := bindS h79
      refine K.cutN (by kernel_rfl) (fun (s116 : Int) => ([(1, .int .i64 x1), (2, .int .i64 x2), (6, .int .u32 0), (7, .int .i64 0), (8, .int .i64 0), (9, .int .u32 s116)], [])) s116 ?_ ?_
      · refine K.seq (by kernel_rfl) ?_
        refine K.region (by kernel_rfl) ?_
        refine RJ.seg 1 [0, 1, 2, 6, 7, 8, 9, 10] (L2 := [(0, lsv (encI .u8) 1 x0), (1, .int .i64 x1), (2, .int .i64 x2), (6, .int .u32 0), (7, .int .i64 0), (8, .int .i64 0), (9, .int .u32 0), (10, .int .i64 0)]) (H2 := []) (by kernel_rfl) ?_
        refine RJ.end (by kernel_rfl) ?_
        refine PJ.next ?_
        refine K.block 0 (by kernel_rfl) ?_
        refine K.loop (by kernel_rfl) (fun (s121 : Int × Int) => ([(0, lsv (encI .u8) 1 x0), (1, .int .i64 x1), (2, .int .i64 x2), (6, .int .u32 0), (7, .int .i64 0), (8, .int .i64 0), (9, .int .u32 s121.1), (10, .int .i64 s121.2)], [])) hy118 [0, 1, 2, 6, 7, 8, 9, 10] (by kernel_rfl) (by kernel_rfl) (fun s121 x135 hs134 => ?_)
        refine K.seq (by kernel_rfl) ?_
        refine K.seq (by kernel_rfl) ?_
        refine K.region (by kernel_rfl) ?_
        refine RJ.seg 3 [0, 1, 2, 6, 7, 8, 9, 10, 39] (L2 := [(0, lsv (encI .u8) 1 x0), (1, .int .i64 x1), (2, .int .i64 x2), (6, .int .u32 0), (7, .int .i64 0), (8, .int .i64 0), (9, .int .u32 s121.1), (10, .int .i64 s121.2), (39, .bool (decide (s121.2 < x2)))]) (H2 := []) (by kernel_rfl) ?_
        refine RJ.end (by kernel_rfl) ?_
        refine PJ.next ?_
        refine J.caseB 39 (b := (decide (s121.2 < x2))) (by kernel_rfl) (fun hb136 => ?_) (fun hb136 => ?_)
        · have h137 := condT hb136 hs134
          refine K.condT (by kernel_rfl) ?_
          refine K.skip (by kernel_rfl) ?_
          refine PJ.next ?_
          refine K.seq (by kernel_rfl) ?_
          refine K.block 1 (by kernel_rfl) ?_
          refine K.region (by kernel_rfl) ?_
          refine RJ.seg 6 [0, 1, 2, 6, 7, 8, 9, 10, 43, 44, 47] (L2 := [(0, lsv (encI .u8) 1 x0), (1, .int .i64 x1), (2, .int .i64 x2), (6, .int .u32 0), (7, .int .i64 0), (8, .int .i64 0), (9, .int .u32 s121.1), (10, .int .i64 s121.2), (43, .int .u32 (IntKind.wrap .u32 (s121.1 * 256))), (44, lsv (encI .u8) 1 x0), (47, .int .i64 (IntKind.wrap .i64 (x1 + s121.2)))]) (H2 := []) (by kernel_rfl) ?_
          obtain ⟨hm, h139⟩ := asrt h137
          refine RJ.rel (d := (some 48)) (ef := ⟨.ep (((x0.flatMap (encI .u8)).drop (((IntKind.wrap .i64 (x1 + s121.2)) : Int).toNat * 1)).take 1), [], []⟩) (ef' := ⟨.ep ((encI .u8) (nth x0 (IntKind.wrap .i64 (x1 + s121.2)))), [], []⟩) (c := inR (IntKind.wrap .i64 (x1 + s121.2)) x0.length) (tr2 := []) (H2 := []) (by kernel_rfl) hm (fun hc => N.idx (encI_len .u8) hc) (by kernel_rfl) ?_
          refine RJ.seg 4 [0, 1, 2, 6, 7, 8, 9, 10] (L2 := [(0, lsv (encI .u8) 1 x0), (1, .int .i64 x1), (2, .int .i64 x2), (6, .int .u32 0), (7, .int .i64 0), (8, .int .i64 0), (9, .int .u32 ((IntKind.wrap .u32 ((IntKind.wrap .u32 (s121.1 * 256)) + ((IntKind.wrap .u32 ((nth x0 (IntKind.wrap .i64 (x1 + s121.2)))))))))), (10, .int .i64 s121.2)]) (H2 := []) (by kernel_rfl) ?_
          refine RJ.end (by kernel_rfl) ?_
          refine PJ.blockNormal ?_
          refine PJ.next ?_
          refine K.region (by kernel_rfl) ?_
          refine RJ.seg 3 [0, 1, 2, 6, 7, 8, 9, 10] (L2 := [(0, lsv (encI .u8) 1 x0), (1, .int .i64 x1), (2, .int .i64 x2), (6, .int .u32 0), (7, .int .i64 0), (8, .int .i64 0), (9, .int .u32 ((IntKind.wrap .u32 ((IntKind.wrap .u32 (s121.1 * 256)) + ((IntKind.wrap .u32 ((nth x0 (IntKind.wrap .i64 (x1 + s121.2)))))))))), (10, .int .i64 (IntKind.wrap .i64 (s121.2 + 1)))]) (H2 := []) (by kernel_rfl) ?_
          refine RJ.end (by kernel_rfl) ?_
          obtain rfl := Option.some.inj h139
          exact PJ.loopNext [0, 1, 2, 6, 7, 8, 9, 10] (by kernel_rfl) (by kernel_rfl)
        · have h138 := condF hb136 hs134
          refine K.condF (by kernel_rfl) ?_
          refine K.exit 0 (by kernel_rfl) ?_
          refine PJ.passExit ?_
          obtain rfl := Option.some.inj h138
          refine PJ.loopOut (fun e => nomatch e) (fun he141 => ?_)
          have h140 := congrArg some he141
          refine PJ.blockOut ?_
          obtain rfl := Option.some.inj h140
          exact PJ.cutN [1, 2, 6, 7, 8, 9] (by kernel_rfl) (by kernel_rfl)
      · refine K.seq (by kernel_rfl) ?_
        refine K.region (by kernel_rfl) ?_
        refine RJ.seg 7 [6, 7, 8] (L2 := [(6, .int .u32 s116), (7, .int .i64 (IntKind.wrap .i64 (x1 + x2))), (8, .int .i64 0)]) (H2 := []) (by kernel_rfl) ?_
        refine RJ.end (by kernel_rfl) ?_
        refine PJ.next ?_
        refine K.ret (by kernel_rfl) ?_
        obtain rfl := Option.some.inj h120
        exact K.ret0 (.inr rfl) hFn hFH hFD (by kernel_rfl) (by kernel_rfl) (by kernel_rfl)

def exergueref01_Row (x0 : List Int) (x1 : List Int) : Option (Bool) :=
  (bif (decide (¬ (x0.length : Int) = (x1.length : Int))) then (some false) else (Option.bind (loopN (fun (s51 : Int) => (bif (decide (s51 < (x0.length : Int))) then (bif inR s51 x0.length then (bif inR s51 x1.length then (bif (decide (¬ (nth x0 s51) = (nth x1 s51))) then (some (.inr (.inr false))) else (some (.inl (IntKind.wrap .i64 (s51 + 1))))) else none) else none) else (some (.inr (.inl ()))))) big 0) (joinX fun (s46 : Unit) => (some true))))
theorem exergueref01_Row_ok {x0 : List Int} {x1 : List Int} {r : Bool} (h : exergueref01_Row x0 x1 = some r) : SC Try.prog 15 [lsv (encI .u8) 1 x0, lsv (encI .u8) 1 x1] [] (.bool r) [] := by
  refine K.fn (fn := Try.f15) (by kernel_rfl) (by kernel_rfl) (by kernel_rfl) (by kernel_rfl) (by kernel_rfl) (fun F hFn hFH hFD => ?_)
  unfold exergueref01_Row at h
  refine K.seq (by kernel_rfl) ?_
  refine K.region (by kernel_rfl) ?_
  refine RJ.seg 1 [0, 1, 4] (L2 := [(0, lsv (encI .u8) 1 x0), (1, lsv (encI .u8) 1 x1), (4, .bool false)]) (H2 := []) (by kernel_rfl) ?_
  refine RJ.end (by kernel_rfl) ?_
  refine PJ.next ?_
  refine K.seq (by kernel_rfl) ?_
  refine K.seq (by kernel_rfl) ?_
  refine K.region (by kernel_rfl) ?_
  refine RJ.seg 5 [0, 1, 4, 10] (L2 := [(0, lsv (encI .u8) 1 x0), (1, lsv (encI .u8) 1 x1), (4, .bool false), (10, .bool ((decide (¬ (x0.length : Int) = (x1.length : Int)))))]) (H2 := []) (by kernel_rfl) ?_
  refine RJ.end (by kernel_rfl) ?_
  refine PJ.next ?_
  refine J.caseB 10 (b := (decide (¬ (x0.length : Int) = (x1.length : Int)))) (by kernel_rfl) (fun hb1 => ?_) (fun hb1 => ?_)
  · have h2 := condT hb1 h
    refine K.condT (by kernel_rfl) ?_
    refine K.seq (by kernel_rfl) ?_
    refine K.region (by kernel_rfl) ?_
    refine RJ.seg 1 [0, 1, 4] (L2 := [(0, lsv (encI .u8) 1 x0), (1, lsv (encI .u8) 1 x1), (4, .bool false)]) (H2 := []) (by kernel_rfl) ?_
    refine RJ.end (by kernel_rfl) ?_
    refine PJ.next ?_
    refine K.ret (by kernel_rfl) ?_
    refine PJ.passRet ?_
    obtain rfl := Option.some.inj h2
    exact K.ret0 (.inr rfl) hFn hFH hFD (by kernel_rfl) (by kernel_rfl) (by kernel_rfl)
  · have h3 := condF hb1 h
    refine K.condF (by kernel_rfl) ?_
    refine K.skip (by kernel_rfl) ?_
    refine PJ.next ?_
    obtain ⟨y47, hy48, h49⟩ := bindS h3
    refine K.cutX (by kernel_rfl) (fun (s46 : Unit) => ([(4, .bool false)], [])) y47 ?_ (fun s46 hs => ?_)
    · refine K.seq (by kernel_rfl) ?_
      refine K.region (by kernel_rfl) ?_
      refine RJ.seg 1 [0, 1, 4, 5] (L2 := [(0, lsv (encI .u8) 1 x0), (1, lsv (encI .u8) 1 x1), (4, .bool false), (5, .int .i64 0)]) (H2 := []) (by kernel_rfl) ?_
      refine RJ.end (by kernel_rfl) ?_
      refine PJ.next ?_
      refine K.block 0 (by kernel_rfl) ?_
      refine K.loop (by kernel_rfl) (fun (s51 : Int) => ([(0, lsv (encI .u8) 1 x0), (1, lsv (encI .u8) 1 x1), (4, .bool false), (5, .int .i64 s51)], [])) hy48 [0, 1, 4, 5] (by kernel_rfl) (by kernel_rfl) (fun s51 x79 hs78 => ?_)
      refine K.seq (by kernel_rfl) ?_
      refine K.seq (by kernel_rfl) ?_
      refine K.region (by kernel_rfl) ?_
      refine RJ.seg 4 [0, 1, 4, 5, 14] (L2 := [(0, lsv (encI .u8) 1 x0), (1, lsv (encI .u8) 1 x1), (4, .bool false), (5, .int .i64 s51), (14, .bool ((decide (s51 < (x0.length : Int)))))]) (H2 := []) (by kernel_rfl) ?_
      refine RJ.end (by kernel_rfl) ?_
      refine PJ.next ?_
      refine J.caseB 14 (b := (decide (s51 < (x0.length : Int)))) (by kernel_rfl) (fun hb80 => ?_) (fun hb80 => ?_)
      · have h81 := condT hb80 hs78
        refine K.condT (by kernel_rfl) ?_
        refine K.skip (by kernel_rfl) ?_
        refine PJ.next ?_
        refine K.seq (by kernel_rfl) ?_
        refine K.block 1 (by kernel_rfl) ?_
        refine K.seq (by kernel_rfl) ?_
        refine J.keep [0, 1, 4, 5] (L2 := [(0, lsv (encI .u8) 1 x0), (1, lsv (encI .u8) 1 x1), (4, .bool false), (5, .int .i64 s51)]) (by kernel_rfl) ?_
        refine K.draw (by kernel_rfl) (by kernel_rfl) (by kernel_rfl) (H2 := []) (by kernel_rfl) (n := 0) (by kernel_rfl) ?_
        refine RJ.segD 2 (tr2 := [([], []), ([], [])]) (L2 := [(18, .int .i64 s51), (17, lsv (encI .u8) 1 x0), (0, lsv (encI .u8) 1 x0), (1, lsv (encI .u8) 1 x1), (4, .bool false), (5, .int .i64 s51)]) (H2 := []) (by kernel_rfl) ?_
        obtain ⟨hm, h83⟩ := asrt h81
        refine RJ.rel (d := (some 19)) (ef := ⟨.ep (((x0.flatMap (encI .u8)).drop ((s51 : Int).toNat * 1)).take 1), [], []⟩) (ef' := ⟨.ep ((encI .u8) (nth x0 s51)), [], []⟩) (c := inR s51 x0.length) (tr2 := [([], []), ([], []), ([], [])]) (H2 := []) (by kernel_rfl) hm (fun hc => N.idx (encI_len .u8) hc) (by kernel_rfl) ?_
        refine RJ.segD 3 (tr2 := [([], []), ([], []), ([], []), ([], []), ([], []), ([], [])]) (L2 := [(22, .int .i64 s51), (21, lsv (encI .u8) 1 x1), (20, .int .u8 (nth x0 s51)), (19, .ep [.int .u8 (nth x0 s51)]), (18, .int .i64 s51), (17, lsv (encI .u8) 1 x0), (0, lsv (encI .u8) 1 x0), (1, lsv (encI .u8) 1 x1), (4, .bool false), (5, .int .i64 s51)]) (H2 := []) (by kernel_rfl) ?_
        obtain ⟨hm, h84⟩ := asrt h83
        refine RJ.rel (d := (some 23)) (ef := ⟨.ep (((x1.flatMap (encI .u8)).drop ((s51 : Int).toNat * 1)).take 1), [], []⟩) (ef' := ⟨.ep ((encI .u8) (nth x1 s51)), [], []⟩) (c := inR s51 x1.length) (tr2 := [([], []), ([], []), ([], []), ([], []), ([], []), ([], []), ([], [])]) (H2 := []) (by kernel_rfl) hm (fun hc => N.idx (encI_len .u8) hc) (by kernel_rfl) ?_
        refine RJ.segD 2 (tr2 := [([], []), ([], []), ([], []), ([], []), ([], []), ([], []), ([], []), ([], []), ([], [])]) (L2 := [(25, .bool ((decide (¬ (nth x0 s51) = (nth x1 s51))))), (24, .int .u8 (nth x1 s51)), (23, .ep [.int .u8 (nth x1 s51)]), (22, .int .i64 s51), (21, lsv (encI .u8) 1 x1), (20, .int .u8 (nth x0 s51)), (19, .ep [.int .u8 (nth x0 s51)]), (18, .int .i64 s51), (17, lsv (encI .u8) 1 x0), (0, lsv (encI .u8) 1 x0), (1, lsv (encI .u8) 1 x1), (4, .bool false), (5, .int .i64 s51)]) (H2 := []) (by kernel_rfl) ?_
        refine RJ.end (by kernel_rfl) ?_
        refine PJ.next ?_
        refine J.caseB 25 (b := (decide (¬ (nth x0 s51) = (nth x1 s51)))) (by kernel_rfl) (fun hb85 => ?_) (fun hb85 => ?_)
        · have h86 := condT hb85 h84
          refine K.condT (by kernel_rfl) ?_
          refine K.seq (by kernel_rfl) ?_
          refine K.region (by kernel_rfl) ?_
          refine RJ.seg 1 [0, 1, 4, 5] (L2 := [(0, lsv (encI .u8) 1 x0), (1, lsv (encI .u8) 1 x1), (4, .bool false), (5, .int .i64 s51)]) (H2 := []) (by kernel_rfl) ?_
          refine RJ.end (by kernel_rfl) ?_
          refine PJ.next ?_
          refine K.ret (by kernel_rfl) ?_
          refine PJ.blockRet ?_
          refine PJ.passRet ?_
          obtain rfl := Option.some.inj h86
          refine PJ.loopOut (fun e => nomatch e) (fun he90 => ?_)
          have h88 := congrArg some he90
          refine PJ.blockRet ?_
          obtain rfl := Option.some.inj h88
          have h89 := joinX_inr h49
          refine PJ.cutXr (fun e => nomatch e) ?_
          obtain rfl := Option.some.inj h89
          exact K.ret0 (.inr rfl) hFn hFH hFD (by kernel_rfl) (by kernel_rfl) (by kernel_rfl)
        · have h87 := condF hb85 h84
          refine K.condF (by kernel_rfl) ?_
          refine K.skip (by kernel_rfl) ?_
          refine PJ.blockNormal ?_
          refine PJ.next ?_
          refine K.region (by kernel_rfl) ?_
          refine RJ.seg 3 [0, 1, 4, 5] (L2 := [(0, lsv (encI .u8) 1 x0), (1, lsv (encI .u8) 1 x1), (4, .bool false), (5, .int .i64 (IntKind.wrap .i64 (s51 + 1)))]) (H2 := []) (by kernel_rfl) ?_
          refine RJ.end (by kernel_rfl) ?_
          obtain rfl := Option.some.inj h87
          exact PJ.loopNext [0, 1, 4, 5] (by kernel_rfl) (by kernel_rfl)
      · have h82 := condF hb80 hs78
        refine K.condF (by kernel_rfl) ?_
        refine K.exit 0 (by kernel_rfl) ?_
        refine PJ.passExit ?_
        obtain rfl := Option.some.inj h82
        refine PJ.loopOut (fun e => nomatch e) (fun he92 => ?_)
        have h91 := congrArg some he92
        refine PJ.blockOut ?_
        obtain rfl := Option.some.inj h91
        exact PJ.cutXl [4] (by kernel_rfl) (by kernel_rfl)
    · subst hs
      have h50 := joinX_inl h49
      refine K.seq (by kernel_rfl) ?_
      refine K.region (by kernel_rfl) ?_
      refine RJ.seg 1 [4] (L2 := [(4, .bool true)]) (H2 := []) (by kernel_rfl) ?_
      refine RJ.end (by kernel_rfl) ?_
      refine PJ.next ?_
      refine K.ret (by kernel_rfl) ?_
      obtain rfl := Option.some.inj h50
      exact K.ret0 (.inr rfl) hFn hFH hFD (by kernel_rfl) (by kernel_rfl) (by kernel_rfl)

def exerguelaw09_PackNumbers (x0 : St24) : Option (Bool) :=
  (Option.bind exerguelaw09_shown fun y1 => (bif (decide ((x0.B_.length : Int) > 1000)) then (some y1) else (Option.bind (pack_Put x0.B_ x0.N_ x0.Size_) fun y7 => (Option.bind (exergueref09_Put x0.B_ x0.N_ x0.Size_) fun y10 => (Option.bind (pack_Take x0.B_ x0.At_ x0.Size_) fun y13 => (Option.bind (exergueref09_Take x0.B_ x0.At_ x0.Size_) fun y16 => (Option.bind (bif y1 then (Option.bind (exergueref01_Row y7.1 y10.1) fun y45 => (bif y45 then (bif (decide (y7.2 = y10.2)) then (bif (decide (y13.1 = y16.1)) then (bif (decide (y13.2.1 = y16.2.1)) then (some (decide (y13.2.2 = y16.2.2))) else (some false)) else (some false)) else (some false)) else (some false))) else (some false)) fun (s37 : Bool) => (some s37))))))))
theorem exerguelaw09_PackNumbers_ok {x0 : St24} {r : Bool} (h : exerguelaw09_PackNumbers x0 = some r) : SC Try.prog 3 [.agg [lsv (encI .u8) 1 x0.B_, .int .u32 x0.N_, .int .i64 x0.Size_, .int .i64 x0.At_]] [] (.bool r) [] := by
  refine K.fn (fn := Try.f3) (by kernel_rfl) (by kernel_rfl) (by kernel_rfl) (by kernel_rfl) (by kernel_rfl) (fun F hFn hFH hFD => ?_)
  unfold exerguelaw09_PackNumbers at h
  refine K.seq (by kernel_rfl) ?_
  refine K.region (by kernel_rfl) ?_
  refine RJ.seg 2 [1, 2] (L2 := [(1, .ptr 0 0), (2, .bool false)]) (H2 := [.box [lsv (encI .u8) 1 x0.B_, .int .u32 x0.N_, .int .i64 x0.Size_, .int .i64 x0.At_]]) (by kernel_rfl) ?_
  refine RJ.end (by kernel_rfl) ?_
  refine PJ.next ?_
  refine K.seq (by kernel_rfl) ?_
  refine K.region (by kernel_rfl) ?_
  refine RJ.seg 3 [1, 2, 3] (L2 := [(1, .ptr 0 0), (2, .bool false), (3, lsv (encI .u8) 1 x0.B_)]) (H2 := [.box [lsv (encI .u8) 1 x0.B_, .int .u32 x0.N_, .int .i64 x0.Size_, .int .i64 x0.At_]]) (by kernel_rfl) ?_
  refine RJ.end (by kernel_rfl) ?_
  refine PJ.next ?_
  refine K.seq (by kernel_rfl) ?_
  refine K.region (by kernel_rfl) ?_
  refine RJ.seg 3 [1, 2, 3, 4] (L2 := [(1, .ptr 0 0), (2, .bool false), (3, lsv (encI .u8) 1 x0.B_), (4, .int .u32 x0.N_)]) (H2 := [.box [lsv (encI .u8) 1 x0.B_, .int .u32 x0.N_, .int .i64 x0.Size_, .int .i64 x0.At_]]) (by kernel_rfl) ?_
  refine RJ.end (by kernel_rfl) ?_
  refine PJ.next ?_
  refine K.seq (by kernel_rfl) ?_
  refine K.region (by kernel_rfl) ?_
  refine RJ.seg 3 [1, 2, 3, 4, 5] (L2 := [(1, .ptr 0 0), (2, .bool false), (3, lsv (encI .u8) 1 x0.B_), (4, .int .u32 x0.N_), (5, .int .i64 x0.Size_)]) (H2 := [.box [lsv (encI .u8) 1 x0.B_, .int .u32 x0.N_, .int .i64 x0.Size_, .int .i64 x0.At_]]) (by kernel_rfl) ?_
  refine RJ.end (by kernel_rfl) ?_
  refine PJ.next ?_
  refine K.seq (by kernel_rfl) ?_
  refine K.region (by kernel_rfl) ?_
  refine RJ.seg 3 [2, 3, 4, 5, 6] (L2 := [(2, .bool false), (3, lsv (encI .u8) 1 x0.B_), (4, .int .u32 x0.N_), (5, .int .i64 x0.Size_), (6, .int .i64 x0.At_)]) (H2 := [.box [lsv (encI .u8) 1 x0.B_, .int .u32 x0.N_, .int .i64 x0.Size_, .int .i64 x0.At_]]) (by kernel_rfl) ?_
  refine RJ.end (by kernel_rfl) ?_
  refine PJ.next ?_
  refine K.seq (by kernel_rfl) ?_
  refine K.region (by kernel_rfl) ?_
  obtain ⟨y1, hy2, h3⟩ := bindS h
  refine RJ.call0 (d := (some 26)) (f := 10) (args := []) (v := .bool y1) (tr2 := []) (by kernel_rfl) (by kernel_rfl) .nil (exerguelaw09_shown_ok hy2) (by kernel_rfl) ?_
  refine RJ.seg 1 [2, 3, 4, 5, 6, 7] (L2 := [(2, .bool false), (3, lsv (encI .u8) 1 x0.B_), (4, .int .u32 x0.N_), (5, .int .i64 x0.Size_), (6, .int .i64 x0.At_), (7, .bool y1)]) (H2 := [.box [lsv (encI .u8) 1 x0.B_, .int .u32 x0.N_, .int .i64 x0.Size_, .int .i64 x0.At_]]) (by kernel_rfl) ?_
  refine RJ.end (by kernel_rfl) ?_
  refine PJ.next ?_
  refine K.seq (by kernel_rfl) ?_
  refine K.seq (by kernel_rfl) ?_
  refine K.region (by kernel_rfl) ?_
  refine RJ.seg 3 [2, 3, 4, 5, 6, 7, 29] (L2 := [(2, .bool false), (3, lsv (encI .u8) 1 x0.B_), (4, .int .u32 x0.N_), (5, .int .i64 x0.Size_), (6, .int .i64 x0.At_), (7, .bool y1), (29, .bool ((decide ((x0.B_.length : Int) > 1000))))]) (H2 := [.box [lsv (encI .u8) 1 x0.B_, .int .u32 x0.N_, .int .i64 x0.Size_, .int .i64 x0.At_]]) (by kernel_rfl) ?_
  refine RJ.end (by kernel_rfl) ?_
  refine PJ.next ?_
  refine J.caseB 29 (b := (decide ((x0.B_.length : Int) > 1000))) (by kernel_rfl) (fun hb4 => ?_) (fun hb4 => ?_)
  · have h5 := condT hb4 h3
    refine K.condT (by kernel_rfl) ?_
    refine K.seq (by kernel_rfl) ?_
    refine K.region (by kernel_rfl) ?_
    refine RJ.seg 2 [2, 3, 4, 5, 6, 7] (L2 := [(2, .bool y1), (3, lsv (encI .u8) 1 x0.B_), (4, .int .u32 x0.N_), (5, .int .i64 x0.Size_), (6, .int .i64 x0.At_), (7, .bool y1)]) (H2 := [.box [lsv (encI .u8) 1 x0.B_, .int .u32 x0.N_, .int .i64 x0.Size_, .int .i64 x0.At_]]) (by kernel_rfl) ?_
    refine RJ.end (by kernel_rfl) ?_
    refine PJ.next ?_
    refine K.ret (by kernel_rfl) ?_
    refine PJ.passRet ?_
    obtain rfl := Option.some.inj h5
    exact K.ret0 (.inr rfl) hFn hFH hFD (by kernel_rfl) (by kernel_rfl) (by kernel_rfl)
  · have h6 := condF hb4 h3
    refine K.condF (by kernel_rfl) ?_
    refine K.skip (by kernel_rfl) ?_
    refine PJ.next ?_
    refine K.seq (by kernel_rfl) ?_
    refine K.region (by kernel_rfl) ?_
    refine RJ.seg 3 [2, 3, 4, 5, 6, 7, 32, 33, 34] (L2 := [(2, .bool false), (3, lsv (encI .u8) 1 x0.B_), (4, .int .u32 x0.N_), (5, .int .i64 x0.Size_), (6, .int .i64 x0.At_), (7, .bool y1), (32, lsv (encI .u8) 1 x0.B_), (33, .int .u32 x0.N_), (34, .int .i64 x0.Size_)]) (H2 := [.box [lsv (encI .u8) 1 x0.B_, .int .u32 x0.N_, .int .i64 x0.Size_, .int .i64 x0.At_]]) (by kernel_rfl) ?_
    obtain ⟨y7, hy8, h9⟩ := bindS h6
    refine RJ.call0 (d := (some 35)) (f := 11) (args := [lsv (encI .u8) 1 x0.B_, .int .u32 x0.N_, .int .i64 x0.Size_]) (v := .tup [lsv (encI .u8) 1 y7.1, .int .i64 y7.2]) (tr2 := []) (by kernel_rfl) (by kernel_rfl) (.cons (Le.refl _) (.cons (Le.refl _) (.cons (Le.refl _) .nil))) (pack_Put_ok hy8) (by kernel_rfl) ?_
    refine RJ.seg 5 [2, 3, 4, 5, 6, 7, 8, 9] (L2 := [(2, .bool false), (3, lsv (encI .u8) 1 x0.B_), (4, .int .u32 x0.N_), (5, .int .i64 x0.Size_), (6, .int .i64 x0.At_), (7, .bool y1), (8, lsv (encI .u8) 1 y7.1), (9, .int .i64 y7.2)]) (H2 := [.box [lsv (encI .u8) 1 x0.B_, .int .u32 x0.N_, .int .i64 x0.Size_, .int .i64 x0.At_]]) (by kernel_rfl) ?_
    refine RJ.end (by kernel_rfl) ?_
    refine PJ.next ?_
    refine K.seq (by kernel_rfl) ?_
    refine K.region (by kernel_rfl) ?_
    refine RJ.seg 3 [2, 3, 5, 6, 7, 8, 9, 39, 40, 41] (L2 := [(2, .bool false), (3, lsv (encI .u8) 1 x0.B_), (5, .int .i64 x0.Size_), (6, .int .i64 x0.At_), (7, .bool y1), (8, lsv (encI .u8) 1 y7.1), (9, .int .i64 y7.2), (39, lsv (encI .u8) 1 x0.B_), (40, .int .u32 x0.N_), (41, .int .i64 x0.Size_)]) (H2 := [.box [lsv (encI .u8) 1 x0.B_, .int .u32 x0.N_, .int .i64 x0.Size_, .int .i64 x0.At_]]) (by kernel_rfl) ?_
    obtain ⟨y10, hy11, h12⟩ := bindS h9
    refine RJ.call0 (d := (some 42)) (f := 12) (args := [lsv (encI .u8) 1 x0.B_, .int .u32 x0.N_, .int .i64 x0.Size_]) (v := .tup [lsv (encI .u8) 1 y10.1, .int .i64 y10.2]) (tr2 := []) (by kernel_rfl) (by kernel_rfl) (.cons (Le.refl _) (.cons (Le.refl _) (.cons (Le.refl _) .nil))) (exergueref09_Put_ok hy11) (by kernel_rfl) ?_
    refine RJ.seg 5 [2, 3, 5, 6, 7, 8, 9, 10, 11] (L2 := [(2, .bool false), (3, lsv (encI .u8) 1 x0.B_), (5, .int .i64 x0.Size_), (6, .int .i64 x0.At_), (7, .bool y1), (8, lsv (encI .u8) 1 y7.1), (9, .int .i64 y7.2), (10, lsv (encI .u8) 1 y10.1), (11, .int .i64 y10.2)]) (H2 := [.box [lsv (encI .u8) 1 x0.B_, .int .u32 x0.N_, .int .i64 x0.Size_, .int .i64 x0.At_]]) (by kernel_rfl) ?_
    refine RJ.end (by kernel_rfl) ?_
    refine PJ.next ?_
    refine K.seq (by kernel_rfl) ?_
    refine K.region (by kernel_rfl) ?_
    refine RJ.seg 3 [2, 3, 5, 6, 7, 8, 9, 10, 11, 46, 47, 48] (L2 := [(2, .bool false), (3, lsv (encI .u8) 1 x0.B_), (5, .int .i64 x0.Size_), (6, .int .i64 x0.At_), (7, .bool y1), (8, lsv (encI .u8) 1 y7.1), (9, .int .i64 y7.2), (10, lsv (encI .u8) 1 y10.1), (11, .int .i64 y10.2), (46, lsv (encI .u8) 1 x0.B_), (47, .int .i64 x0.At_), (48, .int .i64 x0.Size_)]) (H2 := [.box [lsv (encI .u8) 1 x0.B_, .int .u32 x0.N_, .int .i64 x0.Size_, .int .i64 x0.At_]]) (by kernel_rfl) ?_
    obtain ⟨y13, hy14, h15⟩ := bindS h12
    refine RJ.call0 (d := (some 49)) (f := 13) (args := [lsv (encI .u8) 1 x0.B_, .int .i64 x0.At_, .int .i64 x0.Size_]) (v := .tup [.int .u32 y13.1, .int .i64 y13.2.1, .int .i64 y13.2.2]) (tr2 := []) (by kernel_rfl) (by kernel_rfl) (.cons (Le.refl _) (.cons (Le.refl _) (.cons (Le.refl _) .nil))) (pack_Take_ok hy14) (by kernel_rfl) ?_
    refine RJ.seg 7 [2, 3, 5, 6, 7, 8, 9, 10, 11, 12, 13, 14] (L2 := [(2, .bool false), (3, lsv (encI .u8) 1 x0.B_), (5, .int .i64 x0.Size_), (6, .int .i64 x0.At_), (7, .bool y1), (8, lsv (encI .u8) 1 y7.1), (9, .int .i64 y7.2), (10, lsv (encI .u8) 1 y10.1), (11, .int .i64 y10.2), (12, .int .u32 y13.1), (13, .int .i64 y13.2.1), (14, .int .i64 y13.2.2)]) (H2 := [.box [lsv (encI .u8) 1 x0.B_, .int .u32 x0.N_, .int .i64 x0.Size_, .int .i64 x0.At_]]) (by kernel_rfl) ?_
    refine RJ.end (by kernel_rfl) ?_
    refine PJ.next ?_
    refine K.seq (by kernel_rfl) ?_
    refine K.region (by kernel_rfl) ?_
    refine RJ.seg 3 [2, 7, 8, 9, 10, 11, 12, 13, 14, 54, 55, 56] (L2 := [(2, .bool false), (7, .bool y1), (8, lsv (encI .u8) 1 y7.1), (9, .int .i64 y7.2), (10, lsv (encI .u8) 1 y10.1), (11, .int .i64 y10.2), (12, .int .u32 y13.1), (13, .int .i64 y13.2.1), (14, .int .i64 y13.2.2), (54, lsv (encI .u8) 1 x0.B_), (55, .int .i64 x0.At_), (56, .int .i64 x0.Size_)]) (H2 := [.box [lsv (encI .u8) 1 x0.B_, .int .u32 x0.N_, .int .i64 x0.Size_, .int .i64 x0.At_]]) (by kernel_rfl) ?_
    obtain ⟨y16, hy17, h18⟩ := bindS h15
    refine RJ.call0 (d := (some 57)) (f := 14) (args := [lsv (encI .u8) 1 x0.B_, .int .i64 x0.At_, .int .i64 x0.Size_]) (v := .tup [.int .u32 y16.1, .int .i64 y16.2.1, .int .i64 y16.2.2]) (tr2 := []) (by kernel_rfl) (by kernel_rfl) (.cons (Le.refl _) (.cons (Le.refl _) (.cons (Le.refl _) .nil))) (exergueref09_Take_ok hy17) (by kernel_rfl) ?_
    refine RJ.seg 7 [2, 7, 8, 9, 10, 11, 12, 13, 14, 15, 16, 17] (L2 := [(2, .bool false), (7, .bool y1), (8, lsv (encI .u8) 1 y7.1), (9, .int .i64 y7.2), (10, lsv (encI .u8) 1 y10.1), (11, .int .i64 y10.2), (12, .int .u32 y13.1), (13, .int .i64 y13.2.1), (14, .int .i64 y13.2.2), (15, .int .u32 y16.1), (16, .int .i64 y16.2.1), (17, .int .i64 y16.2.2)]) (H2 := [.box [lsv (encI .u8) 1 x0.B_, .int .u32 x0.N_, .int .i64 x0.Size_, .int .i64 x0.At_]]) (by kernel_rfl) ?_
    refine RJ.end (by kernel_rfl) ?_
    refine PJ.next ?_
    obtain ⟨s37, hy39, h41⟩ := bindS h18
    refine K.cutN (by kernel_rfl) (fun (s37 : Bool) => ([(2, .bool s37)], [])) s37 ?_ ?_
    · refine K.region (by kernel_rfl) ?_
      refine RJ.seg 2 [2, 8, 9, 10, 11, 12, 13, 14, 15, 16, 17, 62] (L2 := [(2, .bool false), (8, lsv (encI .u8) 1 y7.1), (9, .int .i64 y7.2), (10, lsv (encI .u8) 1 y10.1), (11, .int .i64 y10.2), (12, .int .u32 y13.1), (13, .int .i64 y13.2.1), (14, .int .i64 y13.2.2), (15, .int .u32 y16.1), (16, .int .i64 y16.2.1), (17, .int .i64 y16.2.2), (62, .bool y1)]) (H2 := [.box [lsv (encI .u8) 1 x0.B_, .int .u32 x0.N_, .int .i64 x0.Size_, .int .i64 x0.At_]]) (by kernel_rfl) ?_
      refine RJ.caseB 62 (b := y1) (by kernel_rfl) (fun hb42 => ?_) (fun hb42 => ?_)
      · have h43 := condT hb42 hy39
        refine RJ.seg 2 [2, 9, 11, 12, 13, 14, 15, 16, 17, 62, 63, 64] (L2 := [(2, .bool false), (9, .int .i64 y7.2), (11, .int .i64 y10.2), (12, .int .u32 y13.1), (13, .int .i64 y13.2.1), (14, .int .i64 y13.2.2), (15, .int .u32 y16.1), (16, .int .i64 y16.2.1), (17, .int .i64 y16.2.2), (62, .bool true), (63, lsv (encI .u8) 1 y7.1), (64, lsv (encI .u8) 1 y10.1)]) (H2 := [.box [lsv (encI .u8) 1 x0.B_, .int .u32 x0.N_, .int .i64 x0.Size_, .int .i64 x0.At_]]) (by kernel_rfl) ?_
        obtain ⟨y45, hy46, h47⟩ := bindS h43
        refine RJ.call0 (d := (some 65)) (f := 15) (args := [lsv (encI .u8) 1 y7.1, lsv (encI .u8) 1 y10.1]) (v := .bool y45) (tr2 := []) (by kernel_rfl) (by kernel_rfl) (.cons (Le.refl _) (.cons (Le.refl _) .nil)) (exergueref01_Row_ok hy46) (by kernel_rfl) ?_
        refine RJ.seg 2 [2, 9, 11, 12, 13, 14, 15, 16, 17, 67] (L2 := [(2, .bool false), (9, .int .i64 y7.2), (11, .int .i64 y10.2), (12, .int .u32 y13.1), (13, .int .i64 y13.2.1), (14, .int .i64 y13.2.2), (15, .int .u32 y16.1), (16, .int .i64 y16.2.1), (17, .int .i64 y16.2.2), (67, .bool y45)]) (H2 := [.box [lsv (encI .u8) 1 x0.B_, .int .u32 x0.N_, .int .i64 x0.Size_, .int .i64 x0.At_]]) (by kernel_rfl) ?_
        refine RJ.caseB 67 (b := y45) (by kernel_rfl) (fun hb48 => ?_) (fun hb48 => ?_)
        · have h49 := condT hb48 h47
          refine RJ.seg 5 [2, 12, 13, 14, 15, 16, 17, 72] (L2 := [(2, .bool false), (12, .int .u32 y13.1), (13, .int .i64 y13.2.1), (14, .int .i64 y13.2.2), (15, .int .u32 y16.1), (16, .int .i64 y16.2.1), (17, .int .i64 y16.2.2), (72, .bool (decide (y7.2 = y10.2)))]) (H2 := [.box [lsv (encI .u8) 1 x0.B_, .int .u32 x0.N_, .int .i64 x0.Size_, .int .i64 x0.At_]]) (by kernel_rfl) ?_
          refine RJ.caseB 72 (b := (decide (y7.2 = y10.2))) (by kernel_rfl) (fun hb51 => ?_) (fun hb51 => ?_)
          · have h52 := condT hb51 h49
            refine RJ.seg 5 [2, 13, 14, 16, 17, 77] (L2 := [(2, .bool false), (13, .int .i64 y13.2.1), (14, .int .i64 y13.2.2), (16, .int .i64 y16.2.1), (17, .int .i64 y16.2.2), (77, .bool (decide (y13.1 = y16.1)))]) (H2 := [.box [lsv (encI .u8) 1 x0.B_, .int .u32 x0.N_, .int .i64 x0.Size_, .int .i64 x0.At_]]) (by kernel_rfl) ?_
            refine RJ.caseB 77 (b := (decide (y13.1 = y16.1))) (by kernel_rfl) (fun hb54 => ?_) (fun hb54 => ?_)
            · have h55 := condT hb54 h52
              refine RJ.seg 5 [2, 14, 17, 82] (L2 := [(2, .bool false), (14, .int .i64 y13.2.2), (17, .int .i64 y16.2.2), (82, .bool (decide (y13.2.1 = y16.2.1)))]) (H2 := [.box [lsv (encI .u8) 1 x0.B_, .int .u32 x0.N_, .int .i64 x0.Size_, .int .i64 x0.At_]]) (by kernel_rfl) ?_
              refine RJ.caseB 82 (b := (decide (y13.2.1 = y16.2.1))) (by kernel_rfl) (fun hb57 => ?_) (fun hb57 => ?_)
              · have h58 := condT hb57 h55
                refine RJ.seg 5 [2] (L2 := [(2, .bool (decide (y13.2.2 = y16.2.2)))]) (H2 := [.box [lsv (encI .u8) 1 x0.B_, .int .u32 x0.N_, .int .i64 x0.Size_, .int .i64 x0.At_]]) (by kernel_rfl) ?_
                refine RJ.end (by kernel_rfl) ?_
                obtain rfl := Option.some.inj h58
                refine PJ.wk (Wk.sel (L2 := [(2, .bool (decide (y13.2.2 = y16.2.2)))]) (H2 := []) 0 (by rw [hFH]; rfl) hFD [] (by kernel_rfl) (by kernel_rfl) (by decide) (by kernel_rfl) (by kernel_rfl) (by kernel_rfl) (by kernel_rfl)) ?_
                exact PJ.cutN [2] (by kernel_rfl) (by kernel_rfl)
              · have h59 := condF hb57 h55
                refine RJ.seg 5 [2] (L2 := [(2, .bool false)]) (H2 := [.box [lsv (encI .u8) 1 x0.B_, .int .u32 x0.N_, .int .i64 x0.Size_, .int .i64 x0.At_]]) (by kernel_rfl) ?_
                refine RJ.end (by kernel_rfl) ?_
                obtain rfl := Option.some.inj h59
                refine PJ.wk (Wk.sel (L2 := [(2, .bool false)]) (H2 := []) 0 (by rw [hFH]; rfl) hFD [] (by kernel_rfl) (by kernel_rfl) (by decide) (by kernel_rfl) (by kernel_rfl) (by kernel_rfl) (by kernel_rfl)) ?_
                exact PJ.cutN [2] (by kernel_rfl) (by kernel_rfl)
            · have h56 := condF hb54 h52
              refine RJ.seg 10 [2] (L2 := [(2, .bool false)]) (H2 := [.box [lsv (encI .u8) 1 x0.B_, .int .u32 x0.N_, .int .i64 x0.Size_, .int .i64 x0.At_]]) (by kernel_rfl) ?_
              refine RJ.end (by kernel_rfl) ?_
              obtain rfl := Option.some.inj h56
              refine PJ.wk (Wk.sel (L2 := [(2, .bool false)]) (H2 := []) 0 (by rw [hFH]; rfl) hFD [] (by kernel_rfl) (by kernel_rfl) (by decide) (by kernel_rfl) (by kernel_rfl) (by kernel_rfl) (by kernel_rfl)) ?_
              exact PJ.cutN [2] (by kernel_rfl) (by kernel_rfl)
          · have h53 := condF hb51 h49
            refine RJ.seg 15 [2] (L2 := [(2, .bool false)]) (H2 := [.box [lsv (encI .u8) 1 x0.B_, .int .u32 x0.N_, .int .i64 x0.Size_, .int .i64 x0.At_]]) (by kernel_rfl) ?_
            refine RJ.end (by kernel_rfl) ?_
            obtain rfl := Option.some.inj h53
            refine PJ.wk (Wk.sel (L2 := [(2, .bool false)]) (H2 := []) 0 (by rw [hFH]; rfl) hFD [] (by kernel_rfl) (by kernel_rfl) (by decide) (by kernel_rfl) (by kernel_rfl) (by kernel_rfl) (by kernel_rfl)) ?_
            exact PJ.cutN [2] (by kernel_rfl) (by kernel_rfl)
        · have h50 := condF hb48 h47
          refine RJ.seg 20 [2] (L2 := [(2, .bool false)]) (H2 := [.box [lsv (encI .u8) 1 x0.B_, .int .u32 x0.N_, .int .i64 x0.Size_, .int .i64 x0.At_]]) (by kernel_rfl) ?_
          refine RJ.end (by kernel_rfl) ?_
          obtain rfl := Option.some.inj h50
          refine PJ.wk (Wk.sel (L2 := [(2, .bool false)]) (H2 := []) 0 (by rw [hFH]; rfl) hFD [] (by kernel_rfl) (by kernel_rfl) (by decide) (by kernel_rfl) (by kernel_rfl) (by kernel_rfl) (by kernel_rfl)) ?_
          exact PJ.cutN [2] (by kernel_rfl) (by kernel_rfl)
      · have h44 := condF hb42 hy39
        refine RJ.seg 25 [2] (L2 := [(2, .bool false)]) (H2 := [.box [lsv (encI .u8) 1 x0.B_, .int .u32 x0.N_, .int .i64 x0.Size_, .int .i64 x0.At_]]) (by kernel_rfl) ?_
        refine RJ.end (by kernel_rfl) ?_
        obtain rfl := Option.some.inj h44
        refine PJ.wk (Wk.sel (L2 := [(2, .bool false)]) (H2 := []) 0 (by rw [hFH]; rfl) hFD [] (by kernel_rfl) (by kernel_rfl) (by decide) (by kernel_rfl) (by kernel_rfl) (by kernel_rfl) (by kernel_rfl)) ?_
        exact PJ.cutN [2] (by kernel_rfl) (by kernel_rfl)
    · refine K.ret (by kernel_rfl) ?_
      obtain rfl := Option.some.inj h41
      exact K.ret0 (.inr rfl) hFn hFH hFD (by kernel_rfl) (by kernel_rfl) (by kernel_rfl)

def exergueref09_Short (x0 : List (List UInt8)) : Option (Bool) :=
  (Option.bind (loopN (fun (s153 : Int × Int) => (bif (decide (s153.2 < (x0.length : Int))) then (Option.bind (bif inR s153.2 x0.length then (Option.bind (bif (decide (s153.2 ≥ 600)) then (some true) else (some ((decide (((IntKind.wrap .i64 (s153.1 + ((nth x0 s153.2).length : Int)))) > 20000))))) fun (s283 : Bool) => (bif s283 then (some (.inr (.inr (.inr false)))) else (some (.inl ())))) else none) (joinX fun (s274 : Unit) => (some (.inl ((IntKind.wrap .i64 (s153.1 + ((nth x0 s153.2).length : Int))), (IntKind.wrap .i64 (s153.2 + 1))))))) else (some (.inr (.inl ()))))) big (0, 0)) (joinX fun (s148 : Unit) => (some true)))
theorem exergueref09_Short_ok {x0 : List (List UInt8)} {r : Bool} (h : exergueref09_Short x0 = some r) : SC Try.prog 16 [lsv encT 1 x0] [] (.bool r) [] := by
  refine K.fn (fn := Try.f16) (by kernel_rfl) (by kernel_rfl) (by kernel_rfl) (by kernel_rfl) (by kernel_rfl) (fun F hFn hFH hFD => ?_)
  unfold exergueref09_Short at h
  refine K.seq (by kernel_rfl) ?_
  refine K.region (by kernel_rfl) ?_
  refine RJ.seg 1 [0, 2] (L2 := [(0, lsv encT 1 x0), (2, .bool false)]) (H2 := []) (by kernel_rfl) ?_
  refine RJ.end (by kernel_rfl) ?_
  refine PJ.next ?_
  refine K.seq (by kernel_rfl) ?_
  refine K.region (by kernel_rfl) ?_
  refine RJ.seg 1 [0, 2, 3] (L2 := [(0, lsv encT 1 x0), (2, .bool false), (3, .int .i64 0)]) (H2 := []) (by kernel_rfl) ?_
  refine RJ.end (by kernel_rfl) ?_
  refine PJ.next ?_
  obtain ⟨y149, hy150, h151⟩ := bindS h
  refine K.cutX (by kernel_rfl) (fun (s148 : Unit) => ([(2, .bool false)], [])) y149 ?_ (fun s148 hs => ?_)
  · refine K.seq (by kernel_rfl) ?_
    refine K.region (by kernel_rfl) ?_
    refine RJ.seg 1 [0, 2, 3, 4] (L2 := [(0, lsv encT 1 x0), (2, .bool false), (3, .int .i64 0), (4, .int .i64 0)]) (H2 := []) (by kernel_rfl) ?_
    refine RJ.end (by kernel_rfl) ?_
    refine PJ.next ?_
    refine K.block 0 (by kernel_rfl) ?_
    refine K.loop (by kernel_rfl) (fun (s153 : Int × Int) => ([(0, lsv encT 1 x0), (2, .bool false), (3, .int .i64 s153.1), (4, .int .i64 s153.2)], [])) hy150 [0, 2, 3, 4] (by kernel_rfl) (by kernel_rfl) (fun s153 x251 hs250 => ?_)
    refine K.seq (by kernel_rfl) ?_
    refine K.seq (by kernel_rfl) ?_
    refine K.region (by kernel_rfl) ?_
    refine RJ.seg 4 [0, 2, 3, 4, 8] (L2 := [(0, lsv encT 1 x0), (2, .bool false), (3, .int .i64 s153.1), (4, .int .i64 s153.2), (8, .bool ((decide (s153.2 < (x0.length : Int)))))]) (H2 := []) (by kernel_rfl) ?_
    refine RJ.end (by kernel_rfl) ?_
    refine PJ.next ?_
    refine J.caseB 8 (b := (decide (s153.2 < (x0.length : Int)))) (by kernel_rfl) (fun hb252 => ?_) (fun hb252 => ?_)
    · have h253 := condT hb252 hs250
      refine K.condT (by kernel_rfl) ?_
      refine K.skip (by kernel_rfl) ?_
      refine PJ.next ?_
      obtain ⟨y275, hy276, h277⟩ := bindS h253
      refine K.cutX (by kernel_rfl) (fun (s274 : Unit) => ([(0, lsv encT 1 x0), (2, .bool false), (3, .int .i64 ((IntKind.wrap .i64 (s153.1 + ((nth x0 s153.2).length : Int))))), (4, .int .i64 s153.2)], [])) y275 ?_ (fun s274 hs => ?_)
      · refine K.block 1 (by kernel_rfl) ?_
        refine K.seq (by kernel_rfl) ?_
        refine K.region (by kernel_rfl) ?_
        refine RJ.seg 3 [0, 2, 3, 4, 11, 12, 13] (L2 := [(0, lsv encT 1 x0), (2, .bool false), (3, .int .i64 s153.1), (4, .int .i64 s153.2), (11, .int .i64 s153.1), (12, lsv encT 1 x0), (13, .int .i64 s153.2)]) (H2 := []) (by kernel_rfl) ?_
        obtain ⟨hm, h279⟩ := asrt hy276
        refine RJ.rel (d := (some 14)) (ef := ⟨.ep (((x0.flatMap encT).drop ((s153.2 : Int).toNat * 1)).take 1), [], []⟩) (ef' := ⟨.ep (encT (nth x0 s153.2)), [], []⟩) (c := inR s153.2 x0.length) (tr2 := []) (H2 := []) (by kernel_rfl) hm (fun hc => N.idx encT_len hc) (by kernel_rfl) ?_
        refine RJ.seg 4 [0, 2, 3, 4] (L2 := [(0, lsv encT 1 x0), (2, .bool false), (3, .int .i64 ((IntKind.wrap .i64 (s153.1 + ((nth x0 s153.2).length : Int))))), (4, .int .i64 s153.2)]) (H2 := []) (by kernel_rfl) ?_
        refine RJ.end (by kernel_rfl) ?_
        refine PJ.next ?_
        obtain ⟨s283, hy285, h287⟩ := bindS h279
        refine K.cutN (by kernel_rfl) (fun (s283 : Bool) => ([(0, lsv encT 1 x0), (2, .bool false), (3, .int .i64 ((IntKind.wrap .i64 (s153.1 + ((nth x0 s153.2).length : Int))))), (4, .int .i64 s153.2), (23, .bool s283)], [])) s283 ?_ ?_
        · refine K.region (by kernel_rfl) ?_
          refine RJ.seg 3 [0, 2, 3, 4, 20] (L2 := [(0, lsv encT 1 x0), (2, .bool false), (3, .int .i64 ((IntKind.wrap .i64 (s153.1 + ((nth x0 s153.2).length : Int))))), (4, .int .i64 s153.2), (20, .bool (decide (s153.2 ≥ 600)))]) (H2 := []) (by kernel_rfl) ?_
          refine RJ.caseB 20 (b := (decide (s153.2 ≥ 600))) (by kernel_rfl) (fun hb288 => ?_) (fun hb288 => ?_)
          · have h289 := condT hb288 hy285
            refine RJ.seg 3 [0, 2, 3, 4, 23] (L2 := [(0, lsv encT 1 x0), (2, .bool false), (3, .int .i64 ((IntKind.wrap .i64 (s153.1 + ((nth x0 s153.2).length : Int))))), (4, .int .i64 s153.2), (23, .bool true)]) (H2 := []) (by kernel_rfl) ?_
            refine RJ.end (by kernel_rfl) ?_
            obtain rfl := Option.some.inj h289
            exact PJ.cutN [0, 2, 3, 4, 23] (by kernel_rfl) (by kernel_rfl)
          · have h290 := condF hb288 hy285
            refine RJ.seg 3 [0, 2, 3, 4, 23] (L2 := [(0, lsv encT 1 x0), (2, .bool false), (3, .int .i64 ((IntKind.wrap .i64 (s153.1 + ((nth x0 s153.2).length : Int))))), (4, .int .i64 s153.2), (23, .bool ((decide (((IntKind.wrap .i64 (s153.1 + ((nth x0 s153.2).length : Int)))) > 20000))))]) (H2 := []) (by kernel_rfl) ?_
            refine RJ.end (by kernel_rfl) ?_
            obtain rfl := Option.some.inj h290
            exact PJ.cutN [0, 2, 3, 4, 23] (by kernel_rfl) (by kernel_rfl)
        · refine J.caseB 23 (b := s283) (by kernel_rfl) (fun hb291 => ?_) (fun hb291 => ?_)
          · have h292 := condT hb291 h287
            refine K.condT (by kernel_rfl) ?_
            refine K.seq (by kernel_rfl) ?_
            refine K.region (by kernel_rfl) ?_
            refine RJ.seg 1 [0, 2, 3, 4] (L2 := [(0, lsv encT 1 x0), (2, .bool false), (3, .int .i64 ((IntKind.wrap .i64 (s153.1 + ((nth x0 s153.2).length : Int))))), (4, .int .i64 s153.2)]) (H2 := []) (by kernel_rfl) ?_
            refine RJ.end (by kernel_rfl) ?_
            refine PJ.next ?_
            refine K.ret (by kernel_rfl) ?_
            refine PJ.blockRet ?_
            obtain rfl := Option.some.inj h292
            have h294 := joinX_inr h277
            refine PJ.cutXr (fun e => nomatch e) ?_
            obtain rfl := Option.some.inj h294
            refine PJ.loopOut (fun e => nomatch e) (fun he297 => ?_)
            have h295 := congrArg some he297
            refine PJ.blockRet ?_
            obtain rfl := Option.some.inj h295
            have h296 := joinX_inr h151
            refine PJ.cutXr (fun e => nomatch e) ?_
            obtain rfl := Option.some.inj h296
            exact K.ret0 (.inr rfl) hFn hFH hFD (by kernel_rfl) (by kernel_rfl) (by kernel_rfl)
          · have h293 := condF hb291 h287
            refine K.condF (by kernel_rfl) ?_
            refine K.skip (by kernel_rfl) ?_
            refine PJ.blockNormal ?_
            obtain rfl := Option.some.inj h293
            exact PJ.cutXl [0, 2, 3, 4] (by kernel_rfl) (by kernel_rfl)
      · subst hs
        have h278 := joinX_inl h277
        refine K.region (by kernel_rfl) ?_
        refine RJ.seg 3 [0, 2, 3, 4] (L2 := [(0, lsv encT 1 x0), (2, .bool false), (3, .int .i64 ((IntKind.wrap .i64 (s153.1 + ((nth x0 s153.2).length : Int))))), (4, .int .i64 (IntKind.wrap .i64 (s153.2 + 1)))]) (H2 := []) (by kernel_rfl) ?_
        refine RJ.end (by kernel_rfl) ?_
        obtain rfl := Option.some.inj h278
        exact PJ.loopNext [0, 2, 3, 4] (by kernel_rfl) (by kernel_rfl)
    · have h254 := condF hb252 hs250
      refine K.condF (by kernel_rfl) ?_
      refine K.exit 0 (by kernel_rfl) ?_
      refine PJ.passExit ?_
      obtain rfl := Option.some.inj h254
      refine PJ.loopOut (fun e => nomatch e) (fun he299 => ?_)
      have h298 := congrArg some he299
      refine PJ.blockOut ?_
      obtain rfl := Option.some.inj h298
      exact PJ.cutXl [2] (by kernel_rfl) (by kernel_rfl)
  · subst hs
    have h152 := joinX_inl h151
    refine K.seq (by kernel_rfl) ?_
    refine K.region (by kernel_rfl) ?_
    refine RJ.seg 1 [2] (L2 := [(2, .bool true)]) (H2 := []) (by kernel_rfl) ?_
    refine RJ.end (by kernel_rfl) ?_
    refine PJ.next ?_
    refine K.ret (by kernel_rfl) ?_
    obtain rfl := Option.some.inj h152
    exact K.ret0 (.inr rfl) hFn hFH hFD (by kernel_rfl) (by kernel_rfl) (by kernel_rfl)

def exergueref09_At (x0 : List (List UInt8)) (x1 : List UInt8) : Option (Int) :=
  (Option.bind (loopN (fun (s45 : Int) => (bif (decide (s45 < (x0.length : Int))) then (bif inR s45 x0.length then (bif ((nth x0 s45) == x1) then (some (.inr (.inr s45))) else (some (.inl (IntKind.wrap .i64 (s45 + 1))))) else none) else (some (.inr (.inl ()))))) big 0) (joinX fun (s40 : Unit) => (some (-1))))
theorem exergueref09_At_ok {x0 : List (List UInt8)} {x1 : List UInt8} {r : Int} (h : exergueref09_At x0 x1 = some r) : SC Try.prog 27 [lsv encT 1 x0, .str x1] [] (.int .i64 r) [] := by
  refine K.fn (fn := Try.f27) (by kernel_rfl) (by kernel_rfl) (by kernel_rfl) (by kernel_rfl) (by kernel_rfl) (fun F hFn hFH hFD => ?_)
  unfold exergueref09_At at h
  refine K.seq (by kernel_rfl) ?_
  refine K.region (by kernel_rfl) ?_
  refine RJ.seg 1 [0, 1, 4] (L2 := [(0, lsv encT 1 x0), (1, .str x1), (4, .int .i64 0)]) (H2 := []) (by kernel_rfl) ?_
  refine RJ.end (by kernel_rfl) ?_
  refine PJ.next ?_
  obtain ⟨y41, hy42, h43⟩ := bindS h
  refine K.cutX (by kernel_rfl) (fun (s40 : Unit) => ([(4, .int .i64 0)], [])) y41 ?_ (fun s40 hs => ?_)
  · refine K.seq (by kernel_rfl) ?_
    refine K.region (by kernel_rfl) ?_
    refine RJ.seg 1 [0, 1, 4, 5] (L2 := [(0, lsv encT 1 x0), (1, .str x1), (4, .int .i64 0), (5, .int .i64 0)]) (H2 := []) (by kernel_rfl) ?_
    refine RJ.end (by kernel_rfl) ?_
    refine PJ.next ?_
    refine K.block 0 (by kernel_rfl) ?_
    refine K.loop (by kernel_rfl) (fun (s45 : Int) => ([(0, lsv encT 1 x0), (1, .str x1), (4, .int .i64 0), (5, .int .i64 s45)], [])) hy42 [0, 1, 4, 5] (by kernel_rfl) (by kernel_rfl) (fun s45 x71 hs70 => ?_)
    refine K.seq (by kernel_rfl) ?_
    refine K.seq (by kernel_rfl) ?_
    refine K.region (by kernel_rfl) ?_
    refine RJ.seg 4 [0, 1, 4, 5, 9] (L2 := [(0, lsv encT 1 x0), (1, .str x1), (4, .int .i64 0), (5, .int .i64 s45), (9, .bool ((decide (s45 < (x0.length : Int)))))]) (H2 := []) (by kernel_rfl) ?_
    refine RJ.end (by kernel_rfl) ?_
    refine PJ.next ?_
    refine J.caseB 9 (b := (decide (s45 < (x0.length : Int)))) (by kernel_rfl) (fun hb72 => ?_) (fun hb72 => ?_)
    · have h73 := condT hb72 hs70
      refine K.condT (by kernel_rfl) ?_
      refine K.skip (by kernel_rfl) ?_
      refine PJ.next ?_
      refine K.seq (by kernel_rfl) ?_
      refine K.block 1 (by kernel_rfl) ?_
      refine K.seq (by kernel_rfl) ?_
      refine K.region (by kernel_rfl) ?_
      refine RJ.seg 2 [0, 1, 4, 5, 12, 13] (L2 := [(0, lsv encT 1 x0), (1, .str x1), (4, .int .i64 0), (5, .int .i64 s45), (12, lsv encT 1 x0), (13, .int .i64 s45)]) (H2 := []) (by kernel_rfl) ?_
      obtain ⟨hm, h75⟩ := asrt h73
      refine RJ.rel (d := (some 14)) (ef := ⟨.ep (((x0.flatMap encT).drop ((s45 : Int).toNat * 1)).take 1), [], []⟩) (ef' := ⟨.ep (encT (nth x0 s45)), [], []⟩) (c := inR s45 x0.length) (tr2 := []) (H2 := []) (by kernel_rfl) hm (fun hc => N.idx encT_len hc) (by kernel_rfl) ?_
      refine RJ.seg 3 [0, 1, 4, 5, 17] (L2 := [(0, lsv encT 1 x0), (1, .str x1), (4, .int .i64 0), (5, .int .i64 s45), (17, .bool ((nth x0 s45) == x1))]) (H2 := []) (by kernel_rfl) ?_
      refine RJ.end (by kernel_rfl) ?_
      refine PJ.next ?_
      refine J.caseB 17 (b := ((nth x0 s45) == x1)) (by kernel_rfl) (fun hb76 => ?_) (fun hb76 => ?_)
      · have h77 := condT hb76 h75
        refine K.condT (by kernel_rfl) ?_
        refine K.seq (by kernel_rfl) ?_
        refine K.region (by kernel_rfl) ?_
        refine RJ.seg 2 [0, 1, 4, 5] (L2 := [(0, lsv encT 1 x0), (1, .str x1), (4, .int .i64 s45), (5, .int .i64 s45)]) (H2 := []) (by kernel_rfl) ?_
        refine RJ.end (by kernel_rfl) ?_
        refine PJ.next ?_
        refine K.ret (by kernel_rfl) ?_
        refine PJ.blockRet ?_
        refine PJ.passRet ?_
        obtain rfl := Option.some.inj h77
        refine PJ.loopOut (fun e => nomatch e) (fun he81 => ?_)
        have h79 := congrArg some he81
        refine PJ.blockRet ?_
        obtain rfl := Option.some.inj h79
        have h80 := joinX_inr h43
        refine PJ.cutXr (fun e => nomatch e) ?_
        obtain rfl := Option.some.inj h80
        exact K.ret0 (.inr rfl) hFn hFH hFD (by kernel_rfl) (by kernel_rfl) (by kernel_rfl)
      · have h78 := condF hb76 h75
        refine K.condF (by kernel_rfl) ?_
        refine K.skip (by kernel_rfl) ?_
        refine PJ.blockNormal ?_
        refine PJ.next ?_
        refine K.region (by kernel_rfl) ?_
        refine RJ.seg 3 [0, 1, 4, 5] (L2 := [(0, lsv encT 1 x0), (1, .str x1), (4, .int .i64 0), (5, .int .i64 (IntKind.wrap .i64 (s45 + 1)))]) (H2 := []) (by kernel_rfl) ?_
        refine RJ.end (by kernel_rfl) ?_
        obtain rfl := Option.some.inj h78
        exact PJ.loopNext [0, 1, 4, 5] (by kernel_rfl) (by kernel_rfl)
    · have h74 := condF hb72 hs70
      refine K.condF (by kernel_rfl) ?_
      refine K.exit 0 (by kernel_rfl) ?_
      refine PJ.passExit ?_
      obtain rfl := Option.some.inj h74
      refine PJ.loopOut (fun e => nomatch e) (fun he83 => ?_)
      have h82 := congrArg some he83
      refine PJ.blockOut ?_
      obtain rfl := Option.some.inj h82
      exact PJ.cutXl [4] (by kernel_rfl) (by kernel_rfl)
  · subst hs
    have h44 := joinX_inl h43
    refine K.seq (by kernel_rfl) ?_
    refine K.region (by kernel_rfl) ?_
    refine RJ.seg 1 [4] (L2 := [(4, .int .i64 (-1))]) (H2 := []) (by kernel_rfl) ?_
    refine RJ.end (by kernel_rfl) ?_
    refine PJ.next ?_
    refine K.ret (by kernel_rfl) ?_
    obtain rfl := Option.some.inj h44
    exact K.ret0 (.inr rfl) hFn hFH hFD (by kernel_rfl) (by kernel_rfl) (by kernel_rfl)

def exergueref09_Gather (x0 : List (List UInt8)) : Option ((List (List UInt8)) × (List Int)) :=
  (Option.bind (loopN (fun (s159 : Int × (List (List UInt8)) × (List Int)) => (bif (decide (s159.1 < (x0.length : Int))) then (Option.bind (bif inR s159.1 x0.length then (Option.bind (exergueref09_At s159.2.1 (nth x0 s159.1)) fun y291 => (Option.bind (bif (decide (y291 < 0)) then (bif inR s159.1 x0.length then (bif room (s159.2.1.length + ([(nth x0 s159.1)] : List (List UInt8)).length) then (some ((s159.2.1.length : Int), (s159.2.1 ++ ([(nth x0 s159.1)] : List (List UInt8))))) else none) else none) else (some (y291, s159.2.1))) fun (s299 : Int × (List (List UInt8))) => (bif room (s159.2.2.length + ([s299.1] : List Int).length) then (some (s299.2, (s159.2.2 ++ ([s299.1] : List Int)))) else none))) else none) fun (s285 : (List (List UInt8)) × (List Int)) => (some (.inl ((IntKind.wrap .i64 (s159.1 + 1)), s285.1, s285.2)))) else (some (.inr (s159.2.1, s159.2.2))))) big (0, ([] : List (List UInt8)), ([] : List Int))) fun (s154 : (List (List UInt8)) × (List Int)) => (some (s154.1, s154.2)))
theorem exergueref09_Gather_ok {x0 : List (List UInt8)} {r : (List (List UInt8)) × (List Int)} (h : exergueref09_Gather x0 = some r) : SC Try.prog 18 [lsv encT 1 x0] [] (.tup [lsv encT 1 r.1, lsv (encI .i64) 1 r.2]) [] := by
  refine K.fn (fn := Try.f18) (by kernel_rfl) (by kernel_rfl) (by kernel_rfl) (by kernel_rfl) (by kernel_rfl) (fun F hFn hFH hFD => ?_)
  unfold exergueref09_Gather at h
  refine K.seq (by kernel_rfl) ?_
  refine K.region (by kernel_rfl) ?_
  refine RJ.seg 2 [0, 2, 3] (L2 := [(0, lsv encT 1 x0), (2, .nl), (3, .nl)]) (H2 := []) (by kernel_rfl) ?_
  refine RJ.end (by kernel_rfl) ?_
  refine PJ.next ?_
  refine K.seq (by kernel_rfl) ?_
  refine K.region (by kernel_rfl) ?_
  refine RJ.seg 1 [0, 2, 3, 4] (L2 := [(0, lsv encT 1 x0), (2, .nl), (3, .nl), (4, .nl)]) (H2 := []) (by kernel_rfl) ?_
  refine RJ.end (by kernel_rfl) ?_
  refine PJ.next ?_
  refine K.seq (by kernel_rfl) ?_
  refine K.region (by kernel_rfl) ?_
  refine RJ.seg 1 [0, 2, 3, 4, 5] (L2 := [(0, lsv encT 1 x0), (2, .nl), (3, .nl), (4, .nl), (5, .nl)]) (H2 := []) (by kernel_rfl) ?_
  refine RJ.end (by kernel_rfl) ?_
  refine PJ.next ?_
  obtain ⟨s154, hy156, h158⟩ := bindS h
  refine K.cutN (by kernel_rfl) (fun (s154 : (List (List UInt8)) × (List Int)) => ([(2, .nl), (3, .nl), (4, .vc 0), (5, .vc 1)], [vecL encT 1 9 s154.1, vecL (encI .i64) 1 3 s154.2])) s154 ?_ ?_
  · refine K.seq (by kernel_rfl) ?_
    refine K.region (by kernel_rfl) ?_
    refine RJ.seg 1 [0, 2, 3, 4, 5, 6] (L2 := [(0, lsv encT 1 x0), (2, .nl), (3, .nl), (4, .nl), (5, .nl), (6, .int .i64 0)]) (H2 := []) (by kernel_rfl) ?_
    refine RJ.end (by kernel_rfl) ?_
    refine PJ.next ?_
    refine K.block 0 (by kernel_rfl) ?_
    refine J.wk (Wk.viv 4 1 9 (by kernel_rfl)) ?_
    refine J.wk (Wk.viv 5 1 3 (by kernel_rfl)) ?_
    refine K.loop (by kernel_rfl) (fun (s159 : Int × (List (List UInt8)) × (List Int)) => ([(0, lsv encT 1 x0), (2, .nl), (3, .nl), (4, .vc 0), (5, .vc 1), (6, .int .i64 s159.1)], [vecL encT 1 9 s159.2.1, vecL (encI .i64) 1 3 s159.2.2])) hy156 [0, 2, 3, 4, 5, 6] (by kernel_rfl) (by kernel_rfl) (fun s159 x261 hs260 => ?_)
    refine K.seq (by kernel_rfl) ?_
    refine K.seq (by kernel_rfl) ?_
    refine K.region (by kernel_rfl) ?_
    refine RJ.seg 4 [0, 2, 3, 4, 5, 6, 11] (L2 := [(0, lsv encT 1 x0), (2, .nl), (3, .nl), (4, .vc 0), (5, .vc 1), (6, .int .i64 s159.1), (11, .bool ((decide (s159.1 < (x0.length : Int)))))]) (H2 := [vecL encT 1 9 s159.2.1, vecL (encI .i64) 1 3 s159.2.2]) (by kernel_rfl) ?_
    refine RJ.end (by kernel_rfl) ?_
    refine PJ.next ?_
    refine J.caseB 11 (b := (decide (s159.1 < (x0.length : Int)))) (by kernel_rfl) (fun hb262 => ?_) (fun hb262 => ?_)
    · have h263 := condT hb262 hs260
      refine K.condT (by kernel_rfl) ?_
      refine K.skip (by kernel_rfl) ?_
      refine PJ.next ?_
      obtain ⟨s285, hy287, h289⟩ := bindS h263
      refine K.cutN (by kernel_rfl) (fun (s285 : (List (List UInt8)) × (List Int)) => ([(0, lsv encT 1 x0), (2, .nl), (3, .nl), (4, .vc 0), (5, .vc 1), (6, .int .i64 s159.1)], [vecL encT 1 9 s285.1, vecL (encI .i64) 1 3 s285.2])) s285 ?_ ?_
      · refine K.block 1 (by kernel_rfl) ?_
        refine K.seq (by kernel_rfl) ?_
        refine K.region (by kernel_rfl) ?_
        refine RJ.seg 3 [0, 2, 3, 4, 5, 6, 14, 15, 16] (L2 := [(0, lsv encT 1 x0), (2, .nl), (3, .nl), (4, .vc 0), (5, .vc 1), (6, .int .i64 s159.1), (14, .vc 0), (15, lsv encT 1 x0), (16, .int .i64 s159.1)]) (H2 := [vecL encT 1 9 s159.2.1, vecL (encI .i64) 1 3 s159.2.2]) (by kernel_rfl) ?_
        obtain ⟨hm, h290⟩ := asrt hy287
        refine RJ.rel (d := (some 17)) (ef := ⟨.ep (((x0.flatMap encT).drop ((s159.1 : Int).toNat * 1)).take 1), [], []⟩) (ef' := ⟨.ep (encT (nth x0 s159.1)), [], []⟩) (c := inR s159.1 x0.length) (tr2 := []) (H2 := [vecL encT 1 9 s159.2.1, vecL (encI .i64) 1 3 s159.2.2]) (by kernel_rfl) hm (fun hc => N.idx encT_len hc) (by kernel_rfl) ?_
        refine RJ.seg 1 [0, 2, 3, 4, 5, 6, 14, 18] (L2 := [(0, lsv encT 1 x0), (2, .nl), (3, .nl), (4, .vc 0), (5, .vc 1), (6, .int .i64 s159.1), (14, .vc 0), (18, .str (nth x0 s159.1))]) (H2 := [vecL encT 1 9 s159.2.1, vecL (encI .i64) 1 3 s159.2.2]) (by kernel_rfl) ?_
        obtain ⟨y291, hy292, h293⟩ := bindS h290
        refine RJ.callL (d := (some 19)) (f := 27) (args := [.vc 0, .str (nth x0 s159.1)]) (args0 := [.vc 0, .str (nth x0 s159.1)]) (args1 := [lsv encT 1 s159.2.1, .str (nth x0 s159.1)]) (H0 := [vecL encT 1 9 s159.2.1]) (v := .int .i64 y291) (tr2 := []) [0] (by kernel_rfl) (by kernel_rfl) (by kernel_rfl) (by kernel_rfl) (by decide) (by kernel_rfl) (by kernel_rfl) (by kernel_rfl) (by kernel_rfl) (.cons (Le.refl _) (.cons (Le.refl _) .nil)) (exergueref09_At_ok hy292) (by kernel_rfl) (by kernel_rfl) ?_
        refine RJ.seg 1 [0, 2, 3, 4, 5, 6, 7] (L2 := [(0, lsv encT 1 x0), (2, .nl), (3, .nl), (4, .vc 0), (5, .vc 1), (6, .int .i64 s159.1), (7, .int .i64 y291)]) (H2 := [vecL encT 1 9 s159.2.1, vecL (encI .i64) 1 3 s159.2.2]) (by kernel_rfl) ?_
        refine RJ.end (by kernel_rfl) ?_
        refine PJ.next ?_
        obtain ⟨s299, hy301, h303⟩ := bindS h293
        refine K.cutN (by kernel_rfl) (fun (s299 : Int × (List (List UInt8))) => ([(0, lsv encT 1 x0), (2, .nl), (3, .nl), (4, .vc 0), (5, .vc 1), (6, .int .i64 s159.1), (7, .int .i64 s299.1)], [vecL encT 1 9 s299.2, vecL (encI .i64) 1 3 s159.2.2])) s299 ?_ ?_
        · refine K.seq (by kernel_rfl) ?_
          refine K.region (by kernel_rfl) ?_
          refine RJ.seg 2 [0, 2, 3, 4, 5, 6, 7, 21] (L2 := [(0, lsv encT 1 x0), (2, .nl), (3, .nl), (4, .vc 0), (5, .vc 1), (6, .int .i64 s159.1), (7, .int .i64 y291), (21, .bool (decide (y291 < 0)))]) (H2 := [vecL encT 1 9 s159.2.1, vecL (encI .i64) 1 3 s159.2.2]) (by kernel_rfl) ?_
          refine RJ.end (by kernel_rfl) ?_
          refine PJ.next ?_
          refine J.caseB 21 (b := (decide (y291 < 0))) (by kernel_rfl) (fun hb304 => ?_) (fun hb304 => ?_)
          · have h305 := condT hb304 hy301
            refine K.condT (by kernel_rfl) ?_
            refine K.seq (by kernel_rfl) ?_
            refine K.region (by kernel_rfl) ?_
            refine RJ.seg 3 [0, 2, 3, 4, 5, 6, 7] (L2 := [(0, lsv encT 1 x0), (2, .nl), (3, .nl), (4, .vc 0), (5, .vc 1), (6, .int .i64 s159.1), (7, .int .i64 (s159.2.1.length : Int))]) (H2 := [vecL encT 1 9 s159.2.1, vecL (encI .i64) 1 3 s159.2.2]) (by kernel_rfl) ?_
            refine RJ.end (by kernel_rfl) ?_
            refine PJ.next ?_
            refine K.region (by kernel_rfl) ?_
            refine RJ.seg 3 [0, 2, 3, 4, 5, 6, 7, 24, 25, 26] (L2 := [(0, lsv encT 1 x0), (2, .nl), (3, .nl), (4, .vc 0), (5, .vc 1), (6, .int .i64 s159.1), (7, .int .i64 (s159.2.1.length : Int)), (24, .vc 0), (25, lsv encT 1 x0), (26, .int .i64 s159.1)]) (H2 := [vecL encT 1 9 s159.2.1, vecL (encI .i64) 1 3 s159.2.2]) (by kernel_rfl) ?_
            obtain ⟨hm, h307⟩ := asrt h305
            refine RJ.rel (d := (some 27)) (ef := ⟨.ep (((x0.flatMap encT).drop ((s159.1 : Int).toNat * 1)).take 1), [], []⟩) (ef' := ⟨.ep (encT (nth x0 s159.1)), [], []⟩) (c := inR s159.1 x0.length) (tr2 := []) (H2 := [vecL encT 1 9 s159.2.1, vecL (encI .i64) 1 3 s159.2.2]) (by kernel_rfl) hm (fun hc => N.idx encT_len hc) (by kernel_rfl) ?_
            refine RJ.seg 2 [0, 2, 3, 4, 5, 6, 7, 24, 29] (L2 := [(0, lsv encT 1 x0), (2, .nl), (3, .nl), (4, .vc 0), (5, .vc 1), (6, .int .i64 s159.1), (7, .int .i64 (s159.2.1.length : Int)), (24, .vc 0), (29, .vc 2)]) (H2 := [vecL encT 1 9 s159.2.1, vecL (encI .i64) 1 3 s159.2.2, vecL encT 1 9 ([(nth x0 s159.1)] : List (List UInt8))]) (by kernel_rfl) ?_
            obtain ⟨hm, h308⟩ := asrt h307
            refine RJ.rel (d := (some 30)) (ef := ⟨.vc 3, [0, 2], [(0, .gone), (3, .vec (s159.2.1.length + ([(nth x0 s159.1)] : List (List UInt8)).length) 1 9 (s159.2.1.flatMap encT ++ ([(nth x0 s159.1)] : List (List UInt8)).flatMap encT))]⟩) (ef' := ⟨.vc 3, [0, 2], [(0, .gone), (3, vecL encT 1 9 (s159.2.1 ++ ([(nth x0 s159.1)] : List (List UInt8))))]⟩) (c := room (s159.2.1.length + ([(nth x0 s159.1)] : List (List UInt8)).length)) (tr2 := []) (H2 := [.gone, vecL (encI .i64) 1 3 s159.2.2, vecL encT 1 9 ([(nth x0 s159.1)] : List (List UInt8)), vecL encT 1 9 ((s159.2.1 ++ ([(nth x0 s159.1)] : List (List UInt8))))]) (by kernel_rfl) hm (fun hc => N.app) (by kernel_rfl) ?_
            refine RJ.seg 1 [0, 2, 3, 4, 5, 6, 7] (L2 := [(0, lsv encT 1 x0), (2, .nl), (3, .nl), (4, .vc 3), (5, .vc 1), (6, .int .i64 s159.1), (7, .int .i64 (s159.2.1.length : Int))]) (H2 := [.gone, vecL (encI .i64) 1 3 s159.2.2, vecL encT 1 9 ([(nth x0 s159.1)] : List (List UInt8)), vecL encT 1 9 ((s159.2.1 ++ ([(nth x0 s159.1)] : List (List UInt8))))]) (by kernel_rfl) ?_
            refine RJ.end (by kernel_rfl) ?_
            obtain rfl := Option.some.inj h308
            refine PJ.wk (Wk.sel (L2 := [(0, lsv encT 1 x0), (2, .nl), (3, .nl), (4, .vc 0), (5, .vc 1), (6, .int .i64 s159.1), (7, .int .i64 (s159.2.1.length : Int))]) (H2 := [vecL encT 1 9 ((s159.2.1 ++ ([(nth x0 s159.1)] : List (List UInt8)))), vecL (encI .i64) 1 3 s159.2.2]) 0 (by rw [hFH]; rfl) hFD [3, 1] (by kernel_rfl) (by kernel_rfl) (by decide) (by kernel_rfl) (by kernel_rfl) (by kernel_rfl) (by kernel_rfl)) ?_
            exact PJ.cutN [0, 2, 3, 4, 5, 6, 7] (by kernel_rfl) (by kernel_rfl)
          · have h306 := condF hb304 hy301
            refine K.condF (by kernel_rfl) ?_
            refine K.skip (by kernel_rfl) ?_
            obtain rfl := Option.some.inj h306
            exact PJ.cutN [0, 2, 3, 4, 5, 6, 7] (by kernel_rfl) (by kernel_rfl)
        · refine K.region (by kernel_rfl) ?_
          refine RJ.seg 3 [0, 2, 3, 4, 5, 6, 31, 33] (L2 := [(0, lsv encT 1 x0), (2, .nl), (3, .nl), (4, .vc 0), (5, .vc 1), (6, .int .i64 s159.1), (31, .vc 1), (33, .vc 2)]) (H2 := [vecL encT 1 9 s299.2, vecL (encI .i64) 1 3 s159.2.2, vecL (encI .i64) 1 3 ([s299.1] : List Int)]) (by kernel_rfl) ?_
          obtain ⟨hm, h309⟩ := asrt h303
          refine RJ.rel (d := (some 34)) (ef := ⟨.vc 3, [1, 2], [(1, .gone), (3, .vec (s159.2.2.length + ([s299.1] : List Int).length) 1 3 (s159.2.2.flatMap (encI .i64) ++ ([s299.1] : List Int).flatMap (encI .i64)))]⟩) (ef' := ⟨.vc 3, [1, 2], [(1, .gone), (3, vecL (encI .i64) 1 3 (s159.2.2 ++ ([s299.1] : List Int)))]⟩) (c := room (s159.2.2.length + ([s299.1] : List Int).length)) (tr2 := []) (H2 := [vecL encT 1 9 s299.2, .gone, vecL (encI .i64) 1 3 ([s299.1] : List Int), vecL (encI .i64) 1 3 (s159.2.2 ++ ([s299.1] : List Int))]) (by kernel_rfl) hm (fun hc => N.app) (by kernel_rfl) ?_
          refine RJ.seg 1 [0, 2, 3, 4, 5, 6] (L2 := [(0, lsv encT 1 x0), (2, .nl), (3, .nl), (4, .vc 0), (5, .vc 3), (6, .int .i64 s159.1)]) (H2 := [vecL encT 1 9 s299.2, .gone, vecL (encI .i64) 1 3 ([s299.1] : List Int), vecL (encI .i64) 1 3 (s159.2.2 ++ ([s299.1] : List Int))]) (by kernel_rfl) ?_
          refine RJ.end (by kernel_rfl) ?_
          refine PJ.blockNormal ?_
          obtain rfl := Option.some.inj h309
          refine PJ.wk (Wk.sel (L2 := [(0, lsv encT 1 x0), (2, .nl), (3, .nl), (4, .vc 0), (5, .vc 1), (6, .int .i64 s159.1)]) (H2 := [vecL encT 1 9 s299.2, vecL (encI .i64) 1 3 (s159.2.2 ++ ([s299.1] : List Int))]) 0 (by rw [hFH]; rfl) hFD [0, 3] (by kernel_rfl) (by kernel_rfl) (by decide) (by kernel_rfl) (by kernel_rfl) (by kernel_rfl) (by kernel_rfl)) ?_
          exact PJ.cutN [0, 2, 3, 4, 5, 6] (by kernel_rfl) (by kernel_rfl)
      · refine K.region (by kernel_rfl) ?_
        refine RJ.seg 3 [0, 2, 3, 4, 5, 6] (L2 := [(0, lsv encT 1 x0), (2, .nl), (3, .nl), (4, .vc 0), (5, .vc 1), (6, .int .i64 (IntKind.wrap .i64 (s159.1 + 1)))]) (H2 := [vecL encT 1 9 s285.1, vecL (encI .i64) 1 3 s285.2]) (by kernel_rfl) ?_
        refine RJ.end (by kernel_rfl) ?_
        obtain rfl := Option.some.inj h289
        exact PJ.loopNext [0, 2, 3, 4, 5, 6] (by kernel_rfl) (by kernel_rfl)
    · have h264 := condF hb262 hs260
      refine K.condF (by kernel_rfl) ?_
      refine K.exit 0 (by kernel_rfl) ?_
      refine PJ.passExit ?_
      obtain rfl := Option.some.inj h264
      refine PJ.loopOut (fun e => nomatch e) (fun he311 => ?_)
      have h310 := congrArg some he311
      refine PJ.blockOut ?_
      obtain rfl := Option.some.inj h310
      exact PJ.cutN [2, 3, 4, 5] (by kernel_rfl) (by kernel_rfl)
  · refine K.seq (by kernel_rfl) ?_
    refine K.region (by kernel_rfl) ?_
    refine RJ.seg 4 [2, 3] (L2 := [(2, .vc 0), (3, .vc 1)]) (H2 := [vecL encT 1 9 s154.1, vecL (encI .i64) 1 3 s154.2]) (by kernel_rfl) ?_
    refine RJ.end (by kernel_rfl) ?_
    refine PJ.next ?_
    refine K.ret (by kernel_rfl) ?_
    obtain rfl := Option.some.inj h158
    refine PJ.wk (Wk.freeze 0 (n := s154.1.length) (k := 1) (e := 9) (cs := s154.1.flatMap encT) (by kernel_rfl)) ?_
    refine PJ.wk (Wk.freeze 1 (n := s154.2.length) (k := 1) (e := 3) (cs := s154.2.flatMap (encI .i64)) (by kernel_rfl)) ?_
    exact K.ret0 (.inr rfl) hFn hFH hFD (by kernel_rfl) (by kernel_rfl) (by kernel_rfl)

def pack_Spread (x0 : List (List UInt8)) (x1 : List Int) : Option ((List (List UInt8)) × Int) :=
  (Option.bind (loopN (fun (s315 : Int × (List (List UInt8))) => (bif (decide (s315.1 < (x1.length : Int))) then (Option.bind (bif inR s315.1 x1.length then (Option.bind (Option.bind (bif (decide ((nth x1 s315.1) < 0)) then (some true) else (some ((decide ((nth x1 s315.1) ≥ (x0.length : Int)))))) fun (s604 : Bool) => (bif s604 then (some (.inr (.inr (.inr (.inr (([] : List (List UInt8)), 7)))))) else (some (.inl ())))) (joinX fun (s596 : Unit) => (bif inR (nth x1 s315.1) x0.length then (bif room (s315.2.length + (([(nth x0 (nth x1 s315.1))] : List (List UInt8))).length) then (some (.inl ())) else none) else none))) else none) (joinX fun (s571 : Unit) => (some (.inl ((IntKind.wrap .i64 (s315.1 + 1)), (s315.2 ++ (([(nth x0 (nth x1 s315.1))] : List (List UInt8))))))))) else (some (.inr (.inl s315.2))))) big (0, ([] : List (List UInt8)))) (joinX fun (s310 : (List (List UInt8))) => (some (s310, 0))))
theorem pack_Spread_ok {x0 : List (List UInt8)} {x1 : List Int} {r : (List (List UInt8)) × Int} (h : pack_Spread x0 x1 = some r) : SC Try.prog 19 [lsv encT 1 x0, lsv (encI .i64) 1 x1] [] (.tup [lsv encT 1 r.1, .int .i64 r.2]) [] := by
  refine K.fn (fn := Try.f19) (by kernel_rfl) (by kernel_rfl) (by kernel_rfl) (by kernel_rfl) (by kernel_rfl) (fun F hFn hFH hFD => ?_)
  unfold pack_Spread at h
  refine K.seq (by kernel_rfl) ?_
  refine K.region (by kernel_rfl) ?_
  refine RJ.seg 2 [0, 1, 4, 5] (L2 := [(0, lsv encT 1 x0), (1, lsv (encI .i64) 1 x1), (4, .nl), (5, .int .i64 0)]) (H2 := []) (by kernel_rfl) ?_
  refine RJ.end (by kernel_rfl) ?_
  refine PJ.next ?_
  refine K.seq (by kernel_rfl) ?_
  refine K.region (by kernel_rfl) ?_
  refine RJ.seg 1 [0, 1, 4, 5, 6] (L2 := [(0, lsv encT 1 x0), (1, lsv (encI .i64) 1 x1), (4, .nl), (5, .int .i64 0), (6, .nl)]) (H2 := []) (by kernel_rfl) ?_
  refine RJ.end (by kernel_rfl) ?_
  refine PJ.next ?_
  obtain ⟨y311, hy312, h313⟩ := bindS h
  refine K.cutX (by kernel_rfl) (fun (s310 : (List (List UInt8))) => ([(4, .nl), (5, .int .i64 0), (6, .vc 0)], [vecL encT 1 9 s310])) y311 ?_ (fun s310 hs => ?_)
  · refine K.seq (by kernel_rfl) ?_
    refine K.region (by kernel_rfl) ?_
    refine RJ.seg 3 [0, 4, 5, 6, 9, 10, 11] (L2 := [(0, lsv encT 1 x0), (4, .nl), (5, .int .i64 0), (6, .nl), (9, lsv (encI .i64) 1 x1), (10, .int .i64 (x1.length : Int)), (11, .int .i64 0)]) (H2 := []) (by kernel_rfl) ?_
    refine RJ.end (by kernel_rfl) ?_
    refine PJ.next ?_
    refine K.block 0 (by kernel_rfl) ?_
    refine J.wk (Wk.viv 6 1 9 (by kernel_rfl)) ?_
    refine K.loop (by kernel_rfl) (fun (s315 : Int × (List (List UInt8))) => ([(0, lsv encT 1 x0), (4, .nl), (5, .int .i64 0), (6, .vc 0), (9, lsv (encI .i64) 1 x1), (10, .int .i64 (x1.length : Int)), (11, .int .i64 s315.1)], [vecL encT 1 9 s315.2])) hy312 [0, 4, 5, 6, 9, 10, 11] (by kernel_rfl) (by kernel_rfl) (fun s315 x521 hs520 => ?_)
    refine K.seq (by kernel_rfl) ?_
    refine K.region (by kernel_rfl) ?_
    refine RJ.seg 1 [0, 4, 5, 6, 9, 10, 11, 12] (L2 := [(0, lsv encT 1 x0), (4, .nl), (5, .int .i64 0), (6, .vc 0), (9, lsv (encI .i64) 1 x1), (10, .int .i64 (x1.length : Int)), (11, .int .i64 s315.1), (12, .bool ((decide (s315.1 < (x1.length : Int)))))]) (H2 := [vecL encT 1 9 s315.2]) (by kernel_rfl) ?_
    refine RJ.end (by kernel_rfl) ?_
    refine PJ.next ?_
    refine K.seq (by kernel_rfl) ?_
    refine J.caseB 12 (b := (decide (s315.1 < (x1.length : Int)))) (by kernel_rfl) (fun hb522 => ?_) (fun hb522 => ?_)
    · have h523 := condT hb522 hs520
      refine K.condT (by kernel_rfl) ?_
      refine K.skip (by kernel_rfl) ?_
      refine PJ.next ?_
      obtain ⟨y572, hy573, h574⟩ := bindS h523
      refine K.cutX (by kernel_rfl) (fun (s571 : Unit) => ([(0, lsv encT 1 x0), (4, .nl), (5, .int .i64 0), (6, .vc 0), (9, lsv (encI .i64) 1 x1), (10, .int .i64 (x1.length : Int)), (11, .int .i64 s315.1)], [vecL encT 1 9 ((s315.2 ++ (([(nth x0 (nth x1 s315.1))] : List (List UInt8)))))])) y572 ?_ (fun s571 hs => ?_)
      · refine K.block 1 (by kernel_rfl) ?_
        refine K.seq (by kernel_rfl) ?_
        refine K.region (by kernel_rfl) ?_
        obtain ⟨hm, h576⟩ := asrt hy573
        refine RJ.rel (d := (some 13)) (ef := ⟨.ep (((x1.flatMap (encI .i64)).drop ((s315.1 : Int).toNat * 1)).take 1), [], []⟩) (ef' := ⟨.ep ((encI .i64) (nth x1 s315.1)), [], []⟩) (c := inR s315.1 x1.length) (tr2 := []) (H2 := [vecL encT 1 9 s315.2]) (by kernel_rfl) hm (fun hc => N.idx (encI_len .i64) hc) (by kernel_rfl) ?_
        refine RJ.seg 2 [0, 4, 5, 6, 8, 9, 10, 11] (L2 := [(0, lsv encT 1 x0), (4, .nl), (5, .int .i64 0), (6, .vc 0), (8, .int .i64 (nth x1 s315.1)), (9, lsv (encI .i64) 1 x1), (10, .int .i64 (x1.length : Int)), (11, .int .i64 s315.1)]) (H2 := [vecL encT 1 9 s315.2]) (by kernel_rfl) ?_
        refine RJ.end (by kernel_rfl) ?_
        refine PJ.next ?_
        obtain ⟨y597, hy598, h599⟩ := bindS h576
        refine K.cutX (by kernel_rfl) (fun (s596 : Unit) => ([(0, lsv encT 1 x0), (4, .nl), (5, .int .i64 0), (6, .vc 0), (8, .int .i64 (nth x1 s315.1)), (9, lsv (encI .i64) 1 x1), (10, .int .i64 (x1.length : Int)), (11, .int .i64 s315.1)], [vecL encT 1 9 s315.2])) y597 ?_ (fun s596 hs => ?_)
        · obtain ⟨s604, hy606, h608⟩ := bindS hy598
          refine K.cutN (by kernel_rfl) (fun (s604 : Bool) => ([(0, lsv encT 1 x0), (4, .nl), (5, .int .i64 0), (6, .vc 0), (8, .int .i64 (nth x1 s315.1)), (9, lsv (encI .i64) 1 x1), (10, .int .i64 (x1.length : Int)), (11, .int .i64 s315.1), (22, .bool s604)], [vecL encT 1 9 s315.2])) s604 ?_ ?_
          · refine K.region (by kernel_rfl) ?_
            refine RJ.seg 3 [0, 4, 5, 6, 8, 9, 10, 11, 17] (L2 := [(0, lsv encT 1 x0), (4, .nl), (5, .int .i64 0), (6, .vc 0), (8, .int .i64 (nth x1 s315.1)), (9, lsv (encI .i64) 1 x1), (10, .int .i64 (x1.length : Int)), (11, .int .i64 s315.1), (17, .bool ((decide ((nth x1 s315.1) < 0))))]) (H2 := [vecL encT 1 9 s315.2]) (by kernel_rfl) ?_
            refine RJ.caseB 17 (b := (decide ((nth x1 s315.1) < 0))) (by kernel_rfl) (fun hb609 => ?_) (fun hb609 => ?_)
            · have h610 := condT hb609 hy606
              refine RJ.seg 5 [0, 4, 5, 6, 8, 9, 10, 11, 22] (L2 := [(0, lsv encT 1 x0), (4, .nl), (5, .int .i64 0), (6, .vc 0), (8, .int .i64 (nth x1 s315.1)), (9, lsv (encI .i64) 1 x1), (10, .int .i64 (x1.length : Int)), (11, .int .i64 s315.1), (22, .bool true)]) (H2 := [vecL encT 1 9 s315.2]) (by kernel_rfl) ?_
              refine RJ.end (by kernel_rfl) ?_
              obtain rfl := Option.some.inj h610
              exact PJ.cutN [0, 4, 5, 6, 8, 9, 10, 11, 22] (by kernel_rfl) (by kernel_rfl)
            · have h611 := condF hb609 hy606
              refine RJ.seg 5 [0, 4, 5, 6, 8, 9, 10, 11, 22] (L2 := [(0, lsv encT 1 x0), (4, .nl), (5, .int .i64 0), (6, .vc 0), (8, .int .i64 (nth x1 s315.1)), (9, lsv (encI .i64) 1 x1), (10, .int .i64 (x1.length : Int)), (11, .int .i64 s315.1), (22, .bool ((decide ((nth x1 s315.1) ≥ (x0.length : Int)))))]) (H2 := [vecL encT 1 9 s315.2]) (by kernel_rfl) ?_
              refine RJ.end (by kernel_rfl) ?_
              obtain rfl := Option.some.inj h611
              exact PJ.cutN [0, 4, 5, 6, 8, 9, 10, 11, 22] (by kernel_rfl) (by kernel_rfl)
          · refine J.caseB 22 (b := s604) (by kernel_rfl) (fun hb612 => ?_) (fun hb612 => ?_)
            · have h613 := condT hb612 h608
              refine K.condT (by kernel_rfl) ?_
              refine K.seq (by kernel_rfl) ?_
              refine K.region (by kernel_rfl) ?_
              refine RJ.seg 2 [0, 4, 5, 6, 8, 9, 10, 11] (L2 := [(0, lsv encT 1 x0), (4, .nl), (5, .int .i64 7), (6, .vc 0), (8, .int .i64 (nth x1 s315.1)), (9, lsv (encI .i64) 1 x1), (10, .int .i64 (x1.length : Int)), (11, .int .i64 s315.1)]) (H2 := [vecL encT 1 9 s315.2]) (by kernel_rfl) ?_
              refine RJ.end (by kernel_rfl) ?_
              refine PJ.next ?_
              refine K.ret (by kernel_rfl) ?_
              obtain rfl := Option.some.inj h613
              have h615 := joinX_inr h599
              refine PJ.cutXr (fun e => nomatch e) ?_
              refine PJ.blockRet ?_
              obtain rfl := Option.some.inj h615
              have h616 := joinX_inr h574
              refine PJ.cutXr (fun e => nomatch e) ?_
              obtain rfl := Option.some.inj h616
              refine PJ.loopOut (fun e => nomatch e) (fun he619 => ?_)
              have h617 := congrArg some he619
              refine PJ.blockRet ?_
              obtain rfl := Option.some.inj h617
              have h618 := joinX_inr h313
              refine PJ.cutXr (fun e => nomatch e) ?_
              obtain rfl := Option.some.inj h618
              refine PJ.res (v1 := .tup [.nl, .int .i64 7]) (Le.tup (.cons (Le.nl _) (.cons (Le.refl _) .nil))) ?_
              exact K.ret0 (.inr rfl) hFn hFH hFD (by kernel_rfl) (by kernel_rfl) (by kernel_rfl)
            · have h614 := condF hb612 h608
              refine K.condF (by kernel_rfl) ?_
              refine K.skip (by kernel_rfl) ?_
              obtain rfl := Option.some.inj h614
              exact PJ.cutXl [0, 4, 5, 6, 8, 9, 10, 11] (by kernel_rfl) (by kernel_rfl)
        · subst hs
          have h600 := joinX_inl h599
          refine K.region (by kernel_rfl) ?_
          refine RJ.seg 3 [0, 4, 5, 6, 9, 10, 11, 23, 24, 25] (L2 := [(0, lsv encT 1 x0), (4, .nl), (5, .int .i64 0), (6, .vc 0), (9, lsv (encI .i64) 1 x1), (10, .int .i64 (x1.length : Int)), (11, .int .i64 s315.1), (23, .vc 0), (24, lsv encT 1 x0), (25, .int .i64 (nth x1 s315.1))]) (H2 := [vecL encT 1 9 s315.2]) (by kernel_rfl) ?_
          obtain ⟨hm, h620⟩ := asrt h600
          refine RJ.rel (d := (some 26)) (ef := ⟨.ep (((x0.flatMap encT).drop (((nth x1 s315.1) : Int).toNat * 1)).take 1), [], []⟩) (ef' := ⟨.ep (encT (nth x0 (nth x1 s315.1))), [], []⟩) (c := inR (nth x1 s315.1) x0.length) (tr2 := []) (H2 := [vecL encT 1 9 s315.2]) (by kernel_rfl) hm (fun hc => N.idx encT_len hc) (by kernel_rfl) ?_
          refine RJ.seg 2 [0, 4, 5, 6, 9, 10, 11, 23, 28] (L2 := [(0, lsv encT 1 x0), (4, .nl), (5, .int .i64 0), (6, .vc 0), (9, lsv (encI .i64) 1 x1), (10, .int .i64 (x1.length : Int)), (11, .int .i64 s315.1), (23, .vc 0), (28, .vc 1)]) (H2 := [vecL encT 1 9 s315.2, vecL encT 1 9 (([(nth x0 (nth x1 s315.1))] : List (List UInt8)))]) (by kernel_rfl) ?_
          obtain ⟨hm, h621⟩ := asrt h620
          refine RJ.rel (d := (some 29)) (ef := ⟨.vc 2, [0, 1], [(0, .gone), (2, .vec (s315.2.length + (([(nth x0 (nth x1 s315.1))] : List (List UInt8))).length) 1 9 (s315.2.flatMap encT ++ (([(nth x0 (nth x1 s315.1))] : List (List UInt8))).flatMap encT))]⟩) (ef' := ⟨.vc 2, [0, 1], [(0, .gone), (2, vecL encT 1 9 (s315.2 ++ (([(nth x0 (nth x1 s315.1))] : List (List UInt8)))))]⟩) (c := room (s315.2.length + (([(nth x0 (nth x1 s315.1))] : List (List UInt8))).length)) (tr2 := []) (H2 := [.gone, vecL encT 1 9 (([(nth x0 (nth x1 s315.1))] : List (List UInt8))), vecL encT 1 9 ((s315.2 ++ (([(nth x0 (nth x1 s315.1))] : List (List UInt8)))))]) (by kernel_rfl) hm (fun hc => N.app) (by kernel_rfl) ?_
          refine RJ.seg 1 [0, 4, 5, 6, 9, 10, 11] (L2 := [(0, lsv encT 1 x0), (4, .nl), (5, .int .i64 0), (6, .vc 2), (9, lsv (encI .i64) 1 x1), (10, .int .i64 (x1.length : Int)), (11, .int .i64 s315.1)]) (H2 := [.gone, vecL encT 1 9 (([(nth x0 (nth x1 s315.1))] : List (List UInt8))), vecL encT 1 9 ((s315.2 ++ (([(nth x0 (nth x1 s315.1))] : List (List UInt8)))))]) (by kernel_rfl) ?_
          refine RJ.end (by kernel_rfl) ?_
          refine PJ.blockNormal ?_
          obtain rfl := Option.some.inj h621
          refine PJ.wk (Wk.sel (L2 := [(0, lsv encT 1 x0), (4, .nl), (5, .int .i64 0), (6, .vc 0), (9, lsv (encI .i64) 1 x1), (10, .int .i64 (x1.length : Int)), (11, .int .i64 s315.1)]) (H2 := [vecL encT 1 9 ((s315.2 ++ (([(nth x0 (nth x1 s315.1))] : List (List UInt8)))))]) 0 (by rw [hFH]; rfl) hFD [2] (by kernel_rfl) (by kernel_rfl) (by decide) (by kernel_rfl) (by kernel_rfl) (by kernel_rfl) (by kernel_rfl)) ?_
          exact PJ.cutXl [0, 4, 5, 6, 9, 10, 11] (by kernel_rfl) (by kernel_rfl)
      · subst hs
        have h575 := joinX_inl h574
        refine K.region (by kernel_rfl) ?_
        refine RJ.seg 2 [0, 4, 5, 6, 9, 10, 11] (L2 := [(0, lsv encT 1 x0), (4, .nl), (5, .int .i64 0), (6, .vc 0), (9, lsv (encI .i64) 1 x1), (10, .int .i64 (x1.length : Int)), (11, .int .i64 (IntKind.wrap .i64 (s315.1 + 1)))]) (H2 := [vecL encT 1 9 ((s315.2 ++ (([(nth x0 (nth x1 s315.1))] : List (List UInt8)))))]) (by kernel_rfl) ?_
        refine RJ.end (by kernel_rfl) ?_
        obtain rfl := Option.some.inj h575
        exact PJ.loopNext [0, 4, 5, 6, 9, 10, 11] (by kernel_rfl) (by kernel_rfl)
    · have h524 := condF hb522 hs520
      refine K.condF (by kernel_rfl) ?_
      refine K.exit 0 (by kernel_rfl) ?_
      refine PJ.passExit ?_
      obtain rfl := Option.some.inj h524
      refine PJ.loopOut (fun e => nomatch e) (fun he623 => ?_)
      have h622 := congrArg some he623
      refine PJ.blockOut ?_
      obtain rfl := Option.some.inj h622
      exact PJ.cutXl [4, 5, 6] (by kernel_rfl) (by kernel_rfl)
  · subst hs
    have h314 := joinX_inl h313
    refine K.seq (by kernel_rfl) ?_
    refine K.region (by kernel_rfl) ?_
    refine RJ.seg 3 [4, 5] (L2 := [(4, .vc 0), (5, .int .i64 0)]) (H2 := [vecL encT 1 9 s310]) (by kernel_rfl) ?_
    refine RJ.end (by kernel_rfl) ?_
    refine PJ.next ?_
    refine K.ret (by kernel_rfl) ?_
    obtain rfl := Option.some.inj h314
    refine PJ.wk (Wk.freeze 0 (n := s310.length) (k := 1) (e := 9) (cs := s310.flatMap encT) (by kernel_rfl)) ?_
    exact K.ret0 (.inr rfl) hFn hFH hFD (by kernel_rfl) (by kernel_rfl) (by kernel_rfl)

def exergueref09_Spread (x0 : List (List UInt8)) (x1 : List Int) : Option ((List (List UInt8)) × Int) :=
  (Option.bind (loopN (fun (s363 : Int × (List (List UInt8))) => (bif (decide (s363.1 < (x1.length : Int))) then (Option.bind (Option.bind (Option.bind (bif inR s363.1 x1.length then (bif (decide ((nth x1 s363.1) < 0)) then (some true) else (bif inR s363.1 x1.length then (some ((decide ((nth x1 s363.1) ≥ (x0.length : Int))))) else none)) else none) fun (s697 : Bool) => (bif s697 then (some (.inr (.inr (.inr (.inr (([] : List (List UInt8)), 7)))))) else (some (.inl ())))) (joinX fun (s687 : Unit) => (bif inR s363.1 x1.length then (bif inR (nth x1 s363.1) x0.length then (bif room (s363.2.length + (([(nth x0 (nth x1 s363.1))] : List (List UInt8))).length) then (some (.inl ())) else none) else none) else none))) (joinX fun (s659 : Unit) => (some (.inl ((IntKind.wrap .i64 (s363.1 + 1)), (s363.2 ++ (([(nth x0 (nth x1 s363.1))] : List (List UInt8))))))))) else (some (.inr (.inl s363.2))))) big (0, ([] : List (List UInt8)))) (joinX fun (s358 : (List (List UInt8))) => (some (s358, 0))))
theorem exergueref09_Spread_ok {x0 : List (List UInt8)} {x1 : List Int} {r : (List (List UInt8)) × Int} (h : exergueref09_Spread x0 x1 = some r) : SC Try.prog 20 [lsv encT 1 x0, lsv (encI .i64) 1 x1] [] (.tup [lsv encT 1 r.1, .int .i64 r.2]) [] := by
  refine K.fn (fn := Try.f20) (by kernel_rfl) (by kernel_rfl) (by kernel_rfl) (by kernel_rfl) (by kernel_rfl) (fun F hFn hFH hFD => ?_)
  unfold exergueref09_Spread at h
  refine K.seq (by kernel_rfl) ?_
  refine K.region (by kernel_rfl) ?_
  refine RJ.seg 2 [0, 1, 4, 5] (L2 := [(0, lsv encT 1 x0), (1, lsv (encI .i64) 1 x1), (4, .nl), (5, .int .i64 0)]) (H2 := []) (by kernel_rfl) ?_
  refine RJ.end (by kernel_rfl) ?_
  refine PJ.next ?_
  refine K.seq (by kernel_rfl) ?_
  refine K.region (by kernel_rfl) ?_
  refine RJ.seg 1 [0, 1, 4, 5, 6] (L2 := [(0, lsv encT 1 x0), (1, lsv (encI .i64) 1 x1), (4, .nl), (5, .int .i64 0), (6, .nl)]) (H2 := []) (by kernel_rfl) ?_
  refine RJ.end (by kernel_rfl) ?_
  refine PJ.next ?_
  obtain ⟨y359, hy360, h361⟩ := bindS h
  refine K.cutX (by kernel_rfl) (fun (s358 : (List (List UInt8))) => ([(4, .nl), (5, .int .i64 0), (6, .vc 0)], [vecL encT 1 9 s358])) y359 ?_ (fun s358 hs => ?_)
  · refine K.seq (by kernel_rfl) ?_
    refine K.region (by kernel_rfl) ?_
    refine RJ.seg 1 [0, 1, 4, 5, 6, 7] (L2 := [(0, lsv encT 1 x0), (1, lsv (encI .i64) 1 x1), (4, .nl), (5, .int .i64 0), (6, .nl), (7, .int .i64 0)]) (H2 := []) (by kernel_rfl) ?_
    refine RJ.end (by kernel_rfl) ?_
    refine PJ.next ?_
    refine K.block 0 (by kernel_rfl) ?_
    refine J.wk (Wk.viv 6 1 9 (by kernel_rfl)) ?_
    refine K.loop (by kernel_rfl) (fun (s363 : Int × (List (List UInt8))) => ([(0, lsv encT 1 x0), (1, lsv (encI .i64) 1 x1), (4, .nl), (5, .int .i64 0), (6, .vc 0), (7, .int .i64 s363.1)], [vecL encT 1 9 s363.2])) hy360 [0, 1, 4, 5, 6, 7] (by kernel_rfl) (by kernel_rfl) (fun s363 x601 hs600 => ?_)
    refine K.seq (by kernel_rfl) ?_
    refine K.seq (by kernel_rfl) ?_
    refine K.region (by kernel_rfl) ?_
    refine RJ.seg 4 [0, 1, 4, 5, 6, 7, 11] (L2 := [(0, lsv encT 1 x0), (1, lsv (encI .i64) 1 x1), (4, .nl), (5, .int .i64 0), (6, .vc 0), (7, .int .i64 s363.1), (11, .bool ((decide (s363.1 < (x1.length : Int)))))]) (H2 := [vecL encT 1 9 s363.2]) (by kernel_rfl) ?_
    refine RJ.end (by kernel_rfl) ?_
    refine PJ.next ?_
    refine J.caseB 11 (b := (decide (s363.1 < (x1.length : Int)))) (by kernel_rfl) (fun hb602 => ?_) (fun hb602 => ?_)
    · have h603 := condT hb602 hs600
      refine K.condT (by kernel_rfl) ?_
      refine K.skip (by kernel_rfl) ?_
      refine PJ.next ?_
      obtain ⟨y660, hy661, h662⟩ := bindS h603
      refine K.cutX (by kernel_rfl) (fun (s659 : Unit) => ([(0, lsv encT 1 x0), (1, lsv (encI .i64) 1 x1), (4, .nl), (5, .int .i64 0), (6, .vc 0), (7, .int .i64 s363.1)], [vecL encT 1 9 ((s363.2 ++ (([(nth x0 (nth x1 s363.1))] : List (List UInt8)))))])) y660 ?_ (fun s659 hs => ?_)
      · refine K.block 1 (by kernel_rfl) ?_
        obtain ⟨y688, hy689, h690⟩ := bindS hy661
        refine K.cutX (by kernel_rfl) (fun (s687 : Unit) => ([(0, lsv encT 1 x0), (1, lsv (encI .i64) 1 x1), (4, .nl), (5, .int .i64 0), (6, .vc 0), (7, .int .i64 s363.1)], [vecL encT 1 9 s363.2])) y688 ?_ (fun s687 hs => ?_)
        · obtain ⟨s697, hy699, h701⟩ := bindS hy689
          refine K.cutN (by kernel_rfl) (fun (s697 : Bool) => ([(0, lsv encT 1 x0), (1, lsv (encI .i64) 1 x1), (4, .nl), (5, .int .i64 0), (6, .vc 0), (7, .int .i64 s363.1), (27, .bool s697)], [vecL encT 1 9 s363.2])) s697 ?_ ?_
          · refine K.region (by kernel_rfl) ?_
            refine RJ.seg 2 [0, 1, 4, 5, 6, 7, 14, 15] (L2 := [(0, lsv encT 1 x0), (1, lsv (encI .i64) 1 x1), (4, .nl), (5, .int .i64 0), (6, .vc 0), (7, .int .i64 s363.1), (14, lsv (encI .i64) 1 x1), (15, .int .i64 s363.1)]) (H2 := [vecL encT 1 9 s363.2]) (by kernel_rfl) ?_
            obtain ⟨hm, h702⟩ := asrt hy699
            refine RJ.rel (d := (some 16)) (ef := ⟨.ep (((x1.flatMap (encI .i64)).drop ((s363.1 : Int).toNat * 1)).take 1), [], []⟩) (ef' := ⟨.ep ((encI .i64) (nth x1 s363.1)), [], []⟩) (c := inR s363.1 x1.length) (tr2 := []) (H2 := [vecL encT 1 9 s363.2]) (by kernel_rfl) hm (fun hc => N.idx (encI_len .i64) hc) (by kernel_rfl) ?_
            refine RJ.seg 3 [0, 1, 4, 5, 6, 7, 19] (L2 := [(0, lsv encT 1 x0), (1, lsv (encI .i64) 1 x1), (4, .nl), (5, .int .i64 0), (6, .vc 0), (7, .int .i64 s363.1), (19, .bool ((decide ((nth x1 s363.1) < 0))))]) (H2 := [vecL encT 1 9 s363.2]) (by kernel_rfl) ?_
            refine RJ.caseB 19 (b := (decide ((nth x1 s363.1) < 0))) (by kernel_rfl) (fun hb703 => ?_) (fun hb703 => ?_)
            · have h704 := condT hb703 h702
              refine RJ.seg 8 [0, 1, 4, 5, 6, 7, 27] (L2 := [(0, lsv encT 1 x0), (1, lsv (encI .i64) 1 x1), (4, .nl), (5, .int .i64 0), (6, .vc 0), (7, .int .i64 s363.1), (27, .bool true)]) (H2 := [vecL encT 1 9 s363.2]) (by kernel_rfl) ?_
              refine RJ.end (by kernel_rfl) ?_
              obtain rfl := Option.some.inj h704
              exact PJ.cutN [0, 1, 4, 5, 6, 7, 27] (by kernel_rfl) (by kernel_rfl)
            · have h705 := condF hb703 h702
              refine RJ.seg 2 [0, 1, 4, 5, 6, 7, 19, 20, 21] (L2 := [(0, lsv encT 1 x0), (1, lsv (encI .i64) 1 x1), (4, .nl), (5, .int .i64 0), (6, .vc 0), (7, .int .i64 s363.1), (19, .bool false), (20, lsv (encI .i64) 1 x1), (21, .int .i64 s363.1)]) (H2 := [vecL encT 1 9 s363.2]) (by kernel_rfl) ?_
              obtain ⟨hm, h706⟩ := asrt h705
              refine RJ.rel (d := (some 22)) (ef := ⟨.ep (((x1.flatMap (encI .i64)).drop ((s363.1 : Int).toNat * 1)).take 1), [], []⟩) (ef' := ⟨.ep ((encI .i64) (nth x1 s363.1)), [], []⟩) (c := inR s363.1 x1.length) (tr2 := []) (H2 := [vecL encT 1 9 s363.2]) (by kernel_rfl) hm (fun hc => N.idx (encI_len .i64) hc) (by kernel_rfl) ?_
              refine RJ.seg 5 [0, 1, 4, 5, 6, 7, 27] (L2 := [(0, lsv encT 1 x0), (1, lsv (encI .i64) 1 x1), (4, .nl), (5, .int .i64 0), (6, .vc 0), (7, .int .i64 s363.1), (27, .bool ((decide ((nth x1 s363.1) ≥ (x0.length : Int)))))]) (H2 := [vecL encT 1 9 s363.2]) (by kernel_rfl) ?_
              refine RJ.end (by kernel_rfl) ?_
              obtain rfl := Option.some.inj h706
              exact PJ.cutN [0, 1, 4, 5, 6, 7, 27] (by kernel_rfl) (by kernel_rfl)
          · refine J.caseB 27 (b := s697) (by kernel_rfl) (fun hb707 => ?_) (fun hb707 => ?_)
            · have h708 := condT hb707 h701
              refine K.condT (by kernel_rfl) ?_
              refine K.seq (by kernel_rfl) ?_
              refine K.region (by kernel_rfl) ?_
              refine RJ.seg 2 [0, 1, 4, 5, 6, 7] (L2 := [(0, lsv encT 1 x0), (1, lsv (encI .i64) 1 x1), (4, .nl), (5, .int .i64 7), (6, .vc 0), (7, .int .i64 s363.1)]) (H2 := [vecL encT 1 9 s363.2]) (by kernel_rfl) ?_
              refine RJ.end (by kernel_rfl) ?_
              refine PJ.next ?_
              refine K.ret (by kernel_rfl) ?_
              obtain rfl := Option.some.inj h708
              have h710 := joinX_inr h690
              refine PJ.cutXr (fun e => nomatch e) ?_
              refine PJ.blockRet ?_
              obtain rfl := Option.some.inj h710
              have h711 := joinX_inr h662
              refine PJ.cutXr (fun e => nomatch e) ?_
              obtain rfl := Option.some.inj h711
              refine PJ.loopOut (fun e => nomatch e) (fun he714 => ?_)
              have h712 := congrArg some he714
              refine PJ.blockRet ?_
              obtain rfl := Option.some.inj h712
              have h713 := joinX_inr h361
              refine PJ.cutXr (fun e => nomatch e) ?_
              obtain rfl := Option.some.inj h713
              refine PJ.res (v1 := .tup [.nl, .int .i64 7]) (Le.tup (.cons (Le.nl _) (.cons (Le.refl _) .nil))) ?_
              exact K.ret0 (.inr rfl) hFn hFH hFD (by kernel_rfl) (by kernel_rfl) (by kernel_rfl)
            · have h709 := condF hb707 h701
              refine K.condF (by kernel_rfl) ?_
              refine K.skip (by kernel_rfl) ?_
              obtain rfl := Option.some.inj h709
              exact PJ.cutXl [0, 1, 4, 5, 6, 7] (by kernel_rfl) (by kernel_rfl)
        · subst hs
          have h691 := joinX_inl h690
          refine K.region (by kernel_rfl) ?_
          refine RJ.seg 4 [0, 1, 4, 5, 6, 7, 28, 29, 30, 31] (L2 := [(0, lsv encT 1 x0), (1, lsv (encI .i64) 1 x1), (4, .nl), (5, .int .i64 0), (6, .vc 0), (7, .int .i64 s363.1), (28, .vc 0), (29, lsv encT 1 x0), (30, lsv (encI .i64) 1 x1), (31, .int .i64 s363.1)]) (H2 := [vecL encT 1 9 s363.2]) (by kernel_rfl) ?_
          obtain ⟨hm, h715⟩ := asrt h691
          refine RJ.rel (d := (some 32)) (ef := ⟨.ep (((x1.flatMap (encI .i64)).drop ((s363.1 : Int).toNat * 1)).take 1), [], []⟩) (ef' := ⟨.ep ((encI .i64) (nth x1 s363.1)), [], []⟩) (c := inR s363.1 x1.length) (tr2 := []) (H2 := [vecL encT 1 9 s363.2]) (by kernel_rfl) hm (fun hc => N.idx (encI_len .i64) hc) (by kernel_rfl) ?_
          refine RJ.seg 1 [0, 1, 4, 5, 6, 7, 28, 29, 33] (L2 := [(0, lsv encT 1 x0), (1, lsv (encI .i64) 1 x1), (4, .nl), (5, .int .i64 0), (6, .vc 0), (7, .int .i64 s363.1), (28, .vc 0), (29, lsv encT 1 x0), (33, .int .i64 (nth x1 s363.1))]) (H2 := [vecL encT 1 9 s363.2]) (by kernel_rfl) ?_
          obtain ⟨hm, h716⟩ := asrt h715
          refine RJ.rel (d := (some 34)) (ef := ⟨.ep (((x0.flatMap encT).drop (((nth x1 s363.1) : Int).toNat * 1)).take 1), [], []⟩) (ef' := ⟨.ep (encT (nth x0 (nth x1 s363.1))), [], []⟩) (c := inR (nth x1 s363.1) x0.length) (tr2 := []) (H2 := [vecL encT 1 9 s363.2]) (by kernel_rfl) hm (fun hc => N.idx encT_len hc) (by kernel_rfl) ?_
          refine RJ.seg 2 [0, 1, 4, 5, 6, 7, 28, 36] (L2 := [(0, lsv encT 1 x0), (1, lsv (encI .i64) 1 x1), (4, .nl), (5, .int .i64 0), (6, .vc 0), (7, .int .i64 s363.1), (28, .vc 0), (36, .vc 1)]) (H2 := [vecL encT 1 9 s363.2, vecL encT 1 9 (([(nth x0 (nth x1 s363.1))] : List (List UInt8)))]) (by kernel_rfl) ?_
          obtain ⟨hm, h717⟩ := asrt h716
          refine RJ.rel (d := (some 37)) (ef := ⟨.vc 2, [0, 1], [(0, .gone), (2, .vec (s363.2.length + (([(nth x0 (nth x1 s363.1))] : List (List UInt8))).length) 1 9 (s363.2.flatMap encT ++ (([(nth x0 (nth x1 s363.1))] : List (List UInt8))).flatMap encT))]⟩) (ef' := ⟨.vc 2, [0, 1], [(0, .gone), (2, vecL encT 1 9 (s363.2 ++ (([(nth x0 (nth x1 s363.1))] : List (List UInt8)))))]⟩) (c := room (s363.2.length + (([(nth x0 (nth x1 s363.1))] : List (List UInt8))).length)) (tr2 := []) (H2 := [.gone, vecL encT 1 9 (([(nth x0 (nth x1 s363.1))] : List (List UInt8))), vecL encT 1 9 ((s363.2 ++ (([(nth x0 (nth x1 s363.1))] : List (List UInt8)))))]) (by kernel_rfl) hm (fun hc => N.app) (by kernel_rfl) ?_
          refine RJ.seg 1 [0, 1, 4, 5, 6, 7] (L2 := [(0, lsv encT 1 x0), (1, lsv (encI .i64) 1 x1), (4, .nl), (5, .int .i64 0), (6, .vc 2), (7, .int .i64 s363.1)]) (H2 := [.gone, vecL encT 1 9 (([(nth x0 (nth x1 s363.1))] : List (List UInt8))), vecL encT 1 9 ((s363.2 ++ (([(nth x0 (nth x1 s363.1))] : List (List UInt8)))))]) (by kernel_rfl) ?_
          refine RJ.end (by kernel_rfl) ?_
          refine PJ.blockNormal ?_
          obtain rfl := Option.some.inj h717
          refine PJ.wk (Wk.sel (L2 := [(0, lsv encT 1 x0), (1, lsv (encI .i64) 1 x1), (4, .nl), (5, .int .i64 0), (6, .vc 0), (7, .int .i64 s363.1)]) (H2 := [vecL encT 1 9 ((s363.2 ++ (([(nth x0 (nth x1 s363.1))] : List (List UInt8)))))]) 0 (by rw [hFH]; rfl) hFD [2] (by kernel_rfl) (by kernel_rfl) (by decide) (by kernel_rfl) (by kernel_rfl) (by kernel_rfl) (by kernel_rfl)) ?_
          exact PJ.cutXl [0, 1, 4, 5, 6, 7] (by kernel_rfl) (by kernel_rfl)
      · subst hs
        have h663 := joinX_inl h662
        refine K.region (by kernel_rfl) ?_
        refine RJ.seg 3 [0, 1, 4, 5, 6, 7] (L2 := [(0, lsv encT 1 x0), (1, lsv (encI .i64) 1 x1), (4, .nl), (5, .int .i64 0), (6, .vc 0), (7, .int .i64 (IntKind.wrap .i64 (s363.1 + 1)))]) (H2 := [vecL encT 1 9 ((s363.2 ++ (([(nth x0 (nth x1 s363.1))] : List (List UInt8)))))]) (by kernel_rfl) ?_
        refine RJ.end (by kernel_rfl) ?_
        obtain rfl := Option.some.inj h663
        exact PJ.loopNext [0, 1, 4, 5, 6, 7] (by kernel_rfl) (by kernel_rfl)
    · have h604 := condF hb602 hs600
      refine K.condF (by kernel_rfl) ?_
      refine K.exit 0 (by kernel_rfl) ?_
      refine PJ.passExit ?_
      obtain rfl := Option.some.inj h604
      refine PJ.loopOut (fun e => nomatch e) (fun he719 => ?_)
      have h718 := congrArg some he719
      refine PJ.blockOut ?_
      obtain rfl := Option.some.inj h718
      exact PJ.cutXl [4, 5, 6] (by kernel_rfl) (by kernel_rfl)
  · subst hs
    have h362 := joinX_inl h361
    refine K.seq (by kernel_rfl) ?_
    refine K.region (by kernel_rfl) ?_
    refine RJ.seg 3 [4, 5] (L2 := [(4, .vc 0), (5, .int .i64 0)]) (H2 := [vecL encT 1 9 s358]) (by kernel_rfl) ?_
    refine RJ.end (by kernel_rfl) ?_
    refine PJ.next ?_
    refine K.ret (by kernel_rfl) ?_
    obtain rfl := Option.some.inj h362
    refine PJ.wk (Wk.freeze 0 (n := s358.length) (k := 1) (e := 9) (cs := s358.flatMap encT) (by kernel_rfl)) ?_
    exact K.ret0 (.inr rfl) hFn hFH hFD (by kernel_rfl) (by kernel_rfl) (by kernel_rfl)

def exergueref09_Texts (x0 : List (List UInt8)) (x1 : List (List UInt8)) : Option (Bool) :=
  (bif (decide (¬ (x0.length : Int) = (x1.length : Int))) then (some false) else (Option.bind (loopN (fun (s51 : Int) => (bif (decide (s51 < (x0.length : Int))) then (bif inR s51 x0.length then (bif inR s51 x1.length then (bif ((nth x0 s51) != (nth x1 s51)) then (some (.inr (.inr false))) else (some (.inl (IntKind.wrap .i64 (s51 + 1))))) else none) else none) else (some (.inr (.inl ()))))) big 0) (joinX fun (s46 : Unit) => (some true))))
theorem exergueref09_Texts_ok {x0 : List (List UInt8)} {x1 : List (List UInt8)} {r : Bool} (h : exergueref09_Texts x0 x1 = some r) : SC Try.prog 21 [lsv encT 1 x0, lsv encT 1 x1] [] (.bool r) [] := by
  refine K.fn (fn := Try.f21) (by kernel_rfl) (by kernel_rfl) (by kernel_rfl) (by kernel_rfl) (by kernel_rfl) (fun F hFn hFH hFD => ?_)
  unfold exergueref09_Texts at h
  refine K.seq (by kernel_rfl) ?_
  refine K.region (by kernel_rfl) ?_
  refine RJ.seg 1 [0, 1, 4] (L2 := [(0, lsv encT 1 x0), (1, lsv encT 1 x1), (4, .bool false)]) (H2 := []) (by kernel_rfl) ?_
  refine RJ.end (by kernel_rfl) ?_
  refine PJ.next ?_
  refine K.seq (by kernel_rfl) ?_
  refine K.seq (by kernel_rfl) ?_
  refine K.region (by kernel_rfl) ?_
  refine RJ.seg 5 [0, 1, 4, 10] (L2 := [(0, lsv encT 1 x0), (1, lsv encT 1 x1), (4, .bool false), (10, .bool ((decide (¬ (x0.length : Int) = (x1.length : Int)))))]) (H2 := []) (by kernel_rfl) ?_
  refine RJ.end (by kernel_rfl) ?_
  refine PJ.next ?_
  refine J.caseB 10 (b := (decide (¬ (x0.length : Int) = (x1.length : Int)))) (by kernel_rfl) (fun hb1 => ?_) (fun hb1 => ?_)
  · have h2 := condT hb1 h
    refine K.condT (by kernel_rfl) ?_
    refine K.seq (by kernel_rfl) ?_
    refine K.region (by kernel_rfl) ?_
    refine RJ.seg 1 [0, 1, 4] (L2 := [(0, lsv encT 1 x0), (1, lsv encT 1 x1), (4, .bool false)]) (H2 := []) (by kernel_rfl) ?_
    refine RJ.end (by kernel_rfl) ?_
    refine PJ.next ?_
    refine K.ret (by kernel_rfl) ?_
    refine PJ.passRet ?_
    obtain rfl := Option.some.inj h2
    exact K.ret0 (.inr rfl) hFn hFH hFD (by kernel_rfl) (by kernel_rfl) (by kernel_rfl)
  · have h3 := condF hb1 h
    refine K.condF (by kernel_rfl) ?_
    refine K.skip (by kernel_rfl) ?_
    refine PJ.next ?_
    obtain ⟨y47, hy48, h49⟩ := bindS h3
    refine K.cutX (by kernel_rfl) (fun (s46 : Unit) => ([(4, .bool false)], [])) y47 ?_ (fun s46 hs => ?_)
    · refine K.seq (by kernel_rfl) ?_
      refine K.region (by kernel_rfl) ?_
      refine RJ.seg 1 [0, 1, 4, 5] (L2 := [(0, lsv encT 1 x0), (1, lsv encT 1 x1), (4, .bool false), (5, .int .i64 0)]) (H2 := []) (by kernel_rfl) ?_
      refine RJ.end (by kernel_rfl) ?_
      refine PJ.next ?_
      refine K.block 0 (by kernel_rfl) ?_
      refine K.loop (by kernel_rfl) (fun (s51 : Int) => ([(0, lsv encT 1 x0), (1, lsv encT 1 x1), (4, .bool false), (5, .int .i64 s51)], [])) hy48 [0, 1, 4, 5] (by kernel_rfl) (by kernel_rfl) (fun s51 x79 hs78 => ?_)
      refine K.seq (by kernel_rfl) ?_
      refine K.seq (by kernel_rfl) ?_
      refine K.region (by kernel_rfl) ?_
      refine RJ.seg 4 [0, 1, 4, 5, 14] (L2 := [(0, lsv encT 1 x0), (1, lsv encT 1 x1), (4, .bool false), (5, .int .i64 s51), (14, .bool ((decide (s51 < (x0.length : Int)))))]) (H2 := []) (by kernel_rfl) ?_
      refine RJ.end (by kernel_rfl) ?_
      refine PJ.next ?_
      refine J.caseB 14 (b := (decide (s51 < (x0.length : Int)))) (by kernel_rfl) (fun hb80 => ?_) (fun hb80 => ?_)
      · have h81 := condT hb80 hs78
        refine K.condT (by kernel_rfl) ?_
        refine K.skip (by kernel_rfl) ?_
        refine PJ.next ?_
        refine K.seq (by kernel_rfl) ?_
        refine K.block 1 (by kernel_rfl) ?_
        refine K.seq (by kernel_rfl) ?_
        refine J.keep [0, 1, 4, 5] (L2 := [(0, lsv encT 1 x0), (1, lsv encT 1 x1), (4, .bool false), (5, .int .i64 s51)]) (by kernel_rfl) ?_
        refine K.draw (by kernel_rfl) (by kernel_rfl) (by kernel_rfl) (H2 := []) (by kernel_rfl) (n := 0) (by kernel_rfl) ?_
        refine RJ.segD 2 (tr2 := [([], []), ([], [])]) (L2 := [(18, .int .i64 s51), (17, lsv encT 1 x0), (0, lsv encT 1 x0), (1, lsv encT 1 x1), (4, .bool false), (5, .int .i64 s51)]) (H2 := []) (by kernel_rfl) ?_
        obtain ⟨hm, h83⟩ := asrt h81
        refine RJ.rel (d := (some 19)) (ef := ⟨.ep (((x0.flatMap encT).drop ((s51 : Int).toNat * 1)).take 1), [], []⟩) (ef' := ⟨.ep (encT (nth x0 s51)), [], []⟩) (c := inR s51 x0.length) (tr2 := [([], []), ([], []), ([], [])]) (H2 := []) (by kernel_rfl) hm (fun hc => N.idx encT_len hc) (by kernel_rfl) ?_
        refine RJ.segD 3 (tr2 := [([], []), ([], []), ([], []), ([], []), ([], []), ([], [])]) (L2 := [(22, .int .i64 s51), (21, lsv encT 1 x1), (20, .str (nth x0 s51)), (19, .ep [.str (nth x0 s51)]), (18, .int .i64 s51), (17, lsv encT 1 x0), (0, lsv encT 1 x0), (1, lsv encT 1 x1), (4, .bool false), (5, .int .i64 s51)]) (H2 := []) (by kernel_rfl) ?_
        obtain ⟨hm, h84⟩ := asrt h83
        refine RJ.rel (d := (some 23)) (ef := ⟨.ep (((x1.flatMap encT).drop ((s51 : Int).toNat * 1)).take 1), [], []⟩) (ef' := ⟨.ep (encT (nth x1 s51)), [], []⟩) (c := inR s51 x1.length) (tr2 := [([], []), ([], []), ([], []), ([], []), ([], []), ([], []), ([], [])]) (H2 := []) (by kernel_rfl) hm (fun hc => N.idx encT_len hc) (by kernel_rfl) ?_
        refine RJ.segD 2 (tr2 := [([], []), ([], []), ([], []), ([], []), ([], []), ([], []), ([], []), ([], []), ([], [])]) (L2 := [(25, .bool ((nth x0 s51) != (nth x1 s51))), (24, .str (nth x1 s51)), (23, .ep [.str (nth x1 s51)]), (22, .int .i64 s51), (21, lsv encT 1 x1), (20, .str (nth x0 s51)), (19, .ep [.str (nth x0 s51)]), (18, .int .i64 s51), (17, lsv encT 1 x0), (0, lsv encT 1 x0), (1, lsv encT 1 x1), (4, .bool false), (5, .int .i64 s51)]) (H2 := []) (by kernel_rfl) ?_
        refine RJ.end (by kernel_rfl) ?_
        refine PJ.next ?_
        refine J.caseB 25 (b := ((nth x0 s51) != (nth x1 s51))) (by kernel_rfl) (fun hb85 => ?_) (fun hb85 => ?_)
        · have h86 := condT hb85 h84
          refine K.condT (by kernel_rfl) ?_
          refine K.seq (by kernel_rfl) ?_
          refine K.region (by kernel_rfl) ?_
          refine RJ.seg 1 [0, 1, 4, 5] (L2 := [(0, lsv encT 1 x0), (1, lsv encT 1 x1), (4, .bool false), (5, .int .i64 s51)]) (H2 := []) (by kernel_rfl) ?_
          refine RJ.end (by kernel_rfl) ?_
          refine PJ.next ?_
          refine K.ret (by kernel_rfl) ?_
          refine PJ.blockRet ?_
          refine PJ.passRet ?_
          obtain rfl := Option.some.inj h86
          refine PJ.loopOut (fun e => nomatch e) (fun he90 => ?_)
          have h88 := congrArg some he90
          refine PJ.blockRet ?_
          obtain rfl := Option.some.inj h88
          have h89 := joinX_inr h49
          refine PJ.cutXr (fun e => nomatch e) ?_
          obtain rfl := Option.some.inj h89
          exact K.ret0 (.inr rfl) hFn hFH hFD (by kernel_rfl) (by kernel_rfl) (by kernel_rfl)
        · have h87 := condF hb85 h84
          refine K.condF (by kernel_rfl) ?_
          refine K.skip (by kernel_rfl) ?_
          refine PJ.blockNormal ?_
          refine PJ.next ?_
          refine K.region (by kernel_rfl) ?_
          refine RJ.seg 3 [0, 1, 4, 5] (L2 := [(0, lsv encT 1 x0), (1, lsv encT 1 x1), (4, .bool false), (5, .int .i64 (IntKind.wrap .i64 (s51 + 1)))]) (H2 := []) (by kernel_rfl) ?_
          refine RJ.end (by kernel_rfl) ?_
          obtain rfl := Option.some.inj h87
          exact PJ.loopNext [0, 1, 4, 5] (by kernel_rfl) (by kernel_rfl)
      · have h82 := condF hb80 hs78
        refine K.condF (by kernel_rfl) ?_
        refine K.exit 0 (by kernel_rfl) ?_
        refine PJ.passExit ?_
        obtain rfl := Option.some.inj h82
        refine PJ.loopOut (fun e => nomatch e) (fun he92 => ?_)
        have h91 := congrArg some he92
        refine PJ.blockOut ?_
        obtain rfl := Option.some.inj h91
        exact PJ.cutXl [4] (by kernel_rfl) (by kernel_rfl)
    · subst hs
      have h50 := joinX_inl h49
      refine K.seq (by kernel_rfl) ?_
      refine K.region (by kernel_rfl) ?_
      refine RJ.seg 1 [4] (L2 := [(4, .bool true)]) (H2 := []) (by kernel_rfl) ?_
      refine RJ.end (by kernel_rfl) ?_
      refine PJ.next ?_
      refine K.ret (by kernel_rfl) ?_
      obtain rfl := Option.some.inj h50
      exact K.ret0 (.inr rfl) hFn hFH hFD (by kernel_rfl) (by kernel_rfl) (by kernel_rfl)

def exergueref09_Ints (x0 : List Int) (x1 : List Int) : Option (Bool) :=
  (bif (decide (¬ (x0.length : Int) = (x1.length : Int))) then (some false) else (Option.bind (loopN (fun (s51 : Int) => (bif (decide (s51 < (x0.length : Int))) then (bif inR s51 x0.length then (bif inR s51 x1.length then (bif (decide (¬ (nth x0 s51) = (nth x1 s51))) then (some (.inr (.inr false))) else (some (.inl (IntKind.wrap .i64 (s51 + 1))))) else none) else none) else (some (.inr (.inl ()))))) big 0) (joinX fun (s46 : Unit) => (some true))))
theorem exergueref09_Ints_ok {x0 : List Int} {x1 : List Int} {r : Bool} (h : exergueref09_Ints x0 x1 = some r) : SC Try.prog 22 [lsv (encI .i64) 1 x0, lsv (encI .i64) 1 x1] [] (.bool r) [] := by
  refine K.fn (fn := Try.f22) (by kernel_rfl) (by kernel_rfl) (by kernel_rfl) (by kernel_rfl) (by kernel_rfl) (fun F hFn hFH hFD => ?_)
  unfold exergueref09_Ints at h
  refine K.seq (by kernel_rfl) ?_
  refine K.region (by kernel_rfl) ?_
  refine RJ.seg 1 [0, 1, 4] (L2 := [(0, lsv (encI .i64) 1 x0), (1, lsv (encI .i64) 1 x1), (4, .bool false)]) (H2 := []) (by kernel_rfl) ?_
  refine RJ.end (by kernel_rfl) ?_
  refine PJ.next ?_
  refine K.seq (by kernel_rfl) ?_
  refine K.seq (by kernel_rfl) ?_
  refine K.region (by kernel_rfl) ?_
  refine RJ.seg 5 [0, 1, 4, 10] (L2 := [(0, lsv (encI .i64) 1 x0), (1, lsv (encI .i64) 1 x1), (4, .bool false), (10, .bool ((decide (¬ (x0.length : Int) = (x1.length : Int)))))]) (H2 := []) (by kernel_rfl) ?_
  refine RJ.end (by kernel_rfl) ?_
  refine PJ.next ?_
  refine J.caseB 10 (b := (decide (¬ (x0.length : Int) = (x1.length : Int)))) (by kernel_rfl) (fun hb1 => ?_) (fun hb1 => ?_)
  · have h2 := condT hb1 h
    refine K.condT (by kernel_rfl) ?_
    refine K.seq (by kernel_rfl) ?_
    refine K.region (by kernel_rfl) ?_
    refine RJ.seg 1 [0, 1, 4] (L2 := [(0, lsv (encI .i64) 1 x0), (1, lsv (encI .i64) 1 x1), (4, .bool false)]) (H2 := []) (by kernel_rfl) ?_
    refine RJ.end (by kernel_rfl) ?_
    refine PJ.next ?_
    refine K.ret (by kernel_rfl) ?_
    refine PJ.passRet ?_
    obtain rfl := Option.some.inj h2
    exact K.ret0 (.inr rfl) hFn hFH hFD (by kernel_rfl) (by kernel_rfl) (by kernel_rfl)
  · have h3 := condF hb1 h
    refine K.condF (by kernel_rfl) ?_
    refine K.skip (by kernel_rfl) ?_
    refine PJ.next ?_
    obtain ⟨y47, hy48, h49⟩ := bindS h3
    refine K.cutX (by kernel_rfl) (fun (s46 : Unit) => ([(4, .bool false)], [])) y47 ?_ (fun s46 hs => ?_)
    · refine K.seq (by kernel_rfl) ?_
      refine K.region (by kernel_rfl) ?_
      refine RJ.seg 1 [0, 1, 4, 5] (L2 := [(0, lsv (encI .i64) 1 x0), (1, lsv (encI .i64) 1 x1), (4, .bool false), (5, .int .i64 0)]) (H2 := []) (by kernel_rfl) ?_
      refine RJ.end (by kernel_rfl) ?_
      refine PJ.next ?_
      refine K.block 0 (by kernel_rfl) ?_
      refine K.loop (by kernel_rfl) (fun (s51 : Int) => ([(0, lsv (encI .i64) 1 x0), (1, lsv (encI .i64) 1 x1), (4, .bool false), (5, .int .i64 s51)], [])) hy48 [0, 1, 4, 5] (by kernel_rfl) (by kernel_rfl) (fun s51 x79 hs78 => ?_)
      refine K.seq (by kernel_rfl) ?_
      refine K.seq (by kernel_rfl) ?_
      refine K.region (by kernel_rfl) ?_
      refine RJ.seg 4 [0, 1, 4, 5, 14] (L2 := [(0, lsv (encI .i64) 1 x0), (1, lsv (encI .i64) 1 x1), (4, .bool false), (5, .int .i64 s51), (14, .bool ((decide (s51 < (x0.length : Int)))))]) (H2 := []) (by kernel_rfl) ?_
      refine RJ.end (by kernel_rfl) ?_
      refine PJ.next ?_
      refine J.caseB 14 (b := (decide (s51 < (x0.length : Int)))) (by kernel_rfl) (fun hb80 => ?_) (fun hb80 => ?_)
      · have h81 := condT hb80 hs78
        refine K.condT (by kernel_rfl) ?_
        refine K.skip (by kernel_rfl) ?_
        refine PJ.next ?_
        refine K.seq (by kernel_rfl) ?_
        refine K.block 1 (by kernel_rfl) ?_
        refine K.seq (by kernel_rfl) ?_
        refine J.keep [0, 1, 4, 5] (L2 := [(0, lsv (encI .i64) 1 x0), (1, lsv (encI .i64) 1 x1), (4, .bool false), (5, .int .i64 s51)]) (by kernel_rfl) ?_
        refine K.draw (by kernel_rfl) (by kernel_rfl) (by kernel_rfl) (H2 := []) (by kernel_rfl) (n := 0) (by kernel_rfl) ?_
        refine RJ.segD 2 (tr2 := [([], []), ([], [])]) (L2 := [(18, .int .i64 s51), (17, lsv (encI .i64) 1 x0), (0, lsv (encI .i64) 1 x0), (1, lsv (encI .i64) 1 x1), (4, .bool false), (5, .int .i64 s51)]) (H2 := []) (by kernel_rfl) ?_
        obtain ⟨hm, h83⟩ := asrt h81
        refine RJ.rel (d := (some 19)) (ef := ⟨.ep (((x0.flatMap (encI .i64)).drop ((s51 : Int).toNat * 1)).take 1), [], []⟩) (ef' := ⟨.ep ((encI .i64) (nth x0 s51)), [], []⟩) (c := inR s51 x0.length) (tr2 := [([], []), ([], []), ([], [])]) (H2 := []) (by kernel_rfl) hm (fun hc => N.idx (encI_len .i64) hc) (by kernel_rfl) ?_
        refine RJ.segD 3 (tr2 := [([], []), ([], []), ([], []), ([], []), ([], []), ([], [])]) (L2 := [(22, .int .i64 s51), (21, lsv (encI .i64) 1 x1), (20, .int .i64 (nth x0 s51)), (19, .ep [.int .i64 (nth x0 s51)]), (18, .int .i64 s51), (17, lsv (encI .i64) 1 x0), (0, lsv (encI .i64) 1 x0), (1, lsv (encI .i64) 1 x1), (4, .bool false), (5, .int .i64 s51)]) (H2 := []) (by kernel_rfl) ?_
        obtain ⟨hm, h84⟩ := asrt h83
        refine RJ.rel (d := (some 23)) (ef := ⟨.ep (((x1.flatMap (encI .i64)).drop ((s51 : Int).toNat * 1)).take 1), [], []⟩) (ef' := ⟨.ep ((encI .i64) (nth x1 s51)), [], []⟩) (c := inR s51 x1.length) (tr2 := [([], []), ([], []), ([], []), ([], []), ([], []), ([], []), ([], [])]) (H2 := []) (by kernel_rfl) hm (fun hc => N.idx (encI_len .i64) hc) (by kernel_rfl) ?_
        refine RJ.segD 2 (tr2 := [([], []), ([], []), ([], []), ([], []), ([], []), ([], []), ([], []), ([], []), ([], [])]) (L2 := [(25, .bool ((decide (¬ (nth x0 s51) = (nth x1 s51))))), (24, .int .i64 (nth x1 s51)), (23, .ep [.int .i64 (nth x1 s51)]), (22, .int .i64 s51), (21, lsv (encI .i64) 1 x1), (20, .int .i64 (nth x0 s51)), (19, .ep [.int .i64 (nth x0 s51)]), (18, .int .i64 s51), (17, lsv (encI .i64) 1 x0), (0, lsv (encI .i64) 1 x0), (1, lsv (encI .i64) 1 x1), (4, .bool false), (5, .int .i64 s51)]) (H2 := []) (by kernel_rfl) ?_
        refine RJ.end (by kernel_rfl) ?_
        refine PJ.next ?_
        refine J.caseB 25 (b := (decide (¬ (nth x0 s51) = (nth x1 s51)))) (by kernel_rfl) (fun hb85 => ?_) (fun hb85 => ?_)
        · have h86 := condT hb85 h84
          refine K.condT (by kernel_rfl) ?_
          refine K.seq (by kernel_rfl) ?_
          refine K.region (by kernel_rfl) ?_
          refine RJ.seg 1 [0, 1, 4, 5] (L2 := [(0, lsv (encI .i64) 1 x0), (1, lsv (encI .i64) 1 x1), (4, .bool false), (5, .int .i64 s51)]) (H2 := []) (by kernel_rfl) ?_
          refine RJ.end (by kernel_rfl) ?_
          refine PJ.next ?_
          refine K.ret (by kernel_rfl) ?_
          refine PJ.blockRet ?_
          refine PJ.passRet ?_
          obtain rfl := Option.some.inj h86
          refine PJ.loopOut (fun e => nomatch e) (fun he90 => ?_)
          have h88 := congrArg some he90
          refine PJ.blockRet ?_
          obtain rfl := Option.some.inj h88
          have h89 := joinX_inr h49
          refine PJ.cutXr (fun e => nomatch e) ?_
          obtain rfl := Option.some.inj h89
          exact K.ret0 (.inr rfl) hFn hFH hFD (by kernel_rfl) (by kernel_rfl) (by kernel_rfl)
        · have h87 := condF hb85 h84
          refine K.condF (by kernel_rfl) ?_
          refine K.skip (by kernel_rfl) ?_
          refine PJ.blockNormal ?_
          refine PJ.next ?_
          refine K.region (by kernel_rfl) ?_
          refine RJ.seg 3 [0, 1, 4, 5] (L2 := [(0, lsv (encI .i64) 1 x0), (1, lsv (encI .i64) 1 x1), (4, .bool false), (5, .int .i64 (IntKind.wrap .i64 (s51 + 1)))]) (H2 := []) (by kernel_rfl) ?_
          refine RJ.end (by kernel_rfl) ?_
          obtain rfl := Option.some.inj h87
          exact PJ.loopNext [0, 1, 4, 5] (by kernel_rfl) (by kernel_rfl)
      · have h82 := condF hb80 hs78
        refine K.condF (by kernel_rfl) ?_
        refine K.exit 0 (by kernel_rfl) ?_
        refine PJ.passExit ?_
        obtain rfl := Option.some.inj h82
        refine PJ.loopOut (fun e => nomatch e) (fun he92 => ?_)
        have h91 := congrArg some he92
        refine PJ.blockOut ?_
        obtain rfl := Option.some.inj h91
        exact PJ.cutXl [4] (by kernel_rfl) (by kernel_rfl)
    · subst hs
      have h50 := joinX_inl h49
      refine K.seq (by kernel_rfl) ?_
      refine K.region (by kernel_rfl) ?_
      refine RJ.seg 1 [4] (L2 := [(4, .bool true)]) (H2 := []) (by kernel_rfl) ?_
      refine RJ.end (by kernel_rfl) ?_
      refine PJ.next ?_
      refine K.ret (by kernel_rfl) ?_
      obtain rfl := Option.some.inj h50
      exact K.ret0 (.inr rfl) hFn hFH hFD (by kernel_rfl) (by kernel_rfl) (by kernel_rfl)

def exerguelaw09_PackTexts (x0 : List (List UInt8)) (x1 : List Int) : Option (Bool) :=
  (Option.bind exerguelaw09_shown fun y1 => (Option.bind (Option.bind (Option.bind (exergueref09_Short x0) fun y41 => (bif (!y41) then (some true) else (some ((decide ((x1.length : Int) > 600)))))) fun (s36 : Bool) => (bif s36 then (some (.inr y1)) else (some (.inl ())))) (joinX fun (s25 : Unit) => (Option.bind (pack_Gather x0) fun y51 => (Option.bind (exergueref09_Gather x0) fun y54 => (Option.bind (pack_Spread x0 x1) fun y57 => (Option.bind (exergueref09_Spread x0 x1) fun y60 => (Option.bind (bif y1 then (Option.bind (exergueref09_Texts y51.1 y54.1) fun y92 => (bif y92 then (Option.bind (exergueref09_Ints y51.2 y54.2) fun y98 => (bif y98 then (Option.bind (exergueref09_Texts y57.1 y60.1) fun y104 => (bif y104 then (some (decide (y57.2 = y60.2))) else (some false))) else (some false))) else (some false))) else (some false)) fun (s84 : Bool) => (some s84)))))))))
theorem exerguelaw09_PackTexts_ok {x0 : List (List UInt8)} {x1 : List Int} {r : Bool} (h : exerguelaw09_PackTexts x0 x1 = some r) : SC Try.prog 4 [lsv encT 1 x0, lsv (encI .i64) 1 x1] [] (.bool r) [] := by
  refine K.fn (fn := Try.f4) (by kernel_rfl) (by kernel_rfl) (by kernel_rfl) (by kernel_rfl) (by kernel_rfl) (fun F hFn hFH hFD => ?_)
  unfold exerguelaw09_PackTexts at h
  refine K.seq (by kernel_rfl) ?_
  refine K.region (by kernel_rfl) ?_
  refine RJ.seg 1 [0, 1, 4] (L2 := [(0, lsv encT 1 x0), (1, lsv (encI .i64) 1 x1), (4, .bool false)]) (H2 := []) (by kernel_rfl) ?_
  refine RJ.end (by kernel_rfl) ?_
  refine PJ.next ?_
  refine K.seq (by kernel_rfl) ?_
  refine K.region (by kernel_rfl) ?_
  obtain ⟨y1, hy2, h3⟩ := bindS h
  refine RJ.call0 (d := (some 14)) (f := 10) (args := []) (v := .bool y1) (tr2 := []) (by kernel_rfl) (by kernel_rfl) .nil (exerguelaw09_shown_ok hy2) (by kernel_rfl) ?_
  refine RJ.seg 1 [0, 1, 4, 5] (L2 := [(0, lsv encT 1 x0), (1, lsv (encI .i64) 1 x1), (4, .bool false), (5, .bool y1)]) (H2 := []) (by kernel_rfl) ?_
  refine RJ.end (by kernel_rfl) ?_
  refine PJ.next ?_
  obtain ⟨y26, hy27, h28⟩ := bindS h3
  refine K.cutX (by kernel_rfl) (fun (s25 : Unit) => ([(0, lsv encT 1 x0), (1, lsv (encI .i64) 1 x1), (4, .bool false), (5, .bool y1)], [])) y26 ?_ (fun s25 hs => ?_)
  · obtain ⟨s36, hy38, h40⟩ := bindS hy27
    refine K.cutN (by kernel_rfl) (fun (s36 : Bool) => ([(0, lsv encT 1 x0), (1, lsv (encI .i64) 1 x1), (4, .bool false), (5, .bool y1), (22, .bool s36)], [])) s36 ?_ ?_
    · refine K.region (by kernel_rfl) ?_
      refine RJ.seg 1 [0, 1, 4, 5, 15] (L2 := [(0, lsv encT 1 x0), (1, lsv (encI .i64) 1 x1), (4, .bool false), (5, .bool y1), (15, lsv encT 1 x0)]) (H2 := []) (by kernel_rfl) ?_
      obtain ⟨y41, hy42, h43⟩ := bindS hy38
      refine RJ.call0 (d := (some 16)) (f := 16) (args := [lsv encT 1 x0]) (v := .bool y41) (tr2 := []) (by kernel_rfl) (by kernel_rfl) (.cons (Le.refl _) .nil) (exergueref09_Short_ok hy42) (by kernel_rfl) ?_
      refine RJ.seg 2 [0, 1, 4, 5, 18] (L2 := [(0, lsv encT 1 x0), (1, lsv (encI .i64) 1 x1), (4, .bool false), (5, .bool y1), (18, .bool (!y41))]) (H2 := []) (by kernel_rfl) ?_
      refine RJ.caseB 18 (b := (!y41)) (by kernel_rfl) (fun hb44 => ?_) (fun hb44 => ?_)
      · have h45 := condT hb44 h43
        refine RJ.seg 4 [0, 1, 4, 5, 22] (L2 := [(0, lsv encT 1 x0), (1, lsv (encI .i64) 1 x1), (4, .bool false), (5, .bool y1), (22, .bool true)]) (H2 := []) (by kernel_rfl) ?_
        refine RJ.end (by kernel_rfl) ?_
        obtain rfl := Option.some.inj h45
        exact PJ.cutN [0, 1, 4, 5, 22] (by kernel_rfl) (by kernel_rfl)
      · have h46 := condF hb44 h43
        refine RJ.seg 4 [0, 1, 4, 5, 22] (L2 := [(0, lsv encT 1 x0), (1, lsv (encI .i64) 1 x1), (4, .bool false), (5, .bool y1), (22, .bool ((decide ((x1.length : Int) > 600))))]) (H2 := []) (by kernel_rfl) ?_
        refine RJ.end (by kernel_rfl) ?_
        obtain rfl := Option.some.inj h46
        exact PJ.cutN [0, 1, 4, 5, 22] (by kernel_rfl) (by kernel_rfl)
    · refine J.caseB 22 (b := s36) (by kernel_rfl) (fun hb47 => ?_) (fun hb47 => ?_)
      · have h48 := condT hb47 h40
        refine K.condT (by kernel_rfl) ?_
        refine K.seq (by kernel_rfl) ?_
        refine K.region (by kernel_rfl) ?_
        refine RJ.seg 2 [0, 1, 4, 5] (L2 := [(0, lsv encT 1 x0), (1, lsv (encI .i64) 1 x1), (4, .bool y1), (5, .bool y1)]) (H2 := []) (by kernel_rfl) ?_
        refine RJ.end (by kernel_rfl) ?_
        refine PJ.next ?_
        refine K.ret (by kernel_rfl) ?_
        obtain rfl := Option.some.inj h48
        have h50 := joinX_inr h28
        refine PJ.cutXr (fun e => nomatch e) ?_
        obtain rfl := Option.some.inj h50
        exact K.ret0 (.inr rfl) hFn hFH hFD (by kernel_rfl) (by kernel_rfl) (by kernel_rfl)
      · have h49 := condF hb47 h40
        refine K.condF (by kernel_rfl) ?_
        refine K.skip (by kernel_rfl) ?_
        obtain rfl := Option.some.inj h49
        exact PJ.cutXl [0, 1, 4, 5] (by kernel_rfl) (by kernel_rfl)
  · subst hs
    have h29 := joinX_inl h28
    refine K.seq (by kernel_rfl) ?_
    refine K.region (by kernel_rfl) ?_
    refine RJ.seg 1 [0, 1, 4, 5, 25] (L2 := [(0, lsv encT 1 x0), (1, lsv (encI .i64) 1 x1), (4, .bool false), (5, .bool y1), (25, lsv encT 1 x0)]) (H2 := []) (by kernel_rfl) ?_
    obtain ⟨y51, hy52, h53⟩ := bindS h29
    refine RJ.call0 (d := (some 26)) (f := 17) (args := [lsv encT 1 x0]) (v := .tup [lsv encT 1 y51.1, lsv (encI .i64) 1 y51.2]) (tr2 := []) (by kernel_rfl) (by kernel_rfl) (.cons (Le.refl _) .nil) (pack_Gather_ok hy52) (by kernel_rfl) ?_
    refine RJ.seg 5 [0, 1, 4, 5, 6, 7] (L2 := [(0, lsv encT 1 x0), (1, lsv (encI .i64) 1 x1), (4, .bool false), (5, .bool y1), (6, lsv encT 1 y51.1), (7, lsv (encI .i64) 1 y51.2)]) (H2 := []) (by kernel_rfl) ?_
    refine RJ.end (by kernel_rfl) ?_
    refine PJ.next ?_
    refine K.seq (by kernel_rfl) ?_
    refine K.region (by kernel_rfl) ?_
    refine RJ.seg 1 [0, 1, 4, 5, 6, 7, 30] (L2 := [(0, lsv encT 1 x0), (1, lsv (encI .i64) 1 x1), (4, .bool false), (5, .bool y1), (6, lsv encT 1 y51.1), (7, lsv (encI .i64) 1 y51.2), (30, lsv encT 1 x0)]) (H2 := []) (by kernel_rfl) ?_
    obtain ⟨y54, hy55, h56⟩ := bindS h53
    refine RJ.call0 (d := (some 31)) (f := 18) (args := [lsv encT 1 x0]) (v := .tup [lsv encT 1 y54.1, lsv (encI .i64) 1 y54.2]) (tr2 := []) (by kernel_rfl) (by kernel_rfl) (.cons (Le.refl _) .nil) (exergueref09_Gather_ok hy55) (by kernel_rfl) ?_
    refine RJ.seg 5 [0, 1, 4, 5, 6, 7, 8, 9] (L2 := [(0, lsv encT 1 x0), (1, lsv (encI .i64) 1 x1), (4, .bool false), (5, .bool y1), (6, lsv encT 1 y51.1), (7, lsv (encI .i64) 1 y51.2), (8, lsv encT 1 y54.1), (9, lsv (encI .i64) 1 y54.2)]) (H2 := []) (by kernel_rfl) ?_
    refine RJ.end (by kernel_rfl) ?_
    refine PJ.next ?_
    refine K.seq (by kernel_rfl) ?_
    refine K.region (by kernel_rfl) ?_
    refine RJ.seg 2 [0, 1, 4, 5, 6, 7, 8, 9, 35, 36] (L2 := [(0, lsv encT 1 x0), (1, lsv (encI .i64) 1 x1), (4, .bool false), (5, .bool y1), (6, lsv encT 1 y51.1), (7, lsv (encI .i64) 1 y51.2), (8, lsv encT 1 y54.1), (9, lsv (encI .i64) 1 y54.2), (35, lsv encT 1 x0), (36, lsv (encI .i64) 1 x1)]) (H2 := []) (by kernel_rfl) ?_
    obtain ⟨y57, hy58, h59⟩ := bindS h56
    refine RJ.call0 (d := (some 37)) (f := 19) (args := [lsv encT 1 x0, lsv (encI .i64) 1 x1]) (v := .tup [lsv encT 1 y57.1, .int .i64 y57.2]) (tr2 := []) (by kernel_rfl) (by kernel_rfl) (.cons (Le.refl _) (.cons (Le.refl _) .nil)) (pack_Spread_ok hy58) (by kernel_rfl) ?_
    refine RJ.seg 5 [0, 1, 4, 5, 6, 7, 8, 9, 10, 11] (L2 := [(0, lsv encT 1 x0), (1, lsv (encI .i64) 1 x1), (4, .bool false), (5, .bool y1), (6, lsv encT 1 y51.1), (7, lsv (encI .i64) 1 y51.2), (8, lsv encT 1 y54.1), (9, lsv (encI .i64) 1 y54.2), (10, lsv encT 1 y57.1), (11, .int .i64 y57.2)]) (H2 := []) (by kernel_rfl) ?_
    refine RJ.end (by kernel_rfl) ?_
    refine PJ.next ?_
    refine K.seq (by kernel_rfl) ?_
    refine K.region (by kernel_rfl) ?_
    refine RJ.seg 2 [4, 5, 6, 7, 8, 9, 10, 11, 41, 42] (L2 := [(4, .bool false), (5, .bool y1), (6, lsv encT 1 y51.1), (7, lsv (encI .i64) 1 y51.2), (8, lsv encT 1 y54.1), (9, lsv (encI .i64) 1 y54.2), (10, lsv encT 1 y57.1), (11, .int .i64 y57.2), (41, lsv encT 1 x0), (42, lsv (encI .i64) 1 x1)]) (H2 := []) (by kernel_rfl) ?_
    obtain ⟨y60, hy61, h62⟩ := bindS h59
    refine RJ.call0 (d := (some 43)) (f := 20) (args := [lsv encT 1 x0, lsv (encI .i64) 1 x1]) (v := .tup [lsv encT 1 y60.1, .int .i64 y60.2]) (tr2 := []) (by kernel_rfl) (by kernel_rfl) (.cons (Le.refl _) (.cons (Le.refl _) .nil)) (exergueref09_Spread_ok hy61) (by kernel_rfl) ?_
    refine RJ.seg 5 [4, 5, 6, 7, 8, 9, 10, 11, 12, 13] (L2 := [(4, .bool false), (5, .bool y1), (6, lsv encT 1 y51.1), (7, lsv (encI .i64) 1 y51.2), (8, lsv encT 1 y54.1), (9, lsv (encI .i64) 1 y54.2), (10, lsv encT 1 y57.1), (11, .int .i64 y57.2), (12, lsv encT 1 y60.1), (13, .int .i64 y60.2)]) (H2 := []) (by kernel_rfl) ?_
    refine RJ.end (by kernel_rfl) ?_
    refine PJ.next ?_
    obtain ⟨s84, hy86, h88⟩ := bindS h62
    refine K.cutN (by kernel_rfl) (fun (s84 : Bool) => ([(4, .bool s84)], [])) s84 ?_ ?_
    · refine K.region (by kernel_rfl) ?_
      refine RJ.seg 2 [4, 6, 7, 8, 9, 10, 11, 12, 13, 47] (L2 := [(4, .bool false), (6, lsv encT 1 y51.1), (7, lsv (encI .i64) 1 y51.2), (8, lsv encT 1 y54.1), (9, lsv (encI .i64) 1 y54.2), (10, lsv encT 1 y57.1), (11, .int .i64 y57.2), (12, lsv encT 1 y60.1), (13, .int .i64 y60.2), (47, .bool y1)]) (H2 := []) (by kernel_rfl) ?_
      refine RJ.caseB 47 (b := y1) (by kernel_rfl) (fun hb89 => ?_) (fun hb89 => ?_)
      · have h90 := condT hb89 hy86
        refine RJ.seg 2 [4, 7, 9, 10, 11, 12, 13, 47, 48, 49] (L2 := [(4, .bool false), (7, lsv (encI .i64) 1 y51.2), (9, lsv (encI .i64) 1 y54.2), (10, lsv encT 1 y57.1), (11, .int .i64 y57.2), (12, lsv encT 1 y60.1), (13, .int .i64 y60.2), (47, .bool true), (48, lsv encT 1 y51.1), (49, lsv encT 1 y54.1)]) (H2 := []) (by kernel_rfl) ?_
        obtain ⟨y92, hy93, h94⟩ := bindS h90
        refine RJ.call0 (d := (some 50)) (f := 21) (args := [lsv encT 1 y51.1, lsv encT 1 y54.1]) (v := .bool y92) (tr2 := []) (by kernel_rfl) (by kernel_rfl) (.cons (Le.refl _) (.cons (Le.refl _) .nil)) (exergueref09_Texts_ok hy93) (by kernel_rfl) ?_
        refine RJ.seg 2 [4, 7, 9, 10, 11, 12, 13, 52] (L2 := [(4, .bool false), (7, lsv (encI .i64) 1 y51.2), (9, lsv (encI .i64) 1 y54.2), (10, lsv encT 1 y57.1), (11, .int .i64 y57.2), (12, lsv encT 1 y60.1), (13, .int .i64 y60.2), (52, .bool y92)]) (H2 := []) (by kernel_rfl) ?_
        refine RJ.caseB 52 (b := y92) (by kernel_rfl) (fun hb95 => ?_) (fun hb95 => ?_)
        · have h96 := condT hb95 h94
          refine RJ.seg 2 [4, 10, 11, 12, 13, 52, 53, 54] (L2 := [(4, .bool false), (10, lsv encT 1 y57.1), (11, .int .i64 y57.2), (12, lsv encT 1 y60.1), (13, .int .i64 y60.2), (52, .bool true), (53, lsv (encI .i64) 1 y51.2), (54, lsv (encI .i64) 1 y54.2)]) (H2 := []) (by kernel_rfl) ?_
          obtain ⟨y98, hy99, h100⟩ := bindS h96
          refine RJ.call0 (d := (some 55)) (f := 22) (args := [lsv (encI .i64) 1 y51.2, lsv (encI .i64) 1 y54.2]) (v := .bool y98) (tr2 := []) (by kernel_rfl) (by kernel_rfl) (.cons (Le.refl _) (.cons (Le.refl _) .nil)) (exergueref09_Ints_ok hy99) (by kernel_rfl) ?_
          refine RJ.seg 2 [4, 10, 11, 12, 13, 57] (L2 := [(4, .bool false), (10, lsv encT 1 y57.1), (11, .int .i64 y57.2), (12, lsv encT 1 y60.1), (13, .int .i64 y60.2), (57, .bool y98)]) (H2 := []) (by kernel_rfl) ?_
          refine RJ.caseB 57 (b := y98) (by kernel_rfl) (fun hb101 => ?_) (fun hb101 => ?_)
          · have h102 := condT hb101 h100
            refine RJ.seg 2 [4, 11, 13, 57, 58, 59] (L2 := [(4, .bool false), (11, .int .i64 y57.2), (13, .int .i64 y60.2), (57, .bool true), (58, lsv encT 1 y57.1), (59, lsv encT 1 y60.1)]) (H2 := []) (by kernel_rfl) ?_
            obtain ⟨y104, hy105, h106⟩ := bindS h102
            refine RJ.call0 (d := (some 60)) (f := 21) (args := [lsv encT 1 y57.1, lsv encT 1 y60.1]) (v := .bool y104) (tr2 := []) (by kernel_rfl) (by kernel_rfl) (.cons (Le.refl _) (.cons (Le.refl _) .nil)) (exergueref09_Texts_ok hy105) (by kernel_rfl) ?_
            refine RJ.seg 2 [4, 11, 13, 62] (L2 := [(4, .bool false), (11, .int .i64 y57.2), (13, .int .i64 y60.2), (62, .bool y104)]) (H2 := []) (by kernel_rfl) ?_
            refine RJ.caseB 62 (b := y104) (by kernel_rfl) (fun hb107 => ?_) (fun hb107 => ?_)
            · have h108 := condT hb107 h106
              refine RJ.seg 5 [4] (L2 := [(4, .bool (decide (y57.2 = y60.2)))]) (H2 := []) (by kernel_rfl) ?_
              refine RJ.end (by kernel_rfl) ?_
              obtain rfl := Option.some.inj h108
              exact PJ.cutN [4] (by kernel_rfl) (by kernel_rfl)
            · have h109 := condF hb107 h106
              refine RJ.seg 5 [4] (L2 := [(4, .bool false)]) (H2 := []) (by kernel_rfl) ?_
              refine RJ.end (by kernel_rfl) ?_
              obtain rfl := Option.some.inj h109
              exact PJ.cutN [4] (by kernel_rfl) (by kernel_rfl)
          · have h103 := condF hb101 h100
            refine RJ.seg 10 [4] (L2 := [(4, .bool false)]) (H2 := []) (by kernel_rfl) ?_
            refine RJ.end (by kernel_rfl) ?_
            obtain rfl := Option.some.inj h103
            exact PJ.cutN [4] (by kernel_rfl) (by kernel_rfl)
        · have h97 := condF hb95 h94
          refine RJ.seg 15 [4] (L2 := [(4, .bool false)]) (H2 := []) (by kernel_rfl) ?_
          refine RJ.end (by kernel_rfl) ?_
          obtain rfl := Option.some.inj h97
          exact PJ.cutN [4] (by kernel_rfl) (by kernel_rfl)
      · have h91 := condF hb89 hy86
        refine RJ.seg 20 [4] (L2 := [(4, .bool false)]) (H2 := []) (by kernel_rfl) ?_
        refine RJ.end (by kernel_rfl) ?_
        obtain rfl := Option.some.inj h91
        exact PJ.cutN [4] (by kernel_rfl) (by kernel_rfl)
    · refine K.ret (by kernel_rfl) ?_
      obtain rfl := Option.some.inj h88
      exact K.ret0 (.inr rfl) hFn hFH hFD (by kernel_rfl) (by kernel_rfl) (by kernel_rfl)

def pack_isPool (x0 : List (List UInt8)) : Option (Bool) :=
  (bif (decide ((x0.length : Int) > 500)) then (some false) else (Option.bind (loopN (fun (s48 : Int) => (bif (decide (s48 < (x0.length : Int))) then (bif inR s48 x0.length then (bif (decide (((nth x0 s48).length : Int) > 400)) then (some (.inr (.inr false))) else (some (.inl (IntKind.wrap .i64 (s48 + 1))))) else none) else (some (.inr (.inl ()))))) big 0) (joinX fun (s43 : Unit) => (Option.bind (pack_Gather x0) fun y87 => (some (decide ((y87.1.length : Int) = (x0.length : Int))))))))
theorem pack_isPool_ok {x0 : List (List UInt8)} {r : Bool} (h : pack_isPool x0 = some r) : SC Try.prog 34 [lsv encT 1 x0] [] (.bool r) [] := by
  refine K.fn (fn := Try.f34) (by kernel_rfl) (by kernel_rfl) (by kernel_rfl) (by kernel_rfl) (by kernel_rfl) (fun F hFn hFH hFD => ?_)
  unfold pack_isPool at h
  refine K.seq (by kernel_rfl) ?_
  refine K.region (by kernel_rfl) ?_
  refine RJ.seg 1 [0, 2] (L2 := [(0, lsv encT 1 x0), (2, .bool false)]) (H2 := []) (by kernel_rfl) ?_
  refine RJ.end (by kernel_rfl) ?_
  refine PJ.next ?_
  refine K.seq (by kernel_rfl) ?_
  refine K.seq (by kernel_rfl) ?_
  refine K.region (by kernel_rfl) ?_
  refine RJ.seg 3 [0, 2, 9] (L2 := [(0, lsv encT 1 x0), (2, .bool false), (9, .bool ((decide ((x0.length : Int) > 500))))]) (H2 := []) (by kernel_rfl) ?_
  refine RJ.end (by kernel_rfl) ?_
  refine PJ.next ?_
  refine J.caseB 9 (b := (decide ((x0.length : Int) > 500))) (by kernel_rfl) (fun hb1 => ?_) (fun hb1 => ?_)
  · have h2 := condT hb1 h
    refine K.condT (by kernel_rfl) ?_
    refine K.seq (by kernel_rfl) ?_
    refine K.region (by kernel_rfl) ?_
    refine RJ.seg 1 [0, 2] (L2 := [(0, lsv encT 1 x0), (2, .bool false)]) (H2 := []) (by kernel_rfl) ?_
    refine RJ.end (by kernel_rfl) ?_
    refine PJ.next ?_
    refine K.ret (by kernel_rfl) ?_
    refine PJ.passRet ?_
    obtain rfl := Option.some.inj h2
    exact K.ret0 (.inr rfl) hFn hFH hFD (by kernel_rfl) (by kernel_rfl) (by kernel_rfl)
  · have h3 := condF hb1 h
    refine K.condF (by kernel_rfl) ?_
    refine K.skip (by kernel_rfl) ?_
    refine PJ.next ?_
    obtain ⟨y44, hy45, h46⟩ := bindS h3
    refine K.cutX (by kernel_rfl) (fun (s43 : Unit) => ([(0, lsv encT 1 x0), (2, .bool false)], [])) y44 ?_ (fun s43 hs => ?_)
    · refine K.seq (by kernel_rfl) ?_
      refine K.region (by kernel_rfl) ?_
      refine RJ.seg 3 [0, 2, 10, 11, 12] (L2 := [(0, lsv encT 1 x0), (2, .bool false), (10, lsv encT 1 x0), (11, .int .i64 (x0.length : Int)), (12, .int .i64 0)]) (H2 := []) (by kernel_rfl) ?_
      refine RJ.end (by kernel_rfl) ?_
      refine PJ.next ?_
      refine K.block 0 (by kernel_rfl) ?_
      refine K.loop (by kernel_rfl) (fun (s48 : Int) => ([(0, lsv encT 1 x0), (2, .bool false), (10, lsv encT 1 x0), (11, .int .i64 (x0.length : Int)), (12, .int .i64 s48)], [])) hy45 [0, 2, 10, 11, 12] (by kernel_rfl) (by kernel_rfl) (fun s48 x74 hs73 => ?_)
      refine K.seq (by kernel_rfl) ?_
      refine K.region (by kernel_rfl) ?_
      refine RJ.seg 1 [0, 2, 10, 11, 12, 13] (L2 := [(0, lsv encT 1 x0), (2, .bool false), (10, lsv encT 1 x0), (11, .int .i64 (x0.length : Int)), (12, .int .i64 s48), (13, .bool ((decide (s48 < (x0.length : Int)))))]) (H2 := []) (by kernel_rfl) ?_
      refine RJ.end (by kernel_rfl) ?_
      refine PJ.next ?_
      refine K.seq (by kernel_rfl) ?_
      refine J.caseB 13 (b := (decide (s48 < (x0.length : Int)))) (by kernel_rfl) (fun hb75 => ?_) (fun hb75 => ?_)
      · have h76 := condT hb75 hs73
        refine K.condT (by kernel_rfl) ?_
        refine K.skip (by kernel_rfl) ?_
        refine PJ.next ?_
        refine K.seq (by kernel_rfl) ?_
        refine K.block 1 (by kernel_rfl) ?_
        refine K.seq (by kernel_rfl) ?_
        refine K.region (by kernel_rfl) ?_
        obtain ⟨hm, h78⟩ := asrt h76
        refine RJ.rel (d := (some 14)) (ef := ⟨.ep (((x0.flatMap encT).drop ((s48 : Int).toNat * 1)).take 1), [], []⟩) (ef' := ⟨.ep (encT (nth x0 s48)), [], []⟩) (c := inR s48 x0.length) (tr2 := []) (H2 := []) (by kernel_rfl) hm (fun hc => N.idx encT_len hc) (by kernel_rfl) ?_
        refine RJ.seg 2 [0, 2, 4, 10, 11, 12] (L2 := [(0, lsv encT 1 x0), (2, .bool false), (4, .str (nth x0 s48)), (10, lsv encT 1 x0), (11, .int .i64 (x0.length : Int)), (12, .int .i64 s48)]) (H2 := []) (by kernel_rfl) ?_
        refine RJ.end (by kernel_rfl) ?_
        refine PJ.next ?_
        refine K.seq (by kernel_rfl) ?_
        refine K.region (by kernel_rfl) ?_
        refine RJ.seg 3 [0, 2, 10, 11, 12, 18] (L2 := [(0, lsv encT 1 x0), (2, .bool false), (10, lsv encT 1 x0), (11, .int .i64 (x0.length : Int)), (12, .int .i64 s48), (18, .bool ((decide (((nth x0 s48).length : Int) > 400))))]) (H2 := []) (by kernel_rfl) ?_
        refine RJ.end (by kernel_rfl) ?_
        refine PJ.next ?_
        refine J.caseB 18 (b := (decide (((nth x0 s48).length : Int) > 400))) (by kernel_rfl) (fun hb79 => ?_) (fun hb79 => ?_)
        · have h80 := condT hb79 h78
          refine K.condT (by kernel_rfl) ?_
          refine K.seq (by kernel_rfl) ?_
          refine K.region (by kernel_rfl) ?_
          refine RJ.seg 1 [0, 2, 10, 11, 12] (L2 := [(0, lsv encT 1 x0), (2, .bool false), (10, lsv encT 1 x0), (11, .int .i64 (x0.length : Int)), (12, .int .i64 s48)]) (H2 := []) (by kernel_rfl) ?_
          refine RJ.end (by kernel_rfl) ?_
          refine PJ.next ?_
          refine K.ret (by kernel_rfl) ?_
          refine PJ.blockRet ?_
          refine PJ.passRet ?_
          obtain rfl := Option.some.inj h80
          refine PJ.loopOut (fun e => nomatch e) (fun he84 => ?_)
          have h82 := congrArg some he84
          refine PJ.blockRet ?_
          obtain rfl := Option.some.inj h82
          have h83 := joinX_inr h46
          refine PJ.cutXr (fun e => nomatch e) ?_
          obtain rfl := Option.some.inj h83
          exact K.ret0 (.inr rfl) hFn hFH hFD (by kernel_rfl) (by kernel_rfl) (by kernel_rfl)
        · have h81 := condF hb79 h78
          refine K.condF (by kernel_rfl) ?_
          refine K.skip (by kernel_rfl) ?_
          refine PJ.blockNormal ?_
          refine PJ.next ?_
          refine K.region (by kernel_rfl) ?_
          refine RJ.seg 2 [0, 2, 10, 11, 12] (L2 := [(0, lsv encT 1 x0), (2, .bool false), (10, lsv encT 1 x0), (11, .int .i64 (x0.length : Int)), (12, .int .i64 (IntKind.wrap .i64 (s48 + 1)))]) (H2 := []) (by kernel_rfl) ?_
          refine RJ.end (by kernel_rfl) ?_
          obtain rfl := Option.some.inj h81
          exact PJ.loopNext [0, 2, 10, 11, 12] (by kernel_rfl) (by kernel_rfl)
      · have h77 := condF hb75 hs73
        refine K.condF (by kernel_rfl) ?_
        refine K.exit 0 (by kernel_rfl) ?_
        refine PJ.passExit ?_
        obtain rfl := Option.some.inj h77
        refine PJ.loopOut (fun e => nomatch e) (fun he86 => ?_)
        have h85 := congrArg some he86
        refine PJ.blockOut ?_
        obtain rfl := Option.some.inj h85
        exact PJ.cutXl [0, 2] (by kernel_rfl) (by kernel_rfl)
    · subst hs
      have h47 := joinX_inl h46
      refine K.seq (by kernel_rfl) ?_
      refine K.region (by kernel_rfl) ?_
      refine RJ.seg 1 [0, 2, 21] (L2 := [(0, lsv encT 1 x0), (2, .bool false), (21, lsv encT 1 x0)]) (H2 := []) (by kernel_rfl) ?_
      obtain ⟨y87, hy88, h89⟩ := bindS h47
      refine RJ.call0 (d := (some 22)) (f := 17) (args := [lsv encT 1 x0]) (v := .tup [lsv encT 1 y87.1, lsv (encI .i64) 1 y87.2]) (tr2 := []) (by kernel_rfl) (by kernel_rfl) (.cons (Le.refl _) .nil) (pack_Gather_ok hy88) (by kernel_rfl) ?_
      refine RJ.seg 5 [0, 2, 5] (L2 := [(0, lsv encT 1 x0), (2, .bool false), (5, lsv encT 1 y87.1)]) (H2 := []) (by kernel_rfl) ?_
      refine RJ.end (by kernel_rfl) ?_
      refine PJ.next ?_
      refine K.seq (by kernel_rfl) ?_
      refine K.region (by kernel_rfl) ?_
      refine RJ.seg 6 [2] (L2 := [(2, .bool ((decide ((y87.1.length : Int) = (x0.length : Int)))))]) (H2 := []) (by kernel_rfl) ?_
      refine RJ.end (by kernel_rfl) ?_
      refine PJ.next ?_
      refine K.ret (by kernel_rfl) ?_
      obtain rfl := Option.some.inj h89
      exact K.ret0 (.inr rfl) hFn hFH hFD (by kernel_rfl) (by kernel_rfl) (by kernel_rfl)

def pack_PutPool (x0 : List Int) (x1 : List (List UInt8)) : Option ((List Int) × Int) :=
  (Option.bind (slices_Clone x0) fun y1 => (Option.bind (pack_isPool x1) fun y4 => (bif (!y4) then (some (y1, 1)) else (Option.bind (pack_lay y1 (IntKind.wrap .u32 (x1.length : Int)) 2) fun y10 => (Option.bind (loopN (fun (s51 : Int × (List Int)) => (bif (decide (s51.1 < (x1.length : Int))) then (bif inR s51.1 x1.length then (Option.bind (pack_lay s51.2 ((IntKind.wrap .u32 ((nth x1 s51.1).length : Int))) 2) fun y78 => (bif room (y78.length + (nth x1 s51.1).length) then (some (.inl ((IntKind.wrap .i64 (s51.1 + 1)), (y78 ++ (bytesI (nth x1 s51.1)))))) else none)) else none) else (some (.inr s51.2)))) big (0, y10)) fun (s46 : (List Int)) => (some (s46, 0)))))))
theorem pack_PutPool_ok {x0 : List Int} {x1 : List (List UInt8)} {r : (List Int) × Int} (h : pack_PutPool x0 x1 = some r) : SC Try.prog 23 [lsv (encI .u8) 1 x0, lsv encT 1 x1] [] (.tup [lsv (encI .u8) 1 r.1, .int .i64 r.2]) [] := by
  refine K.fn (fn := Try.f23) (by kernel_rfl) (by kernel_rfl) (by kernel_rfl) (by kernel_rfl) (by kernel_rfl) (fun F hFn hFH hFD => ?_)
  unfold pack_PutPool at h
  refine K.seq (by kernel_rfl) ?_
  refine K.region (by kernel_rfl) ?_
  refine RJ.seg 2 [0, 1, 4, 5] (L2 := [(0, lsv (encI .u8) 1 x0), (1, lsv encT 1 x1), (4, .nl), (5, .int .i64 0)]) (H2 := []) (by kernel_rfl) ?_
  refine RJ.end (by kernel_rfl) ?_
  refine PJ.next ?_
  refine K.seq (by kernel_rfl) ?_
  refine K.region (by kernel_rfl) ?_
  refine RJ.seg 1 [0, 1, 4, 5, 8] (L2 := [(0, lsv (encI .u8) 1 x0), (1, lsv encT 1 x1), (4, .nl), (5, .int .i64 0), (8, lsv (encI .u8) 1 x0)]) (H2 := []) (by kernel_rfl) ?_
  obtain ⟨y1, hy2, h3⟩ := bindS h
  refine RJ.callG (d := (some 9)) (f := 29) (args := [lsv (encI .u8) 1 x0]) (args0 := [lsv (encI .u8) 1 x0]) (v0 := .vc 0) (v := .vc 0) (tr2 := []) (H0 := []) (H0' := [vecL (encI .u8) 1 5 y1]) (H2 := [vecL (encI .u8) 1 5 y1]) [] (by kernel_rfl) (by kernel_rfl) (by kernel_rfl) (by kernel_rfl) (by decide) (by kernel_rfl) (by kernel_rfl) (by kernel_rfl) (.cons (Le.refl _) .nil) (slices_Clone_ok_o hy2) (by kernel_rfl) (by kernel_rfl) (by kernel_rfl) ?_
  refine RJ.seg 1 [0, 1, 4, 5] (L2 := [(0, .vc 0), (1, lsv encT 1 x1), (4, .nl), (5, .int .i64 0)]) (H2 := [vecL (encI .u8) 1 5 y1]) (by kernel_rfl) ?_
  refine RJ.end (by kernel_rfl) ?_
  refine PJ.next ?_
  refine K.seq (by kernel_rfl) ?_
  refine K.seq (by kernel_rfl) ?_
  refine K.region (by kernel_rfl) ?_
  refine RJ.seg 1 [0, 1, 4, 5, 10] (L2 := [(0, .vc 0), (1, lsv encT 1 x1), (4, .nl), (5, .int .i64 0), (10, lsv encT 1 x1)]) (H2 := [vecL (encI .u8) 1 5 y1]) (by kernel_rfl) ?_
  obtain ⟨y4, hy5, h6⟩ := bindS h3
  refine RJ.call0 (d := (some 11)) (f := 34) (args := [lsv encT 1 x1]) (v := .bool y4) (tr2 := []) (by kernel_rfl) (by kernel_rfl) (.cons (Le.refl _) .nil) (pack_isPool_ok hy5) (by kernel_rfl) ?_
  refine RJ.seg 1 [0, 1, 4, 5, 12] (L2 := [(0, .vc 0), (1, lsv encT 1 x1), (4, .nl), (5, .int .i64 0), (12, .bool (!y4))]) (H2 := [vecL (encI .u8) 1 5 y1]) (by kernel_rfl) ?_
  refine RJ.end (by kernel_rfl) ?_
  refine PJ.next ?_
  refine J.caseB 12 (b := (!y4)) (by kernel_rfl) (fun hb7 => ?_) (fun hb7 => ?_)
  · have h8 := condT hb7 h6
    refine K.condT (by kernel_rfl) ?_
    refine K.seq (by kernel_rfl) ?_
    refine K.region (by kernel_rfl) ?_
    refine RJ.seg 3 [0, 1, 4, 5] (L2 := [(0, .vc 0), (1, lsv encT 1 x1), (4, .vc 0), (5, .int .i64 1)]) (H2 := [vecL (encI .u8) 1 5 y1]) (by kernel_rfl) ?_
    refine RJ.end (by kernel_rfl) ?_
    refine PJ.next ?_
    refine K.ret (by kernel_rfl) ?_
    refine PJ.passRet ?_
    obtain rfl := Option.some.inj h8
    refine PJ.wk (Wk.freeze 0 (n := y1.length) (k := 1) (e := 5) (cs := y1.flatMap (encI .u8)) (by kernel_rfl)) ?_
    exact K.ret0 (.inr rfl) hFn hFH hFD (by kernel_rfl) (by kernel_rfl) (by kernel_rfl)
  · have h9 := condF hb7 h6
    refine K.condF (by kernel_rfl) ?_
    refine K.skip (by kernel_rfl) ?_
    refine PJ.next ?_
    refine K.seq (by kernel_rfl) ?_
    refine K.region (by kernel_rfl) ?_
    refine RJ.seg 4 [0, 1, 4, 5, 14, 17] (L2 := [(0, .vc 0), (1, lsv encT 1 x1), (4, .nl), (5, .int .i64 0), (14, .vc 0), (17, .int .u32 (IntKind.wrap .u32 (x1.length : Int)))]) (H2 := [vecL (encI .u8) 1 5 y1]) (by kernel_rfl) ?_
    obtain ⟨y10, hy11, h12⟩ := bindS h9
    refine RJ.callG (d := (some 18)) (f := 31) (args := [.vc 0, .int .u32 (IntKind.wrap .u32 (x1.length : Int)), .int .i64 2]) (args0 := [.vc 0, .int .u32 (IntKind.wrap .u32 (x1.length : Int)), .int .i64 2]) (v0 := .vc 1) (v := .vc 1) (tr2 := []) (H0 := [vecL (encI .u8) 1 5 y1]) (H0' := [.gone, vecL (encI .u8) 1 5 y10]) (H2 := [.gone, vecL (encI .u8) 1 5 y10]) [0] (by kernel_rfl) (by kernel_rfl) (by kernel_rfl) (by kernel_rfl) (by decide) (by kernel_rfl) (by kernel_rfl) (by kernel_rfl) (.cons (Le.refl _) (.cons (Le.refl _) (.cons (Le.refl _) .nil))) (pack_lay_ok_0o hy11) (by kernel_rfl) (by kernel_rfl) (by kernel_rfl) ?_
    refine RJ.seg 1 [0, 1, 4, 5] (L2 := [(0, .vc 1), (1, lsv encT 1 x1), (4, .nl), (5, .int .i64 0)]) (H2 := [.gone, vecL (encI .u8) 1 5 y10]) (by kernel_rfl) ?_
    refine RJ.end (by kernel_rfl) ?_
    refine PJ.next ?_
    obtain ⟨s46, hy48, h50⟩ := bindS h12
    refine K.cutN (by kernel_rfl) (fun (s46 : (List Int)) => ([(0, .vc 0), (4, .nl), (5, .int .i64 0)], [vecL (encI .u8) 1 5 s46])) s46 ?_ ?_
    · refine K.seq (by kernel_rfl) ?_
      refine K.region (by kernel_rfl) ?_
      refine RJ.seg 3 [0, 4, 5, 19, 20, 21] (L2 := [(0, .vc 1), (4, .nl), (5, .int .i64 0), (19, lsv encT 1 x1), (20, .int .i64 (x1.length : Int)), (21, .int .i64 0)]) (H2 := [.gone, vecL (encI .u8) 1 5 y10]) (by kernel_rfl) ?_
      refine RJ.end (by kernel_rfl) ?_
      refine PJ.next ?_
      refine K.block 0 (by kernel_rfl) ?_
      refine J.wk (Wk.sel (L2 := [(0, .vc 0), (4, .nl), (5, .int .i64 0), (19, lsv encT 1 x1), (20, .int .i64 (x1.length : Int)), (21, .int .i64 0)]) (H2 := [vecL (encI .u8) 1 5 y10]) 0 (by rw [hFH]; rfl) hFD [1] (by kernel_rfl) (by kernel_rfl) (by decide) (by kernel_rfl) (by kernel_rfl) (by kernel_rfl) (by kernel_rfl)) ?_
      refine K.loop (by kernel_rfl) (fun (s51 : Int × (List Int)) => ([(0, .vc 0), (4, .nl), (5, .int .i64 0), (19, lsv encT 1 x1), (20, .int .i64 (x1.length : Int)), (21, .int .i64 s51.1)], [vecL (encI .u8) 1 5 s51.2])) hy48 [0, 4, 5, 19, 20, 21] (by kernel_rfl) (by kernel_rfl) (fun s51 x73 hs72 => ?_)
      refine K.seq (by kernel_rfl) ?_
      refine K.region (by kernel_rfl) ?_
      refine RJ.seg 1 [0, 4, 5, 19, 20, 21, 22] (L2 := [(0, .vc 0), (4, .nl), (5, .int .i64 0), (19, lsv encT 1 x1), (20, .int .i64 (x1.length : Int)), (21, .int .i64 s51.1), (22, .bool ((decide (s51.1 < (x1.length : Int)))))]) (H2 := [vecL (encI .u8) 1 5 s51.2]) (by kernel_rfl) ?_
      refine RJ.end (by kernel_rfl) ?_
      refine PJ.next ?_
      refine K.seq (by kernel_rfl) ?_
      refine J.caseB 22 (b := (decide (s51.1 < (x1.length : Int)))) (by kernel_rfl) (fun hb74 => ?_) (fun hb74 => ?_)
      · have h75 := condT hb74 hs72
        refine K.condT (by kernel_rfl) ?_
        refine K.skip (by kernel_rfl) ?_
        refine PJ.next ?_
        refine K.seq (by kernel_rfl) ?_
        refine K.block 1 (by kernel_rfl) ?_
        refine K.seq (by kernel_rfl) ?_
        refine K.region (by kernel_rfl) ?_
        obtain ⟨hm, h77⟩ := asrt h75
        refine RJ.rel (d := (some 23)) (ef := ⟨.ep (((x1.flatMap encT).drop ((s51.1 : Int).toNat * 1)).take 1), [], []⟩) (ef' := ⟨.ep (encT (nth x1 s51.1)), [], []⟩) (c := inR s51.1 x1.length) (tr2 := []) (H2 := [vecL (encI .u8) 1 5 s51.2]) (by kernel_rfl) hm (fun hc => N.idx encT_len hc) (by kernel_rfl) ?_
        refine RJ.seg 2 [0, 4, 5, 7, 19, 20, 21] (L2 := [(0, .vc 0), (4, .nl), (5, .int .i64 0), (7, .str (nth x1 s51.1)), (19, lsv encT 1 x1), (20, .int .i64 (x1.length : Int)), (21, .int .i64 s51.1)]) (H2 := [vecL (encI .u8) 1 5 s51.2]) (by kernel_rfl) ?_
        refine RJ.end (by kernel_rfl) ?_
        refine PJ.next ?_
        refine K.seq (by kernel_rfl) ?_
        refine K.region (by kernel_rfl) ?_
        refine RJ.seg 4 [0, 4, 5, 7, 19, 20, 21, 25, 28] (L2 := [(0, .vc 0), (4, .nl), (5, .int .i64 0), (7, .str (nth x1 s51.1)), (19, lsv encT 1 x1), (20, .int .i64 (x1.length : Int)), (21, .int .i64 s51.1), (25, .vc 0), (28, .int .u32 ((IntKind.wrap .u32 ((nth x1 s51.1).length : Int))))]) (H2 := [vecL (encI .u8) 1 5 s51.2]) (by kernel_rfl) ?_
        obtain ⟨y78, hy79, h80⟩ := bindS h77
        refine RJ.callG (d := (some 29)) (f := 31) (args := [.vc 0, .int .u32 ((IntKind.wrap .u32 ((nth x1 s51.1).length : Int))), .int .i64 2]) (args0 := [.vc 0, .int .u32 ((IntKind.wrap .u32 ((nth x1 s51.1).length : Int))), .int .i64 2]) (v0 := .vc 1) (v := .vc 1) (tr2 := []) (H0 := [vecL (encI .u8) 1 5 s51.2]) (H0' := [.gone, vecL (encI .u8) 1 5 y78]) (H2 := [.gone, vecL (encI .u8) 1 5 y78]) [0] (by kernel_rfl) (by kernel_rfl) (by kernel_rfl) (by kernel_rfl) (by decide) (by kernel_rfl) (by kernel_rfl) (by kernel_rfl) (.cons (Le.refl _) (.cons (Le.refl _) (.cons (Le.refl _) .nil))) (pack_lay_ok_0o hy79) (by kernel_rfl) (by kernel_rfl) (by kernel_rfl) ?_
        refine RJ.seg 1 [0, 4, 5, 7, 19, 20, 21] (L2 := [(0, .vc 1), (4, .nl), (5, .int .i64 0), (7, .str (nth x1 s51.1)), (19, lsv encT 1 x1), (20, .int .i64 (x1.length : Int)), (21, .int .i64 s51.1)]) (H2 := [.gone, vecL (encI .u8) 1 5 y78]) (by kernel_rfl) ?_
        refine RJ.end (by kernel_rfl) ?_
        refine PJ.next ?_
        refine K.region (by kernel_rfl) ?_
        refine RJ.seg 2 [0, 4, 5, 19, 20, 21, 30, 31] (L2 := [(0, .vc 1), (4, .nl), (5, .int .i64 0), (19, lsv encT 1 x1), (20, .int .i64 (x1.length : Int)), (21, .int .i64 s51.1), (30, .vc 1), (31, .str (nth x1 s51.1))]) (H2 := [.gone, vecL (encI .u8) 1 5 y78]) (by kernel_rfl) ?_
        obtain ⟨hm, h81⟩ := asrt h80
        refine RJ.rel (d := (some 32)) (ef := ⟨.vc 2, [1], [(1, .gone), (2, .vec (y78.length + (nth x1 s51.1).length) 1 5 (y78.flatMap (encI .u8) ++ (nth x1 s51.1).map byteSV))]⟩) (ef' := ⟨.vc 2, [1], [(1, .gone), (2, vecL (encI .u8) 1 5 (y78 ++ (bytesI (nth x1 s51.1))))]⟩) (c := room (y78.length + (nth x1 s51.1).length)) (tr2 := []) (H2 := [.gone, .gone, vecL (encI .u8) 1 5 ((y78 ++ (bytesI (nth x1 s51.1))))]) (by kernel_rfl) hm (fun hc => (by rw [bytes_eq, ← bytesI_len (nth x1 s51.1)]; exact N.app)) (by kernel_rfl) ?_
        refine RJ.seg 1 [0, 4, 5, 19, 20, 21] (L2 := [(0, .vc 2), (4, .nl), (5, .int .i64 0), (19, lsv encT 1 x1), (20, .int .i64 (x1.length : Int)), (21, .int .i64 s51.1)]) (H2 := [.gone, .gone, vecL (encI .u8) 1 5 ((y78 ++ (bytesI (nth x1 s51.1))))]) (by kernel_rfl) ?_
        refine RJ.end (by kernel_rfl) ?_
        refine PJ.blockNormal ?_
        refine PJ.next ?_
        refine K.region (by kernel_rfl) ?_
        refine RJ.seg 2 [0, 4, 5, 19, 20, 21] (L2 := [(0, .vc 2), (4, .nl), (5, .int .i64 0), (19, lsv encT 1 x1), (20, .int .i64 (x1.length : Int)), (21, .int .i64 (IntKind.wrap .i64 (s51.1 + 1)))]) (H2 := [.gone, .gone, vecL (encI .u8) 1 5 ((y78 ++ (bytesI (nth x1 s51.1))))]) (by kernel_rfl) ?_
        refine RJ.end (by kernel_rfl) ?_
        obtain rfl := Option.some.inj h81
        refine PJ.wk (Wk.sel (L2 := [(0, .vc 0), (4, .nl), (5, .int .i64 0), (19, lsv encT 1 x1), (20, .int .i64 (x1.length : Int)), (21, .int .i64 (IntKind.wrap .i64 (s51.1 + 1)))]) (H2 := [vecL (encI .u8) 1 5 ((y78 ++ (bytesI (nth x1 s51.1))))]) 0 (by rw [hFH]; rfl) hFD [2] (by kernel_rfl) (by kernel_rfl) (by decide) (by kernel_rfl) (by kernel_rfl) (by kernel_rfl) (by kernel_rfl)) ?_
        exact PJ.loopNext [0, 4, 5, 19, 20, 21] (by kernel_rfl) (by kernel_rfl)
      · have h76 := condF hb74 hs72
        refine K.condF (by kernel_rfl) ?_
        refine K.exit 0 (by kernel_rfl) ?_
        refine PJ.passExit ?_
        obtain rfl := Option.some.inj h76
        refine PJ.loopOut (fun e => nomatch e) (fun he83 => ?_)
        have h82 := congrArg some he83
        refine PJ.blockOut ?_
        obtain rfl := Option.some.inj h82
        exact PJ.cutN [0, 4, 5] (by kernel_rfl) (by kernel_rfl)
    · refine K.seq (by kernel_rfl) ?_
      refine K.region (by kernel_rfl) ?_
      refine RJ.seg 3 [4, 5] (L2 := [(4, .vc 0), (5, .int .i64 0)]) (H2 := [vecL (encI .u8) 1 5 s46]) (by kernel_rfl) ?_
      refine RJ.end (by kernel_rfl) ?_
      refine PJ.next ?_
      refine K.ret (by kernel_rfl) ?_
      obtain rfl := Option.some.inj h50
      refine PJ.wk (Wk.freeze 0 (n := s46.length) (k := 1) (e := 5) (cs := s46.flatMap (encI .u8)) (by kernel_rfl)) ?_
      exact K.ret0 (.inr rfl) hFn hFH hFD (by kernel_rfl) (by kernel_rfl) (by kernel_rfl)

def exergueref09_Pool (x0 : List (List UInt8)) : Option (Bool) :=
  (bif (decide ((x0.length : Int) > 500)) then (some false) else (Option.bind (loopN (fun (s210 : Int) => (bif (decide (s210 < (x0.length : Int))) then (Option.bind (Option.bind (bif inR s210 x0.length then (bif (decide (((nth x0 s210).length : Int) > 400)) then (some true) else (bif inR s210 x0.length then (Option.bind (exergueref09_At x0 (nth x0 s210)) fun y399 => (some (decide (y399 < s210)))) else none)) else none) fun (s389 : Bool) => (bif s389 then (some (.inr (.inr (.inr false)))) else (some (.inl ())))) (joinX fun (s376 : Unit) => (some (.inl (IntKind.wrap .i64 (s210 + 1)))))) else (some (.inr (.inl ()))))) big 0) (joinX fun (s205 : Unit) => (some true))))
theorem exergueref09_Pool_ok {x0 : List (List UInt8)} {r : Bool} (h : exergueref09_Pool x0 = some r) : SC Try.prog 28 [lsv encT 1 x0] [] (.bool r) [] := by
  refine K.fn (fn := Try.f28) (by kernel_rfl) (by kernel_rfl) (by kernel_rfl) (by kernel_rfl) (by kernel_rfl) (fun F hFn hFH hFD => ?_)
  unfold exergueref09_Pool at h
  refine K.seq (by kernel_rfl) ?_
  refine K.region (by kernel_rfl) ?_
  refine RJ.seg 1 [0, 2] (L2 := [(0, lsv encT 1 x0), (2, .bool false)]) (H2 := []) (by kernel_rfl) ?_
  refine RJ.end (by kernel_rfl) ?_
  refine PJ.next ?_
  refine K.seq (by kernel_rfl) ?_
  refine K.seq (by kernel_rfl) ?_
  refine K.region (by kernel_rfl) ?_
  refine RJ.seg 3 [0, 2, 6] (L2 := [(0, lsv encT 1 x0), (2, .bool false), (6, .bool ((decide ((x0.length : Int) > 500))))]) (H2 := []) (by kernel_rfl) ?_
  refine RJ.end (by kernel_rfl) ?_
  refine PJ.next ?_
  refine J.caseB 6 (b := (decide ((x0.length : Int) > 500))) (by kernel_rfl) (fun hb1 => ?_) (fun hb1 => ?_)
  · have h2 := condT hb1 h
    refine K.condT (by kernel_rfl) ?_
    refine K.seq (by kernel_rfl) ?_
    refine K.region (by kernel_rfl) ?_
    refine RJ.seg 1 [0, 2] (L2 := [(0, lsv encT 1 x0), (2, .bool false)]) (H2 := []) (by kernel_rfl) ?_
    refine RJ.end (by kernel_rfl) ?_
    refine PJ.next ?_
    refine K.ret (by kernel_rfl) ?_
    refine PJ.passRet ?_
    obtain rfl := Option.some.inj h2
    exact K.ret0 (.inr rfl) hFn hFH hFD (by kernel_rfl) (by kernel_rfl) (by kernel_rfl)
  · have h3 := condF hb1 h
    refine K.condF (by kernel_rfl) ?_
    refine K.skip (by kernel_rfl) ?_
    refine PJ.next ?_
    obtain ⟨y206, hy207, h208⟩ := bindS h3
    refine K.cutX (by kernel_rfl) (fun (s205 : Unit) => ([(2, .bool false)], [])) y206 ?_ (fun s205 hs => ?_)
    · refine K.seq (by kernel_rfl) ?_
      refine K.region (by kernel_rfl) ?_
      refine RJ.seg 1 [0, 2, 3] (L2 := [(0, lsv encT 1 x0), (2, .bool false), (3, .int .i64 0)]) (H2 := []) (by kernel_rfl) ?_
      refine RJ.end (by kernel_rfl) ?_
      refine PJ.next ?_
      refine K.block 0 (by kernel_rfl) ?_
      refine K.loop (by kernel_rfl) (fun (s210 : Int) => ([(0, lsv encT 1 x0), (2, .bool false), (3, .int .i64 s210)], [])) hy207 [0, 2, 3] (by kernel_rfl) (by kernel_rfl) (fun s210 x344 hs343 => ?_)
      refine K.seq (by kernel_rfl) ?_
      refine K.seq (by kernel_rfl) ?_
      refine K.region (by kernel_rfl) ?_
      refine RJ.seg 4 [0, 2, 3, 10] (L2 := [(0, lsv encT 1 x0), (2, .bool false), (3, .int .i64 s210), (10, .bool ((decide (s210 < (x0.length : Int)))))]) (H2 := []) (by kernel_rfl) ?_
      refine RJ.end (by kernel_rfl) ?_
      refine PJ.next ?_
      refine J.caseB 10 (b := (decide (s210 < (x0.length : Int)))) (by kernel_rfl) (fun hb345 => ?_) (fun hb345 => ?_)
      · have h346 := condT hb345 hs343
        refine K.condT (by kernel_rfl) ?_
        refine K.skip (by kernel_rfl) ?_
        refine PJ.next ?_
        obtain ⟨y377, hy378, h379⟩ := bindS h346
        refine K.cutX (by kernel_rfl) (fun (s376 : Unit) => ([(0, lsv encT 1 x0), (2, .bool false), (3, .int .i64 s210)], [])) y377 ?_ (fun s376 hs => ?_)
        · refine K.block 1 (by kernel_rfl) ?_
          obtain ⟨s389, hy391, h393⟩ := bindS hy378
          refine K.cutN (by kernel_rfl) (fun (s389 : Bool) => ([(0, lsv encT 1 x0), (2, .bool false), (3, .int .i64 s210), (28, .bool s389)], [])) s389 ?_ ?_
          · refine K.region (by kernel_rfl) ?_
            refine RJ.seg 2 [0, 2, 3, 13, 14] (L2 := [(0, lsv encT 1 x0), (2, .bool false), (3, .int .i64 s210), (13, lsv encT 1 x0), (14, .int .i64 s210)]) (H2 := []) (by kernel_rfl) ?_
            obtain ⟨hm, h394⟩ := asrt hy391
            refine RJ.rel (d := (some 15)) (ef := ⟨.ep (((x0.flatMap encT).drop ((s210 : Int).toNat * 1)).take 1), [], []⟩) (ef' := ⟨.ep (encT (nth x0 s210)), [], []⟩) (c := inR s210 x0.length) (tr2 := []) (H2 := []) (by kernel_rfl) hm (fun hc => N.idx encT_len hc) (by kernel_rfl) ?_
            refine RJ.seg 4 [0, 2, 3, 19] (L2 := [(0, lsv encT 1 x0), (2, .bool false), (3, .int .i64 s210), (19, .bool ((decide (((nth x0 s210).length : Int) > 400))))]) (H2 := []) (by kernel_rfl) ?_
            refine RJ.caseB 19 (b := (decide (((nth x0 s210).length : Int) > 400))) (by kernel_rfl) (fun hb395 => ?_) (fun hb395 => ?_)
            · have h396 := condT hb395 h394
              refine RJ.seg 9 [0, 2, 3, 28] (L2 := [(0, lsv encT 1 x0), (2, .bool false), (3, .int .i64 s210), (28, .bool true)]) (H2 := []) (by kernel_rfl) ?_
              refine RJ.end (by kernel_rfl) ?_
              obtain rfl := Option.some.inj h396
              exact PJ.cutN [0, 2, 3, 28] (by kernel_rfl) (by kernel_rfl)
            · have h397 := condF hb395 h394
              refine RJ.seg 3 [0, 2, 3, 19, 20, 21, 22] (L2 := [(0, lsv encT 1 x0), (2, .bool false), (3, .int .i64 s210), (19, .bool false), (20, lsv encT 1 x0), (21, lsv encT 1 x0), (22, .int .i64 s210)]) (H2 := []) (by kernel_rfl) ?_
              obtain ⟨hm, h398⟩ := asrt h397
              refine RJ.rel (d := (some 23)) (ef := ⟨.ep (((x0.flatMap encT).drop ((s210 : Int).toNat * 1)).take 1), [], []⟩) (ef' := ⟨.ep (encT (nth x0 s210)), [], []⟩) (c := inR s210 x0.length) (tr2 := []) (H2 := []) (by kernel_rfl) hm (fun hc => N.idx encT_len hc) (by kernel_rfl) ?_
              refine RJ.seg 1 [0, 2, 3, 19, 20, 24] (L2 := [(0, lsv encT 1 x0), (2, .bool false), (3, .int .i64 s210), (19, .bool false), (20, lsv encT 1 x0), (24, .str (nth x0 s210))]) (H2 := []) (by kernel_rfl) ?_
              obtain ⟨y399, hy400, h401⟩ := bindS h398
              refine RJ.call0 (d := (some 25)) (f := 27) (args := [lsv encT 1 x0, .str (nth x0 s210)]) (v := .int .i64 y399) (tr2 := []) (by kernel_rfl) (by kernel_rfl) (.cons (Le.refl _) (.cons (Le.refl _) .nil)) (exergueref09_At_ok hy400) (by kernel_rfl) ?_
              refine RJ.seg 3 [0, 2, 3, 28] (L2 := [(0, lsv encT 1 x0), (2, .bool false), (3, .int .i64 s210), (28, .bool (decide (y399 < s210)))]) (H2 := []) (by kernel_rfl) ?_
              refine RJ.end (by kernel_rfl) ?_
              obtain rfl := Option.some.inj h401
              exact PJ.cutN [0, 2, 3, 28] (by kernel_rfl) (by kernel_rfl)
          · refine J.caseB 28 (b := s389) (by kernel_rfl) (fun hb402 => ?_) (fun hb402 => ?_)
            · have h403 := condT hb402 h393
              refine K.condT (by kernel_rfl) ?_
              refine K.seq (by kernel_rfl) ?_
              refine K.region (by kernel_rfl) ?_
              refine RJ.seg 1 [0, 2, 3] (L2 := [(0, lsv encT 1 x0), (2, .bool false), (3, .int .i64 s210)]) (H2 := []) (by kernel_rfl) ?_
              refine RJ.end (by kernel_rfl) ?_
              refine PJ.next ?_
              refine K.ret (by kernel_rfl) ?_
              refine PJ.blockRet ?_
              obtain rfl := Option.some.inj h403
              have h405 := joinX_inr h379
              refine PJ.cutXr (fun e => nomatch e) ?_
              obtain rfl := Option.some.inj h405
              refine PJ.loopOut (fun e => nomatch e) (fun he408 => ?_)
              have h406 := congrArg some he408
              refine PJ.blockRet ?_
              obtain rfl := Option.some.inj h406
              have h407 := joinX_inr h208
              refine PJ.cutXr (fun e => nomatch e) ?_
              obtain rfl := Option.some.inj h407
              exact K.ret0 (.inr rfl) hFn hFH hFD (by kernel_rfl) (by kernel_rfl) (by kernel_rfl)
            · have h404 := condF hb402 h393
              refine K.condF (by kernel_rfl) ?_
              refine K.skip (by kernel_rfl) ?_
              refine PJ.blockNormal ?_
              obtain rfl := Option.some.inj h404
              exact PJ.cutXl [0, 2, 3] (by kernel_rfl) (by kernel_rfl)
        · subst hs
          have h380 := joinX_inl h379
          refine K.region (by kernel_rfl) ?_
          refine RJ.seg 3 [0, 2, 3] (L2 := [(0, lsv encT 1 x0), (2, .bool false), (3, .int .i64 (IntKind.wrap .i64 (s210 + 1)))]) (H2 := []) (by kernel_rfl) ?_
          refine RJ.end (by kernel_rfl) ?_
          obtain rfl := Option.some.inj h380
          exact PJ.loopNext [0, 2, 3] (by kernel_rfl) (by kernel_rfl)
      · have h347 := condF hb345 hs343
        refine K.condF (by kernel_rfl) ?_
        refine K.exit 0 (by kernel_rfl) ?_
        refine PJ.passExit ?_
        obtain rfl := Option.some.inj h347
        refine PJ.loopOut (fun e => nomatch e) (fun he410 => ?_)
        have h409 := congrArg some he410
        refine PJ.blockOut ?_
        obtain rfl := Option.some.inj h409
        exact PJ.cutXl [2] (by kernel_rfl) (by kernel_rfl)
    · subst hs
      have h209 := joinX_inl h208
      refine K.seq (by kernel_rfl) ?_
      refine K.region (by kernel_rfl) ?_
      refine RJ.seg 1 [2] (L2 := [(2, .bool true)]) (H2 := []) (by kernel_rfl) ?_
      refine RJ.end (by kernel_rfl) ?_
      refine PJ.next ?_
      refine K.ret (by kernel_rfl) ?_
      obtain rfl := Option.some.inj h209
      exact K.ret0 (.inr rfl) hFn hFH hFD (by kernel_rfl) (by kernel_rfl) (by kernel_rfl)

end Go.Proofs.Ytdeaonfclkffnaa
