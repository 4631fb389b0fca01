/-
  What the functions of this program come to, as functions of natives, each with the proof that it does. No conditions.
-/
import Derived.Test.YtlabcjijjeeobaaProg
import Derived.Test.YtlabcjijjeeobaaSyV
namespace Go.Proofs.Ytlabcjijjeeobaa
open Go Go.Sy Go.RowKit
set_option linter.unusedVariables false
set_option linter.unusedSimpArgs false
set_option maxRecDepth 100000

structure St36 where
  a0_ : Int
  a1_ : Int
  a2_ : Int
  a3_ : Int
  deriving Inhabited, DecidableEq
def encSt36 (x : St36) : List SV := [.int .u8 x.a0_, .int .u8 x.a1_, .int .u8 x.a2_, .int .u8 x.a3_]
theorem encSt36_len (x : St36) : (encSt36 x).length = 4 := rfl

def crc_Step (x0 : Int) (x1 : Int) : Option (Int) :=
  (Option.bind (loopN (fun (s57 : Int × Int) => (bif (decide (s57.2 < 8)) then (Option.bind (bif (decide ((bits .and .u32 s57.1 1) = 1)) then (some (bits .xor .u32 (Int.fdiv s57.1 2) 3988292384)) else (some (Int.fdiv s57.1 2))) fun (s98 : Int) => (some (.inl (s98, (IntKind.wrap .i64 (s57.2 + 1)))))) else (some (.inr s57.1)))) big ((bits .xor .u32 x0 (IntKind.wrap .u32 x1)), 0)) fun (s52 : Int) => (some s52))
theorem crc_Step_ok {x0 : Int} {x1 : Int} {r : Int} (h : crc_Step x0 x1 = some r) : SC Try.prog 13 [.int .u32 x0, .int .u8 x1] [] (.int .u32 r) [] := by
  refine K.fn (fn := Try.f13) (by kernel_rfl) (by kernel_rfl) (by kernel_rfl) (by kernel_rfl) (by kernel_rfl) (fun F hFn hFH hFD => ?_)
  unfold crc_Step at h
  refine K.seq (by kernel_rfl) ?_
  refine K.region (by kernel_rfl) ?_
  refine RJ.seg 1 [0, 1, 4] (L2 := [(0, .int .u32 x0), (1, .int .u8 x1), (4, .int .u32 0)]) (H2 := []) (by kernel_rfl) ?_
  refine RJ.end (by kernel_rfl) ?_
  refine PJ.next ?_
  refine K.seq (by kernel_rfl) ?_
  refine K.region (by kernel_rfl) ?_
  refine RJ.seg 5 [0, 4] (L2 := [(0, .int .u32 (bits .xor .u32 x0 (IntKind.wrap .u32 x1))), (4, .int .u32 0)]) (H2 := []) (by kernel_rfl) ?_
  refine RJ.end (by kernel_rfl) ?_
  refine PJ.next ?_
  obtain ⟨s52, hy54, h56⟩ := bindS h
  refine K.cutN (by kernel_rfl) (fun (s52 : Int) => ([(0, .int .u32 s52), (4, .int .u32 0)], [])) s52 ?_ ?_
  · refine K.seq (by kernel_rfl) ?_
    refine K.region (by kernel_rfl) ?_
    refine RJ.seg 1 [0, 4, 10] (L2 := [(0, .int .u32 (bits .xor .u32 x0 (IntKind.wrap .u32 x1))), (4, .int .u32 0), (10, .int .i64 0)]) (H2 := []) (by kernel_rfl) ?_
    refine RJ.end (by kernel_rfl) ?_
    refine PJ.next ?_
    refine K.block 0 (by kernel_rfl) ?_
    refine K.loop (by kernel_rfl) (fun (s57 : Int × Int) => ([(0, .int .u32 s57.1), (4, .int .u32 0), (10, .int .i64 s57.2)], [])) hy54 [0, 4, 10] (by kernel_rfl) (by kernel_rfl) (fun s57 x91 hs90 => ?_)
    refine K.seq (by kernel_rfl) ?_
    refine K.region (by kernel_rfl) ?_
    refine RJ.seg 1 [0, 4, 10, 11] (L2 := [(0, .int .u32 s57.1), (4, .int .u32 0), (10, .int .i64 s57.2), (11, .bool (decide (s57.2 < 8)))]) (H2 := []) (by kernel_rfl) ?_
    refine RJ.end (by kernel_rfl) ?_
    refine PJ.next ?_
    refine K.seq (by kernel_rfl) ?_
    refine J.caseB 11 (b := (decide (s57.2 < 8))) (by kernel_rfl) (fun hb92 => ?_) (fun hb92 => ?_)
    · have h93 := condT hb92 hs90
      refine K.condT (by kernel_rfl) ?_
      refine K.skip (by kernel_rfl) ?_
      refine PJ.next ?_
      obtain ⟨s98, hy100, h102⟩ := bindS h93
      refine K.cutN (by kernel_rfl) (fun (s98 : Int) => ([(0, .int .u32 s98), (4, .int .u32 0), (10, .int .i64 s57.2)], [])) s98 ?_ ?_
      · refine K.block 1 (by kernel_rfl) ?_
        refine K.seq (by kernel_rfl) ?_
        refine K.region (by kernel_rfl) ?_
        refine RJ.seg 3 [0, 4, 5, 10] (L2 := [(0, .int .u32 s57.1), (4, .int .u32 0), (5, .int .u32 (bits .and .u32 s57.1 1)), (10, .int .i64 s57.2)]) (H2 := []) (by kernel_rfl) ?_
        refine RJ.end (by kernel_rfl) ?_
        refine PJ.next ?_
        refine K.seq (by kernel_rfl) ?_
        refine K.region (by kernel_rfl) ?_
        refine RJ.seg 3 [0, 4, 5, 10] (L2 := [(0, .int .u32 (Int.fdiv s57.1 2)), (4, .int .u32 0), (5, .int .u32 (bits .and .u32 s57.1 1)), (10, .int .i64 s57.2)]) (H2 := []) (by kernel_rfl) ?_
        refine RJ.end (by kernel_rfl) ?_
        refine PJ.next ?_
        refine K.seq (by kernel_rfl) ?_
        refine K.region (by kernel_rfl) ?_
        refine RJ.seg 2 [0, 4, 10, 17] (L2 := [(0, .int .u32 (Int.fdiv s57.1 2)), (4, .int .u32 0), (10, .int .i64 s57.2), (17, .bool ((decide ((bits .and .u32 s57.1 1) = 1))))]) (H2 := []) (by kernel_rfl) ?_
        refine RJ.end (by kernel_rfl) ?_
        refine PJ.next ?_
        refine J.caseB 17 (b := (decide ((bits .and .u32 s57.1 1) = 1))) (by kernel_rfl) (fun hb103 => ?_) (fun hb103 => ?_)
        · have h104 := condT hb103 hy100
          refine K.condT (by kernel_rfl) ?_
          refine K.region (by kernel_rfl) ?_
          refine RJ.seg 3 [0, 4, 10] (L2 := [(0, .int .u32 (bits .xor .u32 (Int.fdiv s57.1 2) 3988292384)), (4, .int .u32 0), (10, .int .i64 s57.2)]) (H2 := []) (by kernel_rfl) ?_
          refine RJ.end (by kernel_rfl) ?_
          refine PJ.blockNormal ?_
          obtain rfl := Option.some.inj h104
          exact PJ.cutN [0, 4, 10] (by kernel_rfl) (by kernel_rfl)
        · have h105 := condF hb103 hy100
          refine K.condF (by kernel_rfl) ?_
          refine K.skip (by kernel_rfl) ?_
          refine PJ.blockNormal ?_
          obtain rfl := Option.some.inj h105
          exact PJ.cutN [0, 4, 10] (by kernel_rfl) (by kernel_rfl)
      · refine K.region (by kernel_rfl) ?_
        refine RJ.seg 2 [0, 4, 10] (L2 := [(0, .int .u32 s98), (4, .int .u32 0), (10, .int .i64 (IntKind.wrap .i64 (s57.2 + 1)))]) (H2 := []) (by kernel_rfl) ?_
        refine RJ.end (by kernel_rfl) ?_
        obtain rfl := Option.some.inj h102
        exact PJ.loopNext [0, 4, 10] (by kernel_rfl) (by kernel_rfl)
    · have h94 := condF hb92 hs90
      refine K.condF (by kernel_rfl) ?_
      refine K.exit 0 (by kernel_rfl) ?_
      refine PJ.passExit ?_
      obtain rfl := Option.some.inj h94
      refine PJ.loopOut (fun e => nomatch e) (fun he107 => ?_)
      have h106 := congrArg some he107
      refine PJ.blockOut ?_
      obtain rfl := Option.some.inj h106
      exact PJ.cutN [0, 4] (by kernel_rfl) (by kernel_rfl)
  · refine K.seq (by kernel_rfl) ?_
    refine K.region (by kernel_rfl) ?_
    refine RJ.seg 2 [4] (L2 := [(4, .int .u32 s52)]) (H2 := []) (by kernel_rfl) ?_
    refine RJ.end (by kernel_rfl) ?_
    refine PJ.next ?_
    refine K.ret (by kernel_rfl) ?_
    obtain rfl := Option.some.inj h56
    exact K.ret0 (.inr rfl) hFn hFH hFD (by kernel_rfl) (by kernel_rfl) (by kernel_rfl)

def crc_On_1_s0 (x0 : Int) (x1 : Int) : Option (Int) :=
  (Option.bind (crc_Step x1 x0) fun y1 => (some y1))
theorem crc_On_1_s0_ok {x0 : Int} {x1 : Int} {r : Int} (h : crc_On_1_s0 x0 x1 = some r) : SC Try.prog 25 [.int .u8 x0, .ptr 0 0] [.box [.int .u32 x1]] (.tup []) [.box [.int .u32 r]] := by
  refine K.fn (fn := Try.f25) (by kernel_rfl) (by kernel_rfl) (by kernel_rfl) (by kernel_rfl) (by kernel_rfl) (fun F hFn hFH hFD => ?_)
  unfold crc_On_1_s0 at h
  refine K.region (by kernel_rfl) ?_
  refine RJ.seg 2 [1, 3, 4] (L2 := [(1, .ptr 0 0), (3, .int .u32 x1), (4, .int .u8 x0)]) (H2 := [.box [.int .u32 x1]]) (by kernel_rfl) ?_
  obtain ⟨y1, hy2, h3⟩ := bindS h
  refine RJ.call0 (d := (some 5)) (f := 13) (args := [.int .u32 x1, .int .u8 x0]) (v := .int .u32 y1) (tr2 := []) (by kernel_rfl) (by kernel_rfl) (.cons (Le.refl _) (.cons (Le.refl _) .nil)) (crc_Step_ok hy2) (by kernel_rfl) ?_
  refine RJ.seg 1 [] (L2 := []) (H2 := [.box [.int .u32 y1]]) (by kernel_rfl) ?_
  refine RJ.end (by kernel_rfl) ?_
  obtain rfl := Option.some.inj h3
  exact K.retV (H0 := [.box [.int .u32 x1]]) [0] (.inl rfl) hFn hFH hFD (by kernel_rfl) (v1 := .tup []) (by kernel_rfl) (by kernel_rfl) (by kernel_rfl) (by decide) (by kernel_rfl) (by kernel_rfl) (by kernel_rfl) (by kernel_rfl) (by kernel_rfl)

def crc_through_s0 (x0 : List Int) (x1 : Int) : Option (Int) :=
  (loopN (fun (s1 : Int × Int) => (bif (decide (s1.1 < (x0.length : Int))) then (bif inR s1.1 x0.length then (Option.bind (crc_On_1_s0 (nth x0 s1.1) s1.2) fun y26 => (some (.inl ((IntKind.wrap .i64 (s1.1 + 1)), y26)))) else none) else (some (.inr s1.2)))) big (0, x1))
theorem crc_through_s0_ok {x0 : List Int} {x1 : Int} {r : Int} (h : crc_through_s0 x0 x1 = some r) : SC Try.prog 24 [lsv (encI .u8) 1 x0, .fn (.func 25) [] [.ptr 0 0]] [.box [.int .u32 x1]] (.tup []) [.box [.int .u32 r]] := by
  refine K.fn (fn := Try.f24) (by kernel_rfl) (by kernel_rfl) (by kernel_rfl) (by kernel_rfl) (by kernel_rfl) (fun F hFn hFH hFD => ?_)
  unfold crc_through_s0 at h
  refine K.seq (by kernel_rfl) ?_
  refine K.region (by kernel_rfl) ?_
  refine RJ.seg 3 [1, 6, 7, 8] (L2 := [(1, .fn (.func 25) [] [.ptr 0 0]), (6, lsv (encI .u8) 1 x0), (7, .int .i64 (x0.length : Int)), (8, .int .i64 0)]) (H2 := [.box [.int .u32 x1]]) (by kernel_rfl) ?_
  refine RJ.end (by kernel_rfl) ?_
  refine PJ.next ?_
  refine K.block 0 (by kernel_rfl) ?_
  refine K.loop (by kernel_rfl) (fun (s1 : Int × Int) => ([(1, .fn (.func 25) [] [.ptr 0 0]), (6, lsv (encI .u8) 1 x0), (7, .int .i64 (x0.length : Int)), (8, .int .i64 s1.1)], [.box [.int .u32 s1.2]])) h [1, 6, 7, 8] (by kernel_rfl) (by kernel_rfl) (fun s1 x21 hs20 => ?_)
  refine K.seq (by kernel_rfl) ?_
  refine K.region (by kernel_rfl) ?_
  refine RJ.seg 1 [1, 6, 7, 8, 9] (L2 := [(1, .fn (.func 25) [] [.ptr 0 0]), (6, lsv (encI .u8) 1 x0), (7, .int .i64 (x0.length : Int)), (8, .int .i64 s1.1), (9, .bool ((decide (s1.1 < (x0.length : Int)))))]) (H2 := [.box [.int .u32 s1.2]]) (by kernel_rfl) ?_
  refine RJ.end (by kernel_rfl) ?_
  refine PJ.next ?_
  refine K.seq (by kernel_rfl) ?_
  refine J.caseB 9 (b := (decide (s1.1 < (x0.length : Int)))) (by kernel_rfl) (fun hb22 => ?_) (fun hb22 => ?_)
  · have h23 := condT hb22 hs20
    refine K.condT (by kernel_rfl) ?_
    refine K.skip (by kernel_rfl) ?_
    refine PJ.next ?_
    refine K.seq (by kernel_rfl) ?_
    refine K.block 1 (by kernel_rfl) ?_
    refine K.seq (by kernel_rfl) ?_
    refine K.region (by kernel_rfl) ?_
    obtain ⟨hm, h25⟩ := asrt h23
    refine RJ.rel (d := (some 10)) (ef := ⟨.ep (((x0.flatMap (encI .u8)).drop ((s1.1 : Int).toNat * 1)).take 1), [], []⟩) (ef' := ⟨.ep ((encI .u8) (nth x0 s1.1)), [], []⟩) (c := inR s1.1 x0.length) (tr2 := []) (H2 := [.box [.int .u32 s1.2]]) (by kernel_rfl) hm (fun hc => N.idx (encI_len .u8) hc) (by kernel_rfl) ?_
    refine RJ.seg 2 [1, 5, 6, 7, 8] (L2 := [(1, .fn (.func 25) [] [.ptr 0 0]), (5, .int .u8 (nth x0 s1.1)), (6, lsv (encI .u8) 1 x0), (7, .int .i64 (x0.length : Int)), (8, .int .i64 s1.1)]) (H2 := [.box [.int .u32 s1.2]]) (by kernel_rfl) ?_
    refine RJ.end (by kernel_rfl) ?_
    refine PJ.next ?_
    refine K.region (by kernel_rfl) ?_
    refine RJ.seg 2 [1, 6, 7, 8, 12, 13] (L2 := [(1, .fn (.func 25) [] [.ptr 0 0]), (6, lsv (encI .u8) 1 x0), (7, .int .i64 (x0.length : Int)), (8, .int .i64 s1.1), (12, .fn (.func 25) [] [.ptr 0 0]), (13, .int .u8 (nth x0 s1.1))]) (H2 := [.box [.int .u32 s1.2]]) (by kernel_rfl) ?_
    obtain ⟨y26, hy27, h28⟩ := bindS h25
    refine RJ.callG (d := (some 14)) (f := 25) (args := [.int .u8 (nth x0 s1.1), .ptr 0 0]) (args0 := [.int .u8 (nth x0 s1.1), .ptr 0 0]) (v0 := .tup []) (v := .tup []) (tr2 := []) (H0 := [.box [.int .u32 s1.2]]) (H0' := [.box [.int .u32 y26]]) (H2 := [.box [.int .u32 y26]]) [0] (by kernel_rfl) (by kernel_rfl) (by kernel_rfl) (by kernel_rfl) (by decide) (by kernel_rfl) (by kernel_rfl) (by kernel_rfl) (.cons (Le.refl _) (.cons (Le.refl _) .nil)) (crc_On_1_s0_ok hy27) (by kernel_rfl) (by kernel_rfl) (by kernel_rfl) ?_
    refine RJ.end (by kernel_rfl) ?_
    refine PJ.blockNormal ?_
    refine PJ.next ?_
    refine K.region (by kernel_rfl) ?_
    refine RJ.seg 2 [1, 6, 7, 8] (L2 := [(1, .fn (.func 25) [] [.ptr 0 0]), (6, lsv (encI .u8) 1 x0), (7, .int .i64 (x0.length : Int)), (8, .int .i64 (IntKind.wrap .i64 (s1.1 + 1)))]) (H2 := [.box [.int .u32 y26]]) (by kernel_rfl) ?_
    refine RJ.end (by kernel_rfl) ?_
    obtain rfl := Option.some.inj h28
    exact PJ.loopNext [1, 6, 7, 8] (by kernel_rfl) (by kernel_rfl)
  · have h24 := condF hb22 hs20
    refine K.condF (by kernel_rfl) ?_
    refine K.exit 0 (by kernel_rfl) ?_
    refine PJ.passExit ?_
    obtain rfl := Option.some.inj h24
    refine PJ.loopOut (fun e => nomatch e) (fun he30 => ?_)
    have h29 := congrArg some he30
    refine PJ.blockOut ?_
    obtain rfl := Option.some.inj h29
    exact K.retV (H0 := [.box [.int .u32 x1]]) [0] (.inl rfl) hFn hFH hFD (by kernel_rfl) (v1 := .tup []) (by kernel_rfl) (by kernel_rfl) (by kernel_rfl) (by decide) (by kernel_rfl) (by kernel_rfl) (by kernel_rfl) (by kernel_rfl) (by kernel_rfl)

def crc_On (x0 : Int) (x1 : List Int) : Option (Int) :=
  (Option.bind (crc_through_s0 x1 (bits .xor .u32 (4294967295) x0)) fun y1 => (some (bits .xor .u32 (4294967295) y1)))
theorem crc_On_ok {x0 : Int} {x1 : List Int} {r : Int} (h : crc_On x0 x1 = some r) : SC Try.prog 15 [.int .u32 x0, lsv (encI .u8) 1 x1] [] (.int .u32 r) [] := by
  refine K.fn (fn := Try.f15) (by kernel_rfl) (by kernel_rfl) (by kernel_rfl) (by kernel_rfl) (by kernel_rfl) (fun F hFn hFH hFD => ?_)
  unfold crc_On at h
  refine K.seq (by kernel_rfl) ?_
  refine K.region (by kernel_rfl) ?_
  refine RJ.seg 2 [1, 2, 4] (L2 := [(1, lsv (encI .u8) 1 x1), (2, .ptr 0 0), (4, .int .u32 0)]) (H2 := [.box [.int .u32 x0]]) (by kernel_rfl) ?_
  refine RJ.end (by kernel_rfl) ?_
  refine PJ.next ?_
  refine K.seq (by kernel_rfl) ?_
  refine K.region (by kernel_rfl) ?_
  refine RJ.seg 3 [1, 2, 4] (L2 := [(1, lsv (encI .u8) 1 x1), (2, .ptr 0 0), (4, .int .u32 0)]) (H2 := [.box [.int .u32 (bits .xor .u32 (4294967295) x0)]]) (by kernel_rfl) ?_
  refine RJ.end (by kernel_rfl) ?_
  refine PJ.next ?_
  refine K.seq (by kernel_rfl) ?_
  refine K.region (by kernel_rfl) ?_
  refine RJ.seg 2 [2, 4, 7, 8] (L2 := [(2, .ptr 0 0), (4, .int .u32 0), (7, lsv (encI .u8) 1 x1), (8, .fn (.func 25) [] [.ptr 0 0])]) (H2 := [.box [.int .u32 (bits .xor .u32 (4294967295) x0)]]) (by kernel_rfl) ?_
  obtain ⟨y1, hy2, h3⟩ := bindS h
  refine RJ.callG (d := (some 9)) (f := 24) (args := [lsv (encI .u8) 1 x1, .fn (.func 25) [] [.ptr 0 0]]) (args0 := [lsv (encI .u8) 1 x1, .fn (.func 25) [] [.ptr 0 0]]) (v0 := .tup []) (v := .tup []) (tr2 := []) (H0 := [.box [.int .u32 (bits .xor .u32 (4294967295) x0)]]) (H0' := [.box [.int .u32 y1]]) (H2 := [.box [.int .u32 y1]]) [0] (by kernel_rfl) (by kernel_rfl) (by kernel_rfl) (by kernel_rfl) (by decide) (by kernel_rfl) (by kernel_rfl) (by kernel_rfl) (.cons (Le.refl _) (.cons (Le.refl _) .nil)) (crc_through_s0_ok hy2) (by kernel_rfl) (by kernel_rfl) (by kernel_rfl) ?_
  refine RJ.end (by kernel_rfl) ?_
  refine PJ.next ?_
  refine K.seq (by kernel_rfl) ?_
  refine K.region (by kernel_rfl) ?_
  refine RJ.seg 3 [4] (L2 := [(4, .int .u32 (bits .xor .u32 (4294967295) y1))]) (H2 := [.box [.int .u32 y1]]) (by kernel_rfl) ?_
  refine RJ.end (by kernel_rfl) ?_
  refine PJ.next ?_
  refine K.ret (by kernel_rfl) ?_
  obtain rfl := Option.some.inj h3
  exact K.ret0 (.inr rfl) hFn hFH hFD (by kernel_rfl) (by kernel_rfl) (by kernel_rfl)

def crc_Of (x0 : List Int) : Option (Int) :=
  (Option.bind (crc_On 0 x0) fun y1 => (some y1))
theorem crc_Of_ok {x0 : List Int} {r : Int} (h : crc_Of x0 = some r) : SC Try.prog 17 [lsv (encI .u8) 1 x0] [] (.int .u32 r) [] := by
  refine K.fn (fn := Try.f17) (by kernel_rfl) (by kernel_rfl) (by kernel_rfl) (by kernel_rfl) (by kernel_rfl) (fun F hFn hFH hFD => ?_)
  unfold crc_Of at h
  refine K.seq (by kernel_rfl) ?_
  refine K.region (by kernel_rfl) ?_
  refine RJ.seg 1 [0, 2] (L2 := [(0, lsv (encI .u8) 1 x0), (2, .int .u32 0)]) (H2 := []) (by kernel_rfl) ?_
  refine RJ.end (by kernel_rfl) ?_
  refine PJ.next ?_
  refine K.seq (by kernel_rfl) ?_
  refine K.region (by kernel_rfl) ?_
  refine RJ.seg 1 [2, 3] (L2 := [(2, .int .u32 0), (3, lsv (encI .u8) 1 x0)]) (H2 := []) (by kernel_rfl) ?_
  obtain ⟨y1, hy2, h3⟩ := bindS h
  refine RJ.call0 (d := (some 4)) (f := 15) (args := [.int .u32 0, lsv (encI .u8) 1 x0]) (v := .int .u32 y1) (tr2 := []) (by kernel_rfl) (by kernel_rfl) (.cons (Le.refl _) (.cons (Le.refl _) .nil)) (crc_On_ok hy2) (by kernel_rfl) ?_
  refine RJ.seg 1 [2] (L2 := [(2, .int .u32 y1)]) (H2 := []) (by kernel_rfl) ?_
  refine RJ.end (by kernel_rfl) ?_
  refine PJ.next ?_
  refine K.ret (by kernel_rfl) ?_
  obtain rfl := Option.some.inj h3
  exact K.ret0 (.inr rfl) hFn hFH hFD (by kernel_rfl) (by kernel_rfl) (by kernel_rfl)

def crc_tail (x0 : List Int) : Option (St36) :=
  (Option.bind (crc_Of x0) fun y1 => (some (⟨(IntKind.wrap .u8 y1), (IntKind.wrap .u8 (Int.fdiv y1 256)), (IntKind.wrap .u8 (Int.fdiv y1 65536)), (IntKind.wrap .u8 (Int.fdiv y1 16777216))⟩ : St36)))
theorem crc_tail_ok {x0 : List Int} {r : St36} (h : crc_tail x0 = some r) : SC Try.prog 22 [lsv (encI .u8) 1 x0] [] (.agg [.int .u8 r.a0_, .int .u8 r.a1_, .int .u8 r.a2_, .int .u8 r.a3_]) [] := by
  refine K.fn (fn := Try.f22) (by kernel_rfl) (by kernel_rfl) (by kernel_rfl) (by kernel_rfl) (by kernel_rfl) (fun F hFn hFH hFD => ?_)
  unfold crc_tail at h
  refine K.seq (by kernel_rfl) ?_
  refine K.region (by kernel_rfl) ?_
  refine RJ.seg 1 [0, 2] (L2 := [(0, lsv (encI .u8) 1 x0), (2, .ptr 0 0)]) (H2 := [.box [.int .u8 0, .int .u8 0, .int .u8 0, .int .u8 0]]) (by kernel_rfl) ?_
  refine RJ.end (by kernel_rfl) ?_
  refine PJ.next ?_
  refine K.seq (by kernel_rfl) ?_
  refine K.region (by kernel_rfl) ?_
  refine RJ.seg 1 [2, 4] (L2 := [(2, .ptr 0 0), (4, lsv (encI .u8) 1 x0)]) (H2 := [.box [.int .u8 0, .int .u8 0, .int .u8 0, .int .u8 0]]) (by kernel_rfl) ?_
  obtain ⟨y1, hy2, h3⟩ := bindS h
  refine RJ.call0 (d := (some 5)) (f := 17) (args := [lsv (encI .u8) 1 x0]) (v := .int .u32 y1) (tr2 := []) (by kernel_rfl) (by kernel_rfl) (.cons (Le.refl _) .nil) (crc_Of_ok hy2) (by kernel_rfl) ?_
  refine RJ.seg 1 [2, 3] (L2 := [(2, .ptr 0 0), (3, .int .u32 y1)]) (H2 := [.box [.int .u8 0, .int .u8 0, .int .u8 0, .int .u8 0]]) (by kernel_rfl) ?_
  refine RJ.end (by kernel_rfl) ?_
  refine PJ.next ?_
  refine K.seq (by kernel_rfl) ?_
  refine K.region (by kernel_rfl) ?_
  refine RJ.seg 13 [2] (L2 := [(2, .ptr 0 0)]) (H2 := [.box [.int .u8 (IntKind.wrap .u8 y1), .int .u8 (IntKind.wrap .u8 (Int.fdiv y1 256)), .int .u8 (IntKind.wrap .u8 (Int.fdiv y1 65536)), .int .u8 (IntKind.wrap .u8 (Int.fdiv y1 16777216))]]) (by kernel_rfl) ?_
  refine RJ.end (by kernel_rfl) ?_
  refine PJ.next ?_
  refine K.ret (by kernel_rfl) ?_
  obtain rfl := Option.some.inj h3
  exact K.ret0 (.inr rfl) hFn hFH hFD (by kernel_rfl) (by kernel_rfl) (by kernel_rfl)

def slices_Clone (x0 : List Int) : Option (List Int) :=
  (bif (Nat.beq x0.length 0) then agree (some ([] : List Int)) (bif roomB x0.length then (some x0) else none) else (bif roomB x0.length then (some x0) else none))
theorem slices_Clone_ok_o {x0 : List Int} {r : List Int} (h : slices_Clone x0 = some r) : SC Try.prog 23 [lsv (encI .u8) 1 x0] [] (.vc 0) [vecL (encI .u8) 1 5 r] := by
  refine K.fn (fn := Try.f23) (by kernel_rfl) (by kernel_rfl) (by kernel_rfl) (by kernel_rfl) (by kernel_rfl) (fun F hFn hFH hFD => ?_)
  unfold slices_Clone at h
  refine K.seq (by kernel_rfl) ?_
  refine K.region (by kernel_rfl) ?_
  refine RJ.seg 1 [0, 2] (L2 := [(0, lsv (encI .u8) 1 x0), (2, .nl)]) (H2 := []) (by kernel_rfl) ?_
  refine RJ.end (by kernel_rfl) ?_
  refine PJ.next ?_
  refine K.seq (by kernel_rfl) ?_
  refine K.seq (by kernel_rfl) ?_
  refine K.region (by kernel_rfl) ?_
  refine RJ.seg 1 [0, 2, 3] (L2 := [(0, lsv (encI .u8) 1 x0), (2, .nl), (3, lsv (encI .u8) 1 x0)]) (H2 := []) (by kernel_rfl) ?_
  refine RJ.isNil (d := 4) (n := x0.length) (eq := true) (by kernel_rfl) (fun b hb3 => ?_)
  cases b
  · have h2 := agreeF h
    refine RJ.end (by kernel_rfl) ?_
    refine PJ.next ?_
    refine K.condF (by kernel_rfl) ?_
    refine K.skip (by kernel_rfl) ?_
    refine PJ.next ?_
    refine K.seq (by kernel_rfl) ?_
    refine K.region (by kernel_rfl) ?_
    refine RJ.seg 2 [2, 5, 6] (L2 := [(2, .nl), (5, .nl), (6, lsv (encI .u8) 1 x0)]) (H2 := []) (by kernel_rfl) ?_
    obtain ⟨hm, h4⟩ := asrt h2
    refine RJ.rel (d := (some 7)) (ef := ⟨.vc 0, [], [(0, .vec x0.length 1 5 (x0.flatMap (encI .u8)))]⟩) (ef' := ⟨.vc 0, [], [(0, .vec x0.length 1 5 (x0.flatMap (encI .u8)))]⟩) (c := roomB x0.length) (tr2 := []) (H2 := [vecL (encI .u8) 1 5 x0]) (by kernel_rfl) hm (fun hc => rfl) (by kernel_rfl) ?_
    refine RJ.seg 1 [2] (L2 := [(2, .vc 0)]) (H2 := [vecL (encI .u8) 1 5 x0]) (by kernel_rfl) ?_
    refine RJ.end (by kernel_rfl) ?_
    refine PJ.next ?_
    refine K.ret (by kernel_rfl) ?_
    obtain rfl := Option.some.inj h4
    exact K.retV (H0 := []) [0] (.inr rfl) hFn hFH hFD (by kernel_rfl) (v1 := .vc 0) (by kernel_rfl) (by kernel_rfl) (by kernel_rfl) (by decide) (by kernel_rfl) (by kernel_rfl) (by kernel_rfl) (by kernel_rfl) (by kernel_rfl)
  · have h1 := agreeT (by rw [hb3 rfl]; rfl) h
    refine RJ.end (by kernel_rfl) ?_
    refine PJ.next ?_
    refine K.condT (by kernel_rfl) ?_
    refine K.seq (by kernel_rfl) ?_
    refine K.region (by kernel_rfl) ?_
    refine RJ.seg 1 [0, 2] (L2 := [(0, lsv (encI .u8) 1 x0), (2, .nl)]) (H2 := []) (by kernel_rfl) ?_
    refine RJ.end (by kernel_rfl) ?_
    refine PJ.next ?_
    refine K.ret (by kernel_rfl) ?_
    refine PJ.passRet ?_
    obtain rfl := Option.some.inj h1
    refine PJ.wk (Wk.viv 2 1 5 (by kernel_rfl)) ?_
    exact K.retV (H0 := []) [0] (.inr rfl) hFn hFH hFD (by kernel_rfl) (v1 := .vc 0) (by kernel_rfl) (by kernel_rfl) (by kernel_rfl) (by decide) (by kernel_rfl) (by kernel_rfl) (by kernel_rfl) (by kernel_rfl) (by kernel_rfl)

def crc_Put (x0 : List Int) : Option (List Int) :=
  (Option.bind (crc_tail x0) fun y1 => (Option.bind (slices_Clone x0) fun y4 => (bif roomB (y4.length + ([y1.a0_, y1.a1_, y1.a2_, y1.a3_] : List Int).length) then (some (y4 ++ ([y1.a0_, y1.a1_, y1.a2_, y1.a3_] : List Int))) else none)))
theorem crc_Put_ok_o {x0 : List Int} {r : List Int} (h : crc_Put x0 = some r) : SC Try.prog 20 [lsv (encI .u8) 1 x0] [] (.vc 0) [vecL (encI .u8) 1 5 r] := by
  refine K.fn (fn := Try.f20) (by kernel_rfl) (by kernel_rfl) (by kernel_rfl) (by kernel_rfl) (by kernel_rfl) (fun F hFn hFH hFD => ?_)
  unfold crc_Put at h
  refine K.seq (by kernel_rfl) ?_
  refine K.region (by kernel_rfl) ?_
  refine RJ.seg 1 [0, 2] (L2 := [(0, lsv (encI .u8) 1 x0), (2, .nl)]) (H2 := []) (by kernel_rfl) ?_
  refine RJ.end (by kernel_rfl) ?_
  refine PJ.next ?_
  refine K.seq (by kernel_rfl) ?_
  refine K.region (by kernel_rfl) ?_
  refine RJ.seg 1 [0, 2, 4] (L2 := [(0, lsv (encI .u8) 1 x0), (2, .nl), (4, lsv (encI .u8) 1 x0)]) (H2 := []) (by kernel_rfl) ?_
  obtain ⟨y1, hy2, h3⟩ := bindS h
  refine RJ.call0 (d := (some 5)) (f := 22) (args := [lsv (encI .u8) 1 x0]) (v := .agg [.int .u8 y1.a0_, .int .u8 y1.a1_, .int .u8 y1.a2_, .int .u8 y1.a3_]) (tr2 := []) (by kernel_rfl) (by kernel_rfl) (.cons (Le.refl _) .nil) (crc_tail_ok hy2) (by kernel_rfl) ?_
  refine RJ.seg 2 [0, 2, 3] (L2 := [(0, lsv (encI .u8) 1 x0), (2, .nl), (3, .ptr 0 0)]) (H2 := [.box [.int .u8 y1.a0_, .int .u8 y1.a1_, .int .u8 y1.a2_, .int .u8 y1.a3_]]) (by kernel_rfl) ?_
  refine RJ.end (by kernel_rfl) ?_
  refine PJ.next ?_
  refine K.seq (by kernel_rfl) ?_
  refine J.keep [0, 2, 3] (L2 := [(0, lsv (encI .u8) 1 x0), (2, .nl), (3, .ptr 0 0)]) (by kernel_rfl) ?_
  refine K.draw (by kernel_rfl) (by kernel_rfl) (by kernel_rfl) (H2 := [.box [.int .u8 y1.a0_, .int .u8 y1.a1_, .int .u8 y1.a2_, .int .u8 y1.a3_], .res, .res]) (by kernel_rfl) (n := 1) (by kernel_rfl) ?_
  refine RJ.segD 1 (tr2 := [([], [])]) (L2 := [(6, lsv (encI .u8) 1 x0), (0, lsv (encI .u8) 1 x0), (2, .nl), (3, .ptr 0 0)]) (H2 := [.box [.int .u8 y1.a0_, .int .u8 y1.a1_, .int .u8 y1.a2_, .int .u8 y1.a3_], .res, .res]) (by kernel_rfl) ?_
  obtain ⟨y4, hy5, h6⟩ := bindS h3
  refine RJ.callM (d := (some 7)) (f := 23) (args := [lsv (encI .u8) 1 x0]) (v0 := .vc 0) (v := .vc 1) (n := y4.length) (k := 1) (e := 5) (cs := y4.flatMap (encI .u8)) (tr2 := [([], []), ([], [2, 3, 2, 3])]) (H2 := [.box [.int .u8 y1.a0_, .int .u8 y1.a1_, .int .u8 y1.a2_, .int .u8 y1.a3_], vecL (encI .u8) 1 5 y4, .res]) 1 (by kernel_rfl) (by kernel_rfl) (by kernel_rfl) (by kernel_rfl) (.cons (Le.refl _) .nil) (slices_Clone_ok_o hy5) (by kernel_rfl) (by kernel_rfl) ?_
  refine RJ.segD 1 (tr2 := [([], []), ([], [2, 3, 2, 3]), ([], [])]) (L2 := [(8, .sl 0 0 4 1), (7, .vc 1), (6, lsv (encI .u8) 1 x0), (0, lsv (encI .u8) 1 x0), (2, .nl), (3, .ptr 0 0)]) (H2 := [.box [.int .u8 y1.a0_, .int .u8 y1.a1_, .int .u8 y1.a2_, .int .u8 y1.a3_], vecL (encI .u8) 1 5 y4, .res]) (by kernel_rfl) ?_
  obtain ⟨hm, h7⟩ := asrt h6
  refine RJ.rel (d := (some 9)) (ef := ⟨.vc 2, [1, 0], [(1, .gone), (2, .vec (y4.length + ([y1.a0_, y1.a1_, y1.a2_, y1.a3_] : List Int).length) 1 5 (y4.flatMap (encI .u8) ++ ([y1.a0_, y1.a1_, y1.a2_, y1.a3_] : List Int).flatMap (encI .u8)))]⟩) (ef' := ⟨.vc 2, [1, 0], [(1, .gone), (2, vecL (encI .u8) 1 5 (y4 ++ ([y1.a0_, y1.a1_, y1.a2_, y1.a3_] : List Int)))]⟩) (c := roomB (y4.length + ([y1.a0_, y1.a1_, y1.a2_, y1.a3_] : List Int).length)) (tr2 := [([], []), ([], [2, 3, 2, 3]), ([], []), ([2, 3, 0, 1], [2, 3, 4, 5, 4, 5])]) (H2 := [.box [.int .u8 y1.a0_, .int .u8 y1.a1_, .int .u8 y1.a2_, .int .u8 y1.a3_], .gone, vecL (encI .u8) 1 5 (y4 ++ ([y1.a0_, y1.a1_, y1.a2_, y1.a3_] : List Int))]) (by kernel_rfl) hm (fun hc => N.app) (by kernel_rfl) ?_
  refine RJ.segD 1 (tr2 := [([], []), ([], [2, 3, 2, 3]), ([], []), ([2, 3, 0, 1], [2, 3, 4, 5, 4, 5]), ([], [])]) (L2 := [(2, .vc 2), (9, .vc 2), (8, .sl 0 0 4 1), (7, .vc 1), (6, lsv (encI .u8) 1 x0), (0, lsv (encI .u8) 1 x0), (2, .nl), (3, .ptr 0 0)]) (H2 := [.box [.int .u8 y1.a0_, .int .u8 y1.a1_, .int .u8 y1.a2_, .int .u8 y1.a3_], .gone, vecL (encI .u8) 1 5 (y4 ++ ([y1.a0_, y1.a1_, y1.a2_, y1.a3_] : List Int))]) (by kernel_rfl) ?_
  refine RJ.end (by kernel_rfl) ?_
  refine PJ.next ?_
  refine K.ret (by kernel_rfl) ?_
  obtain rfl := Option.some.inj h7
  exact K.retV (H0 := []) [2] (.inr rfl) hFn hFH hFD (by kernel_rfl) (v1 := .vc 2) (by kernel_rfl) (by kernel_rfl) (by kernel_rfl) (by decide) (by kernel_rfl) (by kernel_rfl) (by kernel_rfl) (by kernel_rfl) (by kernel_rfl)

def crc_Cut (x0 : List Int) : Option ((List Int) × Int) :=
  (bif (decide (((IntKind.wrap .i64 ((x0.length : Int) - 4))) < 0)) then (some (([] : List Int), 2)) else (bif inS ((IntKind.wrap .i64 ((x0.length : Int) - 4))) (x0.length : Int) x0.length then (bif Nat.ble 4 ((cut x0 ((IntKind.wrap .i64 ((x0.length : Int) - 4))) (x0.length : Int))).length then (bif inS 0 ((IntKind.wrap .i64 ((x0.length : Int) - 4))) x0.length then (Option.bind (crc_tail ((cut x0 0 ((IntKind.wrap .i64 ((x0.length : Int) - 4)))))) fun y7 => (bif (!((decide (((nth ((cut x0 ((IntKind.wrap .i64 ((x0.length : Int) - 4))) (x0.length : Int))) 0)) = y7.a0_)) && ((decide (((nth ((cut x0 ((IntKind.wrap .i64 ((x0.length : Int) - 4))) (x0.length : Int))) 1)) = y7.a1_)) && ((decide (((nth ((cut x0 ((IntKind.wrap .i64 ((x0.length : Int) - 4))) (x0.length : Int))) 2)) = y7.a2_)) && ((decide (((nth ((cut x0 ((IntKind.wrap .i64 ((x0.length : Int) - 4))) (x0.length : Int))) 3)) = y7.a3_)) && true))))) then (some (([] : List Int), 6)) else (bif inS 0 ((IntKind.wrap .i64 ((x0.length : Int) - 4))) x0.length then (Option.bind (slices_Clone ((cut x0 0 ((IntKind.wrap .i64 ((x0.length : Int) - 4)))))) fun y14 => (some (y14, 0))) else none))) else none) else none) else none))
theorem crc_Cut_ok {x0 : List Int} {r : (List Int) × Int} (h : crc_Cut x0 = some r) : SC Try.prog 11 [lsv (encI .u8) 1 x0] [] (.tup [lsv (encI .u8) 1 r.1, .int .i64 r.2]) [] := by
  refine K.fn (fn := Try.f11) (by kernel_rfl) (by kernel_rfl) (by kernel_rfl) (by kernel_rfl) (by kernel_rfl) (fun F hFn hFH hFD => ?_)
  unfold crc_Cut at h
  refine K.seq (by kernel_rfl) ?_
  refine K.region (by kernel_rfl) ?_
  refine RJ.seg 2 [0, 2, 3] (L2 := [(0, lsv (encI .u8) 1 x0), (2, .nl), (3, .int .i64 0)]) (H2 := []) (by kernel_rfl) ?_
  refine RJ.end (by kernel_rfl) ?_
  refine PJ.next ?_
  refine K.seq (by kernel_rfl) ?_
  refine K.region (by kernel_rfl) ?_
  refine RJ.seg 4 [0, 2, 3, 4] (L2 := [(0, lsv (encI .u8) 1 x0), (2, .nl), (3, .int .i64 0), (4, .int .i64 ((IntKind.wrap .i64 ((x0.length : Int) - 4))))]) (H2 := []) (by kernel_rfl) ?_
  refine RJ.end (by kernel_rfl) ?_
  refine PJ.next ?_
  refine K.seq (by kernel_rfl) ?_
  refine K.seq (by kernel_rfl) ?_
  refine K.region (by kernel_rfl) ?_
  refine RJ.seg 2 [0, 2, 3, 4, 10] (L2 := [(0, lsv (encI .u8) 1 x0), (2, .nl), (3, .int .i64 0), (4, .int .i64 ((IntKind.wrap .i64 ((x0.length : Int) - 4)))), (10, .bool ((decide (((IntKind.wrap .i64 ((x0.length : Int) - 4))) < 0))))]) (H2 := []) (by kernel_rfl) ?_
  refine RJ.end (by kernel_rfl) ?_
  refine PJ.next ?_
  refine J.caseB 10 (b := (decide (((IntKind.wrap .i64 ((x0.length : Int) - 4))) < 0))) (by kernel_rfl) (fun hb1 => ?_) (fun hb1 => ?_)
  · have h2 := condT hb1 h
    refine K.condT (by kernel_rfl) ?_
    refine K.seq (by kernel_rfl) ?_
    refine K.region (by kernel_rfl) ?_
    refine RJ.seg 2 [0, 2, 3, 4] (L2 := [(0, lsv (encI .u8) 1 x0), (2, .nl), (3, .int .i64 2), (4, .int .i64 ((IntKind.wrap .i64 ((x0.length : Int) - 4))))]) (H2 := []) (by kernel_rfl) ?_
    refine RJ.end (by kernel_rfl) ?_
    refine PJ.next ?_
    refine K.ret (by kernel_rfl) ?_
    refine PJ.passRet ?_
    obtain rfl := Option.some.inj h2
    refine PJ.res (v1 := .tup [.nl, .int .i64 2]) (Le.tup (.cons (Le.nl _) (.cons (Le.refl _) .nil))) ?_
    exact K.ret0 (.inr rfl) hFn hFH hFD (by kernel_rfl) (by kernel_rfl) (by kernel_rfl)
  · have h3 := condF hb1 h
    refine K.condF (by kernel_rfl) ?_
    refine K.skip (by kernel_rfl) ?_
    refine PJ.next ?_
    refine K.seq (by kernel_rfl) ?_
    refine K.region (by kernel_rfl) ?_
    refine RJ.seg 1 [0, 2, 3, 4, 5] (L2 := [(0, lsv (encI .u8) 1 x0), (2, .nl), (3, .int .i64 0), (4, .int .i64 ((IntKind.wrap .i64 ((x0.length : Int) - 4)))), (5, .ptr 0 0)]) (H2 := [.box [.int .u8 0, .int .u8 0, .int .u8 0, .int .u8 0]]) (by kernel_rfl) ?_
    refine RJ.end (by kernel_rfl) ?_
    refine PJ.next ?_
    refine K.seq (by kernel_rfl) ?_
    refine J.keep [0, 2, 3, 4, 5] (L2 := [(0, lsv (encI .u8) 1 x0), (2, .nl), (3, .int .i64 0), (4, .int .i64 ((IntKind.wrap .i64 ((x0.length : Int) - 4)))), (5, .ptr 0 0)]) (by kernel_rfl) ?_
    refine K.draw (by kernel_rfl) (by kernel_rfl) (by kernel_rfl) (H2 := [.box [.int .u8 0, .int .u8 0, .int .u8 0, .int .u8 0]]) (by kernel_rfl) (n := 1) (by kernel_rfl) ?_
    refine RJ.segD 3 (tr2 := [([], []), ([], []), ([], [])]) (L2 := [(13, .int .i64 ((IntKind.wrap .i64 ((x0.length : Int) - 4)))), (12, lsv (encI .u8) 1 x0), (11, .sl 0 0 4 1), (0, lsv (encI .u8) 1 x0), (2, .nl), (3, .int .i64 0), (4, .int .i64 ((IntKind.wrap .i64 ((x0.length : Int) - 4)))), (5, .ptr 0 0)]) (H2 := [.box [.int .u8 0, .int .u8 0, .int .u8 0, .int .u8 0]]) (by kernel_rfl) ?_
    obtain ⟨hm, h4⟩ := asrt h3
    refine RJ.rel (d := (some 14)) (ef := ⟨.lst (((x0.length : Int) : Int).toNat - ((IntKind.wrap .i64 ((x0.length : Int) - 4)) : Int).toNat) 1 (((x0.flatMap (encI .u8)).take (((x0.length : Int) : Int).toNat * 1)).drop (((IntKind.wrap .i64 ((x0.length : Int) - 4)) : Int).toNat * 1)), [], []⟩) (ef' := ⟨.lst (cut x0 ((IntKind.wrap .i64 ((x0.length : Int) - 4))) (x0.length : Int)).length 1 ((cut x0 ((IntKind.wrap .i64 ((x0.length : Int) - 4))) (x0.length : Int)).flatMap (encI .u8)), [], []⟩) (c := inS ((IntKind.wrap .i64 ((x0.length : Int) - 4))) (x0.length : Int) x0.length) (tr2 := [([], []), ([], []), ([], []), ([], [])]) (H2 := [.box [.int .u8 0, .int .u8 0, .int .u8 0, .int .u8 0]]) (by kernel_rfl) hm (fun hc => N.slice (encI_len .u8) hc) (by kernel_rfl) ?_
    obtain ⟨hm, h5⟩ := asrt h4
    refine RJ.rel (d := (some 15)) (ef := ⟨.int .i64 ((min ((cut x0 ((IntKind.wrap .i64 ((x0.length : Int) - 4))) (x0.length : Int))).length 4 : Nat) : Int), [0], [(0, .box (splice [.int .u8 0, .int .u8 0, .int .u8 0, .int .u8 0] 0 ((((cut x0 ((IntKind.wrap .i64 ((x0.length : Int) - 4))) (x0.length : Int))).flatMap (encI .u8)).take (min ((cut x0 ((IntKind.wrap .i64 ((x0.length : Int) - 4))) (x0.length : Int))).length 4 * 1))))]⟩) (ef' := ⟨.int .i64 4, [0], [(0, .box [.int .u8 ((nth ((cut x0 ((IntKind.wrap .i64 ((x0.length : Int) - 4))) (x0.length : Int))) 0)), .int .u8 ((nth ((cut x0 ((IntKind.wrap .i64 ((x0.length : Int) - 4))) (x0.length : Int))) 1)), .int .u8 ((nth ((cut x0 ((IntKind.wrap .i64 ((x0.length : Int) - 4))) (x0.length : Int))) 2)), .int .u8 ((nth ((cut x0 ((IntKind.wrap .i64 ((x0.length : Int) - 4))) (x0.length : Int))) 3))])]⟩) (c := true) (tr2 := [([], []), ([], []), ([], []), ([], []), ([0, 1], [0, 1])]) (H2 := [.box [.int .u8 ((nth ((cut x0 ((IntKind.wrap .i64 ((x0.length : Int) - 4))) (x0.length : Int))) 0)), .int .u8 ((nth ((cut x0 ((IntKind.wrap .i64 ((x0.length : Int) - 4))) (x0.length : Int))) 1)), .int .u8 ((nth ((cut x0 ((IntKind.wrap .i64 ((x0.length : Int) - 4))) (x0.length : Int))) 2)), .int .u8 ((nth ((cut x0 ((IntKind.wrap .i64 ((x0.length : Int) - 4))) (x0.length : Int))) 3))]]) (by kernel_rfl) (rfl) (fun hc => (N.copyBox (encI_len .u8) hm).trans (by kernel_rfl)) (by kernel_rfl) ?_
    refine RJ.end (by kernel_rfl) ?_
    refine PJ.next ?_
    refine K.seq (by kernel_rfl) ?_
    refine K.seq (by kernel_rfl) ?_
    refine J.keep [0, 2, 3, 4, 5] (L2 := [(0, lsv (encI .u8) 1 x0), (2, .nl), (3, .int .i64 0), (4, .int .i64 ((IntKind.wrap .i64 ((x0.length : Int) - 4)))), (5, .ptr 0 0)]) (by kernel_rfl) ?_
    refine K.draw (by kernel_rfl) (by kernel_rfl) (by kernel_rfl) (H2 := [.box [.int .u8 ((nth ((cut x0 ((IntKind.wrap .i64 ((x0.length : Int) - 4))) (x0.length : Int))) 0)), .int .u8 ((nth ((cut x0 ((IntKind.wrap .i64 ((x0.length : Int) - 4))) (x0.length : Int))) 1)), .int .u8 ((nth ((cut x0 ((IntKind.wrap .i64 ((x0.length : Int) - 4))) (x0.length : Int))) 2)), .int .u8 ((nth ((cut x0 ((IntKind.wrap .i64 ((x0.length : Int) - 4))) (x0.length : Int))) 3))], .res]) (by kernel_rfl) (n := 1) (by kernel_rfl) ?_
    refine RJ.segD 3 (tr2 := [([0, 1], []), ([], []), ([], [])]) (L2 := [(18, .int .i64 ((IntKind.wrap .i64 ((x0.length : Int) - 4)))), (17, lsv (encI .u8) 1 x0), (16, .agg [.int .u8 ((nth ((cut x0 ((IntKind.wrap .i64 ((x0.length : Int) - 4))) (x0.length : Int))) 0)), .int .u8 ((nth ((cut x0 ((IntKind.wrap .i64 ((x0.length : Int) - 4))) (x0.length : Int))) 1)), .int .u8 ((nth ((cut x0 ((IntKind.wrap .i64 ((x0.length : Int) - 4))) (x0.length : Int))) 2)), .int .u8 ((nth ((cut x0 ((IntKind.wrap .i64 ((x0.length : Int) - 4))) (x0.length : Int))) 3))]), (0, lsv (encI .u8) 1 x0), (2, .nl), (3, .int .i64 0), (4, .int .i64 ((IntKind.wrap .i64 ((x0.length : Int) - 4)))), (5, .ptr 0 0)]) (H2 := [.box [.int .u8 ((nth ((cut x0 ((IntKind.wrap .i64 ((x0.length : Int) - 4))) (x0.length : Int))) 0)), .int .u8 ((nth ((cut x0 ((IntKind.wrap .i64 ((x0.length : Int) - 4))) (x0.length : Int))) 1)), .int .u8 ((nth ((cut x0 ((IntKind.wrap .i64 ((x0.length : Int) - 4))) (x0.length : Int))) 2)), .int .u8 ((nth ((cut x0 ((IntKind.wrap .i64 ((x0.length : Int) - 4))) (x0.length : Int))) 3))], .res]) (by kernel_rfl) ?_
    obtain ⟨hm, h6⟩ := asrt h5
    refine RJ.rel (d := (some 19)) (ef := ⟨.lst (((IntKind.wrap .i64 ((x0.length : Int) - 4)) : Int).toNat - (0 : Int).toNat) 1 (((x0.flatMap (encI .u8)).take (((IntKind.wrap .i64 ((x0.length : Int) - 4)) : Int).toNat * 1)).drop ((0 : Int).toNat * 1)), [], []⟩) (ef' := ⟨.lst (cut x0 0 ((IntKind.wrap .i64 ((x0.length : Int) - 4)))).length 1 ((cut x0 0 ((IntKind.wrap .i64 ((x0.length : Int) - 4)))).flatMap (encI .u8)), [], []⟩) (c := inS 0 ((IntKind.wrap .i64 ((x0.length : Int) - 4))) x0.length) (tr2 := [([0, 1], []), ([], []), ([], []), ([], [])]) (H2 := [.box [.int .u8 ((nth ((cut x0 ((IntKind.wrap .i64 ((x0.length : Int) - 4))) (x0.length : Int))) 0)), .int .u8 ((nth ((cut x0 ((IntKind.wrap .i64 ((x0.length : Int) - 4))) (x0.length : Int))) 1)), .int .u8 ((nth ((cut x0 ((IntKind.wrap .i64 ((x0.length : Int) - 4))) (x0.length : Int))) 2)), .int .u8 ((nth ((cut x0 ((IntKind.wrap .i64 ((x0.length : Int) - 4))) (x0.length : Int))) 3))], .res]) (by kernel_rfl) hm (fun hc => N.slice (encI_len .u8) hc) (by kernel_rfl) ?_
    obtain ⟨y7, hy8, h9⟩ := bindS h6
    refine RJ.call0 (d := (some 20)) (f := 22) (args := [lsv (encI .u8) 1 ((cut x0 0 ((IntKind.wrap .i64 ((x0.length : Int) - 4)))))]) (v := .agg [.int .u8 y7.a0_, .int .u8 y7.a1_, .int .u8 y7.a2_, .int .u8 y7.a3_]) (tr2 := [([0, 1], []), ([], []), ([], []), ([], []), ([], [2, 3])]) (by kernel_rfl) (by kernel_rfl) (.cons (Le.refl _) .nil) (crc_tail_ok hy8) (by kernel_rfl) ?_
    refine RJ.segD 1 (tr2 := [([0, 1], []), ([], []), ([], []), ([], []), ([], [2, 3]), ([], [])]) (L2 := [(21, .bool ((!((decide (((nth ((cut x0 ((IntKind.wrap .i64 ((x0.length : Int) - 4))) (x0.length : Int))) 0)) = y7.a0_)) && ((decide (((nth ((cut x0 ((IntKind.wrap .i64 ((x0.length : Int) - 4))) (x0.length : Int))) 1)) = y7.a1_)) && ((decide (((nth ((cut x0 ((IntKind.wrap .i64 ((x0.length : Int) - 4))) (x0.length : Int))) 2)) = y7.a2_)) && ((decide (((nth ((cut x0 ((IntKind.wrap .i64 ((x0.length : Int) - 4))) (x0.length : Int))) 3)) = y7.a3_)) && true))))))), (20, .agg [.int .u8 y7.a0_, .int .u8 y7.a1_, .int .u8 y7.a2_, .int .u8 y7.a3_]), (19, lsv (encI .u8) 1 ((cut x0 0 ((IntKind.wrap .i64 ((x0.length : Int) - 4)))))), (18, .int .i64 ((IntKind.wrap .i64 ((x0.length : Int) - 4)))), (17, lsv (encI .u8) 1 x0), (16, .agg [.int .u8 ((nth ((cut x0 ((IntKind.wrap .i64 ((x0.length : Int) - 4))) (x0.length : Int))) 0)), .int .u8 ((nth ((cut x0 ((IntKind.wrap .i64 ((x0.length : Int) - 4))) (x0.length : Int))) 1)), .int .u8 ((nth ((cut x0 ((IntKind.wrap .i64 ((x0.length : Int) - 4))) (x0.length : Int))) 2)), .int .u8 ((nth ((cut x0 ((IntKind.wrap .i64 ((x0.length : Int) - 4))) (x0.length : Int))) 3))]), (0, lsv (encI .u8) 1 x0), (2, .nl), (3, .int .i64 0), (4, .int .i64 ((IntKind.wrap .i64 ((x0.length : Int) - 4)))), (5, .ptr 0 0)]) (H2 := [.box [.int .u8 ((nth ((cut x0 ((IntKind.wrap .i64 ((x0.length : Int) - 4))) (x0.length : Int))) 0)), .int .u8 ((nth ((cut x0 ((IntKind.wrap .i64 ((x0.length : Int) - 4))) (x0.length : Int))) 1)), .int .u8 ((nth ((cut x0 ((IntKind.wrap .i64 ((x0.length : Int) - 4))) (x0.length : Int))) 2)), .int .u8 ((nth ((cut x0 ((IntKind.wrap .i64 ((x0.length : Int) - 4))) (x0.length : Int))) 3))], .res]) (by kernel_rfl) ?_
    refine RJ.end (by kernel_rfl) ?_
    refine PJ.next ?_
    refine J.caseB 21 (b := (!((decide (((nth ((cut x0 ((IntKind.wrap .i64 ((x0.length : Int) - 4))) (x0.length : Int))) 0)) = y7.a0_)) && ((decide (((nth ((cut x0 ((IntKind.wrap .i64 ((x0.length : Int) - 4))) (x0.length : Int))) 1)) = y7.a1_)) && ((decide (((nth ((cut x0 ((IntKind.wrap .i64 ((x0.length : Int) - 4))) (x0.length : Int))) 2)) = y7.a2_)) && ((decide (((nth ((cut x0 ((IntKind.wrap .i64 ((x0.length : Int) - 4))) (x0.length : Int))) 3)) = y7.a3_)) && true)))))) (by kernel_rfl) (fun hb10 => ?_) (fun hb10 => ?_)
    · have h11 := condT hb10 h9
      refine K.condT (by kernel_rfl) ?_
      refine K.seq (by kernel_rfl) ?_
      refine K.region (by kernel_rfl) ?_
      refine RJ.seg 2 [0, 2, 3, 4] (L2 := [(0, lsv (encI .u8) 1 x0), (2, .nl), (3, .int .i64 6), (4, .int .i64 ((IntKind.wrap .i64 ((x0.length : Int) - 4))))]) (H2 := [.box [.int .u8 ((nth ((cut x0 ((IntKind.wrap .i64 ((x0.length : Int) - 4))) (x0.length : Int))) 0)), .int .u8 ((nth ((cut x0 ((IntKind.wrap .i64 ((x0.length : Int) - 4))) (x0.length : Int))) 1)), .int .u8 ((nth ((cut x0 ((IntKind.wrap .i64 ((x0.length : Int) - 4))) (x0.length : Int))) 2)), .int .u8 ((nth ((cut x0 ((IntKind.wrap .i64 ((x0.length : Int) - 4))) (x0.length : Int))) 3))], .res]) (by kernel_rfl) ?_
      refine RJ.end (by kernel_rfl) ?_
      refine PJ.next ?_
      refine K.ret (by kernel_rfl) ?_
      refine PJ.passRet ?_
      obtain rfl := Option.some.inj h11
      refine PJ.res (v1 := .tup [.nl, .int .i64 6]) (Le.tup (.cons (Le.nl _) (.cons (Le.refl _) .nil))) ?_
      exact K.ret0 (.inr rfl) hFn hFH hFD (by kernel_rfl) (by kernel_rfl) (by kernel_rfl)
    · have h12 := condF hb10 h9
      refine K.condF (by kernel_rfl) ?_
      refine K.skip (by kernel_rfl) ?_
      refine PJ.next ?_
      refine K.seq (by kernel_rfl) ?_
      refine K.region (by kernel_rfl) ?_
      refine RJ.seg 2 [2, 3, 22, 23] (L2 := [(2, .nl), (3, .int .i64 0), (22, lsv (encI .u8) 1 x0), (23, .int .i64 ((IntKind.wrap .i64 ((x0.length : Int) - 4))))]) (H2 := [.box [.int .u8 ((nth ((cut x0 ((IntKind.wrap .i64 ((x0.length : Int) - 4))) (x0.length : Int))) 0)), .int .u8 ((nth ((cut x0 ((IntKind.wrap .i64 ((x0.length : Int) - 4))) (x0.length : Int))) 1)), .int .u8 ((nth ((cut x0 ((IntKind.wrap .i64 ((x0.length : Int) - 4))) (x0.length : Int))) 2)), .int .u8 ((nth ((cut x0 ((IntKind.wrap .i64 ((x0.length : Int) - 4))) (x0.length : Int))) 3))], .res]) (by kernel_rfl) ?_
      obtain ⟨hm, h13⟩ := asrt h12
      refine RJ.rel (d := (some 24)) (ef := ⟨.lst (((IntKind.wrap .i64 ((x0.length : Int) - 4)) : Int).toNat - (0 : Int).toNat) 1 (((x0.flatMap (encI .u8)).take (((IntKind.wrap .i64 ((x0.length : Int) - 4)) : Int).toNat * 1)).drop ((0 : Int).toNat * 1)), [], []⟩) (ef' := ⟨.lst (cut x0 0 ((IntKind.wrap .i64 ((x0.length : Int) - 4)))).length 1 ((cut x0 0 ((IntKind.wrap .i64 ((x0.length : Int) - 4)))).flatMap (encI .u8)), [], []⟩) (c := inS 0 ((IntKind.wrap .i64 ((x0.length : Int) - 4))) x0.length) (tr2 := []) (H2 := [.box [.int .u8 ((nth ((cut x0 ((IntKind.wrap .i64 ((x0.length : Int) - 4))) (x0.length : Int))) 0)), .int .u8 ((nth ((cut x0 ((IntKind.wrap .i64 ((x0.length : Int) - 4))) (x0.length : Int))) 1)), .int .u8 ((nth ((cut x0 ((IntKind.wrap .i64 ((x0.length : Int) - 4))) (x0.length : Int))) 2)), .int .u8 ((nth ((cut x0 ((IntKind.wrap .i64 ((x0.length : Int) - 4))) (x0.length : Int))) 3))], .res]) (by kernel_rfl) hm (fun hc => N.slice (encI_len .u8) hc) (by kernel_rfl) ?_
      obtain ⟨y14, hy15, h16⟩ := bindS h13
      refine RJ.callG (d := (some 25)) (f := 23) (args := [lsv (encI .u8) 1 ((cut x0 0 ((IntKind.wrap .i64 ((x0.length : Int) - 4)))))]) (args0 := [lsv (encI .u8) 1 ((cut x0 0 ((IntKind.wrap .i64 ((x0.length : Int) - 4)))))]) (v0 := .vc 0) (v := .vc 2) (tr2 := []) (H0 := []) (H0' := [vecL (encI .u8) 1 5 y14]) (H2 := [.box [.int .u8 ((nth ((cut x0 ((IntKind.wrap .i64 ((x0.length : Int) - 4))) (x0.length : Int))) 0)), .int .u8 ((nth ((cut x0 ((IntKind.wrap .i64 ((x0.length : Int) - 4))) (x0.length : Int))) 1)), .int .u8 ((nth ((cut x0 ((IntKind.wrap .i64 ((x0.length : Int) - 4))) (x0.length : Int))) 2)), .int .u8 ((nth ((cut x0 ((IntKind.wrap .i64 ((x0.length : Int) - 4))) (x0.length : Int))) 3))], .res, vecL (encI .u8) 1 5 y14]) [] (by kernel_rfl) (by kernel_rfl) (by kernel_rfl) (by kernel_rfl) (by decide) (by kernel_rfl) (by kernel_rfl) (by kernel_rfl) (.cons (Le.refl _) .nil) (slices_Clone_ok_o hy15) (by kernel_rfl) (by kernel_rfl) (by kernel_rfl) ?_
      refine RJ.seg 2 [2, 3] (L2 := [(2, .vc 2), (3, .int .i64 0)]) (H2 := [.box [.int .u8 ((nth ((cut x0 ((IntKind.wrap .i64 ((x0.length : Int) - 4))) (x0.length : Int))) 0)), .int .u8 ((nth ((cut x0 ((IntKind.wrap .i64 ((x0.length : Int) - 4))) (x0.length : Int))) 1)), .int .u8 ((nth ((cut x0 ((IntKind.wrap .i64 ((x0.length : Int) - 4))) (x0.length : Int))) 2)), .int .u8 ((nth ((cut x0 ((IntKind.wrap .i64 ((x0.length : Int) - 4))) (x0.length : Int))) 3))], .res, vecL (encI .u8) 1 5 y14]) (by kernel_rfl) ?_
      refine RJ.end (by kernel_rfl) ?_
      refine PJ.next ?_
      refine K.ret (by kernel_rfl) ?_
      obtain rfl := Option.some.inj h16
      refine PJ.wk (Wk.freeze 2 (n := y14.length) (k := 1) (e := 5) (cs := y14.flatMap (encI .u8)) (by kernel_rfl)) ?_
      exact K.ret0 (.inr rfl) hFn hFH hFD (by kernel_rfl) (by kernel_rfl) (by kernel_rfl)

def exerguelaw08_shown  : Option (Bool) :=
  (Option.bind (crc_Put ([49, 50, 51, 52, 53, 54, 55, 56, 57] : List Int)) fun y1 => (Option.bind (crc_Cut y1) fun y4 => (Option.bind (Option.bind (crc_Of ([49, 50, 51, 52, 53, 54, 55, 56, 57] : List Int)) fun y42 => (bif (decide (y42 = 3421780262)) then (bif (decide (y4.2 = 0)) then (bif ((bytesS y4.1) == ([49, 50, 51, 52, 53, 54, 55, 56, 57] : List UInt8)) then (Option.bind (crc_Of ([] : List Int)) fun y54 => (bif (decide (y54 = 0)) then (Option.bind (crc_On 0 ([49, 50, 51, 52, 53, 54, 55, 56, 57] : List Int)) fun y60 => (Option.bind (crc_Of ([49, 50, 51, 52, 53, 54, 55, 56, 57] : List Int)) fun y63 => (bif (decide (y60 = y63)) then (Option.bind (crc_Step 0 1) fun y69 => (some (decide (y69 = 1996959894)))) else (some false)))) else (some false))) else (some false)) else (some false)) else (some false))) fun (s37 : Bool) => (some s37))))
theorem exerguelaw08_shown_ok  {r : Bool} (h : exerguelaw08_shown = some r) : SC Try.prog 10 [] [] (.bool r) [] := by
  refine K.fn (fn := Try.f10) (by kernel_rfl) (by kernel_rfl) (by kernel_rfl) (by kernel_rfl) (by kernel_rfl) (fun F hFn hFH hFD => ?_)
  unfold exerguelaw08_shown at h
  refine K.seq (by kernel_rfl) ?_
  refine K.region (by kernel_rfl) ?_
  refine RJ.seg 1 [0] (L2 := [(0, .bool false)]) (H2 := []) (by kernel_rfl) ?_
  refine RJ.end (by kernel_rfl) ?_
  refine PJ.next ?_
  refine K.seq (by kernel_rfl) ?_
  refine K.region (by kernel_rfl) ?_
  refine RJ.seg 3 [0, 1] (L2 := [(0, .bool false), (1, lsv (encI .u8) 1 ([49, 50, 51, 52, 53, 54, 55, 56, 57] : List Int))]) (H2 := [.gone]) (by kernel_rfl) ?_
  refine RJ.end (by kernel_rfl) ?_
  refine PJ.next ?_
  refine K.seq (by kernel_rfl) ?_
  refine K.region (by kernel_rfl) ?_
  refine RJ.seg 1 [0, 1, 7] (L2 := [(0, .bool false), (1, lsv (encI .u8) 1 ([49, 50, 51, 52, 53, 54, 55, 56, 57] : List Int)), (7, lsv (encI .u8) 1 ([49, 50, 51, 52, 53, 54, 55, 56, 57] : List Int))]) (H2 := [.gone]) (by kernel_rfl) ?_
  obtain ⟨y1, hy2, h3⟩ := bindS h
  refine RJ.callG (d := (some 8)) (f := 20) (args := [lsv (encI .u8) 1 ([49, 50, 51, 52, 53, 54, 55, 56, 57] : List Int)]) (args0 := [lsv (encI .u8) 1 ([49, 50, 51, 52, 53, 54, 55, 56, 57] : List Int)]) (v0 := .vc 0) (v := .vc 1) (tr2 := []) (H0 := []) (H0' := [vecL (encI .u8) 1 5 y1]) (H2 := [.gone, vecL (encI .u8) 1 5 y1]) [] (by kernel_rfl) (by kernel_rfl) (by kernel_rfl) (by kernel_rfl) (by decide) (by kernel_rfl) (by kernel_rfl) (by kernel_rfl) (.cons (Le.refl _) .nil) (crc_Put_ok_o hy2) (by kernel_rfl) (by kernel_rfl) (by kernel_rfl) ?_
  obtain ⟨y4, hy5, h6⟩ := bindS h3
  refine RJ.wk (Wk.freeze 1 (n := y1.length) (k := 1) (e := 5) (cs := y1.flatMap (encI .u8)) (by kernel_rfl)) ?_
  refine RJ.call0 (d := (some 9)) (f := 11) (args := [lsv (encI .u8) 1 y1]) (v := .tup [lsv (encI .u8) 1 y4.1, .int .i64 y4.2]) (tr2 := []) (by kernel_rfl) (by kernel_rfl) (.cons (Le.refl _) .nil) (crc_Cut_ok hy5) (by kernel_rfl) ?_
  refine RJ.seg 5 [0, 1, 2, 3] (L2 := [(0, .bool false), (1, lsv (encI .u8) 1 ([49, 50, 51, 52, 53, 54, 55, 56, 57] : List Int)), (2, lsv (encI .u8) 1 y4.1), (3, .int .i64 y4.2)]) (H2 := [.gone, .gone]) (by kernel_rfl) ?_
  refine RJ.end (by kernel_rfl) ?_
  refine PJ.next ?_
  obtain ⟨s37, hy39, h41⟩ := bindS h6
  refine K.cutN (by kernel_rfl) (fun (s37 : Bool) => ([(0, .bool s37)], [])) s37 ?_ ?_
  · refine K.region (by kernel_rfl) ?_
    refine RJ.seg 1 [0, 1, 2, 3, 12] (L2 := [(0, .bool false), (1, lsv (encI .u8) 1 ([49, 50, 51, 52, 53, 54, 55, 56, 57] : List Int)), (2, lsv (encI .u8) 1 y4.1), (3, .int .i64 y4.2), (12, lsv (encI .u8) 1 ([49, 50, 51, 52, 53, 54, 55, 56, 57] : List Int))]) (H2 := [.gone, .gone]) (by kernel_rfl) ?_
    obtain ⟨y42, hy43, h44⟩ := bindS hy39
    refine RJ.call0 (d := (some 13)) (f := 17) (args := [lsv (encI .u8) 1 ([49, 50, 51, 52, 53, 54, 55, 56, 57] : List Int)]) (v := .int .u32 y42) (tr2 := []) (by kernel_rfl) (by kernel_rfl) (.cons (Le.refl _) .nil) (crc_Of_ok hy43) (by kernel_rfl) ?_
    refine RJ.seg 2 [0, 1, 2, 3, 15] (L2 := [(0, .bool false), (1, lsv (encI .u8) 1 ([49, 50, 51, 52, 53, 54, 55, 56, 57] : List Int)), (2, lsv (encI .u8) 1 y4.1), (3, .int .i64 y4.2), (15, .bool (decide (y42 = 3421780262)))]) (H2 := [.gone, .gone]) (by kernel_rfl) ?_
    refine RJ.caseB 15 (b := (decide (y42 = 3421780262))) (by kernel_rfl) (fun hb45 => ?_) (fun hb45 => ?_)
    · have h46 := condT hb45 h44
      refine RJ.seg 4 [0, 1, 2, 19] (L2 := [(0, .bool false), (1, lsv (encI .u8) 1 ([49, 50, 51, 52, 53, 54, 55, 56, 57] : List Int)), (2, lsv (encI .u8) 1 y4.1), (19, .bool (decide (y4.2 = 0)))]) (H2 := [.gone, .gone]) (by kernel_rfl) ?_
      refine RJ.caseB 19 (b := (decide (y4.2 = 0))) (by kernel_rfl) (fun hb48 => ?_) (fun hb48 => ?_)
      · have h49 := condT hb48 h46
        refine RJ.seg 1 [0, 1, 19, 20] (L2 := [(0, .bool false), (1, lsv (encI .u8) 1 ([49, 50, 51, 52, 53, 54, 55, 56, 57] : List Int)), (19, .bool true), (20, lsv (encI .u8) 1 y4.1)]) (H2 := [.gone, .gone]) (by kernel_rfl) ?_
        refine RJ.rel (d := (some 21)) (ef := ⟨.str ((y4.1.flatMap (encI .u8)).map Go.Sy.byteOf), [], []⟩) (ef' := ⟨.str (bytesS y4.1), [], []⟩) (c := (y4.1.flatMap (encI .u8)).all isByte) (tr2 := []) (H2 := [.gone, .gone]) (by kernel_rfl) (allByte y4.1) (fun hc => N.toStr) (by kernel_rfl) ?_
        refine RJ.seg 3 [0, 1, 24] (L2 := [(0, .bool false), (1, lsv (encI .u8) 1 ([49, 50, 51, 52, 53, 54, 55, 56, 57] : List Int)), (24, .bool ((bytesS y4.1) == ([49, 50, 51, 52, 53, 54, 55, 56, 57] : List UInt8)))]) (H2 := [.gone, .gone]) (by kernel_rfl) ?_
        refine RJ.caseB 24 (b := ((bytesS y4.1) == ([49, 50, 51, 52, 53, 54, 55, 56, 57] : List UInt8))) (by kernel_rfl) (fun hb51 => ?_) (fun hb51 => ?_)
        · have h52 := condT hb51 h49
          obtain ⟨y54, hy55, h56⟩ := bindS h52
          refine RJ.call0 (d := (some 25)) (f := 17) (args := [.nl]) (v := .int .u32 y54) (tr2 := []) (by kernel_rfl) (by kernel_rfl) (.cons (Le.nl _) .nil) (crc_Of_ok hy55) (by kernel_rfl) ?_
          refine RJ.seg 3 [0, 1, 28] (L2 := [(0, .bool false), (1, lsv (encI .u8) 1 ([49, 50, 51, 52, 53, 54, 55, 56, 57] : List Int)), (28, .bool (decide (y54 = 0)))]) (H2 := [.gone, .gone]) (by kernel_rfl) ?_
          refine RJ.caseB 28 (b := (decide (y54 = 0))) (by kernel_rfl) (fun hb57 => ?_) (fun hb57 => ?_)
          · have h58 := condT hb57 h56
            refine RJ.seg 1 [0, 1, 28, 29] (L2 := [(0, .bool false), (1, lsv (encI .u8) 1 ([49, 50, 51, 52, 53, 54, 55, 56, 57] : List Int)), (28, .bool true), (29, lsv (encI .u8) 1 ([49, 50, 51, 52, 53, 54, 55, 56, 57] : List Int))]) (H2 := [.gone, .gone]) (by kernel_rfl) ?_
            obtain ⟨y60, hy61, h62⟩ := bindS h58
            refine RJ.call0 (d := (some 30)) (f := 15) (args := [.int .u32 0, lsv (encI .u8) 1 ([49, 50, 51, 52, 53, 54, 55, 56, 57] : List Int)]) (v := .int .u32 y60) (tr2 := []) (by kernel_rfl) (by kernel_rfl) (.cons (Le.refl _) (.cons (Le.refl _) .nil)) (crc_On_ok hy61) (by kernel_rfl) ?_
            refine RJ.seg 1 [0, 28, 30, 31] (L2 := [(0, .bool false), (28, .bool true), (30, .int .u32 y60), (31, lsv (encI .u8) 1 ([49, 50, 51, 52, 53, 54, 55, 56, 57] : List Int))]) (H2 := [.gone, .gone]) (by kernel_rfl) ?_
            obtain ⟨y63, hy64, h65⟩ := bindS h62
            refine RJ.call0 (d := (some 32)) (f := 17) (args := [lsv (encI .u8) 1 ([49, 50, 51, 52, 53, 54, 55, 56, 57] : List Int)]) (v := .int .u32 y63) (tr2 := []) (by kernel_rfl) (by kernel_rfl) (.cons (Le.refl _) .nil) (crc_Of_ok hy64) (by kernel_rfl) ?_
            refine RJ.seg 3 [0, 35] (L2 := [(0, .bool false), (35, .bool (decide (y60 = y63)))]) (H2 := [.gone, .gone]) (by kernel_rfl) ?_
            refine RJ.caseB 35 (b := (decide (y60 = y63))) (by kernel_rfl) (fun hb66 => ?_) (fun hb66 => ?_)
            · have h67 := condT hb66 h65
              obtain ⟨y69, hy70, h71⟩ := bindS h67
              refine RJ.call0 (d := (some 36)) (f := 13) (args := [.int .u32 0, .int .u8 1]) (v := .int .u32 y69) (tr2 := []) (by kernel_rfl) (by kernel_rfl) (.cons (Le.refl _) (.cons (Le.refl _) .nil)) (crc_Step_ok hy70) (by kernel_rfl) ?_
              refine RJ.seg 3 [0] (L2 := [(0, .bool (decide (y69 = 1996959894)))]) (H2 := [.gone, .gone]) (by kernel_rfl) ?_
              refine RJ.end (by kernel_rfl) ?_
              obtain rfl := Option.some.inj h71
              refine PJ.wk (Wk.sel (L2 := [(0, .bool (decide (y69 = 1996959894)))]) (H2 := []) 0 (by rw [hFH]; rfl) hFD [] (by kernel_rfl) (by kernel_rfl) (by decide) (by kernel_rfl) (by kernel_rfl) (by kernel_rfl) (by kernel_rfl)) ?_
              exact PJ.cutN [0] (by kernel_rfl) (by kernel_rfl)
            · have h68 := condF hb66 h65
              refine RJ.seg 4 [0] (L2 := [(0, .bool false)]) (H2 := [.gone, .gone]) (by kernel_rfl) ?_
              refine RJ.end (by kernel_rfl) ?_
              obtain rfl := Option.some.inj h68
              refine PJ.wk (Wk.sel (L2 := [(0, .bool false)]) (H2 := []) 0 (by rw [hFH]; rfl) hFD [] (by kernel_rfl) (by kernel_rfl) (by decide) (by kernel_rfl) (by kernel_rfl) (by kernel_rfl) (by kernel_rfl)) ?_
              exact PJ.cutN [0] (by kernel_rfl) (by kernel_rfl)
          · have h59 := condF hb57 h56
            refine RJ.seg 11 [0] (L2 := [(0, .bool false)]) (H2 := [.gone, .gone]) (by kernel_rfl) ?_
            refine RJ.end (by kernel_rfl) ?_
            obtain rfl := Option.some.inj h59
            refine PJ.wk (Wk.sel (L2 := [(0, .bool false)]) (H2 := []) 0 (by rw [hFH]; rfl) hFD [] (by kernel_rfl) (by kernel_rfl) (by decide) (by kernel_rfl) (by kernel_rfl) (by kernel_rfl) (by kernel_rfl)) ?_
            exact PJ.cutN [0] (by kernel_rfl) (by kernel_rfl)
        · have h53 := condF hb51 h49
          refine RJ.seg 15 [0] (L2 := [(0, .bool false)]) (H2 := [.gone, .gone]) (by kernel_rfl) ?_
          refine RJ.end (by kernel_rfl) ?_
          obtain rfl := Option.some.inj h53
          refine PJ.wk (Wk.sel (L2 := [(0, .bool false)]) (H2 := []) 0 (by rw [hFH]; rfl) hFD [] (by kernel_rfl) (by kernel_rfl) (by decide) (by kernel_rfl) (by kernel_rfl) (by kernel_rfl) (by kernel_rfl)) ?_
          exact PJ.cutN [0] (by kernel_rfl) (by kernel_rfl)
      · have h50 := condF hb48 h46
        refine RJ.seg 20 [0] (L2 := [(0, .bool false)]) (H2 := [.gone, .gone]) (by kernel_rfl) ?_
        refine RJ.end (by kernel_rfl) ?_
        obtain rfl := Option.some.inj h50
        refine PJ.wk (Wk.sel (L2 := [(0, .bool false)]) (H2 := []) 0 (by rw [hFH]; rfl) hFD [] (by kernel_rfl) (by kernel_rfl) (by decide) (by kernel_rfl) (by kernel_rfl) (by kernel_rfl) (by kernel_rfl)) ?_
        exact PJ.cutN [0] (by kernel_rfl) (by kernel_rfl)
    · have h47 := condF hb45 h44
      refine RJ.seg 24 [0] (L2 := [(0, .bool false)]) (H2 := [.gone, .gone]) (by kernel_rfl) ?_
      refine RJ.end (by kernel_rfl) ?_
      obtain rfl := Option.some.inj h47
      refine PJ.wk (Wk.sel (L2 := [(0, .bool false)]) (H2 := []) 0 (by rw [hFH]; rfl) hFD [] (by kernel_rfl) (by kernel_rfl) (by decide) (by kernel_rfl) (by kernel_rfl) (by kernel_rfl) (by kernel_rfl)) ?_
      exact PJ.cutN [0] (by kernel_rfl) (by kernel_rfl)
  · refine K.ret (by kernel_rfl) ?_
    obtain rfl := Option.some.inj h41
    exact K.ret0 (.inr rfl) hFn hFH hFD (by kernel_rfl) (by kernel_rfl) (by kernel_rfl)

def exergueref08_Step (x0 : Int) (x1 : Int) : Option (Int) :=
  (Option.bind (loopN (fun (s57 : Int × Int) => (bif (decide (s57.2 < 8)) then (Option.bind (bif (decide ((Int.tmod s57.1 2) = 1)) then (some ((bits .xor .u32 (IntKind.wrap .u32 (Int.tdiv s57.1 2)) 3988292384))) else (some (IntKind.wrap .u32 (Int.tdiv s57.1 2)))) fun (s98 : Int) => (some (.inl (s98, (IntKind.wrap .i64 (s57.2 + 1)))))) else (some (.inr s57.1)))) big ((bits .xor .u32 x0 (IntKind.wrap .u32 x1)), 0)) fun (s52 : Int) => (some s52))
theorem exergueref08_Step_ok {x0 : Int} {x1 : Int} {r : Int} (h : exergueref08_Step x0 x1 = some r) : SC Try.prog 14 [.int .u32 x0, .int .u8 x1] [] (.int .u32 r) [] := by
  refine K.fn (fn := Try.f14) (by kernel_rfl) (by kernel_rfl) (by kernel_rfl) (by kernel_rfl) (by kernel_rfl) (fun F hFn hFH hFD => ?_)
  unfold exergueref08_Step at h
  refine K.seq (by kernel_rfl) ?_
  refine K.region (by kernel_rfl) ?_
  refine RJ.seg 1 [0, 1, 4] (L2 := [(0, .int .u32 x0), (1, .int .u8 x1), (4, .int .u32 0)]) (H2 := []) (by kernel_rfl) ?_
  refine RJ.end (by kernel_rfl) ?_
  refine PJ.next ?_
  refine K.seq (by kernel_rfl) ?_
  refine K.region (by kernel_rfl) ?_
  refine RJ.seg 5 [4, 5] (L2 := [(4, .int .u32 0), (5, .int .u32 (bits .xor .u32 x0 (IntKind.wrap .u32 x1)))]) (H2 := []) (by kernel_rfl) ?_
  refine RJ.end (by kernel_rfl) ?_
  refine PJ.next ?_
  obtain ⟨s52, hy54, h56⟩ := bindS h
  refine K.cutN (by kernel_rfl) (fun (s52 : Int) => ([(4, .int .u32 0), (5, .int .u32 s52)], [])) s52 ?_ ?_
  · refine K.seq (by kernel_rfl) ?_
    refine K.region (by kernel_rfl) ?_
    refine RJ.seg 1 [4, 5, 6] (L2 := [(4, .int .u32 0), (5, .int .u32 (bits .xor .u32 x0 (IntKind.wrap .u32 x1))), (6, .int .i64 0)]) (H2 := []) (by kernel_rfl) ?_
    refine RJ.end (by kernel_rfl) ?_
    refine PJ.next ?_
    refine K.block 0 (by kernel_rfl) ?_
    refine K.loop (by kernel_rfl) (fun (s57 : Int × Int) => ([(4, .int .u32 0), (5, .int .u32 s57.1), (6, .int .i64 s57.2)], [])) hy54 [4, 5, 6] (by kernel_rfl) (by kernel_rfl) (fun s57 x91 hs90 => ?_)
    refine K.seq (by kernel_rfl) ?_
    refine K.seq (by kernel_rfl) ?_
    refine K.region (by kernel_rfl) ?_
    refine RJ.seg 2 [4, 5, 6, 13] (L2 := [(4, .int .u32 0), (5, .int .u32 s57.1), (6, .int .i64 s57.2), (13, .bool (decide (s57.2 < 8)))]) (H2 := []) (by kernel_rfl) ?_
    refine RJ.end (by kernel_rfl) ?_
    refine PJ.next ?_
    refine J.caseB 13 (b := (decide (s57.2 < 8))) (by kernel_rfl) (fun hb92 => ?_) (fun hb92 => ?_)
    · have h93 := condT hb92 hs90
      refine K.condT (by kernel_rfl) ?_
      refine K.skip (by kernel_rfl) ?_
      refine PJ.next ?_
      obtain ⟨s98, hy100, h102⟩ := bindS h93
      refine K.cutN (by kernel_rfl) (fun (s98 : Int) => ([(4, .int .u32 0), (5, .int .u32 s98), (6, .int .i64 s57.2)], [])) s98 ?_ ?_
      · refine K.block 1 (by kernel_rfl) ?_
        refine K.seq (by kernel_rfl) ?_
        refine K.region (by kernel_rfl) ?_
        refine RJ.seg 3 [4, 5, 6, 7] (L2 := [(4, .int .u32 0), (5, .int .u32 s57.1), (6, .int .i64 s57.2), (7, .int .u32 (Int.tmod s57.1 2))]) (H2 := []) (by kernel_rfl) ?_
        refine RJ.end (by kernel_rfl) ?_
        refine PJ.next ?_
        refine K.seq (by kernel_rfl) ?_
        refine K.region (by kernel_rfl) ?_
        refine RJ.seg 3 [4, 5, 6, 7] (L2 := [(4, .int .u32 0), (5, .int .u32 (IntKind.wrap .u32 (Int.tdiv s57.1 2))), (6, .int .i64 s57.2), (7, .int .u32 (Int.tmod s57.1 2))]) (H2 := []) (by kernel_rfl) ?_
        refine RJ.end (by kernel_rfl) ?_
        refine PJ.next ?_
        refine K.seq (by kernel_rfl) ?_
        refine K.region (by kernel_rfl) ?_
        refine RJ.seg 2 [4, 5, 6, 21] (L2 := [(4, .int .u32 0), (5, .int .u32 (IntKind.wrap .u32 (Int.tdiv s57.1 2))), (6, .int .i64 s57.2), (21, .bool ((decide ((Int.tmod s57.1 2) = 1))))]) (H2 := []) (by kernel_rfl) ?_
        refine RJ.end (by kernel_rfl) ?_
        refine PJ.next ?_
        refine J.caseB 21 (b := (decide ((Int.tmod s57.1 2) = 1))) (by kernel_rfl) (fun hb103 => ?_) (fun hb103 => ?_)
        · have h104 := condT hb103 hy100
          refine K.condT (by kernel_rfl) ?_
          refine K.region (by kernel_rfl) ?_
          refine RJ.seg 3 [4, 5, 6] (L2 := [(4, .int .u32 0), (5, .int .u32 ((bits .xor .u32 (IntKind.wrap .u32 (Int.tdiv s57.1 2)) 3988292384))), (6, .int .i64 s57.2)]) (H2 := []) (by kernel_rfl) ?_
          refine RJ.end (by kernel_rfl) ?_
          refine PJ.blockNormal ?_
          obtain rfl := Option.some.inj h104
          exact PJ.cutN [4, 5, 6] (by kernel_rfl) (by kernel_rfl)
        · have h105 := condF hb103 hy100
          refine K.condF (by kernel_rfl) ?_
          refine K.skip (by kernel_rfl) ?_
          refine PJ.blockNormal ?_
          obtain rfl := Option.some.inj h105
          exact PJ.cutN [4, 5, 6] (by kernel_rfl) (by kernel_rfl)
      · refine K.region (by kernel_rfl) ?_
        refine RJ.seg 3 [4, 5, 6] (L2 := [(4, .int .u32 0), (5, .int .u32 s98), (6, .int .i64 (IntKind.wrap .i64 (s57.2 + 1)))]) (H2 := []) (by kernel_rfl) ?_
        refine RJ.end (by kernel_rfl) ?_
        obtain rfl := Option.some.inj h102
        exact PJ.loopNext [4, 5, 6] (by kernel_rfl) (by kernel_rfl)
    · have h94 := condF hb92 hs90
      refine K.condF (by kernel_rfl) ?_
      refine K.exit 0 (by kernel_rfl) ?_
      refine PJ.passExit ?_
      obtain rfl := Option.some.inj h94
      refine PJ.loopOut (fun e => nomatch e) (fun he107 => ?_)
      have h106 := congrArg some he107
      refine PJ.blockOut ?_
      obtain rfl := Option.some.inj h106
      exact PJ.cutN [4, 5] (by kernel_rfl) (by kernel_rfl)
  · refine K.seq (by kernel_rfl) ?_
    refine K.region (by kernel_rfl) ?_
    refine RJ.seg 2 [4] (L2 := [(4, .int .u32 s52)]) (H2 := []) (by kernel_rfl) ?_
    refine RJ.end (by kernel_rfl) ?_
    refine PJ.next ?_
    refine K.ret (by kernel_rfl) ?_
    obtain rfl := Option.some.inj h56
    exact K.ret0 (.inr rfl) hFn hFH hFD (by kernel_rfl) (by kernel_rfl) (by kernel_rfl)

def exergueref08_On (x0 : Int) (x1 : List Int) : Option (Int) :=
  (Option.bind (loopN (fun (s36 : Int × Int) => (bif (decide (s36.2 < (x1.length : Int))) then (bif inR s36.2 x1.length then (Option.bind (exergueref08_Step s36.1 (nth x1 s36.2)) fun y61 => (some (.inl (y61, (IntKind.wrap .i64 (s36.2 + 1)))))) else none) else (some (.inr s36.1)))) big ((IntKind.wrap .u32 (4294967295 - x0)), 0)) fun (s31 : Int) => (some (IntKind.wrap .u32 (4294967295 - s31))))
theorem exergueref08_On_ok {x0 : Int} {x1 : List Int} {r : Int} (h : exergueref08_On x0 x1 = some r) : SC Try.prog 16 [.int .u32 x0, lsv (encI .u8) 1 x1] [] (.int .u32 r) [] := by
  refine K.fn (fn := Try.f16) (by kernel_rfl) (by kernel_rfl) (by kernel_rfl) (by kernel_rfl) (by kernel_rfl) (fun F hFn hFH hFD => ?_)
  unfold exergueref08_On at h
  refine K.seq (by kernel_rfl) ?_
  refine K.region (by kernel_rfl) ?_
  refine RJ.seg 1 [0, 1, 4] (L2 := [(0, .int .u32 x0), (1, lsv (encI .u8) 1 x1), (4, .int .u32 0)]) (H2 := []) (by kernel_rfl) ?_
  refine RJ.end (by kernel_rfl) ?_
  refine PJ.next ?_
  refine K.seq (by kernel_rfl) ?_
  refine K.region (by kernel_rfl) ?_
  refine RJ.seg 3 [1, 4, 5] (L2 := [(1, lsv (encI .u8) 1 x1), (4, .int .u32 0), (5, .int .u32 (IntKind.wrap .u32 (4294967295 - x0)))]) (H2 := []) (by kernel_rfl) ?_
  refine RJ.end (by kernel_rfl) ?_
  refine PJ.next ?_
  obtain ⟨s31, hy33, h35⟩ := bindS h
  refine K.cutN (by kernel_rfl) (fun (s31 : Int) => ([(4, .int .u32 0), (5, .int .u32 s31)], [])) s31 ?_ ?_
  · refine K.seq (by kernel_rfl) ?_
    refine K.region (by kernel_rfl) ?_
    refine RJ.seg 1 [1, 4, 5, 6] (L2 := [(1, lsv (encI .u8) 1 x1), (4, .int .u32 0), (5, .int .u32 (IntKind.wrap .u32 (4294967295 - x0))), (6, .int .i64 0)]) (H2 := []) (by kernel_rfl) ?_
    refine RJ.end (by kernel_rfl) ?_
    refine PJ.next ?_
    refine K.block 0 (by kernel_rfl) ?_
    refine K.loop (by kernel_rfl) (fun (s36 : Int × Int) => ([(1, lsv (encI .u8) 1 x1), (4, .int .u32 0), (5, .int .u32 s36.1), (6, .int .i64 s36.2)], [])) hy33 [1, 4, 5, 6] (by kernel_rfl) (by kernel_rfl) (fun s36 x56 hs55 => ?_)
    refine K.seq (by kernel_rfl) ?_
    refine K.seq (by kernel_rfl) ?_
    refine K.region (by kernel_rfl) ?_
    refine RJ.seg 4 [1, 4, 5, 6, 12] (L2 := [(1, lsv (encI .u8) 1 x1), (4, .int .u32 0), (5, .int .u32 s36.1), (6, .int .i64 s36.2), (12, .bool ((decide (s36.2 < (x1.length : Int)))))]) (H2 := []) (by kernel_rfl) ?_
    refine RJ.end (by kernel_rfl) ?_
    refine PJ.next ?_
    refine J.caseB 12 (b := (decide (s36.2 < (x1.length : Int)))) (by kernel_rfl) (fun hb57 => ?_) (fun hb57 => ?_)
    · have h58 := condT hb57 hs55
      refine K.condT (by kernel_rfl) ?_
      refine K.skip (by kernel_rfl) ?_
      refine PJ.next ?_
      refine K.seq (by kernel_rfl) ?_
      refine K.block 1 (by kernel_rfl) ?_
      refine K.region (by kernel_rfl) ?_
      refine RJ.seg 3 [1, 4, 5, 6, 15, 16, 17] (L2 := [(1, lsv (encI .u8) 1 x1), (4, .int .u32 0), (5, .int .u32 s36.1), (6, .int .i64 s36.2), (15, .int .u32 s36.1), (16, lsv (encI .u8) 1 x1), (17, .int .i64 s36.2)]) (H2 := []) (by kernel_rfl) ?_
      obtain ⟨hm, h60⟩ := asrt h58
      refine RJ.rel (d := (some 18)) (ef := ⟨.ep (((x1.flatMap (encI .u8)).drop ((s36.2 : Int).toNat * 1)).take 1), [], []⟩) (ef' := ⟨.ep ((encI .u8) (nth x1 s36.2)), [], []⟩) (c := inR s36.2 x1.length) (tr2 := []) (H2 := []) (by kernel_rfl) hm (fun hc => N.idx (encI_len .u8) hc) (by kernel_rfl) ?_
      refine RJ.seg 1 [1, 4, 5, 6, 15, 19] (L2 := [(1, lsv (encI .u8) 1 x1), (4, .int .u32 0), (5, .int .u32 s36.1), (6, .int .i64 s36.2), (15, .int .u32 s36.1), (19, .int .u8 (nth x1 s36.2))]) (H2 := []) (by kernel_rfl) ?_
      obtain ⟨y61, hy62, h63⟩ := bindS h60
      refine RJ.call0 (d := (some 20)) (f := 14) (args := [.int .u32 s36.1, .int .u8 (nth x1 s36.2)]) (v := .int .u32 y61) (tr2 := []) (by kernel_rfl) (by kernel_rfl) (.cons (Le.refl _) (.cons (Le.refl _) .nil)) (exergueref08_Step_ok hy62) (by kernel_rfl) ?_
      refine RJ.seg 1 [1, 4, 5, 6] (L2 := [(1, lsv (encI .u8) 1 x1), (4, .int .u32 0), (5, .int .u32 y61), (6, .int .i64 s36.2)]) (H2 := []) (by kernel_rfl) ?_
      refine RJ.end (by kernel_rfl) ?_
      refine PJ.blockNormal ?_
      refine PJ.next ?_
      refine K.region (by kernel_rfl) ?_
      refine RJ.seg 3 [1, 4, 5, 6] (L2 := [(1, lsv (encI .u8) 1 x1), (4, .int .u32 0), (5, .int .u32 y61), (6, .int .i64 (IntKind.wrap .i64 (s36.2 + 1)))]) (H2 := []) (by kernel_rfl) ?_
      refine RJ.end (by kernel_rfl) ?_
      obtain rfl := Option.some.inj h63
      exact PJ.loopNext [1, 4, 5, 6] (by kernel_rfl) (by kernel_rfl)
    · have h59 := condF hb57 hs55
      refine K.condF (by kernel_rfl) ?_
      refine K.exit 0 (by kernel_rfl) ?_
      refine PJ.passExit ?_
      obtain rfl := Option.some.inj h59
      refine PJ.loopOut (fun e => nomatch e) (fun he65 => ?_)
      have h64 := congrArg some he65
      refine PJ.blockOut ?_
      obtain rfl := Option.some.inj h64
      exact PJ.cutN [4, 5] (by kernel_rfl) (by kernel_rfl)
  · refine K.seq (by kernel_rfl) ?_
    refine K.region (by kernel_rfl) ?_
    refine RJ.seg 3 [4] (L2 := [(4, .int .u32 (IntKind.wrap .u32 (4294967295 - s31)))]) (H2 := []) (by kernel_rfl) ?_
    refine RJ.end (by kernel_rfl) ?_
    refine PJ.next ?_
    refine K.ret (by kernel_rfl) ?_
    obtain rfl := Option.some.inj h35
    exact K.ret0 (.inr rfl) hFn hFH hFD (by kernel_rfl) (by kernel_rfl) (by kernel_rfl)

def exergueref08_Of (x0 : List Int) : Option (Int) :=
  (Option.bind (exergueref08_On 0 x0) fun y1 => (some y1))
theorem exergueref08_Of_ok {x0 : List Int} {r : Int} (h : exergueref08_Of x0 = some r) : SC Try.prog 18 [lsv (encI .u8) 1 x0] [] (.int .u32 r) [] := by
  refine K.fn (fn := Try.f18) (by kernel_rfl) (by kernel_rfl) (by kernel_rfl) (by kernel_rfl) (by kernel_rfl) (fun F hFn hFH hFD => ?_)
  unfold exergueref08_Of at h
  refine K.seq (by kernel_rfl) ?_
  refine K.region (by kernel_rfl) ?_
  refine RJ.seg 1 [0, 2] (L2 := [(0, lsv (encI .u8) 1 x0), (2, .int .u32 0)]) (H2 := []) (by kernel_rfl) ?_
  refine RJ.end (by kernel_rfl) ?_
  refine PJ.next ?_
  refine K.seq (by kernel_rfl) ?_
  refine K.region (by kernel_rfl) ?_
  refine RJ.seg 1 [2, 3] (L2 := [(2, .int .u32 0), (3, lsv (encI .u8) 1 x0)]) (H2 := []) (by kernel_rfl) ?_
  obtain ⟨y1, hy2, h3⟩ := bindS h
  refine RJ.call0 (d := (some 4)) (f := 16) (args := [.int .u32 0, lsv (encI .u8) 1 x0]) (v := .int .u32 y1) (tr2 := []) (by kernel_rfl) (by kernel_rfl) (.cons (Le.refl _) (.cons (Le.refl _) .nil)) (exergueref08_On_ok hy2) (by kernel_rfl) ?_
  refine RJ.seg 1 [2] (L2 := [(2, .int .u32 y1)]) (H2 := []) (by kernel_rfl) ?_
  refine RJ.end (by kernel_rfl) ?_
  refine PJ.next ?_
  refine K.ret (by kernel_rfl) ?_
  obtain rfl := Option.some.inj h3
  exact K.ret0 (.inr rfl) hFn hFH hFD (by kernel_rfl) (by kernel_rfl) (by kernel_rfl)

def exergueref08_Cut (x0 : List Int) : Option ((List Int) × Int) :=
  (bif (decide (((IntKind.wrap .i64 ((x0.length : Int) - 4))) < 0)) then (some (([] : List Int), 2)) else (bif inR ((IntKind.wrap .i64 ((x0.length : Int) - 4))) x0.length then (bif inR ((IntKind.wrap .i64 (((IntKind.wrap .i64 ((x0.length : Int) - 4))) + 1))) x0.length then (bif inR ((IntKind.wrap .i64 (((IntKind.wrap .i64 ((x0.length : Int) - 4))) + 2))) x0.length then (bif inR ((IntKind.wrap .i64 (((IntKind.wrap .i64 ((x0.length : Int) - 4))) + 3))) x0.length then (bif inS 0 ((IntKind.wrap .i64 ((x0.length : Int) - 4))) x0.length then (Option.bind (exergueref08_Of ((cut x0 0 ((IntKind.wrap .i64 ((x0.length : Int) - 4)))))) fun y9 => (bif (decide (¬ ((IntKind.wrap .u32 (((IntKind.wrap .u32 (((IntKind.wrap .u32 (((IntKind.wrap .u32 ((nth x0 ((IntKind.wrap .i64 ((x0.length : Int) - 4))))))) + ((IntKind.wrap .u32 (((IntKind.wrap .u32 ((nth x0 ((IntKind.wrap .i64 (((IntKind.wrap .i64 ((x0.length : Int) - 4))) + 1))))))) * 256)))))) + ((IntKind.wrap .u32 (((IntKind.wrap .u32 ((nth x0 ((IntKind.wrap .i64 (((IntKind.wrap .i64 ((x0.length : Int) - 4))) + 2))))))) * 65536)))))) + ((IntKind.wrap .u32 (((IntKind.wrap .u32 ((nth x0 ((IntKind.wrap .i64 (((IntKind.wrap .i64 ((x0.length : Int) - 4))) + 3))))))) * 16777216)))))) = y9)) then (some (([] : List Int), 6)) else (bif inS 0 ((IntKind.wrap .i64 ((x0.length : Int) - 4))) x0.length then (some ((cut x0 0 ((IntKind.wrap .i64 ((x0.length : Int) - 4)))), 0)) else none))) else none) else none) else none) else none) else none))
theorem exergueref08_Cut_ok {x0 : List Int} {r : (List Int) × Int} (h : exergueref08_Cut x0 = some r) : SC Try.prog 12 [lsv (encI .u8) 1 x0] [] (.tup [lsv (encI .u8) 1 r.1, .int .i64 r.2]) [] := by
  refine K.fn (fn := Try.f12) (by kernel_rfl) (by kernel_rfl) (by kernel_rfl) (by kernel_rfl) (by kernel_rfl) (fun F hFn hFH hFD => ?_)
  unfold exergueref08_Cut at h
  refine K.seq (by kernel_rfl) ?_
  refine K.region (by kernel_rfl) ?_
  refine RJ.seg 2 [0, 2, 3] (L2 := [(0, lsv (encI .u8) 1 x0), (2, .nl), (3, .int .i64 0)]) (H2 := []) (by kernel_rfl) ?_
  refine RJ.end (by kernel_rfl) ?_
  refine PJ.next ?_
  refine K.seq (by kernel_rfl) ?_
  refine K.region (by kernel_rfl) ?_
  refine RJ.seg 4 [0, 2, 3, 4] (L2 := [(0, lsv (encI .u8) 1 x0), (2, .nl), (3, .int .i64 0), (4, .int .i64 ((IntKind.wrap .i64 ((x0.length : Int) - 4))))]) (H2 := []) (by kernel_rfl) ?_
  refine RJ.end (by kernel_rfl) ?_
  refine PJ.next ?_
  refine K.seq (by kernel_rfl) ?_
  refine K.seq (by kernel_rfl) ?_
  refine K.region (by kernel_rfl) ?_
  refine RJ.seg 2 [0, 2, 3, 4, 10] (L2 := [(0, lsv (encI .u8) 1 x0), (2, .nl), (3, .int .i64 0), (4, .int .i64 ((IntKind.wrap .i64 ((x0.length : Int) - 4)))), (10, .bool ((decide (((IntKind.wrap .i64 ((x0.length : Int) - 4))) < 0))))]) (H2 := []) (by kernel_rfl) ?_
  refine RJ.end (by kernel_rfl) ?_
  refine PJ.next ?_
  refine J.caseB 10 (b := (decide (((IntKind.wrap .i64 ((x0.length : Int) - 4))) < 0))) (by kernel_rfl) (fun hb1 => ?_) (fun hb1 => ?_)
  · have h2 := condT hb1 h
    refine K.condT (by kernel_rfl) ?_
    refine K.seq (by kernel_rfl) ?_
    refine K.region (by kernel_rfl) ?_
    refine RJ.seg 2 [0, 2, 3, 4] (L2 := [(0, lsv (encI .u8) 1 x0), (2, .nl), (3, .int .i64 2), (4, .int .i64 ((IntKind.wrap .i64 ((x0.length : Int) - 4))))]) (H2 := []) (by kernel_rfl) ?_
    refine RJ.end (by kernel_rfl) ?_
    refine PJ.next ?_
    refine K.ret (by kernel_rfl) ?_
    refine PJ.passRet ?_
    obtain rfl := Option.some.inj h2
    refine PJ.res (v1 := .tup [.nl, .int .i64 2]) (Le.tup (.cons (Le.nl _) (.cons (Le.refl _) .nil))) ?_
    exact K.ret0 (.inr rfl) hFn hFH hFD (by kernel_rfl) (by kernel_rfl) (by kernel_rfl)
  · have h3 := condF hb1 h
    refine K.condF (by kernel_rfl) ?_
    refine K.skip (by kernel_rfl) ?_
    refine PJ.next ?_
    refine K.seq (by kernel_rfl) ?_
    refine J.keep [0, 2, 3, 4] (L2 := [(0, lsv (encI .u8) 1 x0), (2, .nl), (3, .int .i64 0), (4, .int .i64 ((IntKind.wrap .i64 ((x0.length : Int) - 4))))]) (by kernel_rfl) ?_
    refine K.draw (by kernel_rfl) (by kernel_rfl) (by kernel_rfl) (H2 := []) (by kernel_rfl) (n := 0) (by kernel_rfl) ?_
    refine RJ.segD 2 (tr2 := [([], []), ([], [])]) (L2 := [(12, .int .i64 ((IntKind.wrap .i64 ((x0.length : Int) - 4)))), (11, lsv (encI .u8) 1 x0), (0, lsv (encI .u8) 1 x0), (2, .nl), (3, .int .i64 0), (4, .int .i64 ((IntKind.wrap .i64 ((x0.length : Int) - 4))))]) (H2 := []) (by kernel_rfl) ?_
    obtain ⟨hm, h4⟩ := asrt h3
    refine RJ.rel (d := (some 13)) (ef := ⟨.ep (((x0.flatMap (encI .u8)).drop (((IntKind.wrap .i64 ((x0.length : Int) - 4)) : Int).toNat * 1)).take 1), [], []⟩) (ef' := ⟨.ep ((encI .u8) (nth x0 ((IntKind.wrap .i64 ((x0.length : Int) - 4))))), [], []⟩) (c := inR ((IntKind.wrap .i64 ((x0.length : Int) - 4))) x0.length) (tr2 := [([], []), ([], []), ([], [])]) (H2 := []) (by kernel_rfl) hm (fun hc => N.idx (encI_len .u8) hc) (by kernel_rfl) ?_
    refine RJ.segD 5 (tr2 := [([], []), ([], []), ([], []), ([], []), ([], []), ([], []), ([], []), ([], [])]) (L2 := [(18, .int .i64 ((IntKind.wrap .i64 (((IntKind.wrap .i64 ((x0.length : Int) - 4))) + 1)))), (17, .int .i64 ((IntKind.wrap .i64 ((x0.length : Int) - 4)))), (16, lsv (encI .u8) 1 x0), (15, .int .u32 ((IntKind.wrap .u32 ((nth x0 ((IntKind.wrap .i64 ((x0.length : Int) - 4)))))))), (14, .int .u8 ((nth x0 ((IntKind.wrap .i64 ((x0.length : Int) - 4)))))), (13, .ep [.int .u8 ((nth x0 ((IntKind.wrap .i64 ((x0.length : Int) - 4)))))]), (12, .int .i64 ((IntKind.wrap .i64 ((x0.length : Int) - 4)))), (11, lsv (encI .u8) 1 x0), (0, lsv (encI .u8) 1 x0), (2, .nl), (3, .int .i64 0), (4, .int .i64 ((IntKind.wrap .i64 ((x0.length : Int) - 4))))]) (H2 := []) (by kernel_rfl) ?_
    obtain ⟨hm, h5⟩ := asrt h4
    refine RJ.rel (d := (some 19)) (ef := ⟨.ep (((x0.flatMap (encI .u8)).drop (((IntKind.wrap .i64 (((IntKind.wrap .i64 ((x0.length : Int) - 4))) + 1)) : Int).toNat * 1)).take 1), [], []⟩) (ef' := ⟨.ep ((encI .u8) (nth x0 ((IntKind.wrap .i64 (((IntKind.wrap .i64 ((x0.length : Int) - 4))) + 1))))), [], []⟩) (c := inR ((IntKind.wrap .i64 (((IntKind.wrap .i64 ((x0.length : Int) - 4))) + 1))) x0.length) (tr2 := [([], []), ([], []), ([], []), ([], []), ([], []), ([], []), ([], []), ([], []), ([], [])]) (H2 := []) (by kernel_rfl) hm (fun hc => N.idx (encI_len .u8) hc) (by kernel_rfl) ?_
    refine RJ.segD 7 (tr2 := [([], []), ([], []), ([], []), ([], []), ([], []), ([], []), ([], []), ([], []), ([], []), ([], []), ([], []), ([], []), ([], []), ([], []), ([], []), ([], [])]) (L2 := [(26, .int .i64 ((IntKind.wrap .i64 (((IntKind.wrap .i64 ((x0.length : Int) - 4))) + 2)))), (25, .int .i64 ((IntKind.wrap .i64 ((x0.length : Int) - 4)))), (24, lsv (encI .u8) 1 x0), (23, .int .u32 ((IntKind.wrap .u32 (((IntKind.wrap .u32 ((nth x0 ((IntKind.wrap .i64 ((x0.length : Int) - 4))))))) + ((IntKind.wrap .u32 (((IntKind.wrap .u32 ((nth x0 ((IntKind.wrap .i64 (((IntKind.wrap .i64 ((x0.length : Int) - 4))) + 1))))))) * 256))))))), (22, .int .u32 ((IntKind.wrap .u32 (((IntKind.wrap .u32 ((nth x0 ((IntKind.wrap .i64 (((IntKind.wrap .i64 ((x0.length : Int) - 4))) + 1))))))) * 256)))), (21, .int .u32 ((IntKind.wrap .u32 ((nth x0 ((IntKind.wrap .i64 (((IntKind.wrap .i64 ((x0.length : Int) - 4))) + 1)))))))), (20, .int .u8 ((nth x0 ((IntKind.wrap .i64 (((IntKind.wrap .i64 ((x0.length : Int) - 4))) + 1)))))), (19, .ep [.int .u8 ((nth x0 ((IntKind.wrap .i64 (((IntKind.wrap .i64 ((x0.length : Int) - 4))) + 1)))))]), (18, .int .i64 ((IntKind.wrap .i64 (((IntKind.wrap .i64 ((x0.length : Int) - 4))) + 1)))), (17, .int .i64 ((IntKind.wrap .i64 ((x0.length : Int) - 4)))), (16, lsv (encI .u8) 1 x0), (15, .int .u32 ((IntKind.wrap .u32 ((nth x0 ((IntKind.wrap .i64 ((x0.length : Int) - 4)))))))), (14, .int .u8 ((nth x0 ((IntKind.wrap .i64 ((x0.length : Int) - 4)))))), (13, .ep [.int .u8 ((nth x0 ((IntKind.wrap .i64 ((x0.length : Int) - 4)))))]), (12, .int .i64 ((IntKind.wrap .i64 ((x0.length : Int) - 4)))), (11, lsv (encI .u8) 1 x0), (0, lsv (encI .u8) 1 x0), (2, .nl), (3, .int .i64 0), (4, .int .i64 ((IntKind.wrap .i64 ((x0.length : Int) - 4))))]) (H2 := []) (by kernel_rfl) ?_
    obtain ⟨hm, h6⟩ := asrt h5
    refine RJ.rel (d := (some 27)) (ef := ⟨.ep (((x0.flatMap (encI .u8)).drop (((IntKind.wrap .i64 (((IntKind.wrap .i64 ((x0.length : Int) - 4))) + 2)) : Int).toNat * 1)).take 1), [], []⟩) (ef' := ⟨.ep ((encI .u8) (nth x0 ((IntKind.wrap .i64 (((IntKind.wrap .i64 ((x0.length : Int) - 4))) + 2))))), [], []⟩) (c := inR ((IntKind.wrap .i64 (((IntKind.wrap .i64 ((x0.length : Int) - 4))) + 2))) x0.length) (tr2 := [([], []), ([], []), ([], []), ([], []), ([], []), ([], []), ([], []), ([], []), ([], []), ([], []), ([], []), ([], []), ([], []), ([], []), ([], []), ([], []), ([], [])]) (H2 := []) (by kernel_rfl) hm (fun hc => N.idx (encI_len .u8) hc) (by kernel_rfl) ?_
    refine RJ.segD 7 (tr2 := [([], []), ([], []), ([], []), ([], []), ([], []), ([], []), ([], []), ([], []), ([], []), ([], []), ([], []), ([], []), ([], []), ([], []), ([], []), ([], []), ([], []), ([], []), ([], []), ([], []), ([], []), ([], []), ([], []), ([], [])]) (L2 := [(34, .int .i64 ((IntKind.wrap .i64 (((IntKind.wrap .i64 ((x0.length : Int) - 4))) + 3)))), (33, .int .i64 ((IntKind.wrap .i64 ((x0.length : Int) - 4)))), (32, lsv (encI .u8) 1 x0), (31, .int .u32 ((IntKind.wrap .u32 (((IntKind.wrap .u32 (((IntKind.wrap .u32 ((nth x0 ((IntKind.wrap .i64 ((x0.length : Int) - 4))))))) + ((IntKind.wrap .u32 (((IntKind.wrap .u32 ((nth x0 ((IntKind.wrap .i64 (((IntKind.wrap .i64 ((x0.length : Int) - 4))) + 1))))))) * 256)))))) + ((IntKind.wrap .u32 (((IntKind.wrap .u32 ((nth x0 ((IntKind.wrap .i64 (((IntKind.wrap .i64 ((x0.length : Int) - 4))) + 2))))))) * 65536))))))), (30, .int .u32 ((IntKind.wrap .u32 (((IntKind.wrap .u32 ((nth x0 ((IntKind.wrap .i64 (((IntKind.wrap .i64 ((x0.length : Int) - 4))) + 2))))))) * 65536)))), (29, .int .u32 ((IntKind.wrap .u32 ((nth x0 ((IntKind.wrap .i64 (((IntKind.wrap .i64 ((x0.length : Int) - 4))) + 2)))))))), (28, .int .u8 ((nth x0 ((IntKind.wrap .i64 (((IntKind.wrap .i64 ((x0.length : Int) - 4))) + 2)))))), (27, .ep [.int .u8 ((nth x0 ((IntKind.wrap .i64 (((IntKind.wrap .i64 ((x0.length : Int) - 4))) + 2)))))]), (26, .int .i64 ((IntKind.wrap .i64 (((IntKind.wrap .i64 ((x0.length : Int) - 4))) + 2)))), (25, .int .i64 ((IntKind.wrap .i64 ((x0.length : Int) - 4)))), (24, lsv (encI .u8) 1 x0), (23, .int .u32 ((IntKind.wrap .u32 (((IntKind.wrap .u32 ((nth x0 ((IntKind.wrap .i64 ((x0.length : Int) - 4))))))) + ((IntKind.wrap .u32 (((IntKind.wrap .u32 ((nth x0 ((IntKind.wrap .i64 (((IntKind.wrap .i64 ((x0.length : Int) - 4))) + 1))))))) * 256))))))), (22, .int .u32 ((IntKind.wrap .u32 (((IntKind.wrap .u32 ((nth x0 ((IntKind.wrap .i64 (((IntKind.wrap .i64 ((x0.length : Int) - 4))) + 1))))))) * 256)))), (21, .int .u32 ((IntKind.wrap .u32 ((nth x0 ((IntKind.wrap .i64 (((IntKind.wrap .i64 ((x0.length : Int) - 4))) + 1)))))))), (20, .int .u8 ((nth x0 ((IntKind.wrap .i64 (((IntKind.wrap .i64 ((x0.length : Int) - 4))) + 1)))))), (19, .ep [.int .u8 ((nth x0 ((IntKind.wrap .i64 (((IntKind.wrap .i64 ((x0.length : Int) - 4))) + 1)))))]), (18, .int .i64 ((IntKind.wrap .i64 (((IntKind.wrap .i64 ((x0.length : Int) - 4))) + 1)))), (17, .int .i64 ((IntKind.wrap .i64 ((x0.length : Int) - 4)))), (16, lsv (encI .u8) 1 x0), (15, .int .u32 ((IntKind.wrap .u32 ((nth x0 ((IntKind.wrap .i64 ((x0.length : Int) - 4)))))))), (14, .int .u8 ((nth x0 ((IntKind.wrap .i64 ((x0.length : Int) - 4)))))), (13, .ep [.int .u8 ((nth x0 ((IntKind.wrap .i64 ((x0.length : Int) - 4)))))]), (12, .int .i64 ((IntKind.wrap .i64 ((x0.length : Int) - 4)))), (11, lsv (encI .u8) 1 x0), (0, lsv (encI .u8) 1 x0), (2, .nl), (3, .int .i64 0), (4, .int .i64 ((IntKind.wrap .i64 ((x0.length : Int) - 4))))]) (H2 := []) (by kernel_rfl) ?_
    obtain ⟨hm, h7⟩ := asrt h6
    refine RJ.rel (d := (some 35)) (ef := ⟨.ep (((x0.flatMap (encI .u8)).drop (((IntKind.wrap .i64 (((IntKind.wrap .i64 ((x0.length : Int) - 4))) + 3)) : Int).toNat * 1)).take 1), [], []⟩) (ef' := ⟨.ep ((encI .u8) (nth x0 ((IntKind.wrap .i64 (((IntKind.wrap .i64 ((x0.length : Int) - 4))) + 3))))), [], []⟩) (c := inR ((IntKind.wrap .i64 (((IntKind.wrap .i64 ((x0.length : Int) - 4))) + 3))) x0.length) (tr2 := [([], []), ([], []), ([], []), ([], []), ([], []), ([], []), ([], []), ([], []), ([], []), ([], []), ([], []), ([], []), ([], []), ([], []), ([], []), ([], []), ([], []), ([], []), ([], []), ([], []), ([], []), ([], []), ([], []), ([], []), ([], [])]) (H2 := []) (by kernel_rfl) hm (fun hc => N.idx (encI_len .u8) hc) (by kernel_rfl) ?_
    refine RJ.segD 5 (tr2 := [([], []), ([], []), ([], []), ([], []), ([], []), ([], []), ([], []), ([], []), ([], []), ([], []), ([], []), ([], []), ([], []), ([], []), ([], []), ([], []), ([], []), ([], []), ([], []), ([], []), ([], []), ([], []), ([], []), ([], []), ([], []), ([], []), ([], []), ([], []), ([], []), ([], [])]) (L2 := [(5, .int .u32 ((IntKind.wrap .u32 (((IntKind.wrap .u32 (((IntKind.wrap .u32 (((IntKind.wrap .u32 ((nth x0 ((IntKind.wrap .i64 ((x0.length : Int) - 4))))))) + ((IntKind.wrap .u32 (((IntKind.wrap .u32 ((nth x0 ((IntKind.wrap .i64 (((IntKind.wrap .i64 ((x0.length : Int) - 4))) + 1))))))) * 256)))))) + ((IntKind.wrap .u32 (((IntKind.wrap .u32 ((nth x0 ((IntKind.wrap .i64 (((IntKind.wrap .i64 ((x0.length : Int) - 4))) + 2))))))) * 65536)))))) + ((IntKind.wrap .u32 (((IntKind.wrap .u32 ((nth x0 ((IntKind.wrap .i64 (((IntKind.wrap .i64 ((x0.length : Int) - 4))) + 3))))))) * 16777216))))))), (39, .int .u32 ((IntKind.wrap .u32 (((IntKind.wrap .u32 (((IntKind.wrap .u32 (((IntKind.wrap .u32 ((nth x0 ((IntKind.wrap .i64 ((x0.length : Int) - 4))))))) + ((IntKind.wrap .u32 (((IntKind.wrap .u32 ((nth x0 ((IntKind.wrap .i64 (((IntKind.wrap .i64 ((x0.length : Int) - 4))) + 1))))))) * 256)))))) + ((IntKind.wrap .u32 (((IntKind.wrap .u32 ((nth x0 ((IntKind.wrap .i64 (((IntKind.wrap .i64 ((x0.length : Int) - 4))) + 2))))))) * 65536)))))) + ((IntKind.wrap .u32 (((IntKind.wrap .u32 ((nth x0 ((IntKind.wrap .i64 (((IntKind.wrap .i64 ((x0.length : Int) - 4))) + 3))))))) * 16777216))))))), (38, .int .u32 ((IntKind.wrap .u32 (((IntKind.wrap .u32 ((nth x0 ((IntKind.wrap .i64 (((IntKind.wrap .i64 ((x0.length : Int) - 4))) + 3))))))) * 16777216)))), (37, .int .u32 ((IntKind.wrap .u32 ((nth x0 ((IntKind.wrap .i64 (((IntKind.wrap .i64 ((x0.length : Int) - 4))) + 3)))))))), (36, .int .u8 ((nth x0 ((IntKind.wrap .i64 (((IntKind.wrap .i64 ((x0.length : Int) - 4))) + 3)))))), (35, .ep [.int .u8 ((nth x0 ((IntKind.wrap .i64 (((IntKind.wrap .i64 ((x0.length : Int) - 4))) + 3)))))]), (34, .int .i64 ((IntKind.wrap .i64 (((IntKind.wrap .i64 ((x0.length : Int) - 4))) + 3)))), (33, .int .i64 ((IntKind.wrap .i64 ((x0.length : Int) - 4)))), (32, lsv (encI .u8) 1 x0), (31, .int .u32 ((IntKind.wrap .u32 (((IntKind.wrap .u32 (((IntKind.wrap .u32 ((nth x0 ((IntKind.wrap .i64 ((x0.length : Int) - 4))))))) + ((IntKind.wrap .u32 (((IntKind.wrap .u32 ((nth x0 ((IntKind.wrap .i64 (((IntKind.wrap .i64 ((x0.length : Int) - 4))) + 1))))))) * 256)))))) + ((IntKind.wrap .u32 (((IntKind.wrap .u32 ((nth x0 ((IntKind.wrap .i64 (((IntKind.wrap .i64 ((x0.length : Int) - 4))) + 2))))))) * 65536))))))), (30, .int .u32 ((IntKind.wrap .u32 (((IntKind.wrap .u32 ((nth x0 ((IntKind.wrap .i64 (((IntKind.wrap .i64 ((x0.length : Int) - 4))) + 2))))))) * 65536)))), (29, .int .u32 ((IntKind.wrap .u32 ((nth x0 ((IntKind.wrap .i64 (((IntKind.wrap .i64 ((x0.length : Int) - 4))) + 2)))))))), (28, .int .u8 ((nth x0 ((IntKind.wrap .i64 (((IntKind.wrap .i64 ((x0.length : Int) - 4))) + 2)))))), (27, .ep [.int .u8 ((nth x0 ((IntKind.wrap .i64 (((IntKind.wrap .i64 ((x0.length : Int) - 4))) + 2)))))]), (26, .int .i64 ((IntKind.wrap .i64 (((IntKind.wrap .i64 ((x0.length : Int) - 4))) + 2)))), (25, .int .i64 ((IntKind.wrap .i64 ((x0.length : Int) - 4)))), (24, lsv (encI .u8) 1 x0), (23, .int .u32 ((IntKind.wrap .u32 (((IntKind.wrap .u32 ((nth x0 ((IntKind.wrap .i64 ((x0.length : Int) - 4))))))) + ((IntKind.wrap .u32 (((IntKind.wrap .u32 ((nth x0 ((IntKind.wrap .i64 (((IntKind.wrap .i64 ((x0.length : Int) - 4))) + 1))))))) * 256))))))), (22, .int .u32 ((IntKind.wrap .u32 (((IntKind.wrap .u32 ((nth x0 ((IntKind.wrap .i64 (((IntKind.wrap .i64 ((x0.length : Int) - 4))) + 1))))))) * 256)))), (21, .int .u32 ((IntKind.wrap .u32 ((nth x0 ((IntKind.wrap .i64 (((IntKind.wrap .i64 ((x0.length : Int) - 4))) + 1)))))))), (20, .int .u8 ((nth x0 ((IntKind.wrap .i64 (((IntKind.wrap .i64 ((x0.length : Int) - 4))) + 1)))))), (19, .ep [.int .u8 ((nth x0 ((IntKind.wrap .i64 (((IntKind.wrap .i64 ((x0.length : Int) - 4))) + 1)))))]), (18, .int .i64 ((IntKind.wrap .i64 (((IntKind.wrap .i64 ((x0.length : Int) - 4))) + 1)))), (17, .int .i64 ((IntKind.wrap .i64 ((x0.length : Int) - 4)))), (16, lsv (encI .u8) 1 x0), (15, .int .u32 ((IntKind.wrap .u32 ((nth x0 ((IntKind.wrap .i64 ((x0.length : Int) - 4)))))))), (14, .int .u8 ((nth x0 ((IntKind.wrap .i64 ((x0.length : Int) - 4)))))), (13, .ep [.int .u8 ((nth x0 ((IntKind.wrap .i64 ((x0.length : Int) - 4)))))]), (12, .int .i64 ((IntKind.wrap .i64 ((x0.length : Int) - 4)))), (11, lsv (encI .u8) 1 x0), (0, lsv (encI .u8) 1 x0), (2, .nl), (3, .int .i64 0), (4, .int .i64 ((IntKind.wrap .i64 ((x0.length : Int) - 4))))]) (H2 := []) (by kernel_rfl) ?_
    refine RJ.end (by kernel_rfl) ?_
    refine PJ.next ?_
    refine K.seq (by kernel_rfl) ?_
    refine K.seq (by kernel_rfl) ?_
    refine K.region (by kernel_rfl) ?_
    refine RJ.seg 3 [0, 2, 3, 4, 40, 41, 42] (L2 := [(0, lsv (encI .u8) 1 x0), (2, .nl), (3, .int .i64 0), (4, .int .i64 ((IntKind.wrap .i64 ((x0.length : Int) - 4)))), (40, .int .u32 ((IntKind.wrap .u32 (((IntKind.wrap .u32 (((IntKind.wrap .u32 (((IntKind.wrap .u32 ((nth x0 ((IntKind.wrap .i64 ((x0.length : Int) - 4))))))) + ((IntKind.wrap .u32 (((IntKind.wrap .u32 ((nth x0 ((IntKind.wrap .i64 (((IntKind.wrap .i64 ((x0.length : Int) - 4))) + 1))))))) * 256)))))) + ((IntKind.wrap .u32 (((IntKind.wrap .u32 ((nth x0 ((IntKind.wrap .i64 (((IntKind.wrap .i64 ((x0.length : Int) - 4))) + 2))))))) * 65536)))))) + ((IntKind.wrap .u32 (((IntKind.wrap .u32 ((nth x0 ((IntKind.wrap .i64 (((IntKind.wrap .i64 ((x0.length : Int) - 4))) + 3))))))) * 16777216))))))), (41, lsv (encI .u8) 1 x0), (42, .int .i64 ((IntKind.wrap .i64 ((x0.length : Int) - 4))))]) (H2 := []) (by kernel_rfl) ?_
    obtain ⟨hm, h8⟩ := asrt h7
    refine RJ.rel (d := (some 43)) (ef := ⟨.lst (((IntKind.wrap .i64 ((x0.length : Int) - 4)) : Int).toNat - (0 : Int).toNat) 1 (((x0.flatMap (encI .u8)).take (((IntKind.wrap .i64 ((x0.length : Int) - 4)) : Int).toNat * 1)).drop ((0 : Int).toNat * 1)), [], []⟩) (ef' := ⟨.lst (cut x0 0 ((IntKind.wrap .i64 ((x0.length : Int) - 4)))).length 1 ((cut x0 0 ((IntKind.wrap .i64 ((x0.length : Int) - 4)))).flatMap (encI .u8)), [], []⟩) (c := inS 0 ((IntKind.wrap .i64 ((x0.length : Int) - 4))) x0.length) (tr2 := []) (H2 := []) (by kernel_rfl) hm (fun hc => N.slice (encI_len .u8) hc) (by kernel_rfl) ?_
    obtain ⟨y9, hy10, h11⟩ := bindS h8
    refine RJ.call0 (d := (some 44)) (f := 18) (args := [lsv (encI .u8) 1 ((cut x0 0 ((IntKind.wrap .i64 ((x0.length : Int) - 4)))))]) (v := .int .u32 y9) (tr2 := []) (by kernel_rfl) (by kernel_rfl) (.cons (Le.refl _) .nil) (exergueref08_Of_ok hy10) (by kernel_rfl) ?_
    refine RJ.seg 1 [0, 2, 3, 4, 45] (L2 := [(0, lsv (encI .u8) 1 x0), (2, .nl), (3, .int .i64 0), (4, .int .i64 ((IntKind.wrap .i64 ((x0.length : Int) - 4)))), (45, .bool ((decide (¬ ((IntKind.wrap .u32 (((IntKind.wrap .u32 (((IntKind.wrap .u32 (((IntKind.wrap .u32 ((nth x0 ((IntKind.wrap .i64 ((x0.length : Int) - 4))))))) + ((IntKind.wrap .u32 (((IntKind.wrap .u32 ((nth x0 ((IntKind.wrap .i64 (((IntKind.wrap .i64 ((x0.length : Int) - 4))) + 1))))))) * 256)))))) + ((IntKind.wrap .u32 (((IntKind.wrap .u32 ((nth x0 ((IntKind.wrap .i64 (((IntKind.wrap .i64 ((x0.length : Int) - 4))) + 2))))))) * 65536)))))) + ((IntKind.wrap .u32 (((IntKind.wrap .u32 ((nth x0 ((IntKind.wrap .i64 (((IntKind.wrap .i64 ((x0.length : Int) - 4))) + 3))))))) * 16777216)))))) = y9))))]) (H2 := []) (by kernel_rfl) ?_
    refine RJ.end (by kernel_rfl) ?_
    refine PJ.next ?_
    refine J.caseB 45 (b := (decide (¬ ((IntKind.wrap .u32 (((IntKind.wrap .u32 (((IntKind.wrap .u32 (((IntKind.wrap .u32 ((nth x0 ((IntKind.wrap .i64 ((x0.length : Int) - 4))))))) + ((IntKind.wrap .u32 (((IntKind.wrap .u32 ((nth x0 ((IntKind.wrap .i64 (((IntKind.wrap .i64 ((x0.length : Int) - 4))) + 1))))))) * 256)))))) + ((IntKind.wrap .u32 (((IntKind.wrap .u32 ((nth x0 ((IntKind.wrap .i64 (((IntKind.wrap .i64 ((x0.length : Int) - 4))) + 2))))))) * 65536)))))) + ((IntKind.wrap .u32 (((IntKind.wrap .u32 ((nth x0 ((IntKind.wrap .i64 (((IntKind.wrap .i64 ((x0.length : Int) - 4))) + 3))))))) * 16777216)))))) = y9))) (by kernel_rfl) (fun hb12 => ?_) (fun hb12 => ?_)
    · have h13 := condT hb12 h11
      refine K.condT (by kernel_rfl) ?_
      refine K.seq (by kernel_rfl) ?_
      refine K.region (by kernel_rfl) ?_
      refine RJ.seg 2 [0, 2, 3, 4] (L2 := [(0, lsv (encI .u8) 1 x0), (2, .nl), (3, .int .i64 6), (4, .int .i64 ((IntKind.wrap .i64 ((x0.length : Int) - 4))))]) (H2 := []) (by kernel_rfl) ?_
      refine RJ.end (by kernel_rfl) ?_
      refine PJ.next ?_
      refine K.ret (by kernel_rfl) ?_
      refine PJ.passRet ?_
      obtain rfl := Option.some.inj h13
      refine PJ.res (v1 := .tup [.nl, .int .i64 6]) (Le.tup (.cons (Le.nl _) (.cons (Le.refl _) .nil))) ?_
      exact K.ret0 (.inr rfl) hFn hFH hFD (by kernel_rfl) (by kernel_rfl) (by kernel_rfl)
    · have h14 := condF hb12 h11
      refine K.condF (by kernel_rfl) ?_
      refine K.skip (by kernel_rfl) ?_
      refine PJ.next ?_
      refine K.seq (by kernel_rfl) ?_
      refine K.region (by kernel_rfl) ?_
      refine RJ.seg 2 [2, 3, 46, 47] (L2 := [(2, .nl), (3, .int .i64 0), (46, lsv (encI .u8) 1 x0), (47, .int .i64 ((IntKind.wrap .i64 ((x0.length : Int) - 4))))]) (H2 := []) (by kernel_rfl) ?_
      obtain ⟨hm, h15⟩ := asrt h14
      refine RJ.rel (d := (some 48)) (ef := ⟨.lst (((IntKind.wrap .i64 ((x0.length : Int) - 4)) : Int).toNat - (0 : Int).toNat) 1 (((x0.flatMap (encI .u8)).take (((IntKind.wrap .i64 ((x0.length : Int) - 4)) : Int).toNat * 1)).drop ((0 : Int).toNat * 1)), [], []⟩) (ef' := ⟨.lst (cut x0 0 ((IntKind.wrap .i64 ((x0.length : Int) - 4)))).length 1 ((cut x0 0 ((IntKind.wrap .i64 ((x0.length : Int) - 4)))).flatMap (encI .u8)), [], []⟩) (c := inS 0 ((IntKind.wrap .i64 ((x0.length : Int) - 4))) x0.length) (tr2 := []) (H2 := []) (by kernel_rfl) hm (fun hc => N.slice (encI_len .u8) hc) (by kernel_rfl) ?_
      refine RJ.seg 2 [2, 3] (L2 := [(2, lsv (encI .u8) 1 ((cut x0 0 ((IntKind.wrap .i64 ((x0.length : Int) - 4)))))), (3, .int .i64 0)]) (H2 := []) (by kernel_rfl) ?_
      refine RJ.end (by kernel_rfl) ?_
      refine PJ.next ?_
      refine K.ret (by kernel_rfl) ?_
      obtain rfl := Option.some.inj h15
      exact K.ret0 (.inr rfl) hFn hFH hFD (by kernel_rfl) (by kernel_rfl) (by kernel_rfl)

def exergueref08_Put (x0 : List Int) : Option (List Int) :=
  (Option.bind (exergueref08_Of x0) fun y1 => (bif room x0.length then (bif room (x0.length + (([(IntKind.wrap .u8 (Int.tmod y1 256)), (IntKind.wrap .u8 ((Int.tmod (IntKind.wrap .u32 (Int.tdiv y1 256)) 256))), (IntKind.wrap .u8 ((Int.tmod (IntKind.wrap .u32 (Int.tdiv y1 65536)) 256))), (IntKind.wrap .u8 (IntKind.wrap .u32 (Int.tdiv y1 16777216)))] : List Int)).length) then (some (x0 ++ (([(IntKind.wrap .u8 (Int.tmod y1 256)), (IntKind.wrap .u8 ((Int.tmod (IntKind.wrap .u32 (Int.tdiv y1 256)) 256))), (IntKind.wrap .u8 ((Int.tmod (IntKind.wrap .u32 (Int.tdiv y1 65536)) 256))), (IntKind.wrap .u8 (IntKind.wrap .u32 (Int.tdiv y1 16777216)))] : List Int)))) else none) else none))
theorem exergueref08_Put_ok {x0 : List Int} {r : List Int} (h : exergueref08_Put x0 = some r) : SC Try.prog 21 [lsv (encI .u8) 1 x0] [] (lsv (encI .u8) 1 r) [] := by
  refine K.fn (fn := Try.f21) (by kernel_rfl) (by kernel_rfl) (by kernel_rfl) (by kernel_rfl) (by kernel_rfl) (fun F hFn hFH hFD => ?_)
  unfold exergueref08_Put at h
  refine K.seq (by kernel_rfl) ?_
  refine K.region (by kernel_rfl) ?_
  refine RJ.seg 1 [0, 2] (L2 := [(0, lsv (encI .u8) 1 x0), (2, .nl)]) (H2 := []) (by kernel_rfl) ?_
  refine RJ.end (by kernel_rfl) ?_
  refine PJ.next ?_
  refine K.seq (by kernel_rfl) ?_
  refine K.region (by kernel_rfl) ?_
  refine RJ.seg 1 [0, 2, 5] (L2 := [(0, lsv (encI .u8) 1 x0), (2, .nl), (5, lsv (encI .u8) 1 x0)]) (H2 := []) (by kernel_rfl) ?_
  obtain ⟨y1, hy2, h3⟩ := bindS h
  refine RJ.call0 (d := (some 6)) (f := 18) (args := [lsv (encI .u8) 1 x0]) (v := .int .u32 y1) (tr2 := []) (by kernel_rfl) (by kernel_rfl) (.cons (Le.refl _) .nil) (exergueref08_Of_ok hy2) (by kernel_rfl) ?_
  refine RJ.seg 1 [0, 2, 3] (L2 := [(0, lsv (encI .u8) 1 x0), (2, .nl), (3, .int .u32 y1)]) (H2 := []) (by kernel_rfl) ?_
  refine RJ.end (by kernel_rfl) ?_
  refine PJ.next ?_
  refine K.seq (by kernel_rfl) ?_
  refine K.region (by kernel_rfl) ?_
  refine RJ.seg 2 [2, 3, 7, 8] (L2 := [(2, .nl), (3, .int .u32 y1), (7, .nl), (8, lsv (encI .u8) 1 x0)]) (H2 := []) (by kernel_rfl) ?_
  obtain ⟨hm, h4⟩ := asrt h3
  refine RJ.rel (d := (some 9)) (ef := ⟨.vc 0, [], [(0, .vec x0.length 1 5 (x0.flatMap (encI .u8)))]⟩) (ef' := ⟨.vc 0, [], [(0, .vec x0.length 1 5 (x0.flatMap (encI .u8)))]⟩) (c := roomB x0.length) (tr2 := []) (H2 := [vecL (encI .u8) 1 5 x0]) (by kernel_rfl) (roomB_of_room hm) (fun hc => rfl) (by kernel_rfl) ?_
  refine RJ.seg 1 [2, 3, 4] (L2 := [(2, .nl), (3, .int .u32 y1), (4, .vc 0)]) (H2 := [vecL (encI .u8) 1 5 x0]) (by kernel_rfl) ?_
  refine RJ.end (by kernel_rfl) ?_
  refine PJ.next ?_
  refine K.seq (by kernel_rfl) ?_
  refine K.region (by kernel_rfl) ?_
  refine RJ.seg 16 [2, 10, 25] (L2 := [(2, .nl), (10, .vc 0), (25, .vc 1)]) (H2 := [vecL (encI .u8) 1 5 x0, vecL (encI .u8) 1 5 (([(IntKind.wrap .u8 (Int.tmod y1 256)), (IntKind.wrap .u8 ((Int.tmod (IntKind.wrap .u32 (Int.tdiv y1 256)) 256))), (IntKind.wrap .u8 ((Int.tmod (IntKind.wrap .u32 (Int.tdiv y1 65536)) 256))), (IntKind.wrap .u8 (IntKind.wrap .u32 (Int.tdiv y1 16777216)))] : List Int))]) (by kernel_rfl) ?_
  obtain ⟨hm, h5⟩ := asrt h4
  refine RJ.rel (d := (some 26)) (ef := ⟨.vc 2, [0, 1], [(0, .gone), (2, .vec (x0.length + (([(IntKind.wrap .u8 (Int.tmod y1 256)), (IntKind.wrap .u8 ((Int.tmod (IntKind.wrap .u32 (Int.tdiv y1 256)) 256))), (IntKind.wrap .u8 ((Int.tmod (IntKind.wrap .u32 (Int.tdiv y1 65536)) 256))), (IntKind.wrap .u8 (IntKind.wrap .u32 (Int.tdiv y1 16777216)))] : List Int)).length) 1 5 (x0.flatMap (encI .u8) ++ (([(IntKind.wrap .u8 (Int.tmod y1 256)), (IntKind.wrap .u8 ((Int.tmod (IntKind.wrap .u32 (Int.tdiv y1 256)) 256))), (IntKind.wrap .u8 ((Int.tmod (IntKind.wrap .u32 (Int.tdiv y1 65536)) 256))), (IntKind.wrap .u8 (IntKind.wrap .u32 (Int.tdiv y1 16777216)))] : List Int)).flatMap (encI .u8)))]⟩) (ef' := ⟨.vc 2, [0, 1], [(0, .gone), (2, vecL (encI .u8) 1 5 (x0 ++ (([(IntKind.wrap .u8 (Int.tmod y1 256)), (IntKind.wrap .u8 ((Int.tmod (IntKind.wrap .u32 (Int.tdiv y1 256)) 256))), (IntKind.wrap .u8 ((Int.tmod (IntKind.wrap .u32 (Int.tdiv y1 65536)) 256))), (IntKind.wrap .u8 (IntKind.wrap .u32 (Int.tdiv y1 16777216)))] : List Int))))]⟩) (c := roomB (x0.length + (([(IntKind.wrap .u8 (Int.tmod y1 256)), (IntKind.wrap .u8 ((Int.tmod (IntKind.wrap .u32 (Int.tdiv y1 256)) 256))), (IntKind.wrap .u8 ((Int.tmod (IntKind.wrap .u32 (Int.tdiv y1 65536)) 256))), (IntKind.wrap .u8 (IntKind.wrap .u32 (Int.tdiv y1 16777216)))] : List Int)).length)) (tr2 := []) (H2 := [.gone, vecL (encI .u8) 1 5 (([(IntKind.wrap .u8 (Int.tmod y1 256)), (IntKind.wrap .u8 ((Int.tmod (IntKind.wrap .u32 (Int.tdiv y1 256)) 256))), (IntKind.wrap .u8 ((Int.tmod (IntKind.wrap .u32 (Int.tdiv y1 65536)) 256))), (IntKind.wrap .u8 (IntKind.wrap .u32 (Int.tdiv y1 16777216)))] : List Int)), vecL (encI .u8) 1 5 ((x0 ++ (([(IntKind.wrap .u8 (Int.tmod y1 256)), (IntKind.wrap .u8 ((Int.tmod (IntKind.wrap .u32 (Int.tdiv y1 256)) 256))), (IntKind.wrap .u8 ((Int.tmod (IntKind.wrap .u32 (Int.tdiv y1 65536)) 256))), (IntKind.wrap .u8 (IntKind.wrap .u32 (Int.tdiv y1 16777216)))] : List Int))))]) (by kernel_rfl) (roomB_of_room hm) (fun hc => N.app) (by kernel_rfl) ?_
  refine RJ.seg 1 [2] (L2 := [(2, .vc 2)]) (H2 := [.gone, vecL (encI .u8) 1 5 (([(IntKind.wrap .u8 (Int.tmod y1 256)), (IntKind.wrap .u8 ((Int.tmod (IntKind.wrap .u32 (Int.tdiv y1 256)) 256))), (IntKind.wrap .u8 ((Int.tmod (IntKind.wrap .u32 (Int.tdiv y1 65536)) 256))), (IntKind.wrap .u8 (IntKind.wrap .u32 (Int.tdiv y1 16777216)))] : List Int)), vecL (encI .u8) 1 5 ((x0 ++ (([(IntKind.wrap .u8 (Int.tmod y1 256)), (IntKind.wrap .u8 ((Int.tmod (IntKind.wrap .u32 (Int.tdiv y1 256)) 256))), (IntKind.wrap .u8 ((Int.tmod (IntKind.wrap .u32 (Int.tdiv y1 65536)) 256))), (IntKind.wrap .u8 (IntKind.wrap .u32 (Int.tdiv y1 16777216)))] : List Int))))]) (by kernel_rfl) ?_
  refine RJ.end (by kernel_rfl) ?_
  refine PJ.next ?_
  refine K.ret (by kernel_rfl) ?_
  obtain rfl := Option.some.inj h5
  refine PJ.wk (Wk.freeze 2 (n := ((x0 ++ (([(IntKind.wrap .u8 (Int.tmod y1 256)), (IntKind.wrap .u8 ((Int.tmod (IntKind.wrap .u32 (Int.tdiv y1 256)) 256))), (IntKind.wrap .u8 ((Int.tmod (IntKind.wrap .u32 (Int.tdiv y1 65536)) 256))), (IntKind.wrap .u8 (IntKind.wrap .u32 (Int.tdiv y1 16777216)))] : List Int)))).length) (k := 1) (e := 5) (cs := ((x0 ++ (([(IntKind.wrap .u8 (Int.tmod y1 256)), (IntKind.wrap .u8 ((Int.tmod (IntKind.wrap .u32 (Int.tdiv y1 256)) 256))), (IntKind.wrap .u8 ((Int.tmod (IntKind.wrap .u32 (Int.tdiv y1 65536)) 256))), (IntKind.wrap .u8 (IntKind.wrap .u32 (Int.tdiv y1 16777216)))] : List Int)))).flatMap (encI .u8)) (by kernel_rfl)) ?_
  exact K.ret0 (.inr rfl) hFn hFH hFD (by kernel_rfl) (by kernel_rfl) (by kernel_rfl)

def exergueref01_Row (x0 : List Int) (x1 : List Int) : Option (Bool) :=
  (bif (decide (¬ (x0.length : Int) = (x1.length : Int))) then (some false) else (Option.bind (loopN (fun (s51 : Int) => (bif (decide (s51 < (x0.length : Int))) then (bif inR s51 x0.length then (bif inR s51 x1.length then (bif (decide (¬ (nth x0 s51) = (nth x1 s51))) then (some (.inr (.inr false))) else (some (.inl (IntKind.wrap .i64 (s51 + 1))))) else none) else none) else (some (.inr (.inl ()))))) big 0) (joinX fun (s46 : Unit) => (some true))))
theorem exergueref01_Row_ok {x0 : List Int} {x1 : List Int} {r : Bool} (h : exergueref01_Row x0 x1 = some r) : SC Try.prog 19 [lsv (encI .u8) 1 x0, lsv (encI .u8) 1 x1] [] (.bool r) [] := by
  refine K.fn (fn := Try.f19) (by kernel_rfl) (by kernel_rfl) (by kernel_rfl) (by kernel_rfl) (by kernel_rfl) (fun F hFn hFH hFD => ?_)
  unfold exergueref01_Row at h
  refine K.seq (by kernel_rfl) ?_
  refine K.region (by kernel_rfl) ?_
  refine RJ.seg 1 [0, 1, 4] (L2 := [(0, lsv (encI .u8) 1 x0), (1, lsv (encI .u8) 1 x1), (4, .bool false)]) (H2 := []) (by kernel_rfl) ?_
  refine RJ.end (by kernel_rfl) ?_
  refine PJ.next ?_
  refine K.seq (by kernel_rfl) ?_
  refine K.seq (by kernel_rfl) ?_
  refine K.region (by kernel_rfl) ?_
  refine RJ.seg 5 [0, 1, 4, 10] (L2 := [(0, lsv (encI .u8) 1 x0), (1, lsv (encI .u8) 1 x1), (4, .bool false), (10, .bool ((decide (¬ (x0.length : Int) = (x1.length : Int)))))]) (H2 := []) (by kernel_rfl) ?_
  refine RJ.end (by kernel_rfl) ?_
  refine PJ.next ?_
  refine J.caseB 10 (b := (decide (¬ (x0.length : Int) = (x1.length : Int)))) (by kernel_rfl) (fun hb1 => ?_) (fun hb1 => ?_)
  · have h2 := condT hb1 h
    refine K.condT (by kernel_rfl) ?_
    refine K.seq (by kernel_rfl) ?_
    refine K.region (by kernel_rfl) ?_
    refine RJ.seg 1 [0, 1, 4] (L2 := [(0, lsv (encI .u8) 1 x0), (1, lsv (encI .u8) 1 x1), (4, .bool false)]) (H2 := []) (by kernel_rfl) ?_
    refine RJ.end (by kernel_rfl) ?_
    refine PJ.next ?_
    refine K.ret (by kernel_rfl) ?_
    refine PJ.passRet ?_
    obtain rfl := Option.some.inj h2
    exact K.ret0 (.inr rfl) hFn hFH hFD (by kernel_rfl) (by kernel_rfl) (by kernel_rfl)
  · have h3 := condF hb1 h
    refine K.condF (by kernel_rfl) ?_
    refine K.skip (by kernel_rfl) ?_
    refine PJ.next ?_
    obtain ⟨y47, hy48, h49⟩ := bindS h3
    refine K.cutX (by kernel_rfl) (fun (s46 : Unit) => ([(4, .bool false)], [])) y47 ?_ (fun s46 hs => ?_)
    · refine K.seq (by kernel_rfl) ?_
      refine K.region (by kernel_rfl) ?_
      refine RJ.seg 1 [0, 1, 4, 5] (L2 := [(0, lsv (encI .u8) 1 x0), (1, lsv (encI .u8) 1 x1), (4, .bool false), (5, .int .i64 0)]) (H2 := []) (by kernel_rfl) ?_
      refine RJ.end (by kernel_rfl) ?_
      refine PJ.next ?_
      refine K.block 0 (by kernel_rfl) ?_
      refine K.loop (by kernel_rfl) (fun (s51 : Int) => ([(0, lsv (encI .u8) 1 x0), (1, lsv (encI .u8) 1 x1), (4, .bool false), (5, .int .i64 s51)], [])) hy48 [0, 1, 4, 5] (by kernel_rfl) (by kernel_rfl) (fun s51 x79 hs78 => ?_)
      refine K.seq (by kernel_rfl) ?_
      refine K.seq (by kernel_rfl) ?_
      refine K.region (by kernel_rfl) ?_
      refine RJ.seg 4 [0, 1, 4, 5, 14] (L2 := [(0, lsv (encI .u8) 1 x0), (1, lsv (encI .u8) 1 x1), (4, .bool false), (5, .int .i64 s51), (14, .bool ((decide (s51 < (x0.length : Int)))))]) (H2 := []) (by kernel_rfl) ?_
      refine RJ.end (by kernel_rfl) ?_
      refine PJ.next ?_
      refine J.caseB 14 (b := (decide (s51 < (x0.length : Int)))) (by kernel_rfl) (fun hb80 => ?_) (fun hb80 => ?_)
      · have h81 := condT hb80 hs78
        refine K.condT (by kernel_rfl) ?_
        refine K.skip (by kernel_rfl) ?_
        refine PJ.next ?_
        refine K.seq (by kernel_rfl) ?_
        refine K.block 1 (by kernel_rfl) ?_
        refine K.seq (by kernel_rfl) ?_
        refine J.keep [0, 1, 4, 5] (L2 := [(0, lsv (encI .u8) 1 x0), (1, lsv (encI .u8) 1 x1), (4, .bool false), (5, .int .i64 s51)]) (by kernel_rfl) ?_
        refine K.draw (by kernel_rfl) (by kernel_rfl) (by kernel_rfl) (H2 := []) (by kernel_rfl) (n := 0) (by kernel_rfl) ?_
        refine RJ.segD 2 (tr2 := [([], []), ([], [])]) (L2 := [(18, .int .i64 s51), (17, lsv (encI .u8) 1 x0), (0, lsv (encI .u8) 1 x0), (1, lsv (encI .u8) 1 x1), (4, .bool false), (5, .int .i64 s51)]) (H2 := []) (by kernel_rfl) ?_
        obtain ⟨hm, h83⟩ := asrt h81
        refine RJ.rel (d := (some 19)) (ef := ⟨.ep (((x0.flatMap (encI .u8)).drop ((s51 : Int).toNat * 1)).take 1), [], []⟩) (ef' := ⟨.ep ((encI .u8) (nth x0 s51)), [], []⟩) (c := inR s51 x0.length) (tr2 := [([], []), ([], []), ([], [])]) (H2 := []) (by kernel_rfl) hm (fun hc => N.idx (encI_len .u8) hc) (by kernel_rfl) ?_
        refine RJ.segD 3 (tr2 := [([], []), ([], []), ([], []), ([], []), ([], []), ([], [])]) (L2 := [(22, .int .i64 s51), (21, lsv (encI .u8) 1 x1), (20, .int .u8 (nth x0 s51)), (19, .ep [.int .u8 (nth x0 s51)]), (18, .int .i64 s51), (17, lsv (encI .u8) 1 x0), (0, lsv (encI .u8) 1 x0), (1, lsv (encI .u8) 1 x1), (4, .bool false), (5, .int .i64 s51)]) (H2 := []) (by kernel_rfl) ?_
        obtain ⟨hm, h84⟩ := asrt h83
        refine RJ.rel (d := (some 23)) (ef := ⟨.ep (((x1.flatMap (encI .u8)).drop ((s51 : Int).toNat * 1)).take 1), [], []⟩) (ef' := ⟨.ep ((encI .u8) (nth x1 s51)), [], []⟩) (c := inR s51 x1.length) (tr2 := [([], []), ([], []), ([], []), ([], []), ([], []), ([], []), ([], [])]) (H2 := []) (by kernel_rfl) hm (fun hc => N.idx (encI_len .u8) hc) (by kernel_rfl) ?_
        refine RJ.segD 2 (tr2 := [([], []), ([], []), ([], []), ([], []), ([], []), ([], []), ([], []), ([], []), ([], [])]) (L2 := [(25, .bool ((decide (¬ (nth x0 s51) = (nth x1 s51))))), (24, .int .u8 (nth x1 s51)), (23, .ep [.int .u8 (nth x1 s51)]), (22, .int .i64 s51), (21, lsv (encI .u8) 1 x1), (20, .int .u8 (nth x0 s51)), (19, .ep [.int .u8 (nth x0 s51)]), (18, .int .i64 s51), (17, lsv (encI .u8) 1 x0), (0, lsv (encI .u8) 1 x0), (1, lsv (encI .u8) 1 x1), (4, .bool false), (5, .int .i64 s51)]) (H2 := []) (by kernel_rfl) ?_
        refine RJ.end (by kernel_rfl) ?_
        refine PJ.next ?_
        refine J.caseB 25 (b := (decide (¬ (nth x0 s51) = (nth x1 s51)))) (by kernel_rfl) (fun hb85 => ?_) (fun hb85 => ?_)
        · have h86 := condT hb85 h84
          refine K.condT (by kernel_rfl) ?_
          refine K.seq (by kernel_rfl) ?_
          refine K.region (by kernel_rfl) ?_
          refine RJ.seg 1 [0, 1, 4, 5] (L2 := [(0, lsv (encI .u8) 1 x0), (1, lsv (encI .u8) 1 x1), (4, .bool false), (5, .int .i64 s51)]) (H2 := []) (by kernel_rfl) ?_
          refine RJ.end (by kernel_rfl) ?_
          refine PJ.next ?_
          refine K.ret (by kernel_rfl) ?_
          refine PJ.blockRet ?_
          refine PJ.passRet ?_
          obtain rfl := Option.some.inj h86
          refine PJ.loopOut (fun e => nomatch e) (fun he90 => ?_)
          have h88 := congrArg some he90
          refine PJ.blockRet ?_
          obtain rfl := Option.some.inj h88
          have h89 := joinX_inr h49
          refine PJ.cutXr (fun e => nomatch e) ?_
          obtain rfl := Option.some.inj h89
          exact K.ret0 (.inr rfl) hFn hFH hFD (by kernel_rfl) (by kernel_rfl) (by kernel_rfl)
        · have h87 := condF hb85 h84
          refine K.condF (by kernel_rfl) ?_
          refine K.skip (by kernel_rfl) ?_
          refine PJ.blockNormal ?_
          refine PJ.next ?_
          refine K.region (by kernel_rfl) ?_
          refine RJ.seg 3 [0, 1, 4, 5] (L2 := [(0, lsv (encI .u8) 1 x0), (1, lsv (encI .u8) 1 x1), (4, .bool false), (5, .int .i64 (IntKind.wrap .i64 (s51 + 1)))]) (H2 := []) (by kernel_rfl) ?_
          refine RJ.end (by kernel_rfl) ?_
          obtain rfl := Option.some.inj h87
          exact PJ.loopNext [0, 1, 4, 5] (by kernel_rfl) (by kernel_rfl)
      · have h82 := condF hb80 hs78
        refine K.condF (by kernel_rfl) ?_
        refine K.exit 0 (by kernel_rfl) ?_
        refine PJ.passExit ?_
        obtain rfl := Option.some.inj h82
        refine PJ.loopOut (fun e => nomatch e) (fun he92 => ?_)
        have h91 := congrArg some he92
        refine PJ.blockOut ?_
        obtain rfl := Option.some.inj h91
        exact PJ.cutXl [4] (by kernel_rfl) (by kernel_rfl)
    · subst hs
      have h50 := joinX_inl h49
      refine K.seq (by kernel_rfl) ?_
      refine K.region (by kernel_rfl) ?_
      refine RJ.seg 1 [4] (L2 := [(4, .bool true)]) (H2 := []) (by kernel_rfl) ?_
      refine RJ.end (by kernel_rfl) ?_
      refine PJ.next ?_
      refine K.ret (by kernel_rfl) ?_
      obtain rfl := Option.some.inj h50
      exact K.ret0 (.inr rfl) hFn hFH hFD (by kernel_rfl) (by kernel_rfl) (by kernel_rfl)

def exerguelaw08_CrcTells (x0 : Int) (x1 : Int) (x2 : List Int) : Option (Bool) :=
  (Option.bind exerguelaw08_shown fun y1 => (bif (decide ((x2.length : Int) > 2000)) then (some y1) else (Option.bind (crc_Cut x2) fun y7 => (Option.bind (exergueref08_Cut x2) fun y10 => (Option.bind (bif y1 then (Option.bind (crc_Step x0 x1) fun y69 => (Option.bind (exergueref08_Step x0 x1) fun y72 => (bif (decide (y69 = y72)) then (Option.bind (crc_On x0 x2) fun y78 => (Option.bind (exergueref08_On x0 x2) fun y81 => (bif (decide (y78 = y81)) then (Option.bind (crc_Of x2) fun y87 => (Option.bind (exergueref08_Of x2) fun y90 => (bif (decide (y87 = y90)) then (Option.bind (crc_Put x2) fun y96 => (Option.bind (exergueref08_Put x2) fun y99 => (Option.bind (exergueref01_Row y96 y99) fun y102 => (bif y102 then (Option.bind (exergueref01_Row y7.1 y10.1) fun y108 => (bif y108 then (some (decide (y7.2 = y10.2))) else (some false))) else (some false))))) else (some false)))) else (some false)))) else (some false)))) else (some false)) fun (s61 : Bool) => (some s61))))))
theorem exerguelaw08_CrcTells_ok {x0 : Int} {x1 : Int} {x2 : List Int} {r : Bool} (h : exerguelaw08_CrcTells x0 x1 x2 = some r) : SC Try.prog 3 [.int .u32 x0, .int .u8 x1, lsv (encI .u8) 1 x2] [] (.bool r) [] := by
  refine K.fn (fn := Try.f3) (by kernel_rfl) (by kernel_rfl) (by kernel_rfl) (by kernel_rfl) (by kernel_rfl) (fun F hFn hFH hFD => ?_)
  unfold exerguelaw08_CrcTells at h
  refine K.seq (by kernel_rfl) ?_
  refine K.region (by kernel_rfl) ?_
  refine RJ.seg 1 [0, 1, 2, 6] (L2 := [(0, .int .u32 x0), (1, .int .u8 x1), (2, lsv (encI .u8) 1 x2), (6, .bool false)]) (H2 := []) (by kernel_rfl) ?_
  refine RJ.end (by kernel_rfl) ?_
  refine PJ.next ?_
  refine K.seq (by kernel_rfl) ?_
  refine K.region (by kernel_rfl) ?_
  obtain ⟨y1, hy2, h3⟩ := bindS h
  refine RJ.call0 (d := (some 12)) (f := 10) (args := []) (v := .bool y1) (tr2 := []) (by kernel_rfl) (by kernel_rfl) .nil (exerguelaw08_shown_ok hy2) (by kernel_rfl) ?_
  refine RJ.seg 1 [0, 1, 2, 6, 7] (L2 := [(0, .int .u32 x0), (1, .int .u8 x1), (2, lsv (encI .u8) 1 x2), (6, .bool false), (7, .bool y1)]) (H2 := []) (by kernel_rfl) ?_
  refine RJ.end (by kernel_rfl) ?_
  refine PJ.next ?_
  refine K.seq (by kernel_rfl) ?_
  refine K.seq (by kernel_rfl) ?_
  refine K.region (by kernel_rfl) ?_
  refine RJ.seg 3 [0, 1, 2, 6, 7, 15] (L2 := [(0, .int .u32 x0), (1, .int .u8 x1), (2, lsv (encI .u8) 1 x2), (6, .bool false), (7, .bool y1), (15, .bool ((decide ((x2.length : Int) > 2000))))]) (H2 := []) (by kernel_rfl) ?_
  refine RJ.end (by kernel_rfl) ?_
  refine PJ.next ?_
  refine J.caseB 15 (b := (decide ((x2.length : Int) > 2000))) (by kernel_rfl) (fun hb4 => ?_) (fun hb4 => ?_)
  · have h5 := condT hb4 h3
    refine K.condT (by kernel_rfl) ?_
    refine K.seq (by kernel_rfl) ?_
    refine K.region (by kernel_rfl) ?_
    refine RJ.seg 2 [0, 1, 2, 6, 7] (L2 := [(0, .int .u32 x0), (1, .int .u8 x1), (2, lsv (encI .u8) 1 x2), (6, .bool y1), (7, .bool y1)]) (H2 := []) (by kernel_rfl) ?_
    refine RJ.end (by kernel_rfl) ?_
    refine PJ.next ?_
    refine K.ret (by kernel_rfl) ?_
    refine PJ.passRet ?_
    obtain rfl := Option.some.inj h5
    exact K.ret0 (.inr rfl) hFn hFH hFD (by kernel_rfl) (by kernel_rfl) (by kernel_rfl)
  · have h6 := condF hb4 h3
    refine K.condF (by kernel_rfl) ?_
    refine K.skip (by kernel_rfl) ?_
    refine PJ.next ?_
    refine K.seq (by kernel_rfl) ?_
    refine K.region (by kernel_rfl) ?_
    refine RJ.seg 1 [0, 1, 2, 6, 7, 18] (L2 := [(0, .int .u32 x0), (1, .int .u8 x1), (2, lsv (encI .u8) 1 x2), (6, .bool false), (7, .bool y1), (18, lsv (encI .u8) 1 x2)]) (H2 := []) (by kernel_rfl) ?_
    obtain ⟨y7, hy8, h9⟩ := bindS h6
    refine RJ.call0 (d := (some 19)) (f := 11) (args := [lsv (encI .u8) 1 x2]) (v := .tup [lsv (encI .u8) 1 y7.1, .int .i64 y7.2]) (tr2 := []) (by kernel_rfl) (by kernel_rfl) (.cons (Le.refl _) .nil) (crc_Cut_ok hy8) (by kernel_rfl) ?_
    refine RJ.seg 5 [0, 1, 2, 6, 7, 8, 9] (L2 := [(0, .int .u32 x0), (1, .int .u8 x1), (2, lsv (encI .u8) 1 x2), (6, .bool false), (7, .bool y1), (8, lsv (encI .u8) 1 y7.1), (9, .int .i64 y7.2)]) (H2 := []) (by kernel_rfl) ?_
    refine RJ.end (by kernel_rfl) ?_
    refine PJ.next ?_
    refine K.seq (by kernel_rfl) ?_
    refine K.region (by kernel_rfl) ?_
    refine RJ.seg 1 [0, 1, 2, 6, 7, 8, 9, 23] (L2 := [(0, .int .u32 x0), (1, .int .u8 x1), (2, lsv (encI .u8) 1 x2), (6, .bool false), (7, .bool y1), (8, lsv (encI .u8) 1 y7.1), (9, .int .i64 y7.2), (23, lsv (encI .u8) 1 x2)]) (H2 := []) (by kernel_rfl) ?_
    obtain ⟨y10, hy11, h12⟩ := bindS h9
    refine RJ.call0 (d := (some 24)) (f := 12) (args := [lsv (encI .u8) 1 x2]) (v := .tup [lsv (encI .u8) 1 y10.1, .int .i64 y10.2]) (tr2 := []) (by kernel_rfl) (by kernel_rfl) (.cons (Le.refl _) .nil) (exergueref08_Cut_ok hy11) (by kernel_rfl) ?_
    refine RJ.seg 5 [0, 1, 2, 6, 7, 8, 9, 10, 11] (L2 := [(0, .int .u32 x0), (1, .int .u8 x1), (2, lsv (encI .u8) 1 x2), (6, .bool false), (7, .bool y1), (8, lsv (encI .u8) 1 y7.1), (9, .int .i64 y7.2), (10, lsv (encI .u8) 1 y10.1), (11, .int .i64 y10.2)]) (H2 := []) (by kernel_rfl) ?_
    refine RJ.end (by kernel_rfl) ?_
    refine PJ.next ?_
    obtain ⟨s61, hy63, h65⟩ := bindS h12
    refine K.cutN (by kernel_rfl) (fun (s61 : Bool) => ([(6, .bool s61)], [])) s61 ?_ ?_
    · refine K.region (by kernel_rfl) ?_
      refine RJ.seg 2 [0, 1, 2, 6, 8, 9, 10, 11, 28] (L2 := [(0, .int .u32 x0), (1, .int .u8 x1), (2, lsv (encI .u8) 1 x2), (6, .bool false), (8, lsv (encI .u8) 1 y7.1), (9, .int .i64 y7.2), (10, lsv (encI .u8) 1 y10.1), (11, .int .i64 y10.2), (28, .bool y1)]) (H2 := []) (by kernel_rfl) ?_
      refine RJ.caseB 28 (b := y1) (by kernel_rfl) (fun hb66 => ?_) (fun hb66 => ?_)
      · have h67 := condT hb66 hy63
        refine RJ.seg 2 [0, 1, 2, 6, 8, 9, 10, 11, 28, 29, 30] (L2 := [(0, .int .u32 x0), (1, .int .u8 x1), (2, lsv (encI .u8) 1 x2), (6, .bool false), (8, lsv (encI .u8) 1 y7.1), (9, .int .i64 y7.2), (10, lsv (encI .u8) 1 y10.1), (11, .int .i64 y10.2), (28, .bool true), (29, .int .u32 x0), (30, .int .u8 x1)]) (H2 := []) (by kernel_rfl) ?_
        obtain ⟨y69, hy70, h71⟩ := bindS h67
        refine RJ.call0 (d := (some 31)) (f := 13) (args := [.int .u32 x0, .int .u8 x1]) (v := .int .u32 y69) (tr2 := []) (by kernel_rfl) (by kernel_rfl) (.cons (Le.refl _) (.cons (Le.refl _) .nil)) (crc_Step_ok hy70) (by kernel_rfl) ?_
        refine RJ.seg 2 [0, 2, 6, 8, 9, 10, 11, 28, 31, 32, 33] (L2 := [(0, .int .u32 x0), (2, lsv (encI .u8) 1 x2), (6, .bool false), (8, lsv (encI .u8) 1 y7.1), (9, .int .i64 y7.2), (10, lsv (encI .u8) 1 y10.1), (11, .int .i64 y10.2), (28, .bool true), (31, .int .u32 y69), (32, .int .u32 x0), (33, .int .u8 x1)]) (H2 := []) (by kernel_rfl) ?_
        obtain ⟨y72, hy73, h74⟩ := bindS h71
        refine RJ.call0 (d := (some 34)) (f := 14) (args := [.int .u32 x0, .int .u8 x1]) (v := .int .u32 y72) (tr2 := []) (by kernel_rfl) (by kernel_rfl) (.cons (Le.refl _) (.cons (Le.refl _) .nil)) (exergueref08_Step_ok hy73) (by kernel_rfl) ?_
        refine RJ.seg 3 [0, 2, 6, 8, 9, 10, 11, 37] (L2 := [(0, .int .u32 x0), (2, lsv (encI .u8) 1 x2), (6, .bool false), (8, lsv (encI .u8) 1 y7.1), (9, .int .i64 y7.2), (10, lsv (encI .u8) 1 y10.1), (11, .int .i64 y10.2), (37, .bool (decide (y69 = y72)))]) (H2 := []) (by kernel_rfl) ?_
        refine RJ.caseB 37 (b := (decide (y69 = y72))) (by kernel_rfl) (fun hb75 => ?_) (fun hb75 => ?_)
        · have h76 := condT hb75 h74
          refine RJ.seg 2 [0, 2, 6, 8, 9, 10, 11, 37, 38, 39] (L2 := [(0, .int .u32 x0), (2, lsv (encI .u8) 1 x2), (6, .bool false), (8, lsv (encI .u8) 1 y7.1), (9, .int .i64 y7.2), (10, lsv (encI .u8) 1 y10.1), (11, .int .i64 y10.2), (37, .bool true), (38, .int .u32 x0), (39, lsv (encI .u8) 1 x2)]) (H2 := []) (by kernel_rfl) ?_
          obtain ⟨y78, hy79, h80⟩ := bindS h76
          refine RJ.call0 (d := (some 40)) (f := 15) (args := [.int .u32 x0, lsv (encI .u8) 1 x2]) (v := .int .u32 y78) (tr2 := []) (by kernel_rfl) (by kernel_rfl) (.cons (Le.refl _) (.cons (Le.refl _) .nil)) (crc_On_ok hy79) (by kernel_rfl) ?_
          refine RJ.seg 2 [2, 6, 8, 9, 10, 11, 37, 40, 41, 42] (L2 := [(2, lsv (encI .u8) 1 x2), (6, .bool false), (8, lsv (encI .u8) 1 y7.1), (9, .int .i64 y7.2), (10, lsv (encI .u8) 1 y10.1), (11, .int .i64 y10.2), (37, .bool true), (40, .int .u32 y78), (41, .int .u32 x0), (42, lsv (encI .u8) 1 x2)]) (H2 := []) (by kernel_rfl) ?_
          obtain ⟨y81, hy82, h83⟩ := bindS h80
          refine RJ.call0 (d := (some 43)) (f := 16) (args := [.int .u32 x0, lsv (encI .u8) 1 x2]) (v := .int .u32 y81) (tr2 := []) (by kernel_rfl) (by kernel_rfl) (.cons (Le.refl _) (.cons (Le.refl _) .nil)) (exergueref08_On_ok hy82) (by kernel_rfl) ?_
          refine RJ.seg 3 [2, 6, 8, 9, 10, 11, 46] (L2 := [(2, lsv (encI .u8) 1 x2), (6, .bool false), (8, lsv (encI .u8) 1 y7.1), (9, .int .i64 y7.2), (10, lsv (encI .u8) 1 y10.1), (11, .int .i64 y10.2), (46, .bool (decide (y78 = y81)))]) (H2 := []) (by kernel_rfl) ?_
          refine RJ.caseB 46 (b := (decide (y78 = y81))) (by kernel_rfl) (fun hb84 => ?_) (fun hb84 => ?_)
          · have h85 := condT hb84 h83
            refine RJ.seg 1 [2, 6, 8, 9, 10, 11, 46, 47] (L2 := [(2, lsv (encI .u8) 1 x2), (6, .bool false), (8, lsv (encI .u8) 1 y7.1), (9, .int .i64 y7.2), (10, lsv (encI .u8) 1 y10.1), (11, .int .i64 y10.2), (46, .bool true), (47, lsv (encI .u8) 1 x2)]) (H2 := []) (by kernel_rfl) ?_
            obtain ⟨y87, hy88, h89⟩ := bindS h85
            refine RJ.call0 (d := (some 48)) (f := 17) (args := [lsv (encI .u8) 1 x2]) (v := .int .u32 y87) (tr2 := []) (by kernel_rfl) (by kernel_rfl) (.cons (Le.refl _) .nil) (crc_Of_ok hy88) (by kernel_rfl) ?_
            refine RJ.seg 1 [2, 6, 8, 9, 10, 11, 46, 48, 49] (L2 := [(2, lsv (encI .u8) 1 x2), (6, .bool false), (8, lsv (encI .u8) 1 y7.1), (9, .int .i64 y7.2), (10, lsv (encI .u8) 1 y10.1), (11, .int .i64 y10.2), (46, .bool true), (48, .int .u32 y87), (49, lsv (encI .u8) 1 x2)]) (H2 := []) (by kernel_rfl) ?_
            obtain ⟨y90, hy91, h92⟩ := bindS h89
            refine RJ.call0 (d := (some 50)) (f := 18) (args := [lsv (encI .u8) 1 x2]) (v := .int .u32 y90) (tr2 := []) (by kernel_rfl) (by kernel_rfl) (.cons (Le.refl _) .nil) (exergueref08_Of_ok hy91) (by kernel_rfl) ?_
            refine RJ.seg 3 [2, 6, 8, 9, 10, 11, 53] (L2 := [(2, lsv (encI .u8) 1 x2), (6, .bool false), (8, lsv (encI .u8) 1 y7.1), (9, .int .i64 y7.2), (10, lsv (encI .u8) 1 y10.1), (11, .int .i64 y10.2), (53, .bool (decide (y87 = y90)))]) (H2 := []) (by kernel_rfl) ?_
            refine RJ.caseB 53 (b := (decide (y87 = y90))) (by kernel_rfl) (fun hb93 => ?_) (fun hb93 => ?_)
            · have h94 := condT hb93 h92
              refine RJ.seg 1 [2, 6, 8, 9, 10, 11, 53, 54] (L2 := [(2, lsv (encI .u8) 1 x2), (6, .bool false), (8, lsv (encI .u8) 1 y7.1), (9, .int .i64 y7.2), (10, lsv (encI .u8) 1 y10.1), (11, .int .i64 y10.2), (53, .bool true), (54, lsv (encI .u8) 1 x2)]) (H2 := []) (by kernel_rfl) ?_
              obtain ⟨y96, hy97, h98⟩ := bindS h94
              refine RJ.callG (d := (some 55)) (f := 20) (args := [lsv (encI .u8) 1 x2]) (args0 := [lsv (encI .u8) 1 x2]) (v0 := .vc 0) (v := .vc 0) (tr2 := []) (H0 := []) (H0' := [vecL (encI .u8) 1 5 y96]) (H2 := [vecL (encI .u8) 1 5 y96]) [] (by kernel_rfl) (by kernel_rfl) (by kernel_rfl) (by kernel_rfl) (by decide) (by kernel_rfl) (by kernel_rfl) (by kernel_rfl) (.cons (Le.refl _) .nil) (crc_Put_ok_o hy97) (by kernel_rfl) (by kernel_rfl) (by kernel_rfl) ?_
              refine RJ.seg 1 [6, 8, 9, 10, 11, 53, 55, 56] (L2 := [(6, .bool false), (8, lsv (encI .u8) 1 y7.1), (9, .int .i64 y7.2), (10, lsv (encI .u8) 1 y10.1), (11, .int .i64 y10.2), (53, .bool true), (55, .vc 0), (56, lsv (encI .u8) 1 x2)]) (H2 := [vecL (encI .u8) 1 5 y96]) (by kernel_rfl) ?_
              obtain ⟨y99, hy100, h101⟩ := bindS h98
              refine RJ.call0 (d := (some 57)) (f := 21) (args := [lsv (encI .u8) 1 x2]) (v := lsv (encI .u8) 1 y99) (tr2 := []) (by kernel_rfl) (by kernel_rfl) (.cons (Le.refl _) .nil) (exergueref08_Put_ok hy100) (by kernel_rfl) ?_
              obtain ⟨y102, hy103, h104⟩ := bindS h101
              refine RJ.callL (d := (some 58)) (f := 19) (args := [.vc 0, lsv (encI .u8) 1 y99]) (args0 := [.vc 0, lsv (encI .u8) 1 y99]) (args1 := [lsv (encI .u8) 1 y96, lsv (encI .u8) 1 y99]) (H0 := [vecL (encI .u8) 1 5 y96]) (v := .bool y102) (tr2 := []) [0] (by kernel_rfl) (by kernel_rfl) (by kernel_rfl) (by kernel_rfl) (by decide) (by kernel_rfl) (by kernel_rfl) (by kernel_rfl) (by kernel_rfl) (.cons (Le.refl _) (.cons (Le.refl _) .nil)) (exergueref01_Row_ok hy103) (by kernel_rfl) (by kernel_rfl) ?_
              refine RJ.seg 2 [6, 8, 9, 10, 11, 60] (L2 := [(6, .bool false), (8, lsv (encI .u8) 1 y7.1), (9, .int .i64 y7.2), (10, lsv (encI .u8) 1 y10.1), (11, .int .i64 y10.2), (60, .bool y102)]) (H2 := [vecL (encI .u8) 1 5 y96]) (by kernel_rfl) ?_
              refine RJ.caseB 60 (b := y102) (by kernel_rfl) (fun hb105 => ?_) (fun hb105 => ?_)
              · have h106 := condT hb105 h104
                refine RJ.seg 2 [6, 9, 11, 60, 61, 62] (L2 := [(6, .bool false), (9, .int .i64 y7.2), (11, .int .i64 y10.2), (60, .bool true), (61, lsv (encI .u8) 1 y7.1), (62, lsv (encI .u8) 1 y10.1)]) (H2 := [vecL (encI .u8) 1 5 y96]) (by kernel_rfl) ?_
                obtain ⟨y108, hy109, h110⟩ := bindS h106
                refine RJ.call0 (d := (some 63)) (f := 19) (args := [lsv (encI .u8) 1 y7.1, lsv (encI .u8) 1 y10.1]) (v := .bool y108) (tr2 := []) (by kernel_rfl) (by kernel_rfl) (.cons (Le.refl _) (.cons (Le.refl _) .nil)) (exergueref01_Row_ok hy109) (by kernel_rfl) ?_
                refine RJ.seg 2 [6, 9, 11, 65] (L2 := [(6, .bool false), (9, .int .i64 y7.2), (11, .int .i64 y10.2), (65, .bool y108)]) (H2 := [vecL (encI .u8) 1 5 y96]) (by kernel_rfl) ?_
                refine RJ.caseB 65 (b := y108) (by kernel_rfl) (fun hb111 => ?_) (fun hb111 => ?_)
                · have h112 := condT hb111 h110
                  refine RJ.seg 5 [6] (L2 := [(6, .bool (decide (y7.2 = y10.2)))]) (H2 := [vecL (encI .u8) 1 5 y96]) (by kernel_rfl) ?_
                  refine RJ.end (by kernel_rfl) ?_
                  obtain rfl := Option.some.inj h112
                  refine PJ.wk (Wk.sel (L2 := [(6, .bool (decide (y7.2 = y10.2)))]) (H2 := []) 0 (by rw [hFH]; rfl) hFD [] (by kernel_rfl) (by kernel_rfl) (by decide) (by kernel_rfl) (by kernel_rfl) (by kernel_rfl) (by kernel_rfl)) ?_
                  exact PJ.cutN [6] (by kernel_rfl) (by kernel_rfl)
                · have h113 := condF hb111 h110
                  refine RJ.seg 5 [6] (L2 := [(6, .bool false)]) (H2 := [vecL (encI .u8) 1 5 y96]) (by kernel_rfl) ?_
                  refine RJ.end (by kernel_rfl) ?_
                  obtain rfl := Option.some.inj h113
                  refine PJ.wk (Wk.sel (L2 := [(6, .bool false)]) (H2 := []) 0 (by rw [hFH]; rfl) hFD [] (by kernel_rfl) (by kernel_rfl) (by decide) (by kernel_rfl) (by kernel_rfl) (by kernel_rfl) (by kernel_rfl)) ?_
                  exact PJ.cutN [6] (by kernel_rfl) (by kernel_rfl)
              · have h107 := condF hb105 h104
                refine RJ.seg 10 [6] (L2 := [(6, .bool false)]) (H2 := [vecL (encI .u8) 1 5 y96]) (by kernel_rfl) ?_
                refine RJ.end (by kernel_rfl) ?_
                obtain rfl := Option.some.inj h107
                refine PJ.wk (Wk.sel (L2 := [(6, .bool false)]) (H2 := []) 0 (by rw [hFH]; rfl) hFD [] (by kernel_rfl) (by kernel_rfl) (by decide) (by kernel_rfl) (by kernel_rfl) (by kernel_rfl) (by kernel_rfl)) ?_
                exact PJ.cutN [6] (by kernel_rfl) (by kernel_rfl)
            · have h95 := condF hb93 h92
              refine RJ.seg 17 [6] (L2 := [(6, .bool false)]) (H2 := []) (by kernel_rfl) ?_
              refine RJ.end (by kernel_rfl) ?_
              obtain rfl := Option.some.inj h95
              exact PJ.cutN [6] (by kernel_rfl) (by kernel_rfl)
          · have h86 := condF hb84 h83
            refine RJ.seg 24 [6] (L2 := [(6, .bool false)]) (H2 := []) (by kernel_rfl) ?_
            refine RJ.end (by kernel_rfl) ?_
            obtain rfl := Option.some.inj h86
            exact PJ.cutN [6] (by kernel_rfl) (by kernel_rfl)
        · have h77 := condF hb75 h74
          refine RJ.seg 33 [6] (L2 := [(6, .bool false)]) (H2 := []) (by kernel_rfl) ?_
          refine RJ.end (by kernel_rfl) ?_
          obtain rfl := Option.some.inj h77
          exact PJ.cutN [6] (by kernel_rfl) (by kernel_rfl)
      · have h68 := condF hb66 hy63
        refine RJ.seg 42 [6] (L2 := [(6, .bool false)]) (H2 := []) (by kernel_rfl) ?_
        refine RJ.end (by kernel_rfl) ?_
        obtain rfl := Option.some.inj h68
        exact PJ.cutN [6] (by kernel_rfl) (by kernel_rfl)
    · refine K.ret (by kernel_rfl) ?_
      obtain rfl := Option.some.inj h65
      exact K.ret0 (.inr rfl) hFn hFH hFD (by kernel_rfl) (by kernel_rfl) (by kernel_rfl)

def exerguelaw08_CrcOn (x0 : List Int) (x1 : List Int) : Option (Bool) :=
  (Option.bind exerguelaw08_shown fun y1 => (bif (decide (((IntKind.wrap .i64 ((x0.length : Int) + (x1.length : Int)))) > 2000)) then (some y1) else (bif room x0.length then (bif room (x0.length + x1.length) then (Option.bind (crc_Put x0) fun y9 => (Option.bind (crc_Cut y9) fun y12 => (Option.bind (bif y1 then (Option.bind (crc_Of x0) fun y56 => (Option.bind (crc_On y56 x1) fun y59 => (Option.bind (crc_Of (x0 ++ x1)) fun y62 => (bif (decide (y59 = y62)) then (Option.bind (crc_Of (x0 ++ x1)) fun y68 => (Option.bind (crc_On 0 x0) fun y71 => (Option.bind (crc_On y71 x1) fun y74 => (bif (decide (y68 = y74)) then (bif (decide (y12.2 = 0)) then (Option.bind (exergueref01_Row y12.1 x0) fun y83 => (some y83)) else (some false)) else (some false))))) else (some false))))) else (some false)) fun (s48 : Bool) => (some s48)))) else none) else none)))
theorem exerguelaw08_CrcOn_ok {x0 : List Int} {x1 : List Int} {r : Bool} (h : exerguelaw08_CrcOn x0 x1 = some r) : SC Try.prog 4 [lsv (encI .u8) 1 x0, lsv (encI .u8) 1 x1] [] (.bool r) [] := by
  refine K.fn (fn := Try.f4) (by kernel_rfl) (by kernel_rfl) (by kernel_rfl) (by kernel_rfl) (by kernel_rfl) (fun F hFn hFH hFD => ?_)
  unfold exerguelaw08_CrcOn at h
  refine K.seq (by kernel_rfl) ?_
  refine K.region (by kernel_rfl) ?_
  refine RJ.seg 1 [0, 1, 4] (L2 := [(0, lsv (encI .u8) 1 x0), (1, lsv (encI .u8) 1 x1), (4, .bool false)]) (H2 := []) (by kernel_rfl) ?_
  refine RJ.end (by kernel_rfl) ?_
  refine PJ.next ?_
  refine K.seq (by kernel_rfl) ?_
  refine K.region (by kernel_rfl) ?_
  obtain ⟨y1, hy2, h3⟩ := bindS h
  refine RJ.call0 (d := (some 9)) (f := 10) (args := []) (v := .bool y1) (tr2 := []) (by kernel_rfl) (by kernel_rfl) .nil (exerguelaw08_shown_ok hy2) (by kernel_rfl) ?_
  refine RJ.seg 1 [0, 1, 4, 5] (L2 := [(0, lsv (encI .u8) 1 x0), (1, lsv (encI .u8) 1 x1), (4, .bool false), (5, .bool y1)]) (H2 := []) (by kernel_rfl) ?_
  refine RJ.end (by kernel_rfl) ?_
  refine PJ.next ?_
  refine K.seq (by kernel_rfl) ?_
  refine K.seq (by kernel_rfl) ?_
  refine K.region (by kernel_rfl) ?_
  refine RJ.seg 6 [0, 1, 4, 5, 15] (L2 := [(0, lsv (encI .u8) 1 x0), (1, lsv (encI .u8) 1 x1), (4, .bool false), (5, .bool y1), (15, .bool ((decide (((IntKind.wrap .i64 ((x0.length : Int) + (x1.length : Int)))) > 2000))))]) (H2 := []) (by kernel_rfl) ?_
  refine RJ.end (by kernel_rfl) ?_
  refine PJ.next ?_
  refine J.caseB 15 (b := (decide (((IntKind.wrap .i64 ((x0.length : Int) + (x1.length : Int)))) > 2000))) (by kernel_rfl) (fun hb4 => ?_) (fun hb4 => ?_)
  · have h5 := condT hb4 h3
    refine K.condT (by kernel_rfl) ?_
    refine K.seq (by kernel_rfl) ?_
    refine K.region (by kernel_rfl) ?_
    refine RJ.seg 2 [0, 1, 4, 5] (L2 := [(0, lsv (encI .u8) 1 x0), (1, lsv (encI .u8) 1 x1), (4, .bool y1), (5, .bool y1)]) (H2 := []) (by kernel_rfl) ?_
    refine RJ.end (by kernel_rfl) ?_
    refine PJ.next ?_
    refine K.ret (by kernel_rfl) ?_
    refine PJ.passRet ?_
    obtain rfl := Option.some.inj h5
    exact K.ret0 (.inr rfl) hFn hFH hFD (by kernel_rfl) (by kernel_rfl) (by kernel_rfl)
  · have h6 := condF hb4 h3
    refine K.condF (by kernel_rfl) ?_
    refine K.skip (by kernel_rfl) ?_
    refine PJ.next ?_
    refine K.seq (by kernel_rfl) ?_
    refine K.region (by kernel_rfl) ?_
    refine RJ.seg 2 [0, 1, 4, 5, 17, 18] (L2 := [(0, lsv (encI .u8) 1 x0), (1, lsv (encI .u8) 1 x1), (4, .bool false), (5, .bool y1), (17, .nl), (18, lsv (encI .u8) 1 x0)]) (H2 := []) (by kernel_rfl) ?_
    obtain ⟨hm, h7⟩ := asrt h6
    refine RJ.rel (d := (some 19)) (ef := ⟨.vc 0, [], [(0, .vec x0.length 1 5 (x0.flatMap (encI .u8)))]⟩) (ef' := ⟨.vc 0, [], [(0, .vec x0.length 1 5 (x0.flatMap (encI .u8)))]⟩) (c := roomB x0.length) (tr2 := []) (H2 := [vecL (encI .u8) 1 5 x0]) (by kernel_rfl) (roomB_of_room hm) (fun hc => rfl) (by kernel_rfl) ?_
    refine RJ.seg 1 [0, 1, 4, 5, 19, 20] (L2 := [(0, lsv (encI .u8) 1 x0), (1, lsv (encI .u8) 1 x1), (4, .bool false), (5, .bool y1), (19, .vc 0), (20, lsv (encI .u8) 1 x1)]) (H2 := [vecL (encI .u8) 1 5 x0]) (by kernel_rfl) ?_
    obtain ⟨hm, h8⟩ := asrt h7
    refine RJ.rel (d := (some 21)) (ef := ⟨.vc 1, [0], [(0, .gone), (1, .vec (x0.length + x1.length) 1 5 (x0.flatMap (encI .u8) ++ x1.flatMap (encI .u8)))]⟩) (ef' := ⟨.vc 1, [0], [(0, .gone), (1, vecL (encI .u8) 1 5 (x0 ++ x1))]⟩) (c := roomB (x0.length + x1.length)) (tr2 := []) (H2 := [.gone, vecL (encI .u8) 1 5 (x0 ++ x1)]) (by kernel_rfl) (roomB_of_room hm) (fun hc => N.app) (by kernel_rfl) ?_
    refine RJ.seg 1 [0, 1, 4, 5, 6] (L2 := [(0, lsv (encI .u8) 1 x0), (1, lsv (encI .u8) 1 x1), (4, .bool false), (5, .bool y1), (6, .vc 1)]) (H2 := [.gone, vecL (encI .u8) 1 5 (x0 ++ x1)]) (by kernel_rfl) ?_
    refine RJ.end (by kernel_rfl) ?_
    refine PJ.next ?_
    refine K.seq (by kernel_rfl) ?_
    refine K.region (by kernel_rfl) ?_
    refine RJ.seg 1 [0, 1, 4, 5, 6, 23] (L2 := [(0, lsv (encI .u8) 1 x0), (1, lsv (encI .u8) 1 x1), (4, .bool false), (5, .bool y1), (6, .vc 1), (23, lsv (encI .u8) 1 x0)]) (H2 := [.gone, vecL (encI .u8) 1 5 (x0 ++ x1)]) (by kernel_rfl) ?_
    obtain ⟨y9, hy10, h11⟩ := bindS h8
    refine RJ.callG (d := (some 24)) (f := 20) (args := [lsv (encI .u8) 1 x0]) (args0 := [lsv (encI .u8) 1 x0]) (v0 := .vc 0) (v := .vc 2) (tr2 := []) (H0 := []) (H0' := [vecL (encI .u8) 1 5 y9]) (H2 := [.gone, vecL (encI .u8) 1 5 (x0 ++ x1), vecL (encI .u8) 1 5 y9]) [] (by kernel_rfl) (by kernel_rfl) (by kernel_rfl) (by kernel_rfl) (by decide) (by kernel_rfl) (by kernel_rfl) (by kernel_rfl) (.cons (Le.refl _) .nil) (crc_Put_ok_o hy10) (by kernel_rfl) (by kernel_rfl) (by kernel_rfl) ?_
    obtain ⟨y12, hy13, h14⟩ := bindS h11
    refine RJ.wk (Wk.freeze 2 (n := y9.length) (k := 1) (e := 5) (cs := y9.flatMap (encI .u8)) (by kernel_rfl)) ?_
    refine RJ.call0 (d := (some 25)) (f := 11) (args := [lsv (encI .u8) 1 y9]) (v := .tup [lsv (encI .u8) 1 y12.1, .int .i64 y12.2]) (tr2 := []) (by kernel_rfl) (by kernel_rfl) (.cons (Le.refl _) .nil) (crc_Cut_ok hy13) (by kernel_rfl) ?_
    refine RJ.seg 5 [0, 1, 4, 5, 6, 7, 8] (L2 := [(0, lsv (encI .u8) 1 x0), (1, lsv (encI .u8) 1 x1), (4, .bool false), (5, .bool y1), (6, .vc 1), (7, lsv (encI .u8) 1 y12.1), (8, .int .i64 y12.2)]) (H2 := [.gone, vecL (encI .u8) 1 5 (x0 ++ x1), .gone]) (by kernel_rfl) ?_
    refine RJ.end (by kernel_rfl) ?_
    refine PJ.next ?_
    obtain ⟨s48, hy50, h52⟩ := bindS h14
    refine K.cutN (by kernel_rfl) (fun (s48 : Bool) => ([(4, .bool s48)], [])) s48 ?_ ?_
    · refine K.region (by kernel_rfl) ?_
      refine RJ.seg 2 [0, 1, 4, 6, 7, 8, 29] (L2 := [(0, lsv (encI .u8) 1 x0), (1, lsv (encI .u8) 1 x1), (4, .bool false), (6, .vc 1), (7, lsv (encI .u8) 1 y12.1), (8, .int .i64 y12.2), (29, .bool y1)]) (H2 := [.gone, vecL (encI .u8) 1 5 (x0 ++ x1), .gone]) (by kernel_rfl) ?_
      refine RJ.caseB 29 (b := y1) (by kernel_rfl) (fun hb53 => ?_) (fun hb53 => ?_)
      · have h54 := condT hb53 hy50
        refine RJ.seg 1 [0, 1, 4, 6, 7, 8, 29, 30] (L2 := [(0, lsv (encI .u8) 1 x0), (1, lsv (encI .u8) 1 x1), (4, .bool false), (6, .vc 1), (7, lsv (encI .u8) 1 y12.1), (8, .int .i64 y12.2), (29, .bool true), (30, lsv (encI .u8) 1 x0)]) (H2 := [.gone, vecL (encI .u8) 1 5 (x0 ++ x1), .gone]) (by kernel_rfl) ?_
        obtain ⟨y56, hy57, h58⟩ := bindS h54
        refine RJ.call0 (d := (some 31)) (f := 17) (args := [lsv (encI .u8) 1 x0]) (v := .int .u32 y56) (tr2 := []) (by kernel_rfl) (by kernel_rfl) (.cons (Le.refl _) .nil) (crc_Of_ok hy57) (by kernel_rfl) ?_
        refine RJ.seg 1 [0, 1, 4, 6, 7, 8, 29, 31, 32] (L2 := [(0, lsv (encI .u8) 1 x0), (1, lsv (encI .u8) 1 x1), (4, .bool false), (6, .vc 1), (7, lsv (encI .u8) 1 y12.1), (8, .int .i64 y12.2), (29, .bool true), (31, .int .u32 y56), (32, lsv (encI .u8) 1 x1)]) (H2 := [.gone, vecL (encI .u8) 1 5 (x0 ++ x1), .gone]) (by kernel_rfl) ?_
        obtain ⟨y59, hy60, h61⟩ := bindS h58
        refine RJ.call0 (d := (some 33)) (f := 15) (args := [.int .u32 y56, lsv (encI .u8) 1 x1]) (v := .int .u32 y59) (tr2 := []) (by kernel_rfl) (by kernel_rfl) (.cons (Le.refl _) (.cons (Le.refl _) .nil)) (crc_On_ok hy60) (by kernel_rfl) ?_
        refine RJ.seg 1 [0, 1, 4, 6, 7, 8, 29, 33, 34] (L2 := [(0, lsv (encI .u8) 1 x0), (1, lsv (encI .u8) 1 x1), (4, .bool false), (6, .vc 1), (7, lsv (encI .u8) 1 y12.1), (8, .int .i64 y12.2), (29, .bool true), (33, .int .u32 y59), (34, .vc 1)]) (H2 := [.gone, vecL (encI .u8) 1 5 (x0 ++ x1), .gone]) (by kernel_rfl) ?_
        obtain ⟨y62, hy63, h64⟩ := bindS h61
        refine RJ.callL (d := (some 35)) (f := 17) (args := [.vc 1]) (args0 := [.vc 0]) (args1 := [lsv (encI .u8) 1 (x0 ++ x1)]) (H0 := [vecL (encI .u8) 1 5 (x0 ++ x1)]) (v := .int .u32 y62) (tr2 := []) [1] (by kernel_rfl) (by kernel_rfl) (by kernel_rfl) (by kernel_rfl) (by decide) (by kernel_rfl) (by kernel_rfl) (by kernel_rfl) (by kernel_rfl) (.cons (Le.refl _) .nil) (crc_Of_ok hy63) (by kernel_rfl) (by kernel_rfl) ?_
        refine RJ.seg 3 [0, 1, 4, 6, 7, 8, 38] (L2 := [(0, lsv (encI .u8) 1 x0), (1, lsv (encI .u8) 1 x1), (4, .bool false), (6, .vc 1), (7, lsv (encI .u8) 1 y12.1), (8, .int .i64 y12.2), (38, .bool (decide (y59 = y62)))]) (H2 := [.gone, vecL (encI .u8) 1 5 (x0 ++ x1), .gone]) (by kernel_rfl) ?_
        refine RJ.caseB 38 (b := (decide (y59 = y62))) (by kernel_rfl) (fun hb65 => ?_) (fun hb65 => ?_)
        · have h66 := condT hb65 h64
          refine RJ.seg 1 [0, 1, 4, 7, 8, 38, 39] (L2 := [(0, lsv (encI .u8) 1 x0), (1, lsv (encI .u8) 1 x1), (4, .bool false), (7, lsv (encI .u8) 1 y12.1), (8, .int .i64 y12.2), (38, .bool true), (39, .vc 1)]) (H2 := [.gone, vecL (encI .u8) 1 5 (x0 ++ x1), .gone]) (by kernel_rfl) ?_
          obtain ⟨y68, hy69, h70⟩ := bindS h66
          refine RJ.callL (d := (some 40)) (f := 17) (args := [.vc 1]) (args0 := [.vc 0]) (args1 := [lsv (encI .u8) 1 (x0 ++ x1)]) (H0 := [vecL (encI .u8) 1 5 (x0 ++ x1)]) (v := .int .u32 y68) (tr2 := []) [1] (by kernel_rfl) (by kernel_rfl) (by kernel_rfl) (by kernel_rfl) (by decide) (by kernel_rfl) (by kernel_rfl) (by kernel_rfl) (by kernel_rfl) (.cons (Le.refl _) .nil) (crc_Of_ok hy69) (by kernel_rfl) (by kernel_rfl) ?_
          refine RJ.seg 1 [0, 1, 4, 7, 8, 38, 40, 41] (L2 := [(0, lsv (encI .u8) 1 x0), (1, lsv (encI .u8) 1 x1), (4, .bool false), (7, lsv (encI .u8) 1 y12.1), (8, .int .i64 y12.2), (38, .bool true), (40, .int .u32 y68), (41, lsv (encI .u8) 1 x0)]) (H2 := [.gone, vecL (encI .u8) 1 5 (x0 ++ x1), .gone]) (by kernel_rfl) ?_
          obtain ⟨y71, hy72, h73⟩ := bindS h70
          refine RJ.call0 (d := (some 42)) (f := 15) (args := [.int .u32 0, lsv (encI .u8) 1 x0]) (v := .int .u32 y71) (tr2 := []) (by kernel_rfl) (by kernel_rfl) (.cons (Le.refl _) (.cons (Le.refl _) .nil)) (crc_On_ok hy72) (by kernel_rfl) ?_
          refine RJ.seg 1 [0, 4, 7, 8, 38, 40, 42, 43] (L2 := [(0, lsv (encI .u8) 1 x0), (4, .bool false), (7, lsv (encI .u8) 1 y12.1), (8, .int .i64 y12.2), (38, .bool true), (40, .int .u32 y68), (42, .int .u32 y71), (43, lsv (encI .u8) 1 x1)]) (H2 := [.gone, vecL (encI .u8) 1 5 (x0 ++ x1), .gone]) (by kernel_rfl) ?_
          obtain ⟨y74, hy75, h76⟩ := bindS h73
          refine RJ.call0 (d := (some 44)) (f := 15) (args := [.int .u32 y71, lsv (encI .u8) 1 x1]) (v := .int .u32 y74) (tr2 := []) (by kernel_rfl) (by kernel_rfl) (.cons (Le.refl _) (.cons (Le.refl _) .nil)) (crc_On_ok hy75) (by kernel_rfl) ?_
          refine RJ.seg 3 [0, 4, 7, 8, 47] (L2 := [(0, lsv (encI .u8) 1 x0), (4, .bool false), (7, lsv (encI .u8) 1 y12.1), (8, .int .i64 y12.2), (47, .bool (decide (y68 = y74)))]) (H2 := [.gone, vecL (encI .u8) 1 5 (x0 ++ x1), .gone]) (by kernel_rfl) ?_
          refine RJ.caseB 47 (b := (decide (y68 = y74))) (by kernel_rfl) (fun hb77 => ?_) (fun hb77 => ?_)
          · have h78 := condT hb77 h76
            refine RJ.seg 4 [0, 4, 7, 51] (L2 := [(0, lsv (encI .u8) 1 x0), (4, .bool false), (7, lsv (encI .u8) 1 y12.1), (51, .bool (decide (y12.2 = 0)))]) (H2 := [.gone, vecL (encI .u8) 1 5 (x0 ++ x1), .gone]) (by kernel_rfl) ?_
            refine RJ.caseB 51 (b := (decide (y12.2 = 0))) (by kernel_rfl) (fun hb80 => ?_) (fun hb80 => ?_)
            · have h81 := condT hb80 h78
              refine RJ.seg 2 [4, 51, 52, 53] (L2 := [(4, .bool false), (51, .bool true), (52, lsv (encI .u8) 1 y12.1), (53, lsv (encI .u8) 1 x0)]) (H2 := [.gone, vecL (encI .u8) 1 5 (x0 ++ x1), .gone]) (by kernel_rfl) ?_
              obtain ⟨y83, hy84, h85⟩ := bindS h81
              refine RJ.call0 (d := (some 54)) (f := 19) (args := [lsv (encI .u8) 1 y12.1, lsv (encI .u8) 1 x0]) (v := .bool y83) (tr2 := []) (by kernel_rfl) (by kernel_rfl) (.cons (Le.refl _) (.cons (Le.refl _) .nil)) (exergueref01_Row_ok hy84) (by kernel_rfl) ?_
              refine RJ.seg 2 [4] (L2 := [(4, .bool y83)]) (H2 := [.gone, vecL (encI .u8) 1 5 (x0 ++ x1), .gone]) (by kernel_rfl) ?_
              refine RJ.end (by kernel_rfl) ?_
              obtain rfl := Option.some.inj h85
              refine PJ.wk (Wk.sel (L2 := [(4, .bool y83)]) (H2 := []) 0 (by rw [hFH]; rfl) hFD [] (by kernel_rfl) (by kernel_rfl) (by decide) (by kernel_rfl) (by kernel_rfl) (by kernel_rfl) (by kernel_rfl)) ?_
              exact PJ.cutN [4] (by kernel_rfl) (by kernel_rfl)
            · have h82 := condF hb80 h78
              refine RJ.seg 5 [4] (L2 := [(4, .bool false)]) (H2 := [.gone, vecL (encI .u8) 1 5 (x0 ++ x1), .gone]) (by kernel_rfl) ?_
              refine RJ.end (by kernel_rfl) ?_
              obtain rfl := Option.some.inj h82
              refine PJ.wk (Wk.sel (L2 := [(4, .bool false)]) (H2 := []) 0 (by rw [hFH]; rfl) hFD [] (by kernel_rfl) (by kernel_rfl) (by decide) (by kernel_rfl) (by kernel_rfl) (by kernel_rfl) (by kernel_rfl)) ?_
              exact PJ.cutN [4] (by kernel_rfl) (by kernel_rfl)
          · have h79 := condF hb77 h76
            refine RJ.seg 9 [4] (L2 := [(4, .bool false)]) (H2 := [.gone, vecL (encI .u8) 1 5 (x0 ++ x1), .gone]) (by kernel_rfl) ?_
            refine RJ.end (by kernel_rfl) ?_
            obtain rfl := Option.some.inj h79
            refine PJ.wk (Wk.sel (L2 := [(4, .bool false)]) (H2 := []) 0 (by rw [hFH]; rfl) hFD [] (by kernel_rfl) (by kernel_rfl) (by decide) (by kernel_rfl) (by kernel_rfl) (by kernel_rfl) (by kernel_rfl)) ?_
            exact PJ.cutN [4] (by kernel_rfl) (by kernel_rfl)
        · have h67 := condF hb65 h64
          refine RJ.seg 18 [4] (L2 := [(4, .bool false)]) (H2 := [.gone, vecL (encI .u8) 1 5 (x0 ++ x1), .gone]) (by kernel_rfl) ?_
          refine RJ.end (by kernel_rfl) ?_
          obtain rfl := Option.some.inj h67
          refine PJ.wk (Wk.sel (L2 := [(4, .bool false)]) (H2 := []) 0 (by rw [hFH]; rfl) hFD [] (by kernel_rfl) (by kernel_rfl) (by decide) (by kernel_rfl) (by kernel_rfl) (by kernel_rfl) (by kernel_rfl)) ?_
          exact PJ.cutN [4] (by kernel_rfl) (by kernel_rfl)
      · have h55 := condF hb53 hy50
        refine RJ.seg 27 [4] (L2 := [(4, .bool false)]) (H2 := [.gone, vecL (encI .u8) 1 5 (x0 ++ x1), .gone]) (by kernel_rfl) ?_
        refine RJ.end (by kernel_rfl) ?_
        obtain rfl := Option.some.inj h55
        refine PJ.wk (Wk.sel (L2 := [(4, .bool false)]) (H2 := []) 0 (by rw [hFH]; rfl) hFD [] (by kernel_rfl) (by kernel_rfl) (by decide) (by kernel_rfl) (by kernel_rfl) (by kernel_rfl) (by kernel_rfl)) ?_
        exact PJ.cutN [4] (by kernel_rfl) (by kernel_rfl)
    · refine K.ret (by kernel_rfl) ?_
      obtain rfl := Option.some.inj h52
      exact K.ret0 (.inr rfl) hFn hFH hFD (by kernel_rfl) (by kernel_rfl) (by kernel_rfl)

def exerguelaw08_CrcFinds (x0 : List Int) (x1 : Int) (x2 : St36) : Option (Bool) :=
  (Option.bind exerguelaw08_shown fun y1 => (Option.bind (crc_Put x0) fun y4 => (Option.bind (Option.bind (bif (decide ((x0.length : Int) > 2000)) then (some true) else (bif (decide ((y4.length : Int) < 4)) then (some true) else (bif (decide (x1 < 0)) then (some true) else (bif (decide (x1 > ((IntKind.wrap .i64 ((y4.length : Int) - 4))))) then (some true) else (some (((decide (x2.a0_ = 0)) && ((decide (x2.a1_ = 0)) && ((decide (x2.a2_ = 0)) && ((decide (x2.a3_ = 0)) && true)))))))))) fun (s57 : Bool) => (bif s57 then (some (.inr y1)) else (some (.inl ())))) (joinX fun (s40 : Unit) => (Option.bind (loopN (fun (s149 : Int × (List Int)) => (bif (decide (s149.1 < 4)) then (bif inR (IntKind.wrap .i64 (x1 + s149.1)) s149.2.length then (bif inR (IntKind.wrap .i64 (x1 + s149.1)) s149.2.length then (bif (decide (s149.1 = 0)) then (bif inR (IntKind.wrap .i64 (x1 + s149.1)) s149.2.length then (bif inR (IntKind.wrap .i64 (x1 + s149.1)) s149.2.length then (some (.inl ((IntKind.wrap .i64 (s149.1 + 1)), (setAt s149.2 (IntKind.wrap .i64 (x1 + s149.1)) ((bits .xor .u8 ((nth s149.2 (IntKind.wrap .i64 (x1 + s149.1)))) x2.a0_)))))) else none) else none) else (bif (decide (s149.1 = 1)) then (bif inR (IntKind.wrap .i64 (x1 + s149.1)) s149.2.length then (bif inR (IntKind.wrap .i64 (x1 + s149.1)) s149.2.length then (some (.inl ((IntKind.wrap .i64 (s149.1 + 1)), (setAt s149.2 (IntKind.wrap .i64 (x1 + s149.1)) ((bits .xor .u8 ((nth s149.2 (IntKind.wrap .i64 (x1 + s149.1)))) x2.a1_)))))) else none) else none) else (bif (decide (s149.1 = 2)) then (bif inR (IntKind.wrap .i64 (x1 + s149.1)) s149.2.length then (bif inR (IntKind.wrap .i64 (x1 + s149.1)) s149.2.length then (some (.inl ((IntKind.wrap .i64 (s149.1 + 1)), (setAt s149.2 (IntKind.wrap .i64 (x1 + s149.1)) ((bits .xor .u8 ((nth s149.2 (IntKind.wrap .i64 (x1 + s149.1)))) x2.a2_)))))) else none) else none) else (bif (decide (s149.1 = 3)) then (bif inR (IntKind.wrap .i64 (x1 + s149.1)) s149.2.length then (bif inR (IntKind.wrap .i64 (x1 + s149.1)) s149.2.length then (some (.inl ((IntKind.wrap .i64 (s149.1 + 1)), (setAt s149.2 (IntKind.wrap .i64 (x1 + s149.1)) ((bits .xor .u8 ((nth s149.2 (IntKind.wrap .i64 (x1 + s149.1)))) x2.a3_)))))) else none) else none) else none)))) else none) else none) else (some (.inr s149.2)))) big (0, y4)) fun (s144 : (List Int)) => (Option.bind (crc_Cut s144) fun y215 => (Option.bind (bif y1 then (bif (decide (y215.2 = 6)) then (some ((decide ((y215.1.length : Int) = 0)))) else (some false)) else (some false)) fun (s224 : Bool) => (some s224))))))))
theorem exerguelaw08_CrcFinds_ok {x0 : List Int} {x1 : Int} {x2 : St36} {r : Bool} (h : exerguelaw08_CrcFinds x0 x1 x2 = some r) : SC Try.prog 5 [lsv (encI .u8) 1 x0, .int .i64 x1, .agg [.int .u8 x2.a0_, .int .u8 x2.a1_, .int .u8 x2.a2_, .int .u8 x2.a3_]] [] (.bool r) [] := by
  refine K.fn (fn := Try.f5) (by kernel_rfl) (by kernel_rfl) (by kernel_rfl) (by kernel_rfl) (by kernel_rfl) (fun F hFn hFH hFD => ?_)
  unfold exerguelaw08_CrcFinds at h
  refine K.seq (by kernel_rfl) ?_
  refine K.region (by kernel_rfl) ?_
  refine RJ.seg 2 [0, 1, 5, 6] (L2 := [(0, lsv (encI .u8) 1 x0), (1, .int .i64 x1), (5, .ptr 0 0), (6, .bool false)]) (H2 := [.box [.int .u8 x2.a0_, .int .u8 x2.a1_, .int .u8 x2.a2_, .int .u8 x2.a3_]]) (by kernel_rfl) ?_
  refine RJ.end (by kernel_rfl) ?_
  refine PJ.next ?_
  refine K.seq (by kernel_rfl) ?_
  refine K.region (by kernel_rfl) ?_
  obtain ⟨y1, hy2, h3⟩ := bindS h
  refine RJ.call0 (d := (some 12)) (f := 10) (args := []) (v := .bool y1) (tr2 := []) (by kernel_rfl) (by kernel_rfl) .nil (exerguelaw08_shown_ok hy2) (by kernel_rfl) ?_
  refine RJ.seg 1 [0, 1, 5, 6, 7] (L2 := [(0, lsv (encI .u8) 1 x0), (1, .int .i64 x1), (5, .ptr 0 0), (6, .bool false), (7, .bool y1)]) (H2 := [.box [.int .u8 x2.a0_, .int .u8 x2.a1_, .int .u8 x2.a2_, .int .u8 x2.a3_]]) (by kernel_rfl) ?_
  refine RJ.end (by kernel_rfl) ?_
  refine PJ.next ?_
  refine K.seq (by kernel_rfl) ?_
  refine K.region (by kernel_rfl) ?_
  refine RJ.seg 1 [0, 1, 5, 6, 7, 13] (L2 := [(0, lsv (encI .u8) 1 x0), (1, .int .i64 x1), (5, .ptr 0 0), (6, .bool false), (7, .bool y1), (13, lsv (encI .u8) 1 x0)]) (H2 := [.box [.int .u8 x2.a0_, .int .u8 x2.a1_, .int .u8 x2.a2_, .int .u8 x2.a3_]]) (by kernel_rfl) ?_
  obtain ⟨y4, hy5, h6⟩ := bindS h3
  refine RJ.callG (d := (some 14)) (f := 20) (args := [lsv (encI .u8) 1 x0]) (args0 := [lsv (encI .u8) 1 x0]) (v0 := .vc 0) (v := .vc 1) (tr2 := []) (H0 := []) (H0' := [vecL (encI .u8) 1 5 y4]) (H2 := [.box [.int .u8 x2.a0_, .int .u8 x2.a1_, .int .u8 x2.a2_, .int .u8 x2.a3_], vecL (encI .u8) 1 5 y4]) [] (by kernel_rfl) (by kernel_rfl) (by kernel_rfl) (by kernel_rfl) (by decide) (by kernel_rfl) (by kernel_rfl) (by kernel_rfl) (.cons (Le.refl _) .nil) (crc_Put_ok_o hy5) (by kernel_rfl) (by kernel_rfl) (by kernel_rfl) ?_
  refine RJ.seg 1 [0, 1, 5, 6, 7, 8] (L2 := [(0, lsv (encI .u8) 1 x0), (1, .int .i64 x1), (5, .ptr 0 0), (6, .bool false), (7, .bool y1), (8, .vc 1)]) (H2 := [.box [.int .u8 x2.a0_, .int .u8 x2.a1_, .int .u8 x2.a2_, .int .u8 x2.a3_], vecL (encI .u8) 1 5 y4]) (by kernel_rfl) ?_
  refine RJ.end (by kernel_rfl) ?_
  refine PJ.next ?_
  obtain ⟨y41, hy42, h43⟩ := bindS h6
  refine K.cutX (by kernel_rfl) (fun (s40 : Unit) => ([(1, .int .i64 x1), (5, .ptr 0 0), (6, .bool false), (7, .bool y1), (8, .vc 1)], [.box [.int .u8 x2.a0_, .int .u8 x2.a1_, .int .u8 x2.a2_, .int .u8 x2.a3_], vecL (encI .u8) 1 5 y4])) y41 ?_ (fun s40 hs => ?_)
  · obtain ⟨s57, hy59, h61⟩ := bindS hy42
    refine K.cutN (by kernel_rfl) (fun (s57 : Bool) => ([(1, .int .i64 x1), (5, .ptr 0 0), (6, .bool false), (7, .bool y1), (8, .vc 1), (38, .bool s57)], [.box [.int .u8 x2.a0_, .int .u8 x2.a1_, .int .u8 x2.a2_, .int .u8 x2.a3_], vecL (encI .u8) 1 5 y4])) s57 ?_ ?_
    · refine K.region (by kernel_rfl) ?_
      refine RJ.seg 4 [1, 5, 6, 7, 8, 18] (L2 := [(1, .int .i64 x1), (5, .ptr 0 0), (6, .bool false), (7, .bool y1), (8, .vc 1), (18, .bool ((decide ((x0.length : Int) > 2000))))]) (H2 := [.box [.int .u8 x2.a0_, .int .u8 x2.a1_, .int .u8 x2.a2_, .int .u8 x2.a3_], vecL (encI .u8) 1 5 y4]) (by kernel_rfl) ?_
      refine RJ.caseB 18 (b := (decide ((x0.length : Int) > 2000))) (by kernel_rfl) (fun hb62 => ?_) (fun hb62 => ?_)
      · have h63 := condT hb62 hy59
        refine RJ.seg 20 [1, 5, 6, 7, 8, 38] (L2 := [(1, .int .i64 x1), (5, .ptr 0 0), (6, .bool false), (7, .bool y1), (8, .vc 1), (38, .bool true)]) (H2 := [.box [.int .u8 x2.a0_, .int .u8 x2.a1_, .int .u8 x2.a2_, .int .u8 x2.a3_], vecL (encI .u8) 1 5 y4]) (by kernel_rfl) ?_
        refine RJ.end (by kernel_rfl) ?_
        obtain rfl := Option.some.inj h63
        exact PJ.cutN [1, 5, 6, 7, 8, 38] (by kernel_rfl) (by kernel_rfl)
      · have h64 := condF hb62 hy59
        refine RJ.seg 5 [1, 5, 6, 7, 8, 23] (L2 := [(1, .int .i64 x1), (5, .ptr 0 0), (6, .bool false), (7, .bool y1), (8, .vc 1), (23, .bool ((decide ((y4.length : Int) < 4))))]) (H2 := [.box [.int .u8 x2.a0_, .int .u8 x2.a1_, .int .u8 x2.a2_, .int .u8 x2.a3_], vecL (encI .u8) 1 5 y4]) (by kernel_rfl) ?_
        refine RJ.caseB 23 (b := (decide ((y4.length : Int) < 4))) (by kernel_rfl) (fun hb65 => ?_) (fun hb65 => ?_)
        · have h66 := condT hb65 h64
          refine RJ.seg 15 [1, 5, 6, 7, 8, 38] (L2 := [(1, .int .i64 x1), (5, .ptr 0 0), (6, .bool false), (7, .bool y1), (8, .vc 1), (38, .bool true)]) (H2 := [.box [.int .u8 x2.a0_, .int .u8 x2.a1_, .int .u8 x2.a2_, .int .u8 x2.a3_], vecL (encI .u8) 1 5 y4]) (by kernel_rfl) ?_
          refine RJ.end (by kernel_rfl) ?_
          obtain rfl := Option.some.inj h66
          exact PJ.cutN [1, 5, 6, 7, 8, 38] (by kernel_rfl) (by kernel_rfl)
        · have h67 := condF hb65 h64
          refine RJ.seg 4 [1, 5, 6, 7, 8, 27] (L2 := [(1, .int .i64 x1), (5, .ptr 0 0), (6, .bool false), (7, .bool y1), (8, .vc 1), (27, .bool (decide (x1 < 0)))]) (H2 := [.box [.int .u8 x2.a0_, .int .u8 x2.a1_, .int .u8 x2.a2_, .int .u8 x2.a3_], vecL (encI .u8) 1 5 y4]) (by kernel_rfl) ?_
          refine RJ.caseB 27 (b := (decide (x1 < 0))) (by kernel_rfl) (fun hb68 => ?_) (fun hb68 => ?_)
          · have h69 := condT hb68 h67
            refine RJ.seg 11 [1, 5, 6, 7, 8, 38] (L2 := [(1, .int .i64 x1), (5, .ptr 0 0), (6, .bool false), (7, .bool y1), (8, .vc 1), (38, .bool true)]) (H2 := [.box [.int .u8 x2.a0_, .int .u8 x2.a1_, .int .u8 x2.a2_, .int .u8 x2.a3_], vecL (encI .u8) 1 5 y4]) (by kernel_rfl) ?_
            refine RJ.end (by kernel_rfl) ?_
            obtain rfl := Option.some.inj h69
            exact PJ.cutN [1, 5, 6, 7, 8, 38] (by kernel_rfl) (by kernel_rfl)
          · have h70 := condF hb68 h67
            refine RJ.seg 7 [1, 5, 6, 7, 8, 34] (L2 := [(1, .int .i64 x1), (5, .ptr 0 0), (6, .bool false), (7, .bool y1), (8, .vc 1), (34, .bool ((decide (x1 > ((IntKind.wrap .i64 ((y4.length : Int) - 4)))))))]) (H2 := [.box [.int .u8 x2.a0_, .int .u8 x2.a1_, .int .u8 x2.a2_, .int .u8 x2.a3_], vecL (encI .u8) 1 5 y4]) (by kernel_rfl) ?_
            refine RJ.caseB 34 (b := (decide (x1 > ((IntKind.wrap .i64 ((y4.length : Int) - 4)))))) (by kernel_rfl) (fun hb71 => ?_) (fun hb71 => ?_)
            · have h72 := condT hb71 h70
              refine RJ.seg 4 [1, 5, 6, 7, 8, 38] (L2 := [(1, .int .i64 x1), (5, .ptr 0 0), (6, .bool false), (7, .bool y1), (8, .vc 1), (38, .bool true)]) (H2 := [.box [.int .u8 x2.a0_, .int .u8 x2.a1_, .int .u8 x2.a2_, .int .u8 x2.a3_], vecL (encI .u8) 1 5 y4]) (by kernel_rfl) ?_
              refine RJ.end (by kernel_rfl) ?_
              obtain rfl := Option.some.inj h72
              exact PJ.cutN [1, 5, 6, 7, 8, 38] (by kernel_rfl) (by kernel_rfl)
            · have h73 := condF hb71 h70
              refine RJ.seg 4 [1, 5, 6, 7, 8, 38] (L2 := [(1, .int .i64 x1), (5, .ptr 0 0), (6, .bool false), (7, .bool y1), (8, .vc 1), (38, .bool (((decide (x2.a0_ = 0)) && ((decide (x2.a1_ = 0)) && ((decide (x2.a2_ = 0)) && ((decide (x2.a3_ = 0)) && true))))))]) (H2 := [.box [.int .u8 x2.a0_, .int .u8 x2.a1_, .int .u8 x2.a2_, .int .u8 x2.a3_], vecL (encI .u8) 1 5 y4]) (by kernel_rfl) ?_
              refine RJ.end (by kernel_rfl) ?_
              obtain rfl := Option.some.inj h73
              exact PJ.cutN [1, 5, 6, 7, 8, 38] (by kernel_rfl) (by kernel_rfl)
    · refine J.caseB 38 (b := s57) (by kernel_rfl) (fun hb74 => ?_) (fun hb74 => ?_)
      · have h75 := condT hb74 h61
        refine K.condT (by kernel_rfl) ?_
        refine K.seq (by kernel_rfl) ?_
        refine K.region (by kernel_rfl) ?_
        refine RJ.seg 2 [1, 5, 6, 7, 8] (L2 := [(1, .int .i64 x1), (5, .ptr 0 0), (6, .bool y1), (7, .bool y1), (8, .vc 1)]) (H2 := [.box [.int .u8 x2.a0_, .int .u8 x2.a1_, .int .u8 x2.a2_, .int .u8 x2.a3_], vecL (encI .u8) 1 5 y4]) (by kernel_rfl) ?_
        refine RJ.end (by kernel_rfl) ?_
        refine PJ.next ?_
        refine K.ret (by kernel_rfl) ?_
        obtain rfl := Option.some.inj h75
        have h77 := joinX_inr h43
        refine PJ.cutXr (fun e => nomatch e) ?_
        obtain rfl := Option.some.inj h77
        exact K.ret0 (.inr rfl) hFn hFH hFD (by kernel_rfl) (by kernel_rfl) (by kernel_rfl)
      · have h76 := condF hb74 h61
        refine K.condF (by kernel_rfl) ?_
        refine K.skip (by kernel_rfl) ?_
        obtain rfl := Option.some.inj h76
        exact PJ.cutXl [1, 5, 6, 7, 8] (by kernel_rfl) (by kernel_rfl)
  · subst hs
    have h44 := joinX_inl h43
    obtain ⟨s144, hy146, h148⟩ := bindS h44
    refine K.cutN (by kernel_rfl) (fun (s144 : (List Int)) => ([(6, .bool false), (7, .bool y1), (8, .vc 0)], [vecL (encI .u8) 1 5 s144])) s144 ?_ ?_
    · refine K.seq (by kernel_rfl) ?_
      refine K.region (by kernel_rfl) ?_
      refine RJ.seg 1 [1, 5, 6, 7, 8, 9] (L2 := [(1, .int .i64 x1), (5, .ptr 0 0), (6, .bool false), (7, .bool y1), (8, .vc 1), (9, .int .i64 0)]) (H2 := [.box [.int .u8 x2.a0_, .int .u8 x2.a1_, .int .u8 x2.a2_, .int .u8 x2.a3_], vecL (encI .u8) 1 5 y4]) (by kernel_rfl) ?_
      refine RJ.end (by kernel_rfl) ?_
      refine PJ.next ?_
      refine K.block 0 (by kernel_rfl) ?_
      refine K.loop (by kernel_rfl) (fun (s149 : Int × (List Int)) => ([(1, .int .i64 x1), (5, .ptr 0 0), (6, .bool false), (7, .bool y1), (8, .vc 1), (9, .int .i64 s149.1)], [.box [.int .u8 x2.a0_, .int .u8 x2.a1_, .int .u8 x2.a2_, .int .u8 x2.a3_], vecL (encI .u8) 1 5 s149.2])) hy146 [1, 5, 6, 7, 8, 9] (by kernel_rfl) (by kernel_rfl) (fun s149 x187 hs186 => ?_)
      refine K.seq (by kernel_rfl) ?_
      refine K.seq (by kernel_rfl) ?_
      refine K.region (by kernel_rfl) ?_
      refine RJ.seg 2 [1, 5, 6, 7, 8, 9, 41] (L2 := [(1, .int .i64 x1), (5, .ptr 0 0), (6, .bool false), (7, .bool y1), (8, .vc 1), (9, .int .i64 s149.1), (41, .bool (decide (s149.1 < 4)))]) (H2 := [.box [.int .u8 x2.a0_, .int .u8 x2.a1_, .int .u8 x2.a2_, .int .u8 x2.a3_], vecL (encI .u8) 1 5 s149.2]) (by kernel_rfl) ?_
      refine RJ.end (by kernel_rfl) ?_
      refine PJ.next ?_
      refine J.caseB 41 (b := (decide (s149.1 < 4))) (by kernel_rfl) (fun hb188 => ?_) (fun hb188 => ?_)
      · have h189 := condT hb188 hs186
        refine K.condT (by kernel_rfl) ?_
        refine K.skip (by kernel_rfl) ?_
        refine PJ.next ?_
        refine K.seq (by kernel_rfl) ?_
        refine K.block 1 (by kernel_rfl) ?_
        refine J.keep [1, 5, 6, 7, 8, 9] (L2 := [(1, .int .i64 x1), (5, .ptr 0 0), (6, .bool false), (7, .bool y1), (8, .vc 1), (9, .int .i64 s149.1)]) (by kernel_rfl) ?_
        refine K.draw (by kernel_rfl) (by kernel_rfl) (by kernel_rfl) (H2 := [.box [.int .u8 x2.a0_, .int .u8 x2.a1_, .int .u8 x2.a2_, .int .u8 x2.a3_], vecL (encI .u8) 1 5 s149.2]) (by kernel_rfl) (n := 2) (by kernel_rfl) ?_
        refine RJ.segD 8 (tr2 := [([], []), ([], []), ([], []), ([], []), ([], []), ([], []), ([], []), ([], [])]) (L2 := [(51, .int .i64 (IntKind.wrap .i64 (x1 + s149.1))), (50, .int .i64 s149.1), (49, .int .i64 x1), (48, .vc 1), (47, .int .i64 (IntKind.wrap .i64 (x1 + s149.1))), (46, .int .i64 s149.1), (45, .int .i64 x1), (44, .vc 1), (1, .int .i64 x1), (5, .ptr 0 0), (6, .bool false), (7, .bool y1), (8, .vc 1), (9, .int .i64 s149.1)]) (H2 := [.box [.int .u8 x2.a0_, .int .u8 x2.a1_, .int .u8 x2.a2_, .int .u8 x2.a3_], vecL (encI .u8) 1 5 s149.2]) (by kernel_rfl) ?_
        obtain ⟨hm, h191⟩ := asrt h189
        refine RJ.rel (d := (some 52)) (ef := ⟨.ptr 1 (((IntKind.wrap .i64 (x1 + s149.1)) : Int).toNat * 1), [1], []⟩) (ef' := ⟨.ptr 1 (((IntKind.wrap .i64 (x1 + s149.1)) : Int).toNat * 1), [1], []⟩) (c := inR (IntKind.wrap .i64 (x1 + s149.1)) s149.2.length) (tr2 := [([], []), ([], []), ([], []), ([], []), ([], []), ([], []), ([], []), ([], []), ([3], [])]) (H2 := [.box [.int .u8 x2.a0_, .int .u8 x2.a1_, .int .u8 x2.a2_, .int .u8 x2.a3_], vecL (encI .u8) 1 5 s149.2]) (by kernel_rfl) hm (fun hc => rfl) (by kernel_rfl) ?_
        obtain ⟨hm, h192⟩ := asrt h191
        refine RJ.rel (d := (some 53)) (ef := ⟨(((s149.2).flatMap (encI .u8)).drop (((IntKind.wrap .i64 (x1 + s149.1)) : Int).toNat * 1)).headD .undef, [1], []⟩) (ef' := ⟨.int .u8 ((nth s149.2 (IntKind.wrap .i64 (x1 + s149.1)))), [1], []⟩) (c := Nat.blt (((IntKind.wrap .i64 (x1 + s149.1)) : Int).toNat * 1) (s149.2.flatMap (encI .u8)).length) (tr2 := [([], []), ([], []), ([], []), ([], []), ([], []), ([], []), ([], []), ([], []), ([3], []), ([2, 3], [])]) (H2 := [.box [.int .u8 x2.a0_, .int .u8 x2.a1_, .int .u8 x2.a2_, .int .u8 x2.a3_], vecL (encI .u8) 1 5 s149.2]) (by kernel_rfl) (loadv_ok (encI_len .u8) rfl hm) (fun hc => N.load1 (encI_len .u8) (fun _ => rfl) hm) (by kernel_rfl) ?_
        refine RJ.segD 1 (tr2 := [([], []), ([], []), ([], []), ([], []), ([], []), ([], []), ([], []), ([], []), ([3], []), ([2, 3], []), ([], [])]) (L2 := [(54, .int .i64 s149.1), (53, .int .u8 ((nth s149.2 (IntKind.wrap .i64 (x1 + s149.1))))), (52, .ptr 1 ((((IntKind.wrap .i64 (x1 + s149.1)) : Int).toNat * 1))), (51, .int .i64 (IntKind.wrap .i64 (x1 + s149.1))), (50, .int .i64 s149.1), (49, .int .i64 x1), (48, .vc 1), (47, .int .i64 (IntKind.wrap .i64 (x1 + s149.1))), (46, .int .i64 s149.1), (45, .int .i64 x1), (44, .vc 1), (1, .int .i64 x1), (5, .ptr 0 0), (6, .bool false), (7, .bool y1), (8, .vc 1), (9, .int .i64 s149.1)]) (H2 := [.box [.int .u8 x2.a0_, .int .u8 x2.a1_, .int .u8 x2.a2_, .int .u8 x2.a3_], vecL (encI .u8) 1 5 s149.2]) (by kernel_rfl) ?_
        cases hb193 : (decide (s149.1 = 0))
        · have h195 := condF hb193 h192
          cases hb198 : (decide (s149.1 = 1))
          · have h200 := condF hb198 h195
            cases hb203 : (decide (s149.1 = 2))
            · have h205 := condF hb203 h200
              cases hb208 : (decide (s149.1 = 3))
              · have h210 := condF hb208 h205
                cases h210
              · have h209 := condT hb208 h205
                refine RJ.pin 54 (kd := .i64) (by kernel_rfl) (of_decide_eq_true hb208) ?_
                refine RJ.segD 3 (tr2 := [([], []), ([], []), ([], []), ([], []), ([], []), ([], []), ([], []), ([], []), ([3], []), ([2, 3], []), ([], []), ([], []), ([0, 1], []), ([], [])]) (L2 := [(57, .int .u8 ((bits .xor .u8 ((nth s149.2 (IntKind.wrap .i64 (x1 + s149.1)))) x2.a3_))), (56, .int .u8 x2.a3_), (55, .ptr 0 3), (54, .int .i64 3), (54, .int .i64 s149.1), (53, .int .u8 ((nth s149.2 (IntKind.wrap .i64 (x1 + s149.1))))), (52, .ptr 1 ((((IntKind.wrap .i64 (x1 + s149.1)) : Int).toNat * 1))), (51, .int .i64 (IntKind.wrap .i64 (x1 + s149.1))), (50, .int .i64 s149.1), (49, .int .i64 x1), (48, .vc 1), (47, .int .i64 (IntKind.wrap .i64 (x1 + s149.1))), (46, .int .i64 s149.1), (45, .int .i64 x1), (44, .vc 1), (1, .int .i64 x1), (5, .ptr 0 0), (6, .bool false), (7, .bool y1), (8, .vc 1), (9, .int .i64 s149.1)]) (H2 := [.box [.int .u8 x2.a0_, .int .u8 x2.a1_, .int .u8 x2.a2_, .int .u8 x2.a3_], vecL (encI .u8) 1 5 s149.2]) (by kernel_rfl) ?_
                obtain ⟨hm, h211⟩ := asrt h209
                refine RJ.rel (d := (some 58)) (ef := ⟨.ptr 1 (((IntKind.wrap .i64 (x1 + s149.1)) : Int).toNat * 1), [1], []⟩) (ef' := ⟨.ptr 1 (((IntKind.wrap .i64 (x1 + s149.1)) : Int).toNat * 1), [1], []⟩) (c := inR (IntKind.wrap .i64 (x1 + s149.1)) s149.2.length) (tr2 := [([], []), ([], []), ([], []), ([], []), ([], []), ([], []), ([], []), ([], []), ([3], []), ([2, 3], []), ([], []), ([], []), ([0, 1], []), ([], []), ([3], [])]) (H2 := [.box [.int .u8 x2.a0_, .int .u8 x2.a1_, .int .u8 x2.a2_, .int .u8 x2.a3_], vecL (encI .u8) 1 5 s149.2]) (by kernel_rfl) hm (fun hc => rfl) (by kernel_rfl) ?_
                obtain ⟨hm, h212⟩ := asrt h211
                refine RJ.rel (d := none) (ef := ⟨.undef, [1], [(1, .vec (s149.2).length 1 5 (splice ((s149.2).flatMap (encI .u8)) ((((IntKind.wrap .i64 (x1 + s149.1)) : Int).toNat * 1)) ((encI .u8) ((bits .xor .u8 ((nth s149.2 (IntKind.wrap .i64 (x1 + s149.1)))) x2.a3_)))))]⟩) (ef' := ⟨.undef, [1], [(1, vecL (encI .u8) 1 5 (setAt s149.2 (IntKind.wrap .i64 (x1 + s149.1)) ((bits .xor .u8 ((nth s149.2 (IntKind.wrap .i64 (x1 + s149.1)))) x2.a3_))))]⟩) (c := Nat.ble ((((IntKind.wrap .i64 (x1 + s149.1)) : Int).toNat * 1) + ((encI .u8) ((bits .xor .u8 ((nth s149.2 (IntKind.wrap .i64 (x1 + s149.1)))) x2.a3_))).length) (s149.2.flatMap (encI .u8)).length) (tr2 := [([], []), ([], []), ([], []), ([], []), ([], []), ([], []), ([], []), ([], []), ([3], []), ([2, 3], []), ([], []), ([], []), ([0, 1], []), ([], []), ([3], []), ([2, 3], [2])]) (H2 := [.box [.int .u8 x2.a0_, .int .u8 x2.a1_, .int .u8 x2.a2_, .int .u8 x2.a3_], vecL (encI .u8) 1 5 ((setAt s149.2 (IntKind.wrap .i64 (x1 + s149.1)) ((bits .xor .u8 ((nth s149.2 (IntKind.wrap .i64 (x1 + s149.1)))) x2.a3_))))]) (by kernel_rfl) (storev_ok (encI_len .u8) hm) (fun hc => N.store (encI_len .u8) hm) (by kernel_rfl) ?_
                refine RJ.end (by kernel_rfl) ?_
                refine PJ.blockNormal ?_
                refine PJ.next ?_
                refine K.region (by kernel_rfl) ?_
                refine RJ.seg 3 [1, 5, 6, 7, 8, 9] (L2 := [(1, .int .i64 x1), (5, .ptr 0 0), (6, .bool false), (7, .bool y1), (8, .vc 1), (9, .int .i64 (IntKind.wrap .i64 (s149.1 + 1)))]) (H2 := [.box [.int .u8 x2.a0_, .int .u8 x2.a1_, .int .u8 x2.a2_, .int .u8 x2.a3_], vecL (encI .u8) 1 5 ((setAt s149.2 (IntKind.wrap .i64 (x1 + s149.1)) ((bits .xor .u8 ((nth s149.2 (IntKind.wrap .i64 (x1 + s149.1)))) x2.a3_))))]) (by kernel_rfl) ?_
                refine RJ.end (by kernel_rfl) ?_
                obtain rfl := Option.some.inj h212
                exact PJ.loopNext [1, 5, 6, 7, 8, 9] (by kernel_rfl) (by kernel_rfl)
            · have h204 := condT hb203 h200
              refine RJ.pin 54 (kd := .i64) (by kernel_rfl) (of_decide_eq_true hb203) ?_
              refine RJ.segD 3 (tr2 := [([], []), ([], []), ([], []), ([], []), ([], []), ([], []), ([], []), ([], []), ([3], []), ([2, 3], []), ([], []), ([], []), ([0, 1], []), ([], [])]) (L2 := [(57, .int .u8 ((bits .xor .u8 ((nth s149.2 (IntKind.wrap .i64 (x1 + s149.1)))) x2.a2_))), (56, .int .u8 x2.a2_), (55, .ptr 0 2), (54, .int .i64 2), (54, .int .i64 s149.1), (53, .int .u8 ((nth s149.2 (IntKind.wrap .i64 (x1 + s149.1))))), (52, .ptr 1 ((((IntKind.wrap .i64 (x1 + s149.1)) : Int).toNat * 1))), (51, .int .i64 (IntKind.wrap .i64 (x1 + s149.1))), (50, .int .i64 s149.1), (49, .int .i64 x1), (48, .vc 1), (47, .int .i64 (IntKind.wrap .i64 (x1 + s149.1))), (46, .int .i64 s149.1), (45, .int .i64 x1), (44, .vc 1), (1, .int .i64 x1), (5, .ptr 0 0), (6, .bool false), (7, .bool y1), (8, .vc 1), (9, .int .i64 s149.1)]) (H2 := [.box [.int .u8 x2.a0_, .int .u8 x2.a1_, .int .u8 x2.a2_, .int .u8 x2.a3_], vecL (encI .u8) 1 5 s149.2]) (by kernel_rfl) ?_
              obtain ⟨hm, h206⟩ := asrt h204
              refine RJ.rel (d := (some 58)) (ef := ⟨.ptr 1 (((IntKind.wrap .i64 (x1 + s149.1)) : Int).toNat * 1), [1], []⟩) (ef' := ⟨.ptr 1 (((IntKind.wrap .i64 (x1 + s149.1)) : Int).toNat * 1), [1], []⟩) (c := inR (IntKind.wrap .i64 (x1 + s149.1)) s149.2.length) (tr2 := [([], []), ([], []), ([], []), ([], []), ([], []), ([], []), ([], []), ([], []), ([3], []), ([2, 3], []), ([], []), ([], []), ([0, 1], []), ([], []), ([3], [])]) (H2 := [.box [.int .u8 x2.a0_, .int .u8 x2.a1_, .int .u8 x2.a2_, .int .u8 x2.a3_], vecL (encI .u8) 1 5 s149.2]) (by kernel_rfl) hm (fun hc => rfl) (by kernel_rfl) ?_
              obtain ⟨hm, h207⟩ := asrt h206
              refine RJ.rel (d := none) (ef := ⟨.undef, [1], [(1, .vec (s149.2).length 1 5 (splice ((s149.2).flatMap (encI .u8)) ((((IntKind.wrap .i64 (x1 + s149.1)) : Int).toNat * 1)) ((encI .u8) ((bits .xor .u8 ((nth s149.2 (IntKind.wrap .i64 (x1 + s149.1)))) x2.a2_)))))]⟩) (ef' := ⟨.undef, [1], [(1, vecL (encI .u8) 1 5 (setAt s149.2 (IntKind.wrap .i64 (x1 + s149.1)) ((bits .xor .u8 ((nth s149.2 (IntKind.wrap .i64 (x1 + s149.1)))) x2.a2_))))]⟩) (c := Nat.ble ((((IntKind.wrap .i64 (x1 + s149.1)) : Int).toNat * 1) + ((encI .u8) ((bits .xor .u8 ((nth s149.2 (IntKind.wrap .i64 (x1 + s149.1)))) x2.a2_))).length) (s149.2.flatMap (encI .u8)).length) (tr2 := [([], []), ([], []), ([], []), ([], []), ([], []), ([], []), ([], []), ([], []), ([3], []), ([2, 3], []), ([], []), ([], []), ([0, 1], []), ([], []), ([3], []), ([2, 3], [2])]) (H2 := [.box [.int .u8 x2.a0_, .int .u8 x2.a1_, .int .u8 x2.a2_, .int .u8 x2.a3_], vecL (encI .u8) 1 5 ((setAt s149.2 (IntKind.wrap .i64 (x1 + s149.1)) ((bits .xor .u8 ((nth s149.2 (IntKind.wrap .i64 (x1 + s149.1)))) x2.a2_))))]) (by kernel_rfl) (storev_ok (encI_len .u8) hm) (fun hc => N.store (encI_len .u8) hm) (by kernel_rfl) ?_
              refine RJ.end (by kernel_rfl) ?_
              refine PJ.blockNormal ?_
              refine PJ.next ?_
              refine K.region (by kernel_rfl) ?_
              refine RJ.seg 3 [1, 5, 6, 7, 8, 9] (L2 := [(1, .int .i64 x1), (5, .ptr 0 0), (6, .bool false), (7, .bool y1), (8, .vc 1), (9, .int .i64 (IntKind.wrap .i64 (s149.1 + 1)))]) (H2 := [.box [.int .u8 x2.a0_, .int .u8 x2.a1_, .int .u8 x2.a2_, .int .u8 x2.a3_], vecL (encI .u8) 1 5 ((setAt s149.2 (IntKind.wrap .i64 (x1 + s149.1)) ((bits .xor .u8 ((nth s149.2 (IntKind.wrap .i64 (x1 + s149.1)))) x2.a2_))))]) (by kernel_rfl) ?_
              refine RJ.end (by kernel_rfl) ?_
              obtain rfl := Option.some.inj h207
              exact PJ.loopNext [1, 5, 6, 7, 8, 9] (by kernel_rfl) (by kernel_rfl)
          · have h199 := condT hb198 h195
            refine RJ.pin 54 (kd := .i64) (by kernel_rfl) (of_decide_eq_true hb198) ?_
            refine RJ.segD 3 (tr2 := [([], []), ([], []), ([], []), ([], []), ([], []), ([], []), ([], []), ([], []), ([3], []), ([2, 3], []), ([], []), ([], []), ([0, 1], []), ([], [])]) (L2 := [(57, .int .u8 ((bits .xor .u8 ((nth s149.2 (IntKind.wrap .i64 (x1 + s149.1)))) x2.a1_))), (56, .int .u8 x2.a1_), (55, .ptr 0 1), (54, .int .i64 1), (54, .int .i64 s149.1), (53, .int .u8 ((nth s149.2 (IntKind.wrap .i64 (x1 + s149.1))))), (52, .ptr 1 ((((IntKind.wrap .i64 (x1 + s149.1)) : Int).toNat * 1))), (51, .int .i64 (IntKind.wrap .i64 (x1 + s149.1))), (50, .int .i64 s149.1), (49, .int .i64 x1), (48, .vc 1), (47, .int .i64 (IntKind.wrap .i64 (x1 + s149.1))), (46, .int .i64 s149.1), (45, .int .i64 x1), (44, .vc 1), (1, .int .i64 x1), (5, .ptr 0 0), (6, .bool false), (7, .bool y1), (8, .vc 1), (9, .int .i64 s149.1)]) (H2 := [.box [.int .u8 x2.a0_, .int .u8 x2.a1_, .int .u8 x2.a2_, .int .u8 x2.a3_], vecL (encI .u8) 1 5 s149.2]) (by kernel_rfl) ?_
            obtain ⟨hm, h201⟩ := asrt h199
            refine RJ.rel (d := (some 58)) (ef := ⟨.ptr 1 (((IntKind.wrap .i64 (x1 + s149.1)) : Int).toNat * 1), [1], []⟩) (ef' := ⟨.ptr 1 (((IntKind.wrap .i64 (x1 + s149.1)) : Int).toNat * 1), [1], []⟩) (c := inR (IntKind.wrap .i64 (x1 + s149.1)) s149.2.length) (tr2 := [([], []), ([], []), ([], []), ([], []), ([], []), ([], []), ([], []), ([], []), ([3], []), ([2, 3], []), ([], []), ([], []), ([0, 1], []), ([], []), ([3], [])]) (H2 := [.box [.int .u8 x2.a0_, .int .u8 x2.a1_, .int .u8 x2.a2_, .int .u8 x2.a3_], vecL (encI .u8) 1 5 s149.2]) (by kernel_rfl) hm (fun hc => rfl) (by kernel_rfl) ?_
            obtain ⟨hm, h202⟩ := asrt h201
            refine RJ.rel (d := none) (ef := ⟨.undef, [1], [(1, .vec (s149.2).length 1 5 (splice ((s149.2).flatMap (encI .u8)) ((((IntKind.wrap .i64 (x1 + s149.1)) : Int).toNat * 1)) ((encI .u8) ((bits .xor .u8 ((nth s149.2 (IntKind.wrap .i64 (x1 + s149.1)))) x2.a1_)))))]⟩) (ef' := ⟨.undef, [1], [(1, vecL (encI .u8) 1 5 (setAt s149.2 (IntKind.wrap .i64 (x1 + s149.1)) ((bits .xor .u8 ((nth s149.2 (IntKind.wrap .i64 (x1 + s149.1)))) x2.a1_))))]⟩) (c := Nat.ble ((((IntKind.wrap .i64 (x1 + s149.1)) : Int).toNat * 1) + ((encI .u8) ((bits .xor .u8 ((nth s149.2 (IntKind.wrap .i64 (x1 + s149.1)))) x2.a1_))).length) (s149.2.flatMap (encI .u8)).length) (tr2 := [([], []), ([], []), ([], []), ([], []), ([], []), ([], []), ([], []), ([], []), ([3], []), ([2, 3], []), ([], []), ([], []), ([0, 1], []), ([], []), ([3], []), ([2, 3], [2])]) (H2 := [.box [.int .u8 x2.a0_, .int .u8 x2.a1_, .int .u8 x2.a2_, .int .u8 x2.a3_], vecL (encI .u8) 1 5 ((setAt s149.2 (IntKind.wrap .i64 (x1 + s149.1)) ((bits .xor .u8 ((nth s149.2 (IntKind.wrap .i64 (x1 + s149.1)))) x2.a1_))))]) (by kernel_rfl) (storev_ok (encI_len .u8) hm) (fun hc => N.store (encI_len .u8) hm) (by kernel_rfl) ?_
            refine RJ.end (by kernel_rfl) ?_
            refine PJ.blockNormal ?_
            refine PJ.next ?_
            refine K.region (by kernel_rfl) ?_
            refine RJ.seg 3 [1, 5, 6, 7, 8, 9] (L2 := [(1, .int .i64 x1), (5, .ptr 0 0), (6, .bool false), (7, .bool y1), (8, .vc 1), (9, .int .i64 (IntKind.wrap .i64 (s149.1 + 1)))]) (H2 := [.box [.int .u8 x2.a0_, .int .u8 x2.a1_, .int .u8 x2.a2_, .int .u8 x2.a3_], vecL (encI .u8) 1 5 ((setAt s149.2 (IntKind.wrap .i64 (x1 + s149.1)) ((bits .xor .u8 ((nth s149.2 (IntKind.wrap .i64 (x1 + s149.1)))) x2.a1_))))]) (by kernel_rfl) ?_
            refine RJ.end (by kernel_rfl) ?_
            obtain rfl := Option.some.inj h202
            exact PJ.loopNext [1, 5, 6, 7, 8, 9] (by kernel_rfl) (by kernel_rfl)
        · have h194 := condT hb193 h192
          refine RJ.pin 54 (kd := .i64) (by kernel_rfl) (of_decide_eq_true hb193) ?_
          refine RJ.segD 3 (tr2 := [([], []), ([], []), ([], []), ([], []), ([], []), ([], []), ([], []), ([], []), ([3], []), ([2, 3], []), ([], []), ([], []), ([0, 1], []), ([], [])]) (L2 := [(57, .int .u8 ((bits .xor .u8 ((nth s149.2 (IntKind.wrap .i64 (x1 + s149.1)))) x2.a0_))), (56, .int .u8 x2.a0_), (55, .ptr 0 0), (54, .int .i64 0), (54, .int .i64 s149.1), (53, .int .u8 ((nth s149.2 (IntKind.wrap .i64 (x1 + s149.1))))), (52, .ptr 1 ((((IntKind.wrap .i64 (x1 + s149.1)) : Int).toNat * 1))), (51, .int .i64 (IntKind.wrap .i64 (x1 + s149.1))), (50, .int .i64 s149.1), (49, .int .i64 x1), (48, .vc 1), (47, .int .i64 (IntKind.wrap .i64 (x1 + s149.1))), (46, .int .i64 s149.1), (45, .int .i64 x1), (44, .vc 1), (1, .int .i64 x1), (5, .ptr 0 0), (6, .bool false), (7, .bool y1), (8, .vc 1), (9, .int .i64 s149.1)]) (H2 := [.box [.int .u8 x2.a0_, .int .u8 x2.a1_, .int .u8 x2.a2_, .int .u8 x2.a3_], vecL (encI .u8) 1 5 s149.2]) (by kernel_rfl) ?_
          obtain ⟨hm, h196⟩ := asrt h194
          refine RJ.rel (d := (some 58)) (ef := ⟨.ptr 1 (((IntKind.wrap .i64 (x1 + s149.1)) : Int).toNat * 1), [1], []⟩) (ef' := ⟨.ptr 1 (((IntKind.wrap .i64 (x1 + s149.1)) : Int).toNat * 1), [1], []⟩) (c := inR (IntKind.wrap .i64 (x1 + s149.1)) s149.2.length) (tr2 := [([], []), ([], []), ([], []), ([], []), ([], []), ([], []), ([], []), ([], []), ([3], []), ([2, 3], []), ([], []), ([], []), ([0, 1], []), ([], []), ([3], [])]) (H2 := [.box [.int .u8 x2.a0_, .int .u8 x2.a1_, .int .u8 x2.a2_, .int .u8 x2.a3_], vecL (encI .u8) 1 5 s149.2]) (by kernel_rfl) hm (fun hc => rfl) (by kernel_rfl) ?_
          obtain ⟨hm, h197⟩ := asrt h196
          refine RJ.rel (d := none) (ef := ⟨.undef, [1], [(1, .vec (s149.2).length 1 5 (splice ((s149.2).flatMap (encI .u8)) ((((IntKind.wrap .i64 (x1 + s149.1)) : Int).toNat * 1)) ((encI .u8) ((bits .xor .u8 ((nth s149.2 (IntKind.wrap .i64 (x1 + s149.1)))) x2.a0_)))))]⟩) (ef' := ⟨.undef, [1], [(1, vecL (encI .u8) 1 5 (setAt s149.2 (IntKind.wrap .i64 (x1 + s149.1)) ((bits .xor .u8 ((nth s149.2 (IntKind.wrap .i64 (x1 + s149.1)))) x2.a0_))))]⟩) (c := Nat.ble ((((IntKind.wrap .i64 (x1 + s149.1)) : Int).toNat * 1) + ((encI .u8) ((bits .xor .u8 ((nth s149.2 (IntKind.wrap .i64 (x1 + s149.1)))) x2.a0_))).length) (s149.2.flatMap (encI .u8)).length) (tr2 := [([], []), ([], []), ([], []), ([], []), ([], []), ([], []), ([], []), ([], []), ([3], []), ([2, 3], []), ([], []), ([], []), ([0, 1], []), ([], []), ([3], []), ([2, 3], [2])]) (H2 := [.box [.int .u8 x2.a0_, .int .u8 x2.a1_, .int .u8 x2.a2_, .int .u8 x2.a3_], vecL (encI .u8) 1 5 ((setAt s149.2 (IntKind.wrap .i64 (x1 + s149.1)) ((bits .xor .u8 ((nth s149.2 (IntKind.wrap .i64 (x1 + s149.1)))) x2.a0_))))]) (by kernel_rfl) (storev_ok (encI_len .u8) hm) (fun hc => N.store (encI_len .u8) hm) (by kernel_rfl) ?_
          refine RJ.end (by kernel_rfl) ?_
          refine PJ.blockNormal ?_
          refine PJ.next ?_
          refine K.region (by kernel_rfl) ?_
          refine RJ.seg 3 [1, 5, 6, 7, 8, 9] (L2 := [(1, .int .i64 x1), (5, .ptr 0 0), (6, .bool false), (7, .bool y1), (8, .vc 1), (9, .int .i64 (IntKind.wrap .i64 (s149.1 + 1)))]) (H2 := [.box [.int .u8 x2.a0_, .int .u8 x2.a1_, .int .u8 x2.a2_, .int .u8 x2.a3_], vecL (encI .u8) 1 5 ((setAt s149.2 (IntKind.wrap .i64 (x1 + s149.1)) ((bits .xor .u8 ((nth s149.2 (IntKind.wrap .i64 (x1 + s149.1)))) x2.a0_))))]) (by kernel_rfl) ?_
          refine RJ.end (by kernel_rfl) ?_
          obtain rfl := Option.some.inj h197
          exact PJ.loopNext [1, 5, 6, 7, 8, 9] (by kernel_rfl) (by kernel_rfl)
      · have h190 := condF hb188 hs186
        refine K.condF (by kernel_rfl) ?_
        refine K.exit 0 (by kernel_rfl) ?_
        refine PJ.passExit ?_
        obtain rfl := Option.some.inj h190
        refine PJ.loopOut (fun e => nomatch e) (fun he214 => ?_)
        have h213 := congrArg some he214
        refine PJ.blockOut ?_
        obtain rfl := Option.some.inj h213
        refine PJ.wk (Wk.sel (L2 := [(6, .bool false), (7, .bool y1), (8, .vc 0)]) (H2 := [vecL (encI .u8) 1 5 s149.2]) 0 (by rw [hFH]; rfl) hFD [1] (by kernel_rfl) (by kernel_rfl) (by decide) (by kernel_rfl) (by kernel_rfl) (by kernel_rfl) (by kernel_rfl)) ?_
        exact PJ.cutN [6, 7, 8] (by kernel_rfl) (by kernel_rfl)
    · refine K.seq (by kernel_rfl) ?_
      refine K.region (by kernel_rfl) ?_
      refine RJ.seg 1 [6, 7, 60] (L2 := [(6, .bool false), (7, .bool y1), (60, .vc 0)]) (H2 := [vecL (encI .u8) 1 5 s144]) (by kernel_rfl) ?_
      obtain ⟨y215, hy216, h217⟩ := bindS h148
      refine RJ.wk (Wk.freeze 0 (n := s144.length) (k := 1) (e := 5) (cs := s144.flatMap (encI .u8)) (by kernel_rfl)) ?_
      refine RJ.call0 (d := (some 61)) (f := 11) (args := [lsv (encI .u8) 1 s144]) (v := .tup [lsv (encI .u8) 1 y215.1, .int .i64 y215.2]) (tr2 := []) (by kernel_rfl) (by kernel_rfl) (.cons (Le.refl _) .nil) (crc_Cut_ok hy216) (by kernel_rfl) ?_
      refine RJ.seg 5 [6, 7, 10, 11] (L2 := [(6, .bool false), (7, .bool y1), (10, lsv (encI .u8) 1 y215.1), (11, .int .i64 y215.2)]) (H2 := [.gone]) (by kernel_rfl) ?_
      refine RJ.end (by kernel_rfl) ?_
      refine PJ.next ?_
      obtain ⟨s224, hy226, h228⟩ := bindS h217
      refine K.cutN (by kernel_rfl) (fun (s224 : Bool) => ([(6, .bool s224)], [])) s224 ?_ ?_
      · refine K.region (by kernel_rfl) ?_
        refine RJ.seg 2 [6, 10, 11, 65] (L2 := [(6, .bool false), (10, lsv (encI .u8) 1 y215.1), (11, .int .i64 y215.2), (65, .bool y1)]) (H2 := [.gone]) (by kernel_rfl) ?_
        refine RJ.caseB 65 (b := y1) (by kernel_rfl) (fun hb229 => ?_) (fun hb229 => ?_)
        · have h230 := condT hb229 hy226
          refine RJ.seg 4 [6, 10, 69] (L2 := [(6, .bool false), (10, lsv (encI .u8) 1 y215.1), (69, .bool (decide (y215.2 = 6)))]) (H2 := [.gone]) (by kernel_rfl) ?_
          refine RJ.caseB 69 (b := (decide (y215.2 = 6))) (by kernel_rfl) (fun hb232 => ?_) (fun hb232 => ?_)
          · have h233 := condT hb232 h230
            refine RJ.seg 5 [6] (L2 := [(6, .bool ((decide ((y215.1.length : Int) = 0))))]) (H2 := [.gone]) (by kernel_rfl) ?_
            refine RJ.end (by kernel_rfl) ?_
            obtain rfl := Option.some.inj h233
            refine PJ.wk (Wk.sel (L2 := [(6, .bool ((decide ((y215.1.length : Int) = 0))))]) (H2 := []) 0 (by rw [hFH]; rfl) hFD [] (by kernel_rfl) (by kernel_rfl) (by decide) (by kernel_rfl) (by kernel_rfl) (by kernel_rfl) (by kernel_rfl)) ?_
            exact PJ.cutN [6] (by kernel_rfl) (by kernel_rfl)
          · have h234 := condF hb232 h230
            refine RJ.seg 5 [6] (L2 := [(6, .bool false)]) (H2 := [.gone]) (by kernel_rfl) ?_
            refine RJ.end (by kernel_rfl) ?_
            obtain rfl := Option.some.inj h234
            refine PJ.wk (Wk.sel (L2 := [(6, .bool false)]) (H2 := []) 0 (by rw [hFH]; rfl) hFD [] (by kernel_rfl) (by kernel_rfl) (by decide) (by kernel_rfl) (by kernel_rfl) (by kernel_rfl) (by kernel_rfl)) ?_
            exact PJ.cutN [6] (by kernel_rfl) (by kernel_rfl)
        · have h231 := condF hb229 hy226
          refine RJ.seg 9 [6] (L2 := [(6, .bool false)]) (H2 := [.gone]) (by kernel_rfl) ?_
          refine RJ.end (by kernel_rfl) ?_
          obtain rfl := Option.some.inj h231
          refine PJ.wk (Wk.sel (L2 := [(6, .bool false)]) (H2 := []) 0 (by rw [hFH]; rfl) hFD [] (by kernel_rfl) (by kernel_rfl) (by decide) (by kernel_rfl) (by kernel_rfl) (by kernel_rfl) (by kernel_rfl)) ?_
          exact PJ.cutN [6] (by kernel_rfl) (by kernel_rfl)
      · refine K.ret (by kernel_rfl) ?_
        obtain rfl := Option.some.inj h228
        exact K.ret0 (.inr rfl) hFn hFH hFD (by kernel_rfl) (by kernel_rfl) (by kernel_rfl)

def exerguelaw08_CrcSums (x0 : List Int) (x1 : List Int) : Option (Bool) :=
  (Option.bind exerguelaw08_shown fun y1 => (Option.bind (Option.bind (bif (decide ((x0.length : Int) > 2000)) then (some true) else (some ((decide (¬ (x0.length : Int) = (x1.length : Int)))))) fun (s27 : Bool) => (bif s27 then (some (.inr y1)) else (some (.inl ())))) (joinX fun (s19 : Unit) => (bif mk (x0.length : Int) (x0.length : Int) then (Option.bind (loopN (fun (s75 : Int × (List Int)) => (bif (decide (s75.1 < (x0.length : Int))) then (bif inR s75.1 x0.length then (bif inR s75.1 x1.length then (bif inR s75.1 s75.2.length then (bif inR s75.1 s75.2.length then (some (.inl ((IntKind.wrap .i64 (s75.1 + 1)), (setAt s75.2 s75.1 (bits .xor .u8 (nth x0 s75.1) (nth x1 s75.1)))))) else none) else none) else none) else none) else (some (.inr s75.2)))) big (0, (rep (x0.length : Int) (0 : Int)))) fun (s70 : (List Int)) => (Option.bind (bif y1 then (Option.bind (crc_Of s70) fun y129 => (Option.bind (crc_Of x0) fun y132 => (Option.bind (crc_Of x1) fun y135 => (bif mk (x0.length : Int) (x0.length : Int) then (Option.bind (crc_Of (rep (x0.length : Int) (0 : Int))) fun y139 => (some ((decide ((bits .xor .u32 (bits .xor .u32 y129 y132) y135) = y139))))) else none)))) else (some false)) fun (s121 : Bool) => (some s121))) else none))))
theorem exerguelaw08_CrcSums_ok {x0 : List Int} {x1 : List Int} {r : Bool} (h : exerguelaw08_CrcSums x0 x1 = some r) : SC Try.prog 6 [lsv (encI .u8) 1 x0, lsv (encI .u8) 1 x1] [] (.bool r) [] := by
  refine K.fn (fn := Try.f6) (by kernel_rfl) (by kernel_rfl) (by kernel_rfl) (by kernel_rfl) (by kernel_rfl) (fun F hFn hFH hFD => ?_)
  unfold exerguelaw08_CrcSums at h
  refine K.seq (by kernel_rfl) ?_
  refine K.region (by kernel_rfl) ?_
  refine RJ.seg 1 [0, 1, 4] (L2 := [(0, lsv (encI .u8) 1 x0), (1, lsv (encI .u8) 1 x1), (4, .bool false)]) (H2 := []) (by kernel_rfl) ?_
  refine RJ.end (by kernel_rfl) ?_
  refine PJ.next ?_
  refine K.seq (by kernel_rfl) ?_
  refine K.region (by kernel_rfl) ?_
  obtain ⟨y1, hy2, h3⟩ := bindS h
  refine RJ.call0 (d := (some 8)) (f := 10) (args := []) (v := .bool y1) (tr2 := []) (by kernel_rfl) (by kernel_rfl) .nil (exerguelaw08_shown_ok hy2) (by kernel_rfl) ?_
  refine RJ.seg 1 [0, 1, 4, 5] (L2 := [(0, lsv (encI .u8) 1 x0), (1, lsv (encI .u8) 1 x1), (4, .bool false), (5, .bool y1)]) (H2 := []) (by kernel_rfl) ?_
  refine RJ.end (by kernel_rfl) ?_
  refine PJ.next ?_
  obtain ⟨y20, hy21, h22⟩ := bindS h3
  refine K.cutX (by kernel_rfl) (fun (s19 : Unit) => ([(0, lsv (encI .u8) 1 x0), (1, lsv (encI .u8) 1 x1), (4, .bool false), (5, .bool y1)], [])) y20 ?_ (fun s19 hs => ?_)
  · obtain ⟨s27, hy29, h31⟩ := bindS hy21
    refine K.cutN (by kernel_rfl) (fun (s27 : Bool) => ([(0, lsv (encI .u8) 1 x0), (1, lsv (encI .u8) 1 x1), (4, .bool false), (5, .bool y1), (18, .bool s27)], [])) s27 ?_ ?_
    · refine K.region (by kernel_rfl) ?_
      refine RJ.seg 4 [0, 1, 4, 5, 12] (L2 := [(0, lsv (encI .u8) 1 x0), (1, lsv (encI .u8) 1 x1), (4, .bool false), (5, .bool y1), (12, .bool ((decide ((x0.length : Int) > 2000))))]) (H2 := []) (by kernel_rfl) ?_
      refine RJ.caseB 12 (b := (decide ((x0.length : Int) > 2000))) (by kernel_rfl) (fun hb32 => ?_) (fun hb32 => ?_)
      · have h33 := condT hb32 hy29
        refine RJ.seg 6 [0, 1, 4, 5, 18] (L2 := [(0, lsv (encI .u8) 1 x0), (1, lsv (encI .u8) 1 x1), (4, .bool false), (5, .bool y1), (18, .bool true)]) (H2 := []) (by kernel_rfl) ?_
        refine RJ.end (by kernel_rfl) ?_
        obtain rfl := Option.some.inj h33
        exact PJ.cutN [0, 1, 4, 5, 18] (by kernel_rfl) (by kernel_rfl)
      · have h34 := condF hb32 hy29
        refine RJ.seg 6 [0, 1, 4, 5, 18] (L2 := [(0, lsv (encI .u8) 1 x0), (1, lsv (encI .u8) 1 x1), (4, .bool false), (5, .bool y1), (18, .bool ((decide (¬ (x0.length : Int) = (x1.length : Int)))))]) (H2 := []) (by kernel_rfl) ?_
        refine RJ.end (by kernel_rfl) ?_
        obtain rfl := Option.some.inj h34
        exact PJ.cutN [0, 1, 4, 5, 18] (by kernel_rfl) (by kernel_rfl)
    · refine J.caseB 18 (b := s27) (by kernel_rfl) (fun hb35 => ?_) (fun hb35 => ?_)
      · have h36 := condT hb35 h31
        refine K.condT (by kernel_rfl) ?_
        refine K.seq (by kernel_rfl) ?_
        refine K.region (by kernel_rfl) ?_
        refine RJ.seg 2 [0, 1, 4, 5] (L2 := [(0, lsv (encI .u8) 1 x0), (1, lsv (encI .u8) 1 x1), (4, .bool y1), (5, .bool y1)]) (H2 := []) (by kernel_rfl) ?_
        refine RJ.end (by kernel_rfl) ?_
        refine PJ.next ?_
        refine K.ret (by kernel_rfl) ?_
        obtain rfl := Option.some.inj h36
        have h38 := joinX_inr h22
        refine PJ.cutXr (fun e => nomatch e) ?_
        obtain rfl := Option.some.inj h38
        exact K.ret0 (.inr rfl) hFn hFH hFD (by kernel_rfl) (by kernel_rfl) (by kernel_rfl)
      · have h37 := condF hb35 h31
        refine K.condF (by kernel_rfl) ?_
        refine K.skip (by kernel_rfl) ?_
        obtain rfl := Option.some.inj h37
        exact PJ.cutXl [0, 1, 4, 5] (by kernel_rfl) (by kernel_rfl)
  · subst hs
    have h23 := joinX_inl h22
    refine K.seq (by kernel_rfl) ?_
    refine K.region (by kernel_rfl) ?_
    refine RJ.seg 2 [0, 1, 4, 5, 21] (L2 := [(0, lsv (encI .u8) 1 x0), (1, lsv (encI .u8) 1 x1), (4, .bool false), (5, .bool y1), (21, .int .i64 (x0.length : Int))]) (H2 := []) (by kernel_rfl) ?_
    obtain ⟨hm, h39⟩ := asrt h23
    refine RJ.rel (d := (some 22)) (ef := ⟨.vc 0, [], [(0, .vec ((x0.length : Int) : Int).toNat 1 5 (List.replicate ((x0.length : Int) : Int).toNat ((encI .u8) (0 : Int))).flatten)]⟩) (ef' := ⟨.vc 0, [], [(0, vecL (encI .u8) 1 5 (rep (x0.length : Int) (0 : Int)))]⟩) (c := mk (x0.length : Int) (x0.length : Int)) (tr2 := []) (H2 := [vecL (encI .u8) 1 5 (rep (x0.length : Int) (0 : Int))]) (by kernel_rfl) hm (fun hc => N.make) (by kernel_rfl) ?_
    refine RJ.seg 1 [0, 1, 4, 5, 6] (L2 := [(0, lsv (encI .u8) 1 x0), (1, lsv (encI .u8) 1 x1), (4, .bool false), (5, .bool y1), (6, .vc 0)]) (H2 := [vecL (encI .u8) 1 5 (rep (x0.length : Int) (0 : Int))]) (by kernel_rfl) ?_
    refine RJ.end (by kernel_rfl) ?_
    refine PJ.next ?_
    obtain ⟨s70, hy72, h74⟩ := bindS h39
    refine K.cutN (by kernel_rfl) (fun (s70 : (List Int)) => ([(0, lsv (encI .u8) 1 x0), (1, lsv (encI .u8) 1 x1), (4, .bool false), (5, .bool y1), (6, .vc 0)], [vecL (encI .u8) 1 5 s70])) s70 ?_ ?_
    · refine K.seq (by kernel_rfl) ?_
      refine K.region (by kernel_rfl) ?_
      refine RJ.seg 1 [0, 1, 4, 5, 6, 7] (L2 := [(0, lsv (encI .u8) 1 x0), (1, lsv (encI .u8) 1 x1), (4, .bool false), (5, .bool y1), (6, .vc 0), (7, .int .i64 0)]) (H2 := [vecL (encI .u8) 1 5 (rep (x0.length : Int) (0 : Int))]) (by kernel_rfl) ?_
      refine RJ.end (by kernel_rfl) ?_
      refine PJ.next ?_
      refine K.block 0 (by kernel_rfl) ?_
      refine K.loop (by kernel_rfl) (fun (s75 : Int × (List Int)) => ([(0, lsv (encI .u8) 1 x0), (1, lsv (encI .u8) 1 x1), (4, .bool false), (5, .bool y1), (6, .vc 0), (7, .int .i64 s75.1)], [vecL (encI .u8) 1 5 s75.2])) hy72 [0, 1, 4, 5, 6, 7] (by kernel_rfl) (by kernel_rfl) (fun s75 x95 hs94 => ?_)
      refine K.seq (by kernel_rfl) ?_
      refine K.seq (by kernel_rfl) ?_
      refine K.region (by kernel_rfl) ?_
      refine RJ.seg 4 [0, 1, 4, 5, 6, 7, 26] (L2 := [(0, lsv (encI .u8) 1 x0), (1, lsv (encI .u8) 1 x1), (4, .bool false), (5, .bool y1), (6, .vc 0), (7, .int .i64 s75.1), (26, .bool ((decide (s75.1 < (x0.length : Int)))))]) (H2 := [vecL (encI .u8) 1 5 s75.2]) (by kernel_rfl) ?_
      refine RJ.end (by kernel_rfl) ?_
      refine PJ.next ?_
      refine J.caseB 26 (b := (decide (s75.1 < (x0.length : Int)))) (by kernel_rfl) (fun hb96 => ?_) (fun hb96 => ?_)
      · have h97 := condT hb96 hs94
        refine K.condT (by kernel_rfl) ?_
        refine K.skip (by kernel_rfl) ?_
        refine PJ.next ?_
        refine K.seq (by kernel_rfl) ?_
        refine K.block 1 (by kernel_rfl) ?_
        refine J.keep [0, 1, 4, 5, 6, 7] (L2 := [(0, lsv (encI .u8) 1 x0), (1, lsv (encI .u8) 1 x1), (4, .bool false), (5, .bool y1), (6, .vc 0), (7, .int .i64 s75.1)]) (by kernel_rfl) ?_
        refine K.draw (by kernel_rfl) (by kernel_rfl) (by kernel_rfl) (H2 := [vecL (encI .u8) 1 5 s75.2]) (by kernel_rfl) (n := 1) (by kernel_rfl) ?_
        refine RJ.segD 4 (tr2 := [([], []), ([], []), ([], []), ([], [])]) (L2 := [(32, .int .i64 s75.1), (31, lsv (encI .u8) 1 x0), (30, .int .i64 s75.1), (29, .vc 0), (0, lsv (encI .u8) 1 x0), (1, lsv (encI .u8) 1 x1), (4, .bool false), (5, .bool y1), (6, .vc 0), (7, .int .i64 s75.1)]) (H2 := [vecL (encI .u8) 1 5 s75.2]) (by kernel_rfl) ?_
        obtain ⟨hm, h99⟩ := asrt h97
        refine RJ.rel (d := (some 33)) (ef := ⟨.ep (((x0.flatMap (encI .u8)).drop ((s75.1 : Int).toNat * 1)).take 1), [], []⟩) (ef' := ⟨.ep ((encI .u8) (nth x0 s75.1)), [], []⟩) (c := inR s75.1 x0.length) (tr2 := [([], []), ([], []), ([], []), ([], []), ([], [])]) (H2 := [vecL (encI .u8) 1 5 s75.2]) (by kernel_rfl) hm (fun hc => N.idx (encI_len .u8) hc) (by kernel_rfl) ?_
        refine RJ.segD 3 (tr2 := [([], []), ([], []), ([], []), ([], []), ([], []), ([], []), ([], []), ([], [])]) (L2 := [(36, .int .i64 s75.1), (35, lsv (encI .u8) 1 x1), (34, .int .u8 (nth x0 s75.1)), (33, .ep [.int .u8 (nth x0 s75.1)]), (32, .int .i64 s75.1), (31, lsv (encI .u8) 1 x0), (30, .int .i64 s75.1), (29, .vc 0), (0, lsv (encI .u8) 1 x0), (1, lsv (encI .u8) 1 x1), (4, .bool false), (5, .bool y1), (6, .vc 0), (7, .int .i64 s75.1)]) (H2 := [vecL (encI .u8) 1 5 s75.2]) (by kernel_rfl) ?_
        obtain ⟨hm, h100⟩ := asrt h99
        refine RJ.rel (d := (some 37)) (ef := ⟨.ep (((x1.flatMap (encI .u8)).drop ((s75.1 : Int).toNat * 1)).take 1), [], []⟩) (ef' := ⟨.ep ((encI .u8) (nth x1 s75.1)), [], []⟩) (c := inR s75.1 x1.length) (tr2 := [([], []), ([], []), ([], []), ([], []), ([], []), ([], []), ([], []), ([], []), ([], [])]) (H2 := [vecL (encI .u8) 1 5 s75.2]) (by kernel_rfl) hm (fun hc => N.idx (encI_len .u8) hc) (by kernel_rfl) ?_
        refine RJ.segD 2 (tr2 := [([], []), ([], []), ([], []), ([], []), ([], []), ([], []), ([], []), ([], []), ([], []), ([], []), ([], [])]) (L2 := [(39, .int .u8 (bits .xor .u8 (nth x0 s75.1) (nth x1 s75.1))), (38, .int .u8 (nth x1 s75.1)), (37, .ep [.int .u8 (nth x1 s75.1)]), (36, .int .i64 s75.1), (35, lsv (encI .u8) 1 x1), (34, .int .u8 (nth x0 s75.1)), (33, .ep [.int .u8 (nth x0 s75.1)]), (32, .int .i64 s75.1), (31, lsv (encI .u8) 1 x0), (30, .int .i64 s75.1), (29, .vc 0), (0, lsv (encI .u8) 1 x0), (1, lsv (encI .u8) 1 x1), (4, .bool false), (5, .bool y1), (6, .vc 0), (7, .int .i64 s75.1)]) (H2 := [vecL (encI .u8) 1 5 s75.2]) (by kernel_rfl) ?_
        obtain ⟨hm, h101⟩ := asrt h100
        refine RJ.rel (d := (some 40)) (ef := ⟨.ptr 0 ((s75.1 : Int).toNat * 1), [0], []⟩) (ef' := ⟨.ptr 0 ((s75.1 : Int).toNat * 1), [0], []⟩) (c := inR s75.1 s75.2.length) (tr2 := [([], []), ([], []), ([], []), ([], []), ([], []), ([], []), ([], []), ([], []), ([], []), ([], []), ([], []), ([1], [])]) (H2 := [vecL (encI .u8) 1 5 s75.2]) (by kernel_rfl) hm (fun hc => rfl) (by kernel_rfl) ?_
        obtain ⟨hm, h102⟩ := asrt h101
        refine RJ.rel (d := none) (ef := ⟨.undef, [0], [(0, .vec (s75.2).length 1 5 (splice ((s75.2).flatMap (encI .u8)) ((s75.1 : Int).toNat * 1) ((encI .u8) (bits .xor .u8 (nth x0 s75.1) (nth x1 s75.1)))))]⟩) (ef' := ⟨.undef, [0], [(0, vecL (encI .u8) 1 5 (setAt s75.2 s75.1 (bits .xor .u8 (nth x0 s75.1) (nth x1 s75.1))))]⟩) (c := Nat.ble (((s75.1 : Int).toNat * 1) + ((encI .u8) (bits .xor .u8 (nth x0 s75.1) (nth x1 s75.1))).length) (s75.2.flatMap (encI .u8)).length) (tr2 := [([], []), ([], []), ([], []), ([], []), ([], []), ([], []), ([], []), ([], []), ([], []), ([], []), ([], []), ([1], []), ([0, 1], [0])]) (H2 := [vecL (encI .u8) 1 5 ((setAt s75.2 s75.1 (bits .xor .u8 (nth x0 s75.1) (nth x1 s75.1))))]) (by kernel_rfl) (storev_ok (encI_len .u8) hm) (fun hc => N.store (encI_len .u8) hm) (by kernel_rfl) ?_
        refine RJ.end (by kernel_rfl) ?_
        refine PJ.blockNormal ?_
        refine PJ.next ?_
        refine K.region (by kernel_rfl) ?_
        refine RJ.seg 3 [0, 1, 4, 5, 6, 7] (L2 := [(0, lsv (encI .u8) 1 x0), (1, lsv (encI .u8) 1 x1), (4, .bool false), (5, .bool y1), (6, .vc 0), (7, .int .i64 (IntKind.wrap .i64 (s75.1 + 1)))]) (H2 := [vecL (encI .u8) 1 5 ((setAt s75.2 s75.1 (bits .xor .u8 (nth x0 s75.1) (nth x1 s75.1))))]) (by kernel_rfl) ?_
        refine RJ.end (by kernel_rfl) ?_
        obtain rfl := Option.some.inj h102
        exact PJ.loopNext [0, 1, 4, 5, 6, 7] (by kernel_rfl) (by kernel_rfl)
      · have h98 := condF hb96 hs94
        refine K.condF (by kernel_rfl) ?_
        refine K.exit 0 (by kernel_rfl) ?_
        refine PJ.passExit ?_
        obtain rfl := Option.some.inj h98
        refine PJ.loopOut (fun e => nomatch e) (fun he104 => ?_)
        have h103 := congrArg some he104
        refine PJ.blockOut ?_
        obtain rfl := Option.some.inj h103
        exact PJ.cutN [0, 1, 4, 5, 6] (by kernel_rfl) (by kernel_rfl)
    · obtain ⟨s121, hy123, h125⟩ := bindS h74
      refine K.cutN (by kernel_rfl) (fun (s121 : Bool) => ([(4, .bool s121)], [])) s121 ?_ ?_
      · refine J.keep [0, 1, 4, 5, 6] (L2 := [(0, lsv (encI .u8) 1 x0), (1, lsv (encI .u8) 1 x1), (4, .bool false), (5, .bool y1), (6, .vc 0)]) (by kernel_rfl) ?_
        refine K.draw (by kernel_rfl) (by kernel_rfl) (by kernel_rfl) (H2 := [vecL (encI .u8) 1 5 s70, .res, .res, .res, .res, .res]) (by kernel_rfl) (n := 1) (by kernel_rfl) ?_
        refine RJ.segD 2 (tr2 := [([], []), ([], [])]) (L2 := [(42, .bool y1), (41, .bool y1), (0, lsv (encI .u8) 1 x0), (1, lsv (encI .u8) 1 x1), (4, .bool false), (5, .bool y1), (6, .vc 0)]) (H2 := [vecL (encI .u8) 1 5 s70, .res, .res, .res, .res, .res]) (by kernel_rfl) ?_
        refine RJ.caseB 42 (b := y1) (by kernel_rfl) (fun hb126 => ?_) (fun hb126 => ?_)
        · have h127 := condT hb126 hy123
          refine RJ.segD 1 (tr2 := [([], []), ([], []), ([], [])]) (L2 := [(43, .vc 0), (42, .bool true), (42, .bool y1), (41, .bool y1), (0, lsv (encI .u8) 1 x0), (1, lsv (encI .u8) 1 x1), (4, .bool false), (5, .bool y1), (6, .vc 0)]) (H2 := [vecL (encI .u8) 1 5 s70, .res, .res, .res, .res, .res]) (by kernel_rfl) ?_
          obtain ⟨y129, hy130, h131⟩ := bindS h127
          refine RJ.callL (d := (some 44)) (f := 17) (args := [.vc 0]) (args0 := [.vc 0]) (args1 := [lsv (encI .u8) 1 s70]) (H0 := [vecL (encI .u8) 1 5 s70]) (v := .int .u32 y129) (tr2 := [([], []), ([], []), ([], []), ([0, 1], [2, 3])]) [0] (by kernel_rfl) (by kernel_rfl) (by kernel_rfl) (by kernel_rfl) (by decide) (by kernel_rfl) (by kernel_rfl) (by kernel_rfl) (by kernel_rfl) (.cons (Le.refl _) .nil) (crc_Of_ok hy130) (by kernel_rfl) (by kernel_rfl) ?_
          refine RJ.segD 1 (tr2 := [([], []), ([], []), ([], []), ([0, 1], [2, 3]), ([], [])]) (L2 := [(45, lsv (encI .u8) 1 x0), (44, .int .u32 y129), (43, .vc 0), (42, .bool true), (42, .bool y1), (41, .bool y1), (0, lsv (encI .u8) 1 x0), (1, lsv (encI .u8) 1 x1), (4, .bool false), (5, .bool y1), (6, .vc 0)]) (H2 := [vecL (encI .u8) 1 5 s70, .res, .res, .res, .res, .res]) (by kernel_rfl) ?_
          obtain ⟨y132, hy133, h134⟩ := bindS h131
          refine RJ.call0 (d := (some 46)) (f := 17) (args := [lsv (encI .u8) 1 x0]) (v := .int .u32 y132) (tr2 := [([], []), ([], []), ([], []), ([0, 1], [2, 3]), ([], []), ([], [4, 5])]) (by kernel_rfl) (by kernel_rfl) (.cons (Le.refl _) .nil) (crc_Of_ok hy133) (by kernel_rfl) ?_
          refine RJ.segD 2 (tr2 := [([], []), ([], []), ([], []), ([0, 1], [2, 3]), ([], []), ([], [4, 5]), ([], []), ([], [])]) (L2 := [(48, lsv (encI .u8) 1 x1), (47, .int .u32 (bits .xor .u32 y129 y132)), (46, .int .u32 y132), (45, lsv (encI .u8) 1 x0), (44, .int .u32 y129), (43, .vc 0), (42, .bool true), (42, .bool y1), (41, .bool y1), (0, lsv (encI .u8) 1 x0), (1, lsv (encI .u8) 1 x1), (4, .bool false), (5, .bool y1), (6, .vc 0)]) (H2 := [vecL (encI .u8) 1 5 s70, .res, .res, .res, .res, .res]) (by kernel_rfl) ?_
          obtain ⟨y135, hy136, h137⟩ := bindS h134
          refine RJ.call0 (d := (some 49)) (f := 17) (args := [lsv (encI .u8) 1 x1]) (v := .int .u32 y135) (tr2 := [([], []), ([], []), ([], []), ([0, 1], [2, 3]), ([], []), ([], [4, 5]), ([], []), ([], []), ([], [6, 7])]) (by kernel_rfl) (by kernel_rfl) (.cons (Le.refl _) .nil) (crc_Of_ok hy136) (by kernel_rfl) ?_
          refine RJ.segD 3 (tr2 := [([], []), ([], []), ([], []), ([0, 1], [2, 3]), ([], []), ([], [4, 5]), ([], []), ([], []), ([], [6, 7]), ([], []), ([], []), ([], [])]) (L2 := [(52, .int .i64 (x0.length : Int)), (51, lsv (encI .u8) 1 x0), (50, .int .u32 (bits .xor .u32 (bits .xor .u32 y129 y132) y135)), (49, .int .u32 y135), (48, lsv (encI .u8) 1 x1), (47, .int .u32 (bits .xor .u32 y129 y132)), (46, .int .u32 y132), (45, lsv (encI .u8) 1 x0), (44, .int .u32 y129), (43, .vc 0), (42, .bool true), (42, .bool y1), (41, .bool y1), (0, lsv (encI .u8) 1 x0), (1, lsv (encI .u8) 1 x1), (4, .bool false), (5, .bool y1), (6, .vc 0)]) (H2 := [vecL (encI .u8) 1 5 s70, .res, .res, .res, .res, .res]) (by kernel_rfl) ?_
          obtain ⟨hm, h138⟩ := asrt h137
          refine RJ.rel (d := (some 53)) (ef := ⟨.vc 4, [], [(4, .vec ((x0.length : Int) : Int).toNat 1 5 (List.replicate ((x0.length : Int) : Int).toNat ((encI .u8) (0 : Int))).flatten)]⟩) (ef' := ⟨.vc 4, [], [(4, vecL (encI .u8) 1 5 (rep (x0.length : Int) (0 : Int)))]⟩) (c := mk (x0.length : Int) (x0.length : Int)) (tr2 := [([], []), ([], []), ([], []), ([0, 1], [2, 3]), ([], []), ([], [4, 5]), ([], []), ([], []), ([], [6, 7]), ([], []), ([], []), ([], []), ([], [8, 9, 8, 9])]) (H2 := [vecL (encI .u8) 1 5 s70, .res, .res, .res, vecL (encI .u8) 1 5 (rep (x0.length : Int) (0 : Int)), .res]) (by kernel_rfl) hm (fun hc => N.make) (by kernel_rfl) ?_
          obtain ⟨y139, hy140, h141⟩ := bindS h138
          refine RJ.callL (d := (some 54)) (f := 17) (args := [.vc 4]) (args0 := [.vc 0]) (args1 := [lsv (encI .u8) 1 (rep (x0.length : Int) (0 : Int))]) (H0 := [vecL (encI .u8) 1 5 (rep (x0.length : Int) (0 : Int))]) (v := .int .u32 y139) (tr2 := [([], []), ([], []), ([], []), ([0, 1], [2, 3]), ([], []), ([], [4, 5]), ([], []), ([], []), ([], [6, 7]), ([], []), ([], []), ([], []), ([], [8, 9, 8, 9]), ([8, 9], [10, 11])]) [4] (by kernel_rfl) (by kernel_rfl) (by kernel_rfl) (by kernel_rfl) (by decide) (by kernel_rfl) (by kernel_rfl) (by kernel_rfl) (by kernel_rfl) (.cons (Le.refl _) .nil) (crc_Of_ok hy140) (by kernel_rfl) (by kernel_rfl) ?_
          refine RJ.segD 3 (tr2 := [([], []), ([], []), ([], []), ([0, 1], [2, 3]), ([], []), ([], [4, 5]), ([], []), ([], []), ([], [6, 7]), ([], []), ([], []), ([], []), ([], [8, 9, 8, 9]), ([8, 9], [10, 11]), ([], []), ([], []), ([], [])]) (L2 := [(4, .bool ((decide ((bits .xor .u32 (bits .xor .u32 y129 y132) y135) = y139)))), (56, .bool ((decide ((bits .xor .u32 (bits .xor .u32 y129 y132) y135) = y139)))), (55, .bool ((decide ((bits .xor .u32 (bits .xor .u32 y129 y132) y135) = y139)))), (54, .int .u32 y139), (53, .vc 4), (52, .int .i64 (x0.length : Int)), (51, lsv (encI .u8) 1 x0), (50, .int .u32 (bits .xor .u32 (bits .xor .u32 y129 y132) y135)), (49, .int .u32 y135), (48, lsv (encI .u8) 1 x1), (47, .int .u32 (bits .xor .u32 y129 y132)), (46, .int .u32 y132), (45, lsv (encI .u8) 1 x0), (44, .int .u32 y129), (43, .vc 0), (42, .bool true), (42, .bool y1), (41, .bool y1), (0, lsv (encI .u8) 1 x0), (1, lsv (encI .u8) 1 x1), (4, .bool false), (5, .bool y1), (6, .vc 0)]) (H2 := [vecL (encI .u8) 1 5 s70, .res, .res, .res, vecL (encI .u8) 1 5 (rep (x0.length : Int) (0 : Int)), .res]) (by kernel_rfl) ?_
          refine RJ.end (by kernel_rfl) ?_
          obtain rfl := Option.some.inj h141
          refine PJ.wk (Wk.sel (L2 := [(4, .bool ((decide ((bits .xor .u32 (bits .xor .u32 y129 y132) y135) = y139))))]) (H2 := []) 0 (by rw [hFH]; rfl) hFD [] (by kernel_rfl) (by kernel_rfl) (by decide) (by kernel_rfl) (by kernel_rfl) (by kernel_rfl) (by kernel_rfl)) ?_
          exact PJ.cutN [4] (by kernel_rfl) (by kernel_rfl)
        · have h128 := condF hb126 hy123
          refine RJ.segD 15 (tr2 := [([], []), ([], []), ([], []), ([], [2, 3]), ([], []), ([], [4, 5]), ([], []), ([], []), ([], [6, 7]), ([], []), ([], []), ([], []), ([], [8, 9]), ([], [10, 11]), ([], []), ([], []), ([], [])]) (L2 := [(4, .bool false), (56, .bool false), (55, .tup []), (54, .tup []), (53, .tup []), (52, .tup []), (51, .tup []), (50, .tup []), (49, .tup []), (48, .tup []), (47, .tup []), (46, .tup []), (45, .tup []), (44, .tup []), (43, .tup []), (42, .bool false), (42, .bool y1), (41, .bool y1), (0, lsv (encI .u8) 1 x0), (1, lsv (encI .u8) 1 x1), (4, .bool false), (5, .bool y1), (6, .vc 0)]) (H2 := [vecL (encI .u8) 1 5 s70, .res, .res, .res, .res, .res]) (by kernel_rfl) ?_
          refine RJ.end (by kernel_rfl) ?_
          obtain rfl := Option.some.inj h128
          refine PJ.wk (Wk.sel (L2 := [(4, .bool false)]) (H2 := []) 0 (by rw [hFH]; rfl) hFD [] (by kernel_rfl) (by kernel_rfl) (by decide) (by kernel_rfl) (by kernel_rfl) (by kernel_rfl) (by kernel_rfl)) ?_
          exact PJ.cutN [4] (by kernel_rfl) (by kernel_rfl)
      · refine K.ret (by kernel_rfl) ?_
        obtain rfl := Option.some.inj h125
        exact K.ret0 (.inr rfl) hFn hFH hFD (by kernel_rfl) (by kernel_rfl) (by kernel_rfl)

def exerguelaw08_CrcSteps (x0 : List Int) : Option (Bool) :=
  (Option.bind exerguelaw08_shown fun y1 => (bif (decide ((x0.length : Int) > 2000)) then (some y1) else (Option.bind (loopN (fun (s42 : Int × Int) => (bif (decide (s42.2 < (x0.length : Int))) then (bif inR s42.2 x0.length then (Option.bind (crc_Step s42.1 (nth x0 s42.2)) fun y67 => (some (.inl (y67, (IntKind.wrap .i64 (s42.2 + 1)))))) else none) else (some (.inr s42.1)))) big (4294967295, 0)) fun (s37 : Int) => (Option.bind (bif y1 then (Option.bind (crc_Of x0) fun y98 => (bif (decide (y98 = (IntKind.wrap .u32 (4294967295 - s37)))) then (Option.bind (crc_Of x0) fun y104 => (Option.bind (crc_On y104 ([] : List Int)) fun y107 => (Option.bind (crc_Of x0) fun y110 => (some (decide (y107 = y110)))))) else (some false))) else (some false)) fun (s90 : Bool) => (some s90)))))
theorem exerguelaw08_CrcSteps_ok {x0 : List Int} {r : Bool} (h : exerguelaw08_CrcSteps x0 = some r) : SC Try.prog 7 [lsv (encI .u8) 1 x0] [] (.bool r) [] := by
  refine K.fn (fn := Try.f7) (by kernel_rfl) (by kernel_rfl) (by kernel_rfl) (by kernel_rfl) (by kernel_rfl) (fun F hFn hFH hFD => ?_)
  unfold exerguelaw08_CrcSteps at h
  refine K.seq (by kernel_rfl) ?_
  refine K.region (by kernel_rfl) ?_
  refine RJ.seg 1 [0, 2] (L2 := [(0, lsv (encI .u8) 1 x0), (2, .bool false)]) (H2 := []) (by kernel_rfl) ?_
  refine RJ.end (by kernel_rfl) ?_
  refine PJ.next ?_
  refine K.seq (by kernel_rfl) ?_
  refine K.region (by kernel_rfl) ?_
  obtain ⟨y1, hy2, h3⟩ := bindS h
  refine RJ.call0 (d := (some 6)) (f := 10) (args := []) (v := .bool y1) (tr2 := []) (by kernel_rfl) (by kernel_rfl) .nil (exerguelaw08_shown_ok hy2) (by kernel_rfl) ?_
  refine RJ.seg 1 [0, 2, 3] (L2 := [(0, lsv (encI .u8) 1 x0), (2, .bool false), (3, .bool y1)]) (H2 := []) (by kernel_rfl) ?_
  refine RJ.end (by kernel_rfl) ?_
  refine PJ.next ?_
  refine K.seq (by kernel_rfl) ?_
  refine K.seq (by kernel_rfl) ?_
  refine K.region (by kernel_rfl) ?_
  refine RJ.seg 3 [0, 2, 3, 9] (L2 := [(0, lsv (encI .u8) 1 x0), (2, .bool false), (3, .bool y1), (9, .bool ((decide ((x0.length : Int) > 2000))))]) (H2 := []) (by kernel_rfl) ?_
  refine RJ.end (by kernel_rfl) ?_
  refine PJ.next ?_
  refine J.caseB 9 (b := (decide ((x0.length : Int) > 2000))) (by kernel_rfl) (fun hb4 => ?_) (fun hb4 => ?_)
  · have h5 := condT hb4 h3
    refine K.condT (by kernel_rfl) ?_
    refine K.seq (by kernel_rfl) ?_
    refine K.region (by kernel_rfl) ?_
    refine RJ.seg 2 [0, 2, 3] (L2 := [(0, lsv (encI .u8) 1 x0), (2, .bool y1), (3, .bool y1)]) (H2 := []) (by kernel_rfl) ?_
    refine RJ.end (by kernel_rfl) ?_
    refine PJ.next ?_
    refine K.ret (by kernel_rfl) ?_
    refine PJ.passRet ?_
    obtain rfl := Option.some.inj h5
    exact K.ret0 (.inr rfl) hFn hFH hFD (by kernel_rfl) (by kernel_rfl) (by kernel_rfl)
  · have h6 := condF hb4 h3
    refine K.condF (by kernel_rfl) ?_
    refine K.skip (by kernel_rfl) ?_
    refine PJ.next ?_
    refine K.seq (by kernel_rfl) ?_
    refine K.region (by kernel_rfl) ?_
    refine RJ.seg 1 [0, 2, 3, 4] (L2 := [(0, lsv (encI .u8) 1 x0), (2, .bool false), (3, .bool y1), (4, .int .u32 4294967295)]) (H2 := []) (by kernel_rfl) ?_
    refine RJ.end (by kernel_rfl) ?_
    refine PJ.next ?_
    obtain ⟨s37, hy39, h41⟩ := bindS h6
    refine K.cutN (by kernel_rfl) (fun (s37 : Int) => ([(0, lsv (encI .u8) 1 x0), (2, .bool false), (3, .bool y1), (4, .int .u32 s37)], [])) s37 ?_ ?_
    · refine K.seq (by kernel_rfl) ?_
      refine K.region (by kernel_rfl) ?_
      refine RJ.seg 1 [0, 2, 3, 4, 5] (L2 := [(0, lsv (encI .u8) 1 x0), (2, .bool false), (3, .bool y1), (4, .int .u32 4294967295), (5, .int .i64 0)]) (H2 := []) (by kernel_rfl) ?_
      refine RJ.end (by kernel_rfl) ?_
      refine PJ.next ?_
      refine K.block 0 (by kernel_rfl) ?_
      refine K.loop (by kernel_rfl) (fun (s42 : Int × Int) => ([(0, lsv (encI .u8) 1 x0), (2, .bool false), (3, .bool y1), (4, .int .u32 s42.1), (5, .int .i64 s42.2)], [])) hy39 [0, 2, 3, 4, 5] (by kernel_rfl) (by kernel_rfl) (fun s42 x62 hs61 => ?_)
      refine K.seq (by kernel_rfl) ?_
      refine K.seq (by kernel_rfl) ?_
      refine K.region (by kernel_rfl) ?_
      refine RJ.seg 4 [0, 2, 3, 4, 5, 14] (L2 := [(0, lsv (encI .u8) 1 x0), (2, .bool false), (3, .bool y1), (4, .int .u32 s42.1), (5, .int .i64 s42.2), (14, .bool ((decide (s42.2 < (x0.length : Int)))))]) (H2 := []) (by kernel_rfl) ?_
      refine RJ.end (by kernel_rfl) ?_
      refine PJ.next ?_
      refine J.caseB 14 (b := (decide (s42.2 < (x0.length : Int)))) (by kernel_rfl) (fun hb63 => ?_) (fun hb63 => ?_)
      · have h64 := condT hb63 hs61
        refine K.condT (by kernel_rfl) ?_
        refine K.skip (by kernel_rfl) ?_
        refine PJ.next ?_
        refine K.seq (by kernel_rfl) ?_
        refine K.block 1 (by kernel_rfl) ?_
        refine K.region (by kernel_rfl) ?_
        refine RJ.seg 3 [0, 2, 3, 4, 5, 17, 18, 19] (L2 := [(0, lsv (encI .u8) 1 x0), (2, .bool false), (3, .bool y1), (4, .int .u32 s42.1), (5, .int .i64 s42.2), (17, .int .u32 s42.1), (18, lsv (encI .u8) 1 x0), (19, .int .i64 s42.2)]) (H2 := []) (by kernel_rfl) ?_
        obtain ⟨hm, h66⟩ := asrt h64
        refine RJ.rel (d := (some 20)) (ef := ⟨.ep (((x0.flatMap (encI .u8)).drop ((s42.2 : Int).toNat * 1)).take 1), [], []⟩) (ef' := ⟨.ep ((encI .u8) (nth x0 s42.2)), [], []⟩) (c := inR s42.2 x0.length) (tr2 := []) (H2 := []) (by kernel_rfl) hm (fun hc => N.idx (encI_len .u8) hc) (by kernel_rfl) ?_
        refine RJ.seg 1 [0, 2, 3, 4, 5, 17, 21] (L2 := [(0, lsv (encI .u8) 1 x0), (2, .bool false), (3, .bool y1), (4, .int .u32 s42.1), (5, .int .i64 s42.2), (17, .int .u32 s42.1), (21, .int .u8 (nth x0 s42.2))]) (H2 := []) (by kernel_rfl) ?_
        obtain ⟨y67, hy68, h69⟩ := bindS h66
        refine RJ.call0 (d := (some 22)) (f := 13) (args := [.int .u32 s42.1, .int .u8 (nth x0 s42.2)]) (v := .int .u32 y67) (tr2 := []) (by kernel_rfl) (by kernel_rfl) (.cons (Le.refl _) (.cons (Le.refl _) .nil)) (crc_Step_ok hy68) (by kernel_rfl) ?_
        refine RJ.seg 1 [0, 2, 3, 4, 5] (L2 := [(0, lsv (encI .u8) 1 x0), (2, .bool false), (3, .bool y1), (4, .int .u32 y67), (5, .int .i64 s42.2)]) (H2 := []) (by kernel_rfl) ?_
        refine RJ.end (by kernel_rfl) ?_
        refine PJ.blockNormal ?_
        refine PJ.next ?_
        refine K.region (by kernel_rfl) ?_
        refine RJ.seg 3 [0, 2, 3, 4, 5] (L2 := [(0, lsv (encI .u8) 1 x0), (2, .bool false), (3, .bool y1), (4, .int .u32 y67), (5, .int .i64 (IntKind.wrap .i64 (s42.2 + 1)))]) (H2 := []) (by kernel_rfl) ?_
        refine RJ.end (by kernel_rfl) ?_
        obtain rfl := Option.some.inj h69
        exact PJ.loopNext [0, 2, 3, 4, 5] (by kernel_rfl) (by kernel_rfl)
      · have h65 := condF hb63 hs61
        refine K.condF (by kernel_rfl) ?_
        refine K.exit 0 (by kernel_rfl) ?_
        refine PJ.passExit ?_
        obtain rfl := Option.some.inj h65
        refine PJ.loopOut (fun e => nomatch e) (fun he71 => ?_)
        have h70 := congrArg some he71
        refine PJ.blockOut ?_
        obtain rfl := Option.some.inj h70
        exact PJ.cutN [0, 2, 3, 4] (by kernel_rfl) (by kernel_rfl)
    · obtain ⟨s90, hy92, h94⟩ := bindS h41
      refine K.cutN (by kernel_rfl) (fun (s90 : Bool) => ([(2, .bool s90)], [])) s90 ?_ ?_
      · refine K.region (by kernel_rfl) ?_
        refine RJ.seg 2 [0, 2, 4, 24] (L2 := [(0, lsv (encI .u8) 1 x0), (2, .bool false), (4, .int .u32 s37), (24, .bool y1)]) (H2 := []) (by kernel_rfl) ?_
        refine RJ.caseB 24 (b := y1) (by kernel_rfl) (fun hb95 => ?_) (fun hb95 => ?_)
        · have h96 := condT hb95 hy92
          refine RJ.seg 1 [0, 2, 4, 24, 25] (L2 := [(0, lsv (encI .u8) 1 x0), (2, .bool false), (4, .int .u32 s37), (24, .bool true), (25, lsv (encI .u8) 1 x0)]) (H2 := []) (by kernel_rfl) ?_
          obtain ⟨y98, hy99, h100⟩ := bindS h96
          refine RJ.call0 (d := (some 26)) (f := 17) (args := [lsv (encI .u8) 1 x0]) (v := .int .u32 y98) (tr2 := []) (by kernel_rfl) (by kernel_rfl) (.cons (Le.refl _) .nil) (crc_Of_ok hy99) (by kernel_rfl) ?_
          refine RJ.seg 5 [0, 2, 31] (L2 := [(0, lsv (encI .u8) 1 x0), (2, .bool false), (31, .bool ((decide (y98 = (IntKind.wrap .u32 (4294967295 - s37))))))]) (H2 := []) (by kernel_rfl) ?_
          refine RJ.caseB 31 (b := (decide (y98 = (IntKind.wrap .u32 (4294967295 - s37))))) (by kernel_rfl) (fun hb101 => ?_) (fun hb101 => ?_)
          · have h102 := condT hb101 h100
            refine RJ.seg 1 [0, 2, 31, 32] (L2 := [(0, lsv (encI .u8) 1 x0), (2, .bool false), (31, .bool true), (32, lsv (encI .u8) 1 x0)]) (H2 := []) (by kernel_rfl) ?_
            obtain ⟨y104, hy105, h106⟩ := bindS h102
            refine RJ.call0 (d := (some 33)) (f := 17) (args := [lsv (encI .u8) 1 x0]) (v := .int .u32 y104) (tr2 := []) (by kernel_rfl) (by kernel_rfl) (.cons (Le.refl _) .nil) (crc_Of_ok hy105) (by kernel_rfl) ?_
            obtain ⟨y107, hy108, h109⟩ := bindS h106
            refine RJ.call0 (d := (some 34)) (f := 15) (args := [.int .u32 y104, .nl]) (v := .int .u32 y107) (tr2 := []) (by kernel_rfl) (by kernel_rfl) (.cons (Le.refl _) (.cons (Le.nl _) .nil)) (crc_On_ok hy108) (by kernel_rfl) ?_
            refine RJ.seg 1 [2, 31, 34, 35] (L2 := [(2, .bool false), (31, .bool true), (34, .int .u32 y107), (35, lsv (encI .u8) 1 x0)]) (H2 := []) (by kernel_rfl) ?_
            obtain ⟨y110, hy111, h112⟩ := bindS h109
            refine RJ.call0 (d := (some 36)) (f := 17) (args := [lsv (encI .u8) 1 x0]) (v := .int .u32 y110) (tr2 := []) (by kernel_rfl) (by kernel_rfl) (.cons (Le.refl _) .nil) (crc_Of_ok hy111) (by kernel_rfl) ?_
            refine RJ.seg 3 [2] (L2 := [(2, .bool (decide (y107 = y110)))]) (H2 := []) (by kernel_rfl) ?_
            refine RJ.end (by kernel_rfl) ?_
            obtain rfl := Option.some.inj h112
            exact PJ.cutN [2] (by kernel_rfl) (by kernel_rfl)
          · have h103 := condF hb101 h100
            refine RJ.seg 8 [2] (L2 := [(2, .bool false)]) (H2 := []) (by kernel_rfl) ?_
            refine RJ.end (by kernel_rfl) ?_
            obtain rfl := Option.some.inj h103
            exact PJ.cutN [2] (by kernel_rfl) (by kernel_rfl)
        · have h97 := condF hb95 hy92
          refine RJ.seg 15 [2] (L2 := [(2, .bool false)]) (H2 := []) (by kernel_rfl) ?_
          refine RJ.end (by kernel_rfl) ?_
          obtain rfl := Option.some.inj h97
          exact PJ.cutN [2] (by kernel_rfl) (by kernel_rfl)
      · refine K.ret (by kernel_rfl) ?_
        obtain rfl := Option.some.inj h94
        exact K.ret0 (.inr rfl) hFn hFH hFD (by kernel_rfl) (by kernel_rfl) (by kernel_rfl)

def exerguelaw08_CrcCuts (x0 : List Int) (x1 : St36) : Option (Bool) :=
  (Option.bind exerguelaw08_shown fun y1 => (bif (decide ((x0.length : Int) > 2000)) then (some y1) else (bif room x0.length then (bif room (x0.length + ([x1.a0_, x1.a1_, x1.a2_, x1.a3_] : List Int).length) then (Option.bind (crc_Cut (x0 ++ ([x1.a0_, x1.a1_, x1.a2_, x1.a3_] : List Int))) fun y9 => (Option.bind (crc_Put x0) fun y12 => (Option.bind (exergueref01_Row (x0 ++ ([x1.a0_, x1.a1_, x1.a2_, x1.a3_] : List Int)) y12) fun y15 => (bif inS 0 (minI (x0.length : Int) 3) x0.length then (Option.bind (crc_Cut ((cut x0 0 (minI (x0.length : Int) 3)))) fun y19 => (Option.bind (bif y1 then (bif ((decide (y9.2 = 0)) == y15) then (bif (!y15) then (bif y15 then (bif (decide (y19.2 = 2)) then (some ((decide ((y19.1.length : Int) = 0)))) else (some false)) else (bif (decide (y9.2 = 6)) then (bif (decide ((y9.1.length : Int) = 0)) then (bif (decide (y19.2 = 2)) then (some ((decide ((y19.1.length : Int) = 0)))) else (some false)) else (some false)) else (some false))) else (Option.bind (exergueref01_Row y9.1 x0) fun y96 => (bif y96 then (bif y15 then (bif (decide (y19.2 = 2)) then (some ((decide ((y19.1.length : Int) = 0)))) else (some false)) else (bif (decide (y9.2 = 6)) then (bif (decide ((y9.1.length : Int) = 0)) then (bif (decide (y19.2 = 2)) then (some ((decide ((y19.1.length : Int) = 0)))) else (some false)) else (some false)) else (some false))) else (some false)))) else (some false)) else (some false)) fun (s67 : Bool) => (some s67))) else none)))) else none) else none)))
theorem exerguelaw08_CrcCuts_ok {x0 : List Int} {x1 : St36} {r : Bool} (h : exerguelaw08_CrcCuts x0 x1 = some r) : SC Try.prog 8 [lsv (encI .u8) 1 x0, .agg [.int .u8 x1.a0_, .int .u8 x1.a1_, .int .u8 x1.a2_, .int .u8 x1.a3_]] [] (.bool r) [] := by
  refine K.fn (fn := Try.f8) (by kernel_rfl) (by kernel_rfl) (by kernel_rfl) (by kernel_rfl) (by kernel_rfl) (fun F hFn hFH hFD => ?_)
  unfold exerguelaw08_CrcCuts at h
  refine K.seq (by kernel_rfl) ?_
  refine K.region (by kernel_rfl) ?_
  refine RJ.seg 2 [0, 3, 4] (L2 := [(0, lsv (encI .u8) 1 x0), (3, .ptr 0 0), (4, .bool false)]) (H2 := [.box [.int .u8 x1.a0_, .int .u8 x1.a1_, .int .u8 x1.a2_, .int .u8 x1.a3_]]) (by kernel_rfl) ?_
  refine RJ.end (by kernel_rfl) ?_
  refine PJ.next ?_
  refine K.seq (by kernel_rfl) ?_
  refine K.region (by kernel_rfl) ?_
  obtain ⟨y1, hy2, h3⟩ := bindS h
  refine RJ.call0 (d := (some 12)) (f := 10) (args := []) (v := .bool y1) (tr2 := []) (by kernel_rfl) (by kernel_rfl) .nil (exerguelaw08_shown_ok hy2) (by kernel_rfl) ?_
  refine RJ.seg 1 [0, 3, 4, 5] (L2 := [(0, lsv (encI .u8) 1 x0), (3, .ptr 0 0), (4, .bool false), (5, .bool y1)]) (H2 := [.box [.int .u8 x1.a0_, .int .u8 x1.a1_, .int .u8 x1.a2_, .int .u8 x1.a3_]]) (by kernel_rfl) ?_
  refine RJ.end (by kernel_rfl) ?_
  refine PJ.next ?_
  refine K.seq (by kernel_rfl) ?_
  refine K.seq (by kernel_rfl) ?_
  refine K.region (by kernel_rfl) ?_
  refine RJ.seg 3 [0, 3, 4, 5, 15] (L2 := [(0, lsv (encI .u8) 1 x0), (3, .ptr 0 0), (4, .bool false), (5, .bool y1), (15, .bool ((decide ((x0.length : Int) > 2000))))]) (H2 := [.box [.int .u8 x1.a0_, .int .u8 x1.a1_, .int .u8 x1.a2_, .int .u8 x1.a3_]]) (by kernel_rfl) ?_
  refine RJ.end (by kernel_rfl) ?_
  refine PJ.next ?_
  refine J.caseB 15 (b := (decide ((x0.length : Int) > 2000))) (by kernel_rfl) (fun hb4 => ?_) (fun hb4 => ?_)
  · have h5 := condT hb4 h3
    refine K.condT (by kernel_rfl) ?_
    refine K.seq (by kernel_rfl) ?_
    refine K.region (by kernel_rfl) ?_
    refine RJ.seg 2 [0, 3, 4, 5] (L2 := [(0, lsv (encI .u8) 1 x0), (3, .ptr 0 0), (4, .bool y1), (5, .bool y1)]) (H2 := [.box [.int .u8 x1.a0_, .int .u8 x1.a1_, .int .u8 x1.a2_, .int .u8 x1.a3_]]) (by kernel_rfl) ?_
    refine RJ.end (by kernel_rfl) ?_
    refine PJ.next ?_
    refine K.ret (by kernel_rfl) ?_
    refine PJ.passRet ?_
    obtain rfl := Option.some.inj h5
    exact K.ret0 (.inr rfl) hFn hFH hFD (by kernel_rfl) (by kernel_rfl) (by kernel_rfl)
  · have h6 := condF hb4 h3
    refine K.condF (by kernel_rfl) ?_
    refine K.skip (by kernel_rfl) ?_
    refine PJ.next ?_
    refine K.seq (by kernel_rfl) ?_
    refine J.keep [0, 3, 4, 5] (L2 := [(0, lsv (encI .u8) 1 x0), (3, .ptr 0 0), (4, .bool false), (5, .bool y1)]) (by kernel_rfl) ?_
    refine K.draw (by kernel_rfl) (by kernel_rfl) (by kernel_rfl) (H2 := [.box [.int .u8 x1.a0_, .int .u8 x1.a1_, .int .u8 x1.a2_, .int .u8 x1.a3_], .res, .res, .res, .res]) (by kernel_rfl) (n := 1) (by kernel_rfl) ?_
    refine RJ.segD 2 (tr2 := [([], [2, 3]), ([], [])]) (L2 := [(18, lsv (encI .u8) 1 x0), (17, .nl), (0, lsv (encI .u8) 1 x0), (3, .ptr 0 0), (4, .bool false), (5, .bool y1)]) (H2 := [.box [.int .u8 x1.a0_, .int .u8 x1.a1_, .int .u8 x1.a2_, .int .u8 x1.a3_], .res, .res, .res, .res]) (by kernel_rfl) ?_
    obtain ⟨hm, h7⟩ := asrt h6
    refine RJ.rel (d := (some 19)) (ef := ⟨.vc 2, [], [(2, .vec x0.length 1 5 (x0.flatMap (encI .u8)))]⟩) (ef' := ⟨.vc 2, [], [(2, .vec x0.length 1 5 (x0.flatMap (encI .u8)))]⟩) (c := roomB x0.length) (tr2 := [([], [2, 3]), ([], []), ([], [4, 5, 4, 5])]) (H2 := [.box [.int .u8 x1.a0_, .int .u8 x1.a1_, .int .u8 x1.a2_, .int .u8 x1.a3_], .res, vecL (encI .u8) 1 5 x0, .res, .res]) (by kernel_rfl) (roomB_of_room hm) (fun hc => rfl) (by kernel_rfl) ?_
    refine RJ.segD 9 (tr2 := [([], [2, 3]), ([], []), ([], [4, 5, 4, 5]), ([], []), ([0, 1], []), ([], []), ([0, 1], []), ([], []), ([0, 1], []), ([], []), ([0, 1], []), ([], [6, 7, 6, 7])]) (L2 := [(28, .vc 3), (27, .int .u8 x1.a3_), (26, .ptr 0 3), (25, .int .u8 x1.a2_), (24, .ptr 0 2), (23, .int .u8 x1.a1_), (22, .ptr 0 1), (21, .int .u8 x1.a0_), (20, .ptr 0 0), (19, .vc 2), (18, lsv (encI .u8) 1 x0), (17, .nl), (0, lsv (encI .u8) 1 x0), (3, .ptr 0 0), (4, .bool false), (5, .bool y1)]) (H2 := [.box [.int .u8 x1.a0_, .int .u8 x1.a1_, .int .u8 x1.a2_, .int .u8 x1.a3_], .res, vecL (encI .u8) 1 5 x0, vecL (encI .u8) 1 5 ([x1.a0_, x1.a1_, x1.a2_, x1.a3_] : List Int), .res]) (by kernel_rfl) ?_
    obtain ⟨hm, h8⟩ := asrt h7
    refine RJ.rel (d := (some 29)) (ef := ⟨.vc 4, [2, 3], [(2, .gone), (4, .vec (x0.length + ([x1.a0_, x1.a1_, x1.a2_, x1.a3_] : List Int).length) 1 5 (x0.flatMap (encI .u8) ++ ([x1.a0_, x1.a1_, x1.a2_, x1.a3_] : List Int).flatMap (encI .u8)))]⟩) (ef' := ⟨.vc 4, [2, 3], [(2, .gone), (4, vecL (encI .u8) 1 5 (x0 ++ ([x1.a0_, x1.a1_, x1.a2_, x1.a3_] : List Int)))]⟩) (c := roomB (x0.length + ([x1.a0_, x1.a1_, x1.a2_, x1.a3_] : List Int).length)) (tr2 := [([], [2, 3]), ([], []), ([], [4, 5, 4, 5]), ([], []), ([0, 1], []), ([], []), ([0, 1], []), ([], []), ([0, 1], []), ([], []), ([0, 1], []), ([], [6, 7, 6, 7]), ([4, 5, 6, 7], [4, 5, 8, 9, 8, 9])]) (H2 := [.box [.int .u8 x1.a0_, .int .u8 x1.a1_, .int .u8 x1.a2_, .int .u8 x1.a3_], .res, .gone, vecL (encI .u8) 1 5 ([x1.a0_, x1.a1_, x1.a2_, x1.a3_] : List Int), vecL (encI .u8) 1 5 (x0 ++ ([x1.a0_, x1.a1_, x1.a2_, x1.a3_] : List Int))]) (by kernel_rfl) (roomB_of_room hm) (fun hc => N.app) (by kernel_rfl) ?_
    refine RJ.segD 1 (tr2 := [([], [2, 3]), ([], []), ([], [4, 5, 4, 5]), ([], []), ([0, 1], []), ([], []), ([0, 1], []), ([], []), ([0, 1], []), ([], []), ([0, 1], []), ([], [6, 7, 6, 7]), ([4, 5, 6, 7], [4, 5, 8, 9, 8, 9]), ([], [])]) (L2 := [(6, .vc 4), (29, .vc 4), (28, .vc 3), (27, .int .u8 x1.a3_), (26, .ptr 0 3), (25, .int .u8 x1.a2_), (24, .ptr 0 2), (23, .int .u8 x1.a1_), (22, .ptr 0 1), (21, .int .u8 x1.a0_), (20, .ptr 0 0), (19, .vc 2), (18, lsv (encI .u8) 1 x0), (17, .nl), (0, lsv (encI .u8) 1 x0), (3, .ptr 0 0), (4, .bool false), (5, .bool y1)]) (H2 := [.box [.int .u8 x1.a0_, .int .u8 x1.a1_, .int .u8 x1.a2_, .int .u8 x1.a3_], .res, .gone, vecL (encI .u8) 1 5 ([x1.a0_, x1.a1_, x1.a2_, x1.a3_] : List Int), vecL (encI .u8) 1 5 (x0 ++ ([x1.a0_, x1.a1_, x1.a2_, x1.a3_] : List Int))]) (by kernel_rfl) ?_
    refine RJ.end (by kernel_rfl) ?_
    refine PJ.next ?_
    refine K.seq (by kernel_rfl) ?_
    refine K.region (by kernel_rfl) ?_
    refine RJ.seg 1 [0, 4, 5, 6, 31] (L2 := [(0, lsv (encI .u8) 1 x0), (4, .bool false), (5, .bool y1), (6, .vc 4), (31, .vc 4)]) (H2 := [.box [.int .u8 x1.a0_, .int .u8 x1.a1_, .int .u8 x1.a2_, .int .u8 x1.a3_], .res, .gone, vecL (encI .u8) 1 5 ([x1.a0_, x1.a1_, x1.a2_, x1.a3_] : List Int), vecL (encI .u8) 1 5 (x0 ++ ([x1.a0_, x1.a1_, x1.a2_, x1.a3_] : List Int))]) (by kernel_rfl) ?_
    obtain ⟨y9, hy10, h11⟩ := bindS h8
    refine RJ.wk (Wk.freeze 4 (n := (x0 ++ ([x1.a0_, x1.a1_, x1.a2_, x1.a3_] : List Int)).length) (k := 1) (e := 5) (cs := (x0 ++ ([x1.a0_, x1.a1_, x1.a2_, x1.a3_] : List Int)).flatMap (encI .u8)) (by kernel_rfl)) ?_
    refine RJ.call0 (d := (some 32)) (f := 11) (args := [lsv (encI .u8) 1 (x0 ++ ([x1.a0_, x1.a1_, x1.a2_, x1.a3_] : List Int))]) (v := .tup [lsv (encI .u8) 1 y9.1, .int .i64 y9.2]) (tr2 := []) (by kernel_rfl) (by kernel_rfl) (.cons (Le.refl _) .nil) (crc_Cut_ok hy10) (by kernel_rfl) ?_
    refine RJ.seg 5 [0, 4, 5, 6, 7, 8] (L2 := [(0, lsv (encI .u8) 1 x0), (4, .bool false), (5, .bool y1), (6, lsv (encI .u8) 1 (x0 ++ ([x1.a0_, x1.a1_, x1.a2_, x1.a3_] : List Int))), (7, lsv (encI .u8) 1 y9.1), (8, .int .i64 y9.2)]) (H2 := [.box [.int .u8 x1.a0_, .int .u8 x1.a1_, .int .u8 x1.a2_, .int .u8 x1.a3_], .res, .gone, vecL (encI .u8) 1 5 ([x1.a0_, x1.a1_, x1.a2_, x1.a3_] : List Int), .gone]) (by kernel_rfl) ?_
    refine RJ.end (by kernel_rfl) ?_
    refine PJ.next ?_
    refine K.seq (by kernel_rfl) ?_
    refine K.region (by kernel_rfl) ?_
    refine RJ.seg 2 [0, 4, 5, 7, 8, 35, 36] (L2 := [(0, lsv (encI .u8) 1 x0), (4, .bool false), (5, .bool y1), (7, lsv (encI .u8) 1 y9.1), (8, .int .i64 y9.2), (35, lsv (encI .u8) 1 (x0 ++ ([x1.a0_, x1.a1_, x1.a2_, x1.a3_] : List Int))), (36, lsv (encI .u8) 1 x0)]) (H2 := [.box [.int .u8 x1.a0_, .int .u8 x1.a1_, .int .u8 x1.a2_, .int .u8 x1.a3_], .res, .gone, vecL (encI .u8) 1 5 ([x1.a0_, x1.a1_, x1.a2_, x1.a3_] : List Int), .gone]) (by kernel_rfl) ?_
    obtain ⟨y12, hy13, h14⟩ := bindS h11
    refine RJ.callG (d := (some 37)) (f := 20) (args := [lsv (encI .u8) 1 x0]) (args0 := [lsv (encI .u8) 1 x0]) (v0 := .vc 0) (v := .vc 5) (tr2 := []) (H0 := []) (H0' := [vecL (encI .u8) 1 5 y12]) (H2 := [.box [.int .u8 x1.a0_, .int .u8 x1.a1_, .int .u8 x1.a2_, .int .u8 x1.a3_], .res, .gone, vecL (encI .u8) 1 5 ([x1.a0_, x1.a1_, x1.a2_, x1.a3_] : List Int), .gone, vecL (encI .u8) 1 5 y12]) [] (by kernel_rfl) (by kernel_rfl) (by kernel_rfl) (by kernel_rfl) (by decide) (by kernel_rfl) (by kernel_rfl) (by kernel_rfl) (.cons (Le.refl _) .nil) (crc_Put_ok_o hy13) (by kernel_rfl) (by kernel_rfl) (by kernel_rfl) ?_
    obtain ⟨y15, hy16, h17⟩ := bindS h14
    refine RJ.callL (d := (some 38)) (f := 19) (args := [lsv (encI .u8) 1 (x0 ++ ([x1.a0_, x1.a1_, x1.a2_, x1.a3_] : List Int)), .vc 5]) (args0 := [lsv (encI .u8) 1 (x0 ++ ([x1.a0_, x1.a1_, x1.a2_, x1.a3_] : List Int)), .vc 0]) (args1 := [lsv (encI .u8) 1 (x0 ++ ([x1.a0_, x1.a1_, x1.a2_, x1.a3_] : List Int)), lsv (encI .u8) 1 y12]) (H0 := [vecL (encI .u8) 1 5 y12]) (v := .bool y15) (tr2 := []) [5] (by kernel_rfl) (by kernel_rfl) (by kernel_rfl) (by kernel_rfl) (by decide) (by kernel_rfl) (by kernel_rfl) (by kernel_rfl) (by kernel_rfl) (.cons (Le.refl _) (.cons (Le.refl _) .nil)) (exergueref01_Row_ok hy16) (by kernel_rfl) (by kernel_rfl) ?_
    refine RJ.seg 1 [0, 4, 5, 7, 8, 9] (L2 := [(0, lsv (encI .u8) 1 x0), (4, .bool false), (5, .bool y1), (7, lsv (encI .u8) 1 y9.1), (8, .int .i64 y9.2), (9, .bool y15)]) (H2 := [.box [.int .u8 x1.a0_, .int .u8 x1.a1_, .int .u8 x1.a2_, .int .u8 x1.a3_], .res, .gone, vecL (encI .u8) 1 5 ([x1.a0_, x1.a1_, x1.a2_, x1.a3_] : List Int), .gone, vecL (encI .u8) 1 5 y12]) (by kernel_rfl) ?_
    refine RJ.end (by kernel_rfl) ?_
    refine PJ.next ?_
    refine K.seq (by kernel_rfl) ?_
    refine K.region (by kernel_rfl) ?_
    refine RJ.seg 4 [0, 4, 5, 7, 8, 9, 40, 43] (L2 := [(0, lsv (encI .u8) 1 x0), (4, .bool false), (5, .bool y1), (7, lsv (encI .u8) 1 y9.1), (8, .int .i64 y9.2), (9, .bool y15), (40, lsv (encI .u8) 1 x0), (43, .int .i64 (minI (x0.length : Int) 3))]) (H2 := [.box [.int .u8 x1.a0_, .int .u8 x1.a1_, .int .u8 x1.a2_, .int .u8 x1.a3_], .res, .gone, vecL (encI .u8) 1 5 ([x1.a0_, x1.a1_, x1.a2_, x1.a3_] : List Int), .gone, vecL (encI .u8) 1 5 y12]) (by kernel_rfl) ?_
    obtain ⟨hm, h18⟩ := asrt h17
    refine RJ.rel (d := (some 44)) (ef := ⟨.lst (((minI (x0.length : Int) 3) : Int).toNat - (0 : Int).toNat) 1 (((x0.flatMap (encI .u8)).take (((minI (x0.length : Int) 3) : Int).toNat * 1)).drop ((0 : Int).toNat * 1)), [], []⟩) (ef' := ⟨.lst (cut x0 0 (minI (x0.length : Int) 3)).length 1 ((cut x0 0 (minI (x0.length : Int) 3)).flatMap (encI .u8)), [], []⟩) (c := inS 0 (minI (x0.length : Int) 3) x0.length) (tr2 := []) (H2 := [.box [.int .u8 x1.a0_, .int .u8 x1.a1_, .int .u8 x1.a2_, .int .u8 x1.a3_], .res, .gone, vecL (encI .u8) 1 5 ([x1.a0_, x1.a1_, x1.a2_, x1.a3_] : List Int), .gone, vecL (encI .u8) 1 5 y12]) (by kernel_rfl) hm (fun hc => N.slice (encI_len .u8) hc) (by kernel_rfl) ?_
    obtain ⟨y19, hy20, h21⟩ := bindS h18
    refine RJ.call0 (d := (some 45)) (f := 11) (args := [lsv (encI .u8) 1 ((cut x0 0 (minI (x0.length : Int) 3)))]) (v := .tup [lsv (encI .u8) 1 y19.1, .int .i64 y19.2]) (tr2 := []) (by kernel_rfl) (by kernel_rfl) (.cons (Le.refl _) .nil) (crc_Cut_ok hy20) (by kernel_rfl) ?_
    refine RJ.seg 5 [0, 4, 5, 7, 8, 9, 10, 11] (L2 := [(0, lsv (encI .u8) 1 x0), (4, .bool false), (5, .bool y1), (7, lsv (encI .u8) 1 y9.1), (8, .int .i64 y9.2), (9, .bool y15), (10, lsv (encI .u8) 1 y19.1), (11, .int .i64 y19.2)]) (H2 := [.box [.int .u8 x1.a0_, .int .u8 x1.a1_, .int .u8 x1.a2_, .int .u8 x1.a3_], .res, .gone, vecL (encI .u8) 1 5 ([x1.a0_, x1.a1_, x1.a2_, x1.a3_] : List Int), .gone, vecL (encI .u8) 1 5 y12]) (by kernel_rfl) ?_
    refine RJ.end (by kernel_rfl) ?_
    refine PJ.next ?_
    obtain ⟨s67, hy69, h71⟩ := bindS h21
    refine K.cutN (by kernel_rfl) (fun (s67 : Bool) => ([(4, .bool s67)], [])) s67 ?_ ?_
    · refine K.region (by kernel_rfl) ?_
      refine RJ.seg 2 [0, 4, 7, 8, 9, 10, 11, 49] (L2 := [(0, lsv (encI .u8) 1 x0), (4, .bool false), (7, lsv (encI .u8) 1 y9.1), (8, .int .i64 y9.2), (9, .bool y15), (10, lsv (encI .u8) 1 y19.1), (11, .int .i64 y19.2), (49, .bool y1)]) (H2 := [.box [.int .u8 x1.a0_, .int .u8 x1.a1_, .int .u8 x1.a2_, .int .u8 x1.a3_], .res, .gone, vecL (encI .u8) 1 5 ([x1.a0_, x1.a1_, x1.a2_, x1.a3_] : List Int), .gone, vecL (encI .u8) 1 5 y12]) (by kernel_rfl) ?_
      refine RJ.caseB 49 (b := y1) (by kernel_rfl) (fun hb72 => ?_) (fun hb72 => ?_)
      · have h73 := condT hb72 hy69
        refine RJ.seg 6 [0, 4, 7, 8, 9, 10, 11, 55] (L2 := [(0, lsv (encI .u8) 1 x0), (4, .bool false), (7, lsv (encI .u8) 1 y9.1), (8, .int .i64 y9.2), (9, .bool y15), (10, lsv (encI .u8) 1 y19.1), (11, .int .i64 y19.2), (55, .bool (((decide (y9.2 = 0)) == y15)))]) (H2 := [.box [.int .u8 x1.a0_, .int .u8 x1.a1_, .int .u8 x1.a2_, .int .u8 x1.a3_], .res, .gone, vecL (encI .u8) 1 5 ([x1.a0_, x1.a1_, x1.a2_, x1.a3_] : List Int), .gone, vecL (encI .u8) 1 5 y12]) (by kernel_rfl) ?_
        refine RJ.caseB 55 (b := ((decide (y9.2 = 0)) == y15)) (by kernel_rfl) (fun hb75 => ?_) (fun hb75 => ?_)
        · have h76 := condT hb75 h73
          refine RJ.seg 3 [0, 4, 7, 8, 9, 10, 11, 55, 58] (L2 := [(0, lsv (encI .u8) 1 x0), (4, .bool false), (7, lsv (encI .u8) 1 y9.1), (8, .int .i64 y9.2), (9, .bool y15), (10, lsv (encI .u8) 1 y19.1), (11, .int .i64 y19.2), (55, .bool true), (58, .bool (!y15))]) (H2 := [.box [.int .u8 x1.a0_, .int .u8 x1.a1_, .int .u8 x1.a2_, .int .u8 x1.a3_], .res, .gone, vecL (encI .u8) 1 5 ([x1.a0_, x1.a1_, x1.a2_, x1.a3_] : List Int), .gone, vecL (encI .u8) 1 5 y12]) (by kernel_rfl) ?_
          refine RJ.caseB 58 (b := (!y15)) (by kernel_rfl) (fun hb78 => ?_) (fun hb78 => ?_)
          · have h79 := condT hb78 h76
            refine RJ.seg 8 [4, 7, 8, 10, 11, 64, 66] (L2 := [(4, .bool false), (7, lsv (encI .u8) 1 y9.1), (8, .int .i64 y9.2), (10, lsv (encI .u8) 1 y19.1), (11, .int .i64 y19.2), (64, .bool true), (66, .bool y15)]) (H2 := [.box [.int .u8 x1.a0_, .int .u8 x1.a1_, .int .u8 x1.a2_, .int .u8 x1.a3_], .res, .gone, vecL (encI .u8) 1 5 ([x1.a0_, x1.a1_, x1.a2_, x1.a3_] : List Int), .gone, vecL (encI .u8) 1 5 y12]) (by kernel_rfl) ?_
            refine RJ.caseB 66 (b := y15) (by kernel_rfl) (fun hb81 => ?_) (fun hb81 => ?_)
            · have h82 := condT hb81 h79
              refine RJ.seg 14 [4, 10, 80] (L2 := [(4, .bool false), (10, lsv (encI .u8) 1 y19.1), (80, .bool (decide (y19.2 = 2)))]) (H2 := [.box [.int .u8 x1.a0_, .int .u8 x1.a1_, .int .u8 x1.a2_, .int .u8 x1.a3_], .res, .gone, vecL (encI .u8) 1 5 ([x1.a0_, x1.a1_, x1.a2_, x1.a3_] : List Int), .gone, vecL (encI .u8) 1 5 y12]) (by kernel_rfl) ?_
              refine RJ.caseB 80 (b := (decide (y19.2 = 2))) (by kernel_rfl) (fun hb84 => ?_) (fun hb84 => ?_)
              · have h85 := condT hb84 h82
                refine RJ.seg 5 [4] (L2 := [(4, .bool ((decide ((y19.1.length : Int) = 0))))]) (H2 := [.box [.int .u8 x1.a0_, .int .u8 x1.a1_, .int .u8 x1.a2_, .int .u8 x1.a3_], .res, .gone, vecL (encI .u8) 1 5 ([x1.a0_, x1.a1_, x1.a2_, x1.a3_] : List Int), .gone, vecL (encI .u8) 1 5 y12]) (by kernel_rfl) ?_
                refine RJ.end (by kernel_rfl) ?_
                obtain rfl := Option.some.inj h85
                refine PJ.wk (Wk.sel (L2 := [(4, .bool ((decide ((y19.1.length : Int) = 0))))]) (H2 := []) 0 (by rw [hFH]; rfl) hFD [] (by kernel_rfl) (by kernel_rfl) (by decide) (by kernel_rfl) (by kernel_rfl) (by kernel_rfl) (by kernel_rfl)) ?_
                exact PJ.cutN [4] (by kernel_rfl) (by kernel_rfl)
              · have h86 := condF hb84 h82
                refine RJ.seg 5 [4] (L2 := [(4, .bool false)]) (H2 := [.box [.int .u8 x1.a0_, .int .u8 x1.a1_, .int .u8 x1.a2_, .int .u8 x1.a3_], .res, .gone, vecL (encI .u8) 1 5 ([x1.a0_, x1.a1_, x1.a2_, x1.a3_] : List Int), .gone, vecL (encI .u8) 1 5 y12]) (by kernel_rfl) ?_
                refine RJ.end (by kernel_rfl) ?_
                obtain rfl := Option.some.inj h86
                refine PJ.wk (Wk.sel (L2 := [(4, .bool false)]) (H2 := []) 0 (by rw [hFH]; rfl) hFD [] (by kernel_rfl) (by kernel_rfl) (by decide) (by kernel_rfl) (by kernel_rfl) (by kernel_rfl) (by kernel_rfl)) ?_
                exact PJ.cutN [4] (by kernel_rfl) (by kernel_rfl)
            · have h83 := condF hb81 h79
              refine RJ.seg 3 [4, 7, 10, 11, 64, 66, 69] (L2 := [(4, .bool false), (7, lsv (encI .u8) 1 y9.1), (10, lsv (encI .u8) 1 y19.1), (11, .int .i64 y19.2), (64, .bool true), (66, .bool false), (69, .bool (decide (y9.2 = 6)))]) (H2 := [.box [.int .u8 x1.a0_, .int .u8 x1.a1_, .int .u8 x1.a2_, .int .u8 x1.a3_], .res, .gone, vecL (encI .u8) 1 5 ([x1.a0_, x1.a1_, x1.a2_, x1.a3_] : List Int), .gone, vecL (encI .u8) 1 5 y12]) (by kernel_rfl) ?_
              refine RJ.caseB 69 (b := (decide (y9.2 = 6))) (by kernel_rfl) (fun hb87 => ?_) (fun hb87 => ?_)
              · have h88 := condT hb87 h83
                refine RJ.seg 7 [4, 10, 11, 76] (L2 := [(4, .bool false), (10, lsv (encI .u8) 1 y19.1), (11, .int .i64 y19.2), (76, .bool ((decide ((y9.1.length : Int) = 0))))]) (H2 := [.box [.int .u8 x1.a0_, .int .u8 x1.a1_, .int .u8 x1.a2_, .int .u8 x1.a3_], .res, .gone, vecL (encI .u8) 1 5 ([x1.a0_, x1.a1_, x1.a2_, x1.a3_] : List Int), .gone, vecL (encI .u8) 1 5 y12]) (by kernel_rfl) ?_
                refine RJ.caseB 76 (b := (decide ((y9.1.length : Int) = 0))) (by kernel_rfl) (fun hb90 => ?_) (fun hb90 => ?_)
                · have h91 := condT hb90 h88
                  refine RJ.seg 4 [4, 10, 80] (L2 := [(4, .bool false), (10, lsv (encI .u8) 1 y19.1), (80, .bool (decide (y19.2 = 2)))]) (H2 := [.box [.int .u8 x1.a0_, .int .u8 x1.a1_, .int .u8 x1.a2_, .int .u8 x1.a3_], .res, .gone, vecL (encI .u8) 1 5 ([x1.a0_, x1.a1_, x1.a2_, x1.a3_] : List Int), .gone, vecL (encI .u8) 1 5 y12]) (by kernel_rfl) ?_
                  refine RJ.caseB 80 (b := (decide (y19.2 = 2))) (by kernel_rfl) (fun hb93 => ?_) (fun hb93 => ?_)
                  · have h94 := condT hb93 h91
                    refine RJ.seg 5 [4] (L2 := [(4, .bool ((decide ((y19.1.length : Int) = 0))))]) (H2 := [.box [.int .u8 x1.a0_, .int .u8 x1.a1_, .int .u8 x1.a2_, .int .u8 x1.a3_], .res, .gone, vecL (encI .u8) 1 5 ([x1.a0_, x1.a1_, x1.a2_, x1.a3_] : List Int), .gone, vecL (encI .u8) 1 5 y12]) (by kernel_rfl) ?_
                    refine RJ.end (by kernel_rfl) ?_
                    obtain rfl := Option.some.inj h94
                    refine PJ.wk (Wk.sel (L2 := [(4, .bool ((decide ((y19.1.length : Int) = 0))))]) (H2 := []) 0 (by rw [hFH]; rfl) hFD [] (by kernel_rfl) (by kernel_rfl) (by decide) (by kernel_rfl) (by kernel_rfl) (by kernel_rfl) (by kernel_rfl)) ?_
                    exact PJ.cutN [4] (by kernel_rfl) (by kernel_rfl)
                  · have h95 := condF hb93 h91
                    refine RJ.seg 5 [4] (L2 := [(4, .bool false)]) (H2 := [.box [.int .u8 x1.a0_, .int .u8 x1.a1_, .int .u8 x1.a2_, .int .u8 x1.a3_], .res, .gone, vecL (encI .u8) 1 5 ([x1.a0_, x1.a1_, x1.a2_, x1.a3_] : List Int), .gone, vecL (encI .u8) 1 5 y12]) (by kernel_rfl) ?_
                    refine RJ.end (by kernel_rfl) ?_
                    obtain rfl := Option.some.inj h95
                    refine PJ.wk (Wk.sel (L2 := [(4, .bool false)]) (H2 := []) 0 (by rw [hFH]; rfl) hFD [] (by kernel_rfl) (by kernel_rfl) (by decide) (by kernel_rfl) (by kernel_rfl) (by kernel_rfl) (by kernel_rfl)) ?_
                    exact PJ.cutN [4] (by kernel_rfl) (by kernel_rfl)
                · have h92 := condF hb90 h88
                  refine RJ.seg 9 [4] (L2 := [(4, .bool false)]) (H2 := [.box [.int .u8 x1.a0_, .int .u8 x1.a1_, .int .u8 x1.a2_, .int .u8 x1.a3_], .res, .gone, vecL (encI .u8) 1 5 ([x1.a0_, x1.a1_, x1.a2_, x1.a3_] : List Int), .gone, vecL (encI .u8) 1 5 y12]) (by kernel_rfl) ?_
                  refine RJ.end (by kernel_rfl) ?_
                  obtain rfl := Option.some.inj h92
                  refine PJ.wk (Wk.sel (L2 := [(4, .bool false)]) (H2 := []) 0 (by rw [hFH]; rfl) hFD [] (by kernel_rfl) (by kernel_rfl) (by decide) (by kernel_rfl) (by kernel_rfl) (by kernel_rfl) (by kernel_rfl)) ?_
                  exact PJ.cutN [4] (by kernel_rfl) (by kernel_rfl)
              · have h89 := condF hb87 h83
                refine RJ.seg 16 [4] (L2 := [(4, .bool false)]) (H2 := [.box [.int .u8 x1.a0_, .int .u8 x1.a1_, .int .u8 x1.a2_, .int .u8 x1.a3_], .res, .gone, vecL (encI .u8) 1 5 ([x1.a0_, x1.a1_, x1.a2_, x1.a3_] : List Int), .gone, vecL (encI .u8) 1 5 y12]) (by kernel_rfl) ?_
                refine RJ.end (by kernel_rfl) ?_
                obtain rfl := Option.some.inj h89
                refine PJ.wk (Wk.sel (L2 := [(4, .bool false)]) (H2 := []) 0 (by rw [hFH]; rfl) hFD [] (by kernel_rfl) (by kernel_rfl) (by decide) (by kernel_rfl) (by kernel_rfl) (by kernel_rfl) (by kernel_rfl)) ?_
                exact PJ.cutN [4] (by kernel_rfl) (by kernel_rfl)
          · have h80 := condF hb78 h76
            refine RJ.seg 2 [4, 7, 8, 9, 10, 11, 55, 58, 59, 60] (L2 := [(4, .bool false), (7, lsv (encI .u8) 1 y9.1), (8, .int .i64 y9.2), (9, .bool y15), (10, lsv (encI .u8) 1 y19.1), (11, .int .i64 y19.2), (55, .bool true), (58, .bool false), (59, lsv (encI .u8) 1 y9.1), (60, lsv (encI .u8) 1 x0)]) (H2 := [.box [.int .u8 x1.a0_, .int .u8 x1.a1_, .int .u8 x1.a2_, .int .u8 x1.a3_], .res, .gone, vecL (encI .u8) 1 5 ([x1.a0_, x1.a1_, x1.a2_, x1.a3_] : List Int), .gone, vecL (encI .u8) 1 5 y12]) (by kernel_rfl) ?_
            obtain ⟨y96, hy97, h98⟩ := bindS h80
            refine RJ.call0 (d := (some 61)) (f := 19) (args := [lsv (encI .u8) 1 y9.1, lsv (encI .u8) 1 x0]) (v := .bool y96) (tr2 := []) (by kernel_rfl) (by kernel_rfl) (.cons (Le.refl _) (.cons (Le.refl _) .nil)) (exergueref01_Row_ok hy97) (by kernel_rfl) ?_
            refine RJ.seg 3 [4, 7, 8, 9, 10, 11, 64] (L2 := [(4, .bool false), (7, lsv (encI .u8) 1 y9.1), (8, .int .i64 y9.2), (9, .bool y15), (10, lsv (encI .u8) 1 y19.1), (11, .int .i64 y19.2), (64, .bool y96)]) (H2 := [.box [.int .u8 x1.a0_, .int .u8 x1.a1_, .int .u8 x1.a2_, .int .u8 x1.a3_], .res, .gone, vecL (encI .u8) 1 5 ([x1.a0_, x1.a1_, x1.a2_, x1.a3_] : List Int), .gone, vecL (encI .u8) 1 5 y12]) (by kernel_rfl) ?_
            refine RJ.caseB 64 (b := y96) (by kernel_rfl) (fun hb99 => ?_) (fun hb99 => ?_)
            · have h100 := condT hb99 h98
              refine RJ.seg 2 [4, 7, 8, 10, 11, 64, 66] (L2 := [(4, .bool false), (7, lsv (encI .u8) 1 y9.1), (8, .int .i64 y9.2), (10, lsv (encI .u8) 1 y19.1), (11, .int .i64 y19.2), (64, .bool true), (66, .bool y15)]) (H2 := [.box [.int .u8 x1.a0_, .int .u8 x1.a1_, .int .u8 x1.a2_, .int .u8 x1.a3_], .res, .gone, vecL (encI .u8) 1 5 ([x1.a0_, x1.a1_, x1.a2_, x1.a3_] : List Int), .gone, vecL (encI .u8) 1 5 y12]) (by kernel_rfl) ?_
              refine RJ.caseB 66 (b := y15) (by kernel_rfl) (fun hb102 => ?_) (fun hb102 => ?_)
              · have h103 := condT hb102 h100
                refine RJ.seg 14 [4, 10, 80] (L2 := [(4, .bool false), (10, lsv (encI .u8) 1 y19.1), (80, .bool (decide (y19.2 = 2)))]) (H2 := [.box [.int .u8 x1.a0_, .int .u8 x1.a1_, .int .u8 x1.a2_, .int .u8 x1.a3_], .res, .gone, vecL (encI .u8) 1 5 ([x1.a0_, x1.a1_, x1.a2_, x1.a3_] : List Int), .gone, vecL (encI .u8) 1 5 y12]) (by kernel_rfl) ?_
                refine RJ.caseB 80 (b := (decide (y19.2 = 2))) (by kernel_rfl) (fun hb105 => ?_) (fun hb105 => ?_)
                · have h106 := condT hb105 h103
                  refine RJ.seg 5 [4] (L2 := [(4, .bool ((decide ((y19.1.length : Int) = 0))))]) (H2 := [.box [.int .u8 x1.a0_, .int .u8 x1.a1_, .int .u8 x1.a2_, .int .u8 x1.a3_], .res, .gone, vecL (encI .u8) 1 5 ([x1.a0_, x1.a1_, x1.a2_, x1.a3_] : List Int), .gone, vecL (encI .u8) 1 5 y12]) (by kernel_rfl) ?_
                  refine RJ.end (by kernel_rfl) ?_
                  obtain rfl := Option.some.inj h106
                  refine PJ.wk (Wk.sel (L2 := [(4, .bool ((decide ((y19.1.length : Int) = 0))))]) (H2 := []) 0 (by rw [hFH]; rfl) hFD [] (by kernel_rfl) (by kernel_rfl) (by decide) (by kernel_rfl) (by kernel_rfl) (by kernel_rfl) (by kernel_rfl)) ?_
                  exact PJ.cutN [4] (by kernel_rfl) (by kernel_rfl)
                · have h107 := condF hb105 h103
                  refine RJ.seg 5 [4] (L2 := [(4, .bool false)]) (H2 := [.box [.int .u8 x1.a0_, .int .u8 x1.a1_, .int .u8 x1.a2_, .int .u8 x1.a3_], .res, .gone, vecL (encI .u8) 1 5 ([x1.a0_, x1.a1_, x1.a2_, x1.a3_] : List Int), .gone, vecL (encI .u8) 1 5 y12]) (by kernel_rfl) ?_
                  refine RJ.end (by kernel_rfl) ?_
                  obtain rfl := Option.some.inj h107
                  refine PJ.wk (Wk.sel (L2 := [(4, .bool false)]) (H2 := []) 0 (by rw [hFH]; rfl) hFD [] (by kernel_rfl) (by kernel_rfl) (by decide) (by kernel_rfl) (by kernel_rfl) (by kernel_rfl) (by kernel_rfl)) ?_
                  exact PJ.cutN [4] (by kernel_rfl) (by kernel_rfl)
              · have h104 := condF hb102 h100
                refine RJ.seg 3 [4, 7, 10, 11, 64, 66, 69] (L2 := [(4, .bool false), (7, lsv (encI .u8) 1 y9.1), (10, lsv (encI .u8) 1 y19.1), (11, .int .i64 y19.2), (64, .bool true), (66, .bool false), (69, .bool (decide (y9.2 = 6)))]) (H2 := [.box [.int .u8 x1.a0_, .int .u8 x1.a1_, .int .u8 x1.a2_, .int .u8 x1.a3_], .res, .gone, vecL (encI .u8) 1 5 ([x1.a0_, x1.a1_, x1.a2_, x1.a3_] : List Int), .gone, vecL (encI .u8) 1 5 y12]) (by kernel_rfl) ?_
                refine RJ.caseB 69 (b := (decide (y9.2 = 6))) (by kernel_rfl) (fun hb108 => ?_) (fun hb108 => ?_)
                · have h109 := condT hb108 h104
                  refine RJ.seg 7 [4, 10, 11, 76] (L2 := [(4, .bool false), (10, lsv (encI .u8) 1 y19.1), (11, .int .i64 y19.2), (76, .bool ((decide ((y9.1.length : Int) = 0))))]) (H2 := [.box [.int .u8 x1.a0_, .int .u8 x1.a1_, .int .u8 x1.a2_, .int .u8 x1.a3_], .res, .gone, vecL (encI .u8) 1 5 ([x1.a0_, x1.a1_, x1.a2_, x1.a3_] : List Int), .gone, vecL (encI .u8) 1 5 y12]) (by kernel_rfl) ?_
                  refine RJ.caseB 76 (b := (decide ((y9.1.length : Int) = 0))) (by kernel_rfl) (fun hb111 => ?_) (fun hb111 => ?_)
                  · have h112 := condT hb111 h109
                    refine RJ.seg 4 [4, 10, 80] (L2 := [(4, .bool false), (10, lsv (encI .u8) 1 y19.1), (80, .bool (decide (y19.2 = 2)))]) (H2 := [.box [.int .u8 x1.a0_, .int .u8 x1.a1_, .int .u8 x1.a2_, .int .u8 x1.a3_], .res, .gone, vecL (encI .u8) 1 5 ([x1.a0_, x1.a1_, x1.a2_, x1.a3_] : List Int), .gone, vecL (encI .u8) 1 5 y12]) (by kernel_rfl) ?_
                    refine RJ.caseB 80 (b := (decide (y19.2 = 2))) (by kernel_rfl) (fun hb114 => ?_) (fun hb114 => ?_)
                    · have h115 := condT hb114 h112
                      refine RJ.seg 5 [4] (L2 := [(4, .bool ((decide ((y19.1.length : Int) = 0))))]) (H2 := [.box [.int .u8 x1.a0_, .int .u8 x1.a1_, .int .u8 x1.a2_, .int .u8 x1.a3_], .res, .gone, vecL (encI .u8) 1 5 ([x1.a0_, x1.a1_, x1.a2_, x1.a3_] : List Int), .gone, vecL (encI .u8) 1 5 y12]) (by kernel_rfl) ?_
                      refine RJ.end (by kernel_rfl) ?_
                      obtain rfl := Option.some.inj h115
                      refine PJ.wk (Wk.sel (L2 := [(4, .bool ((decide ((y19.1.length : Int) = 0))))]) (H2 := []) 0 (by rw [hFH]; rfl) hFD [] (by kernel_rfl) (by kernel_rfl) (by decide) (by kernel_rfl) (by kernel_rfl) (by kernel_rfl) (by kernel_rfl)) ?_
                      exact PJ.cutN [4] (by kernel_rfl) (by kernel_rfl)
                    · have h116 := condF hb114 h112
                      refine RJ.seg 5 [4] (L2 := [(4, .bool false)]) (H2 := [.box [.int .u8 x1.a0_, .int .u8 x1.a1_, .int .u8 x1.a2_, .int .u8 x1.a3_], .res, .gone, vecL (encI .u8) 1 5 ([x1.a0_, x1.a1_, x1.a2_, x1.a3_] : List Int), .gone, vecL (encI .u8) 1 5 y12]) (by kernel_rfl) ?_
                      refine RJ.end (by kernel_rfl) ?_
                      obtain rfl := Option.some.inj h116
                      refine PJ.wk (Wk.sel (L2 := [(4, .bool false)]) (H2 := []) 0 (by rw [hFH]; rfl) hFD [] (by kernel_rfl) (by kernel_rfl) (by decide) (by kernel_rfl) (by kernel_rfl) (by kernel_rfl) (by kernel_rfl)) ?_
                      exact PJ.cutN [4] (by kernel_rfl) (by kernel_rfl)
                  · have h113 := condF hb111 h109
                    refine RJ.seg 9 [4] (L2 := [(4, .bool false)]) (H2 := [.box [.int .u8 x1.a0_, .int .u8 x1.a1_, .int .u8 x1.a2_, .int .u8 x1.a3_], .res, .gone, vecL (encI .u8) 1 5 ([x1.a0_, x1.a1_, x1.a2_, x1.a3_] : List Int), .gone, vecL (encI .u8) 1 5 y12]) (by kernel_rfl) ?_
                    refine RJ.end (by kernel_rfl) ?_
                    obtain rfl := Option.some.inj h113
                    refine PJ.wk (Wk.sel (L2 := [(4, .bool false)]) (H2 := []) 0 (by rw [hFH]; rfl) hFD [] (by kernel_rfl) (by kernel_rfl) (by decide) (by kernel_rfl) (by kernel_rfl) (by kernel_rfl) (by kernel_rfl)) ?_
                    exact PJ.cutN [4] (by kernel_rfl) (by kernel_rfl)
                · have h110 := condF hb108 h104
                  refine RJ.seg 16 [4] (L2 := [(4, .bool false)]) (H2 := [.box [.int .u8 x1.a0_, .int .u8 x1.a1_, .int .u8 x1.a2_, .int .u8 x1.a3_], .res, .gone, vecL (encI .u8) 1 5 ([x1.a0_, x1.a1_, x1.a2_, x1.a3_] : List Int), .gone, vecL (encI .u8) 1 5 y12]) (by kernel_rfl) ?_
                  refine RJ.end (by kernel_rfl) ?_
                  obtain rfl := Option.some.inj h110
                  refine PJ.wk (Wk.sel (L2 := [(4, .bool false)]) (H2 := []) 0 (by rw [hFH]; rfl) hFD [] (by kernel_rfl) (by kernel_rfl) (by decide) (by kernel_rfl) (by kernel_rfl) (by kernel_rfl) (by kernel_rfl)) ?_
                  exact PJ.cutN [4] (by kernel_rfl) (by kernel_rfl)
            · have h101 := condF hb99 h98
              refine RJ.seg 21 [4] (L2 := [(4, .bool false)]) (H2 := [.box [.int .u8 x1.a0_, .int .u8 x1.a1_, .int .u8 x1.a2_, .int .u8 x1.a3_], .res, .gone, vecL (encI .u8) 1 5 ([x1.a0_, x1.a1_, x1.a2_, x1.a3_] : List Int), .gone, vecL (encI .u8) 1 5 y12]) (by kernel_rfl) ?_
              refine RJ.end (by kernel_rfl) ?_
              obtain rfl := Option.some.inj h101
              refine PJ.wk (Wk.sel (L2 := [(4, .bool false)]) (H2 := []) 0 (by rw [hFH]; rfl) hFD [] (by kernel_rfl) (by kernel_rfl) (by decide) (by kernel_rfl) (by kernel_rfl) (by kernel_rfl) (by kernel_rfl)) ?_
              exact PJ.cutN [4] (by kernel_rfl) (by kernel_rfl)
        · have h77 := condF hb75 h73
          refine RJ.seg 30 [4] (L2 := [(4, .bool false)]) (H2 := [.box [.int .u8 x1.a0_, .int .u8 x1.a1_, .int .u8 x1.a2_, .int .u8 x1.a3_], .res, .gone, vecL (encI .u8) 1 5 ([x1.a0_, x1.a1_, x1.a2_, x1.a3_] : List Int), .gone, vecL (encI .u8) 1 5 y12]) (by kernel_rfl) ?_
          refine RJ.end (by kernel_rfl) ?_
          obtain rfl := Option.some.inj h77
          refine PJ.wk (Wk.sel (L2 := [(4, .bool false)]) (H2 := []) 0 (by rw [hFH]; rfl) hFD [] (by kernel_rfl) (by kernel_rfl) (by decide) (by kernel_rfl) (by kernel_rfl) (by kernel_rfl) (by kernel_rfl)) ?_
          exact PJ.cutN [4] (by kernel_rfl) (by kernel_rfl)
      · have h74 := condF hb72 hy69
        refine RJ.seg 36 [4] (L2 := [(4, .bool false)]) (H2 := [.box [.int .u8 x1.a0_, .int .u8 x1.a1_, .int .u8 x1.a2_, .int .u8 x1.a3_], .res, .gone, vecL (encI .u8) 1 5 ([x1.a0_, x1.a1_, x1.a2_, x1.a3_] : List Int), .gone, vecL (encI .u8) 1 5 y12]) (by kernel_rfl) ?_
        refine RJ.end (by kernel_rfl) ?_
        obtain rfl := Option.some.inj h74
        refine PJ.wk (Wk.sel (L2 := [(4, .bool false)]) (H2 := []) 0 (by rw [hFH]; rfl) hFD [] (by kernel_rfl) (by kernel_rfl) (by decide) (by kernel_rfl) (by kernel_rfl) (by kernel_rfl) (by kernel_rfl)) ?_
        exact PJ.cutN [4] (by kernel_rfl) (by kernel_rfl)
    · refine K.ret (by kernel_rfl) ?_
      obtain rfl := Option.some.inj h71
      exact K.ret0 (.inr rfl) hFn hFH hFD (by kernel_rfl) (by kernel_rfl) (by kernel_rfl)

end Go.Proofs.Ytlabcjijjeeobaa
